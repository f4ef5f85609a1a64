import PyProof.Rows.All
import Wide.All
import OpenK.AllK
import Wide.FinOn
import Lean
import PyProof.EqAt
import PyProof.EqKinds
import PyProof.TupleCall
import PySem.Challenge.RW_talkcourt_k29_steps_written
set_option Elab.async false
set_option linter.all false
set_option compiler.extract_closed false
set_option maxRecDepth 100000
set_option maxHeartbeats 8000000
theorem zzN:¬ (false=true):=Bool.false_ne_true
theorem zzB:(false=true)=False:=Bool.false_eq_true
theorem zzC {α:Type _} {a:α} {l:List α}:(a::l).length=l.length+1:=rfl
theorem zzL {α:Type _}:([]:List α).length=0:=rfl
theorem zzA (n:Nat):0+n=n:=Nat.zero_add n
theorem zzM {α β:Type _} {l:List α} {f:α->β}:(l.map f).length=l.length:=List.length_map f
theorem zzP {α β:Type _} {b:β} {l:List α} {f:α->β} (h:b∈l.map f):∃ a,a∈l/\f a=b:=List.mem_map.mp h
theorem zzS {α:Type _} {l:List α}:l.toArray.size=l.length:=List.size_toArray
theorem zzR (n:Nat):n<=n:=Nat.le_refl n
theorem zzO {α:Type _} {a b:α} (h:a∈[b]):a=b:=List.mem_singleton.mp h
theorem zzT {α:Type _} {a:α} {l:List α}:a∈a::l:=List.mem_cons_self
theorem zzU {α β:Type _} {a:α} {l:List α} {f:α->β}:(a::l).map f=f a::l.map f:=rfl
theorem zzV {α β:Type _} {f:α->β}:([]:List α).map f=[]:=rfl
theorem zzW {α:Type _} {l l':List α}:(l++l').length=l.length+l'.length:=List.length_append
open PySem.Heap renaming get?_push_of_some→Za, lt_size→Zi, get?_push_size→Zk, get?_update_self→Zx, size_push→ZJ, get?_update_other→ZW, size_after_update→Zaj
open PySem renaming wpAny_bind→Zb, wpAny_pure→Zg, sizeLine_eq→ZI, wpAny_holding→ZK, wpAny_loadPart'→ZN, wpAny_truthy_bool→ZP, wpAny_callSpecial?_slot→ZU, wpAny_call_entry→ZY, wpAny_Call_Name_kw→Z9, wpAny_mono→Zaa, strLen_append→Zac, call_meets→Zae, wpAny_newObj_type→Zaf, wpAny_passesOwn→Zav, mem_of_lookup→Zaz, wpAny_getItem_str_slice→ZaA, wpAny_updateSeq→ZaJ, wpAny_binaryOp_repeat_ref→ZaP, tupleKind_room_in1→Za2, typeIs_str→Za7, wpAny_pyIter_list→Za8, wpAny_sequenceKey→Za9, wpAny_standAt→Zbp, typeIs_int→Zbq, length_partsBetween→Zbv, post_val_or_str→Zbw, pushCells_keeps→Zbx, wpAny_field→Zby, wpAny_specialOf→Zbz, wpAny_typeOf→ZbE, wpAny_onRaise→ZbN, noFill_tuple_add→ZbT, wpAny_execs_nil→ZbZ, evalPart_none→Zb4, plainId_quiet→Zb5, seq_tuple_add→Zb6
open List renaming mem_cons_of_mem→Zc, mem_cons→Zd, length_cons→Zf, getElem?_eq_some_iff→Zh, getElem?_eq_getElem→Zj, mem_of_getElem?→Zo, getElem?_map→Zp, length_nil→Zs, mem_append_right→Zt, length_reverse→Zw, take_succ_eq_append_getElem→Zy, not_mem_nil→ZB, append_nil→ZC, mem_append→ZD, lookup_cons→ZE, getElem?_cons_zero→ZF, map_append→ZG, all_eq_true→ZL, eq_nil_of_length_eq_zero→ZM, reverse_cons→ZO, replicate_succ→ZQ, getElem?_cons_succ→ZT, getElem?_append_right→ZV, length_drop→ZX, append_assoc→ZZ, find?_cons→Z0, mem_singleton→Z1, length_take→Z3, take_of_length_le→Z4, getElem?_append_left→Z6, cons_append→Zab, nil_append→Zah, getElem_mem→Zak, take_length→Zal, set_cons_zero→Zam, zip_cons_cons→Zan, mem_append_left→Zar, flatten_cons→Zas, nodup_cons→Zat, any_cons→Zaw, filterMap_cons→Zax, length_zipWith→Zay, length_eq_one_iff→ZaE, map_map→ZaH, all_cons→ZaK, drop_eq_getElem_cons→ZaN, mem_range→ZaO, filterMap_map→ZaW, getElem?_replicate→ZaX, set_cons_succ→ZaY, find?_cons_of_neg→Za3, filterMap_append→Zba, getElem?_eq_none→Zbb, getElem?_reverse→Zbc, getElem?_zipWith→Zbd, length_replicate→Zbe, isEmpty_nil→Zbi, dropLast_concat→Zbm, getElem?_set_ne→Zbn, length_dropLast→Zbo, reverse_append→Zbr, take_succ_cons→Zbs, mem_filterMap→ZbC, flatMap_cons→ZbJ, length_range→ZbK, drop_length→ZbR, mem_filter→ZbW, of_mem_zip→ZbX, drop_zero→Zb1, nodup_nil→Zb2
open Nat renaming le_trans→Ze, lt_of_lt_of_le→Zm, ne_of_lt→Zr, succ_pos→ZR, zero_le→ZS, lt_irrefl→Z7, lt_of_le_of_lt→Z8, ne_of_gt→Zad, mul_le_mul_left→Zai, add_le_add→ZaB, le_of_eq→ZaI, le_succ_of_le→Za5, lt_succ_of_lt→Za6, le_of_lt→Zbf, lt_succ_self→Zbj, min_le_right→Zbk, le_add_left→Zbt, le_of_not_lt→ZbS, min_self→ZbY
open Bool renaming and_eq_true→Zl, not_true→Zv, not_eq_true'→Z5, not_false→Zap, and_false→Zb0
open PySem.Str renaming length_append→Zn, cps_append→ZaC
open Option renaming map_eq_some_iff→Zq, isSome_some→ZaZ, join_some→Zbl, isSome_map→ZbL
open PyProof.Rows renaming slot_tuple_getitem→Zu, callWith_type1→Z2, entry_tuple_getitem→Zbu, args_tuple_getitem→ZbD, slicePart_none→ZbF, tail_any→Zb7, tupleItemsOf_→Zb8
open PySem.Heap.SameBut renaming update→Zz
open Option.some renaming inj→ZA
open Array renaming length_toList→ZH, toList_append→Zag
open PySem.StrLaws renaming glued_eq_join→Zao
open PySem.F renaming slot_dict_getitem→Zaq, plainAttrs_str→ZaF, slot_int_rmul→ZaG, slot_dict_contains→ZaL, plain_extend_loop→ZaQ, args_tuple_add_2→ZaS, slot_zip_next→ZaV, entry_tuple_add→Za0, plainAttrs_list→Za1, slot_tuple_add→Za4, slot_dict_get→Zbg, slot_tuple_mul→Zbh, args_str_split_2→ZbA, args_int_rmul_2→ZbH, entry_str_split→ZbI, entry_int_rmul→ZbO, slot_int_index→ZbP, slot_str_split→ZbQ, fills_int_mul→ZbU
open PySem.W renaming mg_none_of→Zau
open PySem.Calls renaming callWith_builtin→ZaD, evalArgs_plain→ZaM, Constant_str→ZaT, spliced_cons→ZaU, spliced_nil→ZbG
open PySem.AutoSeq1 renaming sub_tuple_tuple→ZaR
open Int renaming emod_lt_of_pos→ZbB, emod_nonneg→ZbV
open PySem.Paired renaming length→ZbM
open PyProof.Rows.IsTup renaming new→Zb3
noncomputable section
set_option hygiene false
local macro_rules|`(tactic|erw[$[$t:term],*])=>`(tactic|((try dsimp only [zT,zU,zO,zH,zF,zD,zC,zQ,zW,zP,zV,zY,zS,zR,zN,zM,zE,zL,gZ,gS,tZ,tS]);try simp only [$[$t:term],*]))
namespace L2
open PySem
theorem zbM {M:Model} {Γ:Ctx} {p:Pos} {t:Sem Fin} {fs:List Frame} {s s':Shared} {e:End} (h:Runs M Γ p t fs s e s'):s.toks<=s'.toks:=by
 induction h<;>(try simp only[Shared.setGen] at *)<;>omega
theorem zfT {M:Model} {Γ:Ctx} {p:Pos} {g:Nat} {r:Resume} {s s':Shared} {res:GenResult} (h:Wakes M Γ p g r s res s'):s.toks<=s'.toks:=by
 unfold Wakes at h
 split at h
 .exact h.elim
 .split at h
  .obtain ⟨e,s1,h,_,_,rfl⟩:=h;have:=zbM h;exact this
  .rw[h.2];exact zzR _
  .rw[h.2];exact zzR _
 .obtain ⟨e,s1,h,_,_,rfl⟩:=h;have:=zbM h;exact this
 .rw[h.2];exact zzR _
 .rw[h.2];exact zzR _
theorem wp_up {α:Type} {M:Model} {Γ:Ctx} {n:Nat}:∀ (t:Sem α) (Q:α->Pos->Shared->Prop) (E:Value->Pos->Shared->Prop) (p:Pos) (s:Shared),n<=s.toks ->
  Sem.wp M Γ t (fun a p' s'=>n<=s'.toks->Q a p' s') (fun e p' s'=>n<=s'.toks->E e p' s') p s->Sem.wp M Γ t Q E p s:=by
 intro t
 induction t with
 |pure a=>intro Q E p s h z;rw[Sem.wp] at z ⊢;exact z h
 |raise e=>intro Q E p s h z;rw[Sem.wp] at z ⊢;exact z h
 |unsupported _=>intro Q E p s h z;rw[Sem.wp] at z;exact z.elim
 |finish _=>intro Q E p s h z;rw[Sem.wp] at z;exact z.elim
 |register _ _ _=>intro Q E p s h z;rw[Sem.wp] at z;exact z.elim
 | «yield» _ _ _ _ _=>intro Q E p s h z;rw[Sem.wp] at z;exact z.elim
 |load a part k ih=>intro Q E p s h z;rw[Sem.wp] at z ⊢;obtain ⟨o,e,z⟩:=z;exact ⟨o,e,ih o Q E p s h z⟩
 |update a part f k ih=>intro Q E p s h z;rw[Sem.wp] at z ⊢;exact ⟨z.1,ih () Q E p _ h z.2⟩
 |fresh k ih=>intro Q E p s h z;rw[Sem.wp] at z ⊢;exact ih _ Q E p _ (Za5 h) z
 |choose src m k ih=>intro Q E p s h z;rw[Sem.wp] at z ⊢;exact ⟨z.1,ih _ Q E p _ h z.2⟩
 |genState g k ih=>intro Q E p s h z;rw[Sem.wp] at z ⊢;obtain ⟨st,e,z⟩:=z;exact ⟨st,e,ih _ Q E p s h z⟩
 |resume g r l k ih=>intro Q E p s h z;rw[Sem.wp] at z ⊢;obtain ⟨res,s',w,z⟩:=z;exact ⟨res,s',w,ih _ Q E p s' (Ze h (zfT w)) z⟩
 |call c hd g l k ih=>intro Q E p s h z;rw[Sem.wp] at z ⊢;obtain ⟨r,s',w,z⟩:=z;exact ⟨r,s',w,ih _ Q E p s' (Ze h (zbM w)) z⟩
 |_=>first|(intro Q E p s h z;rw[Sem.wp] at z;exact z.elim)|(rename_i ih;intro Q E p s h z;rw[Sem.wp] at z ⊢;exact ih _ Q E _ _ h z)
theorem qI {α:Type} {M:Model} {A:Around} {t:Sem α} {Q:α->Shared->Prop} {E:Value->Shared->Prop} {s:Shared} (h:0<s.toks) (w:wpAny M A t (fun a s'=>0<s'.toks->Q a s') E s):wpAny M A t Q E s:=fun Γ p hΓ =>
 wp_up (n:=1) t _ _ p s h (Sem.wp_mono M Γ t (post':=fun a _ s'=>1<=s'.toks->Q a s') (exc':=fun e _ s'=>1<=s'.toks->E e s') (fun _ _ _ z=>z) (fun _ _ _ z _=>z) p s (w Γ p hΓ))
theorem zdo {M:Model} {A:Around} {E:Value->Shared->Prop} {s:Shared} {scope:Scope} {gl:Addr} {x:Str} {u:Value} {qual:Str} {fn:Option Addr} {code:Value} {bl:Addr} {Q:Env->Shared->Prop}
  (hk:scope.kind=.function) (hx:scope.names.lookup x=some .local)
  (hQ:∀ env,env=newEnv scope s.heap.objs.size gl (cellsFrom (s.heap.objs.size+1) scope.names []) qual fn code none bl ->
   ∀ s',InCallC s env.locals (bindL env.kindOf [(x,u)] fun _=>none) env.cells (bindC env.kindOf [(x,u)] fun _=>none) s'->0<s'.toks->Q env s') :
  wpAny M A (newFunctionEnv scope gl [] [(x,u)] qual fn code none bl) Q E s:=by
 simp only[newFunctionEnv,Option.isSome_none,zzB,if_false];refine Zb (wpAny_alloc (Zb (wpAny_layCells _ (fun name kind cells=>by cases h:kind==NameKind.cell<;>simp[h]) _ _ _ _ ?_)));have ok:=cellsFrom_ok scope.names (s.heap.push { cls:=.type "frame", data:=.dict #[] }) (s.heap.objs.size+1) [] ⟨fun _ _ z=>(nomatch z),List.Pairwise.nil⟩ (by rw[ZJ];exact zzR _);rw[ZJ] at ok;rw[show ({ s with heap:=s.heap.push { cls:=.type "frame", data:=.dict #[] } }:Shared).heap.objs.size=s.heap.objs.size+1 from ZJ ..];have ns:=(Heap.Ns.new s.heap (.type "frame")).keeps (Zbx scope.names (s.heap.push { cls:=.type "frame", data:=.dict #[] }));rw[List.forIn_cons];refine Zb (Zb (Zb (wpAny_storeName_local (env:=newEnv scope s.heap.objs.size gl (cellsFrom (s.heap.objs.size+1) scope.names []) qual fn code none bl) hx ns (fun h' hn' hs'=>Zg ?_) (by show (scope.kind==ScopeKind.class || (scope.kind==ScopeKind.module&&(s.heap.objs.size != gl)))=false;rw[hk];rfl))));show wpAny M A (forIn [] _ _) _ _ _;rw[List.forIn_nil];refine Zg (Zg (hQ _ rfl _ ⟨⟨⟨h',_,rfl⟩,?_,fun b o e=>?_,zzR _⟩,fun n c hc=>?_,ok.apart,fun n c hm=>(ok.empty n c hm).2⟩ (ZR _)))
 .have e:(newEnv scope s.heap.objs.size gl (cellsFrom (s.heap.objs.size+1) scope.names []) qual fn code none bl).kindOf x=some .local:=hx;unfold bindL bindL;rw[if_pos e];exact hn'
 .exact (hs'.2 b (Zr (Zi e))).trans (Zbx _ _ b o (Za _ e))
 .have e:(newEnv scope s.heap.objs.size gl (cellsFrom (s.heap.objs.size+1) scope.names []) qual fn code none bl).kindOf x=some .local:=hx;unfold bindC bindC;rw[if_pos e];have q:=ok.empty n c (mem_of_lookup hc);exact q.1.sameBut hs' (Zad q.2)
theorem zdn {M:Model} {A:Around} {E:Value->Shared->Prop} {s:Shared} {scope:Scope} {gl:Addr} {ps:List Str} {us:List Value} {qual:Str} {fn:Option Addr} {code:Value} {bl:Addr} {Q:Env->Shared->Prop}
  (hk:scope.kind=.function) (hkind:∀ x∈ps.zip us,scope.names.lookup x.1=some .local\/(scope.names.lookup x.1=some .cell/\((cellsFrom (s.heap.objs.size+1) scope.names []).lookup x.1).isSome=true))
  (hl:us.length=ps.length) (hp:0<s.toks\/∃ x,ps=[x]/\scope.names.lookup x=some .local)
  (hQ:∀ env,env=newEnv scope s.heap.objs.size gl (cellsFrom (s.heap.objs.size+1) scope.names []) qual fn code none bl ->
   ∀ s',InCallC s env.locals (bindL env.kindOf (ps.zip us) fun _=>none) env.cells (bindC env.kindOf (ps.zip us) fun _=>none) s'->0<s'.toks->Q env s') :
  wpAny M A (newFunctionEnv scope gl [] (ps.zip us) qual fn code none bl) Q E s:=by
 rcases hp with hp|⟨x,rfl,hx⟩
 .exact qI hp (wpAny_newFunctionEnv_cells hk hkind hQ)
 .cases us with
  |nil=>cases hl
  |cons u r =>
   cases r with
   |nil=>exact zdo hk hx hQ
   |cons _ _=>cases hl
end L2
namespace L2
open PySem PySem.Spec PyProof.Rows
abbrev yA:=Sum Int Str
def zb1:yA->Value->Bool
 | .inl k,v=>Value.isInt k v
 | .inr x,v=>Value.isStrOf x v
def keyH (w:World):yA->Int
 | .inl k=>hashInt k
 | .inr x=>hashStr w x
theorem xZ:∀ {k:yA} {v:Value},zb1 k v=true->(∃ i t,k=Sum.inl i/\v=Value.int i t)\/(∃ x t,k=Sum.inr x/\v=Value.str x t)
 | .inl i,v,h=>by
  obtain ⟨t,e⟩:=Value.isInt_shape (k:=i) (v:=v) h;exact .inl ⟨i,t,rfl,e⟩
 | .inr x,v,h=>by
  obtain ⟨t,e⟩:=Value.isStrOf_shape (x:=x) (v:=v) h;exact .inr ⟨x,t,rfl,e⟩
theorem ze5 (i:Int) (t:Tok):zb1 (.inl i) (.int i t)=true:=by simp[zb1,Value.isInt]
theorem ze3 (x:Str) (t:Tok):zb1 (.inr x) (.str x t)=true:=by simp[zb1,Value.isStrOf]
theorem zlD (a b:Int):decide ((Sum.inl a:yA)=Sum.inl b)=(a==b):=by
 by_cases e:a=b
 .subst e;simp
 .have h:¬ (Sum.inl a:yA)=Sum.inl b:=fun q=>e (Sum.inl.inj q);rw[decide_eq_false h];exact (beq_eq_false_iff_ne.mpr e).symm
theorem zlz (a b:Str):decide ((Sum.inr a:yA)=Sum.inr b)=decide (a=b):=by
 by_cases e:a=b
 .subst e;simp
 .have h:¬ (Sum.inr a:yA)=Sum.inr b:=fun q=>e (Sum.inr.inj q);rw[decide_eq_false h,decide_eq_false e]
theorem zlC (a:Int) (b:Str):decide ((Sum.inl a:yA)=Sum.inr b)=false:=decide_eq_false (fun q=>nomatch q)
theorem zlA (a:Str) (b:Int):decide ((Sum.inr a:yA)=Sum.inl b)=false:=decide_eq_false (fun q=>nomatch q)
def xO (prog:Program) (w:World):PySem.KeyKind prog w yA where
 is:=zb1
 hash:=keyH w
 inj:=fun v a b ha hb=>by
  rcases xZ ha with ⟨i,t,rfl,rfl⟩|⟨x,t,rfl,rfl⟩
  .rcases xZ hb with ⟨j,u,rfl,e⟩|⟨y,u,rfl,e⟩
   .injection e with e1 _;rw[e1]
   .exact nomatch e
  .rcases xZ hb with ⟨j,u,rfl,e⟩|⟨y,u,rfl,e⟩
   .exact nomatch e
   .injection e with e1 _;rw[e1]
 byValue:=fun k v h=>by
  rcases xZ h with ⟨i,t,rfl,rfl⟩|⟨x,t,rfl,rfl⟩<;>rfl
 pyHash:=fun hv h=>by
  rcases xZ hv with ⟨i,t,rfl,rfl⟩|⟨x,t,rfl,rfl⟩
  .exact wpAny_pyHash_int h
  .exact wpAny_pyHash_str h
 eqBool:=fun hu hv h=>by
  rcases xZ hu with ⟨i,t,rfl,rfl⟩|⟨x,t,rfl,rfl⟩
  .rcases xZ hv with ⟨j,u,rfl,rfl⟩|⟨y,u,rfl,rfl⟩
   .rw[zlD] at h;exact wpAny_eqBool_int h
   .rw[zlC] at h;exact SeqAt.EqAt.int_str i t y u _ _ _ _ h
  .rcases xZ hv with ⟨j,u,rfl,rfl⟩|⟨y,u,rfl,rfl⟩
   .rw[zlA] at h;exact SeqAt.EqAt.str_int x t j u _ _ _ _ h
   .rw[zlz] at h;exact wpAny_eqBool_str h
 «strs»:=fun k x t v h=>by
  rcases xZ h with ⟨i,u,rfl,e⟩|⟨y,u,rfl,e⟩
  .exact nomatch e
  .injection e with e1 _
   subst e1;cases v<;>rfl
theorem zbV (prog:Program) (w:World) (i:Int) (t:Tok):(xO prog w).is (.inl i) (.int i t)=true:=ze5 i t
theorem zbU (prog:Program) (w:World) (x:Str) (t:Tok):(xO prog w).is (.inr x) (.str x t)=true:=ze3 x t
end L2
namespace L2
open PySem PySem.Spec PyProof.Rows
inductive V where
 |non|bl (b:Bool)|int (i:Int)|str (x:Str)|byt (b:Array UInt8)|flt (b:UInt64)|ref (a:Addr)|ty (n:String)
 deriving DecidableEq
def yW:V->Value->Prop
 | .non,u=>u=Value.none
 | .bl b,u=>u=Value.bool b
 | .int i,u=>∃ t,u=Value.int i t
 | .str x,u=>∃ t,u=Value.str x t
 | .byt b,u=>∃ t,u=Value.bytes b t
 | .flt b,u=>∃ t,u=Value.float b t
 | .ref a,u=>u=Value.ref a
 | .ty n,u=>u=Value.type n
abbrev yZ:List V->List Value->Prop:=Paired yW
theorem yZ.length {xs:List V} {us:List Value} (r:yZ xs us):xs.length=us.length:=ZbM r
theorem yZ.get:∀ {xs:List V} {us:List Value} {i:Nat} {x:V},yZ xs us->xs[i]?=some x->∃ u,us[i]?=some u/\yW x u
 |_,_,_,_,.nil,e=>by simp at e
 |_,_,0,_,.cons r _,e=>by simp at e;subst e;exact ⟨_,rfl,r⟩
 |_,_,i+1,x,.cons _ t,e=>by
  obtain ⟨u,h1,h2⟩:=yZ.get (i:=i) (x:=x) t (by simpa using e);exact ⟨u,by simpa using h1,h2⟩
theorem yZ.set {x:V} {u:Value} (r:yW x u):∀ {xs:List V} {us:List Value} (i:Nat),yZ xs us->yZ (xs.set i x) (us.set i u)
 |_,_,_,.nil=>.nil
 |_,_,0,.cons _ t=>.cons r t
 |_,_,i+1,.cons q t=>.cons q (yZ.set r i t)
theorem yZ.append:∀ {xs ys:List V} {us ws:List Value},yZ xs us->yZ ys ws->yZ (xs++ys) (us++ws)
 |_,_,_,_,.nil,s=>s
 |_,_,_,_,.cons r t,s=>.cons r (yZ.append t s)
theorem yZ.take:∀ {xs:List V} {us:List Value} (n:Nat),yZ xs us->yZ (xs.take n) (us.take n)
 |_,_,0,_=>.nil
 |_,_,_+1,.nil=>.nil
 |_,_,n+1,.cons r t=>.cons r (yZ.take n t)
theorem yZ.drop:∀ {xs:List V} {us:List Value} (n:Nat),yZ xs us->yZ (xs.drop n) (us.drop n)
 |_,_,0,r=>r
 |_,_,_+1,.nil=>.nil
 |_,_,n+1,.cons _ t=>yZ.drop n t
theorem yZ.none_of:∀ {xs:List V} {us:List Value} {i:Nat},yZ xs us->xs[i]?=none->us[i]?=none:=fun {xs us i} r e=>by
 have h1:=r.length;have h2:xs.length<=i:=List.getElem?_eq_none_iff.mp e;exact List.getElem?_eq_none_iff.mpr (by omega)
def RelO:Option V->Option Value->Prop
 |some v,some u=>yW v u
 |none,none=>True
 |_,_=>False
def KV {κ:Type}:List (κ×V)->List (κ×Value)->Prop:=Paired fun (p:κ×V) (q:κ×Value)=>p.1=q.1/\yW p.2 q.2
def kV:yA->V
 | .inl i=>.int i
 | .inr x=>.str x
inductive HO where
  |lst (xs:List V)
  |tup (xs:List V)
  |dK (kvs:List (yA×V))|dT (kvs:List (List yA×V))
  |set (S:Int->Bool) (n:Nat)
  |ins (C dx:Addr) (fs:List (Str×V))
  |own (x:Addr)
  |xd (fs:List (Str×V))
  |met (f x:Addr)
  |rng (lo hi:Int)
  |frz (o:Obj) (u:HO)
  |tbl (ps:Array Value)
  |ext (φ:Heap->Prop)
abbrev Hp:=Addr->Option HO
def xC (H:Hp) (a:Addr) (o:HO):Hp:=fun b=>if b=a then some o else H b
theorem wN {H:Hp} {a:Addr} {o:HO}:xC H a o a=some o:=by unfold xC;rw[if_pos rfl]
theorem yU {H:Hp} {a b:Addr} {o:HO} (h:b≠a):xC H a o b=H b:=by unfold xC;rw[if_neg h]
theorem ne_of {H:Hp} {a b:Addr} {o u:HO} (h:H a=some o) (h':H b=some u) (d:o≠u):a≠b:=by
 intro e;subst e;rw[h] at h';exact d (ZA h')
theorem yN {H:Hp} {a b:Addr} {o:HO} (h:H a=some o) (h':H b=none):a≠b:=by
 intro e;subst e;rw[h] at h';cases h'
section
variable (P:Program) (w:World)
def xD (H:Hp) (h:Heap) (a:Addr):HO->Prop
 | .lst xs=>xs.length<=sizeLine/\∃ (its:List Value) (n:Nat),yZ xs its/\h.get? a=some { cls:=.type "list", data:=.seq its.toArray n }
 | .tup xs=>xs.length<=sizeLine/\∃ its:List Value,yZ xs its/\IsTup h a its.toArray
 | .dK kvs=>kvs.length<=sizeLine/\(a==sysModules)=false/\∃ vs,KV kvs vs/\h.DictOf (xO P w) a vs
 | .dT kvs=>kvs.length<=sizeLine/\(a==sysModules)=false/\∃ xs:List (List yA×Addr×Value),
   Paired (fun (p:List yA×V) (q:List yA×Addr×Value)=>p.1=q.1/\H q.2.1=some (.tup (p.1.map kV))/\yW p.2 q.2.2) kvs xs /\
   ∃ o es ep,h.get? a=some o/\o.ExactDict/\o.data=.dict es ep/\es.toList=xs.map (entryOfKey (tupleKind (xO P w)))/\(xs.map (·.1)).Nodup
 | .set S n=>h.SetOf (intKind P w) a S n
 | .ins C dx fs=>H dx=some (.own a)/\fs.length<=1000/\dx≠a/\h.get? a=some (PySem.W.instObj C dx) /\
   ∃ mA,h.Ns1 dx mA/\(∀ f,RelO (fs.lookup f) (mA f))/\PySem.Within mA (fs.map (·.1))
 | .own _=>∃ o,h.get? a=some o
 | .xd fs=>∃ mA,h.Ns1 a mA/\∀ f,RelO (fs.lookup f) (mA f)
 | .rng lo hi=>∃ t u v,h.get? a=some { cls:=.type "range", data:=.fields #[.int lo t,.int hi u,.int 1 v] }
 | .frz o u=>h.get? a=some o/\xD H h a u
 | .tbl ps=>h.get? a=some { cls:=.none,data:=.fields ps }
 | .met f x=>h.get? a=some (PySem.W.methodObj (.ref f) (.ref x))
 | .ext φ=>φ h/\(∃ o,h.get? a=some o)/\∀ h1 h2:Heap,φ h1->(∀ o,h1.get? a=some o->h2.get? a=some o)->φ h2
def rT (H:Hp) (h:Heap):Prop:=∀ a o,H a=some o->xD P w H h a o
end
section
variable {P:Program} {w:World} {H H':Hp} {h h':Heap} {a:Addr} {o:HO}
theorem xD.lt (x:xD P w H h a o):a<h.objs.size:=by
 cases o with
 |lst xs=>obtain ⟨_,_,_,_,e⟩:=x;exact Zi e
 |tup xs=>obtain ⟨_,_,_,p⟩:=x;exact p.lt
 |dK kvs=>obtain ⟨_,_,_,_,o,_,_,e,_⟩:=x;exact Zi e
 |dT kvs=>obtain ⟨_,_,_,_,o,_,_,e,_⟩:=x;exact Zi e
 |set S n=>obtain ⟨o,_,_,_,e,_⟩:=x;exact Zi e
 |ins C dx fs=>obtain ⟨_,_,_,e,_⟩:=x;exact Zi e
 |own y=>obtain ⟨_,e⟩:=x;exact Zi e
 |xd fs=>obtain ⟨_,⟨_,_,_,e,_⟩,_⟩:=x;exact Zi e
 |rng lo hi=>obtain ⟨_,_,_,e⟩:=x;exact Zi e
 |frz ob u=>obtain ⟨e,_⟩:=x;exact Zi e
 |tbl ps=>exact Zi (show h.get? a=some _ from x)
 |met f y=>exact Zi (show h.get? a=some _ from x)
 |ext φ=>obtain ⟨_,⟨_,e⟩,_⟩:=x;exact Zi e
theorem Paired.mapP {α β:Type} {F G:α->β->Prop}:∀ {l₁:List α} {l₂:List β},Paired F l₁ l₂->(∀ a b,F a b->G a b)->Paired G l₁ l₂
 |_,_,.nil,_=>.nil
 |_,_,.cons r t,f=>.cons (f _ _ r) (Paired.mapP t f)
theorem xD.stay (x:xD P w H h a o) (k:∀ b u,(b=a\/H b=some (.own a))->h.get? b=some u->h'.get? b=some u)
  (ho:∀ b,H b=some (.own a)->H' b=some (.own a)) (ht:∀ b xs,H b=some (.tup xs)->H' b=some (.tup xs)):xD P w H' h' a o:=by
 induction o with
 |lst xs=>obtain ⟨z,its,n,r,e⟩:=x;exact ⟨z,its,n,r,k _ _ (.inl rfl) e⟩
 |tup xs=>obtain ⟨z,its,r,ob,e,c⟩:=x;exact ⟨z,its,r,ob,k _ _ (.inl rfl) e,c⟩
 |dK kvs=>obtain ⟨z,y,vs,r,ob,es,ep,e,c⟩:=x;exact ⟨z,y,vs,r,ob,es,ep,k _ _ (.inl rfl) e,c⟩
 |dT kvs =>
  obtain ⟨z,y,xs,r,ob,es,ep,e,c⟩:=x;exact ⟨z,y,xs,Paired.mapP r fun p q z=>⟨z.1,ht _ _ z.2.1,z.2.2⟩,ob,es,ep,k _ _ (.inl rfl) e,c⟩
 |set S n=>obtain ⟨ob,es,ep,t,e,c⟩:=x;exact ⟨ob,es,ep,t,k _ _ (.inl rfl) e,c⟩
 |ins C dx fs =>
  obtain ⟨d,z,ne,e,mA,⟨od,es,ep,e2,c⟩,r⟩:=x;exact ⟨ho _ d,z,ne,k _ _ (.inl rfl) e,mA,⟨od,es,ep,k _ _ (.inr d) e2,c⟩,r⟩
 |own y=>obtain ⟨ob,e⟩:=x;exact ⟨ob,k _ _ (.inl rfl) e⟩
 |xd fs=>obtain ⟨mA,⟨od,es,ep,e,c⟩,r⟩:=x;exact ⟨mA,⟨od,es,ep,k _ _ (.inl rfl) e,c⟩,r⟩
 |rng lo hi=>obtain ⟨t,u,v,e⟩:=x;exact ⟨t,u,v,k _ _ (.inl rfl) e⟩
 |frz ob u ih=>obtain ⟨e,q⟩:=x;exact ⟨k _ _ (.inl rfl) e,ih q⟩
 |tbl ps =>
  have e:h.get? a=some { cls:=.none,data:=.fields ps }:=x;show h'.get? a=some { cls:=.none,data:=.fields ps };exact k a _ (.inl rfl) e
 |met f y =>
  have e:h.get? a=some (PySem.W.methodObj (.ref f) (.ref y)):=x;show h'.get? a=some (PySem.W.methodObj (.ref f) (.ref y));exact k a _ (.inl rfl) e
 |ext φ=>obtain ⟨p,⟨o,e⟩,st⟩:=x;exact ⟨st _ _ p fun o q=>k _ _ (.inl rfl) q,⟨o,k _ _ (.inl rfl) e⟩,st⟩
theorem rT.lt (x:rT P w H h) (e:H a=some o):a<h.objs.size:=(x a o e).lt
theorem rT.fresh (x:rT P w H h) (e:h.objs.size<=a):H a=none:=by
 cases q:H a with
 |none=>rfl
 |some u=>exact absurd (Zm (x.lt q) e) (Z7 _)
theorem rT.kept (x:rT P w H h) (k:∀ b u,h.get? b=some u->h'.get? b=some u):rT P w H h':=fun a o e =>
 (x a o e).stay (fun b u _ q=>k b u q) (fun _ q=>q) fun _ _ q=>q
theorem rT.laid (x:rT P w H h) (k:∀ b u,h.get? b=some u->h'.get? b=some u) (hp:h.objs.size<=a) (new:xD P w (xC H a o) h' a o):rT P w (xC H a o) h':=fun b u e=>by
 have hn:=x.fresh hp
 by_cases hb:b=a
 .subst hb;rw[wN] at e;cases e;exact new
 .rw[yU hb] at e;exact (x b u e).stay (fun c v _ q=>k c v q) (fun c q=>by rw[yU (yN q hn)];exact q) fun c xs q=>by rw[yU (yN q hn)];exact q
end
def Rd (H:Hp) (a:Addr) (u:HO):Prop:=H a=some u\/∃ o,H a=some (.frz o u)
theorem Rd.ok {P:Program} {w:World} {H:Hp} {h:Heap} {a:Addr} {u:HO} (r:Rd H a u) (x:rT P w H h):xD P w H h a u:=by
 rcases r with r|⟨o,r⟩
 .exact x a u r
 .obtain ⟨_,q⟩:=x a _ r;exact q
def Mut:Option HO->Prop
 |some (.lst _)=>True
 |some (.dK _)=>True
 |some (.dT _)=>True
 |some (.set _ _)=>True
 |some (.ins _ _ _)=>True
 |some (.ext _)=>True
 |_=>False
section
variable {P:Program} {w:World} {H:Hp} {h h':Heap} {x e:Addr} {o':HO}
theorem rT.write (ok:rT P w H h) (mu:Mut (H x)) (he:e=x\/H e=some (.own x)) (k:∀ b u,b≠e->h.get? b=some u->h'.get? b=some u) (heo:∃ u,h'.get? e=some u)
  (new:xD P w (xC H x o') h' x o'):rT P w (xC H x o') h':=fun b u q=>by
 have nown:∀ c y,H c=some (.own y)->c≠x:=fun c y r z=>by subst z;rw[r] at mu;exact mu
 have ntup:∀ c xs,H c=some (.tup xs)->c≠x:=fun c xs r z=>by subst z;rw[r] at mu;exact mu
 by_cases hb:b=x
 .subst hb;rw[wN] at q;cases q;exact new
 .rw[yU hb] at q
  by_cases hbe:b=e
  .have q':H b=some (.own x):=by
    rcases he with z|z
    .exact absurd (hbe.trans z) hb
    .rw[hbe];exact z
   rw[q] at q';cases q';obtain ⟨v,hv⟩:=heo;exact ⟨v,by rw[hbe];exact hv⟩
  .refine (ok b u q).stay (fun c v hc r=>k c v ?_ r) (fun c r=>by rw[yU (nown c b r)];exact r) fun c xs r=>by rw[yU (ntup c xs r)];exact r
   rcases hc with rfl|hc
   .exact hbe
   .rintro rfl;rcases he with z|z
    .exact nown c b hc z
    .rw[hc] at z;cases z;exact hb rfl
end
structure Un (fs ex:List Addr) (H H':Hp) (h h':Heap):Prop where
 keep:∀ b o,h.get? b=some o->H b=none->b∉fs->b∉ex->h'.get? b=some o
 slot:∀ b o,h.get? b=some o->H b=none->b∈fs->b∉ex->∃ sl,h'.get? b=some { o with slots:=sl }
 free:∀ b o,h.get? b=some o->H b=none->b∉ex->H' b=none
 there:∀ b o,h.get? b=some o->b∉ex->∃ o',h'.get? b=some o'
 tups:∀ b xs,H b=some (.tup xs)->H' b=some (.tup xs)
 frzs:∀ b o u,H b=some (.frz o u)->H' b=some (.frz o u)
 tbls:∀ b ps,H b=some (.tbl ps)->∃ xK,H' b=some (.tbl (ps++xK))
section
variable {fs fs' ex ex':List Addr} {H H1 H2:Hp} {h h1 h2 h':Heap} {a x e:Addr} {o:HO}
theorem Un.any (u:Un fs ex H H1 h h1) {b:Addr} {ob:Obj} (q:h.get? b=some ob) (n:H b=none) (hx:b∉ex):∃ sl,h1.get? b=some { ob with slots:=sl }:=by
 by_cases hb:b∈fs
 .exact u.slot b ob q n hb hx
 .exact ⟨ob.slots,u.keep b ob q n hb hx⟩
theorem Un.kept (k:∀ b u,h.get? b=some u->h'.get? b=some u):Un fs ex H H h h' :=
 ⟨fun b ob q _ _ _=>k b ob q,fun b ob q _ _ _=>⟨ob.slots,k b ob q⟩,fun _ _ _ n _=>n,fun b ob q _=>⟨ob,k b ob q⟩,fun _ _ q=>q,fun _ _ _ q=>q,fun _ ps q=>⟨#[],by rw[q];simp⟩⟩
theorem Un.refl:Un fs ex H H h h:=Un.kept fun _ _ q=>q
theorem Un.laid (k:∀ b u,h.get? b=some u->h'.get? b=some u) (hp:h.objs.size<=a) (hn:H a=none):Un fs ex H (xC H a o) h h' where
 keep:=fun b u q _ _ _=>k b u q
 slot:=fun b u q _ _ _=>⟨u.slots,k b u q⟩
 free:=fun b u q n _=>by rw[yU (Zr (Zm (Zi q) hp))];exact n
 there:=fun b u q _=>⟨u,k b u q⟩
 tups:=fun b xs q=>by rw[yU (yN q hn)];exact q
 frzs:=fun b u xs q=>by rw[yU (yN q hn)];exact q
 tbls:=fun b ps q=>⟨#[],by rw[yU (yN q hn),q];simp⟩
theorem Un.write (mu:Mut (H x)) (he:e=x\/H e=some (.own x)) (k:∀ b u,b≠e->h.get? b=some u->h'.get? b=some u) (heo:∃ u,h'.get? e=some u):Un fs ex H (xC H x o) h h':=by
 have hx:∀ b,H b=none->b≠x:=fun b n z=>by subst z;rw[n] at mu;exact mu
 have hb:∀ b,H b=none->b≠e:=fun b n z=>by
  subst z;rcases he with r|r
  .exact hx b n r
  .rw[n] at r;cases r
 have hm:∀ b u,H b=some u->¬ Mut (some u)->b≠x:=fun b u q nm z=>by subst z;rw[q] at mu;exact nm mu
 refine ⟨fun b u q n _ _=>k b u (hb b n) q,fun b u q n _ _=>⟨u.slots,k b u (hb b n) q⟩,fun b u q n _=>by rw[yU (hx b n)];exact n,fun b u q _=>?_,
  fun b xs q=>by rw[yU (hm b _ q fun z=>z)];exact q,fun b u xs q=>by rw[yU (hm b _ q fun z=>z)];exact q,fun b ps q=>⟨#[],by rw[yU (hm b _ q fun z=>z),q];simp⟩⟩
 by_cases hbe:b=e
 .subst hbe;exact heo
 .exact ⟨u,k b u hbe q⟩
end
def trk (h:Heap) (H:Hp):List Addr:=(List.range h.objs.size).filter fun a=>(H a).isSome
def hidT (h:Heap) (H:Hp):Heap:=PySem.W.hideAll h (trk h H)
theorem zfa (h:Heap) (H:Hp):(hidT h H).objs.size=h.objs.size:=PySem.W.hideAll_size _ _
theorem zg0 {h:Heap} {H:Hp} {b:Addr} {o:Obj} (e:h.get? b=some o) (n:H b=none):(hidT h H).get? b=some o :=
 PySem.W.hideAll_get _ e fun hm=>by
  have q:(H b).isSome=true:=(ZbW.mp hm).2;rw[n] at q;simp at q
theorem zi5 {h:Heap} {H:Hp} {b:Addr} {o:Obj} (e:(hidT h H).get? b=some o):h.get? b=some o/\H b=none:=by
 have e':h.get? b=some o:=PySem.W.of_hideAll (trk h H) e;refine ⟨e',?_⟩
 cases q:H b with
 |none=>rfl
 |some x =>
  have hm:b∈trk h H:=ZbW.mpr ⟨ZaO.mpr (Zi e'),by simp[q]⟩;have z:(hidT h H).get? b=none:=PySem.W.hideAll_none (trk h H) hm;rw[z] at e;cases e
def zj2 (g h:Heap) (L:Addr):List (Addr×Obj):=(List.range h.objs.size).filterMap fun a=>if a=L\/(g.get? a).isSome=true then none else (h.get? a).map fun o=>(a,o)
def rest (g h:Heap) (L d:Addr):List (Addr×Obj):=(zj2 g h L).filter fun p=>decide (p.1≠d)
end L2
namespace L2
open PySem PySem.Spec PyProof.Rows
structure Mod (K:PySem.W.Frag) (mg:Str->Option Value) (base:Heap):Prop where
 kin:K.In base
 glob:base.Ns mainGlobals mg
 blt:∃ mb,base.Ns builtinsNs mb/\∀ x:Str,x ≠ "__name__" -> mb x=bootBuiltins x
 nolimit:base.NoLimit
structure Cx where
 prog:Program
 w:World
 K:PySem.W.Frag
 mg:Str->Option Value
 base:Heap
 A:Around
 N:List Str
 s₀:Shared
 H₀:Hp
 env:Env
 outer:List Env
 stack:List Env
 ex:List Addr
 fn:Str->Bool
 calm:Bool
 pn:List (Addr×Obj)
 xe:Value->Shared->Prop
def frs (l:List Env):List Addr:=l.filterMap (·.frame)
abbrev Cx.fs (X:Cx):List Addr:=frs X.outer
def Vis (sc:Scope) (x:Str):Prop:=sc.names.lookup x=some .local\/sc.names.lookup x=some .cell\/sc.names.lookup x=some .free
def Loc (sc:Scope) (x:Str):Prop:=sc.names.lookup x=some .local\/sc.names.lookup x=some .cell
def Look (env:Env) (h:Heap) (m:Str->Option Value) (x:Str) (u:Value):Prop :=
 (env.kindOf x=some .local/\m x=some u)\/((env.kindOf x=some .cell\/env.kindOf x=some .free)/\∃ c,env.cells.lookup x=some c/\h.IsCell c (some u))
structure Cx.Ok (X:Cx):Prop where
 mod:Mod X.K X.mg X.base
 kind:X.env.scope.kind=.function
 glob:X.env.globals=mainGlobals
 blt:X.env.builtins=builtinsNs
 above:X.s₀.heap.objs.size<=X.env.locals
 inj:∀ x y c,X.env.cells.lookup x=some c->X.env.cells.lookup y=some c->x=y
 has:∀ x,(X.env.kindOf x=some .cell\/X.env.kindOf x=some .free)->∃ c,X.env.cells.lookup x=some c
 cab:∀ x c,X.fn x=true->X.env.cells.lookup x=some c->X.s₀.heap.objs.size<=c
 hd:X.calm=true->X.A.handled=none
 frames:X.A.frames=some X.stack
 stk:X.stack=X.outer\/(X.stack=X.env::X.outer/\X.env.frame=some X.env.locals)
 exf:∀ b∈X.ex,b≠X.env.locals/\∀ x c,X.env.cells.lookup x=some c->c≠b
 bs:∀ b o,X.base.get? b=some o->X.s₀.heap.get? b=some o/\X.H₀ b=none
 bsz:X.base.objs.size<=X.s₀.heap.objs.size
 noex:∀ b o,X.base.get? b=some o->b∉X.ex
 exfs:∀ b∈X.ex,b∉X.fs
 funs:X.s₀.heap.FunFrames X.base X.outer
 frf:∀ b∈X.fs,X.H₀ b=none
structure Inv (X:Cx) (pins:List (Addr×Obj)) (σ:List (Option V)) (H:Hp) (s:Shared):Prop where
 ok:X.Ok
 os:s.os=X.s₀.os
 bare:AllBare s.gens
 base:Un X.fs X.ex X.H₀ H X.s₀.heap s.heap
 loc:∃ m,s.heap.Ns X.env.locals m/\∀ (i:Nat) (x:Str) (v:V),X.N[i]?=some x->σ[i]?=some (some v)->Vis X.env.scope x->∃ u,yW v u/\Look X.env s.heap m x u
 cell:∀ x c,X.env.cells.lookup x=some c->∃ v,s.heap.IsCell c v
 free:H X.env.locals=none
 freeC:∀ x c,X.env.cells.lookup x=some c->H c=none
 pin:∀ p∈X.pn++pins,s.heap.get? p.1=some p.2/\H p.1=none/\p.1≠X.env.locals/\p.1∉X.fs/\∀ v,p.2.data≠.cell v
 hok:rT X.prog X.w H s.heap
 len:σ.length=X.N.length
 tk:0<s.toks
section
variable {X:Cx} {pins:List (Addr×Obj)} {σ:List (Option V)} {H H':Hp} {s:Shared} {h':Heap}
theorem Cx.Ok.nofr (ok:X.Ok) {b:Addr} {o:Obj} (e:X.base.get? b=some o):b∉X.fs:=fun hb=>by
 have:=(ok.funs.mem hb).1;rw[e] at this;cases this
theorem Inv.bs (I:Inv X pins σ H s):∀ b o,X.base.get? b=some o->s.heap.get? b=some o/\H b=none:=fun b o e =>
 ⟨I.base.keep b o (I.ok.bs b o e).1 (I.ok.bs b o e).2 (I.ok.nofr e) (I.ok.noex b o e),I.base.free b o (I.ok.bs b o e).1 (I.ok.bs b o e).2 (I.ok.noex b o e)⟩
theorem Inv.bk (I:Inv X pins σ H s):∀ b o,X.base.get? b=some o->s.heap.get? b=some o:=fun b o e=>(I.bs b o e).1
theorem Inv.mod (I:Inv X pins σ H s):Mod X.K X.mg X.base:=I.ok.mod
theorem Inv.kIn (I:Inv X pins σ H s):X.K.In s.heap:=I.ok.mod.kin.keeps I.bk
theorem Inv.lt (I:Inv X pins σ H s):X.env.locals<s.heap.objs.size:=let ⟨_,hn,_⟩:=I.loc;hn.lt
theorem Inv.sz (I:Inv X pins σ H s):X.s₀.heap.objs.size<=s.heap.objs.size:=Ze I.ok.above (Zbf I.lt)
theorem Inv.nofs (I:Inv X pins σ H s) {a:Addr} (h:s.heap.objs.size<=a):a∉X.fs:=fun hb=>by
 obtain ⟨_,o,ho,_⟩:=I.ok.funs.mem hb;exact absurd (Zm (Zi ho) (Ze I.sz h)) (Z7 _)
theorem Inv.cne (I:Inv X pins σ H s):∀ x c,X.env.cells.lookup x=some c->c≠X.env.locals:=fun x c e z=>by
 obtain ⟨v,o,ho,hd⟩:=I.cell x c e;obtain ⟨m,⟨o',es,ep,ho',hd',_⟩,_⟩:=I.loc;rw[z,ho'] at ho;cases ho;rw[hd'] at hd;cases hd
theorem Inv.funs (I:Inv X pins σ H s):s.heap.FunFrames X.base X.outer:=by
 have all:∀ (l:List Env),(∀ b∈frs l,b∈X.fs)->X.s₀.heap.FunFrames X.base l->s.heap.FunFrames X.base l:=by
  intro l
  induction l with
  |nil=>intro _ _;trivial
  |cons env r ih =>
   intro hs hl;obtain ⟨hk,⟨L,o,hf,hn,ho,hd⟩,hr⟩:=hl;have hL:L∈X.fs:=hs L (by unfold frs;rw[Zax,hf];exact zzT);obtain ⟨sl,e⟩:=I.base.slot L o ho (I.ok.frf L hL) hL fun z=>I.ok.exfs L z hL;exact ⟨hk,⟨L,_,hf,hn,e,hd⟩,ih (fun b hb=>hs b (by unfold frs;rw[Zax,hf];exact Zc _ hb)) hr⟩
 exact all X.outer (fun _ hb=>hb) I.ok.funs
theorem Inv.stack (I:Inv X pins σ H s):s.heap.FunFrames X.base X.stack:=by
 rcases I.ok.stk with e|⟨e,hf⟩
 .rw[e];exact I.funs
 .rw[e];obtain ⟨m,hn,_⟩:=I.loc;refine .cons (by rw[I.ok.kind];decide) hf hn ?_ I.funs;exact Heap.get?_none_of_le (Ze I.ok.bsz I.ok.above)
theorem Inv.stkSub (I:Inv X pins σ H s):∀ b∈frs X.stack,b∈X.env.locals::X.fs:=fun b hb=>by
 rcases I.ok.stk with e|⟨e,hf⟩
 .rw[e] at hb;exact Zc _ hb
 .rw[e] at hb;unfold frs at hb;rw[Zax,hf] at hb;exact hb
theorem Inv.stkFree (I:Inv X pins σ H s):∀ b∈frs X.stack,H b=none:=fun b hb=>by
 rcases Zd.mp (I.stkSub b hb) with e|hb
 .rw[e];exact I.free
 .obtain ⟨_,o,ho,_⟩:=I.ok.funs.mem hb;exact I.base.free b o ho (I.ok.frf b hb) fun z=>I.ok.exfs b z hb
theorem Inv.step {g':Array GenState} {t':Nat} {d':Drawn} {ch:List Addr} (I:Inv X pins σ H s)
  (hch:∀ b∈ch,(b∈X.ex\/X.s₀.heap.objs.size<=b)/\b≠X.env.locals/\(∀ x c,X.env.cells.lookup x=some c->c≠b)/\∀ p∈X.pn++pins,p.1≠b)
  (keep:∀ b o,b≠X.env.locals->b∉X.fs->b∉ch->s.heap.get? b=some o->H b=none->h'.get? b=some o)
  (slot:∀ b o,b≠X.env.locals->b∈X.fs->b∉ch->s.heap.get? b=some o->H b=none->∃ sl,h'.get? b=some { o with slots:=sl }) (free:∀ b o,b∉ch->s.heap.get? b=some o->H b=none->H' b=none)
  (there:∀ b o,b∉ch->s.heap.get? b=some o->∃ o',h'.get? b=some o')
  (tups:∀ b xs,H b=some (.tup xs)->H' b=some (.tup xs)) (frzs:∀ b o u,H b=some (.frz o u)->H' b=some (.frz o u)) (tbls:∀ b ps,H b=some (.tbl ps)->∃ xK,H' b=some (.tbl (ps++xK)))
  (ns:∀ m,s.heap.Ns X.env.locals m->h'.Ns X.env.locals m) (hok:rT X.prog X.w H' h') (hg:AllBare g') (ht:0<t':=by first|exact ZR _|exact L2.Inv.tk (by assumption)|exact L2.Inv.tk ‹L2.Inv _ _ _ _ _› | assumption|omega) :
  Inv X pins σ H' { s with heap:=h',gens:=g',drawn:=d',toks:=t' }:=by
 have neL:∀ b o,X.s₀.heap.get? b=some o->b≠X.env.locals:=fun b o e=>Zr (Zm (Zi e) I.ok.above)
 have neC:∀ b o,X.s₀.heap.get? b=some o->b∉X.ex->b∉ch:=fun b o e hx hb=>by
  rcases (hch b hb).1 with z|z
  .exact hx z
  .exact absurd (Zm (Zi e) z) (Z7 _)
 have cellK:∀ x c,X.env.cells.lookup x=some c->∀ v,s.heap.IsCell c v->h'.IsCell c v:=fun x c e v ⟨o,ho,hd⟩=>by
  have nch:c∉ch:=fun z=>(hch c z).2.2.1 x c e rfl
  by_cases hc:c∈X.fs
  .obtain ⟨sl,q⟩:=slot c o (I.cne x c e) hc nch ho (I.freeC x c e);exact ⟨_,q,hd⟩
  .exact ⟨o,keep c o (I.cne x c e) hc nch ho (I.freeC x c e),hd⟩
 refine ⟨I.ok,I.os,hg,⟨fun b o e n hb hx=>?_,fun b o e n hb hx=>?_,fun b o e n hx=>?_,fun b o e hx=>?_,fun b xs e=>tups b xs (I.base.tups b xs e),fun b o xs e=>frzs b o xs (I.base.frzs b o xs e),fun b ps e=>?_⟩,?_,fun x c e=>?_,?_,fun x c e=>?_,fun p hp=>?_,hok,I.len,ht⟩
 .exact keep b o (neL b o e) hb (neC b o e hx) (I.base.keep b o e n hb hx) (I.base.free b o e n hx)
 .obtain ⟨sl,e1⟩:=I.base.slot b o e n hb hx;obtain ⟨sl',e2⟩:=slot b _ (neL b o e) hb (neC b o e hx) e1 (I.base.free b o e n hx);exact ⟨sl',e2⟩
 .obtain ⟨o',e1⟩:=I.base.there b o e hx;exact free b o' (neC b o e hx) e1 (I.base.free b o e n hx)
 .obtain ⟨o',e1⟩:=I.base.there b o e hx;exact there b o' (neC b o e hx) e1
 .obtain ⟨m1,e1⟩:=I.base.tbls b ps e;obtain ⟨m2,e2⟩:=tbls b _ e1;exact ⟨m1++m2,by rw[e2,Array.append_assoc]⟩
 .obtain ⟨m,hn,hl⟩:=I.loc;refine ⟨m,ns m hn,fun i x v e1 e2 e3=>?_⟩;obtain ⟨u,r,l⟩:=hl i x v e1 e2 e3;refine ⟨u,r,?_⟩;rcases l with l|⟨k,c,e,z⟩
  .exact .inl l
  .exact .inr ⟨k,c,e,cellK x c e _ z⟩
 .obtain ⟨v,z⟩:=I.cell x c e;exact ⟨v,cellK x c e v z⟩
 .obtain ⟨m,⟨o,_,_,ho,_⟩,_⟩:=I.loc;exact free _ o (fun z=>(hch _ z).2.1 rfl) ho I.free
 .obtain ⟨v,o,ho,hd⟩:=I.cell x c e;exact free c o (fun z=>(hch c z).2.2.1 x c e rfl) ho (I.freeC x c e)
 .obtain ⟨e,n,ne,nf,d⟩:=I.pin p hp;have nch:p.1∉ch:=fun z=>(hch p.1 z).2.2.2 p hp rfl;exact ⟨keep p.1 p.2 ne nf nch e n,free p.1 p.2 nch e n,ne,nf,d⟩
theorem Inv.un {t':Nat} (I:Inv X pins σ H s) (u:Un X.fs [] H H' s.heap h') (hok:rT X.prog X.w H' h') (ht:0<t':=by first|exact ZR _|exact L2.Inv.tk (by assumption)|exact L2.Inv.tk ‹L2.Inv _ _ _ _ _› | assumption|omega):Inv X pins σ H' { s with heap:=h',toks:=t' }:=by
 obtain ⟨m,⟨o,es,ep,ho,r⟩,_⟩:=id I.loc;obtain ⟨sl,hL⟩:=u.any ho I.free (by simp)
 exact I.step (g':=s.gens) (d':=s.drawn) (ch:=[]) (fun _ z=>nomatch z) (fun b o _ hb _ e n=>u.keep b o e n hb (by simp)) (fun b o _ hb _ e n=>u.slot b o e n hb (by simp)) (fun b o _ e n=>u.free b o e n (by simp)) (fun b o _ e=>u.there b o e (by simp)) u.tups u.frzs u.tbls (fun m' hm=>by
  obtain ⟨o',es',ep',ho',r'⟩:=hm;rw[ho] at ho';cases ho';exact ⟨_,es',ep',hL,r'⟩) hok I.bare
theorem Inv.call {g':Array GenState} {t':Nat} {d':Drawn} {ch:List Addr} (I:Inv X pins σ H s) (u:Un (frs X.stack) ch H H' s.heap h') (hok:rT X.prog X.w H' h') (hg:AllBare g')
  (hch:∀ b∈ch,(b∈X.ex\/X.s₀.heap.objs.size<=b)/\b≠X.env.locals/\(∀ x c,X.env.cells.lookup x=some c->c≠b)/\∀ p∈X.pn++pins,p.1≠b) (ht:0<t':=by first|exact ZR _|exact L2.Inv.tk (by assumption)|exact L2.Inv.tk ‹L2.Inv _ _ _ _ _› | assumption|omega) :
  Inv X pins σ H' { s with heap:=h',gens:=g',drawn:=d',toks:=t' }:=by
 obtain ⟨m,⟨o,es,ep,ho,r⟩,_⟩:=id I.loc;obtain ⟨sl,hL⟩:=u.any ho I.free fun z=>(hch _ z).2.1 rfl
 exact I.step (ch:=ch) hch (fun b o hL hb hc e n=>u.keep b o e n (fun z=>(Zd.mp (I.stkSub b z)).elim hL hb) hc) (fun b o _ _ hc e n=>u.any e n hc) (fun b o hc e n=>u.free b o e n hc) (fun b o hc e=>u.there b o e hc) u.tups u.frzs u.tbls (fun m' hm=>by
  obtain ⟨o',es',ep',ho',r'⟩:=hm;rw[ho] at ho';cases ho';exact ⟨_,es',ep',hL,r'⟩) hok hg
theorem Inv.turned {t':Nat} {it:Addr} (I:Inv X pins σ H s) (k:∀ b o,b≠it->s.heap.get? b=some o->h'.get? b=some o) (hn:H it=none) (hL:it≠X.env.locals)
  (h1:it∈X.ex\/X.s₀.heap.objs.size<=it) (h2:∀ x c,X.env.cells.lookup x=some c->c≠it) (h3:∀ p∈X.pn++pins,p.1≠it) (ht:0<t':=by first|exact ZR _|exact L2.Inv.tk (by assumption)|exact L2.Inv.tk ‹L2.Inv _ _ _ _ _› | assumption|omega):Inv X pins σ H { s with heap:=h',toks:=t' }:=by
 have nit:∀ b u,H b=some u->b≠it:=fun b u e z=>by rw[z,hn] at e;cases e
 refine I.step (g':=s.gens) (d':=s.drawn) (ch:=[it]) (fun b hb=>?_) (fun b o _ _ hc e _=>k b o (fun z=>hc (by simp[z])) e) (fun b o _ _ hc e _=>⟨o.slots,k b o (fun z=>hc (by simp[z])) e⟩) (fun _ _ _ _ n=>n)
  (fun b o hc e=>⟨o,k b o (fun z=>hc (by simp[z])) e⟩) (fun _ _ e=>e) (fun _ _ _ e=>e) (fun b ps e=>⟨#[],by rw[e];simp⟩) (fun m hm=>?_) (fun b u e=>?_) I.bare
 .have e:b=it:=by simpa using hb
  subst e;exact ⟨h1,hL,h2,h3⟩
 .obtain ⟨o,es,ep,ho,r⟩:=hm;exact ⟨o,es,ep,k _ o (Ne.symm hL) ho,r⟩
 .refine (I.hok b u e).stay (fun c v hc q=>k c v ?_ q) (fun _ q=>q) fun _ _ q=>q;rcases hc with z|z
  .rw[z];exact nit b u e
  .exact nit c _ z
theorem Inv.tok (I:Inv X pins σ H s) (t:Nat) (ht:0<t:=by first|exact ZR _|exact L2.Inv.tk (by assumption)|exact L2.Inv.tk ‹L2.Inv _ _ _ _ _› | assumption|omega):Inv X pins σ H { s with toks:=t }:=I.un (h':=s.heap) (t':=t) Un.refl I.hok
theorem Inv.kept {t':Nat} (I:Inv X pins σ H s) (k:∀ b u,s.heap.get? b=some u->h'.get? b=some u) (ht:0<t':=by first|exact ZR _|exact L2.Inv.tk (by assumption)|exact L2.Inv.tk ‹L2.Inv _ _ _ _ _› | assumption|omega):Inv X pins σ H { s with heap:=h',toks:=t' }:=I.un (Un.kept k) (I.hok.kept k)
theorem Inv.laid {a:Addr} {o:HO} {t':Nat} (I:Inv X pins σ H s) (k:∀ b u,s.heap.get? b=some u->h'.get? b=some u) (hp:s.heap.objs.size<=a) (new:xD X.prog X.w (xC H a o) h' a o) (ht:0<t':=by first|exact ZR _|exact L2.Inv.tk (by assumption)|exact L2.Inv.tk ‹L2.Inv _ _ _ _ _› | assumption|omega) :
  Inv X pins σ (xC H a o) { s with heap:=h',toks:=t' }:=I.un (Un.laid k hp (I.hok.fresh hp)) (I.hok.laid k hp new)
theorem Inv.write {x e:Addr} {o:HO} {t':Nat} (I:Inv X pins σ H s) (mu:Mut (H x)) (he:e=x\/H e=some (.own x)) (k:∀ b u,b≠e->s.heap.get? b=some u->h'.get? b=some u) (heo:∃ u,h'.get? e=some u)
  (new:xD X.prog X.w (xC H x o) h' x o) (ht:0<t':=by first|exact ZR _|exact L2.Inv.tk (by assumption)|exact L2.Inv.tk ‹L2.Inv _ _ _ _ _› | assumption|omega):Inv X pins σ (xC H x o) { s with heap:=h',toks:=t' }:=I.un (Un.write mu he k heo) (I.hok.write mu he k heo new)
theorem Inv.pins_of {pins':List (Addr×Obj)} (I:Inv X pins σ H s) (h:∀ p∈pins',s.heap.get? p.1=some p.2/\H p.1=none/\p.1≠X.env.locals/\p.1∉X.fs/\∀ v,p.2.data≠.cell v):Inv X pins' σ H s :=
 ⟨I.ok,I.os,I.bare,I.base,I.loc,I.cell,I.free,I.freeC,fun p hp=>(ZD.mp hp).elim (fun z=>I.pin p (Zar _ z)) (h p),I.hok,I.len,I.tk⟩
theorem zcK {N:List Str} (hN:N.Nodup) {i j:Nat} {x:Str} (a:N[i]?=some x) (b:N[j]?=some x):i=j:=by
 obtain ⟨h1,e1⟩:=Zh.mp a;obtain ⟨h2,e2⟩:=Zh.mp b;exact (List.getElem_inj hN).mp (e1.trans e2.symm)
theorem zaJ {M:Model} {A:Around} {E:Value->Shared->Prop} {i:Nat} {x:Str} {v:V} {u:Value} {Q:Unit->Shared->Prop} (I:Inv X pins σ H s) (hN:X.N.Nodup) (hi:X.N[i]?=some x) (hx:Loc X.env.scope x) (r:yW v u)
  (h:∀ s',Inv X pins (σ.set i (some v)) H s'->(∃ a,Heap.SameBut a s.heap s'.heap/\(a=X.env.locals\/X.env.cells.lookup x=some a))->Q () s') (hf:X.fn x=true\/X.env.scope.names.lookup x=some .local:=by first|exact .inl rfl|exact .inr rfl|assumption):wpAny M A (storeName X.env x u) Q E s:=by
 obtain ⟨m,hn,hl⟩:=id I.loc;have hcls:(X.env.scope.kind==.class || (X.env.scope.kind==.module&&X.env.locals != X.env.globals))=false:=by rw[I.ok.kind];rfl
 have hiσ:i<σ.length:=by rw[I.len];exact (Zh.mp hi).1
 have cne:=I.cne
 have tracked:∀ {a:Addr} {h':Heap},(∃ o,s.heap.get? a=some o/\H a=none)->Heap.SameBut a s.heap h'->rT X.prog X.w H h':=fun {a h'} ha hs b ob e=>by
  obtain ⟨_,_,hfree⟩:=ha;refine (I.hok b ob e).stay (fun c w' hc q=>(hs.2 c ?_).trans q) (fun _ q=>q) fun _ _ q=>q;rintro rfl;rcases hc with rfl|hc
  .rw[hfree] at e;cases e
  .rw[hfree] at hc;cases hc
 rcases hx with hk|hk
 .refine wpAny_storeName_local hk hn (fun h' hn' hs=>?_) hcls;obtain ⟨oL,_,_,hoL,_⟩:=id hn;refine h _ ⟨I.ok,I.os,I.bare,⟨fun b o e n hb hx=>?_,fun b o e n hb hx=>?_,I.base.free,fun b o e hx=>?_,I.base.tups,I.base.frzs,I.base.tbls⟩,⟨_,hn',fun j y v' e1 e2 e3=>?_⟩,fun y c e=>?_,I.free,I.freeC,fun p hp=>?_,tracked ⟨oL,hoL,I.free⟩ hs,by simpa using I.len,ZR _⟩ ⟨_,hs,.inl rfl⟩
  .exact (hs.2 b (Zr (Zm (Zi e) I.ok.above))).trans (I.base.keep b o e n hb hx)
  .obtain ⟨sl,e1⟩:=I.base.slot b o e n hb hx;exact ⟨sl,(hs.2 b (Zr (Zm (Zi e) I.ok.above))).trans e1⟩
  .obtain ⟨o',e1⟩:=I.base.there b o e hx;exact ⟨o',(hs.2 b (Zr (Zm (Zi e) I.ok.above))).trans e1⟩
  .by_cases hj:j=i
   .subst hj;rw[hi] at e1;cases e1;rw[List.getElem?_set_self hiσ] at e2;cases e2;exact ⟨u,r,.inl ⟨hk,by simp⟩⟩
   .rw[Zbn (Ne.symm hj)] at e2;obtain ⟨u',r',q⟩:=hl j y v' e1 e2 e3;refine ⟨u',r',?_⟩;rcases q with ⟨k,e⟩|⟨k,c,e,z⟩
    .refine .inl ⟨k,?_⟩;have:y≠x:=fun e=>hj (zcK hN e1 (e▸hi));simp[this,e]
    .exact .inr ⟨k,c,e,z.sameBut hs (cne y c e)⟩
  .obtain ⟨w',z⟩:=I.cell y c e;exact ⟨w',z.sameBut hs (cne y c e)⟩
  .obtain ⟨e,n,ne,nf,d⟩:=I.pin p hp;exact ⟨(hs.2 p.1 ne).trans e,n,ne,nf,d⟩
 .have hfn:X.fn x=true:=by
   rcases hf with z|z
   .exact z
   .rw[z] at hk;cases hk
  obtain ⟨c,hc⟩:=I.ok.has x (.inl hk);obtain ⟨w',z⟩:=I.cell x c hc;refine wpAny_storeName_cell I.ok.kind hk hc z (fun h' hc' hs=>?_);obtain ⟨oc,hoc,hocd⟩:=id z;refine h { s with heap:=h' } ⟨I.ok,I.os,I.bare,⟨fun b o e n hb hx=>?_,fun b o e n hb hx=>?_,I.base.free,fun b o e hx=>?_,I.base.tups,I.base.frzs,I.base.tbls⟩,⟨m,hn.sameBut hs (Ne.symm (cne x c hc)),fun j y v' e1 e2 e3=>?_⟩,fun y c' e=>?_,I.free,I.freeC,fun p hp=>?_,tracked ⟨oc,hoc,I.freeC x c hc⟩ hs,by simpa using I.len,I.tk⟩ ⟨c,hs,.inr hc⟩
  .exact (hs.2 b (Zr (Zm (Zi e) (I.ok.cab x c hfn hc)))).trans (I.base.keep b o e n hb hx)
  .obtain ⟨sl,e1⟩:=I.base.slot b o e n hb hx;exact ⟨sl,(hs.2 b (Zr (Zm (Zi e) (I.ok.cab x c hfn hc)))).trans e1⟩
  .obtain ⟨o',e1⟩:=I.base.there b o e hx;exact ⟨o',(hs.2 b (Zr (Zm (Zi e) (I.ok.cab x c hfn hc)))).trans e1⟩
  .by_cases hj:j=i
   .subst hj;rw[hi] at e1;cases e1;rw[List.getElem?_set_self hiσ] at e2;cases e2;exact ⟨u,r,.inr ⟨.inl hk,c,hc,hc'⟩⟩
   .rw[Zbn (Ne.symm hj)] at e2;obtain ⟨u',r',q⟩:=hl j y v' e1 e2 e3;refine ⟨u',r',?_⟩;rcases q with q|⟨k,c',e,z'⟩
    .exact .inl q
    .refine .inr ⟨k,c',e,z'.sameBut hs ?_⟩;rintro rfl;exact hj (zcK hN e1 (I.ok.inj _ _ _ e hc▸hi))
  .by_cases hcc:c'=c
   .subst hcc;exact ⟨_,hc'⟩
   .obtain ⟨w2,z2⟩:=I.cell y c' e;exact ⟨w2,z2.sameBut hs hcc⟩
  .obtain ⟨e,n,ne,nf,d⟩:=I.pin p hp;refine ⟨(hs.2 p.1 ?_).trans e,n,ne,nf,d⟩;intro q;rw[q,hoc] at e;have q':oc=p.2:=ZA e;exact d w' (by rw[← q'];exact hocd)
theorem dJ {M:Model} {A:Around} {E:Value->Shared->Prop} {i:Nat} {x:Str} {v:V} {u:Value} {Q:Unit->Shared->Prop} (I:Inv X pins σ H s) (hN:X.N.Nodup) (hi:X.N[i]?=some x) (hx:Loc X.env.scope x) (r:yW v u)
  (h:∀ s',Inv X pins (σ.set i (some v)) H s'->Q () s') (hf:X.fn x=true\/X.env.scope.names.lookup x=some .local:=by first|exact .inl rfl|exact .inr rfl|assumption):wpAny M A (storeName X.env x u) Q E s :=
 zaJ I hN hi hx r (fun s' I' _=>h s' I') hf
theorem Inv.call' {s':Shared} {ch:List Addr} (I:Inv X pins σ H s) (ho:s'.os=s.os) (u:Un (frs X.stack) ch H H' s.heap s'.heap) (hok:rT X.prog X.w H' s'.heap) (hg:AllBare s'.gens)
  (hch:∀ b∈ch,(b∈X.ex\/X.s₀.heap.objs.size<=b)/\b≠X.env.locals/\(∀ x c,X.env.cells.lookup x=some c->c≠b)/\∀ p∈X.pn++pins,p.1≠b) (ht:0<s'.toks):Inv X pins σ H' s':=by
 obtain ⟨h',g',d',t',o'⟩:=s';have e:o'=s.os:=ho;subst e;exact I.call (g':=g') (t':=t') (d':=d') u hok hg hch
end
abbrev XK:=Value->Option Addr->Hp->Prop
abbrev St:=List (Option V)
abbrev VK:=V->Hp->Prop
abbrev TE:=St->Hp->VK->Prop
abbrev TT:=St->Hp->(Bool->Hp->Prop)->Prop
abbrev TA:=St->Hp->(List V->Hp->Prop)->Prop
structure Ends where
 nx:St->Hp->Prop
 rt:VK
 bk:St->Hp->Prop:=fun _ _=>False
 ct:St->Hp->Prop:=fun _ _=>False
abbrev TS:=Ends->St->Hp->Prop
def EP (X:Cx) (pins:List (Addr×Obj)) (σ:St) (Q:VK) (u:Value) (s':Shared):Prop:=∃ v H',Inv X pins σ H' s'/\yW v u/\Q v H'
def TP (X:Cx) (pins:List (Addr×Obj)) (σ:St) (Q:Bool->Hp->Prop) (b:Bool) (s':Shared):Prop:=∃ H',Inv X pins σ H' s'/\Q b H'
def AP (X:Cx) (pins:List (Addr×Obj)) (σ:St) (Q:List V->Hp->Prop) (us:List Value) (s':Shared):Prop:=∃ vs H',Inv X pins σ H' s'/\yZ vs us/\Q vs H'
def SP (X:Cx) (pins:List (Addr×Obj)) (D:Ends) (f:Flow) (s':Shared):Prop :=
 match f with
 | .next=>∃ σ' H',Inv X pins σ' H' s'/\D.nx σ' H'
 | .brk=>∃ σ' H',Inv X pins σ' H' s'/\D.bk σ' H'
 | .cont=>∃ σ' H',Inv X pins σ' H' s'/\D.ct σ' H'
 | .ret u=>∃ v σ' H',Inv X pins σ' H' s'/\yW v u/\D.rt v H'
def PE (X:Cx) (e:Expr) (t:TE):Prop :=
 ∀ (pins:List (Addr×Obj)) (s:Shared) (σ:St) (H:Hp) (Q:VK),Inv X pins σ H s->t σ H Q->wpAny (model X.prog X.w) X.A (eval e X.env) (EP X pins σ Q) X.xe s
def PT (X:Cx) (e:Expr) (t:TT):Prop :=
 ∀ (pins:List (Addr×Obj)) (s:Shared) (σ:St) (H:Hp) (Q:Bool->Hp->Prop),Inv X pins σ H s->t σ H Q->wpAny (model X.prog X.w) X.A (isTrue e X.env (eval e X.env)) (TP X pins σ Q) X.xe s
def PW (X:Cx) (e:Expr) (t:TT):Prop :=
 ∀ (whole:Sem Value) (pins:List (Addr×Obj)) (s:Shared) (σ:St) (H:Hp) (Q:Bool->Hp->Prop),Inv X pins σ H s->t σ H Q->wpAny (model X.prog X.w) X.A (isTrue e X.env whole) (TP X pins σ Q) X.xe s
theorem PW.pt {X:Cx} {e:Expr} {t:TT} (h:PW X e t):PT X e t:=h _
def PA (X:Cx) (es:List Expr) (t:TA):Prop :=
 ∀ (pos:Pos) (pins:List (Addr×Obj)) (s:Shared) (σ:St) (H:Hp) (Q:List V->Hp->Prop),Inv X pins σ H s->t σ H Q->wpAny (model X.prog X.w) X.A (spliced (backTo pos (starEach es X.env))) (AP X pins σ Q) X.xe s
def PS (X:Cx) (st:Stmt) (t:TS):Prop :=
 ∀ (pins:List (Addr×Obj)) (s:Shared) (σ:St) (H:Hp) (D:Ends),Inv X pins σ H s->t D σ H->wpAny (model X.prog X.w) X.A (exec st X.env) (SP X pins D) X.xe s
def PSs (X:Cx) (st:List Stmt) (t:TS):Prop :=
 ∀ (pins:List (Addr×Obj)) (s:Shared) (σ:St) (H:Hp) (D:Ends),Inv X pins σ H s->t D σ H->wpAny (model X.prog X.w) X.A (execs st X.env) (SP X pins D) X.xe s
theorem xY {α:Type} {t:Sem α} {Q Q':α->Shared->Prop} {M:Model} {A:Around} {E:Value->Shared->Prop} {s:Shared} (h:wpAny M A t Q E s) (hQ:∀ a s,Q a s->Q' a s):wpAny M A t Q' E s:=Zaa h hQ fun _ _ x=>x
end L2
namespace L2
open PySem PySem.Spec PyProof.Rows
section
variable {X:Cx}
theorem bin {a b:Expr} {ta tb:TE} (ha:PE X a ta) (hb:PE X b tb) {pins:List (Addr×Obj)} {s:Shared} {σ:St} {H:Hp} {R:V->V->Hp->Prop} (I:Inv X pins σ H s) (h:ta σ H fun x H1=>tb σ H1 fun y H2=>R x y H2)
  {α:Type} {Q:α->Shared->Prop} {f:Value->Value->Sem α}
  (hf:∀ v u s2 x y H2,Inv X pins σ H2 s2->yW x v->yW y u->R x y H2->wpAny (model X.prog X.w) X.A (f v u) Q X.xe s2) :
  wpAny (model X.prog X.w) X.A (eval a X.env) (fun v s₁=>wpAny (model X.prog X.w) X.A (eval b X.env) (fun u s₂=>wpAny (model X.prog X.w) X.A (f v u) Q X.xe s₂) X.xe s₁) X.xe s:=by
 refine xY (ha pins s σ H _ I h) fun v s1 ⟨x,H1,I1,r1,q1⟩=>?_;refine xY (hb pins s1 σ H1 _ I1 q1) fun u s2 ⟨y,H2,I2,r2,q2⟩=>?_;exact hf v u s2 x y H2 I2 r1 r2 q2
def tVar (i:Nat):TE:=fun σ H Q=>∃ v,σ[i]?=some (some v)/\Q v H
def tC (v:V):TE:=fun _ H Q=>Q v H
theorem zk0 {i:Nat} {x:Str} {pos:Pos} (hN:X.N[i]?=some x) (hv:Vis X.env.scope x) (hd:(x==("__debug__" : Str))=false:=by decide) (hcd:(x==("__classdict__" : Str))=false:=by decide):PE X (.Name x pos) (tVar i):=by
 intro pins s σ H Q I h;obtain ⟨v,e,h⟩:=h;obtain ⟨m,hn,hl⟩:=I.loc;obtain ⟨u,r,l⟩:=hl i x v hN e hv;have fin:EP X pins σ Q u s:=⟨v,H,I,r,h⟩;rcases l with ⟨hk,hm⟩|⟨hk,c,hc,hcell⟩
 .exact wpAny_Name (wpAny_loadName_local I.ok.kind hk hn hm fin) hd
 .rcases hk with hk|hk
  .exact wpAny_Name (wpAny_loadName_cell I.ok.kind hk hc hcell fin) hd
  .exact wpAny_Name (wpAny_loadName_free I.ok.kind hk hc hcell fin hcd) hd
theorem zhE {i j pos}:PE X (.Constant (.int i) j pos) (tC (.int i)):=fun _ _ _ H _ I h=>wpAny_Constant_int ⟨.int i,H,I.tok _,⟨_,rfl⟩,h⟩
theorem pe_bl {b j pos}:PE X (.Constant (.bool b) j pos) (tC (.bl b)):=fun _ _ _ H _ I h=>Constant_bool ⟨.bl b,H,I,rfl,h⟩
theorem zk6 {j pos}:PE X (.Constant .none j pos) (tC .non):=fun _ _ _ H _ I h=>Constant_none ⟨.non,H,I,rfl,h⟩
theorem zhC {x j pos}:PE X (.Constant (.str x) j pos) (tC (.str x)):=fun _ _ _ H _ I h=>ZaT ⟨.str x,H,I.tok _,⟨_,rfl⟩,h⟩
def Gl (X:Cx) (x:Str):Prop:=X.env.kindOf x=some .globalImplicit
theorem zb0 {E:Value->Shared->Prop} {pins:List (Addr×Obj)} {s:Shared} {σ:St} {H:Hp} {x:Str} {u:Value} {pos:Pos} {Q:Value->Shared->Prop} (I:Inv X pins σ H s) (hg:Gl X x) (hm:X.mg x=some u) (h:Q u s)
  (hd:(x==("__debug__" : Str))=false:=by decide):wpAny (model X.prog X.w) X.A (eval (.Name x pos) X.env) Q E s :=
 Calls.Name_function_global I.ok.kind hg (Calls.loadGlobal_global (by rw[I.ok.glob];exact I.mod.glob.keeps I.bk) hm h) hd
theorem pW {E:Value->Shared->Prop} {pins:List (Addr×Obj)} {s:Shared} {σ:St} {H:Hp} {x:Str} {u:Value} {pos:Pos} {Q:Value->Shared->Prop} (I:Inv X pins σ H s) (hg:Gl X x) (hm:X.mg x=none) (hv:bootBuiltins x=some u) (h:Q u s)
  (hn:x ≠ "__name__" := by decide) (hd:(x==("__debug__" : Str))=false:=by decide):wpAny (model X.prog X.w) X.A (eval (.Name x pos) X.env) Q E s:=by
 obtain ⟨mb,h1,h2⟩:=I.mod.blt;exact Calls.Name_function_global I.ok.kind hg (Calls.loadGlobal_builtin (by rw[I.ok.glob];exact I.mod.glob.keeps I.bk) hm (by rw[I.ok.blt];exact h1.keeps I.bk) ((h2 x hn).trans hv) h) hd
theorem ziT {x:Str} {v:V} {u:Value} {pos:Pos} (hg:Gl X x) (hm:X.mg x=some u) (r:yW v u) (hd:(x==("__debug__" : Str))=false:=by decide):PE X (.Name x pos) (tC v) :=
 fun _ _ _ H _ I h=>zb0 I hg hm ⟨v,H,I,r,h⟩ hd
theorem ziX {x:Str} {v:V} {u:Value} {pos:Pos} (hg:Gl X x) (hm:X.mg x=none) (hv:bootBuiltins x=some u) (r:yW v u) (hn:x ≠ "__name__" := by decide) (hd:(x==("__debug__" : Str))=false:=by decide):PE X (.Name x pos) (tC v) :=
 fun _ _ _ H _ I h=>pW I hg hm hv ⟨v,H,I,r,h⟩ hn hd
variable {a b:Expr} {ta tb:TE} {pos:Pos}
variable {tA tB':TT} {rest:List Expr}
def tAnd (t u:TT):TT:=fun σ H Q=>t σ H fun c H1=>if c=true then u σ H1 Q else Q false H1
def tOr (t u:TT):TT:=fun σ H Q=>t σ H fun c H1=>if c=true then Q true H1 else u σ H1 Q
def tNot (t:TT):TT:=fun σ H Q=>t σ H fun c H1=>Q (!c) H1
theorem ziG (ha:PT X a tA):PW X (.BoolOp .And [a] pos) tA:=by
 intro wh pins s σ H Q I h;refine isTrue_and (xY (ha pins s σ H Q I h) fun c s1 e=>?_)
 cases c with
 |true=>exact isTrue_and_nil e
 |false=>exact e
theorem zkQ (ha:PT X a tA):PW X (.BoolOp .Or [a] pos) tA:=by
 intro wh pins s σ H Q I h;refine isTrue_or (xY (ha pins s σ H Q I h) fun c s1 e=>?_)
 cases c with
 |false=>exact isTrue_or_nil e
 |true=>exact e
theorem zhy (ha:PT X a tA) (hb:PW X (.BoolOp .And (b::rest) pos) tB'):PW X (.BoolOp .And (a::b::rest) pos) (tAnd tA tB'):=by
 intro wh pins s σ H Q I h;refine isTrue_and (xY (ha pins s σ H _ I h) fun c s1 ⟨H1,I1,q1⟩=>?_)
 cases c with
 |true=>exact hb wh pins s1 σ H1 Q I1 q1
 |false=>exact ⟨H1,I1,q1⟩
theorem zkR (ha:PT X a tA) (hb:PW X (.BoolOp .Or (b::rest) pos) tB'):PW X (.BoolOp .Or (a::b::rest) pos) (tOr tA tB'):=by
 intro wh pins s σ H Q I h;refine isTrue_or (xY (ha pins s σ H _ I h) fun c s1 ⟨H1,I1,q1⟩=>?_)
 cases c with
 |true=>exact ⟨H1,I1,q1⟩
 |false=>exact hb wh pins s1 σ H1 Q I1 q1
theorem zkT (ha:PT X a tA):PT X (.UnaryOp .Not a pos) (tNot tA):=by
 intro pins s σ H Q I h;exact isTrue_not (ha pins s σ H (fun c H1=>Q (!c) H1) I h)
def zkp (ta tb:TE):TE:=fun σ H Q=>ta σ H fun x H1=>∃ c,x=.bl c/\if c=true then tb σ H1 Q else Q (.bl false) H1
def tOrV (ta tb:TE):TE:=fun σ H Q=>ta σ H fun x H1=>∃ c,x=.bl c/\if c=true then Q (.bl true) H1 else tb σ H1 Q
def tNotV (ta:TE):TE:=fun σ H Q=>ta σ H fun x H1=>∃ c,x=.bl c/\Q (.bl (!c)) H1
theorem zhD {op} {t:TE} (h:PE X a t):PE X (.BoolOp op [a] pos) t:=fun pins s σ H Q I hw=>BoolOp_one (h pins s σ H Q I hw)
theorem zhF (ha:PE X a ta) (hb:PE X (.BoolOp .And (b::rest) pos) tb):PE X (.BoolOp .And (a::b::rest) pos) (zkp ta tb):=by
 intro pins s σ H Q I h;refine BoolOp_and (xY (ha pins s σ H _ I h) fun v s1 ⟨x,H1,I1,r1,q1⟩=>?_);obtain ⟨c,rfl,q1⟩:=q1;cases r1;refine ZP ?_
 cases c with
 |true=>exact hb pins s1 σ H1 Q I1 q1
 |false=>exact ⟨.bl false,H1,I1,rfl,q1⟩
theorem zk4 (ha:PE X a ta) (hb:PE X (.BoolOp .Or (b::rest) pos) tb):PE X (.BoolOp .Or (a::b::rest) pos) (tOrV ta tb):=by
 intro pins s σ H Q I h;refine BoolOp_or (xY (ha pins s σ H _ I h) fun v s1 ⟨x,H1,I1,r1,q1⟩=>?_);obtain ⟨c,rfl,q1⟩:=q1;cases r1;refine ZP ?_
 cases c with
 |false=>exact hb pins s1 σ H1 Q I1 q1
 |true=>exact ⟨.bl true,H1,I1,rfl,q1⟩
theorem zk5 (ha:PE X a ta):PE X (.UnaryOp .Not a pos) (tNotV ta):=by
 intro pins s σ H Q I h;refine UnaryOp_ (xY (ha pins s σ H _ I h) fun v s1 ⟨x,H1,I1,r1,q1⟩=>?_);obtain ⟨c,rfl,q1⟩:=q1;cases r1;exact not_of (ZP ⟨.bl (!c),H1,I1,rfl,q1⟩)
def tIf (t:TT) (ta tb:TE):TE:=fun σ H Q=>t σ H fun c H1=>if c=true then ta σ H1 Q else tb σ H1 Q
theorem zgx {c:Expr} (hc:PT X c tA) (ha:PE X a ta) (hb:PE X b tb):PE X (.IfExp c a b pos) (tIf tA ta tb):=by
 intro pins s σ H Q I h;refine wpAny_IfExp (xY (hc pins s σ H _ I h) fun d s1 ⟨H1,I1,q1⟩=>?_)
 cases d with
 |true=>exact ha pins s1 σ H1 Q I1 q1
 |false=>exact hb pins s1 σ H1 Q I1 q1
end
end L2
namespace L2
open PySem PySem.Spec PyProof.Rows
def mY (K:PySem.W.Frag) (H:Hp) (a:Addr) (xs:List V):Prop :=
 Rd H a (.lst xs) \/
  ∃ (o:Obj) (its:Array Value) (n:Nat),K.lookup a=some o/\o.cls=.type "list" /\ o.dict=none/\o.data=.seq its n/\its.size<=sizeLine/\yZ xs its.toList
def pR (K:PySem.W.Frag) (H:Hp) (a:Addr) (xs:List V):Prop :=
 Rd H a (.tup xs) \/
  ∃ (o:Obj) (its:Array Value) (n:Nat),K.lookup a=some o/\o.cls=.type "tuple" /\ o.data=.seq its n/\its.size<=sizeLine/\yZ xs its.toList
def absV:Value->Option V
 | .none=>some .non
 | .bool b=>some (.bl b)
 | .int i _=>some (.int i)
 | .str x _=>some (.str x)
 | .bytes b _=>some (.byt b)
 | .float b _=>some (.flt b)
 | .ref a=>some (.ref a)
 | .type n=>some (.ty n)
 |_=>none
theorem yW.abs {x:V} {u:Value} (r:yW x u):absV u=some x:=by
 cases x with
 |non=>cases r;rfl
 |bl _=>cases r;rfl
 |int _=>obtain ⟨t,rfl⟩:=r;rfl
 |str _=>obtain ⟨t,rfl⟩:=r;rfl
 |byt _=>obtain ⟨t,rfl⟩:=r;rfl
 |flt _=>obtain ⟨t,rfl⟩:=r;rfl
 |ref _=>cases r;rfl
 |ty _=>cases r;rfl
theorem yW.inj {x y:V} {u:Value} (r:yW x u) (q:yW y u):x=y:=ZA (r.abs.symm.trans q.abs)
theorem yZ.inj:∀ {xs ys:List V} {us:List Value},yZ xs us->yZ ys us->xs=ys
 |_,_,_,.nil,.nil=>rfl
 |_,_,_,.cons r t,.cons r' t'=>by rw[r.inj r',yZ.inj t t']
section
variable {X:Cx} {pins:List (Addr×Obj)} {σ:St} {H:Hp} {s:Shared} {a:Addr} {xs ys:List V}
theorem mY.of {K:PySem.W.Frag} (h:H a=some (.lst xs)):mY K H a xs:=.inl (.inl h)
theorem pR.of {K:PySem.W.Frag} (h:H a=some (.tup xs)):pR K H a xs:=.inl (.inl h)
theorem Inv.list (I:Inv X pins σ H s) (h:mY X.K H a xs):∃ its:List Value,yZ xs its/\PlainL s.heap a its.toArray/\xs.length<=sizeLine:=by
 rcases h with h|⟨o,its,n,hk,hc,hd,hs,hz,r⟩
 .obtain ⟨z,its,n,r,e⟩:=h.ok I.hok;exact ⟨its,r,⟨_,n,e,rfl,rfl,rfl⟩,z⟩
 .refine ⟨its.toList,r,⟨o,n,I.kIn a o hk,hc,hd,by simpa using hs⟩,?_⟩;have e:=r.length;simp only[ZH] at e;omega
theorem Inv.tuple (I:Inv X pins σ H s) (h:pR X.K H a xs):∃ its:List Value,yZ xs its/\IsTup s.heap a its.toArray/\xs.length<=sizeLine:=by
 rcases h with h|⟨o,its,n,hk,hc,hs,hz,r⟩
 .obtain ⟨z,its,r,p⟩:=h.ok I.hok;exact ⟨its,r,p,z⟩
 .refine ⟨its.toList,r,⟨o,I.kIn a o hk,hc,n,by simpa using hs⟩,?_⟩;have e:=r.length;simp only[ZH] at e;omega
theorem Inv.list_inj (I:Inv X pins σ H s) (h:mY X.K H a xs) (h':mY X.K H a ys):xs=ys:=by
 obtain ⟨its,r,⟨o,n,e,_,_,d⟩,_⟩:=I.list h;obtain ⟨its',r',⟨o',n',e',_,_,d'⟩,_⟩:=I.list h';rw[e] at e';cases e';rw[d] at d'
 injection d' with d1 _
 have:its=its':=by simpa using congrArg Array.toList d1
 subst this;exact r.inj r'
theorem Inv.tuple_inj (I:Inv X pins σ H s) (h:pR X.K H a xs) (h':pR X.K H a ys):xs=ys:=by
 obtain ⟨its,r,⟨o,e,_,n,d⟩,_⟩:=I.tuple h;obtain ⟨its',r',⟨o',e',_,n',d'⟩,_⟩:=I.tuple h';rw[e] at e';cases e';rw[d] at d'
 injection d' with d1 _
 have:its=its':=by simpa using congrArg Array.toList d1
 subst this;exact r.inj r'
end
abbrev Cx.wish (X:Cx) (E:Value->Shared->Prop):Cx:={ X with xe:=E }
abbrev Cx.nox (X:Cx):Cx:=X.wish fun _ _=>False
theorem Cx.Ok.wish {X:Cx} (ok:X.Ok) (E:Value->Shared->Prop):(X.wish E).Ok :=
 ⟨ok.mod,ok.kind,ok.glob,ok.blt,ok.above,ok.inj,ok.has,ok.cab,ok.hd,ok.frames,ok.stk,ok.exf,ok.bs,ok.bsz,ok.noex,ok.exfs,ok.funs,ok.frf⟩
theorem Cx.Ok.unwish {X:Cx} {E:Value->Shared->Prop} (ok:(X.wish E).Ok):X.Ok :=
 ⟨ok.mod,ok.kind,ok.glob,ok.blt,ok.above,ok.inj,ok.has,ok.cab,ok.hd,ok.frames,ok.stk,ok.exf,ok.bs,ok.bsz,ok.noex,ok.exfs,ok.funs,ok.frf⟩
section
variable {X:Cx} {pins:List (Addr×Obj)} {σ:St} {H:Hp} {s:Shared} {E:Value->Shared->Prop}
theorem Inv.wish (I:Inv X pins σ H s) (E:Value->Shared->Prop):Inv (X.wish E) pins σ H s:=⟨I.ok.wish E,I.os,I.bare,I.base,I.loc,I.cell,I.free,I.freeC,I.pin,I.hok,I.len,I.tk⟩
theorem Inv.unwish (I:Inv (X.wish E) pins σ H s):Inv X pins σ H s:=⟨I.ok.unwish,I.os,I.bare,I.base,I.loc,I.cell,I.free,I.freeC,I.pin,I.hok,I.len,I.tk⟩
theorem SP.unwish {D:Ends} {f:Flow} {s':Shared} (h:SP (X.wish E) pins D f s'):SP X pins D f s':=by
 cases f with
 |next=>obtain ⟨σ',H',I,q⟩:=h;exact ⟨σ',H',I.unwish,q⟩
 |brk=>obtain ⟨σ',H',I,q⟩:=h;exact ⟨σ',H',I.unwish,q⟩
 |cont=>obtain ⟨σ',H',I,q⟩:=h;exact ⟨σ',H',I.unwish,q⟩
 |ret u=>obtain ⟨v,σ',H',I,r,q⟩:=h;exact ⟨v,σ',H',I.unwish,r,q⟩
theorem PE.nox {e:Expr} {t:TE} (h:PE X.nox e t):PE X e t:=fun pins s σ H Q I hw =>
 Zaa (h pins s σ H Q (I.wish _) hw) (fun _ _ ⟨v,H',I',r,q⟩=>⟨v,H',I'.unwish,r,q⟩) fun _ _ z=>False.elim z
theorem PSs.nox {st:List Stmt} {t:TS} (h:PSs X.nox st t):PSs X st t:=fun pins s σ H D I hw =>
 Zaa (h pins s σ H D (I.wish _) hw) (fun _ _ q=>q.unwish) fun _ _ z=>False.elim z
end
section
variable {X:Cx} {st:Stmt} {rest:List Stmt} {t u:TS} {e:Expr} {te:TE} {pos:Pos}
def zkm:TS:=fun D σ H=>D.nx σ H
def tSeq (t u:TS):TS:=fun D σ H=>t { D with nx:=u D } σ H
theorem ziL:PSs X [] zkm:=fun _ _ σ H _ I h=>ZbZ ⟨σ,H,I,h⟩
theorem zgm (h1:PS X st t) (h2:PSs X rest u):PSs X (st::rest) (tSeq t u):=by
 intro pins s σ H D I h;refine wpAny_execs_cons (xY (h1 pins s σ H { D with nx:=u D } I h) fun f s1 q=>?_)
 cases f with
 |next =>
  obtain ⟨σ',H',I',q⟩:=q;exact h2 pins s1 σ' H' D I' q
 |ret v=>exact q
 |brk=>exact q
 |cont=>exact q
def zko:TS:=fun D σ H=>D.bk σ H
def tCont:TS:=fun D σ H=>D.ct σ H
theorem ziN:PS X (.Pass pos) zkm:=fun _ _ σ H _ I h=>wpAny_Pass ⟨σ,H,I,h⟩
theorem zgq:PS X (.Break pos) zko:=fun _ _ σ H _ I h=>wpAny_Break ⟨σ,H,I,h⟩
theorem zbP:PS X (.Continue pos) tCont:=fun _ _ σ H _ I h=>wpAny_Continue ⟨σ,H,I,h⟩
theorem Inv.quiet {pins:List (Addr×Obj)} {σ:St} {H:Hp} {s:Shared} (I:Inv X pins σ H s):interactive X.env=false:=by simp[interactive,I.ok.kind]
def tDrop (te:TE):TS:=fun D σ H=>te σ H fun _ H1=>D.nx σ H1
theorem ziO (he:PE X e te) (hs:swapsWith e none pos.line X.env=pure false:=by rfl):PS X (.Expr e pos) (tDrop te):=by
 intro pins s σ H D I h;exact wpAny_Expr_any (xY (he pins s σ H _ I h) fun v s1 ⟨x,H1,I1,r1,q1⟩=>⟨σ,H1,I1,q1⟩) I.quiet hs
def tRet (te:TE):TS:=fun D σ H=>te σ H D.rt
theorem zkU (he:PE X e te):PS X (.Return (some e) pos) (tRet te):=by
 intro pins s σ H D I h;exact wpAny_Return_some (xY (he pins s σ H _ I h) fun v s1 ⟨x,H1,I1,r1,q1⟩=>⟨x,σ,H1,I1,r1,q1⟩)
def tRetN:TS:=fun D _ H=>D.rt .non H
theorem ziM:PS X (.Return none pos) tRetN:=fun _ _ σ H _ I h=>wpAny_Return_none ⟨.non,σ,H,I,rfl,h⟩
def tIfS (c:TT) (t u:TS):TS:=fun D σ H=>c σ H fun b H1=>if b=true then t D σ H1 else u D σ H1
theorem ps_if {c:Expr} {a b:List Stmt} {tc:TT} (hc:PT X c tc) (ha:PSs X a t) (hb:PSs X b u):PS X (.If c a b pos) (tIfS tc t u):=by
 intro pins s σ H D I h;refine wpAny_If (xY (hc pins s σ H _ I h) fun d s1 ⟨H1,I1,q1⟩=>?_)
 cases d with
 |true=>exact ha pins s1 σ H1 D I1 q1
 |false=>exact hb pins s1 σ H1 D I1 q1
def zkn:TS:=fun _ _ _=>False
theorem zgp:PS X st zkn:=fun _ _ _ _ _ _ h=>h.elim
end
abbrev TG:=V->St->Hp->(St->Hp->Prop)->Prop
abbrev TGs:=List V->St->Hp->(St->Hp->Prop)->Prop
def PG (X:Cx) (target:Expr) (t:TG):Prop :=
 ∀ (pins:List (Addr×Obj)) (s:Shared) (σ:St) (H:Hp) (v:V) (u:Value) (Q:St->Hp->Prop),Inv X pins σ H s->yW v u->t v σ H Q ->
  wpAny (model X.prog X.w) X.A (assign target X.env u) (fun _ s'=>∃ σ' H',Inv X pins σ' H' s'/\Q σ' H') X.xe s
def PGs (X:Cx) (ts:List Expr) (t:TGs):Prop :=
 ∀ (pins:List (Addr×Obj)) (s:Shared) (σ:St) (H:Hp) (vs:List V) (us:List Value) (Q:St->Hp->Prop),Inv X pins σ H s->yZ vs us->t vs σ H Q ->
  wpAny (model X.prog X.w) X.A (assignInOrder ((assignEach ts X.env).map (·.2)) us) (fun _ s'=>∃ σ' H',Inv X pins σ' H' s'/\Q σ' H') X.xe s
abbrev TSet:=V->V->V->Hp->(Hp->Prop)->Prop
def PSet (X:Cx) (t:TSet):Prop :=
 ∀ (pins:List (Addr×Obj)) (s:Shared) (σ:St) (H:Hp) (o i v:V) (ov iv u:Value) (Q:Hp->Prop),Inv X pins σ H s->yW o ov->yW i iv->yW v u->t o i v H Q ->
  wpAny (model X.prog X.w) X.A (setItem ov iv u) (fun _ s'=>∃ H',Inv X pins σ H' s'/\Q H') X.xe s
abbrev TIp:=V->V->Hp->VK->Prop
def PIp (X:Cx) (op:Operator) (t:TIp):Prop :=
 ∀ (pins:List (Addr×Obj)) (s:Shared) (σ:St) (H:Hp) (x y:V) (v u:Value) (Q:VK),Inv X pins σ H s->yW x v->yW y u->t x y H Q ->
  wpAny (model X.prog X.w) X.A (inplaceOp op v u) (EP X pins σ Q) X.xe s
section
variable {X:Cx} {pos:Pos}
def zg4 (i:Nat):TG:=fun v σ H Q=>Q (σ.set i (some v)) H
theorem zbR {i:Nat} {x:Str} (hN:X.N.Nodup) (hi:X.N[i]?=some x) (hx:Loc X.env.scope x) (hf:X.fn x=true\/X.env.scope.names.lookup x=some .local:=by first|exact .inl rfl|exact .inr rfl|assumption):PG X (.Name x pos) (zg4 i):=by
 intro pins s σ H v u Q I r h;exact wpAny_assign_Name (dJ I hN hi hx r (fun s' I'=>⟨_,H,I',h⟩) hf)
def gNil:TGs:=fun vs σ H Q=>vs=[]/\Q σ H
def gCons (t:TG) (u:TGs):TGs:=fun vs σ H Q=>∃ v r,vs=v::r/\t v σ H fun σ' H'=>u r σ' H' Q
theorem zex:PGs X [] gNil:=by
 intro pins s σ H vs us Q I r h;obtain ⟨e,h⟩:=h;subst e;cases r;exact assignInOrder_nil ⟨σ,H,I,h⟩
theorem cN {e:Expr} {es:List Expr} {t:TG} {u:TGs} (h1:PG X e t) (h2:PGs X es u)
  (hs:(assignEach (e::es) X.env).map (·.2)=assign e X.env::(assignEach es X.env).map (·.2):=by rfl):PGs X (e::es) (gCons t u):=by
 intro pins s σ H vs us Q I r h;obtain ⟨v,vr,e1,h⟩:=h;subst e1
 cases r with
 |cons r rr =>
  rw[hs];refine assignInOrder_cons (xY (h1 pins s σ H _ _ _ I r h) fun _ s1 ⟨σ1,H1,I1,q1⟩=>?_);exact h2 pins s1 σ1 H1 _ _ Q I1 rr q1
def gTup (K:PySem.W.Frag) (n:Nat) (t:TGs):TG:=fun v σ H Q=>∃ a xs,v=.ref a/\pR K H a xs/\xs.length=n/\t xs σ H Q
theorem zhB {es:List Expr} {k:Nat} {t:TGs} {n:Nat} (hc:X.calm=true) (h:PGs X es t)
  (hn:(assignEach es X.env).length=n:=by rfl) (hst:(assignEach es X.env).findIdx? (·.1)=none:=by rfl):PG X (.Tuple es k pos) (gTup X.K n t):=by
 intro pins s σ H v u Q I r hw;obtain ⟨a,xs,e1,hq,hl,hw⟩:=hw;subst e1;cases r;obtain ⟨its,rv,ht,hz⟩:=I.tuple hq;refine assign_Tuple_tuple (I.ok.hd hc) ht (by simp[hn,← hl,rv.length]) hst fun h' hx=>?_;have I1:Inv X pins σ H { s with heap:=h' }:=I.kept (t':=s.toks) fun b o e=>hx b o (Zr (Zi e)) e;exact h pins _ σ H xs _ Q I1 (by simpa using rv) hw
def tAsg (te:TE) (g:TG):TS:=fun D σ H=>te σ H fun x H1=>g x σ H1 D.nx
theorem zhA {tg e:Expr} {te:TE} {g:TG} (he:PE X e te) (hg:PG X tg g) (hs:swapsWithSole [tg] e pos.line X.env=pure false:=by rfl) (hw:swappedStores [tg] e X.env=pure none:=by rfl)
  (h1:(assignEach [tg] X.env).map (·.2)=[assign tg X.env]:=by rfl):PS X (.Assign [tg] e pos) (tAsg te g):=by
 intro pins s σ H D I h;refine wpAny_Assign_stores (xY (he pins s σ H _ I h) fun v s1 ⟨x,H1,I1,r1,q1⟩=>?_) hs hw;rw[h1];exact xY (hg pins s1 σ H1 x v _ I1 r1 q1) fun _ s2 q=>q
theorem zhz {i:Nat} {x:Str} {e:Expr} {te:TE} {pos':Pos} (hN:X.N.Nodup) (hi:X.N[i]?=some x) (hx:Loc X.env.scope x) (he:PE X e te) (hs:swapsWith e (some (.Name x pos')) pos.line X.env=pure false:=by rfl) (hf:X.fn x=true\/X.env.scope.names.lookup x=some .local:=by first|exact .inl rfl|exact .inr rfl|assumption) :
  PS X (.Assign [.Name x pos'] e pos) (tAsg te (zg4 i)):=by
 intro pins s σ H D I h;refine wpAny_Assign_Name (xY (he pins s σ H _ I h) fun v s1 ⟨y,H1,I1,r1,q1⟩=>?_) hs;exact dJ I1 hN hi hx r1 (fun s2 I2=>⟨_,H1,I2,q1⟩) hf
def tAug (i:Nat) (te:TE) (ti:TIp):TS:=fun D σ H=>∃ x,σ[i]?=some (some x)/\te σ H fun y H1=>ti x y H1 fun z H2=>D.nx (σ.set i (some z)) H2
theorem zkW {i:Nat} {x:Str} {e:Expr} {te:TE} {op:Operator} {ti:TIp} {pos':Pos} (hN:X.N.Nodup) (hi:X.N[i]?=some x) (hx:Loc X.env.scope x) (he:PE X e te) (ho:PIp X op ti) (hf:X.fn x=true\/X.env.scope.names.lookup x=some .local:=by first|exact .inl rfl|exact .inr rfl|assumption) :
  PS X (.AugAssign (.Name x pos') op e pos) (tAug i te ti):=by
 intro pins s σ H D I h;obtain ⟨v,e1,h⟩:=h;obtain ⟨m,hn,hl⟩:=I.loc;have vis:Vis X.env.scope x:=by rcases hx with k|k;exact .inl k;exact .inr (.inl k)
 obtain ⟨u,r,l⟩:=hl i x v hi e1 vis;refine wpAny_AugAssign_Name ?_
 have go:wpAny (model X.prog X.w) X.A (eval e X.env) (fun w s₂=>wpAny (model X.prog X.w) X.A (inplaceOp op u w) (fun r s₃=>wpAny (model X.prog X.w) X.A (storeName X.env x r) (fun _=>SP X pins D .next) X.xe s₃) X.xe s₂) X.xe s:=by
  refine xY (he pins s σ H _ I h) fun w s1 ⟨y,H1,I1,r1,q1⟩=>?_;refine xY (ho pins s1 σ H1 v y u w _ I1 r r1 q1) fun z s2 ⟨zv,H2,I2,r2,q2⟩=>?_;exact dJ I2 hN hi hx r2 (fun s3 I3=>⟨_,H2,I3,q2⟩) hf
 rcases l with ⟨hk,hm⟩|⟨hk,c,hc,hcell⟩
 .exact wpAny_loadName_local I.ok.kind hk hn hm go
 .rcases hk with hk|hk
  .exact wpAny_loadName_cell I.ok.kind hk hc hcell go
  .rcases hx with k|k
   .have:X.env.scope.names.lookup x=some .free:=hk;rw[k] at this;cases this
   .have:X.env.scope.names.lookup x=some .free:=hk;rw[k] at this;cases this
end
section
variable {X:Cx} {pos:Pos}
def zkk (c:TT) (tb:TS):TS:=fun D σ H=>∃ W:Nat->St->Hp->Prop,(∃ m,W m σ H)/\∀ m σ H,W m σ H ->
 c σ H fun b H1=>if b=true then ∃ N:St->Hp->Prop,(∀ σ' H',N σ' H'->∃ m',m' < m/\W m' σ' H')/\tb { D with nx:=N,ct:=N,bk:=D.nx } σ H1 else D.nx σ H1
theorem zgn {c:Expr} {body:List Stmt} {tc:TT} {tb:TS} (hp:PassesOwn (model X.prog X.w) X.A X.env X.xe) (hc:PT X c tc) (hb:PSs X body tb):PS X (.While c body [] pos) (zkk tc tb):=by
 intro pins s σ H D I h;obtain ⟨W,⟨m0,w0⟩,turn⟩:=h;refine wpAny_While (codeAny_whileLoop (fun n s'=>∃ σ' H',Inv X pins σ' H' s'/\W n σ' H') ?_ m0 ⟨σ,H,I,w0⟩);rintro n s1 ⟨σ1,H1,I1,w1⟩;refine Zav hp (xY (hc pins s1 σ1 H1 _ I1 (turn n σ1 H1 w1)) fun b s2 ⟨H2,I2,q2⟩=>?_)
 cases b with
 |true =>
  obtain ⟨N,hN,q2⟩:=q2;rw[if_pos rfl];refine Zav hp (xY (hb pins s2 σ1 H2 _ I2 q2) fun f s3 q3=>?_)
  cases f with
  |next =>
   obtain ⟨σ3,H3,I3,n3⟩:=q3;obtain ⟨m',hm,w3⟩:=hN σ3 H3 n3;exact ⟨m',hm,σ3,H3,I3,w3⟩
  |cont =>
   obtain ⟨σ3,H3,I3,n3⟩:=q3;obtain ⟨m',hm,w3⟩:=hN σ3 H3 n3;exact ⟨m',hm,σ3,H3,I3,w3⟩
  |brk=>exact q3
  |ret v=>exact q3
 |false =>
  rw[if_neg zzN];exact ZbZ ⟨σ1,H2,I2,q2⟩
end
structure It where
 go:Nat->Hp->Prop
 yld:Nat->Hp->V->Hp->Prop
 stop:Nat->Hp->Prop
def uB (X:Cx) (pins:List (Addr×Obj)) (H:Hp) (b:Addr):Prop :=
 H b=none/\b≠X.env.locals/\b∉X.fs/\(b∈X.ex\/X.s₀.heap.objs.size<=b)/\(∀ x c,X.env.cells.lookup x=some c->c≠b)/\∀ p∈X.pn++pins,p.1≠b
theorem Inv.fpOk {X:Cx} {pins:List (Addr×Obj)} {σ:St} {H H':Hp} {s:Shared} {b:Addr} (I:Inv X pins σ H s) (hb:s.heap.objs.size<=b) (hn:H' b=none):uB X pins H' b:=by
 refine ⟨hn,Zad (Zm I.lt hb),I.nofs hb,.inr (Ze I.sz hb),fun x c e z=>?_,fun p hp z=>?_⟩
 .obtain ⟨v,q⟩:=I.cell x c e;exact absurd (Zm q.lt (by rw[z];exact hb)) (Z7 _)
 .exact absurd (Zm (Zi (I.pin p hp).1) (by rw[z];exact hb)) (Z7 _)
structure Turn (P:Program) (w:World) (K:PySem.W.Frag) (tg:Expr) (J:It) (fp:List Addr) (it:Addr) (tn:Nat->Heap->Prop):Prop where
 mem:it∈fp
 obj:∀ i h,tn i h->∀ b∈fp,∃ o,h.get? b=some o/\∀ v,o.data≠.cell v
 keep:∀ i h h',tn i h->(∀ b∈fp,∀ o,h.get? b=some o->h'.get? b=some o)->tn i h'
 item:∀ (X:Cx),X.prog=P->X.w=w->X.K=K->X.calm=true->∀ (i:Nat) (pins:List (Addr×Obj)) (s:Shared) (σ:St) (H:Hp) (E:Value->Shared->Prop),Inv X pins σ H s->(∀ b∈fp,uB X pins H b)->tn i s.heap->J.go i H ->
  wpAny (model P w) X.A (pyNext (.ref it)) (fun r s1=>∃ u,r=some u /\
   wpAny (model P w) X.A (letOwnedTupleGo tg (.ref it) u) (fun _ s2=>∃ x H',Inv X pins σ H' s2/\yW x u/\J.yld i H x H'/\tn (i+1) s2.heap/\∀ b∈fp,H' b=none) E s1) E s
 done:∀ (X:Cx),X.prog=P->X.w=w->X.K=K->X.calm=true->∀ (i:Nat) (pins:List (Addr×Obj)) (s:Shared) (σ:St) (H:Hp) (E:Value->Shared->Prop),Inv X pins σ H s->(∀ b∈fp,uB X pins H b)->tn i s.heap->J.stop i H ->
  wpAny (model P w) X.A (pyNext (.ref it)) (fun r s1=>r=none/\Inv X pins σ H s1) E s
 self:∀ (A:Around) (i:Nat) (s:Shared) (Q:Value->Shared->Prop) (E:Value->Shared->Prop),tn i s.heap->Q (.ref it) s->wpAny (model P w) A (pyIter (.ref it)) Q E s
abbrev TI:=St->Hp->(It->Hp->Prop)->Prop
def PIE (X:Cx) (pins:List (Addr×Obj)) (σ:St) (tg:Expr) (R:It->Hp->Prop) (itv:Value) (s2:Shared):Prop :=
 ∃ (it:Addr) (fp:List Addr) (tn:Nat->Heap->Prop) (J:It) (H':Hp),itv=.ref it/\Inv X pins σ H' s2/\Turn X.prog X.w X.K tg J fp it tn/\tn 0 s2.heap/\(∀ b∈fp,uB X pins H' b)/\R J H'
def PI (X:Cx) (tg iter:Expr) (wi:TI):Prop :=
 ∀ (pins:List (Addr×Obj)) (s:Shared) (σ:St) (H:Hp) (R:It->Hp->Prop),Inv X pins σ H s->wi σ H R ->
  wpAny (model X.prog X.w) X.A (eval iter X.env) (fun v s1=>wpAny (model X.prog X.w) X.A (pyIter v) (PIE X pins σ tg R) X.xe s1) X.xe s
theorem zfe {M:Model} {A:Around} {E:Value->Shared->Prop} {s:Shared} {tg:Expr} {it:Addr} {u:Value} {o:Obj} {n:String} {vs:Array Value} {Q:Unit->Shared->Prop} (ho:s.heap.get? it=some o) (hc:o.cls=.type n) (hd:o.data=.fields vs)
    (hn:["enumerate", "zip", "dict_itemiterator", "dict_reverseitemiterator", "odict_iterator", "itertools.zip_longest", "itertools.pairwise"].contains n=false) (hQ:Q () s):wpAny M A (letOwnedTupleGo tg (.ref it) u) Q E s:=by
  unfold letOwnedTupleGo
  cases tg<;>first
    |exact Zg hQ
    | (cases u<;>first
        |exact Zg hQ
        | (refine Zb (wpAny_load ho ?_)
           rw[hc,hd];show wpAny M A (if (["enumerate", "zip", "dict_itemiterator", "dict_reverseitemiterator", "odict_iterator", "itertools.zip_longest", "itertools.pairwise"].contains n&&vs[0]?==some (rawInt _))=true then _ else _) Q E s;rw[if_neg (by intro h;rw[hn,Bool.false_and] at h;cases h)];exact Zg hQ))
def Itl (K:PySem.W.Frag) (a:Addr):It :=
 ⟨fun i H=>∃ xs x,mY K H a xs/\xs[i]?=some x,fun i H x H'=>H'=H/\∀ xs,mY K H a xs->xs[i]?=some x,fun i H=>∃ xs,mY K H a xs/\xs.length<=i⟩
def Itt (K:PySem.W.Frag) (a:Addr):It :=
 ⟨fun i H=>∃ xs x,pR K H a xs/\xs[i]?=some x,fun i H x H'=>H'=H/\∀ xs,pR K H a xs->xs[i]?=some x,fun i H=>∃ xs,pR K H a xs/\xs.length<=i⟩
def Itr (lo:Int) (n:Nat):It:=⟨fun i _=>i<n,fun i H x H'=>H'=H/\x=.int (lo+i),fun i _=>n<=i⟩
theorem zdW {P:Program} {w:World} {K:PySem.W.Frag} {tg:Expr} (a it:Addr):Turn P w K tg (Itl K a) [it] it (fun i h=>h.IsListIter it a i) where
 mem:=by simp
 obj:=fun i h st b hb=>by
  have e:b=it:=by simpa using hb
  subst e;obtain ⟨o,e,c,d⟩:=st;exact ⟨o,e,fun v z=>by rw[d] at z;cases z⟩
 keep:=fun i h h' st k=>st.at fun o e=>k it (by simp) o e
 item:=by
  intro X hP hw hK hc i pins s σ H E I hf st hg;subst hP hw hK;obtain ⟨xs,x,hq,hx⟩:=hg;obtain ⟨its,rv,p,hz⟩:=I.list hq;obtain ⟨u,hu,ru⟩:=rv.get hx;obtain ⟨f0,f1,f2,f3,f4,f5⟩:=hf it (by simp);refine wpAny_pyNext_list_item st p.isList (x:=u) (by simpa using hu) fun h' st' sb=>?_;have I1:Inv X pins σ H { s with heap:=h' }:=I.turned (t':=s.toks) (fun b o hb e=>(sb.2 b hb).trans e) f0 f1 f3 f4 f5;obtain ⟨o,e,c,d⟩:=id st';exact ⟨u,rfl,zfe (s:={ s with heap:=h' }) e c d (by decide) ⟨x,H,I1,ru,⟨rfl,fun ys hy=>by rw[I.list_inj hy hq];exact hx⟩,st',fun b hb=>(hf b hb).1⟩⟩
 done:=by
  intro X hP hw hK hc i pins s σ H E I hf st hg;subst hP hw hK;obtain ⟨xs,hq,hx⟩:=hg;obtain ⟨its,rv,p,hz⟩:=I.list hq;obtain ⟨f0,f1,f2,f3,f4,f5⟩:=hf it (by simp);have hl:=rv.length;exact wpAny_pyNext_list_end (I.ok.hd hc) st p.isList (by simp;omega) fun h' eb=>⟨rfl,I.turned (t':=s.toks) (fun b o hb e=>eb b o hb e) f0 f1 f3 f4 f5⟩
 self:=fun _ _ _ _ _ st h=>wpAny_pyIter_listiter st h
theorem zdf {P:Program} {w:World} {K:PySem.W.Frag} {tg:Expr} (a it:Addr):Turn P w K tg (Itt K a) [it] it (fun i h=>h.IsTupleIter it a i) where
 mem:=by simp
 obj:=fun i h st b hb=>by
  have e:b=it:=by simpa using hb
  subst e;obtain ⟨o,e,c,d⟩:=st;exact ⟨o,e,fun v z=>by rw[d] at z;cases z⟩
 keep:=fun i h h' st k=>st.at fun o e=>k it (by simp) o e
 item:=by
  intro X hP hw hK hc i pins s σ H E I hf st hg;subst hP hw hK;obtain ⟨xs,x,hq,hx⟩:=hg;obtain ⟨its,rv,p,hz⟩:=I.tuple hq;obtain ⟨u,hu,ru⟩:=rv.get hx;obtain ⟨f0,f1,f2,f3,f4,f5⟩:=hf it (by simp);refine wpAny_pyNext_tuple_item st (show s.heap.IsTuple a its.toArray from p) (x:=u) (by simpa using hu) fun h' st' sb=>?_;have I1:Inv X pins σ H { s with heap:=h' }:=I.turned (t':=s.toks) (fun b o hb e=>(sb.2 b hb).trans e) f0 f1 f3 f4 f5;obtain ⟨o,e,c,d⟩:=id st';exact ⟨u,rfl,zfe (s:={ s with heap:=h' }) e c d (by decide) ⟨x,H,I1,ru,⟨rfl,fun ys hy=>by rw[I.tuple_inj hy hq];exact hx⟩,st',fun b hb=>(hf b hb).1⟩⟩
 done:=by
  intro X hP hw hK hc i pins s σ H E I hf st hg;subst hP hw hK;obtain ⟨xs,hq,hx⟩:=hg;obtain ⟨its,rv,p,hz⟩:=I.tuple hq;obtain ⟨f0,f1,f2,f3,f4,f5⟩:=hf it (by simp);have hl:=rv.length;exact wpAny_pyNext_tuple_end (I.ok.hd hc) st (show s.heap.IsTuple a its.toArray from p) (by simp;omega) fun h' eb=>⟨rfl,I.turned (t':=s.toks) (fun b o hb e=>eb b o hb e) f0 f1 f3 f4 f5⟩
 self:=fun _ _ _ _ _ st h=>wpAny_pyIter_tupleiter st h
theorem zdg {P:Program} {w:World} {K:PySem.W.Frag} {tg:Expr} (it:Addr) (lo:Int) (n:Nat):Turn P w K tg (Itr lo n) [it] it (fun i h=>IsRangeIter h it (lo+(i:Nat) * 1) ((n:Int)-(i:Nat)) 1) where
 mem:=by simp
 obj:=fun i h st b hb=>by
  have e:b=it:=by simpa using hb
  subst e
  exact ⟨_,st,fun v z=>by
   have z':Data.fields _=Data.cell v:=z;cases z'⟩
 keep:=fun i h h' st k=>k it (by simp) _ st
 item:=by
  intro X hP hw hK hc i pins s σ H E I hf st hg;subst hP hw hK;obtain ⟨f0,f1,f2,f3,f4,f5⟩:=hf it (by simp);have W:=Walks.range (prog:=X.prog) (w:=X.w) (I.ok.hd hc) it lo 1 n;refine qI I.tk (W.item i s _ _ hg st fun v h' tk hv st' kk h0=>?_);obtain ⟨t,rfl⟩:=hv;have I1:Inv X pins σ H { s with heap:=h',toks:=tk }:=I.turned (fun b o hb e=>kk b o (by simpa using hb) e) f0 f1 f3 f4 f5;refine ⟨_,rfl,zfe (s:={ s with heap:=h',toks:=tk }) (n := "range_iterator") st' rfl rfl (by decide) ⟨.int (lo+i),H,I1,⟨t,?_⟩,⟨rfl,rfl⟩,st',fun b hb=>(hf b hb).1⟩⟩;rw[Int.mul_one]
 done:=by
  intro X hP hw hK hc i pins s σ H E I hf st hg;subst hP hw hK;obtain ⟨f0,f1,f2,f3,f4,f5⟩:=hf it (by simp);exact wpAny_pyNext_range_end (I.ok.hd hc) st (by have:n<=i:=hg;omega) fun h' eb=>⟨rfl,I.turned (t':=s.toks) (fun b o hb e=>eb b o hb e) f0 f1 f3 f4 f5⟩
 self:=fun _ _ _ _ _ st h=>wpAny_pyIter_rangeiter st h
end L2
namespace L2
open PySem PySem.Spec PyProof.Rows
section
variable {X:Cx} {tg:Expr}
theorem zgj {pins:List (Addr×Obj)} {σ:St} {H:Hp} {s:Shared} {R:It->Hp->Prop} {E:Value->Shared->Prop} {lo hi:Int} {t u v:Tok} {tk:Nat} (I:Inv X pins σ H s) (h0:0<tk) (h1:-(2 ^ 62)<=lo) (h2:lo<2 ^ 62) (h3:-(2 ^ 62)<=hi) (h4:hi<2 ^ 62)
  (q:R (Itr lo (hi-lo).toNat) H):wpAny (model X.prog X.w) X.A (pyIter (.ref s.heap.objs.size)) (PIE X pins σ tg R) E { s with heap:=s.heap.push { cls:=.type "range", data:=.fields #[.int lo t,.int hi u,.int 1 v] },toks:=tk }:=by
 refine wpAny_pyIter_range (IsRange.new ..) (small_one h1 h2 h3 h4) ?_;have I1:Inv X pins σ H { s with heap:=s.heap.push { cls:=.type "range", data:=.fields #[.int lo t,.int hi u,.int 1 v] },toks:=tk }:=I.kept fun b o e=>Za _ e
 refine ⟨(s.heap.push { cls:=.type "range", data:=.fields #[.int lo t,.int hi u,.int 1 v] }).objs.size,[(s.heap.push { cls:=.type "range", data:=.fields #[.int lo t,.int hi u,.int 1 v] }).objs.size],_,_,H,rfl,
  I1.kept (t':=tk) fun b o e=>Za _ e,zdg _ lo (hi-lo).toNat,?_,fun b hb=>?_,q⟩
 .have e1:lo+((0:Nat):Int) * 1=lo:=by simp
  have e2:(((hi-lo).toNat:Nat):Int)-((0:Nat):Int)=Builtin.Range.rangeSize lo hi 1:=by rw[rangeSize_one];split<;>omega
  show IsRangeIter _ _ (lo+((0:Nat):Int) * 1) ((((hi-lo).toNat:Nat):Int)-((0:Nat):Int)) 1;rw[e1,e2];exact Zk _ rfl
 .have e:b=(s.heap.push { cls:=.type "range", data:=.fields #[.int lo t,.int hi u,.int 1 v] }).objs.size:=by simpa using hb
  subst e;exact I1.fpOk (zzR _) (I1.hok.fresh (zzR _))
def tFor (wi:TI) (g:TG) (tb:TS):TS:=fun D σ H=>wi σ H fun J H1=>∃ W:Nat->Nat->St->Hp->Prop,(∃ m,W 0 m σ H1)/\∀ i m σ H,W i m σ H ->
 (J.stop i H/\D.nx σ H)\/(J.go i H/\∃ N:St->Hp->Prop,(∀ σ' H',N σ' H'->∃ m',m' < m/\W (i+1) m' σ' H')/\∀ x H',J.yld i H x H'->g x σ H' fun σ2 H2=>tb { D with nx:=N,ct:=N,bk:=D.nx } σ2 H2)
def mL (fp:List Addr) (h:Heap):List (Addr×Obj):=fp.filterMap fun b=>(h.get? b).map fun o=>(b,o)
theorem uR {fp:List Addr} {h:Heap} {b:Addr} {o:Obj} (hb:b∈fp) (e:h.get? b=some o):(b,o)∈mL fp h:=ZbC.mpr ⟨b,hb,by rw[e];rfl⟩
theorem zeF {fp:List Addr} {h:Heap} {p:Addr×Obj} (hp:p∈mL fp h):p.1∈fp/\h.get? p.1=some p.2:=by
 obtain ⟨b,hb,e⟩:=ZbC.mp hp
 cases q:h.get? b with
 |none=>rw[q] at e;cases e
 |some o =>
  rw[q] at e;have e':(b,o)=p:=ZA e;subst e';exact ⟨hb,q⟩
theorem Inv.pinned {pins:List (Addr×Obj)} {σ:St} {H:Hp} {s:Shared} {fp:List Addr} (I:Inv X pins σ H s) (hf:∀ b∈fp,uB X pins H b) (ho:∀ b∈fp,∃ o,s.heap.get? b=some o/\∀ v,o.data≠.cell v):Inv X (pins++mL fp s.heap) σ H s :=
 I.pins_of fun p hp=>(ZD.mp hp).elim (fun z=>I.pin p (Zt _ z)) fun z=>by
  obtain ⟨hb,e⟩:=zeF z;obtain ⟨f0,f1,f2,_⟩:=hf p.1 hb;obtain ⟨o,e',d⟩:=ho p.1 hb;rw[e] at e';cases e';exact ⟨e,f0,f1,f2,d⟩
theorem Inv.unpinned {pins pl:List (Addr×Obj)} {σ:St} {H:Hp} {s:Shared} (I:Inv X (pins++pl) σ H s):Inv X pins σ H s:=I.pins_of fun p hp=>I.pin p (Zt _ (Zar _ hp))
theorem zkV {iter:Expr} {body:List Stmt} {wi:TI} {g:TG} {tb:TS} {pos:Pos} (hp:PassesOwn (model X.prog X.w) X.A X.env X.xe) (hc:X.calm=true) (hi:PI X tg iter wi) (hg:PG X tg g) (hb:PSs X body tb)
  (hs:∀ x,foldedSetIterable iter X.env x=pure x:=by intro _;rfl):PS X (.For tg iter body [] pos) (tFor wi g tb):=by
 intro pins s σ H D I h;refine wpAny_For (xY (hi pins s σ H _ I h) fun v s1 h1=>xY h1 fun itv s2 h2=>?_) hs;obtain ⟨it,fp,tn,J,H2,e,I2,T,st2,f2,W,⟨m0,w0⟩,turn⟩:=h2;subst e;have stat:∀ {H':Hp},(∀ b∈fp,H' b=none)->∀ b∈fp,uB X pins H' b:=fun hn b hb=>⟨hn b hb,(f2 b hb).2⟩;refine codeAny_forLoop_any (fun n s'=>∃ i σ' H',Inv X pins σ' H' s'/\tn i s'.heap/\(∀ b∈fp,H' b=none)/\W i n σ' H') ?_ m0 ⟨0,σ,H2,I2,st2,fun b hb=>(f2 b hb).1,w0⟩;rintro n s3 ⟨i,σ3,H3,I3,st3,fr3,w3⟩;rcases turn i n σ3 H3 w3 with ⟨stop,qn⟩|⟨go,N,hN,step⟩
 .refine Zav hp (xY (T.done X rfl rfl rfl hc i pins s3 σ3 H3 X.xe I3 (stat fr3) st3 stop) fun r s4 ⟨hr,I4⟩=>?_);subst hr;exact ZbZ ⟨σ3,H3,I4,qn⟩
 .refine Zav hp (xY (T.item X rfl rfl rfl hc i pins s3 σ3 H3 X.xe I3 (stat fr3) st3 go) fun r s4 ⟨u,hr,h4⟩=>?_);subst hr;refine Zav hp (xY h4 fun _ s5 ⟨x,H5,I5,r5,y5,st5,fr5⟩=>?_);have I5':=I5.pinned (stat fr5) (T.obj _ _ st5);refine Zav hp (xY (hg _ s5 σ3 H5 x u _ I5' r5 (step x H5 y5)) fun _ s6 ⟨σ6,H6,I6,q6⟩=>?_);refine Zav hp (xY (hb _ s6 σ6 H6 _ I6 q6) fun f s7 q7=>?_)
  have again:∀ {σ7:St} {H7:Hp},Inv X (pins++mL fp s5.heap) σ7 H7 s7->N σ7 H7->∃ m,m<n/\∃ i σ' H',Inv X pins σ' H' s7/\tn i s7.heap/\(∀ b∈fp,H' b=none)/\W i m σ' H':=fun {σ7 H7} I7 n7=>by
   obtain ⟨m',hm,w7⟩:=hN σ7 H7 n7;refine ⟨m',hm,i+1,σ7,H7,I7.unpinned,T.keep _ _ _ st5 fun b hb o e=>(I7.pin (b,o) (Zt _ (Zt _ (uR hb e)))).1,fun b hb=>?_,w7⟩;obtain ⟨o,e,d⟩:=T.obj _ _ st5 b hb;exact (I7.pin (b,o) (Zt _ (Zt _ (uR hb e)))).2.1
  cases f with
  |next=>obtain ⟨σ7,H7,I7,n7⟩:=q7;exact again I7 n7
  |cont=>obtain ⟨σ7,H7,I7,n7⟩:=q7;exact again I7 n7
  |brk=>obtain ⟨σ7,H7,I7,q7⟩:=q7;exact ⟨σ7,H7,I7.unpinned,q7⟩
  |ret v=>obtain ⟨x7,σ7,H7,I7,r7,q7⟩:=q7;exact ⟨x7,σ7,H7,I7.unpinned,r7,q7⟩
end
end L2
namespace L2
open PySem PySem.Spec PyProof.Rows
abbrev R2:=V->V->Hp->VK->Prop
def sF (X:Cx) (f:Value->Value->Sem Value) (r:R2):Prop :=
 ∀ (pins:List (Addr×Obj)) (s:Shared) (σ:St) (H:Hp) (x y:V) (v u:Value) (Q:VK),Inv X pins σ H s->yW x v->yW y u->r x y H Q ->
  wpAny (model X.prog X.w) X.A (f v u) (EP X pins σ Q) X.xe s
def UnR (X:Cx) (f:Value->Sem Value) (r:V->Hp->VK->Prop):Prop :=
 ∀ (pins:List (Addr×Obj)) (s:Shared) (σ:St) (H:Hp) (x:V) (v:Value) (Q:VK),Inv X pins σ H s->yW x v->r x H Q ->
  wpAny (model X.prog X.w) X.A (f v) (EP X pins σ Q) X.xe s
def vV (X:Cx) (f:Value) (r:List V->Hp->VK->Prop):Prop :=
 ∀ (pins:List (Addr×Obj)) (s:Shared) (σ:St) (H:Hp) (xs:List V) (us:List Value) (Q:VK),Inv X pins σ H s->yZ xs us->r xs H Q ->
  wpAny (model X.prog X.w) X.A (call f us) (EP X pins σ Q) X.xe s
def TruR (X:Cx) (r:V->Hp->(Bool->Hp->Prop)->Prop):Prop :=
 ∀ (pins:List (Addr×Obj)) (s:Shared) (σ:St) (H:Hp) (x:V) (v:Value) (Q:Bool->Hp->Prop),Inv X pins σ H s->yW x v->r x H Q ->
  wpAny (model X.prog X.w) X.A (truthy v) (TP X pins σ Q) X.xe s
def tOp (r:R2) (ta tb:TE):TE:=fun σ H Q=>ta σ H fun x H1=>tb σ H1 fun y H2=>r x y H2 Q
def tUn (r:V->Hp->VK->Prop) (ta:TE):TE:=fun σ H Q=>ta σ H fun x H1=>r x H1 Q
def rI (C:Int->Int->Prop) (g:Int->Int->V):R2:=fun x y H Q=>∃ i j,x=.int i/\y=.int j/\C i j/\Q (g i j) H
def rI0 (g:Int->Int->V):R2:=fun x y H Q=>∃ i j,x=.int i/\y=.int j/\Q (g i j) H
def rU (g:Int->V):V->Hp->VK->Prop:=fun x H Q=>∃ i,x=.int i/\Q (g i) H
section
variable {X:Cx} {a b c:Expr} {ta tb tc:TE} {pos:Pos}
theorem binT (ha:PE X a ta) (hb:PE X b tb) {pins:List (Addr×Obj)} {s:Shared} {σ:St} {H:Hp} {R:V->V->Hp->Prop} (I:Inv X pins σ H s)
  (h:ta σ H fun x H1=>tb σ H1 fun y H2=>R x y H2) {Q:Value->Shared->Prop} {f:Value->Value->Sem Value}
  (hf:∀ v u s2 x y H2,Inv X pins σ H2 s2->yW x v->yW y u->R x y H2->wpAny (model X.prog X.w) X.A (f v u) Q X.xe s2) :
  wpAny (model X.prog X.w) X.A (eval a X.env) (fun v s₁=>wpAny (model X.prog X.w) X.A (eval b X.env) (fun u s₂=>wpAny (model X.prog X.w) X.A (f v u) Q X.xe s₂) X.xe s₁) X.xe s:=by
 refine xY (ha pins s σ H _ I h) fun v s1 ⟨x,H1,I1,r1,q1⟩=>?_;refine xY (hb pins s1 σ H1 _ I1 q1) fun u s2 ⟨y,H2,I2,r2,q2⟩=>?_;exact hf v u s2 x y H2 I2 r1 r2 q2
theorem pe_op {op:Operator} {r:R2} (ho:sF X (binaryOp op) r) (ha:PE X a ta) (hb:PE X b tb):PE X (.BinOp a op b pos) (tOp r ta tb):=by
 intro pins s σ H Q I h;exact wpAny_BinOp (binT ha hb I h fun v u s2 x y H2 I2 rx ry q=>ho pins s2 σ H2 x y v u Q I2 rx ry q)
theorem zk1 {op:UnaryOp} {r:V->Hp->VK->Prop} (ho:UnR X (unaryOp op) r) (ha:PE X a ta):PE X (.UnaryOp op a pos) (tUn r ta):=by
 intro pins s σ H Q I h;exact UnaryOp_ (xY (ha pins s σ H _ I h) fun v s1 ⟨x,H1,I1,r1,q1⟩=>ho pins s1 σ H1 x v Q I1 r1 q1)
theorem opI {f:Value->Value->Sem Value} {C:Int->Int->Prop} {g:Int->Int->Int}
  (rule:∀ (i j:Int) (t u:Tok) (s:Shared) (Q:Value->Shared->Prop) (E:Value->Shared->Prop),C i j->Q (.int (g i j) s.toks) { s with toks:=s.toks+1 }->wpAny (model X.prog X.w) X.A (f (.int i t) (.int j u)) Q E s) :
  sF X f (rI C fun i j=>.int (g i j)):=by
 intro pins s σ H x y v u Q I rx ry h;obtain ⟨i,j,rfl,rfl,hc,q⟩:=h;obtain ⟨t,rfl⟩:=rx;obtain ⟨t',rfl⟩:=ry;exact rule i j t t' s _ _ hc ⟨.int (g i j),H,I.tok _,⟨_,rfl⟩,q⟩
theorem opI0 {f:Value->Value->Sem Value} {g:Int->Int->Int}
  (rule:∀ (i j:Int) (t u:Tok) (s:Shared) (Q:Value->Shared->Prop) (E:Value->Shared->Prop),Q (.int (g i j) s.toks) { s with toks:=s.toks+1 }->wpAny (model X.prog X.w) X.A (f (.int i t) (.int j u)) Q E s) :
  sF X f (rI0 fun i j=>.int (g i j)):=by
 intro pins s σ H x y v u Q I rx ry h;obtain ⟨i,j,rfl,rfl,q⟩:=h;obtain ⟨t,rfl⟩:=rx;obtain ⟨t',rfl⟩:=ry;exact rule i j t t' s _ _ ⟨.int (g i j),H,I.tok _,⟨_,rfl⟩,q⟩
theorem opB0 {f:Value->Value->Sem Value} {g:Int->Int->Bool}
  (rule:∀ (i j:Int) (t u:Tok) (s:Shared) (Q:Value->Shared->Prop) (E:Value->Shared->Prop),Q (.bool (g i j)) s->wpAny (model X.prog X.w) X.A (f (.int i t) (.int j u)) Q E s) :
  sF X f (rI0 fun i j=>.bl (g i j)):=by
 intro pins s σ H x y v u Q I rx ry h;obtain ⟨i,j,rfl,rfl,q⟩:=h;obtain ⟨t,rfl⟩:=rx;obtain ⟨t',rfl⟩:=ry;exact rule i j t t' s _ _ ⟨.bl (g i j),H,I,rfl,q⟩
def CDiv (i j:Int):Prop:=0<j/\j<1073741824
def CPow (i j:Int):Prop:=0<=j/\j<=1000000/\i.natAbs<2 ^ 64
def CMul (i j:Int):Prop:=(-(2 ^ 64)<i/\i<2 ^ 64)\/(-(2 ^ 64)<j/\j<2 ^ 64)
theorem CMul.ok {i j:Int} (h:CMul i j):IntMulOk i j:=by
 rcases h with ⟨h1,h2⟩|⟨h1,h2⟩
 .exact .of_left (intBits_le_64 h1 h2)
 .exact .of_right (intBits_le_64 h1 h2)
theorem zlf:sF X (binaryOp .Add) (rI0 fun i j=>.int (i+j)):=opI0 fun _ _ _ _ _ _ _ q=>add_int q
theorem zk9:sF X (binaryOp .Sub) (rI0 fun i j=>.int (i-j)):=opI0 fun _ _ _ _ _ _ _ q=>sub_int q
theorem zlc:sF X (binaryOp .Mult) (rI CMul fun i j=>.int (i * j)):=opI fun _ _ _ _ _ _ _ hc q=>mul_int q hc.ok
theorem zi3:sF X (binaryOp .FloorDiv) (rI CDiv fun i j=>.int (i / j)):=opI fun i j _ _ _ _ _ hc q=>by
 have h1:(0:Int)<j:=hc.1;have h2:j<1073741824:=hc.2;exact floordiv_int (by omega) (by rw[Int.fdiv_eq_ediv_of_nonneg i (by omega)];exact q) (.inl (PyProof.noPylong_small (by omega)))
theorem zld:sF X (binaryOp .Mod) (rI (fun _ j=>0<j) fun i j=>.int (i % j)):=opI fun i j _ _ _ _ _ hc q=>by
 have h1:(0:Int)<j:=hc;exact mod_int' (by omega) (by rw[Int.fmod_eq_emod_of_nonneg i (by omega)];exact q)
theorem zlb:sF X (binaryOp .Pow) (rI CPow fun i j=>.int (i ^ j.toNat)):=opI fun _ _ _ _ _ _ _ hc q=>pow_int_small hc.1 hc.2.1 hc.2.2 q
theorem unI {f:Value->Sem Value} {g:Int->Int}
  (rule:∀ (i:Int) (t:Tok) (s:Shared) (Q:Value->Shared->Prop) (E:Value->Shared->Prop),Q (.int (g i) s.toks) { s with toks:=s.toks+1 }->wpAny (model X.prog X.w) X.A (f (.int i t)) Q E s) :
  UnR X f (rU fun i=>.int (g i)):=by
 intro pins s σ H x v Q I rx h;obtain ⟨i,rfl,q⟩:=h;obtain ⟨t,rfl⟩:=rx;exact rule i t s _ _ ⟨.int (g i),H,I.tok _,⟨_,rfl⟩,q⟩
theorem zhm:UnR X (unaryOp .USub) (rU fun i=>.int (-i)):=unI fun _ _ _ _ _ q=>neg_int q
end
section
variable {X:Cx} {a b c:Expr} {ta tb tc:TE} {pos:Pos}
theorem zl6 {pins:List (Addr×Obj)} {σ:St} {H:Hp} {s:Shared} {Q:VK} {k k':Bool} (I:Inv X pins σ H s) (q:Q (.bl k) H) (e:k=k'):EP X pins σ Q (.bool k') s:=by
 subst e;exact ⟨.bl k,H,I,rfl,q⟩
theorem op_lt:sF X (compareOp .Lt) (rI0 fun i j=>.bl (decide (i<j))):=opB0 fun _ _ _ _ _ _ _ q=>lt_int q
theorem op_le:sF X (compareOp .LtE) (rI0 fun i j=>.bl (decide (i<=j))):=opB0 fun _ _ _ _ _ _ _ q=>le_int q
theorem op_gt:sF X (compareOp .Gt) (rI0 fun i j=>.bl (decide (j<i))):=opB0 fun _ _ _ _ _ _ _ q=>gt_int q
theorem op_ge:sF X (compareOp .GtE) (rI0 fun i j=>.bl (decide (j<=i))):=opB0 fun _ _ _ _ _ _ _ q=>ge_int q
theorem zeE:sF X (compareOp .In) (fun x y H Q=>∃ i j,x=.str i/\y=.str j/\Q (.bl (!(Builtin.Str.occurrences j i 0 j.length 1).isEmpty)) H):=by
 intro pins s σ H x y v u Q I rx ry h;obtain ⟨i,j,rfl,rfl,q⟩:=h;obtain ⟨t,rfl⟩:=rx;obtain ⟨t',rfl⟩:=ry;exact in_str (zl6 I q rfl)
theorem ziV {op:CmpOp} {r:R2} (ho:sF X (compareOp op) r) (ha:PE X a ta) (hb:PE X b tb) (hm:behindInMarks op b=false):PE X (.Compare a [op] [b] pos) (tOp r ta tb):=by
 intro pins s σ H Q I h;exact wpAny_Compare1 (binT ha hb I h fun v u s2 x y H2 I2 rx ry q=>ho pins s2 σ H2 x y v u Q I2 rx ry q) hm
def zkl (t:TE):TT:=fun σ H Q=>t σ H fun x H'=>∃ k,x=.bl k/\Q k H'
theorem ziK {op:CmpOp} {r:R2} (ho:sF X (compareOp op) r) (ha:PE X a ta) (hb:PE X b tb) (hm:behindInMarks op b=false):PT X (.Compare a [op] [b] pos) (zkl (tOp r ta tb)):=by
 intro pins s σ H Q I h
 refine wpAny_isTrue_Compare1 (xY (ha pins s σ H _ I h) fun v s1 ⟨x,H1,I1,r1,q1⟩=>xY (hb pins s1 σ H1 _ I1 q1) fun u s2 ⟨y,H2,I2,r2,q2⟩ =>
  xY (ho pins s2 σ H2 x y v u _ I2 r1 r2 q2) fun c s3 ⟨z,H3,I3,r3,k,e,q3⟩=>?_) hm
 subst e;cases r3;exact ZP ⟨H3,I3,q3⟩
def zd3 (r r':R2) (ta tb tc:TE):TE:=fun σ H Q=>ta σ H fun x H1=>tb σ H1 fun y H2=>r x y H2 fun z H3=>∃ k,z=.bl k /\
 (if k=true then tc σ H3 fun w' H4=>r' y w' H4 Q else Q (.bl false) H3)
theorem zgy {op op':CmpOp} {r r':R2} (ho:sF X (compareOp op) r) (ho':sF X (compareOp op') r') (ha:PE X a ta) (hb:PE X b tb) (hc:PE X c tc)
  (hm:lastMarks [op,op'] [b,c]=false:=by with_unfolding_all rfl):PE X (.Compare a [op,op'] [b,c] pos) (zd3 r r' ta tb tc):=by
 intro pins s σ H Q I h
 refine Compare_chain (xY (ha pins s σ H _ I h) fun v s1 ⟨x,H1,I1,r1,q1⟩=>chain_link (xY (hb pins s1 σ H1 _ I1 q1) fun u s2 ⟨y,H2,I2,r2,q2⟩ =>
  xY (ho pins s2 σ H2 x y v u _ I2 r1 r2 q2) fun d s3 ⟨z,H3,I3,r3,k,e,q3⟩=>?_)) hm
 subst e;cases r3;refine ZP ?_
 cases k with
 |false=>exact ite_ff ⟨.bl false,H3,I3,rfl,q3⟩
 |true=>exact ite_tt (chain_last (xY (hc pins s3 σ H3 _ I3 q3) fun w' s4 ⟨z',H4,I4,r4,q4⟩=>ho' pins s4 σ H4 y z' u w' Q I4 r2 r4 q4))
theorem zgl {op op':CmpOp} {r r':R2} (ho:sF X (compareOp op) r) (ho':sF X (compareOp op') r') (ha:PE X a ta) (hb:PE X b tb) (hc:PE X c tc)
  (hm:lastMarks [op,op'] [b,c]=false:=by with_unfolding_all rfl):PT X (.Compare a [op,op'] [b,c] pos) (zkl (zd3 r r' ta tb tc)):=by
 intro pins s σ H Q I h
 refine isTrue_chain (xY (ha pins s σ H _ I h) fun v s1 ⟨x,H1,I1,r1,q1⟩=>test_link (xY (hb pins s1 σ H1 _ I1 q1) fun u s2 ⟨y,H2,I2,r2,q2⟩ =>
  xY (ho pins s2 σ H2 x y v u _ I2 r1 r2 q2) fun d s3 ⟨z,H3,I3,r3,k,e,q3⟩=>?_)) hm
 subst e;cases r3;refine ZP ?_
 cases k with
 |false =>
  obtain ⟨k',e',q'⟩:=q3;cases e';exact ite_ff ⟨H3,I3,q'⟩
 |true =>
  refine ite_tt (test_last (xY (hc pins s3 σ H3 _ I3 q3) fun w' s4 ⟨z',H4,I4,r4,q4⟩=>xY (ho' pins s4 σ H4 y z' u w' _ I4 r2 r4 q4) fun d' s5 ⟨z2,H5,I5,r5,k2,e2,q5⟩=>?_));subst e2;cases r5;exact ZP ⟨H5,I5,q5⟩
def TruV (K:PySem.W.Frag) (x:V) (H:Hp) (k:Bool):Prop :=
 match x with
 | .non=>k=false
 | .bl b=>k=b
 | .int i=>k=(i != 0)
 | .str y=>y.length<=sizeLine/\k=((y.length:Int) != 0)
 | .byt y=>y.size<=sizeLine/\k=((y.size:Int) != 0)
 | .ref p=>(∃ xs,mY K H p xs/\k=!xs.isEmpty)\/(∃ xs,pR K H p xs/\k=!xs.isEmpty)\/∃ kvs,H p=some (.dK kvs)/\k=!kvs.isEmpty
 |_=>False
theorem zdw {κ:Type} {kvs:List (κ×V)} {vs:List (κ×Value)} (r:KV kvs vs):(!vs.isEmpty)=!kvs.isEmpty:=by
 cases r<;>rfl
theorem zae {xs:List V} {its:List Value} (r:yZ xs its):(!its.toArray.isEmpty)=!xs.isEmpty:=by
 cases r<;>simp
theorem pX:(sizeLine:Nat)<2 ^ 63:=by rw[ZI];decide
theorem zkd:TruR X (fun x H Q=>∃ k,TruV X.K x H k/\Q k H):=by
 intro pins s σ H x v Q I rx h;obtain ⟨k,e,q⟩:=h;have hl:=pX;have hs:sizeLine=16777216:=ZI
 cases x with
 |non =>
  cases rx;have e':k=false:=e;subst e';exact truthy_none ⟨H,I,q⟩
 |bl b =>
  cases rx;have e':k=b:=e;subst e';exact ZP ⟨H,I,q⟩
 |int i =>
  obtain ⟨t,rfl⟩:=rx;have e':k=(i != 0):=e;subst e';exact PySem.P.truthy_int ⟨H,I,q⟩
 |str y =>
  obtain ⟨t,rfl⟩:=rx;obtain ⟨hy,e'⟩:y.length<=sizeLine/\k=((y.length:Int) != 0):=e;subst e';exact PySem.P.truthy_str (by omega) ⟨H,I.tok _,q⟩
 |byt y =>
  obtain ⟨t,rfl⟩:=rx;obtain ⟨hy,e'⟩:y.size<=sizeLine/\k=((y.size:Int) != 0):=e;subst e';exact PySem.W.truthy_bytes (by omega) ⟨H,I.tok _,q⟩
 |ref p =>
  cases rx;have e':(∃ xs,mY X.K H p xs/\k=!xs.isEmpty)\/(∃ xs,pR X.K H p xs/\k=!xs.isEmpty)\/∃ kvs,H p=some (.dK kvs)/\k=!kvs.isEmpty:=e;rcases e' with ⟨xs,hx,e'⟩|⟨xs,hx,e'⟩|⟨kvs,hx,e'⟩
  .subst e';obtain ⟨its,r,pl,hz⟩:=I.list hx;have hlen:=r.length;exact wpAny_truthy_list pl.isList (by simp only[zzS];omega) ⟨H,I.tok _,by rw[zae r];exact q⟩
  .subst e';obtain ⟨its,r,pl,hz⟩:=I.tuple hx;have hlen:=r.length;exact truthy_tuple pl (by simp only[zzS];omega) ⟨H,I.tok _,by rw[zae r];exact q⟩
  .subst e';obtain ⟨hz,hS,vs,r,m⟩:kvs.length<=sizeLine/\(p==sysModules)=false/\∃ vs,KV kvs vs/\s.heap.DictOf (xO X.prog X.w) p vs:=I.hok p _ hx;have hlen:kvs.length=vs.length:=ZbM r;exact wpAny_truthy_dict hS m (by omega) ⟨H,I.tok _,by rw[zdw r];exact q⟩
 |_=>exact (show False from e).elim
theorem zgk (ha:PE X a ta) (he:∀ whole,isTrue a X.env whole=(do let v ← whole;standAt a.pos;holding [v] (truthy v))) :
  PT X a (fun σ H Q=>ta σ H fun x H'=>∃ k,TruV X.K x H' k/\Q k H'):=by
 intro pins s σ H Q I h;exact isTrue_plain (xY (ha pins s σ H _ I h) fun v s1 ⟨x,H1,I1,r1,q1⟩=>zkd pins s1 σ H1 x v Q I1 r1 q1) (he _)
theorem zdm:sF X (binaryOp .Add) (fun x y H Q=>∃ i j,x=.str i/\y=.str j/\i.length+j.length<=sizeLine/\Q (.str (i++j)) H):=by
 intro pins s σ H x y v u Q I rx ry h;obtain ⟨i,j,rfl,rfl,hz,q⟩:=h;obtain ⟨t,rfl⟩:=rx;obtain ⟨t',rfl⟩:=ry;exact qI I.tk (add_str (fun t' tk h0=>⟨.str (i++j),H,I.tok _ h0,⟨_,rfl⟩,q⟩) hz)
theorem vH {x:V} {us:List Value} (r:yZ [x] us):∃ u,us=[u]/\yW x u:=by
 cases r with
 |cons r1 r2=>cases r2;exact ⟨_,rfl,r1⟩
theorem zdV {x y:V} {us:List Value} (r:yZ [x,y] us):∃ u w',us=[u,w']/\yW x u/\yW y w':=by
 cases r with
 |cons r1 r2 =>
  cases r2 with
  |cons r3 r4=>cases r4;exact ⟨_,_,rfl,r1,r3⟩
theorem zfD (hc:X.calm=true):vV X (.builtin "max") (fun xs H Q=>∃ i j,xs=[.int i,.int j]/\Q (.int (if j > i then j else i)) H):=by
 intro pins s σ H xs us Q I r h;obtain ⟨i,j,rfl,q⟩:=h;obtain ⟨u,w',rfl,⟨t,rfl⟩,⟨t',rfl⟩⟩:=zdV r;refine qI I.tk (max_two_ints (I.ok.hd hc) fun h' tk k h0=>⟨_,H,I.kept k h0,?_,q⟩)
 by_cases hj:j > i
 .rw[if_pos hj,if_pos hj];exact ⟨_,rfl⟩
 .rw[if_neg hj,if_neg hj];exact ⟨_,rfl⟩
end
end L2
namespace L2
open PySem PySem.Spec PyProof.Rows
section
variable {prog:Program} {w:World} {A:Around} {E:Value->Shared->Prop} {s:Shared} {K:PySem.W.Frag} {x dx C f:Addr} {mA:Str->Option Value} {name:Str} {v:Value}
end
theorem RelO.some_of {v:V} {o:Option Value} (r:RelO (some v) o):∃ u,o=some u/\yW v u:=by
 cases o with
 |none=>exact (show False from r).elim
 |some u=>exact ⟨u,rfl,r⟩
section
variable {P:Program} {w:World} {H H':Hp} {h h':Heap} {a C dx:Addr} {fs fs':List (Str×V)}
end
structure Cls (K:PySem.W.Frag) (C:Addr):Prop where
 pg:PySem.W.plainGet K C Str.empty=true
 hd:PySem.W.hasDictIn K C=true
 po:PySem.W.plainOver K C=true
 sa:PySem.W.findIn K (.ref C) "__setattr__" = some (some (.builtin "object.__setattr__"))
def zh9 (K:PySem.W.Frag) (C:Addr) (f:Str):Prop:=PySem.W.findIn K (.ref C) f=some none
section
variable {X:Cx} {pins:List (Addr×Obj)} {σ:St} {H:Hp} {s:Shared} {a C dx:Addr} {fs:List (Str×V)} {f:Str} {v:V} {A:Around} {E:Value->Shared->Prop}
end
section
variable {X:Cx} {o e value:Expr} {f:Str} {pos pos' tpos:Pos} {ta tv:TE}
end
section
variable {X:Cx} {pins:List (Addr×Obj)} {σ:St} {H:Hp} {s:Shared} {A:Around} {E:Value->Shared->Prop} {Q:Value->Shared->Prop} {c:Value} {b:Bool}
end
end L2
namespace L2
open PySem PySem.Spec PyProof.Rows
structure Room (k:Nat) (A:Around):Prop where
 gd:A.guards=some []
 hd:A.handled=none
 dp:A.depth+3 * k+5<recursionLimit
 un:A.units+16 * k+200<cLine
theorem Room.mono {j k:Nat} {A:Around} (r:Room k A) (h:j<=k):Room j A:=⟨r.gd,r.hd,by have:=r.dp;omega,by have:=r.un;omega⟩
theorem Room.deeper {k:Nat} {A:Around} (r:Room (k+1) A) (env:Env):Room k (A.deeper env) :=
 ⟨r.gd,r.hd,by have:=r.dp;show A.depth+1+3 * k+5<_;omega,by have:=r.un;show A.units+3+16 * k+200<_;omega⟩
theorem Room.depth {k:Nat} {A:Around} (r:Room k A):A.depth<recursionLimit:=by have:=r.dp;omega
def tNil:TA:=fun _ H Q=>Q [] H
def tCons (ta:TE) (tr:TA):TA:=fun σ H Q=>ta σ H fun x H1=>tr σ H1 fun xs H2=>Q (x::xs) H2
section
variable {X:Cx} {e:Expr} {es:List Expr} {te:TE} {t:TA} {pos:Pos}
theorem zhG:PA X [] tNil:=fun _ _ _ _ H Q I h=>ZbG ⟨[],H,I,.nil,h⟩
theorem zeA (ha:PE X e te) (hr:PA X es t) (hs:starEach (e::es) X.env=(false,eval e X.env)::starEach es X.env:=by rfl):PA X (e::es) (tCons te t):=by
 intro pos pins s σ H Q I h;rw[hs];show wpAny _ _ (spliced ((false,eval e X.env)::backTo pos (starEach es X.env))) _ _ s;refine ZaU (xY (ha pins s σ H _ I h) fun u s1 ⟨x,H1,I1,r1,q1⟩=>?_);exact xY (hr pos pins s1 σ H1 _ I1 q1) fun us s2 ⟨xs,H2,I2,r2,q2⟩=>⟨x::xs,H2,I2,.cons r1 r2,q2⟩
def tTup (t:TA):TE:=fun σ H Q=>t σ H fun xs H1=>xs.length<=sizeLine/\∀ p,H1 p=none->Q (.ref p) (xC H1 p (.tup xs))
def tLst (t:TA):TE:=fun σ H Q=>t σ H fun xs H1=>xs.length<=sizeLine/\∀ p,H1 p=none->Q (.ref p) (xC H1 p (.lst xs))
theorem zk2 {x1} (h:PA X es t):PE X (.Tuple es x1 pos) (tTup t):=by
 intro pins s σ H Q I hq;refine wpAny_Tuple_spliced (xY (h pos pins s σ H _ I hq) fun us s1 ⟨xs,H1,I1,r,z,q⟩=>⟨by rw[← r.length];exact z,?_⟩);have hf:H1 s1.heap.objs.size=none:=I1.hok.fresh (zzR _);refine ⟨.ref s1.heap.objs.size,xC H1 s1.heap.objs.size (.tup xs),I1.laid (t':=s1.toks) (fun b u e=>Za _ e) (zzR _) ?_,rfl,q _ hf⟩;exact ⟨z,us,r,⟨_,Zk _ rfl,rfl,_,rfl⟩⟩
theorem zk7 (h:PA X es t):PE X (.List es pos) (tLst t):=by
 intro pins s σ H Q I hq;refine wpAny_List_spliced (xY (h pos pins s σ H _ I hq) fun us s1 ⟨xs,H1,I1,r,z,q⟩=>⟨by rw[← r.length];exact z,?_⟩);have hf:H1 s1.heap.objs.size=none:=I1.hok.fresh (zzR _);refine ⟨.ref s1.heap.objs.size,xC H1 s1.heap.objs.size (.lst xs),I1.laid (t':=s1.toks) (fun b u e=>Za _ e) (zzR _) ?_,rfl,q _ hf⟩;exact ⟨z,us,0,r,Zk _ rfl⟩
end
abbrev Sp:=List V->Hp->VK->XK->Prop
abbrev CXT:=List Env->Hp->Shared->XK->Value->Shared->Prop
structure Env0 (P:Program) (w:World) (K:PySem.W.Frag) (mg:Str->Option Value) (base:Heap) (A:Around) (outer:List Env) (s:Shared) (H:Hp):Prop where
 frames:A.frames=some outer
 mod:Mod K mg base
 bs:∀ b o,base.get? b=some o->s.heap.get? b=some o/\H b=none
 bsz:base.objs.size<=s.heap.objs.size
 funs:s.heap.FunFrames base outer
 frf:∀ b∈frs outer,H b=none
 hok:rT P w H s.heap
 bare:AllBare s.gens
 tk:0<s.toks
def CE (outer:List Env) (P:Program) (w:World) (H:Hp) (s:Shared) (Q:VK) (u:Value) (s':Shared):Prop :=
 ∃ v H',s'.os=s.os/\0<s'.toks/\AllBare s'.gens/\Un (frs outer) [] H H' s.heap s'.heap/\rT P w H' s'.heap/\yW v u/\Q v H'
def CR (CX:CXT) (outer:List Env) (P:Program) (w:World) (H:Hp) (s:Shared) (Q:VK) (E:XK) (r:Result) (s':Shared):Prop :=
 match r with
 | .ok (.ret u)=>CE outer P w H s Q u s'
 | .ok _=>False
 | .error e=>CX outer H s E e s'
structure FnOk (P:Program) (w:World) (K:PySem.W.Frag) (mg:Str->Option Value) (base:Heap) (CX:CXT) (k:Nat) (f:Addr) (fd:FuncData) (ps:List Str) (sp:Sp):Prop where
 len:∀ vs H Q E,sp vs H Q E->vs.length=ps.length
 run:∀ (A:Around) (outer:List Env) (s:Shared) (H:Hp) (args:Args) (us:List Value) (vs:List V) (Q:VK) (E:XK),Room k A->Env0 P w K mg base A outer s H->BindsTo s fd args (ps.zip us)->yZ vs us->sp vs H Q E ->
  codeAny (model P w) A (.call (.ref f) args) (CR CX outer P w H s Q E) s
 one:∀ (x:Str),ps=[x]->fd.scope.names.lookup x=some .local->∀ (A:Around) (outer:List Env) (s:Shared) (H:Hp) (args:Args) (us:List Value) (vs:List V) (Q:VK) (E:XK),Room k A->Env0 P w K mg base A outer { s with toks:=1 } H->BindsTo s fd args (ps.zip us)->yZ vs us->sp vs H Q E ->
  codeAny (model P w) A (.call (.ref f) args) (CR CX outer P w H s Q E) s
theorem FnOk.mono {P:Program} {w:World} {K:PySem.W.Frag} {mg:Str->Option Value} {base:Heap} {CX:CXT} {j k:Nat} {f:Addr} {fd:FuncData} {ps:List Str} {sp:Sp} (F:FnOk P w K mg base CX j f fd ps sp) (h:j<=k) :
  FnOk P w K mg base CX k f fd ps sp:=⟨F.len,fun A outer s H args us vs Q E hr=>F.run A outer s H args us vs Q E (hr.mono h),fun x e l A outer s H args us vs Q E hr=>F.one x e l A outer s H args us vs Q E (hr.mono h)⟩
section
variable {X:Cx} {pins:List (Addr×Obj)} {σ:St} {H:Hp} {s s':Shared}
theorem Inv.env0 (I:Inv X pins σ H s):Env0 X.prog X.w X.K X.mg X.base X.A X.stack s H :=
 ⟨I.ok.frames,I.ok.mod,I.bs,Ze I.ok.bsz I.sz,I.stack,I.stkFree,I.hok,I.bare,I.tk⟩
theorem Inv.after {Q:VK} {u:Value} (I:Inv X pins σ H s) (h:CE X.stack X.prog X.w H s Q u s'):EP X pins σ Q u s':=by
 obtain ⟨v,H',os,tk,bare,un,hok,r,q⟩:=h;obtain ⟨hh,g,d,t,os'⟩:=s';obtain rfl:os'=s.os:=os;exact ⟨v,H',I.call (h':=hh) (g':=g) (d':=d) (t':=t) (ch:=[]) un hok bare (fun b z=>absurd z (by simp)) tk,r,q⟩
end
def zio (sp:Sp) (dvs:List V) (E:XK) (t:TA):TE:=fun σ H Q=>t σ H fun vs H1=>sp (vs++dvs) H1 Q E
def rM (K:PySem.W.Frag) (fd:FuncData) (ps:List Str) (ds:List Value):Prop :=
 ∀ (s:Shared) (us:List Value),K.In s.heap->(us++ds).length=ps.length->BindsTo s fd ⟨us,[]⟩ (ps.zip (us++ds))
theorem rM.all {K:PySem.W.Frag} {fd:FuncData} {ps:List Str} (h:∀ us:List Value,us.length=ps.length->bindArgs fd ⟨us,[]⟩=pure (ps.zip us)):rM K fd ps []:=fun s us _ hl=>by
 rw[ZC] at hl ⊢;exact .of_eq (h us hl)
def zdc (CX:CXT) (X:Cx) (E:XK):Prop:=∀ (pins:List (Addr×Obj)) (σ:St) (H:Hp) (s:Shared) (e:Value) (s':Shared),Inv X pins σ H s->CX X.stack H s E e s'->X.xe e s'
section
variable {X:Cx} {CX:CXT} {k:Nat} {f C:Addr} {fd:FuncData} {ps:List Str} {sp:Sp} {dvs:List V} {ds:List Value} {E:XK} {x m:Str} {p pos apos:Pos} {e o:Expr} {es:List Expr} {ta:TE} {t:TA}
theorem zeq {pins:List (Addr×Obj)} {σ:St} {H:Hp} {s:Shared} {Q:VK} {us:List Value} {vs:List V} (F:FnOk X.prog X.w X.K X.mg X.base CX k f fd ps sp) (hr:Room k X.A) (hb:rM X.K fd ps ds) (hd:yZ dvs ds) (hx:zdc CX X E)
  (I:Inv X pins σ H s) (r:yZ vs us) (h:sp (vs++dvs) H Q E):wpAny (model X.prog X.w) X.A (call (.ref f) us) (EP X pins σ Q) X.xe s:=by
 have r2:yZ (vs++dvs) (us++ds):=r.append hd;have hl:(us++ds).length=ps.length:=by rw[← r2.length];exact F.len _ _ _ _ h
 refine wpAny_call (codeAny_mono (F.run X.A X.stack s H ⟨us,[]⟩ (us++ds) (vs++dvs) Q E hr I.env0 (hb s us I.kIn hl) r2 h) fun r s' hq=>?_)
 cases r with
 |error e=>exact hx pins σ H s e s' I hq
 |ok fl =>
  cases fl with
  |ret u=>exact I.after hq
  |next=>exact False.elim hq
  |brk=>exact False.elim hq
  |cont=>exact False.elim hq
theorem ziW (F:FnOk X.prog X.w X.K X.mg X.base CX k f fd ps sp) (hr:Room k X.A) (hg:Gl X x) (hm:X.mg x=some (.ref f)) (hk:PySem.W.keepIn X.K (.ref f)=true) (hb:rM X.K fd ps ds) (hd:yZ dvs ds) (hx:zdc CX X E)
  (ha:PA X (e::es) t) (hdb:(x==("__debug__" : Str))=false:=by decide) (he:starEach (e::es) X.env=(false,eval e X.env)::starEach es X.env:=by rfl) (hpl:(backTo pos (starEach es X.env)).any (·.1)=false:=by rfl) :
  PE X (.Call (.Name x p) (e::es) [] pos) (zio sp dvs E t):=by
 intro pins s σ H Q I h;refine Z9 (zb0 I hg hm ?_ hdb);refine PySem.W.callWith_K (h₀:=X.base) I.ok.mod.kin hk (xY (ha pos pins s σ H _ I h) fun us s1 ⟨vs,H1,I1,r,q⟩=>⟨I1.kIn,?_⟩) he hpl;exact zeq F hr hb hd hx I1 r q
theorem zgA (F:FnOk X.prog X.w X.K X.mg X.base CX k f fd ps sp) (hr:Room k X.A) (hg:Gl X x) (hm:X.mg x=some (.ref f)) (hk:PySem.W.keepIn X.K (.ref f)=true) (hb:rM X.K fd ps ds) (hd:yZ dvs ds) (hx:zdc CX X E)
  (hdb:(x==("__debug__" : Str))=false:=by decide):PE X (.Call (.Name x p) [] [] pos) (zio sp dvs E tNil):=by
 intro pins s σ H Q I h;refine Z9 (zb0 I hg hm ?_ hdb);exact PySem.W.callWith_K0 I.kIn hk (zeq (us:=[]) F hr hb hd hx I .nil h)
end
section
variable {X:Cx} {CX:CXT} {k:Nat} {f C:Addr} {fd:FuncData} {ps ks:List Str} {sp:Sp} {E:XK} {x m:Str} {p pos apos kpos:Pos} {e o:Expr} {es:List Expr} {kws:List Keyword} {te ta:TE} {t tk:TA} {nm:Option Str}
variable {g:List Value->List Value->List Value} {gV:List V->List V->List V}
end
structure FnScope (N P:List Str) (sc:Scope):Prop where
 kind:sc.kind=.function
 co:sc.isCoroutine=false
 gen:sc.isGenerator=false
 nd:N.Nodup
 pre:N.take P.length=P
 par:∀ x∈P,sc.names.lookup x=some .local\/sc.names.lookup x=some .cell
 nofree:∀ y∈sc.names,y.2≠.free
theorem zbs {kindOf:Str->Option NameKind} {x:Str}:∀ {binds:List (Str×Value)} {m:Str->Option Value},(∀ v,(x,v)∉binds)->bindL kindOf binds m x=m x
 | [],_,_=>rfl
 | (n,v)::r,m,h=>by
  unfold bindL;rw[zbs fun w hw=>h w (Zc _ hw)]
  split
  .have:x≠n:=by rintro rfl;exact h v zzT
   simp[this]
  .rfl
theorem zbu {kindOf:Str->Option NameKind} {x:Str}:∀ {binds:List (Str×Value)} {m:Str->Option Value},(∀ v,(x,v)∉binds)->bindC kindOf binds m x=m x
 | [],_,_=>rfl
 | (n,v)::r,m,h=>by
  unfold bindC;rw[zbu fun w hw=>h w (Zc _ hw)]
  split
  .rfl
  .have:x≠n:=by rintro rfl;exact h v zzT
   simp[this]
theorem zbt {kindOf:Str->Option NameKind} {x:Str} {v:Value}:∀ {P:List Str} {vs:List Value} {i:Nat} {m:Str->Option Value},P.Nodup->P[i]?=some x->vs[i]?=some v->kindOf x=some .local ->
  bindL kindOf (P.zip vs) m x=some v
 | [],_,_,_,_,h,_,_=>by simp at h
 |_::_,[],_,_,_,_,h,_=>by simp at h
 |p::P,w::vs,0,m,nd,h1,h2,hk=>by
  simp at h1 h2;subst h1;subst h2;show bindL kindOf ((p,w)::P.zip vs) m p=_;unfold bindL;rw[zbs fun v hv=>(Zat.mp nd).1 (ZbX hv).1,if_pos hk];simp
 |p::P,w::vs,i+1,m,nd,h1,h2,hk=>by
  show bindL kindOf ((p,w)::P.zip vs) m x=_;unfold bindL;exact zbt (i:=i) (Zat.mp nd).2 (by simpa using h1) (by simpa using h2) hk
theorem zbv {kindOf:Str->Option NameKind} {x:Str} {v:Value}:∀ {P:List Str} {vs:List Value} {i:Nat} {m:Str->Option Value},P.Nodup->P[i]?=some x->vs[i]?=some v->kindOf x≠some .local ->
  bindC kindOf (P.zip vs) m x=some v
 | [],_,_,_,_,h,_,_=>by simp at h
 |_::_,[],_,_,_,_,h,_=>by simp at h
 |p::P,w::vs,0,m,nd,h1,h2,hk=>by
  simp at h1 h2;subst h1;subst h2;show bindC kindOf ((p,w)::P.zip vs) m p=_;unfold bindC;rw[zbu fun v hv=>(Zat.mp nd).1 (ZbX hv).1,if_neg hk];simp
 |p::P,w::vs,i+1,m,nd,h1,h2,hk=>by
  show bindC kindOf ((p,w)::P.zip vs) m x=_;unfold bindC;exact zbv (i:=i) (Zat.mp nd).2 (by simpa using h1) (by simpa using h2) hk
def start (N:List Str) (vs:List V):St:=vs.map some++List.replicate (N.length-vs.length) none
def cxOf (CX:CXT) (P:Program) (w:World) (K:PySem.W.Frag) (mg:Str->Option Value) (base:Heap) (N:List Str) (qual:Str) (scope:Scope) (f:Addr) (cd:Value) (A:Around) (outer:List Env) (s:Shared) (H:Hp) (E:XK):Cx where
 prog:=P
 w:=w
 K:=K
 mg:=mg
 base:=base
 A:=A.deeper (envOfC qual scope s.heap.objs.size f cd)
 N:=N
 s₀:=s
 H₀:=H
 env:=envOfC qual scope s.heap.objs.size f cd
 outer:=outer
 stack:=envOfC qual scope s.heap.objs.size f cd::outer
 ex:=[]
 calm:=true
 fn:=fun _=>true
 pn:=[]
 xe:=fun e s'=>wpAny (model P w) (A.deeper (envOfC qual scope s.heap.objs.size f cd)) (leaving (envOfC qual scope s.heap.objs.size f cd) e) (fun _ s''=>CX outer H s E e s'') (fun e' s''=>CX outer H s E e' s'') s'
theorem zc8 {sc:Scope} {n:Nat} {x:Str} (h:sc.names.lookup x=some .cell):∃ c,(cellsFrom n sc.names []).lookup x=some c:=by
 have q:=PySem.W.cellsFrom_some sc.names n [] (.inl h);exact Option.isSome_iff_exists.mp q
theorem ze9 {CX:CXT} {P:Program} {w:World} {K:PySem.W.Frag} {mg:Str->Option Value} {base:Heap} {N ps:List Str} {qual:Str} {scope:Scope} {f:Addr} {cd:Value} {A:Around} {outer:List Env} {s s1:Shared} {H:Hp} {E:XK} {us:List Value} {vs:List V}
  (S:FnScope N ps scope) (hd:A.handled=none) (e0:Env0 P w K mg base A outer { s with toks:=1 } H) (hl:vs.length=ps.length) (r:yZ vs us)
  (x:InCallC s s.heap.objs.size (bindL (envOfC qual scope s.heap.objs.size f cd).kindOf (ps.zip us) fun _=>none) (cellsFrom (s.heap.objs.size+1) scope.names []) (bindC (envOfC qual scope s.heap.objs.size f cd).kindOf (ps.zip us) fun _=>none) s1) (h0:0<s1.toks) :
  Inv (cxOf CX P w K mg base N qual scope f cd A outer s H E) [] (start N vs) H s1:=by
 have hpl:ps.length<=N.length:=by have:=congrArg List.length S.pre;rw[Z3] at this;omega
 obtain ⟨h1,tk,rfl,hk⟩:=x.done;have noA:∀ b:Addr,b∉(cxOf CX P w K mg base N qual scope f cd A outer s H E).ex:=fun b z=>absurd (show b∈([]:List Addr) from z) (by simp)
 refine ⟨⟨e0.mod,S.kind,rfl,rfl,zzR _,fun y z c h1 h2=>?_,fun y hy=>?_,fun y c _ h=>?_,fun _=>hd,Around.frames_deeper e0.frames,.inr ⟨rfl,rfl⟩,fun b z=>absurd z (noA b),e0.bs,e0.bsz,fun b _ _=>noA b,fun b z=>absurd z (noA b),e0.funs,e0.frf⟩,
  rfl,e0.bare,Un.kept hk,⟨_,x.toInCall.ns,fun i y v h1 h2 h3=>?_⟩,fun y c h=>⟨_,x.cell y c h⟩,e0.hok.fresh (zzR _),fun y c h=>?_,fun p hp=>absurd (show p∈([]:List (Addr×Obj)) from hp) (by simp),e0.hok.kept hk,?_,h0⟩
 .exact name_of_addr x.apart (Zaz h1) (Zaz h2)
 .have hy:scope.names.lookup y=some .cell\/scope.names.lookup y=some .free:=hy;rcases hy with hy|hy
  .exact zc8 hy
  .exact absurd rfl (S.nofree _ (Zaz hy))
 .exact Zbf (x.above y c (Zaz h))
 .have hi:i<vs.length:=by
   unfold start at h2
   by_cases hi:i<vs.length
   .exact hi
   .rw[ZV (by simpa using hi)] at h2;rw[ZaX] at h2
    split at h2<;>cases h2
  have ha:vs[i]?=some v:=by
   unfold start at h2;rw[Z6 (by simpa using hi),Zp] at h2
   cases e:vs[i]? with
   |none=>rw[e] at h2;cases h2
   |some a=>rw[e] at h2;cases h2;rfl
  obtain ⟨u,hu,rv⟩:=r.get ha
  have hp:ps[i]?=some y:=by
   rw[← S.pre,List.getElem?_take_of_lt (by omega)];exact h1
  have ndP:ps.Nodup:=by rw[← S.pre];exact S.nd.sublist (List.take_sublist _ _)
  refine ⟨u,rv,?_⟩;rcases S.par y (Zo hp) with k|k
  .exact .inl ⟨k,zbt ndP hp hu k⟩
  .obtain ⟨c,e⟩:=zc8 (n:=s.heap.objs.size+1) k;refine .inr ⟨.inl k,c,e,?_⟩;have q:=x.cell y c e;rw[zbv ndP hp hu (by show scope.names.lookup y≠_;rw[k];decide)] at q;exact q
 .exact e0.hok.fresh (Zbf (x.above y c (Zaz h)))
 .unfold start;show _=N.length;rw[zzW,zzM,Zbe];omega
theorem fn_of {CX:CXT} {P:Program} {w:World} {K:PySem.W.Frag} {mg:Str->Option Value} {base:Heap} {k:Nat} {f:Addr} {name qual:Str} {params:Arguments} {body:List Stmt} {scope:Scope} {dV kV doc pm cdv ct oc:Value} {an od:Option Addr}
  {osl:Array (Option Value)} {N ps:List Str} {sp:Sp} (lk:K.lookup f=some ⟨oc,od,.func (PySem.W.fnOf name qual params body scope dV kV doc pm an cdv ct),osl⟩) (hcd:PySem.W.codeIn K cdv qual=true) (S:FnScope N ps scope)
  (len:∀ vs H Q E,sp vs H Q E->vs.length=ps.length)
  (hbody:∀ (A:Around) (outer:List Env) (s:Shared) (H:Hp) (vs:List V) (Q:VK) (E:XK),Room k (A.deeper (envOfC qual scope s.heap.objs.size f cdv))->sp vs H Q E ->
   ∃ t,PSs (cxOf CX P w K mg base N qual scope f cdv A outer s H E) body t/\t { nx:=fun _ H'=>Q .non H',rt:=Q } (start N vs) H) :
  FnOk P w K mg base CX (k+1) f (PySem.W.fnOf name qual params body scope dV kV doc pm an cdv ct) ps sp:=by
 suffices core:∀ (A:Around) (outer:List Env) (s:Shared) (H:Hp) (args:Args) (us:List Value) (vs:List V) (Q:VK) (E:XK),Room (k+1) A->Env0 P w K mg base A outer { s with toks:=1 } H->BindsTo s (PySem.W.fnOf name qual params body scope dV kV doc pm an cdv ct) args (ps.zip us)->yZ vs us->sp vs H Q E ->
   (0<s.toks\/∃ x,ps=[x]/\scope.names.lookup x=some .local)->codeAny (model P w) A (.call (.ref f) args) (CR CX outer P w H s Q E) s from
  ⟨len,fun A outer s H args us vs Q E hr e0 hb r hsp=>core A outer s H args us vs Q E hr ⟨e0.frames,e0.mod,e0.bs,e0.bsz,e0.funs,e0.frf,e0.hok,e0.bare,Nat.one_pos⟩ hb r hsp (.inl e0.tk),fun x e l A outer s H args us vs Q E hr e0 hb r hsp=>core A outer s H args us vs Q E hr e0 hb r hsp (.inr ⟨x,e,l⟩)⟩
 intro A outer s H args us vs Q E hr e0 hb r hsp hpos;have hl:=len _ _ _ _ hsp;have KX:K.In s.heap:=e0.mod.kin.keeps fun b o e=>(e0.bs b o e).1;have lim:s.heap.NoLimit:=e0.mod.nolimit.keeps fun b o e=>(e0.bs b o e).1
 have hkind:∀ y∈ps.zip us,scope.names.lookup y.1=some .local\/(scope.names.lookup y.1=some .cell/\((cellsFrom (s.heap.objs.size+1) scope.names []).lookup y.1).isSome=true):=fun ⟨n,v⟩ hy=>by
  rcases S.par n (ZbX hy).1 with q|q
  .exact .inl q
  .exact .inr ⟨q,PySem.W.cellsFrom_some _ _ _ (.inl q)⟩
 refine codeAny_call_function hr.depth (KX _ _ lk) rfl S.co S.gen rfl (PySem.W.codeRec_of KX hcd) (hb _ _ _ _ ?_);refine zdn S.kind hkind (r.length.symm.trans hl) hpos fun env he s1 x h0=>?_;subst he;refine ⟨lim.keeps x.toInCall.keep,codeAny_func ?_⟩;obtain ⟨t,ht,hq⟩:=hbody A outer s H vs Q E (hr.deeper _) hsp;have I:Inv (cxOf CX P w K mg base N qual scope f cdv A outer s H E) [] (start N vs) H s1:=ze9 S hr.hd e0 hl r x h0;refine Zaa (ht [] s1 (start N vs) H _ I hq) (fun fl s' hs=>?_) fun e s' hs=>hs
 have fin:∀ {σ':St} {H':Hp} {v:V} {u:Value},Inv (cxOf CX P w K mg base N qual scope f cdv A outer s H E) [] σ' H' s'->yW v u->Q v H'->CE outer P w H s Q u s' :=
  fun {σ' H' v u} J rv q=>⟨v,H',J.os,J.tk,J.bare,J.base,J.hok,rv,q⟩
 cases fl with
 |ret u =>
  obtain ⟨v,σ',H',J,rv,q⟩:=hs;exact fin J rv q
 |next =>
  obtain ⟨σ',H',J,q⟩:=hs;exact fin (v:=V.non) (u:=Value.none) J rfl q
 |brk =>
  obtain ⟨_,_,_,q⟩:=hs;exact False.elim q
 |cont =>
  obtain ⟨_,_,_,q⟩:=hs;exact False.elim q
end L2
namespace L2
open PySem PySem.Spec PyProof.Rows
section
variable {X:Cx} {x:Str} {p pos:Pos} {e:Expr} {es:List Expr} {t:TA} {id T:String} {r:List V->Hp->VK->Prop}
def tCB (r:List V->Hp->VK->Prop) (t:TA):TE:=fun σ H Q=>t σ H fun vs H1=>r vs H1 Q
theorem zgz (hc:vV X (.builtin id) r) (hg:Gl X x) (hm:X.mg x=none) (hv:bootBuiltins x=some (.builtin id)) (ha:PA X (e::es) t) (hn:x ≠ "__name__" := by decide) (hdb:(x==("__debug__" : Str))=false:=by decide)
  (he:starEach (e::es) X.env=(false,eval e X.env)::starEach es X.env:=by rfl) (hpl:(backTo pos (starEach es X.env)).any (·.1)=false:=by rfl):PE X (.Call (.Name x p) (e::es) [] pos) (tCB r t):=by
 intro pins s σ H Q I h;refine Z9 (pW I hg hm hv ?_ hn hdb);exact PyProof.Rows.callWith_builtin1 (xY (ha pos pins s σ H _ I h) fun us s1 ⟨vs,H1,I1,r1,q1⟩=>hc pins s1 σ H1 vs us Q I1 r1 q1) he hpl
theorem zey (hc:vV X (.type T) r) (hg:Gl X x) (hm:X.mg x=none) (hv:bootBuiltins x=some (.type T)) (ha:PA X (e::es) t) (hn:x ≠ "__name__" := by decide) (hdb:(x==("__debug__" : Str))=false:=by decide)
  (he:starEach (e::es) X.env=(false,eval e X.env)::starEach es X.env:=by rfl) (hpl:(backTo pos (starEach es X.env)).any (·.1)=false:=by rfl):PE X (.Call (.Name x p) (e::es) [] pos) (tCB r t):=by
 intro pins s σ H Q I h;refine Z9 (pW I hg hm hv ?_ hn hdb);exact Z2 (xY (ha pos pins s σ H _ I h) fun us s1 ⟨vs,H1,I1,r1,q1⟩=>hc pins s1 σ H1 vs us Q I1 r1 q1) he hpl
end
end L2
namespace HT
open PySem PyProof.Rows
section
open PySem.SeqAt
open PySem.AutoSeq1 (wpAny_loadPart')
open PySem.MeetsSeq PySem.MeetsSeq2 PySem.MeetsSeq3
end
section
variable {prog:Program} {w:World} {A:Around} {E:Value->Shared->Prop} {s:Shared}
theorem zjU {t b:Addr} {vs ws:List Value} {Q:Value->Shared->Prop} (ht:IsTup s.heap t vs.toArray) (hb:IsTup s.heap b ws.toArray) (hv:vs≠[])
  (h1:ws=[]->Q (.ref t) s) (h2:ws≠[]->Q (.ref s.heap.objs.size) { s with heap:=s.heap.push { cls:=.type "tuple", data:=.seq (vs++ws).toArray } })
  (hsz:vs.length+ws.length<=sizeLine):wpAny (model prog w) A (binaryOp .Add (.ref t) (.ref b)) Q E s:=by
 obtain ⟨⟨cls,dd,data,sl⟩,ho,hc,n,hd⟩:=id ht;obtain ⟨⟨cls2,dd2,data2,sl2⟩,ho2,hc2,n2,hd2⟩:=id hb;simp only at hc hd hc2 hd2;subst hc hd hc2 hd2;have e:vs.toArray++ws.toArray=(vs++ws).toArray:=by simp
 by_cases hw:ws=[]
 .exact concat_meets ⟨_,ho,rfl⟩ ⟨_,ho2,rfl⟩ ZbT Zb6 Za4 Za0 (ZaS _ _)
   (tuple_addW1 t b vs.toArray ws.toArray n n2 dd dd2 sl sl2 (by simpa using hv) (by simp[hw])) ⟨ho,ho2,h1 hw⟩
 .refine concat_meets ⟨_,ho,rfl⟩ ⟨_,ho2,rfl⟩ ZbT Zb6 Za4 Za0 (ZaS _ _)
   (tuple_addW2 t b vs.toArray ws.toArray n n2 dd dd2 sl sl2 (by simpa using hv) (by simpa using hw) (by rw[zzS,zzS];exact hsz)) ⟨ho,ho2,?_⟩
  rw[e];exact h2 hw
def jZ (n d:Nat):Option Int->Nat
 |none=>d
 |some v=>if v<0 then (v+(n:Int)).toNat else min v.toNat n
theorem zkF (n d:Nat) (hd:d<=n) (o:Option Int):jZ n d o<=n:=by
 cases o with
 |none=>exact hd
 |some v =>
  show (if v<0 then (v+(n:Int)).toNat else min v.toNat n)<=n
  by_cases hv:v<0
  .rw[if_pos hv];omega
  .rw[if_neg hv];exact Zbk _ _
theorem zfy (v:Int) (n d:Nat):(if v<0 then max (v+(n:Int)) 0 else min v (n:Int))=((jZ n d (some v):Nat):Int):=by
 show (if v<0 then max (v+(n:Int)) 0 else min v (n:Int))=(((if v<0 then (v+(n:Int)).toNat else min v.toNat n):Nat):Int)
 by_cases hv:v<0
 .simp only[if_pos hv];omega
 .simp only[if_neg hv];omega
theorem zdK (lo hi:Option Int) (n:Nat):Builtin.Slice.sliceAdjust lo hi 1 (n:Int)=(((jZ n 0 lo:Nat):Int),((jZ n n hi:Nat):Int)):=by
 have h1:¬ ((1:Int)<0):=by omega
 unfold Builtin.Slice.sliceAdjust;simp only[h1,if_false];refine Prod.ext ?_ ?_
 .cases lo with
  |none=>rfl
  |some v=>exact zfy v n 0
 .cases hi with
  |none=>rfl
  |some v=>exact zfy v n n
theorem zdk (i j:Nat):Builtin.Slice.slicePlaces (i:Int) (j:Int) 1=j-i:=by
 unfold Builtin.Slice.slicePlaces;have h1:(1:Int) > 0:=by omega
 simp only[h1,if_true,Int.ediv_one]
 split<;>omega
theorem dF {v:Value} {o:Option Int} {Q:Option Int->Shared->Prop} (p:IsPart v o) (h:Q o s):wpAny (model prog w) A (Builtin.Slice.slicePartIndex v) Q E s:=by
 cases p with
 |none=>exact ZbF h
 |int i t=>exact slicePart_int h
theorem vG {sl:Addr} {vl vu:Value} {lo hi:Option Int} {n:Nat} {Q:Int×Int×Nat->Shared->Prop} (hs:s.heap.IsSliceOf sl vl vu .none) (pl:IsPart vl lo) (pu:IsPart vu hi)
  (h:Q (((jZ n 0 lo:Nat):Int),1,jZ n n hi-jZ n 0 lo) s):wpAny (model prog w) A (Builtin.Slice.sliceApplied (.ref sl) (pure (n:Int))) Q E s:=by
 obtain ⟨os,hos,hcs,hds⟩:=id hs;unfold Builtin.Slice.sliceApplied Builtin.Slice.sliceFields;refine Zb (Zb (Zby hos hds (x:=vl) rfl (Zb (Zby hos hds (x:=vu) rfl (Zb (Zby hos hds (x:=.none) rfl (Zg ?_)))))));refine Zb (ZbF ?_);show wpAny _ _ (if ((1:Int)==0)=true then _ else _) _ _ s;rw[if_neg (by decide)];refine Zb (dF pl (Zb (dF pu (Zb (Zg ?_)))));show wpAny _ _ (match Builtin.Slice.sliceAdjust lo hi 1 (n:Int) with|(lo,hi)=>pure (lo,(1:Int),Builtin.Slice.slicePlaces lo hi 1)) _ _ s;rw[zdK lo hi n];show wpAny _ _ (pure (((jZ n 0 lo:Nat):Int),(1:Int),Builtin.Slice.slicePlaces ((jZ n 0 lo:Nat):Int) ((jZ n n hi:Nat):Int) 1)) _ _ s;rw[zdk];exact Zg h
theorem zgv (xs:Array Value) (i k:Nat):((List.range k).filterMap fun (m:Nat)=>xs[((i:Int)+(m:Int) * 1).toNat]?).toArray=((xs.toList.drop i).take k).toArray:=by
 have e:(fun (m:Nat)=>xs[((i:Int)+(m:Int) * 1).toNat]?)=fun m=>xs[i+m]?:=by
  funext m
  have:((i:Int)+(m:Int) * 1).toNat=i+m:=by omega
  rw[this]
 rw[e];have:=pick_run xs i k;rw[ZaW] at this;have e2:((fun x=>xs[x]?) ∘ fun x=>i+x)=fun m=>xs[i+m]?:=rfl;rw[e2] at this;rw[this]
theorem nI {t sl:Addr} {items:Array Value} {vl vu:Value} {lo hi:Option Int} {Q:Value->Shared->Prop} (ht:IsTup s.heap t items) (hs:s.heap.IsSliceOf sl vl vu .none) (pl:IsPart vl lo) (pu:IsPart vu hi)
  (hw:¬ (jZ items.size 0 lo=0/\jZ items.size items.size hi=items.size))
  (h:Q (.ref s.heap.objs.size) { s with heap:=s.heap.push { cls:=.type "tuple", data:=.seq ((items.toList.drop (jZ items.size 0 lo)).take (jZ items.size items.size hi-jZ items.size 0 lo)).toArray } })
  (hsz:items.size<=sizeLine):wpAny (model prog w) A (getItem (.ref t) (.ref sl)) Q E s:=by
 have htake:sizeOk (.seq ((items.toList.drop (jZ items.size 0 lo)).take (jZ items.size items.size hi-jZ items.size 0 lo)).toArray):=by
  show ((items.toList.drop (jZ items.size 0 lo)).take (jZ items.size items.size hi-jZ items.size 0 lo)).toArray.size<=sizeLine;rw[zzS,Z3,ZX,ZH];omega
 have hj:jZ items.size items.size hi<=items.size:=zkF _ _ (zzR _) hi;obtain ⟨os,hos,hcs,hds⟩:=id hs;have hTs:s.TypeIs (.ref sl) "slice" := ⟨os,hos,hcs⟩;unfold getItem
 try with_reducible refine ZK ?_
 first|refine Zb (Zg ?_)|skip
 refine Zb (Za9 ht.typeIs (by decide) ?_)
 refine Zb (ZU (name:=Str.ofString "__getitem__") ht.typeIs Zu
  (ZY Zu ht.typeIs Zbu ?_ (ZbD _ _)))
 show wpAny _ _ (Builtin.Tuple.tupleItemsOf (.ref t) >>= _) _ _ s;refine Zb (Zb8 ht ?_);refine Zb (ZbE hTs ?_);rw[if_pos (by decide)];refine Zb (vG hs pl pu ?_)
 have hno:¬ ((((jZ items.size 0 lo:Nat):Int)==0&&(1:Int)==1&&(jZ items.size items.size hi-jZ items.size 0 lo)==items.size)=true):=by
  intro q;rw[Zl,Zl] at q;have q1:((jZ items.size 0 lo:Nat):Int)=0:=eq_of_beq q.1.1;have q2:jZ items.size items.size hi-jZ items.size 0 lo=items.size:=eq_of_beq q.2;exact hw ⟨by omega,by omega⟩
 show wpAny _ _ (if (((jZ items.size 0 lo:Nat):Int)==0&&(1:Int)==1&&(jZ items.size items.size hi-jZ items.size 0 lo)==items.size)=true then _ else _) _ _ s;rw[if_neg hno,zgv]
 first
  |exact Zb (m:=Builtin.Tuple.tupleExact _) (Zaf (Zg ⟨_,rfl,Zg h⟩) htake)
  |exact Zb (m:=Builtin.Tuple.tupleExact _) (Zaf (Zb (Zg (Zg ⟨_,rfl,Zg h⟩))) htake)
  |exact Zb (Zb (m:=Builtin.Tuple.tupleExact _) (Zaf (Zg (Zg ⟨_,rfl,Zg h⟩)) htake))
  |exact Zb (Zb (m:=Builtin.Tuple.tupleExact _) (Zaf (Zg ⟨_,rfl,Zg h⟩) htake))
end
end HT
namespace L2
open PySem PySem.Spec PyProof.Rows
abbrev TO:=St->Hp->(Option Int->Hp->Prop)->Prop
def PO (X:Cx) (e:Option Expr) (t:TO):Prop :=
 ∀ (pins:List (Addr×Obj)) (s:Shared) (σ:St) (H:Hp) (Q:Option Int->Hp->Prop),Inv X pins σ H s->t σ H Q ->
  wpAny (model X.prog X.w) X.A (evalPart e X.env) (fun u s'=>∃ o H',Inv X pins σ H' s'/\IsPart u o/\Q o H') X.xe s
def zin:TO:=fun _ H Q=>Q none H
def tPart (t:TE):TO:=fun σ H Q=>t σ H fun x H1=>∃ i,x=.int i/\Q (some i) H1
section
variable {X:Cx} {e:Expr} {te:TE} {lo hi:Option Expr} {tl th:TO} {pos p2:Pos}
theorem ziR:PO X none zin:=by
 intro pins s σ H Q I h;rw[Zb4];exact Zg ⟨none,H,I,.none,h⟩
theorem ziQ (h:PE X e te):PO X (some e) (tPart te):=by
 intro pins s σ H Q I hw;rw[evalPart_some];refine xY (h pins s σ H _ I hw) fun u s1 ⟨x,H1,I1,r1,q1⟩=>?_;obtain ⟨i,rfl,q⟩:=q1;obtain ⟨t,rfl⟩:=r1;exact ⟨some i,H1,I1,.int i t,q⟩
def SlR (X:Cx) (r:V->Option Int->Option Int->Hp->VK->Prop):Prop :=
 ∀ (pins:List (Addr×Obj)) (s:Shared) (σ:St) (H:Hp) (x:V) (v vl vu:Value) (lo hi:Option Int) (sl:Addr) (Q:VK),Inv X pins σ H s->yW x v->s.heap.IsSliceOf sl vl vu .none->IsPart vl lo->IsPart vu hi->r x lo hi H Q ->
  ∃ T id,typeLookup (.type T) "__getitem__" = pure (some (.builtin id))/\s.TypeIs v T/\wpAny (model X.prog X.w) X.A (getItem v (.ref sl)) (EP X pins σ Q) X.xe s
def tSl (r:V->Option Int->Option Int->Hp->VK->Prop) (te:TE) (tl th:TO):TE:=fun σ H Q=>te σ H fun x H1=>tl σ H1 fun l H2=>th σ H2 fun u H3=>r x l u H3 Q
theorem zgw {r:V->Option Int->Option Int->Hp->VK->Prop} (hr:SlR X r) (he:PE X e te) (hl:PO X lo tl) (hu:PO X hi th):PE X (.Subscript e (.Slice lo hi none p2) pos) (tSl r te tl th):=by
 intro pins s σ H Q I h;refine Subscript_ (xY (he pins s σ H _ I h) fun v s1 ⟨x,H1,I1,r1,q1⟩=>?_);refine wpAny_Slice (xY (hl pins s1 σ H1 _ I1 q1) fun vl s2 ⟨l,H2,I2,pl,q2⟩=>xY (hu pins s2 σ H2 _ I2 q2) fun vu s3 ⟨u,H3,I3,pu,q3⟩=>?_);rw[Zb4];refine Zg ?_;have I4:Inv X pins σ H3 { s3 with heap:=s3.heap.push { cls:=.type "slice", data:=.fields #[vl,vu,.none] } }:=I3.kept (t':=s3.toks) fun b ob q=>Za _ q;obtain ⟨T,id,hT,ht,hg⟩:=hr pins { s3 with heap:=s3.heap.push { cls:=.type "slice", data:=.fields #[vl,vu,.none] } } σ H3 x v vl vu l u s3.heap.objs.size Q I4 r1 (Heap.IsSliceOf.new ..) pl pu q3;show wpAny (model X.prog X.w) X.A (subscriptTail e (.Slice lo hi none p2) v (.ref s3.heap.objs.size)) (EP X pins σ Q) X.xe { s3 with heap:=s3.heap.push { cls:=.type "slice", data:=.fields #[vl,vu,.none] } };exact Zb7 (ops:=[.ref s3.heap.objs.size,v]) ht hT hg (by with_unfolding_all rfl)
def cutV (xs:List V) (lo hi:Option Int):List V:=(xs.drop (HT.jZ xs.length 0 lo)).take (HT.jZ xs.length xs.length hi-HT.jZ xs.length 0 lo)
theorem gD (xs:List V) (lo hi:Option Int):(cutV xs lo hi).length<=xs.length:=by
 unfold cutV;rw[Z3,ZX];omega
def rSlT (K:PySem.W.Frag):V->Option Int->Option Int->Hp->VK->Prop:=fun x lo hi H Q=>∃ a xs,x=.ref a/\pR K H a xs /\
 ¬ (HT.jZ xs.length 0 lo=0/\HT.jZ xs.length xs.length hi=xs.length)/\∀ p,H p=none->Q (.ref p) (xC H p (.tup (cutV xs lo hi)))
theorem zkv:SlR X (rSlT X.K):=by
 intro pins s σ H x v vl vu lo hi sl Q I rx hs pl pu h;obtain ⟨a,xs,rfl,hx,hw,q⟩:=h;cases rx;obtain ⟨its,r,ht,hz⟩:=I.tuple hx;have hlen:its.toArray.size=xs.length:=by rw[zzS];exact r.length.symm
 refine ⟨"tuple", _,Zu.lookup,ht.typeIs,?_⟩;refine HT.nI ht hs pl pu (by rw[hlen];exact hw) ?_ (by rw[hlen];exact hz);rw[hlen];refine ⟨.ref s.heap.objs.size,_,I.laid (t':=s.toks) (o:=.tup (cutV xs lo hi)) (fun b ob q=>Za _ q) (zzR _) ?_,rfl,q _ (I.hok.fresh (zzR _))⟩;exact ⟨Ze (gD xs lo hi) hz,_,(r.drop (HT.jZ xs.length 0 lo)).take (HT.jZ xs.length xs.length hi-HT.jZ xs.length 0 lo),Zb3 _ _⟩
def rCatT (K:PySem.W.Frag):R2:=fun x y H Q=>∃ a b xs ys,x=.ref a/\y=.ref b/\pR K H a xs/\pR K H b ys/\xs≠[]/\xs.length+ys.length<=sizeLine /\
 (ys=[]->Q (.ref a) H)/\(ys≠[]->∀ p,H p=none->Q (.ref p) (xC H p (.tup (xs++ys))))
theorem yZ.nil_iff {xs:List V} {us:List Value} (r:yZ xs us):us=[]↔xs=[]:=by
 cases r with
 |nil=>simp
 |cons _ _=>simp
theorem zi4:sF X (binaryOp .Add) (rCatT X.K):=by
 intro pins s σ H x y v u Q I rx ry h;obtain ⟨a,b,xs,ys,rfl,rfl,ha,hb,hx,hz,q1,q2⟩:=h;cases rx;cases ry;obtain ⟨its,r1,p1,_⟩:=I.tuple ha;obtain ⟨its2,r2,p2,_⟩:=I.tuple hb;refine HT.zjU p1 p2 (fun z=>hx (r1.nil_iff.mp z)) (fun z=>⟨.ref a,H,I,rfl,q1 (r2.nil_iff.mp z)⟩) (fun z=>?_) (by rw[← r1.length,← r2.length];exact hz);refine ⟨.ref s.heap.objs.size,_,I.laid (t':=s.toks) (o:=.tup (xs++ys)) (fun b ob q=>Za _ q) (zzR _) ?_,rfl,q2 (fun w=>z (r2.nil_iff.mpr w)) _ (I.hok.fresh (zzR _))⟩;exact ⟨by rw[zzW];exact hz,_,r1.append r2,Zb3 _ _⟩
end
end L2
namespace L2
open PySem PySem.Spec PyProof.Rows
def ixN (n:Nat) (i:Int):Option Nat:=if 0<=i then (if i<n then some i.toNat else none) else if -(n:Int)<=i then some (i+n).toNat else none
def pS {α:Type} (xs:List α) (i:Int):Option α:=(ixN xs.length i).bind fun j=>xs[j]?
theorem ze8 {n:Nat} {i:Int} {j:Nat} (h:ixN n i=some j):seqIndex? i n=some j/\j<n/\-(n:Int)<=i/\i<n:=by
 unfold ixN at h
 by_cases h0:0<=i
 .rw[if_pos h0] at h
  by_cases h1:i<n
  .rw[if_pos h1] at h;have e:i.toNat=j:=ZA h;exact ⟨by rw[seqIndex_of h0 h1,e],by omega,by omega,h1⟩
  .rw[if_neg h1] at h;cases h
 .rw[if_neg h0] at h
  by_cases h1:-(n:Int)<=i
  .rw[if_pos h1] at h;have e:(i+n).toNat=j:=ZA h;exact ⟨by rw[seqIndex_neg (by omega) h1,e],by omega,h1,by omega⟩
  .rw[if_neg h1] at h;cases h
theorem zck {α:Type} {xs:List α} {i:Int} {v:α} (h:pS xs i=some v):∃ j,seqIndex? i xs.length=some j/\xs[j]?=some v/\j<xs.length/\-(xs.length:Int)<=i/\i<xs.length:=by
 unfold pS at h
 cases e:ixN xs.length i with
 |none=>rw[e] at h;cases h
 |some j =>
  rw[e] at h;obtain ⟨h1,h2,h3,h4⟩:=ze8 e;exact ⟨j,h1,h,h2,h3,h4⟩
def zfR (b:Expr):Prop:=∀ o i,subscripted b false o i=operate [o,i] (getItem o i)
def IxR (X:Cx) (r:R2):Prop :=
 ∀ (value slice:Expr) (pins:List (Addr×Obj)) (s:Shared) (σ:St) (H:Hp) (x y:V) (v u:Value) (Q:VK),Inv X pins σ H s->yW x v->yW y u->r x y H Q ->
  subscripted slice false v u=operate [v,u] (getItem v u)->wpAny (model X.prog X.w) X.A (subscriptTail value slice v u) (EP X pins σ Q) X.xe s
def MtR (X:Cx) (id:String) (r:V->List V->Hp->VK->Prop):Prop :=
 ∀ (pins:List (Addr×Obj)) (s:Shared) (σ:St) (H:Hp) (x:V) (xs:List V) (v:Value) (us:List Value) (Q:VK),Inv X pins σ H s->yW x v->yZ xs us->r x xs H Q ->
  wpAny (model X.prog X.w) X.A (call (.builtin id) (v::us)) (EP X pins σ Q) X.xe s
section
variable {X:Cx} {a b:Expr} {ta tb:TE} {pos:Pos}
theorem pe_ix {r:R2} (hr:IxR X r) (ha:PE X a ta) (hb:PE X b tb) (hs:zfR b):PE X (.Subscript a b pos) (tOp r ta tb):=by
 intro pins s σ H Q I h;exact Subscript_ (binT ha hb I h fun v u s2 x y H2 I2 rx ry q=>hr a b pins s2 σ H2 x y v u Q I2 rx ry q (hs _ _))
def rIxL (K:PySem.W.Frag):R2:=fun x y H Q=>∃ p xs i v,x=.ref p/\y=.int i/\mY K H p xs/\pS xs i=some v/\Q v H
def rIxT (K:PySem.W.Frag):R2:=fun x y H Q=>∃ p xs i v,x=.ref p/\y=.int i/\pR K H p xs/\pS xs i=some v/\Q v H
def rIxS:R2:=fun x y H Q=>∃ z i c,x=.str z/\y=.int i/\z.length<=sizeLine/\pS z.cps.toList i=some c/\Q (.str ⟨#[c]⟩) H
theorem zjj:IxR X (rIxL X.K):=by
 intro value slice pins s σ H x y v u Q I rx ry h hs;obtain ⟨p,xs,i,z,rfl,rfl,hq,he,q⟩:=h;cases rx;obtain ⟨t,rfl⟩:=ry;obtain ⟨its,r,pl,hz⟩:=I.list hq;obtain ⟨j,h1,h2,h3,h4,h5⟩:=zck he;obtain ⟨w,ew,rw'⟩:=r.get h2;have hl:=r.length;have hn:=pX;have fin:EP X pins σ Q w s:=⟨z,H,I,rw',q⟩
 by_cases h0:0<=i
 .have hj:i.toNat=j:=by
   rw[seqIndex_of h0 h5] at h1;exact ZA h1
  exact item_listR pl.isList h0 (by omega) (by rw[hj];simpa using ew) fin hs
 .have hj:(i+(its.toArray.size:Int)).toNat=j:=by
   rw[seqIndex_neg (by omega) h4] at h1;rw[zzS,← hl];exact ZA h1
  exact subscriptTail_builtinR (x:=w) pl.isList.typeIs slot_list_getitem.lookup
   (wpAny_getItem_list_neg (Q:=fun r s'=>r=w/\EP X pins σ Q r s') pl.isList (by omega) (by rw[zzS]<;>omega) (by omega) (by rw[hj];simpa using ew) ⟨rfl,fin⟩) hs
theorem zlH:IxR X (rIxT X.K):=by
 intro value slice pins s σ H x y v u Q I rx ry h hs;obtain ⟨p,xs,i,z,rfl,rfl,hq,he,q⟩:=h;cases rx;obtain ⟨t,rfl⟩:=ry;obtain ⟨its,r,pl,hz⟩:=I.tuple hq;obtain ⟨j,h1,h2,h3,h4,h5⟩:=zck he;obtain ⟨w,ew,rw'⟩:=r.get h2;have hl:=r.length;have hn:=pX;have fin:EP X pins σ Q w s:=⟨z,H,I,rw',q⟩
 exact subscriptTail_builtinR (x:=w) pl.typeIs slot_tuple_getitem.lookup
  (getItem_tuple (j:=j) (Q:=fun r s'=>r=w/\EP X pins σ Q r s') pl (by omega) (by omega) (by rw[zzS,← hl];exact h1) (by simpa using ew) ⟨rfl,fin⟩) hs
theorem zlI:IxR X rIxS:=by
 intro value slice pins s σ H x y v u Q I rx ry h hs;obtain ⟨z,i,c,rfl,rfl,hz,he,q⟩:=h;obtain ⟨t,rfl⟩:=rx;obtain ⟨t',rfl⟩:=ry;obtain ⟨j,h1,h2,h3,h4,h5⟩:=zck he;have hl:z.cps.toList.length=z.length:=by simp[Str.length]
 rw[hl] at h1 h4 h5;have hn:=pX
 exact Zb7 (Za7 s z t) slot_str_getitem.lookup (getItem_str (c:=c) (by
  have e1:decide (i < -(2 ^ 63:Int))=false:=decide_eq_false (by omega);have e2:decide (i>=2 ^ 63)=false:=decide_eq_false (by omega);rw[e1,e2,Bool.or_false]) (by rw[h1];simpa using h2) ⟨.str ⟨#[c]⟩,H,I.tok _,⟨_,rfl⟩,q⟩) hs
theorem zdp (its:List Value) (n j:Nat) (u:Value):Obj.mapSeq (·.setIfInBounds j u) { cls:=.type "list", data:=.seq its.toArray n }={ cls:=.type "list", data:=.seq (its.set j u).toArray n }:=by
 simp[Obj.mapSeq]
theorem Inv.lst {pins:List (Addr×Obj)} {σ:St} {H:Hp} {s:Shared} {p:Addr} {xs:List V} (I:Inv X pins σ H s) (h:H p=some (.lst xs)) :
  ∃ (its:List Value) (n:Nat),yZ xs its/\s.heap.get? p=some { cls:=.type "list", data:=.seq its.toArray n }/\xs.length<=sizeLine:=by
 obtain ⟨z,its,n,r,e⟩:=I.hok p _ h;exact ⟨its,n,r,e,z⟩
theorem Inv.lstUpd {pins:List (Addr×Obj)} {σ:St} {H:Hp} {s:Shared} {p:Addr} {xs ys:List V} {its its':List Value} {n n':Nat} {f:Obj->Obj} (I:Inv X pins σ H s) (h:H p=some (.lst xs))
  (ho:s.heap.get? p=some { cls:=.type "list", data:=.seq its.toArray n }) (hf:f { cls:=.type "list", data:=.seq its.toArray n }={ cls:=.type "list", data:=.seq its'.toArray n' }) (r:yZ ys its') (hz:ys.length<=sizeLine) (t:Nat) (ht:0<t:=by first|exact ZR _|exact L2.Inv.tk (by assumption)|exact L2.Inv.tk ‹L2.Inv _ _ _ _ _› | assumption|omega) :
  Inv X pins σ (xC H p (.lst ys)) { s with heap:=s.heap.update p f,toks:=t }:=by
 have e:(s.heap.update p f).get? p=some { cls:=.type "list", data:=.seq its'.toArray n' }:=by
  rw[Zx f ho (by rw[hf]<;>rfl),hf]
 refine I.write (x:=p) (e:=p) (by rw[h];trivial) (.inl rfl) (fun b u hb q=>(ZW _ _ (Ne.symm hb)).trans q) ⟨_,e⟩ ?_;exact ⟨hz,its',n',r,e⟩
def rSetL:V->V->V->Hp->(Hp->Prop)->Prop:=fun o i v H Q=>∃ p xs k j,o=.ref p/\i=.int k/\H p=some (.lst xs)/\ixN xs.length k=some j/\Q (xC H p (.lst (xs.set j v)))
theorem zgc:PSet X rSetL:=by
 intro pins s σ H o i v ov iv u Q I ro ri rv h;obtain ⟨p,xs,k,j,rfl,rfl,hp,hj,q⟩:=h;cases ro;obtain ⟨t,rfl⟩:=ri;obtain ⟨its,n,r,ho,hz⟩:=I.lst hp;obtain ⟨h1,h2,h3,h4⟩:=ze8 hj;have hl:=r.length;have hn:=pX
 have I':Inv X pins σ (xC H p (.lst (xs.set j v))) { s with heap:=s.heap.update p (Obj.mapSeq (·.setIfInBounds j u)) } :=
  I.lstUpd hp ho (zdp its n j u) (r.set rv j) (by rw[List.length_set];exact hz) s.toks
 by_cases h0:0<=k
 .have hk:k.toNat=j:=by
   rw[seqIndex_of h0 h4] at h1;exact ZA h1
  exact PySem.W.ki_setAt ho h0 (by omega) (by rw[zzS,← hl];exact h4) (by rw[hk];exact ⟨_,I',q⟩)
 .have hk:(k+(its.toArray.size:Int)).toNat=j:=by
   rw[seqIndex_neg (by omega) h3] at h1;rw[zzS,← hl];exact ZA h1
  exact PySem.W.ki_setBack ho (by omega) (by rw[zzS,← hl];exact h3) (by omega) (by rw[hk];exact ⟨_,I',q⟩)
theorem zaM (lo hi:Option Int) (n:Nat):(sliceBounds lo hi none n).1=((HT.jZ n 0 lo:Nat):Int)/\(sliceBounds lo hi none n).2.1=((HT.jZ n n hi:Nat):Int)/\(sliceBounds lo hi none n).2.2=1:=by
 refine ⟨?_,?_,rfl⟩
 .cases lo with
  |none=>simp[sliceBounds,HT.jZ]
  |some i =>
   simp only[sliceBounds,HT.jZ,Option.getD_none,show (1:Int) > 0 by decide,if_true]
   by_cases h:i<0
   .simp only[h,if_true]<;>omega
   .simp only[h,if_false]<;>omega
 .cases hi with
  |none=>simp[sliceBounds,HT.jZ]
  |some i =>
   simp only[sliceBounds,HT.jZ,Option.getD_none,show (1:Int) > 0 by decide,if_true]
   by_cases h:i<0
   .simp only[h,if_true]<;>omega
   .simp only[h,if_false]<;>omega
theorem zai (its:List Value) (lo hi:Option Int):slicePick its.toArray lo hi none=((its.drop (HT.jZ its.length 0 lo)).take (HT.jZ its.length its.length hi-HT.jZ its.length 0 lo)).toArray:=by
 obtain ⟨h1,h2,h3⟩:=zaM lo hi its.toArray.size;unfold slicePick;rw[h1,h2,h3];simp only[sliceRange_one,pick_run,zzS]<;>rfl
def rSlL (K:PySem.W.Frag):V->Option Int->Option Int->Hp->VK->Prop:=fun x lo hi H Q=>∃ a xs,x=.ref a/\mY K H a xs/\∀ p,H p=none->Q (.ref p) (xC H p (.lst (cutV xs lo hi)))
theorem zek:SlR X (rSlL X.K):=by
 intro pins s σ H x v vl vu lo hi sl Q I rx hs pl pu h;obtain ⟨a,xs,rfl,hx,q⟩:=h;cases rx;obtain ⟨its,r,ht,hz⟩:=I.list hx;have hlen:=r.length;refine ⟨"list", _,slot_list_getitem.lookup,ht.isList.typeIs,?_⟩;refine wpAny_getItem_list_slice ht.isList hs pl pu .none (by simp) ?_ (by rw[zzS]<;>omega);rw[zai,← hlen];refine ⟨.ref s.heap.objs.size,_,I.laid (t':=s.toks) (o:=.lst (cutV xs lo hi)) (fun b ob q=>Za _ q) (zzR _) ?_,rfl,q _ (I.hok.fresh (zzR _))⟩;exact ⟨Ze (gD xs lo hi) hz,_,0,(r.drop (HT.jZ xs.length 0 lo)).take (HT.jZ xs.length xs.length hi-HT.jZ xs.length 0 lo),Zk _ rfl⟩
theorem za3:sF X (compareOp .NotIn) (fun x y H Q=>∃ i j,x=.str i/\y=.str j/\Q (.bl (!(!(Builtin.Str.occurrences j i 0 j.length 1).isEmpty))) H):=by
 intro pins s σ H x y v u Q I rx ry h;obtain ⟨i,j,rfl,rfl,q⟩:=h;obtain ⟨t,rfl⟩:=rx;obtain ⟨t',rfl⟩:=ry;exact notIn_str ⟨.bl _,H,I,rfl,q⟩
theorem uK:vV X (.builtin "len") (fun xs H Q=>∃ p ys,xs=[.ref p]/\(mY X.K H p ys\/pR X.K H p ys)/\Q (.int ys.length) H):=by
 intro pins s σ H xs us Q I r h;obtain ⟨p,ys,rfl,hq,q⟩:=h;obtain ⟨u,rfl,rx⟩:=vH r;cases rx;have hn:=pX;rcases hq with hq|hq
 .obtain ⟨its,r',pl,hz⟩:=I.list hq;have hlen:=r'.length;exact Calls.call_len_list pl.isList (by simp only[zzS]<;>omega) ⟨.int ys.length,H,I.tok _,⟨s.toks+1,by rw[zzS,hlen]⟩,q⟩
 .obtain ⟨its,r',pl,hz⟩:=I.tuple hq;have hlen:=r'.length;exact len_tuple pl (by simp only[zzS]<;>omega) ⟨.int ys.length,H,I.tok _,⟨s.toks+1,by rw[zzS,hlen]⟩,q⟩
theorem zbr:vV X (.builtin "len") (fun xs H Q=>∃ z,xs=[.str z]/\z.length<=sizeLine/\Q (.int z.length) H):=by
 intro pins s σ H xs us Q I r h;obtain ⟨z,rfl,hz,q⟩:=h;obtain ⟨u,rfl,t,rfl⟩:=vH r;have hn:=pX;exact len_str (by omega) ⟨.int z.length,H,I.tok _,⟨_,rfl⟩,q⟩
theorem zbq:vV X (.type "list") (fun xs H Q=>∃ p ys,xs=[.ref p]/\(mY X.K H p ys\/pR X.K H p ys)/\∀ l,H l=none->Q (.ref l) (xC H l (.lst ys))):=by
 intro pins s σ H xs us Q I r h;obtain ⟨p,ys,rfl,hq,q⟩:=h;obtain ⟨u,rfl,rx⟩:=vH r;cases rx
 have fin:∀ (its:List Value),yZ ys its->ys.length<=sizeLine->∀ (h':Heap) (c':Nat),(∀ b o',s.heap.get? b=some o'->h'.get? b=some o') ->
   h'.get? s.heap.objs.size=some { cls:=.type "list", dict:=none,data:=.seq its.toArray c',slots:=#[] }->EP X pins σ Q (.ref s.heap.objs.size) { s with heap:=h' }:=fun its r' hz h' c' kp e =>
  ⟨.ref s.heap.objs.size,_,I.laid (t':=s.toks) kp (zzR _) (show xD X.prog X.w _ h' _ (.lst ys) from ⟨hz,its,c',r',e⟩),rfl,q _ (I.hok.fresh (zzR _))⟩
 rcases hq with hq|hq
 .obtain ⟨its,r',pl,hz⟩:=I.list hq;have hlen:=r'.length;obtain ⟨o,ho,hc,n,hd⟩:=pl.isList;exact call_list_seq p (.inl rfl) ho hc hd (fun h' c' kp e=>fin its r' hz h' c' kp e) (by simp only[zzS]<;>omega)
 .obtain ⟨its,r',pl,hz⟩:=I.tuple hq;have hlen:=r'.length;obtain ⟨o,ho,hc,n,hd⟩:=pl;exact call_list_seq p (.inr rfl) ho hc hd (fun h' c' kp e=>fin its r' hz h' c' kp e) (by simp only[zzS]<;>omega)
def tyV (K:PySem.W.Frag) (T:String) (x:V) (H:Hp):Prop:=match x with
 | .str _=>T = "str"
 | .int _=>T = "int"
 | .ref p=>(T = "list" /\ ∃ xs,mY K H p xs)\/(T = "tuple" /\ ∃ o,K.lookup p=some o/\o.cls=.type "tuple" /\ o.dict=none) \/
   (T = "dict" /\ ((∃ kvs,H p=some (.dK kvs))\/∃ kvs,H p=some (.dT kvs)))\/(T = "set" /\ ∃ S n,H p=some (.set S n))
 |_=>False
theorem zho {pins:List (Addr×Obj)} {σ:St} {H:Hp} {s:Shared} {T:String} {x:V} {v:Value} (I:Inv X pins σ H s) (r:yW x v) (ty:tyV X.K T x H) :
  s.TypeIs v T/\∀ a,v=.ref a->∃ ob,s.heap.get? a=some ob/\ob.dict=none:=by
 cases x with
 |str z =>
  obtain ⟨t,rfl⟩:=r;cases (show T = "str" from ty);exact ⟨Za7 s z t,fun _ e=>nomatch e⟩
 |int i =>
  obtain ⟨t,rfl⟩:=r;cases (show T = "int" from ty);exact ⟨Zbq s i t,fun _ e=>nomatch e⟩
 |ref p =>
  cases r;rcases ty with ⟨rfl,xs,hq⟩|⟨rfl,o,hk,hc,hd⟩|⟨rfl,hk⟩|⟨rfl,S,n,hk⟩
  .obtain ⟨its,_,pl,_⟩:=I.list hq;refine ⟨pl.isList.typeIs,fun a e=>?_⟩;cases e;obtain ⟨o,n,e,c,hd,_⟩:=pl;exact ⟨o,e,hd⟩
  .refine ⟨⟨o,I.kIn p o hk,hc⟩,fun a e=>?_⟩;cases e;exact ⟨o,I.kIn _ o hk,hd⟩
  .have z:∃ o,s.heap.get? p=some o/\o.ExactDict:=by
    rcases hk with ⟨kvs,hk⟩|⟨kvs,hk⟩
    .obtain ⟨_,_,_,_,o,_,_,e,ex,_⟩:=I.hok p _ hk;exact ⟨o,e,ex⟩
    .obtain ⟨_,_,_,_,o,_,_,e,ex,_⟩:=I.hok p _ hk;exact ⟨o,e,ex⟩
   obtain ⟨o,e,ex⟩:=z;refine ⟨⟨o,e,ex.1⟩,fun a e2=>?_⟩;cases e2;exact ⟨o,e,ex.2.1⟩
  .obtain ⟨o,_,_,_,e,ex,_⟩:=I.hok p _ hk;refine ⟨⟨o,e,ex.1⟩,fun a e2=>?_⟩;cases e2;exact ⟨o,e,ex.2.1⟩
 |_=>exact False.elim ty
def tBM0 (K:PySem.W.Frag) (T:String) (r:V->List V->Hp->VK->Prop) (to:TE):TE:=fun σ H Q=>to σ H fun x H1=>tyV K T x H1/\r x [] H1 Q
def tBM (K:PySem.W.Frag) (T:String) (r:V->List V->Hp->VK->Prop) (to:TE) (t:TA):TE:=fun σ H Q=>to σ H fun x H1=>tyV K T x H1/\t σ H1 fun xs H2=>r x xs H2 Q
variable {o e:Expr} {es:List Expr} {to:TE} {t:TA} {name:Str} {apos cpos:Pos} {T id:String} {r:V->List V->Hp->VK->Prop}
theorem zk8 (pa:PlainAttrs T) (slot:Slot T name id) (hty:typeOf (.builtin id)=pure (.type "method_descriptor")) (hm:MtR X id r) (ho:PE X o to)
  (hbase:attributeBase o name X.env (eval o X.env)=eval o X.env:=by rfl) (hline:(apos.endLine==cpos.line)=true:=by rfl):PE X (.Call (.Attribute o name apos) [] [] cpos) (tBM0 X.K T r to):=by
 intro pins s σ H Q I h;refine wpAny_Call_method0_late hbase hline (xY (ho pins s σ H _ I h) fun v s1 ⟨x,H1,I1,r1,ty,q1⟩=>?_);obtain ⟨h1,h2⟩:=zho I1 r1 ty;exact ⟨T,id,pa,slot,hty,h1,h2,ZaD rfl (PySem.evalArgs_none (hm pins s1 σ H1 x [] v [] Q I1 r1 .nil q1))⟩
theorem pe_bm (pa:PlainAttrs T) (slot:Slot T name id) (hty:typeOf (.builtin id)=pure (.type "method_descriptor")) (hm:MtR X id r) (ho:PE X o to) (ha:PA X (e::es) t)
  (hbase:attributeBase o name X.env (eval o X.env)=eval o X.env:=by rfl)
  (hfew:((backTo cpos (starEach (e::es) X.env)).all (fun x=>!x.1)&&(backToKw cpos (keywordEach [] X.env)).all (fun x=>x.1.isSome)
   && decide ((e::es).length+([]:List Keyword).length+(if ([]:List Keyword).isEmpty then 0 else 1)<30))=true:=by rfl)
  (hline:(apos.endLine==cpos.line)=true:=by rfl) (hs:starEach (e::es) X.env=(false,eval e X.env)::starEach es X.env:=by rfl) (hplain:(backTo cpos (starEach es X.env)).any (·.1)=false:=by rfl) :
  PE X (.Call (.Attribute o name apos) (e::es) [] cpos) (tBM X.K T r to t):=by
 intro pins s σ H Q I h;refine wpAny_Call_method_late hbase hfew hline rfl (xY (ho pins s σ H _ I h) fun v s1 ⟨x,H1,I1,r1,ty,q1⟩=>?_);obtain ⟨h1,h2⟩:=zho I1 r1 ty;refine ⟨T,id,pa,slot,hty,h1,h2,?_⟩;have hA:=ha cpos pins s1 σ H1 _ I1 q1;rw[hs] at hA ⊢;refine ZaD (by show (false || (backTo cpos (starEach es X.env)).any (·.1))=false;rw[hplain]<;>rfl) (ZaM ?_);exact xY hA fun us s2 ⟨vs,H2,I2,r2,q2⟩=>hm pins s2 σ H2 x vs v us Q I2 r1 r2 q2
/- xs.append(e),list.index on a module's tuple .. are MtR facts of 06m -/
end
end L2
namespace L2
open PySem PySem.Spec PyProof.Rows
def MtM (X:Cx) (id:String) (r:V->List V->Hp->VK->Prop):Prop :=
 ∀ (pins:List (Addr×Obj)) (s:Shared) (σ:St) (H:Hp) (x:V) (xs:List V) (v:Value) (us:List Value) (Q:VK),Inv X pins σ H s->yW x v->yZ xs us->r x xs H Q ->
  wpAny (model X.prog X.w) X.A (call (.builtin id) (v::us)) (EP X pins σ Q) X.xe s
theorem yZ.one:∀ {x:V} {us:List Value},yZ [x] us->∃ u,us=[u]/\yW x u
 |_,_,.cons r .nil=>⟨_,rfl,r⟩
theorem yZ.zero:∀ {us:List Value},yZ [] us->us=[]
 |_,.nil=>rfl
theorem yZ.dropLast {xs:List V} {us:List Value} (h:yZ xs us):yZ xs.dropLast us.dropLast:=by
 induction h with
 |nil=>exact .nil
 |cons r t ih =>
  cases t with
  |nil=>exact .nil
  |cons q t'=>exact .cons r ih
theorem yZ.reverse {xs:List V} {us:List Value} (h:yZ xs us):yZ xs.reverse us.reverse:=by
 induction h with
 |nil=>exact .nil
 |cons r t ih=>rw[ZO,ZO];exact yZ.append ih (.cons r .nil)
theorem yZ.rep {xs:List V} {us:List Value} (h:yZ xs us):∀ k:Nat,yZ (List.replicate k xs).flatten (List.replicate k us).flatten
 | 0=>.nil
 |k+1=>by
  rw[ZQ,ZQ,Zas,Zas];exact yZ.append h (yZ.rep h k)
theorem zdA {α:Type} (l:List α):l.eraseIdx (l.length-1)=l.dropLast:=by
 induction l with
 |nil=>rfl
 |cons a r ih =>
  cases r with
  |nil=>rfl
  |cons b r =>
   have e:(a::b::r).length-1=((b::r).length-1)+1:=by
    have h1:(a::b::r).length=r.length+2:=rfl;have h2:(b::r).length=r.length+1:=rfl;omega
   rw[e,List.eraseIdx_cons_succ,ih]
   all_goals rfl
theorem zbh (its:List Value):∀ (k:Nat) (acc:List Value),
  List.foldl (fun x1 x2=>x1++x2) acc.toArray (List.replicate k its.toArray)=(acc++(List.replicate k its).flatten).toArray
 | 0,acc=>by simp
 |k+1,acc=>by
  have e:acc.toArray++its.toArray=(acc++its).toArray:=by simp
  have e2:(acc++its)++(List.replicate k its).flatten=acc++(List.replicate (k+1) its).flatten:=by
   rw[ZQ,Zas,ZZ]
  rw[← e2,← zbh its k (acc++its),← e,ZQ,List.foldl_cons]
section
variable {X:Cx} {pins:List (Addr×Obj)} {σ:St} {H:Hp} {s:Shared} {l b:Addr} {xs ys zs:List V}
theorem Inv.lset {its its':List Value} {n:Nat} {f:Array Value->Array Value} {t':Nat} (I:Inv X pins σ H s) (hH:H l=some (.lst xs))
  (e:s.heap.get? l=some { cls:=.type "list", data:=.seq its.toArray n }) (hf:f its.toArray=its'.toArray) (hv:yZ ys its') (hz:ys.length<=sizeLine) (ht:0<t':=by first|exact ZR _|exact L2.Inv.tk (by assumption)|exact L2.Inv.tk ‹L2.Inv _ _ _ _ _› | assumption|omega) :
  Inv X pins σ (xC H l (.lst ys)) { s with heap:=s.heap.update l (Obj.mapSeq f),toks:=t' }:=by
 have q:=PySem.IsL.update e f;rw[hf] at q;refine I.write (x:=l) (e:=l) (by rw[hH];exact trivial) (.inl rfl) (fun b' u hb hu=>(ZW s.heap (Obj.mapSeq f) (Ne.symm hb)).trans hu) ⟨_,q⟩ ?_;exact ⟨hz,its',_,hv,q⟩
theorem Inv.lnew {its:List Value} {t':Nat} (I:Inv X pins σ H s) (hv:yZ ys its) (hz:ys.length<=sizeLine) (ht:0<t':=by first|exact ZR _|exact L2.Inv.tk (by assumption)|exact L2.Inv.tk ‹L2.Inv _ _ _ _ _› | assumption|omega) :
  Inv X pins σ (xC H s.heap.objs.size (.lst ys)) { s with heap:=s.heap.push { cls:=.type "list", data:=.seq its.toArray },toks:=t' } :=
 I.laid (fun _ _ q=>Za _ q) (zzR _) ⟨hz,its,0,hv,Zk _ rfl⟩
theorem Inv.fresh (I:Inv X pins σ H s):H s.heap.objs.size=none:=I.hok.fresh (zzR _)
theorem Inv.lstM (I:Inv X pins σ H s) (hH:H l=some (.lst xs)):xs.length<=sizeLine/\∃ (its:List Value) (n:Nat),yZ xs its/\xs.length=its.length/\s.heap.get? l=some { cls:=.type "list", data:=.seq its.toArray n }:=by
 obtain ⟨z,its,n,r,e⟩:=I.hok l _ hH;exact ⟨z,its,n,r,r.length,e⟩
theorem cH {n:Nat} (h:n<=sizeLine):Builtin.List.listTooLong n=false:=by
 unfold Builtin.List.listTooLong;exact decide_eq_false (by omega)
end
section
variable {X:Cx}
def ziF:V->List V->Hp->VK->Prop:=fun x vs H Q=>∃ l xs y,x=.ref l/\vs=[y]/\H l=some (.lst xs)/\xs.length<sizeLine/\Q .non (xC H l (.lst (xs++[y])))
theorem zeL:MtM X "list.append" ziF:=by
 intro pins s σ H x vs v us Q I rx rv h;obtain ⟨l,xs,y,rfl,rfl,hH,hz,q⟩:=h;cases rx;obtain ⟨u,rfl,ru⟩:=rv.one;obtain ⟨z,its,n,r,hl,e⟩:=I.lstM hH;refine Zae F.slot_list_append ⟨_,e,rfl⟩ F.entry_list_append (F.args_list_append_2 _ _) (PySem.list_append l its.toArray n u (by rw[zzS];omega)) ⟨e,?_⟩;refine ⟨.non,_,I.lset (its':=its++[u]) hH e (by simp) (r.append (.cons ru .nil)) ?_,rfl,q⟩;rw[zzW,List.length_singleton];omega
def rPop:V->List V->Hp->VK->Prop:=fun x vs H Q=>∃ l xs y,x=.ref l/\vs=[]/\H l=some (.lst xs)/\xs[xs.length-1]?=some y/\Q y (xC H l (.lst xs.dropLast))
theorem zlk:MtM X "list.pop" rPop:=by
 intro pins s σ H x vs v us Q I rx rv h;obtain ⟨l,xs,y,rfl,rfl,hH,hy,q⟩:=h;cases rx;have hus:=rv.zero;subst hus;obtain ⟨z,its,n,r,hl,e⟩:=I.lstM hH;obtain ⟨u,hu,ru⟩:=r.get hy
 have hy':its.toArray[its.toArray.size-1]?=some u:=by
  show its.toArray[its.length-1]?=some u;rw[← Array.getElem?_toList,← hl];exact hu
 refine Zae F.slot_list_pop ⟨_,e,rfl⟩ F.entry_list_pop (F.args_list_pop_1 _) (MeetsSeq.list_pop_last l its.toArray n u hy' (by rw[zzS];omega)) ⟨e,?_⟩;refine ⟨y,_,I.lset (its':=its.dropLast) hH e ?_ r.dropLast ?_,ru,q⟩
 .show its.toArray.eraseIdxIfInBounds (its.toArray.size-1)=its.dropLast.toArray;rw[zzS,List.eraseIdxIfInBounds_toArray,zdA]
 .rw[Zbo];omega
def rCat:R2:=fun x y H Q=>∃ l b xs zs,x=.ref l/\y=.ref b/\H l=some (.lst xs)/\H b=some (.lst zs)/\xs.length+zs.length<=sizeLine/\∀ p,H p=none->Q (.ref p) (xC H p (.lst (xs++zs)))
theorem zle:sF X (binaryOp .Add) rCat:=by
 intro pins s σ H x y v u Q I rx ry h;obtain ⟨l,b,xs,zs,rfl,rfl,hH,hB,hz,q⟩:=h;cases rx;cases ry;obtain ⟨z,its,n,r,hl,e⟩:=I.lstM hH;obtain ⟨z2,its2,n2,r2,hl2,e2⟩:=I.lstM hB;refine PySem.P.add_list e e2 ?_ (by rw[zzS,zzS];omega);have ea:its.toArray++its2.toArray=(its++its2).toArray:=by simp
 rw[ea];exact ⟨.ref _,_,I.lnew (t':=s.toks) (r.append r2) (by rw[zzW];omega),rfl,q _ I.fresh⟩
def rRep:R2:=fun x y H Q=>∃ l k xs,x=.ref l/\y=.int k/\H l=some (.lst xs)/\-(2 ^ 63)<=k/\k<2 ^ 63/\xs.length * k.toNat<=sizeLine /\
 ∀ p,H p=none->Q (.ref p) (xC H p (.lst (List.replicate k.toNat xs).flatten))
theorem zjc {α:Type} (xs:List α) (k:Nat):(List.replicate k xs).flatten.length=k * xs.length:=by
 induction k with
 |zero=>simp
 |succ k ih=>rw[ZQ,Zas,zzW,ih,Nat.succ_mul,Nat.add_comm]
theorem zla:sF X (binaryOp .Mult) rRep:=by
 intro pins s σ H x y v u Q I rx ry h;obtain ⟨l,k,xs,rfl,rfl,hH,h1,h2,hz,q⟩:=h;cases rx;obtain ⟨t,rfl⟩:=ry;obtain ⟨z,its,n,r,hl,e⟩:=I.lstM hH;have hlen:its.toArray.size * k.toNat<=sizeLine:=by rw[zzS,← hl];exact hz
 have hcap:¬ its.toArray.size * k.toNat > (2 ^ 63-1) / 8:=by
  have:(sizeLine:Nat)<=(2 ^ 63-1) / 8:=by decide
  omega
 have hfit:¬ (!Builtin.List.listFitsIndex k)=true:=by
  rw[fitsIndex_both h1 h2];exact zzN
 have hlong:¬ Builtin.List.listTooLong (its.toArray.size * k.toNat)=true:=by
  rw[cH hlen];exact zzN
 have hnew:List.foldl (fun x1 x2=>x1++x2) #[] (List.replicate (if its.toArray.isEmpty=true then 0 else k.toNat) its.toArray)=(List.replicate k.toNat its).flatten.toArray:=by
  have f0:∀ m:Nat,List.foldl (fun x1 x2=>x1++x2) #[] (List.replicate m its.toArray)=(List.replicate m its).flatten.toArray:=fun m=>by
   have:=zbh its m [];rw[Zah] at this;exact this
  rw[f0]
  cases its with
  |nil=>simp
  |cons a r'=>rw[if_neg (by simp)]
 refine ZaP (T := "list") (U := "int") (by decide) ⟨_,e,rfl⟩ (fun s'=>Zbq s' k t) noFill_list_mul ZbU ZaG repeat_list ZbP.lookup
  (Zae ZaG (Zbq s k t) ZbO (ZbH _ _) (int___rmul___int_list k t l its.toArray n)
   ⟨e,rfl,⟨_,e,rfl⟩,Zae F.slot_list_mul ⟨_,e,rfl⟩ F.entry_list_mul (F.args_list_mul_2 _ _) (AutoListH.list___mul___list_int_3 l its.toArray n k t hfit hcap hlong) ⟨e,?_⟩⟩)
 rw[hnew];exact ⟨.ref _,_,I.lnew (t':=s.toks) (r.rep k.toNat) (by rw[zjc,Nat.mul_comm];exact hz),rfl,q _ I.fresh⟩
end
section
variable {prog:Program} {w:World} {A:Around} {E:Value->Shared->Prop} {s:Shared}
set_option maxRecDepth 100000 in
end
section
variable {X:Cx}
end
end L2
namespace L2
open PySem PySem.Spec PyProof.Rows
section
variable {κ:Type} [DecidableEq κ]
def tT (kvs:List (κ×V)) (k:κ):Option V:=(kvs.find? fun kv=>decide (kv.1=k)).map (·.2)
def tR (kvs:List (κ×V)) (k:κ) (v:V):List (κ×V) :=
 if (kvs.any fun kv=>decide (kv.1=k))=true then kvs.map (fun kv=>if kv.1=k then (kv.1,v) else kv) else kvs++[(k,v)]
theorem dS {p:κ×V} {r:List (κ×V)} {k:κ} (e:p.1=k):tT (p::r) k=some p.2:=by simp[tT,Z0,e]
theorem dR {p:κ×V} {r:List (κ×V)} {k:κ} (e:¬ p.1=k):tT (p::r) k=tT r k:=by simp[tT,Z0,e]
theorem zco (k:κ):∀ kvs:List (κ×V),(kvs.any fun kv=>decide (kv.1=k))=(tT kvs k).isSome
 | []=>rfl
 |p::r=>by
  rw[Zaw]
  by_cases e:p.1=k
  .simp only[dS e,decide_eq_true e,Bool.true_or,ZaZ]
  .rw[dR e,decide_eq_false e,Bool.false_or];exact zco k r
theorem sM (kvs:List (κ×V)) (k:κ) (v:V):(tR kvs k v).length<=kvs.length+1:=by
 unfold tR
 split
 .rw[zzM];omega
 .rw[zzW,Zf,Zs];omega
theorem RelO.isSome_eq {o:Option V} {u:Option Value} (r:RelO o u):o.isSome=u.isSome:=by
 cases o with
 |none=>cases u with
  |none=>rfl
  |some _=>exact (show False from r).elim
 |some _=>cases u with
  |none=>exact (show False from r).elim
  |some _=>rfl
theorem KV.val {kvs:List (κ×V)} {vs:List (κ×Value)} (r:KV kvs vs) (k:κ):RelO (tT kvs k) (valueAt vs k):=by
 unfold KV at r
 induction r with
 |nil=>exact True.intro
 | @cons p q ps qs h t ih =>
  obtain ⟨h1,h2⟩:=h
  by_cases e:p.1=k
  .have e':q.1=k:=h1.symm.trans e;have b:valueAt (q::qs) k=some q.2:=by simp[valueAt,Z0,e']
   rw[dS e,b];exact h2
  .have e':¬ q.1=k:=fun z=>e (h1.trans z);have b:valueAt (q::qs) k=valueAt qs k:=by simp[valueAt,Z0,e']
   rw[dR e,b];exact ih
theorem KV.any {kvs:List (κ×V)} {vs:List (κ×Value)} (r:KV kvs vs) (k:κ):(kvs.any fun kv=>decide (kv.1=k))=vs.any fun kv=>decide (kv.1=k):=by
 unfold KV at r
 induction r with
 |nil=>rfl
 |cons h t ih=>rw[Zaw,Zaw,ih,h.1]
theorem KV.repl {kvs:List (κ×V)} {vs:List (κ×Value)} (r:KV kvs vs) (k:κ) {y:V} {u:Value} (ry:yW y u) :
  KV (kvs.map fun kv=>if kv.1=k then (kv.1,y) else kv) (vs.map fun kv=>if kv.1=k then (kv.1,u) else kv):=by
 unfold KV at r ⊢
 induction r with
 |nil=>exact .nil
 | @cons p q ps qs h t ih =>
  rw[zzU,zzU];refine .cons ?_ ih;obtain ⟨h1,h2⟩:=h
  by_cases e:p.1=k
  .rw[if_pos e,if_pos (h1.symm.trans e)];exact ⟨h1,ry⟩
  .rw[if_neg e,if_neg (fun z=>e (h1.trans z))];exact ⟨h1,h2⟩
theorem KV.put {kvs:List (κ×V)} {vs:List (κ×Value)} (r:KV kvs vs) (k:κ) {y:V} {u:Value} (ry:yW y u):KV (tR kvs k y) (stored vs k u):=by
 unfold tR stored;rw[r.any k]
 by_cases e:(vs.any fun kv=>decide (kv.1=k))=true
 .rw[if_pos e,if_pos e];exact r.repl k ry
 .rw[if_neg e,if_neg e];exact Paired.snoc r ⟨rfl,ry⟩
theorem KV.length {kvs:List (κ×V)} {vs:List (κ×Value)} (r:KV kvs vs):kvs.length=vs.length:=ZbM r
end
theorem zdu {P:Program} {w:World} {k:yA} {u:Value} (r:yW (kV k) u):(xO P w).is k u=true:=by
 cases k with
 |inl i=>obtain ⟨t,e⟩:=(show ∃ t,u=Value.int i t from r);subst e;exact zbV P w i t
 |inr x=>obtain ⟨t,e⟩:=(show ∃ t,u=Value.str x t from r);subst e;exact zbU P w x t
theorem zbe {P:Program} {w:World}:∀ {ks:List yA} {us:List Value},yZ (ks.map kV) us->ItemsAre (xO P w) ks us
 | [],_,r=>by rw[zzV] at r;cases r;exact .nil
 |k::ks,_,r=>by
  rw[zzU] at r
  cases r with
  |cons h t=>exact .cons (zdu h) (zbe t)
abbrev KT (H:Hp):List (List yA×V)->List (List yA×Addr×Value)->Prop:=Paired fun p q=>p.1=q.1/\H q.2.1=some (.tup (p.1.map kV))/\yW p.2 q.2.2
theorem KT.val {H:Hp} {kvs:List (List yA×V)} {xs:List (List yA×Addr×Value)} (r:KT H kvs xs) (k:List yA):RelO (tT kvs k) ((atKey xs k).map (·.2)):=by
 induction r with
 |nil=>exact True.intro
 | @cons p q ps qs h t ih =>
  obtain ⟨h1,_,h2⟩:=h
  by_cases e:p.1=k
  .have e':q.1=k:=h1.symm.trans e;have b:atKey (q::qs) k=some q.2:=by simp[atKey,Z0,e']
   rw[dS e,b];exact h2
  .have e':¬ q.1=k:=fun z=>e (h1.trans z);have b:atKey (q::qs) k=atKey qs k:=by simp[atKey,Z0,e']
   rw[dR e,b];exact ih
theorem KT.repl {H:Hp} {kvs:List (List yA×V)} {xs:List (List yA×Addr×Value)} (r:KT H kvs xs) (k:List yA) {y:V} {u:Value} (ry:yW y u) :
  KT H (kvs.map fun kv=>if kv.1=k then (kv.1,y) else kv) (xs.map (putAt k u)):=by
 induction r with
 |nil=>exact .nil
 | @cons p q ps qs h t ih =>
  rw[zzU,zzU];refine .cons ?_ ih;obtain ⟨h1,h2,h3⟩:=h;unfold putAt
  by_cases e:p.1=k
  .rw[if_pos e,if_pos (h1.symm.trans e)];exact ⟨h1,h2,ry⟩
  .rw[if_neg e,if_neg (fun z=>e (h1.trans z))];exact ⟨h1,h2,h3⟩
theorem KT.put {H:Hp} {kvs:List (List yA×V)} {xs:List (List yA×Addr×Value)} (r:KT H kvs xs) (k:List yA) {b:Addr} {y:V} {u:Value} (hb:H b=some (.tup (k.map kV))) (ry:yW y u) :
  KT H (tR kvs k y) (storedH xs k b u):=by
 have e:(kvs.any fun kv=>decide (kv.1=k))=(atKey xs k).isSome:=by
  rw[zco,(r.val k).isSome_eq,ZbL]
 unfold tR storedH;rw[e]
 by_cases q:(atKey xs k).isSome=true
 .rw[if_pos q,if_pos q];exact r.repl k ry
 .rw[if_neg q,if_neg q];exact Paired.snoc r ⟨rfl,hb,ry⟩
theorem KT.keeps {H H':Hp} {kvs:List (List yA×V)} {xs:List (List yA×Addr×Value)} (r:KT H kvs xs) (ht:∀ b ys,H b=some (.tup ys)->H' b=some (.tup ys)):KT H' kvs xs :=
 Paired.mapP r fun _ _ z=>⟨z.1,ht _ _ z.2.1,z.2.2⟩
section
variable {P:Program} {w:World} {H:Hp} {h:Heap} {a:Addr}
theorem zkM {u:HO} (ok:rT P w H h) (e:Rd H a u):xD P w H h a u:=e.ok ok
theorem zb6 {kvs:List (yA×V)} (ok:rT P w H h) (e:Rd H a (.dK kvs)):kvs.length<=sizeLine/\(a==sysModules)=false/\∃ vs,KV kvs vs/\h.DictOf (xO P w) a vs :=
 show xD P w H h a (.dK kvs) from zkM ok e
theorem zmc {kvs:List (yA×V)} (ok:rT P w H h) (e:H a=some (.dK kvs)):kvs.length<=sizeLine/\(a==sysModules)=false/\∃ vs,KV kvs vs/\h.DictOf (xO P w) a vs:=zb6 ok (.inl e)
theorem zbc {ks:List yA} (ok:rT P w H h) (e:H a=some (.tup (ks.map kV))):(tupleKind (xO P w)).is h ks a:=by
 obtain ⟨_,its,r,o,h1,h2,n,h3⟩:=(show xD P w H h a (.tup (ks.map kV)) from ok a _ e);exact ⟨o,its.toArray,n,h1,h2,h3,by simpa using zbe r⟩
theorem zfq {kvs:List (List yA×V)} (ok:rT P w H h) (e:Rd H a (.dT kvs)):kvs.length<=sizeLine/\(a==sysModules)=false /\
  ∃ xs,KT H kvs xs/\h.DictOfH (tupleKind (xO P w)) a xs:=by
 obtain ⟨z,y,xs,r,o,es,ep,h1,h2,h3,h4,h5⟩:=(show xD P w H h a (.dT kvs) from zkM ok e);refine ⟨z,y,xs,r,o,es,ep,h1,h2,h3,h4,fun x hx=>?_,h5⟩
 have all:∀ {l:List (List yA×V)} {m:List (List yA×Addr×Value)},KT H l m->∀ x∈m,(tupleKind (xO P w)).is h x.1 x.2.1:=by
  intro l m q
  induction q with
  |nil=>intro x hx;exact nomatch hx
  | @cons p q ps qs hq t ih =>
   intro x hx;rcases Zd.mp hx with e|hx
   .subst e;exact zbc ok (by rw[← hq.1];exact hq.2.1)
   .exact ih x hx
 exact all r x hx
theorem dt_of {kvs:List (List yA×V)} (ok:rT P w H h) (e:H a=some (.dT kvs)):kvs.length<=sizeLine/\(a==sysModules)=false /\
  ∃ xs,KT H kvs xs/\h.DictOfH (tupleKind (xO P w)) a xs:=zfq ok (.inl e)
end
def DGet (H:Hp) (a:Addr) (y:V) (r:Option V):Prop :=
 (∃ kvs k,Rd H a (.dK kvs)/\y=kV k/\r=tT kvs k)\/∃ kvs k b,Rd H a (.dT kvs)/\y=.ref b/\H b=some (.tup (k.map kV))/\r=tT kvs k
def DPut (H:Hp) (a:Addr) (y v:V) (H':Hp):Prop :=
 (∃ kvs k,H a=some (.dK kvs)/\y=kV k/\kvs.length<sizeLine/\H'=xC H a (.dK (tR kvs k v))) \/
 ∃ kvs k b,H a=some (.dT kvs)/\y=.ref b/\H b=some (.tup (k.map kV))/\kvs.length<sizeLine/\H'=xC H a (.dT (tR kvs k v))
section
variable {X:Cx} {pins:List (Addr×Obj)} {σ:St} {H:Hp} {s:Shared} {a:Addr} {y v:V} {u r:Value} {o:Option V} {A:Around} {E:Value->Shared->Prop}
theorem Inv.big (I:Inv X pins σ H s):sysModules<s.heap.objs.size:=by
 have h:mainGlobals<s.heap.objs.size:=(I.mod.glob.keeps I.bk).lt;exact Nat.lt_trans (by decide) h
theorem zfw {Q:Value->Shared->Prop} (hu:A.units+1<cLine) (I:Inv X pins σ H s) (g:DGet H a y (some v)) (ry:yW y u) (h:∀ w' s',Inv X pins σ H s'->yW v w'->Q w' s') :
  wpAny (model X.prog X.w) A (getItem (.ref a) u) Q E s:=by
 rcases g with ⟨kvs,k,e,ey,l⟩|⟨kvs,k,b,e,ey,eb,l⟩
 .subst ey;obtain ⟨z,hd,vs,rel,dd⟩:=zb6 I.hok e;obtain ⟨w',hw,rw'⟩:=RelO.some_of (v:=v) (o:=valueAt vs k) (by rw[l];exact rel.val k);exact wpAny_getItem_of (zdu ry) dd.mapOf hw (h w' _ (I.tok _) rw')
 .subst ey;cases (show u=Value.ref b from ry);obtain ⟨z,hd,xs,rel,dd⟩:=zfq I.hok e;obtain ⟨w',hw,rw'⟩:=RelO.some_of (v:=v) (o:=(atKey xs k).map (·.2)) (by rw[l];exact rel.val k);obtain ⟨p,hp,hp2⟩:=Zq.mp hw;refine wpAny_getItem_heap (Za2 hu) (zbc I.hok eb) dd hp ?_;rw[hp2];exact h w' _ (I.tok _) rw'
theorem d_in {Q:Value->Shared->Prop} (hu:A.units+1<cLine) (I:Inv X pins σ H s) (g:DGet H a y o) (ry:yW y u) (h:∀ s',Inv X pins σ H s'->Q (.bool o.isSome) s') :
  wpAny (model X.prog X.w) A (compareOp .In u (.ref a)) Q E s:=by
 rcases g with ⟨kvs,k,e,ey,l⟩|⟨kvs,k,b,e,ey,eb,l⟩
 .subst ey;obtain ⟨z,hd,vs,rel,dd⟩:=zb6 I.hok e;refine wpAny_in_of (zdu ry) hd dd.mapOf ?_;rw[← (rel.val k).isSome_eq,← l];exact h _ (I.tok _)
 .subst ey;cases (show u=Value.ref b from ry);obtain ⟨z,hd,xs,rel,dd⟩:=zfq I.hok e;refine wpAny_in_heap (Za2 hu) (zbc I.hok eb) hd dd ?_;have q:=(rel.val k).isSome_eq;rw[ZbL] at q;rw[← q,← l];exact h _ (I.tok _)
theorem zjR {Q:Value->Shared->Prop} (hu:A.units+1<cLine) (I:Inv X pins σ H s) (g:DGet H a y o) (ry:yW y u) (h:∀ s',Inv X pins σ H s'->Q (.bool (!o.isSome)) s') :
  wpAny (model X.prog X.w) A (compareOp .NotIn u (.ref a)) Q E s:=by
 rcases g with ⟨kvs,k,e,ey,l⟩|⟨kvs,k,b,e,ey,eb,l⟩
 .subst ey;obtain ⟨z,hd,vs,rel,dd⟩:=zb6 I.hok e;refine wpAny_notIn_of (zdu ry) hd dd.mapOf ?_;rw[← (rel.val k).isSome_eq,← l];exact h _ (I.tok _)
 .subst ey;cases (show u=Value.ref b from ry);obtain ⟨z,hd,xs,rel,dd⟩:=zfq I.hok e;refine wpAny_notIn_heap (Za2 hu) (zbc I.hok eb) hd dd ?_;have q:=(rel.val k).isSome_eq;rw[ZbL] at q;rw[← q,← l];exact h _ (I.tok _)
theorem zb9 {h':Heap} {t':Nat} {ob:HO} (I:Inv X pins σ H s) (mu:Mut (H a)) (hs:Heap.SameBut a s.heap h') (he:∃ q,h'.get? a=some q) (new:xD X.prog X.w (xC H a ob) h' a ob) (ht:0<t':=by first|exact ZR _|exact L2.Inv.tk (by assumption)|exact L2.Inv.tk ‹L2.Inv _ _ _ _ _› | assumption|omega) :
  Inv X pins σ (xC H a ob) { s with heap:=h',toks:=t' } :=
 I.write (x:=a) (e:=a) mu (.inl rfl) (fun b q hb z=>(hs.2 b hb).trans z) he new
theorem zh2 {P:Program} {w:World} {H':Hp} {h':Heap} {kvs:List (yA×V)} {vs:List (yA×Value)} (z:kvs.length<=sizeLine) (hd:(a==sysModules)=false) (rel:KV kvs vs) (dd:h'.DictOf (xO P w) a vs) :
  xD P w H' h' a (.dK kvs):=⟨z,hd,vs,rel,dd⟩
theorem zfv {H':Hp} {Q:Unit->Shared->Prop} (hu:A.units+1<cLine) (I:Inv X pins σ H s) (g:DPut H a y v H') (ry:yW y u) (rv:yW v r) (h:∀ s',Inv X pins σ H' s'->Q () s') :
  wpAny (model X.prog X.w) A (setItem (.ref a) u r) Q E s:=by
 rcases g with ⟨kvs,k,e,ey,l,eH⟩|⟨kvs,k,b,e,ey,eb,l,eH⟩
 .subst ey eH;obtain ⟨z,hd,vs,rel,dd⟩:=zmc I.hok e;have hz:vs.length<=sizeLine:=by rw[← rel.length];exact z
  have hl:(tR kvs k v).length<=sizeLine:=by have:=sM kvs k v;omega
  refine wpAny_setItem_pairs (hsz:=hz) (zdu ry) dd fun h' dd' hs=>h _ ?_;have he:∃ q,h'.get? a=some q:=let ⟨q,_,_,hq,_⟩:=dd';⟨q,hq⟩;exact zb9 I (by rw[e];exact True.intro) hs he (zh2 hl hd (rel.put k rv) dd')
 .subst ey eH;cases (show u=Value.ref b from ry);obtain ⟨z,hd,xs,rel,dd⟩:=dt_of I.hok e;have hz:xs.length<=sizeLine:=by rw[← ZbM rel];exact z
  have hl:(tR kvs k v).length<=sizeLine:=by have:=sM kvs k v;omega
  refine wpAny_setItem_heap (hsz:=hz) (Za2 hu) (zbc I.hok eb) dd fun h' dd' hs=>h _ ?_;obtain ⟨q,es,ep,hq,h2,h3,h4,_,h5⟩:=dd';refine zb9 I (by rw[e];exact True.intro) hs ⟨q,hq⟩ ⟨hl,hd,_,(rel.put k eb rv).keeps fun c ys ec=>?_,q,es,ep,hq,h2,h3,h4,h5⟩;rw[yU (ne_of ec e (fun z=>nomatch z))];exact ec
end
section
variable {X:Cx} {pins:List (Addr×Obj)} {σ:St} {H:Hp} {s:Shared} {a:Addr} {kvs:List (yA×V)} {k:yA} {u:Value} {A:Around} {E:Value->Shared->Prop}
theorem d_len {Q:Value->Shared->Prop} (I:Inv X pins σ H s) (e:Rd H a (.dK kvs)) (h:∀ t s',Inv X pins σ H s'->Q (.int kvs.length t) s'):wpAny (model X.prog X.w) A (call (.builtin "len") [.ref a]) Q E s:=by
 obtain ⟨z,hd,vs,rel,dd⟩:=zb6 I.hok e;refine call_len_dict hd dd (by rw[← rel.length];rw[ZI] at z;omega) ?_;rw[← rel.length];exact h _ _ (I.tok _)
end
section
variable {X:Cx} {o i e value:Expr} {pos pos' tpos:Pos} {td ty tv:TE}
end
theorem zhf {P:Program} {w:World} {H:Hp} (h:Heap) (hb:sysModules<h.objs.size):xD P w H (h.push { cls:=.type "dict", data:=.dict #[] }) h.objs.size (.dK []) :=
 ⟨ZS _,beq_eq_false_iff_ne.mpr (Ne.symm (Zr hb)),[],.nil,Heap.DictOf.new h⟩
section
variable {X:Cx} {pos:Pos}
end
def zct:List (TE×TE)->St->Hp->(List (V×V)->Hp->Prop)->Prop
 | [],_,H,Q=>Q [] H
 | (tk,tv)::r,σ,H,Q=>tk σ H fun x H1=>tv σ H1 fun y H2=>zct r σ H2 fun ps H3=>Q ((x,y)::ps) H3
abbrev VV:List (V×V)->List (Value×Value)->Prop:=Paired fun p q=>yW p.1 q.1/\yW p.2 q.2
def PPs (X:Cx) (pos:Pos) (keys:List (Option Expr)) (values:List Expr) (trs:List (TE×TE)):Prop :=
 ∀ (pins:List (Addr×Obj)) (s:Shared) (σ:St) (H:Hp) (Q:List (V×V)->Hp->Prop),Inv X pins σ H s->zct trs σ H Q ->
  wpAny (model X.prog X.w) X.A (evalPairs (pairTrees keys values X.env pos)) (fun vs s'=>∃ ps H',Inv X pins σ H' s'/\VV ps vs/\Q ps H') X.xe s
theorem ziP {X:Cx} {pos:Pos}:PPs X pos [] [] []:=fun pins s σ H Q I h=>pairTrees_nil_walk ⟨[],H,I,.nil,h⟩
theorem zgr {X:Cx} {pos:Pos} {k v:Expr} {ks:List (Option Expr)} {vs:List Expr} {tk tv:TE} {trs:List (TE×TE)} (hk:PE X k tk) (hv:PE X v tv) (hr:PPs X pos ks vs trs) :
  PPs X pos (some k::ks) (v::vs) ((tk,tv)::trs):=fun pins s σ H Q I h =>
 pairTrees_cons_walk (xY (hk pins s σ H _ I h) fun u s1 ⟨x,H1,I1,rx,q1⟩=>xY (hv pins s1 σ H1 _ I1 q1) fun w2 s2 ⟨y,H2,I2,ry,q2⟩ =>
  xY (hr pins s2 σ H2 _ I2 q2) fun ws s3 ⟨ps,H3,I3,rel,q3⟩=>⟨(x,y)::ps,H3,I3,.cons ⟨rx,ry⟩ rel,q3⟩)
def mF (kvs xK:List (yA×V)):List (yA×V):=xK.foldl (fun acc kv=>tR acc kv.1 kv.2) kvs
theorem KV.merge:∀ {xK:List (yA×V)} {rs:List (yA×Value)} {kvs:List (yA×V)} {vs:List (yA×Value)},KV xK rs->KV kvs vs->KV (mF kvs xK) (merged vs rs):=by
 intro xK rs kvs vs r;unfold KV at r
 induction r generalizing kvs vs with
 |nil=>intro q;exact q
 | @cons p q ps qs h t ih =>
  intro r0
  have e:KV (tR kvs p.1 p.2) (stored vs q.1 q.2):=by
   have:=r0.put p.1 h.2;rw[← h.1];exact this
  exact ih e
theorem rO:∀ (xK kvs:List (yA×V)),(mF kvs xK).length<=kvs.length+xK.length
 | [],kvs=>by show kvs.length<=kvs.length+0;omega
 |p::r,kvs=>by
  have h1:=rO r (tR kvs p.1 p.2);have h2:=sM kvs p.1 p.2;show (mF (tR kvs p.1 p.2) r).length<=_;rw[Zf];omega
theorem zag {P:Program} {w:World}:∀ {kvs:List (yA×V)} {ws:List (Value×Value)},VV (kvs.map fun kv=>(kV kv.1,kv.2)) ws->∃ rs,Carries (xO P w) ws rs/\KV kvs rs
 | [],_,r=>by rw[zzV] at r;cases r;exact ⟨[],True.intro,.nil⟩
 |p::kvs,_,r=>by
  rw[zzU] at r
  cases r with
  | @cons a b as bs h t =>
   obtain ⟨rs,c,q⟩:=zag (P:=P) (w:=w) t;obtain ⟨b1,b2⟩:=b;exact ⟨(p.1,b2)::rs,⟨zdu h.1,rfl,c⟩,.cons ⟨rfl,h.2⟩ q⟩
def tDisp (trs:List (TE×TE)):TE:=fun σ H Q=>∀ p,H p=none->zct trs σ (xC H p (.dK [])) fun ps H2=>H2 p=some (.dK [])/\∃ kvs:List (yA×V),ps=kvs.map (fun kv=>(kV kv.1,kv.2))/\kvs.length<=15/\Q (.ref p) (xC H2 p (.dK (mF [] kvs)))
theorem ziU {X:Cx} {pos:Pos} {keys:List (Option Expr)} {values:List Expr} {trs:List (TE×TE)} (h:PPs X pos keys values trs) (hall:keys.all (·.isSome)=true) (hl:keys.length=values.length) (h0:keys≠[])
  (h15:keys.length<=15):PE X (.Dict keys values pos) (tDisp trs):=by
 intro pins s σ H Q I q;have hn:=I.hok.fresh (zzR s.heap.objs.size);have I1:=I.laid (a:=s.heap.objs.size) (o:=.dK []) (h':=s.heap.push { cls:=.type "dict", data:=.dict #[] }) (t':=s.toks) (fun _ _ q=>Za _ q) (zzR _) (zhf s.heap I.big);refine wpAny_Dict_walk (knd:=xO X.prog X.w) hall hl h0 h15 (xY (h pins _ σ _ _ I1 (q _ hn)) fun ws s2 ⟨ps,H2,I2,rel,e,kvs,ep,lk,q2⟩=>?_);subst ep;obtain ⟨rs,c,rk⟩:=zag (P:=X.prog) (w:=X.w) rel;obtain ⟨z,hd,vs0,r0,dd⟩:=zmc I2.hok e;cases r0;refine ⟨rs,c,dd,fun h' dd' hs=>⟨.ref s.heap.objs.size,_,?_,rfl,q2⟩⟩
 have hz:(mF [] kvs).length<=sizeLine:=by
  have h1:=rO kvs [];rw[Zs] at h1;rw[ZI];omega
 have he:∃ q,h'.get? s.heap.objs.size=some q:=let ⟨q,_,_,hq,_⟩:=dd';⟨q,hq⟩;exact zb9 I2 (by rw[e];exact True.intro) hs he (zh2 hz hd (rk.merge .nil) dd') (Nat.add_pos_left I2.tk _)
structure M1 (X:Cx) (o:Expr) (m:Str) (apos:Pos) (e:Expr) (cpos:Pos):Prop where
 base:attributeBase o m X.env (eval o X.env)=eval o X.env
 few:((backTo cpos (starEach [e] X.env)).all (fun x=>!x.1)&&(backToKw cpos (keywordEach [] X.env)).all (fun x=>x.1.isSome)
  && decide (([e]:List Expr).length+([]:List Keyword).length+(if ([]:List Keyword).isEmpty then 0 else 1)<30))=true
 line:(apos.endLine==cpos.line)=true
 trees:backTo cpos (starEach [e] X.env)=[(false,eval e X.env)]
structure M2 (X:Cx) (o:Expr) (m:Str) (apos:Pos) (e f:Expr) (cpos:Pos):Prop where
 base:attributeBase o m X.env (eval o X.env)=eval o X.env
 few:((backTo cpos (starEach [e,f] X.env)).all (fun x=>!x.1)&&(backToKw cpos (keywordEach [] X.env)).all (fun x=>x.1.isSome)
  && decide (([e,f]:List Expr).length+([]:List Keyword).length+(if ([]:List Keyword).isEmpty then 0 else 1)<30))=true
 line:(apos.endLine==cpos.line)=true
 trees:backTo cpos (starEach [e,f] X.env)=[(false,eval e X.env),(false,eval f X.env)]
def IsD (H:Hp) (a:Addr):Prop:=(∃ kvs,Rd H a (.dK kvs))\/∃ kvs,Rd H a (.dT kvs)
theorem zlV {X:Cx} {pins:List (Addr×Obj)} {σ:St} {H:Hp} {s:Shared} {a:Addr} (I:Inv X pins σ H s) (d:IsD H a) :
  s.TypeIs (.ref a) "dict" /\ (∀ b,Value.ref a=.ref b->∃ ob,s.heap.get? b=some ob/\ob.dict=none)/\(a==sysModules)=false:=by
 rcases d with ⟨kvs,e⟩|⟨kvs,e⟩
 .obtain ⟨_,hd,vs,_,dd⟩:=zb6 I.hok e;refine ⟨dd.typeIs,fun b q=>?_,hd⟩;cases q;obtain ⟨ob,_,_,h1,h2,_⟩:=dd;exact ⟨ob,h1,h2.2.1⟩
 .obtain ⟨_,hd,xs,_,dd⟩:=zfq I.hok e;refine ⟨dd.typeIs,fun b q=>?_,hd⟩;cases q;obtain ⟨ob,_,_,h1,h2,_⟩:=dd;exact ⟨ob,h1,h2.2.1⟩
section
variable {X:Cx} {pins:List (Addr×Obj)} {σ:St} {H:Hp} {s:Shared} {a:Addr} {y d:V} {u r:Value} {o:Option V} {A:Around} {E:Value->Shared->Prop}
end
section
variable {X:Cx} {o e f:Expr} {apos cpos:Pos} {td ty tx:TE}
end
section
variable {X:Cx} {pins:List (Addr×Obj)} {σ:St} {H:Hp} {s:Shared} {a:Addr} {kvs:List (yA×V)} {A:Around} {E:Value->Shared->Prop}
end
section
variable {X:Cx} {pins:List (Addr×Obj)} {σ:St} {H:Hp} {s:Shared} {a:Addr} {y:V} {u:Value} {A:Around} {E:Value->Shared->Prop}
end
end L2
namespace Att
open PySem PySem.W PySem.Calls PyProof.Rows
theorem fQ {P:Params} {h:Heap}:∀ (ns:List Int) (vs:List Value),WellAll P h vs (ns.map WData.int)->IntsAre vs ns:=by
 intro ns
 induction ns with
 |nil =>
  intro vs w;rw[zzV] at w;cases w;exact .nil
 |cons n ns ih =>
  intro vs w;rw[zzU] at w
  cases w with
  |cons a b =>
   cases a;exact .cons _ _ (ih _ b)
theorem zeo {l:OpenLaw} {n:Nat} (hn:l.most=some n) {P:Params} {h:Heap} {args:List WData} {vals:List Value}
  (hpre:l.row.toRowW.claim.pre args=true) (hwl:WellAll P h vals args) :
  ∃ a vs ns,vals=[Value.ref a]/\args=[WData.list (ns.map WData.int)]/\h.get? a=some { cls:=.type "list", data:=.seq vs.toArray }/\IntsAre vs ns/\ns.length<=n:=by
 have hsh:WShape.hasAll [] args [.list .int]=true:=(pre_splitW hpre).1;have hc:l.pre.holds [] { args:=args }=true:=(pre_splitW hpre).2;obtain ⟨d,r,rfl,h1,h2⟩:=hasAllW_cons hsh;obtain rfl:=hasAllW_nil h2;obtain ⟨xs,rfl,h3⟩:=hasW_list h1;obtain ⟨ns,rfl⟩:=items_int h3
 have hlen:ns.length<=n:=by
  unfold OpenLaw.pre at hc
  have h4:(WTm.not (.lt (.lit (.int (n:Int))) (.len (.arg 0)))).holds [] { args:=[.list (ns.map .int)] }=true:=by
   have h4:=(holds_andW hc).1;rw[hn] at h4;exact h4
  have h5:=condW_of h4 (w_not (w_lt w_lit (w_len_list (w_arg rfl))));rw[zzM] at h5;refine ZbS fun q=>?_;have q':(n:Int)<((ns.length:Nat):Int):=by omega
  first
   | (rw[decide_eq_true q'] at h5;exact absurd h5 (by decide))
   | (simp at h5;omega)
 cases hwl with
 |cons w1 w2 =>
  cases w2
  cases w1 with
  |list ho hall=>exact ⟨_,_,ns,rfl,rfl,ho,fQ ns _ hall,hlen⟩
theorem zew (l:OpenLaw) (args:List WData):l.row.toRowW.claim.post args (.bool true) args=true :=
 postW_of (r:=l.row.toRowW) (X:=(true==true))
  (show WShape.has [] (.bool true) .bool=true by first|rfl|decide|simp[WShape.has,WShape.arms,WShape.armsAll])
  (show (WTm.eq .res (.lit (.bool true))).value [] { args:=args,res:=some (.bool true),after:=args }=some (.bool (true==true)) from w_eq_bool (w_res rfl) w_lit) rfl
theorem attach_call {l:OpenLaw} {n:Nat} {q:Program} {loose:List Str} {XP:(Str->Option Value)->Heap->Prop} {YP:World->Heap->Prop} {d:DefRec}
  (hn:l.most=some n) (hdf:d.params.defaults=[])
  (call:∀ (w:World) (s₀ s₁:Shared) (mg mb:Str->Option Value) (fa:Addr) (o:Obj) (pm cd doc:Value) (a:Addr) (vs:List Value) (ns:List Int),
   Ground q loose [] XP w s₀ mg mb s₁.heap->YP w s₁.heap ->
   s₁.heap.get? fa=some o->o.data=.func (docDef d.name d.params d.body d.scope pm cd doc)->s₁.heap.CodeRec cd d.name->mg d.name=some (.ref fa) ->
   s₁.heap.get? a=some { cls:=.type "list", data:=.seq vs.toArray }->IntsAre vs ns->ns.length<=n->s₁.gens=#[] ->
   codeAny (model l.prog w) callerA (.call (.ref fa) ⟨[.ref a],[]⟩) (fun r s'=>r=.ok (.ret (.bool true))/\OldK s₁.heap s'.heap/\s'.os=s₁.os/\AllBare s'.gens) s₁) :
  WalkO q loose XP YP l.row.toRowW d [] (fun f vs=>PySem.call f vs):=by
 intro w s₀ s₁ mg mb G Y fa o pm cd doc dV kV ho hd hcd hD hmg hg args vals as hpre hlay hrd hwl hlo;obtain rfl:dV=.none:=Dflts.none hD hdf;obtain rfl:kV=.none:=Dflts.noKw hD;obtain ⟨a,vs,ns,rfl,rfl,hobj,hints,hlen⟩:=zeo hn hpre hwl;refine enter_call (codeAny_mono (call w s₀ s₁ mg mb fa o pm cd doc a vs ns G Y ho (fd_plain hd) hcd hmg hobj hints hlen hg) fun r s' hq=>?_);obtain ⟨rfl,h2,h3,h4⟩:=hq;exact ⟨.inl ⟨.bool true,.bool true,[],rfl,fun _=>rfl,.bool true,zew l _,fun _=>⟨List.Pairwise.nil,fun _ hm=>(nomatch hm)⟩⟩,h2,h3,h4⟩
section
variable {prog:Program} {w:World} {A:Around} {E:Value->Shared->Prop} {s:Shared} {K:Frag}
end
end Att
namespace L2
open PySem PySem.Spec PyProof.Rows
theorem zaF:∀ {vs:List Value} {ns:List Int},IntsAre vs ns->yZ (ns.map V.int) vs
 |_,_,.nil=>.nil
 |_,_,.cons n t h=>.cons ⟨t,rfl⟩ (zaF h)
def Only (H:Hp):Prop:=∀ b,H b=none\/∃ o xs,H b=some (.frz o (.lst xs))
theorem zgO {P:Program} {w:World} {K:PySem.W.Frag} {mg mb:Str->Option Value} {CX:CXT} {k:Nat} {fa a:Addr} {fd:FuncData} {x:Str} {sp:Sp} {s₁:Shared} {vs:List Value} {ns:List Int}
  (KX:K.In s₁.heap) (hns:s₁.heap.Ns mainGlobals mg) (hb:s₁.heap.Ns builtinsNs mb) (hbb:∀ x:Str,x ≠ "__name__" -> mb x=bootBuiltins x) (hlim:s₁.heap.NoLimit) (hg:s₁.gens=#[])
  (ha:s₁.heap.get? a=some { cls:=.type "list", data:=.seq vs.toArray }) (hi:IntsAre vs ns) (hl:ns.length<=sizeLine) (hr:Room k callerA)
  (F:∀ base:Heap,K.In base->base.Ns mainGlobals mg->FnOk P w K mg base CX k fa fd [x] sp) (hbind:∀ (s:Shared) (u:Value),BindsTo s fd ⟨[u],[]⟩ [(x,u)])
  (hsp:∀ H:Hp,Only H->mY K H a (ns.map V.int)->sp [.ref a] H (fun v _=>v=.bl true) fun _ _ _=>False)
  (hCX:∀ H e s',CX [] H s₁ (fun _ _ _=>False) e s'->False) (hx:fd.scope.names.lookup x=some .local) :
  codeAny (model P w) callerA (.call (.ref fa) ⟨[.ref a],[]⟩) (fun r s'=>r=.ok (.ret (.bool true))/\OldK s₁.heap s'.heap/\s'.os=s₁.os/\AllBare s'.gens) s₁:=by
 have rv:=zaF hi;have lenV:=hi.length
 have core:∀ H:Hp,Only H->mY K H a (ns.map V.int)->rT P w H s₁.heap->(∀ b,H b≠none->b=a)->(H a≠none->K.lookup a=none) ->
   codeAny (model P w) callerA (.call (.ref fa) ⟨[.ref a],[]⟩) (fun r s'=>r=.ok (.ret (.bool true))/\OldK s₁.heap s'.heap/\s'.os=s₁.os/\AllBare s'.gens) s₁:=by
  intro H hO hS hok hA hK;have base_of:∀ {b:Addr} {o:Obj},s₁.heap.get? b=some o->H b=none->(hidT s₁.heap H).get? b=some o:=fun e n=>zg0 e n
  have noA:∀ {b:Addr} {o:Obj} {es:Array DictEntry} {ep:Nat},s₁.heap.get? b=some o->o.data=.dict es ep->H b=none:=fun {b o es ep} e d=>by
   cases q:H b with
   |none=>rfl
   |some u =>
    have e':b=a:=hA b (by rw[q];simp);subst e';rw[ha] at e;cases e;have d':Data.seq vs.toArray _=Data.dict es ep:=d;cases d'
  have nsK:∀ {b:Addr} {m:Str->Option Value},s₁.heap.Ns b m->(hidT s₁.heap H).Ns b m:=fun {b m} ⟨o,es,ep,e,d,r⟩=>⟨o,es,ep,base_of e (noA e d),d,r⟩
  have hKb:K.In (hidT s₁.heap H):=fun b o e=>base_of (KX b o e) (by
   cases q:H b with
   |none=>rfl
   |some u =>
    have e':b=a:=hA b (by rw[q];simp);subst e';rw[hK (by rw[q];simp)] at e;cases e)
  have hM:Mod K mg (hidT s₁.heap H):=⟨hKb,nsK hns,⟨mb,nsK hb,hbb⟩,let ⟨mc,h1,h2⟩:=hlim;⟨mc,nsK h1,h2⟩⟩;have e0:Env0 P w K mg (hidT s₁.heap H) callerA [] { s₁ with toks:=1 } H:=⟨rfl,hM,fun b o e=>zi5 e,ZaI (zfa _ _),trivial,fun b hb=>absurd (show b∈([]:List Addr) from hb) (by simp),hok,.of_eq hg,Nat.one_pos⟩;refine codeAny_mono ((F _ hKb (nsK hns)).one x rfl hx callerA [] s₁ H ⟨[.ref a],[]⟩ [.ref a] [.ref a] _ _ hr e0 (hbind s₁ (.ref a)) (.cons rfl .nil) (hsp H hO hS)) fun r s' h=>?_
  cases r with
  |error e=>exact (hCX H e s' h).elim
  |ok fl =>
   cases fl with
   |next=>exact False.elim h
   |brk=>exact False.elim h
   |cont=>exact False.elim h
   |ret u =>
    obtain ⟨v,H',os,_,bare,un,hok',r',q⟩:=h;have q':v=.bl true:=q;subst q';obtain rfl:u=Value.bool true:=r';refine ⟨rfl,OldK.of_keep fun b o e=>?_,os,bare⟩
    cases q:H b with
    |none=>exact un.keep b o e q (by intro z;exact absurd (show b∈([]:List Addr) from z) (by simp)) (by simp)
    |some u =>
     rcases hO b with z|⟨ob,xs,z⟩
     .rw[q] at z;cases z
     .have z2:=un.frzs b ob _ z;obtain ⟨e1,_⟩:=hok b _ z;obtain ⟨e2,_⟩:=hok' b _ z2;rw[e] at e1;cases e1;exact e2
 cases hk:K.lookup a with
 |some o =>
  have e:=KX a o hk;rw[ha] at e;cases e;refine core (fun _=>none) (fun _=>.inl rfl) (.inr ⟨_,vs.toArray,_,hk,rfl,rfl,rfl,by rw[zzS,lenV];exact hl,by simpa using rv⟩) (fun b u z=>by have z':(none:Option HO)=some u:=z;cases z') (fun b z=>absurd rfl z) fun z=>absurd rfl z
 |none =>
  refine core (fun b=>if b=a then some (.frz { cls:=.type "list", data:=.seq vs.toArray } (.lst (ns.map V.int))) else none) (fun b=>?_) (.inl (.inr ⟨{ cls:=.type "list", data:=.seq vs.toArray },if_pos rfl⟩)) (fun b u z=>?_) (fun b z=>?_) fun _=>hk
  .by_cases hb:b=a
   .exact .inr ⟨_,_,if_pos hb⟩
   .exact .inl (if_neg hb)
  .by_cases hb:b=a
   .have z':=(if_pos hb).symm.trans z;cases z';subst hb;exact ⟨ha,by rw[zzM];exact hl,vs,_,rv,ha⟩
   .have z':=(if_neg hb).symm.trans z;cases z'
  .by_cases hb:b=a
   .exact hb
   .exact absurd (if_neg hb) z
end L2
namespace L2
open PySem PySem.Spec PyProof.Rows
abbrev KOf {K:PySem.W.Frag} {h:Heap} (_:K.In h):PySem.W.Frag:=K
theorem walk_of {l:PySem.W.OpenLaw} {n k:Nat} {q:Program} {loose:List Str} {XP:(Str->Option Value)->Heap->Prop} {YP:World->Heap->Prop} {d:DefRec} {K:Params->PySem.W.Frag} {CX:World->CXT} {sp:World->Sp} {x:Str}
  (hn:l.most=some n) (hn2:n<=sizeLine) (hdf:d.params.defaults=[]) (hr:Room k callerA)
  (hY:∀ (w:World) (h:Heap),YP w h->(K w.params).In h)
  (F:∀ (w:World) (mg:Str->Option Value) (fa:Addr) (h:Heap),(K w.params).In h->h.Ns mainGlobals mg->mg d.name=some (.ref fa) ->
   ∃ fd:FuncData,(∀ (s:Shared) (u:Value),BindsTo s fd ⟨[u],[]⟩ [(x,u)])/\fd.scope.names.lookup x=some .local /\
    ∀ base:Heap,(K w.params).In base->base.Ns mainGlobals mg->FnOk l.prog w (K w.params) mg base (CX w) k fa fd [x] (sp w))
  (hsp:∀ (w:World) (H:Hp) (a:Addr) (ns:List Int),ns.length<=n->Only H->mY (K w.params) H a (ns.map V.int)->sp w [.ref a] H (fun v _=>v=.bl true) fun _ _ _=>False)
  (hCX:∀ (w:World) (H:Hp) (s:Shared) (e:Value) (s':Shared),CX w [] H s (fun _ _ _=>False) e s'->False) :
  PySem.W.WalkO q loose XP YP l.row.toRowW d [] (fun f vs=>PySem.call f vs):=by
 refine Att.attach_call hn hdf fun w s₀ s₁ mg mb fa o pm cd doc a vs ns G Y ho hd hcd hmg hobj hints hlen hg=>?_;have KX:=hY w _ Y;obtain ⟨fd,hb,hx,hF⟩:=F w mg fa _ KX G.T.g hmg;exact zgO KX G.T.g G.T.b G.T.builtins G.T.nolimit hg hobj hints (Ze hlen hn2) hr hF hb (fun H hO hS=>hsp w H a ns hlen hO hS) (fun H e s'=>hCX w H s₁ e s') hx
end L2
/- THE LAST THEOREM (shape;LID,My.* are yours):
   My.Adr: a structure of the addresses that your layer names (classes,functions);My.Txt K t: a structure (Prop) of the equations over K;
   My.txt_mk:{K} {implicit addresses ..} (e1:nsIn K mainGlobals "law" = some (some (.ref f))) (e2:K.lookup f=some ⟨oc,od,.func (fnOf "law" "law" params body scope dV kV doc pm an cdv ct),sl⟩) (e3:codeIn K cdv "law" = true) ..:∃ t,My.Txt K t
set_option maxRecDepth 100000 in
set_option maxHeartbeats 0 in
theorem PySem.Challenge.cw_LID_holds : PySem.Challenge.rw_LID.Holds := by
 w_on;o_law;k_head;(case hw=>w_witness2)
 k_fill
 refine L2.walk_of (l:=PySem.Challenge.rw_LID) (n:=63) (k:=40) (x := "script") (CX:=fun w=>..) (sp:=fun _=>My.sp_law) rfl (by decide) rfl ⟨rfl,by decide,by decide⟩ (fun w h Y=>PySem.W.kIn_of Y) ?F ?S ?C
 case F =>
  intro w mg fa h KX G hmg
  have T:∃ t,My.Txt (L2.KOf KX) t:=by
   dsimp only[L2.KOf]                          -- K must stand as «<heap const> w.params» for k_is;refine' My.txt_mk ?e1 ?e2 ?e3 ..
   (case e1=>PySem.W.k_is)                    -- in the order: a name -> its address -> its object -> its qU
   (case e2=>PySem.W.k_is)
   ..
  obtain ⟨t,T⟩:=T;have e0:=hmg.symm.trans (PySem.W.mg_of KX G T.law);cases e0                                       -- fa is the law's own address;exact ⟨_,fun s u=>.of_eq rfl,fun base kb nb=>My.law_fn T kb nb⟩     -- if «.of_eq rfl» comes too early: refine' ⟨_,?b,fun base kb nb=>My.law_fn T kb nb⟩;exact fun s u=>.of_eq rfl
 case S=>exact fun w H a ns hl hO hS=>..
 case C=>exact ..
(the tactic k_is has no namespace: write k_is) -/
namespace L2
open PySem PySem.Spec PyProof.Rows
def zA (s:Stmt):Arguments:=match s with
 | .FunctionDef _ a _ _ _ _ _ _ _ _=>a
 |_=>{ posonlyargs:=[],args:=[],vararg:=none,kwonlyargs:=[],kw_defaults:=[],kwarg:=none,defaults:=[] }
def zK (s:Stmt):List Stmt:=match s with
 | .FunctionDef _ _ b _ _ _ _ _ _ _=>b
 |_=>[]
def zZ (s:Stmt):Scope:=match s with
 | .FunctionDef _ _ _ _ _ _ sc _ _ _=>sc
 |_=>{ kind:=.function,names:=[],isGenerator:=false,isCoroutine:=false }
abbrev CX0:CXT:=fun _ _ _ _ _ _=>False
abbrev E0:XK:=fun _ _ _=>False
theorem ziY {X:Cx}:zdc CX0 X E0:=fun _ _ _ _ _ _ _ h=>h.elim
section
variable {P:Program} {w:World} {K:PySem.W.Frag} {mg:Str->Option Value} {base:Heap}
end
section
variable {X:Cx}
end
section
variable {κ:Type} [DecidableEq κ]
end
end L2
namespace L3
open PySem PySem.Spec PyProof.Rows L2
inductive W where
 |non|bl (b:Bool)|int (i:Int)|str (x:Str)|ty (n:String)|ref (a:Addr)|tup (ws:List W)|lsf (ws:List W)
  |exc (C:Addr) (ns:List Str) (ws:List W)|dcf (ks:List Str) (ws:List W)
abbrev yJ:=PySem.W.Frag
def KL (K:yJ) (a:Addr) (xs:List V):Prop:=∃ (o:Obj) (its:Array Value) (n:Nat),K.lookup a=some o/\o.cls=.type "list" /\ o.dict=none/\o.data=.seq its n/\its.size<=sizeLine/\yZ xs its.toList
def zj4:List DictEntry->List Str->List V->Prop
 | [],ks,vs=>ks=[]/\vs=[]
 |e::r,ks,vs=>∃ k t v ks' vs',ks=k::ks'/\vs=v::vs'/\e.key=.str k t/\yW v e.val/\zj4 r ks' vs'
def KD (K:yJ) (a:Addr) (ks:List Str) (vs:List V):Prop:=∃ (o:Obj) (es:Array DictEntry) (ep:Nat),K.lookup a=some o/\o.ExactDict/\o.data=.dict es ep/\es.size<=sizeLine/\(a==sysModules)=false/\zj4 es.toList ks vs
def ExO (a C:Addr) (dx:Option Addr):Heap->Prop:=fun h=>∃ fs,h.get? a=some { cls:=.ref C,dict:=dx,data:=.fields fs }
def ExAt (H:Hp) (a C:Addr) (l:List (Str×V)):Prop:=(H a=some (.ext (ExO a C none))/\l=[])\/∃ dx,H a=some (.ext (ExO a C (some dx)))/\H dx=some (.xd l)
def isX:HO->Prop
 | .ext _=>True
 | .frz _ (.dK _)=>True
 | .xd _=>True
 |_=>False
mutual
def xT (K:yJ) (H:Hp):W->V->Prop
 | .non,v=>v=.non
 | .bl b,v=>v=.bl b
 | .int i,v=>v=.int i
 | .str x,v=>v=.str x
 | .ty n,v=>v=.ty n
 | .ref a,v=>v=.ref a
 | .tup ws,v=>∃ a vs,v=.ref a/\pR K H a vs/\zB K H ws vs
 | .lsf ws,v=>∃ a vs,v=.ref a/\KL K a vs/\zB K H ws vs
 | .exc C ns ws,v=>∃ a vs,v=.ref a/\ExAt H a C (ns.zip vs)/\zB K H ws vs
 | .dcf ks ws,v=>∃ a vs,v=.ref a/\KD K a ks vs/\zB K H ws vs
def zB (K:yJ) (H:Hp):List W->List V->Prop
 | [],vs=>vs=[]
 |w::ws,vs=>∃ v r,vs=v::r/\xT K H w v/\zB K H ws r
end
def yK (K:yJ) (H H':Hp):Prop:=(∀ a xs,pR K H a xs->pR K H' a xs)/\∀ a o,isX o->H a=some o->H' a=some o
theorem yK.refl {K:yJ} {H:Hp}:yK K H H:=⟨fun _ _ h=>h,fun _ _ _ h=>h⟩
theorem yK.trans {K:yJ} {H H1 H2:Hp} (a:yK K H H1) (b:yK K H1 H2):yK K H H2:=⟨fun x xs h=>b.1 x xs (a.1 x xs h),fun x o i h=>b.2 x o i (a.2 x o i h)⟩
theorem ExAt.mono {K:yJ} {H H':Hp} (g:yK K H H') {a C:Addr} {l:List (Str×V)} (h:ExAt H a C l):ExAt H' a C l:=by
 rcases h with ⟨h,e⟩|⟨dx,h,h'⟩
 .exact .inl ⟨g.2 _ _ True.intro h,e⟩
 .exact .inr ⟨dx,g.2 _ _ True.intro h,g.2 _ _ True.intro h'⟩
section
variable {K:yJ} {H H':Hp}
mutual
theorem xT.mono (g:yK K H H'):∀ {w:W} {v:V},xT K H w v->xT K H' w v
 | .non,_,h=>h
 | .bl _,_,h=>h
 | .int _,_,h=>h
 | .str _,_,h=>h
 | .ty _,_,h=>h
 | .ref _,_,h=>h
 | .tup _,_,⟨a,vs,e,s,r⟩=>⟨a,vs,e,g.1 a vs s,zB.mono g r⟩
 | .lsf _,_,⟨a,vs,e,s,r⟩=>⟨a,vs,e,s,zB.mono g r⟩
 | .exc _ _ _,_,⟨a,vs,e,s,r⟩=>⟨a,vs,e,s.mono g,zB.mono g r⟩
 | .dcf _ _,_,⟨a,vs,e,s,r⟩=>⟨a,vs,e,s,zB.mono g r⟩
theorem zB.mono (g:yK K H H'):∀ {ws:List W} {vs:List V},zB K H ws vs->zB K H' ws vs
 | [],_,h=>h
 |_::_,_,⟨v,r,e,h,t⟩=>⟨v,r,e,xT.mono g h,zB.mono g t⟩
end
theorem zB.length:∀ {ws:List W} {vs:List V},zB K H ws vs->vs.length=ws.length
 | [],_,h=>by rw[show _=[] from h];rfl
 |_::_,_,⟨v,r,e,_,t⟩=>by rw[e,Zf,Zf,zB.length t]
theorem zB.append:∀ {ws:List W} {vs:List V} {ws':List W} {vs':List V},zB K H ws vs->zB K H ws' vs'->zB K H (ws++ws') (vs++vs')
 | [],_,_,_,h,h'=>by rw[show _=[] from h];exact h'
 |_::_,_,_,_,⟨v,r,e,h,t⟩,h'=>by rw[e];exact ⟨v,_,rfl,h,zB.append t h'⟩
theorem zB.get:∀ {ws:List W} {vs:List V} {i:Nat} {w:W},zB K H ws vs->ws[i]?=some w->∃ v,vs[i]?=some v/\xT K H w v
 | [],_,_,_,_,e=>by simp at e
 |_::_,_,0,_,⟨v,r,e,h,t⟩,q=>by simp at q;subst q;subst e;exact ⟨v,rfl,h⟩
 |_::_,_,i+1,w,⟨v,r,e,h,t⟩,q=>by
  subst e;obtain ⟨u,h1,h2⟩:=zB.get (i:=i) (w:=w) t (by simpa using q);exact ⟨u,by simpa using h1,h2⟩
theorem zB.get':∀ {ws:List W} {vs:List V} {i:Nat} {v:V},zB K H ws vs->vs[i]?=some v->∃ w,ws[i]?=some w/\xT K H w v
 | [],_,_,_,h,e=>by rw[show _=[] from h] at e;simp at e
 |_::_,_,0,_,⟨v,r,e,h,t⟩,q=>by subst e;simp at q;subst q;exact ⟨_,rfl,h⟩
 |_::_,_,i+1,w,⟨v,r,e,h,t⟩,q=>by
  subst e;obtain ⟨u,h1,h2⟩:=zB.get' (i:=i) (v:=w) t (by simpa using q);exact ⟨u,by simpa using h1,h2⟩
theorem zB.set {w:W} {v:V} (q:xT K H w v):∀ {ws:List W} {vs:List V} (i:Nat),zB K H ws vs->zB K H (ws.set i w) (vs.set i v)
 | [],_,_,h=>by rw[show _=[] from h];rfl
 |_::_,_,0,⟨_,r,e,_,t⟩=>by rw[e];exact ⟨_,_,rfl,q,t⟩
 |_::_,_,i+1,⟨v,r,e,h,t⟩=>by rw[e];exact ⟨_,_,rfl,h,zB.set q i t⟩
theorem zB.take:∀ {ws:List W} {vs:List V} (n:Nat),zB K H ws vs->zB K H (ws.take n) (vs.take n)
 | [],_,_,h=>by rw[show _=[] from h];simp;rfl
 |_::_,_,0,_=>by simp;rfl
 |_::_,_,n+1,⟨v,r,e,h,t⟩=>by rw[e];exact ⟨_,_,rfl,h,zB.take n t⟩
theorem zB.drop:∀ {ws:List W} {vs:List V} (n:Nat),zB K H ws vs->zB K H (ws.drop n) (vs.drop n)
 | [],_,_,h=>by rw[show _=[] from h];simp;rfl
 |_::_,_,0,h=>h
 |_::_,_,n+1,⟨v,r,e,h,t⟩=>by rw[e];exact zB.drop n t
theorem zB.reverse:∀ {ws:List W} {vs:List V},zB K H ws vs->zB K H ws.reverse vs.reverse
 | [],_,h=>by rw[show _=[] from h];rfl
 |_::_,_,⟨v,r,e,h,t⟩=>by
  rw[e,ZO,ZO];exact zB.append (zB.reverse t) ⟨v,[],rfl,h,rfl⟩
theorem zB.dropLast {ws:List W} {vs:List V} (h:zB K H ws vs):zB K H ws.dropLast vs.dropLast:=by
 rw[List.dropLast_eq_take,List.dropLast_eq_take,h.length];exact h.take _
end
inductive O where
 |lst (ws:List W)
  |fix (ws:List W)
 |dic (kvs:List (yA×W))
 |ins (C:Addr) (fs:List (Str×W))
  |fzd (kvs:List (yA×W))
def isFz:O->Bool
 | .fzd _=>true
 |_=>false
abbrev Hw:=Addr->Option O
def put (G:Hw) (a:Addr) (o:O):Hw:=fun b=>if b=a then some o else G b
theorem zX {G:Hw} {a:Addr} {o:O}:put G a o a=some o:=by unfold put;rw[if_pos rfl]
theorem yH {G:Hw} {a b:Addr} {o:O} (h:b≠a):put G a o b=G b:=by unfold put;rw[if_neg h]
theorem qS {G:Hw} {a b:Addr} {o:O} (h:G a=some o) (h':G b=none):a≠b:=by
 intro e;subst e;rw[h] at h';cases h'
def yL (K:yJ) (H:Hp) {κ:Type}:List (κ×W)->List (κ×V)->Prop
 | [],l=>l=[]
 |p::r,l=>∃ v t,l=(p.1,v)::t/\xT K H p.2 v/\yL K H r t
def RepO (K:yJ) (H:Hp):O->HO->Prop
 | .lst ws,o=>∃ vs,o=.lst vs/\zB K H ws vs
 | .fix ws,o=>∃ vs ob,(o=.lst vs\/o=.frz ob (.lst vs))/\zB K H ws vs
 | .dic kvs,o=>∃ l,o=.dK l/\yL K H kvs l
 | .ins C fs,o=>∃ dx l,o=.ins C dx l/\yL K H fs l
 | .fzd kvs,o=>∃ ob l,o=.frz ob (.dK l)/\yL K H kvs l
def xP (K:yJ) (H:Hp) (G:Hw):Prop:=∀ a o,G a=some o->∃ u,H a=some u/\RepO K H o u
theorem yL.mono {K:yJ} {H H':Hp} (g:yK K H H') {κ:Type}:∀ {l:List (κ×W)} {l':List (κ×V)},yL K H l l'->yL K H' l l'
 | [],_,h=>h
 |_::_,_,⟨v,t,e,h,r⟩=>⟨v,t,e,h.mono g,yL.mono g r⟩
theorem RepO.mono {K:yJ} {H H':Hp} (g:yK K H H'):∀ {o:O} {u:HO},RepO K H o u->RepO K H' o u
 | .lst _,_,⟨vs,e,r⟩=>⟨vs,e,r.mono g⟩
 | .fix _,_,⟨vs,ob,e,r⟩=>⟨vs,ob,e,r.mono g⟩
 | .dic _,_,⟨l,e,r⟩=>⟨l,e,r.mono g⟩
 | .ins _ _,_,⟨dx,l,e,r⟩=>⟨dx,l,e,r.mono g⟩
 | .fzd _,_,⟨ob,l,e,r⟩=>⟨ob,l,e,r.mono g⟩
theorem RepO.notX {K:yJ} {H:Hp}:∀ {o:O} {u:HO},isFz o=false->RepO K H o u->¬ isX u
 | .lst _,_,_,⟨vs,e,r⟩=>by subst e;exact id
 | .fix _,_,_,⟨vs,ob,e,r⟩=>by rcases e with e|e<;>subst e<;>exact id
 | .dic _,_,_,⟨l,e,r⟩=>by subst e;exact id
 | .ins _ _,_,_,⟨dx,l,e,r⟩=>by subst e;exact id
 | .fzd _,_,m,_=>nomatch m
theorem RepO.notTup {K:yJ} {H:Hp}:∀ {o:O} {u:HO},RepO K H o u->(∀ xs,u≠.tup xs)/\∀ ob xs,u≠.frz ob (.tup xs)
 | .lst _,_,⟨vs,e,r⟩=>by subst e;exact ⟨(fun _ z=>nomatch z),(fun _ _ z=>nomatch z)⟩
 | .fix _,_,⟨vs,ob,e,r⟩=>by
  rcases e with e|e<;>subst e
  .exact ⟨(fun _ z=>nomatch z),(fun _ _ z=>nomatch z)⟩
  .exact ⟨(fun _ z=>nomatch z),(fun _ _ z=>nomatch z)⟩
 | .dic _,_,⟨l,e,r⟩=>by subst e;exact ⟨(fun _ z=>nomatch z),(fun _ _ z=>nomatch z)⟩
 | .ins _ _,_,⟨dx,l,e,r⟩=>by subst e;exact ⟨(fun _ z=>nomatch z),(fun _ _ z=>nomatch z)⟩
 | .fzd _,_,⟨ob,l,e,r⟩=>by subst e;exact ⟨(fun _ z=>nomatch z),(fun _ _ z=>nomatch z)⟩
section
variable {K:yJ} {H H':Hp} {G:Hw} {a:Addr}
theorem xP.free (h:xP K H G) (e:H a=none):G a=none:=by
 cases q:G a with
 |none=>rfl
 |some o =>
  obtain ⟨u,e',_⟩:=h a o q;rw[e] at e';cases e'
theorem zcW {u:HO} (h:∀ xs,¬ Rd H a (.tup xs)) (hx:∀ o,isX o->H a≠some o):yK K H (xC H a u):=⟨fun b xs s=>by
 rcases s with s|s
 .have hb:b≠a:=by rintro rfl;exact h xs s
  left
  rcases s with s|⟨o,s⟩
  .exact .inl (by rw[yU hb];exact s)
  .exact .inr ⟨o,by rw[yU hb];exact s⟩
 .exact .inr s,fun b o i s=>by
 have hb:b≠a:=by rintro rfl;exact hx o i s
 rw[yU hb];exact s⟩
theorem wP {u:HO} (h:H a=none):yK K H (xC H a u):=zcW (fun xs s=>by
 rcases s with s|⟨o,s⟩<;>(rw[h] at s;cases s)) (fun o _ s=>by rw[h] at s;cases s)
theorem xP.grow {o:O} {u:HO} (h:xP K H G) (e:G a=some o) (m:isFz o=false:=by rfl):yK K H (xC H a u):=by
 obtain ⟨u',e',r⟩:=h a o e;refine zcW (fun xs s=>?_) (fun o' i s=>?_)
 .rcases s with s|⟨ob,s⟩
  .rw[e'] at s;cases s;exact r.notTup.1 xs rfl
  .rw[e'] at s;cases s;exact r.notTup.2 ob xs rfl
 .rw[e'] at s;cases s;exact r.notX m i
theorem xP.new {o:O} {u:HO} (h:xP K H G) (e:H a=none) (r:RepO K (xC H a u) o u):xP K (xC H a u) (put G a o):=fun b ob q=>by
 by_cases hb:b=a
 .subst hb;rw[zX] at q;cases q;exact ⟨u,wN,r⟩
 .rw[yH hb] at q;obtain ⟨u',e',r'⟩:=h b ob q;exact ⟨u',by rw[yU hb];exact e',r'.mono (wP e)⟩
theorem xP.tup {u:HO} (h:xP K H G) (e:H a=none):xP K (xC H a u) G:=fun b ob q=>by
 obtain ⟨u',e',r'⟩:=h b ob q;exact ⟨u',by rw[yU (yN e' e)];exact e',r'.mono (wP e)⟩
theorem xP.chg {o o':O} {u:HO} (h:xP K H G) (e:G a=some o') (r:RepO K (xC H a u) o u) (m:isFz o'=false:=by rfl):xP K (xC H a u) (put G a o):=fun b ob q=>by
 by_cases hb:b=a
 .subst hb;rw[zX] at q;cases q;exact ⟨u,wN,r⟩
 .rw[yH hb] at q;obtain ⟨u',e',r'⟩:=h b ob q;exact ⟨u',by rw[yU hb];exact e',r'.mono (h.grow e m)⟩
theorem xP.lst {ws:List W} (h:xP K H G) (e:G a=some (.lst ws)):∃ vs,H a=some (.lst vs)/\zB K H ws vs:=by
 obtain ⟨u,e',vs,rfl,r⟩:=h a _ e;exact ⟨vs,e',r⟩
theorem xP.dic {kvs:List (yA×W)} (h:xP K H G) (e:G a=some (.dic kvs)):∃ l,H a=some (.dK l)/\yL K H kvs l:=by
 obtain ⟨u,e',vs,rfl,r⟩:=h a _ e;exact ⟨vs,e',r⟩
end
def yP (G:Hw) (a:Addr):Option (List W):=match G a with
 |some (.lst ws)=>some ws
 |some (.fix ws)=>some ws
 |_=>none
theorem xP.seq {K:yJ} {H:Hp} {G:Hw} {a:Addr} {ws:List W} (h:xP K H G) (e:yP G a=some ws):∃ vs,mY K H a vs/\zB K H ws vs:=by
 unfold yP at e
 split at e
 .rename_i q;cases e;obtain ⟨vs,e',r⟩:=h.lst q;exact ⟨vs,.of e',r⟩
 .rename_i q;cases e;obtain ⟨u,e',vs,ob,z,r⟩:=h a _ q;refine ⟨vs,?_,r⟩;rcases z with rfl|rfl
  .exact .inl (.inl e')
  .exact .inl (.inr ⟨_,e'⟩)
 .cases e
abbrev qV:=List (Option W)
def yM (K:yJ) (H:Hp) (σ:qV) (τ:L2.St):Prop:=σ.length=τ.length/\∀ (i:Nat) (w:W),σ[i]?=some (some w)->∃ v,τ[i]?=some (some v)/\xT K H w v
theorem yM.mono {K:yJ} {H H':Hp} (g:yK K H H') {σ:qV} {τ:L2.St} (h:yM K H σ τ):yM K H' σ τ :=
 ⟨h.1,fun i w e=>let ⟨v,e',r⟩:=h.2 i w e;⟨v,e',r.mono g⟩⟩
theorem yM.set {K:yJ} {H:Hp} {σ:qV} {τ:L2.St} {w:W} {v:V} (h:yM K H σ τ) (r:xT K H w v) (i:Nat):yM K H (σ.set i (some w)) (τ.set i (some v)):=by
 refine ⟨by simp[h.1],fun j w' e=>?_⟩;rw[List.getElem?_set] at e ⊢
 by_cases hj:i=j
 .subst hj;rw[if_pos rfl] at e ⊢
  by_cases hl:i<σ.length
  .rw[if_pos hl] at e;cases e;rw[if_pos (h.1▸hl)];exact ⟨v,rfl,r⟩
  .rw[if_neg hl] at e;cases e
 .rw[if_neg hj] at e ⊢;exact h.2 j w' e
abbrev Q3:=W->Hw->Prop
abbrev E3:=qV->Hw->Q3->Prop
abbrev T3:=qV->Hw->(Bool->Hw->Prop)->Prop
abbrev A3:=qV->Hw->(List W->Hw->Prop)->Prop
structure End3 where
 nx:qV->Hw->Prop
 rt:Q3
 bk:qV->Hw->Prop:=fun _ _=>False
 ct:qV->Hw->Prop:=fun _ _=>False
abbrev S3:=End3->qV->Hw->Prop
section
variable (K:yJ)
def xN (t:E3):TE:=fun τ H Q=>∃ σ G,yM K H σ τ/\xP K H G/\t σ G fun w G'=>∀ v H',yK K H H'->xT K H' w v->xP K H' G'->Q v H'
def vT (t:T3):TT:=fun τ H Q=>∃ σ G,yM K H σ τ/\xP K H G/\t σ G fun b G'=>∀ H',yK K H H'->xP K H' G'->Q b H'
def nQ (t:A3):TA:=fun τ H Q=>∃ σ G,yM K H σ τ/\xP K H G/\t σ G fun ws G'=>∀ vs H',yK K H H'->zB K H' ws vs->xP K H' G'->Q vs H'
structure Fine (H:Hp) (D3:End3) (D:Ends):Prop where
 nx:∀ σ G τ H',yK K H H'->yM K H' σ τ->xP K H' G->D3.nx σ G->D.nx τ H'
 bk:∀ σ G τ H',yK K H H'->yM K H' σ τ->xP K H' G->D3.bk σ G->D.bk τ H'
 ct:∀ σ G τ H',yK K H H'->yM K H' σ τ->xP K H' G->D3.ct σ G->D.ct τ H'
 rt:∀ w G v H',yK K H H'->xT K H' w v->xP K H' G->D3.rt w G->D.rt v H'
def lowS (t:S3):TS:=fun D τ H=>∃ σ G D3,yM K H σ τ/\xP K H G/\Fine K H D3 D/\t D3 σ G
end
theorem Fine.grow {K:yJ} {H H':Hp} {D3:End3} {D:Ends} (f:Fine K H D3 D) (g:yK K H H'):Fine K H' D3 D :=
 ⟨fun σ G τ H2 g2=>f.nx σ G τ H2 (g.trans g2),fun σ G τ H2 g2=>f.bk σ G τ H2 (g.trans g2),fun σ G τ H2 g2=>f.ct σ G τ H2 (g.trans g2),fun w G v H2 g2=>f.rt w G v H2 (g.trans g2)⟩
def jQ (t:E3):Prop:=∀ σ G (Q Q':Q3),(∀ w G',Q w G'->Q' w G')->t σ G Q->t σ G Q'
def sE (t:T3):Prop:=∀ σ G (Q Q':Bool->Hw->Prop),(∀ w G',Q w G'->Q' w G')->t σ G Q->t σ G Q'
def tW (t:A3):Prop:=∀ σ G (Q Q':List W->Hw->Prop),(∀ w G',Q w G'->Q' w G')->t σ G Q->t σ G Q'
section
variable {K:yJ} {H:Hp} {σ:qV} {τ:L2.St} {G:Hw}
theorem xJ {t:E3} {R:Q3} {S:VK} (m:jQ t) (hs:yM K H σ τ) (ha:xP K H G) (h:t σ G R)
  (k:∀ w G1 v H1,yK K H H1->yM K H1 σ τ->xT K H1 w v->xP K H1 G1->R w G1->S v H1):xN K t τ H S :=
 ⟨σ,G,hs,ha,m σ G _ _ (fun w G' r v H' g rp ab=>k w G' v H' g (hs.mono g) rp ab r) h⟩
theorem zci {t:T3} {R:Bool->Hw->Prop} {S:Bool->Hp->Prop} (m:sE t) (hs:yM K H σ τ) (ha:xP K H G) (h:t σ G R)
  (k:∀ b G1 H1,yK K H H1->yM K H1 σ τ->xP K H1 G1->R b G1->S b H1):vT K t τ H S :=
 ⟨σ,G,hs,ha,m σ G _ _ (fun w G' r H' g ab=>k w G' H' g (hs.mono g) ab r) h⟩
theorem gC {t:A3} {R:List W->Hw->Prop} {S:List V->Hp->Prop} (m:tW t) (hs:yM K H σ τ) (ha:xP K H G) (h:t σ G R)
  (k:∀ w G1 v H1,yK K H H1->yM K H1 σ τ->zB K H1 w v->xP K H1 G1->R w G1->S v H1):nQ K t τ H S :=
 ⟨σ,G,hs,ha,m σ G _ _ (fun w G' r v H' g rp ab=>k w G' v H' g (hs.mono g) rp ab r) h⟩
end
end L3
namespace L2
section
variable {X:Cx} {e:PySem.Expr} {st:PySem.Stmt} {sts:List PySem.Stmt}
theorem PE.imp {t t':TE} (h:PE X e t) (k:∀ σ H Q,t' σ H Q->t σ H Q):PE X e t':=fun pins s σ H Q I q=>h pins s σ H Q I (k σ H Q q)
theorem PT.imp {t t':TT} (h:PT X e t) (k:∀ σ H Q,t' σ H Q->t σ H Q):PT X e t':=fun pins s σ H Q I q=>h pins s σ H Q I (k σ H Q q)
theorem PW.imp {t t':TT} (h:PW X e t) (k:∀ σ H Q,t' σ H Q->t σ H Q):PW X e t':=fun wh pins s σ H Q I q=>h wh pins s σ H Q I (k σ H Q q)
theorem PA.imp {es:List PySem.Expr} {t t':TA} (h:PA X es t) (k:∀ σ H Q,t' σ H Q->t σ H Q):PA X es t':=fun pos pins s σ H Q I q=>h pos pins s σ H Q I (k σ H Q q)
theorem PS.imp {t t':TS} (h:PS X st t) (k:∀ D σ H,t' D σ H->t D σ H):PS X st t':=fun pins s σ H D I q=>h pins s σ H D I (k D σ H q)
theorem PSs.imp {t t':TS} (h:PSs X sts t) (k:∀ D σ H,t' D σ H->t D σ H):PSs X sts t':=fun pins s σ H D I q=>h pins s σ H D I (k D σ H q)
end
end L2
set_option genInjectivity false
set_option genSizeOfSpec false
namespace L2
open PySem PySem.Spec PyProof.Rows PySem.Calls
def clo (env:Env):List (Str×NameKind)->List (Str×Addr)->List (Str×Addr)
 | [],acc=>acc
 | (n,k)::r,acc=>if (k==NameKind.free)=true then clo env r ((n,(env.cells.lookup n).getD 0)::acc) else clo env r acc
theorem zcc (env:Env):∀ (l:List (Str×NameKind)) (acc:List (Str×Addr)) {x:Str} {c:Addr},(clo env l acc).lookup x=some c ->
  ((∃ k,(x,k)∈l/\k=.free)/\c=(env.cells.lookup x).getD 0)\/acc.lookup x=some c
 | [],acc,x,c,h=>.inr h
 | (n,k)::r,acc,x,c,h=>by
  unfold clo at h
  by_cases hk:(k==NameKind.free)=true
  .rw[if_pos hk] at h;rcases zcc env r _ h with ⟨⟨k',m,e⟩,q⟩|h
   .exact .inl ⟨⟨k',Zc _ m,e⟩,q⟩
   .rw[ZE] at h
    by_cases hx:(x==n)=true
    .rw[hx] at h;have e:x=n:=eq_of_beq hx;subst e;exact .inl ⟨⟨k,zzT,eq_of_beq hk⟩,(ZA h).symm⟩
    .rw[Bool.not_eq_true] at hx;rw[hx] at h;exact .inr h
  .rw[if_neg hk] at h;rcases zcc env r _ h with ⟨⟨k',m,e⟩,q⟩|h
   .exact .inl ⟨⟨k',Zc _ m,e⟩,q⟩
   .exact .inr h
theorem zce (env:Env):∀ (l:List (Str×NameKind)) (acc:List (Str×Addr)) {x:Str},(∃ c,acc.lookup x=some c)->∃ c,(clo env l acc).lookup x=some c
 | [],acc,x,h=>h
 | (n,k)::r,acc,x,h=>by
  unfold clo
  split
  .refine zce env r _ ?_;rw[ZE];cases x==n
   .exact h
   .exact ⟨_,rfl⟩
  .exact zce env r _ h
theorem zcd (env:Env):∀ (l:List (Str×NameKind)) (acc:List (Str×Addr)) {x:Str},(x,NameKind.free)∈l->∃ c,(clo env l acc).lookup x=some c
 | (n,k)::r,acc,x,h=>by
  unfold clo;rcases Zd.mp h with h|h
  .cases h;rw[if_pos (by decide)];refine zce env r _ ?_;rw[ZE,beq_self_eq_true];exact ⟨_,rfl⟩
  .split
   .exact zcd env r _ h
   .exact zcd env r _ h
theorem zaf {env:Env} {scope:Scope} (h:∀ x,(x,NameKind.free)∈scope.names->∃ c,env.cells.lookup x=some c):closureFor scope env=pure (clo env scope.names []):=by
 simp only[closureFor]
 have key:∀ (l:List (Str×NameKind)) (acc:List (Str×Addr)),(∀ x,(x,NameKind.free)∈l->∃ c,env.cells.lookup x=some c) ->
   (forIn l acc fun x r=>match x with|(name,kind)=>if (kind==NameKind.free)=true then (do let a ← cellOf env name;pure (ForInStep.yield ((name,a)::r))) else pure (ForInStep.yield r):Sem (List (Str×Addr)))=pure (clo env l acc):=by
  intro l
  induction l with
  |nil=>intro acc _;rfl
  |cons p r ih =>
   intro acc hh;obtain ⟨n,k⟩:=p;rw[List.forIn_cons]
   by_cases hk:(k==NameKind.free)=true
   .have ek:k=.free:=eq_of_beq hk;obtain ⟨c,hc⟩:=hh n (by rw[ek];exact zzT);simp only[hk,if_true];have e1:cellOf env n=pure c:=by unfold cellOf;rw[hc]
    rw[e1];simp only[pure_bind];rw[ih _ fun x hx=>hh x (Zc _ hx)]
    conv=>rhs;unfold clo
    rw[if_pos hk,hc]
    all_goals rfl
   .simp only[hk];rw[if_neg (by simp)];simp only[pure_bind];rw[ih _ fun x hx=>hh x (Zc _ hx)]
    conv=>rhs;unfold clo
    rw[if_neg hk]
 have:=key scope.names [] h;simpa using this
theorem wB {env:Env}:∀ {names:List (Str×NameKind)} {x:Str} {k':NameKind},
  (names.map fun (n,k)=>if (k==NameKind.free&&env.scope.kind==.function&&env.kindOf n==some .cell) then (n,NameKind.cell) else (n,k)).lookup x=some k' ->
  ∃ k,names.lookup x=some k/\(k'=k\/(k=.free/\k'=.cell))
 | [],_,_,h=>by simp at h
 | (n,k)::r,x,k',h=>by
  rw[zzU] at h
  by_cases hc:(k==NameKind.free&&env.scope.kind==.function&&env.kindOf n==some .cell)=true
  .simp only[hc,if_true] at h;rw[ZE] at h ⊢
   cases hx:x==n with
   |true =>
    rw[hx] at h;cases h;simp only[Zl,beq_iff_eq] at hc;exact ⟨k,rfl,.inr ⟨hc.1.1,rfl⟩⟩
   |false=>rw[hx] at h;exact wB h
  .simp only[hc,if_false] at h;rw[if_neg (by simp)] at h;rw[ZE] at h ⊢
   cases hx:x==n with
   |true=>rw[hx] at h;cases h;exact ⟨k,rfl,.inl rfl⟩
   |false=>rw[hx] at h;exact wB h
theorem kB {α:Type}:∀ {l:List (Str×α)} {x:Str} {v:α},l.lookup x=some v->(x,v)∈l
 | (n,k)::r,x,v,h=>by
  rw[ZE] at h
  cases hx:x==n with
  |true=>rw[hx] at h;cases h;rw[eq_of_beq hx];exact zzT
  |false=>rw[hx] at h;exact Zc _ (kB h)
theorem zcf:∀ (l:List (Str×NameKind)) (n:Nat) (acc:List (Str×Addr)) {x:Str} {c:Addr},(cellsFrom n l acc).lookup x=some c->acc.lookup x=some c\/((x,NameKind.cell)∈l/\n<=c)
 | [],n,acc,x,c,h=>.inl h
 | (y,k)::r,n,acc,x,c,h=>by
  unfold cellsFrom at h
  split at h
  .rename_i hk;rcases zcf r _ _ h with h|⟨h,q⟩
   .rw[ZE] at h
    by_cases hx:(x==y)=true
    .rw[hx] at h;cases eq_of_beq hx;cases eq_of_beq hk;exact .inr ⟨zzT,ZaI (ZA h)⟩
    .rw[Bool.not_eq_true] at hx;rw[hx] at h;exact .inl h
   .exact .inr ⟨Zc _ h,Nat.le_of_succ_le q⟩
  .rcases zcf r _ _ h with h|⟨h,q⟩
   .exact .inl h
   .exact .inr ⟨Zc _ h,q⟩
theorem zc7:∀ (l:List (Str×NameKind)) (n:Nat) (acc:List (Str×Addr)) {x:Str},(∃ c,acc.lookup x=some c)->∃ c,(cellsFrom n l acc).lookup x=some c
 | [],n,acc,x,h=>h
 | (y,k)::r,n,acc,x,h=>by
  unfold cellsFrom
  split
  .refine zc7 r _ _ ?_;rw[ZE];cases x==y
   .exact h
   .exact ⟨_,rfl⟩
  .exact zc7 r _ _ h
theorem zfA:∀ (l:List (Str×NameKind)) (n:Nat) (acc:List (Str×Addr)) {x:Str},(x,NameKind.cell)∈l->∃ c,(cellsFrom n l acc).lookup x=some c
 | (y,k)::r,n,acc,x,h=>by
  unfold cellsFrom;rcases Zd.mp h with h|h
  .cases h;rw[if_pos (by decide)];refine zc7 r _ _ ?_;rw[ZE,beq_self_eq_true];exact ⟨_,rfl⟩
  .split
   .exact zfA r _ _ h
   .exact zfA r _ _ h
def Inj (n:Nat) (l:List (Str×Addr)):Prop:=(∀ x c,l.lookup x=some c->c<n)/\∀ x y c,l.lookup x=some c->l.lookup y=some c->x=y
theorem zfz:∀ (l:List (Str×NameKind)) (n:Nat) (acc:List (Str×Addr)),Inj n acc->∀ x y c,(cellsFrom n l acc).lookup x=some c->(cellsFrom n l acc).lookup y=some c->x=y
 | [],n,acc,h=>h.2
 | (z,k)::r,n,acc,h=>by
  unfold cellsFrom
  split
  .refine zfz r (n+1) ((z,n)::acc) ⟨fun x c e=>?_,fun x y c e e'=>?_⟩
   .rw[ZE] at e
    cases hx:x==z with
    |true=>rw[hx] at e;cases e;exact Zbj _
    |false=>rw[hx] at e;exact Za6 (h.1 x c e)
   .rw[ZE] at e e'
    cases hx:x==z with
    |true =>
     rw[hx] at e;cases e
     cases hy:y==z with
     |true=>rw[eq_of_beq hx,eq_of_beq hy]
     |false=>rw[hy] at e';exact absurd (h.1 y _ e') (Z7 _)
    |false =>
     rw[hx] at e
     cases hy:y==z with
     |true=>rw[hy] at e';cases e';exact absurd (h.1 x _ e) (Z7 _)
     |false=>rw[hy] at e';exact h.2 x y c e e'
  .exact zfz r n acc h
theorem zcg:∀ (l:List (Str×NameKind)) (h:Heap) (acc:List (Str×Addr)),(∀ x c,acc.lookup x=some c->∃ v,h.IsCell c v)->∀ x c,(cellsFrom h.objs.size l acc).lookup x=some c->∃ v,(pushCells h l).IsCell c v
 | [],h,acc,k=>k
 | (z,q)::r,h,acc,k=>by
  unfold cellsFrom pushCells
  split
  .have:=zcg r (h.push { cls:=.type "cell", data:=.cell none }) ((z,h.objs.size)::acc) (fun x c e=>by
    rw[ZE] at e
    cases hx:x==z with
    |true=>rw[hx] at e;cases e;exact ⟨_,_,Zk _ rfl,rfl⟩
    |false =>
     rw[hx] at e;obtain ⟨v,o,ho,hd⟩:=k x c e;exact ⟨v,o,Za _ ho,hd⟩)
   rw[ZJ] at this;exact this
  .exact zcg r h acc k
theorem nfe {M:Model} {A:Around} {E:Value->Shared->Prop} {s:Shared} {sc:Scope} {gl:Addr} {cl:List (Str×Addr)} {qual:Str} {env:Env} {Q:Env->Shared->Prop}
  (hQ:∀ h',h'=pushCells (s.heap.push { cls:=.type "dict", data:=.dict #[] }) sc.names->h'.Ns s.heap.objs.size (fun _=>none)->(∀ b o,s.heap.get? b=some o->h'.get? b=some o) ->
   Q { scope:=sc,locals:=s.heap.objs.size,globals:=gl,cells:=cellsFrom (s.heap.objs.size+1) sc.names cl,qual:=qual,func:=none,code:=env.code,frame:=env.frame,builtins:=env.builtins } { s with heap:=h' }) :
  wpAny M A (newFunctionEnv sc gl cl [] qual none .none (some env)) Q E s:=by
 simp only[newFunctionEnv,ZaZ,if_true];refine Zb (wpAny_alloc (Zb (wpAny_layCells _ (fun name kind cells=>by cases hkc:kind==NameKind.cell<;>simp[hkc]) _ _ _ _ ?_)));rw[show ({ s with heap:=s.heap.push { cls:=.type "dict", data:=.dict #[] } }:Shared).heap.objs.size=s.heap.objs.size+1 from ZJ ..];rw[List.forIn_nil];refine Zb (Zg (Zg (hQ _ rfl ((Heap.Ns.new s.heap (.type "dict")).keeps (Zbx _ _)) fun b o e=>Zbx _ _ b o (Za _ e))))
end L2
namespace L2
open PySem PySem.Spec PyProof.Rows PySem.Calls
theorem zbo (elt target iter:Expr) (ifs:List Expr) (scope:Scope) (pos:Pos) (it acc:Value) (env:Env) :
  compTurn (.ListComp elt [⟨target,iter,ifs,0⟩] scope pos) 0 it acc env=(do
   standAt iter.pos
   match ← pyNext it with
   |none=>pure (.done .next)
   |some v =>
    letOwnedTupleGo target it v
    assign target env v
    let mut ok:=true
    for c in ifs do
     if ok then ok ← isTrue c env (eval c env)
    if ok then
     (do let _ ← call (.builtin "list.append") [acc,← eval elt env])
    again (.compLoop (.ListComp elt [⟨target,iter,ifs,0⟩] scope pos) 0 it acc env)):=by rfl
section
variable {prog:Program} {w:World} {A:Around} {R:Result->Shared->Prop} {s:Shared}
theorem zbp {elt target iter:Expr} {ifs:List Expr} {scope:Scope} {pos:Pos} {it acc:Value} {env:Env} (I:Nat->Shared->Prop)
  (turn:∀ n s,I n s->wpAny (model prog w) A (pyNext it) (fun r s₁=>match r with
   |none=>R (.ok .next) s₁
   |some v=>wpAny (model prog w) A (letOwnedTupleGo target it v) (fun _ s₁=>wpAny (model prog w) A (assign target env v) (fun _ s₂ =>
     wpAny (model prog w) A (forIn ifs true fun c r=>if r=true then do let ok ← isTrue c env (eval c env);pure (ForInStep.yield ok) else pure (ForInStep.yield r)) (fun ok s₃ =>
      if ok=true then wpAny (model prog w) A (eval elt env) (fun x s₄ =>
       wpAny (model prog w) A (call (.builtin "list.append") [acc,x]) (fun _ s₅=>∃ m,m<n/\I m s₅) (fun _ _=>False) s₄) (notedBy (model prog w) A env fun e s'=>R (.error e) s') s₃
      else ∃ m,m<n/\I m s₃) (fun _ _=>False) s₂) (fun _ _=>False) s₁) (fun _ _=>False) s₁) (fun _ _=>False) s)
  (n:Nat) (h:I n s) :
  codeAny (model prog w) A (.compLoop (.ListComp elt [⟨target,iter,ifs,0⟩] scope pos) 0 it acc env) R s:=by
 refine codeAny_loop rfl I (fun n s hI=>?_) n h;show wpAny _ A ((compTurn (.ListComp elt [⟨target,iter,ifs,0⟩] scope pos) 0 it acc env).onRaise (fun x=>do noteFrame x env;theTreesLotGoes x)) _ _ s;refine wpAny_noted ?_;rw[zbo];refine Zb (Zbp (Zb (Zaa (turn n s hI) (fun r s₁ h₁=>?_) fun _ _ h'=>h'.elim)))
 cases r with
 |none=>exact Zg h₁
 |some v =>
  refine Zb (Zaa h₁ (fun _ s₁ h₁=>?_) fun _ _ h'=>h'.elim);refine Zb (Zaa h₁ (fun _ s₂ h₂=>Zb (Zaa h₂ (fun ok s₃ h₃=>?_) fun _ _ h'=>h'.elim)) fun _ _ h'=>h'.elim)
  cases ok with
  |false=>exact Zg ⟨rfl,h₃⟩
  |true =>
   exact Zb (Zb (Zaa h₃ (fun x s₄ h₄=>Zb (Zaa h₄ (fun _ s₅ h₅=>Zg (Zg ⟨rfl,h₅⟩)) fun _ _ h'=>h'.elim)) fun _ _ h'=>h'))
end
structure IsBlock (X:Cx) (N:List Str) (sc:Scope) (X':Cx):Prop where
 prog:X'.prog=X.prog
 w:X'.w=X.w
 K:X'.K=X.K
 mg:X'.mg=X.mg
 base:X'.base=X.base
 A:X'.A=X.A
 calm:X'.calm=X.calm
 N:X'.N=N
 scope:X'.env.scope=relabel sc X.env
 xe:X'.xe=fun _ _=>False
 fn:∀ x,sc.names.lookup x=some .cell->X'.fn x=true
def ocl (X:Cx) (sc:Scope) (C:Addr):List (Str×Addr):=cellsFrom (C+1) sc.names (clo X.env sc.names [])
def vO (X:Cx) (N:List Str) (sc:Scope) (C:Addr) (s2:Shared) (H2:Hp) (fp:List Addr) (pins:List (Addr×Obj)) (xe:Value->Shared->Prop):Cx where
 prog:=X.prog
 w:=X.w
 K:=X.K
 mg:=X.mg
 base:=X.base
 A:=X.A
 N:=N
 s₀:=s2
 H₀:=H2
 env:=compEnvC sc (ocl X sc C) C X.env
 outer:=X.stack
 stack:=X.stack
 ex:=fp
 fn:=fun x=>sc.names.lookup x==some .cell
 calm:=X.calm
 pn:=X.pn++pins
 xe:=xe
theorem zdH (X:Cx) (N:List Str) (sc:Scope) (C:Addr) (s2:Shared) (H2:Hp) (fp:List Addr) (pins:List (Addr×Obj)) (xe:Value->Shared->Prop):IsBlock X N sc (vO X N sc C s2 H2 fp pins xe).nox :=
 ⟨rfl,rfl,rfl,rfl,rfl,rfl,rfl,rfl,rfl,rfl,fun x h=>by show (sc.names.lookup x==some .cell)=true;rw[h];rfl⟩
structure BlkSc (X:Cx) (sc:Scope):Prop where
 kind:sc.kind=.function
 cells:∀ x,(x,NameKind.cell)∈sc.names->sc.names.lookup x=some .cell
 frees:∀ x,(x,NameKind.free)∈sc.names->sc.names.lookup x=some .free
 free:∀ x,(x,NameKind.free)∈sc.names->X.env.kindOf x=some .cell\/X.env.kindOf x=some .free
 names:∀ y∈sc.names,y.2=.local->sc.names.lookup y.1=some .local
section
variable {X:Cx} {pins:List (Addr×Obj)} {σ:St} {H2:Hp} {s2:Shared} {sc:Scope} {N:List Str} {C:Addr} {fp:List Addr} {xe:Value->Shared->Prop}
theorem sI (ok:X.Ok) (B:BlkSc X sc) {x:Str} {c:Addr} (h:(clo X.env sc.names []).lookup x=some c):X.env.cells.lookup x=some c/\sc.names.lookup x=some .free:=by
 rcases zcc _ _ _ h with ⟨⟨k,m,e⟩,q⟩|h
 .subst e;have hf:=B.free x m;obtain ⟨c',hc'⟩:=ok.has x hf;rw[hc'] at q;exact ⟨by rw[hc',q];rfl,B.frees x m⟩
 .simp at h
theorem tB (ok:X.Ok) (B:BlkSc X sc) {x:Str} {c:Addr} (h:(ocl X sc C).lookup x=some c):(X.env.cells.lookup x=some c/\sc.names.lookup x=some .free)\/(sc.names.lookup x=some .cell/\C<c):=by
 rcases zcf _ _ _ h with h|⟨h,q⟩
 .exact .inl (sI ok B h)
 .exact .inr ⟨B.cells x h,q⟩
theorem B_has (B:BlkSc X sc) {x:Str} (h:(relabel sc X.env).names.lookup x=some .cell\/(relabel sc X.env).names.lookup x=some .free):(x,NameKind.free)∈sc.names\/(x,NameKind.cell)∈sc.names:=by
 rcases h with h|h
 .obtain ⟨k,hk,e⟩:=wB h;rcases e with e|⟨e,_⟩
  .subst e;exact .inr (kB hk)
  .subst e;exact .inl (kB hk)
 .obtain ⟨k,hk,e⟩:=wB h;rcases e with e|⟨e,z⟩
  .subst e;exact .inl (kB hk)
  .cases z
theorem zeG {x:Str} (h:(x,NameKind.free)∈sc.names\/(x,NameKind.cell)∈sc.names):∃ c,(ocl X sc C).lookup x=some c:=by
 rcases h with h|h
 .exact zc7 _ _ _ (zcd _ _ _ h)
 .exact zfA _ _ _ h
theorem zfB (I2:Inv X pins σ H2 s2) {x:Str} {c:Addr} (h:X.env.cells.lookup x=some c):c<s2.heap.objs.size:=by
 obtain ⟨v,o,e,_⟩:=I2.cell x c h;exact Zi e
theorem zaB (I2:Inv X pins σ H2 s2) (B:BlkSc X sc) (f2:∀ b∈fp,uB X pins H2 b) (hfp:∀ b∈fp,b<s2.heap.objs.size) (hC:s2.heap.objs.size<=C):(vO X N sc C s2 H2 fp pins xe).Ok where
 mod:=I2.ok.mod
 kind:=B.kind
 glob:=I2.ok.glob
 blt:=I2.ok.blt
 above:=hC
 inj:=zfz _ _ _ ⟨fun x c h=>Za6 (Zm (zfB I2 (sI I2.ok B h).1) hC),fun x y c hx hy=>I2.ok.inj x y c (sI I2.ok B hx).1 (sI I2.ok B hy).1⟩
 has:=fun x h=>zeG (B_has B h)
 cab:=fun x c h e=>by
  rcases tB I2.ok B e with ⟨_,q⟩|⟨_,q⟩
  .have h:(sc.names.lookup x==some .cell)=true:=h;rw[q] at h;cases h
  .exact Ze hC (Zbf q)
 hd:=I2.ok.hd
 frames:=I2.ok.frames
 stk:=.inl rfl
 exf:=fun b hb=>⟨Zr (Zm (hfp b hb) hC),fun x c h=>by
  rcases tB I2.ok B h with ⟨q,_⟩|⟨_,q⟩
  .exact (f2 b hb).2.2.2.2.1 x c q
  .exact Zad (Nat.lt_trans (Zm (hfp b hb) hC) q)⟩
 bs:=I2.bs
 bsz:=Ze I2.ok.bsz I2.sz
 noex:=fun b o e hb=>by
  rcases (f2 b hb).2.2.2.1 with h|h
  .exact I2.ok.noex b o e h
  .exact absurd (Zm (Zi e) (Ze I2.ok.bsz h)) (Z7 _)
 exfs:=fun b hb hm=>by
  rcases Zd.mp (I2.stkSub b hm) with h|h
  .exact (f2 b hb).2.1 h
  .exact (f2 b hb).2.2.1 h
 funs:=I2.stack
 frf:=I2.stkFree
theorem zfE {s4:Shared} {τ:St} {m:Str->Option Value} (I2:Inv X pins σ H2 s2) (B:BlkSc X sc) (f2:∀ b∈fp,uB X pins H2 b) (hfp:∀ b∈fp,b<s2.heap.objs.size) (hC:s2.heap.objs.size<=C)
  (ho:s4.os=s2.os) (hg:s4.gens=s2.gens) (keep:∀ b o,s2.heap.get? b=some o->s4.heap.get? b=some o) (hcs:∀ x c,(ocl X sc C).lookup x=some c->∃ v,s4.heap.IsCell c v) (hns:s4.heap.Ns C m) (hl:τ.length=N.length)
  (cap:∀ (i:Nat) (x:Str) (v:V),N[i]?=some x->τ[i]?=some (some v)->Vis (relabel sc X.env) x->sc.names.lookup x=some .free/\∃ j:Nat,X.N[j]?=some x/\σ[j]?=some (some v)) (h4:0<s4.toks) :
  Inv (vO X N sc C s2 H2 fp pins xe) [] τ H2 s4:=by
 refine ⟨zaB I2 B f2 hfp hC,ho,by rw[hg];exact I2.bare,Un.kept keep,⟨m,hns,fun i x v hN hτ hv=>?_⟩,hcs,I2.hok.fresh hC,fun x c h=>?_,fun p hp=>?_,I2.hok.kept keep,hl,h4⟩
 .obtain ⟨hnl,j,hj,hσ⟩:=cap i x v hN hτ hv;have hmem:=kB hnl;have hf:=B.free x hmem
  have hkind:(relabel sc X.env).names.lookup x=some .cell\/(relabel sc X.env).names.lookup x=some .free:=by
   rcases hv with h|h|h
   .obtain ⟨k,hk,e⟩:=wB h;rw[hnl] at hk;cases hk;rcases e with e|⟨_,e⟩<;>cases e
   .exact .inl h
   .exact .inr h
  obtain ⟨m0,_,hl0⟩:=I2.loc;obtain ⟨u,r,lk⟩:=hl0 j x v hj hσ (hf.elim (fun h=>.inr (.inl h)) fun h=>.inr (.inr h));refine ⟨u,r,.inr ⟨hkind,?_⟩⟩;rcases lk with ⟨hk,_⟩|⟨_,c,hc,hcell⟩
  .rw[hk] at hf;rcases hf with hf|hf<;>cases hf
  .obtain ⟨c',hc'⟩:=zeG (X:=X) (C:=C) (.inl hmem);rcases tB I2.ok B hc' with ⟨e,_⟩|⟨e,_⟩
   .rw[hc] at e;cases e;refine ⟨c,hc',?_⟩;obtain ⟨o,e1,r1⟩:=hcell;exact ⟨o,keep _ _ e1,r1⟩
   .rw[hnl] at e;cases e
 .rcases tB I2.ok B h with ⟨e,_⟩|⟨_,e⟩
  .exact I2.freeC x c e
  .exact I2.hok.fresh (Ze hC (Zbf e))
 .have hp':p∈X.pn++pins:=by simpa[vO] using hp
  obtain ⟨q1,q2,q3,q4,q5⟩:=I2.pin p hp';refine ⟨keep _ _ q1,q2,Zr (Zm (Zi q1) hC),fun z=>?_,q5⟩;rcases Zd.mp (I2.stkSub _ z) with h|h
  .exact q3 h
  .exact q4 h
end
theorem rT.adopt {P:Program} {w:World} {H:Hp} {h h':Heap} {a:Addr} {o:HO} (x:rT P w H h) (k:∀ b u v,H b=some v->h.get? b=some u->h'.get? b=some u) (hn:H a=none) (new:xD P w (xC H a o) h' a o):rT P w (xC H a o) h':=fun b u e=>by
 by_cases hb:b=a
 .subst hb;rw[wN] at e;cases e;exact new
 .rw[yU hb] at e;refine (x b u e).stay (fun c v hc q=>?_) (fun c q=>by rw[yU (yN q hn)];exact q) fun c xs q=>by rw[yU (yN q hn)];exact q
  rcases hc with rfl|hc
  .exact k _ _ _ e q
  .exact k _ _ _ hc q
end L2
namespace L2
open PySem PySem.Spec PyProof.Rows PySem.Calls
def PTs (X:Cx) (ifs:List Expr) (t:TT):Prop :=
 ∀ (pins:List (Addr×Obj)) (s:Shared) (σ:St) (H:Hp) (Q:Bool->Hp->Prop),Inv X pins σ H s->t σ H Q ->
  wpAny (model X.prog X.w) X.A (forIn ifs true fun c r=>if r=true then do let ok ← isTrue c X.env (eval c X.env);pure (ForInStep.yield ok) else pure (ForInStep.yield r)) (TP X pins σ Q) X.xe s
theorem ziJ {X:Cx}:PTs X [] (fun _ H Q=>Q true H):=fun _ _ _ H _ I h=>wpAny_tests_nil ⟨H,I,h⟩
theorem ziI {X:Cx} {c:Expr} {t:TT} (h:PT X c t):PTs X [c] t:=fun pins s σ H Q I q=>wpAny_tests_one (h pins s σ H Q I q)
def tLCb (J:It) (τ:St) (g:TG) (tc:TT) (te:TE) (Qf:List V->Hp->Prop) (H1:Hp):Prop :=
 ∃ Pv:Nat->Nat->St->List V->Hp->Prop,(∃ m,Pv 0 m τ [] H1)/\∀ i m τ acc H,Pv i m τ acc H ->
  (J.stop i H/\Qf acc H) \/
  (J.go i H/\acc.length<sizeLine/\∀ x H',J.yld i H x H'->g x τ H' fun σ2 H2=>tc σ2 H2 fun b H3=>if b=true then te σ2 H3 fun v H4=>∃ m',m' < m/\Pv (i+1) m' σ2 (acc++[v]) H4 else ∃ m',m' < m/\Pv (i+1) m' σ2 acc H3)
structure Off (X:Cx) (pins:List (Addr×Obj)) (C:Addr):Prop where
 ne:C≠X.env.locals
 ge:X.s₀.heap.objs.size<=C
 cl:∀ x c,X.env.cells.lookup x=some c->c≠C
 pn:∀ p∈X.pn++pins,p.1≠C
theorem Off.turned {X:Cx} {pins:List (Addr×Obj)} {C:Addr} {σ:St} {H:Hp} {s:Shared} {h':Heap} (o:Off X pins C) (I:Inv X pins σ H s) (hn:H C=none) (k:Heap.SameBut C s.heap h'):Inv X pins σ H { s with heap:=h' } :=
 I.turned (t':=s.toks) (fun b u hb e=>k.extBut b u hb e) hn o.ne (.inr o.ge) o.cl o.pn
theorem Inv.off {X:Cx} {pins:List (Addr×Obj)} {σ:St} {H:Hp} {s:Shared} {C:Addr} (I:Inv X pins σ H s) (hC:s.heap.objs.size<=C):Off X pins C :=
 ⟨(Zr (Zm I.lt hC)).symm,Ze I.sz hC,fun x c h=>by
  obtain ⟨v,o,e,_⟩:=I.cell x c h;exact Zr (Zm (Zi e) hC),fun p hp=>Zr (Zm (Zi (I.pin p hp).1) hC)⟩
abbrev uN (its:List Value) (n:Nat):Obj:={ cls:=.type "list", data:=.seq its.toArray n }
set_option maxHeartbeats 8000000 in
theorem zeX {X:Cx} {pins:List (Addr×Obj)} {σ τ:St} {H2:Hp} {s2:Shared} {sc:Scope} {N:List Str} {fp:List Addr} {it:Addr} {tn:Nat->Heap->Prop} {J:It} {tg iter elt:Expr} {ifs:List Expr} {pos:Pos} {g:TG} {tc:TT} {te:TE}
  {Qf:List V->Hp->Prop} {RR:Value->Addr->Result->Shared->Prop} {E:Value->Shared->Prop}
  (hc:X.calm=true) (I2:Inv X pins σ H2 s2) (T:Turn X.prog X.w X.K tg J fp it tn) (t0:tn 0 s2.heap) (f2:∀ b∈fp,uB X pins H2 b) (B:BlkSc X sc) (hl:τ.length=N.length)
  (cap:∀ (i:Nat) (x:Str) (v:V),N[i]?=some x->τ[i]?=some (some v)->Vis (relabel sc X.env) x->sc.names.lookup x=some .free/\∃ j:Nat,X.N[j]?=some x/\σ[j]?=some (some v))
  (hg:∀ X',IsBlock X N sc X'->PG X' tg g) (ht:∀ X',IsBlock X N sc X'->PTs X' ifs tc) {PX:Cx->Prop} (hpx:∀ D C,s2.heap.objs.size<=C->PX (vO X N sc C s2 H2 fp pins (notedBy (model X.prog X.w) X.A (compEnvC sc (ocl X sc C) C X.env) fun e s'=>RR (.ref D) C (.error e) s'))) (he:∀ X',IsBlock X N sc X'.nox->PX X'->PE X' elt te)
  (h:tLCb J τ g tc te Qf H2)
  (fin:∀ (D C:Addr) (acc:List V) (H':Hp) (s':Shared) (m:Str->Option Value),D≠C->H' D=none->H' C=none->Off X pins C->Inv X pins σ (xC H' D (.lst acc)) s'->s'.heap.Ns C m->Qf acc H'->RR (.ref D) C (.ok .next) s') :
  wpAny (model X.prog X.w) X.A (newList []) (fun acc s₃=>wpAny (model X.prog X.w) X.A (newFunctionEnv sc X.env.globals (clo X.env sc.names []) [] X.env.qual none .none (some X.env)) (fun cenv s₄ =>
   codeAny (model X.prog X.w) X.A (.compStart (.ListComp elt [⟨tg,iter,ifs,0⟩] sc pos) 0 (.ref it) acc { cenv with scope:=relabel sc X.env }) (RR acc cenv.locals) s₄) E s₃) E s2:=by
 refine Zaf (nfe fun h₁ heq hns₁ hk₁=>?_);dsimp only at heq hns₁ hk₁ ⊢;generalize hH2:s2.heap.push { cls:=.type "list", dict:=none,data:=.seq ([]:List Value).toArray }=G2 at heq hns₁ hk₁ ⊢
 have hcs:∀ x c,(ocl X sc G2.objs.size).lookup x=some c->∃ v,h₁.IsCell c v:=fun x c e=>by
  rw[heq];refine zcg sc.names (G2.push { cls:=.type "dict", data:=.dict #[] }) (clo X.env sc.names []) (fun y d q=>?_) x c (by rw[ZJ];exact e);obtain ⟨v,o,ho,hd⟩:=I2.cell y d (sI I2.ok B q).1;exact ⟨v,o,Za _ (hH2▸Za _ ho),hd⟩
 have hC:G2.objs.size=s2.heap.objs.size+1:=by rw[← hH2,ZJ]
 have hDC:s2.heap.objs.size≠G2.objs.size:=by rw[hC];exact Zr (Zbj _)
 have hCle:s2.heap.objs.size<=G2.objs.size:=by rw[hC];exact Nat.le_succ _
 have below:∀ b,b<s2.heap.objs.size->b≠G2.objs.size/\b≠s2.heap.objs.size:=fun b hb=>⟨by rw[hC];exact Zr (Za6 hb),Zr hb⟩
 have hfp:∀ b∈fp,b<s2.heap.objs.size:=fun b hb=>by
  obtain ⟨o,e,_⟩:=T.obj _ _ t0 b hb;exact Zi e
 have hDf:∀ b∈fp,b≠s2.heap.objs.size:=fun b hb=>(below b (hfp b hb)).2;have hCf:∀ b∈fp,b≠G2.objs.size:=fun b hb=>(below b (hfp b hb)).1;have old:∀ b o,s2.heap.get? b=some o->h₁.get? b=some o:=fun b o e=>hk₁ b o (hH2▸Za _ e);have hacc:h₁.get? s2.heap.objs.size=some (uN [] 0):=hk₁ _ _ (hH2▸Zk _ rfl)
 have fresh:∀ a,s2.heap.objs.size<=a->s2.heap.get? a=none:=fun a ha=>by
  cases e:s2.heap.get? a with
  |none=>rfl
  |some o'=>exact absurd (Zi e) (Nat.not_lt.mpr ha)
 have hsub:∀ b∈frs X.stack,b<s2.heap.objs.size:=fun b hb=>by
  obtain ⟨_,o,e,_⟩:=I2.stack.mem hb;exact Zi e
 obtain ⟨Pv,⟨m0,p0⟩,step⟩:=h;generalize hD:s2.heap.objs.size=D at *;generalize hCe:G2.objs.size=C at *;have hpx:=hpx D C hCle;have hXb:IsBlock X N sc (vO X N sc C s2 H2 fp pins (notedBy (model X.prog X.w) X.A (compEnvC sc (ocl X sc C) C X.env) fun e s'=>RR (.ref D) C (.error e) s')).nox:=zdH ..;generalize hXd:vO X N sc C s2 H2 fp pins (notedBy (model X.prog X.w) X.A (compEnvC sc (ocl X sc C) C X.env) fun e s'=>RR (.ref D) C (.error e) s')=X' at hXb hpx;have exe:X'.xe=notedBy (model X.prog X.w) X.A (compEnvC sc (ocl X sc C) C X.env) fun e s'=>RR (.ref D) C (.error e) s':=by rw[← hXd];rfl
 have J0:Inv X' [] τ H2 { s2 with heap:=h₁ }:=by
  rw[← hXd];exact zfE (s4:={ s2 with heap:=h₁ }) I2 B f2 (by rw[hD];exact hfp) (by rw[hD];exact hCle) rfl rfl old hcs hns₁ hl cap I2.tk
 have offD:Off X' [] D:=by
  rw[← hXd];refine ⟨hDC,by show s2.heap.objs.size<=D;rw[hD];exact zzR _,fun x c hx=>?_,fun p hp=>?_⟩
  .rcases tB I2.ok B hx with ⟨q,_⟩|⟨_,q⟩
   .have:=zfB I2 q;rw[hD] at this;exact Zr this
   .exact Zad (Z8 hCle q)
  .have hp':p∈X.pn++pins:=by simpa[vO] using hp
   have:=Zi (I2.pin p hp').1;rw[hD] at this;exact Zr this
 have offC:Off X pins C:=I2.off (by rw[hD];exact hCle)
 have fpok:∀ {H':Hp} {ob:Obj},(∀ b∈fp,H' b=none)->∀ b∈fp,uB X' [(D,ob)] H' b:=fun {H' ob} hn b hb=>by
  rw[← hXd];refine ⟨hn b hb,hCf b hb,fun z=>(zaB (N:=N) I2 B f2 (by rw[hD];exact hfp) (by rw[hD];exact hCle)).exfs b hb z,.inl hb,fun x c hx=>(zaB (N:=N) I2 B f2 (by rw[hD];exact hfp) (by rw[hD];exact hCle)).exf b hb |>.2 x c hx,fun p hp=>?_⟩;rcases ZD.mp hp with hp|hp
  .exact (f2 b hb).2.2.2.2.2 p hp
  .rw[zzO hp];exact (hDf b hb).symm
 have Dfs:D∉X'.fs:=by
  rw[← hXd];intro z;exact Z7 _ (hsub D z)
 have pinD:∀ {H':Hp} {τ':St} {s':Shared} {its:List Value} {n:Nat},Inv X' [] τ' H' s'->H' D=none->s'.heap.get? D=some (uN its n)->Inv X' [(D,uN its n)] τ' H' s':=fun {H' τ' s' its n} I hn e =>
  I.pins_of fun p hp=>by
   rw[zzO hp];exact ⟨e,hn,by rw[← hXd];exact hDC,Dfs,fun v z=>nomatch z⟩
 have loop:∀ s₃:Shared,s₃={ s2 with heap:=h₁ } ->
   codeAny (model X.prog X.w) X.A (.compLoop (.ListComp elt [⟨tg,iter,ifs,0⟩] sc pos) 0 (.ref it) (.ref D) (compEnvC sc (ocl X sc C) C X.env)) (RR (.ref D) C) s₃:=by
  rintro s₃ rfl;have tn0:tn 0 h₁:=T.keep _ _ _ t0 fun b _ o e=>old b o e;have fr0:∀ b∈fp,H2 b=none:=fun b hb=>(f2 b hb).1;have Df0:H2 D=none:=I2.hok.fresh (by rw[hD];exact zzR _);have eX:X'.env=compEnvC sc (ocl X sc C) C X.env:=by rw[← hXd];rfl
  have ep:X'.prog=X.prog:=hXb.prog;have ew:X'.w=X.w:=hXb.w;have eA:X'.A=X.A:=hXb.A;refine zbp (fun k s'=>∃ i τ' acc H' its n,Inv X' [] τ' H' s'/\tn i s'.heap/\(∀ b∈fp,H' b=none)/\H' D=none/\s'.heap.get? D=some (uN its n)/\yZ acc its/\acc.length<=sizeLine/\Pv i k τ' acc H') ?_ m0 ⟨0,τ,[],H2,[],0,J0,tn0,fr0,Df0,hacc,.nil,ZS _,p0⟩;rintro k s3 ⟨i,τ3,acc,H3,its,n,I3,st3,fr3,D3,o3,v3,lenA,p3⟩;have I3':=pinD I3 D3 o3;rcases step i k τ3 acc H3 p3 with ⟨stop,qf⟩|⟨go,hsz,turn⟩
  .have td:=T.done X' ep ew hXb.K (by rw[hXb.calm];exact hc) i _ s3 τ3 H3 (fun _ _=>False) I3' (fpok fr3) st3 stop;rw[eA] at td;refine xY td fun r s4 ⟨hr,I4⟩=>?_;subst hr;have o4:=(I4.pin (D,uN its n) (Zt _ (Z1.mpr rfl))).1;obtain ⟨m4,hn4,_⟩:=I4.loc;rw[eX] at hn4;refine fin D C acc H3 s4 m4 hDC D3 ?_ offC ?_ hn4 qf
   .have:=I4.free;rw[eX] at this;exact this
   .have base:Un (frs X.stack) fp H2 H3 s2.heap s4.heap:=by have:=I4.base;rw[← hXd] at this;exact this
    have hb:∀ b o,s2.heap.get? b=some o->b≠D:=fun b o e=>by have:=Zi e;rw[hD] at this;exact Zr this
    refine I2.call' (ch:=fp) (by have:=I4.os;rw[← hXd] at this;exact this) ⟨base.keep,base.slot,fun b o e n' hx=>?_,base.there,fun b xs e=>?_,fun b o u e=>?_,fun b ps e=>?_⟩ ?_ I4.bare ?_ I4.tk
    .rw[yU (hb b o e)];exact base.free b o e n' hx
    .rw[yU (yN (base.tups b xs e) D3)];exact base.tups b xs e
    .rw[yU (yN (base.frzs b o u e) D3)];exact base.frzs b o u e
    .obtain ⟨mo,e'⟩:=base.tbls b ps e;exact ⟨mo,by rw[yU (yN e' D3)];exact e'⟩
    .have hk:=I4.hok;rw[ep,ew] at hk;exact hk.adopt (fun b u v _ q=>q) D3 ⟨lenA,its,n,v3,o4⟩
    .intro b hb';obtain ⟨q1,q2,q3,q4,q5,q6⟩:=f2 b hb';exact ⟨q4,q2,q5,q6⟩
  .have td:=T.item X' ep ew hXb.K (by rw[hXb.calm];exact hc) i _ s3 τ3 H3 (fun _ _=>False) I3' (fpok fr3) st3 go;rw[eA] at td;refine xY td fun r s4 ⟨u,hr,h4⟩=>?_;subst hr;refine xY h4 fun _ s5 ⟨x,H5,I5,r5,y5,st5,fr5⟩=>?_;have I5':=I5.pinned (fpok fr5) (T.obj _ _ st5);have q1:=hg X'.nox hXb _ s5 τ3 H5 x u _ (I5'.wish _) r5 (turn x H5 y5);rw[show X'.nox.prog=X.prog from ep,show X'.nox.w=X.w from ew,show X'.nox.A=X.A from eA,show X'.nox.env=_ from eX,hXb.xe] at q1;refine xY q1 fun _ s6 ⟨σ6,H6,I6,q6⟩=>?_;have q2:=ht X'.nox hXb _ s6 σ6 H6 _ I6 q6;rw[show X'.nox.prog=X.prog from ep,show X'.nox.w=X.w from ew,show X'.nox.A=X.A from eA,show X'.nox.env=_ from eX,hXb.xe] at q2;refine xY q2 fun b s7 ⟨H7,I7n,q7⟩=>?_;have I7:=I7n.unwish
   have back:∀ {H8:Hp} {s8:Shared},Inv X' ([(D,uN its n)]++mL fp s5.heap) σ6 H8 s8->Inv X' [] σ6 H8 s8/\tn (i+1) s8.heap/\(∀ b∈fp,H8 b=none)/\H8 D=none/\s8.heap.get? D=some (uN its n):=fun {H8 s8} I8=>by
    have pp:∀ p,p∈[(D,uN its n)]++mL fp s5.heap->_:=fun p hp=>I8.pin p (Zt _ hp);refine ⟨I8.pins_of (pins':=[]) (fun p hp=>nomatch hp),T.keep _ _ _ st5 fun b hb o e=>(pp (b,o) (Zt _ (uR hb e))).1,fun b hb=>?_,?_,?_⟩
    .obtain ⟨o,e,d⟩:=T.obj _ _ st5 b hb;exact (pp (b,o) (Zt _ (uR hb e))).2.1
    .exact (pp (D,uN its n) (Zar _ (Z1.mpr rfl))).2.1
    .exact (pp (D,uN its n) (Zar _ (Z1.mpr rfl))).1
   cases b with
   |false =>
    rw[if_neg (by decide)] at q7;rw[if_neg (by decide)];obtain ⟨m',hm,p'⟩:=q7;obtain ⟨b1,b2,b3,b4,b5⟩:=back I7;exact ⟨m',hm,i+1,σ6,acc,H7,its,n,b1,b2,b3,b4,b5,v3,lenA,p'⟩
   |true =>
    rw[if_pos rfl] at q7;rw[if_pos rfl];have q3:=he X' hXb hpx _ s7 σ6 H7 _ I7 q7;rw[ep,ew,eA,eX,exe] at q3;refine xY q3 fun y s8 ⟨v,H8,I8,r8,m',hm,p'⟩=>?_;obtain ⟨b1,b2,b3,b4,b5⟩:=back I8;refine append_at (hsz:=by show its.toArray.size<=sizeLine;rw[zzS,← v3.length];exact Zbf hsz) b5 fun h₅ hs₅ hD₅=>?_;refine ⟨m',hm,i+1,σ6,acc++[v],H8,its++[y],n+1,offD.turned b1 b4 hs₅,T.keep _ _ _ b2 fun b hb o e=>hs₅.extBut b o (hDf b hb) e,b3,b4,?_,v3.append (.cons r8 .nil),by rw[zzW];exact hsz,p'⟩;show h₅.get? D=_;rw[hD₅,List.push_toArray]
 exact codeAny_compStart_list (loop _ rfl) (T.self _ 0 _ _ _ (T.keep _ _ _ t0 fun b _ o e=>old b o e) (loop _ rfl))
def tLC (wi:TI) (cap:St->St) (g:TG) (tc:TT) (te:Hp->TE):TE:=fun σ H Q=>wi σ H fun J H1=>tLCb J (cap σ) g tc (te H) (fun acc H'=>∀ p,H' p=none->Q (.ref p) (xC H' p (.lst acc))) H1
section
variable {X:Cx} {sc:Scope} {N:List Str} {tg iter elt:Expr} {ifs:List Expr} {pos:Pos} {wi:TI} {g:TG} {tc:TT} {te:Hp->TE} {cap:St->St}
def Caps (X:Cx) (sc:Scope) (N:List Str) (cap:St->St):Prop:=∀ σ:St,σ.length=X.N.length->(cap σ).length=N.length /\
 ∀ (i:Nat) (x:Str) (v:V),N[i]?=some x->(cap σ)[i]?=some (some v)->Vis (relabel sc X.env) x->sc.names.lookup x=some .free/\∃ j:Nat,X.N[j]?=some x/\σ[j]?=some (some v)
theorem pe_lc (hc:X.calm=true) (hi:PI X tg iter wi) (B:BlkSc X sc) (hcap:Caps X sc N cap)
  (hg:∀ X',IsBlock X N sc X'->PG X' tg g) (ht:∀ X',IsBlock X N sc X'->PTs X' ifs tc) (he:∀ H X',IsBlock X N sc X'->PE X' elt (te H))
  (hs:∀ x,foldedSetIterable iter X.env x=pure x:=by intro _;rfl):PE X (.ListComp elt [⟨tg,iter,ifs,0⟩] sc pos) (tLC wi cap g tc te):=by
 intro pins s σ H Q I h;rw[eval_ListComp];refine wpAny_comprehension_free (use:=none) rfl hs (zaf fun x hx=>I.ok.has x (B.free x hx)) B.kind B.names (xY (hi pins s σ H _ I h) fun v s1 h1=>xY h1 fun itv s2 h2=>?_);obtain ⟨it,fp,tn,J,H2,e,I2,T,st2,f2,q⟩:=h2;subst e;obtain ⟨cl,cc⟩:=hcap σ I.len;refine zeX (RR:=fun acc C=>compPost (model X.prog X.w) X.A X.xe none (EP X pins σ Q) acc C) hc I2 T st2 f2 B cl cc hg ht (PX:=fun _=>True) (fun _ _ _=>trivial) (fun X' b _=>(he H X'.nox b).nox) q fun D C acc H' s' m hDC hD hC off I' hn qf=>?_;refine ⟨m,hn,fun h' hk=>⟨.ref D,_,off.turned I' (by rw[yU hDC.symm];exact hC) hk,rfl,qf D hD⟩⟩
theorem zgo {i:Nat} {y:Str} {py spos:Pos} (hc:X.calm=true) (hi:PI X tg iter wi) (B:BlkSc X sc) (hcap:Caps X sc N cap)
  (hg:∀ X',IsBlock X N sc X'->PG X' tg g) (ht:∀ X',IsBlock X N sc X'->PTs X' ifs tc) (he:∀ H X',IsBlock X N sc X'->PE X' elt (te H))
  (hN:X.N.Nodup) (hy:X.N[i]?=some y) (hx:Loc X.env.scope y) (hf:X.fn y=true\/X.env.scope.names.lookup y=some .local)
  (hsw:swapsWith (.ListComp elt [⟨tg,iter,ifs,0⟩] sc pos) (some (.Name y py)) spos.line X.env=pure true)
  (hs:∀ x,foldedSetIterable iter X.env x=pure x:=by intro _;rfl):PS X (.Assign [.Name y py] (.ListComp elt [⟨tg,iter,ifs,0⟩] sc pos) spos) (tAsg (tLC wi cap g tc te) (zg4 i)):=by
 intro pins s σ H D I h;rw[exec_Assign_Name_used _ _ _ _ hsw];refine Zb (Zbp (Zb ?_));show wpAny _ X.A (do let _ ← comprehension (.ListComp elt [⟨tg,iter,ifs,0⟩] sc pos) sc X.env _ (newList []) false (eval iter X.env) (some (assign (.Name y py) X.env))) _ _ s
 refine Zb (Zaa (wpAny_comprehension_free (use:=some (assign (.Name y py) X.env)) (Q:=fun _ s'=>SP X pins D .next s') rfl hs (zaf fun x hx=>I.ok.has x (B.free x hx)) B.kind B.names
  (xY (hi pins s σ H _ I h) fun v s1 h1=>xY h1 fun itv s2 h2=>?_)) (fun _ s' hq=>Zg (Zg hq)) fun _ _ e=>e)
 obtain ⟨it,fp,tn,J,H2,e,I2,T,st2,f2,q⟩:=h2;subst e;obtain ⟨cl,cc⟩:=hcap σ I.len;refine zeX (RR:=fun acc C=>compPost (model X.prog X.w) X.A X.xe (some (assign (.Name y py) X.env)) (fun _ s'=>SP X pins D .next s') acc C) hc I2 T st2 f2 B cl cc hg ht (PX:=fun _=>True) (fun _ _ _=>trivial) (fun X' b _=>(he H X'.nox b).nox) q fun D' C acc H' s' m hDC hD hC off I' hn qf=>?_;show wpAny _ X.A (assign (.Name y py) X.env (.ref D')) _ _ _;refine wpAny_assign_Name (zaJ I' hN hy hx (v:=.ref D') rfl (fun s'' I'' hsm=>?_) hf);obtain ⟨a,hsb,ha⟩:=hsm
 have hCa:C≠a:=by
  rcases ha with ha|ha
  .rw[ha];exact off.ne
  .exact (off.cl y a ha).symm
 refine ⟨m,hn.sameBut hsb hCa,fun h' hk=>⟨_,_,off.turned I'' (by rw[yU hDC.symm];exact hC) hk,qf D' hD⟩⟩
end
end L2
namespace L3
open PySem PySem.Spec PyProof.Rows L2 PySem.SeqAt
mutual
def kY:W->W->Bool
 | .non,.non=>true
 | .bl a,.bl b=>a==b
 | .bl a,.int j=>(if a then 1 else 0)==j
 | .int i,.bl b=>i==(if b then 1 else 0)
 | .int i,.int j=>i==j
 | .str x,.str y=>x==y
 | .tup xs,.tup ys=>uL xs ys
 |_,_=>false
def uL:List W->List W->Bool
 | [],[]=>true
 |x::xs,y::ys=>kY x y&&uL xs ys
 |_,_=>false
end
mutual
def pur:W->Bool
 | .ref _=>false
 | .ty _=>false
 | .lsf _=>false
 | .exc _ _ _=>false
 | .dcf _ _=>false
 | .tup ws=>wC ws
 |_=>true
def wC:List W->Bool
 | []=>true
 |w::ws=>pur w&&wC ws
end
mutual
def dep:W->Nat
 | .tup ws=>deps ws+1
 |_=>0
def deps:List W->Nat
 | []=>0
 |w::ws=>max (dep w) (deps ws)
end
theorem xR {w:W} {ws:List W}:wC (w::ws)=true↔pur w=true/\wC ws=true:=by simp[wC]
section
variable {X:Cx} {pins:List (Addr×Obj)} {σ:L2.St} {H:Hp} {s:Shared}
theorem W.ind {P:W->Prop} (non:P .non) (bl:∀ b,P (.bl b)) (int:∀ i,P (.int i)) (str:∀ x,P (.str x)) (ty:∀ n,P (.ty n)) (ref:∀ a,P (.ref a)) (tup:∀ ws,(∀ w∈ws,P w)->P (.tup ws)) (lsf:∀ ws,P (.lsf ws)) (exc:∀ C ns ws,P (.exc C ns ws)) (dcf:∀ ks ws,P (.dcf ks ws)):∀ w:W,P w:=fun w =>
 W.rec (motive_1:=P) (motive_2:=fun ws=>∀ w∈ws,P w) non bl int str ty ref (fun ws h=>tup ws h) (fun ws _=>lsf ws) (fun C ns ws _=>exc C ns ws) (fun ks ws _=>dcf ks ws) (fun _ h=>nomatch h) (fun w ws h hs v hv=>(Zd.mp hv).elim (fun e=>e▸h) (hs v)) w
theorem zcE {ws:List W} (h:wC ws=true):∀ w∈ws,pur w=true:=by
 induction ws with
 |nil=>intro w hw;cases hw
 |cons x xs ih =>
  intro w hw;have h':=xR.mp h;rcases Zd.mp hw with e|hw
  .rw[e];exact h'.1
  .exact ih h'.2 w hw
theorem zdC:∀ (ws:List W),(∀ w∈ws,pur w=true->kY w w=true)->wC ws=true->uL ws ws=true:=by
 intro ws
 induction ws with
 |nil=>intro _ _;simp[uL]
 |cons w ws ih =>
  intro h hp;have h':=xR.mp hp;simp only[uL,h w zzT h'.1,ih (fun z hz=>h z (Zc _ hz)) h'.2,Bool.and_self]
theorem zha {w:W}:pur w=true->kY w w=true:=by
 induction w using W.ind with
 |non=>intro _;simp[kY]
 |bl _=>intro _;simp[kY]
 |int _=>intro _;simp[kY]
 |str _=>intro _;simp[kY]
 |ty _=>intro h;cases h
 |lsf _=>intro h;cases h
 |exc _ _ _=>intro h;cases h
 |dcf _ _=>intro h;cases h
 |ref _=>intro h;cases h
 |tup ws ih=>intro h;exact zdC ws ih h
theorem za0 (I:Inv X pins σ H s):∀ (xs ys:List W) (vs:List V),(∀ x∈xs,∀ (y:W) (v:V),xT X.K H x v->xT X.K H y v->pur x=true->pur y=true->x=y)->zB X.K H xs vs->zB X.K H ys vs->wC xs=true->wC ys=true->xs=ys:=by
 intro xs
 induction xs with
 |nil =>
  intro ys vs _ h h' _ _
  cases ys with
  |nil=>rfl
  |cons y ys=>obtain ⟨_,_,e,_⟩:=h';rw[show _=[] from h] at e;cases e
 |cons x xs ih =>
  intro ys vs hx h h' px py;obtain ⟨v,r,e,q,t⟩:=h;subst e
  cases ys with
  |nil=>cases h'
  |cons y ys =>
   obtain ⟨v',r',e',q',t'⟩:=h';cases e';rw[hx x zzT y v q q' (xR.mp px).1 (xR.mp py).1,ih ys r (fun z hz=>hx z (Zc _ hz)) t t' (xR.mp px).2 (xR.mp py).2]
theorem zev (I:Inv X pins σ H s):∀ (x y:W) (v:V),xT X.K H x v->xT X.K H y v->pur x=true->pur y=true->x=y:=by
 intro x
 induction x using W.ind with
 |tup xs ih =>
  intro y v h h' hx hy;obtain ⟨a,vs,e,q,r⟩:=h;subst e
  cases y with
  |tup ys =>
   obtain ⟨b,us,e',q',r'⟩:=h';cases e';have:=I.tuple_inj q q';subst this;rw[za0 I xs ys vs ih r r' hx hy]
  |ref _=>cases hy
  |ty _=>cases hy
  |lsf _=>cases hy
  |exc _ _ _=>cases hy
  |dcf _ _=>cases hy
  |non=>cases h'
  |bl _=>cases h'
  |int _=>cases h'
  |str _=>cases h'
 |ty _=>intro y v _ _ hx;cases hx
 |lsf _=>intro y v _ _ hx;cases hx
 |exc _ _ _=>intro y v _ _ hx;cases hx
 |dcf _ _=>intro y v _ _ hx;cases hx
 |ref _=>intro y v _ _ hx;cases hx
 |non =>
  intro y v h h' _ hy;cases h
  cases y with
  |tup ys=>obtain ⟨_,_,e,_⟩:=h';cases e
  |ref _=>cases hy
  |ty _=>cases hy
  |lsf _=>cases hy
  |exc _ _ _=>cases hy
  |dcf _ _=>cases hy
  |non=>rfl
  |bl _=>cases h'
  |int _=>cases h'
  |str _=>cases h'
 |bl _ =>
  intro y v h h' _ hy;cases h
  cases y with
  |tup ys=>obtain ⟨_,_,e,_⟩:=h';cases e
  |ref _=>cases hy
  |ty _=>cases hy
  |lsf _=>cases hy
  |exc _ _ _=>cases hy
  |dcf _ _=>cases hy
  |non=>cases h'
  |bl _=>cases h';rfl
  |int _=>cases h'
  |str _=>cases h'
 |int _ =>
  intro y v h h' _ hy;cases h
  cases y with
  |tup ys=>obtain ⟨_,_,e,_⟩:=h';cases e
  |ref _=>cases hy
  |ty _=>cases hy
  |lsf _=>cases hy
  |exc _ _ _=>cases hy
  |dcf _ _=>cases hy
  |non=>cases h'
  |bl _=>cases h'
  |int _=>cases h';rfl
  |str _=>cases h'
 |str _ =>
  intro y v h h' _ hy;cases h
  cases y with
  |tup ys=>obtain ⟨_,_,e,_⟩:=h';cases e
  |ref _=>cases hy
  |ty _=>cases hy
  |lsf _=>cases hy
  |exc _ _ _=>cases hy
  |dcf _ _=>cases hy
  |non=>cases h'
  |bl _=>cases h'
  |int _=>cases h'
  |str _=>cases h';rfl
theorem zgi (I:Inv X pins σ H s) {xs ys:List W} {vs:List V} (h:zB X.K H xs vs) (h':zB X.K H ys vs) (hx:wC xs=true) (hy:wC ys=true):xs=ys :=
 za0 I xs ys vs (fun x _=>zev I x) h h' hx hy
def rR (xs ys:List W) (j:Nat):Bool:=match xs[j]?,ys[j]? with
 |some x,some y=>kY x y
 |_,_=>false
theorem nG:∀ xs ys:List W,((List.range (min xs.length ys.length)).all (rR xs ys)&&xs.length==ys.length)=uL xs ys
 | [],[]=>rfl
 | [],_::_=>by simp[uL]
 |_::_,[]=>by simp[uL]
 |x::xs,y::ys=>by
  have ih:=nG xs ys;simp only[Zf,Nat.add_min_add_right,uL];rw[List.range_succ_eq_map,ZaK,List.all_map];have h0:rR (x::xs) (y::ys) 0=kY x y:=rfl;have h1:(rR (x::xs) (y::ys) ∘ Nat.succ)=rR xs ys:=by funext j;simp[rR]
  rw[h0,h1,← ih,Bool.and_assoc];congr 2;simp
theorem zg9 {xs ys:List W} (h:xs.length≠ys.length):uL xs ys=false:=by
 rw[← nG];have:(xs.length==ys.length)=false:=by simpa using h
 rw[this,Zb0]
theorem zfm {xs ys:List W} (h:xs.length=ys.length):(List.range xs.length).all (rR xs ys)=uL xs ys:=by
 rw[← nG,h,ZbY];simp
theorem xW (I:Inv X pins σ H s) {ws:List W} {v:V} {u:Value} (h:xT X.K H (.tup ws) v) (r:yW v u):∃ a vs its,v=.ref a/\u=.ref a/\pR X.K H a vs/\zB X.K H ws vs/\yZ vs its/\s.heap.IsTuple a its.toArray/\ws.length<=sizeLine:=by
 obtain ⟨a,vs,rfl,q,rs⟩:=h;obtain ⟨its,vr,it,hl⟩:=I.tuple q;exact ⟨a,vs,its,rfl,r,q,rs,vr,it,by rw[← rs.length];exact hl⟩
theorem zc2 (I:Inv X pins σ H s):∀ (xs ys:List W) (vs vs':List V) (us us':List Value) (A:Around),(∀ x∈xs,∀ (y:W) (v v':V) (u u':Value) (A:Around),xT X.K H x v->yW v u->xT X.K H y v'->yW v' u'->pur x=true->pur y=true->A.units+min (dep x) (dep y)<cLine->EqAt A s u u' (kY x y)) ->
  zB X.K H xs vs->yZ vs us->zB X.K H ys vs'->yZ vs' us'->wC xs=true->wC ys=true ->
  A.units+min (deps xs) (deps ys)<cLine->∀ (j:Nat) (h1:j<us.length) (h2:j<us'.length),EqAt A s us[j] us'[j] (rR xs ys j):=by
 intro xs
 induction xs with
 |nil=>intro ys vs vs' us us' A _ h r _ _ _ _ _ j h1;rw[show _=[] from h] at r;cases r;exact absurd h1 (Nat.not_lt_zero _)
 |cons x xs ih =>
  intro ys vs vs' us us' A he h r h' r' hx hy hu j h1 h2
  cases ys with
  |nil=>rw[show _=[] from h'] at r';cases r';exact absurd h2 (Nat.not_lt_zero _)
  |cons y ys =>
   obtain ⟨v,t,e,h,hs⟩:=h;obtain ⟨v',t',e',h',hs'⟩:=h';subst e;subst e'
   cases r with
   |cons r rs =>
    cases r' with
    |cons r' rs' =>
     have px:=xR.mp hx;have py:=xR.mp hy;simp only[deps] at hu
     cases j with
     |zero=>exact he x zzT y _ _ _ _ A h r h' r' px.1 py.1 (by omega)
     |succ j=>exact ih ys _ _ _ _ A (fun z hz=>he z (Zc _ hz)) hs rs hs' rs' px.2 py.2 (by omega) j (Nat.lt_of_succ_lt_succ h1) (Nat.lt_of_succ_lt_succ h2)
theorem zfo (I:Inv X pins σ H s):∀ (x y:W) (v v':V) (u u':Value) (A:Around),xT X.K H x v->yW v u->xT X.K H y v'->yW v' u'->pur x=true->pur y=true->A.units+min (dep x) (dep y)<cLine->EqAt A s u u' (kY x y):=by
 intro x
 induction x using W.ind with
 |tup xs ih =>
  intro y v v' u u' A h r h' r' hx hy hu;obtain ⟨a,vs,its,rfl,rfl,q,rs,vr,it,_⟩:=xW I h r
  cases y with
  |tup ys =>
   obtain ⟨b,us,its',rfl,rfl,q',rs',vr',it',_⟩:=xW I h' r'
   by_cases e:a=b
   .subst e;have:=I.tuple_inj q q';subst this;have:=zgi I rs rs' hx hy;subst this;rw[show kY (.tup xs) (.tup xs)=true from zha (w:=.tup xs) hx];exact EqAt.same _
   .show EqAt A s _ _ (uL xs ys);rw[← nG];have l1:its.toArray.size=xs.length:=by rw[zzS,← vr.length,rs.length]
    have l2:its'.toArray.size=ys.length:=by rw[zzS,← vr'.length,rs'.length]
    rw[← l1,← l2];refine EqAt.of_refs e (RcAt.tuples it it' (by simp only[dep] at hu;omega) fun j j1 j2=>?_);exact zc2 I xs ys _ _ _ _ A.in1 ih rs vr rs' vr' hx hy (by simp only[dep] at hu;show A.units+1+_<_;omega) j (by simpa using j1) (by simpa using j2)
  |ref _=>cases hy
  |ty _=>cases hy
  |lsf _=>cases hy
  |exc _ _ _=>cases hy
  |dcf _ _=>cases hy
  |non=>cases h';cases r';exact EqAt.tuple_none it (by omega)
  |bl _=>cases h';cases r';exact EqAt.tuple_bool _ it (by omega)
  |int _=>cases h';obtain ⟨t,rfl⟩:=r';exact EqAt.tuple_int _ _ it (by omega)
  |str _=>cases h';obtain ⟨t,rfl⟩:=r';exact EqAt.tuple_str _ _ it (by omega)
 |ty _=>intro y v v' u u' A _ _ _ _ hx;cases hx
 |lsf _=>intro y v v' u u' A _ _ _ _ hx;cases hx
 |exc _ _ _=>intro y v v' u u' A _ _ _ _ hx;cases hx
 |dcf _ _=>intro y v v' u u' A _ _ _ _ hx;cases hx
 |ref _=>intro y v v' u u' A _ _ _ _ hx;cases hx
 |non =>
  intro y v v' u u' A h r h' r' hx hy hu;cases h;cases r
  cases y with
  |tup ys=>obtain ⟨b,us,its',rfl,rfl,q',rs',vr',it',_⟩:=xW I h' r';exact EqAt.none_tuple it' (by omega)
  |ref _=>cases hy
  |ty _=>cases hy
  |lsf _=>cases hy
  |exc _ _ _=>cases hy
  |dcf _ _=>cases hy
  |non=>cases h';cases r';exact EqAt.same _
  |bl _=>cases h';cases r';exact EqAt.none_bool _
  |int _=>cases h';obtain ⟨t,rfl⟩:=r';exact EqAt.none_int _ _
  |str _=>cases h';obtain ⟨t,rfl⟩:=r';exact EqAt.none_str _ _
 |bl _ =>
  intro y v v' u u' A h r h' r' hx hy hu;cases h;cases r
  cases y with
  |tup ys=>obtain ⟨b,us,its',rfl,rfl,q',rs',vr',it',_⟩:=xW I h' r';exact EqAt.bool_tuple _ it' (by omega)
  |ref _=>cases hy
  |ty _=>cases hy
  |lsf _=>cases hy
  |exc _ _ _=>cases hy
  |dcf _ _=>cases hy
  |non=>cases h';cases r';exact EqAt.bool_none _
  |bl _=>cases h';cases r';exact EqAt.bool_bool _ _
  |int _=>cases h';obtain ⟨t,rfl⟩:=r';exact EqAt.bool_int _ _ _
  |str _=>cases h';obtain ⟨t,rfl⟩:=r';exact EqAt.bool_str _ _ _
 |int _ =>
  intro y v v' u u' A h r h' r' hx hy hu;cases h;obtain ⟨t0,rfl⟩:=r
  cases y with
  |tup ys=>obtain ⟨b,us,its',rfl,rfl,q',rs',vr',it',_⟩:=xW I h' r';exact EqAt.int_tuple _ _ it' (by omega)
  |ref _=>cases hy
  |ty _=>cases hy
  |lsf _=>cases hy
  |exc _ _ _=>cases hy
  |dcf _ _=>cases hy
  |non=>cases h';cases r';exact EqAt.int_none _ _
  |bl _=>cases h';cases r';exact EqAt.int_bool _ _ _
  |int _=>cases h';obtain ⟨t,rfl⟩:=r';exact EqAt.int_int _ _ _ _
  |str _=>cases h';obtain ⟨t,rfl⟩:=r';exact EqAt.int_str _ _ _ _
 |str _ =>
  intro y v v' u u' A h r h' r' hx hy hu;cases h;obtain ⟨t0,rfl⟩:=r
  cases y with
  |tup ys=>obtain ⟨b,us,its',rfl,rfl,q',rs',vr',it',_⟩:=xW I h' r';exact EqAt.str_tuple _ _ it' (by omega)
  |ref _=>cases hy
  |ty _=>cases hy
  |lsf _=>cases hy
  |exc _ _ _=>cases hy
  |dcf _ _=>cases hy
  |non=>cases h';cases r';exact EqAt.str_none _ _
  |bl _=>cases h';cases r';exact EqAt.str_bool _ _ _
  |int _=>cases h';obtain ⟨t,rfl⟩:=r';exact EqAt.str_int _ _ _ _
  |str _=>cases h';obtain ⟨t,rfl⟩:=r';exact EqAt.str_str _ _ _ _
theorem zfn (I:Inv X pins σ H s) {xs ys:List W} {vs vs':List V} {us us':List Value} {A:Around} (h:zB X.K H xs vs) (r:yZ vs us) (h':zB X.K H ys vs') (r':yZ vs' us') (hx:wC xs=true) (hy:wC ys=true)
  (hu:A.units+min (deps xs) (deps ys)<cLine):∀ (j:Nat) (h1:j<us.length) (h2:j<us'.length),EqAt A s us[j] us'[j] (rR xs ys j) :=
 zc2 I xs ys _ _ _ _ A (fun x _=>zfo I x) h r h' r' hx hy hu
end
section
variable {X:Cx} {pins:List (Addr×Obj)} {σ:L2.St} {H:Hp} {s:Shared}
theorem zkN (I:Inv X pins σ H s) (x y:W) (v v':V) (u u':Value) (A:Around) (h:xT X.K H x v) (r:yW v u) (h':xT X.K H y v') (r':yW v' u') (hx:pur x=true) (hy:pur y=true) (hu:A.units+min (dep x) (dep y)<cLine):RcAt A s u u' (kY x y)/\RcNeAt A s u u' (!kY x y):=by
 have h0:A.units<cLine:=by omega
 cases x with
 |ref _=>cases hx
 |ty _=>cases hx
 |lsf _=>cases hx
 |exc _ _ _=>cases hx
 |dcf _ _=>cases hx
 |tup xs =>
  obtain ⟨a,vs,its,rfl,rfl,q,rs,vr,it,_⟩:=xW I h r
  cases y with
  |ref _=>cases hy
  |ty _=>cases hy
  |lsf _=>cases hy
  |exc _ _ _=>cases hy
  |dcf _ _=>cases hy
  |tup ys =>
   obtain ⟨b,us,its',rfl,rfl,q',rs',vr',it',_⟩:=xW I h' r';have l1:its.toArray.size=xs.length:=by rw[zzS,← vr.length,rs.length]
   have l2:its'.toArray.size=ys.length:=by rw[zzS,← vr'.length,rs'.length]
   have key:∀ (j:Nat) (j1:j<its.toArray.size) (j2:j<its'.toArray.size),EqAt A.in1 s its.toArray[j] its'.toArray[j] (rR xs ys j):=fun j j1 j2 =>
    zfn I rs vr rs' vr' hx hy (A:=A.in1) (by simp only[dep] at hu;show A.units+1+_<_;omega) j (by simpa using j1) (by simpa using j2)
   show RcAt A s _ _ (uL xs ys)/\RcNeAt A s _ _ (!uL xs ys);rw[← nG,← l1,← l2];exact ⟨RcAt.tuples it it' h0 key,RcNeAt.tuples it it' h0 key⟩
  |non=>cases h';cases r';exact ⟨RcAt.tuple_none it h0,RcNeAt.tuple_none it h0⟩
  |bl _=>cases h';cases r';exact ⟨RcAt.tuple_bool _ it h0,RcNeAt.tuple_bool _ it h0⟩
  |int _=>cases h';obtain ⟨t,rfl⟩:=r';exact ⟨RcAt.tuple_int _ _ it h0,RcNeAt.tuple_int _ _ it h0⟩
  |str _=>cases h';obtain ⟨t,rfl⟩:=r';exact ⟨RcAt.tuple_str _ _ it h0,RcNeAt.tuple_str _ _ it h0⟩
 |non =>
  cases h;cases r
  cases y with
  |ref _=>cases hy
  |ty _=>cases hy
  |lsf _=>cases hy
  |exc _ _ _=>cases hy
  |dcf _ _=>cases hy
  |tup ys=>obtain ⟨b,us,its',rfl,rfl,q',rs',vr',it',_⟩:=xW I h' r';exact ⟨RcAt.none_tuple it' h0,RcNeAt.none_tuple it' h0⟩
  |non=>cases h';cases r';exact ⟨RcAt.none_none,RcNeAt.none_none⟩
  |bl _=>cases h';cases r';exact ⟨RcAt.none_bool _,RcNeAt.none_bool _⟩
  |int _=>cases h';obtain ⟨t,rfl⟩:=r';exact ⟨RcAt.none_int _ _,RcNeAt.none_int _ _⟩
  |str _=>cases h';obtain ⟨t,rfl⟩:=r';exact ⟨RcAt.none_str _ _,RcNeAt.none_str _ _⟩
 |bl _ =>
  cases h;cases r
  cases y with
  |ref _=>cases hy
  |ty _=>cases hy
  |lsf _=>cases hy
  |exc _ _ _=>cases hy
  |dcf _ _=>cases hy
  |tup ys=>obtain ⟨b,us,its',rfl,rfl,q',rs',vr',it',_⟩:=xW I h' r';exact ⟨RcAt.bool_tuple _ it' h0,RcNeAt.bool_tuple _ it' h0⟩
  |non=>cases h';cases r';exact ⟨RcAt.bool_none _,RcNeAt.bool_none _⟩
  |bl _=>cases h';cases r';exact ⟨RcAt.bool_bool _ _,RcNeAt.bool_bool _ _⟩
  |int _=>cases h';obtain ⟨t,rfl⟩:=r';exact ⟨RcAt.bool_int _ _ _,RcNeAt.bool_int _ _ _⟩
  |str _=>cases h';obtain ⟨t,rfl⟩:=r';exact ⟨RcAt.bool_str _ _ _,RcNeAt.bool_str _ _ _⟩
 |int _ =>
  cases h;obtain ⟨t0,rfl⟩:=r
  cases y with
  |ref _=>cases hy
  |ty _=>cases hy
  |lsf _=>cases hy
  |exc _ _ _=>cases hy
  |dcf _ _=>cases hy
  |tup ys=>obtain ⟨b,us,its',rfl,rfl,q',rs',vr',it',_⟩:=xW I h' r';exact ⟨RcAt.int_tuple _ _ it' h0,RcNeAt.int_tuple _ _ it' h0⟩
  |non=>cases h';cases r';exact ⟨RcAt.int_none _ _,RcNeAt.int_none _ _⟩
  |bl _=>cases h';cases r';exact ⟨RcAt.int_bool _ _ _,RcNeAt.int_bool _ _ _⟩
  |int _=>cases h';obtain ⟨t,rfl⟩:=r';exact ⟨RcAt.int_int _ _ _ _,RcNeAt.int_int _ _ _ _⟩
  |str _=>cases h';obtain ⟨t,rfl⟩:=r';exact ⟨RcAt.int_str _ _ _ _,RcNeAt.int_str _ _ _ _⟩
 |str _ =>
  cases h;obtain ⟨t0,rfl⟩:=r
  cases y with
  |ref _=>cases hy
  |ty _=>cases hy
  |lsf _=>cases hy
  |exc _ _ _=>cases hy
  |dcf _ _=>cases hy
  |tup ys=>obtain ⟨b,us,its',rfl,rfl,q',rs',vr',it',_⟩:=xW I h' r';exact ⟨RcAt.str_tuple _ _ it' h0,RcNeAt.str_tuple _ _ it' h0⟩
  |non=>cases h';cases r';exact ⟨RcAt.str_none _ _,RcNeAt.str_none _ _⟩
  |bl _=>cases h';cases r';exact ⟨RcAt.str_bool _ _ _,RcNeAt.str_bool _ _ _⟩
  |int _=>cases h';obtain ⟨t,rfl⟩:=r';exact ⟨RcAt.str_int _ _ _ _,RcNeAt.str_int _ _ _ _⟩
  |str _=>cases h';obtain ⟨t,rfl⟩:=r';exact ⟨RcAt.str_str _ _ _ _,RcNeAt.str_str _ _ _ _⟩
theorem zeP (I:Inv X pins σ H s) {G:Hw} {p:Addr} {ws:List W} (ab:xP X.K H G) (e:yP G p=some ws):∃ vs its,mY X.K H p vs/\zB X.K H ws vs/\yZ vs its/\s.heap.IsList p its.toArray/\PlainL s.heap p its.toArray/\ws.length<=sizeLine:=by
 obtain ⟨vs,q,r⟩:=ab.seq e;obtain ⟨its,vr,pl,hl⟩:=I.list q;exact ⟨vs,its,q,r,vr,(let ⟨o,n,h1,h2,_,h3⟩:=pl;⟨o,h1,h2,n,h3⟩),pl,by rw[← r.length];exact hl⟩
theorem zkO (I:Inv X pins σ H s) {G:Hw} {p q:Addr} {xs ys:List W} {A:Around} (ab:xP X.K H G) (e:yP G p=some xs) (e':yP G q=some ys) (hx:wC xs=true) (hy:wC ys=true) (hu:A.units+1+min (deps xs) (deps ys)<cLine) :
  RcAt A s (.ref p) (.ref q) (uL xs ys)/\RcNeAt A s (.ref p) (.ref q) (!uL xs ys):=by
 obtain ⟨vs,its,_,rs,vr,il,_⟩:=zeP I ab e;obtain ⟨us,its',_,rs',vr',il',_⟩:=zeP I ab e';have h0:A.units<cLine:=by omega
 have l1:its.toArray.size=xs.length:=by rw[zzS,← vr.length,rs.length]
 have l2:its'.toArray.size=ys.length:=by rw[zzS,← vr'.length,rs'.length]
 have key:∀ (j:Nat) (j1:j<its.toArray.size) (j2:j<its'.toArray.size),EqAt A.in1 s its.toArray[j] its'.toArray[j] (rR xs ys j):=fun j j1 j2 =>
  zfn I rs vr rs' vr' hx hy (A:=A.in1) hu j (by simpa using j1) (by simpa using j2)
 by_cases hl:xs.length=ys.length
 .rw[← zfm hl,← l1];exact ⟨RcAt.lists il il' (by omega) h0 key,RcNeAt.lists il il' (by omega) h0 key⟩
 .rw[zg9 hl];have:(its.toArray.size != its'.toArray.size)=true:=by simp only[bne_iff_ne];omega
  exact ⟨RcAt.lists_lengths il il' this h0,RcNeAt.lists_lengths il il' this h0⟩
end
end L3
namespace PySem
open Sem (wp)
open Builtin
theorem zaH:fillsNumberSlot (.type "tuple") "mul" = pure false :=
 fillsNumberSlot_seq (id := "tuple.__mul__") (r:=some (.builtin "tuple.__rmul__")) Zbh.lookup (by decide +kernel) F.slot_tuple_rmul.lookup (by decide +kernel)
theorem zaG:seqRepeat? (.type "tuple")=pure (some (.builtin "tuple.__mul__")):=by
 unfold seqRepeat?;rw[seqSlot_of (T := "tuple") (name := "__mul__") (id := "tuple.__mul__") Zbh.lookup (by decide +kernel),seqSlot_of (T := "tuple") (name := "__rmul__") (id := "tuple.__rmul__") F.slot_tuple_rmul.lookup (by decide +kernel)];rfl
theorem zd0 (a:Int) (t:Tok) (l:Addr) (items:Array Value) (n:Nat) (dd:Option Addr) (sl:Array (Option Value)) :
  Meets (Builtin.«int.__rmul__» ⟨[.int a t,.ref l],[]⟩) (fun _ R s=>s.heap.get? l=some { cls:=.type "tuple", dict:=dd,data:=.seq items n,slots:=sl }/\R (.ok (.ret Value.notImplemented)) s) :=
 .of_wp fun prog w A R s h=>by obtain ⟨hp,g,d,tk,os⟩:=s;obtain ⟨hl,h⟩:=h;wp_walk;exact ⟨_,rfl,h⟩
theorem zke (l:Addr) (items:Array Value) (n:Nat) (u:Tok) (dd:Option Addr) (sl:Array (Option Value)) :
  Meets (Builtin.«tuple.__mul__» ⟨[.ref l,.int 1 u],[]⟩) (fun _ R s=>s.heap.get? l=some { cls:=.type "tuple", dict:=dd,data:=.seq items n,slots:=sl }/\R (.ok (.ret (Value.ref l))) s) :=
 .of_wp fun prog w A R s h=>by obtain ⟨hp,g,d,tk,os⟩:=s;obtain ⟨hl,h⟩:=h;wp_walk;exact ⟨_,rfl,h⟩
theorem zil (l:Addr) (items:Array Value) (n:Nat) (u:Tok) (dd:Option Addr) (sl:Array (Option Value)) (hi:items.isEmpty=false) :
  Meets (Builtin.«tuple.__mul__» ⟨[.ref l,.int 0 u],[]⟩) (fun _ R s=>s.heap.get? l=some { cls:=.type "tuple", dict:=dd,data:=.seq items n,slots:=sl }/\R (.ok (.ret (Value.ref s.heap.objs.size))) { s with heap:=s.heap.push { cls:=.type "tuple", data:=.seq #[] } }) :=
 .of_wp fun prog w A R s h=>by obtain ⟨hp,g,d,tk,os⟩:=s;obtain ⟨hl,h⟩:=h;wp_walk;exact ⟨_,rfl,h⟩
end PySem
namespace L3
open PySem PySem.Spec PyProof.Rows L2
section
variable {X:Cx}
def rRepT (K:yJ):R2:=fun x y H Q=>∃ a k xs,x=.ref a/\y=.int k/\pR K H a xs/\((k=1/\Q (.ref a) H)\/(k=0/\xs≠[]/\∀ p,H p=none->Q (.ref p) (xC H p (.tup []))))
theorem zi1:sF X (binaryOp .Mult) (rRepT X.K):=by
 intro pins s σ H x y v u Q I rx ry h;obtain ⟨a,k,xs,rfl,rfl,ha,h⟩:=h;cases rx;obtain ⟨t,rfl⟩:=ry;obtain ⟨its,r1,p1,_⟩:=I.tuple ha;obtain ⟨⟨cls,dd,data,sl⟩,ho,hc,n,hd⟩:=id p1;simp only at hc hd;subst hc hd;rcases h with ⟨rfl,q⟩|⟨rfl,hx,q⟩
 .exact ZaP (T := "tuple") (U := "int") (by decide) ⟨_,ho,rfl⟩ (fun s'=>Zbq s' 1 t) zaH ZbU ZaG zaG ZbP.lookup
   (Zae ZaG (Zbq s 1 t) ZbO (ZbH _ _) (zd0 1 t a its.toArray n dd sl)
    ⟨ho,rfl,⟨_,ho,rfl⟩,Zae Zbh ⟨_,ho,rfl⟩ F.entry_tuple_mul (F.args_tuple_mul_2 _ _) (zke a its.toArray n t dd sl) ⟨ho,.ref a,H,I,rfl,q⟩⟩)
 .have he:its.toArray.isEmpty=false:=by
   cases its with
   |nil=>exact absurd (r1.nil_iff.mp rfl) hx
   |cons _ _=>rfl
  refine ZaP (T := "tuple") (U := "int") (by decide) ⟨_,ho,rfl⟩ (fun s'=>Zbq s' 0 t) zaH ZbU ZaG zaG ZbP.lookup
   (Zae ZaG (Zbq s 0 t) ZbO (ZbH _ _) (zd0 0 t a its.toArray n dd sl)
    ⟨ho,rfl,⟨_,ho,rfl⟩,Zae Zbh ⟨_,ho,rfl⟩ F.entry_tuple_mul (F.args_tuple_mul_2 _ _) (zil a its.toArray n t dd sl he) ⟨ho,?_⟩⟩)
  refine ⟨.ref s.heap.objs.size,_,I.laid (t':=s.toks) (o:=.tup []) (fun b ob q=>Za _ q) (zzR _) ?_,rfl,q _ (I.hok.fresh (zzR _))⟩;exact ⟨ZS _,[],.nil,Zb3 _ _⟩
def rRepS:R2:=fun x y H Q=>∃ i k,x=.str i/\y=.int k/\((k=1/\Q (.str i) H)\/(k=0/\Q (.str Str.empty) H))
theorem zi2:sF X (binaryOp .Mult) rRepS:=by
 intro pins s σ H x y v u Q I rx ry h;obtain ⟨i,k,rfl,rfl,h⟩:=h;obtain ⟨t,rfl⟩:=rx;obtain ⟨t2,rfl⟩:=ry;rcases h with ⟨rfl,q⟩|⟨rfl,q⟩
 .refine PySem.P.mul_str (by decide) (fun _ z=>absurd z (by simp)) (fun _ z=>absurd z (by simp)) ?_;rw[if_neg (by decide),if_pos (by simp)];exact ⟨.str i,H,I,⟨t,rfl⟩,q⟩
 .exact PySem.P.mul_str_none (by decide) (by decide) ⟨.str Str.empty,H,I.tok _ (Za6 I.tk),⟨_,rfl⟩,q⟩
end
end L3
namespace L3
open PySem PySem.Spec PyProof.Rows L2 PySem.SeqAt
abbrev R3:=W->W->Hw->Q3->Prop
def uP (K:yJ) (H:Hp) (Q:VK):Q3:=fun w G'=>∀ v H',yK K H H'->xT K H' w v->xP K H' G'->Q v H'
def gB (r:R3):Prop:=∀ x y G (Q Q':Q3),(∀ w G',Q w G'->Q' w G')->r x y G Q->r x y G Q'
def low2 (K:yJ) (r:R3):R2:=fun v u H Q=>∃ x y G,xT K H x v/\xT K H y u/\xP K H G/\r x y G (uP K H Q)
def vX:Operator->R3
 | .Add=>fun x y G Q=>match x,y with
  | .int i,.int j=>Q (.int (i+j)) G
  | .str a,.str b=>a.length+b.length<=sizeLine/\Q (.str (a++b)) G
  | .tup a,.tup b=>a.length+b.length<=sizeLine/\Q (.tup (a++b)) G
  | .ref p,.ref q=>(match G p,G q with
   |some (.lst xs),some (.lst ys)=>xs.length+ys.length<=sizeLine/\∀ r,G r=none->Q (.ref r) (put G r (.lst (xs++ys)))
   |_,_=>False)
  |_,_=>False
 | .Sub=>fun x y G Q=>match x,y with
  | .int i,.int j=>Q (.int (i-j)) G
  |_,_=>False
 | .Mult=>fun x y G Q=>match x,y with
  | .int i,.int j=>CMul i j/\Q (.int (i * j)) G
  | .tup xs,.int k=>(k=1/\Q (.tup xs) G)\/(k=0/\xs≠[]/\Q (.tup []) G)
  | .str a,.int k=>(k=1/\Q (.str a) G)\/(k=0/\Q (.str Str.empty) G)
  | .ref p,.int k=>(match G p with
   |some (.lst xs)=>(-(2 ^ 63)<=k/\k<2 ^ 63/\xs.length * k.toNat<=sizeLine)/\∀ r,G r=none->Q (.ref r) (put G r (.lst (List.replicate k.toNat xs).flatten))
   |_=>False)
  |_,_=>False
 | .Mod=>fun x y G Q=>match x,y with
  | .int i,.int j=>0<j/\Q (.int (i % j)) G
  |_,_=>False
 | .FloorDiv=>fun x y G Q=>match x,y with
  | .int i,.int j=>CDiv i j/\Q (.int (i / j)) G
  |_,_=>False
 | .Pow=>fun x y G Q=>match x,y with
  | .int i,.int j=>CPow i j/\Q (.int (i ^ j.toNat)) G
  |_,_=>False
 |_=>fun _ _ _ _=>False
theorem zbw:∀ op,gB (vX op):=by
 intro op x y G Q Q' k h
 cases op with
 |Add =>
  cases x with
  |int i=>cases y with
   |int j=>exact k _ _ h
   |_=>exact h.elim
  |str i=>cases y with
   |str j=>exact ⟨h.1,k _ _ h.2⟩
   |_=>exact h.elim
  |tup a=>cases y with
   |tup b=>exact ⟨h.1,k _ _ h.2⟩
   |_=>exact h.elim
  |ref p=>cases y with
   |ref q =>
    simp only[vX] at h ⊢
    split at h
    .exact ⟨h.1,fun r hr=>k _ _ (h.2 r hr)⟩
    .exact h.elim
   |_=>exact h.elim
  |_=>exact h.elim
 |Mult =>
  cases x with
  |int i=>cases y with
   |int j=>exact ⟨h.1,k _ _ h.2⟩
   |_=>exact h.elim
  |tup a=>cases y with
   |int j=>exact h.imp (fun z=>⟨z.1,k _ _ z.2⟩) fun z=>⟨z.1,z.2.1,k _ _ z.2.2⟩
   |_=>exact h.elim
  |str a=>cases y with
   |int j=>exact h.imp (fun z=>⟨z.1,k _ _ z.2⟩) fun z=>⟨z.1,k _ _ z.2⟩
   |_=>exact h.elim
  |ref p=>cases y with
   |int q =>
    simp only[vX] at h ⊢
    split at h
    .exact ⟨h.1,fun r hr=>k _ _ (h.2 r hr)⟩
    .exact h.elim
   |_=>exact h.elim
  |_=>exact h.elim
 |Sub =>
  cases x with
  |int i=>cases y with
   |int j=>exact k _ _ h
   |_=>exact h.elim
  |_=>exact h.elim
 |Mod =>
  cases x with
  |int i=>cases y with
   |int j=>exact ⟨h.1,k _ _ h.2⟩
   |_=>exact h.elim
  |_=>exact h.elim
 |FloorDiv =>
  cases x with
  |int i=>cases y with
   |int j=>exact ⟨h.1,k _ _ h.2⟩
   |_=>exact h.elim
  |_=>exact h.elim
 |Pow =>
  cases x with
  |int i=>cases y with
   |int j=>exact ⟨h.1,k _ _ h.2⟩
   |_=>exact h.elim
  |_=>exact h.elim
 |_=>exact h.elim
section
variable {X:Cx}
theorem zB.nil_iff {K:yJ} {H:Hp} {ws:List W} {vs:List V} (h:zB K H ws vs):vs=[]↔ws=[]:=by
 have:=h.length
 constructor
 .intro e;subst e;exact ZM this.symm
 .intro e;subst e;exact ZM this
theorem zjV {pins:List (Addr×Obj)} {s:Shared} {σ:L2.St} {H:Hp} {a b:Addr} {Q:Value->Shared->Prop} {E:Value->Shared->Prop} {ws:List Value} (ht:IsTup s.heap a #[]) (hb:IsTup s.heap b ws.toArray) (h:Q (.ref b) s) :
  wpAny (model X.prog X.w) X.A (binaryOp .Add (.ref a) (.ref b)) Q E s:=by
 obtain ⟨⟨cls,dd,data,sl⟩,ho,hc,n,hd⟩:=id ht;obtain ⟨⟨cls2,dd2,data2,sl2⟩,ho2,hc2,n2,hd2⟩:=id hb;simp only at hc hd hc2 hd2;subst hc hd hc2 hd2
 exact concat_meets ⟨_,ho,rfl⟩ ⟨_,ho2,rfl⟩ ZbT Zb6 Za4 Za0 (ZaS _ _)
  (tuple_addW0 a b #[] ws.toArray n n2 dd dd2 sl sl2 rfl) ⟨ho,ho2,h⟩
theorem qM {K:yJ} {H:Hp} {G:Hw} {Q:VK} {ws:List W} {vs:List V} (ab:xP K H G) (r:zB K H ws vs) (h:∀ p,G p=none->uP K H Q (.ref p) (put G p (.lst ws))):∀ p,H p=none->Q (.ref p) (xC H p (.lst vs)):=fun p hp =>
 h p (ab.free hp) _ _ (wP hp) rfl (ab.new hp ⟨vs,rfl,r.mono (wP hp)⟩)
theorem pG {K:yJ} {H:Hp} {G:Hw} {Q:VK} {ws:List W} {vs:List V} (ab:xP K H G) (r:zB K H ws vs) (h:uP K H Q (.tup ws) G):∀ p,H p=none->Q (.ref p) (xC H p (.tup vs)):=fun p hp =>
 h _ _ (wP hp) ⟨p,vs,rfl,.of wN,r.mono (wP hp)⟩ (ab.tup hp)
theorem zB.flat {K:yJ} {H:Hp} {ws:List W} {vs:List V} (h:zB K H ws vs):∀ k:Nat,zB K H (List.replicate k ws).flatten (List.replicate k vs).flatten
 | 0=>rfl
 |k+1=>by rw[ZQ,ZQ,Zas,Zas];exact h.append (zB.flat h k)
theorem zme (op:Operator):sF X (binaryOp op) (low2 X.K (vX op)):=by
 intro pins s σ H v u a b Q I rv ru h;obtain ⟨x,y,G,rx,ry,ab,h⟩:=h
 cases op with
 |Add =>
  cases x with
  |int i =>
   cases y with
   |int j=>cases rx;cases ry;exact zlf pins s σ H _ _ _ _ Q I rv ru ⟨i,j,rfl,rfl,h _ _ .refl rfl ab⟩
   |_=>exact h.elim
  |str i =>
   cases y with
   |str j=>cases rx;cases ry;exact zdm pins s σ H _ _ _ _ Q I rv ru ⟨i,j,rfl,rfl,h.1,h.2 _ _ .refl rfl ab⟩
   |_=>exact h.elim
  |tup xs =>
   cases y with
   |tup ys =>
    obtain ⟨a1,vs,its,rfl,rfl,q,rs,vr,it,_⟩:=xW I rx rv;obtain ⟨b1,us,its',rfl,rfl,q',rs',vr',it',_⟩:=xW I ry ru
    by_cases e:xs=[]
    .subst e;have e1:vs=[]:=(rs.nil_iff).mpr rfl;subst e1;cases vr;exact zjV (pins:=pins) (σ:=σ) (H:=H) it it' ⟨.ref b1,H,I,rfl,h.2 _ _ .refl ⟨b1,us,rfl,q',rs'⟩ ab⟩
    .refine zi4 pins s σ H (.ref a1) (.ref b1) _ _ Q I rfl rfl ⟨a1,b1,vs,us,rfl,rfl,q,q',fun z=>e (rs.nil_iff.mp z),by rw[rs.length,rs'.length];exact h.1,fun z=>?_,fun _=>?_⟩
     .have:ys=[]:=rs'.nil_iff.mp z;subst this;exact h.2 _ _ .refl ⟨a1,vs,rfl,q,by rw[ZC];exact rs⟩ ab
     .exact pG ab (rs.append rs') h.2
   |_=>exact h.elim
  |ref p =>
   cases y with
   |ref q =>
    cases rx;cases ry;simp only[vX] at h
    split at h
    .rename_i xs ys e1 e2;obtain ⟨vs,q1,r1⟩:=ab.lst e1;obtain ⟨us,q2,r2⟩:=ab.lst e2;exact zle pins s σ H _ _ _ _ Q I rv ru ⟨p,q,vs,us,rfl,rfl,q1,q2,by rw[r1.length,r2.length];exact h.1,qM ab (r1.append r2) h.2⟩
    .exact h.elim
   |_=>exact h.elim
  |_=>exact h.elim
 |Sub =>
  cases x with
  |int i =>
   cases y with
   |int j=>cases rx;cases ry;exact zk9 pins s σ H _ _ _ _ Q I rv ru ⟨i,j,rfl,rfl,h _ _ .refl rfl ab⟩
   |_=>exact h.elim
  |_=>exact h.elim
 |Mult =>
  cases x with
  |int i =>
   cases y with
   |int j=>cases rx;cases ry;exact zlc pins s σ H _ _ _ _ Q I rv ru ⟨i,j,rfl,rfl,h.1,h.2 _ _ .refl rfl ab⟩
   |_=>exact h.elim
  |tup xs =>
   cases y with
   |int k =>
    obtain ⟨a1,vs,its,rfl,rfl,q,rs,vr,it,_⟩:=xW I rx rv;cases ry;refine zi1 pins s σ H (.ref a1) (.int k) _ _ Q I rfl ru ⟨a1,k,vs,rfl,rfl,q,?_⟩;rcases h with ⟨e,h⟩|⟨e,hx,h⟩
    .exact .inl ⟨e,h _ _ .refl ⟨a1,vs,rfl,q,rs⟩ ab⟩
    .exact .inr ⟨e,fun z=>hx (rs.nil_iff.mp z),pG ab (ws:=[]) (vs:=[]) rfl h⟩
   |_=>exact h.elim
  |str i =>
   cases y with
   |int k =>
    cases rx;cases ry;exact zi2 pins s σ H _ _ _ _ Q I rv ru ⟨i,k,rfl,rfl,h.imp (fun z=>⟨z.1,z.2 _ _ .refl rfl ab⟩) fun z=>⟨z.1,z.2 _ _ .refl rfl ab⟩⟩
   |_=>exact h.elim
  |ref p =>
   cases y with
   |int k =>
    cases rx;cases ry;simp only[vX] at h
    split at h
    .rename_i xs e1;obtain ⟨vs,q1,r1⟩:=ab.lst e1;exact zla pins s σ H _ _ _ _ Q I rv ru ⟨p,k,vs,rfl,rfl,q1,h.1.1,h.1.2.1,by rw[r1.length];exact h.1.2.2,qM ab (r1.flat _) h.2⟩
    .exact h.elim
   |_=>exact h.elim
  |_=>exact h.elim
 |Mod =>
  cases x with
  |int i =>
   cases y with
   |int j=>cases rx;cases ry;exact zld pins s σ H _ _ _ _ Q I rv ru ⟨i,j,rfl,rfl,h.1,h.2 _ _ .refl rfl ab⟩
   |_=>exact h.elim
  |_=>exact h.elim
 |FloorDiv =>
  cases x with
  |int i =>
   cases y with
   |int j=>cases rx;cases ry;exact zi3 pins s σ H _ _ _ _ Q I rv ru ⟨i,j,rfl,rfl,h.1,h.2 _ _ .refl rfl ab⟩
   |_=>exact h.elim
  |_=>exact h.elim
 |Pow =>
  cases x with
  |int i =>
   cases y with
   |int j=>cases rx;cases ry;exact zlb pins s σ H _ _ _ _ Q I rv ru ⟨i,j,rfl,rfl,h.1,h.2 _ _ .refl rfl ab⟩
   |_=>exact h.elim
  |_=>exact h.elim
 |_=>exact h.elim
end
theorem zab {k:Str}:∀ {es:List DictEntry} {ks:List Str} {vs:List V},zj4 es ks vs->(es.all fun e=>isExactStrKey e.key)=true/\(match (ks.zip vs).lookup k with
  |some v=>∃ u,(es.find? fun e=>e.key.isStr k).map (·.val)=some u/\yW v u
  |none=>(es.find? fun e=>e.key.isStr k).map (·.val)=none)
 | [],ks,vs,h=>by obtain ⟨rfl,rfl⟩:=h;exact ⟨rfl,rfl⟩
 |e::r,ks,vs,h=>by
  obtain ⟨x,t,v,ks',vs',rfl,rfl,hk,hv,hr⟩:=h;have ih:=zab (k:=k) hr;refine ⟨by rw[ZaK,hk,ih.1];rfl,?_⟩;rw[Zan,ZE,Z0,KTD.key_is hk k]
  by_cases hx:k=x
  .subst hx;simp only[beq_self_eq_true,decide_true];exact ⟨e.val,rfl,hv⟩
  .have e1:(k==x)=false:=by simpa using hx
   rw[e1,decide_eq_false hx];exact ih.2
theorem ze6 {X:Cx} {pins:List (Addr×Obj)} {σ:L2.St} {H:Hp} {s:Shared} {a:Addr} {ks:List Str} {vs:List V} {k:Str} {tk:Tok} {A:Around} {Q:Option Value->Shared->Prop} {E:Value->Shared->Prop} (I:Inv X pins σ H s) (h:KD X.K a ks vs)
  (q:match (ks.zip vs).lookup k with|some v=>∀ u s',yW v u->Inv X pins σ H s'->Q (some u) s'|none=>∀ s',Inv X pins σ H s'->Q none s'):wpAny (model X.prog X.w) A (dictGet a (.str k tk)) Q E s:=by
 obtain ⟨o,es,ep,l,_,hd,_,_,hr⟩:=h;have ho:=I.kIn _ _ l;obtain ⟨hx,hf⟩:=zab (k:=k) hr;have J:Inv X pins σ H { s with toks:=s.toks+1 }:=I.tok _;unfold dictGet
 try with_reducible refine ZK ?_
 refine Zb (wpAny_pyHash_str (Zb ?_));refine KTD.kt_dictFind_strs (s:={ s with toks:=s.toks+1 }) ho hd (by obtain ⟨es'⟩:=es;simpa using hx) ?_
 have key:Q (findBy (fun k v=>v.isStr k) es k) { s with toks:=s.toks+1 }:=by
  have e:findBy (fun k v=>v.isStr k) es k=(es.toList.find? fun e=>e.key.isStr k).map (·.val):=by obtain ⟨es'⟩:=es;simp[findBy]
  rw[e];revert q hf
  cases (ks.zip vs).lookup k with
  |some v=>intro q hf;obtain ⟨u,e1,r⟩:=hf;rw[e1];exact q u _ r J
  |none=>intro q hf;rw[hf];exact q _ J
 rw[findBy_of_findIdx?] at key;revert key
 cases es.findIdx? fun e=>e.key.isStr k with
 |none=>exact fun key=>Zg key
 |some i=>exact fun key=>Zb (wpAny_dictEntries (s:={ s with toks:=s.toks+1 }) ho hd (Zg key))
theorem zgS {X:Cx} {pins:List (Addr×Obj)} {σ:L2.St} {H:Hp} {s:Shared} {a:Addr} {ks:List Str} {vs:List V} (I:Inv X pins σ H s) (h:KD X.K a ks vs):s.TypeIs (.ref a) "dict" := by
 obtain ⟨o,es,ep,l,hc,_⟩:=h;exact ⟨o,I.kIn _ _ l,hc.1⟩
theorem vQ {K:yJ} {H:Hp} {k:Str} {w:W}:∀ {ks:List Str} {ws:List W} {vs:List V},zB K H ws vs->(ks.zip ws).lookup k=some w->∃ v,(ks.zip vs).lookup k=some v/\xT K H w v
 | [],ws,vs,_,e=>by simp at e
 |x::ks,[],vs,_,e=>by simp at e
 |x::ks,y::ws,vs,r,e=>by
  obtain ⟨v,vs',rfl,rv,rs⟩:=r;rw[Zan,ZE] at e ⊢
  cases hx:(k==x) with
  |true=>rw[hx] at e;cases e;exact ⟨v,rfl,rv⟩
  |false=>rw[hx] at e;exact vQ rs e
theorem sO {K:yJ} {H:Hp} {k:Str}:∀ {ks:List Str} {ws:List W} {vs:List V},zB K H ws vs->(ks.zip ws).lookup k=none->(ks.zip vs).lookup k=none
 | [],ws,vs,_,e=>by simp
 |x::ks,[],vs,r,e=>by rw[show vs=[] from r];rfl
 |x::ks,y::ws,vs,r,e=>by
  obtain ⟨v,vs',rfl,rv,rs⟩:=r;rw[Zan,ZE] at e ⊢
  cases hx:(k==x) with
  |true=>rw[hx] at e;cases e
  |false=>rw[hx] at e;exact sO rs e
theorem zhT {X:Cx} {pins:List (Addr×Obj)} {σ:L2.St} {H:Hp} {s:Shared} {a:Addr} {ks:List Str} {vs:List V} {k:Str} {tk:Tok} {A:Around} {Q:Bool->Shared->Prop} {E:Value->Shared->Prop} (I:Inv X pins σ H s) (h:KD X.K a ks vs)
  (q:∀ s',Inv X pins σ H s'->Q ((ks.zip vs).lookup k).isSome s'):wpAny (model X.prog X.w) A (contains (.ref a) (.str k tk)) Q E s:=by
 have hT:=zgS I h;have hd:(a==sysModules)=false:=by obtain ⟨o,es,ep,l,_,_,_,z,_⟩:=h;exact z
 have nn:¬ ((some (Value.builtin "dict.__contains__")==some Value.none)=true):=by rw[beq_builtin_none];simp
 unfold contains;refine ZK (Zb (Zbz hT ZaL.lookup ?_));dsimp only;rw[if_neg nn];refine Zb (wpAny_callSpecialUnlessNone?_slot (name:=Str.ofString "__contains__") hT ZaL (ZY ZaL hT PySem.F.entry_dict_contains (show wpAny _ _ (dictGet a (.str k tk) >>= _) _ _ s from Zb (ze6 I h ?_)) (PySem.F.args_dict_contains_2 _ _)));revert q
 cases (ks.zip vs).lookup k with
 |some v=>exact fun q u s' r J=>Zg ⟨_,rfl,ZP (q s' J)⟩
 |none=>exact fun q s' J=>Zb (wpAny_pendingKey_other hd (Zg ⟨_,rfl,ZP (q s' J)⟩))
def eqG (G:Hw):W->W->Option Bool
 | .ref p,.ref q=>match yP G p,yP G q with
  |some a,some b=>if (wC a&&wC b&&decide (min (deps a) (deps b)<=150))=true then some (uL a b) else none
  |_,_=>none
 |x,y=>if (pur x&&pur y&&decide (min (dep x) (dep y)<=150))=true then some (kY x y) else none
def inR (neg:Bool) (x:W) (ws:List W) (G:Hw) (Q:Q3):Prop:=(pur x=true/\wC ws=true/\min (deps ws) (dep x)<=150)/\Q (.bl (if neg then !ws.any fun w=>kY w x else ws.any fun w=>kY w x)) G
def zjv (neg:Bool) (i j:Str):Bool:=if neg then !(!(Builtin.Str.occurrences j i 0 j.length 1).isEmpty) else !(Builtin.Str.occurrences j i 0 j.length 1).isEmpty
def zdt:W->Option yA
 | .int i=>some (.inl i)
 | .str x=>some (.inr x)
 |_=>none
def hasK {α:Type} (kvs:List (yA×α)) (k:yA):Bool:=kvs.any fun p=>decide (p.1=k)
def sQ (neg:Bool):R3:=fun x y G Q=>match y with
 | .tup ws=>inR neg x ws G Q
 | .ref p=>(match G p with
  |some (.lst ws)=>inR neg x ws G Q
  |some (.fix ws)=>inR neg x ws G Q
  |some (.dic kvs)=>(match zdt x with|some k=>Q (.bl (if neg then !hasK kvs k else hasK kvs k)) G|none=>False)
  |_=>False)
 | .str j=>(match x with
  | .str i=>Q (.bl (zjv neg i j)) G
  |_=>False)
 | .dcf ks ws=>(match x with
  | .str k=>Q (.bl (if neg then !((ks.zip ws).lookup k).isSome else ((ks.zip ws).lookup k).isSome)) G
  |_=>False)
 |_=>False
def isR (neg:Bool):R3:=fun x y G Q=>match y with
 | .non=>Q (.bl (if neg then (match x with|.non=>false|_=>true) else (match x with|.non=>true|_=>false))) G
 | .bl b=>Q (.bl (if neg then (match x with|.bl c=>!(c==b)|_=>true) else (match x with|.bl c=>c==b|_=>false))) G
 |_=>False
def cJ (p:Int->Int->Bool) (q:Option (Str->Str->Bool):=none):R3:=fun x y G Q=>match x,y with
 | .int i,.int j=>Q (.bl (p i j)) G
 | .str i,.str j=>(match q with
  |some q=>Q (.bl (q i j)) G
  |none=>False)
 |_,_=>False
def ltS (x y:Str):Bool:=decide (x.cps.toList<y.cps.toList)
def leS (x y:Str):Bool:=!decide (y.cps.toList<x.cps.toList)
def leR:R3:=fun x y G Q=>match x,y with
 | .int i,.int j=>Q (.bl (decide (i<=j))) G
 | .str i,.str j=>Q (.bl (leS i j)) G
 |_,_=>False
def yT:CmpOp->R3
 | .Eq=>fun x y G Q=>match eqG G x y with|some b=>Q (.bl b) G|none=>False
 | .NotEq=>fun x y G Q=>match eqG G x y with|some b=>Q (.bl (!b)) G|none=>False
 | .Is=>isR false
 | .IsNot=>isR true
 | .In=>sQ false
 | .NotIn=>sQ true
 | .Lt=>cJ (fun i j=>decide (i<j)) (some ltS)
 | .LtE=>leR
 | .Gt=>cJ fun i j=>decide (j<i)
 | .GtE=>cJ fun i j=>decide (j<=i)
theorem mJ (p:Int->Int->Bool) (q:Option (Str->Str->Bool)):gB (cJ p q):=by
 intro x y G Q Q' k h;cases q<;>cases x<;>cases y<;>simp only[cJ] at h ⊢<;>first|exact h.elim|exact k _ _ h
theorem zgL:gB leR:=by
 intro x y G Q Q' k h;cases x<;>cases y<;>simp only[leR] at h ⊢<;>first|exact h.elim|exact k _ _ h
theorem za6 (neg:Bool):gB (sQ neg):=by
 intro x y G Q Q' k h;unfold sQ at h ⊢
 cases y with
 |tup ws=>exact ⟨h.1,k _ _ h.2⟩
 |ref p =>
  simp only at h ⊢
  split at h
  .exact ⟨h.1,k _ _ h.2⟩
  .exact ⟨h.1,k _ _ h.2⟩
  .split at h
   .exact k _ _ h
   .exact h.elim
  .exact h.elim
 |str j =>
  cases x with
  |str i=>exact k _ _ h
  |_=>exact h.elim
 |dcf ks ws =>
  cases x with
  |str i=>exact k _ _ h
  |_=>exact h.elim
 |_=>exact h.elim
theorem zcT (neg:Bool):gB (isR neg):=by
 intro x y G Q Q' k h;unfold isR at h ⊢
 cases y with
 |non=>exact k _ _ h
 |bl b=>exact k _ _ h
 |_=>exact h.elim
theorem wO:∀ op,gB (yT op):=by
 intro op x y G Q Q' k h
 cases op with
 |Eq =>
  simp only[yT] at h ⊢
  split at h
  .exact k _ _ h
  .exact h.elim
 |NotEq =>
  simp only[yT] at h ⊢
  split at h
  .exact k _ _ h
  .exact h.elim
 |Is=>exact zcT false x y G Q Q' k h
 |IsNot=>exact zcT true x y G Q Q' k h
 |In=>exact za6 false x y G Q Q' k h
 |NotIn=>exact za6 true x y G Q Q' k h
 |Lt=>exact mJ (fun i j=>decide (i<j)) (some ltS) x y G Q Q' k h
 |LtE=>exact zgL x y G Q Q' k h
 |Gt=>exact mJ (fun i j=>decide (j<i)) none x y G Q Q' k h
 |GtE=>exact mJ (fun i j=>decide (j<=i)) none x y G Q Q' k h
section
variable {X:Cx} {pins:List (Addr×Obj)} {σ:L2.St} {H:Hp} {s:Shared}
open Classical in
def eqI (K:yJ) (H:Hp) (x:W) (y:Value):Bool:=if ∃ w v,xT K H w v/\yW v y/\pur w=true/\kY w x=true then true else false
theorem zhZ (I:Inv X pins σ H s) {x w:W} {v:V} {y:Value} (r:xT X.K H w v) (q:yW v y) (p:pur w=true):eqI X.K H x y=kY w x:=by
 unfold eqI
 cases e:kY w x with
 |true=>rw[if_pos ⟨w,v,r,q,p,e⟩]
 |false =>
  rw[if_neg];rintro ⟨w',v',r',q',p',e'⟩;have:=yW.inj q q';subst this;rw[zev I w' w v r' r p' p,e] at e';cases e'
theorem zjC (I:Inv X pins σ H s) {x:W}:∀ {ws:List W} {vs:List V} {us:List Value},zB X.K H ws vs->yZ vs us->wC ws=true->us.any (eqI X.K H x)=ws.any fun w=>kY w x:=by
 intro ws
 induction ws with
 |nil=>intro vs us h r _;rw[show _=[] from h] at r;cases r;rfl
 |cons w ws ih =>
  intro vs us h r p;obtain ⟨v,t,e,h,hs⟩:=h;subst e
  cases r with
  |cons r rs =>
   have p':=xR.mp p;rw[Zaw,Zaw,zhZ I h r p'.1,ih hs rs p'.2]
theorem zc4 {w:W}:∀ {ws:List W},w∈ws->dep w<=deps ws:=by
 intro ws
 induction ws with
 |nil=>intro h;cases h
 |cons x xs ih =>
  intro h;simp only[deps];rcases Zd.mp h with e|h
  .rw[e];exact Nat.le_max_left _ _
  .exact Ze (ih h) (Nat.le_max_right _ _)
theorem zl9 (I:Inv X pins σ H s) {x:W} {vx:V} {ux:Value} {A:Around} (rx:xT X.K H x vx) (qx:yW vx ux) (px:pur x=true):∀ {ws:List W} {vs:List V} {us:List Value},zB X.K H ws vs->yZ vs us->wC ws=true->A.units+min (deps ws) (dep x)<cLine ->
  ∀ y∈us,EqAt A s y ux (eqI X.K H x y):=by
 intro ws
 induction ws with
 |nil=>intro vs us h r _ _ y hy;rw[show _=[] from h] at r;cases r;cases hy
 |cons w ws ih =>
  intro vs us h r p hu y hy;obtain ⟨v,t,e,h,hs⟩:=h;subst e;simp only[deps] at hu
  cases r with
  |cons r rs =>
   have p':=xR.mp p;rcases Zd.mp hy with e|hy
   .subst e;rw[zhZ I h r p'.1];exact zfo I w x v vx _ ux A h r rx qx p'.1 px (by omega)
   .exact ih hs rs p'.2 (by omega) y hy
theorem zb2 {M:Model} {A:Around} {E:Value->Shared->Prop} {Q:Value->Shared->Prop} {v:Value} {b:Bool} (hb:∀ p,v≠.builtin p) (h:Q (.bool (v==.bool b)) s):wpAny M A (compareOp .Is v (.bool b)) Q E s:=by
 cases v<;>first|exact Zg h|exact absurd rfl (hb _)
theorem zaa {M:Model} {A:Around} {E:Value->Shared->Prop} {Q:Value->Shared->Prop} {v:Value} {b:Bool} (hb:∀ p,v≠.builtin p) (h:Q (.bool (!(v==.bool b))) s):wpAny M A (compareOp .IsNot v (.bool b)) Q E s:=by
 cases v<;>first|exact Zg h|exact absurd rfl (hb _)
theorem zhw {v:V} {u:Value} (r:yW v u):∀ p,u≠.builtin p:=by
 cases v<;>first
  | (obtain ⟨t,e⟩:=r;subst e;intro p z;cases z)
  | (intro p z;subst z;cases r)
theorem zlU (neg:Bool):sF X (compareOp (if neg then .IsNot else .Is)) (low2 X.K (isR neg)):=by
 intro pins s σ H v u a b Q I rv ru h;obtain ⟨x,y,G,rx,ry,ab,h⟩:=h;have fin:∀ k k':Bool,uP X.K H Q (.bl k) G->k=k'->EP X pins σ Q (.bool k') s:=fun k k' q e=>⟨.bl k',H,I,rfl,by rw[← e];exact q _ _ .refl rfl ab⟩
 cases y with
 |non =>
  cases ry;cases ru
  cases neg with
  |false =>
   refine is_none_gen (fin _ _ h ?_)
   cases x<;>first
    | (cases rx;cases rv;rfl)
    | (cases rx;obtain ⟨t,rfl⟩:=rv;rfl)
    | (obtain ⟨_,_,rfl,_⟩:=rx;cases rv;rfl)
  |true =>
   refine isnot_none_gen (fin _ _ h ?_)
   cases x<;>first
    | (cases rx;cases rv;rfl)
    | (cases rx;obtain ⟨t,rfl⟩:=rv;rfl)
    | (obtain ⟨_,_,rfl,_⟩:=rx;cases rv;rfl)
 |bl c =>
  cases ry;cases ru
  cases neg with
  |false =>
   refine zb2 (zhw rv) (fin _ _ h ?_)
   cases x<;>first
    | (cases rx;cases rv;rfl)
    | (cases rx;cases rv;rename_i d;cases c<;>cases d<;>rfl)
    | (cases rx;obtain ⟨t,rfl⟩:=rv;rfl)
    | (obtain ⟨_,_,rfl,_⟩:=rx;cases rv;rfl)
  |true =>
   refine zaa (zhw rv) (fin _ _ h ?_)
   cases x<;>first
    | (cases rx;cases rv;rfl)
    | (cases rx;cases rv;rename_i d;cases c<;>cases d<;>rfl)
    | (cases rx;obtain ⟨t,rfl⟩:=rv;rfl)
    | (obtain ⟨_,_,rfl,_⟩:=rx;cases rv;rfl)
 |_=>exact h.elim
theorem zgQ {K:yJ} {H:Hp} {y:W} {v:V} {k:yA} (r:xT K H y v) (h:zdt y=some k):v=kV k:=by
 cases y<;>cases h<;>exact r
theorem zfb {K:yJ} {H:Hp} {k:yA}:∀ {l:List (yA×W)} {l':List (yA×V)},yL K H l l'->(tT l' k).isSome=hasK l k
 | [],_,h=>by rw[show _=[] from h];rfl
 |p::r,_,⟨v,t,e,h,hr⟩=>by
  have ih:=zfb (k:=k) hr;subst e;unfold tT hasK at ih ⊢;rw[Z0,Zaw]
  cases decide (p.1=k) with
  |true=>rfl
  |false=>exact ih
theorem dW (us:List Value) (e:Value->Bool):us.toArray.any e=us.any e:=by simp
theorem zhL (neg:Bool) (hu:X.A.units+200<cLine):sF X (compareOp (if neg then .NotIn else .In)) (low2 X.K (sQ neg)):=by
 intro pins s σ H v u a b Q I rv ru h;obtain ⟨x,y,G,rx,ry,ab,h⟩:=h;have fin:∀ k:Bool,uP X.K H Q (.bl k) G->EP X pins σ Q (.bool k) s:=fun k q=>⟨.bl k,H,I,rfl,q _ _ .refl rfl ab⟩
 have sq:∀ (p:Addr) (ws:List W) (vs:List V) (its:List Value),zB X.K H ws vs->yZ vs its->(s.heap.IsTuple p its.toArray\/s.heap.IsList p its.toArray)->inR neg x ws G (uP X.K H Q) ->
   wpAny (model X.prog X.w) X.A (compareOp (if neg then .NotIn else .In) a (.ref p)) (EP X pins σ Q) X.xe s:=fun p ws vs its rs vr ht hin=>by
  obtain ⟨⟨p1,p2,p3⟩,q⟩:=hin;have he:∀ y,y∈its.toArray->EqAt X.A.in1 s y a (eqI X.K H x y):=fun y hy=>zl9 I rx rv p1 rs vr p2 (by show X.A.units+1+_<_;omega) y (by simpa using hy);have ea:=zjC I (x:=x) rs vr p2
  cases neg with
  |false =>
   rcases ht with ht|ht
   .exact in_tupleAt _ ht he (by rw[dW,ea];exact fin _ q)
   .exact in_listAt _ ht he (by rw[dW,ea];exact fin _ q)
  |true =>
   rcases ht with ht|ht
   .exact notIn_tupleAt _ ht he (by rw[dW,ea];exact fin _ q)
   .exact notIn_listAt _ ht he (by rw[dW,ea];exact fin _ q)
 cases y with
 |tup ws =>
  obtain ⟨b1,us,its',rfl,rfl,q',rs',vr',it',_⟩:=xW I ry ru;exact sq b1 ws us its' rs' vr' (.inl it') h
 |ref p =>
  cases ry;cases ru
  have lk:∀ ws,yP G p=some ws->inR neg x ws G (uP X.K H Q)->wpAny (model X.prog X.w) X.A (compareOp (if neg then .NotIn else .In) a (.ref p)) (EP X pins σ Q) X.xe s:=fun ws e q=>by
   obtain ⟨vs,its,_,rs,vr,il,_⟩:=zeP I ab e;exact sq p ws vs its rs vr (.inr il) q
  simp only[sQ] at h
  split at h
  .rename_i ws e;exact lk ws (by unfold yP;rw[e]) h
  .rename_i ws e;exact lk ws (by unfold yP;rw[e]) h
  .rename_i kvs e
   split at h
   .rename_i kk ek;obtain ⟨l,e1,rk⟩:=ab.dic e;have ev:=zgQ rx ek;subst ev;have hs:(tT l kk).isSome=hasK kvs kk:=zfb rk;have dg:DGet H p (kV kk) (tT l kk):=.inl ⟨l,kk,.inl e1,rfl,rfl⟩
    cases neg with
    |false=>exact d_in (by omega) I dg rv fun s' I'=>⟨.bl (tT l kk).isSome,H,I',rfl,by rw[hs];exact h _ H .refl rfl ab⟩
    |true=>exact zjR (by omega) I dg rv fun s' I'=>⟨.bl (!(tT l kk).isSome),H,I',rfl,by rw[hs];exact h _ H .refl rfl ab⟩
   .exact h.elim
  .exact h.elim
 |str j =>
  cases x with
  |str i =>
   cases rx;cases ry
   cases neg with
   |false=>exact zeE pins s σ H _ _ _ _ Q I rv ru ⟨i,j,rfl,rfl,h _ _ .refl rfl ab⟩
   |true=>exact za3 pins s σ H _ _ _ _ Q I rv ru ⟨i,j,rfl,rfl,h _ _ .refl rfl ab⟩
  |_=>exact h.elim
 |dcf ks ws =>
  cases x with
  |str k =>
   obtain ⟨a1,vs,rfl,kd,rs⟩:=ry;obtain rfl:b=Value.ref a1:=ru;cases rx;obtain ⟨tk,rfl⟩:=rv
   have hs:((ks.zip vs).lookup k).isSome=((ks.zip ws).lookup k).isSome:=by
    cases e:(ks.zip ws).lookup k with
    |none=>rw[sO rs e];rfl
    |some w=>obtain ⟨v,e',_⟩:=vQ rs e;rw[e'];rfl
   cases neg with
   |false =>
    show wpAny _ _ (contains (.ref a1) (.str k tk) >>= fun z=>pure (Value.bool z)) _ _ _;exact Zb (zhT I kd fun s' J=>Zg ⟨.bl _,H,J,rfl,by rw[hs];exact h _ _ .refl rfl ab⟩)
   |true =>
    show wpAny _ _ (contains (.ref a1) (.str k tk) >>= fun z=>pure (Value.bool (!z))) _ _ _;exact Zb (zhT I kd fun s' J=>Zg ⟨.bl _,H,J,rfl,by rw[hs];exact h _ _ .refl rfl ab⟩)
  |_=>exact h.elim
 |_=>exact h.elim
theorem zeD {op:CmpOp} {p:Int->Int->Bool} {f:Option (Str->Str->Bool)} (ho:sF X (compareOp op) (rI0 fun i j=>.bl (p i j)))
  (hq:∀ q,f=some q->∀ (i j:Str) (t t':Tok) (s:Shared) (Q:Value->Shared->Prop),Q (.bool (q i j)) s->wpAny (model X.prog X.w) X.A (compareOp op (.str i t) (.str j t')) Q X.xe s:=by (intro _ z;cases z)):sF X (compareOp op) (low2 X.K (cJ p f)):=by
 intro pins s σ H v u a b Q I rv ru h;obtain ⟨x,y,G,rx,ry,ab,h⟩:=h
 cases x with
 |int i =>
  cases y with
  |int j=>cases rx;cases ry;exact ho pins s σ H _ _ _ _ Q I rv ru ⟨i,j,rfl,rfl,h _ _ .refl rfl ab⟩
  |_=>exact h.elim
 |str i =>
  cases y with
  |str j =>
   cases f with
   |none=>exact h.elim
   |some q =>
    cases rx;cases ry;obtain ⟨t,rfl⟩:=rv;obtain ⟨t',rfl⟩:=ru;exact hq q rfl i j t t' s _ ⟨.bl (q i j),H,I,rfl,h _ _ .refl rfl ab⟩
  |_=>exact h.elim
 |_=>exact h.elim
theorem le_ok:sF X (compareOp .LtE) (low2 X.K leR):=by
 intro pins s σ H v u a b Q I rv ru h;obtain ⟨x,y,G,rx,ry,ab,h⟩:=h
 cases x with
 |int i =>
  cases y with
  |int j=>cases rx;cases ry;exact op_le pins s σ H _ _ _ _ Q I rv ru ⟨i,j,rfl,rfl,h _ _ .refl rfl ab⟩
  |_=>exact h.elim
 |str i =>
  cases y with
  |str j =>
   cases rx;cases ry;obtain ⟨t,rfl⟩:=rv;obtain ⟨t',rfl⟩:=ru;exact PySem.P.le_str ⟨.bl (leS i j),H,I,rfl,h _ _ .refl rfl ab⟩
  |_=>exact h.elim
 |_=>exact h.elim
theorem zh1 (I:Inv X pins σ H s) (hu:X.A.units+200<cLine) {G:Hw} {x y:W} {v v':V} {u u':Value} {b:Bool} (ab:xP X.K H G) (h:xT X.K H x v) (r:yW v u) (h':xT X.K H y v') (r':yW v' u') (e:eqG G x y=some b) :
  RcAt X.A s u u' b/\RcNeAt X.A s u u' (!b):=by
 have gen:∀ (hh:(if (pur x&&pur y&&decide (min (dep x) (dep y)<=150))=true then some (kY x y) else none)=some b),RcAt X.A s u u' b/\RcNeAt X.A s u u' (!b):=fun hh=>by
  split at hh
  .rename_i c;simp only[Zl,decide_eq_true_eq] at c;cases hh;exact zkN I x y v v' u u' X.A h r h' r' c.1.1 c.1.2 (by omega)
  .cases hh
 cases x with
 |ref p =>
  cases y with
  |ref q =>
   simp only[eqG] at e
   split at e
   .rename_i a1 b1 e1 e2
    split at e
    .rename_i c;simp only[Zl,decide_eq_true_eq] at c;cases e;cases h;cases h';cases r;cases r';exact zkO I ab e1 e2 c.1.1 c.1.2 (by omega)
    .cases e
   .cases e
  |_=>exact gen e
 |_=>cases y<;>exact gen e
theorem hJ (hu:X.A.units+200<cLine) (op:CmpOp):sF X (compareOp op) (low2 X.K (yT op)):=by
 cases op with
 |Eq =>
  intro pins s σ H v u a b Q I rv ru h;obtain ⟨x,y,G,rx,ry,ab,h⟩:=h;simp only[yT] at h
  split at h
  .rename_i k e;exact (zh1 I hu ab rx rv ry ru e).1 _ _ _ _ ⟨.bl k,H,I,rfl,h _ _ .refl rfl ab⟩
  .exact h.elim
 |NotEq =>
  intro pins s σ H v u a b Q I rv ru h;obtain ⟨x,y,G,rx,ry,ab,h⟩:=h;simp only[yT] at h
  split at h
  .rename_i k e;exact (zh1 I hu ab rx rv ry ru e).2 _ _ _ _ ⟨.bl (!k),H,I,rfl,h _ _ .refl rfl ab⟩
  .exact h.elim
 |Is=>exact zlU false
 |IsNot=>exact zlU true
 |In=>exact zhL false hu
 |NotIn=>exact zhL true hu
 |Lt=>exact zeD (f:=some ltS) op_lt fun q e i j t t' s Q z=>by cases e;exact lt_str z
 |LtE=>exact le_ok
 |Gt=>exact zeD (f:=none) op_gt
 |GtE=>exact zeD (f:=none) op_ge
end
end L3
namespace L3
open PySem PySem.Spec PyProof.Rows L2 HT
section
variable {prog:Program} {w:World} {A:Around} {E:Value->Shared->Prop} {s:Shared}
theorem zff {t sl:Addr} {items:Array Value} {vl vu:Value} {lo hi:Option Int} {Q:Value->Shared->Prop} (ht:IsTup s.heap t items) (hs:s.heap.IsSliceOf sl vl vu .none) (pl:IsPart vl lo) (pu:IsPart vu hi)
  (hw:jZ items.size 0 lo=0/\jZ items.size items.size hi=items.size) (h:Q (.ref t) s):wpAny (model prog w) A (getItem (.ref t) (.ref sl)) Q E s:=by
 obtain ⟨os,hos,hcs,hds⟩:=id hs;have hTs:s.TypeIs (.ref sl) "slice" := ⟨os,hos,hcs⟩;unfold getItem
 try with_reducible refine ZK ?_
 first|refine Zb (Zg ?_)|skip
 refine Zb (Za9 ht.typeIs (by decide) ?_)
 refine Zb (ZU (name:=Str.ofString "__getitem__") ht.typeIs Zu
  (ZY Zu ht.typeIs Zbu ?_ (ZbD _ _)))
 show wpAny _ _ (Builtin.Tuple.tupleItemsOf (.ref t) >>= _) _ _ s;refine Zb (Zb8 ht ?_);refine Zb (ZbE hTs ?_);rw[if_pos (by decide)];refine Zb (vG hs pl pu ?_)
 have yes:(((jZ items.size 0 lo:Nat):Int)==0&&(1:Int)==1&&(jZ items.size items.size hi-jZ items.size 0 lo)==items.size)=true:=by
  rw[hw.1,hw.2];simp
 show wpAny _ _ (if (((jZ items.size 0 lo:Nat):Int)==0&&(1:Int)==1&&(jZ items.size items.size hi-jZ items.size 0 lo)==items.size)=true then _ else _) _ _ s;rw[if_pos yes];refine Zb (m:=Builtin.Tuple.tupleIsExact (.ref t)) ?_;unfold Builtin.Tuple.tupleIsExact;refine Zb (ZbE ht.typeIs (Zg ?_));rw[if_pos (by decide)];exact Zb (wpAny_rule (Zg ⟨_,rfl,Zg h⟩))
end
section
variable {X:Cx}
def rSlW (K:yJ):V->Option Int->Option Int->Hp->VK->Prop:=fun x lo hi H Q=>∃ a xs,x=.ref a/\pR K H a xs/\(HT.jZ xs.length 0 lo=0/\HT.jZ xs.length xs.length hi=xs.length)/\Q (.ref a) H
theorem zga:SlR X (rSlW X.K):=by
 intro pins s σ H x v vl vu lo hi sl Q I rx hs pl pu h;obtain ⟨a,xs,rfl,hx,hw,q⟩:=h;cases rx;obtain ⟨its,r,ht,hz⟩:=I.tuple hx;have hlen:its.toArray.size=xs.length:=by rw[zzS];exact r.length.symm
 exact ⟨"tuple", _,Zu.lookup,ht.typeIs,zff ht hs pl pu (by rw[hlen];exact hw) ⟨.ref a,H,I,rfl,q⟩⟩
end
end L3
namespace L3
open PySem PySem.Spec PyProof.Rows L2 PySem.SeqAt
def qP (G:Hw):W->Option Bool
 | .non=>some false
 | .bl b=>some b
 | .int i=>some (i != 0)
 | .str y=>if y.length<=sizeLine then some ((y.length:Int) != 0) else none
 | .tup ws=>some (!ws.isEmpty)
 | .ref p=>match G p with
  |some (.lst ws)=>some (!ws.isEmpty)
  |some (.fix ws)=>some (!ws.isEmpty)
  |some (.dic kvs)=>some (!kvs.isEmpty)
  |_=>none
 |_=>none
theorem zB.empty {K:yJ} {H:Hp} {ws:List W} {vs:List V} (h:zB K H ws vs):vs.isEmpty=ws.isEmpty:=by
 have:=h.length;cases ws<;>cases vs<;>simp_all
theorem yL.length {K:yJ} {H:Hp} {κ:Type}:∀ {l:List (κ×W)} {l':List (κ×V)},yL K H l l'->l'.length=l.length
 | [],_,h=>by rw[show _=[] from h];rfl
 |_::_,_,⟨v,t,e,_,r⟩=>by rw[e,Zf,Zf,yL.length r]
theorem zik {K:yJ} {H:Hp} {G:Hw} {w:W} {v:V} {k:Bool} (r:xT K H w v) (ab:xP K H G) (h:qP G w=some k):TruV K v H k:=by
 cases w with
 |non=>cases r;cases h;rfl
 |bl b=>cases r;cases h;rfl
 |int i=>cases r;cases h;rfl
 |str y =>
  cases r;simp only[qP] at h
  split at h
  .rename_i c;cases h;exact ⟨c,rfl⟩
  .cases h
 |ty n=>cases h
 |lsf n=>cases h
 |exc _ _ _=>cases h
 |dcf _ _=>cases h
 |tup ws =>
  obtain ⟨a,vs,rfl,q,rs⟩:=r;cases h;exact .inr (.inl ⟨vs,q,by rw[rs.empty]⟩)
 |ref p =>
  cases r
  have lk:∀ ws,yP G p=some ws->k=!ws.isEmpty->TruV K (.ref p) H k:=fun ws e q=>by
   obtain ⟨vs,sq,rs⟩:=ab.seq e;exact .inl ⟨vs,sq,by rw[rs.empty];exact q⟩
  simp only[qP] at h
  split at h
  .rename_i ws e;cases h;exact lk ws (by unfold yP;rw[e]) rfl
  .rename_i ws e;cases h;exact lk ws (by unfold yP;rw[e]) rfl
  .rename_i kvs e;cases h;obtain ⟨l,e',rk⟩:=ab.dic e;refine .inr (.inr ⟨l,e',?_⟩);have:=rk.length;cases kvs<;>cases l<;>simp_all
  .cases h
def dget {α:Type} (kvs:List (yA×α)) (k:yA):Option α:=(kvs.find? fun kv=>decide (kv.1=k)).map (·.2)
def dput {α:Type} (kvs:List (yA×α)) (k:yA) (v:α):List (yA×α) :=
 if (kvs.any fun kv=>decide (kv.1=k))=true then kvs.map (fun kv=>if kv.1=k then (kv.1,v) else kv) else kvs++[(k,v)]
theorem yL.get {K:yJ} {H:Hp} {k:yA} {w:W}:∀ {l:List (yA×W)} {l':List (yA×V)},yL K H l l'->dget l k=some w->∃ v,tT l' k=some v/\xT K H w v
 | [],_,h,e=>by cases e
 |p::r,_,⟨v,t,e,h,hr⟩,q=>by
  subst e;unfold dget at q;rw[Z0] at q;unfold tT;rw[Z0]
  by_cases hk:p.1=k
  .simp only[hk,decide_true] at q ⊢;cases q;exact ⟨v,rfl,h⟩
  .simp only[hk,decide_false] at q ⊢;exact yL.get hr q
theorem yL.any {K:yJ} {H:Hp} {k:yA}:∀ {l:List (yA×W)} {l':List (yA×V)},yL K H l l'->(l'.any fun kv=>decide (kv.1=k))=l.any fun kv=>decide (kv.1=k)
 | [],_,h=>by rw[show _=[] from h];rfl
 |p::r,_,⟨v,t,e,h,hr⟩=>by subst e;rw[Zaw,Zaw,yL.any hr]
theorem yL.app {K:yJ} {H:Hp} {κ:Type}:∀ {l:List (κ×W)} {l':List (κ×V)} {m:List (κ×W)} {m':List (κ×V)},yL K H l l'->yL K H m m'->yL K H (l++m) (l'++m')
 | [],_,_,_,h,h'=>by rw[show _=[] from h];exact h'
 |p::r,_,_,_,⟨v,t,e,h,hr⟩,h'=>by rw[e];exact ⟨v,_,rfl,h,yL.app hr h'⟩
theorem yL.repl {K:yJ} {H:Hp} {k:yA} {w:W} {v:V} (q:xT K H w v):∀ {l:List (yA×W)} {l':List (yA×V)},yL K H l l' ->
  yL K H (l.map fun kv=>if kv.1=k then (kv.1,w) else kv) (l'.map fun kv=>if kv.1=k then (kv.1,v) else kv)
 | [],_,h=>by rw[show _=[] from h];rfl
 |p::r,_,⟨u,t,e,h,hr⟩=>by
  subst e;rw[zzU,zzU]
  by_cases hk:p.1=k
  .simp only[hk,if_true];exact ⟨v,_,rfl,q,yL.repl q hr⟩
  .simp only[hk,if_false];exact ⟨u,_,rfl,h,yL.repl q hr⟩
theorem yL.put {K:yJ} {H:Hp} {k:yA} {w:W} {v:V} {l:List (yA×W)} {l':List (yA×V)} (h:yL K H l l') (q:xT K H w v):yL K H (dput l k w) (tR l' k v):=by
 unfold dput tR;rw[h.any]
 split
 .exact yL.repl q h
 .exact h.app ⟨v,[],rfl,q,rfl⟩
theorem ze2 {K:yJ} {H:Hp} {y:W} {v:V} {k:yA} (r:xT K H y v) (h:zdt y=some k):v=kV k:=by
 cases y<;>first|(cases h;cases r;rfl)|cases h
theorem ix_kd {X:Cx} {value slice:PySem.Expr} {pins:List (Addr×Obj)} {s:Shared} {σ:L2.St} {H:Hp} {a:Addr} {u:Value} {ks:List Str} {vs:List V} {k:Str} {v:V} {Q:VK} (I:Inv X pins σ H s) (h:KD X.K a ks vs) (ry:yW (.str k) u) (e:(ks.zip vs).lookup k=some v) (q:Q v H)
  (hs:subscripted slice false (.ref a) u=operate [.ref a,u] (getItem (.ref a) u)):wpAny (model X.prog X.w) X.A (subscriptTail value slice (.ref a) u) (EP X pins σ Q) X.xe s:=by
 have hT:=zgS I h;obtain ⟨tk,rfl⟩:=ry;refine Zb7 hT Zaq.lookup ?_ hs;unfold getItem
 try with_reducible refine ZK ?_
 refine Zb (Za9 hT (by decide) (Zb ?_));refine ZU (name:=Str.ofString "__getitem__") hT Zaq (ZY Zaq hT PySem.F.entry_dict_getitem ?_ (PySem.F.args_dict_getitem_2 _ _));show wpAny _ _ (dictGet a (.str k tk) >>= _) _ _ s;refine Zb (ze6 I h ?_);rw[e];exact fun u s' r J=>Zg ⟨u,rfl,Zg ⟨v,H,J,r,q⟩⟩
def jU:R3:=fun x y G Q=>match x,y with
 | .tup ws,.int i=>(match pS ws i with|some w=>Q w G|none=>False)
 | .str z,.int i=>z.length<=sizeLine/\(match pS z.cps.toList i with|some c=>Q (.str ⟨#[c]⟩) G|none=>False)
 | .ref p,y=>(match G p with
  |some (.lst ws)=>(match y with|.int i=>(match pS ws i with|some w=>Q w G|none=>False)|_=>False)
  |some (.fix ws)=>(match y with|.int i=>(match pS ws i with|some w=>Q w G|none=>False)|_=>False)
  |some (.dic kvs)=>(match zdt y with|some k=>(match dget kvs k with|some w=>Q w G|none=>False)|none=>False)
  |_=>False)
 | .dcf ks ws,.str k=>(match (ks.zip ws).lookup k with|some w=>Q w G|none=>False)
 |_,_=>False
theorem zfL {K:yJ} {H:Hp} {ws:List W} {vs:List V} {i:Int} {w:W} (h:zB K H ws vs) (e:pS ws i=some w):∃ v,pS vs i=some v/\xT K H w v:=by
 unfold pS at e ⊢;rw[h.length]
 cases q:ixN ws.length i with
 |none=>rw[q] at e;cases e
 |some j =>
  rw[q] at e;exact h.get e
theorem zcS:gB jU:=by
 intro x y G Q Q' k h
 cases x with
 |tup ws =>
  cases y<;>simp only[jU] at h ⊢<;>first
   |exact h.elim
   | (split at h<;>first|exact k _ _ h|exact h.elim)
 |str z =>
  cases y<;>simp only[jU] at h ⊢<;>first
   |exact h.elim
   | (refine ⟨h.1,?_⟩;have h:=h.2;split at h<;>first|exact k _ _ h|exact h.elim)
 |ref p =>
  simp only[jU] at h ⊢
  split at h
  .cases y<;>simp only at h ⊢<;>first
    |exact h.elim
    | (split at h<;>first|exact k _ _ h|exact h.elim)
  .cases y<;>simp only at h ⊢<;>first
    |exact h.elim
    | (split at h<;>first|exact k _ _ h|exact h.elim)
  .split at h
   .split at h
    .exact k _ _ h
    .exact h.elim
   .exact h.elim
  .exact h.elim
 |dcf ks ws =>
  cases y<;>simp only[jU] at h ⊢<;>first
   |exact h.elim
   | (split at h<;>first|exact k _ _ h|exact h.elim)
 |_=>exact h.elim
section
variable {X:Cx}
theorem zlJ (hu:X.A.units+200<cLine) {value slice:PySem.Expr} {pins:List (Addr×Obj)} {s:Shared} {σ:L2.St} {H:Hp} {a:Addr} {u:Value} {y v:V} {Q:VK} (I:Inv X pins σ H s) (g:DGet H a y (some v)) (hd:IsD H a) (ry:yW y u) (q:Q v H)
  (hs:subscripted slice false (.ref a) u=operate [.ref a,u] (getItem (.ref a) u)):wpAny (model X.prog X.w) X.A (subscriptTail value slice (.ref a) u) (EP X pins σ Q) X.xe s:=by
 exact Zb7 (zlV I hd).1 Zaq.lookup (zfw (by omega) I g ry fun w' s' I' r'=>⟨v,H,I',r',q⟩) hs
theorem ix_ok (hu:X.A.units+200<cLine):IxR X (low2 X.K jU):=by
 intro value slice pins s σ H v u a b Q I rv ru h hs;obtain ⟨x,y,G,rx,ry,ab,h⟩:=h
 cases x with
 |tup ws =>
  cases y with
  |int i =>
   obtain ⟨a1,vs,rfl,q,rs⟩:=rx;cases ry;simp only[jU] at h
   split at h
   .rename_i w e;obtain ⟨vv,ev,rp⟩:=zfL rs e;exact zlH value slice pins s σ H _ _ _ _ Q I rv ru ⟨a1,vs,i,vv,rfl,rfl,q,ev,h _ _ .refl rp ab⟩ hs
   .exact h.elim
  |_=>exact h.elim
 |str z =>
  cases y with
  |int i =>
   cases rx;cases ry;simp only[jU] at h;obtain ⟨hz,h⟩:=h
   split at h
   .rename_i c e;exact zlI value slice pins s σ H _ _ _ _ Q I rv ru ⟨z,i,c,rfl,rfl,hz,e,h _ _ .refl rfl ab⟩ hs
   .exact h.elim
  |_=>exact h.elim
 |ref p =>
  cases rx
  have lk:∀ ws i w,yP G p=some ws->y=.int i->pS ws i=some w->uP X.K H Q w G->wpAny (model X.prog X.w) X.A (subscriptTail value slice a b) (EP X pins σ Q) X.xe s:=fun ws i w e ey ew q=>by
   subst ey;obtain ⟨vs,sq,rs⟩:=ab.seq e;obtain ⟨vv,ev,rp⟩:=zfL rs ew;cases ry;exact zjj value slice pins s σ H _ _ _ _ Q I rv ru ⟨p,vs,i,vv,rfl,rfl,sq,ev,q _ _ .refl rp ab⟩ hs
  simp only[jU] at h
  split at h
  .rename_i ws e
   cases y with
   |int i =>
    simp only at h
    split at h
    .rename_i w ew;exact lk ws i w (by unfold yP;rw[e]) rfl ew h
    .exact h.elim
   |_=>exact h.elim
  .rename_i ws e
   cases y with
   |int i =>
    simp only at h
    split at h
    .rename_i w ew;exact lk ws i w (by unfold yP;rw[e]) rfl ew h
    .exact h.elim
   |_=>exact h.elim
  .rename_i kvs e
   split at h
   .rename_i k ek
    split at h
    .rename_i w ew;obtain ⟨l,e',rk⟩:=ab.dic e;obtain ⟨vv,ev,rp⟩:=rk.get ew;have ey:=ze2 ry ek;subst ey;obtain rfl:a=Value.ref p:=rv;exact zlJ hu I (.inl ⟨l,k,.inl e',rfl,ev.symm⟩) (.inl ⟨l,.inl e'⟩) ru (h _ _ .refl rp ab) hs
    .exact h.elim
   .exact h.elim
  .exact h.elim
 |dcf ks ws =>
  cases y with
  |str k =>
   obtain ⟨a1,vs,rfl,kd,rs⟩:=rx;obtain rfl:a=Value.ref a1:=rv;cases (show u=.str k from ry);simp only[jU] at h
   split at h
   .rename_i w e;obtain ⟨vv,ev,rp⟩:=vQ rs e;exact ix_kd I kd ru ev (h _ _ .refl rp ab) hs
   .exact h.elim
  |_=>exact h.elim
 |_=>exact h.elim
end
def cut {α:Type} (xs:List α) (lo hi:Option Int):List α:=(xs.drop (HT.jZ xs.length 0 lo)).take (HT.jZ xs.length xs.length hi-HT.jZ xs.length 0 lo)
theorem zca {K:yJ} {H:Hp} {ws:List W} {vs:List V} (h:zB K H ws vs) (lo hi:Option Int):zB K H (cut ws lo hi) (cutV vs lo hi):=by
 unfold cut cutV;rw[h.length];exact (h.drop _).take _
def slR:W->Option Int->Option Int->Hw->Q3->Prop:=fun x lo hi G Q=>match x with
 | .tup ws=>Q (.tup (cut ws lo hi)) G
 | .ref p=>(match yP G p with|some ws=>∀ r,G r=none->Q (.ref r) (put G r (.lst (cut ws lo hi)))|none=>False)
 | .lsf ws=>∀ r,G r=none->Q (.ref r) (put G r (.lst (cut ws lo hi)))
 | .str x=>x.length<=sizeLine/\Q (.str (Txt.slice x lo hi)) G
 |_=>False
theorem zcy {x:W} {lo hi:Option Int} {G:Hw} {Q Q':Q3} (k:∀ w G',Q w G'->Q' w G') (h:slR x lo hi G Q):slR x lo hi G Q':=by
 cases x with
 |tup ws=>exact k _ _ h
 |ref p =>
  simp only[slR] at h ⊢
  split at h
  .exact fun r hr=>k _ _ (h r hr)
  .exact h.elim
 |lsf ws=>exact fun r hr=>k _ _ (h r hr)
 |str x=>exact ⟨h.1,k _ _ h.2⟩
 |_=>exact h.elim
theorem zkw {X:Cx} {pins:List (Addr×Obj)} {s:Shared} {σ:L2.St} {H:Hp} {x:Str} {v vl vu:Value} {lo hi:Option Int} {sl:Addr} {Q:VK} (I:Inv X pins σ H s) (rv:yW (.str x) v) (hs:s.heap.IsSliceOf sl vl vu .none)
  (pl:IsPart vl lo) (pu:IsPart vu hi) (hz:x.length<=sizeLine) (q:Q (.str (Txt.slice x lo hi)) H):∃ T id,typeLookup (.type T) "__getitem__" = pure (some (.builtin id))/\s.TypeIs v T/\wpAny (model X.prog X.w) X.A (getItem v (.ref sl)) (EP X pins σ Q) X.xe s:=by
 obtain ⟨t,rfl⟩:=rv;have fin:∀ t' k,0<k->EP X pins σ Q (.str (Txt.slice x lo hi) t') { s with toks:=k }:=fun t' k h0=>⟨.str (Txt.slice x lo hi),H,I.tok _ h0,⟨t',rfl⟩,q⟩;have hz':=Ze (Txt.slice_le x lo hi) hz;refine ⟨"str", _,F.slot_str_getitem.lookup,Za7 _ _ _,?_⟩;obtain ⟨o,ho,hc,hd⟩:=hs
 cases pl with
 |none =>
  cases pu with
  |none=>exact qI I.tk (ZaA (l:=none) (u:=none) (st:=none) ⟨o,ho,hc,hd⟩ rfl (Zbw ⟨hz',fin⟩))
  |int j tj=>exact qI I.tk (ZaA (l:=none) (u:=some (j,tj)) (st:=none) ⟨o,ho,hc,hd⟩ rfl (Zbw ⟨hz',fin⟩))
 |int i ti =>
  cases pu with
  |none=>exact qI I.tk (ZaA (l:=some (i,ti)) (u:=none) (st:=none) ⟨o,ho,hc,hd⟩ rfl (Zbw ⟨hz',fin⟩))
  |int j tj=>exact qI I.tk (ZaA (l:=some (i,ti)) (u:=some (j,tj)) (st:=none) ⟨o,ho,hc,hd⟩ rfl (Zbw ⟨hz',fin⟩))
def lowSl (K:yJ) (r:W->Option Int->Option Int->Hw->Q3->Prop):V->Option Int->Option Int->Hp->VK->Prop:=fun v lo hi H Q=>∃ x G,xT K H x v/\xP K H G/\r x lo hi G (uP K H Q)
theorem sl_ok {X:Cx}:SlR X (lowSl X.K slR):=by
 intro pins s σ H v u vl vu lo hi sl Q I rv hs pl pu h;obtain ⟨x,G,rx,ab,h⟩:=h
 cases x with
 |tup ws =>
  obtain ⟨a,vs,rfl,q,rs⟩:=rx
  by_cases hw:HT.jZ vs.length 0 lo=0/\HT.jZ vs.length vs.length hi=vs.length
  .have e:cut ws lo hi=ws:=by
    have hw':=hw;rw[rs.length] at hw';unfold cut;rw[hw'.1,hw'.2,Zb1,Nat.sub_zero,Zal]
   have h':uP X.K H Q (.tup (cut ws lo hi)) G:=h;rw[e] at h';exact zga pins s σ H _ _ vl vu lo hi sl Q I rv hs pl pu ⟨a,vs,rfl,q,hw,h' _ _ .refl ⟨a,vs,rfl,q,rs⟩ ab⟩
  .exact zkv pins s σ H _ _ vl vu lo hi sl Q I rv hs pl pu ⟨a,vs,rfl,q,hw,pG ab (zca rs lo hi) h⟩
 |ref p =>
  cases rx;simp only[slR] at h
  split at h
  .rename_i ws e;obtain ⟨vs,sq,rs⟩:=ab.seq e;exact zek pins s σ H _ _ vl vu lo hi sl Q I rv hs pl pu ⟨p,vs,rfl,sq,qM ab (zca rs lo hi) h⟩
  .exact h.elim
 |lsf ws =>
  obtain ⟨a,vs,rfl,q,rs⟩:=rx;exact zek pins s σ H _ _ vl vu lo hi sl Q I rv hs pl pu ⟨a,vs,rfl,.inr q,qM ab (zca rs lo hi) h⟩
 |str x =>
  cases (show v=.str x from rx);exact zkw I rv hs pl pu h.1 (h.2 _ _ .refl rfl ab)
 |_=>exact h.elim
def setR:W->W->W->Hw->(Hw->Prop)->Prop:=fun o i v G Q=>match o with
 | .ref p=>(match G p with
  |some (.lst ws)=>(match i with|.int k=>(match ixN ws.length k with|some j=>Q (put G p (.lst (ws.set j v)))|none=>False)|_=>False)
  |some (.dic kvs)=>(match zdt i with|some k=>kvs.length<sizeLine/\Q (put G p (.dic (dput kvs k v)))|none=>False)
  |_=>False)
 |_=>False
theorem zem {o i v:W} {G:Hw} {Q Q':Hw->Prop} (k:∀ G',Q G'->Q' G') (h:setR o i v G Q):setR o i v G Q':=by
 cases o with
 |ref p =>
  simp only[setR] at h ⊢
  split at h
  .cases i<;>simp only at h ⊢<;>first
    |exact h.elim
    | (split at h<;>first|exact k _ h|exact h.elim)
  .split at h
   .exact ⟨h.1,k _ h.2⟩
   .exact h.elim
  .exact h.elim
 |_=>exact h.elim
def zhN (K:yJ):TSet:=fun o i v H Q=>∃ x y z G,xT K H x o/\xT K H y i/\xT K H z v/\xP K H G/\setR x y z G fun G'=>∀ H',yK K H H'->xP K H' G'->Q H'
theorem zky {X:Cx} (hu:X.A.units+200<cLine):PSet X (zhN X.K):=by
 intro pins s σ H o i v ov iv u Q I ro ri rv h;obtain ⟨x,y,z,G,rx,ry,rz,ab,h⟩:=h
 cases x with
 |ref p =>
  cases rx;simp only[setR] at h
  split at h
  .rename_i ws e
   cases y with
   |int k =>
    simp only at h
    split at h
    .rename_i j ej;cases ry;obtain ⟨vs,q1,r1⟩:=ab.lst e;refine zgc pins s σ H _ _ _ _ _ _ Q I ro ri rv ⟨p,vs,k,j,rfl,rfl,q1,by rw[r1.length];exact ej,?_⟩;have g:=ab.grow (u:=.lst (vs.set j v)) e;exact h _ g (ab.chg e ⟨_,rfl,((r1.mono g).set (rz.mono g) j)⟩)
    .exact h.elim
   |_=>exact h.elim
  .rename_i kvs e
   split at h
   .rename_i k ek;obtain ⟨l,e',rk⟩:=ab.dic e;have ey:=ze2 ry ek;subst ey;obtain rfl:ov=Value.ref p:=ro;refine zfv (by omega) I (.inl ⟨l,k,e',rfl,by rw[rk.length];exact h.1,rfl⟩) ri rv fun s' I'=>⟨_,I',?_⟩;have g:=ab.grow (u:=.dK (tR l k v)) e;exact h.2 _ g (ab.chg e ⟨_,rfl,(rk.mono g).put (rz.mono g)⟩)
   .exact h.elim
  .exact h.elim
 |_=>exact h.elim
end L3
namespace L3
open PySem PySem.Spec PyProof.Rows L2
abbrev XQ:=Str->List (Str×W)->Hw->Prop
def XN:XQ:=fun _ _ _=>False
abbrev vW:=List W->Hw->Q3->XQ->Prop
structure Fn3 where
 nm:Str
 sp:vW
structure Mt3 where
 nm:Str
 T:String
 sp:W->List W->Hw->Q3->Prop
abbrev I3:=qV->Hw->(List W->(Hw->Prop)->Hw->Prop)->Prop
structure It3 where
 nm:Str
 sp:List W->Hw->(List W->(Hw->Prop)->Hw->Prop)->Prop
structure Sx3 where
 m:Scope->Expr->Option (List Expr)
 sp:List W->Hw->Q3->Prop
structure Ix3 where
 m:Scope->Expr->Option (List Expr)
 sp:List W->Hw->(List W->(Hw->Prop)->Hw->Prop)->Prop
structure Ctx3 where
 fn:List Fn3
 gl:List (Str×W)
 mt:List Mt3
 it:List It3
 cl:List (Addr×List Str)
 sx:List Sx3
 ix:List Ix3
set_option genInjectivity false
mutual
inductive IE where
 |var (i:Nat)|con (c:Const)|glb (i:Nat)
 |bin (op:Operator) (a b:IE)|neg (a:IE)|not (a:IE)
 |cmp (op:CmpOp) (a b:IE)|chn (o1 o2:CmpOp) (a b c:IE)
 |and (a b:IE)|or (a b:IE)|ite (c a b:IE)
 |ix (a i:IE)|sl (a:IE) (lo hi:IO)
 |tup (es:IEs)|lst (es:IEs)|dct (ks:List Str) (es:IEs)
 |call (f:Nat) (es:IEs)|mth (m:Nat) (o:IE) (es:IEs)|att (o:IE) (f:Str)
 |lc (tg:ITg) (names:List Str) (caps:List Nat) (it:II) (c:IO) (elt:IE)
 |spc (i:Nat) (es:IEs)|ch3 (o1 o2 o3:CmpOp) (a b c d:IE)
inductive IO where
 |no|yes (e:IE)
inductive IEs where
 |nil|cons (e:IE) (es:IEs)
inductive II where
 |val (e:IE)|blt (i:Nat) (es:IEs)|spc (i:Nat) (es:IEs)
inductive ITg where
 |nm (i:Nat)|tup (ts:ITgs)
inductive ITgs where
 |nil|cons (t:ITg) (ts:ITgs)
end
mutual
inductive IS where
 |asg (i:Nat) (e:IE)|asgT (ts:ITgs) (e:IE)|asgI (o i e:IE)|asgA (o:IE) (f:Str) (e:IE)
 |ex (e:IE)|ret (e:IE)|retN|pass|brk|cnt
 |ite (c:IE) (a b:ISs)|whl (c:IE) (b:ISs)|for (tg:ITg) (it:II) (b:ISs)|dead|asgS (i j:Nat) (e:IE)
inductive ISs where
 |nil|cons (s:IS) (ss:ISs)
end
def zN:Const->Option W
 | .none=>some .non
 | .bool b=>some (.bl b)
 | .int i=>some (.int i)
 | .str x=>some (.str x)
 |_=>none
abbrev G3:=W->qV->Hw->(qV->Hw->Prop)->Prop
abbrev Gs3:=List W->qV->Hw->(qV->Hw->Prop)->Prop
mutual
def zV:ITg->G3
 | .nm i=>fun w σ G Q=>Q (σ.set i (some w)) G
 | .tup ts=>fun w σ G Q=>match w with
  | .tup ws=>zY ts ws σ G Q
  |_=>False
def zY:ITgs->Gs3
 | .nil=>fun ws σ G Q=>match ws with | []=>Q σ G|_=>False
 | .cons t ts=>fun ws σ G Q=>match ws with
  |w::r=>zV t w σ G fun σ' G'=>zY ts r σ' G' Q
  | []=>False
end
def unl (G:Hw) (w:W):W:=match w with
 | .ref p=>(match yP G p with|some ws=>.tup ws|none=>.ref p)
 |w=>w
def hG (k:Nat) (caps:List Nat) (σ:qV):qV:=List.replicate k none++caps.map fun j=>(σ[j]?).join
def sgs (x:Str):List W:=x.cps.toList.map fun c=>.str ⟨#[c]⟩
def kW:yA->W
 | .inl i=>.int i
 | .inr x=>.str x
def zfs (G:Hw) (p:Addr):Option (List (yA×W)):=match G p with
 |some (.dic kvs)=>some kvs
 |some (.fzd kvs)=>some kvs
 |_=>none
def kA (w:W) (G:Hw) (R:List W->(Hw->Prop)->Hw->Prop):Prop:=match w with
 | .tup ws=>R ws (fun _=>True) G
 | .ref p=>(match yP G p with
  |some ws=>R ws (fun G'=>yP G' p=some ws) G
  |none=>(match zfs G p with
   |some kvs=>R (kvs.map fun kv=>kW kv.1) (fun G'=>G' p=some (.fzd kvs)) (put G p (.fzd kvs))
   |none=>False))
 | .str x=>R (sgs x) (fun _=>True) G
 |_=>False
def lcR (items:List W) (stab:Hw->Prop) (G1:Hw) (turn:W->Hw->(Option W->Hw->Prop)->Prop) (Q:Q3):Prop :=
 ∃ Pv:Nat->List W->Hw->Prop,Pv 0 [] G1/\(∀ i acc G,Pv i acc G->i<=items.length->stab G/\acc.length<=i)/\items.length<=sizeLine /\
  (∀ i w acc G,items[i]?=some w->Pv i acc G->turn w G fun o G'=>match o with|some x=>Pv (i+1) (acc++[x]) G'|none=>Pv (i+1) acc G') /\
  ∀ acc G,Pv items.length acc G->∀ p,G p=none->Q (.ref p) (put G p (.lst acc))
def zL (w:W) (G:Hw) (Q:Q3):Prop:=match w with|.int i=>Q (.int (-i)) G|_=>False
def zE (w:W) (Q:Bool->Prop):Prop:=match w with|.bl b=>Q b|_=>False
def zM (w:W) (Q:Int->Prop):Prop:=match w with|.int i=>Q i|_=>False
def tyW (G:Hw):W->String->Prop
 | .str _,T=>T = "str"
 | .ref p,T=>match G p with
  |some (.lst _)=>T = "list"
  |some (.fix _)=>T = "list"
  |some (.dic _)=>T = "dict"
  |_=>False
 |_,_=>False
def attR (cl:List (Addr×List Str)) (f:Str) (w:W) (G:Hw) (Q:Q3):Prop:=match w with
 | .ref p=>(match G p with
  |some (.ins C fs)=>(∃ l,(C,l)∈cl/\f∈l)/\(match fs.lookup f with|some v=>Q v G|none=>False)
  |_=>False)
 |_=>False
def zkS (f:Str) (v:W):List (Str×W)->List (Str×W)
 | []=>[(f,v)]
 | (g,x)::r=>if g=f then (g,v)::r else (g,x)::zkS f v r
def satR (cl:List (Addr×List Str)) (f:Str) (o v:W) (G:Hw) (Q:Hw->Prop):Prop:=match o with
 | .ref p=>(match G p with
  |some (.ins C fs)=>(∃ l,(C,l)∈cl/\f∈l)/\fs.length<1000/\Q (put G p (.ins C (zkS f v fs)))
  |_=>False)
 |_=>False
def zjQ (ks:List Str) (ws:List W):List (yA×W):=(ks.zip ws).foldl (fun acc kv=>dput acc (.inr kv.1) kv.2) []
structure ET where
 e:E3
 t:T3
def zQ (e:E3):T3:=fun σ G Q=>e σ G fun w G1=>match qP G1 w with|some b=>Q b G1|none=>False
def zC (e:E3):T3:=fun σ G Q=>e σ G fun w G1=>zE w fun b=>Q b G1
def zF (e:E3):ET:=⟨e,zQ e⟩
def zD (e:E3):ET:=⟨e,zC e⟩
def rJ:List E3->A3
 | []=>fun _ G Q=>Q [] G
 |e::es=>fun σ G Q=>e σ G fun x G1=>rJ es σ G1 fun xs G2=>Q (x::xs) G2
section
variable (Γ:Ctx3)
mutual
def zH (E:XQ):IE->ET
 | .var i=>zF fun σ G Q=>match σ[i]? with|some (some w)=>Q w G|_=>False
 | .con c=>zF fun σ G Q=>match zN c with|some w=>Q w G|none=>False
 | .glb i=>zF fun σ G Q=>match Γ.gl[i]? with|some p=>Q p.2 G|none=>False
 | .bin op a b=>zF fun σ G Q=>(zH E a).e σ G fun x G1=>(zH E b).e σ G1 fun y G2=>vX op x y G2 Q
 | .neg a=>zF fun σ G Q=>(zH E a).e σ G fun x G1=>zL x G1 Q
 | .not a=>⟨fun σ G Q=>(zH E a).e σ G fun x G1=>zE x fun b=>Q (.bl (!b)) G1,fun σ G Q=>(zH E a).t σ G fun b G1=>Q (!b) G1⟩
 | .cmp op a b=>zD fun σ G Q=>(zH E a).e σ G fun x G1=>(zH E b).e σ G1 fun y G2=>yT op x y G2 Q
 | .chn o1 o2 a b c=>zD fun σ G Q=>(zH E a).e σ G fun x G1=>(zH E b).e σ G1 fun y G2=>yT o1 x y G2 fun z G3=>zE z fun k =>
   if k=true then (zH E c).e σ G3 fun u G4=>yT o2 y u G4 Q else Q (.bl false) G3
 | .and a b=>⟨fun σ G Q=>(zH E a).e σ G fun x G1=>zE x fun k=>if k=true then (zH E b).e σ G1 Q else Q (.bl false) G1,
   fun σ G Q=>(zH E a).t σ G fun k G1=>if k=true then (zH E b).t σ G1 Q else Q false G1⟩
 | .or a b=>⟨fun σ G Q=>(zH E a).e σ G fun x G1=>zE x fun k=>if k=true then Q (.bl true) G1 else (zH E b).e σ G1 Q,
   fun σ G Q=>(zH E a).t σ G fun k G1=>if k=true then Q true G1 else (zH E b).t σ G1 Q⟩
 | .ite c a b=>⟨fun σ G Q=>(zH E c).t σ G fun k G1=>if k=true then (zH E a).e σ G1 Q else (zH E b).e σ G1 Q,fun _ _ _=>False⟩
 | .ix a i=>zF fun σ G Q=>(zH E a).e σ G fun x G1=>(zH E i).e σ G1 fun y G2=>jU x y G2 Q
 | .sl a lo hi=>zF fun σ G Q=>(zH E a).e σ G fun x G1=>zP E lo σ G1 fun l G2=>zP E hi σ G2 fun u G3=>slR x l u G3 Q
 | .tup es=>zF fun σ G Q=>zW E es σ G fun ws G1=>ws.length<=sizeLine/\Q (.tup ws) G1
 | .lst es=>zF fun σ G Q=>zW E es σ G fun ws G1=>ws.length<=sizeLine/\∀ p,G1 p=none->Q (.ref p) (put G1 p (.lst ws))
 | .dct ks es=>zF fun σ G Q=>∀ p,G p=none->zW E es σ (put G p (.dic [])) fun ws G1=>G1 p=some (.dic [])/\ws.length=ks.length/\Q (.ref p) (put G1 p (.dic (zjQ ks ws)))
 | .call f es=>zF fun σ G Q=>zW E es σ G fun ws G1=>match Γ.fn[f]? with|some h=>h.sp ws G1 Q E|none=>False
 | .mth m o es=>zF fun σ G Q=>(zH E o).e σ G fun x G1=>match Γ.mt[m]? with|some h=>tyW G1 x h.T/\zW E es σ G1 fun ws G2=>h.sp x ws G2 Q|none=>False
 | .att o f=>zF fun σ G Q=>(zH E o).e σ G fun x G1=>attR Γ.cl f x G1 Q
 | .lc tg names caps it c elt=>zF fun σ G Q=>zS E it σ G fun items stab G1 =>
   lcR items stab G1 (fun w G' K=>zV tg w (hG names.length caps σ) G' fun σ2 G2=>zR c σ2 G2 fun b G3=>if b=true then (zH XN elt).e σ2 G3 fun x G4=>K (some x) G4 else K none G3) Q
 | .spc i es=>zF fun σ G Q=>zW E es σ G fun ws G1=>match Γ.sx[i]? with|some h=>h.sp ws G1 Q|none=>False
 | .ch3 o1 o2 o3 a b c d=>zD fun σ G Q=>(zH E a).e σ G fun x G1=>(zH E b).e σ G1 fun y G2=>yT o1 x y G2 fun z G3=>zE z fun k =>
   if k=true then (zH E c).e σ G3 fun u G4=>yT o2 y u G4 fun z2 G5=>zE z2 fun k2 =>
    if k2=true then (zH E d).e σ G5 fun t G6=>yT o3 u t G6 Q else Q (.bl false) G5
   else Q (.bl false) G3
def zP (E:XQ):IO->qV->Hw->(Option Int->Hw->Prop)->Prop
 | .no=>fun _ G Q=>Q none G
 | .yes e=>fun σ G Q=>(zH E e).e σ G fun x G1=>zM x fun i=>Q (some i) G1
def zR:IO->T3
 | .no=>fun _ G Q=>Q true G
 | .yes e=>(zH XN e).t
def zW (E:XQ):IEs->A3
 | .nil=>fun _ G Q=>Q [] G
 | .cons e es=>fun σ G Q=>(zH E e).e σ G fun x G1=>zW E es σ G1 fun xs G2=>Q (x::xs) G2
def zS (E:XQ):II->I3
 | .val e=>fun σ G R=>(zH E e).e σ G fun w G1=>kA w G1 R
 | .blt i es=>fun σ G R=>zW E es σ G fun ws G1=>match Γ.it[i]? with|some h=>h.sp ws G1 R|none=>False
 | .spc i es=>fun σ G R=>zW E es σ G fun ws G1=>match Γ.ix[i]? with|some h=>h.sp ws G1 R|none=>False
end
def semL:IEs->List E3
 | .nil=>[]
 | .cons e es=>(zH Γ XN e).e::semL es
abbrev zU (E:XQ) (e:IE):E3:=(zH Γ E e).e
abbrev zO (E:XQ) (e:IE):T3:=(zH Γ E e).t
def forR (items:List W) (stab:Hw->Prop) (D:End3) (σ:qV) (G1:Hw) (turn:W->End3->qV->Hw->Prop):Prop :=
 ∃ Pv:Nat->qV->Hw->Prop,Pv 0 σ G1/\(∀ i σ G,Pv i σ G->i<=items.length->stab G) /\
  (∀ i w σ G,items[i]?=some w->Pv i σ G->turn w { D with nx:=Pv (i+1),ct:=Pv (i+1),bk:=D.nx } σ G)/\∀ σ G,Pv items.length σ G->D.nx σ G
mutual
def zT (E:XQ):IS->S3
 | .asg i e=>fun D σ G=>zU Γ E e σ G fun w G1=>D.nx (σ.set i (some w)) G1
 | .asgT ts e=>fun D σ G=>zU Γ E e σ G fun w G1=>zV (.tup ts) (unl G1 w) σ G1 D.nx
 | .asgI o i e=>fun D σ G=>zU Γ E e σ G fun w G1=>zU Γ E o σ G1 fun x G2=>zU Γ E i σ G2 fun y G3=>setR x y w G3 fun G4=>D.nx σ G4
 | .asgA o f e=>fun D σ G=>zU Γ E e σ G fun w G1=>zU Γ E o σ G1 fun x G2=>satR Γ.cl f x w G2 fun G3=>D.nx σ G3
 | .ex e=>fun D σ G=>zU Γ E e σ G fun _ G1=>D.nx σ G1
 | .ret e=>fun D σ G=>zU Γ E e σ G D.rt
 | .retN=>fun D _ G=>D.rt .non G
 | .pass=>fun D σ G=>D.nx σ G
 | .brk=>fun D σ G=>D.bk σ G
 | .cnt=>fun D σ G=>D.ct σ G
 | .ite c a b=>fun D σ G=>zO Γ E c σ G fun k G1=>if k=true then zG E a D σ G1 else zG E b D σ G1
 | .whl c b=>fun D σ G=>∃ Pv:Nat->qV->Hw->Prop,(∃ m,Pv m σ G)/\∀ m σ G,Pv m σ G->zO Γ E c σ G fun k G1 =>
   if k=true then zG E b { D with nx:=fun σ' G'=>∃ m',m' < m/\Pv m' σ' G',ct:=fun σ' G'=>∃ m',m' < m/\Pv m' σ' G',bk:=D.nx } σ G1 else D.nx σ G1
 | .for tg it b=>fun D σ G=>zS Γ E it σ G fun items stab G1=>forR items stab D σ G1 fun w D' σ' G'=>zV tg w σ' G' fun σ2 G2=>zG E b D' σ2 G2
 | .dead=>fun _ _ _=>False
 | .asgS i j e=>fun D σ G=>zU Γ E e σ G fun w G1=>match unl G1 w with
  | .tup (x::r)=>r.length<=1000/\∀ p,G1 p=none->D.nx ((σ.set i (some x)).set j (some (.ref p))) (put G1 p (.lst r))
  |_=>False
def zG (E:XQ):ISs->S3
 | .nil=>fun D σ G=>D.nx σ G
 | .cons s ss=>fun D σ G=>zT E s { D with nx:=zG E ss D } σ G
end
end
theorem dA (Γ:Ctx3):∀ es:IEs,zW Γ XN es=rJ (semL Γ es)
 | .nil=>rfl
 | .cons e es=>by
  show (fun (σ:qV) (G:Hw) (Q:List W->Hw->Prop)=>(zH Γ XN e).e σ G fun x G1=>zW Γ XN es σ G1 fun xs G2=>Q (x::xs) G2)=_;rw[dA Γ es];rfl
structure TabMono (Γ:Ctx3):Prop where
 fn:∀ f∈Γ.fn,∀ ws G (Q Q':Q3) E,(∀ w G',Q w G'->Q' w G')->f.sp ws G Q E->f.sp ws G Q' E
 mt:∀ m∈Γ.mt,∀ x ws G (Q Q':Q3),(∀ w G',Q w G'->Q' w G')->m.sp x ws G Q->m.sp x ws G Q'
 it:∀ m∈Γ.it,∀ ws G (R R':List W->(Hw->Prop)->Hw->Prop),(∀ a b c,R a b c->R' a b c)->m.sp ws G R->m.sp ws G R'
 sx:∀ m∈Γ.sx,∀ ws G (Q Q':Q3),(∀ w G',Q w G'->Q' w G')->m.sp ws G Q->m.sp ws G Q'
 ix:∀ m∈Γ.ix,∀ ws G (R R':List W->(Hw->Prop)->Hw->Prop),(∀ a b c,R a b c->R' a b c)->m.sp ws G R->m.sp ws G R'
def zmp (t:I3):Prop:=∀ σ G (R R':List W->(Hw->Prop)->Hw->Prop),(∀ a b c,R a b c->R' a b c)->t σ G R->t σ G R'
def zmo (t:qV->Hw->(Option Int->Hw->Prop)->Prop):Prop:=∀ σ G (Q Q':Option Int->Hw->Prop),(∀ a b,Q a b->Q' a b)->t σ G Q->t σ G Q'
theorem vY {w:W} {Q Q':Bool->Prop} (k:∀ b,Q b->Q' b) (h:zE w Q):zE w Q':=by
 cases w<;>first|exact k _ h|exact h.elim
theorem zbg {w:W} {Q Q':Int->Prop} (k:∀ b,Q b->Q' b) (h:zM w Q):zM w Q':=by
 cases w<;>first|exact k _ h|exact h.elim
theorem zeJ {w:W} {G:Hw} {Q Q':Q3} (k:∀ w G,Q w G->Q' w G) (h:zL w G Q):zL w G Q':=by
 cases w<;>first|exact k _ _ h|exact h.elim
theorem zfK {cl:List (Addr×List Str)} {f:Str} {w:W} {G:Hw} {Q Q':Q3} (k:∀ w G,Q w G->Q' w G) (h:attR cl f w G Q):attR cl f w G Q':=by
 cases w with
 |ref p =>
  simp only[attR] at h ⊢
  split at h
  .refine ⟨h.1,?_⟩;have h2:=h.2
   split at h2
   .exact k _ _ h2
   .exact h2.elim
  .exact h.elim
 |_=>exact h.elim
theorem zad {w:W} {G:Hw} {R R':List W->(Hw->Prop)->Hw->Prop} (k:∀ a b c,R a b c->R' a b c) (h:kA w G R):kA w G R':=by
 cases w with
 |tup ws=>exact k _ _ _ h
 |ref p =>
  simp only[kA] at h ⊢
  split at h
  .exact k _ _ _ h
  .split at h
   .exact k _ _ _ h
   .exact h.elim
 |str x=>exact k _ _ _ h
 |_=>exact h.elim
theorem zgM {items:List W} {stab:Hw->Prop} {G1:Hw} {turn:W->Hw->(Option W->Hw->Prop)->Prop} {Q Q':Q3} (k:∀ w G,Q w G->Q' w G) (h:lcR items stab G1 turn Q):lcR items stab G1 turn Q':=by
 obtain ⟨Pv,h0,h1,h2,h3,h4⟩:=h;exact ⟨Pv,h0,h1,h2,h3,fun acc G hp p hn=>k _ _ (h4 acc G hp p hn)⟩
theorem zdY {e:E3} (m:jQ e):sE (zQ e):=fun σ G Q Q' k h=>m σ G _ _ (fun w G1 q=>by
 split at q
 .exact k _ _ q
 .exact q.elim) h
theorem zhj {e:E3} (m:jQ e):sE (zC e):=fun σ G Q Q' k h=>m σ G _ _ (fun w G1 q=>vY (fun b=>k b G1) q) h
theorem xV {e:E3} (m:jQ e):jQ (zF e).e/\sE (zF e).t:=⟨m,zdY m⟩
theorem bT {e:E3} (m:jQ e):jQ (zD e).e/\sE (zD e).t:=⟨m,zhj m⟩
theorem jN {α:Type} {l:List α} {i:Nat} {x:α} (h:l[i]?=some x):x∈l:=Zo h
variable {Γ:Ctx3} (g:TabMono Γ)
include g
theorem zcM (e:IE):∀ E,jQ (zH Γ E e).e/\sE (zH Γ E e).t:=by
 refine IE.rec (motive_1:=fun e=>∀ E,jQ (zH Γ E e).e/\sE (zH Γ E e).t) (motive_2:=fun o=>(∀ E,zmo (zP Γ E o))/\sE (zR Γ o)) (motive_3:=fun es=>∀ E,tW (zW Γ E es)) (motive_4:=fun it=>∀ E,zmp (zS Γ E it))
  (motive_5:=fun _=>True) (motive_6:=fun _=>True) ?var ?con ?glb ?bin ?neg ?not ?cmp ?chn ?and ?or ?ite ?ix ?sl ?tup ?lst ?dct ?call ?mth ?att ?lc ?spc ?ch3 ?no ?yes ?nil ?cons ?val ?blt ?ispc ?nm ?tt ?tn ?tc e
 case var =>
  intro i E;refine xV fun σ G Q Q' k h=>?_
  split at h
  .exact k _ _ h
  .exact h.elim
 case con =>
  intro c E;refine xV fun σ G Q Q' k h=>?_
  split at h
  .exact k _ _ h
  .exact h.elim
 case glb =>
  intro i E;refine xV fun σ G Q Q' k h=>?_
  split at h
  .exact k _ _ h
  .exact h.elim
 case bin=>exact fun op a b ha hb E=>xV fun σ G Q Q' k h=>(ha E).1 σ G _ _ (fun x G1 h=>(hb E).1 σ G1 _ _ (fun y G2 h=>zbw op x y G2 _ _ k h) h) h
 case neg=>exact fun a ha E=>xV fun σ G Q Q' k h=>(ha E).1 σ G _ _ (fun x G1 h=>zeJ k h) h
 case not=>exact fun a ha E=>⟨fun σ G Q Q' k h=>(ha E).1 σ G _ _ (fun x G1 h=>vY (fun b=>k _ _) h) h,fun σ G Q Q' k h=>(ha E).2 σ G _ _ (fun b G1 h=>k _ _ h) h⟩
 case cmp=>exact fun op a b ha hb E=>bT fun σ G Q Q' k h=>(ha E).1 σ G _ _ (fun x G1 h=>(hb E).1 σ G1 _ _ (fun y G2 h=>wO op x y G2 _ _ k h) h) h
 case chn =>
  exact fun o1 o2 a b c ha hb hc E=>bT fun σ G Q Q' k h=>(ha E).1 σ G _ _ (fun x G1 h=>(hb E).1 σ G1 _ _ (fun y G2 h=>wO o1 x y G2 _ _ (fun z G3 h=>vY (fun b h=>by
   split
   .rename_i hb;rw[if_pos hb] at h;exact (hc E).1 σ G3 _ _ (fun u G4 h=>wO o2 y u G4 _ _ k h) h
   .rename_i hb;rw[if_neg hb] at h;exact k _ _ h) h) h) h) h
 case ch3 =>
  exact fun o1 o2 o3 a b c d ha hb hc hd E=>bT fun σ G Q Q' k h=>(ha E).1 σ G _ _ (fun x G1 h=>(hb E).1 σ G1 _ _ (fun y G2 h=>wO o1 x y G2 _ _ (fun z G3 h=>vY (fun b h=>by
   split
   .rename_i hb;rw[if_pos hb] at h
    exact (hc E).1 σ G3 _ _ (fun u G4 h=>wO o2 y u G4 _ _ (fun z2 G5 h=>vY (fun b2 h=>by
     split
     .rename_i hb2;rw[if_pos hb2] at h;exact (hd E).1 σ G5 _ _ (fun t G6 h=>wO o3 u t G6 _ _ k h) h
     .rename_i hb2;rw[if_neg hb2] at h;exact k _ _ h) h) h) h
   .rename_i hb;rw[if_neg hb] at h;exact k _ _ h) h) h) h) h
 case and =>
  exact fun a b ha hb E=>⟨fun σ G Q Q' k h=>(ha E).1 σ G _ _ (fun x G1 h=>vY (fun c h=>by
   split
   .rename_i hc;rw[if_pos hc] at h;exact (hb E).1 σ G1 _ _ k h
   .rename_i hc;rw[if_neg hc] at h;exact k _ _ h) h) h,fun σ G Q Q' k h=>(ha E).2 σ G _ _ (fun c G1 h=>by
   split
   .rename_i hc;rw[if_pos hc] at h;exact (hb E).2 σ G1 _ _ k h
   .rename_i hc;rw[if_neg hc] at h;exact k _ _ h) h⟩
 case or =>
  exact fun a b ha hb E=>⟨fun σ G Q Q' k h=>(ha E).1 σ G _ _ (fun x G1 h=>vY (fun c h=>by
   split
   .rename_i hc;rw[if_pos hc] at h;exact k _ _ h
   .rename_i hc;rw[if_neg hc] at h;exact (hb E).1 σ G1 _ _ k h) h) h,fun σ G Q Q' k h=>(ha E).2 σ G _ _ (fun c G1 h=>by
   split
   .rename_i hc;rw[if_pos hc] at h;exact k _ _ h
   .rename_i hc;rw[if_neg hc] at h;exact (hb E).2 σ G1 _ _ k h) h⟩
 case ite =>
  exact fun c a b hc ha hb E=>⟨fun σ G Q Q' k h=>(hc E).2 σ G _ _ (fun c G1 h=>by
   split
   .rename_i hc;rw[if_pos hc] at h;exact (ha E).1 σ G1 _ _ k h
   .rename_i hc;rw[if_neg hc] at h;exact (hb E).1 σ G1 _ _ k h) h,fun _ _ _ _ _ h=>h.elim⟩
 case ix=>exact fun a b ha hb E=>xV fun σ G Q Q' k h=>(ha E).1 σ G _ _ (fun x G1 h=>(hb E).1 σ G1 _ _ (fun y G2 h=>zcS x y G2 _ _ k h) h) h
 case sl=>exact fun a lo hi ha hl hh E=>xV fun σ G Q Q' k h=>(ha E).1 σ G _ _ (fun x G1 h=>(hl.1 E) σ G1 _ _ (fun l G2 h=>(hh.1 E) σ G2 _ _ (fun u G3 h=>zcy k h) h) h) h
 case tup=>exact fun es hs E=>xV fun σ G Q Q' k h=>(hs E) σ G _ _ (fun ws G1 h=>⟨h.1,k _ _ h.2⟩) h
 case lst=>exact fun es hs E=>xV fun σ G Q Q' k h=>(hs E) σ G _ _ (fun ws G1 h=>⟨h.1,fun p hp=>k _ _ (h.2 p hp)⟩) h
 case dct=>exact fun ks es hs E=>xV fun σ G Q Q' k h=>fun p hp=>(hs E) σ _ _ _ (fun ws G1 h=>⟨h.1,h.2.1,k _ _ h.2.2⟩) (h p hp)
 case call =>
  exact fun f es hs E=>xV fun σ G Q Q' k h=>(hs E) σ G _ _ (fun ws G1 h=>by
   split at h
   .rename_i f' e;exact g.fn f' (jN e) ws G1 Q Q' E k h
   .exact h.elim) h
 case mth =>
  exact fun m o es ho hs E=>xV fun σ G Q Q' k h=>(ho E).1 σ G _ _ (fun x G1 h=>by
   split at h
   .rename_i m' e;exact ⟨h.1,(hs E) σ G1 _ _ (fun ws G2 h=>g.mt m' (jN e) x ws G2 Q Q' k h) h.2⟩
   .exact h.elim) h
 case att=>exact fun o f ho E=>xV fun σ G Q Q' k h=>(ho E).1 σ G _ _ (fun x G1 h=>zfK k h) h
 case lc=>exact fun tg names caps it c elt _ hi hc he E=>xV fun σ G Q Q' k h=>(hi E) σ G _ _ (fun items stab G1 h=>zgM k h) h
 case spc =>
  exact fun i es hs E=>xV fun σ G Q Q' k h=>(hs E) σ G _ _ (fun ws G1 h=>by
   split at h
   .rename_i f' e;exact g.sx f' (jN e) ws G1 Q Q' k h
   .exact h.elim) h
 case ispc =>
  exact fun i es hs E σ G R R' k h=>(hs E) σ G _ _ (fun ws G1 h=>by
   split at h
   .rename_i m' e;exact g.ix m' (jN e) ws G1 R R' k h
   .exact h.elim) h
 case no=>exact ⟨fun E σ G Q Q' k h=>k _ _ h,fun σ G Q Q' k h=>k _ _ h⟩
 case yes=>exact fun e he=>⟨fun E σ G Q Q' k h=>(he E).1 σ G _ _ (fun x G1 h=>zbg (fun i=>k _ _) h) h,(he XN).2⟩
 case nil=>exact fun E σ G Q Q' k h=>k _ _ h
 case cons=>exact fun e es he hs E σ G Q Q' k h=>(he E).1 σ G _ _ (fun x G1 h=>(hs E) σ G1 _ _ (fun xs G2 h=>k _ _ h) h) h
 case val=>exact fun e he E σ G R R' k h=>(he E).1 σ G _ _ (fun w G1 h=>zad k h) h
 case blt =>
  exact fun i es hs E σ G R R' k h=>(hs E) σ G _ _ (fun ws G1 h=>by
   split at h
   .rename_i m' e;exact g.it m' (jN e) ws G1 R R' k h
   .exact h.elim) h
 case nm=>exact fun _=>trivial
 case tt=>exact fun _ _=>trivial
 case tn=>trivial
 case tc=>exact fun _ _ _ _=>trivial
theorem yS (E:XQ) (e:IE):jQ (zH Γ E e).e:=(zcM g e E).1
theorem nZ (E:XQ) (e:IE):sE (zH Γ E e).t:=(zcM g e E).2
theorem vR (E:XQ):∀ es:IEs,tW (zW Γ E es)
 | .nil=>fun σ G Q Q' k h=>k _ _ h
 | .cons e es=>fun σ G Q Q' k h=>yS g E e σ G _ _ (fun x G1 h=>vR E es σ G1 _ _ (fun xs G2 h=>k _ _ h) h) h
theorem zll (E:XQ):∀ o:IO,zmo (zP Γ E o)
 | .no=>fun σ G Q Q' k h=>k _ _ h
 | .yes e=>fun σ G Q Q' k h=>yS g E e σ G _ _ (fun x G1 h=>zbg (fun i=>k _ _) h) h
theorem monoC:∀ o:IO,sE (zR Γ o)
 | .no=>fun σ G Q Q' k h=>k _ _ h
 | .yes e=>nZ g XN e
theorem zlm (E:XQ):∀ it:II,zmp (zS Γ E it)
 | .val e=>fun σ G R R' k h=>yS g E e σ G _ _ (fun w G1 h=>zad k h) h
 | .blt i es=>fun σ G R R' k h=>vR g E es σ G _ _ (fun ws G1 h=>by
   split at h
   .rename_i m' e;exact g.it m' (jN e) ws G1 R R' k h
   .exact h.elim) h
 | .spc i es=>fun σ G R R' k h=>vR g E es σ G _ _ (fun ws G1 h=>by
   split at h
   .rename_i m' e;exact g.ix m' (jN e) ws G1 R R' k h
   .exact h.elim) h
end L3
namespace L3
open PySem PySem.Spec PyProof.Rows L2
structure MC where
 sc:Scope
 N:List Str
 own:Str->Bool
 fns:List Str
 gls:List Str
 mts:List Str
 its:List Str
 sxm:List (Scope->Expr->Option (List Expr))
 ixm:List (Scope->Expr->Option (List Expr))
def visB (sc:Scope) (x:Str):Bool:=match sc.names.lookup x with
 |some .local=>true
 |some .cell=>true
 |some .free=>true
 |_=>false
def pU (sc:Scope) (x:Str):Bool:=sc.names.lookup x==some .globalImplicit&&!(x==("__debug__" : Str))&&!(x==("__name__" : Str))
def gT:Expr->Bool
 | .Set ..=>false
 |_=>true
def xE:Expr->Bool
 | .Starred ..=>false
 |_=>true
def fC:Expr->Bool
 | .Slice ..=>false
 |_=>true
def cF:Expr->Bool
 | .ListComp ..=>false
 | .SetComp ..=>false
 | .DictComp ..=>false
 |_=>true
def zcj:Expr->Bool
 | .Call (.Name ..) [] [] _=>false
 |_=>true
def relS (sc out:Scope):Scope:={ sc with names:=sc.names.map fun (n,k)=>if (k==.free&&out.kind==.function&&out.names.lookup n==some .cell) then (n,.cell) else (n,k) }
def blkB (out sc:Scope):Bool:=(sc.kind==.function)&&(sc.names.all fun y=>(!(y.2==.cell) || sc.names.lookup y.1==some .cell)&&(!(y.2==.free) || sc.names.lookup y.1==some .free)) &&
 (sc.names.all fun y=>!(y.2==.free) || out.names.lookup y.1==some .cell || out.names.lookup y.1==some .free) &&
 (sc.names.all fun y=>!(y.2==.local) || sc.names.lookup y.1==some .local)
def cG:List Str->Bool
 | []=>true
 |x::r=>!r.contains x&&cG r
def bA (M:MC) (x:Str):Bool:=match M.sc.names.lookup x with
 |some .local=>true
 |some .cell=>M.own x
 |_=>false
mutual
def tgIx:ITg->List Nat
 | .nm i=>[i]
 | .tup ts=>zfZ ts
def zfZ:ITgs->List Nat
 | .nil=>[]
 | .cons t ts=>tgIx t++zfZ ts
end
mutual
def mG (M:MC):ITg->Expr->Bool
 | .nm i,.Name x _=>M.N[i]?==some x&&bA M x
 | .tup ts,.Tuple es _ _=>mGs M ts es
 |_,_=>false
def mGs (M:MC):ITgs->List Expr->Bool
 | .nil,[]=>true
 | .cons t ts,e::es=>xE e&&mG M t e&&mGs M ts es
 |_,_=>false
end
mutual
def mE:IE->MC->Expr->Bool
 | .var i=>fun M e=>match e with
  | .Name x _=>M.N[i]?==some x&&visB M.sc x&&!(x==("__debug__" : Str))&&!(x==("__classdict__" : Str))
  |_=>false
 | .con c=>fun M e=>match e with
  | .Constant d _ _=>decide (c=d)
  |_=>false
 | .glb i=>fun M e=>match e with
  | .Name x _=>M.gls[i]?==some x&&pU M.sc x
  |_=>false
 | .bin op a b=>fun M e=>match e with
  | .BinOp l o r _=>decide (op=o)&&mE a M l&&mE b M r
  |_=>false
 | .neg a=>fun M e=>match e with
  | .UnaryOp .USub l _=>mE a M l
  |_=>false
 | .not a=>fun M e=>match e with
  | .UnaryOp .Not l _=>mE a M l
  |_=>false
 | .cmp op a b=>fun M e=>match e with
  | .Compare l [o] [r] _=>decide (op=o)&&mE a M l&&mE b M r&&gT r
  |_=>false
 | .chn o1 o2 a b c=>fun M e=>match e with
  | .Compare l [p1,p2] [r,t] _=>decide (o1=p1)&&decide (o2=p2)&&mE a M l&&mE b M r&&mE c M t&&gT t
  |_=>false
 | .ch3 o1 o2 o3 a b c d=>fun M e=>false
 | .and a b=>fun M e=>match e with
  | .BoolOp .And [l,r] _=>mE a M l&&mE b M r
  | .BoolOp .And (l::r::q::rest) pos=>mE a M l&&mE b M (.BoolOp .And (r::q::rest) pos)
  |_=>false
 | .or a b=>fun M e=>match e with
  | .BoolOp .Or [l,r] _=>mE a M l&&mE b M r
  | .BoolOp .Or (l::r::q::rest) pos=>mE a M l&&mE b M (.BoolOp .Or (r::q::rest) pos)
  |_=>false
 | .ite c a b=>fun M e=>match e with
  | .IfExp t l r _=>mE c M t&&mE a M l&&mE b M r
  |_=>false
 | .ix a i=>fun M e=>match e with
  | .Subscript l r _=>mE a M l&&mE i M r&&fC r
  |_=>false
 | .sl a lo hi=>fun M e=>match e with
  | .Subscript l (.Slice x y none _) _=>mE a M l&&mO lo M x&&mO hi M y
  |_=>false
 | .tup es=>fun M e=>match e with
  | .Tuple xs _ _=>mA es M xs
  |_=>false
 | .lst es=>fun M e=>match e with
  | .List xs _=>mA es M xs
  |_=>false
 | .dct ks es=>fun M e=>match e with
  | .Dict keys xs _=>keyB ks keys&&mA es M xs&&decide (keys.length=xs.length)&&decide (keys.length<=15)&&!ks.isEmpty
  |_=>false
 | .call f es=>fun M e=>match e with
  | .Call (.Name x _) xs [] _=>M.fns[f]?==some x&&pU M.sc x&&mA es M xs
  |_=>false
 | .mth m o es=>fun M e=>match e with
  | .Call (.Attribute l x apos) xs [] cpos=>M.mts[m]?==some x&&zcj l&&(apos.endLine==cpos.line)&&decide (xs.length<25)&&mE o M l&&mA es M xs
  |_=>false
 | .att o f=>fun M e=>false
 | .lc tg names caps it c elt=>fun M e=>match e with
  | .ListComp x [⟨t,ix,ifs,asy⟩] sc _ =>
   let M':MC:={ M with sc:=relS sc M.sc,N:=names++caps.map (fun j=>M.N.getD j Str.empty),own:=fun x=>sc.names.lookup x==some .cell }
   decide (asy=0)&&blkB M.sc sc&&gT ix&&cG M'.N&&(caps.all fun j=>decide (j<M.N.length)&&(sc.names.lookup (M.N.getD j Str.empty)==some .free)) &&
    mI it M ix&&((tgIx tg).all fun i=>decide (i<names.length))&&mG M' tg t&&mC c M' ifs&&mE elt M' x
  |_=>false
 | .spc i es=>fun M e=>cF e&&(match M.sxm[i]? with
  |some m=>(match m M.sc e with|some xs=>mA es M xs|none=>false)
  |none=>false)
def mO:IO->MC->Option Expr->Bool
 | .no=>fun M e=>match e with|none=>true|_=>false
 | .yes a=>fun M e=>match e with|some x=>mE a M x|_=>false
def mC:IO->MC->List Expr->Bool
 | .no=>fun M e=>match e with | []=>true|_=>false
 | .yes a=>fun M e=>match e with | [x]=>mE a M x|_=>false
def mA:IEs->MC->List Expr->Bool
 | .nil=>fun M e=>match e with | []=>true|_=>false
 | .cons a as=>fun M e=>match e with|x::xs=>xE x&&mE a M x&&mA as M xs|_=>false
def mI:II->MC->Expr->Bool
 | .val a=>fun M e=>mE a M e
 | .blt i es=>fun M e=>match e with
  | .Call (.Name x _) xs [] _=>M.its[i]?==some x&&pU M.sc x&&mA es M xs
  |_=>false
 | .spc i es=>fun M e=>false
def keyB:List Str->List (Option Expr)->Bool
 | []=>fun e=>match e with | []=>true|_=>false
 |k::ks=>fun e=>match e with|some (.Constant (.str x) _ _)::es=>k==x&&keyB ks es|_=>false
end
def zf3 (M:MC) (i j:Nat):Expr->Bool
 | .Tuple [.Name x _,.Starred (.Name y _) _] _ _=>(M.N[i]?==some x&&bA M x)&&(M.N[j]?==some y&&bA M y)
 |_=>false
def augB (M:MC) (i:Nat) (x:Str) (op:Operator) (e:Expr):IE->Bool
 | .bin .Add (.bin .Add (.var j) (.con (.str z))) a=>(match op with|.Add=>true|_=>false)&&decide (j=i)&&decide (z = "")&&(M.N[i]?==some x)&&bA M x&&mE a M e
 |_=>false
mutual
def mS:IS->MC->Stmt->Bool
 | .asg i a=>fun M s=>match s with
  | .Assign [.Name x py] e _=>M.N[i]?==some x&&bA M x&&mE a M e
  | .AugAssign (.Name x _) op e _=>augB M i x op e a
  |_=>false
 | .asgT ts a=>fun M s=>match s with
  | .Assign [.Tuple es _ _] e _=>cF e&&zgC e&&mGs M ts es&&mE a M e
  |_=>false
 | .asgI o i a=>fun M s=>match s with
  | .Assign [.Subscript l r _] e _=>cF e&&fC r&&mE o M l&&mE i M r&&mE a M e
  |_=>false
 | .asgA o f a=>fun M s=>false
 | .ex a=>fun M s=>match s with
  | .Expr e _=>cF e&&mE a M e
  |_=>false
 | .ret a=>fun M s=>match s with
  | .Return (some e) _=>mE a M e
  |_=>false
 | .retN=>fun M s=>match s with|.Return none _=>true|_=>false
 | .pass=>fun M s=>match s with|.Pass _=>true|_=>false
 | .brk=>fun M s=>match s with|.Break _=>true|_=>false
 | .cnt=>fun M s=>match s with|.Continue _=>true|_=>false
 | .ite c a b=>fun M s=>match s with
  | .If t x y _=>mE c M t&&qG a M x&&qG b M y
  |_=>false
 | .whl c b=>fun M s=>match s with
  | .While t x [] _=>mE c M t&&qG b M x
  |_=>false
 | .for tg it b=>fun M s=>match s with
  | .For t x y [] _=>gT x&&mG M tg t&&mI it M x&&qG b M y
  |_=>false
 | .dead=>fun M s=>true
 | .asgS i j a=>fun M s=>match s with
  | .Assign [t] e _=>cF e&&zgC e&&zf3 M i j t&&mE a M e
  |_=>false
def qG:ISs->MC->List Stmt->Bool
 | .nil=>fun M s=>match s with | []=>true|_=>false
 | .cons a as=>fun M s=>match s with|x::xs=>mS a M x&&qG as M xs|_=>false
def zgC:Expr->Bool
 | .Tuple ..=>false
 |_=>true
end
theorem pT {a b:Bool} (h:(a&&b)=true):a=true/\b=true:=(Zl a b).mp h
theorem bd3 {a b c:Bool} (h:(a&&b&&c)=true):(a=true/\b=true)/\c=true:=⟨pT (pT h).1,(pT h).2⟩
theorem bd4 {a b c d:Bool} (h:(a&&b&&c&&d)=true):((a=true/\b=true)/\c=true)/\d=true:=⟨bd3 (pT h).1,(pT h).2⟩
theorem bd5 {a b c d e:Bool} (h:(a&&b&&c&&d&&e)=true):(((a=true/\b=true)/\c=true)/\d=true)/\e=true:=⟨bd4 (pT h).1,(pT h).2⟩
theorem bd6 {a b c d e f:Bool} (h:(a&&b&&c&&d&&e&&f)=true):((((a=true/\b=true)/\c=true)/\d=true)/\e=true)/\f=true:=⟨bd5 (pT h).1,(pT h).2⟩
theorem bd7 {a b c d e f g:Bool} (h:(a&&b&&c&&d&&e&&f&&g)=true):(((((a=true/\b=true)/\c=true)/\d=true)/\e=true)/\f=true)/\g=true:=⟨bd6 (pT h).1,(pT h).2⟩
theorem bd8 {a b c d e f g k:Bool} (h:(a&&b&&c&&d&&e&&f&&g&&k)=true):((((((a=true/\b=true)/\c=true)/\d=true)/\e=true)/\f=true)/\g=true)/\k=true:=⟨bd7 (pT h).1,(pT h).2⟩
theorem bd9 {a b c d e f g k l:Bool} (h:(a&&b&&c&&d&&e&&f&&g&&k&&l)=true):(((((((a=true/\b=true)/\c=true)/\d=true)/\e=true)/\f=true)/\g=true)/\k=true)/\l=true:=⟨bd8 (pT h).1,(pT h).2⟩
theorem bd10 {a b c d e f g k l m:Bool} (h:(a&&b&&c&&d&&e&&f&&g&&k&&l&&m)=true):((((((((a=true/\b=true)/\c=true)/\d=true)/\e=true)/\f=true)/\g=true)/\k=true)/\l=true)/\m=true:=⟨bd9 (pT h).1,(pT h).2⟩
end L3
namespace L2
open PySem PySem.Spec PyProof.Rows
def Itd (d:Addr) (ob:Obj) (l:List (yA×V)):It where
 go:=fun i H=>H d=some (.frz ob (.dK l))/\i<l.length
 yld:=fun i H x H'=>H'=H/\∃ p,l[i]?=some p/\x=kV p.1
 stop:=fun i H=>H d=some (.frz ob (.dK l))/\l.length<=i
def KiSt (it d:Addr) (ob:Obj) (n i:Nat) (h:Heap):Prop:=∃ ep es,ob.data=.dict es ep/\h.IsKeyIter it d i n ep
section
variable {X:Cx} {pins:List (Addr×Obj)} {σ:St} {H:Hp} {s:Shared} {d:Addr} {ob:Obj} {l:List (yA×V)}
theorem zhS {κ:Type}:∀ {l:List (κ×V)} {vs:List (κ×Value)} {i:Nat} {k:κ} {v:Value},KV l vs->vs[i]?=some (k,v)->∃ x,l[i]?=some (k,x)
 |_,_,i,k,v,.nil,e=>by simp at e
 |p::_,_,0,k,v,.cons r t,e=>by
  simp at e;subst e;obtain ⟨a,b⟩:=p;have h1:a=k:=r.1;exact ⟨b,by simp[h1]⟩
 |_::_,_,i+1,k,v,.cons r t,e=>by
  obtain ⟨x,h⟩:=zhS (i:=i) (k:=k) (v:=v) t (by simpa using e);exact ⟨x,by simpa using h⟩
theorem zhR {κ:Type}:∀ {l:List (κ×V)} {vs:List (κ×Value)},KV l vs->vs.length=l.length
 |_,_,.nil=>rfl
 |_,_,.cons _ t=>by rw[Zf,Zf,zhR t]
theorem zfh (I:Inv X pins σ H s) (e:H d=some (.frz ob (.dK l))) {es:Array DictEntry} {ep:Nat} (hd:ob.data=.dict es ep):∃ vs,KV l vs/\s.heap.DictAt (xO X.prog X.w) d vs ep/\vs.length=l.length:=by
 obtain ⟨hg,_,_,vs,kv,o,es',ep',ho,hc,hdat,r⟩:=(show xD X.prog X.w H s.heap d (.frz ob (.dK l)) from I.hok d _ e);rw[hg] at ho;cases ho;rw[hd] at hdat;cases hdat;exact ⟨vs,kv,⟨ob,es,hg,hc,hd,r⟩,zhR kv⟩
theorem ze4 {k:yA} {v:Value} (h:zb1 k v=true):yW (kV k) v:=by
 rcases xZ h with ⟨i,t,rfl,rfl⟩|⟨x,t,rfl,rfl⟩
 .exact ⟨t,rfl⟩
 .exact ⟨t,rfl⟩
theorem zdX {P:Program} {w:World} {K:PySem.W.Frag} {tg:Expr} (it:Addr):Turn P w K tg (Itd d ob l) [it] it (KiSt it d ob l.length) where
 mem:=by simp
 obj:=fun i h st b hb=>by
  cases zzO hb;obtain ⟨ep,es,_,o,e,c,z⟩:=st;exact ⟨o,e,fun v q=>by rw[z] at q;cases q⟩
 keep:=fun i h h' st k=>by
  obtain ⟨ep,es,hd,st⟩:=st;exact ⟨ep,es,hd,st.at fun o e=>k it (by simp) o e⟩
 item:=by
  intro X e1 e2 e3 hc i pins s σ H E I hf st hg;subst e1;subst e2;subst e3;obtain ⟨ep,es,hd,st⟩:=st;obtain ⟨e,hi⟩:=hg;obtain ⟨vs,kv,da,lv⟩:=zfh I e hd;obtain ⟨f0,f1,f2,f3,f4,f5⟩:=hf it (by simp);obtain ⟨⟨k,v⟩,ek⟩:∃ p,vs[i]?=some p:=⟨vs[i]'(by omega),Zj _⟩;obtain ⟨x,ex⟩:=zhS kv ek;rw[← lv] at st;refine wpAny_pyNext_dict_item st da ek fun key h' hkey st' sb=>?_;have I1:Inv X pins σ H { s with heap:=h',toks:=s.toks }:=I.turned (fun b o hb q=>(sb.2 b hb).trans q) f0 f1 f3 f4 f5;obtain ⟨o,o1,o2,o3⟩:=id st';refine ⟨key,rfl,zfe (s:={ s with heap:=h' }) o1 o2 o3 (by decide) ⟨kV k,H,I1,ze4 hkey,⟨rfl,(k,x),ex,rfl⟩,⟨ep,es,hd,?_⟩,fun b hb=>(hf b hb).1⟩⟩;rw[← lv];exact st'
 done:=by
  intro X e1 e2 e3 hc i pins s σ H E I hf st hg;subst e1;subst e2;subst e3;obtain ⟨ep,es,hd,st⟩:=st;obtain ⟨e,hi⟩:=hg;obtain ⟨vs,kv,da,lv⟩:=zfh I e hd;obtain ⟨f0,f1,f2,f3,f4,f5⟩:=hf it (by simp);rw[← lv] at st;exact wpAny_pyNext_dict_end (I.ok.hd hc) st da (Zbb (by omega)) fun h' eb=>⟨rfl,I.turned (t':=s.toks) (fun b o hb q=>eb b o hb q) f0 f1 f3 f4 f5⟩
 self:=fun _ _ _ _ _ st h=>by
  obtain ⟨ep,es,hd,st⟩:=st;exact wpAny_pyIter_keyiter st h
theorem zhl {u:HO} (e:H d=some u):xC H d u=H:=by
 funext b
 unfold xC
 split
 .rename_i h;subst h;exact e.symm
 .rfl
theorem zjz (I:Inv X pins σ H s) (e:Rd H d (.dK l)):∃ ob,Inv X pins σ (xC H d (.frz ob (.dK l))) s/\(∃ es ep,ob.data=.dict es ep)/\∀ ob',H d=some (.frz ob' (.dK l))->ob'=ob:=by
 rcases e with e|⟨ob,e⟩
 .have q:=I.hok d _ e;obtain ⟨h1,h2,vs,kv,o,es,ep,ho,hc,hdat,r⟩:=id q;have mu:Mut (H d):=by rw[e];exact True.intro
  refine ⟨o,I.un (t':=s.toks) (Un.write mu (.inl rfl) (fun b u _ z=>z) ⟨o,ho⟩) (I.hok.write mu (.inl rfl) (fun b u _ z=>z) ⟨o,ho⟩ ⟨ho,h1,h2,vs,kv,o,es,ep,ho,hc,hdat,r⟩),⟨es,ep,hdat⟩,fun ob' z=>by rw[e] at z;cases z⟩
 .obtain ⟨hg,_,_,vs,kv,o,es,ep,ho,hc,hdat,r⟩:=(show xD X.prog X.w H s.heap d (.frz ob (.dK l)) from I.hok d _ e);rw[hg] at ho;cases ho;exact ⟨ob,by rw[zhl e];exact I,⟨es,ep,hdat⟩,fun ob' z=>by rw[e] at z;cases z;rfl⟩
theorem zjP {tg:Expr} {R:It->Hp->Prop} {E:Value->Shared->Prop} (I:Inv X pins σ H s) (e:Rd H d (.dK l)) (q:∀ ob,(∀ ob',H d=some (.frz ob' (.dK l))->ob'=ob)->R (Itd d ob l) (xC H d (.frz ob (.dK l)))):wpAny (model X.prog X.w) X.A (pyIter (.ref d)) (PIE X pins σ tg R) E s:=by
 have hs:(d==sysModules)=false:=(zb6 I.hok e).2.1;obtain ⟨ob,J,⟨es,ep,hd⟩,same⟩:=zjz I e;obtain ⟨vs,kv,da,lv⟩:=zfh J wN hd;refine wpAny_pyIter_dict hs da ?_;refine ⟨s.heap.objs.size,[s.heap.objs.size],_,_,_,rfl,J.kept (t':=s.toks) fun b o e=>Za _ e,zdX _,⟨ep,es,hd,⟨_,Zk _ rfl,rfl,by rw[lv];rfl⟩⟩,fun b hb=>?_,q ob same⟩;cases zzO hb;exact J.fpOk (zzR _) (J.hok.fresh (zzR _))
end
end L2
namespace L3
open PySem PySem.Spec PyProof.Rows L2 PySem.SeqAt
structure Par where
 prog:Program
 w:World
 K:yJ
 mg:Str->Option Value
 base:Heap
 A:Around
structure Fits (p:Par) (X:Cx):Prop where
 prog:X.prog=p.prog
 w:X.w=p.w
 K:X.K=p.K
 mg:X.mg=p.mg
 base:X.base=p.base
 A:X.A=p.A
 calm:X.calm=true
 xe:X.xe=fun _ _=>False
structure ItIs (K:yJ) (J:It) (H1:Hp) (ws:List W) (stab:Hw->Prop):Prop where
 go:∀ i H G,yK K H1 H->xP K H G->stab G->i<ws.length->J.go i H
 yld:∀ i H G x H',yK K H1 H->xP K H G->stab G->i<ws.length->J.yld i H x H'->∃ w,ws[i]?=some w/\yK K H H'/\xT K H' w x/\xP K H' G
 stop:∀ i H G,yK K H1 H->xP K H G->stab G->ws.length<=i->J.stop i H
def lowI (K:yJ) (t:I3):TI:=fun τ H R=>∃ σ G,yM K H σ τ/\xP K H G/\t σ G fun ws stab G1=>∀ J H1,yK K H H1->xP K H1 G1->ItIs K J H1 ws stab->R J H1
def gA (X:Cx):List Expr->List E3->Prop
 | [],[]=>True
 |x::xs,e::es=>jQ e/\PE X x (xN X.K e)/\gA X xs es
 |_,_=>False
structure Good (Γ:Ctx3) (p:Par):Prop where
 mono:TabMono Γ
 un:p.A.units+200<cLine
 fn:∀ f∈Γ.fn,∀ X,Fits p X->Gl X f.nm->∀ (args:List Expr) (t:A3) (q pos:Pos),tW t->args.all xE=true->PA X args (nQ X.K t)->(args=[]->∀ σ G Q,t σ G Q->Q [] G)->(f.nm==("__debug__" : Str))=false->f.nm ≠ "__name__" ->
  PE X (.Call (.Name f.nm q) args [] pos) (xN X.K fun σ G Q=>t σ G fun ws G1=>f.sp ws G1 Q XN)
 gl:∀ g∈Γ.gl,∀ X,Fits p X->Gl X g.1->∀ q:Pos,(g.1==("__debug__" : Str))=false->g.1 ≠ "__name__" -> PE X (.Name g.1 q) (xN X.K fun _ G Q=>Q g.2 G)
 mt:∀ m∈Γ.mt,∀ X,Fits p X->∀ (o:Expr) (args:List Expr) (to:E3) (t:A3) (apos cpos:Pos),jQ to->tW t->zcj o=true->(apos.endLine==cpos.line)=true->args.length<25->args.all xE=true ->
  PE X o (xN X.K to)->PA X args (nQ X.K t)->(args=[]->∀ σ G Q,t σ G Q->Q [] G)->PE X (.Call (.Attribute o m.nm apos) args [] cpos) (xN X.K fun σ G Q=>to σ G fun x G1=>tyW G1 x m.T/\t σ G1 fun ws G2=>m.sp x ws G2 Q)
 it:∀ i∈Γ.it,∀ X,Fits p X->Gl X i.nm->∀ (tg:Expr) (args:List Expr) (t:A3) (q pos:Pos),tW t->args.all xE=true->PA X args (nQ X.K t)->(args=[]->∀ σ G Q,t σ G Q->Q [] G)->(i.nm==("__debug__" : Str))=false->i.nm ≠ "__name__" ->
  PI X tg (.Call (.Name i.nm q) args [] pos) (lowI X.K fun σ G R=>t σ G fun ws G1=>i.sp ws G1 R)
 cl:∀ c∈Γ.cl,Cls p.K c.1/\∀ f∈c.2,zh9 p.K c.1 f
 sx:∀ k∈Γ.sx,∀ X,Fits p X->∀ (e:Expr) (xs:List Expr) (es:List E3),k.m X.env.scope e=some xs->gA X xs es->xs.all xE=true->PA X xs (nQ X.K (rJ es)) ->
  PE X e (xN X.K fun σ G Q=>rJ es σ G fun ws G1=>k.sp ws G1 Q)/\(∀ whole,isTrue e X.env whole=(do let v ← whole;standAt e.pos;holding [v] (truthy v)))/\∀ op vs pos,e≠.BoolOp op vs pos
 ix:∀ k∈Γ.ix,∀ X,Fits p X->∀ (tg e:Expr) (xs:List Expr) (es:List E3),k.m X.env.scope e=some xs->gA X xs es->xs.all xE=true->PA X xs (nQ X.K (rJ es)) ->
  PI X tg e (lowI X.K fun σ G R=>rJ es σ G fun ws G1=>k.sp ws G1 R)
structure Lk (Γ:Ctx3) (M:MC) (p:Par) (X:Cx):Prop where
 fits:Fits p X
 N:X.N=M.N
 sc:X.env.scope=M.sc
 nd:M.N.Nodup
 own:∀ x,M.own x=true->X.fn x=true
 kind:M.sc.kind=.function
 fns:Γ.fn.map (·.nm)=M.fns
 gls:Γ.gl.map (·.1)=M.gls
 mts:Γ.mt.map (·.nm)=M.mts
 its:Γ.it.map (·.nm)=M.its
 sxs:Γ.sx.map (·.m)=M.sxm
 ixs:Γ.ix.map (·.m)=M.ixm
theorem vS {e:Expr} {es:List Expr} {env:Env} (h:xE e=true):starEach (e::es) env=(false,eval e env)::starEach es env:=by
 cases e<;>first|rfl|exact absurd h zzN
theorem uD {o:Expr} {f:Str} {env:Env} {t:Sem Value} (h:zcj o=true):attributeBase o f env t=t:=by
 unfold attributeBase
 split
 .exact absurd h zzN
 .rfl
theorem zbi {e:Expr} {env:Env} (h:gT e=true):∀ x,foldedSetIterable e env x=pure x:=fun x=>by
 cases e<;>first|rfl|exact absurd h zzN
theorem nX {op:CmpOp} {e:Expr} (h:gT e=true):behindInMarks op e=false:=by
 cases e<;>first|rfl|exact absurd h zzN
theorem zgs {e:Expr} (h:fC e=true):zfR e:=fun o i=>by
 cases e<;>first|rfl|exact absurd h zzN
theorem tM {e:Expr} {t:Option Expr} {n:Nat} {env:Env} (h:cF e=true):swapsWith e t n env=pure false:=by
 cases e<;>first|rfl|exact absurd h zzN
theorem zkc {sc:Scope} {x:Str} (h:visB sc x=true):Vis sc x:=by
 unfold visB at h
 split at h
 .rename_i e;exact .inl e
 .rename_i e;exact .inr (.inl e)
 .rename_i e;exact .inr (.inr e)
 .exact absurd h zzN
theorem zdx {X:Cx} {sc:Scope} {x:Str} (e:X.env.scope=sc) (h:pU sc x=true):Gl X x/\(x==("__debug__" : Str))=false/\x ≠ "__name__" := by
 unfold pU at h;simp only[Zl,Z5] at h;refine ⟨?_,h.1.2,fun z=>?_⟩
 .show X.env.scope.names.lookup x=_;rw[e];exact eq_of_beq h.1.1
 .subst z;have:=h.2;simp at this
theorem jR {α:Type} [BEq α] [LawfulBEq α] {a:Option α} {b:α} (h:(a==some b)=true):a=some b:=eq_of_beq h
theorem nV {α β:Type} {f:α->β} {l:List α} {i:Nat} {y:β} (h:(l.map f)[i]?=some y):∃ x,l[i]?=some x/\f x=y:=by
 rw[Zp] at h
 cases e:l[i]? with
 |none=>rw[e] at h;cases h
 |some x=>rw[e] at h;exact ⟨x,rfl,ZA h⟩
section
variable {X:Cx}
theorem zfX {K:yJ} {e:E3} (m:jQ e) {τ:L2.St} {H:Hp} {Q:Bool->Hp->Prop} (h:vT K (zQ e) τ H Q):xN K e τ H (fun x H'=>∃ k,TruV K x H' k/\Q k H'):=by
 obtain ⟨σ,G,hs,ha,h⟩:=h;refine xJ m hs ha h fun w G1 v H1 gr _ rp ab q=>?_
 split at q
 .rename_i b hb;exact ⟨b,zik rp ab hb,q H1 gr ab⟩
 .exact q.elim
theorem pt_of {x:Expr} {e:E3} (m:jQ e) (h:PE X x (xN X.K e)) (he:∀ whole,isTrue x X.env whole=(do let v ← whole;standAt x.pos;holding [v] (truthy v))):PT X x (vT X.K (zQ e)) :=
 (zgk h he).imp fun σ H Q q=>zfX m q
theorem zfF {K:yJ} {e:E3} (m:jQ e) {τ:L2.St} {H:Hp} {Q:Bool->Hp->Prop} (h:vT K (zC e) τ H Q):xN K e τ H (fun x H'=>∃ k,x=.bl k/\Q k H'):=by
 obtain ⟨σ,G,hs,ha,h⟩:=h;refine xJ m hs ha h fun w G1 v H1 gr _ rp ab q=>?_
 cases w with
 |bl b=>cases rp;exact ⟨b,rfl,q H1 gr ab⟩
 |_=>exact q.elim
theorem zcI {K:yJ} {ea eb:E3} {r:R3} (ma:jQ ea) (mb:jQ eb) (mr:gB r) {τ:L2.St} {H:Hp} {Q:VK} (h:xN K (fun σ G Q=>ea σ G fun x G1=>eb σ G1 fun y G2=>r x y G2 Q) τ H Q) :
  tOp (low2 K r) (xN K ea) (xN K eb) τ H Q:=by
 obtain ⟨σ,G,hs,ha,h⟩:=h;refine xJ ma hs ha h fun x G1 v H1 g1 hs1 rx a1 h1=>?_;refine xJ mb hs1 a1 h1 fun y G2 u H2 g2 hs2 ry a2 h2=>?_;exact ⟨x,y,G2,rx.mono g2,ry,a2,mr x y G2 _ _ (fun w G' q v' H' g'=>q v' H' ((g1.trans g2).trans g')) h2⟩
def Its (x:Str):It:=⟨fun i _=>i<x.cps.size,fun i H v H'=>H'=H/\∃ c,x.cps[i]?=some c/\v=.str ⟨#[c]⟩,fun i _=>x.cps.size<=i⟩
theorem zfV {P:Program} {w:World} {K:yJ} {tg:Expr} (T:String) (hT:T = "str_ascii_iterator" \/ T = "str_iterator") (x:Str) (t:Tok) (it:Addr):Turn P w K tg (Its x) [it] it (fun i h=>h.IsStrIter it T x t i) where
 mem:=by simp
 obj:=fun i h st b hb=>by
  have e:b=it:=by simpa using hb
  subst e;obtain ⟨o,e,c,d⟩:=st;exact ⟨o,e,fun v z=>by rw[d] at z;cases z⟩
 keep:=fun i h h' st k=>let ⟨o,e,r⟩:=st;⟨o,k it (by simp) o e,r⟩
 item:=by
  intro X hP hw hK hc i pins s σ H E I hf st hg;subst hP hw hK;obtain ⟨f0,f1,f2,f3,f4,f5⟩:=hf it (by simp);have hi:i<x.cps.size:=hg;have hx:x.cps[i]?=some x.cps[i]:=by simp[hi]
  have fin:∀ h':Heap,h'.IsStrIter it T x t (i+1)->Heap.SameBut it s.heap h'->∃ u,some (Value.str ⟨#[x.cps[i]]⟩ s.toks)=some u /\
    wpAny (model X.prog X.w) X.A (letOwnedTupleGo tg (.ref it) u) (fun _ s2=>∃ v H',Inv X pins σ H' s2/\yW v u/\(Its x).yld i H v H'/\s2.heap.IsStrIter it T x t (i+1)/\∀ b∈[it],H' b=none) E { s with heap:=h',toks:=s.toks+1 }:=fun h' st' sb=>by
   have I1:Inv X pins σ H { s with heap:=h',toks:=s.toks+1 }:=I.turned (t':=s.toks+1) (fun b o hb e=>(sb.2 b hb).trans e) f0 f1 f3 f4 f5;obtain ⟨o,e,c,d⟩:=id st';exact ⟨_,rfl,zfe (s:={ s with heap:=h',toks:=s.toks+1 }) e c d (by rcases hT with rfl|rfl<;>decide) ⟨.str ⟨#[x.cps[i]]⟩,H,I1,⟨_,rfl⟩,⟨rfl,_,hx,rfl⟩,st',fun b hb=>(hf b hb).1⟩⟩
  rcases hT with rfl|rfl
  .exact wpAny_pyNext_ascii_item st hx fin
  .exact wpAny_pyNext_wide_item st hx fin
 done:=by
  intro X hP hw hK hc i pins s σ H E I hf st hg;subst hP hw hK;obtain ⟨f0,f1,f2,f3,f4,f5⟩:=hf it (by simp);have hx:x.cps[i]?=none:=by have h:x.cps.size<=i:=hg;simp[h]
  rcases hT with rfl|rfl
  .exact wpAny_pyNext_ascii_end (I.ok.hd hc) st hx fun h' eb=>⟨rfl,I.turned (t':=s.toks) (fun b o hb e=>eb b o hb e) f0 f1 f3 f4 f5⟩
  .exact wpAny_pyNext_wide_end (I.ok.hd hc) st hx fun h' eb=>⟨rfl,I.turned (t':=s.toks) (fun b o hb e=>eb b o hb e) f0 f1 f3 f4 f5⟩
 self:=fun _ _ _ _ _ st h=>by
  rcases hT with rfl|rfl
  .exact wpAny_pyIter_striter_ascii st h
  .exact wpAny_pyIter_striter_wide st h
theorem zkY {tg l:Expr} {tl:TE} (hl:PE X l tl):PI X tg l (fun σ H R=>tl σ H fun x H1=>(∃ t,x=.str t/\R (Its t) H1)\/∃ a,x=.ref a/\(((∃ xs,mY X.K H1 a xs)/\R (Itl X.K a) H1)\/((∃ xs,pR X.K H1 a xs)/\R (Itt X.K a) H1)\/∃ l,Rd H1 a (.dK l)/\∀ ob,(∀ ob',H1 a=some (.frz ob' (.dK l))->ob'=ob)->R (Itd a ob l) (xC H1 a (.frz ob (.dK l))))):=by
 intro pins s σ H R I h;refine xY (hl pins s σ H _ I h) fun v s1 ⟨x,H1,I1,r1,q1⟩=>?_;rcases q1 with ⟨tx,e,q⟩|q1
 .subst e;obtain ⟨tk,rfl⟩:=r1
  have fin:∀ T,(T = "str_ascii_iterator" \/ T = "str_iterator")->∀ o:Obj,o.isFreed=false->o.cls=.type T->o.data=.fields #[.str tx tk,.int 0 0]->PIE X pins σ tg R (.ref s1.heap.objs.size) { s1 with heap:=s1.heap.push o }   := fun T hT o hz hc hd=>by
   refine ⟨s1.heap.objs.size,[s1.heap.objs.size],_,_,H1,rfl,I1.kept (t':=s1.toks) fun b o e=>Za _ e,zfV T hT tx tk _,⟨_,Zk _ hz,hc,hd⟩,fun b hb=>?_,q⟩;have e:b=s1.heap.objs.size:=by simpa using hb
   subst e;exact I1.fpOk (zzR _) (I1.hok.fresh (zzR _))
  cases hasc:tx.cps.all (· < 128)
  .exact wpAny_pyIter_wide hasc (fin _ (.inr rfl) _ rfl rfl rfl)
  .exact wpAny_pyIter_ascii hasc (fin _ (.inl rfl) _ rfl rfl rfl)
 obtain ⟨a,e,q1⟩:=q1;subst e;cases r1;rcases q1 with ⟨⟨xs,hq⟩,q⟩|⟨⟨xs,hq⟩,q⟩|⟨l,hq,q⟩
 rotate_left 2
 .exact zjP I1 hq q
 .obtain ⟨its,rv,p,hz⟩:=I1.list hq;refine Za8 p.isList ?_;refine ⟨s1.heap.objs.size,[s1.heap.objs.size],_,_,H1,rfl,I1.kept (t':=s1.toks) fun b o e=>Za _ e,zdW a _,⟨_,Zk _ rfl,rfl,rfl⟩,fun b hb=>?_,q⟩;have e:b=s1.heap.objs.size:=by simpa using hb
  subst e;exact I1.fpOk (zzR _) (I1.hok.fresh (zzR _))
 .obtain ⟨its,rv,p,hz⟩:=I1.tuple hq;refine wpAny_pyIter_tuple (show s1.heap.IsTuple a its.toArray from p) ?_;refine ⟨s1.heap.objs.size,[s1.heap.objs.size],_,_,H1,rfl,I1.kept (t':=s1.toks) fun b o e=>Za _ e,zdf a _,⟨_,Zk _ rfl,rfl,rfl⟩,fun b hb=>?_,q⟩;have e:b=s1.heap.objs.size:=by simpa using hb
  subst e;exact I1.fpOk (zzR _) (I1.hok.fresh (zzR _))
theorem zlN {K:yJ} {x:Str} {H1:Hp}:ItIs K (Its x) H1 (sgs x) (fun _=>True) where
 go:=fun i H G _ ab st hi=>by
  have h:i<(sgs x).length:=hi;show i<x.cps.size;simpa[sgs] using h
 yld:=fun i H G v H' _ ab st hi y=>by
  obtain ⟨rfl,c,e,rfl⟩:=y;refine ⟨.str ⟨#[c]⟩,?_,.refl,rfl,ab⟩;simp[sgs,e]
 stop:=fun i H G _ ab st hi=>by
  have h:(sgs x).length<=i:=hi;show x.cps.size<=i;simpa[sgs] using h
theorem zlP {K:yJ} {a:Addr} {H1:Hp} {ws:List W}:ItIs K (Itl K a) H1 ws (fun G=>yP G a=some ws) where
 go:=fun i H G _ ab st hi=>by
  obtain ⟨vs,sq,rs⟩:=ab.seq st;have hl:=rs.length;obtain ⟨v,e⟩:∃ v,vs[i]?=some v:=⟨vs[i]'(by omega),Zj _⟩;exact ⟨vs,v,sq,e⟩
 yld:=fun i H G x H' _ ab st hi y=>by
  obtain ⟨vs,sq,rs⟩:=ab.seq st;obtain ⟨e,y⟩:=y;subst e;obtain ⟨w,ew,rp⟩:=rs.get' (y vs sq);exact ⟨w,ew,.refl,rp,ab⟩
 stop:=fun i H G _ ab st hi=>by
  obtain ⟨vs,sq,rs⟩:=ab.seq st;exact ⟨vs,sq,by rw[rs.length];exact hi⟩
theorem zlM {K:yJ} {a:Addr} {H1:Hp} {ws:List W} {vs:List V} (sq:pR K H1 a vs) (rs:zB K H1 ws vs):ItIs K (Itt K a) H1 ws (fun _=>True) where
 go:=fun i H G g ab st hi=>by
  have hl:=rs.length;obtain ⟨v,e⟩:∃ v,vs[i]?=some v:=⟨vs[i]'(by omega),Zj _⟩;exact ⟨vs,v,g.1 _ _ sq,e⟩
 yld:=fun i H G x H' g ab st hi y=>by
  obtain ⟨e,y⟩:=y;subst e;obtain ⟨w,ew,rp⟩:=(rs.mono g).get' (y vs (g.1 _ _ sq));exact ⟨w,ew,.refl,rp,ab⟩
 stop:=fun i H G g ab st hi=>⟨vs,g.1 _ _ sq,by rw[rs.length];exact hi⟩
theorem xP.rdD {K:yJ} {H:Hp} {G:Hw} {p:Addr} {kvs:List (yA×W)} (ab:xP K H G) (e:zfs G p=some kvs):∃ l,Rd H p (.dK l)/\yL K H kvs l:=by
 unfold zfs at e
 split at e
 .rename_i q;cases e;obtain ⟨u,e',l,rfl,r⟩:=ab p _ q;exact ⟨l,.inl e',r⟩
 .rename_i q;cases e;obtain ⟨u,e',ob,l,rfl,r⟩:=ab p _ q;exact ⟨l,.inr ⟨ob,e'⟩,r⟩
 .cases e
theorem xP.freeze {K:yJ} {H:Hp} {G:Hw} {p:Addr} {kvs:List (yA×W)} {l:List (yA×V)} {ob:Obj} (ab:xP K H G) (e:zfs G p=some kvs) (hl:Rd H p (.dK l)) (rk:yL K H kvs l) :
  (∀ ob',H p=some (.frz ob' (.dK l))->ob'=ob)->yK K H (xC H p (.frz ob (.dK l)))/\xP K (xC H p (.frz ob (.dK l))) (put G p (.fzd kvs)):=by
 intro same;unfold zfs at e
 split at e
 .rename_i q;cases e;have g:yK K H (xC H p (.frz ob (.dK l))):=ab.grow q;exact ⟨g,ab.chg q ⟨ob,l,rfl,rk.mono g⟩⟩
 .rename_i q;cases e;obtain ⟨u,e',ob2,l2,rfl,r⟩:=ab p _ q
  have hp:H p=some (.frz ob (.dK l)):=by
   rcases hl with h|⟨o,h⟩
   .rw[h] at e';cases e'
   .rw[h,same o h]
  rw[zhl hp];refine ⟨.refl,fun b o z=>?_⟩
  by_cases hb:b=p
  .subst hb;rw[zX] at z;cases z;exact ⟨_,hp,ob,l,rfl,rk⟩
  .rw[yH hb] at z;exact ab b o z
 .cases e
theorem yL.keyAt {K:yJ} {H:Hp} {κ:Type}:∀ {l:List (κ×W)} {l':List (κ×V)} {i:Nat} {p:κ×V},yL K H l l'->l'[i]?=some p->∃ w,l[i]?=some (p.1,w)
 | [],_,i,p,h,e=>by rw[show _=[] from h] at e;simp at e
 | (k,w)::_,_,0,p,⟨v,t,e,h,r⟩,q=>by subst e;simp at q;subst q;exact ⟨w,rfl⟩
 |_::_,_,i+1,p,⟨v,t,e,h,r⟩,q=>by
  subst e;obtain ⟨w,h1⟩:=yL.keyAt (i:=i) (p:=p) r (by simpa using q);exact ⟨w,by simpa using h1⟩
theorem zlF {K:yJ} {H:Hp} (k:yA):xT K H (kW k) (kV k):=by
 cases k<;>rfl
theorem zlQ {K:yJ} {d:Addr} {ob:Obj} {l:List (yA×V)} {H1:Hp} {kvs:List (yA×W)} (e:H1 d=some (.frz ob (.dK l))) (rk:yL K H1 kvs l):ItIs K (Itd d ob l) H1 (kvs.map fun kv=>kW kv.1) (fun G=>G d=some (.fzd kvs)) where
 go:=fun i H G g ab st hi=>⟨g.2 _ _ True.intro e,by rw[rk.length];simpa using hi⟩
 yld:=fun i H G x H' g ab st hi y=>by
  obtain ⟨e1,p,e2,e3⟩:=y;subst e1;subst e3;obtain ⟨w,ew⟩:=rk.keyAt e2;exact ⟨kW p.1,by rw[Zp,ew];rfl,.refl,zlF _,ab⟩
 stop:=fun i H G g ab st hi=>⟨g.2 _ _ True.intro e,by rw[rk.length];simpa using hi⟩
theorem zkZ {tg x:Expr} {e:E3} (m:jQ e) (h:PE X x (xN X.K e)):PI X tg x (lowI X.K fun σ G R=>e σ G fun w G1=>kA w G1 R):=by
 intro pins s σ H R I q;refine zkY h pins s σ H R I ?_;obtain ⟨σ3,G,hs,ha,q⟩:=q;refine xJ m hs ha q fun w G1 v H1 gr hs1 rp ab q=>?_
 cases w with
 |tup ws =>
  obtain ⟨a,vs,rfl,sq,rs⟩:=rp;exact .inr ⟨a,rfl,.inr (.inl ⟨⟨vs,sq⟩,q _ H1 gr ab (zlM sq rs)⟩)⟩
 |ref p =>
  cases rp;simp only[kA] at q
  split at q
  .rename_i ws e;obtain ⟨vs,sq,rs⟩:=ab.seq e;exact .inr ⟨p,rfl,.inl ⟨⟨vs,sq⟩,q _ H1 gr ab zlP⟩⟩
  .split at q
   .rename_i kvs e;obtain ⟨l,hl,rk⟩:=ab.rdD e;refine .inr ⟨p,rfl,.inr (.inr ⟨l,hl,fun ob same=>?_⟩)⟩;obtain ⟨g2,a2⟩:=ab.freeze (ob:=ob) e hl rk same;exact q _ _ (gr.trans g2) a2 (zlQ (wN) (rk.mono g2))
   .exact q.elim
 |str t =>
  cases rp;exact .inl ⟨t,rfl,q _ H1 gr ab zlN⟩
 |_=>exact q.elim
def lowG (K:yJ) (t:G3):TG:=fun v τ H Q=>∃ w σ G,xT K H w v/\yM K H σ τ/\xP K H G/\t w σ G fun σ' G'=>∀ τ' H',yK K H H'->yM K H' σ' τ'->xP K H' G'->Q τ' H'
def lowGs (K:yJ) (t:Gs3):TGs:=fun vs τ H Q=>∃ ws σ G,zB K H ws vs/\yM K H σ τ/\xP K H G/\t ws σ G fun σ' G'=>∀ τ' H',yK K H H'->yM K H' σ' τ'->xP K H' G'->Q τ' H'
theorem _root_.L2.PG.imp {tg:Expr} {t t':TG} (h:PG X tg t) (k:∀ v σ H Q,t' v σ H Q->t v σ H Q):PG X tg t':=fun pins s σ H v u Q I r q=>h pins s σ H v u Q I r (k v σ H Q q)
theorem _root_.L2.PGs.imp {tg:List Expr} {t t':TGs} (h:PGs X tg t) (k:∀ v σ H Q,t' v σ H Q->t v σ H Q):PGs X tg t':=fun pins s σ H v u Q I r q=>h pins s σ H v u Q I r (k v σ H Q q)
theorem zaC {e:Expr} {es:List Expr} {env:Env} (h:xE e=true):assignEach (e::es) env=(false,assign e env)::assignEach es env:=by
 cases e<;>first|rfl|exact absurd h zzN
end
def MonoG (t:G3):Prop:=∀ w σ G (Q Q':qV->Hw->Prop),(∀ a b,Q a b->Q' a b)->t w σ G Q->t w σ G Q'
def zmq (t:Gs3):Prop:=∀ w σ G (Q Q':qV->Hw->Prop),(∀ a b,Q a b->Q' a b)->t w σ G Q->t w σ G Q'
mutual
theorem gQ:∀ t:ITg,MonoG (zV t)
 | .nm i=>fun w σ G Q Q' k h=>k _ _ h
 | .tup ts=>fun w σ G Q Q' k h=>by
  cases w with
  |tup ws=>exact bU ts ws σ G Q Q' k h
  |_=>exact h.elim
theorem bU:∀ ts:ITgs,zmq (zY ts)
 | .nil=>fun w σ G Q Q' k h=>by
  cases w with
  |nil=>exact k _ _ h
  |cons _ _=>exact h.elim
 | .cons t ts=>fun w σ G Q Q' k h=>by
  cases w with
  |nil=>exact h.elim
  |cons x r=>exact gQ t x σ G _ _ (fun σ' G' h=>bU ts r σ' G' Q Q' k h) h
end
theorem bB {Γ:Ctx3} {M:MC} {p:Par} {X:Cx} (L:Lk Γ M p X) {x:Str} (h:bA M x=true):Loc X.env.scope x/\(X.fn x=true\/X.env.scope.names.lookup x=some .local):=by
 unfold bA at h;rw[L.sc]
 split at h
 .rename_i e;exact ⟨.inl e,.inr e⟩
 .rename_i e;exact ⟨.inr e,.inl (L.own x h)⟩
 .exact absurd h zzN
mutual
theorem sndG {Γ:Ctx3} {M:MC} {p:Par} {X:Cx} (L:Lk Γ M p X):∀ (t:ITg) (x:Expr),mG M t x=true->PG X x (lowG X.K (zV t))
  | .nm i,x,h=>by
   cases x with
   |Name y q =>
    replace h:=pT h;have lo:=bB L h.2;refine (zbR (i:=i) (L.N▸L.nd) (by rw[L.N];exact jR h.1) lo.1 lo.2).imp fun v σ H Q q=>?_;obtain ⟨w,σ3,G,rp,hs,ab,q⟩:=q;exact q _ _ .refl (hs.set rp i) ab
   |_=>exact absurd h zzN
  | .tup ts,x,h=>by
   cases x with
   |Tuple es k q =>
    skip
    obtain ⟨ps,hn,hst⟩:=zit L ts es h;refine (zhB (n:=es.length) L.fits.calm ps hn hst).imp fun v σ H Q q=>?_;obtain ⟨w,σ3,G,rp,hs,ab,q⟩:=q
    cases w with
    |tup ws =>
      obtain ⟨a,vs,rfl,sq,rs⟩:=rp;refine ⟨a,vs,rfl,sq,?_,ws,σ3,G,rs,hs,ab,q⟩;rw[rs.length];exact zgK ts es ws σ3 G _ h q
    |_=>exact q.elim
   |_=>exact absurd h zzN
theorem zit {Γ:Ctx3} {M:MC} {p:Par} {X:Cx} (L:Lk Γ M p X):∀ (ts:ITgs) (xs:List Expr),mGs M ts xs=true->PGs X xs (lowGs X.K (zY ts))/\(assignEach xs X.env).length=xs.length/\(assignEach xs X.env).findIdx? (·.1)=none
 | .nil,[],_=>⟨(zex).imp fun vs σ H Q q=>by
   obtain ⟨ws,σ3,G,rs,hs,ab,q⟩:=q
   cases ws with
   |nil=>exact ⟨rs,q _ _ .refl hs ab⟩
   |cons _ _=>exact q.elim,rfl,rfl⟩
 | .cons t ts,x::xs,h=>by
  simp only[mGs,Zl] at h;obtain ⟨ps,hn,hst⟩:=zit L ts xs h.2;have es:=zaC (es:=xs) (env:=X.env) h.1.1;refine ⟨(cN (sndG L t x h.1.2) ps (by rw[es];rfl)).imp fun vs σ H Q q=>?_,by rw[es,Zf,Zf,hn],?_⟩
  .obtain ⟨ws,σ3,G,rs,hs,ab,q⟩:=q
   cases ws with
   |nil=>exact q.elim
   |cons w r =>
    obtain ⟨v,vr,e,rp,rr⟩:=rs;refine ⟨v,vr,e,w,σ3,G,rp,hs,ab,gQ t w σ3 G _ _ (fun σ' G' q τ' H' g' hs' ab'=>?_) q⟩;exact ⟨r,σ',G',rr.mono g',hs',ab',bU ts r σ' G' _ _ (fun σ2 G2 q τ2 H2 g2=>q τ2 H2 (g'.trans g2)) q⟩
  .rw[es,List.findIdx?_cons];simp only[zzB,if_false,hst];rfl
theorem zgK {M:MC}:∀ (ts:ITgs) (xs:List Expr) (ws:List W) (σ:qV) (G:Hw) (Q:qV->Hw->Prop),mGs M ts xs=true->zY ts ws σ G Q->ws.length=xs.length
 | .nil,[],ws,σ,G,Q,_,q=>by
  cases ws with
  |nil=>rfl
  |cons _ _=>exact q.elim
 | .cons t ts,x::xs,ws,σ,G,Q,h,q=>by
  simp only[mGs,Zl] at h
  cases ws with
  |nil=>exact q.elim
  |cons w r =>
   have:∃ σ' G',zY ts r σ' G' Q:=exG t w σ G _ q;obtain ⟨σ',G',q'⟩:=this;rw[Zf,Zf,zgK ts xs r σ' G' Q h.2 q']
theorem exG:∀ (t:ITg) (w:W) (σ:qV) (G:Hw) (Q:qV->Hw->Prop),zV t w σ G Q->∃ σ' G',Q σ' G'
 | .nm i,w,σ,G,Q,q=>⟨_,_,q⟩
 | .tup ts,w,σ,G,Q,q=>by
  cases w with
  |tup ws=>exact exGs ts ws σ G Q q
  |_=>exact q.elim
theorem exGs:∀ (ts:ITgs) (ws:List W) (σ:qV) (G:Hw) (Q:qV->Hw->Prop),zY ts ws σ G Q->∃ σ' G',Q σ' G'
 | .nil,ws,σ,G,Q,q=>by
  cases ws with
  |nil=>exact ⟨_,_,q⟩
  |cons _ _=>exact q.elim
 | .cons t ts,ws,σ,G,Q,q=>by
  cases ws with
  |nil=>exact q.elim
  |cons w r =>
   obtain ⟨σ',G',q'⟩:=exG t w σ G _ q;exact exGs ts r σ' G' Q q'
end
def lowO (K:yJ) (t:qV->Hw->(Option Int->Hw->Prop)->Prop):TO:=fun τ H Q=>∃ σ G,yM K H σ τ/\xP K H G/\t σ G fun o G'=>∀ H',yK K H H'->xP K H' G'->Q o H'
theorem _root_.L2.PO.imp {X:Cx} {e:Option Expr} {t t':TO} (h:PO X e t) (k:∀ σ H Q,t' σ H Q->t σ H Q):PO X e t':=fun pins s σ H Q I q=>h pins s σ H Q I (k σ H Q q)
theorem _root_.L2.PTs.imp {X:Cx} {e:List Expr} {t t':TT} (h:PTs X e t) (k:∀ σ H Q,t' σ H Q->t σ H Q):PTs X e t':=fun pins s σ H Q I q=>h pins s σ H Q I (k σ H Q q)
theorem _root_.L2.PI.imp {X:Cx} {tg x:Expr} {t t':TI} (h:PI X tg x t) (k:∀ σ H R,t' σ H R->t σ H R):PI X tg x t':=fun pins s σ H R I q=>h pins s σ H R I (k σ H R q)
def capV (k:Nat) (caps:List Nat) (σ:L2.St):L2.St:=List.replicate k none++caps.map fun j=>(σ[j]?).join
theorem zch {α:Type} {k:Nat} {caps:List Nat} {σ:List (Option α)} {i:Nat} {v:α} (h:(List.replicate k none++caps.map fun j=>(σ[j]?).join)[i]?=some (some v)):k<=i/\∃ j,caps[i-k]?=some j/\σ[j]?=some (some v):=by
 by_cases hi:i<k
 .rw[Z6 (by simpa using hi),ZaX,if_pos hi] at h;cases h
 .rw[ZV (by simpa using hi),Zbe,Zp] at h;refine ⟨by omega,?_⟩
  cases e:caps[i-k]? with
  |none=>rw[e] at h;cases h
  |some j =>
   rw[e] at h;have h':(σ[j]?).join=some v:=ZA h;refine ⟨j,rfl,?_⟩
   cases q:σ[j]? with
   |none=>rw[q] at h';cases h'
   |some o=>rw[q] at h';exact congrArg some h'
theorem zjW {K:yJ} {H:Hp} {σ:qV} {τ:L2.St} (h:yM K H σ τ) (k:Nat) (caps:List Nat):yM K H (hG k caps σ) (capV k caps τ):=by
 refine ⟨by simp[hG,capV],fun i w e=>?_⟩;obtain ⟨hk,j,ej,es⟩:=zch e;obtain ⟨v,ev,rp⟩:=h.2 j w es;refine ⟨v,?_,rp⟩;unfold capV;rw[ZV (by simpa using hk),Zbe,Zp,ej];simp[ev]
theorem zcJ:∀ {l:List Str},cG l=true->l.Nodup
 | [],_=>Zb2
 |x::r,h=>by
  simp only[cG,Zl,Z5] at h;refine Zat.mpr ⟨fun hm=>?_,zcJ h.2⟩;have:=List.elem_eq_true_of_mem hm;rw[List.contains_eq_mem] at h;simp[hm] at h
theorem ziB {X:Cx} {sc out:Scope} (e:X.env.scope=out):relabel sc X.env=relS sc out:=by
 unfold relabel relS Env.kindOf;rw[e]
theorem zh7 {X:Cx} {sc out:Scope} (e:X.env.scope=out) (h:blkB out sc=true):BlkSc X sc:=by
 unfold blkB at h;simp only[Zl,ZL] at h;obtain ⟨⟨⟨h1,h2⟩,h3⟩,h4⟩:=h;refine ⟨eq_of_beq h1,fun y hy=>?_,fun y hy=>?_,fun x hx=>?_,fun y hy z=>?_⟩
 .simpa using (h2 _ hy).1
 .simpa using (h2 _ hy).2
 .have:=h3 _ hx;simp only[beq_self_eq_true,Zv,Bool.false_or,Bool.or_eq_true,beq_iff_eq] at this;show X.env.scope.names.lookup x=_\/X.env.scope.names.lookup x=_;rw[e];exact this
 .have:=h4 y hy;rw[z] at this;simpa using this
theorem zfC {X:Cx} {M:MC} {sc:Scope} {names:List Str} {caps:List Nat} (eN:X.N=M.N) (es:X.env.scope=M.sc)
  (h:(caps.all fun j=>decide (j<M.N.length)&&(sc.names.lookup (M.N.getD j Str.empty)==some .free))=true) :
  Caps X sc (names++caps.map (fun j=>M.N.getD j Str.empty)) (capV names.length caps):=by
 intro σ hl;simp only[ZL,Zl,decide_eq_true_eq,Z5] at h;refine ⟨by simp[capV],fun i x v hN hσ _=>?_⟩;obtain ⟨hk,j,ej,e⟩:=zch hσ;rw[ZV hk,Zp,ej] at hN;have hx:M.N.getD j Str.empty=x:=ZA hN;have hj:=h j (Zo ej);refine ⟨?_,j,?_,e⟩
 .rw[← hx];exact eq_of_beq hj.2
 .rw[eN,← hx,List.getD_eq_getElem?_getD,Zj hj.1];rfl
theorem zlu {K:yJ} {J:It} {H1:Hp} {items:List W} {stab:Hw->Prop} {G1:Hw} {σ:qV} {τ:L2.St} {tg:ITg} {c:T3} {e:E3} {Q:VK} {H0:Hp} (mc:sE c) (me:jQ e) (it:ItIs K J H1 items stab) (ab:xP K H1 G1) (hs:yM K H1 σ τ) (g0:yK K H0 H1)
  (hw:∀ w G' (Q:qV->Hw->Prop),zV tg w σ G' Q->zV tg w σ G' fun σ2 G2=>(σ2.length=σ.length/\∀ (i:Nat) (v:W),σ[i]?=some (some v)->σ2[i]?=some (some v))/\Q σ2 G2)
  (h:lcR items stab G1 (fun w G' K=>zV tg w σ G' fun σ2 G2=>c σ2 G2 fun b G3=>if b=true then e σ2 G3 fun x G4=>K (some x) G4 else K none G3) (uP K H0 Q)) :
  tLCb J τ (lowG K (zV tg)) (vT K c) (fun τ H Q=>yK K H0 H/\xN K e τ H Q) (fun acc H'=>∀ p,H' p=none->Q (.ref p) (xC H' p (.lst acc))) H1:=by
 obtain ⟨Pv,p0,pst,hlen,step,fin⟩:=h;refine ⟨fun i m τ acc H=>m+i=items.length/\yK K H1 H/\yM K H σ τ/\∃ ws G,zB K H ws acc/\xP K H G/\Pv i ws G,⟨items.length,rfl,.refl,hs,[],G1,rfl,ab,p0⟩,?_⟩;rintro i m τ acc H ⟨hm,gr,hs,ws,G,rs,a,pv⟩;have hst:=pst i ws G pv (by omega);have hacc:acc.length=ws.length:=rs.length
 by_cases hi:i<items.length
 .refine .inr ⟨it.go i H G gr a hst.1 hi,by omega,fun x H' y=>?_⟩;obtain ⟨w,ew,g1,rp,a1⟩:=it.yld i H G x H' gr a hst.1 hi y;refine ⟨w,σ,G,rp,hs.mono g1,a1,gQ tg w σ G _ _ (fun σ2 G2 q τ2 H2 g2 hs2 a2=>?_) (hw w G _ (step i w ws G ew pv))⟩;obtain ⟨⟨wl,wk⟩,q⟩:=q;have back:∀ {τ':L2.St} {H':Hp},yM K H' σ2 τ'->yM K H' σ τ':=fun {τ' H'} r=>⟨by rw[← wl];exact r.1,fun k w e=>r.2 k w (wk k w e)⟩;refine zci mc hs2 a2 q fun b G3 H3 g3 hs3 a3 q3=>?_
  cases b with
  |true =>
   rw[if_pos rfl] at q3 ⊢;refine ⟨g0.trans (gr.trans (g1.trans (g2.trans g3))),xJ me hs3 a3 q3 fun x G4 v H4 g4 hs4 rx a4 q4=>?_⟩;refine ⟨m-1,by omega,by omega,gr.trans (g1.trans (g2.trans (g3.trans g4))),back hs4,ws++[x],G4,?_,a4,q4⟩;exact (rs.mono (g1.trans (g2.trans (g3.trans g4)))).append ⟨v,[],rfl,rx,rfl⟩
  |false =>
   rw[if_neg (by decide)] at q3 ⊢;exact ⟨m-1,by omega,by omega,gr.trans (g1.trans (g2.trans g3)),back hs3,ws,G3,rs.mono (g1.trans (g2.trans g3)),a3,q3⟩
 .refine .inl ⟨it.stop i H G gr a hst.1 (by omega),fun p hp=>?_⟩;have ei:i=items.length:=by omega
  subst ei;exact fin ws G pv p (a.free hp) _ _ ((g0.trans gr).trans (wP hp)) rfl (a.new hp ⟨acc,rfl,rs.mono (wP hp)⟩)
theorem zen:∀ (tg:ITg) (w:W) (σ:qV) (G:Hw) (Q:qV->Hw->Prop),zV tg w σ G Q->zV tg w σ G fun σ2 G2=>σ2.length=σ.length/\Q σ2 G2:=by
 intro tg
 refine ITg.rec (motive_1:=fun _=>True) (motive_2:=fun _=>True) (motive_3:=fun _=>True) (motive_4:=fun _=>True) (motive_5:=fun tg=>∀ (w:W) (σ:qV) (G:Hw) (Q:qV->Hw->Prop),zV tg w σ G Q->zV tg w σ G fun σ2 G2=>σ2.length=σ.length/\Q σ2 G2)
  (motive_6:=fun ts=>∀ (ws:List W) (σ:qV) (G:Hw) (Q:qV->Hw->Prop),zY ts ws σ G Q->zY ts ws σ G fun σ2 G2=>σ2.length=σ.length/\Q σ2 G2)
  ?_ ?_ ?_ ?_ ?_ ?_ ?_ ?_ ?_ ?_ ?_ ?_ ?_ ?_ ?_ ?_ ?_ ?_ ?_ ?_ ?_ ?_ ?_ ?_ ?_ ?_ ?_ ?_ ?_ ?nm ?tup ?nil ?cons tg
 case nm=>exact fun i w σ G Q h=>⟨by simp,h⟩
 case tup =>
  intro ts ih w σ G Q h
  cases w with
  |tup ws=>exact ih ws σ G Q h
  |_=>exact h.elim
 case nil =>
  intro ws σ G Q h
  cases ws with
  |nil=>exact ⟨rfl,h⟩
  |cons _ _=>exact h.elim
 case cons =>
  intro t ts ht hts ws σ G Q h
  cases ws with
  |nil=>exact h.elim
  |cons w r =>
   refine gQ t w σ G _ _ (fun σ' G' q=>?_) (ht w σ G _ h);exact bU ts r σ' G' _ _ (fun σ2 G2 q2=>⟨q2.1.trans q.1,q2.2⟩) (hts r σ' G' Q q.2)
 all_goals intros;trivial
mutual
theorem zcz:∀ (tg:ITg) (w:W) (σ:qV) (G:Hw) (Q:qV->Hw->Prop),zV tg w σ G Q->zV tg w σ G fun σ2 G2=>(∀ i,i∉tgIx tg->σ2[i]?=σ[i]?)/\Q σ2 G2
 | .nm j,w,σ,G,Q,h=>⟨fun i hi=>by rw[Zbn];intro z;exact hi (by simp[tgIx,z]),h⟩
 | .tup ts,w,σ,G,Q,h=>by
  cases w with
  |tup ws=>exact zaO ts ws σ G Q h
  |_=>exact h.elim
theorem zaO:∀ (ts:ITgs) (ws:List W) (σ:qV) (G:Hw) (Q:qV->Hw->Prop),zY ts ws σ G Q->zY ts ws σ G fun σ2 G2=>(∀ i,i∉zfZ ts->σ2[i]?=σ[i]?)/\Q σ2 G2
 | .nil,ws,σ,G,Q,h=>by
  cases ws with
  |nil=>exact ⟨fun _ _=>rfl,h⟩
  |cons _ _=>exact h.elim
 | .cons t ts,ws,σ,G,Q,h=>by
  cases ws with
  |nil=>exact h.elim
  |cons w r =>
   refine gQ t w σ G _ _ (fun σ' G' q=>?_) (zcz t w σ G _ h);refine bU ts r σ' G' _ _ (fun σ2 G2 q2=>⟨fun i hi=>?_,q2.2⟩) (zaO ts r σ' G' Q q.2);simp only[zfZ,ZD,not_or] at hi;rw[q2.1 i hi.2,q.1 i hi.1]
end
theorem zft {K:yJ} {H:Hp}:∀ (ks:List Str) {ws:List W} {vs:List V} {a:List (yA×W)} {b:List (yA×V)},zB K H ws vs->yL K H a b ->
  yL K H ((ks.zip ws).foldl (fun acc kv=>dput acc (.inr kv.1) kv.2) a) (((ks.zip vs).map fun kv=>((Sum.inr kv.1:yA),kv.2)).foldl (fun acc kv=>tR acc kv.1 kv.2) b)
 | [],ws,vs,a,b,_,h=>by simpa using h
 |k::ks,[],vs,a,b,hr,h=>by rw[show vs=[] from hr];simpa using h
 |k::ks,w::ws,vs,a,b,hr,h=>by
  obtain ⟨v,r,e,rw',rr⟩:=hr;subst e;simp only[Zan,List.foldl_cons,zzU];exact zft ks rr (h.put rw')
theorem zhn {K:yJ} {H:Hp} {G:Hw} {w:W} {v:V} {T:String} (r:xT K H w v) (ab:xP K H G) (h:tyW G w T):tyV K T v H:=by
 cases w with
 |str x=>cases r;exact h
 |ref p =>
  cases r;simp only[tyW] at h
  split at h
  .rename_i ws e;obtain ⟨vs,q,_⟩:=ab.lst e;exact .inl ⟨h,vs,.of q⟩
  .rename_i ws e;obtain ⟨vs,q,_⟩:=ab.seq (a:=p) (ws:=ws) (by unfold yP;rw[e]);exact .inl ⟨h,vs,q⟩
  .rename_i kvs e;obtain ⟨l,q,_⟩:=ab.dic e;exact .inr (.inr (.inl ⟨h,.inl ⟨l,q⟩⟩))
  .exact h.elim
 |_=>exact h.elim
theorem zi9 {l:List Nat} {k:Nat} (h:l.all (fun i=>decide (i<k))=true) {i:Nat} (hi:k<=i):i∉l:=fun hm=>by
 have:=ZL.mp h i hm;simp at this;omega
theorem zjr {op:CmpOp} {a b:IE} {M:MC} {l:Expr} {os:List CmpOp} {rs:List Expr} {q:Pos} (h:mE (.cmp op a b) M (.Compare l os rs q)=true):∃ o r,os=[o]/\rs=[r]:=by
 cases os with
 |nil=>exact absurd h zzN
 |cons o os =>
  cases os with
  |cons _ _=>exact absurd h zzN
  |nil =>
   cases rs with
   |nil=>exact absurd h zzN
   |cons r rs =>
    cases rs with
    |cons _ _=>exact absurd h zzN
    |nil=>exact ⟨o,r,rfl,rfl⟩
theorem zjs {o1 o2:CmpOp} {a b c:IE} {M:MC} {l:Expr} {os:List CmpOp} {rs:List Expr} {q:Pos} (h:mE (.chn o1 o2 a b c) M (.Compare l os rs q)=true):∃ p1 p2 r t,os=[p1,p2]/\rs=[r,t]:=by
 cases os with
 |nil=>exact absurd h zzN
 |cons p1 os =>
  cases os with
  |nil=>exact absurd h zzN
  |cons p2 os =>
   cases os with
   |cons _ _=>exact absurd h zzN
   |nil =>
    cases rs with
    |nil=>exact absurd h zzN
    |cons r rs =>
     cases rs with
     |nil=>exact absurd h zzN
     |cons t rs =>
      cases rs with
      |cons _ _=>exact absurd h zzN
      |nil=>exact ⟨p1,p2,r,t,rfl,rfl⟩
section
variable {X:Cx} {a b c d:Expr} {pos:Pos} {ta tb tc td:TE}
end
section
variable {Γ:Ctx3} {p:Par} (g:Good Γ p)
def qJ (Γ:Ctx3) (p:Par) (e:IE):Prop:=∀ M X x,Lk Γ M p X->mE e M x=true->PE X x (xN X.K (zH Γ XN e).e)/\PT X x (vT X.K (zH Γ XN e).t)/\∀ op vs pos,x=.BoolOp op vs pos->PW X x (vT X.K (zH Γ XN e).t)
def OkO (Γ:Ctx3) (p:Par) (o:IO):Prop:=∀ M X,Lk Γ M p X->(∀ x,mO o M x=true->PO X x (lowO X.K (zP Γ XN o)))/\∀ xs,mC o M xs=true->PTs X xs (vT X.K (zR Γ o))
def OkA (Γ:Ctx3) (p:Par) (es:IEs):Prop:=∀ M X xs,Lk Γ M p X->mA es M xs=true->PA X xs (nQ X.K (zW Γ XN es))/\xs.all xE=true /\
 (∀ ks keys pos,keyB ks keys=true->keys.length=xs.length->keys.all (·.isSome)=true/\ks.length=keys.length/\∃ trs,PPs X pos keys xs trs/\∀ τ H (Q:List (V×V)->Hp->Prop),
  (∃ σ G,yM X.K H σ τ/\xP X.K H G/\zW Γ XN es σ G fun ws G'=>∀ vs H',yK X.K H H'->zB X.K H' ws vs->xP X.K H' G'->Q ((ks.zip vs).map fun kv=>(V.str kv.1,kv.2)) H')->zct trs τ H Q)/\gA X xs (semL Γ es)
def OkI (Γ:Ctx3) (p:Par) (it:II):Prop:=∀ M X x,Lk Γ M p X->mI it M x=true->∀ tg,PI X tg x (lowI X.K (zS Γ XN it))
theorem qW {M:MC} {X:Cx} {x:Expr} {e:E3} (m:jQ e) (h:PE X x (xN X.K e)) (he:∀ whole,isTrue x X.env whole=(do let v ← whole;standAt x.pos;holding [v] (truthy v))) (hb:∀ op vs pos,x≠.BoolOp op vs pos) :
  PE X x (xN X.K (zF e).e)/\PT X x (vT X.K (zF e).t)/\∀ op vs pos,x=.BoolOp op vs pos->PW X x (vT X.K (zF e).t) :=
 ⟨h,pt_of m h he,fun op vs pos z=>absurd z (hb op vs pos)⟩
include g
theorem s_var (i:Nat):qJ Γ p (.var i):=by
 intro M X x L h
 cases x with
 |Name y q =>
  replace h:=bd4 h;simp only[Z5] at h;refine qW (M:=M) (yS g.mono XN (.var i)) ((zk0 (i:=i) (by rw[L.N];exact jR h.1.1.1) (by rw[L.sc];exact zkc h.1.1.2) h.1.2 h.2).imp fun τ H Q q=>?_) (fun _=>rfl) (fun _ _ _ z=>nomatch z);obtain ⟨σ,G,hs,ab,q⟩:=q
  split at q
  .rename_i w e;obtain ⟨v,ev,rp⟩:=hs.2 i w e;exact ⟨v,ev,q v H .refl rp ab⟩
  .exact q.elim
 |_=>exact absurd h zzN
theorem s_con (c:Const):qJ Γ p (.con c):=by
 intro M X x L h
 cases x with
 |Constant d k q =>
  replace h:=of_decide_eq_true h;subst h;refine qW (M:=M) (yS g.mono XN (.con c)) ?_ (fun _=>rfl) (fun _ _ _ z=>nomatch z)
  cases c with
  |none=>exact zk6.imp fun τ H Q q=>by obtain ⟨σ,G,hs,ab,q⟩:=q;exact q _ H .refl rfl ab
  |bool b=>exact pe_bl.imp fun τ H Q q=>by obtain ⟨σ,G,hs,ab,q⟩:=q;exact q _ H .refl rfl ab
  |int b=>exact zhE.imp fun τ H Q q=>by obtain ⟨σ,G,hs,ab,q⟩:=q;exact q _ H .refl rfl ab
  |str b=>exact zhC.imp fun τ H Q q=>by obtain ⟨σ,G,hs,ab,q⟩:=q;exact q _ H .refl rfl ab
  |_=>exact fun pins s σ H Q I q=>by obtain ⟨σ,G,hs,ab,q⟩:=q;exact q.elim
 |_=>exact absurd h zzN
theorem s_glb (i:Nat):qJ Γ p (.glb i):=by
 intro M X x L h
 cases x with
 |Name y q =>
  replace h:=pT h;have gl:=zdx L.sc h.2;have hi:=jR h.1;rw[← L.gls] at hi;obtain ⟨e,ei,rfl⟩:=nV hi;refine qW (M:=M) (yS g.mono XN (.glb i)) ((g.gl e (jN ei) X L.fits gl.1 q gl.2.1 gl.2.2).imp fun τ H Q q=>?_) (fun _=>rfl) (fun _ _ _ z=>nomatch z);obtain ⟨σ,G,hs,ab,q⟩:=q;simp only[ei] at q;exact ⟨σ,G,hs,ab,q⟩
 |_=>exact absurd h zzN
theorem hu_X {M:MC} {X:Cx} (L:Lk Γ M p X):X.A.units+200<cLine:=by rw[L.fits.A];exact g.un
theorem s_bin (op:Operator) (a b:IE) (ha:qJ Γ p a) (hb:qJ Γ p b):qJ Γ p (.bin op a b):=by
 intro M X x L h
 cases x with
 |BinOp l o r q =>
  replace h:=bd3 h;simp only[decide_eq_true_eq] at h;obtain ⟨⟨rfl,h1⟩,h2⟩:=h;exact qW (M:=M) (yS g.mono XN (.bin op a b)) ((pe_op (zme op) (ha M X l L h1).1 (hb M X r L h2).1).imp fun τ H Q q=>zcI (yS g.mono XN a) (yS g.mono XN b) (zbw op) q) (fun _=>rfl) (fun _ _ _ z=>nomatch z)
 |_=>exact absurd h zzN
theorem s_neg (a:IE) (ha:qJ Γ p a):qJ Γ p (.neg a):=by
 intro M X x L h
 cases x with
 |UnaryOp o l q =>
  cases o with
  |USub =>
   skip
   refine qW (M:=M) (yS g.mono XN (.neg a)) ((zk1 zhm (ha M X l L h).1).imp fun τ H Q q=>?_) (fun _=>rfl) (fun _ _ _ z=>nomatch z);obtain ⟨σ,G,hs,ab,q⟩:=q;refine xJ (yS g.mono XN a) hs ab q fun w G1 v H1 gr _ rp ab q=>?_
   cases w with
   |int i=>cases rp;exact ⟨i,rfl,q _ H1 gr rfl ab⟩
   |_=>exact q.elim
  |_=>exact absurd h zzN
 |_=>exact absurd h zzN
theorem s_not (a:IE) (ha:qJ Γ p a):qJ Γ p (.not a):=by
 intro M X x L h
 cases x with
 |UnaryOp o l q =>
  cases o with
  |Not =>
   skip
   refine ⟨(zk5 (ha M X l L h).1).imp fun τ H Q q=>?_,(zkT (ha M X l L h).2.1).imp fun τ H Q q=>?_,fun _ _ _ z=>nomatch z⟩
   .obtain ⟨σ,G,hs,ab,q⟩:=q;refine xJ (yS g.mono XN a) hs ab q fun w G1 v H1 gr _ rp ab q=>?_
    cases w with
    |bl i=>cases rp;exact ⟨i,rfl,q _ H1 gr rfl ab⟩
    |_=>exact q.elim
   .obtain ⟨σ,G,hs,ab,q⟩:=q;exact zci (nZ g.mono XN a) hs ab q fun b G1 H1 gr _ ab q=>q H1 gr ab
  |_=>exact absurd h zzN
 |_=>exact absurd h zzN
theorem s_cmp (op:CmpOp) (a b:IE) (ha:qJ Γ p a) (hb:qJ Γ p b):qJ Γ p (.cmp op a b):=by
 intro M X x L h
 cases x with
 |Compare l os rs q =>
   obtain ⟨o,r,rfl,rfl⟩:=zjr h;replace h:=bd4 h;simp only[decide_eq_true_eq] at h;obtain ⟨⟨⟨rfl,h1⟩,h2⟩,h3⟩:=h;have m:=yS g.mono XN (.cmp op a b)
   refine ⟨(ziV (hJ (hu_X g L) op) (ha M X l L h1).1 (hb M X r L h2).1 (nX h3)).imp fun τ H Q q=>zcI (yS g.mono XN a) (yS g.mono XN b) (wO op) q,
    (ziK (hJ (hu_X g L) op) (ha M X l L h1).1 (hb M X r L h2).1 (nX h3)).imp fun τ H Q q=>zcI (yS g.mono XN a) (yS g.mono XN b) (wO op) (zfF m q),fun _ _ _ z=>nomatch z⟩
 |_=>exact absurd h zzN
theorem s_chn (o1 o2:CmpOp) (a b c:IE) (ha:qJ Γ p a) (hb:qJ Γ p b) (hc:qJ Γ p c):qJ Γ p (.chn o1 o2 a b c):=by
 intro M X x L h
 cases x with
 |Compare l os rs q =>
   obtain ⟨q1,q2,r,t,rfl,rfl⟩:=zjs h;replace h:=bd6 h;simp only[decide_eq_true_eq] at h;obtain ⟨⟨⟨⟨⟨rfl,rfl⟩,h1⟩,h2⟩,h3⟩,h4⟩:=h;have m:=yS g.mono XN (.chn o1 o2 a b c)
   have key:∀ τ H Q,xN X.K (zH Γ XN (.chn o1 o2 a b c)).e τ H Q->zd3 (low2 X.K (yT o1)) (low2 X.K (yT o2)) (xN X.K (zH Γ XN a).e) (xN X.K (zH Γ XN b).e) (xN X.K (zH Γ XN c).e) τ H Q:=fun τ H Q q=>by
    obtain ⟨σ,G,hs,ab,q⟩:=q;refine xJ (yS g.mono XN a) hs ab q fun x G1 v H1 g1 hs1 rx a1 q=>?_;refine xJ (yS g.mono XN b) hs1 a1 q fun y G2 u H2 g2 hs2 ry a2 q=>?_;refine ⟨x,y,G2,rx.mono g2,ry,a2,wO o1 x y G2 _ _ (fun z G3 q v3 H3 g3 r3 a3=>?_) q⟩
    cases z with
    |bl k =>
     cases r3;refine ⟨k,rfl,?_⟩;have q:if k=true then _ else _:=q
     split
     .rename_i hk;rw[if_pos hk] at q;refine xJ (yS g.mono XN c) (hs2.mono g3) a3 q fun w G4 v4 H4 g4 hs4 r4 a4 q=>?_;exact ⟨y,w,G4,(ry.mono g3).mono g4,r4,a4,wO o2 y w G4 _ _ (fun w5 G5 q v5 H5 g5=>q v5 H5 (g1.trans (g2.trans (g3.trans (g4.trans g5))))) q⟩
     .rename_i hk;rw[if_neg hk] at q;exact q _ H3 (g1.trans (g2.trans g3)) rfl a3
    |_=>exact q.elim
   refine ⟨(zgy (hJ (hu_X g L) o1) (hJ (hu_X g L) o2) (ha M X l L h1).1 (hb M X r L h2).1 (hc M X t L h3).1 (nX (op:=o2) h4)).imp key,
    (zgl (hJ (hu_X g L) o1) (hJ (hu_X g L) o2) (ha M X l L h1).1 (hb M X r L h2).1 (hc M X t L h3).1 (nX (op:=o2) h4)).imp fun τ H Q q=>key _ _ _ (zfF m q),fun _ _ _ z=>nomatch z⟩
 |_=>exact absurd h zzN
theorem s_ch3 (o1 o2 o3:CmpOp) (a b c d:IE) (ha:qJ Γ p a) (hb:qJ Γ p b) (hc:qJ Γ p c) (hd:qJ Γ p d):qJ Γ p (.ch3 o1 o2 o3 a b c d):=fun M X x L h=>absurd h zzN
theorem s_and (a b:IE) (ha:qJ Γ p a) (hb:qJ Γ p b):qJ Γ p (.and a b):=by
 intro M X x L h
 have e1:∀ τ H Q,xN X.K (zH Γ XN (.and a b)).e τ H Q->zkp (xN X.K (zH Γ XN a).e) (xN X.K (zH Γ XN b).e) τ H Q:=fun τ H Q q=>by
  obtain ⟨σ,G,hs,ab,q⟩:=q;refine xJ (yS g.mono XN a) hs ab q fun w G1 v H1 g1 hs1 rx a1 q=>?_
  cases w with
  |bl k =>
   cases rx;refine ⟨k,rfl,?_⟩;have q:if k=true then _ else _:=q
   split
   .rename_i hk;rw[if_pos hk] at q;exact ⟨σ,G1,hs1,a1,yS g.mono XN b σ G1 _ _ (fun w G' q v' H' g'=>q v' H' (g1.trans g')) q⟩
   .rename_i hk;rw[if_neg hk] at q;exact q _ H1 g1 rfl a1
  |_=>exact q.elim
 have e2:∀ τ H Q,vT X.K (zH Γ XN (.and a b)).t τ H Q->tAnd (vT X.K (zH Γ XN a).t) (vT X.K (zH Γ XN b).t) τ H Q:=fun τ H Q q=>by
  obtain ⟨σ,G,hs,ab,q⟩:=q;refine zci (nZ g.mono XN a) hs ab q fun k G1 H1 g1 hs1 a1 q=>?_
  split
  .rename_i hk;rw[if_pos hk] at q;exact ⟨σ,G1,hs1,a1,nZ g.mono XN b σ G1 _ _ (fun w G' q H' g'=>q H' (g1.trans g')) q⟩
  .rename_i hk;rw[if_neg hk] at q;exact q H1 g1 a1
 cases x with
 |BoolOp o vs q =>
  match o,vs,h with
  | .And,[l,r],h =>
   replace h:=pT h;have A:=ha M X l L h.1;have B:=hb M X r L h.2;have W2:PW X (.BoolOp .And [l,r] q) (vT X.K (zH Γ XN (.and a b)).t):=(zhy A.2.1 (ziG B.2.1)).imp e2;exact ⟨(zhF A.1 (zhD B.1)).imp e1,W2.pt,fun _ _ _ _=>W2⟩
  | .And,l::r::q'::rest,h =>
   replace h:=pT h;have A:=ha M X l L h.1;have B:=hb M X _ L h.2;have W2:PW X (.BoolOp .And (l::r::q'::rest) q) (vT X.K (zH Γ XN (.and a b)).t):=(zhy A.2.1 (B.2.2 _ _ _ rfl)).imp e2;exact ⟨(zhF A.1 B.1).imp e1,W2.pt,fun _ _ _ _=>W2⟩
 |_=>exact absurd h zzN
theorem s_or (a b:IE) (ha:qJ Γ p a) (hb:qJ Γ p b):qJ Γ p (.or a b):=by
 intro M X x L h
 have e1:∀ τ H Q,xN X.K (zH Γ XN (.or a b)).e τ H Q->tOrV (xN X.K (zH Γ XN a).e) (xN X.K (zH Γ XN b).e) τ H Q:=fun τ H Q q=>by
  obtain ⟨σ,G,hs,ab,q⟩:=q;refine xJ (yS g.mono XN a) hs ab q fun w G1 v H1 g1 hs1 rx a1 q=>?_
  cases w with
  |bl k =>
   cases rx;refine ⟨k,rfl,?_⟩;have q:if k=true then _ else _:=q
   split
   .rename_i hk;rw[if_pos hk] at q;exact q _ H1 g1 rfl a1
   .rename_i hk;rw[if_neg hk] at q;exact ⟨σ,G1,hs1,a1,yS g.mono XN b σ G1 _ _ (fun w G' q v' H' g'=>q v' H' (g1.trans g')) q⟩
  |_=>exact q.elim
 have e2:∀ τ H Q,vT X.K (zH Γ XN (.or a b)).t τ H Q->tOr (vT X.K (zH Γ XN a).t) (vT X.K (zH Γ XN b).t) τ H Q:=fun τ H Q q=>by
  obtain ⟨σ,G,hs,ab,q⟩:=q;refine zci (nZ g.mono XN a) hs ab q fun k G1 H1 g1 hs1 a1 q=>?_
  split
  .rename_i hk;rw[if_pos hk] at q;exact q H1 g1 a1
  .rename_i hk;rw[if_neg hk] at q;exact ⟨σ,G1,hs1,a1,nZ g.mono XN b σ G1 _ _ (fun w G' q H' g'=>q H' (g1.trans g')) q⟩
 cases x with
 |BoolOp o vs q =>
  match o,vs,h with
  | .Or,[l,r],h =>
   replace h:=pT h;have A:=ha M X l L h.1;have B:=hb M X r L h.2;have W2:PW X (.BoolOp .Or [l,r] q) (vT X.K (zH Γ XN (.or a b)).t):=(zkR A.2.1 (zkQ B.2.1)).imp e2;exact ⟨(zk4 A.1 (zhD B.1)).imp e1,W2.pt,fun _ _ _ _=>W2⟩
  | .Or,l::r::q'::rest,h =>
   replace h:=pT h;have A:=ha M X l L h.1;have B:=hb M X _ L h.2;have W2:PW X (.BoolOp .Or (l::r::q'::rest) q) (vT X.K (zH Γ XN (.or a b)).t):=(zkR A.2.1 (B.2.2 _ _ _ rfl)).imp e2;exact ⟨(zk4 A.1 B.1).imp e1,W2.pt,fun _ _ _ _=>W2⟩
 |_=>exact absurd h zzN
theorem s_ite (c a b:IE) (hc:qJ Γ p c) (ha:qJ Γ p a) (hb:qJ Γ p b):qJ Γ p (.ite c a b):=by
 intro M X x L h
 cases x with
 |IfExp t l r q =>
  replace h:=bd3 h;refine ⟨(zgx (hc M X t L h.1.1).2.1 (ha M X l L h.1.2).1 (hb M X r L h.2).1).imp fun τ H Q q=>?_,fun _ _ _ _ _ _ q=>?_,fun _ _ _ z=>nomatch z⟩
  .obtain ⟨σ,G,hs,ab,q⟩:=q;refine zci (nZ g.mono XN c) hs ab q fun k G1 H1 g1 hs1 a1 q=>?_
   split
   .rename_i hk;rw[if_pos hk] at q;exact ⟨σ,G1,hs1,a1,yS g.mono XN a σ G1 _ _ (fun w G' q v' H' g'=>q v' H' (g1.trans g')) q⟩
   .rename_i hk;rw[if_neg hk] at q;exact ⟨σ,G1,hs1,a1,yS g.mono XN b σ G1 _ _ (fun w G' q v' H' g'=>q v' H' (g1.trans g')) q⟩
  .obtain ⟨_,_,_,_,z⟩:=q;exact z.elim
 |_=>exact absurd h zzN
theorem s_ix (a i:IE) (ha:qJ Γ p a) (hb:qJ Γ p i):qJ Γ p (.ix a i):=by
 intro M X x L h
 cases x with
 |Subscript l r q =>
  replace h:=bd3 h;exact qW (M:=M) (yS g.mono XN (.ix a i)) ((pe_ix (ix_ok (hu_X g L)) (ha M X l L h.1.1).1 (hb M X r L h.1.2).1 (zgs h.2)).imp fun τ H Q q=>zcI (yS g.mono XN a) (yS g.mono XN i) zcS q) (fun _=>rfl) (fun _ _ _ z=>nomatch z)
 |_=>exact absurd h zzN
theorem s_sl (a:IE) (lo hi:IO) (ha:qJ Γ p a) (hl:OkO Γ p lo) (hh:OkO Γ p hi):qJ Γ p (.sl a lo hi):=by
  intro M X x L h
  cases x with
  |Subscript l r q =>
    cases r with
    |Slice y z sp q2 =>
     cases sp with
     |none =>
      replace h:=bd3 h;refine qW (M:=M) (yS g.mono XN (.sl a lo hi)) ((zgw sl_ok (ha M X l L h.1.1).1 ((hl M X L).1 y h.1.2) ((hh M X L).1 z h.2)).imp fun τ H Q q=>?_) (fun _=>rfl) (fun _ _ _ z=>nomatch z);obtain ⟨σ,G,hs,ab,q⟩:=q;refine xJ (yS g.mono XN a) hs ab q fun w G1 v H1 g1 hs1 rx a1 q=>?_;refine ⟨σ,G1,hs1,a1,zll g.mono XN lo σ G1 _ _ (fun o G2 q H2 g2 a2=>?_) q⟩;refine ⟨σ,G2,hs1.mono g2,a2,zll g.mono XN hi σ G2 _ _ (fun o2 G3 q H3 g3 a3=>?_) q⟩;exact ⟨w,G3,(rx.mono g2).mono g3,a3,zcy (fun w' G' q v' H' g'=>q v' H' (g1.trans (g2.trans (g3.trans g')))) q⟩
     |some _=>exact absurd h zzN
    |_=>exact absurd h zzN
  |_=>exact absurd h zzN
theorem s_tup (es:IEs) (hs:OkA Γ p es):qJ Γ p (.tup es):=by
 intro M X x L h
 cases x with
 |Tuple xs k q =>
  skip
  refine qW (M:=M) (yS g.mono XN (.tup es)) ((zk2 (hs M X xs L h).1).imp fun τ H Q q=>?_) (fun _=>rfl) (fun _ _ _ z=>nomatch z);obtain ⟨σ,G,hs',ab,q⟩:=q;refine gC (vR g.mono XN es) hs' ab q fun ws G1 vs H1 g1 hs1 rs a1 q=>⟨by rw[rs.length];exact q.1,pG a1 rs fun v' H' g'=>q.2 v' H' (g1.trans g')⟩
 |_=>exact absurd h zzN
theorem s_lst (es:IEs) (hs:OkA Γ p es):qJ Γ p (.lst es):=by
 intro M X x L h
 cases x with
 |List xs q =>
  skip
  refine qW (M:=M) (yS g.mono XN (.lst es)) ((zk7 (hs M X xs L h).1).imp fun τ H Q q=>?_) (fun _=>rfl) (fun _ _ _ z=>nomatch z);obtain ⟨σ,G,hs',ab,q⟩:=q;refine gC (vR g.mono XN es) hs' ab q fun ws G1 vs H1 g1 hs1 rs a1 q=>⟨by rw[rs.length];exact q.1,qM a1 rs fun r hr v' H' g'=>q.2 r hr v' H' (g1.trans g')⟩
 |_=>exact absurd h zzN
theorem cZ {Γ:Ctx3} {M:MC} {es:IEs} {xs:List Expr} (h:mA es M xs=true):xs=[]->∀ σ G Q,zW Γ XN es σ G Q->Q [] G:=by
 rintro rfl σ G Q q
 cases es with
 |nil=>exact q
 |cons _ _=>exact absurd h zzN
theorem zkD (f:Nat) (es:IEs) (hs:OkA Γ p es):qJ Γ p (.call f es):=by
  intro M X x L h
  cases x with
  |Call fn xs kw q =>
    cases fn with
    |Name y qy =>
     cases kw with
     |nil =>
      replace h:=bd3 h;have gl:=zdx L.sc h.1.2;have hi:=jR h.1.1;rw[← L.fns] at hi;obtain ⟨e,ei,rfl⟩:=nV hi;have A:=hs M X xs L h.2;refine qW (M:=M) (yS g.mono XN (.call f es)) ((g.fn e (jN ei) X L.fits gl.1 xs (zW Γ XN es) qy q (vR g.mono XN es) A.2.1 A.1 (cZ g h.2) gl.2.1 gl.2.2).imp fun τ H Q q=>?_) (fun _=>rfl) (fun _ _ _ z=>nomatch z);obtain ⟨σ,G,hs',ab,q⟩:=q;refine ⟨σ,G,hs',ab,vR g.mono XN es σ G _ _ (fun ws G1 q=>?_) q⟩;simp only[ei] at q;exact q
     |cons _ _=>exact absurd h zzN
    |_=>exact absurd h zzN
  |_=>exact absurd h zzN
theorem s_spc (i:Nat) (es:IEs) (hs:OkA Γ p es):qJ Γ p (.spc i es):=by
 intro M X x L h;replace h:=pT h;replace h:=h.2
 split at h
 .rename_i m hm
  split at h
  .rename_i xs hx;rw[← L.sxs] at hm;obtain ⟨k,ek,rfl⟩:=nV hm;have A:=hs M X xs L h;have q:=g.sx k (jN ek) X L.fits x xs (semL Γ es) (by rw[L.sc];exact hx) A.2.2.2 A.2.1 (by rw[← dA];exact A.1);refine qW (M:=M) (yS g.mono XN (.spc i es)) (q.1.imp fun τ H Q q=>?_) q.2.1 q.2.2;obtain ⟨σ,G,hs',ab,q⟩:=q;refine ⟨σ,G,hs',ab,?_⟩;rw[← dA];refine vR g.mono XN es σ G _ _ (fun ws G1 q=>?_) q;simp only[ek] at q;exact q
  .exact absurd h zzN
 .exact absurd h zzN
theorem s_mth (m:Nat) (o:IE) (es:IEs) (ho:qJ Γ p o) (hs:OkA Γ p es):qJ Γ p (.mth m o es):=by
  intro M X x L h
  cases x with
  |Call fn xs kw q =>
    cases fn with
    |Attribute l y qy =>
     cases kw with
     |nil =>
      replace h:=bd6 h;simp only[decide_eq_true_eq] at h;have hi:=jR h.1.1.1.1.1;rw[← L.mts] at hi;obtain ⟨e,ei,rfl⟩:=nV hi;have A:=hs M X xs L h.2;have B:=ho M X l L h.1.2;refine qW (M:=M) (yS g.mono XN (.mth m o es)) ((g.mt e (jN ei) X L.fits l xs (zH Γ XN o).e (zW Γ XN es) qy q (yS g.mono XN o) (vR g.mono XN es) h.1.1.1.1.2 h.1.1.1.2 h.1.1.2 A.2.1 B.1 A.1 (cZ g h.2)).imp fun τ H Q q=>?_) (fun _=>rfl) (fun _ _ _ z=>nomatch z);obtain ⟨σ,G,hs',ab,q⟩:=q;refine ⟨σ,G,hs',ab,yS g.mono XN o σ G _ _ (fun w G1 q=>?_) q⟩;simp only[ei] at q;exact q
     |cons _ _=>exact absurd h zzN
    |_=>exact absurd h zzN
  |_=>exact absurd h zzN
theorem s_att (o:IE) (f:Str) (ho:qJ Γ p o):qJ Γ p (.att o f):=fun M X x L h=>absurd h zzN
end
section
variable {Γ:Ctx3} {p:Par} (g:Good Γ p)
include g
theorem s_dct (ks:List Str) (es:IEs) (hs:OkA Γ p es):qJ Γ p (.dct ks es):=by
 intro M X x L h
 cases x with
 |Dict keys xs q =>
  replace h:=bd5 h;simp only[decide_eq_true_eq,Z5] at h;obtain ⟨⟨⟨⟨h1,h2⟩,h3⟩,h4⟩,h5⟩:=h;obtain ⟨all,ek,trs,pp,low⟩:=(hs M X xs L h2).2.2.1 ks keys q h1 h3
  have h0:keys≠[]:=by
   intro z;rw[z] at ek
   cases ks with
   |nil=>cases h5
   |cons _ _=>cases ek
  refine qW (M:=M) (yS g.mono XN (.dct ks es)) ((ziU pp all h3 h0 h4).imp fun τ H Q q=>?_) (fun _=>rfl) (fun _ _ _ z=>nomatch z);intro a ha;obtain ⟨σ,G,hs',ab,q⟩:=q;have gr:yK X.K H (xC H a (.dK [])):=wP ha;refine low τ _ _ ⟨σ,put G a (.dic []),hs'.mono gr,ab.new ha ⟨[],rfl,rfl⟩,vR g.mono XN es σ _ _ _ (fun ws G1 q vs H1 g1 rs a1=>?_) (q a (ab.free ha))⟩;obtain ⟨q1,q2,q3⟩:=q;obtain ⟨l,e,rl⟩:=a1.dic q1
  have el:l=[]:=by
   cases l with
   |nil=>rfl
   |cons _ _=>cases rl
  subst el;refine ⟨e,(ks.zip vs).map (fun kv=>((Sum.inr kv.1:yA),kv.2)),by rw[ZaH];rfl,?_,?_⟩
  .rw[zzM,List.length_zip];omega
  .have gr2:yK X.K H1 (xC H1 a (.dK (mF [] ((ks.zip vs).map fun kv=>((Sum.inr kv.1:yA),kv.2))))):=a1.grow q1;exact q3 _ _ (gr.trans (g1.trans gr2)) rfl (a1.chg q1 ⟨_,rfl,zft ks (rs.mono gr2) rfl⟩)
 |_=>exact absurd h zzN
theorem zaY (tg:ITg) (names:List Str) (caps:List Nat) (it:II) (c:IO) (elt:IE) (hi:OkI Γ p it) (hc:OkO Γ p c) (he:qJ Γ p elt) {M:MC} {X:Cx} (L:Lk Γ M p X) {x t ix:Expr} {ifs:List Expr} {sc:Scope}
  (h:(blkB M.sc sc&&gT ix&&cG (names++caps.map (fun j=>M.N.getD j Str.empty))&&(caps.all fun j=>decide (j<M.N.length)&&(sc.names.lookup (M.N.getD j Str.empty)==some .free)) &&
    mI it M ix&&((tgIx tg).all fun i=>decide (i<names.length))&&mG { M with sc:=relS sc M.sc,N:=names++caps.map (fun j=>M.N.getD j Str.empty),own:=fun x=>sc.names.lookup x==some .cell } tg t&&mC c { M with sc:=relS sc M.sc,N:=names++caps.map (fun j=>M.N.getD j Str.empty),own:=fun x=>sc.names.lookup x==some .cell } ifs&&mE elt { M with sc:=relS sc M.sc,N:=names++caps.map (fun j=>M.N.getD j Str.empty),own:=fun x=>sc.names.lookup x==some .cell } x)=true) :
  PI X t ix (lowI X.K (zS Γ XN it))/\BlkSc X sc/\Caps X sc (names++caps.map (fun j=>M.N.getD j Str.empty)) (capV names.length caps) /\
  (∀ X',IsBlock X (names++caps.map (fun j=>M.N.getD j Str.empty)) sc X'->PG X' t (lowG X.K (zV tg)))/\(∀ X',IsBlock X (names++caps.map (fun j=>M.N.getD j Str.empty)) sc X'->PTs X' ifs (vT X.K (zR Γ c))) /\
  (∀ H1 X',IsBlock X (names++caps.map (fun j=>M.N.getD j Str.empty)) sc X'->PE X' x (fun τ H Q=>yK X.K H1 H/\xN X.K (zH Γ XN elt).e τ H Q))/\(∀ y,foldedSetIterable ix X.env y=pure y) /\
  ∀ τ H Q,xN X.K (zH Γ XN (.lc tg names caps it c elt)).e τ H Q->tLC (lowI X.K (zS Γ XN it)) (capV names.length caps) (lowG X.K (zV tg)) (vT X.K (zR Γ c)) (fun H0 τ H Q=>yK X.K H0 H/\xN X.K (zH Γ XN elt).e τ H Q) τ H Q:=by
 simp only[Zl] at h;obtain ⟨⟨⟨⟨⟨⟨⟨⟨h1,h2⟩,h3⟩,h4⟩,h5⟩,h6⟩,h7⟩,h8⟩,h9⟩:=h
 have lk:∀ X',IsBlock X (names++caps.map (fun j=>M.N.getD j Str.empty)) sc X'->Lk Γ { M with sc:=relS sc M.sc,N:=names++caps.map (fun j=>M.N.getD j Str.empty),own:=fun x=>sc.names.lookup x==some .cell } p X':=fun X' b =>
  ⟨⟨b.prog.trans L.fits.prog,b.w.trans L.fits.w,b.K.trans L.fits.K,b.mg.trans L.fits.mg,b.base.trans L.fits.base,b.A.trans L.fits.A,b.calm.trans L.fits.calm,b.xe⟩,b.N,b.scope.trans (ziB L.sc),zcJ h3,(fun x z=>b.fn x (eq_of_beq z)),(zh7 L.sc h1).kind,L.fns,L.gls,L.mts,L.its,L.sxs,L.ixs⟩
 refine ⟨hi M X ix L h5 t,zh7 L.sc h1,zfC L.N L.sc h4,fun X' b=>?_,fun X' b=>?_,fun H1 X' b=>?_,zbi h2,fun τ H Q q=>?_⟩
 .rw[← b.K];exact sndG (lk X' b) tg t h7
 .rw[← b.K];exact (hc _ X' (lk X' b)).2 ifs h8
 .rw[← b.K];exact (he _ X' x (lk X' b) h9).1.imp fun _ _ _ z=>z.2
 .obtain ⟨σ,G,hs,ab,q⟩:=q;refine ⟨σ,G,hs,ab,zlm g.mono XN it σ G _ _ (fun items stab G1 q J H1 g1 a1 ii=>?_) q⟩;refine zlu (monoC g.mono c) (yS g.mono XN elt) ii a1 (zjW (hs.mono g1) names.length caps) g1 (fun w G' Q' z=>?_) q;refine gQ tg w _ G' _ _ (fun σ2 G2 z=>⟨⟨z.2.1,fun i v e=>?_⟩,z.2.2⟩) (zcz tg w _ G' _ (zen tg w _ G' _ z));have hk:=(zch e).1;rw[z.1 i (zi9 h6 hk)];exact e
theorem s_lc (tg:ITg) (names:List Str) (caps:List Nat) (it:II) (c:IO) (elt:IE) (hi:OkI Γ p it) (hc:OkO Γ p c) (he:qJ Γ p elt):qJ Γ p (.lc tg names caps it c elt):=by
 intro M X x L h
 cases x with
 |ListComp x gens sc q =>
  match gens,h with
  | [⟨t,ix,ifs,asy⟩],h =>
   have h':=h;replace h:=bd10 h;obtain ⟨⟨⟨⟨⟨⟨⟨⟨⟨h0,h1⟩,h2⟩,h3⟩,h4⟩,h5⟩,h6⟩,h7⟩,h8⟩,h9⟩:=h;replace h0:=of_decide_eq_true h0;subst h0;obtain ⟨c1,c2,c3,c4,c5,c6,c7,c8⟩:=zaY g tg names caps it c elt hi hc he L (x:=x) (t:=t) (ix:=ix) (ifs:=ifs) (sc:=sc) (by simp only[Zl];exact ⟨⟨⟨⟨⟨⟨⟨⟨h1,h2⟩,h3⟩,h4⟩,h5⟩,h6⟩,h7⟩,h8⟩,h9⟩);exact qW (M:=M) (yS g.mono XN (.lc tg names caps it c elt)) ((pe_lc L.fits.calm c1 c2 c3 c4 c5 c6 c7).imp c8) (fun _=>rfl) (fun _ _ _ z=>nomatch z)
 |_=>exact absurd h zzN
theorem s_no:OkO Γ p .no:=by
 intro M X L;refine ⟨fun x h=>?_,fun xs h=>?_⟩
 .cases x with
  |none=>exact ziR.imp fun τ H Q q=>by obtain ⟨σ,G,hs,ab,q⟩:=q;exact q H .refl ab
  |some _=>exact absurd h zzN
 .cases xs with
  |nil=>exact ziJ.imp fun τ H Q q=>by obtain ⟨σ,G,hs,ab,q⟩:=q;exact q H .refl ab
  |cons _ _=>exact absurd h zzN
theorem zkA (e:IE) (he:qJ Γ p e):OkO Γ p (.yes e):=by
 intro M X L;refine ⟨fun x h=>?_,fun xs h=>?_⟩
 .cases x with
  |none=>exact absurd h zzN
  |some x =>
   skip
   refine (ziQ (he M X x L h).1).imp fun τ H Q q=>?_;obtain ⟨σ,G,hs,ab,q⟩:=q;refine xJ (yS g.mono XN e) hs ab q fun w G1 v H1 g1 hs1 rx a1 q=>?_
   cases w with
   |int i=>cases rx;exact ⟨i,rfl,q H1 g1 a1⟩
   |_=>exact q.elim
 .match xs,h with
  | [x],h=>exact ziI (he M X x L (by simpa only [mC] using h)).2.1
theorem zkC:OkA Γ p .nil:=by
 intro M X xs L h
 cases xs with
 |cons _ _=>exact absurd h zzN
 |nil =>
  refine ⟨zhG.imp fun τ H Q q=>by obtain ⟨σ,G,hs,ab,q⟩:=q;exact q [] H .refl rfl ab,rfl,fun ks keys pos hk hl=>?_,trivial⟩
  cases keys with
  |cons _ _=>cases hl
  |nil =>
   cases ks with
   |cons _ _=>cases hk
   |nil =>
    refine ⟨rfl,rfl,[],ziP,fun τ H Q q=>?_⟩;obtain ⟨σ,G,hs,ab,q⟩:=q;exact q [] H .refl rfl ab
theorem zht (e:IE) (es:IEs) (he:qJ Γ p e) (hs:OkA Γ p es):OkA Γ p (.cons e es):=by
  intro M X xs L h
  cases xs with
  |nil=>exact absurd h zzN
  |cons x xs =>
    simp only[mA,Zl] at h;obtain ⟨⟨h1,h2⟩,h3⟩:=h;have A:=he M X x L h2;have B:=hs M X xs L h3;refine ⟨(zeA A.1 B.1 (vS h1)).imp fun τ H Q q=>?_,by rw[ZaK,h1,B.2.1];rfl,fun ks keys pos hk hl=>?_,⟨yS g.mono XN e,A.1,B.2.2.2⟩⟩
    . obtain ⟨σ,G,hs',ab,q⟩:=q
      refine xJ (yS g.mono XN e) hs' ab q fun w G1 v H1 g1 hs1 rx a1 q=>?_;refine gC (vR g.mono XN es) hs1 a1 q fun ws G2 vs H2 g2 hs2 rs a2 q=>?_;exact q _ H2 (g1.trans g2) ⟨v,vs,rfl,rx.mono g2,rs⟩ a2
    . cases ks with
      |nil =>
        cases keys with
        |nil=>simp at hl
        |cons _ _=>simp[keyB] at hk
      |cons k ks =>
       cases keys with
       |nil=>cases hk
       |cons ko keys =>
        obtain ⟨y,ky,qy,rfl⟩:∃ y ky qy,ko=some (.Constant (.str y) ky qy):=by
          cases ko with
          |none=>cases hk
          |some ke =>
            cases ke with
            |Constant c ky qy =>
              cases c with
              |str y=>exact ⟨y,ky,qy,rfl⟩
              |_=>cases hk
            |_=>cases hk
        simp only[keyB,Zl,beq_iff_eq] at hk;obtain ⟨rfl,hk⟩:=hk;obtain ⟨all,ek,trs,pp,low⟩:=B.2.2.1 ks keys pos hk (by simpa using hl);refine ⟨by simpa using all,by simpa using ek,(tC (.str k),xN X.K (zH Γ XN e).e)::trs,zgr zhC A.1 pp,fun τ H Q q=>?_⟩;obtain ⟨σ,G,hs',ab,q⟩:=q;show xN X.K (zH Γ XN e).e τ H _;refine xJ (yS g.mono XN e) hs' ab q fun w G1 v H1 g1 hs1 rx a1 q=>?_;refine low τ H1 _ ⟨σ,G1,hs1,a1,vR g.mono XN es σ G1 _ _ (fun ws G2 q vs H2 g2 rs a2=>?_) q⟩;exact q (v::vs) H2 (g1.trans g2) ⟨v,vs,rfl,rx.mono g2,rs⟩ a2
theorem zkB (e:IE) (he:qJ Γ p e):OkI Γ p (.val e):=fun M X x L h tg=>zkZ (yS g.mono XN e) (he M X x L h).1
theorem zkE (i:Nat) (es:IEs) (hs:OkA Γ p es):OkI Γ p (.blt i es):=by
  intro M X x L h tg
  cases x with
  |Call fn xs kw q =>
    cases fn with
    |Name y qy =>
     cases kw with
     |nil =>
      replace h:=bd3 h;have gl:=zdx L.sc h.1.2;have hi:=jR h.1.1;rw[← L.its] at hi;obtain ⟨e,ei,rfl⟩:=nV hi;have A:=hs M X xs L h.2;refine (g.it e (jN ei) X L.fits gl.1 tg xs (zW Γ XN es) qy q (vR g.mono XN es) A.2.1 A.1 (cZ g h.2) gl.2.1 gl.2.2).imp fun τ H R q=>?_;obtain ⟨σ,G,hs',ab,q⟩:=q;refine ⟨σ,G,hs',ab,vR g.mono XN es σ G _ _ (fun ws G1 q=>?_) q⟩;simp only[ei] at q;exact q
     |cons _ _=>exact absurd h zzN
    |_=>exact absurd h zzN
  |_=>exact absurd h zzN
theorem zhs (i:Nat) (es:IEs) (hs:OkA Γ p es):OkI Γ p (.spc i es):=fun M X x L h=>absurd h zzN
theorem rW (e:IE):qJ Γ p e :=
 IE.rec (motive_1:=qJ Γ p) (motive_2:=OkO Γ p) (motive_3:=OkA Γ p) (motive_4:=OkI Γ p) (motive_5:=fun _=>True) (motive_6:=fun _=>True)
  (s_var g) (s_con g) (s_glb g) (s_bin g) (s_neg g) (s_not g) (s_cmp g) (s_chn g) (s_and g) (s_or g) (s_ite g) (s_ix g) (s_sl g) (s_tup g) (s_lst g) (s_dct g) (zkD g) (s_mth g) (s_att g)
  (fun tg names caps it c elt _ hi hc he=>s_lc g tg names caps it c elt hi hc he) (s_spc g) (s_ch3 g) (s_no g) (zkA g) (zkC g) (zht g) (zkB g) (zkE g) (zhs g) (fun _=>trivial) (fun _ _=>trivial) trivial (fun _ _ _ _=>trivial) e
theorem sndA (es:IEs):OkA Γ p es:=match es with
 | .nil=>zkC g
 | .cons e es=>zht g e es (rW g e) (sndA es)
theorem sndI (it:II):OkI Γ p it:=match it with
 | .val e=>zkB g e (rW g e)
 | .blt i es=>zkE g i es (sndA g es)
 | .spc i es=>zhs g i es (sndA g es)
theorem sndO (o:IO):OkO Γ p o:=match o with
 | .no=>s_no g
 | .yes e=>zkA g e (rW g e)
end
end L3
namespace L3
open PySem PySem.Spec PyProof.Rows L2
theorem zju {i:Nat} {a:IE} {M:MC} {x:Stmt} (h:mS (.asg i a) M x=true):(∃ y py v q,x=.Assign [.Name y py] v q/\(M.N[i]?==some y)=true/\bA M y=true/\mE a M v=true)\/∃ y py v q a',x=.AugAssign (.Name y py) .Add v q/\a=.bin .Add (.bin .Add (.var i) (.con (.str ""))) a'/\(M.N[i]?==some y)=true/\bA M y=true/\mE a' M v=true:=by
 cases x with
 |AugAssign t op v q =>
  cases t with
  |Name y py =>
   replace h:augB M i y op v a=true:=h;unfold augB at h
   split at h
   .rename_i j z a';obtain ⟨⟨⟨⟨⟨h1,h2⟩,h3⟩,h4⟩,h5⟩,h6⟩:=bd6 h
    cases op with
    |Add =>
     cases of_decide_eq_true h2;cases of_decide_eq_true h3;exact .inr ⟨y,py,v,q,a',rfl,rfl,h4,h5,h6⟩
    |_=>exact absurd h1 zzN
   .exact absurd h zzN
  |_=>exact absurd h zzN
 |Assign ts v q =>
  cases ts with
  |nil=>exact absurd h zzN
  |cons t r =>
   cases r with
   |cons _ _=>cases t<;>exact absurd h zzN
   |nil =>
    cases t with
    |Name y py =>
     replace h:=bd3 h;exact .inl ⟨y,py,v,q,rfl,h.1.1,h.1.2,h.2⟩
    |_=>exact absurd h zzN
 |_=>exact absurd h zzN
theorem zgX {ts:ITgs} {a:IE} {M:MC} {x:Stmt} (h:mS (.asgT ts a) M x=true):∃ es k qt v q,x=.Assign [.Tuple es k qt] v q/\cF v=true/\zgC v=true/\mGs M ts es=true/\mE a M v=true:=by
 cases x with
 |Assign ts v q =>
  cases ts with
  |nil=>exact absurd h zzN
  |cons t r =>
   cases r with
   |cons _ _=>cases t<;>exact absurd h zzN
   |nil =>
    cases t with
    |Tuple es k qt =>
     replace h:=bd4 h;exact ⟨es,k,qt,v,q,rfl,h.1.1.1,h.1.1.2,h.1.2,h.2⟩
    |_=>exact absurd h zzN
 |_=>exact absurd h zzN
theorem zgY {i j:Nat} {a:IE} {M:MC} {x:Stmt} (h:mS (.asgS i j a) M x=true):∃ t v q,x=.Assign [t] v q/\cF v=true/\zgC v=true/\zf3 M i j t=true/\mE a M v=true:=by
 cases x with
 |Assign ts v q =>
  cases ts with
  |nil=>exact absurd h zzN
  |cons t r =>
   cases r with
   |cons _ _=>exact absurd h zzN
   |nil =>
    replace h:=bd4 h;exact ⟨t,v,q,rfl,h.1.1.1,h.1.1.2,h.1.2,h.2⟩
 |_=>exact absurd h zzN
theorem zir {M:MC} {i j:Nat} {t:Expr} (h:zf3 M i j t=true):∃ x px y py p2 k q,t=.Tuple [.Name x px,.Starred (.Name y py) p2] k q/\((M.N[i]?==some x)=true/\bA M x=true)/\((M.N[j]?==some y)=true/\bA M y=true):=by
 unfold zf3 at h
 split at h
 .exact ⟨_,_,_,_,_,_,_,rfl,pT (pT h).1,pT (pT h).2⟩
 .exact absurd h zzN
theorem zgZ {o i a:IE} {M:MC} {x:Stmt} (h:mS (.asgI o i a) M x=true):∃ l r qs v q,x=.Assign [.Subscript l r qs] v q/\cF v=true/\fC r=true/\mE o M l=true/\mE i M r=true/\mE a M v=true:=by
 cases x with
 |Assign ts v q =>
  cases ts with
  |nil=>exact absurd h zzN
  |cons t r =>
   cases r with
   |cons _ _=>cases t<;>exact absurd h zzN
   |nil =>
    cases t with
    |Subscript l r qs =>
     replace h:=bd5 h;exact ⟨l,r,qs,v,q,rfl,h.1.1.1.1,h.1.1.1.2,h.1.1.2,h.1.2,h.2⟩
    |_=>exact absurd h zzN
 |_=>exact absurd h zzN
theorem zlX {a:IE} {M:MC} {x:Stmt} (h:mS (.ex a) M x=true):∃ v q,x=.Expr v q/\cF v=true/\mE a M v=true:=by
 cases x with
 |Expr v q =>
  replace h:=pT h;exact ⟨v,q,rfl,h.1,h.2⟩
 |_=>exact absurd h zzN
theorem zjm {a:IE} {M:MC} {x:Stmt} (h:mS (.ret a) M x=true):∃ v q,x=.Return (some v) q/\mE a M v=true:=by
 cases x with
 |Return v q =>
  cases v with
  |none=>exact absurd h zzN
  |some v=>exact ⟨v,q,rfl,h⟩
 |_=>exact absurd h zzN
theorem zgU {M:MC} {x:Stmt} (h:mS .retN M x=true):∃ q,x=.Return none q:=by
 cases x with
 |Return v q =>
  cases v with
  |none=>exact ⟨q,rfl⟩
  |some v=>exact absurd h zzN
 |_=>exact absurd h zzN
theorem zgV {M:MC} {x:Stmt} (h:mS .pass M x=true):∃ q,x=.Pass q:=by
 cases x with
 |Pass q=>exact ⟨q,rfl⟩
 |_=>exact absurd h zzN
theorem zjt {M:MC} {x:Stmt} (h:mS .brk M x=true):∃ q,x=.Break q:=by
 cases x with
 |Break q=>exact ⟨q,rfl⟩
 |_=>exact absurd h zzN
theorem zjq {M:MC} {x:Stmt} (h:mS .cnt M x=true):∃ q,x=.Continue q:=by
 cases x with
 |Continue q=>exact ⟨q,rfl⟩
 |_=>exact absurd h zzN
theorem zjo {c:IE} {a b:ISs} {M:MC} {x:Stmt} (h:mS (.ite c a b) M x=true):∃ t y z q,x=.If t y z q/\mE c M t=true/\qG a M y=true/\qG b M z=true:=by
 cases x with
 |If t y z q =>
  replace h:=bd3 h;exact ⟨t,y,z,q,rfl,h.1.1,h.1.2,h.2⟩
 |_=>exact absurd h zzN
theorem zjl {c:IE} {b:ISs} {M:MC} {x:Stmt} (h:mS (.whl c b) M x=true):∃ t y q,x=.While t y [] q/\mE c M t=true/\qG b M y=true:=by
 cases x with
 |While t y z q =>
  cases z with
  |nil =>
   replace h:=pT h;exact ⟨t,y,q,rfl,h.1,h.2⟩
  |cons _ _=>exact absurd h zzN
 |_=>exact absurd h zzN
theorem zjp {tg:ITg} {it:II} {b:ISs} {M:MC} {x:Stmt} (h:mS (.for tg it b) M x=true):∃ t y z q,x=.For t y z [] q/\gT y=true/\mG M tg t=true/\mI it M y=true/\qG b M z=true:=by
 cases x with
 |For t y z e q =>
  cases e with
  |nil =>
   replace h:=bd4 h;exact ⟨t,y,z,q,rfl,h.1.1.1,h.1.1.2,h.1.2,h.2⟩
  |cons _ _=>exact absurd h zzN
 |_=>exact absurd h zzN
theorem zjn {M:MC} {x:List Stmt} (h:qG .nil M x=true):x=[]:=by
 cases x with
 |nil=>rfl
 |cons _ _=>exact absurd h zzN
theorem zgW {s:IS} {ss:ISs} {M:MC} {x:List Stmt} (h:qG (.cons s ss) M x=true):∃ y ys,x=y::ys/\mS s M y=true/\qG ss M ys=true:=by
 cases x with
 |nil=>exact absurd h zzN
 |cons y ys =>
  replace h:=pT h;exact ⟨y,ys,rfl,h.1,h.2⟩
end L3
namespace L2
open PySem PySem.Spec PyProof.Rows
theorem alive {P:Program} {w:World} {H:Hp} {h:Heap} {a:Addr} {o:HO} (x:xD P w H h a o):∃ u,h.get? a=some u:=by
 cases o with
 |lst _=>obtain ⟨_,_,_,_,e⟩:=x;exact ⟨_,e⟩
 |tup _=>obtain ⟨_,_,_,u,e,_⟩:=x;exact ⟨u,e⟩
 |dK _=>obtain ⟨_,_,_,_,u,_,_,e,_⟩:=x;exact ⟨u,e⟩
 |dT _=>obtain ⟨_,_,_,_,u,_,_,e,_⟩:=x;exact ⟨u,e⟩
 |set _ _=>obtain ⟨u,_,_,_,e,_⟩:=x;exact ⟨u,e⟩
 |ins _ _ _=>exact ⟨_,x.2.2.2.1⟩
 |own _=>exact x
 |xd _=>obtain ⟨_,⟨u,_,_,e,_⟩,_⟩:=x;exact ⟨u,e⟩
 |rng _ _=>obtain ⟨_,_,_,e⟩:=x;exact ⟨_,e⟩
 |frz _ _=>exact ⟨_,x.1⟩
 |tbl _=>exact ⟨_,x⟩
 |met _ _=>exact ⟨_,x⟩
 |ext _=>exact x.2.1
def zeC (h:Heap) (L:Addr):List (Addr×Obj):=(List.range h.objs.size).filterMap fun b=>if b=L then none else (h.get? b).map fun o=>(b,o)
theorem rH {h:Heap} {L b:Addr} {o:Obj}:(b,o)∈zeC h L↔b≠L/\h.get? b=some o:=by
 unfold zeC;rw[ZbC]
 constructor
 .rintro ⟨c,_,e⟩
  split at e
  .cases e
  .rename_i hc;obtain ⟨o',e1,e2⟩:=Zq.mp e;cases e2;exact ⟨hc,e1⟩
 .rintro ⟨hb,e⟩;exact ⟨b,ZaO.mpr (Zi e),by rw[if_neg hb,e];rfl⟩
section
variable {X:Cx} {pos:Pos}
def gStar (K:PySem.W.Frag) (t:TGs):TG:=fun v σ H Q=>∃ a x xs,v=.ref a/\(pR K H a (x::xs)\/mY K H a (x::xs))/\xs.length<=1000/\∀ D,H D=none->t [x,.ref D] σ (xC H D (.lst xs)) Q
theorem ziS {e1 e2:Expr} {k:Nat} {p2:Pos} {t:TGs} (hc:X.calm=true) (h:PGs X [e1,e2] t) (h1:assignEach [e1,.Starred e2 p2] X.env=[(false,assign e1 X.env),(true,assign e2 X.env)])
  (h2:assignEach [e1,e2] X.env=[(false,assign e1 X.env),(false,assign e2 X.env)]):PG X (.Tuple [e1,.Starred e2 p2] k pos) (gStar X.K t):=by
 intro pins s σ H v u Q I r hw;obtain ⟨a,x,xs,e,hq,hl,hw⟩:=hw;subst e;cases r
 obtain ⟨its,rv,ht⟩:∃ its:List Value,yZ (x::xs) its/\(IsTup s.heap a its.toArray\/s.heap.IsList a its.toArray):=by
  rcases hq with hq|hq
  .obtain ⟨its,rv,ht,_⟩:=I.tuple hq;exact ⟨its,rv,.inl ht⟩
  .obtain ⟨its,rv,ht,_⟩:=I.list hq;exact ⟨its,rv,.inr ht.isList⟩
 cases rv with
 | @cons _ u _ us r0 rs =>
 have hus:us.length=xs.length:=rs.length.symm;obtain ⟨m,hn,_⟩:=id I.loc;have F:Fr (default:Heap) X.env.locals s.heap m:=⟨hn,fun b o e=>(by cases e),ZS _⟩
 have N:News (default:Heap) X.env.locals s.heap (zeC s.heap X.env.locals):=fun p hp=>by
  obtain ⟨b,o⟩:=p;have:=rH.mp hp;exact ⟨this.2,this.1,rfl⟩
 rw[assign_Tuple];refine Zb (Zbp ?_);unfold unpack;rw[show (assignEach [e1,.Starred e2 p2] X.env).length=2 by rw[h1];rfl,show (assignEach [e1,.Starred e2 p2] X.env).findIdx? (·.1)=some 1 by rw[h1];rfl];refine Zb (ZK (qI I.tk ?_));refine (fun key=>ht.elim (fun ht=>PySem.W.kun_starT (n:=2) (i:=1) (first:=[u]) (mids:=us) (lasts:=[]) F N ht (I.ok.hd hc) (by decide) (by simp) (by simp;omega) (by simp) (by simp) (by simp) key) fun ht=>PySem.W.kun_starL (n:=2) (i:=1) (first:=[u]) (mids:=us) (lasts:=[]) F N ht (I.ok.hd hc) (by decide) (by simp) (by simp;omega) (by simp) (by simp) (by simp) key) ?_;intro D h' tk F' N' lt h0;have get:∀ b o,b≠X.env.locals->s.heap.get? b=some o->h'.get? b=some o:=fun b o hb e=>(N' (b,o) (Zc _ (rH.mpr ⟨hb,e⟩))).1;obtain ⟨hD,nD,_⟩:=N' (D,{ cls:=.type "list", data:=.seq us.toArray 0 }) zzT
 have no:s.heap.get? D=none:=by
  cases q:s.heap.get? D with
  |none=>rfl
  |some o=>exact absurd (lt (D,o) (rH.mpr ⟨nD,q⟩)) (Z7 _)
 have HD:H D=none:=by
  cases q:H D with
  |none=>rfl
  |some o=>obtain ⟨u',e'⟩:=alive (I.hok D o q);rw[no] at e';cases e'
 have nl:∀ b o,H b=some o->b≠X.env.locals:=fun b o e z=>by rw[z,I.free] at e;cases e
 have ne:∀ b o,H b=some o->b≠D:=fun b o e=>yN e HD
 have hok:rT X.prog X.w (xC H D (.lst xs)) h':=fun b o e=>by
  by_cases hb:b=D
  .subst hb;rw[wN] at e;cases e;exact ⟨by rw[ZI];omega,us,0,rs,hD⟩
  .rw[yU hb] at e;refine (I.hok b o e).stay (fun c v hc q=>get c v ?_ q) (fun c q=>by rw[yU (ne c _ q)];exact q) fun c ys q=>by rw[yU (ne c _ q)];exact q
   rcases hc with z|z
   .rw[z];exact nl b o e
   .exact nl c _ z
 have I1:Inv X pins σ (xC H D (.lst xs)) { s with heap:=h',toks:=tk } :=
  I.step (g':=s.gens) (d':=s.drawn) (ch:=[]) (fun _ z=>nomatch z) (fun b o hb _ _ e _=>get b o hb e) (fun b o hb _ _ e _=>⟨o.slots,get b o hb e⟩)
   (fun b o _ e n=>by rw[yU (fun z=>by rw[z,no] at e;cases e)];exact n)
   (fun b o _ e=>by
    by_cases hb:b=X.env.locals
    .obtain ⟨o',_,_,q,_⟩:=F'.ns;exact ⟨o',by rw[hb];exact q⟩
    .exact ⟨o,get b o hb e⟩)
   (fun b ys e=>by rw[yU (ne b _ e)];exact e) (fun b o u e=>by rw[yU (ne b _ e)];exact e) (fun b ps e=>⟨#[],by rw[yU (ne b _ e),e];simp⟩)
   (fun m' hm=>by rw[hm.eq_nsMap,← hn.eq_nsMap];exact F'.ns) hok I.bare
 have:=h pins _ σ _ [x,.ref D] [u,.ref D] Q I1 (.cons r0 (.cons rfl .nil)) (hw D HD);rw[h2] at this;rw[h1];exact this
end
end L2
namespace L2
open PySem PySem.Spec PyProof.Rows
section
variable {prog:Program} {w:World} {A:Around} {E:Value->Shared->Prop} {s:Shared}
theorem zc3 {it l:Addr} {xs:Array Value} (ne:l≠it):∀ (n i:Nat) (s:Shared) (Q:List Value->Shared->Prop),s.heap.IsListIter it l i->s.heap.IsList l xs->i+n<=xs.size ->
  (∀ h',h'.IsListIter it l (i+n)->Heap.SameBut it s.heap h'->Q ((xs.toList.drop i).take n) { s with heap:=h' })->wpAny (model prog w) A (draw (.ref it) n) Q E s
 | 0,i,s,Q,a,_,_,q=>by
  show wpAny _ _ (pure []) Q E s;exact Zg (by simpa using q s.heap a (Heap.SameBut.refl ..))
 |n+1,i,s,Q,a,b,le,q=>by
  have lt:i<xs.size:=by omega
  show wpAny _ _ (pyNext (.ref it) >>= _) Q E s;refine Zb (wpAny_pyNext_list_item a b (x:=xs[i]) (by simp[lt]) fun h1 a1 s1=>?_);refine Zb (ZK (zc3 ne n (i+1) _ _ a1 (b.extBut s1.extBut ne) (by omega) fun h2 a2 s2=>Zg ?_));have e:xs.toList.drop i=xs[i]::xs.toList.drop (i+1):=by simp[ZaN,lt]
  have z:=q h2 (by rw[show i+(n+1)=i+1+n by omega];exact a2) (s1.trans s2);rw[e,Zbs] at z;exact z
theorem zde {l:Addr} {xs:Array Value} {ts:List (Bool×(Value->Sem Unit))} {Q:Unit->Shared->Prop} (hh:A.handled=none) (hl:s.heap.IsList l xs) (hn:ts.length=xs.size) (hs:ts.findIdx? (·.1)=none)
  (h:∀ h',Heap.ExtBut s.heap.objs.size s.heap h'->wpAny (model prog w) A (assignInOrder (ts.map (·.2)) xs.toList) Q E { s with heap:=h' }):wpAny (model prog w) A (unpack (.ref l) ts) Q E s:=by
 have ne:l≠s.heap.objs.size:=by obtain ⟨o,ho,_⟩:=hl;exact Zr (Zi ho)
 unfold unpack;rw[hn,hs];refine Zb (ZK ?_);unfold unpackItems;refine Zb ?_;unfold notIterableAtAll;refine Zb (Zbz hl.typeIs slot_list_iter.lookup (Zg ?_));simp only[zzB,if_false];refine Zb (ZK (Za8 hl ?_));refine Zb (ZK (zc3 ne xs.size 0 _ _ ⟨_,Zk _ rfl,rfl,rfl⟩ (hl.push _) (by omega) fun h1 a1 s1=>?_));rw[show List.take xs.size (List.drop 0 xs.toList)=xs.toList by rw[Zb1];exact Z4 (by simp),if_neg (by simp)];refine Zb (ZK (wpAny_pyNext_list_end hh a1 ((hl.push _).extBut s1.extBut ne) (by simp) fun h2 e2=>?_));simp only[Option.isSome_none,zzB,if_false];exact Zg (h h2 fun b o hb e=>e2 b o hb (s1.extBut b o hb (Za _ e)))
end
def gTL (K:PySem.W.Frag) (n:Nat) (t:TGs):TG:=fun v σ H Q=>∃ a xs,v=.ref a/\(pR K H a xs\/mY K H a xs)/\xs.length=n/\t xs σ H Q
theorem pg_tl {X:Cx} {pos:Pos} {es:List Expr} {k:Nat} {t:TGs} {n:Nat} (hc:X.calm=true) (h:PGs X es t) (hn:(assignEach es X.env).length=n) (hst:(assignEach es X.env).findIdx? (·.1)=none):PG X (.Tuple es k pos) (gTL X.K n t):=by
 intro pins s σ H v u Q I r hw;obtain ⟨a,xs,e1,hq,hl,hw⟩:=hw;rcases hq with hq|hq
 .exact zhB hc h hn hst pins s σ H v u Q I r ⟨a,xs,e1,hq,hl,hw⟩
 .subst e1;cases r;obtain ⟨its,rv,pl,hz⟩:=I.list hq;rw[assign_Tuple];refine Zb (Zbp (zde (I.ok.hd hc) pl.isList (by simp[hn,← hl,rv.length]) hst fun h' hx=>?_));exact h pins _ σ H xs _ Q (I.kept (t':=s.toks) fun b o e=>hx b o (Zr (Zi e)) e) (by simpa using rv) hw
end L2
namespace L3
open PySem PySem.Spec PyProof.Rows L2 PySem.SeqAt
def ipS:TIp:=fun x y H Q=>∃ a b:Str,x=.str a/\y=.str b/\a.length+b.length<=sizeLine/\Q (.str (a++b)) H
theorem zlW {X:Cx}:PIp X .Add ipS:=by
 intro pins s σ H x y v u Q I r1 r2 h;obtain ⟨a,b,rfl,rfl,hl,q⟩:=h;obtain ⟨t,rfl⟩:=r1;obtain ⟨t',rfl⟩:=r2;exact qI I.tk (PySem.SB.iadd (fun t' k h0=>⟨.str (a++b),H,I.tok _ h0,⟨_,rfl⟩,q⟩) hl)
theorem zj1 (a:Str):a++("" : Str)=a:=Str.ext' (by rw[ZaC];show a.cps++#[]=a.cps;simp)
section
variable {Γ:Ctx3} {p:Par} (g:Good Γ p)
def OkS (Γ:Ctx3) (p:Par) (s:IS):Prop:=∀ M X x,Lk Γ M p X->mS s M x=true->PS X x (lowS X.K (zT Γ XN s))
def OkSs (Γ:Ctx3) (p:Par) (s:ISs):Prop:=∀ M X x,Lk Γ M p X->qG s M x=true->PSs X x (lowS X.K (zG Γ XN s))
include g
theorem t_asg (i:Nat) (e:IE):OkS Γ p (.asg i e):=by
 intro M X x L h;rcases zju h with ⟨y,py,v,q,rfl,h1,h2,h3⟩|⟨y,py,v,q,a',rfl,rfl,h1,h2,h3⟩
 case inr =>
  have lo:=bB L h2;have hN:=jR h1;rw[← L.N] at hN;refine (zkW (i:=i) (L.N▸L.nd) hN lo.1 (rW g a' M X v L h3).1 zlW lo.2).imp fun D τ H hq=>?_;obtain ⟨σ,G,D3,hs,ab,f,hq⟩:=hq;simp only[zT,zU,zH,zF,zN] at hq
  split at hq
  .rename_i w ew
   cases w with
   |str a =>
    obtain ⟨_,hq⟩:=hq;obtain ⟨v0,ev,rv⟩:=hs.2 i _ ew;cases (show v0=.str a from rv);refine ⟨.str a,ev,σ,G,hs,ab,yS g.mono XN a' σ G _ _ (fun w G' hq v' H' g' rp ab'=>?_) hq⟩
    cases w with
    |str b =>
     cases (show v'=.str b from rp);have ea:a++("" : Str)=a:=zj1 a;obtain ⟨hl,hq⟩:=hq;rw[ea] at hl hq;exact ⟨a,b,rfl,rfl,hl,f.nx _ G' _ H' g' ((hs.mono g').set (show xT X.K H' (.str (a++b)) (.str (a++b)) from rfl) i) ab' hq⟩
    |_=>exact hq.elim
   |_=>exact hq.elim
  .exact hq.elim
 .
  have lo:=bB L h2;have hN:=jR h1;rw[← L.N] at hN;have nd:X.N.Nodup:=L.N▸L.nd
  have low:∀ (te:TE),(∀ τ H Q,xN X.K (zH Γ XN e).e τ H Q->te τ H Q)->∀ D τ H,lowS X.K (zT Γ XN (.asg i e)) D τ H->tAsg te (zg4 i) D τ H:=fun te k D τ H hq=>by
   obtain ⟨σ,G,D3,hs,ab,f,hq⟩:=hq;refine k _ _ _ ⟨σ,G,hs,ab,yS g.mono XN e σ G _ _ (fun w G' hq v' H' g' rp ab'=>?_) hq⟩;exact f.nx _ G' _ H' g' ((hs.mono g').set rp i) ab' hq
  by_cases hl:cF v=true
  .exact (zhz (i:=i) nd hN lo.1 (rW g e M X v L h3).1 (tM hl) lo.2).imp (low _ fun _ _ _ z=>z)
  .cases v with
   |ListComp x gens sc qq =>
    cases e with
    |lc tg names caps it c elt =>
     match gens,h3 with
     | [⟨t,ix,ifs,asy⟩],h3 =>
      have h3':=h3;replace h3:=bd10 h3;obtain ⟨⟨⟨⟨⟨⟨⟨⟨⟨z0,z1⟩,z2⟩,z3⟩,z4⟩,z5⟩,z6⟩,z7⟩,z8⟩,z9⟩:=h3;replace z0:=of_decide_eq_true z0;subst z0;have cond:∃ b,swapsWith (.ListComp x [⟨t,ix,ifs,0⟩] sc qq) (some (.Name y py)) q.line X.env=pure b:=⟨_,rfl⟩;obtain ⟨b,hb⟩:=cond
      cases b with
      |false=>exact (zhz (i:=i) nd hN lo.1 (rW g _ M X _ L h3').1 hb lo.2).imp (low _ fun _ _ _ z=>z)
      |true =>
       obtain ⟨c1,c2,c3,c4,c5,c6,c7,c8⟩:=zaY g tg names caps it c elt (sndI g it) (sndO g c) (rW g elt) L (x:=x) (t:=t) (ix:=ix) (ifs:=ifs) (sc:=sc) (by simp only[Zl];exact ⟨⟨⟨⟨⟨⟨⟨⟨z1,z2⟩,z3⟩,z4⟩,z5⟩,z6⟩,z7⟩,z8⟩,z9⟩);exact (zgo (i:=i) L.fits.calm c1 c2 c3 c4 c5 c6 nd hN lo.1 lo.2 hb c7).imp (low _ c8)
    |_=>exact absurd h3 zzN
   |SetComp _ _ _ _=>cases e<;>exact absurd h3 zzN
   |DictComp _ _ _ _ _=>cases e<;>exact absurd h3 zzN
   |_=>exact absurd rfl hl
theorem sndTL {M:MC} {X:Cx} {ts:ITgs} {es:List Expr} {k:Nat} {q:Pos} (L:Lk Γ M p X) (h:mGs M ts es=true):PG X (.Tuple es k q) (lowG X.K fun w σ G Q=>zV (.tup ts) (unl G w) σ G Q):=by
 obtain ⟨ps,hn,hst⟩:=zit L ts es h;refine (pg_tl (n:=es.length) L.fits.calm ps hn hst).imp fun v σ H Q q=>?_;obtain ⟨w,σ3,G,rp,hs,ab,q⟩:=q
 cases w with
 |tup ws =>
  obtain ⟨a,vs,rfl,sq,rs⟩:=rp;exact ⟨a,vs,rfl,.inl sq,by rw[rs.length];exact zgK ts es ws σ3 G _ h q,ws,σ3,G,rs,hs,ab,q⟩
 |ref p =>
  cases (show v=.ref p from rp);simp only[unl] at q
  split at q
  .rename_i ws e;obtain ⟨vs,sq,rs⟩:=ab.seq e;exact ⟨p,vs,rfl,.inr sq,by rw[rs.length];exact zgK ts es ws σ3 G _ h q,ws,σ3,G,rs,hs,ab,q⟩
  .exact q.elim
 |_=>exact q.elim
theorem zkg (ts:ITgs) (e:IE):OkS Γ p (.asgT ts e):=by
 intro M X x L h;obtain ⟨es,k,qt,v,q,rfl,h1,h2,h3,h4⟩:=zgX h
 .
  have pg:=sndTL g (k:=k) (q:=qt) L h3;refine (zhA (rW g e M X v L h4).1 pg (by unfold swapsWithSole;exact tM h1) (by cases v<;>first|rfl|cases h2) rfl).imp fun D τ H hq=>?_;obtain ⟨σ,G,D3,hs,ab,f,hq⟩:=hq;refine ⟨σ,G,hs,ab,yS g.mono XN e σ G _ _ (fun w G' hq v' H' g' rp ab'=>?_) hq⟩;exact ⟨w,σ,G',rp,hs.mono g',ab',gQ _ (unl G' w) σ G' _ _ (fun σ2 G2 hq τ2 H2 g2 hs2 a2=>f.nx σ2 G2 τ2 H2 (g'.trans g2) hs2 a2 hq) hq⟩
theorem zkh (i j:Nat) (e:IE):OkS Γ p (.asgS i j e):=by
 intro M X x L h;obtain ⟨t,v,q,rfl,h1,h2,h3,h4⟩:=zgY h;obtain ⟨y,py,z,pz,p2,k,qt,rfl,hi,hj⟩:=zir h3;have l1:=bB L hi.2;have l2:=bB L hj.2;have pg:=ziS (k:=k) (p2:=p2) (pos:=qt) L.fits.calm (cN (zbR (pos:=py) (i:=i) (L.N▸L.nd) (by rw[L.N];exact jR hi.1) l1.1 l1.2) (cN (zbR (pos:=pz) (i:=j) (L.N▸L.nd) (by rw[L.N];exact jR hj.1) l2.1 l2.2) zex)) rfl rfl;refine (zhA (rW g e M X v L h4).1 pg (by unfold swapsWithSole;exact tM h1) (by cases v<;>first|rfl|cases h2) rfl).imp fun D τ H hq=>?_;obtain ⟨σ,G,D3,hs,ab,f,hq⟩:=hq;refine xJ (yS g.mono XN e) hs ab hq fun w G1 v1 H1 g1 hs1 r1 a1 hq=>?_
 obtain ⟨a,vs,ws,rfl,sq,rs,hq⟩:∃ a vs ws,v1=.ref a/\(pR X.K H1 a vs\/mY X.K H1 a vs)/\zB X.K H1 ws vs/\(match W.tup ws with
   | .tup (x::r)=>r.length<=1000/\∀ p,G1 p=none->D3.nx ((σ.set i (some x)).set j (some (.ref p))) (put G1 p (.lst r))
   |_=>False):=by
  cases w with
  |tup ws =>
   obtain ⟨a,vs,rfl,sq,rs⟩:=r1;exact ⟨a,vs,ws,rfl,.inl sq,rs,hq⟩
  |ref p =>
   cases (show v1=.ref p from r1);simp only[unl] at hq
   cases e:yP G1 p with
   |some ws =>
    rw[e] at hq;obtain ⟨vs,sq,rs⟩:=a1.seq e;exact ⟨p,vs,ws,rfl,.inr sq,rs,hq⟩
   |none=>rw[e] at hq;exact hq.elim
  |_=>exact hq.elim
 .
  cases ws with
  |nil=>exact hq.elim
  |cons x r =>
   obtain ⟨v0,vr,rfl,rx,rr⟩:=rs;refine ⟨a,v0,vr,rfl,sq,by rw[rr.length];exact hq.1,fun p hp=>⟨v0,[.ref p],rfl,.ref p,[],rfl,rfl,?_⟩⟩;have gr:=wP (K:=X.K) (u:=.lst vr) hp;have ab2:xP X.K (xC H1 p (.lst vr)) (put G1 p (.lst r)):=a1.new hp ⟨vr,rfl,rr.mono gr⟩;exact f.nx _ _ _ _ (g1.trans gr) (((hs1.mono gr).set (rx.mono gr) i).set (show xT X.K _ (.ref p) (.ref p) from rfl) j) ab2 (hq.2 p (a1.free hp))
theorem zki (o i e:IE):OkS Γ p (.asgI o i e):=by
 intro M X x L h;obtain ⟨l,r,qs,v,q,rfl,h1,h2,h3,h4,h5⟩:=zgZ h
 .
  have pe:=(rW g e M X v L h5).1;have po:=(rW g o M X l L h3).1;have pi:=(rW g i M X r L h4).1;intro pins s τ H D I hq;obtain ⟨σ,G,D3,hs,ab,f,hq⟩:=hq
  have q1:xN X.K (zH Γ XN e).e τ H fun v H1=>xN X.K (zH Γ XN o).e τ H1 fun ov H2=>xN X.K (zH Γ XN i).e τ H2 fun iv H3=>zhN X.K ov iv v H3 fun H4=>D.nx τ H4:=by
   refine xJ (yS g.mono XN e) hs ab hq fun w G1 v1 H1 g1 hs1 r1 a1 hq=>?_;refine xJ (yS g.mono XN o) hs1 a1 hq fun x G2 v2 H2 g2 hs2 r2 a2 hq=>?_;refine xJ (yS g.mono XN i) hs2 a2 hq fun y G3 v3 H3 g3 hs3 r3 a3 hq=>?_;exact ⟨x,y,w,G3,r2.mono g3,r3,(r1.mono g2).mono g3,a3,zem (fun G4 hq H4 g4 a4=>f.nx σ G4 τ H4 (g1.trans (g2.trans (g3.trans g4))) (hs3.mono g4) a4 hq) hq⟩
  refine wpAny_Assign_Subscript (xY (pe pins s τ H _ I q1) fun u1 s1 ⟨v1,H1,I1,r1,q1⟩=>xY (po pins s1 τ H1 _ I1 q1) fun u2 s2 ⟨v2,H2,I2,r2,q2⟩=>xY (pi pins s2 τ H2 _ I2 q2) fun u3 s3 ⟨v3,H3,I3,r3,q3⟩=>?_) (tM h1);exact xY (zky (hu_X g L) pins s3 τ H3 v2 v3 v1 u2 u3 u1 _ I3 r2 r3 r1 q3) fun _ s4 ⟨H4,I4,q4⟩=>⟨τ,H4,I4,q4⟩
theorem zkj (o:IE) (f:Str) (e:IE):OkS Γ p (.asgA o f e):=fun M X x L h=>absurd h zzN
theorem tN:OkS Γ p .retN/\OkS Γ p .pass/\OkS Γ p .brk/\OkS Γ p .cnt/\OkS Γ p .dead:=by
 refine ⟨fun M X x L h=>?_,fun M X x L h=>?_,fun M X x L h=>?_,fun M X x L h=>?_,fun M X x L h=>?_⟩
 .obtain ⟨q,rfl⟩:=zgU h;exact ziM.imp fun D τ H hq=>by obtain ⟨σ,G,D3,hs,ab,f,hq⟩:=hq;exact f.rt .non G _ H .refl (show xT X.K H .non .non from rfl) ab hq
 .obtain ⟨q,rfl⟩:=zgV h;exact ziN.imp fun D τ H hq=>by obtain ⟨σ,G,D3,hs,ab,f,hq⟩:=hq;exact f.nx σ G τ H .refl hs ab hq
 .obtain ⟨q,rfl⟩:=zjt h;exact zgq.imp fun D τ H hq=>by obtain ⟨σ,G,D3,hs,ab,f,hq⟩:=hq;exact f.bk σ G τ H .refl hs ab hq
 .obtain ⟨q,rfl⟩:=zjq h;exact zbP.imp fun D τ H hq=>by obtain ⟨σ,G,D3,hs,ab,f,hq⟩:=hq;exact f.ct σ G τ H .refl hs ab hq
 .exact zgp.imp fun D τ H hq=>by obtain ⟨σ,G,D3,hs,ab,f,hq⟩:=hq;exact hq.elim
theorem t_ex (e:IE):OkS Γ p (.ex e):=by
 intro M X x L h;obtain ⟨v,q,rfl,hh⟩:=zlX h
 .have h:=hh;refine (ziO (rW g e M X v L h.2).1 (tM h.1)).imp fun D τ H hq=>?_;obtain ⟨σ,G,D3,hs,ab,f,hq⟩:=hq;exact xJ (yS g.mono XN e) hs ab hq fun w G1 v1 H1 g1 hs1 r1 a1 hq=>f.nx σ G1 τ H1 g1 hs1 a1 hq
theorem t_ret (e:IE):OkS Γ p (.ret e):=by
 intro M X x L h;obtain ⟨v,q,rfl,hh⟩:=zjm h
 .have h:=hh;refine (zkU (rW g e M X v L h).1).imp fun D τ H hq=>?_;obtain ⟨σ,G,D3,hs,ab,f,hq⟩:=hq;exact xJ (yS g.mono XN e) hs ab hq fun w G1 v1 H1 g1 hs1 r1 a1 hq=>f.rt w G1 v1 H1 g1 r1 a1 hq
theorem t_ite (c:IE) (a b:ISs) (ha:OkSs Γ p a) (hb:OkSs Γ p b):OkS Γ p (.ite c a b):=by
 intro M X x L h;obtain ⟨t,y,z,q,rfl,hh⟩:=zjo h
 .have h:=hh;refine (ps_if (rW g c M X t L h.1).2.1 (ha M X y L h.2.1) (hb M X z L h.2.2)).imp fun D τ H hq=>?_;obtain ⟨σ,G,D3,hs,ab,f,hq⟩:=hq;refine zci (nZ g.mono XN c) hs ab hq fun k G1 H1 g1 hs1 a1 hq=>?_
  split
  .rename_i hk;rw[if_pos hk] at hq;exact ⟨σ,G1,D3,hs1,a1,f.grow g1,hq⟩
  .rename_i hk;rw[if_neg hk] at hq;exact ⟨σ,G1,D3,hs1,a1,f.grow g1,hq⟩
theorem t_whl (c:IE) (b:ISs) (hb:OkSs Γ p b):OkS Γ p (.whl c b):=by
 intro M X x L h;obtain ⟨t,y,q,rfl,hh⟩:=zjl h
 .have h:=hh;have hp:PassesOwn (model X.prog X.w) X.A X.env X.xe:=by rw[L.fits.xe];exact PassesOwn.never
  refine (zgn hp (rW g c M X t L h.1).2.1 (hb M X y L h.2)).imp fun D τ H hq=>?_;obtain ⟨σ,G,D3,hs,ab,f,Pv,⟨m0,p0⟩,step⟩:=hq;refine ⟨fun m τ H'=>yK X.K H H'/\∃ σ G,yM X.K H' σ τ/\xP X.K H' G/\Pv m σ G,⟨m0,.refl,σ,G,hs,ab,p0⟩,?_⟩;rintro m τ1 H1 ⟨g1,σ1,G1,hs1,a1,p1⟩;refine zci (nZ g.mono XN c) hs1 a1 (step m σ1 G1 p1) fun k G2 H2 g2 hs2 a2 hq=>?_
  split
  .rename_i hk;rw[if_pos hk] at hq;refine ⟨fun τ' H'=>∃ m',m' < m/\yK X.K H H'/\∃ σ G,yM X.K H' σ τ'/\xP X.K H' G/\Pv m' σ G,fun τ' H' z=>z,?_⟩;refine ⟨σ1,G2,_,hs2,a2,⟨?_,?_,?_,?_⟩,hq⟩
   .rintro σ3 G3 τ3 H3 g3 hs3 a3 ⟨m',hm,p'⟩;exact ⟨m',hm,g1.trans (g2.trans g3),σ3,G3,hs3,a3,p'⟩
   .exact fun σ3 G3 τ3 H3 g3 hs3 a3 z=>f.nx σ3 G3 τ3 H3 (g1.trans (g2.trans g3)) hs3 a3 z
   .rintro σ3 G3 τ3 H3 g3 hs3 a3 ⟨m',hm,p'⟩;exact ⟨m',hm,g1.trans (g2.trans g3),σ3,G3,hs3,a3,p'⟩
   .exact fun w G3 v3 H3 g3 r3 a3 z=>f.rt w G3 v3 H3 (g1.trans (g2.trans g3)) r3 a3 z
  .rename_i hk;rw[if_neg hk] at hq;exact f.nx σ1 G2 τ1 H2 (g1.trans g2) hs2 a2 hq
theorem t_for (tg:ITg) (it:II) (b:ISs) (hb:OkSs Γ p b):OkS Γ p (.for tg it b):=by
 intro M X x L h;obtain ⟨t,y,z,q,rfl,h1,h2,h3,h4⟩:=zjp h
 .
  have hp:PassesOwn (model X.prog X.w) X.A X.env X.xe:=by rw[L.fits.xe];exact PassesOwn.never
  refine (zkV hp L.fits.calm (sndI g it M X y L h3 t) (sndG L tg t h2) (hb M X z L h4) (zbi h1)).imp fun D τ H hq=>?_;obtain ⟨σ,G,D3,hs,ab,f,hq⟩:=hq;refine ⟨σ,G,hs,ab,zlm g.mono XN it σ G _ _ (fun items stab G1 hq J H1 g1 a1 ii=>?_) hq⟩;obtain ⟨Pv,p0,pst,step,fin⟩:=hq;refine ⟨fun i m τ H'=>m+i=items.length/\yK X.K H1 H'/\∃ σ G,yM X.K H' σ τ/\xP X.K H' G/\Pv i σ G,⟨items.length,rfl,.refl,σ,G1,hs.mono g1,a1,p0⟩,?_⟩;rintro i m τ2 H2 ⟨hm,g2,σ2,G2,hs2,a2,p2⟩;have st:=pst i σ2 G2 p2 (by omega)
  by_cases hi:i<items.length
  .refine .inr ⟨ii.go i H2 G2 g2 a2 st hi,fun τ' H'=>∃ m',m' < m/\(m'+(i+1)=items.length/\yK X.K H1 H'/\∃ σ G,yM X.K H' σ τ'/\xP X.K H' G/\Pv (i+1) σ G),fun τ' H' z=>z,fun x H' yl=>?_⟩;obtain ⟨w,ew,g3,rp,a3⟩:=ii.yld i H2 G2 x H' g2 a2 st hi yl;refine ⟨w,σ2,G2,rp,hs2.mono g3,a3,gQ tg w σ2 G2 _ _ (fun σ4 G4 hq τ4 H4 g4 hs4 a4=>?_) (step i w σ2 G2 ew p2)⟩;refine ⟨σ4,G4,_,hs4,a4,⟨?_,?_,?_,?_⟩,hq⟩
   .exact fun σ5 G5 τ5 H5 g5 hs5 a5 z=>⟨m-1,by omega,by omega,g2.trans (g3.trans (g4.trans g5)),σ5,G5,hs5,a5,z⟩
   .exact fun σ5 G5 τ5 H5 g5 hs5 a5 z=>f.nx σ5 G5 τ5 H5 (g1.trans (g2.trans (g3.trans (g4.trans g5)))) hs5 a5 z
   .exact fun σ5 G5 τ5 H5 g5 hs5 a5 z=>⟨m-1,by omega,by omega,g2.trans (g3.trans (g4.trans g5)),σ5,G5,hs5,a5,z⟩
   .exact fun w5 G5 v5 H5 g5 r5 a5 z=>f.rt w5 G5 v5 H5 (g1.trans (g2.trans (g3.trans (g4.trans g5)))) r5 a5 z
  .have ei:i=items.length:=by omega
   subst ei;exact .inl ⟨ii.stop _ H2 G2 g2 a2 st (zzR _),f.nx σ2 G2 τ2 H2 (g1.trans g2) hs2 a2 (fin σ2 G2 p2)⟩
theorem sndSs (s:ISs):OkSs Γ p s :=
 ISs.rec (motive_1:=OkS Γ p) (motive_2:=OkSs Γ p) (t_asg g) (zkg g) (zki g) (zkj g) (t_ex g) (t_ret g) (tN g).1 (tN g).2.1 (tN g).2.2.1 (tN g).2.2.2.1
  (fun c a b ha hb=>t_ite g c a b ha hb) (fun c b hb=>t_whl g c b hb) (fun tg it b hb=>t_for g tg it b hb) (tN g).2.2.2.2 (zkh g)
  (fun M X x L h=>by
   cases zjn h;exact ziL.imp fun D τ H hq=>by obtain ⟨σ,G,D3,hs,ab,f,hq⟩:=hq;exact f.nx σ G τ H .refl hs ab hq)
  (fun s ss hs1 hs2 M X x L h=>by
   obtain ⟨y,ys,rfl,hh⟩:=zgW h
   .have h:=hh;refine (zgm (hs1 M X y L h.1) (hs2 M X ys L h.2)).imp fun D τ H hq=>?_;obtain ⟨σ,G,D3,hs,ab,f,hq⟩:=hq;refine ⟨σ,G,{ D3 with nx:=zG Γ XN ss D3 },hs,ab,⟨?_,f.bk,f.ct,f.rt⟩,hq⟩;exact fun σ2 G2 τ2 H2 g2 hs2 a2 z=>⟨σ2,G2,D3,hs2,a2,f.grow g2,z⟩) s
end
end L3
namespace PySem
open Sem (wp)
section
variable {prog:Program} {w:World} {s:Shared} {A:Around} {E:Value->Shared->Prop}
def itc (b:Bool):String:=if b then "tuple_iterator" else "list_iterator"
def fL (b:Bool) (h:Heap) (i l:Addr) (k:Nat):Prop:=∃ o,h.get? i=some o/\o.cls=.type (itc b)/\o.data=.fields #[.ref l,.int k 0]
def dU (b:Bool) (h:Heap) (l:Addr) (its:Array Value):Prop:=match b with
 |true=>h.IsTuple l its
 |false=>h.IsList l its
theorem fL.at {b:Bool} {h h':Heap} {i l:Addr} {k:Nat} (x:fL b h i l k) (e:∀ o,h.get? i=some o->h'.get? i=some o):fL b h' i l k:=let ⟨o,ho,r⟩:=x;⟨o,e _ ho,r⟩
theorem dU.at {b:Bool} {h h':Heap} {l:Addr} {its:Array Value} (x:dU b h l its) (e:∀ o,h.get? l=some o->h'.get? l=some o):dU b h' l its:=by
 cases b
 .obtain ⟨o,ho,r⟩:=x;exact ⟨o,e _ ho,r⟩
 .obtain ⟨o,ho,r⟩:=x;exact ⟨o,e _ ho,r⟩
theorem fL.eb {b:Bool} {h h':Heap} {i l c:Addr} {k:Nat} (x:fL b h i l k) (e:Heap.ExtBut c h h') (n:i≠c):fL b h' i l k:=x.at fun o q=>e _ o n q
theorem dU.eb {b:Bool} {h h':Heap} {l c:Addr} {its:Array Value} (x:dU b h l its) (e:Heap.ExtBut c h h') (n:l≠c):dU b h' l its:=x.at fun o q=>e _ o n q
theorem dE {b:Bool} {l:Addr} {its:Array Value} {Q:Value->Shared->Prop} (h:dU b s.heap l its)
  (hQ:Q (.ref s.heap.objs.size) { s with heap:=s.heap.push { cls:=.type (itc b),data:=.fields #[.ref l,.int 0 0] } }):wpAny (model prog w) A (pyIter (.ref l)) Q E s:=by
 cases b
 .exact Za8 h hQ
 .exact wpAny_pyIter_tuple h hQ
abbrev zfr (it:Addr):Sem Value:=Builtin.SmallTypes.nextOf (.ref it)
theorem zhp {it:Addr} {Q:Value->Shared->Prop} (ty:s.TypeIs (.ref it) "tuple_iterator")
  (h:wpAny (model prog w) A.in1 (Builtin.«tuple_iterator.__next__» ⟨[.ref it],[]⟩) (fun f s'=>∃ v,f=.done (.ret v)/\Q v s') E s) :
  wpAny (model prog w) A (zfr it) Q E s:=by
 have sl:=F.slot_tuple_iterator_next;apply Zb;apply ZU ty sl;apply ZY sl ty F.entry_tuple_iterator_next _ (F.args_tuple_iterator_next_1 _);exact Zaa h (fun _ _ ⟨v,e,q⟩=>⟨v,e,Zg q⟩) fun _ _ e=>e
theorem fZ {it t:Addr} {i:Nat} {items} {x:Value} {Q:Value->Shared->Prop} (hit:s.heap.IsTupleIter it t i) (ht:s.heap.IsTuple t items) (hx:items[i]?=some x)
  (hQ:∀ h',h'.IsTupleIter it t (i+1)->Heap.SameBut it s.heap h'->Q x { s with heap:=h' }) :
  wpAny (model prog w) A (zfr it) Q E s:=by
 apply zhp hit.typeIs;obtain ⟨⟨c,di,da,sl⟩,g1,c1,d1⟩:=hit;obtain ⟨⟨c2,di2,da2,sl2⟩,g2,c2',n2,d2⟩:=ht;cases c1;cases d1;cases d2;obtain ⟨hp,ge,dr,tk,os⟩:=s
 wp_walk using ZN g2,ZN g1
 rw[Int.toNat_natCast,hx]
 wp_walk using ZN g1
 refine ⟨x,rfl,hQ _ ⟨_,Zx _ g1 rfl,rfl,?_⟩ (.update ..)⟩;exact congrArg (fun z=>Data.fields #[.ref t,z]) rfl
theorem dO {it t:Addr} {i:Nat} {items} {Q:Value->Shared->Prop} (hh:A.handled=none) (hit:s.heap.IsTupleIter it t i) (ht:s.heap.IsTuple t items) (hx:items[i]?=none)
  (hE:∀ g e,Heap.ExtBut it s.heap g->(∃ o,g.get? e=some o/\o.cls=.type "StopIteration")->E (.ref e) { s with heap:=g }) :
  wpAny (model prog w) A (zfr it) Q E s:=by
 apply zhp hit.typeIs;obtain ⟨⟨c,di,da,sl⟩,g1,c1,d1⟩:=hit;obtain ⟨⟨c2,di2,da2,sl2⟩,g2,c2',n2,d2⟩:=ht;cases c1;cases d1;cases d2;obtain ⟨hp,ge,dr,tk,os⟩:=s;have hh':A.in1.handled=none:=hh
 wp_walk using ZN g2,ZN g1
 rw[Int.toNat_natCast,hx]
 wp_walk using ZN g1
 unfold raiseNew
 wp_walk
 exact hE _ _ (fun b o n z=>Za _ (Za _ ((Zz ..).extBut b o n z))) ⟨_,Zk _ rfl,rfl⟩
theorem vF {b:Bool} {it l:Addr} {i:Nat} {items:Array Value} {x:Value} {Q:Value->Shared->Prop} (hit:fL b s.heap it l i) (hl:dU b s.heap l items) (hx:items[i]?=some x)
  (hQ:∀ h',fL b h' it l (i+1)->Heap.SameBut it s.heap h'->Q x { s with heap:=h' }):wpAny (model prog w) A (Builtin.SmallTypes.nextOf (.ref it)) Q E s:=by
 cases b
 .exact wpAny_nextOf_list_item hit hl hx hQ
 .exact fZ hit hl hx hQ
theorem fD {b:Bool} {it l:Addr} {i:Nat} {items:Array Value} {Q:Value->Shared->Prop} (hh:A.handled=none) (hit:fL b s.heap it l i) (hl:dU b s.heap l items) (hx:items[i]?=none)
  (hE:∀ h' e,Heap.ExtBut it s.heap h'->(∃ o,h'.get? e=some o/\o.cls=.type "StopIteration")->E (.ref e) { s with heap:=h' }):wpAny (model prog w) A (Builtin.SmallTypes.nextOf (.ref it)) Q E s:=by
 cases b
 .exact wpAny_nextOf_list_end hh hit hl hx hE
 .exact dO hh hit hl hx hE
abbrev IsZ (h:Heap) (z TI TO:Addr) (f0 f1:Value):Prop :=
 h.get? z=some { cls:=.type "zip", dict:=none,data:=.fields #[f0,f1,.bool false,.ref TI,.ref TO],slots:=#[] }
end
abbrev zpH1 (a:Bool) (h:Heap) (l1:Addr):Heap:=h.push { cls:=.type (itc a),data:=.fields #[.ref l1,.int 0 0] }
abbrev zpH2 (a b:Bool) (h:Heap) (l1 l2:Addr):Heap:=(zpH1 a h l1).push { cls:=.type (itc b),data:=.fields #[.ref l2,.int 0 0] }
abbrev zpH3 (a b:Bool) (h:Heap) (l1 l2:Addr):Heap:=(zpH2 a b h l1 l2).push { cls:=.type "tuple", data:=.seq #[.ref h.objs.size,.ref (zpH1 a h l1).objs.size] }
abbrev zpH4 (a b:Bool) (h:Heap) (l1 l2:Addr):Heap:=(zpH3 a b h l1 l2).push { cls:=.type "tuple", data:=.seq #[.none,.none] }
abbrev zpH5 (a b:Bool) (h:Heap) (l1 l2:Addr):Heap:=(zpH4 a b h l1 l2).push { cls:=.type "zip", data:=.fields #[.none,.bool false,.bool false,.ref (zpH2 a b h l1 l2).objs.size,.ref (zpH3 a b h l1 l2).objs.size] }
theorem za7 (a b:Bool) (l1 l2:Addr) (xs ys:Array Value) :
  Meets (Builtin.«zip.__new__» ⟨[.type "zip", .ref l1,.ref l2],[]⟩) (fun _ R s=>dU a s.heap l1 xs/\dU b s.heap l2 ys /\
   R (.ok (.ret (.ref (zpH4 a b s.heap l1 l2).objs.size))) { s with heap:=zpH5 a b s.heap l1 l2 }) :=
 .of_wp fun prog w A R st ⟨hl1,hl2,h⟩=>by
  obtain ⟨hp,g,d,tk,os⟩:=st;have hsub:=sub_zip;have hL1:dU a (Shared.heap ⟨hp,g,d,tk,os⟩) l1 xs:=hl1;have hL2:dU b (Shared.heap ⟨hp.push { cls:=.type (itc a),data:=.fields #[.ref l1,.int 0 0] },g,d,tk,os⟩) l2 ys:=hl2.at fun o e=>Za _ e
  wp_walk using dE hL1,dE hL2
  exact ⟨_,rfl,h⟩
section
variable {prog:Program} {w:World} {s:Shared} {A:Around} {E:Value->Shared->Prop}
theorem zjX {a b:Bool} {l1 l2:Addr} {xs ys:Array Value} {Q:Value->Shared->Prop} (hl1:dU a s.heap l1 xs) (hl2:dU b s.heap l2 ys)
  (h:∀ h',IsZ h' (s.heap.objs.size+4) (s.heap.objs.size+2) (s.heap.objs.size+3) .none (.bool false)->IsPair h' (s.heap.objs.size+2) (.ref s.heap.objs.size) (.ref (s.heap.objs.size+1)) ->
   IsPair h' (s.heap.objs.size+3) .none .none->fL a h' s.heap.objs.size l1 0->fL b h' (s.heap.objs.size+1) l2 0->h'.objs.size=s.heap.objs.size+5->(∀ c o,s.heap.get? c=some o->h'.get? c=some o)->Q (.ref (s.heap.objs.size+4)) { s with heap:=h' }):wpAny (model prog w) A (call (.type "zip") [.ref l1,.ref l2]) Q E s:=by
 apply callType_new F.called_zip (by decide) (F.typeCall_zip_2 _ _) (F.newCall_zip_2 _ _) (fun o=>F.args_object_init_3 o _ _) F.entry_zip_new (za7 a b l1 l2 xs ys);refine ⟨hl1,hl2,?_⟩;have z1:(zpH1 a s.heap l1).objs.size=s.heap.objs.size+1:=ZJ ..;have z2:(zpH2 a b s.heap l1 l2).objs.size=s.heap.objs.size+2:=by rw[ZJ,z1]
 have z3:(zpH3 a b s.heap l1 l2).objs.size=s.heap.objs.size+3:=by rw[ZJ,z2]
 have z4:(zpH4 a b s.heap l1 l2).objs.size=s.heap.objs.size+4:=by rw[ZJ,z3]
 have z5:(zpH5 a b s.heap l1 l2).objs.size=s.heap.objs.size+5:=by rw[ZJ,z4]
 have g5:(zpH5 a b s.heap l1 l2).get? (zpH4 a b s.heap l1 l2).objs.size=some _:=Zk _ rfl;have g4:(zpH5 a b s.heap l1 l2).get? (zpH3 a b s.heap l1 l2).objs.size=some _:=Za _ (Zk _ rfl);have g3:(zpH5 a b s.heap l1 l2).get? (zpH2 a b s.heap l1 l2).objs.size=some _:=Za _ (Za _ (Zk _ rfl));have g2:(zpH5 a b s.heap l1 l2).get? (zpH1 a s.heap l1).objs.size=some _:=Za _ (Za _ (Za _ (Zk _ rfl)));have g1:(zpH5 a b s.heap l1 l2).get? s.heap.objs.size=some _:=Za _ (Za _ (Za _ (Za _ (Zk _ rfl))));show _/\_;rw[z2,z3,z4] at g5;rw[z1,z2] at g3;rw[z3] at g4;rw[z1] at g2;rw[z4];refine ⟨⟨_,g5,rfl⟩,h _ g5 g3 g4 ⟨_,g1,rfl,rfl⟩ ⟨_,g2,rfl,rfl⟩ z5 fun c o x=>?_⟩
 iterate 5 refine Za _ ?_
 exact x
end
end PySem
namespace PySem
open Sem (wp)
section
variable {prog:Program} {w:World} {s:Shared} {A:Around} {E:Value->Shared->Prop}
theorem nO {M:Model} {a:Addr} {Q:Option Obj->Shared->Prop} (h:Q (s.heap.get? a) s):wpAny M A (loadIfAlive a) Q E s:=fun Γ p hΓ=>by
 unfold loadIfAlive;rw[Sem.wp_loadIfAlive];exact Zg h Γ p hΓ
abbrev zfS (z:Addr):Sem Fin:=Builtin.«zip.__next__» ⟨[.ref z],[]⟩
abbrev zj5 (Q:Value->Shared->Prop) (f:Fin) (s:Shared):Prop:=∃ v,f=.done (.ret v)/\Q v s
abbrev But4 (z TO i1 i2:Addr) (h h':Heap):Prop:=∀ c o,c≠z->c≠TO->c≠i1->c≠i2->h.get? c=some o->h'.get? c=some o
abbrev zia (h:Heap) (e:Addr):Prop:=∃ o,h.get? e=some o/\o.cls=.type "StopIteration"
def yB (p:Prop):Prop:=p
theorem jT {M:Model} {v:Value} {Q:Value->Shared->Prop} (h:yB (wpAny M A (Builtin.SmallTypes.nextOf v) Q E s)):wpAny M A (Builtin.SmallTypes.nextOf v) Q E s:=h
theorem zcH {z TI TO:Addr} {f0 f1:Value} {Q:Bool->Shared->Prop} (hz:IsZ s.heap z TI TO f0 f1) (hfr:f0=.none\/∃ T:Addr,f0=rawInt T/\s.heap.get? T=none) (h:Q true s) :
  wpAny (model prog w) A (Builtin.SmallTypes.ownedTupleIsFree (.ref z)) Q E s:=by
 obtain ⟨hp,ge,dr,tk,os⟩:=s;obtain rfl|⟨T,rfl,d⟩:=hfr<;>wp_walk using nO<;>exact h
theorem zcG {z TI TO T:Addr} {f1:Value} {o:Obj} {Q:Bool->Shared->Prop} (hz:IsZ s.heap z TI TO (rawInt T) f1) (hf:f1=.bool false\/f1=.bool true) (hT:s.heap.get? T=some o)
  (h:∀ h',IsZ h' z TI TO (rawInt T) (.bool true)->Heap.SameBut z s.heap h'->Q false { s with heap:=h' }) :
  wpAny (model prog w) A (Builtin.SmallTypes.ownedTupleIsFree (.ref z)) Q E s:=by
 obtain ⟨hp,ge,dr,tk,os⟩:=s;obtain rfl|rfl:=hf<;>wp_walk using nO
 .exact h _ (Zx _ hz rfl) (.update ..)
 .exact h _ hz (.refl ..)
theorem zie {a b:Bool} {z TI TO i1 i2 l1 l2:Addr} {k1 k2:Nat} {xs ys:Array Value} {x y u v f0 f1:Value} {Q:Value->Shared->Prop} (D:ZipApart z TI TO i1 i2 l1 l2)
  (hfr:f0=.none\/∃ T:Addr,f0=rawInt T/\s.heap.get? T=none) (hz:IsZ s.heap z TI TO f0 f1) (hTI:IsPair s.heap TI (.ref i1) (.ref i2)) (hTO:IsPair s.heap TO u v)
  (h1:fL a s.heap i1 l1 k1) (h2i:fL b s.heap i2 l2 k2) (hl1:dU a s.heap l1 xs) (hl2:dU b s.heap l2 ys) (hx:xs[k1]?=some x) (hy:ys[k2]?=some y)
  (hQ:∀ h',IsZ h' z TI TO (rawInt s.heap.objs.size) (.bool false)->IsPair h' TO x y->fL a h' i1 l1 (k1+1)->fL b h' i2 l2 (k2+1)->IsPair h' s.heap.objs.size x y->h'.objs.size=s.heap.objs.size+1 ->
   But4 z TO i1 i2 s.heap h'->Q (.ref s.heap.objs.size) { s with heap:=h' }) :
  wpAny (model prog w) A (zfS z) (zj5 Q) E s:=by
 wp_walk using jT,zcH hz hfr,ZbN
 have b1:=(Zz (h:=s.heap) (a:=z) (f:=Obj.mapFields fun x=>x.setIfInBounds 0 .ellipsis)).extBut;refine vF (h1.eb b1 D.i1z) (hl1.eb b1 D.l1z) hx fun h2 q1 k2=>?_;have t2:IsPair h2 TO u v:=k2.extBut _ _ D.TOi1 (b1 _ _ D.TOz hTO);have z2:IsZ h2 z TI TO .ellipsis f1:=k2.extBut _ _ D.i1z.symm (Zx _ hz rfl)
 wp_walk using jT,ZbN
 have b3:=(Zz h2 TO (Obj.mapSeq fun e=>e.setIfInBounds 0 x)).extBut;have c3:∀ c o,c≠z->c≠TO->c≠i1->s.heap.get? c=some o->(h2.update TO (Obj.mapSeq fun e=>e.setIfInBounds 0 x)).get? c=some o:=fun c o n1 n2 n3 e=>b3 _ _ n2 (k2.extBut _ _ n3 (b1 _ _ n1 e));refine vF (h2i.at fun o e=>c3 _ o D.i2z D.TOi2.symm D.i12.symm e) (hl2.at fun o e=>c3 _ o D.l2z D.l2TO D.l2i1 e) hy fun h4 q2 k4=>?_;have t4:IsPair h4 TO x v:=k4.extBut _ _ D.TOi2 (Zx _ t2 rfl);have z4:IsZ h4 z TI TO .ellipsis f1:=k4.extBut _ _ D.i2z.symm (b3 _ _ D.TOz.symm z2);have n1:=D.TOz
 wp_walk
 have b5:=(Zz h4 TO (Obj.mapSeq fun e=>e.setIfInBounds (0+1) y)).extBut;have t5:IsPair (h4.update TO (Obj.mapSeq fun e=>e.setIfInBounds (0+1) y)) TO x y:=Zx _ t4 rfl;have z5:=b5 _ _ n1.symm z4;have m5:(h4.update TO (Obj.mapSeq fun e=>e.setIfInBounds (0+1) y)).objs.size=s.heap.objs.size:=by rw[Zaj,k4.1,Zaj,k2.1,Zaj]
 have c5:∀ c o,c≠z->c≠TO->c≠i1->c≠i2->s.heap.get? c=some o->(h4.update TO (Obj.mapSeq fun e=>e.setIfInBounds (0+1) y)).get? c=some o:=fun c o n1 n2 n3 n4 e=>b5 _ _ n2 (k4.extBut _ _ n4 (c3 _ _ n1 n2 n3 e));have q15:=((q1.eb b3 D.TOi1.symm).eb k4.extBut D.i12).eb b5 D.TOi1.symm;have q25:=q2.eb b5 D.TOi2.symm;generalize h4.update TO (Obj.mapSeq fun e=>e.setIfInBounds (0+1) y)=h5 at *;rw[m5]
 have b6:∀ c o,c≠z->h5.get? c=some o->(((h5.push { cls:=.type "tuple", data:=.seq #[x,y] }).update z (Obj.mapFields fun e=>e.setIfInBounds 0 (rawInt s.heap.objs.size))).update z (Obj.mapFields fun e=>e.setIfInBounds 1 (.bool false))).get? c=some o :=
  fun c o n e=>(Zz ..).extBut _ _ n ((Zz ..).extBut _ _ n (Za _ e))
 refine ⟨_,rfl,hQ _ (Zx _ (Zx _ (Za _ z5) rfl) rfl) (b6 _ _ n1 t5) (q15.at fun o e=>b6 _ o D.i1z e) (q25.at fun o e=>b6 _ o D.i2z e) ?_ ?_ fun c o n1 n2 n3 n4 e=>b6 c o n1 (c5 c o n1 n2 n3 n4 e)⟩
 .have:=Zi z5;rw[m5] at this;refine (Zz ..).extBut _ _ (Zad this) ((Zz ..).extBut _ _ (Zad this) ?_);exact m5▸Zk _ rfl
 .rw[Zaj,Zaj,ZJ,m5]
theorem zid {a b:Bool} {z TI TO i1 i2 l1 l2 T:Addr} {k1 k2:Nat} {xs ys:Array Value} {x y u v f1:Value} {oT:Obj} {Q:Value->Shared->Prop} (D:ZipApart z TI TO i1 i2 l1 l2) (hf:f1=.bool false\/f1=.bool true)
  (hz:IsZ s.heap z TI TO (rawInt T) f1) (hT:s.heap.get? T=some oT) (hTI:IsPair s.heap TI (.ref i1) (.ref i2)) (hTO:IsPair s.heap TO u v)
  (h1:fL a s.heap i1 l1 k1) (h2i:fL b s.heap i2 l2 k2) (hl1:dU a s.heap l1 xs) (hl2:dU b s.heap l2 ys) (hx:xs[k1]?=some x) (hy:ys[k2]?=some y)
  (hQ:∀ h',IsZ h' z TI TO (rawInt T) (.bool true)->fL a h' i1 l1 (k1+1)->fL b h' i2 l2 (k2+1)->IsPair h' s.heap.objs.size x y->h'.objs.size=s.heap.objs.size+1 ->
   (∀ c o,c≠z->c≠i1->c≠i2->s.heap.get? c=some o->h'.get? c=some o)->Q (.ref s.heap.objs.size) { s with heap:=h' }) :
  wpAny (model prog w) A (zfS z) (zj5 Q) E s:=by
 wp_walk using jT,zcG hz hf hT
 intro g z1 j1
 wp_walk using jT
 refine vF (h1.eb j1.extBut D.i1z) (hl1.eb j1.extBut D.l1z) hx fun h2 q1 k2=>?_
 wp_walk using jT
 have c2:∀ c o,c≠z->c≠i1->s.heap.get? c=some o->h2.get? c=some o:=fun c o n1 n2 e=>k2.extBut _ _ n2 (j1.extBut _ _ n1 e);refine vF (h2i.at fun o e=>c2 _ o D.i2z D.i12.symm e) (hl2.at fun o e=>c2 _ o D.l2z D.l2i1 e) hy fun h3 q2 k3=>?_
 wp_walk
 have m:h3.objs.size=s.heap.objs.size:=by rw[k3.1,k2.1,j1.1]
 have p:∀ c o,h3.get? c=some o->(h3.push { cls:=.type "tuple", data:=.seq #[x,y] }).get? c=some o:=fun c o e=>Za _ e;rw[m];refine ⟨_,rfl,hQ _ (p _ _ (k3.extBut _ _ D.i2z.symm (k2.extBut _ _ D.i1z.symm z1))) ((q1.eb k3.extBut D.i12).at (p _)) (q2.at (p _)) ?_ ?_ fun c o n1 n2 n3 e=>p _ _ (k3.extBut _ _ n3 (c2 _ _ n1 n2 e))⟩
 .exact m▸Zk _ rfl
 .rw[ZJ,m]
theorem gX {a b:Bool} {z TI TO i1 i2 l1 l2:Addr} {k1 k2:Nat} {xs ys:Array Value} {u v f0 f1:Value} {Q:Fin->Shared->Prop} (hh:A.handled=none) (D:ZipApart z TI TO i1 i2 l1 l2)
  (hfr:f0=.none\/∃ T:Addr,f0=rawInt T/\s.heap.get? T=none) (hz:IsZ s.heap z TI TO f0 f1) (hTI:IsPair s.heap TI (.ref i1) (.ref i2)) (hTO:IsPair s.heap TO u v)
  (h1:fL a s.heap i1 l1 k1) (h2i:fL b s.heap i2 l2 k2) (hl1:dU a s.heap l1 xs) (hl2:dU b s.heap l2 ys) (hend:xs[k1]?=none\/ys[k2]?=none)
  (hE:∀ h' e,But4 z TO i1 i2 s.heap h'->zia h' e->E (.ref e) { s with heap:=h' }) :
  wpAny (model prog w) A (zfS z) Q E s:=by
 wp_walk using jT,zcH hz hfr,ZbN
 have b1:=(Zz (h:=s.heap) (a:=z) (f:=Obj.mapFields fun x=>x.setIfInBounds 0 .ellipsis)).extBut;have z1:IsZ (s.heap.update z (Obj.mapFields fun x=>x.setIfInBounds 0 .ellipsis)) z TI TO .ellipsis f1:=Zx _ hz rfl
 have fin:∀ (g:Heap) e,IsZ g z TI TO .ellipsis f1->(∃ o,g.get? e=some o/\o.cls=.type "StopIteration") ->
   ∃ o,(g.update z (Obj.mapFields fun x=>x.setIfInBounds 0 .none)).get? e=some o/\o.cls=.type "StopIteration" := by
  rintro g e zg ⟨o,he,ce⟩;refine ⟨o,(Zz ..).extBut _ _ ?_ he,ce⟩;rintro rfl;cases he.symm.trans zg;simp at ce
 cases hx:xs[k1]? with
 |none =>
  refine fD hh (h1.eb b1 D.i1z) (hl1.eb b1 D.l1z) hx fun g e k he=>?_;have zg:IsZ g z TI TO .ellipsis f1:=k _ _ D.i1z.symm z1
  wp_walk
  exact hE _ e (fun c o n1 _ n3 _ q=>(Zz ..).extBut _ _ n1 (k _ _ n3 (b1 _ _ n1 q))) (fin _ _ zg he)
 |some x =>
  have hy:=hend.resolve_left (by rw[hx];exact Option.some_ne_none x);refine vF (h1.eb b1 D.i1z) (hl1.eb b1 D.l1z) hx fun h2 q1 k2=>?_;have t2:IsPair h2 TO u v:=k2.extBut _ _ D.TOi1 (b1 _ _ D.TOz hTO);have z2:IsZ h2 z TI TO .ellipsis f1:=k2.extBut _ _ D.i1z.symm z1
  wp_walk using jT,ZbN
  have b3:=(Zz h2 TO (Obj.mapSeq fun e=>e.setIfInBounds 0 x)).extBut;have c3:∀ c o,c≠z->c≠TO->c≠i1->s.heap.get? c=some o->(h2.update TO (Obj.mapSeq fun e=>e.setIfInBounds 0 x)).get? c=some o:=fun c o n1 n2 n3 e=>b3 _ _ n2 (k2.extBut _ _ n3 (b1 _ _ n1 e));refine fD hh (h2i.at fun o e=>c3 _ o D.i2z D.TOi2.symm D.i12.symm e) (hl2.at fun o e=>c3 _ o D.l2z D.l2TO D.l2i1 e) hy fun g e k he=>?_;have zg:IsZ g z TI TO .ellipsis f1:=k _ _ D.i2z.symm (b3 _ _ D.TOz.symm z2)
  wp_walk
  exact hE _ e (fun c o n1 n2 n3 n4 q=>(Zz ..).extBut _ _ n1 (k _ _ n4 (c3 _ _ n1 n2 n3 q))) (fin _ _ zg he)
theorem zbA {a b:Bool} {z TI TO i1 i2 l1 l2 T:Addr} {k1 k2:Nat} {xs ys:Array Value} {u v f1:Value} {oT:Obj} {Q:Fin->Shared->Prop} (hh:A.handled=none) (D:ZipApart z TI TO i1 i2 l1 l2) (hf:f1=.bool false\/f1=.bool true)
  (hz:IsZ s.heap z TI TO (rawInt T) f1) (hT:s.heap.get? T=some oT) (hTI:IsPair s.heap TI (.ref i1) (.ref i2)) (hTO:IsPair s.heap TO u v)
  (h1:fL a s.heap i1 l1 k1) (h2i:fL b s.heap i2 l2 k2) (hl1:dU a s.heap l1 xs) (hl2:dU b s.heap l2 ys) (hend:xs[k1]?=none\/ys[k2]?=none)
  (hE:∀ h' e,But4 z TO i1 i2 s.heap h'->zia h' e->E (.ref e) { s with heap:=h' }) :
  wpAny (model prog w) A (zfS z) Q E s:=by
 wp_walk using jT,zcG hz hf hT
 intro g z1 j1
 wp_walk using jT
 cases hx:xs[k1]? with
 |none =>
  refine fD hh (h1.eb j1.extBut D.i1z) (hl1.eb j1.extBut D.l1z) hx fun g' e k he=>?_;exact hE _ e (fun c o n1 _ n3 _ q=>k _ _ n3 (j1.extBut _ _ n1 q)) he
 |some x =>
  have hy:=hend.resolve_left (by rw[hx];exact Option.some_ne_none x);refine vF (h1.eb j1.extBut D.i1z) (hl1.eb j1.extBut D.l1z) hx fun h2 q1 k2=>?_
  wp_walk using jT
  have c2:∀ c o,c≠z->c≠i1->s.heap.get? c=some o->h2.get? c=some o:=fun c o n1 n2 e=>k2.extBut _ _ n2 (j1.extBut _ _ n1 e);refine fD hh (h2i.at fun o e=>c2 _ o D.i2z D.i12.symm e) (hl2.at fun o e=>c2 _ o D.l2z D.l2i1 e) hy fun g' e k he=>?_;exact hE _ e (fun c o n1 _ n3 n4 q=>k _ _ n4 (c2 _ _ n1 n3 q)) he
end
end PySem
namespace L2
open PySem PySem.Spec PyProof.Rows
structure TurnL (P:Program) (w:World) (K:PySem.W.Frag) (T:String) (J:It) (fp:List Addr) (it:Addr) (tn:Nat->Heap->Prop):Prop where
 mem:it∈fp
 ty:∀ i h,tn i h->∃ o,h.get? it=some o/\o.cls=.type T
 obj:∀ i h,tn i h->∀ b∈fp,∃ o,h.get? b=some o/\∀ v,o.data≠.cell v
 keep:∀ i h h',tn i h->(∀ b∈fp,∀ o,h.get? b=some o->h'.get? b=some o)->tn i h'
 item:∀ (X:Cx),X.prog=P->X.w=w->X.K=K->X.calm=true->∀ (i:Nat) (pins:List (Addr×Obj)) (s:Shared) (σ:St) (H:Hp) (E:Value->Shared->Prop),Inv X pins σ H s->(∀ b∈fp,uB X pins H b)->tn i s.heap->J.go i H ->
  wpAny (model P w) X.A (pyNext (.ref it)) (fun r s2=>∃ u x H',r=some u/\Inv X pins σ H' s2/\yW x u/\J.yld i H x H'/\tn (i+1) s2.heap/\∀ b∈fp,H' b=none) E s
 done:∀ (X:Cx),X.prog=P->X.w=w->X.K=K->X.calm=true->∀ (i:Nat) (pins:List (Addr×Obj)) (s:Shared) (σ:St) (H:Hp) (E:Value->Shared->Prop),Inv X pins σ H s->(∀ b∈fp,uB X pins H b)->tn i s.heap->J.stop i H ->
  wpAny (model P w) X.A (pyNext (.ref it)) (fun r s1=>r=none/\Inv X pins σ H s1) E s
 self:∀ (A:Around) (i:Nat) (s:Shared) (Q:Value->Shared->Prop) (E:Value->Shared->Prop),tn i s.heap->Q (.ref it) s->wpAny (model P w) A (pyIter (.ref it)) Q E s
 hint:∀ (A:Around) (i:Nat) (s:Shared) (Q:Bool->Shared->Prop) (E:Value->Shared->Prop),tn i s.heap->(∀ b,Q b s)->wpAny (model P w) A (Builtin.List.listLengthHint (.ref it)) Q E s
abbrev Cx.atA (X:Cx) (A:Around):Cx:={ X with A:=A }
theorem Cx.Ok.atA {X:Cx} (ok:X.Ok) {A:Around} (hf:A.frames=X.A.frames) (hh:A.handled=X.A.handled):(X.atA A).Ok :=
 ⟨ok.mod,ok.kind,ok.glob,ok.blt,ok.above,ok.inj,ok.has,ok.cab,fun z=>hh.trans (ok.hd z),hf.trans ok.frames,ok.stk,ok.exf,ok.bs,ok.bsz,ok.noex,ok.exfs,ok.funs,ok.frf⟩
section
variable {X:Cx} {pins:List (Addr×Obj)} {σ:St} {H:Hp} {s:Shared}
theorem Inv.atA (I:Inv X pins σ H s) {A:Around} (hf:A.frames=X.A.frames) (hh:A.handled=X.A.handled):Inv (X.atA A) pins σ H s :=
 ⟨I.ok.atA hf hh,I.os,I.bare,I.base,I.loc,I.cell,I.free,I.freeC,I.pin,I.hok,I.len,I.tk⟩
theorem Inv.unA {A:Around} (hf:A.frames=X.A.frames) (hh:A.handled=X.A.handled) (I:Inv (X.atA A) pins σ H s):Inv X pins σ H s :=
 ⟨Cx.Ok.atA (X:=X.atA A) (A:=X.A) I.ok hf.symm hh.symm,I.os,I.bare,I.base,I.loc,I.cell,I.free,I.freeC,I.pin,I.hok,I.len,I.tk⟩
theorem zg7 {P:Program} {w:World} {A:Around} {R:Result->Shared->Prop} (S I:Addr) (res:Value) (Jn:Nat->Shared->Prop)
  (step:∀ k s,Jn k s->wpAny (model P w) A.in1 (pyNext (.ref I)) (fun r s'=>match r with
   |none=>R (.ok (.ret res)) s'
   |some v=>∃ its c,s'.heap.get? S=some (uN its c)/\its.length<sizeLine/\∀ h',Heap.SameBut S s'.heap h'->h'.get? S=some (uN (its++[v]) (c+1))->∃ k',k' < k/\Jn k' { s' with heap:=h' }) (fun e s'=>R (.error e) s') s) :
  ∀ k s,Jn k s->codeAny (model P w) A (.builtin "list.extend.loop" ⟨[.ref S,.ref I,res],[]⟩) R s:=by
 intro k
 induction k using Nat.strongRecOn with
 |_ k ih =>
  intro s j;refine codeAny_builtin F.entry_extend_loop ?_;rw[Around.under_plainId ZaQ _];show wpAny _ A.in1 (pyNext (.ref I) >>= _) _ _ s;refine Zb (xY (step k s j) fun r s' q=>?_)
  cases r with
  |none=>exact Zg q
  |some v =>
   obtain ⟨its,c,hS,hl,q⟩:=q;show wpAny _ A.in1 (updateSeq S (·.push v) >>= _) _ _ _;refine Zb ?_;obtain ⟨k',hk,j'⟩:=q _ (Zz ..) (by exact (Zx (Obj.mapSeq (·.push v)) hS rfl).trans (by simp[Obj.mapSeq,uN]));exact ZaJ hS rfl (Zg ⟨Zb5 ZaQ _,ih k' hk _ j'⟩) (by show its.toArray.size<=sizeLine;rw[zzS];omega) (by show (its.toArray.push v).size<=sizeLine+1;rw[Array.size_push,zzS];omega)
theorem Inv.adopt {a:Addr} {o:HO} (I:Inv X pins σ H s) (off:Off X pins a) (hn:H a=none) (new:xD X.prog X.w (xC H a o) s.heap a o):Inv X pins σ (xC H a o) s:=by
 have b:=I.base;have nb:∀ b' ob,X.s₀.heap.get? b'=some ob->b'≠a:=fun b' ob e=>Zr (Zm (Zi e) off.ge);refine ⟨I.ok,I.os,I.bare,⟨b.keep,b.slot,fun c ob e n hx=>?_,b.there,fun c xs e=>?_,fun c ob u e=>?_,fun c ps e=>?_⟩,I.loc,I.cell,?_,fun x c e=>?_,fun p hp=>?_,I.hok.adopt (fun c u v _ q=>q) hn new,I.len,I.tk⟩
 .rw[yU (nb c ob e)];exact b.free c ob e n hx
 .rw[yU (yN (b.tups c xs e) hn)];exact b.tups c xs e
 .rw[yU (yN (b.frzs c ob u e) hn)];exact b.frzs c ob u e
 .obtain ⟨mo,e'⟩:=b.tbls c ps e;exact ⟨mo,by rw[yU (yN e' hn)];exact e'⟩
 .rw[yU off.ne.symm];exact I.free
 .rw[yU (off.cl x c e)];exact I.freeC x c e
 .obtain ⟨q1,q2,q3⟩:=I.pin p hp;exact ⟨q1,by rw[yU (off.pn p hp)];exact q2,q3⟩
theorem zeW (hc:X.calm=true) {T:String} {J:It} {fp:List Addr} {it:Addr} {tn:Nat->Heap->Prop} {Q:VK} (hTl:(Value.type T==Value.type "list")=false) (hTt:(Value.type T==Value.type "tuple")=false)
  (I:Inv X pins σ H s) (Tn:TurnL X.prog X.w X.K T J fp it tn) (t0:tn 0 s.heap) (hf:∀ b∈fp,uB X pins H b) (n:Nat) (hn:n<=sizeLine) (W:Nat->List V->Hp->Prop) (w0:W 0 [] H)
  (wgo:∀ i acc H,i<n->W i acc H->J.go i H/\∀ x H',J.yld i H x H'->W (i+1) (acc++[x]) H') (wst:∀ acc H,W n acc H->J.stop n H/\∀ p,H p=none->Q (.ref p) (xC H p (.lst acc))) :
  wpAny (model X.prog X.w) X.A (call (.type "list") [.ref it]) (EP X pins σ Q) X.xe s:=by
 have hfp:∀ b∈fp,b<s.heap.objs.size:=fun b hb=>by
  obtain ⟨o,e,_⟩:=Tn.obj _ _ t0 b hb;exact Zi e
 have hSf:∀ b∈fp,b≠s.heap.objs.size:=fun b hb=>Zr (hfp b hb);have hSI:s.heap.objs.size≠it:=(hSf it Tn.mem).symm;have off:Off X pins s.heap.objs.size:=I.off (zzR _);have nfs:s.heap.objs.size∉X.fs:=I.nofs (zzR _);have fr0:∀ b∈fp,H b=none:=fun b hb=>(hf b hb).1;have HS0:H s.heap.objs.size=none:=I.hok.fresh (zzR _)
 have fpok:∀ {H':Hp} {ob:Obj},(∀ b∈fp,H' b=none)->∀ b∈fp,uB X ((s.heap.objs.size,ob)::pins) H' b:=fun {H' ob} hn b hb=>by
  obtain ⟨q1,q2,q3,q4,q5,q6⟩:=hf b hb;refine ⟨hn b hb,q2,q3,q4,q5,fun p hp=>?_⟩;rcases ZD.mp hp with hp|hp
  .exact q6 p (Zar _ hp)
  .rcases Zd.mp hp with rfl|hp
   .exact (hSf b hb).symm
   .exact q6 p (Zt _ hp)
 have pinS:∀ {H':Hp} {s':Shared} {its:List Value} {c:Nat},Inv X pins σ H' s'->H' s.heap.objs.size=none->s'.heap.get? s.heap.objs.size=some (uN its c)->Inv X ((s.heap.objs.size,uN its c)::pins) σ H' s':=fun {H' s' its c} I' hn e =>
  I'.pins_of fun p hp=>by
   rcases Zd.mp hp with rfl|hp
   .exact ⟨e,hn,off.ne,nfs,fun v z=>nomatch z⟩
   .exact I'.pin p (Zt _ hp)
 have unpin:∀ {H':Hp} {s':Shared} {ob:Obj},Inv X ((s.heap.objs.size,ob)::pins) σ H' s'->Inv X pins σ H' s':=fun {H' s' ob} I'=>I'.pins_of fun p hp=>I'.pin p (Zt _ (Zc _ hp))
 refine callType_codes (Q₁:=fun obj s₁=>obj=.ref s.heap.objs.size/\s₁={ s with heap:=s.heap.push { cls:=.type "list", data:=.seq #[] } }) F.called_list (F.typeCall_list_1 _) F.entry_list_init
  (code_list_new _ ⟨rfl,rfl⟩) fun obj s₁ h₁=>?_
 obtain ⟨rfl,rfl⟩:=h₁;have hS:(s.heap.push { cls:=.type "list", data:=.seq #[] }).get? s.heap.objs.size=some { cls:=.type "list", data:=.seq #[] }:=Zk _ rfl;refine ⟨⟨_,hS,rfl⟩,F.args_list_init_2 _ _,?_⟩
 have loop:∀ (h':Heap) (c:Nat),h'.get? s.heap.objs.size=some (uN [] c)->(∀ b o,s.heap.get? b=some o->h'.get? b=some o) ->
   codeAny (model X.prog X.w) X.A.in1 (.builtin "list.extend.loop" ⟨[.ref s.heap.objs.size,.ref it,.none],[]⟩) (wants (fun r s₂=>r=.none/\EP X pins σ Q (.ref s.heap.objs.size) s₂) X.xe) { s with heap:=h' }:=by
  intro h' c e0 k0
  refine zg7 s.heap.objs.size it .none (fun k s'=>∃ i acc H' its c,k+i=n/\Inv X pins σ H' s'/\tn i s'.heap/\(∀ b∈fp,H' b=none)/\H' s.heap.objs.size=none/\s'.heap.get? s.heap.objs.size=some (uN its c)/\yZ acc its/\acc.length<=i/\W i acc H') ?_ n _
   ⟨0,[],H,[],c,by omega,I.kept (t':=s.toks) k0,Tn.keep _ _ _ t0 fun b _ o e=>k0 b o e,fr0,HS0,e0,.nil,zzR _,w0⟩
  rintro k s' ⟨i,acc,H',its,c',hk,I',st,fr,hS',oS,v,la,wi⟩;have Ip:=(pinS I' hS' oS).atA (A:=X.A.in1.in1) rfl rfl
  by_cases hi:i<n
  .obtain ⟨go,yl⟩:=wgo i acc H' hi wi;refine xY (Tn.item (X.atA X.A.in1.in1) rfl rfl rfl hc i _ s' σ H' _ Ip (fpok fr) st go) fun r s2 ⟨u,x,H2,hr,I2,r2,y2,st2,fr2⟩=>?_;subst hr;have I2':=Inv.unA (X:=X) (A:=X.A.in1.in1) rfl rfl I2;have p2:=I2'.pin (s.heap.objs.size,uN its c') (Zt _ (zzT ..));refine ⟨its,c',p2.1,by rw[← v.length];omega,fun h'' sb e''=>⟨k-1,by omega,i+1,acc++[x],H2,its++[u],c'+1,by omega,off.turned (unpin I2') p2.2.1 sb,Tn.keep _ _ _ st2 fun b hb o e=>sb.extBut b o (hSf b hb) e,fr2,p2.2.1,e'',v.append (.cons r2 .nil),by rw[zzW];show acc.length+1<=i+1;omega,yl x H2 y2⟩⟩
  .have hin:i=n:=by omega
   subst hin;obtain ⟨yX,fin⟩:=wst acc H' wi;refine xY (Tn.done (X.atA X.A.in1.in1) rfl rfl rfl hc i _ s' σ H' _ Ip (fpok fr) st yX) fun r s2 ⟨hr,I2⟩=>?_;subst hr;have I2':=Inv.unA (X:=X) (A:=X.A.in1.in1) rfl rfl I2;have p2:=I2'.pin (s.heap.objs.size,uN its c') (Zt _ (zzT ..));exact ⟨rfl,.ref s.heap.objs.size,xC H' s.heap.objs.size (.lst acc),(unpin I2').adopt off hS' ⟨by omega,its,c',v,p2.1⟩,rfl,fin _ hS'⟩
 show wpAny _ X.A.in1.in1 (do let old ← Builtin.List.listItems (.ref s.heap.objs.size);Builtin.List.listUpdate (.ref s.heap.objs.size) (fun _=>#[]);letGo old.toList.reverse;Builtin.List.listExtendWith (.ref s.heap.objs.size) (.ref it) .none) _ _ _;refine Zb ?_;unfold Builtin.List.listItems;refine Zb (wpAny_seqItems hS rfl (Zg ?_));show wpAny _ X.A.in1.in1 (updateSeq s.heap.objs.size (fun _=>#[]) >>= fun _=>letGo (#[]:Array Value).toList.reverse >>= fun _=>Builtin.List.listExtendWith (.ref s.heap.objs.size) (.ref it) .none) _ _ _;refine Zb (ZaJ hS rfl ?_);have hS₂:=Zx (Obj.mapSeq (fun _=>(#[]:Array Value))) hS rfl;generalize hh2:(s.heap.push { cls:=.type "list", data:=.seq #[] }).update s.heap.objs.size (Obj.mapSeq (fun _=>(#[]:Array Value)))=h2 at *
 have k2:∀ b o,s.heap.get? b=some o->h2.get? b=some o:=fun b o e=>by
  rw[← hh2,ZW _ _ (Zad (Zi e))];exact Za _ e
 have tn2:tn 0 h2:=Tn.keep _ _ _ t0 fun b _ o e=>k2 b o e;refine Zb (wpAny_letGo ?_);unfold Builtin.List.listExtendWith;obtain ⟨oI,eI,cI⟩:=Tn.ty _ _ tn2;refine Zb (ZbE (s:={ s with heap:=h2 }) ⟨oI,eI,cI⟩ ?_);have h1:Builtin.List.listSameRef (.ref s.heap.objs.size) (.ref it)=false:=by simp[Builtin.List.listSameRef,hSI]
 rw[if_neg (by rw[h1,hTl,hTt];decide)];refine Zb (Tn.self _ 0 { s with heap:=h2 } _ _ tn2 ?_);refine Zb (ZK (Tn.hint _ 0 { s with heap:=h2 } _ _ tn2 fun room=>?_));dsimp only
 split
 .refine Zb (wpAny_rule ?_);refine Zb ?_;show wpAny _ X.A.in1.in1 (updateSeq s.heap.objs.size (·.push .none) >>= fun _=>updateSeq s.heap.objs.size (·.pop)) _ _ _;refine Zb (ZaJ hS₂ rfl ?_);have hS₃:=Zx (Obj.mapSeq (·.push Value.none)) hS₂ rfl;refine ZaJ (hz:=by seq_fits) hS₃ rfl ?_;have hS₄:=Zx (Obj.mapSeq (·.pop)) hS₃ rfl;refine Zg ⟨Zb5 ZaQ _,loop _ _ hS₄ fun b o e=>?_⟩;rw[ZW _ _ (Zad (Zi e)),ZW _ _ (Zad (Zi e))];exact k2 b o e
 .exact Zg ⟨Zb5 ZaQ _,loop _ _ hS₂ k2⟩
end
end L2
namespace L2
open PySem PySem.Spec PyProof.Rows
def SqB (b:Bool) (K:PySem.W.Frag) (H:Hp) (a:Addr) (xs:List V):Prop:=match b with
 |true=>pR K H a xs
 |false=>mY K H a xs
theorem Inv.sqB {X:Cx} {pins:List (Addr×Obj)} {σ:St} {H:Hp} {s:Shared} {b:Bool} {a:Addr} {xs:List V} (I:Inv X pins σ H s) (h:SqB b X.K H a xs):∃ its:List Value,yZ xs its/\dU b s.heap a its.toArray/\xs.length<=sizeLine:=by
 cases b
 .obtain ⟨its,r,p,hz⟩:=I.list h;exact ⟨its,r,p.isList,hz⟩
 .obtain ⟨its,r,p,hz⟩:=I.tuple h;exact ⟨its,r,p,hz⟩
theorem Inv.sqB_inj {X:Cx} {pins:List (Addr×Obj)} {σ:St} {H:Hp} {s:Shared} {b:Bool} {a:Addr} {xs ys:List V} (I:Inv X pins σ H s) (h:SqB b X.K H a xs) (h':SqB b X.K H a ys):xs=ys:=by
 cases b
 .exact I.list_inj h h'
 .exact I.tuple_inj h h'
theorem Inv.turns {X:Cx} {pins:List (Addr×Obj)} {σ:St} {H:Hp} {s:Shared} {h':Heap} {t':Nat} {fp:List Addr} (I:Inv X pins σ H s) (hf:∀ b∈fp,uB X pins H b) (k:∀ b o,b∉fp->s.heap.get? b=some o->h'.get? b=some o) (ht:0<t':=by first|exact ZR _|exact L2.Inv.tk (by assumption)|exact L2.Inv.tk ‹L2.Inv _ _ _ _ _› | assumption|omega):Inv X pins σ H { s with heap:=h',toks:=t' }:=by
 have nit:∀ b u,H b=some u->b∉fp:=fun b u e z=>by rw[(hf b z).1] at e;cases e
 refine I.step (g':=s.gens) (d':=s.drawn) (ch:=fp) (fun b hb=>?_) (fun b o _ _ hc e _=>k b o hc e) (fun b o _ _ hc e _=>⟨o.slots,k b o hc e⟩) (fun _ _ _ _ n=>n)
  (fun b o hc e=>⟨o,k b o hc e⟩) (fun _ _ e=>e) (fun _ _ _ e=>e) (fun b ps e=>⟨#[],by rw[e];simp⟩) (fun m hm=>?_) (fun b u e=>?_) I.bare
 .obtain ⟨_,q2,q3,q4,q5,q6⟩:=hf b hb;exact ⟨q4,q2,q5,q6⟩
 .obtain ⟨o,es,ep,ho,r⟩:=hm;exact ⟨o,es,ep,k _ o (fun z=>(hf _ z).2.1 rfl) ho,r⟩
 .refine (I.hok b u e).stay (fun c v hc q=>k c v ?_ q) (fun _ q=>q) fun _ _ q=>q;rcases hc with z|z
  .rw[z];exact nit b u e
  .exact nit c _ z
def Itz (a b:Bool) (K:PySem.W.Frag) (l1 l2:Addr):It where
 go:=fun i H=>∃ xs ys x y,SqB a K H l1 xs/\SqB b K H l2 ys/\xs[i]?=some x/\ys[i]?=some y
 yld:=fun i H v H'=>∃ p x y,v=.ref p/\H p=none/\H'=xC H p (.tup [x,y])/\(∀ xs,SqB a K H l1 xs->xs[i]?=some x)/\∀ ys,SqB b K H l2 ys->ys[i]?=some y
 stop:=fun i H=>∃ xs ys,SqB a K H l1 xs/\SqB b K H l2 ys/\(xs[i]?=none\/ys[i]?=none)
def tP (a b:Bool) (z TI TO i1 i2 l1 l2:Addr) (i:Nat) (h:Heap):Prop :=
 ∃ f0 f1,IsZ h z TI TO f0 f1/\(f0=.none\/∃ T:Addr,f0=rawInt T)/\(f1=.bool false\/f1=.bool true)/\IsPair h TI (.ref i1) (.ref i2)/\(∃ u v,IsPair h TO u v)/\fL a h i1 l1 i/\fL b h i2 l2 i
section
variable {a b:Bool} {z TI TO i1 i2 l1 l2:Addr}
theorem tP.obj {i:Nat} {h:Heap} (x:tP a b z TI TO i1 i2 l1 l2 i h):∀ c∈[z,TI,TO,i1,i2],∃ o,h.get? c=some o/\∀ v,o.data≠.cell v:=by
 obtain ⟨f0,f1,hz,_,_,hTI,⟨u,v,hTO⟩,⟨o1,e1,_,d1⟩,⟨o2,e2,_,d2⟩⟩:=x;intro c hc;simp only[Zd,ZB,or_false] at hc;rcases hc with rfl|rfl|rfl|rfl|rfl
 .exact ⟨_,hz,fun v z=>nomatch z⟩
 .exact ⟨_,hTI,fun v z=>nomatch z⟩
 .exact ⟨_,hTO,fun v z=>nomatch z⟩
 .exact ⟨_,e1,fun v z=>by rw[d1] at z;cases z⟩
 .exact ⟨_,e2,fun v z=>by rw[d2] at z;cases z⟩
theorem tP.keep {i:Nat} {h h':Heap} (x:tP a b z TI TO i1 i2 l1 l2 i h) (k:∀ c∈[z,TI,TO,i1,i2],∀ o,h.get? c=some o->h'.get? c=some o):tP a b z TI TO i1 i2 l1 l2 i h':=by
 obtain ⟨f0,f1,hz,h0,h1,hTI,⟨u,v,hTO⟩,s1,s2⟩:=x;exact ⟨f0,f1,k z (by simp) _ hz,h0,h1,k TI (by simp) _ hTI,⟨u,v,k TO (by simp) _ hTO⟩,s1.at fun o e=>k i1 (by simp) o e,s2.at fun o e=>k i2 (by simp) o e⟩
variable {X:Cx} {pins:List (Addr×Obj)} {σ:St} {H:Hp} {s:Shared}
theorem zcm (hd:[z,TI,TO,i1,i2].Nodup) (hf:∀ c∈[z,TI,TO,i1,i2],uB X pins H c) {xs ys:List V} (I:Inv X pins σ H s) (h1:SqB a X.K H l1 xs) (h2:SqB b X.K H l2 ys)
  (n1:l1∉[z,TI,TO,i1,i2]) (n2:l2∉[z,TI,TO,i1,i2]):ZipApart z TI TO i1 i2 l1 l2:=by
 simp only[Zat,Zd,ZB,or_false,not_or,Zb2,not_false_eq_true,and_true] at hd n1 n2;obtain ⟨⟨a1,a2,a3,a4⟩,⟨b1,b2,b3⟩,⟨c1,c2⟩,d1⟩:=hd;obtain ⟨m1,m2,m3,m4,m5⟩:=n1;obtain ⟨k1,k2,k3,k4,k5⟩:=n2;exact ⟨Ne.symm a1,Ne.symm a2,Ne.symm a3,Ne.symm a4,b1,b2,b3,c1,c2,d1,m1,m3,m4,m5,k1,k3,k4,k5⟩
theorem zic {E:Value->Shared->Prop} (hh:X.A.handled=none) (hd:[z,TI,TO,i1,i2].Nodup) (n1:l1∉[z,TI,TO,i1,i2]) (n2:l2∉[z,TI,TO,i1,i2]) {i:Nat} (I:Inv X pins σ H s) (hf:∀ c∈[z,TI,TO,i1,i2],uB X pins H c)
  (st:tP a b z TI TO i1 i2 l1 l2 i s.heap) (go:(Itz a b X.K l1 l2).go i H) :
  wpAny (model X.prog X.w) X.A (pyNext (.ref z)) (fun r s2=>∃ u x H',r=some u/\Inv X pins σ H' s2/\yW x u/\(Itz a b X.K l1 l2).yld i H x H'/\tP a b z TI TO i1 i2 l1 l2 (i+1) s2.heap/\(∃ T:Addr,u=.ref T/\T∉[z,TI,TO,i1,i2])/\∀ c∈[z,TI,TO,i1,i2],H' c=none) E s:=by
 obtain ⟨xs,ys,x,y,q1,q2,ex,ey⟩:=go;have D:=zcm hd hf I q1 q2 n1 n2;obtain ⟨itx,vx,sx,_⟩:=I.sqB q1;obtain ⟨ity,vy,sy,_⟩:=I.sqB q2;obtain ⟨ux,eux,rx⟩:=vx.get ex;obtain ⟨uy,euy,ry⟩:=vy.get ey;have hx:itx.toArray[i]?=some ux:=by simpa using eux
 have hy:ity.toArray[i]?=some uy:=by simpa using euy
 obtain ⟨f0,f1,hz,h0,h1,hTI,⟨u,v,hTO⟩,s1,s2⟩:=id st;have hT:s.TypeIs (.ref z) "zip" := ⟨_,hz,rfl⟩
 have lt:∀ c∈[z,TI,TO,i1,i2],c<s.heap.objs.size:=fun c hc=>by
  obtain ⟨o,e,_⟩:=st.obj c hc;exact Zi e
 have new:s.heap.objs.size∉[z,TI,TO,i1,i2]:=fun hm=>Z7 _ (lt _ hm)
 have fin:∀ (h':Heap),tP a b z TI TO i1 i2 l1 l2 (i+1) h'->IsPair h' s.heap.objs.size ux uy->h'.objs.size=s.heap.objs.size+1->(∀ c o,c∉[z,TI,TO,i1,i2]->s.heap.get? c=some o->h'.get? c=some o) ->
   ∃ u x H',(some (Value.ref s.heap.objs.size))=some u/\Inv X pins σ H' { s with heap:=h' }/\yW x u/\(Itz a b X.K l1 l2).yld i H x H'/\tP a b z TI TO i1 i2 l1 l2 (i+1) h'/\(∃ T:Addr,u=.ref T/\T∉[z,TI,TO,i1,i2])/\∀ c∈[z,TI,TO,i1,i2],H' c=none:=by
  intro h' st' pr sz k;have hn:H s.heap.objs.size=none:=I.hok.fresh (zzR _);have I1:Inv X pins σ H { s with heap:=h',toks:=s.toks }:=I.turns hf k;refine ⟨_,.ref s.heap.objs.size,xC H s.heap.objs.size (.tup [x,y]),rfl,?_,rfl,⟨_,x,y,rfl,hn,rfl,fun xs' q'=>by rw[I.sqB_inj q' q1];exact ex,fun ys' q'=>by rw[I.sqB_inj q' q2];exact ey⟩,st',⟨_,rfl,new⟩,fun c hc=>by rw[yU (fun e:c=s.heap.objs.size=>new (e▸hc))];exact (hf c hc).1⟩;exact I1.adopt (I.off (zzR _)) hn ⟨by show 2<=sizeLine;rw[ZI];decide,[ux,uy],.cons rx (.cons ry .nil),⟨_,pr,rfl,_,rfl⟩⟩
 unfold pyNext
 have free:(f0=.none\/∃ T:Addr,f0=rawInt T/\s.heap.get? T=none)->wpAny (model X.prog X.w) X.A.in1 (Builtin.«zip.__next__» ⟨[.ref z],[]⟩) (fun fin s'=>∃ v,fin=.done (.ret v)/\∃ u x H',some v=some u/\Inv X pins σ H' s'/\yW x u/\(Itz a b X.K l1 l2).yld i H x H'/\tP a b z TI TO i1 i2 l1 l2 (i+1) s'.heap/\(∃ T:Addr,u=.ref T/\T∉[z,TI,TO,i1,i2])/\∀ c∈[z,TI,TO,i1,i2],H' c=none) (fun _ _=>False) s:=fun hfr=>by
  refine zie D hfr hz hTI hTO s1 s2 sx sy hx hy fun h' a1 a2 a3 a4 a5 a6 a7=>fin h' ⟨_,_,a1,.inr ⟨_,rfl⟩,.inl rfl,a7 TI _ D.TIz D.TITO D.TIi1 D.TIi2 hTI,⟨_,_,a2⟩,a3,a4⟩ a5 a6 fun c o hc e=>?_;simp only[Zd,ZB,or_false,not_or] at hc;exact a7 c o hc.1 hc.2.2.1 hc.2.2.2.1 hc.2.2.2.2 e
 have held:∀ (T:Addr) (oT:Obj),f0=rawInt T->s.heap.get? T=some oT->wpAny (model X.prog X.w) X.A.in1 (Builtin.«zip.__next__» ⟨[.ref z],[]⟩) (fun fin s'=>∃ v,fin=.done (.ret v)/\∃ u x H',some v=some u/\Inv X pins σ H' s'/\yW x u/\(Itz a b X.K l1 l2).yld i H x H'/\tP a b z TI TO i1 i2 l1 l2 (i+1) s'.heap/\(∃ T:Addr,u=.ref T/\T∉[z,TI,TO,i1,i2])/\∀ c∈[z,TI,TO,i1,i2],H' c=none) (fun _ _=>False) s:=fun T oT e0 eT=>by
  subst e0;refine zid D h1 hz eT hTI hTO s1 s2 sx sy hx hy fun h' a1 a3 a4 a5 a6 a7=>fin h' ⟨_,_,a1,.inr ⟨_,rfl⟩,.inr rfl,a7 TI _ D.TIz D.TIi1 D.TIi2 hTI,⟨_,_,a7 TO _ D.TOz D.TOi1 D.TOi2 hTO⟩,a3,a4⟩ a5 a6 fun c o hc e=>?_;simp only[Zd,ZB,or_false,not_or] at hc;exact a7 c o hc.1 hc.2.2.2.1 hc.2.2.2.2 e
 refine Zb (wpAny_attempt (ZU (name:=Str.ofString "__next__") hT ZaV
  (ZY ZaV hT F.entry_zip_next ?_ (F.args_zip_next_1 _))))
 have all:wpAny (model X.prog X.w) X.A.in1 (Builtin.«zip.__next__» ⟨[.ref z],[]⟩) (fun fin s'=>∃ v,fin=.done (.ret v)/\∃ u x H',some v=some u/\Inv X pins σ H' s'/\yW x u/\(Itz a b X.K l1 l2).yld i H x H'/\tP a b z TI TO i1 i2 l1 l2 (i+1) s'.heap/\(∃ T:Addr,u=.ref T/\T∉[z,TI,TO,i1,i2])/\∀ c∈[z,TI,TO,i1,i2],H' c=none) (fun _ _=>False) s:=by
  rcases h0 with e0|⟨T,e0⟩
  .exact free (.inl e0)
  .cases eT:s.heap.get? T with
   |none=>exact free (.inr ⟨T,e0,eT⟩)
   |some oT=>exact held T oT e0 eT
 refine Zaa all (fun fin' s' ⟨v',e',q⟩=>⟨v',e',?_⟩) (fun _ _ z=>z.elim);exact Zg q
theorem zif {E:Value->Shared->Prop} (hh:X.A.handled=none) (hd:[z,TI,TO,i1,i2].Nodup) (n1:l1∉[z,TI,TO,i1,i2]) (n2:l2∉[z,TI,TO,i1,i2]) {i:Nat} (I:Inv X pins σ H s) (hf:∀ c∈[z,TI,TO,i1,i2],uB X pins H c)
  (st:tP a b z TI TO i1 i2 l1 l2 i s.heap) (stop:(Itz a b X.K l1 l2).stop i H) :
  wpAny (model X.prog X.w) X.A (pyNext (.ref z)) (fun r s1=>r=none/\Inv X pins σ H s1) E s:=by
 obtain ⟨xs,ys,q1,q2,he⟩:=stop;have D:=zcm hd hf I q1 q2 n1 n2;obtain ⟨itx,vx,sx,_⟩:=I.sqB q1;obtain ⟨ity,vy,sy,_⟩:=I.sqB q2
 have hend:itx.toArray[i]?=none\/ity.toArray[i]?=none:=by
  rcases he with e|e
  .left;simpa using vx.none_of e
  .right;simpa using vy.none_of e
 obtain ⟨f0,f1,hz,h0,h1,hTI,⟨u,v,hTO⟩,s1,s2⟩:=id st;have hT:s.TypeIs (.ref z) "zip" := ⟨_,hz,rfl⟩;unfold pyNext
 have fin:∀ (h':Heap) (e:Addr),(∀ c o,c≠z->c≠TO->c≠i1->c≠i2->s.heap.get? c=some o->h'.get? c=some o)->(∃ o,h'.get? e=some o/\o.cls=.type "StopIteration") ->
   wpAny (model X.prog X.w) X.A (do if ← isInstance (.ref e) (.type "StopIteration") then pure none else throw (.ref e)) (fun (r:Option Value) s1=>r=none/\Inv X pins σ H s1) E { s with heap:=h' }:=fun h' e k ⟨o,ho,hc⟩=>by
  refine Zb (wpAny_isInstance (T := "StopIteration") (b:=true) ⟨o,ho,hc⟩ isSubtype_stop ?_);refine Zg ⟨rfl,I.turns (t':=s.toks) hf fun c o hc e=>?_⟩;simp only[Zd,ZB,or_false,not_or] at hc;exact k c o hc.1 hc.2.2.1 hc.2.2.2.1 hc.2.2.2.2 e
 refine Zb (wpAny_attempt (ZU (name:=Str.ofString "__next__") hT ZaV
  (ZY ZaV hT F.entry_zip_next ?_ (F.args_zip_next_1 _))))
 rcases h0 with e0|⟨T,e0⟩
 .exact gX hh D (.inl e0) hz hTI hTO s1 s2 sx sy hend fun h' e k he=>fin h' e k he
 .cases eT:s.heap.get? T with
  |none=>exact gX hh D (.inr ⟨T,e0,eT⟩) hz hTI hTO s1 s2 sx sy hend fun h' e k he=>fin h' e k he
  |some oT =>
   subst e0;exact zbA hh D h1 hz eT hTI hTO s1 s2 sx sy hend fun h' e k he=>fin h' e k he
theorem zdN {P:Program} {w:World} {A:Around} {i:Nat} {s:Shared} {Q:Value->Shared->Prop} {E:Value->Shared->Prop} (st:tP a b z TI TO i1 i2 l1 l2 i s.heap) (h:Q (.ref z) s):wpAny (model P w) A (pyIter (.ref z)) Q E s:=by
 obtain ⟨f0,f1,hz,_⟩:=st;have hT:s.TypeIs (.ref z) "zip" := ⟨_,hz,rfl⟩;refine wpAny_pyIter_slot hT F.slot_zip_iter (ZY F.slot_zip_iter hT F.entry_zip_iter ?_ (F.args_zip_iter_1 _));show wpAny _ _ (ret (.ref z)) _ _ s;exact Zg ⟨_,rfl, "zip", _,hT,ZaV.lookup,h⟩
end
end L2
namespace L3
open PySem PySem.Spec PyProof.Rows L2
structure Pr where
 prog:Program
 w:World
 K:yJ
 mg:Str->Option Value
 base:Heap
abbrev Pr.at (q:Pr) (A:Around):Par:=⟨q.prog,q.w,q.K,q.mg,q.base,A⟩
def tX (K:yJ) (sp:vW):Sp:=fun vs H Q E=>∃ ws G,zB K H ws vs/\xP K H G/\sp ws G (uP K H Q) XN
def yR (N:List Str) (ws:List W):qV:=ws.map some++List.replicate (N.length-ws.length) none
theorem zeb {K:yJ} {H:Hp} {N:List Str} {ws:List W} {vs:List V} (r:zB K H ws vs):yM K H (yR N ws) (L2.start N vs):=by
 have hl:=r.length;refine ⟨by simp[yR,L2.start,hl],fun i w e=>?_⟩;unfold yR at e;unfold L2.start
 by_cases hi:i<ws.length
 .rw[Z6 (by simpa using hi),Zp] at e
  cases q:ws[i]? with
  |none=>rw[q] at e;cases e
  |some w' =>
   rw[q] at e;obtain rfl:w'=w:=ZA (ZA e);obtain ⟨v,ev,rp⟩:=r.get q;refine ⟨v,?_,rp⟩;rw[Z6 (by simp;omega),Zp,ev];rfl
 .rw[ZV (by simp;omega),ZaX] at e
  split at e<;>cases e
structure MOk (Γ:Ctx3) (M:MC) (sc:Scope):Prop where
 sc:M.sc=sc
 own:M.own=fun _=>true
 fns:Γ.fn.map (·.nm)=M.fns
 gls:Γ.gl.map (·.1)=M.gls
 mts:Γ.mt.map (·.nm)=M.mts
 its:Γ.it.map (·.nm)=M.its
 sxs:Γ.sx.map (·.m)=M.sxm
 ixs:Γ.ix.map (·.m)=M.ixm
def FnE (p:Par) (f:Fn3):Prop:=∀ X,Fits p X->Gl X f.nm->∀ (args:List Expr) (t:A3) (q pos:Pos),tW t->args.all xE=true->PA X args (nQ X.K t)->(args=[]->∀ σ G Q,t σ G Q->Q [] G)->(f.nm==("__debug__" : Str))=false->f.nm ≠ "__name__" ->
  PE X (.Call (.Name f.nm q) args [] pos) (xN X.K fun σ G Q=>t σ G fun ws G1=>f.sp ws G1 Q XN)
theorem wS {e:Expr} {es:List Expr} {env:Env} {pos:Pos} (h:(e::es).all xE=true):starEach (e::es) env=(false,eval e env)::starEach es env/\(backTo pos (starEach es env)).any (·.1)=false:=by
 rw[ZaK,Zl] at h;refine ⟨vS h.1,?_⟩;have h2:=h.2
 clear h
 induction es with
 |nil=>rfl
 |cons a r ih =>
  rw[ZaK,Zl] at h2;rw[vS h2.1];show (false || (backTo pos (starEach r env)).any (·.1))=false;rw[ih h2.2];rfl
theorem Fits.eq {p:Par} {X:Cx} (f:Fits p X):p=⟨X.prog,X.w,X.K,X.mg,X.base,X.A⟩:=by
 obtain ⟨e1,e2,e3,e4,e5,e6,_,_⟩:=f;rw[e1,e2,e3,e4,e5,e6]
theorem pa_sp {X:Cx} {args:List Expr} {t:A3} {sp:vW} {dws:List W} {dvs:List V} (m:tW t) (hd:∀ H,zB X.K H dws dvs) (mono:∀ ws G (Q Q':Q3),(∀ w G',Q w G'->Q' w G')->sp ws G Q XN->sp ws G Q' XN) {τ:L2.St} {H:Hp} {Q:VK} {E:XK}
  (h:xN X.K (fun σ G Q=>t σ G fun ws G1=>sp (ws++dws) G1 Q XN) τ H Q):zio (tX X.K sp) dvs E (nQ X.K t) τ H Q:=by
 obtain ⟨σ,G,hs,ab,h⟩:=h;refine gC m hs ab h fun ws G1 vs H1 g1 hs1 rs a1 h=>?_;exact ⟨ws++dws,G1,rs.append (hd H1),a1,mono _ _ _ _ (fun w G' z v' H' g'=>z v' H' (g1.trans g')) h⟩
theorem zl5 {q:Pr} {k:Nat} {nm:Str} {f:Addr} {fd:FuncData} {ps:List Str} {ds:List Value} {dvs:List V} {dws:List W} {sp:vW} (FO:FnOk q.prog q.w q.K q.mg q.base CX0 k f fd ps (tX q.K sp)) (hm:q.mg nm=some (.ref f)) (hk:PySem.W.keepIn q.K (.ref f)=true)
  (hb:rM q.K fd ps ds) (hd:∀ H,zB q.K H dws dvs) (hv:yZ dvs ds) (mono:∀ ws G (Q Q':Q3),(∀ w G',Q w G'->Q' w G')->sp ws G Q XN->sp ws G Q' XN) {A:Around} (hr:Room k A):FnE (q.at A) ⟨nm,fun ws G Q _=>sp (ws++dws) G Q XN⟩:=by
 intro X fits gl args t qp pos mt hn pa hnil hdb hnm;have e:=fits.eq
 injection e with e1 e2 e3 e4 e5 e6
 subst e6;rw[e1,e2,e3,e4,e5] at FO;rw[e4] at hm;rw[e3] at hk hb hd
 cases args with
 |nil =>
  refine (zgA (p:=qp) (pos:=pos) FO hr gl hm hk hb hv ziY hdb).imp fun τ H Q h=>?_;obtain ⟨σ,G,hs,ab,h⟩:=h;have h:=hnil rfl _ _ _ h;exact ⟨dws,G,hd H,ab,h⟩
 |cons a r =>
  obtain ⟨s1,s2⟩:=wS (env:=X.env) (pos:=pos) hn;exact (ziW (p:=qp) (pos:=pos) FO hr gl hm hk hb hv ziY pa hdb s1 s2).imp fun τ H Q h=>pa_sp (args:=a::r) mt hd mono h
end L3
namespace L3
open PySem PySem.Spec PyProof.Rows L2 PySem.SeqAt
abbrev RS:=List W->Hw->Q3->Prop
def qX (sp:RS):Prop:=∀ ws G (Q Q':Q3),(∀ w G',Q w G'->Q' w G')->sp ws G Q->sp ws G Q'
def bL (K:yJ) (sp:RS):List V->Hp->VK->Prop:=fun vs H Q=>∃ ws G,zB K H ws vs/\xP K H G/\sp ws G (uP K H Q)
theorem zbX {X:Cx} {t:A3} {sp:RS} (mt:tW t) (mono:qX sp) {τ:L2.St} {H:Hp} {Q:VK} (h:xN X.K (fun σ G Q=>t σ G fun ws G1=>sp ws G1 Q) τ H Q):tCB (bL X.K sp) (nQ X.K t) τ H Q:=by
 obtain ⟨σ,G,hs,ab,h⟩:=h;exact gC mt hs ab h fun ws G1 vs H1 g1 hs1 rs a1 h=>⟨ws,G1,rs,a1,mono _ _ _ _ (fun w G' z v' H' g'=>z v' H' (g1.trans g')) h⟩
theorem zbj {q:Pr} {A:Around} {nm:Str} {id:String} {sp:RS} (hm:q.mg nm=none) (hv:bootBuiltins nm=some (.builtin id)) (hc:∀ X,Fits (q.at A) X->vV X (.builtin id) (bL X.K sp)) (mono:qX sp) (h0:∀ G Q,¬ sp [] G Q):FnE (q.at A) ⟨nm,fun ws G Q _=>sp ws G Q⟩:=by
 intro X fits gl args t qp pos mt hn pa hnil hdb hnm;have hm':X.mg nm=none:=by rw[fits.mg];exact hm
 cases args with
 |nil=>exact fun pins s σ H Q I h=>absurd (hnil rfl _ _ _ h.choose_spec.choose_spec.2.2) (h0 _ _)
 |cons a r =>
  obtain ⟨s1,s2⟩:=wS (env:=X.env) (pos:=pos) hn;exact (zgz (p:=qp) (pos:=pos) (hc X fits) gl hm' hv pa hnm hdb s1 s2).imp fun τ H Q h=>zbX mt mono h
theorem fn_ty {q:Pr} {A:Around} {nm:Str} {T:String} {sp:RS} (hm:q.mg nm=none) (hv:bootBuiltins nm=some (.type T)) (hc:∀ X,Fits (q.at A) X->vV X (.type T) (bL X.K sp)) (mono:qX sp) (h0:∀ G Q,¬ sp [] G Q):FnE (q.at A) ⟨nm,fun ws G Q _=>sp ws G Q⟩:=by
 intro X fits gl args t qp pos mt hn pa hnil hdb hnm;have hm':X.mg nm=none:=by rw[fits.mg];exact hm
 cases args with
 |nil=>exact fun pins s σ H Q I h=>absurd (hnil rfl _ _ _ h.choose_spec.choose_spec.2.2) (h0 _ _)
 |cons a r =>
  obtain ⟨s1,s2⟩:=wS (env:=X.env) (pos:=pos) hn;exact (zey (p:=qp) (pos:=pos) (hc X fits) gl hm' hv pa hnm hdb s1 s2).imp fun τ H Q h=>zbX mt mono h
abbrev MS:=W->List W->Hw->Q3->Prop
def MtE (p:Par) (m:Mt3):Prop:=∀ X,Fits p X->∀ (o:Expr) (args:List Expr) (to:E3) (t:A3) (apos cpos:Pos),jQ to->tW t->zcj o=true->(apos.endLine==cpos.line)=true->args.length<25->args.all xE=true ->
  PE X o (xN X.K to)->PA X args (nQ X.K t)->(args=[]->∀ σ G Q,t σ G Q->Q [] G)->PE X (.Call (.Attribute o m.nm apos) args [] cpos) (xN X.K fun σ G Q=>to σ G fun x G1=>tyW G1 x m.T/\t σ G1 fun ws G2=>m.sp x ws G2 Q)
def lowM (K:yJ) (sp:MS):V->List V->Hp->VK->Prop:=fun x vs H Q=>∃ w ws G,xT K H w x/\zB K H ws vs/\xP K H G/\sp w ws G (uP K H Q)
theorem zaz {args:List Expr} {env:Env} {pos:Pos} (h:args.all xE=true):(backTo pos (starEach args env)).all (fun x=>!x.1)=true:=by
 induction args with
 |nil=>rfl
 |cons a r ih =>
  rw[ZaK,Zl] at h;rw[vS h.1];show (true&&(backTo pos (starEach r env)).all (fun x=>!x.1))=true;rw[ih h.2];rfl
theorem mH {p:Par} {nm:Str} {T id:String} {sp:MS} (pa:PlainAttrs T) (slot:Slot T nm id) (hty:typeOf (.builtin id)=pure (.type "method_descriptor")) (hm:∀ X,Fits p X->MtR X id (lowM X.K sp))
  (mono:∀ x ws G (Q Q':Q3),(∀ w G',Q w G'->Q' w G')->sp x ws G Q->sp x ws G Q'):MtE p ⟨nm,T,sp⟩:=by
 intro X fits o args to t apos cpos mo mt ho hline hlen hn po pa' hnil
 cases args with
 |nil =>
  refine (zk8 pa slot hty (hm X fits) po (uD ho) hline).imp fun τ H Q h=>?_;obtain ⟨σ,G,hs,ab,h⟩:=h;refine xJ mo hs ab h fun w G1 v H1 g1 hs1 rw1 a1 h=>⟨zhn rw1 a1 h.1,w,[],G1,rw1,rfl,a1,mono _ _ _ _ _ (fun w' G' z v' H' g'=>z v' H' (g1.trans g')) (hnil rfl _ _ _ h.2)⟩
 |cons a r =>
  obtain ⟨s1,s2⟩:=wS (env:=X.env) (pos:=cpos) hn;refine (pe_bm pa slot hty (hm X fits) po pa' (uD ho) ?_ hline s1 s2).imp fun τ H Q h=>?_
  .rw[zaz hn]
   have:(a::r).length+([]:List Keyword).length+(if ([]:List Keyword).isEmpty then 0 else 1)<30:=by
    show (a::r).length+0+0<30;omega
   rw[decide_eq_true this];rfl
  .obtain ⟨σ,G,hs,ab,h⟩:=h;refine xJ mo hs ab h fun w G1 v H1 g1 hs1 rw1 a1 h=>⟨zhn rw1 a1 h.1,?_⟩;exact gC mt hs1 a1 h.2 fun ws G2 vs H2 g2 hs2 rs a2 h=>⟨w,ws,G2,rw1.mono g2,rs,a2,mono _ _ _ _ _ (fun w' G' z v' H' g'=>z v' H' (g1.trans (g2.trans g'))) h⟩
def maxS:RS:=fun ws G Q=>match ws with
 | [.int i,.int j]=>Q (.int (if j > i then j else i)) G
 |_=>False
theorem za8:qX maxS:=by
 intro ws G Q Q' k h;unfold maxS at h ⊢
 split at h
 .exact k _ _ h
 .exact h.elim
theorem zet {K:yJ} {H:Hp} {a b:W} {vs:List V} (r:zB K H [a,b] vs):∃ x y,vs=[x,y]/\xT K H a x/\xT K H b y:=by
 obtain ⟨x,t,rfl,rx,y,t',rfl,ry,rt⟩:=r;cases (show t'=[] from rt);exact ⟨x,y,rfl,rx,ry⟩
theorem vE {K:yJ} {H:Hp} {a:W} {vs:List V} (r:zB K H [a] vs):∃ x,vs=[x]/\xT K H a x:=by
 obtain ⟨x,t,rfl,rx,rt⟩:=r;cases (show t=[] from rt);exact ⟨x,rfl,rx⟩
theorem zln {X:Cx} (hc:X.calm=true):vV X (.builtin "max") (bL X.K maxS):=by
 intro pins s σ H xs us Q I r h;obtain ⟨ws,G,rs,ab,h⟩:=h;unfold maxS at h
 split at h
 .rename_i i j;obtain ⟨x,y,rfl,rx,ry⟩:=zet rs;cases (show x=.int i from rx);cases (show y=.int j from ry);exact zfD hc pins s σ H _ us Q I r ⟨i,j,rfl,h _ H .refl rfl ab⟩
 .exact h.elim
def kZ (G:Hw):W->Option Nat
 | .str x=>if x.length<=sizeLine then some x.length else none
 | .tup ws=>some ws.length
 | .ref p=>match G p with
  |some (.lst ws)=>some ws.length
  |some (.fix ws)=>some ws.length
  |some (.dic kvs)=>some kvs.length
  |_=>none
 |_=>none
def qF:RS:=fun ws G Q=>match ws with
 | [x]=>(match kZ G x with|some n=>Q (.int n) G|none=>False)
 |_=>False
theorem zbb:qX qF:=by
 intro ws G Q Q' k h;unfold qF at h ⊢
 split at h
 .split at h
  .exact k _ _ h
  .exact h.elim
 .exact h.elim
theorem zjd {X:Cx}:vV X (.builtin "len") (fun xs H Q=>∃ a kvs,xs=[V.ref a]/\H a=some (.dK kvs)/\Q (.int kvs.length) H):=by
 intro pins s σ H xs us Q I r h;obtain ⟨a,kvs,rfl,ha,q⟩:=h;obtain ⟨u,rfl,ru⟩:=vH r;cases ru;exact d_len I (.inl ha) fun t s' I'=>⟨.int kvs.length,H,I',⟨t,rfl⟩,q⟩
theorem zlt {X:Cx}:vV X (.builtin "len") (bL X.K qF):=by
 intro pins s σ H xs us Q I r h;obtain ⟨ws,G,rs,ab,h⟩:=h;unfold qF at h
 split at h
 .rename_i w;obtain ⟨v,rfl,rv⟩:=vE rs
  split at h
  .rename_i n hn;have q:Q (.int n) H:=h (.int n) H .refl rfl ab
   cases w with
   |str x =>
    cases (show v=.str x from rv);simp only[kZ] at hn
    split at hn
    .rename_i hl;cases hn;exact zbr pins s σ H _ us Q I r ⟨x,rfl,hl,q⟩
    .cases hn
   |tup ws' =>
    obtain ⟨a,vs,rfl,sq,rr⟩:=rv;simp only[kZ] at hn;cases hn;exact uK pins s σ H _ us Q I r ⟨a,vs,rfl,.inr sq,by rw[rr.length];exact q⟩
   |ref p =>
    cases (show v=.ref p from rv);simp only[kZ] at hn
    split at hn
    .rename_i ws' e;cases hn;obtain ⟨vs,sq,rr⟩:=ab.seq (show yP G p=some ws' by unfold yP;rw[e]);exact uK pins s σ H _ us Q I r ⟨p,vs,rfl,.inl sq,by rw[rr.length];exact q⟩
    .rename_i ws' e;cases hn;obtain ⟨vs,sq,rr⟩:=ab.seq (show yP G p=some ws' by unfold yP;rw[e]);exact uK pins s σ H _ us Q I r ⟨p,vs,rfl,.inl sq,by rw[rr.length];exact q⟩
    .rename_i kvs e;cases hn;obtain ⟨l,e',rl⟩:=ab.dic e;exact zjd pins s σ H _ us Q I r ⟨p,l,rfl,e',by rw[rl.length];exact q⟩
    .cases hn
   |_=>simp[kZ] at hn
  .exact h.elim
 .exact h.elim
def qH (G:Hw):W->Option (List W)
 | .tup ws=>some ws
 | .ref p=>yP G p
 |_=>none
def lstS:RS:=fun ws G Q=>match ws with
 | [x]=>(match qH G x with|some xs=>∀ p,G p=none->Q (.ref p) (put G p (.lst xs))|none=>False)
 |_=>False
theorem za9:qX lstS:=by
 intro ws G Q Q' k h;unfold lstS at h ⊢
 split at h
 .split at h
  .exact fun p hp=>k _ _ (h p hp)
  .exact h.elim
 .exact h.elim
theorem ziu {K:yJ} {H:Hp} {G:Hw} {w:W} {v:V} {xs:List W} (ab:xP K H G) (r:xT K H w v) (e:qH G w=some xs):∃ a vs b,v=.ref a/\SqB b K H a vs/\zB K H xs vs:=by
 cases w with
 |tup ws =>
  obtain ⟨a,vs,rfl,sq,rr⟩:=r;cases e;exact ⟨a,vs,true,rfl,sq,rr⟩
 |ref p =>
  cases (show v=.ref p from r);obtain ⟨vs,sq,rr⟩:=ab.seq e;exact ⟨p,vs,false,rfl,sq,rr⟩
 |_=>cases e
theorem zlq {X:Cx}:vV X (.type "list") (bL X.K lstS):=by
 intro pins s σ H xs us Q I r h;obtain ⟨ws,G,rs,ab,h⟩:=h;unfold lstS at h
 split at h
 .rename_i w;obtain ⟨v,rfl,rv⟩:=vE rs
  split at h
  .rename_i ys hy;obtain ⟨a,vs,b,rfl,sq,rr⟩:=ziu ab rv hy;refine zbq pins s σ H _ us Q I r ⟨a,vs,rfl,?_,qM ab rr h⟩;cases b
   .exact .inl sq
   .exact .inr sq
  .exact h.elim
 .exact h.elim
def allS (f:List Bool->Bool):RS:=fun ws G Q=>match ws with
 | [.ref p]=>∃ bs:List Bool,yP G p=some (bs.map .bl)/\Q (.bl (f bs)) G
 |_=>False
theorem zby (f:List Bool->Bool):qX (allS f):=by
 intro ws G Q Q' k h;unfold allS at h ⊢
 split at h
 .obtain ⟨bs,e,h⟩:=h;exact ⟨bs,e,k _ _ h⟩
 .exact h.elim
theorem zah {K:yJ} {H:Hp}:∀ {bs:List Bool} {vs:List V} {us:List Value},zB K H (bs.map .bl) vs->yZ vs us->us=bs.map .bool
 | [],vs,us,r,v=>by cases (show vs=[] from r);cases v;rfl
 |b::bs,vs,us,r,v=>by
  obtain ⟨x,t,rfl,rx,rt⟩:=r;cases (show x=.bl b from rx)
  cases v with
  |cons a c =>
   cases (show _=Value.bool b from a);rw[zah rt c];rfl
theorem zfP (bs:List Bool):(List.range bs.length).all (fun i=>(bs[i]?).getD false)=bs.all id:=by
 rw[Bool.eq_iff_iff,ZL,ZL]
 constructor
 .intro h b hb;obtain ⟨i,hi,rfl⟩:=List.mem_iff_getElem.mp hb;have:=h i (ZaO.mpr hi)
  rwa[Zj hi] at this
 .intro h i hi;have hi:=ZaO.mp hi;rw[Zj hi];exact h _ (Zak hi)
theorem zhk {X:Cx} (hc:X.calm=true) {pins:List (Addr×Obj)} {s:Shared} {σ:L2.St} {H:Hp} {G:Hw} {p:Addr} {bs:List Bool} (I:Inv X pins σ H s) (ab:xP X.K H G) (e:yP G p=some (bs.map .bl)) {A:Around} (hh:A.handled=none) {E:Value->Shared->Prop}
  {R:Value->Shared->Prop} (h:∀ (I':Addr) (s₂:Shared),Walks X.prog X.w A I' [I',p] [I'] bs.length (fun i v=>(bs.map Value.bool).toArray[i]?=some v) (fun i h=>h.IsListIter I' p i/\h.IsList p (bs.map Value.bool).toArray)->(s₂.heap.IsListIter I' p 0/\s₂.heap.IsList p (bs.map Value.bool).toArray) ->
   (∀ h' tk,(∀ b o,b∉[I']->s₂.heap.get? b=some o->h'.get? b=some o)->0<tk->Inv X pins σ H { s₂ with heap:=h',toks:=tk })->R (.ref I') s₂):wpAny (model X.prog X.w) A (pyIter (.ref p)) R E s:=by
 obtain ⟨vs,sq,rr⟩:=ab.seq e;obtain ⟨its,rv,pl,hz⟩:=I.list sq;have eits:=zah rr rv;subst eits;have hl:=pl.isList;refine Za8 hl ?_
 have hne:p≠s.heap.objs.size:=by
  obtain ⟨o,ho,_⟩:=hl;exact Zr (Zi ho)
 have W:=Walks.list (prog:=X.prog) (w:=X.w) hh s.heap.objs.size p hne (bs.map Value.bool).toArray;have hn:(bs.map Value.bool).toArray.size=bs.length:=by simp
 rw[hn] at W;refine h _ _ W ⟨⟨_,Zk _ rfl,rfl,rfl⟩,hl.push _⟩ fun h' tk k h0=>I.kept (fun b o e=>k b o (fun hm=>?_) (Za _ e)) h0;rw[Z1] at hm;exact Zr (Zi e) hm
theorem zfW {P:Program} {w:World} {A:Around} {bs:List Bool}:TruthOf P w A (fun i v=>(bs.map Value.bool).toArray[i]?=some v) (fun i=>(bs[i]?).getD false):=by
 intro i v s Q E h q;have h':(bs[i]?).map Value.bool=some v:=by simpa using h
 cases e:bs[i]? with
 |none=>rw[e] at h';cases h'
 |some b =>
  rw[e] at h';cases h';have q':Q ((bs[i]?).getD false) s:=q;rw[e] at q';exact ZP q'
theorem zmm {X:Cx} (hc:X.calm=true):vV X (.builtin "all") (bL X.K (allS (·.all id))):=by
 intro pins s σ H xs us Q I r h;obtain ⟨ws,G,rs,ab,h⟩:=h;unfold allS at h
 split at h
 .rename_i p;obtain ⟨v,rfl,rv⟩:=vE rs;cases (show v=.ref p from rv);obtain ⟨bs,e,h⟩:=h;obtain ⟨u,rfl,ru⟩:=vH r;cases ru;refine qI I.tk (call_all_walk (zhk hc I ab e (A:=X.A.in1) (I.ok.hd hc) fun I' s₂ W st k=>⟨I',_,_,_,_,_,_,rfl,W,st,zfW,fun h' tk hk h0=>?_⟩));rw[zfP];exact ⟨.bl (bs.all id),H,k h' tk hk h0,rfl,h _ H .refl rfl ab⟩
 .exact h.elim
def tyO (G:Hw):W->Option String
 | .non=>some "NoneType"
 | .bl _=>some "bool"
 | .int _=>some "int"
 | .str _=>some "str"
 | .tup _=>some "tuple"
 | .ref p=>match G p with
  |some (.lst _)=>some "list"
  |some (.fix _)=>some "list"
  |some (.dic _)=>some "dict"
  |_=>none
 |_=>none
def cQ:MS:=fun x ws G Q=>match x,ws with
 | .ref p,[]=>(match G p with
  |some (.lst xs)=>(match xs[xs.length-1]? with|some y=>Q y (put G p (.lst xs.dropLast))|none=>False)
  |_=>False)
 |_,_=>False
theorem za1:∀ x ws G (Q Q':Q3),(∀ w G',Q w G'->Q' w G')->cQ x ws G Q->cQ x ws G Q':=by
 intro x ws G Q Q' k h;unfold cQ at h ⊢
 split at h
 .split at h
  .split at h
   .exact k _ _ h
   .exact h.elim
  .exact h.elim
 .exact h.elim
theorem zkX {X:Cx}:MtR X "list.pop" (lowM X.K cQ):=by
 intro pins s σ H x xs v us Q I rx rxs h;obtain ⟨w,ws,G,rw1,rs,ab,h⟩:=h;unfold cQ at h
 split at h
 .rename_i p;cases (show x=.ref p from rw1);cases (show xs=[] from rs)
  split at h
  .rename_i ys e
   split at h
   .rename_i y ey;obtain ⟨vs,ev,rr⟩:=ab.lst e;obtain ⟨vy,evy,ry⟩:=rr.get ey;have gr:yK X.K H (xC H p (.lst vs.dropLast)):=ab.grow e;exact zlk pins s σ H _ _ v us Q I rx rxs ⟨p,vs,vy,rfl,rfl,ev,by rw[rr.length];exact evy,h vy _ gr (ry.mono gr) (ab.chg e ⟨_,rfl,rr.dropLast.mono gr⟩)⟩
   .exact h.elim
  .exact h.elim
 .exact h.elim
def fO:MS:=fun x ws G Q=>match x,ws with
 | .ref p,[y]=>(match G p with
  |some (.lst xs)=>xs.length<sizeLine/\Q .non (put G p (.lst (xs++[y])))
  |_=>False)
 |_,_=>False
theorem zbx:∀ x ws G (Q Q':Q3),(∀ w G',Q w G'->Q' w G')->fO x ws G Q->fO x ws G Q':=by
 intro x ws G Q Q' k h;unfold fO at h ⊢
 split at h
 .split at h
  .exact ⟨h.1,k _ _ h.2⟩
  .exact h.elim
 .exact h.elim
theorem zmk {X:Cx}:MtR X "list.append" (lowM X.K fO):=by
 intro pins s σ H x xs v us Q I rx rxs h;obtain ⟨w,ws,G,rw1,rs,ab,h⟩:=h;unfold fO at h
 split at h
 .rename_i p y;cases (show x=.ref p from rw1);obtain ⟨vy,rfl,ry⟩:=vE rs
  split at h
  .rename_i ys e;obtain ⟨vs,ev,rr⟩:=ab.lst e;have gr:yK X.K H (xC H p (.lst (vs++[vy]))):=ab.grow e;exact zeL pins s σ H _ _ v us Q I rx rxs ⟨p,vs,vy,rfl,rfl,ev,by rw[rr.length];exact h.1,h.2 .non _ gr (show xT X.K _ .non .non from rfl) (ab.chg e ⟨_,rfl,(rr.append (show zB X.K H [y] [vy] from ⟨vy,[],rfl,ry,rfl⟩)).mono gr⟩)⟩
  .exact h.elim
 .exact h.elim
def rngI (ws:List W) (G:Hw) (R:List W->(Hw->Prop)->Hw->Prop):Prop:=match ws with
 | [.int j]=>(-(2 ^ 62)<=j/\j<2 ^ 62)/\R ((List.range j.toNat).map fun i=>.int (i:Nat)) (fun _=>True) G
 |_=>False
theorem zlO {K:yJ} {H1:Hp} {n:Nat}:ItIs K (Itr 0 n) H1 ((List.range n).map fun i=>W.int (i:Nat)) (fun _=>True) where
 go:=fun i H G _ ab st hi=>by show i<n;simpa using hi
 yld:=fun i H G x H' _ ab st hi y=>by
  obtain ⟨rfl,rfl⟩:=y;have hi':i<n:=by simpa using hi
  refine ⟨.int (i:Nat),by simp[hi'],.refl,?_,ab⟩;show V.int (0+(i:Int))=V.int (i:Int);rw[Int.zero_add]
 stop:=fun i H G _ ab st hi=>by show n<=i;simpa using hi
def ItE (p:Par) (i:It3):Prop:=∀ X,Fits p X->Gl X i.nm->∀ (tg:Expr) (args:List Expr) (t:A3) (q pos:Pos),tW t->args.all xE=true->PA X args (nQ X.K t)->(args=[]->∀ σ G Q,t σ G Q->Q [] G)->(i.nm==("__debug__" : Str))=false->i.nm ≠ "__name__" ->
  PI X tg (.Call (.Name i.nm q) args [] pos) (lowI X.K fun σ G R=>t σ G fun ws G1=>i.sp ws G1 R)
theorem zlS {q:Pr} {A:Around} (hm:q.mg "range" = none):ItE (q.at A) ⟨"range", rngI⟩:=by
 intro X fits gl tg args t qp pos mt hn pa hnil hdb hnm;have hm':X.mg "range" = none:=by rw[fits.mg];exact hm
 intro pins s σ H R I h
 cases args with
 |nil =>
  obtain ⟨σ3,G,hs,ab,h⟩:=h;exact (hnil rfl _ _ _ h).elim
 |cons a r =>
  obtain ⟨s1,s2⟩:=wS (env:=X.env) (pos:=pos) hn;obtain ⟨σ3,G,hs,ab,h⟩:=h
  have h':=gC (S:=fun vs H1=>∃ j:Int,vs=[.int j]/\-(2 ^ 62)<=j/\j<2 ^ 62/\R (Itr 0 j.toNat) H1) mt hs ab h fun ws G1 vs H1 g1 hs1 rs a1 h=>by
   dsimp only at h;unfold rngI at h
   split at h
   .rename_i j;obtain ⟨v,rfl,rv⟩:=vE rs;cases (show v=.int j from rv);exact ⟨j,rfl,h.1.1,h.1.2,h.2 _ H1 g1 a1 zlO⟩
   .exact h.elim
  refine Call_ (pW I gl hm' boot_range (Z2 (xY (pa pos pins s σ H _ I h') fun us s1 ⟨vs,H1,I1,r1,q1⟩=>?_) s1 s2));obtain ⟨j,e,q1,q2,q⟩:=q1;subst e;obtain ⟨u,rfl,t,rfl⟩:=vH r1;exact call_range_1 (zgj I1 (ZR _) (by omega) (by omega) q1 q2 (by simpa using q))
def lofM (nm:Str):Scope->Expr->Option (List Expr):=fun sc e=>match e with
 | .Call (.Name o _) [.Call (.Name x _) xs [] _] [] _=>if o==("list" : Str)&&x==nm&&pU sc o&&pU sc x&&!xs.isEmpty then some xs else none
 |_=>none
theorem zgI {nm:Str} {sc:Scope} {e:Expr} {xs:List Expr} (h:lofM nm sc e=some xs):∃ qo q pos pos' a r,xs=a::r/\e=.Call (.Name "list" qo) [.Call (.Name nm q) (a::r) [] pos] [] pos'/\pU sc "list" = true/\pU sc nm=true:=by
 have no:¬ ((none:Option (List Expr))=some xs):=fun e=>nomatch e
 cases e with
 |Call f args kws pos' =>
  cases f with
  |Name o qo =>
   cases args with
   |nil=>exact absurd h no
   |cons c rest =>
    cases c with
    |Call g ys kw2 pos =>
     cases g with
     |Name x q =>
      cases kw2 with
      |nil =>
       cases rest with
       |nil =>
        cases kws with
        |nil =>
         replace h:(if (o==("list" : Str)&&x==nm&&pU sc o&&pU sc x&&!ys.isEmpty)=true then some ys else none)=some xs:=h
         by_cases hb:(o==("list" : Str)&&x==nm&&pU sc o&&pU sc x&&!ys.isEmpty)=true
         .rw[if_pos hb] at h;cases h;simp only[Zl,beq_iff_eq,Z5,List.isEmpty_eq_false_iff] at hb;obtain ⟨⟨⟨⟨rfl,rfl⟩,h1⟩,h2⟩,h3⟩:=hb
          cases xs with
          |nil=>exact absurd rfl h3
          |cons a r=>exact ⟨qo,q,pos,pos',a,r,rfl,rfl,h1,h2⟩
         .rw[if_neg hb] at h;exact absurd h no
        |cons _ _=>exact absurd h no
       |cons _ _=>exact absurd h no
      |cons _ _=>exact absurd h no
     |_=>exact absurd h no
    |_=>exact absurd h no
  |_=>exact absurd h no
 |_=>exact absurd h no
def SxE (p:Par) (k:Sx3):Prop:=∀ X,Fits p X->∀ (e:Expr) (xs:List Expr) (es:List E3),k.m X.env.scope e=some xs->gA X xs es->xs.all xE=true->PA X xs (nQ X.K (rJ es)) ->
  PE X e (xN X.K fun σ G Q=>rJ es σ G fun ws G1=>k.sp ws G1 Q)/\(∀ whole,isTrue e X.env whole=(do let v ← whole;standAt e.pos;holding [v] (truthy v)))/\∀ op vs pos,e≠.BoolOp op vs pos
theorem jY {X:Cx}:∀ {xs:List Expr} {es:List E3},gA X xs es->tW (rJ es)
 | [],[],_=>fun σ G Q Q' k h=>k _ _ h
 |_::_,_::_,⟨m,_,r⟩=>fun σ G Q Q' k h=>m σ G _ _ (fun x G1 h=>jY r σ G1 _ _ (fun xs G2 h=>k _ _ h) h) h
theorem zkr {q:Pr} {A:Around} {nm:Str} {T:String} {sp:RS} (hl:q.mg "list" = none) (hm:q.mg nm=none) (hv:bootBuiltins nm=some (.type T)) (mono:qX sp)
  (hc:∀ X,Fits (q.at A) X->∀ (pins:List (Addr×Obj)) (s:Shared) (σ:L2.St) (H:Hp) (vs:List V) (us:List Value) (Q:VK),Inv X pins σ H s->yZ vs us->bL X.K sp vs H Q ->
   wpAny (model X.prog X.w) X.A (call (.type T) us) (fun v s1=>wpAny (model X.prog X.w) X.A (call (.type "list") [v]) (EP X pins σ Q) X.xe s1) X.xe s):SxE (q.at A) ⟨lofM nm,sp⟩:=by
 intro X fits e xs es he each hn pa;obtain ⟨qo,qq,pos,pos',a,r,rfl,rfl,g1,g2⟩:=zgI he;obtain ⟨gl1,d1,n1⟩:=zdx rfl g1;obtain ⟨gl2,d2,n2⟩:=zdx rfl g2;have hl':X.mg "list" = none:=by rw[fits.mg];exact hl
 have hm':X.mg nm=none:=by rw[fits.mg];exact hm
 refine ⟨fun pins s σ H Q I h=>?_,fun _=>rfl,fun _ _ _ z=>nomatch z⟩;obtain ⟨s1,s2⟩:=wS (env:=X.env) (pos:=pos) hn;have h':=zbX (jY each) mono h;refine Z9 (pW I gl1 hl' boot_list ?_ n1 d1);refine Z2 (e:=.Call (.Name nm qq) (a::r) [] pos) (rest:=[]) ?_ rfl rfl;show wpAny _ _ (spliced ((false,eval (.Call (.Name nm qq) (a::r) [] pos) X.env)::backTo pos' (starEach [] X.env))) _ _ s;refine ZaU (Z9 (pW I gl2 hm' hv (Z2 (xY (pa pos pins s σ H _ I h') fun us s1 ⟨vs,H1,I1,r1,q1⟩=>?_) s1 s2) n2 d2));exact xY (hc X fits pins s1 σ H1 vs us Q I1 r1 q1) fun v s2 z=>ZbG z
theorem zdy (n:Nat):[n+4,n+2,n+3,n,n+1].Nodup:=by
 simp
theorem zcY (n a:Nat) (h:a<n):a∉[n+4,n+2,n+3,n,n+1]:=by
 simp only[Zd,ZB,or_false,not_or];omega
theorem zfi (n b:Nat) (h:b∈[n+4,n+2,n+3,n,n+1]):n<=b:=by
 simp only[Zd,ZB,or_false] at h;omega
def Itv (K:yJ) (a:Addr) (n:Nat):It where
 go:=fun i H=>∃ xs,mY K H a xs/\xs.length=n/\i<n
 yld:=fun i H v H'=>H'=H/\∀ xs,mY K H a xs->xs.length=n->xs[n-1-i]?=some v
 stop:=fun i H=>i=n
theorem zdr:typeLookup (.type "list_reverseiterator") "__len__" = pure none:=by rw[typeLookup_type,builtinLookup_eq_fast];kernel_rfl
theorem zgH:typeLookup (.type "list_reverseiterator") "__length_hint__" = pure (some (.builtin "list_reverseiterator.__length_hint__")):=by rw[typeLookup_type,builtinLookup_eq_fast];kernel_rfl
theorem ziw {P:Program} {w:World} {A:Around} {it a:Addr} {i:Int} {s:Shared} {Q:Bool->Shared->Prop} {E:Value->Shared->Prop} (st:s.heap.IsRevIter it a i) (h:∀ b,Q b s):wpAny (model P w) A (Builtin.List.listLengthHint (.ref it)) Q E s:=by
 have hT:=st.typeIs;unfold Builtin.List.listLengthHint;refine Zb (Zbz hT zdr ?_);show wpAny _ _ (specialOf (Value.ref it) (Str.ofString "__length_hint__") >>= _) _ _ _;refine Zb (Zbz hT zgH ?_)
 (generalize hid:("list_reverseiterator.__length_hint__" : String)=id0;(fail_if_success (clear hid id0));wp_delta;rw[show splitId id0=some ("list_reverseiterator", "__length_hint__") from by subst hid;decide +kernel];subst hid)
 refine Zb (wpAny_isInstance (b:=true) hT (by rw[isSubtype_type];kernel_rfl) ?_);exact Zg (h _)
theorem zge (P:Program) (w:World) (K:yJ) {it a:Addr} {n:Nat} (hne:a≠it):TurnL P w K "list_reverseiterator" (Itv K a n) [it] it (fun i h=>i<=n/\h.IsRevIter it a ((n:Int)-1-i)) where
 mem:=by simp
 ty:=fun i h ⟨_,o,ho,hc,_⟩=>⟨o,ho,hc⟩
 obj:=fun i h ⟨_,o,ho,hc,hd⟩ b hb=>by
  rw[Z1] at hb;subst hb;exact ⟨o,ho,fun v z=>by rw[hd] at z;cases z⟩
 keep:=fun i h h' ⟨hi,x⟩ k=>⟨hi,x.at fun o e=>k it (by simp) o e⟩
 item:=by
  intro X e1 e2 e3 hc i pins s σ H E I hf st go;subst e1;subst e2;subst e3;obtain ⟨hi,st⟩:=st;obtain ⟨xs,sq,ln,hlt⟩:=go;obtain ⟨its,rv,pl,hz⟩:=I.list sq;have hlx:n-1-i<xs.length:=by omega
  obtain ⟨u,eu,ru⟩:=rv.get (Zj hlx);have e:(n:Int)-1-(i:Int)=((n-1-i:Nat):Int):=by omega
  rw[e] at st;refine wpAny_pyNext_rev_item st pl.isList (x:=u) (by simpa using eu) fun h' st' sb=>?_;have e':((n-1-i:Nat):Int)-1=(n:Int)-1-((i+1:Nat):Int):=by omega
  rw[e'] at st';obtain ⟨f1,f2,f3,f4,f5,f6⟩:=hf it (by simp);refine ⟨u,xs[n-1-i],H,rfl,I.turned (t':=s.toks) (fun b o hb e=>sb.extBut b o hb e) f1 f2 f4 f5 f6,ru,⟨rfl,fun ys sq' _=>by rw[I.list_inj sq' sq];exact Zj hlx⟩,⟨hlt,st'⟩,fun b hb=>(hf b hb).1⟩
 done:=by
  intro X e1 e2 e3 hc i pins s σ H E I hf st stop;subst e1;subst e2;subst e3;obtain ⟨hi,st⟩:=st;have hin:i=n:=stop;subst hin;have e:(i:Int)-1-(i:Int)=-1:=by omega
  rw[e] at st;obtain ⟨f1,f2,f3,f4,f5,f6⟩:=hf it (by simp);exact wpAny_pyNext_rev_end (I.ok.hd hc) st fun h' k=>⟨rfl,I.turned (t':=s.toks) (fun b o hb e=>k b o hb e) f1 f2 f4 f5 f6⟩
 self:=fun A i s Q E st h=>wpAny_pyIter_revIter st.2 h
 hint:=fun A i s Q E st h=>ziw st.2 h
def revS:RS:=fun ws G Q=>match ws with
 | [.ref p]=>∃ xs,yP G p=some xs/\∀ r,G r=none->Q (.ref r) (put G r (.lst xs.reverse))
 |_=>False
theorem zaZ:qX revS:=by
 intro ws G Q Q' k h;unfold revS at h ⊢
 split at h
 .obtain ⟨xs,e1,h⟩:=h;exact ⟨xs,e1,fun p hp=>k _ _ (h p hp)⟩
 .exact h.elim
theorem zkJ {X:Cx} (hc:X.calm=true) (pins:List (Addr×Obj)) (s:Shared) (σ:L2.St) (H:Hp) (vs:List V) (us:List Value) (Q:VK) (I:Inv X pins σ H s) (r:yZ vs us) (h:bL X.K revS vs H Q) :
  wpAny (model X.prog X.w) X.A (call (.type "reversed") us) (fun v s1=>wpAny (model X.prog X.w) X.A (call (.type "list") [v]) (EP X pins σ Q) X.xe s1) X.xe s:=by
 obtain ⟨ws,G,rs,ab,h⟩:=h;unfold revS at h
 split at h
 .rename_i p;obtain ⟨v,rfl,rv⟩:=vE rs;cases (show v=.ref p from rv);obtain ⟨u,rfl,ru⟩:=vH r;cases (show u=Value.ref p from ru);obtain ⟨xs,e,h⟩:=h;obtain ⟨vs,sq,rr⟩:=ab.seq e;obtain ⟨its,vv,pl,hz⟩:=I.list sq;have hl:=pl.isList
  have hlt:p<s.heap.objs.size:=by
   obtain ⟨o,ho,_⟩:=hl;exact Zi ho
  refine call_reversed_list hl ?_;have I1:Inv X pins σ H { s with heap:=s.heap.push (revObj p ((its.toArray.size:Int)-1)),toks:=s.toks }:=I.kept fun b u e=>Za _ e;have en:its.toArray.size=vs.length:=by rw[zzS,← vv.length]
  refine zeW hc (by decide) (by decide) I1 (zge X.prog X.w X.K (n:=vs.length) (Zr hlt)) ⟨ZS _,?_⟩ (fun b hb=>?_) vs.length hz
   (fun i acc H'=>H'=H/\acc=vs.reverse.take i) ⟨rfl,by simp⟩ ?_ ?_
  .refine ⟨_,Zk _ rfl,rfl,?_⟩;show Data.fields #[.ref p,rawInt ((its.toArray.size:Int)-1)]=_;rw[en];simp
  .rw[Z1] at hb;subst hb;exact I.fpOk (zzR _) (I.hok.fresh (zzR _))
  .rintro i acc H' hi ⟨rfl,rfl⟩;refine ⟨⟨vs,sq,rfl,hi⟩,?_⟩;rintro v H2 ⟨rfl,e2⟩;refine ⟨rfl,?_⟩;have e2:=e2 vs sq rfl;have hl':i<vs.reverse.length:=by simpa using hi
   rw[Zy hl'];congr 2;have:vs.reverse[i]?=some v:=by rw[Zbc hi];exact e2
   exact (ZA ((Zj hl').symm.trans this)).symm
  .rintro acc H' ⟨rfl,rfl⟩;refine ⟨rfl,?_⟩;rw[Z4 (by simp)];exact qM ab rr.reverse h
 .exact h.elim
end L3
namespace L3
open PySem PySem.Spec PyProof.Rows L2
def zI (S:List Addr) (G G':Hw):Prop:=∀ a o,a∉S->G a=some o->G' a=some o
theorem zI.refl {S:List Addr} {G:Hw}:zI S G G:=fun _ _ _ h=>h
theorem zI.trans {S:List Addr} {G G1 G2:Hw} (a:zI S G G1) (b:zI S G1 G2):zI S G G2:=fun x o hx h=>b x o hx (a x o hx h)
theorem zI.put {S:List Addr} {G:Hw} {p:Addr} {o:O} (h:p∈S):zI S G (put G p o):=fun x u hx hu=>by
 rw[yH (fun e:x=p=>hx (e▸h))];exact hu
theorem zI.new {S:List Addr} {G:Hw} {p:Addr} {o:O} (h:G p=none):zI S G (L3.put G p o):=fun x u hx hu=>by
 rw[yH (qS hu h)];exact hu
theorem zI.none {S:List Addr} {G G':Hw} {p:Addr} (k:zI S G G') (hp:p∉S) (h:G' p=Option.none):G p=Option.none:=by
 cases e:G p with
 |none=>rfl
 |some o=>rw[k p o hp e] at h;cases h
abbrev kS:yA:=.inr "seed"
abbrev kN:yA:=.inr "number"
abbrev kL:yA:=.inr "left"
def zmd (seed num:Int) (l:Addr):O:=.dic [(kS,.int seed),(kN,.int num),(kL,.ref l)]
structure DealS (G:Hw) (d l:Addr) (seed num:Int) (left:List Int):Prop where
 dic:G d=some (zmd seed num l)
 lst:G l=some (.lst (left.map .int))
 s0:0<=seed
 s1:seed<2147483647
 n0:0<=num
 lf:∀ x∈left,(0:Int)<=x
 len:left.length<=63
 ne:d≠l
def wQ (G:Hw) (d l:Addr):Prop:=∃ seed num left,DealS G d l seed num left
theorem dgS {a b c:W}:dget [(kS,a),(kN,b),(kL,c)] kS=some a:=by rfl
theorem dgN {a b c:W}:dget [(kS,a),(kN,b),(kL,c)] kN=some b:=by
 have e1:¬ (kS=kN):=by decide +kernel
 unfold dget;rw[Za3 (by simp[e1]),List.find?_cons_of_pos (by simp)];rfl
theorem dgL {a b c:W}:dget [(kS,a),(kN,b),(kL,c)] kL=some c:=by
 have e1:¬ (kS=kL):=by decide +kernel
 have e2:¬ (kN=kL):=by decide +kernel
 unfold dget;rw[Za3 (by simp[e1]),Za3 (by simp[e2]),List.find?_cons_of_pos (by simp)];rfl
theorem dpN {a b c x:W}:dput [(kS,a),(kN,b),(kL,c)] kN x=[(kS,a),(kN,x),(kL,c)]:=by
 unfold dput;have e1:¬ (kS=kN):=by decide +kernel
 have e2:¬ (kL=kN):=by decide +kernel
 simp[e1,e2]
theorem dpS {a b c x:W}:dput [(kS,a),(kN,b),(kL,c)] kS x=[(kS,x),(kN,b),(kL,c)]:=by
 unfold dput;have e1:¬ (kN=kS):=by decide +kernel
 have e2:¬ (kL=kS):=by decide +kernel
 simp[e1,e2]
def zmh:ISs:=(.cons (.whl (.and (.cmp .Eq (.ix (.var 0) (.con (.str "number"))) (.con (.int 0))) (.cmp .Gt (.call 1 (.cons (.ix (.var 0) (.con (.str "left"))) .nil)) (.con (.int 0)))) (.cons (.asgI (.var 0) (.con (.str "number")) (.mth 0 (.ix (.var 0) (.con (.str "left"))) .nil))
 .nil))
 (.cons (.asg 2 (.ix (.var 0) (.con (.str "number"))))
 (.cons (.ite (.cmp .Gt (.var 2) (.con (.int 0))) (.cons (.asgI (.var 0) (.con (.str "number")) (.bin .FloorDiv (.var 2) (.var 1)))
 (.cons (.ret (.bin .Mod (.var 2) (.var 1)))
 .nil)) .nil)
 (.cons (.asg 3 (.bin .Mod (.bin .Add (.bin .Mult (.ix (.var 0) (.con (.str "seed"))) (.con (.int 48271))) (.con (.int 7919))) (.con (.int 2147483647))))
 (.cons (.asgI (.var 0) (.con (.str "seed")) (.bin .Mod (.bin .Add (.bin .Mult (.var 3) (.con (.int 40692))) (.con (.int 104729))) (.con (.int 2147483399))))
 (.cons (.asg 4 (.bin .Mod (.bin .Mult (.ix (.var 0) (.con (.str "seed"))) (.ix (.var 0) (.con (.str "seed")))) (.con (.int 2147483563))))
 (.cons (.ret (.bin .Mod (.bin .Add (.bin .Mult (.bin .Mod (.bin .Mult (.var 3) (.var 3)) (.con (.int 2147483629))) (.con (.int 2147483563))) (.var 4)) (.var 1)))
 .nil)))))))
abbrev hX:Fn3:=⟨"len", fun ws G Q _=>qF ws G Q⟩
abbrev ePop:Mt3:=⟨"pop", "list", cQ⟩
theorem DealS.put {G:Hw} {d l:Addr} {seed num:Int} {left:List Int} (D:DealS G d l seed num left) {seed' num':Int} (h1:0<=seed') (h2:seed' < 2147483647) (h3:0<=num'):DealS (put G d (zmd seed' num' l)) d l seed' num' left :=
 ⟨zX,by rw[yH D.ne.symm];exact D.lst,h1,h2,h3,D.lf,D.len,D.ne⟩
theorem zdB {i j:Int}:kY (.int i) (.int j)=decide (i=j):=by
 simp[kY,Bool.beq_eq_decide_eq]
theorem yF {G:Hw} {i j:Int}:eqG G (.int i) (.int j)=some (decide (i=j)):=by
 simp[eqG,pur,dep,zdB]
theorem zgE {left:List Int}:(left.map W.int)[left.length-1]?=(left[left.length-1]?).map W.int:=by simp
theorem modb {a m:Int} (h:0<m):0<=a % m/\a % m<m:=⟨ZbV _ (by omega),ZbB _ h⟩
theorem zbn {d l:Addr} {m:Int} {G G1:Hw} {Q:Q3} {seed num:Int} {left:List Int} (D:DealS G1 d l seed num left) (kp:zI [d,l] G G1) (hm:0<m/\m<1073741824) (few:∀ {a b c:W},[(kS,a),(kN,b),(kL,c)].length<sizeLine)
  (hq:∀ r G',0<=r->r<m->zI [d,l] G G'->wQ G' d l->Q (.int r) G'):if decide (0<num)=true then
   CDiv num m/\[(kS,W.int seed),(kN,W.int num),(kL,W.ref l)].length<sizeLine/\0<m/\Q (W.int (num % m)) (put G1 d (O.dic [(kS,W.int seed),(kN,W.int (num / m)),(kL,W.ref l)]))
  else
   CMul seed 48271/\(0:Int)<2147483647/\CMul ((seed * 48271+7919) % 2147483647) 40692/\(0:Int)<2147483399/\[(kS,W.int seed),(kN,W.int num),(kL,W.ref l)].length<sizeLine /\
   CMul (((seed * 48271+7919) % 2147483647 * 40692+104729) % 2147483399) (((seed * 48271+7919) % 2147483647 * 40692+104729) % 2147483399)/\(0:Int)<2147483563 /\
   CMul ((seed * 48271+7919) % 2147483647) ((seed * 48271+7919) % 2147483647)/\(0:Int)<2147483629 /\
   CMul ((seed * 48271+7919) % 2147483647 * ((seed * 48271+7919) % 2147483647) % 2147483629) 2147483563/\0<m /\
   Q (W.int (((seed * 48271+7919) % 2147483647 * ((seed * 48271+7919) % 2147483647) % 2147483629 * 2147483563+((seed * 48271+7919) % 2147483647 * 40692+104729) % 2147483399 * (((seed * 48271+7919) % 2147483647 * 40692+104729) % 2147483399) % 2147483563) % m))
    (put G1 d (O.dic [(kS,W.int (((seed * 48271+7919) % 2147483647 * 40692+104729) % 2147483399)),(kN,W.int num),(kL,W.ref l)])):=by
 split
 .exact ⟨hm,few,hm.1,hq _ _ (modb hm.1).1 (modb hm.1).2 (kp.trans (zI.put (by simp))) ⟨seed,num / m,left,D.put D.s0 D.s1 (Int.ediv_nonneg D.n0 (by omega))⟩⟩
 .have b1:=modb (a:=seed * 48271+7919) (m:=2147483647) (by decide);generalize (seed * 48271+7919) % 2147483647=x at b1 ⊢;have b2:=modb (a:=x * 40692+104729) (m:=2147483399) (by decide);generalize (x * 40692+104729) % 2147483399=y at b2 ⊢;refine ⟨.inr ⟨by decide,by decide⟩,by decide,.inr ⟨by decide,by decide⟩,by decide,few,.inl ⟨by omega,by omega⟩,by decide,.inl ⟨by omega,by omega⟩,by decide,.inr ⟨by decide,by decide⟩,hm.1,?_⟩;exact hq _ _ (modb hm.1).1 (modb hm.1).2 (kp.trans (zI.put (by simp))) ⟨y,num,left,D.put b2.1 (by omega) D.n0⟩
theorem zhe {Γ:Ctx3} (h1:Γ.fn[1]?=some hX) (h2:Γ.mt[0]?=some ePop) {d l:Addr} {m:Int} {G:Hw} {Q:Q3} {nx:qV->Hw->Prop} (D:wQ G d l) (hm:0<m/\m<1073741824)
  (hq:∀ r G',0<=r->r<m->zI [d,l] G G'->wQ G' d l->Q (.int r) G'):zG Γ XN zmh { nx:=nx,rt:=Q } [some (.ref d),some (.int m),none,none,none] G:=by
 obtain ⟨seed,num,left,D⟩:=D;dsimp only[zmh,zG,zT,zU,zO,zH,zF,zD,zC,zQ,zW,zN,ZF,ZT,Zam,ZaY];simp only[h1,h2];refine ⟨fun k σ G'=>σ=[some (.ref d),some (.int m),none,none,none]/\zI [d,l] G G'/\∃ num left,k=left.length/\DealS G' d l seed num left,⟨_,rfl,.refl,num,left,rfl,D⟩,?_⟩;rintro k σ G1 ⟨rfl,kp,num,left,rfl,D⟩;have hd:G1 d=some (.dic [(kS,.int seed),(kN,.int num),(kL,.ref l)]):=D.dic;have hl:G1 l=some (.lst (left.map .int)):=D.lst;have hds:∀ o,(put G1 d o) d=some o:=fun o=>zX;have hdl:∀ o,(put G1 l o) d=some (.dic [(kS,.int seed),(kN,.int num),(kL,.ref l)]):=fun o=>by rw[yH D.ne];exact hd
 have few:∀ {a b c:W},[(kS,a),(kN,b),(kL,c)].length<sizeLine:=by intros;show 3<sizeLine;rw[ZI];decide
 simp only[ZF,ZT,Zam,ZaY,jU,hd,zdt,dgN,dgL,dgS,yT,yF,zE,qF,kZ,hl,zzM,tyW,cQ,cJ,zgE,setR,hdl,hds,dpN,dpS,vX]
 by_cases hn:num=0
 .simp only[decide_eq_true hn,if_true]
  by_cases hlen:(0:Int)<(left.length:Int)
  .simp only[decide_eq_true hlen,if_true];have hlast:left.length-1<left.length:=by omega
   rw[Zj hlast];simp only[Option.map_some];refine ⟨trivial,few,left.dropLast.length,by rw[Zbo];omega,trivial,?_,left[left.length-1],left.dropLast,rfl,?_⟩
   .exact (kp.trans (zI.put (by simp))).trans (zI.put (by simp))
   .refine ⟨zX,?_,D.s0,D.s1,D.lf _ (Zak hlast),fun x hx=>D.lf x (List.dropLast_subset _ hx),by have:=D.len;rw[Zbo];omega,D.ne⟩;rw[yH D.ne.symm,zX,List.map_dropLast]
  .simp only[decide_eq_false hlen,zzB,if_false];exact zbn D kp hm few hq
 .simp only[decide_eq_false hn,zzB,if_false];exact zbn D kp hm few hq
theorem dZ {items:List W} {stab:Hw->Prop} {G1:Hw} {turn:W->Hw->(Option W->Hw->Prop)->Prop} {Q:Q3} (f:W->Option W) (hs:stab G1) (hl:items.length<=sizeLine) (ht:∀ w∈items,∀ K:Option W->Hw->Prop,K (f w) G1->turn w G1 K)
  (hq:∀ p,G1 p=none->Q (.ref p) (put G1 p (.lst (items.filterMap f)))):lcR items stab G1 turn Q:=by
 refine ⟨fun i acc G=>G=G1/\acc=(items.take i).filterMap f,⟨rfl,by simp⟩,?_,hl,?_,?_⟩
 .rintro i acc G ⟨rfl,rfl⟩ hi;refine ⟨hs,Ze (List.length_filterMap_le _ _) ?_⟩;rw[Z3];omega
 .rintro i w acc G hi ⟨rfl,rfl⟩;have hlt:i<items.length:=(Zh.mp hi).1;have hw:items[i]=w:=(Zh.mp hi).2;refine ht w (Zo hi) _ ?_;have et:items.take (i+1)=items.take i++[w]:=by rw[Zy hlt,hw]
  cases e:f w with
  |some x=>exact ⟨rfl,by rw[et,Zba];simp[e]⟩
  |none=>exact ⟨rfl,by rw[et,Zba];simp[e]⟩
 .rintro acc G ⟨rfl,rfl⟩ p hp;rw[Zal];exact hq p hp
theorem zfx {α β:Type} (f:α->β) (xs:List α) (lo hi:Option Int):cut (xs.map f) lo hi=(cut xs lo hi).map f:=by
 unfold cut;rw[zzM,List.map_take,List.map_drop]
theorem zjT {α:Type} (xs:List α) (lo hi:Option Int):(cut xs lo hi).length<=xs.length:=by
 unfold cut;rw[Z3,ZX];omega
def zmi:ISs:=(.cons (.asg 2 (.lc (.nm 0) ["_law_cell"] [] (.val (.sl (.var 0) (.yes (.var 1)) (.yes (.con (.int 63))))) .no (.call 0 (.cons (.var 0) (.cons (.bin .Sub (.con (.int 0)) (.var 0)) .nil)))))
 (.cons (.asg 3 (.bin .Add (.con (.int 7919)) (.var 1)))
 (.cons (.for (.nm 4) (.val (.var 2)) (.cons (.asg 3 (.bin .Mod (.bin .Add (.bin .Mult (.var 3) (.con (.int 69621))) (.bin .Mod (.var 4) (.con (.int 2147483629)))) (.con (.int 2147483647))))
 .nil))
 (.cons (.ret (.dct ["seed", "number", "left"] (.cons (.var 3) (.cons (.con (.int 0)) (.cons (.spc 0 (.cons (.lc (.nm 0) ["_law_cell"] [] (.val (.var 2)) (.yes (.cmp .GtE (.var 0) (.bin .Pow (.con (.int 10)) (.con (.int 18))))) (.var 0)) .nil)) .nil)))))
 .nil))))
abbrev eMax:Fn3:=⟨"max", fun ws G Q _=>maxS ws G Q⟩
abbrev eRev:Sx3:=⟨lofM "reversed", revS⟩
def fM (x:Int):Int:=if 0-x > x then 0-x else x
theorem zj3 (x:Int):0<=fM x:=by unfold fM;split<;>omega
theorem xQ {G:Hw} {p:Addr} {ws:List W} (h:G p=some (.lst ws)):yP G p=some ws:=by unfold yP;rw[h]
theorem dct3 {a b c:W}:zjQ ["seed", "number", "left"] [a,b,c]=[(kS,a),(kN,b),(kL,c)]:=by
 have e1:¬ (kS=kN):=by decide +kernel
 have e2:¬ (kS=kL):=by decide +kernel
 have e3:¬ (kN=kL):=by decide +kernel
 simp[zjQ,dput,e1,e2,e3]
def zdM (G:Hw) (w:W) (ns:List Int):Prop:=(∃ a,w=.ref a/\yP G a=some (ns.map .int))\/w=.lsf (ns.map .int)
theorem zdM.sl {G:Hw} {w:W} {ns:List Int} (h:zdM G w ns) {lo hi:Option Int} {Q:Q3} (hq:∀ r,G r=none->Q (.ref r) (put G r (.lst (cut (ns.map W.int) lo hi)))):slR w lo hi G Q:=by
 rcases h with ⟨a,rfl,e⟩|rfl
 .simp only[slR,e];exact hq
 .exact hq
theorem zhg {Γ:Ctx3} (h0:Γ.fn[0]?=some eMax) (h2:Γ.sx[0]?=some eRev) {a:W} {base:Int} {ns:List Int} {G:Hw} {Q:Q3} {nx:qV->Hw->Prop} (hs:zdM G a ns) (hl:ns.length<=63) (hb:0<=base/\base<=1000)
  (hq:∀ d l G',G d=none->G l=none->zI [] G G'->wQ G' d l->Q (.ref d) G'):zG Γ XN zmi { nx:=nx,rt:=Q } [some a,some (.int base),none,none,none] G:=by
 dsimp only[zmi,zG,zT,zU,zO,zH,zF,zD,zC,zQ,zW,zS,zP,zR,zV,zN,ZF,ZT,zM];simp only[h0,h2,kA];refine hs.sl fun p1 hp1=>?_;dsimp only;have hp1':yP (put G p1 (.lst (cut (ns.map W.int) (some base) (some 63)))) p1=some (cut (ns.map W.int) (some base) (some 63)):=xQ zX;rw[hp1'];rw[zfx];generalize ecs:cut ns (some base) (some 63)=cs;have hcl:cs.length<=63:=by rw[← ecs];exact Ze (zjT _ _ _) hl
 rw[zfx,ecs] at hp1';refine dZ (fun w=>match w with|.int x=>some (.int (fM x))|_=>none) hp1' (by rw[zzM,ZI];omega) ?_ ?_
 .intro w hw K hK;obtain ⟨x,hx,rfl⟩:=zzP hw;simp only[hG,Zf,Zs,List.replicate,zzV,ZC,Zam,ZF,vX,maxS,if_true];exact hK
 .intro p2 hp2
  have ef:(cs.map W.int).filterMap (fun w=>match w with|.int x=>some (.int (fM x))|_=>none)=(cs.map fM).map W.int:=by
   rw[ZaW,ZaH,← List.filterMap_eq_map];rfl
  rw[ef];generalize eG:put (put G p1 (.lst (cs.map W.int))) p2 (.lst ((cs.map fM).map W.int))=G2;have kp2:zI [] G G2:=by rw[← eG];exact (zI.new hp1).trans (zI.new hp2)
  have g2:G2 p2=some (.lst ((cs.map fM).map W.int)):=by rw[← eG];exact zX
  simp only[ZF,ZT,Zam,ZaY,vX,xQ g2];refine ⟨fun i σ G'=>G'=G2/\∃ (n:Int) (c:Option W),σ=[some a,some (.int base),some (.ref p2),some (.int n),c]/\0<=n/\n<2147483647,⟨rfl,7919+base,none,rfl,by omega,by omega⟩,?_,?_,?_⟩
  .rintro i σ G' ⟨rfl,_⟩ _;exact xQ g2
  .rintro i w σ G' hi ⟨rfl,n,c,rfl,n0,n1⟩;have hw:=Zo hi;obtain ⟨x,hx,rfl⟩:=zzP hw;simp only[ZF,ZT,Zam,ZaY,vX];exact ⟨.inr ⟨by decide,by decide⟩,by decide,by decide,trivial,_,_,rfl,(modb (by decide)).1,(modb (by decide)).2⟩
  .rintro σ G' ⟨rfl,n,c,rfl,n0,n1⟩;intro d hd;simp only[ZF,ZT];have g3:(put G' d (.dic [])) p2=some (.lst ((cs.map fM).map W.int)):=by rw[yH (qS g2 hd)];exact g2
   simp only[xQ g3];refine dZ (fun w=>match w with|.int x=>if (10:Int) ^ 18<=x then some (.int x) else none|_=>none) (xQ g3) (by rw[zzM,zzM,ZI];omega) ?_ ?_
   .intro w hw K hK;obtain ⟨x,hx,rfl⟩:=zzP hw;simp only[hG,Zf,Zs,List.replicate,zzV,ZC,Zam,ZF,vX,yT,cJ,zE];refine ⟨⟨by decide,by decide,by decide⟩,?_⟩;have e18:(10:Int) ^ (18:Int).toNat=10 ^ 18:=rfl;rw[e18]
    by_cases hx:(10:Int) ^ 18<=x
    .rw[decide_eq_true hx,if_pos rfl];simp only[if_pos hx] at hK;exact hK
    .rw[decide_eq_false hx,if_neg zzN];simp only[if_neg hx] at hK;exact hK
   .intro p3 hp3
    have ef:((cs.map fM).map W.int).filterMap (fun w=>match w with|.int x=>if (10:Int) ^ 18<=x then some (.int x) else none|_=>none)=((cs.map fM).filter fun x=>decide ((10:Int) ^ 18<=x)).map W.int:=by
     generalize cs.map fM=ys
     induction ys with
     |nil=>rfl
     |cons y ys ih =>
      rw[zzU,Zax,List.filter_cons]
      by_cases hy:(10:Int) ^ 18<=y
      .simp only[if_pos hy,decide_eq_true hy,if_true,zzU,ih]
      .simp only[if_neg hy,decide_eq_false hy,zzB,if_false,ih]
    rw[ef];generalize efl:(cs.map fM).filter (fun x=>decide ((10:Int) ^ 18<=x))=fl;have flen:fl.length<=63:=by rw[← efl];refine Ze (List.length_filter_le _ _) ?_;rw[zzM];exact hcl
    have fnn:∀ x∈fl,(0:Int)<=x:=fun x hx=>by
     rw[← efl] at hx;obtain ⟨y,hy,rfl⟩:=zzP (ZbW.mp hx).1;exact zj3 y
    refine ⟨fl.map W.int,xQ zX,fun l hl'=>?_⟩
    have ned:d≠l:=fun e=>by
     subst e;rw[yH (qS zX hp3),zX] at hl';cases hl'
    have np3:d≠p3:=qS zX hp3;refine ⟨by rw[yH ned,yH np3,zX],rfl,?_⟩;rw[dct3];refine hq d l _ (kp2.none (by simp) hd) ?_ ?_ ⟨n,0,fl.reverse,zX,?_,n0,n1,by omega,fun x hx=>fnn x (List.mem_reverse.mp hx),by rw[Zw];exact flen,ned⟩
    .have k3:zI [] G (put (put G' d (.dic [])) p3 (.lst (fl.map W.int))):=(kp2.trans (zI.new hd)).trans (zI.new hp3);exact k3.none (by simp) hl'
    .intro x u hx hu;rw[yH (qS hu (kp2.none (by simp) hd))];exact ((((kp2.trans (zI.new hd)).trans (zI.new hp3)).trans (zI.new hl')) x u hx hu)
    .rw[yH ned.symm,zX,← List.map_reverse]
structure FunD (K:yJ) (x qual:Str) (st:Stmt) (dV:Value) (f:Addr) (fd:FuncData):Prop where
 ex:∃ (oc:Value) (od:Option Addr) (kV doc pm:Value) (an:Option Addr) (cdv ct:Value) (osl:Array (Option Value)),
  fd=PySem.W.fnOf x qual (zA st) (zK st) (zZ st) dV kV doc pm an cdv ct/\K.lookup f=some ⟨oc,od,.func fd,osl⟩/\PySem.W.codeIn K cdv qual=true
 kp:PySem.W.keepIn K (.ref f)=true
theorem nF {Γ:Ctx3} {q:Pr} {k:Nat} {M:MC} {x qual:Str} {st:Stmt} {dV:Value} {f:Addr} {fd:FuncData} {ps:List Str} {sp:vW} {body:ISs} (F:FunD q.K x qual st dV f fd) (S:FnScope M.N ps (zZ st)) (g:∀ A,Room k A->Good Γ (q.at A))
  (eM:MOk Γ M (zZ st)) (hm:qG body M (zK st)=true) (len:∀ ws G Q,sp ws G Q XN->ws.length=ps.length)
  (hb:∀ ws G Q,sp ws G Q XN->zG Γ XN body { nx:=fun _ G'=>Q .non G',rt:=Q } (yR M.N ws) G):FnOk q.prog q.w q.K q.mg q.base CX0 (k+1) f fd ps (tX q.K sp):=by
 obtain ⟨oc,od,kV,doc,pm,an,cdv,ct,osl,rfl,lk,hcd⟩:=F.ex;refine fn_of lk hcd S (fun vs H Q E h=>?_) fun A outer s H vs Q E hr h=>?_
 .obtain ⟨ws,G,rs,ab,h⟩:=h;rw[rs.length];exact len ws G _ h
 .obtain ⟨ws,G,rs,ab,h⟩:=h;have gg:=g _ hr;refine ⟨lowS q.K (zG Γ XN body),PSs.nox (sndSs gg body M _ (zK st) ?_ hm),?_⟩
  .exact ⟨⟨rfl,rfl,rfl,rfl,rfl,rfl,rfl,rfl⟩,rfl,eM.sc.symm,S.nd,fun _ _=>rfl,by rw[eM.sc];exact S.kind,eM.fns,eM.gls,eM.mts,eM.its,eM.sxs,eM.ixs⟩
  .refine ⟨yR M.N ws,G,_,zeb rs,ab,⟨?_,?_,?_,?_⟩,hb ws G _ h⟩
   .exact fun σ G' τ H' g' _ a' z=>z .non H' g' (show xT q.K H' .non .non from rfl) a'
   .exact fun σ G' τ H' g' _ a' z=>z.elim
   .exact fun σ G' τ H' g' _ a' z=>z.elim
   .exact fun w G' v H' g' r' a' z=>z v H' g' r' a'
structure HD (K:yJ) (x qual:Str) (st:Stmt) (dV:Value) (f:Addr):Prop where
 ex:∃ (oc:Value) (od an:Option Addr) (osl:Array (Option Value)) (kV doc pm cdv ct:Value),K.lookup f=some ⟨oc,od,.func (PySem.W.fnOf x qual (zA st) (zK st) (zZ st) dV kV doc pm an cdv ct),osl⟩/\PySem.W.codeIn K cdv qual=true
 kp:PySem.W.keepIn K (.ref f)=true
theorem HD.mk' {K:yJ} {x qual:Str} {st:Stmt} {dV:Value} {f:Addr} {oc:Value} {od an:Option Addr} {osl:Array (Option Value)} {kV doc pm cdv ct:Value}
  (l:K.lookup f=some ⟨oc,od,.func (PySem.W.fnOf x qual (zA st) (zK st) (zZ st) dV kV doc pm an cdv ct),osl⟩) (c:PySem.W.codeIn K cdv qual=true) (k:PySem.W.keepIn K (.ref f)=true):HD K x qual st dV f:=⟨⟨oc,od,an,osl,kV,doc,pm,cdv,ct,l,c⟩,k⟩
theorem HD.fd {K:yJ} {x qual:Str} {st:Stmt} {dV:Value} {f:Addr} (h:HD K x qual st dV f):∃ fd,FunD K x qual st dV f fd/\∃ kV doc pm an cdv ct,fd=PySem.W.fnOf x qual (zA st) (zK st) (zZ st) dV kV doc pm an cdv ct:=by
 obtain ⟨oc,od,an,osl,kV,doc,pm,cdv,ct,l,c⟩:=h.ex;exact ⟨_,⟨⟨oc,od,kV,doc,pm,an,cdv,ct,osl,rfl,l,c⟩,h.kp⟩,kV,doc,pm,an,cdv,ct,rfl⟩
def rN (f:Fn3):Prop:=∀ ws G (Q Q':Q3) E,(∀ w G',Q w G'->Q' w G')->f.sp ws G Q E->f.sp ws G Q' E
def tU (p:Par) (f:Fn3):Prop:=FnE p f/\rN f
def pQ (m:Mt3):Prop:=∀ x ws G (Q Q':Q3),(∀ w G',Q w G'->Q' w G')->m.sp x ws G Q->m.sp x ws G Q'
def zbz (m:It3):Prop:=∀ ws G (R R':List W->(Hw->Prop)->Hw->Prop),(∀ a b c,R a b c->R' a b c)->m.sp ws G R->m.sp ws G R'
def GlE (p:Par) (g:Str×W):Prop:=∀ X,Fits p X->Gl X g.1->∀ q:Pos,(g.1==("__debug__" : Str))=false->g.1 ≠ "__name__" -> PE X (.Name g.1 q) (xN X.K fun _ G Q=>Q g.2 G)
theorem zfd {Γ:Ctx3} {p:Par} (un:p.A.units+200<cLine) (fn:∀ f∈Γ.fn,tU p f) (gl:∀ g∈Γ.gl,GlE p g) (mt:∀ m∈Γ.mt,MtE p m/\pQ m) (it:∀ i∈Γ.it,ItE p i/\zbz i)
  (cl:∀ c∈Γ.cl,Cls p.K c.1/\∀ f∈c.2,zh9 p.K c.1 f) (sx:∀ k∈Γ.sx,SxE p k/\qX k.sp) (ix:Γ.ix=[]):Good Γ p where
 mono:=⟨fun f hf=>(fn f hf).2,fun m hm=>(mt m hm).2,fun i hi=>(it i hi).2,fun k hk=>(sx k hk).2,fun k hk=>by rw[ix] at hk;cases hk⟩
 un:=un
 fn:=fun f hf=>(fn f hf).1
 gl:=gl
 mt:=fun m hm=>(mt m hm).1
 it:=fun i hi=>(it i hi).1
 cl:=cl
 sx:=fun k hk=>(sx k hk).1
 ix:=fun k hk=>by rw[ix] at hk;cases hk
theorem yC {α:Type} {P:α->Prop}:∀ x∈([]:List α),P x:=fun _ h=>nomatch h
theorem zJ {α:Type} {P:α->Prop} {a:α} {l:List α} (h:P a) (t:∀ x∈l,P x):∀ x∈a::l,P x:=fun x hx=>by
 rcases Zd.mp hx with rfl|hx
 .exact h
 .exact t x hx
theorem gF {α:Type} {P:α->Prop} {a:α} {l:List α} (t:∀ x∈l,P x) (h:P a):∀ x∈l++[a],P x:=fun x hx=>by
 rcases ZD.mp hx with hx|hx
 .exact t x hx
 .rw[zzO hx];exact h
theorem xI {q:Pr} {A:Around} {x:Str} {w:W} {u:Value} {v:V} (hm:q.mg x=some u) (r:yW v u) (rp:∀ H,xT q.K H w v):GlE (q.at A) (x,w):=by
 intro X fits gl qp hd hn;have hm':X.mg x=some u:=by rw[fits.mg];exact hm
 refine (ziT gl hm' r hd).imp fun τ H Q h=>?_;obtain ⟨σ,G,hs,ab,h⟩:=h;exact h v H .refl (by have:=rp H;rw[fits.K];exact this) ab
theorem zb3 {q:Pr} {A:Around} {x:Str} {T:String} (hm:q.mg x=none) (hv:bootBuiltins x=some (.type T)):GlE (q.at A) (x,.ty T):=by
 intro X fits gl qp hd hn;have hm':X.mg x=none:=by rw[fits.mg];exact hm
 refine (ziX (v:=.ty T) gl hm' hv rfl hn hd).imp fun τ H Q h=>?_;obtain ⟨σ,G,hs,ab,h⟩:=h;exact h (.ty T) H .refl rfl ab
theorem jO {K:yJ} {a:Addr} {o:Obj} {its:Array Value} {n:Nat} {ws:List W} {vs:List V} (l:K.lookup a=some o) (hc:o.cls=.type "tuple") (hd:o.data=.seq its n) (hz:its.size<=sizeLine) (hv:yZ vs its.toList) (hr:∀ H,zB K H ws vs):∀ H,xT K H (.tup ws) (.ref a) :=
 fun H=>⟨a,vs,rfl,.inr ⟨o,its,n,l,hc,hd,hz,hv⟩,hr H⟩
theorem zes:zbz ⟨"range", rngI⟩:=by
 intro ws G R R' k h;replace h:rngI ws G R:=h;show rngI ws G R';unfold rngI at h ⊢
 split at h
 .exact ⟨h.1,k _ _ _ h.2⟩
 .exact h.elim
def zee:vW:=fun ws G Q _=>∃ a base ns,ws=[a,.int base]/\zdM G a ns/\ns.length<=63/\(0<=base/\base<=1000)/\∀ d l G',G d=none->G l=none->zI [] G G'->wQ G' d l->Q (.ref d) G'
def zcx:vW:=fun ws G Q _=>∃ d l m,ws=[.ref d,.int m]/\wQ G d l/\(0<m/\m<1073741824)/\∀ r G',0<=r->r<m->zI [d,l] G G'->wQ G' d l->Q (.int r) G'
theorem zbC:rN ⟨"_law_deal", zee⟩:=fun ws G Q Q' E k hh=>by
 obtain ⟨a,b,ns,h1,h2,h3,h4,h⟩:=hh;exact ⟨a,b,ns,h1,h2,h3,h4,fun d l G' a b c e=>k _ _ (h d l G' a b c e)⟩
theorem zbB:rN ⟨"_law_draw", zcx⟩:=fun ws G Q Q' E k hh=>by
 obtain ⟨a,b,m,h1,h2,h3,h⟩:=hh;exact ⟨a,b,m,h1,h2,h3,fun d l a b c e=>k _ _ (h d l a b c e)⟩
abbrev zmb:Fn3:=⟨"_law_deal", zee⟩
abbrev zdE:Fn3:=⟨"_law_draw", zcx⟩
abbrev eAll:Fn3:=⟨"all", fun ws G Q _=>allS (·.all id) ws G Q⟩
abbrev eLst:Fn3:=⟨"list", fun ws G Q _=>lstS ws G Q⟩
abbrev eRng:It3:=⟨"range", rngI⟩
section
variable {q:Pr} {A:Around} {k:Nat}
theorem zjI (hm:q.mg "max" = none):tU (q.at A) eMax:=⟨zbj hm (by decide +kernel) (fun X f=>zln f.calm) za8 (fun _ _ h=>h),fun ws G Q Q' _ k h=>za8 ws G Q Q' k h⟩
theorem zjK (hm:q.mg "len" = none):tU (q.at A) hX:=⟨zbj hm (by decide +kernel) (fun X f=>zlt) zbb (fun _ _ h=>h),fun ws G Q Q' _ k h=>zbb ws G Q Q' k h⟩
theorem zjO (hm:q.mg "all" = none):tU (q.at A) eAll:=⟨zbj hm (by decide +kernel) (fun X f=>zmm f.calm) (zby _) (fun _ _ h=>h),fun ws G Q Q' _ k h=>zby _ ws G Q Q' k h⟩
theorem zjJ (hm:q.mg "list" = none):tU (q.at A) eLst:=⟨fn_ty hm (by decide +kernel) (fun X f=>zlq) za9 (fun _ _ h=>h),fun ws G Q Q' _ k h=>za9 ws G Q Q' k h⟩
theorem zjH:MtE (q.at A) ePop/\pQ ePop:=⟨mH Za1 PySem.F.slot_list_pop PySem.F.type_list_pop (fun X f=>zkX) za1,za1⟩
theorem zjF (hm:q.mg "range" = none):ItE (q.at A) eRng/\zbz eRng:=⟨zlS hm,zes⟩
theorem zjG (hl:q.mg "list" = none) (hm:q.mg "reversed" = none):SxE (q.at A) eRev/\qX eRev.sp:=⟨zkr hl hm (by decide +kernel) zaZ (fun X f=>zkJ f.calm),zaZ⟩
end
theorem FnE.imp {p:Par} {nm:Str} {sp sp':vW} (h:FnE p ⟨nm,sp'⟩) (k:∀ ws G Q,sp ws G Q XN->sp' ws G Q XN):FnE p ⟨nm,sp⟩:=by
 intro X fits gl args t qp pos mt hn pa hnil hdb hnm;refine (h X fits gl args t qp pos mt hn pa hnil hdb hnm).imp fun τ H Q z=>?_;obtain ⟨σ,G,hs,ab,z⟩:=z;exact ⟨σ,G,hs,ab,mt σ G _ _ (fun ws G1 z=>k _ _ _ z) z⟩
theorem sG {K:yJ} {x qual:Str} {st:Stmt} {f:Addr} {fd:FuncData} {ps:List Str} (F:FunD K x qual st .none f fd)
  (h:∀ (kV doc pm:Value) (an:Option Addr) (cdv ct:Value) (us:List Value),us.length=ps.length->bindArgs (PySem.W.fnOf x qual (zA st) (zK st) (zZ st) .none kV doc pm an cdv ct) ⟨us,[]⟩=pure (ps.zip us)):rM K fd ps []:=by
 obtain ⟨oc,od,kV,doc,pm,an,cdv,ct,osl,rfl,lk,hcd⟩:=F.ex;exact .all (h kV doc pm an cdv ct)
theorem zb5 {q:Pr} {j k:Nat} {nm:Str} {f:Addr} {fd:FuncData} {ps:List Str} {sp:vW} (FO:FnOk q.prog q.w q.K q.mg q.base CX0 j f fd ps (tX q.K sp)) (hm:q.mg nm=some (.ref f)) (hk:PySem.W.keepIn q.K (.ref f)=true) (hb:rM q.K fd ps [])
  (mono:rN ⟨nm,sp⟩) {A:Around} (hr:Room k A) (hjk:j<=k):tU (q.at A) ⟨nm,sp⟩ :=
 ⟨(zl5 (dws:=[]) (dvs:=[]) (FO.mono hjk) hm hk hb (fun _=>rfl) .nil (fun ws G Q Q' z h=>mono ws G Q Q' XN z h) hr).imp fun ws G Q h=>by rw[ZC];exact h,mono⟩
def zdi:vW:=fun ws G Q _=>∃ a ns,ws=[a]/\zdM G a ns/\ns.length<=63/\∀ G',Q (.bl true) G'
theorem sB {K:yJ} {H:Hp}:∀ ns:List Int,zB K H (ns.map W.int) (ns.map V.int)
 | []=>rfl
 |n::ns=>⟨.int n,_,rfl,rfl,sB ns⟩
theorem zeY {K:yJ} {H:Hp} {a:Addr} {ns:List Int} (hl:ns.length<=63) (hS:mY K H a (ns.map V.int)):tX K zdi [.ref a] H (fun v _=>v=.bl true) fun _ _ _=>False:=by
 rcases hS with hS|hS
 .refine ⟨[.ref a],fun b=>if b=a then some (.fix (ns.map W.int)) else none,⟨_,[],rfl,rfl,rfl⟩,?_,.ref a,ns,rfl,.inl ⟨a,rfl,by simp[yP]⟩,hl,fun G' v H' _ r _=>r⟩;intro b o e;dsimp only at e
  by_cases hb:b=a
  .subst hb;rw[if_pos rfl] at e;cases e;rcases hS with hS|⟨ob,hS⟩
   .exact ⟨_,hS,_,default,.inl rfl,sB ns⟩
   .exact ⟨_,hS,_,ob,.inr rfl,sB ns⟩
  .rw[if_neg hb] at e;cases e
 .exact ⟨[.lsf (ns.map W.int)],fun _=>none,⟨_,[],rfl,⟨a,_,rfl,hS,sB ns⟩,rfl⟩,(fun b o e=>nomatch e),.lsf (ns.map W.int),ns,rfl,.inr rfl,hl,fun G' v H' _ r _=>r⟩
theorem walk3 {l:PySem.W.OpenLaw} {k:Nat} {q:Program} {loose:List Str} {XP:(Str->Option Value)->Heap->Prop} {YP:World->Heap->Prop} {d:DefRec} {K:Params->PySem.W.Frag} (hn:l.most=some 63) (hdf:d.params.defaults=[]) (hr:Room k callerA)
  (hY:∀ (w:World) (h:Heap),YP w h->(K w.params).In h)
  (F:∀ (w:World) (mg:Str->Option Value) (fa:Addr) (h:Heap),(K w.params).In h->h.Ns mainGlobals mg->mg d.name=some (.ref fa) ->
   ∃ fd:FuncData,(∀ (s:Shared) (u:Value),BindsTo s fd ⟨[u],[]⟩ [("_law_script", u)])/\fd.scope.names.lookup ("_law_script" : Str)=some .local/\∀ base:Heap,(K w.params).In base->base.Ns mainGlobals mg->FnOk l.prog w (K w.params) mg base CX0 k fa fd ["_law_script"] (tX (K w.params) zdi)) :
  PySem.W.WalkO q loose XP YP l.row.toRowW d [] (fun f vs=>PySem.call f vs) :=
 L2.walk_of (n:=63) (k:=k) (x := "_law_script") (CX:=fun _=>CX0) (sp:=fun w=>tX (K w.params) zdi) hn (by decide) hdf hr hY F (fun _ _ a ns hl _ hS=>zeY hl hS) fun _ _ _ _ _ z=>z
end L3
namespace L3
open PySem PySem.Spec PyProof.Rows L2 PySem.SeqAt
def zdv:MS:=fun x ws G Q=>match x,ws with
 | .str sep,[.ref p]=>∃ ts:List Str,yP G p=some (ts.map .str)/\JoinOk sep ts=true/\Q (.str (Txt.join sep ts)) G
 |_,_=>False
theorem zac:∀ x ws G (Q Q':Q3),(∀ w G',Q w G'->Q' w G')->zdv x ws G Q->zdv x ws G Q':=by
 intro x ws G Q Q' k h;unfold zdv at h ⊢
 split at h
 .obtain ⟨ts,e,o,h⟩:=h;exact ⟨ts,e,o,k _ _ h⟩
 .exact h.elim
theorem zaI {K:yJ} {H:Hp}:∀ {ts:List Str} {vs:List V} {us:List Value},zB K H (ts.map .str) vs->yZ vs us->∃ l:List (Str×Tok),l.map (·.1)=ts/\us=strValues l
 | [],vs,us,r,v=>by cases (show vs=[] from r);cases v;exact ⟨[],rfl,rfl⟩
 |t::ts,vs,us,r,v=>by
  obtain ⟨x,tl,rfl,rx,rt⟩:=r;cases (show x=.str t from rx)
  cases v with
  |cons a c =>
   obtain ⟨tk,rfl⟩:=a;obtain ⟨l,e1,e2⟩:=zaI rt c;exact ⟨(t,tk)::l,by rw[zzU,e1],by rw[e2];rfl⟩
theorem zjh {X:Cx}:MtR X "str.join" (lowM X.K zdv):=by
 intro pins s σ H x xs v us Q I rx rxs h;obtain ⟨w,ws,G,rw1,rs,ab,h⟩:=h;unfold zdv at h
 split at h
 .rename_i sep p;cases (show x=.str sep from rw1);obtain ⟨y,rfl,ry⟩:=vE rs;cases (show y=.ref p from ry);obtain ⟨u,rfl,ru⟩:=vH rxs;cases (show u=Value.ref p from ru);obtain ⟨t,rfl⟩:=rx;obtain ⟨ts,e,ok,h⟩:=h;obtain ⟨vs,sq,rr⟩:=ab.seq e;obtain ⟨its,vv,pl,hz⟩:=I.list sq;obtain ⟨l,e1,e2⟩:=zaI rr vv;subst e2;exact qI I.tk (SC.join pl.isList e1 ok fun t' k h0=>⟨.str (Txt.join sep ts),H,I.tok _ h0,⟨t',rfl⟩,h _ H .refl rfl ab⟩)
 .exact h.elim
abbrev zdD:Mt3:=⟨"join", "str", zdv⟩
theorem zhc {q:Pr} {A:Around}:MtE (q.at A) zdD/\pQ zdD:=⟨mH ZaF PySem.F.slot_str_join PySem.F.type_str_join (fun X f=>zjh) zac,zac⟩
theorem zly {X:Cx} {pins:List (Addr×Obj)} {σ:L2.St} {H:Hp} {s:Shared} {G:Hw} {w:W} {v:V} {u:Value} {T:String} (I:Inv X pins σ H s) (ab:xP X.K H G) (rv:xT X.K H w v) (ru:yW v u) (ty:tyO G w=some T) :
  ∃ HH:Heap->Prop,PySem.W.KitX X.K u (.type T) HH/\HH s.heap/\u≠.builtin "__main__.__loader__#opaque" := by
 cases w with
 |non=>cases ty;cases (show v=.non from rv);cases (show u=Value.none from ru);exact ⟨_,PySem.W.kitx_none,True.intro,fun z=>nomatch z⟩
 |bl x=>cases ty;cases (show v=.bl x from rv);cases (show u=Value.bool x from ru);exact ⟨_,PySem.W.kitx_bool,True.intro,fun z=>nomatch z⟩
 |int x=>cases ty;cases (show v=.int x from rv);obtain ⟨t,rfl⟩:=(show ∃ t,u=Value.int x t from ru);exact ⟨_,PySem.W.kitx_int,True.intro,fun z=>nomatch z⟩
 |str x=>cases ty;cases (show v=.str x from rv);obtain ⟨t,rfl⟩:=(show ∃ t,u=Value.str x t from ru);exact ⟨_,PySem.W.kitx_str,True.intro,fun z=>nomatch z⟩
 |tup ws' =>
  cases ty;obtain ⟨a,vs,rfl,sq,rr⟩:=rv;cases (show u=Value.ref a from ru);obtain ⟨its,_,p,_⟩:=I.tuple sq;obtain ⟨o,h1,h2,_⟩:=p;exact ⟨_,PySem.W.kitx_tuple,⟨o,h1,h2⟩,fun z=>nomatch z⟩
 |ref p =>
  cases (show v=.ref p from rv);cases (show u=Value.ref p from ru);simp only[tyO] at ty
  have lk:∀ ws',yP G p=some ws'->∃ HH:Heap->Prop,PySem.W.KitX X.K (.ref p) (.type "list") HH/\HH s.heap/\Value.ref p≠.builtin "__main__.__loader__#opaque" := fun ws' el=>by
   obtain ⟨vs,sq,rr⟩:=ab.seq el;obtain ⟨its,_,pl,_⟩:=I.list sq;obtain ⟨o,ho,hc,_⟩:=pl.isList;exact ⟨_,PySem.W.kitx_list,⟨o,ho,hc⟩,fun z=>nomatch z⟩
  split at ty
  .rename_i ws' eg;cases ty;exact lk ws' (by unfold yP;rw[eg])
  .rename_i ws' eg;cases ty;exact lk ws' (by unfold yP;rw[eg])
  .rename_i kvs eg;cases ty;obtain ⟨l,e',rl⟩:=ab.dic eg;obtain ⟨_,_,vs,_,o,_,_,e1,e2,_⟩:=(show xD X.prog X.w H s.heap p (.dK l) from I.hok p _ e');exact ⟨_,PySem.W.kitx_dict,⟨o,e1,e2.1⟩,fun z=>nomatch z⟩
  .cases ty
 |_=>cases ty
def zfU:List W->Option (List String)
 | []=>some []
 | .ty T::r=>(zfU r).map (T::·)
 |_=>none
theorem zcp {K:yJ} {H:Hp}:∀ {ws:List W} {Ts:List String} {vs:List V} {us:List Value},zfU ws=some Ts->zB K H ws vs->yZ vs us->us=Ts.map .type
 | [],Ts,vs,us,e,r,v=>by cases e;cases (show vs=[] from r);cases v;rfl
 |w::ws,Ts,vs,us,e,r,v=>by
  cases w with
  |ty T =>
   simp only[zfU] at e;obtain ⟨Ts',e',rfl⟩:=Zq.mp e;obtain ⟨x,tl,rfl,rx,rt⟩:=r;cases (show x=.ty T from rx)
   cases v with
   |cons a c =>
    cases (show _=Value.type T from a);rw[zcp e' rt c];rfl
  |_=>cases e
def isjS (K:yJ):RS:=fun ws G Q=>match ws with
 | [x,.ty T]=>∃ T' b,tyO G x=some T'/\PySem.W.kitOne K (.type T') (.type T)=some b/\Q (.bl b) G
 | [x,.tup ts]=>∃ T' b Ts,tyO G x=some T'/\zfU ts=some Ts/\PySem.W.kitAny K (.type T') (Ts.map .type)=some b/\Q (.bl b) G
 |_=>False
theorem zbf (K:yJ):qX (isjS K):=by
 intro ws G Q Q' k h;unfold isjS at h ⊢
 split at h
 .obtain ⟨T',b,e,e',h⟩:=h;exact ⟨T',b,e,e',k _ _ h⟩
 .obtain ⟨T',b,Ts,e,e',e2,h⟩:=h;exact ⟨T',b,Ts,e,e',e2,k _ _ h⟩
 .exact h.elim
theorem zlT {X:Cx}:vV X (.builtin "isinstance") (bL X.K (isjS X.K)):=by
 intro pins s σ H xs us Q I r h;obtain ⟨ws,G,rs,ab,h⟩:=h;unfold isjS at h
 split at h
 .rename_i w T;obtain ⟨v,y,rfl,rv,ry⟩:=zet rs;cases (show y=.ty T from ry);obtain ⟨u,c,rfl,ru,rc⟩:=zdV r;cases (show c=Value.type T from rc);obtain ⟨T',b,ty,e,h⟩:=h;obtain ⟨HH,kx,hp,hb⟩:=zly I ab rv ru ty;exact qI I.tk (PySem.W.kia_one kx I.kIn hp e hb fun tk h0=>⟨.bl b,H,I.tok _ h0,rfl,h _ H .refl rfl ab⟩)
 .rename_i w ts;obtain ⟨v,y,rfl,rv,ry⟩:=zet rs;obtain ⟨u,c,rfl,ru,rc⟩:=zdV r;obtain ⟨T',b,Ts,ty,et,e,h⟩:=h;obtain ⟨a,vs,rfl,sq,rr⟩:=ry;cases (show c=Value.ref a from rc);obtain ⟨its,vv,p,_⟩:=I.tuple sq;obtain ⟨⟨oc,od,dt,sl⟩,h1,h2,n,h3⟩:=p;cases (show oc=_ from h2);cases (show dt=_ from h3);have ei:=zcp et rr vv;subst ei;obtain ⟨HH,kx,hp,hb⟩:=zly I ab rv ru ty;exact qI I.tk (PySem.W.kia_tup kx I.kIn hp h1 e hb fun tk h0=>⟨.bl b,H,I.tok _ h0,rfl,h _ H .refl rfl ab⟩)
 .exact h.elim
abbrev eIsj (K:yJ):Fn3:=⟨"isinstance", fun ws G Q _=>isjS K ws G Q⟩
theorem zjL {q:Pr} {A:Around} (hm:q.mg "isinstance" = none):tU (q.at A) (eIsj q.K):=⟨zbj (id := "isinstance") hm (by decide +kernel) (fun X f=>by rw[← show X.K=q.K from f.K];exact zlT) (zbf _) (fun _ _ h=>h),fun ws G Q Q' _ k h=>zbf _ ws G Q Q' k h⟩
theorem zhx {q:Pr} {k:Nat} {M:MC} {nm qual:Str} {st:Stmt} {f:Addr} {fd:FuncData} {ps:List Str} {sp:Nat->vW} {body:ISs} {Γ:Fn3->Ctx3} (F:FunD q.K nm qual st .none f fd) (S:FnScope M.N ps (zZ st))
  (hm:q.mg nm=some (.ref f)) (hb:rM q.K fd ps []) (h0:∀ ws G Q,¬ sp 0 ws G Q XN) (len:∀ n ws G Q,sp n ws G Q XN->ws.length=ps.length) (mono:∀ n,rN ⟨nm,sp n⟩)
  (g:∀ n A,Room k A->tU (q.at A) ⟨nm,sp n⟩->Good (Γ ⟨nm,sp n⟩) (q.at A)) (eM:∀ n,MOk (Γ ⟨nm,sp n⟩) M (zZ st)) (look:qG body M (zK st)=true)
  (hbd:∀ n ws G Q,sp (n+1) ws G Q XN->zG (Γ ⟨nm,sp n⟩) XN body { nx:=fun _ G'=>Q .non G',rt:=Q } (yR M.N ws) G):∀ n,FnOk q.prog q.w q.K q.mg q.base CX0 (k+n) f fd ps (tX q.K (sp n))
 | 0=>⟨fun vs H Q E ⟨ws,G,_,_,h⟩=>absurd h (h0 _ _ _),fun A outer s H args us vs Q E _ _ _ _ ⟨ws,G,_,_,h⟩=>absurd h (h0 _ _ _),fun x _ _ A outer s H args us vs Q E _ _ _ _ ⟨ws,G,_,_,h⟩=>absurd h (h0 _ _ _)⟩
 |n+1=>nF (k:=k+n) F S (fun A hr=>g n A (hr.mono (Nat.le_add_right _ _)) (zb5 (zhx F S hm hb h0 len mono g eM look hbd n) hm F.kp hb (mono n) hr (zzR _))) (eM n) look (len (n+1)) (hbd n)
end L3
namespace L2
open PySem PySem.Spec PyProof.Rows
section
variable {a b:Bool} {z TI TO i1 i2 l1 l2:Addr}
theorem zp_go {P:Program} {w:World} {A:Around} {E:Value->Shared->Prop} {s:Shared} {tg:Expr} {u:Value} {i:Nat} {Q:Unit->Shared->Prop} (hd:[z,TI,TO,i1,i2].Nodup) (st:tP a b z TI TO i1 i2 l1 l2 i s.heap)
  (h:∀ h',tP a b z TI TO i1 i2 l1 l2 i h'->(∀ c o,c≠z->s.heap.get? c=some o->h'.get? c=some o)->Q () { s with heap:=h' }):wpAny (model P w) A (letOwnedTupleGo tg (.ref z) u) Q E s:=by
 have stay:Q () s:=h s.heap st fun _ _ _ e=>e
 have core:wpAny (model P w) A (do
   let (.ref r,.ref t):=(Value.ref z,u)|return
   let o ← load r
   match o.cls,o.data with
   | .type n,.fields vs =>
    if ["enumerate", "zip", "dict_itemiterator", "dict_reverseitemiterator", "odict_iterator", "itertools.zip_longest", "itertools.pairwise"].contains n&&vs[0]?==some (rawInt t) then
     rule "for.unpacks-the-owned-tuple"
     updateField r 0 .none
   |_,_=>pure ()) Q E s:=by
  cases u with
  |ref t =>
   obtain ⟨f0,f1,hz,h0,h1,hTI,⟨p,q,hTO⟩,s1,s2⟩:=st;refine Zb (wpAny_load hz ?_);dsimp only
   split
   .refine Zb (wpAny_rule ?_);show wpAny _ _ (setField (.ref z) 0 .none) Q E s;refine wpAny_setField_rec hz (by simp) fun h' hz' hs'=>h h' ⟨.none,f1,hz',.inl rfl,h1,?_,⟨p,q,?_⟩,s1.at ?_,s2.at ?_⟩ fun c o hc e=>(hs'.2 c hc).trans e
    all_goals simp only[Zat,Zd,ZB,or_false,not_or,Zb2,not_false_eq_true,and_true] at hd
    .exact (hs'.2 _ (Ne.symm hd.1.1)).trans hTI
    .exact (hs'.2 _ (Ne.symm hd.1.2.1)).trans hTO
    .exact fun o e=>(hs'.2 _ (Ne.symm hd.1.2.2.1)).trans e
    .exact fun o e=>(hs'.2 _ (Ne.symm hd.1.2.2.2)).trans e
   .exact Zg stay
  |_=>exact Zg stay
 cases tg with
 |Tuple es x p=>exact core
 |List es x=>exact core
 |_=>exact Zg stay
theorem zib (P:Program) (w:World) (K:PySem.W.Frag) (tg:Expr) (hd:[z,TI,TO,i1,i2].Nodup) (n1:l1∉[z,TI,TO,i1,i2]) (n2:l2∉[z,TI,TO,i1,i2]):Turn P w K tg (Itz a b K l1 l2) [z,TI,TO,i1,i2] z (tP a b z TI TO i1 i2 l1 l2) where
 mem:=by simp
 obj:=fun i h x=>x.obj
 keep:=fun i h h' x k=>x.keep k
 item:=by
  intro X e1 e2 e3 hc i pins s σ H E I hf st go;subst e1;subst e2;subst e3;refine xY (zic (I.ok.hd hc) hd n1 n2 I hf st go) fun r s2 ⟨u,x,H',q1,q2,q3,q4,q5,_,q6⟩=>⟨u,q1,zp_go hd q5 fun h' st' k=>⟨x,H',?_,q3,q4,st',q6⟩⟩;refine q2.turns (t':=s2.toks) (fp:=[z]) (fun c hcz=>?_) fun c o hcz e=>k c o (fun z=>hcz (by rw[z];simp)) e;rw[Z1] at hcz;subst hcz;obtain ⟨_,f2,f3,f4,f5,f6⟩:=hf c (by simp);exact ⟨q6 c (by simp),f2,f3,f4,f5,f6⟩
 done:=by
  intro X e1 e2 e3 hc i pins s σ H E I hf st stop;subst e1;subst e2;subst e3;exact zif (I.ok.hd hc) hd n1 n2 I hf st stop
 self:=fun A i s Q E st h=>zdN st h
end
end L2
namespace L3
open PySem PySem.Spec PyProof.Rows L2 PySem.SeqAt
def zipI (ws:List W) (G:Hw) (R:List W->(Hw->Prop)->Hw->Prop):Prop:=match ws with
 | [x,y]=>∃ xs ys,qH G x=some xs/\qH G y=some ys/\R (List.zipWith (fun a b=>W.tup [a,b]) xs ys) (fun G'=>qH G' x=some xs/\qH G' y=some ys) G
 |_=>False
theorem zdO:zbz ⟨"zip", zipI⟩:=by
 intro ws G R R' k h;replace h:zipI ws G R:=h;show zipI ws G R';unfold zipI at h ⊢
 split at h
 .obtain ⟨xs,ys,e1,e2,h⟩:=h;exact ⟨xs,ys,e1,e2,k _ _ _ h⟩
 .exact h.elim
def bOf (w:W):Bool:=match w with|.tup _=>true|_=>false
theorem mR {K:yJ} {H1 H:Hp} {G1 G:Hw} {w:W} {a:Addr} {vs:List V} {b:Bool} {xs:List W} (g:yK K H1 H) (ab:xP K H G) (r1:xT K H1 w (.ref a)) (b1:qH G1 w=some xs) (sq1:SqB b K H1 a vs) (hb:b=bOf w) (st:qH G w=some xs) (rr1:zB K H1 xs vs) :
  ∃ vs',SqB b K H a vs'/\zB K H xs vs':=by
 cases w with
 |tup ws =>
  subst hb;exact ⟨vs,g.1 _ _ sq1,rr1.mono g⟩
 |ref p =>
  subst hb;cases (show V.ref a=.ref p from r1);obtain ⟨vs',sq,rr⟩:=ab.seq st;exact ⟨vs',sq,rr⟩
 |_=>cases b1
theorem dD {K:yJ} {H:Hp} {G:Hw} {w:W} {v:V} {xs:List W} (ab:xP K H G) (r:xT K H w v) (e:qH G w=some xs):∃ a vs,v=.ref a/\SqB (bOf w) K H a vs/\zB K H xs vs:=by
 cases w with
 |tup ws =>
  obtain ⟨a,vs,rfl,sq,rr⟩:=r;cases e;exact ⟨a,vs,rfl,sq,rr⟩
 |ref p =>
  cases (show v=.ref p from r);obtain ⟨vs,sq,rr⟩:=ab.seq e;exact ⟨p,vs,rfl,sq,rr⟩
 |_=>cases e
theorem zlL {K:yJ} {H1:Hp} {G1:Hw} {x y:W} {a1 a2:Addr} {vx vy:List V} {xs ys:List W} (rx:xT K H1 x (.ref a1)) (ry:xT K H1 y (.ref a2)) (ex:qH G1 x=some xs) (ey:qH G1 y=some ys) (sx:SqB (bOf x) K H1 a1 vx) (sy:SqB (bOf y) K H1 a2 vy)
  (rrx:zB K H1 xs vx) (rry:zB K H1 ys vy):ItIs K (Itz (bOf x) (bOf y) K a1 a2) H1 (List.zipWith (fun a b=>W.tup [a,b]) xs ys) (fun G'=>qH G' x=some xs/\qH G' y=some ys) where
 go:=fun i H G g ab st hi=>by
  obtain ⟨vx',sx',rx'⟩:=mR g ab rx ex sx rfl st.1 rrx;obtain ⟨vy',sy',ry'⟩:=mR g ab ry ey sy rfl st.2 rry;have h1:=rx'.length;have h2:=ry'.length;rw[Zay] at hi;exact ⟨vx',vy',vx'[i]'(by omega),vy'[i]'(by omega),sx',sy',Zj _,Zj _⟩
 yld:=fun i H G v H' g ab st hi yl=>by
  obtain ⟨vx',sx',rx'⟩:=mR g ab rx ex sx rfl st.1 rrx;obtain ⟨vy',sy',ry'⟩:=mR g ab ry ey sy rfl st.2 rry;obtain ⟨p,x',y',rfl,hp,rfl,e2,e3⟩:=yl;have e2:=e2 vx' sx';have e3:=e3 vy' sy';obtain ⟨wx,ewx,rpx⟩:=rx'.get' e2;obtain ⟨wy,ewy,rpy⟩:=ry'.get' e3;have gr:yK K H (xC H p (.tup [x',y'])):=wP hp;refine ⟨.tup [wx,wy],?_,gr,⟨p,[x',y'],rfl,.of wN,⟨_,_,rfl,rpx.mono gr,_,_,rfl,rpy.mono gr,rfl⟩⟩,ab.tup hp⟩;rw[Zbd,ewx,ewy]
 stop:=fun i H G g ab st hi=>by
  obtain ⟨vx',sx',rx'⟩:=mR g ab rx ex sx rfl st.1 rrx;obtain ⟨vy',sy',ry'⟩:=mR g ab ry ey sy rfl st.2 rry;have h1:=rx'.length;have h2:=ry'.length;rw[Zay] at hi;refine ⟨vx',vy',sx',sy',?_⟩
  by_cases hl:xs.length<=ys.length
  .left;rw[Zbb];omega
  .right;rw[Zbb];omega
theorem zlR {q:Pr} {A:Around} (hm:q.mg "zip" = none):ItE (q.at A) ⟨"zip", zipI⟩:=by
 intro X fits gl tg args t qp pos mt hn pa hnil hdb hnm;have hm':X.mg "zip" = none:=by rw[fits.mg];exact hm
 intro pins s σ H R I h
 cases args with
 |nil =>
  obtain ⟨σ3,G,hs,ab,h⟩:=h;exact (hnil rfl _ _ _ h).elim
 |cons a r =>
  obtain ⟨s1,s2⟩:=wS (env:=X.env) (pos:=pos) hn;obtain ⟨σ3,G,hs,ab,h⟩:=h
  have h':=gC (S:=fun vs H1=>∃ x y a1 a2 vx vy,vs=[.ref a1,.ref a2]/\SqB (bOf x) X.K H1 a1 vx/\SqB (bOf y) X.K H1 a2 vy/\R (Itz (bOf x) (bOf y) X.K a1 a2) H1) mt hs ab h fun ws G1 vs H1 g1 hs1 rs a1 h=>by
   dsimp only at h;unfold zipI at h
   split at h
   .rename_i x y;obtain ⟨v1,v2,rfl,r1,r2⟩:=zet rs;obtain ⟨xs,ys,ex,ey,h⟩:=h;obtain ⟨p1,vx,rfl,sx,rx⟩:=dD a1 r1 ex;obtain ⟨p2,vy,rfl,sy,ry⟩:=dD a1 r2 ey;exact ⟨x,y,p1,p2,vx,vy,rfl,sx,sy,h _ H1 g1 a1 (zlL r1 r2 ex ey sx sy rx ry)⟩
   .exact h.elim
  refine Call_ (pW I gl hm' (by decide +kernel:bootBuiltins "zip" = some (.type "zip")) (Z2 (xY (pa pos pins s σ H _ I h') fun us s1 ⟨vs,H1,I1,r1,q1⟩=>?_) s1 s2));obtain ⟨x,y,a1,a2,vx,vy,e,sx,sy,q⟩:=q1;subst e;obtain ⟨u1,u2,rfl,ru1,ru2⟩:=zdV r1;cases (show u1=Value.ref a1 from ru1);cases (show u2=Value.ref a2 from ru2);obtain ⟨itx,vvx,ssx,hzx⟩:=I1.sqB sx;obtain ⟨ity,vvy,ssy,hzy⟩:=I1.sqB sy
  have lt1:a1<s1.heap.objs.size:=by
   cases hb:bOf x<;>rw[hb] at ssx<;>(obtain ⟨o,ho,_⟩:=ssx;exact Zi ho)
  have lt2:a2<s1.heap.objs.size:=by
   cases hb:bOf y<;>rw[hb] at ssy<;>(obtain ⟨o,ho,_⟩:=ssy;exact Zi ho)
  refine zjX ssx ssy fun h' z1 z2 z3 z4 z5 z6 z7=>?_;have I2:Inv X pins σ H1 { s1 with heap:=h',toks:=s1.toks }:=I1.kept z7;have hd:=zdy s1.heap.objs.size;have n1:=zcY _ _ lt1;have n2:=zcY _ _ lt2;have hf:∀ b∈[s1.heap.objs.size+4,s1.heap.objs.size+2,s1.heap.objs.size+3,s1.heap.objs.size,s1.heap.objs.size+1],uB X pins H1 b:=fun b hb=>I1.fpOk (zfi _ _ hb) (I1.hok.fresh (zfi _ _ hb));have st:tP (bOf x) (bOf y) (s1.heap.objs.size+4) (s1.heap.objs.size+2) (s1.heap.objs.size+3) s1.heap.objs.size (s1.heap.objs.size+1) a1 a2 0 h':=⟨.none,.bool false,z1,.inl rfl,.inl rfl,z2,⟨_,_,z3⟩,z4,z5⟩;refine zdN st ⟨_,_,_,_,H1,rfl,I2,zib X.prog X.w X.K tg hd n1 n2,st,hf,q⟩
abbrev eZpi:It3:=⟨"zip", zipI⟩
theorem zjD {q:Pr} {A:Around} (hm:q.mg "zip" = none):ItE (q.at A) eZpi/\zbz eZpi:=⟨zlR hm,zdO⟩
def KOk {α:Type} (n:Nat) (R:α->Prop):PySem.W.KasT α->Prop
 | .ret a=>R a
 | .ask i j k=>i<n/\j<n/\∀ b,KOk n R (k b)
theorem KOk.bnd {α β:Type} {n:Nat} {R:α->Prop} {R':β->Prop} {f:α->PySem.W.KasT β} (hf:∀ a,R a->KOk n R' (f a)):∀ {t:PySem.W.KasT α},KOk n R t->KOk n R' (t.bind f)
 | .ret a,h=>hf a h
 | .ask i j k,h=>⟨h.1,h.2.1,fun b=>KOk.bnd hf (h.2.2 b)⟩
def krun {α:Type} (lt:Nat->Nat->Bool):PySem.W.KasT α->α
 | .ret a=>a
 | .ask i j k=>krun lt (k (lt i j))
theorem zeZ {α:Type} {n:Nat} {R:α->Prop} (lt:Nat->Nat->Bool):∀ {t:PySem.W.KasT α},KOk n R t->R (krun lt t)
 | .ret a,h=>h
 | .ask i j k,h=>by
  show R (krun lt (k (lt i j)));exact zeZ lt (h.2.2 (lt i j))
theorem zhQ {α:Type} {n:Nat} {R:α->Prop} {lt:Nat->Nat->Bool} {cmp:Nat->Nat->(Bool->Shared->Prop)->Shared->Prop} {Q:α->Shared->Prop} {s:Shared} (hc:∀ i j C,i<n->j<n->C (lt i j) s->cmp i j C s) :
  ∀ {t:PySem.W.KasT α},KOk n R t->Q (krun lt t) s->t.kasWp cmp Q s
 | .ret a,_,h=>h
 | .ask i j k,o,h=>hc i j _ o.1 o.2.1 (zhQ hc (o.2.2 _) h)
def Pm (n:Nat) (p:Array Nat):Prop:=p.Perm (List.toArray (List.range n))
theorem Pm.lt {n:Nat} {p:Array Nat} (h:Pm n p) (hn:0<n) (i:Nat):p.getD i 0<n:=by
 by_cases hi:i<p.size
 .have e:p.getD i 0=p[i]:=by simp[Array.getD,hi]
  rw[e];have hm:p[i]∈p.toList:=by simp
  have:=(Array.perm_iff_toList_perm.mp h).mem_iff.mp hm;simpa using this
 .have e:p.getD i 0=0:=by simp[Array.getD,hi]
  rw[e];exact hn
theorem Pm.rev {n:Nat} {p:Array Nat} (h:Pm n p) (i j:Nat):Pm n (PySem.W.kas_rev p i j):=(mirror_perm p i j _).trans h
section
variable {n:Nat} {p:Array Nat}
theorem zfM (hn:0<n) (h:Pm n p):∀ f m,KOk n (fun _=>True) (PySem.W.kas_asc p f m)
 | 0,m=>True.intro
 |f+1,m=>⟨h.lt hn _,h.lt hn _,fun b=>by
  cases b
  .exact zfM hn h f (m+1)
  .exact True.intro⟩
theorem dY (hn:0<n):∀ f (p:Array Nat) m q,Pm n p->KOk n (fun r=>Pm n r.1) (PySem.W.kas_desc f p m q)
 | 0,p,m,q,h=>h
 |f+1,p,m,q,h=>⟨h.lt hn _,h.lt hn _,fun b=>by
  cases b
  .refine ⟨h.lt hn _,h.lt hn _,fun d=>?_⟩;cases d
   .exact dY hn f p _ _ h
   .exact h
  .simp only[if_true]
   split
   .exact dY hn f _ _ _ (h.rev _ _)
   .exact dY hn f p _ _ h⟩
theorem zcs (hn:0<n) (h:Pm n p) (m r:Nat):KOk n (fun x=>Pm n x.2) (PySem.W.kas_tail3 m r p):=by
 refine KOk.bnd (fun a _=>?_) (zfM hn (h.rev _ _) _ _);exact h.rev _ _
theorem gE (hn:0<n) (h:Pm n p) (m r:Nat):KOk n (fun x=>Pm n x.2) (PySem.W.kas_descPart m r p):=by
 refine KOk.bnd (fun a ha=>?_) (dY hn _ _ _ _ h)
 split
 .exact zcs hn (ha.rev _ _) _ _
 .exact zcs hn ha _ _
theorem zhi (hn:0<n) (h:Pm n p) (r:Nat):KOk n (fun x=>Pm n x.2) (PySem.W.kas_count r p):=by
 refine KOk.bnd (fun a _=>?_) (zfM hn h _ _)
 split
 .exact h
 .split
  .refine ⟨h.lt hn _,h.lt hn _,fun b=>?_⟩;cases b
   .exact gE hn (h.rev _ _) _ _
   .exact h
  .exact gE hn h _ _
theorem cP (hn:0<n) (h:Pm n p) (k:Nat):∀ f l r,KOk n (fun _=>True) (PySem.W.kas_place p k f l r)
 | 0,l,r=>True.intro
 |f+1,l,r=>by
  show KOk n _ (if l>=r then _ else _)
  split
  .exact True.intro
  .refine ⟨h.lt hn _,h.lt hn _,fun b=>?_⟩;cases b
   .exact cP hn h k f _ _
   .exact cP hn h k f _ _
theorem zfG (hn:0<n):∀ f (p:Array Nat) k,Pm n p->KOk n (Pm n) (PySem.W.kas_bin f p k)
 | 0,p,k,h=>h
 |f+1,p,k,h=>KOk.bnd (fun l _=>zfG hn f _ _ ((bubble_perm p k _).trans h)) (cP hn h k k 0 k)
theorem zeh (hn:0<n):KOk n (Pm n) (PySem.W.kas_sort n):=by
 refine KOk.bnd (fun r hr=>?_) (zhi hn (Array.Perm.refl _) n)
 split
 .exact zfG hn _ _ _ hr
 .exact hr
end
def srtP (n:Nat) (lt:Nat->Nat->Bool):List Nat:=if n<2 then List.range n else (krun lt (PySem.W.kas_sort n)).toList
theorem mW (n:Nat) (lt:Nat->Nat->Bool):(srtP n lt).Perm (List.range n):=by
 unfold srtP
 split
 .exact List.Perm.refl _
 .exact Array.perm_iff_toList_perm.mp (zeZ lt (zeh (by omega)))
theorem kC {α:Type} (d:α) (l:List α):(List.range l.length).map (fun i=>l.getD i d)=l:=by
 apply List.ext_getElem
 .simp
 .intro i h1 h2;simp[h2]
def LtAt (A:Around) (s:Shared) (y x:Value) (b:Bool):Prop :=
 ∀ (prog:Program) (w:World) (E:Value->Shared->Prop) (Q:Value->Shared->Prop),Q (.bool b) s->wpAny (model prog w) A (richCompare .Lt y x) Q E s
def Lx (A:Around) (s:Shared) (fin:Bool):List (Value×Value)->Bool->Prop
 | [],v=>v=fin
 | (p,q)::r,v=>∃ e:Bool,EqAt A s p q e/\if e=true then Lx A s fin r v else LtAt A s p q v
theorem zdh (l b:Addr) (xs ys:Array Value) (n m:Nat) (d1 d2:Option Addr) (s1 s2:Array (Option Value)) (v:Bool) :
  Meets (Builtin.«tuple.__lt__» ⟨[.ref l,.ref b],[]⟩) (fun A R s=>s.heap.get? l=some { cls:=.type "tuple", dict:=d1,data:=.seq xs n,slots:=s1 }/\s.heap.get? b=some { cls:=.type "tuple", dict:=d2,data:=.seq ys m,slots:=s2 } /\
    Lx A.in1 s (decide (xs.size<ys.size)) (xs.toList.zip ys.toList) v/\R (.ok (.ret (.bool v))) s) :=
 .of_wp fun prog w A R s h=>by
  obtain ⟨hp,g,d,tk,os⟩:=s;obtain ⟨hl,hb,he,h⟩:=h;have f2:=ZaR
  wp_walk using ZN hl,ZN hb,wpAny_forIn_list _ (fun rest b s'=>b.1=none/\s'=⟨hp,g,d,tk,os⟩/\Lx A.in1 ⟨hp,g,d,tk,os⟩ (decide (xs.size<ys.size)) rest v) _
  case turn =>
   rintro ⟨y,x⟩ rest b s' ⟨hb',rfl,e,he,hr⟩;refine Zb (he prog w _ _ ?_)
   cases e with
   |true =>
    wp_walk
    exact ⟨rfl,rfl,by simpa using hr⟩
   |false =>
    have hr:LtAt A.in1 ⟨hp,g,d,tk,os⟩ y x v:=by simpa using hr
    have hr':∀ (E:Value->Shared->Prop) (Q:Value->Shared->Prop),Q (.bool v) ⟨hp,g,d,tk,os⟩->wpAny (model prog w) A.in1 (richCompare .Lt y x) Q E ⟨hp,g,d,tk,os⟩:=hr prog w
    repeat (first|with_reducible refine hr' _ _ ?_|wp_step)
    exact ⟨_,rfl,h⟩
  case fin =>
   rintro ⟨b1,b2⟩ s' ⟨hb',rfl,hz⟩;simp only at hb';subst hb';have hz:v=decide (xs.size<ys.size):=hz;subst hz
   wp_walk
   exact ⟨_,rfl,by simpa[Builtin.Tuple.tupleCompareSizes] using h⟩
  case h=>exact ⟨rfl,rfl,he⟩
mutual
def ltW:W->W->Option Bool
 | .str x,.str y=>some (decide (x.cps.toList<y.cps.toList))
 | .tup xs,.tup ys=>mD xs ys
 |_,_=>none
def mD:List W->List W->Option Bool
 | [],[]=>some false
 | [],_::_=>some true
 |_::_,[]=>some false
 |x::xs,y::ys=>if kY x y=true then mD xs ys else ltW x y
end
section
variable {X:Cx} {pins:List (Addr×Obj)} {σ:L2.St} {H:Hp} {s:Shared}
def LtOk (X:Cx) (H:Hp) (s:Shared) (x:W):Prop:=∀ (y:W) (v v':V) (u u':Value) (A:Around) (b:Bool),xT X.K H x v->yW v u->xT X.K H y v'->yW v' u'->pur x=true->pur y=true->A.units+min (dep x) (dep y)<cLine->ltW x y=some b->LtAt A s u u' b
theorem zgF (I:Inv X pins σ H s):∀ (xs ys:List W) (vs vs':List V) (us us':List Value) (A:Around) (b:Bool),(∀ x∈xs,LtOk X H s x)->zB X.K H xs vs->yZ vs us->zB X.K H ys vs'->yZ vs' us'->wC xs=true->wC ys=true ->
  A.units+min (deps xs) (deps ys)<cLine->mD xs ys=some b->Lx A s (decide (us.length<us'.length)) (us.zip us') b
 | [],[],vs,vs',us,us',A,b,_,h,r,h',r',_,_,_,e=>by
  rw[show _=[] from h] at r;cases r;rw[show _=[] from h'] at r';cases r';cases e;rfl
 | [],y::ys,vs,vs',us,us',A,b,_,h,r,h',r',_,_,_,e=>by
  rw[show _=[] from h] at r;cases r;have l1:=h'.length;have l2:=r'.length;cases e;show true=decide (0<us'.length);rw[← l2,l1];rfl
 |x::xs,[],vs,vs',us,us',A,b,_,h,r,h',r',_,_,_,e=>by
  rw[show _=[] from h'] at r';cases r';cases e;rw[List.zip_nil_right];show false=decide (us.length<0);rfl
 |x::xs,y::ys,vs,vs',us,us',A,b,ok,h,r,h',r',px,py,hu,e=>by
  obtain ⟨v,t,e1,h,hs⟩:=h;obtain ⟨v',t',e2,h',hs'⟩:=h';subst e1;subst e2
  cases r with
  |cons r rs =>
   cases r' with
   |cons r' rs' =>
    have px:=xR.mp px;have py:=xR.mp py;simp only[deps] at hu;rw[Zan];refine ⟨kY x y,zfo I x y _ _ _ _ A h r h' r' px.1 py.1 (by omega),?_⟩;simp only[mD] at e
    cases q:kY x y with
    |true =>
     rw[q,if_pos rfl] at e;rw[if_pos rfl];have:=zgF I xs ys _ _ _ _ A b (fun z hz=>ok z (Zc _ hz)) hs rs hs' rs' px.2 py.2 (by omega) e;simpa using this
    |false =>
     rw[q,if_neg zzN] at e;rw[if_neg zzN];exact ok x zzT y _ _ _ _ A b h r h' r' px.1 py.1 (by omega) e
theorem zhM (I:Inv X pins σ H s):∀ x:W,LtOk X H s x:=by
 intro x
 induction x using W.ind with
 |tup xs ih =>
  intro y v v' u u' A b h r h' r' hx hy hu e;obtain ⟨a,vs,its,rfl,rfl,q,rs,vr,it,_⟩:=xW I h r
  cases y with
  |tup ys =>
   obtain ⟨c,us,its',rfl,rfl,q',rs',vr',it',_⟩:=xW I h' r';obtain ⟨⟨cls,dd,data,sl⟩,ho,hc,n,hd⟩:=it;obtain ⟨⟨cls2,dd2,data2,sl2⟩,ho2,hc2,n2,hd2⟩:=it';simp only at hc hd hc2 hd2;subst hc hd hc2 hd2;simp only[dep] at hu;intro prog w E Q hq;refine richCompare_meets_room (op:=.Lt) ⟨_,ho,rfl⟩ ⟨_,ho2,rfl⟩ F.slot_tuple_lt F.entry_tuple_lt (F.args_tuple_lt_2 _ _) (zdh a c its.toArray its'.toArray n n2 dd dd2 sl sl2 b) ⟨ho,ho2,?_,show Value.bool b≠Value.notImplemented/\Q (.bool b) s from ⟨(fun x=>nomatch x),hq⟩⟩ (by omega);have:=zgF I xs ys _ _ _ _ A.in1 b ih rs vr rs' vr' hx hy (by show A.units+1+_<_;omega) e;simpa using this
  |_=>cases e
 |str x =>
  intro y v v' u u' A b h r h' r' hx hy hu e;cases (show v=.str x from h);obtain ⟨t,rfl⟩:=r
  cases y with
  |str z =>
   cases (show v'=.str z from h');obtain ⟨t',rfl⟩:=r';cases e;exact fun prog w E Q hq=>PyProof.Rows.lt_str hq
  |_=>cases e
 |_=>intro y v v' u u' A b _ _ _ _ _ _ _ e;cases e
end
section
variable {prog:Program} {w:World} {A:Around} {E:Value->Shared->Prop} {s:Shared} {D:Addr} {vs:List Value} {κ:SortKind} {lt:Nat->Nat->Bool}
def But (D:Addr) (h h':Heap):Prop:=∀ b o,b≠D->h.get? b=some o->h'.get? b=some o
def rQ (vs:List Value) (lt:Nat->Nat->Bool):List Value:=(srtP vs.length lt).map fun i=>vs.getD i Value.none
theorem zeB (vs:List Value) (lt:Nat->Nat->Bool):(rQ vs lt).length=vs.length:=by
 unfold rQ;rw[zzM,(mW _ _).length_eq,ZbK]
structure Asks (prog:Program) (w:World) (A:Around) (s:Shared) (D:Addr) (vs:List Value) (κ:SortKind) (lt:Nat->Nat->Bool):Prop where
 kind:∀ (h':Heap) (C:SortKind->Shared->Prop),2<=vs.length->But D s.heap h'->C κ { s with heap:=h' }->wpAny (model prog w) A (keyKind' vs.toArray) C (fun _ _=>False) { s with heap:=h' }
 ask:∀ (h':Heap) (i j:Nat) (C:Bool->Shared->Prop),But D s.heap h'->i<vs.length->j<vs.length->C (lt i j) { s with heap:=h' }->PySem.W.kas_ask prog w A κ vs i j C { s with heap:=h' }
theorem zgG {n:Nat} {P:PySem.Fin->Shared->Prop} (ho:s.heap.get? D=some (seqObj "list" vs.toArray n)) (h64:vs.length<64) (q:Asks prog w A s D vs κ lt)
  (h:∀ h' m,But D s.heap h'->h'.get? D=some (seqObj "list" (rQ vs lt).toArray m)->P (.done (.ret .none)) { s with heap:=h' }):wpAny (model prog w) A (Builtin.«list.sort» ⟨[.ref D],[]⟩) P E s:=by
 have hD:D<s.heap.objs.size:=Zi ho;have big:(64:Nat)<=sizeLine:=by rw[ZI];decide
 have sz:vs.toArray.size=vs.length:=List.size_toArray;obtain ⟨e1,ho1⟩:∃ e1,(s.heap.update D (Obj.mapSeq fun _=>(#[]:Array Value))).get? D=some (seqObj "list" #[] e1):=⟨_,get?_update_seq ho fun _=>#[]⟩;rw[list_sort_plain];refine Zb (listItems_at ho rfl (Zb (listUpdate_at ho rfl (Zb (seqEpoch_at ho1 rfl ?_)) (by rw[sz];omega) (ZS _))));refine Zb (wpAny_newTuple (Zb (wpAny_newList (ZK ?_) (ZS _))) (by show vs.length<=_;omega));generalize hh:((s.heap.update D (Obj.mapSeq fun _=>(#[]:Array Value))).push { cls:=.type "tuple", data:=.seq vs.toArray.toList.toArray }).push { cls:=.type "list", data:=.seq ([]:List Value).toArray }=h6
 have k6:But D s.heap h6:=fun b o hb e=>by
  rw[← hh];exact Za _ (Za _ ((ZW _ _ (Ne.symm hb)).trans e))
 have hD6:h6.get? D=some (seqObj "list" #[] e1):=by rw[← hh];exact Za _ (Za _ ho1)
 have fin:∀ (st:SortSt),failedOf st=none->(arrOf st).map (·.2)=(rQ vs lt).toArray->wpAny (model prog w) A (do
   let touched:=(← seqEpoch D) != e1
   Builtin.List.listUpdate (.ref D) fun _=>(arrOf st).map (·.2)
   if let some e:=failedOf st then rule "list.sort.comparison-raised"; throw e
   if touched then rule "list.sort.modified"; raiseError "ValueError" "list modified during sort"
   ret .none) P E { s with heap:=h6 }:=fun st hf hout=>by
  refine Zb (seqEpoch_at hD6 rfl (Zb (listUpdate_at hD6 rfl ?_ (ZS _) (by rw[hout,zzS,zeB];omega))));rw[hf,hout];simp only[bne_self_eq_false,zzB,if_false];refine Zg (h _ _ (fun b o hb e=>(ZW _ _ (Ne.symm hb)).trans (k6 b o hb e)) (get?_update_seq hD6 _))
 dsimp only
 by_cases h2:vs.toArray.size<2
 .rw[if_pos h2,if_pos h2];refine Zb (Zg ?_);rw[StateT.run_pure];refine Zb (Zg (fin _ rfl ?_));have hlt:vs.length<2:=by omega
  unfold rQ srtP;rw[if_pos hlt,kC];show ((vs.toArray.zip vs.toArray).map (·.2))=vs.toArray;apply Array.toList_inj.mp;simp only[Array.toList_map,Array.toList_zip];exact List.map_snd_zip (zzR _)
 .rw[if_neg h2,if_neg h2];have h2':2<=vs.length:=by omega
  refine Zb (Zaa (q.kind h6 _ h2' k6 ?_) (fun _ _ z=>z) fun _ _ z=>z.elim)
  refine Zb (Zaa (PySem.W.kat_run (Q:=fun st' s'=>s'={ s with heap:=h6 }/\failedOf st'=none/\(arrOf st').map (·.2)=(rQ vs lt).toArray)
   (G:=fun p s'=>s'={ s with heap:=h6 }/\p=krun lt (PySem.W.kas_sort vs.length)) rfl h2' h64 (fun p st' s' _ har hf hg=>⟨hg.1,hf,?_⟩) ?_) (fun r s' z=>?_) fun _ _ z=>z)
  .rw[PySem.W.kat_snds rfl har,hg.2];unfold rQ srtP;rw[if_neg (by omega)]
  .exact zhQ (lt:=lt) (fun i j C hi hj hc=>q.ask h6 i j C k6 hi hj hc) (zeh (by omega)) ⟨rfl,rfl⟩
  .obtain ⟨⟨⟩,st'⟩:=r;obtain ⟨rfl,hf,hout⟩:=z;exact fin st' hf hout
def zdL (h h':Heap):Prop:=∀ b o,h.get? b=some o->h'.get? b=some o
theorem zeg {l:Addr} {o:Obj} {T:String} {n:Nat} {Q:Value->Shared->Prop} (hT:T = "list" \/ T = "tuple") (ho:s.heap.get? l=some o) (hc:o.cls=.type T) (hd:o.data=.seq vs.toArray n) (h64:vs.length<64)
  (kind:∀ (h':Heap) (C:SortKind->Shared->Prop),2<=vs.length->zdL s.heap h'->C κ { s with heap:=h' }->wpAny (model prog w) A.in1.in1 (keyKind' vs.toArray) C (fun _ _=>False) { s with heap:=h' })
  (ask:∀ (h':Heap) (i j:Nat) (C:Bool->Shared->Prop),zdL s.heap h'->i<vs.length->j<vs.length->C (lt i j) { s with heap:=h' }->PySem.W.kas_ask prog w A.in1.in1 κ vs i j C { s with heap:=h' })
  (h:∀ (h1 h':Heap) (m:Nat),zdL s.heap h1->zdL h1 h'->h'.get? h1.objs.size=some (seqObj "list" (rQ vs lt).toArray m)->Q (.ref h1.objs.size) { s with heap:=h' }) :
  wpAny (model prog w) A (call (.builtin "sorted") [.ref l]) Q E s:=by
 have big:(64:Nat)<=sizeLine:=by rw[ZI];decide
 refine Calls.call_function_entry kind_sorted plain_sorted entry_sorted (args_sorted1 _) ?_;unfold Builtin.«sorted»;refine Zb (m:=checkCount "sorted" 1 1 _) (Zg (Zb (wpAny_collect_seq l hT ho hc hd (fun h1 k1=>?_) (by rw[zzS];omega))));refine Zb (wpAny_newList ?_ (by show vs.length<=_;omega));have hL:(h1.push (seqObj "list" vs.toArray 0)).get? h1.objs.size=some (seqObj "list" vs.toArray 0):=Zk _ rfl;have up:∀ h',But h1.objs.size (h1.push (seqObj "list" vs.toArray 0)) h'->zdL h1 h':=fun h' k b o e=>k b o (Zr (Zi e)) (Za _ e);show wpAny _ _ _ _ _ { s with heap:=h1.push (seqObj "list" vs.toArray 0) };refine Zb (ZK (ZY slot_list_sort ⟨_,hL,rfl⟩ entry_list_sort (zgG (κ:=κ) (lt:=lt) hL h64 ⟨fun h' C h2 k c=>?_,fun h' i j C k hi hj c=>?_⟩ fun h' m k hm=>⟨_,rfl,?_⟩) (args_list_sort _)))
 .exact kind h' C h2 (fun b o e=>up h' k b o (k1 b o e)) c
 .exact ask h' i j C (fun b o e=>up h' k b o (k1 b o e)) hi hj c
 .exact Zg ⟨_,rfl,h h1 h' m k1 (up h' k) hm⟩
end
def bM (x y:W):Bool:=(ltW x y).getD false
def srt (ws:List W):List W:=(srtP ws.length fun i j=>bM (ws.getD i .non) (ws.getD j .non)).map fun i=>ws.getD i .non
theorem zf4 (ws:List W):(srt ws).Perm ws:=by
 have:=(mW ws.length fun i j=>bM (ws.getD i .non) (ws.getD j .non)).map fun i=>ws.getD i .non
 rwa[kC] at this
def hdT:W->Option String
 | .tup (.str _::_)=>some "str"
 | .tup (.tup _::_)=>some "tuple"
 |_=>none
structure Srtb (ws:List W):Prop where
 pure:wC ws=true
 lt:∀ x∈ws,∀ y∈ws,(ltW x y).isSome=true
 few:ws.length<64
 deep:deps ws<60
 hd:∃ T,∀ x∈ws,hdT x=some T
def zei:RS:=fun ws G Q=>match ws with
 | [x]=>∃ xs,qH G x=some xs/\Srtb xs/\∀ r,G r=none->Q (.ref r) (put G r (.lst (srt xs)))
 |_=>False
theorem dG:qX zei:=by
 intro ws G Q Q' k h;unfold zei at h ⊢
 split at h
 .obtain ⟨xs,e1,e2,h⟩:=h;exact ⟨xs,e1,e2,fun p hp=>k _ _ (h p hp)⟩
 .exact h.elim
section
variable {prog:Program} {w:World} {A:Around} {s:Shared} {b fin v:Bool} {C:Bool->Shared->Prop}
theorem ze0:∀ (l:List (Value×Value)) (i:Nat),(b&&i==0)=false->Lx A s fin l v->C v s->PySem.W.KatLex prog w A b fin C l i s
 | [],i,_,h,c=>by cases (show v=fin from h);exact c
 | (p,q)::r,i,hb,⟨e,he,hr⟩,c=>by
  refine PySem.W.kat_cons (he prog w _ _ ?_)
  cases e with
  |true =>
   rw[if_pos rfl] at hr;refine PySem.W.kat_yes (ze0 r (i+1) ?_ hr c);cases b<;>simp
  |false =>
   rw[if_neg zzN] at hr;refine PySem.W.kat_no ?_;rw[hb];exact PySem.W.kat_one p q (hr prog w _ _ c)
end
section
variable {X:Cx} {pins:List (Addr×Obj)} {σ:L2.St} {H:Hp} {s:Shared}
theorem zlB {prog:Program} {w:World} (I:Inv X pins σ H s) {T:String} {x y:W} {vx vy:V} {ux uy:Value} {A:Around} {v:Bool} {C:Bool->Shared->Prop} (hx:hdT x=some T) (hy:hdT y=some T) (rx:xT X.K H x vx) (ru:yW vx ux) (ry:xT X.K H y vy) (ru':yW vy uy)
  (px:pur x=true) (py:pur y=true) (hu:A.units+min (dep x) (dep y)<cLine) (e:ltW x y=some v) (c:C v s):wpAny (model prog w) A (keyLt' (tuples' (Value.type T != Value.type "tuple")) ux uy) C (fun _ _=>False) s:=by
 have tu:∀ z,hdT z=some T->∃ zs,z=.tup zs:=fun z hz=>by
  unfold hdT at hz
  split at hz
  .exact ⟨_,rfl⟩
  .exact ⟨_,rfl⟩
  .cases hz
 obtain ⟨xs,rfl⟩:=tu x hx;obtain ⟨ys,rfl⟩:=tu y hy;obtain ⟨a,vs,its,rfl,rfl,q,rs,vr,it,_⟩:=xW I rx ru;obtain ⟨c',vs',its',rfl,rfl,q',rs',vr',it',_⟩:=xW I ry ru';obtain ⟨o,ho,hc,n,hd⟩:=it;obtain ⟨o2,ho2,hc2,n2,hd2⟩:=it';simp only[dep] at hu;refine PySem.W.kat_lt ho hd ho2 hd2 ?_;simp only[zzS];have main:=zgF I xs ys _ _ _ _ A v (fun z _=>zhM I z) rs vr rs' vr' px py (by omega) e
 cases hb:(Value.type T != Value.type "tuple") with
 |false=>exact ze0 _ 0 rfl main c
 |true =>
  have hT:T = "str" := by
   unfold hdT at hx
   split at hx
   .cases hx;rfl
   .cases hx;cases hb
   .cases hx
  subst hT
  cases xs with
  |nil=>cases hx
  |cons x0 xs =>
   cases ys with
   |nil=>cases hy
   |cons y0 ys =>
    cases x0 with
    |str t =>
     cases y0 with
     |str z =>
      obtain ⟨v1,r1,rfl,h1,rs⟩:=rs;obtain ⟨v2,r2,rfl,h2,rs'⟩:=rs';cases (show v1=.str t from h1);cases (show v2=.str z from h2)
      cases vr with
      |cons k1 vr =>
       cases vr' with
       |cons k2 vr' =>
        obtain ⟨t1,rfl⟩:=k1;obtain ⟨t2,rfl⟩:=k2;replace e:(if (t==z)=true then mD xs ys else some (decide (t.cps.toList<z.cps.toList)))=some v:=e;simp only[pur,wC,Bool.true_and] at px py;simp only[deps,dep,Nat.zero_max] at hu;rw[Zan];refine PySem.W.kat_cons (EqAt.str_str t t1 z t2 prog w _ _ ?_)
        cases q:(t==z) with
        |true =>
         rw[q,if_pos rfl] at e;refine PySem.W.kat_yes (ze0 _ 1 rfl ?_ c);have:=zgF I xs ys _ _ _ _ A v (fun z _=>zhM I z) rs vr rs' vr' px py (by omega) e;simpa using this
        |false =>
         rw[q,if_neg zzN] at e;cases e;refine PySem.W.kat_no ?_;exact oneLt_str c
     |_=>exact absurd hy (by simp[hdT])
    |_=>exact absurd hx (by simp[hdT])
theorem zcU (I:Inv X pins σ H s) {M:Model} {T:String}:∀ {ws:List W} {vs:List V} {us:List Value},(∀ x∈ws,hdT x=some T)->zB X.K H ws vs->yZ vs us->∃ fs,PySem.W.KatTups s.heap us fs/\(∀ v∈fs,PySem.W.Looks M s.heap (typeOf v) (.type T))/\fs.length=us.length
 | [],vs,us,_,r,k=>by
  cases (show vs=[] from r);cases k;exact ⟨[],True.intro,(fun _ h=>nomatch h),rfl⟩
 |x::ws,vs,us,hT,r,k=>by
  obtain ⟨v,t,rfl,rx,rt⟩:=r
  cases k with
  |cons k ks =>
   obtain ⟨fs,h1,h2,h3⟩:=zcU I (fun y hy=>hT y (Zc _ hy)) rt ks;have hx:=hT x zzT;unfold hdT at hx
   split at hx
   .rename_i z zs;cases hx;obtain ⟨a,vs',its,rfl,rfl,q,rs,vr,it,_⟩:=xW I rx k;obtain ⟨v1,r1,rfl,g1,_⟩:=rs;cases (show v1=.str z from g1)
    cases vr with
    |cons k1 vr =>
     obtain ⟨t1,rfl⟩:=k1;obtain ⟨o,ho,hc,n,hd⟩:=it;refine ⟨.str z t1::fs,.cons ho hc hd rfl h1,fun v hv=>?_,by rw[Zf,Zf,h3]⟩;rcases Zd.mp hv with rfl|hv
     .exact PySem.W.Looks.of_pure rfl
     .exact h2 v hv
   .rename_i z zs;cases hx;obtain ⟨a,vs',its,rfl,rfl,q,rs,vr,it,_⟩:=xW I rx k;obtain ⟨v1,r1,rfl,g1,_⟩:=rs
    cases vr with
    |cons k1 vr =>
     obtain ⟨a2,vs2,its2,rfl,rfl,q2,rs2,vr2,it2,_⟩:=xW I g1 k1;obtain ⟨o,ho,hc,n,hd⟩:=it;obtain ⟨o2,ho2,hc2,_⟩:=it2;refine ⟨.ref a2::fs,.cons ho hc hd rfl h1,fun v hv=>?_,by rw[Zf,Zf,h3]⟩;rcases Zd.mp hv with rfl|hv
     .exact PySem.W.kitAt_ty M _ ⟨o2,ho2,hc2⟩
     .exact h2 v hv
   .cases hx
theorem zef (hu:X.A.units+200<cLine):vV X (.builtin "sorted") (bL X.K zei):=by
 intro pins s σ H xs us Q I r h;obtain ⟨ws,G,rs,ab,h⟩:=h;unfold zei at h
 split at h
 .rename_i x;obtain ⟨v,rfl,rv⟩:=vE rs;obtain ⟨xs,ex,sb,h⟩:=h;obtain ⟨a,vs,rfl,sq,rr⟩:=dD ab rv ex;obtain ⟨u,rfl,ru⟩:=vH r;cases (show u=Value.ref a from ru);obtain ⟨its,vv,ss,hz⟩:=I.sqB sq
  obtain ⟨T',o,n,hT,ho,hc,hd⟩:∃ (T':String) (o:Obj) (n:Nat),(T' = "list" \/ T' = "tuple")/\s.heap.get? a=some o/\o.cls=.type T'/\o.data=.seq its.toArray n:=by
   cases hb:bOf x<;>rw[hb] at ss
   .obtain ⟨o,ho,hc,n,hd⟩:=ss;exact ⟨"list", o,n,.inl rfl,ho,hc,hd⟩
   .obtain ⟨o,ho,hc,n,hd⟩:=ss;exact ⟨"tuple", o,n,.inr rfl,ho,hc,hd⟩
  have l1:its.length=xs.length:=by rw[← vv.length,rr.length]
  have l2:vs.length=xs.length:=rr.length;obtain ⟨T,hT'⟩:=sb.hd;have I':∀ h',zdL s.heap h'->Inv X pins σ H { s with heap:=h',toks:=s.toks }:=fun h' k=>I.kept k;refine zeg (κ:=tuples' (Value.type T != Value.type "tuple")) (lt:=fun i j=>bM (xs.getD i .non) (xs.getD j .non)) hT ho hc hd (by rw[l1];exact sb.few) (fun h' C h2 k c=>?_) (fun h' i j C k hi hj c=>?_) fun h1 h' m k1 k' hm=>?_
  .obtain ⟨fs,g1,g2,g3⟩:=zcU (M:=model X.prog X.w) (I' h' k) hT' rr vv;exact PySem.W.kat_kind g1 (by omega) g2 (by simp) c
  .have hi':i<xs.length:=by omega
   have hj':j<xs.length:=by omega
   obtain ⟨vi,evi,ri⟩:=rr.get (Zj hi');obtain ⟨vj,evj,rj⟩:=rr.get (Zj hj');obtain ⟨ui,eui,si⟩:=vv.get evi;obtain ⟨uj,euj,sj⟩:=vv.get evj;have mi:=Zak hi';have mj:=Zak hj';obtain ⟨b,eb⟩:=Option.isSome_iff_exists.mp (sb.lt _ mi _ mj);have e1:its.getD i Value.none=ui:=by simp[List.getD,eui]
   have e2:its.getD j Value.none=uj:=by simp[List.getD,euj]
   have e3:bM (xs.getD i .non) (xs.getD j .non)=b:=by simp[List.getD,Zj hi',Zj hj',bM,eb]
   unfold PySem.W.kas_ask;rw[e1,e2];rw[e3] at c;have d1:=zc4 mi;have:=sb.deep;refine zlB (I' h' k) (hT' _ mi) (hT' _ mj) ri si rj sj (zcE sb.pure _ mi) (zcE sb.pure _ mj) ?_ eb c;show X.A.units+1+1+_<_;omega
  .have I1:Inv X pins σ H { s with heap:=h1,toks:=s.toks }:=I' h1 k1;have I2:Inv X pins σ H { s with heap:=h',toks:=s.toks }:=I' h' fun b o e=>k' b o (k1 b o e);have hn:H h1.objs.size=none:=I1.hok.fresh (zzR _);have pm:=mW xs.length fun i j=>bM (xs.getD i .non) (xs.getD j .non);have lt:∀ i∈srtP xs.length (fun i j=>bM (xs.getD i .non) (xs.getD j .non)),i<xs.length:=fun i hi=>ZaO.mp (pm.mem_iff.mp hi);have eo:rQ its (fun i j=>bM (xs.getD i .non) (xs.getD j .non))=(srtP xs.length fun i j=>bM (xs.getD i .non) (xs.getD j .non)).map fun i=>its.getD i Value.none:=by unfold rQ;rw[l1]
   rw[eo] at hm
   have both:∀ l:List Nat,(∀ i∈l,i<xs.length)->zB X.K H (l.map fun i=>xs.getD i .non) (l.map fun i=>vs.getD i .non)/\yZ (l.map fun i=>vs.getD i .non) (l.map fun i=>its.getD i Value.none):=by
    intro l
    induction l with
    |nil=>exact fun _=>⟨rfl,.nil⟩
    |cons i l ih =>
     intro hl;obtain ⟨g1,g2⟩:=ih fun j hj=>hl j (Zc _ hj);have hi:=hl i zzT;obtain ⟨vi,evi,ri⟩:=rr.get (Zj hi);obtain ⟨ui,eui,si⟩:=vv.get evi;have e0:xs.getD i .non=xs[i]:=by simp[List.getD,Zj hi]
     have e1:vs.getD i .non=vi:=by simp[List.getD,evi]
     have e2:its.getD i Value.none=ui:=by simp[List.getD,eui]
     rw[zzU,zzU,zzU,e0,e1,e2];exact ⟨⟨vi,_,rfl,ri,g1⟩,.cons si g2⟩
   obtain ⟨g1,g2⟩:=both _ lt;refine ⟨.ref h1.objs.size,_,I2.adopt (o:=.lst _) (I1.off (zzR _)) hn ⟨?_,_,m,g2,hm⟩,rfl,qM ab g1 h _ hn⟩;rw[zzM,pm.length_eq,ZbK,← l2];exact hz
 .exact h.elim
end
abbrev eSrt:Fn3:=⟨"sorted", fun ws G Q _=>zei ws G Q⟩
theorem zjE {q:Pr} {A:Around} (hu:A.units+200<cLine) (hm:q.mg "sorted" = none):tU (q.at A) eSrt:=⟨zbj (id := "sorted") hm (by decide +kernel) (fun X f=>zef (by rw[f.A];exact hu)) dG (fun _ _ h=>h),fun ws G Q Q' _ k h=>dG ws G Q Q' k h⟩
end L3
namespace L3
open PySem PySem.Spec PyProof.Rows L2 PySem.SeqAt AutoSeq1
theorem zfk (l b:Addr) (xs ys:Array Value) (n n2:Nat) (od:Option Addr) (os:Array (Option Value)) (h0:¬(!xs.isEmpty&&Builtin.List.listTooLong (xs.size+ys.size))=true) (h1:xs.size<=sizeLine) (h2:xs.size+ys.size<=sizeLine+1) :
  Meets (Builtin.«list.extend» ⟨[.ref l,.ref b],[]⟩) (fun _ R s=>s.heap.get? l=some { cls:=.type "list", dict:=none,data:=.seq xs n,slots:=#[] }/\s.heap.get? b=some { cls:=.type "tuple", dict:=od,data:=.seq ys n2,slots:=os } /\
   R (.ok (.ret .none)) { s with heap:=s.heap.update l (Obj.mapSeq fun x=>x++ys) }) :=
 .of_wp fun pr wo ar R st h=>by
  obtain ⟨hp,g,d,tk,os'⟩:=st;obtain ⟨hl,hb,h⟩:=h;have f1:=idx_int;have ft:=ZaR;have fl:=AutoSeq1.sub_list_list;have fu:=AutoSeq1.sub_tuple_list;have fv:=AutoSeq1.sub_list_tuple;have hz:(xs++ys).size<=sizeLine+1:=by rw[Array.size_append];exact h2
  wp_walk using (ZaJ hl rfl (hz:=h1) (_hz':=hz)),ZN hl,ZN hb
  exact ⟨_,rfl,h⟩
theorem zdz (l b:Addr) (xs ys:Array Value) (n n2:Nat) (od:Option Addr) (os:Array (Option Value)) (h0:¬(!xs.isEmpty&&Builtin.List.listTooLong (xs.size+ys.size))=true) (h1:xs.size<=sizeLine) (h2:xs.size+ys.size<=sizeLine+1) :
  Meets (Builtin.«list.extend» ⟨[.ref l,.ref b],[]⟩) (fun _ R s=>s.heap.get? l=some { cls:=.type "list", dict:=none,data:=.seq xs n,slots:=#[] }/\s.heap.get? b=some { cls:=.type "list", dict:=od,data:=.seq ys n2,slots:=os } /\
   R (.ok (.ret .none)) { s with heap:=s.heap.update l (Obj.mapSeq fun x=>x++ys) }) :=
 .of_wp fun pr wo ar R st h=>by
  obtain ⟨hp,g,d,tk,os'⟩:=st;obtain ⟨hl,hb,h⟩:=h;have f1:=idx_int;have ft:=ZaR;have fl:=AutoSeq1.sub_list_list;have fu:=AutoSeq1.sub_tuple_list;have fv:=AutoSeq1.sub_list_tuple;have hz:(xs++ys).size<=sizeLine+1:=by rw[Array.size_append];exact h2
  wp_walk using (ZaJ hl rfl (hz:=h1) (_hz':=hz)),ZN hl,ZN hb
  exact ⟨_,rfl,h⟩
def extS:MS:=fun x ws G Q=>match x,ws with
 | .ref p,[.tup ys]=>(match G p with
  |some (.lst xs)=>xs.length+ys.length<=sizeLine/\Q .non (put G p (.lst (xs++ys)))
  |_=>False)
 | .ref p,[.ref q]=>∃ xs ys,G p=some (.lst xs)/\yP G q=some ys/\xs.length+ys.length<=sizeLine/\Q .non (put G p (.lst (xs++ys)))
 |_,_=>False
theorem zbk:∀ x ws G (Q Q':Q3),(∀ w G',Q w G'->Q' w G')->extS x ws G Q->extS x ws G Q':=by
 intro x ws G Q Q' k h;unfold extS at h ⊢
 split at h
 .split at h
  .exact ⟨h.1,k _ _ h.2⟩
  .exact h.elim
 .obtain ⟨xs,ys,e1,e2,h1,h⟩:=h;exact ⟨xs,ys,e1,e2,h1,k _ _ h⟩
 .exact h.elim
theorem zl7 {X:Cx}:MtR X "list.extend" (lowM X.K extS):=by
 intro pins s σ H x xs v us Q I rx rxs h;obtain ⟨w,ws,G,rw1,rs,ab,h⟩:=h;unfold extS at h
 split at h
 .rename_i p ys;cases (show x=.ref p from rw1);cases (show v=Value.ref p from rx);obtain ⟨vy,rfl,ry⟩:=vE rs;obtain ⟨b,vs2,rfl,sq,rr2⟩:=ry;obtain ⟨u,rfl,ru⟩:=vH rxs;cases (show u=Value.ref b from ru)
  split at h
  .rename_i zs e;obtain ⟨vs,ev,rr⟩:=ab.lst e;have gr:yK X.K H (xC H p (.lst (vs++vs2))):=ab.grow e;obtain ⟨z,its,n,r,hl,e1⟩:=I.lstM ev;obtain ⟨its2,r2,pt,hz2⟩:=I.tuple sq;obtain ⟨⟨oc,od,oda,os⟩,ho,hc,n2,hd⟩:=(show s.heap.IsTuple b its2.toArray from pt);simp only at hc hd;subst hc hd;have l1:=rr.length;have l2:=rr2.length;have l3:=r2.length;have hb:=h.1;have hsz:its.toArray.size+its2.toArray.size<=sizeLine:=by rw[zzS,zzS];omega
   have hlong:¬ (!its.toArray.isEmpty&&Builtin.List.listTooLong (its.toArray.size+its2.toArray.size))=true:=by
    rw[cH hsz,Zb0];exact zzN
   refine Zae F.slot_list_extend ⟨_,e1,rfl⟩ F.entry_list_extend (F.args_list_extend_2 _ _) (zfk p b its.toArray its2.toArray n n2 od os hlong (by rw[zzS];omega) (by omega)) ⟨e1,ho,?_⟩;refine ⟨.non,_,I.lset (its':=its++its2) ev e1 (by simp) (r.append r2) ?_,rfl,h.2 .non _ gr (show xT X.K _ .non .non from rfl) (ab.chg e ⟨_,rfl,(rr.append rr2).mono gr⟩)⟩;rw[zzW];omega
  .exact h.elim
 .rename_i p q;cases (show x=.ref p from rw1);cases (show v=Value.ref p from rx);obtain ⟨vy,rfl,ry⟩:=vE rs;cases (show vy=.ref q from ry);obtain ⟨u,rfl,ru⟩:=vH rxs;cases (show u=Value.ref q from ru);obtain ⟨zs,ys,e,e2,hb,h⟩:=h;obtain ⟨vs,ev,rr⟩:=ab.lst e;obtain ⟨vs2,sq,rr2⟩:=ab.seq e2;have gr:yK X.K H (xC H p (.lst (vs++vs2))):=ab.grow e;obtain ⟨z,its,n,r,hl,e1⟩:=I.lstM ev;obtain ⟨its2,r2,pt,hz2⟩:=I.list sq;obtain ⟨⟨oc,od,oda,os⟩,ho,hc,n2,hd⟩:=pt.isList;simp only at hc hd;subst hc hd;have l1:=rr.length;have l2:=rr2.length;have l3:=r2.length;have hsz:its.toArray.size+its2.toArray.size<=sizeLine:=by rw[zzS,zzS];omega
  have hlong:¬ (!its.toArray.isEmpty&&Builtin.List.listTooLong (its.toArray.size+its2.toArray.size))=true:=by
   rw[cH hsz,Zb0];exact zzN
  refine Zae F.slot_list_extend ⟨_,e1,rfl⟩ F.entry_list_extend (F.args_list_extend_2 _ _) (zdz p q its.toArray its2.toArray n n2 od os hlong (by rw[zzS];omega) (by omega)) ⟨e1,ho,?_⟩;refine ⟨.non,_,I.lset (its':=its++its2) ev e1 (by simp) (r.append r2) ?_,rfl,h .non _ gr (show xT X.K _ .non .non from rfl) (ab.chg e ⟨_,rfl,(rr.append rr2).mono gr⟩)⟩;rw[zzW];omega
 .exact h.elim
abbrev eExt:Mt3:=⟨"extend", "list", extS⟩
theorem zjM {q:Pr} {A:Around}:MtE (q.at A) eExt/\pQ eExt:=⟨mH Za1 PySem.F.slot_list_extend PySem.F.type_list_extend (fun X f=>zl7) zbk,zbk⟩
end L3
namespace L3
open PySem PySem.Spec PyProof.Rows L2 PySem.SeqAt
structure KdS (prog:Program) (w:World) (α:Type) [DecidableEq α] where
 k:_root_.PySem.KeyKind prog w α
 vl:α->Tok->Value
 of:Value->α
 d:α
 is:∀ x t,k.is x (vl x t)=true
 sh:∀ {x v},k.is x v=true->∃ t,v=vl x t
 ofm:∀ x t,of (vl x t)=x
 sc:∀ x t,(vl x t).scannable=true
section
variable {α:Type} [DecidableEq α] {prog:Program} {w:World}
def tx (K:KdS prog w α) (e:Int×Value):α:=K.of e.2
end
section
variable {α:Type} [DecidableEq α] {prog:Program} {w:World} {K:KdS prog w α} {A:Around} {E:Value->Shared->Prop} {s:Shared} {S:Addr} {led:Bool}
end
section
variable {α:Type} [DecidableEq α] {prog:Program} {w:World} {K:KdS prog w α} {A:Around} {R:Result->Shared->Prop} {I:Addr} {fp wr:List Addr} {G:Array GenState->Array GenState->Prop} {n:Nat} {P:Nat->Value->Prop} {St:Nat->Shared->Prop} {S:Addr} {led:Bool}
end
section
variable {prog:Program} {w:World} {s:Shared} {A:Around} {E:Value->Shared->Prop}
end
namespace SI
end SI
section
variable {α:Type} [DecidableEq α] {prog:Program} {w:World} {K:KdS prog w α} {A:Around} {E:Value->Shared->Prop} {s:Shared} {I S:Addr} {first:Value} {i n ep:Nat} {led:Bool} {o:Obj} {es:Array (Int×Value)} {t:SetTable}
end
section
variable {α:Type} [DecidableEq α] {prog:Program} {w:World} {K:KdS prog w α} {A:Around} {I S T:Addr} {ep:Nat} {led:Bool} {o:Obj} {es:Array (Int×Value)} {t:SetTable}
end
section
variable {α:Type} [DecidableEq α] {prog:Program} {w:World} {K:KdS prog w α} {A:Around} {E:Value->Shared->Prop} {s:Shared} {S:Addr} {ep:Nat} {o:Obj} {es:Array (Int×Value)} {t:SetTable}
end
section
variable {α:Type} [DecidableEq α] {prog:Program} {w:World} {K:KdS prog w α} {A:Around} {E:Value->Shared->Prop} {s:Shared} {S:Addr} {ep:Nat} {o:Obj} {es:Array (Int×Value)} {t:SetTable}
end
section
variable {prog:Program} {w:World} {A:Around} {E:Value->Shared->Prop} {s:Shared}
end
section
variable {X:Cx}
theorem mX {K:yJ} {H:Hp}:∀ (ss:List Str),zB K H (ss.map .str) (ss.map .str)
 | []=>rfl
 |x::ss=>⟨.str x,_,rfl,rfl,mX ss⟩
end
end L3
namespace L3
open PySem PySem.Spec PyProof.Rows L2 PySem.SeqAt PySem.Builtin PySem.Builtin.Str
theorem zec {prog:Program} {w:World} {A:Around} {E:Value->Shared->Prop} {s:Shared} {x y:Str} {t u:Tok} {Q:Value->Shared->Prop} (hy:(y.length==0)=false) (hsz:x.length<=sizeLine)
  (hsz2:(partsBetween x (occurrences x y 0 x.length (x.length+1)) y.length).length<=sizeLine)
  (hq:∀ l k,l.map (·.1)=Txt.split x y->Q (.ref s.heap.objs.size) { s with heap:=s.heap.push { cls:=.type "list", data:=.seq (strValues l).toArray },toks:=k }) :
  wpAny (model prog w) A (call (.builtin "str.split") [.str x t,.str y u]) Q E s:=by
 cases h1:(decide (x.length<y.length) || decide (strKind x<strKind y))
 .cases hf:(occurrences x y 0 x.length (x.length+1)).isEmpty
  .refine Zae ZbQ (Za7 _ _ _) ZbI (ZbA _ _) (meets_str_split_sep x y t u h1 hy hf hsz hsz2) ?_;show wants Q E _ { s with toks:=_,heap:=s.heap.push { cls:=.type "list", data:=.seq (strsFrom s.toks (partsBetween x (occurrences x y 0 x.length (x.length+1)) y.length)).toArray } };rw[strsFrom_eq];exact hq (numbered s.toks _) _ ((numbered_texts _ _).trans ((if_neg (ne_true_of_eq_false h1)).trans (if_neg (ne_true_of_eq_false hf))).symm)
  .exact Zae ZbQ (Za7 _ _ _) ZbI (ZbA _ _) (meets_str_split_not_found x y t u h1 hy hf) (hq [(x,t)] s.toks ((if_neg (ne_true_of_eq_false h1)).trans (if_pos hf)).symm)
 .exact Zae ZbQ (Za7 _ _ _) ZbI (ZbA _ _) (meets_str_split_cannot_occur x y t u h1) (hq [(x,t)] s.toks (if_pos h1).symm)
theorem zaK (x y:Str):(Txt.split x y).length<=x.length+2:=by
 unfold Txt.split
 split
 .simp
 .split
  .simp
  .rw[Zbv];have:=StrLaws.occ_length_le x y 0 x.length (x.length+1);omega
def mU:MS:=fun x ws G Q=>match x,ws with
 | .str x,[.str y]=>(y.length==0)=false/\x.length<=1000000/\∀ r,G r=none->Q (.ref r) (put G r (.lst ((Txt.split x y).map .str)))
 |_,_=>False
theorem gW:∀ x ws G (Q Q':Q3),(∀ w G',Q w G'->Q' w G')->mU x ws G Q->mU x ws G Q':=by
 intro x ws G Q Q' k h;unfold mU at h ⊢
 split at h
 .exact ⟨h.1,h.2.1,fun r hr=>k _ _ (h.2.2 r hr)⟩
 .exact h.elim
theorem dL:∀ (l:List (Str×Tok)),yZ ((l.map (·.1)).map V.str) (strValues l)
 | []=>.nil
 | (x,t)::l=>.cons ⟨t,rfl⟩ (dL l)
theorem zf5 {X:Cx}:MtR X "str.split" (lowM X.K mU):=by
 intro pins s σ H x xs v us Q I rx rxs h;obtain ⟨w,ws,G,rw1,rs,ab,h⟩:=h;unfold mU at h
 split at h
 .rename_i x' y;cases (show x=.str x' from rw1);obtain ⟨z,rfl,rz⟩:=vE rs;cases (show z=.str y from rz);obtain ⟨u,rfl,ru⟩:=vH rxs;obtain ⟨t',rfl⟩:=ru;obtain ⟨t,rfl⟩:=rx;obtain ⟨hy,hx,h⟩:=h;have hl:=zaK x' y;refine qI I.tk (zec hy (by rw[ZI];omega) (by rw[Zbv,ZI];have:=StrLaws.occ_length_le x' y 0 x'.length (x'.length+1);omega) fun l k e h0=>?_);have hn:H s.heap.objs.size=none:=I.hok.fresh (zzR _);refine ⟨.ref s.heap.objs.size,_,I.laid (o:=.lst ((Txt.split x' y).map .str)) (fun b ob q=>Za _ q) (zzR _) ⟨by rw[zzM,ZI];omega,strValues l,0,by rw[← e];exact dL l,Zk _ rfl⟩ h0,rfl,qM ab (mX _) h _ hn⟩
 .exact h.elim
abbrev hZ:Mt3:=⟨"split", "str", mU⟩
theorem zfp {q:Pr} {A:Around}:MtE (q.at A) hZ/\pQ hZ:=⟨mH ZaF PySem.F.slot_str_split PySem.F.type_str_split (fun X f=>zf5) gW,gW⟩
end L3
namespace L2
open PySem
theorem zih {α:Type} {M:Model} {Γ:Ctx}:∀ (t:Sem α) (p:Pos) (s:Shared),¬ Sem.wp M Γ t (fun _ _ _=>False) (fun _ _ _=>False) p s:=by
 intro t
 induction t with
 |pure a=>intro p s z;rw[Sem.wp] at z;exact z
 |raise e=>intro p s z;rw[Sem.wp] at z;exact z
 |unsupported _=>intro p s z;rw[Sem.wp] at z;exact z
 |finish _=>intro p s z;rw[Sem.wp] at z;exact z
 |register _ _ _=>intro p s z;rw[Sem.wp] at z;exact z
 | «yield» _ _ _ _ _=>intro p s z;rw[Sem.wp] at z;exact z
 |load a part k ih=>intro p s z;rw[Sem.wp] at z;obtain ⟨o,e,z⟩:=z;exact ih o p s z
 |update a part f k ih=>intro p s z;rw[Sem.wp] at z;exact ih () p _ z.2
 |fresh k ih=>intro p s z;rw[Sem.wp] at z;exact ih _ p _ z
 |choose src m k ih=>intro p s z;rw[Sem.wp] at z;exact ih _ p _ z.2
 |genState g k ih=>intro p s z;rw[Sem.wp] at z;obtain ⟨st,e,z⟩:=z;exact ih _ p s z
 |resume g r l k ih=>intro p s z;rw[Sem.wp] at z;obtain ⟨res,s',w,z⟩:=z;exact ih _ p s' z
 |call c hd g l k ih=>intro p s z;rw[Sem.wp] at z;obtain ⟨r,s',w,z⟩:=z;exact ih _ p s' z
 |_=>first|(intro p s z;rw[Sem.wp] at z;exact z.elim)|(rename_i ih;intro p s z;rw[Sem.wp] at z;exact ih _ _ _ z)
theorem zaD {α β:Type} {M:Model} {A:Around} {t:Sem α} {s:Shared} (h:wpAny M A t (fun _ _=>False) (fun _ _=>False) s) {u:Sem β} {Q:β->Shared->Prop} {E:Value->Shared->Prop}:wpAny M A u Q E s:=fun Γ p hΓ=>(zih t p s (h Γ p hΓ)).elim
end L2
namespace L3
open PySem PySem.Spec PyProof.Rows L2 PySem.SeqAt PySem.Builtin PySem.Builtin.Str
theorem zbT {K:yJ} {h:Heap} (X:K.In h) (lim:h.NoLimit) (e:PySem.W.nsIn K cStatics sharingNotToldKey=some none):NoneBooked h:=by
 obtain ⟨mc,hn,_⟩:=lim;exact ⟨mc,hn,PySem.W.ns_none_of X hn e⟩
theorem Inv.lim {X:Cx} {pins:List (Addr×Obj)} {σ:L2.St} {H:Hp} {s:Shared} (I:Inv X pins σ H s):s.heap.NoLimit:=I.ok.mod.nolimit.keeps I.bk
def Ev2 (X:Cx) (e2:Expr) (t2:TE):Prop:=∀ (pins:List (Addr×Obj)) (s:Shared) (σ:L2.St) (H:Hp) (Q:VK) (k:Nat),k<s.toks->Inv X pins σ H s->t2 σ H Q ->
 wpAny (model X.prog X.w) X.A (eval e2 X.env) (fun v s'=>∃ b t' H',v=.str b t'/\k<t'/\Inv X pins σ H' s'/\Q (.str b) H') X.xe s
theorem zjB {X:Cx} {b:Str} {j:Nat} {p:Pos}:Ev2 X (.Constant (.str b) j p) (fun _ H Q=>Q (.str b) H):=fun pins s σ H Q k hk I h=>ZaT ⟨b,s.toks,H,rfl,hk,I.tok _,h⟩
theorem zi8 {prog:Program} {w:World} {A:Around} {E:Value->Shared->Prop} {s:Shared} {env:Env} {o:Expr} {nm:Str} {ap cp:Pos} {es:List Expr} {ts:List (Bool×Sem Value)} {Q:Value->Shared->Prop}
  (hb:attributeBase o nm env (eval o env)=eval o env) (hf:methodCallForm (es.length+([]:List Keyword).length) (backTo cp (starEach es env)) (backToKw cp (keywordEach [] env))=true) (hl:(ap.endLine==cp.line)=true) (ht:backTo cp (starEach es env)=ts)
  (h:wpAny (model prog w) A (eval o env) (fun v s1=>MethodOn prog w A nm cp v ts Q E s1\/∃ t:Sem Value,wpAny (model prog w) A t (fun _ _=>False) (fun _ _=>False) s1) E s):wpAny (model prog w) A (eval (.Call (.Attribute o nm ap) es [] cp) env) Q E s:=by
 subst ht;rw[arm_eval_Call,hb];refine Zb (xY h fun v s1 z=>?_);rcases z with ⟨T,id,a1,a2,a3,a4,a5,a6⟩|⟨t,z⟩
 .have e:methodCallPos true o env ap cp=pure cp:=by unfold methodCallPos;simp[hl]
  refine Zb (Zbp ?_);unfold methodCall;rw[hf];exact Zb (ZK (getMethod_builtin a4 a1 a2 a3 a5 (Zb (wpAny_of_eq e a6))))
 .exact zaD z
def Dead (X:Cx) (σ:L2.St) (H:Hp):Prop:=∀ (pins:List (Addr×Obj)) (s:Shared),Inv X pins σ H s->∃ t:Sem Value,wpAny (model X.prog X.w) X.A t (fun _ _=>False) (fun _ _=>False) s
def tRep (X:Cx) (a:Str) (to t2:TE):TE:=fun σ H Q=>to σ H fun x H1=>(∃ y,x=.str y/\t2 σ H1 fun z H2=>∃ b,z=.str b/\y.length+(y.length+1) * b.length<=16777216/\Q (.str (Txt.replace y a b)) H2)\/Dead X σ H1
theorem zk3 {X:Cx} {o e2:Expr} {a:Str} {j:Nat} {p1 apos cpos:Pos} {to t2:TE} (hb:PySem.W.nsIn X.K cStatics sharingNotToldKey=some none) (ho:PE X o to) (h2:Ev2 X e2 t2) (hn:xE e2=true)
  (hbase:attributeBase o "replace" X.env (eval o X.env)=eval o X.env) (hline:(apos.endLine==cpos.line)=true):PE X (.Call (.Attribute o "replace" apos) [.Constant (.str a) j p1,e2] [] cpos) (tRep X a to t2):=by
 intro pins s σ H Q I h;have hs:=zaz (args:=[.Constant (.str a) j p1,e2]) (env:=X.env) (pos:=cpos) (by show (true&&(xE e2&&true))=true;rw[hn];rfl)
 have tr:backTo cpos (starEach [.Constant (.str a) j p1,e2] X.env)=[(false,eval (.Constant (.str a) j p1) X.env),(false,eval e2 X.env)]:=by
  cases e2<;>first|rfl|cases hn
 refine zi8 hbase (by unfold methodCallForm;rw[hs];rfl) hline tr (xY (ho pins s σ H _ I h) fun v s1 ⟨x,H1,I1,r1,q1⟩=>?_);refine q1.elim (fun ⟨y,ey,qy⟩=>?_) fun dd=>.inr (dd pins s1 I1);subst ey;obtain ⟨t,rfl⟩:=r1;refine .inl ⟨"str", "str.replace", ZaF,PySem.F.slot_str_replace,PySem.F.type_str_replace,Za7 _ _ _,fun b z=>(nomatch z),?_⟩;refine ZaD rfl (ZaM (ZaU (ZaT ?_)));refine ZaU (xY (h2 pins { s1 with toks:=s1.toks+1 } σ H1 _ s1.toks (Zbj _) (I1.tok _) qy) fun v2 s2 ⟨b,t',H2,e2',lt,I2,b',eb,hl,q2⟩=>ZbG ?_);subst e2';cases eb;have k0:=I1.tk;exact qI I2.tk (SC.replaceA (Zad k0) (Zad (Nat.lt_trans k0 lt)) (Zr lt) hl (fun t' k h0=>⟨.str (Txt.replace y a b),H2,I2.tok _ h0,⟨t',rfl⟩,q2⟩) (zbT I2.kIn (Inv.lim I2) hb))
def fY (a b:Str):Scope->Expr->Option (List Expr):=fun _ e=>match e with
 | .Call (.Attribute o m apos) [.Constant (.str x) _ _,.Constant (.str y) _ _] [] cpos=>if (m==("replace" : Str)&&x==a&&y==b&&zcj o&&apos.endLine==cpos.line)=true then some [o] else none
 |_=>none
theorem zgh {a b:Str} {sc:Scope} {e:Expr} {xs:List Expr} (h:fY a b sc e=some xs):∃ o apos cpos j p k q,xs=[o]/\e=.Call (.Attribute o "replace" apos) [.Constant (.str a) j p,.Constant (.str b) k q] [] cpos/\zcj o=true/\(apos.endLine==cpos.line)=true:=by
 unfold fY at h
 split at h
 .rename_i o m apos x j p y k q cpos
  by_cases hb:(m==("replace" : Str)&&x==a&&y==b&&zcj o&&apos.endLine==cpos.line)=true
  .rw[if_pos hb] at h;cases h;simp only[Zl,beq_iff_eq] at hb;obtain ⟨⟨⟨⟨rfl,rfl⟩,rfl⟩,h1⟩,h2⟩:=hb;exact ⟨o,apos,cpos,j,p,k,q,rfl,rfl,h1,by rw[h2];exact beq_self_eq_true _⟩
  .rw[if_neg hb] at h;cases h
 .cases h
def rplS (a b:Str):RS:=fun ws G Q=>match ws with
 | [.str y]=>y.length+(y.length+1) * b.length<=16777216/\Q (.str (Txt.replace y a b)) G
 |_=>False
theorem mN {a b:Str}:qX (rplS a b):=by
 intro ws G Q Q' k h;unfold rplS at h ⊢
 split at h
 .exact ⟨h.1,k _ _ h.2⟩
 .exact h.elim
theorem zd4 {q:Pr} {A:Around} {a b:Str} (hb:PySem.W.nsIn q.K cStatics sharingNotToldKey=some none):SxE (q.at A) ⟨fY a b,rplS a b⟩:=by
 intro X fits e xs es he each hn pa;obtain ⟨o,apos,cpos,j,p,k,q',rfl,rfl,h1,h2⟩:=zgh (sc:=X.env.scope) he
 cases es with
 |nil=>exact each.elim
 |cons e0 r =>
  obtain ⟨mo,po,er⟩:=each
  cases r with
  |cons _ _=>exact er.elim
  |nil =>
   refine ⟨fun pins s σ H Q I h=>?_,fun _=>rfl,fun _ _ _ z=>nomatch z⟩;refine zk3 (by rw[show X.K=q.K from fits.K];exact hb) po zjB rfl (uD h1) h2 pins s σ H Q I ?_;obtain ⟨σ3,G,hs,ab,h⟩:=h;refine xJ mo hs ab h fun w G1 v H1 g1 hs1 rw1 a1 h=>?_;dsimp only[rJ] at h;unfold rplS at h
   split at h
   .rename_i y e;cases e;cases (show v=.str y from rw1);exact .inl ⟨y,rfl,b,rfl,h.1,h.2 _ H1 g1 rfl a1⟩
   .exact h.elim
def fstP:List (Option Str)->List Expr->Option (List Expr)
 | [],[]=>some []
 |some a::ps,.Constant (.str b) _ _::vs=>if a==b then fstP ps vs else none
 |none::ps,.FormattedValue v c sp _::vs=>if (c==-1&&sp.isNone)=true then (fstP ps vs).map (v::·) else none
 |_,_=>none
def kQ:List (Option Str)->List Str->Str
 | [],_=>Str.empty
 |some a::ps,ts=>a++kQ ps ts
 |none::ps,t::ts=>t++kQ ps ts
 |none::ps,[]=>kQ ps []
def tQ (ps:List (Option Str)):Scope->Expr->Option (List Expr):=fun _ e=>match e with
 | .JoinedStr (a::b::r) _=>fstP ps (a::b::r)
 |_=>none
theorem zg5 {ps:List (Option Str)} {sc:Scope} {e:Expr} {xs:List Expr} (h:tQ ps sc e=some xs):∃ a b r p,e=.JoinedStr (a::b::r) p/\fstP ps (a::b::r)=some xs:=by
 unfold tQ at h
 split at h
 .exact ⟨_,_,_,_,rfl,h⟩
 .cases h
def zkz (env:Env):List Expr->Sem Unit
 | []=>pure ()
 |x::xs=>eval x env >>= fun _=>zkz env xs
theorem dB {X:Cx} (hx:X.xe=fun _ _=>False):∀ (xs:List Expr) (es:List E3) (pins:List (Addr×Obj)) (s:Shared) (τ:L2.St) (H:Hp) (σ:qV) (G:Hw),gA X xs es->Inv X pins τ H s->yM X.K H σ τ->xP X.K H G->rJ es σ G (fun _ _=>False) ->
  wpAny (model X.prog X.w) X.A (zkz X.env xs) (fun _ _=>False) (fun _ _=>False) s
 | [],[],_,_,_,_,_,_,_,_,_,_,h=>h.elim
 | [],_::_,_,_,_,_,_,_,e,_,_,_,_=>e.elim
 |_::_,[],_,_,_,_,_,_,e,_,_,_,_=>e.elim
 |x::xs,e::es,pins,s,τ,H,σ,G,⟨m,pe,r⟩,I,hs,ab,h=>by
  have w:=pe pins s τ H (fun v H1=>∃ G1,yM X.K H1 σ τ/\xP X.K H1 G1/\rJ es σ G1 (fun _ _=>False)) I (xJ m hs ab h fun w G1 v H1 g1 hs1 rw1 a1 h=>⟨G1,hs1,a1,jY r σ G1 _ _ (fun _ _ z=>z) h⟩);rw[hx] at w;exact Zb (xY w fun v s1 ⟨_,H1,I1,_,G1,hs1,a1,h1⟩=>dB hx xs es pins s1 τ H1 σ G1 r I1 hs1 a1 h1)
theorem zfO (a b c:Str):a++b++c=a++(b++c):=by
 show (⟨(a.cps++b.cps)++c.cps⟩:Str)=⟨a.cps++(b.cps++c.cps)⟩;rw[Array.append_assoc]
theorem zfN (a:Str):a++Str.empty=a:=by
 show (⟨a.cps++#[]⟩:Str)=a;rw[Array.append_empty]
theorem zma (a:Str):Str.empty++a=a:=by
 show (⟨#[]++a.cps⟩:Str)=a;rw[Array.empty_append]
def txW:W->Option Str
 | .str y=>some y
 | .int i=>if i.natAbs.log2<1920 then some (Str.ofString (toString i)) else none
 |_=>none
def FstK (X:Cx) (ps:List (Option Str)) (acc:Str) (H:Hp) (Q:VK) (ws:List W) (G':Hw):Prop:=∃ ts:List Str,ws.map txW=ts.map some/\acc.length+(kQ ps ts).length<=1000000/\∀ H',yK X.K H H'->xP X.K H' G'->Q (.str (acc++kQ ps ts)) H'
theorem zfg {X:Cx} (hx:X.xe=fun _ _=>False):∀ (ps:List (Option Str)) (vs xs:List Expr) (es:List E3) (acc:Str) (pins:List (Addr×Obj)) (s:Shared) (τ:L2.St) (H:Hp) (σ:qV) (G:Hw) (Q:VK),fstP ps vs=some xs->gA X xs es->Inv X pins τ H s->yM X.K H σ τ->xP X.K H G ->
  rJ es σ G (FstK X ps acc H Q)->Joins (model X.prog X.w) X.A X.xe (evalEach vs X.env) acc (fun out s1=>out.length<=sizeLine/\EP X pins τ Q (.str out s1.toks) { s1 with toks:=s1.toks+1 }) s:=by
 intro ps
 induction ps with
 |nil =>
  intro vs xs es acc pins s τ H σ G Q hp each I hs ab h
  cases vs with
  |cons _ _=>cases hp
  |nil =>
   cases hp
   cases es with
   |cons _ _=>exact each.elim
   |nil =>
    obtain ⟨ts,e,l,q⟩:=h;have q:=q H .refl ab;dsimp only[kQ] at q l;rw[zfN] at q;exact ⟨by rw[ZI];omega,.str acc,H,I.tok _,⟨_,rfl⟩,q⟩
 |cons p ps ih =>
  intro vs xs es acc pins s τ H σ G Q hp each I hs ab h
  cases p with
  |some a =>
   obtain ⟨j,po,vs',rfl,hq⟩:∃ j po vs',vs=.Constant (.str a) j po::vs'/\fstP ps vs'=some xs:=by
    unfold fstP at hp
    split at hp
    .rename_i e;cases e
    .rename_i b j po vs' e;cases e
     split at hp
     .rename_i e;cases eq_of_beq e;exact ⟨_,_,_,rfl,hp⟩
     .cases hp
    .rename_i e;cases e
    .cases hp
   show wpAny _ _ (eval (.Constant (.str a) j po) X.env) _ _ s
   by_cases hl:acc.length+a.length<=1000000
   .refine ZaT ⟨a,_,rfl,by rw[Zac,ZI];omega,ih vs' xs es (acc++a) pins _ τ H σ G Q hq each (I.tok _) hs ab (jY each σ G _ _ (fun ws G' z=>?_) h)⟩;obtain ⟨ts,e,l,q⟩:=z;dsimp only[kQ] at l q;rw[Zac] at l;exact ⟨ts,e,by rw[Zac];omega,fun H' g a'=>by rw[zfO];exact q H' g a'⟩
   .refine zaD (dB hx xs es pins s τ H σ G each I hs ab (jY each σ G _ _ (fun ws G' z=>?_) h));obtain ⟨ts,e,l,q⟩:=z;dsimp only[kQ] at l;rw[Zac] at l;omega
  |none =>
   obtain ⟨v,po,vs',xs',rfl,rfl,hq⟩:∃ v po vs' xs',vs=.FormattedValue v (-1) none po::vs'/\xs=v::xs'/\fstP ps vs'=some xs':=by
    unfold fstP at hp
    split at hp
    .rename_i e;cases e
    .rename_i e;cases e
    .rename_i v c sp po vs' e;cases e
     split at hp
     .rename_i e;simp only[Zl,beq_iff_eq,Option.isNone_iff_eq_none] at e;obtain ⟨rfl,rfl⟩:=e
      cases hq:fstP ps vs' with
      |none=>rw[hq] at hp;cases hp
      |some ys=>rw[hq] at hp;cases hp;exact ⟨_,_,_,_,rfl,rfl,hq⟩
     .cases hp
    .cases hp
   cases es with
   |nil=>exact each.elim
   |cons e es =>
    obtain ⟨m,pe,r⟩:=each;show wpAny _ _ (eval (.FormattedValue v (-1) none po) X.env) _ _ s
    refine wpAny_FormattedValue_plain (xY (pe pins s τ H (fun v' H1=>∃ w G1,xT X.K H1 w v'/\yM X.K H1 σ τ/\xP X.K H1 G1/\yK X.K H H1/\rJ es σ G1 fun ws G'=>FstK X (none::ps) acc H Q (w::ws) G') I
     (xJ m hs ab h fun w G1 v' H1 g1 hs1 rw1 a1 h=>⟨w,G1,rw1,hs1,a1,g1,h⟩)) fun u s1 ⟨v',H1,I1,ru,w,G1,rw1,hs1,a1,g1,h1⟩=>?_)
    by_cases hw:∃ y,txW w=some y/\acc.length+y.length<=1000000
    .obtain ⟨y,hy,hl⟩:=hw
     have go:∀ s2,Inv X pins τ H1 s2->Joins (model X.prog X.w) X.A X.xe (evalEach vs' X.env) (acc++y) (fun out s1=>out.length<=sizeLine/\EP X pins τ Q (.str out s1.toks) { s1 with toks:=s1.toks+1 }) s2:=fun s2 I2 =>
      ih vs' xs' es (acc++y) pins s2 τ H1 σ G1 Q hq r I2 hs1 a1 (jY r σ G1 _ _ (fun ws G' z=>by
       obtain ⟨ts,e,l,q⟩:=z
       cases ts with
       |nil=>cases e
       |cons t ts =>
        rw[zzU,zzU,hy] at e
        injection e with e1 e2
        cases e1;dsimp only[kQ] at l q;rw[Zac] at l;exact ⟨ts,e2,by rw[Zac];omega,fun H' g a'=>by rw[zfO];exact q H' (g1.trans g) a'⟩) h1)
     have hz:(acc++y).length<=sizeLine:=by rw[Zac,ZI];omega
     cases w with
     |str y' =>
      cases hy;cases (show v'=.str y from rw1);obtain ⟨t,rfl⟩:=ru;exact wpAny_formatField_str ⟨y,_,rfl,hz,go s1 I1⟩ ⟨y,_,rfl,hz,go _ (I1.tok _)⟩ (by rw[ZI];omega)
     |int i =>
      dsimp only[txW] at hy
      split at hy
      .rename_i hd;cases hy;cases (show v'=.int i from rw1);obtain ⟨t,rfl⟩:=ru;exact wpAny_formatField_int hd ⟨_,_,rfl,hz,go _ ((I1.tok _).tok _)⟩
      .cases hy
     |_=>cases hy
    .refine zaD (dB hx xs' es pins s1 τ H1 σ G1 r I1 hs1 a1 (jY r σ G1 _ _ (fun ws G' z=>hw ?_) h1));obtain ⟨ts,e,l,q⟩:=z
     cases ts with
     |nil=>cases e
     |cons t ts =>
      rw[zzU,zzU] at e
      injection e with e1 e2
      dsimp only[kQ] at l;rw[Zac] at l;exact ⟨t,e1,by omega⟩
def fP (ps:List (Option Str)):RS:=fun ws G Q=>∃ ts:List Str,ws.map txW=ts.map some/\(kQ ps ts).length<=1000000/\Q (.str (kQ ps ts)) G
theorem vD {ps:List (Option Str)}:qX (fP ps):=fun ws G Q Q' k ⟨ts,e,l,h⟩=>⟨ts,e,l,k _ _ h⟩
theorem dN {q:Pr} {A:Around} {ps:List (Option Str)}:SxE (q.at A) ⟨tQ ps,fP ps⟩:=by
 intro X fits e xs es he each hn pa;obtain ⟨a,b,r,p,rfl,he⟩:=zg5 (sc:=X.env.scope) he;refine ⟨fun pins s τ H Q I h=>?_,fun _=>rfl,fun _ _ _ z=>nomatch z⟩;obtain ⟨σ,G,hs,ab,h⟩:=h;refine wpAny_JoinedStr (zfg fits.xe ps _ xs es Str.empty pins s τ H σ G Q he each I hs ab (jY each σ G _ _ (fun ws G' z=>?_) h));obtain ⟨ts,e,l,q⟩:=z;exact ⟨ts,e,by rw[show Str.empty.length=0 from rfl];omega,fun H' g a'=>by rw[zma];exact q _ H' g rfl a'⟩
def tO (c:Nat):List Nat->List (List Nat)
 | []=>[[]]
 |k::r=>if k=c then []::tO c r else match tO c r with
  |h::t=>(k::h)::t
  | []=>[[k]]
theorem zh5 (c:Nat):∀ l,tO c l≠[]
 | []=>by simp[tO]
 |k::r=>by
  unfold tO
  split
  .simp
  .split<;>simp
theorem nC {c:Nat}:∀ {l:List Nat},c∉l->tO c l=[l]
 | [],_=>rfl
 |k::r,h=>by
  simp only[Zd,not_or] at h;unfold tO;rw[if_neg (Ne.symm h.1),nC h.2]
theorem zcb {c:Nat}:∀ (a b:List Nat),tO c (a++c::b)=tO c a++tO c b
 | [],b=>by show tO c (c::b)=[[]]++tO c b;rw[tO,if_pos rfl];rfl
 |k::a,b=>by
  show tO c (k::(a++c::b))=tO c (k::a)++tO c b;rw[tO,zcb a b,tO]
  split
  .rfl
  .cases h:tO c a with
   |nil=>exact absurd h (zh5 c a)
   |cons x t=>rfl
theorem zc6 {c:Nat}:∀ (ps:List Str),ps≠[]->(∀ p∈ps,c∉p.cps.toList)->tO c (Str.join ⟨#[c]⟩ ps).cps.toList=ps.map (·.cps.toList)
 | [],h,_=>absurd rfl h
 | [p],_,h=>nC (h p zzT)
 |p::q::r,_,h=>by
  have ih:=zc6 (q::r) (by simp) fun a ha=>h a (Zc _ ha);show tO c (p++⟨#[c]⟩++Str.join ⟨#[c]⟩ (q::r)).cps.toList=_;rw[ZaC,ZaC,Zag,Zag,ZZ];show tO c (p.cps.toList++c::(Str.join ⟨#[c]⟩ (q::r)).cps.toList)=_;rw[zcb,ih,nC (h p zzT)];rfl
theorem zf6 (x:Str) (c:Nat):Txt.split x ⟨#[c]⟩≠[]:=by
 unfold Txt.split
 split
 .simp
 .split
  .simp
  .intro h;have:=congrArg List.length h;rw[Zbv] at this;simp at this
theorem zaL (x:Str) (c:Nat):(Txt.split x ⟨#[c]⟩).map (·.cps.toList)=tO c x.cps.toList:=by
 have h:=zc6 (c:=c) (Txt.split x ⟨#[c]⟩) (zf6 x c) (StrLaws.split_free x c);rw[StrLaws.join_split] at h;exact h.symm
theorem zd8 {a b:Str} (h:a.cps.toList=b.cps.toList):a=b:=Str.ext' (Array.toList_inj.mp h)
theorem zcw (x:Str) (c:Nat):Txt.split x ⟨#[c]⟩=(tO c x.cps.toList).map fun l=>⟨l.toArray⟩:=by
 rw[← zaL,ZaH]
 conv=>lhs;rw[← List.map_id (Txt.split x ⟨#[c]⟩)]
 exact List.map_congr_left fun a _=>by simp
def wd (l:List Nat):List (List Nat):=(tO 32 l).filter fun w=>!w.isEmpty
theorem zj8:wd []=[]:=rfl
theorem qQ (a b:List Nat):wd (a++32::b)=wd a++wd b:=by unfold wd;rw[zcb,List.filter_append]
theorem zdU (b:List Nat):wd (32::b)=wd b:=qQ [] b
theorem zij {l:List Nat} (h:32∉l):wd l=if l.isEmpty then [] else [l]:=by
 unfold wd;rw[nC h];cases l<;>rfl
theorem zaE:∀ (n:Nat) (b:List Nat),wd (List.replicate n 32++b)=wd b
 | 0,_=>rfl
 |n+1,b=>by rw[ZQ];exact (zdU _).trans (zaE n b)
theorem zj7:∀ (n:Nat) (a:List Nat),wd (a++List.replicate n 32)=wd a
 | 0,a=>by simp
 |n+1,a=>by rw[ZQ,qQ,show List.replicate n 32=List.replicate n 32++[] by simp,zaE,zj8,ZC]
end L3
namespace L3
open PySem PySem.Spec PyProof.Rows L2 PySem.SeqAt PySem.Builtin PySem.Builtin.Str PySem.StrLaws
inductive Rp (y z:List Nat):List Nat->List Nat->Prop where
 |nil:Rp y z [] []
 |hit {r s:List Nat}:Rp y z r s->Rp y z (y++r) (z++s)
 |skip {k:Nat} {r s:List Nat}:¬ y <+: k::r->Rp y z r s->Rp y z (k::r) (k::s)
theorem Rp.det {y z:List Nat} (hy:y≠[]):∀ {x s s':List Nat},Rp y z x s->Rp y z x s'->s=s':=by
 intro x s s' h
 induction h generalizing s' with
 |nil =>
  intro h';generalize e:([]:List Nat)=x at h'
  cases h' with
  |nil=>rfl
  |hit _=>exact absurd (List.append_eq_nil_iff.mp e.symm).1 hy
  |skip _ _=>cases e
 | @hit r s _ ih =>
  intro h';generalize e:y++r=x at h'
  cases h' with
  |nil=>exact absurd (List.append_eq_nil_iff.mp e).1 hy
  |hit h2=>rw[List.append_cancel_left e] at ih;rw[ih h2]
  |skip n _=>exact absurd ⟨r,e⟩ n
 | @skip k r s n _ ih =>
  intro h';generalize e:k::r=x at h'
  cases h' with
  |nil=>cases e
  |hit h2=>exact absurd ⟨_,e.symm⟩ n
  |skip n2 h2=>cases e;rw[ih h2]
theorem zdb (x y:Str) (i:Nat) (hi:i<=x.length):At x y x.length i↔y.cps.toList <+: x.cps.toList.drop i:=by
 unfold At;rw[subAt_eq,beq_iff_eq]
 constructor
 .intro h;exact ⟨_,by rw[← h.2];exact List.take_append_drop _ _⟩
 .rintro ⟨t,e⟩;rw[← e];have l:=congrArg List.length e;rw[zzW,ZX] at l;have ly:y.cps.toList.length=y.length:=by simp[Str.length]
  have lx:x.cps.toList.length=x.length:=by simp[Str.length]
  refine ⟨by omega,?_⟩;rw[← ly,List.take_left]
theorem qZ (x:Str):x.cps.toList.length=x.length:=by simp[Str.length]
theorem zbO {y z:List Nat} {x:List Nat} {s:List Nat}:∀ (n a:Nat),a+n<=x.length->(∀ k,a<=k->k<a+n->¬ y <+: x.drop k)->Rp y z (x.drop (a+n)) s->Rp y z (x.drop a) ((x.drop a).take n++s)
 | 0,a,_,_,h=>by simpa using h
 |n+1,a,hl,hn,h=>by
  have ih:=zbO n (a+1) (by omega) (fun k h1 h2=>hn k (by omega) (by omega)) (by rw[show a+1+n=a+(n+1) by omega];exact h);have e:x.drop a=x[a]::x.drop (a+1):=by rw[ZaN (by omega)]
  rw[e,Zbs];refine .skip ?_ ih;rw[← e];exact hn a (zzR _) (by omega)
theorem zhv {y z:List Nat} (hy:y≠[]) {x:List Nat} {a:Nat} (ha:a<=x.length) (hn:∀ k,a<=k->k<x.length->¬ y <+: x.drop k):Rp y z (x.drop a) (x.drop a):=by
 have:=zbO (z:=z) (s:=[]) (x.length-a) a (by omega) (fun k h1 h2=>hn k h1 (by omega)) (by rw[show a+(x.length-a)=x.length by omega,ZbR];exact .nil)
 rwa[ZC,Z4 (by rw[ZX];omega)] at this
theorem zcA {x y z:Str} (hy:y.cps.toList≠[]):∀ (cuts:List Nat) (a f:Nat),a<=x.length->ChainG x y x.length a cuts f->(∀ k,f<=k->¬ At x y x.length k)->Rp y.cps.toList z.cps.toList (x.cps.toList.drop a) (Str.join z (partsFrom x y.length a cuts)).cps.toList
 | [],a,f,ha,hc,hn=>by
  have e:f=a:=hc;subst e;show Rp _ _ _ (strSub x f x.length).cps.toList;rw[strSub_toList,← qZ x,Z4 (by rw[ZX];exact zzR _)];exact zhv hy (by rw[qZ];exact ha) fun k h1 h2 z=>hn k h1 ((zdb x y k (by rw[qZ] at h2;omega)).mpr z)
 |c::r,a,f,ha,hc,hn=>by
  obtain ⟨h1,h2,h3,h4⟩:=hc;have hcl:c+y.length<=x.length:=h2.1;have ih:=zcA (z:=z) hy r (c+y.length) f hcl h4 hn;obtain ⟨p,q,e⟩:=partsFrom_ne x y.length (c+y.length) r
  have ej:Str.join z (partsFrom x y.length a (c::r))=strSub x a c++z++Str.join z (partsFrom x y.length (c+y.length) r):=by
   show Str.join z (strSub x a c::partsFrom x y.length (c+y.length) r)=_;rw[e];rfl
  rw[ej];simp only[ZaC,Zag];rw[strSub_toList,ZZ]
  have hit:Rp y.cps.toList z.cps.toList (x.cps.toList.drop c) (z.cps.toList++(Str.join z (partsFrom x y.length (c+y.length) r)).cps.toList):=by
   obtain ⟨t,et⟩:=(zdb x y c (by omega)).mp h2
   have:t=x.cps.toList.drop (c+y.length):=by
    rw[← List.drop_drop,← et,← qZ y,List.drop_left]
   rw[← et,this];exact .hit ih
  have:=zbO (z:=z.cps.toList) (c-a) a (by rw[qZ];omega) (fun k k1 k2 w=>h3 k k1 (by omega) ((zdb x y k (by omega)).mpr w)) (by rw[show a+(c-a)=c by omega];exact hit);exact this
theorem zkK (x y z:Str) (hy:1<=y.length):Rp y.cps.toList z.cps.toList x.cps.toList (Txt.replace x y z).cps.toList:=by
 have hy':y.cps.toList≠[]:=fun e=>by have:=qZ y;rw[e] at this;simp at this;omega
 obtain ⟨f,hc,hn⟩:=occ_tight x y hy;unfold Txt.replace;have y0:(y.length==0)=false:=by simp;omega
 rw[y0,Bool.false_and,Bool.or_false]
 split
 .rename_i e;have e:=List.isEmpty_iff.mp e;rw[e] at hc;have ef:f=0:=hc;subst ef;have:=zhv (z:=z.cps.toList) hy' (x:=x.cps.toList) (a:=0) (ZS _) fun k h1 h2 w=>hn k h1 ((zdb x y k (by rw[qZ] at h2;omega)).mpr w);simpa using this
 .rw[glued_eq_join,partsBetween_eq];have:=zcA (z:=z) hy' _ 0 f (ZS _) hc hn;simpa using this
end L3
namespace L3
open PySem PySem.Spec PyProof.Rows L2 HT
section
variable {prog:Program} {w:World} {A:Around} {E:Value->Shared->Prop} {s:Shared}
theorem zhX {f:Nat->Option Value} {g:Nat->Value}:∀ {l:List Nat},(∀ m∈l,f m=some (g m))->l.filterMap f=l.map g
 | [],_=>rfl
 |a::l,h=>by
  rw[List.filterMap_cons_some (h a zzT),zzU,zhX fun m hm=>h m (Zc _ hm)]
theorem zcC (xs:Array Value):((List.range xs.size).filterMap fun (m:Nat)=>xs[(((xs.size:Int)-1)+(m:Int) * (-1)).toNat]?).toArray=xs.toList.reverse.toArray:=by
 congr 1;rw[zhX (g:=fun m=>xs.toList.reverse.getD m Value.none)]
 .have:=kC Value.none xs.toList.reverse;rw[Zw,ZH] at this;exact this
 .intro m hm;have hm:m<xs.size:=ZaO.mp hm;have e1:(((xs.size:Int)-1)+(m:Int) * (-1)).toNat=xs.size-1-m:=by omega
  have h2:xs.size-1-m<xs.size:=by omega
  rw[e1,Array.getElem?_eq_getElem h2,List.getD_eq_getElem?_getD,Zbc (by simpa using hm)];simp[h2]
theorem zej {sl:Addr} {n:Nat} {t:Tok} {Q:Int×Int×Nat->Shared->Prop} (hs:s.heap.IsSliceOf sl .none .none (.int (-1) t)) (h:Q ((n:Int)-1,-1,n) s):wpAny (model prog w) A (Builtin.Slice.sliceApplied (.ref sl) (pure (n:Int))) Q E s:=by
 obtain ⟨os,hos,hcs,hds⟩:=id hs;unfold Builtin.Slice.sliceApplied Builtin.Slice.sliceFields;refine Zb (Zb (Zby hos hds (x:=.none) rfl (Zb (Zby hos hds (x:=.none) rfl (Zb (Zby hos hds (x:=.int (-1) t) rfl (Zg ?_)))))));refine Zb (slicePart_int ?_);show wpAny (model prog w) _ (if ((-1:Int)==0)=true then _ else _) _ _ s;rw[if_neg (by decide)];refine Zb (ZbF (Zb (ZbF (Zb (Zg ?_)))))
 have e:Builtin.Slice.slicePlaces ((n:Int)-1) (-1) (-1)=n:=by
  unfold Builtin.Slice.slicePlaces;rw[if_neg (by decide),show (-(-1):Int)=1 from rfl,Int.ediv_one]
  split<;>omega
 show wpAny (model prog w) _ (pure ((n:Int)-1,(-1:Int),Builtin.Slice.slicePlaces ((n:Int)-1) (-1) (-1))) _ _ s;rw[e];exact Zg h
theorem zjx {t sl:Addr} {items:Array Value} {tk:Tok} {Q:Value->Shared->Prop} (ht:IsTup s.heap t items) (hs:s.heap.IsSliceOf sl .none .none (.int (-1) tk)) (hsz:items.size<=sizeLine)
  (h:Q (.ref s.heap.objs.size) { s with heap:=s.heap.push { cls:=.type "tuple", data:=.seq items.toList.reverse.toArray } }):wpAny (model prog w) A (getItem (.ref t) (.ref sl)) Q E s:=by
 obtain ⟨os,hos,hcs,hds⟩:=id hs;have hTs:s.TypeIs (.ref sl) "slice" := ⟨os,hos,hcs⟩
 have hok:sizeOk (.seq items.toList.reverse.toArray):=by
  show items.toList.reverse.toArray.size<=sizeLine;rw[zzS,Zw,ZH];exact hsz
 unfold getItem
 try with_reducible refine ZK ?_
 first|refine Zb (Zg ?_)|skip
 refine Zb (Za9 ht.typeIs (by decide) ?_);refine Zb (ZU (name:=Str.ofString "__getitem__") ht.typeIs Zu (ZY Zu ht.typeIs Zbu ?_ (ZbD _ _)));refine Zb (m:=Builtin.Tuple.tupleItemsOf (.ref t)) (Zb8 ht ?_);refine Zb (ZbE hTs ?_);rw[if_pos (by decide)];refine Zb (zej hs ?_);dsimp only;rw[if_neg (by simp),zcC]
 first
  |exact Zb (m:=Builtin.Tuple.tupleExact _) (Zaf (Zg ⟨_,rfl,Zg h⟩) hok)
  |exact Zb (Zb (m:=Builtin.Tuple.tupleExact _) (Zaf (Zg ⟨_,rfl,Zg h⟩) hok))
end
def rvM:Scope->Expr->Option (List Expr):=fun _ e=>match e with
 | .Subscript l (.Slice none none (some (.UnaryOp .USub (.Constant (.int i) _ _) _)) _) _=>if i=1 then some [l] else none
 |_=>none
def rvS:RS:=fun ws G Q=>match ws with
 | [.tup xs]=>Q (.tup xs.reverse) G
 | [.ref p]=>∃ xs,yP G p=some xs/\∀ r,G r=none->Q (.ref r) (put G r (.lst xs.reverse))
 |_=>False
theorem zgf:qX rvS:=by
 intro ws G Q Q' k h;unfold rvS at h ⊢
 split at h
 .exact k _ _ h
 .obtain ⟨xs,e,h⟩:=h;exact ⟨xs,e,fun r hr=>k _ _ (h r hr)⟩
 .exact h.elim
theorem zgu (xs:Array Value):slicePick xs none none (some (-1))=xs.toList.reverse.toArray:=by
 rw[← zcC];unfold slicePick sliceBounds sliceRange;congr 1;simp only[Option.getD_some,show ¬ ((-1:Int) > 0) by decide,if_false]
 have e:(if (xs.size:Int)-1 > -1 then ((xs.size:Int)-1 - -1 - -1-1) / - -1 else 0).toNat=xs.size:=by
  rw[show (- -1:Int)=1 from rfl,Int.ediv_one]
  split<;>omega
 rw[e,ZaW];congr 1
 funext m
 show xs[(((xs.size:Int)-1)+(-1) * (m:Int)).toNat]?=_;rw[Int.mul_comm]
theorem zix {sc:Scope} {e:Expr} {xs:List Expr} (h:rvM sc e=some xs):∃ l a p1 p3 p2 pos,e=.Subscript l (.Slice none none (some (.UnaryOp .USub (.Constant (.int 1) a p1) p3)) p2) pos/\xs=[l]:=by
 unfold rvM at h
 split at h
 .rename_i l i a p1 p3 p2 pos
  split at h
  .rename_i hb;subst hb;cases h;exact ⟨l,a,p1,p3,p2,pos,rfl,rfl⟩
  .cases h
 .cases h
theorem yZ.reverse {vs:List V} {us:List Value} (h:yZ vs us):yZ vs.reverse us.reverse:=by
 induction h with
 |nil=>exact .nil
 |cons a _ ih=>rw[ZO,ZO];exact ih.append (.cons a .nil)
theorem sx_rv {q:Pr} {A:Around}:SxE (q.at A) ⟨rvM,rvS⟩:=by
 intro X fits e xs es he each hn pa;obtain ⟨l,k,p1,p3,p2,pos,rfl,rfl⟩:=zix (sc:=X.env.scope) he
 match es,each with
 | [t],each =>
  refine ⟨fun pins s σ H Q I h=>?_,fun _=>rfl,fun _ _ _ z=>nomatch z⟩;obtain ⟨σ3,G,hs,ab,h⟩:=h;refine Subscript_ (xY (each.2.1 pins s σ H (fun v H1=>∃ ys vs a G1,v=.ref a/\zB X.K H1 ys vs/\xP X.K H1 G1/\yK X.K H H1/\((pR X.K H1 a vs/\uP X.K H Q (.tup ys.reverse) G1)\/(mY X.K H1 a vs/\∀ r,G1 r=none->uP X.K H Q (.ref r) (put G1 r (.lst ys.reverse))))) I ⟨σ3,G,hs,ab,each.1 σ3 G _ _ (fun w G1 h=>?_) h⟩) fun v s1 ⟨x,H1,I1,r1,q1⟩=>?_)
  .intro v H1 g1 rv a1;have h:rvS [w] G1 (uP X.K H Q):=h;unfold rvS at h
   split at h
   .rename_i ys ew;cases ew;obtain ⟨a,vs,rfl,sq,rr⟩:=rv;exact ⟨ys,vs,a,G1,rfl,rr,a1,g1,.inl ⟨sq,h⟩⟩
   .rename_i p ew;cases ew;obtain ⟨ys,e,h⟩:=h;cases (show v=.ref p from rv);obtain ⟨vs,sq,rr⟩:=a1.seq e;exact ⟨ys,vs,p,G1,rfl,rr,a1,g1,.inr ⟨sq,h⟩⟩
   .exact h.elim
  .obtain ⟨ys,vs,a,G1,rfl,rr,a1,g1,q⟩:=q1;cases (show v=Value.ref a from r1);refine wpAny_Slice ?_;rw[Zb4];refine Zg (Zg ?_);rw[evalPart_some];refine xY (zk1 (pos:=p3) zhm (zhE (i:=1) (j:=k) (pos:=p1)) pins s1 σ H1 (fun v H2=>v=.int (-1)/\H2=H1) I1 ⟨1,rfl,rfl,rfl⟩) fun u s2 ⟨y,H2,I2,r2,e1,e2⟩=>?_;subst e1 e2;obtain ⟨tk,rfl⟩:=r2;have I3:Inv X pins σ H2 { s2 with heap:=s2.heap.push { cls:=.type "slice", data:=.fields #[.none,.none,.int (-1) tk] } }:=I2.kept (t':=s2.toks) fun b ob q=>Za _ q;show wpAny (model X.prog X.w) X.A (subscriptTail l (.Slice none none (some (.UnaryOp .USub (.Constant (.int 1) k p1) p3)) p2) (.ref a) (.ref s2.heap.objs.size)) (EP X pins σ Q) X.xe { s2 with heap:=s2.heap.push { cls:=.type "slice", data:=.fields #[.none,.none,.int (-1) tk] } };have hsl:=Heap.IsSliceOf.new s2.heap .none .none (.int (-1) tk);have sz:s2.heap.objs.size<(s2.heap.push { cls:=.type "slice", data:=.fields #[.none,.none,.int (-1) tk] }).objs.size:=by rw[ZJ];exact Zbj _
   generalize s2.heap.push { cls:=.type "slice", data:=.fields #[.none,.none,.int (-1) tk] }=h0 at I3 hsl sz ⊢;have hn:H2 h0.objs.size=none:=I3.hok.fresh (zzR _);rcases q with ⟨sq,q⟩|⟨sq,q⟩
   .obtain ⟨its,vv,ht,hz⟩:=I3.tuple sq;have hlen:its.toArray.size=vs.length:=by rw[zzS];exact vv.length.symm
    refine Zb7 (ops:=[.ref a,.ref s2.heap.objs.size]) ht.typeIs Zu.lookup (zjx ht hsl (by rw[hlen];exact hz) ?_) (by with_unfolding_all rfl);refine ⟨.ref _,_,I3.laid (t':=s2.toks) (o:=.tup vs.reverse) (fun b ob q=>Za _ q) (zzR _) ⟨by rw[Zw];exact hz,its.reverse,vv.reverse,?_⟩,rfl,?_⟩
    .have:=Zb3 h0 its.reverse.toArray;simpa using this
    .have g2:yK X.K H2 (xC H2 h0.objs.size (.tup vs.reverse)):=wP hn;exact q _ _ (g1.trans g2) ⟨_,_,rfl,pR.of wN,rr.reverse.mono g2⟩ (a1.tup hn)
   .obtain ⟨its,vv,pl,hz⟩:=I3.list sq;have hlen:its.toArray.size=vs.length:=by rw[zzS];exact vv.length.symm
    have ht:=pl.isList;refine Zb7 (ops:=[.ref a,.ref s2.heap.objs.size]) ht.typeIs list_getitem_lookup (wpAny_getItem_list_slice ht hsl .none .none (.int (-1) tk) (by simp) ?_ (by rw[hlen];exact hz)) (by with_unfolding_all rfl);rw[zgu];refine ⟨.ref _,_,I3.laid (t':=s2.toks) (o:=.lst vs.reverse) (fun b ob q=>Za _ q) (zzR _) ⟨by rw[Zw];exact hz,its.reverse,0,vv.reverse,?_⟩,rfl,?_⟩
    .simpa using Zk h0 (o:={ cls:=.type "list", data:=.seq its.reverse.toArray }) rfl
    .exact qM (Q:=Q) a1 rr.reverse (fun p hp v' H' g'=>q p hp v' H' (g1.trans g')) _ hn
def hcM (y:Str):Scope->Expr->Option (List Expr):=fun _ e=>match e with
 | .Call (.Name x q) [a] [] _=>if (x==y)=true then some [.Name x q,a] else none
 |_=>none
def hcS (f:Addr) (sp:vW):RS:=fun ws G Q=>match ws with
 | [.ref p,w]=>p=f/\sp [w] G Q XN
 |_=>False
theorem zcV {f:Addr} {sp:vW} (mono:∀ ws G (Q Q':Q3),(∀ w G',Q w G'->Q' w G')->sp ws G Q XN->sp ws G Q' XN):qX (hcS f sp):=by
 intro ws G Q Q' k h;unfold hcS at h ⊢
 split at h
 .exact ⟨h.1,mono _ _ _ _ k h.2⟩
 .exact h.elim
theorem zjw {y:Str} {sc:Scope} {e:Expr} {xs:List Expr} (h:hcM y sc e=some xs):∃ x q a pos,e=.Call (.Name x q) [a] [] pos/\xs=[.Name x q,a]:=by
 unfold hcM at h
 split at h
 .rename_i x q a pos
  split at h
  .cases h;exact ⟨x,q,a,pos,rfl,rfl⟩
  .cases h
 .cases h
theorem zks {q:Pr} {k:Nat} {y:Str} {f:Addr} {fd:FuncData} {ps:List Str} {sp:vW} (FO:FnOk q.prog q.w q.K q.mg q.base CX0 k f fd ps (tX q.K sp)) (hk:PySem.W.keepIn q.K (.ref f)=true) (hb:rM q.K fd ps [])
  (mono:∀ ws G (Q Q':Q3),(∀ w G',Q w G'->Q' w G')->sp ws G Q XN->sp ws G Q' XN) {A:Around} (hr:Room k A):SxE (q.at A) ⟨hcM y,hcS f sp⟩:=by
 intro X fits e xs es he each hn pa;obtain ⟨x,qp,a,pos,rfl,rfl⟩:=zjw (sc:=X.env.scope) he;have e:=fits.eq
 injection e with e1 e2 e3 e4 e5 e6
 subst e6;rw[e1,e2,e3,e4,e5] at FO;rw[e3] at hk hb
 match es,each with
 | [t1,t2],each =>
  refine ⟨fun pins s σ H Q I h=>?_,fun _=>rfl,fun _ _ _ z=>nomatch z⟩;obtain ⟨σ3,G,hs,ab,h⟩:=h;have hn2:([a]:List Expr).all xE=true:=by simpa[xE] using hn
  obtain ⟨s1,s2⟩:=wS (env:=X.env) (pos:=pos) hn2
  have p2:PA X [a] (nQ X.K (rJ [t2])):=(zeA each.2.2.2.1 zhG s1).imp fun τ H Q h=>by
   obtain ⟨σ,G,hs,ab,h⟩:=h;refine ⟨σ,G,hs,ab,each.2.2.1 σ G _ _ (fun w G1 h=>?_) h⟩;intro v H1 g1 rv a1;exact h [v] H1 g1 ⟨v,[],rfl,rv,rfl⟩ a1
  refine Z9 (xY (each.2.1 pins s σ H (fun v H1=>∃ w G1,xT X.K H1 w v/\xP X.K H1 G1/\yK X.K H H1/\t2 σ3 G1 fun u G2=>hcS f sp [w,u] G2 (uP X.K H Q)) I ⟨σ3,G,hs,ab,each.1 σ3 G _ _ (fun w G1 h v H1 g1 rv a1=>⟨w,G1,rv,a1,g1,h⟩) h⟩) fun v s3 ⟨x1,H1,I1,r1,w,G1,rw1,a1,g1,q1⟩=>?_);have hA:=p2 pos pins s3 σ H1 (fun ys H2=>(∃ z,ys=[z]/\v=Value.ref f/\tX X.K sp [z] H2 Q (fun _ _ _=>False))) I1 ⟨σ3,G1,hs.mono g1,a1,each.2.2.1 σ3 G1 _ _ (fun u G2 hq=>?_) q1⟩
  .rw[s1] at hA ⊢;refine PySem.W.callWith_of (P:=fun h=>X.K.In h/\v=Value.ref f) (by show ((false || (backTo pos (starEach [] X.env)).any (·.1)) || false)=false;rfl) (fun h z=>by rw[z.2];exact PySem.W.keeps_K hk h z.1) (ZaM (xY hA fun us s4 ⟨ys,H2,I2,r2,z,ez,ev,q2⟩=>⟨⟨I2.kIn,ev⟩,?_⟩));subst ez;subst ev;exact zeq (ds:=[]) (dvs:=[]) FO hr hb .nil ziY I2 r2 q2
  .intro ys H2 g2 rs a2;obtain ⟨z,rfl,rz⟩:=vE rs;unfold hcS at hq
   split at hq
   .rename_i p u' ew;cases ew;obtain ⟨rfl,hq⟩:=hq;cases (show x1=.ref p from rw1);cases (show v=Value.ref p from r1);exact ⟨z,rfl,rfl,[u],G2,rs,a2,mono _ _ _ _ (fun w' G' h v' H' g'=>h v' H' (g1.trans (g2.trans g'))) hq⟩
   .exact hq.elim
end L3
namespace L3
open PySem PySem.Spec PyProof.Rows L2 PySem.SeqAt
def gt2M (d:Str):Scope->Expr->Option (List Expr):=fun sc e=>match e with
 | .Call (.Attribute (.Name x _) y apos) [a,b] [] cpos=>if (x==d&&pU sc x&&y==("get" : Str)&&(apos.endLine==cpos.line))=true then some [a,b] else none
 |_=>none
def gt2S (ks:List Str) (vs:List W):RS:=fun ws G Q=>match ws with
 | [.str k,w]=>Q (((ks.zip vs).lookup k).getD w) G
 |_=>False
theorem zfc (ks:List Str) (vs:List W):qX (gt2S ks vs):=by
 intro ws G Q Q' k h;unfold gt2S at h ⊢
 split at h
 .exact k _ _ h
 .exact h.elim
theorem zg1 {d:Str} {sc:Scope} {e:Expr} {xs:List Expr} (h:gt2M d sc e=some xs):∃ q apos a b cpos,e=.Call (.Attribute (.Name d q) "get" apos) [a,b] [] cpos/\xs=[a,b]/\pU sc d=true/\(apos.endLine==cpos.line)=true:=by
 unfold gt2M at h
 split at h
 .rename_i x q y apos a b cpos
  split at h
  .rename_i hb;obtain ⟨⟨⟨h1,h2⟩,h3⟩,h4⟩:=bd4 hb;cases eq_of_beq h1;cases eq_of_beq h3;cases h;exact ⟨q,apos,a,b,cpos,rfl,rfl,h2,h4⟩
  .cases h
 .cases h
theorem zlE {X:Cx} {pins:List (Addr×Obj)} {σ:L2.St} {H:Hp} {s:Shared} {a:Addr} {ks:List Str} {vs:List V} {k:Str} {u ud:Value} {d:V} {Q:VK} (I:Inv X pins σ H s) (h:KD X.K a ks vs) (ru:yW (.str k) u) (rd:yW d ud) (q:Q (((ks.zip vs).lookup k).getD d) H) :
  wpAny (model X.prog X.w) X.A (call (.builtin "dict.get") [.ref a,u,ud]) (EP X pins σ Q) X.xe s:=by
 have hT:=zgS I h;have hd:(a==sysModules)=false:=by obtain ⟨o,es,ep,l,_,_,_,z,_⟩:=h;exact z
 obtain ⟨tk,rfl⟩:=ru;refine wpAny_call (codeAny_call_builtin Zbg.plain PySem.F.entry_dict_get (Zbg.check _ _ _ _ _ _ _ _ hT (PySem.F.args_dict_get_3 _ _ _) ?_));show wpAny (model X.prog X.w) _ (dictGet a (.str k tk) >>= _) _ _ s;refine Zb (ze6 I h ?_);revert q
 cases (ks.zip vs).lookup k with
 |some v=>exact fun q u s' r J=>Zg ⟨v,H,J,r,q⟩
 |none =>
  intro q s' J;show wpAny _ _ (Builtin.Dict.missed a (.str k tk) >>= _) _ _ _;exact Zb (wpAny_missed_other hd (Zg ⟨d,H,J,rd,q⟩))
theorem zkt {q:Pr} {A:Around} {d:Str} {ks:List Str} {vs:List W} (g:GlE (q.at A) (d,.dcf ks vs)):SxE (q.at A) ⟨gt2M d,gt2S ks vs⟩:=by
 intro X fits e xs es he each hn pa;obtain ⟨qp,apos,a,b,cpos,rfl,rfl,hg,hline⟩:=zg1 he;obtain ⟨gl,d1,n1⟩:=zdx (X:=X) rfl hg
 match es,each with
 | [t,t'],each =>
  refine ⟨fun pins s σ H Q I h=>?_,fun _=>rfl,fun _ _ _ z=>nomatch z⟩;obtain ⟨σ3,G,hs,ab,h⟩:=h;have po:=g X fits gl qp d1 n1;obtain ⟨s1,s2⟩:=wS (env:=X.env) (pos:=cpos) hn;refine wpAny_Call_method_late (uD rfl) ?_ hline rfl (xY (po pins s σ H (fun v H1=>yK X.K H H1/\xP X.K H1 G/\xT X.K H1 (.dcf ks vs) v) I ⟨σ3,G,hs,ab,fun v H' gr rp ab'=>⟨gr,ab',rp⟩⟩) fun v s3 ⟨x,H1,I1,r1,g1,a1,p,us,ex,kd,rr⟩=>?_)
  .rw[zaz hn];rfl
  .subst ex;cases (show v=Value.ref p from r1);have hT:=zgS I1 kd;refine ⟨"dict", "dict.get", PySem.F.plainAttrs_dict,Zbg,PySem.F.type_dict_get,hT,fun b e=>?_,?_⟩
   .cases e;obtain ⟨o,es,ep,l,hc,_⟩:=kd;exact ⟨o,I1.kIn _ _ l,hc.2.1⟩
   .have hA:=pa cpos pins s3 σ H1 (fun ys H2=>∃ k d,ys=[.str k,d]/\Q (((ks.zip us).lookup k).getD d) H2) I1 ⟨σ3,G,hs.mono g1,a1,?_⟩
    .rw[s1] at hA ⊢;refine ZaD (by show (false || (backTo cpos (starEach [b] X.env)).any (·.1))=false;rw[s2];rfl) (ZaM ?_);refine xY hA fun ws s4 ⟨ys,H2,I2,r2,k,d,e2,q2⟩=>?_;subst e2;obtain ⟨u,ud,rfl,ru,rd⟩:=zdV r2;exact zlE I2 kd ru rd q2
    .refine jY each σ3 G _ _ (fun ws G1 h=>?_) h;intro ys H2 g2 rs a2;replace h:gt2S ks vs ws G1 (uP X.K H Q):=h;unfold gt2S at h
     split at h
     .rename_i k w0;obtain ⟨y,yd,rfl,ry,rd⟩:=zet rs;cases (show y=.str k from ry);refine ⟨k,yd,rfl,?_⟩
      cases hk:(ks.zip vs).lookup k with
      |some w' =>
       obtain ⟨v',e',rv⟩:=vQ rr hk;rw[hk] at h;rw[e'];exact h v' H2 (g1.trans g2) (rv.mono g2) a2
      |none =>
       rw[hk] at h;rw[sO rr hk];exact h yd H2 (g1.trans g2) rd a2
     .exact h.elim
section
variable {q:Pr} {k:Nat} {M1 M2:MC} {n1 n2 q1 q2:Str} {st1 st2:Stmt} {f1 f2:Addr} {fd1 fd2:FuncData} {ps1 ps2:List Str} {sp1 sp2:Nat->vW} {b1 b2:ISs} {Γ:Fn3->Ctx3}
end
end L3
namespace L3
open PySem PySem.Spec PyProof.Rows L2 PySem.SeqAt PySem.Builtin PySem.Builtin.Str
def zdl:MS:=fun x ws G Q=>match x,ws with
 | .str x,[.str y]=>(y.length==0)=false/\x.length<=1000000/\Q (.tup [.str (Txt.partition x y).1,.str (Txt.partition x y).2.1,.str (Txt.partition x y).2.2]) G
 |_,_=>False
theorem cM:∀ x ws G (Q Q':Q3),(∀ w G',Q w G'->Q' w G')->zdl x ws G Q->zdl x ws G Q':=by
 intro x ws G Q Q' k h;unfold zdl at h ⊢
 split at h
 .exact ⟨h.1,h.2.1,k _ _ h.2.2⟩
 .exact h.elim
theorem ziZ {X:Cx}:MtR X "str.partition" (lowM X.K zdl):=by
 intro pins s σ H x xs v us Q I rx rxs h;obtain ⟨w,ws,G,rw1,rs,ab,h⟩:=h;unfold zdl at h
 split at h
 .rename_i x' y;cases (show x=.str x' from rw1);obtain ⟨z,rfl,rz⟩:=vE rs;cases (show z=.str y from rz);obtain ⟨u,rfl,ru⟩:=vH rxs;obtain ⟨t',rfl⟩:=ru;obtain ⟨t,rfl⟩:=rx;obtain ⟨hy,hx,h⟩:=h;have hn:H s.heap.objs.size=none:=I.hok.fresh (zzR _);refine qI I.tk (Zae F.slot_str_partition (Za7 _ _ _) F.entry_str_partition (F.args_str_partition_2 _ _) (meets_str_partition x' y t t' hy (by rw[ZI];omega)) ?_)
  have fin:∀ (a b c:Str) (ta tb tc k:Tok),a=(Txt.partition x' y).1->b=(Txt.partition x' y).2.1->c=(Txt.partition x' y).2.2->0<k->EP X pins σ Q (.ref s.heap.objs.size) { s with toks:=k,heap:=s.heap.push { cls:=.type "tuple", data:=.seq [.str a ta,.str b tb,.str c tc].toArray } }:=by
   rintro _ _ _ ta tb tc k rfl rfl rfl h0;exact ⟨.ref s.heap.objs.size,_,I.laid (o:=.tup [.str _,.str _,.str _]) (fun b ob q=>Za _ q) (zzR _) ⟨by show 3<=sizeLine;decide,[.str _ ta,.str _ tb,.str _ tc],.cons ⟨_,rfl⟩ (.cons ⟨_,rfl⟩ (.cons ⟨_,rfl⟩ .nil)),Zb3 _ _⟩ h0,rfl,pG ab (mX [(Txt.partition x' y).1,(Txt.partition x' y).2.1,(Txt.partition x' y).2.2]) h _ hn⟩
  unfold Txt.partition at fin
  cases e:occurrences x' y 0 x'.length 1 with
  |nil =>
   rw[e] at fin;exact fun h0=>fin _ _ _ _ _ _ _ rfl rfl rfl h0
  |cons i r =>
   rw[e] at fin;exact fun h0=>fin _ _ _ _ _ _ _ rfl rfl rfl h0
 .exact h.elim
abbrev zhd:Mt3:=⟨"partition", "str", zdl⟩
theorem zhb {q:Pr} {A:Around}:MtE (q.at A) zhd/\pQ zhd:=⟨mH ZaF PySem.F.slot_str_partition PySem.F.type_str_partition (fun X f=>ziZ) cM,cM⟩
end L3
namespace K29
open PySem PySem.Spec L2 L3
def sC (i:Nat):Stmt:=PySem.Challenge.pw_talkcourt_k29_steps_written.main.body.getD i (.Pass ⟨0,0,0,0⟩)
def gls:List Str:=["LONGEST_NAME", "NO_NAMES", "JOINING", "BINDS_sayread", "TAKES", "MADE", "BINDS_saywrite", "SINGLE_BINDS", "LEAST", "BETWEEN", "WORDS", "WORDS_OF_REPLIES", "LENGTHS", "str", "tuple", "list", "sides_of", "name_of"]
def mts:List Str:=["pop", "join", "append", "extend", "split", "partition"]
def its:List Str:=["range", "zip"]
def sxm:List (Scope->Expr->Option (List Expr)):=[lofM "reversed", rvM,hcM "sides_of", hcM "joined_by", hcM "single_text", fY ")" " ) ", fY "(" " ( ", fY "\n" " ", tQ [some "not ", none],tQ [some "(", none,some ")"],tQ [some "doubt ", none],tQ [some "doubt ", none,some " "],tQ [some "answer ", none,some " "],gt2M "BINDS_saywrite"]
def fns:List Str:=(["max", "len", "all", "list", "isinstance", "sorted", "_law_deal", "_law_draw", "_law_names", "_law_saying", "_law_all_parts", "_law_words", "_law_steps", "sides_of", "all_within", "joined_text", "show_joined", "name_of", "show_saying", "in_braces"]:List Str)++(["show_step", "_law_loose", "_law_text", "put_together", "take_left", "begin_side", "go_on", "read_joined", "is_name", "read_word", "words_between_blanks", "words_and_brackets", "read_saying", "braces_emptied", "doubts_of", "read_answer", "read_doubt", "read_step", "_law_alike", "law"]:List Str)
/- fn: 0 max,1 len,2 all,3 list,4 isinstance,5 sorted,6 _law_deal,7 _law_draw,8 _law_names,9 _law_saying,10 _law_all_parts,11 _law_words,12 _law_steps,13 sides_of,14 all_within,15 joined_text,16 show_joined,17 name_of,18 show_saying,19 in_braces,20 show_step,21 _law_loose,22 _law_text,23 put_together,24 take_left,25 begin_side,26 go_on,27 read_joined,28 is_name,29 read_word,30 words_between_blanks,31 words_and_brackets,32 read_saying,33 braces_emptied,34 doubts_of,35 read_answer,36 read_doubt,37 read_step,38 _law_alike,39 law -/
abbrev jB:Stmt:=sC 47
def cA:List Str:=["_law_script", "_law_base", "_law_cells", "_law_number", "_law_cell"]
def zdJ:ISs:=(.cons (.asg 2 (.lc (.nm 0) ["_law_cell"] [] (.val (.sl (.var 0) (.yes (.var 1)) (.yes (.con (.int 63))))) .no (.call 0 (.cons (.var 0) (.cons (.bin .Sub (.con (.int 0)) (.var 0)) .nil)))))
 (.cons (.asg 3 (.bin .Add (.con (.int 7919)) (.var 1)))
 (.cons (.for (.nm 4) (.val (.var 2)) (.cons (.asg 3 (.bin .Mod (.bin .Add (.bin .Mult (.var 3) (.con (.int 69621))) (.bin .Mod (.var 4) (.con (.int 2147483629)))) (.con (.int 2147483647))))
 .nil))
 (.cons (.ret (.dct ["seed", "number", "left"] (.cons (.var 3) (.cons (.con (.int 0)) (.cons (.spc 0 (.cons (.lc (.nm 0) ["_law_cell"] [] (.val (.var 2)) (.yes (.cmp .GtE (.var 0) (.bin .Pow (.con (.int 10)) (.con (.int 18))))) (.var 0)) .nil)) .nil)))))
 .nil))))
def bN:MC:=⟨zZ jB,cA,(fun _=>true),fns.take 6,gls,mts,its,sxm,[]⟩
theorem zbL:FnScope cA ["_law_script", "_law_base"] (zZ jB):=⟨rfl,rfl,rfl,by decide +kernel,rfl,by decide +kernel,by decide +kernel⟩
theorem zay:qG zdJ bN (zK jB)=true:=by decide +kernel
abbrev jC:Stmt:=sC 48
def cB:List Str:=["_law_deal_here", "_law_many", "_law_number", "_law_one", "_law_other"]
def zdI:ISs:=(.cons (.whl (.and (.cmp .Eq (.ix (.var 0) (.con (.str "number"))) (.con (.int 0))) (.cmp .Gt (.call 1 (.cons (.ix (.var 0) (.con (.str "left"))) .nil)) (.con (.int 0)))) (.cons (.asgI (.var 0) (.con (.str "number")) (.mth 0 (.ix (.var 0) (.con (.str "left"))) .nil))
 .nil))
 (.cons (.asg 2 (.ix (.var 0) (.con (.str "number"))))
 (.cons (.ite (.cmp .Gt (.var 2) (.con (.int 0))) (.cons (.asgI (.var 0) (.con (.str "number")) (.bin .FloorDiv (.var 2) (.var 1)))
 (.cons (.ret (.bin .Mod (.var 2) (.var 1)))
 .nil)) .nil)
 (.cons (.asg 3 (.bin .Mod (.bin .Add (.bin .Mult (.ix (.var 0) (.con (.str "seed"))) (.con (.int 48271))) (.con (.int 7919))) (.con (.int 2147483647))))
 (.cons (.asgI (.var 0) (.con (.str "seed")) (.bin .Mod (.bin .Add (.bin .Mult (.var 3) (.con (.int 40692))) (.con (.int 104729))) (.con (.int 2147483399))))
 (.cons (.asg 4 (.bin .Mod (.bin .Mult (.ix (.var 0) (.con (.str "seed"))) (.ix (.var 0) (.con (.str "seed")))) (.con (.int 2147483563))))
 (.cons (.ret (.bin .Mod (.bin .Add (.bin .Mult (.bin .Mod (.bin .Mult (.var 3) (.var 3)) (.con (.int 2147483629))) (.con (.int 2147483563))) (.var 4)) (.var 1)))
 .nil)))))))
def bO:MC:=⟨zZ jC,cB,(fun _=>true),fns.take 7,gls,mts,its,sxm,[]⟩
theorem zbK:FnScope cB ["_law_deal_here", "_law_many"] (zZ jC):=⟨rfl,rfl,rfl,by decide +kernel,rfl,by decide +kernel,by decide +kernel⟩
theorem zax:qG zdI bO (zK jC)=true:=by decide +kernel
abbrev wF:Stmt:=sC 49
def sT:List Str:=["_law_deal_here", "_law_many", "_law_letters", "_law_names_here", "_law_core", "_law_at", "_law_turn", "_law_k", "_law_name"]
def wA:ISs:=(.cons (.asg 2 (.con (.str "abcdefghijklmnopqrstuvwxyz")))
 (.cons (.asg 3 (.lst .nil))
 (.cons (.asg 4 (.mth 1 (.con (.str "")) (.cons (.lc (.nm 0) ["_law_k"] [2,0] (.blt 0 (.cons (.call 7 (.cons (.var 0) (.cons (.con (.int 5)) .nil))) .nil)) .no (.ix (.var 1) (.call 7 (.cons (.var 2) (.cons (.con (.int 26)) .nil))))) .nil)))
 (.cons (.asg 5 (.call 7 (.cons (.var 0) (.cons (.bin .Add (.call 1 (.cons (.var 4) .nil)) (.con (.int 1))) .nil))))
 (.cons (.asg 6 (.call 7 (.cons (.var 0) (.cons (.con (.int 26)) .nil))))
 (.cons (.for (.nm 7) (.blt 0 (.cons (.var 1) .nil)) (.cons (.asg 8 (.bin .Add (.bin .Add (.sl (.var 4) .no (.yes (.var 5))) (.ix (.var 2) (.bin .Mod (.bin .Add (.var 6) (.bin .Mult (.con (.int 7)) (.var 7))) (.con (.int 26))))) (.sl (.var 4) (.yes (.var 5)) .no)))
 (.cons (.ite (.cmp .In (.var 8) (.tup (.cons (.con (.str "and")) (.cons (.con (.str "or")) (.cons (.con (.str "not")) (.cons (.con (.str "then")) .nil)))))) (.cons (.asg 8 (.bin .Add (.var 8) (.con (.str "q"))))
 .nil) .nil)
 (.cons (.ex (.mth 2 (.var 3) (.cons (.var 8) .nil)))
 .nil))))
 (.cons (.ite (.and (.cmp .Gt (.var 1) (.con (.int 1))) (.cmp .Eq (.call 7 (.cons (.var 0) (.cons (.con (.int 2)) .nil))) (.con (.int 1)))) (.cons (.asgI (.var 3) (.con (.int 0)) (.bin .Add (.ix (.var 3) (.con (.int 0))) (.con (.str "z"))))
 .nil) .nil)
 (.cons (.ret (.var 3))
 .nil))))))))
def gL:MC:=⟨zZ wF,sT,(fun _=>true),fns.take 8,gls,mts,its,sxm,[]⟩
theorem zaV:FnScope sT ["_law_deal_here", "_law_many"] (zZ wF):=⟨rfl,rfl,rfl,by decide +kernel,rfl,by decide +kernel,by decide +kernel⟩
theorem bE:qG wA gL (zK wF)=true:=by decide +kernel
abbrev wT:Stmt:=sC 50
def uS:List Str:=["_law_deal_here", "_law_names_here", "_law_many", "_law_way", "_law_left", "_law_one"]
def kH:ISs:=(.cons (.ite (.cmp .Eq (.var 2) (.con (.int 1))) (.cons (.ret (.tup (.cons (.con (.str "say")) (.cons (.ix (.var 1) (.call 7 (.cons (.var 0) (.cons (.call 1 (.cons (.var 1) .nil)) .nil)))) .nil))))
 .nil) .nil)
 (.cons (.asg 3 (.call 7 (.cons (.var 0) (.cons (.con (.int 4)) .nil))))
 (.cons (.ite (.or (.cmp .Eq (.var 2) (.con (.int 2))) (.cmp .Eq (.var 3) (.con (.int 3)))) (.cons (.ret (.tup (.cons (.con (.str "not")) (.cons (.call 9 (.cons (.var 0) (.cons (.var 1) (.cons (.bin .Sub (.var 2) (.con (.int 1))) .nil)))) .nil))))
 .nil) .nil)
 (.cons (.asg 4 (.bin .Add (.con (.int 1)) (.call 7 (.cons (.var 0) (.cons (.bin .Sub (.var 2) (.con (.int 2))) .nil)))))
 (.cons (.asg 5 (.call 9 (.cons (.var 0) (.cons (.var 1) (.cons (.var 4) .nil)))))
 (.cons (.ret (.tup (.cons (.ix (.lst (.cons (.con (.str "and")) (.cons (.con (.str "or")) (.cons (.con (.str "if")) .nil)))) (.var 3)) (.cons (.var 5) (.cons (.call 9 (.cons (.var 0) (.cons (.var 1) (.cons (.bin .Sub (.bin .Sub (.var 2) (.con (.int 1))) (.var 4)) .nil)))) .nil)))))
 .nil))))))
def nU:MC:=⟨zZ wT,uS,(fun _=>true),fns.take 10,gls,mts,its,sxm,[]⟩
theorem zap:FnScope uS ["_law_deal_here", "_law_names_here", "_law_many"] (zZ wT):=⟨rfl,rfl,rfl,by decide +kernel,rfl,by decide +kernel,by decide +kernel⟩
theorem fR:qG kH nU (zK wT)=true:=by decide +kernel
abbrev yD:Stmt:=sC 52
def qA:List Str:=["_law_saying_here", "_law_found", "_law_part"]
def jK:ISs:=(.cons (.asg 1 (.lst (.cons (.var 0) .nil)))
 (.cons (.ite (.cmp .NotEq (.ix (.var 0) (.con (.int 0))) (.con (.str "say"))) (.cons (.for (.nm 2) (.val (.sl (.var 0) (.yes (.con (.int 1))) .no)) (.cons (.asg 1 (.bin .Add (.var 1) (.lc (.nm 0) ["_law_one"] [1] (.val (.call 10 (.cons (.var 2) .nil))) (.yes (.cmp .NotIn (.var 0) (.var 1))) (.var 0))))
 .nil))
 .nil) .nil)
 (.cons (.ret (.call 5 (.cons (.var 1) .nil)))
 .nil)))
def tY:MC:=⟨zZ yD,qA,(fun _=>true),fns.take 11,gls,mts,its,sxm,[]⟩
theorem mP:FnScope qA ["_law_saying_here"] (zZ yD):=⟨rfl,rfl,rfl,by decide +kernel,rfl,by decide +kernel,by decide +kernel⟩
theorem pY:qG jK tY (zK yD)=true:=by decide +kernel
abbrev wH:Stmt:=sC 51
def sV:List Str:=["_law_saying_here"]
def qD:ISs:=(.cons (.ite (.cmp .Eq (.ix (.var 0) (.con (.int 0))) (.con (.str "and"))) (.cons (.ret (.lst (.cons (.con (.str "left")) (.cons (.con (.str "right")) .nil))))
 .nil) .nil)
 (.cons (.ite (.cmp .Eq (.ix (.var 0) (.con (.int 0))) (.con (.str "or"))) (.cons (.ret (.lst (.cons (.con (.str "which")) .nil)))
 .nil) .nil)
 (.cons (.ite (.or (.cmp .Eq (.ix (.var 0) (.con (.int 0))) (.con (.str "if"))) (.cmp .Eq (.ix (.var 0) (.con (.int 0))) (.con (.str "not")))) (.cons (.ret (.lst (.cons (.ix (.var 0) (.con (.int 0))) .nil)))
 .nil) .nil)
 (.cons (.ret (.lst .nil))
 .nil))))
def gN:MC:=⟨zZ wH,sV,(fun _=>true),fns.take 11,gls,mts,its,sxm,[]⟩
theorem zaT:FnScope sV ["_law_saying_here"] (zZ wH):=⟨rfl,rfl,rfl,by decide +kernel,rfl,by decide +kernel,by decide +kernel⟩
theorem bG:qG qD gN (zK wH)=true:=by decide +kernel
abbrev wG:Stmt:=sC 55
def sU:List Str:=["_law_deal_here", "_law_saying_here", "_law_some", "_law_found", "_law_part", "_law_word"]
def vM:ISs:=(.cons (.asg 2 (.call 10 (.cons (.var 1) .nil)))
 (.cons (.asg 3 (.lst (.cons (.tup (.cons (.con (.str "answer")) (.cons (.ix (.var 2) (.call 7 (.cons (.var 0) (.cons (.call 1 (.cons (.var 2) .nil)) .nil)))) .nil))) .nil)))
 (.cons (.for (.nm 4) (.val (.var 2)) (.cons (.ex (.mth 2 (.var 3) (.cons (.tup (.cons (.con (.str "answer")) (.cons (.tup (.cons (.con (.str "begin")) (.cons (.var 4) .nil))) (.cons (.ix (.var 2) (.call 7 (.cons (.var 0) (.cons (.call 1 (.cons (.var 2) .nil)) .nil)))) .nil)))) .nil)))
 (.cons (.for (.nm 5) (.val (.call 11 (.cons (.var 4) .nil))) (.cons (.asg 3 (.bin .Add (.var 3) (.lst (.cons (.tup (.cons (.con (.str "doubt")) (.cons (.var 5) .nil))) (.cons (.tup (.cons (.con (.str "doubt")) (.cons (.var 5) (.cons (.var 4) .nil)))) .nil)))))
 (.cons (.ex (.mth 2 (.var 3) (.cons (.tup (.cons (.con (.str "answer")) (.cons (.tup (.cons (.var 5) (.cons (.var 4) .nil))) (.cons (.ix (.var 2) (.call 7 (.cons (.var 0) (.cons (.call 1 (.cons (.var 2) .nil)) .nil)))) .nil)))) .nil)))
 .nil)))
 .nil)))
 (.cons (.ret (.var 3))
 .nil))))
def gM:MC:=⟨zZ wG,sU,(fun _=>true),fns.take 12,gls,mts,its,sxm,[]⟩
theorem zaU:FnScope sU ["_law_deal_here", "_law_saying_here"] (zZ wG):=⟨rfl,rfl,rfl,by decide +kernel,rfl,by decide +kernel,by decide +kernel⟩
theorem bF:qG vM gM (zK wG)=true:=by decide +kernel
abbrev xX:Stmt:=sC 11
def rZ:List Str:=["saying"]
def vC:ISs:=(.cons (.ret (.ite (.cmp .Eq (.ix (.var 0) (.con (.int 0))) (.con (.str "say"))) (.tup .nil) (.sl (.var 0) (.yes (.con (.int 1))) .no)))
 .nil)
def za5:MC:=⟨zZ xX,rZ,(fun _=>true),fns.take 13,gls,mts,its,sxm,[]⟩
theorem cY:FnScope rZ ["saying"] (zZ xX):=⟨rfl,rfl,rfl,by decide +kernel,rfl,by decide +kernel,by decide +kernel⟩
theorem zba:qG vC za5 (zK xX)=true:=by decide +kernel
abbrev wI:Stmt:=sC 4
def sW:List Str:=["whole", "sides_of", "found", "waiting", "thing"]
def vN:ISs:=(.cons (.asg 2 (.lst .nil))
 (.cons (.asg 3 (.lst (.cons (.var 0) .nil)))
 (.cons (.whl (.var 3) (.cons (.asg 4 (.mth 0 (.var 3) .nil))
 (.cons (.ex (.mth 2 (.var 2) (.cons (.var 4) .nil)))
 (.cons (.ex (.mth 3 (.var 3) (.cons (.spc 1 (.cons (.spc 2 (.cons (.var 1) (.cons (.var 4) .nil))) .nil)) .nil)))
 .nil))))
 (.cons (.ret (.var 2))
 .nil))))
def gO:MC:=⟨zZ wI,sW,(fun _=>true),fns.take 14,gls,mts,its,sxm,[]⟩
theorem zaS:FnScope sW ["whole", "sides_of"] (zZ wI):=⟨rfl,rfl,rfl,by decide +kernel,rfl,by decide +kernel,by decide +kernel⟩
theorem bH:qG vN gO (zK wI)=true:=by decide +kernel
abbrev wU:Stmt:=sC 32
def uT:List Str:=["word", "sides", "texts", "written", "side", "least", "text"]
def kI:ISs:=(.cons (.asg 3 (.lst .nil))
 (.cons (.for (.tup (.cons (.nm 4) (.cons (.nm 5) .nil))) (.blt 1 (.cons (.var 1) (.cons (.ix (.glb 8) (.var 0)) .nil))) (.cons (.asg 6 (.mth 0 (.var 2) .nil))
 (.cons (.ex (.mth 2 (.var 3) (.cons (.ite (.cmp .Lt (.spc 13 (.cons (.ix (.var 4) (.con (.int 0))) (.cons (.glb 7) .nil))) (.var 5)) (.spc 9 (.cons (.var 6) .nil)) (.var 6)) .nil)))
 .nil)))
 (.cons (.ite (.cmp .Eq (.var 0) (.con (.str "not"))) (.cons (.ret (.spc 8 (.cons (.ix (.var 3) (.con (.int 0))) .nil)))
 .nil) .nil)
 (.cons (.ret (.mth 1 (.ix (.glb 9) (.var 0)) (.cons (.var 3) .nil)))
 .nil))))
def nY:MC:=⟨zZ wU,uT,(fun _=>true),fns.take 15,gls,mts,its,sxm,[]⟩
theorem zao:FnScope uT ["word", "sides", "texts"] (zZ wU):=⟨rfl,rfl,rfl,by decide +kernel,rfl,by decide +kernel,by decide +kernel⟩
theorem fS:qG kI nY (zK wU)=true:=by decide +kernel
abbrev xA:Stmt:=sC 31
def uX:List Str:=["whole", "joined_by", "single_text", "texts", "part", "sides"]
def kM:ISs:=(.cons (.asg 3 (.lst .nil))
 (.cons (.for (.nm 4) (.val (.spc 1 (.cons (.call 14 (.cons (.var 0) (.cons (.var 1) .nil))) .nil))) (.cons (.asg 5 (.spc 3 (.cons (.var 1) (.cons (.var 4) .nil))))
 (.cons (.ex (.mth 2 (.var 3) (.cons (.ite (.var 5) (.call 15 (.cons (.ix (.var 4) (.con (.int 0))) (.cons (.var 5) (.cons (.var 3) .nil)))) (.spc 4 (.cons (.var 2) (.cons (.var 4) .nil)))) .nil)))
 .nil)))
 (.cons (.ret (.ix (.var 3) (.con (.int 0))))
 .nil)))
def pE:MC:=⟨zZ xA,uX,(fun _=>true),fns.take 16,gls,mts,its,sxm,[]⟩
theorem zak:FnScope uX ["whole", "joined_by", "single_text"] (zZ xA):=⟨rfl,rfl,rfl,by decide +kernel,rfl,by decide +kernel,by decide +kernel⟩
theorem fW:qG kM pE (zK xA)=true:=by decide +kernel
abbrev xG:Stmt:=sC 30
def pH:List Str:=["saying"]
def sH:ISs:=(.cons (.ret (.ix (.var 0) (.con (.int 1))))
 .nil)
def zcN:MC:=⟨zZ xG,pH,(fun _=>true),fns.take 17,gls,mts,its,sxm,[]⟩
theorem zaQ:FnScope pH ["saying"] (zZ xG):=⟨rfl,rfl,rfl,by decide +kernel,rfl,by decide +kernel,by decide +kernel⟩
theorem zbY:qG sH zcN (zK xG)=true:=by decide +kernel
abbrev xB:Stmt:=sC 29
def uY:List Str:=["saying"]
def kP:ISs:=(.cons (.ret (.call 16 (.cons (.var 0) (.cons (.glb 16) (.cons (.glb 17) .nil)))))
 .nil)
def pF:MC:=⟨zZ xB,uY,(fun _=>true),fns.take 18,gls,mts,its,sxm,[]⟩
theorem zaj:FnScope uY ["saying"] (zZ xB):=⟨rfl,rfl,rfl,by decide +kernel,rfl,by decide +kernel,by decide +kernel⟩
theorem fX:qG kP pF (zK xB)=true:=by decide +kernel
abbrev jF:Stmt:=sC 34
def rC:List Str:=["saying"]
def uF:ISs:=(.cons (.ret (.bin .Add (.bin .Add (.con (.str "{")) (.call 18 (.cons (.var 0) .nil))) (.con (.str "}"))))
 .nil)
def bR:MC:=⟨zZ jF,rC,(fun _=>true),fns.take 19,gls,mts,its,sxm,[]⟩
theorem zbH:FnScope rC ["saying"] (zZ jF):=⟨rfl,rfl,rfl,by decide +kernel,rfl,by decide +kernel,by decide +kernel⟩
theorem zau:qG uF bR (zK jF)=true:=by decide +kernel
abbrev jI:Stmt:=sC 42
def rF:List Str:=["step", "word", "saying"]
def uI:ISs:=(.cons (.ite (.cmp .Eq (.ix (.var 0) (.con (.int 0))) (.con (.str "answer"))) (.cons (.ite (.cmp .Eq (.call 1 (.cons (.var 0) .nil)) (.ix (.glb 12) (.con (.str "other")))) (.cons (.ret (.bin .Add (.con (.str "answer ")) (.call 19 (.cons (.ix (.var 0) (.con (.int 1))) .nil))))
 .nil) .nil)
 (.cons (.asgT (.cons (.nm 1) (.cons (.nm 2) .nil)) (.ix (.var 0) (.con (.int 1))))
 (.cons (.ret (.bin .Add (.bin .Add (.bin .Add (.spc 12 (.cons (.var 1) .nil)) (.call 19 (.cons (.var 2) .nil))) (.con (.str " with "))) (.call 19 (.cons (.ix (.var 0) (.con (.int 2))) .nil))))
 .nil))) .nil)
 (.cons (.ite (.cmp .Eq (.call 1 (.cons (.var 0) .nil)) (.ix (.glb 12) (.con (.str "other")))) (.cons (.ret (.spc 10 (.cons (.ix (.var 0) (.con (.int 1))) .nil)))
 .nil) .nil)
 (.cons (.ret (.bin .Add (.spc 11 (.cons (.ix (.var 0) (.con (.int 1))) .nil)) (.call 19 (.cons (.ix (.var 0) (.con (.int 2))) .nil))))
 .nil)))
def bY:MC:=⟨zZ jI,rF,(fun _=>true),fns.take 20,gls,mts,its,sxm,[]⟩
theorem zbE:FnScope rF ["step"] (zZ jI):=⟨rfl,rfl,rfl,by decide +kernel,rfl,by decide +kernel,by decide +kernel⟩
theorem zar:qG uI bY (zK jI)=true:=by decide +kernel
abbrev wE:Stmt:=sC 54
def sS:List Str:=["_law_deal_here", "_law_saying_here", "_law_text_here", "_law_way"]
def vL:ISs:=(.cons (.asg 2 (.call 18 (.cons (.var 1) .nil)))
 (.cons (.asg 3 (.call 7 (.cons (.var 0) (.cons (.con (.int 5)) .nil))))
 (.cons (.ret (.ix (.lst (.cons (.var 2) (.cons (.bin .Add (.con (.str " ")) (.var 2)) (.cons (.bin .Add (.var 2) (.con (.str "  "))) (.cons (.bin .Add (.bin .Add (.con (.str "(")) (.var 2)) (.con (.str ")"))) (.cons (.bin .Add (.bin .Add (.con (.str "( ( ")) (.var 2)) (.con (.str ") )"))) .nil)))))) (.var 3)))
 .nil)))
def gK:MC:=⟨zZ wE,sS,(fun _=>true),fns.take 21,gls,mts,its,sxm,[]⟩
theorem zaW:FnScope sS ["_law_deal_here", "_law_saying_here"] (zZ wE):=⟨rfl,rfl,rfl,by decide +kernel,rfl,by decide +kernel,by decide +kernel⟩
theorem bD:qG vL gK (zK wE)=true:=by decide +kernel
abbrev jD:Stmt:=sC 56
def rA:List Str:=["_law_deal_here", "_law_step", "_law_loose_here", "_law_braced_ones"]
def wR:ISs:=(.cons (.asg 3 (.lst .nil))
 (.cons (.ite (.and (.cmp .Eq (.ix (.var 1) (.con (.int 0))) (.con (.str "answer"))) (.cmp .Eq (.call 1 (.cons (.var 1) .nil)) (.con (.int 3)))) (.cons (.asg 3 (.lst (.cons (.ix (.ix (.var 1) (.con (.int 1))) (.con (.int 1))) (.cons (.ix (.var 1) (.con (.int 2))) .nil))))
 .nil) (.cons (.ite (.cmp .Eq (.call 1 (.cons (.var 1) .nil)) (.con (.int 3))) (.cons (.asg 3 (.lst (.cons (.ix (.var 1) (.con (.int 2))) .nil)))
 .nil) (.cons (.ite (.cmp .Eq (.ix (.var 1) (.con (.int 0))) (.con (.str "answer"))) (.cons (.asg 3 (.lst (.cons (.ix (.var 1) (.con (.int 1))) .nil)))
 .nil) .nil)
 .nil))
 .nil))
 (.cons (.ite (.var 2) (.cons (.asg 3 (.lc (.nm 0) ["_law_saying_here"] [0] (.val (.var 3)) .no (.bin .Add (.bin .Add (.con (.str "{")) (.call 21 (.cons (.var 1) (.cons (.var 0) .nil)))) (.con (.str "}")))))
 .nil) (.cons (.asg 3 (.lc (.nm 0) ["_law_saying_here"] [] (.val (.var 3)) .no (.bin .Add (.bin .Add (.con (.str "{")) (.call 18 (.cons (.var 0) .nil))) (.con (.str "}")))))
 .nil))
 (.cons (.ite (.and (.cmp .Eq (.ix (.var 1) (.con (.int 0))) (.con (.str "answer"))) (.cmp .Eq (.call 1 (.cons (.var 1) .nil)) (.con (.int 3)))) (.cons (.ret (.bin .Add (.bin .Add (.bin .Add (.bin .Add (.bin .Add (.con (.str "answer ")) (.ix (.ix (.var 1) (.con (.int 1))) (.con (.int 0)))) (.con (.str " "))) (.ix (.var 3) (.con (.int 0)))) (.con (.str " with "))) (.ix (.var 3) (.con (.int 1)))))
 .nil) .nil)
 (.cons (.ite (.cmp .Eq (.ix (.var 1) (.con (.int 0))) (.con (.str "answer"))) (.cons (.ret (.bin .Add (.con (.str "answer ")) (.ix (.var 3) (.con (.int 0)))))
 .nil) .nil)
 (.cons (.ret (.mth 1 (.con (.str " ")) (.cons (.bin .Add (.lst (.cons (.con (.str "doubt")) (.cons (.ix (.var 1) (.con (.int 1))) .nil))) (.var 3)) .nil)))
 .nil))))))
def bP:MC:=⟨zZ jD,rA,(fun _=>true),fns.take 22,gls,mts,its,sxm,[]⟩
theorem zbJ:FnScope rA ["_law_deal_here", "_law_step", "_law_loose_here"] (zZ jD):=⟨rfl,rfl,rfl,by decide +kernel,rfl,by decide +kernel,by decide +kernel⟩
theorem zaw:qG wR bP (zK jD)=true:=by decide +kernel
abbrev xL:Stmt:=sC 23
def vJ:List Str:=["word", "done", "last"]
def qK:ISs:=(.cons (.asg 2 (.mth 0 (.var 1) .nil))
 (.cons (.ite (.cmp .Eq (.var 0) (.con (.str "not"))) (.cons (.ex (.mth 2 (.var 1) (.cons (.tup (.cons (.con (.str "not")) (.cons (.var 2) .nil))) .nil)))
 .nil) (.cons (.ex (.mth 2 (.var 1) (.cons (.tup (.cons (.ix (.glb 5) (.var 0)) (.cons (.mth 0 (.var 1) .nil) (.cons (.var 2) .nil)))) .nil)))
 .nil))
 .nil))
def rP:MC:=⟨zZ xL,vJ,(fun _=>true),fns.take 23,gls,mts,its,sxm,[]⟩
theorem cX:FnScope vJ ["word", "done"] (zZ xL):=⟨rfl,rfl,rfl,by decide +kernel,rfl,by decide +kernel,by decide +kernel⟩
theorem mB:qG qK rP (zK xL)=true:=by decide +kernel
abbrev jJ:Stmt:=sC 22
def rG:List Str:=["least", "done", "waiting"]
def uJ:ISs:=(.cons (.whl (.and (.var 2) (.cmp .GtE (.ix (.glb 3) (.ix (.var 2) (.neg (.con (.int 1))))) (.var 0))) (.cons (.ex (.call 23 (.cons (.mth 0 (.var 2) .nil) (.cons (.var 1) .nil))))
 .nil))
 .nil)
def bZ:MC:=⟨zZ jJ,rG,(fun _=>true),fns.take 24,gls,mts,its,sxm,[]⟩
theorem zbD:FnScope rG ["least", "done", "waiting"] (zZ jJ):=⟨rfl,rfl,rfl,by decide +kernel,rfl,by decide +kernel,by decide +kernel⟩
theorem zaq:qG uJ bZ (zK jJ)=true:=by decide +kernel
abbrev wJ:Stmt:=sC 20
def sX:List Str:=["thing", "done", "waiting"]
def qY:ISs:=(.cons (.ite (.call 4 (.cons (.var 0) (.cons (.glb 14) .nil))) (.cons (.ex (.mth 2 (.var 1) (.cons (.var 0) .nil)))
 (.cons (.ret (.con (.bool false)))
 .nil)) .nil)
 (.cons (.ite (.cmp .NotIn (.var 0) (.tup (.cons (.con (.str "not")) (.cons (.con (.str "(")) .nil)))) (.cons .dead
 .nil) .nil)
 (.cons (.ex (.mth 2 (.var 2) (.cons (.var 0) .nil)))
 (.cons (.ret (.con (.bool true)))
 .nil))))
def gP:MC:=⟨zZ wJ,sX,(fun _=>true),fns.take 25,gls,mts,its,sxm,[]⟩
theorem zaR:FnScope sX ["thing", "done", "waiting"] (zZ wJ):=⟨rfl,rfl,rfl,by decide +kernel,rfl,by decide +kernel,by decide +kernel⟩
theorem bI:qG qY gP (zK wJ)=true:=by decide +kernel
abbrev rL:Stmt:=sC 21
def zeI:List Str:=["thing", "done", "waiting"]
def zda:ISs:=(.cons (.ite (.or (.call 4 (.cons (.var 0) (.cons (.glb 14) .nil))) (.cmp .NotIn (.var 0) (.glb 4))) (.cons .dead
 .nil) .nil)
 (.cons (.ex (.call 24 (.cons (.ix (.glb 4) (.var 0)) (.cons (.var 1) (.cons (.var 2) .nil)))))
 (.cons (.ite (.cmp .NotEq (.var 0) (.con (.str ")"))) (.cons (.ex (.mth 2 (.var 2) (.cons (.var 0) .nil)))
 (.cons (.ret (.con (.bool true)))
 .nil)) .nil)
 (.cons (.ite (.not (.var 2)) (.cons .dead
 .nil) .nil)
 (.cons (.ex (.mth 0 (.var 2) .nil))
 (.cons (.ret (.con (.bool false)))
 .nil))))))
def zhK:MC:=⟨zZ rL,zeI,(fun _=>true),fns.take 26,gls,mts,its,sxm,[]⟩
theorem ziv:FnScope zeI ["thing", "done", "waiting"] (zZ rL):=⟨rfl,rfl,rfl,by decide +kernel,rfl,by decide +kernel,by decide +kernel⟩
theorem zeU:qG zda zhK (zK rL)=true:=by decide +kernel
abbrev wY:Stmt:=sC 19
def uV:List Str:=["things", "done", "waiting", "lacking", "thing"]
def kJ:ISs:=(.cons (.asg 1 (.lst .nil))
 (.cons (.asg 2 (.lst .nil))
 (.cons (.asg 3 (.con (.bool true)))
 (.cons (.for (.nm 4) (.val (.var 0)) (.cons (.ite (.var 3) (.cons (.asg 3 (.call 25 (.cons (.var 4) (.cons (.var 1) (.cons (.var 2) .nil)))))
 .nil) (.cons (.asg 3 (.call 26 (.cons (.var 4) (.cons (.var 1) (.cons (.var 2) .nil)))))
 .nil))
 .nil))
 (.cons (.ite (.var 3) (.cons .dead
 .nil) .nil)
 (.cons (.ex (.call 24 (.cons (.con (.int 1)) (.cons (.var 1) (.cons (.var 2) .nil)))))
 (.cons (.ite (.var 2) (.cons .dead
 .nil) .nil)
 (.cons (.ret (.ix (.var 1) (.con (.int 0))))
 .nil))))))))
def pC:MC:=⟨zZ wY,uV,(fun _=>true),fns.take 27,gls,mts,its,sxm,[]⟩
theorem zam:FnScope uV ["things"] (zZ wY):=⟨rfl,rfl,rfl,by decide +kernel,rfl,by decide +kernel,by decide +kernel⟩
theorem fU:qG kJ pC (zK wY)=true:=by decide +kernel
abbrev kD:Stmt:=sC 10
def cE:List Str:=["thing"]
def mZ:ISs:=(.cons (.ite (.or (.not (.call 4 (.cons (.var 0) (.cons (.glb 13) .nil)))) (.not (.chn .LtE .LtE (.con (.int 1)) (.call 1 (.cons (.var 0) .nil)) (.glb 0)))) (.cons (.ret (.con (.bool false)))
 .nil) .nil)
 (.cons (.ret (.and (.cmp .NotIn (.var 0) (.glb 1)) (.call 2 (.cons (.lc (.nm 0) ["sign"] [] (.val (.var 0)) .no (.chn .LtE .LtE (.con (.str "a")) (.var 0) (.con (.str "z")))) .nil))))
 .nil))
def zcO:MC:=⟨zZ kD,cE,(fun _=>true),fns.take 28,gls,mts,its,sxm,[]⟩
theorem zep:FnScope cE ["thing"] (zZ kD):=⟨rfl,rfl,rfl,by decide +kernel,rfl,by decide +kernel,by decide +kernel⟩
theorem zbZ:qG mZ zcO (zK kD)=true:=by decide +kernel
abbrev jH:Stmt:=sC 18
def rE:List Str:=["word"]
def uH:ISs:=(.cons (.ite (.cmp .In (.var 0) (.glb 2)) (.cons (.ret (.var 0))
 .nil) .nil)
 (.cons (.ite (.not (.call 28 (.cons (.var 0) .nil))) (.cons .dead
 .nil) .nil)
 (.cons (.ret (.tup (.cons (.con (.str "say")) (.cons (.var 0) .nil))))
 .nil)))
def bX:MC:=⟨zZ jH,rE,(fun _=>true),fns.take 29,gls,mts,its,sxm,[]⟩
theorem zbF:FnScope rE ["word"] (zZ jH):=⟨rfl,rfl,rfl,by decide +kernel,rfl,by decide +kernel,by decide +kernel⟩
theorem zas:qG uH bX (zK jH)=true:=by decide +kernel
abbrev yQ:Stmt:=sC 5
def xS:List Str:=["row"]
def qR:ISs:=(.cons (.ret (.lc (.nm 0) ["word"] [] (.val (.mth 4 (.var 0) (.cons (.con (.str " ")) .nil))) (.yes (.var 0)) (.var 0)))
 .nil)
def qT:MC:=⟨zZ yQ,xS,(fun _=>true),fns.take 30,gls,mts,its,sxm,[]⟩
theorem uZ:FnScope xS ["row"] (zZ yQ):=⟨rfl,rfl,rfl,by decide +kernel,rfl,by decide +kernel,by decide +kernel⟩
theorem vI:qG qR qT (zK yQ)=true:=by decide +kernel
abbrev yO:Stmt:=sC 6
def jV:List Str:=["row"]
def xH:ISs:=(.cons (.ret (.call 30 (.cons (.spc 5 (.cons (.spc 6 (.cons (.var 0) .nil)) .nil)) .nil)))
 .nil)
def kX:MC:=⟨zZ yO,jV,(fun _=>true),fns.take 31,gls,mts,its,sxm,[]⟩
theorem tH:FnScope jV ["row"] (zZ yO):=⟨rfl,rfl,rfl,by decide +kernel,rfl,by decide +kernel,by decide +kernel⟩
theorem uO:qG xH kX (zK yO)=true:=by decide +kernel
abbrev wZ:Stmt:=sC 17
def uW:List Str:=["text"]
def kK:ISs:=(.cons (.ite (.not (.call 4 (.cons (.var 0) (.cons (.glb 13) .nil)))) (.cons .dead
 .nil) .nil)
 (.cons (.ret (.call 27 (.cons (.lc (.nm 0) ["word"] [] (.val (.call 31 (.cons (.spc 7 (.cons (.var 0) .nil)) .nil))) .no (.call 29 (.cons (.var 0) .nil))) .nil)))
 .nil))
def pD:MC:=⟨zZ wZ,uW,(fun _=>true),fns.take 32,gls,mts,its,sxm,[]⟩
theorem zal:FnScope uW ["text"] (zZ wZ):=⟨rfl,rfl,rfl,by decide +kernel,rfl,by decide +kernel,by decide +kernel⟩
theorem fV:qG kK pD (zK wZ)=true:=by decide +kernel
abbrev yE:Stmt:=sC 35
def qB:List Str:=["text", "outside", "pieces", "sayings", "piece", "within", "brace", "behind"]
def jM:ISs:=(.cons (.asgS 1 2 (.mth 4 (.var 0) (.cons (.con (.str "{")) .nil)))
 (.cons (.asg 3 (.lst .nil))
 (.cons (.for (.nm 4) (.val (.var 2)) (.cons (.asgT (.cons (.nm 5) (.cons (.nm 6) (.cons (.nm 7) .nil))) (.mth 5 (.var 4) (.cons (.con (.str "}")) .nil)))
 (.cons (.ite (.or (.cmp .Eq (.var 6) (.con (.str ""))) (.cmp .In (.con (.str "\n")) (.var 5))) (.cons .dead
 .nil) .nil)
 (.cons (.ex (.mth 2 (.var 3) (.cons (.call 32 (.cons (.var 5) .nil)) .nil)))
 (.cons (.asg 1 (.bin .Add (.bin .Add (.var 1) (.con (.str ""))) (.bin .Add (.con (.str "{}")) (.var 7))))
 .nil)))))
 (.cons (.ret (.tup (.cons (.var 1) (.cons (.var 3) .nil))))
 .nil))))
def uA:MC:=⟨zZ yE,qB,(fun _=>true),fns.take 33,gls,mts,its,sxm,[]⟩
theorem mQ:FnScope qB ["text"] (zZ yE):=⟨rfl,rfl,rfl,by decide +kernel,rfl,by decide +kernel,by decide +kernel⟩
theorem pZ:qG jM uA (zK yE)=true:=by decide +kernel
abbrev jE:Stmt:=sC 38
def rB:List Str:=["saying"]
def uE:ISs:=(.cons (.ret (.call 3 (.cons (.ix (.glb 10) (.ix (.var 0) (.con (.int 0)))) .nil)))
 .nil)
def bQ:MC:=⟨zZ jE,rB,(fun _=>true),fns.take 34,gls,mts,its,sxm,[]⟩
theorem zbI:FnScope rB ["saying"] (zZ jE):=⟨rfl,rfl,rfl,by decide +kernel,rfl,by decide +kernel,by decide +kernel⟩
theorem zav:qG uE bQ (zK jE)=true:=by decide +kernel
abbrev wX:Stmt:=sC 44
def uU:List Str:=["words", "sayings", "word"]
def jX:ISs:=(.cons (.ite (.cmp .Eq (.var 0) (.lst (.cons (.con (.str "{}")) .nil))) (.cons (.ret (.tup (.cons (.con (.str "answer")) (.cons (.ix (.var 1) (.con (.int 0))) .nil))))
 .nil) .nil)
 (.cons (.ite (.cmp .NotEq (.sl (.var 0) (.yes (.con (.int 1))) .no) (.lst (.cons (.con (.str "{}")) (.cons (.con (.str "with")) (.cons (.con (.str "{}")) .nil))))) (.cons .dead
 .nil) .nil)
 (.cons (.asg 2 (.ix (.var 0) (.con (.int 0))))
 (.cons (.ite (.and (.cmp .NotEq (.var 2) (.con (.str "begin"))) (.cmp .NotIn (.var 2) (.call 34 (.cons (.ix (.var 1) (.con (.int 0))) .nil)))) (.cons .dead
 .nil) .nil)
 (.cons (.ret (.tup (.cons (.con (.str "answer")) (.cons (.tup (.cons (.var 2) (.cons (.ix (.var 1) (.con (.int 0))) .nil))) (.cons (.ix (.var 1) (.con (.int 1))) .nil)))))
 .nil)))))
def pB:MC:=⟨zZ wX,uU,(fun _=>true),fns.take 35,gls,mts,its,sxm,[]⟩
theorem zan:FnScope uU ["words", "sayings"] (zZ wX):=⟨rfl,rfl,rfl,by decide +kernel,rfl,by decide +kernel,by decide +kernel⟩
theorem fT:qG jX pB (zK wX)=true:=by decide +kernel
abbrev wM:Stmt:=sC 45
def sZ:List Str:=["words", "sayings"]
def vP:ISs:=(.cons (.ite (.and (.cmp .Eq (.call 1 (.cons (.var 0) .nil)) (.con (.int 1))) (.cmp .In (.ix (.var 0) (.con (.int 0))) (.glb 11))) (.cons (.ret (.tup (.cons (.con (.str "doubt")) (.cons (.ix (.var 0) (.con (.int 0))) .nil))))
 .nil) .nil)
 (.cons (.ite (.or (.cmp .NotEq (.sl (.var 0) (.yes (.con (.int 1))) .no) (.lst (.cons (.con (.str "{}")) .nil))) (.cmp .NotIn (.ix (.var 0) (.con (.int 0))) (.call 34 (.cons (.ix (.var 1) (.con (.int 0))) .nil)))) (.cons .dead
 .nil) .nil)
 (.cons (.ret (.tup (.cons (.con (.str "doubt")) (.cons (.ix (.var 0) (.con (.int 0))) (.cons (.ix (.var 1) (.con (.int 0))) .nil)))))
 .nil)))
def gR:MC:=⟨zZ wM,sZ,(fun _=>true),fns.take 36,gls,mts,its,sxm,[]⟩
theorem zaP:FnScope sZ ["words", "sayings"] (zZ wM):=⟨rfl,rfl,rfl,by decide +kernel,rfl,by decide +kernel,by decide +kernel⟩
theorem bJ:qG vP gR (zK wM)=true:=by decide +kernel
abbrev jG:Stmt:=sC 43
def rD:List Str:=["text", "outside", "sayings", "words"]
def uG:ISs:=(.cons (.ite (.not (.call 4 (.cons (.var 0) (.cons (.glb 13) .nil)))) (.cons .dead
 .nil) .nil)
 (.cons (.asgT (.cons (.nm 1) (.cons (.nm 2) .nil)) (.call 33 (.cons (.var 0) .nil)))
 (.cons (.asg 3 (.mth 4 (.var 1) (.cons (.con (.str " ")) .nil)))
 (.cons (.ite (.cmp .Eq (.ix (.var 3) (.con (.int 0))) (.con (.str "answer"))) (.cons (.ret (.call 35 (.cons (.sl (.var 3) (.yes (.con (.int 1))) .no) (.cons (.var 2) .nil))))
 .nil) .nil)
 (.cons (.ite (.cmp .Eq (.ix (.var 3) (.con (.int 0))) (.con (.str "doubt"))) (.cons (.ret (.call 36 (.cons (.sl (.var 3) (.yes (.con (.int 1))) .no) (.cons (.var 2) .nil))))
 .nil) .nil)
 (.cons .dead
 .nil))))))
def bW:MC:=⟨zZ jG,rD,(fun _=>true),fns.take 37,gls,mts,its,sxm,[]⟩
theorem zbG:FnScope rD ["text"] (zZ jG):=⟨rfl,rfl,rfl,by decide +kernel,rfl,by decide +kernel,by decide +kernel⟩
theorem zat:qG uG bW (zK jG)=true:=by decide +kernel
abbrev wD:Stmt:=sC 53
def sR:List Str:=["_law_found", "_law_due"]
def vK:ISs:=(.cons (.ite (.call 4 (.cons (.var 1) (.cons (.tup (.cons (.glb 15) (.cons (.glb 14) .nil))) .nil))) (.cons (.ite (.or (.cmp .NotEq (.call 4 (.cons (.var 0) (.cons (.glb 15) .nil))) (.call 4 (.cons (.var 1) (.cons (.glb 15) .nil)))) (.cmp .NotEq (.call 4 (.cons (.var 0) (.cons (.glb 14) .nil))) (.call 4 (.cons (.var 1) (.cons (.glb 14) .nil))))) (.cons (.ret (.con (.bool false)))
 .nil) .nil)
 (.cons (.ret (.and (.cmp .Eq (.call 1 (.cons (.var 0) .nil)) (.call 1 (.cons (.var 1) .nil))) (.call 2 (.cons (.lc (.tup (.cons (.nm 0) (.cons (.nm 1) .nil))) ["_law_one", "_law_other"] [] (.blt 1 (.cons (.var 0) (.cons (.var 1) .nil))) .no (.call 38 (.cons (.var 0) (.cons (.var 1) .nil)))) .nil))))
 .nil)) .nil)
 (.cons (.ret (.and (.call 4 (.cons (.var 0) (.cons (.glb 13) .nil))) (.cmp .Eq (.var 0) (.var 1))))
 .nil))
def gJ:MC:=⟨zZ wD,sR,(fun _=>true),fns.take 39,gls,mts,its,sxm,[]⟩
theorem zaX:FnScope sR ["_law_found", "_law_due"] (zZ wD):=⟨rfl,rfl,rfl,by decide +kernel,rfl,by decide +kernel,by decide +kernel⟩
theorem bC:qG vK gJ (zK wD)=true:=by decide +kernel
abbrev slaw:Stmt:=sC 57
def nlaw:List Str:=["_law_script", "_law_deal_here", "_law_names_here", "_law_some", "_law_at", "_law_saying_here", "_law_step", "_law_text_here", "_law_told", "_law_found"]
def blaw:ISs:=(.cons (.asg 1 (.call 6 (.cons (.var 0) (.cons (.con (.int 0)) .nil))))
 (.cons (.asg 2 (.call 8 (.cons (.var 1) (.cons (.bin .Add (.con (.int 1)) (.call 7 (.cons (.var 1) (.cons (.con (.int 4)) .nil)))) .nil))))
 (.cons (.ite (.cmp .Eq (.call 7 (.cons (.var 1) (.cons (.con (.int 4)) .nil))) (.con (.int 0))) (.cons (.asg 3 (.lst (.cons (.con (.str "with")) (.cons (.con (.str "first")) (.cons (.con (.str "other")) (.cons (.con (.str "answer")) (.cons (.con (.str "doubt")) (.cons (.con (.str "left")) (.cons (.con (.str "right")) (.cons (.con (.str "which")) (.cons (.con (.str "if")) (.cons (.con (.str "begin")) (.cons (.con (.str "ands")) (.cons (.con (.str "ory")) .nil))))))))))))))
 (.cons (.asg 4 (.call 7 (.cons (.var 1) (.cons (.con (.int 12)) .nil))))
 (.cons (.asg 2 (.lc (.nm 0) ["_law_k"] [3,4] (.blt 0 (.cons (.call 1 (.cons (.var 2) .nil)) .nil)) .no (.ix (.var 1) (.bin .Mod (.bin .Add (.var 2) (.bin .Mult (.con (.int 5)) (.var 0))) (.con (.int 12))))))
 .nil))) .nil)
 (.cons (.asg 5 (.call 9 (.cons (.var 1) (.cons (.var 2) (.cons (.bin .Add (.con (.int 1)) (.call 7 (.cons (.var 1) (.cons (.con (.int 9)) .nil)))) .nil)))))
 (.cons (.for (.nm 6) (.val (.call 12 (.cons (.var 1) (.cons (.var 5) .nil)))) (.cons (.asg 7 (.call 20 (.cons (.var 6) .nil)))
 (.cons (.ite (.or (.not (.call 4 (.cons (.var 7) (.cons (.glb 13) .nil)))) (.cmp .NotEq (.var 7) (.call 22 (.cons (.var 1) (.cons (.var 6) (.cons (.con (.bool false)) .nil)))))) (.cons (.ret (.con (.bool false)))
 .nil) .nil)
 (.cons (.for (.nm 8) (.val (.lst (.cons (.var 7) (.cons (.call 22 (.cons (.var 1) (.cons (.var 6) (.cons (.con (.bool true)) .nil)))) .nil)))) (.cons (.asg 9 (.call 37 (.cons (.var 8) .nil)))
 (.cons (.ite (.or (.not (.call 38 (.cons (.var 9) (.cons (.var 6) .nil)))) (.cmp .NotEq (.call 20 (.cons (.var 9) .nil)) (.var 7))) (.cons (.ret (.con (.bool false)))
 .nil) .nil)
 .nil)))
 .nil))))
 (.cons (.ret (.con (.bool true)))
 .nil))))))
def mlaw:MC:=⟨zZ slaw,nlaw,(fun _=>true),fns.take 39,gls,mts,its,sxm,[]⟩
theorem sclaw:FnScope nlaw ["_law_script"] (zZ slaw):=⟨rfl,rfl,rfl,by decide +kernel,rfl,by decide +kernel,by decide +kernel⟩
theorem zjb:qG blaw mlaw (zK slaw)=true:=by decide +kernel
end K29
namespace K29
open PySem PySem.Spec PyProof.Rows L2 L3
def noN:List Str:=["and", "or", "not", "then"]
def bM (c:Nat):Bool:=decide (97<=c)&&decide (c<=122)
def xM (x:Str):Bool:=x.cps.toList.all bM
def fB (x:Str):Bool:=decide (1<=x.length)&&decide (x.length<=6)&&!noN.contains x&&xM x
inductive Sy where
 |say (x:Str)|neg (a:Sy)|two (k:Nat) (a b:Sy)
def kw:Nat->Str
 | 0 => "and"
 | 1 => "or"
 |_ => "if"
def Sy.w:Sy->W
 | .say x=>.tup [.str "say", .str x]
 | .neg a=>.tup [.str "not", a.w]
 | .two k a b=>.tup [.str (kw k),a.w,b.w]
def Sy.size:Sy->Nat
 | .say _=>1
 | .neg a=>a.size+1
 | .two _ a b=>a.size+b.size+1
def Sy.deep:Sy->Nat
 | .say _=>0
 | .neg a=>a.deep+1
 | .two _ a b=>max a.deep b.deep+1
def Sy.ok:Sy->Prop
 | .say x=>fB x=true
 | .neg a=>a.ok
 | .two _ a b=>a.ok/\b.ok
def bd:Sy->Nat
 | .say _=>5
 | .neg _=>4
 | .two 0 _ _=>3
 | .two 1 _ _=>2
 | .two _ _ _=>1
def lA:Nat->Nat
 | 0=>3
 |_=>2
def lB:Nat->Nat
 | 0=>4
 | 1=>3
 |_=>1
inductive Tk where
 |nm (x:Str)|lp|rp|nt|op (k:Nat)
def jw:Nat->Str
 | 0 => "and"
 | 1 => "or"
 |_ => "then"
def Tk.s:Tk->Str
 | .nm x=>x
 | .lp => "("
 | .rp => ")"
 | .nt => "not"
 | .op k=>jw k
def br (n:Nat) (a:Sy) (l:List Tk):List Tk:=if bd a<n then .lp::(l++[.rp]) else l
def tw:Sy->List Tk
 | .say x=>[.nm x]
 | .neg a=>.nt::br 4 a (tw a)
 | .two k a b=>br (lA k) a (tw a)++.op k::br (lB k) b (tw b)
def bin:Tk->Nat
 | .nt=>4
 | .op 0=>3
 | .op 1=>2
 | .op _=>1
 |_=>0
def pt:Tk->List Sy->List Sy
 | .nt,a::D=>.neg a::D
 | .op k,b::a::D=>.two k a b::D
 |_,D=>D
def tl (m:Nat):List Sy->List Tk->List Sy×List Tk
 |D,[]=>(D,[])
 |D,w::V=>if m<=bin w then tl m (pt w D) V else (D,w::V)
abbrev St:=List Sy×List Tk×Bool
def step:St->Tk->St
 | (D,V,true),.nm x=>(.say x::D,V,false)
 | (D,V,true),t=>(D,t::V,true)
 | (D,V,false),.op k=>((tl (lA k) D V).1,.op k::(tl (lA k) D V).2,true)
 | (D,V,false),_=>((tl 1 D V).1,(tl 1 D V).2.drop 1,false)
def run (s:St) (l:List Tk):St:=l.foldl step s
theorem zbN (s:St) (a b:List Tk):run s (a++b)=run (run s a) b:=List.foldl_append
def Low (n:Nat) (V:List Tk):Prop:=match V with
 | []=>True
 |w::_=>bin w<n
def need:Sy->Nat
 | .two k _ _=>lA k
 |_=>5
theorem zcq {m:Nat} {D:List Sy} {V:List Tk} (h:Low m V):tl m D V=(D,V):=by
 cases V with
 |nil=>rfl
 |cons w V =>
  unfold tl;rw[if_neg (Nat.not_le.mpr h)]
theorem za4 {k:Nat} {a:Sy} (h:¬ bd a<lA k):lA k<=need a:=by
 cases a with
 |say x=>match k with|0=>show 3<=5;decide|k+1=>show 2<=5;decide
 |neg a=>match k with|0=>show 3<=5;decide|k+1=>show 2<=5;decide
 |two j a b=>match k,j,h with
  | 0,0,_=>show 3<=3;decide
  | 0,1,h=>exact absurd (by show 2<3;decide) h
  | 0,j+2,h=>exact absurd (by show 1<3;decide) h
  |k+1,0,_=>show 2<=3;decide
  |k+1,1,_=>show 2<=2;decide
  |k+1,j+2,_=>show 2<=2;decide
theorem cD {k:Nat} {b:Sy} (h:¬ bd b<lB k):bin (.op k)<need b:=by
 cases b with
 |say x=>match k with|0=>show 3<5;decide|1=>show 2<5;decide|k+2=>show 1<5;decide
 |neg a=>match k with|0=>show 3<5;decide|1=>show 2<5;decide|k+2=>show 1<5;decide
 |two j a b=>match k,j,h with
  | 0,0,h=>exact absurd (by show 3<4;decide) h
  | 0,1,h=>exact absurd (by show 2<4;decide) h
  | 0,j+2,h=>exact absurd (by show 1<4;decide) h
  | 1,0,_=>show 2<3;decide
  | 1,1,h=>exact absurd (by show 2<3;decide) h
  | 1,j+2,h=>exact absurd (by show 1<3;decide) h
  |k+2,0,_=>show 1<3;decide
  |k+2,1,_=>show 1<2;decide
  |k+2,j+2,_=>show 1<2;decide
theorem zcL {a:Sy} (h:¬ bd a<4):need a=5:=by
 cases a with
 |say x=>rfl
 |neg a=>rfl
 |two j a b=>match j,h with
  | 0,h=>exact absurd (by show 3<4;decide) h
  | 1,h=>exact absurd (by show 2<4;decide) h
  |j+2,h=>exact absurd (by show 1<4;decide) h
theorem zgD (t:Sy):2<=need t:=by
 cases t with
 |say x=>show 2<=5;decide
 |neg a=>show 2<=5;decide
 |two k a b=>match k with|0=>show 2<=3;decide|k+1=>show 2<=2;decide
theorem Low.mono {m n:Nat} {V:List Tk} (h:Low m V) (hm:m<=n):Low n V:=by
 cases V with
 |nil=>trivial
 |cons w V=>exact Zm h hm
def Rd (D:List Sy) (V:List Tk) (t:Sy) (n:Nat) (s:St):Prop:=∃ D' V',s=(D',V',false)/\∀ m,1<=m->m<=n->tl m D' V'=tl m (t::D) V
theorem sK (a b:Str):(a++b).cps.toList=a.cps.toList++b.cps.toList:=by rw[ZaC,Zag]
theorem zcB {a b:Nat} {z u u' v v':List Nat} (h:Rp [a,b] z u u') (h2:Rp [a,b] z v v'):(u.getLast?≠some a\/v.head?≠some b)->Rp [a,b] z (u++v) (u'++v'):=by
 induction h with
 |nil=>intro _;exact h2
 | @hit r s _ ih =>
  intro hb;rw[ZZ,ZZ];refine .hit (ih ?_)
  cases r with
  |nil=>left;simp
  |cons x r =>
   rcases hb with hb|hb
   .left;simpa using hb
   .right;exact hb
 | @skip k r s n _ ih =>
  intro hb
  cases r with
  |nil =>
   refine .skip ?_ (ih (.inl (by simp)));rintro ⟨t,e⟩;rcases hb with hb|hb
   .injection e with e1 e2
    exact hb (by rw[e1];rfl)
   .injection e with e1 e2
    exact hb (by have e2:[b]++t=v:=e2;rw[← e2];rfl)
  |cons x r =>
   refine .skip ?_ (ih (by
    rcases hb with hb|hb
    .left;simpa using hb
    .right;exact hb))
   rintro ⟨t,e⟩
   injection e with e1 e2
   injection e2 with e2 e3
   exact n ⟨r,by rw[e1,e2];rfl⟩
theorem zhu {a b:Nat} {z:List Nat}:∀ {u:List Nat},a∉u->Rp [a,b] z u u
 | [],_=>.nil
 |k::r,h=>by
  simp only[Zd,not_or] at h;refine .skip ?_ (zhu h.2);rintro ⟨t,e⟩
  injection e with e1 _
  exact h.1 e1
theorem zer {a b:Nat} {z:List Nat}:∀ {u:List Nat},b∉u->Rp [a,b] z u u
 | [],_=>.nil
 |k::r,h=>by
  simp only[Zd,not_or] at h;refine .skip ?_ (zer h.2);rintro ⟨t,e⟩
  injection e with _ e2
  exact h.2 (by rw[← e2];exact zzT)
theorem cW {c:Nat} {z:List Nat}:∀ x:List Nat,Rp [c] z x (x.flatMap fun k=>if k=c then z else [k])
 | []=>.nil
 |k::r=>by
  rw[ZbJ]
  by_cases h:k=c
  .subst h;rw[if_pos rfl];exact .hit (cW r)
  .rw[if_neg h];refine .skip ?_ (cW r);rintro ⟨t,e⟩
   injection e with e1 _
   exact h e1.symm
theorem zeu {x y z:Str} {s:List Nat} (hy:1<=y.length) (h:Rp y.cps.toList z.cps.toList x.cps.toList s):(Txt.replace x y z).cps.toList=s :=
 Rp.det (fun e=>by have:=qZ y;rw[e] at this;simp at this;omega) (zkK x y z hy) h
def bw:Nat->Str
 | 0 => " and "
 | 1 => " or "
 |_ => " then "
def bS (n:Nat) (a:Sy) (s:Str):Str:=if bd a<n then "(" ++ s ++ ")" else s
def sh:Sy->Str
 | .say x=>x
 | .neg a => "not " ++ bS 4 a (sh a)
 | .two k a b=>bS (lA k) a (sh a)++bw k++bS (lB k) b (sh b)
def c (t:Tk):List Nat:=t.s.cps.toList
def b1 (n:Nat) (a:Sy) (l:List Nat):List Nat:=if bd a<n then 40::(l++[32,41]) else l
def b2 (n:Nat) (a:Sy) (l:List Nat):List Nat:=if bd a<n then 40::(l++[41]) else l
def jc (k:Nat):List Nat:=(jw k).cps.toList
def nc:List Nat:=[110,111,116]
def s1:Sy->List Nat
 | .say x=>x.cps.toList
 | .neg a=>nc++32::b1 4 a (s1 a)
 | .two k a b=>b1 (lA k) a (s1 a)++32::(jc k++32::b1 (lB k) b (s1 b))
def s2:Sy->List Nat
 | .say x=>x.cps.toList
 | .neg a=>nc++32::b2 4 a (s2 a)
 | .two k a b=>b2 (lA k) a (s2 a)++32::(jc k++32::b2 (lB k) b (s2 b))
theorem zjY {n:Nat} {a:Sy} {s:Str}:(bS n a s).cps.toList=b2 n a s.cps.toList:=by
 unfold bS b2
 split
 .rw[sK,sK,show ("(" : Str).cps.toList=[40] by decide +kernel,show (")" : Str).cps.toList=[41] by decide +kernel];simp
 .rfl
theorem bw_is (k:Nat):(bw k).cps.toList=32::(jc k++[32]):=by
 match k with
 | 0=>decide +kernel
 | 1=>decide +kernel
 |k+2=>show (" then " : Str).cps.toList=32::(("then" : Str).cps.toList++[32]);decide +kernel
theorem pK:∀ t:Sy,(sh t).cps.toList=s2 t
 | .say x=>rfl
 | .neg a=>by
  show ("not " ++ bS 4 a (sh a)).cps.toList=_;rw[sK,zjY,pK a,show ("not " : Str).cps.toList=[110,111,116,32] by decide +kernel];rfl
 | .two k a b=>by
  show (bS (lA k) a (sh a)++bw k++bS (lB k) b (sh b)).cps.toList=_;rw[sK,sK,zjY,zjY,pK a,pK b,bw_is];simp[s2]
theorem sY {x:Str} (h:fB x=true):x.cps.toList≠[]/\∀ k∈x.cps.toList,97<=k:=by
 simp only[fB,xM,bM,Zl,decide_eq_true_eq,ZL] at h;refine ⟨fun e=>?_,fun k hk=>(h.2 k hk).1⟩;have:=qZ x;rw[e] at this;have h1:=h.1.1.1;simp at this;omega
theorem zcR (k:Nat):jc k≠[]/\∀ j∈jc k,97<=j:=by
 match k with
 | 0=>decide +kernel
 | 1=>decide +kernel
 |k+2=>show (("then" : Str).cps.toList≠[]/\∀ j∈("then" : Str).cps.toList,97<=j);decide +kernel
structure Fine (l:List Nat):Prop where
 h1:l.head?≠some 32
 h2:l.head?≠some 41
 e1:l.getLast?≠some 40
 e2:l.getLast?≠some 32
theorem zc0 {l:List Nat} (hn:l≠[]) (h:∀ k∈l,97<=k):Fine l:=by
 refine ⟨fun e=>?_,fun e=>?_,fun e=>?_,fun e=>?_⟩
 .have:=h 32 (List.mem_of_head? e);omega
 .have:=h 41 (List.mem_of_head? e);omega
 .have:=h 40 (List.mem_of_getLast? e);omega
 .have:=h 32 (List.mem_of_getLast? e);omega
theorem zcZ {u v w:List Nat} (hu:u≠[]) (hw:w≠[]) (a:Fine u) (b:Fine w):Fine (u++v++w):=by
 obtain ⟨x,u',rfl⟩:=List.exists_cons_of_ne_nil hu
 have gl:(x::u'++v++w).getLast?=w.getLast?:=by
  rw[List.getLast?_append]
  cases e:w.getLast? with
  |none=>exact absurd (List.getLast?_eq_none_iff.mp e) hw
  |some _=>rfl
 exact ⟨a.h1,a.h2,by rw[gl];exact b.e1,by rw[gl];exact b.e2⟩
theorem zjA {l:List Nat}:Fine (40::(l++[32,41]))/\Fine (40::(l++[41])):=by
 constructor<;>refine ⟨by simp,by simp,?_,?_⟩<;>simp[List.getLast?_cons,List.getLast?_append]
theorem zjZ {n:Nat} {a:Sy} {l:List Nat} (h:l≠[]):b1 n a l≠[]:=by unfold b1;split<;>simp[h]
theorem rX {n:Nat} {a:Sy} {l:List Nat} (h:Fine l):Fine (b1 n a l):=by
 unfold b1
 split
 .exact zjA.1
 .exact h
theorem kU:∀ t:Sy,t.ok->s1 t≠[]/\Fine (s1 t)
 | .say x,h=>⟨(sY h).1,zc0 (sY h).1 (sY h).2⟩
 | .neg a,h=>by
  have ia:=kU a h;refine ⟨by simp[s1,nc],?_⟩;have:=zcZ (u:=nc) (v:=[32]) (by simp[nc]) (zjZ (n:=4) (a:=a) ia.1) (zc0 (by simp[nc]) (by simp[nc])) (rX (n:=4) (a:=a) ia.2);simpa[s1] using this
 | .two k a b,h=>by
  have ia:=kU a h.1;have ib:=kU b h.2;refine ⟨by simp[s1],?_⟩;have:=zcZ (v:=32::(jc k++[32])) (zjZ (n:=lA k) (a:=a) ia.1) (zjZ (n:=lB k) (a:=b) ib.1) (rX (n:=lA k) (a:=a) ia.2) (rX (n:=lB k) (a:=b) ib.2);simpa[s1] using this
def b0 (n:Nat) (a:Sy) (l:List Nat):List Nat:=if bd a<n then 40::(32::(l++[32,41])) else l
def s0:Sy->List Nat
 | .say x=>x.cps.toList
 | .neg a=>nc++32::b0 4 a (s0 a)
 | .two k a b=>b0 (lA k) a (s0 a)++32::(jc k++32::b0 (lB k) b (s0 b))
theorem c_lp:c .lp=[40]:=by show ("(" : Str).cps.toList=_;decide +kernel
theorem c_rp:c .rp=[41]:=by show (")" : Str).cps.toList=_;decide +kernel
theorem c_nt:c .nt=nc:=by show ("not" : Str).cps.toList=_;decide +kernel
theorem zeH {k:Nat} (hk:k<97) {l:List Nat} (h:∀ j∈l,97<=j):k∉l:=fun m=>by have:=h k m;omega
theorem ziA {n:Nat} {a:Sy} (f:Fine (s1 a)) (h:Rp [32,41] [41] (s1 a) (s2 a)):Rp [32,41] [41] (b1 n a (s1 a)) (b2 n a (s2 a)):=by
 unfold b1 b2
 split
 .refine .skip ?_ (zcB h (.hit (y:=[32,41]) (z:=[41]) .nil) (.inl f.e2));rintro ⟨t,e⟩
  injection e with e1 _
  cases e1
 .exact h
theorem rpB:∀ t:Sy,t.ok->Rp [32,41] [41] (s1 t) (s2 t)
 | .say x,h=>zhu (zeH (by decide) (sY h).2)
 | .neg a,h=>by
  have:=zcB (u:=nc++[32]) (u':=nc++[32]) (zer (z:=[41]) (by simp[nc])) (ziA (n:=4) (kU a h).2 (rpB a h)) (.inr (rX (n:=4) (a:=a) (kU a h).2).h2);simpa[s1,s2] using this
 | .two k a b,h=>by
  have hk:41∉jc k:=zeH (by decide) (zcR k).2;have m:=zcB (u:=32::(jc k++[32])) (u':=32::(jc k++[32])) (zer (z:=[41]) (by simp[hk])) (ziA (n:=lB k) (kU b h.2).2 (rpB b h.2)) (.inr (rX (n:=lB k) (a:=b) (kU b h.2).2).h2);have:=zcB (ziA (n:=lA k) (kU a h.1).2 (rpB a h.1)) m (.inl (rX (n:=lA k) (a:=a) (kU a h.1).2).e2);simpa[s1,s2] using this
def ex1 (k:Nat):List Nat:=if k=40 then [32,40,32] else [k]
def ex2 (k:Nat):List Nat:=if k=41 then [32,41,32] else [k]
def ex (l:List Nat):List Nat:=(l.flatMap ex1).flatMap ex2
theorem vZ (a b:List Nat):ex (a++b)=ex a++ex b:=by simp[ex]
theorem zc1:∀ {l:List Nat},(∀ k∈l,97<=k)->ex l=l
 | [],_=>rfl
 |k::l,h=>by
  have hk:=h k zzT;have e:ex [k]=[k]:=by simp[ex,ex1,ex2,show k≠40 by omega,show k≠41 by omega]
  have:=vZ [k] l;rw[show k::l=[k]++l from rfl,this,e,zc1 fun j hj=>h j (Zc _ hj)]
theorem zg8 (l:List Nat):ex (32::l)=32::ex l:=by rw[show (32::l:List Nat)=[32]++l from rfl,vZ];rfl
theorem zdT {l:List Nat} (hn:l≠[]) (h:∀ k∈l,97<=k):wd l=[l]:=by
 rw[zij (zeH (by decide) h)]
 cases l with
 |nil=>exact absurd rfl hn
 |cons _ _=>rfl
theorem wd_b {n:Nat} {a:Sy} {l:List Nat} {ws:List (List Nat)} (h:wd (ex l)=(tw a).map c):wd (ex (b2 n a l))=(br n a (tw a)).map c:=by
 unfold b2 br
 split
 .have e:ex (40::(l++[41]))=[]++32::([40]++32::(ex l++32::([41]++32::[]))):=by
   rw[show (40::(l++[41]):List Nat)=[40]++(l++[41]) from rfl,vZ,vZ];rfl
  rw[e,qQ,qQ,qQ,qQ,h,show wd [40]=[[40]] from rfl,show wd [41]=[[41]] from rfl,show wd []=[] from rfl,zzU,ZG,c_lp,zzU,c_rp];rfl
 .exact h
theorem zdS:∀ t:Sy,t.ok->wd (ex (s2 t))=(tw t).map c
 | .say x,h=>by
  show wd (ex x.cps.toList)=[x.cps.toList];rw[zc1 (sY h).2,zdT (sY h).1 (sY h).2]
 | .neg a,h=>by
  show wd (ex (nc++32::b2 4 a (s2 a)))=c .nt::(br 4 a (tw a)).map c;rw[vZ,zg8,qQ,wd_b (ws:=[]) (zdS a h),zc1 (by simp[nc]),zdT (by simp[nc]) (by simp[nc]),c_nt];rfl
 | .two k a b,h=>by
  show wd (ex (b2 (lA k) a (s2 a)++32::(jc k++32::b2 (lB k) b (s2 b))))=(br (lA k) a (tw a)++.op k::br (lB k) b (tw b)).map c;rw[vZ,zg8,vZ,zg8,qQ,qQ,wd_b (ws:=[]) (zdS a h.1),wd_b (ws:=[]) (zdS b h.2),zc1 (zcR k).2,zdT (zcR k).1 (zcR k).2,ZG];rfl
def opn (x:Str):Str:=Txt.replace (Txt.replace x "(" " ( ") ")" " ) "
theorem zhI (x:Str):(Txt.replace x "(" " ( ").cps.toList=x.cps.toList.flatMap ex1:=by
 refine zeu (by decide +kernel) ?_;rw[show ("(" : Str).cps.toList=[40] by decide +kernel,show (" ( " : Str).cps.toList=[32,40,32] by decide +kernel];exact cW _
theorem zhH (x:Str):(opn x).cps.toList=ex x.cps.toList:=by
 unfold opn ex;rw[← zhI];refine zeu (by decide +kernel) ?_;rw[show (")" : Str).cps.toList=[41] by decide +kernel,show (" ) " : Str).cps.toList=[32,41,32] by decide +kernel];exact cW _
def mkS (l:List Nat):Str:=⟨l.toArray⟩
def wdS (x:Str):List Str:=(wd x.cps.toList).map mkS
theorem zfl:∀ l:List Nat,(l.flatMap ex1).length<=3 * l.length
 | []=>zzR _
 |k::l=>by
  have:=zfl l;have h:(ex1 k).length<=3:=by unfold ex1;split<;>simp
  rw[ZbJ,zzW,Zf];omega
theorem zhY:∀ l:List Nat,(ex l).length<=3 * l.length
 | []=>zzR _
 |k::l=>by
  have:=zhY l
  have h:(ex [k]).length<=3:=by
   unfold ex
   by_cases h1:k=40
   .subst h1;decide
   .by_cases h2:k=41
    .subst h2;decide
    .simp[ex1,ex2,h1,h2]
  rw[show k::l=[k]++l from rfl,vZ,zzW,zzW,List.length_singleton];omega
theorem vA:∀ t:Sy,t.ok->(sh t).length<=12 * t.size
 | .say x,h=>by
  have h:fB x=true:=h;simp only[fB,Zl,decide_eq_true_eq] at h;show x.length<=12 * 1;omega
 | .neg a,h=>by
  have:=vA a h
  have e:(bS 4 a (sh a)).length<=(sh a).length+2:=by
   unfold bS;split
   .rw[Zn,Zn,show ("(" : Str).length=1 by decide +kernel,show (")" : Str).length=1 by decide +kernel];omega
   .omega
  show ("not " ++ bS 4 a (sh a)).length<=12 * (a.size+1);rw[Zn,show ("not " : Str).length=4 by decide +kernel];omega
 | .two k a b,h=>by
  have ha:=vA a h.1;have hb:=vA b h.2
  have e:∀ (n:Nat) (a:Sy) (s:Str),(bS n a s).length<=s.length+2:=by
   intro n a s;unfold bS;split
   .rw[Zn,Zn,show ("(" : Str).length=1 by decide +kernel,show (")" : Str).length=1 by decide +kernel];omega
   .omega
  have h1:=e (lA k) a (sh a);have h2:=e (lB k) b (sh b)
  have h3:(bw k).length<=6:=by
   match k with
   | 0=>decide +kernel
   | 1=>decide +kernel
   |k+2=>show (" then " : Str).length<=6;decide +kernel
  show (bS (lA k) a (sh a)++bw k++bS (lB k) b (sh b)).length<=12 * (a.size+b.size+1);rw[Zn,Zn];omega
theorem dP:∀ t:Sy,(tw t).length<=5 * t.size
 | .say x=>by show 1<=5;decide
 | .neg a=>by
  have:=dP a;have e:(br 4 a (tw a)).length<=(tw a).length+2:=by unfold br;split<;>simp
  show (br 4 a (tw a)).length+1<=5 * (a.size+1);omega
 | .two k a b=>by
  have ha:=dP a;have hb:=dP b;have e:∀ (n:Nat) (a:Sy),(br n a (tw a)).length<=(tw a).length+2:=by intro n a;unfold br;split<;>simp
  have h1:=e (lA k) a;have h2:=e (lB k) b;show (br (lA k) a (tw a)++.op k::br (lB k) b (tw b)).length<=5 * (a.size+b.size+1);rw[zzW,Zf];omega
theorem Sy.pos:∀ t:Sy,1<=t.size
 | .say _=>zzR _
 | .neg _=>Zbt _ _
 | .two _ _ _=>Zbt _ _
theorem Sy.pur:∀ t:Sy,L3.pur t.w=true
 | .say _=>by simp[Sy.w,L3.pur,wC]
 | .neg a=>by simp[Sy.w,L3.pur,wC,Sy.pur a]
 | .two _ a b=>by simp[Sy.w,L3.pur,wC,Sy.pur a,Sy.pur b]
theorem Sy.dep:∀ t:Sy,L3.dep t.w<=t.size
 | .say _=>by simp[Sy.w,L3.dep,deps,Sy.size]
 | .neg a=>by have:=Sy.dep a;simp only[Sy.w,L3.dep,deps,Sy.size];omega
 | .two _ a b=>by have:=Sy.dep a;have:=Sy.dep b;simp only[Sy.w,L3.dep,deps,Sy.size];omega
theorem pV (k:Nat):((kw k:Str) == "say")=false/\(("say" : Str)==kw k)=false/\((kw k:Str) == "not")=false/\(("not" : Str)==kw k)=false:=by
 unfold kw
 split<;>exact ⟨by decide +kernel,by decide +kernel,by decide +kernel,by decide +kernel⟩
def yI:Sy->List Sy
 | .say _=>[]
 | .neg a=>[a]
 | .two _ a b=>[a,b]
def pre:Sy->List Sy
 | .say x=>[.say x]
 | .neg a=>.neg a::pre a
 | .two k a b=>.two k a b::(pre a++pre b)
def jW (ts:List Sy):List Sy:=ts.flatMap pre
theorem cT (t:Sy):pre t=t::jW (yI t):=by cases t<;>simp[pre,yI,jW]
theorem kT:∀ t:Sy,(pre t).length=t.size
 | .say _=>rfl
 | .neg a=>by simp[pre,Sy.size,kT a]
 | .two _ a b=>by simp[pre,Sy.size,kT a,kT b]
theorem cR:∀ t:Sy,t.ok->∀ p∈pre t,p.size<=t.size/\p.ok
 | .say x,o,p,h=>by
  rw[zzO h];exact ⟨zzR _,o⟩
 | .neg a,o,p,h=>by
  rcases Zd.mp h with rfl|h
  .exact ⟨zzR _,o⟩
  .have:=cR a o p h;exact ⟨Ze this.1 (Nat.le_succ _),this.2⟩
 | .two _ a b,o,p,h=>by
  rcases Zd.mp h with rfl|h
  .exact ⟨zzR _,o⟩
  .rcases ZD.mp h with h|h
   .have:=cR a o.1 p h;exact ⟨by simp only[Sy.size];omega,this.2⟩
   .have:=cR b o.2 p h;exact ⟨by simp only[Sy.size];omega,this.2⟩
theorem tE (a b:List Sy):jW (a++b)=jW a++jW b:=by simp[jW]
theorem pI (a:Sy):jW [a]=pre a:=by simp[jW]
theorem qO (t:Sy) (r:List Sy):jW (t::r)=t::jW (yI t++r):=by
 rw[tE,← Zab,← cT];simp[jW]
theorem suf:∀ (i:Nat) (ts:List Sy),∃ ts',(jW ts).drop i=jW ts'
 | 0,ts=>⟨ts,rfl⟩
 |i+1,[]=>⟨[],by simp[jW]⟩
 |i+1,t::r=>by
  obtain ⟨ts',e⟩:=suf i (yI t++r);exact ⟨ts',by rw[qO,List.drop_succ_cons,e]⟩
theorem cU:∀ {a b:List Sy},jW a=jW b->a=b
 | [],[],_=>rfl
 | [],t::r,h=>by rw[qO] at h;cases h
 |t::r,[],h=>by rw[qO] at h;cases h
 |t::r,t'::r',h=>by
  have h1:=h;rw[qO,qO] at h1
  injection h1 with h1 _
  subst h1;have h2:pre t++jW r=pre t++jW r':=by simpa[jW] using h
  rw[cU (List.append_cancel_left h2)]
theorem zf2 {t x:Sy} {i:Nat} {ts:List Sy} (h:(pre t).drop i=x::jW ts):∃ r,ts=yI x++r:=by
 obtain ⟨ts',e⟩:=suf i [t];rw[pI,h] at e
 cases ts' with
 |nil=>cases e
 |cons y r =>
  rw[qO] at e
  injection e with e1 e2
  subst e1;exact ⟨r,cU e2⟩
def kE (ts:List Sy):Nat:=(jW ts).length
theorem dM (a b:List Sy):kE (a++b)=kE a+kE b:=by simp[kE,tE]
theorem pO:∀ ts:List Sy,ts.length<=kE ts
 | []=>ZS _
 |t::ts=>by
  have h1:=t.pos;have h2:=pO ts;have e:kE (t::ts)=(pre t).length+kE ts:=by simp[kE,jW]
  rw[e,kT,Zf];omega
theorem zd6 (t:Sy):kE (yI t)+1=t.size:=by
 have:=kT t;rw[cT] at this;simpa[kE] using this
def isW:Tk->Bool
 | .nt=>true
 | .op _=>true
 | .lp=>true
 |_=>false
def ops:List Tk->Nat
 | []=>0
 | .op _::V=>ops V+1
 |_::V=>ops V
structure Wf (D:List Sy) (V:List Tk) (n:Nat):Prop where
 len:D.length=ops V+n
 all:∀ w∈V,isW w=true
theorem zim {m:Nat} (hm:1<=m):∀ {V:List Tk} {D:List Sy},Wf D V 1->Wf (tl m D V).1 (tl m D V).2 1
 | [],D,h=>h
 |w::V,D,h=>by
  unfold tl
  split
  .rename_i hb;refine zim hm ⟨?_,fun x hx=>h.all x (Zc _ hx)⟩;have hl:=h.len;have hw:=h.all w zzT
   match w,hw,hb,hl with
   | .nt,_,_,hl =>
    cases D with
    |nil=>simp[ops] at hl
    |cons a D=>simpa[ops,pt] using hl
   | .op k,_,_,hl =>
    match D,hl with
    | [],hl=>simp[ops] at hl
    | [a],hl=>simp[ops] at hl
    |b::a::D,hl=>simp only[ops,Zf] at hl;simp only[pt,Zf];omega
   | .lp,_,hb,_=>have hb:m<=0:=hb;omega
  .exact h
theorem zcr {m:Nat}:∀ (V:List Tk) (D:List Sy),(tl m D V).1.length<=D.length/\(tl m D V).2.length<=V.length
 | [],D=>⟨zzR _,zzR _⟩
 |w::V,D=>by
  unfold tl
  split
  .have ih:=zcr (m:=m) V (pt w D);have hp:(pt w D).length<=D.length:=by unfold pt;split<;>simp
   exact ⟨Ze ih.1 hp,by rw[Zf];omega⟩
  .exact ⟨zzR _,zzR _⟩
def Good:St->Tk->Prop
 | (_,_,true),.nm x=>fB x=true
 | (_,_,true),.nt=>True
 | (_,_,true),.lp=>True
 | (_,_,true),_=>False
 | (_,_,false),.op _=>True
 | (D,V,false),.rp=>(tl 1 D V).2≠[]
 | (_,_,false),_=>False
def sD:St->List Tk->Prop
 |_,[]=>True
 |s,t::l=>Good s t/\sD (step s t) l
theorem rY:∀ (a:List Tk) (s:St) (b:List Tk),sD s (a++b)↔sD s a/\sD (run s a) b
 | [],s,b=>⟨fun h=>⟨trivial,h⟩,fun h=>h.2⟩
 |t::a,s,b=>by
  show (Good s t/\sD (step s t) (a++b))↔(Good s t/\sD (step s t) a)/\sD (run (step s t) a) b;rw[rY a];exact ⟨fun h=>⟨⟨h.1,h.2.1⟩,h.2.2⟩,fun h=>⟨h.1.1,h.1.2,h.2⟩⟩
theorem zmg (a:Sy):1<=bd a:=by
 cases a with
 |say x=>show 1<=5;decide
 |neg a=>show 1<=4;decide
 |two k a b=>match k with|0=>show 1<=3;decide|1=>show 1<=2;decide|k+2=>show 1<=1;decide
def WfS:St->Prop
 | (D,V,l)=>Wf D V (if l=true then 0 else 1)
theorem zcQ (k:Nat):1<=lA k:=by match k with|0=>decide|k+1=>show 1<=2;decide
theorem zkf {m:Nat}:∀ (V:List Tk) (D:List Sy),Low m (tl m D V).2
 | [],D=>trivial
 |w::V,D=>by
  unfold tl
  split
  .exact zkf V _
  .rename_i hb;exact Nat.not_le.mp hb
theorem zii {s:St} {t:Tk} (h:WfS s) (g:Good s t):WfS (step s t):=by
 obtain ⟨D,V,l⟩:=s
 cases l with
 |true =>
  have h:Wf D V 0:=h
  match t,g with
  | .nm x,_=>exact ⟨by have:=h.len;show D.length+1=ops V+1;omega,h.all⟩
  | .nt,_=>exact ⟨h.len,fun w hw=>by rcases Zd.mp hw with rfl|hw;rfl;exact h.all w hw⟩
  | .lp,_=>exact ⟨h.len,fun w hw=>by rcases Zd.mp hw with rfl|hw;rfl;exact h.all w hw⟩
 |false =>
  have h:Wf D V 1:=h
  match t,g with
  | .op k,_ =>
   have:=zim (zcQ k) h;exact ⟨this.len,fun w hw=>by rcases Zd.mp hw with rfl|hw;rfl;exact this.all w hw⟩
  | .rp,g =>
   have hw:=zim (zzR 1) h;have g:(tl 1 D V).2≠[]:=g;show Wf (tl 1 D V).1 ((tl 1 D V).2.drop 1) 1;have low:Low 1 (tl 1 D V).2:=zkf V D;generalize tl 1 D V=r at hw g low;obtain ⟨D',V'⟩:=r
   cases V' with
   |nil=>exact absurd rfl g
   |cons w V' =>
    have hi:=hw.all w zzT;refine ⟨?_,fun x hx=>hw.all x (Zc _ hx)⟩
    match w,hi,low,hw.len with
    | .lp,_,_,e=>exact e
    | .nt,_,low,_=>exact absurd (show (4:Nat)<1 from low) (by decide)
    | .op 0,_,low,_=>exact absurd (show (3:Nat)<1 from low) (by decide)
    | .op 1,_,low,_=>exact absurd (show (2:Nat)<1 from low) (by decide)
    | .op (k+2),_,low,_=>exact absurd (show (1:Nat)<1 from low) (by decide)
def LenS (s:St) (n:Nat):Prop:=s.1.length<=n/\s.2.1.length<=n
theorem zgJ {s:St} {t:Tk} {n:Nat} (h:LenS s n):LenS (step s t) (n+1):=by
 obtain ⟨D,V,l⟩:=s;have h1:D.length<=n:=h.1;have h2:V.length<=n:=h.2;have tA:=fun k=>zcr (m:=lA k) V D;have t1:=zcr (m:=1) V D
 have q1:∀ t:Tk,(step (D,V,true) t).1.length<=n+1/\(step (D,V,true) t).2.1.length<=n+1:=by
  intro t;cases t<;>simp only[step,Zf]<;>omega
 have q2:∀ t:Tk,(step (D,V,false) t).1.length<=n+1/\(step (D,V,false) t).2.1.length<=n+1:=by
  intro t
  cases t with
  |op k=>have:=tA k;simp only[step,Zf];omega
  |_=>simp only[step,ZX];omega
 cases l with
 |true=>exact q1 t
 |false=>exact q2 t
inductive Tn:Sy->Bool->List Tk->Prop where
 |say {x:Str}:Tn (.say x) false [.nm x]
 |neg {a:Sy} {b:Bool} {ts:List Tk}:Tn a b ts->(b=false->¬ bd a<4)->Tn (.neg a) false (.nt::ts)
 |two {k:Nat} {a c:Sy} {b1 b2:Bool} {ts us:List Tk}:Tn a b1 ts->(b1=false->¬ bd a<lA k)->Tn c b2 us->(b2=false->¬ bd c<lB k)->Tn (.two k a c) false (ts++.op k::us)
 |par {t:Sy} {b:Bool} {ts:List Tk}:Tn t b ts->Tn t true (.lp::(ts++[.rp]))
def bb (b:Bool) (t:Sy):Nat:=if b=true then 5 else bd t
theorem zfI (b:Bool) (t:Sy):1<=bb b t:=by unfold bb;split;decide;exact zmg t
theorem zeQ {t:Sy} {V:List Tk}:Low (need t) (.lp::V):=show bin .lp<need t from Zm (by decide) (zgD t)
theorem ziC {t:Sy} {b:Bool} {ts:List Tk} (h:Tn t b ts):∀ (D:List Sy) (V:List Tk),(b=false->Low (need t) V)->Rd D V t (bb b t) (run (D,V,true) ts):=by
 induction h with
 | @say x=>intro D V _;exact ⟨.say x::D,V,rfl,fun m _ _=>rfl⟩
 | @neg a b ts _ hn ih =>
  intro D V _;obtain ⟨D',V',e,p⟩:=ih D (.nt::V) fun z=>by rw[zcL (hn z)];show 4<5;decide
  refine ⟨D',V',e,fun m h1 h2=>?_⟩;have h2:m<=4:=h2
  have hm:m<=bb b a:=by
   unfold bb
   cases b with
   |true=>rw[if_pos rfl];omega
   |false=>rw[if_neg zzN];have:=hn rfl;omega
  rw[p m h1 hm];show tl m (a::D) (.nt::V)=_;rw[tl,if_pos (show m<=bin .nt from h2)];rfl
 | @two k a c b1 b2 ts us _ h1 _ h2 ia ic =>
  intro D V hl;have hl:Low (lA k) V:=hl rfl;obtain ⟨D1,V1,e1,p1⟩:=ia D V fun z=>hl.mono (za4 (h1 z));rw[zbN,e1];have kA5:lA k<=5:=by match k with|0=>decide|k+1=>show 2<=5;decide
  have q:=p1 (lA k) (zcQ k) (by
   unfold bb
   cases b1 with
   |true=>rw[if_pos rfl];omega
   |false=>rw[if_neg zzN];have:=h1 rfl;omega)
  rw[zcq hl] at q;show Rd D V (.two k a c) _ (run ((tl (lA k) D1 V1).1,.op k::(tl (lA k) D1 V1).2,true) us);rw[q];obtain ⟨D2,V2,e2,p2⟩:=ic (a::D) (.op k::V) fun z=>cD (h2 z);refine ⟨D2,V2,e2,fun m h1' h2'=>?_⟩
  have hb:bd (.two k a c)=bin (.op k)/\bin (.op k)<=lB k/\bin (.op k)<=5:=by
   match k with
   | 0=>exact ⟨rfl,by show 3<=4;decide,by show 3<=5;decide⟩
   | 1=>exact ⟨rfl,by show 2<=3;decide,by show 2<=5;decide⟩
   |k+2=>exact ⟨rfl,by show 1<=1;decide,by show 1<=5;decide⟩
  have h2':m<=bd (.two k a c):=h2'
  have hm:m<=bb b2 c:=by
   unfold bb
   cases b2 with
   |true=>rw[if_pos rfl];omega
   |false=>rw[if_neg zzN];have:=h2 rfl;omega
  rw[p2 m h1' hm];show tl m (c::a::D) (.op k::V)=_;rw[tl,if_pos (by omega)];rfl
 | @par t b ts _ ih =>
  intro D V _;obtain ⟨D',V',e,p⟩:=ih D (.lp::V) fun _=>zeQ;show Rd D V t 5 (run (step (D,V,true) .lp) (ts++[.rp]));rw[zbN];show Rd D V t 5 (step (run (D,.lp::V,true) ts) .rp);rw[e];have q:=p 1 (zzR _) (zfI b t);have ql:tl 1 (t::D) (.lp::V)=(t::D,.lp::V):=zcq (show bin .lp<1 by decide);rw[ql] at q;show Rd D V t 5 ((tl 1 D' V').1,(tl 1 D' V').2.drop 1,false);rw[q];exact ⟨t::D,V,rfl,fun m _ _=>rfl⟩
theorem zg2 {t:Sy} {b:Bool} {ts:List Tk} (h:Tn t b ts):t.ok->∀ (D:List Sy) (V:List Tk),(b=false->Low (need t) V)->sD (D,V,true) ts:=by
 induction h with
 |say=>intro ok D V _;exact ⟨ok,trivial⟩
 | @neg a b ts _ hn ih =>
  intro ok D V _;exact ⟨trivial,ih ok D (.nt::V) fun z=>by rw[zcL (hn z)];show 4<5;decide⟩
 | @two k a c b1 b2 ts us ta h1 _ h2 ia ic =>
  intro ok D V hl;have hl:Low (lA k) V:=hl rfl;have la:b1=false->Low (need a) V:=fun z=>hl.mono (za4 (h1 z));refine (rY _ _ _).mpr ⟨ia ok.1 D V la,?_⟩;obtain ⟨D1,V1,e1,p1⟩:=ziC ta D V la;rw[e1];have kA5:lA k<=5:=by match k with|0=>decide|k+1=>show 2<=5;decide
  have q:=p1 (lA k) (zcQ k) (by
   unfold bb
   cases b1 with
   |true=>rw[if_pos rfl];omega
   |false=>rw[if_neg zzN];have:=h1 rfl;omega)
  rw[zcq hl] at q;refine ⟨trivial,?_⟩;show sD ((tl (lA k) D1 V1).1,.op k::(tl (lA k) D1 V1).2,true) us;rw[q];exact ic ok.2 (a::D) (.op k::V) fun z=>cD (h2 z)
 | @par t b ts tt ih =>
  intro ok D V _;refine ⟨trivial,(rY _ _ _).mpr ⟨ih ok D (.lp::V) fun _=>zeQ,?_⟩⟩;obtain ⟨D',V',e,p⟩:=ziC tt D (.lp::V) fun _=>zeQ;show sD (run (D,.lp::V,true) ts) [.rp];rw[e];refine ⟨?_,trivial⟩;have q:=p 1 (zzR _) (zfI b t);have ql:tl 1 (t::D) (.lp::V)=(t::D,.lp::V):=zcq (show bin .lp<1 by decide);rw[ql] at q;show (tl 1 D' V').2≠[];rw[q];simp
theorem zdZ:∀ t:Sy,Tn t false (tw t):=by
 have hb:∀ (n:Nat) (a:Sy),Tn a false (tw a)->∃ b,Tn a b (br n a (tw a))/\(b=false->¬ bd a<n):=fun n a h=>by
  unfold br
  by_cases hc:bd a<n
  .rw[if_pos hc];exact ⟨true,.par h,fun z=>nomatch z⟩
  .rw[if_neg hc];exact ⟨false,h,fun _=>hc⟩
 intro t
 induction t with
 |say x=>exact .say
 |neg a ih=>obtain ⟨b,h1,h2⟩:=hb 4 a ih;exact .neg h1 h2
 |two k a c ia ic =>
  obtain ⟨b1,h1,h2⟩:=hb (lA k) a ia;obtain ⟨b2,h3,h4⟩:=hb (lB k) c ic;exact .two h1 h2 h3 h4
theorem tn_rd {t:Sy} {b:Bool} {ts:List Tk} (h:Tn t b ts):∃ D V,run ([],[],true) ts=(D,V,false)/\tl 1 D V=([t],[]):=by
 obtain ⟨D,V,e,p⟩:=ziC h [] [] fun _=>trivial;exact ⟨D,V,e,p 1 (zzR _) (zfI b t)⟩
theorem zfY {t:Sy} {b:Bool} {ts:List Tk} (h:Tn t b ts) (ok:t.ok):sD ([],[],true) ts:=zg2 h ok [] [] fun _=>trivial
def nl (l:List Nat):List Nat:=l.map fun k=>if k=10 then 32 else k
def isB (t:Tk):Bool:=match t with|.lp=>true|.rp=>true|_=>false
structure Jn (l:List Nat) (ts:List Tk):Prop where
 wd:wd (ex (nl l))=ts.map c
 end_:(∃ t,ts.getLast?=some t/\isB t=true)\/l=[]->∃ a,ex (nl l)=a++[32]\/ex (nl l)=[]
def tkK:Tk->Prop
 | .nm x=>fB x=true
 |_=>True
theorem tn_ok {t:Sy} {b:Bool} {ts:List Tk} (h:Tn t b ts):t.ok->∀ k∈ts,tkK k:=by
 induction h with
 |say=>intro ok k hk;rw[zzO hk];exact ok
 |neg _ _ ih =>
  intro ok k hk;rcases Zd.mp hk with rfl|hk
  .trivial
  .exact ih ok k hk
 |two _ _ _ _ ia ic =>
  intro ok k hk;rcases ZD.mp hk with hk|hk
  .exact ia ok.1 k hk
  .rcases Zd.mp hk with rfl|hk
   .trivial
   .exact ic ok.2 k hk
 |par _ ih =>
  intro ok k hk;rcases Zd.mp hk with rfl|hk
  .trivial
  .rcases ZD.mp hk with hk|hk
   .exact ih ok k hk
   .rw[zzO hk];trivial
theorem zlj (x:Str):(Txt.replace x "\n" " ").cps.toList=nl x.cps.toList:=by
 refine zeu (by decide +kernel) ?_;rw[show ("\n" : Str).cps.toList=[10] by decide +kernel,show (" " : Str).cps.toList=[32] by decide +kernel];have:=cW (c:=10) (z:=[32]) x.cps.toList
 have e:∀ l:List Nat,(l.flatMap fun k=>if k=10 then [32] else [k])=nl l:=by
  intro l
  induction l with
  |nil=>rfl
  |cons k l ih =>
   rw[ZbJ,ih];show _=(if k=10 then 32 else k)::nl l
   by_cases h:k=10
   .rw[if_pos h,if_pos h];rfl
   .rw[if_neg h,if_neg h];rfl
 rw[e] at this;exact this
theorem zli (x:Str):(Txt.replace x "\n" " ").length=x.length:=by
 rw[← qZ,zlj,← qZ x];simp[nl]
theorem zj6 {x:Str} {ts:List Tk} (h:wd (ex (nl x.cps.toList))=ts.map c):wdS (opn (Txt.replace x "\n" " "))=ts.map Tk.s:=by
 unfold wdS;rw[zhH,zlj,h,ZaH];congr 1
theorem zlh:∀ {l:List Nat},10∉l->nl l=l
 | [],_=>rfl
 |k::l,h=>by
  simp only[Zd,not_or] at h;show (if k=10 then 32 else k)::nl l=_;rw[if_neg (Ne.symm h.1),zlh h.2]
abbrev hV:Mt3:=⟨"append", "list", fO⟩
theorem zjN {q:Pr} {A:Around}:MtE (q.at A) hV/\pQ hV:=⟨mH Za1 PySem.F.slot_list_append PySem.F.type_list_append (fun X f=>zmk) zbx,zbx⟩
def tv:Tk->W
 | .nm x=>.tup [.str "say", .str x]
 |t=>.str t.s
def Lw (D:List Sy):O:=.lst ((D.map Sy.w).reverse)
def Lk (V:List Tk):O:=.lst ((V.map fun t=>W.str t.s).reverse)
def bK:List Str:=["if", "or", "and", "not"]
def bV:List W:=[.int 1,.int 2,.int 3,.int 4]
def lK:List Str:=["not", "and", "or", "if"]
def lV:List W:=[.tup [.int 4],.tup [.int 3,.int 4],.tup [.int 2,.int 3],.tup [.int 2,.int 1]]
def wK:List Str:=["and", "or", "if"]
def wV:List W:=[.str " and ", .str " or ", .str " then "]
def jL:List W:=[.str "(", .str ")", .str "not", .str "and", .str "or", .str "then"]
def rK:List Str:=["(", "then", "or", "and", "not"]
def rV:List W:=[.int 0,.int 1,.int 2,.int 3,.int 4]
def tK:List Str:=["then", "or", "and", ")"]
def tV:List W:=[.int 2,.int 2,.int 3,.int 1]
def mK:List Str:=["then", "or", "and"]
def mV:List W:=[.str "if", .str "or", .str "and"]
def pP:Sy->Str
 | .say _ => "say"
 | .neg _ => "not"
 | .two k _ _=>kw k
def Fr (ws:List W) (G:Hw) (Q:Q3):Prop:=∀ r G',zI [] G G'->G r=none->G' r=some (.lst ws)->Q (.ref r) G'
theorem Fr.mono {ws:List W} {G:Hw} {Q Q':Q3} (k:∀ w G',Q w G'->Q' w G') (h:Fr ws G Q):Fr ws G Q':=fun r G' a b c=>k _ _ (h r G' a b c)
theorem Fr.keep {ws:List W} {G G1:Hw} {Q:Q3} (h:Fr ws G Q) (k:zI [] G G1):Fr ws G1 Q:=fun r G' a b c=>h r G' (k.trans a) (k.none (by simp) b) c
def K0 (w:W) (G:Hw) (Q:Q3):Prop:=∀ G',zI [] G G'->Q w G'
def fF:vW:=fun ws G Q _=>∃ (d l:Addr) (m:Int),ws=[.ref d,.int m]/\wQ G d l/\1<=m/\m<=4/\∀ (r:Addr) (xs:List Str) G',xs≠[]->xs.length<=4->(∀ x∈xs,fB x=true)->r∉[d,l]->G' r=some (.lst (xs.map .str))->zI [d,l] G G'->wQ G' d l->Q (.ref r) G'
def jP:vW:=fun ws G Q _=>∃ t:Sy,ws=[t.w]/\Q (.tup ((yI t).map Sy.w)) G
def pN (sA:Addr):vW:=fun ws G Q _=>∃ t:Sy,ws=[t.w,.ref sA]/\t.size<=40/\Fr ((pre t).map Sy.w) G Q
def spJt:vW:=fun ws G Q _=>∃ (t:Sy) (p:Addr) (ini:List W),ws=[.str (pP t),.tup ((yI t).map Sy.w),.ref p]/\t.ok/\t.size<=40/\yI t≠[]/\ini.length<=100/\G p=some (.lst (ini++((yI t).map fun s=>W.str (sh s)).reverse))/\∀ G',zI [p] G G'->G' p=some (.lst ini)->Q (.str (sh t)) G'
def fH (sA nA:Addr):vW:=fun ws G Q _=>∃ t:Sy,ws=[t.w,.ref sA,.ref nA]/\t.ok/\t.size<=40/\K0 (.str (sh t)) G Q
def jS:vW:=fun ws G Q _=>∃ x:Str,ws=[(Sy.say x).w]/\Q (.str x) G
def mT:vW:=fun ws G Q _=>∃ t:Sy,ws=[t.w]/\t.ok/\t.size<=40/\K0 (.str (sh t)) G Q
def zf8:vW:=fun ws G Q _=>∃ (w:Tk) (D:List Sy) (p:Addr),ws=[.str w.s,.ref p]/\G p=some (Lw D)/\D.length<=500/\((w=.nt/\1<=D.length)\/∃ k,w=.op k/\2<=D.length)/\∀ G',zI [p] G G'->G' p=some (Lw (pt w D))->Q .non G'
def dH:vW:=fun ws G Q _=>∃ (m:Nat) (D:List Sy) (V:List Tk) (p r:Addr),ws=[.int m,.ref p,.ref r]/\1<=m/\p≠r/\G p=some (Lw D)/\G r=some (Lk V)/\Wf D V 1/\D.length<=400/\V.length<=400/\∀ G',zI [p,r] G G'->G' p=some (Lw (tl m D V).1)->G' r=some (Lk (tl m D V).2)->Q .non G'
def tJ (l:Bool):vW:=fun ws G Q _=>∃ (t:Tk) (D:List Sy) (V:List Tk) (p r:Addr),ws=[tv t,.ref p,.ref r]/\p≠r/\G p=some (Lw D)/\G r=some (Lk V)/\Good (D,V,l) t/\WfS (D,V,l)/\D.length<=300/\V.length<=300 /\
 ∀ G',zI [p,r] G G'->G' p=some (Lw (step (D,V,l) t).1)->G' r=some (Lk (step (D,V,l) t).2.1)->Q (.bl (step (D,V,l) t).2.2) G'
def spRJ:vW:=fun ws G Q _=>∃ (t:Sy) (b:Bool) (tk:List Tk) (q:Addr),ws=[.ref q]/\t.ok/\Tn t b tk/\tk.length<=300/\G q=some (.lst (tk.map tv))/\K0 t.w G Q
def zf9:vW:=fun ws G Q _=>∃ x:Str,ws=[.str x]/\fB x=true/\K0 (.bl true) G Q
def tkOk:Tk->Prop
 | .nm x=>fB x=true
 |_=>True
def spRW:vW:=fun ws G Q _=>∃ k:Tk,ws=[.str k.s]/\tkOk k/\K0 (tv k) G Q
def spWB:vW:=fun ws G Q _=>∃ x:Str,ws=[.str x]/\x.length<=20000/\Fr ((wdS x).map .str) G Q
def spWA:vW:=fun ws G Q _=>∃ x:Str,ws=[.str x]/\x.length<=6000/\Fr ((wdS (opn x)).map .str) G Q
def spRS:vW:=fun ws G Q _=>∃ (t:Sy) (b:Bool) (tk:List Tk) (x:Str),ws=[.str x]/\t.ok/\Tn t b tk/\tk.length<=300/\x.length<=5000/\wd (ex (nl x.cps.toList))=tk.map c/\K0 t.w G Q
def sL:Sy->List Str
 | .say _=>[]
 | .neg _=>["not"]
 | .two 0 _ _=>["left", "right"]
 | .two 1 _ _=>["which"]
 | .two _ _ _=>["if"]
inductive yB where
 |an1 (t:Sy)|an (w:Str) (p t:Sy)|db (w:Str)|dt (w:Str) (p:Sy)
def yB.w:yB->W
 | .an1 t=>.tup [.str "answer", t.w]
 | .an w p t=>.tup [.str "answer", .tup [.str w,p.w],t.w]
 | .db w=>.tup [.str "doubt", .str w]
 | .dt w p=>.tup [.str "doubt", .str w,p.w]
def Okp (t:Sy):Prop:=t.ok/\t.size<=9
def yB.ok:yB->Prop
 | .an1 t=>Okp t
 | .an w p t=>Okp p/\Okp t/\(w = "begin" \/ w∈sL p)
 | .db w=>∃ p,w∈sL p
 | .dt w p=>Okp p/\w∈sL p
def yB.sy:yB->List Sy
 | .an1 t=>[t]
 | .an _ p t=>[p,t]
 | .db _=>[]
 | .dt _ p=>[p]
def brc (x:Str):Str := "{" ++ x ++ "}"
def yB.txt:yB->List Str->Str
 | .an1 _,[x] => "answer " ++ brc x
 | .an w _ _,[x,y] => "answer " ++ w ++ " " ++ brc x ++ " with " ++ brc y
 | .db w,[] => "doubt " ++ w
 | .dt w _,[x] => "doubt " ++ w ++ " " ++ brc x
 |_,_ => ""
structure Lo (x:Str) (t:Sy):Prop where
 rd:∃ b tk,Tn t b tk/\tk.length<=300/\wd (ex (nl x.cps.toList))=tk.map c
 len:x.length<=2000
 no:123∉x.cps.toList/\125∉x.cps.toList/\10∉x.cps.toList
def Los:List Str->List Sy->Prop
 | [],[]=>True
 |x::xs,t::ts=>Lo x t/\Los xs ts
 |_,_=>False
mutual
def st:W->Bool
 | .str _=>true
 | .tup ws=>decide (ws.length<=1000)&&sts ws
 |_=>false
def sts:List W->Bool
 | []=>true
 |w::ws=>st w&&sts ws
end
def wL (n:Nat):vW:=fun ws G Q _=>∃ (d l r:Addr) (m:Int) (xs:List Str),ws=[.ref d,.ref r,.int m]/\wQ G d l/\r∉[d,l]/\G r=some (.lst (xs.map .str))/\xs≠[]/\xs.length<=5/\(∀ x∈xs,fB x=true)/\1<=m/\m<n/\m<=40/\∀ (t:Sy) G',t.ok->(t.size:Int)=m->zI [d,l] G G'->wQ G' d l->Q t.w G'
def qN (n:Nat):vW:=fun ws G Q _=>∃ t:Sy,ws=[t.w]/\Okp t/\t.size<n/\∀ (l:List Sy) r G',l≠[]->l.length<=t.size->(∀ p∈l,Okp p)->zI [] G G'->G r=none->G' r=some (.lst (l.map Sy.w))->Q (.ref r) G'
def fK:vW:=fun ws G Q _=>∃ t:Sy,ws=[t.w]/\Fr ((sL t).map .str) G Q
def fJ:vW:=fun ws G Q _=>∃ (d l:Addr) (t:Sy),ws=[.ref d,t.w]/\wQ G d l/\Okp t/\∀ (ss:List yB) r G',(∀ s∈ss,s.ok)->zI [d,l] G G'->wQ G' d l->r∉[d,l]->G' r=some (.lst (ss.map yB.w))->Q (.ref r) G'
def pL:vW:=fun ws G Q _=>∃ t:Sy,ws=[t.w]/\Okp t/\K0 (.str (brc (sh t))) G Q
def fI:vW:=fun ws G Q _=>∃ s:yB,ws=[s.w]/\s.ok/\K0 (.str (s.txt (s.sy.map sh))) G Q
def fE:vW:=fun ws G Q _=>∃ (d l:Addr) (t:Sy),ws=[.ref d,t.w]/\wQ G d l/\Okp t/\∀ (x:Str) G',Lo x t->zI [d,l] G G'->wQ G' d l->Q (.str x) G'
def dI:vW:=fun ws G Q _=>∃ (d l:Addr) (s:yB),s.ok/\wQ G d l/\((ws=[.ref d,s.w,.bl false]/\∀ G',zI [d,l] G G'->wQ G' d l->Q (.str (s.txt (s.sy.map sh))) G')\/(ws=[.ref d,s.w,.bl true]/\∀ xs G',Los xs s.sy->zI [d,l] G G'->wQ G' d l->Q (.str (s.txt xs)) G'))
def mid:List (Str×Str×Sy)->Str
 | [] => ""
 | (x,a,_)::r => "{" ++ (x++("}" ++ (a++mid r)))
def cK (o:Str):List (Str×Str×Sy)->Str
 | []=>o
 | (_,a,_)::r=>cK (o++("{}" ++ a)) r
def spBE:vW:=fun ws G Q _=>∃ (o:Str) (ps:List (Str×Str×Sy)),ws=[.str (o++mid ps)]/\o.length<=100/\ps.length<=2/\123∉o.cps.toList/\(∀ p∈ps,Lo p.1 p.2.2/\p.2.2.ok/\p.2.1.length<=100/\123∉p.2.1.cps.toList)/\∀ r G',zI [] G G'->G r=none->G' r=some (.lst (ps.map fun p=>p.2.2.w))->Q (.tup [.str (cK o ps),.ref r]) G'
def tI:vW:=fun ws G Q _=>∃ t:Sy,ws=[t.w]/\Fr ((sL t).map .str) G Q
def spRA:vW:=fun ws G Q _=>∃ (p q:Addr),ws=[.ref p,.ref q]/\((∃ t:Sy,G p=some (.lst [.str "{}"])/\G q=some (.lst [t.w])/\K0 (yB.an1 t).w G Q)\/∃ (w:Str) (a t:Sy),(w = "begin" \/ w∈sL a)/\G p=some (.lst [.str w,.str "{}", .str "with", .str "{}"])/\G q=some (.lst [a.w,t.w])/\K0 (yB.an w a t).w G Q)
def spRD:vW:=fun ws G Q _=>∃ (p q:Addr),ws=[.ref p,.ref q]/\((∃ (w:Str) (a:Sy),w∈sL a/\G p=some (.lst [.str w])/\G q=some (.lst [])/\K0 (yB.db w).w G Q)\/∃ (w:Str) (a:Sy),w∈sL a/\G p=some (.lst [.str w,.str "{}"])/\G q=some (.lst [a.w])/\K0 (yB.dt w a).w G Q)
def fG:vW:=fun ws G Q _=>∃ (s:yB) (xs:List Str),ws=[.str (s.txt xs)]/\s.ok/\Los xs s.sy/\K0 s.w G Q
def wW (n:Nat):vW:=fun ws G Q _=>∃ w:W,ws=[w,w]/\(st w=true/\dep w<n)/\K0 (.bl true) G Q
section
variable (K:yJ) (sA nA:Addr)
def fnL:List Fn3:=[eMax,hX,eAll,eLst,eIsj K,eSrt,zmb,zdE,⟨"_law_names", fF⟩,⟨"_law_saying", wL 10⟩,⟨"_law_all_parts", qN 10⟩,⟨"_law_words", fK⟩,⟨"_law_steps", fJ⟩,⟨"sides_of", jP⟩,⟨"all_within", pN sA⟩,⟨"joined_text", spJt⟩,⟨"show_joined", fH sA nA⟩,⟨"name_of", jS⟩,⟨"show_saying", mT⟩,⟨"in_braces", pL⟩,⟨"show_step", fI⟩,⟨"_law_loose", fE⟩,⟨"_law_text", dI⟩,⟨"put_together", zf8⟩,
 ⟨"take_left", dH⟩,⟨"begin_side", tJ true⟩,⟨"go_on", tJ false⟩,⟨"read_joined", spRJ⟩,⟨"is_name", zf9⟩,⟨"read_word", spRW⟩,⟨"words_between_blanks", spWB⟩,⟨"words_and_brackets", spWA⟩,⟨"read_saying", spRS⟩,⟨"braces_emptied", spBE⟩,⟨"doubts_of", tI⟩,⟨"read_answer", spRA⟩,⟨"read_doubt", spRD⟩,⟨"read_step", fG⟩,⟨"_law_alike", wW 14⟩]
def wdK:List Str:=["say", "not", "and", "or", "if"]
def wdV:List W:=[.tup [],.tup [.str "not"],.tup [.str "left", .str "right"],.tup [.str "which"],.tup [.str "if"]]
def rpL:List Str:=["left", "right", "which", "if", "not"]
def GamL (l:List Fn3):Ctx3:=⟨l,[("LONGEST_NAME", .int 6),("NO_NAMES", .tup (noN.map .str)),("JOINING", .tup jL),("BINDS_sayread", .dcf rK rV),("TAKES", .dcf tK tV),("MADE", .dcf mK mV),("BINDS_saywrite", .dcf bK bV),("SINGLE_BINDS", .int 5),("LEAST", .dcf lK lV),("BETWEEN", .dcf wK wV),("WORDS", .dcf wdK wdV),("WORDS_OF_REPLIES", .tup (rpL.map .str)),("LENGTHS", .dcf ["first", "other"] [.int 3,.int 2]),("str", .ty "str"),("tuple", .ty "tuple"),("list", .ty "list"),("sides_of", .ref sA),("name_of", .ref nA)],
 [ePop,zdD,hV,eExt,hZ,zhd],[eRng,eZpi],[],
 [eRev,⟨rvM,rvS⟩,⟨hcM "sides_of", hcS sA jP⟩,⟨hcM "joined_by", hcS sA jP⟩,⟨hcM "single_text", hcS nA jS⟩,⟨fY ")" " ) ", rplS ")" " ) "⟩,⟨fY "(" " ( ", rplS "(" " ( "⟩,⟨fY "\n" " ", rplS "\n" " "⟩,⟨tQ [some "not ", none],fP [some "not ", none]⟩,⟨tQ [some "(", none,some ")"],fP [some "(", none,some ")"]⟩,⟨tQ [some "doubt ", none],fP [some "doubt ", none]⟩,⟨tQ [some "doubt ", none,some " "],fP [some "doubt ", none,some " "]⟩,⟨tQ [some "answer ", none,some " "],fP [some "answer ", none,some " "]⟩,⟨gt2M "BINDS_saywrite", gt2S bK bV⟩],[]⟩
def yV (n:Nat):Ctx3:=GamL sA nA ((fnL K sA nA).take n)
def kF (n:Nat) (e:Fn3):Ctx3:=GamL sA nA ((fnL K sA nA).take n++[e])
end
theorem xU {a:W} {l:List W}:pS (a::l) 0=some a:=by
 unfold pS;have:ixN (a::l).length 0=some 0:=by simp[ixN]
 rw[this];rfl
theorem gY {a b:W} {l:List W}:pS (a::b::l) 1=some b:=by
 unfold pS;have:ixN (a::b::l).length 1=some 1:=by simp[ixN];omega
 rw[this];rfl
theorem sz (n:Nat) (h:n<=100000):n<=sizeLine:=by rw[ZI];omega
theorem gZ {α:Type} {a:α} {l:List α}:(a::l)[0]?=some a:=rfl
theorem gS {α:Type} {a:α} {l:List α} {i:Nat}:(a::l)[i+1]?=l[i]?:=rfl
theorem tZ {α:Type} {a b:α} {l:List α}:(a::l).set 0 b=b::l:=rfl
theorem tS {α:Type} {a b:α} {l:List α} {i:Nat}:(a::l).set (i+1) b=a::l.set i b:=rfl
theorem yX {Γ:Ctx3} {E:XQ} {s:IS} {ss:ISs} {D:End3} {σ:qV} {G:Hw} (h:zT Γ E s { D with nx:=zG Γ E ss D } σ G):zG Γ E (.cons s ss) D σ G:=h
theorem vB {Γ:Ctx3} {E:XQ} {D:End3} {σ:qV} {G:Hw} (h:D.nx σ G):zG Γ E .nil D σ G:=h
theorem tyL {G:Hw} {o:Addr} {l:List W} (e:G o=some (.lst l)):tyW G (.ref o) "list" := by simp only[tyW,e]
theorem fN {G:Hw} {o:Addr} {l:List W} {y:W} {Q:Q3} (e:G o=some (.lst l)) (hl:l.length<1000) (h:Q .non (put G o (.lst (l++[y])))):fO (.ref o) [y] G Q:=by
 simp only[fO,e];exact ⟨by rw[ZI];omega,h⟩
theorem gH {G:Hw} {t:Addr} {xs:List W} {i:Int} {Q:Q3} (e:yP G t=some xs) (h:match pS xs i with|some w=>Q w G|none=>False):jU (.ref t) (.int i) G Q:=by
 unfold yP at e
 split at e
 .rename_i q;cases e;simp only[jU,q];exact h
 .rename_i q;cases e;simp only[jU,q];exact h
 .cases e
theorem yG {G:Hw} {t:Addr} {xs:List W} (e:G t=some (.lst xs)):yP G t=some xs:=by unfold yP;rw[e]
theorem seqL {G:Hw} {t:Addr} {xs:List W} (e:G t=some (.lst xs)):qH G (.ref t)=some xs:=by simp only[qH,yG e]
theorem hU {S:List Addr} {G G':Hw} {d l:Addr} (k:zI S G G') (hd:d∉S) (hl:l∉S) (D:wQ G d l):wQ G' d l:=by
 obtain ⟨x,y,z,D⟩:=D;exact ⟨x,y,z,k _ _ hd D.dic,k _ _ hl D.lst,D.s0,D.s1,D.n0,D.lf,D.len,D.ne⟩
theorem qE {G:Hw} {d l p:Addr} {o:O} (h:G p=none) (D:wQ G d l):wQ (put G p o) d l:=hU (S:=[]) (zI.new h) (by simp) (by simp) D
theorem zb8 {G G':Hw} {d l:Addr} (k:zI [] G G') (D:wQ G d l):wQ G' d l:=hU k (by simp) (by simp) D
theorem gI {S:List Addr} {G G':Hw} (k:zI [] G G'):zI S G G':=fun a u _ e=>k a u (by simp) e
theorem k0 {G G':Hw} (k:zI [] G G') {p:Addr} {o:O} (h:G p=some o):G' p=some o:=k _ _ (by simp) h
theorem vU {G:Hw} {p r:Addr} {o u:O} (hr:G r=none) (h:G p=some o):put G r u p=some o:=k0 (zI.new hr) h
theorem qS {G:Hw} {a p:Addr} {o:O} (e:G a=some o) (h:G p=none):a≠p:=fun z=>by rw[z,h] at e;cases e
theorem tD {G:Hw} {d l p:Addr} (D:wQ G d l) (h:G p=none):p∉[d,l]:=by
 obtain ⟨_,_,_,D⟩:=D;simp only[Zd,ZB,or_false,not_or];exact ⟨fun e=>(by rw[e,D.dic] at h;cases h),fun e=>(by rw[e,D.lst] at h;cases h)⟩
theorem kR {S:List Addr} {G G':Hw} {p:Addr} {o:O} (k:zI S G G') (h:G p=none):zI S G (put G' p o):=fun a u ha e=>by
 rw[yH (qS e h)];exact k a u ha e
theorem zb7 {G:Hw} {d l p:Addr} {o:O} (h:p∉[d,l]) (D:wQ G d l):wQ (put G p o) d l:=by
 simp only[Zd,ZB,or_false,not_or] at h;exact hU (S:=[p]) (zI.put (by simp)) (by simpa using Ne.symm h.1) (by simpa using Ne.symm h.2) D
theorem addS {a b:Str} {G:Hw} {Q:Q3} (h:a.length+b.length<=100000) (q:Q (.str (a++b)) G):vX .Add (.str a) (.str b) G Q:=⟨sz _ h,q⟩
theorem at_2 {a b c:W} {l:List W}:pS (a::b::c::l) 2=some c:=by
 unfold pS;have:ixN (a::b::c::l).length 2=some 2:=by simp[ixN];omega
 rw[this];rfl
theorem zmj {l:List W} {i:Int} (h0:0<=i) (h1:i<l.length):∃ w,w∈l/\pS l i=some w:=by
 have hi:i.toNat<l.length:=by omega
 refine ⟨l[i.toNat],Zak hi,?_⟩;unfold pS ixN;rw[if_pos h0,if_pos h1];exact Zj hi
def tls:ISs->ISs
 | .cons _ ss=>ss
 | .nil=>.nil
theorem yY {G:Hw} {a b:Str}:eqG G (.str a) (.str b)=some (a==b):=by simp[eqG,pur,dep,kY]
theorem addL {G:Hw} {p q:Addr} {xs ys:List W} {Q:Q3} (hp:G p=some (.lst xs)) (hq:G q=some (.lst ys)) (hl:xs.length+ys.length<=100000) (h:∀ r,G r=none->Q (.ref r) (put G r (.lst (xs++ys)))):vX .Add (.ref p) (.ref q) G Q:=by
 simp only[vX,hp,hq];exact ⟨sz _ hl,h⟩
section
variable {K:yJ} {sA nA:Addr}
theorem fnAt {n:Nat} (i:Nat) (hi:i<n) {e:Fn3} (h:(fnL K sA nA)[i]?=some e):(yV K sA nA n).fn[i]?=some e:=by
 show ((fnL K sA nA).take n)[i]?=_;rw[List.getElem?_take_of_lt hi];exact h
theorem qL {n m:Nat} (i:Nat) (hn:m<=n) {e:Fn3} (h:(fnL K sA nA)[i]?=some e) (hi:i<m:=by decide):(yV K sA nA n).fn[i]?=some e:=fnAt i (Zm hi hn) h
end
abbrev abc:Str := "abcdefghijklmnopqrstuvwxyz"
theorem zcl:abc.cps.toList.length=26:=by decide +kernel
theorem zmn:∀ c∈abc.cps.toList,bM c=true:=by decide +kernel
theorem uC {a b:Str}:xM (a++b)=(xM a&&xM b):=by
 unfold xM;rw[ZaC,Zag,List.all_append]
theorem zlK {i:Int} {G:Hw} {Q:Q3} (h0:0<=i) (h1:i<26) (h:∀ x:Str,x.length=1->xM x=true->Q (.str x) G):jU (.str abc) (.int i) G Q:=by
 have hi:i.toNat<abc.cps.toList.length:=by rw[zcl];omega
 have e:pS abc.cps.toList i=some abc.cps.toList[i.toNat]:=by
  unfold pS ixN;rw[if_pos h0,zcl,if_pos (show i<((26:Nat):Int) from h1)];exact Zj hi
 simp only[jU,e];refine ⟨?_,h _ rfl ?_⟩
 .have:abc.length=26:=by rw[← zcl];rfl
  rw[this];exact sz _ (by decide)
 .show [abc.cps.toList[i.toNat]].all bM=true;rw[ZaK,zmn _ (Zak hi)];rfl
theorem zd2 {x:Str} {j:Int} (h0:0<=j) (h1:j<=x.length):(Txt.slice x none (some j)).cps.toList=x.cps.toList.take j.toNat:=by
 have e:Txt.slice x none (some j)=StrLaws.sliceText x none (some j):=rfl;rw[e,StrLaws.sliceText_to ⟨h0,by rw[ZH];exact h1⟩];simp
theorem zbm {x:Str} {j:Int} (h0:0<=j) (h1:j<=x.length):(Txt.slice x (some j) none).cps.toList=x.cps.toList.drop j.toNat:=by
 have e:Txt.slice x (some j) none=StrLaws.sliceText x (some j) none:=rfl;rw[e,StrLaws.sliceText_from ⟨h0,by rw[ZH];exact h1⟩];have h2:j<=(x.cps.toList.length:Int):=by rw[ZH];exact h1
 show (((x.cps.toList.drop j.toNat).take _).toArray).toList=_;rw[List.toList_toArray];exact Z4 (by rw[ZX];omega)
theorem uM (x:Str):x.cps.toList.length=x.length:=by rw[ZH];rfl
theorem zjS {x:Str} {j:Int} {G:Hw} {Q:Q3} (h0:0<=j) (h1:j<=x.length) (hx:x.length<=1000) (a:xM x=true) (q:∀ y:Str,y.length<=j.toNat->xM y=true->Q (.str y) G):slR (.str x) none (some j) G Q:=by
 refine ⟨sz _ (by omega),q _ ?_ ?_⟩
 .rw[← uM,zd2 h0 h1,Z3];omega
 .unfold xM;rw[zd2 h0 h1,ZL];exact fun c hc=>ZL.mp a c (List.mem_of_mem_take hc)
theorem zhh {x:Str} {j:Int} {G:Hw} {Q:Q3} (h0:0<=j) (h1:j<=x.length) (hx:x.length<=1000) (a:xM x=true) (q:∀ y:Str,y.length<=x.length-j.toNat->xM y=true->Q (.str y) G):slR (.str x) (some j) none G Q:=by
 refine ⟨sz _ (by omega),q _ ?_ ?_⟩
 .rw[← uM,zbm h0 h1,ZX,uM];omega
 .unfold xM;rw[zbm h0 h1,ZL];exact fun c hc=>ZL.mp a c (List.mem_of_mem_drop hc)
theorem zlo:xM "" = true:=by decide +kernel
theorem ze7:∀ {ts:List Str},(∀ x∈ts,xM x=true)->xM (Str.join "" ts)=true
 | [],_=>by decide +kernel
 | [x],h=>h x zzT
 |x::y::r,h=>by
  show xM (x ++ "" ++ Str.join "" (y::r))=true;rw[uC,uC,h x zzT,zlo,ze7 fun z hz=>h z (Zc _ hz)];rfl
theorem zgT {ts:List Str} (h:∀ x∈ts,x.length<=1) (g:∀ x∈ts,xM x=true) (hn:ts.length<=4):JoinOk "" ts=true/\(Txt.join "" ts).length<=4/\xM (Txt.join "" ts)=true:=by
 have e:("" : Str).length=0:=by decide +kernel
 refine ⟨?_,?_,?_⟩
 .unfold JoinOk;rw[StrLaws.joinFits h (by rw[e];omega)];rfl
 .have h1:=StrLaws.join_length_le "" ts;have h2:=StrLaws.sumLen_le ts h;rw[e] at h1;rw[show Txt.join "" ts=Str.join "" ts from Zao "" ts];refine Ze h1 ?_;omega
 .rw[show Txt.join "" ts=Str.join "" ts from Zao "" ts];exact ze7 g
theorem zi6 {x:Str} (h1:1<=x.length) (h6:x.length<=6) (a:xM x=true) (n:x∉noN):fB x=true:=by
 unfold fB;rw[decide_eq_true h1,decide_eq_true h6,a,show noN.contains x=false by simpa using n];rfl
theorem no_q {x:Str} (h:x∈noN):x ++ "q" ∉ noN:=by
 revert h;have:∀ y∈noN,y ++ "q" ∉ noN:=by decide +kernel
 exact this x
theorem zlg {x:Str} (h:x∈noN):x.length<=4:=by
 have:∀ y∈noN,y.length<=4:=by decide +kernel
 exact this x h
theorem no_z {x:Str}:x ++ "z" ∉ noN:=fun h=>by
 have l:∀ y∈noN,y.cps.toList.getLast?≠some 122:=by decide +kernel
 refine l _ h ?_;rw[ZaC,Zag,show ("z" : Str).cps.toList=[122] by decide +kernel];simp
theorem zh8 {x:Str}:((noN.map W.str).any fun w=>kY w (.str x))=noN.contains x:=by
 rw[List.any_map,List.contains_eq_any_beq];congr 1
 funext y
 simp only[Function.comp,kY];exact Bool.beq_comm
section
variable {K:yJ} {sA nA:Addr}
theorem lenB {a b:Str} {m n:Nat} (ha:a.length<=m) (hb:b.length<=n):(a++b).length<=m+n:=by rw[Zn];exact ZaB ha hb
theorem zeK {n:Nat} (hn:8<=n) {ws:List W} {G:Hw} {Q:Q3} (h:fF ws G Q XN):zG (yV K sA nA n) XN wA { nx:=fun _ G'=>Q .non G',rt:=Q } (yR sT ws) G:=by
 obtain ⟨d,l,m,rfl,D,m1,m4,h⟩:=h;have e1:(yV K sA nA n).fn[1]?=some hX:=qL 1 hn rfl;have e6:(yV K sA nA n).fn[7]?=some zdE:=qL 7 hn rfl;have t1:(yV K sA nA n).mt[1]?=some zdD:=rfl;have t2:(yV K sA nA n).mt[2]?=some hV:=rfl;have i0:(yV K sA nA n).it[0]?=some eRng:=rfl;have z0:=sz 0 (by decide);have z4:=sz 4 (by decide);have q1:("q" : Str).length=1:=by decide +kernel
 have q2:xM "q" = true:=by decide +kernel
 have w1:("z" : Str).length=1:=by decide +kernel
 have w2:xM "z" = true:=by decide +kernel
 show zG (yV K sA nA n) XN wA { nx:=fun _ G'=>Q .non G',rt:=Q } [some (.ref d),some (.int m),none,none,none,none,none,none,none] G
 have go:∀ (G1:Hw) (p:Addr) (core:Str),core.length<=4->xM core=true->G p=none->p∉[d,l]->zI [d,l] G G1->wQ G1 d l->G1 p=some (.lst []) ->
   zG (yV K sA nA n) XN (tls (tls (tls wA))) { nx:=fun _ G'=>Q .non G',rt:=Q } [some (.ref d),some (.int m),some (.str abc),some (.ref p),some (.str core),none,none,none,none] G1:=by
  intro G1 p core hc hg hpn hp k1 D1 gp;simp only[wA,tls];refine yX ?_
  erw[e1,e6,qF,kZ,sz _ (show core.length<=100000 by omega),if_true,vX]
  refine ⟨d,l,core.length+1,rfl,D1,⟨by omega,by omega⟩,fun at' G2 a0 a1 k2 D2=>?_⟩;have gp2:=k2 _ _ hp gp;refine yX ?_
  erw[e6]
  refine ⟨d,l,26,rfl,D2,by decide,fun tn G3 tn0 tn1 k3 D3=>?_⟩;have gp3:=k3 _ _ hp gp2;have kG:=(k1.trans k2).trans k3;refine yX ?_
  erw[zS,i0]
  refine ⟨⟨by omega,by omega⟩,?_⟩;have len:((List.range m.toNat).map fun i:Nat=>W.int (i:Int)).length=m.toNat:=by simp
  refine ⟨fun i σ G'=>∃ (xs:List Str) (v7 v8:Option W),σ=[some (.ref d),some (.int m),some (.str abc),some (.ref p),some (.str core),some (.int at'),some (.int tn),v7,v8]/\G' p=some (.lst (xs.map .str))/\xs.length=i/\(∀ x∈xs,fB x=true/\x.length<=5/\xM x=true)/\zI [d,l] G G'/\wQ G' d l,
   ⟨[],none,none,rfl,gp3,rfl,by simp,kG,D3⟩,fun _ _ _ _ _=>trivial,?_,?_⟩
  .rintro i w σ G' hw ⟨xs,v7,v8,rfl,gx,hl,hs,kp,D'⟩;rw[Zp] at hw;obtain ⟨i',hi',rfl⟩:=Zq.mp hw;have him:i<m.toNat:=by have:=(Zh.mp hi').1;simpa using this
   have hii:i'=i:=by
    have:=(Zh.mp hi').2;rw[List.getElem_range] at this;exact this.symm
   subst hii;have him:i' < 4:=by omega
   refine yX ?_
   erw[]
   have hcl:core.length<=1000:=Ze hc (by decide);have haj:at'<=core.length:=Int.le_of_lt_add_one a1;refine zjS a0 haj hcl hg fun y1 h1 s1=>?_;refine ⟨.inl ⟨by omega,by omega⟩,by decide,?_⟩;refine zlK (ZbV _ (by decide)) (ZbB _ (by decide)) fun y2 h2 s2=>?_;have h4:y1.length<=4:=Ze h1 (Ze (Int.toNat_le.mpr haj) hc);refine addS (Ze (ZaB h4 (ZaI h2)) (by decide)) (zhh a0 haj hcl hg fun y3 h3 s3=>addS (Ze (ZaB (lenB h4 (ZaI h2)) (Ze h3 (Ze (Nat.sub_le _ _) hc))) (by decide)) ?_);have hlen:((y1++y2)++y3).length<=5:=by rw[Zn,Zn];omega
   have hlen1:1<=((y1++y2)++y3).length:=by rw[Zn,Zn,h2];exact Ze (Zbt 1 _) (Nat.le_add_right _ _)
   have hsg:xM ((y1++y2)++y3)=true:=by rw[uC,uC,s1,s2,s3];rfl
   generalize (y1++y2)++y3=nm at hlen hlen1 hsg ⊢;refine yX ?_
   erw[yT,sQ,L3.inR,zzB,if_false,zzC,zzL,zzA,Nat.reduceAdd,z4,true_and]
   refine ⟨⟨by simp[pur],by simp[wC,pur],by simp[deps,dep]⟩,?_⟩
   have app:∀ x:Str,fB x=true->x.length<=5->xM x=true->tyW G' (.ref p) "list" /\ fO (.ref p) [.str x] G' (fun _ G1=>∃ (xs':List Str) (v7 v8:Option W),[some (W.ref d),some (.int m),some (.str abc),some (.ref p),some (.str core),some (.int at'),some (.int tn),some (.int i'),some (.str x)]=[some (.ref d),some (.int m),some (.str abc),some (.ref p),some (.str core),some (.int at'),some (.int tn),v7,v8]/\G1 p=some (.lst (xs'.map .str))/\xs'.length=i'+1/\(∀ x∈xs',fB x=true/\x.length<=5/\xM x=true)/\zI [d,l] G G1/\wQ G1 d l):=by
    intro x hx hx5 hxs;refine ⟨tyL gx,fN gx (by rw[zzM];omega) ⟨xs++[x],_,_,rfl,by rw[zX];simp,by simp[hl],fun y hy=>?_,kR kp hpn,zb7 hp D'⟩⟩;rcases ZD.mp hy with hy|hy
    .exact hs y hy
    .rw[zzO hy];exact ⟨hx,hx5,hxs⟩
   have en:([W.str "and", .str "or", .str "not", .str "then"].any fun w=>kY w (.str nm))=noN.contains nm:=zh8;rw[en]
   by_cases hno:nm∈noN
   .rw[if_pos (by simpa using hno)];refine yX ?_
    erw[]
    have l5:(nm ++ "q").length<=4+1:=lenB (zlg hno) (ZaI q1);refine addS (Ze (ZaB hlen (ZaI q1)) (by decide)) ?_;refine vB ?_;refine yX ?_
    erw[t2]
    exact app _ (zi6 (by rw[Zn,q1];exact Zbt 1 _) (Ze l5 (by decide)) (by rw[uC,hsg,q2];rfl) (no_q hno)) l5 (by rw[uC,hsg,q2];rfl)
   .rw[if_neg (by simpa using hno)];refine vB ?_;refine yX ?_
    erw[t2]
    exact app _ (zi6 hlen1 (Ze hlen (by decide)) hsg hno) hlen hsg
  .rintro σ G' ⟨xs,v7,v8,rfl,gx,hl,hs,kp,D'⟩;rw[len] at hl
   obtain ⟨x,r,rfl⟩:∃ x r,xs=x::r:=by
    cases xs with
    |nil=>simp at hl;omega
    |cons x r=>exact ⟨x,r,rfl⟩
   have hlr:r.length+1=m.toNat:=by simpa using hl
   have fin:∀ (ys:List Str) (G2:Hw),ys.length=m.toNat->(∀ y∈ys,fB y=true)->zI [d,l] G G2->wQ G2 d l->G2 p=some (.lst (ys.map .str))->∀ v7 v8:Option W,zG (yV K sA nA n) XN (.cons (.ret (.var 3)) .nil) { nx:=fun _ G'=>Q .non G',rt:=Q } [some (.ref d),some (.int m),some (.str abc),some (.ref p),some (.str core),some (.int at'),some (.int tn),v7,v8] G2:=by
    intro ys G2 hy hs2 k4 D4 g4 v7 v8;refine yX ?_
    erw[]
    refine h p ys G2 ?_ (by omega) hs2 hp g4 k4 D4;rintro rfl;simp at hy;omega
   refine yX ?_
   erw[yT,cJ]
   by_cases hm:1<m
   .rw[if_pos (by simpa using hm)]
    erw[e6]
    refine ⟨d,l,2,rfl,D',by decide,fun b G4 b0 b1 k4 D4=>?_⟩;have gx4:=k4 _ _ hp gx;simp only[yF]
    by_cases hb:b=1
    .rw[decide_eq_true hb,if_pos rfl];refine yX ?_
     erw[]
     refine gH (xQ gx4) ?_;rw[zzU,xU];have hx:=hs x (by simp);refine addS (by omega) ?_;rw[zzU] at gx4;simp only[setR,gx4];have e0:ixN (W.str x::r.map W.str).length 0=some 0:=by simp[ixN]
     rw[e0];refine vB ?_;refine fin ((x ++ "z")::r) _ (by simpa using hlr) (fun y hy=>?_) (kR (kp.trans k4) hpn) (zb7 hp D4) (by rw[zX];rfl) v7 v8;rcases Zd.mp hy with rfl|hy
     .exact zi6 (by rw[Zn];omega) (by rw[Zn];omega) (by rw[uC,hx.2.2,w2];rfl) no_z
     .exact (hs y (Zc _ hy)).1
    .rw[decide_eq_false hb,if_neg zzN];refine vB ?_;exact fin (x::r) _ hl (fun y hy=>(hs y hy).1) (kp.trans k4) D4 gx4 v7 v8
   .rw[if_neg (by simpa using hm),if_neg zzN];refine vB ?_;exact fin (x::r) _ hl (fun y hy=>(hs y hy).1) kp D' gx v7 v8
 simp only[wA,tls] at go;simp only[wA];refine yX ?_
 erw[]
 refine yX ?_
 erw[Zs,z0,true_and]
 intro p hp;have hpd:=tD D hp;have D1:=qE (o:=.lst []) hp D;have k1:zI [d,l] G (put G p (.lst [])):=zI.new hp;have gp:(put G p (.lst [])) p=some (.lst []):=zX;generalize put G p (.lst [])=G1 at D1 k1 gp ⊢;refine yX ?_
 erw[t1,e6,zS,zR,i0]
 refine ⟨rfl,d,l,5,rfl,D1,by decide,fun j G2 j0 j5 k2 D2=>?_⟩;have gp2:=k2 _ _ hpd gp;refine ⟨⟨by omega,by omega⟩,?_⟩;have len:((List.range j.toNat).map fun i:Nat=>W.int (i:Int)).length=j.toNat:=by simp
 refine ⟨fun i acc G'=>∃ ts:List Str,acc=ts.map .str/\ts.length=i/\(∀ x∈ts,x.length<=1/\xM x=true)/\zI [d,l] G2 G'/\wQ G' d l,⟨[],rfl,rfl,by simp,zI.refl,D2⟩,?_,by rw[len];exact sz _ (by omega),?_,?_⟩
 .rintro i acc G' ⟨ts,rfl,rfl,_,_,_⟩ _;exact ⟨trivial,by simp⟩
 .rintro i w acc G' hw ⟨ts,rfl,hl,hs,kp,D'⟩;simp only[hG,Zf,Zs,List.replicate,zzU,zzV,Zab,Zah,ZC]
  erw[Zbl,if_true,e6]
  refine ⟨d,l,26,rfl,D',by decide,fun r G'' r0 r1 kp' D''=>zlK r0 r1 fun x hx sx=>?_⟩;refine ⟨ts++[x],by simp,by simp[hl],fun y hy=>?_,kp.trans kp',D''⟩;rcases ZD.mp hy with hy|hy
  .exact hs y hy
  .rw[zzO hy,hx];exact ⟨zzR _,sx⟩
 .rintro acc G' ⟨ts,rfl,hl,hs,kp,D'⟩ r hr;have hl4:ts.length<=4:=by rw[hl,len];omega
  obtain ⟨jo,jl,js⟩:=zgT (fun x hx=>(hs x hx).1) (fun x hx=>(hs x hx).2) hl4;refine ⟨ts,xQ zX,jo,?_⟩;have k3:zI [d,l] G' (put G' r (.lst (ts.map .str))):=zI.new hr;exact go _ p _ jl js hp hpd (((k1.trans k2).trans kp).trans k3) (qE hr D') (k3 _ _ hpd (kp _ _ hpd gp2))
end
theorem zd9 {xs:List Str} {i:Int} (h0:0<=i) (h1:i<xs.length):∃ x∈xs,pS (xs.map W.str) i=some (.str x):=by
 obtain ⟨w,hw,e⟩:=zmj (l:=xs.map W.str) h0 (by rw[zzM];exact h1);obtain ⟨x,hx,rfl⟩:=zzP hw;exact ⟨x,hx,e⟩
theorem nE {x:W} {r:List W}:cut (x::r) (some 1) none=r:=by
 have e1:HT.jZ (x::r).length 0 (some 1)=1:=by
  simp[HT.jZ]
 have e2:HT.jZ (x::r).length (x::r).length none=r.length+1:=by
  simp[HT.jZ]
 unfold cut;rw[e1,e2];simp
section
variable {K:yJ} {sA nA:Addr}
theorem zaN {Γ:Ctx3} {ws:List W} {G:Hw} {Q:Q3} (h:jP ws G Q XN):zG Γ XN vC { nx:=fun _ G'=>Q .non G',rt:=Q } (yR rZ ws) G:=by
 obtain ⟨t,rfl,h⟩:=h;have z0:=sz 0 (by decide);show zG Γ XN vC { nx:=fun _ G'=>Q .non G',rt:=Q } [some t.w] G;simp only[vC];refine yX ?_
 cases t with
 |say x =>
  erw[Sy.w,jU,xU,yT,yY,Zs,z0,true_and,beq_self_eq_true,if_true]
  exact h
 |neg a =>
  have e:(("not" : Str) == "say")=false:=by decide +kernel
  erw[Sy.w,jU,xU,yT,yY,e,zzB,if_false,slR,nE]
  exact h
 |two k a b =>
  erw[Sy.w,jU,xU,yT,yY,(pV k).1,zzB,if_false,slR,nE]
  exact h
theorem zdd {n:Nat} {ws:List W} {G:Hw} {Q:Q3} (h:pN sA ws G Q XN):zG (yV K sA nA n) XN vN { nx:=fun _ G'=>Q .non G',rt:=Q } (yR sW ws) G:=by
 obtain ⟨t,rfl,ts,h⟩:=h;have t0:(yV K sA nA n).mt[0]?=some ePop:=rfl;have t2:(yV K sA nA n).mt[2]?=some hV:=rfl;have t3:(yV K sA nA n).mt[3]?=some eExt:=rfl;have s1:(yV K sA nA n).sx[1]?=some ⟨rvM,rvS⟩:=rfl;have s3:(yV K sA nA n).sx[2]?=some ⟨hcM "sides_of", hcS sA jP⟩:=rfl;have z0:=sz 0 (by decide);have z1:=sz 1 (by decide);show zG (yV K sA nA n) XN vN { nx:=fun _ G'=>Q .non G',rt:=Q } [some t.w,some (.ref sA),none,none,none] G;simp only[vN];refine yX ?_
 erw[Zs,z0,true_and]
 intro pf hf;have kf:zI [] G (put G pf (.lst [])):=zI.new hf;have gf:(put G pf (.lst [])) pf=some (.lst []):=zX;generalize put G pf (.lst [])=G1 at kf gf ⊢;refine yX ?_
 erw[zzC,zzL,zzA,z1,true_and]
 intro pw hw;have kw':zI [] G1 (put G1 pw (.lst [t.w])):=zI.new hw;have gw:(put G1 pw (.lst [t.w])) pw=some (.lst [t.w]):=zX;have gf:=kw' _ _ (by simp) gf;have ne:pf≠pw:=fun e=>by rw[e,gw] at gf;cases gf
 have hw0:G pw=none:=kf.none (by simp) hw;have k2:zI [] G (put G1 pw (.lst [t.w])):=kf.trans kw';generalize put G1 pw (.lst [t.w])=G2 at k2 gw gf ⊢;refine yX ?_;refine ⟨fun m σ G'=>∃ (fs st:List Sy) (v:Option W),σ=[some t.w,some (.ref sA),some (.ref pf),some (.ref pw),v]/\G' pf=some (.lst (fs.map Sy.w))/\G' pw=some (.lst (st.map Sy.w))/\zI [] G G'/\fs++jW st.reverse=pre t/\kE st=m,⟨_,[],[t],none,rfl,gf,gw,k2,by simp[jW],rfl⟩,?_⟩;rintro m σ G' ⟨fs,st,v,rfl,gf',gw',kp,hp,rfl⟩
 have hln:fs.length+kE st=t.size:=by
  have:=congrArg List.length hp;rw[zzW,kT] at this
  have e:(jW st.reverse).length=kE st:=by
   clear this hp gw' gf'
   induction st with
   |nil=>rfl
   |cons a st ih =>
    rw[ZO,tE,zzW,ih,pI];simp[kE,jW];omega
  omega
 erw[qP,gw']
 by_cases hst:st=[]
 .subst hst;simp only[zzV,Zbi,Zv,zzB,if_false];refine yX ?_
  erw[]
  have e:fs=pre t:=by simpa[jW] using hp
  rw[e] at gf';exact h pf G' kp hf gf'
 .obtain ⟨ini,x,rfl⟩:∃ ini x,st=ini++[x]:=⟨st.dropLast,st.getLast hst,(List.dropLast_concat_getLast hst).symm⟩;have he:((ini++[x]).map Sy.w).isEmpty=false:=by simp
  simp only[he,Zap,if_true];rw[ZG,zzU,zzV] at gw';have hgx:(ini.map Sy.w++[x.w])[(ini.map Sy.w++[x.w]).length-1]?=some x.w:=by simp
  rw[dM,show kE [x]=x.size by simp[kE,jW,kT]] at hln;have l1:=pO ini;have l2:=zd6 x;have l3:=pO (yI x);refine yX ?_
  erw[t0]
  refine ⟨tyL gw',?_⟩;simp only[cQ,gw',hgx,Zbm];have k3:zI [] G (put G' pw (.lst (ini.map Sy.w))):=kR kp hw0;have gw3:(put G' pw (.lst (ini.map Sy.w))) pw=some (.lst (ini.map Sy.w)):=zX;have gf3:(put G' pw (.lst (ini.map Sy.w))) pf=some (.lst (fs.map Sy.w)):=by rw[yH ne];exact gf'
  generalize put G' pw (.lst (ini.map Sy.w))=G3 at k3 gw3 gf3 ⊢;refine yX ?_
  erw[t2]
  refine ⟨tyL gf3,fN gf3 (by rw[zzM];omega) ?_⟩;have k4:zI [] G (put G3 pf (.lst (fs.map Sy.w++[x.w]))):=kR k3 hf;have gf4:(put G3 pf (.lst (fs.map Sy.w++[x.w]))) pf=some (.lst (fs.map Sy.w++[x.w])):=zX;have gw4:(put G3 pf (.lst (fs.map Sy.w++[x.w]))) pw=some (.lst (ini.map Sy.w)):=by rw[yH (Ne.symm ne)];exact gw3
  generalize put G3 pf (.lst (fs.map Sy.w++[x.w]))=G4 at k4 gf4 gw4 ⊢;refine yX ?_
  erw[t3,s1,s3]
  refine ⟨tyL gw4,?_⟩;refine ⟨rfl,x,rfl,?_⟩;simp only[rvS,extS,gw4];refine ⟨sz _ (by rw[zzM,Zw,zzM];omega),?_⟩;refine vB ?_;refine ⟨kE (ini++(yI x).reverse),?_,fs++[x],ini++(yI x).reverse,_,rfl,?_,?_,kR k4 hw0,?_,rfl⟩
  .have e:kE (yI x).reverse=kE (yI x):=by cases x<;>simp[yI,kE,jW]<;>omega
   rw[dM,dM,e,show kE [x]=x.size by simp[kE,jW,kT]];omega
  .rw[yH ne,gf4];simp
  .rw[zX,ZG,List.map_reverse]
  .rw[← hp,Zbr,List.reverse_reverse,Zbr,List.reverse_singleton,tE,tE,pI,cT x];simp
end
theorem ix0 {t:Sy} {G:Hw} {Q:Q3} (h:Q (.str (pP t)) G):jU t.w (.int 0) G Q:=by
 cases t<;>(simp only[Sy.w,jU,xU];exact h)
theorem zl4 (t:Sy):((bK.zip bV).lookup (pP t)).getD (.int 5)=.int (bd t):=by
 cases t with
 |say x=>show ((bK.zip bV).lookup ("say" : Str)).getD (.int 5)=.int 5;rfl
 |neg a=>show ((bK.zip bV).lookup ("not" : Str)).getD (.int 5)=.int 4;rfl
 |two k a b=>match k with
  | 0=>show ((bK.zip bV).lookup ("and" : Str)).getD (.int 5)=.int 3;rfl
  | 1=>show ((bK.zip bV).lookup ("or" : Str)).getD (.int 5)=.int 2;rfl
  |k+2=>show ((bK.zip bV).lookup ("if" : Str)).getD (.int 5)=.int 1;rfl
def ls:Sy->List Nat
 | .say _=>[]
 | .neg _=>[4]
 | .two k _ _=>[lA k,lB k]
theorem zl2 {t:Sy} (h:yI t≠[]):(lK.zip lV).lookup (pP t)=some (.tup ((ls t).map fun n:Nat=>W.int n)):=by
 cases t with
 |say x=>exact absurd rfl h
 |neg a=>show (lK.zip lV).lookup ("not" : Str)=some (.tup [.int 4]);rfl
 |two k a b=>match k with
  | 0=>show (lK.zip lV).lookup ("and" : Str)=some (.tup [.int 3,.int 4]);rfl
  | 1=>show (lK.zip lV).lookup ("or" : Str)=some (.tup [.int 2,.int 3]);rfl
  |k+2=>show (lK.zip lV).lookup ("if" : Str)=some (.tup [.int 2,.int 1]);rfl
theorem zl3 (k:Nat):(wK.zip wV).lookup (kw k)=some (.str (bw k)):=by
 match k with
 | 0=>show (wK.zip wV).lookup ("and" : Str)=some (.str " and ");rfl
 | 1=>show (wK.zip wV).lookup ("or" : Str)=some (.str " or ");rfl
 |k+2=>show (wK.zip wV).lookup ("if" : Str)=some (.str " then ");rfl
def wr (t:Sy):List Str:=List.zipWith (fun n s=>bS n s (sh s)) (ls t) (yI t)
theorem zfJ (n:Nat) (a:Sy) (s:Str):(bS n a s).length<=s.length+2:=by
 unfold bS;split
 .rw[Zn,Zn,show ("(" : Str).length=1 by decide +kernel,show (")" : Str).length=1 by decide +kernel];omega
 .omega
theorem zgR {S:List Addr} {G G' G'':Hw} {p:Addr} (k:zI S G G') (k2:zI [p] G' G'') (h:G p=none):zI S G G'':=fun a u ha e=>k2 a u (by
 simp only[Zd,ZB,or_false];exact qS e h) (k a u ha e)
theorem ze1 {t:Sy} (h:t.ok):∀ s∈yI t,s.ok/\s.size<t.size/\s.deep<t.deep:=by
 cases t with
 |say x=>simp[yI]
 |neg a=>intro s hs;rw[zzO hs];exact ⟨h,by simp only[Sy.size];omega,by simp only[Sy.deep];omega⟩
 |two k a b =>
  intro s hs;simp only[yI,Zd,ZB,or_false] at hs;rcases hs with rfl|rfl
  .exact ⟨h.1,by simp only[Sy.size];omega,by simp only[Sy.deep];omega⟩
  .exact ⟨h.2,by simp only[Sy.size];omega,by simp only[Sy.deep];omega⟩
theorem zgP (t:Sy):(yI t).length<=2:=by cases t<;>simp[yI]
theorem zlr (t:Sy):(ls t).length=(yI t).length:=by cases t<;>simp[yI,ls]
theorem l_p:("(" : Str).length=1:=by decide +kernel
theorem l_q:(")" : Str).length=1:=by decide +kernel
theorem l_not:("not " : Str).length=4:=by decide +kernel
theorem l_0:Str.empty.length=0:=rfl
theorem zji {sep:Str} {ts:List Str} {n:Nat} (h:∀ y∈ts,y.length<=n) (hz:ts.length * n+ts.length * sep.length<=16777216):JoinOk sep ts=true:=by
 unfold JoinOk;rw[StrLaws.joinFits h hz];rfl
section
variable {K:yJ} {sA nA:Addr}
theorem cC {Γ:Ctx3} {ws:List W} {G:Hw} {Q:Q3} (h:jS ws G Q XN):zG Γ XN sH { nx:=fun _ G'=>Q .non G',rt:=Q } (yR pH ws) G:=by
 obtain ⟨x,rfl,h⟩:=h;show zG Γ XN sH { nx:=fun _ G'=>Q .non G',rt:=Q } [some (Sy.say x).w] G;simp only[sH];refine yX ?_
 erw[Sy.w,jU,gY]
 exact h
theorem zgb {n:Nat} (hn:17<=n) {ws:List W} {G:Hw} {Q:Q3} (h:mT ws G Q XN):zG (yV K sA nA n) XN kP { nx:=fun _ G'=>Q .non G',rt:=Q } (yR uY ws) G:=by
 obtain ⟨t,rfl,ok,ts,h⟩:=h;have e12:(yV K sA nA n).fn[16]?=some ⟨"show_joined", fH sA nA⟩:=qL 16 hn rfl;have g12:(yV K sA nA n).gl[16]?=some (("sides_of" : Str),W.ref sA):=rfl;have g13:(yV K sA nA n).gl[17]?=some (("name_of" : Str),W.ref nA):=rfl;show zG (yV K sA nA n) XN kP { nx:=fun _ G'=>Q .non G',rt:=Q } [some t.w] G;simp only[kP];refine yX ?_
 erw[e12,g12,g13]
 exact ⟨t,rfl,ok,ts,h⟩
end
theorem zaA {α:Type} {l:List α} {i:Nat} {x:α} (h:l[i]?=some x):l.drop i=x::l.drop (i+1):=by
 have hi:=(Zh.mp h).1;rw[ZaN hi,(Zh.mp h).2]
section
variable {K:yJ} {sA nA:Addr}
theorem zlG {n:Nat} {ws:List W} {G:Hw} {Q:Q3} (h:spJt ws G Q XN):zG (yV K sA nA n) XN kI { nx:=fun _ G'=>Q .non G',rt:=Q } (yR uT ws) G:=by
 obtain ⟨t,p,ini,rfl,ok,ts,hk,li,gp,h⟩:=h;have t0:(yV K sA nA n).mt[0]?=some ePop:=rfl;have t1:(yV K sA nA n).mt[1]?=some zdD:=rfl;have t2:(yV K sA nA n).mt[2]?=some hV:=rfl;have i1:(yV K sA nA n).it[1]?=some eZpi:=rfl;have g3:(yV K sA nA n).gl[7]?=some (("SINGLE_BINDS" : Str),W.int 5):=rfl;have g4:(yV K sA nA n).gl[8]?=some (("LEAST" : Str),W.dcf lK lV):=rfl;have g5:(yV K sA nA n).gl[9]?=some (("BETWEEN" : Str),W.dcf wK wV):=rfl;have x10:(yV K sA nA n).sx[8]?=some ⟨tQ [some "not ", none],fP [some "not ", none]⟩:=rfl;have x11:(yV K sA nA n).sx[9]?=some ⟨tQ [some "(", none,some ")"],fP [some "(", none,some ")"]⟩:=rfl;have x12:(yV K sA nA n).sx[13]?=some ⟨gt2M "BINDS_saywrite", gt2S bK bV⟩:=rfl;have z0:=sz 0 (by decide);show zG (yV K sA nA n) XN kI { nx:=fun _ G'=>Q .non G',rt:=Q } [some (.str (pP t)),some (.tup ((yI t).map Sy.w)),some (.ref p),none,none,none,none] G;simp only[kI];refine yX ?_
 erw[Zs,z0,true_and]
 intro q hq;have qp:q≠p:=fun e=>by rw[e,gp] at hq;cases hq
 have k1:zI [p] G (put G q (.lst [])):=zI.new hq;have gq:(put G q (.lst [])) q=some (.lst []):=zX;have gp1:=vU (u:=.lst []) hq gp;generalize put G q (.lst [])=G1 at k1 gq gp1 ⊢;refine yX ?_
 erw[i1,g4,jU,zl2 hk]
 refine ⟨(yI t).map Sy.w,(ls t).map fun n:Nat=>W.int n,rfl,rfl,?_⟩;have kl:=zgP t;have ll:=zlr t;have len:(List.zipWith (fun a b=>W.tup [a,b]) ((yI t).map Sy.w) ((ls t).map fun n:Nat=>W.int n)).length=(yI t).length:=by rw[Zay,zzM,zzM,ll,ZbY]
 have hkk:=ze1 ok;refine ⟨fun i σ G'=>∃ v4 v5 v6:Option W,σ=[some (.str (pP t)),some (.tup ((yI t).map Sy.w)),some (.ref p),some (.ref q),v4,v5,v6]/\G' q=some (.lst (((wr t).take i).map W.str))/\G' p=some (.lst (ini++(((yI t).drop i).map fun s=>W.str (sh s)).reverse))/\zI [p] G G',⟨none,none,none,rfl,gq,gp1,k1⟩,fun _ _ _ _ _=>⟨rfl,rfl⟩,?_,?_⟩
 .rintro i w σ G' hw ⟨v4,v5,v6,rfl,gq',gp',kp⟩;rw[Zbd,Zp,Zp] at hw
  cases ek:(yI t)[i]? with
  |none=>rw[ek] at hw;simp at hw
  |some s =>
   cases el:(ls t)[i]? with
   |none=>rw[ek,el] at hw;simp at hw
   |some m =>
    rw[ek,el] at hw;have hw:W.tup [s.w,.int m]=w:=by simpa using hw
    subst hw;have es:(wr t)[i]?=some (bS m s (sh s)):=by unfold wr;rw[Zbd,ek,el]
    have et:((wr t).take (i+1)).map W.str=((wr t).take i).map W.str++[.str (bS m s (sh s))]:=by
     have hi:=(Zh.mp es).1;rw[Zy hi,(Zh.mp es).2,ZG];rfl
    have hi:i<(yI t).length:=(Zh.mp ek).1;have hs:=hkk s (Zo ek);have sl:=vA s hs.1;rw[zaA ek,zzU,ZO,← ZZ] at gp';generalize hrest:ini++(((yI t).drop (i+1)).map fun s=>W.str (sh s)).reverse=rest at gp';have hgx:(rest++[W.str (sh s)])[(rest++[W.str (sh s)]).length-1]?=some (.str (sh s)):=by simp
    erw[zzC,zzL,zzA,Nat.reduceAdd]
    refine yX ?_
    erw[t0]
    refine ⟨tyL gp',?_⟩;simp only[cQ,gp',hgx,Zbm];have gq2:(put G' p (.lst rest)) q=some (.lst (((wr t).take i).map W.str)):=by rw[yH qp];exact gq'
    have gp2:(put G' p (.lst rest)) p=some (.lst rest):=zX;have kp2:zI [p] G (put G' p (.lst rest)):=kp.trans (zI.put (by simp));generalize put G' p (.lst rest)=G2 at gq2 gp2 kp2 ⊢;have wl:((wr t).take i).length<=i:=by rw[Z3];omega
    refine yX ?_
    erw[t2]
    refine ⟨tyL gq2,ix0 ?_⟩
    erw[g3,x12,gt2S,zl4,yT,cJ]
    have fin:fO (.ref q) [.str (bS m s (sh s))] G2 fun _ G3=>∃ v4 v5 v6:Option W,[some (W.str (pP t)),some (.tup ((yI t).map Sy.w)),some (.ref p),some (.ref q),some s.w,some (.int m),some (.str (sh s))]=[some (.str (pP t)),some (.tup ((yI t).map Sy.w)),some (.ref p),some (.ref q),v4,v5,v6]/\G3 q=some (.lst (((wr t).take (i+1)).map W.str))/\G3 p=some (.lst rest)/\zI [p] G G3 :=
     fN gq2 (by rw[zzM];omega) ⟨_,_,_,rfl,by rw[zX,et],by rw[yH (Ne.symm qp)];exact gp2,kR kp2 hq⟩
    rw[← hrest] at fin;have c:decide ((bd s:Int)<(m:Int))=decide (bd s<m):=decide_eq_decide.mpr (by omega);simp only[c]
    by_cases hb:bd s<m
    .rw[decide_eq_true hb,if_pos rfl]
     erw[x11]
     refine ⟨[sh s],rfl,?_,?_⟩
     .simp only[kQ,Zac,l_p,l_q,l_0];omega
     .have e:kQ [some "(", none,some ")"] [sh s]=bS m s (sh s):=by
       unfold bS;rw[if_pos hb];simp only[kQ,zfN,zfO]
      rw[e];exact fin
    .rw[decide_eq_false hb,if_neg zzN];have e:bS m s (sh s)=sh s:=by unfold bS;rw[if_neg hb]
     rw[e] at fin;exact fin
 .rintro σ G' ⟨v4,v5,v6,rfl,gq',gp',kp⟩;rw[len] at gq' gp';have hwl:(wr t).length=(yI t).length:=by unfold wr;rw[Zay,ll,ZbY]
  rw[Z4 (by omega)] at gq';rw[ZbR,zzV,List.reverse_nil,ZC] at gp';have fin:=h G' kp gp';refine yX ?_
  cases t with
  |say x=>exact absurd rfl hk
  |neg a =>
   have hs:=hkk a (by simp[yI]);have sl:=vA a hs.1;have bl:=zfJ 4 a (sh a)
   erw[pP,yT,yY,beq_self_eq_true,if_true]
   refine yX ?_
   erw[x10]
   refine gH (yG gq') ?_;simp only[wr,ls,yI,List.zipWith_cons_cons,List.zipWith_nil_right,zzU,zzV,xU];refine ⟨[bS 4 a (sh a)],rfl,?_,?_⟩
   .simp only[kQ,Zac,l_not,l_0];omega
   .have e:kQ [some "not ", none] [bS 4 a (sh a)]=sh (.neg a):=by simp only[kQ,zfN];rfl
    rw[e];exact fin
  |two k a b =>
   have ha:=hkk a (by simp[yI]);have hb:=hkk b (by simp[yI]);have sa:=vA a ha.1;have sb:=vA b hb.1;have ba:=zfJ (lA k) a (sh a);have bb:=zfJ (lB k) b (sh b)
   erw[pP,yT,yY,(pV k).2.2.1,zzB,if_false]
   refine vB (yX ?_)
   erw[t1,g5,jU,zl3]
   have hbw:(bw k).length<=6:=by
    match k with
    | 0=>decide +kernel
    | 1=>decide +kernel
    |k+2=>show (" then " : Str).length<=6;decide +kernel
   refine ⟨rfl,[bS (lA k) a (sh a),bS (lB k) b (sh b)],yG gq',zji (n:=1000) ?_ ?_,?_⟩
   .intro y hy;simp only[Zd,ZB,or_false] at hy;rcases hy with rfl|rfl<;>omega
   .show 2 * 1000+2 * _<=_;omega
   .have e:Txt.join (bw k) [bS (lA k) a (sh a),bS (lB k) b (sh b)]=sh (.two k a b):=Zao (bw k) _;rw[e];exact fin
theorem zkx {n:Nat} (hn:16<=n) {ws:List W} {G:Hw} {Q:Q3} (h:fH sA nA ws G Q XN):zG (yV K sA nA n) XN kM { nx:=fun _ G'=>Q .non G',rt:=Q } (yR uX ws) G:=by
 obtain ⟨t,rfl,ok,ts,h⟩:=h;have e10:(yV K sA nA n).fn[14]?=some ⟨"all_within", pN sA⟩:=qL 14 hn rfl;have e11:(yV K sA nA n).fn[15]?=some ⟨"joined_text", spJt⟩:=qL 15 hn rfl;have t2:(yV K sA nA n).mt[2]?=some hV:=rfl;have x1:(yV K sA nA n).sx[1]?=some ⟨rvM,rvS⟩:=rfl;have x3:(yV K sA nA n).sx[3]?=some ⟨hcM "joined_by", hcS sA jP⟩:=rfl;have x4:(yV K sA nA n).sx[4]?=some ⟨hcM "single_text", hcS nA jS⟩:=rfl;have z0:=sz 0 (by decide);show zG (yV K sA nA n) XN kM { nx:=fun _ G'=>Q .non G',rt:=Q } [some t.w,some (.ref sA),some (.ref nA),none,none,none] G;simp only[kM];refine yX ?_
 erw[Zs,z0,true_and]
 intro p hp;have k1:zI [] G (put G p (.lst [])):=zI.new hp;have gp:(put G p (.lst [])) p=some (.lst []):=zX;generalize put G p (.lst [])=G1 at k1 gp ⊢;refine yX ?_
 erw[e10,x1]
 refine ⟨t,rfl,ts,fun r G2 k2 hr gr=>?_⟩;refine ⟨_,yG gr,fun r2 hr2=>?_⟩;have gp2:=vU (u:=.lst ((pre t).map Sy.w).reverse) hr2 (k0 k2 gp);have kk:zI [] G (put G2 r2 (.lst ((pre t).map Sy.w).reverse)):=(k1.trans k2).trans (zI.new hr2);have g2:(put G2 r2 (.lst ((pre t).map Sy.w).reverse)) r2=some (.lst ((pre t).map Sy.w).reverse):=zX;have rp:r2≠p:=fun e=>by rw[e,k0 k2 gp] at hr2;cases hr2
 generalize put G2 r2 (.lst ((pre t).map Sy.w).reverse)=G3 at gp2 kk g2 ⊢;simp only[kA,yG g2];have pl:=kT t;refine ⟨fun i σ G'=>∃ (fs:List Sy) (v4 v5:Option W),σ=[some t.w,some (.ref sA),some (.ref nA),some (.ref p),v4,v5]/\(pre t).drop (t.size-i)=jW fs/\G' p=some (.lst ((fs.map fun s=>W.str (sh s)).reverse))/\G' r2=some (.lst ((pre t).map Sy.w).reverse)/\zI [] G G',⟨[],none,none,rfl,by rw[Nat.sub_zero,← pl,ZbR];rfl,gp2,g2,kk⟩,?_,?_,?_⟩
 .rintro i σ G' ⟨fs,v4,v5,rfl,_,_,g,_⟩ _;exact yG g
 .rintro i w σ G' hw ⟨fs,v4,v5,rfl,hd,gp',g2',kp⟩
  have hi:i<t.size:=by
   have:=(Zh.mp hw).1;rw[Zw,zzM,pl] at this;exact this
  rw[Zbc (by rw[zzM,pl];exact hi),zzM,pl,Zp] at hw;obtain ⟨x,hx,rfl⟩:=Zq.mp hw;have hx':(pre t)[t.size-(i+1)]?=some x:=by rw[← hx];congr 1;omega
  have hdx:=zaA hx';rw[show t.size-(i+1)+1=t.size-i by omega,hd] at hdx;obtain ⟨r',rfl⟩:=zf2 hdx;have okx:=(cR t ok x (Zo hx')).2;have szx:=(cR t ok x (Zo hx')).1
  have hlen:(yI x++r').length<=40:=by
   have h1:=pO (yI x++r');have h2:kE (yI x++r')=((pre t).drop (t.size-i)).length:=by rw[hd];rfl
   rw[ZX,pl] at h2;omega
  rw[zzW] at hlen;have hnew:(pre t).drop (t.size-(i+1))=jW (x::r'):=by rw[hdx,qO]
  have fin:∀ (v:Option W) (G4:Hw),zI [p] G' G4->G4 p=some (.lst (r'.map fun s=>W.str (sh s)).reverse)->fO (.ref p) [.str (sh x)] G4 fun _ G5=>∃ (fs:List Sy) (v4 v5:Option W),[some t.w,some (.ref sA),some (.ref nA),some (.ref p),some x.w,v]=[some t.w,some (.ref sA),some (.ref nA),some (.ref p),v4,v5]/\(pre t).drop (t.size-(i+1))=jW fs/\G5 p=some (.lst ((fs.map fun s=>W.str (sh s)).reverse))/\G5 r2=some (.lst ((pre t).map Sy.w).reverse)/\zI [] G G5:=by
   intro v G4 k4 g4;refine fN g4 (by rw[Zw,zzM];omega) ⟨x::r',_,_,rfl,hnew,by rw[zX,zzU,ZO],?_,?_⟩
   .rw[yH rp];exact k4 _ _ (by simpa using rp) g2'
   .exact kR (zgR kp k4 hp) hp
  refine yX ?_
  erw[x3]
  refine ⟨rfl,x,rfl,?_⟩;refine yX ?_
  erw[t2,qP]
  refine ⟨tyL gp',?_⟩
  by_cases hkx:yI x=[]
  .rw[hkx]
   cases x with
   |say y =>
    simp only[zzV,Zbi,Zv,zzB,if_false]
    erw[x4]
    refine ⟨rfl,y,rfl,?_⟩;exact fin _ G' zI.refl (by simpa[yI] using gp')
   |neg a=>simp[yI] at hkx
   |two k a b=>simp[yI] at hkx
  .have he:((yI x).map Sy.w).isEmpty=false:=by
    cases hh:yI x with
    |nil=>exact absurd hh hkx
    |cons _ _=>rfl
   simp only[he,Zap,if_true];refine ix0 ?_
   erw[e11]
   refine ⟨x,p,(r'.map fun s=>W.str (sh s)).reverse,rfl,okx,by omega,hkx,by rw[Zw,zzM];omega,by rw[gp',ZG,Zbr],fun G4 k4 g4=>?_⟩;exact fin _ G4 k4 g4
 .rintro σ G' ⟨fs,v4,v5,rfl,hd,gp',g2',kp⟩;rw[Zw,zzM,pl,Nat.sub_self,Zb1] at hd;have:fs=[t]:=cU (by rw[← hd,pI]);subst this;refine yX ?_
  erw[]
  refine gH (yG gp') ?_;simp only[zzU,zzV,ZO,List.reverse_nil,Zah,xU];exact h G' kp
end
theorem nS (a:Sy) (D:List Sy):Lw (a::D)=.lst ((D.map Sy.w).reverse++[a.w]):=by simp[Lw]
theorem nK (w:Tk) (V:List Tk):Lk (w::V)=.lst ((V.map fun t=>W.str t.s).reverse++[.str w.s]):=by simp[Lk]
theorem zj0 {l:List W} {a:W}:pS (l++[a]) (-1)=some a:=by
 unfold pS;have:ixN (l++[a]).length (-1)=some l.length:=by simp[ixN];omega
 rw[this];simp
theorem popL {G:Hw} {o:Addr} {l:List W} {y:W} {Q:Q3} (e:G o=some (.lst (l++[y]))) (h:Q y (put G o (.lst l))):cQ (.ref o) [] G Q:=by
 have hg:(l++[y])[(l++[y]).length-1]?=some y:=by simp
 simp only[cQ,e,hg,Zbm];exact h
theorem zhU (k:Nat):((jw k:Str) == "not")=false/\((jw k:Str) == ")")=false:=by
 match k with
 | 0=>exact ⟨by decide +kernel,by decide +kernel⟩
 | 1=>exact ⟨by decide +kernel,by decide +kernel⟩
 |k+2=>exact ⟨by show (("then" : Str) == "not")=false;decide +kernel,by show (("then" : Str) == ")")=false;decide +kernel⟩
theorem zg3 (k:Nat):(mK.zip mV).lookup (jw k)=some (.str (kw k)):=by
 match k with
 | 0=>show (mK.zip mV).lookup ("and" : Str)=some (.str "and");rfl
 | 1=>show (mK.zip mV).lookup ("or" : Str)=some (.str "or");rfl
 |k+2=>show (mK.zip mV).lookup ("then" : Str)=some (.str "if");rfl
theorem zhV (k:Nat):(tK.zip tV).lookup (jw k)=some (.int (lA k)):=by
 match k with
 | 0=>show (tK.zip tV).lookup ("and" : Str)=some (.int 3);rfl
 | 1=>show (tK.zip tV).lookup ("or" : Str)=some (.int 2);rfl
 |k+2=>show (tK.zip tV).lookup ("then" : Str)=some (.int 2);rfl
theorem zhW:(tK.zip tV).lookup (Tk.s .rp)=some (.int 1):=by show (tK.zip tV).lookup (")" : Str)=some (.int 1);rfl
theorem zjy {w:Tk} (h:isW w=true):(rK.zip rV).lookup w.s=some (.int (bin w)):=by
 match w,h with
 | .nt,_=>show (rK.zip rV).lookup ("not" : Str)=some (.int 4);rfl
 | .lp,_=>show (rK.zip rV).lookup ("(" : Str)=some (.int 0);rfl
 | .op 0,_=>show (rK.zip rV).lookup ("and" : Str)=some (.int 3);rfl
 | .op 1,_=>show (rK.zip rV).lookup ("or" : Str)=some (.int 2);rfl
 | .op (k+2),_=>show (rK.zip rV).lookup ("then" : Str)=some (.int 1);rfl
theorem pt_wf {w:Tk} {V:List Tk} {D:List Sy} (h:Wf D (w::V) 1) (hb:1<=bin w):Wf (pt w D) V 1/\((w=.nt/\1<=D.length)\/∃ k,w=.op k/\2<=D.length)/\(pt w D).length<=D.length:=by
 have hl:=h.len;have hw:=h.all w zzT;have ha:∀ x∈V,isW x=true:=fun x hx=>h.all x (Zc _ hx)
 match w,hw,hb,hl with
 | .nt,_,_,hl =>
  cases D with
  |nil=>simp[ops] at hl
  |cons a D=>exact ⟨⟨by simpa[ops,pt] using hl,ha⟩,.inl ⟨rfl,by simp⟩,by simp[pt]⟩
 | .op k,_,_,hl =>
  match D,hl with
  | [],hl=>simp[ops] at hl
  | [a],hl=>simp[ops] at hl
  |b::a::D,hl=>exact ⟨⟨by simp only[ops,Zf] at hl;simp only[pt,Zf];omega,ha⟩,.inr ⟨k,rfl,by simp⟩,by simp[pt]⟩
 | .lp,_,hb,_=>exact absurd (show (1:Nat)<=0 from hb) (by decide)
theorem isi1 {K:yJ} {x:W} {T' T:String} {b:Bool} {G:Hw} {Q:Q3} (h1:tyO G x=some T') (h2:PySem.W.kitOne K (.type T') (.type T)=some b) (h:Q (.bl b) G):isjS K [x,.ty T] G Q:=⟨T',b,h1,h2,h⟩
section
variable {K:yJ} {sA nA:Addr}
theorem ziH {n:Nat} {ws:List W} {G:Hw} {Q:Q3} (h:zf8 ws G Q XN):zG (yV K sA nA n) XN qK { nx:=fun _ G'=>Q .non G',rt:=Q } (yR vJ ws) G:=by
 obtain ⟨w,D,p,rfl,gp,ld,hc,h⟩:=h;have t0:(yV K sA nA n).mt[0]?=some ePop:=rfl;have t2:(yV K sA nA n).mt[2]?=some hV:=rfl;have g9:(yV K sA nA n).gl[5]?=some (("MADE" : Str),W.dcf mK mV):=rfl;have z2:=sz 2 (by decide);have z3:=sz 3 (by decide);show zG (yV K sA nA n) XN qK { nx:=fun _ G'=>Q .non G',rt:=Q } [some (.str w.s),some (.ref p),none] G;simp only[qK];rcases hc with ⟨rfl,h1⟩|⟨k,rfl,h1⟩
 .obtain ⟨a,D',rfl⟩:∃ a D',D=a::D':=by
   cases D with
   |nil=>simp at h1
   |cons a D'=>exact ⟨a,D',rfl⟩
  rw[Zf] at ld;rw[nS] at gp;refine yX ?_
  erw[t0]
  refine ⟨tyL gp,popL gp ?_⟩;refine yX ?_;have e:((Tk.nt).s==("not" : Str))=true:=by show (("not" : Str) == "not")=true;decide +kernel
  erw[yT,yY,e,if_true]
  refine yX ?_
  erw[t2,zzC,zzL,zzA,Nat.reduceAdd,z2,true_and]
  refine ⟨tyL zX,fN zX (by rw[Zw,zzM];omega) ?_⟩;refine h _ ((zI.put (by simp)).trans (zI.put (by simp))) ?_;rw[zX];show _=some (Lw (.neg a::D'));rw[nS];rfl
 .obtain ⟨b,a,D',rfl⟩:∃ b a D',D=b::a::D':=by
   match D,h1 with
   | [],h1=>simp at h1
   | [_],h1=>simp at h1
   |b::a::D',_=>exact ⟨b,a,D',rfl⟩
  rw[Zf,Zf] at ld;rw[nS] at gp;refine yX ?_
  erw[t0]
  refine ⟨tyL gp,popL gp ?_⟩;refine yX ?_
  erw[yT,yY,Tk.s,(zhU k).1,zzB,if_false]
  refine yX ?_;have gp1:(put G p (.lst ((a::D').map Sy.w).reverse)) p=some (.lst ((D'.map Sy.w).reverse++[a.w])):=by rw[zX,zzU,ZO]
  erw[t0,t2,g9,jU,zg3,zzC,zzL,zzA,Nat.reduceAdd,z3,true_and]
  refine ⟨tyL gp1,?_⟩;refine ⟨tyL gp1,popL gp1 ?_⟩;refine fN zX (by rw[Zw,zzM];omega) ?_;refine h _ (((zI.put (by simp)).trans (zI.put (by simp))).trans (zI.put (by simp))) ?_;rw[zX];show _=some (Lw (.two k a b::D'));rw[nS];rfl
theorem zf1 {n:Nat} (hn:24<=n) {ws:List W} {G:Hw} {Q:Q3} (h:dH ws G Q XN):zG (yV K sA nA n) XN uJ { nx:=fun _ G'=>Q .non G',rt:=Q } (yR rG ws) G:=by
 obtain ⟨m,D,V,p,r,rfl,hm,pr,gp,gr,wf,ld,lv,h⟩:=h;have e19:(yV K sA nA n).fn[23]?=some ⟨"put_together", zf8⟩:=qL 23 hn rfl;have t0:(yV K sA nA n).mt[0]?=some ePop:=rfl;have g7:(yV K sA nA n).gl[3]?=some (("BINDS_sayread" : Str),W.dcf rK rV):=rfl;show zG (yV K sA nA n) XN uJ { nx:=fun _ G'=>Q .non G',rt:=Q } [some (.int m),some (.ref p),some (.ref r)] G;simp only[uJ];refine yX ?_;refine ⟨fun j σ G'=>∃ (D':List Sy) (V':List Tk),σ=[some (.int m),some (.ref p),some (.ref r)]/\G' p=some (Lw D')/\G' r=some (Lk V')/\zI [p,r] G G'/\tl m D' V'=tl m D V/\Wf D' V' 1/\D'.length<=400/\V'.length=j,⟨_,D,V,rfl,gp,gr,zI.refl,rfl,wf,ld,rfl⟩,?_⟩;rintro j σ G' ⟨D',V',rfl,gp',gr',kp,et,wf',ld',rfl⟩
 cases V' with
 |nil =>
  have gr':G' r=some (.lst []):=gr'
  erw[qP,gr',Zbi,Zv,zzB,if_false]
  refine vB ?_;have e:tl m D' []=(D',[]):=rfl;rw[e] at et;exact h G' kp (by rw[← et];exact gp') (by rw[← et];exact gr')
 |cons w V2 =>
  have hw:=wf'.all w zzT;rw[nK] at gr';have he:((V2.map fun t=>W.str t.s).reverse++[W.str w.s]).isEmpty=false:=by simp
  erw[qP,gr',he,Zap,if_true,jU,zj0,g7,zjy hw,yT,cJ]
  have c:decide ((bin w:Int)>=(m:Int))=decide (m<=bin w):=decide_eq_decide.mpr (by omega);simp only[c]
  by_cases hb:m<=bin w
  .rw[decide_eq_true hb,if_pos rfl];have pw:=pt_wf wf' (by omega);refine yX ?_
   erw[e19,t0]
   refine ⟨tyL gr',popL gr' ?_⟩;have gp2:(put G' r (.lst (V2.map fun t=>W.str t.s).reverse)) p=some (Lw D'):=by rw[yH pr];exact gp'
   have k2:zI [p,r] G (put G' r (.lst (V2.map fun t=>W.str t.s).reverse)):=kp.trans (zI.put (by simp));have gr2:(put G' r (.lst (V2.map fun t=>W.str t.s).reverse)) r=some (Lk V2):=zX;generalize put G' r (.lst (V2.map fun t=>W.str t.s).reverse)=G2 at gp2 k2 gr2 ⊢;refine ⟨w,D',p,rfl,gp2,by omega,pw.2.1,fun G3 k3 g3=>?_⟩;refine vB ?_;refine ⟨V2.length,by simp,pt w D',V2,rfl,g3,k3 _ _ (by simpa using Ne.symm pr) gr2,k2.trans (fun a u ha e=>k3 a u (fun hz=>ha (by rw[zzO hz];simp)) e),?_,pw.1,by omega,rfl⟩;rw[← et,show tl m D' (w::V2)=tl m (pt w D') V2 by rw[tl,if_pos hb]]
  .rw[decide_eq_false hb,if_neg zzN];refine vB ?_;have e:tl m D' (w::V2)=(D',w::V2):=by rw[tl,if_neg hb]
   rw[e] at et;exact h G' kp (by rw[← et];exact gp') (by rw[← et];show _=some (Lk (w::V2));rw[nK];exact gr')
theorem stk (K:yJ) (sA nA:Addr) (n:Nat) {D:End3} {σ:qV} {G:Hw} (h:D.nx σ G):zG (yV K sA nA n) XN .nil D σ G:=h
theorem zfH {n:Nat} (hn:6<=n) {ws:List W} {G:Hw} {Q:Q3} (h:tJ true ws G Q XN):zG (yV K sA nA n) XN qY { nx:=fun _ G'=>Q .non G',rt:=Q } (yR sX ws) G:=by
 obtain ⟨t,D,V,p,r,rfl,pr,gp,gr,gd,wf,ld,lv,h⟩:=h;have e4:(yV K sA nA n).fn[4]?=some (eIsj K):=qL 4 hn rfl;have t2:(yV K sA nA n).mt[2]?=some hV:=rfl;have g11:(yV K sA nA n).gl[14]?=some (("tuple" : Str),W.ty "tuple"):=rfl;have z2:=sz 2 (by decide);show zG (yV K sA nA n) XN qY { nx:=fun _ G'=>Q .non G',rt:=Q } [some (tv t),some (.ref p),some (.ref r)] G;simp only[qY]
 have wait:∀ t:Tk,t=.nt\/t=.lp->(∀ G',zI [p,r] G G'->G' p=some (Lw D)->G' r=some (Lk (t::V))->Q (.bl true) G')->zG (yV K sA nA n) XN qY { nx:=fun _ G'=>Q .non G',rt:=Q } [some (.str t.s),some (.ref p),some (.ref r)] G:=by
  intro t ht h;simp only[qY];refine yX ?_
  erw[e4,g11]
  refine isi1 (T' := "str") rfl (by rfl) ?_;simp only[qP,zzB,if_false];refine stk K sA nA n (yX ?_);have em:([W.str "not", .str "("].any fun w=>kY w (.str t.s))=true:=by rcases ht with rfl|rfl<;>decide +kernel
  erw[yT,sQ,L3.inR,if_true,zzC,zzL,zzA,Nat.reduceAdd,z2,true_and]
  refine ⟨⟨by simp[pur],by simp[wC,pur],by simp[deps,dep]⟩,?_⟩;rw[em];simp only[Zv,zzB,if_false];refine stk K sA nA n (yX ?_)
  erw[t2]
  refine ⟨tyL gr,fN gr (by rw[Zw,zzM];omega) ?_⟩;refine yX ?_
  erw[]
  exact h _ (zI.put (by simp)) (by rw[yH pr];exact gp) (by rw[zX,nK])
 match t,gd,h with
 | .nm x,gd,h =>
  refine yX ?_
  erw[e4,g11]
  refine isi1 (T' := "tuple") rfl (by rfl) ?_;simp only[qP,if_true];refine yX ?_
  erw[t2]
  refine ⟨tyL gp,fN gp (by rw[Zw,zzM];omega) ?_⟩;refine yX ?_
  erw[]
  refine h _ (zI.put (by simp)) ?_ (by rw[yH (Ne.symm pr)];exact gr);rw[zX];show _=some (Lw (.say x::D));rw[nS];rfl
 | .nt,_,h=>exact wait .nt (.inl rfl) h
 | .lp,_,h=>exact wait .lp (.inr rfl) h
theorem zl0 {n:Nat} (hn:25<=n) {ws:List W} {G:Hw} {Q:Q3} (h:tJ false ws G Q XN):zG (yV K sA nA n) XN zda { nx:=fun _ G'=>Q .non G',rt:=Q } (yR zeI ws) G:=by
 obtain ⟨t,D,V,p,r,rfl,pr,gp,gr,gd,wf,ld,lv,h⟩:=h;have e4:(yV K sA nA n).fn[4]?=some (eIsj K):=qL 4 hn rfl;have e20:(yV K sA nA n).fn[24]?=some ⟨"take_left", dH⟩:=qL 24 hn rfl;have t0:(yV K sA nA n).mt[0]?=some ePop:=rfl;have t2:(yV K sA nA n).mt[2]?=some hV:=rfl;have g8:(yV K sA nA n).gl[4]?=some (("TAKES" : Str),W.dcf tK tV):=rfl;have g11:(yV K sA nA n).gl[14]?=some (("tuple" : Str),W.ty "tuple"):=rfl;have wf:Wf D V 1:=wf;show zG (yV K sA nA n) XN zda { nx:=fun _ G'=>Q .non G',rt:=Q } [some (tv t),some (.ref p),some (.ref r)] G;simp only[zda]
 match t,gd,h with
 | .op k,gd,h =>
  show zG (yV K sA nA n) XN _ { nx:=fun _ G'=>Q .non G',rt:=Q } [some (.str (jw k)),some (.ref p),some (.ref r)] G;have tlk:=zcr (m:=lA k) V D;refine yX ?_
  erw[e4,g11]
  refine isi1 (T' := "str") rfl (by rfl) ?_;simp only[qP,zzB,if_false,g8,yT,sQ,zhV,ZaZ,Zv,if_true];refine stk K sA nA n (yX ?_)
  erw[e20,g8,jU,zhV]
  refine ⟨lA k,D,V,p,r,rfl,zcQ k,pr,gp,gr,wf,by omega,by omega,fun G1 k1 gp1 gr1=>?_⟩;refine yX ?_
  erw[yT,yY,(zhU k).2,Zap,if_true]
  refine yX ?_
  erw[t2]
  refine ⟨tyL gr1,fN gr1 (by rw[Zw,zzM];omega) ?_⟩;refine yX ?_
  erw[]
  refine h _ (k1.trans (zI.put (by simp))) (by rw[yH pr];exact gp1) ?_;rw[zX];show _=some (Lk (.op k::(tl (lA k) D V).2));rw[nK];rfl
 | .rp,gd,h =>
  have gd:(tl 1 D V).2≠[]:=gd;show zG (yV K sA nA n) XN _ { nx:=fun _ G'=>Q .non G',rt:=Q } [some (.str (Tk.s .rp)),some (.ref p),some (.ref r)] G;refine yX ?_
  erw[e4,g11]
  refine isi1 (T' := "str") rfl (by rfl) ?_;simp only[qP,zzB,if_false,g8,yT,sQ,zhW,ZaZ,Zv,if_true];refine stk K sA nA n (yX ?_)
  erw[e20,g8,jU,zhW]
  refine ⟨1,D,V,p,r,rfl,zzR _,pr,gp,gr,wf,by omega,by omega,fun G1 k1 gp1 gr1=>?_⟩;replace h:∀ G',zI [p,r] G G'->G' p=some (Lw (tl 1 D V).1)->G' r=some (Lk ((tl 1 D V).2.drop 1))->Q (.bl false) G':=h;generalize tl 1 D V=u at gd gp1 gr1 h;obtain ⟨D',V'⟩:=u
  cases V' with
  |nil=>exact absurd rfl gd
  |cons w V' =>
   have gr1:G1 r=some (Lk (w::V')):=gr1;rw[nK] at gr1;have e:((Tk.s .rp)==(")" : Str))=true:=by show ((")" : Str) == ")")=true;decide +kernel
   have he:((V'.map fun t=>W.str t.s).reverse++[W.str w.s]).isEmpty=false:=by simp
   refine yX ?_
   erw[yT,yY,e,Zv,zzB,if_false]
   refine stk K sA nA n (yX ?_)
   erw[qP,gr1,he,Zap,Zv,zzB,if_false]
   refine stk K sA nA n (yX ?_)
   erw[t0]
   refine ⟨tyL gr1,popL gr1 ?_⟩;refine yX ?_
   erw[]
   exact h _ (k1.trans (zI.put (by simp))) (by rw[yH pr];exact gp1) zX
end
theorem zlv {items:List W} {stab:Hw->Prop} {G:Hw} {turn:W->Hw->(Option W->Hw->Prop)->Prop} {Q:Q3} (g:Nat->Option W) (hl:items.length<=100000) (st:∀ G',zI [] G G'->stab G')
  (step:∀ i w G' (k:Option W->Hw->Prop),items[i]?=some w->zI [] G G'->(∀ G'',zI [] G G''->k (g i) G'')->turn w G' k)
  (fin:∀ G' r,zI [] G G'->G' r=none->Q (.ref r) (put G' r (.lst ((List.range items.length).filterMap g)))):lcR items stab G turn Q:=by
 refine ⟨fun i acc G'=>zI [] G G'/\acc=(List.range i).filterMap g,⟨zI.refl,rfl⟩,?_,sz _ hl,?_,?_⟩
 .rintro i acc G' ⟨k,rfl⟩ _;exact ⟨st G' k,Ze (List.length_filterMap_le _ _) (ZaI ZbK)⟩
 .rintro i w acc G' hw ⟨k,rfl⟩;refine step i w G' _ hw k fun G'' k'=>?_
  have e:(List.range (i+1)).filterMap g=(List.range i).filterMap g++(g i).toList:=by
   rw[List.range_succ,Zba];cases h:g i<;>simp[h]
  cases hg:g i with
  |some x=>exact ⟨k',by rw[e,hg];rfl⟩
  |none=>exact ⟨k',by rw[e,hg];simp⟩
 .rintro acc G' ⟨k,rfl⟩ r hr;exact fin G' r k hr
theorem zfj {α:Type} (c:α->W) (f:α->Bool):∀ l:List α,l.filterMap (fun x=>if f x=true then some (c x) else none)=(l.filter f).map c
 | []=>rfl
 |x::l=>by
  have ih:=zfj c f l;rw[Zax,List.filter_cons]
  by_cases h:f x=true
  .rw[if_pos h,if_pos h,zzU,← ih]
  .rw[if_neg h,if_neg h,← ih]
theorem zlw {α:Type} {items:List W} {stab:Hw->Prop} {G:Hw} {turn:W->Hw->(Option W->Hw->Prop)->Prop} {Q:Q3} (l:List α) (c:α->W) (f:α->Bool) (hi:items=l.map c) (hl:l.length<=100000) (st:∀ G',zI [] G G'->stab G')
  (step:∀ x∈l,∀ G' (k:Option W->Hw->Prop),zI [] G G'->(∀ G'',zI [] G G''->k (if f x=true then some (c x) else none) G'')->turn (c x) G' k)
  (fin:∀ G' r,zI [] G G'->G' r=none->Q (.ref r) (put G' r (.lst ((l.filter f).map c)))):lcR items stab G turn Q:=by
 subst hi
 have e:(List.range (l.map c).length).filterMap (fun i=>(l[i]?).bind fun x=>if f x=true then some (c x) else none)=(l.filter f).map c:=by
  rw[zzM,← zfj];have h:=List.filterMap_getElem?_range_length l
  conv=>rhs;rw[← h]
  rw[List.filterMap_filterMap]
 refine zlv (fun i=>(l[i]?).bind fun x=>if f x=true then some (c x) else none) (by rw[zzM];exact hl) st (fun i w G' k hw kp hk=>?_) (fun G' r kp hr=>by rw[e];exact fin G' r kp hr);rw[Zp] at hw;obtain ⟨x,hx,rfl⟩:=Zq.mp hw;rw[hx] at hk;exact step x (Zo hx) G' k kp hk
theorem dX {c:Nat}:∀ {l p:List Nat},p∈tO c l->p.length<=l.length
 | [],p,h=>by simp[tO] at h;subst h;exact zzR _
 |x::r,p,h=>by
  unfold tO at h
  split at h
  .rcases Zd.mp h with rfl|h
   .exact ZS _
   .exact Za5 (dX h)
  .split at h
   .rename_i a t e;rcases Zd.mp h with rfl|h
    .exact Nat.succ_le_succ (dX (by rw[e];exact zzT))
    .exact Za5 (dX (by rw[e];exact Zc _ h))
   .rename_i e;exact absurd e (zh5 c r)
theorem zku:(" " : Str)=⟨#[32]⟩:=by decide +kernel
theorem zf7 {x w:Str} {c:Nat} (h:w∈Txt.split x ⟨#[c]⟩):w.length<=x.length:=by
 have:=List.mem_map_of_mem (f:=fun s:Str=>s.cps.toList) h;rw[zaL] at this;have:=dX this;simpa[Str.length] using this
theorem zj9 (x:Str):(Txt.split x " ").filter (fun w=>(w.length:Int) != 0)=wdS x:=by
 rw[zku,zcw,wdS,wd,List.filter_map];show List.map mkS _=_;congr 1;apply List.filter_congr;intro l _;show ((l.toArray.size:Int) != 0)=!l.isEmpty;cases l<;>simp
 omega
theorem zhP {α:Type} {items:List W} {stab:Hw->Prop} {G:Hw} {turn:W->Hw->(Option W->Hw->Prop)->Prop} {Q:Q3} (l:List α) (c d:α->W) (hi:items=l.map c) (hl:l.length<=100000) (st:∀ G',zI [] G G'->stab G')
  (step:∀ x∈l,∀ G' (k:Option W->Hw->Prop),zI [] G G'->(∀ G'',zI [] G G''->k (some (d x)) G'')->turn (c x) G' k)
  (fin:∀ G' r,zI [] G G'->G' r=none->Q (.ref r) (put G' r (.lst (l.map d)))):lcR items stab G turn Q:=by
 subst hi
 have e:(List.range (l.map c).length).filterMap (fun i=>(l[i]?).map d)=l.map d:=by
  rw[zzM];have h:=List.filterMap_getElem?_range_length l
  conv=>rhs;rw[← h]
  rw[List.map_filterMap]
 refine zlv (fun i=>(l[i]?).map d) (by rw[zzM];exact hl) st (fun i w G' k hw kp hk=>?_) (fun G' r kp hr=>by rw[e];exact fin G' r kp hr);rw[Zp] at hw;obtain ⟨x,hx,rfl⟩:=Zq.mp hw;rw[hx] at hk;exact step x (Zo hx) G' k kp hk
theorem le_a (c:Nat):leS "a" ⟨#[c]⟩=decide (97<=c):=by
 unfold leS;show (!decide ([c]<("a" : Str).cps.toList))=_;rw[show ("a" : Str).cps.toList=[97] by decide +kernel,StrLaws.lt_cons_cons]
 by_cases h:c<97
 .simp[h]
 .simp[h,ZbS h]
theorem le_z (c:Nat):leS ⟨#[c]⟩ "z" = decide (c<=122):=by
 unfold leS;show (!decide (("z" : Str).cps.toList<[c]))=_;rw[show ("z" : Str).cps.toList=[122] by decide +kernel,StrLaws.lt_cons_cons]
 by_cases h:122<c
 .simp[h]
 .simp[h,ZbS h]
theorem zbd {S:List Addr} {G G' G'':Hw} {p r:Addr} (k:zI S G G') (k2:zI [p,r] G' G'') (h:G p=none) (h2:G r=none):zI S G G'':=fun a u ha e=>k2 a u (by
 simp only[Zd,ZB,or_false,not_or];exact ⟨qS e h,qS e h2⟩) (k a u ha e)
theorem zgg (s:St) (l:List Tk) (t:Tk):run s (l++[t])=step (run s l) t:=by rw[zbN];rfl
section
variable {K:yJ} {sA nA:Addr}
theorem zdR {n:Nat} {ws:List W} {G:Hw} {Q:Q3} (h:spWB ws G Q XN):zG (yV K sA nA n) XN qR { nx:=fun _ G'=>Q .non G',rt:=Q } (yR xS ws) G:=by
 obtain ⟨x,rfl,hx,h⟩:=h;have m3:(yV K sA nA n).mt[4]?=some hZ:=rfl;refine yX ?_
 erw[yR,xS,zzU,zzV,Zf,Zs,Zab,Zah,ZF,ZT,m3]
 refine ⟨rfl,by decide +kernel,by omega,fun r hr=>?_⟩;simp only[kA,yG zX];have hl:=zaK x " ";refine zlw (Txt.split x " ") W.str (fun w=>(w.length:Int) != 0) rfl (by omega) (fun G' k=>yG (k0 k zX)) (fun w hw G' k kp hk=>?_) (fun G' q kp hq=>?_)
 .have lw:w.length<=sizeLine:=sz _ (Ze (zf7 (by rw[zku] at hw;exact hw)) (by omega));show (match qP G' (.str w) with|some b=>if b=true then k (some (.str w)) G' else k none G'|none=>False);have hk:=hk G' kp;simp only[qP,lw,if_true]
  by_cases e:((w.length:Int) != 0)=true
  .rw[if_pos e] at hk ⊢;exact hk
  .rw[if_neg e] at hk ⊢;exact hk
 .rw[zj9];exact h q _ (((zI.new hr).trans kp).trans (zI.new hq)) (zI.none ((zI.new hr).trans kp) (by simp) hq) zX
theorem zka {n:Nat} (hn:31<=n) {ws:List W} {G:Hw} {Q:Q3} (h:spWA ws G Q XN):zG (yV K sA nA n) XN xH { nx:=fun _ G'=>Q .non G',rt:=Q } (yR jV ws) G:=by
 obtain ⟨x,rfl,hx,h⟩:=h;have e26:(yV K sA nA n).fn[30]?=some ⟨"words_between_blanks", spWB⟩:=qL 30 hn rfl;have x7:(yV K sA nA n).sx[5]?=some ⟨fY ")" " ) ", rplS ")" " ) "⟩:=rfl;have x8:(yV K sA nA n).sx[6]?=some ⟨fY "(" " ( ", rplS "(" " ( "⟩:=rfl;show zG (yV K sA nA n) XN xH { nx:=fun _ G'=>Q .non G',rt:=Q } [some (.str x)] G;simp only[xH];refine yX ?_
 erw[e26,x7,x8]
 have l1:(" ( " : Str).length=3:=by decide +kernel
 have l2:(" ) " : Str).length=3:=by decide +kernel
 have h1:(Txt.replace x "(" " ( ").length<=3 * x.length:=by
  rw[← qZ,zhI,← qZ x];exact zfl _
 have h2:(opn x).length<=3 * x.length:=by
  rw[← qZ,zhH,← qZ x];exact zhY _
 refine ⟨by rw[l1];omega,?_⟩;refine ⟨by rw[l2];omega,?_⟩;exact ⟨opn x,rfl,by omega,h⟩
theorem zjk {n:Nat} (hn:6<=n) {ws:List W} {G:Hw} {Q:Q3} (h:zf9 ws G Q XN):zG (yV K sA nA n) XN mZ { nx:=fun _ G'=>Q .non G',rt:=Q } (yR cE ws) G:=by
 obtain ⟨x,rfl,nm,h⟩:=h;have e1:(yV K sA nA n).fn[1]?=some hX:=qL 1 hn rfl;have e2:(yV K sA nA n).fn[2]?=some eAll:=qL 2 hn rfl;have e4:(yV K sA nA n).fn[4]?=some (eIsj K):=qL 4 hn rfl;have g0:(yV K sA nA n).gl[0]?=some (("LONGEST_NAME" : Str),W.int 6):=rfl;have g1:(yV K sA nA n).gl[1]?=some (("NO_NAMES" : Str),W.tup (noN.map .str)):=rfl;have g10:(yV K sA nA n).gl[13]?=some (("str" : Str),W.ty "str"):=rfl;have nm':=nm;simp only[fB,Zl,decide_eq_true_eq,Z5] at nm';obtain ⟨⟨⟨h1,h6⟩,hno⟩,hal⟩:=nm';show zG (yV K sA nA n) XN mZ { nx:=fun _ G'=>Q .non G',rt:=Q } [some (.str x)] G;simp only[mZ];refine yX ?_
 erw[e4,g10]
 refine isi1 (T' := "str") rfl (by rfl) ?_;simp only[qP,Zv,zzB,if_false,yT,leR,e1,g0,qF,kZ,sz _ (show x.length<=100000 by omega),if_true];have c1:decide ((1:Int)<=(x.length:Int))=true:=decide_eq_true (by omega);have c2:decide ((x.length:Int)<=6)=true:=decide_eq_true (by omega);simp only[c1,c2,if_true,Zv,zzB,if_false];refine stk K sA nA n (yX ?_)
 erw[yT,sQ,L3.inR,g1,e2,if_true]
 refine ⟨⟨by simp[pur],by decide,Ze (Zbk _ _) (by simp[dep])⟩,?_⟩;rw[zh8];simp only[hno,Zap,if_true,kA];refine dZ (fun w=>match w with|.str y=>some (.bl (leS "a" y&&leS y "z"))|_=>none) trivial (by simp only[sgs,zzM,uM];exact sz _ (by omega)) ?_ ?_
 .intro w hw K' hK;obtain ⟨c,_,rfl⟩:=zzP hw;simp only[hG,Zf,Zs,List.replicate,zzV,ZC]
  erw[yT,leR,if_true]
  replace hK:K' (some (.bl (leS "a" ⟨#[c]⟩&&leS ⟨#[c]⟩ "z"))) G:=hK;revert hK;cases leS "a" ⟨#[c]⟩<;>simp
 .intro p hp;refine ⟨x.cps.toList.map bM,?_,?_⟩
  .rw[xQ zX];congr 1;unfold sgs;rw[ZaW,ZaH];rw[← List.filterMap_eq_map];congr 1
   funext c
   simp only[Function.comp,le_a,le_z,bM]
  .have e:(x.cps.toList.map bM).all id=true:=by rw[List.all_map];exact hal
   dsimp only;rw[e];exact h _ (zI.new hp)
theorem in_j (k:Tk) (h:tkOk k):(jL.any fun w=>kY w (.str k.s))=(match k with|.nm _=>false|_=>true):=by
 cases k with
 |nm x =>
  have h:fB x=true:=h;have hl:=(sY h).2;simp only[fB,Zl,Z5] at h;have hno:x∉noN:=by simpa using h.1.2
  have q:∀ y∈(["(", ")", "not", "and", "or", "then"]:List Str),(y==x)=false:=by
   intro y hy;rw[beq_eq_false_iff_ne];rintro rfl;have h2:∀ z∈(["(", ")", "not", "and", "or", "then"]:List Str),z∈noN\/∃ c∈z.cps.toList,c<97:=by decide +kernel
   rcases h2 y hy with h2|⟨c,hc,h3⟩
   .exact hno h2
   .have:=hl c hc;omega
  show (jL.any fun w=>kY w (.str x))=false;have ej:jL=(["(", ")", "not", "and", "or", "then"]:List Str).map W.str:=rfl;rw[ej,List.any_map,List.any_eq_false];intro y hy;simp only[Function.comp,kY];rw[q y hy]
  decide
 |lp=>show (jL.any fun w=>kY w (.str "("))=true;decide +kernel
 |rp=>show (jL.any fun w=>kY w (.str ")"))=true;decide +kernel
 |nt=>show (jL.any fun w=>kY w (.str "not"))=true;decide +kernel
 |op k=>match k with
  | 0=>show (jL.any fun w=>kY w (.str "and"))=true;decide +kernel
  | 1=>show (jL.any fun w=>kY w (.str "or"))=true;decide +kernel
  |k+2=>show (jL.any fun w=>kY w (.str "then"))=true;decide +kernel
theorem zkG {n:Nat} (hn:29<=n) {ws:List W} {G:Hw} {Q:Q3} (h:spRW ws G Q XN):zG (yV K sA nA n) XN uH { nx:=fun _ G'=>Q .non G',rt:=Q } (yR rE ws) G:=by
 obtain ⟨k,rfl,ok,h⟩:=h;have e24:(yV K sA nA n).fn[28]?=some ⟨"is_name", zf9⟩:=qL 28 hn rfl;have g6:(yV K sA nA n).gl[2]?=some (("JOINING" : Str),W.tup jL):=rfl;have z2:=sz 2 (by decide);show zG (yV K sA nA n) XN uH { nx:=fun _ G'=>Q .non G',rt:=Q } [some (.str k.s)] G;simp only[uH];refine yX ?_
 erw[g6,yT,sQ,L3.inR,zzB,if_false]
 refine ⟨⟨by simp[pur],by decide,Ze (Zbk _ _) (by simp[dep])⟩,?_⟩;rw[in_j k ok]
 cases k with
 |nm x =>
  rw[if_neg zzN];refine stk K sA nA n (yX ?_)
  erw[e24]
  refine ⟨x,rfl,ok,fun G1 k1=>?_⟩;simp only[qP,Zv,zzB,if_false];refine stk K sA nA n (yX ?_)
  erw[zzC,zzL,zzA,Nat.reduceAdd,z2,true_and]
  exact h G1 k1
 |lp=>rw[if_pos rfl];refine yX ?_;erw[];exact h G zI.refl
 |rp=>rw[if_pos rfl];refine yX ?_;erw[];exact h G zI.refl
 |nt=>rw[if_pos rfl];refine yX ?_;erw[];exact h G zI.refl
 |op j=>rw[if_pos rfl];refine yX ?_;erw[];exact h G zI.refl
theorem zkI {n:Nat} (hn:27<=n) {ws:List W} {G:Hw} {Q:Q3} (h:spRJ ws G Q XN):zG (yV K sA nA n) XN kJ { nx:=fun _ G'=>Q .non G',rt:=Q } (yR uV ws) G:=by
 obtain ⟨t,b,tk,q,rfl,ok,tn,tl',gq,h⟩:=h;have e20:(yV K sA nA n).fn[24]?=some ⟨"take_left", dH⟩:=qL 24 hn rfl;have e21:(yV K sA nA n).fn[25]?=some ⟨"begin_side", tJ true⟩:=qL 25 hn rfl;have e22:(yV K sA nA n).fn[26]?=some ⟨"go_on", tJ false⟩:=qL 26 hn rfl;have z0:=sz 0 (by decide);show zG (yV K sA nA n) XN kJ { nx:=fun _ G'=>Q .non G',rt:=Q } [some (.ref q),none,none,none,none] G;simp only[kJ];refine yX ?_
 erw[Zs,z0,true_and]
 intro p hp;have gq1:=vU (u:=.lst []) hp gq;have k1:zI [] G (put G p (.lst [])):=zI.new hp;have gp1:(put G p (.lst [])) p=some (.lst []):=zX;generalize put G p (.lst [])=G1 at gq1 k1 gp1 ⊢;refine yX ?_
 erw[Zs,z0,true_and]
 intro r hr;have gq2:=vU (u:=.lst []) hr gq1;have gp2:=vU (u:=.lst []) hr gp1;have hr0:=k1.none (by simp) hr;have pr:p≠r:=fun e=>by rw[← e,gp1] at hr;cases hr
 have pq:q≠p:=qS gq hp;have rq:q≠r:=qS gq hr0;have k2:zI [] G (put G1 r (.lst [])):=k1.trans (zI.new hr);have gr2:(put G1 r (.lst [])) r=some (.lst []):=zX;generalize put G1 r (.lst [])=G2 at gq2 gp2 k2 gr2 ⊢;refine yX ?_
 erw[]
 refine yX ?_
 erw[kA,yG gq2]
 refine ⟨fun i σ G'=>∃ v:Option W,σ=[some (.ref q),some (.ref p),some (.ref r),some (.bl (run ([],[],true) (tk.take i)).2.2),v]/\G' q=some (.lst (tk.map tv))/\G' p=some (Lw (run ([],[],true) (tk.take i)).1)/\G' r=some (Lk (run ([],[],true) (tk.take i)).2.1)/\zI [] G G'/\WfS (run ([],[],true) (tk.take i))/\LenS (run ([],[],true) (tk.take i)) i,⟨none,rfl,gq2,gp2,gr2,k2,⟨rfl,by simp[run]⟩,⟨by simp[run],by simp[run]⟩⟩,?_,?_,?_⟩
 .rintro i σ G' ⟨v,rfl,g,_⟩ _;exact yG g
 .rintro i w σ G' hw ⟨v,rfl,gq',gp',gr',kp,wf,ln⟩;rw[Zp] at hw;obtain ⟨x,hx,rfl⟩:=Zq.mp hw;have hi:=(Zh.mp hx).1;have et:tk.take (i+1)=tk.take i++[x]:=by rw[Zy hi,(Zh.mp hx).2]
  have gd:Good (run ([],[],true) (tk.take i)) x:=by
   have g:=zfY tn ok;rw[← List.take_append_drop i tk,zaA hx] at g;exact ((rY _ _ _).mp g).2.1
  simp only[et,zgg];have wf2:=zii wf gd;have ln2:=zgJ (t:=x) ln;generalize run ([],[],true) (tk.take i)=s at *;obtain ⟨D,V,l⟩:=s;have l1:D.length<=i:=ln.1;have l2:V.length<=i:=ln.2
  have fin:∀ G3,zI [p,r] G' G3->G3 p=some (Lw (step (D,V,l) x).1)->G3 r=some (Lk (step (D,V,l) x).2.1)->∃ v:Option W,[some (W.ref q),some (.ref p),some (.ref r),some (.bl (step (D,V,l) x).2.2),some (tv x)]=[some (.ref q),some (.ref p),some (.ref r),some (.bl (step (D,V,l) x).2.2),v]/\G3 q=some (.lst (tk.map tv))/\G3 p=some (Lw (step (D,V,l) x).1)/\G3 r=some (Lk (step (D,V,l) x).2.1)/\zI [] G G3/\WfS (step (D,V,l) x)/\LenS (step (D,V,l) x) (i+1) :=
   fun G3 k3 g3 h3=>⟨_,rfl,k3 _ _ (by simp only[Zd,ZB,or_false,not_or];exact ⟨pq,rq⟩) gq',g3,h3,zbd kp k3 hp hr0,wf2,ln2⟩
  refine yX ?_
  cases l with
  |true =>
   erw[qP,if_true]
   refine yX ?_
   erw[e21]
   exact ⟨x,D,V,p,r,rfl,pr,gp',gr',gd,wf,by omega,by omega,fun G3 k3 g3 h3=>fin G3 k3 g3 h3⟩
  |false =>
   erw[qP,zzB,if_false]
   refine yX ?_
   erw[e22]
   exact ⟨x,D,V,p,r,rfl,pr,gp',gr',gd,wf,by omega,by omega,fun G3 k3 g3 h3=>fin G3 k3 g3 h3⟩
 .rintro σ G' ⟨v,rfl,gq',gp',gr',kp,wf,ln⟩;rw[zzM,Zal] at *;obtain ⟨D,V,e,et⟩:=tn_rd tn;rw[e] at wf ln gp' gr' ⊢;have l1:D.length<=tk.length:=ln.1;have l2:V.length<=tk.length:=ln.2;refine yX ?_
  erw[qP,zzB,if_false]
  refine stk K sA nA n (yX ?_)
  erw[e20]
  refine ⟨1,D,V,p,r,rfl,zzR _,pr,gp',gr',wf,by omega,by omega,fun G3 k3 g3 h3=>?_⟩;rw[et] at g3 h3;have g3:G3 p=some (.lst [t.w]):=g3;have h3:G3 r=some (.lst []):=h3;refine yX ?_
  erw[qP,h3,Zbi,Zv,zzB,if_false]
  refine stk K sA nA n (yX ?_)
  erw[]
  refine gH (yG g3) ?_;rw[xU];exact h G3 (zbd kp k3 hp hr0)
theorem tk_ok {k:Tk} (h:tkK k):tkOk k:=by cases k<;>exact h
theorem zkH {n:Nat} (hn:32<=n) {ws:List W} {G:Hw} {Q:Q3} (h:spRS ws G Q XN):zG (yV K sA nA n) XN kK { nx:=fun _ G'=>Q .non G',rt:=Q } (yR uW ws) G:=by
 obtain ⟨t,b,tk,x,rfl,ok,tn,tl',sl,hw,h⟩:=h;have e4:(yV K sA nA n).fn[4]?=some (eIsj K):=qL 4 hn rfl;have e23:(yV K sA nA n).fn[27]?=some ⟨"read_joined", spRJ⟩:=qL 27 hn rfl;have e25:(yV K sA nA n).fn[29]?=some ⟨"read_word", spRW⟩:=qL 29 hn rfl;have e27:(yV K sA nA n).fn[31]?=some ⟨"words_and_brackets", spWA⟩:=qL 31 hn rfl;have g10:(yV K sA nA n).gl[13]?=some (("str" : Str),W.ty "str"):=rfl;have x9:(yV K sA nA n).sx[7]?=some ⟨fY "\n" " ", rplS "\n" " "⟩:=rfl;show zG (yV K sA nA n) XN kK { nx:=fun _ G'=>Q .non G',rt:=Q } [some (.str x)] G;simp only[kK];refine yX ?_
 erw[e4,g10]
 refine isi1 (T' := "str") rfl (by rfl) ?_;simp only[qP,Zv,zzB,if_false];refine stk K sA nA n (yX ?_)
 erw[e23,e27,x9]
 refine ⟨by rw[show (" " : Str).length=1 by decide +kernel];omega,?_⟩;refine ⟨_,rfl,by rw[zli];omega,fun r G1 k1 hr gr=>?_⟩;rw[zj6 hw,ZaH] at gr;simp only[kA,yG gr];refine zhP tk (W.str ∘ Tk.s) tv rfl (by omega) (fun G' k=>yG (k0 k gr)) (fun x hx G' k kp hk=>?_) (fun G' q kp hq=>?_)
 .simp only[hG,Zf,Zs,List.replicate,zzV,ZC]
  erw[e25,Function.comp]
  exact ⟨x,rfl,tk_ok (tn_ok tn ok x hx),fun G2 k2=>hk G2 (kp.trans k2)⟩
 .exact ⟨t,b,tk,q,rfl,ok,tn,tl',zX,fun G2 k2=>h G2 (((k1.trans kp).trans (zI.new hq)).trans k2)⟩
end
end K29
set_option maxHeartbeats 2000000
namespace K29
open PySem PySem.Spec PyProof.Rows L2 L3
theorem Fr.of {ws:List W} {G:Hw} {Q:Q3} (h:Fr ws G Q):∀ r,G r=none->Q (.ref r) (put G r (.lst ws)):=fun r hr=>h r _ (zI.new hr) hr zX
theorem ltS1 {a b:W} (h:(ltW a b).isSome=true):(mD [a] [b]).isSome=true:=by
 simp only[mD]
 split
 .rfl
 .exact h
theorem ltS2 {a b c d:W} (h:(ltW a b).isSome=true) (h':(ltW c d).isSome=true):(mD [a,c] [b,d]).isSome=true:=by
 rw[mD]
 split
 .exact ltS1 h'
 .exact h
theorem zbW {x:Str} {l l':List W} (h:(mD l l').isSome=true):(ltW (.tup (.str x::l)) (.tup (.str x::l'))).isSome=true:=by
 rw[ltW,mD,if_pos (by simp[kY])];exact h
theorem uQ {x y:Str} {l l':List W} (h:(x==y)=false):(ltW (.tup (.str x::l)) (.tup (.str y::l'))).isSome=true:=by
 rw[ltW,mD,if_neg (by simp[kY,h]),ltW];rfl
theorem zlp {x y:Str} {l l':List W} (h:x=y->(mD l l').isSome=true):(ltW (.tup (.str x::l)) (.tup (.str y::l'))).isSome=true:=by
 by_cases e:x=y
 .subst e;exact zbW (h rfl)
 .exact uQ (by simpa using e)
theorem Sy.lt:∀ a b:Sy,(ltW a.w b.w).isSome=true
 | .say x,.say y=>zbW (ltS1 (by rw[ltW];rfl))
 | .neg a,.neg b=>zbW (ltS1 (Sy.lt a b))
 | .two j a c,.two k b d=>zlp fun _=>ltS2 (Sy.lt a b) (Sy.lt c d)
 | .say _,.neg _=>uQ (by decide +kernel)
 | .neg _,.say _=>uQ (by decide +kernel)
 | .say _,.two k _ _=>uQ (pV k).2.1
 | .two k _ _,.say _=>uQ (pV k).1
 | .neg _,.two k _ _=>uQ (pV k).2.2.2
 | .two k _ _,.neg _=>uQ (pV k).2.2.1
theorem Sy.hd (t:Sy):hdT t.w=some "str" := by cases t<;>rfl
theorem cV:∀ ts:List Sy,wC (ts.map Sy.w)=true
 | []=>rfl
 |t::ts=>by simp[wC,t.pur,cV ts]
theorem zc5 {n:Nat}:∀ ts:List Sy,(∀ t∈ts,t.size<=n)->deps (ts.map Sy.w)<=n
 | [],_=>ZS _
 |t::ts,h=>by
  have h1:=Sy.dep t;have h2:=h t zzT;have h3:=zc5 ts fun x hx=>h x (Zc _ hx);simp only[zzU,deps];omega
theorem srtb {ts:List Sy} (hn:ts.length<64) (hs:∀ t∈ts,t.size<=59):Srtb (ts.map Sy.w) where
 pure:=cV ts
 lt:=fun x hx y hy=>by
  obtain ⟨a,_,rfl⟩:=zzP hx;obtain ⟨b,_,rfl⟩:=zzP hy;exact Sy.lt a b
 few:=by simpa using hn
 deep:=Z8 (zc5 ts hs) (by omega)
 hd:=⟨"str", fun x hx=>by obtain ⟨a,_,rfl⟩:=zzP hx;exact a.hd⟩
theorem zis (ts:List Sy):∃ us:List Sy,srt (ts.map Sy.w)=us.map Sy.w/\us.length=ts.length/\∀ t∈us,t∈ts:=by
 have p:=zf4 (ts.map Sy.w)
 have key:∀ (ws:List W),(∀ x∈ws,∃ t,t∈ts/\x=t.w)->∃ us:List Sy,ws=us.map Sy.w/\∀ t∈us,t∈ts:=by
  intro ws
  induction ws with
  |nil=>exact fun _=>⟨[],rfl,fun _ h=>nomatch h⟩
  |cons x ws ih =>
   intro h;obtain ⟨t,ht,rfl⟩:=h x zzT;obtain ⟨us,e,hu⟩:=ih fun y hy=>h y (Zc _ hy);refine ⟨t::us,by rw[e];rfl,fun y hy=>?_⟩;rcases Zd.mp hy with rfl|hy
   .exact ht
   .exact hu y hy
 obtain ⟨us,e,hu⟩:=key _ fun x hx=>by
  obtain ⟨t,ht,rfl⟩:=zzP (p.mem_iff.mp hx);exact ⟨t,ht,rfl⟩
 refine ⟨us,e,?_,hu⟩;have:=p.length_eq;rw[e] at this;simpa using this
theorem zg6 (f:W->Option W) (hf:∀ w x,f w=some x->x=w) (ts:List Sy):∃ us:List Sy,(ts.map Sy.w).filterMap f=us.map Sy.w/\us.length<=ts.length/\∀ t∈us,t∈ts:=by
 induction ts with
 |nil=>exact ⟨[],rfl,zzR _,fun _ h=>h⟩
 |cons t ts ih =>
  obtain ⟨us,e,hl,hm⟩:=ih;rw[zzU]
  cases q:f t.w with
  |none=>rw[List.filterMap_cons_none q];exact ⟨us,e,by simp;omega,fun x hx=>Zc _ (hm x hx)⟩
  |some x =>
   rw[List.filterMap_cons_some q,hf _ _ q];refine ⟨t::us,by rw[e];rfl,by simp;omega,fun x hx=>?_⟩;rcases Zd.mp hx with rfl|hx
   .exact zzT
   .exact Zc _ (hm x hx)
theorem yF {G:Hw} {a b:Int}:eqG G (.int a) (.int b)=some (decide (a=b)):=by
 simp[eqG,pur,dep,kY,Bool.beq_eq_decide_eq]
theorem sub3 {m k:Int} {n:Nat} (h1:1<=k) (h2:k<m) (h3:m<(n+1:Nat)) (h4:m<=40):1<=k/\k<n/\k<=40:=by omega
section
variable {K:yJ} {sA nA:Addr}
theorem zdj {n:Nat} {ws:List W} {G:Hw} {Q:Q3} (h:wL (n+1) ws G Q XN):zG (kF K sA nA 9 ⟨"_law_saying", wL n⟩) XN kH { nx:=fun _ G'=>Q .non G',rt:=Q } (yR uS ws) G:=by
 obtain ⟨d,l,r,m,xs,rfl,D,hr,gr,hx,hxl,hnm,m1,mn,m40,h⟩:=h;have e1:(kF K sA nA 9 ⟨"_law_saying", wL n⟩).fn[1]?=some hX:=rfl;have e7:(kF K sA nA 9 ⟨"_law_saying", wL n⟩).fn[7]?=some zdE:=rfl;have e9:(kF K sA nA 9 ⟨"_law_saying", wL n⟩).fn[9]?=some ⟨"_law_saying", wL n⟩:=rfl;have z2:=sz 2 (by decide);have z3:=sz 3 (by decide);have x0:0<xs.length:=List.length_pos_iff.mpr hx;show zG (kF K sA nA 9 ⟨"_law_saying", wL n⟩) XN kH { nx:=fun _ G'=>Q .non G',rt:=Q } [some (.ref d),some (.ref r),some (.int m),none,none,none] G;simp only[kH];refine yX ?_
 erw[yT,yF]
 by_cases hm1:m=1
 .subst hm1;rw[if_pos (by simp)];refine yX ?_
  erw[e7,e1,qF,kZ,gr,zzM]
  refine ⟨d,l,xs.length,rfl,D,⟨by omega,by omega⟩,fun i G1 i0 i1 kp D1=>?_⟩;obtain ⟨x,hx',ex⟩:=zd9 i0 i1;refine gH (xQ (kp _ _ hr gr)) ?_;rw[ex];exact ⟨z2,h (.say x) G1 (hnm x hx') rfl kp D1⟩
 rw[if_neg (by simpa using hm1)];refine vB (yX ?_)
 erw[e7]
 refine ⟨d,l,4,rfl,D,by decide,fun way G1 w0 w1 kp1 D1=>?_⟩;have gr1:=kp1 _ _ hr gr;refine yX ?_
 erw[yT,yF]
 have hnot:∀ {D':End3},D'.rt=Q->zG (kF K sA nA 9 ⟨"_law_saying", wL n⟩) XN (.cons (.ret (.tup (.cons (.con (.str "not")) (.cons (.call 9 (.cons (.var 0) (.cons (.var 1) (.cons (.bin .Sub (.var 2) (.con (.int 1))) .nil)))) .nil)))) .nil) D' [some (.ref d),some (.ref r),some (.int m),some (.int way),none,none] G1:=by
  intro D' hD;refine yX ?_
  erw[vX,e9]
  by_cases m2:2<=m
  .have q:=sub3 (k:=m-1) (Int.le_sub_right_of_add_le (show (1:Int)+1<=m from m2)) (Int.sub_lt_self m (by decide)) mn m40;refine ⟨d,l,r,m-1,xs,rfl,D1,hr,gr1,hx,hxl,hnm,q.1,q.2.1,q.2.2,fun t G2 ok hs kp2 D2=>⟨z2,?_⟩⟩;rw[hD];refine h (.neg t) G2 ok ?_ (kp1.trans kp2) D2;show ((t.size+1:Nat):Int)=m;omega
  .omega
 by_cases hm2:m=2
 .subst hm2;simp only[decide_true,if_true];exact hnot rfl
 simp only[decide_eq_false hm2,zzB,if_false]
 by_cases hw:way=3
 .subst hw;simp only[decide_true,if_true];exact hnot rfl
 simp only[decide_eq_false hw,zzB,if_false];refine vB (yX ?_)
 erw[vX,e7]
 refine ⟨d,l,m-2,rfl,D1,⟨by omega,by omega⟩,fun i G2 i0 i1 kp2 D2=>?_⟩;have gr2:=kp2 _ _ hr gr1;refine yX ?_
 erw[e9]
 have q:=sub3 (k:=1+i) (Int.le_add_of_nonneg_right i0) (by omega) mn m40;refine ⟨d,l,r,1+i,xs,rfl,D2,hr,gr2,hx,hxl,hnm,q.1,q.2.1,q.2.2,fun a G3 oka ha kp3 D3=>?_⟩;have gr3:=kp3 _ _ hr gr2;refine yX ?_
 erw[zzC,zzL,zzA,Nat.reduceAdd,z3,true_and]
 intro p hp;have D4:=qE (o:=.lst [.str "and", .str "or", .str "if"]) hp D3;have k4:zI [d,l] G3 (put G3 p (.lst [.str "and", .str "or", .str "if"])):=zI.new hp;have gr4:=k4 _ _ hr gr3;refine gH (xQ zX) ?_;have kp4:=((kp1.trans kp2).trans kp3).trans k4
 have ek:pS [W.str "and", .str "or", .str "if"] way=some (.str (kw way.toNat)):=by
  have hc:way=0\/way=1\/way=2:=by omega
  rcases hc with rfl|rfl|rfl
  .exact xU
  .exact gY
  .exact at_2
 rw[ek]
 erw[vX,e9]
 have q:=sub3 (k:=m-1-(1+i)) (by omega) (by omega) mn m40;refine ⟨d,l,r,m-1-(1+i),xs,rfl,D4,hr,gr4,hx,hxl,hnm,q.1,q.2.1,q.2.2,fun b G5 okb hb kp5 D5=>?_⟩;refine h (.two way.toNat a b) G5 ⟨oka,okb⟩ ?_ (kp4.trans kp5) D5;show ((a.size+b.size+1:Nat):Int)=m;omega
theorem zdq {n:Nat} {ws:List W} {G:Hw} {Q:Q3} (h:fK ws G Q XN):zG (yV K sA nA n) XN qD { nx:=fun _ G'=>Q .non G',rt:=Q } (yR sV ws) G:=by
 obtain ⟨t,rfl,h⟩:=h;have z0:=sz 0 (by decide);have z1:=sz 1 (by decide);have z2:=sz 2 (by decide);have d1:(("say" : Str) == "and")=false/\(("say" : Str) == "or")=false/\(("say" : Str) == "if")=false/\(("say" : Str) == "not")=false:=by decide +kernel
 have d2:(("not" : Str) == "and")=false/\(("not" : Str) == "or")=false/\(("not" : Str) == "if")=false:=by decide +kernel
 have d3:(("or" : Str) == "and")=false/\(("if" : Str) == "and")=false/\(("if" : Str) == "or")=false:=by decide +kernel
 show zG (yV K sA nA n) XN qD { nx:=fun _ G'=>Q .non G',rt:=Q } [some t.w] G
 have key:∀ x r,t.w=.tup (.str x::r)->(x = "say" /\ sL t=[]\/x = "not" /\ sL t=[("not" : Str)]\/x = "and" /\ sL t=[("left" : Str), "right"]\/x = "or" /\ sL t=[("which" : Str)]\/x = "if" /\ sL t=[("if" : Str)])->zG (yV K sA nA n) XN qD { nx:=fun _ G'=>Q .non G',rt:=Q } [some t.w] G:=by
  intro x r e hx;rw[e];simp only[qD];rcases hx with ⟨rfl,ed⟩|⟨rfl,ed⟩|⟨rfl,ed⟩|⟨rfl,ed⟩|⟨rfl,ed⟩<;>rw[ed] at h<;>simp only[zG,zT,zU,zO,zH,zF,zD,zC,zQ,zW,zN,zE,gZ,gS,jU,xU,yT,yY,d1,d2,d3,beq_self_eq_true,if_true,if_false,zzB,zzL,zzC,zzA,Nat.reduceAdd,z0,z1,z2,true_and]<;>exact h.of
 cases t with
 |say x=>exact key "say" _ rfl (.inl ⟨rfl,rfl⟩)
 |neg a=>exact key "not" _ rfl (.inr (.inl ⟨rfl,rfl⟩))
 |two k a b=>match k with
  | 0=>exact key "and" _ rfl (.inr (.inr (.inl ⟨rfl,rfl⟩)))
  | 1=>exact key "or" _ rfl (.inr (.inr (.inr (.inl ⟨rfl,rfl⟩))))
  |k+2=>exact key "if" _ rfl (.inr (.inr (.inr (.inr ⟨rfl,rfl⟩))))
theorem w_ne:(("not" : Str) == "say")=false/\(("and" : Str) == "say")=false/\(("and" : Str) == "not")=false/\(("or" : Str) == "say")=false/\(("or" : Str) == "not")=false/\(("or" : Str) == "and")=false/\(("if" : Str) == "say")=false/\(("if" : Str) == "not")=false/\(("if" : Str) == "and")=false/\(("if" : Str) == "or")=false:=by decide +kernel
theorem zl1 (t:Sy):(wdK.zip wdV).lookup (pP t)=some (.tup ((sL t).map .str)):=by
 cases t with
 |say x=>show (wdK.zip wdV).lookup ("say" : Str)=some (.tup []);rfl
 |neg a=>show (wdK.zip wdV).lookup ("not" : Str)=some (.tup [.str "not"]);simp[wdK,wdV,List.lookup,w_ne]
 |two k a b=>match k with
  | 0=>show (wdK.zip wdV).lookup ("and" : Str)=some (.tup [.str "left", .str "right"]);simp[wdK,wdV,List.lookup,w_ne]
  | 1=>show (wdK.zip wdV).lookup ("or" : Str)=some (.tup [.str "which"]);simp[wdK,wdV,List.lookup,w_ne]
  |k+2=>show (wdK.zip wdV).lookup ("if" : Str)=some (.tup [.str "if"]);simp[wdK,wdV,List.lookup,w_ne]
theorem zdF {n:Nat} (hn:34<=n) {ws:List W} {G:Hw} {Q:Q3} (h:tI ws G Q XN):zG (yV K sA nA n) XN uE { nx:=fun _ G'=>Q .non G',rt:=Q } (yR rB ws) G:=by
 obtain ⟨t,rfl,h⟩:=h;have e3:(yV K sA nA n).fn[3]?=some eLst:=qL 3 hn rfl;have g10:(yV K sA nA n).gl[10]?=some (("WORDS" : Str),.dcf wdK wdV):=rfl;show zG (yV K sA nA n) XN uE { nx:=fun _ G'=>Q .non G',rt:=Q } [some t.w] G;simp only[uE];refine yX ?_
 erw[e3,g10]
 refine ix0 ?_;simp only[jU,zl1,lstS,qH];exact h.of
end
end K29
set_option maxHeartbeats 2000000
namespace K29
open PySem PySem.Spec PyProof.Rows L2 L3
theorem gG {G:Hw} {p:Addr} {ws:List W} {R:List W->(Hw->Prop)->Hw->Prop} (h:G p=some (.lst ws)) (q:R ws (fun G'=>yP G' p=some ws) G):kA (.ref p) G R:=by
 simp only[kA,xQ h];exact q
theorem iterT {ws:List W} {G:Hw} {R:List W->(Hw->Prop)->Hw->Prop} (h:R ws (fun _=>True) G):kA (.tup ws) G R:=h
def tL:List Sy->Nat
 | []=>0
 |k::ks=>k.size+tL ks
theorem zcv:∀ (l:List Sy) (k:Sy),tL (l++[k])=tL l+k.size
 | [],k=>by simp[tL]
 |a::l,k=>by simp only[Zab,tL,zcv l k];omega
theorem zd5:∀ (l:List Sy) (j:Nat),tL (l.take j)<=tL l
 | [],j=>by simp[tL]
 |a::l,0=>by simp[tL]
 |a::l,j+1=>by simp only[Zbs,tL];have:=zd5 l j;omega
section
variable {K:yJ} {sA nA:Addr}
theorem zez {n:Nat} {ws:List W} {G:Hw} {Q:Q3} (h:qN (n+1) ws G Q XN):zG (kF K sA nA 10 ⟨"_law_all_parts", qN n⟩) XN jK { nx:=fun _ G'=>Q .non G',rt:=Q } (yR qA ws) G:=by
 obtain ⟨t,rfl,ok,tn,h⟩:=h;have e5:(kF K sA nA 10 ⟨"_law_all_parts", qN n⟩).fn[5]?=some eSrt:=rfl;have e10:(kF K sA nA 10 ⟨"_law_all_parts", qN n⟩).fn[10]?=some ⟨"_law_all_parts", qN n⟩:=rfl;have z1:=sz 1 (by decide);have t9:=ok.2;show zG (kF K sA nA 10 ⟨"_law_all_parts", qN n⟩) XN jK { nx:=fun _ G'=>Q .non G',rt:=Q } [some t.w,none,none] G;simp only[jK];refine yX ?_
 erw[zzC,zzL,zzA,z1,true_and]
 intro f0 hf0;have k00:zI [] G (put G f0 (.lst [t.w])):=zI.new hf0;have g0:(put G f0 (.lst [t.w])) f0=some (.lst ([t].map Sy.w)):=zX;generalize put G f0 (.lst [t.w])=G0 at k00 g0 ⊢
 have fin:∀ {G':Hw} {f:Addr} {ts:List Sy} {v:Option W},zI [] G G'->G' f=some (.lst (ts.map Sy.w))->(∀ x∈ts,Okp x)->ts≠[]->ts.length<=t.size->zG (kF K sA nA 10 ⟨"_law_all_parts", qN n⟩) XN (.cons (.ret (.call 5 (.cons (.var 1) .nil))) .nil) { nx:=fun _ G'=>Q .non G',rt:=Q } [some t.w,some (.ref f),v] G':=by
  intro G' f ts v kp gf hs hne hl;refine yX ?_
  erw[e5]
  refine ⟨ts.map Sy.w,seqL gf,srtb (by omega) (fun x hx=>by have:=(hs x hx).2;omega),fun r hr=>?_⟩;obtain ⟨us,eu,lu,su⟩:=zis ts;rw[eu];refine h us r _ (fun z=>?_) (by omega) (fun x hx=>hs x (su x hx)) (kp.trans (zI.new hr)) (kp.none (by simp) hr) zX;rw[z] at lu;exact hne (ZM lu.symm)
 by_cases hk:yI t=[]
 .obtain ⟨x,rfl⟩:∃ x,t=.say x:=by cases t with|say x=>exact ⟨x,rfl⟩|_=>cases hk
  refine yX ?_
  erw[]
  refine ix0 ?_;simp only[pP,yT,yY,beq_self_eq_true,Zv,zzB,if_false];exact vB (fin (v:=none) k00 g0 (by simpa using ok) (by simp) (by simp[Sy.size]))
 .have nw:(pP t==("say" : Str))=false:=by
   cases t with
   |say x=>exact absurd rfl hk
   |neg a=>exact w_ne.1
   |two k a b=>exact (pV k).1
  have ek:t.w=.tup (.str (pP t)::(yI t).map Sy.w):=by
   cases t with
   |say x=>exact absurd rfl hk
   |neg a=>rfl
   |two k a b=>rfl
  have hko:∀ k∈yI t,Okp k/\k.size<t.size:=fun k hk'=>by
   have:=ze1 ok.1 k hk';exact ⟨⟨this.1,by omega⟩,this.2.1⟩
  have hsum:tL (yI t)+1<=t.size:=by
   cases t with
   |say x=>exact absurd rfl hk
   |neg a=>simp[yI,tL,Sy.size]
   |two k a b=>simp[yI,tL,Sy.size]
  refine yX ?_
  erw[]
  refine ix0 ?_;simp only[yT,yY,nw,Zap,if_true];refine yX ?_
  erw[]
  have es:∀ {R:Q3},R (.tup ((yI t).map Sy.w)) G0->slR t.w (some 1) none G0 R:=fun q=>by rw[ek];simp only[slR,nE];exact q
  refine es (iterT ?_);generalize yI t=ks at hko hsum;refine ⟨fun i σ G'=>∃ (f:Addr) (ts:List Sy) (v:Option W),σ=[some t.w,some (.ref f),v]/\zI [] G G'/\G' f=some (.lst (ts.map Sy.w))/\(∀ x∈ts,Okp x)/\ts≠[]/\ts.length<=tL (ks.take i)+1,⟨f0,[t],none,rfl,k00,g0,by simpa using ok,by simp,by simp[tL]⟩,fun _ _ _ _ _=>trivial,?_,?_⟩
  .rintro i w σ G' hw ⟨f,ts,v,rfl,kp,gf,hs,hne,hl⟩;rw[Zp] at hw;obtain ⟨k,hki,rfl⟩:=Zq.mp hw;have hkm:=hko k (Zo hki)
   erw[]
   refine yX ?_
   erw[e10]
   refine ⟨k,rfl,hkm.1,by omega,fun us r G2 une hul hus kp2 hr gr=>?_⟩;have gf2:=k0 kp2 gf;refine gG gr ?_;refine dZ (fun w=>if ((ts.map Sy.w).any fun z=>kY z w)=true then none else some w) (yG gr) (by rw[zzM];exact sz _ (by omega)) ?_ ?_
   .intro w hw K' hK;obtain ⟨u,hu,rfl⟩:=zzP hw;simp only[hG,Zf,Zs,List.replicate,zzU,zzV,Zab,Zah,ZC]
    erw[yT,sQ,L3.inR,Zbl,if_true,gf2]
    refine ⟨⟨u.pur,cV ts,?_⟩,?_⟩
    .have:=Sy.dep u;have:=(hus u hu).2;omega
    .revert hK;cases (ts.map Sy.w).any fun z=>kY z u.w<;>simp
   .intro p hp;obtain ⟨ys,ey,yl,ym⟩:=zg6 (fun w=>if ((ts.map Sy.w).any fun z=>kY z w)=true then none else some w) (fun w x e=>by split at e<;>cases e;rfl) us;rw[ey]
    have hsm:tL (ks.take (i+1))=tL (ks.take i)+k.size:=by
     have hi:=(Zh.mp hki).1;have e:=(Zh.mp hki).2;rw[Zy hi,e,zcv]
    have hb:=zd5 ks i;refine addL (vU hp gf2) zX (by simp only[zzM];omega) fun r' hr'=>?_;refine vB ⟨r',ts++ys,_,rfl,((kp.trans kp2).trans (zI.new hp)).trans (zI.new hr'),by rw[zX,ZG],?_,by simp[hne],?_⟩
    .intro x hx;rcases ZD.mp hx with hx|hx
     .exact hs x hx
     .exact hus x (ym x hx)
    .rw[zzW,hsm];omega
  .rintro σ G' ⟨f,ts,v,rfl,kp,gf,hs,hne,hl⟩;rw[zzM,Zal] at hl;exact fin (v:=v) kp gf hs hne (by omega)
theorem zje {items:List W} {stab:Hw->Prop} {G1:Hw} {turn:W->Hw->(Option W->Hw->Prop)->Prop} {Q:Q3} (hs:∀ G',zI [] G1 G'->stab G') (hl:items.length<=sizeLine)
  (ht:∀ w∈items,∀ (G':Hw) (K':Option W->Hw->Prop),zI [] G1 G'->(∀ G'',zI [] G' G''->K' (some (.bl true)) G'')->turn w G' K')
  (hq:∀ p G',zI [] G1 G'->G' p=none->Q (.ref p) (put G' p (.lst (List.replicate items.length (.bl true))))):lcR items stab G1 turn Q:=by
 refine ⟨fun i acc G'=>zI [] G1 G'/\acc=List.replicate i (.bl true),⟨zI.refl,rfl⟩,?_,hl,?_,?_⟩
 .rintro i acc G' ⟨kp,rfl⟩ _;exact ⟨hs G' kp,by simp⟩
 .rintro i w acc G' hw ⟨kp,rfl⟩;exact ht w (Zo hw) G' _ kp fun G'' k''=>⟨kp.trans k'',by rw[List.replicate_succ']⟩
 .rintro acc G' ⟨kp,rfl⟩ p hp;exact hq p G' kp hp
theorem zd7:∀ {ws:List W} {w:W},sts ws=true->w∈ws->st w=true
 |x::ws,w,h,hw=>by
  simp only[sts,Zl] at h;rcases Zd.mp hw with rfl|hw
  .exact h.1
  .exact zd7 h.2 hw
theorem zcn:∀ {ws:List W} {z:W},z∈List.zipWith (fun a b=>W.tup [a,b]) ws ws->∃ w∈ws,z=.tup [w,w]
 |x::ws,z,h=>by
  rw[List.zipWith_cons_cons] at h;rcases Zd.mp h with rfl|h
  .exact ⟨x,zzT,rfl⟩
  .obtain ⟨w,hw,e⟩:=zcn h;exact ⟨w,Zc _ hw,e⟩
theorem zh0 {G:Hw} {a b:Bool}:eqG G (.bl a) (.bl b)=some (a==b):=by simp[eqG,pur,dep,kY]
theorem isj2 {x:W} {T':String} {b:Bool} {G:Hw} {Q:Q3} (h1:tyO G x=some T') (h2:PySem.W.kitAny K (.type T') [.type "list", .type "tuple"]=some b) (h:Q (.bl b) G):isjS K [x,.tup [.ty "list", .ty "tuple"]] G Q:=⟨T',b,["list", "tuple"],h1,rfl,h2,h⟩
theorem isj1 {x:W} {T' T:String} {b:Bool} {G:Hw} {Q:Q3} (h1:tyO G x=some T') (h2:PySem.W.kitOne K (.type T') (.type T)=some b) (h:Q (.bl b) G):isjS K [x,.ty T] G Q:=⟨T',b,h1,h2,h⟩
theorem zfQ {n:Nat} {ws:List W} {G:Hw} {Q:Q3} (h:wW (n+1) ws G Q XN):zG (kF K sA nA 38 ⟨"_law_alike", wW n⟩) XN vK { nx:=fun _ G'=>Q .non G',rt:=Q } (yR sR ws) G:=by
 obtain ⟨w,rfl,⟨hs,hd⟩,h⟩:=h;have e1:(kF K sA nA 38 ⟨"_law_alike", wW n⟩).fn[1]?=some hX:=rfl;have e2:(kF K sA nA 38 ⟨"_law_alike", wW n⟩).fn[2]?=some eAll:=rfl;have e4:(kF K sA nA 38 ⟨"_law_alike", wW n⟩).fn[4]?=some (eIsj K):=rfl;have e38:(kF K sA nA 38 ⟨"_law_alike", wW n⟩).fn[38]?=some ⟨"_law_alike", wW n⟩:=rfl;have i1:(kF K sA nA 38 ⟨"_law_alike", wW n⟩).it[1]?=some eZpi:=rfl;have g13:(kF K sA nA 38 ⟨"_law_alike", wW n⟩).gl[13]?=some (("str" : Str),W.ty "str"):=rfl;have g14:(kF K sA nA 38 ⟨"_law_alike", wW n⟩).gl[14]?=some (("tuple" : Str),W.ty "tuple"):=rfl;have g15:(kF K sA nA 38 ⟨"_law_alike", wW n⟩).gl[15]?=some (("list" : Str),W.ty "list"):=rfl;have z2:=sz 2 (by decide);show zG (kF K sA nA 38 ⟨"_law_alike", wW n⟩) XN vK { nx:=fun _ G'=>Q .non G',rt:=Q } [some w,some w] G;simp only[vK]
 cases w with
 |str z =>
  refine yX ?_
  erw[e4,g14,g15,zzC,zzL,zzA,Nat.reduceAdd,z2,true_and]
  refine isj2 rfl rfl ?_;simp only[qP,zzB,if_false];refine vB (yX ?_)
  erw[e4,g13]
  refine isj1 rfl rfl ?_;simp only[if_true,yT,yY,beq_self_eq_true];exact h G zI.refl
 |tup l =>
  simp only[st,Zl,decide_eq_true_eq] at hs;simp only[dep] at hd;refine yX ?_
  erw[e4,g14,g15,zzC,zzL,zzA,Nat.reduceAdd,z2,true_and]
  refine isj2 rfl rfl ?_;simp only[qP,if_true];refine yX ?_
  erw[e4,g14,g15]
  refine isj1 rfl rfl (isj1 rfl rfl ?_);simp only[yT,zh0,beq_self_eq_true,Zv,zzB,if_false];refine isj1 rfl rfl (isj1 rfl rfl ?_);simp only[zh0,beq_self_eq_true,Zv,zzB,if_false];refine vB (yX ?_)
  erw[e1,e2,i1,qF,kZ,yT,yF,decide_true,if_true]
  refine ⟨l,l,rfl,rfl,?_⟩;refine zje (fun _ _=>⟨rfl,rfl⟩) (by rw[Zay,ZbY];exact sz _ (by omega)) (fun w hw G' K' kp hK=>?_) (fun p G' kp hp=>?_)
  .obtain ⟨v,hv,rfl⟩:=zcn hw;simp only[hG,Zf,Zs,List.replicate,zzV,ZC]
   erw[e38,if_true]
   exact ⟨v,rfl,⟨zd7 hs.2 hv,by have:=zc4 hv;omega⟩,fun G'' k''=>hK G'' k''⟩
  .simp only[allS];refine ⟨List.replicate (List.zipWith (fun a b=>W.tup [a,b]) l l).length true,yG (by rw[zX,List.map_replicate]),?_⟩
   have:(List.replicate (List.zipWith (fun a b=>W.tup [a,b]) l l).length true).all id=true:=by
    rw[ZL];intro x hx;exact (List.mem_replicate.mp hx).2
   rw[this];exact h _ (kp.trans (zI.new hp))
 |_=>cases hs
end
end K29
set_option maxHeartbeats 2000000
namespace K29
open PySem PySem.Spec PyProof.Rows L2 L3
theorem zdP {l:List Nat} {ts:List Tk} (h:wd (ex l)=ts.map c):wd (ex (40::(l++[41])))=(.lp::(ts++[.rp])).map c:=by
 have e:ex (40::(l++[41]))=[]++32::([40]++32::(ex l++32::([41]++32::[]))):=by
  rw[show (40::(l++[41]):List Nat)=[40]++(l++[41]) from rfl,vZ,vZ];rfl
 rw[e,qQ,qQ,qQ,qQ,h,show wd [40]=[[40]] from rfl,show wd [41]=[[41]] from rfl,show wd []=[] from rfl,zzU,ZG,c_lp,zzU,c_rp];rfl
theorem zig {l:List Nat} {ts:List Tk} (h:wd (ex l)=ts.map c):wd (ex (32::l))=ts.map c:=by rw[zg8,zdU];exact h
theorem zdQ {l:List Nat} {ts:List Tk} (h:wd (ex l)=ts.map c):wd (ex (l++[32]))=ts.map c:=by
 rw[vZ,show ex [32]=List.replicate 1 32 from rfl,zj7];exact h
def plain (l:List Nat):Prop:=∀ k∈l,k=32\/k=40\/k=41\/(97<=k/\k<=122)
theorem xF {a b:List Nat} (h:plain a) (h':plain b):plain (a++b):=fun k hk=>(ZD.mp hk).elim (h k) (h' k)
theorem zbQ {n:Nat} {a:Sy} {l:List Nat} (h:plain l):plain (b2 n a l):=by
 unfold b2
 split
 .intro k hk;rcases Zd.mp hk with rfl|hk
  .simp
  .exact xF h (by intro j hj;simp at hj;simp[hj]) k hk
 .exact h
theorem mM {l:List Nat} (h:∀ k∈l,bM k=true):plain l:=fun k hk=>by
 have:=h k hk;simp only[bM,Zl,decide_eq_true_eq] at this;exact .inr (.inr (.inr this))
theorem zgt (k:Nat):plain (jc k):=by
 refine mM ?_
 match k with
 | 0=>show ∀ j∈("and" : Str).cps.toList,bM j=true;decide +kernel
 | 1=>show ∀ j∈("or" : Str).cps.toList,bM j=true;decide +kernel
 |k+2=>show ∀ j∈("then" : Str).cps.toList,bM j=true;decide +kernel
theorem tF:∀ t:Sy,t.ok->plain (s2 t)
 | .say x,h=>by
  have h:fB x=true:=h;simp only[fB,Zl,xM,ZL] at h;exact mM h.2
 | .neg a,h=>by
  show plain (nc++32::b2 4 a (s2 a));refine xF (mM (by simp[nc,bM])) fun k hk=>?_;rcases Zd.mp hk with rfl|hk
  .simp
  .exact zbQ (tF a h) k hk
 | .two k a b,h=>by
  show plain (b2 (lA k) a (s2 a)++32::(jc k++32::b2 (lB k) b (s2 b)));refine xF (zbQ (tF a h.1)) fun j hj=>?_;rcases Zd.mp hj with rfl|hj
  .simp
  .refine xF (zgt k) (fun j hj=>?_) j hj;rcases Zd.mp hj with rfl|hj
   .simp
   .exact zbQ (tF b h.2) j hj
theorem zcF {l:List Nat} (h:plain l):123∉l/\125∉l/\10∉l:=⟨fun z=>by have:=h _ z;omega,fun z=>by have:=h _ z;omega,fun z=>by have:=h _ z;omega⟩
theorem zeV {x:Str} {t:Sy} {b:Bool} {tk:List Tk} (ht:Tn t b tk) (hl:tk.length<=300) (len:x.length<=2000) (p:plain x.cps.toList) (h:wd (ex x.cps.toList)=tk.map c):Lo x t :=
 ⟨⟨b,tk,ht,hl,by rw[zlh (zcF p).2.2];exact h⟩,len,zcF p⟩
theorem zls {t:Sy} (o:Okp t):Lo (sh t) t:=by
 refine zeV (zdZ t) (Ze (dP t) (Ze (Zai 5 o.2) (by decide))) (Ze (vA t o.1) (Ze (Zai 12 o.2) (by decide))) (by rw[pK];exact tF t o.1) ?_;rw[pK];exact zdS t o.1
def lway (t:Sy):List Str:=[sh t, " " ++ sh t,sh t ++ "  ", "(" ++ sh t ++ ")", "( ( " ++ sh t ++ ") )"]
theorem c1s:(" " : Str).cps.toList=[32]:=by decide +kernel
theorem c2s:("  " : Str).cps.toList=[32,32]:=by decide +kernel
theorem cl:("(" : Str).cps.toList=[40]:=by decide +kernel
theorem cr:(")" : Str).cps.toList=[41]:=by decide +kernel
theorem cll:("( ( " : Str).cps.toList=[40,32,40,32]:=by decide +kernel
theorem crr:(") )" : Str).cps.toList=[41,32,41]:=by decide +kernel
theorem qZ {a b:Str} {m n:Nat} (ha:a.length<=m) (hb:b.length<=n):(a++b).length<=m+n:=by rw[Zn];exact ZaB ha hb
theorem qC {a b:Str} {m n:Nat} {G:Hw} {Q:Q3} (ha:a.length<=m) (hb:b.length<=n) (hk:m+n<=100000) (q:(a++b).length<=m+n->Q (.str (a++b)) G):vX .Add (.str a) (.str b) G Q:=addS (Ze (ZaB ha hb) hk) (q (qZ ha hb))
theorem lit {a:Str} {n:Nat} (h:a.length=n):a.length<=n:=ZaI h
theorem zbS {l:List Tk} {n:Nat} (h:l.length<=n):(Tk.lp::(l++[Tk.rp])).length<=n+2:=by simp;omega
theorem l_sp:(" " : Str).length=1:=by decide +kernel
theorem l_ss:("  " : Str).length=2:=by decide +kernel
theorem l_pp:("( ( " : Str).length=4:=by decide +kernel
theorem l_qq:(") )" : Str).length=3:=by decide +kernel
theorem shl {t:Sy} (o:Okp t):(sh t).length<=108:=Ze (vA t o.1) (Zai 12 o.2)
theorem pJ {l:List Nat} (h:∀ k∈l,k=32\/k=40\/k=41):plain l:=fun k hk=>(h k hk).elim .inl fun z=>z.elim (fun z=>.inr (.inl z)) fun z=>.inr (.inr (.inl z))
theorem zja {t:Sy} (o:Okp t):∀ x∈lway t,Lo x t:=by
 have h1:(tw t).length<=45:=Ze (dP t) (Zai 5 o.2);have h2:=shl o;have p:=tF t o.1;have w:=zdS t o.1;have p1:plain [32]:=pJ (by simp);have w2:=zdP (zig w);intro x hx;simp only[lway,Zd,ZB,or_false] at hx;rcases hx with rfl|rfl|rfl|rfl|rfl
 .exact zls o
 .have e:(" " ++ sh t).cps.toList=32::s2 t:=by rw[sK,c1s,pK];rfl
  exact zeV (zdZ t) (Ze h1 (by decide)) (Ze (qZ (lit l_sp) h2) (by decide)) (by rw[e];exact xF (a:=[32]) p1 p) (by rw[e];exact zig w)
 .have e:(sh t ++ "  ").cps.toList=(s2 t++[32])++[32]:=by rw[sK,c2s,pK,ZZ];rfl
  exact zeV (zdZ t) (Ze h1 (by decide)) (Ze (qZ h2 (lit l_ss)) (by decide)) (by rw[e];exact xF (xF p p1) p1) (by rw[e];exact zdQ (zdQ w))
 .have e:("(" ++ sh t ++ ")").cps.toList=40::(s2 t++[41]):=by rw[sK,sK,cl,cr,pK];rfl
  exact zeV (.par (zdZ t)) (Ze (zbS h1) (by decide)) (Ze (qZ (qZ (lit l_p) h2) (lit l_q)) (by decide)) (by rw[e];exact xF (a:=[40]) (pJ (by simp)) (xF p (pJ (by simp)))) (by rw[e];exact zdP w)
 .have e':("( ( " ++ sh t ++ ") )").cps.toList=[40,32,40,32]++(s2 t++[41,32,41]):=by rw[sK,sK,cll,crr,pK,ZZ]
  have e:("( ( " ++ sh t ++ ") )").cps.toList=40::((32::((40::((32::s2 t)++[41]))++[32]))++[41]):=by rw[e'];simp
  exact zeV (.par (.par (zdZ t))) (Ze (zbS (zbS h1)) (by decide)) (Ze (qZ (qZ (lit l_pp) h2) (lit l_qq)) (by decide)) (by rw[e'];exact xF (pJ (by simp)) (xF p (pJ (by simp)))) (by rw[e];exact zdP (zig (zdQ w2)))
structure Fk (G0 G:Hw) (d l:Addr) (fs:List (Addr×O)):Prop where
 dl:wQ G d l
 kp:zI [d,l] G0 G
 ob:∀ f∈fs,G f.1=some f.2/\f.1∉[d,l]/\G0 f.1=none
section
variable {G0 G G':Hw} {d l:Addr} {fs:List (Addr×O)} {Q:Q3}
theorem Fk.draw (F:Fk G0 G d l fs) (k:zI [d,l] G G') (D:wQ G' d l):Fk G0 G' d l fs:=⟨D,F.kp.trans k,fun f hf=>⟨k _ _ (F.ob f hf).2.1 (F.ob f hf).1,(F.ob f hf).2⟩⟩
theorem Fk.keep (F:Fk G0 G d l fs) (k:zI [] G G'):Fk G0 G' d l fs:=F.draw (gI k) (zb8 k F.dl)
theorem Fk.new {p:Addr} {o:O} (F:Fk G0 G d l fs) (h:G p=none):Fk G0 (put G p o) d l ((p,o)::fs):=⟨qE h F.dl,F.kp.trans (zI.new h),fun f hf=>by
 rcases Zd.mp hf with rfl|hf
 .exact ⟨zX,tD F.dl h,F.kp.none (tD F.dl h) h⟩
 .exact ⟨vU h (F.ob f hf).1,(F.ob f hf).2⟩⟩
theorem Fk.add {p:Addr} {o:O} (F:Fk G0 G d l fs) (k:zI [] G G') (h:G p=none) (e:G' p=some o):Fk G0 G' d l ((p,o)::fs):=⟨zb8 k F.dl,F.kp.trans (gI k),fun f hf=>by
 rcases Zd.mp hf with rfl|hf
 .exact ⟨e,tD F.dl h,F.kp.none (tD F.dl h) h⟩
 .exact ⟨k0 k (F.ob f hf).1,(F.ob f hf).2⟩⟩
theorem Fk.chg {p:Addr} {o o':O} (F:Fk G0 G d l ((p,o)::fs)) (ne:∀ f∈fs,f.1≠p):Fk G0 (put G p o') d l ((p,o')::fs):=⟨zb7 (F.ob _ zzT).2.1 F.dl,kR F.kp (F.ob _ zzT).2.2,fun f hf=>by
 rcases Zd.mp hf with rfl|hf
 .exact ⟨zX,(F.ob _ zzT).2⟩
 .rw[yH (ne f hf)];exact F.ob f (Zc _ hf)⟩
theorem Fk.sub {gs:List (Addr×O)} (F:Fk G0 G d l fs) (h:∀ f∈gs,f∈fs):Fk G0 G d l gs:=⟨F.dl,F.kp,fun f hf=>F.ob f (h f hf)⟩
theorem Fk.a0 {p:Addr} {o:O} (F:Fk G0 G d l ((p,o)::fs)):G p=some o:=(F.ob _ zzT).1
theorem Fk.a1 {p:Addr} {o:O} {f:Addr×O} (F:Fk G0 G d l (f::(p,o)::fs)):G p=some o:=(F.ob _ (Zc _ zzT)).1
end
theorem zb4 {Γ:Ctx3} {σ:qV} {G:Hw} {D:End3} {p:Addr} {ws:List W} {i:Nat} {e:IE} (t2:Γ.mt[2]?=some hV) (s:σ[i]?=some (some (.ref p))) (g:G p=some (.lst ws)) (h:zU Γ XN e σ G fun y G1=>fO (.ref p) [y] G1 fun _ G2=>D.nx σ G2):zT Γ XN (.ex (.mth 2 (.var i) (.cons e .nil))) D σ G:=by
 dsimp only[zT,zU,zH,zF,zW];rw[s,t2];exact ⟨tyL g,h⟩
theorem at_sy {xs:List Sy} {i:Int} (h0:0<=i) (h1:i<xs.length):∃ x∈xs,pS (xs.map Sy.w) i=some x.w:=by
 have hi:i.toNat<xs.length:=by omega
 refine ⟨xs[i.toNat],Zak hi,?_⟩;unfold pS ixN;rw[if_pos h0,zzM,if_pos h1];show (xs.map Sy.w)[i.toNat]?=_;rw[Zp,Zj hi];rfl
theorem pick {G0 G:Hw} {d l sm:Addr} {fs:List (Addr×O)} {ps:List Sy} {Q:Q3} (F:Fk G0 G d l fs) (g:(sm,O.lst (ps.map Sy.w))∈fs) (ne:ps≠[]) (h9:ps.length<=9) (q:∀ x∈ps,∀ G',Fk G0 G' d l fs->Q x.w G') :
  qF [.ref sm] G fun m G1=>zcx [.ref d,m] G1 (fun y G2=>jU (.ref sm) y G2 Q) XN:=by
 have hp:=List.length_pos_iff.mpr ne;simp only[qF,kZ,(F.ob _ g).1,zzM];refine ⟨d,l,_,rfl,F.dl,by omega,fun j G2 j0 j1 k D=>?_⟩;have F2:=F.draw k D;obtain ⟨x,hx,ex⟩:=at_sy j0 j1;refine gH (yG (F2.ob _ g).1) ?_;rw[ex];exact q x hx G2 F2
section
variable {K:yJ} {sA nA:Addr}
theorem zea {n:Nat} (hn:12<=n) {ws:List W} {G:Hw} {Q:Q3} (h:fJ ws G Q XN):zG (yV K sA nA n) XN vM { nx:=fun _ G'=>Q .non G',rt:=Q } (yR sU ws) G:=by
 obtain ⟨d,l,t,rfl,D,ok,h⟩:=h;have e1:(yV K sA nA n).fn[1]?=some hX:=qL 1 hn rfl;have e7:(yV K sA nA n).fn[7]?=some zdE:=qL 7 hn rfl;have e10:(yV K sA nA n).fn[10]?=some ⟨"_law_all_parts", qN 10⟩:=qL 10 hn rfl;have e11:(yV K sA nA n).fn[11]?=some ⟨"_law_words", fK⟩:=qL 11 hn rfl;have t2:(yV K sA nA n).mt[2]?=some hV:=rfl;have z1:=sz 1 (by decide);have z2:=sz 2 (by decide);have z3:=sz 3 (by decide);have t9:=ok.2;have F0:Fk G G d l []:=⟨D,zI.refl,(fun f hf=>nomatch hf)⟩;show zG (yV K sA nA n) XN vM { nx:=fun _ G'=>Q .non G',rt:=Q } [some (.ref d),some t.w,none,none,none,none] G;simp only[vM];refine yX ?_
 erw[e10]
 refine ⟨t,rfl,ok,Nat.lt_succ_of_le t9,fun ps sm G1 ne pl po k1 hsm gsm=>?_⟩;have F1:=F0.add k1 hsm gsm;have p9:ps.length<=9:=Ze pl t9
 clear F0
 refine yX ?_
 erw[e7,e1]
 refine pick F1 zzT ne p9 fun x hx G2 F2=>⟨z2,z1,fun f hf=>?_⟩;have F3:=F2.new (o:=.lst ([yB.an1 x].map yB.w)) hf;have nf:sm≠f:=qS F2.a0 hf
 clear F1 F2
 refine yX ?_
 erw[]
 refine gG (F3.a1) ?_
 refine ⟨fun i σ G'=>∃ (f:Addr) (ss:List yB) (v4 v5:Option W),σ=[some (.ref d),some t.w,some (.ref sm),some (.ref f),v4,v5]/\(∀ x∈ss,x.ok)/\ss.length<=1+7 * i/\sm≠f/\Fk G G' d l [(f,.lst (ss.map yB.w)),(sm,.lst (ps.map Sy.w))],
  ⟨f,[.an1 x],none,none,rfl,by simpa[yB.ok] using po x hx,by simp,nf,F3⟩,?_,?_,?_⟩
 .rintro i σ G' ⟨f,ss,v4,v5,rfl,_,_,_,F⟩ _;exact yG F.a1
 .clear F3 nf hf f
  rintro i w σ G3 hw ⟨f,ss,v4,v5,rfl,sok,sl,nf,F⟩;rw[Zp] at hw;obtain ⟨p,hp,rfl⟩:=Zq.mp hw;have hi:=(Zh.mp hp).1;have pok:=po p (Zo hp)
  have dl:(sL p).length<=2:=by
   cases p with
   |say _=>simp[sL]
   |neg _=>simp[sL]
   |two k _ _=>match k with
    | 0=>simp[sL]
    | 1=>simp[sL]
    |k+2=>simp[sL]
  erw[]
  refine yX (zb4 t2 rfl F.a0 ?_)
  erw[e7,e1]
  refine ⟨z2,pick F (by simp) ne p9 fun x hx G4 F4=>⟨z3,fN F4.a0 (by rw[zzM];omega) ?_⟩⟩;have F5:=F4.chg (o':=.lst ((ss++[yB.an "begin" p x]).map yB.w)) (by intro z hz;simp at hz;rw[hz];exact nf)
  have ok5:∀ z∈ss++[yB.an "begin" p x],z.ok:=fun z hz=>by
   rcases ZD.mp hz with hz|hz
   .exact sok z hz
   .rw[zzO hz];exact ⟨pok,po x hx,.inl rfl⟩
  have l5:(ss++[yB.an "begin" p x]).length<=2+7 * i:=by simp;omega
  rw[ZG] at F5;show zG _ _ _ _ _ (put G4 f (.lst (ss.map yB.w++[yB.an "begin" p x].map yB.w)));generalize put G4 f (.lst (ss.map yB.w++[yB.an "begin" p x].map yB.w))=G5 at F5 ⊢;rw[← ZG] at F5;generalize ss++[yB.an "begin" p x]=ss at F5 ok5 l5
  clear F F4
  refine yX ?_
  erw[e11]
  refine ⟨p,rfl,fun wr G6 k6 hwr gwr=>?_⟩;have F6:=(F5.add k6 hwr gwr).sub (gs:=[(f,.lst (ss.map yB.w)),(sm,.lst (ps.map Sy.w)),(wr,.lst ((sL p).map .str))]) (by intro z hz;simp at hz ⊢;rcases hz with h|h|h<;>simp[h]);have nwf:wr≠f:=(qS F5.a0 hwr).symm;have nws:wr≠sm:=(qS F5.a1 hwr).symm
  clear F5
  refine gG gwr ?_
  refine ⟨fun j σ G'=>∃ (f:Addr) (ss:List yB) (v5:Option W),σ=[some (.ref d),some t.w,some (.ref sm),some (.ref f),some p.w,v5]/\(∀ x∈ss,x.ok)/\ss.length<=2+7 * i+3 * j/\sm≠f/\wr≠f/\Fk G G' d l [(f,.lst (ss.map yB.w)),(sm,.lst (ps.map Sy.w)),(wr,.lst ((sL p).map .str))],
   ⟨f,ss,v5,rfl,ok5,l5,nf,nwf,F6⟩,?_,?_,?_⟩
  .rintro j σ G' ⟨f,ss,v5,rfl,_,_,_,_,F⟩ _;exact yG (F.ob (wr,.lst ((sL p).map .str)) (by simp)).1
  .clear F6 nwf nf ok5 l5
   rintro j w' σ G7 hw' ⟨f,ss,v5',rfl,sok,sl,nf,nwf,F⟩;rw[Zp] at hw';obtain ⟨w,hwm,rfl⟩:=Zq.mp hw';have hj:=(Zh.mp hwm).1;have wm:=Zo hwm
   erw[]
   refine yX ?_
   erw[]
   refine ⟨z2,z3,z2,fun q hq=>?_⟩;have F8:=F.new (o:=.lst ([yB.db w,yB.dt w p].map yB.w)) hq;refine addL F8.a1 F8.a0 (by simp only[zzM,Zf,Zs];omega) fun f' hf'=>?_;have F9:=F8.new (o:=.lst (ss.map yB.w++[yB.db w,yB.dt w p].map yB.w)) hf';have nf':sm≠f':=qS (F8.ob (sm,.lst (ps.map Sy.w)) (by simp)).1 hf';have nwf':wr≠f':=qS (F8.ob (wr,.lst ((sL p).map .str)) (by simp)).1 hf';replace F9:=F9.sub (gs:=[(f',.lst (ss.map yB.w++[yB.db w,yB.dt w p].map yB.w)),(sm,.lst (ps.map Sy.w)),(wr,.lst ((sL p).map .str))]) (by intro z hz;simp at hz ⊢;rcases hz with h|h|h<;>simp[h]);rw[← ZG] at F9;show zG _ _ _ _ _ (put (put G7 q (.lst ([yB.db w,yB.dt w p].map yB.w))) f' (.lst (ss.map yB.w++[yB.db w,yB.dt w p].map yB.w)));rw[← ZG];generalize put (put G7 q (.lst ([yB.db w,yB.dt w p].map yB.w))) f' (.lst ((ss++[yB.db w,yB.dt w p]).map yB.w))=G9 at F9 ⊢
   have ok9:∀ z∈ss++[yB.db w,yB.dt w p],z.ok:=fun z hz=>by
    rcases ZD.mp hz with hz|hz
    .exact sok z hz
    .simp at hz;rcases hz with rfl|rfl
     .exact ⟨p,wm⟩
     .exact ⟨pok,wm⟩
   have l9:(ss++[yB.db w,yB.dt w p]).length<=4+7 * i+3 * j:=by simp;omega
   generalize ss++[yB.db w,yB.dt w p]=ss at F9 ok9 l9
   clear F F8
   refine yX (zb4 t2 rfl F9.a0 ?_)
   erw[e7,e1]
   refine ⟨z2,pick F9 (by simp) ne p9 fun x hx GA FA=>⟨z3,fN FA.a0 (by rw[zzM];omega) ?_⟩⟩;have FB:=FA.chg (o':=.lst (ss.map yB.w++[yB.an w p x].map yB.w)) (by intro z hz;simp at hz;rcases hz with h|h<;>rw[h]<;>assumption);refine vB ⟨f',ss++[yB.an w p x],_,rfl,fun z hz=>?_,by simp;omega,nf',nwf',by rw[ZG];exact FB⟩;rcases ZD.mp hz with hz|hz
   .exact ok9 z hz
   .rw[zzO hz];exact ⟨pok,po x hx,.inr wm⟩
  .rintro σ G7 ⟨f,ss,v5',rfl,sok,sl,nf,nwf,F⟩;rw[zzM] at sl;exact ⟨f,ss,_,_,rfl,sok,by omega,nf,F.sub (by intro z hz;simp at hz ⊢;rcases hz with h|h<;>simp[h])⟩
 .rintro σ G' ⟨f,ss,v4,v5,rfl,sok,sl,_,F⟩;refine yX ?_
  erw[]
  exact h ss f G' sok F.kp F.dl (F.ob _ zzT).2.1 F.a0
end
end K29
set_option maxHeartbeats 2000000
namespace K29
open PySem PySem.Spec PyProof.Rows L2 L3
theorem oks {t:Sy} (o:Okp t):t.size<=40:=Ze o.2 (by decide)
theorem brl (x:Str):(brc x).length=x.length+2:=by
 show ("{" ++ x ++ "}" : Str).length=_;rw[Zn,Zn,show ("{" : Str).length=1 from by decide +kernel,show ("}" : Str).length=1 from by decide +kernel];omega
theorem zfu {w:Str} {p:Sy} (h:w∈sL p):w∈rpL:=by
 cases p with
 |say _=>cases h
 |neg _=>rw[zzO h];simp[rpL]
 |two k _ _=>match k with
  | 0=>simp[sL] at h;rcases h with rfl|rfl<;>simp[rpL]
  | 1=>rw[zzO h];simp[rpL]
  |k+2=>rw[zzO h];simp[rpL]
theorem ziz:∀ w∈("begin" :: rpL:List Str),w.length<=5:=by decide +kernel
theorem wlen {w:Str} {p:Sy} (h:w = "begin" \/ w∈sL p):w.length<=5:=ziz w (by
 rcases h with rfl|h
 .exact zzT
 .exact Zc _ (zfu h))
theorem brb {x:Str} {n:Nat} (h:x.length<=n):(brc x).length<=n+2:=by rw[brl];exact Nat.add_le_add_right h 2
theorem zcX:([("first" : Str), "other"].zip [W.int 3,W.int 2]).lookup ("other" : Str)=some (W.int 2):=by
 show List.lookup ("other" : Str) [("first", W.int 3),("other", W.int 2)]=_;simp[List.lookup,show (("other" : Str) == "first")=false from by decide +kernel]
theorem l_an:("answer " : Str).length=7:=by decide +kernel
theorem l_do:("doubt " : Str).length=6:=by decide +kernel
theorem l_wi:(" with " : Str).length=6:=by decide +kernel
theorem l_ob:("{" : Str).length=1:=by decide +kernel
theorem l_cb:("}" : Str).length=1:=by decide +kernel
theorem da:(("doubt" : Str) == "answer")=false:=by decide +kernel
theorem gU (a b c:Str):a++b++c=a++(b++c):=Str.append_assoc a b c
theorem zgd (a:Str):a++Str.empty=a:=Str.append_empty a
section
variable {K:yJ} {sA nA:Addr}
theorem zdG {n:Nat} (hn:19<=n) {ws:List W} {G:Hw} {Q:Q3} (h:pL ws G Q XN):zG (yV K sA nA n) XN uF { nx:=fun _ G'=>Q .non G',rt:=Q } (yR rC ws) G:=by
 obtain ⟨t,rfl,ok,h⟩:=h;have e18:(yV K sA nA n).fn[18]?=some ⟨"show_saying", mT⟩:=qL 18 hn rfl;have l1:=shl ok;show zG (yV K sA nA n) XN uF { nx:=fun _ G'=>Q .non G',rt:=Q } [some t.w] G;simp only[uF];refine yX ?_
 erw[e18]
 exact ⟨t,rfl,ok.1,oks ok,fun G' k=>qC (lit l_ob) l1 (by decide) fun y=>qC y (lit l_cb) (by decide) fun _=>h G' k⟩
theorem zel {n:Nat} (hn:20<=n) {ws:List W} {G:Hw} {Q:Q3} (h:fI ws G Q XN):zG (yV K sA nA n) XN uI { nx:=fun _ G'=>Q .non G',rt:=Q } (yR rF ws) G:=by
 obtain ⟨s,rfl,ok,h⟩:=h;have e1:(yV K sA nA n).fn[1]?=some hX:=qL 1 hn rfl;have e19:(yV K sA nA n).fn[19]?=some ⟨"in_braces", pL⟩:=qL 19 hn rfl;have g12:(yV K sA nA n).gl[12]?=some (("LENGTHS" : Str),.dcf ["first", "other"] [.int 3,.int 2]):=rfl;have x10:(yV K sA nA n).sx[10]?=some ⟨tQ [some "doubt ", none],fP [some "doubt ", none]⟩:=rfl;have x11:(yV K sA nA n).sx[11]?=some ⟨tQ [some "doubt ", none,some " "],fP [some "doubt ", none,some " "]⟩:=rfl;have x12:(yV K sA nA n).sx[12]?=some ⟨tQ [some "answer ", none,some " "],fP [some "answer ", none,some " "]⟩:=rfl;show zG (yV K sA nA n) XN uI { nx:=fun _ G'=>Q .non G',rt:=Q } [some s.w,none,none] G;simp only[uI];refine yX ?_
 cases s with
 |an1 t =>
  have ok:Okp t:=ok;have l1:=shl ok
  erw[yB.w,jU,xU,yT,yY,beq_self_eq_true,if_true]
  refine yX ?_
  erw[e1,g12,qF,kZ,jU,zcX,yT,yF,zzC,zzL,zzA,Nat.reduceAdd]
  rw[if_pos (by decide)];refine yX ?_
  erw[e19,jU,gY]
  exact ⟨t,rfl,ok,fun G' k=>qC (lit l_an) (brb l1) (by decide) fun _=>h G' k⟩
 |an w p t =>
  obtain ⟨o1,o2,hw⟩:=(ok:Okp p/\Okp t/\(w = "begin" \/ w∈sL p));have l1:=shl o1;have l2:=shl o2;have l3:=wlen hw
  erw[yB.w,jU,xU,yT,yY,beq_self_eq_true,if_true]
  refine yX ?_
  erw[e1,g12,qF,kZ,jU,zcX,yT,yF,zzC,zzL,zzA,Nat.reduceAdd]
  rw[if_neg (by decide)];refine vB (yX ?_)
  erw[jU,gY]
  show zG (yV K sA nA n) XN _ _ [some (.tup [.str "answer", .tup [.str w,p.w],t.w]),some (.str w),some p.w] G;refine yX ?_
  erw[x12,e19,jU,at_2]
  have f1:kQ [some "answer ", none,some " "] [w] = "answer " ++ w ++ " " := by simp only[kQ,zgd,gU]
  have l4:("answer " ++ w ++ " ").length<=13:=qZ (qZ (lit l_an) l3) (lit l_sp);refine ⟨[w],rfl,by rw[f1];exact Ze l4 (by decide),?_⟩;rw[f1];refine ⟨p,rfl,o1,fun G1 k1=>qC l4 (brb l1) (by decide) fun y=>qC y (lit l_wi) (by decide) fun y=>⟨t,rfl,o2,fun G2 k2=>qC y (brb l2) (by decide) fun _=>h G2 (k1.trans k2)⟩⟩
 |db w =>
  obtain ⟨p,hw⟩:=(ok:∃ p,w∈sL p);have l3:=wlen (.inr hw)
  erw[yB.w,jU,xU,yT,yY,da,if_false,zzB]
  refine vB (yX ?_)
  erw[e1,g12,qF,kZ,jU,zcX,yT,yF,zzC,zzL,zzA,Nat.reduceAdd]
  rw[if_pos (by decide)];refine yX ?_
  erw[x10,jU,gY]
  have f1:kQ [some "doubt ", none] [w] = "doubt " ++ w:=by simp only[kQ,zgd]
  refine ⟨[w],rfl,by rw[f1];exact Ze (qZ (lit l_do) l3) (by decide),?_⟩;rw[f1];exact h G zI.refl
 |dt w p =>
  obtain ⟨o1,hw⟩:=(ok:Okp p/\w∈sL p);have l1:=shl o1;have l3:=wlen (.inr hw)
  erw[yB.w,jU,xU,yT,yY,da,if_false,zzB]
  refine vB (yX ?_)
  erw[e1,g12,qF,kZ,jU,zcX,yT,yF,zzC,zzL,zzA,Nat.reduceAdd]
  rw[if_neg (by decide)];refine vB (yX ?_)
  erw[x11,e19,jU,gY,at_2]
  have f1:kQ [some "doubt ", none,some " "] [w] = "doubt " ++ w ++ " " := by simp only[kQ,zgd,gU]
  have l4:("doubt " ++ w ++ " ").length<=12:=qZ (qZ (lit l_do) l3) (lit l_sp);refine ⟨[w],rfl,by rw[f1];exact Ze l4 (by decide),?_⟩;rw[f1];exact ⟨p,rfl,o1,fun G1 k1=>qC l4 (brb l1) (by decide) fun _=>h G1 k1⟩
theorem zeS {n:Nat} (hn:19<=n) {ws:List W} {G:Hw} {Q:Q3} (h:fE ws G Q XN):zG (yV K sA nA n) XN vL { nx:=fun _ G'=>Q .non G',rt:=Q } (yR sS ws) G:=by
 obtain ⟨d,l,t,rfl,D,ok,h⟩:=h;have e18:(yV K sA nA n).fn[18]?=some ⟨"show_saying", mT⟩:=qL 18 hn rfl;have e7:(yV K sA nA n).fn[7]?=some zdE:=qL 7 hn rfl;have l1:=shl ok;have z5:=sz 5 (by decide);show zG (yV K sA nA n) XN vL { nx:=fun _ G'=>Q .non G',rt:=Q } [some (.ref d),some t.w,none,none] G;simp only[vL];refine yX ?_
 erw[e18]
 refine ⟨t,rfl,ok.1,oks ok,fun G1 k1=>yX ?_⟩
 erw[e7]
 refine ⟨d,l,5,rfl,zb8 k1 D,by decide,fun i G2 i0 i1 k2 D2=>yX ?_⟩
 erw[]
 refine qC (lit l_sp) l1 (by decide) fun _=>qC l1 (lit l_ss) (by decide) fun _=>qC (lit l_p) l1 (by decide) fun y=>qC y (lit l_q) (by decide) fun _=>qC (lit l_pp) l1 (by decide) fun y=>qC y (lit l_qq) (by decide) fun _=>⟨z5,fun p hp=>?_⟩;obtain ⟨x,hx,ex⟩:=zd9 (xs:=lway t) i0 i1;refine gH (yG (xs:=(lway t).map .str) zX) ?_;rw[ex];exact h x _ (zja ok x hx) (((gI k1).trans k2).trans (zI.new hp)) (qE hp D2)
end
end K29
set_option maxHeartbeats 2000000
namespace K29
open PySem PySem.Spec PyProof.Rows L2 L3
theorem fA:∀ {xs:List Str} {ts:List Sy},Los xs ts->xs.length=ts.length
 | [],[],_=>rfl
 |_::xs,_::ts,h=>by rw[Zf,Zf,fA h.2]
theorem zhO:∀ {xs:List Str} {ts:List Sy},Los xs ts->∀ x∈xs,x.length<=2000
 |y::xs,_::ts,h,x,hx=>by
  rcases Zd.mp hx with rfl|hx
  .exact h.1.len
  .exact zhO h.2 x hx
theorem zcP:∀ {xs:List Str} {ts:List Sy} {x:Str} {t:Sy},Los xs ts->Lo x t->Los (xs++[x]) (ts++[t])
 | [],[],_,_,_,l=>⟨l,trivial⟩
 |_::xs,_::ts,_,_,h,l=>⟨h.1,zcP h.2 l⟩
theorem zeR:∀ {ts:List Sy},(∀ t∈ts,Okp t)->Los (ts.map sh) ts
 | [],_=>trivial
 |t::ts,h=>⟨zls (h t zzT),zeR fun x hx=>h x (Zc _ hx)⟩
theorem zkq {s:yB} (h:s.ok):(∀ t∈s.sy,Okp t)/\s.sy.length<=2:=by
 cases s with
 |an1 t=>exact ⟨by intro x hx;rw[zzO hx];exact h,by simp[yB.sy]⟩
 |an w p t =>
  refine ⟨fun x hx=>?_,by simp[yB.sy]⟩;rcases Zd.mp hx with e|e
  .rw[e];exact h.1
  .rw[zzO e];exact h.2.1
 |db w=>exact ⟨(fun x hx=>nomatch hx),by simp[yB.sy]⟩
 |dt w p=>exact ⟨by intro x hx;rw[zzO hx];exact h.1,by simp[yB.sy]⟩
def bt (x:Str):W:=.str (brc x)
theorem jn2 (a b:Str):Txt.join " " [a,b]=a ++ " " ++ b:=by
 unfold Txt.join;rw[Zao];rfl
theorem jn3 (a b c:Str):Txt.join " " [a,b,c]=a ++ " " ++ b ++ " " ++ c:=by
 unfold Txt.join;rw[Zao,gU (a ++ " " ++ b),gU (a ++ " ")];show a ++ " " ++ (b ++ " " ++ c)=_;rw[gU b]
theorem d_sp:("doubt" : Str) ++ " " = "doubt " := by decide +kernel
theorem ixT {l:List W} {i:Int} {w:W} {G:Hw} {Q:Q3} (e:pS l i=some w) (h:Q w G):jU (.tup l) (.int i) G Q:=by
 simp only[jU,e];exact h
section
variable {K:yJ} {sA nA:Addr}
theorem zhr {n:Nat} (hn:22<=n) {s:yB} {d:Addr} {b:Bool} {G:Hw} {D:End3} (h:∀ r,G r=none->∀ G',zI [] G G'->G' r=some (.lst (s.sy.map Sy.w))->zG (yV K sA nA n) XN (tls (tls wR)) D [some (.ref d),some s.w,some (.bl b),some (.ref r)] G') :
  zG (yV K sA nA n) XN wR D [some (.ref d),some s.w,some (.bl b),none] G:=by
 have e1:(yV K sA nA n).fn[1]?=some hX:=qL 1 hn rfl;have z0:=sz 0 (by decide);have z1:=sz 1 (by decide);have z2:=sz 2 (by decide);simp only[wR] at h ⊢;refine yX ?_
 erw[Zs,z0,true_and]
 intro p hp;have k1:zI [] G (put G p (.lst [])):=zI.new hp;have gp:(put G p (.lst [])) p=some (.lst []):=zX;generalize put G p (.lst [])=G1 at k1 gp ⊢;refine yX ?_
 cases s with
 |an1 t =>
  erw[yB.w,jU,xU,yT,yY,beq_self_eq_true,if_true,e1,qF,kZ,yF,zzC,zzL,zzA,Nat.reduceAdd]
  rw[if_neg (by decide)];refine yX ?_
  erw[yB.w,jU,xU,yT,yY,beq_self_eq_true,if_true,e1,qF,kZ,yF,zzC,zzL,zzA,Nat.reduceAdd]
  rw[if_neg (by decide)];refine yX ?_
  erw[jU,xU,yT,yY,beq_self_eq_true,if_true]
  refine yX ?_
  erw[jU,gY]
  exact ⟨z1,fun r hr=>h r (k1.none (by simp) hr) _ (k1.trans (zI.new hr)) zX⟩
 |an w q t =>
  erw[yB.w,jU,xU,yT,yY,beq_self_eq_true,if_true,e1,qF,kZ,yF,zzC,zzL,zzA,Nat.reduceAdd]
  rw[if_pos (by decide)];refine yX ?_
  erw[jU,gY,at_2]
  exact ⟨z2,fun r hr=>h r (k1.none (by simp) hr) _ (k1.trans (zI.new hr)) zX⟩
 |db w =>
  erw[yB.w,jU,xU,yT,yY,da,zzB,if_false]
  refine yX ?_
  erw[e1,qF,kZ,yT,yF,zzC,zzL,zzA,Nat.reduceAdd]
  rw[if_neg (by decide)];refine yX ?_
  erw[jU,xU,yT,yY,da,zzB,if_false]
  exact h p hp G1 k1 gp
 |dt w q =>
  erw[yB.w,jU,xU,yT,yY,da,zzB,if_false]
  refine yX ?_
  erw[e1,qF,kZ,yT,yF,zzC,zzL,zzA,Nat.reduceAdd]
  rw[if_pos (by decide)];refine yX ?_
  erw[jU,at_2]
  exact ⟨z1,fun r hr=>h r (k1.none (by simp) hr) _ (k1.trans (zI.new hr)) zX⟩
theorem zhq {n:Nat} (hn:22<=n) {s:yB} {d r:Addr} {b:Bool} {G:Hw} {Q:Q3} {N:qV->Hw->Prop} {xs:List Str} (ok:s.ok) (lo:Los xs s.sy) (g:G r=some (.lst (xs.map bt))) (h:K0 (.str (s.txt xs)) G Q) :
  zG (yV K sA nA n) XN (tls (tls (tls wR))) { nx:=N,rt:=Q } [some (.ref d),some s.w,some (.bl b),some (.ref r)] G:=by
 have e1:(yV K sA nA n).fn[1]?=some hX:=qL 1 hn rfl;have t1:(yV K sA nA n).mt[1]?=some zdD:=rfl;have z2:=sz 2 (by decide);have ll:=fA lo;have le:=zhO lo;simp only[wR,tls];refine yX ?_
 cases s with
 |an1 t =>
  obtain ⟨x,rfl⟩:∃ x,xs=[x]:=ZaE.mp ll;have:=le x zzT
  erw[yB.w,jU,xU,yT,yY,beq_self_eq_true,if_true,e1,qF,kZ,yF,zzC,zzL,zzA,Nat.reduceAdd]
  rw[if_neg (by decide)];refine vB (yX ?_)
  erw[jU,xU,yT,yY,beq_self_eq_true,if_true]
  refine yX ?_
  erw[]
  refine gH (yG g) ?_;rw[zzU,xU];exact qC (lit l_an) (brb ‹x.length<=2000›) (by decide) fun _=>h G zI.refl
 |an w q t =>
  obtain ⟨x,y,rfl⟩:∃ x y,xs=[x,y]:=by match xs,ll with | [x,y],_=>exact ⟨x,y,rfl⟩
  have:=le x zzT;have:=le y (Zc _ zzT);have:=wlen ok.2.2
  erw[yB.w,jU,xU,yT,yY,beq_self_eq_true,if_true,e1,qF,kZ,yF,zzC,zzL,zzA,Nat.reduceAdd]
  rw[if_pos (by decide)];refine yX ?_
  erw[]
  refine ixT gY (ixT xU ?_);refine qC (lit l_an) ‹w.length<=5› (by decide) fun y1=>qC y1 (lit l_sp) (by decide) fun y1=>?_;refine gH (yG g) ?_;rw[zzU,xU];refine qC y1 (brb ‹x.length<=2000›) (by decide) fun y1=>qC y1 (lit l_wi) (by decide) fun y1=>?_;refine gH (yG g) ?_;rw[zzU,zzU,gY];exact qC y1 (brb ‹y.length<=2000›) (by decide) fun _=>h G zI.refl
 |db w =>
  have e:xs=[]:=ZM ll;subst e;obtain ⟨p,hw⟩:=(ok:∃ p,w∈sL p);have:=wlen (.inr hw)
  erw[yB.w,jU,xU,yT,yY,da,zzB,if_false]
  refine vB (yX ?_)
  erw[jU,xU,yT,yY,da,zzB,if_false]
  refine vB (yX ?_)
  erw[t1,jU,gY]
  refine ⟨rfl,z2,fun p hp=>?_⟩;refine addL zX (vU hp g) (by simp) fun p' hp'=>⟨["doubt", w],yG zX,zji (n:=10) ?_ (by rw[l_sp];simp),?_⟩
  .intro y hy;simp at hy;rcases hy with rfl|rfl
   .decide +kernel
   .omega
  .rw[jn2,d_sp];exact h _ ((zI.new hp).trans (zI.new hp'))
 |dt w q =>
  obtain ⟨x,rfl⟩:∃ x,xs=[x]:=ZaE.mp ll;have:=le x zzT;have:=wlen (.inr ok.2)
  erw[yB.w,jU,xU,yT,yY,da,zzB,if_false]
  refine vB (yX ?_)
  erw[jU,xU,yT,yY,da,zzB,if_false]
  refine vB (yX ?_)
  erw[t1,jU,gY]
  refine ⟨rfl,z2,fun p hp=>?_⟩;refine addL zX (vU hp g) (by simp) fun p' hp'=>⟨["doubt", w,brc x],yG zX,zji (n:=3000) ?_ (by rw[l_sp];simp),?_⟩
  .intro y hy;simp at hy;rcases hy with rfl|rfl|rfl
   .decide +kernel
   .omega
   .rw[brl];omega
  .rw[jn3,d_sp];exact h _ ((zI.new hp).trans (zI.new hp'))
theorem zf0 {n:Nat} (hn:22<=n) {ws:List W} {G:Hw} {Q:Q3} (h:dI ws G Q XN):zG (yV K sA nA n) XN wR { nx:=fun _ G'=>Q .non G',rt:=Q } (yR rA ws) G:=by
 obtain ⟨d,l,s,ok,D,h⟩:=h;have e18:(yV K sA nA n).fn[18]?=some ⟨"show_saying", mT⟩:=qL 18 hn rfl;have e21:(yV K sA nA n).fn[21]?=some ⟨"_law_loose", fE⟩:=qL 21 hn rfl;have so:=zkq ok;rcases h with ⟨rfl,h⟩|⟨rfl,h⟩
 .refine zhr hn fun r hr G1 k1 g1=>?_;simp only[wR,tls];refine yX ?_
  erw[zzB,if_false]
  refine yX ?_
  erw[]
  refine gG g1 ?_;refine zhP s.sy Sy.w (fun t=>bt (sh t)) rfl (by omega) (fun G' k'=>yG (k0 k' g1)) ?_ ?_
  .intro t ht G' K' kp hK;have ot:=so.1 t ht;simp only[hG,Zf,Zs,List.replicate,zzV,ZC]
   erw[e18,if_true]
   exact ⟨t,rfl,ot.1,oks ot,fun G2 k2=>qC (lit l_ob) (shl ot) (by decide) fun y=>qC y (lit l_cb) (by decide) fun _=>hK G2 (kp.trans k2)⟩
  .intro G' p kp hp;have kk:=(k1.trans kp).trans (zI.new (o:=O.lst (s.sy.map fun t=>bt (sh t))) hp);exact zhq hn ok (zeR so.1) (by rw[zX,ZaH];rfl) fun G'' k''=>h G'' (gI (kk.trans k'')) (zb8 (kk.trans k'') D)
 .refine zhr hn fun r hr G1 k1 g1=>?_;simp only[wR,tls];refine yX ?_
  erw[if_true]
  refine yX ?_
  erw[]
  refine gG g1 ?_;have rd:=tD D hr;refine ⟨fun i acc G'=>∃ xs:List Str,acc=xs.map bt/\Los xs (s.sy.take i)/\zI [d,l] G1 G'/\wQ G' d l,⟨[],rfl,trivial,zI.refl,zb8 k1 D⟩,?_,by rw[zzM];exact sz _ (by omega),?_,?_⟩
  .rintro i acc G' ⟨xs,rfl,lo,kp,D'⟩ hi;refine ⟨yG (kp _ _ rd g1),?_⟩;have:=fA lo;rw[zzM,this,Z3];omega
  .rintro i w acc G' hw ⟨xs,rfl,lo,kp,D'⟩;rw[Zp] at hw;obtain ⟨t,ht,rfl⟩:=Zq.mp hw;have ot:=so.1 t (Zo ht);simp only[hG,Zf,Zs,List.replicate,zzU,zzV,Zab,Zah,ZC]
   erw[e21,if_true,Zbl]
   refine ⟨d,l,t,rfl,D',ot,fun x G2 lx k2 D2=>?_⟩;have lx2:=lx.len;refine qC (lit l_ob) lx2 (by decide) fun y=>qC y (lit l_cb) (by decide) fun _=>(⟨xs++[x],by rw[ZG];rfl,?_,kp.trans k2,D2⟩);have hi:=(Zh.mp ht).1;have e:=(Zh.mp ht).2;rw[Zy hi,e];exact zcP lo lx
  .rintro acc G' ⟨xs,rfl,lo,kp,D'⟩ p hp;rw[zzM,Zal] at lo;exact zhq hn ok lo zX fun G'' k''=>h xs G'' lo ((gI k1).trans (kp.trans ((gI (zI.new hp)).trans (gI k'')))) (zb8 k'' (qE hp D'))
end
end K29
set_option maxHeartbeats 2000000
namespace K29
open PySem PySem.Spec PyProof.Rows L2 L3
theorem zh4 {c:Nat}:∀ {l:List Nat},c∉l->tO c l=[l]
 | [],_=>rfl
 |x::l,h=>by
  rw[tO,if_neg (fun e=>h (by rw[← e];exact zzT)),zh4 fun m=>h (Zc _ m)]
theorem zh6 {c:Nat}:∀ {l r:List Nat},c∉l->tO c (l++c::r)=l::tO c r
 | [],r,_=>by rw[Zah,tO,if_pos rfl]
 |x::l,r,h=>by
  rw[Zab,tO,if_neg (fun e=>h (by rw[← e];exact zzT)),zh6 fun m=>h (Zc _ m)]
theorem ob:("{" : Str).cps.toList=[123]:=by decide +kernel
theorem cb:("}" : Str)=⟨#[125]⟩:=by decide +kernel
theorem tG (a:Str):a ++ "" = a:=zgd a
def pce (p:Str×Str×Sy):Str:=p.1++("}" ++ p.2.1)
theorem zeO:∀ (ps:List (Str×Str×Sy)) (o:List Nat),123∉o->(∀ p∈ps,123∉(pce p).cps.toList)->tO 123 (o++(mid ps).cps.toList)=o::ps.map fun p=>(pce p).cps.toList
 | [],o,h,_=>by
  show tO 123 (o++[])=[o];rw[ZC,zh4 h]
 |p::ps,o,h,hp=>by
  have e:(mid (p::ps)).cps.toList=123::((pce p).cps.toList++(mid ps).cps.toList):=by
   show ("{" ++ (p.1++("}" ++ (p.2.1++mid ps)))).cps.toList=_;unfold pce;simp only[sK,ob,ZZ];rfl
  rw[e,zh6 h,zeO ps _ (hp p zzT) fun q hq=>hp q (Zc _ hq)];rfl
theorem zed {o:Str} {ps:List (Str×Str×Sy)} (h:123∉o.cps.toList) (hp:∀ p∈ps,123∉(pce p).cps.toList):Txt.split (o++mid ps) "{" = o::ps.map pce:=by
 rw[show ("{" : Str)=⟨#[123]⟩ from by decide +kernel,zcw,sK,zeO ps _ h hp,zzU,ZaH];rfl
theorem zbl:∀ (X A:List Nat) {k:Nat},List.drop (X.length+1) (X++k::A)=A
 | [],_,_=>rfl
 |_::X,A,_=>zbl X A
theorem zi0 {x a:Str} (h:125∉x.cps.toList):Txt.partition (x++("}" ++ a)) "}" = (x,("}" : Str),a):=by
 have e:(x++("}" ++ a)).cps.toList=x.cps.toList++125::a.cps.toList:=by rw[sK,sK,cb];rfl
 have g:(x++("}" ++ a)).cps.toList[x.cps.toList.length]?=some 125:=by rw[e,ZV (zzR _),Nat.sub_self];rfl
 rw[cb] at *;generalize x++((⟨#[125]⟩:Str)++a)=z at *;have at1:StrLaws.At z ⟨#[125]⟩ z.length x.cps.toList.length:=(StrLaws.subAt_one z 125 _).mpr g;rcases partition_whole z ⟨#[125]⟩ with ⟨_,hn⟩|⟨i,hp,hi,hn⟩
 .exact absurd at1 (hn _)
 .have hx:¬ x.cps.toList.length<i:=fun q=>hn _ q at1;have gi:=(StrLaws.subAt_one z 125 i).mp hi
  have hx':¬ i<x.cps.toList.length:=fun q=>by
   rw[e,Z6 q] at gi;exact h (Zo gi)
  have ei:i=x.cps.toList.length:=by omega
  subst ei;rw[hp];refine Prod.ext (zd8 ?_) (Prod.ext rfl (zd8 ?_))
  .show (Builtin.Str.strSub z 0 x.cps.toList.length).cps.toList=_;simp[Builtin.Str.strSub,e]
  .show (Builtin.Str.strSub z (x.cps.toList.length+1) z.length).cps.toList=_
   have:z.length=x.cps.toList.length+1+a.cps.toList.length:=by
    have:=congrArg List.length e;simp[Str.length] at this ⊢;omega
   rw[this];simp[Builtin.Str.strSub,e];rw[← ZH,← ZH,zbl,Zal]
theorem za2:∀ (l:List (Str×Str×Sy)) (o:Str) (p:Str×Str×Sy),cK o (l++[p])=cK o l++("{}" ++ p.2.1)
 | [],o,p=>rfl
 |q::l,o,p=>by show cK (o++("{}" ++ q.2.1)) (l++[p])=_;rw[za2 l];rfl
theorem cL:∀ (l:List (Str×Str×Sy)) (o:Str),(∀ p∈l,p.2.1.length<=100)->(cK o l).length<=o.length+102 * l.length
 | [],o,_=>zzR _
 |q::l,o,h=>by
  have h1:=cL l (o++("{}" ++ q.2.1)) fun p hp=>h p (Zc _ hp);have h2:=h q zzT;rw[Zn,Zn,show ("{}" : Str).length=2 from by decide +kernel] at h1;show (cK (o++("{}" ++ q.2.1)) l).length<=_;rw[Zf];omega
theorem l_br:("{}" : Str).length=2:=by decide +kernel
theorem zeN:∀ (ps:List (Str×Str×Sy)),(∀ p∈ps,p.1.length<=2000/\p.2.1.length<=100)->(mid ps).length<=2102 * ps.length
 | [],_=>zzR _
 |p::ps,h=>by
  have h1:=zeN ps fun q hq=>h q (Zc _ hq);have h2:=h p zzT;show ("{" ++ (p.1++("}" ++ (p.2.1++mid ps)))).length<=_;rw[Zn,Zn,Zn,Zn,l_ob,l_cb,Zf];omega
theorem in_nl {x:Str} (h:10∉x.cps.toList):zjv false "\n" x=false:=by
 unfold zjv;rw[if_neg (by simp),show ("\n" : Str)=⟨#[10]⟩ from by decide +kernel,StrLaws.found_one];exact decide_eq_false h
section
variable {K:yJ} {sA nA:Addr}
theorem zmf {n:Nat} (hn:33<=n) {ws:List W} {G:Hw} {Q:Q3} (h:spBE ws G Q XN):zG (yV K sA nA n) XN jM { nx:=fun _ G'=>Q .non G',rt:=Q } (yR qB ws) G:=by
 obtain ⟨o,ps,rfl,ol,pl,on,hp,h⟩:=h;have e32:(yV K sA nA n).fn[32]?=some ⟨"read_saying", spRS⟩:=qL 32 hn rfl;have t2:(yV K sA nA n).mt[2]?=some hV:=rfl;have t4:(yV K sA nA n).mt[4]?=some hZ:=rfl;have t5:(yV K sA nA n).mt[5]?=some zhd:=rfl;have z0:=sz 0 (by decide);have z2:=sz 2 (by decide);have ml:=zeN ps fun p q=>⟨(hp p q).1.len,(hp p q).2.2.1⟩
 have pn:∀ p∈ps,123∉(pce p).cps.toList:=fun p q=>by
  unfold pce;rw[sK,sK,cb];have:=(hp p q).1.no.1;have:=(hp p q).2.2.2
  simp_all
 show zG (yV K sA nA n) XN jM { nx:=fun _ G'=>Q .non G',rt:=Q } [some (.str (o++mid ps)),none,none,none,none,none,none,none] G;simp only[jM];refine yX ?_
 erw[t4]
 refine ⟨rfl,by rw[l_ob];rfl,Ze (qZ ol (Ze ml (Zai 2102 pl))) (by decide),fun r hr=>?_⟩;rw[zed on pn];simp only[unl,yG (zX (a:=r)),zzU];refine ⟨by rw[zzM,zzM];exact Ze pl (by decide),fun q hq=>yX ?_⟩;have k1:=(zI.new (S:=[]) (o:=.lst (W.str o::(ps.map pce).map W.str)) hr).trans (zI.new (o:=.lst ((ps.map pce).map W.str)) hq);have gq:(put (put G r (.lst (W.str o::(ps.map pce).map W.str))) q (.lst ((ps.map pce).map W.str))) q=some (.lst ((ps.map pce).map W.str)):=zX;generalize put (put G r (.lst (W.str o::(ps.map pce).map W.str))) q (.lst ((ps.map pce).map W.str))=G1 at k1 gq ⊢
 erw[Zs,z0,true_and]
 intro p hp0;have gq2:=vU (u:=.lst []) hp0 gq;have k2:=k1.trans (zI.new (o:=.lst []) hp0);have gp:put G1 p (.lst []) p=some (.lst []):=zX;have pn0:G p=none:=k1.none (by simp) hp0;have nqp:q≠p:=qS gq hp0;generalize put G1 p (.lst [])=G2 at k2 gp gq2 ⊢;refine yX ?_
 erw[]
 refine gG gq2 ?_
 refine ⟨fun i σ G'=>∃ v4 v5 v6 v7:Option W,σ=[some (.str (o++mid ps)),some (.str (cK o (ps.take i))),some (.ref q),some (.ref p),v4,v5,v6,v7]/\zI [] G G'/\G' q=some (.lst ((ps.map pce).map W.str))/\G' p=some (.lst ((ps.take i).map fun p=>p.2.2.w)),
  ⟨none,none,none,none,rfl,k2,gq2,gp⟩,?_,?_,?_⟩
 .rintro i σ G' ⟨v4,v5,v6,v7,rfl,_,g,_⟩ _;exact yG g
 .rintro i w σ G' hw ⟨v4,v5,v6,v7,rfl,kp,gq',gp'⟩;rw[Zp,Zp] at hw;obtain ⟨x,hx,rfl⟩:=Zq.mp hw;obtain ⟨y,hy,rfl⟩:=Zq.mp hx;have hi:=(Zh.mp hy).1;have he:=(Zh.mp hy).2;obtain ⟨lo,yo,yl,yn⟩:=hp y (Zo hy);have l9:=lo.len;obtain ⟨b,tk,tn,tl,rd⟩:=lo.rd;have ol2:=cL (ps.take i) o fun p hp'=>(hp p (List.mem_of_mem_take hp')).2.2.1;have tk2:(ps.take i).length<=2:=by rw[Z3];exact Ze (Zbk _ _) pl
  have ol3:=Ze ol2 (ZaB ol (Zai 102 tk2))
  erw[]
  refine yX ?_
  erw[t5]
  refine ⟨rfl,by rw[l_cb];rfl,Ze (show (pce y).length<=2000+(1+100) from qZ l9 (qZ (lit l_cb) yl)) (by decide),?_⟩;unfold pce;rw[zi0 lo.no.2.1];show zG (yV K sA nA n) XN _ _ [some (.str (o++mid ps)),some (.str (cK o (ps.take i))),some (.ref q),some (.ref p),some (.str (y.1++("}" ++ y.2.1))),some (.str y.1),some (.str "}"),some (.str y.2.1)] G';refine yX ?_
  erw[yT,yY,sQ,show (("}" : Str) == "")=false from by decide +kernel,in_nl lo.no.2.2,zzB,if_false]
  refine vB (yX (zb4 t2 rfl gp' ?_))
  erw[e32]
  refine ⟨y.2.2,b,tk,y.1,rfl,yo,tn,tl,Ze l9 (by decide),rd,fun G3 k3=>fN (k0 k3 gp') (by rw[zzM];exact Z8 tk2 (by decide)) ?_⟩;refine yX ?_
  erw[]
  refine qC ol3 (lit (show ("" : Str).length=0 from rfl)) (by decide) fun y0=>qC (lit l_br) yl (by decide) fun y1=>qC y0 y1 (by decide) fun _=>(vB ⟨some (.str (y.1++("}" ++ y.2.1))),some (.str y.1),some (.str "}"),some (.str y.2.1),?_,kR (kp.trans k3) pn0,?_,?_⟩)
  .rw[Zy hi,he,za2,tG]
  .rw[yH nqp];exact k0 k3 gq'
  .rw[zX,Zy hi,he,ZG];rfl
 .rintro σ G' ⟨v4,v5,v6,v7,rfl,kp,gq',gp'⟩;rw[zzM,zzM,Zal] at *;refine yX ?_
  erw[]
  exact ⟨z2,h p G' kp pn0 gp'⟩
end
end K29
set_option maxHeartbeats 2000000
namespace K29
open PySem PySem.Spec PyProof.Rows L2 L3
theorem zcD:∀ l:List Str,wC (l.map W.str)=true
 | []=>rfl
 |x::l=>by simp[wC,pur,zcD l]
theorem zh3:∀ l:List Str,deps (l.map W.str)<=1
 | []=>ZS _
 |x::l=>by have:=zh3 l;simp only[zzU,deps,dep];omega
theorem zl8:∀ a b:List Str,uL (a.map W.str) (b.map W.str)=decide (a=b)
 | [],[]=>rfl
 | [],_::_=>rfl
 |_::_,[]=>rfl
 |x::a,y::b=>by
  simp only[zzU,uL,kY,zl8 a b,List.cons.injEq]
  by_cases e:x=y<;>simp[e]
theorem eqL {G:Hw} {p q:Addr} (a b:List Str) (h:G p=some (.lst (a.map .str))) (h':G q=some (.lst (b.map .str))):eqG G (.ref p) (.ref q)=some (decide (a=b)):=by
 have:=zh3 a;simp only[eqG,yG h,yG h',zcD,Bool.and_self,Bool.true_and,zl8];rw[if_pos (by rw[decide_eq_true_eq];omega)]
theorem cmpL {G:Hw} {p q:Addr} {Q:Q3} (a b:List Str) (h:G p=some (.lst (a.map .str))) (h':G q=some (.lst (b.map .str))) (k:Q (.bl (decide (a=b))) G):yT .Eq (.ref p) (.ref q) G Q:=by
 simp only[yT,eqL a b h h'];exact k
theorem cmpN {G:Hw} {p q:Addr} {Q:Q3} (a:List Str) (h:G p=some (.lst (a.map .str))) (h':G q=some (.lst (a.map .str))) (k:Q (.bl false) G):yT .NotEq (.ref p) (.ref q) G Q:=by
 simp only[yT,eqL a a h h',decide_true];exact k
theorem zml {w:Str} {l:List Str} (h:w∈l):((l.map W.str).any fun z=>kY z (.str w))=true:=by
 rw[List.any_eq_true];exact ⟨.str w,List.mem_map_of_mem h,by simp[kY]⟩
theorem inM {G:Hw} {p:Addr} {l:List Str} {w:Str} {Q:Q3} {b:Bool} (h:G p=some (.lst (l.map .str))) (m:w∈l) (q:Q (.bl (!b)) G):sQ b (.str w) (.ref p) G Q:=by
 simp only[sQ,h,L3.inR,zml m];refine ⟨⟨rfl,zcD l,by simp[dep]⟩,?_⟩;cases b<;>exact q
section
variable {K:yJ} {sA nA:Addr}
theorem zkP {n:Nat} (hn:35<=n) {ws:List W} {G:Hw} {Q:Q3} (h:spRA ws G Q XN):zG (yV K sA nA n) XN jX { nx:=fun _ G'=>Q .non G',rt:=Q } (yR uU ws) G:=by
 obtain ⟨p,q,rfl,h⟩:=h;have e34:(yV K sA nA n).fn[34]?=some ⟨"doubts_of", tI⟩:=qL 34 hn rfl;have z1:=sz 1 (by decide);have z2:=sz 2 (by decide);have z3:=sz 3 (by decide);show zG (yV K sA nA n) XN jX { nx:=fun _ G'=>Q .non G',rt:=Q } [some (.ref p),some (.ref q),none] G;simp only[jX];refine yX ?_
 erw[]
 refine ⟨z1,fun r hr=>?_⟩;rcases h with ⟨t,gp,gq,h⟩|⟨w,a,t,hw,gp,gq,h⟩
 .refine cmpL ["{}"] ["{}"] (vU hr gp) zX ?_;simp only[decide_true,if_true];refine yX ?_
  erw[]
  refine gH (yG (vU hr gq)) ?_;rw[xU];exact ⟨z2,h _ (zI.new hr)⟩
 .refine cmpL [w, "{}", "with", "{}"] ["{}"] (vU hr gp) zX ?_;simp only[show decide ([w,("{}" : Str), "with", "{}"]=[("{}" : Str)])=false from decide_eq_false (by simp),zzB,if_false];refine vB (yX ?_)
  erw[slR,yG (vU hr gp),nE]
  have k1:zI [] G (put G r (.lst [W.str "{}"])):=zI.new hr;generalize put G r (.lst [W.str "{}"])=G1 at k1 ⊢;intro r2 hr2;refine ⟨z3,fun r3 hr3=>?_⟩;refine cmpN ["{}", "with", "{}"] (vU hr3 zX) zX ?_;simp only[zzB,if_false];have k3:zI [] G (put (put G1 r2 (.lst [W.str "{}", .str "with", .str "{}"])) r3 (.lst [W.str "{}", .str "with", .str "{}"])):=(k1.trans (zI.new hr2)).trans (zI.new hr3);generalize put (put G1 r2 (.lst [W.str "{}", .str "with", .str "{}"])) r3 (.lst [W.str "{}", .str "with", .str "{}"])=G3 at k3 ⊢;have gp3:=k0 k3 gp;have gq3:=k0 k3 gq;refine vB (yX ?_)
  erw[]
  refine gH (yG gp3) ?_;rw[xU];refine yX ?_
  erw[yT,yY]
  have fin:∀ G',zI [] G3 G'->zG (yV K sA nA n) XN (tls (tls (tls (tls jX)))) { nx:=fun _ G'=>Q .non G',rt:=Q } [some (.ref p),some (.ref q),some (.str w)] G':=by
   intro G' k';simp only[jX,tls];refine yX ?_
   erw[]
   refine gH (yG (k0 k' gq3)) ?_;rw[xU];refine ⟨z2,gH (yG (k0 k' gq3)) ?_⟩;rw[gY];exact ⟨z3,h G' (k3.trans k')⟩
  by_cases e:w = "begin"
  .subst e;simp only[beq_self_eq_true,Zv,zzB,if_false];exact vB (fin G3 zI.refl)
  .have e':(w==("begin" : Str))=false:=by simpa using e
   simp only[e',Zap,if_true,e34];refine gH (yG gq3) ?_;rw[xU];refine ⟨a,rfl,fun r4 G4 k4 _ g4=>?_⟩;simp only[yT];refine inM g4 (hw.resolve_left e) ?_;simp only[Zv,zzB,if_false];exact vB (fin G4 k4)
theorem zkL {n:Nat} (hn:35<=n) {ws:List W} {G:Hw} {Q:Q3} (h:spRD ws G Q XN):zG (yV K sA nA n) XN vP { nx:=fun _ G'=>Q .non G',rt:=Q } (yR sZ ws) G:=by
 obtain ⟨p,q,rfl,h⟩:=h;have e1:(yV K sA nA n).fn[1]?=some hX:=qL 1 hn rfl;have e34:(yV K sA nA n).fn[34]?=some ⟨"doubts_of", tI⟩:=qL 34 hn rfl;have g11:(yV K sA nA n).gl[11]?=some (("WORDS_OF_REPLIES" : Str),.tup (rpL.map .str)):=rfl;have z1:=sz 1 (by decide);have z2:=sz 2 (by decide);have z3:=sz 3 (by decide);show zG (yV K sA nA n) XN vP { nx:=fun _ G'=>Q .non G',rt:=Q } [some (.ref p),some (.ref q)] G;simp only[vP];refine yX ?_;rcases h with ⟨w,a,hw,gp,gq,h⟩|⟨w,a,hw,gp,gq,h⟩
 ·erw[e1,g11,qF,kZ,gp,yT,yF,zzC,zzL,zzA]
  rw[if_pos (by decide)];refine gH (yG gp) ?_;rw[xU];simp only[yT,sQ,L3.inR,zml (zfu hw),zzB,if_false,if_true];refine ⟨⟨rfl,zcD rpL,by simp[dep]⟩,?_⟩;refine yX ?_
  erw[]
  refine gH (yG gp) ?_;rw[xU];exact ⟨z2,h G zI.refl⟩
 ·erw[e1,g11,qF,kZ,gp,yT,yF,zzC,zzL,zzA,Nat.reduceAdd]
  rw[if_neg (by decide)];simp only[zzB,if_false];refine vB (yX ?_)
  erw[slR,yG gp,nE]
  intro r2 hr2;refine ⟨z1,fun r3 hr3=>?_⟩;refine cmpN ["{}"] (vU hr3 zX) zX ?_;simp only[zzB,if_false];have k3:zI [] G (put (put G r2 (.lst [W.str "{}"])) r3 (.lst [W.str "{}"])):=(zI.new hr2).trans (zI.new hr3);generalize put (put G r2 (.lst [W.str "{}"])) r3 (.lst [W.str "{}"])=G3 at k3 ⊢;refine gH (yG (k0 k3 gp)) ?_;rw[xU];simp only[e34];refine gH (yG (k0 k3 gq)) ?_;rw[xU];refine ⟨a,rfl,fun r4 G4 k4 _ g4=>?_⟩;simp only[yT];refine inM g4 hw ?_;simp only[Zv,zzB,if_false];refine vB (yX ?_)
  erw[]
  refine gH (yG (k0 k4 (k0 k3 gp))) ?_;rw[xU];refine gH (yG (k0 k4 (k0 k3 gq))) ?_;rw[xU];exact ⟨z3,h G4 (k3.trans k4)⟩
end
end K29
set_option maxHeartbeats 2000000
namespace K29
open PySem PySem.Spec PyProof.Rows L2 L3
def oA (w:Str):Str := "answer " ++ w ++ " "
def oD (w:Str):Str := "doubt " ++ w ++ " "
def oB (w:Str):Str := "doubt " ++ w
theorem b_wd:∀ w∈("begin" :: rpL:List Str),(123∉(oA w).cps.toList/\(oA w).length<=100/\Txt.split (oA w++("{}" ++ " with ")++("{}" ++ "")) " " = [("answer" : Str),w, "{}", "with", "{}"])/\(123∉(oD w).cps.toList/\(oD w).length<=100/\Txt.split (oD w++("{}" ++ "")) " " = [("doubt" : Str),w, "{}"])/\123∉(oB w).cps.toList/\(oB w).length<=100/\Txt.split (oB w) " " = [("doubt" : Str),w]:=by decide +kernel
theorem b_1:123∉("answer " : Str).cps.toList/\Txt.split ("answer " ++ ("{}" ++ "")) " " = [("answer" : Str), "{}"]:=by decide +kernel
theorem b_2:123∉("" : Str).cps.toList/\123∉(" with " : Str).cps.toList/\("" : Str).length<=100/\(" with " : Str).length<=100:=by decide +kernel
theorem w_in {w:Str} {p:Sy} (h:w = "begin" \/ w∈sL p):w∈("begin" :: rpL:List Str):=by
 rcases h with rfl|h
 .exact zzT
 .exact Zc _ (zfu h)
theorem zc9 (x r:Str):brc x++r = "{" ++ (x++("}" ++ r)):=by
 show "{" ++ x ++ "}" ++ r=_;rw[gU,gU]
def qU:yB->List Str->Str×List (Str×Str×Sy)
 | .an1 t,[x]=>("answer ", [(x, "", t)])
 | .an w p t,[x,y]=>(oA w,[(x, " with ", p),(y, "", t)])
 | .db w,[]=>(oB w,[])
 | .dt w p,[x]=>(oD w,[(x, "", p)])
 |_,_=>("", [])
def wds:yB->List Str
 | .an1 _=>["answer", "{}"]
 | .an w _ _=>["answer", w, "{}", "with", "{}"]
 | .db w=>["doubt", w]
 | .dt w _=>["doubt", w, "{}"]
theorem zgB:∀ (s:yB) (xs:List Str),s.ok->Los xs s.sy->s.txt xs=(qU s xs).1++mid (qU s xs).2/\(qU s xs).1.length<=100/\(qU s xs).2.length<=2/\123∉(qU s xs).1.cps.toList/\(∀ p∈(qU s xs).2,Lo p.1 p.2.2/\p.2.2.ok/\p.2.1.length<=100/\123∉p.2.1.cps.toList)/\((qU s xs).2.map fun p=>p.2.2.w)=s.sy.map Sy.w/\Txt.split (cK (qU s xs).1 (qU s xs).2) " " = wds s:=by
 intro s xs ok lo;have ll:=fA lo
 cases s with
 |an1 t =>
  obtain ⟨x,rfl⟩:∃ x,xs=[x]:=ZaE.mp ll;refine ⟨?_,show ("answer " : Str).length<=100 from by decide +kernel,by simp[qU],b_1.1,?_,rfl,b_1.2⟩
  .show "answer " ++ brc x = "answer " ++ ("{" ++ (x++("}" ++ ("" ++ ""))));rw[← zc9,tG,tG]
  .intro p hp;rw[zzO hp];exact ⟨lo.1,ok.1,b_2.2.2.1,b_2.1⟩
 |an w p t =>
  obtain ⟨x,y,rfl⟩:∃ x y,xs=[x,y]:=by match xs,ll with | [x,y],_=>exact ⟨x,y,rfl⟩
  have b:=(b_wd w (w_in ok.2.2)).1;refine ⟨?_,b.2.1,by simp[qU],b.1,?_,rfl,b.2.2⟩
  .show "answer " ++ w ++ " " ++ brc x ++ " with " ++ brc y=oA w++("{" ++ (x++("}" ++ (" with " ++ ("{" ++ (y++("}" ++ ("" ++ ""))))))));rw[← zc9 y,← zc9 x,tG,tG];unfold oA;simp only[gU]
  .intro q hq;rcases Zd.mp hq with e|e
   .rw[e];exact ⟨lo.1,ok.1.1,b_2.2.2.2,b_2.2.1⟩
   .rw[zzO e];exact ⟨lo.2.1,ok.2.1.1,b_2.2.2.1,b_2.1⟩
 |db w =>
  have e:xs=[]:=ZM ll;subst e;obtain ⟨p,hw⟩:=(ok:∃ p,w∈sL p);have b:=(b_wd w (w_in (.inr hw))).2.2;exact ⟨(tG _).symm,b.2.1,by simp[qU],b.1,(fun p hp=>nomatch hp),rfl,b.2.2⟩
 |dt w p =>
  obtain ⟨x,rfl⟩:∃ x,xs=[x]:=ZaE.mp ll;have b:=(b_wd w (w_in (.inr ok.2))).2.1;refine ⟨?_,b.2.1,by simp[qU],b.1,?_,rfl,b.2.2⟩
  .show "doubt " ++ w ++ " " ++ brc x=oD w++("{" ++ (x++("}" ++ ("" ++ ""))));rw[← zc9,tG,tG];rfl
  .intro p hp;rw[zzO hp];exact ⟨lo.1,ok.1.1,b_2.2.2.1,b_2.1⟩
section
variable {K:yJ} {sA nA:Addr}
theorem ziy {n:Nat} (hn:37<=n) {ws:List W} {G:Hw} {Q:Q3} (h:fG ws G Q XN):zG (yV K sA nA n) XN uG { nx:=fun _ G'=>Q .non G',rt:=Q } (yR rD ws) G:=by
 obtain ⟨s,xs,rfl,ok,lo,h⟩:=h;have e4:(yV K sA nA n).fn[4]?=some (eIsj K):=qL 4 hn rfl;have e33:(yV K sA nA n).fn[33]?=some ⟨"braces_emptied", spBE⟩:=qL 33 hn rfl;have e35:(yV K sA nA n).fn[35]?=some ⟨"read_answer", spRA⟩:=qL 35 hn rfl;have e36:(yV K sA nA n).fn[36]?=some ⟨"read_doubt", spRD⟩:=qL 36 hn rfl;have g13:(yV K sA nA n).gl[13]?=some (("str" : Str),W.ty "str"):=rfl;have t4:(yV K sA nA n).mt[4]?=some hZ:=rfl;obtain ⟨tx,ol,pl,on,po,pw,sp⟩:=zgB s xs ok lo;have ol2:=cL (qU s xs).2 (qU s xs).1 fun p hp=>(po p hp).2.2.1;show zG (yV K sA nA n) XN uG { nx:=fun _ G'=>Q .non G',rt:=Q } [some (.str (s.txt xs)),none,none,none] G;rw[tx];generalize (qU s xs).1=o at *;generalize (qU s xs).2=ps at *;simp only[uG];refine yX ?_
 erw[e4,g13]
 refine isj1 rfl rfl ?_;simp only[qP,Zv,zzB,if_false];refine vB (yX ?_)
 erw[e33]
 refine ⟨o,ps,rfl,ol,pl,on,po,fun r G1 k1 _ gr=>?_⟩;rw[pw] at gr;show zG (yV K sA nA n) XN _ _ [some (.str (o++mid ps)),some (.str (cK o ps)),some (.ref r),none] G1;refine yX ?_
 erw[t4]
 refine ⟨rfl,by rw[l_sp];rfl,by omega,fun q hq=>?_⟩;rw[sp];have k2:zI [] G (put G1 q (.lst ((wds s).map .str))):=k1.trans (zI.new hq);have gq:put G1 q (.lst ((wds s).map .str)) q=some (.lst ((wds s).map .str)):=zX;have gr2:=vU (u:=.lst ((wds s).map .str)) hq gr;generalize put G1 q (.lst ((wds s).map .str))=G2 at k2 gq gr2 ⊢;refine yX ?_
 erw[]
 refine gH (yG gq) ?_;have kk:=fun (x:Addr) (o:O) (hx:G2 x=none) (G':Hw) (k':zI [] (put G2 x o) G')=>h G' ((k2.trans (zI.new hx)).trans k')
 cases s with
 |an1 t =>
  simp only[wds,zzU,zzV,xU,yT,yY,beq_self_eq_true,if_true] at gq ⊢;refine yX ?_
  erw[e35,slR,yG gq,nE]
  exact fun x hx=>⟨x,r,rfl,.inl ⟨t,zX,vU hx gr2,kk x _ hx⟩⟩
 |an w p t =>
  simp only[wds,zzU,zzV,xU,yT,yY,beq_self_eq_true,if_true] at gq ⊢;refine yX ?_
  erw[e35,slR,yG gq,nE]
  exact fun x hx=>⟨x,r,rfl,.inr ⟨w,p,t,ok.2.2,zX,vU hx gr2,kk x _ hx⟩⟩
 |db w =>
  obtain ⟨p,hw⟩:=(ok:∃ p,w∈sL p);simp only[wds,zzU,zzV,xU,yT,yY,da,zzB,if_false] at gq ⊢;refine vB (yX ?_)
  erw[]
  refine gH (yG gq) ?_;simp only[xU,yT,yY,beq_self_eq_true,if_true];refine yX ?_
  erw[e36,slR,yG gq,nE]
  exact fun x hx=>⟨x,r,rfl,.inl ⟨w,p,hw,zX,vU hx gr2,kk x _ hx⟩⟩
 |dt w p =>
  simp only[wds,zzU,zzV,xU,yT,yY,da,zzB,if_false] at gq ⊢;refine vB (yX ?_)
  erw[]
  refine gH (yG gq) ?_;simp only[xU,yT,yY,beq_self_eq_true,if_true];refine yX ?_
  erw[e36,slR,yG gq,nE]
  exact fun x hx=>⟨x,r,rfl,.inr ⟨w,p,ok.2,zX,vU hx gr2,kk x _ hx⟩⟩
end
end K29
set_option maxHeartbeats 2000000
namespace K29
open PySem PySem.Spec PyProof.Rows L2 L3
open PySem.W (nsIn keepIn codeIn mg_of findIn mg_none_of fnOf)
abbrev w12:List Str:=["with", "first", "other", "answer", "doubt", "left", "right", "which", "if", "begin", "ands", "ory"]
theorem zkb:∀ x∈w12,fB x=true:=by decide +kernel
theorem Sy.st:∀ t:Sy,K29.st t.w=true
 | .say _=>by simp[Sy.w,K29.st,sts]
 | .neg a=>by simp[Sy.w,K29.st,sts,Sy.st a]
 | .two _ a b=>by simp[Sy.w,K29.st,sts,Sy.st a,Sy.st b]
theorem dT {ws:List W} {n:Nat} (h:L3.deps ws<=n):L3.dep (.tup ws)<=n+1:=by simp only[L3.dep];omega
theorem dC {w:W} {ws:List W} {n:Nat} (h:L3.dep w<=n) (h':L3.deps ws<=n):L3.deps (w::ws)<=n:=by simp only[L3.deps];omega
theorem yB.st {s:yB} (ok:s.ok):K29.st s.w=true/\L3.dep s.w<14:=by
 have d:∀ {t:Sy},Okp t->L3.dep t.w<=10:=fun {t} o=>Ze t.dep (Ze o.2 (by decide));have z:∀ x:Str,L3.dep (.str x)<=10:=fun _=>ZS _;have e:L3.deps []<=10:=ZS _
 cases s with
 |an1 t=>exact ⟨by simp[yB.w,K29.st,sts,Sy.st t],Z8 (dT (dC (z _) (dC (d ok) e))) (by decide)⟩
 |an w p t =>
  refine ⟨by simp[yB.w,K29.st,sts,Sy.st t,Sy.st p],Z8 (dT (n:=11) (dC (ZS _) (dC (dT (dC (z _) (dC (d ok.1) e))) (dC (Za5 (d ok.2.1)) (ZS _))))) (by decide)⟩
 |db w=>exact ⟨by simp[yB.w,K29.st,sts],Z8 (dT (dC (z _) (dC (z _) e))) (by decide)⟩
 |dt w p=>exact ⟨by simp[yB.w,K29.st,sts,Sy.st p],Z8 (dT (dC (z _) (dC (z _) (dC (d ok.1) e)))) (by decide)⟩
section
variable {K:yJ} {sA nA:Addr}
theorem zgN {n:Nat} (hn:39<=n) {s:yB} {d l r:Addr} {a v2 v3 v4 v5 v7 v8 v9:Option W} {G:Hw} {D:End3} (ok:s.ok) (DL:wQ G d l)
  (h:∀ w7 w8 w9 G',zI [d,l] G G'->wQ G' d l->D.nx [a,some (.ref d),v2,v3,v4,v5,some s.w,w7,w8,w9] G') :
  zG (yV K sA nA n) XN (.cons (.asg 7 (.call 20 (.cons (.var 6) .nil)))
 (.cons (.ite (.or (.not (.call 4 (.cons (.var 7) (.cons (.glb 13) .nil)))) (.cmp .NotEq (.var 7) (.call 22 (.cons (.var 1) (.cons (.var 6) (.cons (.con (.bool false)) .nil)))))) (.cons (.ret (.con (.bool false)))
 .nil) .nil)
 (.cons (.for (.nm 8) (.val (.lst (.cons (.var 7) (.cons (.call 22 (.cons (.var 1) (.cons (.var 6) (.cons (.con (.bool true)) .nil)))) .nil)))) (.cons (.asg 9 (.call 37 (.cons (.var 8) .nil)))
 (.cons (.ite (.or (.not (.call 38 (.cons (.var 9) (.cons (.var 6) .nil)))) (.cmp .NotEq (.call 20 (.cons (.var 9) .nil)) (.var 7))) (.cons (.ret (.con (.bool false)))
 .nil) .nil)
 .nil)))
 .nil))) D [a,some (.ref d),v2,v3,v4,v5,some s.w,v7,v8,v9] G:=by
 have e4:(yV K sA nA n).fn[4]?=some (eIsj K):=qL 4 hn rfl;have e20:(yV K sA nA n).fn[20]?=some ⟨"show_step", fI⟩:=qL 20 hn rfl;have e22:(yV K sA nA n).fn[22]?=some ⟨"_law_text", dI⟩:=qL 22 hn rfl;have e37:(yV K sA nA n).fn[37]?=some ⟨"read_step", fG⟩:=qL 37 hn rfl;have e38:(yV K sA nA n).fn[38]?=some ⟨"_law_alike", wW 14⟩:=qL 38 hn rfl;have g13:(yV K sA nA n).gl[13]?=some (("str" : Str),W.ty "str"):=rfl;have z2:=sz 2 (by decide);refine yX ?_
 erw[e20]
 refine ⟨s,rfl,ok,fun G1 k1=>yX ?_⟩
 erw[e4,g13]
 refine isj1 rfl rfl ?_;simp only[qP,Zv,zzB,if_false,e22];refine ⟨d,l,s,ok,zb8 k1 DL,.inl ⟨rfl,fun G2 k2 D2=>?_⟩⟩;simp only[yT,yY,beq_self_eq_true,Zv,zzB,if_false];refine vB (yX ?_)
 erw[e22]
 refine ⟨d,l,s,ok,D2,.inr ⟨rfl,fun xs G3 lo k3 D3=>⟨z2,fun p hp=>?_⟩⟩⟩;have F:Fk G G3 d l []:=⟨D3,((gI k1).trans k2).trans k3,(fun f hf=>nomatch hf)⟩;have F4:=F.new (o:=.lst [.str (s.txt (s.sy.map sh)),.str (s.txt xs)]) hp;generalize put G3 p (.lst [.str (s.txt (s.sy.map sh)),.str (s.txt xs)])=G4 at F4 ⊢;refine gG F4.a0 ?_;refine ⟨fun i σ G'=>∃ w8 w9:Option W,σ=[a,some (.ref d),v2,v3,v4,v5,some s.w,some (.str (s.txt (s.sy.map sh))),w8,w9]/\Fk G G' d l [(p,.lst [.str (s.txt (s.sy.map sh)),.str (s.txt xs)])],⟨v8,v9,rfl,F4⟩,?_,?_,?_⟩
 .rintro i σ G' ⟨w8,w9,rfl,F⟩ _;exact yG F.a0
 .rintro i w σ G' hw ⟨w8,w9,rfl,F⟩
  obtain ⟨ys,rfl,lo'⟩:∃ ys,w=.str (s.txt ys)/\Los ys s.sy:=by
   have:=Zo hw;rcases Zd.mp this with e|e
   .exact ⟨_,e,zeR (zkq ok).1⟩
   .exact ⟨_,zzO e,lo⟩
  erw[]
  refine yX ?_
  erw[e37]
  refine ⟨s,ys,rfl,ok,lo',fun G5 k5=>yX ?_⟩
  erw[e38]
  refine ⟨s.w,rfl,yB.st ok,fun G6 k6=>?_⟩;simp only[qP,Zv,zzB,if_false,e20];refine ⟨s,rfl,ok,fun G7 k7=>?_⟩;simp only[yT,yY,beq_self_eq_true,Zv,zzB,if_false];exact ⟨_,_,rfl,((F.keep k5).keep k6).keep k7⟩
 .rintro σ G' ⟨w8,w9,rfl,F⟩;exact h _ _ _ G' F.kp F.dl
theorem zjf {n:Nat} (hn:39<=n) {a:W} {ns:List Int} {G:Hw} {Q:Q3} {nx:qV->Hw->Prop} (hs:zdM G a ns) (hl:ns.length<=63) (hq:∀ G',Q (.bl true) G') :
  zG (yV K sA nA n) XN blaw { nx:=nx,rt:=Q } [some a,none,none,none,none,none,none,none,none,none] G:=by
 have e1:(yV K sA nA n).fn[1]?=some hX:=qL 1 hn rfl;have e6:(yV K sA nA n).fn[6]?=some zmb:=qL 6 hn rfl;have e7:(yV K sA nA n).fn[7]?=some zdE:=qL 7 hn rfl;have e8:(yV K sA nA n).fn[8]?=some ⟨"_law_names", fF⟩:=qL 8 hn rfl;have e9:(yV K sA nA n).fn[9]?=some ⟨"_law_saying", wL 10⟩:=qL 9 hn rfl;have e12:(yV K sA nA n).fn[12]?=some ⟨"_law_steps", fJ⟩:=qL 12 hn rfl;have i0:(yV K sA nA n).it[0]?=some eRng:=rfl;have z12:=sz 12 (by decide);simp only[blaw];refine yX ?_
 erw[e6]
 refine ⟨a,0,ns,rfl,hs,hl,by decide,fun d l G1 _ _ _ D1=>?_⟩;refine yX ?_
 erw[e7,e8,vX]
 refine ⟨d,l,4,rfl,D1,by decide,fun j G2 j0 j4 k2 D2=>?_⟩;refine ⟨d,l,1+j,rfl,D2,by omega,by omega,fun r xs G3 hne hxl hxs hr gr k3 D3=>?_⟩
 have rest:∀ (G4:Hw) (r:Addr) (ys:List Str) (v3 v4:Option W),ys≠[]->ys.length<=5->(∀ x∈ys,fB x=true)->r∉[d,l]->G4 r=some (.lst (ys.map .str))->wQ G4 d l ->
   zG (yV K sA nA n) XN (tls (tls (tls blaw))) { nx:=nx,rt:=Q } [some a,some (.ref d),some (.ref r),v3,v4,none,none,none,none,none] G4:=by
  intro G4 r ys v3 v4 yne yl yok hr g4 D4;simp only[blaw,tls];refine yX ?_
  erw[e7,e9,vX]
  refine ⟨d,l,9,rfl,D4,by decide,fun m G5 m0 m1 k5 D5=>?_⟩;refine ⟨d,l,r,1+m,ys,rfl,D5,hr,k5 _ _ hr g4,yne,yl,yok,by omega,by omega,by omega,fun t G6 ok ts k6 D6=>?_⟩;refine yX ?_
  erw[e12]
  refine ⟨d,l,t,rfl,D6,⟨ok,by omega⟩,fun ss q G7 so k7 D7 hq0 gq=>?_⟩;refine gG gq ?_;refine ⟨fun i σ G'=>∃ v6 v7 v8 v9:Option W,σ=[some a,some (.ref d),some (.ref r),v3,v4,some t.w,v6,v7,v8,v9]/\zI [d,l] G7 G'/\wQ G' d l,⟨none,none,none,none,rfl,zI.refl,D7⟩,?_,?_,?_⟩
  .rintro i σ G' ⟨v6,v7,v8,v9,rfl,k,_⟩ _;exact yG (k _ _ hq0 gq)
  .rintro i w σ G' hw ⟨v6,v7,v8,v9,rfl,k,D'⟩;rw[Zp] at hw;obtain ⟨s,hs',rfl⟩:=Zq.mp hw
   erw[]
   exact zgN hn (r:=r) (so s (Zo hs')) D' fun w7 w8 w9 G'' k'' D''=>⟨_,w7,w8,w9,rfl,k.trans k'',D''⟩
  .rintro σ G' ⟨v6,v7,v8,v9,rfl,k,D'⟩;refine yX ?_
   erw[]
   exact hq G'
 refine yX ?_
 erw[e7]
 refine ⟨d,l,4,rfl,D3,by decide,fun j G4 j0 j4 k4 D4=>?_⟩;have g4:=k4 _ _ hr gr;simp only[yT,yF]
 by_cases ej:j=0
 .subst ej;simp only[decide_true,if_true];refine yX ?_
  erw[]
  refine ⟨z12,fun q hq0=>yX ?_⟩;have D5:=qE (o:=.lst (w12.map .str)) hq0 D4;have g5:=vU (u:=.lst (w12.map .str)) hq0 g4;have gq:put G4 q (.lst (w12.map .str)) q=some (.lst (w12.map .str)):=zX;have oq:=tD D4 hq0;show zT _ _ _ _ _ (put G4 q (.lst (w12.map .str)));generalize put G4 q (.lst (w12.map .str))=G5 at D5 g5 gq ⊢
  erw[e7]
  refine ⟨d,l,12,rfl,D5,by decide,fun at' G6 a0 a1 k6 D6=>yX ?_⟩;have g6:=k6 _ _ hr g5;have gq6:=k6 _ _ oq gq
  erw[zS,zR,i0,e1,qF,kZ,g6,zzM]
  refine ⟨⟨by omega,by omega⟩,?_⟩;have len:((List.range (xs.length:Int).toNat).map fun i:Nat=>W.int (i:Int)).length=xs.length:=by simp
  refine ⟨fun i acc G'=>∃ ys:List Str,acc=ys.map .str/\ys.length=i/\(∀ y∈ys,y∈w12)/\G'=G6,⟨[],rfl,rfl,by simp,rfl⟩,?_,by rw[len];exact sz _ (by omega),?_,?_⟩
  .rintro i acc G' ⟨ys,rfl,yl,_,_⟩ _;exact ⟨trivial,by rw[zzM,yl];exact zzR _⟩
  .rintro i w acc G' hw ⟨ys,rfl,yl,ym,rfl⟩;rw[Zp] at hw;obtain ⟨i',hi',rfl⟩:=Zq.mp hw;have him:i' < xs.length:=by simpa using Zo hi'
   simp only[hG,Zf,Zs,List.replicate,zzU,zzV,Zab,Zah,ZC]
   erw[Zbl,if_true,vX]
   refine ⟨.inl ⟨by omega,by omega⟩,by decide,?_⟩;obtain ⟨x,hx,ex⟩:=zd9 (xs:=w12) (ZbV (at'+5 * (i':Int)) (show (12:Int)≠0 by decide)) (ZbB _ (by decide));refine gH (yG gq6) ?_;rw[ex];refine ⟨ys++[x],by simp,by simp[yl],fun y hy=>?_,rfl⟩;rcases ZD.mp hy with hy|hy
   .exact ym y hy
   .rw[zzO hy];exact hx
  .rintro acc G' ⟨ys,rfl,yl,ym,rfl⟩ p hp;rw[len] at yl;refine vB (rest _ p ys _ _ (fun e=>hne (ZM (by rw[← yl,e];rfl))) (by omega) (fun x hx=>zkb x (ym x hx)) (tD D6 hp) zX (qE hp D6))
 .simp only[decide_eq_false ej,zzB,if_false];exact vB (rest G4 r xs none none hne (by omega) hxs hr g4 D4)
end
structure Txt (K:yJ) (mg:Str->Option Value) (sA nA oA jA pA hB hL hW hR hT hM hD hH:Addr):Prop where
 deal:∃ f,mg "_law_deal" = some (.ref f)/\HD K "_law_deal" "_law_deal" jB .none f
 draw:∃ f,mg "_law_draw" = some (.ref f)/\HD K "_law_draw" "_law_draw" jC .none f
 names:∃ f,mg "_law_names" = some (.ref f)/\HD K "_law_names" "_law_names" wF .none f
 say_:∃ f,mg "_law_saying" = some (.ref f)/\HD K "_law_saying" "_law_saying" wT .none f
 parts_:∃ f,mg "_law_all_parts" = some (.ref f)/\HD K "_law_all_parts" "_law_all_parts" yD .none f
 lwords:∃ f,mg "_law_words" = some (.ref f)/\HD K "_law_words" "_law_words" wH .none f
 steps:∃ f,mg "_law_steps" = some (.ref f)/\HD K "_law_steps" "_law_steps" wG .none f
 sides:∃ f,mg "sides_of" = some (.ref f)/\HD K "sides_of" "sides_of" xX .none f
 within:∃ f,mg "all_within" = some (.ref f)/\HD K "all_within" "all_within" wI .none f
 jt:∃ f,mg "joined_text" = some (.ref f)/\HD K "joined_text" "joined_text" wU .none f
 sj:∃ f,mg "show_joined" = some (.ref f)/\HD K "show_joined" "show_joined" xA .none f
 nameof:∃ f,mg "name_of" = some (.ref f)/\HD K "name_of" "name_of" xG .none f
 show_:∃ f,mg "show_saying" = some (.ref f)/\HD K "show_saying" "show_saying" xB .none f
 brc_:∃ f,mg "in_braces" = some (.ref f)/\HD K "in_braces" "in_braces" jF .none f
 ss:∃ f,mg "show_step" = some (.ref f)/\HD K "show_step" "show_step" jI .none f
 loo:∃ f,mg "_law_loose" = some (.ref f)/\HD K "_law_loose" "_law_loose" wE .none f
 txt_:∃ f,mg "_law_text" = some (.ref f)/\HD K "_law_text" "_law_text" jD .none f
 put_:∃ f,mg "put_together" = some (.ref f)/\HD K "put_together" "put_together" xL .none f
 take_:∃ f,mg "take_left" = some (.ref f)/\HD K "take_left" "take_left" jJ .none f
 begin_:∃ f,mg "begin_side" = some (.ref f)/\HD K "begin_side" "begin_side" wJ .none f
 go_:∃ f,mg "go_on" = some (.ref f)/\HD K "go_on" "go_on" rL .none f
 rj:∃ f,mg "read_joined" = some (.ref f)/\HD K "read_joined" "read_joined" wY .none f
 isn:∃ f,mg "is_name" = some (.ref f)/\HD K "is_name" "is_name" kD .none f
 rw_:∃ f,mg "read_word" = some (.ref f)/\HD K "read_word" "read_word" jH .none f
 wb:∃ f,mg "words_between_blanks" = some (.ref f)/\HD K "words_between_blanks" "words_between_blanks" yQ .none f
 wa:∃ f,mg "words_and_brackets" = some (.ref f)/\HD K "words_and_brackets" "words_and_brackets" yO .none f
 rs:∃ f,mg "read_saying" = some (.ref f)/\HD K "read_saying" "read_saying" wZ .none f
 be:∃ f,mg "braces_emptied" = some (.ref f)/\HD K "braces_emptied" "braces_emptied" yE .none f
 dou:∃ f,mg "doubts_of" = some (.ref f)/\HD K "doubts_of" "doubts_of" jE .none f
 ra:∃ f,mg "read_answer" = some (.ref f)/\HD K "read_answer" "read_answer" wX .none f
 rd:∃ f,mg "read_doubt" = some (.ref f)/\HD K "read_doubt" "read_doubt" wM .none f
 rst:∃ f,mg "read_step" = some (.ref f)/\HD K "read_step" "read_step" jG .none f
 alike_:∃ f,mg "_law_alike" = some (.ref f)/\HD K "_law_alike" "_law_alike" wD .none f
 max:mg "max" = none
 len:mg "len" = none
 all:mg "all" = none
 list:mg "list" = none
 isi:mg "isinstance" = none
 range:mg "range" = none
 zip:mg "zip" = none
 rev:mg "reversed" = none
 str:mg "str" = none
 tup:mg "tuple" = none
 srt:mg "sorted" = none
 mgLo:∃ t,mg "LONGEST_NAME" = some (.int 6 t)
 mgSi:∃ t,mg "SINGLE_BINDS" = some (.int 5 t)
 mgS:mg "sides_of" = some (.ref sA)
 hdS:HD K "sides_of" "sides_of" xX .none sA
 mgO:mg "name_of" = some (.ref nA)
 hdO:HD K "name_of" "name_of" xG .none nA
 nb:nsIn K cStatics sharingNotToldKey=some none
 mgB:mg "BINDS_saywrite" = some (.ref hB)
 rpB:∀ H,xT K H (.dcf bK bV) (.ref hB)
 mgL:mg "LEAST" = some (.ref hL)
 rpL:∀ H,xT K H (.dcf lK lV) (.ref hL)
 mgW:mg "BETWEEN" = some (.ref hW)
 rpW:∀ H,xT K H (.dcf wK wV) (.ref hW)
 mgR:mg "BINDS_sayread" = some (.ref hR)
 rpR:∀ H,xT K H (.dcf rK rV) (.ref hR)
 mgT:mg "TAKES" = some (.ref hT)
 rpT:∀ H,xT K H (.dcf tK tV) (.ref hT)
 mgM:mg "MADE" = some (.ref hM)
 rpM:∀ H,xT K H (.dcf mK mV) (.ref hM)
 mgD:mg "WORDS" = some (.ref hD)
 rpD:∀ H,xT K H (.dcf wdK wdV) (.ref hD)
 mgH:mg "LENGTHS" = some (.ref hH)
 rpH:∀ H,xT K H (.dcf ["first", "other"] [.int 3,.int 2]) (.ref hH)
 mgN:mg "NO_NAMES" = some (.ref oA)
 rpN:∀ H,xT K H (.tup (noN.map .str)) (.ref oA)
 mgJ:mg "JOINING" = some (.ref jA)
 rpJ:∀ H,xT K H (.tup (jL)) (.ref jA)
 mgP:mg "WORDS_OF_REPLIES" = some (.ref pA)
 rpP:∀ H,xT K H (.tup (K29.rpL.map .str)) (.ref pA)
def rk (n:Nat):Nat:=2 * n+2+(if 10<=n then 10 else 0)+(if 11<=n then 10 else 0)+(if 39<=n then 14 else 0)
section
variable {q:Pr} {sA nA oA jA pA hB hL hW hR hT hM hD hH:Addr}
def Pn (q:Pr) (sA nA:Addr) (n:Nat):Prop:=∀ A,Room (rk n) A->∀ f∈(fnL q.K sA nA).take n,tU (q.at A) f
def Gam0:Ctx3:=⟨[],[],[],[],[],[],[]⟩
def zeM:MC:=⟨zZ xX,rZ,(fun _=>true),[],[],[],[],[],[]⟩
theorem zds:qG vC zeM (zK xX)=true:=by decide +kernel
def zhJ:MC:=⟨zZ xG,pH,(fun _=>true),[],[],[],[],[],[]⟩
theorem zeT:qG sH zhJ (zK xG)=true:=by decide +kernel
theorem us1' {P:List Value->Prop} (h:∀ a,P [a]) (us:List Value) (e:us.length=1):P us:=by
 cases us with
 |nil=>cases e
 |cons a l=>cases l with
  |nil=>exact h a
  |cons b l=>cases e
theorem pM:∀ ws G (Q Q':Q3),(∀ w G',Q w G'->Q' w G')->jP ws G Q XN->jP ws G Q' XN:=fun ws G Q Q' k h=>by
 obtain ⟨t,h1,h⟩:=h;exact ⟨t,h1,k _ _ h⟩
theorem rS:∀ ws G (Q Q':Q3),(∀ w G',Q w G'->Q' w G')->jS ws G Q XN->jS ws G Q' XN:=fun ws G Q Q' k h=>by
 obtain ⟨t,h1,h⟩:=h;exact ⟨t,h1,k _ _ h⟩
theorem zlZ {A:Around} (hr:Room 0 A):L3.Good Gam0 (q.at A):=zfd (Γ:=Gam0) (p:=q.at A) (by have:=hr.un;show A.units+200<cLine;omega) yC yC yC yC yC yC rfl
theorem zcu (T:Txt q.K q.mg sA nA oA jA pA hB hL hW hR hT hM hD hH) {A:Around} (hr:Room 1 A) {y:Str}:SxE (q.at A) ⟨hcM y,hcS sA jP⟩/\qX (hcS sA jP):=by
 obtain ⟨fd,F,_⟩:=T.hdS.fd;have FO:=nF (k:=0) (sp:=jP) (M:=zeM) F cY (fun A hr=>zlZ hr) ⟨rfl,rfl,rfl,rfl,rfl,rfl,rfl,rfl⟩ zds (fun ws G Q h=>by obtain ⟨t,rfl,_⟩:=h;rfl) (fun ws G Q h=>zaN h);exact ⟨zks FO F.kp (sG F fun _ _ _ _ _ _=>us1' fun _=>rfl) pM hr,zcV pM⟩
theorem ziq (T:Txt q.K q.mg sA nA oA jA pA hB hL hW hR hT hM hD hH) {A:Around} (hr:Room 1 A) {y:Str}:SxE (q.at A) ⟨hcM y,hcS nA jS⟩/\qX (hcS nA jS):=by
 obtain ⟨fd,F,_⟩:=T.hdO.fd;have FO:=nF (k:=0) (sp:=jS) (M:=zhJ) F zaQ (fun A hr=>zlZ hr) ⟨rfl,rfl,rfl,rfl,rfl,rfl,rfl,rfl⟩ zeT (fun ws G Q h=>by obtain ⟨t,rfl,_⟩:=h;rfl) (fun ws G Q h=>cC h);exact ⟨zks FO F.kp (sG F fun _ _ _ _ _ _=>us1' fun _=>rfl) rS hr,zcV rS⟩
theorem zlY (T:Txt q.K q.mg sA nA oA jA pA hB hL hW hR hT hM hD hH) {l:List Fn3} {A:Around} (hu:A.units+200<cLine) (hr1:Room 1 A) (h:∀ f∈l,tU (q.at A) f):L3.Good (GamL sA nA l) (q.at A) :=
 zfd (Γ:=GamL sA nA l) hu h
  (zJ (xI T.mgLo.choose_spec (v:=.int 6) ⟨_,rfl⟩ fun _=>rfl) (zJ (xI T.mgN (v:=.ref oA) rfl T.rpN) (zJ (xI T.mgJ (v:=.ref jA) rfl T.rpJ) (zJ (xI T.mgR (v:=.ref hR) rfl T.rpR) (zJ (xI T.mgT (v:=.ref hT) rfl T.rpT) (zJ (xI T.mgM (v:=.ref hM) rfl T.rpM) (zJ (xI T.mgB (v:=.ref hB) rfl T.rpB) (zJ (xI T.mgSi.choose_spec (v:=.int 5) ⟨_,rfl⟩ fun _=>rfl) (zJ (xI T.mgL (v:=.ref hL) rfl T.rpL) (zJ (xI T.mgW (v:=.ref hW) rfl T.rpW) (zJ (xI T.mgD (v:=.ref hD) rfl T.rpD) (zJ (xI T.mgP (v:=.ref pA) rfl T.rpP) (zJ (xI T.mgH (v:=.ref hH) rfl T.rpH) (zJ (zb3 T.str (by decide +kernel)) (zJ (zb3 T.tup (by decide +kernel)) (zJ (zb3 T.list (by decide +kernel)) (zJ (xI T.mgS (v:=.ref sA) rfl fun _=>rfl) (zJ (xI T.mgO (v:=.ref nA) rfl fun _=>rfl) yC))))))))))))))))))
  (zJ zjH (zJ zhc (zJ zjN (zJ zjM (zJ zfp (zJ zhb yC))))))
  (zJ (zjF T.range) (zJ (zjD T.zip) yC))
  yC
  (zJ (zjG T.list T.rev) (zJ ⟨sx_rv,zgf⟩ (zJ (zcu T hr1) (zJ (zcu T hr1) (zJ (ziq T hr1) (zJ ⟨zd4 T.nb,mN⟩ (zJ ⟨zd4 T.nb,mN⟩ (zJ ⟨zd4 T.nb,mN⟩ (zJ ⟨dN,vD⟩ (zJ ⟨dN,vD⟩ (zJ ⟨dN,vD⟩ (zJ ⟨dN,vD⟩ (zJ ⟨dN,vD⟩ (zJ ⟨zkt (xI T.mgB (v:=.ref hB) rfl T.rpB),zfc _ _⟩ yC)))))))))))))) rfl
theorem dQ {k:Nat} {A:Around} (hr:Room k A):A.units+200<cLine:=by have:=hr.un;omega
theorem good (T:Txt q.K q.mg sA nA oA jA pA hB hL hW hR hT hM hD hH) {n:Nat} (h:Pn q sA nA n):∀ A,Room (rk n) A->L3.Good (yV q.K sA nA n) (q.at A):=fun A hr=>zlY T (dQ hr) (hr.mono (by unfold rk;omega)) (h A hr)
theorem next {n:Nat} {e:Fn3} (h:Pn q sA nA n) (hk:rk n<=rk (n+1)) (he:(fnL q.K sA nA).take (n+1)=(fnL q.K sA nA).take n++[e]) (hx:∀ A,Room (rk (n+1)) A->tU (q.at A) e):Pn q sA nA (n+1):=fun A hr=>by
 rw[he];exact gF (h A (hr.mono hk)) (hx A hr)
theorem p6 (T:Txt q.K q.mg sA nA oA jA pA hB hL hW hR hT hM hD hH):Pn q sA nA 6:=fun A hr=>zJ (zjI T.max) (zJ (zjK T.len) (zJ (zjO T.all) (zJ (zjJ T.list) (zJ (zjL T.isi) (zJ (zjE (dQ hr) T.srt) yC)))))
theorem xK {n:Nat} {nm qual:Str} {st:Stmt} {f:Addr} {M:MC} {ps:List Str} {sp:vW} {body:ISs} (T:Txt q.K q.mg sA nA oA jA pA hB hL hW hR hT hM hD hH) (h:Pn q sA nA n) (hk:rk n+1<=rk (n+1)) (hm:q.mg nm=some (.ref f)) (hd:HD q.K nm qual st .none f) (S:FnScope M.N ps (zZ st)) (eM:MOk (yV q.K sA nA n) M (zZ st)) (look:qG body M (zK st)=true)
  (len:∀ ws G Q,sp ws G Q XN->ws.length=ps.length) (hb:∀ ws G Q,sp ws G Q XN->zG (yV q.K sA nA n) XN body { nx:=fun _ G'=>Q .non G',rt:=Q } (yR M.N ws) G) (mono:rN ⟨nm,sp⟩)
  (hbind:∀ (kV doc pm:Value) (an:Option Addr) (cdv ct:Value) (us:List Value),us.length=ps.length->bindArgs (fnOf nm qual (zA st) (zK st) (zZ st) .none kV doc pm an cdv ct) ⟨us,[]⟩=pure (ps.zip us))
  (he:(fnL q.K sA nA).take (n+1)=(fnL q.K sA nA).take n++[⟨nm,sp⟩]):Pn q sA nA (n+1):=by
 obtain ⟨fd,F,_⟩:=hd.fd;have FO:=nF F S (good T h) eM look len hb;exact next h (by omega) he fun A hr=>zb5 FO hm F.kp (sG F hbind) mono hr hk
theorem zi7 {n N:Nat} {nm qual:Str} {st:Stmt} {f:Addr} {M:MC} {ps:List Str} {sp:Nat->vW} {body:ISs} (T:Txt q.K q.mg sA nA oA jA pA hB hL hW hR hT hM hD hH) (h:Pn q sA nA n) (hk:rk n+N<=rk (n+1)) (hm:q.mg nm=some (.ref f)) (hd:HD q.K nm qual st .none f) (S:FnScope M.N ps (zZ st)) (eM:∀ j,MOk (kF q.K sA nA n ⟨nm,sp j⟩) M (zZ st)) (look:qG body M (zK st)=true)
  (h0:∀ ws G Q,¬ sp 0 ws G Q XN) (len:∀ j ws G Q,sp j ws G Q XN->ws.length=ps.length) (hb:∀ j ws G Q,sp (j+1) ws G Q XN->zG (kF q.K sA nA n ⟨nm,sp j⟩) XN body { nx:=fun _ G'=>Q .non G',rt:=Q } (yR M.N ws) G) (mono:∀ j,rN ⟨nm,sp j⟩)
  (hbind:∀ (kV doc pm:Value) (an:Option Addr) (cdv ct:Value) (us:List Value),us.length=ps.length->bindArgs (fnOf nm qual (zA st) (zK st) (zZ st) .none kV doc pm an cdv ct) ⟨us,[]⟩=pure (ps.zip us))
  (he:(fnL q.K sA nA).take (n+1)=(fnL q.K sA nA).take n++[⟨nm,sp N⟩]):Pn q sA nA (n+1):=by
 obtain ⟨fd,F,_⟩:=hd.fd;have FO:=zhx (k:=rk n) (Γ:=fun e=>kF q.K sA nA n e) F S hm (sG F hbind) h0 len mono (fun j A hr hx=>zlY T (dQ hr) (hr.mono (by unfold rk;omega)) (gF (h A hr) hx)) eM look hb N;exact next h (by omega) he fun A hr=>zb5 FO hm F.kp (sG F hbind) (mono N) hr hk
theorem usS {P:List Value->Prop} {n:Nat} (h:∀ a l,l.length=n->P (a::l)) (us:List Value) (e:us.length=n+1):P us:=by
 cases us with
 |nil=>exact absurd e (Nat.succ_ne_zero n).symm
 |cons a l=>exact h a l (Nat.succ.inj e)
theorem us0 {P:List Value->Prop} (h:P []) (us:List Value) (e:us.length=0):P us:=by
 cases us with
 |nil=>exact h
 |cons a l=>exact absurd e (Nat.succ_ne_zero _)
theorem us1 {P:List Value->Prop} (h:∀ a0,P [a0]):∀ us:List Value,us.length=1->P us:=usS (P:=fun l=>P (l)) (fun a0=>us0 (P:=fun l=>P (a0::l)) (h a0))
theorem us2 {P:List Value->Prop} (h:∀ a0 a1,P [a0,a1]):∀ us:List Value,us.length=2->P us:=usS (P:=fun l=>P (l)) (fun a0=>usS (P:=fun l=>P (a0::l)) (fun a1=>us0 (P:=fun l=>P (a0::a1::l)) (h a0 a1)))
theorem us3 {P:List Value->Prop} (h:∀ a0 a1 a2,P [a0,a1,a2]):∀ us:List Value,us.length=3->P us:=usS (P:=fun l=>P (l)) (fun a0=>usS (P:=fun l=>P (a0::l)) (fun a1=>usS (P:=fun l=>P (a0::a1::l)) (fun a2=>us0 (P:=fun l=>P (a0::a1::a2::l)) (h a0 a1 a2))))
theorem p7 (T:Txt q.K q.mg sA nA oA jA pA hB hL hW hR hT hM hD hH):Pn q sA nA 7:=by
 obtain ⟨f,hm,hd⟩:=T.deal
 exact xK (sp:=zee) (M:=bN) T (p6 T) (by decide) hm hd zbL ⟨rfl,rfl,rfl,rfl,rfl,rfl,rfl,rfl⟩ zay
  (fun ws G Q h=>by obtain ⟨a,b,ns,rfl,_⟩:=h;rfl) (fun ws G Q ⟨a,b,ns,e,h1,h2,h3,h4⟩=>by subst e;exact zhg rfl rfl h1 h2 h3 h4) (zbC) (fun _ _ _ _ _ _=>us2 (fun _ _=>rfl)) rfl
theorem p8 (T:Txt q.K q.mg sA nA oA jA pA hB hL hW hR hT hM hD hH):Pn q sA nA 8:=by
 obtain ⟨f,hm,hd⟩:=T.draw
 exact xK (sp:=zcx) (M:=bO) T (p7 T) (by decide) hm hd zbK ⟨rfl,rfl,rfl,rfl,rfl,rfl,rfl,rfl⟩ zax
  (fun ws G Q h=>by obtain ⟨a,b,m,rfl,_⟩:=h;rfl) (fun ws G Q ⟨a,b,m,e,h1,h2,h3⟩=>by subst e;exact zhe rfl rfl h1 h2 h3) (zbB) (fun _ _ _ _ _ _=>us2 (fun _ _=>rfl)) rfl
theorem zd1:rN ⟨"_law_text", dI⟩:=fun ws G Q Q' E k hh=>by
 obtain ⟨d,l,s,h1,h2,h⟩:=hh;refine ⟨d,l,s,h1,h2,?_⟩;rcases h with ⟨e,h⟩|⟨e,h⟩
 .exact .inl ⟨e,fun G' a b=>k _ _ (h G' a b)⟩
 .exact .inr ⟨e,fun xs G' a b c=>k _ _ (h xs G' a b c)⟩
theorem ziE:rN ⟨"read_answer", spRA⟩:=fun ws G Q Q' E k hh=>by
 obtain ⟨p,q,e,h⟩:=hh;refine ⟨p,q,e,?_⟩;rcases h with ⟨t,h1,h2,h⟩|⟨w,a,t,h1,h2,h3,h⟩
 .exact .inl ⟨t,h1,h2,fun G' y=>k _ _ (h G' y)⟩
 .exact .inr ⟨w,a,t,h1,h2,h3,fun G' y=>k _ _ (h G' y)⟩
theorem ziD:rN ⟨"read_doubt", spRD⟩:=fun ws G Q Q' E k hh=>by
 obtain ⟨p,q,e,h⟩:=hh;refine ⟨p,q,e,?_⟩;rcases h with ⟨w,a,h1,h2,h3,h⟩|⟨w,a,h1,h2,h3,h⟩
 .exact .inl ⟨w,a,h1,h2,h3,fun G' y=>k _ _ (h G' y)⟩
 .exact .inr ⟨w,a,h1,h2,h3,fun G' y=>k _ _ (h G' y)⟩
theorem p9 (T:Txt q.K q.mg sA nA oA jA pA hB hL hW hR hT hM hD hH):Pn q sA nA 9:=by
 obtain ⟨f,hm,hd⟩:=T.names
 exact xK (sp:=fF) (M:=gL) T (p8 T) (by decide) hm hd zaV ⟨rfl,rfl,rfl,rfl,rfl,rfl,rfl,rfl⟩ bE
  (fun ws G Q h=>by obtain ⟨d,l,m,rfl,_⟩:=h;rfl) (fun ws G Q h=>zeK (by decide) h) (fun ws G Q Q' E k hh=>by
   obtain ⟨d,l,m,h1,h2,h3,h4,h⟩:=hh;exact ⟨d,l,m,h1,h2,h3,h4,fun r xs G' a b c d e f g=>k _ _ (h r xs G' a b c d e f g)⟩) (fun _ _ _ _ _ _=>us2 (fun _ _=>rfl)) rfl
theorem p10 (T:Txt q.K q.mg sA nA oA jA pA hB hL hW hR hT hM hD hH):Pn q sA nA 10:=by
 obtain ⟨f,hm,hd⟩:=T.say_
 exact zi7 (N:=10) (sp:=wL) (M:=nU) T (p9 T) (by decide) hm hd zap (fun j=>⟨rfl,rfl,rfl,rfl,rfl,rfl,rfl,rfl⟩) fR
  (fun ws G Q hh=>by
   obtain ⟨d,l,r,m,xs,_,_,_,_,_,_,_,h1,h2,_⟩:=hh;omega) (fun j ws G Q h=>by obtain ⟨d,l,r,m,xs,rfl,_⟩:=h;rfl) (fun j ws G Q h=>zdj h) (fun j ws G Q Q' E k hh=>by
   obtain ⟨d,l,r,m,xs,h1,h2,h3,h4,h5,h6,h7,h8,h9,h10,h⟩:=hh;exact ⟨d,l,r,m,xs,h1,h2,h3,h4,h5,h6,h7,h8,h9,h10,fun u0 G' y0 y1 y2 y3=>k _ _ (h u0 G' y0 y1 y2 y3)⟩) (fun _ _ _ _ _ _=>us3 fun _ _ _=>rfl) rfl
theorem p11 (T:Txt q.K q.mg sA nA oA jA pA hB hL hW hR hT hM hD hH):Pn q sA nA 11:=by
 obtain ⟨f,hm,hd⟩:=T.parts_
 exact zi7 (N:=10) (sp:=qN) (M:=tY) T (p10 T) (by decide) hm hd mP (fun j=>⟨rfl,rfl,rfl,rfl,rfl,rfl,rfl,rfl⟩) pY
  (fun ws G Q hh=>by
   obtain ⟨t,_,_,h1,_⟩:=hh;omega) (fun j ws G Q h=>by obtain ⟨t,rfl,_⟩:=h;rfl) (fun j ws G Q h=>zez h) (fun j ws G Q Q' E k hh=>by
   obtain ⟨t,h1,h2,h3,h⟩:=hh;exact ⟨t,h1,h2,h3,fun u0 u1 G' y0 y1 y2 y3 y4 y5=>k _ _ (h u0 u1 G' y0 y1 y2 y3 y4 y5)⟩) (fun _ _ _ _ _ _=>us1 fun _=>rfl) rfl
theorem p12 (T:Txt q.K q.mg sA nA oA jA pA hB hL hW hR hT hM hD hH):Pn q sA nA 12:=by
 obtain ⟨f,hm,hd⟩:=T.lwords
 exact xK (sp:=fK) (M:=gN) T (p11 T) (by decide) hm hd zaT ⟨rfl,rfl,rfl,rfl,rfl,rfl,rfl,rfl⟩ bG
  (fun ws G Q h=>by obtain ⟨t,rfl,_⟩:=h;rfl) (fun ws G Q h=>zdq h) (fun ws G Q Q' E k hh=>by
   obtain ⟨t,h1,h⟩:=hh;exact ⟨t,h1,h.mono k⟩) (fun _ _ _ _ _ _=>us1 (fun _=>rfl)) rfl
theorem p13 (T:Txt q.K q.mg sA nA oA jA pA hB hL hW hR hT hM hD hH):Pn q sA nA 13:=by
 obtain ⟨f,hm,hd⟩:=T.steps
 exact xK (sp:=fJ) (M:=gM) T (p12 T) (by decide) hm hd zaU ⟨rfl,rfl,rfl,rfl,rfl,rfl,rfl,rfl⟩ bF
  (fun ws G Q h=>by obtain ⟨d,l,t,rfl,_⟩:=h;rfl) (fun ws G Q h=>zea (by decide) h) (fun ws G Q Q' E k hh=>by
   obtain ⟨d,l,t,h1,h2,h3,h⟩:=hh;exact ⟨d,l,t,h1,h2,h3,fun u0 u1 G' y0 y1 y2 y3 y4=>k _ _ (h u0 u1 G' y0 y1 y2 y3 y4)⟩) (fun _ _ _ _ _ _=>us2 (fun _ _=>rfl)) rfl
theorem p14 (T:Txt q.K q.mg sA nA oA jA pA hB hL hW hR hT hM hD hH):Pn q sA nA 14:=by
 obtain ⟨f,hm,hd⟩:=T.sides
 exact xK (sp:=jP) (M:=za5) T (p13 T) (by decide) hm hd cY ⟨rfl,rfl,rfl,rfl,rfl,rfl,rfl,rfl⟩ zba
  (fun ws G Q h=>by obtain ⟨t,rfl,_⟩:=h;rfl) (fun ws G Q h=>zaN h) (fun ws G Q Q' E k hh=>by
   obtain ⟨t,h1,h⟩:=hh;exact ⟨t,h1,k _ _ h⟩) (fun _ _ _ _ _ _=>us1 (fun _=>rfl)) rfl
theorem p15 (T:Txt q.K q.mg sA nA oA jA pA hB hL hW hR hT hM hD hH):Pn q sA nA 15:=by
 obtain ⟨f,hm,hd⟩:=T.within
 exact xK (sp:=pN sA) (M:=gO) T (p14 T) (by decide) hm hd zaS ⟨rfl,rfl,rfl,rfl,rfl,rfl,rfl,rfl⟩ bH
  (fun ws G Q h=>by obtain ⟨t,rfl,_⟩:=h;rfl) (fun ws G Q h=>zdd h) (fun ws G Q Q' E k hh=>by
   obtain ⟨t,h1,h2,h⟩:=hh;exact ⟨t,h1,h2,h.mono k⟩) (fun _ _ _ _ _ _=>us2 (fun _ _=>rfl)) rfl
theorem p16 (T:Txt q.K q.mg sA nA oA jA pA hB hL hW hR hT hM hD hH):Pn q sA nA 16:=by
 obtain ⟨f,hm,hd⟩:=T.jt
 exact xK (sp:=spJt) (M:=nY) T (p15 T) (by decide) hm hd zao ⟨rfl,rfl,rfl,rfl,rfl,rfl,rfl,rfl⟩ fS
  (fun ws G Q h=>by obtain ⟨t,p,ini,rfl,_⟩:=h;rfl) (fun ws G Q h=>zlG h) (fun ws G Q Q' E k hh=>by
   obtain ⟨t,p,ini,h1,h2,h3,h4,h5,h6,h⟩:=hh;exact ⟨t,p,ini,h1,h2,h3,h4,h5,h6,fun G' a b=>k _ _ (h G' a b)⟩) (fun _ _ _ _ _ _=>us3 (fun _ _ _=>rfl)) rfl
theorem p17 (T:Txt q.K q.mg sA nA oA jA pA hB hL hW hR hT hM hD hH):Pn q sA nA 17:=by
 obtain ⟨f,hm,hd⟩:=T.sj
 exact xK (sp:=fH sA nA) (M:=pE) T (p16 T) (by decide) hm hd zak ⟨rfl,rfl,rfl,rfl,rfl,rfl,rfl,rfl⟩ fW
  (fun ws G Q h=>by obtain ⟨t,rfl,_⟩:=h;rfl) (fun ws G Q h=>zkx (by decide) h) (fun ws G Q Q' E k hh=>by
   obtain ⟨t,h1,h2,h3,h⟩:=hh;exact ⟨t,h1,h2,h3,fun G' y=>k _ _ (h G' y)⟩) (fun _ _ _ _ _ _=>us3 (fun _ _ _=>rfl)) rfl
theorem p18 (T:Txt q.K q.mg sA nA oA jA pA hB hL hW hR hT hM hD hH):Pn q sA nA 18:=by
 obtain ⟨f,hm,hd⟩:=T.nameof
 exact xK (sp:=jS) (M:=zcN) T (p17 T) (by decide) hm hd zaQ ⟨rfl,rfl,rfl,rfl,rfl,rfl,rfl,rfl⟩ zbY
  (fun ws G Q h=>by obtain ⟨t,rfl,_⟩:=h;rfl) (fun ws G Q h=>cC h) (fun ws G Q Q' E k hh=>by
   obtain ⟨t,h1,h⟩:=hh;exact ⟨t,h1,k _ _ h⟩) (fun _ _ _ _ _ _=>us1 (fun _=>rfl)) rfl
theorem p19 (T:Txt q.K q.mg sA nA oA jA pA hB hL hW hR hT hM hD hH):Pn q sA nA 19:=by
 obtain ⟨f,hm,hd⟩:=T.show_
 exact xK (sp:=mT) (M:=pF) T (p18 T) (by decide) hm hd zaj ⟨rfl,rfl,rfl,rfl,rfl,rfl,rfl,rfl⟩ fX
  (fun ws G Q h=>by obtain ⟨t,rfl,_⟩:=h;rfl) (fun ws G Q h=>zgb (by decide) h) (fun ws G Q Q' E k hh=>by
   obtain ⟨t,h1,h2,h3,h⟩:=hh;exact ⟨t,h1,h2,h3,fun G' y=>k _ _ (h G' y)⟩) (fun _ _ _ _ _ _=>us1 (fun _=>rfl)) rfl
theorem p20 (T:Txt q.K q.mg sA nA oA jA pA hB hL hW hR hT hM hD hH):Pn q sA nA 20:=by
 obtain ⟨f,hm,hd⟩:=T.brc_
 exact xK (sp:=pL) (M:=bR) T (p19 T) (by decide) hm hd zbH ⟨rfl,rfl,rfl,rfl,rfl,rfl,rfl,rfl⟩ zau
  (fun ws G Q h=>by obtain ⟨t,rfl,_⟩:=h;rfl) (fun ws G Q h=>zdG (by decide) h) (fun ws G Q Q' E k hh=>by
   obtain ⟨t,h1,h2,h⟩:=hh;exact ⟨t,h1,h2,fun G' y=>k _ _ (h G' y)⟩) (fun _ _ _ _ _ _=>us1 (fun _=>rfl)) rfl
theorem p21 (T:Txt q.K q.mg sA nA oA jA pA hB hL hW hR hT hM hD hH):Pn q sA nA 21:=by
 obtain ⟨f,hm,hd⟩:=T.ss
 exact xK (sp:=fI) (M:=bY) T (p20 T) (by decide) hm hd zbE ⟨rfl,rfl,rfl,rfl,rfl,rfl,rfl,rfl⟩ zar
  (fun ws G Q h=>by obtain ⟨t,rfl,_⟩:=h;rfl) (fun ws G Q h=>zel (by decide) h) (fun ws G Q Q' E k hh=>by
   obtain ⟨t,h1,h2,h⟩:=hh;exact ⟨t,h1,h2,fun G' y=>k _ _ (h G' y)⟩) (fun _ _ _ _ _ _=>us1 (fun _=>rfl)) rfl
theorem p22 (T:Txt q.K q.mg sA nA oA jA pA hB hL hW hR hT hM hD hH):Pn q sA nA 22:=by
 obtain ⟨f,hm,hd⟩:=T.loo
 exact xK (sp:=fE) (M:=gK) T (p21 T) (by decide) hm hd zaW ⟨rfl,rfl,rfl,rfl,rfl,rfl,rfl,rfl⟩ bD
  (fun ws G Q h=>by obtain ⟨d,l,t,rfl,_⟩:=h;rfl) (fun ws G Q h=>zeS (by decide) h) (fun ws G Q Q' E k hh=>by
   obtain ⟨d,l,t,h1,h2,h3,h⟩:=hh;exact ⟨d,l,t,h1,h2,h3,fun u0 G' y0 y1 y2=>k _ _ (h u0 G' y0 y1 y2)⟩) (fun _ _ _ _ _ _=>us2 (fun _ _=>rfl)) rfl
theorem p23 (T:Txt q.K q.mg sA nA oA jA pA hB hL hW hR hT hM hD hH):Pn q sA nA 23:=by
 obtain ⟨f,hm,hd⟩:=T.txt_
 exact xK (sp:=dI) (M:=bP) T (p22 T) (by decide) hm hd zbJ ⟨rfl,rfl,rfl,rfl,rfl,rfl,rfl,rfl⟩ zaw
  (fun ws G Q h=>by obtain ⟨d,l,s,_,_,⟨rfl,_⟩|⟨rfl,_⟩⟩:=h<;>rfl) (fun ws G Q h=>zf0 (by decide) h) (zd1) (fun _ _ _ _ _ _=>us3 (fun _ _ _=>rfl)) rfl
theorem p24 (T:Txt q.K q.mg sA nA oA jA pA hB hL hW hR hT hM hD hH):Pn q sA nA 24:=by
 obtain ⟨f,hm,hd⟩:=T.put_
 exact xK (sp:=zf8) (M:=rP) T (p23 T) (by decide) hm hd cX ⟨rfl,rfl,rfl,rfl,rfl,rfl,rfl,rfl⟩ mB
  (fun ws G Q h=>by obtain ⟨w,D,p,rfl,_⟩:=h;rfl) (fun ws G Q h=>ziH h) (fun ws G Q Q' E k hh=>by
   obtain ⟨w,D,p,h1,h2,h3,h4,h⟩:=hh;exact ⟨w,D,p,h1,h2,h3,h4,fun G' a b=>k _ _ (h G' a b)⟩) (fun _ _ _ _ _ _=>us2 (fun _ _=>rfl)) rfl
theorem p25 (T:Txt q.K q.mg sA nA oA jA pA hB hL hW hR hT hM hD hH):Pn q sA nA 25:=by
 obtain ⟨f,hm,hd⟩:=T.take_
 exact xK (sp:=dH) (M:=bZ) T (p24 T) (by decide) hm hd zbD ⟨rfl,rfl,rfl,rfl,rfl,rfl,rfl,rfl⟩ zaq
  (fun ws G Q h=>by obtain ⟨m,D,V,p,r,rfl,_⟩:=h;rfl) (fun ws G Q h=>zf1 (by decide) h) (fun ws G Q Q' E k hh=>by
   obtain ⟨m,D,V,p,r,h1,h2,h3,h4,h5,h6,h7,h8,h⟩:=hh;exact ⟨m,D,V,p,r,h1,h2,h3,h4,h5,h6,h7,h8,fun G' a b c=>k _ _ (h G' a b c)⟩) (fun _ _ _ _ _ _=>us3 (fun _ _ _=>rfl)) rfl
theorem p26 (T:Txt q.K q.mg sA nA oA jA pA hB hL hW hR hT hM hD hH):Pn q sA nA 26:=by
 obtain ⟨f,hm,hd⟩:=T.begin_
 exact xK (sp:=tJ true) (M:=gP) T (p25 T) (by decide) hm hd zaR ⟨rfl,rfl,rfl,rfl,rfl,rfl,rfl,rfl⟩ bI
  (fun ws G Q h=>by obtain ⟨t,D,V,p,r,rfl,_⟩:=h;rfl) (fun ws G Q h=>zfH (by decide) h) (fun ws G Q Q' E k hh=>by
   obtain ⟨t,D,V,p,r,h1,h2,h3,h4,h5,h6,h7,h8,h⟩:=hh;exact ⟨t,D,V,p,r,h1,h2,h3,h4,h5,h6,h7,h8,fun G' a b c=>k _ _ (h G' a b c)⟩) (fun _ _ _ _ _ _=>us3 (fun _ _ _=>rfl)) rfl
theorem p27 (T:Txt q.K q.mg sA nA oA jA pA hB hL hW hR hT hM hD hH):Pn q sA nA 27:=by
 obtain ⟨f,hm,hd⟩:=T.go_
 exact xK (sp:=tJ false) (M:=zhK) T (p26 T) (by decide) hm hd ziv ⟨rfl,rfl,rfl,rfl,rfl,rfl,rfl,rfl⟩ zeU
  (fun ws G Q h=>by obtain ⟨t,D,V,p,r,rfl,_⟩:=h;rfl) (fun ws G Q h=>zl0 (by decide) h) (fun ws G Q Q' E k hh=>by
   obtain ⟨t,D,V,p,r,h1,h2,h3,h4,h5,h6,h7,h8,h⟩:=hh;exact ⟨t,D,V,p,r,h1,h2,h3,h4,h5,h6,h7,h8,fun G' a b c=>k _ _ (h G' a b c)⟩) (fun _ _ _ _ _ _=>us3 (fun _ _ _=>rfl)) rfl
theorem p28 (T:Txt q.K q.mg sA nA oA jA pA hB hL hW hR hT hM hD hH):Pn q sA nA 28:=by
 obtain ⟨f,hm,hd⟩:=T.rj
 exact xK (sp:=spRJ) (M:=pC) T (p27 T) (by decide) hm hd zam ⟨rfl,rfl,rfl,rfl,rfl,rfl,rfl,rfl⟩ fU
  (fun ws G Q h=>by obtain ⟨t,b,tk,q,rfl,_⟩:=h;rfl) (fun ws G Q h=>zkI (by decide) h) (fun ws G Q Q' E k hh=>by
   obtain ⟨t,b,tk,q,h1,h2,h3,h4,h5,h⟩:=hh;exact ⟨t,b,tk,q,h1,h2,h3,h4,h5,fun G' y=>k _ _ (h G' y)⟩) (fun _ _ _ _ _ _=>us1 (fun _=>rfl)) rfl
theorem p29 (T:Txt q.K q.mg sA nA oA jA pA hB hL hW hR hT hM hD hH):Pn q sA nA 29:=by
 obtain ⟨f,hm,hd⟩:=T.isn
 exact xK (sp:=zf9) (M:=zcO) T (p28 T) (by decide) hm hd zep ⟨rfl,rfl,rfl,rfl,rfl,rfl,rfl,rfl⟩ zbZ
  (fun ws G Q h=>by obtain ⟨x,rfl,_⟩:=h;rfl) (fun ws G Q h=>zjk (by decide) h) (fun ws G Q Q' E k hh=>by
   obtain ⟨x,h1,h2,h⟩:=hh;exact ⟨x,h1,h2,fun G' y=>k _ _ (h G' y)⟩) (fun _ _ _ _ _ _=>us1 (fun _=>rfl)) rfl
theorem p30 (T:Txt q.K q.mg sA nA oA jA pA hB hL hW hR hT hM hD hH):Pn q sA nA 30:=by
 obtain ⟨f,hm,hd⟩:=T.rw_
 exact xK (sp:=spRW) (M:=bX) T (p29 T) (by decide) hm hd zbF ⟨rfl,rfl,rfl,rfl,rfl,rfl,rfl,rfl⟩ zas
  (fun ws G Q h=>by obtain ⟨x,rfl,_⟩:=h;rfl) (fun ws G Q h=>zkG (by decide) h) (fun ws G Q Q' E k hh=>by
   obtain ⟨x,h1,h2,h⟩:=hh;exact ⟨x,h1,h2,fun G' y=>k _ _ (h G' y)⟩) (fun _ _ _ _ _ _=>us1 (fun _=>rfl)) rfl
theorem p31 (T:Txt q.K q.mg sA nA oA jA pA hB hL hW hR hT hM hD hH):Pn q sA nA 31:=by
 obtain ⟨f,hm,hd⟩:=T.wb
 exact xK (sp:=spWB) (M:=qT) T (p30 T) (by decide) hm hd uZ ⟨rfl,rfl,rfl,rfl,rfl,rfl,rfl,rfl⟩ vI
  (fun ws G Q h=>by obtain ⟨x,rfl,_⟩:=h;rfl) (fun ws G Q h=>zdR h) (fun ws G Q Q' E k hh=>by
   obtain ⟨t,h1,h2,h⟩:=hh;exact ⟨t,h1,h2,h.mono k⟩) (fun _ _ _ _ _ _=>us1 (fun _=>rfl)) rfl
theorem p32 (T:Txt q.K q.mg sA nA oA jA pA hB hL hW hR hT hM hD hH):Pn q sA nA 32:=by
 obtain ⟨f,hm,hd⟩:=T.wa
 exact xK (sp:=spWA) (M:=kX) T (p31 T) (by decide) hm hd tH ⟨rfl,rfl,rfl,rfl,rfl,rfl,rfl,rfl⟩ uO
  (fun ws G Q h=>by obtain ⟨x,rfl,_⟩:=h;rfl) (fun ws G Q h=>zka (by decide) h) (fun ws G Q Q' E k hh=>by
   obtain ⟨t,h1,h2,h⟩:=hh;exact ⟨t,h1,h2,h.mono k⟩) (fun _ _ _ _ _ _=>us1 (fun _=>rfl)) rfl
theorem p33 (T:Txt q.K q.mg sA nA oA jA pA hB hL hW hR hT hM hD hH):Pn q sA nA 33:=by
 obtain ⟨f,hm,hd⟩:=T.rs
 exact xK (sp:=spRS) (M:=pD) T (p32 T) (by decide) hm hd zal ⟨rfl,rfl,rfl,rfl,rfl,rfl,rfl,rfl⟩ fV
  (fun ws G Q h=>by obtain ⟨t,b,tk,x,rfl,_⟩:=h;rfl) (fun ws G Q h=>zkH (by decide) h) (fun ws G Q Q' E k hh=>by
   obtain ⟨t,b,tk,x,h1,h2,h3,h4,h5,h6,h⟩:=hh;exact ⟨t,b,tk,x,h1,h2,h3,h4,h5,h6,fun G' y=>k _ _ (h G' y)⟩) (fun _ _ _ _ _ _=>us1 (fun _=>rfl)) rfl
theorem p34 (T:Txt q.K q.mg sA nA oA jA pA hB hL hW hR hT hM hD hH):Pn q sA nA 34:=by
 obtain ⟨f,hm,hd⟩:=T.be
 exact xK (sp:=spBE) (M:=uA) T (p33 T) (by decide) hm hd mQ ⟨rfl,rfl,rfl,rfl,rfl,rfl,rfl,rfl⟩ pZ
  (fun ws G Q h=>by obtain ⟨x,ps,rfl,_⟩:=h;rfl) (fun ws G Q h=>zmf (by decide) h) (fun ws G Q Q' E k hh=>by
   obtain ⟨x,ps,h1,h2,h3,h4,h5,h⟩:=hh;exact ⟨x,ps,h1,h2,h3,h4,h5,fun u0 G' y0 y1 y2=>k _ _ (h u0 G' y0 y1 y2)⟩) (fun _ _ _ _ _ _=>us1 (fun _=>rfl)) rfl
theorem p35 (T:Txt q.K q.mg sA nA oA jA pA hB hL hW hR hT hM hD hH):Pn q sA nA 35:=by
 obtain ⟨f,hm,hd⟩:=T.dou
 exact xK (sp:=tI) (M:=bQ) T (p34 T) (by decide) hm hd zbI ⟨rfl,rfl,rfl,rfl,rfl,rfl,rfl,rfl⟩ zav
  (fun ws G Q h=>by obtain ⟨t,rfl,_⟩:=h;rfl) (fun ws G Q h=>zdF (by decide) h) (fun ws G Q Q' E k hh=>by
   obtain ⟨t,h1,h⟩:=hh;exact ⟨t,h1,h.mono k⟩) (fun _ _ _ _ _ _=>us1 (fun _=>rfl)) rfl
theorem p36 (T:Txt q.K q.mg sA nA oA jA pA hB hL hW hR hT hM hD hH):Pn q sA nA 36:=by
 obtain ⟨f,hm,hd⟩:=T.ra
 exact xK (sp:=spRA) (M:=pB) T (p35 T) (by decide) hm hd zan ⟨rfl,rfl,rfl,rfl,rfl,rfl,rfl,rfl⟩ fT
  (fun ws G Q h=>by obtain ⟨p,q,rfl,_⟩:=h;rfl) (fun ws G Q h=>zkP (by decide) h) (ziE) (fun _ _ _ _ _ _=>us2 (fun _ _=>rfl)) rfl
theorem p37 (T:Txt q.K q.mg sA nA oA jA pA hB hL hW hR hT hM hD hH):Pn q sA nA 37:=by
 obtain ⟨f,hm,hd⟩:=T.rd
 exact xK (sp:=spRD) (M:=gR) T (p36 T) (by decide) hm hd zaP ⟨rfl,rfl,rfl,rfl,rfl,rfl,rfl,rfl⟩ bJ
  (fun ws G Q h=>by obtain ⟨p,q,rfl,_⟩:=h;rfl) (fun ws G Q h=>zkL (by decide) h) (ziD) (fun _ _ _ _ _ _=>us2 (fun _ _=>rfl)) rfl
theorem p38 (T:Txt q.K q.mg sA nA oA jA pA hB hL hW hR hT hM hD hH):Pn q sA nA 38:=by
 obtain ⟨f,hm,hd⟩:=T.rst
 exact xK (sp:=fG) (M:=bW) T (p37 T) (by decide) hm hd zbG ⟨rfl,rfl,rfl,rfl,rfl,rfl,rfl,rfl⟩ zat
  (fun ws G Q h=>by obtain ⟨s,xs,rfl,_⟩:=h;rfl) (fun ws G Q h=>ziy (by decide) h) (fun ws G Q Q' E k hh=>by
   obtain ⟨s,xs,h1,h2,h3,h⟩:=hh;exact ⟨s,xs,h1,h2,h3,fun G' y=>k _ _ (h G' y)⟩) (fun _ _ _ _ _ _=>us1 (fun _=>rfl)) rfl
theorem p39 (T:Txt q.K q.mg sA nA oA jA pA hB hL hW hR hT hM hD hH):Pn q sA nA 39:=by
 obtain ⟨f,hm,hd⟩:=T.alike_
 exact zi7 (N:=14) (sp:=wW) (M:=gJ) T (p38 T) (by decide) hm hd zaX (fun j=>⟨rfl,rfl,rfl,rfl,rfl,rfl,rfl,rfl⟩) bC
  (fun ws G Q hh=>by
   obtain ⟨w,_,h1,_⟩:=hh;omega) (fun j ws G Q h=>by obtain ⟨w,rfl,_⟩:=h;rfl) (fun j ws G Q h=>zfQ h) (fun j ws G Q Q' E k hh=>by
   obtain ⟨w,h1,h2,h⟩:=hh;exact ⟨w,h1,h2,fun G' y=>k _ _ (h G' y)⟩) (fun _ _ _ _ _ _=>us2 fun _ _=>rfl) rfl
theorem zjg:(zZ slaw).names.lookup ("_law_script" : Str)=some .local:=by decide +kernel
theorem zlx {P:Program} {w:World} {K:yJ} {mg:Str->Option Value} (T:Txt K mg sA nA oA jA pA hB hL hW hR hT hM hD hH) {f:Addr} (hd:HD K "law" "law" slaw .none f):∃ fd:FuncData,(∀ (s:Shared) (u:Value),BindsTo s fd ⟨[u],[]⟩ [("_law_script", u)])/\fd.scope.names.lookup ("_law_script" : Str)=some .local/\∀ base:Heap,FnOk P w K mg base CX0 115 f fd ["_law_script"] (tX K zdi):=by
 obtain ⟨fd,F,kV,doc,pm,an,cdv,ct,e⟩:=hd.fd;refine ⟨fd,fun s u=>by subst e;exact .of_eq rfl,by subst e;exact zjg,fun base=>nF (q:=⟨P,w,K,mg,base⟩) (k:=114) (sp:=zdi) (M:=mlaw) F sclaw (good (q:=⟨P,w,K,mg,base⟩) T (p39 T)) ⟨rfl,rfl,rfl,rfl,rfl,rfl,rfl,rfl⟩ zjb (fun ws G Q h=>by obtain ⟨a,ns,rfl,_⟩:=h;rfl) fun ws G Q h=>?_⟩;obtain ⟨a,ns,rfl,hs,hl,h⟩:=h;exact zjf (by decide) hs hl h
end
theorem all_mk {l:PySem.W.OpenLaw} {w:World} {K:yJ} {h:Heap} {mg:Str->Option Value} {fa sA nA oA jA pA hB hL hW hR hT hM hD hH f1 f2 f3 f4 f5 f6 f7 f8 f9 f10 f11 f12 f13 f14 f15 f16 f17 f18 f19 f20 f21 f22 f23 f24 f25 f26 f27 f28 f29 f30 f31 f32 f33 f34:Addr} (X:K.In h) (G:h.Ns mainGlobals mg) (hfa:mg "law" = some (.ref fa))
  {od1 an1 od2 an2 od3 an3 od4 an4 od5 an5 od6 an6 od7 an7 od8 an8 od9 an9 od10 an10 od11 an11 od12 an12 od13 an13 od14 an14 od15 an15 od16 an16 od17 an17 od18 an18 od19 an19 od20 an20 od21 an21 od22 an22 od23 an23 od24 an24 od25 an25 od26 an26 od27 an27 od28 an28 od29 an29 od30 an30 od31 an31 od32 an32 od33 an33 od34 an34:Option Addr} {sl1 sl2 sl3 sl4 sl5 sl6 sl7 sl8 sl9 sl10 sl11 sl12 sl13 sl14 sl15 sl16 sl17 sl18 sl19 sl20 sl21 sl22 sl23 sl24 sl25 sl26 sl27 sl28 sl29 sl30 sl31 sl32 sl33 sl34:Array (Option Value)} {oc1 kV1 dc1 pm1 cd1 ct1 oc2 kV2 dc2 pm2 cd2 ct2 oc3 kV3 dc3 pm3 cd3 ct3 oc4 kV4 dc4 pm4 cd4 ct4 oc5 kV5 dc5 pm5 cd5 ct5 oc6 kV6 dc6 pm6 cd6 ct6 oc7 kV7 dc7 pm7 cd7 ct7 oc8 kV8 dc8 pm8 cd8 ct8 oc9 kV9 dc9 pm9 cd9 ct9 oc10 kV10 dc10 pm10 cd10 ct10 oc11 kV11 dc11 pm11 cd11 ct11 oc12 kV12 dc12 pm12 cd12 ct12 oc13 kV13 dc13 pm13 cd13 ct13 oc14 kV14 dc14 pm14 cd14 ct14 oc15 kV15 dc15 pm15 cd15 ct15 oc16 kV16 dc16 pm16 cd16 ct16 oc17 kV17 dc17 pm17 cd17 ct17 oc18 kV18 dc18 pm18 cd18 ct18 oc19 kV19 dc19 pm19 cd19 ct19 oc20 kV20 dc20 pm20 cd20 ct20 oc21 kV21 dc21 pm21 cd21 ct21 oc22 kV22 dc22 pm22 cd22 ct22 oc23 kV23 dc23 pm23 cd23 ct23 oc24 kV24 dc24 pm24 cd24 ct24 oc25 kV25 dc25 pm25 cd25 ct25 oc26 kV26 dc26 pm26 cd26 ct26 oc27 kV27 dc27 pm27 cd27 ct27 oc28 kV28 dc28 pm28 cd28 ct28 oc29 kV29 dc29 pm29 cd29 ct29 oc30 kV30 dc30 pm30 cd30 ct30 oc31 kV31 dc31 pm31 cd31 ct31 oc32 kV32 dc32 pm32 cd32 ct32 oc33 kV33 dc33 pm33 cd33 ct33 oc34 kV34 dc34 pm34 cd34 ct34:Value} {t1 t2 t3 t4 t5 t6 t7 t8 t9:Addr} {odS anS odO anO ot1 ot2 ot3 ot4 ot5 ot6 ot7 ot8 ot9 oN oJ oP:Option Addr} {slS slO st1 st2 st3 st4 st5 st6 st7 st8 st9 sN sJ sP:Array (Option Value)} {ocS kVS dcS pmS cdS ctS ocO kVO dcO pmO cdO ctO:Value} {nB nL nW nR nT nM nD nH nt1 nt2 nt3 nt4 nt5 nt6 nt7 nt8 nt9 nN nJ nP:Nat} {tLo tSi kB0 kB1 kB2 kB3 vB0 vB1 vB2 vB3 kL0 kL1 kL2 kL3 kW0 kW1 kW2 vW0 vW1 vW2 kR0 kR1 kR2 kR3 kR4 vR0 vR1 vR2 vR3 vR4 kT0 kT1 kT2 kT3 vT0 vT1 vT2 vT3 kM0 kM1 kM2 vM0 vM1 vM2 kD0 kD1 kD2 kD3 kD4 kH0 kH1 vH0 vH1 it10 it20 it21 it30 it31 it40 it41 it60 it70 it71 it80 it90 vN0 vN1 vN2 vN3 vJ0 vJ1 vJ2 vJ3 vJ4 vJ5 vP0 vP1 vP2 vP3 vP4:Tok} {hB0 hB1 hB2 hB3 hL0 hL1 hL2 hL3 hW0 hW1 hW2 hR0 hR1 hR2 hR3 hR4 hT0 hT1 hT2 hT3 hM0 hM1 hM2 hD0 hD1 hD2 hD3 hD4 hH0 hH1:Int}
  (a1:nsIn K mainGlobals "_law_deal" = some (some (.ref f1))) (l1:K.lookup f1=some ⟨oc1,od1,.func (fnOf "_law_deal" "_law_deal" (zA jB) (zK jB) (zZ jB) .none kV1 dc1 pm1 an1 cd1 ct1),sl1⟩) (c1:codeIn K cd1 "_law_deal" = true) (k1:keepIn K (.ref f1)=true)
  (a2:nsIn K mainGlobals "_law_draw" = some (some (.ref f2))) (l2:K.lookup f2=some ⟨oc2,od2,.func (fnOf "_law_draw" "_law_draw" (zA jC) (zK jC) (zZ jC) .none kV2 dc2 pm2 an2 cd2 ct2),sl2⟩) (c2:codeIn K cd2 "_law_draw" = true) (k2:keepIn K (.ref f2)=true)
  (a3:nsIn K mainGlobals "_law_names" = some (some (.ref f3))) (l3:K.lookup f3=some ⟨oc3,od3,.func (fnOf "_law_names" "_law_names" (zA wF) (zK wF) (zZ wF) .none kV3 dc3 pm3 an3 cd3 ct3),sl3⟩) (c3:codeIn K cd3 "_law_names" = true) (k3:keepIn K (.ref f3)=true)
  (a4:nsIn K mainGlobals "_law_saying" = some (some (.ref f4))) (l4:K.lookup f4=some ⟨oc4,od4,.func (fnOf "_law_saying" "_law_saying" (zA wT) (zK wT) (zZ wT) .none kV4 dc4 pm4 an4 cd4 ct4),sl4⟩) (c4:codeIn K cd4 "_law_saying" = true) (k4:keepIn K (.ref f4)=true)
  (a5:nsIn K mainGlobals "_law_all_parts" = some (some (.ref f5))) (l5:K.lookup f5=some ⟨oc5,od5,.func (fnOf "_law_all_parts" "_law_all_parts" (zA yD) (zK yD) (zZ yD) .none kV5 dc5 pm5 an5 cd5 ct5),sl5⟩) (c5:codeIn K cd5 "_law_all_parts" = true) (k5:keepIn K (.ref f5)=true)
  (a6:nsIn K mainGlobals "_law_words" = some (some (.ref f6))) (l6:K.lookup f6=some ⟨oc6,od6,.func (fnOf "_law_words" "_law_words" (zA wH) (zK wH) (zZ wH) .none kV6 dc6 pm6 an6 cd6 ct6),sl6⟩) (c6:codeIn K cd6 "_law_words" = true) (k6:keepIn K (.ref f6)=true)
  (a7:nsIn K mainGlobals "_law_steps" = some (some (.ref f7))) (l7:K.lookup f7=some ⟨oc7,od7,.func (fnOf "_law_steps" "_law_steps" (zA wG) (zK wG) (zZ wG) .none kV7 dc7 pm7 an7 cd7 ct7),sl7⟩) (c7:codeIn K cd7 "_law_steps" = true) (k7:keepIn K (.ref f7)=true)
  (a8:nsIn K mainGlobals "sides_of" = some (some (.ref f8))) (l8:K.lookup f8=some ⟨oc8,od8,.func (fnOf "sides_of" "sides_of" (zA xX) (zK xX) (zZ xX) .none kV8 dc8 pm8 an8 cd8 ct8),sl8⟩) (c8:codeIn K cd8 "sides_of" = true) (k8:keepIn K (.ref f8)=true)
  (a9:nsIn K mainGlobals "all_within" = some (some (.ref f9))) (l9:K.lookup f9=some ⟨oc9,od9,.func (fnOf "all_within" "all_within" (zA wI) (zK wI) (zZ wI) .none kV9 dc9 pm9 an9 cd9 ct9),sl9⟩) (c9:codeIn K cd9 "all_within" = true) (k9:keepIn K (.ref f9)=true)
  (a10:nsIn K mainGlobals "joined_text" = some (some (.ref f10))) (l10:K.lookup f10=some ⟨oc10,od10,.func (fnOf "joined_text" "joined_text" (zA wU) (zK wU) (zZ wU) .none kV10 dc10 pm10 an10 cd10 ct10),sl10⟩) (c10:codeIn K cd10 "joined_text" = true) (k10:keepIn K (.ref f10)=true)
  (a11:nsIn K mainGlobals "show_joined" = some (some (.ref f11))) (l11:K.lookup f11=some ⟨oc11,od11,.func (fnOf "show_joined" "show_joined" (zA xA) (zK xA) (zZ xA) .none kV11 dc11 pm11 an11 cd11 ct11),sl11⟩) (c11:codeIn K cd11 "show_joined" = true) (k11:keepIn K (.ref f11)=true)
  (a12:nsIn K mainGlobals "name_of" = some (some (.ref f12))) (l12:K.lookup f12=some ⟨oc12,od12,.func (fnOf "name_of" "name_of" (zA xG) (zK xG) (zZ xG) .none kV12 dc12 pm12 an12 cd12 ct12),sl12⟩) (c12:codeIn K cd12 "name_of" = true) (k12:keepIn K (.ref f12)=true)
  (a13:nsIn K mainGlobals "show_saying" = some (some (.ref f13))) (l13:K.lookup f13=some ⟨oc13,od13,.func (fnOf "show_saying" "show_saying" (zA xB) (zK xB) (zZ xB) .none kV13 dc13 pm13 an13 cd13 ct13),sl13⟩) (c13:codeIn K cd13 "show_saying" = true) (k13:keepIn K (.ref f13)=true)
  (a14:nsIn K mainGlobals "in_braces" = some (some (.ref f14))) (l14:K.lookup f14=some ⟨oc14,od14,.func (fnOf "in_braces" "in_braces" (zA jF) (zK jF) (zZ jF) .none kV14 dc14 pm14 an14 cd14 ct14),sl14⟩) (c14:codeIn K cd14 "in_braces" = true) (k14:keepIn K (.ref f14)=true)
  (a15:nsIn K mainGlobals "show_step" = some (some (.ref f15))) (l15:K.lookup f15=some ⟨oc15,od15,.func (fnOf "show_step" "show_step" (zA jI) (zK jI) (zZ jI) .none kV15 dc15 pm15 an15 cd15 ct15),sl15⟩) (c15:codeIn K cd15 "show_step" = true) (k15:keepIn K (.ref f15)=true)
  (a16:nsIn K mainGlobals "_law_loose" = some (some (.ref f16))) (l16:K.lookup f16=some ⟨oc16,od16,.func (fnOf "_law_loose" "_law_loose" (zA wE) (zK wE) (zZ wE) .none kV16 dc16 pm16 an16 cd16 ct16),sl16⟩) (c16:codeIn K cd16 "_law_loose" = true) (k16:keepIn K (.ref f16)=true)
  (a17:nsIn K mainGlobals "_law_text" = some (some (.ref f17))) (l17:K.lookup f17=some ⟨oc17,od17,.func (fnOf "_law_text" "_law_text" (zA jD) (zK jD) (zZ jD) .none kV17 dc17 pm17 an17 cd17 ct17),sl17⟩) (c17:codeIn K cd17 "_law_text" = true) (k17:keepIn K (.ref f17)=true)
  (a18:nsIn K mainGlobals "put_together" = some (some (.ref f18))) (l18:K.lookup f18=some ⟨oc18,od18,.func (fnOf "put_together" "put_together" (zA xL) (zK xL) (zZ xL) .none kV18 dc18 pm18 an18 cd18 ct18),sl18⟩) (c18:codeIn K cd18 "put_together" = true) (k18:keepIn K (.ref f18)=true)
  (a19:nsIn K mainGlobals "take_left" = some (some (.ref f19))) (l19:K.lookup f19=some ⟨oc19,od19,.func (fnOf "take_left" "take_left" (zA jJ) (zK jJ) (zZ jJ) .none kV19 dc19 pm19 an19 cd19 ct19),sl19⟩) (c19:codeIn K cd19 "take_left" = true) (k19:keepIn K (.ref f19)=true)
  (a20:nsIn K mainGlobals "begin_side" = some (some (.ref f20))) (l20:K.lookup f20=some ⟨oc20,od20,.func (fnOf "begin_side" "begin_side" (zA wJ) (zK wJ) (zZ wJ) .none kV20 dc20 pm20 an20 cd20 ct20),sl20⟩) (c20:codeIn K cd20 "begin_side" = true) (k20:keepIn K (.ref f20)=true)
  (a21:nsIn K mainGlobals "go_on" = some (some (.ref f21))) (l21:K.lookup f21=some ⟨oc21,od21,.func (fnOf "go_on" "go_on" (zA rL) (zK rL) (zZ rL) .none kV21 dc21 pm21 an21 cd21 ct21),sl21⟩) (c21:codeIn K cd21 "go_on" = true) (k21:keepIn K (.ref f21)=true)
  (a22:nsIn K mainGlobals "read_joined" = some (some (.ref f22))) (l22:K.lookup f22=some ⟨oc22,od22,.func (fnOf "read_joined" "read_joined" (zA wY) (zK wY) (zZ wY) .none kV22 dc22 pm22 an22 cd22 ct22),sl22⟩) (c22:codeIn K cd22 "read_joined" = true) (k22:keepIn K (.ref f22)=true)
  (a23:nsIn K mainGlobals "is_name" = some (some (.ref f23))) (l23:K.lookup f23=some ⟨oc23,od23,.func (fnOf "is_name" "is_name" (zA kD) (zK kD) (zZ kD) .none kV23 dc23 pm23 an23 cd23 ct23),sl23⟩) (c23:codeIn K cd23 "is_name" = true) (k23:keepIn K (.ref f23)=true)
  (a24:nsIn K mainGlobals "read_word" = some (some (.ref f24))) (l24:K.lookup f24=some ⟨oc24,od24,.func (fnOf "read_word" "read_word" (zA jH) (zK jH) (zZ jH) .none kV24 dc24 pm24 an24 cd24 ct24),sl24⟩) (c24:codeIn K cd24 "read_word" = true) (k24:keepIn K (.ref f24)=true)
  (a25:nsIn K mainGlobals "words_between_blanks" = some (some (.ref f25))) (l25:K.lookup f25=some ⟨oc25,od25,.func (fnOf "words_between_blanks" "words_between_blanks" (zA yQ) (zK yQ) (zZ yQ) .none kV25 dc25 pm25 an25 cd25 ct25),sl25⟩) (c25:codeIn K cd25 "words_between_blanks" = true) (k25:keepIn K (.ref f25)=true)
  (a26:nsIn K mainGlobals "words_and_brackets" = some (some (.ref f26))) (l26:K.lookup f26=some ⟨oc26,od26,.func (fnOf "words_and_brackets" "words_and_brackets" (zA yO) (zK yO) (zZ yO) .none kV26 dc26 pm26 an26 cd26 ct26),sl26⟩) (c26:codeIn K cd26 "words_and_brackets" = true) (k26:keepIn K (.ref f26)=true)
  (a27:nsIn K mainGlobals "read_saying" = some (some (.ref f27))) (l27:K.lookup f27=some ⟨oc27,od27,.func (fnOf "read_saying" "read_saying" (zA wZ) (zK wZ) (zZ wZ) .none kV27 dc27 pm27 an27 cd27 ct27),sl27⟩) (c27:codeIn K cd27 "read_saying" = true) (k27:keepIn K (.ref f27)=true)
  (a28:nsIn K mainGlobals "braces_emptied" = some (some (.ref f28))) (l28:K.lookup f28=some ⟨oc28,od28,.func (fnOf "braces_emptied" "braces_emptied" (zA yE) (zK yE) (zZ yE) .none kV28 dc28 pm28 an28 cd28 ct28),sl28⟩) (c28:codeIn K cd28 "braces_emptied" = true) (k28:keepIn K (.ref f28)=true)
  (a29:nsIn K mainGlobals "doubts_of" = some (some (.ref f29))) (l29:K.lookup f29=some ⟨oc29,od29,.func (fnOf "doubts_of" "doubts_of" (zA jE) (zK jE) (zZ jE) .none kV29 dc29 pm29 an29 cd29 ct29),sl29⟩) (c29:codeIn K cd29 "doubts_of" = true) (k29:keepIn K (.ref f29)=true)
  (a30:nsIn K mainGlobals "read_answer" = some (some (.ref f30))) (l30:K.lookup f30=some ⟨oc30,od30,.func (fnOf "read_answer" "read_answer" (zA wX) (zK wX) (zZ wX) .none kV30 dc30 pm30 an30 cd30 ct30),sl30⟩) (c30:codeIn K cd30 "read_answer" = true) (k30:keepIn K (.ref f30)=true)
  (a31:nsIn K mainGlobals "read_doubt" = some (some (.ref f31))) (l31:K.lookup f31=some ⟨oc31,od31,.func (fnOf "read_doubt" "read_doubt" (zA wM) (zK wM) (zZ wM) .none kV31 dc31 pm31 an31 cd31 ct31),sl31⟩) (c31:codeIn K cd31 "read_doubt" = true) (k31:keepIn K (.ref f31)=true)
  (a32:nsIn K mainGlobals "read_step" = some (some (.ref f32))) (l32:K.lookup f32=some ⟨oc32,od32,.func (fnOf "read_step" "read_step" (zA jG) (zK jG) (zZ jG) .none kV32 dc32 pm32 an32 cd32 ct32),sl32⟩) (c32:codeIn K cd32 "read_step" = true) (k32:keepIn K (.ref f32)=true)
  (a33:nsIn K mainGlobals "_law_alike" = some (some (.ref f33))) (l33:K.lookup f33=some ⟨oc33,od33,.func (fnOf "_law_alike" "_law_alike" (zA wD) (zK wD) (zZ wD) .none kV33 dc33 pm33 an33 cd33 ct33),sl33⟩) (c33:codeIn K cd33 "_law_alike" = true) (k33:keepIn K (.ref f33)=true)
  (a34:nsIn K mainGlobals "law" = some (some (.ref f34))) (l34:K.lookup f34=some ⟨oc34,od34,.func (fnOf "law" "law" (zA slaw) (zK slaw) (zZ slaw) .none kV34 dc34 pm34 an34 cd34 ct34),sl34⟩) (c34:codeIn K cd34 "law" = true) (k34:keepIn K (.ref f34)=true)
  (z0:nsIn K mainGlobals "max" = some none)
  (z1:nsIn K mainGlobals "len" = some none)
  (z2:nsIn K mainGlobals "all" = some none)
  (z3:nsIn K mainGlobals "list" = some none)
  (z4:nsIn K mainGlobals "isinstance" = some none)
  (z5:nsIn K mainGlobals "range" = some none)
  (z6:nsIn K mainGlobals "zip" = some none)
  (z7:nsIn K mainGlobals "reversed" = some none)
  (z8:nsIn K mainGlobals "str" = some none)
  (z9:nsIn K mainGlobals "tuple" = some none)
  (z10:nsIn K mainGlobals "sorted" = some none)
  (aLo:nsIn K mainGlobals "LONGEST_NAME" = some (some (.int 6 tLo)))
  (aSi:nsIn K mainGlobals "SINGLE_BINDS" = some (some (.int 5 tSi)))
  (nb:nsIn K cStatics sharingNotToldKey=some none)
  (aS:nsIn K mainGlobals "sides_of" = some (some (.ref sA)))
  (lS:K.lookup sA=some ⟨ocS,odS,.func (fnOf "sides_of" "sides_of" (zA xX) (zK xX) (zZ xX) .none kVS dcS pmS anS cdS ctS),slS⟩)
  (cS:codeIn K cdS "sides_of" = true)
  (kS:keepIn K (.ref sA)=true)
  (aO:nsIn K mainGlobals "name_of" = some (some (.ref nA)))
  (lO:K.lookup nA=some ⟨ocO,odO,.func (fnOf "name_of" "name_of" (zA xG) (zK xG) (zZ xG) .none kVO dcO pmO anO cdO ctO),slO⟩)
  (cO:codeIn K cdO "name_of" = true)
  (kO:keepIn K (.ref nA)=true)
  (aB:nsIn K mainGlobals "BINDS_saywrite" = some (some (.ref hB)))
  (lB:K.lookup hB=some ⟨.type "dict", none,.dict #[⟨hB0,.str "if" kB0,.int 1 vB0⟩,⟨hB1,.str "or" kB1,.int 2 vB1⟩,⟨hB2,.str "and" kB2,.int 3 vB2⟩,⟨hB3,.str "not" kB3,.int 4 vB3⟩] nB,#[]⟩)
  (hwB:(hB==sysModules)=false)
  (aL:nsIn K mainGlobals "LEAST" = some (some (.ref hL)))
  (lL:K.lookup hL=some ⟨.type "dict", none,.dict #[⟨hL0,.str "not" kL0,.ref t1⟩,⟨hL1,.str "and" kL1,.ref t2⟩,⟨hL2,.str "or" kL2,.ref t3⟩,⟨hL3,.str "if" kL3,.ref t4⟩] nL,#[]⟩)
  (hwL:(hL==sysModules)=false)
  (aW:nsIn K mainGlobals "BETWEEN" = some (some (.ref hW)))
  (lW:K.lookup hW=some ⟨.type "dict", none,.dict #[⟨hW0,.str "and" kW0,.str " and " vW0⟩,⟨hW1,.str "or" kW1,.str " or " vW1⟩,⟨hW2,.str "if" kW2,.str " then " vW2⟩] nW,#[]⟩)
  (hwW:(hW==sysModules)=false)
  (aR:nsIn K mainGlobals "BINDS_sayread" = some (some (.ref hR)))
  (lR:K.lookup hR=some ⟨.type "dict", none,.dict #[⟨hR0,.str "(" kR0,.int 0 vR0⟩,⟨hR1,.str "then" kR1,.int 1 vR1⟩,⟨hR2,.str "or" kR2,.int 2 vR2⟩,⟨hR3,.str "and" kR3,.int 3 vR3⟩,⟨hR4,.str "not" kR4,.int 4 vR4⟩] nR,#[]⟩)
  (hwR:(hR==sysModules)=false)
  (aT:nsIn K mainGlobals "TAKES" = some (some (.ref hT)))
  (lT:K.lookup hT=some ⟨.type "dict", none,.dict #[⟨hT0,.str "then" kT0,.int 2 vT0⟩,⟨hT1,.str "or" kT1,.int 2 vT1⟩,⟨hT2,.str "and" kT2,.int 3 vT2⟩,⟨hT3,.str ")" kT3,.int 1 vT3⟩] nT,#[]⟩)
  (hwT:(hT==sysModules)=false)
  (aM:nsIn K mainGlobals "MADE" = some (some (.ref hM)))
  (lM:K.lookup hM=some ⟨.type "dict", none,.dict #[⟨hM0,.str "then" kM0,.str "if" vM0⟩,⟨hM1,.str "or" kM1,.str "or" vM1⟩,⟨hM2,.str "and" kM2,.str "and" vM2⟩] nM,#[]⟩)
  (hwM:(hM==sysModules)=false)
  (aD:nsIn K mainGlobals "WORDS" = some (some (.ref hD)))
  (lD:K.lookup hD=some ⟨.type "dict", none,.dict #[⟨hD0,.str "say" kD0,.ref t5⟩,⟨hD1,.str "not" kD1,.ref t6⟩,⟨hD2,.str "and" kD2,.ref t7⟩,⟨hD3,.str "or" kD3,.ref t8⟩,⟨hD4,.str "if" kD4,.ref t9⟩] nD,#[]⟩)
  (hwD:(hD==sysModules)=false)
  (aH:nsIn K mainGlobals "LENGTHS" = some (some (.ref hH)))
  (lH:K.lookup hH=some ⟨.type "dict", none,.dict #[⟨hH0,.str "first" kH0,.int 3 vH0⟩,⟨hH1,.str "other" kH1,.int 2 vH1⟩] nH,#[]⟩)
  (hwH:(hH==sysModules)=false)
  (lt1:K.lookup t1=some ⟨.type "tuple", ot1,.seq #[.int 4 it10] nt1,st1⟩)
  (lt2:K.lookup t2=some ⟨.type "tuple", ot2,.seq #[.int 3 it20,.int 4 it21] nt2,st2⟩)
  (lt3:K.lookup t3=some ⟨.type "tuple", ot3,.seq #[.int 2 it30,.int 3 it31] nt3,st3⟩)
  (lt4:K.lookup t4=some ⟨.type "tuple", ot4,.seq #[.int 2 it40,.int 1 it41] nt4,st4⟩)
  (lt5:K.lookup t5=some ⟨.type "tuple", ot5,.seq #[] nt5,st5⟩)
  (lt6:K.lookup t6=some ⟨.type "tuple", ot6,.seq #[.str "not" it60] nt6,st6⟩)
  (lt7:K.lookup t7=some ⟨.type "tuple", ot7,.seq #[.str "left" it70,.str "right" it71] nt7,st7⟩)
  (lt8:K.lookup t8=some ⟨.type "tuple", ot8,.seq #[.str "which" it80] nt8,st8⟩)
  (lt9:K.lookup t9=some ⟨.type "tuple", ot9,.seq #[.str "if" it90] nt9,st9⟩)
  (aN:nsIn K mainGlobals "NO_NAMES" = some (some (.ref oA)))
  (lN:K.lookup oA=some ⟨.type "tuple", oN,.seq #[.str "and" vN0,.str "or" vN1,.str "not" vN2,.str "then" vN3] nN,sN⟩)
  (aJ:nsIn K mainGlobals "JOINING" = some (some (.ref jA)))
  (lJ:K.lookup jA=some ⟨.type "tuple", oJ,.seq #[.str "(" vJ0,.str ")" vJ1,.str "not" vJ2,.str "and" vJ3,.str "or" vJ4,.str "then" vJ5] nJ,sJ⟩)
  (aP:nsIn K mainGlobals "WORDS_OF_REPLIES" = some (some (.ref pA)))
  (lP:K.lookup pA=some ⟨.type "tuple", oP,.seq #[.str "left" vP0,.str "right" vP1,.str "which" vP2,.str "if" vP3,.str "not" vP4] nP,sP⟩) :
  ∃ fd:FuncData,(∀ (s:Shared) (u:Value),BindsTo s fd ⟨[u],[]⟩ [("_law_script", u)])/\fd.scope.names.lookup ("_law_script" : Str)=some .local/\∀ base:Heap,K.In base->base.Ns mainGlobals mg->FnOk l.prog w K mg base CX0 115 fa fd ["_law_script"] (tX K zdi):=by
 have e:=hfa.symm.trans (mg_of X G a34);cases e;have sz0:∀ k:Nat,k<=9->k<=sizeLine:=fun k hk=>by rw[ZI];omega
 have rt1:∀ H,xT K H (.tup [.int 4]) (.ref t1):=jO (vs:=[.int 4]) lt1 rfl rfl (sz0 1 (by decide)) (.cons ⟨_,rfl⟩ .nil) fun H=>⟨_,_,rfl,rfl,rfl⟩;have rt2:∀ H,xT K H (.tup [.int 3,.int 4]) (.ref t2):=jO (vs:=[.int 3,.int 4]) lt2 rfl rfl (sz0 2 (by decide)) (.cons ⟨_,rfl⟩ (.cons ⟨_,rfl⟩ .nil)) fun H=>⟨_,_,rfl,rfl,⟨_,_,rfl,rfl,rfl⟩⟩;have rt3:∀ H,xT K H (.tup [.int 2,.int 3]) (.ref t3):=jO (vs:=[.int 2,.int 3]) lt3 rfl rfl (sz0 2 (by decide)) (.cons ⟨_,rfl⟩ (.cons ⟨_,rfl⟩ .nil)) fun H=>⟨_,_,rfl,rfl,⟨_,_,rfl,rfl,rfl⟩⟩;have rt4:∀ H,xT K H (.tup [.int 2,.int 1]) (.ref t4):=jO (vs:=[.int 2,.int 1]) lt4 rfl rfl (sz0 2 (by decide)) (.cons ⟨_,rfl⟩ (.cons ⟨_,rfl⟩ .nil)) fun H=>⟨_,_,rfl,rfl,⟨_,_,rfl,rfl,rfl⟩⟩;have rt5:∀ H,xT K H (.tup []) (.ref t5):=jO (vs:=[]) lt5 rfl rfl (sz0 0 (by decide)) .nil fun H=>rfl;have rt6:∀ H,xT K H (.tup [.str "not"]) (.ref t6):=jO (vs:=[.str "not"]) lt6 rfl rfl (sz0 1 (by decide)) (.cons ⟨_,rfl⟩ .nil) fun H=>⟨_,_,rfl,rfl,rfl⟩;have rt7:∀ H,xT K H (.tup [.str "left", .str "right"]) (.ref t7):=jO (vs:=[.str "left", .str "right"]) lt7 rfl rfl (sz0 2 (by decide)) (.cons ⟨_,rfl⟩ (.cons ⟨_,rfl⟩ .nil)) fun H=>⟨_,_,rfl,rfl,⟨_,_,rfl,rfl,rfl⟩⟩;have rt8:∀ H,xT K H (.tup [.str "which"]) (.ref t8):=jO (vs:=[.str "which"]) lt8 rfl rfl (sz0 1 (by decide)) (.cons ⟨_,rfl⟩ .nil) fun H=>⟨_,_,rfl,rfl,rfl⟩;have rt9:∀ H,xT K H (.tup [.str "if"]) (.ref t9):=jO (vs:=[.str "if"]) lt9 rfl rfl (sz0 1 (by decide)) (.cons ⟨_,rfl⟩ .nil) fun H=>⟨_,_,rfl,rfl,rfl⟩
 have T:Txt K mg sA nA oA jA pA hB hL hW hR hT hM hD hH:={
  deal:=⟨f1,mg_of X G a1,HD.mk' l1 c1 k1⟩
  draw:=⟨f2,mg_of X G a2,HD.mk' l2 c2 k2⟩
  names:=⟨f3,mg_of X G a3,HD.mk' l3 c3 k3⟩
  say_:=⟨f4,mg_of X G a4,HD.mk' l4 c4 k4⟩
  parts_:=⟨f5,mg_of X G a5,HD.mk' l5 c5 k5⟩
  lwords:=⟨f6,mg_of X G a6,HD.mk' l6 c6 k6⟩
  steps:=⟨f7,mg_of X G a7,HD.mk' l7 c7 k7⟩
  sides:=⟨f8,mg_of X G a8,HD.mk' l8 c8 k8⟩
  within:=⟨f9,mg_of X G a9,HD.mk' l9 c9 k9⟩
  jt:=⟨f10,mg_of X G a10,HD.mk' l10 c10 k10⟩
  sj:=⟨f11,mg_of X G a11,HD.mk' l11 c11 k11⟩
  nameof:=⟨f12,mg_of X G a12,HD.mk' l12 c12 k12⟩
  show_:=⟨f13,mg_of X G a13,HD.mk' l13 c13 k13⟩
  brc_:=⟨f14,mg_of X G a14,HD.mk' l14 c14 k14⟩
  ss:=⟨f15,mg_of X G a15,HD.mk' l15 c15 k15⟩
  loo:=⟨f16,mg_of X G a16,HD.mk' l16 c16 k16⟩
  txt_:=⟨f17,mg_of X G a17,HD.mk' l17 c17 k17⟩
  put_:=⟨f18,mg_of X G a18,HD.mk' l18 c18 k18⟩
  take_:=⟨f19,mg_of X G a19,HD.mk' l19 c19 k19⟩
  begin_:=⟨f20,mg_of X G a20,HD.mk' l20 c20 k20⟩
  go_:=⟨f21,mg_of X G a21,HD.mk' l21 c21 k21⟩
  rj:=⟨f22,mg_of X G a22,HD.mk' l22 c22 k22⟩
  isn:=⟨f23,mg_of X G a23,HD.mk' l23 c23 k23⟩
  rw_:=⟨f24,mg_of X G a24,HD.mk' l24 c24 k24⟩
  wb:=⟨f25,mg_of X G a25,HD.mk' l25 c25 k25⟩
  wa:=⟨f26,mg_of X G a26,HD.mk' l26 c26 k26⟩
  rs:=⟨f27,mg_of X G a27,HD.mk' l27 c27 k27⟩
  be:=⟨f28,mg_of X G a28,HD.mk' l28 c28 k28⟩
  dou:=⟨f29,mg_of X G a29,HD.mk' l29 c29 k29⟩
  ra:=⟨f30,mg_of X G a30,HD.mk' l30 c30 k30⟩
  rd:=⟨f31,mg_of X G a31,HD.mk' l31 c31 k31⟩
  rst:=⟨f32,mg_of X G a32,HD.mk' l32 c32 k32⟩
  alike_:=⟨f33,mg_of X G a33,HD.mk' l33 c33 k33⟩
  max:=Zau X G z0
  len:=Zau X G z1
  all:=Zau X G z2
  list:=Zau X G z3
  isi:=Zau X G z4
  range:=Zau X G z5
  zip:=Zau X G z6
  rev:=Zau X G z7
  str:=Zau X G z8
  tup:=Zau X G z9
  srt:=Zau X G z10
  mgLo:=⟨tLo,mg_of X G aLo⟩
  mgSi:=⟨tSi,mg_of X G aSi⟩
  mgS:=mg_of X G aS
  hdS:=HD.mk' lS cS kS
  mgO:=mg_of X G aO
  hdO:=HD.mk' lO cO kO
  nb:=nb
  mgB:=mg_of X G aB
  rpB:=fun H=>⟨hB,[.int 1,.int 2,.int 3,.int 4],rfl,⟨_,_,_,lB,⟨rfl,rfl,rfl⟩,rfl,sz0 4 (by decide),hwB,⟨"if", kB0,.int 1,_,_,rfl,rfl,rfl,⟨_,rfl⟩,⟨"or", kB1,.int 2,_,_,rfl,rfl,rfl,⟨_,rfl⟩,⟨"and", kB2,.int 3,_,_,rfl,rfl,rfl,⟨_,rfl⟩,⟨"not", kB3,.int 4,_,_,rfl,rfl,rfl,⟨_,rfl⟩,⟨rfl,rfl⟩⟩⟩⟩⟩⟩,⟨_,_,rfl,rfl,⟨_,_,rfl,rfl,⟨_,_,rfl,rfl,⟨_,_,rfl,rfl,rfl⟩⟩⟩⟩⟩
  mgL:=mg_of X G aL
  rpL:=fun H=>⟨hL,[.ref t1,.ref t2,.ref t3,.ref t4],rfl,⟨_,_,_,lL,⟨rfl,rfl,rfl⟩,rfl,sz0 4 (by decide),hwL,⟨"not", kL0,.ref t1,_,_,rfl,rfl,rfl,rfl,⟨"and", kL1,.ref t2,_,_,rfl,rfl,rfl,rfl,⟨"or", kL2,.ref t3,_,_,rfl,rfl,rfl,rfl,⟨"if", kL3,.ref t4,_,_,rfl,rfl,rfl,rfl,⟨rfl,rfl⟩⟩⟩⟩⟩⟩,⟨_,_,rfl,rt1 H,⟨_,_,rfl,rt2 H,⟨_,_,rfl,rt3 H,⟨_,_,rfl,rt4 H,rfl⟩⟩⟩⟩⟩
  mgW:=mg_of X G aW
  rpW:=fun H=>⟨hW,[.str " and ", .str " or ", .str " then "],rfl,⟨_,_,_,lW,⟨rfl,rfl,rfl⟩,rfl,sz0 3 (by decide),hwW,⟨"and", kW0,.str " and ", _,_,rfl,rfl,rfl,⟨_,rfl⟩,⟨"or", kW1,.str " or ", _,_,rfl,rfl,rfl,⟨_,rfl⟩,⟨"if", kW2,.str " then ", _,_,rfl,rfl,rfl,⟨_,rfl⟩,⟨rfl,rfl⟩⟩⟩⟩⟩,⟨_,_,rfl,rfl,⟨_,_,rfl,rfl,⟨_,_,rfl,rfl,rfl⟩⟩⟩⟩
  mgR:=mg_of X G aR
  rpR:=fun H=>⟨hR,[.int 0,.int 1,.int 2,.int 3,.int 4],rfl,⟨_,_,_,lR,⟨rfl,rfl,rfl⟩,rfl,sz0 5 (by decide),hwR,⟨"(", kR0,.int 0,_,_,rfl,rfl,rfl,⟨_,rfl⟩,⟨"then", kR1,.int 1,_,_,rfl,rfl,rfl,⟨_,rfl⟩,⟨"or", kR2,.int 2,_,_,rfl,rfl,rfl,⟨_,rfl⟩,⟨"and", kR3,.int 3,_,_,rfl,rfl,rfl,⟨_,rfl⟩,⟨"not", kR4,.int 4,_,_,rfl,rfl,rfl,⟨_,rfl⟩,⟨rfl,rfl⟩⟩⟩⟩⟩⟩⟩,⟨_,_,rfl,rfl,⟨_,_,rfl,rfl,⟨_,_,rfl,rfl,⟨_,_,rfl,rfl,⟨_,_,rfl,rfl,rfl⟩⟩⟩⟩⟩⟩
  mgT:=mg_of X G aT
  rpT:=fun H=>⟨hT,[.int 2,.int 2,.int 3,.int 1],rfl,⟨_,_,_,lT,⟨rfl,rfl,rfl⟩,rfl,sz0 4 (by decide),hwT,⟨"then", kT0,.int 2,_,_,rfl,rfl,rfl,⟨_,rfl⟩,⟨"or", kT1,.int 2,_,_,rfl,rfl,rfl,⟨_,rfl⟩,⟨"and", kT2,.int 3,_,_,rfl,rfl,rfl,⟨_,rfl⟩,⟨")", kT3,.int 1,_,_,rfl,rfl,rfl,⟨_,rfl⟩,⟨rfl,rfl⟩⟩⟩⟩⟩⟩,⟨_,_,rfl,rfl,⟨_,_,rfl,rfl,⟨_,_,rfl,rfl,⟨_,_,rfl,rfl,rfl⟩⟩⟩⟩⟩
  mgM:=mg_of X G aM
  rpM:=fun H=>⟨hM,[.str "if", .str "or", .str "and"],rfl,⟨_,_,_,lM,⟨rfl,rfl,rfl⟩,rfl,sz0 3 (by decide),hwM,⟨"then", kM0,.str "if", _,_,rfl,rfl,rfl,⟨_,rfl⟩,⟨"or", kM1,.str "or", _,_,rfl,rfl,rfl,⟨_,rfl⟩,⟨"and", kM2,.str "and", _,_,rfl,rfl,rfl,⟨_,rfl⟩,⟨rfl,rfl⟩⟩⟩⟩⟩,⟨_,_,rfl,rfl,⟨_,_,rfl,rfl,⟨_,_,rfl,rfl,rfl⟩⟩⟩⟩
  mgD:=mg_of X G aD
  rpD:=fun H=>⟨hD,[.ref t5,.ref t6,.ref t7,.ref t8,.ref t9],rfl,⟨_,_,_,lD,⟨rfl,rfl,rfl⟩,rfl,sz0 5 (by decide),hwD,⟨"say", kD0,.ref t5,_,_,rfl,rfl,rfl,rfl,⟨"not", kD1,.ref t6,_,_,rfl,rfl,rfl,rfl,⟨"and", kD2,.ref t7,_,_,rfl,rfl,rfl,rfl,⟨"or", kD3,.ref t8,_,_,rfl,rfl,rfl,rfl,⟨"if", kD4,.ref t9,_,_,rfl,rfl,rfl,rfl,⟨rfl,rfl⟩⟩⟩⟩⟩⟩⟩,⟨_,_,rfl,rt5 H,⟨_,_,rfl,rt6 H,⟨_,_,rfl,rt7 H,⟨_,_,rfl,rt8 H,⟨_,_,rfl,rt9 H,rfl⟩⟩⟩⟩⟩⟩
  mgH:=mg_of X G aH
  rpH:=fun H=>⟨hH,[.int 3,.int 2],rfl,⟨_,_,_,lH,⟨rfl,rfl,rfl⟩,rfl,sz0 2 (by decide),hwH,⟨"first", kH0,.int 3,_,_,rfl,rfl,rfl,⟨_,rfl⟩,⟨"other", kH1,.int 2,_,_,rfl,rfl,rfl,⟨_,rfl⟩,⟨rfl,rfl⟩⟩⟩⟩,⟨_,_,rfl,rfl,⟨_,_,rfl,rfl,rfl⟩⟩⟩
  mgN:=mg_of X G aN
  rpN:=jO (vs:=[.str "and", .str "or", .str "not", .str "then"]) lN rfl rfl (sz0 4 (by decide)) (.cons ⟨_,rfl⟩ (.cons ⟨_,rfl⟩ (.cons ⟨_,rfl⟩ (.cons ⟨_,rfl⟩ .nil)))) fun H=>⟨_,_,rfl,rfl,⟨_,_,rfl,rfl,⟨_,_,rfl,rfl,⟨_,_,rfl,rfl,rfl⟩⟩⟩⟩
  mgJ:=mg_of X G aJ
  rpJ:=jO (vs:=[.str "(", .str ")", .str "not", .str "and", .str "or", .str "then"]) lJ rfl rfl (sz0 6 (by decide)) (.cons ⟨_,rfl⟩ (.cons ⟨_,rfl⟩ (.cons ⟨_,rfl⟩ (.cons ⟨_,rfl⟩ (.cons ⟨_,rfl⟩ (.cons ⟨_,rfl⟩ .nil)))))) fun H=>⟨_,_,rfl,rfl,⟨_,_,rfl,rfl,⟨_,_,rfl,rfl,⟨_,_,rfl,rfl,⟨_,_,rfl,rfl,⟨_,_,rfl,rfl,rfl⟩⟩⟩⟩⟩⟩
  mgP:=mg_of X G aP
  rpP:=jO (vs:=[.str "left", .str "right", .str "which", .str "if", .str "not"]) lP rfl rfl (sz0 5 (by decide)) (.cons ⟨_,rfl⟩ (.cons ⟨_,rfl⟩ (.cons ⟨_,rfl⟩ (.cons ⟨_,rfl⟩ (.cons ⟨_,rfl⟩ .nil))))) fun H=>⟨_,_,rfl,rfl,⟨_,_,rfl,rfl,⟨_,_,rfl,rfl,⟨_,_,rfl,rfl,⟨_,_,rfl,rfl,rfl⟩⟩⟩⟩⟩ }
 obtain ⟨fd,hb,hx,hF⟩:=zlx (P:=l.prog) (w:=w) T (HD.mk' l34 c34 k34);exact ⟨fd,hb,hx,fun base _ _=>hF base⟩
end K29
end
namespace PySem.W.Fast
def tw17565983056966051540:=0
def tw1193788348795754334:=0
def tw8059413026967311193:=0
def tw3372907634507528963:=0
def tw589196860313261656:=0
def tw3804167272844808288:=0
def tw2916660137072437886:=0
def tw14187000849609728107:=0
def tw16449464635717340769:=0
def tw312281231033132294:=0
def tw5232024584535998250:=0
def tw4617437936085918460:=0
def tw16138482353284750651:=0
def tw7749050369838406244:=0
def tw10957547142515701559:=0
def tw10416496299050763908:=0
def tw13912735868002492188:=0
def tw4551335183333967888:=0
def tw2716341046769663628:=0
def tw9897916346413413333:=0
def tw16799439762444682646:=0
def tw10259839727156968530:=0
def tw6680608718784207539:=0
def tw13455196413359552975:=0
def tw3537038046127763986:=0
def tw16782385247631702474:=0
def tw5964218300881166240:=0
def tw15723630783002499131:=0
def tw5803827624949909197:=0
def tw15770380086654653777:=0
def tw2272644040124379083:=0
def tw4306421731267056204:=0
def tw9470536949924816948:=0
def tw12946731266349539353:=0
def tw1450371245233078347:=0
def tw12921499086196202558:=0
def tw17588173435726306671:=0
def tw13293613507331911574:=0
def tw10183877810840604846:=0
def tw10262102026159224480:=0
def tw5997091548570928649:=0
def tw4401986012972938582:=0
def tw9649411305065650441:=0
def tw5101592114574108983:=0
def tw625061937247382668:=0
def tw10841929598514695759:=0
def tw4303100447417136141:=0
def tw4496980430139004868:=0
def tw11852208995467869679:=0
def tw14949753115378616497:=0
def tw18299242115390311314:=0
def tw16967728907995503107:=0
def tw11957507523594328812:=0
def tw26506882860646763:=0
def tw1957274919170813781:=0
def tw10257091442834521938:=0
def tw10901790068405610167:=0
def tw9270911396494429212:=0
def tw16355746682326634791:=0
def tw12149864035948424681:=0
def tw9853890630111180995:=0
def tw9327600923309219452:=0
def tw3851014742968868197:=0
def tw15347820547597732158:=0
def tw14589041403088263719:=0
def tw4641048432237156465:=0
def tw6408028334728172890:=0
def tw2317888725968113646:=0
def tw16647048352412631127:=0
def tw4685761265083714972:=0
def tw9129618717437493665:=0
def tw15779631658443181434:=0
def tw16112097040523313232:=0
def tw17500522726040878982:=0
def tw1385114672202310824:=0
def tw3219221989787993743:=0
def tw13639159693594824873:=0
def tw17761440527574396879:=0
def tw14321600810719961746:=0
def tw1284808096909443547:=0
def tw17740845066089365075:=0
def tw4577868389353316515:=0
def tw10240827450770272952:=0
def tw4136804004008527285:=0
def tw13670707311530456436:=0
def tw4397071402640371390:=0
def tw12949326854910887633:=0
def tw3372742861224736000:=0
def tw17847241588927750282:=0
def tw1033527520730869730:=0
def tw1455648648686240074:=0
def tw14130702333687557327:=0
def tw10741377113467088521:=0
def tw6344466192109980021:=0
def tw8532348737066957256:=0
def tw12262208742401657621:=0
def tw5378480485438661098:=0
def tw17547812081042495929:=0
def tw4186903038123813477:=0
def tw4384729447751088511:=0
def tw14163118663159115939:=0
def tw6158288200611714672:=0
def tw18315442668575561288:=0
def tw2942133832674759278:=0
def tw15448830868113529472:=0
def tw10728090731290075213:=0
def tw12940426106903331605:=0
def tw8751550673645771547:=0
def tw17616931870761259069:=0
def tw4100613604904775474:=0
def tw4372147832101519651:=0
def tw6429818443615511565:=0
def tw1125692547224171588:=0
def tw9335727369974556687:=0
def tw1035303474196633023:=0
def tw8910346423657641814:=0
def tw18082318103869806481:=0
def tw16596751638738132084:=0
def tw11741294254059256073:=0
def tw6654923781117354251:=0
def tw2594406694227664665:=0
def tw13403180687830430354:=0
def tw12698478394257210198:=0
def tw7544198947511593809:=0
def tw6424430546018144906:=0
def tw17532236146121246360:=0
def tw15364559194996929104:=0
def tw10921764073476311437:=0
def tw13954847773014529609:=0
def tw13494347576080334987:=0
def tw9144027552300069864:=0
def tw16623015274521803113:=0
def tw12574282371129132003:=0
def tw6821741719787748864:=0
def tw18424937018790386492:=0
def tw3946231689677333530:=0
def tw9161806605229560405:=0
def tw16086744333270741107:=0
def tw16770992496047089131:=0
def tw16677011133975658116:=0
def tw11402425231266627256:=0
def tw2839887148860058817:=0
def tw11909412940523113624:=0
def tw4710804647625770740:=0
def tw14745483907919909263:=0
def tw9335202625811264840:=0
def tw15543571375301352568:=0
def tw13834568028647608496:=0
def tw10914435879630287275:=0
def tw7657619348937881003:=0
def tw1669084348236007870:=0
def tw1906418006873739163:=0
def tw1034517447984141909:=0
def tw3698138301079969632:=0
def tw11581634908655540713:=0
def tw11746330846531100929:=0
def tw11529855776944955810:=0
def tw4016260796385567812:=0
def tw10977919726690081558:=0
def tw3997929112620731066:=0
def tw13850383019609705484:=0
def tw10373146268859979075:=0
def tw10574544578509541150:=0
def tw943704936884017441:=0
def tw3106983424064960742:=0
def tw3573824052595534816:=0
def tw15687925317114606228:=0
def tw5875878606231084407:=0
def tw2890369651015123529:=0
def tw7517340208859570388:=0
def tw5332731332620108638:=0
def tw8486841075079978852:=0
def tw7679290020471805264:=0
def tw7313060047445032341:=0
def tw2980945717274842692:=0
def tw18347068146202908324:=0
def tw6303862895499093534:=0
def tw1685901796249032033:=0
def tw4671621581426648398:=0
def tw16658029415674725984:=0
def tw9628849386743635541:=0
def tw16089092925011320306:=0
def tw667990465705560530:=0
def tw4827550808062328633:=0
def tw17881330920228430420:=0
def tw11612571088746438670:=0
def tw2144781643616873500:=0
def tw8339897727348922706:=0
def tw2144209172228044479:=0
def tw10717177331655632695:=0
def tw14024752028203863190:=0
def tw2706248298890212064:=0
def tw5783184059657093210:=0
def tw12396106099457810054:=0
def tw9638144104992586050:=0
def tw9633238123738395968:=0
def tw9448135108504347160:=0
def tw9416035643981408105:=0
def tw9315017577862310563:=0
def tw9019790082865388210:=0
def tw8836942448843983741:=0
def tw8763435942370530673:=0
def tw8743844592533207024:=0
def tw7973575982090224351:=0
def tw765650400335033962:=0
def tw7251421382481206089:=0
def tw7105236519717212902:=0
def tw7086674358138891153:=0
def tw7053705437645858052:=0
def tw6192152148977337459:=0
def tw5558808979188515395:=0
def tw540375827477378165:=0
def tw5262072924073564871:=0
def tw5258258653032489864:=0
def tw5164371380647154160:=0
def tw5161182450922859223:=0
def tw4991364919309030552:=0
def tw4948079764306260105:=0
def tw4698371410575440520:=0
def tw4676921415710230303:=0
def tw4658460639286827249:=0
def tw4391956419970730524:=0
def tw3973221466670653134:=0
def tw3569347271803099969:=0
def tw3332479670501190038:=0
def tw3113044960576127082:=0
def tw2662260879984548609:=0
def tw253896275198077391:=0
def tw2333532490827210374:=0
def tw2163445414791510367:=0
def tw18326850104452008428:=0
def tw18156562176316430990:=0
def tw18143747564031596968:=0
def tw17871359920085560660:=0
def tw17478738621115033783:=0
def tw17324734774497366973:=0
def tw16800036207732379716:=0
def tw16494243622111694455:=0
def tw15595689857380315940:=0
def tw15390381197641513066:=0
def tw14451199563742370944:=0
def tw14305741461723750632:=0
def tw14039187638514396274:=0
def tw13799956369679287639:=0
def tw13740512571695105775:=0
def tw13395885262257850651:=0
def tw13024862446850396408:=0
def tw12679810506115174602:=0
def tw12390786371256862695:=0
def tw12302953407185527210:=0
def tw11837877899888316489:=0
def tw11805232777802270799:=0
def tw11598984553911932435:=0
def tw1158897401279362159:=0
def tw1132451101625768635:=0
def tw1107754764275107638:=0
def tw10799446711433614824:=0
def tw10737798484910599361:=0
def tw10374337372348344088:=0
end PySem.W.Fast
open PySem PySem.W PyProof.Rows
set_option maxRecDepth 100000 in
set_option maxHeartbeats 0 in
theorem PySem.Challenge.cw_talkcourt_k29_steps_written_holds : PySem.Challenge.rw_talkcourt_k29_steps_written.Holds := by
 w_on;o_law;k_head;(case hw=>w_witness2)
 k_fill
 refine L3.walk3 (l:=PySem.Challenge.rw_talkcourt_k29_steps_written) (k:=115) rfl rfl ⟨rfl,rfl,by decide,by decide⟩ (fun w h Y=>PySem.W.kIn_of Y) ?F
 case F =>
  intro w mg fa h KX G hmg;refine' K29.all_mk KX G hmg ?a1 ?l1 ?c1 ?k1 ?a2 ?l2 ?c2 ?k2 ?a3 ?l3 ?c3 ?k3 ?a4 ?l4 ?c4 ?k4 ?a5 ?l5 ?c5 ?k5 ?a6 ?l6 ?c6 ?k6 ?a7 ?l7 ?c7 ?k7 ?a8 ?l8 ?c8 ?k8 ?a9 ?l9 ?c9 ?k9 ?a10 ?l10 ?c10 ?k10 ?a11 ?l11 ?c11 ?k11 ?a12 ?l12 ?c12 ?k12 ?a13 ?l13 ?c13 ?k13 ?a14 ?l14 ?c14 ?k14 ?a15 ?l15 ?c15 ?k15 ?a16 ?l16 ?c16 ?k16 ?a17 ?l17 ?c17 ?k17 ?a18 ?l18 ?c18 ?k18 ?a19 ?l19 ?c19 ?k19 ?a20 ?l20 ?c20 ?k20 ?a21 ?l21 ?c21 ?k21 ?a22 ?l22 ?c22 ?k22 ?a23 ?l23 ?c23 ?k23 ?a24 ?l24 ?c24 ?k24 ?a25 ?l25 ?c25 ?k25 ?a26 ?l26 ?c26 ?k26 ?a27 ?l27 ?c27 ?k27 ?a28 ?l28 ?c28 ?k28 ?a29 ?l29 ?c29 ?k29 ?a30 ?l30 ?c30 ?k30 ?a31 ?l31 ?c31 ?k31 ?a32 ?l32 ?c32 ?k32 ?a33 ?l33 ?c33 ?k33 ?a34 ?l34 ?c34 ?k34 ?z0 ?z1 ?z2 ?z3 ?z4 ?z5 ?z6 ?z7 ?z8 ?z9 ?z10 ?aLo ?aSi ?nb ?aS ?lS ?cS ?kS ?aO ?lO ?cO ?kO ?aB ?lB ?hwB ?aL ?lL ?hwL ?aW ?lW ?hwW ?aR ?lR ?hwR ?aT ?lT ?hwT ?aM ?lM ?hwM ?aD ?lD ?hwD ?aH ?lH ?hwH ?lt1 ?lt2 ?lt3 ?lt4 ?lt5 ?lt6 ?lt7 ?lt8 ?lt9 ?aN ?lN ?aJ ?lJ ?aP ?lP
  case a1|l1|c1|k1|a2|l2|c2|k2|a3|l3|c3|k3|a4|l4|c4|k4|a5|l5|c5|k5|a6|l6|c6|k6|a7|l7|c7|k7|a8|l8|c8|k8|a9|l9|c9|k9|a10|l10|c10|k10|a11|l11|c11|k11|a12|l12|c12|k12|a13|l13|c13|k13|a14|l14|c14|k14|a15|l15|c15|k15|a16|l16|c16|k16|a17|l17|c17|k17|a18|l18|c18|k18|a19|l19|c19|k19|a20|l20|c20|k20|a21|l21|c21|k21|a22|l22|c22|k22|a23|l23|c23|k23|a24|l24|c24|k24|a25|l25|c25|k25|a26|l26|c26|k26|a27|l27|c27|k27|a28|l28|c28|k28|a29|l29|c29|k29|a30|l30|c30|k30|a31|l31|c31|k31|a32|l32|c32|k32|a33|l33|c33|k33|a34|l34|c34|k34|z0|z1|z2|z3|z4|z5|z6|z7|z8|z9|z10|aLo|aSi|nb|aS|lS|cS|kS|aO|lO|cO|kO|aB|lB|aL|lL|aW|lW|aR|lR|aT|lT|aM|lM|aD|lD|aH|lH|lt1|lt2|lt3|lt4|lt5|lt6|lt7|lt8|lt9|aN|lN|aJ|lJ|aP|lP=>k_is
  case hwB=>first|k_is|decide|rfl
  case hwL=>first|k_is|decide|rfl
  case hwW=>first|k_is|decide|rfl
  case hwR=>first|k_is|decide|rfl
  case hwT=>first|k_is|decide|rfl
  case hwM=>first|k_is|decide|rfl
  case hwD=>first|k_is|decide|rfl
  case hwH=>first|k_is|decide|rfl
