import PyProof.Rows.All
import Wide.All
import OpenK.AllK
import Wide.FinOn
import Lean
import PyProof.EqAt
import PyProof.EqKinds
import PyProof.TupleCall
import PySem.Challenge.RW_talkcourt_k49_choices
set_option Elab.async false
set_option linter.all false
set_option compiler.extract_closed false
set_option maxRecDepth 100000
set_option maxHeartbeats 8000000
theorem zzN:¬ (false=true):=Bool.false_ne_true
theorem zzB:(false=true)=False:=Bool.false_eq_true
theorem zzC {α:Type _} {a:α} {l:List α}:(a::l).length=l.length+1:=rfl
theorem zzL {α:Type _}:([]:List α).length=0:=rfl
theorem zzA (n:Nat):0+n=n:=Nat.zero_add n
theorem zzM {α β:Type _} {l:List α} {f:α->β}:(l.map f).length=l.length:=List.length_map f
theorem zzP {α β:Type _} {b:β} {l:List α} {f:α->β} (h:b∈l.map f):∃ a,a∈l/\f a=b:=List.mem_map.mp h
theorem zzS {α:Type _} {l:List α}:l.toArray.size=l.length:=List.size_toArray
theorem zzR (n:Nat):n<=n:=Nat.le_refl n
theorem zzO {α:Type _} {a b:α} (h:a∈[b]):a=b:=List.mem_singleton.mp h
theorem zzT {α:Type _} {a:α} {l:List α}:a∈a::l:=List.mem_cons_self
theorem zzU {α β:Type _} {a:α} {l:List α} {f:α->β}:(a::l).map f=f a::l.map f:=rfl
theorem zzV {α β:Type _} {f:α->β}:([]:List α).map f=[]:=rfl
theorem zzW {α:Type _} {l l':List α}:(l++l').length=l.length+l'.length:=List.length_append
open PySem renaming wpAny_bind→Za, wpAny_pure→Zh, wpAny_holding→ZI, wpAny_Call_Name_kw→ZQ, wpAny_loadPart'→ZS, sizeLine_eq→Z5, wpAny_truthy_bool→Z6, wpAny_newObj_type→Zae, wpAny_mono→Zal, wpAny_passesOwn→Zaw, wpAny_updateSeq→Zax, mem_of_lookup→ZaB, wpAny_callSpecial?_slot→ZaC, wpAny_getItem_str_slice→ZaD, wpAny_call_entry→ZaI, call_meets→ZaK, tupleKind_room_in1→ZaL, wpAny_binaryOp_repeat_ref→ZaS, wpAny_pyIter_list→Zbb, wpAny_sequenceKey→Zbc, plainId_quiet→Zbr, typeIs_int→Zbs, post_val_or_str→Zbu, pushCells_keeps→Zbv, wpAny_field→Zbw, wpAny_specialOf→Zbx, wpAny_typeOf→ZbC, wpAny_standAt→ZbP, noFill_tuple_add→ZbU, codeAny_builtin→Zb0, codeAny_mono→Zb1, wpAny_execs_nil→Zb2, evalPart_none→Zb7, seq_tuple_add→Zb8
open Nat renaming le_trans→Zb, zero_le→Zg, lt_of_lt_of_le→Zn, ne_of_lt→Zr, succ_pos→ZP, min_self→ZU, max_self→Z0, lt_irrefl→Z9, lt_of_le_of_lt→Zab, lt_succ_self→Zai, le_add_left→Zav, succ_le_succ→ZaH, max_le→ZaJ, lt_succ_of_lt→ZaN, le_of_lt→ZaY, ne_of_gt→ZaZ, pow_le_pow_right→Zbq, le_succ_of_le→ZbK, le_succ→ZbN, le_add_right→ZbT, not_lt_zero→ZbZ
open PySem.Heap renaming get?_push_of_some→Zc, lt_size→Zi, get?_push_size→Zq, get?_update_other→ZR, size_push→Z7, get?_update_self→Zam
open List renaming mem_cons_of_mem→Zd, length_cons→Ze, getElem?_eq_getElem→Zf, length_nil→Zj, mem_cons→Zk, getElem?_eq_some_iff→Zl, mem_append→Zm, mem_of_getElem?→Zo, mem_append_right→Zs, append_nil→Zv, getElem?_map→Zx, lookup_cons→Zy, any_cons→Zz, getElem_mem→ZB, nil_append→ZC, getElem?_cons_zero→ZE, mem_singleton→ZH, take_succ_eq_append_getElem→ZJ, find?_cons→ZK, length_filter_le→ZL, getElem?_append_right→ZN, any_nil→ZT, getElem?_cons_succ→ZV, map_append→ZW, mem_filter→ZX, pairwise_singleton→ZY, getD_eq_getElem?_getD→Z1, length_pos_iff→Z2, length_reverse→Z3, replicate_succ→Z4, getElem?_append_left→Z8, zip_cons_cons→Zaa, cons_append→Zac, reverse_cons→Zad, isEmpty_nil→Zah, set_cons_zero→Zan, mem_range→Zao, mem_append_left→Zaq, flatten_cons→Zas, length_filterMap_le→Zat, nodup_cons→Zau, filterMap_cons→Zaz, length_take→ZaE, mem_flatMap→ZaF, take_length→ZaG, drop_eq_getElem_cons→ZaQ, nodup_nil→ZaR, all_eq_true→ZaT, any_eq_true→ZaU, getElem?_take_of_lt→ZaX, all_cons→Za1, getElem?_replicate→Za2, pairwise_cons→Za3, set_cons_succ→Za4, find?_cons_of_neg→Za6, isEmpty_cons→Za8, length_range→Za9, getElem?_reverse→Zbe, length_replicate→Zbf, map_map→Zbg, filter_cons→Zbj, length_drop→Zbk, map_flatMap→Zbl, getElem?_set_ne→Zbn, getLast?_append→Zbo, length_dropLast→Zbp, filterMap_map→Zbz, mem_filterMap→ZbA, append_assoc→ZbG, findIdx_cons→ZbH, flatMap_cons→ZbI, pairwise_map→ZbJ, not_mem_nil→ZbS, filter_map→ZbX, of_mem_zip→ZbY, drop_zero→Zb4
open Bool renaming and_eq_true→Zp, not_false→Zu, not_true→ZA, false_or→ZD, or_false→ZG, and_self→ZM, true_or→ZO, or_true→ZZ, not_eq_true'→Zar, beq_eq_decide_eq→Zbd, and_false→Zb3, true_and→Zb5
open PyProof.Rows renaming slot_tuple_getitem→Zt, callWith_type1→Zaf, entry_tuple_getitem→Zbt, args_tuple_getitem→ZbB, slicePart_none→ZbD, tail_any→Zb9, tupleItemsOf_→Zca
open Option.some renaming inj→Zw, injEq→ZbM
open Option renaming map_eq_some_iff→ZF, join_some→Zaj, isSome_map→ZbL
open PySem.MeetsSeq renaming plain_remove_loop→Zag
open PySem.W renaming mg_none_of→Zak
open PySem.F renaming slot_dict_getitem→Zap, plainAttrs_list→ZaA, slot_int_rmul→ZaM, slot_dict_contains→ZaP, plain_extend_loop→ZaV, args_tuple_add_2→Za0, entry_tuple_add→Za5, slot_tuple_add→Za7, slot_dict_get→Zbh, slot_tuple_mul→Zbi, args_int_rmul_2→ZbE, entry_int_rmul→ZbQ, slot_int_index→ZbR, fills_int_mul→ZbV
open Array renaming length_toList→Zay, perm_iff_toList_perm→ZaO
open PySem.AutoSeq1 renaming sub_tuple_tuple→ZaW
open PySem.Str renaming length_append→Zba
open PySem.Around renaming under_plainId→Zbm
open Int renaming emod_lt_of_pos→Zby, emod_nonneg→ZbW
open List.Sublist renaming refl→ZbF
open PySem.Paired renaming length→ZbO
open PyProof.Rows.IsTup renaming new→Zb6
noncomputable section
set_option hygiene false
local macro_rules|`('m')=>`((z.sd.map Sy.w))
local macro_rules|`('l')=>`(((z.us.map dW).filterMap fun w=>if (([dW (y,t)]).any fun z=>yQ z w)=true then none else some w))
local macro_rules|`('k')=>`((put (put G' q (.lst ((z.sd.map Sy.w).filterMap fun w=>if (((heard m r).map Sy.w).any fun z=>yQ z w)=true then none else some w))) q2 (.lst (((z.sd.map Sy.w).filterMap fun w=>if (((heard m r).map Sy.w).any fun z=>yQ z w)=true then none else some w)++(heard m r).map Sy.w))))
local macro_rules|`('j')=>`((by decide +kernel))
local macro_rules|`('i')=>`((∀ w G',Q w G'->Q' w G'))
local macro_rules|`('h')=>`((.var 0))
local macro_rules|`('g')=>`((by simp))
local macro_rules|`('f')=>`((model X.prog X.w))
local macro_rules|`('e')=>`(⟨rfl,rfl,rfl,rfl,rfl,rfl,rfl,rfl⟩)
local macro_rules|`('d')=>`((by omega))
local macro_rules|`('c')=>`((by decide))
local macro_rules|`('b')=>`((yW K C sA n))
local macro_rules|`('a')=>`(⟨rfl,rfl,rfl,by decide +kernel,rfl,by decide +kernel,by decide +kernel⟩)
local macro_rules(kind:=«term{_}»)|`({$a,*})=>do let x:Lean.Term<-a.getElems.foldrM (fun a b=>`(.cons $a $b)) (<-`(.nil));return x
local macro_rules|`($x:ident⁻¹)=>`(some (.ref $x))
local macro_rules|`($x:num⁻¹)=>`(.con (.int $x))
local macro_rules|`($x:str⁻¹)=>`(.con (.str $x))
local macro_rules|`(tactic|erw[$[$t:term],*])=>`(tactic|((try dsimp only [zT,zU,zQ,zH,zF,zC,zB,zS,zW,zR,zX,zZ,zY,zV,zN,zP,zE,zO,gZ,gS,tZ,tS]);try simp only [$[$t:term],*]))
namespace L2
open PySem
theorem zdL {M:Model} {Γ:Ctx} {p:Pos} {t:Sem Fin} {fs:List Frame} {s s':Shared} {e:End} (h:Runs M Γ p t fs s e s'):s.toks<=s'.toks:=by
 induction h<;>(try simp only[Shared.setGen] at *)<;>omega
theorem ziP {M:Model} {Γ:Ctx} {p:Pos} {g:Nat} {r:Resume} {s s':Shared} {res:GenResult} (h:Wakes M Γ p g r s res s'):s.toks<=s'.toks:=by
 unfold Wakes at h
 split at h
 .exact h.elim
 .split at h
  .obtain ⟨e,s1,h,_,_,rfl⟩:=h;have:=zdL h;exact this
  .rw[h.2];exact zzR _
  .rw[h.2];exact zzR _
 .obtain ⟨e,s1,h,_,_,rfl⟩:=h;have:=zdL h;exact this
 .rw[h.2];exact zzR _
 .rw[h.2];exact zzR _
theorem wp_up {α:Type} {M:Model} {Γ:Ctx} {n:Nat}:∀ (t:Sem α) (Q:α->Pos->Shared->Prop) (E:Value->Pos->Shared->Prop) (p:Pos) (s:Shared),n<=s.toks ->
  Sem.wp M Γ t (fun a p' s'=>n<=s'.toks->Q a p' s') (fun e p' s'=>n<=s'.toks->E e p' s') p s->Sem.wp M Γ t Q E p s:=by
 intro t
 induction t with
 |pure a=>intro Q E p s h z;rw[Sem.wp] at z ⊢;exact z h
 |raise e=>intro Q E p s h z;rw[Sem.wp] at z ⊢;exact z h
 |unsupported _=>intro Q E p s h z;rw[Sem.wp] at z;exact z.elim
 |finish _=>intro Q E p s h z;rw[Sem.wp] at z;exact z.elim
 |register _ _ _=>intro Q E p s h z;rw[Sem.wp] at z;exact z.elim
 | «yield» _ _ _ _ _=>intro Q E p s h z;rw[Sem.wp] at z;exact z.elim
 |load a part k ih=>intro Q E p s h z;rw[Sem.wp] at z ⊢;obtain ⟨o,e,z⟩:=z;exact ⟨o,e,ih o Q E p s h z⟩
 |update a part f k ih=>intro Q E p s h z;rw[Sem.wp] at z ⊢;exact ⟨z.1,ih () Q E p _ h z.2⟩
 |fresh k ih=>intro Q E p s h z;rw[Sem.wp] at z ⊢;exact ih _ Q E p _ (ZbK h) z
 |choose src m k ih=>intro Q E p s h z;rw[Sem.wp] at z ⊢;exact ⟨z.1,ih _ Q E p _ h z.2⟩
 |genState g k ih=>intro Q E p s h z;rw[Sem.wp] at z ⊢;obtain ⟨st,e,z⟩:=z;exact ⟨st,e,ih _ Q E p s h z⟩
 |resume g r l k ih=>intro Q E p s h z;rw[Sem.wp] at z ⊢;obtain ⟨res,s',w,z⟩:=z;exact ⟨res,s',w,ih _ Q E p s' (Zb h (ziP w)) z⟩
 |call c hd g l k ih=>intro Q E p s h z;rw[Sem.wp] at z ⊢;obtain ⟨r,s',w,z⟩:=z;exact ⟨r,s',w,ih _ Q E p s' (Zb h (zdL w)) z⟩
 |_=>first|(intro Q E p s h z;rw[Sem.wp] at z;exact z.elim)|(rename_i ih;intro Q E p s h z;rw[Sem.wp] at z ⊢;exact ih _ Q E _ _ h z)
theorem vA {α:Type} {M:Model} {A:Around} {t:Sem α} {Q:α->Shared->Prop} {E:Value->Shared->Prop} {s:Shared} (h:0<s.toks) (w:wpAny M A t (fun a s'=>0<s'.toks->Q a s') E s):wpAny M A t Q E s:=fun Γ p hΓ =>
 wp_up (n:=1) t _ _ p s h (Sem.wp_mono M Γ t (post':=fun a _ s'=>1<=s'.toks->Q a s') (exc':=fun e _ s'=>1<=s'.toks->E e s') (fun _ _ _ z=>z) (fun _ _ _ z _=>z) p s (w Γ p hΓ))
theorem zfU {M:Model} {A:Around} {E:Value->Shared->Prop} {s:Shared} {scope:Scope} {gl:Addr} {x:Str} {u:Value} {qual:Str} {fn:Option Addr} {code:Value} {bl:Addr} {Q:Env->Shared->Prop}
  (hk:scope.kind=.function) (hx:scope.names.lookup x=some .local)
  (hQ:∀ env,env=newEnv scope s.heap.objs.size gl (cellsFrom (s.heap.objs.size+1) scope.names []) qual fn code none bl ->
   ∀ s',InCallC s env.locals (bindL env.kindOf [(x,u)] fun _=>none) env.cells (bindC env.kindOf [(x,u)] fun _=>none) s'->0<s'.toks->Q env s') :
  wpAny M A (newFunctionEnv scope gl [] [(x,u)] qual fn code none bl) Q E s:=by
 simp only[newFunctionEnv,Option.isSome_none,zzB,if_false];refine Za (wpAny_alloc (Za (wpAny_layCells _ (fun name kind cells=>by cases h:kind==NameKind.cell<;>simp[h]) _ _ _ _ ?_)));have ok:=cellsFrom_ok scope.names (s.heap.push { cls:=.type "frame", data:=.dict #[] }) (s.heap.objs.size+1) [] ⟨fun _ _ z=>(nomatch z),List.Pairwise.nil⟩ (by rw[Z7];exact zzR _);rw[Z7] at ok;rw[show ({ s with heap:=s.heap.push { cls:=.type "frame", data:=.dict #[] } }:Shared).heap.objs.size=s.heap.objs.size+1 from Z7 ..];have ns:=(Heap.Ns.new s.heap (.type "frame")).keeps (Zbv scope.names (s.heap.push { cls:=.type "frame", data:=.dict #[] }));rw[List.forIn_cons];refine Za (Za (Za (wpAny_storeName_local (env:=newEnv scope s.heap.objs.size gl (cellsFrom (s.heap.objs.size+1) scope.names []) qual fn code none bl) hx ns (fun h' hn' hs'=>Zh ?_) (by show (scope.kind==ScopeKind.class || (scope.kind==ScopeKind.module&&(s.heap.objs.size != gl)))=false;rw[hk];rfl))));show wpAny M A (forIn [] _ _) _ _ _;rw[List.forIn_nil];refine Zh (Zh (hQ _ rfl _ ⟨⟨⟨h',_,rfl⟩,?_,fun b o e=>?_,zzR _⟩,fun n c hc=>?_,ok.apart,fun n c hm=>(ok.empty n c hm).2⟩ (ZP _)))
 .have e:(newEnv scope s.heap.objs.size gl (cellsFrom (s.heap.objs.size+1) scope.names []) qual fn code none bl).kindOf x=some .local:=hx;unfold bindL bindL;rw[if_pos e];exact hn'
 .exact (hs'.2 b (Zr (Zi e))).trans (Zbv _ _ b o (Zc _ e))
 .have e:(newEnv scope s.heap.objs.size gl (cellsFrom (s.heap.objs.size+1) scope.names []) qual fn code none bl).kindOf x=some .local:=hx;unfold bindC bindC;rw[if_pos e];have q:=ok.empty n c (mem_of_lookup hc);exact q.1.sameBut hs' (ZaZ q.2)
theorem zfT {M:Model} {A:Around} {E:Value->Shared->Prop} {s:Shared} {scope:Scope} {gl:Addr} {ps:List Str} {us:List Value} {qual:Str} {fn:Option Addr} {code:Value} {bl:Addr} {Q:Env->Shared->Prop}
  (hk:scope.kind=.function) (hkind:∀ x∈ps.zip us,scope.names.lookup x.1=some .local\/(scope.names.lookup x.1=some .cell/\((cellsFrom (s.heap.objs.size+1) scope.names []).lookup x.1).isSome=true))
  (hl:us.length=ps.length) (hp:0<s.toks\/∃ x,ps=[x]/\scope.names.lookup x=some .local)
  (hQ:∀ env,env=newEnv scope s.heap.objs.size gl (cellsFrom (s.heap.objs.size+1) scope.names []) qual fn code none bl ->
   ∀ s',InCallC s env.locals (bindL env.kindOf (ps.zip us) fun _=>none) env.cells (bindC env.kindOf (ps.zip us) fun _=>none) s'->0<s'.toks->Q env s') :
  wpAny M A (newFunctionEnv scope gl [] (ps.zip us) qual fn code none bl) Q E s:=by
 rcases hp with hp|⟨x,rfl,hx⟩
 .exact vA hp (wpAny_newFunctionEnv_cells hk hkind hQ)
 .cases us with
  |nil=>cases hl
  |cons u r =>
   cases r with
   |nil=>exact zfU hk hx hQ
   |cons _ _=>cases hl
end L2
namespace L2
open PySem PySem.Spec PyProof.Rows
abbrev xS:=Sum Int Str
def zea:xS->Value->Bool
 | .inl k,v=>Value.isInt k v
 | .inr x,v=>Value.isStrOf x v
def keyH (w:World):xS->Int
 | .inl k=>hashInt k
 | .inr x=>hashStr w x
theorem xP:∀ {k:xS} {v:Value},zea k v=true->(∃ i t,k=Sum.inl i/\v=Value.int i t)\/(∃ x t,k=Sum.inr x/\v=Value.str x t)
 | .inl i,v,h=>by
  obtain ⟨t,e⟩:=Value.isInt_shape (k:=i) (v:=v) h;exact .inl ⟨i,t,rfl,e⟩
 | .inr x,v,h=>by
  obtain ⟨t,e⟩:=Value.isStrOf_shape (x:=x) (v:=v) h;exact .inr ⟨x,t,rfl,e⟩
theorem zhT (i:Int) (t:Tok):zea (.inl i) (.int i t)=true:=by simp[zea,Value.isInt]
theorem zhR (x:Str) (t:Tok):zea (.inr x) (.str x t)=true:=by simp[zea,Value.isStrOf]
theorem zod (a b:Int):decide ((Sum.inl a:xS)=Sum.inl b)=(a==b):=by
 by_cases e:a=b
 .subst e;simp
 .have h:¬ (Sum.inl a:xS)=Sum.inl b:=fun q=>e (Sum.inl.inj q);rw[decide_eq_false h];exact (beq_eq_false_iff_ne.mpr e).symm
theorem zn9 (a b:Str):decide ((Sum.inr a:xS)=Sum.inr b)=decide (a=b):=by
 by_cases e:a=b
 .subst e;simp
 .have h:¬ (Sum.inr a:xS)=Sum.inr b:=fun q=>e (Sum.inr.inj q);rw[decide_eq_false h,decide_eq_false e]
theorem zoc (a:Int) (b:Str):decide ((Sum.inl a:xS)=Sum.inr b)=false:=decide_eq_false (fun q=>nomatch q)
theorem zoa (a:Str) (b:Int):decide ((Sum.inr a:xS)=Sum.inl b)=false:=decide_eq_false (fun q=>nomatch q)
def xQ (prog:Program) (w:World):PySem.KeyKind prog w xS where
 is:=zea
 hash:=keyH w
 inj:=fun v a b ha hb=>by
  rcases xP ha with ⟨i,t,rfl,rfl⟩|⟨x,t,rfl,rfl⟩
  .rcases xP hb with ⟨j,u,rfl,e⟩|⟨y,u,rfl,e⟩
   .injection e with e1 _;rw[e1]
   .exact nomatch e
  .rcases xP hb with ⟨j,u,rfl,e⟩|⟨y,u,rfl,e⟩
   .exact nomatch e
   .injection e with e1 _;rw[e1]
 byValue:=fun k v h=>by
  rcases xP h with ⟨i,t,rfl,rfl⟩|⟨x,t,rfl,rfl⟩<;>rfl
 pyHash:=fun hv h=>by
  rcases xP hv with ⟨i,t,rfl,rfl⟩|⟨x,t,rfl,rfl⟩
  .exact wpAny_pyHash_int h
  .exact wpAny_pyHash_str h
 eqBool:=fun hu hv h=>by
  rcases xP hu with ⟨i,t,rfl,rfl⟩|⟨x,t,rfl,rfl⟩
  .rcases xP hv with ⟨j,u,rfl,rfl⟩|⟨y,u,rfl,rfl⟩
   .rw[zod] at h;exact wpAny_eqBool_int h
   .rw[zoc] at h;exact SeqAt.EqAt.int_str i t y u _ _ _ _ h
  .rcases xP hv with ⟨j,u,rfl,rfl⟩|⟨y,u,rfl,rfl⟩
   .rw[zoa] at h;exact SeqAt.EqAt.str_int x t j u _ _ _ _ h
   .rw[zn9] at h;exact wpAny_eqBool_str h
 «strs»:=fun k x t v h=>by
  rcases xP h with ⟨i,u,rfl,e⟩|⟨y,u,rfl,e⟩
  .exact nomatch e
  .injection e with e1 _
   subst e1;cases v<;>rfl
theorem zdZ (prog:Program) (w:World) (i:Int) (t:Tok):(xQ prog w).is (.inl i) (.int i t)=true:=zhT i t
theorem zdY (prog:Program) (w:World) (x:Str) (t:Tok):(xQ prog w).is (.inr x) (.str x t)=true:=zhR x t
end L2
namespace L2
open PySem PySem.Spec PyProof.Rows
inductive V where
 |non|bl (b:Bool)|int (i:Int)|str (x:Str)|byt (b:Array UInt8)|flt (b:UInt64)|ref (a:Addr)|ty (n:String)
 deriving DecidableEq
def yR:V->Value->Prop
 | .non,u=>u=Value.none
 | .bl b,u=>u=Value.bool b
 | .int i,u=>∃ t,u=Value.int i t
 | .str x,u=>∃ t,u=Value.str x t
 | .byt b,u=>∃ t,u=Value.bytes b t
 | .flt b,u=>∃ t,u=Value.float b t
 | .ref a,u=>u=Value.ref a
 | .ty n,u=>u=Value.type n
abbrev yV:List V->List Value->Prop:=Paired yR
theorem yV.length {xs:List V} {us:List Value} (r:yV xs us):xs.length=us.length:=ZbO r
theorem yV.get:∀ {xs:List V} {us:List Value} {i:Nat} {x:V},yV xs us->xs[i]?=some x->∃ u,us[i]?=some u/\yR x u
 |_,_,_,_,.nil,e=>by simp at e
 |_,_,0,_,.cons r _,e=>by simp at e;subst e;exact ⟨_,rfl,r⟩
 |_,_,i+1,x,.cons _ t,e=>by
  obtain ⟨u,h1,h2⟩:=yV.get (i:=i) (x:=x) t (by simpa using e);exact ⟨u,by simpa using h1,h2⟩
theorem yV.set {x:V} {u:Value} (r:yR x u):∀ {xs:List V} {us:List Value} (i:Nat),yV xs us->yV (xs.set i x) (us.set i u)
 |_,_,_,.nil=>.nil
 |_,_,0,.cons _ t=>.cons r t
 |_,_,i+1,.cons q t=>.cons q (yV.set r i t)
theorem yV.append:∀ {xs ys:List V} {us ws:List Value},yV xs us->yV ys ws->yV (xs++ys) (us++ws)
 |_,_,_,_,.nil,s=>s
 |_,_,_,_,.cons r t,s=>.cons r (yV.append t s)
theorem yV.take:∀ {xs:List V} {us:List Value} (n:Nat),yV xs us->yV (xs.take n) (us.take n)
 |_,_,0,_=>.nil
 |_,_,_+1,.nil=>.nil
 |_,_,n+1,.cons r t=>.cons r (yV.take n t)
theorem yV.drop:∀ {xs:List V} {us:List Value} (n:Nat),yV xs us->yV (xs.drop n) (us.drop n)
 |_,_,0,r=>r
 |_,_,_+1,.nil=>.nil
 |_,_,n+1,.cons _ t=>yV.drop n t
def gG:Option V->Option Value->Prop
 |some v,some u=>yR v u
 |none,none=>True
 |_,_=>False
def KV {κ:Type}:List (κ×V)->List (κ×Value)->Prop:=Paired fun (p:κ×V) (q:κ×Value)=>p.1=q.1/\yR p.2 q.2
def kV:xS->V
 | .inl i=>.int i
 | .inr x=>.str x
inductive HO where
  |lst (xs:List V)
  |tup (xs:List V)
  |dK (kvs:List (xS×V))|dT (kvs:List (List xS×V))
  |set (S:Int->Bool) (n:Nat)
  |ins (C dx:Addr) (fs:List (Str×V))
  |own (x:Addr)
  |xd (fs:List (Str×V))
  |met (f x:Addr)
  |rng (lo hi:Int)
  |frz (o:Obj) (u:HO)
  |tbl (ps:Array Value)
  |ext (φ:Heap->Prop)
abbrev Hp:=Addr->Option HO
def xM (H:Hp) (a:Addr) (o:HO):Hp:=fun b=>if b=a then some o else H b
theorem wC {H:Hp} {a:Addr} {o:HO}:xM H a o a=some o:=by unfold xM;rw[if_pos rfl]
theorem yS {H:Hp} {a b:Addr} {o:HO} (h:b≠a):xM H a o b=H b:=by unfold xM;rw[if_neg h]
theorem ne_of {H:Hp} {a b:Addr} {o u:HO} (h:H a=some o) (h':H b=some u) (d:o≠u):a≠b:=by
 intro e;subst e;rw[h] at h';exact d (Zw h')
theorem yE {H:Hp} {a b:Addr} {o:HO} (h:H a=some o) (h':H b=none):a≠b:=by
 intro e;subst e;rw[h] at h';cases h'
section
variable (P:Program) (w:World)
def wY (H:Hp) (h:Heap) (a:Addr):HO->Prop
 | .lst xs=>xs.length<=sizeLine/\∃ (its:List Value) (n:Nat),yV xs its/\h.get? a=some { cls:=.type "list", data:=.seq its.toArray n }
 | .tup xs=>xs.length<=sizeLine/\∃ its:List Value,yV xs its/\IsTup h a its.toArray
 | .dK kvs=>kvs.length<=sizeLine/\(a==sysModules)=false/\∃ vs,KV kvs vs/\h.DictOf (xQ P w) a vs
 | .dT kvs=>kvs.length<=sizeLine/\(a==sysModules)=false/\∃ xs:List (List xS×Addr×Value),
   Paired (fun (p:List xS×V) (q:List xS×Addr×Value)=>p.1=q.1/\H q.2.1=some (.tup (p.1.map kV))/\yR p.2 q.2.2) kvs xs /\
   ∃ o es ep,h.get? a=some o/\o.ExactDict/\o.data=.dict es ep/\es.toList=xs.map (entryOfKey (tupleKind (xQ P w)))/\(xs.map (·.1)).Nodup
 | .set S n=>h.SetOf (intKind P w) a S n
 | .ins C dx fs=>H dx=some (.own a)/\fs.length<=1000/\dx≠a/\h.get? a=some (PySem.W.instObj C dx) /\
   ∃ mA,h.Ns1 dx mA/\(∀ f,gG (fs.lookup f) (mA f))/\PySem.Within mA (fs.map (·.1))
 | .own _=>∃ o,h.get? a=some o
 | .xd fs=>∃ mA,h.Ns1 a mA/\∀ f,gG (fs.lookup f) (mA f)
 | .rng lo hi=>∃ t u v,h.get? a=some { cls:=.type "range", data:=.fields #[.int lo t,.int hi u,.int 1 v] }
 | .frz o u=>h.get? a=some o/\wY H h a u
 | .tbl ps=>h.get? a=some { cls:=.none,data:=.fields ps }
 | .met f x=>h.get? a=some (PySem.W.methodObj (.ref f) (.ref x))
 | .ext φ=>φ h/\(∃ o,h.get? a=some o)/\∀ h1 h2:Heap,φ h1->(∀ o,h1.get? a=some o->h2.get? a=some o)->φ h2
def nA (H:Hp) (h:Heap):Prop:=∀ a o,H a=some o->wY P w H h a o
end
section
variable {P:Program} {w:World} {H H':Hp} {h h':Heap} {a:Addr} {o:HO}
theorem wY.lt (x:wY P w H h a o):a<h.objs.size:=by
 cases o with
 |lst xs=>obtain ⟨_,_,_,_,e⟩:=x;exact Zi e
 |tup xs=>obtain ⟨_,_,_,p⟩:=x;exact p.lt
 |dK kvs=>obtain ⟨_,_,_,_,o,_,_,e,_⟩:=x;exact Zi e
 |dT kvs=>obtain ⟨_,_,_,_,o,_,_,e,_⟩:=x;exact Zi e
 |set S n=>obtain ⟨o,_,_,_,e,_⟩:=x;exact Zi e
 |ins C dx fs=>obtain ⟨_,_,_,e,_⟩:=x;exact Zi e
 |own y=>obtain ⟨_,e⟩:=x;exact Zi e
 |xd fs=>obtain ⟨_,⟨_,_,_,e,_⟩,_⟩:=x;exact Zi e
 |rng lo hi=>obtain ⟨_,_,_,e⟩:=x;exact Zi e
 |frz ob u=>obtain ⟨e,_⟩:=x;exact Zi e
 |tbl ps=>exact Zi (show h.get? a=some _ from x)
 |met f y=>exact Zi (show h.get? a=some _ from x)
 |ext φ=>obtain ⟨_,⟨_,e⟩,_⟩:=x;exact Zi e
theorem Paired.mapP {α β:Type} {F G:α->β->Prop}:∀ {l₁:List α} {l₂:List β},Paired F l₁ l₂->(∀ a b,F a b->G a b)->Paired G l₁ l₂
 |_,_,.nil,_=>.nil
 |_,_,.cons r t,f=>.cons (f _ _ r) (Paired.mapP t f)
theorem wY.stay (x:wY P w H h a o) (k:∀ b u,(b=a\/H b=some (.own a))->h.get? b=some u->h'.get? b=some u)
  (ho:∀ b,H b=some (.own a)->H' b=some (.own a)) (ht:∀ b xs,H b=some (.tup xs)->H' b=some (.tup xs)):wY P w H' h' a o:=by
 induction o with
 |lst xs=>obtain ⟨z,its,n,r,e⟩:=x;exact ⟨z,its,n,r,k _ _ (.inl rfl) e⟩
 |tup xs=>obtain ⟨z,its,r,ob,e,c⟩:=x;exact ⟨z,its,r,ob,k _ _ (.inl rfl) e,c⟩
 |dK kvs=>obtain ⟨z,y,vs,r,ob,es,ep,e,c⟩:=x;exact ⟨z,y,vs,r,ob,es,ep,k _ _ (.inl rfl) e,c⟩
 |dT kvs =>
  obtain ⟨z,y,xs,r,ob,es,ep,e,c⟩:=x;exact ⟨z,y,xs,Paired.mapP r fun p q z=>⟨z.1,ht _ _ z.2.1,z.2.2⟩,ob,es,ep,k _ _ (.inl rfl) e,c⟩
 |set S n=>obtain ⟨ob,es,ep,t,e,c⟩:=x;exact ⟨ob,es,ep,t,k _ _ (.inl rfl) e,c⟩
 |ins C dx fs =>
  obtain ⟨d,z,ne,e,mA,⟨od,es,ep,e2,c⟩,r⟩:=x;exact ⟨ho _ d,z,ne,k _ _ (.inl rfl) e,mA,⟨od,es,ep,k _ _ (.inr d) e2,c⟩,r⟩
 |own y=>obtain ⟨ob,e⟩:=x;exact ⟨ob,k _ _ (.inl rfl) e⟩
 |xd fs=>obtain ⟨mA,⟨od,es,ep,e,c⟩,r⟩:=x;exact ⟨mA,⟨od,es,ep,k _ _ (.inl rfl) e,c⟩,r⟩
 |rng lo hi=>obtain ⟨t,u,v,e⟩:=x;exact ⟨t,u,v,k _ _ (.inl rfl) e⟩
 |frz ob u ih=>obtain ⟨e,q⟩:=x;exact ⟨k _ _ (.inl rfl) e,ih q⟩
 |tbl ps =>
  have e:h.get? a=some { cls:=.none,data:=.fields ps }:=x;show h'.get? a=some { cls:=.none,data:=.fields ps };exact k a _ (.inl rfl) e
 |met f y =>
  have e:h.get? a=some (PySem.W.methodObj (.ref f) (.ref y)):=x;show h'.get? a=some (PySem.W.methodObj (.ref f) (.ref y));exact k a _ (.inl rfl) e
 |ext φ=>obtain ⟨p,⟨o,e⟩,st⟩:=x;exact ⟨st _ _ p fun o q=>k _ _ (.inl rfl) q,⟨o,k _ _ (.inl rfl) e⟩,st⟩
theorem nA.lt (x:nA P w H h) (e:H a=some o):a<h.objs.size:=(x a o e).lt
theorem nA.fresh (x:nA P w H h) (e:h.objs.size<=a):H a=none:=by
 cases q:H a with
 |none=>rfl
 |some u=>exact absurd (Zn (x.lt q) e) (Z9 _)
theorem nA.kept (x:nA P w H h) (k:∀ b u,h.get? b=some u->h'.get? b=some u):nA P w H h':=fun a o e =>
 (x a o e).stay (fun b u _ q=>k b u q) (fun _ q=>q) fun _ _ q=>q
theorem nA.laid (x:nA P w H h) (k:∀ b u,h.get? b=some u->h'.get? b=some u) (hp:h.objs.size<=a) (new:wY P w (xM H a o) h' a o):nA P w (xM H a o) h':=fun b u e=>by
 have hn:=x.fresh hp
 by_cases hb:b=a
 .subst hb;rw[wC] at e;cases e;exact new
 .rw[yS hb] at e;exact (x b u e).stay (fun c v _ q=>k c v q) (fun c q=>by rw[yS (yE q hn)];exact q) fun c xs q=>by rw[yS (yE q hn)];exact q
end
def Rd (H:Hp) (a:Addr) (u:HO):Prop:=H a=some u\/∃ o,H a=some (.frz o u)
theorem Rd.ok {P:Program} {w:World} {H:Hp} {h:Heap} {a:Addr} {u:HO} (r:Rd H a u) (x:nA P w H h):wY P w H h a u:=by
 rcases r with r|⟨o,r⟩
 .exact x a u r
 .obtain ⟨_,q⟩:=x a _ r;exact q
def Mut:Option HO->Prop
 |some (.lst _)=>True
 |some (.dK _)=>True
 |some (.dT _)=>True
 |some (.set _ _)=>True
 |some (.ins _ _ _)=>True
 |some (.ext _)=>True
 |_=>False
section
variable {P:Program} {w:World} {H:Hp} {h h':Heap} {x e:Addr} {o':HO}
theorem nA.write (ok:nA P w H h) (mu:Mut (H x)) (he:e=x\/H e=some (.own x)) (k:∀ b u,b≠e->h.get? b=some u->h'.get? b=some u) (heo:∃ u,h'.get? e=some u)
  (new:wY P w (xM H x o') h' x o'):nA P w (xM H x o') h':=fun b u q=>by
 have nown:∀ c y,H c=some (.own y)->c≠x:=fun c y r z=>by subst z;rw[r] at mu;exact mu
 have ntup:∀ c xs,H c=some (.tup xs)->c≠x:=fun c xs r z=>by subst z;rw[r] at mu;exact mu
 by_cases hb:b=x
 .subst hb;rw[wC] at q;cases q;exact new
 .rw[yS hb] at q
  by_cases hbe:b=e
  .have q':H b=some (.own x):=by
    rcases he with z|z
    .exact absurd (hbe.trans z) hb
    .rw[hbe];exact z
   rw[q] at q';cases q';obtain ⟨v,hv⟩:=heo;exact ⟨v,by rw[hbe];exact hv⟩
  .refine (ok b u q).stay (fun c v hc r=>k c v ?_ r) (fun c r=>by rw[yS (nown c b r)];exact r) fun c xs r=>by rw[yS (ntup c xs r)];exact r
   rcases hc with rfl|hc
   .exact hbe
   .rintro rfl;rcases he with z|z
    .exact nown c b hc z
    .rw[hc] at z;cases z;exact hb rfl
end
structure Un (fs ex:List Addr) (H H':Hp) (h h':Heap):Prop where
 keep:∀ b o,h.get? b=some o->H b=none->b∉fs->b∉ex->h'.get? b=some o
 slot:∀ b o,h.get? b=some o->H b=none->b∈fs->b∉ex->∃ sl,h'.get? b=some { o with slots:=sl }
 free:∀ b o,h.get? b=some o->H b=none->b∉ex->H' b=none
 there:∀ b o,h.get? b=some o->b∉ex->∃ o',h'.get? b=some o'
 tups:∀ b xs,H b=some (.tup xs)->H' b=some (.tup xs)
 frzs:∀ b o u,H b=some (.frz o u)->H' b=some (.frz o u)
 tbls:∀ b ps,H b=some (.tbl ps)->∃ xF,H' b=some (.tbl (ps++xF))
section
variable {fs fs' ex ex':List Addr} {H H1 H2:Hp} {h h1 h2 h':Heap} {a x e:Addr} {o:HO}
theorem Un.any (u:Un fs ex H H1 h h1) {b:Addr} {ob:Obj} (q:h.get? b=some ob) (n:H b=none) (hx:b∉ex):∃ sl,h1.get? b=some { ob with slots:=sl }:=by
 by_cases hb:b∈fs
 .exact u.slot b ob q n hb hx
 .exact ⟨ob.slots,u.keep b ob q n hb hx⟩
theorem Un.kept (k:∀ b u,h.get? b=some u->h'.get? b=some u):Un fs ex H H h h' :=
 ⟨fun b ob q _ _ _=>k b ob q,fun b ob q _ _ _=>⟨ob.slots,k b ob q⟩,fun _ _ _ n _=>n,fun b ob q _=>⟨ob,k b ob q⟩,fun _ _ q=>q,fun _ _ _ q=>q,fun _ ps q=>⟨#[],by rw[q];simp⟩⟩
theorem Un.refl:Un fs ex H H h h:=Un.kept fun _ _ q=>q
theorem Un.laid (k:∀ b u,h.get? b=some u->h'.get? b=some u) (hp:h.objs.size<=a) (hn:H a=none):Un fs ex H (xM H a o) h h' where
 keep:=fun b u q _ _ _=>k b u q
 slot:=fun b u q _ _ _=>⟨u.slots,k b u q⟩
 free:=fun b u q n _=>by rw[yS (Zr (Zn (Zi q) hp))];exact n
 there:=fun b u q _=>⟨u,k b u q⟩
 tups:=fun b xs q=>by rw[yS (yE q hn)];exact q
 frzs:=fun b u xs q=>by rw[yS (yE q hn)];exact q
 tbls:=fun b ps q=>⟨#[],by rw[yS (yE q hn),q];simp⟩
theorem Un.write (mu:Mut (H x)) (he:e=x\/H e=some (.own x)) (k:∀ b u,b≠e->h.get? b=some u->h'.get? b=some u) (heo:∃ u,h'.get? e=some u):Un fs ex H (xM H x o) h h':=by
 have hx:∀ b,H b=none->b≠x:=fun b n z=>by subst z;rw[n] at mu;exact mu
 have hb:∀ b,H b=none->b≠e:=fun b n z=>by
  subst z;rcases he with r|r
  .exact hx b n r
  .rw[n] at r;cases r
 have hm:∀ b u,H b=some u->¬ Mut (some u)->b≠x:=fun b u q nm z=>by subst z;rw[q] at mu;exact nm mu
 refine ⟨fun b u q n _ _=>k b u (hb b n) q,fun b u q n _ _=>⟨u.slots,k b u (hb b n) q⟩,fun b u q n _=>by rw[yS (hx b n)];exact n,fun b u q _=>?_,
  fun b xs q=>by rw[yS (hm b _ q fun z=>z)];exact q,fun b u xs q=>by rw[yS (hm b _ q fun z=>z)];exact q,fun b ps q=>⟨#[],by rw[yS (hm b _ q fun z=>z),q];simp⟩⟩
 by_cases hbe:b=e
 .subst hbe;exact heo
 .exact ⟨u,k b u hbe q⟩
end
def trk (h:Heap) (H:Hp):List Addr:=(List.range h.objs.size).filter fun a=>(H a).isSome
def hidT (h:Heap) (H:Hp):Heap:=PySem.W.hideAll h (trk h H)
theorem zh1 (h:Heap) (H:Hp):(hidT h H).objs.size=h.objs.size:=PySem.W.hideAll_size _ _
theorem zj5 {h:Heap} {H:Hp} {b:Addr} {o:Obj} (e:h.get? b=some o) (n:H b=none):(hidT h H).get? b=some o :=
 PySem.W.hideAll_get _ e fun hm=>by
  have q:(H b).isSome=true:=(ZX.mp hm).2;rw[n] at q;simp at q
theorem zlX {h:Heap} {H:Hp} {b:Addr} {o:Obj} (e:(hidT h H).get? b=some o):h.get? b=some o/\H b=none:=by
 have e':h.get? b=some o:=PySem.W.of_hideAll (trk h H) e;refine ⟨e',?_⟩
 cases q:H b with
 |none=>rfl
 |some x =>
  have hm:b∈trk h H:=ZX.mpr ⟨Zao.mpr (Zi e'),by simp[q]⟩;have z:(hidT h H).get? b=none:=PySem.W.hideAll_none (trk h H) hm;rw[z] at e;cases e
def zmU (g h:Heap) (L:Addr):List (Addr×Obj):=(List.range h.objs.size).filterMap fun a=>if a=L\/(g.get? a).isSome=true then none else (h.get? a).map fun o=>(a,o)
def rest (g h:Heap) (L d:Addr):List (Addr×Obj):=(zmU g h L).filter fun p=>decide (p.1≠d)
end L2
namespace L2
open PySem PySem.Spec PyProof.Rows
structure Mod (K:PySem.W.Frag) (mg:Str->Option Value) (base:Heap):Prop where
 kin:K.In base
 glob:base.Ns mainGlobals mg
 blt:∃ mb,base.Ns builtinsNs mb/\∀ x:Str,x ≠ "__name__" -> mb x=bootBuiltins x
 nolimit:base.NoLimit
structure Cx where
 prog:Program
 w:World
 K:PySem.W.Frag
 mg:Str->Option Value
 base:Heap
 A:Around
 N:List Str
 s₀:Shared
 H₀:Hp
 env:Env
 outer:List Env
 stack:List Env
 ex:List Addr
 fn:Str->Bool
 calm:Bool
 pn:List (Addr×Obj)
 xe:Value->Shared->Prop
def frs (l:List Env):List Addr:=l.filterMap (·.frame)
abbrev Cx.fs (X:Cx):List Addr:=frs X.outer
def Vis (sc:Scope) (x:Str):Prop:=sc.names.lookup x=some .local\/sc.names.lookup x=some .cell\/sc.names.lookup x=some .free
def Loc (sc:Scope) (x:Str):Prop:=sc.names.lookup x=some .local\/sc.names.lookup x=some .cell
def Look (env:Env) (h:Heap) (m:Str->Option Value) (x:Str) (u:Value):Prop :=
 (env.kindOf x=some .local/\m x=some u)\/((env.kindOf x=some .cell\/env.kindOf x=some .free)/\∃ c,env.cells.lookup x=some c/\h.IsCell c (some u))
structure Cx.Ok (X:Cx):Prop where
 mod:Mod X.K X.mg X.base
 kind:X.env.scope.kind=.function
 glob:X.env.globals=mainGlobals
 blt:X.env.builtins=builtinsNs
 above:X.s₀.heap.objs.size<=X.env.locals
 inj:∀ x y c,X.env.cells.lookup x=some c->X.env.cells.lookup y=some c->x=y
 has:∀ x,(X.env.kindOf x=some .cell\/X.env.kindOf x=some .free)->∃ c,X.env.cells.lookup x=some c
 cab:∀ x c,X.fn x=true->X.env.cells.lookup x=some c->X.s₀.heap.objs.size<=c
 hd:X.calm=true->X.A.handled=none
 frames:X.A.frames=some X.stack
 stk:X.stack=X.outer\/(X.stack=X.env::X.outer/\X.env.frame=some X.env.locals)
 exf:∀ b∈X.ex,b≠X.env.locals/\∀ x c,X.env.cells.lookup x=some c->c≠b
 bs:∀ b o,X.base.get? b=some o->X.s₀.heap.get? b=some o/\X.H₀ b=none
 bsz:X.base.objs.size<=X.s₀.heap.objs.size
 noex:∀ b o,X.base.get? b=some o->b∉X.ex
 exfs:∀ b∈X.ex,b∉X.fs
 funs:X.s₀.heap.FunFrames X.base X.outer
 frf:∀ b∈X.fs,X.H₀ b=none
structure Inv (X:Cx) (pins:List (Addr×Obj)) (σ:List (Option V)) (H:Hp) (s:Shared):Prop where
 ok:X.Ok
 os:s.os=X.s₀.os
 bare:AllBare s.gens
 base:Un X.fs X.ex X.H₀ H X.s₀.heap s.heap
 loc:∃ m,s.heap.Ns X.env.locals m/\∀ (i:Nat) (x:Str) (v:V),X.N[i]?=some x->σ[i]?=some (some v)->Vis X.env.scope x->∃ u,yR v u/\Look X.env s.heap m x u
 cell:∀ x c,X.env.cells.lookup x=some c->∃ v,s.heap.IsCell c v
 free:H X.env.locals=none
 freeC:∀ x c,X.env.cells.lookup x=some c->H c=none
 pin:∀ p∈X.pn++pins,s.heap.get? p.1=some p.2/\H p.1=none/\p.1≠X.env.locals/\p.1∉X.fs/\∀ v,p.2.data≠.cell v
 hok:nA X.prog X.w H s.heap
 len:σ.length=X.N.length
 tk:0<s.toks
section
variable {X:Cx} {pins:List (Addr×Obj)} {σ:List (Option V)} {H H':Hp} {s:Shared} {h':Heap}
theorem Cx.Ok.nofr (ok:X.Ok) {b:Addr} {o:Obj} (e:X.base.get? b=some o):b∉X.fs:=fun hb=>by
 have:=(ok.funs.mem hb).1;rw[e] at this;cases this
theorem Inv.bs (I:Inv X pins σ H s):∀ b o,X.base.get? b=some o->s.heap.get? b=some o/\H b=none:=fun b o e =>
 ⟨I.base.keep b o (I.ok.bs b o e).1 (I.ok.bs b o e).2 (I.ok.nofr e) (I.ok.noex b o e),I.base.free b o (I.ok.bs b o e).1 (I.ok.bs b o e).2 (I.ok.noex b o e)⟩
theorem Inv.bk (I:Inv X pins σ H s):∀ b o,X.base.get? b=some o->s.heap.get? b=some o:=fun b o e=>(I.bs b o e).1
theorem Inv.mod (I:Inv X pins σ H s):Mod X.K X.mg X.base:=I.ok.mod
theorem Inv.kIn (I:Inv X pins σ H s):X.K.In s.heap:=I.ok.mod.kin.keeps I.bk
theorem Inv.lt (I:Inv X pins σ H s):X.env.locals<s.heap.objs.size:=let ⟨_,hn,_⟩:=I.loc;hn.lt
theorem Inv.sz (I:Inv X pins σ H s):X.s₀.heap.objs.size<=s.heap.objs.size:=Zb I.ok.above (ZaY I.lt)
theorem Inv.nofs (I:Inv X pins σ H s) {a:Addr} (h:s.heap.objs.size<=a):a∉X.fs:=fun hb=>by
 obtain ⟨_,o,ho,_⟩:=I.ok.funs.mem hb;exact absurd (Zn (Zi ho) (Zb I.sz h)) (Z9 _)
theorem Inv.cne (I:Inv X pins σ H s):∀ x c,X.env.cells.lookup x=some c->c≠X.env.locals:=fun x c e z=>by
 obtain ⟨v,o,ho,hd⟩:=I.cell x c e;obtain ⟨m,⟨o',es,ep,ho',hd',_⟩,_⟩:=I.loc;rw[z,ho'] at ho;cases ho;rw[hd'] at hd;cases hd
theorem Inv.funs (I:Inv X pins σ H s):s.heap.FunFrames X.base X.outer:=by
 have all:∀ (l:List Env),(∀ b∈frs l,b∈X.fs)->X.s₀.heap.FunFrames X.base l->s.heap.FunFrames X.base l:=by
  intro l
  induction l with
  |nil=>intro _ _;trivial
  |cons env r ih =>
   intro hs hl;obtain ⟨hk,⟨L,o,hf,hn,ho,hd⟩,hr⟩:=hl;have hL:L∈X.fs:=hs L (by unfold frs;rw[Zaz,hf];exact zzT);obtain ⟨sl,e⟩:=I.base.slot L o ho (I.ok.frf L hL) hL fun z=>I.ok.exfs L z hL;exact ⟨hk,⟨L,_,hf,hn,e,hd⟩,ih (fun b hb=>hs b (by unfold frs;rw[Zaz,hf];exact Zd _ hb)) hr⟩
 exact all X.outer (fun _ hb=>hb) I.ok.funs
theorem Inv.stack (I:Inv X pins σ H s):s.heap.FunFrames X.base X.stack:=by
 rcases I.ok.stk with e|⟨e,hf⟩
 .rw[e];exact I.funs
 .rw[e];obtain ⟨m,hn,_⟩:=I.loc;refine .cons (by rw[I.ok.kind];decide) hf hn ?_ I.funs;exact Heap.get?_none_of_le (Zb I.ok.bsz I.ok.above)
theorem Inv.stkSub (I:Inv X pins σ H s):∀ b∈frs X.stack,b∈X.env.locals::X.fs:=fun b hb=>by
 rcases I.ok.stk with e|⟨e,hf⟩
 .rw[e] at hb;exact Zd _ hb
 .rw[e] at hb;unfold frs at hb;rw[Zaz,hf] at hb;exact hb
theorem Inv.stkFree (I:Inv X pins σ H s):∀ b∈frs X.stack,H b=none:=fun b hb=>by
 rcases Zk.mp (I.stkSub b hb) with e|hb
 .rw[e];exact I.free
 .obtain ⟨_,o,ho,_⟩:=I.ok.funs.mem hb;exact I.base.free b o ho (I.ok.frf b hb) fun z=>I.ok.exfs b z hb
theorem Inv.step {g':Array GenState} {t':Nat} {d':Drawn} {ch:List Addr} (I:Inv X pins σ H s)
  (hch:∀ b∈ch,(b∈X.ex\/X.s₀.heap.objs.size<=b)/\b≠X.env.locals/\(∀ x c,X.env.cells.lookup x=some c->c≠b)/\∀ p∈X.pn++pins,p.1≠b)
  (keep:∀ b o,b≠X.env.locals->b∉X.fs->b∉ch->s.heap.get? b=some o->H b=none->h'.get? b=some o)
  (slot:∀ b o,b≠X.env.locals->b∈X.fs->b∉ch->s.heap.get? b=some o->H b=none->∃ sl,h'.get? b=some { o with slots:=sl }) (free:∀ b o,b∉ch->s.heap.get? b=some o->H b=none->H' b=none)
  (there:∀ b o,b∉ch->s.heap.get? b=some o->∃ o',h'.get? b=some o')
  (tups:∀ b xs,H b=some (.tup xs)->H' b=some (.tup xs)) (frzs:∀ b o u,H b=some (.frz o u)->H' b=some (.frz o u)) (tbls:∀ b ps,H b=some (.tbl ps)->∃ xF,H' b=some (.tbl (ps++xF)))
  (ns:∀ m,s.heap.Ns X.env.locals m->h'.Ns X.env.locals m) (hok:nA X.prog X.w H' h') (hg:AllBare g') (ht:0<t':=by first|exact ZP _|exact L2.Inv.tk (by assumption)|exact L2.Inv.tk ‹L2.Inv _ _ _ _ _› | assumption|omega) :
  Inv X pins σ H' { s with heap:=h',gens:=g',drawn:=d',toks:=t' }:=by
 have neL:∀ b o,X.s₀.heap.get? b=some o->b≠X.env.locals:=fun b o e=>Zr (Zn (Zi e) I.ok.above)
 have neC:∀ b o,X.s₀.heap.get? b=some o->b∉X.ex->b∉ch:=fun b o e hx hb=>by
  rcases (hch b hb).1 with z|z
  .exact hx z
  .exact absurd (Zn (Zi e) z) (Z9 _)
 have cellK:∀ x c,X.env.cells.lookup x=some c->∀ v,s.heap.IsCell c v->h'.IsCell c v:=fun x c e v ⟨o,ho,hd⟩=>by
  have nch:c∉ch:=fun z=>(hch c z).2.2.1 x c e rfl
  by_cases hc:c∈X.fs
  .obtain ⟨sl,q⟩:=slot c o (I.cne x c e) hc nch ho (I.freeC x c e);exact ⟨_,q,hd⟩
  .exact ⟨o,keep c o (I.cne x c e) hc nch ho (I.freeC x c e),hd⟩
 refine ⟨I.ok,I.os,hg,⟨fun b o e n hb hx=>?_,fun b o e n hb hx=>?_,fun b o e n hx=>?_,fun b o e hx=>?_,fun b xs e=>tups b xs (I.base.tups b xs e),fun b o xs e=>frzs b o xs (I.base.frzs b o xs e),fun b ps e=>?_⟩,?_,fun x c e=>?_,?_,fun x c e=>?_,fun p hp=>?_,hok,I.len,ht⟩
 .exact keep b o (neL b o e) hb (neC b o e hx) (I.base.keep b o e n hb hx) (I.base.free b o e n hx)
 .obtain ⟨sl,e1⟩:=I.base.slot b o e n hb hx;obtain ⟨sl',e2⟩:=slot b _ (neL b o e) hb (neC b o e hx) e1 (I.base.free b o e n hx);exact ⟨sl',e2⟩
 .obtain ⟨o',e1⟩:=I.base.there b o e hx;exact free b o' (neC b o e hx) e1 (I.base.free b o e n hx)
 .obtain ⟨o',e1⟩:=I.base.there b o e hx;exact there b o' (neC b o e hx) e1
 .obtain ⟨m1,e1⟩:=I.base.tbls b ps e;obtain ⟨m2,e2⟩:=tbls b _ e1;exact ⟨m1++m2,by rw[e2,Array.append_assoc]⟩
 .obtain ⟨m,hn,hl⟩:=I.loc;refine ⟨m,ns m hn,fun i x v e1 e2 e3=>?_⟩;obtain ⟨u,r,l⟩:=hl i x v e1 e2 e3;refine ⟨u,r,?_⟩;rcases l with l|⟨k,c,e,z⟩
  .exact .inl l
  .exact .inr ⟨k,c,e,cellK x c e _ z⟩
 .obtain ⟨v,z⟩:=I.cell x c e;exact ⟨v,cellK x c e v z⟩
 .obtain ⟨m,⟨o,_,_,ho,_⟩,_⟩:=I.loc;exact free _ o (fun z=>(hch _ z).2.1 rfl) ho I.free
 .obtain ⟨v,o,ho,hd⟩:=I.cell x c e;exact free c o (fun z=>(hch c z).2.2.1 x c e rfl) ho (I.freeC x c e)
 .obtain ⟨e,n,ne,nf,d⟩:=I.pin p hp;have nch:p.1∉ch:=fun z=>(hch p.1 z).2.2.2 p hp rfl;exact ⟨keep p.1 p.2 ne nf nch e n,free p.1 p.2 nch e n,ne,nf,d⟩
theorem Inv.un {t':Nat} (I:Inv X pins σ H s) (u:Un X.fs [] H H' s.heap h') (hok:nA X.prog X.w H' h') (ht:0<t':=by first|exact ZP _|exact L2.Inv.tk (by assumption)|exact L2.Inv.tk ‹L2.Inv _ _ _ _ _› | assumption|omega):Inv X pins σ H' { s with heap:=h',toks:=t' }:=by
 obtain ⟨m,⟨o,es,ep,ho,r⟩,_⟩:=id I.loc;obtain ⟨sl,hL⟩:=u.any ho I.free 'g'
 exact I.step (g':=s.gens) (d':=s.drawn) (ch:=[]) (fun _ z=>nomatch z) (fun b o _ hb _ e n=>u.keep b o e n hb 'g') (fun b o _ hb _ e n=>u.slot b o e n hb 'g') (fun b o _ e n=>u.free b o e n 'g') (fun b o _ e=>u.there b o e 'g') u.tups u.frzs u.tbls (fun m' hm=>by
  obtain ⟨o',es',ep',ho',r'⟩:=hm;rw[ho] at ho';cases ho';exact ⟨_,es',ep',hL,r'⟩) hok I.bare
theorem Inv.call {g':Array GenState} {t':Nat} {d':Drawn} {ch:List Addr} (I:Inv X pins σ H s) (u:Un (frs X.stack) ch H H' s.heap h') (hok:nA X.prog X.w H' h') (hg:AllBare g')
  (hch:∀ b∈ch,(b∈X.ex\/X.s₀.heap.objs.size<=b)/\b≠X.env.locals/\(∀ x c,X.env.cells.lookup x=some c->c≠b)/\∀ p∈X.pn++pins,p.1≠b) (ht:0<t':=by first|exact ZP _|exact L2.Inv.tk (by assumption)|exact L2.Inv.tk ‹L2.Inv _ _ _ _ _› | assumption|omega) :
  Inv X pins σ H' { s with heap:=h',gens:=g',drawn:=d',toks:=t' }:=by
 obtain ⟨m,⟨o,es,ep,ho,r⟩,_⟩:=id I.loc;obtain ⟨sl,hL⟩:=u.any ho I.free fun z=>(hch _ z).2.1 rfl
 exact I.step (ch:=ch) hch (fun b o hL hb hc e n=>u.keep b o e n (fun z=>(Zk.mp (I.stkSub b z)).elim hL hb) hc) (fun b o _ _ hc e n=>u.any e n hc) (fun b o hc e n=>u.free b o e n hc) (fun b o hc e=>u.there b o e hc) u.tups u.frzs u.tbls (fun m' hm=>by
  obtain ⟨o',es',ep',ho',r'⟩:=hm;rw[ho] at ho';cases ho';exact ⟨_,es',ep',hL,r'⟩) hok hg
theorem Inv.turned {t':Nat} {it:Addr} (I:Inv X pins σ H s) (k:∀ b o,b≠it->s.heap.get? b=some o->h'.get? b=some o) (hn:H it=none) (hL:it≠X.env.locals)
  (h1:it∈X.ex\/X.s₀.heap.objs.size<=it) (h2:∀ x c,X.env.cells.lookup x=some c->c≠it) (h3:∀ p∈X.pn++pins,p.1≠it) (ht:0<t':=by first|exact ZP _|exact L2.Inv.tk (by assumption)|exact L2.Inv.tk ‹L2.Inv _ _ _ _ _› | assumption|omega):Inv X pins σ H { s with heap:=h',toks:=t' }:=by
 have nit:∀ b u,H b=some u->b≠it:=fun b u e z=>by rw[z,hn] at e;cases e
 refine I.step (g':=s.gens) (d':=s.drawn) (ch:=[it]) (fun b hb=>?_) (fun b o _ _ hc e _=>k b o (fun z=>hc (by simp[z])) e) (fun b o _ _ hc e _=>⟨o.slots,k b o (fun z=>hc (by simp[z])) e⟩) (fun _ _ _ _ n=>n)
  (fun b o hc e=>⟨o,k b o (fun z=>hc (by simp[z])) e⟩) (fun _ _ e=>e) (fun _ _ _ e=>e) (fun b ps e=>⟨#[],by rw[e];simp⟩) (fun m hm=>?_) (fun b u e=>?_) I.bare
 .have e:b=it:=by simpa using hb
  subst e;exact ⟨h1,hL,h2,h3⟩
 .obtain ⟨o,es,ep,ho,r⟩:=hm;exact ⟨o,es,ep,k _ o (Ne.symm hL) ho,r⟩
 .refine (I.hok b u e).stay (fun c v hc q=>k c v ?_ q) (fun _ q=>q) fun _ _ q=>q;rcases hc with z|z
  .rw[z];exact nit b u e
  .exact nit c _ z
theorem Inv.tok (I:Inv X pins σ H s) (t:Nat) (ht:0<t:=by first|exact ZP _|exact L2.Inv.tk (by assumption)|exact L2.Inv.tk ‹L2.Inv _ _ _ _ _› | assumption|omega):Inv X pins σ H { s with toks:=t }:=I.un (h':=s.heap) (t':=t) Un.refl I.hok
theorem Inv.kept {t':Nat} (I:Inv X pins σ H s) (k:∀ b u,s.heap.get? b=some u->h'.get? b=some u) (ht:0<t':=by first|exact ZP _|exact L2.Inv.tk (by assumption)|exact L2.Inv.tk ‹L2.Inv _ _ _ _ _› | assumption|omega):Inv X pins σ H { s with heap:=h',toks:=t' }:=I.un (Un.kept k) (I.hok.kept k)
theorem Inv.laid {a:Addr} {o:HO} {t':Nat} (I:Inv X pins σ H s) (k:∀ b u,s.heap.get? b=some u->h'.get? b=some u) (hp:s.heap.objs.size<=a) (new:wY X.prog X.w (xM H a o) h' a o) (ht:0<t':=by first|exact ZP _|exact L2.Inv.tk (by assumption)|exact L2.Inv.tk ‹L2.Inv _ _ _ _ _› | assumption|omega) :
  Inv X pins σ (xM H a o) { s with heap:=h',toks:=t' }:=I.un (Un.laid k hp (I.hok.fresh hp)) (I.hok.laid k hp new)
theorem Inv.write {x e:Addr} {o:HO} {t':Nat} (I:Inv X pins σ H s) (mu:Mut (H x)) (he:e=x\/H e=some (.own x)) (k:∀ b u,b≠e->s.heap.get? b=some u->h'.get? b=some u) (heo:∃ u,h'.get? e=some u)
  (new:wY X.prog X.w (xM H x o) h' x o) (ht:0<t':=by first|exact ZP _|exact L2.Inv.tk (by assumption)|exact L2.Inv.tk ‹L2.Inv _ _ _ _ _› | assumption|omega):Inv X pins σ (xM H x o) { s with heap:=h',toks:=t' }:=I.un (Un.write mu he k heo) (I.hok.write mu he k heo new)
theorem Inv.pins_of {pins':List (Addr×Obj)} (I:Inv X pins σ H s) (h:∀ p∈pins',s.heap.get? p.1=some p.2/\H p.1=none/\p.1≠X.env.locals/\p.1∉X.fs/\∀ v,p.2.data≠.cell v):Inv X pins' σ H s :=
 ⟨I.ok,I.os,I.bare,I.base,I.loc,I.cell,I.free,I.freeC,fun p hp=>(Zm.mp hp).elim (fun z=>I.pin p (Zaq _ z)) (h p),I.hok,I.len,I.tk⟩
theorem ze0 {N:List Str} (hN:N.Nodup) {i j:Nat} {x:Str} (a:N[i]?=some x) (b:N[j]?=some x):i=j:=by
 obtain ⟨h1,e1⟩:=Zl.mp a;obtain ⟨h2,e2⟩:=Zl.mp b;exact (List.getElem_inj hN).mp (e1.trans e2.symm)
theorem zcf {M:Model} {A:Around} {E:Value->Shared->Prop} {i:Nat} {x:Str} {v:V} {u:Value} {Q:Unit->Shared->Prop} (I:Inv X pins σ H s) (hN:X.N.Nodup) (hi:X.N[i]?=some x) (hx:Loc X.env.scope x) (r:yR v u)
  (h:∀ s',Inv X pins (σ.set i (some v)) H s'->(∃ a,Heap.SameBut a s.heap s'.heap/\(a=X.env.locals\/X.env.cells.lookup x=some a))->Q () s') (hf:X.fn x=true\/X.env.scope.names.lookup x=some .local:=by first|exact .inl rfl|exact .inr rfl|assumption):wpAny M A (storeName X.env x u) Q E s:=by
 obtain ⟨m,hn,hl⟩:=id I.loc;have hcls:(X.env.scope.kind==.class || (X.env.scope.kind==.module&&X.env.locals != X.env.globals))=false:=by rw[I.ok.kind];rfl
 have hiσ:i<σ.length:=by rw[I.len];exact (Zl.mp hi).1
 have cne:=I.cne
 have tracked:∀ {a:Addr} {h':Heap},(∃ o,s.heap.get? a=some o/\H a=none)->Heap.SameBut a s.heap h'->nA X.prog X.w H h':=fun {a h'} ha hs b ob e=>by
  obtain ⟨_,_,hfree⟩:=ha;refine (I.hok b ob e).stay (fun c w' hc q=>(hs.2 c ?_).trans q) (fun _ q=>q) fun _ _ q=>q;rintro rfl;rcases hc with rfl|hc
  .rw[hfree] at e;cases e
  .rw[hfree] at hc;cases hc
 rcases hx with hk|hk
 .refine wpAny_storeName_local hk hn (fun h' hn' hs=>?_) hcls;obtain ⟨oL,_,_,hoL,_⟩:=id hn;refine h _ ⟨I.ok,I.os,I.bare,⟨fun b o e n hb hx=>?_,fun b o e n hb hx=>?_,I.base.free,fun b o e hx=>?_,I.base.tups,I.base.frzs,I.base.tbls⟩,⟨_,hn',fun j y v' e1 e2 e3=>?_⟩,fun y c e=>?_,I.free,I.freeC,fun p hp=>?_,tracked ⟨oL,hoL,I.free⟩ hs,by simpa using I.len,ZP _⟩ ⟨_,hs,.inl rfl⟩
  .exact (hs.2 b (Zr (Zn (Zi e) I.ok.above))).trans (I.base.keep b o e n hb hx)
  .obtain ⟨sl,e1⟩:=I.base.slot b o e n hb hx;exact ⟨sl,(hs.2 b (Zr (Zn (Zi e) I.ok.above))).trans e1⟩
  .obtain ⟨o',e1⟩:=I.base.there b o e hx;exact ⟨o',(hs.2 b (Zr (Zn (Zi e) I.ok.above))).trans e1⟩
  .by_cases hj:j=i
   .subst hj;rw[hi] at e1;cases e1;rw[List.getElem?_set_self hiσ] at e2;cases e2;exact ⟨u,r,.inl ⟨hk,by simp⟩⟩
   .rw[Zbn (Ne.symm hj)] at e2;obtain ⟨u',r',q⟩:=hl j y v' e1 e2 e3;refine ⟨u',r',?_⟩;rcases q with ⟨k,e⟩|⟨k,c,e,z⟩
    .refine .inl ⟨k,?_⟩;have:y≠x:=fun e=>hj (ze0 hN e1 (e▸hi));simp[this,e]
    .exact .inr ⟨k,c,e,z.sameBut hs (cne y c e)⟩
  .obtain ⟨w',z⟩:=I.cell y c e;exact ⟨w',z.sameBut hs (cne y c e)⟩
  .obtain ⟨e,n,ne,nf,d⟩:=I.pin p hp;exact ⟨(hs.2 p.1 ne).trans e,n,ne,nf,d⟩
 .have hfn:X.fn x=true:=by
   rcases hf with z|z
   .exact z
   .rw[z] at hk;cases hk
  obtain ⟨c,hc⟩:=I.ok.has x (.inl hk);obtain ⟨w',z⟩:=I.cell x c hc;refine wpAny_storeName_cell I.ok.kind hk hc z (fun h' hc' hs=>?_);obtain ⟨oc,hoc,hocd⟩:=id z;refine h { s with heap:=h' } ⟨I.ok,I.os,I.bare,⟨fun b o e n hb hx=>?_,fun b o e n hb hx=>?_,I.base.free,fun b o e hx=>?_,I.base.tups,I.base.frzs,I.base.tbls⟩,⟨m,hn.sameBut hs (Ne.symm (cne x c hc)),fun j y v' e1 e2 e3=>?_⟩,fun y c' e=>?_,I.free,I.freeC,fun p hp=>?_,tracked ⟨oc,hoc,I.freeC x c hc⟩ hs,by simpa using I.len,I.tk⟩ ⟨c,hs,.inr hc⟩
  .exact (hs.2 b (Zr (Zn (Zi e) (I.ok.cab x c hfn hc)))).trans (I.base.keep b o e n hb hx)
  .obtain ⟨sl,e1⟩:=I.base.slot b o e n hb hx;exact ⟨sl,(hs.2 b (Zr (Zn (Zi e) (I.ok.cab x c hfn hc)))).trans e1⟩
  .obtain ⟨o',e1⟩:=I.base.there b o e hx;exact ⟨o',(hs.2 b (Zr (Zn (Zi e) (I.ok.cab x c hfn hc)))).trans e1⟩
  .by_cases hj:j=i
   .subst hj;rw[hi] at e1;cases e1;rw[List.getElem?_set_self hiσ] at e2;cases e2;exact ⟨u,r,.inr ⟨.inl hk,c,hc,hc'⟩⟩
   .rw[Zbn (Ne.symm hj)] at e2;obtain ⟨u',r',q⟩:=hl j y v' e1 e2 e3;refine ⟨u',r',?_⟩;rcases q with q|⟨k,c',e,z'⟩
    .exact .inl q
    .refine .inr ⟨k,c',e,z'.sameBut hs ?_⟩;rintro rfl;exact hj (ze0 hN e1 (I.ok.inj _ _ _ e hc▸hi))
  .by_cases hcc:c'=c
   .subst hcc;exact ⟨_,hc'⟩
   .obtain ⟨w2,z2⟩:=I.cell y c' e;exact ⟨w2,z2.sameBut hs hcc⟩
  .obtain ⟨e,n,ne,nf,d⟩:=I.pin p hp;refine ⟨(hs.2 p.1 ?_).trans e,n,ne,nf,d⟩;intro q;rw[q,hoc] at e;have q':oc=p.2:=Zw e;exact d w' (by rw[← q'];exact hocd)
theorem zeI {M:Model} {A:Around} {E:Value->Shared->Prop} {i:Nat} {x:Str} {v:V} {u:Value} {Q:Unit->Shared->Prop} (I:Inv X pins σ H s) (hN:X.N.Nodup) (hi:X.N[i]?=some x) (hx:Loc X.env.scope x) (r:yR v u)
  (h:∀ s',Inv X pins (σ.set i (some v)) H s'->Q () s') (hf:X.fn x=true\/X.env.scope.names.lookup x=some .local:=by first|exact .inl rfl|exact .inr rfl|assumption):wpAny M A (storeName X.env x u) Q E s :=
 zcf I hN hi hx r (fun s' I' _=>h s' I') hf
theorem Inv.call' {s':Shared} {ch:List Addr} (I:Inv X pins σ H s) (ho:s'.os=s.os) (u:Un (frs X.stack) ch H H' s.heap s'.heap) (hok:nA X.prog X.w H' s'.heap) (hg:AllBare s'.gens)
  (hch:∀ b∈ch,(b∈X.ex\/X.s₀.heap.objs.size<=b)/\b≠X.env.locals/\(∀ x c,X.env.cells.lookup x=some c->c≠b)/\∀ p∈X.pn++pins,p.1≠b) (ht:0<s'.toks):Inv X pins σ H' s':=by
 obtain ⟨h',g',d',t',o'⟩:=s';have e:o'=s.os:=ho;subst e;exact I.call (g':=g') (t':=t') (d':=d') u hok hg hch
end
abbrev XK:=Value->Option Addr->Hp->Prop
abbrev St:=List (Option V)
abbrev VK:=V->Hp->Prop
abbrev TE:=St->Hp->VK->Prop
abbrev TT:=St->Hp->(Bool->Hp->Prop)->Prop
abbrev TA:=St->Hp->(List V->Hp->Prop)->Prop
structure Ends where
 nx:St->Hp->Prop
 rt:VK
 bk:St->Hp->Prop:=fun _ _=>False
 ct:St->Hp->Prop:=fun _ _=>False
abbrev TS:=Ends->St->Hp->Prop
def EP (X:Cx) (pins:List (Addr×Obj)) (σ:St) (Q:VK) (u:Value) (s':Shared):Prop:=∃ v H',Inv X pins σ H' s'/\yR v u/\Q v H'
def TP (X:Cx) (pins:List (Addr×Obj)) (σ:St) (Q:Bool->Hp->Prop) (b:Bool) (s':Shared):Prop:=∃ H',Inv X pins σ H' s'/\Q b H'
def AP (X:Cx) (pins:List (Addr×Obj)) (σ:St) (Q:List V->Hp->Prop) (us:List Value) (s':Shared):Prop:=∃ vs H',Inv X pins σ H' s'/\yV vs us/\Q vs H'
def SP (X:Cx) (pins:List (Addr×Obj)) (D:Ends) (f:Flow) (s':Shared):Prop :=
 match f with
 | .next=>∃ σ' H',Inv X pins σ' H' s'/\D.nx σ' H'
 | .brk=>∃ σ' H',Inv X pins σ' H' s'/\D.bk σ' H'
 | .cont=>∃ σ' H',Inv X pins σ' H' s'/\D.ct σ' H'
 | .ret u=>∃ v σ' H',Inv X pins σ' H' s'/\yR v u/\D.rt v H'
def PE (X:Cx) (e:Expr) (t:TE):Prop :=
 ∀ (pins:List (Addr×Obj)) (s:Shared) (σ:St) (H:Hp) (Q:VK),Inv X pins σ H s->t σ H Q->wpAny 'f' X.A (eval e X.env) (EP X pins σ Q) X.xe s
def PT (X:Cx) (e:Expr) (t:TT):Prop :=
 ∀ (pins:List (Addr×Obj)) (s:Shared) (σ:St) (H:Hp) (Q:Bool->Hp->Prop),Inv X pins σ H s->t σ H Q->wpAny 'f' X.A (isTrue e X.env (eval e X.env)) (TP X pins σ Q) X.xe s
def PW (X:Cx) (e:Expr) (t:TT):Prop :=
 ∀ (whole:Sem Value) (pins:List (Addr×Obj)) (s:Shared) (σ:St) (H:Hp) (Q:Bool->Hp->Prop),Inv X pins σ H s->t σ H Q->wpAny 'f' X.A (isTrue e X.env whole) (TP X pins σ Q) X.xe s
theorem PW.pt {X:Cx} {e:Expr} {t:TT} (h:PW X e t):PT X e t:=h _
def PA (X:Cx) (es:List Expr) (t:TA):Prop :=
 ∀ (pos:Pos) (pins:List (Addr×Obj)) (s:Shared) (σ:St) (H:Hp) (Q:List V->Hp->Prop),Inv X pins σ H s->t σ H Q->wpAny 'f' X.A (spliced (backTo pos (starEach es X.env))) (AP X pins σ Q) X.xe s
def PS (X:Cx) (st:Stmt) (t:TS):Prop :=
 ∀ (pins:List (Addr×Obj)) (s:Shared) (σ:St) (H:Hp) (D:Ends),Inv X pins σ H s->t D σ H->wpAny 'f' X.A (exec st X.env) (SP X pins D) X.xe s
def PSs (X:Cx) (st:List Stmt) (t:TS):Prop :=
 ∀ (pins:List (Addr×Obj)) (s:Shared) (σ:St) (H:Hp) (D:Ends),Inv X pins σ H s->t D σ H->wpAny 'f' X.A (execs st X.env) (SP X pins D) X.xe s
theorem wQ {α:Type} {t:Sem α} {Q Q':α->Shared->Prop} {M:Model} {A:Around} {E:Value->Shared->Prop} {s:Shared} (h:wpAny M A t Q E s) (hQ:∀ a s,Q a s->Q' a s):wpAny M A t Q' E s:=Zal h hQ fun _ _ x=>x
end L2
namespace L2
open PySem PySem.Spec PyProof.Rows
section
variable {X:Cx}
theorem bin {a b:Expr} {ta tb:TE} (ha:PE X a ta) (hb:PE X b tb) {pins:List (Addr×Obj)} {s:Shared} {σ:St} {H:Hp} {R:V->V->Hp->Prop} (I:Inv X pins σ H s) (h:ta σ H fun x H1=>tb σ H1 fun y H2=>R x y H2)
  {α:Type} {Q:α->Shared->Prop} {f:Value->Value->Sem α}
  (hf:∀ v u s2 x y H2,Inv X pins σ H2 s2->yR x v->yR y u->R x y H2->wpAny 'f' X.A (f v u) Q X.xe s2) :
  wpAny 'f' X.A (eval a X.env) (fun v s₁=>wpAny 'f' X.A (eval b X.env) (fun u s₂=>wpAny 'f' X.A (f v u) Q X.xe s₂) X.xe s₁) X.xe s:=by
 refine wQ (ha pins s σ H _ I h) fun v s1 ⟨x,H1,I1,r1,q1⟩=>?_;refine wQ (hb pins s1 σ H1 _ I1 q1) fun u s2 ⟨y,H2,I2,r2,q2⟩=>?_;exact hf v u s2 x y H2 I2 r1 r2 q2
def tVar (i:Nat):TE:=fun σ H Q=>∃ v,σ[i]?=some (some v)/\Q v H
def tC (v:V):TE:=fun _ H Q=>Q v H
theorem znI {i:Nat} {x:Str} {pos:Pos} (hN:X.N[i]?=some x) (hv:Vis X.env.scope x) (hd:(x==("__debug__" : Str))=false:=by decide) (hcd:(x==("__classdict__" : Str))=false:=by decide):PE X (.Name x pos) (tVar i):=by
 intro pins s σ H Q I h;obtain ⟨v,e,h⟩:=h;obtain ⟨m,hn,hl⟩:=I.loc;obtain ⟨u,r,l⟩:=hl i x v hN e hv;have fin:EP X pins σ Q u s:=⟨v,H,I,r,h⟩;rcases l with ⟨hk,hm⟩|⟨hk,c,hc,hcell⟩
 .exact wpAny_Name (wpAny_loadName_local I.ok.kind hk hn hm fin) hd
 .rcases hk with hk|hk
  .exact wpAny_Name (wpAny_loadName_cell I.ok.kind hk hc hcell fin) hd
  .exact wpAny_Name (wpAny_loadName_free I.ok.kind hk hc hcell fin hcd) hd
theorem zkL {i j pos}:PE X (.Constant (.int i) j pos) (tC (.int i)):=fun _ _ _ H _ I h=>wpAny_Constant_int ⟨.int i,H,I.tok _,⟨_,rfl⟩,h⟩
theorem pe_bl {b j pos}:PE X (.Constant (.bool b) j pos) (tC (.bl b)):=fun _ _ _ H _ I h=>Constant_bool ⟨.bl b,H,I,rfl,h⟩
theorem znN {j pos}:PE X (.Constant .none j pos) (tC .non):=fun _ _ _ H _ I h=>Constant_none ⟨.non,H,I,rfl,h⟩
theorem zkJ {x j pos}:PE X (.Constant (.str x) j pos) (tC (.str x)):=fun _ _ _ H _ I h=>Calls.Constant_str ⟨.str x,H,I.tok _,⟨_,rfl⟩,h⟩
def Gl (X:Cx) (x:Str):Prop:=X.env.kindOf x=some .globalImplicit
theorem fK {E:Value->Shared->Prop} {pins:List (Addr×Obj)} {s:Shared} {σ:St} {H:Hp} {x:Str} {u:Value} {pos:Pos} {Q:Value->Shared->Prop} (I:Inv X pins σ H s) (hg:Gl X x) (hm:X.mg x=some u) (h:Q u s)
  (hd:(x==("__debug__" : Str))=false:=by decide):wpAny 'f' X.A (eval (.Name x pos) X.env) Q E s :=
 Calls.Name_function_global I.ok.kind hg (Calls.loadGlobal_global (by rw[I.ok.glob];exact I.mod.glob.keeps I.bk) hm h) hd
theorem cL {E:Value->Shared->Prop} {pins:List (Addr×Obj)} {s:Shared} {σ:St} {H:Hp} {x:Str} {u:Value} {pos:Pos} {Q:Value->Shared->Prop} (I:Inv X pins σ H s) (hg:Gl X x) (hm:X.mg x=none) (hv:bootBuiltins x=some u) (h:Q u s)
  (hn:x ≠ "__name__" := by decide) (hd:(x==("__debug__" : Str))=false:=by decide):wpAny 'f' X.A (eval (.Name x pos) X.env) Q E s:=by
 obtain ⟨mb,h1,h2⟩:=I.mod.blt;exact Calls.Name_function_global I.ok.kind hg (Calls.loadGlobal_builtin (by rw[I.ok.glob];exact I.mod.glob.keeps I.bk) hm (by rw[I.ok.blt];exact h1.keeps I.bk) ((h2 x hn).trans hv) h) hd
theorem zlN {x:Str} {v:V} {u:Value} {pos:Pos} (hg:Gl X x) (hm:X.mg x=some u) (r:yR v u) (hd:(x==("__debug__" : Str))=false:=by decide):PE X (.Name x pos) (tC v) :=
 fun _ _ _ H _ I h=>fK I hg hm ⟨v,H,I,r,h⟩ hd
theorem zlR {x:Str} {v:V} {u:Value} {pos:Pos} (hg:Gl X x) (hm:X.mg x=none) (hv:bootBuiltins x=some u) (r:yR v u) (hn:x ≠ "__name__" := by decide) (hd:(x==("__debug__" : Str))=false:=by decide):PE X (.Name x pos) (tC v) :=
 fun _ _ _ H _ I h=>cL I hg hm hv ⟨v,H,I,r,h⟩ hn hd
variable {a b:Expr} {ta tb:TE} {pos:Pos}
variable {tA tB':TT} {rest:List Expr}
def tAnd (t u:TT):TT:=fun σ H Q=>t σ H fun c H1=>if c=true then u σ H1 Q else Q false H1
def tOr (t u:TT):TT:=fun σ H Q=>t σ H fun c H1=>if c=true then Q true H1 else u σ H1 Q
def tNot (t:TT):TT:=fun σ H Q=>t σ H fun c H1=>Q (!c) H1
theorem zlz (ha:PT X a tA):PW X (.BoolOp .And [a] pos) tA:=by
 intro wh pins s σ H Q I h;refine isTrue_and (wQ (ha pins s σ H Q I h) fun c s1 e=>?_)
 cases c with
 |true=>exact isTrue_and_nil e
 |false=>exact e
theorem zny (ha:PT X a tA):PW X (.BoolOp .Or [a] pos) tA:=by
 intro wh pins s σ H Q I h;refine isTrue_or (wQ (ha pins s σ H Q I h) fun c s1 e=>?_)
 cases c with
 |false=>exact isTrue_or_nil e
 |true=>exact e
theorem zkE (ha:PT X a tA) (hb:PW X (.BoolOp .And (b::rest) pos) tB'):PW X (.BoolOp .And (a::b::rest) pos) (tAnd tA tB'):=by
 intro wh pins s σ H Q I h;refine isTrue_and (wQ (ha pins s σ H _ I h) fun c s1 ⟨H1,I1,q1⟩=>?_)
 cases c with
 |true=>exact hb wh pins s1 σ H1 Q I1 q1
 |false=>exact ⟨H1,I1,q1⟩
theorem znz (ha:PT X a tA) (hb:PW X (.BoolOp .Or (b::rest) pos) tB'):PW X (.BoolOp .Or (a::b::rest) pos) (tOr tA tB'):=by
 intro wh pins s σ H Q I h;refine isTrue_or (wQ (ha pins s σ H _ I h) fun c s1 ⟨H1,I1,q1⟩=>?_)
 cases c with
 |true=>exact ⟨H1,I1,q1⟩
 |false=>exact hb wh pins s1 σ H1 Q I1 q1
theorem znB (ha:PT X a tA):PT X (.UnaryOp .Not a pos) (tNot tA):=by
 intro pins s σ H Q I h;exact isTrue_not (ha pins s σ H (fun c H1=>Q (!c) H1) I h)
def zne (ta tb:TE):TE:=fun σ H Q=>ta σ H fun x H1=>∃ c,x=.bl c/\if c=true then tb σ H1 Q else Q (.bl false) H1
def tOrV (ta tb:TE):TE:=fun σ H Q=>ta σ H fun x H1=>∃ c,x=.bl c/\if c=true then Q (.bl true) H1 else tb σ H1 Q
def tNotV (ta:TE):TE:=fun σ H Q=>ta σ H fun x H1=>∃ c,x=.bl c/\Q (.bl (!c)) H1
theorem zkK {op} {t:TE} (h:PE X a t):PE X (.BoolOp op [a] pos) t:=fun pins s σ H Q I hw=>BoolOp_one (h pins s σ H Q I hw)
theorem zkM (ha:PE X a ta) (hb:PE X (.BoolOp .And (b::rest) pos) tb):PE X (.BoolOp .And (a::b::rest) pos) (zne ta tb):=by
 intro pins s σ H Q I h;refine BoolOp_and (wQ (ha pins s σ H _ I h) fun v s1 ⟨x,H1,I1,r1,q1⟩=>?_);obtain ⟨c,rfl,q1⟩:=q1;cases r1;refine Z6 ?_
 cases c with
 |true=>exact hb pins s1 σ H1 Q I1 q1
 |false=>exact ⟨.bl false,H1,I1,rfl,q1⟩
theorem znL (ha:PE X a ta) (hb:PE X (.BoolOp .Or (b::rest) pos) tb):PE X (.BoolOp .Or (a::b::rest) pos) (tOrV ta tb):=by
 intro pins s σ H Q I h;refine BoolOp_or (wQ (ha pins s σ H _ I h) fun v s1 ⟨x,H1,I1,r1,q1⟩=>?_);obtain ⟨c,rfl,q1⟩:=q1;cases r1;refine Z6 ?_
 cases c with
 |false=>exact hb pins s1 σ H1 Q I1 q1
 |true=>exact ⟨.bl true,H1,I1,rfl,q1⟩
theorem znM (ha:PE X a ta):PE X (.UnaryOp .Not a pos) (tNotV ta):=by
 intro pins s σ H Q I h;refine UnaryOp_ (wQ (ha pins s σ H _ I h) fun v s1 ⟨x,H1,I1,r1,q1⟩=>?_);obtain ⟨c,rfl,q1⟩:=q1;cases r1;exact not_of (Z6 ⟨.bl (!c),H1,I1,rfl,q1⟩)
def tIf (t:TT) (ta tb:TE):TE:=fun σ H Q=>t σ H fun c H1=>if c=true then ta σ H1 Q else tb σ H1 Q
theorem zjz {c:Expr} (hc:PT X c tA) (ha:PE X a ta) (hb:PE X b tb):PE X (.IfExp c a b pos) (tIf tA ta tb):=by
 intro pins s σ H Q I h;refine wpAny_IfExp (wQ (hc pins s σ H _ I h) fun d s1 ⟨H1,I1,q1⟩=>?_)
 cases d with
 |true=>exact ha pins s1 σ H1 Q I1 q1
 |false=>exact hb pins s1 σ H1 Q I1 q1
end
end L2
namespace L2
open PySem PySem.Spec PyProof.Rows
def dL (K:PySem.W.Frag) (H:Hp) (a:Addr) (xs:List V):Prop :=
 Rd H a (.lst xs) \/
  ∃ (o:Obj) (its:Array Value) (n:Nat),K.lookup a=some o/\o.cls=.type "list" /\ o.dict=none/\o.data=.seq its n/\its.size<=sizeLine/\yV xs its.toList
def gH (K:PySem.W.Frag) (H:Hp) (a:Addr) (xs:List V):Prop :=
 Rd H a (.tup xs) \/
  ∃ (o:Obj) (its:Array Value) (n:Nat),K.lookup a=some o/\o.cls=.type "tuple" /\ o.data=.seq its n/\its.size<=sizeLine/\yV xs its.toList
noncomputable def absV:Value->Option V
 | .none=>some .non
 | .bool b=>some (.bl b)
 | .int i _=>some (.int i)
 | .str x _=>some (.str x)
 | .bytes b _=>some (.byt b)
 | .float b _=>some (.flt b)
 | .ref a=>a⁻¹
 | .type n=>some (.ty n)
 |_=>none
theorem yR.abs {x:V} {u:Value} (r:yR x u):absV u=some x:=by
 cases x with
 |non=>cases r;rfl
 |bl _=>cases r;rfl
 |int _=>obtain ⟨t,rfl⟩:=r;rfl
 |str _=>obtain ⟨t,rfl⟩:=r;rfl
 |byt _=>obtain ⟨t,rfl⟩:=r;rfl
 |flt _=>obtain ⟨t,rfl⟩:=r;rfl
 |ref _=>cases r;rfl
 |ty _=>cases r;rfl
theorem yR.inj {x y:V} {u:Value} (r:yR x u) (q:yR y u):x=y:=Zw (r.abs.symm.trans q.abs)
theorem yV.inj:∀ {xs ys:List V} {us:List Value},yV xs us->yV ys us->xs=ys
 |_,_,_,.nil,.nil=>rfl
 |_,_,_,.cons r t,.cons r' t'=>by rw[r.inj r',yV.inj t t']
section
variable {X:Cx} {pins:List (Addr×Obj)} {σ:St} {H:Hp} {s:Shared} {a:Addr} {xs ys:List V}
theorem dL.of {K:PySem.W.Frag} (h:H a=some (.lst xs)):dL K H a xs:=.inl (.inl h)
theorem gH.of {K:PySem.W.Frag} (h:H a=some (.tup xs)):gH K H a xs:=.inl (.inl h)
theorem Inv.list (I:Inv X pins σ H s) (h:dL X.K H a xs):∃ its:List Value,yV xs its/\PlainL s.heap a its.toArray/\xs.length<=sizeLine:=by
 rcases h with h|⟨o,its,n,hk,hc,hd,hs,hz,r⟩
 .obtain ⟨z,its,n,r,e⟩:=h.ok I.hok;exact ⟨its,r,⟨_,n,e,rfl,rfl,rfl⟩,z⟩
 .refine ⟨its.toList,r,⟨o,n,I.kIn a o hk,hc,hd,by simpa using hs⟩,?_⟩;have e:=r.length;simp only[Zay] at e;omega
theorem Inv.tuple (I:Inv X pins σ H s) (h:gH X.K H a xs):∃ its:List Value,yV xs its/\IsTup s.heap a its.toArray/\xs.length<=sizeLine:=by
 rcases h with h|⟨o,its,n,hk,hc,hs,hz,r⟩
 .obtain ⟨z,its,r,p⟩:=h.ok I.hok;exact ⟨its,r,p,z⟩
 .refine ⟨its.toList,r,⟨o,I.kIn a o hk,hc,n,by simpa using hs⟩,?_⟩;have e:=r.length;simp only[Zay] at e;omega
theorem Inv.list_inj (I:Inv X pins σ H s) (h:dL X.K H a xs) (h':dL X.K H a ys):xs=ys:=by
 obtain ⟨its,r,⟨o,n,e,_,_,d⟩,_⟩:=I.list h;obtain ⟨its',r',⟨o',n',e',_,_,d'⟩,_⟩:=I.list h';rw[e] at e';cases e';rw[d] at d'
 injection d' with d1 _
 have:its=its':=by simpa using congrArg Array.toList d1
 subst this;exact r.inj r'
theorem Inv.tuple_inj (I:Inv X pins σ H s) (h:gH X.K H a xs) (h':gH X.K H a ys):xs=ys:=by
 obtain ⟨its,r,⟨o,e,_,n,d⟩,_⟩:=I.tuple h;obtain ⟨its',r',⟨o',e',_,n',d'⟩,_⟩:=I.tuple h';rw[e] at e';cases e';rw[d] at d'
 injection d' with d1 _
 have:its=its':=by simpa using congrArg Array.toList d1
 subst this;exact r.inj r'
end
noncomputable abbrev Cx.wish (X:Cx) (E:Value->Shared->Prop):Cx:={ X with xe:=E }
abbrev Cx.nox (X:Cx):Cx:=X.wish fun _ _=>False
theorem Cx.Ok.wish {X:Cx} (ok:X.Ok) (E:Value->Shared->Prop):(X.wish E).Ok :=
 ⟨ok.mod,ok.kind,ok.glob,ok.blt,ok.above,ok.inj,ok.has,ok.cab,ok.hd,ok.frames,ok.stk,ok.exf,ok.bs,ok.bsz,ok.noex,ok.exfs,ok.funs,ok.frf⟩
theorem Cx.Ok.unwish {X:Cx} {E:Value->Shared->Prop} (ok:(X.wish E).Ok):X.Ok :=
 ⟨ok.mod,ok.kind,ok.glob,ok.blt,ok.above,ok.inj,ok.has,ok.cab,ok.hd,ok.frames,ok.stk,ok.exf,ok.bs,ok.bsz,ok.noex,ok.exfs,ok.funs,ok.frf⟩
section
variable {X:Cx} {pins:List (Addr×Obj)} {σ:St} {H:Hp} {s:Shared} {E:Value->Shared->Prop}
theorem Inv.wish (I:Inv X pins σ H s) (E:Value->Shared->Prop):Inv (X.wish E) pins σ H s:=⟨I.ok.wish E,I.os,I.bare,I.base,I.loc,I.cell,I.free,I.freeC,I.pin,I.hok,I.len,I.tk⟩
theorem Inv.unwish (I:Inv (X.wish E) pins σ H s):Inv X pins σ H s:=⟨I.ok.unwish,I.os,I.bare,I.base,I.loc,I.cell,I.free,I.freeC,I.pin,I.hok,I.len,I.tk⟩
theorem SP.unwish {D:Ends} {f:Flow} {s':Shared} (h:SP (X.wish E) pins D f s'):SP X pins D f s':=by
 cases f with
 |next=>obtain ⟨σ',H',I,q⟩:=h;exact ⟨σ',H',I.unwish,q⟩
 |brk=>obtain ⟨σ',H',I,q⟩:=h;exact ⟨σ',H',I.unwish,q⟩
 |cont=>obtain ⟨σ',H',I,q⟩:=h;exact ⟨σ',H',I.unwish,q⟩
 |ret u=>obtain ⟨v,σ',H',I,r,q⟩:=h;exact ⟨v,σ',H',I.unwish,r,q⟩
theorem PE.nox {e:Expr} {t:TE} (h:PE X.nox e t):PE X e t:=fun pins s σ H Q I hw =>
 Zal (h pins s σ H Q (I.wish _) hw) (fun _ _ ⟨v,H',I',r,q⟩=>⟨v,H',I'.unwish,r,q⟩) fun _ _ z=>False.elim z
theorem PSs.nox {st:List Stmt} {t:TS} (h:PSs X.nox st t):PSs X st t:=fun pins s σ H D I hw =>
 Zal (h pins s σ H D (I.wish _) hw) (fun _ _ q=>q.unwish) fun _ _ z=>False.elim z
end
section
variable {X:Cx} {st:Stmt} {rest:List Stmt} {t u:TS} {e:Expr} {te:TE} {pos:Pos}
def zna:TS:=fun D σ H=>D.nx σ H
def tSeq (t u:TS):TS:=fun D σ H=>t { D with nx:=u D } σ H
theorem zlD:PSs X [] zna:=fun _ _ σ H _ I h=>Zb2 ⟨σ,H,I,h⟩
theorem zjm (h1:PS X st t) (h2:PSs X rest u):PSs X (st::rest) (tSeq t u):=by
 intro pins s σ H D I h;refine wpAny_execs_cons (wQ (h1 pins s σ H { D with nx:=u D } I h) fun f s1 q=>?_)
 cases f with
 |next =>
  obtain ⟨σ',H',I',q⟩:=q;exact h2 pins s1 σ' H' D I' q
 |ret v=>exact q
 |brk=>exact q
 |cont=>exact q
def znd:TS:=fun D σ H=>D.bk σ H
def tCont:TS:=fun D σ H=>D.ct σ H
theorem zlF:PS X (.Pass pos) zna:=fun _ _ σ H _ I h=>wpAny_Pass ⟨σ,H,I,h⟩
theorem zjq:PS X (.Break pos) znd:=fun _ _ σ H _ I h=>wpAny_Break ⟨σ,H,I,h⟩
theorem zdS:PS X (.Continue pos) tCont:=fun _ _ σ H _ I h=>wpAny_Continue ⟨σ,H,I,h⟩
theorem Inv.quiet {pins:List (Addr×Obj)} {σ:St} {H:Hp} {s:Shared} (I:Inv X pins σ H s):interactive X.env=false:=by simp[interactive,I.ok.kind]
def tDrop (te:TE):TS:=fun D σ H=>te σ H fun _ H1=>D.nx σ H1
theorem zlG (he:PE X e te) (hs:swapsWith e none pos.line X.env=pure false:=by rfl):PS X (.Expr e pos) (tDrop te):=by
 intro pins s σ H D I h;exact wpAny_Expr_any (wQ (he pins s σ H _ I h) fun v s1 ⟨x,H1,I1,r1,q1⟩=>⟨σ,H1,I1,q1⟩) I.quiet hs
def tRet (te:TE):TS:=fun D σ H=>te σ H D.rt
theorem znC (he:PE X e te):PS X (.Return (some e) pos) (tRet te):=by
 intro pins s σ H D I h;exact wpAny_Return_some (wQ (he pins s σ H _ I h) fun v s1 ⟨x,H1,I1,r1,q1⟩=>⟨x,σ,H1,I1,r1,q1⟩)
def tRetN:TS:=fun D _ H=>D.rt .non H
theorem zlE:PS X (.Return none pos) tRetN:=fun _ _ σ H _ I h=>wpAny_Return_none ⟨.non,σ,H,I,rfl,h⟩
def tIfS (c:TT) (t u:TS):TS:=fun D σ H=>c σ H fun b H1=>if b=true then t D σ H1 else u D σ H1
theorem ps_if {c:Expr} {a b:List Stmt} {tc:TT} (hc:PT X c tc) (ha:PSs X a t) (hb:PSs X b u):PS X (.If c a b pos) (tIfS tc t u):=by
 intro pins s σ H D I h;refine wpAny_If (wQ (hc pins s σ H _ I h) fun d s1 ⟨H1,I1,q1⟩=>?_)
 cases d with
 |true=>exact ha pins s1 σ H1 D I1 q1
 |false=>exact hb pins s1 σ H1 D I1 q1
def znb:TS:=fun _ _ _=>False
theorem zjp:PS X st znb:=fun _ _ _ _ _ _ h=>h.elim
end
abbrev TG:=V->St->Hp->(St->Hp->Prop)->Prop
abbrev TGs:=List V->St->Hp->(St->Hp->Prop)->Prop
def PG (X:Cx) (target:Expr) (t:TG):Prop :=
 ∀ (pins:List (Addr×Obj)) (s:Shared) (σ:St) (H:Hp) (v:V) (u:Value) (Q:St->Hp->Prop),Inv X pins σ H s->yR v u->t v σ H Q ->
  wpAny 'f' X.A (assign target X.env u) (fun _ s'=>∃ σ' H',Inv X pins σ' H' s'/\Q σ' H') X.xe s
def PGs (X:Cx) (ts:List Expr) (t:TGs):Prop :=
 ∀ (pins:List (Addr×Obj)) (s:Shared) (σ:St) (H:Hp) (vs:List V) (us:List Value) (Q:St->Hp->Prop),Inv X pins σ H s->yV vs us->t vs σ H Q ->
  wpAny 'f' X.A (assignInOrder ((assignEach ts X.env).map (·.2)) us) (fun _ s'=>∃ σ' H',Inv X pins σ' H' s'/\Q σ' H') X.xe s
abbrev TSet:=V->V->V->Hp->(Hp->Prop)->Prop
def PSet (X:Cx) (t:TSet):Prop :=
 ∀ (pins:List (Addr×Obj)) (s:Shared) (σ:St) (H:Hp) (o i v:V) (ov iv u:Value) (Q:Hp->Prop),Inv X pins σ H s->yR o ov->yR i iv->yR v u->t o i v H Q ->
  wpAny 'f' X.A (setItem ov iv u) (fun _ s'=>∃ H',Inv X pins σ H' s'/\Q H') X.xe s
section
variable {X:Cx} {pos:Pos}
def zj7 (i:Nat):TG:=fun v σ H Q=>Q (σ.set i (some v)) H
theorem zdV {i:Nat} {x:Str} (hN:X.N.Nodup) (hi:X.N[i]?=some x) (hx:Loc X.env.scope x) (hf:X.fn x=true\/X.env.scope.names.lookup x=some .local:=by first|exact .inl rfl|exact .inr rfl|assumption):PG X (.Name x pos) (zj7 i):=by
 intro pins s σ H v u Q I r h;exact wpAny_assign_Name (zeI I hN hi hx r (fun s' I'=>⟨_,H,I',h⟩) hf)
def gNil:TGs:=fun vs σ H Q=>vs=[]/\Q σ H
def gCons (t:TG) (u:TGs):TGs:=fun vs σ H Q=>∃ v r,vs=v::r/\t v σ H fun σ' H'=>u r σ' H' Q
theorem zhi:PGs X [] gNil:=by
 intro pins s σ H vs us Q I r h;obtain ⟨e,h⟩:=h;subst e;cases r;exact assignInOrder_nil ⟨σ,H,I,h⟩
theorem zbx {e:Expr} {es:List Expr} {t:TG} {u:TGs} (h1:PG X e t) (h2:PGs X es u)
  (hs:(assignEach (e::es) X.env).map (·.2)=assign e X.env::(assignEach es X.env).map (·.2):=by rfl):PGs X (e::es) (gCons t u):=by
 intro pins s σ H vs us Q I r h;obtain ⟨v,vr,e1,h⟩:=h;subst e1
 cases r with
 |cons r rr =>
  rw[hs];refine assignInOrder_cons (wQ (h1 pins s σ H _ _ _ I r h) fun _ s1 ⟨σ1,H1,I1,q1⟩=>?_);exact h2 pins s1 σ1 H1 _ _ Q I1 rr q1
def gTup (K:PySem.W.Frag) (n:Nat) (t:TGs):TG:=fun v σ H Q=>∃ a xs,v=.ref a/\gH K H a xs/\xs.length=n/\t xs σ H Q
theorem zkI {es:List Expr} {k:Nat} {t:TGs} {n:Nat} (hc:X.calm=true) (h:PGs X es t)
  (hn:(assignEach es X.env).length=n:=by rfl) (hst:(assignEach es X.env).findIdx? (·.1)=none:=by rfl):PG X (.Tuple es k pos) (gTup X.K n t):=by
 intro pins s σ H v u Q I r hw;obtain ⟨a,xs,e1,hq,hl,hw⟩:=hw;subst e1;cases r;obtain ⟨its,rv,ht,hz⟩:=I.tuple hq;refine assign_Tuple_tuple (I.ok.hd hc) ht (by simp[hn,← hl,rv.length]) hst fun h' hx=>?_;have I1:Inv X pins σ H { s with heap:=h' }:=I.kept (t':=s.toks) fun b o e=>hx b o (Zr (Zi e)) e;exact h pins _ σ H xs _ Q I1 (by simpa using rv) hw
def tAsg (te:TE) (g:TG):TS:=fun D σ H=>te σ H fun x H1=>g x σ H1 D.nx
theorem zkH {tg e:Expr} {te:TE} {g:TG} (he:PE X e te) (hg:PG X tg g) (hs:swapsWithSole [tg] e pos.line X.env=pure false:=by rfl) (hw:swappedStores [tg] e X.env=pure none:=by rfl)
  (h1:(assignEach [tg] X.env).map (·.2)=[assign tg X.env]:=by rfl):PS X (.Assign [tg] e pos) (tAsg te g):=by
 intro pins s σ H D I h;refine wpAny_Assign_stores (wQ (he pins s σ H _ I h) fun v s1 ⟨x,H1,I1,r1,q1⟩=>?_) hs hw;rw[h1];exact wQ (hg pins s1 σ H1 x v _ I1 r1 q1) fun _ s2 q=>q
theorem zkG {i:Nat} {x:Str} {e:Expr} {te:TE} {pos':Pos} (hN:X.N.Nodup) (hi:X.N[i]?=some x) (hx:Loc X.env.scope x) (he:PE X e te) (hs:swapsWith e (some (.Name x pos')) pos.line X.env=pure false:=by rfl) (hf:X.fn x=true\/X.env.scope.names.lookup x=some .local:=by first|exact .inl rfl|exact .inr rfl|assumption) :
  PS X (.Assign [.Name x pos'] e pos) (tAsg te (zj7 i)):=by
 intro pins s σ H D I h;refine wpAny_Assign_Name (wQ (he pins s σ H _ I h) fun v s1 ⟨y,H1,I1,r1,q1⟩=>?_) hs;exact zeI I1 hN hi hx r1 (fun s2 I2=>⟨_,H1,I2,q1⟩) hf
end
section
variable {X:Cx} {pos:Pos}
def zm9 (c:TT) (tb:TS):TS:=fun D σ H=>∃ W:Nat->St->Hp->Prop,(∃ m,W m σ H)/\∀ m σ H,W m σ H ->
 c σ H fun b H1=>if b=true then ∃ N:St->Hp->Prop,(∀ σ' H',N σ' H'->∃ m',m' < m/\W m' σ' H')/\tb { D with nx:=N,ct:=N,bk:=D.nx } σ H1 else D.nx σ H1
theorem zjn {c:Expr} {body:List Stmt} {tc:TT} {tb:TS} (hp:PassesOwn 'f' X.A X.env X.xe) (hc:PT X c tc) (hb:PSs X body tb):PS X (.While c body [] pos) (zm9 tc tb):=by
 intro pins s σ H D I h;obtain ⟨W,⟨m0,w0⟩,turn⟩:=h;refine wpAny_While (codeAny_whileLoop (fun n s'=>∃ σ' H',Inv X pins σ' H' s'/\W n σ' H') ?_ m0 ⟨σ,H,I,w0⟩);rintro n s1 ⟨σ1,H1,I1,w1⟩;refine Zaw hp (wQ (hc pins s1 σ1 H1 _ I1 (turn n σ1 H1 w1)) fun b s2 ⟨H2,I2,q2⟩=>?_)
 cases b with
 |true =>
  obtain ⟨N,hN,q2⟩:=q2;rw[if_pos rfl];refine Zaw hp (wQ (hb pins s2 σ1 H2 _ I2 q2) fun f s3 q3=>?_)
  cases f with
  |next =>
   obtain ⟨σ3,H3,I3,n3⟩:=q3;obtain ⟨m',hm,w3⟩:=hN σ3 H3 n3;exact ⟨m',hm,σ3,H3,I3,w3⟩
  |cont =>
   obtain ⟨σ3,H3,I3,n3⟩:=q3;obtain ⟨m',hm,w3⟩:=hN σ3 H3 n3;exact ⟨m',hm,σ3,H3,I3,w3⟩
  |brk=>exact q3
  |ret v=>exact q3
 |false =>
  rw[if_neg zzN];exact Zb2 ⟨σ1,H2,I2,q2⟩
end
structure It where
 go:Nat->Hp->Prop
 yld:Nat->Hp->V->Hp->Prop
 stop:Nat->Hp->Prop
def dM (X:Cx) (pins:List (Addr×Obj)) (H:Hp) (b:Addr):Prop :=
 H b=none/\b≠X.env.locals/\b∉X.fs/\(b∈X.ex\/X.s₀.heap.objs.size<=b)/\(∀ x c,X.env.cells.lookup x=some c->c≠b)/\∀ p∈X.pn++pins,p.1≠b
theorem Inv.fpOk {X:Cx} {pins:List (Addr×Obj)} {σ:St} {H H':Hp} {s:Shared} {b:Addr} (I:Inv X pins σ H s) (hb:s.heap.objs.size<=b) (hn:H' b=none):dM X pins H' b:=by
 refine ⟨hn,ZaZ (Zn I.lt hb),I.nofs hb,.inr (Zb I.sz hb),fun x c e z=>?_,fun p hp z=>?_⟩
 .obtain ⟨v,q⟩:=I.cell x c e;exact absurd (Zn q.lt (by rw[z];exact hb)) (Z9 _)
 .exact absurd (Zn (Zi (I.pin p hp).1) (by rw[z];exact hb)) (Z9 _)
structure Turn (P:Program) (w:World) (K:PySem.W.Frag) (tg:Expr) (J:It) (fp:List Addr) (it:Addr) (tn:Nat->Heap->Prop):Prop where
 mem:it∈fp
 obj:∀ i h,tn i h->∀ b∈fp,∃ o,h.get? b=some o/\∀ v,o.data≠.cell v
 keep:∀ i h h',tn i h->(∀ b∈fp,∀ o,h.get? b=some o->h'.get? b=some o)->tn i h'
 item:∀ (X:Cx),X.prog=P->X.w=w->X.K=K->X.calm=true->∀ (i:Nat) (pins:List (Addr×Obj)) (s:Shared) (σ:St) (H:Hp) (E:Value->Shared->Prop),Inv X pins σ H s->(∀ b∈fp,dM X pins H b)->tn i s.heap->J.go i H ->
  wpAny (model P w) X.A (pyNext (.ref it)) (fun r s1=>∃ u,r=some u /\
   wpAny (model P w) X.A (letOwnedTupleGo tg (.ref it) u) (fun _ s2=>∃ x H',Inv X pins σ H' s2/\yR x u/\J.yld i H x H'/\tn (i+1) s2.heap/\∀ b∈fp,H' b=none) E s1) E s
 done:∀ (X:Cx),X.prog=P->X.w=w->X.K=K->X.calm=true->∀ (i:Nat) (pins:List (Addr×Obj)) (s:Shared) (σ:St) (H:Hp) (E:Value->Shared->Prop),Inv X pins σ H s->(∀ b∈fp,dM X pins H b)->tn i s.heap->J.stop i H ->
  wpAny (model P w) X.A (pyNext (.ref it)) (fun r s1=>r=none/\Inv X pins σ H s1) E s
 self:∀ (A:Around) (i:Nat) (s:Shared) (Q:Value->Shared->Prop) (E:Value->Shared->Prop),tn i s.heap->Q (.ref it) s->wpAny (model P w) A (pyIter (.ref it)) Q E s
abbrev TI:=St->Hp->(It->Hp->Prop)->Prop
def PIE (X:Cx) (pins:List (Addr×Obj)) (σ:St) (tg:Expr) (R:It->Hp->Prop) (itv:Value) (s2:Shared):Prop :=
 ∃ (it:Addr) (fp:List Addr) (tn:Nat->Heap->Prop) (J:It) (H':Hp),itv=.ref it/\Inv X pins σ H' s2/\Turn X.prog X.w X.K tg J fp it tn/\tn 0 s2.heap/\(∀ b∈fp,dM X pins H' b)/\R J H'
def PI (X:Cx) (tg iter:Expr) (wi:TI):Prop :=
 ∀ (pins:List (Addr×Obj)) (s:Shared) (σ:St) (H:Hp) (R:It->Hp->Prop),Inv X pins σ H s->wi σ H R ->
  wpAny 'f' X.A (eval iter X.env) (fun v s1=>wpAny 'f' X.A (pyIter v) (PIE X pins σ tg R) X.xe s1) X.xe s
theorem zh4 {M:Model} {A:Around} {E:Value->Shared->Prop} {s:Shared} {tg:Expr} {it:Addr} {u:Value} {o:Obj} {n:String} {vs:Array Value} {Q:Unit->Shared->Prop} (ho:s.heap.get? it=some o) (hc:o.cls=.type n) (hd:o.data=.fields vs)
    (hn:["enumerate", "zip", "dict_itemiterator", "dict_reverseitemiterator", "odict_iterator", "itertools.zip_longest", "itertools.pairwise"].contains n=false) (hQ:Q () s):wpAny M A (letOwnedTupleGo tg (.ref it) u) Q E s:=by
  unfold letOwnedTupleGo
  cases tg<;>first
    |exact Zh hQ
    | (cases u<;>first
        |exact Zh hQ
        | (refine Za (wpAny_load ho ?_)
           rw[hc,hd];show wpAny M A (if (["enumerate", "zip", "dict_itemiterator", "dict_reverseitemiterator", "odict_iterator", "itertools.zip_longest", "itertools.pairwise"].contains n&&vs[0]?==some (rawInt _))=true then _ else _) Q E s;rw[if_neg (by intro h;rw[hn,Bool.false_and] at h;cases h)];exact Zh hQ))
def Itl (K:PySem.W.Frag) (a:Addr):It :=
 ⟨fun i H=>∃ xs x,dL K H a xs/\xs[i]?=some x,fun i H x H'=>H'=H/\∀ xs,dL K H a xs->xs[i]?=some x,fun i H=>∃ xs,dL K H a xs/\xs.length<=i⟩
def Itt (K:PySem.W.Frag) (a:Addr):It :=
 ⟨fun i H=>∃ xs x,gH K H a xs/\xs[i]?=some x,fun i H x H'=>H'=H/\∀ xs,gH K H a xs->xs[i]?=some x,fun i H=>∃ xs,gH K H a xs/\xs.length<=i⟩
def Itr (lo:Int) (n:Nat):It:=⟨fun i _=>i<n,fun i H x H'=>H'=H/\x=.int (lo+i),fun i _=>n<=i⟩
theorem zgv {P:Program} {w:World} {K:PySem.W.Frag} {tg:Expr} (a it:Addr):Turn P w K tg (Itl K a) [it] it (fun i h=>h.IsListIter it a i) where
 mem:=by simp
 obj:=fun i h st b hb=>by
  have e:b=it:=by simpa using hb
  subst e;obtain ⟨o,e,c,d⟩:=st;exact ⟨o,e,fun v z=>by rw[d] at z;cases z⟩
 keep:=fun i h h' st k=>st.at fun o e=>k it 'g' o e
 item:=by
  intro X hP hw hK hc i pins s σ H E I hf st hg;subst hP hw hK;obtain ⟨xs,x,hq,hx⟩:=hg;obtain ⟨its,rv,p,hz⟩:=I.list hq;obtain ⟨u,hu,ru⟩:=rv.get hx;obtain ⟨f0,f1,f2,f3,f4,f5⟩:=hf it 'g';refine wpAny_pyNext_list_item st p.isList (x:=u) (by simpa using hu) fun h' st' sb=>?_;have I1:Inv X pins σ H { s with heap:=h' }:=I.turned (t':=s.toks) (fun b o hb e=>(sb.2 b hb).trans e) f0 f1 f3 f4 f5;obtain ⟨o,e,c,d⟩:=id st';exact ⟨u,rfl,zh4 (s:={ s with heap:=h' }) e c d 'c' ⟨x,H,I1,ru,⟨rfl,fun ys hy=>by rw[I.list_inj hy hq];exact hx⟩,st',fun b hb=>(hf b hb).1⟩⟩
 done:=by
  intro X hP hw hK hc i pins s σ H E I hf st hg;subst hP hw hK;obtain ⟨xs,hq,hx⟩:=hg;obtain ⟨its,rv,p,hz⟩:=I.list hq;obtain ⟨f0,f1,f2,f3,f4,f5⟩:=hf it 'g';have hl:=rv.length;exact wpAny_pyNext_list_end (I.ok.hd hc) st p.isList (by simp;omega) fun h' eb=>⟨rfl,I.turned (t':=s.toks) (fun b o hb e=>eb b o hb e) f0 f1 f3 f4 f5⟩
 self:=fun _ _ _ _ _ st h=>wpAny_pyIter_listiter st h
theorem zfA {P:Program} {w:World} {K:PySem.W.Frag} {tg:Expr} (a it:Addr):Turn P w K tg (Itt K a) [it] it (fun i h=>h.IsTupleIter it a i) where
 mem:=by simp
 obj:=fun i h st b hb=>by
  have e:b=it:=by simpa using hb
  subst e;obtain ⟨o,e,c,d⟩:=st;exact ⟨o,e,fun v z=>by rw[d] at z;cases z⟩
 keep:=fun i h h' st k=>st.at fun o e=>k it 'g' o e
 item:=by
  intro X hP hw hK hc i pins s σ H E I hf st hg;subst hP hw hK;obtain ⟨xs,x,hq,hx⟩:=hg;obtain ⟨its,rv,p,hz⟩:=I.tuple hq;obtain ⟨u,hu,ru⟩:=rv.get hx;obtain ⟨f0,f1,f2,f3,f4,f5⟩:=hf it 'g';refine wpAny_pyNext_tuple_item st (show s.heap.IsTuple a its.toArray from p) (x:=u) (by simpa using hu) fun h' st' sb=>?_;have I1:Inv X pins σ H { s with heap:=h' }:=I.turned (t':=s.toks) (fun b o hb e=>(sb.2 b hb).trans e) f0 f1 f3 f4 f5;obtain ⟨o,e,c,d⟩:=id st';exact ⟨u,rfl,zh4 (s:={ s with heap:=h' }) e c d 'c' ⟨x,H,I1,ru,⟨rfl,fun ys hy=>by rw[I.tuple_inj hy hq];exact hx⟩,st',fun b hb=>(hf b hb).1⟩⟩
 done:=by
  intro X hP hw hK hc i pins s σ H E I hf st hg;subst hP hw hK;obtain ⟨xs,hq,hx⟩:=hg;obtain ⟨its,rv,p,hz⟩:=I.tuple hq;obtain ⟨f0,f1,f2,f3,f4,f5⟩:=hf it 'g';have hl:=rv.length;exact wpAny_pyNext_tuple_end (I.ok.hd hc) st (show s.heap.IsTuple a its.toArray from p) (by simp;omega) fun h' eb=>⟨rfl,I.turned (t':=s.toks) (fun b o hb e=>eb b o hb e) f0 f1 f3 f4 f5⟩
 self:=fun _ _ _ _ _ st h=>wpAny_pyIter_tupleiter st h
theorem zfB {P:Program} {w:World} {K:PySem.W.Frag} {tg:Expr} (it:Addr) (lo:Int) (n:Nat):Turn P w K tg (Itr lo n) [it] it (fun i h=>IsRangeIter h it (lo+(i:Nat) * 1) ((n:Int)-(i:Nat)) 1) where
 mem:=by simp
 obj:=fun i h st b hb=>by
  have e:b=it:=by simpa using hb
  subst e
  exact ⟨_,st,fun v z=>by
   have z':Data.fields _=Data.cell v:=z;cases z'⟩
 keep:=fun i h h' st k=>k it 'g' _ st
 item:=by
  intro X hP hw hK hc i pins s σ H E I hf st hg;subst hP hw hK;obtain ⟨f0,f1,f2,f3,f4,f5⟩:=hf it 'g';have W:=Walks.range (prog:=X.prog) (w:=X.w) (I.ok.hd hc) it lo 1 n;refine vA I.tk (W.item i s _ _ hg st fun v h' tk hv st' kk h0=>?_);obtain ⟨t,rfl⟩:=hv;have I1:Inv X pins σ H { s with heap:=h',toks:=tk }:=I.turned (fun b o hb e=>kk b o (by simpa using hb) e) f0 f1 f3 f4 f5;refine ⟨_,rfl,zh4 (s:={ s with heap:=h',toks:=tk }) (n := "range_iterator") st' rfl rfl 'c' ⟨.int (lo+i),H,I1,⟨t,?_⟩,⟨rfl,rfl⟩,st',fun b hb=>(hf b hb).1⟩⟩;rw[Int.mul_one]
 done:=by
  intro X hP hw hK hc i pins s σ H E I hf st hg;subst hP hw hK;obtain ⟨f0,f1,f2,f3,f4,f5⟩:=hf it 'g';exact wpAny_pyNext_range_end (I.ok.hd hc) st (by have:n<=i:=hg;omega) fun h' eb=>⟨rfl,I.turned (t':=s.toks) (fun b o hb e=>eb b o hb e) f0 f1 f3 f4 f5⟩
 self:=fun _ _ _ _ _ st h=>wpAny_pyIter_rangeiter st h
end L2
namespace L2
open PySem PySem.Spec PyProof.Rows
section
variable {X:Cx} {tg:Expr}
theorem zjj {pins:List (Addr×Obj)} {σ:St} {H:Hp} {s:Shared} {R:It->Hp->Prop} {E:Value->Shared->Prop} {lo hi:Int} {t u v:Tok} {tk:Nat} (I:Inv X pins σ H s) (h0:0<tk) (h1:-(2 ^ 62)<=lo) (h2:lo<2 ^ 62) (h3:-(2 ^ 62)<=hi) (h4:hi<2 ^ 62)
  (q:R (Itr lo (hi-lo).toNat) H):wpAny 'f' X.A (pyIter (.ref s.heap.objs.size)) (PIE X pins σ tg R) E { s with heap:=s.heap.push { cls:=.type "range", data:=.fields #[.int lo t,.int hi u,.int 1 v] },toks:=tk }:=by
 refine wpAny_pyIter_range (IsRange.new ..) (small_one h1 h2 h3 h4) ?_;have I1:Inv X pins σ H { s with heap:=s.heap.push { cls:=.type "range", data:=.fields #[.int lo t,.int hi u,.int 1 v] },toks:=tk }:=I.kept fun b o e=>Zc _ e
 refine ⟨(s.heap.push { cls:=.type "range", data:=.fields #[.int lo t,.int hi u,.int 1 v] }).objs.size,[(s.heap.push { cls:=.type "range", data:=.fields #[.int lo t,.int hi u,.int 1 v] }).objs.size],_,_,H,rfl,
  I1.kept (t':=tk) fun b o e=>Zc _ e,zfB _ lo (hi-lo).toNat,?_,fun b hb=>?_,q⟩
 .have e1:lo+((0:Nat):Int) * 1=lo:=by simp
  have e2:(((hi-lo).toNat:Nat):Int)-((0:Nat):Int)=Builtin.Range.rangeSize lo hi 1:=by rw[rangeSize_one];split<;>omega
  show IsRangeIter _ _ (lo+((0:Nat):Int) * 1) ((((hi-lo).toNat:Nat):Int)-((0:Nat):Int)) 1;rw[e1,e2];exact Zq _ rfl
 .have e:b=(s.heap.push { cls:=.type "range", data:=.fields #[.int lo t,.int hi u,.int 1 v] }).objs.size:=by simpa using hb
  subst e;exact I1.fpOk (zzR _) (I1.hok.fresh (zzR _))
def tFor (wi:TI) (g:TG) (tb:TS):TS:=fun D σ H=>wi σ H fun J H1=>∃ W:Nat->Nat->St->Hp->Prop,(∃ m,W 0 m σ H1)/\∀ i m σ H,W i m σ H ->
 (J.stop i H/\D.nx σ H)\/(J.go i H/\∃ N:St->Hp->Prop,(∀ σ' H',N σ' H'->∃ m',m' < m/\W (i+1) m' σ' H')/\∀ x H',J.yld i H x H'->g x σ H' fun σ2 H2=>tb { D with nx:=N,ct:=N,bk:=D.nx } σ2 H2)
def cZ (fp:List Addr) (h:Heap):List (Addr×Obj):=fp.filterMap fun b=>(h.get? b).map fun o=>(b,o)
theorem sH {fp:List Addr} {h:Heap} {b:Addr} {o:Obj} (hb:b∈fp) (e:h.get? b=some o):(b,o)∈cZ fp h:=ZbA.mpr ⟨b,hb,by rw[e];rfl⟩
theorem zhr {fp:List Addr} {h:Heap} {p:Addr×Obj} (hp:p∈cZ fp h):p.1∈fp/\h.get? p.1=some p.2:=by
 obtain ⟨b,hb,e⟩:=ZbA.mp hp
 cases q:h.get? b with
 |none=>rw[q] at e;cases e
 |some o =>
  rw[q] at e;have e':(b,o)=p:=Zw e;subst e';exact ⟨hb,q⟩
theorem Inv.pinned {pins:List (Addr×Obj)} {σ:St} {H:Hp} {s:Shared} {fp:List Addr} (I:Inv X pins σ H s) (hf:∀ b∈fp,dM X pins H b) (ho:∀ b∈fp,∃ o,s.heap.get? b=some o/\∀ v,o.data≠.cell v):Inv X (pins++cZ fp s.heap) σ H s :=
 I.pins_of fun p hp=>(Zm.mp hp).elim (fun z=>I.pin p (Zs _ z)) fun z=>by
  obtain ⟨hb,e⟩:=zhr z;obtain ⟨f0,f1,f2,_⟩:=hf p.1 hb;obtain ⟨o,e',d⟩:=ho p.1 hb;rw[e] at e';cases e';exact ⟨e,f0,f1,f2,d⟩
theorem Inv.unpinned {pins pl:List (Addr×Obj)} {σ:St} {H:Hp} {s:Shared} (I:Inv X (pins++pl) σ H s):Inv X pins σ H s:=I.pins_of fun p hp=>I.pin p (Zs _ (Zaq _ hp))
theorem znD {iter:Expr} {body:List Stmt} {wi:TI} {g:TG} {tb:TS} {pos:Pos} (hp:PassesOwn 'f' X.A X.env X.xe) (hc:X.calm=true) (hi:PI X tg iter wi) (hg:PG X tg g) (hb:PSs X body tb)
  (hs:∀ x,foldedSetIterable iter X.env x=pure x:=by intro _;rfl):PS X (.For tg iter body [] pos) (tFor wi g tb):=by
 intro pins s σ H D I h;refine wpAny_For (wQ (hi pins s σ H _ I h) fun v s1 h1=>wQ h1 fun itv s2 h2=>?_) hs;obtain ⟨it,fp,tn,J,H2,e,I2,T,st2,f2,W,⟨m0,w0⟩,turn⟩:=h2;subst e;have stat:∀ {H':Hp},(∀ b∈fp,H' b=none)->∀ b∈fp,dM X pins H' b:=fun hn b hb=>⟨hn b hb,(f2 b hb).2⟩;refine codeAny_forLoop_any (fun n s'=>∃ i σ' H',Inv X pins σ' H' s'/\tn i s'.heap/\(∀ b∈fp,H' b=none)/\W i n σ' H') ?_ m0 ⟨0,σ,H2,I2,st2,fun b hb=>(f2 b hb).1,w0⟩;rintro n s3 ⟨i,σ3,H3,I3,st3,fr3,w3⟩;rcases turn i n σ3 H3 w3 with ⟨stop,qn⟩|⟨go,N,hN,step⟩
 .refine Zaw hp (wQ (T.done X rfl rfl rfl hc i pins s3 σ3 H3 X.xe I3 (stat fr3) st3 stop) fun r s4 ⟨hr,I4⟩=>?_);subst hr;exact Zb2 ⟨σ3,H3,I4,qn⟩
 .refine Zaw hp (wQ (T.item X rfl rfl rfl hc i pins s3 σ3 H3 X.xe I3 (stat fr3) st3 go) fun r s4 ⟨u,hr,h4⟩=>?_);subst hr;refine Zaw hp (wQ h4 fun _ s5 ⟨x,H5,I5,r5,y5,st5,fr5⟩=>?_);have I5':=I5.pinned (stat fr5) (T.obj _ _ st5);refine Zaw hp (wQ (hg _ s5 σ3 H5 x u _ I5' r5 (step x H5 y5)) fun _ s6 ⟨σ6,H6,I6,q6⟩=>?_);refine Zaw hp (wQ (hb _ s6 σ6 H6 _ I6 q6) fun f s7 q7=>?_)
  have again:∀ {σ7:St} {H7:Hp},Inv X (pins++cZ fp s5.heap) σ7 H7 s7->N σ7 H7->∃ m,m<n/\∃ i σ' H',Inv X pins σ' H' s7/\tn i s7.heap/\(∀ b∈fp,H' b=none)/\W i m σ' H':=fun {σ7 H7} I7 n7=>by
   obtain ⟨m',hm,w7⟩:=hN σ7 H7 n7;refine ⟨m',hm,i+1,σ7,H7,I7.unpinned,T.keep _ _ _ st5 fun b hb o e=>(I7.pin (b,o) (Zs _ (Zs _ (sH hb e)))).1,fun b hb=>?_,w7⟩;obtain ⟨o,e,d⟩:=T.obj _ _ st5 b hb;exact (I7.pin (b,o) (Zs _ (Zs _ (sH hb e)))).2.1
  cases f with
  |next=>obtain ⟨σ7,H7,I7,n7⟩:=q7;exact again I7 n7
  |cont=>obtain ⟨σ7,H7,I7,n7⟩:=q7;exact again I7 n7
  |brk=>obtain ⟨σ7,H7,I7,q7⟩:=q7;exact ⟨σ7,H7,I7.unpinned,q7⟩
  |ret v=>obtain ⟨x7,σ7,H7,I7,r7,q7⟩:=q7;exact ⟨x7,σ7,H7,I7.unpinned,r7,q7⟩
end
end L2
namespace L2
open PySem PySem.Spec PyProof.Rows
abbrev R2:=V->V->Hp->VK->Prop
def gE (X:Cx) (f:Value->Value->Sem Value) (r:R2):Prop :=
 ∀ (pins:List (Addr×Obj)) (s:Shared) (σ:St) (H:Hp) (x y:V) (v u:Value) (Q:VK),Inv X pins σ H s->yR x v->yR y u->r x y H Q ->
  wpAny 'f' X.A (f v u) (EP X pins σ Q) X.xe s
def UnR (X:Cx) (f:Value->Sem Value) (r:V->Hp->VK->Prop):Prop :=
 ∀ (pins:List (Addr×Obj)) (s:Shared) (σ:St) (H:Hp) (x:V) (v:Value) (Q:VK),Inv X pins σ H s->yR x v->r x H Q ->
  wpAny 'f' X.A (f v) (EP X pins σ Q) X.xe s
def jG (X:Cx) (f:Value) (r:List V->Hp->VK->Prop):Prop :=
 ∀ (pins:List (Addr×Obj)) (s:Shared) (σ:St) (H:Hp) (xs:List V) (us:List Value) (Q:VK),Inv X pins σ H s->yV xs us->r xs H Q ->
  wpAny 'f' X.A (call f us) (EP X pins σ Q) X.xe s
def TruR (X:Cx) (r:V->Hp->(Bool->Hp->Prop)->Prop):Prop :=
 ∀ (pins:List (Addr×Obj)) (s:Shared) (σ:St) (H:Hp) (x:V) (v:Value) (Q:Bool->Hp->Prop),Inv X pins σ H s->yR x v->r x H Q ->
  wpAny 'f' X.A (truthy v) (TP X pins σ Q) X.xe s
def tOp (r:R2) (ta tb:TE):TE:=fun σ H Q=>ta σ H fun x H1=>tb σ H1 fun y H2=>r x y H2 Q
def tUn (r:V->Hp->VK->Prop) (ta:TE):TE:=fun σ H Q=>ta σ H fun x H1=>r x H1 Q
def rI (C:Int->Int->Prop) (g:Int->Int->V):R2:=fun x y H Q=>∃ i j,x=.int i/\y=.int j/\C i j/\Q (g i j) H
def rI0 (g:Int->Int->V):R2:=fun x y H Q=>∃ i j,x=.int i/\y=.int j/\Q (g i j) H
def rU (g:Int->V):V->Hp->VK->Prop:=fun x H Q=>∃ i,x=.int i/\Q (g i) H
section
variable {X:Cx} {a b c:Expr} {ta tb tc:TE} {pos:Pos}
theorem binT (ha:PE X a ta) (hb:PE X b tb) {pins:List (Addr×Obj)} {s:Shared} {σ:St} {H:Hp} {R:V->V->Hp->Prop} (I:Inv X pins σ H s)
  (h:ta σ H fun x H1=>tb σ H1 fun y H2=>R x y H2) {Q:Value->Shared->Prop} {f:Value->Value->Sem Value}
  (hf:∀ v u s2 x y H2,Inv X pins σ H2 s2->yR x v->yR y u->R x y H2->wpAny 'f' X.A (f v u) Q X.xe s2) :
  wpAny 'f' X.A (eval a X.env) (fun v s₁=>wpAny 'f' X.A (eval b X.env) (fun u s₂=>wpAny 'f' X.A (f v u) Q X.xe s₂) X.xe s₁) X.xe s:=by
 refine wQ (ha pins s σ H _ I h) fun v s1 ⟨x,H1,I1,r1,q1⟩=>?_;refine wQ (hb pins s1 σ H1 _ I1 q1) fun u s2 ⟨y,H2,I2,r2,q2⟩=>?_;exact hf v u s2 x y H2 I2 r1 r2 q2
theorem pe_op {op:Operator} {r:R2} (ho:gE X (binaryOp op) r) (ha:PE X a ta) (hb:PE X b tb):PE X (.BinOp a op b pos) (tOp r ta tb):=by
 intro pins s σ H Q I h;exact wpAny_BinOp (binT ha hb I h fun v u s2 x y H2 I2 rx ry q=>ho pins s2 σ H2 x y v u Q I2 rx ry q)
theorem znJ {op:UnaryOp} {r:V->Hp->VK->Prop} (ho:UnR X (unaryOp op) r) (ha:PE X a ta):PE X (.UnaryOp op a pos) (tUn r ta):=by
 intro pins s σ H Q I h;exact UnaryOp_ (wQ (ha pins s σ H _ I h) fun v s1 ⟨x,H1,I1,r1,q1⟩=>ho pins s1 σ H1 x v Q I1 r1 q1)
theorem opI {f:Value->Value->Sem Value} {C:Int->Int->Prop} {g:Int->Int->Int}
  (rule:∀ (i j:Int) (t u:Tok) (s:Shared) (Q:Value->Shared->Prop) (E:Value->Shared->Prop),C i j->Q (.int (g i j) s.toks) { s with toks:=s.toks+1 }->wpAny 'f' X.A (f (.int i t) (.int j u)) Q E s) :
  gE X f (rI C fun i j=>.int (g i j)):=by
 intro pins s σ H x y v u Q I rx ry h;obtain ⟨i,j,rfl,rfl,hc,q⟩:=h;obtain ⟨t,rfl⟩:=rx;obtain ⟨t',rfl⟩:=ry;exact rule i j t t' s _ _ hc ⟨.int (g i j),H,I.tok _,⟨_,rfl⟩,q⟩
theorem opI0 {f:Value->Value->Sem Value} {g:Int->Int->Int}
  (rule:∀ (i j:Int) (t u:Tok) (s:Shared) (Q:Value->Shared->Prop) (E:Value->Shared->Prop),Q (.int (g i j) s.toks) { s with toks:=s.toks+1 }->wpAny 'f' X.A (f (.int i t) (.int j u)) Q E s) :
  gE X f (rI0 fun i j=>.int (g i j)):=by
 intro pins s σ H x y v u Q I rx ry h;obtain ⟨i,j,rfl,rfl,q⟩:=h;obtain ⟨t,rfl⟩:=rx;obtain ⟨t',rfl⟩:=ry;exact rule i j t t' s _ _ ⟨.int (g i j),H,I.tok _,⟨_,rfl⟩,q⟩
theorem opB0 {f:Value->Value->Sem Value} {g:Int->Int->Bool}
  (rule:∀ (i j:Int) (t u:Tok) (s:Shared) (Q:Value->Shared->Prop) (E:Value->Shared->Prop),Q (.bool (g i j)) s->wpAny 'f' X.A (f (.int i t) (.int j u)) Q E s) :
  gE X f (rI0 fun i j=>.bl (g i j)):=by
 intro pins s σ H x y v u Q I rx ry h;obtain ⟨i,j,rfl,rfl,q⟩:=h;obtain ⟨t,rfl⟩:=rx;obtain ⟨t',rfl⟩:=ry;exact rule i j t t' s _ _ ⟨.bl (g i j),H,I,rfl,q⟩
def CDiv (i j:Int):Prop:=0<j/\j<1073741824
def CPow (i j:Int):Prop:=0<=j/\j<=1000000/\i.natAbs<2 ^ 64
def CMul (i j:Int):Prop:=(-(2 ^ 64)<i/\i<2 ^ 64)\/(-(2 ^ 64)<j/\j<2 ^ 64)
theorem CMul.ok {i j:Int} (h:CMul i j):IntMulOk i j:=by
 rcases h with ⟨h1,h2⟩|⟨h1,h2⟩
 .exact .of_left (intBits_le_64 h1 h2)
 .exact .of_right (intBits_le_64 h1 h2)
theorem znY:gE X (binaryOp .Add) (rI0 fun i j=>.int (i+j)):=opI0 fun _ _ _ _ _ _ _ q=>add_int q
theorem znS:gE X (binaryOp .Sub) (rI0 fun i j=>.int (i-j)):=opI0 fun _ _ _ _ _ _ _ q=>sub_int q
theorem znV:gE X (binaryOp .Mult) (rI CMul fun i j=>.int (i * j)):=opI fun _ _ _ _ _ _ _ hc q=>mul_int q hc.ok
theorem zlU:gE X (binaryOp .FloorDiv) (rI CDiv fun i j=>.int (i / j)):=opI fun i j _ _ _ _ _ hc q=>by
 have h1:(0:Int)<j:=hc.1;have h2:j<1073741824:=hc.2;exact floordiv_int 'd' (by rw[Int.fdiv_eq_ediv_of_nonneg i 'd'];exact q) (.inl (PyProof.noPylong_small 'd'))
theorem znW:gE X (binaryOp .Mod) (rI (fun _ j=>0<j) fun i j=>.int (i % j)):=opI fun i j _ _ _ _ _ hc q=>by
 have h1:(0:Int)<j:=hc;exact mod_int' 'd' (by rw[Int.fmod_eq_emod_of_nonneg i 'd'];exact q)
theorem znU:gE X (binaryOp .Pow) (rI CPow fun i j=>.int (i ^ j.toNat)):=opI fun _ _ _ _ _ _ _ hc q=>pow_int_small hc.1 hc.2.1 hc.2.2 q
theorem unI {f:Value->Sem Value} {g:Int->Int}
  (rule:∀ (i:Int) (t:Tok) (s:Shared) (Q:Value->Shared->Prop) (E:Value->Shared->Prop),Q (.int (g i) s.toks) { s with toks:=s.toks+1 }->wpAny 'f' X.A (f (.int i t)) Q E s) :
  UnR X f (rU fun i=>.int (g i)):=by
 intro pins s σ H x v Q I rx h;obtain ⟨i,rfl,q⟩:=h;obtain ⟨t,rfl⟩:=rx;exact rule i t s _ _ ⟨.int (g i),H,I.tok _,⟨_,rfl⟩,q⟩
theorem zkx:UnR X (unaryOp .USub) (rU fun i=>.int (-i)):=unI fun _ _ _ _ _ q=>neg_int q
end
section
variable {X:Cx} {a b c:Expr} {ta tb tc:TE} {pos:Pos}
theorem zoz {pins:List (Addr×Obj)} {σ:St} {H:Hp} {s:Shared} {Q:VK} {k k':Bool} (I:Inv X pins σ H s) (q:Q (.bl k) H) (e:k=k'):EP X pins σ Q (.bool k') s:=by
 subst e;exact ⟨.bl k,H,I,rfl,q⟩
theorem op_lt:gE X (compareOp .Lt) (rI0 fun i j=>.bl (decide (i<j))):=opB0 fun _ _ _ _ _ _ _ q=>lt_int q
theorem op_le:gE X (compareOp .LtE) (rI0 fun i j=>.bl (decide (i<=j))):=opB0 fun _ _ _ _ _ _ _ q=>le_int q
theorem op_gt:gE X (compareOp .Gt) (rI0 fun i j=>.bl (decide (j<i))):=opB0 fun _ _ _ _ _ _ _ q=>gt_int q
theorem op_ge:gE X (compareOp .GtE) (rI0 fun i j=>.bl (decide (j<=i))):=opB0 fun _ _ _ _ _ _ _ q=>ge_int q
theorem zhq:gE X (compareOp .In) (fun x y H Q=>∃ i j,x=.str i/\y=.str j/\Q (.bl (!(Builtin.Str.occurrences j i 0 j.length 1).isEmpty)) H):=by
 intro pins s σ H x y v u Q I rx ry h;obtain ⟨i,j,rfl,rfl,q⟩:=h;obtain ⟨t,rfl⟩:=rx;obtain ⟨t',rfl⟩:=ry;exact in_str (zoz I q rfl)
theorem zlP {op:CmpOp} {r:R2} (ho:gE X (compareOp op) r) (ha:PE X a ta) (hb:PE X b tb) (hm:behindInMarks op b=false):PE X (.Compare a [op] [b] pos) (tOp r ta tb):=by
 intro pins s σ H Q I h;exact wpAny_Compare1 (binT ha hb I h fun v u s2 x y H2 I2 rx ry q=>ho pins s2 σ H2 x y v u Q I2 rx ry q) hm
def tTest (t:TE):TT:=fun σ H Q=>t σ H fun x H'=>∃ k,x=.bl k/\Q k H'
theorem zlC {op:CmpOp} {r:R2} (ho:gE X (compareOp op) r) (ha:PE X a ta) (hb:PE X b tb) (hm:behindInMarks op b=false):PT X (.Compare a [op] [b] pos) (tTest (tOp r ta tb)):=by
 intro pins s σ H Q I h
 refine wpAny_isTrue_Compare1 (wQ (ha pins s σ H _ I h) fun v s1 ⟨x,H1,I1,r1,q1⟩=>wQ (hb pins s1 σ H1 _ I1 q1) fun u s2 ⟨y,H2,I2,r2,q2⟩ =>
  wQ (ho pins s2 σ H2 x y v u _ I2 r1 r2 q2) fun c s3 ⟨z,H3,I3,r3,k,e,q3⟩=>?_) hm
 subst e;cases r3;exact Z6 ⟨H3,I3,q3⟩
def TruV (K:PySem.W.Frag) (x:V) (H:Hp) (k:Bool):Prop :=
 match x with
 | .non=>k=false
 | .bl b=>k=b
 | .int i=>k=(i != 0)
 | .str y=>y.length<=sizeLine/\k=((y.length:Int) != 0)
 | .byt y=>y.size<=sizeLine/\k=((y.size:Int) != 0)
 | .ref p=>(∃ xs,dL K H p xs/\k=!xs.isEmpty)\/(∃ xs,gH K H p xs/\k=!xs.isEmpty)\/∃ kvs,H p=some (.dK kvs)/\k=!kvs.isEmpty
 |_=>False
theorem zf6 {κ:Type} {kvs:List (κ×V)} {vs:List (κ×Value)} (r:KV kvs vs):(!vs.isEmpty)=!kvs.isEmpty:=by
 cases r<;>rfl
theorem za2 {xs:List V} {its:List Value} (r:yV xs its):(!its.toArray.isEmpty)=!xs.isEmpty:=by
 cases r<;>simp
theorem gO:(sizeLine:Nat)<2 ^ 63:=by rw[Z5];decide
theorem zm2:TruR X (fun x H Q=>∃ k,TruV X.K x H k/\Q k H):=by
 intro pins s σ H x v Q I rx h;obtain ⟨k,e,q⟩:=h;have hl:=gO;have hs:sizeLine=16777216:=Z5
 cases x with
 |non =>
  cases rx;have e':k=false:=e;subst e';exact truthy_none ⟨H,I,q⟩
 |bl b =>
  cases rx;have e':k=b:=e;subst e';exact Z6 ⟨H,I,q⟩
 |int i =>
  obtain ⟨t,rfl⟩:=rx;have e':k=(i != 0):=e;subst e';exact PySem.P.truthy_int ⟨H,I,q⟩
 |str y =>
  obtain ⟨t,rfl⟩:=rx;obtain ⟨hy,e'⟩:y.length<=sizeLine/\k=((y.length:Int) != 0):=e;subst e';exact PySem.P.truthy_str 'd' ⟨H,I.tok _,q⟩
 |byt y =>
  obtain ⟨t,rfl⟩:=rx;obtain ⟨hy,e'⟩:y.size<=sizeLine/\k=((y.size:Int) != 0):=e;subst e';exact PySem.W.truthy_bytes 'd' ⟨H,I.tok _,q⟩
 |ref p =>
  cases rx;have e':(∃ xs,dL X.K H p xs/\k=!xs.isEmpty)\/(∃ xs,gH X.K H p xs/\k=!xs.isEmpty)\/∃ kvs,H p=some (.dK kvs)/\k=!kvs.isEmpty:=e;rcases e' with ⟨xs,hx,e'⟩|⟨xs,hx,e'⟩|⟨kvs,hx,e'⟩
  .subst e';obtain ⟨its,r,pl,hz⟩:=I.list hx;have hlen:=r.length;exact wpAny_truthy_list pl.isList (by simp only[zzS];omega) ⟨H,I.tok _,by rw[za2 r];exact q⟩
  .subst e';obtain ⟨its,r,pl,hz⟩:=I.tuple hx;have hlen:=r.length;exact truthy_tuple pl (by simp only[zzS];omega) ⟨H,I.tok _,by rw[za2 r];exact q⟩
  .subst e';obtain ⟨hz,hS,vs,r,m⟩:kvs.length<=sizeLine/\(p==sysModules)=false/\∃ vs,KV kvs vs/\s.heap.DictOf (xQ X.prog X.w) p vs:=I.hok p _ hx;have hlen:kvs.length=vs.length:=ZbO r;exact wpAny_truthy_dict hS m 'd' ⟨H,I.tok _,by rw[zf6 r];exact q⟩
 |_=>exact (show False from e).elim
theorem zjl (ha:PE X a ta) (he:∀ whole,isTrue a X.env whole=(do let v ← whole;standAt a.pos;holding [v] (truthy v))) :
  PT X a (fun σ H Q=>ta σ H fun x H'=>∃ k,TruV X.K x H' k/\Q k H'):=by
 intro pins s σ H Q I h;exact isTrue_plain (wQ (ha pins s σ H _ I h) fun v s1 ⟨x,H1,I1,r1,q1⟩=>zm2 pins s1 σ H1 x v Q I1 r1 q1) (he _)
theorem zfS:gE X (binaryOp .Add) (fun x y H Q=>∃ i j,x=.str i/\y=.str j/\i.length+j.length<=sizeLine/\Q (.str (i++j)) H):=by
 intro pins s σ H x y v u Q I rx ry h;obtain ⟨i,j,rfl,rfl,hz,q⟩:=h;obtain ⟨t,rfl⟩:=rx;obtain ⟨t',rfl⟩:=ry;exact vA I.tk (add_str (fun t' tk h0=>⟨.str (i++j),H,I.tok _ h0,⟨_,rfl⟩,q⟩) hz)
theorem qI {x:V} {us:List Value} (r:yV [x] us):∃ u,us=[u]/\yR x u:=by
 cases r with
 |cons r1 r2=>cases r2;exact ⟨_,rfl,r1⟩
theorem zld {x y:V} {us:List Value} (r:yV [x,y] us):∃ u w',us=[u,w']/\yR x u/\yR y w':=by
 cases r with
 |cons r1 r2 =>
  cases r2 with
  |cons r3 r4=>cases r4;exact ⟨_,_,rfl,r1,r3⟩
theorem ziA (hc:X.calm=true):jG X (.builtin "max") (fun xs H Q=>∃ i j,xs=[.int i,.int j]/\Q (.int (if j > i then j else i)) H):=by
 intro pins s σ H xs us Q I r h;obtain ⟨i,j,rfl,q⟩:=h;obtain ⟨u,w',rfl,⟨t,rfl⟩,⟨t',rfl⟩⟩:=zld r;refine vA I.tk (max_two_ints (I.ok.hd hc) fun h' tk k h0=>⟨_,H,I.kept k h0,?_,q⟩)
 by_cases hj:j > i
 .rw[if_pos hj,if_pos hj];exact ⟨_,rfl⟩
 .rw[if_neg hj,if_neg hj];exact ⟨_,rfl⟩
theorem zdi:jG X (.type "int") (fun xs H Q=>(∃ i,xs=[.int i]/\Q (.int i) H)\/∃ k,xs=[.bl k]/\Q (.int (if k then 1 else 0)) H):=by
 intro pins s σ H xs us Q I r h;rcases h with ⟨i,rfl,q⟩|⟨k,rfl,q⟩
 .obtain ⟨u,rfl,t,rfl⟩:=qI r;exact call_int_int ⟨.int i,H,I,⟨_,rfl⟩,q⟩
 .obtain ⟨u,rfl,r1⟩:=qI r;cases r1;exact call_int_bool ⟨.int (if k then 1 else 0),H,I.tok _,⟨_,rfl⟩,q⟩
end
end L2
namespace L2
open PySem PySem.Spec PyProof.Rows
structure ObjM (h:Heap) (x dx C:Addr) (mA:Str->Option Value):Prop where
 obj:h.get? x=some (PySem.W.instObj C dx)
 ns:h.Ns1 dx mA
 ne:dx≠x
theorem zhJ {h:Heap} {dx:Addr} {mA:Str->Option Value} (n:h.Ns1 dx mA):∃ od,h.get? dx=some od/\∀ name,PySem.W.lookIn name od=some (mA name):=by
 obtain ⟨o,es,ep,ho,hd,hk,_,hm⟩:=n;refine ⟨o,ho,fun name=>?_⟩;have e:=hm name;unfold nsFind findBy at e;rw[← Array.find?_toList] at e;unfold PySem.W.lookIn;rw[hd];dsimp only
 split
 .rename_i y q;rw[q] at e;exact congrArg some e
 .rename_i q;rw[q] at e
  have a:es.toList.any (·.refKey)=false:=by
   rw[List.any_eq_false];intro y hy;obtain ⟨z,t,hkey⟩:=hk y (Array.mem_toList_iff.mp hy);simp[DictEntry.refKey,hkey]
  have a':¬ es.toList.any (·.refKey)=true:=by rw[a];exact zzN
  rw[if_neg a'];exact congrArg some e
theorem ObjM.look {h:Heap} {x dx C:Addr} {mA:Str->Option Value} (I:ObjM h x dx C mA):∃ od,PySem.W.InstAt h x (PySem.W.instObj C dx) C (some od)/\∀ name,PySem.W.lookIn name od=some (mA name) :=
 let ⟨od,ho,hl⟩:=zhJ I.ns
 ⟨od,⟨I.obj,rfl,rfl,ho⟩,hl⟩
section
variable {prog:Program} {w:World} {A:Around} {E:Value->Shared->Prop} {s:Shared} {K:PySem.W.Frag} {x dx C f:Addr} {mA:Str->Option Value} {name:Str} {v:Value}
theorem zmr {expr:Bool} {Q:Value->Shared->Prop} (X:K.In s.heap) (I:ObjM s.heap x dx C mA) (hg:PySem.W.plainGet K C name=true) (hh:PySem.W.hasDictIn K C=true)
  (ha:PySem.W.findIn K (.ref C) name=some none) (hv:mA name=some v) (hv':PySem.W.handedIn v=true) (h:Q v { s with toks:=s.toks+1 }) :
  wpAny (model prog w) A (getAttr (.ref x) name expr) Q E s:=by
 obtain ⟨od,J,hl⟩:=I.look;exact PySem.W.get_value X J (PySem.W.plainGet_of hg).1 (PySem.W.findObj_own hh ha rfl (by rw[hl,hv])) hv' h
theorem zlq {ns:List Str} {Q:Unit->Shared->Prop} (X:K.In s.heap) (I:ObjM s.heap x dx C mA)
  (hs:PySem.W.findIn K (.ref C) "__setattr__" = some (some (.builtin "object.__setattr__"))) (hp:PySem.W.plainOver K C=true) (ht:PySem.W.takerIn K C name=some none) (hh:PySem.W.hasDictIn K C=true)
  (hw:PySem.Within mA ns) (hsz:ns.length<=sizeLine)
  (h:∀ h',ObjM h' x dx C (fun y=>if y=name then some v else mA y)->Heap.SameBut dx s.heap h'->Q () { s with heap:=h',toks:=s.toks+2 }) :
  wpAny (model prog w) A (setAttr (.ref x) name v) Q E s:=by
 obtain ⟨od,J,hl⟩:=I.look;refine PySem.W.set_plain X J hs (PySem.W.osa_open (s:={ s with toks:=s.toks+1 }) (r:=none) X J hp ht fun b=>?_);obtain ⟨cd,hc,hd'⟩:=PySem.W.any_some hh;have hx:s.heap.get? x=some ⟨.ref C,some dx,.plain,#[]⟩:=I.obj;refine Za (Zh (Za (Za (wpAny_loadPart hx (Za (PySem.W.Looks.here (s:={ s with toks:=s.toks+1 }) (PySem.W.looks_clsIn X hc) ?_))))));rw[hd'];refine Zh (a:=some dx) (Za (Zh (Za ?_)));refine wpAny_nsSet1 (s:={ s with toks:=s.toks+1 }) I.ns fun h' hn2 hs2=>?_;obtain ⟨oD,esD,epD,hoD,hdD,hcD⟩:=hn2.count (PySem.Within.cons name v hw);refine Za (wpAny_lookBehind hoD (by rw[hdD];exact pastItsLine_dict (Zb hcD (by rw[Ze];omega))) ?_);exact Zh (h _ ⟨(hs2.2 _ (Ne.symm I.ne)).trans I.obj,hn2,I.ne⟩ hs2)
theorem zjG {R:Result->Shared->Prop} {vs:List Value} {kw:List (Str×Value)} (X:K.In s.heap) (hm:PySem.W.makesIn K C=true)
  (hi:PySem.W.findIn K (.ref C) "__init__" = some (f⁻¹)) (hf:PySem.W.typeIn K (.ref f)=some (.type "function"))
  (h:codeAny (model prog w) (A.under (.builtin "type.__call__" ⟨.ref C::vs,kw⟩)) (.call (.ref f) ⟨.ref (s.heap.objs.size+1)::vs,kw⟩) (PySem.W.InitBack (s.heap.objs.size+1) R)
   { s with heap:=(s.heap.push PySem.W.emptyDict).push (PySem.W.instObj C s.heap.objs.size) }) :
  codeAny (model prog w) A (.call (.ref C) ⟨vs,kw⟩) R s:=by
 obtain ⟨hh,g,d,t,os⟩:=s;exact PySem.W.make_core (PySem.W.makes_of X hm) (PySem.W.looks_findIn X hi) (fun self=>PySem.W.bind_fn X self hf) (.inl rfl) h
end
def sN (f:Str) (v:V):List (Str×V)->List (Str×V)
 | []=>[(f,v)]
 | (g,x)::r=>if g=f then (g,v)::r else (g,x)::sN f v r
theorem bI (f g:Str) (v:V):∀ fs:List (Str×V),(sN f v fs).lookup g=if g=f then some v else fs.lookup g
 | []=>by
  show List.lookup g [(f,v)]=_
  by_cases h:g=f
  .have hb:(g==f)=true:=beq_iff_eq.mpr h;simp only[List.lookup,hb,if_pos h]
  .have hb:(g==f)=false:=beq_eq_false_iff_ne.mpr h;simp only[List.lookup,hb,if_neg h]
 | (k,x)::r=>by
  have ih:=bI f g v r;rw[show sN f v ((k,x)::r)=(if k=f then (k,v)::r else (k,x)::sN f v r) from rfl]
  by_cases hk:k=f
  .rw[if_pos hk]
   by_cases h:g=k
   .have hb:(g==k)=true:=beq_iff_eq.mpr h;simp only[List.lookup,hb,if_pos (h.trans hk)]
   .have hb:(g==k)=false:=beq_eq_false_iff_ne.mpr h;simp only[List.lookup,hb,if_neg (fun e:g=f=>h (e.trans hk.symm))]
  .rw[if_neg hk]
   by_cases h:g=k
   .have hb:(g==k)=true:=beq_iff_eq.mpr h;simp only[List.lookup,hb,if_neg (fun e:g=f=>hk (h.symm.trans e))]
   .have hb:(g==k)=false:=beq_eq_false_iff_ne.mpr h;simp only[List.lookup,hb];exact ih
theorem cK (f:Str) (v:V):∀ fs:List (Str×V),f∈(sN f v fs).map (·.1)/\∀ g,g∈fs.map (·.1)->g∈(sN f v fs).map (·.1)
 | []=>⟨by simp[sN],fun g h=>by simp at h⟩
 | (k,x)::r=>by
  obtain ⟨i1,i2⟩:=cK f v r;rw[show sN f v ((k,x)::r)=(if k=f then (k,v)::r else (k,x)::sN f v r) from rfl]
  by_cases hk:k=f
  .rw[if_pos hk];subst hk;exact ⟨by simp,fun g h=>by simpa using h⟩
  .rw[if_neg hk];refine ⟨?_,fun g h=>?_⟩
   .rw[zzU];exact Zd _ i1
   .rw[zzU] at h ⊢;rcases Zk.mp h with e|e
    .exact Zk.mpr (.inl e)
    .exact Zd _ (i2 g e)
theorem bG (f:Str) (v:V):∀ fs:List (Str×V),(sN f v fs).length<=fs.length+1
 | []=>by simp[sN]
 | (k,x)::r=>by
  have ih:=bG f v r;rw[show sN f v ((k,x)::r)=(if k=f then (k,v)::r else (k,x)::sN f v r) from rfl]
  by_cases hk:k=f
  .rw[if_pos hk,Ze,Ze];omega
  .rw[if_neg hk,Ze,Ze];omega
theorem gG.some_of {v:V} {o:Option Value} (r:gG (some v) o):∃ u,o=some u/\yR v u:=by
 cases o with
 |none=>exact (show False from r).elim
 |some u=>exact ⟨u,rfl,r⟩
theorem zh3 {v:V} {u:Value} (r:yR v u):PySem.W.handedIn u=true:=by
 cases v with
 |non=>cases (show u=Value.none from r);rfl
 |bl b=>cases (show u=Value.bool b from r);rfl
 |int i=>obtain ⟨t,e⟩:=(show ∃ t,u=Value.int i t from r);cases e;rfl
 |str x=>obtain ⟨t,e⟩:=(show ∃ t,u=Value.str x t from r);cases e;rfl
 |byt b=>obtain ⟨t,e⟩:=(show ∃ t,u=Value.bytes b t from r);cases e;rfl
 |flt b=>obtain ⟨t,e⟩:=(show ∃ t,u=Value.float b t from r);cases e;rfl
 |ref a=>cases (show u=Value.ref a from r);rfl
 |ty n=>cases (show u=Value.type n from r);rfl
section
variable {P:Program} {w:World} {H H':Hp} {h h':Heap} {a C dx:Addr} {fs fs':List (Str×V)}
theorem zhZ (hok:nA P w H h) (e:H a=some (.ins C dx fs)):∃ mA,ObjM h a dx C mA/\(∀ f,gG (fs.lookup f) (mA f))/\PySem.Within mA (fs.map (·.1))/\fs.length<=1000/\H dx=some (.own a):=by
 obtain ⟨d,z,ne,ob,mA,n,r,q⟩:=(show wY P w H h a (.ins C dx fs) from hok a _ e);exact ⟨mA,⟨ob,n,ne⟩,r,q,z,d⟩
end
structure Cls (K:PySem.W.Frag) (C:Addr):Prop where
 pg:PySem.W.plainGet K C Str.empty=true
 hd:PySem.W.hasDictIn K C=true
 po:PySem.W.plainOver K C=true
 sa:PySem.W.findIn K (.ref C) "__setattr__" = some (some (.builtin "object.__setattr__"))
theorem Cls.get {K:PySem.W.Frag} {C:Addr} (c:Cls K C) (f:Str):PySem.W.plainGet K C f=true:=c.pg
def rP (K:PySem.W.Frag) (C:Addr) (f:Str):Prop:=PySem.W.findIn K (.ref C) f=some none
theorem rP.taker {K:PySem.W.Frag} {C:Addr} {f:Str} (n:rP K C f):PySem.W.takerIn K C f=some none:=by
 unfold PySem.W.takerIn;rw[show PySem.W.findIn K (.ref C) f=some none from n];rfl
section
variable {X:Cx} {pins:List (Addr×Obj)} {σ:St} {H:Hp} {s:Shared} {a C dx:Addr} {fs:List (Str×V)} {f:Str} {v:V} {A:Around} {E:Value->Shared->Prop}
theorem zf8 {b:Bool} {Q:Value->Shared->Prop} (I:Inv X pins σ H s) (e:H a=some (.ins C dx fs)) (c:Cls X.K C) (n:rP X.K C f) (l:fs.lookup f=some v)
  (h:∀ u s',Inv X pins σ H s'->yR v u->Q u s'):wpAny 'f' A (getAttr (.ref a) f b) Q E s:=by
 obtain ⟨mA,O,r,_,_,_⟩:=zhZ I.hok e;obtain ⟨u,hu,ru⟩:=gG.some_of (v:=v) (o:=mA f) (by rw[← l];exact r f);exact zmr I.kIn O (c.get f) c.hd n hu (zh3 ru) (h u _ (I.tok _) ru)
theorem zfF {y:V} {u:Value} {Q:Unit->Shared->Prop} (I:Inv X pins σ H s) (e:H a=some (.ins C dx fs)) (c:Cls X.K C) (n:rP X.K C f) (hl:fs.length<1000) (ry:yR y u)
  (h:∀ s',Inv X pins σ (xM H a (.ins C dx (sN f y fs))) s'->Q () s'):wpAny 'f' A (setAttr (.ref a) f u) Q E s:=by
 obtain ⟨mA,O,r,wi,_,ho⟩:=zhZ I.hok e;have hz:(fs.map (·.1)).length<=sizeLine:=by rw[zzM,Z5];omega
 refine zlq I.kIn O c.sa c.po n.taker c.hd wi hz fun h' O' sb=>h _ ?_;have hd:∃ o,h'.get? dx=some o:=let ⟨o,_,_,e',_⟩:=O'.ns;⟨o,e'⟩;refine I.write (x:=a) (e:=dx) (by rw[e];exact True.intro) (.inr ho) (fun b q hb z=>(sb.2 b hb).trans z) hd ?_;refine ⟨by rw[yS O.ne];exact ho,?_,O.ne,O'.obj,_,O'.ns,fun g=>?_,fun g hg=>?_⟩
 .have:=bG f y fs;omega
 .show gG ((sN f y fs).lookup g) (if g=f then some u else mA g);rw[bI]
  by_cases q:g=f
  .rw[if_pos q,if_pos q];exact ry
  .rw[if_neg q,if_neg q];exact r g
 .by_cases q:g=f
  .rw[q];exact (cK f y fs).1
  .refine (cK f y fs).2 g (wi g fun z=>hg ?_);show (if g=f then some u else mA g)=none;rw[if_neg q];exact z
theorem Inv.made (I:Inv X pins σ H s):Inv X pins σ (xM (xM H s.heap.objs.size (.own (s.heap.objs.size+1))) (s.heap.objs.size+1) (.ins C s.heap.objs.size []))
  { s with heap:=(s.heap.push PySem.W.emptyDict).push (PySem.W.instObj C s.heap.objs.size) }:=by
 have e1:(s.heap.push PySem.W.emptyDict).get? s.heap.objs.size=some PySem.W.emptyDict:=Zq s.heap rfl
 have e2:((s.heap.push PySem.W.emptyDict).push (PySem.W.instObj C s.heap.objs.size)).get? (s.heap.objs.size+1)=some (PySem.W.instObj C s.heap.objs.size):=by
  have:=Zq (s.heap.push PySem.W.emptyDict) (o:=PySem.W.instObj C s.heap.objs.size) rfl
  rwa[Z7] at this
 have e3:(s.heap.push PySem.W.emptyDict).Ns s.heap.objs.size (fun _=>none):=⟨PySem.W.emptyDict,#[],_,e1,rfl,(fun e he=>absurd he 'g'),fun _=>rfl⟩;have I1:=I.laid (a:=s.heap.objs.size) (o:=.own (s.heap.objs.size+1)) (h':=s.heap.push PySem.W.emptyDict) (t':=s.toks) (fun b u q=>Zc _ q) (zzR _) ⟨_,e1⟩;refine I1.laid (a:=s.heap.objs.size+1) (o:=.ins C s.heap.objs.size []) (t':=s.toks) (fun b u q=>Zc _ q) (Nat.le_of_eq (Z7 _ _)) ?_;have ne:s.heap.objs.size≠s.heap.objs.size+1:=Zr (Zai _);refine ⟨by rw[yS ne,wC],Zg _,ne,e2,fun _=>none,(Heap.Ns1.of_empty e3).at fun o q=>Zc _ q,fun _=>True.intro,fun y hy=>absurd rfl hy⟩
theorem zmS {prog:Program} {w:World} {env:Env} {e:Expr} {f:Str} {pos:Pos} {s:Shared} {Q:Value->Shared->Prop} (hb:attributeBase e f env (eval e env)=eval e env)
  (h:wpAny (model prog w) A (eval e env) (fun o s₁=>wpAny (model prog w) A (getAttr o f true) Q E s₁) E s):wpAny (model prog w) A (eval (.Attribute e f pos) env) Q E s :=
 Attribute_any_ h (by rw[arm_eval_Attribute,hb])
end
def tFld (K:PySem.W.Frag) (ta:TE) (f:Str):TE:=fun σ H Q=>ta σ H fun x H1=>∃ a C dx fs v,x=.ref a/\H1 a=some (.ins C dx fs)/\Cls K C/\rP K C f/\fs.lookup f=some v/\Q v H1
def sFld (K:PySem.W.Frag) (ta tv:TE) (f:Str):TS:=fun D σ H=>tv σ H fun y H1=>ta σ H1 fun x H2=>∃ a C dx fs,x=.ref a/\H2 a=some (.ins C dx fs)/\Cls K C/\rP K C f/\fs.length<1000 /\
 D.nx σ (xM H2 a (.ins C dx (sN f y fs)))
section
variable {X:Cx} {o e value:Expr} {f:Str} {pos pos' tpos:Pos} {ta tv:TE}
theorem znP (he:PE X e ta) (hb:attributeBase e f X.env (eval e X.env)=eval e X.env):PE X (.Attribute e f pos) (tFld X.K ta f):=by
 intro pins s σ H Q I h;refine zmS hb (wQ (he pins s σ H _ I h) fun u s1 ⟨x,H1,I1,rx,a,C,dx,fs,v,ex,ea,c,n,l,q⟩=>?_);subst ex;obtain rfl:u=Value.ref a:=rx;exact zf8 I1 ea c n l fun u' s2 I2 ru=>⟨v,H1,I2,ru,q⟩
theorem znE (ha:PE X o ta) (hv:PE X value tv) (hs:swapsWith value (some (.Attribute o f pos')) pos.line X.env=pure false):PS X (.Assign [.Attribute o f pos'] value pos) (sFld X.K ta tv f):=by
 intro pins s σ H D I h;refine plainObj_wpAny_Assign_Attribute (wQ (hv pins s σ H _ I h) fun u s1 ⟨y,H1,I1,ry,q⟩=>wQ (ha pins s1 σ H1 _ I1 q) fun ov s2 ⟨x,H2,I2,rx,a,C,dx,fs,ex,ea,c,n,l,q2⟩=>?_) hs;subst ex;obtain rfl:ov=Value.ref a:=rx;exact zfF I2 ea c n l ry fun s3 I3=>⟨σ,_,I3,q2⟩
end
section
variable {X:Cx} {pins:List (Addr×Obj)} {σ:St} {H:Hp} {s:Shared} {A:Around} {E:Value->Shared->Prop} {Q:Value->Shared->Prop} {c:Value} {b:Bool}
end
end L2
namespace L2
open PySem PySem.Spec PyProof.Rows
structure Room (k:Nat) (A:Around):Prop where
 gd:A.guards=some []
 hd:A.handled=none
 dp:A.depth+3 * k+5<recursionLimit
 un:A.units+16 * k+200<cLine
theorem Room.mono {j k:Nat} {A:Around} (r:Room k A) (h:j<=k):Room j A:=⟨r.gd,r.hd,by have:=r.dp;omega,by have:=r.un;omega⟩
theorem Room.deeper {k:Nat} {A:Around} (r:Room (k+1) A) (env:Env):Room k (A.deeper env) :=
 ⟨r.gd,r.hd,by have:=r.dp;show A.depth+1+3 * k+5<_;omega,by have:=r.un;show A.units+3+16 * k+200<_;omega⟩
theorem zfX {A:Around} {C:Addr} {us:List Value} {kw:List (Str×Value)}:(A.under (.builtin "type.__call__" ⟨.ref C::us,kw⟩)).depth=A.depth+1:=by
 first|rfl|simp[Around.under,Code.weight,Code.isCreation,Code.isGuard,Code.isCaller,Code.frames,Code.isFrame,guardIds]
theorem zfW {A:Around} {C:Addr} {us:List Value} {kw:List (Str×Value)}:(A.under (.builtin "type.__call__" ⟨.ref C::us,kw⟩)).units=A.units+1:=by
 first|rfl|simp[Around.under,Code.cUnits,Code.frames,Code.isFrame]
theorem zl2 {A:Around} {C:Addr} {us:List Value} {kw:List (Str×Value)}:(A.under (.builtin "type.__call__" ⟨.ref C::us,kw⟩)).guards=A.guards:=by
 first|rfl|simp[Around.under,Code.guards,Code.isGuard,guardIds,pushGuards]
theorem Room.make {k:Nat} {A:Around} (r:Room (k+1) A) (C:Addr) (us:List Value) (kw:List (Str×Value)):Room k (A.under (.builtin "type.__call__" ⟨.ref C::us,kw⟩)) :=
 ⟨(zl2).trans r.gd,r.hd,by have:=r.dp;rw[zfX];omega,by have:=r.un;rw[zfW];omega⟩
theorem Room.depth {k:Nat} {A:Around} (r:Room k A):A.depth<recursionLimit:=by have:=r.dp;omega
def tNil:TA:=fun _ H Q=>Q [] H
def tCons (ta:TE) (tr:TA):TA:=fun σ H Q=>ta σ H fun x H1=>tr σ H1 fun xs H2=>Q (x::xs) H2
section
variable {X:Cx} {e:Expr} {es:List Expr} {te:TE} {t:TA} {pos:Pos}
theorem zkN:PA X [] tNil:=fun _ _ _ _ H Q I h=>Calls.spliced_nil ⟨[],H,I,.nil,h⟩
theorem zhm (ha:PE X e te) (hr:PA X es t) (hs:starEach (e::es) X.env=(false,eval e X.env)::starEach es X.env:=by rfl):PA X (e::es) (tCons te t):=by
 intro pos pins s σ H Q I h;rw[hs];show wpAny _ _ (spliced ((false,eval e X.env)::backTo pos (starEach es X.env))) _ _ s;refine Calls.spliced_cons (wQ (ha pins s σ H _ I h) fun u s1 ⟨x,H1,I1,r1,q1⟩=>?_);exact wQ (hr pos pins s1 σ H1 _ I1 q1) fun us s2 ⟨xs,H2,I2,r2,q2⟩=>⟨x::xs,H2,I2,.cons r1 r2,q2⟩
def tTup (t:TA):TE:=fun σ H Q=>t σ H fun xs H1=>xs.length<=sizeLine/\∀ p,H1 p=none->Q (.ref p) (xM H1 p (.tup xs))
def tLst (t:TA):TE:=fun σ H Q=>t σ H fun xs H1=>xs.length<=sizeLine/\∀ p,H1 p=none->Q (.ref p) (xM H1 p (.lst xs))
theorem znK {x1} (h:PA X es t):PE X (.Tuple es x1 pos) (tTup t):=by
 intro pins s σ H Q I hq;refine wpAny_Tuple_spliced (wQ (h pos pins s σ H _ I hq) fun us s1 ⟨xs,H1,I1,r,z,q⟩=>⟨by rw[← r.length];exact z,?_⟩);have hf:H1 s1.heap.objs.size=none:=I1.hok.fresh (zzR _);refine ⟨.ref s1.heap.objs.size,xM H1 s1.heap.objs.size (.tup xs),I1.laid (t':=s1.toks) (fun b u e=>Zc _ e) (zzR _) ?_,rfl,q _ hf⟩;exact ⟨z,us,r,⟨_,Zq _ rfl,rfl,_,rfl⟩⟩
theorem znO (h:PA X es t):PE X (.List es pos) (tLst t):=by
 intro pins s σ H Q I hq;refine wpAny_List_spliced (wQ (h pos pins s σ H _ I hq) fun us s1 ⟨xs,H1,I1,r,z,q⟩=>⟨by rw[← r.length];exact z,?_⟩);have hf:H1 s1.heap.objs.size=none:=I1.hok.fresh (zzR _);refine ⟨.ref s1.heap.objs.size,xM H1 s1.heap.objs.size (.lst xs),I1.laid (t':=s1.toks) (fun b u e=>Zc _ e) (zzR _) ?_,rfl,q _ hf⟩;exact ⟨z,us,0,r,Zq _ rfl⟩
end
abbrev Sp:=List V->Hp->VK->XK->Prop
abbrev CXT:=List Env->Hp->Shared->XK->Value->Shared->Prop
structure Env0 (P:Program) (w:World) (K:PySem.W.Frag) (mg:Str->Option Value) (base:Heap) (A:Around) (outer:List Env) (s:Shared) (H:Hp):Prop where
 frames:A.frames=some outer
 mod:Mod K mg base
 bs:∀ b o,base.get? b=some o->s.heap.get? b=some o/\H b=none
 bsz:base.objs.size<=s.heap.objs.size
 funs:s.heap.FunFrames base outer
 frf:∀ b∈frs outer,H b=none
 hok:nA P w H s.heap
 bare:AllBare s.gens
 tk:0<s.toks
def CE (outer:List Env) (P:Program) (w:World) (H:Hp) (s:Shared) (Q:VK) (u:Value) (s':Shared):Prop :=
 ∃ v H',s'.os=s.os/\0<s'.toks/\AllBare s'.gens/\Un (frs outer) [] H H' s.heap s'.heap/\nA P w H' s'.heap/\yR v u/\Q v H'
def CR (CX:CXT) (outer:List Env) (P:Program) (w:World) (H:Hp) (s:Shared) (Q:VK) (E:XK) (r:Result) (s':Shared):Prop :=
 match r with
 | .ok (.ret u)=>CE outer P w H s Q u s'
 | .ok _=>False
 | .error e=>CX outer H s E e s'
structure FnOk (P:Program) (w:World) (K:PySem.W.Frag) (mg:Str->Option Value) (base:Heap) (CX:CXT) (k:Nat) (f:Addr) (fd:FuncData) (ps:List Str) (sp:Sp):Prop where
 len:∀ vs H Q E,sp vs H Q E->vs.length=ps.length
 run:∀ (A:Around) (outer:List Env) (s:Shared) (H:Hp) (args:Args) (us:List Value) (vs:List V) (Q:VK) (E:XK),Room k A->Env0 P w K mg base A outer s H->BindsTo s fd args (ps.zip us)->yV vs us->sp vs H Q E ->
  codeAny (model P w) A (.call (.ref f) args) (CR CX outer P w H s Q E) s
 one:∀ (x:Str),ps=[x]->fd.scope.names.lookup x=some .local->∀ (A:Around) (outer:List Env) (s:Shared) (H:Hp) (args:Args) (us:List Value) (vs:List V) (Q:VK) (E:XK),Room k A->Env0 P w K mg base A outer { s with toks:=1 } H->BindsTo s fd args (ps.zip us)->yV vs us->sp vs H Q E ->
  codeAny (model P w) A (.call (.ref f) args) (CR CX outer P w H s Q E) s
theorem FnOk.mono {P:Program} {w:World} {K:PySem.W.Frag} {mg:Str->Option Value} {base:Heap} {CX:CXT} {j k:Nat} {f:Addr} {fd:FuncData} {ps:List Str} {sp:Sp} (F:FnOk P w K mg base CX j f fd ps sp) (h:j<=k) :
  FnOk P w K mg base CX k f fd ps sp:=⟨F.len,fun A outer s H args us vs Q E hr=>F.run A outer s H args us vs Q E (hr.mono h),fun x e l A outer s H args us vs Q E hr=>F.one x e l A outer s H args us vs Q E (hr.mono h)⟩
theorem Env0.make {P:Program} {w:World} {K:PySem.W.Frag} {mg:Str->Option Value} {base:Heap} {A:Around} {outer:List Env} {s:Shared} {H:Hp} (e:Env0 P w K mg base A outer s H) (C:Addr) (us:List Value) (kw:List (Str×Value)) :
  Env0 P w K mg base (A.under (.builtin "type.__call__" ⟨.ref C::us,kw⟩)) outer s H:=⟨by first|exact e.frames|(simpa[Around.under,Code.envs,Code.isFrame,pushEnvs] using e.frames),e.mod,e.bs,e.bsz,e.funs,e.frf,e.hok,e.bare,e.tk⟩
section
variable {X:Cx} {pins:List (Addr×Obj)} {σ:St} {H:Hp} {s s':Shared}
theorem Inv.env0 (I:Inv X pins σ H s):Env0 X.prog X.w X.K X.mg X.base X.A X.stack s H :=
 ⟨I.ok.frames,I.ok.mod,I.bs,Zb I.ok.bsz I.sz,I.stack,I.stkFree,I.hok,I.bare,I.tk⟩
theorem Inv.after {Q:VK} {u:Value} (I:Inv X pins σ H s) (h:CE X.stack X.prog X.w H s Q u s'):EP X pins σ Q u s':=by
 obtain ⟨v,H',os,tk,bare,un,hok,r,q⟩:=h;obtain ⟨hh,g,d,t,os'⟩:=s';obtain rfl:os'=s.os:=os;exact ⟨v,H',I.call (h':=hh) (g':=g) (d':=d) (t':=t) (ch:=[]) un hok bare (fun b z=>absurd z 'g') tk,r,q⟩
end
def zlj (sp:Sp) (dvs:List V) (E:XK) (t:TA):TE:=fun σ H Q=>t σ H fun vs H1=>sp (vs++dvs) H1 Q E
def znc (C:Addr) (sp:Sp) (dvs:List V) (E:XK) (t:TA):TE:=fun σ H Q=>t σ H fun vs H1=>∀ x dx,H1 x=none->H1 dx=none->dx≠x ->
 sp (.ref x::(vs++dvs)) (xM (xM H1 dx (.own x)) x (.ins C dx [])) (fun v H2=>v=.non/\Q (.ref x) H2) E
def vL (K:PySem.W.Frag) (fd:FuncData) (ps:List Str) (ds:List Value):Prop :=
 ∀ (s:Shared) (us:List Value),K.In s.heap->(us++ds).length=ps.length->BindsTo s fd ⟨us,[]⟩ (ps.zip (us++ds))
theorem vL.all {K:PySem.W.Frag} {fd:FuncData} {ps:List Str} (h:∀ us:List Value,us.length=ps.length->bindArgs fd ⟨us,[]⟩=pure (ps.zip us)):vL K fd ps []:=fun s us _ hl=>by
 rw[Zv] at hl ⊢;exact .of_eq (h us hl)
def gF (CX:CXT) (X:Cx) (E:XK):Prop:=∀ (pins:List (Addr×Obj)) (σ:St) (H:Hp) (s:Shared) (e:Value) (s':Shared),Inv X pins σ H s->CX X.stack H s E e s'->X.xe e s'
section
variable {X:Cx} {CX:CXT} {k:Nat} {f C:Addr} {fd:FuncData} {ps:List Str} {sp:Sp} {dvs:List V} {ds:List Value} {E:XK} {x m:Str} {p pos apos:Pos} {e o:Expr} {es:List Expr} {ta:TE} {t:TA}
theorem zg0 {pins:List (Addr×Obj)} {σ:St} {H:Hp} {s:Shared} {Q:VK} {us:List Value} {vs:List V} (F:FnOk X.prog X.w X.K X.mg X.base CX k f fd ps sp) (hr:Room k X.A) (hb:vL X.K fd ps ds) (hd:yV dvs ds) (hx:gF CX X E)
  (I:Inv X pins σ H s) (r:yV vs us) (h:sp (vs++dvs) H Q E):wpAny 'f' X.A (call (.ref f) us) (EP X pins σ Q) X.xe s:=by
 have r2:yV (vs++dvs) (us++ds):=r.append hd;have hl:(us++ds).length=ps.length:=by rw[← r2.length];exact F.len _ _ _ _ h
 refine wpAny_call (Zb1 (F.run X.A X.stack s H ⟨us,[]⟩ (us++ds) (vs++dvs) Q E hr I.env0 (hb s us I.kIn hl) r2 h) fun r s' hq=>?_)
 cases r with
 |error e=>exact hx pins σ H s e s' I hq
 |ok fl =>
  cases fl with
  |ret u=>exact I.after hq
  |next=>exact False.elim hq
  |brk=>exact False.elim hq
  |cont=>exact False.elim hq
theorem zlQ (F:FnOk X.prog X.w X.K X.mg X.base CX k f fd ps sp) (hr:Room k X.A) (hg:Gl X x) (hm:X.mg x=f⁻¹) (hk:PySem.W.keepIn X.K (.ref f)=true) (hb:vL X.K fd ps ds) (hd:yV dvs ds) (hx:gF CX X E)
  (ha:PA X (e::es) t) (hdb:(x==("__debug__" : Str))=false:=by decide) (he:starEach (e::es) X.env=(false,eval e X.env)::starEach es X.env:=by rfl) (hpl:(backTo pos (starEach es X.env)).any (·.1)=false:=by rfl) :
  PE X (.Call (.Name x p) (e::es) [] pos) (zlj sp dvs E t):=by
 intro pins s σ H Q I h;refine ZQ (fK I hg hm ?_ hdb);refine PySem.W.callWith_K (h₀:=X.base) I.ok.mod.kin hk (wQ (ha pos pins s σ H _ I h) fun us s1 ⟨vs,H1,I1,r,q⟩=>⟨I1.kIn,?_⟩) he hpl;exact zg0 F hr hb hd hx I1 r q
theorem zjB (F:FnOk X.prog X.w X.K X.mg X.base CX k f fd ps sp) (hr:Room k X.A) (hg:Gl X x) (hm:X.mg x=f⁻¹) (hk:PySem.W.keepIn X.K (.ref f)=true) (hb:vL X.K fd ps ds) (hd:yV dvs ds) (hx:gF CX X E)
  (hdb:(x==("__debug__" : Str))=false:=by decide):PE X (.Call (.Name x p) [] [] pos) (zlj sp dvs E tNil):=by
 intro pins s σ H Q I h;refine ZQ (fK I hg hm ?_ hdb);exact PySem.W.callWith_K0 I.kIn hk (zg0 (us:=[]) F hr hb hd hx I .nil h)
structure Mk (K:PySem.W.Frag) (C f:Addr):Prop where
 makes:PySem.W.makesIn K C=true
 init:PySem.W.findIn K (.ref C) "__init__" = some (f⁻¹)
 fn:PySem.W.isFn K (.ref f)=true
 kp:PySem.W.keepIn K (.ref C)=true
theorem zeT {pins:List (Addr×Obj)} {σ:St} {H:Hp} {s:Shared} {Q:VK} {us:List Value} {vs:List V} (M:Mk X.K C f) (F:FnOk X.prog X.w X.K X.mg X.base CX k f fd ps sp) (hr:Room (k+1) X.A) (hb:vL X.K fd ps ds) (hd:yV dvs ds)
  (hx:gF CX X E) (I:Inv X pins σ H s) (r:yV vs us)
  (h:∀ x dx,H x=none->H dx=none->dx≠x->sp (.ref x::(vs++dvs)) (xM (xM H dx (.own x)) x (.ins C dx [])) (fun v H2=>v=.non/\Q (.ref x) H2) E) :
  wpAny 'f' X.A (call (.ref C) us) (EP X pins σ Q) X.xe s:=by
 have hq:=h (s.heap.objs.size+1) s.heap.objs.size (I.hok.fresh (ZbN _)) (I.hok.fresh (zzR _)) (Zr (Zai _));have I2:=Inv.made (C:=C) I;have r2:yV (V.ref (s.heap.objs.size+1)::(vs++dvs)) (Value.ref (s.heap.objs.size+1)::(us++ds)):=.cons rfl (r.append hd)
 have hl:(Value.ref (s.heap.objs.size+1)::us++ds).length=ps.length:=by
  have e:=r2.length;rw[F.len _ _ _ _ hq] at e;exact e.symm
 refine wpAny_call (zjG (f:=f) I.kIn M.makes M.init (beq_iff_eq.mp M.fn) (Zb1 (F.run _ X.stack _ _ ⟨Value.ref (s.heap.objs.size+1)::us,[]⟩ (Value.ref (s.heap.objs.size+1)::(us++ds)) _ _ E (hr.make C us [])
  (I2.env0.make C us []) (hb _ (Value.ref (s.heap.objs.size+1)::us) I2.kIn hl) r2 hq) fun r s' hq'=>?_))
 cases r with
 |error e=>exact hx pins σ _ _ e s' I2 hq'
 |ok fl =>
  cases fl with
  |ret u =>
   obtain ⟨v,H',I3,rv,ev,q3⟩:=I2.after hq';subst ev;exact ⟨rv,⟨V.ref (s.heap.objs.size+1),H',I3,rfl,q3⟩⟩
  |next=>exact False.elim hq'
  |brk=>exact False.elim hq'
  |cont=>exact False.elim hq'
theorem zlM (M:Mk X.K C f) (F:FnOk X.prog X.w X.K X.mg X.base CX k f fd ps sp) (hr:Room (k+1) X.A) (hg:Gl X x) (hm:X.mg x=C⁻¹) (hb:vL X.K fd ps ds) (hd:yV dvs ds) (hx:gF CX X E)
  (ha:PA X (e::es) t) (hdb:(x==("__debug__" : Str))=false:=by decide) (he:starEach (e::es) X.env=(false,eval e X.env)::starEach es X.env:=by rfl) (hpl:(backTo pos (starEach es X.env)).any (·.1)=false:=by rfl) :
  PE X (.Call (.Name x p) (e::es) [] pos) (znc C sp dvs E t):=by
 intro pins s σ H Q I h;refine ZQ (fK I hg hm ?_ hdb);refine PySem.W.callWith_K (h₀:=X.base) I.ok.mod.kin M.kp (wQ (ha pos pins s σ H _ I h) fun us s1 ⟨vs,H1,I1,r,q⟩=>⟨I1.kIn,?_⟩) he hpl;exact zeT M F hr hb hd hx I1 r q
theorem zjy (M:Mk X.K C f) (F:FnOk X.prog X.w X.K X.mg X.base CX k f fd ps sp) (hr:Room (k+1) X.A) (hg:Gl X x) (hm:X.mg x=C⁻¹) (hb:vL X.K fd ps ds) (hd:yV dvs ds) (hx:gF CX X E)
  (hdb:(x==("__debug__" : Str))=false:=by decide):PE X (.Call (.Name x p) [] [] pos) (znc C sp dvs E tNil):=by
 intro pins s σ H Q I h;refine ZQ (fK I hg hm ?_ hdb);exact PySem.W.callWith_K0 I.kIn M.kp (zeT (us:=[]) M F hr hb hd hx I .nil h)
end
section
variable {X:Cx} {CX:CXT} {k:Nat} {f C:Addr} {fd:FuncData} {ps ks:List Str} {sp:Sp} {E:XK} {x m:Str} {p pos apos kpos:Pos} {e o:Expr} {es:List Expr} {kws:List Keyword} {te ta:TE} {t tk:TA} {nm:Option Str}
variable {g:List Value->List Value->List Value} {gV:List V->List V->List V}
end
structure FnScope (N P:List Str) (sc:Scope):Prop where
 kind:sc.kind=.function
 co:sc.isCoroutine=false
 gen:sc.isGenerator=false
 nd:N.Nodup
 pre:N.take P.length=P
 par:∀ x∈P,sc.names.lookup x=some .local\/sc.names.lookup x=some .cell
 nofree:∀ y∈sc.names,y.2≠.free
theorem zdl {kindOf:Str->Option NameKind} {x:Str}:∀ {binds:List (Str×Value)} {m:Str->Option Value},(∀ v,(x,v)∉binds)->bindL kindOf binds m x=m x
 | [],_,_=>rfl
 | (n,v)::r,m,h=>by
  unfold bindL;rw[zdl fun w hw=>h w (Zd _ hw)]
  split
  .have:x≠n:=by rintro rfl;exact h v zzT
   simp[this]
  .rfl
theorem zdn {kindOf:Str->Option NameKind} {x:Str}:∀ {binds:List (Str×Value)} {m:Str->Option Value},(∀ v,(x,v)∉binds)->bindC kindOf binds m x=m x
 | [],_,_=>rfl
 | (n,v)::r,m,h=>by
  unfold bindC;rw[zdn fun w hw=>h w (Zd _ hw)]
  split
  .rfl
  .have:x≠n:=by rintro rfl;exact h v zzT
   simp[this]
theorem zdm {kindOf:Str->Option NameKind} {x:Str} {v:Value}:∀ {P:List Str} {vs:List Value} {i:Nat} {m:Str->Option Value},P.Nodup->P[i]?=some x->vs[i]?=some v->kindOf x=some .local ->
  bindL kindOf (P.zip vs) m x=some v
 | [],_,_,_,_,h,_,_=>by simp at h
 |_::_,[],_,_,_,_,h,_=>by simp at h
 |p::P,w::vs,0,m,nd,h1,h2,hk=>by
  simp at h1 h2;subst h1;subst h2;show bindL kindOf ((p,w)::P.zip vs) m p=_;unfold bindL;rw[zdl fun v hv=>(Zau.mp nd).1 (ZbY hv).1,if_pos hk];simp
 |p::P,w::vs,i+1,m,nd,h1,h2,hk=>by
  show bindL kindOf ((p,w)::P.zip vs) m x=_;unfold bindL;exact zdm (i:=i) (Zau.mp nd).2 (by simpa using h1) (by simpa using h2) hk
theorem zdo {kindOf:Str->Option NameKind} {x:Str} {v:Value}:∀ {P:List Str} {vs:List Value} {i:Nat} {m:Str->Option Value},P.Nodup->P[i]?=some x->vs[i]?=some v->kindOf x≠some .local ->
  bindC kindOf (P.zip vs) m x=some v
 | [],_,_,_,_,h,_,_=>by simp at h
 |_::_,[],_,_,_,_,h,_=>by simp at h
 |p::P,w::vs,0,m,nd,h1,h2,hk=>by
  simp at h1 h2;subst h1;subst h2;show bindC kindOf ((p,w)::P.zip vs) m p=_;unfold bindC;rw[zdn fun v hv=>(Zau.mp nd).1 (ZbY hv).1,if_neg hk];simp
 |p::P,w::vs,i+1,m,nd,h1,h2,hk=>by
  show bindC kindOf ((p,w)::P.zip vs) m x=_;unfold bindC;exact zdo (i:=i) (Zau.mp nd).2 (by simpa using h1) (by simpa using h2) hk
def start (N:List Str) (vs:List V):St:=vs.map some++List.replicate (N.length-vs.length) none
noncomputable def cxOf (CX:CXT) (P:Program) (w:World) (K:PySem.W.Frag) (mg:Str->Option Value) (base:Heap) (N:List Str) (qual:Str) (scope:Scope) (f:Addr) (cd:Value) (A:Around) (outer:List Env) (s:Shared) (H:Hp) (E:XK):Cx where
 prog:=P
 w:=w
 K:=K
 mg:=mg
 base:=base
 A:=A.deeper (envOfC qual scope s.heap.objs.size f cd)
 N:=N
 s₀:=s
 H₀:=H
 env:=envOfC qual scope s.heap.objs.size f cd
 outer:=outer
 stack:=envOfC qual scope s.heap.objs.size f cd::outer
 ex:=[]
 calm:=true
 fn:=fun _=>true
 pn:=[]
 xe:=fun e s'=>wpAny (model P w) (A.deeper (envOfC qual scope s.heap.objs.size f cd)) (leaving (envOfC qual scope s.heap.objs.size f cd) e) (fun _ s''=>CX outer H s E e s'') (fun e' s''=>CX outer H s E e' s'') s'
theorem zft {sc:Scope} {n:Nat} {x:Str} (h:sc.names.lookup x=some .cell):∃ c,(cellsFrom n sc.names []).lookup x=some c:=by
 have q:=PySem.W.cellsFrom_some sc.names n [] (.inl h);exact Option.isSome_iff_exists.mp q
theorem zhY {CX:CXT} {P:Program} {w:World} {K:PySem.W.Frag} {mg:Str->Option Value} {base:Heap} {N ps:List Str} {qual:Str} {scope:Scope} {f:Addr} {cd:Value} {A:Around} {outer:List Env} {s s1:Shared} {H:Hp} {E:XK} {us:List Value} {vs:List V}
  (S:FnScope N ps scope) (hd:A.handled=none) (e0:Env0 P w K mg base A outer { s with toks:=1 } H) (hl:vs.length=ps.length) (r:yV vs us)
  (x:InCallC s s.heap.objs.size (bindL (envOfC qual scope s.heap.objs.size f cd).kindOf (ps.zip us) fun _=>none) (cellsFrom (s.heap.objs.size+1) scope.names []) (bindC (envOfC qual scope s.heap.objs.size f cd).kindOf (ps.zip us) fun _=>none) s1) (h0:0<s1.toks) :
  Inv (cxOf CX P w K mg base N qual scope f cd A outer s H E) [] (start N vs) H s1:=by
 have hpl:ps.length<=N.length:=by have:=congrArg List.length S.pre;rw[ZaE] at this;omega
 obtain ⟨h1,tk,rfl,hk⟩:=x.done;have noA:∀ b:Addr,b∉(cxOf CX P w K mg base N qual scope f cd A outer s H E).ex:=fun b z=>absurd (show b∈([]:List Addr) from z) 'g'
 refine ⟨⟨e0.mod,S.kind,rfl,rfl,zzR _,fun y z c h1 h2=>?_,fun y hy=>?_,fun y c _ h=>?_,fun _=>hd,Around.frames_deeper e0.frames,.inr ⟨rfl,rfl⟩,fun b z=>absurd z (noA b),e0.bs,e0.bsz,fun b _ _=>noA b,fun b z=>absurd z (noA b),e0.funs,e0.frf⟩,
  rfl,e0.bare,Un.kept hk,⟨_,x.toInCall.ns,fun i y v h1 h2 h3=>?_⟩,fun y c h=>⟨_,x.cell y c h⟩,e0.hok.fresh (zzR _),fun y c h=>?_,fun p hp=>absurd (show p∈([]:List (Addr×Obj)) from hp) 'g',e0.hok.kept hk,?_,h0⟩
 .exact name_of_addr x.apart (ZaB h1) (ZaB h2)
 .have hy:scope.names.lookup y=some .cell\/scope.names.lookup y=some .free:=hy;rcases hy with hy|hy
  .exact zft hy
  .exact absurd rfl (S.nofree _ (ZaB hy))
 .exact ZaY (x.above y c (ZaB h))
 .have hi:i<vs.length:=by
   unfold start at h2
   by_cases hi:i<vs.length
   .exact hi
   .rw[ZN (by simpa using hi)] at h2;rw[Za2] at h2
    split at h2<;>cases h2
  have ha:vs[i]?=some v:=by
   unfold start at h2;rw[Z8 (by simpa using hi),Zx] at h2
   cases e:vs[i]? with
   |none=>rw[e] at h2;cases h2
   |some a=>rw[e] at h2;cases h2;rfl
  obtain ⟨u,hu,rv⟩:=r.get ha
  have hp:ps[i]?=some y:=by
   rw[← S.pre,ZaX 'd'];exact h1
  have ndP:ps.Nodup:=by rw[← S.pre];exact S.nd.sublist (List.take_sublist _ _)
  refine ⟨u,rv,?_⟩;rcases S.par y (Zo hp) with k|k
  .exact .inl ⟨k,zdm ndP hp hu k⟩
  .obtain ⟨c,e⟩:=zft (n:=s.heap.objs.size+1) k;refine .inr ⟨.inl k,c,e,?_⟩;have q:=x.cell y c e;rw[zdo ndP hp hu (by show scope.names.lookup y≠_;rw[k];decide)] at q;exact q
 .exact e0.hok.fresh (ZaY (x.above y c (ZaB h)))
 .unfold start;show _=N.length;rw[zzW,zzM,Zbf];omega
theorem fn_of {CX:CXT} {P:Program} {w:World} {K:PySem.W.Frag} {mg:Str->Option Value} {base:Heap} {k:Nat} {f:Addr} {name qual:Str} {params:Arguments} {body:List Stmt} {scope:Scope} {dV kV doc pm cdv ct oc:Value} {an od:Option Addr}
  {osl:Array (Option Value)} {N ps:List Str} {sp:Sp} (lk:K.lookup f=some ⟨oc,od,.func (PySem.W.fnOf name qual params body scope dV kV doc pm an cdv ct),osl⟩) (hcd:PySem.W.codeIn K cdv qual=true) (S:FnScope N ps scope)
  (len:∀ vs H Q E,sp vs H Q E->vs.length=ps.length)
  (hbody:∀ (A:Around) (outer:List Env) (s:Shared) (H:Hp) (vs:List V) (Q:VK) (E:XK),Room k (A.deeper (envOfC qual scope s.heap.objs.size f cdv))->sp vs H Q E ->
   ∃ t,PSs (cxOf CX P w K mg base N qual scope f cdv A outer s H E) body t/\t { nx:=fun _ H'=>Q .non H',rt:=Q } (start N vs) H) :
  FnOk P w K mg base CX (k+1) f (PySem.W.fnOf name qual params body scope dV kV doc pm an cdv ct) ps sp:=by
 suffices core:∀ (A:Around) (outer:List Env) (s:Shared) (H:Hp) (args:Args) (us:List Value) (vs:List V) (Q:VK) (E:XK),Room (k+1) A->Env0 P w K mg base A outer { s with toks:=1 } H->BindsTo s (PySem.W.fnOf name qual params body scope dV kV doc pm an cdv ct) args (ps.zip us)->yV vs us->sp vs H Q E ->
   (0<s.toks\/∃ x,ps=[x]/\scope.names.lookup x=some .local)->codeAny (model P w) A (.call (.ref f) args) (CR CX outer P w H s Q E) s from
  ⟨len,fun A outer s H args us vs Q E hr e0 hb r hsp=>core A outer s H args us vs Q E hr ⟨e0.frames,e0.mod,e0.bs,e0.bsz,e0.funs,e0.frf,e0.hok,e0.bare,Nat.one_pos⟩ hb r hsp (.inl e0.tk),fun x e l A outer s H args us vs Q E hr e0 hb r hsp=>core A outer s H args us vs Q E hr e0 hb r hsp (.inr ⟨x,e,l⟩)⟩
 intro A outer s H args us vs Q E hr e0 hb r hsp hpos;have hl:=len _ _ _ _ hsp;have KX:K.In s.heap:=e0.mod.kin.keeps fun b o e=>(e0.bs b o e).1;have lim:s.heap.NoLimit:=e0.mod.nolimit.keeps fun b o e=>(e0.bs b o e).1
 have hkind:∀ y∈ps.zip us,scope.names.lookup y.1=some .local\/(scope.names.lookup y.1=some .cell/\((cellsFrom (s.heap.objs.size+1) scope.names []).lookup y.1).isSome=true):=fun ⟨n,v⟩ hy=>by
  rcases S.par n (ZbY hy).1 with q|q
  .exact .inl q
  .exact .inr ⟨q,PySem.W.cellsFrom_some _ _ _ (.inl q)⟩
 refine codeAny_call_function hr.depth (KX _ _ lk) rfl S.co S.gen rfl (PySem.W.codeRec_of KX hcd) (hb _ _ _ _ ?_);refine zfT S.kind hkind (r.length.symm.trans hl) hpos fun env he s1 x h0=>?_;subst he;refine ⟨lim.keeps x.toInCall.keep,codeAny_func ?_⟩;obtain ⟨t,ht,hq⟩:=hbody A outer s H vs Q E (hr.deeper _) hsp;have I:Inv (cxOf CX P w K mg base N qual scope f cdv A outer s H E) [] (start N vs) H s1:=zhY S hr.hd e0 hl r x h0;refine Zal (ht [] s1 (start N vs) H _ I hq) (fun fl s' hs=>?_) fun e s' hs=>hs
 have fin:∀ {σ':St} {H':Hp} {v:V} {u:Value},Inv (cxOf CX P w K mg base N qual scope f cdv A outer s H E) [] σ' H' s'->yR v u->Q v H'->CE outer P w H s Q u s' :=
  fun {σ' H' v u} J rv q=>⟨v,H',J.os,J.tk,J.bare,J.base,J.hok,rv,q⟩
 cases fl with
 |ret u =>
  obtain ⟨v,σ',H',J,rv,q⟩:=hs;exact fin J rv q
 |next =>
  obtain ⟨σ',H',J,q⟩:=hs;exact fin (v:=V.non) (u:=Value.none) J rfl q
 |brk =>
  obtain ⟨_,_,_,q⟩:=hs;exact False.elim q
 |cont =>
  obtain ⟨_,_,_,q⟩:=hs;exact False.elim q
end L2
namespace L2
open PySem PySem.Spec PyProof.Rows
section
variable {X:Cx} {x:Str} {p pos:Pos} {e:Expr} {es:List Expr} {t:TA} {id T:String} {r:List V->Hp->VK->Prop}
def tCB (r:List V->Hp->VK->Prop) (t:TA):TE:=fun σ H Q=>t σ H fun vs H1=>r vs H1 Q
theorem zjA (hc:jG X (.builtin id) r) (hg:Gl X x) (hm:X.mg x=none) (hv:bootBuiltins x=some (.builtin id)) (ha:PA X (e::es) t) (hn:x ≠ "__name__" := by decide) (hdb:(x==("__debug__" : Str))=false:=by decide)
  (he:starEach (e::es) X.env=(false,eval e X.env)::starEach es X.env:=by rfl) (hpl:(backTo pos (starEach es X.env)).any (·.1)=false:=by rfl):PE X (.Call (.Name x p) (e::es) [] pos) (tCB r t):=by
 intro pins s σ H Q I h;refine ZQ (cL I hg hm hv ?_ hn hdb);exact PyProof.Rows.callWith_builtin1 (wQ (ha pos pins s σ H _ I h) fun us s1 ⟨vs,H1,I1,r1,q1⟩=>hc pins s1 σ H1 vs us Q I1 r1 q1) he hpl
theorem zhj (hc:jG X (.type T) r) (hg:Gl X x) (hm:X.mg x=none) (hv:bootBuiltins x=some (.type T)) (ha:PA X (e::es) t) (hn:x ≠ "__name__" := by decide) (hdb:(x==("__debug__" : Str))=false:=by decide)
  (he:starEach (e::es) X.env=(false,eval e X.env)::starEach es X.env:=by rfl) (hpl:(backTo pos (starEach es X.env)).any (·.1)=false:=by rfl):PE X (.Call (.Name x p) (e::es) [] pos) (tCB r t):=by
 intro pins s σ H Q I h;refine ZQ (cL I hg hm hv ?_ hn hdb);exact Zaf (wQ (ha pos pins s σ H _ I h) fun us s1 ⟨vs,H1,I1,r1,q1⟩=>hc pins s1 σ H1 vs us Q I1 r1 q1) he hpl
end
end L2
namespace HT
open PySem PyProof.Rows
section
open PySem.SeqAt
open PySem.AutoSeq1 (wpAny_loadPart')
open PySem.MeetsSeq PySem.MeetsSeq2 PySem.MeetsSeq3
end
section
variable {prog:Program} {w:World} {A:Around} {E:Value->Shared->Prop} {s:Shared}
theorem zmN {t b:Addr} {vs ws:List Value} {Q:Value->Shared->Prop} (ht:IsTup s.heap t vs.toArray) (hb:IsTup s.heap b ws.toArray) (hv:vs≠[])
  (h1:ws=[]->Q (.ref t) s) (h2:ws≠[]->Q (.ref s.heap.objs.size) { s with heap:=s.heap.push { cls:=.type "tuple", data:=.seq (vs++ws).toArray } })
  (hsz:vs.length+ws.length<=sizeLine):wpAny (model prog w) A (binaryOp .Add (.ref t) (.ref b)) Q E s:=by
 obtain ⟨⟨cls,dd,data,sl⟩,ho,hc,n,hd⟩:=id ht;obtain ⟨⟨cls2,dd2,data2,sl2⟩,ho2,hc2,n2,hd2⟩:=id hb;simp only at hc hd hc2 hd2;subst hc hd hc2 hd2;have e:vs.toArray++ws.toArray=(vs++ws).toArray:=by simp
 by_cases hw:ws=[]
 .exact concat_meets ⟨_,ho,rfl⟩ ⟨_,ho2,rfl⟩ ZbU Zb8 Za7 Za5 (Za0 _ _)
   (tuple_addW1 t b vs.toArray ws.toArray n n2 dd dd2 sl sl2 (by simpa using hv) (by simp[hw])) ⟨ho,ho2,h1 hw⟩
 .refine concat_meets ⟨_,ho,rfl⟩ ⟨_,ho2,rfl⟩ ZbU Zb8 Za7 Za5 (Za0 _ _)
   (tuple_addW2 t b vs.toArray ws.toArray n n2 dd dd2 sl sl2 (by simpa using hv) (by simpa using hw) (by rw[zzS,zzS];exact hsz)) ⟨ho,ho2,?_⟩
  rw[e];exact h2 hw
def jN (n d:Nat):Option Int->Nat
 |none=>d
 |some v=>if v<0 then (v+(n:Int)).toNat else min v.toNat n
theorem zns (n d:Nat) (hd:d<=n) (o:Option Int):jN n d o<=n:=by
 cases o with
 |none=>exact hd
 |some v =>
  show (if v<0 then (v+(n:Int)).toNat else min v.toNat n)<=n
  by_cases hv:v<0
  .rw[if_pos hv];omega
  .rw[if_neg hv];exact Nat.min_le_right _ _
theorem ziv (v:Int) (n d:Nat):(if v<0 then max (v+(n:Int)) 0 else min v (n:Int))=((jN n d (some v):Nat):Int):=by
 show (if v<0 then max (v+(n:Int)) 0 else min v (n:Int))=(((if v<0 then (v+(n:Int)).toNat else min v.toNat n):Nat):Int)
 by_cases hv:v<0
 .simp only[if_pos hv];omega
 .simp only[if_neg hv];omega
theorem zgj (lo hi:Option Int) (n:Nat):Builtin.Slice.sliceAdjust lo hi 1 (n:Int)=(((jN n 0 lo:Nat):Int),((jN n n hi:Nat):Int)):=by
 have h1:¬ ((1:Int)<0):=by omega
 unfold Builtin.Slice.sliceAdjust;simp only[h1,if_false];refine Prod.ext ?_ ?_
 .cases lo with
  |none=>rfl
  |some v=>exact ziv v n 0
 .cases hi with
  |none=>rfl
  |some v=>exact ziv v n n
theorem zfR (i j:Nat):Builtin.Slice.slicePlaces (i:Int) (j:Int) 1=j-i:=by
 unfold Builtin.Slice.slicePlaces;have h1:(1:Int) > 0:=by omega
 simp only[h1,if_true,Int.ediv_one]
 split<;>omega
theorem zaz {v:Value} {o:Option Int} {Q:Option Int->Shared->Prop} (p:IsPart v o) (h:Q o s):wpAny (model prog w) A (Builtin.Slice.slicePartIndex v) Q E s:=by
 cases p with
 |none=>exact ZbD h
 |int i t=>exact slicePart_int h
theorem sZ {sl:Addr} {vl vu:Value} {lo hi:Option Int} {n:Nat} {Q:Int×Int×Nat->Shared->Prop} (hs:s.heap.IsSliceOf sl vl vu .none) (pl:IsPart vl lo) (pu:IsPart vu hi)
  (h:Q (((jN n 0 lo:Nat):Int),1,jN n n hi-jN n 0 lo) s):wpAny (model prog w) A (Builtin.Slice.sliceApplied (.ref sl) (pure (n:Int))) Q E s:=by
 obtain ⟨os,hos,hcs,hds⟩:=id hs;unfold Builtin.Slice.sliceApplied Builtin.Slice.sliceFields;refine Za (Za (Zbw hos hds (x:=vl) rfl (Za (Zbw hos hds (x:=vu) rfl (Za (Zbw hos hds (x:=.none) rfl (Zh ?_)))))));refine Za (ZbD ?_);show wpAny _ _ (if ((1:Int)==0)=true then _ else _) _ _ s;rw[if_neg 'c'];refine Za (zaz pl (Za (zaz pu (Za (Zh ?_)))));show wpAny _ _ (match Builtin.Slice.sliceAdjust lo hi 1 (n:Int) with|(lo,hi)=>pure (lo,(1:Int),Builtin.Slice.slicePlaces lo hi 1)) _ _ s;rw[zgj lo hi n];show wpAny _ _ (pure (((jN n 0 lo:Nat):Int),(1:Int),Builtin.Slice.slicePlaces ((jN n 0 lo:Nat):Int) ((jN n n hi:Nat):Int) 1)) _ _ s;rw[zfR];exact Zh h
theorem zjv (xs:Array Value) (i k:Nat):((List.range k).filterMap fun (m:Nat)=>xs[((i:Int)+(m:Int) * 1).toNat]?).toArray=((xs.toList.drop i).take k).toArray:=by
 have e:(fun (m:Nat)=>xs[((i:Int)+(m:Int) * 1).toNat]?)=fun m=>xs[i+m]?:=by
  funext m
  have:((i:Int)+(m:Int) * 1).toNat=i+m:=by omega
  rw[this]
 rw[e];have:=pick_run xs i k;rw[Zbz] at this;have e2:((fun x=>xs[x]?) ∘ fun x=>i+x)=fun m=>xs[i+m]?:=rfl;rw[e2] at this;rw[this]
theorem fF {t sl:Addr} {items:Array Value} {vl vu:Value} {lo hi:Option Int} {Q:Value->Shared->Prop} (ht:IsTup s.heap t items) (hs:s.heap.IsSliceOf sl vl vu .none) (pl:IsPart vl lo) (pu:IsPart vu hi)
  (hw:¬ (jN items.size 0 lo=0/\jN items.size items.size hi=items.size))
  (h:Q (.ref s.heap.objs.size) { s with heap:=s.heap.push { cls:=.type "tuple", data:=.seq ((items.toList.drop (jN items.size 0 lo)).take (jN items.size items.size hi-jN items.size 0 lo)).toArray } })
  (hsz:items.size<=sizeLine):wpAny (model prog w) A (getItem (.ref t) (.ref sl)) Q E s:=by
 have htake:sizeOk (.seq ((items.toList.drop (jN items.size 0 lo)).take (jN items.size items.size hi-jN items.size 0 lo)).toArray):=by
  show ((items.toList.drop (jN items.size 0 lo)).take (jN items.size items.size hi-jN items.size 0 lo)).toArray.size<=sizeLine;rw[zzS,ZaE,Zbk,Zay];omega
 have hj:jN items.size items.size hi<=items.size:=zns _ _ (zzR _) hi;obtain ⟨os,hos,hcs,hds⟩:=id hs;have hTs:s.TypeIs (.ref sl) "slice" := ⟨os,hos,hcs⟩;unfold getItem
 try with_reducible refine ZI ?_
 first|refine Za (Zh ?_)|skip
 refine Za (Zbc ht.typeIs 'c' ?_)
 refine Za (ZaC (name:=Str.ofString "__getitem__") ht.typeIs Zt
  (ZaI Zt ht.typeIs Zbt ?_ (ZbB _ _)))
 show wpAny _ _ (Builtin.Tuple.tupleItemsOf (.ref t) >>= _) _ _ s;refine Za (Zca ht ?_);refine Za (ZbC hTs ?_);rw[if_pos 'c'];refine Za (sZ hs pl pu ?_)
 have hno:¬ ((((jN items.size 0 lo:Nat):Int)==0&&(1:Int)==1&&(jN items.size items.size hi-jN items.size 0 lo)==items.size)=true):=by
  intro q;rw[Zp,Zp] at q;have q1:((jN items.size 0 lo:Nat):Int)=0:=eq_of_beq q.1.1;have q2:jN items.size items.size hi-jN items.size 0 lo=items.size:=eq_of_beq q.2;exact hw ⟨by omega,by omega⟩
 show wpAny _ _ (if (((jN items.size 0 lo:Nat):Int)==0&&(1:Int)==1&&(jN items.size items.size hi-jN items.size 0 lo)==items.size)=true then _ else _) _ _ s;rw[if_neg hno,zjv]
 first
  |exact Za (m:=Builtin.Tuple.tupleExact _) (Zae (Zh ⟨_,rfl,Zh h⟩) htake)
  |exact Za (m:=Builtin.Tuple.tupleExact _) (Zae (Za (Zh (Zh ⟨_,rfl,Zh h⟩))) htake)
  |exact Za (Za (m:=Builtin.Tuple.tupleExact _) (Zae (Zh (Zh ⟨_,rfl,Zh h⟩)) htake))
  |exact Za (Za (m:=Builtin.Tuple.tupleExact _) (Zae (Zh ⟨_,rfl,Zh h⟩) htake))
end
end HT
namespace L2
open PySem PySem.Spec PyProof.Rows
abbrev TO:=St->Hp->(Option Int->Hp->Prop)->Prop
def PO (X:Cx) (e:Option Expr) (t:TO):Prop :=
 ∀ (pins:List (Addr×Obj)) (s:Shared) (σ:St) (H:Hp) (Q:Option Int->Hp->Prop),Inv X pins σ H s->t σ H Q ->
  wpAny 'f' X.A (evalPart e X.env) (fun u s'=>∃ o H',Inv X pins σ H' s'/\IsPart u o/\Q o H') X.xe s
def zli:TO:=fun _ H Q=>Q none H
def tPart (t:TE):TO:=fun σ H Q=>t σ H fun x H1=>∃ i,x=.int i/\Q (some i) H1
section
variable {X:Cx} {e:Expr} {te:TE} {lo hi:Option Expr} {tl th:TO} {pos p2:Pos}
theorem zlJ:PO X none zli:=by
 intro pins s σ H Q I h;rw[Zb7];exact Zh ⟨none,H,I,.none,h⟩
theorem zlI (h:PE X e te):PO X (some e) (tPart te):=by
 intro pins s σ H Q I hw;rw[evalPart_some];refine wQ (h pins s σ H _ I hw) fun u s1 ⟨x,H1,I1,r1,q1⟩=>?_;obtain ⟨i,rfl,q⟩:=q1;obtain ⟨t,rfl⟩:=r1;exact ⟨some i,H1,I1,.int i t,q⟩
def SlR (X:Cx) (r:V->Option Int->Option Int->Hp->VK->Prop):Prop :=
 ∀ (pins:List (Addr×Obj)) (s:Shared) (σ:St) (H:Hp) (x:V) (v vl vu:Value) (lo hi:Option Int) (sl:Addr) (Q:VK),Inv X pins σ H s->yR x v->s.heap.IsSliceOf sl vl vu .none->IsPart vl lo->IsPart vu hi->r x lo hi H Q ->
  ∃ T id,typeLookup (.type T) "__getitem__" = pure (some (.builtin id))/\s.TypeIs v T/\wpAny 'f' X.A (getItem v (.ref sl)) (EP X pins σ Q) X.xe s
def tSl (r:V->Option Int->Option Int->Hp->VK->Prop) (te:TE) (tl th:TO):TE:=fun σ H Q=>te σ H fun x H1=>tl σ H1 fun l H2=>th σ H2 fun u H3=>r x l u H3 Q
theorem zjx {r:V->Option Int->Option Int->Hp->VK->Prop} (hr:SlR X r) (he:PE X e te) (hl:PO X lo tl) (hu:PO X hi th):PE X (.Subscript e (.Slice lo hi none p2) pos) (tSl r te tl th):=by
 intro pins s σ H Q I h;refine Subscript_ (wQ (he pins s σ H _ I h) fun v s1 ⟨x,H1,I1,r1,q1⟩=>?_);refine wpAny_Slice (wQ (hl pins s1 σ H1 _ I1 q1) fun vl s2 ⟨l,H2,I2,pl,q2⟩=>wQ (hu pins s2 σ H2 _ I2 q2) fun vu s3 ⟨u,H3,I3,pu,q3⟩=>?_);rw[Zb7];refine Zh ?_;have I4:Inv X pins σ H3 { s3 with heap:=s3.heap.push { cls:=.type "slice", data:=.fields #[vl,vu,.none] } }:=I3.kept (t':=s3.toks) fun b ob q=>Zc _ q;obtain ⟨T,id,hT,ht,hg⟩:=hr pins { s3 with heap:=s3.heap.push { cls:=.type "slice", data:=.fields #[vl,vu,.none] } } σ H3 x v vl vu l u s3.heap.objs.size Q I4 r1 (Heap.IsSliceOf.new ..) pl pu q3;show wpAny 'f' X.A (subscriptTail e (.Slice lo hi none p2) v (.ref s3.heap.objs.size)) (EP X pins σ Q) X.xe { s3 with heap:=s3.heap.push { cls:=.type "slice", data:=.fields #[vl,vu,.none] } };exact Zb9 (ops:=[.ref s3.heap.objs.size,v]) ht hT hg (by with_unfolding_all rfl)
def cutV (xs:List V) (lo hi:Option Int):List V:=(xs.drop (HT.jN xs.length 0 lo)).take (HT.jN xs.length xs.length hi-HT.jN xs.length 0 lo)
theorem zaf (xs:List V) (lo hi:Option Int):(cutV xs lo hi).length<=xs.length:=by
 unfold cutV;rw[ZaE,Zbk];omega
def rSlT (K:PySem.W.Frag):V->Option Int->Option Int->Hp->VK->Prop:=fun x lo hi H Q=>∃ a xs,x=.ref a/\gH K H a xs /\
 ¬ (HT.jN xs.length 0 lo=0/\HT.jN xs.length xs.length hi=xs.length)/\∀ p,H p=none->Q (.ref p) (xM H p (.tup (cutV xs lo hi)))
theorem znk:SlR X (rSlT X.K):=by
 intro pins s σ H x v vl vu lo hi sl Q I rx hs pl pu h;obtain ⟨a,xs,rfl,hx,hw,q⟩:=h;cases rx;obtain ⟨its,r,ht,hz⟩:=I.tuple hx;have hlen:its.toArray.size=xs.length:=by rw[zzS];exact r.length.symm
 refine ⟨"tuple", _,Zt.lookup,ht.typeIs,?_⟩;refine HT.fF ht hs pl pu (by rw[hlen];exact hw) ?_ (by rw[hlen];exact hz);rw[hlen];refine ⟨.ref s.heap.objs.size,_,I.laid (t':=s.toks) (o:=.tup (cutV xs lo hi)) (fun b ob q=>Zc _ q) (zzR _) ?_,rfl,q _ (I.hok.fresh (zzR _))⟩;exact ⟨Zb (zaf xs lo hi) hz,_,(r.drop (HT.jN xs.length 0 lo)).take (HT.jN xs.length xs.length hi-HT.jN xs.length 0 lo),Zb6 _ _⟩
def rCatT (K:PySem.W.Frag):R2:=fun x y H Q=>∃ a b xs ys,x=.ref a/\y=.ref b/\gH K H a xs/\gH K H b ys/\xs≠[]/\xs.length+ys.length<=sizeLine /\
 (ys=[]->Q (.ref a) H)/\(ys≠[]->∀ p,H p=none->Q (.ref p) (xM H p (.tup (xs++ys))))
theorem yV.nil_iff {xs:List V} {us:List Value} (r:yV xs us):us=[]↔xs=[]:=by
 cases r with
 |nil=>simp
 |cons _ _=>simp
theorem zlV:gE X (binaryOp .Add) (rCatT X.K):=by
 intro pins s σ H x y v u Q I rx ry h;obtain ⟨a,b,xs,ys,rfl,rfl,ha,hb,hx,hz,q1,q2⟩:=h;cases rx;cases ry;obtain ⟨its,r1,p1,_⟩:=I.tuple ha;obtain ⟨its2,r2,p2,_⟩:=I.tuple hb;refine HT.zmN p1 p2 (fun z=>hx (r1.nil_iff.mp z)) (fun z=>⟨.ref a,H,I,rfl,q1 (r2.nil_iff.mp z)⟩) (fun z=>?_) (by rw[← r1.length,← r2.length];exact hz);refine ⟨.ref s.heap.objs.size,_,I.laid (t':=s.toks) (o:=.tup (xs++ys)) (fun b ob q=>Zc _ q) (zzR _) ?_,rfl,q2 (fun w=>z (r2.nil_iff.mpr w)) _ (I.hok.fresh (zzR _))⟩;exact ⟨by rw[zzW];exact hz,_,r1.append r2,Zb6 _ _⟩
end
end L2
namespace L2
open PySem PySem.Spec PyProof.Rows
def ixN (n:Nat) (i:Int):Option Nat:=if 0<=i then (if i<n then some i.toNat else none) else if -(n:Int)<=i then some (i+n).toNat else none
def rQ {α:Type} (xs:List α) (i:Int):Option α:=(ixN xs.length i).bind fun j=>xs[j]?
theorem zhU {n:Nat} {i:Int} {j:Nat} (h:ixN n i=some j):seqIndex? i n=some j/\j<n/\-(n:Int)<=i/\i<n:=by
 unfold ixN at h
 by_cases h0:0<=i
 .rw[if_pos h0] at h
  by_cases h1:i<n
  .rw[if_pos h1] at h;have e:i.toNat=j:=Zw h;exact ⟨by rw[seqIndex_of h0 h1,e],by omega,by omega,h1⟩
  .rw[if_neg h1] at h;cases h
 .rw[if_neg h0] at h
  by_cases h1:-(n:Int)<=i
  .rw[if_pos h1] at h;have e:(i+n).toNat=j:=Zw h;exact ⟨by rw[seqIndex_neg 'd' h1,e],by omega,h1,by omega⟩
  .rw[if_neg h1] at h;cases h
theorem zeq {α:Type} {xs:List α} {i:Int} {v:α} (h:rQ xs i=some v):∃ j,seqIndex? i xs.length=some j/\xs[j]?=some v/\j<xs.length/\-(xs.length:Int)<=i/\i<xs.length:=by
 unfold rQ at h
 cases e:ixN xs.length i with
 |none=>rw[e] at h;cases h
 |some j =>
  rw[e] at h;obtain ⟨h1,h2,h3,h4⟩:=zhU e;exact ⟨j,h1,h,h2,h3,h4⟩
def ziM (b:Expr):Prop:=∀ o i,subscripted b false o i=operate [o,i] (getItem o i)
def IxR (X:Cx) (r:R2):Prop :=
 ∀ (value slice:Expr) (pins:List (Addr×Obj)) (s:Shared) (σ:St) (H:Hp) (x y:V) (v u:Value) (Q:VK),Inv X pins σ H s->yR x v->yR y u->r x y H Q ->
  subscripted slice false v u=operate [v,u] (getItem v u)->wpAny 'f' X.A (subscriptTail value slice v u) (EP X pins σ Q) X.xe s
def MtR (X:Cx) (id:String) (r:V->List V->Hp->VK->Prop):Prop :=
 ∀ (pins:List (Addr×Obj)) (s:Shared) (σ:St) (H:Hp) (x:V) (xs:List V) (v:Value) (us:List Value) (Q:VK),Inv X pins σ H s->yR x v->yV xs us->r x xs H Q ->
  wpAny 'f' X.A (call (.builtin id) (v::us)) (EP X pins σ Q) X.xe s
section
variable {X:Cx} {a b:Expr} {ta tb:TE} {pos:Pos}
theorem pe_ix {r:R2} (hr:IxR X r) (ha:PE X a ta) (hb:PE X b tb) (hs:ziM b):PE X (.Subscript a b pos) (tOp r ta tb):=by
 intro pins s σ H Q I h;exact Subscript_ (binT ha hb I h fun v u s2 x y H2 I2 rx ry q=>hr a b pins s2 σ H2 x y v u Q I2 rx ry q (hs _ _))
def rIxL (K:PySem.W.Frag):R2:=fun x y H Q=>∃ p xs i v,x=.ref p/\y=.int i/\dL K H p xs/\rQ xs i=some v/\Q v H
def rIxT (K:PySem.W.Frag):R2:=fun x y H Q=>∃ p xs i v,x=.ref p/\y=.int i/\gH K H p xs/\rQ xs i=some v/\Q v H
def rIxS:R2:=fun x y H Q=>∃ z i c,x=.str z/\y=.int i/\z.length<=sizeLine/\rQ z.cps.toList i=some c/\Q (.str ⟨#[c]⟩) H
theorem zmd:IxR X (rIxL X.K):=by
 intro value slice pins s σ H x y v u Q I rx ry h hs;obtain ⟨p,xs,i,z,rfl,rfl,hq,he,q⟩:=h;cases rx;obtain ⟨t,rfl⟩:=ry;obtain ⟨its,r,pl,hz⟩:=I.list hq;obtain ⟨j,h1,h2,h3,h4,h5⟩:=zeq he;obtain ⟨w,ew,rw'⟩:=r.get h2;have hl:=r.length;have hn:=gO;have fin:EP X pins σ Q w s:=⟨z,H,I,rw',q⟩
 by_cases h0:0<=i
 .have hj:i.toNat=j:=by
   rw[seqIndex_of h0 h5] at h1;exact Zw h1
  exact item_listR pl.isList h0 'd' (by rw[hj];simpa using ew) fin hs
 .have hj:(i+(its.toArray.size:Int)).toNat=j:=by
   rw[seqIndex_neg 'd' h4] at h1;rw[zzS,← hl];exact Zw h1
  exact subscriptTail_builtinR (x:=w) pl.isList.typeIs slot_list_getitem.lookup
   (wpAny_getItem_list_neg (Q:=fun r s'=>r=w/\EP X pins σ Q r s') pl.isList 'd' (by rw[zzS]<;>omega) 'd' (by rw[hj];simpa using ew) ⟨rfl,fin⟩) hs
theorem zoh:IxR X (rIxT X.K):=by
 intro value slice pins s σ H x y v u Q I rx ry h hs;obtain ⟨p,xs,i,z,rfl,rfl,hq,he,q⟩:=h;cases rx;obtain ⟨t,rfl⟩:=ry;obtain ⟨its,r,pl,hz⟩:=I.tuple hq;obtain ⟨j,h1,h2,h3,h4,h5⟩:=zeq he;obtain ⟨w,ew,rw'⟩:=r.get h2;have hl:=r.length;have hn:=gO;have fin:EP X pins σ Q w s:=⟨z,H,I,rw',q⟩
 exact subscriptTail_builtinR (x:=w) pl.typeIs slot_tuple_getitem.lookup
  (getItem_tuple (j:=j) (Q:=fun r s'=>r=w/\EP X pins σ Q r s') pl 'd' 'd' (by rw[zzS,← hl];exact h1) (by simpa using ew) ⟨rfl,fin⟩) hs
theorem zoi:IxR X rIxS:=by
 intro value slice pins s σ H x y v u Q I rx ry h hs;obtain ⟨z,i,c,rfl,rfl,hz,he,q⟩:=h;obtain ⟨t,rfl⟩:=rx;obtain ⟨t',rfl⟩:=ry;obtain ⟨j,h1,h2,h3,h4,h5⟩:=zeq he;have hl:z.cps.toList.length=z.length:=by simp[Str.length]
 rw[hl] at h1 h4 h5;have hn:=gO
 exact Zb9 (typeIs_str s z t) slot_str_getitem.lookup (getItem_str (c:=c) (by
  have e1:decide (i < -(2 ^ 63:Int))=false:=decide_eq_false 'd';have e2:decide (i>=2 ^ 63)=false:=decide_eq_false 'd';rw[e1,e2,ZG]) (by rw[h1];simpa using h2) ⟨.str ⟨#[c]⟩,H,I.tok _,⟨_,rfl⟩,q⟩) hs
theorem zfV (its:List Value) (n j:Nat) (u:Value):Obj.mapSeq (·.setIfInBounds j u) { cls:=.type "list", data:=.seq its.toArray n }={ cls:=.type "list", data:=.seq (its.set j u).toArray n }:=by
 simp[Obj.mapSeq]
theorem Inv.lst {pins:List (Addr×Obj)} {σ:St} {H:Hp} {s:Shared} {p:Addr} {xs:List V} (I:Inv X pins σ H s) (h:H p=some (.lst xs)) :
  ∃ (its:List Value) (n:Nat),yV xs its/\s.heap.get? p=some { cls:=.type "list", data:=.seq its.toArray n }/\xs.length<=sizeLine:=by
 obtain ⟨z,its,n,r,e⟩:=I.hok p _ h;exact ⟨its,n,r,e,z⟩
theorem Inv.lstUpd {pins:List (Addr×Obj)} {σ:St} {H:Hp} {s:Shared} {p:Addr} {xs ys:List V} {its its':List Value} {n n':Nat} {f:Obj->Obj} (I:Inv X pins σ H s) (h:H p=some (.lst xs))
  (ho:s.heap.get? p=some { cls:=.type "list", data:=.seq its.toArray n }) (hf:f { cls:=.type "list", data:=.seq its.toArray n }={ cls:=.type "list", data:=.seq its'.toArray n' }) (r:yV ys its') (hz:ys.length<=sizeLine) (t:Nat) (ht:0<t:=by first|exact ZP _|exact L2.Inv.tk (by assumption)|exact L2.Inv.tk ‹L2.Inv _ _ _ _ _› | assumption|omega) :
  Inv X pins σ (xM H p (.lst ys)) { s with heap:=s.heap.update p f,toks:=t }:=by
 have e:(s.heap.update p f).get? p=some { cls:=.type "list", data:=.seq its'.toArray n' }:=by
  rw[Zam f ho (by rw[hf]<;>rfl),hf]
 refine I.write (x:=p) (e:=p) (by rw[h];trivial) (.inl rfl) (fun b u hb q=>(ZR _ _ (Ne.symm hb)).trans q) ⟨_,e⟩ ?_;exact ⟨hz,its',n',r,e⟩
def rSetL:V->V->V->Hp->(Hp->Prop)->Prop:=fun o i v H Q=>∃ p xs k j,o=.ref p/\i=.int k/\H p=some (.lst xs)/\ixN xs.length k=some j/\Q (xM H p (.lst (xs.set j v)))
theorem zjb:PSet X rSetL:=by
 intro pins s σ H o i v ov iv u Q I ro ri rv h;obtain ⟨p,xs,k,j,rfl,rfl,hp,hj,q⟩:=h;cases ro;obtain ⟨t,rfl⟩:=ri;obtain ⟨its,n,r,ho,hz⟩:=I.lst hp;obtain ⟨h1,h2,h3,h4⟩:=zhU hj;have hl:=r.length;have hn:=gO
 have I':Inv X pins σ (xM H p (.lst (xs.set j v))) { s with heap:=s.heap.update p (Obj.mapSeq (·.setIfInBounds j u)) } :=
  I.lstUpd hp ho (zfV its n j u) (r.set rv j) (by rw[List.length_set];exact hz) s.toks
 by_cases h0:0<=k
 .have hk:k.toNat=j:=by
   rw[seqIndex_of h0 h4] at h1;exact Zw h1
  exact PySem.W.ki_setAt ho h0 'd' (by rw[zzS,← hl];exact h4) (by rw[hk];exact ⟨_,I',q⟩)
 .have hk:(k+(its.toArray.size:Int)).toNat=j:=by
   rw[seqIndex_neg 'd' h3] at h1;rw[zzS,← hl];exact Zw h1
  exact PySem.W.ki_setBack ho 'd' (by rw[zzS,← hl];exact h3) 'd' (by rw[hk];exact ⟨_,I',q⟩)
theorem zck (lo hi:Option Int) (n:Nat):(sliceBounds lo hi none n).1=((HT.jN n 0 lo:Nat):Int)/\(sliceBounds lo hi none n).2.1=((HT.jN n n hi:Nat):Int)/\(sliceBounds lo hi none n).2.2=1:=by
 refine ⟨?_,?_,rfl⟩
 .cases lo with
  |none=>simp[sliceBounds,HT.jN]
  |some i =>
   simp only[sliceBounds,HT.jN,Option.getD_none,show (1:Int) > 0 by decide,if_true]
   by_cases h:i<0
   .simp only[h,if_true]<;>omega
   .simp only[h,if_false]<;>omega
 .cases hi with
  |none=>simp[sliceBounds,HT.jN]
  |some i =>
   simp only[sliceBounds,HT.jN,Option.getD_none,show (1:Int) > 0 by decide,if_true]
   by_cases h:i<0
   .simp only[h,if_true]<;>omega
   .simp only[h,if_false]<;>omega
theorem zbi (its:List Value) (lo hi:Option Int):slicePick its.toArray lo hi none=((its.drop (HT.jN its.length 0 lo)).take (HT.jN its.length its.length hi-HT.jN its.length 0 lo)).toArray:=by
 obtain ⟨h1,h2,h3⟩:=zck lo hi its.toArray.size;unfold slicePick;rw[h1,h2,h3];simp only[sliceRange_one,pick_run,zzS]<;>rfl
def rSlL (K:PySem.W.Frag):V->Option Int->Option Int->Hp->VK->Prop:=fun x lo hi H Q=>∃ a xs,x=.ref a/\dL K H a xs/\∀ p,H p=none->Q (.ref p) (xM H p (.lst (cutV xs lo hi)))
theorem zgQ:SlR X (rSlL X.K):=by
 intro pins s σ H x v vl vu lo hi sl Q I rx hs pl pu h;obtain ⟨a,xs,rfl,hx,q⟩:=h;cases rx;obtain ⟨its,r,ht,hz⟩:=I.list hx;have hlen:=r.length;refine ⟨"list", _,slot_list_getitem.lookup,ht.isList.typeIs,?_⟩;refine wpAny_getItem_list_slice ht.isList hs pl pu .none 'g' ?_ (by rw[zzS]<;>omega);rw[zbi,← hlen];refine ⟨.ref s.heap.objs.size,_,I.laid (t':=s.toks) (o:=.lst (cutV xs lo hi)) (fun b ob q=>Zc _ q) (zzR _) ?_,rfl,q _ (I.hok.fresh (zzR _))⟩;exact ⟨Zb (zaf xs lo hi) hz,_,0,(r.drop (HT.jN xs.length 0 lo)).take (HT.jN xs.length xs.length hi-HT.jN xs.length 0 lo),Zq _ rfl⟩
theorem zcK:gE X (compareOp .NotIn) (fun x y H Q=>∃ i j,x=.str i/\y=.str j/\Q (.bl (!(!(Builtin.Str.occurrences j i 0 j.length 1).isEmpty))) H):=by
 intro pins s σ H x y v u Q I rx ry h;obtain ⟨i,j,rfl,rfl,q⟩:=h;obtain ⟨t,rfl⟩:=rx;obtain ⟨t',rfl⟩:=ry;exact notIn_str ⟨.bl _,H,I,rfl,q⟩
theorem rZ:jG X (.builtin "len") (fun xs H Q=>∃ p ys,xs=[.ref p]/\(dL X.K H p ys\/gH X.K H p ys)/\Q (.int ys.length) H):=by
 intro pins s σ H xs us Q I r h;obtain ⟨p,ys,rfl,hq,q⟩:=h;obtain ⟨u,rfl,rx⟩:=qI r;cases rx;have hn:=gO;rcases hq with hq|hq
 .obtain ⟨its,r',pl,hz⟩:=I.list hq;have hlen:=r'.length;exact Calls.call_len_list pl.isList (by simp only[zzS]<;>omega) ⟨.int ys.length,H,I.tok _,⟨s.toks+1,by rw[zzS,hlen]⟩,q⟩
 .obtain ⟨its,r',pl,hz⟩:=I.tuple hq;have hlen:=r'.length;exact len_tuple pl (by simp only[zzS]<;>omega) ⟨.int ys.length,H,I.tok _,⟨s.toks+1,by rw[zzS,hlen]⟩,q⟩
theorem zdh:jG X (.builtin "len") (fun xs H Q=>∃ z,xs=[.str z]/\z.length<=sizeLine/\Q (.int z.length) H):=by
 intro pins s σ H xs us Q I r h;obtain ⟨z,rfl,hz,q⟩:=h;obtain ⟨u,rfl,t,rfl⟩:=qI r;have hn:=gO;exact len_str 'd' ⟨.int z.length,H,I.tok _,⟨_,rfl⟩,q⟩
theorem zdg:jG X (.type "list") (fun xs H Q=>∃ p ys,xs=[.ref p]/\(dL X.K H p ys\/gH X.K H p ys)/\∀ l,H l=none->Q (.ref l) (xM H l (.lst ys))):=by
 intro pins s σ H xs us Q I r h;obtain ⟨p,ys,rfl,hq,q⟩:=h;obtain ⟨u,rfl,rx⟩:=qI r;cases rx
 have fin:∀ (its:List Value),yV ys its->ys.length<=sizeLine->∀ (h':Heap) (c':Nat),(∀ b o',s.heap.get? b=some o'->h'.get? b=some o') ->
   h'.get? s.heap.objs.size=some { cls:=.type "list", dict:=none,data:=.seq its.toArray c',slots:=#[] }->EP X pins σ Q (.ref s.heap.objs.size) { s with heap:=h' }:=fun its r' hz h' c' kp e =>
  ⟨.ref s.heap.objs.size,_,I.laid (t':=s.toks) kp (zzR _) (show wY X.prog X.w _ h' _ (.lst ys) from ⟨hz,its,c',r',e⟩),rfl,q _ (I.hok.fresh (zzR _))⟩
 rcases hq with hq|hq
 .obtain ⟨its,r',pl,hz⟩:=I.list hq;have hlen:=r'.length;obtain ⟨o,ho,hc,n,hd⟩:=pl.isList;exact call_list_seq p (.inl rfl) ho hc hd (fun h' c' kp e=>fin its r' hz h' c' kp e) (by simp only[zzS]<;>omega)
 .obtain ⟨its,r',pl,hz⟩:=I.tuple hq;have hlen:=r'.length;obtain ⟨o,ho,hc,n,hd⟩:=pl;exact call_list_seq p (.inr rfl) ho hc hd (fun h' c' kp e=>fin its r' hz h' c' kp e) (by simp only[zzS]<;>omega)
theorem zbZ:jG X (.type "tuple") (fun xs H Q=>∃ p ys,xs=[.ref p]/\((dL X.K H p ys/\∀ l,H l=none->Q (.ref l) (xM H l (.tup ys)))\/(gH X.K H p ys/\Q (.ref p) H))):=by
 intro pins s σ H xs us Q I r h;obtain ⟨p,ys,rfl,h⟩:=h;obtain ⟨u,rfl,rx⟩:=qI r;cases rx;rcases h with ⟨hq,q⟩|⟨hq,q⟩
 .obtain ⟨its,r',pl,hz⟩:=I.list hq;have hlen:=r'.length;refine call_tuple_list pl.isList (fun h' kp=>?_) (by simp only[zzS]<;>omega);have I1:Inv X pins σ H { s with heap:=h' }:=I.kept (t':=s.toks) kp
  have I2:Inv X pins σ (xM H h'.objs.size (.tup ys)) { s with heap:=h'.push { cls:=.type "tuple", data:=.seq its.toArray } } :=
   I1.laid (t':=s.toks) (fun b o e=>Zc _ e) (zzR _) (show wY X.prog X.w _ _ _ (.tup ys) from ⟨hz,its,r',Zb6 _ _⟩)
  exact ⟨.ref h'.objs.size,_,I2,rfl,q _ (I1.hok.fresh (zzR _))⟩
 .obtain ⟨its,r',pl,hz⟩:=I.tuple hq;exact call_tuple_same pl ⟨.ref p,H,I,rfl,q⟩
def tyV (K:PySem.W.Frag) (T:String) (x:V) (H:Hp):Prop:=match x with
 | .str _=>T = "str"
 | .int _=>T = "int"
 | .ref p=>(T = "list" /\ ∃ xs,dL K H p xs)\/(T = "tuple" /\ ∃ o,K.lookup p=some o/\o.cls=.type "tuple" /\ o.dict=none) \/
   (T = "dict" /\ ((∃ kvs,H p=some (.dK kvs))\/∃ kvs,H p=some (.dT kvs)))\/(T = "set" /\ ∃ S n,H p=some (.set S n))
 |_=>False
theorem zkz {pins:List (Addr×Obj)} {σ:St} {H:Hp} {s:Shared} {T:String} {x:V} {v:Value} (I:Inv X pins σ H s) (r:yR x v) (ty:tyV X.K T x H) :
  s.TypeIs v T/\∀ a,v=.ref a->∃ ob,s.heap.get? a=some ob/\ob.dict=none:=by
 cases x with
 |str z =>
  obtain ⟨t,rfl⟩:=r;cases (show T = "str" from ty);exact ⟨typeIs_str s z t,fun _ e=>nomatch e⟩
 |int i =>
  obtain ⟨t,rfl⟩:=r;cases (show T = "int" from ty);exact ⟨Zbs s i t,fun _ e=>nomatch e⟩
 |ref p =>
  cases r;rcases ty with ⟨rfl,xs,hq⟩|⟨rfl,o,hk,hc,hd⟩|⟨rfl,hk⟩|⟨rfl,S,n,hk⟩
  .obtain ⟨its,_,pl,_⟩:=I.list hq;refine ⟨pl.isList.typeIs,fun a e=>?_⟩;cases e;obtain ⟨o,n,e,c,hd,_⟩:=pl;exact ⟨o,e,hd⟩
  .refine ⟨⟨o,I.kIn p o hk,hc⟩,fun a e=>?_⟩;cases e;exact ⟨o,I.kIn _ o hk,hd⟩
  .have z:∃ o,s.heap.get? p=some o/\o.ExactDict:=by
    rcases hk with ⟨kvs,hk⟩|⟨kvs,hk⟩
    .obtain ⟨_,_,_,_,o,_,_,e,ex,_⟩:=I.hok p _ hk;exact ⟨o,e,ex⟩
    .obtain ⟨_,_,_,_,o,_,_,e,ex,_⟩:=I.hok p _ hk;exact ⟨o,e,ex⟩
   obtain ⟨o,e,ex⟩:=z;refine ⟨⟨o,e,ex.1⟩,fun a e2=>?_⟩;cases e2;exact ⟨o,e,ex.2.1⟩
  .obtain ⟨o,_,_,_,e,ex,_⟩:=I.hok p _ hk;refine ⟨⟨o,e,ex.1⟩,fun a e2=>?_⟩;cases e2;exact ⟨o,e,ex.2.1⟩
 |_=>exact False.elim ty
def tBM0 (K:PySem.W.Frag) (T:String) (r:V->List V->Hp->VK->Prop) (to:TE):TE:=fun σ H Q=>to σ H fun x H1=>tyV K T x H1/\r x [] H1 Q
def tBM (K:PySem.W.Frag) (T:String) (r:V->List V->Hp->VK->Prop) (to:TE) (t:TA):TE:=fun σ H Q=>to σ H fun x H1=>tyV K T x H1/\t σ H1 fun xs H2=>r x xs H2 Q
variable {o e:Expr} {es:List Expr} {to:TE} {t:TA} {name:Str} {apos cpos:Pos} {T id:String} {r:V->List V->Hp->VK->Prop}
theorem znQ (pa:PlainAttrs T) (slot:Slot T name id) (hty:typeOf (.builtin id)=pure (.type "method_descriptor")) (hm:MtR X id r) (ho:PE X o to)
  (hbase:attributeBase o name X.env (eval o X.env)=eval o X.env:=by rfl) (hline:(apos.endLine==cpos.line)=true:=by rfl):PE X (.Call (.Attribute o name apos) [] [] cpos) (tBM0 X.K T r to):=by
 intro pins s σ H Q I h;refine wpAny_Call_method0_late hbase hline (wQ (ho pins s σ H _ I h) fun v s1 ⟨x,H1,I1,r1,ty,q1⟩=>?_);obtain ⟨h1,h2⟩:=zkz I1 r1 ty;exact ⟨T,id,pa,slot,hty,h1,h2,Calls.callWith_builtin rfl (PySem.evalArgs_none (hm pins s1 σ H1 x [] v [] Q I1 r1 .nil q1))⟩
theorem pe_bm (pa:PlainAttrs T) (slot:Slot T name id) (hty:typeOf (.builtin id)=pure (.type "method_descriptor")) (hm:MtR X id r) (ho:PE X o to) (ha:PA X (e::es) t)
  (hbase:attributeBase o name X.env (eval o X.env)=eval o X.env:=by rfl)
  (hfew:((backTo cpos (starEach (e::es) X.env)).all (fun x=>!x.1)&&(backToKw cpos (keywordEach [] X.env)).all (fun x=>x.1.isSome)
   && decide ((e::es).length+([]:List Keyword).length+(if ([]:List Keyword).isEmpty then 0 else 1)<30))=true:=by rfl)
  (hline:(apos.endLine==cpos.line)=true:=by rfl) (hs:starEach (e::es) X.env=(false,eval e X.env)::starEach es X.env:=by rfl) (hplain:(backTo cpos (starEach es X.env)).any (·.1)=false:=by rfl) :
  PE X (.Call (.Attribute o name apos) (e::es) [] cpos) (tBM X.K T r to t):=by
 intro pins s σ H Q I h;refine wpAny_Call_method_late hbase hfew hline rfl (wQ (ho pins s σ H _ I h) fun v s1 ⟨x,H1,I1,r1,ty,q1⟩=>?_);obtain ⟨h1,h2⟩:=zkz I1 r1 ty;refine ⟨T,id,pa,slot,hty,h1,h2,?_⟩;have hA:=ha cpos pins s1 σ H1 _ I1 q1;rw[hs] at hA ⊢;refine Calls.callWith_builtin (by show (false || (backTo cpos (starEach es X.env)).any (·.1))=false;rw[hplain]<;>rfl) (Calls.evalArgs_plain ?_);exact wQ hA fun us s2 ⟨vs,H2,I2,r2,q2⟩=>hm pins s2 σ H2 x vs v us Q I2 r1 r2 q2
/- xs.append(e),list.index on a module's tuple .. are MtR facts of 06m -/
end
end L2
namespace L2
open PySem PySem.Spec PyProof.Rows
def MtM (X:Cx) (id:String) (r:V->List V->Hp->VK->Prop):Prop :=
 ∀ (pins:List (Addr×Obj)) (s:Shared) (σ:St) (H:Hp) (x:V) (xs:List V) (v:Value) (us:List Value) (Q:VK),Inv X pins σ H s->yR x v->yV xs us->r x xs H Q ->
  wpAny 'f' X.A (call (.builtin id) (v::us)) (EP X pins σ Q) X.xe s
theorem yV.one:∀ {x:V} {us:List Value},yV [x] us->∃ u,us=[u]/\yR x u
 |_,_,.cons r .nil=>⟨_,rfl,r⟩
theorem yV.zero:∀ {us:List Value},yV [] us->us=[]
 |_,.nil=>rfl
theorem yV.dropLast {xs:List V} {us:List Value} (h:yV xs us):yV xs.dropLast us.dropLast:=by
 induction h with
 |nil=>exact .nil
 |cons r t ih =>
  cases t with
  |nil=>exact .nil
  |cons q t'=>exact .cons r ih
theorem yV.eraseIdx:∀ {xs:List V} {us:List Value} (i:Nat),yV xs us->yV (xs.eraseIdx i) (us.eraseIdx i)
 |_,_,_,.nil=>.nil
 |_,_,0,.cons _ t=>t
 |_,_,i+1,.cons r t=>.cons r (yV.eraseIdx i t)
theorem yV.reverse {xs:List V} {us:List Value} (h:yV xs us):yV xs.reverse us.reverse:=by
 induction h with
 |nil=>exact .nil
 |cons r t ih=>rw[Zad,Zad];exact yV.append ih (.cons r .nil)
theorem yV.rep {xs:List V} {us:List Value} (h:yV xs us):∀ k:Nat,yV (List.replicate k xs).flatten (List.replicate k us).flatten
 | 0=>.nil
 |k+1=>by
  rw[Z4,Z4,Zas,Zas];exact yV.append h (yV.rep h k)
theorem zga {α:Type} (l:List α):l.eraseIdx (l.length-1)=l.dropLast:=by
 induction l with
 |nil=>rfl
 |cons a r ih =>
  cases r with
  |nil=>rfl
  |cons b r =>
   have e:(a::b::r).length-1=((b::r).length-1)+1:=by
    have h1:(a::b::r).length=r.length+2:=rfl;have h2:(b::r).length=r.length+1:=rfl;omega
   rw[e,List.eraseIdx_cons_succ,ih]
   all_goals rfl
theorem zcY {α:Type}:∀ (l:List α) (i:Nat),(l.eraseIdx i).length<=l.length
 | [],_=>zzR _
 |_::_,0=>ZbN _
 |_::r,i+1=>ZaH (zcY r i)
theorem zc6 (its:List Value):∀ (k:Nat) (acc:List Value),
  List.foldl (fun x1 x2=>x1++x2) acc.toArray (List.replicate k its.toArray)=(acc++(List.replicate k its).flatten).toArray
 | 0,acc=>by simp
 |k+1,acc=>by
  have e:acc.toArray++its.toArray=(acc++its).toArray:=by simp
  have e2:(acc++its)++(List.replicate k its).flatten=acc++(List.replicate (k+1) its).flatten:=by
   rw[Z4,Zas,ZbG]
  rw[← e2,← zc6 its k (acc++its),← e,Z4,List.foldl_cons]
section
variable {X:Cx} {pins:List (Addr×Obj)} {σ:St} {H:Hp} {s:Shared} {l b:Addr} {xs ys zs:List V}
theorem Inv.lset {its its':List Value} {n:Nat} {f:Array Value->Array Value} {t':Nat} (I:Inv X pins σ H s) (hH:H l=some (.lst xs))
  (e:s.heap.get? l=some { cls:=.type "list", data:=.seq its.toArray n }) (hf:f its.toArray=its'.toArray) (hv:yV ys its') (hz:ys.length<=sizeLine) (ht:0<t':=by first|exact ZP _|exact L2.Inv.tk (by assumption)|exact L2.Inv.tk ‹L2.Inv _ _ _ _ _› | assumption|omega) :
  Inv X pins σ (xM H l (.lst ys)) { s with heap:=s.heap.update l (Obj.mapSeq f),toks:=t' }:=by
 have q:=PySem.IsL.update e f;rw[hf] at q;refine I.write (x:=l) (e:=l) (by rw[hH];exact trivial) (.inl rfl) (fun b' u hb hu=>(ZR s.heap (Obj.mapSeq f) (Ne.symm hb)).trans hu) ⟨_,q⟩ ?_;exact ⟨hz,its',_,hv,q⟩
theorem Inv.lnew {its:List Value} {t':Nat} (I:Inv X pins σ H s) (hv:yV ys its) (hz:ys.length<=sizeLine) (ht:0<t':=by first|exact ZP _|exact L2.Inv.tk (by assumption)|exact L2.Inv.tk ‹L2.Inv _ _ _ _ _› | assumption|omega) :
  Inv X pins σ (xM H s.heap.objs.size (.lst ys)) { s with heap:=s.heap.push { cls:=.type "list", data:=.seq its.toArray },toks:=t' } :=
 I.laid (fun _ _ q=>Zc _ q) (zzR _) ⟨hz,its,0,hv,Zq _ rfl⟩
theorem Inv.fresh (I:Inv X pins σ H s):H s.heap.objs.size=none:=I.hok.fresh (zzR _)
theorem Inv.lstM (I:Inv X pins σ H s) (hH:H l=some (.lst xs)):xs.length<=sizeLine/\∃ (its:List Value) (n:Nat),yV xs its/\xs.length=its.length/\s.heap.get? l=some { cls:=.type "list", data:=.seq its.toArray n }:=by
 obtain ⟨z,its,n,r,e⟩:=I.hok l _ hH;exact ⟨z,its,n,r,r.length,e⟩
theorem zbB {n:Nat} (h:n<=sizeLine):Builtin.List.listTooLong n=false:=by
 unfold Builtin.List.listTooLong;exact decide_eq_false 'd'
end
section
variable {X:Cx}
def zly:V->List V->Hp->VK->Prop:=fun x vs H Q=>∃ l xs y,x=.ref l/\vs=[y]/\H l=some (.lst xs)/\xs.length<sizeLine/\Q .non (xM H l (.lst (xs++[y])))
theorem zhA:MtM X "list.append" zly:=by
 intro pins s σ H x vs v us Q I rx rv h;obtain ⟨l,xs,y,rfl,rfl,hH,hz,q⟩:=h;cases rx;obtain ⟨u,rfl,ru⟩:=rv.one;obtain ⟨z,its,n,r,hl,e⟩:=I.lstM hH;refine ZaK F.slot_list_append ⟨_,e,rfl⟩ F.entry_list_append (F.args_list_append_2 _ _) (PySem.list_append l its.toArray n u (by rw[zzS];omega)) ⟨e,?_⟩;refine ⟨.non,_,I.lset (its':=its++[u]) hH e 'g' (r.append (.cons ru .nil)) ?_,rfl,q⟩;rw[zzW,List.length_singleton];omega
def rPop:V->List V->Hp->VK->Prop:=fun x vs H Q=>∃ l xs y,x=.ref l/\vs=[]/\H l=some (.lst xs)/\xs[xs.length-1]?=some y/\Q y (xM H l (.lst xs.dropLast))
theorem znZ:MtM X "list.pop" rPop:=by
 intro pins s σ H x vs v us Q I rx rv h;obtain ⟨l,xs,y,rfl,rfl,hH,hy,q⟩:=h;cases rx;have hus:=rv.zero;subst hus;obtain ⟨z,its,n,r,hl,e⟩:=I.lstM hH;obtain ⟨u,hu,ru⟩:=r.get hy
 have hy':its.toArray[its.toArray.size-1]?=some u:=by
  show its.toArray[its.length-1]?=some u;rw[← Array.getElem?_toList,← hl];exact hu
 refine ZaK F.slot_list_pop ⟨_,e,rfl⟩ F.entry_list_pop (F.args_list_pop_1 _) (MeetsSeq.list_pop_last l its.toArray n u hy' (by rw[zzS];omega)) ⟨e,?_⟩;refine ⟨y,_,I.lset (its':=its.dropLast) hH e ?_ r.dropLast ?_,ru,q⟩
 .show its.toArray.eraseIdxIfInBounds (its.toArray.size-1)=its.dropLast.toArray;rw[zzS,List.eraseIdxIfInBounds_toArray,zga]
 .rw[Zbp];omega
def rCat:R2:=fun x y H Q=>∃ l b xs zs,x=.ref l/\y=.ref b/\H l=some (.lst xs)/\H b=some (.lst zs)/\xs.length+zs.length<=sizeLine/\∀ p,H p=none->Q (.ref p) (xM H p (.lst (xs++zs)))
theorem znX:gE X (binaryOp .Add) rCat:=by
 intro pins s σ H x y v u Q I rx ry h;obtain ⟨l,b,xs,zs,rfl,rfl,hH,hB,hz,q⟩:=h;cases rx;cases ry;obtain ⟨z,its,n,r,hl,e⟩:=I.lstM hH;obtain ⟨z2,its2,n2,r2,hl2,e2⟩:=I.lstM hB;refine PySem.P.add_list e e2 ?_ (by rw[zzS,zzS];omega);have ea:its.toArray++its2.toArray=(its++its2).toArray:=by simp
 rw[ea];exact ⟨.ref _,_,I.lnew (t':=s.toks) (r.append r2) (by rw[zzW];omega),rfl,q _ I.fresh⟩
def rRep:R2:=fun x y H Q=>∃ l k xs,x=.ref l/\y=.int k/\H l=some (.lst xs)/\-(2 ^ 63)<=k/\k<2 ^ 63/\xs.length * k.toNat<=sizeLine /\
 ∀ p,H p=none->Q (.ref p) (xM H p (.lst (List.replicate k.toNat xs).flatten))
theorem zl5 {α:Type} (xs:List α) (k:Nat):(List.replicate k xs).flatten.length=k * xs.length:=by
 induction k with
 |zero=>simp
 |succ k ih=>rw[Z4,Zas,zzW,ih,Nat.succ_mul,Nat.add_comm]
theorem znT:gE X (binaryOp .Mult) rRep:=by
 intro pins s σ H x y v u Q I rx ry h;obtain ⟨l,k,xs,rfl,rfl,hH,h1,h2,hz,q⟩:=h;cases rx;obtain ⟨t,rfl⟩:=ry;obtain ⟨z,its,n,r,hl,e⟩:=I.lstM hH;have hlen:its.toArray.size * k.toNat<=sizeLine:=by rw[zzS,← hl];exact hz
 have hcap:¬ its.toArray.size * k.toNat > (2 ^ 63-1) / 8:=by
  have:(sizeLine:Nat)<=(2 ^ 63-1) / 8:=by decide
  omega
 have hfit:¬ (!Builtin.List.listFitsIndex k)=true:=by
  rw[fitsIndex_both h1 h2];exact zzN
 have hlong:¬ Builtin.List.listTooLong (its.toArray.size * k.toNat)=true:=by
  rw[zbB hlen];exact zzN
 have hnew:List.foldl (fun x1 x2=>x1++x2) #[] (List.replicate (if its.toArray.isEmpty=true then 0 else k.toNat) its.toArray)=(List.replicate k.toNat its).flatten.toArray:=by
  have f0:∀ m:Nat,List.foldl (fun x1 x2=>x1++x2) #[] (List.replicate m its.toArray)=(List.replicate m its).flatten.toArray:=fun m=>by
   have:=zc6 its m [];rw[ZC] at this;exact this
  rw[f0]
  cases its with
  |nil=>simp
  |cons a r'=>rw[if_neg 'g']
 refine ZaS (T := "list") (U := "int") 'c' ⟨_,e,rfl⟩ (fun s'=>Zbs s' k t) noFill_list_mul ZbV ZaM repeat_list ZbR.lookup
  (ZaK ZaM (Zbs s k t) ZbQ (ZbE _ _) (int___rmul___int_list k t l its.toArray n)
   ⟨e,rfl,⟨_,e,rfl⟩,ZaK F.slot_list_mul ⟨_,e,rfl⟩ F.entry_list_mul (F.args_list_mul_2 _ _) (AutoListH.list___mul___list_int_3 l its.toArray n k t hfit hcap hlong) ⟨e,?_⟩⟩)
 rw[hnew];exact ⟨.ref _,_,I.lnew (t':=s.toks) (r.rep k.toNat) (by rw[zl5,Nat.mul_comm];exact hz),rfl,q _ I.fresh⟩
end
section
variable {prog:Program} {w:World} {A:Around} {E:Value->Shared->Prop} {s:Shared}
set_option maxRecDepth 100000 in
end
section
variable {X:Cx}
end
end L2
namespace L2
open PySem PySem.Spec PyProof.Rows
section
variable {κ:Type} [DecidableEq κ]
def uG (kvs:List (κ×V)) (k:κ):Option V:=(kvs.find? fun kv=>decide (kv.1=k)).map (·.2)
def rH (kvs:List (κ×V)) (k:κ) (v:V):List (κ×V) :=
 if (kvs.any fun kv=>decide (kv.1=k))=true then kvs.map (fun kv=>if kv.1=k then (kv.1,v) else kv) else kvs++[(k,v)]
theorem za7 {p:κ×V} {r:List (κ×V)} {k:κ} (e:p.1=k):uG (p::r) k=some p.2:=by simp[uG,ZK,e]
theorem za8 {p:κ×V} {r:List (κ×V)} {k:κ} (e:¬ p.1=k):uG (p::r) k=uG r k:=by simp[uG,ZK,e]
theorem zey (k:κ):∀ kvs:List (κ×V),(kvs.any fun kv=>decide (kv.1=k))=(uG kvs k).isSome
 | []=>rfl
 |p::r=>by
  rw[Zz]
  by_cases e:p.1=k
  .simp only[za7 e,decide_eq_true e,ZO,Option.isSome_some]
  .rw[za8 e,decide_eq_false e,ZD];exact zey k r
theorem pA (kvs:List (κ×V)) (k:κ) (v:V):(rH kvs k v).length<=kvs.length+1:=by
 unfold rH
 split
 .rw[zzM];omega
 .rw[zzW,Ze,Zj];omega
theorem gG.isSome_eq {o:Option V} {u:Option Value} (r:gG o u):o.isSome=u.isSome:=by
 cases o with
 |none=>cases u with
  |none=>rfl
  |some _=>exact (show False from r).elim
 |some _=>cases u with
  |none=>exact (show False from r).elim
  |some _=>rfl
theorem gG.getD {o:Option V} {u:Option Value} {d:V} {d':Value} (r:gG o u) (rd:yR d d'):yR (o.getD d) (u.getD d'):=by
 cases o with
 |none=>cases u with
  |none=>exact rd
  |some _=>exact (show False from r).elim
 |some _=>cases u with
  |none=>exact (show False from r).elim
  |some _=>exact r
theorem KV.val {kvs:List (κ×V)} {vs:List (κ×Value)} (r:KV kvs vs) (k:κ):gG (uG kvs k) (valueAt vs k):=by
 unfold KV at r
 induction r with
 |nil=>exact True.intro
 | @cons p q ps qs h t ih =>
  obtain ⟨h1,h2⟩:=h
  by_cases e:p.1=k
  .have e':q.1=k:=h1.symm.trans e;have b:valueAt (q::qs) k=some q.2:=by simp[valueAt,ZK,e']
   rw[za7 e,b];exact h2
  .have e':¬ q.1=k:=fun z=>e (h1.trans z);have b:valueAt (q::qs) k=valueAt qs k:=by simp[valueAt,ZK,e']
   rw[za8 e,b];exact ih
theorem KV.any {kvs:List (κ×V)} {vs:List (κ×Value)} (r:KV kvs vs) (k:κ):(kvs.any fun kv=>decide (kv.1=k))=vs.any fun kv=>decide (kv.1=k):=by
 unfold KV at r
 induction r with
 |nil=>rfl
 |cons h t ih=>rw[Zz,Zz,ih,h.1]
theorem KV.repl {kvs:List (κ×V)} {vs:List (κ×Value)} (r:KV kvs vs) (k:κ) {y:V} {u:Value} (ry:yR y u) :
  KV (kvs.map fun kv=>if kv.1=k then (kv.1,y) else kv) (vs.map fun kv=>if kv.1=k then (kv.1,u) else kv):=by
 unfold KV at r ⊢
 induction r with
 |nil=>exact .nil
 | @cons p q ps qs h t ih =>
  rw[zzU,zzU];refine .cons ?_ ih;obtain ⟨h1,h2⟩:=h
  by_cases e:p.1=k
  .rw[if_pos e,if_pos (h1.symm.trans e)];exact ⟨h1,ry⟩
  .rw[if_neg e,if_neg (fun z=>e (h1.trans z))];exact ⟨h1,h2⟩
theorem KV.put {kvs:List (κ×V)} {vs:List (κ×Value)} (r:KV kvs vs) (k:κ) {y:V} {u:Value} (ry:yR y u):KV (rH kvs k y) (stored vs k u):=by
 unfold rH stored;rw[r.any k]
 by_cases e:(vs.any fun kv=>decide (kv.1=k))=true
 .rw[if_pos e,if_pos e];exact r.repl k ry
 .rw[if_neg e,if_neg e];exact Paired.snoc r ⟨rfl,ry⟩
theorem KV.length {kvs:List (κ×V)} {vs:List (κ×Value)} (r:KV kvs vs):kvs.length=vs.length:=ZbO r
end
theorem zeb {P:Program} {w:World} {k:xS} {u:Value} (r:yR (kV k) u):(xQ P w).is k u=true:=by
 cases k with
 |inl i=>obtain ⟨t,e⟩:=(show ∃ t,u=Value.int i t from r);subst e;exact zdZ P w i t
 |inr x=>obtain ⟨t,e⟩:=(show ∃ t,u=Value.str x t from r);subst e;exact zdY P w x t
theorem zc1 {P:Program} {w:World}:∀ {ks:List xS} {us:List Value},yV (ks.map kV) us->ItemsAre (xQ P w) ks us
 | [],_,r=>by rw[zzV] at r;cases r;exact .nil
 |k::ks,_,r=>by
  rw[zzU] at r
  cases r with
  |cons h t=>exact .cons (zeb h) (zc1 t)
abbrev KT (H:Hp):List (List xS×V)->List (List xS×Addr×Value)->Prop:=Paired fun p q=>p.1=q.1/\H q.2.1=some (.tup (p.1.map kV))/\yR p.2 q.2.2
theorem KT.val {H:Hp} {kvs:List (List xS×V)} {xs:List (List xS×Addr×Value)} (r:KT H kvs xs) (k:List xS):gG (uG kvs k) ((atKey xs k).map (·.2)):=by
 induction r with
 |nil=>exact True.intro
 | @cons p q ps qs h t ih =>
  obtain ⟨h1,_,h2⟩:=h
  by_cases e:p.1=k
  .have e':q.1=k:=h1.symm.trans e;have b:atKey (q::qs) k=some q.2:=by simp[atKey,ZK,e']
   rw[za7 e,b];exact h2
  .have e':¬ q.1=k:=fun z=>e (h1.trans z);have b:atKey (q::qs) k=atKey qs k:=by simp[atKey,ZK,e']
   rw[za8 e,b];exact ih
theorem KT.repl {H:Hp} {kvs:List (List xS×V)} {xs:List (List xS×Addr×Value)} (r:KT H kvs xs) (k:List xS) {y:V} {u:Value} (ry:yR y u) :
  KT H (kvs.map fun kv=>if kv.1=k then (kv.1,y) else kv) (xs.map (putAt k u)):=by
 induction r with
 |nil=>exact .nil
 | @cons p q ps qs h t ih =>
  rw[zzU,zzU];refine .cons ?_ ih;obtain ⟨h1,h2,h3⟩:=h;unfold putAt
  by_cases e:p.1=k
  .rw[if_pos e,if_pos (h1.symm.trans e)];exact ⟨h1,h2,ry⟩
  .rw[if_neg e,if_neg (fun z=>e (h1.trans z))];exact ⟨h1,h2,h3⟩
theorem KT.put {H:Hp} {kvs:List (List xS×V)} {xs:List (List xS×Addr×Value)} (r:KT H kvs xs) (k:List xS) {b:Addr} {y:V} {u:Value} (hb:H b=some (.tup (k.map kV))) (ry:yR y u) :
  KT H (rH kvs k y) (storedH xs k b u):=by
 have e:(kvs.any fun kv=>decide (kv.1=k))=(atKey xs k).isSome:=by
  rw[zey,(r.val k).isSome_eq,ZbL]
 unfold rH storedH;rw[e]
 by_cases q:(atKey xs k).isSome=true
 .rw[if_pos q,if_pos q];exact r.repl k ry
 .rw[if_neg q,if_neg q];exact Paired.snoc r ⟨rfl,hb,ry⟩
theorem KT.keeps {H H':Hp} {kvs:List (List xS×V)} {xs:List (List xS×Addr×Value)} (r:KT H kvs xs) (ht:∀ b ys,H b=some (.tup ys)->H' b=some (.tup ys)):KT H' kvs xs :=
 Paired.mapP r fun _ _ z=>⟨z.1,ht _ _ z.2.1,z.2.2⟩
section
variable {P:Program} {w:World} {H:Hp} {h:Heap} {a:Addr}
theorem znv {u:HO} (ok:nA P w H h) (e:Rd H a u):wY P w H h a u:=e.ok ok
theorem bB {kvs:List (xS×V)} (ok:nA P w H h) (e:Rd H a (.dK kvs)):kvs.length<=sizeLine/\(a==sysModules)=false/\∃ vs,KV kvs vs/\h.DictOf (xQ P w) a vs :=
 show wY P w H h a (.dK kvs) from znv ok e
theorem zoE {kvs:List (xS×V)} (ok:nA P w H h) (e:H a=some (.dK kvs)):kvs.length<=sizeLine/\(a==sysModules)=false/\∃ vs,KV kvs vs/\h.DictOf (xQ P w) a vs:=bB ok (.inl e)
theorem cJ {ks:List xS} (ok:nA P w H h) (e:H a=some (.tup (ks.map kV))):(tupleKind (xQ P w)).is h ks a:=by
 obtain ⟨_,its,r,o,h1,h2,n,h3⟩:=(show wY P w H h a (.tup (ks.map kV)) from ok a _ e);exact ⟨o,its.toArray,n,h1,h2,h3,by simpa using zc1 r⟩
theorem zgd {kvs:List (List xS×V)} (ok:nA P w H h) (e:Rd H a (.dT kvs)):kvs.length<=sizeLine/\(a==sysModules)=false /\
  ∃ xs,KT H kvs xs/\h.DictOfH (tupleKind (xQ P w)) a xs:=by
 obtain ⟨z,y,xs,r,o,es,ep,h1,h2,h3,h4,h5⟩:=(show wY P w H h a (.dT kvs) from znv ok e);refine ⟨z,y,xs,r,o,es,ep,h1,h2,h3,h4,fun x hx=>?_,h5⟩
 have all:∀ {l:List (List xS×V)} {m:List (List xS×Addr×Value)},KT H l m->∀ x∈m,(tupleKind (xQ P w)).is h x.1 x.2.1:=by
  intro l m q
  induction q with
  |nil=>intro x hx;exact nomatch hx
  | @cons p q ps qs hq t ih =>
   intro x hx;rcases Zk.mp hx with e|hx
   .subst e;exact cJ ok (by rw[← hq.1];exact hq.2.1)
   .exact ih x hx
 exact all r x hx
theorem dt_of {kvs:List (List xS×V)} (ok:nA P w H h) (e:H a=some (.dT kvs)):kvs.length<=sizeLine/\(a==sysModules)=false /\
  ∃ xs,KT H kvs xs/\h.DictOfH (tupleKind (xQ P w)) a xs:=zgd ok (.inl e)
end
def DGet (H:Hp) (a:Addr) (y:V) (r:Option V):Prop :=
 (∃ kvs k,Rd H a (.dK kvs)/\y=kV k/\r=uG kvs k)\/∃ kvs k b,Rd H a (.dT kvs)/\y=.ref b/\H b=some (.tup (k.map kV))/\r=uG kvs k
def DPut (H:Hp) (a:Addr) (y v:V) (H':Hp):Prop :=
 (∃ kvs k,H a=some (.dK kvs)/\y=kV k/\kvs.length<sizeLine/\H'=xM H a (.dK (rH kvs k v))) \/
 ∃ kvs k b,H a=some (.dT kvs)/\y=.ref b/\H b=some (.tup (k.map kV))/\kvs.length<sizeLine/\H'=xM H a (.dT (rH kvs k v))
section
variable {X:Cx} {pins:List (Addr×Obj)} {σ:St} {H:Hp} {s:Shared} {a:Addr} {y v:V} {u r:Value} {o:Option V} {A:Around} {E:Value->Shared->Prop}
theorem Inv.big (I:Inv X pins σ H s):sysModules<s.heap.objs.size:=by
 have h:mainGlobals<s.heap.objs.size:=(I.mod.glob.keeps I.bk).lt;exact Nat.lt_trans 'c' h
theorem zir {Q:Value->Shared->Prop} (hu:A.units+1<cLine) (I:Inv X pins σ H s) (g:DGet H a y (some v)) (ry:yR y u) (h:∀ w' s',Inv X pins σ H s'->yR v w'->Q w' s') :
  wpAny 'f' A (getItem (.ref a) u) Q E s:=by
 rcases g with ⟨kvs,k,e,ey,l⟩|⟨kvs,k,b,e,ey,eb,l⟩
 .subst ey;obtain ⟨z,hd,vs,rel,dd⟩:=bB I.hok e;obtain ⟨w',hw,rw'⟩:=gG.some_of (v:=v) (o:=valueAt vs k) (by rw[l];exact rel.val k);exact wpAny_getItem_of (zeb ry) dd.mapOf hw (h w' _ (I.tok _) rw')
 .subst ey;cases (show u=Value.ref b from ry);obtain ⟨z,hd,xs,rel,dd⟩:=zgd I.hok e;obtain ⟨w',hw,rw'⟩:=gG.some_of (v:=v) (o:=(atKey xs k).map (·.2)) (by rw[l];exact rel.val k);obtain ⟨p,hp,hp2⟩:=ZF.mp hw;refine wpAny_getItem_heap (ZaL hu) (cJ I.hok eb) dd hp ?_;rw[hp2];exact h w' _ (I.tok _) rw'
theorem d_in {Q:Value->Shared->Prop} (hu:A.units+1<cLine) (I:Inv X pins σ H s) (g:DGet H a y o) (ry:yR y u) (h:∀ s',Inv X pins σ H s'->Q (.bool o.isSome) s') :
  wpAny 'f' A (compareOp .In u (.ref a)) Q E s:=by
 rcases g with ⟨kvs,k,e,ey,l⟩|⟨kvs,k,b,e,ey,eb,l⟩
 .subst ey;obtain ⟨z,hd,vs,rel,dd⟩:=bB I.hok e;refine wpAny_in_of (zeb ry) hd dd.mapOf ?_;rw[← (rel.val k).isSome_eq,← l];exact h _ (I.tok _)
 .subst ey;cases (show u=Value.ref b from ry);obtain ⟨z,hd,xs,rel,dd⟩:=zgd I.hok e;refine wpAny_in_heap (ZaL hu) (cJ I.hok eb) hd dd ?_;have q:=(rel.val k).isSome_eq;rw[ZbL] at q;rw[← q,← l];exact h _ (I.tok _)
theorem zmL {Q:Value->Shared->Prop} (hu:A.units+1<cLine) (I:Inv X pins σ H s) (g:DGet H a y o) (ry:yR y u) (h:∀ s',Inv X pins σ H s'->Q (.bool (!o.isSome)) s') :
  wpAny 'f' A (compareOp .NotIn u (.ref a)) Q E s:=by
 rcases g with ⟨kvs,k,e,ey,l⟩|⟨kvs,k,b,e,ey,eb,l⟩
 .subst ey;obtain ⟨z,hd,vs,rel,dd⟩:=bB I.hok e;refine wpAny_notIn_of (zeb ry) hd dd.mapOf ?_;rw[← (rel.val k).isSome_eq,← l];exact h _ (I.tok _)
 .subst ey;cases (show u=Value.ref b from ry);obtain ⟨z,hd,xs,rel,dd⟩:=zgd I.hok e;refine wpAny_notIn_heap (ZaL hu) (cJ I.hok eb) hd dd ?_;have q:=(rel.val k).isSome_eq;rw[ZbL] at q;rw[← q,← l];exact h _ (I.tok _)
theorem zeg {h':Heap} {t':Nat} {ob:HO} (I:Inv X pins σ H s) (mu:Mut (H a)) (hs:Heap.SameBut a s.heap h') (he:∃ q,h'.get? a=some q) (new:wY X.prog X.w (xM H a ob) h' a ob) (ht:0<t':=by first|exact ZP _|exact L2.Inv.tk (by assumption)|exact L2.Inv.tk ‹L2.Inv _ _ _ _ _› | assumption|omega) :
  Inv X pins σ (xM H a ob) { s with heap:=h',toks:=t' } :=
 I.write (x:=a) (e:=a) mu (.inl rfl) (fun b q hb z=>(hs.2 b hb).trans z) he new
theorem zk6 {P:Program} {w:World} {H':Hp} {h':Heap} {kvs:List (xS×V)} {vs:List (xS×Value)} (z:kvs.length<=sizeLine) (hd:(a==sysModules)=false) (rel:KV kvs vs) (dd:h'.DictOf (xQ P w) a vs) :
  wY P w H' h' a (.dK kvs):=⟨z,hd,vs,rel,dd⟩
theorem ziq {H':Hp} {Q:Unit->Shared->Prop} (hu:A.units+1<cLine) (I:Inv X pins σ H s) (g:DPut H a y v H') (ry:yR y u) (rv:yR v r) (h:∀ s',Inv X pins σ H' s'->Q () s') :
  wpAny 'f' A (setItem (.ref a) u r) Q E s:=by
 rcases g with ⟨kvs,k,e,ey,l,eH⟩|⟨kvs,k,b,e,ey,eb,l,eH⟩
 .subst ey eH;obtain ⟨z,hd,vs,rel,dd⟩:=zoE I.hok e;have hz:vs.length<=sizeLine:=by rw[← rel.length];exact z
  have hl:(rH kvs k v).length<=sizeLine:=by have:=pA kvs k v;omega
  refine wpAny_setItem_pairs (hsz:=hz) (zeb ry) dd fun h' dd' hs=>h _ ?_;have he:∃ q,h'.get? a=some q:=let ⟨q,_,_,hq,_⟩:=dd';⟨q,hq⟩;exact zeg I (by rw[e];exact True.intro) hs he (zk6 hl hd (rel.put k rv) dd')
 .subst ey eH;cases (show u=Value.ref b from ry);obtain ⟨z,hd,xs,rel,dd⟩:=dt_of I.hok e;have hz:xs.length<=sizeLine:=by rw[← ZbO rel];exact z
  have hl:(rH kvs k v).length<=sizeLine:=by have:=pA kvs k v;omega
  refine wpAny_setItem_heap (hsz:=hz) (ZaL hu) (cJ I.hok eb) dd fun h' dd' hs=>h _ ?_;obtain ⟨q,es,ep,hq,h2,h3,h4,_,h5⟩:=dd';refine zeg I (by rw[e];exact True.intro) hs ⟨q,hq⟩ ⟨hl,hd,_,(rel.put k eb rv).keeps fun c ys ec=>?_,q,es,ep,hq,h2,h3,h4,h5⟩;rw[yS (ne_of ec e (fun z=>nomatch z))];exact ec
end
section
variable {X:Cx} {pins:List (Addr×Obj)} {σ:St} {H:Hp} {s:Shared} {a:Addr} {kvs:List (xS×V)} {k:xS} {u:Value} {A:Around} {E:Value->Shared->Prop}
theorem d_len {Q:Value->Shared->Prop} (I:Inv X pins σ H s) (e:Rd H a (.dK kvs)) (h:∀ t s',Inv X pins σ H s'->Q (.int kvs.length t) s'):wpAny 'f' A (call (.builtin "len") [.ref a]) Q E s:=by
 obtain ⟨z,hd,vs,rel,dd⟩:=bB I.hok e;refine call_len_dict hd dd (by rw[← rel.length];rw[Z5] at z;omega) ?_;rw[← rel.length];exact h _ _ (I.tok _)
end
section
variable {X:Cx} {o i e value:Expr} {pos pos' tpos:Pos} {td ty tv:TE}
end
theorem zkg {P:Program} {w:World} {H:Hp} (h:Heap) (hb:sysModules<h.objs.size):wY P w H (h.push { cls:=.type "dict", data:=.dict #[] }) h.objs.size (.dK []) :=
 ⟨Zg _,beq_eq_false_iff_ne.mpr (Ne.symm (Zr hb)),[],.nil,Heap.DictOf.new h⟩
section
variable {X:Cx} {pos:Pos}
end
def zeH:List (TE×TE)->St->Hp->(List (V×V)->Hp->Prop)->Prop
 | [],_,H,Q=>Q [] H
 | (tk,tv)::r,σ,H,Q=>tk σ H fun x H1=>tv σ H1 fun y H2=>zeH r σ H2 fun ps H3=>Q ((x,y)::ps) H3
abbrev VV:List (V×V)->List (Value×Value)->Prop:=Paired fun p q=>yR p.1 q.1/\yR p.2 q.2
def PPs (X:Cx) (pos:Pos) (keys:List (Option Expr)) (values:List Expr) (trs:List (TE×TE)):Prop :=
 ∀ (pins:List (Addr×Obj)) (s:Shared) (σ:St) (H:Hp) (Q:List (V×V)->Hp->Prop),Inv X pins σ H s->zeH trs σ H Q ->
  wpAny 'f' X.A (evalPairs (pairTrees keys values X.env pos)) (fun vs s'=>∃ ps H',Inv X pins σ H' s'/\VV ps vs/\Q ps H') X.xe s
theorem zlH {X:Cx} {pos:Pos}:PPs X pos [] [] []:=fun pins s σ H Q I h=>pairTrees_nil_walk ⟨[],H,I,.nil,h⟩
theorem zjs {X:Cx} {pos:Pos} {k v:Expr} {ks:List (Option Expr)} {vs:List Expr} {tk tv:TE} {trs:List (TE×TE)} (hk:PE X k tk) (hv:PE X v tv) (hr:PPs X pos ks vs trs) :
  PPs X pos (some k::ks) (v::vs) ((tk,tv)::trs):=fun pins s σ H Q I h =>
 pairTrees_cons_walk (wQ (hk pins s σ H _ I h) fun u s1 ⟨x,H1,I1,rx,q1⟩=>wQ (hv pins s1 σ H1 _ I1 q1) fun w2 s2 ⟨y,H2,I2,ry,q2⟩ =>
  wQ (hr pins s2 σ H2 _ I2 q2) fun ws s3 ⟨ps,H3,I3,rel,q3⟩=>⟨(x,y)::ps,H3,I3,.cons ⟨rx,ry⟩ rel,q3⟩)
def cQ (kvs xF:List (xS×V)):List (xS×V):=xF.foldl (fun acc kv=>rH acc kv.1 kv.2) kvs
theorem KV.merge:∀ {xF:List (xS×V)} {rs:List (xS×Value)} {kvs:List (xS×V)} {vs:List (xS×Value)},KV xF rs->KV kvs vs->KV (cQ kvs xF) (merged vs rs):=by
 intro xF rs kvs vs r;unfold KV at r
 induction r generalizing kvs vs with
 |nil=>intro q;exact q
 | @cons p q ps qs h t ih =>
  intro r0
  have e:KV (rH kvs p.1 p.2) (stored vs q.1 q.2):=by
   have:=r0.put p.1 h.2;rw[← h.1];exact this
  exact ih e
theorem mJ:∀ (xF kvs:List (xS×V)),(cQ kvs xF).length<=kvs.length+xF.length
 | [],kvs=>by show kvs.length<=kvs.length+0;omega
 |p::r,kvs=>by
  have h1:=mJ r (rH kvs p.1 p.2);have h2:=pA kvs p.1 p.2;show (cQ (rH kvs p.1 p.2) r).length<=_;rw[Ze];omega
theorem za5 {P:Program} {w:World}:∀ {kvs:List (xS×V)} {ws:List (Value×Value)},VV (kvs.map fun kv=>(kV kv.1,kv.2)) ws->∃ rs,Carries (xQ P w) ws rs/\KV kvs rs
 | [],_,r=>by rw[zzV] at r;cases r;exact ⟨[],True.intro,.nil⟩
 |p::kvs,_,r=>by
  rw[zzU] at r
  cases r with
  | @cons a b as bs h t =>
   obtain ⟨rs,c,q⟩:=za5 (P:=P) (w:=w) t;obtain ⟨b1,b2⟩:=b;exact ⟨(p.1,b2)::rs,⟨zeb h.1,rfl,c⟩,.cons ⟨rfl,h.2⟩ q⟩
def tDisp (trs:List (TE×TE)):TE:=fun σ H Q=>∀ p,H p=none->zeH trs σ (xM H p (.dK [])) fun ps H2=>H2 p=some (.dK [])/\∃ kvs:List (xS×V),ps=kvs.map (fun kv=>(kV kv.1,kv.2))/\kvs.length<=15/\Q (.ref p) (xM H2 p (.dK (cQ [] kvs)))
theorem zlO {X:Cx} {pos:Pos} {keys:List (Option Expr)} {values:List Expr} {trs:List (TE×TE)} (h:PPs X pos keys values trs) (hall:keys.all (·.isSome)=true) (hl:keys.length=values.length) (h0:keys≠[])
  (h15:keys.length<=15):PE X (.Dict keys values pos) (tDisp trs):=by
 intro pins s σ H Q I q;have hn:=I.hok.fresh (zzR s.heap.objs.size);have I1:=I.laid (a:=s.heap.objs.size) (o:=.dK []) (h':=s.heap.push { cls:=.type "dict", data:=.dict #[] }) (t':=s.toks) (fun _ _ q=>Zc _ q) (zzR _) (zkg s.heap I.big);refine wpAny_Dict_walk (knd:=xQ X.prog X.w) hall hl h0 h15 (wQ (h pins _ σ _ _ I1 (q _ hn)) fun ws s2 ⟨ps,H2,I2,rel,e,kvs,ep,lk,q2⟩=>?_);subst ep;obtain ⟨rs,c,rk⟩:=za5 (P:=X.prog) (w:=X.w) rel;obtain ⟨z,hd,vs0,r0,dd⟩:=zoE I2.hok e;cases r0;refine ⟨rs,c,dd,fun h' dd' hs=>⟨.ref s.heap.objs.size,_,?_,rfl,q2⟩⟩
 have hz:(cQ [] kvs).length<=sizeLine:=by
  have h1:=mJ kvs [];rw[Zj] at h1;rw[Z5];omega
 have he:∃ q,h'.get? s.heap.objs.size=some q:=let ⟨q,_,_,hq,_⟩:=dd';⟨q,hq⟩;exact zeg I2 (by rw[e];exact True.intro) hs he (zk6 hz hd (rk.merge .nil) dd') (Nat.add_pos_left I2.tk _)
structure M1 (X:Cx) (o:Expr) (m:Str) (apos:Pos) (e:Expr) (cpos:Pos):Prop where
 base:attributeBase o m X.env (eval o X.env)=eval o X.env
 few:((backTo cpos (starEach [e] X.env)).all (fun x=>!x.1)&&(backToKw cpos (keywordEach [] X.env)).all (fun x=>x.1.isSome)
  && decide (([e]:List Expr).length+([]:List Keyword).length+(if ([]:List Keyword).isEmpty then 0 else 1)<30))=true
 line:(apos.endLine==cpos.line)=true
 trees:backTo cpos (starEach [e] X.env)=[(false,eval e X.env)]
def IsD (H:Hp) (a:Addr):Prop:=(∃ kvs,Rd H a (.dK kvs))\/∃ kvs,Rd H a (.dT kvs)
theorem zou {X:Cx} {pins:List (Addr×Obj)} {σ:St} {H:Hp} {s:Shared} {a:Addr} (I:Inv X pins σ H s) (d:IsD H a) :
  s.TypeIs (.ref a) "dict" /\ (∀ b,Value.ref a=.ref b->∃ ob,s.heap.get? b=some ob/\ob.dict=none)/\(a==sysModules)=false:=by
 rcases d with ⟨kvs,e⟩|⟨kvs,e⟩
 .obtain ⟨_,hd,vs,_,dd⟩:=bB I.hok e;refine ⟨dd.typeIs,fun b q=>?_,hd⟩;cases q;obtain ⟨ob,_,_,h1,h2,_⟩:=dd;exact ⟨ob,h1,h2.2.1⟩
 .obtain ⟨_,hd,xs,_,dd⟩:=zgd I.hok e;refine ⟨dd.typeIs,fun b q=>?_,hd⟩;cases q;obtain ⟨ob,_,_,h1,h2,_⟩:=dd;exact ⟨ob,h1,h2.2.1⟩
section
variable {X:Cx} {pins:List (Addr×Obj)} {σ:St} {H:Hp} {s:Shared} {a:Addr} {y d:V} {u r:Value} {o:Option V} {A:Around} {E:Value->Shared->Prop}
theorem zoJ {Q:Value->Shared->Prop} (hu:A.units+1<cLine) (I:Inv X pins σ H s) (g:DGet H a y o) (ry:yR y u) (rd:yR d r) (h:∀ w' s',Inv X pins σ H s'->yR (o.getD d) w'->Q w' s') :
  wpAny 'f' A (call (.builtin "dict.get") [.ref a,u,r]) Q E s:=by
 rcases g with ⟨kvs,k,e,ey,l⟩|⟨kvs,k,b,e,ey,eb,l⟩
 .subst ey;obtain ⟨z,hd,vs,rel,dd⟩:=bB I.hok e;refine call_meetsIn Zbh dd.typeIs PySem.F.entry_dict_get (PySem.F.args_dict_get_3 _ _ _) (meets_dict_get_default (xQ X.prog X.w) a (zeb ry) hd r) ⟨_,dd.mapOf,h _ _ (I.tok _) ?_⟩;rw[l];exact (rel.val k).getD rd
 .subst ey;cases (show u=Value.ref b from ry);obtain ⟨z,hd,xs,rel,dd⟩:=zgd I.hok e;refine call_meetsIn Zbh dd.typeIs PySem.F.entry_dict_get (PySem.F.args_dict_get_3 _ _ _) (meetsH_dict_get_default (tupleKind (xQ X.prog X.w)) a b hd r) ⟨ZaL hu,k,xs,cJ I.hok eb,dd,h _ _ (I.tok _) ?_⟩;rw[l];exact (rel.val k).getD rd
end
section
variable {X:Cx} {o e f:Expr} {apos cpos:Pos} {td ty tx:TE}
end
section
variable {X:Cx} {pins:List (Addr×Obj)} {σ:St} {H:Hp} {s:Shared} {a:Addr} {kvs:List (xS×V)} {A:Around} {E:Value->Shared->Prop}
end
section
variable {X:Cx} {pins:List (Addr×Obj)} {σ:St} {H:Hp} {s:Shared} {a:Addr} {y:V} {u:Value} {A:Around} {E:Value->Shared->Prop}
end
end L2
namespace Att
open PySem PySem.W PySem.Calls PyProof.Rows
theorem zae {P:Params} {h:Heap}:∀ (ns:List Int) (vs:List Value),WellAll P h vs (ns.map WData.int)->IntsAre vs ns:=by
 intro ns
 induction ns with
 |nil =>
  intro vs w;rw[zzV] at w;cases w;exact .nil
 |cons n ns ih =>
  intro vs w;rw[zzU] at w
  cases w with
  |cons a b =>
   cases a;exact .cons _ _ (ih _ b)
theorem zgW {l:OpenLaw} {n:Nat} (hn:l.most=some n) {P:Params} {h:Heap} {args:List WData} {vU:List Value}
  (hpre:l.row.toRowW.claim.pre args=true) (hwl:WellAll P h vU args) :
  ∃ a vs ns,vU=[Value.ref a]/\args=[WData.list (ns.map WData.int)]/\h.get? a=some { cls:=.type "list", data:=.seq vs.toArray }/\IntsAre vs ns/\ns.length<=n:=by
 have hsh:WShape.hasAll [] args [.list .int]=true:=(pre_splitW hpre).1;have hc:l.pre.holds [] { args:=args }=true:=(pre_splitW hpre).2;obtain ⟨d,r,rfl,h1,h2⟩:=hasAllW_cons hsh;obtain rfl:=hasAllW_nil h2;obtain ⟨xs,rfl,h3⟩:=hasW_list h1;obtain ⟨ns,rfl⟩:=items_int h3
 have hlen:ns.length<=n:=by
  unfold OpenLaw.pre at hc
  have h4:(WTm.not (.lt (.lit (.int (n:Int))) (.len (.arg 0)))).holds [] { args:=[.list (ns.map .int)] }=true:=by
   have h4:=(holds_andW hc).1;rw[hn] at h4;exact h4
  have h5:=condW_of h4 (w_not (w_lt w_lit (w_len_list (w_arg rfl))));rw[zzM] at h5;refine Nat.le_of_not_lt fun q=>?_;have q':(n:Int)<((ns.length:Nat):Int):=by omega
  first
   | (rw[decide_eq_true q'] at h5;exact absurd h5 'c')
   | (simp at h5;omega)
 cases hwl with
 |cons w1 w2 =>
  cases w2
  cases w1 with
  |list ho hall=>exact ⟨_,_,ns,rfl,rfl,ho,zae ns _ hall,hlen⟩
theorem zhc (l:OpenLaw) (args:List WData):l.row.toRowW.claim.post args (.bool true) args=true :=
 postW_of (r:=l.row.toRowW) (X:=(true==true))
  (show WShape.has [] (.bool true) .bool=true by first|rfl|decide|simp[WShape.has,WShape.arms,WShape.armsAll])
  (show (WTm.eq .res (.lit (.bool true))).value [] { args:=args,res:=some (.bool true),after:=args }=some (.bool (true==true)) from w_eq_bool (w_res rfl) w_lit) rfl
theorem attach_call {l:OpenLaw} {n:Nat} {q:Program} {loose:List Str} {XP:(Str->Option Value)->Heap->Prop} {YP:World->Heap->Prop} {d:DefRec}
  (hn:l.most=some n) (hdf:d.params.defaults=[])
  (call:∀ (w:World) (s₀ s₁:Shared) (mg mb:Str->Option Value) (fa:Addr) (o:Obj) (pm cd doc:Value) (a:Addr) (vs:List Value) (ns:List Int),
   Ground q loose [] XP w s₀ mg mb s₁.heap->YP w s₁.heap ->
   s₁.heap.get? fa=some o->o.data=.func (docDef d.name d.params d.body d.scope pm cd doc)->s₁.heap.CodeRec cd d.name->mg d.name=fa⁻¹ ->
   s₁.heap.get? a=some { cls:=.type "list", data:=.seq vs.toArray }->IntsAre vs ns->ns.length<=n->s₁.gens=#[] ->
   codeAny (model l.prog w) callerA (.call (.ref fa) ⟨[.ref a],[]⟩) (fun r s'=>r=.ok (.ret (.bool true))/\OldK s₁.heap s'.heap/\s'.os=s₁.os/\AllBare s'.gens) s₁) :
  WalkO q loose XP YP l.row.toRowW d [] (fun f vs=>PySem.call f vs):=by
 intro w s₀ s₁ mg mb G Y fa o pm cd doc dV kV ho hd hcd hD hmg hg args vU as hpre hlay hrd hwl hlo;obtain rfl:dV=.none:=Dflts.none hD hdf;obtain rfl:kV=.none:=Dflts.noKw hD;obtain ⟨a,vs,ns,rfl,rfl,hobj,hints,hlen⟩:=zgW hn hpre hwl;refine enter_call (Zb1 (call w s₀ s₁ mg mb fa o pm cd doc a vs ns G Y ho (fd_plain hd) hcd hmg hobj hints hlen hg) fun r s' hq=>?_);obtain ⟨rfl,h2,h3,h4⟩:=hq;exact ⟨.inl ⟨.bool true,.bool true,[],rfl,fun _=>rfl,.bool true,zhc l _,fun _=>⟨List.Pairwise.nil,fun _ hm=>(nomatch hm)⟩⟩,h2,h3,h4⟩
section
variable {prog:Program} {w:World} {A:Around} {E:Value->Shared->Prop} {s:Shared} {K:Frag}
end
end Att
namespace L2
open PySem PySem.Spec PyProof.Rows
theorem zb4:∀ {vs:List Value} {ns:List Int},IntsAre vs ns->yV (ns.map V.int) vs
 |_,_,.nil=>.nil
 |_,_,.cons n t h=>.cons ⟨t,rfl⟩ (zb4 h)
def Only (H:Hp):Prop:=∀ b,H b=none\/∃ o xs,H b=some (.frz o (.lst xs))
theorem zjQ {P:Program} {w:World} {K:PySem.W.Frag} {mg mb:Str->Option Value} {CX:CXT} {k:Nat} {fa a:Addr} {fd:FuncData} {x:Str} {sp:Sp} {s₁:Shared} {vs:List Value} {ns:List Int}
  (KX:K.In s₁.heap) (hns:s₁.heap.Ns mainGlobals mg) (hb:s₁.heap.Ns builtinsNs mb) (hbb:∀ x:Str,x ≠ "__name__" -> mb x=bootBuiltins x) (hlim:s₁.heap.NoLimit) (hg:s₁.gens=#[])
  (ha:s₁.heap.get? a=some { cls:=.type "list", data:=.seq vs.toArray }) (hi:IntsAre vs ns) (hl:ns.length<=sizeLine) (hr:Room k callerA)
  (F:∀ base:Heap,K.In base->base.Ns mainGlobals mg->FnOk P w K mg base CX k fa fd [x] sp) (hbind:∀ (s:Shared) (u:Value),BindsTo s fd ⟨[u],[]⟩ [(x,u)])
  (hsp:∀ H:Hp,Only H->dL K H a (ns.map V.int)->sp [.ref a] H (fun v _=>v=.bl true) fun _ _ _=>False)
  (hCX:∀ H e s',CX [] H s₁ (fun _ _ _=>False) e s'->False) (hx:fd.scope.names.lookup x=some .local) :
  codeAny (model P w) callerA (.call (.ref fa) ⟨[.ref a],[]⟩) (fun r s'=>r=.ok (.ret (.bool true))/\OldK s₁.heap s'.heap/\s'.os=s₁.os/\AllBare s'.gens) s₁:=by
 have rv:=zb4 hi;have lenV:=hi.length
 have core:∀ H:Hp,Only H->dL K H a (ns.map V.int)->nA P w H s₁.heap->(∀ b,H b≠none->b=a)->(H a≠none->K.lookup a=none) ->
   codeAny (model P w) callerA (.call (.ref fa) ⟨[.ref a],[]⟩) (fun r s'=>r=.ok (.ret (.bool true))/\OldK s₁.heap s'.heap/\s'.os=s₁.os/\AllBare s'.gens) s₁:=by
  intro H hO hS hok hA hK;have base_of:∀ {b:Addr} {o:Obj},s₁.heap.get? b=some o->H b=none->(hidT s₁.heap H).get? b=some o:=fun e n=>zj5 e n
  have noA:∀ {b:Addr} {o:Obj} {es:Array DictEntry} {ep:Nat},s₁.heap.get? b=some o->o.data=.dict es ep->H b=none:=fun {b o es ep} e d=>by
   cases q:H b with
   |none=>rfl
   |some u =>
    have e':b=a:=hA b (by rw[q];simp);subst e';rw[ha] at e;cases e;have d':Data.seq vs.toArray _=Data.dict es ep:=d;cases d'
  have nsK:∀ {b:Addr} {m:Str->Option Value},s₁.heap.Ns b m->(hidT s₁.heap H).Ns b m:=fun {b m} ⟨o,es,ep,e,d,r⟩=>⟨o,es,ep,base_of e (noA e d),d,r⟩
  have hKb:K.In (hidT s₁.heap H):=fun b o e=>base_of (KX b o e) (by
   cases q:H b with
   |none=>rfl
   |some u =>
    have e':b=a:=hA b (by rw[q];simp);subst e';rw[hK (by rw[q];simp)] at e;cases e)
  have hM:Mod K mg (hidT s₁.heap H):=⟨hKb,nsK hns,⟨mb,nsK hb,hbb⟩,let ⟨mc,h1,h2⟩:=hlim;⟨mc,nsK h1,h2⟩⟩;have e0:Env0 P w K mg (hidT s₁.heap H) callerA [] { s₁ with toks:=1 } H:=⟨rfl,hM,fun b o e=>zlX e,Nat.le_of_eq (zh1 _ _),trivial,fun b hb=>absurd (show b∈([]:List Addr) from hb) 'g',hok,.of_eq hg,Nat.one_pos⟩;refine Zb1 ((F _ hKb (nsK hns)).one x rfl hx callerA [] s₁ H ⟨[.ref a],[]⟩ [.ref a] [.ref a] _ _ hr e0 (hbind s₁ (.ref a)) (.cons rfl .nil) (hsp H hO hS)) fun r s' h=>?_
  cases r with
  |error e=>exact (hCX H e s' h).elim
  |ok fl =>
   cases fl with
   |next=>exact False.elim h
   |brk=>exact False.elim h
   |cont=>exact False.elim h
   |ret u =>
    obtain ⟨v,H',os,_,bare,un,hok',r',q⟩:=h;have q':v=.bl true:=q;subst q';obtain rfl:u=Value.bool true:=r';refine ⟨rfl,OldK.of_keep fun b o e=>?_,os,bare⟩
    cases q:H b with
    |none=>exact un.keep b o e q (by intro z;exact absurd (show b∈([]:List Addr) from z) 'g') 'g'
    |some u =>
     rcases hO b with z|⟨ob,xs,z⟩
     .rw[q] at z;cases z
     .have z2:=un.frzs b ob _ z;obtain ⟨e1,_⟩:=hok b _ z;obtain ⟨e2,_⟩:=hok' b _ z2;rw[e] at e1;cases e1;exact e2
 cases hk:K.lookup a with
 |some o =>
  have e:=KX a o hk;rw[ha] at e;cases e;refine core (fun _=>none) (fun _=>.inl rfl) (.inr ⟨_,vs.toArray,_,hk,rfl,rfl,rfl,by rw[zzS,lenV];exact hl,by simpa using rv⟩) (fun b u z=>by have z':(none:Option HO)=some u:=z;cases z') (fun b z=>absurd rfl z) fun z=>absurd rfl z
 |none =>
  refine core (fun b=>if b=a then some (.frz { cls:=.type "list", data:=.seq vs.toArray } (.lst (ns.map V.int))) else none) (fun b=>?_) (.inl (.inr ⟨{ cls:=.type "list", data:=.seq vs.toArray },if_pos rfl⟩)) (fun b u z=>?_) (fun b z=>?_) fun _=>hk
  .by_cases hb:b=a
   .exact .inr ⟨_,_,if_pos hb⟩
   .exact .inl (if_neg hb)
  .by_cases hb:b=a
   .have z':=(if_pos hb).symm.trans z;cases z';subst hb;exact ⟨ha,by rw[zzM];exact hl,vs,_,rv,ha⟩
   .have z':=(if_neg hb).symm.trans z;cases z'
  .by_cases hb:b=a
   .exact hb
   .exact absurd (if_neg hb) z
end L2
namespace L2
open PySem PySem.Spec PyProof.Rows
abbrev KOf {K:PySem.W.Frag} {h:Heap} (_:K.In h):PySem.W.Frag:=K
theorem walk_of {l:PySem.W.OpenLaw} {n k:Nat} {q:Program} {loose:List Str} {XP:(Str->Option Value)->Heap->Prop} {YP:World->Heap->Prop} {d:DefRec} {K:Params->PySem.W.Frag} {CX:World->CXT} {sp:World->Sp} {x:Str}
  (hn:l.most=some n) (hn2:n<=sizeLine) (hdf:d.params.defaults=[]) (hr:Room k callerA)
  (hY:∀ (w:World) (h:Heap),YP w h->(K w.params).In h)
  (F:∀ (w:World) (mg:Str->Option Value) (fa:Addr) (h:Heap),(K w.params).In h->h.Ns mainGlobals mg->mg d.name=fa⁻¹ ->
   ∃ fd:FuncData,(∀ (s:Shared) (u:Value),BindsTo s fd ⟨[u],[]⟩ [(x,u)])/\fd.scope.names.lookup x=some .local /\
    ∀ base:Heap,(K w.params).In base->base.Ns mainGlobals mg->FnOk l.prog w (K w.params) mg base (CX w) k fa fd [x] (sp w))
  (hsp:∀ (w:World) (H:Hp) (a:Addr) (ns:List Int),ns.length<=n->Only H->dL (K w.params) H a (ns.map V.int)->sp w [.ref a] H (fun v _=>v=.bl true) fun _ _ _=>False)
  (hCX:∀ (w:World) (H:Hp) (s:Shared) (e:Value) (s':Shared),CX w [] H s (fun _ _ _=>False) e s'->False) :
  PySem.W.WalkO q loose XP YP l.row.toRowW d [] (fun f vs=>PySem.call f vs):=by
 refine Att.attach_call hn hdf fun w s₀ s₁ mg mb fa o pm cd doc a vs ns G Y ho hd hcd hmg hobj hints hlen hg=>?_;have KX:=hY w _ Y;obtain ⟨fd,hb,hx,hF⟩:=F w mg fa _ KX G.T.g hmg;exact zjQ KX G.T.g G.T.b G.T.builtins G.T.nolimit hg hobj hints (Zb hlen hn2) hr hF hb (fun H hO hS=>hsp w H a ns hlen hO hS) (fun H e s'=>hCX w H s₁ e s') hx
end L2
/- THE LAST THEOREM (shape;LID,My.* are yours):
   My.Adr: a structure of the addresses that your layer names (classes,functions);My.Txt K t: a structure (Prop) of the equations over K;
   My.txt_mk:{K} {implicit addresses ..} (e1:nsIn K mainGlobals "law" = some (f⁻¹)) (e2:K.lookup f=some ⟨oc,od,.func (fnOf "law" "law" params body scope dV kV doc pm an cdv ct),sl⟩) (e3:codeIn K cdv "law" = true) ..:∃ t,My.Txt K t
set_option maxRecDepth 100000 in
set_option maxHeartbeats 0 in
theorem PySem.Challenge.cw_LID_holds : PySem.Challenge.rw_LID.Holds := by
 w_on;o_law;k_head;(case hw=>w_witness2)
 k_fill
 refine L2.walk_of (l:=PySem.Challenge.rw_LID) (n:=63) (k:=40) (x := "script") (CX:=fun w=>..) (sp:=fun _=>My.sp_law) rfl 'c' rfl ⟨rfl,by decide,by decide⟩ (fun w h Y=>PySem.W.kIn_of Y) ?F ?S ?C
 case F =>
  intro w mg fa h KX G hmg
  have T:∃ t,My.Txt (L2.KOf KX) t:=by
   dsimp only[L2.KOf]                          -- K must stand as «<heap const> w.params» for k_is;refine' My.txt_mk ?e1 ?e2 ?e3 ..
   (case e1=>PySem.W.k_is)                    -- in the order: a name -> its address -> its object -> its parts
   (case e2=>PySem.W.k_is)
   ..
  obtain ⟨t,T⟩:=T;have e0:=hmg.symm.trans (PySem.W.mg_of KX G T.law);cases e0                                       -- fa is the law's own address;exact ⟨_,fun s u=>.of_eq rfl,fun base kb nb=>My.law_fn T kb nb⟩     -- if «.of_eq rfl» comes too early: refine' ⟨_,?b,fun base kb nb=>My.law_fn T kb nb⟩;exact fun s u=>.of_eq rfl
 case S=>exact fun w H a ns hl hO hS=>..
 case C=>exact ..
(the tactic k_is has no namespace: write k_is) -/
namespace L2
open PySem PySem.Spec PyProof.Rows
def zmn (s:Stmt) (j:Nat):Stmt:=match s with
 | .ClassDef _ _ _ body _ _ _ _ _ _ _=>body.getD j (.Pass ⟨0,0,0,0⟩)
 |_=>.Pass ⟨0,0,0,0⟩
def qM (s:Stmt):Arguments:=match s with
 | .FunctionDef _ a _ _ _ _ _ _ _ _=>a
 |_=>{ posonlyargs:=[],args:=[],vararg:=none,kwonlyargs:=[],kw_defaults:=[],kwarg:=none,defaults:=[] }
def yZ (s:Stmt):List Stmt:=match s with
 | .FunctionDef _ _ b _ _ _ _ _ _ _=>b
 |_=>[]
def zD (s:Stmt):Scope:=match s with
 | .FunctionDef _ _ _ _ _ _ sc _ _ _=>sc
 |_=>{ kind:=.function,names:=[],isGenerator:=false,isCoroutine:=false }
abbrev CX0:CXT:=fun _ _ _ _ _ _=>False
abbrev E0:XK:=fun _ _ _=>False
theorem zhk {X:Cx}:gF CX0 X E0:=fun _ _ _ _ _ _ _ h=>h.elim
section
variable {P:Program} {w:World} {K:PySem.W.Frag} {mg:Str->Option Value} {base:Heap}
end
section
variable {X:Cx}
end
section
variable {κ:Type} [DecidableEq κ]
end
end L2
namespace L3
open PySem PySem.Spec PyProof.Rows L2
inductive W where
 |non|bl (b:Bool)|int (i:Int)|str (x:Str)|ty (n:String)|ref (a:Addr)|tup (ws:List W)|lsf (ws:List W)
  |exc (C:Addr) (ns:List Str) (ws:List W)|dcf (ks:List Str) (ws:List W)
abbrev yI:=PySem.W.Frag
def KL (K:yI) (a:Addr) (xs:List V):Prop:=∃ (o:Obj) (its:Array Value) (n:Nat),K.lookup a=some o/\o.cls=.type "list" /\ o.dict=none/\o.data=.seq its n/\its.size<=sizeLine/\yV xs its.toList
def zmW:List DictEntry->List Str->List V->Prop
 | [],ks,vs=>ks=[]/\vs=[]
 |e::r,ks,vs=>∃ k t v ks' vs',ks=k::ks'/\vs=v::vs'/\e.key=.str k t/\yR v e.val/\zmW r ks' vs'
def KD (K:yI) (a:Addr) (ks:List Str) (vs:List V):Prop:=∃ (o:Obj) (es:Array DictEntry) (ep:Nat),K.lookup a=some o/\o.ExactDict/\o.data=.dict es ep/\es.size<=sizeLine/\(a==sysModules)=false/\zmW es.toList ks vs
def ExO (a C:Addr) (dx:Option Addr):Heap->Prop:=fun h=>∃ fs,h.get? a=some { cls:=.ref C,dict:=dx,data:=.fields fs }
def ExAt (H:Hp) (a C:Addr) (l:List (Str×V)):Prop:=(H a=some (.ext (ExO a C none))/\l=[])\/∃ dx,H a=some (.ext (ExO a C (some dx)))/\H dx=some (.xd l)
def isX:HO->Prop
 | .ext _=>True
 | .frz _ (.dK _)=>True
 | .xd _=>True
 |_=>False
mutual
def wM (K:yI) (H:Hp):W->V->Prop
 | .non,v=>v=.non
 | .bl b,v=>v=.bl b
 | .int i,v=>v=.int i
 | .str x,v=>v=.str x
 | .ty n,v=>v=.ty n
 | .ref a,v=>v=.ref a
 | .tup ws,v=>∃ a vs,v=.ref a/\gH K H a vs/\yU K H ws vs
 | .lsf ws,v=>∃ a vs,v=.ref a/\KL K a vs/\yU K H ws vs
 | .exc C ns ws,v=>∃ a vs,v=.ref a/\ExAt H a C (ns.zip vs)/\yU K H ws vs
 | .dcf ks ws,v=>∃ a vs,v=.ref a/\KD K a ks vs/\yU K H ws vs
def yU (K:yI) (H:Hp):List W->List V->Prop
 | [],vs=>vs=[]
 |w::ws,vs=>∃ v r,vs=v::r/\wM K H w v/\yU K H ws r
end
def yB (K:yI) (H H':Hp):Prop:=(∀ a xs,gH K H a xs->gH K H' a xs)/\∀ a o,isX o->H a=some o->H' a=some o
theorem yB.refl {K:yI} {H:Hp}:yB K H H:=⟨fun _ _ h=>h,fun _ _ _ h=>h⟩
theorem yB.trans {K:yI} {H H1 H2:Hp} (a:yB K H H1) (b:yB K H1 H2):yB K H H2:=⟨fun x xs h=>b.1 x xs (a.1 x xs h),fun x o i h=>b.2 x o i (a.2 x o i h)⟩
theorem ExAt.mono {K:yI} {H H':Hp} (g:yB K H H') {a C:Addr} {l:List (Str×V)} (h:ExAt H a C l):ExAt H' a C l:=by
 rcases h with ⟨h,e⟩|⟨dx,h,h'⟩
 .exact .inl ⟨g.2 _ _ True.intro h,e⟩
 .exact .inr ⟨dx,g.2 _ _ True.intro h,g.2 _ _ True.intro h'⟩
section
variable {K:yI} {H H':Hp}
mutual
theorem wM.mono (g:yB K H H'):∀ {w:W} {v:V},wM K H w v->wM K H' w v
 | .non,_,h=>h
 | .bl _,_,h=>h
 | .int _,_,h=>h
 | .str _,_,h=>h
 | .ty _,_,h=>h
 | .ref _,_,h=>h
 | .tup _,_,⟨a,vs,e,s,r⟩=>⟨a,vs,e,g.1 a vs s,yU.mono g r⟩
 | .lsf _,_,⟨a,vs,e,s,r⟩=>⟨a,vs,e,s,yU.mono g r⟩
 | .exc _ _ _,_,⟨a,vs,e,s,r⟩=>⟨a,vs,e,s.mono g,yU.mono g r⟩
 | .dcf _ _,_,⟨a,vs,e,s,r⟩=>⟨a,vs,e,s,yU.mono g r⟩
theorem yU.mono (g:yB K H H'):∀ {ws:List W} {vs:List V},yU K H ws vs->yU K H' ws vs
 | [],_,h=>h
 |_::_,_,⟨v,r,e,h,t⟩=>⟨v,r,e,wM.mono g h,yU.mono g t⟩
end
theorem yU.length:∀ {ws:List W} {vs:List V},yU K H ws vs->vs.length=ws.length
 | [],_,h=>by rw[show _=[] from h];rfl
 |_::_,_,⟨v,r,e,_,t⟩=>by rw[e,Ze,Ze,yU.length t]
theorem yU.append:∀ {ws:List W} {vs:List V} {ws':List W} {vs':List V},yU K H ws vs->yU K H ws' vs'->yU K H (ws++ws') (vs++vs')
 | [],_,_,_,h,h'=>by rw[show _=[] from h];exact h'
 |_::_,_,_,_,⟨v,r,e,h,t⟩,h'=>by rw[e];exact ⟨v,_,rfl,h,yU.append t h'⟩
theorem yU.get:∀ {ws:List W} {vs:List V} {i:Nat} {w:W},yU K H ws vs->ws[i]?=some w->∃ v,vs[i]?=some v/\wM K H w v
 | [],_,_,_,_,e=>by simp at e
 |_::_,_,0,_,⟨v,r,e,h,t⟩,q=>by simp at q;subst q;subst e;exact ⟨v,rfl,h⟩
 |_::_,_,i+1,w,⟨v,r,e,h,t⟩,q=>by
  subst e;obtain ⟨u,h1,h2⟩:=yU.get (i:=i) (w:=w) t (by simpa using q);exact ⟨u,by simpa using h1,h2⟩
theorem yU.get':∀ {ws:List W} {vs:List V} {i:Nat} {v:V},yU K H ws vs->vs[i]?=some v->∃ w,ws[i]?=some w/\wM K H w v
 | [],_,_,_,h,e=>by rw[show _=[] from h] at e;simp at e
 |_::_,_,0,_,⟨v,r,e,h,t⟩,q=>by subst e;simp at q;subst q;exact ⟨_,rfl,h⟩
 |_::_,_,i+1,w,⟨v,r,e,h,t⟩,q=>by
  subst e;obtain ⟨u,h1,h2⟩:=yU.get' (i:=i) (v:=w) t (by simpa using q);exact ⟨u,by simpa using h1,h2⟩
theorem yU.set {w:W} {v:V} (q:wM K H w v):∀ {ws:List W} {vs:List V} (i:Nat),yU K H ws vs->yU K H (ws.set i w) (vs.set i v)
 | [],_,_,h=>by rw[show _=[] from h];rfl
 |_::_,_,0,⟨_,r,e,_,t⟩=>by rw[e];exact ⟨_,_,rfl,q,t⟩
 |_::_,_,i+1,⟨v,r,e,h,t⟩=>by rw[e];exact ⟨_,_,rfl,h,yU.set q i t⟩
theorem yU.take:∀ {ws:List W} {vs:List V} (n:Nat),yU K H ws vs->yU K H (ws.take n) (vs.take n)
 | [],_,_,h=>by rw[show _=[] from h];simp;rfl
 |_::_,_,0,_=>by simp;rfl
 |_::_,_,n+1,⟨v,r,e,h,t⟩=>by rw[e];exact ⟨_,_,rfl,h,yU.take n t⟩
theorem yU.drop:∀ {ws:List W} {vs:List V} (n:Nat),yU K H ws vs->yU K H (ws.drop n) (vs.drop n)
 | [],_,_,h=>by rw[show _=[] from h];simp;rfl
 |_::_,_,0,h=>h
 |_::_,_,n+1,⟨v,r,e,h,t⟩=>by rw[e];exact yU.drop n t
theorem yU.reverse:∀ {ws:List W} {vs:List V},yU K H ws vs->yU K H ws.reverse vs.reverse
 | [],_,h=>by rw[show _=[] from h];rfl
 |_::_,_,⟨v,r,e,h,t⟩=>by
  rw[e,Zad,Zad];exact yU.append (yU.reverse t) ⟨v,[],rfl,h,rfl⟩
theorem yU.dropLast {ws:List W} {vs:List V} (h:yU K H ws vs):yU K H ws.dropLast vs.dropLast:=by
 rw[List.dropLast_eq_take,List.dropLast_eq_take,h.length];exact h.take _
end
inductive O where
 |lst (ws:List W)
  |fix (ws:List W)
 |dic (kvs:List (xS×W))
 |ins (C:Addr) (fs:List (Str×W))
  |fzd (kvs:List (xS×W))
def isFz:O->Bool
 | .fzd _=>true
 |_=>false
abbrev Hw:=Addr->Option O
def put (G:Hw) (a:Addr) (o:O):Hw:=fun b=>if b=a then some o else G b
theorem zM {G:Hw} {a:Addr} {o:O}:put G a o a=some o:=by unfold put;rw[if_pos rfl]
theorem yO {G:Hw} {a b:Addr} {o:O} (h:b≠a):put G a o b=G b:=by unfold put;rw[if_neg h]
theorem zha {G:Hw} {a:Addr} {o u:O}:put (put G a o) a u=put G a u:=by
 funext b;unfold put;split<;>rfl
theorem xU {G:Hw} {a b:Addr} {o:O} (h:G a=some o) (h':G b=none):a≠b:=by
 intro e;subst e;rw[h] at h';cases h'
def yJ (K:yI) (H:Hp) {κ:Type}:List (κ×W)->List (κ×V)->Prop
 | [],l=>l=[]
 |p::r,l=>∃ v t,l=(p.1,v)::t/\wM K H p.2 v/\yJ K H r t
def RepO (K:yI) (H:Hp):O->HO->Prop
 | .lst ws,o=>∃ vs,o=.lst vs/\yU K H ws vs
 | .fix ws,o=>∃ vs ob,(o=.lst vs\/o=.frz ob (.lst vs))/\yU K H ws vs
 | .dic kvs,o=>∃ l,o=.dK l/\yJ K H kvs l
 | .ins C fs,o=>∃ dx l,o=.ins C dx l/\yJ K H fs l
 | .fzd kvs,o=>∃ ob l,o=.frz ob (.dK l)/\yJ K H kvs l
def xE (K:yI) (H:Hp) (G:Hw):Prop:=∀ a o,G a=some o->∃ u,H a=some u/\RepO K H o u
theorem yJ.mono {K:yI} {H H':Hp} (g:yB K H H') {κ:Type}:∀ {l:List (κ×W)} {l':List (κ×V)},yJ K H l l'->yJ K H' l l'
 | [],_,h=>h
 |_::_,_,⟨v,t,e,h,r⟩=>⟨v,t,e,h.mono g,yJ.mono g r⟩
theorem RepO.mono {K:yI} {H H':Hp} (g:yB K H H'):∀ {o:O} {u:HO},RepO K H o u->RepO K H' o u
 | .lst _,_,⟨vs,e,r⟩=>⟨vs,e,r.mono g⟩
 | .fix _,_,⟨vs,ob,e,r⟩=>⟨vs,ob,e,r.mono g⟩
 | .dic _,_,⟨l,e,r⟩=>⟨l,e,r.mono g⟩
 | .ins _ _,_,⟨dx,l,e,r⟩=>⟨dx,l,e,r.mono g⟩
 | .fzd _,_,⟨ob,l,e,r⟩=>⟨ob,l,e,r.mono g⟩
theorem RepO.notX {K:yI} {H:Hp}:∀ {o:O} {u:HO},isFz o=false->RepO K H o u->¬ isX u
 | .lst _,_,_,⟨vs,e,r⟩=>by subst e;exact id
 | .fix _,_,_,⟨vs,ob,e,r⟩=>by rcases e with e|e<;>subst e<;>exact id
 | .dic _,_,_,⟨l,e,r⟩=>by subst e;exact id
 | .ins _ _,_,_,⟨dx,l,e,r⟩=>by subst e;exact id
 | .fzd _,_,m,_=>nomatch m
theorem RepO.notTup {K:yI} {H:Hp}:∀ {o:O} {u:HO},RepO K H o u->(∀ xs,u≠.tup xs)/\∀ ob xs,u≠.frz ob (.tup xs)
 | .lst _,_,⟨vs,e,r⟩=>by subst e;exact ⟨(fun _ z=>nomatch z),(fun _ _ z=>nomatch z)⟩
 | .fix _,_,⟨vs,ob,e,r⟩=>by
  rcases e with e|e<;>subst e
  .exact ⟨(fun _ z=>nomatch z),(fun _ _ z=>nomatch z)⟩
  .exact ⟨(fun _ z=>nomatch z),(fun _ _ z=>nomatch z)⟩
 | .dic _,_,⟨l,e,r⟩=>by subst e;exact ⟨(fun _ z=>nomatch z),(fun _ _ z=>nomatch z)⟩
 | .ins _ _,_,⟨dx,l,e,r⟩=>by subst e;exact ⟨(fun _ z=>nomatch z),(fun _ _ z=>nomatch z)⟩
 | .fzd _,_,⟨ob,l,e,r⟩=>by subst e;exact ⟨(fun _ z=>nomatch z),(fun _ _ z=>nomatch z)⟩
section
variable {K:yI} {H H':Hp} {G:Hw} {a:Addr}
theorem xE.free (h:xE K H G) (e:H a=none):G a=none:=by
 cases q:G a with
 |none=>rfl
 |some o =>
  obtain ⟨u,e',_⟩:=h a o q;rw[e] at e';cases e'
theorem zfh {u:HO} (h:∀ xs,¬ Rd H a (.tup xs)) (hx:∀ o,isX o->H a≠some o):yB K H (xM H a u):=⟨fun b xs s=>by
 rcases s with s|s
 .have hb:b≠a:=by rintro rfl;exact h xs s
  left
  rcases s with s|⟨o,s⟩
  .exact .inl (by rw[yS hb];exact s)
  .exact .inr ⟨o,by rw[yS hb];exact s⟩
 .exact .inr s,fun b o i s=>by
 have hb:b≠a:=by rintro rfl;exact hx o i s
 rw[yS hb];exact s⟩
theorem wT {u:HO} (h:H a=none):yB K H (xM H a u):=zfh (fun xs s=>by
 rcases s with s|⟨o,s⟩<;>(rw[h] at s;cases s)) (fun o _ s=>by rw[h] at s;cases s)
theorem xE.grow {o:O} {u:HO} (h:xE K H G) (e:G a=some o) (m:isFz o=false:=by rfl):yB K H (xM H a u):=by
 obtain ⟨u',e',r⟩:=h a o e;refine zfh (fun xs s=>?_) (fun o' i s=>?_)
 .rcases s with s|⟨ob,s⟩
  .rw[e'] at s;cases s;exact r.notTup.1 xs rfl
  .rw[e'] at s;cases s;exact r.notTup.2 ob xs rfl
 .rw[e'] at s;cases s;exact r.notX m i
theorem xE.new {o:O} {u:HO} (h:xE K H G) (e:H a=none) (r:RepO K (xM H a u) o u):xE K (xM H a u) (put G a o):=fun b ob q=>by
 by_cases hb:b=a
 .subst hb;rw[zM] at q;cases q;exact ⟨u,wC,r⟩
 .rw[yO hb] at q;obtain ⟨u',e',r'⟩:=h b ob q;exact ⟨u',by rw[yS hb];exact e',r'.mono (wT e)⟩
theorem xE.tup {u:HO} (h:xE K H G) (e:H a=none):xE K (xM H a u) G:=fun b ob q=>by
 obtain ⟨u',e',r'⟩:=h b ob q;exact ⟨u',by rw[yS (yE e' e)];exact e',r'.mono (wT e)⟩
theorem xE.chg {o o':O} {u:HO} (h:xE K H G) (e:G a=some o') (r:RepO K (xM H a u) o u) (m:isFz o'=false:=by rfl):xE K (xM H a u) (put G a o):=fun b ob q=>by
 by_cases hb:b=a
 .subst hb;rw[zM] at q;cases q;exact ⟨u,wC,r⟩
 .rw[yO hb] at q;obtain ⟨u',e',r'⟩:=h b ob q;exact ⟨u',by rw[yS hb];exact e',r'.mono (h.grow e m)⟩
theorem xE.lst {ws:List W} (h:xE K H G) (e:G a=some (.lst ws)):∃ vs,H a=some (.lst vs)/\yU K H ws vs:=by
 obtain ⟨u,e',vs,rfl,r⟩:=h a _ e;exact ⟨vs,e',r⟩
theorem xE.dic {kvs:List (xS×W)} (h:xE K H G) (e:G a=some (.dic kvs)):∃ l,H a=some (.dK l)/\yJ K H kvs l:=by
 obtain ⟨u,e',vs,rfl,r⟩:=h a _ e;exact ⟨vs,e',r⟩
theorem xE.ins {C:Addr} {fs:List (Str×W)} (h:xE K H G) (e:G a=some (.ins C fs)):∃ dx l,H a=some (.ins C dx l)/\yJ K H fs l:=by
 obtain ⟨u,e',dx,vs,rfl,r⟩:=h a _ e;exact ⟨dx,vs,e',r⟩
end
def yG (G:Hw) (a:Addr):Option (List W):=match G a with
 |some (.lst ws)=>some ws
 |some (.fix ws)=>some ws
 |_=>none
theorem xE.seq {K:yI} {H:Hp} {G:Hw} {a:Addr} {ws:List W} (h:xE K H G) (e:yG G a=some ws):∃ vs,dL K H a vs/\yU K H ws vs:=by
 unfold yG at e
 split at e
 .rename_i q;cases e;obtain ⟨vs,e',r⟩:=h.lst q;exact ⟨vs,.of e',r⟩
 .rename_i q;cases e;obtain ⟨u,e',vs,ob,z,r⟩:=h a _ q;refine ⟨vs,?_,r⟩;rcases z with rfl|rfl
  .exact .inl (.inl e')
  .exact .inl (.inr ⟨_,e'⟩)
 .cases e
abbrev qX:=List (Option W)
def xY (K:yI) (H:Hp) (σ:qX) (τ:L2.St):Prop:=σ.length=τ.length/\∀ (i:Nat) (w:W),σ[i]?=some (some w)->∃ v,τ[i]?=some (some v)/\wM K H w v
theorem xY.mono {K:yI} {H H':Hp} (g:yB K H H') {σ:qX} {τ:L2.St} (h:xY K H σ τ):xY K H' σ τ :=
 ⟨h.1,fun i w e=>let ⟨v,e',r⟩:=h.2 i w e;⟨v,e',r.mono g⟩⟩
theorem xY.set {K:yI} {H:Hp} {σ:qX} {τ:L2.St} {w:W} {v:V} (h:xY K H σ τ) (r:wM K H w v) (i:Nat):xY K H (σ.set i (some w)) (τ.set i (some v)):=by
 refine ⟨by simp[h.1],fun j w' e=>?_⟩;rw[List.getElem?_set] at e ⊢
 by_cases hj:i=j
 .subst hj;rw[if_pos rfl] at e ⊢
  by_cases hl:i<σ.length
  .rw[if_pos hl] at e;cases e;rw[if_pos (h.1▸hl)];exact ⟨v,rfl,r⟩
  .rw[if_neg hl] at e;cases e
 .rw[if_neg hj] at e ⊢;exact h.2 j w' e
abbrev Q3:=W->Hw->Prop
abbrev E3:=qX->Hw->Q3->Prop
abbrev T3:=qX->Hw->(Bool->Hw->Prop)->Prop
abbrev A3:=qX->Hw->(List W->Hw->Prop)->Prop
structure End3 where
 nx:qX->Hw->Prop
 rt:Q3
 bk:qX->Hw->Prop:=fun _ _=>False
 ct:qX->Hw->Prop:=fun _ _=>False
abbrev S3:=End3->qX->Hw->Prop
section
variable (K:yI)
def wO (t:E3):TE:=fun τ H Q=>∃ σ G,xY K H σ τ/\xE K H G/\t σ G fun w G'=>∀ v H',yB K H H'->wM K H' w v->xE K H' G'->Q v H'
def uE (t:T3):TT:=fun τ H Q=>∃ σ G,xY K H σ τ/\xE K H G/\t σ G fun b G'=>∀ H',yB K H H'->xE K H' G'->Q b H'
def fM (t:A3):TA:=fun τ H Q=>∃ σ G,xY K H σ τ/\xE K H G/\t σ G fun ws G'=>∀ vs H',yB K H H'->yU K H' ws vs->xE K H' G'->Q vs H'
structure Fine (H:Hp) (D3:End3) (D:Ends):Prop where
 nx:∀ σ G τ H',yB K H H'->xY K H' σ τ->xE K H' G->D3.nx σ G->D.nx τ H'
 bk:∀ σ G τ H',yB K H H'->xY K H' σ τ->xE K H' G->D3.bk σ G->D.bk τ H'
 ct:∀ σ G τ H',yB K H H'->xY K H' σ τ->xE K H' G->D3.ct σ G->D.ct τ H'
 rt:∀ w G v H',yB K H H'->wM K H' w v->xE K H' G->D3.rt w G->D.rt v H'
def lowS (t:S3):TS:=fun D τ H=>∃ σ G D3,xY K H σ τ/\xE K H G/\Fine K H D3 D/\t D3 σ G
end
theorem Fine.grow {K:yI} {H H':Hp} {D3:End3} {D:Ends} (f:Fine K H D3 D) (g:yB K H H'):Fine K H' D3 D :=
 ⟨fun σ G τ H2 g2=>f.nx σ G τ H2 (g.trans g2),fun σ G τ H2 g2=>f.bk σ G τ H2 (g.trans g2),fun σ G τ H2 g2=>f.ct σ G τ H2 (g.trans g2),fun w G v H2 g2=>f.rt w G v H2 (g.trans g2)⟩
def jH (t:E3):Prop:=∀ σ G (Q Q':Q3),'i'->t σ G Q->t σ G Q'
def nR (t:T3):Prop:=∀ σ G (Q Q':Bool->Hw->Prop),'i'->t σ G Q->t σ G Q'
def rJ (t:A3):Prop:=∀ σ G (Q Q':List W->Hw->Prop),'i'->t σ G Q->t σ G Q'
section
variable {K:yI} {H:Hp} {σ:qX} {τ:L2.St} {G:Hw}
theorem wI {t:E3} {R:Q3} {S:VK} (m:jH t) (hs:xY K H σ τ) (ha:xE K H G) (h:t σ G R)
  (k:∀ w G1 v H1,yB K H H1->xY K H1 σ τ->wM K H1 w v->xE K H1 G1->R w G1->S v H1):wO K t τ H S :=
 ⟨σ,G,hs,ha,m σ G _ _ (fun w G' r v H' g rp ab=>k w G' v H' g (hs.mono g) rp ab r) h⟩
theorem zep {t:T3} {R:Bool->Hw->Prop} {S:Bool->Hp->Prop} (m:nR t) (hs:xY K H σ τ) (ha:xE K H G) (h:t σ G R)
  (k:∀ b G1 H1,yB K H H1->xY K H1 σ τ->xE K H1 G1->R b G1->S b H1):uE K t τ H S :=
 ⟨σ,G,hs,ha,m σ G _ _ (fun w G' r H' g ab=>k w G' H' g (hs.mono g) ab r) h⟩
theorem zdp {t:A3} {R:List W->Hw->Prop} {S:List V->Hp->Prop} (m:rJ t) (hs:xY K H σ τ) (ha:xE K H G) (h:t σ G R)
  (k:∀ w G1 v H1,yB K H H1->xY K H1 σ τ->yU K H1 w v->xE K H1 G1->R w G1->S v H1):fM K t τ H S :=
 ⟨σ,G,hs,ha,m σ G _ _ (fun w G' r v H' g rp ab=>k w G' v H' g (hs.mono g) rp ab r) h⟩
end
end L3
namespace L2
section
variable {X:Cx} {e:PySem.Expr} {st:PySem.Stmt} {qA:List PySem.Stmt}
theorem PE.imp {t t':TE} (h:PE X e t) (k:∀ σ H Q,t' σ H Q->t σ H Q):PE X e t':=fun pins s σ H Q I q=>h pins s σ H Q I (k σ H Q q)
theorem PT.imp {t t':TT} (h:PT X e t) (k:∀ σ H Q,t' σ H Q->t σ H Q):PT X e t':=fun pins s σ H Q I q=>h pins s σ H Q I (k σ H Q q)
theorem PW.imp {t t':TT} (h:PW X e t) (k:∀ σ H Q,t' σ H Q->t σ H Q):PW X e t':=fun wh pins s σ H Q I q=>h wh pins s σ H Q I (k σ H Q q)
theorem PA.imp {es:List PySem.Expr} {t t':TA} (h:PA X es t) (k:∀ σ H Q,t' σ H Q->t σ H Q):PA X es t':=fun pos pins s σ H Q I q=>h pos pins s σ H Q I (k σ H Q q)
theorem PS.imp {t t':TS} (h:PS X st t) (k:∀ D σ H,t' D σ H->t D σ H):PS X st t':=fun pins s σ H D I q=>h pins s σ H D I (k D σ H q)
theorem PSs.imp {t t':TS} (h:PSs X qA t) (k:∀ D σ H,t' D σ H->t D σ H):PSs X qA t':=fun pins s σ H D I q=>h pins s σ H D I (k D σ H q)
end
end L2
set_option genInjectivity false
set_option genSizeOfSpec false
namespace L2
open PySem PySem.Spec PyProof.Rows PySem.Calls
noncomputable def clo (env:Env):List (Str×NameKind)->List (Str×Addr)->List (Str×Addr)
 | [],acc=>acc
 | (n,k)::r,acc=>if (k==NameKind.free)=true then clo env r ((n,(env.cells.lookup n).getD 0)::acc) else clo env r acc
theorem zej (env:Env):∀ (l:List (Str×NameKind)) (acc:List (Str×Addr)) {x:Str} {c:Addr},(clo env l acc).lookup x=some c ->
  ((∃ k,(x,k)∈l/\k=.free)/\c=(env.cells.lookup x).getD 0)\/acc.lookup x=some c
 | [],acc,x,c,h=>.inr h
 | (n,k)::r,acc,x,c,h=>by
  unfold clo at h
  by_cases hk:(k==NameKind.free)=true
  .rw[if_pos hk] at h;rcases zej env r _ h with ⟨⟨k',m,e⟩,q⟩|h
   .exact .inl ⟨⟨k',Zd _ m,e⟩,q⟩
   .rw[Zy] at h
    by_cases hx:(x==n)=true
    .rw[hx] at h;have e:x=n:=eq_of_beq hx;subst e;exact .inl ⟨⟨k,zzT,eq_of_beq hk⟩,(Zw h).symm⟩
    .rw[Bool.not_eq_true] at hx;rw[hx] at h;exact .inr h
  .rw[if_neg hk] at h;rcases zej env r _ h with ⟨⟨k',m,e⟩,q⟩|h
   .exact .inl ⟨⟨k',Zd _ m,e⟩,q⟩
   .exact .inr h
theorem zel (env:Env):∀ (l:List (Str×NameKind)) (acc:List (Str×Addr)) {x:Str},(∃ c,acc.lookup x=some c)->∃ c,(clo env l acc).lookup x=some c
 | [],acc,x,h=>h
 | (n,k)::r,acc,x,h=>by
  unfold clo
  split
  .refine zel env r _ ?_;rw[Zy];cases x==n
   .exact h
   .exact ⟨_,rfl⟩
  .exact zel env r _ h
theorem zek (env:Env):∀ (l:List (Str×NameKind)) (acc:List (Str×Addr)) {x:Str},(x,NameKind.free)∈l->∃ c,(clo env l acc).lookup x=some c
 | (n,k)::r,acc,x,h=>by
  unfold clo;rcases Zk.mp h with h|h
  .cases h;rw[if_pos 'c'];refine zel env r _ ?_;rw[Zy,beq_self_eq_true];exact ⟨_,rfl⟩
  .split
   .exact zek env r _ h
   .exact zek env r _ h
theorem za3 {env:Env} {scope:Scope} (h:∀ x,(x,NameKind.free)∈scope.names->∃ c,env.cells.lookup x=some c):closureFor scope env=pure (clo env scope.names []):=by
 simp only[closureFor]
 have key:∀ (l:List (Str×NameKind)) (acc:List (Str×Addr)),(∀ x,(x,NameKind.free)∈l->∃ c,env.cells.lookup x=some c) ->
   (forIn l acc fun x r=>match x with|(name,kind)=>if (kind==NameKind.free)=true then (do let a ← cellOf env name;pure (ForInStep.yield ((name,a)::r))) else pure (ForInStep.yield r):Sem (List (Str×Addr)))=pure (clo env l acc):=by
  intro l
  induction l with
  |nil=>intro acc _;rfl
  |cons p r ih =>
   intro acc hh;obtain ⟨n,k⟩:=p;rw[List.forIn_cons]
   by_cases hk:(k==NameKind.free)=true
   .have ek:k=.free:=eq_of_beq hk;obtain ⟨c,hc⟩:=hh n (by rw[ek];exact zzT);simp only[hk,if_true];have e1:cellOf env n=pure c:=by unfold cellOf;rw[hc]
    rw[e1];simp only[pure_bind];rw[ih _ fun x hx=>hh x (Zd _ hx)]
    conv=>rhs;unfold clo
    rw[if_pos hk,hc]
    all_goals rfl
   .simp only[hk];rw[if_neg 'g'];simp only[pure_bind];rw[ih _ fun x hx=>hh x (Zd _ hx)]
    conv=>rhs;unfold clo
    rw[if_neg hk]
 have:=key scope.names [] h;simpa using this
theorem jV {env:Env}:∀ {names:List (Str×NameKind)} {x:Str} {k':NameKind},
  (names.map fun (n,k)=>if (k==NameKind.free&&env.scope.kind==.function&&env.kindOf n==some .cell) then (n,NameKind.cell) else (n,k)).lookup x=some k' ->
  ∃ k,names.lookup x=some k/\(k'=k\/(k=.free/\k'=.cell))
 | [],_,_,h=>by simp at h
 | (n,k)::r,x,k',h=>by
  rw[zzU] at h
  by_cases hc:(k==NameKind.free&&env.scope.kind==.function&&env.kindOf n==some .cell)=true
  .simp only[hc,if_true] at h;rw[Zy] at h ⊢
   cases hx:x==n with
   |true =>
    rw[hx] at h;cases h;simp only[Zp,beq_iff_eq] at hc;exact ⟨k,rfl,.inr ⟨hc.1.1,rfl⟩⟩
   |false=>rw[hx] at h;exact jV h
  .simp only[hc,if_false] at h;rw[if_neg 'g'] at h;rw[Zy] at h ⊢
   cases hx:x==n with
   |true=>rw[hx] at h;cases h;exact ⟨k,rfl,.inl rfl⟩
   |false=>rw[hx] at h;exact jV h
theorem uL {α:Type}:∀ {l:List (Str×α)} {x:Str} {v:α},l.lookup x=some v->(x,v)∈l
 | (n,k)::r,x,v,h=>by
  rw[Zy] at h
  cases hx:x==n with
  |true=>rw[hx] at h;cases h;rw[eq_of_beq hx];exact zzT
  |false=>rw[hx] at h;exact Zd _ (uL h)
theorem zem:∀ (l:List (Str×NameKind)) (n:Nat) (acc:List (Str×Addr)) {x:Str} {c:Addr},(cellsFrom n l acc).lookup x=some c->acc.lookup x=some c\/((x,NameKind.cell)∈l/\n<=c)
 | [],n,acc,x,c,h=>.inl h
 | (y,k)::r,n,acc,x,c,h=>by
  unfold cellsFrom at h
  split at h
  .rename_i hk;rcases zem r _ _ h with h|⟨h,q⟩
   .rw[Zy] at h
    by_cases hx:(x==y)=true
    .rw[hx] at h;cases eq_of_beq hx;cases eq_of_beq hk;exact .inr ⟨zzT,Nat.le_of_eq (Zw h)⟩
    .rw[Bool.not_eq_true] at hx;rw[hx] at h;exact .inl h
   .exact .inr ⟨Zd _ h,Nat.le_of_succ_le q⟩
  .rcases zem r _ _ h with h|⟨h,q⟩
   .exact .inl h
   .exact .inr ⟨Zd _ h,q⟩
theorem zfs:∀ (l:List (Str×NameKind)) (n:Nat) (acc:List (Str×Addr)) {x:Str},(∃ c,acc.lookup x=some c)->∃ c,(cellsFrom n l acc).lookup x=some c
 | [],n,acc,x,h=>h
 | (y,k)::r,n,acc,x,h=>by
  unfold cellsFrom
  split
  .refine zfs r _ _ ?_;rw[Zy];cases x==y
   .exact h
   .exact ⟨_,rfl⟩
  .exact zfs r _ _ h
theorem zix:∀ (l:List (Str×NameKind)) (n:Nat) (acc:List (Str×Addr)) {x:Str},(x,NameKind.cell)∈l->∃ c,(cellsFrom n l acc).lookup x=some c
 | (y,k)::r,n,acc,x,h=>by
  unfold cellsFrom;rcases Zk.mp h with h|h
  .cases h;rw[if_pos 'c'];refine zfs r _ _ ?_;rw[Zy,beq_self_eq_true];exact ⟨_,rfl⟩
  .split
   .exact zix r _ _ h
   .exact zix r _ _ h
def Inj (n:Nat) (l:List (Str×Addr)):Prop:=(∀ x c,l.lookup x=some c->c<n)/\∀ x y c,l.lookup x=some c->l.lookup y=some c->x=y
theorem ziw:∀ (l:List (Str×NameKind)) (n:Nat) (acc:List (Str×Addr)),Inj n acc->∀ x y c,(cellsFrom n l acc).lookup x=some c->(cellsFrom n l acc).lookup y=some c->x=y
 | [],n,acc,h=>h.2
 | (z,k)::r,n,acc,h=>by
  unfold cellsFrom
  split
  .refine ziw r (n+1) ((z,n)::acc) ⟨fun x c e=>?_,fun x y c e e'=>?_⟩
   .rw[Zy] at e
    cases hx:x==z with
    |true=>rw[hx] at e;cases e;exact Zai _
    |false=>rw[hx] at e;exact ZaN (h.1 x c e)
   .rw[Zy] at e e'
    cases hx:x==z with
    |true =>
     rw[hx] at e;cases e
     cases hy:y==z with
     |true=>rw[eq_of_beq hx,eq_of_beq hy]
     |false=>rw[hy] at e';exact absurd (h.1 y _ e') (Z9 _)
    |false =>
     rw[hx] at e
     cases hy:y==z with
     |true=>rw[hy] at e';cases e';exact absurd (h.1 x _ e) (Z9 _)
     |false=>rw[hy] at e';exact h.2 x y c e e'
  .exact ziw r n acc h
theorem zen:∀ (l:List (Str×NameKind)) (h:Heap) (acc:List (Str×Addr)),(∀ x c,acc.lookup x=some c->∃ v,h.IsCell c v)->∀ x c,(cellsFrom h.objs.size l acc).lookup x=some c->∃ v,(pushCells h l).IsCell c v
 | [],h,acc,k=>k
 | (z,q)::r,h,acc,k=>by
  unfold cellsFrom pushCells
  split
  .have:=zen r (h.push { cls:=.type "cell", data:=.cell none }) ((z,h.objs.size)::acc) (fun x c e=>by
    rw[Zy] at e
    cases hx:x==z with
    |true=>rw[hx] at e;cases e;exact ⟨_,_,Zq _ rfl,rfl⟩
    |false =>
     rw[hx] at e;obtain ⟨v,o,ho,hd⟩:=k x c e;exact ⟨v,o,Zc _ ho,hd⟩)
   rw[Z7] at this;exact this
  .exact zen r h acc k
theorem nfe {M:Model} {A:Around} {E:Value->Shared->Prop} {s:Shared} {sc:Scope} {gl:Addr} {cl:List (Str×Addr)} {qual:Str} {env:Env} {Q:Env->Shared->Prop}
  (hQ:∀ h',h'=pushCells (s.heap.push { cls:=.type "dict", data:=.dict #[] }) sc.names->h'.Ns s.heap.objs.size (fun _=>none)->(∀ b o,s.heap.get? b=some o->h'.get? b=some o) ->
   Q { scope:=sc,locals:=s.heap.objs.size,globals:=gl,cells:=cellsFrom (s.heap.objs.size+1) sc.names cl,qual:=qual,func:=none,code:=env.code,frame:=env.frame,builtins:=env.builtins } { s with heap:=h' }) :
  wpAny M A (newFunctionEnv sc gl cl [] qual none .none (some env)) Q E s:=by
 simp only[newFunctionEnv,Option.isSome_some,if_true];refine Za (wpAny_alloc (Za (wpAny_layCells _ (fun name kind cells=>by cases hkc:kind==NameKind.cell<;>simp[hkc]) _ _ _ _ ?_)));rw[show ({ s with heap:=s.heap.push { cls:=.type "dict", data:=.dict #[] } }:Shared).heap.objs.size=s.heap.objs.size+1 from Z7 ..];rw[List.forIn_nil];refine Za (Zh (Zh (hQ _ rfl ((Heap.Ns.new s.heap (.type "dict")).keeps (Zbv _ _)) fun b o e=>Zbv _ _ b o (Zc _ e))))
end L2
namespace L2
open PySem PySem.Spec PyProof.Rows PySem.Calls
theorem zde (elt target iter:Expr) (ifs:List Expr) (scope:Scope) (pos:Pos) (it acc:Value) (env:Env) :
  compTurn (.ListComp elt [⟨target,iter,ifs,0⟩] scope pos) 0 it acc env=(do
   standAt iter.pos
   match ← pyNext it with
   |none=>pure (.done .next)
   |some v =>
    letOwnedTupleGo target it v
    assign target env v
    let mut ok:=true
    for c in ifs do
     if ok then ok ← isTrue c env (eval c env)
    if ok then
     (do let _ ← call (.builtin "list.append") [acc,← eval elt env])
    again (.compLoop (.ListComp elt [⟨target,iter,ifs,0⟩] scope pos) 0 it acc env)):=by rfl
section
variable {prog:Program} {w:World} {A:Around} {R:Result->Shared->Prop} {s:Shared}
theorem zdf {elt target iter:Expr} {ifs:List Expr} {scope:Scope} {pos:Pos} {it acc:Value} {env:Env} (I:Nat->Shared->Prop)
  (turn:∀ n s,I n s->wpAny (model prog w) A (pyNext it) (fun r s₁=>match r with
   |none=>R (.ok .next) s₁
   |some v=>wpAny (model prog w) A (letOwnedTupleGo target it v) (fun _ s₁=>wpAny (model prog w) A (assign target env v) (fun _ s₂ =>
     wpAny (model prog w) A (forIn ifs true fun c r=>if r=true then do let ok ← isTrue c env (eval c env);pure (ForInStep.yield ok) else pure (ForInStep.yield r)) (fun ok s₃ =>
      if ok=true then wpAny (model prog w) A (eval elt env) (fun x s₄ =>
       wpAny (model prog w) A (call (.builtin "list.append") [acc,x]) (fun _ s₅=>∃ m,m<n/\I m s₅) (fun _ _=>False) s₄) (notedBy (model prog w) A env fun e s'=>R (.error e) s') s₃
      else ∃ m,m<n/\I m s₃) (fun _ _=>False) s₂) (fun _ _=>False) s₁) (fun _ _=>False) s₁) (fun _ _=>False) s)
  (n:Nat) (h:I n s) :
  codeAny (model prog w) A (.compLoop (.ListComp elt [⟨target,iter,ifs,0⟩] scope pos) 0 it acc env) R s:=by
 refine codeAny_loop rfl I (fun n s hI=>?_) n h;show wpAny _ A ((compTurn (.ListComp elt [⟨target,iter,ifs,0⟩] scope pos) 0 it acc env).onRaise (fun x=>do noteFrame x env;theTreesLotGoes x)) _ _ s;refine wpAny_noted ?_;rw[zde];refine Za (ZbP (Za (Zal (turn n s hI) (fun r s₁ h₁=>?_) fun _ _ h'=>h'.elim)))
 cases r with
 |none=>exact Zh h₁
 |some v =>
  refine Za (Zal h₁ (fun _ s₁ h₁=>?_) fun _ _ h'=>h'.elim);refine Za (Zal h₁ (fun _ s₂ h₂=>Za (Zal h₂ (fun ok s₃ h₃=>?_) fun _ _ h'=>h'.elim)) fun _ _ h'=>h'.elim)
  cases ok with
  |false=>exact Zh ⟨rfl,h₃⟩
  |true =>
   exact Za (Za (Zal h₃ (fun x s₄ h₄=>Za (Zal h₄ (fun _ s₅ h₅=>Zh (Zh ⟨rfl,h₅⟩)) fun _ _ h'=>h'.elim)) fun _ _ h'=>h'))
end
structure IsBlock (X:Cx) (N:List Str) (sc:Scope) (X':Cx):Prop where
 prog:X'.prog=X.prog
 w:X'.w=X.w
 K:X'.K=X.K
 mg:X'.mg=X.mg
 base:X'.base=X.base
 A:X'.A=X.A
 calm:X'.calm=X.calm
 N:X'.N=N
 scope:X'.env.scope=relabel sc X.env
 xe:X'.xe=fun _ _=>False
 fn:∀ x,sc.names.lookup x=some .cell->X'.fn x=true
noncomputable def ocl (X:Cx) (sc:Scope) (C:Addr):List (Str×Addr):=cellsFrom (C+1) sc.names (clo X.env sc.names [])
noncomputable def tV (X:Cx) (N:List Str) (sc:Scope) (C:Addr) (s2:Shared) (H2:Hp) (fp:List Addr) (pins:List (Addr×Obj)) (xe:Value->Shared->Prop):Cx where
 prog:=X.prog
 w:=X.w
 K:=X.K
 mg:=X.mg
 base:=X.base
 A:=X.A
 N:=N
 s₀:=s2
 H₀:=H2
 env:=compEnvC sc (ocl X sc C) C X.env
 outer:=X.stack
 stack:=X.stack
 ex:=fp
 fn:=fun x=>sc.names.lookup x==some .cell
 calm:=X.calm
 pn:=X.pn++pins
 xe:=xe
theorem zgg (X:Cx) (N:List Str) (sc:Scope) (C:Addr) (s2:Shared) (H2:Hp) (fp:List Addr) (pins:List (Addr×Obj)) (xe:Value->Shared->Prop):IsBlock X N sc (tV X N sc C s2 H2 fp pins xe).nox :=
 ⟨rfl,rfl,rfl,rfl,rfl,rfl,rfl,rfl,rfl,rfl,fun x h=>by show (sc.names.lookup x==some .cell)=true;rw[h];rfl⟩
structure BlkSc (X:Cx) (sc:Scope):Prop where
 kind:sc.kind=.function
 cells:∀ x,(x,NameKind.cell)∈sc.names->sc.names.lookup x=some .cell
 frees:∀ x,(x,NameKind.free)∈sc.names->sc.names.lookup x=some .free
 free:∀ x,(x,NameKind.free)∈sc.names->X.env.kindOf x=some .cell\/X.env.kindOf x=some .free
 names:∀ y∈sc.names,y.2=.local->sc.names.lookup y.1=some .local
section
variable {X:Cx} {pins:List (Addr×Obj)} {σ:St} {H2:Hp} {s2:Shared} {sc:Scope} {N:List Str} {C:Addr} {fp:List Addr} {xe:Value->Shared->Prop}
theorem nU (ok:X.Ok) (B:BlkSc X sc) {x:Str} {c:Addr} (h:(clo X.env sc.names []).lookup x=some c):X.env.cells.lookup x=some c/\sc.names.lookup x=some .free:=by
 rcases zej _ _ _ h with ⟨⟨k,m,e⟩,q⟩|h
 .subst e;have hf:=B.free x m;obtain ⟨c',hc'⟩:=ok.has x hf;rw[hc'] at q;exact ⟨by rw[hc',q];rfl,B.frees x m⟩
 .simp at h
theorem pO (ok:X.Ok) (B:BlkSc X sc) {x:Str} {c:Addr} (h:(ocl X sc C).lookup x=some c):(X.env.cells.lookup x=some c/\sc.names.lookup x=some .free)\/(sc.names.lookup x=some .cell/\C<c):=by
 rcases zem _ _ _ h with h|⟨h,q⟩
 .exact .inl (nU ok B h)
 .exact .inr ⟨B.cells x h,q⟩
theorem B_has (B:BlkSc X sc) {x:Str} (h:(relabel sc X.env).names.lookup x=some .cell\/(relabel sc X.env).names.lookup x=some .free):(x,NameKind.free)∈sc.names\/(x,NameKind.cell)∈sc.names:=by
 rcases h with h|h
 .obtain ⟨k,hk,e⟩:=jV h;rcases e with e|⟨e,_⟩
  .subst e;exact .inr (uL hk)
  .subst e;exact .inl (uL hk)
 .obtain ⟨k,hk,e⟩:=jV h;rcases e with e|⟨e,z⟩
  .subst e;exact .inl (uL hk)
  .cases z
theorem zht {x:Str} (h:(x,NameKind.free)∈sc.names\/(x,NameKind.cell)∈sc.names):∃ c,(ocl X sc C).lookup x=some c:=by
 rcases h with h|h
 .exact zfs _ _ _ (zek _ _ _ h)
 .exact zix _ _ _ h
theorem ziy (I2:Inv X pins σ H2 s2) {x:Str} {c:Addr} (h:X.env.cells.lookup x=some c):c<s2.heap.objs.size:=by
 obtain ⟨v,o,e,_⟩:=I2.cell x c h;exact Zi e
theorem zb0 (I2:Inv X pins σ H2 s2) (B:BlkSc X sc) (f2:∀ b∈fp,dM X pins H2 b) (hfp:∀ b∈fp,b<s2.heap.objs.size) (hC:s2.heap.objs.size<=C):(tV X N sc C s2 H2 fp pins xe).Ok where
 mod:=I2.ok.mod
 kind:=B.kind
 glob:=I2.ok.glob
 blt:=I2.ok.blt
 above:=hC
 inj:=ziw _ _ _ ⟨fun x c h=>ZaN (Zn (ziy I2 (nU I2.ok B h).1) hC),fun x y c hx hy=>I2.ok.inj x y c (nU I2.ok B hx).1 (nU I2.ok B hy).1⟩
 has:=fun x h=>zht (B_has B h)
 cab:=fun x c h e=>by
  rcases pO I2.ok B e with ⟨_,q⟩|⟨_,q⟩
  .have h:(sc.names.lookup x==some .cell)=true:=h;rw[q] at h;cases h
  .exact Zb hC (ZaY q)
 hd:=I2.ok.hd
 frames:=I2.ok.frames
 stk:=.inl rfl
 exf:=fun b hb=>⟨Zr (Zn (hfp b hb) hC),fun x c h=>by
  rcases pO I2.ok B h with ⟨q,_⟩|⟨_,q⟩
  .exact (f2 b hb).2.2.2.2.1 x c q
  .exact ZaZ (Nat.lt_trans (Zn (hfp b hb) hC) q)⟩
 bs:=I2.bs
 bsz:=Zb I2.ok.bsz I2.sz
 noex:=fun b o e hb=>by
  rcases (f2 b hb).2.2.2.1 with h|h
  .exact I2.ok.noex b o e h
  .exact absurd (Zn (Zi e) (Zb I2.ok.bsz h)) (Z9 _)
 exfs:=fun b hb hm=>by
  rcases Zk.mp (I2.stkSub b hm) with h|h
  .exact (f2 b hb).2.1 h
  .exact (f2 b hb).2.2.1 h
 funs:=I2.stack
 frf:=I2.stkFree
theorem ziB {s4:Shared} {τ:St} {m:Str->Option Value} (I2:Inv X pins σ H2 s2) (B:BlkSc X sc) (f2:∀ b∈fp,dM X pins H2 b) (hfp:∀ b∈fp,b<s2.heap.objs.size) (hC:s2.heap.objs.size<=C)
  (ho:s4.os=s2.os) (hg:s4.gens=s2.gens) (keep:∀ b o,s2.heap.get? b=some o->s4.heap.get? b=some o) (hcs:∀ x c,(ocl X sc C).lookup x=some c->∃ v,s4.heap.IsCell c v) (hns:s4.heap.Ns C m) (hl:τ.length=N.length)
  (cap:∀ (i:Nat) (x:Str) (v:V),N[i]?=some x->τ[i]?=some (some v)->Vis (relabel sc X.env) x->sc.names.lookup x=some .free/\∃ j:Nat,X.N[j]?=some x/\σ[j]?=some (some v)) (h4:0<s4.toks) :
  Inv (tV X N sc C s2 H2 fp pins xe) [] τ H2 s4:=by
 refine ⟨zb0 I2 B f2 hfp hC,ho,by rw[hg];exact I2.bare,Un.kept keep,⟨m,hns,fun i x v hN hτ hv=>?_⟩,hcs,I2.hok.fresh hC,fun x c h=>?_,fun p hp=>?_,I2.hok.kept keep,hl,h4⟩
 .obtain ⟨hnl,j,hj,hσ⟩:=cap i x v hN hτ hv;have hmem:=uL hnl;have hf:=B.free x hmem
  have hkind:(relabel sc X.env).names.lookup x=some .cell\/(relabel sc X.env).names.lookup x=some .free:=by
   rcases hv with h|h|h
   .obtain ⟨k,hk,e⟩:=jV h;rw[hnl] at hk;cases hk;rcases e with e|⟨_,e⟩<;>cases e
   .exact .inl h
   .exact .inr h
  obtain ⟨m0,_,hl0⟩:=I2.loc;obtain ⟨u,r,lk⟩:=hl0 j x v hj hσ (hf.elim (fun h=>.inr (.inl h)) fun h=>.inr (.inr h));refine ⟨u,r,.inr ⟨hkind,?_⟩⟩;rcases lk with ⟨hk,_⟩|⟨_,c,hc,hcell⟩
  .rw[hk] at hf;rcases hf with hf|hf<;>cases hf
  .obtain ⟨c',hc'⟩:=zht (X:=X) (C:=C) (.inl hmem);rcases pO I2.ok B hc' with ⟨e,_⟩|⟨e,_⟩
   .rw[hc] at e;cases e;refine ⟨c,hc',?_⟩;obtain ⟨o,e1,r1⟩:=hcell;exact ⟨o,keep _ _ e1,r1⟩
   .rw[hnl] at e;cases e
 .rcases pO I2.ok B h with ⟨e,_⟩|⟨_,e⟩
  .exact I2.freeC x c e
  .exact I2.hok.fresh (Zb hC (ZaY e))
 .have hp':p∈X.pn++pins:=by simpa[tV] using hp
  obtain ⟨q1,q2,q3,q4,q5⟩:=I2.pin p hp';refine ⟨keep _ _ q1,q2,Zr (Zn (Zi q1) hC),fun z=>?_,q5⟩;rcases Zk.mp (I2.stkSub _ z) with h|h
  .exact q3 h
  .exact q4 h
end
theorem nA.adopt {P:Program} {w:World} {H:Hp} {h h':Heap} {a:Addr} {o:HO} (x:nA P w H h) (k:∀ b u v,H b=some v->h.get? b=some u->h'.get? b=some u) (hn:H a=none) (new:wY P w (xM H a o) h' a o):nA P w (xM H a o) h':=fun b u e=>by
 by_cases hb:b=a
 .subst hb;rw[wC] at e;cases e;exact new
 .rw[yS hb] at e;refine (x b u e).stay (fun c v hc q=>?_) (fun c q=>by rw[yS (yE q hn)];exact q) fun c xs q=>by rw[yS (yE q hn)];exact q
  rcases hc with rfl|hc
  .exact k _ _ _ e q
  .exact k _ _ _ hc q
end L2
namespace L2
open PySem PySem.Spec PyProof.Rows PySem.Calls
def PTs (X:Cx) (ifs:List Expr) (t:TT):Prop :=
 ∀ (pins:List (Addr×Obj)) (s:Shared) (σ:St) (H:Hp) (Q:Bool->Hp->Prop),Inv X pins σ H s->t σ H Q ->
  wpAny 'f' X.A (forIn ifs true fun c r=>if r=true then do let ok ← isTrue c X.env (eval c X.env);pure (ForInStep.yield ok) else pure (ForInStep.yield r)) (TP X pins σ Q) X.xe s
theorem zlB {X:Cx}:PTs X [] (fun _ H Q=>Q true H):=fun _ _ _ H _ I h=>wpAny_tests_nil ⟨H,I,h⟩
theorem zlA {X:Cx} {c:Expr} {t:TT} (h:PT X c t):PTs X [c] t:=fun pins s σ H Q I q=>wpAny_tests_one (h pins s σ H Q I q)
def tLCb (J:It) (τ:St) (g:TG) (tc:TT) (te:TE) (Qf:List V->Hp->Prop) (H1:Hp):Prop :=
 ∃ Pv:Nat->Nat->St->List V->Hp->Prop,(∃ m,Pv 0 m τ [] H1)/\∀ i m τ acc H,Pv i m τ acc H ->
  (J.stop i H/\Qf acc H) \/
  (J.go i H/\acc.length<sizeLine/\∀ x H',J.yld i H x H'->g x τ H' fun σ2 H2=>tc σ2 H2 fun b H3=>if b=true then te σ2 H3 fun v H4=>∃ m',m' < m/\Pv (i+1) m' σ2 (acc++[v]) H4 else ∃ m',m' < m/\Pv (i+1) m' σ2 acc H3)
structure Off (X:Cx) (pins:List (Addr×Obj)) (C:Addr):Prop where
 ne:C≠X.env.locals
 ge:X.s₀.heap.objs.size<=C
 cl:∀ x c,X.env.cells.lookup x=some c->c≠C
 pn:∀ p∈X.pn++pins,p.1≠C
theorem Off.turned {X:Cx} {pins:List (Addr×Obj)} {C:Addr} {σ:St} {H:Hp} {s:Shared} {h':Heap} (o:Off X pins C) (I:Inv X pins σ H s) (hn:H C=none) (k:Heap.SameBut C s.heap h'):Inv X pins σ H { s with heap:=h' } :=
 I.turned (t':=s.toks) (fun b u hb e=>k.extBut b u hb e) hn o.ne (.inr o.ge) o.cl o.pn
theorem Inv.off {X:Cx} {pins:List (Addr×Obj)} {σ:St} {H:Hp} {s:Shared} {C:Addr} (I:Inv X pins σ H s) (hC:s.heap.objs.size<=C):Off X pins C :=
 ⟨(Zr (Zn I.lt hC)).symm,Zb I.sz hC,fun x c h=>by
  obtain ⟨v,o,e,_⟩:=I.cell x c h;exact Zr (Zn (Zi e) hC),fun p hp=>Zr (Zn (Zi (I.pin p hp).1) hC)⟩
abbrev sC (its:List Value) (n:Nat):Obj:={ cls:=.type "list", data:=.seq its.toArray n }
set_option maxHeartbeats 8000000 in
theorem zhM {X:Cx} {pins:List (Addr×Obj)} {σ τ:St} {H2:Hp} {s2:Shared} {sc:Scope} {N:List Str} {fp:List Addr} {it:Addr} {tn:Nat->Heap->Prop} {J:It} {tg iter elt:Expr} {ifs:List Expr} {pos:Pos} {g:TG} {tc:TT} {te:TE}
  {Qf:List V->Hp->Prop} {RR:Value->Addr->Result->Shared->Prop} {E:Value->Shared->Prop}
  (hc:X.calm=true) (I2:Inv X pins σ H2 s2) (T:Turn X.prog X.w X.K tg J fp it tn) (t0:tn 0 s2.heap) (f2:∀ b∈fp,dM X pins H2 b) (B:BlkSc X sc) (hl:τ.length=N.length)
  (cap:∀ (i:Nat) (x:Str) (v:V),N[i]?=some x->τ[i]?=some (some v)->Vis (relabel sc X.env) x->sc.names.lookup x=some .free/\∃ j:Nat,X.N[j]?=some x/\σ[j]?=some (some v))
  (hg:∀ X',IsBlock X N sc X'->PG X' tg g) (ht:∀ X',IsBlock X N sc X'->PTs X' ifs tc) {PX:Cx->Prop} (hpx:∀ D C,s2.heap.objs.size<=C->PX (tV X N sc C s2 H2 fp pins (notedBy 'f' X.A (compEnvC sc (ocl X sc C) C X.env) fun e s'=>RR (.ref D) C (.error e) s'))) (he:∀ X',IsBlock X N sc X'.nox->PX X'->PE X' elt te)
  (h:tLCb J τ g tc te Qf H2)
  (fin:∀ (D C:Addr) (acc:List V) (H':Hp) (s':Shared) (m:Str->Option Value),D≠C->H' D=none->H' C=none->Off X pins C->Inv X pins σ (xM H' D (.lst acc)) s'->s'.heap.Ns C m->Qf acc H'->RR (.ref D) C (.ok .next) s') :
  wpAny 'f' X.A (newList []) (fun acc s₃=>wpAny 'f' X.A (newFunctionEnv sc X.env.globals (clo X.env sc.names []) [] X.env.qual none .none (some X.env)) (fun cenv s₄ =>
   codeAny 'f' X.A (.compStart (.ListComp elt [⟨tg,iter,ifs,0⟩] sc pos) 0 (.ref it) acc { cenv with scope:=relabel sc X.env }) (RR acc cenv.locals) s₄) E s₃) E s2:=by
 refine Zae (nfe fun h₁ heq hns₁ hk₁=>?_);dsimp only at heq hns₁ hk₁ ⊢;generalize hH2:s2.heap.push { cls:=.type "list", dict:=none,data:=.seq ([]:List Value).toArray }=G2 at heq hns₁ hk₁ ⊢
 have hcs:∀ x c,(ocl X sc G2.objs.size).lookup x=some c->∃ v,h₁.IsCell c v:=fun x c e=>by
  rw[heq];refine zen sc.names (G2.push { cls:=.type "dict", data:=.dict #[] }) (clo X.env sc.names []) (fun y d q=>?_) x c (by rw[Z7];exact e);obtain ⟨v,o,ho,hd⟩:=I2.cell y d (nU I2.ok B q).1;exact ⟨v,o,Zc _ (hH2▸Zc _ ho),hd⟩
 have hC:G2.objs.size=s2.heap.objs.size+1:=by rw[← hH2,Z7]
 have hDC:s2.heap.objs.size≠G2.objs.size:=by rw[hC];exact Zr (Zai _)
 have hCle:s2.heap.objs.size<=G2.objs.size:=by rw[hC];exact ZbN _
 have below:∀ b,b<s2.heap.objs.size->b≠G2.objs.size/\b≠s2.heap.objs.size:=fun b hb=>⟨by rw[hC];exact Zr (ZaN hb),Zr hb⟩
 have hfp:∀ b∈fp,b<s2.heap.objs.size:=fun b hb=>by
  obtain ⟨o,e,_⟩:=T.obj _ _ t0 b hb;exact Zi e
 have hDf:∀ b∈fp,b≠s2.heap.objs.size:=fun b hb=>(below b (hfp b hb)).2;have hCf:∀ b∈fp,b≠G2.objs.size:=fun b hb=>(below b (hfp b hb)).1;have old:∀ b o,s2.heap.get? b=some o->h₁.get? b=some o:=fun b o e=>hk₁ b o (hH2▸Zc _ e);have hacc:h₁.get? s2.heap.objs.size=some (sC [] 0):=hk₁ _ _ (hH2▸Zq _ rfl)
 have fresh:∀ a,s2.heap.objs.size<=a->s2.heap.get? a=none:=fun a ha=>by
  cases e:s2.heap.get? a with
  |none=>rfl
  |some o'=>exact absurd (Zi e) (Nat.not_lt.mpr ha)
 have hsub:∀ b∈frs X.stack,b<s2.heap.objs.size:=fun b hb=>by
  obtain ⟨_,o,e,_⟩:=I2.stack.mem hb;exact Zi e
 obtain ⟨Pv,⟨m0,p0⟩,step⟩:=h;generalize hD:s2.heap.objs.size=D at *;generalize hCe:G2.objs.size=C at *;have hpx:=hpx D C hCle;have hXb:IsBlock X N sc (tV X N sc C s2 H2 fp pins (notedBy 'f' X.A (compEnvC sc (ocl X sc C) C X.env) fun e s'=>RR (.ref D) C (.error e) s')).nox:=zgg ..;generalize hXd:tV X N sc C s2 H2 fp pins (notedBy 'f' X.A (compEnvC sc (ocl X sc C) C X.env) fun e s'=>RR (.ref D) C (.error e) s')=X' at hXb hpx;have exe:X'.xe=notedBy 'f' X.A (compEnvC sc (ocl X sc C) C X.env) fun e s'=>RR (.ref D) C (.error e) s':=by rw[← hXd];rfl
 have J0:Inv X' [] τ H2 { s2 with heap:=h₁ }:=by
  rw[← hXd];exact ziB (s4:={ s2 with heap:=h₁ }) I2 B f2 (by rw[hD];exact hfp) (by rw[hD];exact hCle) rfl rfl old hcs hns₁ hl cap I2.tk
 have offD:Off X' [] D:=by
  rw[← hXd];refine ⟨hDC,by show s2.heap.objs.size<=D;rw[hD];exact zzR _,fun x c hx=>?_,fun p hp=>?_⟩
  .rcases pO I2.ok B hx with ⟨q,_⟩|⟨_,q⟩
   .have:=ziy I2 q;rw[hD] at this;exact Zr this
   .exact ZaZ (Zab hCle q)
  .have hp':p∈X.pn++pins:=by simpa[tV] using hp
   have:=Zi (I2.pin p hp').1;rw[hD] at this;exact Zr this
 have offC:Off X pins C:=I2.off (by rw[hD];exact hCle)
 have fpok:∀ {H':Hp} {ob:Obj},(∀ b∈fp,H' b=none)->∀ b∈fp,dM X' [(D,ob)] H' b:=fun {H' ob} hn b hb=>by
  rw[← hXd];refine ⟨hn b hb,hCf b hb,fun z=>(zb0 (N:=N) I2 B f2 (by rw[hD];exact hfp) (by rw[hD];exact hCle)).exfs b hb z,.inl hb,fun x c hx=>(zb0 (N:=N) I2 B f2 (by rw[hD];exact hfp) (by rw[hD];exact hCle)).exf b hb |>.2 x c hx,fun p hp=>?_⟩;rcases Zm.mp hp with hp|hp
  .exact (f2 b hb).2.2.2.2.2 p hp
  .rw[zzO hp];exact (hDf b hb).symm
 have Dfs:D∉X'.fs:=by
  rw[← hXd];intro z;exact Z9 _ (hsub D z)
 have pinD:∀ {H':Hp} {τ':St} {s':Shared} {its:List Value} {n:Nat},Inv X' [] τ' H' s'->H' D=none->s'.heap.get? D=some (sC its n)->Inv X' [(D,sC its n)] τ' H' s':=fun {H' τ' s' its n} I hn e =>
  I.pins_of fun p hp=>by
   rw[zzO hp];exact ⟨e,hn,by rw[← hXd];exact hDC,Dfs,fun v z=>nomatch z⟩
 have loop:∀ s₃:Shared,s₃={ s2 with heap:=h₁ } ->
   codeAny 'f' X.A (.compLoop (.ListComp elt [⟨tg,iter,ifs,0⟩] sc pos) 0 (.ref it) (.ref D) (compEnvC sc (ocl X sc C) C X.env)) (RR (.ref D) C) s₃:=by
  rintro s₃ rfl;have tn0:tn 0 h₁:=T.keep _ _ _ t0 fun b _ o e=>old b o e;have fr0:∀ b∈fp,H2 b=none:=fun b hb=>(f2 b hb).1;have Df0:H2 D=none:=I2.hok.fresh (by rw[hD];exact zzR _);have eX:X'.env=compEnvC sc (ocl X sc C) C X.env:=by rw[← hXd];rfl
  have ep:X'.prog=X.prog:=hXb.prog;have ew:X'.w=X.w:=hXb.w;have eA:X'.A=X.A:=hXb.A;refine zdf (fun k s'=>∃ i τ' acc H' its n,Inv X' [] τ' H' s'/\tn i s'.heap/\(∀ b∈fp,H' b=none)/\H' D=none/\s'.heap.get? D=some (sC its n)/\yV acc its/\acc.length<=sizeLine/\Pv i k τ' acc H') ?_ m0 ⟨0,τ,[],H2,[],0,J0,tn0,fr0,Df0,hacc,.nil,Zg _,p0⟩;rintro k s3 ⟨i,τ3,acc,H3,its,n,I3,st3,fr3,D3,o3,v3,lenA,p3⟩;have I3':=pinD I3 D3 o3;rcases step i k τ3 acc H3 p3 with ⟨stop,qf⟩|⟨go,hsz,turn⟩
  .have td:=T.done X' ep ew hXb.K (by rw[hXb.calm];exact hc) i _ s3 τ3 H3 (fun _ _=>False) I3' (fpok fr3) st3 stop;rw[eA] at td;refine wQ td fun r s4 ⟨hr,I4⟩=>?_;subst hr;have o4:=(I4.pin (D,sC its n) (Zs _ (ZH.mpr rfl))).1;obtain ⟨m4,hn4,_⟩:=I4.loc;rw[eX] at hn4;refine fin D C acc H3 s4 m4 hDC D3 ?_ offC ?_ hn4 qf
   .have:=I4.free;rw[eX] at this;exact this
   .have base:Un (frs X.stack) fp H2 H3 s2.heap s4.heap:=by have:=I4.base;rw[← hXd] at this;exact this
    have hb:∀ b o,s2.heap.get? b=some o->b≠D:=fun b o e=>by have:=Zi e;rw[hD] at this;exact Zr this
    refine I2.call' (ch:=fp) (by have:=I4.os;rw[← hXd] at this;exact this) ⟨base.keep,base.slot,fun b o e n' hx=>?_,base.there,fun b xs e=>?_,fun b o u e=>?_,fun b ps e=>?_⟩ ?_ I4.bare ?_ I4.tk
    .rw[yS (hb b o e)];exact base.free b o e n' hx
    .rw[yS (yE (base.tups b xs e) D3)];exact base.tups b xs e
    .rw[yS (yE (base.frzs b o u e) D3)];exact base.frzs b o u e
    .obtain ⟨mo,e'⟩:=base.tbls b ps e;exact ⟨mo,by rw[yS (yE e' D3)];exact e'⟩
    .have hk:=I4.hok;rw[ep,ew] at hk;exact hk.adopt (fun b u v _ q=>q) D3 ⟨lenA,its,n,v3,o4⟩
    .intro b hb';obtain ⟨q1,q2,q3,q4,q5,q6⟩:=f2 b hb';exact ⟨q4,q2,q5,q6⟩
  .have td:=T.item X' ep ew hXb.K (by rw[hXb.calm];exact hc) i _ s3 τ3 H3 (fun _ _=>False) I3' (fpok fr3) st3 go;rw[eA] at td;refine wQ td fun r s4 ⟨u,hr,h4⟩=>?_;subst hr;refine wQ h4 fun _ s5 ⟨x,H5,I5,r5,y5,st5,fr5⟩=>?_;have I5':=I5.pinned (fpok fr5) (T.obj _ _ st5);have q1:=hg X'.nox hXb _ s5 τ3 H5 x u _ (I5'.wish _) r5 (turn x H5 y5);rw[show X'.nox.prog=X.prog from ep,show X'.nox.w=X.w from ew,show X'.nox.A=X.A from eA,show X'.nox.env=_ from eX,hXb.xe] at q1;refine wQ q1 fun _ s6 ⟨σ6,H6,I6,q6⟩=>?_;have q2:=ht X'.nox hXb _ s6 σ6 H6 _ I6 q6;rw[show X'.nox.prog=X.prog from ep,show X'.nox.w=X.w from ew,show X'.nox.A=X.A from eA,show X'.nox.env=_ from eX,hXb.xe] at q2;refine wQ q2 fun b s7 ⟨H7,I7n,q7⟩=>?_;have I7:=I7n.unwish
   have back:∀ {H8:Hp} {s8:Shared},Inv X' ([(D,sC its n)]++cZ fp s5.heap) σ6 H8 s8->Inv X' [] σ6 H8 s8/\tn (i+1) s8.heap/\(∀ b∈fp,H8 b=none)/\H8 D=none/\s8.heap.get? D=some (sC its n):=fun {H8 s8} I8=>by
    have pp:∀ p,p∈[(D,sC its n)]++cZ fp s5.heap->_:=fun p hp=>I8.pin p (Zs _ hp);refine ⟨I8.pins_of (pins':=[]) (fun p hp=>nomatch hp),T.keep _ _ _ st5 fun b hb o e=>(pp (b,o) (Zs _ (sH hb e))).1,fun b hb=>?_,?_,?_⟩
    .obtain ⟨o,e,d⟩:=T.obj _ _ st5 b hb;exact (pp (b,o) (Zs _ (sH hb e))).2.1
    .exact (pp (D,sC its n) (Zaq _ (ZH.mpr rfl))).2.1
    .exact (pp (D,sC its n) (Zaq _ (ZH.mpr rfl))).1
   cases b with
   |false =>
    rw[if_neg 'c'] at q7;rw[if_neg 'c'];obtain ⟨m',hm,p'⟩:=q7;obtain ⟨b1,b2,b3,b4,b5⟩:=back I7;exact ⟨m',hm,i+1,σ6,acc,H7,its,n,b1,b2,b3,b4,b5,v3,lenA,p'⟩
   |true =>
    rw[if_pos rfl] at q7;rw[if_pos rfl];have q3:=he X' hXb hpx _ s7 σ6 H7 _ I7 q7;rw[ep,ew,eA,eX,exe] at q3;refine wQ q3 fun y s8 ⟨v,H8,I8,r8,m',hm,p'⟩=>?_;obtain ⟨b1,b2,b3,b4,b5⟩:=back I8;refine append_at (hsz:=by show its.toArray.size<=sizeLine;rw[zzS,← v3.length];exact ZaY hsz) b5 fun h₅ hs₅ hD₅=>?_;refine ⟨m',hm,i+1,σ6,acc++[v],H8,its++[y],n+1,offD.turned b1 b4 hs₅,T.keep _ _ _ b2 fun b hb o e=>hs₅.extBut b o (hDf b hb) e,b3,b4,?_,v3.append (.cons r8 .nil),by rw[zzW];exact hsz,p'⟩;show h₅.get? D=_;rw[hD₅,List.push_toArray]
 exact codeAny_compStart_list (loop _ rfl) (T.self _ 0 _ _ _ (T.keep _ _ _ t0 fun b _ o e=>old b o e) (loop _ rfl))
def tLC (wi:TI) (cap:St->St) (g:TG) (tc:TT) (te:Hp->TE):TE:=fun σ H Q=>wi σ H fun J H1=>tLCb J (cap σ) g tc (te H) (fun acc H'=>∀ p,H' p=none->Q (.ref p) (xM H' p (.lst acc))) H1
section
variable {X:Cx} {sc:Scope} {N:List Str} {tg iter elt:Expr} {ifs:List Expr} {pos:Pos} {wi:TI} {g:TG} {tc:TT} {te:Hp->TE} {cap:St->St}
def Caps (X:Cx) (sc:Scope) (N:List Str) (cap:St->St):Prop:=∀ σ:St,σ.length=X.N.length->(cap σ).length=N.length /\
 ∀ (i:Nat) (x:Str) (v:V),N[i]?=some x->(cap σ)[i]?=some (some v)->Vis (relabel sc X.env) x->sc.names.lookup x=some .free/\∃ j:Nat,X.N[j]?=some x/\σ[j]?=some (some v)
theorem pe_lc (hc:X.calm=true) (hi:PI X tg iter wi) (B:BlkSc X sc) (hcap:Caps X sc N cap)
  (hg:∀ X',IsBlock X N sc X'->PG X' tg g) (ht:∀ X',IsBlock X N sc X'->PTs X' ifs tc) (he:∀ H X',IsBlock X N sc X'->PE X' elt (te H))
  (hs:∀ x,foldedSetIterable iter X.env x=pure x:=by intro _;rfl):PE X (.ListComp elt [⟨tg,iter,ifs,0⟩] sc pos) (tLC wi cap g tc te):=by
 intro pins s σ H Q I h;rw[eval_ListComp];refine wpAny_comprehension_free (use:=none) rfl hs (za3 fun x hx=>I.ok.has x (B.free x hx)) B.kind B.names (wQ (hi pins s σ H _ I h) fun v s1 h1=>wQ h1 fun itv s2 h2=>?_);obtain ⟨it,fp,tn,J,H2,e,I2,T,st2,f2,q⟩:=h2;subst e;obtain ⟨cl,cc⟩:=hcap σ I.len;refine zhM (RR:=fun acc C=>compPost 'f' X.A X.xe none (EP X pins σ Q) acc C) hc I2 T st2 f2 B cl cc hg ht (PX:=fun _=>True) (fun _ _ _=>trivial) (fun X' b _=>(he H X'.nox b).nox) q fun D C acc H' s' m hDC hD hC off I' hn qf=>?_;refine ⟨m,hn,fun h' hk=>⟨.ref D,_,off.turned I' (by rw[yS hDC.symm];exact hC) hk,rfl,qf D hD⟩⟩
theorem zjo {i:Nat} {y:Str} {py spos:Pos} (hc:X.calm=true) (hi:PI X tg iter wi) (B:BlkSc X sc) (hcap:Caps X sc N cap)
  (hg:∀ X',IsBlock X N sc X'->PG X' tg g) (ht:∀ X',IsBlock X N sc X'->PTs X' ifs tc) (he:∀ H X',IsBlock X N sc X'->PE X' elt (te H))
  (hN:X.N.Nodup) (hy:X.N[i]?=some y) (hx:Loc X.env.scope y) (hf:X.fn y=true\/X.env.scope.names.lookup y=some .local)
  (hsw:swapsWith (.ListComp elt [⟨tg,iter,ifs,0⟩] sc pos) (some (.Name y py)) spos.line X.env=pure true)
  (hs:∀ x,foldedSetIterable iter X.env x=pure x:=by intro _;rfl):PS X (.Assign [.Name y py] (.ListComp elt [⟨tg,iter,ifs,0⟩] sc pos) spos) (tAsg (tLC wi cap g tc te) (zj7 i)):=by
 intro pins s σ H D I h;rw[exec_Assign_Name_used _ _ _ _ hsw];refine Za (ZbP (Za ?_));show wpAny _ X.A (do let _ ← comprehension (.ListComp elt [⟨tg,iter,ifs,0⟩] sc pos) sc X.env _ (newList []) false (eval iter X.env) (some (assign (.Name y py) X.env))) _ _ s
 refine Za (Zal (wpAny_comprehension_free (use:=some (assign (.Name y py) X.env)) (Q:=fun _ s'=>SP X pins D .next s') rfl hs (za3 fun x hx=>I.ok.has x (B.free x hx)) B.kind B.names
  (wQ (hi pins s σ H _ I h) fun v s1 h1=>wQ h1 fun itv s2 h2=>?_)) (fun _ s' hq=>Zh (Zh hq)) fun _ _ e=>e)
 obtain ⟨it,fp,tn,J,H2,e,I2,T,st2,f2,q⟩:=h2;subst e;obtain ⟨cl,cc⟩:=hcap σ I.len;refine zhM (RR:=fun acc C=>compPost 'f' X.A X.xe (some (assign (.Name y py) X.env)) (fun _ s'=>SP X pins D .next s') acc C) hc I2 T st2 f2 B cl cc hg ht (PX:=fun _=>True) (fun _ _ _=>trivial) (fun X' b _=>(he H X'.nox b).nox) q fun D' C acc H' s' m hDC hD hC off I' hn qf=>?_;show wpAny _ X.A (assign (.Name y py) X.env (.ref D')) _ _ _;refine wpAny_assign_Name (zcf I' hN hy hx (v:=.ref D') rfl (fun s'' I'' hsm=>?_) hf);obtain ⟨a,hsb,ha⟩:=hsm
 have hCa:C≠a:=by
  rcases ha with ha|ha
  .rw[ha];exact off.ne
  .exact (off.cl y a ha).symm
 refine ⟨m,hn.sameBut hsb hCa,fun h' hk=>⟨_,_,off.turned I'' (by rw[yS hDC.symm];exact hC) hk,qf D' hD⟩⟩
end
end L2
namespace L3
open PySem PySem.Spec PyProof.Rows L2 PySem.SeqAt
mutual
def yQ:W->W->Bool
 | .non,.non=>true
 | .bl a,.bl b=>a==b
 | .bl a,.int j=>(if a then 1 else 0)==j
 | .int i,.bl b=>i==(if b then 1 else 0)
 | .int i,.int j=>i==j
 | .str x,.str y=>x==y
 | .tup xs,.tup ys=>jU xs ys
 |_,_=>false
def jU:List W->List W->Bool
 | [],[]=>true
 |x::xs,y::ys=>yQ x y&&jU xs ys
 |_,_=>false
end
mutual
def pur:W->Bool
 | .ref _=>false
 | .ty _=>false
 | .lsf _=>false
 | .exc _ _ _=>false
 | .dcf _ _=>false
 | .tup ws=>yP ws
 |_=>true
def yP:List W->Bool
 | []=>true
 |w::ws=>pur w&&yP ws
end
mutual
def dep:W->Nat
 | .tup ws=>yL ws+1
 |_=>0
def yL:List W->Nat
 | []=>0
 |w::ws=>max (dep w) (yL ws)
end
theorem xV {w:W} {ws:List W}:yP (w::ws)=true↔pur w=true/\yP ws=true:=by simp[yP]
section
variable {X:Cx} {pins:List (Addr×Obj)} {σ:L2.St} {H:Hp} {s:Shared}
theorem W.ind {P:W->Prop} (non:P .non) (bl:∀ b,P (.bl b)) (int:∀ i,P (.int i)) (str:∀ x,P (.str x)) (ty:∀ n,P (.ty n)) (ref:∀ a,P (.ref a)) (tup:∀ ws,(∀ w∈ws,P w)->P (.tup ws)) (lsf:∀ ws,P (.lsf ws)) (exc:∀ C ns ws,P (.exc C ns ws)) (dcf:∀ ks ws,P (.dcf ks ws)):∀ w:W,P w:=fun w =>
 W.rec (motive_1:=P) (motive_2:=fun ws=>∀ w∈ws,P w) non bl int str ty ref (fun ws h=>tup ws h) (fun ws _=>lsf ws) (fun C ns ws _=>exc C ns ws) (fun ks ws _=>dcf ks ws) (fun _ h=>nomatch h) (fun w ws h hs v hv=>(Zk.mp hv).elim (fun e=>e▸h) (hs v)) w
theorem purs_mem {ws:List W} (h:yP ws=true):∀ w∈ws,pur w=true:=by
 induction ws with
 |nil=>intro w hw;cases hw
 |cons x xs ih =>
  intro w hw;have h':=xV.mp h;rcases Zk.mp hw with e|hw
  .rw[e];exact h'.1
  .exact ih h'.2 w hw
theorem zgc:∀ (ws:List W),(∀ w∈ws,pur w=true->yQ w w=true)->yP ws=true->jU ws ws=true:=by
 intro ws
 induction ws with
 |nil=>intro _ _;simp[jU]
 |cons w ws ih =>
  intro h hp;have h':=xV.mp hp;simp only[jU,h w zzT h'.1,ih (fun z hz=>h z (Zd _ hz)) h'.2,ZM]
theorem fD {w:W}:pur w=true->yQ w w=true:=by
 induction w using W.ind with
 |non=>intro _;simp[yQ]
 |bl _=>intro _;simp[yQ]
 |int _=>intro _;simp[yQ]
 |str _=>intro _;simp[yQ]
 |ty _=>intro h;cases h
 |lsf _=>intro h;cases h
 |exc _ _ _=>intro h;cases h
 |dcf _ _=>intro h;cases h
 |ref _=>intro h;cases h
 |tup ws ih=>intro h;exact zgc ws ih h
theorem zcA (I:Inv X pins σ H s):∀ (xs ys:List W) (vs:List V),(∀ x∈xs,∀ (y:W) (v:V),wM X.K H x v->wM X.K H y v->pur x=true->pur y=true->x=y)->yU X.K H xs vs->yU X.K H ys vs->yP xs=true->yP ys=true->xs=ys:=by
 intro xs
 induction xs with
 |nil =>
  intro ys vs _ h h' _ _
  cases ys with
  |nil=>rfl
  |cons y ys=>obtain ⟨_,_,e,_⟩:=h';rw[show _=[] from h] at e;cases e
 |cons x xs ih =>
  intro ys vs hx h h' px py;obtain ⟨v,r,e,q,t⟩:=h;subst e
  cases ys with
  |nil=>cases h'
  |cons y ys =>
   obtain ⟨v',r',e',q',t'⟩:=h';cases e';rw[hx x zzT y v q q' (xV.mp px).1 (xV.mp py).1,ih ys r (fun z hz=>hx z (Zd _ hz)) t t' (xV.mp px).2 (xV.mp py).2]
theorem zg7 (I:Inv X pins σ H s):∀ (x y:W) (v:V),wM X.K H x v->wM X.K H y v->pur x=true->pur y=true->x=y:=by
 intro x
 induction x using W.ind with
 |tup xs ih =>
  intro y v h h' hx hy;obtain ⟨a,vs,e,q,r⟩:=h;subst e
  cases y with
  |tup ys =>
   obtain ⟨b,us,e',q',r'⟩:=h';cases e';have:=I.tuple_inj q q';subst this;rw[zcA I xs ys vs ih r r' hx hy]
  |ref _=>cases hy
  |ty _=>cases hy
  |lsf _=>cases hy
  |exc _ _ _=>cases hy
  |dcf _ _=>cases hy
  |non=>cases h'
  |bl _=>cases h'
  |int _=>cases h'
  |str _=>cases h'
 |ty _=>intro y v _ _ hx;cases hx
 |lsf _=>intro y v _ _ hx;cases hx
 |exc _ _ _=>intro y v _ _ hx;cases hx
 |dcf _ _=>intro y v _ _ hx;cases hx
 |ref _=>intro y v _ _ hx;cases hx
 |non =>
  intro y v h h' _ hy;cases h
  cases y with
  |tup ys=>obtain ⟨_,_,e,_⟩:=h';cases e
  |ref _=>cases hy
  |ty _=>cases hy
  |lsf _=>cases hy
  |exc _ _ _=>cases hy
  |dcf _ _=>cases hy
  |non=>rfl
  |bl _=>cases h'
  |int _=>cases h'
  |str _=>cases h'
 |bl _ =>
  intro y v h h' _ hy;cases h
  cases y with
  |tup ys=>obtain ⟨_,_,e,_⟩:=h';cases e
  |ref _=>cases hy
  |ty _=>cases hy
  |lsf _=>cases hy
  |exc _ _ _=>cases hy
  |dcf _ _=>cases hy
  |non=>cases h'
  |bl _=>cases h';rfl
  |int _=>cases h'
  |str _=>cases h'
 |int _ =>
  intro y v h h' _ hy;cases h
  cases y with
  |tup ys=>obtain ⟨_,_,e,_⟩:=h';cases e
  |ref _=>cases hy
  |ty _=>cases hy
  |lsf _=>cases hy
  |exc _ _ _=>cases hy
  |dcf _ _=>cases hy
  |non=>cases h'
  |bl _=>cases h'
  |int _=>cases h';rfl
  |str _=>cases h'
 |str _ =>
  intro y v h h' _ hy;cases h
  cases y with
  |tup ys=>obtain ⟨_,_,e,_⟩:=h';cases e
  |ref _=>cases hy
  |ty _=>cases hy
  |lsf _=>cases hy
  |exc _ _ _=>cases hy
  |dcf _ _=>cases hy
  |non=>cases h'
  |bl _=>cases h'
  |int _=>cases h'
  |str _=>cases h';rfl
theorem zjh (I:Inv X pins σ H s) {xs ys:List W} {vs:List V} (h:yU X.K H xs vs) (h':yU X.K H ys vs) (hx:yP xs=true) (hy:yP ys=true):xs=ys :=
 zcA I xs ys vs (fun x _=>zg7 I x) h h' hx hy
def mT (xs ys:List W) (j:Nat):Bool:=match xs[j]?,ys[j]? with
 |some x,some y=>yQ x y
 |_,_=>false
theorem fE:∀ xs ys:List W,((List.range (min xs.length ys.length)).all (mT xs ys)&&xs.length==ys.length)=jU xs ys
 | [],[]=>rfl
 | [],_::_=>by simp[jU]
 |_::_,[]=>by simp[jU]
 |x::xs,y::ys=>by
  have ih:=fE xs ys;simp only[Ze,Nat.add_min_add_right,jU];rw[List.range_succ_eq_map,Za1,List.all_map];have h0:mT (x::xs) (y::ys) 0=yQ x y:=rfl;have h1:(mT (x::xs) (y::ys) ∘ Nat.succ)=mT xs ys:=by funext j;simp[mT]
  rw[h0,h1,← ih,Bool.and_assoc];congr 2;simp
theorem zka {xs ys:List W} (h:xs.length≠ys.length):jU xs ys=false:=by
 rw[← fE];have:(xs.length==ys.length)=false:=by simpa using h
 rw[this,Zb3]
theorem zia {xs ys:List W} (h:xs.length=ys.length):(List.range xs.length).all (mT xs ys)=jU xs ys:=by
 rw[← fE,h,ZU];simp
theorem xL (I:Inv X pins σ H s) {ws:List W} {v:V} {u:Value} (h:wM X.K H (.tup ws) v) (r:yR v u):∃ a vs its,v=.ref a/\u=.ref a/\gH X.K H a vs/\yU X.K H ws vs/\yV vs its/\s.heap.IsTuple a its.toArray/\ws.length<=sizeLine:=by
 obtain ⟨a,vs,rfl,q,rs⟩:=h;obtain ⟨its,vr,it,hl⟩:=I.tuple q;exact ⟨a,vs,its,rfl,r,q,rs,vr,it,by rw[← rs.length];exact hl⟩
theorem zfk (I:Inv X pins σ H s):∀ (xs ys:List W) (vs vs':List V) (us us':List Value) (A:Around),(∀ x∈xs,∀ (y:W) (v v':V) (u u':Value) (A:Around),wM X.K H x v->yR v u->wM X.K H y v'->yR v' u'->pur x=true->pur y=true->A.units+min (dep x) (dep y)<cLine->EqAt A s u u' (yQ x y)) ->
  yU X.K H xs vs->yV vs us->yU X.K H ys vs'->yV vs' us'->yP xs=true->yP ys=true ->
  A.units+min (yL xs) (yL ys)<cLine->∀ (j:Nat) (h1:j<us.length) (h2:j<us'.length),EqAt A s us[j] us'[j] (mT xs ys j):=by
 intro xs
 induction xs with
 |nil=>intro ys vs vs' us us' A _ h r _ _ _ _ _ j h1;rw[show _=[] from h] at r;cases r;exact absurd h1 (ZbZ _)
 |cons x xs ih =>
  intro ys vs vs' us us' A he h r h' r' hx hy hu j h1 h2
  cases ys with
  |nil=>rw[show _=[] from h'] at r';cases r';exact absurd h2 (ZbZ _)
  |cons y ys =>
   obtain ⟨v,t,e,h,hs⟩:=h;obtain ⟨v',t',e',h',hs'⟩:=h';subst e;subst e'
   cases r with
   |cons r rs =>
    cases r' with
    |cons r' rs' =>
     have px:=xV.mp hx;have py:=xV.mp hy;simp only[yL] at hu
     cases j with
     |zero=>exact he x zzT y _ _ _ _ A h r h' r' px.1 py.1 'd'
     |succ j=>exact ih ys _ _ _ _ A (fun z hz=>he z (Zd _ hz)) hs rs hs' rs' px.2 py.2 'd' j (Nat.lt_of_succ_lt_succ h1) (Nat.lt_of_succ_lt_succ h2)
theorem zif (I:Inv X pins σ H s):∀ (x y:W) (v v':V) (u u':Value) (A:Around),wM X.K H x v->yR v u->wM X.K H y v'->yR v' u'->pur x=true->pur y=true->A.units+min (dep x) (dep y)<cLine->EqAt A s u u' (yQ x y):=by
 intro x
 induction x using W.ind with
 |tup xs ih =>
  intro y v v' u u' A h r h' r' hx hy hu;obtain ⟨a,vs,its,rfl,rfl,q,rs,vr,it,_⟩:=xL I h r
  cases y with
  |tup ys =>
   obtain ⟨b,us,its',rfl,rfl,q',rs',vr',it',_⟩:=xL I h' r'
   by_cases e:a=b
   .subst e;have:=I.tuple_inj q q';subst this;have:=zjh I rs rs' hx hy;subst this;rw[show yQ (.tup xs) (.tup xs)=true from fD (w:=.tup xs) hx];exact EqAt.same _
   .show EqAt A s _ _ (jU xs ys);rw[← fE];have l1:its.toArray.size=xs.length:=by rw[zzS,← vr.length,rs.length]
    have l2:its'.toArray.size=ys.length:=by rw[zzS,← vr'.length,rs'.length]
    rw[← l1,← l2];refine EqAt.of_refs e (RcAt.tuples it it' (by simp only[dep] at hu;omega) fun j j1 j2=>?_);exact zfk I xs ys _ _ _ _ A.in1 ih rs vr rs' vr' hx hy (by simp only[dep] at hu;show A.units+1+_<_;omega) j (by simpa using j1) (by simpa using j2)
  |ref _=>cases hy
  |ty _=>cases hy
  |lsf _=>cases hy
  |exc _ _ _=>cases hy
  |dcf _ _=>cases hy
  |non=>cases h';cases r';exact EqAt.tuple_none it 'd'
  |bl _=>cases h';cases r';exact EqAt.tuple_bool _ it 'd'
  |int _=>cases h';obtain ⟨t,rfl⟩:=r';exact EqAt.tuple_int _ _ it 'd'
  |str _=>cases h';obtain ⟨t,rfl⟩:=r';exact EqAt.tuple_str _ _ it 'd'
 |ty _=>intro y v v' u u' A _ _ _ _ hx;cases hx
 |lsf _=>intro y v v' u u' A _ _ _ _ hx;cases hx
 |exc _ _ _=>intro y v v' u u' A _ _ _ _ hx;cases hx
 |dcf _ _=>intro y v v' u u' A _ _ _ _ hx;cases hx
 |ref _=>intro y v v' u u' A _ _ _ _ hx;cases hx
 |non =>
  intro y v v' u u' A h r h' r' hx hy hu;cases h;cases r
  cases y with
  |tup ys=>obtain ⟨b,us,its',rfl,rfl,q',rs',vr',it',_⟩:=xL I h' r';exact EqAt.none_tuple it' 'd'
  |ref _=>cases hy
  |ty _=>cases hy
  |lsf _=>cases hy
  |exc _ _ _=>cases hy
  |dcf _ _=>cases hy
  |non=>cases h';cases r';exact EqAt.same _
  |bl _=>cases h';cases r';exact EqAt.none_bool _
  |int _=>cases h';obtain ⟨t,rfl⟩:=r';exact EqAt.none_int _ _
  |str _=>cases h';obtain ⟨t,rfl⟩:=r';exact EqAt.none_str _ _
 |bl _ =>
  intro y v v' u u' A h r h' r' hx hy hu;cases h;cases r
  cases y with
  |tup ys=>obtain ⟨b,us,its',rfl,rfl,q',rs',vr',it',_⟩:=xL I h' r';exact EqAt.bool_tuple _ it' 'd'
  |ref _=>cases hy
  |ty _=>cases hy
  |lsf _=>cases hy
  |exc _ _ _=>cases hy
  |dcf _ _=>cases hy
  |non=>cases h';cases r';exact EqAt.bool_none _
  |bl _=>cases h';cases r';exact EqAt.bool_bool _ _
  |int _=>cases h';obtain ⟨t,rfl⟩:=r';exact EqAt.bool_int _ _ _
  |str _=>cases h';obtain ⟨t,rfl⟩:=r';exact EqAt.bool_str _ _ _
 |int _ =>
  intro y v v' u u' A h r h' r' hx hy hu;cases h;obtain ⟨t0,rfl⟩:=r
  cases y with
  |tup ys=>obtain ⟨b,us,its',rfl,rfl,q',rs',vr',it',_⟩:=xL I h' r';exact EqAt.int_tuple _ _ it' 'd'
  |ref _=>cases hy
  |ty _=>cases hy
  |lsf _=>cases hy
  |exc _ _ _=>cases hy
  |dcf _ _=>cases hy
  |non=>cases h';cases r';exact EqAt.int_none _ _
  |bl _=>cases h';cases r';exact EqAt.int_bool _ _ _
  |int _=>cases h';obtain ⟨t,rfl⟩:=r';exact EqAt.int_int _ _ _ _
  |str _=>cases h';obtain ⟨t,rfl⟩:=r';exact EqAt.int_str _ _ _ _
 |str _ =>
  intro y v v' u u' A h r h' r' hx hy hu;cases h;obtain ⟨t0,rfl⟩:=r
  cases y with
  |tup ys=>obtain ⟨b,us,its',rfl,rfl,q',rs',vr',it',_⟩:=xL I h' r';exact EqAt.str_tuple _ _ it' 'd'
  |ref _=>cases hy
  |ty _=>cases hy
  |lsf _=>cases hy
  |exc _ _ _=>cases hy
  |dcf _ _=>cases hy
  |non=>cases h';cases r';exact EqAt.str_none _ _
  |bl _=>cases h';cases r';exact EqAt.str_bool _ _ _
  |int _=>cases h';obtain ⟨t,rfl⟩:=r';exact EqAt.str_int _ _ _ _
  |str _=>cases h';obtain ⟨t,rfl⟩:=r';exact EqAt.str_str _ _ _ _
theorem zie (I:Inv X pins σ H s) {xs ys:List W} {vs vs':List V} {us us':List Value} {A:Around} (h:yU X.K H xs vs) (r:yV vs us) (h':yU X.K H ys vs') (r':yV vs' us') (hx:yP xs=true) (hy:yP ys=true)
  (hu:A.units+min (yL xs) (yL ys)<cLine):∀ (j:Nat) (h1:j<us.length) (h2:j<us'.length),EqAt A s us[j] us'[j] (mT xs ys j) :=
 zfk I xs ys _ _ _ _ A (fun x _=>zif I x) h r h' r' hx hy hu
end
section
variable {X:Cx} {pins:List (Addr×Obj)} {σ:L2.St} {H:Hp} {s:Shared}
theorem znw (I:Inv X pins σ H s) (x y:W) (v v':V) (u u':Value) (A:Around) (h:wM X.K H x v) (r:yR v u) (h':wM X.K H y v') (r':yR v' u') (hx:pur x=true) (hy:pur y=true) (hu:A.units+min (dep x) (dep y)<cLine):RcAt A s u u' (yQ x y)/\RcNeAt A s u u' (!yQ x y):=by
 have h0:A.units<cLine:=by omega
 cases x with
 |ref _=>cases hx
 |ty _=>cases hx
 |lsf _=>cases hx
 |exc _ _ _=>cases hx
 |dcf _ _=>cases hx
 |tup xs =>
  obtain ⟨a,vs,its,rfl,rfl,q,rs,vr,it,_⟩:=xL I h r
  cases y with
  |ref _=>cases hy
  |ty _=>cases hy
  |lsf _=>cases hy
  |exc _ _ _=>cases hy
  |dcf _ _=>cases hy
  |tup ys =>
   obtain ⟨b,us,its',rfl,rfl,q',rs',vr',it',_⟩:=xL I h' r';have l1:its.toArray.size=xs.length:=by rw[zzS,← vr.length,rs.length]
   have l2:its'.toArray.size=ys.length:=by rw[zzS,← vr'.length,rs'.length]
   have key:∀ (j:Nat) (j1:j<its.toArray.size) (j2:j<its'.toArray.size),EqAt A.in1 s its.toArray[j] its'.toArray[j] (mT xs ys j):=fun j j1 j2 =>
    zie I rs vr rs' vr' hx hy (A:=A.in1) (by simp only[dep] at hu;show A.units+1+_<_;omega) j (by simpa using j1) (by simpa using j2)
   show RcAt A s _ _ (jU xs ys)/\RcNeAt A s _ _ (!jU xs ys);rw[← fE,← l1,← l2];exact ⟨RcAt.tuples it it' h0 key,RcNeAt.tuples it it' h0 key⟩
  |non=>cases h';cases r';exact ⟨RcAt.tuple_none it h0,RcNeAt.tuple_none it h0⟩
  |bl _=>cases h';cases r';exact ⟨RcAt.tuple_bool _ it h0,RcNeAt.tuple_bool _ it h0⟩
  |int _=>cases h';obtain ⟨t,rfl⟩:=r';exact ⟨RcAt.tuple_int _ _ it h0,RcNeAt.tuple_int _ _ it h0⟩
  |str _=>cases h';obtain ⟨t,rfl⟩:=r';exact ⟨RcAt.tuple_str _ _ it h0,RcNeAt.tuple_str _ _ it h0⟩
 |non =>
  cases h;cases r
  cases y with
  |ref _=>cases hy
  |ty _=>cases hy
  |lsf _=>cases hy
  |exc _ _ _=>cases hy
  |dcf _ _=>cases hy
  |tup ys=>obtain ⟨b,us,its',rfl,rfl,q',rs',vr',it',_⟩:=xL I h' r';exact ⟨RcAt.none_tuple it' h0,RcNeAt.none_tuple it' h0⟩
  |non=>cases h';cases r';exact ⟨RcAt.none_none,RcNeAt.none_none⟩
  |bl _=>cases h';cases r';exact ⟨RcAt.none_bool _,RcNeAt.none_bool _⟩
  |int _=>cases h';obtain ⟨t,rfl⟩:=r';exact ⟨RcAt.none_int _ _,RcNeAt.none_int _ _⟩
  |str _=>cases h';obtain ⟨t,rfl⟩:=r';exact ⟨RcAt.none_str _ _,RcNeAt.none_str _ _⟩
 |bl _ =>
  cases h;cases r
  cases y with
  |ref _=>cases hy
  |ty _=>cases hy
  |lsf _=>cases hy
  |exc _ _ _=>cases hy
  |dcf _ _=>cases hy
  |tup ys=>obtain ⟨b,us,its',rfl,rfl,q',rs',vr',it',_⟩:=xL I h' r';exact ⟨RcAt.bool_tuple _ it' h0,RcNeAt.bool_tuple _ it' h0⟩
  |non=>cases h';cases r';exact ⟨RcAt.bool_none _,RcNeAt.bool_none _⟩
  |bl _=>cases h';cases r';exact ⟨RcAt.bool_bool _ _,RcNeAt.bool_bool _ _⟩
  |int _=>cases h';obtain ⟨t,rfl⟩:=r';exact ⟨RcAt.bool_int _ _ _,RcNeAt.bool_int _ _ _⟩
  |str _=>cases h';obtain ⟨t,rfl⟩:=r';exact ⟨RcAt.bool_str _ _ _,RcNeAt.bool_str _ _ _⟩
 |int _ =>
  cases h;obtain ⟨t0,rfl⟩:=r
  cases y with
  |ref _=>cases hy
  |ty _=>cases hy
  |lsf _=>cases hy
  |exc _ _ _=>cases hy
  |dcf _ _=>cases hy
  |tup ys=>obtain ⟨b,us,its',rfl,rfl,q',rs',vr',it',_⟩:=xL I h' r';exact ⟨RcAt.int_tuple _ _ it' h0,RcNeAt.int_tuple _ _ it' h0⟩
  |non=>cases h';cases r';exact ⟨RcAt.int_none _ _,RcNeAt.int_none _ _⟩
  |bl _=>cases h';cases r';exact ⟨RcAt.int_bool _ _ _,RcNeAt.int_bool _ _ _⟩
  |int _=>cases h';obtain ⟨t,rfl⟩:=r';exact ⟨RcAt.int_int _ _ _ _,RcNeAt.int_int _ _ _ _⟩
  |str _=>cases h';obtain ⟨t,rfl⟩:=r';exact ⟨RcAt.int_str _ _ _ _,RcNeAt.int_str _ _ _ _⟩
 |str _ =>
  cases h;obtain ⟨t0,rfl⟩:=r
  cases y with
  |ref _=>cases hy
  |ty _=>cases hy
  |lsf _=>cases hy
  |exc _ _ _=>cases hy
  |dcf _ _=>cases hy
  |tup ys=>obtain ⟨b,us,its',rfl,rfl,q',rs',vr',it',_⟩:=xL I h' r';exact ⟨RcAt.str_tuple _ _ it' h0,RcNeAt.str_tuple _ _ it' h0⟩
  |non=>cases h';cases r';exact ⟨RcAt.str_none _ _,RcNeAt.str_none _ _⟩
  |bl _=>cases h';cases r';exact ⟨RcAt.str_bool _ _ _,RcNeAt.str_bool _ _ _⟩
  |int _=>cases h';obtain ⟨t,rfl⟩:=r';exact ⟨RcAt.str_int _ _ _ _,RcNeAt.str_int _ _ _ _⟩
  |str _=>cases h';obtain ⟨t,rfl⟩:=r';exact ⟨RcAt.str_str _ _ _ _,RcNeAt.str_str _ _ _ _⟩
theorem zhF (I:Inv X pins σ H s) {G:Hw} {p:Addr} {ws:List W} (ab:xE X.K H G) (e:yG G p=some ws):∃ vs its,dL X.K H p vs/\yU X.K H ws vs/\yV vs its/\s.heap.IsList p its.toArray/\PlainL s.heap p its.toArray/\ws.length<=sizeLine:=by
 obtain ⟨vs,q,r⟩:=ab.seq e;obtain ⟨its,vr,pl,hl⟩:=I.list q;exact ⟨vs,its,q,r,vr,(let ⟨o,n,h1,h2,_,h3⟩:=pl;⟨o,h1,h2,n,h3⟩),pl,by rw[← r.length];exact hl⟩
theorem znx (I:Inv X pins σ H s) {G:Hw} {p q:Addr} {xs ys:List W} {A:Around} (ab:xE X.K H G) (e:yG G p=some xs) (e':yG G q=some ys) (hx:yP xs=true) (hy:yP ys=true) (hu:A.units+1+min (yL xs) (yL ys)<cLine) :
  RcAt A s (.ref p) (.ref q) (jU xs ys)/\RcNeAt A s (.ref p) (.ref q) (!jU xs ys):=by
 obtain ⟨vs,its,_,rs,vr,il,_⟩:=zhF I ab e;obtain ⟨us,its',_,rs',vr',il',_⟩:=zhF I ab e';have h0:A.units<cLine:=by omega
 have l1:its.toArray.size=xs.length:=by rw[zzS,← vr.length,rs.length]
 have l2:its'.toArray.size=ys.length:=by rw[zzS,← vr'.length,rs'.length]
 have key:∀ (j:Nat) (j1:j<its.toArray.size) (j2:j<its'.toArray.size),EqAt A.in1 s its.toArray[j] its'.toArray[j] (mT xs ys j):=fun j j1 j2 =>
  zie I rs vr rs' vr' hx hy (A:=A.in1) hu j (by simpa using j1) (by simpa using j2)
 by_cases hl:xs.length=ys.length
 .rw[← zia hl,← l1];exact ⟨RcAt.lists il il' 'd' h0 key,RcNeAt.lists il il' 'd' h0 key⟩
 .rw[zka hl];have:(its.toArray.size != its'.toArray.size)=true:=by simp only[bne_iff_ne];omega
  exact ⟨RcAt.lists_lengths il il' this h0,RcNeAt.lists_lengths il il' this h0⟩
end
end L3
namespace PySem
open Sem (wp)
open Builtin
theorem zb9:fillsNumberSlot (.type "tuple") "mul" = pure false :=
 fillsNumberSlot_seq (id := "tuple.__mul__") (r:=some (.builtin "tuple.__rmul__")) Zbi.lookup 'j' F.slot_tuple_rmul.lookup 'j'
theorem zb8:seqRepeat? (.type "tuple")=pure (some (.builtin "tuple.__mul__")):=by
 unfold seqRepeat?;rw[seqSlot_of (T := "tuple") (name := "__mul__") (id := "tuple.__mul__") Zbi.lookup 'j',seqSlot_of (T := "tuple") (name := "__rmul__") (id := "tuple.__rmul__") F.slot_tuple_rmul.lookup 'j'];rfl
theorem zgA (a:Int) (t:Tok) (l:Addr) (items:Array Value) (n:Nat) (dd:Option Addr) (sl:Array (Option Value)) :
  Meets (Builtin.«int.__rmul__» ⟨[.int a t,.ref l],[]⟩) (fun _ R s=>s.heap.get? l=some { cls:=.type "tuple", dict:=dd,data:=.seq items n,slots:=sl }/\R (.ok (.ret Value.notImplemented)) s) :=
 .of_wp fun prog w A R s h=>by obtain ⟨hp,g,d,tk,os⟩:=s;obtain ⟨hl,h⟩:=h;wp_walk;exact ⟨_,rfl,h⟩
theorem zm4 (l:Addr) (items:Array Value) (n:Nat) (u:Tok) (dd:Option Addr) (sl:Array (Option Value)) :
  Meets (Builtin.«tuple.__mul__» ⟨[.ref l,.int 1 u],[]⟩) (fun _ R s=>s.heap.get? l=some { cls:=.type "tuple", dict:=dd,data:=.seq items n,slots:=sl }/\R (.ok (.ret (Value.ref l))) s) :=
 .of_wp fun prog w A R s h=>by obtain ⟨hp,g,d,tk,os⟩:=s;obtain ⟨hl,h⟩:=h;wp_walk;exact ⟨_,rfl,h⟩
theorem zlh (l:Addr) (items:Array Value) (n:Nat) (u:Tok) (dd:Option Addr) (sl:Array (Option Value)) (hi:items.isEmpty=false) :
  Meets (Builtin.«tuple.__mul__» ⟨[.ref l,.int 0 u],[]⟩) (fun _ R s=>s.heap.get? l=some { cls:=.type "tuple", dict:=dd,data:=.seq items n,slots:=sl }/\R (.ok (.ret (Value.ref s.heap.objs.size))) { s with heap:=s.heap.push { cls:=.type "tuple", data:=.seq #[] } }) :=
 .of_wp fun prog w A R s h=>by obtain ⟨hp,g,d,tk,os⟩:=s;obtain ⟨hl,h⟩:=h;wp_walk;exact ⟨_,rfl,h⟩
end PySem
namespace L3
open PySem PySem.Spec PyProof.Rows L2
section
variable {X:Cx}
def rRepT (K:yI):R2:=fun x y H Q=>∃ a k xs,x=.ref a/\y=.int k/\gH K H a xs/\((k=1/\Q (.ref a) H)\/(k=0/\xs≠[]/\∀ p,H p=none->Q (.ref p) (xM H p (.tup []))))
theorem zlS:gE X (binaryOp .Mult) (rRepT X.K):=by
 intro pins s σ H x y v u Q I rx ry h;obtain ⟨a,k,xs,rfl,rfl,ha,h⟩:=h;cases rx;obtain ⟨t,rfl⟩:=ry;obtain ⟨its,r1,p1,_⟩:=I.tuple ha;obtain ⟨⟨cls,dd,data,sl⟩,ho,hc,n,hd⟩:=id p1;simp only at hc hd;subst hc hd;rcases h with ⟨rfl,q⟩|⟨rfl,hx,q⟩
 .exact ZaS (T := "tuple") (U := "int") 'c' ⟨_,ho,rfl⟩ (fun s'=>Zbs s' 1 t) zb9 ZbV ZaM zb8 ZbR.lookup
   (ZaK ZaM (Zbs s 1 t) ZbQ (ZbE _ _) (zgA 1 t a its.toArray n dd sl)
    ⟨ho,rfl,⟨_,ho,rfl⟩,ZaK Zbi ⟨_,ho,rfl⟩ F.entry_tuple_mul (F.args_tuple_mul_2 _ _) (zm4 a its.toArray n t dd sl) ⟨ho,.ref a,H,I,rfl,q⟩⟩)
 .have he:its.toArray.isEmpty=false:=by
   cases its with
   |nil=>exact absurd (r1.nil_iff.mp rfl) hx
   |cons _ _=>rfl
  refine ZaS (T := "tuple") (U := "int") 'c' ⟨_,ho,rfl⟩ (fun s'=>Zbs s' 0 t) zb9 ZbV ZaM zb8 ZbR.lookup
   (ZaK ZaM (Zbs s 0 t) ZbQ (ZbE _ _) (zgA 0 t a its.toArray n dd sl)
    ⟨ho,rfl,⟨_,ho,rfl⟩,ZaK Zbi ⟨_,ho,rfl⟩ F.entry_tuple_mul (F.args_tuple_mul_2 _ _) (zlh a its.toArray n t dd sl he) ⟨ho,?_⟩⟩)
  refine ⟨.ref s.heap.objs.size,_,I.laid (t':=s.toks) (o:=.tup []) (fun b ob q=>Zc _ q) (zzR _) ?_,rfl,q _ (I.hok.fresh (zzR _))⟩;exact ⟨Zg _,[],.nil,Zb6 _ _⟩
def rRepS:R2:=fun x y H Q=>∃ i k,x=.str i/\y=.int k/\((k=1/\Q (.str i) H)\/(k=0/\Q (.str Str.empty) H))
theorem zlT:gE X (binaryOp .Mult) rRepS:=by
 intro pins s σ H x y v u Q I rx ry h;obtain ⟨i,k,rfl,rfl,h⟩:=h;obtain ⟨t,rfl⟩:=rx;obtain ⟨t2,rfl⟩:=ry;rcases h with ⟨rfl,q⟩|⟨rfl,q⟩
 .refine PySem.P.mul_str 'c' (fun _ z=>absurd z 'g') (fun _ z=>absurd z 'g') ?_;rw[if_neg 'c',if_pos 'g'];exact ⟨.str i,H,I,⟨t,rfl⟩,q⟩
 .exact PySem.P.mul_str_none 'c' 'c' ⟨.str Str.empty,H,I.tok _ (ZaN I.tk),⟨_,rfl⟩,q⟩
end
end L3
namespace L3
open PySem PySem.Spec PyProof.Rows L2 PySem.SeqAt
abbrev R3:=W->W->Hw->Q3->Prop
def sG (K:yI) (H:Hp) (Q:VK):Q3:=fun w G'=>∀ v H',yB K H H'->wM K H' w v->xE K H' G'->Q v H'
def zdv (r:R3):Prop:=∀ x y G (Q Q':Q3),'i'->r x y G Q->r x y G Q'
def low2 (K:yI) (r:R3):R2:=fun v u H Q=>∃ x y G,wM K H x v/\wM K H y u/\xE K H G/\r x y G (sG K H Q)
def wN:Operator->R3
 | .Add=>fun x y G Q=>match x,y with
  | .int i,.int j=>Q (.int (i+j)) G
  | .str a,.str b=>a.length+b.length<=sizeLine/\Q (.str (a++b)) G
  | .tup a,.tup b=>a.length+b.length<=sizeLine/\Q (.tup (a++b)) G
  | .ref p,.ref q=>(match G p,G q with
   |some (.lst xs),some (.lst ys)=>xs.length+ys.length<=sizeLine/\∀ r,G r=none->Q (.ref r) (put G r (.lst (xs++ys)))
   |_,_=>False)
  |_,_=>False
 | .Sub=>fun x y G Q=>match x,y with
  | .int i,.int j=>Q (.int (i-j)) G
  |_,_=>False
 | .Mult=>fun x y G Q=>match x,y with
  | .int i,.int j=>CMul i j/\Q (.int (i * j)) G
  | .tup xs,.int k=>(k=1/\Q (.tup xs) G)\/(k=0/\xs≠[]/\Q (.tup []) G)
  | .str a,.int k=>(k=1/\Q (.str a) G)\/(k=0/\Q (.str Str.empty) G)
  | .ref p,.int k=>(match G p with
   |some (.lst xs)=>(-(2 ^ 63)<=k/\k<2 ^ 63/\xs.length * k.toNat<=sizeLine)/\∀ r,G r=none->Q (.ref r) (put G r (.lst (List.replicate k.toNat xs).flatten))
   |_=>False)
  |_,_=>False
 | .Mod=>fun x y G Q=>match x,y with
  | .int i,.int j=>0<j/\Q (.int (i % j)) G
  |_,_=>False
 | .FloorDiv=>fun x y G Q=>match x,y with
  | .int i,.int j=>CDiv i j/\Q (.int (i / j)) G
  |_,_=>False
 | .Pow=>fun x y G Q=>match x,y with
  | .int i,.int j=>CPow i j/\Q (.int (i ^ j.toNat)) G
  |_,_=>False
 |_=>fun _ _ _ _=>False
theorem zdq:∀ op,zdv (wN op):=by
 intro op x y G Q Q' k h
 cases op with
 |Add =>
  cases x with
  |int i=>cases y with
   |int j=>exact k _ _ h
   |_=>exact h.elim
  |str i=>cases y with
   |str j=>exact ⟨h.1,k _ _ h.2⟩
   |_=>exact h.elim
  |tup a=>cases y with
   |tup b=>exact ⟨h.1,k _ _ h.2⟩
   |_=>exact h.elim
  |ref p=>cases y with
   |ref q =>
    simp only[wN] at h ⊢
    split at h
    .exact ⟨h.1,fun r hr=>k _ _ (h.2 r hr)⟩
    .exact h.elim
   |_=>exact h.elim
  |_=>exact h.elim
 |Mult =>
  cases x with
  |int i=>cases y with
   |int j=>exact ⟨h.1,k _ _ h.2⟩
   |_=>exact h.elim
  |tup a=>cases y with
   |int j=>exact h.imp (fun z=>⟨z.1,k _ _ z.2⟩) fun z=>⟨z.1,z.2.1,k _ _ z.2.2⟩
   |_=>exact h.elim
  |str a=>cases y with
   |int j=>exact h.imp (fun z=>⟨z.1,k _ _ z.2⟩) fun z=>⟨z.1,k _ _ z.2⟩
   |_=>exact h.elim
  |ref p=>cases y with
   |int q =>
    simp only[wN] at h ⊢
    split at h
    .exact ⟨h.1,fun r hr=>k _ _ (h.2 r hr)⟩
    .exact h.elim
   |_=>exact h.elim
  |_=>exact h.elim
 |Sub =>
  cases x with
  |int i=>cases y with
   |int j=>exact k _ _ h
   |_=>exact h.elim
  |_=>exact h.elim
 |Mod =>
  cases x with
  |int i=>cases y with
   |int j=>exact ⟨h.1,k _ _ h.2⟩
   |_=>exact h.elim
  |_=>exact h.elim
 |FloorDiv =>
  cases x with
  |int i=>cases y with
   |int j=>exact ⟨h.1,k _ _ h.2⟩
   |_=>exact h.elim
  |_=>exact h.elim
 |Pow =>
  cases x with
  |int i=>cases y with
   |int j=>exact ⟨h.1,k _ _ h.2⟩
   |_=>exact h.elim
  |_=>exact h.elim
 |_=>exact h.elim
section
variable {X:Cx}
theorem yU.nil_iff {K:yI} {H:Hp} {ws:List W} {vs:List V} (h:yU K H ws vs):vs=[]↔ws=[]:=by
 have:=h.length
 constructor
 .intro e;subst e;exact List.eq_nil_of_length_eq_zero this.symm
 .intro e;subst e;exact List.eq_nil_of_length_eq_zero this
theorem zmO {pins:List (Addr×Obj)} {s:Shared} {σ:L2.St} {H:Hp} {a b:Addr} {Q:Value->Shared->Prop} {E:Value->Shared->Prop} {ws:List Value} (ht:IsTup s.heap a #[]) (hb:IsTup s.heap b ws.toArray) (h:Q (.ref b) s) :
  wpAny 'f' X.A (binaryOp .Add (.ref a) (.ref b)) Q E s:=by
 obtain ⟨⟨cls,dd,data,sl⟩,ho,hc,n,hd⟩:=id ht;obtain ⟨⟨cls2,dd2,data2,sl2⟩,ho2,hc2,n2,hd2⟩:=id hb;simp only at hc hd hc2 hd2;subst hc hd hc2 hd2
 exact concat_meets ⟨_,ho,rfl⟩ ⟨_,ho2,rfl⟩ ZbU Zb8 Za7 Za5 (Za0 _ _)
  (tuple_addW0 a b #[] ws.toArray n n2 dd dd2 sl sl2 rfl) ⟨ho,ho2,h⟩
theorem vK {K:yI} {H:Hp} {G:Hw} {Q:VK} {ws:List W} {vs:List V} (ab:xE K H G) (r:yU K H ws vs) (h:∀ p,G p=none->sG K H Q (.ref p) (put G p (.lst ws))):∀ p,H p=none->Q (.ref p) (xM H p (.lst vs)):=fun p hp =>
 h p (ab.free hp) _ _ (wT hp) rfl (ab.new hp ⟨vs,rfl,r.mono (wT hp)⟩)
theorem fS {K:yI} {H:Hp} {G:Hw} {Q:VK} {ws:List W} {vs:List V} (ab:xE K H G) (r:yU K H ws vs) (h:sG K H Q (.tup ws) G):∀ p,H p=none->Q (.ref p) (xM H p (.tup vs)):=fun p hp =>
 h _ _ (wT hp) ⟨p,vs,rfl,.of wC,r.mono (wT hp)⟩ (ab.tup hp)
theorem yU.flat {K:yI} {H:Hp} {ws:List W} {vs:List V} (h:yU K H ws vs):∀ k:Nat,yU K H (List.replicate k ws).flatten (List.replicate k vs).flatten
 | 0=>rfl
 |k+1=>by rw[Z4,Z4,Zas,Zas];exact h.append (yU.flat h k)
theorem zoK (op:Operator):gE X (binaryOp op) (low2 X.K (wN op)):=by
 intro pins s σ H v u a b Q I rv ru h;obtain ⟨x,y,G,rx,ry,ab,h⟩:=h
 cases op with
 |Add =>
  cases x with
  |int i =>
   cases y with
   |int j=>cases rx;cases ry;exact znY pins s σ H _ _ _ _ Q I rv ru ⟨i,j,rfl,rfl,h _ _ .refl rfl ab⟩
   |_=>exact h.elim
  |str i =>
   cases y with
   |str j=>cases rx;cases ry;exact zfS pins s σ H _ _ _ _ Q I rv ru ⟨i,j,rfl,rfl,h.1,h.2 _ _ .refl rfl ab⟩
   |_=>exact h.elim
  |tup xs =>
   cases y with
   |tup ys =>
    obtain ⟨a1,vs,its,rfl,rfl,q,rs,vr,it,_⟩:=xL I rx rv;obtain ⟨b1,us,its',rfl,rfl,q',rs',vr',it',_⟩:=xL I ry ru
    by_cases e:xs=[]
    .subst e;have e1:vs=[]:=(rs.nil_iff).mpr rfl;subst e1;cases vr;exact zmO (pins:=pins) (σ:=σ) (H:=H) it it' ⟨.ref b1,H,I,rfl,h.2 _ _ .refl ⟨b1,us,rfl,q',rs'⟩ ab⟩
    .refine zlV pins s σ H (.ref a1) (.ref b1) _ _ Q I rfl rfl ⟨a1,b1,vs,us,rfl,rfl,q,q',fun z=>e (rs.nil_iff.mp z),by rw[rs.length,rs'.length];exact h.1,fun z=>?_,fun _=>?_⟩
     .have:ys=[]:=rs'.nil_iff.mp z;subst this;exact h.2 _ _ .refl ⟨a1,vs,rfl,q,by rw[Zv];exact rs⟩ ab
     .exact fS ab (rs.append rs') h.2
   |_=>exact h.elim
  |ref p =>
   cases y with
   |ref q =>
    cases rx;cases ry;simp only[wN] at h
    split at h
    .rename_i xs ys e1 e2;obtain ⟨vs,q1,r1⟩:=ab.lst e1;obtain ⟨us,q2,r2⟩:=ab.lst e2;exact znX pins s σ H _ _ _ _ Q I rv ru ⟨p,q,vs,us,rfl,rfl,q1,q2,by rw[r1.length,r2.length];exact h.1,vK ab (r1.append r2) h.2⟩
    .exact h.elim
   |_=>exact h.elim
  |_=>exact h.elim
 |Sub =>
  cases x with
  |int i =>
   cases y with
   |int j=>cases rx;cases ry;exact znS pins s σ H _ _ _ _ Q I rv ru ⟨i,j,rfl,rfl,h _ _ .refl rfl ab⟩
   |_=>exact h.elim
  |_=>exact h.elim
 |Mult =>
  cases x with
  |int i =>
   cases y with
   |int j=>cases rx;cases ry;exact znV pins s σ H _ _ _ _ Q I rv ru ⟨i,j,rfl,rfl,h.1,h.2 _ _ .refl rfl ab⟩
   |_=>exact h.elim
  |tup xs =>
   cases y with
   |int k =>
    obtain ⟨a1,vs,its,rfl,rfl,q,rs,vr,it,_⟩:=xL I rx rv;cases ry;refine zlS pins s σ H (.ref a1) (.int k) _ _ Q I rfl ru ⟨a1,k,vs,rfl,rfl,q,?_⟩;rcases h with ⟨e,h⟩|⟨e,hx,h⟩
    .exact .inl ⟨e,h _ _ .refl ⟨a1,vs,rfl,q,rs⟩ ab⟩
    .exact .inr ⟨e,fun z=>hx (rs.nil_iff.mp z),fS ab (ws:=[]) (vs:=[]) rfl h⟩
   |_=>exact h.elim
  |str i =>
   cases y with
   |int k =>
    cases rx;cases ry;exact zlT pins s σ H _ _ _ _ Q I rv ru ⟨i,k,rfl,rfl,h.imp (fun z=>⟨z.1,z.2 _ _ .refl rfl ab⟩) fun z=>⟨z.1,z.2 _ _ .refl rfl ab⟩⟩
   |_=>exact h.elim
  |ref p =>
   cases y with
   |int k =>
    cases rx;cases ry;simp only[wN] at h
    split at h
    .rename_i xs e1;obtain ⟨vs,q1,r1⟩:=ab.lst e1;exact znT pins s σ H _ _ _ _ Q I rv ru ⟨p,k,vs,rfl,rfl,q1,h.1.1,h.1.2.1,by rw[r1.length];exact h.1.2.2,vK ab (r1.flat _) h.2⟩
    .exact h.elim
   |_=>exact h.elim
  |_=>exact h.elim
 |Mod =>
  cases x with
  |int i =>
   cases y with
   |int j=>cases rx;cases ry;exact znW pins s σ H _ _ _ _ Q I rv ru ⟨i,j,rfl,rfl,h.1,h.2 _ _ .refl rfl ab⟩
   |_=>exact h.elim
  |_=>exact h.elim
 |FloorDiv =>
  cases x with
  |int i =>
   cases y with
   |int j=>cases rx;cases ry;exact zlU pins s σ H _ _ _ _ Q I rv ru ⟨i,j,rfl,rfl,h.1,h.2 _ _ .refl rfl ab⟩
   |_=>exact h.elim
  |_=>exact h.elim
 |Pow =>
  cases x with
  |int i =>
   cases y with
   |int j=>cases rx;cases ry;exact znU pins s σ H _ _ _ _ Q I rv ru ⟨i,j,rfl,rfl,h.1,h.2 _ _ .refl rfl ab⟩
   |_=>exact h.elim
  |_=>exact h.elim
 |_=>exact h.elim
end
theorem zaY {k:Str}:∀ {es:List DictEntry} {ks:List Str} {vs:List V},zmW es ks vs->(es.all fun e=>isExactStrKey e.key)=true/\(match (ks.zip vs).lookup k with
  |some v=>∃ u,(es.find? fun e=>e.key.isStr k).map (·.val)=some u/\yR v u
  |none=>(es.find? fun e=>e.key.isStr k).map (·.val)=none)
 | [],ks,vs,h=>by obtain ⟨rfl,rfl⟩:=h;exact ⟨rfl,rfl⟩
 |e::r,ks,vs,h=>by
  obtain ⟨x,t,v,ks',vs',rfl,rfl,hk,hv,hr⟩:=h;have ih:=zaY (k:=k) hr;refine ⟨by rw[Za1,hk,ih.1];rfl,?_⟩;rw[Zaa,Zy,ZK,KTD.key_is hk k]
  by_cases hx:k=x
  .subst hx;simp only[beq_self_eq_true,decide_true];exact ⟨e.val,rfl,hv⟩
  .have e1:(k==x)=false:=by simpa using hx
   rw[e1,decide_eq_false hx];exact ih.2
theorem zkY {X:Cx} {pins:List (Addr×Obj)} {σ:L2.St} {H:Hp} {s:Shared} {a:Addr} {ks:List Str} {vs:List V} {k:Str} {tk:Tok} {A:Around} {Q:Option Value->Shared->Prop} {E:Value->Shared->Prop} (I:Inv X pins σ H s) (h:KD X.K a ks vs)
  (q:match (ks.zip vs).lookup k with|some v=>∀ u s',yR v u->Inv X pins σ H s'->Q (some u) s'|none=>∀ s',Inv X pins σ H s'->Q none s'):wpAny 'f' A (dictGet a (.str k tk)) Q E s:=by
 obtain ⟨o,es,ep,l,_,hd,_,_,hr⟩:=h;have ho:=I.kIn _ _ l;obtain ⟨hx,hf⟩:=zaY (k:=k) hr;have J:Inv X pins σ H { s with toks:=s.toks+1 }:=I.tok _;unfold dictGet
 try with_reducible refine ZI ?_
 refine Za (wpAny_pyHash_str (Za ?_));refine KTD.kt_dictFind_strs (s:={ s with toks:=s.toks+1 }) ho hd (by obtain ⟨es'⟩:=es;simpa using hx) ?_
 have key:Q (findBy (fun k v=>v.isStr k) es k) { s with toks:=s.toks+1 }:=by
  have e:findBy (fun k v=>v.isStr k) es k=(es.toList.find? fun e=>e.key.isStr k).map (·.val):=by obtain ⟨es'⟩:=es;simp[findBy]
  rw[e];revert q hf
  cases (ks.zip vs).lookup k with
  |some v=>intro q hf;obtain ⟨u,e1,r⟩:=hf;rw[e1];exact q u _ r J
  |none=>intro q hf;rw[hf];exact q _ J
 rw[findBy_of_findIdx?] at key;revert key
 cases es.findIdx? fun e=>e.key.isStr k with
 |none=>exact fun key=>Zh key
 |some i=>exact fun key=>Za (wpAny_dictEntries (s:={ s with toks:=s.toks+1 }) ho hd (Zh key))
theorem zoe {X:Cx} {pins:List (Addr×Obj)} {σ:L2.St} {H:Hp} {s:Shared} {a:Addr} {ks:List Str} {vs:List V} (I:Inv X pins σ H s) (h:KD X.K a ks vs):s.TypeIs (.ref a) "dict" := by
 obtain ⟨o,es,ep,l,hc,_⟩:=h;exact ⟨o,I.kIn _ _ l,hc.1⟩
theorem pB {K:yI} {H:Hp} {k:Str} {w:W}:∀ {ks:List Str} {ws:List W} {vs:List V},yU K H ws vs->(ks.zip ws).lookup k=some w->∃ v,(ks.zip vs).lookup k=some v/\wM K H w v
 | [],ws,vs,_,e=>by simp at e
 |x::ks,[],vs,_,e=>by simp at e
 |x::ks,y::ws,vs,r,e=>by
  obtain ⟨v,vs',rfl,rv,rs⟩:=r;rw[Zaa,Zy] at e ⊢
  cases hx:(k==x) with
  |true=>rw[hx] at e;cases e;exact ⟨v,rfl,rv⟩
  |false=>rw[hx] at e;exact pB rs e
theorem bH {K:yI} {H:Hp} {k:Str}:∀ {ks:List Str} {ws:List W} {vs:List V},yU K H ws vs->(ks.zip ws).lookup k=none->(ks.zip vs).lookup k=none
 | [],ws,vs,_,e=>by simp
 |x::ks,[],vs,r,e=>by rw[show vs=[] from r];rfl
 |x::ks,y::ws,vs,r,e=>by
  obtain ⟨v,vs',rfl,rv,rs⟩:=r;rw[Zaa,Zy] at e ⊢
  cases hx:(k==x) with
  |true=>rw[hx] at e;cases e
  |false=>rw[hx] at e;exact bH rs e
theorem zkX {X:Cx} {pins:List (Addr×Obj)} {σ:L2.St} {H:Hp} {s:Shared} {a:Addr} {ks:List Str} {vs:List V} {k:Str} {tk:Tok} {A:Around} {Q:Bool->Shared->Prop} {E:Value->Shared->Prop} (I:Inv X pins σ H s) (h:KD X.K a ks vs)
  (q:∀ s',Inv X pins σ H s'->Q ((ks.zip vs).lookup k).isSome s'):wpAny 'f' A (contains (.ref a) (.str k tk)) Q E s:=by
 have hT:=zoe I h;have hd:(a==sysModules)=false:=by obtain ⟨o,es,ep,l,_,_,_,z,_⟩:=h;exact z
 have nn:¬ ((some (Value.builtin "dict.__contains__")==some Value.none)=true):=by rw[beq_builtin_none];simp
 unfold contains;refine ZI (Za (Zbx hT ZaP.lookup ?_));dsimp only;rw[if_neg nn];refine Za (wpAny_callSpecialUnlessNone?_slot (name:=Str.ofString "__contains__") hT ZaP (ZaI ZaP hT PySem.F.entry_dict_contains (show wpAny _ _ (dictGet a (.str k tk) >>= _) _ _ s from Za (zkY I h ?_)) (PySem.F.args_dict_contains_2 _ _)));revert q
 cases (ks.zip vs).lookup k with
 |some v=>exact fun q u s' r J=>Zh ⟨_,rfl,Z6 (q s' J)⟩
 |none=>exact fun q s' J=>Za (wpAny_pendingKey_other hd (Zh ⟨_,rfl,Z6 (q s' J)⟩))
noncomputable def fC (G:Hw):W->W->Option Bool
 | .ref p,.ref q=>match yG G p,yG G q with
  |some a,some b=>if (yP a&&yP b&&decide (min (yL a) (yL b)<=150))=true then some (jU a b) else none
  |_,_=>none
 |x,y=>if (pur x&&pur y&&decide (min (dep x) (dep y)<=150))=true then some (yQ x y) else none
def inR (neg:Bool) (x:W) (ws:List W) (G:Hw) (Q:Q3):Prop:=(pur x=true/\yP ws=true/\min (yL ws) (dep x)<=150)/\Q (.bl (if neg then !ws.any fun w=>yQ w x else ws.any fun w=>yQ w x)) G
def inStr (neg:Bool) (i j:Str):Bool:=if neg then !(!(Builtin.Str.occurrences j i 0 j.length 1).isEmpty) else !(Builtin.Str.occurrences j i 0 j.length 1).isEmpty
def zf4:W->Option xS
 | .int i=>some (.inl i)
 | .str x=>some (.inr x)
 |_=>none
def hasK {α:Type} (kvs:List (xS×α)) (k:xS):Bool:=kvs.any fun p=>decide (p.1=k)
def wP (neg:Bool):R3:=fun x y G Q=>match y with
 | .tup ws=>inR neg x ws G Q
 | .ref p=>(match G p with
  |some (.lst ws)=>inR neg x ws G Q
  |some (.fix ws)=>inR neg x ws G Q
  |some (.dic kvs)=>(match zf4 x with|some k=>Q (.bl (if neg then !hasK kvs k else hasK kvs k)) G|none=>False)
  |_=>False)
 | .str j=>(match x with
  | .str i=>Q (.bl (inStr neg i j)) G
  |_=>False)
 | .dcf ks ws=>(match x with
  | .str k=>Q (.bl (if neg then !((ks.zip ws).lookup k).isSome else ((ks.zip ws).lookup k).isSome)) G
  |_=>False)
 |_=>False
def cH (neg:Bool):R3:=fun x y G Q=>match y with
 | .non=>Q (.bl (if neg then (match x with|.non=>false|_=>true) else (match x with|.non=>true|_=>false))) G
 | .bl b=>Q (.bl (if neg then (match x with|.bl c=>!(c==b)|_=>true) else (match x with|.bl c=>c==b|_=>false))) G
 |_=>False
def mZ (p:Int->Int->Bool) (q:Option (Str->Str->Bool):=none):R3:=fun x y G Q=>match x,y with
 | .int i,.int j=>Q (.bl (p i j)) G
 | .str i,.str j=>(match q with
  |some q=>Q (.bl (q i j)) G
  |none=>False)
 |_,_=>False
def ltS (x y:Str):Bool:=decide (x.cps.toList<y.cps.toList)
def leS (x y:Str):Bool:=!decide (y.cps.toList<x.cps.toList)
def leR:R3:=fun x y G Q=>match x,y with
 | .int i,.int j=>Q (.bl (decide (i<=j))) G
 | .str i,.str j=>Q (.bl (leS i j)) G
 |_,_=>False
def zA:CmpOp->R3
 | .Eq=>fun x y G Q=>match fC G x y with|some b=>Q (.bl b) G|none=>False
 | .NotEq=>fun x y G Q=>match fC G x y with|some b=>Q (.bl (!b)) G|none=>False
 | .Is=>cH false
 | .IsNot=>cH true
 | .In=>wP false
 | .NotIn=>wP true
 | .Lt=>mZ (fun i j=>decide (i<j)) (some ltS)
 | .LtE=>leR
 | .Gt=>mZ fun i j=>decide (j<i)
 | .GtE=>mZ fun i j=>decide (j<=i)
theorem cY (p:Int->Int->Bool) (q:Option (Str->Str->Bool)):zdv (mZ p q):=by
 intro x y G Q Q' k h;cases q<;>cases x<;>cases y<;>simp only[mZ] at h ⊢<;>first|exact h.elim|exact k _ _ h
theorem zjO:zdv leR:=by
 intro x y G Q Q' k h;cases x<;>cases y<;>simp only[leR] at h ⊢<;>first|exact h.elim|exact k _ _ h
theorem zcV (neg:Bool):zdv (wP neg):=by
 intro x y G Q Q' k h;unfold wP at h ⊢
 cases y with
 |tup ws=>exact ⟨h.1,k _ _ h.2⟩
 |ref p =>
  simp only at h ⊢
  split at h
  .exact ⟨h.1,k _ _ h.2⟩
  .exact ⟨h.1,k _ _ h.2⟩
  .split at h
   .exact k _ _ h
   .exact h.elim
  .exact h.elim
 |str j =>
  cases x with
  |str i=>exact k _ _ h
  |_=>exact h.elim
 |dcf ks ws =>
  cases x with
  |str i=>exact k _ _ h
  |_=>exact h.elim
 |_=>exact h.elim
theorem zff (neg:Bool):zdv (cH neg):=by
 intro x y G Q Q' k h;unfold cH at h ⊢
 cases y with
 |non=>exact k _ _ h
 |bl b=>exact k _ _ h
 |_=>exact h.elim
theorem qW:∀ op,zdv (zA op):=by
 intro op x y G Q Q' k h
 cases op with
 |Eq =>
  simp only[zA] at h ⊢
  split at h
  .exact k _ _ h
  .exact h.elim
 |NotEq =>
  simp only[zA] at h ⊢
  split at h
  .exact k _ _ h
  .exact h.elim
 |Is=>exact zff false x y G Q Q' k h
 |IsNot=>exact zff true x y G Q Q' k h
 |In=>exact zcV false x y G Q Q' k h
 |NotIn=>exact zcV true x y G Q Q' k h
 |Lt=>exact cY (fun i j=>decide (i<j)) (some ltS) x y G Q Q' k h
 |LtE=>exact zjO x y G Q Q' k h
 |Gt=>exact cY (fun i j=>decide (j<i)) none x y G Q Q' k h
 |GtE=>exact cY (fun i j=>decide (j<=i)) none x y G Q Q' k h
section
variable {X:Cx} {pins:List (Addr×Obj)} {σ:L2.St} {H:Hp} {s:Shared}
open Classical in
def eqI (K:yI) (H:Hp) (x:W) (y:Value):Bool:=if ∃ w v,wM K H w v/\yR v y/\pur w=true/\yQ w x=true then true else false
theorem zic (I:Inv X pins σ H s) {x w:W} {v:V} {y:Value} (r:wM X.K H w v) (q:yR v y) (p:pur w=true):eqI X.K H x y=yQ w x:=by
 unfold eqI
 cases e:yQ w x with
 |true=>rw[if_pos ⟨w,v,r,q,p,e⟩]
 |false =>
  rw[if_neg];rintro ⟨w',v',r',q',p',e'⟩;have:=yR.inj q q';subst this;rw[zg7 I w' w v r' r p' p,e] at e';cases e'
theorem zid (I:Inv X pins σ H s) {x:W}:∀ {ws:List W} {vs:List V} {us:List Value},yU X.K H ws vs->yV vs us->yP ws=true->us.any (eqI X.K H x)=ws.any fun w=>yQ w x:=by
 intro ws
 induction ws with
 |nil=>intro vs us h r _;rw[show _=[] from h] at r;cases r;rfl
 |cons w ws ih =>
  intro vs us h r p;obtain ⟨v,t,e,h,hs⟩:=h;subst e
  cases r with
  |cons r rs =>
   have p':=xV.mp p;rw[Zz,Zz,zic I h r p'.1,ih hs rs p'.2]
theorem sR {w:W}:∀ {ws:List W},w∈ws->dep w<=yL ws:=by
 intro ws
 induction ws with
 |nil=>intro h;cases h
 |cons x xs ih =>
  intro h;simp only[yL];rcases Zk.mp h with e|h
  .rw[e];exact Nat.le_max_left _ _
  .exact Zb (ih h) (Nat.le_max_right _ _)
theorem zk3 (I:Inv X pins σ H s) {x:W} {vx:V} {ux:Value} {A:Around} (rx:wM X.K H x vx) (qx:yR vx ux) (px:pur x=true):∀ {ws:List W} {vs:List V} {us:List Value},yU X.K H ws vs->yV vs us->yP ws=true->A.units+min (yL ws) (dep x)<cLine ->
  ∀ y∈us,EqAt A s y ux (eqI X.K H x y):=by
 intro ws
 induction ws with
 |nil=>intro vs us h r _ _ y hy;rw[show _=[] from h] at r;cases r;cases hy
 |cons w ws ih =>
  intro vs us h r p hu y hy;obtain ⟨v,t,e,h,hs⟩:=h;subst e;simp only[yL] at hu
  cases r with
  |cons r rs =>
   have p':=xV.mp p;rcases Zk.mp hy with e|hy
   .subst e;rw[zic I h r p'.1];exact zif I w x v vx _ ux A h r rx qx p'.1 px 'd'
   .exact ih hs rs p'.2 'd' y hy
theorem zec {M:Model} {A:Around} {E:Value->Shared->Prop} {Q:Value->Shared->Prop} {v:Value} {b:Bool} (hb:∀ p,v≠.builtin p) (h:Q (.bool (v==.bool b)) s):wpAny M A (compareOp .Is v (.bool b)) Q E s:=by
 cases v<;>first|exact Zh h|exact absurd rfl (hb _)
theorem zav {M:Model} {A:Around} {E:Value->Shared->Prop} {Q:Value->Shared->Prop} {v:Value} {b:Bool} (hb:∀ p,v≠.builtin p) (h:Q (.bool (!(v==.bool b))) s):wpAny M A (compareOp .IsNot v (.bool b)) Q E s:=by
 cases v<;>first|exact Zh h|exact absurd rfl (hb _)
theorem zkC {v:V} {u:Value} (r:yR v u):∀ p,u≠.builtin p:=by
 cases v<;>first
  | (obtain ⟨t,e⟩:=r;subst e;intro p z;cases z)
  | (intro p z;subst z;cases r)
theorem zos (neg:Bool):gE X (compareOp (if neg then .IsNot else .Is)) (low2 X.K (cH neg)):=by
 intro pins s σ H v u a b Q I rv ru h;obtain ⟨x,y,G,rx,ry,ab,h⟩:=h;have fin:∀ k k':Bool,sG X.K H Q (.bl k) G->k=k'->EP X pins σ Q (.bool k') s:=fun k k' q e=>⟨.bl k',H,I,rfl,by rw[← e];exact q _ _ .refl rfl ab⟩
 cases y with
 |non =>
  cases ry;cases ru
  cases neg with
  |false =>
   refine is_none_gen (fin _ _ h ?_)
   cases x<;>first
    | (cases rx;cases rv;rfl)
    | (cases rx;obtain ⟨t,rfl⟩:=rv;rfl)
    | (obtain ⟨_,_,rfl,_⟩:=rx;cases rv;rfl)
  |true =>
   refine isnot_none_gen (fin _ _ h ?_)
   cases x<;>first
    | (cases rx;cases rv;rfl)
    | (cases rx;obtain ⟨t,rfl⟩:=rv;rfl)
    | (obtain ⟨_,_,rfl,_⟩:=rx;cases rv;rfl)
 |bl c =>
  cases ry;cases ru
  cases neg with
  |false =>
   refine zec (zkC rv) (fin _ _ h ?_)
   cases x<;>first
    | (cases rx;cases rv;rfl)
    | (cases rx;cases rv;rename_i d;cases c<;>cases d<;>rfl)
    | (cases rx;obtain ⟨t,rfl⟩:=rv;rfl)
    | (obtain ⟨_,_,rfl,_⟩:=rx;cases rv;rfl)
  |true =>
   refine zav (zkC rv) (fin _ _ h ?_)
   cases x<;>first
    | (cases rx;cases rv;rfl)
    | (cases rx;cases rv;rename_i d;cases c<;>cases d<;>rfl)
    | (cases rx;obtain ⟨t,rfl⟩:=rv;rfl)
    | (obtain ⟨_,_,rfl,_⟩:=rx;cases rv;rfl)
 |_=>exact h.elim
theorem zjU {K:yI} {H:Hp} {y:W} {v:V} {k:xS} (r:wM K H y v) (h:zf4 y=some k):v=kV k:=by
 cases y<;>cases h<;>exact r
theorem zh2 {K:yI} {H:Hp} {k:xS}:∀ {l:List (xS×W)} {l':List (xS×V)},yJ K H l l'->(uG l' k).isSome=hasK l k
 | [],_,h=>by rw[show _=[] from h];rfl
 |p::r,_,⟨v,t,e,h,hr⟩=>by
  have ih:=zh2 (k:=k) hr;subst e;unfold uG hasK at ih ⊢;rw[ZK,Zz]
  cases decide (p.1=k) with
  |true=>rfl
  |false=>exact ih
theorem zb2 (us:List Value) (e:Value->Bool):us.toArray.any e=us.any e:=by simp
theorem zcU (neg:Bool) (hu:X.A.units+200<cLine):gE X (compareOp (if neg then .NotIn else .In)) (low2 X.K (wP neg)):=by
 intro pins s σ H v u a b Q I rv ru h;obtain ⟨x,y,G,rx,ry,ab,h⟩:=h;have fin:∀ k:Bool,sG X.K H Q (.bl k) G->EP X pins σ Q (.bool k) s:=fun k q=>⟨.bl k,H,I,rfl,q _ _ .refl rfl ab⟩
 have sq:∀ (p:Addr) (ws:List W) (vs:List V) (its:List Value),yU X.K H ws vs->yV vs its->(s.heap.IsTuple p its.toArray\/s.heap.IsList p its.toArray)->inR neg x ws G (sG X.K H Q) ->
   wpAny 'f' X.A (compareOp (if neg then .NotIn else .In) a (.ref p)) (EP X pins σ Q) X.xe s:=fun p ws vs its rs vr ht hin=>by
  obtain ⟨⟨p1,p2,p3⟩,q⟩:=hin;have he:∀ y,y∈its.toArray->EqAt X.A.in1 s y a (eqI X.K H x y):=fun y hy=>zk3 I rx rv p1 rs vr p2 (by show X.A.units+1+_<_;omega) y (by simpa using hy);have ea:=zid I (x:=x) rs vr p2
  cases neg with
  |false =>
   rcases ht with ht|ht
   .exact in_tupleAt _ ht he (by rw[zb2,ea];exact fin _ q)
   .exact in_listAt _ ht he (by rw[zb2,ea];exact fin _ q)
  |true =>
   rcases ht with ht|ht
   .exact notIn_tupleAt _ ht he (by rw[zb2,ea];exact fin _ q)
   .exact notIn_listAt _ ht he (by rw[zb2,ea];exact fin _ q)
 cases y with
 |tup ws =>
  obtain ⟨b1,us,its',rfl,rfl,q',rs',vr',it',_⟩:=xL I ry ru;exact sq b1 ws us its' rs' vr' (.inl it') h
 |ref p =>
  cases ry;cases ru
  have lk:∀ ws,yG G p=some ws->inR neg x ws G (sG X.K H Q)->wpAny 'f' X.A (compareOp (if neg then .NotIn else .In) a (.ref p)) (EP X pins σ Q) X.xe s:=fun ws e q=>by
   obtain ⟨vs,its,_,rs,vr,il,_⟩:=zhF I ab e;exact sq p ws vs its rs vr (.inr il) q
  simp only[wP] at h
  split at h
  .rename_i ws e;exact lk ws (by unfold yG;rw[e]) h
  .rename_i ws e;exact lk ws (by unfold yG;rw[e]) h
  .rename_i kvs e
   split at h
   .rename_i kk ek;obtain ⟨l,e1,rk⟩:=ab.dic e;have ev:=zjU rx ek;subst ev;have hs:(uG l kk).isSome=hasK kvs kk:=zh2 rk;have dg:DGet H p (kV kk) (uG l kk):=.inl ⟨l,kk,.inl e1,rfl,rfl⟩
    cases neg with
    |false=>exact d_in 'd' I dg rv fun s' I'=>⟨.bl (uG l kk).isSome,H,I',rfl,by rw[hs];exact h _ H .refl rfl ab⟩
    |true=>exact zmL 'd' I dg rv fun s' I'=>⟨.bl (!(uG l kk).isSome),H,I',rfl,by rw[hs];exact h _ H .refl rfl ab⟩
   .exact h.elim
  .exact h.elim
 |str j =>
  cases x with
  |str i =>
   cases rx;cases ry
   cases neg with
   |false=>exact zhq pins s σ H _ _ _ _ Q I rv ru ⟨i,j,rfl,rfl,h _ _ .refl rfl ab⟩
   |true=>exact zcK pins s σ H _ _ _ _ Q I rv ru ⟨i,j,rfl,rfl,h _ _ .refl rfl ab⟩
  |_=>exact h.elim
 |dcf ks ws =>
  cases x with
  |str k =>
   obtain ⟨a1,vs,rfl,kd,rs⟩:=ry;obtain rfl:b=Value.ref a1:=ru;cases rx;obtain ⟨tk,rfl⟩:=rv
   have hs:((ks.zip vs).lookup k).isSome=((ks.zip ws).lookup k).isSome:=by
    cases e:(ks.zip ws).lookup k with
    |none=>rw[bH rs e];rfl
    |some w=>obtain ⟨v,e',_⟩:=pB rs e;rw[e'];rfl
   cases neg with
   |false =>
    show wpAny _ _ (contains (.ref a1) (.str k tk) >>= fun z=>pure (Value.bool z)) _ _ _;exact Za (zkX I kd fun s' J=>Zh ⟨.bl _,H,J,rfl,by rw[hs];exact h _ _ .refl rfl ab⟩)
   |true =>
    show wpAny _ _ (contains (.ref a1) (.str k tk) >>= fun z=>pure (Value.bool (!z))) _ _ _;exact Za (zkX I kd fun s' J=>Zh ⟨.bl _,H,J,rfl,by rw[hs];exact h _ _ .refl rfl ab⟩)
  |_=>exact h.elim
 |_=>exact h.elim
theorem zhp {op:CmpOp} {p:Int->Int->Bool} {f:Option (Str->Str->Bool)} (ho:gE X (compareOp op) (rI0 fun i j=>.bl (p i j)))
  (hq:∀ q,f=some q->∀ (i j:Str) (t t':Tok) (s:Shared) (Q:Value->Shared->Prop),Q (.bool (q i j)) s->wpAny 'f' X.A (compareOp op (.str i t) (.str j t')) Q X.xe s:=by (intro _ z;cases z)):gE X (compareOp op) (low2 X.K (mZ p f)):=by
 intro pins s σ H v u a b Q I rv ru h;obtain ⟨x,y,G,rx,ry,ab,h⟩:=h
 cases x with
 |int i =>
  cases y with
  |int j=>cases rx;cases ry;exact ho pins s σ H _ _ _ _ Q I rv ru ⟨i,j,rfl,rfl,h _ _ .refl rfl ab⟩
  |_=>exact h.elim
 |str i =>
  cases y with
  |str j =>
   cases f with
   |none=>exact h.elim
   |some q =>
    cases rx;cases ry;obtain ⟨t,rfl⟩:=rv;obtain ⟨t',rfl⟩:=ru;exact hq q rfl i j t t' s _ ⟨.bl (q i j),H,I,rfl,h _ _ .refl rfl ab⟩
  |_=>exact h.elim
 |_=>exact h.elim
theorem le_ok:gE X (compareOp .LtE) (low2 X.K leR):=by
 intro pins s σ H v u a b Q I rv ru h;obtain ⟨x,y,G,rx,ry,ab,h⟩:=h
 cases x with
 |int i =>
  cases y with
  |int j=>cases rx;cases ry;exact op_le pins s σ H _ _ _ _ Q I rv ru ⟨i,j,rfl,rfl,h _ _ .refl rfl ab⟩
  |_=>exact h.elim
 |str i =>
  cases y with
  |str j =>
   cases rx;cases ry;obtain ⟨t,rfl⟩:=rv;obtain ⟨t',rfl⟩:=ru;exact PySem.P.le_str ⟨.bl (leS i j),H,I,rfl,h _ _ .refl rfl ab⟩
  |_=>exact h.elim
 |_=>exact h.elim
theorem zk5 (I:Inv X pins σ H s) (hu:X.A.units+200<cLine) {G:Hw} {x y:W} {v v':V} {u u':Value} {b:Bool} (ab:xE X.K H G) (h:wM X.K H x v) (r:yR v u) (h':wM X.K H y v') (r':yR v' u') (e:fC G x y=some b) :
  RcAt X.A s u u' b/\RcNeAt X.A s u u' (!b):=by
 have gen:∀ (hh:(if (pur x&&pur y&&decide (min (dep x) (dep y)<=150))=true then some (yQ x y) else none)=some b),RcAt X.A s u u' b/\RcNeAt X.A s u u' (!b):=fun hh=>by
  split at hh
  .rename_i c;simp only[Zp,decide_eq_true_eq] at c;cases hh;exact znw I x y v v' u u' X.A h r h' r' c.1.1 c.1.2 'd'
  .cases hh
 cases x with
 |ref p =>
  cases y with
  |ref q =>
   simp only[fC] at e
   split at e
   .rename_i a1 b1 e1 e2
    split at e
    .rename_i c;simp only[Zp,decide_eq_true_eq] at c;cases e;cases h;cases h';cases r;cases r';exact znx I ab e1 e2 c.1.1 c.1.2 'd'
    .cases e
   .cases e
  |_=>exact gen e
 |_=>cases y<;>exact gen e
theorem zk7 (hu:X.A.units+200<cLine) (op:CmpOp):gE X (compareOp op) (low2 X.K (zA op)):=by
 cases op with
 |Eq =>
  intro pins s σ H v u a b Q I rv ru h;obtain ⟨x,y,G,rx,ry,ab,h⟩:=h;simp only[zA] at h
  split at h
  .rename_i k e;exact (zk5 I hu ab rx rv ry ru e).1 _ _ _ _ ⟨.bl k,H,I,rfl,h _ _ .refl rfl ab⟩
  .exact h.elim
 |NotEq =>
  intro pins s σ H v u a b Q I rv ru h;obtain ⟨x,y,G,rx,ry,ab,h⟩:=h;simp only[zA] at h
  split at h
  .rename_i k e;exact (zk5 I hu ab rx rv ry ru e).2 _ _ _ _ ⟨.bl (!k),H,I,rfl,h _ _ .refl rfl ab⟩
  .exact h.elim
 |Is=>exact zos false
 |IsNot=>exact zos true
 |In=>exact zcU false hu
 |NotIn=>exact zcU true hu
 |Lt=>exact zhp (f:=some ltS) op_lt fun q e i j t t' s Q z=>by cases e;exact lt_str z
 |LtE=>exact le_ok
 |Gt=>exact zhp (f:=none) op_gt
 |GtE=>exact zhp (f:=none) op_ge
end
end L3
namespace L3
open PySem PySem.Spec PyProof.Rows L2 HT
section
variable {prog:Program} {w:World} {A:Around} {E:Value->Shared->Prop} {s:Shared}
theorem zh6 {t sl:Addr} {items:Array Value} {vl vu:Value} {lo hi:Option Int} {Q:Value->Shared->Prop} (ht:IsTup s.heap t items) (hs:s.heap.IsSliceOf sl vl vu .none) (pl:IsPart vl lo) (pu:IsPart vu hi)
  (hw:jN items.size 0 lo=0/\jN items.size items.size hi=items.size) (h:Q (.ref t) s):wpAny (model prog w) A (getItem (.ref t) (.ref sl)) Q E s:=by
 obtain ⟨os,hos,hcs,hds⟩:=id hs;have hTs:s.TypeIs (.ref sl) "slice" := ⟨os,hos,hcs⟩;unfold getItem
 try with_reducible refine ZI ?_
 first|refine Za (Zh ?_)|skip
 refine Za (Zbc ht.typeIs 'c' ?_)
 refine Za (ZaC (name:=Str.ofString "__getitem__") ht.typeIs Zt
  (ZaI Zt ht.typeIs Zbt ?_ (ZbB _ _)))
 show wpAny _ _ (Builtin.Tuple.tupleItemsOf (.ref t) >>= _) _ _ s;refine Za (Zca ht ?_);refine Za (ZbC hTs ?_);rw[if_pos 'c'];refine Za (sZ hs pl pu ?_)
 have yes:(((jN items.size 0 lo:Nat):Int)==0&&(1:Int)==1&&(jN items.size items.size hi-jN items.size 0 lo)==items.size)=true:=by
  rw[hw.1,hw.2];simp
 show wpAny _ _ (if (((jN items.size 0 lo:Nat):Int)==0&&(1:Int)==1&&(jN items.size items.size hi-jN items.size 0 lo)==items.size)=true then _ else _) _ _ s;rw[if_pos yes];refine Za (m:=Builtin.Tuple.tupleIsExact (.ref t)) ?_;unfold Builtin.Tuple.tupleIsExact;refine Za (ZbC ht.typeIs (Zh ?_));rw[if_pos 'c'];exact Za (wpAny_rule (Zh ⟨_,rfl,Zh h⟩))
end
section
variable {X:Cx}
def rSlW (K:yI):V->Option Int->Option Int->Hp->VK->Prop:=fun x lo hi H Q=>∃ a xs,x=.ref a/\gH K H a xs/\(HT.jN xs.length 0 lo=0/\HT.jN xs.length xs.length hi=xs.length)/\Q (.ref a) H
theorem zja:SlR X (rSlW X.K):=by
 intro pins s σ H x v vl vu lo hi sl Q I rx hs pl pu h;obtain ⟨a,xs,rfl,hx,hw,q⟩:=h;cases rx;obtain ⟨its,r,ht,hz⟩:=I.tuple hx;have hlen:its.toArray.size=xs.length:=by rw[zzS];exact r.length.symm
 exact ⟨"tuple", _,Zt.lookup,ht.typeIs,zh6 ht hs pl pu (by rw[hlen];exact hw) ⟨.ref a,H,I,rfl,q⟩⟩
end
end L3
namespace L3
open PySem PySem.Spec PyProof.Rows L2 PySem.SeqAt
noncomputable def rB (G:Hw):W->Option Bool
 | .non=>some false
 | .bl b=>some b
 | .int i=>some (i != 0)
 | .str y=>if y.length<=sizeLine then some ((y.length:Int) != 0) else none
 | .tup ws=>some (!ws.isEmpty)
 | .ref p=>match G p with
  |some (.lst ws)=>some (!ws.isEmpty)
  |some (.fix ws)=>some (!ws.isEmpty)
  |some (.dic kvs)=>some (!kvs.isEmpty)
  |_=>none
 |_=>none
theorem yU.empty {K:yI} {H:Hp} {ws:List W} {vs:List V} (h:yU K H ws vs):vs.isEmpty=ws.isEmpty:=by
 have:=h.length;cases ws<;>cases vs<;>simp_all
theorem yJ.length {K:yI} {H:Hp} {κ:Type}:∀ {l:List (κ×W)} {l':List (κ×V)},yJ K H l l'->l'.length=l.length
 | [],_,h=>by rw[show _=[] from h];rfl
 |_::_,_,⟨v,t,e,_,r⟩=>by rw[e,Ze,Ze,yJ.length r]
theorem zlg {K:yI} {H:Hp} {G:Hw} {w:W} {v:V} {k:Bool} (r:wM K H w v) (ab:xE K H G) (h:rB G w=some k):TruV K v H k:=by
 cases w with
 |non=>cases r;cases h;rfl
 |bl b=>cases r;cases h;rfl
 |int i=>cases r;cases h;rfl
 |str y =>
  cases r;simp only[rB] at h
  split at h
  .rename_i c;cases h;exact ⟨c,rfl⟩
  .cases h
 |ty n=>cases h
 |lsf n=>cases h
 |exc _ _ _=>cases h
 |dcf _ _=>cases h
 |tup ws =>
  obtain ⟨a,vs,rfl,q,rs⟩:=r;cases h;exact .inr (.inl ⟨vs,q,by rw[rs.empty]⟩)
 |ref p =>
  cases r
  have lk:∀ ws,yG G p=some ws->k=!ws.isEmpty->TruV K (.ref p) H k:=fun ws e q=>by
   obtain ⟨vs,sq,rs⟩:=ab.seq e;exact .inl ⟨vs,sq,by rw[rs.empty];exact q⟩
  simp only[rB] at h
  split at h
  .rename_i ws e;cases h;exact lk ws (by unfold yG;rw[e]) rfl
  .rename_i ws e;cases h;exact lk ws (by unfold yG;rw[e]) rfl
  .rename_i kvs e;cases h;obtain ⟨l,e',rk⟩:=ab.dic e;refine .inr (.inr ⟨l,e',?_⟩);have:=rk.length;cases kvs<;>cases l<;>simp_all
  .cases h
def cB {α:Type} (kvs:List (xS×α)) (k:xS):Option α:=(kvs.find? fun kv=>decide (kv.1=k)).map (·.2)
def dput {α:Type} (kvs:List (xS×α)) (k:xS) (v:α):List (xS×α) :=
 if (kvs.any fun kv=>decide (kv.1=k))=true then kvs.map (fun kv=>if kv.1=k then (kv.1,v) else kv) else kvs++[(k,v)]
theorem yJ.get {K:yI} {H:Hp} {k:xS} {w:W}:∀ {l:List (xS×W)} {l':List (xS×V)},yJ K H l l'->cB l k=some w->∃ v,uG l' k=some v/\wM K H w v
 | [],_,h,e=>by cases e
 |p::r,_,⟨v,t,e,h,hr⟩,q=>by
  subst e;unfold cB at q;rw[ZK] at q;unfold uG;rw[ZK]
  by_cases hk:p.1=k
  .simp only[hk,decide_true] at q ⊢;cases q;exact ⟨v,rfl,h⟩
  .simp only[hk,decide_false] at q ⊢;exact yJ.get hr q
theorem yJ.none {K:yI} {H:Hp} {k:xS}:∀ {l:List (xS×W)} {l':List (xS×V)},yJ K H l l'->cB l k=none->uG l' k=none
 | [],_,h,e=>by rw[show _=[] from h];rfl
 |p::r,_,⟨v,t,e,h,hr⟩,q=>by
  subst e;unfold cB at q;rw[ZK] at q;unfold uG;rw[ZK]
  by_cases hk:p.1=k
  .simp only[hk,decide_true] at q;cases q
  .simp only[hk,decide_false] at q ⊢;exact yJ.none hr q
theorem yJ.any {K:yI} {H:Hp} {k:xS}:∀ {l:List (xS×W)} {l':List (xS×V)},yJ K H l l'->(l'.any fun kv=>decide (kv.1=k))=l.any fun kv=>decide (kv.1=k)
 | [],_,h=>by rw[show _=[] from h];rfl
 |p::r,_,⟨v,t,e,h,hr⟩=>by subst e;rw[Zz,Zz,yJ.any hr]
theorem yJ.app {K:yI} {H:Hp} {κ:Type}:∀ {l:List (κ×W)} {l':List (κ×V)} {m:List (κ×W)} {m':List (κ×V)},yJ K H l l'->yJ K H m m'->yJ K H (l++m) (l'++m')
 | [],_,_,_,h,h'=>by rw[show _=[] from h];exact h'
 |p::r,_,_,_,⟨v,t,e,h,hr⟩,h'=>by rw[e];exact ⟨v,_,rfl,h,yJ.app hr h'⟩
theorem yJ.repl {K:yI} {H:Hp} {k:xS} {w:W} {v:V} (q:wM K H w v):∀ {l:List (xS×W)} {l':List (xS×V)},yJ K H l l' ->
  yJ K H (l.map fun kv=>if kv.1=k then (kv.1,w) else kv) (l'.map fun kv=>if kv.1=k then (kv.1,v) else kv)
 | [],_,h=>by rw[show _=[] from h];rfl
 |p::r,_,⟨u,t,e,h,hr⟩=>by
  subst e;rw[zzU,zzU]
  by_cases hk:p.1=k
  .simp only[hk,if_true];exact ⟨v,_,rfl,q,yJ.repl q hr⟩
  .simp only[hk,if_false];exact ⟨u,_,rfl,h,yJ.repl q hr⟩
theorem yJ.put {K:yI} {H:Hp} {k:xS} {w:W} {v:V} {l:List (xS×W)} {l':List (xS×V)} (h:yJ K H l l') (q:wM K H w v):yJ K H (dput l k w) (rH l' k v):=by
 unfold dput rH;rw[h.any]
 split
 .exact yJ.repl q h
 .exact h.app ⟨v,[],rfl,q,rfl⟩
theorem zhQ {K:yI} {H:Hp} {y:W} {v:V} {k:xS} (r:wM K H y v) (h:zf4 y=some k):v=kV k:=by
 cases y<;>first|(cases h;cases r;rfl)|cases h
theorem ix_kd {X:Cx} {value slice:PySem.Expr} {pins:List (Addr×Obj)} {s:Shared} {σ:L2.St} {H:Hp} {a:Addr} {u:Value} {ks:List Str} {vs:List V} {k:Str} {v:V} {Q:VK} (I:Inv X pins σ H s) (h:KD X.K a ks vs) (ry:yR (.str k) u) (e:(ks.zip vs).lookup k=some v) (q:Q v H)
  (hs:subscripted slice false (.ref a) u=operate [.ref a,u] (getItem (.ref a) u)):wpAny 'f' X.A (subscriptTail value slice (.ref a) u) (EP X pins σ Q) X.xe s:=by
 have hT:=zoe I h;obtain ⟨tk,rfl⟩:=ry;refine Zb9 hT Zap.lookup ?_ hs;unfold getItem
 try with_reducible refine ZI ?_
 refine Za (Zbc hT 'c' (Za ?_));refine ZaC (name:=Str.ofString "__getitem__") hT Zap (ZaI Zap hT PySem.F.entry_dict_getitem ?_ (PySem.F.args_dict_getitem_2 _ _));show wpAny _ _ (dictGet a (.str k tk) >>= _) _ _ s;refine Za (zkY I h ?_);rw[e];exact fun u s' r J=>Zh ⟨u,rfl,Zh ⟨v,H,J,r,q⟩⟩
def kU:R3:=fun x y G Q=>match x,y with
 | .tup ws,.int i=>(match rQ ws i with|some w=>Q w G|none=>False)
 | .str z,.int i=>z.length<=sizeLine/\(match rQ z.cps.toList i with|some c=>Q (.str ⟨#[c]⟩) G|none=>False)
 | .ref p,y=>(match G p with
  |some (.lst ws)=>(match y with|.int i=>(match rQ ws i with|some w=>Q w G|none=>False)|_=>False)
  |some (.fix ws)=>(match y with|.int i=>(match rQ ws i with|some w=>Q w G|none=>False)|_=>False)
  |some (.dic kvs)=>(match zf4 y with|some k=>(match cB kvs k with|some w=>Q w G|none=>False)|none=>False)
  |_=>False)
 | .dcf ks ws,.str k=>(match (ks.zip ws).lookup k with|some w=>Q w G|none=>False)
 |_,_=>False
theorem ziG {K:yI} {H:Hp} {ws:List W} {vs:List V} {i:Int} {w:W} (h:yU K H ws vs) (e:rQ ws i=some w):∃ v,rQ vs i=some v/\wM K H w v:=by
 unfold rQ at e ⊢;rw[h.length]
 cases q:ixN ws.length i with
 |none=>rw[q] at e;cases e
 |some j =>
  rw[q] at e;exact h.get e
theorem zfe:zdv kU:=by
 intro x y G Q Q' k h
 cases x with
 |tup ws =>
  cases y<;>simp only[kU] at h ⊢<;>first
   |exact h.elim
   | (split at h<;>first|exact k _ _ h|exact h.elim)
 |str z =>
  cases y<;>simp only[kU] at h ⊢<;>first
   |exact h.elim
   | (refine ⟨h.1,?_⟩;have h:=h.2;split at h<;>first|exact k _ _ h|exact h.elim)
 |ref p =>
  simp only[kU] at h ⊢
  split at h
  .cases y<;>simp only at h ⊢<;>first
    |exact h.elim
    | (split at h<;>first|exact k _ _ h|exact h.elim)
  .cases y<;>simp only at h ⊢<;>first
    |exact h.elim
    | (split at h<;>first|exact k _ _ h|exact h.elim)
  .split at h
   .split at h
    .exact k _ _ h
    .exact h.elim
   .exact h.elim
  .exact h.elim
 |dcf ks ws =>
  cases y<;>simp only[kU] at h ⊢<;>first
   |exact h.elim
   | (split at h<;>first|exact k _ _ h|exact h.elim)
 |_=>exact h.elim
section
variable {X:Cx}
theorem zoj (hu:X.A.units+200<cLine) {value slice:PySem.Expr} {pins:List (Addr×Obj)} {s:Shared} {σ:L2.St} {H:Hp} {a:Addr} {u:Value} {y v:V} {Q:VK} (I:Inv X pins σ H s) (g:DGet H a y (some v)) (hd:IsD H a) (ry:yR y u) (q:Q v H)
  (hs:subscripted slice false (.ref a) u=operate [.ref a,u] (getItem (.ref a) u)):wpAny 'f' X.A (subscriptTail value slice (.ref a) u) (EP X pins σ Q) X.xe s:=by
 exact Zb9 (zou I hd).1 Zap.lookup (zir 'd' I g ry fun w' s' I' r'=>⟨v,H,I',r',q⟩) hs
theorem ix_ok (hu:X.A.units+200<cLine):IxR X (low2 X.K kU):=by
 intro value slice pins s σ H v u a b Q I rv ru h hs;obtain ⟨x,y,G,rx,ry,ab,h⟩:=h
 cases x with
 |tup ws =>
  cases y with
  |int i =>
   obtain ⟨a1,vs,rfl,q,rs⟩:=rx;cases ry;simp only[kU] at h
   split at h
   .rename_i w e;obtain ⟨vv,ev,rp⟩:=ziG rs e;exact zoh value slice pins s σ H _ _ _ _ Q I rv ru ⟨a1,vs,i,vv,rfl,rfl,q,ev,h _ _ .refl rp ab⟩ hs
   .exact h.elim
  |_=>exact h.elim
 |str z =>
  cases y with
  |int i =>
   cases rx;cases ry;simp only[kU] at h;obtain ⟨hz,h⟩:=h
   split at h
   .rename_i c e;exact zoi value slice pins s σ H _ _ _ _ Q I rv ru ⟨z,i,c,rfl,rfl,hz,e,h _ _ .refl rfl ab⟩ hs
   .exact h.elim
  |_=>exact h.elim
 |ref p =>
  cases rx
  have lk:∀ ws i w,yG G p=some ws->y=.int i->rQ ws i=some w->sG X.K H Q w G->wpAny 'f' X.A (subscriptTail value slice a b) (EP X pins σ Q) X.xe s:=fun ws i w e ey ew q=>by
   subst ey;obtain ⟨vs,sq,rs⟩:=ab.seq e;obtain ⟨vv,ev,rp⟩:=ziG rs ew;cases ry;exact zmd value slice pins s σ H _ _ _ _ Q I rv ru ⟨p,vs,i,vv,rfl,rfl,sq,ev,q _ _ .refl rp ab⟩ hs
  simp only[kU] at h
  split at h
  .rename_i ws e
   cases y with
   |int i =>
    simp only at h
    split at h
    .rename_i w ew;exact lk ws i w (by unfold yG;rw[e]) rfl ew h
    .exact h.elim
   |_=>exact h.elim
  .rename_i ws e
   cases y with
   |int i =>
    simp only at h
    split at h
    .rename_i w ew;exact lk ws i w (by unfold yG;rw[e]) rfl ew h
    .exact h.elim
   |_=>exact h.elim
  .rename_i kvs e
   split at h
   .rename_i k ek
    split at h
    .rename_i w ew;obtain ⟨l,e',rk⟩:=ab.dic e;obtain ⟨vv,ev,rp⟩:=rk.get ew;have ey:=zhQ ry ek;subst ey;obtain rfl:a=Value.ref p:=rv;exact zoj hu I (.inl ⟨l,k,.inl e',rfl,ev.symm⟩) (.inl ⟨l,.inl e'⟩) ru (h _ _ .refl rp ab) hs
    .exact h.elim
   .exact h.elim
  .exact h.elim
 |dcf ks ws =>
  cases y with
  |str k =>
   obtain ⟨a1,vs,rfl,kd,rs⟩:=rx;obtain rfl:a=Value.ref a1:=rv;cases (show u=.str k from ry);simp only[kU] at h
   split at h
   .rename_i w e;obtain ⟨vv,ev,rp⟩:=pB rs e;exact ix_kd I kd ru ev (h _ _ .refl rp ab) hs
   .exact h.elim
  |_=>exact h.elim
 |_=>exact h.elim
end
def cut {α:Type} (xs:List α) (lo hi:Option Int):List α:=(xs.drop (HT.jN xs.length 0 lo)).take (HT.jN xs.length xs.length hi-HT.jN xs.length 0 lo)
theorem zeh {K:yI} {H:Hp} {ws:List W} {vs:List V} (h:yU K H ws vs) (lo hi:Option Int):yU K H (cut ws lo hi) (cutV vs lo hi):=by
 unfold cut cutV;rw[h.length];exact (h.drop _).take _
def slR:W->Option Int->Option Int->Hw->Q3->Prop:=fun x lo hi G Q=>match x with
 | .tup ws=>Q (.tup (cut ws lo hi)) G
 | .ref p=>(match yG G p with|some ws=>∀ r,G r=none->Q (.ref r) (put G r (.lst (cut ws lo hi)))|none=>False)
 | .lsf ws=>∀ r,G r=none->Q (.ref r) (put G r (.lst (cut ws lo hi)))
 | .str x=>x.length<=sizeLine/\Q (.str (Txt.slice x lo hi)) G
 |_=>False
theorem zeP {x:W} {lo hi:Option Int} {G:Hw} {Q Q':Q3} (k:∀ w G',Q w G'->Q' w G') (h:slR x lo hi G Q):slR x lo hi G Q':=by
 cases x with
 |tup ws=>exact k _ _ h
 |ref p =>
  simp only[slR] at h ⊢
  split at h
  .exact fun r hr=>k _ _ (h r hr)
  .exact h.elim
 |lsf ws=>exact fun r hr=>k _ _ (h r hr)
 |str x=>exact ⟨h.1,k _ _ h.2⟩
 |_=>exact h.elim
theorem znl {X:Cx} {pins:List (Addr×Obj)} {s:Shared} {σ:L2.St} {H:Hp} {x:Str} {v vl vu:Value} {lo hi:Option Int} {sl:Addr} {Q:VK} (I:Inv X pins σ H s) (rv:yR (.str x) v) (hs:s.heap.IsSliceOf sl vl vu .none)
  (pl:IsPart vl lo) (pu:IsPart vu hi) (hz:x.length<=sizeLine) (q:Q (.str (Txt.slice x lo hi)) H):∃ T id,typeLookup (.type T) "__getitem__" = pure (some (.builtin id))/\s.TypeIs v T/\wpAny 'f' X.A (getItem v (.ref sl)) (EP X pins σ Q) X.xe s:=by
 obtain ⟨t,rfl⟩:=rv;have fin:∀ t' k,0<k->EP X pins σ Q (.str (Txt.slice x lo hi) t') { s with toks:=k }:=fun t' k h0=>⟨.str (Txt.slice x lo hi),H,I.tok _ h0,⟨t',rfl⟩,q⟩;have hz':=Zb (Txt.slice_le x lo hi) hz;refine ⟨"str", _,F.slot_str_getitem.lookup,typeIs_str _ _ _,?_⟩;obtain ⟨o,ho,hc,hd⟩:=hs
 cases pl with
 |none =>
  cases pu with
  |none=>exact vA I.tk (ZaD (l:=none) (u:=none) (st:=none) ⟨o,ho,hc,hd⟩ rfl (Zbu ⟨hz',fin⟩))
  |int j tj=>exact vA I.tk (ZaD (l:=none) (u:=some (j,tj)) (st:=none) ⟨o,ho,hc,hd⟩ rfl (Zbu ⟨hz',fin⟩))
 |int i ti =>
  cases pu with
  |none=>exact vA I.tk (ZaD (l:=some (i,ti)) (u:=none) (st:=none) ⟨o,ho,hc,hd⟩ rfl (Zbu ⟨hz',fin⟩))
  |int j tj=>exact vA I.tk (ZaD (l:=some (i,ti)) (u:=some (j,tj)) (st:=none) ⟨o,ho,hc,hd⟩ rfl (Zbu ⟨hz',fin⟩))
def lowSl (K:yI) (r:W->Option Int->Option Int->Hw->Q3->Prop):V->Option Int->Option Int->Hp->VK->Prop:=fun v lo hi H Q=>∃ x G,wM K H x v/\xE K H G/\r x lo hi G (sG K H Q)
theorem sl_ok {X:Cx}:SlR X (lowSl X.K slR):=by
 intro pins s σ H v u vl vu lo hi sl Q I rv hs pl pu h;obtain ⟨x,G,rx,ab,h⟩:=h
 cases x with
 |tup ws =>
  obtain ⟨a,vs,rfl,q,rs⟩:=rx
  by_cases hw:HT.jN vs.length 0 lo=0/\HT.jN vs.length vs.length hi=vs.length
  .have e:cut ws lo hi=ws:=by
    have hw':=hw;rw[rs.length] at hw';unfold cut;rw[hw'.1,hw'.2,Zb4,Nat.sub_zero,ZaG]
   have h':sG X.K H Q (.tup (cut ws lo hi)) G:=h;rw[e] at h';exact zja pins s σ H _ _ vl vu lo hi sl Q I rv hs pl pu ⟨a,vs,rfl,q,hw,h' _ _ .refl ⟨a,vs,rfl,q,rs⟩ ab⟩
  .exact znk pins s σ H _ _ vl vu lo hi sl Q I rv hs pl pu ⟨a,vs,rfl,q,hw,fS ab (zeh rs lo hi) h⟩
 |ref p =>
  cases rx;simp only[slR] at h
  split at h
  .rename_i ws e;obtain ⟨vs,sq,rs⟩:=ab.seq e;exact zgQ pins s σ H _ _ vl vu lo hi sl Q I rv hs pl pu ⟨p,vs,rfl,sq,vK ab (zeh rs lo hi) h⟩
  .exact h.elim
 |lsf ws =>
  obtain ⟨a,vs,rfl,q,rs⟩:=rx;exact zgQ pins s σ H _ _ vl vu lo hi sl Q I rv hs pl pu ⟨a,vs,rfl,.inr q,vK ab (zeh rs lo hi) h⟩
 |str x =>
  cases (show v=.str x from rx);exact znl I rv hs pl pu h.1 (h.2 _ _ .refl rfl ab)
 |_=>exact h.elim
def setR:W->W->W->Hw->(Hw->Prop)->Prop:=fun o i v G Q=>match o with
 | .ref p=>(match G p with
  |some (.lst ws)=>(match i with|.int k=>(match ixN ws.length k with|some j=>Q (put G p (.lst (ws.set j v)))|none=>False)|_=>False)
  |some (.dic kvs)=>(match zf4 i with|some k=>kvs.length<sizeLine/\Q (put G p (.dic (dput kvs k v)))|none=>False)
  |_=>False)
 |_=>False
theorem zgR {o i v:W} {G:Hw} {Q Q':Hw->Prop} (k:∀ G',Q G'->Q' G') (h:setR o i v G Q):setR o i v G Q':=by
 cases o with
 |ref p =>
  simp only[setR] at h ⊢
  split at h
  .cases i<;>simp only at h ⊢<;>first
    |exact h.elim
    | (split at h<;>first|exact k _ h|exact h.elim)
  .split at h
   .exact ⟨h.1,k _ h.2⟩
   .exact h.elim
  .exact h.elim
 |_=>exact h.elim
def zkT (K:yI):TSet:=fun o i v H Q=>∃ x y z G,wM K H x o/\wM K H y i/\wM K H z v/\xE K H G/\setR x y z G fun G'=>∀ H',yB K H H'->xE K H' G'->Q H'
theorem znm {X:Cx} (hu:X.A.units+200<cLine):PSet X (zkT X.K):=by
 intro pins s σ H o i v ov iv u Q I ro ri rv h;obtain ⟨x,y,z,G,rx,ry,rz,ab,h⟩:=h
 cases x with
 |ref p =>
  cases rx;simp only[setR] at h
  split at h
  .rename_i ws e
   cases y with
   |int k =>
    simp only at h
    split at h
    .rename_i j ej;cases ry;obtain ⟨vs,q1,r1⟩:=ab.lst e;refine zjb pins s σ H _ _ _ _ _ _ Q I ro ri rv ⟨p,vs,k,j,rfl,rfl,q1,by rw[r1.length];exact ej,?_⟩;have g:=ab.grow (u:=.lst (vs.set j v)) e;exact h _ g (ab.chg e ⟨_,rfl,((r1.mono g).set (rz.mono g) j)⟩)
    .exact h.elim
   |_=>exact h.elim
  .rename_i kvs e
   split at h
   .rename_i k ek;obtain ⟨l,e',rk⟩:=ab.dic e;have ey:=zhQ ry ek;subst ey;obtain rfl:ov=Value.ref p:=ro;refine ziq 'd' I (.inl ⟨l,k,e',rfl,by rw[rk.length];exact h.1,rfl⟩) ri rv fun s' I'=>⟨_,I',?_⟩;have g:=ab.grow (u:=.dK (rH l k v)) e;exact h.2 _ g (ab.chg e ⟨_,rfl,(rk.mono g).put (rz.mono g)⟩)
   .exact h.elim
  .exact h.elim
 |_=>exact h.elim
end L3
namespace L3
open PySem PySem.Spec PyProof.Rows L2
abbrev XQ:=Str->List (Str×W)->Hw->Prop
def XN:XQ:=fun _ _ _=>False
abbrev qE:=List W->Hw->Q3->XQ->Prop
structure Fn3 where
 nm:Str
 sp:qE
structure Mt3 where
 nm:Str
 T:String
 sp:W->List W->Hw->Q3->Prop
abbrev I3:=qX->Hw->(List W->(Hw->Prop)->Hw->Prop)->Prop
structure It3 where
 nm:Str
 sp:List W->Hw->(List W->(Hw->Prop)->Hw->Prop)->Prop
structure Sx3 where
 m:Scope->Expr->Option (List Expr)
 sp:List W->Hw->Q3->Prop
structure Ix3 where
 m:Scope->Expr->Option (List Expr)
 sp:List W->Hw->(List W->(Hw->Prop)->Hw->Prop)->Prop
structure Ctx3 where
 fn:List Fn3
 gl:List (Str×W)
 mt:List Mt3
 it:List It3
 cl:List (Addr×List Str)
 sx:List Sx3
 ix:List Ix3
set_option genInjectivity false
mutual
inductive IE where
 |var (i:Nat)|con (c:Const)|glb (i:Nat)
 |bin (op:Operator) (a b:IE)|neg (a:IE)|not (a:IE)
 |cmp (op:CmpOp) (a b:IE)|chn (o1 o2:CmpOp) (a b c:IE)
 |and (a b:IE)|or (a b:IE)|ite (c a b:IE)
 |ix (a i:IE)|sl (a:IE) (lo hi:IO)
 |tup (es:IEs)|lst (es:IEs)|dct (ks:List Str) (es:IEs)
 |call (f:Nat) (es:IEs)|mth (m:Nat) (o:IE) (es:IEs)|att (o:IE) (f:Str)
 |lc (tg:ITg) (names:List Str) (caps:List Nat) (it:II) (c:IO) (elt:IE)
 |spc (i:Nat) (es:IEs)|ch3 (o1 o2 o3:CmpOp) (a b c d:IE)
inductive IO where
 |no|yes (e:IE)
inductive IEs where
 |nil|cons (e:IE) (es:IEs)
inductive II where
 |val (e:IE)|blt (i:Nat) (es:IEs)|spc (i:Nat) (es:IEs)
inductive ITg where
 |nm (i:Nat)|tup (ts:ITgs)
inductive ITgs where
 |nil|cons (t:ITg) (ts:ITgs)
end
mutual
inductive IS where
 |asg (i:Nat) (e:IE)|asgT (ts:ITgs) (e:IE)|asgI (o i e:IE)|asgA (o:IE) (f:Str) (e:IE)
 |ex (e:IE)|ret (e:IE)|retN|pass|brk|cnt
 |ite (c:IE) (a b:ISs)|whl (c:IE) (b:ISs)|for (tg:ITg) (it:II) (b:ISs)|dead|asgS (i j:Nat) (e:IE)
inductive ISs where
 |nil|cons (s:IS) (ss:ISs)
end
def zN:Const->Option W
 | .none=>some .non
 | .bool b=>some (.bl b)
 | .int i=>some (.int i)
 | .str x=>some (.str x)
 |_=>none
abbrev G3:=W->qX->Hw->(qX->Hw->Prop)->Prop
abbrev Gs3:=List W->qX->Hw->(qX->Hw->Prop)->Prop
mutual
def zX:ITg->G3
 | .nm i=>fun w σ G Q=>Q (σ.set i (some w)) G
 | .tup ts=>fun w σ G Q=>match w with
  | .tup ws=>zZ ts ws σ G Q
  |_=>False
def zZ:ITgs->Gs3
 | .nil=>fun ws σ G Q=>match ws with | []=>Q σ G|_=>False
 | .cons t ts=>fun ws σ G Q=>match ws with
  |w::r=>zX t w σ G fun σ' G'=>zZ ts r σ' G' Q
  | []=>False
end
def unl (G:Hw) (w:W):W:=match w with
 | .ref p=>(match yG G p with|some ws=>.tup ws|none=>.ref p)
 |w=>w
def nT (k:Nat) (caps:List Nat) (σ:qX):qX:=List.replicate k none++caps.map fun j=>(σ[j]?).join
def sgs (x:Str):List W:=x.cps.toList.map fun c=>.str ⟨#[c]⟩
def kW:xS->W
 | .inl i=>.int i
 | .inr x=>.str x
def zin (G:Hw) (p:Addr):Option (List (xS×W)):=match G p with
 |some (.dic kvs)=>some kvs
 |some (.fzd kvs)=>some kvs
 |_=>none
def xH (w:W) (G:Hw) (R:List W->(Hw->Prop)->Hw->Prop):Prop:=match w with
 | .tup ws=>R ws (fun _=>True) G
 | .ref p=>(match yG G p with
  |some ws=>R ws (fun G'=>yG G' p=some ws) G
  |none=>(match zin G p with
   |some kvs=>R (kvs.map fun kv=>kW kv.1) (fun G'=>G' p=some (.fzd kvs)) (put G p (.fzd kvs))
   |none=>False))
 | .str x=>R (sgs x) (fun _=>True) G
 |_=>False
def lcR (items:List W) (stab:Hw->Prop) (G1:Hw) (turn:W->Hw->(Option W->Hw->Prop)->Prop) (Q:Q3):Prop :=
 ∃ Pv:Nat->List W->Hw->Prop,Pv 0 [] G1/\(∀ i acc G,Pv i acc G->i<=items.length->stab G/\acc.length<=i)/\items.length<=sizeLine /\
  (∀ i w acc G,items[i]?=some w->Pv i acc G->turn w G fun o G'=>match o with|some x=>Pv (i+1) (acc++[x]) G'|none=>Pv (i+1) acc G') /\
  ∀ acc G,Pv items.length acc G->∀ p,G p=none->Q (.ref p) (put G p (.lst acc))
def zO (w:W) (G:Hw) (Q:Q3):Prop:=match w with|.int i=>Q (.int (-i)) G|_=>False
def zE (w:W) (Q:Bool->Prop):Prop:=match w with|.bl b=>Q b|_=>False
def zP (w:W) (Q:Int->Prop):Prop:=match w with|.int i=>Q i|_=>False
def tyW (G:Hw):W->String->Prop
 | .str _,T=>T = "str"
 | .ref p,T=>match G p with
  |some (.lst _)=>T = "list"
  |some (.fix _)=>T = "list"
  |some (.dic _)=>T = "dict"
  |_=>False
 |_,_=>False
def bY (cl:List (Addr×List Str)) (f:Str) (w:W) (G:Hw) (Q:Q3):Prop:=match w with
 | .ref p=>(match G p with
  |some (.ins C fs)=>(∃ l,(C,l)∈cl/\f∈l)/\(match fs.lookup f with|some v=>Q v G|none=>False)
  |_=>False)
 |_=>False
def uB (f:Str) (v:W):List (Str×W)->List (Str×W)
 | []=>[(f,v)]
 | (g,x)::r=>if g=f then (g,v)::r else (g,x)::uB f v r
def satR (cl:List (Addr×List Str)) (f:Str) (o v:W) (G:Hw) (Q:Hw->Prop):Prop:=match o with
 | .ref p=>(match G p with
  |some (.ins C fs)=>(∃ l,(C,l)∈cl/\f∈l)/\fs.length<1000/\Q (put G p (.ins C (uB f v fs)))
  |_=>False)
 |_=>False
def zkj (ks:List Str) (ws:List W):List (xS×W):=(ks.zip ws).foldl (fun acc kv=>dput acc (.inr kv.1) kv.2) []
structure ET where
 e:E3
 t:T3
def zS (e:E3):T3:=fun σ G Q=>e σ G fun w G1=>match rB G1 w with|some b=>Q b G1|none=>False
def zB (e:E3):T3:=fun σ G Q=>e σ G fun w G1=>zE w fun b=>Q b G1
def zF (e:E3):ET:=⟨e,zS e⟩
def zC (e:E3):ET:=⟨e,zB e⟩
def seqA:List E3->A3
 | []=>fun _ G Q=>Q [] G
 |e::es=>fun σ G Q=>e σ G fun x G1=>seqA es σ G1 fun xs G2=>Q (x::xs) G2
section
variable (Γ:Ctx3)
mutual
def zH (E:XQ):IE->ET
 | .var i=>zF fun σ G Q=>match σ[i]? with|some (some w)=>Q w G|_=>False
 | .con c=>zF fun σ G Q=>match zN c with|some w=>Q w G|none=>False
 | .glb i=>zF fun σ G Q=>match Γ.gl[i]? with|some p=>Q p.2 G|none=>False
 | .bin op a b=>zF fun σ G Q=>(zH E a).e σ G fun x G1=>(zH E b).e σ G1 fun y G2=>wN op x y G2 Q
 | .neg a=>zF fun σ G Q=>(zH E a).e σ G fun x G1=>zO x G1 Q
 | .not a=>⟨fun σ G Q=>(zH E a).e σ G fun x G1=>zE x fun b=>Q (.bl (!b)) G1,fun σ G Q=>(zH E a).t σ G fun b G1=>Q (!b) G1⟩
 | .cmp op a b=>zC fun σ G Q=>(zH E a).e σ G fun x G1=>(zH E b).e σ G1 fun y G2=>zA op x y G2 Q
 | .chn o1 o2 a b c=>zC fun σ G Q=>(zH E a).e σ G fun x G1=>(zH E b).e σ G1 fun y G2=>zA o1 x y G2 fun z G3=>zE z fun k =>
   if k=true then (zH E c).e σ G3 fun u G4=>zA o2 y u G4 Q else Q (.bl false) G3
 | .and a b=>⟨fun σ G Q=>(zH E a).e σ G fun x G1=>zE x fun k=>if k=true then (zH E b).e σ G1 Q else Q (.bl false) G1,
   fun σ G Q=>(zH E a).t σ G fun k G1=>if k=true then (zH E b).t σ G1 Q else Q false G1⟩
 | .or a b=>⟨fun σ G Q=>(zH E a).e σ G fun x G1=>zE x fun k=>if k=true then Q (.bl true) G1 else (zH E b).e σ G1 Q,
   fun σ G Q=>(zH E a).t σ G fun k G1=>if k=true then Q true G1 else (zH E b).t σ G1 Q⟩
 | .ite c a b=>⟨fun σ G Q=>(zH E c).t σ G fun k G1=>if k=true then (zH E a).e σ G1 Q else (zH E b).e σ G1 Q,fun _ _ _=>False⟩
 | .ix a i=>zF fun σ G Q=>(zH E a).e σ G fun x G1=>(zH E i).e σ G1 fun y G2=>kU x y G2 Q
 | .sl a lo hi=>zF fun σ G Q=>(zH E a).e σ G fun x G1=>zR E lo σ G1 fun l G2=>zR E hi σ G2 fun u G3=>slR x l u G3 Q
 | .tup es=>zF fun σ G Q=>zW E es σ G fun ws G1=>ws.length<=sizeLine/\Q (.tup ws) G1
 | .lst es=>zF fun σ G Q=>zW E es σ G fun ws G1=>ws.length<=sizeLine/\∀ p,G1 p=none->Q (.ref p) (put G1 p (.lst ws))
 | .dct ks es=>zF fun σ G Q=>∀ p,G p=none->zW E es σ (put G p (.dic [])) fun ws G1=>G1 p=some (.dic [])/\ws.length=ks.length/\Q (.ref p) (put G1 p (.dic (zkj ks ws)))
 | .call f es=>zF fun σ G Q=>zW E es σ G fun ws G1=>match Γ.fn[f]? with|some h=>h.sp ws G1 Q E|none=>False
 | .mth m o es=>zF fun σ G Q=>(zH E o).e σ G fun x G1=>match Γ.mt[m]? with|some h=>tyW G1 x h.T/\zW E es σ G1 fun ws G2=>h.sp x ws G2 Q|none=>False
 | .att o f=>zF fun σ G Q=>(zH E o).e σ G fun x G1=>bY Γ.cl f x G1 Q
 | .lc tg names caps it c elt=>zF fun σ G Q=>zY E it σ G fun items stab G1 =>
   lcR items stab G1 (fun w G' K=>zX tg w (nT names.length caps σ) G' fun σ2 G2=>zV c σ2 G2 fun b G3=>if b=true then (zH XN elt).e σ2 G3 fun x G4=>K (some x) G4 else K none G3) Q
 | .spc i es=>zF fun σ G Q=>zW E es σ G fun ws G1=>match Γ.sx[i]? with|some h=>h.sp ws G1 Q|none=>False
 | .ch3 o1 o2 o3 a b c d=>zC fun σ G Q=>(zH E a).e σ G fun x G1=>(zH E b).e σ G1 fun y G2=>zA o1 x y G2 fun z G3=>zE z fun k =>
   if k=true then (zH E c).e σ G3 fun u G4=>zA o2 y u G4 fun z2 G5=>zE z2 fun k2 =>
    if k2=true then (zH E d).e σ G5 fun t G6=>zA o3 u t G6 Q else Q (.bl false) G5
   else Q (.bl false) G3
def zR (E:XQ):IO->qX->Hw->(Option Int->Hw->Prop)->Prop
 | .no=>fun _ G Q=>Q none G
 | .yes e=>fun σ G Q=>(zH E e).e σ G fun x G1=>zP x fun i=>Q (some i) G1
def zV:IO->T3
 | .no=>fun _ G Q=>Q true G
 | .yes e=>(zH XN e).t
def zW (E:XQ):IEs->A3
 | .nil=>fun _ G Q=>Q [] G
 | .cons e es=>fun σ G Q=>(zH E e).e σ G fun x G1=>zW E es σ G1 fun xs G2=>Q (x::xs) G2
def zY (E:XQ):II->I3
 | .val e=>fun σ G R=>(zH E e).e σ G fun w G1=>xH w G1 R
 | .blt i es=>fun σ G R=>zW E es σ G fun ws G1=>match Γ.it[i]? with|some h=>h.sp ws G1 R|none=>False
 | .spc i es=>fun σ G R=>zW E es σ G fun ws G1=>match Γ.ix[i]? with|some h=>h.sp ws G1 R|none=>False
end
def semL:IEs->List E3
 | .nil=>[]
 | .cons e es=>(zH Γ XN e).e::semL es
abbrev zU (E:XQ) (e:IE):E3:=(zH Γ E e).e
abbrev zQ (E:XQ) (e:IE):T3:=(zH Γ E e).t
def forR (items:List W) (stab:Hw->Prop) (D:End3) (σ:qX) (G1:Hw) (turn:W->End3->qX->Hw->Prop):Prop :=
 ∃ Pv:Nat->qX->Hw->Prop,Pv 0 σ G1/\(∀ i σ G,Pv i σ G->i<=items.length->stab G) /\
  (∀ i w σ G,items[i]?=some w->Pv i σ G->turn w { D with nx:=Pv (i+1),ct:=Pv (i+1),bk:=D.nx } σ G)/\∀ σ G,Pv items.length σ G->D.nx σ G
mutual
def zT (E:XQ):IS->S3
 | .asg i e=>fun D σ G=>zU Γ E e σ G fun w G1=>D.nx (σ.set i (some w)) G1
 | .asgT ts e=>fun D σ G=>zU Γ E e σ G fun w G1=>zX (.tup ts) (unl G1 w) σ G1 D.nx
 | .asgI o i e=>fun D σ G=>zU Γ E e σ G fun w G1=>zU Γ E o σ G1 fun x G2=>zU Γ E i σ G2 fun y G3=>setR x y w G3 fun G4=>D.nx σ G4
 | .asgA o f e=>fun D σ G=>zU Γ E e σ G fun w G1=>zU Γ E o σ G1 fun x G2=>satR Γ.cl f x w G2 fun G3=>D.nx σ G3
 | .ex e=>fun D σ G=>zU Γ E e σ G fun _ G1=>D.nx σ G1
 | .ret e=>fun D σ G=>zU Γ E e σ G D.rt
 | .retN=>fun D _ G=>D.rt .non G
 | .pass=>fun D σ G=>D.nx σ G
 | .brk=>fun D σ G=>D.bk σ G
 | .cnt=>fun D σ G=>D.ct σ G
 | .ite c a b=>fun D σ G=>zQ Γ E c σ G fun k G1=>if k=true then zI E a D σ G1 else zI E b D σ G1
 | .whl c b=>fun D σ G=>∃ Pv:Nat->qX->Hw->Prop,(∃ m,Pv m σ G)/\∀ m σ G,Pv m σ G->zQ Γ E c σ G fun k G1 =>
   if k=true then zI E b { D with nx:=fun σ' G'=>∃ m',m' < m/\Pv m' σ' G',ct:=fun σ' G'=>∃ m',m' < m/\Pv m' σ' G',bk:=D.nx } σ G1 else D.nx σ G1
 | .for tg it b=>fun D σ G=>zY Γ E it σ G fun items stab G1=>forR items stab D σ G1 fun w D' σ' G'=>zX tg w σ' G' fun σ2 G2=>zI E b D' σ2 G2
 | .dead=>fun _ _ _=>False
 | .asgS i j e=>fun D σ G=>zU Γ E e σ G fun w G1=>match w with
  | .tup (x::r)=>r.length<=1000/\∀ p,G1 p=none->D.nx ((σ.set i (some x)).set j (p⁻¹)) (put G1 p (.lst r))
  |_=>False
def zI (E:XQ):ISs->S3
 | .nil=>fun D σ G=>D.nx σ G
 | .cons s ss=>fun D σ G=>zT E s { D with nx:=zI E ss D } σ G
end
end
theorem zbk (Γ:Ctx3):∀ es:IEs,zW Γ XN es=seqA (semL Γ es)
 | .nil=>rfl
 | .cons e es=>by
  show (fun (σ:qX) (G:Hw) (Q:List W->Hw->Prop)=>(zH Γ XN e).e σ G fun x G1=>zW Γ XN es σ G1 fun xs G2=>Q (x::xs) G2)=_;rw[zbk Γ es];rfl
structure TabMono (Γ:Ctx3):Prop where
 fn:∀ f∈Γ.fn,∀ ws G (Q Q':Q3) E,'i'->f.sp ws G Q E->f.sp ws G Q' E
 mt:∀ m∈Γ.mt,∀ x ws G (Q Q':Q3),'i'->m.sp x ws G Q->m.sp x ws G Q'
 it:∀ m∈Γ.it,∀ ws G (R R':List W->(Hw->Prop)->Hw->Prop),(∀ a b c,R a b c->R' a b c)->m.sp ws G R->m.sp ws G R'
 sx:∀ m∈Γ.sx,∀ ws G (Q Q':Q3),'i'->m.sp ws G Q->m.sp ws G Q'
 ix:∀ m∈Γ.ix,∀ ws G (R R':List W->(Hw->Prop)->Hw->Prop),(∀ a b c,R a b c->R' a b c)->m.sp ws G R->m.sp ws G R'
def zoS (t:I3):Prop:=∀ σ G (R R':List W->(Hw->Prop)->Hw->Prop),(∀ a b c,R a b c->R' a b c)->t σ G R->t σ G R'
def zoR (t:qX->Hw->(Option Int->Hw->Prop)->Prop):Prop:=∀ σ G (Q Q':Option Int->Hw->Prop),(∀ a b,Q a b->Q' a b)->t σ G Q->t σ G Q'
theorem uJ {w:W} {Q Q':Bool->Prop} (k:∀ b,Q b->Q' b) (h:zE w Q):zE w Q':=by
 cases w<;>first|exact k _ h|exact h.elim
theorem zc4 {w:W} {Q Q':Int->Prop} (k:∀ b,Q b->Q' b) (h:zP w Q):zP w Q':=by
 cases w<;>first|exact k _ h|exact h.elim
theorem zhw {w:W} {G:Hw} {Q Q':Q3} (k:∀ w G,Q w G->Q' w G) (h:zO w G Q):zO w G Q':=by
 cases w<;>first|exact k _ _ h|exact h.elim
theorem ziD {cl:List (Addr×List Str)} {f:Str} {w:W} {G:Hw} {Q Q':Q3} (k:∀ w G,Q w G->Q' w G) (h:bY cl f w G Q):bY cl f w G Q':=by
 cases w with
 |ref p =>
  simp only[bY] at h ⊢
  split at h
  .refine ⟨h.1,?_⟩;have h2:=h.2
   split at h2
   .exact k _ _ h2
   .exact h2.elim
  .exact h.elim
 |_=>exact h.elim
theorem za1 {w:W} {G:Hw} {R R':List W->(Hw->Prop)->Hw->Prop} (k:∀ a b c,R a b c->R' a b c) (h:xH w G R):xH w G R':=by
 cases w with
 |tup ws=>exact k _ _ _ h
 |ref p =>
  simp only[xH] at h ⊢
  split at h
  .exact k _ _ _ h
  .split at h
   .exact k _ _ _ h
   .exact h.elim
 |str x=>exact k _ _ _ h
 |_=>exact h.elim
theorem zjP {items:List W} {stab:Hw->Prop} {G1:Hw} {turn:W->Hw->(Option W->Hw->Prop)->Prop} {Q Q':Q3} (k:∀ w G,Q w G->Q' w G) (h:lcR items stab G1 turn Q):lcR items stab G1 turn Q':=by
 obtain ⟨Pv,h0,h1,h2,h3,h4⟩:=h;exact ⟨Pv,h0,h1,h2,h3,fun acc G hp p hn=>k _ _ (h4 acc G hp p hn)⟩
theorem zgx {e:E3} (m:jH e):nR (zS e):=fun σ G Q Q' k h=>m σ G _ _ (fun w G1 q=>by
 split at q
 .exact k _ _ q
 .exact q.elim) h
theorem zkr {e:E3} (m:jH e):nR (zB e):=fun σ G Q Q' k h=>m σ G _ _ (fun w G1 q=>uJ (fun b=>k b G1) q) h
theorem xI {e:E3} (m:jH e):jH (zF e).e/\nR (zF e).t:=⟨m,zgx m⟩
theorem zbH {e:E3} (m:jH e):jH (zC e).e/\nR (zC e).t:=⟨m,zkr m⟩
theorem jE {α:Type} {l:List α} {i:Nat} {x:α} (h:l[i]?=some x):x∈l:=Zo h
variable {Γ:Ctx3} (g:TabMono Γ)
include g
theorem ze5 (e:IE):∀ E,jH (zH Γ E e).e/\nR (zH Γ E e).t:=by
 refine IE.rec (motive_1:=fun e=>∀ E,jH (zH Γ E e).e/\nR (zH Γ E e).t) (motive_2:=fun o=>(∀ E,zoR (zR Γ E o))/\nR (zV Γ o)) (motive_3:=fun es=>∀ E,rJ (zW Γ E es)) (motive_4:=fun it=>∀ E,zoS (zY Γ E it))
  (motive_5:=fun _=>True) (motive_6:=fun _=>True) ?var ?con ?glb ?bin ?neg ?not ?cmp ?chn ?and ?or ?ite ?ix ?sl ?tup ?lst ?dct ?call ?mth ?att ?lc ?spc ?ch3 ?no ?yes ?nil ?cons ?val ?blt ?ispc ?nm ?tt ?tn ?tc e
 case var =>
  intro i E;refine xI fun σ G Q Q' k h=>?_
  split at h
  .exact k _ _ h
  .exact h.elim
 case con =>
  intro c E;refine xI fun σ G Q Q' k h=>?_
  split at h
  .exact k _ _ h
  .exact h.elim
 case glb =>
  intro i E;refine xI fun σ G Q Q' k h=>?_
  split at h
  .exact k _ _ h
  .exact h.elim
 case bin=>exact fun op a b ha hb E=>xI fun σ G Q Q' k h=>(ha E).1 σ G _ _ (fun x G1 h=>(hb E).1 σ G1 _ _ (fun y G2 h=>zdq op x y G2 _ _ k h) h) h
 case neg=>exact fun a ha E=>xI fun σ G Q Q' k h=>(ha E).1 σ G _ _ (fun x G1 h=>zhw k h) h
 case not=>exact fun a ha E=>⟨fun σ G Q Q' k h=>(ha E).1 σ G _ _ (fun x G1 h=>uJ (fun b=>k _ _) h) h,fun σ G Q Q' k h=>(ha E).2 σ G _ _ (fun b G1 h=>k _ _ h) h⟩
 case cmp=>exact fun op a b ha hb E=>zbH fun σ G Q Q' k h=>(ha E).1 σ G _ _ (fun x G1 h=>(hb E).1 σ G1 _ _ (fun y G2 h=>qW op x y G2 _ _ k h) h) h
 case chn =>
  exact fun o1 o2 a b c ha hb hc E=>zbH fun σ G Q Q' k h=>(ha E).1 σ G _ _ (fun x G1 h=>(hb E).1 σ G1 _ _ (fun y G2 h=>qW o1 x y G2 _ _ (fun z G3 h=>uJ (fun b h=>by
   split
   .rename_i hb;rw[if_pos hb] at h;exact (hc E).1 σ G3 _ _ (fun u G4 h=>qW o2 y u G4 _ _ k h) h
   .rename_i hb;rw[if_neg hb] at h;exact k _ _ h) h) h) h) h
 case ch3 =>
  exact fun o1 o2 o3 a b c d ha hb hc hd E=>zbH fun σ G Q Q' k h=>(ha E).1 σ G _ _ (fun x G1 h=>(hb E).1 σ G1 _ _ (fun y G2 h=>qW o1 x y G2 _ _ (fun z G3 h=>uJ (fun b h=>by
   split
   .rename_i hb;rw[if_pos hb] at h
    exact (hc E).1 σ G3 _ _ (fun u G4 h=>qW o2 y u G4 _ _ (fun z2 G5 h=>uJ (fun b2 h=>by
     split
     .rename_i hb2;rw[if_pos hb2] at h;exact (hd E).1 σ G5 _ _ (fun t G6 h=>qW o3 u t G6 _ _ k h) h
     .rename_i hb2;rw[if_neg hb2] at h;exact k _ _ h) h) h) h
   .rename_i hb;rw[if_neg hb] at h;exact k _ _ h) h) h) h) h
 case and =>
  exact fun a b ha hb E=>⟨fun σ G Q Q' k h=>(ha E).1 σ G _ _ (fun x G1 h=>uJ (fun c h=>by
   split
   .rename_i hc;rw[if_pos hc] at h;exact (hb E).1 σ G1 _ _ k h
   .rename_i hc;rw[if_neg hc] at h;exact k _ _ h) h) h,fun σ G Q Q' k h=>(ha E).2 σ G _ _ (fun c G1 h=>by
   split
   .rename_i hc;rw[if_pos hc] at h;exact (hb E).2 σ G1 _ _ k h
   .rename_i hc;rw[if_neg hc] at h;exact k _ _ h) h⟩
 case or =>
  exact fun a b ha hb E=>⟨fun σ G Q Q' k h=>(ha E).1 σ G _ _ (fun x G1 h=>uJ (fun c h=>by
   split
   .rename_i hc;rw[if_pos hc] at h;exact k _ _ h
   .rename_i hc;rw[if_neg hc] at h;exact (hb E).1 σ G1 _ _ k h) h) h,fun σ G Q Q' k h=>(ha E).2 σ G _ _ (fun c G1 h=>by
   split
   .rename_i hc;rw[if_pos hc] at h;exact k _ _ h
   .rename_i hc;rw[if_neg hc] at h;exact (hb E).2 σ G1 _ _ k h) h⟩
 case ite =>
  exact fun c a b hc ha hb E=>⟨fun σ G Q Q' k h=>(hc E).2 σ G _ _ (fun c G1 h=>by
   split
   .rename_i hc;rw[if_pos hc] at h;exact (ha E).1 σ G1 _ _ k h
   .rename_i hc;rw[if_neg hc] at h;exact (hb E).1 σ G1 _ _ k h) h,fun _ _ _ _ _ h=>h.elim⟩
 case ix=>exact fun a b ha hb E=>xI fun σ G Q Q' k h=>(ha E).1 σ G _ _ (fun x G1 h=>(hb E).1 σ G1 _ _ (fun y G2 h=>zfe x y G2 _ _ k h) h) h
 case sl=>exact fun a lo hi ha hl hh E=>xI fun σ G Q Q' k h=>(ha E).1 σ G _ _ (fun x G1 h=>(hl.1 E) σ G1 _ _ (fun l G2 h=>(hh.1 E) σ G2 _ _ (fun u G3 h=>zeP k h) h) h) h
 case tup=>exact fun es hs E=>xI fun σ G Q Q' k h=>(hs E) σ G _ _ (fun ws G1 h=>⟨h.1,k _ _ h.2⟩) h
 case lst=>exact fun es hs E=>xI fun σ G Q Q' k h=>(hs E) σ G _ _ (fun ws G1 h=>⟨h.1,fun p hp=>k _ _ (h.2 p hp)⟩) h
 case dct=>exact fun ks es hs E=>xI fun σ G Q Q' k h=>fun p hp=>(hs E) σ _ _ _ (fun ws G1 h=>⟨h.1,h.2.1,k _ _ h.2.2⟩) (h p hp)
 case call =>
  exact fun f es hs E=>xI fun σ G Q Q' k h=>(hs E) σ G _ _ (fun ws G1 h=>by
   split at h
   .rename_i f' e;exact g.fn f' (jE e) ws G1 Q Q' E k h
   .exact h.elim) h
 case mth =>
  exact fun m o es ho hs E=>xI fun σ G Q Q' k h=>(ho E).1 σ G _ _ (fun x G1 h=>by
   split at h
   .rename_i m' e;exact ⟨h.1,(hs E) σ G1 _ _ (fun ws G2 h=>g.mt m' (jE e) x ws G2 Q Q' k h) h.2⟩
   .exact h.elim) h
 case att=>exact fun o f ho E=>xI fun σ G Q Q' k h=>(ho E).1 σ G _ _ (fun x G1 h=>ziD k h) h
 case lc=>exact fun tg names caps it c elt _ hi hc he E=>xI fun σ G Q Q' k h=>(hi E) σ G _ _ (fun items stab G1 h=>zjP k h) h
 case spc =>
  exact fun i es hs E=>xI fun σ G Q Q' k h=>(hs E) σ G _ _ (fun ws G1 h=>by
   split at h
   .rename_i f' e;exact g.sx f' (jE e) ws G1 Q Q' k h
   .exact h.elim) h
 case ispc =>
  exact fun i es hs E σ G R R' k h=>(hs E) σ G _ _ (fun ws G1 h=>by
   split at h
   .rename_i m' e;exact g.ix m' (jE e) ws G1 R R' k h
   .exact h.elim) h
 case no=>exact ⟨fun E σ G Q Q' k h=>k _ _ h,fun σ G Q Q' k h=>k _ _ h⟩
 case yes=>exact fun e he=>⟨fun E σ G Q Q' k h=>(he E).1 σ G _ _ (fun x G1 h=>zc4 (fun i=>k _ _) h) h,(he XN).2⟩
 case nil=>exact fun E σ G Q Q' k h=>k _ _ h
 case cons=>exact fun e es he hs E σ G Q Q' k h=>(he E).1 σ G _ _ (fun x G1 h=>(hs E) σ G1 _ _ (fun xs G2 h=>k _ _ h) h) h
 case val=>exact fun e he E σ G R R' k h=>(he E).1 σ G _ _ (fun w G1 h=>za1 k h) h
 case blt =>
  exact fun i es hs E σ G R R' k h=>(hs E) σ G _ _ (fun ws G1 h=>by
   split at h
   .rename_i m' e;exact g.it m' (jE e) ws G1 R R' k h
   .exact h.elim) h
 case nm=>exact fun _=>trivial
 case tt=>exact fun _ _=>trivial
 case tn=>trivial
 case tc=>exact fun _ _ _ _=>trivial
theorem yN (E:XQ) (e:IE):jH (zH Γ E e).e:=(ze5 g e E).1
theorem fQ (E:XQ) (e:IE):nR (zH Γ E e).t:=(ze5 g e E).2
theorem uA (E:XQ):∀ es:IEs,rJ (zW Γ E es)
 | .nil=>fun σ G Q Q' k h=>k _ _ h
 | .cons e es=>fun σ G Q Q' k h=>yN g E e σ G _ _ (fun x G1 h=>uA E es σ G1 _ _ (fun xs G2 h=>k _ _ h) h) h
theorem zn0 (E:XQ):∀ o:IO,zoR (zR Γ E o)
 | .no=>fun σ G Q Q' k h=>k _ _ h
 | .yes e=>fun σ G Q Q' k h=>yN g E e σ G _ _ (fun x G1 h=>zc4 (fun i=>k _ _) h) h
theorem monoC:∀ o:IO,nR (zV Γ o)
 | .no=>fun σ G Q Q' k h=>k _ _ h
 | .yes e=>fQ g XN e
theorem zn1 (E:XQ):∀ it:II,zoS (zY Γ E it)
 | .val e=>fun σ G R R' k h=>yN g E e σ G _ _ (fun w G1 h=>za1 k h) h
 | .blt i es=>fun σ G R R' k h=>uA g E es σ G _ _ (fun ws G1 h=>by
   split at h
   .rename_i m' e;exact g.it m' (jE e) ws G1 R R' k h
   .exact h.elim) h
 | .spc i es=>fun σ G R R' k h=>uA g E es σ G _ _ (fun ws G1 h=>by
   split at h
   .rename_i m' e;exact g.ix m' (jE e) ws G1 R R' k h
   .exact h.elim) h
end L3
namespace L3
open PySem PySem.Spec PyProof.Rows L2
structure MC where
 sc:Scope
 N:List Str
 own:Str->Bool
 fns:List Str
 gls:List Str
 mts:List Str
 its:List Str
 sxm:List (Scope->Expr->Option (List Expr))
 ixm:List (Scope->Expr->Option (List Expr))
def visB (sc:Scope) (x:Str):Bool:=match sc.names.lookup x with
 |some .local=>true
 |some .cell=>true
 |some .free=>true
 |_=>false
noncomputable def gL (sc:Scope) (x:Str):Bool:=sc.names.lookup x==some .globalImplicit&&!(x==("__debug__" : Str))&&!(x==("__name__" : Str))
def zdW:Expr->Bool
 | .Set ..=>false
 |_=>true
def wG:Expr->Bool
 | .Starred ..=>false
 |_=>true
def zbC:Expr->Bool
 | .Slice ..=>false
 |_=>true
def cX:Expr->Bool
 | .ListComp ..=>false
 | .SetComp ..=>false
 | .DictComp ..=>false
 |_=>true
def ziE:Expr->Bool
 | .Call (.Name ..) [] [] _=>false
 |_=>true
def relS (sc out:Scope):Scope:={ sc with names:=sc.names.map fun (n,k)=>if (k==.free&&out.kind==.function&&out.names.lookup n==some .cell) then (n,.cell) else (n,k) }
def blkB (out sc:Scope):Bool:=(sc.kind==.function)&&(sc.names.all fun y=>(!(y.2==.cell) || sc.names.lookup y.1==some .cell)&&(!(y.2==.free) || sc.names.lookup y.1==some .free)) &&
 (sc.names.all fun y=>!(y.2==.free) || out.names.lookup y.1==some .cell || out.names.lookup y.1==some .free) &&
 (sc.names.all fun y=>!(y.2==.local) || sc.names.lookup y.1==some .local)
def zcM:List Str->Bool
 | []=>true
 |x::r=>!r.contains x&&zcM r
def locB (M:MC) (x:Str):Bool:=match M.sc.names.lookup x with
 |some .local=>true
 |some .cell=>M.own x
 |_=>false
mutual
def tgIx:ITg->List Nat
 | .nm i=>[i]
 | .tup ts=>zi0 ts
def zi0:ITgs->List Nat
 | .nil=>[]
 | .cons t ts=>tgIx t++zi0 ts
end
mutual
def mG (M:MC):ITg->Expr->Bool
 | .nm i,.Name x _=>M.N[i]?==some x&&locB M x
 | .tup ts,.Tuple es _ _=>mGs M ts es
 |_,_=>false
def mGs (M:MC):ITgs->List Expr->Bool
 | .nil,[]=>true
 | .cons t ts,e::es=>wG e&&mG M t e&&mGs M ts es
 |_,_=>false
end
mutual
def mE:IE->MC->Expr->Bool
 | .var i=>fun M e=>match e with
  | .Name x _=>M.N[i]?==some x&&visB M.sc x&&!(x==("__debug__" : Str))&&!(x==("__classdict__" : Str))
  |_=>false
 | .con c=>fun M e=>match e with
  | .Constant d _ _=>decide (c=d)
  |_=>false
 | .glb i=>fun M e=>match e with
  | .Name x _=>M.gls[i]?==some x&&gL M.sc x
  |_=>false
 | .bin op a b=>fun M e=>match e with
  | .BinOp l o r _=>decide (op=o)&&mE a M l&&mE b M r
  |_=>false
 | .neg a=>fun M e=>match e with
  | .UnaryOp .USub l _=>mE a M l
  |_=>false
 | .not a=>fun M e=>match e with
  | .UnaryOp .Not l _=>mE a M l
  |_=>false
 | .cmp op a b=>fun M e=>match e with
  | .Compare l [o] [r] _=>decide (op=o)&&mE a M l&&mE b M r&&zdW r
  |_=>false
 | .chn o1 o2 a b c=>fun M e=>false
 | .ch3 o1 o2 o3 a b c d=>fun M e=>false
 | .and a b=>fun M e=>match e with
  | .BoolOp .And [l,r] _=>mE a M l&&mE b M r
  | .BoolOp .And (l::r::q::rest) pos=>mE a M l&&mE b M (.BoolOp .And (r::q::rest) pos)
  |_=>false
 | .or a b=>fun M e=>match e with
  | .BoolOp .Or [l,r] _=>mE a M l&&mE b M r
  | .BoolOp .Or (l::r::q::rest) pos=>mE a M l&&mE b M (.BoolOp .Or (r::q::rest) pos)
  |_=>false
 | .ite c a b=>fun M e=>match e with
  | .IfExp t l r _=>mE c M t&&mE a M l&&mE b M r
  |_=>false
 | .ix a i=>fun M e=>match e with
  | .Subscript l r _=>mE a M l&&mE i M r&&zbC r
  |_=>false
 | .sl a lo hi=>fun M e=>match e with
  | .Subscript l (.Slice x y none _) _=>mE a M l&&mO lo M x&&mO hi M y
  |_=>false
 | .tup es=>fun M e=>match e with
  | .Tuple xs _ _=>mA es M xs
  |_=>false
 | .lst es=>fun M e=>match e with
  | .List xs _=>mA es M xs
  |_=>false
 | .dct ks es=>fun M e=>match e with
  | .Dict keys xs _=>keyB ks keys&&mA es M xs&&decide (keys.length=xs.length)&&decide (keys.length<=15)&&!ks.isEmpty
  |_=>false
 | .call f es=>fun M e=>match e with
  | .Call (.Name x _) xs [] _=>M.fns[f]?==some x&&gL M.sc x&&mA es M xs
  |_=>false
 | .mth m o es=>fun M e=>match e with
  | .Call (.Attribute l x apos) xs [] cpos=>M.mts[m]?==some x&&ziE l&&(apos.endLine==cpos.line)&&decide (xs.length<25)&&mE o M l&&mA es M xs
  |_=>false
 | .att o f=>fun M e=>match e with
  | .Attribute l x _=>x==f&&ziE l&&mE o M l
  |_=>false
 | .lc tg names caps it c elt=>fun M e=>match e with
  | .ListComp x [⟨t,ix,ifs,asy⟩] sc _ =>
   let M':MC:={ M with sc:=relS sc M.sc,N:=names++caps.map (fun j=>M.N.getD j Str.empty),own:=fun x=>sc.names.lookup x==some .cell }
   decide (asy=0)&&blkB M.sc sc&&zdW ix&&zcM M'.N&&(caps.all fun j=>decide (j<M.N.length)&&(sc.names.lookup (M.N.getD j Str.empty)==some .free)) &&
    mI it M ix&&((tgIx tg).all fun i=>decide (i<names.length))&&mG M' tg t&&mC c M' ifs&&mE elt M' x
  |_=>false
 | .spc i es=>fun M e=>cX e&&(match M.sxm[i]? with
  |some m=>(match m M.sc e with|some xs=>mA es M xs|none=>false)
  |none=>false)
def mO:IO->MC->Option Expr->Bool
 | .no=>fun M e=>match e with|none=>true|_=>false
 | .yes a=>fun M e=>match e with|some x=>mE a M x|_=>false
def mC:IO->MC->List Expr->Bool
 | .no=>fun M e=>match e with | []=>true|_=>false
 | .yes a=>fun M e=>match e with | [x]=>mE a M x|_=>false
def mA:IEs->MC->List Expr->Bool
 | .nil=>fun M e=>match e with | []=>true|_=>false
 | .cons a as=>fun M e=>match e with|x::xs=>wG x&&mE a M x&&mA as M xs|_=>false
def mI:II->MC->Expr->Bool
 | .val a=>fun M e=>mE a M e
 | .blt i es=>fun M e=>match e with
  | .Call (.Name x _) xs [] _=>M.its[i]?==some x&&gL M.sc x&&mA es M xs
  |_=>false
 | .spc i es=>fun M e=>false
def keyB:List Str->List (Option Expr)->Bool
 | []=>fun e=>match e with | []=>true|_=>false
 |k::ks=>fun e=>match e with|some (.Constant (.str x) _ _)::es=>k==x&&keyB ks es|_=>false
end
noncomputable def zi3 (M:MC) (i j:Nat):Expr->Bool
 | .Tuple [.Name x _,.Starred (.Name y _) _] _ _=>(M.N[i]?==some x&&locB M x)&&(M.N[j]?==some y&&locB M y)
 |_=>false
mutual
def mS:IS->MC->Stmt->Bool
 | .asg i a=>fun M s=>match s with
  | .Assign [.Name x py] e _=>M.N[i]?==some x&&locB M x&&mE a M e
  |_=>false
 | .asgT ts a=>fun M s=>match s with
  | .Assign [.Tuple es _ _] e _=>cX e&&zjE e&&mGs M ts es&&mE a M e
  |_=>false
 | .asgI o i a=>fun M s=>match s with
  | .Assign [.Subscript l r _] e _=>cX e&&zbC r&&mE o M l&&mE i M r&&mE a M e
  |_=>false
 | .asgA o f a=>fun M s=>match s with
  | .Assign [.Attribute l x _] e _=>x==f&&cX e&&mE o M l&&mE a M e
  |_=>false
 | .ex a=>fun M s=>match s with
  | .Expr e _=>cX e&&mE a M e
  |_=>false
 | .ret a=>fun M s=>match s with
  | .Return (some e) _=>mE a M e
  |_=>false
 | .retN=>fun M s=>match s with|.Return none _=>true|_=>false
 | .pass=>fun M s=>match s with|.Pass _=>true|_=>false
 | .brk=>fun M s=>match s with|.Break _=>true|_=>false
 | .cnt=>fun M s=>match s with|.Continue _=>true|_=>false
 | .ite c a b=>fun M s=>match s with
  | .If t x y _=>mE c M t&&qV a M x&&qV b M y
  |_=>false
 | .whl c b=>fun M s=>match s with
  | .While t x [] _=>mE c M t&&qV b M x
  |_=>false
 | .for tg it b=>fun M s=>match s with
  | .For t x y [] _=>zdW x&&mG M tg t&&mI it M x&&qV b M y
  |_=>false
 | .dead=>fun M s=>true
 | .asgS i j a=>fun M s=>match s with
  | .Assign [t] e _=>cX e&&zjE e&&zi3 M i j t&&mE a M e
  |_=>false
def qV:ISs->MC->List Stmt->Bool
 | .nil=>fun M s=>match s with | []=>true|_=>false
 | .cons a as=>fun M s=>match s with|x::xs=>mS a M x&&qV as M xs|_=>false
def zjE:Expr->Bool
 | .Tuple ..=>false
 |_=>true
end
theorem mH {a b:Bool} (h:(a&&b)=true):a=true/\b=true:=(Zp a b).mp h
theorem bd3 {a b c:Bool} (h:(a&&b&&c)=true):(a=true/\b=true)/\c=true:=⟨mH (mH h).1,(mH h).2⟩
theorem bd4 {a b c d:Bool} (h:(a&&b&&c&&d)=true):((a=true/\b=true)/\c=true)/\d=true:=⟨bd3 (mH h).1,(mH h).2⟩
theorem bd5 {a b c d e:Bool} (h:(a&&b&&c&&d&&e)=true):(((a=true/\b=true)/\c=true)/\d=true)/\e=true:=⟨bd4 (mH h).1,(mH h).2⟩
theorem bd6 {a b c d e f:Bool} (h:(a&&b&&c&&d&&e&&f)=true):((((a=true/\b=true)/\c=true)/\d=true)/\e=true)/\f=true:=⟨bd5 (mH h).1,(mH h).2⟩
theorem bd7 {a b c d e f g:Bool} (h:(a&&b&&c&&d&&e&&f&&g)=true):(((((a=true/\b=true)/\c=true)/\d=true)/\e=true)/\f=true)/\g=true:=⟨bd6 (mH h).1,(mH h).2⟩
theorem bd8 {a b c d e f g k:Bool} (h:(a&&b&&c&&d&&e&&f&&g&&k)=true):((((((a=true/\b=true)/\c=true)/\d=true)/\e=true)/\f=true)/\g=true)/\k=true:=⟨bd7 (mH h).1,(mH h).2⟩
theorem bd9 {a b c d e f g k l:Bool} (h:(a&&b&&c&&d&&e&&f&&g&&k&&l)=true):(((((((a=true/\b=true)/\c=true)/\d=true)/\e=true)/\f=true)/\g=true)/\k=true)/\l=true:=⟨bd8 (mH h).1,(mH h).2⟩
theorem bd10 {a b c d e f g k l m:Bool} (h:(a&&b&&c&&d&&e&&f&&g&&k&&l&&m)=true):((((((((a=true/\b=true)/\c=true)/\d=true)/\e=true)/\f=true)/\g=true)/\k=true)/\l=true)/\m=true:=⟨bd9 (mH h).1,(mH h).2⟩
end L3
namespace L2
open PySem PySem.Spec PyProof.Rows
def Itd (d:Addr) (ob:Obj) (l:List (xS×V)):It where
 go:=fun i H=>H d=some (.frz ob (.dK l))/\i<l.length
 yld:=fun i H x H'=>H'=H/\∃ p,l[i]?=some p/\x=kV p.1
 stop:=fun i H=>H d=some (.frz ob (.dK l))/\l.length<=i
def KiSt (it d:Addr) (ob:Obj) (n i:Nat) (h:Heap):Prop:=∃ ep es,ob.data=.dict es ep/\h.IsKeyIter it d i n ep
section
variable {X:Cx} {pins:List (Addr×Obj)} {σ:St} {H:Hp} {s:Shared} {d:Addr} {ob:Obj} {l:List (xS×V)}
theorem zkW {κ:Type}:∀ {l:List (κ×V)} {vs:List (κ×Value)} {i:Nat} {k:κ} {v:Value},KV l vs->vs[i]?=some (k,v)->∃ x,l[i]?=some (k,x)
 |_,_,i,k,v,.nil,e=>by simp at e
 |p::_,_,0,k,v,.cons r t,e=>by
  simp at e;subst e;obtain ⟨a,b⟩:=p;have h1:a=k:=r.1;exact ⟨b,by simp[h1]⟩
 |_::_,_,i+1,k,v,.cons r t,e=>by
  obtain ⟨x,h⟩:=zkW (i:=i) (k:=k) (v:=v) t (by simpa using e);exact ⟨x,by simpa using h⟩
theorem zkV {κ:Type}:∀ {l:List (κ×V)} {vs:List (κ×Value)},KV l vs->vs.length=l.length
 |_,_,.nil=>rfl
 |_,_,.cons _ t=>by rw[Ze,Ze,zkV t]
theorem zh8 (I:Inv X pins σ H s) (e:H d=some (.frz ob (.dK l))) {es:Array DictEntry} {ep:Nat} (hd:ob.data=.dict es ep):∃ vs,KV l vs/\s.heap.DictAt (xQ X.prog X.w) d vs ep/\vs.length=l.length:=by
 obtain ⟨hg,_,_,vs,kv,o,es',ep',ho,hc,hdat,r⟩:=(show wY X.prog X.w H s.heap d (.frz ob (.dK l)) from I.hok d _ e);rw[hg] at ho;cases ho;rw[hd] at hdat;cases hdat;exact ⟨vs,kv,⟨ob,es,hg,hc,hd,r⟩,zkV kv⟩
theorem zhS {k:xS} {v:Value} (h:zea k v=true):yR (kV k) v:=by
 rcases xP h with ⟨i,t,rfl,rfl⟩|⟨x,t,rfl,rfl⟩
 .exact ⟨t,rfl⟩
 .exact ⟨t,rfl⟩
theorem zgw {P:Program} {w:World} {K:PySem.W.Frag} {tg:Expr} (it:Addr):Turn P w K tg (Itd d ob l) [it] it (KiSt it d ob l.length) where
 mem:=by simp
 obj:=fun i h st b hb=>by
  cases zzO hb;obtain ⟨ep,es,_,o,e,c,z⟩:=st;exact ⟨o,e,fun v q=>by rw[z] at q;cases q⟩
 keep:=fun i h h' st k=>by
  obtain ⟨ep,es,hd,st⟩:=st;exact ⟨ep,es,hd,st.at fun o e=>k it 'g' o e⟩
 item:=by
  intro X e1 e2 e3 hc i pins s σ H E I hf st hg;subst e1;subst e2;subst e3;obtain ⟨ep,es,hd,st⟩:=st;obtain ⟨e,hi⟩:=hg;obtain ⟨vs,kv,da,lv⟩:=zh8 I e hd;obtain ⟨f0,f1,f2,f3,f4,f5⟩:=hf it 'g';obtain ⟨⟨k,v⟩,ek⟩:∃ p,vs[i]?=some p:=⟨vs[i]''d',Zf _⟩;obtain ⟨x,ex⟩:=zkW kv ek;rw[← lv] at st;refine wpAny_pyNext_dict_item st da ek fun key h' hkey st' sb=>?_;have I1:Inv X pins σ H { s with heap:=h',toks:=s.toks }:=I.turned (fun b o hb q=>(sb.2 b hb).trans q) f0 f1 f3 f4 f5;obtain ⟨o,o1,o2,o3⟩:=id st';refine ⟨key,rfl,zh4 (s:={ s with heap:=h' }) o1 o2 o3 'c' ⟨kV k,H,I1,zhS hkey,⟨rfl,(k,x),ex,rfl⟩,⟨ep,es,hd,?_⟩,fun b hb=>(hf b hb).1⟩⟩;rw[← lv];exact st'
 done:=by
  intro X e1 e2 e3 hc i pins s σ H E I hf st hg;subst e1;subst e2;subst e3;obtain ⟨ep,es,hd,st⟩:=st;obtain ⟨e,hi⟩:=hg;obtain ⟨vs,kv,da,lv⟩:=zh8 I e hd;obtain ⟨f0,f1,f2,f3,f4,f5⟩:=hf it 'g';rw[← lv] at st;exact wpAny_pyNext_dict_end (I.ok.hd hc) st da (List.getElem?_eq_none 'd') fun h' eb=>⟨rfl,I.turned (t':=s.toks) (fun b o hb q=>eb b o hb q) f0 f1 f3 f4 f5⟩
 self:=fun _ _ _ _ _ st h=>by
  obtain ⟨ep,es,hd,st⟩:=st;exact wpAny_pyIter_keyiter st h
theorem zkv {u:HO} (e:H d=some u):xM H d u=H:=by
 funext b
 unfold xM
 split
 .rename_i h;subst h;exact e.symm
 .rfl
theorem zms (I:Inv X pins σ H s) (e:Rd H d (.dK l)):∃ ob,Inv X pins σ (xM H d (.frz ob (.dK l))) s/\(∃ es ep,ob.data=.dict es ep)/\∀ ob',H d=some (.frz ob' (.dK l))->ob'=ob:=by
 rcases e with e|⟨ob,e⟩
 .have q:=I.hok d _ e;obtain ⟨h1,h2,vs,kv,o,es,ep,ho,hc,hdat,r⟩:=id q;have mu:Mut (H d):=by rw[e];exact True.intro
  refine ⟨o,I.un (t':=s.toks) (Un.write mu (.inl rfl) (fun b u _ z=>z) ⟨o,ho⟩) (I.hok.write mu (.inl rfl) (fun b u _ z=>z) ⟨o,ho⟩ ⟨ho,h1,h2,vs,kv,o,es,ep,ho,hc,hdat,r⟩),⟨es,ep,hdat⟩,fun ob' z=>by rw[e] at z;cases z⟩
 .obtain ⟨hg,_,_,vs,kv,o,es,ep,ho,hc,hdat,r⟩:=(show wY X.prog X.w H s.heap d (.frz ob (.dK l)) from I.hok d _ e);rw[hg] at ho;cases ho;exact ⟨ob,by rw[zkv e];exact I,⟨es,ep,hdat⟩,fun ob' z=>by rw[e] at z;cases z;rfl⟩
theorem zmH {tg:Expr} {R:It->Hp->Prop} {E:Value->Shared->Prop} (I:Inv X pins σ H s) (e:Rd H d (.dK l)) (q:∀ ob,(∀ ob',H d=some (.frz ob' (.dK l))->ob'=ob)->R (Itd d ob l) (xM H d (.frz ob (.dK l)))):wpAny 'f' X.A (pyIter (.ref d)) (PIE X pins σ tg R) E s:=by
 have hs:(d==sysModules)=false:=(bB I.hok e).2.1;obtain ⟨ob,J,⟨es,ep,hd⟩,same⟩:=zms I e;obtain ⟨vs,kv,da,lv⟩:=zh8 J wC hd;refine wpAny_pyIter_dict hs da ?_;refine ⟨s.heap.objs.size,[s.heap.objs.size],_,_,_,rfl,J.kept (t':=s.toks) fun b o e=>Zc _ e,zgw _,⟨ep,es,hd,⟨_,Zq _ rfl,rfl,by rw[lv];rfl⟩⟩,fun b hb=>?_,q ob same⟩;cases zzO hb;exact J.fpOk (zzR _) (J.hok.fresh (zzR _))
end
end L2
namespace L3
open PySem PySem.Spec PyProof.Rows L2 PySem.SeqAt
structure Par where
 prog:Program
 w:World
 K:yI
 mg:Str->Option Value
 base:Heap
 A:Around
structure Fits (p:Par) (X:Cx):Prop where
 prog:X.prog=p.prog
 w:X.w=p.w
 K:X.K=p.K
 mg:X.mg=p.mg
 base:X.base=p.base
 A:X.A=p.A
 calm:X.calm=true
 xe:X.xe=fun _ _=>False
structure ItIs (K:yI) (J:It) (H1:Hp) (ws:List W) (stab:Hw->Prop):Prop where
 go:∀ i H G,yB K H1 H->xE K H G->stab G->i<ws.length->J.go i H
 yld:∀ i H G x H',yB K H1 H->xE K H G->stab G->i<ws.length->J.yld i H x H'->∃ w,ws[i]?=some w/\yB K H H'/\wM K H' w x/\xE K H' G
 stop:∀ i H G,yB K H1 H->xE K H G->stab G->ws.length<=i->J.stop i H
def lowI (K:yI) (t:I3):TI:=fun τ H R=>∃ σ G,xY K H σ τ/\xE K H G/\t σ G fun ws stab G1=>∀ J H1,yB K H H1->xE K H1 G1->ItIs K J H1 ws stab->R J H1
def zgm (X:Cx):List Expr->List E3->Prop
 | [],[]=>True
 |x::xs,e::es=>jH e/\PE X x (wO X.K e)/\zgm X xs es
 |_,_=>False
structure Good (Γ:Ctx3) (p:Par):Prop where
 mono:TabMono Γ
 un:p.A.units+200<cLine
 fn:∀ f∈Γ.fn,∀ X,Fits p X->Gl X f.nm->∀ (args:List Expr) (t:A3) (q pos:Pos),rJ t->args.all wG=true->PA X args (fM X.K t)->(args=[]->∀ σ G Q,t σ G Q->Q [] G)->(f.nm==("__debug__" : Str))=false->f.nm ≠ "__name__" ->
  PE X (.Call (.Name f.nm q) args [] pos) (wO X.K fun σ G Q=>t σ G fun ws G1=>f.sp ws G1 Q XN)
 gl:∀ g∈Γ.gl,∀ X,Fits p X->Gl X g.1->∀ q:Pos,(g.1==("__debug__" : Str))=false->g.1 ≠ "__name__" -> PE X (.Name g.1 q) (wO X.K fun _ G Q=>Q g.2 G)
 mt:∀ m∈Γ.mt,∀ X,Fits p X->∀ (o:Expr) (args:List Expr) (to:E3) (t:A3) (apos cpos:Pos),jH to->rJ t->ziE o=true->(apos.endLine==cpos.line)=true->args.length<25->args.all wG=true ->
  PE X o (wO X.K to)->PA X args (fM X.K t)->(args=[]->∀ σ G Q,t σ G Q->Q [] G)->PE X (.Call (.Attribute o m.nm apos) args [] cpos) (wO X.K fun σ G Q=>to σ G fun x G1=>tyW G1 x m.T/\t σ G1 fun ws G2=>m.sp x ws G2 Q)
 it:∀ i∈Γ.it,∀ X,Fits p X->Gl X i.nm->∀ (tg:Expr) (args:List Expr) (t:A3) (q pos:Pos),rJ t->args.all wG=true->PA X args (fM X.K t)->(args=[]->∀ σ G Q,t σ G Q->Q [] G)->(i.nm==("__debug__" : Str))=false->i.nm ≠ "__name__" ->
  PI X tg (.Call (.Name i.nm q) args [] pos) (lowI X.K fun σ G R=>t σ G fun ws G1=>i.sp ws G1 R)
 cl:∀ c∈Γ.cl,Cls p.K c.1/\∀ f∈c.2,rP p.K c.1 f
 sx:∀ k∈Γ.sx,∀ X,Fits p X->∀ (e:Expr) (xs:List Expr) (es:List E3),k.m X.env.scope e=some xs->zgm X xs es->xs.all wG=true->PA X xs (fM X.K (seqA es)) ->
  PE X e (wO X.K fun σ G Q=>seqA es σ G fun ws G1=>k.sp ws G1 Q)/\(∀ whole,isTrue e X.env whole=(do let v ← whole;standAt e.pos;holding [v] (truthy v)))/\∀ op vs pos,e≠.BoolOp op vs pos
 ix:∀ k∈Γ.ix,∀ X,Fits p X->∀ (tg e:Expr) (xs:List Expr) (es:List E3),k.m X.env.scope e=some xs->zgm X xs es->xs.all wG=true->PA X xs (fM X.K (seqA es)) ->
  PI X tg e (lowI X.K fun σ G R=>seqA es σ G fun ws G1=>k.sp ws G1 R)
structure Lk (Γ:Ctx3) (M:MC) (p:Par) (X:Cx):Prop where
 fits:Fits p X
 N:X.N=M.N
 sc:X.env.scope=M.sc
 nd:M.N.Nodup
 own:∀ x,M.own x=true->X.fn x=true
 kind:M.sc.kind=.function
 fns:Γ.fn.map (·.nm)=M.fns
 gls:Γ.gl.map (·.1)=M.gls
 mts:Γ.mt.map (·.nm)=M.mts
 its:Γ.it.map (·.nm)=M.its
 sxs:Γ.sx.map (·.m)=M.sxm
 ixs:Γ.ix.map (·.m)=M.ixm
theorem uC {e:Expr} {es:List Expr} {env:Env} (h:wG e=true):starEach (e::es) env=(false,eval e env)::starEach es env:=by
 cases e<;>first|rfl|exact absurd h zzN
theorem gJ {o:Expr} {f:Str} {env:Env} {t:Sem Value} (h:ziE o=true):attributeBase o f env t=t:=by
 unfold attributeBase
 split
 .exact absurd h zzN
 .rfl
theorem zc7 {e:Expr} {env:Env} (h:zdW e=true):∀ x,foldedSetIterable e env x=pure x:=fun x=>by
 cases e<;>first|rfl|exact absurd h zzN
theorem ze9 {op:CmpOp} {e:Expr} (h:zdW e=true):behindInMarks op e=false:=by
 cases e<;>first|rfl|exact absurd h zzN
theorem zjt {e:Expr} (h:zbC e=true):ziM e:=fun o i=>by
 cases e<;>first|rfl|exact absurd h zzN
theorem tE {e:Expr} {t:Option Expr} {n:Nat} {env:Env} (h:cX e=true):swapsWith e t n env=pure false:=by
 cases e<;>first|rfl|exact absurd h zzN
theorem zmY {sc:Scope} {x:Str} (h:visB sc x=true):Vis sc x:=by
 unfold visB at h
 split at h
 .rename_i e;exact .inl e
 .rename_i e;exact .inr (.inl e)
 .rename_i e;exact .inr (.inr e)
 .exact absurd h zzN
theorem zf7 {X:Cx} {sc:Scope} {x:Str} (e:X.env.scope=sc) (h:gL sc x=true):Gl X x/\(x==("__debug__" : Str))=false/\x ≠ "__name__" := by
 unfold gL at h;simp only[Zp,Zar] at h;refine ⟨?_,h.1.2,fun z=>?_⟩
 .show X.env.scope.names.lookup x=_;rw[e];exact eq_of_beq h.1.1
 .subst z;have:=h.2;simp at this
theorem qK {α:Type} [BEq α] [LawfulBEq α] {a:Option α} {b:α} (h:(a==some b)=true):a=some b:=eq_of_beq h
theorem fP {α β:Type} {f:α->β} {l:List α} {i:Nat} {y:β} (h:(l.map f)[i]?=some y):∃ x,l[i]?=some x/\f x=y:=by
 rw[Zx] at h
 cases e:l[i]? with
 |none=>rw[e] at h;cases h
 |some x=>rw[e] at h;exact ⟨x,rfl,Zw h⟩
section
variable {X:Cx}
theorem ziX {K:yI} {e:E3} (m:jH e) {τ:L2.St} {H:Hp} {Q:Bool->Hp->Prop} (h:uE K (zS e) τ H Q):wO K e τ H (fun x H'=>∃ k,TruV K x H' k/\Q k H'):=by
 obtain ⟨σ,G,hs,ha,h⟩:=h;refine wI m hs ha h fun w G1 v H1 gr _ rp ab q=>?_
 split at q
 .rename_i b hb;exact ⟨b,zlg rp ab hb,q H1 gr ab⟩
 .exact q.elim
theorem pt_of {x:Expr} {e:E3} (m:jH e) (h:PE X x (wO X.K e)) (he:∀ whole,isTrue x X.env whole=(do let v ← whole;standAt x.pos;holding [v] (truthy v))):PT X x (uE X.K (zS e)) :=
 (zjl h he).imp fun σ H Q q=>ziX m q
theorem zmR {K:yI} {e:E3} (m:jH e) {τ:L2.St} {H:Hp} {Q:Bool->Hp->Prop} (h:uE K (zB e) τ H Q):wO K e τ H (fun x H'=>∃ k,x=.bl k/\Q k H'):=by
 obtain ⟨σ,G,hs,ha,h⟩:=h;refine wI m hs ha h fun w G1 v H1 gr _ rp ab q=>?_
 cases w with
 |bl b=>cases rp;exact ⟨b,rfl,q H1 gr ab⟩
 |_=>exact q.elim
theorem zeY {K:yI} {ea eb:E3} {r:R3} (ma:jH ea) (mb:jH eb) (mr:zdv r) {τ:L2.St} {H:Hp} {Q:VK} (h:wO K (fun σ G Q=>ea σ G fun x G1=>eb σ G1 fun y G2=>r x y G2 Q) τ H Q) :
  tOp (low2 K r) (wO K ea) (wO K eb) τ H Q:=by
 obtain ⟨σ,G,hs,ha,h⟩:=h;refine wI ma hs ha h fun x G1 v H1 g1 hs1 rx a1 h1=>?_;refine wI mb hs1 a1 h1 fun y G2 u H2 g2 hs2 ry a2 h2=>?_;exact ⟨x,y,G2,rx.mono g2,ry,a2,mr x y G2 _ _ (fun w G' q v' H' g'=>q v' H' ((g1.trans g2).trans g')) h2⟩
def Its (x:Str):It:=⟨fun i _=>i<x.cps.size,fun i H v H'=>H'=H/\∃ c,x.cps[i]?=some c/\v=.str ⟨#[c]⟩,fun i _=>x.cps.size<=i⟩
theorem ziW {P:Program} {w:World} {K:yI} {tg:Expr} (T:String) (hT:T = "str_ascii_iterator" \/ T = "str_iterator") (x:Str) (t:Tok) (it:Addr):Turn P w K tg (Its x) [it] it (fun i h=>h.IsStrIter it T x t i) where
 mem:=by simp
 obj:=fun i h st b hb=>by
  have e:b=it:=by simpa using hb
  subst e;obtain ⟨o,e,c,d⟩:=st;exact ⟨o,e,fun v z=>by rw[d] at z;cases z⟩
 keep:=fun i h h' st k=>let ⟨o,e,r⟩:=st;⟨o,k it 'g' o e,r⟩
 item:=by
  intro X hP hw hK hc i pins s σ H E I hf st hg;subst hP hw hK;obtain ⟨f0,f1,f2,f3,f4,f5⟩:=hf it 'g';have hi:i<x.cps.size:=hg;have hx:x.cps[i]?=some x.cps[i]:=by simp[hi]
  have fin:∀ h':Heap,h'.IsStrIter it T x t (i+1)->Heap.SameBut it s.heap h'->∃ u,some (Value.str ⟨#[x.cps[i]]⟩ s.toks)=some u /\
    wpAny 'f' X.A (letOwnedTupleGo tg (.ref it) u) (fun _ s2=>∃ v H',Inv X pins σ H' s2/\yR v u/\(Its x).yld i H v H'/\s2.heap.IsStrIter it T x t (i+1)/\∀ b∈[it],H' b=none) E { s with heap:=h',toks:=s.toks+1 }:=fun h' st' sb=>by
   have I1:Inv X pins σ H { s with heap:=h',toks:=s.toks+1 }:=I.turned (t':=s.toks+1) (fun b o hb e=>(sb.2 b hb).trans e) f0 f1 f3 f4 f5;obtain ⟨o,e,c,d⟩:=id st';exact ⟨_,rfl,zh4 (s:={ s with heap:=h',toks:=s.toks+1 }) e c d (by rcases hT with rfl|rfl<;>decide) ⟨.str ⟨#[x.cps[i]]⟩,H,I1,⟨_,rfl⟩,⟨rfl,_,hx,rfl⟩,st',fun b hb=>(hf b hb).1⟩⟩
  rcases hT with rfl|rfl
  .exact wpAny_pyNext_ascii_item st hx fin
  .exact wpAny_pyNext_wide_item st hx fin
 done:=by
  intro X hP hw hK hc i pins s σ H E I hf st hg;subst hP hw hK;obtain ⟨f0,f1,f2,f3,f4,f5⟩:=hf it 'g';have hx:x.cps[i]?=none:=by have h:x.cps.size<=i:=hg;simp[h]
  rcases hT with rfl|rfl
  .exact wpAny_pyNext_ascii_end (I.ok.hd hc) st hx fun h' eb=>⟨rfl,I.turned (t':=s.toks) (fun b o hb e=>eb b o hb e) f0 f1 f3 f4 f5⟩
  .exact wpAny_pyNext_wide_end (I.ok.hd hc) st hx fun h' eb=>⟨rfl,I.turned (t':=s.toks) (fun b o hb e=>eb b o hb e) f0 f1 f3 f4 f5⟩
 self:=fun _ _ _ _ _ st h=>by
  rcases hT with rfl|rfl
  .exact wpAny_pyIter_striter_ascii st h
  .exact wpAny_pyIter_striter_wide st h
theorem znG {tg l:Expr} {tl:TE} (hl:PE X l tl):PI X tg l (fun σ H R=>tl σ H fun x H1=>(∃ t,x=.str t/\R (Its t) H1)\/∃ a,x=.ref a/\(((∃ xs,dL X.K H1 a xs)/\R (Itl X.K a) H1)\/((∃ xs,gH X.K H1 a xs)/\R (Itt X.K a) H1)\/∃ l,Rd H1 a (.dK l)/\∀ ob,(∀ ob',H1 a=some (.frz ob' (.dK l))->ob'=ob)->R (Itd a ob l) (xM H1 a (.frz ob (.dK l))))):=by
 intro pins s σ H R I h;refine wQ (hl pins s σ H _ I h) fun v s1 ⟨x,H1,I1,r1,q1⟩=>?_;rcases q1 with ⟨tx,e,q⟩|q1
 .subst e;obtain ⟨tk,rfl⟩:=r1
  have fin:∀ T,(T = "str_ascii_iterator" \/ T = "str_iterator")->∀ o:Obj,o.isFreed=false->o.cls=.type T->o.data=.fields #[.str tx tk,.int 0 0]->PIE X pins σ tg R (.ref s1.heap.objs.size) { s1 with heap:=s1.heap.push o }   := fun T hT o hz hc hd=>by
   refine ⟨s1.heap.objs.size,[s1.heap.objs.size],_,_,H1,rfl,I1.kept (t':=s1.toks) fun b o e=>Zc _ e,ziW T hT tx tk _,⟨_,Zq _ hz,hc,hd⟩,fun b hb=>?_,q⟩;have e:b=s1.heap.objs.size:=by simpa using hb
   subst e;exact I1.fpOk (zzR _) (I1.hok.fresh (zzR _))
  cases hasc:tx.cps.all (· < 128)
  .exact wpAny_pyIter_wide hasc (fin _ (.inr rfl) _ rfl rfl rfl)
  .exact wpAny_pyIter_ascii hasc (fin _ (.inl rfl) _ rfl rfl rfl)
 obtain ⟨a,e,q1⟩:=q1;subst e;cases r1;rcases q1 with ⟨⟨xs,hq⟩,q⟩|⟨⟨xs,hq⟩,q⟩|⟨l,hq,q⟩
 rotate_left 2
 .exact zmH I1 hq q
 .obtain ⟨its,rv,p,hz⟩:=I1.list hq;refine Zbb p.isList ?_;refine ⟨s1.heap.objs.size,[s1.heap.objs.size],_,_,H1,rfl,I1.kept (t':=s1.toks) fun b o e=>Zc _ e,zgv a _,⟨_,Zq _ rfl,rfl,rfl⟩,fun b hb=>?_,q⟩;have e:b=s1.heap.objs.size:=by simpa using hb
  subst e;exact I1.fpOk (zzR _) (I1.hok.fresh (zzR _))
 .obtain ⟨its,rv,p,hz⟩:=I1.tuple hq;refine wpAny_pyIter_tuple (show s1.heap.IsTuple a its.toArray from p) ?_;refine ⟨s1.heap.objs.size,[s1.heap.objs.size],_,_,H1,rfl,I1.kept (t':=s1.toks) fun b o e=>Zc _ e,zfA a _,⟨_,Zq _ rfl,rfl,rfl⟩,fun b hb=>?_,q⟩;have e:b=s1.heap.objs.size:=by simpa using hb
  subst e;exact I1.fpOk (zzR _) (I1.hok.fresh (zzR _))
theorem zom {K:yI} {x:Str} {H1:Hp}:ItIs K (Its x) H1 (sgs x) (fun _=>True) where
 go:=fun i H G _ ab st hi=>by
  have h:i<(sgs x).length:=hi;show i<x.cps.size;simpa[sgs] using h
 yld:=fun i H G v H' _ ab st hi y=>by
  obtain ⟨rfl,c,e,rfl⟩:=y;refine ⟨.str ⟨#[c]⟩,?_,.refl,rfl,ab⟩;simp[sgs,e]
 stop:=fun i H G _ ab st hi=>by
  have h:(sgs x).length<=i:=hi;show x.cps.size<=i;simpa[sgs] using h
theorem zoo {K:yI} {a:Addr} {H1:Hp} {ws:List W}:ItIs K (Itl K a) H1 ws (fun G=>yG G a=some ws) where
 go:=fun i H G _ ab st hi=>by
  obtain ⟨vs,sq,rs⟩:=ab.seq st;have hl:=rs.length;obtain ⟨v,e⟩:∃ v,vs[i]?=some v:=⟨vs[i]''d',Zf _⟩;exact ⟨vs,v,sq,e⟩
 yld:=fun i H G x H' _ ab st hi y=>by
  obtain ⟨vs,sq,rs⟩:=ab.seq st;obtain ⟨e,y⟩:=y;subst e;obtain ⟨w,ew,rp⟩:=rs.get' (y vs sq);exact ⟨w,ew,.refl,rp,ab⟩
 stop:=fun i H G _ ab st hi=>by
  obtain ⟨vs,sq,rs⟩:=ab.seq st;exact ⟨vs,sq,by rw[rs.length];exact hi⟩
theorem zol {K:yI} {a:Addr} {H1:Hp} {ws:List W} {vs:List V} (sq:gH K H1 a vs) (rs:yU K H1 ws vs):ItIs K (Itt K a) H1 ws (fun _=>True) where
 go:=fun i H G g ab st hi=>by
  have hl:=rs.length;obtain ⟨v,e⟩:∃ v,vs[i]?=some v:=⟨vs[i]''d',Zf _⟩;exact ⟨vs,v,g.1 _ _ sq,e⟩
 yld:=fun i H G x H' g ab st hi y=>by
  obtain ⟨e,y⟩:=y;subst e;obtain ⟨w,ew,rp⟩:=(rs.mono g).get' (y vs (g.1 _ _ sq));exact ⟨w,ew,.refl,rp,ab⟩
 stop:=fun i H G g ab st hi=>⟨vs,g.1 _ _ sq,by rw[rs.length];exact hi⟩
theorem xE.rdD {K:yI} {H:Hp} {G:Hw} {p:Addr} {kvs:List (xS×W)} (ab:xE K H G) (e:zin G p=some kvs):∃ l,Rd H p (.dK l)/\yJ K H kvs l:=by
 unfold zin at e
 split at e
 .rename_i q;cases e;obtain ⟨u,e',l,rfl,r⟩:=ab p _ q;exact ⟨l,.inl e',r⟩
 .rename_i q;cases e;obtain ⟨u,e',ob,l,rfl,r⟩:=ab p _ q;exact ⟨l,.inr ⟨ob,e'⟩,r⟩
 .cases e
theorem xE.freeze {K:yI} {H:Hp} {G:Hw} {p:Addr} {kvs:List (xS×W)} {l:List (xS×V)} {ob:Obj} (ab:xE K H G) (e:zin G p=some kvs) (hl:Rd H p (.dK l)) (rk:yJ K H kvs l) :
  (∀ ob',H p=some (.frz ob' (.dK l))->ob'=ob)->yB K H (xM H p (.frz ob (.dK l)))/\xE K (xM H p (.frz ob (.dK l))) (put G p (.fzd kvs)):=by
 intro same;unfold zin at e
 split at e
 .rename_i q;cases e;have g:yB K H (xM H p (.frz ob (.dK l))):=ab.grow q;exact ⟨g,ab.chg q ⟨ob,l,rfl,rk.mono g⟩⟩
 .rename_i q;cases e;obtain ⟨u,e',ob2,l2,rfl,r⟩:=ab p _ q
  have hp:H p=some (.frz ob (.dK l)):=by
   rcases hl with h|⟨o,h⟩
   .rw[h] at e';cases e'
   .rw[h,same o h]
  rw[zkv hp];refine ⟨.refl,fun b o z=>?_⟩
  by_cases hb:b=p
  .subst hb;rw[zM] at z;cases z;exact ⟨_,hp,ob,l,rfl,rk⟩
  .rw[yO hb] at z;exact ab b o z
 .cases e
theorem yJ.keyAt {K:yI} {H:Hp} {κ:Type}:∀ {l:List (κ×W)} {l':List (κ×V)} {i:Nat} {p:κ×V},yJ K H l l'->l'[i]?=some p->∃ w,l[i]?=some (p.1,w)
 | [],_,i,p,h,e=>by rw[show _=[] from h] at e;simp at e
 | (k,w)::_,_,0,p,⟨v,t,e,h,r⟩,q=>by subst e;simp at q;subst q;exact ⟨w,rfl⟩
 |_::_,_,i+1,p,⟨v,t,e,h,r⟩,q=>by
  subst e;obtain ⟨w,h1⟩:=yJ.keyAt (i:=i) (p:=p) r (by simpa using q);exact ⟨w,by simpa using h1⟩
theorem zof {K:yI} {H:Hp} (k:xS):wM K H (kW k) (kV k):=by
 cases k<;>rfl
theorem zop {K:yI} {d:Addr} {ob:Obj} {l:List (xS×V)} {H1:Hp} {kvs:List (xS×W)} (e:H1 d=some (.frz ob (.dK l))) (rk:yJ K H1 kvs l):ItIs K (Itd d ob l) H1 (kvs.map fun kv=>kW kv.1) (fun G=>G d=some (.fzd kvs)) where
 go:=fun i H G g ab st hi=>⟨g.2 _ _ True.intro e,by rw[rk.length];simpa using hi⟩
 yld:=fun i H G x H' g ab st hi y=>by
  obtain ⟨e1,p,e2,e3⟩:=y;subst e1;subst e3;obtain ⟨w,ew⟩:=rk.keyAt e2;exact ⟨kW p.1,by rw[Zx,ew];rfl,.refl,zof _,ab⟩
 stop:=fun i H G g ab st hi=>⟨g.2 _ _ True.intro e,by rw[rk.length];simpa using hi⟩
theorem znH {tg x:Expr} {e:E3} (m:jH e) (h:PE X x (wO X.K e)):PI X tg x (lowI X.K fun σ G R=>e σ G fun w G1=>xH w G1 R):=by
 intro pins s σ H R I q;refine znG h pins s σ H R I ?_;obtain ⟨σ3,G,hs,ha,q⟩:=q;refine wI m hs ha q fun w G1 v H1 gr hs1 rp ab q=>?_
 cases w with
 |tup ws =>
  obtain ⟨a,vs,rfl,sq,rs⟩:=rp;exact .inr ⟨a,rfl,.inr (.inl ⟨⟨vs,sq⟩,q _ H1 gr ab (zol sq rs)⟩)⟩
 |ref p =>
  cases rp;simp only[xH] at q
  split at q
  .rename_i ws e;obtain ⟨vs,sq,rs⟩:=ab.seq e;exact .inr ⟨p,rfl,.inl ⟨⟨vs,sq⟩,q _ H1 gr ab zoo⟩⟩
  .split at q
   .rename_i kvs e;obtain ⟨l,hl,rk⟩:=ab.rdD e;refine .inr ⟨p,rfl,.inr (.inr ⟨l,hl,fun ob same=>?_⟩)⟩;obtain ⟨g2,a2⟩:=ab.freeze (ob:=ob) e hl rk same;exact q _ _ (gr.trans g2) a2 (zop (wC) (rk.mono g2))
   .exact q.elim
 |str t =>
  cases rp;exact .inl ⟨t,rfl,q _ H1 gr ab zom⟩
 |_=>exact q.elim
def lowG (K:yI) (t:G3):TG:=fun v τ H Q=>∃ w σ G,wM K H w v/\xY K H σ τ/\xE K H G/\t w σ G fun σ' G'=>∀ τ' H',yB K H H'->xY K H' σ' τ'->xE K H' G'->Q τ' H'
def lowGs (K:yI) (t:Gs3):TGs:=fun vs τ H Q=>∃ ws σ G,yU K H ws vs/\xY K H σ τ/\xE K H G/\t ws σ G fun σ' G'=>∀ τ' H',yB K H H'->xY K H' σ' τ'->xE K H' G'->Q τ' H'
theorem _root_.L2.PG.imp {tg:Expr} {t t':TG} (h:PG X tg t) (k:∀ v σ H Q,t' v σ H Q->t v σ H Q):PG X tg t':=fun pins s σ H v u Q I r q=>h pins s σ H v u Q I r (k v σ H Q q)
theorem _root_.L2.PGs.imp {tg:List Expr} {t t':TGs} (h:PGs X tg t) (k:∀ v σ H Q,t' v σ H Q->t v σ H Q):PGs X tg t':=fun pins s σ H v u Q I r q=>h pins s σ H v u Q I r (k v σ H Q q)
theorem zb1 {e:Expr} {es:List Expr} {env:Env} (h:wG e=true):assignEach (e::es) env=(false,assign e env)::assignEach es env:=by
 cases e<;>first|rfl|exact absurd h zzN
end
def MonoG (t:G3):Prop:=∀ w σ G (Q Q':qX->Hw->Prop),(∀ a b,Q a b->Q' a b)->t w σ G Q->t w σ G Q'
def zoT (t:Gs3):Prop:=∀ w σ G (Q Q':qX->Hw->Prop),(∀ a b,Q a b->Q' a b)->t w σ G Q->t w σ G Q'
mutual
theorem bU:∀ t:ITg,MonoG (zX t)
 | .nm i=>fun w σ G Q Q' k h=>k _ _ h
 | .tup ts=>fun w σ G Q Q' k h=>by
  cases w with
  |tup ws=>exact zcT ts ws σ G Q Q' k h
  |_=>exact h.elim
theorem zcT:∀ ts:ITgs,zoT (zZ ts)
 | .nil=>fun w σ G Q Q' k h=>by
  cases w with
  |nil=>exact k _ _ h
  |cons _ _=>exact h.elim
 | .cons t ts=>fun w σ G Q Q' k h=>by
  cases w with
  |nil=>exact h.elim
  |cons x r=>exact bU t x σ G _ _ (fun σ' G' h=>zcT ts r σ' G' Q Q' k h) h
end
theorem zfc {Γ:Ctx3} {M:MC} {p:Par} {X:Cx} (L:Lk Γ M p X) {x:Str} (h:locB M x=true):Loc X.env.scope x/\(X.fn x=true\/X.env.scope.names.lookup x=some .local):=by
 unfold locB at h;rw[L.sc]
 split at h
 .rename_i e;exact ⟨.inl e,.inr e⟩
 .rename_i e;exact ⟨.inr e,.inl (L.own x h)⟩
 .exact absurd h zzN
mutual
theorem sndG {Γ:Ctx3} {M:MC} {p:Par} {X:Cx} (L:Lk Γ M p X):∀ (t:ITg) (x:Expr),mG M t x=true->PG X x (lowG X.K (zX t))
  | .nm i,x,h=>by
   cases x with
   |Name y q =>
    replace h:=mH h;have lo:=zfc L h.2;refine (zdV (i:=i) (L.N▸L.nd) (by rw[L.N];exact qK h.1) lo.1 lo.2).imp fun v σ H Q q=>?_;obtain ⟨w,σ3,G,rp,hs,ab,q⟩:=q;exact q _ _ .refl (hs.set rp i) ab
   |_=>exact absurd h zzN
  | .tup ts,x,h=>by
   cases x with
   |Tuple es k q =>
    skip
    obtain ⟨ps,hn,hst⟩:=zlp L ts es h;refine (zkI (n:=es.length) L.fits.calm ps hn hst).imp fun v σ H Q q=>?_;obtain ⟨w,σ3,G,rp,hs,ab,q⟩:=q
    cases w with
    |tup ws =>
      obtain ⟨a,vs,rfl,sq,rs⟩:=rp;refine ⟨a,vs,rfl,sq,?_,ws,σ3,G,rs,hs,ab,q⟩;rw[rs.length];exact zjN ts es ws σ3 G _ h q
    |_=>exact q.elim
   |_=>exact absurd h zzN
theorem zlp {Γ:Ctx3} {M:MC} {p:Par} {X:Cx} (L:Lk Γ M p X):∀ (ts:ITgs) (xs:List Expr),mGs M ts xs=true->PGs X xs (lowGs X.K (zZ ts))/\(assignEach xs X.env).length=xs.length/\(assignEach xs X.env).findIdx? (·.1)=none
 | .nil,[],_=>⟨(zhi).imp fun vs σ H Q q=>by
   obtain ⟨ws,σ3,G,rs,hs,ab,q⟩:=q
   cases ws with
   |nil=>exact ⟨rs,q _ _ .refl hs ab⟩
   |cons _ _=>exact q.elim,rfl,rfl⟩
 | .cons t ts,x::xs,h=>by
  simp only[mGs,Zp] at h;obtain ⟨ps,hn,hst⟩:=zlp L ts xs h.2;have es:=zb1 (es:=xs) (env:=X.env) h.1.1;refine ⟨(zbx (sndG L t x h.1.2) ps (by rw[es];rfl)).imp fun vs σ H Q q=>?_,by rw[es,Ze,Ze,hn],?_⟩
  .obtain ⟨ws,σ3,G,rs,hs,ab,q⟩:=q
   cases ws with
   |nil=>exact q.elim
   |cons w r =>
    obtain ⟨v,vr,e,rp,rr⟩:=rs;refine ⟨v,vr,e,w,σ3,G,rp,hs,ab,bU t w σ3 G _ _ (fun σ' G' q τ' H' g' hs' ab'=>?_) q⟩;exact ⟨r,σ',G',rr.mono g',hs',ab',zcT ts r σ' G' _ _ (fun σ2 G2 q τ2 H2 g2=>q τ2 H2 (g'.trans g2)) q⟩
  .rw[es,List.findIdx?_cons];simp only[zzB,if_false,hst];rfl
theorem zjN {M:MC}:∀ (ts:ITgs) (xs:List Expr) (ws:List W) (σ:qX) (G:Hw) (Q:qX->Hw->Prop),mGs M ts xs=true->zZ ts ws σ G Q->ws.length=xs.length
 | .nil,[],ws,σ,G,Q,_,q=>by
  cases ws with
  |nil=>rfl
  |cons _ _=>exact q.elim
 | .cons t ts,x::xs,ws,σ,G,Q,h,q=>by
  simp only[mGs,Zp] at h
  cases ws with
  |nil=>exact q.elim
  |cons w r =>
   have:∃ σ' G',zZ ts r σ' G' Q:=exG t w σ G _ q;obtain ⟨σ',G',q'⟩:=this;rw[Ze,Ze,zjN ts xs r σ' G' Q h.2 q']
theorem exG:∀ (t:ITg) (w:W) (σ:qX) (G:Hw) (Q:qX->Hw->Prop),zX t w σ G Q->∃ σ' G',Q σ' G'
 | .nm i,w,σ,G,Q,q=>⟨_,_,q⟩
 | .tup ts,w,σ,G,Q,q=>by
  cases w with
  |tup ws=>exact exGs ts ws σ G Q q
  |_=>exact q.elim
theorem exGs:∀ (ts:ITgs) (ws:List W) (σ:qX) (G:Hw) (Q:qX->Hw->Prop),zZ ts ws σ G Q->∃ σ' G',Q σ' G'
 | .nil,ws,σ,G,Q,q=>by
  cases ws with
  |nil=>exact ⟨_,_,q⟩
  |cons _ _=>exact q.elim
 | .cons t ts,ws,σ,G,Q,q=>by
  cases ws with
  |nil=>exact q.elim
  |cons w r =>
   obtain ⟨σ',G',q'⟩:=exG t w σ G _ q;exact exGs ts r σ' G' Q q'
end
def lowO (K:yI) (t:qX->Hw->(Option Int->Hw->Prop)->Prop):TO:=fun τ H Q=>∃ σ G,xY K H σ τ/\xE K H G/\t σ G fun o G'=>∀ H',yB K H H'->xE K H' G'->Q o H'
theorem _root_.L2.PO.imp {X:Cx} {e:Option Expr} {t t':TO} (h:PO X e t) (k:∀ σ H Q,t' σ H Q->t σ H Q):PO X e t':=fun pins s σ H Q I q=>h pins s σ H Q I (k σ H Q q)
theorem _root_.L2.PTs.imp {X:Cx} {e:List Expr} {t t':TT} (h:PTs X e t) (k:∀ σ H Q,t' σ H Q->t σ H Q):PTs X e t':=fun pins s σ H Q I q=>h pins s σ H Q I (k σ H Q q)
theorem _root_.L2.PI.imp {X:Cx} {tg x:Expr} {t t':TI} (h:PI X tg x t) (k:∀ σ H R,t' σ H R->t σ H R):PI X tg x t':=fun pins s σ H R I q=>h pins s σ H R I (k σ H R q)
def capV (k:Nat) (caps:List Nat) (σ:L2.St):L2.St:=List.replicate k none++caps.map fun j=>(σ[j]?).join
theorem zeo {α:Type} {k:Nat} {caps:List Nat} {σ:List (Option α)} {i:Nat} {v:α} (h:(List.replicate k none++caps.map fun j=>(σ[j]?).join)[i]?=some (some v)):k<=i/\∃ j,caps[i-k]?=some j/\σ[j]?=some (some v):=by
 by_cases hi:i<k
 .rw[Z8 (by simpa using hi),Za2,if_pos hi] at h;cases h
 .rw[ZN (by simpa using hi),Zbf,Zx] at h;refine ⟨by omega,?_⟩
  cases e:caps[i-k]? with
  |none=>rw[e] at h;cases h
  |some j =>
   rw[e] at h;have h':(σ[j]?).join=some v:=Zw h;refine ⟨j,rfl,?_⟩
   cases q:σ[j]? with
   |none=>rw[q] at h';cases h'
   |some o=>rw[q] at h';exact congrArg some h'
theorem zmP {K:yI} {H:Hp} {σ:qX} {τ:L2.St} (h:xY K H σ τ) (k:Nat) (caps:List Nat):xY K H (nT k caps σ) (capV k caps τ):=by
 refine ⟨by simp[nT,capV],fun i w e=>?_⟩;obtain ⟨hk,j,ej,es⟩:=zeo e;obtain ⟨v,ev,rp⟩:=h.2 j w es;refine ⟨v,?_,rp⟩;unfold capV;rw[ZN (by simpa using hk),Zbf,Zx,ej];simp[ev]
theorem zeZ:∀ {l:List Str},zcM l=true->l.Nodup
 | [],_=>ZaR
 |x::r,h=>by
  simp only[zcM,Zp,Zar] at h;refine Zau.mpr ⟨fun hm=>?_,zeZ h.2⟩;have:=List.elem_eq_true_of_mem hm;rw[List.contains_eq_mem] at h;simp[hm] at h
theorem zlx {X:Cx} {sc out:Scope} (e:X.env.scope=out):relabel sc X.env=relS sc out:=by
 unfold relabel relS Env.kindOf;rw[e]
theorem zk9 {X:Cx} {sc out:Scope} (e:X.env.scope=out) (h:blkB out sc=true):BlkSc X sc:=by
 unfold blkB at h;simp only[Zp,ZaT] at h;obtain ⟨⟨⟨h1,h2⟩,h3⟩,h4⟩:=h;refine ⟨eq_of_beq h1,fun y hy=>?_,fun y hy=>?_,fun x hx=>?_,fun y hy z=>?_⟩
 .simpa using (h2 _ hy).1
 .simpa using (h2 _ hy).2
 .have:=h3 _ hx;simp only[beq_self_eq_true,ZA,ZD,Bool.or_eq_true,beq_iff_eq] at this;show X.env.scope.names.lookup x=_\/X.env.scope.names.lookup x=_;rw[e];exact this
 .have:=h4 y hy;rw[z] at this;simpa using this
theorem ziz {X:Cx} {M:MC} {sc:Scope} {names:List Str} {caps:List Nat} (eN:X.N=M.N) (es:X.env.scope=M.sc)
  (h:(caps.all fun j=>decide (j<M.N.length)&&(sc.names.lookup (M.N.getD j Str.empty)==some .free))=true) :
  Caps X sc (names++caps.map (fun j=>M.N.getD j Str.empty)) (capV names.length caps):=by
 intro σ hl;simp only[ZaT,Zp,decide_eq_true_eq,Zar] at h;refine ⟨by simp[capV],fun i x v hN hσ _=>?_⟩;obtain ⟨hk,j,ej,e⟩:=zeo hσ;rw[ZN hk,Zx,ej] at hN;have hx:M.N.getD j Str.empty=x:=Zw hN;have hj:=h j (Zo ej);refine ⟨?_,j,?_,e⟩
 .rw[← hx];exact eq_of_beq hj.2
 .rw[eN,← hx,Z1,Zf hj.1];rfl
theorem zn6 {K:yI} {J:It} {H1:Hp} {items:List W} {stab:Hw->Prop} {G1:Hw} {σ:qX} {τ:L2.St} {tg:ITg} {c:T3} {e:E3} {Q:VK} {H0:Hp} (mc:nR c) (me:jH e) (it:ItIs K J H1 items stab) (ab:xE K H1 G1) (hs:xY K H1 σ τ) (g0:yB K H0 H1)
  (hw:∀ w G' (Q:qX->Hw->Prop),zX tg w σ G' Q->zX tg w σ G' fun σ2 G2=>(σ2.length=σ.length/\∀ (i:Nat) (v:W),σ[i]?=some (some v)->σ2[i]?=some (some v))/\Q σ2 G2)
  (h:lcR items stab G1 (fun w G' K=>zX tg w σ G' fun σ2 G2=>c σ2 G2 fun b G3=>if b=true then e σ2 G3 fun x G4=>K (some x) G4 else K none G3) (sG K H0 Q)) :
  tLCb J τ (lowG K (zX tg)) (uE K c) (fun τ H Q=>yB K H0 H/\wO K e τ H Q) (fun acc H'=>∀ p,H' p=none->Q (.ref p) (xM H' p (.lst acc))) H1:=by
 obtain ⟨Pv,p0,pst,hlen,step,fin⟩:=h;refine ⟨fun i m τ acc H=>m+i=items.length/\yB K H1 H/\xY K H σ τ/\∃ ws G,yU K H ws acc/\xE K H G/\Pv i ws G,⟨items.length,rfl,.refl,hs,[],G1,rfl,ab,p0⟩,?_⟩;rintro i m τ acc H ⟨hm,gr,hs,ws,G,rs,a,pv⟩;have hst:=pst i ws G pv 'd';have hacc:acc.length=ws.length:=rs.length
 by_cases hi:i<items.length
 .refine .inr ⟨it.go i H G gr a hst.1 hi,by omega,fun x H' y=>?_⟩;obtain ⟨w,ew,g1,rp,a1⟩:=it.yld i H G x H' gr a hst.1 hi y;refine ⟨w,σ,G,rp,hs.mono g1,a1,bU tg w σ G _ _ (fun σ2 G2 q τ2 H2 g2 hs2 a2=>?_) (hw w G _ (step i w ws G ew pv))⟩;obtain ⟨⟨wl,wk⟩,q⟩:=q;have back:∀ {τ':L2.St} {H':Hp},xY K H' σ2 τ'->xY K H' σ τ':=fun {τ' H'} r=>⟨by rw[← wl];exact r.1,fun k w e=>r.2 k w (wk k w e)⟩;refine zep mc hs2 a2 q fun b G3 H3 g3 hs3 a3 q3=>?_
  cases b with
  |true =>
   rw[if_pos rfl] at q3 ⊢;refine ⟨g0.trans (gr.trans (g1.trans (g2.trans g3))),wI me hs3 a3 q3 fun x G4 v H4 g4 hs4 rx a4 q4=>?_⟩;refine ⟨m-1,by omega,by omega,gr.trans (g1.trans (g2.trans (g3.trans g4))),back hs4,ws++[x],G4,?_,a4,q4⟩;exact (rs.mono (g1.trans (g2.trans (g3.trans g4)))).append ⟨v,[],rfl,rx,rfl⟩
  |false =>
   rw[if_neg 'c'] at q3 ⊢;exact ⟨m-1,by omega,by omega,gr.trans (g1.trans (g2.trans g3)),back hs3,ws,G3,rs.mono (g1.trans (g2.trans g3)),a3,q3⟩
 .refine .inl ⟨it.stop i H G gr a hst.1 'd',fun p hp=>?_⟩;have ei:i=items.length:=by omega
  subst ei;exact fin ws G pv p (a.free hp) _ _ ((g0.trans gr).trans (wT hp)) rfl (a.new hp ⟨acc,rfl,rs.mono (wT hp)⟩)
theorem zgT:∀ (tg:ITg) (w:W) (σ:qX) (G:Hw) (Q:qX->Hw->Prop),zX tg w σ G Q->zX tg w σ G fun σ2 G2=>σ2.length=σ.length/\Q σ2 G2:=by
 intro tg
 refine ITg.rec (motive_1:=fun _=>True) (motive_2:=fun _=>True) (motive_3:=fun _=>True) (motive_4:=fun _=>True) (motive_5:=fun tg=>∀ (w:W) (σ:qX) (G:Hw) (Q:qX->Hw->Prop),zX tg w σ G Q->zX tg w σ G fun σ2 G2=>σ2.length=σ.length/\Q σ2 G2)
  (motive_6:=fun ts=>∀ (ws:List W) (σ:qX) (G:Hw) (Q:qX->Hw->Prop),zZ ts ws σ G Q->zZ ts ws σ G fun σ2 G2=>σ2.length=σ.length/\Q σ2 G2)
  ?_ ?_ ?_ ?_ ?_ ?_ ?_ ?_ ?_ ?_ ?_ ?_ ?_ ?_ ?_ ?_ ?_ ?_ ?_ ?_ ?_ ?_ ?_ ?_ ?_ ?_ ?_ ?_ ?_ ?nm ?tup ?nil ?cons tg
 case nm=>exact fun i w σ G Q h=>⟨by simp,h⟩
 case tup =>
  intro ts ih w σ G Q h
  cases w with
  |tup ws=>exact ih ws σ G Q h
  |_=>exact h.elim
 case nil =>
  intro ws σ G Q h
  cases ws with
  |nil=>exact ⟨rfl,h⟩
  |cons _ _=>exact h.elim
 case cons =>
  intro t ts ht hts ws σ G Q h
  cases ws with
  |nil=>exact h.elim
  |cons w r =>
   refine bU t w σ G _ _ (fun σ' G' q=>?_) (ht w σ G _ h);exact zcT ts r σ' G' _ _ (fun σ2 G2 q2=>⟨q2.1.trans q.1,q2.2⟩) (hts r σ' G' Q q.2)
 all_goals intros;trivial
mutual
theorem zeQ:∀ (tg:ITg) (w:W) (σ:qX) (G:Hw) (Q:qX->Hw->Prop),zX tg w σ G Q->zX tg w σ G fun σ2 G2=>(∀ i,i∉tgIx tg->σ2[i]?=σ[i]?)/\Q σ2 G2
 | .nm j,w,σ,G,Q,h=>⟨fun i hi=>by rw[Zbn];intro z;exact hi (by simp[tgIx,z]),h⟩
 | .tup ts,w,σ,G,Q,h=>by
  cases w with
  |tup ws=>exact zcm ts ws σ G Q h
  |_=>exact h.elim
theorem zcm:∀ (ts:ITgs) (ws:List W) (σ:qX) (G:Hw) (Q:qX->Hw->Prop),zZ ts ws σ G Q->zZ ts ws σ G fun σ2 G2=>(∀ i,i∉zi0 ts->σ2[i]?=σ[i]?)/\Q σ2 G2
 | .nil,ws,σ,G,Q,h=>by
  cases ws with
  |nil=>exact ⟨fun _ _=>rfl,h⟩
  |cons _ _=>exact h.elim
 | .cons t ts,ws,σ,G,Q,h=>by
  cases ws with
  |nil=>exact h.elim
  |cons w r =>
   refine bU t w σ G _ _ (fun σ' G' q=>?_) (zeQ t w σ G _ h);refine zcT ts r σ' G' _ _ (fun σ2 G2 q2=>⟨fun i hi=>?_,q2.2⟩) (zcm ts r σ' G' Q q.2);simp only[zi0,Zm,not_or] at hi;rw[q2.1 i hi.2,q.1 i hi.1]
end
theorem zio {K:yI} {H:Hp}:∀ (ks:List Str) {ws:List W} {vs:List V} {a:List (xS×W)} {b:List (xS×V)},yU K H ws vs->yJ K H a b ->
  yJ K H ((ks.zip ws).foldl (fun acc kv=>dput acc (.inr kv.1) kv.2) a) (((ks.zip vs).map fun kv=>((Sum.inr kv.1:xS),kv.2)).foldl (fun acc kv=>rH acc kv.1 kv.2) b)
 | [],ws,vs,a,b,_,h=>by simpa using h
 |k::ks,[],vs,a,b,hr,h=>by rw[show vs=[] from hr];simpa using h
 |k::ks,w::ws,vs,a,b,hr,h=>by
  obtain ⟨v,r,e,rw',rr⟩:=hr;subst e;simp only[Zaa,List.foldl_cons,zzU];exact zio ks rr (h.put rw')
theorem zaW {K:yI} {H:Hp} {f:Str} {w:W}:∀ {l:List (Str×W)} {l':List (Str×V)},yJ K H l l'->l.lookup f=some w->∃ v,l'.lookup f=some v/\wM K H w v
 | [],_,h,e=>by cases e
 |p::r,_,⟨v,t,e,h,hr⟩,q=>by
  subst e;obtain ⟨n,u⟩:=p;rw[Zy] at q ⊢
  cases hx:f==n with
  |true=>rw[hx] at q;cases q;exact ⟨v,rfl,h⟩
  |false=>rw[hx] at q;exact zaW hr q
theorem zky {K:yI} {H:Hp} {G:Hw} {w:W} {v:V} {T:String} (r:wM K H w v) (ab:xE K H G) (h:tyW G w T):tyV K T v H:=by
 cases w with
 |str x=>cases r;exact h
 |ref p =>
  cases r;simp only[tyW] at h
  split at h
  .rename_i ws e;obtain ⟨vs,q,_⟩:=ab.lst e;exact .inl ⟨h,vs,.of q⟩
  .rename_i ws e;obtain ⟨vs,q,_⟩:=ab.seq (a:=p) (ws:=ws) (by unfold yG;rw[e]);exact .inl ⟨h,vs,q⟩
  .rename_i kvs e;obtain ⟨l,q,_⟩:=ab.dic e;exact .inr (.inr (.inl ⟨h,.inl ⟨l,q⟩⟩))
  .exact h.elim
 |_=>exact h.elim
theorem zl0 {l:List Nat} {k:Nat} (h:l.all (fun i=>decide (i<k))=true) {i:Nat} (hi:k<=i):i∉l:=fun hm=>by
 have:=ZaT.mp h i hm;simp at this;omega
theorem zmk {op:CmpOp} {a b:IE} {M:MC} {l:Expr} {os:List CmpOp} {rs:List Expr} {q:Pos} (h:mE (.cmp op a b) M (.Compare l os rs q)=true):∃ o r,os=[o]/\rs=[r]:=by
 cases os with
 |nil=>exact absurd h zzN
 |cons o os =>
  cases os with
  |cons _ _=>exact absurd h zzN
  |nil =>
   cases rs with
   |nil=>exact absurd h zzN
   |cons r rs =>
    cases rs with
    |cons _ _=>exact absurd h zzN
    |nil=>exact ⟨o,r,rfl,rfl⟩
section
variable {X:Cx} {a b c d:Expr} {pos:Pos} {ta tb tc td:TE}
end
section
variable {Γ:Ctx3} {p:Par} (g:Good Γ p)
def kP (Γ:Ctx3) (p:Par) (e:IE):Prop:=∀ M X x,Lk Γ M p X->mE e M x=true->PE X x (wO X.K (zH Γ XN e).e)/\PT X x (uE X.K (zH Γ XN e).t)/\∀ op vs pos,x=.BoolOp op vs pos->PW X x (uE X.K (zH Γ XN e).t)
def OkO (Γ:Ctx3) (p:Par) (o:IO):Prop:=∀ M X,Lk Γ M p X->(∀ x,mO o M x=true->PO X x (lowO X.K (zR Γ XN o)))/\∀ xs,mC o M xs=true->PTs X xs (uE X.K (zV Γ o))
def OkA (Γ:Ctx3) (p:Par) (es:IEs):Prop:=∀ M X xs,Lk Γ M p X->mA es M xs=true->PA X xs (fM X.K (zW Γ XN es))/\xs.all wG=true /\
 (∀ ks keys pos,keyB ks keys=true->keys.length=xs.length->keys.all (·.isSome)=true/\ks.length=keys.length/\∃ trs,PPs X pos keys xs trs/\∀ τ H (Q:List (V×V)->Hp->Prop),
  (∃ σ G,xY X.K H σ τ/\xE X.K H G/\zW Γ XN es σ G fun ws G'=>∀ vs H',yB X.K H H'->yU X.K H' ws vs->xE X.K H' G'->Q ((ks.zip vs).map fun kv=>(V.str kv.1,kv.2)) H')->zeH trs τ H Q)/\zgm X xs (semL Γ es)
def OkI (Γ:Ctx3) (p:Par) (it:II):Prop:=∀ M X x,Lk Γ M p X->mI it M x=true->∀ tg,PI X tg x (lowI X.K (zY Γ XN it))
theorem qY {M:MC} {X:Cx} {x:Expr} {e:E3} (m:jH e) (h:PE X x (wO X.K e)) (he:∀ whole,isTrue x X.env whole=(do let v ← whole;standAt x.pos;holding [v] (truthy v))) (hb:∀ op vs pos,x≠.BoolOp op vs pos) :
  PE X x (wO X.K (zF e).e)/\PT X x (uE X.K (zF e).t)/\∀ op vs pos,x=.BoolOp op vs pos->PW X x (uE X.K (zF e).t) :=
 ⟨h,pt_of m h he,fun op vs pos z=>absurd z (hb op vs pos)⟩
include g
theorem s_var (i:Nat):kP Γ p (.var i):=by
 intro M X x L h
 cases x with
 |Name y q =>
  replace h:=bd4 h;simp only[Zar] at h;refine qY (M:=M) (yN g.mono XN (.var i)) ((znI (i:=i) (by rw[L.N];exact qK h.1.1.1) (by rw[L.sc];exact zmY h.1.1.2) h.1.2 h.2).imp fun τ H Q q=>?_) (fun _=>rfl) (fun _ _ _ z=>nomatch z);obtain ⟨σ,G,hs,ab,q⟩:=q
  split at q
  .rename_i w e;obtain ⟨v,ev,rp⟩:=hs.2 i w e;exact ⟨v,ev,q v H .refl rp ab⟩
  .exact q.elim
 |_=>exact absurd h zzN
theorem s_con (c:Const):kP Γ p (.con c):=by
 intro M X x L h
 cases x with
 |Constant d k q =>
  replace h:=of_decide_eq_true h;subst h;refine qY (M:=M) (yN g.mono XN (.con c)) ?_ (fun _=>rfl) (fun _ _ _ z=>nomatch z)
  cases c with
  |none=>exact znN.imp fun τ H Q q=>by obtain ⟨σ,G,hs,ab,q⟩:=q;exact q _ H .refl rfl ab
  |bool b=>exact pe_bl.imp fun τ H Q q=>by obtain ⟨σ,G,hs,ab,q⟩:=q;exact q _ H .refl rfl ab
  |int b=>exact zkL.imp fun τ H Q q=>by obtain ⟨σ,G,hs,ab,q⟩:=q;exact q _ H .refl rfl ab
  |str b=>exact zkJ.imp fun τ H Q q=>by obtain ⟨σ,G,hs,ab,q⟩:=q;exact q _ H .refl rfl ab
  |_=>exact fun pins s σ H Q I q=>by obtain ⟨σ,G,hs,ab,q⟩:=q;exact q.elim
 |_=>exact absurd h zzN
theorem s_glb (i:Nat):kP Γ p (.glb i):=by
 intro M X x L h
 cases x with
 |Name y q =>
  replace h:=mH h;have gl:=zf7 L.sc h.2;have hi:=qK h.1;rw[← L.gls] at hi;obtain ⟨e,ei,rfl⟩:=fP hi;refine qY (M:=M) (yN g.mono XN (.glb i)) ((g.gl e (jE ei) X L.fits gl.1 q gl.2.1 gl.2.2).imp fun τ H Q q=>?_) (fun _=>rfl) (fun _ _ _ z=>nomatch z);obtain ⟨σ,G,hs,ab,q⟩:=q;simp only[ei] at q;exact ⟨σ,G,hs,ab,q⟩
 |_=>exact absurd h zzN
theorem hu_X {M:MC} {X:Cx} (L:Lk Γ M p X):X.A.units+200<cLine:=by rw[L.fits.A];exact g.un
theorem s_bin (op:Operator) (a b:IE) (ha:kP Γ p a) (hb:kP Γ p b):kP Γ p (.bin op a b):=by
 intro M X x L h
 cases x with
 |BinOp l o r q =>
  replace h:=bd3 h;simp only[decide_eq_true_eq] at h;obtain ⟨⟨rfl,h1⟩,h2⟩:=h;exact qY (M:=M) (yN g.mono XN (.bin op a b)) ((pe_op (zoK op) (ha M X l L h1).1 (hb M X r L h2).1).imp fun τ H Q q=>zeY (yN g.mono XN a) (yN g.mono XN b) (zdq op) q) (fun _=>rfl) (fun _ _ _ z=>nomatch z)
 |_=>exact absurd h zzN
theorem s_neg (a:IE) (ha:kP Γ p a):kP Γ p (.neg a):=by
 intro M X x L h
 cases x with
 |UnaryOp o l q =>
  cases o with
  |USub =>
   skip
   refine qY (M:=M) (yN g.mono XN (.neg a)) ((znJ zkx (ha M X l L h).1).imp fun τ H Q q=>?_) (fun _=>rfl) (fun _ _ _ z=>nomatch z);obtain ⟨σ,G,hs,ab,q⟩:=q;refine wI (yN g.mono XN a) hs ab q fun w G1 v H1 gr _ rp ab q=>?_
   cases w with
   |int i=>cases rp;exact ⟨i,rfl,q _ H1 gr rfl ab⟩
   |_=>exact q.elim
  |_=>exact absurd h zzN
 |_=>exact absurd h zzN
theorem s_not (a:IE) (ha:kP Γ p a):kP Γ p (.not a):=by
 intro M X x L h
 cases x with
 |UnaryOp o l q =>
  cases o with
  |Not =>
   skip
   refine ⟨(znM (ha M X l L h).1).imp fun τ H Q q=>?_,(znB (ha M X l L h).2.1).imp fun τ H Q q=>?_,fun _ _ _ z=>nomatch z⟩
   .obtain ⟨σ,G,hs,ab,q⟩:=q;refine wI (yN g.mono XN a) hs ab q fun w G1 v H1 gr _ rp ab q=>?_
    cases w with
    |bl i=>cases rp;exact ⟨i,rfl,q _ H1 gr rfl ab⟩
    |_=>exact q.elim
   .obtain ⟨σ,G,hs,ab,q⟩:=q;exact zep (fQ g.mono XN a) hs ab q fun b G1 H1 gr _ ab q=>q H1 gr ab
  |_=>exact absurd h zzN
 |_=>exact absurd h zzN
theorem s_cmp (op:CmpOp) (a b:IE) (ha:kP Γ p a) (hb:kP Γ p b):kP Γ p (.cmp op a b):=by
 intro M X x L h
 cases x with
 |Compare l os rs q =>
   obtain ⟨o,r,rfl,rfl⟩:=zmk h;replace h:=bd4 h;simp only[decide_eq_true_eq] at h;obtain ⟨⟨⟨rfl,h1⟩,h2⟩,h3⟩:=h;have m:=yN g.mono XN (.cmp op a b)
   refine ⟨(zlP (zk7 (hu_X g L) op) (ha M X l L h1).1 (hb M X r L h2).1 (ze9 h3)).imp fun τ H Q q=>zeY (yN g.mono XN a) (yN g.mono XN b) (qW op) q,
    (zlC (zk7 (hu_X g L) op) (ha M X l L h1).1 (hb M X r L h2).1 (ze9 h3)).imp fun τ H Q q=>zeY (yN g.mono XN a) (yN g.mono XN b) (qW op) (zmR m q),fun _ _ _ z=>nomatch z⟩
 |_=>exact absurd h zzN
theorem s_chn (o1 o2:CmpOp) (a b c:IE) (ha:kP Γ p a) (hb:kP Γ p b) (hc:kP Γ p c):kP Γ p (.chn o1 o2 a b c):=fun M X x L h=>absurd h zzN
theorem s_ch3 (o1 o2 o3:CmpOp) (a b c d:IE) (ha:kP Γ p a) (hb:kP Γ p b) (hc:kP Γ p c) (hd:kP Γ p d):kP Γ p (.ch3 o1 o2 o3 a b c d):=fun M X x L h=>absurd h zzN
theorem s_and (a b:IE) (ha:kP Γ p a) (hb:kP Γ p b):kP Γ p (.and a b):=by
 intro M X x L h
 have e1:∀ τ H Q,wO X.K (zH Γ XN (.and a b)).e τ H Q->zne (wO X.K (zH Γ XN a).e) (wO X.K (zH Γ XN b).e) τ H Q:=fun τ H Q q=>by
  obtain ⟨σ,G,hs,ab,q⟩:=q;refine wI (yN g.mono XN a) hs ab q fun w G1 v H1 g1 hs1 rx a1 q=>?_
  cases w with
  |bl k =>
   cases rx;refine ⟨k,rfl,?_⟩;have q:if k=true then _ else _:=q
   split
   .rename_i hk;rw[if_pos hk] at q;exact ⟨σ,G1,hs1,a1,yN g.mono XN b σ G1 _ _ (fun w G' q v' H' g'=>q v' H' (g1.trans g')) q⟩
   .rename_i hk;rw[if_neg hk] at q;exact q _ H1 g1 rfl a1
  |_=>exact q.elim
 have e2:∀ τ H Q,uE X.K (zH Γ XN (.and a b)).t τ H Q->tAnd (uE X.K (zH Γ XN a).t) (uE X.K (zH Γ XN b).t) τ H Q:=fun τ H Q q=>by
  obtain ⟨σ,G,hs,ab,q⟩:=q;refine zep (fQ g.mono XN a) hs ab q fun k G1 H1 g1 hs1 a1 q=>?_
  split
  .rename_i hk;rw[if_pos hk] at q;exact ⟨σ,G1,hs1,a1,fQ g.mono XN b σ G1 _ _ (fun w G' q H' g'=>q H' (g1.trans g')) q⟩
  .rename_i hk;rw[if_neg hk] at q;exact q H1 g1 a1
 cases x with
 |BoolOp o vs q =>
  match o,vs,h with
  | .And,[l,r],h =>
   replace h:=mH h;have A:=ha M X l L h.1;have B:=hb M X r L h.2;have W2:PW X (.BoolOp .And [l,r] q) (uE X.K (zH Γ XN (.and a b)).t):=(zkE A.2.1 (zlz B.2.1)).imp e2;exact ⟨(zkM A.1 (zkK B.1)).imp e1,W2.pt,fun _ _ _ _=>W2⟩
  | .And,l::r::q'::rest,h =>
   replace h:=mH h;have A:=ha M X l L h.1;have B:=hb M X _ L h.2;have W2:PW X (.BoolOp .And (l::r::q'::rest) q) (uE X.K (zH Γ XN (.and a b)).t):=(zkE A.2.1 (B.2.2 _ _ _ rfl)).imp e2;exact ⟨(zkM A.1 B.1).imp e1,W2.pt,fun _ _ _ _=>W2⟩
 |_=>exact absurd h zzN
theorem s_or (a b:IE) (ha:kP Γ p a) (hb:kP Γ p b):kP Γ p (.or a b):=by
 intro M X x L h
 have e1:∀ τ H Q,wO X.K (zH Γ XN (.or a b)).e τ H Q->tOrV (wO X.K (zH Γ XN a).e) (wO X.K (zH Γ XN b).e) τ H Q:=fun τ H Q q=>by
  obtain ⟨σ,G,hs,ab,q⟩:=q;refine wI (yN g.mono XN a) hs ab q fun w G1 v H1 g1 hs1 rx a1 q=>?_
  cases w with
  |bl k =>
   cases rx;refine ⟨k,rfl,?_⟩;have q:if k=true then _ else _:=q
   split
   .rename_i hk;rw[if_pos hk] at q;exact q _ H1 g1 rfl a1
   .rename_i hk;rw[if_neg hk] at q;exact ⟨σ,G1,hs1,a1,yN g.mono XN b σ G1 _ _ (fun w G' q v' H' g'=>q v' H' (g1.trans g')) q⟩
  |_=>exact q.elim
 have e2:∀ τ H Q,uE X.K (zH Γ XN (.or a b)).t τ H Q->tOr (uE X.K (zH Γ XN a).t) (uE X.K (zH Γ XN b).t) τ H Q:=fun τ H Q q=>by
  obtain ⟨σ,G,hs,ab,q⟩:=q;refine zep (fQ g.mono XN a) hs ab q fun k G1 H1 g1 hs1 a1 q=>?_
  split
  .rename_i hk;rw[if_pos hk] at q;exact q H1 g1 a1
  .rename_i hk;rw[if_neg hk] at q;exact ⟨σ,G1,hs1,a1,fQ g.mono XN b σ G1 _ _ (fun w G' q H' g'=>q H' (g1.trans g')) q⟩
 cases x with
 |BoolOp o vs q =>
  match o,vs,h with
  | .Or,[l,r],h =>
   replace h:=mH h;have A:=ha M X l L h.1;have B:=hb M X r L h.2;have W2:PW X (.BoolOp .Or [l,r] q) (uE X.K (zH Γ XN (.or a b)).t):=(znz A.2.1 (zny B.2.1)).imp e2;exact ⟨(znL A.1 (zkK B.1)).imp e1,W2.pt,fun _ _ _ _=>W2⟩
  | .Or,l::r::q'::rest,h =>
   replace h:=mH h;have A:=ha M X l L h.1;have B:=hb M X _ L h.2;have W2:PW X (.BoolOp .Or (l::r::q'::rest) q) (uE X.K (zH Γ XN (.or a b)).t):=(znz A.2.1 (B.2.2 _ _ _ rfl)).imp e2;exact ⟨(znL A.1 B.1).imp e1,W2.pt,fun _ _ _ _=>W2⟩
 |_=>exact absurd h zzN
theorem s_ite (c a b:IE) (hc:kP Γ p c) (ha:kP Γ p a) (hb:kP Γ p b):kP Γ p (.ite c a b):=by
 intro M X x L h
 cases x with
 |IfExp t l r q =>
  replace h:=bd3 h;refine ⟨(zjz (hc M X t L h.1.1).2.1 (ha M X l L h.1.2).1 (hb M X r L h.2).1).imp fun τ H Q q=>?_,fun _ _ _ _ _ _ q=>?_,fun _ _ _ z=>nomatch z⟩
  .obtain ⟨σ,G,hs,ab,q⟩:=q;refine zep (fQ g.mono XN c) hs ab q fun k G1 H1 g1 hs1 a1 q=>?_
   split
   .rename_i hk;rw[if_pos hk] at q;exact ⟨σ,G1,hs1,a1,yN g.mono XN a σ G1 _ _ (fun w G' q v' H' g'=>q v' H' (g1.trans g')) q⟩
   .rename_i hk;rw[if_neg hk] at q;exact ⟨σ,G1,hs1,a1,yN g.mono XN b σ G1 _ _ (fun w G' q v' H' g'=>q v' H' (g1.trans g')) q⟩
  .obtain ⟨_,_,_,_,z⟩:=q;exact z.elim
 |_=>exact absurd h zzN
theorem s_ix (a i:IE) (ha:kP Γ p a) (hb:kP Γ p i):kP Γ p (.ix a i):=by
 intro M X x L h
 cases x with
 |Subscript l r q =>
  replace h:=bd3 h;exact qY (M:=M) (yN g.mono XN (.ix a i)) ((pe_ix (ix_ok (hu_X g L)) (ha M X l L h.1.1).1 (hb M X r L h.1.2).1 (zjt h.2)).imp fun τ H Q q=>zeY (yN g.mono XN a) (yN g.mono XN i) zfe q) (fun _=>rfl) (fun _ _ _ z=>nomatch z)
 |_=>exact absurd h zzN
theorem s_sl (a:IE) (lo hi:IO) (ha:kP Γ p a) (hl:OkO Γ p lo) (hh:OkO Γ p hi):kP Γ p (.sl a lo hi):=by
  intro M X x L h
  cases x with
  |Subscript l r q =>
    cases r with
    |Slice y z sp q2 =>
     cases sp with
     |none =>
      replace h:=bd3 h;refine qY (M:=M) (yN g.mono XN (.sl a lo hi)) ((zjx sl_ok (ha M X l L h.1.1).1 ((hl M X L).1 y h.1.2) ((hh M X L).1 z h.2)).imp fun τ H Q q=>?_) (fun _=>rfl) (fun _ _ _ z=>nomatch z);obtain ⟨σ,G,hs,ab,q⟩:=q;refine wI (yN g.mono XN a) hs ab q fun w G1 v H1 g1 hs1 rx a1 q=>?_;refine ⟨σ,G1,hs1,a1,zn0 g.mono XN lo σ G1 _ _ (fun o G2 q H2 g2 a2=>?_) q⟩;refine ⟨σ,G2,hs1.mono g2,a2,zn0 g.mono XN hi σ G2 _ _ (fun o2 G3 q H3 g3 a3=>?_) q⟩;exact ⟨w,G3,(rx.mono g2).mono g3,a3,zeP (fun w' G' q v' H' g'=>q v' H' (g1.trans (g2.trans (g3.trans g')))) q⟩
     |some _=>exact absurd h zzN
    |_=>exact absurd h zzN
  |_=>exact absurd h zzN
theorem s_tup (es:IEs) (hs:OkA Γ p es):kP Γ p (.tup es):=by
 intro M X x L h
 cases x with
 |Tuple xs k q =>
  skip
  refine qY (M:=M) (yN g.mono XN (.tup es)) ((znK (hs M X xs L h).1).imp fun τ H Q q=>?_) (fun _=>rfl) (fun _ _ _ z=>nomatch z);obtain ⟨σ,G,hs',ab,q⟩:=q;refine zdp (uA g.mono XN es) hs' ab q fun ws G1 vs H1 g1 hs1 rs a1 q=>⟨by rw[rs.length];exact q.1,fS a1 rs fun v' H' g'=>q.2 v' H' (g1.trans g')⟩
 |_=>exact absurd h zzN
theorem s_lst (es:IEs) (hs:OkA Γ p es):kP Γ p (.lst es):=by
 intro M X x L h
 cases x with
 |List xs q =>
  skip
  refine qY (M:=M) (yN g.mono XN (.lst es)) ((znO (hs M X xs L h).1).imp fun τ H Q q=>?_) (fun _=>rfl) (fun _ _ _ z=>nomatch z);obtain ⟨σ,G,hs',ab,q⟩:=q;refine zdp (uA g.mono XN es) hs' ab q fun ws G1 vs H1 g1 hs1 rs a1 q=>⟨by rw[rs.length];exact q.1,vK a1 rs fun r hr v' H' g'=>q.2 r hr v' H' (g1.trans g')⟩
 |_=>exact absurd h zzN
theorem zbl {Γ:Ctx3} {M:MC} {es:IEs} {xs:List Expr} (h:mA es M xs=true):xs=[]->∀ σ G Q,zW Γ XN es σ G Q->Q [] G:=by
 rintro rfl σ G Q q
 cases es with
 |nil=>exact q
 |cons _ _=>exact absurd h zzN
theorem znq (f:Nat) (es:IEs) (hs:OkA Γ p es):kP Γ p (.call f es):=by
  intro M X x L h
  cases x with
  |Call fn xs kw q =>
    cases fn with
    |Name y qy =>
     cases kw with
     |nil =>
      replace h:=bd3 h;have gl:=zf7 L.sc h.1.2;have hi:=qK h.1.1;rw[← L.fns] at hi;obtain ⟨e,ei,rfl⟩:=fP hi;have A:=hs M X xs L h.2;refine qY (M:=M) (yN g.mono XN (.call f es)) ((g.fn e (jE ei) X L.fits gl.1 xs (zW Γ XN es) qy q (uA g.mono XN es) A.2.1 A.1 (zbl g h.2) gl.2.1 gl.2.2).imp fun τ H Q q=>?_) (fun _=>rfl) (fun _ _ _ z=>nomatch z);obtain ⟨σ,G,hs',ab,q⟩:=q;refine ⟨σ,G,hs',ab,uA g.mono XN es σ G _ _ (fun ws G1 q=>?_) q⟩;simp only[ei] at q;exact q
     |cons _ _=>exact absurd h zzN
    |_=>exact absurd h zzN
  |_=>exact absurd h zzN
theorem s_spc (i:Nat) (es:IEs) (hs:OkA Γ p es):kP Γ p (.spc i es):=by
 intro M X x L h;replace h:=mH h;replace h:=h.2
 split at h
 .rename_i m hm
  split at h
  .rename_i xs hx;rw[← L.sxs] at hm;obtain ⟨k,ek,rfl⟩:=fP hm;have A:=hs M X xs L h;have q:=g.sx k (jE ek) X L.fits x xs (semL Γ es) (by rw[L.sc];exact hx) A.2.2.2 A.2.1 (by rw[← zbk];exact A.1);refine qY (M:=M) (yN g.mono XN (.spc i es)) (q.1.imp fun τ H Q q=>?_) q.2.1 q.2.2;obtain ⟨σ,G,hs',ab,q⟩:=q;refine ⟨σ,G,hs',ab,?_⟩;rw[← zbk];refine uA g.mono XN es σ G _ _ (fun ws G1 q=>?_) q;simp only[ek] at q;exact q
  .exact absurd h zzN
 .exact absurd h zzN
theorem s_mth (m:Nat) (o:IE) (es:IEs) (ho:kP Γ p o) (hs:OkA Γ p es):kP Γ p (.mth m o es):=by
  intro M X x L h
  cases x with
  |Call fn xs kw q =>
    cases fn with
    |Attribute l y qy =>
     cases kw with
     |nil =>
      replace h:=bd6 h;simp only[decide_eq_true_eq] at h;have hi:=qK h.1.1.1.1.1;rw[← L.mts] at hi;obtain ⟨e,ei,rfl⟩:=fP hi;have A:=hs M X xs L h.2;have B:=ho M X l L h.1.2;refine qY (M:=M) (yN g.mono XN (.mth m o es)) ((g.mt e (jE ei) X L.fits l xs (zH Γ XN o).e (zW Γ XN es) qy q (yN g.mono XN o) (uA g.mono XN es) h.1.1.1.1.2 h.1.1.1.2 h.1.1.2 A.2.1 B.1 A.1 (zbl g h.2)).imp fun τ H Q q=>?_) (fun _=>rfl) (fun _ _ _ z=>nomatch z);obtain ⟨σ,G,hs',ab,q⟩:=q;refine ⟨σ,G,hs',ab,yN g.mono XN o σ G _ _ (fun w G1 q=>?_) q⟩;simp only[ei] at q;exact q
     |cons _ _=>exact absurd h zzN
    |_=>exact absurd h zzN
  |_=>exact absurd h zzN
theorem s_att (o:IE) (f:Str) (ho:kP Γ p o):kP Γ p (.att o f):=by
 intro M X x L h
 cases x with
 |Attribute l y q =>
  replace h:=bd3 h;simp only[beq_iff_eq] at h;obtain ⟨⟨rfl,h1⟩,h2⟩:=h;refine qY (M:=M) (yN g.mono XN (.att o y)) ((znP (ho M X l L h2).1 (gJ h1)).imp fun τ H Q q=>?_) (fun _=>rfl) (fun _ _ _ z=>nomatch z);obtain ⟨σ,G,hs,ab,q⟩:=q;refine wI (yN g.mono XN o) hs ab q fun w G1 v H1 g1 hs1 rx a1 q=>?_
  cases w with
  |ref a =>
   cases rx;simp only[bY] at q
   split at q
   .rename_i C fs e;obtain ⟨⟨l,hl,hf⟩,q⟩:=q
    split at q
    .rename_i w' ew;obtain ⟨dx,fs',e',rk⟩:=a1.ins e;obtain ⟨v',ev,rv⟩:=zaW rk ew;have c:=g.cl _ hl;exact ⟨a,C,dx,fs',v',rfl,e',by rw[L.fits.K];exact c.1,by rw[L.fits.K];exact c.2 y hf,ev,q _ H1 g1 rv a1⟩
    .exact q.elim
   .exact q.elim
  |_=>exact q.elim
 |_=>exact absurd h zzN
end
section
variable {Γ:Ctx3} {p:Par} (g:Good Γ p)
include g
theorem s_dct (ks:List Str) (es:IEs) (hs:OkA Γ p es):kP Γ p (.dct ks es):=by
 intro M X x L h
 cases x with
 |Dict keys xs q =>
  replace h:=bd5 h;simp only[decide_eq_true_eq,Zar] at h;obtain ⟨⟨⟨⟨h1,h2⟩,h3⟩,h4⟩,h5⟩:=h;obtain ⟨all,ek,trs,pp,low⟩:=(hs M X xs L h2).2.2.1 ks keys q h1 h3
  have h0:keys≠[]:=by
   intro z;rw[z] at ek
   cases ks with
   |nil=>cases h5
   |cons _ _=>cases ek
  refine qY (M:=M) (yN g.mono XN (.dct ks es)) ((zlO pp all h3 h0 h4).imp fun τ H Q q=>?_) (fun _=>rfl) (fun _ _ _ z=>nomatch z);intro a ha;obtain ⟨σ,G,hs',ab,q⟩:=q;have gr:yB X.K H (xM H a (.dK [])):=wT ha;refine low τ _ _ ⟨σ,put G a (.dic []),hs'.mono gr,ab.new ha ⟨[],rfl,rfl⟩,uA g.mono XN es σ _ _ _ (fun ws G1 q vs H1 g1 rs a1=>?_) (q a (ab.free ha))⟩;obtain ⟨q1,q2,q3⟩:=q;obtain ⟨l,e,rl⟩:=a1.dic q1
  have el:l=[]:=by
   cases l with
   |nil=>rfl
   |cons _ _=>cases rl
  subst el;refine ⟨e,(ks.zip vs).map (fun kv=>((Sum.inr kv.1:xS),kv.2)),by rw[Zbg];rfl,?_,?_⟩
  .rw[zzM,List.length_zip];omega
  .have gr2:yB X.K H1 (xM H1 a (.dK (cQ [] ((ks.zip vs).map fun kv=>((Sum.inr kv.1:xS),kv.2))))):=a1.grow q1;exact q3 _ _ (gr.trans (g1.trans gr2)) rfl (a1.chg q1 ⟨_,rfl,zio ks (rs.mono gr2) rfl⟩)
 |_=>exact absurd h zzN
theorem zcy (tg:ITg) (names:List Str) (caps:List Nat) (it:II) (c:IO) (elt:IE) (hi:OkI Γ p it) (hc:OkO Γ p c) (he:kP Γ p elt) {M:MC} {X:Cx} (L:Lk Γ M p X) {x t ix:Expr} {ifs:List Expr} {sc:Scope}
  (h:(blkB M.sc sc&&zdW ix&&zcM (names++caps.map (fun j=>M.N.getD j Str.empty))&&(caps.all fun j=>decide (j<M.N.length)&&(sc.names.lookup (M.N.getD j Str.empty)==some .free)) &&
    mI it M ix&&((tgIx tg).all fun i=>decide (i<names.length))&&mG { M with sc:=relS sc M.sc,N:=names++caps.map (fun j=>M.N.getD j Str.empty),own:=fun x=>sc.names.lookup x==some .cell } tg t&&mC c { M with sc:=relS sc M.sc,N:=names++caps.map (fun j=>M.N.getD j Str.empty),own:=fun x=>sc.names.lookup x==some .cell } ifs&&mE elt { M with sc:=relS sc M.sc,N:=names++caps.map (fun j=>M.N.getD j Str.empty),own:=fun x=>sc.names.lookup x==some .cell } x)=true) :
  PI X t ix (lowI X.K (zY Γ XN it))/\BlkSc X sc/\Caps X sc (names++caps.map (fun j=>M.N.getD j Str.empty)) (capV names.length caps) /\
  (∀ X',IsBlock X (names++caps.map (fun j=>M.N.getD j Str.empty)) sc X'->PG X' t (lowG X.K (zX tg)))/\(∀ X',IsBlock X (names++caps.map (fun j=>M.N.getD j Str.empty)) sc X'->PTs X' ifs (uE X.K (zV Γ c))) /\
  (∀ H1 X',IsBlock X (names++caps.map (fun j=>M.N.getD j Str.empty)) sc X'->PE X' x (fun τ H Q=>yB X.K H1 H/\wO X.K (zH Γ XN elt).e τ H Q))/\(∀ y,foldedSetIterable ix X.env y=pure y) /\
  ∀ τ H Q,wO X.K (zH Γ XN (.lc tg names caps it c elt)).e τ H Q->tLC (lowI X.K (zY Γ XN it)) (capV names.length caps) (lowG X.K (zX tg)) (uE X.K (zV Γ c)) (fun H0 τ H Q=>yB X.K H0 H/\wO X.K (zH Γ XN elt).e τ H Q) τ H Q:=by
 simp only[Zp] at h;obtain ⟨⟨⟨⟨⟨⟨⟨⟨h1,h2⟩,h3⟩,h4⟩,h5⟩,h6⟩,h7⟩,h8⟩,h9⟩:=h
 have lk:∀ X',IsBlock X (names++caps.map (fun j=>M.N.getD j Str.empty)) sc X'->Lk Γ { M with sc:=relS sc M.sc,N:=names++caps.map (fun j=>M.N.getD j Str.empty),own:=fun x=>sc.names.lookup x==some .cell } p X':=fun X' b =>
  ⟨⟨b.prog.trans L.fits.prog,b.w.trans L.fits.w,b.K.trans L.fits.K,b.mg.trans L.fits.mg,b.base.trans L.fits.base,b.A.trans L.fits.A,b.calm.trans L.fits.calm,b.xe⟩,b.N,b.scope.trans (zlx L.sc),zeZ h3,(fun x z=>b.fn x (eq_of_beq z)),(zk9 L.sc h1).kind,L.fns,L.gls,L.mts,L.its,L.sxs,L.ixs⟩
 refine ⟨hi M X ix L h5 t,zk9 L.sc h1,ziz L.N L.sc h4,fun X' b=>?_,fun X' b=>?_,fun H1 X' b=>?_,zc7 h2,fun τ H Q q=>?_⟩
 .rw[← b.K];exact sndG (lk X' b) tg t h7
 .rw[← b.K];exact (hc _ X' (lk X' b)).2 ifs h8
 .rw[← b.K];exact (he _ X' x (lk X' b) h9).1.imp fun _ _ _ z=>z.2
 .obtain ⟨σ,G,hs,ab,q⟩:=q;refine ⟨σ,G,hs,ab,zn1 g.mono XN it σ G _ _ (fun items stab G1 q J H1 g1 a1 ii=>?_) q⟩;refine zn6 (monoC g.mono c) (yN g.mono XN elt) ii a1 (zmP (hs.mono g1) names.length caps) g1 (fun w G' Q' z=>?_) q;refine bU tg w _ G' _ _ (fun σ2 G2 z=>⟨⟨z.2.1,fun i v e=>?_⟩,z.2.2⟩) (zeQ tg w _ G' _ (zgT tg w _ G' _ z));have hk:=(zeo e).1;rw[z.1 i (zl0 h6 hk)];exact e
theorem s_lc (tg:ITg) (names:List Str) (caps:List Nat) (it:II) (c:IO) (elt:IE) (hi:OkI Γ p it) (hc:OkO Γ p c) (he:kP Γ p elt):kP Γ p (.lc tg names caps it c elt):=by
 intro M X x L h
 cases x with
 |ListComp x gens sc q =>
  match gens,h with
  | [⟨t,ix,ifs,asy⟩],h =>
   have h':=h;replace h:=bd10 h;obtain ⟨⟨⟨⟨⟨⟨⟨⟨⟨h0,h1⟩,h2⟩,h3⟩,h4⟩,h5⟩,h6⟩,h7⟩,h8⟩,h9⟩:=h;replace h0:=of_decide_eq_true h0;subst h0;obtain ⟨c1,c2,c3,c4,c5,c6,c7,c8⟩:=zcy g tg names caps it c elt hi hc he L (x:=x) (t:=t) (ix:=ix) (ifs:=ifs) (sc:=sc) (by simp only[Zp];exact ⟨⟨⟨⟨⟨⟨⟨⟨h1,h2⟩,h3⟩,h4⟩,h5⟩,h6⟩,h7⟩,h8⟩,h9⟩);exact qY (M:=M) (yN g.mono XN (.lc tg names caps it c elt)) ((pe_lc L.fits.calm c1 c2 c3 c4 c5 c6 c7).imp c8) (fun _=>rfl) (fun _ _ _ z=>nomatch z)
 |_=>exact absurd h zzN
theorem s_no:OkO Γ p .no:=by
 intro M X L;refine ⟨fun x h=>?_,fun xs h=>?_⟩
 .cases x with
  |none=>exact zlJ.imp fun τ H Q q=>by obtain ⟨σ,G,hs,ab,q⟩:=q;exact q H .refl ab
  |some _=>exact absurd h zzN
 .cases xs with
  |nil=>exact zlB.imp fun τ H Q q=>by obtain ⟨σ,G,hs,ab,q⟩:=q;exact q H .refl ab
  |cons _ _=>exact absurd h zzN
theorem znn (e:IE) (he:kP Γ p e):OkO Γ p (.yes e):=by
 intro M X L;refine ⟨fun x h=>?_,fun xs h=>?_⟩
 .cases x with
  |none=>exact absurd h zzN
  |some x =>
   skip
   refine (zlI (he M X x L h).1).imp fun τ H Q q=>?_;obtain ⟨σ,G,hs,ab,q⟩:=q;refine wI (yN g.mono XN e) hs ab q fun w G1 v H1 g1 hs1 rx a1 q=>?_
   cases w with
   |int i=>cases rx;exact ⟨i,rfl,q H1 g1 a1⟩
   |_=>exact q.elim
 .match xs,h with
  | [x],h=>exact zlA (he M X x L (by simpa only [mC] using h)).2.1
theorem znp:OkA Γ p .nil:=by
 intro M X xs L h
 cases xs with
 |cons _ _=>exact absurd h zzN
 |nil =>
  refine ⟨zkN.imp fun τ H Q q=>by obtain ⟨σ,G,hs,ab,q⟩:=q;exact q [] H .refl rfl ab,rfl,fun ks keys pos hk hl=>?_,trivial⟩
  cases keys with
  |cons _ _=>cases hl
  |nil =>
   cases ks with
   |cons _ _=>cases hk
   |nil =>
    refine ⟨rfl,rfl,[],zlH,fun τ H Q q=>?_⟩;obtain ⟨σ,G,hs,ab,q⟩:=q;exact q [] H .refl rfl ab
theorem zkB (e:IE) (es:IEs) (he:kP Γ p e) (hs:OkA Γ p es):OkA Γ p (.cons e es):=by
  intro M X xs L h
  cases xs with
  |nil=>exact absurd h zzN
  |cons x xs =>
    simp only[mA,Zp] at h;obtain ⟨⟨h1,h2⟩,h3⟩:=h;have A:=he M X x L h2;have B:=hs M X xs L h3;refine ⟨(zhm A.1 B.1 (uC h1)).imp fun τ H Q q=>?_,by rw[Za1,h1,B.2.1];rfl,fun ks keys pos hk hl=>?_,⟨yN g.mono XN e,A.1,B.2.2.2⟩⟩
    . obtain ⟨σ,G,hs',ab,q⟩:=q
      refine wI (yN g.mono XN e) hs' ab q fun w G1 v H1 g1 hs1 rx a1 q=>?_;refine zdp (uA g.mono XN es) hs1 a1 q fun ws G2 vs H2 g2 hs2 rs a2 q=>?_;exact q _ H2 (g1.trans g2) ⟨v,vs,rfl,rx.mono g2,rs⟩ a2
    . cases ks with
      |nil =>
        cases keys with
        |nil=>simp at hl
        |cons _ _=>simp[keyB] at hk
      |cons k ks =>
       cases keys with
       |nil=>cases hk
       |cons ko keys =>
        obtain ⟨y,ky,qy,rfl⟩:∃ y ky qy,ko=some (.Constant (.str y) ky qy):=by
          cases ko with
          |none=>cases hk
          |some ke =>
            cases ke with
            |Constant c ky qy =>
              cases c with
              |str y=>exact ⟨y,ky,qy,rfl⟩
              |_=>cases hk
            |_=>cases hk
        simp only[keyB,Zp,beq_iff_eq] at hk;obtain ⟨rfl,hk⟩:=hk;obtain ⟨all,ek,trs,pp,low⟩:=B.2.2.1 ks keys pos hk (by simpa using hl);refine ⟨by simpa using all,by simpa using ek,(tC (.str k),wO X.K (zH Γ XN e).e)::trs,zjs zkJ A.1 pp,fun τ H Q q=>?_⟩;obtain ⟨σ,G,hs',ab,q⟩:=q;show wO X.K (zH Γ XN e).e τ H _;refine wI (yN g.mono XN e) hs' ab q fun w G1 v H1 g1 hs1 rx a1 q=>?_;refine low τ H1 _ ⟨σ,G1,hs1,a1,uA g.mono XN es σ G1 _ _ (fun ws G2 q vs H2 g2 rs a2=>?_) q⟩;exact q (v::vs) H2 (g1.trans g2) ⟨v,vs,rfl,rx.mono g2,rs⟩ a2
theorem zno (e:IE) (he:kP Γ p e):OkI Γ p (.val e):=fun M X x L h tg=>znH (yN g.mono XN e) (he M X x L h).1
theorem znr (i:Nat) (es:IEs) (hs:OkA Γ p es):OkI Γ p (.blt i es):=by
  intro M X x L h tg
  cases x with
  |Call fn xs kw q =>
    cases fn with
    |Name y qy =>
     cases kw with
     |nil =>
      replace h:=bd3 h;have gl:=zf7 L.sc h.1.2;have hi:=qK h.1.1;rw[← L.its] at hi;obtain ⟨e,ei,rfl⟩:=fP hi;have A:=hs M X xs L h.2;refine (g.it e (jE ei) X L.fits gl.1 tg xs (zW Γ XN es) qy q (uA g.mono XN es) A.2.1 A.1 (zbl g h.2) gl.2.1 gl.2.2).imp fun τ H R q=>?_;obtain ⟨σ,G,hs',ab,q⟩:=q;refine ⟨σ,G,hs',ab,uA g.mono XN es σ G _ _ (fun ws G1 q=>?_) q⟩;simp only[ei] at q;exact q
     |cons _ _=>exact absurd h zzN
    |_=>exact absurd h zzN
  |_=>exact absurd h zzN
theorem zkA (i:Nat) (es:IEs) (hs:OkA Γ p es):OkI Γ p (.spc i es):=fun M X x L h=>absurd h zzN
theorem pW (e:IE):kP Γ p e :=
 IE.rec (motive_1:=kP Γ p) (motive_2:=OkO Γ p) (motive_3:=OkA Γ p) (motive_4:=OkI Γ p) (motive_5:=fun _=>True) (motive_6:=fun _=>True)
  (s_var g) (s_con g) (s_glb g) (s_bin g) (s_neg g) (s_not g) (s_cmp g) (s_chn g) (s_and g) (s_or g) (s_ite g) (s_ix g) (s_sl g) (s_tup g) (s_lst g) (s_dct g) (znq g) (s_mth g) (s_att g)
  (fun tg names caps it c elt _ hi hc he=>s_lc g tg names caps it c elt hi hc he) (s_spc g) (s_ch3 g) (s_no g) (znn g) (znp g) (zkB g) (zno g) (znr g) (zkA g) (fun _=>trivial) (fun _ _=>trivial) trivial (fun _ _ _ _=>trivial) e
theorem sndA (es:IEs):OkA Γ p es:=match es with
 | .nil=>znp g
 | .cons e es=>zkB g e es (pW g e) (sndA es)
theorem sndI (it:II):OkI Γ p it:=match it with
 | .val e=>zno g e (pW g e)
 | .blt i es=>znr g i es (sndA g es)
 | .spc i es=>zkA g i es (sndA g es)
theorem sndO (o:IO):OkO Γ p o:=match o with
 | .no=>s_no g
 | .yes e=>znn g e (pW g e)
end
end L3
namespace L3
open PySem PySem.Spec PyProof.Rows L2
theorem zmm {i:Nat} {a:IE} {M:MC} {x:Stmt} (h:mS (.asg i a) M x=true):∃ y py v q,x=.Assign [.Name y py] v q/\(M.N[i]?==some y)=true/\locB M y=true/\mE a M v=true:=by
 cases x with
 |Assign ts v q =>
  cases ts with
  |nil=>exact absurd h zzN
  |cons t r =>
   cases r with
   |cons _ _=>cases t<;>exact absurd h zzN
   |nil =>
    cases t with
    |Name y py =>
     replace h:=bd3 h;exact ⟨y,py,v,q,rfl,h.1.1,h.1.2,h.2⟩
    |_=>exact absurd h zzN
 |_=>exact absurd h zzN
theorem zj0 {ts:ITgs} {a:IE} {M:MC} {x:Stmt} (h:mS (.asgT ts a) M x=true):∃ es k qt v q,x=.Assign [.Tuple es k qt] v q/\cX v=true/\zjE v=true/\mGs M ts es=true/\mE a M v=true:=by
 cases x with
 |Assign ts v q =>
  cases ts with
  |nil=>exact absurd h zzN
  |cons t r =>
   cases r with
   |cons _ _=>cases t<;>exact absurd h zzN
   |nil =>
    cases t with
    |Tuple es k qt =>
     replace h:=bd4 h;exact ⟨es,k,qt,v,q,rfl,h.1.1.1,h.1.1.2,h.1.2,h.2⟩
    |_=>exact absurd h zzN
 |_=>exact absurd h zzN
theorem zj1 {i j:Nat} {a:IE} {M:MC} {x:Stmt} (h:mS (.asgS i j a) M x=true):∃ t v q,x=.Assign [t] v q/\cX v=true/\zjE v=true/\zi3 M i j t=true/\mE a M v=true:=by
 cases x with
 |Assign ts v q =>
  cases ts with
  |nil=>exact absurd h zzN
  |cons t r =>
   cases r with
   |cons _ _=>exact absurd h zzN
   |nil =>
    replace h:=bd4 h;exact ⟨t,v,q,rfl,h.1.1.1,h.1.1.2,h.1.2,h.2⟩
 |_=>exact absurd h zzN
theorem zll {M:MC} {i j:Nat} {t:Expr} (h:zi3 M i j t=true):∃ x px y py p2 k q,t=.Tuple [.Name x px,.Starred (.Name y py) p2] k q/\((M.N[i]?==some x)=true/\locB M x=true)/\((M.N[j]?==some y)=true/\locB M y=true):=by
 unfold zi3 at h
 split at h
 .exact ⟨_,_,_,_,_,_,_,rfl,mH (mH h).1,mH (mH h).2⟩
 .exact absurd h zzN
theorem zj2 {o i a:IE} {M:MC} {x:Stmt} (h:mS (.asgI o i a) M x=true):∃ l r qs v q,x=.Assign [.Subscript l r qs] v q/\cX v=true/\zbC r=true/\mE o M l=true/\mE i M r=true/\mE a M v=true:=by
 cases x with
 |Assign ts v q =>
  cases ts with
  |nil=>exact absurd h zzN
  |cons t r =>
   cases r with
   |cons _ _=>cases t<;>exact absurd h zzN
   |nil =>
    cases t with
    |Subscript l r qs =>
     replace h:=bd5 h;exact ⟨l,r,qs,v,q,rfl,h.1.1.1.1,h.1.1.1.2,h.1.1.2,h.1.2,h.2⟩
    |_=>exact absurd h zzN
 |_=>exact absurd h zzN
theorem zj3 {o a:IE} {f:Str} {M:MC} {x:Stmt} (h:mS (.asgA o f a) M x=true):∃ l qs v q,x=.Assign [.Attribute l f qs] v q/\cX v=true/\mE o M l=true/\mE a M v=true:=by
 cases x with
 |Assign ts v q =>
  cases ts with
  |nil=>exact absurd h zzN
  |cons t r =>
   cases r with
   |cons _ _=>cases t<;>exact absurd h zzN
   |nil =>
    cases t with
    |Attribute l y qs =>
     replace h:=bd4 h;simp only[beq_iff_eq] at h;obtain ⟨⟨⟨rfl,h2⟩,h3⟩,h4⟩:=h;exact ⟨l,qs,v,q,rfl,h2,h3,h4⟩
    |_=>exact absurd h zzN
 |_=>exact absurd h zzN
theorem zov {a:IE} {M:MC} {x:Stmt} (h:mS (.ex a) M x=true):∃ v q,x=.Expr v q/\cX v=true/\mE a M v=true:=by
 cases x with
 |Expr v q =>
  replace h:=mH h;exact ⟨v,q,rfl,h.1,h.2⟩
 |_=>exact absurd h zzN
theorem zmf {a:IE} {M:MC} {x:Stmt} (h:mS (.ret a) M x=true):∃ v q,x=.Return (some v) q/\mE a M v=true:=by
 cases x with
 |Return v q =>
  cases v with
  |none=>exact absurd h zzN
  |some v=>exact ⟨v,q,rfl,h⟩
 |_=>exact absurd h zzN
theorem zjX {M:MC} {x:Stmt} (h:mS .retN M x=true):∃ q,x=.Return none q:=by
 cases x with
 |Return v q =>
  cases v with
  |none=>exact ⟨q,rfl⟩
  |some v=>exact absurd h zzN
 |_=>exact absurd h zzN
theorem zjY {M:MC} {x:Stmt} (h:mS .pass M x=true):∃ q,x=.Pass q:=by
 cases x with
 |Pass q=>exact ⟨q,rfl⟩
 |_=>exact absurd h zzN
theorem zml {M:MC} {x:Stmt} (h:mS .brk M x=true):∃ q,x=.Break q:=by
 cases x with
 |Break q=>exact ⟨q,rfl⟩
 |_=>exact absurd h zzN
theorem zmj {M:MC} {x:Stmt} (h:mS .cnt M x=true):∃ q,x=.Continue q:=by
 cases x with
 |Continue q=>exact ⟨q,rfl⟩
 |_=>exact absurd h zzN
theorem zmh {c:IE} {a b:ISs} {M:MC} {x:Stmt} (h:mS (.ite c a b) M x=true):∃ t y z q,x=.If t y z q/\mE c M t=true/\qV a M y=true/\qV b M z=true:=by
 cases x with
 |If t y z q =>
  replace h:=bd3 h;exact ⟨t,y,z,q,rfl,h.1.1,h.1.2,h.2⟩
 |_=>exact absurd h zzN
theorem zme {c:IE} {b:ISs} {M:MC} {x:Stmt} (h:mS (.whl c b) M x=true):∃ t y q,x=.While t y [] q/\mE c M t=true/\qV b M y=true:=by
 cases x with
 |While t y z q =>
  cases z with
  |nil =>
   replace h:=mH h;exact ⟨t,y,q,rfl,h.1,h.2⟩
  |cons _ _=>exact absurd h zzN
 |_=>exact absurd h zzN
theorem zmi {tg:ITg} {it:II} {b:ISs} {M:MC} {x:Stmt} (h:mS (.for tg it b) M x=true):∃ t y z q,x=.For t y z [] q/\zdW y=true/\mG M tg t=true/\mI it M y=true/\qV b M z=true:=by
 cases x with
 |For t y z e q =>
  cases e with
  |nil =>
   replace h:=bd4 h;exact ⟨t,y,z,q,rfl,h.1.1.1,h.1.1.2,h.1.2,h.2⟩
  |cons _ _=>exact absurd h zzN
 |_=>exact absurd h zzN
theorem zmg {M:MC} {x:List Stmt} (h:qV .nil M x=true):x=[]:=by
 cases x with
 |nil=>rfl
 |cons _ _=>exact absurd h zzN
theorem zjZ {s:IS} {ss:ISs} {M:MC} {x:List Stmt} (h:qV (.cons s ss) M x=true):∃ y ys,x=y::ys/\mS s M y=true/\qV ss M ys=true:=by
 cases x with
 |nil=>exact absurd h zzN
 |cons y ys =>
  replace h:=mH h;exact ⟨y,ys,rfl,h.1,h.2⟩
end L3
namespace L2
open PySem PySem.Spec PyProof.Rows
theorem alive {P:Program} {w:World} {H:Hp} {h:Heap} {a:Addr} {o:HO} (x:wY P w H h a o):∃ u,h.get? a=some u:=by
 cases o with
 |lst _=>obtain ⟨_,_,_,_,e⟩:=x;exact ⟨_,e⟩
 |tup _=>obtain ⟨_,_,_,u,e,_⟩:=x;exact ⟨u,e⟩
 |dK _=>obtain ⟨_,_,_,_,u,_,_,e,_⟩:=x;exact ⟨u,e⟩
 |dT _=>obtain ⟨_,_,_,_,u,_,_,e,_⟩:=x;exact ⟨u,e⟩
 |set _ _=>obtain ⟨u,_,_,_,e,_⟩:=x;exact ⟨u,e⟩
 |ins _ _ _=>exact ⟨_,x.2.2.2.1⟩
 |own _=>exact x
 |xd _=>obtain ⟨_,⟨u,_,_,e,_⟩,_⟩:=x;exact ⟨u,e⟩
 |rng _ _=>obtain ⟨_,_,_,e⟩:=x;exact ⟨_,e⟩
 |frz _ _=>exact ⟨_,x.1⟩
 |tbl _=>exact ⟨_,x⟩
 |met _ _=>exact ⟨_,x⟩
 |ext _=>exact x.2.1
def zho (h:Heap) (L:Addr):List (Addr×Obj):=(List.range h.objs.size).filterMap fun b=>if b=L then none else (h.get? b).map fun o=>(b,o)
theorem hX {h:Heap} {L b:Addr} {o:Obj}:(b,o)∈zho h L↔b≠L/\h.get? b=some o:=by
 unfold zho;rw[ZbA]
 constructor
 .rintro ⟨c,_,e⟩
  split at e
  .cases e
  .rename_i hc;obtain ⟨o',e1,e2⟩:=ZF.mp e;cases e2;exact ⟨hc,e1⟩
 .rintro ⟨hb,e⟩;exact ⟨b,Zao.mpr (Zi e),by rw[if_neg hb,e];rfl⟩
section
variable {X:Cx} {pos:Pos}
def gStar (K:PySem.W.Frag) (t:TGs):TG:=fun v σ H Q=>∃ a x xs,v=.ref a/\gH K H a (x::xs)/\xs.length<=1000/\∀ D,H D=none->t [x,.ref D] σ (xM H D (.lst xs)) Q
theorem zlL {e1 e2:Expr} {k:Nat} {p2:Pos} {t:TGs} (hc:X.calm=true) (h:PGs X [e1,e2] t) (h1:assignEach [e1,.Starred e2 p2] X.env=[(false,assign e1 X.env),(true,assign e2 X.env)])
  (h2:assignEach [e1,e2] X.env=[(false,assign e1 X.env),(false,assign e2 X.env)]):PG X (.Tuple [e1,.Starred e2 p2] k pos) (gStar X.K t):=by
 intro pins s σ H v u Q I r hw;obtain ⟨a,x,xs,e,hq,hl,hw⟩:=hw;subst e;cases r;obtain ⟨its,rv,ht,hz⟩:=I.tuple hq
 cases rv with
 | @cons _ u _ us r0 rs =>
 have hus:us.length=xs.length:=rs.length.symm;obtain ⟨m,hn,_⟩:=id I.loc;have F:Fr (default:Heap) X.env.locals s.heap m:=⟨hn,fun b o e=>(by cases e),Zg _⟩
 have N:News (default:Heap) X.env.locals s.heap (zho s.heap X.env.locals):=fun p hp=>by
  obtain ⟨b,o⟩:=p;have:=hX.mp hp;exact ⟨this.2,this.1,rfl⟩
 rw[assign_Tuple];refine Za (ZbP ?_);unfold unpack;rw[show (assignEach [e1,.Starred e2 p2] X.env).length=2 by rw[h1];rfl,show (assignEach [e1,.Starred e2 p2] X.env).findIdx? (·.1)=some 1 by rw[h1];rfl];refine Za (ZI (vA I.tk (PySem.W.kun_starT (n:=2) (i:=1) (first:=[u]) (mids:=us) (lasts:=[]) F N ht (I.ok.hd hc) 'c' 'g' (by simp;omega) 'g' 'g' 'g' fun D h' tk F' N' lt h0=>?_)));have get:∀ b o,b≠X.env.locals->s.heap.get? b=some o->h'.get? b=some o:=fun b o hb e=>(N' (b,o) (Zd _ (hX.mpr ⟨hb,e⟩))).1;obtain ⟨hD,nD,_⟩:=N' (D,{ cls:=.type "list", data:=.seq us.toArray 0 }) zzT
 have no:s.heap.get? D=none:=by
  cases q:s.heap.get? D with
  |none=>rfl
  |some o=>exact absurd (lt (D,o) (hX.mpr ⟨nD,q⟩)) (Z9 _)
 have HD:H D=none:=by
  cases q:H D with
  |none=>rfl
  |some o=>obtain ⟨u',e'⟩:=alive (I.hok D o q);rw[no] at e';cases e'
 have nl:∀ b o,H b=some o->b≠X.env.locals:=fun b o e z=>by rw[z,I.free] at e;cases e
 have ne:∀ b o,H b=some o->b≠D:=fun b o e=>yE e HD
 have hok:nA X.prog X.w (xM H D (.lst xs)) h':=fun b o e=>by
  by_cases hb:b=D
  .subst hb;rw[wC] at e;cases e;exact ⟨by rw[Z5];omega,us,0,rs,hD⟩
  .rw[yS hb] at e;refine (I.hok b o e).stay (fun c v hc q=>get c v ?_ q) (fun c q=>by rw[yS (ne c _ q)];exact q) fun c ys q=>by rw[yS (ne c _ q)];exact q
   rcases hc with z|z
   .rw[z];exact nl b o e
   .exact nl c _ z
 have I1:Inv X pins σ (xM H D (.lst xs)) { s with heap:=h',toks:=tk } :=
  I.step (g':=s.gens) (d':=s.drawn) (ch:=[]) (fun _ z=>nomatch z) (fun b o hb _ _ e _=>get b o hb e) (fun b o hb _ _ e _=>⟨o.slots,get b o hb e⟩)
   (fun b o _ e n=>by rw[yS (fun z=>by rw[z,no] at e;cases e)];exact n)
   (fun b o _ e=>by
    by_cases hb:b=X.env.locals
    .obtain ⟨o',_,_,q,_⟩:=F'.ns;exact ⟨o',by rw[hb];exact q⟩
    .exact ⟨o,get b o hb e⟩)
   (fun b ys e=>by rw[yS (ne b _ e)];exact e) (fun b o u e=>by rw[yS (ne b _ e)];exact e) (fun b ps e=>⟨#[],by rw[yS (ne b _ e),e];simp⟩)
   (fun m' hm=>by rw[hm.eq_nsMap,← hn.eq_nsMap];exact F'.ns) hok I.bare
 have:=h pins _ σ _ [x,.ref D] [u,.ref D] Q I1 (.cons r0 (.cons rfl .nil)) (hw D HD);rw[h2] at this;rw[h1];exact this
end
end L2
namespace L2
open PySem PySem.Spec PyProof.Rows
section
variable {prog:Program} {w:World} {A:Around} {E:Value->Shared->Prop} {s:Shared}
theorem zfm {it l:Addr} {xs:Array Value} (ne:l≠it):∀ (n i:Nat) (s:Shared) (Q:List Value->Shared->Prop),s.heap.IsListIter it l i->s.heap.IsList l xs->i+n<=xs.size ->
  (∀ h',h'.IsListIter it l (i+n)->Heap.SameBut it s.heap h'->Q ((xs.toList.drop i).take n) { s with heap:=h' })->wpAny (model prog w) A (draw (.ref it) n) Q E s
 | 0,i,s,Q,a,_,_,q=>by
  show wpAny _ _ (pure []) Q E s;exact Zh (by simpa using q s.heap a (Heap.SameBut.refl ..))
 |n+1,i,s,Q,a,b,le,q=>by
  have lt:i<xs.size:=by omega
  show wpAny _ _ (pyNext (.ref it) >>= _) Q E s;refine Za (wpAny_pyNext_list_item a b (x:=xs[i]) (by simp[lt]) fun h1 a1 s1=>?_);refine Za (ZI (zfm ne n (i+1) _ _ a1 (b.extBut s1.extBut ne) 'd' fun h2 a2 s2=>Zh ?_));have e:xs.toList.drop i=xs[i]::xs.toList.drop (i+1):=by simp[ZaQ,lt]
  have z:=q h2 (by rw[show i+(n+1)=i+1+n by omega];exact a2) (s1.trans s2);rw[e,List.take_succ_cons] at z;exact z
theorem zfz {l:Addr} {xs:Array Value} {ts:List (Bool×(Value->Sem Unit))} {Q:Unit->Shared->Prop} (hh:A.handled=none) (hl:s.heap.IsList l xs) (hn:ts.length=xs.size) (hs:ts.findIdx? (·.1)=none)
  (h:∀ h',Heap.ExtBut s.heap.objs.size s.heap h'->wpAny (model prog w) A (assignInOrder (ts.map (·.2)) xs.toList) Q E { s with heap:=h' }):wpAny (model prog w) A (unpack (.ref l) ts) Q E s:=by
 have ne:l≠s.heap.objs.size:=by obtain ⟨o,ho,_⟩:=hl;exact Zr (Zi ho)
 unfold unpack;rw[hn,hs];refine Za (ZI ?_);unfold unpackItems;refine Za ?_;unfold notIterableAtAll;refine Za (Zbx hl.typeIs slot_list_iter.lookup (Zh ?_));simp only[zzB,if_false];refine Za (ZI (Zbb hl ?_));refine Za (ZI (zfm ne xs.size 0 _ _ ⟨_,Zq _ rfl,rfl,rfl⟩ (hl.push _) 'd' fun h1 a1 s1=>?_));rw[show List.take xs.size (List.drop 0 xs.toList)=xs.toList by rw[Zb4];exact List.take_of_length_le 'g',if_neg 'g'];refine Za (ZI (wpAny_pyNext_list_end hh a1 ((hl.push _).extBut s1.extBut ne) 'g' fun h2 e2=>?_));simp only[Option.isSome_none,zzB,if_false];exact Zh (h h2 fun b o hb e=>e2 b o hb (s1.extBut b o hb (Zc _ e)))
end
def gTL (K:PySem.W.Frag) (n:Nat) (t:TGs):TG:=fun v σ H Q=>∃ a xs,v=.ref a/\(gH K H a xs\/dL K H a xs)/\xs.length=n/\t xs σ H Q
theorem pg_tl {X:Cx} {pos:Pos} {es:List Expr} {k:Nat} {t:TGs} {n:Nat} (hc:X.calm=true) (h:PGs X es t) (hn:(assignEach es X.env).length=n) (hst:(assignEach es X.env).findIdx? (·.1)=none):PG X (.Tuple es k pos) (gTL X.K n t):=by
 intro pins s σ H v u Q I r hw;obtain ⟨a,xs,e1,hq,hl,hw⟩:=hw;rcases hq with hq|hq
 .exact zkI hc h hn hst pins s σ H v u Q I r ⟨a,xs,e1,hq,hl,hw⟩
 .subst e1;cases r;obtain ⟨its,rv,pl,hz⟩:=I.list hq;rw[assign_Tuple];refine Za (ZbP (zfz (I.ok.hd hc) pl.isList (by simp[hn,← hl,rv.length]) hst fun h' hx=>?_));exact h pins _ σ H xs _ Q (I.kept (t':=s.toks) fun b o e=>hx b o (Zr (Zi e)) e) (by simpa using rv) hw
end L2
namespace L3
open PySem PySem.Spec PyProof.Rows L2 PySem.SeqAt
theorem zeX {K:yI} {H:Hp} {f:Str} {w:W} {v:V} (q:wM K H w v):∀ {l:List (Str×W)} {l':List (Str×V)},yJ K H l l'->yJ K H (uB f w l) (sN f v l')
 | [],_,h=>by rw[show _=[] from h];exact ⟨v,[],rfl,q,rfl⟩
 | (n,u)::r,_,⟨x,t,e,h,hr⟩=>by
  subst e;unfold uB sN
  by_cases hn:n=f
  .rw[if_pos hn,if_pos hn];exact ⟨v,t,rfl,q,hr⟩
  .rw[if_neg hn,if_neg hn];exact ⟨x,_,rfl,h,zeX q hr⟩
section
variable {Γ:Ctx3} {p:Par} (g:Good Γ p)
def OkS (Γ:Ctx3) (p:Par) (s:IS):Prop:=∀ M X x,Lk Γ M p X->mS s M x=true->PS X x (lowS X.K (zT Γ XN s))
def OkSs (Γ:Ctx3) (p:Par) (s:ISs):Prop:=∀ M X x,Lk Γ M p X->qV s M x=true->PSs X x (lowS X.K (zI Γ XN s))
include g
theorem t_asg (i:Nat) (e:IE):OkS Γ p (.asg i e):=by
 intro M X x L h;obtain ⟨y,py,v,q,rfl,h1,h2,h3⟩:=zmm h
 .
  have lo:=zfc L h2;have hN:=qK h1;rw[← L.N] at hN;have nd:X.N.Nodup:=L.N▸L.nd
  have low:∀ (te:TE),(∀ τ H Q,wO X.K (zH Γ XN e).e τ H Q->te τ H Q)->∀ D τ H,lowS X.K (zT Γ XN (.asg i e)) D τ H->tAsg te (zj7 i) D τ H:=fun te k D τ H hq=>by
   obtain ⟨σ,G,D3,hs,ab,f,hq⟩:=hq;refine k _ _ _ ⟨σ,G,hs,ab,yN g.mono XN e σ G _ _ (fun w G' hq v' H' g' rp ab'=>?_) hq⟩;exact f.nx _ G' _ H' g' ((hs.mono g').set rp i) ab' hq
  by_cases hl:cX v=true
  .exact (zkG (i:=i) nd hN lo.1 (pW g e M X v L h3).1 (tE hl) lo.2).imp (low _ fun _ _ _ z=>z)
  .cases v with
   |ListComp x gens sc qq =>
    cases e with
    |lc tg names caps it c elt =>
     match gens,h3 with
     | [⟨t,ix,ifs,asy⟩],h3 =>
      have h3':=h3;replace h3:=bd10 h3;obtain ⟨⟨⟨⟨⟨⟨⟨⟨⟨z0,z1⟩,z2⟩,z3⟩,z4⟩,z5⟩,z6⟩,z7⟩,z8⟩,z9⟩:=h3;replace z0:=of_decide_eq_true z0;subst z0;have cond:∃ b,swapsWith (.ListComp x [⟨t,ix,ifs,0⟩] sc qq) (some (.Name y py)) q.line X.env=pure b:=⟨_,rfl⟩;obtain ⟨b,hb⟩:=cond
      cases b with
      |false=>exact (zkG (i:=i) nd hN lo.1 (pW g _ M X _ L h3').1 hb lo.2).imp (low _ fun _ _ _ z=>z)
      |true =>
       obtain ⟨c1,c2,c3,c4,c5,c6,c7,c8⟩:=zcy g tg names caps it c elt (sndI g it) (sndO g c) (pW g elt) L (x:=x) (t:=t) (ix:=ix) (ifs:=ifs) (sc:=sc) (by simp only[Zp];exact ⟨⟨⟨⟨⟨⟨⟨⟨z1,z2⟩,z3⟩,z4⟩,z5⟩,z6⟩,z7⟩,z8⟩,z9⟩);exact (zjo (i:=i) L.fits.calm c1 c2 c3 c4 c5 c6 nd hN lo.1 lo.2 hb c7).imp (low _ c8)
    |_=>exact absurd h3 zzN
   |SetComp _ _ _ _=>cases e<;>exact absurd h3 zzN
   |DictComp _ _ _ _ _=>cases e<;>exact absurd h3 zzN
   |_=>exact absurd rfl hl
theorem sndTL {M:MC} {X:Cx} {ts:ITgs} {es:List Expr} {k:Nat} {q:Pos} (L:Lk Γ M p X) (h:mGs M ts es=true):PG X (.Tuple es k q) (lowG X.K fun w σ G Q=>zX (.tup ts) (unl G w) σ G Q):=by
 obtain ⟨ps,hn,hst⟩:=zlp L ts es h;refine (pg_tl (n:=es.length) L.fits.calm ps hn hst).imp fun v σ H Q q=>?_;obtain ⟨w,σ3,G,rp,hs,ab,q⟩:=q
 cases w with
 |tup ws =>
  obtain ⟨a,vs,rfl,sq,rs⟩:=rp;exact ⟨a,vs,rfl,.inl sq,by rw[rs.length];exact zjN ts es ws σ3 G _ h q,ws,σ3,G,rs,hs,ab,q⟩
 |ref p =>
  cases (show v=.ref p from rp);simp only[unl] at q
  split at q
  .rename_i ws e;obtain ⟨vs,sq,rs⟩:=ab.seq e;exact ⟨p,vs,rfl,.inr sq,by rw[rs.length];exact zjN ts es ws σ3 G _ h q,ws,σ3,G,rs,hs,ab,q⟩
  .exact q.elim
 |_=>exact q.elim
theorem zm5 (ts:ITgs) (e:IE):OkS Γ p (.asgT ts e):=by
 intro M X x L h;obtain ⟨es,k,qt,v,q,rfl,h1,h2,h3,h4⟩:=zj0 h
 .
  have pg:=sndTL g (k:=k) (q:=qt) L h3;refine (zkH (pW g e M X v L h4).1 pg (by unfold swapsWithSole;exact tE h1) (by cases v<;>first|rfl|cases h2) rfl).imp fun D τ H hq=>?_;obtain ⟨σ,G,D3,hs,ab,f,hq⟩:=hq;refine ⟨σ,G,hs,ab,yN g.mono XN e σ G _ _ (fun w G' hq v' H' g' rp ab'=>?_) hq⟩;exact ⟨w,σ,G',rp,hs.mono g',ab',bU _ (unl G' w) σ G' _ _ (fun σ2 G2 hq τ2 H2 g2 hs2 a2=>f.nx σ2 G2 τ2 H2 (g'.trans g2) hs2 a2 hq) hq⟩
theorem zm6 (i j:Nat) (e:IE):OkS Γ p (.asgS i j e):=by
 intro M X x L h;obtain ⟨t,v,q,rfl,h1,h2,h3,h4⟩:=zj1 h;obtain ⟨y,py,z,pz,p2,k,qt,rfl,hi,hj⟩:=zll h3;have l1:=zfc L hi.2;have l2:=zfc L hj.2;have pg:=zlL (k:=k) (p2:=p2) (pos:=qt) L.fits.calm (zbx (zdV (pos:=py) (i:=i) (L.N▸L.nd) (by rw[L.N];exact qK hi.1) l1.1 l1.2) (zbx (zdV (pos:=pz) (i:=j) (L.N▸L.nd) (by rw[L.N];exact qK hj.1) l2.1 l2.2) zhi)) rfl rfl;refine (zkH (pW g e M X v L h4).1 pg (by unfold swapsWithSole;exact tE h1) (by cases v<;>first|rfl|cases h2) rfl).imp fun D τ H hq=>?_;obtain ⟨σ,G,D3,hs,ab,f,hq⟩:=hq;refine wI (yN g.mono XN e) hs ab hq fun w G1 v1 H1 g1 hs1 r1 a1 hq=>?_
 cases w with
 |tup ws =>
  cases ws with
  |nil=>exact hq.elim
  |cons x r =>
   obtain ⟨a,vs,rfl,sq,rs⟩:=r1;obtain ⟨v0,vr,rfl,rx,rr⟩:=rs;refine ⟨a,v0,vr,rfl,sq,by rw[rr.length];exact hq.1,fun p hp=>⟨v0,[.ref p],rfl,.ref p,[],rfl,rfl,?_⟩⟩;have gr:=wT (K:=X.K) (u:=.lst vr) hp;have ab2:xE X.K (xM H1 p (.lst vr)) (put G1 p (.lst r)):=a1.new hp ⟨vr,rfl,rr.mono gr⟩;exact f.nx _ _ _ _ (g1.trans gr) (((hs1.mono gr).set (rx.mono gr) i).set (show wM X.K _ (.ref p) (.ref p) from rfl) j) ab2 (hq.2 p (a1.free hp))
 |_=>exact hq.elim
theorem zm7 (o i e:IE):OkS Γ p (.asgI o i e):=by
 intro M X x L h;obtain ⟨l,r,qs,v,q,rfl,h1,h2,h3,h4,h5⟩:=zj2 h
 .
  have pe:=(pW g e M X v L h5).1;have po:=(pW g o M X l L h3).1;have pi:=(pW g i M X r L h4).1;intro pins s τ H D I hq;obtain ⟨σ,G,D3,hs,ab,f,hq⟩:=hq
  have q1:wO X.K (zH Γ XN e).e τ H fun v H1=>wO X.K (zH Γ XN o).e τ H1 fun ov H2=>wO X.K (zH Γ XN i).e τ H2 fun iv H3=>zkT X.K ov iv v H3 fun H4=>D.nx τ H4:=by
   refine wI (yN g.mono XN e) hs ab hq fun w G1 v1 H1 g1 hs1 r1 a1 hq=>?_;refine wI (yN g.mono XN o) hs1 a1 hq fun x G2 v2 H2 g2 hs2 r2 a2 hq=>?_;refine wI (yN g.mono XN i) hs2 a2 hq fun y G3 v3 H3 g3 hs3 r3 a3 hq=>?_;exact ⟨x,y,w,G3,r2.mono g3,r3,(r1.mono g2).mono g3,a3,zgR (fun G4 hq H4 g4 a4=>f.nx σ G4 τ H4 (g1.trans (g2.trans (g3.trans g4))) (hs3.mono g4) a4 hq) hq⟩
  refine wpAny_Assign_Subscript (wQ (pe pins s τ H _ I q1) fun u1 s1 ⟨v1,H1,I1,r1,q1⟩=>wQ (po pins s1 τ H1 _ I1 q1) fun u2 s2 ⟨v2,H2,I2,r2,q2⟩=>wQ (pi pins s2 τ H2 _ I2 q2) fun u3 s3 ⟨v3,H3,I3,r3,q3⟩=>?_) (tE h1);exact wQ (znm (hu_X g L) pins s3 τ H3 v2 v3 v1 u2 u3 u1 _ I3 r2 r3 r1 q3) fun _ s4 ⟨H4,I4,q4⟩=>⟨τ,H4,I4,q4⟩
theorem zm8 (o:IE) (f:Str) (e:IE):OkS Γ p (.asgA o f e):=by
 intro M X x L h;obtain ⟨l,qs,v,q,rfl,h2,h3,h4⟩:=zj3 h
 .
  refine (znE (pW g o M X l L h3).1 (pW g e M X v L h4).1 (tE h2)).imp fun D τ H hq=>?_;obtain ⟨σ,G,D3,hs,ab,fi,hq⟩:=hq;refine wI (yN g.mono XN e) hs ab hq fun w G1 v1 H1 g1 hs1 r1 a1 hq=>?_;refine wI (yN g.mono XN o) hs1 a1 hq fun x G2 v2 H2 g2 hs2 r2 a2 hq=>?_
  cases x with
  |ref a =>
   cases r2;simp only[satR] at hq
   split at hq
   .rename_i C fs e2;obtain ⟨⟨l2,hl,hf⟩,hlen,hq⟩:=hq;obtain ⟨dx,fs',e',rk⟩:=a2.ins e2;have c:=g.cl _ hl;refine ⟨a,C,dx,fs',rfl,e',by rw[L.fits.K];exact c.1,by rw[L.fits.K];exact c.2 f hf,by rw[rk.length];exact hlen,?_⟩;have gr:=a2.grow (u:=.ins C dx (sN f v1 fs')) e2;exact fi.nx σ _ τ _ (g1.trans (g2.trans gr)) (hs2.mono gr) (a2.chg (o:=.ins C (uB f w fs)) e2 ⟨dx,_,rfl,zeX ((r1.mono g2).mono gr) (rk.mono gr)⟩) hq
   .exact hq.elim
  |_=>exact hq.elim
theorem rA:OkS Γ p .retN/\OkS Γ p .pass/\OkS Γ p .brk/\OkS Γ p .cnt/\OkS Γ p .dead:=by
 refine ⟨fun M X x L h=>?_,fun M X x L h=>?_,fun M X x L h=>?_,fun M X x L h=>?_,fun M X x L h=>?_⟩
 .obtain ⟨q,rfl⟩:=zjX h;exact zlE.imp fun D τ H hq=>by obtain ⟨σ,G,D3,hs,ab,f,hq⟩:=hq;exact f.rt .non G _ H .refl (show wM X.K H .non .non from rfl) ab hq
 .obtain ⟨q,rfl⟩:=zjY h;exact zlF.imp fun D τ H hq=>by obtain ⟨σ,G,D3,hs,ab,f,hq⟩:=hq;exact f.nx σ G τ H .refl hs ab hq
 .obtain ⟨q,rfl⟩:=zml h;exact zjq.imp fun D τ H hq=>by obtain ⟨σ,G,D3,hs,ab,f,hq⟩:=hq;exact f.bk σ G τ H .refl hs ab hq
 .obtain ⟨q,rfl⟩:=zmj h;exact zdS.imp fun D τ H hq=>by obtain ⟨σ,G,D3,hs,ab,f,hq⟩:=hq;exact f.ct σ G τ H .refl hs ab hq
 .exact zjp.imp fun D τ H hq=>by obtain ⟨σ,G,D3,hs,ab,f,hq⟩:=hq;exact hq.elim
theorem t_ex (e:IE):OkS Γ p (.ex e):=by
 intro M X x L h;obtain ⟨v,q,rfl,hh⟩:=zov h
 .have h:=hh;refine (zlG (pW g e M X v L h.2).1 (tE h.1)).imp fun D τ H hq=>?_;obtain ⟨σ,G,D3,hs,ab,f,hq⟩:=hq;exact wI (yN g.mono XN e) hs ab hq fun w G1 v1 H1 g1 hs1 r1 a1 hq=>f.nx σ G1 τ H1 g1 hs1 a1 hq
theorem t_ret (e:IE):OkS Γ p (.ret e):=by
 intro M X x L h;obtain ⟨v,q,rfl,hh⟩:=zmf h
 .have h:=hh;refine (znC (pW g e M X v L h).1).imp fun D τ H hq=>?_;obtain ⟨σ,G,D3,hs,ab,f,hq⟩:=hq;exact wI (yN g.mono XN e) hs ab hq fun w G1 v1 H1 g1 hs1 r1 a1 hq=>f.rt w G1 v1 H1 g1 r1 a1 hq
theorem t_ite (c:IE) (a b:ISs) (ha:OkSs Γ p a) (hb:OkSs Γ p b):OkS Γ p (.ite c a b):=by
 intro M X x L h;obtain ⟨t,y,z,q,rfl,hh⟩:=zmh h
 .have h:=hh;refine (ps_if (pW g c M X t L h.1).2.1 (ha M X y L h.2.1) (hb M X z L h.2.2)).imp fun D τ H hq=>?_;obtain ⟨σ,G,D3,hs,ab,f,hq⟩:=hq;refine zep (fQ g.mono XN c) hs ab hq fun k G1 H1 g1 hs1 a1 hq=>?_
  split
  .rename_i hk;rw[if_pos hk] at hq;exact ⟨σ,G1,D3,hs1,a1,f.grow g1,hq⟩
  .rename_i hk;rw[if_neg hk] at hq;exact ⟨σ,G1,D3,hs1,a1,f.grow g1,hq⟩
theorem t_whl (c:IE) (b:ISs) (hb:OkSs Γ p b):OkS Γ p (.whl c b):=by
 intro M X x L h;obtain ⟨t,y,q,rfl,hh⟩:=zme h
 .have h:=hh;have hp:PassesOwn 'f' X.A X.env X.xe:=by rw[L.fits.xe];exact PassesOwn.never
  refine (zjn hp (pW g c M X t L h.1).2.1 (hb M X y L h.2)).imp fun D τ H hq=>?_;obtain ⟨σ,G,D3,hs,ab,f,Pv,⟨m0,p0⟩,step⟩:=hq;refine ⟨fun m τ H'=>yB X.K H H'/\∃ σ G,xY X.K H' σ τ/\xE X.K H' G/\Pv m σ G,⟨m0,.refl,σ,G,hs,ab,p0⟩,?_⟩;rintro m τ1 H1 ⟨g1,σ1,G1,hs1,a1,p1⟩;refine zep (fQ g.mono XN c) hs1 a1 (step m σ1 G1 p1) fun k G2 H2 g2 hs2 a2 hq=>?_
  split
  .rename_i hk;rw[if_pos hk] at hq;refine ⟨fun τ' H'=>∃ m',m' < m/\yB X.K H H'/\∃ σ G,xY X.K H' σ τ'/\xE X.K H' G/\Pv m' σ G,fun τ' H' z=>z,?_⟩;refine ⟨σ1,G2,_,hs2,a2,⟨?_,?_,?_,?_⟩,hq⟩
   .rintro σ3 G3 τ3 H3 g3 hs3 a3 ⟨m',hm,p'⟩;exact ⟨m',hm,g1.trans (g2.trans g3),σ3,G3,hs3,a3,p'⟩
   .exact fun σ3 G3 τ3 H3 g3 hs3 a3 z=>f.nx σ3 G3 τ3 H3 (g1.trans (g2.trans g3)) hs3 a3 z
   .rintro σ3 G3 τ3 H3 g3 hs3 a3 ⟨m',hm,p'⟩;exact ⟨m',hm,g1.trans (g2.trans g3),σ3,G3,hs3,a3,p'⟩
   .exact fun w G3 v3 H3 g3 r3 a3 z=>f.rt w G3 v3 H3 (g1.trans (g2.trans g3)) r3 a3 z
  .rename_i hk;rw[if_neg hk] at hq;exact f.nx σ1 G2 τ1 H2 (g1.trans g2) hs2 a2 hq
theorem t_for (tg:ITg) (it:II) (b:ISs) (hb:OkSs Γ p b):OkS Γ p (.for tg it b):=by
 intro M X x L h;obtain ⟨t,y,z,q,rfl,h1,h2,h3,h4⟩:=zmi h
 .
  have hp:PassesOwn 'f' X.A X.env X.xe:=by rw[L.fits.xe];exact PassesOwn.never
  refine (znD hp L.fits.calm (sndI g it M X y L h3 t) (sndG L tg t h2) (hb M X z L h4) (zc7 h1)).imp fun D τ H hq=>?_;obtain ⟨σ,G,D3,hs,ab,f,hq⟩:=hq;refine ⟨σ,G,hs,ab,zn1 g.mono XN it σ G _ _ (fun items stab G1 hq J H1 g1 a1 ii=>?_) hq⟩;obtain ⟨Pv,p0,pst,step,fin⟩:=hq;refine ⟨fun i m τ H'=>m+i=items.length/\yB X.K H1 H'/\∃ σ G,xY X.K H' σ τ/\xE X.K H' G/\Pv i σ G,⟨items.length,rfl,.refl,σ,G1,hs.mono g1,a1,p0⟩,?_⟩;rintro i m τ2 H2 ⟨hm,g2,σ2,G2,hs2,a2,p2⟩;have st:=pst i σ2 G2 p2 'd'
  by_cases hi:i<items.length
  .refine .inr ⟨ii.go i H2 G2 g2 a2 st hi,fun τ' H'=>∃ m',m' < m/\(m'+(i+1)=items.length/\yB X.K H1 H'/\∃ σ G,xY X.K H' σ τ'/\xE X.K H' G/\Pv (i+1) σ G),fun τ' H' z=>z,fun x H' yl=>?_⟩;obtain ⟨w,ew,g3,rp,a3⟩:=ii.yld i H2 G2 x H' g2 a2 st hi yl;refine ⟨w,σ2,G2,rp,hs2.mono g3,a3,bU tg w σ2 G2 _ _ (fun σ4 G4 hq τ4 H4 g4 hs4 a4=>?_) (step i w σ2 G2 ew p2)⟩;refine ⟨σ4,G4,_,hs4,a4,⟨?_,?_,?_,?_⟩,hq⟩
   .exact fun σ5 G5 τ5 H5 g5 hs5 a5 z=>⟨m-1,by omega,by omega,g2.trans (g3.trans (g4.trans g5)),σ5,G5,hs5,a5,z⟩
   .exact fun σ5 G5 τ5 H5 g5 hs5 a5 z=>f.nx σ5 G5 τ5 H5 (g1.trans (g2.trans (g3.trans (g4.trans g5)))) hs5 a5 z
   .exact fun σ5 G5 τ5 H5 g5 hs5 a5 z=>⟨m-1,by omega,by omega,g2.trans (g3.trans (g4.trans g5)),σ5,G5,hs5,a5,z⟩
   .exact fun w5 G5 v5 H5 g5 r5 a5 z=>f.rt w5 G5 v5 H5 (g1.trans (g2.trans (g3.trans (g4.trans g5)))) r5 a5 z
  .have ei:i=items.length:=by omega
   subst ei;exact .inl ⟨ii.stop _ H2 G2 g2 a2 st (zzR _),f.nx σ2 G2 τ2 H2 (g1.trans g2) hs2 a2 (fin σ2 G2 p2)⟩
theorem sndSs (s:ISs):OkSs Γ p s :=
 ISs.rec (motive_1:=OkS Γ p) (motive_2:=OkSs Γ p) (t_asg g) (zm5 g) (zm7 g) (zm8 g) (t_ex g) (t_ret g) (rA g).1 (rA g).2.1 (rA g).2.2.1 (rA g).2.2.2.1
  (fun c a b ha hb=>t_ite g c a b ha hb) (fun c b hb=>t_whl g c b hb) (fun tg it b hb=>t_for g tg it b hb) (rA g).2.2.2.2 (zm6 g)
  (fun M X x L h=>by
   cases zmg h;exact zlD.imp fun D τ H hq=>by obtain ⟨σ,G,D3,hs,ab,f,hq⟩:=hq;exact f.nx σ G τ H .refl hs ab hq)
  (fun s ss hs1 hs2 M X x L h=>by
   obtain ⟨y,ys,rfl,hh⟩:=zjZ h
   .have h:=hh;refine (zjm (hs1 M X y L h.1) (hs2 M X ys L h.2)).imp fun D τ H hq=>?_;obtain ⟨σ,G,D3,hs,ab,f,hq⟩:=hq;refine ⟨σ,G,{ D3 with nx:=zI Γ XN ss D3 },hs,ab,⟨?_,f.bk,f.ct,f.rt⟩,hq⟩;exact fun σ2 G2 τ2 H2 g2 hs2 a2 z=>⟨σ2,G2,D3,hs2,a2,f.grow g2,z⟩) s
end
end L3
namespace PySem
open Sem (wp)
section
variable {prog:Program} {w:World} {s:Shared} {A:Around} {E:Value->Shared->Prop}
def SSq (b:Bool) (h:Heap) (l:Addr) (its:Array Value):Prop:=match b with
 |true=>h.IsTuple l its
 |false=>h.IsList l its
end
section
variable {prog:Program} {w:World} {s:Shared} {A:Around} {E:Value->Shared->Prop}
end
end PySem
namespace PySem
open Sem (wp)
section
variable {prog:Program} {w:World} {s:Shared} {A:Around} {E:Value->Shared->Prop}
end
end PySem
namespace L2
open PySem PySem.Spec PyProof.Rows
structure TurnL (P:Program) (w:World) (K:PySem.W.Frag) (T:String) (J:It) (fp:List Addr) (it:Addr) (tn:Nat->Heap->Prop):Prop where
 mem:it∈fp
 ty:∀ i h,tn i h->∃ o,h.get? it=some o/\o.cls=.type T
 obj:∀ i h,tn i h->∀ b∈fp,∃ o,h.get? b=some o/\∀ v,o.data≠.cell v
 keep:∀ i h h',tn i h->(∀ b∈fp,∀ o,h.get? b=some o->h'.get? b=some o)->tn i h'
 item:∀ (X:Cx),X.prog=P->X.w=w->X.K=K->X.calm=true->∀ (i:Nat) (pins:List (Addr×Obj)) (s:Shared) (σ:St) (H:Hp) (E:Value->Shared->Prop),Inv X pins σ H s->(∀ b∈fp,dM X pins H b)->tn i s.heap->J.go i H ->
  wpAny (model P w) X.A (pyNext (.ref it)) (fun r s2=>∃ u x H',r=some u/\Inv X pins σ H' s2/\yR x u/\J.yld i H x H'/\tn (i+1) s2.heap/\∀ b∈fp,H' b=none) E s
 done:∀ (X:Cx),X.prog=P->X.w=w->X.K=K->X.calm=true->∀ (i:Nat) (pins:List (Addr×Obj)) (s:Shared) (σ:St) (H:Hp) (E:Value->Shared->Prop),Inv X pins σ H s->(∀ b∈fp,dM X pins H b)->tn i s.heap->J.stop i H ->
  wpAny (model P w) X.A (pyNext (.ref it)) (fun r s1=>r=none/\Inv X pins σ H s1) E s
 self:∀ (A:Around) (i:Nat) (s:Shared) (Q:Value->Shared->Prop) (E:Value->Shared->Prop),tn i s.heap->Q (.ref it) s->wpAny (model P w) A (pyIter (.ref it)) Q E s
 hint:∀ (A:Around) (i:Nat) (s:Shared) (Q:Bool->Shared->Prop) (E:Value->Shared->Prop),tn i s.heap->(∀ b,Q b s)->wpAny (model P w) A (Builtin.List.listLengthHint (.ref it)) Q E s
noncomputable abbrev Cx.atA (X:Cx) (A:Around):Cx:={ X with A:=A }
theorem Cx.Ok.atA {X:Cx} (ok:X.Ok) {A:Around} (hf:A.frames=X.A.frames) (hh:A.handled=X.A.handled):(X.atA A).Ok :=
 ⟨ok.mod,ok.kind,ok.glob,ok.blt,ok.above,ok.inj,ok.has,ok.cab,fun z=>hh.trans (ok.hd z),hf.trans ok.frames,ok.stk,ok.exf,ok.bs,ok.bsz,ok.noex,ok.exfs,ok.funs,ok.frf⟩
section
variable {X:Cx} {pins:List (Addr×Obj)} {σ:St} {H:Hp} {s:Shared}
theorem Inv.atA (I:Inv X pins σ H s) {A:Around} (hf:A.frames=X.A.frames) (hh:A.handled=X.A.handled):Inv (X.atA A) pins σ H s :=
 ⟨I.ok.atA hf hh,I.os,I.bare,I.base,I.loc,I.cell,I.free,I.freeC,I.pin,I.hok,I.len,I.tk⟩
theorem Inv.unA {A:Around} (hf:A.frames=X.A.frames) (hh:A.handled=X.A.handled) (I:Inv (X.atA A) pins σ H s):Inv X pins σ H s :=
 ⟨Cx.Ok.atA (X:=X.atA A) (A:=X.A) I.ok hf.symm hh.symm,I.os,I.bare,I.base,I.loc,I.cell,I.free,I.freeC,I.pin,I.hok,I.len,I.tk⟩
theorem zj9 {P:Program} {w:World} {A:Around} {R:Result->Shared->Prop} (S I:Addr) (res:Value) (Jn:Nat->Shared->Prop)
  (step:∀ k s,Jn k s->wpAny (model P w) A.in1 (pyNext (.ref I)) (fun r s'=>match r with
   |none=>R (.ok (.ret res)) s'
   |some v=>∃ its c,s'.heap.get? S=some (sC its c)/\its.length<sizeLine/\∀ h',Heap.SameBut S s'.heap h'->h'.get? S=some (sC (its++[v]) (c+1))->∃ k',k' < k/\Jn k' { s' with heap:=h' }) (fun e s'=>R (.error e) s') s) :
  ∀ k s,Jn k s->codeAny (model P w) A (.builtin "list.extend.loop" ⟨[.ref S,.ref I,res],[]⟩) R s:=by
 intro k
 induction k using Nat.strongRecOn with
 |_ k ih =>
  intro s j;refine Zb0 F.entry_extend_loop ?_;rw[Zbm ZaV _];show wpAny _ A.in1 (pyNext (.ref I) >>= _) _ _ s;refine Za (wQ (step k s j) fun r s' q=>?_)
  cases r with
  |none=>exact Zh q
  |some v =>
   obtain ⟨its,c,hS,hl,q⟩:=q;show wpAny _ A.in1 (updateSeq S (·.push v) >>= _) _ _ _;refine Za ?_;obtain ⟨k',hk,j'⟩:=q _ (Heap.SameBut.update ..) (by exact (Zam (Obj.mapSeq (·.push v)) hS rfl).trans (by simp[Obj.mapSeq,sC]));exact Zax hS rfl (Zh ⟨Zbr ZaV _,ih k' hk _ j'⟩) (by show its.toArray.size<=sizeLine;rw[zzS];omega) (by show (its.toArray.push v).size<=sizeLine+1;rw[Array.size_push,zzS];omega)
theorem Inv.adopt {a:Addr} {o:HO} (I:Inv X pins σ H s) (off:Off X pins a) (hn:H a=none) (new:wY X.prog X.w (xM H a o) s.heap a o):Inv X pins σ (xM H a o) s:=by
 have b:=I.base;have nb:∀ b' ob,X.s₀.heap.get? b'=some ob->b'≠a:=fun b' ob e=>Zr (Zn (Zi e) off.ge);refine ⟨I.ok,I.os,I.bare,⟨b.keep,b.slot,fun c ob e n hx=>?_,b.there,fun c xs e=>?_,fun c ob u e=>?_,fun c ps e=>?_⟩,I.loc,I.cell,?_,fun x c e=>?_,fun p hp=>?_,I.hok.adopt (fun c u v _ q=>q) hn new,I.len,I.tk⟩
 .rw[yS (nb c ob e)];exact b.free c ob e n hx
 .rw[yS (yE (b.tups c xs e) hn)];exact b.tups c xs e
 .rw[yS (yE (b.frzs c ob u e) hn)];exact b.frzs c ob u e
 .obtain ⟨mo,e'⟩:=b.tbls c ps e;exact ⟨mo,by rw[yS (yE e' hn)];exact e'⟩
 .rw[yS off.ne.symm];exact I.free
 .rw[yS (off.cl x c e)];exact I.freeC x c e
 .obtain ⟨q1,q2,q3⟩:=I.pin p hp;exact ⟨q1,by rw[yS (off.pn p hp)];exact q2,q3⟩
theorem zhK (hc:X.calm=true) {T:String} {J:It} {fp:List Addr} {it:Addr} {tn:Nat->Heap->Prop} {Q:VK} (hTl:(Value.type T==Value.type "list")=false) (hTt:(Value.type T==Value.type "tuple")=false)
  (I:Inv X pins σ H s) (Tn:TurnL X.prog X.w X.K T J fp it tn) (t0:tn 0 s.heap) (hf:∀ b∈fp,dM X pins H b) (n:Nat) (hn:n<=sizeLine) (W:Nat->List V->Hp->Prop) (w0:W 0 [] H)
  (wgo:∀ i acc H,i<n->W i acc H->J.go i H/\∀ x H',J.yld i H x H'->W (i+1) (acc++[x]) H') (wst:∀ acc H,W n acc H->J.stop n H/\∀ p,H p=none->Q (.ref p) (xM H p (.lst acc))) :
  wpAny 'f' X.A (call (.type "list") [.ref it]) (EP X pins σ Q) X.xe s:=by
 have hfp:∀ b∈fp,b<s.heap.objs.size:=fun b hb=>by
  obtain ⟨o,e,_⟩:=Tn.obj _ _ t0 b hb;exact Zi e
 have hSf:∀ b∈fp,b≠s.heap.objs.size:=fun b hb=>Zr (hfp b hb);have hSI:s.heap.objs.size≠it:=(hSf it Tn.mem).symm;have off:Off X pins s.heap.objs.size:=I.off (zzR _);have nfs:s.heap.objs.size∉X.fs:=I.nofs (zzR _);have fr0:∀ b∈fp,H b=none:=fun b hb=>(hf b hb).1;have HS0:H s.heap.objs.size=none:=I.hok.fresh (zzR _)
 have fpok:∀ {H':Hp} {ob:Obj},(∀ b∈fp,H' b=none)->∀ b∈fp,dM X ((s.heap.objs.size,ob)::pins) H' b:=fun {H' ob} hn b hb=>by
  obtain ⟨q1,q2,q3,q4,q5,q6⟩:=hf b hb;refine ⟨hn b hb,q2,q3,q4,q5,fun p hp=>?_⟩;rcases Zm.mp hp with hp|hp
  .exact q6 p (Zaq _ hp)
  .rcases Zk.mp hp with rfl|hp
   .exact (hSf b hb).symm
   .exact q6 p (Zs _ hp)
 have pinS:∀ {H':Hp} {s':Shared} {its:List Value} {c:Nat},Inv X pins σ H' s'->H' s.heap.objs.size=none->s'.heap.get? s.heap.objs.size=some (sC its c)->Inv X ((s.heap.objs.size,sC its c)::pins) σ H' s':=fun {H' s' its c} I' hn e =>
  I'.pins_of fun p hp=>by
   rcases Zk.mp hp with rfl|hp
   .exact ⟨e,hn,off.ne,nfs,fun v z=>nomatch z⟩
   .exact I'.pin p (Zs _ hp)
 have unpin:∀ {H':Hp} {s':Shared} {ob:Obj},Inv X ((s.heap.objs.size,ob)::pins) σ H' s'->Inv X pins σ H' s':=fun {H' s' ob} I'=>I'.pins_of fun p hp=>I'.pin p (Zs _ (Zd _ hp))
 refine callType_codes (Q₁:=fun obj s₁=>obj=.ref s.heap.objs.size/\s₁={ s with heap:=s.heap.push { cls:=.type "list", data:=.seq #[] } }) F.called_list (F.typeCall_list_1 _) F.entry_list_init
  (code_list_new _ ⟨rfl,rfl⟩) fun obj s₁ h₁=>?_
 obtain ⟨rfl,rfl⟩:=h₁;have hS:(s.heap.push { cls:=.type "list", data:=.seq #[] }).get? s.heap.objs.size=some { cls:=.type "list", data:=.seq #[] }:=Zq _ rfl;refine ⟨⟨_,hS,rfl⟩,F.args_list_init_2 _ _,?_⟩
 have loop:∀ (h':Heap) (c:Nat),h'.get? s.heap.objs.size=some (sC [] c)->(∀ b o,s.heap.get? b=some o->h'.get? b=some o) ->
   codeAny 'f' X.A.in1 (.builtin "list.extend.loop" ⟨[.ref s.heap.objs.size,.ref it,.none],[]⟩) (wants (fun r s₂=>r=.none/\EP X pins σ Q (.ref s.heap.objs.size) s₂) X.xe) { s with heap:=h' }:=by
  intro h' c e0 k0
  refine zj9 s.heap.objs.size it .none (fun k s'=>∃ i acc H' its c,k+i=n/\Inv X pins σ H' s'/\tn i s'.heap/\(∀ b∈fp,H' b=none)/\H' s.heap.objs.size=none/\s'.heap.get? s.heap.objs.size=some (sC its c)/\yV acc its/\acc.length<=i/\W i acc H') ?_ n _
   ⟨0,[],H,[],c,by omega,I.kept (t':=s.toks) k0,Tn.keep _ _ _ t0 fun b _ o e=>k0 b o e,fr0,HS0,e0,.nil,zzR _,w0⟩
  rintro k s' ⟨i,acc,H',its,c',hk,I',st,fr,hS',oS,v,la,wi⟩;have Ip:=(pinS I' hS' oS).atA (A:=X.A.in1.in1) rfl rfl
  by_cases hi:i<n
  .obtain ⟨go,yl⟩:=wgo i acc H' hi wi;refine wQ (Tn.item (X.atA X.A.in1.in1) rfl rfl rfl hc i _ s' σ H' _ Ip (fpok fr) st go) fun r s2 ⟨u,x,H2,hr,I2,r2,y2,st2,fr2⟩=>?_;subst hr;have I2':=Inv.unA (X:=X) (A:=X.A.in1.in1) rfl rfl I2;have p2:=I2'.pin (s.heap.objs.size,sC its c') (Zs _ (zzT ..));refine ⟨its,c',p2.1,by rw[← v.length];omega,fun h'' sb e''=>⟨k-1,by omega,i+1,acc++[x],H2,its++[u],c'+1,by omega,off.turned (unpin I2') p2.2.1 sb,Tn.keep _ _ _ st2 fun b hb o e=>sb.extBut b o (hSf b hb) e,fr2,p2.2.1,e'',v.append (.cons r2 .nil),by rw[zzW];show acc.length+1<=i+1;omega,yl x H2 y2⟩⟩
  .have hin:i=n:=by omega
   subst hin;obtain ⟨yX,fin⟩:=wst acc H' wi;refine wQ (Tn.done (X.atA X.A.in1.in1) rfl rfl rfl hc i _ s' σ H' _ Ip (fpok fr) st yX) fun r s2 ⟨hr,I2⟩=>?_;subst hr;have I2':=Inv.unA (X:=X) (A:=X.A.in1.in1) rfl rfl I2;have p2:=I2'.pin (s.heap.objs.size,sC its c') (Zs _ (zzT ..));exact ⟨rfl,.ref s.heap.objs.size,xM H' s.heap.objs.size (.lst acc),(unpin I2').adopt off hS' ⟨by omega,its,c',v,p2.1⟩,rfl,fin _ hS'⟩
 show wpAny _ X.A.in1.in1 (do let old ← Builtin.List.listItems (.ref s.heap.objs.size);Builtin.List.listUpdate (.ref s.heap.objs.size) (fun _=>#[]);letGo old.toList.reverse;Builtin.List.listExtendWith (.ref s.heap.objs.size) (.ref it) .none) _ _ _;refine Za ?_;unfold Builtin.List.listItems;refine Za (wpAny_seqItems hS rfl (Zh ?_));show wpAny _ X.A.in1.in1 (updateSeq s.heap.objs.size (fun _=>#[]) >>= fun _=>letGo (#[]:Array Value).toList.reverse >>= fun _=>Builtin.List.listExtendWith (.ref s.heap.objs.size) (.ref it) .none) _ _ _;refine Za (Zax hS rfl ?_);have hS₂:=Zam (Obj.mapSeq (fun _=>(#[]:Array Value))) hS rfl;generalize hh2:(s.heap.push { cls:=.type "list", data:=.seq #[] }).update s.heap.objs.size (Obj.mapSeq (fun _=>(#[]:Array Value)))=h2 at *
 have k2:∀ b o,s.heap.get? b=some o->h2.get? b=some o:=fun b o e=>by
  rw[← hh2,ZR _ _ (ZaZ (Zi e))];exact Zc _ e
 have tn2:tn 0 h2:=Tn.keep _ _ _ t0 fun b _ o e=>k2 b o e;refine Za (wpAny_letGo ?_);unfold Builtin.List.listExtendWith;obtain ⟨oI,eI,cI⟩:=Tn.ty _ _ tn2;refine Za (ZbC (s:={ s with heap:=h2 }) ⟨oI,eI,cI⟩ ?_);have h1:Builtin.List.listSameRef (.ref s.heap.objs.size) (.ref it)=false:=by simp[Builtin.List.listSameRef,hSI]
 rw[if_neg (by rw[h1,hTl,hTt];decide)];refine Za (Tn.self _ 0 { s with heap:=h2 } _ _ tn2 ?_);refine Za (ZI (Tn.hint _ 0 { s with heap:=h2 } _ _ tn2 fun room=>?_));dsimp only
 split
 .refine Za (wpAny_rule ?_);refine Za ?_;show wpAny _ X.A.in1.in1 (updateSeq s.heap.objs.size (·.push .none) >>= fun _=>updateSeq s.heap.objs.size (·.pop)) _ _ _;refine Za (Zax hS₂ rfl ?_);have hS₃:=Zam (Obj.mapSeq (·.push Value.none)) hS₂ rfl;refine Zax (hz:=by seq_fits) hS₃ rfl ?_;have hS₄:=Zam (Obj.mapSeq (·.pop)) hS₃ rfl;refine Zh ⟨Zbr ZaV _,loop _ _ hS₄ fun b o e=>?_⟩;rw[ZR _ _ (ZaZ (Zi e)),ZR _ _ (ZaZ (Zi e))];exact k2 b o e
 .exact Zh ⟨Zbr ZaV _,loop _ _ hS₂ k2⟩
end
end L2
namespace L2
open PySem PySem.Spec PyProof.Rows
def SqB (b:Bool) (K:PySem.W.Frag) (H:Hp) (a:Addr) (xs:List V):Prop:=match b with
 |true=>gH K H a xs
 |false=>dL K H a xs
theorem Inv.sqB {X:Cx} {pins:List (Addr×Obj)} {σ:St} {H:Hp} {s:Shared} {b:Bool} {a:Addr} {xs:List V} (I:Inv X pins σ H s) (h:SqB b X.K H a xs):∃ its:List Value,yV xs its/\SSq b s.heap a its.toArray/\xs.length<=sizeLine:=by
 cases b
 .obtain ⟨its,r,p,hz⟩:=I.list h;exact ⟨its,r,p.isList,hz⟩
 .obtain ⟨its,r,p,hz⟩:=I.tuple h;exact ⟨its,r,p,hz⟩
section
variable {a b:Bool} {z TI TO i1 i2 l1 l2:Addr}
variable {X:Cx} {pins:List (Addr×Obj)} {σ:St} {H:Hp} {s:Shared}
end
end L2
namespace L3
open PySem PySem.Spec PyProof.Rows L2
structure Pr where
 prog:Program
 w:World
 K:yI
 mg:Str->Option Value
 base:Heap
abbrev Pr.at (q:Pr) (A:Around):Par:=⟨q.prog,q.w,q.K,q.mg,q.base,A⟩
def tX (K:yI) (sp:qE):Sp:=fun vs H Q E=>∃ ws G,yU K H ws vs/\xE K H G/\sp ws G (sG K H Q) XN
def yT (N:List Str) (ws:List W):qX:=ws.map some++List.replicate (N.length-ws.length) none
theorem zgF {K:yI} {H:Hp} {N:List Str} {ws:List W} {vs:List V} (r:yU K H ws vs):xY K H (yT N ws) (L2.start N vs):=by
 have hl:=r.length;refine ⟨by simp[yT,L2.start,hl],fun i w e=>?_⟩;unfold yT at e;unfold L2.start
 by_cases hi:i<ws.length
 .rw[Z8 (by simpa using hi),Zx] at e
  cases q:ws[i]? with
  |none=>rw[q] at e;cases e
  |some w' =>
   rw[q] at e;obtain rfl:w'=w:=Zw (Zw e);obtain ⟨v,ev,rp⟩:=r.get q;refine ⟨v,?_,rp⟩;rw[Z8 (by simp;omega),Zx,ev];rfl
 .rw[ZN (by simp;omega),Za2] at e
  split at e<;>cases e
structure MOk (Γ:Ctx3) (M:MC) (sc:Scope):Prop where
 sc:M.sc=sc
 own:M.own=fun _=>true
 fns:Γ.fn.map (·.nm)=M.fns
 gls:Γ.gl.map (·.1)=M.gls
 mts:Γ.mt.map (·.nm)=M.mts
 its:Γ.it.map (·.nm)=M.its
 sxs:Γ.sx.map (·.m)=M.sxm
 ixs:Γ.ix.map (·.m)=M.ixm
def FnE (p:Par) (f:Fn3):Prop:=∀ X,Fits p X->Gl X f.nm->∀ (args:List Expr) (t:A3) (q pos:Pos),rJ t->args.all wG=true->PA X args (fM X.K t)->(args=[]->∀ σ G Q,t σ G Q->Q [] G)->(f.nm==("__debug__" : Str))=false->f.nm ≠ "__name__" ->
  PE X (.Call (.Name f.nm q) args [] pos) (wO X.K fun σ G Q=>t σ G fun ws G1=>f.sp ws G1 Q XN)
theorem jW {e:Expr} {es:List Expr} {env:Env} {pos:Pos} (h:(e::es).all wG=true):starEach (e::es) env=(false,eval e env)::starEach es env/\(backTo pos (starEach es env)).any (·.1)=false:=by
 rw[Za1,Zp] at h;refine ⟨uC h.1,?_⟩;have h2:=h.2
 clear h
 induction es with
 |nil=>rfl
 |cons a r ih =>
  rw[Za1,Zp] at h2;rw[uC h2.1];show (false || (backTo pos (starEach r env)).any (·.1))=false;rw[ih h2.2];rfl
theorem Fits.eq {p:Par} {X:Cx} (f:Fits p X):p=⟨X.prog,X.w,X.K,X.mg,X.base,X.A⟩:=by
 obtain ⟨e1,e2,e3,e4,e5,e6,_,_⟩:=f;rw[e1,e2,e3,e4,e5,e6]
theorem pa_sp {X:Cx} {args:List Expr} {t:A3} {sp:qE} {dws:List W} {dvs:List V} (m:rJ t) (hd:∀ H,yU X.K H dws dvs) (mono:∀ ws G (Q Q':Q3),'i'->sp ws G Q XN->sp ws G Q' XN) {τ:L2.St} {H:Hp} {Q:VK} {E:XK}
  (h:wO X.K (fun σ G Q=>t σ G fun ws G1=>sp (ws++dws) G1 Q XN) τ H Q):zlj (tX X.K sp) dvs E (fM X.K t) τ H Q:=by
 obtain ⟨σ,G,hs,ab,h⟩:=h;refine zdp m hs ab h fun ws G1 vs H1 g1 hs1 rs a1 h=>?_;exact ⟨ws++dws,G1,rs.append (hd H1),a1,mono _ _ _ _ (fun w G' z v' H' g'=>z v' H' (g1.trans g')) h⟩
theorem zk0 {q:Pr} {k:Nat} {nm:Str} {f:Addr} {fd:FuncData} {ps:List Str} {ds:List Value} {dvs:List V} {dws:List W} {sp:qE} (FO:FnOk q.prog q.w q.K q.mg q.base CX0 k f fd ps (tX q.K sp)) (hm:q.mg nm=f⁻¹) (hk:PySem.W.keepIn q.K (.ref f)=true)
  (hb:vL q.K fd ps ds) (hd:∀ H,yU q.K H dws dvs) (hv:yV dvs ds) (mono:∀ ws G (Q Q':Q3),'i'->sp ws G Q XN->sp ws G Q' XN) {A:Around} (hr:Room k A):FnE (q.at A) ⟨nm,fun ws G Q _=>sp (ws++dws) G Q XN⟩:=by
 intro X fits gl args t qp pos mt hn pa hnil hdb hnm;have e:=fits.eq
 injection e with e1 e2 e3 e4 e5 e6
 subst e6;rw[e1,e2,e3,e4,e5] at FO;rw[e4] at hm;rw[e3] at hk hb hd
 cases args with
 |nil =>
  refine (zjB (p:=qp) (pos:=pos) FO hr gl hm hk hb hv zhk hdb).imp fun τ H Q h=>?_;obtain ⟨σ,G,hs,ab,h⟩:=h;have h:=hnil rfl _ _ _ h;exact ⟨dws,G,hd H,ab,h⟩
 |cons a r =>
  obtain ⟨s1,s2⟩:=jW (env:=X.env) (pos:=pos) hn;exact (zlQ (p:=qp) (pos:=pos) FO hr gl hm hk hb hv zhk pa hdb s1 s2).imp fun τ H Q h=>pa_sp (args:=a::r) mt hd mono h
end L3
namespace L3
open PySem PySem.Spec PyProof.Rows L2 PySem.SeqAt
def mkSp (C:Addr) (sp:qE) (dws:List W):qE:=fun ws G Q _=>∀ p,G p=none->sp (.ref p::(ws++dws)) (put G p (.ins C [])) (fun v G2=>v=.non/\Q (.ref p) G2) XN
theorem zoy {q:Pr} {k:Nat} {nm:Str} {C f:Addr} {fd:FuncData} {ps:List Str} {ds:List Value} {dvs:List V} {dws:List W} {sp:qE} (M:Mk q.K C f) (FO:FnOk q.prog q.w q.K q.mg q.base CX0 k f fd ps (tX q.K sp)) (hm:q.mg nm=C⁻¹)
  (hb:vL q.K fd ps ds) (hd:∀ H,yU q.K H dws dvs) (hv:yV dvs ds) (mono:∀ ws G (Q Q':Q3),'i'->sp ws G Q XN->sp ws G Q' XN) {A:Around} (hr:Room (k+1) A):FnE (q.at A) ⟨nm,mkSp C sp dws⟩:=by
 intro X fits gl args t qp pos mt hn pa hnil hdb hnm;have e:=fits.eq
 injection e with e1 e2 e3 e4 e5 e6
 subst e6;rw[e1,e2,e3,e4,e5] at FO;rw[e4] at hm;rw[e3] at M hb hd
 have core:∀ (ws:List W) (G1:Hw) (vs:List V) (H H1:Hp) (Q:VK),yB X.K H H1->yU X.K H1 ws vs->xE X.K H1 G1->mkSp C sp dws ws G1 (sG X.K H Q) XN->∀ x dx,H1 x=none->H1 dx=none->dx≠x ->
   tX X.K sp (.ref x::(vs++dvs)) (xM (xM H1 dx (.own x)) x (.ins C dx [])) (fun v H2=>v=.non/\Q (.ref x) H2) E0:=by
  intro ws G1 vs H H1 Q g1 rs a1 h x dx hx hdx hne;have a2:xE X.K (xM H1 dx (.own x)) G1:=a1.tup hdx;have g2:yB X.K H1 (xM H1 dx (.own x)):=wT hdx;have hx2:(xM H1 dx (.own x)) x=none:=by rw[yS hne.symm];exact hx
  have g3:yB X.K (xM H1 dx (.own x)) (xM (xM H1 dx (.own x)) x (.ins C dx [])):=wT hx2;have a3:xE X.K (xM (xM H1 dx (.own x)) x (.ins C dx [])) (put G1 x (.ins C [])):=a2.new hx2 ⟨dx,[],rfl,rfl⟩;refine ⟨.ref x::(ws++dws),put G1 x (.ins C []),⟨_,_,rfl,rfl,(rs.mono (g2.trans g3)).append (hd _)⟩,a3,mono _ _ _ _ (fun w G' z v' H' g' r' a'=>?_) (h x (a1.free hx))⟩;obtain ⟨rfl,z⟩:=z;exact ⟨r',z (.ref x) H' (g1.trans (g2.trans (g3.trans g'))) rfl a'⟩
 cases args with
 |nil =>
  refine (zjy (p:=qp) (pos:=pos) M FO hr gl hm hb hv zhk hdb).imp fun τ H Q h=>?_;obtain ⟨σ,G,hs,ab,h⟩:=h;exact core [] G [] H H Q .refl rfl ab (hnil rfl _ _ _ h)
 |cons a r =>
  obtain ⟨s1,s2⟩:=jW (env:=X.env) (pos:=pos) hn;refine (zlM (p:=qp) (pos:=pos) M FO hr gl hm hb hv zhk pa hdb s1 s2).imp fun τ H Q h=>?_;obtain ⟨σ,G,hs,ab,h⟩:=h;exact zdp mt hs ab h fun ws G1 vs H1 g1 hs1 rs a1 h=>core ws G1 vs H H1 Q g1 rs a1 h
abbrev RS:=List W->Hw->Q3->Prop
def jI (sp:RS):Prop:=∀ ws G (Q Q':Q3),'i'->sp ws G Q->sp ws G Q'
def gR (K:yI) (sp:RS):List V->Hp->VK->Prop:=fun vs H Q=>∃ ws G,yU K H ws vs/\xE K H G/\sp ws G (sG K H Q)
theorem zd1 {X:Cx} {t:A3} {sp:RS} (mt:rJ t) (mono:jI sp) {τ:L2.St} {H:Hp} {Q:VK} (h:wO X.K (fun σ G Q=>t σ G fun ws G1=>sp ws G1 Q) τ H Q):tCB (gR X.K sp) (fM X.K t) τ H Q:=by
 obtain ⟨σ,G,hs,ab,h⟩:=h;exact zdp mt hs ab h fun ws G1 vs H1 g1 hs1 rs a1 h=>⟨ws,G1,rs,a1,mono _ _ _ _ (fun w G' z v' H' g'=>z v' H' (g1.trans g')) h⟩
theorem gK {q:Pr} {A:Around} {nm:Str} {id:String} {sp:RS} (hm:q.mg nm=none) (hv:bootBuiltins nm=some (.builtin id)) (hc:∀ X,Fits (q.at A) X->jG X (.builtin id) (gR X.K sp)) (mono:jI sp) (h0:∀ G Q,¬ sp [] G Q):FnE (q.at A) ⟨nm,fun ws G Q _=>sp ws G Q⟩:=by
 intro X fits gl args t qp pos mt hn pa hnil hdb hnm;have hm':X.mg nm=none:=by rw[fits.mg];exact hm
 cases args with
 |nil=>exact fun pins s σ H Q I h=>absurd (hnil rfl _ _ _ h.choose_spec.choose_spec.2.2) (h0 _ _)
 |cons a r =>
  obtain ⟨s1,s2⟩:=jW (env:=X.env) (pos:=pos) hn;exact (zjA (p:=qp) (pos:=pos) (hc X fits) gl hm' hv pa hnm hdb s1 s2).imp fun τ H Q h=>zd1 mt mono h
theorem zmt {q:Pr} {A:Around} {nm:Str} {T:String} {sp:RS} (hm:q.mg nm=none) (hv:bootBuiltins nm=some (.type T)) (hc:∀ X,Fits (q.at A) X->jG X (.type T) (gR X.K sp)) (mono:jI sp) (h0:∀ G Q,¬ sp [] G Q):FnE (q.at A) ⟨nm,fun ws G Q _=>sp ws G Q⟩:=by
 intro X fits gl args t qp pos mt hn pa hnil hdb hnm;have hm':X.mg nm=none:=by rw[fits.mg];exact hm
 cases args with
 |nil=>exact fun pins s σ H Q I h=>absurd (hnil rfl _ _ _ h.choose_spec.choose_spec.2.2) (h0 _ _)
 |cons a r =>
  obtain ⟨s1,s2⟩:=jW (env:=X.env) (pos:=pos) hn;exact (zhj (p:=qp) (pos:=pos) (hc X fits) gl hm' hv pa hnm hdb s1 s2).imp fun τ H Q h=>zd1 mt mono h
abbrev MS:=W->List W->Hw->Q3->Prop
def MtE (p:Par) (m:Mt3):Prop:=∀ X,Fits p X->∀ (o:Expr) (args:List Expr) (to:E3) (t:A3) (apos cpos:Pos),jH to->rJ t->ziE o=true->(apos.endLine==cpos.line)=true->args.length<25->args.all wG=true ->
  PE X o (wO X.K to)->PA X args (fM X.K t)->(args=[]->∀ σ G Q,t σ G Q->Q [] G)->PE X (.Call (.Attribute o m.nm apos) args [] cpos) (wO X.K fun σ G Q=>to σ G fun x G1=>tyW G1 x m.T/\t σ G1 fun ws G2=>m.sp x ws G2 Q)
def lowM (K:yI) (sp:MS):V->List V->Hp->VK->Prop:=fun x vs H Q=>∃ w ws G,wM K H w x/\yU K H ws vs/\xE K H G/\sp w ws G (sG K H Q)
theorem zj8 {args:List Expr} {env:Env} {pos:Pos} (h:args.all wG=true):(backTo pos (starEach args env)).all (fun x=>!x.1)=true:=by
 induction args with
 |nil=>rfl
 |cons a r ih =>
  rw[Za1,Zp] at h;rw[uC h.1];show (true&&(backTo pos (starEach r env)).all (fun x=>!x.1))=true;rw[ih h.2];rfl
theorem cR {p:Par} {nm:Str} {T id:String} {sp:MS} (pa:PlainAttrs T) (slot:Slot T nm id) (hty:typeOf (.builtin id)=pure (.type "method_descriptor")) (hm:∀ X,Fits p X->MtR X id (lowM X.K sp))
  (mono:∀ x ws G (Q Q':Q3),'i'->sp x ws G Q->sp x ws G Q'):MtE p ⟨nm,T,sp⟩:=by
 intro X fits o args to t apos cpos mo mt ho hline hlen hn po pa' hnil
 cases args with
 |nil =>
  refine (znQ pa slot hty (hm X fits) po (gJ ho) hline).imp fun τ H Q h=>?_;obtain ⟨σ,G,hs,ab,h⟩:=h;refine wI mo hs ab h fun w G1 v H1 g1 hs1 rw1 a1 h=>⟨zky rw1 a1 h.1,w,[],G1,rw1,rfl,a1,mono _ _ _ _ _ (fun w' G' z v' H' g'=>z v' H' (g1.trans g')) (hnil rfl _ _ _ h.2)⟩
 |cons a r =>
  obtain ⟨s1,s2⟩:=jW (env:=X.env) (pos:=cpos) hn;refine (pe_bm pa slot hty (hm X fits) po pa' (gJ ho) ?_ hline s1 s2).imp fun τ H Q h=>?_
  .rw[zj8 hn]
   have:(a::r).length+([]:List Keyword).length+(if ([]:List Keyword).isEmpty then 0 else 1)<30:=by
    show (a::r).length+0+0<30;omega
   rw[decide_eq_true this];rfl
  .obtain ⟨σ,G,hs,ab,h⟩:=h;refine wI mo hs ab h fun w G1 v H1 g1 hs1 rw1 a1 h=>⟨zky rw1 a1 h.1,?_⟩;exact zdp mt hs1 a1 h.2 fun ws G2 vs H2 g2 hs2 rs a2 h=>⟨w,ws,G2,rw1.mono g2,rs,a2,mono _ _ _ _ _ (fun w' G' z v' H' g'=>z v' H' (g1.trans (g2.trans g'))) h⟩
def maxS:RS:=fun ws G Q=>match ws with
 | [.int i,.int j]=>Q (.int (if j > i then j else i)) G
 |_=>False
theorem zcW:jI maxS:=by
 intro ws G Q Q' k h;unfold maxS at h ⊢
 split at h
 .exact k _ _ h
 .exact h.elim
theorem zlw {K:yI} {H:Hp} {a b:W} {vs:List V} (r:yU K H [a,b] vs):∃ x y,vs=[x,y]/\wM K H a x/\wM K H b y:=by
 obtain ⟨x,t,rfl,rx,y,t',rfl,ry,rt⟩:=r;cases (show t'=[] from rt);exact ⟨x,y,rfl,rx,ry⟩
theorem qG {K:yI} {H:Hp} {a:W} {vs:List V} (r:yU K H [a] vs):∃ x,vs=[x]/\wM K H a x:=by
 obtain ⟨x,t,rfl,rx,rt⟩:=r;cases (show t=[] from rt);exact ⟨x,rfl,rx⟩
theorem zn2 {X:Cx} (hc:X.calm=true):jG X (.builtin "max") (gR X.K maxS):=by
 intro pins s σ H xs us Q I r h;obtain ⟨ws,G,rs,ab,h⟩:=h;unfold maxS at h
 split at h
 .rename_i i j;obtain ⟨x,y,rfl,rx,ry⟩:=zlw rs;cases (show x=.int i from rx);cases (show y=.int j from ry);exact ziA hc pins s σ H _ us Q I r ⟨i,j,rfl,h _ H .refl rfl ab⟩
 .exact h.elim
noncomputable def gN (G:Hw):W->Option Nat
 | .str x=>if x.length<=sizeLine then some x.length else none
 | .tup ws=>some ws.length
 | .ref p=>match G p with
  |some (.lst ws)=>some ws.length
  |some (.fix ws)=>some ws.length
  |some (.dic kvs)=>some kvs.length
  |_=>none
 |_=>none
def gM:RS:=fun ws G Q=>match ws with
 | [x]=>(match gN G x with|some n=>Q (.int n) G|none=>False)
 |_=>False
theorem zcZ:jI gM:=by
 intro ws G Q Q' k h;unfold gM at h ⊢
 split at h
 .split at h
  .exact k _ _ h
  .exact h.elim
 .exact h.elim
theorem zl6 {X:Cx}:jG X (.builtin "len") (fun xs H Q=>∃ a kvs,xs=[V.ref a]/\H a=some (.dK kvs)/\Q (.int kvs.length) H):=by
 intro pins s σ H xs us Q I r h;obtain ⟨a,kvs,rfl,ha,q⟩:=h;obtain ⟨u,rfl,ru⟩:=qI r;cases ru;exact d_len I (.inl ha) fun t s' I'=>⟨.int kvs.length,H,I',⟨t,rfl⟩,q⟩
theorem zn5 {X:Cx}:jG X (.builtin "len") (gR X.K gM):=by
 intro pins s σ H xs us Q I r h;obtain ⟨ws,G,rs,ab,h⟩:=h;unfold gM at h
 split at h
 .rename_i w;obtain ⟨v,rfl,rv⟩:=qG rs
  split at h
  .rename_i n hn;have q:Q (.int n) H:=h (.int n) H .refl rfl ab
   cases w with
   |str x =>
    cases (show v=.str x from rv);simp only[gN] at hn
    split at hn
    .rename_i hl;cases hn;exact zdh pins s σ H _ us Q I r ⟨x,rfl,hl,q⟩
    .cases hn
   |tup ws' =>
    obtain ⟨a,vs,rfl,sq,rr⟩:=rv;simp only[gN] at hn;cases hn;exact rZ pins s σ H _ us Q I r ⟨a,vs,rfl,.inr sq,by rw[rr.length];exact q⟩
   |ref p =>
    cases (show v=.ref p from rv);simp only[gN] at hn
    split at hn
    .rename_i ws' e;cases hn;obtain ⟨vs,sq,rr⟩:=ab.seq (show yG G p=some ws' by unfold yG;rw[e]);exact rZ pins s σ H _ us Q I r ⟨p,vs,rfl,.inl sq,by rw[rr.length];exact q⟩
    .rename_i ws' e;cases hn;obtain ⟨vs,sq,rr⟩:=ab.seq (show yG G p=some ws' by unfold yG;rw[e]);exact rZ pins s σ H _ us Q I r ⟨p,vs,rfl,.inl sq,by rw[rr.length];exact q⟩
    .rename_i kvs e;cases hn;obtain ⟨l,e',rl⟩:=ab.dic e;exact zl6 pins s σ H _ us Q I r ⟨p,l,rfl,e',by rw[rl.length];exact q⟩
    .cases hn
   |_=>simp[gN] at hn
  .exact h.elim
 .exact h.elim
def vN (G:Hw):W->Option (List W)
 | .tup ws=>some ws
 | .ref p=>yG G p
 |_=>none
def lstS:RS:=fun ws G Q=>match ws with
 | [x]=>(match vN G x with|some xs=>∀ p,G p=none->Q (.ref p) (put G p (.lst xs))|none=>False)
 |_=>False
theorem zcX:jI lstS:=by
 intro ws G Q Q' k h;unfold lstS at h ⊢
 split at h
 .split at h
  .exact fun p hp=>k _ _ (h p hp)
  .exact h.elim
 .exact h.elim
theorem zgS {K:yI} {H:Hp} {G:Hw} {w:W} {v:V} {xs:List W} (ab:xE K H G) (r:wM K H w v) (e:vN G w=some xs):∃ a vs b,v=.ref a/\SqB b K H a vs/\yU K H xs vs:=by
 cases w with
 |tup ws =>
  obtain ⟨a,vs,rfl,sq,rr⟩:=r;cases e;exact ⟨a,vs,true,rfl,sq,rr⟩
 |ref p =>
  cases (show v=.ref p from r);obtain ⟨vs,sq,rr⟩:=ab.seq e;exact ⟨p,vs,false,rfl,sq,rr⟩
 |_=>cases e
theorem zn4 {X:Cx}:jG X (.type "list") (gR X.K lstS):=by
 intro pins s σ H xs us Q I r h;obtain ⟨ws,G,rs,ab,h⟩:=h;unfold lstS at h
 split at h
 .rename_i w;obtain ⟨v,rfl,rv⟩:=qG rs
  split at h
  .rename_i ys hy;obtain ⟨a,vs,b,rfl,sq,rr⟩:=zgS ab rv hy;refine zdg pins s σ H _ us Q I r ⟨a,vs,rfl,?_,vK ab rr h⟩;cases b
   .exact .inl sq
   .exact .inr sq
  .exact h.elim
 .exact h.elim
def allS (f:List Bool->Bool):RS:=fun ws G Q=>match ws with
 | [.ref p]=>∃ bs:List Bool,yG G p=some (bs.map .bl)/\Q (.bl (f bs)) G
 |_=>False
theorem nB (f:List Bool->Bool):jI (allS f):=by
 intro ws G Q Q' k h;unfold allS at h ⊢
 split at h
 .obtain ⟨bs,e,h⟩:=h;exact ⟨bs,e,k _ _ h⟩
 .exact h.elim
theorem za6 {K:yI} {H:Hp}:∀ {bs:List Bool} {vs:List V} {us:List Value},yU K H (bs.map .bl) vs->yV vs us->us=bs.map .bool
 | [],vs,us,r,v=>by cases (show vs=[] from r);cases v;rfl
 |b::bs,vs,us,r,v=>by
  obtain ⟨x,t,rfl,rx,rt⟩:=r;cases (show x=.bl b from rx)
  cases v with
  |cons a c =>
   cases (show _=Value.bool b from a);rw[za6 rt c];rfl
theorem ziL (bs:List Bool):(List.range bs.length).all (fun i=>(bs[i]?).getD false)=bs.all id:=by
 rw[Bool.eq_iff_iff,ZaT,ZaT]
 constructor
 .intro h b hb;obtain ⟨i,hi,rfl⟩:=List.mem_iff_getElem.mp hb;have:=h i (Zao.mpr hi)
  rwa[Zf hi] at this
 .intro h i hi;have hi:=Zao.mp hi;rw[Zf hi];exact h _ (ZB hi)
theorem ziI (bs:List Bool):(List.range bs.length).any (fun i=>(bs[i]?).getD false)=bs.any id:=by
 rw[Bool.eq_iff_iff,ZaU,ZaU]
 constructor
 .rintro ⟨i,hi,h⟩;have hi:=Zao.mp hi;rw[Zf hi] at h;exact ⟨_,ZB hi,h⟩
 .rintro ⟨b,hb,h⟩;obtain ⟨i,hi,rfl⟩:=List.mem_iff_getElem.mp hb;exact ⟨i,Zao.mpr hi,by rw[Zf hi];exact h⟩
theorem zfx {X:Cx} (hc:X.calm=true) {pins:List (Addr×Obj)} {s:Shared} {σ:L2.St} {H:Hp} {G:Hw} {p:Addr} {bs:List Bool} (I:Inv X pins σ H s) (ab:xE X.K H G) (e:yG G p=some (bs.map .bl)) {A:Around} (hh:A.handled=none) {E:Value->Shared->Prop}
  {R:Value->Shared->Prop} (h:∀ (I':Addr) (s₂:Shared),Walks X.prog X.w A I' [I',p] [I'] bs.length (fun i v=>(bs.map Value.bool).toArray[i]?=some v) (fun i h=>h.IsListIter I' p i/\h.IsList p (bs.map Value.bool).toArray)->(s₂.heap.IsListIter I' p 0/\s₂.heap.IsList p (bs.map Value.bool).toArray) ->
   (∀ h' tk,(∀ b o,b∉[I']->s₂.heap.get? b=some o->h'.get? b=some o)->0<tk->Inv X pins σ H { s₂ with heap:=h',toks:=tk })->R (.ref I') s₂):wpAny 'f' A (pyIter (.ref p)) R E s:=by
 obtain ⟨vs,sq,rr⟩:=ab.seq e;obtain ⟨its,rv,pl,hz⟩:=I.list sq;have eits:=za6 rr rv;subst eits;have hl:=pl.isList;refine Zbb hl ?_
 have hne:p≠s.heap.objs.size:=by
  obtain ⟨o,ho,_⟩:=hl;exact Zr (Zi ho)
 have W:=Walks.list (prog:=X.prog) (w:=X.w) hh s.heap.objs.size p hne (bs.map Value.bool).toArray;have hn:(bs.map Value.bool).toArray.size=bs.length:=by simp
 rw[hn] at W;refine h _ _ W ⟨⟨_,Zq _ rfl,rfl,rfl⟩,hl.push _⟩ fun h' tk k h0=>I.kept (fun b o e=>k b o (fun hm=>?_) (Zc _ e)) h0;rw[ZH] at hm;exact Zr (Zi e) hm
theorem zeD {P:Program} {w:World} {A:Around} {bs:List Bool}:TruthOf P w A (fun i v=>(bs.map Value.bool).toArray[i]?=some v) (fun i=>(bs[i]?).getD false):=by
 intro i v s Q E h q;have h':(bs[i]?).map Value.bool=some v:=by simpa using h
 cases e:bs[i]? with
 |none=>rw[e] at h';cases h'
 |some b =>
  rw[e] at h';cases h';have q':Q ((bs[i]?).getD false) s:=q;rw[e] at q';exact Z6 q'
theorem zoQ {X:Cx} (hc:X.calm=true):jG X (.builtin "all") (gR X.K (allS (·.all id))):=by
 intro pins s σ H xs us Q I r h;obtain ⟨ws,G,rs,ab,h⟩:=h;unfold allS at h
 split at h
 .rename_i p;obtain ⟨v,rfl,rv⟩:=qG rs;cases (show v=.ref p from rv);obtain ⟨bs,e,h⟩:=h;obtain ⟨u,rfl,ru⟩:=qI r;cases ru;refine vA I.tk (call_all_walk (zfx hc I ab e (A:=X.A.in1) (I.ok.hd hc) fun I' s₂ W st k=>⟨I',_,_,_,_,_,_,rfl,W,st,zeD,fun h' tk hk h0=>?_⟩));rw[ziL];exact ⟨.bl (bs.all id),H,k h' tk hk h0,rfl,h _ H .refl rfl ab⟩
 .exact h.elim
theorem zoP {X:Cx} (hc:X.calm=true):jG X (.builtin "any") (gR X.K (allS (·.any id))):=by
 intro pins s σ H xs us Q I r h;obtain ⟨ws,G,rs,ab,h⟩:=h;unfold allS at h
 split at h
 .rename_i p;obtain ⟨v,rfl,rv⟩:=qG rs;cases (show v=.ref p from rv);obtain ⟨bs,e,h⟩:=h;obtain ⟨u,rfl,ru⟩:=qI r;cases ru;refine vA I.tk (call_any_walk (zfx hc I ab e (A:=X.A.in1) (I.ok.hd hc) fun I' s₂ W st k=>⟨I',_,_,_,_,_,_,rfl,W,st,zeD,fun h' tk hk h0=>?_⟩));rw[ziI];exact ⟨.bl (bs.any id),H,k h' tk hk h0,rfl,h _ H .refl rfl ab⟩
 .exact h.elim
noncomputable def tyO (G:Hw):W->Option String
 | .non=>some "NoneType"
 | .bl _=>some "bool"
 | .int _=>some "int"
 | .str _=>some "str"
 | .tup _=>some "tuple"
 | .ref p=>match G p with
  |some (.lst _)=>some "list"
  |some (.fix _)=>some "list"
  |some (.dic _)=>some "dict"
  |_=>none
 |_=>none
def popS:MS:=fun x ws G Q=>match x,ws with
 | .ref p,[]=>(match G p with
  |some (.lst xs)=>(match xs[xs.length-1]? with|some y=>Q y (put G p (.lst xs.dropLast))|none=>False)
  |_=>False)
 |_,_=>False
theorem zcJ:∀ x ws G (Q Q':Q3),'i'->popS x ws G Q->popS x ws G Q':=by
 intro x ws G Q Q' k h;unfold popS at h ⊢
 split at h
 .split at h
  .split at h
   .exact k _ _ h
   .exact h.elim
  .exact h.elim
 .exact h.elim
theorem znF {X:Cx}:MtR X "list.pop" (lowM X.K popS):=by
 intro pins s σ H x xs v us Q I rx rxs h;obtain ⟨w,ws,G,rw1,rs,ab,h⟩:=h;unfold popS at h
 split at h
 .rename_i p;cases (show x=.ref p from rw1);cases (show xs=[] from rs)
  split at h
  .rename_i ys e
   split at h
   .rename_i y ey;obtain ⟨vs,ev,rr⟩:=ab.lst e;obtain ⟨vy,evy,ry⟩:=rr.get ey;have gr:yB X.K H (xM H p (.lst vs.dropLast)):=ab.grow e;exact znZ pins s σ H _ _ v us Q I rx rxs ⟨p,vs,vy,rfl,rfl,ev,by rw[rr.length];exact evy,h vy _ gr (ry.mono gr) (ab.chg e ⟨_,rfl,rr.dropLast.mono gr⟩)⟩
   .exact h.elim
  .exact h.elim
 .exact h.elim
def appS:MS:=fun x ws G Q=>match x,ws with
 | .ref p,[y]=>(match G p with
  |some (.lst xs)=>xs.length<sizeLine/\Q .non (put G p (.lst (xs++[y])))
  |_=>False)
 |_,_=>False
theorem zdr:∀ x ws G (Q Q':Q3),'i'->appS x ws G Q->appS x ws G Q':=by
 intro x ws G Q Q' k h;unfold appS at h ⊢
 split at h
 .split at h
  .exact ⟨h.1,k _ _ h.2⟩
  .exact h.elim
 .exact h.elim
theorem zoO {X:Cx}:MtR X "list.append" (lowM X.K appS):=by
 intro pins s σ H x xs v us Q I rx rxs h;obtain ⟨w,ws,G,rw1,rs,ab,h⟩:=h;unfold appS at h
 split at h
 .rename_i p y;cases (show x=.ref p from rw1);obtain ⟨vy,rfl,ry⟩:=qG rs
  split at h
  .rename_i ys e;obtain ⟨vs,ev,rr⟩:=ab.lst e;have gr:yB X.K H (xM H p (.lst (vs++[vy]))):=ab.grow e;exact zhA pins s σ H _ _ v us Q I rx rxs ⟨p,vs,vy,rfl,rfl,ev,by rw[rr.length];exact h.1,h.2 .non _ gr (show wM X.K _ .non .non from rfl) (ab.chg e ⟨_,rfl,(rr.append (show yU X.K H [y] [vy] from ⟨vy,[],rfl,ry,rfl⟩)).mono gr⟩)⟩
  .exact h.elim
 .exact h.elim
theorem zkc {X:Cx} {pins:List (Addr×Obj)} {σ:L2.St} {H:Hp} {s:Shared} (I:Inv X pins σ H s) {x:W}:∀ {ws:List W} {vs:List V} {us:List Value},yU X.K H ws vs->yV vs us->yP ws=true->us.map (eqI X.K H x)=ws.map fun w=>yQ w x:=by
 intro ws
 induction ws with
 |nil=>intro vs us h r _;rw[show _=[] from h] at r;cases r;rfl
 |cons w ws ih =>
  intro vs us h r p;obtain ⟨v,t,e,h,hs⟩:=h;subst e
  cases r with
  |cons r rs =>
   have p':=xV.mp p;rw[zzU,zzU,zic I h r p'.1,ih hs rs p'.2]
theorem nX {α:Type} (f:α->Bool):∀ l:List α,(l.map f).findIdx id=l.findIdx f
 | []=>rfl
 |a::r=>by
  rw[zzU,ZbH,ZbH,nX f r];rfl
def rngI (ws:List W) (G:Hw) (R:List W->(Hw->Prop)->Hw->Prop):Prop:=match ws with
 | [.int j]=>(-(2 ^ 62)<=j/\j<2 ^ 62)/\R ((List.range j.toNat).map fun i=>.int (i:Nat)) (fun _=>True) G
 |_=>False
theorem zon {K:yI} {H1:Hp} {n:Nat}:ItIs K (Itr 0 n) H1 ((List.range n).map fun i=>W.int (i:Nat)) (fun _=>True) where
 go:=fun i H G _ ab st hi=>by show i<n;simpa using hi
 yld:=fun i H G x H' _ ab st hi y=>by
  obtain ⟨rfl,rfl⟩:=y;have hi':i<n:=by simpa using hi
  refine ⟨.int (i:Nat),by simp[hi'],.refl,?_,ab⟩;show V.int (0+(i:Int))=V.int (i:Int);rw[Int.zero_add]
 stop:=fun i H G _ ab st hi=>by show n<=i;simpa using hi
def ItE (p:Par) (i:It3):Prop:=∀ X,Fits p X->Gl X i.nm->∀ (tg:Expr) (args:List Expr) (t:A3) (q pos:Pos),rJ t->args.all wG=true->PA X args (fM X.K t)->(args=[]->∀ σ G Q,t σ G Q->Q [] G)->(i.nm==("__debug__" : Str))=false->i.nm ≠ "__name__" ->
  PI X tg (.Call (.Name i.nm q) args [] pos) (lowI X.K fun σ G R=>t σ G fun ws G1=>i.sp ws G1 R)
theorem zoq {q:Pr} {A:Around} (hm:q.mg "range" = none):ItE (q.at A) ⟨"range", rngI⟩:=by
 intro X fits gl tg args t qp pos mt hn pa hnil hdb hnm;have hm':X.mg "range" = none:=by rw[fits.mg];exact hm
 intro pins s σ H R I h
 cases args with
 |nil =>
  obtain ⟨σ3,G,hs,ab,h⟩:=h;exact (hnil rfl _ _ _ h).elim
 |cons a r =>
  obtain ⟨s1,s2⟩:=jW (env:=X.env) (pos:=pos) hn;obtain ⟨σ3,G,hs,ab,h⟩:=h
  have h':=zdp (S:=fun vs H1=>∃ j:Int,vs=[.int j]/\-(2 ^ 62)<=j/\j<2 ^ 62/\R (Itr 0 j.toNat) H1) mt hs ab h fun ws G1 vs H1 g1 hs1 rs a1 h=>by
   dsimp only at h;unfold rngI at h
   split at h
   .rename_i j;obtain ⟨v,rfl,rv⟩:=qG rs;cases (show v=.int j from rv);exact ⟨j,rfl,h.1.1,h.1.2,h.2 _ H1 g1 a1 zon⟩
   .exact h.elim
  refine Call_ (cL I gl hm' boot_range (Zaf (wQ (pa pos pins s σ H _ I h') fun us s1 ⟨vs,H1,I1,r1,q1⟩=>?_) s1 s2));obtain ⟨j,e,q1,q2,q⟩:=q1;subst e;obtain ⟨u,rfl,t,rfl⟩:=qI r1;exact call_range_1 (zjj I1 (ZP _) 'd' 'd' q1 q2 (by simpa using q))
noncomputable def lofM (nm:Str):Scope->Expr->Option (List Expr):=fun sc e=>match e with
 | .Call (.Name o _) [.Call (.Name x _) xs [] _] [] _=>if o==("list" : Str)&&x==nm&&gL sc o&&gL sc x&&!xs.isEmpty then some xs else none
 |_=>none
theorem zjM {nm:Str} {sc:Scope} {e:Expr} {xs:List Expr} (h:lofM nm sc e=some xs):∃ qo q pos pos' a r,xs=a::r/\e=.Call (.Name "list" qo) [.Call (.Name nm q) (a::r) [] pos] [] pos'/\gL sc "list" = true/\gL sc nm=true:=by
 have no:¬ ((none:Option (List Expr))=some xs):=fun e=>nomatch e
 cases e with
 |Call f args kws pos' =>
  cases f with
  |Name o qo =>
   cases args with
   |nil=>exact absurd h no
   |cons c rest =>
    cases c with
    |Call g ys kw2 pos =>
     cases g with
     |Name x q =>
      cases kw2 with
      |nil =>
       cases rest with
       |nil =>
        cases kws with
        |nil =>
         replace h:(if (o==("list" : Str)&&x==nm&&gL sc o&&gL sc x&&!ys.isEmpty)=true then some ys else none)=some xs:=h
         by_cases hb:(o==("list" : Str)&&x==nm&&gL sc o&&gL sc x&&!ys.isEmpty)=true
         .rw[if_pos hb] at h;cases h;simp only[Zp,beq_iff_eq,Zar,List.isEmpty_eq_false_iff] at hb;obtain ⟨⟨⟨⟨rfl,rfl⟩,h1⟩,h2⟩,h3⟩:=hb
          cases xs with
          |nil=>exact absurd rfl h3
          |cons a r=>exact ⟨qo,q,pos,pos',a,r,rfl,rfl,h1,h2⟩
         .rw[if_neg hb] at h;exact absurd h no
        |cons _ _=>exact absurd h no
       |cons _ _=>exact absurd h no
      |cons _ _=>exact absurd h no
     |_=>exact absurd h no
    |_=>exact absurd h no
  |_=>exact absurd h no
 |_=>exact absurd h no
def SxE (p:Par) (k:Sx3):Prop:=∀ X,Fits p X->∀ (e:Expr) (xs:List Expr) (es:List E3),k.m X.env.scope e=some xs->zgm X xs es->xs.all wG=true->PA X xs (fM X.K (seqA es)) ->
  PE X e (wO X.K fun σ G Q=>seqA es σ G fun ws G1=>k.sp ws G1 Q)/\(∀ whole,isTrue e X.env whole=(do let v ← whole;standAt e.pos;holding [v] (truthy v)))/\∀ op vs pos,e≠.BoolOp op vs pos
theorem cC {X:Cx}:∀ {xs:List Expr} {es:List E3},zgm X xs es->rJ (seqA es)
 | [],[],_=>fun σ G Q Q' k h=>k _ _ h
 |_::_,_::_,⟨m,_,r⟩=>fun σ G Q Q' k h=>m σ G _ _ (fun x G1 h=>cC r σ G1 _ _ (fun xs G2 h=>k _ _ h) h) h
theorem zng {q:Pr} {A:Around} {nm:Str} {T:String} {sp:RS} (hl:q.mg "list" = none) (hm:q.mg nm=none) (hv:bootBuiltins nm=some (.type T)) (mono:jI sp)
  (hc:∀ X,Fits (q.at A) X->∀ (pins:List (Addr×Obj)) (s:Shared) (σ:L2.St) (H:Hp) (vs:List V) (us:List Value) (Q:VK),Inv X pins σ H s->yV vs us->gR X.K sp vs H Q ->
   wpAny 'f' X.A (call (.type T) us) (fun v s1=>wpAny 'f' X.A (call (.type "list") [v]) (EP X pins σ Q) X.xe s1) X.xe s):SxE (q.at A) ⟨lofM nm,sp⟩:=by
 intro X fits e xs es he each hn pa;obtain ⟨qo,qq,pos,pos',a,r,rfl,rfl,g1,g2⟩:=zjM he;obtain ⟨gl1,d1,n1⟩:=zf7 rfl g1;obtain ⟨gl2,d2,n2⟩:=zf7 rfl g2;have hl':X.mg "list" = none:=by rw[fits.mg];exact hl
 have hm':X.mg nm=none:=by rw[fits.mg];exact hm
 refine ⟨fun pins s σ H Q I h=>?_,fun _=>rfl,fun _ _ _ z=>nomatch z⟩;obtain ⟨s1,s2⟩:=jW (env:=X.env) (pos:=pos) hn;have h':=zd1 (cC each) mono h;refine ZQ (cL I gl1 hl' boot_list ?_ n1 d1);refine Zaf (e:=.Call (.Name nm qq) (a::r) [] pos) (rest:=[]) ?_ rfl rfl;show wpAny _ _ (spliced ((false,eval (.Call (.Name nm qq) (a::r) [] pos) X.env)::backTo pos' (starEach [] X.env))) _ _ s;refine Calls.spliced_cons (ZQ (cL I gl2 hm' hv (Zaf (wQ (pa pos pins s σ H _ I h') fun us s1 ⟨vs,H1,I1,r1,q1⟩=>?_) s1 s2) n2 d2));exact wQ (hc X fits pins s1 σ H1 vs us Q I1 r1 q1) fun v s2 z=>Calls.spliced_nil z
def Itv (K:yI) (a:Addr) (n:Nat):It where
 go:=fun i H=>∃ xs,dL K H a xs/\xs.length=n/\i<n
 yld:=fun i H v H'=>H'=H/\∀ xs,dL K H a xs->xs.length=n->xs[n-1-i]?=some v
 stop:=fun i H=>i=n
theorem zfZ:typeLookup (.type "list_reverseiterator") "__len__" = pure none:=by rw[typeLookup_type,builtinLookup_eq_fast];kernel_rfl
theorem zjK:typeLookup (.type "list_reverseiterator") "__length_hint__" = pure (some (.builtin "list_reverseiterator.__length_hint__")):=by rw[typeLookup_type,builtinLookup_eq_fast];kernel_rfl
theorem zlu {P:Program} {w:World} {A:Around} {it a:Addr} {i:Int} {s:Shared} {Q:Bool->Shared->Prop} {E:Value->Shared->Prop} (st:s.heap.IsRevIter it a i) (h:∀ b,Q b s):wpAny (model P w) A (Builtin.List.listLengthHint (.ref it)) Q E s:=by
 have hT:=st.typeIs;unfold Builtin.List.listLengthHint;refine Za (Zbx hT zfZ ?_);show wpAny _ _ (specialOf (Value.ref it) (Str.ofString "__length_hint__") >>= _) _ _ _;refine Za (Zbx hT zjK ?_)
 (generalize hid:("list_reverseiterator.__length_hint__" : String)=id0;(fail_if_success (clear hid id0));wp_delta;rw[show splitId id0=some ("list_reverseiterator", "__length_hint__") from by subst hid;decide +kernel];subst hid)
 refine Za (wpAny_isInstance (b:=true) hT (by rw[isSubtype_type];kernel_rfl) ?_);exact Zh (h _)
theorem zjg (P:Program) (w:World) (K:yI) {it a:Addr} {n:Nat} (hne:a≠it):TurnL P w K "list_reverseiterator" (Itv K a n) [it] it (fun i h=>i<=n/\h.IsRevIter it a ((n:Int)-1-i)) where
 mem:=by simp
 ty:=fun i h ⟨_,o,ho,hc,_⟩=>⟨o,ho,hc⟩
 obj:=fun i h ⟨_,o,ho,hc,hd⟩ b hb=>by
  rw[ZH] at hb;subst hb;exact ⟨o,ho,fun v z=>by rw[hd] at z;cases z⟩
 keep:=fun i h h' ⟨hi,x⟩ k=>⟨hi,x.at fun o e=>k it 'g' o e⟩
 item:=by
  intro X e1 e2 e3 hc i pins s σ H E I hf st go;subst e1;subst e2;subst e3;obtain ⟨hi,st⟩:=st;obtain ⟨xs,sq,ln,hlt⟩:=go;obtain ⟨its,rv,pl,hz⟩:=I.list sq;have hlx:n-1-i<xs.length:=by omega
  obtain ⟨u,eu,ru⟩:=rv.get (Zf hlx);have e:(n:Int)-1-(i:Int)=((n-1-i:Nat):Int):=by omega
  rw[e] at st;refine wpAny_pyNext_rev_item st pl.isList (x:=u) (by simpa using eu) fun h' st' sb=>?_;have e':((n-1-i:Nat):Int)-1=(n:Int)-1-((i+1:Nat):Int):=by omega
  rw[e'] at st';obtain ⟨f1,f2,f3,f4,f5,f6⟩:=hf it 'g';refine ⟨u,xs[n-1-i],H,rfl,I.turned (t':=s.toks) (fun b o hb e=>sb.extBut b o hb e) f1 f2 f4 f5 f6,ru,⟨rfl,fun ys sq' _=>by rw[I.list_inj sq' sq];exact Zf hlx⟩,⟨hlt,st'⟩,fun b hb=>(hf b hb).1⟩
 done:=by
  intro X e1 e2 e3 hc i pins s σ H E I hf st stop;subst e1;subst e2;subst e3;obtain ⟨hi,st⟩:=st;have hin:i=n:=stop;subst hin;have e:(i:Int)-1-(i:Int)=-1:=by omega
  rw[e] at st;obtain ⟨f1,f2,f3,f4,f5,f6⟩:=hf it 'g';exact wpAny_pyNext_rev_end (I.ok.hd hc) st fun h' k=>⟨rfl,I.turned (t':=s.toks) (fun b o hb e=>k b o hb e) f1 f2 f4 f5 f6⟩
 self:=fun A i s Q E st h=>wpAny_pyIter_revIter st.2 h
 hint:=fun A i s Q E st h=>zlu st.2 h
def revS:RS:=fun ws G Q=>match ws with
 | [.ref p]=>∃ xs,yG G p=some xs/\∀ r,G r=none->Q (.ref r) (put G r (.lst xs.reverse))
 |_=>False
theorem zcz:jI revS:=by
 intro ws G Q Q' k h;unfold revS at h ⊢
 split at h
 .obtain ⟨xs,e1,h⟩:=h;exact ⟨xs,e1,fun p hp=>k _ _ (h p hp)⟩
 .exact h.elim
theorem znt {X:Cx} (hc:X.calm=true) (pins:List (Addr×Obj)) (s:Shared) (σ:L2.St) (H:Hp) (vs:List V) (us:List Value) (Q:VK) (I:Inv X pins σ H s) (r:yV vs us) (h:gR X.K revS vs H Q) :
  wpAny 'f' X.A (call (.type "reversed") us) (fun v s1=>wpAny 'f' X.A (call (.type "list") [v]) (EP X pins σ Q) X.xe s1) X.xe s:=by
 obtain ⟨ws,G,rs,ab,h⟩:=h;unfold revS at h
 split at h
 .rename_i p;obtain ⟨v,rfl,rv⟩:=qG rs;cases (show v=.ref p from rv);obtain ⟨u,rfl,ru⟩:=qI r;cases (show u=Value.ref p from ru);obtain ⟨xs,e,h⟩:=h;obtain ⟨vs,sq,rr⟩:=ab.seq e;obtain ⟨its,vv,pl,hz⟩:=I.list sq;have hl:=pl.isList
  have hlt:p<s.heap.objs.size:=by
   obtain ⟨o,ho,_⟩:=hl;exact Zi ho
  refine call_reversed_list hl ?_;have I1:Inv X pins σ H { s with heap:=s.heap.push (revObj p ((its.toArray.size:Int)-1)),toks:=s.toks }:=I.kept fun b u e=>Zc _ e;have en:its.toArray.size=vs.length:=by rw[zzS,← vv.length]
  refine zhK hc 'c' 'c' I1 (zjg X.prog X.w X.K (n:=vs.length) (Zr hlt)) ⟨Zg _,?_⟩ (fun b hb=>?_) vs.length hz
   (fun i acc H'=>H'=H/\acc=vs.reverse.take i) ⟨rfl,by simp⟩ ?_ ?_
  .refine ⟨_,Zq _ rfl,rfl,?_⟩;show Data.fields #[.ref p,rawInt ((its.toArray.size:Int)-1)]=_;rw[en];simp
  .rw[ZH] at hb;subst hb;exact I.fpOk (zzR _) (I.hok.fresh (zzR _))
  .rintro i acc H' hi ⟨rfl,rfl⟩;refine ⟨⟨vs,sq,rfl,hi⟩,?_⟩;rintro v H2 ⟨rfl,e2⟩;refine ⟨rfl,?_⟩;have e2:=e2 vs sq rfl;have hl':i<vs.reverse.length:=by simpa using hi
   rw[ZJ hl'];congr 2;have:vs.reverse[i]?=some v:=by rw[Zbe hi];exact e2
   exact (Zw ((Zf hl').symm.trans this)).symm
  .rintro acc H' ⟨rfl,rfl⟩;refine ⟨rfl,?_⟩;rw[List.take_of_length_le 'g'];exact vK ab rr.reverse h
 .exact h.elim
end L3
namespace L3
open PySem PySem.Spec PyProof.Rows L2
def zK (S:List Addr) (G G':Hw):Prop:=∀ a o,a∉S->G a=some o->G' a=some o
theorem zK.refl {S:List Addr} {G:Hw}:zK S G G:=fun _ _ _ h=>h
theorem zK.trans {S:List Addr} {G G1 G2:Hw} (a:zK S G G1) (b:zK S G1 G2):zK S G G2:=fun x o hx h=>b x o hx (a x o hx h)
theorem zK.put {S:List Addr} {G:Hw} {p:Addr} {o:O} (h:p∈S):zK S G (put G p o):=fun x u hx hu=>by
 rw[yO (fun e:x=p=>hx (e▸h))];exact hu
theorem zK.new {S:List Addr} {G:Hw} {p:Addr} {o:O} (h:G p=none):zK S G (L3.put G p o):=fun x u hx hu=>by
 rw[yO (xU hu h)];exact hu
theorem zK.none {S:List Addr} {G G':Hw} {p:Addr} (k:zK S G G') (hp:p∉S) (h:G' p=Option.none):G p=Option.none:=by
 cases e:G p with
 |none=>rfl
 |some o=>rw[k p o hp e] at h;cases h
abbrev kS:xS:=.inr "seed"
abbrev kN:xS:=.inr "number"
abbrev kL:xS:=.inr "left"
noncomputable def zoG (seed num:Int) (l:Addr):O:=.dic [(kS,.int seed),(kN,.int num),(kL,.ref l)]
structure DealS (G:Hw) (d l:Addr) (seed num:Int) (left:List Int):Prop where
 dic:G d=some (zoG seed num l)
 lst:G l=some (.lst (left.map .int))
 s0:0<=seed
 s1:seed<2147483647
 n0:0<=num
 lf:∀ x∈left,(0:Int)<=x
 len:left.length<=63
 ne:d≠l
def xA (G:Hw) (d l:Addr):Prop:=∃ seed num left,DealS G d l seed num left
theorem dgS {a b c:W}:cB [(kS,a),(kN,b),(kL,c)] kS=some a:=by rfl
theorem dgN {a b c:W}:cB [(kS,a),(kN,b),(kL,c)] kN=some b:=by
 have e1:¬ (kS=kN):=by decide +kernel
 unfold cB;rw[Za6 (by simp[e1]),List.find?_cons_of_pos 'g'];rfl
theorem dgL {a b c:W}:cB [(kS,a),(kN,b),(kL,c)] kL=some c:=by
 have e1:¬ (kS=kL):=by decide +kernel
 have e2:¬ (kN=kL):=by decide +kernel
 unfold cB;rw[Za6 (by simp[e1]),Za6 (by simp[e2]),List.find?_cons_of_pos 'g'];rfl
theorem dpN {a b c x:W}:dput [(kS,a),(kN,b),(kL,c)] kN x=[(kS,a),(kN,x),(kL,c)]:=by
 unfold dput;have e1:¬ (kS=kN):=by decide +kernel
 have e2:¬ (kL=kN):=by decide +kernel
 simp[e1,e2]
theorem dpS {a b c x:W}:dput [(kS,a),(kN,b),(kL,c)] kS x=[(kS,x),(kN,b),(kL,c)]:=by
 unfold dput;have e1:¬ (kN=kS):=by decide +kernel
 have e2:¬ (kL=kS):=by decide +kernel
 simp[e1,e2]
noncomputable def zoL:ISs:=(.cons (.whl (.and (.cmp .Eq (.ix 'h' "number"⁻¹) 0⁻¹) (.cmp .Gt (.call 1 (.cons (.ix 'h' "left"⁻¹) .nil)) 0⁻¹)) (.cons (.asgI 'h' "number"⁻¹ (.mth 0 (.ix 'h' "left"⁻¹) .nil))
 .nil))
 (.cons (.asg 2 (.ix 'h' "number"⁻¹))
 (.cons (.ite (.cmp .Gt (.var 2) 0⁻¹) (.cons (.asgI 'h' "number"⁻¹ (.bin .FloorDiv (.var 2) (.var 1)))
 (.cons (.ret (.bin .Mod (.var 2) (.var 1)))
 .nil)) .nil)
 (.cons (.asg 3 (.bin .Mod (.bin .Add (.bin .Mult (.ix 'h' "seed"⁻¹) 48271⁻¹) 7919⁻¹) 2147483647⁻¹))
 (.cons (.asgI 'h' "seed"⁻¹ (.bin .Mod (.bin .Add (.bin .Mult (.var 3) 40692⁻¹) 104729⁻¹) 2147483399⁻¹))
 (.cons (.asg 4 (.bin .Mod (.bin .Mult (.ix 'h' "seed"⁻¹) (.ix 'h' "seed"⁻¹)) 2147483563⁻¹))
 (.cons (.ret (.bin .Mod (.bin .Add (.bin .Mult (.bin .Mod (.bin .Mult (.var 3) (.var 3)) 2147483629⁻¹) 2147483563⁻¹) (.var 4)) (.var 1)))
 .nil)))))))
abbrev eLen:Fn3:=⟨"len", fun ws G Q _=>gM ws G Q⟩
abbrev ePop:Mt3:=⟨"pop", "list", popS⟩
theorem DealS.put {G:Hw} {d l:Addr} {seed num:Int} {left:List Int} (D:DealS G d l seed num left) {seed' num':Int} (h1:0<=seed') (h2:seed' < 2147483647) (h3:0<=num'):DealS (put G d (zoG seed' num' l)) d l seed' num' left :=
 ⟨zM,by rw[yO D.ne.symm];exact D.lst,h1,h2,h3,D.lf,D.len,D.ne⟩
theorem zgb {i j:Int}:yQ (.int i) (.int j)=decide (i=j):=by
 simp[yQ,Zbd]
theorem kT {G:Hw} {i j:Int}:fC G (.int i) (.int j)=some (decide (i=j)):=by
 simp[fC,pur,dep,zgb]
theorem zjF {left:List Int}:(left.map W.int)[left.length-1]?=(left[left.length-1]?).map W.int:=by simp
theorem modb {a m:Int} (h:0<m):0<=a % m/\a % m<m:=⟨ZbW _ 'd',Zby _ h⟩
theorem zda {d l:Addr} {m:Int} {G G1:Hw} {Q:Q3} {seed num:Int} {left:List Int} (D:DealS G1 d l seed num left) (kp:zK [d,l] G G1) (hm:0<m/\m<1073741824) (few:∀ {a b c:W},[(kS,a),(kN,b),(kL,c)].length<sizeLine)
  (hq:∀ r G',0<=r->r<m->zK [d,l] G G'->xA G' d l->Q (.int r) G'):if decide (0<num)=true then
   CDiv num m/\[(kS,W.int seed),(kN,W.int num),(kL,W.ref l)].length<sizeLine/\0<m/\Q (W.int (num % m)) (put G1 d (O.dic [(kS,W.int seed),(kN,W.int (num / m)),(kL,W.ref l)]))
  else
   CMul seed 48271/\(0:Int)<2147483647/\CMul ((seed * 48271+7919) % 2147483647) 40692/\(0:Int)<2147483399/\[(kS,W.int seed),(kN,W.int num),(kL,W.ref l)].length<sizeLine /\
   CMul (((seed * 48271+7919) % 2147483647 * 40692+104729) % 2147483399) (((seed * 48271+7919) % 2147483647 * 40692+104729) % 2147483399)/\(0:Int)<2147483563 /\
   CMul ((seed * 48271+7919) % 2147483647) ((seed * 48271+7919) % 2147483647)/\(0:Int)<2147483629 /\
   CMul ((seed * 48271+7919) % 2147483647 * ((seed * 48271+7919) % 2147483647) % 2147483629) 2147483563/\0<m /\
   Q (W.int (((seed * 48271+7919) % 2147483647 * ((seed * 48271+7919) % 2147483647) % 2147483629 * 2147483563+((seed * 48271+7919) % 2147483647 * 40692+104729) % 2147483399 * (((seed * 48271+7919) % 2147483647 * 40692+104729) % 2147483399) % 2147483563) % m))
    (put G1 d (O.dic [(kS,W.int (((seed * 48271+7919) % 2147483647 * 40692+104729) % 2147483399)),(kN,W.int num),(kL,W.ref l)])):=by
 split
 .exact ⟨hm,few,hm.1,hq _ _ (modb hm.1).1 (modb hm.1).2 (kp.trans (zK.put 'g')) ⟨seed,num / m,left,D.put D.s0 D.s1 (Int.ediv_nonneg D.n0 'd')⟩⟩
 .have b1:=modb (a:=seed * 48271+7919) (m:=2147483647) 'c';generalize (seed * 48271+7919) % 2147483647=x at b1 ⊢;have b2:=modb (a:=x * 40692+104729) (m:=2147483399) 'c';generalize (x * 40692+104729) % 2147483399=y at b2 ⊢;refine ⟨.inr ⟨by decide,by decide⟩,by decide,.inr ⟨by decide,by decide⟩,by decide,few,.inl ⟨by omega,by omega⟩,by decide,.inl ⟨by omega,by omega⟩,by decide,.inr ⟨by decide,by decide⟩,hm.1,?_⟩;exact hq _ _ (modb hm.1).1 (modb hm.1).2 (kp.trans (zK.put 'g')) ⟨y,num,left,D.put b2.1 'd' D.n0⟩
theorem zke {Γ:Ctx3} (h1:Γ.fn[1]?=some eLen) (h2:Γ.mt[0]?=some ePop) {d l:Addr} {m:Int} {G:Hw} {Q:Q3} {nx:qX->Hw->Prop} (D:xA G d l) (hm:0<m/\m<1073741824)
  (hq:∀ r G',0<=r->r<m->zK [d,l] G G'->xA G' d l->Q (.int r) G'):zI Γ XN zoL { nx:=nx,rt:=Q } [d⁻¹,some (.int m),none,none,none] G:=by
 obtain ⟨seed,num,left,D⟩:=D;dsimp only[zoL,zI,zT,zU,zQ,zH,zF,zC,zB,zS,zW,zN,ZE,ZV,Zan,Za4];simp only[h1,h2];refine ⟨fun k σ G'=>σ=[d⁻¹,some (.int m),none,none,none]/\zK [d,l] G G'/\∃ num left,k=left.length/\DealS G' d l seed num left,⟨_,rfl,.refl,num,left,rfl,D⟩,?_⟩;rintro k σ G1 ⟨rfl,kp,num,left,rfl,D⟩;have hd:G1 d=some (.dic [(kS,.int seed),(kN,.int num),(kL,.ref l)]):=D.dic;have hl:G1 l=some (.lst (left.map .int)):=D.lst;have hds:∀ o,(put G1 d o) d=some o:=fun o=>zM;have hdl:∀ o,(put G1 l o) d=some (.dic [(kS,.int seed),(kN,.int num),(kL,.ref l)]):=fun o=>by rw[yO D.ne];exact hd
 have few:∀ {a b c:W},[(kS,a),(kN,b),(kL,c)].length<sizeLine:=by intros;show 3<sizeLine;rw[Z5];decide
 simp only[ZE,ZV,Zan,Za4,kU,hd,zf4,dgN,dgL,dgS,zA,kT,zE,gM,gN,hl,zzM,tyW,popS,mZ,zjF,setR,hdl,hds,dpN,dpS,wN]
 by_cases hn:num=0
 .simp only[decide_eq_true hn,if_true]
  by_cases hlen:(0:Int)<(left.length:Int)
  .simp only[decide_eq_true hlen,if_true];have hlast:left.length-1<left.length:=by omega
   rw[Zf hlast];simp only[Option.map_some];refine ⟨trivial,few,left.dropLast.length,by rw[Zbp];omega,trivial,?_,left[left.length-1],left.dropLast,rfl,?_⟩
   .exact (kp.trans (zK.put 'g')).trans (zK.put 'g')
   .refine ⟨zM,?_,D.s0,D.s1,D.lf _ (ZB hlast),fun x hx=>D.lf x (List.dropLast_subset _ hx),by have:=D.len;rw[Zbp];omega,D.ne⟩;rw[yO D.ne.symm,zM,List.map_dropLast]
  .simp only[decide_eq_false hlen,zzB,if_false];exact zda D kp hm few hq
 .simp only[decide_eq_false hn,zzB,if_false];exact zda D kp hm few hq
theorem nM {items:List W} {stab:Hw->Prop} {G1:Hw} {turn:W->Hw->(Option W->Hw->Prop)->Prop} {Q:Q3} (f:W->Option W) (hs:stab G1) (hl:items.length<=sizeLine) (ht:∀ w∈items,∀ K:Option W->Hw->Prop,K (f w) G1->turn w G1 K)
  (hq:∀ p,G1 p=none->Q (.ref p) (put G1 p (.lst (items.filterMap f)))):lcR items stab G1 turn Q:=by
 refine ⟨fun i acc G=>G=G1/\acc=(items.take i).filterMap f,⟨rfl,by simp⟩,?_,hl,?_,?_⟩
 .rintro i acc G ⟨rfl,rfl⟩ hi;refine ⟨hs,Zb (Zat _ _) ?_⟩;rw[ZaE];omega
 .rintro i w acc G hi ⟨rfl,rfl⟩;have hlt:i<items.length:=(Zl.mp hi).1;have hw:items[i]=w:=(Zl.mp hi).2;refine ht w (Zo hi) _ ?_;have et:items.take (i+1)=items.take i++[w]:=by rw[ZJ hlt,hw]
  cases e:f w with
  |some x=>exact ⟨rfl,by rw[et,List.filterMap_append];simp[e]⟩
  |none=>exact ⟨rfl,by rw[et,List.filterMap_append];simp[e]⟩
 .rintro acc G ⟨rfl,rfl⟩ p hp;rw[ZaG];exact hq p hp
theorem zis {α β:Type} (f:α->β) (xs:List α) (lo hi:Option Int):cut (xs.map f) lo hi=(cut xs lo hi).map f:=by
 unfold cut;rw[zzM,List.map_take,List.map_drop]
theorem zmM {α:Type} (xs:List α) (lo hi:Option Int):(cut xs lo hi).length<=xs.length:=by
 unfold cut;rw[ZaE,Zbk];omega
noncomputable def zoM:ISs:=(.cons (.asg 2 (.lc (.nm 0) ["_law_cell"] [] (.val (.sl 'h' (.yes (.var 1)) (.yes 63⁻¹))) .no (.call 0 (.cons 'h' (.cons (.bin .Sub 0⁻¹ 'h') .nil)))))
 (.cons (.asg 3 (.bin .Add 7919⁻¹ (.var 1)))
 (.cons (.for (.nm 4) (.val (.var 2)) (.cons (.asg 3 (.bin .Mod (.bin .Add (.bin .Mult (.var 3) 69621⁻¹) (.bin .Mod (.var 4) 2147483629⁻¹)) 2147483647⁻¹))
 .nil))
 (.cons (.ret (.dct ["seed", "number", "left"] (.cons (.var 3) (.cons 0⁻¹ (.cons (.spc 0 (.cons (.lc (.nm 0) ["_law_cell"] [] (.val (.var 2)) (.yes (.cmp .GtE 'h' (.bin .Pow 10⁻¹ 18⁻¹))) 'h') .nil)) .nil)))))
 .nil))))
abbrev eMax:Fn3:=⟨"max", fun ws G Q _=>maxS ws G Q⟩
abbrev eRev:Sx3:=⟨lofM "reversed", revS⟩
def absI (x:Int):Int:=if 0-x > x then 0-x else x
theorem zmV (x:Int):0<=absI x:=by unfold absI;split<;>omega
theorem zL {G:Hw} {p:Addr} {ws:List W} (h:G p=some (.lst ws)):yG G p=some ws:=by unfold yG;rw[h]
theorem dct3 {a b c:W}:zkj ["seed", "number", "left"] [a,b,c]=[(kS,a),(kN,b),(kL,c)]:=by
 have e1:¬ (kS=kN):=by decide +kernel
 have e2:¬ (kS=kL):=by decide +kernel
 have e3:¬ (kN=kL):=by decide +kernel
 simp[zkj,dput,e1,e2,e3]
def zgl (G:Hw) (w:W) (ns:List Int):Prop:=(∃ a,w=.ref a/\yG G a=some (ns.map .int))\/w=.lsf (ns.map .int)
theorem zgl.sl {G:Hw} {w:W} {ns:List Int} (h:zgl G w ns) {lo hi:Option Int} {Q:Q3} (hq:∀ r,G r=none->Q (.ref r) (put G r (.lst (cut (ns.map W.int) lo hi)))):slR w lo hi G Q:=by
 rcases h with ⟨a,rfl,e⟩|rfl
 .simp only[slR,e];exact hq
 .exact hq
theorem zki {Γ:Ctx3} (h0:Γ.fn[0]?=some eMax) (h2:Γ.sx[0]?=some eRev) {a:W} {base:Int} {ns:List Int} {G:Hw} {Q:Q3} {nx:qX->Hw->Prop} (hs:zgl G a ns) (hl:ns.length<=63) (hb:0<=base/\base<=1000)
  (hq:∀ d l G',G d=none->G l=none->zK [] G G'->xA G' d l->Q (.ref d) G'):zI Γ XN zoM { nx:=nx,rt:=Q } [some a,some (.int base),none,none,none] G:=by
 dsimp only[zoM,zI,zT,zU,zQ,zH,zF,zC,zB,zS,zW,zY,zR,zV,zX,zN,ZE,ZV,zP];simp only[h0,h2,xH];refine hs.sl fun p1 hp1=>?_;dsimp only;have hp1':yG (put G p1 (.lst (cut (ns.map W.int) (some base) (some 63)))) p1=some (cut (ns.map W.int) (some base) (some 63)):=zL zM;rw[hp1'];rw[zis];generalize ecs:cut ns (some base) (some 63)=cs;have hcl:cs.length<=63:=by rw[← ecs];exact Zb (zmM _ _ _) hl
 rw[zis,ecs] at hp1';refine nM (fun w=>match w with|.int x=>some (.int (absI x))|_=>none) hp1' (by rw[zzM,Z5];omega) ?_ ?_
 .intro w hw K hK;obtain ⟨x,hx,rfl⟩:=zzP hw;simp only[nT,Ze,Zj,List.replicate,zzV,Zv,Zan,ZE,wN,maxS,if_true];exact hK
 .intro p2 hp2
  have ef:(cs.map W.int).filterMap (fun w=>match w with|.int x=>some (.int (absI x))|_=>none)=(cs.map absI).map W.int:=by
   rw[Zbz,Zbg,← List.filterMap_eq_map];rfl
  rw[ef];generalize eG:put (put G p1 (.lst (cs.map W.int))) p2 (.lst ((cs.map absI).map W.int))=G2;have kp2:zK [] G G2:=by rw[← eG];exact (zK.new hp1).trans (zK.new hp2)
  have g2:G2 p2=some (.lst ((cs.map absI).map W.int)):=by rw[← eG];exact zM
  simp only[ZE,ZV,Zan,Za4,wN,zL g2];refine ⟨fun i σ G'=>G'=G2/\∃ (n:Int) (c:Option W),σ=[some a,some (.int base),p2⁻¹,some (.int n),c]/\0<=n/\n<2147483647,⟨rfl,7919+base,none,rfl,by omega,by omega⟩,?_,?_,?_⟩
  .rintro i σ G' ⟨rfl,_⟩ _;exact zL g2
  .rintro i w σ G' hi ⟨rfl,n,c,rfl,n0,n1⟩;have hw:=Zo hi;obtain ⟨x,hx,rfl⟩:=zzP hw;simp only[ZE,ZV,Zan,Za4,wN];exact ⟨.inr ⟨by decide,by decide⟩,by decide,by decide,trivial,_,_,rfl,(modb 'c').1,(modb 'c').2⟩
  .rintro σ G' ⟨rfl,n,c,rfl,n0,n1⟩;intro d hd;simp only[ZE,ZV];have g3:(put G' d (.dic [])) p2=some (.lst ((cs.map absI).map W.int)):=by rw[yO (xU g2 hd)];exact g2
   simp only[zL g3];refine nM (fun w=>match w with|.int x=>if (10:Int) ^ 18<=x then some (.int x) else none|_=>none) (zL g3) (by rw[zzM,zzM,Z5];omega) ?_ ?_
   .intro w hw K hK;obtain ⟨x,hx,rfl⟩:=zzP hw;simp only[nT,Ze,Zj,List.replicate,zzV,Zv,Zan,ZE,wN,zA,mZ,zE];refine ⟨⟨by decide,by decide,by decide⟩,?_⟩;have e18:(10:Int) ^ (18:Int).toNat=10 ^ 18:=rfl;rw[e18]
    by_cases hx:(10:Int) ^ 18<=x
    .rw[decide_eq_true hx,if_pos rfl];simp only[if_pos hx] at hK;exact hK
    .rw[decide_eq_false hx,if_neg zzN];simp only[if_neg hx] at hK;exact hK
   .intro p3 hp3
    have ef:((cs.map absI).map W.int).filterMap (fun w=>match w with|.int x=>if (10:Int) ^ 18<=x then some (.int x) else none|_=>none)=((cs.map absI).filter fun x=>decide ((10:Int) ^ 18<=x)).map W.int:=by
     generalize cs.map absI=ys
     induction ys with
     |nil=>rfl
     |cons y ys ih =>
      rw[zzU,Zaz,Zbj]
      by_cases hy:(10:Int) ^ 18<=y
      .simp only[if_pos hy,decide_eq_true hy,if_true,zzU,ih]
      .simp only[if_neg hy,decide_eq_false hy,zzB,if_false,ih]
    rw[ef];generalize efl:(cs.map absI).filter (fun x=>decide ((10:Int) ^ 18<=x))=fl;have flen:fl.length<=63:=by rw[← efl];refine Zb (ZL _ _) ?_;rw[zzM];exact hcl
    have fnn:∀ x∈fl,(0:Int)<=x:=fun x hx=>by
     rw[← efl] at hx;obtain ⟨y,hy,rfl⟩:=zzP (ZX.mp hx).1;exact zmV y
    refine ⟨fl.map W.int,zL zM,fun l hl'=>?_⟩
    have ned:d≠l:=fun e=>by
     subst e;rw[yO (xU zM hp3),zM] at hl';cases hl'
    have np3:d≠p3:=xU zM hp3;refine ⟨by rw[yO ned,yO np3,zM],rfl,?_⟩;rw[dct3];refine hq d l _ (kp2.none 'g' hd) ?_ ?_ ⟨n,0,fl.reverse,zM,?_,n0,n1,by omega,fun x hx=>fnn x (List.mem_reverse.mp hx),by rw[Z3];exact flen,ned⟩
    .have k3:zK [] G (put (put G' d (.dic [])) p3 (.lst (fl.map W.int))):=(kp2.trans (zK.new hd)).trans (zK.new hp3);exact k3.none 'g' hl'
    .intro x u hx hu;rw[yO (xU hu (kp2.none 'g' hd))];exact ((((kp2.trans (zK.new hd)).trans (zK.new hp3)).trans (zK.new hl')) x u hx hu)
    .rw[yO ned.symm,zM,← List.map_reverse]
structure FunD (K:yI) (x qual:Str) (st:Stmt) (dV:Value) (f:Addr) (fd:FuncData):Prop where
 ex:∃ (oc:Value) (od:Option Addr) (kV doc pm:Value) (an:Option Addr) (cdv ct:Value) (osl:Array (Option Value)),
  fd=PySem.W.fnOf x qual (qM st) (yZ st) (zD st) dV kV doc pm an cdv ct/\K.lookup f=some ⟨oc,od,.func fd,osl⟩/\PySem.W.codeIn K cdv qual=true
 kp:PySem.W.keepIn K (.ref f)=true
theorem vG {Γ:Ctx3} {q:Pr} {k:Nat} {M:MC} {x qual:Str} {st:Stmt} {dV:Value} {f:Addr} {fd:FuncData} {ps:List Str} {sp:qE} {body:ISs} (F:FunD q.K x qual st dV f fd) (S:FnScope M.N ps (zD st)) (g:∀ A,Room k A->Good Γ (q.at A))
  (eM:MOk Γ M (zD st)) (hm:qV body M (yZ st)=true) (len:∀ ws G Q,sp ws G Q XN->ws.length=ps.length)
  (hb:∀ ws G Q,sp ws G Q XN->zI Γ XN body { nx:=fun _ G'=>Q .non G',rt:=Q } (yT M.N ws) G):FnOk q.prog q.w q.K q.mg q.base CX0 (k+1) f fd ps (tX q.K sp):=by
 obtain ⟨oc,od,kV,doc,pm,an,cdv,ct,osl,rfl,lk,hcd⟩:=F.ex;refine fn_of lk hcd S (fun vs H Q E h=>?_) fun A outer s H vs Q E hr h=>?_
 .obtain ⟨ws,G,rs,ab,h⟩:=h;rw[rs.length];exact len ws G _ h
 .obtain ⟨ws,G,rs,ab,h⟩:=h;have gg:=g _ hr;refine ⟨lowS q.K (zI Γ XN body),PSs.nox (sndSs gg body M _ (yZ st) ?_ hm),?_⟩
  .exact ⟨'e',rfl,eM.sc.symm,S.nd,fun _ _=>rfl,by rw[eM.sc];exact S.kind,eM.fns,eM.gls,eM.mts,eM.its,eM.sxs,eM.ixs⟩
  .refine ⟨yT M.N ws,G,_,zgF rs,ab,⟨?_,?_,?_,?_⟩,hb ws G _ h⟩
   .exact fun σ G' τ H' g' _ a' z=>z .non H' g' (show wM q.K H' .non .non from rfl) a'
   .exact fun σ G' τ H' g' _ a' z=>z.elim
   .exact fun σ G' τ H' g' _ a' z=>z.elim
   .exact fun w G' v H' g' r' a' z=>z v H' g' r' a'
structure HD (K:yI) (x qual:Str) (st:Stmt) (dV:Value) (f:Addr):Prop where
 ex:∃ (oc:Value) (od an:Option Addr) (osl:Array (Option Value)) (kV doc pm cdv ct:Value),K.lookup f=some ⟨oc,od,.func (PySem.W.fnOf x qual (qM st) (yZ st) (zD st) dV kV doc pm an cdv ct),osl⟩/\PySem.W.codeIn K cdv qual=true
 kp:PySem.W.keepIn K (.ref f)=true
theorem HD.mk' {K:yI} {x qual:Str} {st:Stmt} {dV:Value} {f:Addr} {oc:Value} {od an:Option Addr} {osl:Array (Option Value)} {kV doc pm cdv ct:Value}
  (l:K.lookup f=some ⟨oc,od,.func (PySem.W.fnOf x qual (qM st) (yZ st) (zD st) dV kV doc pm an cdv ct),osl⟩) (c:PySem.W.codeIn K cdv qual=true) (k:PySem.W.keepIn K (.ref f)=true):HD K x qual st dV f:=⟨⟨oc,od,an,osl,kV,doc,pm,cdv,ct,l,c⟩,k⟩
theorem HD.fd {K:yI} {x qual:Str} {st:Stmt} {dV:Value} {f:Addr} (h:HD K x qual st dV f):∃ fd,FunD K x qual st dV f fd/\∃ kV doc pm an cdv ct,fd=PySem.W.fnOf x qual (qM st) (yZ st) (zD st) dV kV doc pm an cdv ct:=by
 obtain ⟨oc,od,an,osl,kV,doc,pm,cdv,ct,l,c⟩:=h.ex;exact ⟨_,⟨⟨oc,od,kV,doc,pm,an,cdv,ct,osl,rfl,l,c⟩,h.kp⟩,kV,doc,pm,an,cdv,ct,rfl⟩
def zet (f:Fn3):Prop:=∀ ws G (Q Q':Q3) E,'i'->f.sp ws G Q E->f.sp ws G Q' E
def vM (p:Par) (f:Fn3):Prop:=FnE p f/\zet f
def gD (m:Mt3):Prop:=∀ x ws G (Q Q':Q3),'i'->m.sp x ws G Q->m.sp x ws G Q'
def ziN (m:It3):Prop:=∀ ws G (R R':List W->(Hw->Prop)->Hw->Prop),(∀ a b c,R a b c->R' a b c)->m.sp ws G R->m.sp ws G R'
def GlE (p:Par) (g:Str×W):Prop:=∀ X,Fits p X->Gl X g.1->∀ q:Pos,(g.1==("__debug__" : Str))=false->g.1 ≠ "__name__" -> PE X (.Name g.1 q) (wO X.K fun _ G Q=>Q g.2 G)
theorem zed {Γ:Ctx3} {p:Par} (un:p.A.units+200<cLine) (fn:∀ f∈Γ.fn,vM p f) (gl:∀ g∈Γ.gl,GlE p g) (mt:∀ m∈Γ.mt,MtE p m/\gD m) (it:∀ i∈Γ.it,ItE p i/\ziN i)
  (cl:∀ c∈Γ.cl,Cls p.K c.1/\∀ f∈c.2,rP p.K c.1 f) (sx:∀ k∈Γ.sx,SxE p k/\jI k.sp) (ix:Γ.ix=[]):Good Γ p where
 mono:=⟨fun f hf=>(fn f hf).2,fun m hm=>(mt m hm).2,fun i hi=>(it i hi).2,fun k hk=>(sx k hk).2,fun k hk=>by rw[ix] at hk;cases hk⟩
 un:=un
 fn:=fun f hf=>(fn f hf).1
 gl:=gl
 mt:=fun m hm=>(mt m hm).1
 it:=fun i hi=>(it i hi).1
 cl:=cl
 sx:=fun k hk=>(sx k hk).1
 ix:=fun k hk=>by rw[ix] at hk;cases hk
theorem yM {α:Type} {P:α->Prop}:∀ x∈([]:List α),P x:=fun _ h=>nomatch h
theorem zG {α:Type} {P:α->Prop} {a:α} {l:List α} (h:P a) (t:∀ x∈l,P x):∀ x∈a::l,P x:=fun x hx=>by
 rcases Zk.mp hx with rfl|hx
 .exact h
 .exact t x hx
theorem bC {α:Type} {P:α->Prop} {a:α} {l:List α} (t:∀ x∈l,P x) (h:P a):∀ x∈l++[a],P x:=fun x hx=>by
 rcases Zm.mp hx with hx|hx
 .exact t x hx
 .rw[zzO hx];exact h
theorem tW {q:Pr} {A:Around} {x:Str} {w:W} {u:Value} {v:V} (hm:q.mg x=some u) (r:yR v u) (rp:∀ H,wM q.K H w v):GlE (q.at A) (x,w):=by
 intro X fits gl qp hd hn;have hm':X.mg x=some u:=by rw[fits.mg];exact hm
 refine (zlN gl hm' r hd).imp fun τ H Q h=>?_;obtain ⟨σ,G,hs,ab,h⟩:=h;exact h v H .refl (by have:=rp H;rw[fits.K];exact this) ab
theorem zh5 {q:Pr} {A:Around} {x:Str} {T:String} (hm:q.mg x=none) (hv:bootBuiltins x=some (.type T)):GlE (q.at A) (x,.ty T):=by
 intro X fits gl qp hd hn;have hm':X.mg x=none:=by rw[fits.mg];exact hm
 refine (zlR (v:=.ty T) gl hm' hv rfl hn hd).imp fun τ H Q h=>?_;obtain ⟨σ,G,hs,ab,h⟩:=h;exact h (.ty T) H .refl rfl ab
theorem fV {K:yI} {a:Addr} {o:Obj} {its:Array Value} {n:Nat} {ws:List W} {vs:List V} (l:K.lookup a=some o) (hc:o.cls=.type "tuple") (hd:o.data=.seq its n) (hz:its.size<=sizeLine) (hv:yV vs its.toList) (hr:∀ H,yU K H ws vs):∀ H,wM K H (.tup ws) (.ref a) :=
 fun H=>⟨a,vs,rfl,.inr ⟨o,its,n,l,hc,hd,hz,hv⟩,hr H⟩
theorem zg1:ziN ⟨"range", rngI⟩:=by
 intro ws G R R' k h;replace h:rngI ws G R:=h;show rngI ws G R';unfold rngI at h ⊢
 split at h
 .exact ⟨h.1,k _ _ _ h.2⟩
 .exact h.elim
def zgM:qE:=fun ws G Q _=>∃ a base ns,ws=[a,.int base]/\zgl G a ns/\ns.length<=63/\(0<=base/\base<=1000)/\∀ d l G',G d=none->G l=none->zK [] G G'->xA G' d l->Q (.ref d) G'
def zgL:qE:=fun ws G Q _=>∃ d l m,ws=[.ref d,.int m]/\xA G d l/\(0<m/\m<1073741824)/\∀ r G',0<=r->r<m->zK [d,l] G G'->xA G' d l->Q (.int r) G'
theorem zdy:zet ⟨"_law_deal", zgM⟩:=fun ws G Q Q' E k hh=>by
 obtain ⟨a,b,ns,h1,h2,h3,h4,h⟩:=hh;exact ⟨a,b,ns,h1,h2,h3,h4,fun d l G' a b c e=>k _ _ (h d l G' a b c e)⟩
theorem zdx:zet ⟨"_law_draw", zgL⟩:=fun ws G Q Q' E k hh=>by
 obtain ⟨a,b,m,h1,h2,h3,h⟩:=hh;exact ⟨a,b,m,h1,h2,h3,fun d l a b c e=>k _ _ (h d l a b c e)⟩
abbrev zoC:Fn3:=⟨"_law_deal", zgM⟩
abbrev fB:Fn3:=⟨"_law_draw", zgL⟩
abbrev eAll:Fn3:=⟨"all", fun ws G Q _=>allS (·.all id) ws G Q⟩
abbrev eLst:Fn3:=⟨"list", fun ws G Q _=>lstS ws G Q⟩
abbrev eRng:It3:=⟨"range", rngI⟩
section
variable {q:Pr} {A:Around} {k:Nat}
theorem zmz (hm:q.mg "max" = none):vM (q.at A) eMax:=⟨gK hm 'j' (fun X f=>zn2 f.calm) zcW (fun _ _ h=>h),fun ws G Q Q' _ k h=>zcW ws G Q Q' k h⟩
theorem zmB (hm:q.mg "len" = none):vM (q.at A) eLen:=⟨gK hm 'j' (fun X f=>zn5) zcZ (fun _ _ h=>h),fun ws G Q Q' _ k h=>zcZ ws G Q Q' k h⟩
theorem zmF (hm:q.mg "all" = none):vM (q.at A) eAll:=⟨gK hm 'j' (fun X f=>zoQ f.calm) (nB _) (fun _ _ h=>h),fun ws G Q Q' _ k h=>nB _ ws G Q Q' k h⟩
theorem zmA (hm:q.mg "list" = none):vM (q.at A) eLst:=⟨zmt hm 'j' (fun X f=>zn4) zcX (fun _ _ h=>h),fun ws G Q Q' _ k h=>zcX ws G Q Q' k h⟩
theorem zij:MtE (q.at A) ePop/\gD ePop:=⟨cR ZaA PySem.F.slot_list_pop PySem.F.type_list_pop (fun X f=>znF) zcJ,zcJ⟩
theorem zig (hm:q.mg "range" = none):ItE (q.at A) eRng/\ziN eRng:=⟨zoq hm,zg1⟩
theorem zih (hl:q.mg "list" = none) (hm:q.mg "reversed" = none):SxE (q.at A) eRev/\jI eRev.sp:=⟨zng hl hm 'j' zcz (fun X f=>znt f.calm),zcz⟩
end
theorem FnE.imp {p:Par} {nm:Str} {sp sp':qE} (h:FnE p ⟨nm,sp'⟩) (k:∀ ws G Q,sp ws G Q XN->sp' ws G Q XN):FnE p ⟨nm,sp⟩:=by
 intro X fits gl args t qp pos mt hn pa hnil hdb hnm;refine (h X fits gl args t qp pos mt hn pa hnil hdb hnm).imp fun τ H Q z=>?_;obtain ⟨σ,G,hs,ab,z⟩:=z;exact ⟨σ,G,hs,ab,mt σ G _ _ (fun ws G1 z=>k _ _ _ z) z⟩
theorem nS {K:yI} {x qual:Str} {st:Stmt} {f:Addr} {fd:FuncData} {ps:List Str} (F:FunD K x qual st .none f fd)
  (h:∀ (kV doc pm:Value) (an:Option Addr) (cdv ct:Value) (us:List Value),us.length=ps.length->bindArgs (PySem.W.fnOf x qual (qM st) (yZ st) (zD st) .none kV doc pm an cdv ct) ⟨us,[]⟩=pure (ps.zip us)):vL K fd ps []:=by
 obtain ⟨oc,od,kV,doc,pm,an,cdv,ct,osl,rfl,lk,hcd⟩:=F.ex;exact .all (h kV doc pm an cdv ct)
theorem zdk {K:yI} {x qual:Str} {st:Stmt} {T f:Addr} {fd:FuncData} {ps:List Str} {o:Obj} {items:Array Value} {n:Nat} (F:FunD K x qual st (.ref T) f fd) (l:K.lookup T=some o) (hd:o.data=.seq items n)
  (h:∀ (kV doc pm:Value) (an:Option Addr) (cdv ct:Value) (us:List Value),us.length=ps.length->∃ k:Option (Array Value)->Sem (List (Str×Value)),bindArgs (PySem.W.fnOf x qual (qM st) (yZ st) (zD st) (.ref T) kV doc pm an cdv ct) ⟨us,[]⟩=seqItems? (.ref T) >>= k/\k (some items)=pure (ps.zip us)):vL K fd ps []:=by
 obtain ⟨oc,od,kV,doc,pm,an,cdv,ct,osl,rfl,lk,hcd⟩:=F.ex;intro s us X hl;rw[Zv] at hl ⊢;obtain ⟨k,h1,h2⟩:=h kV doc pm an cdv ct us hl;exact BindsTo.of_defaults rfl (X _ _ l) hd h1 h2
theorem nK {q:Pr} {j k:Nat} {nm:Str} {f:Addr} {fd:FuncData} {ps:List Str} {sp:qE} (FO:FnOk q.prog q.w q.K q.mg q.base CX0 j f fd ps (tX q.K sp)) (hm:q.mg nm=f⁻¹) (hk:PySem.W.keepIn q.K (.ref f)=true) (hb:vL q.K fd ps [])
  (mono:zet ⟨nm,sp⟩) {A:Around} (hr:Room k A) (hjk:j<=k):vM (q.at A) ⟨nm,sp⟩ :=
 ⟨(zk0 (dws:=[]) (dvs:=[]) (FO.mono hjk) hm hk hb (fun _=>rfl) .nil (fun ws G Q Q' z h=>mono ws G Q Q' XN z h) hr).imp fun ws G Q h=>by rw[Zv];exact h,mono⟩
def zfD:qE:=fun ws G Q _=>∃ a ns,ws=[a]/\zgl G a ns/\ns.length<=63/\∀ G',Q (.bl true) G'
theorem nN {K:yI} {H:Hp}:∀ ns:List Int,yU K H (ns.map W.int) (ns.map V.int)
 | []=>rfl
 |n::ns=>⟨.int n,_,rfl,rfl,nN ns⟩
theorem zhN {K:yI} {H:Hp} {a:Addr} {ns:List Int} (hl:ns.length<=63) (hS:dL K H a (ns.map V.int)):tX K zfD [.ref a] H (fun v _=>v=.bl true) fun _ _ _=>False:=by
 rcases hS with hS|hS
 .refine ⟨[.ref a],fun b=>if b=a then some (.fix (ns.map W.int)) else none,⟨_,[],rfl,rfl,rfl⟩,?_,.ref a,ns,rfl,.inl ⟨a,rfl,by simp[yG]⟩,hl,fun G' v H' _ r _=>r⟩;intro b o e;dsimp only at e
  by_cases hb:b=a
  .subst hb;rw[if_pos rfl] at e;cases e;rcases hS with hS|⟨ob,hS⟩
   .exact ⟨_,hS,_,default,.inl rfl,nN ns⟩
   .exact ⟨_,hS,_,ob,.inr rfl,nN ns⟩
  .rw[if_neg hb] at e;cases e
 .exact ⟨[.lsf (ns.map W.int)],fun _=>none,⟨_,[],rfl,⟨a,_,rfl,hS,nN ns⟩,rfl⟩,(fun b o e=>nomatch e),.lsf (ns.map W.int),ns,rfl,.inr rfl,hl,fun G' v H' _ r _=>r⟩
theorem walk3 {l:PySem.W.OpenLaw} {k:Nat} {q:Program} {loose:List Str} {XP:(Str->Option Value)->Heap->Prop} {YP:World->Heap->Prop} {d:DefRec} {K:Params->PySem.W.Frag} (hn:l.most=some 63) (hdf:d.params.defaults=[]) (hr:Room k callerA)
  (hY:∀ (w:World) (h:Heap),YP w h->(K w.params).In h)
  (F:∀ (w:World) (mg:Str->Option Value) (fa:Addr) (h:Heap),(K w.params).In h->h.Ns mainGlobals mg->mg d.name=fa⁻¹ ->
   ∃ fd:FuncData,(∀ (s:Shared) (u:Value),BindsTo s fd ⟨[u],[]⟩ [("_law_script", u)])/\fd.scope.names.lookup ("_law_script" : Str)=some .local/\∀ base:Heap,(K w.params).In base->base.Ns mainGlobals mg->FnOk l.prog w (K w.params) mg base CX0 k fa fd ["_law_script"] (tX (K w.params) zfD)) :
  PySem.W.WalkO q loose XP YP l.row.toRowW d [] (fun f vs=>PySem.call f vs) :=
 L2.walk_of (n:=63) (k:=k) (x := "_law_script") (CX:=fun _=>CX0) (sp:=fun w=>tX (K w.params) zfD) hn 'c' hdf hr hY F (fun _ _ a ns hl _ hS=>zhN hl hS) fun _ _ _ _ _ z=>z
end L3
namespace L3
open PySem PySem.Spec PyProof.Rows L2 PySem.SeqAt
def zf5:MS:=fun x ws G Q=>match x,ws with
 | .str sep,[.ref p]=>∃ ts:List Str,yG G p=some (ts.map .str)/\JoinOk sep ts=true/\Q (.str (Txt.join sep ts)) G
 |_,_=>False
theorem za0:∀ x ws G (Q Q':Q3),'i'->zf5 x ws G Q->zf5 x ws G Q':=by
 intro x ws G Q Q' k h;unfold zf5 at h ⊢
 split at h
 .obtain ⟨ts,e,o,h⟩:=h;exact ⟨ts,e,o,k _ _ h⟩
 .exact h.elim
theorem zcd {K:yI} {H:Hp}:∀ {ts:List Str} {vs:List V} {us:List Value},yU K H (ts.map .str) vs->yV vs us->∃ l:List (Str×Tok),l.map (·.1)=ts/\us=strValues l
 | [],vs,us,r,v=>by cases (show vs=[] from r);cases v;exact ⟨[],rfl,rfl⟩
 |t::ts,vs,us,r,v=>by
  obtain ⟨x,tl,rfl,rx,rt⟩:=r;cases (show x=.str t from rx)
  cases v with
  |cons a c =>
   obtain ⟨tk,rfl⟩:=a;obtain ⟨l,e1,e2⟩:=zcd rt c;exact ⟨(t,tk)::l,by rw[zzU,e1],by rw[e2];rfl⟩
theorem zmc {X:Cx}:MtR X "str.join" (lowM X.K zf5):=by
 intro pins s σ H x xs v us Q I rx rxs h;obtain ⟨w,ws,G,rw1,rs,ab,h⟩:=h;unfold zf5 at h
 split at h
 .rename_i sep p;cases (show x=.str sep from rw1);obtain ⟨y,rfl,ry⟩:=qG rs;cases (show y=.ref p from ry);obtain ⟨u,rfl,ru⟩:=qI rxs;cases (show u=Value.ref p from ru);obtain ⟨t,rfl⟩:=rx;obtain ⟨ts,e,ok,h⟩:=h;obtain ⟨vs,sq,rr⟩:=ab.seq e;obtain ⟨its,vv,pl,hz⟩:=I.list sq;obtain ⟨l,e1,e2⟩:=zcd rr vv;subst e2;exact vA I.tk (SC.join pl.isList e1 ok fun t' k h0=>⟨.str (Txt.join sep ts),H,I.tok _ h0,⟨t',rfl⟩,h _ H .refl rfl ab⟩)
 .exact h.elim
abbrev zkd:Mt3:=⟨"join", "str", zf5⟩
theorem zfl {q:Pr} {A:Around}:MtE (q.at A) zkd/\gD zkd:=⟨cR PySem.F.plainAttrs_str PySem.F.slot_str_join PySem.F.type_str_join (fun X f=>zmc) za0,za0⟩
def rF:RS:=fun ws G Q=>match ws with
 | [.int i]=>Q (.int i) G
 | [.bl b]=>Q (.int (if b then 1 else 0)) G
 |_=>False
theorem zc3:jI rF:=by
 intro ws G Q Q' k h;unfold rF at h ⊢
 split at h
 .exact k _ _ h
 .exact k _ _ h
 .exact h.elim
theorem zow {X:Cx}:jG X (.type "int") (gR X.K rF):=by
 intro pins s σ H xs us Q I r h;obtain ⟨ws,G,rs,ab,h⟩:=h;unfold rF at h
 split at h
 .rename_i i;obtain ⟨v,rfl,rv⟩:=qG rs;cases (show v=.int i from rv);exact zdi pins s σ H _ us Q I r (.inl ⟨i,rfl,h _ H .refl rfl ab⟩)
 .rename_i b;obtain ⟨v,rfl,rv⟩:=qG rs;cases (show v=.bl b from rv);exact zdi pins s σ H _ us Q I r (.inr ⟨b,rfl,h _ H .refl rfl ab⟩)
 .exact h.elim
abbrev eInt:Fn3:=⟨"int", fun ws G Q _=>rF ws G Q⟩
theorem zmD {q:Pr} {A:Around} (hm:q.mg "int" = none):vM (q.at A) eInt:=⟨zmt hm 'j' (fun X f=>zow) zc3 (fun _ _ h=>h),fun ws G Q Q' _ k h=>zc3 ws G Q Q' k h⟩
theorem zn8 {X:Cx} {pins:List (Addr×Obj)} {σ:L2.St} {H:Hp} {s:Shared} {G:Hw} {w:W} {v:V} {u:Value} {T:String} (I:Inv X pins σ H s) (ab:xE X.K H G) (rv:wM X.K H w v) (ru:yR v u) (ty:tyO G w=some T) :
  ∃ HH:Heap->Prop,PySem.W.KitX X.K u (.type T) HH/\HH s.heap/\u≠.builtin "__main__.__loader__#opaque" := by
 cases w with
 |non=>cases ty;cases (show v=.non from rv);cases (show u=Value.none from ru);exact ⟨_,PySem.W.kitx_none,True.intro,fun z=>nomatch z⟩
 |bl x=>cases ty;cases (show v=.bl x from rv);cases (show u=Value.bool x from ru);exact ⟨_,PySem.W.kitx_bool,True.intro,fun z=>nomatch z⟩
 |int x=>cases ty;cases (show v=.int x from rv);obtain ⟨t,rfl⟩:=(show ∃ t,u=Value.int x t from ru);exact ⟨_,PySem.W.kitx_int,True.intro,fun z=>nomatch z⟩
 |str x=>cases ty;cases (show v=.str x from rv);obtain ⟨t,rfl⟩:=(show ∃ t,u=Value.str x t from ru);exact ⟨_,PySem.W.kitx_str,True.intro,fun z=>nomatch z⟩
 |tup ws' =>
  cases ty;obtain ⟨a,vs,rfl,sq,rr⟩:=rv;cases (show u=Value.ref a from ru);obtain ⟨its,_,p,_⟩:=I.tuple sq;obtain ⟨o,h1,h2,_⟩:=p;exact ⟨_,PySem.W.kitx_tuple,⟨o,h1,h2⟩,fun z=>nomatch z⟩
 |ref p =>
  cases (show v=.ref p from rv);cases (show u=Value.ref p from ru);simp only[tyO] at ty
  have lk:∀ ws',yG G p=some ws'->∃ HH:Heap->Prop,PySem.W.KitX X.K (.ref p) (.type "list") HH/\HH s.heap/\Value.ref p≠.builtin "__main__.__loader__#opaque" := fun ws' el=>by
   obtain ⟨vs,sq,rr⟩:=ab.seq el;obtain ⟨its,_,pl,_⟩:=I.list sq;obtain ⟨o,ho,hc,_⟩:=pl.isList;exact ⟨_,PySem.W.kitx_list,⟨o,ho,hc⟩,fun z=>nomatch z⟩
  split at ty
  .rename_i ws' eg;cases ty;exact lk ws' (by unfold yG;rw[eg])
  .rename_i ws' eg;cases ty;exact lk ws' (by unfold yG;rw[eg])
  .rename_i kvs eg;cases ty;obtain ⟨l,e',rl⟩:=ab.dic eg;obtain ⟨_,_,vs,_,o,_,_,e1,e2,_⟩:=(show wY X.prog X.w H s.heap p (.dK l) from I.hok p _ e');exact ⟨_,PySem.W.kitx_dict,⟨o,e1,e2.1⟩,fun z=>nomatch z⟩
  .cases ty
 |_=>cases ty
def ziU:List W->Option (List String)
 | []=>some []
 | .ty T::r=>(ziU r).map (T::·)
 |_=>none
theorem zeC {K:yI} {H:Hp}:∀ {ws:List W} {Ts:List String} {vs:List V} {us:List Value},ziU ws=some Ts->yU K H ws vs->yV vs us->us=Ts.map .type
 | [],Ts,vs,us,e,r,v=>by cases e;cases (show vs=[] from r);cases v;rfl
 |w::ws,Ts,vs,us,e,r,v=>by
  cases w with
  |ty T =>
   simp only[ziU] at e;obtain ⟨Ts',e',rfl⟩:=ZF.mp e;obtain ⟨x,tl,rfl,rx,rt⟩:=r;cases (show x=.ty T from rx)
   cases v with
   |cons a c =>
    cases (show _=Value.type T from a);rw[zeC e' rt c];rfl
  |_=>cases e
def isjS (K:yI):RS:=fun ws G Q=>match ws with
 | [x,.ty T]=>∃ T' b,tyO G x=some T'/\PySem.W.kitOne K (.type T') (.type T)=some b/\Q (.bl b) G
 | [x,.tup ts]=>∃ T' b Ts,tyO G x=some T'/\ziU ts=some Ts/\PySem.W.kitAny K (.type T') (Ts.map .type)=some b/\Q (.bl b) G
 |_=>False
theorem zc2 (K:yI):jI (isjS K):=by
 intro ws G Q Q' k h;unfold isjS at h ⊢
 split at h
 .obtain ⟨T',b,e,e',h⟩:=h;exact ⟨T',b,e,e',k _ _ h⟩
 .obtain ⟨T',b,Ts,e,e',e2,h⟩:=h;exact ⟨T',b,Ts,e,e',e2,k _ _ h⟩
 .exact h.elim
theorem zor {X:Cx}:jG X (.builtin "isinstance") (gR X.K (isjS X.K)):=by
 intro pins s σ H xs us Q I r h;obtain ⟨ws,G,rs,ab,h⟩:=h;unfold isjS at h
 split at h
 .rename_i w T;obtain ⟨v,y,rfl,rv,ry⟩:=zlw rs;cases (show y=.ty T from ry);obtain ⟨u,c,rfl,ru,rc⟩:=zld r;cases (show c=Value.type T from rc);obtain ⟨T',b,ty,e,h⟩:=h;obtain ⟨HH,kx,hp,hb⟩:=zn8 I ab rv ru ty;exact vA I.tk (PySem.W.kia_one kx I.kIn hp e hb fun tk h0=>⟨.bl b,H,I.tok _ h0,rfl,h _ H .refl rfl ab⟩)
 .rename_i w ts;obtain ⟨v,y,rfl,rv,ry⟩:=zlw rs;obtain ⟨u,c,rfl,ru,rc⟩:=zld r;obtain ⟨T',b,Ts,ty,et,e,h⟩:=h;obtain ⟨a,vs,rfl,sq,rr⟩:=ry;cases (show c=Value.ref a from rc);obtain ⟨its,vv,p,_⟩:=I.tuple sq;obtain ⟨⟨oc,od,dt,sl⟩,h1,h2,n,h3⟩:=p;cases (show oc=_ from h2);cases (show dt=_ from h3);have ei:=zeC et rr vv;subst ei;obtain ⟨HH,kx,hp,hb⟩:=zn8 I ab rv ru ty;exact vA I.tk (PySem.W.kia_tup kx I.kIn hp h1 e hb fun tk h0=>⟨.bl b,H,I.tok _ h0,rfl,h _ H .refl rfl ab⟩)
 .exact h.elim
abbrev eIsj (K:yI):Fn3:=⟨"isinstance", fun ws G Q _=>isjS K ws G Q⟩
theorem zmC {q:Pr} {A:Around} (hm:q.mg "isinstance" = none):vM (q.at A) (eIsj q.K):=⟨gK (id := "isinstance") hm 'j' (fun X f=>by rw[← show X.K=q.K from f.K];exact zor) (zc2 _) (fun _ _ h=>h),fun ws G Q Q' _ k h=>zc2 _ ws G Q Q' k h⟩
theorem zkD {q:Pr} {k:Nat} {M:MC} {nm qual:Str} {st:Stmt} {f:Addr} {fd:FuncData} {ps:List Str} {sp:Nat->qE} {body:ISs} {Γ:Fn3->Ctx3} (F:FunD q.K nm qual st .none f fd) (S:FnScope M.N ps (zD st))
  (hm:q.mg nm=f⁻¹) (hb:vL q.K fd ps []) (h0:∀ ws G Q,¬ sp 0 ws G Q XN) (len:∀ n ws G Q,sp n ws G Q XN->ws.length=ps.length) (mono:∀ n,zet ⟨nm,sp n⟩)
  (g:∀ n A,Room k A->vM (q.at A) ⟨nm,sp n⟩->Good (Γ ⟨nm,sp n⟩) (q.at A)) (eM:∀ n,MOk (Γ ⟨nm,sp n⟩) M (zD st)) (look:qV body M (yZ st)=true)
  (hbd:∀ n ws G Q,sp (n+1) ws G Q XN->zI (Γ ⟨nm,sp n⟩) XN body { nx:=fun _ G'=>Q .non G',rt:=Q } (yT M.N ws) G):∀ n,FnOk q.prog q.w q.K q.mg q.base CX0 (k+n) f fd ps (tX q.K (sp n))
 | 0=>⟨fun vs H Q E ⟨ws,G,_,_,h⟩=>absurd h (h0 _ _ _),fun A outer s H args us vs Q E _ _ _ _ ⟨ws,G,_,_,h⟩=>absurd h (h0 _ _ _),fun x _ _ A outer s H args us vs Q E _ _ _ _ ⟨ws,G,_,_,h⟩=>absurd h (h0 _ _ _)⟩
 |n+1=>vG (k:=k+n) F S (fun A hr=>g n A (hr.mono (ZbT _ _)) (nK (zkD F S hm hb h0 len mono g eM look hbd n) hm F.kp hb (mono n) hr (zzR _))) (eM n) look (len (n+1)) (hbd n)
end L3
namespace L2
open PySem PySem.Spec PyProof.Rows
section
variable {a b:Bool} {z TI TO i1 i2 l1 l2:Addr}
end
end L2
namespace L3
open PySem PySem.Spec PyProof.Rows L2 PySem.SeqAt
def bOf (w:W):Bool:=match w with|.tup _=>true|_=>false
theorem zjc {K:yI} {H:Hp} {G:Hw} {w:W} {v:V} {xs:List W} (ab:xE K H G) (r:wM K H w v) (e:vN G w=some xs):∃ a vs,v=.ref a/\SqB (bOf w) K H a vs/\yU K H xs vs:=by
 cases w with
 |tup ws =>
  obtain ⟨a,vs,rfl,sq,rr⟩:=r;cases e;exact ⟨a,vs,rfl,sq,rr⟩
 |ref p =>
  cases (show v=.ref p from r);obtain ⟨vs,sq,rr⟩:=ab.seq e;exact ⟨p,vs,rfl,sq,rr⟩
 |_=>cases e
def KOk {α:Type} (n:Nat) (R:α->Prop):PySem.W.KasT α->Prop
 | .ret a=>R a
 | .ask i j k=>i<n/\j<n/\∀ b,KOk n R (k b)
theorem KOk.bnd {α β:Type} {n:Nat} {R:α->Prop} {R':β->Prop} {f:α->PySem.W.KasT β} (hf:∀ a,R a->KOk n R' (f a)):∀ {t:PySem.W.KasT α},KOk n R t->KOk n R' (t.bind f)
 | .ret a,h=>hf a h
 | .ask i j k,h=>⟨h.1,h.2.1,fun b=>KOk.bnd hf (h.2.2 b)⟩
def xW {α:Type} (lt:Nat->Nat->Bool):PySem.W.KasT α->α
 | .ret a=>a
 | .ask i j k=>xW lt (k (lt i j))
theorem zd9 {α:Type} {n:Nat} {R:α->Prop} (lt:Nat->Nat->Bool):∀ {t:PySem.W.KasT α},KOk n R t->R (xW lt t)
 | .ret a,h=>h
 | .ask i j k,h=>by
  show R (xW lt (k (lt i j)));exact zd9 lt (h.2.2 (lt i j))
theorem zkU {α:Type} {n:Nat} {R:α->Prop} {lt:Nat->Nat->Bool} {cmp:Nat->Nat->(Bool->Shared->Prop)->Shared->Prop} {Q:α->Shared->Prop} {s:Shared} (hc:∀ i j C,i<n->j<n->C (lt i j) s->cmp i j C s) :
  ∀ {t:PySem.W.KasT α},KOk n R t->Q (xW lt t) s->t.kasWp cmp Q s
 | .ret a,_,h=>h
 | .ask i j k,o,h=>hc i j _ o.1 o.2.1 (zkU hc (o.2.2 _) h)
def Pm (n:Nat) (p:Array Nat):Prop:=p.Perm (List.toArray (List.range n))
theorem Pm.lt {n:Nat} {p:Array Nat} (h:Pm n p) (hn:0<n) (i:Nat):p.getD i 0<n:=by
 by_cases hi:i<p.size
 .have e:p.getD i 0=p[i]:=by simp[Array.getD,hi]
  rw[e];have hm:p[i]∈p.toList:=by simp
  have:=(ZaO.mp h).mem_iff.mp hm;simpa using this
 .have e:p.getD i 0=0:=by simp[Array.getD,hi]
  rw[e];exact hn
theorem Pm.rev {n:Nat} {p:Array Nat} (h:Pm n p) (i j:Nat):Pm n (PySem.W.kas_rev p i j):=(mirror_perm p i j _).trans h
section
variable {n:Nat} {p:Array Nat}
theorem ziH (hn:0<n) (h:Pm n p):∀ f m,KOk n (fun _=>True) (PySem.W.kas_asc p f m)
 | 0,m=>True.intro
 |f+1,m=>⟨h.lt hn _,h.lt hn _,fun b=>by
  cases b
  .exact ziH hn h f (m+1)
  .exact True.intro⟩
theorem zbV (hn:0<n):∀ f (p:Array Nat) m q,Pm n p->KOk n (fun r=>Pm n r.1) (PySem.W.kas_desc f p m q)
 | 0,p,m,q,h=>h
 |f+1,p,m,q,h=>⟨h.lt hn _,h.lt hn _,fun b=>by
  cases b
  .refine ⟨h.lt hn _,h.lt hn _,fun d=>?_⟩;cases d
   .exact zbV hn f p _ _ h
   .exact h
  .simp only[if_true]
   split
   .exact zbV hn f _ _ _ (h.rev _ _)
   .exact zbV hn f p _ _ h⟩
theorem zeG (hn:0<n) (h:Pm n p) (m r:Nat):KOk n (fun x=>Pm n x.2) (PySem.W.kas_tail3 m r p):=by
 refine KOk.bnd (fun a _=>?_) (ziH hn (h.rev _ _) _ _);exact h.rev _ _
theorem bA (hn:0<n) (h:Pm n p) (m r:Nat):KOk n (fun x=>Pm n x.2) (PySem.W.kas_descPart m r p):=by
 refine KOk.bnd (fun a ha=>?_) (zbV hn _ _ _ _ h)
 split
 .exact zeG hn (ha.rev _ _) _ _
 .exact zeG hn ha _ _
theorem zko (hn:0<n) (h:Pm n p) (r:Nat):KOk n (fun x=>Pm n x.2) (PySem.W.kas_count r p):=by
 refine KOk.bnd (fun a _=>?_) (ziH hn h _ _)
 split
 .exact h
 .split
  .refine ⟨h.lt hn _,h.lt hn _,fun b=>?_⟩;cases b
   .exact bA hn (h.rev _ _) _ _
   .exact h
  .exact bA hn h _ _
theorem zbw (hn:0<n) (h:Pm n p) (k:Nat):∀ f l r,KOk n (fun _=>True) (PySem.W.kas_place p k f l r)
 | 0,l,r=>True.intro
 |f+1,l,r=>by
  show KOk n _ (if l>=r then _ else _)
  split
  .exact True.intro
  .refine ⟨h.lt hn _,h.lt hn _,fun b=>?_⟩;cases b
   .exact zbw hn h k f _ _
   .exact zbw hn h k f _ _
theorem ziC (hn:0<n):∀ f (p:Array Nat) k,Pm n p->KOk n (Pm n) (PySem.W.kas_bin f p k)
 | 0,p,k,h=>h
 |f+1,p,k,h=>KOk.bnd (fun l _=>ziC hn f _ _ ((bubble_perm p k _).trans h)) (zbw hn h k k 0 k)
theorem zdz (hn:0<n):KOk n (Pm n) (PySem.W.kas_sort n):=by
 refine KOk.bnd (fun r hr=>?_) (zko hn (Array.Perm.refl _) n)
 split
 .exact ziC hn _ _ _ hr
 .exact hr
end
def srtP (n:Nat) (lt:Nat->Nat->Bool):List Nat:=if n<2 then List.range n else (xW lt (PySem.W.kas_sort n)).toList
theorem dH (n:Nat) (lt:Nat->Nat->Bool):(srtP n lt).Perm (List.range n):=by
 unfold srtP
 split
 .exact List.Perm.refl _
 .exact ZaO.mp (zd9 lt (zdz 'd'))
theorem uM {α:Type} (d:α) (l:List α):(List.range l.length).map (fun i=>l.getD i d)=l:=by
 apply List.ext_getElem
 .simp
 .intro i h1 h2;simp[h2]
def LtAt (A:Around) (s:Shared) (y x:Value) (b:Bool):Prop :=
 ∀ (prog:Program) (w:World) (E:Value->Shared->Prop) (Q:Value->Shared->Prop),Q (.bool b) s->wpAny (model prog w) A (richCompare .Lt y x) Q E s
def Lx (A:Around) (s:Shared) (fin:Bool):List (Value×Value)->Bool->Prop
 | [],v=>v=fin
 | (p,q)::r,v=>∃ e:Bool,EqAt A s p q e/\if e=true then Lx A s fin r v else LtAt A s p q v
theorem zfC (l b:Addr) (xs ys:Array Value) (n m:Nat) (d1 d2:Option Addr) (s1 s2:Array (Option Value)) (v:Bool) :
  Meets (Builtin.«tuple.__lt__» ⟨[.ref l,.ref b],[]⟩) (fun A R s=>s.heap.get? l=some { cls:=.type "tuple", dict:=d1,data:=.seq xs n,slots:=s1 }/\s.heap.get? b=some { cls:=.type "tuple", dict:=d2,data:=.seq ys m,slots:=s2 } /\
    Lx A.in1 s (decide (xs.size<ys.size)) (xs.toList.zip ys.toList) v/\R (.ok (.ret (.bool v))) s) :=
 .of_wp fun prog w A R s h=>by
  obtain ⟨hp,g,d,tk,os⟩:=s;obtain ⟨hl,hb,he,h⟩:=h;have f2:=ZaW
  wp_walk using ZS hl,ZS hb,wpAny_forIn_list _ (fun rest b s'=>b.1=none/\s'=⟨hp,g,d,tk,os⟩/\Lx A.in1 ⟨hp,g,d,tk,os⟩ (decide (xs.size<ys.size)) rest v) _
  case turn =>
   rintro ⟨y,x⟩ rest b s' ⟨hb',rfl,e,he,hr⟩;refine Za (he prog w _ _ ?_)
   cases e with
   |true =>
    wp_walk
    exact ⟨rfl,rfl,by simpa using hr⟩
   |false =>
    have hr:LtAt A.in1 ⟨hp,g,d,tk,os⟩ y x v:=by simpa using hr
    have hr':∀ (E:Value->Shared->Prop) (Q:Value->Shared->Prop),Q (.bool v) ⟨hp,g,d,tk,os⟩->wpAny (model prog w) A.in1 (richCompare .Lt y x) Q E ⟨hp,g,d,tk,os⟩:=hr prog w
    repeat (first|with_reducible refine hr' _ _ ?_|wp_step)
    exact ⟨_,rfl,h⟩
  case fin =>
   rintro ⟨b1,b2⟩ s' ⟨hb',rfl,hz⟩;simp only at hb';subst hb';have hz:v=decide (xs.size<ys.size):=hz;subst hz
   wp_walk
   exact ⟨_,rfl,by simpa[Builtin.Tuple.tupleCompareSizes] using h⟩
  case h=>exact ⟨rfl,rfl,he⟩
mutual
def tY:W->W->Option Bool
 | .str x,.str y=>some (decide (x.cps.toList<y.cps.toList))
 | .tup xs,.tup ys=>vP xs ys
 |_,_=>none
def vP:List W->List W->Option Bool
 | [],[]=>some false
 | [],_::_=>some true
 |_::_,[]=>some false
 |x::xs,y::ys=>if yQ x y=true then vP xs ys else tY x y
end
section
variable {X:Cx} {pins:List (Addr×Obj)} {σ:L2.St} {H:Hp} {s:Shared}
def LtOk (X:Cx) (H:Hp) (s:Shared) (x:W):Prop:=∀ (y:W) (v v':V) (u u':Value) (A:Around) (b:Bool),wM X.K H x v->yR v u->wM X.K H y v'->yR v' u'->pur x=true->pur y=true->A.units+min (dep x) (dep y)<cLine->tY x y=some b->LtAt A s u u' b
theorem zjH (I:Inv X pins σ H s):∀ (xs ys:List W) (vs vs':List V) (us us':List Value) (A:Around) (b:Bool),(∀ x∈xs,LtOk X H s x)->yU X.K H xs vs->yV vs us->yU X.K H ys vs'->yV vs' us'->yP xs=true->yP ys=true ->
  A.units+min (yL xs) (yL ys)<cLine->vP xs ys=some b->Lx A s (decide (us.length<us'.length)) (us.zip us') b
 | [],[],vs,vs',us,us',A,b,_,h,r,h',r',_,_,_,e=>by
  rw[show _=[] from h] at r;cases r;rw[show _=[] from h'] at r';cases r';cases e;rfl
 | [],y::ys,vs,vs',us,us',A,b,_,h,r,h',r',_,_,_,e=>by
  rw[show _=[] from h] at r;cases r;have l1:=h'.length;have l2:=r'.length;cases e;show true=decide (0<us'.length);rw[← l2,l1];rfl
 |x::xs,[],vs,vs',us,us',A,b,_,h,r,h',r',_,_,_,e=>by
  rw[show _=[] from h'] at r';cases r';cases e;rw[List.zip_nil_right];show false=decide (us.length<0);rfl
 |x::xs,y::ys,vs,vs',us,us',A,b,ok,h,r,h',r',px,py,hu,e=>by
  obtain ⟨v,t,e1,h,hs⟩:=h;obtain ⟨v',t',e2,h',hs'⟩:=h';subst e1;subst e2
  cases r with
  |cons r rs =>
   cases r' with
   |cons r' rs' =>
    have px:=xV.mp px;have py:=xV.mp py;simp only[yL] at hu;rw[Zaa];refine ⟨yQ x y,zif I x y _ _ _ _ A h r h' r' px.1 py.1 'd',?_⟩;simp only[vP] at e
    cases q:yQ x y with
    |true =>
     rw[q,if_pos rfl] at e;rw[if_pos rfl];have:=zjH I xs ys _ _ _ _ A b (fun z hz=>ok z (Zd _ hz)) hs rs hs' rs' px.2 py.2 'd' e;simpa using this
    |false =>
     rw[q,if_neg zzN] at e;rw[if_neg zzN];exact ok x zzT y _ _ _ _ A b h r h' r' px.1 py.1 'd' e
theorem zkS (I:Inv X pins σ H s):∀ x:W,LtOk X H s x:=by
 intro x
 induction x using W.ind with
 |tup xs ih =>
  intro y v v' u u' A b h r h' r' hx hy hu e;obtain ⟨a,vs,its,rfl,rfl,q,rs,vr,it,_⟩:=xL I h r
  cases y with
  |tup ys =>
   obtain ⟨c,us,its',rfl,rfl,q',rs',vr',it',_⟩:=xL I h' r';obtain ⟨⟨cls,dd,data,sl⟩,ho,hc,n,hd⟩:=it;obtain ⟨⟨cls2,dd2,data2,sl2⟩,ho2,hc2,n2,hd2⟩:=it';simp only at hc hd hc2 hd2;subst hc hd hc2 hd2;simp only[dep] at hu;intro prog w E Q hq;refine richCompare_meets_room (op:=.Lt) ⟨_,ho,rfl⟩ ⟨_,ho2,rfl⟩ F.slot_tuple_lt F.entry_tuple_lt (F.args_tuple_lt_2 _ _) (zfC a c its.toArray its'.toArray n n2 dd dd2 sl sl2 b) ⟨ho,ho2,?_,show Value.bool b≠Value.notImplemented/\Q (.bool b) s from ⟨(fun x=>nomatch x),hq⟩⟩ 'd';have:=zjH I xs ys _ _ _ _ A.in1 b ih rs vr rs' vr' hx hy (by show A.units+1+_<_;omega) e;simpa using this
  |_=>cases e
 |str x =>
  intro y v v' u u' A b h r h' r' hx hy hu e;cases (show v=.str x from h);obtain ⟨t,rfl⟩:=r
  cases y with
  |str z =>
   cases (show v'=.str z from h');obtain ⟨t',rfl⟩:=r';cases e;exact fun prog w E Q hq=>PyProof.Rows.lt_str hq
  |_=>cases e
 |_=>intro y v v' u u' A b _ _ _ _ _ _ _ e;cases e
end
section
variable {prog:Program} {w:World} {A:Around} {E:Value->Shared->Prop} {s:Shared} {D:Addr} {vs:List Value} {κ:SortKind} {lt:Nat->Nat->Bool}
def But (D:Addr) (h h':Heap):Prop:=∀ b o,b≠D->h.get? b=some o->h'.get? b=some o
def mR (vs:List Value) (lt:Nat->Nat->Bool):List Value:=(srtP vs.length lt).map fun i=>vs.getD i Value.none
theorem zhn (vs:List Value) (lt:Nat->Nat->Bool):(mR vs lt).length=vs.length:=by
 unfold mR;rw[zzM,(dH _ _).length_eq,Za9]
structure Asks (prog:Program) (w:World) (A:Around) (s:Shared) (D:Addr) (vs:List Value) (κ:SortKind) (lt:Nat->Nat->Bool):Prop where
 kind:∀ (h':Heap) (C:SortKind->Shared->Prop),2<=vs.length->But D s.heap h'->C κ { s with heap:=h' }->wpAny (model prog w) A (keyKind' vs.toArray) C (fun _ _=>False) { s with heap:=h' }
 ask:∀ (h':Heap) (i j:Nat) (C:Bool->Shared->Prop),But D s.heap h'->i<vs.length->j<vs.length->C (lt i j) { s with heap:=h' }->PySem.W.kas_ask prog w A κ vs i j C { s with heap:=h' }
theorem zjJ {n:Nat} {P:PySem.Fin->Shared->Prop} (ho:s.heap.get? D=some (seqObj "list" vs.toArray n)) (h64:vs.length<64) (q:Asks prog w A s D vs κ lt)
  (h:∀ h' m,But D s.heap h'->h'.get? D=some (seqObj "list" (mR vs lt).toArray m)->P (.done (.ret .none)) { s with heap:=h' }):wpAny (model prog w) A (Builtin.«list.sort» ⟨[.ref D],[]⟩) P E s:=by
 have hD:D<s.heap.objs.size:=Zi ho;have big:(64:Nat)<=sizeLine:=by rw[Z5];decide
 have sz:vs.toArray.size=vs.length:=List.size_toArray;obtain ⟨e1,ho1⟩:∃ e1,(s.heap.update D (Obj.mapSeq fun _=>(#[]:Array Value))).get? D=some (seqObj "list" #[] e1):=⟨_,get?_update_seq ho fun _=>#[]⟩;rw[list_sort_plain];refine Za (listItems_at ho rfl (Za (listUpdate_at ho rfl (Za (seqEpoch_at ho1 rfl ?_)) (by rw[sz];omega) (Zg _))));refine Za (wpAny_newTuple (Za (wpAny_newList (ZI ?_) (Zg _))) (by show vs.length<=_;omega));generalize hh:((s.heap.update D (Obj.mapSeq fun _=>(#[]:Array Value))).push { cls:=.type "tuple", data:=.seq vs.toArray.toList.toArray }).push { cls:=.type "list", data:=.seq ([]:List Value).toArray }=h6
 have k6:But D s.heap h6:=fun b o hb e=>by
  rw[← hh];exact Zc _ (Zc _ ((ZR _ _ (Ne.symm hb)).trans e))
 have hD6:h6.get? D=some (seqObj "list" #[] e1):=by rw[← hh];exact Zc _ (Zc _ ho1)
 have fin:∀ (st:SortSt),failedOf st=none->(arrOf st).map (·.2)=(mR vs lt).toArray->wpAny (model prog w) A (do
   let touched:=(← seqEpoch D) != e1
   Builtin.List.listUpdate (.ref D) fun _=>(arrOf st).map (·.2)
   if let some e:=failedOf st then rule "list.sort.comparison-raised"; throw e
   if touched then rule "list.sort.modified"; raiseError "ValueError" "list modified during sort"
   ret .none) P E { s with heap:=h6 }:=fun st hf hout=>by
  refine Za (seqEpoch_at hD6 rfl (Za (listUpdate_at hD6 rfl ?_ (Zg _) (by rw[hout,zzS,zhn];omega))));rw[hf,hout];simp only[bne_self_eq_false,zzB,if_false];refine Zh (h _ _ (fun b o hb e=>(ZR _ _ (Ne.symm hb)).trans (k6 b o hb e)) (get?_update_seq hD6 _))
 dsimp only
 by_cases h2:vs.toArray.size<2
 .rw[if_pos h2,if_pos h2];refine Za (Zh ?_);rw[StateT.run_pure];refine Za (Zh (fin _ rfl ?_));have hlt:vs.length<2:=by omega
  unfold mR srtP;rw[if_pos hlt,uM];show ((vs.toArray.zip vs.toArray).map (·.2))=vs.toArray;apply Array.toList_inj.mp;simp only[Array.toList_map,Array.toList_zip];exact List.map_snd_zip (zzR _)
 .rw[if_neg h2,if_neg h2];have h2':2<=vs.length:=by omega
  refine Za (Zal (q.kind h6 _ h2' k6 ?_) (fun _ _ z=>z) fun _ _ z=>z.elim)
  refine Za (Zal (PySem.W.kat_run (Q:=fun st' s'=>s'={ s with heap:=h6 }/\failedOf st'=none/\(arrOf st').map (·.2)=(mR vs lt).toArray)
   (G:=fun p s'=>s'={ s with heap:=h6 }/\p=xW lt (PySem.W.kas_sort vs.length)) rfl h2' h64 (fun p st' s' _ har hf hg=>⟨hg.1,hf,?_⟩) ?_) (fun r s' z=>?_) fun _ _ z=>z)
  .rw[PySem.W.kat_snds rfl har,hg.2];unfold mR srtP;rw[if_neg 'd']
  .exact zkU (lt:=lt) (fun i j C hi hj hc=>q.ask h6 i j C k6 hi hj hc) (zdz 'd') ⟨rfl,rfl⟩
  .obtain ⟨⟨⟩,st'⟩:=r;obtain ⟨rfl,hf,hout⟩:=z;exact fin st' hf hout
def zgk (h h':Heap):Prop:=∀ b o,h.get? b=some o->h'.get? b=some o
theorem zgO {l:Addr} {o:Obj} {T:String} {n:Nat} {Q:Value->Shared->Prop} (hT:T = "list" \/ T = "tuple") (ho:s.heap.get? l=some o) (hc:o.cls=.type T) (hd:o.data=.seq vs.toArray n) (h64:vs.length<64)
  (kind:∀ (h':Heap) (C:SortKind->Shared->Prop),2<=vs.length->zgk s.heap h'->C κ { s with heap:=h' }->wpAny (model prog w) A.in1.in1 (keyKind' vs.toArray) C (fun _ _=>False) { s with heap:=h' })
  (ask:∀ (h':Heap) (i j:Nat) (C:Bool->Shared->Prop),zgk s.heap h'->i<vs.length->j<vs.length->C (lt i j) { s with heap:=h' }->PySem.W.kas_ask prog w A.in1.in1 κ vs i j C { s with heap:=h' })
  (h:∀ (h1 h':Heap) (m:Nat),zgk s.heap h1->zgk h1 h'->h'.get? h1.objs.size=some (seqObj "list" (mR vs lt).toArray m)->Q (.ref h1.objs.size) { s with heap:=h' }) :
  wpAny (model prog w) A (call (.builtin "sorted") [.ref l]) Q E s:=by
 have big:(64:Nat)<=sizeLine:=by rw[Z5];decide
 refine Calls.call_function_entry kind_sorted plain_sorted entry_sorted (args_sorted1 _) ?_;unfold Builtin.«sorted»;refine Za (m:=checkCount "sorted" 1 1 _) (Zh (Za (wpAny_collect_seq l hT ho hc hd (fun h1 k1=>?_) (by rw[zzS];omega))));refine Za (wpAny_newList ?_ (by show vs.length<=_;omega));have hL:(h1.push (seqObj "list" vs.toArray 0)).get? h1.objs.size=some (seqObj "list" vs.toArray 0):=Zq _ rfl;have up:∀ h',But h1.objs.size (h1.push (seqObj "list" vs.toArray 0)) h'->zgk h1 h':=fun h' k b o e=>k b o (Zr (Zi e)) (Zc _ e);show wpAny _ _ _ _ _ { s with heap:=h1.push (seqObj "list" vs.toArray 0) };refine Za (ZI (ZaI slot_list_sort ⟨_,hL,rfl⟩ entry_list_sort (zjJ (κ:=κ) (lt:=lt) hL h64 ⟨fun h' C h2 k c=>?_,fun h' i j C k hi hj c=>?_⟩ fun h' m k hm=>⟨_,rfl,?_⟩) (args_list_sort _)))
 .exact kind h' C h2 (fun b o e=>up h' k b o (k1 b o e)) c
 .exact ask h' i j C (fun b o e=>up h' k b o (k1 b o e)) hi hj c
 .exact Zh ⟨_,rfl,h h1 h' m k1 (up h' k) hm⟩
end
def ltB (x y:W):Bool:=(tY x y).getD false
def srt (ws:List W):List W:=(srtP ws.length fun i j=>ltB (ws.getD i .non) (ws.getD j .non)).map fun i=>ws.getD i .non
theorem xR (ws:List W):(srt ws).Perm ws:=by
 have:=(dH ws.length fun i j=>ltB (ws.getD i .non) (ws.getD j .non)).map fun i=>ws.getD i .non
 rwa[uM] at this
def hdT:W->Option String
 | .tup (.str _::_)=>some "str"
 | .tup (.tup _::_)=>some "tuple"
 |_=>none
structure Srtb (ws:List W):Prop where
 pure:yP ws=true
 lt:∀ x∈ws,∀ y∈ws,(tY x y).isSome=true
 few:ws.length<64
 deep:yL ws<60
 hd:∃ T,∀ x∈ws,hdT x=some T
def zdA:RS:=fun ws G Q=>match ws with
 | [x]=>∃ xs,vN G x=some xs/\Srtb xs/\∀ r,G r=none->Q (.ref r) (put G r (.lst (srt xs)))
 |_=>False
theorem zax:jI zdA:=by
 intro ws G Q Q' k h;unfold zdA at h ⊢
 split at h
 .obtain ⟨xs,e1,e2,h⟩:=h;exact ⟨xs,e1,e2,fun p hp=>k _ _ (h p hp)⟩
 .exact h.elim
section
variable {prog:Program} {w:World} {A:Around} {s:Shared} {b fin v:Bool} {C:Bool->Shared->Prop}
theorem zhP:∀ (l:List (Value×Value)) (i:Nat),(b&&i==0)=false->Lx A s fin l v->C v s->PySem.W.KatLex prog w A b fin C l i s
 | [],i,_,h,c=>by cases (show v=fin from h);exact c
 | (p,q)::r,i,hb,⟨e,he,hr⟩,c=>by
  refine PySem.W.kat_cons (he prog w _ _ ?_)
  cases e with
  |true =>
   rw[if_pos rfl] at hr;refine PySem.W.kat_yes (zhP r (i+1) ?_ hr c);cases b<;>simp
  |false =>
   rw[if_neg zzN] at hr;refine PySem.W.kat_no ?_;rw[hb];exact PySem.W.kat_one p q (hr prog w _ _ c)
end
section
variable {X:Cx} {pins:List (Addr×Obj)} {σ:L2.St} {H:Hp} {s:Shared}
theorem zob {prog:Program} {w:World} (I:Inv X pins σ H s) {T:String} {x y:W} {vx vy:V} {ux uy:Value} {A:Around} {v:Bool} {C:Bool->Shared->Prop} (hx:hdT x=some T) (hy:hdT y=some T) (rx:wM X.K H x vx) (ru:yR vx ux) (ry:wM X.K H y vy) (ru':yR vy uy)
  (px:pur x=true) (py:pur y=true) (hu:A.units+min (dep x) (dep y)<cLine) (e:tY x y=some v) (c:C v s):wpAny (model prog w) A (keyLt' (tuples' (Value.type T != Value.type "tuple")) ux uy) C (fun _ _=>False) s:=by
 have tu:∀ z,hdT z=some T->∃ zs,z=.tup zs:=fun z hz=>by
  unfold hdT at hz
  split at hz
  .exact ⟨_,rfl⟩
  .exact ⟨_,rfl⟩
  .cases hz
 obtain ⟨xs,rfl⟩:=tu x hx;obtain ⟨ys,rfl⟩:=tu y hy;obtain ⟨a,vs,its,rfl,rfl,q,rs,vr,it,_⟩:=xL I rx ru;obtain ⟨c',vs',its',rfl,rfl,q',rs',vr',it',_⟩:=xL I ry ru';obtain ⟨o,ho,hc,n,hd⟩:=it;obtain ⟨o2,ho2,hc2,n2,hd2⟩:=it';simp only[dep] at hu;refine PySem.W.kat_lt ho hd ho2 hd2 ?_;simp only[zzS];have main:=zjH I xs ys _ _ _ _ A v (fun z _=>zkS I z) rs vr rs' vr' px py 'd' e
 cases hb:(Value.type T != Value.type "tuple") with
 |false=>exact zhP _ 0 rfl main c
 |true =>
  have hT:T = "str" := by
   unfold hdT at hx
   split at hx
   .cases hx;rfl
   .cases hx;cases hb
   .cases hx
  subst hT
  cases xs with
  |nil=>cases hx
  |cons x0 xs =>
   cases ys with
   |nil=>cases hy
   |cons y0 ys =>
    cases x0 with
    |str t =>
     cases y0 with
     |str z =>
      obtain ⟨v1,r1,rfl,h1,rs⟩:=rs;obtain ⟨v2,r2,rfl,h2,rs'⟩:=rs';cases (show v1=.str t from h1);cases (show v2=.str z from h2)
      cases vr with
      |cons k1 vr =>
       cases vr' with
       |cons k2 vr' =>
        obtain ⟨t1,rfl⟩:=k1;obtain ⟨t2,rfl⟩:=k2;replace e:(if (t==z)=true then vP xs ys else some (decide (t.cps.toList<z.cps.toList)))=some v:=e;simp only[pur,yP,Zb5] at px py;simp only[yL,dep,Nat.zero_max] at hu;rw[Zaa];refine PySem.W.kat_cons (EqAt.str_str t t1 z t2 prog w _ _ ?_)
        cases q:(t==z) with
        |true =>
         rw[q,if_pos rfl] at e;refine PySem.W.kat_yes (zhP _ 1 rfl ?_ c);have:=zjH I xs ys _ _ _ _ A v (fun z _=>zkS I z) rs vr rs' vr' px py 'd' e;simpa using this
        |false =>
         rw[q,if_neg zzN] at e;cases e;refine PySem.W.kat_no ?_;exact oneLt_str c
     |_=>exact absurd hy (by simp[hdT])
    |_=>exact absurd hx (by simp[hdT])
theorem zfg (I:Inv X pins σ H s) {M:Model} {T:String}:∀ {ws:List W} {vs:List V} {us:List Value},(∀ x∈ws,hdT x=some T)->yU X.K H ws vs->yV vs us->∃ fs,PySem.W.KatTups s.heap us fs/\(∀ v∈fs,PySem.W.Looks M s.heap (typeOf v) (.type T))/\fs.length=us.length
 | [],vs,us,_,r,k=>by
  cases (show vs=[] from r);cases k;exact ⟨[],True.intro,(fun _ h=>nomatch h),rfl⟩
 |x::ws,vs,us,hT,r,k=>by
  obtain ⟨v,t,rfl,rx,rt⟩:=r
  cases k with
  |cons k ks =>
   obtain ⟨fs,h1,h2,h3⟩:=zfg I (fun y hy=>hT y (Zd _ hy)) rt ks;have hx:=hT x zzT;unfold hdT at hx
   split at hx
   .rename_i z zs;cases hx;obtain ⟨a,vs',its,rfl,rfl,q,rs,vr,it,_⟩:=xL I rx k;obtain ⟨v1,r1,rfl,g1,_⟩:=rs;cases (show v1=.str z from g1)
    cases vr with
    |cons k1 vr =>
     obtain ⟨t1,rfl⟩:=k1;obtain ⟨o,ho,hc,n,hd⟩:=it;refine ⟨.str z t1::fs,.cons ho hc hd rfl h1,fun v hv=>?_,by rw[Ze,Ze,h3]⟩;rcases Zk.mp hv with rfl|hv
     .exact PySem.W.Looks.of_pure rfl
     .exact h2 v hv
   .rename_i z zs;cases hx;obtain ⟨a,vs',its,rfl,rfl,q,rs,vr,it,_⟩:=xL I rx k;obtain ⟨v1,r1,rfl,g1,_⟩:=rs
    cases vr with
    |cons k1 vr =>
     obtain ⟨a2,vs2,its2,rfl,rfl,q2,rs2,vr2,it2,_⟩:=xL I g1 k1;obtain ⟨o,ho,hc,n,hd⟩:=it;obtain ⟨o2,ho2,hc2,_⟩:=it2;refine ⟨.ref a2::fs,.cons ho hc hd rfl h1,fun v hv=>?_,by rw[Ze,Ze,h3]⟩;rcases Zk.mp hv with rfl|hv
     .exact PySem.W.kitAt_ty M _ ⟨o2,ho2,hc2⟩
     .exact h2 v hv
   .cases hx
theorem zgN (hu:X.A.units+200<cLine):jG X (.builtin "sorted") (gR X.K zdA):=by
 intro pins s σ H xs us Q I r h;obtain ⟨ws,G,rs,ab,h⟩:=h;unfold zdA at h
 split at h
 .rename_i x;obtain ⟨v,rfl,rv⟩:=qG rs;obtain ⟨xs,ex,sb,h⟩:=h;obtain ⟨a,vs,rfl,sq,rr⟩:=zjc ab rv ex;obtain ⟨u,rfl,ru⟩:=qI r;cases (show u=Value.ref a from ru);obtain ⟨its,vv,ss,hz⟩:=I.sqB sq
  obtain ⟨T',o,n,hT,ho,hc,hd⟩:∃ (T':String) (o:Obj) (n:Nat),(T' = "list" \/ T' = "tuple")/\s.heap.get? a=some o/\o.cls=.type T'/\o.data=.seq its.toArray n:=by
   cases hb:bOf x<;>rw[hb] at ss
   .obtain ⟨o,ho,hc,n,hd⟩:=ss;exact ⟨"list", o,n,.inl rfl,ho,hc,hd⟩
   .obtain ⟨o,ho,hc,n,hd⟩:=ss;exact ⟨"tuple", o,n,.inr rfl,ho,hc,hd⟩
  have l1:its.length=xs.length:=by rw[← vv.length,rr.length]
  have l2:vs.length=xs.length:=rr.length;obtain ⟨T,hT'⟩:=sb.hd;have I':∀ h',zgk s.heap h'->Inv X pins σ H { s with heap:=h',toks:=s.toks }:=fun h' k=>I.kept k;refine zgO (κ:=tuples' (Value.type T != Value.type "tuple")) (lt:=fun i j=>ltB (xs.getD i .non) (xs.getD j .non)) hT ho hc hd (by rw[l1];exact sb.few) (fun h' C h2 k c=>?_) (fun h' i j C k hi hj c=>?_) fun h1 h' m k1 k' hm=>?_
  .obtain ⟨fs,g1,g2,g3⟩:=zfg (M:=model X.prog X.w) (I' h' k) hT' rr vv;exact PySem.W.kat_kind g1 'd' g2 'g' c
  .have hi':i<xs.length:=by omega
   have hj':j<xs.length:=by omega
   obtain ⟨vi,evi,ri⟩:=rr.get (Zf hi');obtain ⟨vj,evj,rj⟩:=rr.get (Zf hj');obtain ⟨ui,eui,si⟩:=vv.get evi;obtain ⟨uj,euj,sj⟩:=vv.get evj;have mi:=ZB hi';have mj:=ZB hj';obtain ⟨b,eb⟩:=Option.isSome_iff_exists.mp (sb.lt _ mi _ mj);have e1:its.getD i Value.none=ui:=by simp[List.getD,eui]
   have e2:its.getD j Value.none=uj:=by simp[List.getD,euj]
   have e3:ltB (xs.getD i .non) (xs.getD j .non)=b:=by simp[List.getD,Zf hi',Zf hj',ltB,eb]
   unfold PySem.W.kas_ask;rw[e1,e2];rw[e3] at c;have d1:=sR mi;have:=sb.deep;refine zob (I' h' k) (hT' _ mi) (hT' _ mj) ri si rj sj (purs_mem sb.pure _ mi) (purs_mem sb.pure _ mj) ?_ eb c;show X.A.units+1+1+_<_;omega
  .have I1:Inv X pins σ H { s with heap:=h1,toks:=s.toks }:=I' h1 k1;have I2:Inv X pins σ H { s with heap:=h',toks:=s.toks }:=I' h' fun b o e=>k' b o (k1 b o e);have hn:H h1.objs.size=none:=I1.hok.fresh (zzR _);have pm:=dH xs.length fun i j=>ltB (xs.getD i .non) (xs.getD j .non);have lt:∀ i∈srtP xs.length (fun i j=>ltB (xs.getD i .non) (xs.getD j .non)),i<xs.length:=fun i hi=>Zao.mp (pm.mem_iff.mp hi);have eo:mR its (fun i j=>ltB (xs.getD i .non) (xs.getD j .non))=(srtP xs.length fun i j=>ltB (xs.getD i .non) (xs.getD j .non)).map fun i=>its.getD i Value.none:=by unfold mR;rw[l1]
   rw[eo] at hm
   have both:∀ l:List Nat,(∀ i∈l,i<xs.length)->yU X.K H (l.map fun i=>xs.getD i .non) (l.map fun i=>vs.getD i .non)/\yV (l.map fun i=>vs.getD i .non) (l.map fun i=>its.getD i Value.none):=by
    intro l
    induction l with
    |nil=>exact fun _=>⟨rfl,.nil⟩
    |cons i l ih =>
     intro hl;obtain ⟨g1,g2⟩:=ih fun j hj=>hl j (Zd _ hj);have hi:=hl i zzT;obtain ⟨vi,evi,ri⟩:=rr.get (Zf hi);obtain ⟨ui,eui,si⟩:=vv.get evi;have e0:xs.getD i .non=xs[i]:=by simp[List.getD,Zf hi]
     have e1:vs.getD i .non=vi:=by simp[List.getD,evi]
     have e2:its.getD i Value.none=ui:=by simp[List.getD,eui]
     rw[zzU,zzU,zzU,e0,e1,e2];exact ⟨⟨vi,_,rfl,ri,g1⟩,.cons si g2⟩
   obtain ⟨g1,g2⟩:=both _ lt;refine ⟨.ref h1.objs.size,_,I2.adopt (o:=.lst _) (I1.off (zzR _)) hn ⟨?_,_,m,g2,hm⟩,rfl,vK ab g1 h _ hn⟩;rw[zzM,pm.length_eq,Za9,← l2];exact hz
 .exact h.elim
end
abbrev eSrt:Fn3:=⟨"sorted", fun ws G Q _=>zdA ws G Q⟩
theorem zmy {q:Pr} {A:Around} (hu:A.units+200<cLine) (hm:q.mg "sorted" = none):vM (q.at A) eSrt:=⟨gK (id := "sorted") hm 'j' (fun X f=>zgN (by rw[f.A];exact hu)) zax (fun _ _ h=>h),fun ws G Q Q' _ k h=>zax ws G Q Q' k h⟩
end L3
namespace L3
open PySem PySem.Spec PyProof.Rows L2 PySem.SeqAt AutoSeq1
theorem zh9 (l b:Addr) (xs ys:Array Value) (n n2:Nat) (od:Option Addr) (os:Array (Option Value)) (h0:¬(!xs.isEmpty&&Builtin.List.listTooLong (xs.size+ys.size))=true) (h1:xs.size<=sizeLine) (h2:xs.size+ys.size<=sizeLine+1) :
  Meets (Builtin.«list.extend» ⟨[.ref l,.ref b],[]⟩) (fun _ R s=>s.heap.get? l=some { cls:=.type "list", dict:=none,data:=.seq xs n,slots:=#[] }/\s.heap.get? b=some { cls:=.type "tuple", dict:=od,data:=.seq ys n2,slots:=os } /\
   R (.ok (.ret .none)) { s with heap:=s.heap.update l (Obj.mapSeq fun x=>x++ys) }) :=
 .of_wp fun pr wo ar R st h=>by
  obtain ⟨hp,g,d,tk,os'⟩:=st;obtain ⟨hl,hb,h⟩:=h;have f1:=idx_int;have ft:=ZaW;have fl:=AutoSeq1.sub_list_list;have fu:=AutoSeq1.sub_tuple_list;have fv:=AutoSeq1.sub_list_tuple;have hz:(xs++ys).size<=sizeLine+1:=by rw[Array.size_append];exact h2
  wp_walk using (Zax hl rfl (hz:=h1) (_hz':=hz)),ZS hl,ZS hb
  exact ⟨_,rfl,h⟩
theorem zf9 (l b:Addr) (xs ys:Array Value) (n n2:Nat) (od:Option Addr) (os:Array (Option Value)) (h0:¬(!xs.isEmpty&&Builtin.List.listTooLong (xs.size+ys.size))=true) (h1:xs.size<=sizeLine) (h2:xs.size+ys.size<=sizeLine+1) :
  Meets (Builtin.«list.extend» ⟨[.ref l,.ref b],[]⟩) (fun _ R s=>s.heap.get? l=some { cls:=.type "list", dict:=none,data:=.seq xs n,slots:=#[] }/\s.heap.get? b=some { cls:=.type "list", dict:=od,data:=.seq ys n2,slots:=os } /\
   R (.ok (.ret .none)) { s with heap:=s.heap.update l (Obj.mapSeq fun x=>x++ys) }) :=
 .of_wp fun pr wo ar R st h=>by
  obtain ⟨hp,g,d,tk,os'⟩:=st;obtain ⟨hl,hb,h⟩:=h;have f1:=idx_int;have ft:=ZaW;have fl:=AutoSeq1.sub_list_list;have fu:=AutoSeq1.sub_tuple_list;have fv:=AutoSeq1.sub_list_tuple;have hz:(xs++ys).size<=sizeLine+1:=by rw[Array.size_append];exact h2
  wp_walk using (Zax hl rfl (hz:=h1) (_hz':=hz)),ZS hl,ZS hb
  exact ⟨_,rfl,h⟩
def extS:MS:=fun x ws G Q=>match x,ws with
 | .ref p,[.tup ys]=>(match G p with
  |some (.lst xs)=>xs.length+ys.length<=sizeLine/\Q .non (put G p (.lst (xs++ys)))
  |_=>False)
 | .ref p,[.ref q]=>∃ xs ys,G p=some (.lst xs)/\yG G q=some ys/\xs.length+ys.length<=sizeLine/\Q .non (put G p (.lst (xs++ys)))
 |_,_=>False
theorem zc8:∀ x ws G (Q Q':Q3),'i'->extS x ws G Q->extS x ws G Q':=by
 intro x ws G Q Q' k h;unfold extS at h ⊢
 split at h
 .split at h
  .exact ⟨h.1,k _ _ h.2⟩
  .exact h.elim
 .obtain ⟨xs,ys,e1,e2,h1,h⟩:=h;exact ⟨xs,ys,e1,e2,h1,k _ _ h⟩
 .exact h.elim
theorem zoA {X:Cx}:MtR X "list.extend" (lowM X.K extS):=by
 intro pins s σ H x xs v us Q I rx rxs h;obtain ⟨w,ws,G,rw1,rs,ab,h⟩:=h;unfold extS at h
 split at h
 .rename_i p ys;cases (show x=.ref p from rw1);cases (show v=Value.ref p from rx);obtain ⟨vy,rfl,ry⟩:=qG rs;obtain ⟨b,vs2,rfl,sq,rr2⟩:=ry;obtain ⟨u,rfl,ru⟩:=qI rxs;cases (show u=Value.ref b from ru)
  split at h
  .rename_i zs e;obtain ⟨vs,ev,rr⟩:=ab.lst e;have gr:yB X.K H (xM H p (.lst (vs++vs2))):=ab.grow e;obtain ⟨z,its,n,r,hl,e1⟩:=I.lstM ev;obtain ⟨its2,r2,pt,hz2⟩:=I.tuple sq;obtain ⟨⟨oc,od,oda,os⟩,ho,hc,n2,hd⟩:=(show s.heap.IsTuple b its2.toArray from pt);simp only at hc hd;subst hc hd;have l1:=rr.length;have l2:=rr2.length;have l3:=r2.length;have hb:=h.1;have hsz:its.toArray.size+its2.toArray.size<=sizeLine:=by rw[zzS,zzS];omega
   have hlong:¬ (!its.toArray.isEmpty&&Builtin.List.listTooLong (its.toArray.size+its2.toArray.size))=true:=by
    rw[zbB hsz,Zb3];exact zzN
   refine ZaK F.slot_list_extend ⟨_,e1,rfl⟩ F.entry_list_extend (F.args_list_extend_2 _ _) (zh9 p b its.toArray its2.toArray n n2 od os hlong (by rw[zzS];omega) 'd') ⟨e1,ho,?_⟩;refine ⟨.non,_,I.lset (its':=its++its2) ev e1 'g' (r.append r2) ?_,rfl,h.2 .non _ gr (show wM X.K _ .non .non from rfl) (ab.chg e ⟨_,rfl,(rr.append rr2).mono gr⟩)⟩;rw[zzW];omega
  .exact h.elim
 .rename_i p q;cases (show x=.ref p from rw1);cases (show v=Value.ref p from rx);obtain ⟨vy,rfl,ry⟩:=qG rs;cases (show vy=.ref q from ry);obtain ⟨u,rfl,ru⟩:=qI rxs;cases (show u=Value.ref q from ru);obtain ⟨zs,ys,e,e2,hb,h⟩:=h;obtain ⟨vs,ev,rr⟩:=ab.lst e;obtain ⟨vs2,sq,rr2⟩:=ab.seq e2;have gr:yB X.K H (xM H p (.lst (vs++vs2))):=ab.grow e;obtain ⟨z,its,n,r,hl,e1⟩:=I.lstM ev;obtain ⟨its2,r2,pt,hz2⟩:=I.list sq;obtain ⟨⟨oc,od,oda,os⟩,ho,hc,n2,hd⟩:=pt.isList;simp only at hc hd;subst hc hd;have l1:=rr.length;have l2:=rr2.length;have l3:=r2.length;have hsz:its.toArray.size+its2.toArray.size<=sizeLine:=by rw[zzS,zzS];omega
  have hlong:¬ (!its.toArray.isEmpty&&Builtin.List.listTooLong (its.toArray.size+its2.toArray.size))=true:=by
   rw[zbB hsz,Zb3];exact zzN
  refine ZaK F.slot_list_extend ⟨_,e1,rfl⟩ F.entry_list_extend (F.args_list_extend_2 _ _) (zf9 p q its.toArray its2.toArray n n2 od os hlong (by rw[zzS];omega) 'd') ⟨e1,ho,?_⟩;refine ⟨.non,_,I.lset (its':=its++its2) ev e1 'g' (r.append r2) ?_,rfl,h .non _ gr (show wM X.K _ .non .non from rfl) (ab.chg e ⟨_,rfl,(rr.append rr2).mono gr⟩)⟩;rw[zzW];omega
 .exact h.elim
abbrev eExt:Mt3:=⟨"extend", "list", extS⟩
theorem zil {q:Pr} {A:Around}:MtE (q.at A) eExt/\gD eExt:=⟨cR ZaA PySem.F.slot_list_extend PySem.F.type_list_extend (fun X f=>zoA) zc8,zc8⟩
end L3
namespace L3
open PySem PySem.Spec PyProof.Rows L2 PySem.SeqAt
structure KdS (prog:Program) (w:World) (α:Type) [DecidableEq α] where
 k:_root_.PySem.KeyKind prog w α
 vl:α->Tok->Value
 of:Value->α
 d:α
 is:∀ x t,k.is x (vl x t)=true
 sh:∀ {x v},k.is x v=true->∃ t,v=vl x t
 ofm:∀ x t,of (vl x t)=x
 sc:∀ x t,(vl x t).scannable=true
section
variable {α:Type} [DecidableEq α] {prog:Program} {w:World}
def tx (K:KdS prog w α) (e:Int×Value):α:=K.of e.2
end
section
variable {α:Type} [DecidableEq α] {prog:Program} {w:World} {K:KdS prog w α} {A:Around} {E:Value->Shared->Prop} {s:Shared} {S:Addr} {led:Bool}
end
section
variable {α:Type} [DecidableEq α] {prog:Program} {w:World} {K:KdS prog w α} {A:Around} {R:Result->Shared->Prop} {I:Addr} {fp wr:List Addr} {G:Array GenState->Array GenState->Prop} {n:Nat} {P:Nat->Value->Prop} {St:Nat->Shared->Prop} {S:Addr} {led:Bool}
end
section
variable {prog:Program} {w:World} {s:Shared} {A:Around} {E:Value->Shared->Prop}
end
namespace SI
end SI
section
variable {α:Type} [DecidableEq α] {prog:Program} {w:World} {K:KdS prog w α} {A:Around} {E:Value->Shared->Prop} {s:Shared} {I S:Addr} {first:Value} {i n ep:Nat} {led:Bool} {o:Obj} {es:Array (Int×Value)} {t:SetTable}
end
section
variable {α:Type} [DecidableEq α] {prog:Program} {w:World} {K:KdS prog w α} {A:Around} {I S T:Addr} {ep:Nat} {led:Bool} {o:Obj} {es:Array (Int×Value)} {t:SetTable}
end
section
variable {α:Type} [DecidableEq α] {prog:Program} {w:World} {K:KdS prog w α} {A:Around} {E:Value->Shared->Prop} {s:Shared} {S:Addr} {ep:Nat} {o:Obj} {es:Array (Int×Value)} {t:SetTable}
end
section
variable {α:Type} [DecidableEq α] {prog:Program} {w:World} {K:KdS prog w α} {A:Around} {E:Value->Shared->Prop} {s:Shared} {S:Addr} {ep:Nat} {o:Obj} {es:Array (Int×Value)} {t:SetTable}
end
section
variable {prog:Program} {w:World} {A:Around} {E:Value->Shared->Prop} {s:Shared}
end
section
variable {X:Cx}
end
end L3
namespace L3
open PySem PySem.Spec PyProof.Rows L2 HT
section
variable {prog:Program} {w:World} {A:Around} {E:Value->Shared->Prop} {s:Shared}
theorem zk1 {f:Nat->Option Value} {g:Nat->Value}:∀ {l:List Nat},(∀ m∈l,f m=some (g m))->l.filterMap f=l.map g
 | [],_=>rfl
 |a::l,h=>by
  rw[List.filterMap_cons_some (h a zzT),zzU,zk1 fun m hm=>h m (Zd _ hm)]
theorem zeU (xs:Array Value):((List.range xs.size).filterMap fun (m:Nat)=>xs[(((xs.size:Int)-1)+(m:Int) * (-1)).toNat]?).toArray=xs.toList.reverse.toArray:=by
 congr 1;rw[zk1 (g:=fun m=>xs.toList.reverse.getD m Value.none)]
 .have:=uM Value.none xs.toList.reverse;rw[Z3,Zay] at this;exact this
 .intro m hm;have hm:m<xs.size:=Zao.mp hm;have e1:(((xs.size:Int)-1)+(m:Int) * (-1)).toNat=xs.size-1-m:=by omega
  have h2:xs.size-1-m<xs.size:=by omega
  rw[e1,Array.getElem?_eq_getElem h2,Z1,Zbe (by simpa using hm)];simp[h2]
theorem zgP {sl:Addr} {n:Nat} {t:Tok} {Q:Int×Int×Nat->Shared->Prop} (hs:s.heap.IsSliceOf sl .none .none (.int (-1) t)) (h:Q ((n:Int)-1,-1,n) s):wpAny (model prog w) A (Builtin.Slice.sliceApplied (.ref sl) (pure (n:Int))) Q E s:=by
 obtain ⟨os,hos,hcs,hds⟩:=id hs;unfold Builtin.Slice.sliceApplied Builtin.Slice.sliceFields;refine Za (Za (Zbw hos hds (x:=.none) rfl (Za (Zbw hos hds (x:=.none) rfl (Za (Zbw hos hds (x:=.int (-1) t) rfl (Zh ?_)))))));refine Za (slicePart_int ?_);show wpAny (model prog w) _ (if ((-1:Int)==0)=true then _ else _) _ _ s;rw[if_neg 'c'];refine Za (ZbD (Za (ZbD (Za (Zh ?_)))))
 have e:Builtin.Slice.slicePlaces ((n:Int)-1) (-1) (-1)=n:=by
  unfold Builtin.Slice.slicePlaces;rw[if_neg 'c',show (-(-1):Int)=1 from rfl,Int.ediv_one]
  split<;>omega
 show wpAny (model prog w) _ (pure ((n:Int)-1,(-1:Int),Builtin.Slice.slicePlaces ((n:Int)-1) (-1) (-1))) _ _ s;rw[e];exact Zh h
theorem zmq {t sl:Addr} {items:Array Value} {tk:Tok} {Q:Value->Shared->Prop} (ht:IsTup s.heap t items) (hs:s.heap.IsSliceOf sl .none .none (.int (-1) tk)) (hsz:items.size<=sizeLine)
  (h:Q (.ref s.heap.objs.size) { s with heap:=s.heap.push { cls:=.type "tuple", data:=.seq items.toList.reverse.toArray } }):wpAny (model prog w) A (getItem (.ref t) (.ref sl)) Q E s:=by
 obtain ⟨os,hos,hcs,hds⟩:=id hs;have hTs:s.TypeIs (.ref sl) "slice" := ⟨os,hos,hcs⟩
 have hok:sizeOk (.seq items.toList.reverse.toArray):=by
  show items.toList.reverse.toArray.size<=sizeLine;rw[zzS,Z3,Zay];exact hsz
 unfold getItem
 try with_reducible refine ZI ?_
 first|refine Za (Zh ?_)|skip
 refine Za (Zbc ht.typeIs 'c' ?_);refine Za (ZaC (name:=Str.ofString "__getitem__") ht.typeIs Zt (ZaI Zt ht.typeIs Zbt ?_ (ZbB _ _)));refine Za (m:=Builtin.Tuple.tupleItemsOf (.ref t)) (Zca ht ?_);refine Za (ZbC hTs ?_);rw[if_pos 'c'];refine Za (zgP hs ?_);dsimp only;rw[if_neg 'g',zeU]
 first
  |exact Za (m:=Builtin.Tuple.tupleExact _) (Zae (Zh ⟨_,rfl,Zh h⟩) hok)
  |exact Za (Za (m:=Builtin.Tuple.tupleExact _) (Zae (Zh ⟨_,rfl,Zh h⟩) hok))
end
def rvM:Scope->Expr->Option (List Expr):=fun _ e=>match e with
 | .Subscript l (.Slice none none (some (.UnaryOp .USub (.Constant (.int i) _ _) _)) _) _=>if i=1 then some [l] else none
 |_=>none
def rvS:RS:=fun ws G Q=>match ws with
 | [.tup xs]=>Q (.tup xs.reverse) G
 | [.ref p]=>∃ xs,yG G p=some xs/\∀ r,G r=none->Q (.ref r) (put G r (.lst xs.reverse))
 |_=>False
theorem zeS:jI rvS:=by
 intro ws G Q Q' k h;unfold rvS at h ⊢
 split at h
 .exact k _ _ h
 .obtain ⟨xs,e,h⟩:=h;exact ⟨xs,e,fun r hr=>k _ _ (h r hr)⟩
 .exact h.elim
theorem zju (xs:Array Value):slicePick xs none none (some (-1))=xs.toList.reverse.toArray:=by
 rw[← zeU];unfold slicePick sliceBounds sliceRange;congr 1;simp only[Option.getD_some,show ¬ ((-1:Int) > 0) by decide,if_false]
 have e:(if (xs.size:Int)-1 > -1 then ((xs.size:Int)-1 - -1 - -1-1) / - -1 else 0).toNat=xs.size:=by
  rw[show (- -1:Int)=1 from rfl,Int.ediv_one]
  split<;>omega
 rw[e,Zbz];congr 1
 funext m
 show xs[(((xs.size:Int)-1)+(-1) * (m:Int)).toNat]?=_;rw[Int.mul_comm]
theorem zlv {sc:Scope} {e:Expr} {xs:List Expr} (h:rvM sc e=some xs):∃ l a p1 p3 p2 pos,e=.Subscript l (.Slice none none (some (.UnaryOp .USub (.Constant (.int 1) a p1) p3)) p2) pos/\xs=[l]:=by
 unfold rvM at h
 split at h
 .rename_i l i a p1 p3 p2 pos
  split at h
  .rename_i hb;subst hb;cases h;exact ⟨l,a,p1,p3,p2,pos,rfl,rfl⟩
  .cases h
 .cases h
theorem yV.reverse {vs:List V} {us:List Value} (h:yV vs us):yV vs.reverse us.reverse:=by
 induction h with
 |nil=>exact .nil
 |cons a _ ih=>rw[Zad,Zad];exact ih.append (.cons a .nil)
theorem znf {q:Pr} {A:Around}:SxE (q.at A) ⟨rvM,rvS⟩:=by
 intro X fits e xs es he each hn pa;obtain ⟨l,k,p1,p3,p2,pos,rfl,rfl⟩:=zlv (sc:=X.env.scope) he
 match es,each with
 | [t],each =>
  refine ⟨fun pins s σ H Q I h=>?_,fun _=>rfl,fun _ _ _ z=>nomatch z⟩;obtain ⟨σ3,G,hs,ab,h⟩:=h;refine Subscript_ (wQ (each.2.1 pins s σ H (fun v H1=>∃ ys vs a G1,v=.ref a/\yU X.K H1 ys vs/\xE X.K H1 G1/\yB X.K H H1/\((gH X.K H1 a vs/\sG X.K H Q (.tup ys.reverse) G1)\/(dL X.K H1 a vs/\∀ r,G1 r=none->sG X.K H Q (.ref r) (put G1 r (.lst ys.reverse))))) I ⟨σ3,G,hs,ab,each.1 σ3 G _ _ (fun w G1 h=>?_) h⟩) fun v s1 ⟨x,H1,I1,r1,q1⟩=>?_)
  .intro v H1 g1 rv a1;have h:rvS [w] G1 (sG X.K H Q):=h;unfold rvS at h
   split at h
   .rename_i ys ew;cases ew;obtain ⟨a,vs,rfl,sq,rr⟩:=rv;exact ⟨ys,vs,a,G1,rfl,rr,a1,g1,.inl ⟨sq,h⟩⟩
   .rename_i p ew;cases ew;obtain ⟨ys,e,h⟩:=h;cases (show v=.ref p from rv);obtain ⟨vs,sq,rr⟩:=a1.seq e;exact ⟨ys,vs,p,G1,rfl,rr,a1,g1,.inr ⟨sq,h⟩⟩
   .exact h.elim
  .obtain ⟨ys,vs,a,G1,rfl,rr,a1,g1,q⟩:=q1;cases (show v=Value.ref a from r1);refine wpAny_Slice ?_;rw[Zb7];refine Zh (Zh ?_);rw[evalPart_some];refine wQ (znJ (pos:=p3) zkx (zkL (i:=1) (j:=k) (pos:=p1)) pins s1 σ H1 (fun v H2=>v=.int (-1)/\H2=H1) I1 ⟨1,rfl,rfl,rfl⟩) fun u s2 ⟨y,H2,I2,r2,e1,e2⟩=>?_;subst e1 e2;obtain ⟨tk,rfl⟩:=r2;have I3:Inv X pins σ H2 { s2 with heap:=s2.heap.push { cls:=.type "slice", data:=.fields #[.none,.none,.int (-1) tk] } }:=I2.kept (t':=s2.toks) fun b ob q=>Zc _ q;show wpAny 'f' X.A (subscriptTail l (.Slice none none (some (.UnaryOp .USub (.Constant (.int 1) k p1) p3)) p2) (.ref a) (.ref s2.heap.objs.size)) (EP X pins σ Q) X.xe { s2 with heap:=s2.heap.push { cls:=.type "slice", data:=.fields #[.none,.none,.int (-1) tk] } };have hsl:=Heap.IsSliceOf.new s2.heap .none .none (.int (-1) tk);have sz:s2.heap.objs.size<(s2.heap.push { cls:=.type "slice", data:=.fields #[.none,.none,.int (-1) tk] }).objs.size:=by rw[Z7];exact Zai _
   generalize s2.heap.push { cls:=.type "slice", data:=.fields #[.none,.none,.int (-1) tk] }=h0 at I3 hsl sz ⊢;have hn:H2 h0.objs.size=none:=I3.hok.fresh (zzR _);rcases q with ⟨sq,q⟩|⟨sq,q⟩
   .obtain ⟨its,vv,ht,hz⟩:=I3.tuple sq;have hlen:its.toArray.size=vs.length:=by rw[zzS];exact vv.length.symm
    refine Zb9 (ops:=[.ref a,.ref s2.heap.objs.size]) ht.typeIs Zt.lookup (zmq ht hsl (by rw[hlen];exact hz) ?_) (by with_unfolding_all rfl);refine ⟨.ref _,_,I3.laid (t':=s2.toks) (o:=.tup vs.reverse) (fun b ob q=>Zc _ q) (zzR _) ⟨by rw[Z3];exact hz,its.reverse,vv.reverse,?_⟩,rfl,?_⟩
    .have:=Zb6 h0 its.reverse.toArray;simpa using this
    .have g2:yB X.K H2 (xM H2 h0.objs.size (.tup vs.reverse)):=wT hn;exact q _ _ (g1.trans g2) ⟨_,_,rfl,gH.of wC,rr.reverse.mono g2⟩ (a1.tup hn)
   .obtain ⟨its,vv,pl,hz⟩:=I3.list sq;have hlen:its.toArray.size=vs.length:=by rw[zzS];exact vv.length.symm
    have ht:=pl.isList;refine Zb9 (ops:=[.ref a,.ref s2.heap.objs.size]) ht.typeIs list_getitem_lookup (wpAny_getItem_list_slice ht hsl .none .none (.int (-1) tk) 'g' ?_ (by rw[hlen];exact hz)) (by with_unfolding_all rfl);rw[zju];refine ⟨.ref _,_,I3.laid (t':=s2.toks) (o:=.lst vs.reverse) (fun b ob q=>Zc _ q) (zzR _) ⟨by rw[Z3];exact hz,its.reverse,0,vv.reverse,?_⟩,rfl,?_⟩
    .simpa using Zq h0 (o:={ cls:=.type "list", data:=.seq its.reverse.toArray }) rfl
    .exact vK (Q:=Q) a1 rr.reverse (fun p hp v' H' g'=>q p hp v' H' (g1.trans g')) _ hn
def hcM (y:Str):Scope->Expr->Option (List Expr):=fun _ e=>match e with
 | .Call (.Name x q) [a] [] _=>if (x==y)=true then some [.Name x q,a] else none
 |_=>none
def hcS (f:Addr) (sp:qE):RS:=fun ws G Q=>match ws with
 | [.ref p,w]=>p=f/\sp [w] G Q XN
 |_=>False
theorem zj6 {f:Addr} {sp:qE} (mono:∀ ws G (Q Q':Q3),'i'->sp ws G Q XN->sp ws G Q' XN):jI (hcS f sp):=by
 intro ws G Q Q' k h;unfold hcS at h ⊢
 split at h
 .exact ⟨h.1,mono _ _ _ _ k h.2⟩
 .exact h.elim
theorem zmp {y:Str} {sc:Scope} {e:Expr} {xs:List Expr} (h:hcM y sc e=some xs):∃ x q a pos,e=.Call (.Name x q) [a] [] pos/\xs=[.Name x q,a]:=by
 unfold hcM at h
 split at h
 .rename_i x q a pos
  split at h
  .cases h;exact ⟨x,q,a,pos,rfl,rfl⟩
  .cases h
 .cases h
theorem sx_hc {q:Pr} {k:Nat} {y:Str} {f:Addr} {fd:FuncData} {ps:List Str} {sp:qE} (FO:FnOk q.prog q.w q.K q.mg q.base CX0 k f fd ps (tX q.K sp)) (hk:PySem.W.keepIn q.K (.ref f)=true) (hb:vL q.K fd ps [])
  (mono:∀ ws G (Q Q':Q3),'i'->sp ws G Q XN->sp ws G Q' XN) {A:Around} (hr:Room k A):SxE (q.at A) ⟨hcM y,hcS f sp⟩:=by
 intro X fits e xs es he each hn pa;obtain ⟨x,qp,a,pos,rfl,rfl⟩:=zmp (sc:=X.env.scope) he;have e:=fits.eq
 injection e with e1 e2 e3 e4 e5 e6
 subst e6;rw[e1,e2,e3,e4,e5] at FO;rw[e3] at hk hb
 match es,each with
 | [t1,t2],each =>
  refine ⟨fun pins s σ H Q I h=>?_,fun _=>rfl,fun _ _ _ z=>nomatch z⟩;obtain ⟨σ3,G,hs,ab,h⟩:=h;have hn2:([a]:List Expr).all wG=true:=by simpa[wG] using hn
  obtain ⟨s1,s2⟩:=jW (env:=X.env) (pos:=pos) hn2
  have p2:PA X [a] (fM X.K (seqA [t2])):=(zhm each.2.2.2.1 zkN s1).imp fun τ H Q h=>by
   obtain ⟨σ,G,hs,ab,h⟩:=h;refine ⟨σ,G,hs,ab,each.2.2.1 σ G _ _ (fun w G1 h=>?_) h⟩;intro v H1 g1 rv a1;exact h [v] H1 g1 ⟨v,[],rfl,rv,rfl⟩ a1
  refine ZQ (wQ (each.2.1 pins s σ H (fun v H1=>∃ w G1,wM X.K H1 w v/\xE X.K H1 G1/\yB X.K H H1/\t2 σ3 G1 fun u G2=>hcS f sp [w,u] G2 (sG X.K H Q)) I ⟨σ3,G,hs,ab,each.1 σ3 G _ _ (fun w G1 h v H1 g1 rv a1=>⟨w,G1,rv,a1,g1,h⟩) h⟩) fun v s3 ⟨x1,H1,I1,r1,w,G1,rw1,a1,g1,q1⟩=>?_);have hA:=p2 pos pins s3 σ H1 (fun ys H2=>(∃ z,ys=[z]/\v=Value.ref f/\tX X.K sp [z] H2 Q (fun _ _ _=>False))) I1 ⟨σ3,G1,hs.mono g1,a1,each.2.2.1 σ3 G1 _ _ (fun u G2 hq=>?_) q1⟩
  .rw[s1] at hA ⊢;refine PySem.W.callWith_of (P:=fun h=>X.K.In h/\v=Value.ref f) (by show ((false || (backTo pos (starEach [] X.env)).any (·.1)) || false)=false;rfl) (fun h z=>by rw[z.2];exact PySem.W.keeps_K hk h z.1) (Calls.evalArgs_plain (wQ hA fun us s4 ⟨ys,H2,I2,r2,z,ez,ev,q2⟩=>⟨⟨I2.kIn,ev⟩,?_⟩));subst ez;subst ev;exact zg0 (ds:=[]) (dvs:=[]) FO hr hb .nil zhk I2 r2 q2
  .intro ys H2 g2 rs a2;obtain ⟨z,rfl,rz⟩:=qG rs;unfold hcS at hq
   split at hq
   .rename_i p u' ew;cases ew;obtain ⟨rfl,hq⟩:=hq;cases (show x1=.ref p from rw1);cases (show v=Value.ref p from r1);exact ⟨z,rfl,rfl,[u],G2,rs,a2,mono _ _ _ _ (fun w' G' h v' H' g'=>h v' H' (g1.trans (g2.trans g'))) hq⟩
   .exact hq.elim
end L3
namespace L3
open PySem PySem.Spec PyProof.Rows L2
def sumS:RS:=fun ws G Q=>match ws with
 | [.ref p]=>∃ ns:List Int,yG G p=some (ns.map .int)/\Q (.int ns.sum) G
 |_=>False
theorem zcb:jI sumS:=by
 intro ws G Q Q' k h;unfold sumS at h ⊢
 split at h
 .obtain ⟨ns,e,h⟩:=h;exact ⟨ns,e,k _ _ h⟩
 .exact h.elim
theorem zex {K:yI} {H:Hp}:∀ {ns:List Int} {vs:List V} {us:List Value},yU K H (ns.map .int) vs->yV vs us->us.length=ns.length/\∀ (i:Nat) (v:Value),us[i]?=some v->∃ t,v=.int (ns.getD i 0) t
 | [],vs,us,r,v=>by
  cases (show vs=[] from r);cases v;exact ⟨rfl,fun i v e=>by cases e⟩
 |x::ns,vs,us,r,v=>by
  obtain ⟨y,tl,rfl,ry,rt⟩:=r;cases (show y=.int x from ry)
  cases v with
  |cons a c =>
   obtain ⟨tk,rfl⟩:=a;obtain ⟨h1,h2⟩:=zex rt c;refine ⟨by rw[Ze,Ze,h1],fun i v e=>?_⟩
   cases i with
   |zero=>cases e;exact ⟨tk,rfl⟩
   |succ i=>exact h2 i v e
theorem zaB (f:Nat->Int) (x:Int):∀ n,preSum (fun i=>if i=0 then x else f (i-1)) (n+1)=x+preSum f n
 | 0=>by show 0+x=x+0;omega
 |n+1=>by
  show preSum _ (n+1)+_=_;rw[zaB f x n];show x+preSum f n+f n=x+(preSum f n+f n);omega
theorem zcI:∀ ns:List Int,preSum (fun i=>ns.getD i 0) ns.length=ns.sum
 | []=>rfl
 |x::ns=>by
  have e:(fun i=>(x::ns).getD i 0)=fun i=>if i=0 then x else ns.getD (i-1) 0:=by
   funext i
   cases i<;>simp
  rw[e,Ze,zaB (fun i=>ns.getD i 0) x ns.length,zcI ns,List.sum_cons]
theorem znh {X:Cx} (hc:X.calm=true):jG X (.builtin "sum") (gR X.K sumS):=by
 intro pins s σ H xs us Q I r h;obtain ⟨ws,G,rs,ab,h⟩:=h;unfold sumS at h
 split at h
 .rename_i p;obtain ⟨v,rfl,rv⟩:=qG rs;cases (show v=.ref p from rv);obtain ⟨ns,e,h⟩:=h;obtain ⟨u,rfl,ru⟩:=qI r;cases ru;obtain ⟨vs,sq,rr⟩:=ab.seq e;obtain ⟨its,rv,pl,hz⟩:=I.list sq;obtain ⟨hn,hv⟩:=zex rr rv;have hl:=pl.isList
  have hlt:p<s.heap.objs.size:=by
   obtain ⟨o,ho,_⟩:=hl;exact Zi ho
  have W:=Walks.list (prog:=X.prog) (w:=X.w) (A:=X.A.in1) (I.ok.hd hc) s.heap.objs.size p (Zr hlt) its.toArray;have hs:its.toArray.size=ns.length:=by simpa using hn
  rw[hs] at W;refine vA I.tk (call_sum_walkG (Zbb hl ⟨s.heap.objs.size,_,_,_,_,_,fun i=>ns.getD i 0,rfl,W,⟨⟨_,Zq _ rfl,rfl,rfl⟩,hl.push _⟩,fun b hb=>?_,fun i v hv'=>hv i v (by simpa using hv'),fun h' tk t' k h0=>?_⟩))
  .have hsz:∀ (hp:Heap) (o:Obj),(hp.push o).objs.size=hp.objs.size+1:=fun hp o=>by simp[Heap.push]
   rw[hsz];simp only[Zk,ZbS,or_false] at hb;rcases hb with rfl|rfl
   .exact Zai _
   .exact ZaN hlt
  .rw[zcI];refine ⟨.int ns.sum,H,I.kept fun b o e'=>k b o (fun hm=>?_) (Zc _ e'),⟨t',rfl⟩,h _ H .refl rfl ab⟩;rw[ZH] at hm;exact Zr (Zi e') hm
 .exact h.elim
abbrev eSum:Fn3:=⟨"sum", fun ws G Q _=>sumS ws G Q⟩
theorem zmx {q:Pr} {A:Around} (hm:q.mg "sum" = none):vM (q.at A) eSum:=⟨gK (id := "sum") hm 'j' (fun X f=>znh f.calm) zcb (fun _ _ h=>h),fun ws G Q Q' _ k h=>zcb ws G Q Q' k h⟩
abbrev eAny:Fn3:=⟨"any", fun ws G Q _=>allS (·.any id) ws G Q⟩
theorem zmE {q:Pr} {A:Around} (hm:q.mg "any" = none):vM (q.at A) eAny:=⟨gK (id := "any") hm 'j' (fun X f=>zoP f.calm) (nB _) (fun _ _ h=>h),fun ws G Q Q' _ k h=>nB _ ws G Q Q' k h⟩
def dg2S:MS:=fun x ws G Q=>match x,ws with
 | .ref p,[.str k,d]=>(match G p with|some (.dic kvs)=>Q ((cB kvs (.inr k)).getD d) G|_=>False)
 |_,_=>False
theorem zdb:∀ x ws G (Q Q':Q3),'i'->dg2S x ws G Q->dg2S x ws G Q':=by
 intro x ws G Q Q' k h;unfold dg2S at h ⊢
 split at h
 .split at h
  .exact k _ _ h
  .exact h.elim
 .exact h.elim
theorem dg_ok {X:Cx} (hu:X.A.units+200<cLine):MtR X "dict.get" (lowM X.K dg2S):=by
 intro pins s σ H x xs v us Q I rx rxs h;obtain ⟨w,ws,G,rw1,rs,ab,h⟩:=h;unfold dg2S at h
 split at h
 .rename_i p k d;cases (show x=.ref p from rw1);cases (show v=Value.ref p from rx);obtain ⟨vk,tl,rfl,rk,rt⟩:=rs;obtain ⟨vd,rfl,rd⟩:=qG rt;cases (show vk=.str k from rk)
  cases rxs with
  |cons ru rr =>
  obtain ⟨ud,rfl,rud⟩:=qI rr
  split at h
  .rename_i kvs e;obtain ⟨l,e',rkv⟩:=ab.dic e;have dg:DGet H p (.str k) (uG l (.inr k)):=.inl ⟨l,.inr k,.inl e',rfl,rfl⟩;refine zoJ 'd' I dg ru rud fun w' s' I' r'=>⟨(uG l (.inr k)).getD vd,H,I',r',?_⟩
   cases eq:cB kvs (.inr k) with
   |some w1 =>
    obtain ⟨v1,ev,rp⟩:=rkv.get eq;rw[eq] at h;rw[ev];exact h _ H .refl rp ab
   |none =>
    rw[eq] at h;rw[rkv.none eq];exact h _ H .refl rd ab
  .exact h.elim
 .exact h.elim
abbrev eGet:Mt3:=⟨"get", "dict", dg2S⟩
theorem zik {q:Pr} {A:Around} (hu:A.units+200<cLine):MtE (q.at A) eGet/\gD eGet:=⟨cR PySem.F.plainAttrs_dict Zbh PySem.F.type_dict_get (fun X f=>dg_ok (by rw[f.A];exact hu)) zdb,zdb⟩
noncomputable def dcM (y:Str):Scope->Expr->Option (List Expr):=fun sc e=>match e with
 | .Call (.Name x _) (a::b::r) [] _=>if (x==y&&gL sc x)=true then some (a::b::r) else none
 |_=>none
def dcS (sp:qE) (dws:List W):RS:=fun ws G Q=>sp (ws++dws) G Q XN
theorem zkk {sp:qE} {dws:List W} (mono:∀ ws G (Q Q':Q3),'i'->sp ws G Q XN->sp ws G Q' XN):jI (dcS sp dws):=fun ws G Q Q' k h=>mono _ _ _ _ k h
theorem zmK {y:Str} {sc:Scope} {e:Expr} {xs:List Expr} (h:dcM y sc e=some xs):∃ q a b r pos,e=.Call (.Name y q) (a::b::r) [] pos/\xs=a::b::r/\gL sc y=true:=by
 unfold dcM at h
 split at h
 .rename_i x q a b r pos
  split at h
  .rename_i hb;obtain ⟨h1,h2⟩:=mH hb;cases eq_of_beq h1;cases h;exact ⟨q,a,b,r,pos,rfl,rfl,h2⟩
  .cases h
 .cases h
theorem sx_dc {p:Par} {y:Str} {sp:qE} {dws:List W} (F:FnE p ⟨y,fun ws G Q _=>sp (ws++dws) G Q XN⟩):SxE p ⟨dcM y,dcS sp dws⟩:=by
 intro X fits e xs es he each hn pa;obtain ⟨q,a,b,r,pos,rfl,rfl,hg⟩:=zmK he;obtain ⟨gl,d1,n1⟩:=zf7 (X:=X) rfl hg;exact ⟨F X fits gl (a::b::r) (seqA es) q pos (cC each) hn pa (fun z=>nomatch z) d1 n1,fun _=>rfl,fun _ _ _ z=>nomatch z⟩
abbrev eApp:Mt3:=⟨"append", "list", appS⟩
theorem zim {q:Pr} {A:Around}:MtE (q.at A) eApp/\gD eApp:=⟨cR ZaA PySem.F.slot_list_append PySem.F.type_list_append (fun X f=>zoO) zdr,zdr⟩
def dJ:RS:=fun ws G Q=>match ws with
 | [x]=>(match vN G x with|some xs=>Q (.tup xs) G|none=>False)
 |_=>False
theorem zb6:jI dJ:=by
 intro ws G Q Q' k h;unfold dJ at h ⊢
 split at h
 .split at h
  .exact k _ _ h
  .exact h.elim
 .exact h.elim
theorem zm1 {X:Cx}:jG X (.type "tuple") (gR X.K dJ):=by
 intro pins s σ H xs us Q I r h;obtain ⟨ws,G,rs,ab,h⟩:=h;unfold dJ at h
 split at h
 .rename_i w;obtain ⟨v,rfl,rv⟩:=qG rs
  split at h
  .rename_i ys hy;obtain ⟨a,vs,b,rfl,sq,rr⟩:=zgS ab rv hy;refine zbZ pins s σ H _ us Q I r ⟨a,vs,rfl,?_⟩;cases b
   .exact .inl ⟨sq,fS ab rr h⟩
   .exact .inr ⟨sq,h _ _ .refl ⟨a,vs,rfl,sq,rr⟩ ab⟩
  .exact h.elim
 .exact h.elim
abbrev eTup:Fn3:=⟨"tuple", fun ws G Q _=>dJ ws G Q⟩
theorem zmw {q:Pr} {A:Around} (hm:q.mg "tuple" = none):vM (q.at A) eTup:=⟨zmt hm 'j' (fun X f=>zm1) zb6 (fun _ _ h=>h),fun ws G Q Q' _ k h=>zb6 ws G Q Q' k h⟩
end L3
namespace L3
open PySem PySem.Spec PyProof.Rows L2 PySem.SeqAt
theorem zg2 (l:Addr) (its:Array Value) (n:Nat) (xv:Value) (e:Value->Bool) (j:Nat) (hj:j<its.size) (hit:e its[j]=true) (hz:its.size<=sizeLine) :
  ∀ k i:Nat,j-i=k->i<=j->(∀ m (hm:m<its.size),i<=m->m<j->e its[m]=false)->Meets (Builtin.«list.remove.loop» ⟨[.ref l,xv,rawInt i],[]⟩)
   (fun A R s=>s.heap.get? l=some (seqObj "list" its n)/\(∀ y,y∈its->EqAt A.in1 s y xv (e y))/\R (.ok (.ret .none)) { s with heap:=s.heap.update l (Obj.mapSeq fun xs=>xs.eraseIdxIfInBounds j) })
 | 0,i,hk,hij,hno,pg,w,A,R,s,h=>by
  obtain ⟨hp,g,d,tk,so⟩:=s;obtain ⟨hl,he,h⟩:=h;obtain rfl:i=j:=by omega
  wp_walk using (ZS hl)
  rw[show its[((i:Nat):Int).toNat]?=some its[i] by simp[hj]];refine Za (he _ (Array.getElem_mem hj) pg w _ _ ?_);rw[hit];have hz':(its.eraseIdxIfInBounds i).size<=sizeLine+1:=Zb (PySem.MeetsSeq.size_erased its _) (ZbK hz)
  wp_walk using (Zax hl rfl (hz:=hz) (_hz':=hz')),ZS hl
  simpa using h
 |k+1,i,hk,hij,hno,pg,w,A,R,s,h=>by
  obtain ⟨hp,g,d,tk,so⟩:=s;obtain ⟨hl,he,h⟩:=h;have hi:i<its.size:=by omega
  wp_walk using (ZS hl)
  rw[show its[((i:Nat):Int).toNat]?=some its[i] by simp[hi]];refine Za (he _ (Array.getElem_mem hi) pg w _ _ ?_);rw[hno i hi (zzR _) 'd']
  wp_walk
  rw[show ((i:Int)+1)=((i+1:Nat):Int) from rfl];refine ⟨Zbr Zag _,Zb0 MeetsSeq.entry_remove_loop ?_⟩;rw[Zbm Zag _];exact zg2 l its n xv e j hj hit hz k (i+1) 'd' 'd' (fun m hm h1 h2=>hno m hm 'd' h2) pg w A R _ ⟨hl,he,h⟩
theorem rm_at (l:Addr) (its:Array Value) (n:Nat) (xv:Value) (e:Value->Bool) (j:Nat) (hj:j<its.size) (hit:e its[j]=true) (hno:∀ m (hm:m<its.size),m<j->e its[m]=false) (hz:its.size<=sizeLine) :
  Meets (Builtin.«list.remove» ⟨[.ref l,xv],[]⟩)
   (fun A R s=>s.heap.get? l=some (seqObj "list" its n)/\(∀ y,y∈its->EqAt A.in1 s y xv (e y))/\R (.ok (.ret .none)) { s with heap:=s.heap.update l (Obj.mapSeq fun xs=>xs.eraseIdxIfInBounds j) }):=by
 intro pg w A R s h;obtain ⟨hp,g,d,tk,so⟩:=s;obtain ⟨hl,he,h⟩:=h
 wp_walk using (ZS hl)
 refine ⟨Zbr Zag _,Zb0 MeetsSeq.entry_remove_loop ?_⟩;rw[Zbm Zag _];exact zg2 l its n xv e j hj hit hz _ 0 rfl (Zg _) (fun m hm _ h2=>hno m hm h2) pg w A R _ ⟨hl,he,h⟩
def remS:MS:=fun x ws G Q=>match x,ws with
 | .ref p,[y]=>(match G p with
  |some (.lst xs)=>(pur y=true/\yP xs=true/\min (yL xs) (dep y)<=150)/\(xs.any fun w=>yQ w y)=true/\Q .non (put G p (.lst (xs.eraseIdx (xs.findIdx fun w=>yQ w y))))
  |_=>False)
 |_,_=>False
theorem zcB:∀ x ws G (Q Q':Q3),'i'->remS x ws G Q->remS x ws G Q':=by
 intro x ws G Q Q' k h;unfold remS at h ⊢
 split at h
 .split at h
  .exact ⟨h.1,h.2.1,k _ _ h.2.2⟩
  .exact h.elim
 .exact h.elim
theorem zaA {K:yI} {H:Hp}:∀ {ws:List W} {vs:List V} (k:Nat),yU K H ws vs->yU K H (ws.eraseIdx k) (vs.eraseIdx k)
 | [],vs,k,h=>by
  cases (show vs=[] from h);exact rfl
 |w::ws,vs,0,h=>by
  obtain ⟨v,t,rfl,h,hs⟩:=h;exact hs
 |w::ws,vs,k+1,h=>by
  obtain ⟨v,t,rfl,h,hs⟩:=h;exact ⟨v,_,rfl,h,zaA k hs⟩
theorem znu {X:Cx} (hu:X.A.units+200<cLine):MtR X "list.remove" (lowM X.K remS):=by
 intro pins s σ H x xs v us Q I rx rxs h;obtain ⟨w,ws,G,rw1,rs,ab,h⟩:=h;unfold remS at h
 split at h
 .rename_i p y;cases (show x=.ref p from rw1);cases (show v=Value.ref p from rx);obtain ⟨vy,rfl,ry⟩:=qG rs;obtain ⟨uy,rfl,ruy⟩:=qI rxs
  split at h
  .rename_i ys e;obtain ⟨⟨p1,p2,p3⟩,ha,h⟩:=h;obtain ⟨vs,ev,rr⟩:=ab.lst e;obtain ⟨z,its,n,r,hl,e1⟩:=I.lstM ev;have gr:yB X.K H (xM H p (.lst (vs.eraseIdx (ys.findIdx fun w=>yQ w y)))):=ab.grow e;have hm:=zkc I (x:=y) rr r p2;have fe:its.findIdx (eqI X.K H y)=ys.findIdx (fun w=>yQ w y):=by rw[← nX,hm,nX]
   have ha':its.any (eqI X.K H y)=true:=by rw[zid I rr r p2];exact ha
   have hlt:its.findIdx (eqI X.K H y)<its.length:=List.findIdx_lt_length.mpr (ZaU.mp ha')
   refine ZaK PySem.F.slot_list_remove ⟨_,e1,rfl⟩ PySem.F.entry_list_remove (PySem.F.args_list_remove_2 _ _)
    (rm_at p its.toArray n uy (eqI X.K H y) (its.findIdx (eqI X.K H y)) (by simpa using hlt) ?_ ?_ (by rw[zzS];omega)) ⟨e1,fun z hz'=>?_,?_⟩
   .simpa using List.findIdx_getElem (w:=hlt)
   .intro m hm' hlt';simpa using List.not_of_lt_findIdx hlt'
   .refine zk3 I ry ruy p1 rr r p2 ?_ z (by simpa using hz');show X.A.units+1+min (yL ys) (dep y)<cLine;omega
   .refine ⟨.non,_,I.lset (its':=its.eraseIdx (ys.findIdx fun w=>yQ w y)) ev e1 ?_ (r.eraseIdx _) ?_,rfl,h .non _ gr rfl (ab.chg e ⟨_,rfl,(zaA _ rr).mono gr⟩)⟩
    .rw[fe];show its.toArray.eraseIdxIfInBounds _=_;rw[List.eraseIdxIfInBounds_toArray]
    .have:=zcY vs (ys.findIdx fun w=>yQ w y);omega
  .exact h.elim
 .exact h.elim
abbrev eRem:Mt3:=⟨"remove", "list", remS⟩
theorem zii {q:Pr} {A:Around} (hu:A.units+200<cLine):MtE (q.at A) eRem/\gD eRem:=⟨cR ZaA PySem.F.slot_list_remove PySem.F.type_list_remove (fun X f=>znu (by rw[f.A];exact hu)) zcB,zcB⟩
structure Ord (n:Nat) (lt:Nat->Nat->Bool):Prop where
 tr:∀ a b c,a<n->b<n->c<n->lt b a=false->lt c b=false->lt c a=false
 as:∀ a b,a<n->b<n->lt a b=true->lt b a=false
theorem vB {α β:Type} (lt:Nat->Nat->Bool) (f:α->PySem.W.KasT β):∀ t:PySem.W.KasT α,xW lt (t.bind f)=xW lt (f (xW lt t))
 | .ret a=>rfl
 | .ask i j k=>vB lt f (k (lt i j))
section
variable {n:Nat} {lt:Nat->Nat->Bool}
def Le (lt:Nat->Nat->Bool) (p:Array Nat) (a b:Nat):Prop:=lt (p.getD b 0) (p.getD a 0)=false
def Up (lt:Nat->Nat->Bool) (p:Array Nat) (m:Nat):Prop:=∀ a b,a<b->b<m->Le lt p a b
def Dn (lt:Nat->Nat->Bool) (p:Array Nat) (m:Nat):Prop:=∀ a b,a<b->b<m->Le lt p b a
def Ev (lt:Nat->Nat->Bool) (p:Array Nat) (i m:Nat):Prop:=∀ a b,i<=a->a<m->i<=b->b<m->Le lt p a b
theorem Le.tr (O:Ord n lt) (hn:0<n) {p:Array Nat} (h:Pm n p) {a b c:Nat} (x:Le lt p a b) (y:Le lt p b c):Le lt p a c:=O.tr _ _ _ (h.lt hn _) (h.lt hn _) (h.lt hn _) x y
theorem Le.rf (O:Ord n lt) (hn:0<n) {p:Array Nat} (h:Pm n p) (a:Nat):Le lt p a a:=by
 unfold Le
 cases e:lt (p.getD a 0) (p.getD a 0) with
 |false=>rfl
 |true=>rw[← e];exact O.as _ _ (h.lt hn _) (h.lt hn _) e
theorem Le.of (O:Ord n lt) (hn:0<n) {p:Array Nat} (h:Pm n p) {a b:Nat} (e:lt (p.getD a 0) (p.getD b 0)=true):Le lt p a b:=O.as _ _ (h.lt hn _) (h.lt hn _) e
theorem Pm.size {p:Array Nat} (h:Pm n p):p.size=n:=by
 have:=ZaO.mp h;have:=this.length_eq;simpa using this
theorem zh7 {p q:Array Nat} {i j:Nat} (e:p[i]?=q[j]?):p.getD i 0=q.getD j 0:=by
 rw[Array.getD_eq_getD_getElem?,Array.getD_eq_getD_getElem?,e]
theorem pT {p:Array Nat} {i j:Nat} (hj:j<=p.size) (k:Nat):(PySem.W.kas_rev p i j).getD k 0=p.getD (if i<=k/\k<j then i+j-1-k else k) 0:=by
 apply zh7;unfold PySem.W.kas_rev;rw[getElem?_mirror_all hj]
 split<;>rfl
theorem zk8 {p:Array Nat} {k l:Nat} (hk:k<p.size) (hl:l<=k) (a:Nat):(bubble p k (k-l)).getD a 0=p.getD (if a=l then k else if l<a/\a<=k then a-1 else a) 0:=by
 apply zh7;rw[getElem?_bubble hk _ 'd',show k-(k-l)=l by omega]
 repeat' split
 all_goals rfl
theorem zer (O:Ord n lt) (hn:0<n) {p:Array Nat} (h:Pm n p):∀ f m,1<=m->Up lt p m->Up lt p (xW lt (PySem.W.kas_asc p f m))/\m<=xW lt (PySem.W.kas_asc p f m)/\xW lt (PySem.W.kas_asc p f m)<=m+f /\
  (xW lt (PySem.W.kas_asc p f m)<m+f->lt (p.getD (xW lt (PySem.W.kas_asc p f m)) 0) (p.getD (xW lt (PySem.W.kas_asc p f m)-1) 0)=true)
 | 0,m,hm,u=>⟨u,zzR _,zzR _,fun h=>absurd h (Z9 _)⟩
 |f+1,m,hm,u=>by
  show Up lt p (xW lt (if lt (p.getD m 0) (p.getD (m-1) 0)=true then _ else _))/\m<=xW lt (if lt (p.getD m 0) (p.getD (m-1) 0)=true then _ else _)/\xW lt (if lt (p.getD m 0) (p.getD (m-1) 0)=true then _ else _)<=_ /\
   (xW lt (if lt (p.getD m 0) (p.getD (m-1) 0)=true then _ else _)<_->lt (p.getD (xW lt (if lt (p.getD m 0) (p.getD (m-1) 0)=true then _ else _)) 0) (p.getD (xW lt (if lt (p.getD m 0) (p.getD (m-1) 0)=true then _ else _)-1) 0)=true)
  cases e:lt (p.getD m 0) (p.getD (m-1) 0) with
  |true =>
   simp only[if_true];exact ⟨u,zzR _,ZbT _ _,fun _=>e⟩
  |false =>
   simp only[if_false,zzB]
   have u':Up lt p (m+1):=fun a b ab bm=>by
    by_cases hb:b<m
    .exact u a b ab hb
    .obtain rfl:b=m:=by omega
     by_cases ha:a=b-1
     .rw[ha];exact e
     .exact Le.tr O hn h (u a (b-1) 'd' 'd') e
   obtain ⟨r1,r2,r3,r4⟩:=zer O hn h f (m+1) 'd' u';exact ⟨r1,by omega,by omega,fun hlt=>r4 'd'⟩
theorem zk2 (O:Ord n lt) (hn:0<n) {p:Array Nat} (h:Pm n p) {i m:Nat} (hm:m<=n) (d:Dn lt p m) (e:Ev lt p i m):Dn lt (PySem.W.kas_rev p i m) m:=fun a b ab bm=>by
 have hz:m<=p.size:=by rw[h.size];exact hm
 unfold Le;rw[pT hz,pT hz]
 by_cases ha:i<=a
 .rw[if_pos ⟨ha,by omega⟩,if_pos ⟨by omega,bm⟩];exact e _ _ 'd' 'd' 'd' 'd'
 .rw[if_neg 'd']
  by_cases hb:i<=b
  .rw[if_pos ⟨hb,bm⟩];exact d _ _ 'd' 'd'
  .rw[if_neg 'd'];exact d a b ab bm
theorem zoD {p:Array Nat} (h:Pm n p) {m:Nat} (hm:m<=n) (d:Dn lt p m):Up lt (PySem.W.kas_rev p 0 m) m:=fun a b ab bm=>by
 have hz:m<=p.size:=by rw[h.size];exact hm
 unfold Le;rw[pT hz,pT hz,if_pos ⟨Zg _,bm⟩,if_pos ⟨Zg _,by omega⟩];exact d _ _ 'd' 'd'
theorem zbU (O:Ord n lt) (hn:0<n):∀ f (p:Array Nat) m q,Pm n p->1<=m->m+f<=n->q+1<=m->Dn lt p m->Ev lt p (m-(q+1)) m ->
  ∃ p' m' q',xW lt (PySem.W.kas_desc f p m q)=(p',m',q')/\Pm n p'/\1<=m'/\m'<=m+f/\q'+1<=m'/\Dn lt p' m'/\Ev lt p' (m'-(q'+1)) m'
 | 0,p,m,q,h,h1,h2,h3,d,e=>⟨p,m,q,rfl,h,h1,zzR _,h3,d,e⟩
 |f+1,p,m,q,h,h1,h2,h3,d,e=>by
  show ∃ p' m' q',xW lt (if lt (p.getD m 0) (p.getD (m-1) 0)=true then _ else _)=_/\_
  cases c:lt (p.getD m 0) (p.getD (m-1) 0) with
  |true =>
   rw[if_pos rfl]
   have one:∀ p':Array Nat,Pm n p'->Dn lt p' m->(∀ a,a<m->Le lt p' m a)->∃ p'' m' q',xW lt (PySem.W.kas_desc f p' (m+1) 0)=(p'',m',q')/\Pm n p''/\1<=m'/\m'<=m+(f+1)/\q'+1<=m'/\Dn lt p'' m'/\Ev lt p'' (m'-(q'+1)) m':=fun p' h' d' l'=>by
    obtain ⟨p'',m',q',e1,e2,e3,e4,e5,e6,e7⟩:=zbU O hn f p' (m+1) 0 h' 'd' 'd' 'd' (fun a b ab bm=>by
     by_cases hb:b<m
     .exact d' a b ab hb
     .obtain rfl:b=m:=by omega
      exact l' a ab) (fun a b h1 h2 h3 h4=>by
       obtain rfl:a=m:=by omega
       obtain rfl:b=a:=by omega
       exact Le.rf O hn h' _)
    exact ⟨p'',m',q',e1,e2,e3,by omega,e5,e6,e7⟩
   have low:∀ a,a<m->Le lt p m a:=fun a ha=>by
    have x:=Le.of O hn h c
    by_cases q1:a=m-1
    .rw[q1];exact x
    .exact Le.tr O hn h x (d a (m-1) 'd' 'd')
   split
   .refine one _ (h.rev _ _) (zk2 O hn h 'd' d e) fun a ha=>?_;have hz:m<=p.size:=by rw[h.size];omega
    unfold Le;rw[pT hz,pT hz,if_neg (by omega:¬ (m-(q+1)<=m/\m<m))]
    split
    .exact low _ 'd'
    .exact low _ ha
   .exact one p h d low
  |false =>
   rw[if_neg 'c'];show ∃ p' m' q',xW lt (if lt (p.getD (m-1) 0) (p.getD m 0)=true then _ else _)=_/\_
   cases c':lt (p.getD (m-1) 0) (p.getD m 0) with
   |true =>
    rw[if_pos rfl];exact ⟨p,m,q,rfl,h,h1,by omega,h3,d,e⟩
   |false =>
    rw[if_neg 'c'];have x:Le lt p (m-1) m:=c;have y:Le lt p m (m-1):=c'
    obtain ⟨p'',m',q',e1,e2,e3,e4,e5,e6,e7⟩:=zbU O hn f p (m+1) (q+1) h 'd' 'd' 'd' (fun a b ab bm=>by
     by_cases hb:b<m
     .exact d a b ab hb
     .obtain rfl:b=m:=by omega
      by_cases q1:a=b-1
      .rw[q1];exact y
      .exact Le.tr O hn h y (d a (b-1) 'd' 'd')) (fun a b h1 h2 h3 h4=>by
       have up:∀ a,m-(q+1)<=a->a<m+1->Le lt p a m:=fun a h1 h2=>by
        by_cases q1:a=m
        .rw[q1];exact Le.rf O hn h _
        .exact Le.tr O hn h (e a (m-1) h1 'd' 'd' 'd') x
       have dn:∀ a,m-(q+1)<=a->a<m+1->Le lt p m a:=fun a h1 h2=>by
        by_cases q1:a=m
        .rw[q1];exact Le.rf O hn h _
        .exact Le.tr O hn h y (e (m-1) a 'd' 'd' h1 'd')
       exact Le.tr O hn h (up a 'd' h2) (dn b 'd' h4))
    exact ⟨p'',m',q',e1,e2,e3,by omega,e5,e6,e7⟩
theorem zeF (O:Ord n lt) (hn:0<n) {p:Array Nat} (h:Pm n p) {m:Nat} (h1:1<=m) (h2:m<=n) (d:Dn lt p m):Pm n (xW lt (PySem.W.kas_tail3 m n p)).2/\Up lt (xW lt (PySem.W.kas_tail3 m n p)).2 (xW lt (PySem.W.kas_tail3 m n p)).1/\(xW lt (PySem.W.kas_tail3 m n p)).1<=n:=by
 unfold PySem.W.kas_tail3;rw[vB];obtain ⟨r1,r2,r3,r4⟩:=zer O hn (h.rev 0 m) (n-m) m h1 (zoD h h2 d);exact ⟨h.rev 0 m,r1,by show xW lt _<=n;omega⟩
theorem zfn (O:Ord n lt) (hn:0<n) {p:Array Nat} (h:Pm n p) {m:Nat} (h1:1<=m) (h2:m<n) (d:Dn lt p (m+1)):Pm n (xW lt (PySem.W.kas_descPart m n p)).2/\Up lt (xW lt (PySem.W.kas_descPart m n p)).2 (xW lt (PySem.W.kas_descPart m n p)).1/\(xW lt (PySem.W.kas_descPart m n p)).1<=n:=by
 unfold PySem.W.kas_descPart;rw[vB]
 obtain ⟨p',m',q',e1,e2,e3,e4,e5,e6,e7⟩:=zbU O hn (n-(m+1)) p (m+1) 0 h 'd' 'd' 'd' d (fun a b h1 h2 h3 h4=>by
  obtain rfl:a=m:=by omega
  obtain rfl:b=a:=by omega
  exact Le.rf O hn h _)
 rw[e1];dsimp only
 split
 .exact zeF O hn (e2.rev _ _) e3 'd' (zk2 O hn e2 'd' e6 e7)
 .exact zeF O hn e2 e3 'd' e6
theorem ziu (O:Ord n lt) (hn:0<n) {p:Array Nat} (h:Pm n p):Pm n (xW lt (PySem.W.kas_count n p)).2/\Up lt (xW lt (PySem.W.kas_count n p)).2 (xW lt (PySem.W.kas_count n p)).1/\(xW lt (PySem.W.kas_count n p)).1<=n:=by
 unfold PySem.W.kas_count;rw[vB];obtain ⟨r1,r2,r3,r4⟩:=zer O hn h (n-1) 1 (zzR _) (fun a b ab bm=>by omega);generalize xW lt (PySem.W.kas_asc p (n-1) 1)=m at r1 r2 r3 r4
 split
 .exact ⟨h,r1,by show m<=n;omega⟩
 .rename_i hne;have hne:m≠n:=by simpa using hne
  have c:=r4 'd';have x:=Le.of O hn h c
  split
  .rename_i hm;show (fun x:Nat×Array Nat=>Pm n x.2/\Up lt x.2 x.1/\x.1<=n) (xW lt (if lt (p.getD 0 0) (p.getD (m-1) 0)=true then PySem.W.KasT.ret (m,p) else PySem.W.kas_descPart m n (PySem.W.kas_rev p 0 m)))
   cases c':lt (p.getD 0 0) (p.getD (m-1) 0) with
   |true =>
    simp only[if_true];exact ⟨h,r1,by show m<=n;omega⟩
   |false =>
    simp only[if_false,zzB];have y:Le lt p (m-1) 0:=c'
    have ev:Ev lt p 0 m:=fun a b _ ha _ hb=>by
     have z1:Le lt p a (m-1):=by
      by_cases q:a=m-1
      .rw[q];exact Le.rf O hn h _
      .exact r1 a (m-1) 'd' 'd'
     have z2:Le lt p 0 b:=by
      by_cases q:b=0
      .rw[q];exact Le.rf O hn h _
      .exact r1 0 b 'd' hb
     exact Le.tr O hn h (Le.tr O hn h z1 y) z2
    refine zfn O hn (h.rev _ _) r2 'd' fun a b ab bm=>?_;have hz:m<=p.size:=by rw[h.size];omega
    unfold Le;rw[pT hz,pT hz,if_pos ⟨Zg _,by omega⟩]
    by_cases hb:b<m
    .rw[if_pos ⟨Zg _,hb⟩];exact ev _ _ (Zg _) 'd' (Zg _) 'd'
    .rw[if_neg 'd'];obtain rfl:b=m:=by omega
     exact Le.tr O hn h x (ev _ _ (Zg _) 'd' (Zg _) 'd')
  .refine zfn O hn h r2 'd' fun a b ab bm=>?_;obtain rfl:m=1:=by omega
   obtain rfl:b=1:=by omega
   obtain rfl:a=0:=by omega
   exact x
theorem dC (O:Ord n lt) (hn:0<n) {p:Array Nat} (h:Pm n p) {k:Nat} (u:Up lt p k):∀ f l r,r<=l+f->r<=k->l<=k->(∀ a,a<l->Le lt p a k)->(∀ a,r<=a->a<k->lt (p.getD k 0) (p.getD a 0)=true) ->
  xW lt (PySem.W.kas_place p k f l r)<=k/\(∀ a,a<xW lt (PySem.W.kas_place p k f l r)->Le lt p a k)/\(∀ a,xW lt (PySem.W.kas_place p k f l r)<=a->a<k->lt (p.getD k 0) (p.getD a 0)=true)
 | 0,l,r,hf,hr,hl,lo,hi=>⟨hl,lo,fun a h1 h2=>hi a (by show r<=a;have:l<=a:=h1;omega) h2⟩
 |f+1,l,r,hf,hr,hl,lo,hi=>by
  by_cases c0:l>=r
  .have e:PySem.W.kas_place p k (f+1) l r=.ret l:=if_pos c0;rw[e];exact ⟨hl,lo,fun a h1 h2=>hi a (by show r<=a;have:l<=a:=h1;omega) h2⟩
  .have e:xW lt (PySem.W.kas_place p k (f+1) l r)=xW lt (if lt (p.getD k 0) (p.getD ((l+r) / 2) 0)=true then PySem.W.kas_place p k f l ((l+r) / 2) else PySem.W.kas_place p k f ((l+r) / 2+1) r):=by
    show xW lt (if l>=r then _ else _)=_;rw[if_neg c0];rfl
   rw[e]
   cases c:lt (p.getD k 0) (p.getD ((l+r) / 2) 0) with
   |true =>
    simp only[if_true];refine dC O hn h u f l ((l+r) / 2) 'd' 'd' hl lo fun a h1 h2=>?_
    cases q:lt (p.getD k 0) (p.getD a 0) with
    |true=>rfl
    |false =>
     have z:Le lt p ((l+r) / 2) a:=by
      by_cases q1:a=(l+r) / 2
      .rw[q1];exact Le.rf O hn h _
      .exact u _ _ 'd' h2
     have:=Le.tr O hn h z (show Le lt p a k from q);rw[show lt (p.getD k 0) (p.getD ((l+r) / 2) 0)=false from this] at c;cases c
   |false =>
    simp only[if_false,zzB];refine dC O hn h u f ((l+r) / 2+1) r 'd' hr 'd' (fun a ha=>?_) hi
    have z:Le lt p a ((l+r) / 2):=by
     by_cases q1:a=(l+r) / 2
     .rw[q1];exact Le.rf O hn h _
     .exact u _ _ 'd' 'd'
    exact Le.tr O hn h z c
theorem zfu (O:Ord n lt) (hn:0<n):∀ f (p:Array Nat) k,Pm n p->k+f<=n->Up lt p k->Up lt (xW lt (PySem.W.kas_bin f p k)) (k+f)
 | 0,p,k,h,hk,u=>u
 |f+1,p,k,h,hk,u=>by
  show Up lt (xW lt ((PySem.W.kas_place p k k 0 k).bind _)) _;rw[vB];obtain ⟨r1,r2,r3⟩:=dC O hn h u k 0 k 'd' (zzR _) (Zg _) (fun a h=>absurd h (ZbZ _)) (fun a h1 h2=>by omega);generalize xW lt (PySem.W.kas_place p k k 0 k)=l at r1 r2 r3;rw[show k+(f+1)=(k+1)+f by omega];refine zfu O hn f _ (k+1) ((bubble_perm p k _).trans h) 'd' fun a b ab bm=>?_;have hz:k<p.size:=by rw[h.size];omega
  unfold Le;rw[zk8 hz r1,zk8 hz r1]
  by_cases ha:a=l
  .rw[if_pos ha,if_neg 'd',if_pos 'd'];exact Le.of O hn h (r3 (b-1) 'd' 'd')
  .rw[if_neg ha]
   by_cases hb:b=l
   .rw[if_pos hb,if_neg 'd'];exact r2 a 'd'
   .rw[if_neg hb]
    by_cases ha':l<a/\a<=k
    .rw[if_pos ha',if_pos 'd'];exact u _ _ 'd' 'd'
    .rw[if_neg ha']
     by_cases hb':l<b/\b<=k
     .rw[if_pos hb']
      by_cases q:a=b-1
      .exact absurd q 'd'
      .exact u _ _ 'd' 'd'
     .rw[if_neg hb'];exact u a b ab 'd'
theorem zi9 (O:Ord n lt) (hn:0<n):Up lt (xW lt (PySem.W.kas_sort n)) n:=by
 unfold PySem.W.kas_sort;rw[vB];obtain ⟨r1,r2,r3⟩:=ziu O hn (p:=List.toArray (List.range n)) (Array.Perm.refl _);generalize xW lt (PySem.W.kas_count n (List.toArray (List.range n)))=r at r1 r2 r3
 split
 .rename_i c
  have z:Up lt r.2 (max r.1 1):=fun a b ab bm=>by
   by_cases q:r.1=0
   .exact absurd bm (by rw[q];omega)
   .exact r2 a b ab 'd'
  have:=zfu O hn (n-max r.1 1) r.2 (max r.1 1) r1 'd' z;rw[show max r.1 1+(n-max r.1 1)=n by omega] at this;exact this
 .rename_i c;intro a b ab bm;exact r2 a b ab 'd'
theorem zlo (O:Ord n lt):(srtP n lt).Pairwise fun a b=>lt b a=false:=by
 unfold srtP
 split
 .rename_i h
  match n,h with
  | 0,_=>exact .nil
  | 1,_=>exact ZY _ _
 .rename_i h;have hn:0<n:=by omega
  have u:=zi9 O hn;have hp:Pm n (xW lt (PySem.W.kas_sort n)):=zd9 lt (zdz hn);refine List.pairwise_iff_getElem.mpr fun i j hi hj ij=>?_;have hi':i<(xW lt (PySem.W.kas_sort n)).size:=by simpa using hi
  have hj':j<(xW lt (PySem.W.kas_sort n)).size:=by simpa using hj
  have:=u i j ij (by rw[← hp.size];exact hj');unfold Le at this;simpa[Array.getD,hi',hj'] using this
end
mutual
def st:W->Bool
 | .str _=>true
 | .tup ws=>decide (ws.length<=1000)&&qA ws
 |_=>false
def qA:List W->Bool
 | []=>true
 |w::ws=>st w&&qA ws
end
theorem tN {ws:List W}:st (.tup ws)=true↔ws.length<=1000/\qA ws=true:=by simp only[st,Zp,decide_eq_true_eq]
theorem xK {w:W} {ws:List W}:qA (w::ws)=true↔st w=true/\qA ws=true:=by simp only[qA,Zp]
theorem xX:∀ {ws:List W} {w:W},qA ws=true->w∈ws->st w=true
 |x::ws,w,h,hw=>by
  have h:=xK.mp h;rcases Zk.mp hw with rfl|hw
  .exact h.1
  .exact xX h.2 hw
theorem mF:∀ {ws:List W},(∀ w∈ws,st w=true)->qA ws=true
 | [],_=>rfl
 |w::ws,h=>xK.mpr ⟨h w zzT,mF fun x hx=>h x (Zd _ hx)⟩
theorem znj:∀ w:W,st w=true->pur w=true:=by
 intro w
 induction w using W.ind with
 |tup ws ih =>
  intro h;show yP ws=true;replace h:qA ws=true:=(tN.mp h).2
  induction ws with
  |nil=>rfl
  |cons x xs ih' =>
   have h':=xK.mp h;exact xV.mpr ⟨ih x zzT h'.1,ih' (fun w hw=>ih w (Zd _ hw)) h'.2⟩
 |str _=>intro _;rfl
 |non=>intro h;cases h
 |bl _=>intro h;cases h
 |int _=>intro h;cases h
 |ty _=>intro h;cases h
 |ref _=>intro h;cases h
 |lsf _=>intro h;cases h
 |exc _ _ _=>intro h;cases h
 |dcf _ _=>intro h;cases h
theorem zgH:∀ a b:W,st a=true->yQ a b=true->a=b:=by
 intro a
 induction a using W.ind with
 |tup xs ih =>
  intro b h e
  cases b with
  |tup ys =>
   replace h:qA xs=true:=(tN.mp h).2;replace e:jU xs ys=true:=e;congr 1
   induction xs generalizing ys with
   |nil=>cases ys with
    |nil=>rfl
    |cons _ _=>cases e
   |cons x xs ih'=>cases ys with
    |nil=>cases e
    |cons y ys =>
     have h':=xK.mp h;simp only[jU,Zp] at e;rw[ih x zzT y h'.1 e.1,ih' (fun w hw=>ih w (Zd _ hw)) ys h'.2 e.2]
  |_=>cases e
 |str x =>
  intro b h e
  cases b with
  |str y=>rw[eq_of_beq (show (x==y)=true from e)]
  |_=>cases e
 |non=>intro _ h;cases h
 |bl _=>intro _ h;cases h
 |int _=>intro _ h;cases h
 |ty _=>intro _ h;cases h
 |ref _=>intro _ h;cases h
 |lsf _=>intro _ h;cases h
 |exc _ _ _=>intro _ h;cases h
 |dcf _ _=>intro _ h;cases h
theorem zlm {a b:W} (ha:st a=true) (h:a≠b):yQ a b=false:=by
 cases e:yQ a b with
 |false=>rfl
 |true=>exact absurd (zgH a b ha e) h
theorem zi4 {a:W} (ha:st a=true):yQ a a=true:=fD (znj a ha)
theorem sU {x:W} {xs ys:List W} (hx:st x=true):vP (x::xs) (x::ys)=vP xs ys:=by simp only[vP,zi4 hx,if_true]
theorem jR {x y:W} {xs ys:List W} (hx:st x=true) (h:x≠y):vP (x::xs) (y::ys)=tY x y:=by
 simp only[vP];rw[zlm hx h];exact if_neg 'c'
theorem zlk {x y:Str} (h:x.cps.toList=y.cps.toList):x=y:=by
 obtain ⟨⟨a⟩⟩:=x;obtain ⟨⟨b⟩⟩:=y;cases (show a=b from h);rfl
theorem zhD:∀ a:W,st a=true->tY a a=some false:=by
 intro a
 induction a using W.ind with
 |tup xs ih =>
  intro h;show vP xs xs=some false;replace h:qA xs=true:=(tN.mp h).2
  induction xs with
  |nil=>rfl
  |cons x xs ih' =>
   have h':=xK.mp h;rw[sU h'.1];exact ih' (fun w hw=>ih w (Zd _ hw)) h'.2
 |str x=>intro _;simp[tY]
 |non=>intro h;cases h
 |bl _=>intro h;cases h
 |int _=>intro h;cases h
 |ty _=>intro h;cases h
 |ref _=>intro h;cases h
 |lsf _=>intro h;cases h
 |exc _ _ _=>intro h;cases h
 |dcf _ _=>intro h;cases h
theorem zjI:∀ a b:W,st a=true->st b=true->tY a b=some true->tY b a=some false:=by
 intro a
 induction a using W.ind with
 |tup xs ih =>
  intro b h hb e
  cases b with
  |tup ys =>
   replace h:qA xs=true:=(tN.mp h).2;replace hb:qA ys=true:=(tN.mp hb).2;replace e:vP xs ys=some true:=e;show vP ys xs=some false
   induction xs generalizing ys with
   |nil=>cases ys with
    |nil=>cases e
    |cons _ _=>rfl
   |cons x xs ih'=>cases ys with
    |nil=>cases e
    |cons y ys =>
     have h':=xK.mp h;have hb':=xK.mp hb
     by_cases q:x=y
     .subst q;rw[sU h'.1] at e ⊢;exact ih' (fun w hw=>ih w (Zd _ hw)) ys h'.2 hb'.2 e
     .rw[jR h'.1 q] at e;rw[jR hb'.1 (Ne.symm q)];exact ih x zzT y h'.1 hb'.1 e
  |_=>cases e
 |str x =>
  intro b _ hb e
  cases b with
  |str y =>
   simp only[tY,ZbM,decide_eq_true_eq,decide_eq_false_iff_not] at e ⊢;exact List.lt_asymm e
  |_=>cases e
 |non=>intro _ h;cases h
 |bl _=>intro _ h;cases h
 |int _=>intro _ h;cases h
 |ty _=>intro _ h;cases h
 |ref _=>intro _ h;cases h
 |lsf _=>intro _ h;cases h
 |exc _ _ _=>intro _ h;cases h
 |dcf _ _=>intro _ h;cases h
theorem zn3:∀ a b:W,st a=true->st b=true->tY a b=some false->a=b\/tY b a=some true:=by
 intro a
 induction a using W.ind with
 |tup xs ih =>
  intro b h hb e
  cases b with
  |tup ys =>
   replace h:qA xs=true:=(tN.mp h).2;replace hb:qA ys=true:=(tN.mp hb).2;replace e:vP xs ys=some false:=e;show W.tup xs=W.tup ys\/vP ys xs=some true;rw[W.tup.injEq]
   induction xs generalizing ys with
   |nil=>cases ys with
    |nil=>exact .inl rfl
    |cons _ _=>cases e
   |cons x xs ih'=>cases ys with
    |nil=>exact .inr rfl
    |cons y ys =>
     have h':=xK.mp h;have hb':=xK.mp hb
     by_cases q:x=y
     .subst q;rw[sU h'.1] at e ⊢;rcases ih' (fun w hw=>ih w (Zd _ hw)) ys h'.2 hb'.2 e with r|r
      .exact .inl (by rw[r])
      .exact .inr r
     .rw[jR h'.1 q] at e;rw[jR hb'.1 (Ne.symm q)];rcases ih x zzT y h'.1 hb'.1 e with r|r
      .exact absurd r q
      .exact .inr r
  |_=>cases e
 |str x =>
  intro b _ hb e
  cases b with
  |str y =>
   simp only[tY,ZbM,decide_eq_true_eq,decide_eq_false_iff_not] at e ⊢
   by_cases q:y.cps.toList<x.cps.toList
   .exact .inr q
   .exact .inl (by rw[zlk (List.le_antisymm (List.not_lt.mp q) (List.not_lt.mp e))])
  |_=>cases e
 |non=>intro _ h;cases h
 |bl _=>intro _ h;cases h
 |int _=>intro _ h;cases h
 |ty _=>intro _ h;cases h
 |ref _=>intro _ h;cases h
 |lsf _=>intro _ h;cases h
 |exc _ _ _=>intro _ h;cases h
 |dcf _ _=>intro _ h;cases h
theorem lt_tr:∀ a b c:W,st a=true->st b=true->st c=true->tY a b=some true->tY b c=some true->tY a c=some true:=by
 intro a
 induction a using W.ind with
 |tup xs ih =>
  intro b c h hb hc e e'
  cases b with
  |tup ys=>cases c with
   |tup zs =>
    replace h:qA xs=true:=(tN.mp h).2;replace hb:qA ys=true:=(tN.mp hb).2;replace hc:qA zs=true:=(tN.mp hc).2;replace e:vP xs ys=some true:=e;replace e':vP ys zs=some true:=e';show vP xs zs=some true
    induction xs generalizing ys zs with
    |nil=>cases zs with
     |nil=>cases ys<;>cases e'
     |cons _ _=>rfl
    |cons x xs ih'=>cases ys with
     |nil=>cases e
     |cons y ys=>cases zs with
      |nil=>cases e'
      |cons z zs =>
       have h':=xK.mp h;have hb':=xK.mp hb;have hc':=xK.mp hc
       by_cases q:x=y
       .subst q;rw[sU h'.1] at e
        by_cases q':x=z
        .subst q';rw[sU h'.1] at e' ⊢;exact ih' (fun w hw=>ih w (Zd _ hw)) ys zs h'.2 hb'.2 hc'.2 e e'
        .rw[jR h'.1 q'] at e' ⊢;exact e'
       .rw[jR h'.1 q] at e
        by_cases q':y=z
        .subst q';rw[jR h'.1 q];exact e
        .rw[jR hb'.1 q'] at e'
         by_cases q2:x=z
         .subst q2;rw[zjI y x hb'.1 h'.1 e'] at e;cases e
         .rw[jR h'.1 q2];exact ih x zzT y z h'.1 hb'.1 hc'.1 e e'
   |_=>cases e'
  |_=>cases e
 |str x =>
  intro b c _ hb hc e e'
  cases b with
  |str y=>cases c with
   |str z =>
    simp only[tY,ZbM,decide_eq_true_eq] at e e' ⊢;exact List.lt_trans e e'
   |_=>cases e'
  |_=>cases e
 |non=>intro _ _ h;cases h
 |bl _=>intro _ _ h;cases h
 |int _=>intro _ _ h;cases h
 |ty _=>intro _ _ h;cases h
 |ref _=>intro _ _ h;cases h
 |lsf _=>intro _ _ h;cases h
 |exc _ _ _=>intro _ _ h;cases h
 |dcf _ _=>intro _ _ h;cases h
def Can (ws:List W):Prop:=∀ x∈ws,∀ y∈ws,(tY x y).isSome=true
abbrev xB (ws:List W):Prop:=ws.Pairwise fun x y=>tY x y=some true
theorem sT {x y:W} (hx:st x=true) (hy:st y=true) (h:(tY x y).isSome=true) (e:ltB x y=false):x=y\/tY y x=some true:=by
 unfold ltB at e
 cases q:tY x y with
 |none=>rw[q] at h;cases h
 |some b =>
  rw[q] at e;cases (show b=false from e);exact zn3 x y hx hy q
theorem zkR {x y:W} (hx:st x=true) (hy:st y=true) (h:x=y\/tY y x=some true):ltB x y=false:=by
 unfold ltB;rcases h with rfl|h
 .rw[zhD x hx];rfl
 .rw[zjI y x hy hx h];rfl
theorem znR {ws:List W} (hs:qA ws=true) (hc:Can ws):Ord ws.length fun i j=>ltB (ws.getD i .non) (ws.getD j .non):=by
 have mem:∀ a,a<ws.length->ws.getD a .non∈ws:=fun a h=>by
  rw[Z1,Zf h];exact ZB h
 constructor
 .intro a b c ha hb hc' h1 h2;have sa:=xX hs (mem a ha);have sb:=xX hs (mem b hb);have sc:=xX hs (mem c hc');have q1:=sT sb sa (hc _ (mem b hb) _ (mem a ha)) h1;have q2:=sT sc sb (hc _ (mem c hc') _ (mem b hb)) h2;refine zkR sc sa ?_;rcases q1 with q1|q1
  .rw[q1] at q2;exact q2
  .rcases q2 with q2|q2
   .rw[q2];exact .inr q1
   .exact .inr (lt_tr _ _ _ sa sb sc q1 q2)
 .intro a b ha hb h;have sa:=xX hs (mem a ha);have sb:=xX hs (mem b hb);refine zkR sb sa (.inr ?_);have h:ltB (ws.getD a .non) (ws.getD b .non)=true:=h;unfold ltB at h
  cases q:tY (ws.getD a .non) (ws.getD b .non) with
  |none=>rw[q] at h;cases h
  |some v=>rw[q] at h;rw[show v=true from h]
theorem zgJ {ws:List W} (hs:qA ws=true) (hc:Can ws):(srt ws).Pairwise fun x y=>ltB y x=false:=ZbJ.mpr (zlo (znR hs hc))
theorem zba {xs ys:List W} (h:xs.Perm ys) (e:qA ys=true):qA xs=true:=mF fun w hw=>xX e (h.mem_iff.mp hw)
theorem zgD {ws:List W} (hs:qA ws=true) (hc:Can ws) (u:ws.Pairwise fun x y=>ltB y x=false) (nd:ws.Nodup):xB ws:=by
 refine (List.Pairwise.and u nd).imp_of_mem fun {x y} hx hy h=>?_;rcases sT (xX hs hy) (xX hs hx) (hc y hy x hx) h.1 with e|e
 .exact absurd e.symm h.2
 .exact e
theorem Can.sub {xs ys:List W} (h:Can ys) (m:∀ x∈xs,x∈ys):Can xs:=fun x hx y hy=>h x (m x hx) y (m y hy)
theorem zaw {ws:List W} (hs:qA ws=true) (hc:Can ws) (nd:ws.Nodup):xB (srt ws) :=
 zgD (zba (xR ws) hs) (hc.sub fun x hx=>(xR ws).mem_iff.mp hx) (zgJ hs hc) ((xR ws).nodup_iff.mpr nd)
theorem only:∀ {xs ys:List W},qA xs=true->qA ys=true->xB xs->xB ys->(∀ w,w∈xs↔w∈ys)->xs=ys
 | [],[],_,_,_,_,_=>rfl
 | [],y::_,_,_,_,_,h=>nomatch (h y).mpr zzT
 |x::_,[],_,_,_,_,h=>nomatch (h x).mp zzT
 |x::xs,y::ys,sx,sy,px,py,h=>by
  have sx':=xK.mp sx;have sy':=xK.mp sy;have px':=Za3.mp px;have py':=Za3.mp py;have irr:∀ {z:W},st z=true->tY z z≠some true:=fun hz e=>by rw[zhD _ hz] at e;cases e
  have e:x=y:=by
   rcases Zk.mp ((h x).mp zzT) with e|hx
   .exact e
   .rcases Zk.mp ((h y).mpr zzT) with e|hy
    .exact e.symm
    .have q:=px'.1 y hy;rw[zjI y x sy'.1 sx'.1 (py'.1 x hx)] at q;cases q
  subst e;rw[only sx'.2 sy'.2 px'.2 py'.2 fun w=>⟨fun hw=>?_,fun hw=>?_⟩]
  .rcases Zk.mp ((h w).mp (Zd _ hw)) with e|hw'
   .exact absurd (e▸px'.1 w hw) (irr sx'.1)
   .exact hw'
  .rcases Zk.mp ((h w).mpr (Zd _ hw)) with e|hw'
   .exact absurd (e▸py'.1 w hw) (irr sx'.1)
   .exact hw'
theorem zi7 {xs ys:List W} (hs:qA xs=true) (hc:Can xs) (nd:xs.Nodup) (sy:qA ys=true) (py:xB ys) (h:∀ w,w∈ys↔w∈xs):srt xs=ys :=
 only (zba (xR xs) hs) sy (zaw hs hc nd) py fun w=>(xR xs).mem_iff.trans (h w).symm
def uni (a b:List W):List W:=srt ((a.filter fun w=>!(b.any fun z=>yQ z w))++b)
theorem ziJ {b:List W} {w:W} (hb:qA b=true):(b.any fun z=>yQ z w)=true↔w∈b:=by
 rw[ZaU]
 constructor
 .rintro ⟨z,hz,e⟩;rw[← zgH z w (xX hb hz) e];exact hz
 .intro h;exact ⟨w,h,zi4 (xX hb h)⟩
theorem zgt {a b:List W} (hb:qA b=true) (w:W):w∈(a.filter fun w=>!(b.any fun z=>yQ z w))++b↔w∈a++b:=by
 simp only[Zm,ZX]
 constructor
 .rintro (h|h)
  .exact .inl h.1
  .exact .inr h
 .rintro (h|h)
  .by_cases q:w∈b
   .exact .inr q
   .refine .inl ⟨h,?_⟩
    cases e:b.any fun z=>yQ z w with
    |false=>rfl
    |true=>exact absurd ((ziJ hb).mp e) q
  .exact .inr h
theorem zmZ {a b:List W} (hb:qA b=true) (na:a.Nodup) (nb:b.Nodup):((a.filter fun w=>!(b.any fun z=>yQ z w))++b).Nodup:=by
 refine List.nodup_append.mpr ⟨na.filter _,nb,?_⟩;intro x hx y hy e;subst e;have:=(ZX.mp hx).2;rw[(ziJ hb).mpr hy] at this;cases this
theorem zce {ws:List W} (hs:qA ws=true) (p:xB ws):ws.Nodup:=p.imp_of_mem fun {x y} hx _ q e=>by
 subst e;rw[zhD x (xX hs hx)] at q;cases q
theorem zle {a:List W} (ha:qA a=true) (hc:Can a) (pa:xB a):uni a []=a:=by
 have e:(a.filter fun w=>!(([]:List W).any fun z=>yQ z w))++[]=a:=by simp
 unfold uni;rw[e];exact zi7 ha hc (zce ha pa) ha pa fun w=>Iff.rfl
theorem ziT {a b:List W} (hb:qA b=true) (w:W):w∈uni a b↔w∈a++b:=((xR _).mem_iff).trans (zgt hb w)
end L3
namespace K49
open PySem PySem.Spec L2 L3
def tF (i:Nat):Stmt:=PySem.Challenge.pw_talkcourt_k49_choices.main.body.getD i (.Pass ⟨0,0,0,0⟩)
def gls:List Str:=["WORDS", "JOINED", "tuple", "joined_by"]
def mts:List Str:=["pop", "join", "append", "get", "extend", "remove"]
def its:List Str:=["range"]
def sxm:List (Scope->Expr->Option (List Expr)):=[lofM "reversed", rvM,hcM "sides_of"]
noncomputable def fns:List Str:=(["max", "len", "all", "list", "isinstance", "any", "sorted", "tuple", "int", "sum", "_law_deal", "_law_draw", "_law_names", "_law_saying", "Book", "_law_book", "_law_word", "_law_condition", "_law_deed", "_law_count"]:List Str)++(["_law_program", "_law_start", "_law_answers", "_law_words", "_law_says", "_law_moves", "sorted_once", "answers_to", "may_say", "answering_moves", "doubts_of", "said_by", "doubting_moves", "moves", "told_by", "replies", "is_done", "played_by", "all_within", "joined_by"]:List Str)++(["holds_of_move", "single_holds", "holds", "choice", "_law_holds", "_law_step", "_law_choice", "_law_replies", "_law_right", "_law_parts", "_law_after", "law"]:List Str)
noncomputable def mC (s:Stmt) (N:List Str) (k:Nat):MC:=⟨zD s,N,fun _=>true,fns.take k,gls,mts,its,sxm,[]⟩
abbrev uS:Stmt:=tF 27
def zaH:List Str:=["_law_script", "_law_base", "_law_cells", "_law_number", "_law_cell"]
noncomputable def zgi:ISs:={.asg 2 (.lc (.nm 0) ["_law_cell"] [] (.val (.sl 'h' (.yes (.var 1)) (.yes 63⁻¹))) .no (.call 0 {.var 0,.bin .Sub 0⁻¹ 'h'})),.asg 3 (.bin .Add 7919⁻¹ (.var 1)),.for (.nm 4) (.val (.var 2)) {.asg 3 (.bin .Mod (.bin .Add (.bin .Mult (.var 3) 69621⁻¹) (.bin .Mod (.var 4) 2147483629⁻¹)) 2147483647⁻¹)},.ret (.dct ["seed", "number", "left"] {.var 3,0⁻¹,.spc 0 {.lc (.nm 0) ["_law_cell"] [] (.val (.var 2)) (.yes (.cmp .GtE 'h' (.bin .Pow 10⁻¹ 18⁻¹))) 'h'}})}
def zaT:MC:=mC uS zaH 10
theorem zdI:FnScope zaH ["_law_script", "_law_base"] (zD uS):='a'
theorem zbQ:qV zgi zaT (yZ uS)=true:=by decide +kernel
abbrev uU:Stmt:=tF 28
def zaG:List Str:=["_law_deal_here", "_law_many", "_law_number", "_law_one", "_law_other"]
noncomputable def zgh:ISs:={.whl (.and (.cmp .Eq (.ix 'h' "number"⁻¹) 0⁻¹) (.cmp .Gt (.call 1 {.ix 'h' "left"⁻¹}) 0⁻¹)) {.asgI 'h' "number"⁻¹ (.mth 0 (.ix 'h' "left"⁻¹) .nil)},.asg 2 (.ix 'h' "number"⁻¹),.ite (.cmp .Gt (.var 2) 0⁻¹) {.asgI 'h' "number"⁻¹ (.bin .FloorDiv (.var 2) (.var 1)),.ret (.bin .Mod (.var 2) (.var 1))} .nil,.asg 3 (.bin .Mod (.bin .Add (.bin .Mult (.ix 'h' "seed"⁻¹) 48271⁻¹) 7919⁻¹) 2147483647⁻¹),.asgI 'h' "seed"⁻¹ (.bin .Mod (.bin .Add (.bin .Mult (.var 3) 40692⁻¹) 104729⁻¹) 2147483399⁻¹),.asg 4 (.bin .Mod (.bin .Mult (.ix 'h' "seed"⁻¹) (.ix 'h' "seed"⁻¹)) 2147483563⁻¹),.ret (.bin .Mod (.bin .Add (.bin .Mult (.bin .Mod (.bin .Mult (.var 3) (.var 3)) 2147483629⁻¹) 2147483563⁻¹) (.var 4)) (.var 1))}
def zaR:MC:=mC uU zaG 11
theorem zdG:FnScope zaG ["_law_deal_here", "_law_many"] (zD uU):='a'
theorem zbO:qV zgh zaR (yZ uU)=true:=by decide +kernel
abbrev kD:Stmt:=tF 29
noncomputable def pH:List Str:=["_law_deal_here", "_law_many", "_law_letters", "_law_names_here", "_law_core", "_law_at", "_law_turn", "_law_k", "_law_name"]
noncomputable def jT:ISs:={.asg 2 "abcdefghijklmnopqrstuvwxyz"⁻¹,.asg 3 (.lst .nil),.asg 4 (.mth 1 ""⁻¹ {.lc (.nm 0) ["_law_k"] [2,0] (.blt 0 {.call 11 {.var 0,5⁻¹}}) .no (.ix (.var 1) (.call 11 {.var 2,26⁻¹}))}),.asg 5 (.call 11 {.var 0,.bin .Add (.call 1 {.var 4}) 1⁻¹}),.asg 6 (.call 11 {.var 0,26⁻¹}),.for (.nm 7) (.blt 0 {.var 1}) {.asg 8 (.bin .Add (.bin .Add (.sl (.var 4) .no (.yes (.var 5))) (.ix (.var 2) (.bin .Mod (.bin .Add (.var 6) (.bin .Mult 7⁻¹ (.var 7))) 26⁻¹))) (.sl (.var 4) (.yes (.var 5)) .no)),.ite (.cmp .In (.var 8) (.tup {"and"⁻¹,"or"⁻¹,"not"⁻¹,"then"⁻¹})) {.asg 8 (.bin .Add (.var 8) "q"⁻¹)} .nil,.ex (.mth 2 (.var 3) {.var 8})},.ite (.and (.cmp .Gt (.var 1) 1⁻¹) (.cmp .Eq (.call 11 {.var 0,2⁻¹}) 1⁻¹)) {.asgI (.var 3) 0⁻¹ (.bin .Add (.ix (.var 3) 0⁻¹) "z"⁻¹)} .nil,.ret (.var 3)}
def bN:MC:=mC kD pH 12
theorem zct:FnScope pH ["_law_deal_here", "_law_many"] (zD kD):='a'
theorem zaq:qV jT bN (yZ kD)=true:=by decide +kernel
abbrev qR:Stmt:=tF 30
def sJ:List Str:=["_law_deal_here", "_law_names_here", "_law_many", "_law_way", "_law_left", "_law_one"]
noncomputable def vE:ISs:={.ite (.cmp .Eq (.var 2) 1⁻¹) {.ret (.tup {"say"⁻¹,.ix (.var 1) (.call 11 {.var 0,.call 1 {.var 1}})})} .nil,.asg 3 (.call 11 {.var 0,4⁻¹}),.ite (.or (.cmp .Eq (.var 2) 2⁻¹) (.cmp .Eq (.var 3) 3⁻¹)) {.ret (.tup {"not"⁻¹,.call 13 {.var 0,.var 1,.bin .Sub (.var 2) 1⁻¹}})} .nil,.asg 4 (.bin .Add 1⁻¹ (.call 11 {.var 0,.bin .Sub (.var 2) 2⁻¹})),.asg 5 (.call 13 {.var 0,.var 1,.var 4}),.ret (.tup {.ix (.lst {"and"⁻¹,"or"⁻¹,"if"⁻¹}) (.var 3),.var 5,.call 13 {.var 0,.var 1,.bin .Sub (.bin .Sub (.var 2) 1⁻¹) (.var 4)}})}
def fO:MC:=mC qR sJ 14
theorem zbn:FnScope sJ ["_law_deal_here", "_law_names_here", "_law_many"] (zD qR):='a'
theorem zac:qV vE fO (yZ qR)=true:=by decide +kernel
abbrev qZ:Stmt:=zmn (tF 25) 0
def gT:List Str:=["self", "answers", "again", "doubts", "speaks", "other"]
noncomputable def rR:ISs:={.asgA 'h' "answers" (.var 1),.asgA 'h' "again" (.var 2),.asgA 'h' "doubts" (.var 3),.asgA 'h' "speaks" (.var 4),.asgA 'h' "other" (.var 5)}
def zaV:MC:=mC qZ gT 14
theorem zdK:FnScope gT ["self", "answers", "again", "doubts", "speaks", "other"] (zD qZ):='a'
theorem zbS:qV rR zaV (yZ qZ)=true:=by decide +kernel
abbrev uR:Stmt:=tF 31
def gU:List Str:=["_law_deal_here", "_law_way", "_law_pick", "_law_answers_here", "_law_again"]
noncomputable def rS:ISs:={.asg 1 (.call 11 {.var 0,4⁻¹}),.ite (.cmp .Eq (.var 1) 0⁻¹) {.ret (.call 14 {"last"⁻¹,"once"⁻¹,"often"⁻¹,"any"⁻¹})} .nil,.ite (.cmp .Eq (.var 1) 1⁻¹) {.ret (.call 14 {"any"⁻¹,"often"⁻¹,"often"⁻¹,"any"⁻¹})} .nil,.asg 2 (.lc (.nm 0) ["_law_k"] [0] (.blt 0 {4⁻¹}) .no (.call 11 {.var 1,2⁻¹})),.asg 3 (.ix (.lst {"last"⁻¹,"any"⁻¹}) (.ix (.var 2) 0⁻¹)),.asg 4 (.ix (.lst {"once"⁻¹,"often"⁻¹}) (.ix (.var 2) 1⁻¹)),.ret (.call 14 {.var 3,.var 4,.ix (.lst {"once"⁻¹,"often"⁻¹}) (.ix (.var 2) 2⁻¹),.ix (.lst {"last"⁻¹,"any"⁻¹}) (.ix (.var 2) 3⁻¹)})}
def zaU:MC:=mC uR gU 15
theorem zdJ:FnScope gU ["_law_deal_here"] (zD uR):='a'
theorem zbR:qV rS zaU (yZ uR)=true:=by decide +kernel
abbrev uX:Stmt:=tF 40
def hG:List Str:=["_law_deal_here", "_law_saying_here", "_law_words_here", "_law_some"]
noncomputable def xD:ISs:={.asg 2 (.dct ["and", "or", "if", "not"] {.lst {"left"⁻¹,"right"⁻¹},.lst {"which"⁻¹},.lst {"if"⁻¹},.lst {"not"⁻¹}}),.asg 3 (.lst {"left"⁻¹,"right"⁻¹,"which"⁻¹,"if"⁻¹,"not"⁻¹}),.ite (.cmp .Gt (.call 11 {.var 0,4⁻¹}) 0⁻¹) {.asg 3 (.mth 3 (.var 2) {.ix (.var 1) 0⁻¹,.var 3})} .nil,.ret (.ix (.var 3) (.call 11 {.var 0,.call 1 {.var 3}}))}
def zaO:MC:=mC uX hG 16
theorem zdD:FnScope hG ["_law_deal_here", "_law_saying_here"] (zD uX):='a'
theorem zbL:qV xD zaO (yZ uX)=true:=by decide +kernel
abbrev wJ:Stmt:=tF 41
def vQ:List Str:=["_law_deal_here", "_law_sayings", "_law_deep", "_law_way", "_law_saying_here", "_law_one", "_law_word_here"]
noncomputable def yH:ISs:={.asg 3 (.call 11 {.var 0,10⁻¹}),.asg 4 (.ix (.var 1) (.call 11 {.var 0,.call 1 {.var 1}})),.ite (.and (.cmp .Gt (.var 3) 6⁻¹) (.cmp .Gt (.var 2) 0⁻¹)) {.asg 5 (.call 17 {.var 0,.var 1,.bin .Sub (.var 2) 1⁻¹}),.ite (.cmp .Eq (.var 3) 9⁻¹) {.ret (.tup {"not"⁻¹,.var 5})} .nil,.ret (.tup {.ix (.lst {"and"⁻¹,"or"⁻¹}) (.bin .Sub (.var 3) 7⁻¹),.var 5,.call 17 {.var 0,.var 1,.bin .Sub (.var 2) 1⁻¹}})} .nil,.ite (.cmp .Lt (.var 3) 2⁻¹) {.ret (.tup {"any"⁻¹})} .nil,.ite (.cmp .Lt (.var 3) 4⁻¹) {.ret (.tup {.ix (.lst {"said"⁻¹,"fresh"⁻¹,"heard"⁻¹}) (.call 11 {.var 0,3⁻¹}),.var 4})} .nil,.asg 6 (.ix (.lst {.call 16 {.var 0,.var 4},"begin"⁻¹}) (.call 8 {.cmp .Eq (.call 11 {.var 0,5⁻¹}) 0⁻¹})),.ret (.tup {.ix (.lst {"open"⁻¹,"used"⁻¹,"asked"⁻¹,"answered"⁻¹}) (.call 11 {.var 0,4⁻¹}),.var 6,.var 4})}
def rM:MC:=mC wJ vQ 18
theorem dE:FnScope vQ ["_law_deal_here", "_law_sayings", "_law_deep"] (zD wJ):='a'
theorem gP:qV yH rM (yZ wJ)=true:=by decide +kernel
abbrev uT:Stmt:=tF 42
def gW:List Str:=["_law_deal_here", "_law_sayings", "_law_way", "_law_saying_here"]
noncomputable def rT:ISs:={.asg 2 (.call 11 {.var 0,6⁻¹}),.asg 3 (.ix (.var 1) (.call 11 {.var 0,.call 1 {.var 1}})),.ite (.cmp .Lt (.var 2) 2⁻¹) {.ret (.tup {"answer"⁻¹,.var 3})} .nil,.ite (.cmp .Eq (.var 2) 2⁻¹) {.ret (.tup {"doubt"⁻¹,.call 16 {.var 0,.var 3},.var 3})} .nil,.ite (.cmp .Eq (.var 2) 3⁻¹) {.ret (.tup {"doubt"⁻¹,.call 16 {.var 0,.var 3}})} .nil,.ret (.tup {"move"⁻¹,.ix (.lst {.call 11 {.var 0,4⁻¹},.call 11 {.var 0,1000⁻¹}}) (.call 11 {.var 0,2⁻¹})})}
def zaS:MC:=mC uT gW 18
theorem zdH:FnScope gW ["_law_deal_here", "_law_sayings"] (zD uT):='a'
theorem zbP:qV rT zaS (yZ uT)=true:=by decide +kernel
abbrev vZ:Stmt:=tF 43
def pE:List Str:=["_law_thing"]
noncomputable def tO:ISs:={.ite (.call 4 {.var 0,.glb 2}) {.ret (.call 9 {.lc (.nm 0) ["_law_part"] [] (.val 'h') .no (.call 19 {.var 0})})} .nil,.ret (.call 8 {.cmp .NotEq 'h' "say"⁻¹})}
def bK:MC:=mC vZ pE 20
theorem zcw:FnScope pE ["_law_thing"] (zD vZ):='a'
theorem zat:qV tO bK (yZ vZ)=true:=by decide +kernel
abbrev jK:Stmt:=tF 44
noncomputable def tJ:List Str:=["_law_deal_here", "_law_sayings", "_law_many", "_law_deep", "_law_rows", "_law_k", "_law_condition_here", "_law_row"]
noncomputable def kQ:ISs:={.asg 4 (.lst .nil),.for (.nm 5) (.blt 0 {.call 11 {.var 0,.bin .Add (.var 2) 1⁻¹}}) {.asg 6 (.call 17 {.var 0,.var 1,.var 3}),.asg 7 (.tup {.var 6,.call 18 {.var 0,.var 1}}),.ite (.cmp .Gt (.call 19 {.var 7}) 55⁻¹) {.asg 7 (.tup {.tup {"any"⁻¹},.tup {"move"⁻¹,.call 11 {.var 0,9⁻¹}}})} .nil,.ex (.mth 2 (.var 4) {.var 7})},.ret (.call 7 {.var 4})}
def mL:MC:=mC jK tJ 20
theorem zai:FnScope tJ ["_law_deal_here", "_law_sayings", "_law_many", "_law_deep"] (zD jK):='a'
theorem cN:qV kQ mL (yZ jK)=true:=by decide +kernel
abbrev kH:Stmt:=tF 38
def pK:List Str:=["_law_saying_here"]
def tR:ISs:={.ret (.tup {.tup .nil,.tup {.tup {"begin"⁻¹,.var 0}},.tup .nil,.tup .nil})}
def bQ:MC:=mC kH pK 21
theorem zcq:FnScope pK ["_law_saying_here"] (zD kH):='a'
theorem zan:qV tR bQ (yZ kH)=true:=by decide +kernel
abbrev jJ:Stmt:=tF 33
def tI:List Str:=["_law_doubt", "_law_word_here", "_law_saying_here", "_law_some"]
noncomputable def yA:ISs:={.asgT {.nm 1,.nm 2} 'h',.ite (.cmp .Eq (.var 1) "begin"⁻¹) {.ret (.lst {.var 2})} .nil,.ite (.cmp .Eq (.var 1) "left"⁻¹) {.ret (.lst {.ix (.var 2) 1⁻¹})} .nil,.ite (.or (.cmp .Eq (.var 1) "right"⁻¹) (.cmp .Eq (.var 1) "if"⁻¹)) {.ret (.lst {.ix (.var 2) 2⁻¹})} .nil,.ite (.cmp .Eq (.var 1) "which"⁻¹) {.asg 3 (.call 6 {.lst {.ix (.var 2) 1⁻¹,.ix (.var 2) 2⁻¹}}),.ret (.sl (.var 3) .no (.yes (.bin .Add 1⁻¹ (.call 8 {.cmp .NotEq (.ix (.var 3) 0⁻¹) (.ix (.var 3) 1⁻¹)}))))} .nil,.ret (.lst .nil)}
def mK:MC:=mC jJ tI 22
theorem zaj:FnScope tI ["_law_doubt"] (zD jJ):='a'
theorem cM:qV yA mK (yZ jJ)=true:=by decide +kernel
abbrev kJ:Stmt:=tF 32
def pL:List Str:=["_law_saying_here"]
noncomputable def tT:ISs:={.ite (.cmp .Eq (.ix 'h' 0⁻¹) "and"⁻¹) {.ret (.lst {"left"⁻¹,"right"⁻¹})} .nil,.ite (.cmp .Eq (.ix 'h' 0⁻¹) "or"⁻¹) {.ret (.lst {"which"⁻¹})} .nil,.ite (.or (.cmp .Eq (.ix 'h' 0⁻¹) "if"⁻¹) (.cmp .Eq (.ix 'h' 0⁻¹) "not"⁻¹)) {.ret (.lst {.ix 'h' 0⁻¹})} .nil,.ret (.lst .nil)}
def bR:MC:=mC kJ pL 23
theorem zcp:FnScope pL ["_law_saying_here"] (zD kJ):='a'
theorem zam:qV tT bR (yZ kJ)=true:=by decide +kernel
abbrev uV:Stmt:=tF 34
def gX:List Str:=["_law_move"]
noncomputable def rV:ISs:={.ite (.cmp .Eq (.ix 'h' 0⁻¹) "answer"⁻¹) {.ret (.ix 'h' 2⁻¹)} .nil,.ite (.or (.cmp .Eq (.ix 'h' 1⁻¹) "if"⁻¹) (.cmp .Eq (.ix 'h' 1⁻¹) "not"⁻¹)) {.ret (.ix (.ix 'h' 2⁻¹) 1⁻¹)} .nil,.ret (.con .none)}
def zaQ:MC:=mC uV gX 24
theorem zdF:FnScope gX ["_law_move"] (zD uV):='a'
theorem zbN:qV rV zaQ (yZ uV)=true:=by decide +kernel
abbrev kB:Stmt:=tF 35
noncomputable def pG:List Str:=["_law_book_here", "_law_standing", "_law_said", "_law_opened", "_law_used", "_law_fresh", "_law_found", "_law_doubt", "_law_answer", "_law_saying_here", "_law_word_here", "_law_good", "_law_move", "_law_says_here"]
noncomputable def yD:ISs:={.asgT {.nm 2,.nm 3,.nm 4,.nm 5} (.var 1),.asg 6 (.lst .nil),.for (.nm 7) (.val (.var 3)) {.for (.nm 8) (.val (.call 22 {.var 7})) {.ex (.mth 2 (.var 6) {.tup {"answer"⁻¹,.var 7,.var 8}})}},.for (.nm 9) (.val (.ix (.lst {.var 2,.var 5}) (.call 8 {.cmp .Eq (.att 'h' "speaks") "last"⁻¹}))) {.for (.nm 10) (.val (.call 23 {.var 9})) {.ite (.or (.cmp .Eq (.att 'h' "doubts") "often"⁻¹) (.cmp .NotIn (.tup {.var 10,.var 9}) (.var 4))) {.ex (.mth 2 (.var 6) {.tup {"doubt"⁻¹,.var 10,.var 9}})} .nil}},.asg 11 (.lst .nil),.for (.nm 12) (.val (.var 6)) {.asg 13 (.call 24 {.var 12}),.ite (.or (.cmp .Is (.var 13) (.con .none)) (.or (.cmp .NotEq (.ix (.var 13) 0⁻¹) "say"⁻¹) (.cmp .In (.var 13) (.var 2)))) {.ex (.mth 2 (.var 11) {.var 12})} .nil},.ret (.call 6 {.var 11})}
def bM:MC:=mC kB pG 25
theorem zcu:FnScope pG ["_law_book_here", "_law_standing"] (zD kB):='a'
theorem zar:qV yD bM (yZ kB)=true:=by decide +kernel
abbrev qT:Stmt:=tF 1
def sL:List Str:=["things", "once", "thing"]
noncomputable def vF:ISs:={.asg 1 (.lst .nil),.for (.nm 2) (.val (.call 6 {.var 0})) {.ite (.or (.not (.var 1)) (.cmp .NotEq (.ix (.var 1) (.neg 1⁻¹)) (.var 2))) {.ex (.mth 2 (.var 1) {.var 2})} .nil},.ret (.var 1)}
def fR:MC:=mC qT sL 26
theorem zbm:FnScope sL ["things"] (zD qT):='a'
theorem zab:qV vF fR (yZ qT)=true:=by decide +kernel
abbrev kM:Stmt:=tF 6
def pN:List Str:=["doubt", "word", "saying"]
noncomputable def xO:ISs:={.asgT {.nm 1,.nm 2} 'h',.ite (.cmp .Eq (.var 1) "begin"⁻¹) {.ret (.lst {.var 2})} .nil,.ite (.cmp .Eq (.var 1) "left"⁻¹) {.ret (.lst {.ix (.var 2) 1⁻¹})} .nil,.ite (.cmp .In (.var 1) (.tup {"right"⁻¹,"if"⁻¹})) {.ret (.lst {.ix (.var 2) 2⁻¹})} .nil,.ite (.cmp .Eq (.var 1) "which"⁻¹) {.ret (.call 26 {.sl (.var 2) (.yes 1⁻¹) .no})} .nil,.ret (.lst .nil)}
def bT:MC:=mC kM pN 27
theorem zcn:FnScope pN ["doubt"] (zD kM):='a'
theorem zak:qV xO bT (yZ kM)=true:=by decide +kernel
abbrev pV:Stmt:=tF 12
def zbD:List Str:=["saying", "said"]
noncomputable def dR:ISs:={.ret (.or (.cmp .Is 'h' (.con .none)) (.or (.cmp .NotEq (.ix 'h' 0⁻¹) "say"⁻¹) (.cmp .In 'h' (.var 1))))}
def ze6:MC:=mC pV zbD 28
theorem zgY:FnScope zbD ["saying", "said"] (zD pV):='a'
theorem zd5:qV dR ze6 (yZ pV)=true:=by decide +kernel
abbrev wV:Stmt:=tF 10
def qC:List Str:=["unanswered", "said", "found", "doubt", "saying"]
noncomputable def jP:ISs:={.asg 2 (.lst .nil),.for (.nm 3) (.val 'h') {.for (.nm 4) (.val (.call 27 {.var 3})) {.ite (.call 28 {.var 4,.var 1}) {.ex (.mth 2 (.var 2) {.tup {"answer"⁻¹,.var 3,.var 4}})} .nil}},.ret (.var 2)}
def sV:MC:=mC wV qC 29
theorem fX:FnScope qC ["unanswered", "said"] (zD wV):='a'
theorem mY:qV jP sV (yZ wV)=true:=by decide +kernel
abbrev uY:Stmt:=tF 5
def hU:List Str:=["saying"]
def rX:ISs:={.ret (.call 3 {.ix (.glb 0) (.ix 'h' 0⁻¹)})}
def zaK:MC:=mC uY hU 30
theorem zdC:FnScope hU ["saying"] (zD uY):='a'
theorem zbK:qV rX zaK (yZ uY)=true:=by decide +kernel
abbrev pY:Stmt:=tF 7
def zbz:List Str:=["doubt", "word", "saying"]
noncomputable def dX:ISs:={.asgT {.nm 1,.nm 2} 'h',.ret (.ite (.cmp .In (.var 1) (.tup {"if"⁻¹,"not"⁻¹})) (.ix (.var 2) 1⁻¹) (.con .none))}
def ze3:MC:=mC pY zbz 31
theorem zgV:FnScope zbz ["doubt"] (zD pY):='a'
theorem zd3:qV dX ze3 (yZ pY)=true:=by decide +kernel
abbrev wK:Stmt:=tF 11
def vR:List Str:=["sayings", "gone", "said", "found", "saying", "word", "doubt"]
noncomputable def jD:ISs:={.asg 3 (.lst .nil),.for (.nm 4) (.val 'h') {.for (.nm 5) (.val (.call 30 {.var 4})) {.asg 6 (.tup {.var 5,.var 4}),.ite (.and (.cmp .NotIn (.var 6) (.var 1)) (.call 28 {.call 31 {.var 6},.var 2})) {.ex (.mth 2 (.var 3) {.tup {"doubt"⁻¹,.var 5,.var 4}})} .nil}},.ret (.var 3)}
def rN:MC:=mC wK vR 32
theorem dG:FnScope vR ["sayings", "gone", "said"] (zD wK):='a'
theorem gQ:qV jD rN (yZ wK)=true:=by decide +kernel
abbrev zcj:Stmt:=tF 9
noncomputable def zhu:List Str:=["book", "standing", "said", "unanswered", "used", "fresh", "sayings", "gone"]
noncomputable def tG:ISs:={.asgT {.nm 2,.nm 3,.nm 4,.nm 5} (.var 1),.asg 6 (.ite (.cmp .Eq (.att 'h' "speaks") "last"⁻¹) (.var 5) (.var 2)),.asg 7 (.ite (.cmp .Eq (.att 'h' "doubts") "once"⁻¹) (.var 4) (.tup .nil)),.ret (.call 6 {.bin .Add (.call 29 {.var 3,.var 2}) (.call 32 {.var 6,.var 7,.var 2})})}
def zkP:MC:=mC zcj zhu 33
theorem zlr:FnScope zhu ["book", "standing"] (zD zcj):='a'
theorem zhH:qV tG zkP (yZ zcj)=true:=by decide +kernel
abbrev pZ:Stmt:=tF 13
def zby:List Str:=["move"]
noncomputable def dY:ISs:={.ret (.ite (.cmp .Eq (.ix 'h' 0⁻¹) "answer"⁻¹) (.ix 'h' 2⁻¹) (.call 31 {.sl 'h' (.yes 1⁻¹) .no}))}
def ze2:MC:=mC pZ zby 34
theorem zgU:FnScope zby ["move"] (zD pZ):='a'
theorem zd2:qV dY ze2 (yZ pZ)=true:=by decide +kernel
abbrev pX:Stmt:=tF 14
def zbA:List Str:=["move", "told", "found"]
noncomputable def uK:ISs:={.asg 1 (.call 34 {.var 0}),.asg 2 (.lst .nil),.ite (.cmp .IsNot (.var 1) (.con .none)) {.ex (.mth 4 (.var 2) {.lc (.nm 0) ["word"] [] (.val (.call 30 {.var 1})) .no (.tup {"doubt"⁻¹,.var 0})})} .nil,.ite (.cmp .Eq (.ix 'h' 0⁻¹) "doubt"⁻¹) {.ex (.mth 4 (.var 2) {.lc (.nm 0) ["saying"] [] (.val (.call 27 {.sl 'h' (.yes 1⁻¹) .no})) .no (.tup {"answer"⁻¹,.var 0})})} .nil,.ret (.call 6 {.var 2})}
def ze4:MC:=mC pX zbA 35
theorem zgX:FnScope zbA ["move"] (zD pX):='a'
theorem zd4:qV uK ze4 (yZ pX)=true:=by decide +kernel
abbrev pU:Stmt:=tF 23
def zbE:List Str:=["deed", "step"]
noncomputable def dQ:ISs:={.ite (.cmp .Eq (.ix 'h' 0⁻¹) "answer"⁻¹) {.ret (.and (.cmp .Eq (.ix (.var 1) 0⁻¹) "answer"⁻¹) (.cmp .Eq (.ix (.var 1) (.neg 1⁻¹)) (.ix 'h' 1⁻¹)))} .nil,.ret (.cmp .Eq (.var 1) 'h')}
def ze8:MC:=mC pU zbE 36
theorem zgZ:FnScope zbE ["deed", "step"] (zD pU):='a'
theorem zd7:qV dQ ze8 (yZ pU)=true:=by decide +kernel
abbrev uZ:Stmt:=tF 22
def hW:List Str:=["deed", "steps", "step"]
noncomputable def rY:ISs:={.ite (.not (.var 1)) {.ret (.con .none)} .nil,.ite (.cmp .Eq (.ix 'h' 0⁻¹) "move"⁻¹) {.ret (.ix (.var 1) (.bin .Mod (.ix 'h' 1⁻¹) (.call 1 {.var 1})))} .nil,.for (.nm 2) (.val (.var 1)) {.ite (.call 36 {.var 0,.var 2}) {.ret (.var 2)} .nil},.ret (.con .none)}
def zaI:MC:=mC uZ hW 37
theorem zdB:FnScope hW ["deed", "steps"] (zD uZ):='a'
theorem zbI:qV rY zaI (yZ uZ)=true:=by decide +kernel
abbrev kK:Stmt:=tF 2
def pM:List Str:=["whole", "sides_of", "found", "waiting", "thing"]
noncomputable def tU:ISs:={.asg 2 (.lst .nil),.asg 3 (.lst {.var 0}),.whl (.var 3) {.asg 4 (.mth 0 (.var 3) .nil),.ex (.mth 2 (.var 2) {.var 4}),.ex (.mth 4 (.var 3) {.spc 1 {.spc 2 {.var 1,.var 4}}})},.ret (.var 2)}
def bS:MC:=mC kK pM 38
theorem zco:FnScope pM ["whole", "sides_of"] (zD kK):='a'
theorem zal:qV tU bS (yZ kK)=true:=by decide +kernel
abbrev xJ:Stmt:=tF 18
def sK:List Str:=["condition"]
noncomputable def uI:ISs:={.ret (.ite (.cmp .In (.ix 'h' 0⁻¹) (.glb 1)) (.sl 'h' (.yes 1⁻¹) .no) (.tup .nil))}
def zaJ:MC:=mC xJ sK 39
theorem bW:FnScope sK ["condition"] (zD xJ):='a'
theorem zbJ:qV uI zaJ (yZ xJ)=true:=by decide +kernel
abbrev jY:Stmt:=tF 20
def uP:List Str:=["word", "things", "move"]
noncomputable def qL:ISs:={.ite (.cmp .Eq 'h' "heard"⁻¹) {.ret (.cmp .Eq (.call 34 {.var 2}) (.ix (.var 1) 0⁻¹))} .nil,.ite (.cmp .Eq 'h' "asked"⁻¹) {.ret (.cmp .Eq (.var 2) (.tup {"doubt"⁻¹,.ix (.var 1) 0⁻¹,.ix (.var 1) 1⁻¹}))} .nil,.ret (.and (.cmp .Eq (.ix (.var 2) 0⁻¹) "answer"⁻¹) (.cmp .Eq (.ix (.var 2) 1⁻¹) (.tup {.ix (.var 1) 0⁻¹,.ix (.var 1) 1⁻¹})))}
def pC:MC:=mC jY uP 40
theorem zaa:FnScope uP ["word", "things", "move"] (zD jY):='a'
theorem fL:qV qL pC (yZ jY)=true:=by decide +kernel
abbrev jM:Stmt:=tF 19
noncomputable def tL:List Str:=["condition", "standing", "move", "said", "unanswered", "used", "fresh", "word", "things"]
noncomputable def kR:ISs:={.asgT {.nm 3,.nm 4,.nm 5,.nm 6} (.var 1),.asgS 7 8 'h',.ite (.cmp .Eq (.var 7) "any"⁻¹) {.ret (.con (.bool true))} .nil,.ite (.cmp .Eq (.var 7) "said"⁻¹) {.ret (.cmp .In (.ix (.var 8) 0⁻¹) (.var 3))} .nil,.ite (.cmp .Eq (.var 7) "fresh"⁻¹) {.ret (.cmp .In (.ix (.var 8) 0⁻¹) (.var 6))} .nil,.ite (.cmp .Eq (.var 7) "open"⁻¹) {.ret (.cmp .In (.call 7 {.var 8}) (.var 4))} .nil,.ite (.cmp .Eq (.var 7) "used"⁻¹) {.ret (.cmp .In (.call 7 {.var 8}) (.var 5))} .nil,.ret (.and (.cmp .IsNot (.var 2) (.con .none)) (.call 40 {.var 7,.var 8,.var 2}))}
def mQ:MC:=mC jM tL 41
theorem zag:FnScope tL ["condition", "standing", "move"] (zD jM):='a'
theorem cP:qV kR mQ (yZ jM)=true:=by decide +kernel
abbrev zcl:Stmt:=tF 17
def zhv:List Str:=["condition", "standing", "move", "truths", "part"]
noncomputable def zfv:ISs:={.asg 3 (.lst .nil),.for (.nm 4) (.val (.spc 1 {.call 38 {.var 0,.glb 3}})) {.ite (.cmp .Eq (.ix (.var 4) 0⁻¹) "not"⁻¹) {.ex (.mth 2 (.var 3) {.not (.mth 0 (.var 3) .nil)})} {.ite (.cmp .Eq (.ix (.var 4) 0⁻¹) "and"⁻¹) {.ex (.mth 2 (.var 3) {.call 2 {.lst {.mth 0 (.var 3) .nil,.mth 0 (.var 3) .nil}}})} {.ite (.cmp .Eq (.ix (.var 4) 0⁻¹) "or"⁻¹) {.ex (.mth 2 (.var 3) {.call 5 {.lst {.mth 0 (.var 3) .nil,.mth 0 (.var 3) .nil}}})} {.ex (.mth 2 (.var 3) {.call 41 {.var 4,.var 1,.var 2}})}}}},.ret (.ix (.var 3) 0⁻¹)}
def zkQ:MC:=mC zcl zhv 42
theorem zls:FnScope zhv ["condition", "standing", "move"] (zD zcl):='a'
theorem zhI:qV zfv zkQ (yZ zcl)=true:=by decide +kernel
abbrev fY:Stmt:=tF 21
noncomputable def zdX:List Str:=["program", "book", "standing", "move", "steps", "condition", "deed", "played"]
noncomputable def rW:ISs:={.asg 4 (.ite (.cmp .Is (.var 3) (.con .none)) (.call 33 {.var 1,.var 2}) (.call 35 {.var 3})),.for (.tup {.nm 5,.nm 6}) (.val 'h') {.asg 7 (.call 37 {.var 6,.var 4}),.ite (.and (.cmp .IsNot (.var 7) (.con .none)) (.call 42 {.var 5,.var 2,.var 3})) {.ret (.var 7)} .nil},.ret (.con .none)}
def zd0:MC:=mC fY zdX 43
theorem zeR:FnScope zdX ["program", "book", "standing", "move"] (zD fY):='a'
theorem zaX:qV rW zd0 (yZ fY)=true:=by decide +kernel
abbrev kA:Stmt:=tF 45
def pF:List Str:=["_law_condition_here", "_law_standing", "_law_move", "_law_word_here", "_law_both"]
noncomputable def xN:ISs:={.asg 3 (.ix 'h' 0⁻¹),.ite (.cmp .Eq (.var 3) "any"⁻¹) {.ret (.con (.bool true))} .nil,.ite (.cmp .Eq (.var 3) "not"⁻¹) {.ret (.not (.call 44 {.ix 'h' 1⁻¹,.var 1,.var 2}))} .nil,.ite (.or (.cmp .Eq (.var 3) "and"⁻¹) (.cmp .Eq (.var 3) "or"⁻¹)) {.asg 4 (.lc (.nm 0) ["_law_part"] [1,2] (.val (.sl 'h' (.yes 1⁻¹) .no)) .no (.call 44 {.var 0,.var 1,.var 2})),.ret (.or (.cmp .Eq (.var 4) (.lst {.con (.bool true),.con (.bool true)})) (.and (.cmp .Eq (.var 3) "or"⁻¹) (.cmp .In (.con (.bool true)) (.var 4))))} .nil,.ite (.or (.cmp .Eq (.var 3) "said"⁻¹) (.cmp .Eq (.var 3) "fresh"⁻¹)) {.ret (.cmp .In (.ix 'h' 1⁻¹) (.ix (.var 1) (.bin .Mult 3⁻¹ (.call 8 {.cmp .Eq (.var 3) "fresh"⁻¹}))))} .nil,.ite (.or (.cmp .Eq (.var 3) "open"⁻¹) (.cmp .Eq (.var 3) "used"⁻¹)) {.ret (.cmp .In (.sl 'h' (.yes 1⁻¹) .no) (.ix (.var 1) (.bin .Add 1⁻¹ (.call 8 {.cmp .Eq (.var 3) "used"⁻¹}))))} .nil,.ite (.cmp .Is (.var 2) (.con .none)) {.ret (.con (.bool false))} .nil,.ite (.cmp .Eq (.var 3) "heard"⁻¹) {.ret (.cmp .Eq (.call 24 {.var 2}) (.ix 'h' 1⁻¹))} .nil,.ret (.and (.cmp .Eq (.ix (.lst {.ix (.var 2) 1⁻¹,.sl (.var 2) (.yes 1⁻¹) .no}) (.call 8 {.cmp .Eq (.var 3) "asked"⁻¹})) (.sl 'h' (.yes 1⁻¹) .no)) (.cmp .Eq (.cmp .Eq (.ix (.var 2) 0⁻¹) "doubt"⁻¹) (.cmp .Eq (.var 3) "asked"⁻¹)))}
def bL:MC:=mC kA pF 45
theorem zcv:FnScope pF ["_law_condition_here", "_law_standing", "_law_move"] (zD kA):='a'
theorem zas:qV xN bL (yZ kA)=true:=by decide +kernel
abbrev uW:Stmt:=tF 46
def gY:List Str:=["_law_deed_here", "_law_steps", "_law_step_here"]
noncomputable def qB:ISs:={.ite (.and (.cmp .Eq (.ix 'h' 0⁻¹) "move"⁻¹) (.cmp .NotEq (.var 1) (.lst .nil))) {.ret (.ix (.var 1) (.bin .Mod (.ix 'h' 1⁻¹) (.call 1 {.var 1})))} .nil,.for (.nm 2) (.val (.var 1)) {.ite (.or (.cmp .Eq (.var 2) 'h') (.and (.cmp .Eq (.ix 'h' 0⁻¹) "answer"⁻¹) (.and (.cmp .Eq (.ix (.var 2) 0⁻¹) "answer"⁻¹) (.cmp .Eq (.ix (.var 2) (.neg 1⁻¹)) (.ix 'h' 1⁻¹))))) {.ret (.var 2)} .nil},.ret (.con .none)}
def zaP:MC:=mC uW gY 45
theorem zdE:FnScope gY ["_law_deed_here", "_law_steps"] (zD uW):='a'
theorem zbM:qV qB zaP (yZ uW)=true:=by decide +kernel
abbrev qQ:Stmt:=tF 47
def sI:List Str:=["_law_program_here", "_law_steps", "_law_standing", "_law_move", "_law_condition_here", "_law_deed_here"]
noncomputable def vD:ISs:={.for (.tup {.nm 4,.nm 5}) (.val 'h') {.ite (.and (.call 44 {.var 4,.var 2,.var 3}) (.cmp .IsNot (.call 45 {.var 5,.var 1}) (.con .none))) {.ret (.call 45 {.var 5,.var 1})} .nil},.ret (.con .none)}
def fN:MC:=mC qQ sI 46
theorem zbo:FnScope sI ["_law_program_here", "_law_steps", "_law_standing", "_law_move"] (zD qQ):='a'
theorem zad:qV vD fN (yZ qQ)=true:=by decide +kernel
abbrev jL:Stmt:=tF 36
def tK:List Str:=["_law_move", "_law_says_here", "_law_found"]
noncomputable def xC:ISs:={.asg 1 (.call 24 {.var 0}),.asg 2 (.lst .nil),.ite (.cmp .IsNot (.var 1) (.con .none)) {.asg 2 (.lc (.nm 0) ["_law_word_here"] [] (.val (.call 23 {.var 1})) .no (.tup {"doubt"⁻¹,.var 0}))} .nil,.ite (.cmp .Eq (.ix 'h' 0⁻¹) "doubt"⁻¹) {.asg 2 (.bin .Add (.var 2) (.lc (.nm 0) ["_law_answer"] [] (.val (.call 22 {.tup {.ix 'h' 1⁻¹,.ix 'h' 2⁻¹}})) .no (.tup {"answer"⁻¹,.var 0})))} .nil,.ret (.call 6 {.var 2})}
def mM:MC:=mC jL tK 47
theorem zah:FnScope tK ["_law_move"] (zD jL):='a'
theorem cO:qV xC mM (yZ jL)=true:=by decide +kernel
abbrev kF:Stmt:=tF 48
def pJ:List Str:=["_law_program_here", "_law_book_here", "_law_standing", "_law_moves_now", "_law_k", "_law_move"]
noncomputable def tQ:ISs:={.asg 3 (.call 25 {.var 1,.var 2}),.for (.nm 4) (.blt 0 {2⁻¹}) {.ite (.cmp .NotEq (.spc 3 {.var 0,.var 1,.var 2}) (.call 46 {.var 0,.var 3,.var 2,.con .none})) {.ret (.con (.bool false))} .nil},.for (.nm 5) (.val (.var 3)) {.ite (.cmp .NotEq (.call 43 {.var 0,.var 1,.var 2,.var 5}) (.call 46 {.var 0,.call 47 {.var 5},.var 2,.var 5})) {.ret (.con (.bool false))} .nil},.ret (.con (.bool true))}
noncomputable def bP:MC:=⟨zD kF,pJ,(fun _=>true),fns.take 48,gls,mts,its,(sxm++[dcM "choice"]),[]⟩
theorem zcr:FnScope pJ ["_law_program_here", "_law_book_here", "_law_standing"] (zD kF):='a'
theorem zao:qV tQ bP (yZ kF)=true:=by decide +kernel
abbrev kE:Stmt:=tF 39
def pI:List Str:=["_law_saying_here", "_law_found", "_law_part"]
noncomputable def tP:ISs:={.asg 1 (.lst {.var 0}),.for (.nm 2) (.val (.sl 'h' (.yes 1⁻¹) .no)) {.ite (.cmp .NotEq (.ix 'h' 0⁻¹) "say"⁻¹) {.asg 1 (.bin .Add (.var 1) (.lc (.nm 0) ["_law_one"] [1] (.val (.call 49 {.var 2})) (.yes (.cmp .NotIn 'h' (.var 1))) 'h'))} .nil},.ret (.var 1)}
def bO:MC:=mC kE pI 50
theorem zcs:FnScope pI ["_law_saying_here"] (zD kE):='a'
theorem zap:qV tP bO (yZ kE)=true:=by decide +kernel
abbrev vY:Stmt:=tF 37
noncomputable def pD:List Str:=["_law_book_here", "_law_standing", "_law_move", "_law_reply", "_law_said", "_law_opened", "_law_used", "_law_fresh", "_law_heard", "_law_made", "_law_left"]
noncomputable def yY:ISs:={.asgT {.nm 4,.nm 5,.nm 6,.nm 7} (.var 1),.asg 8 (.lst .nil),.asg 9 (.lst .nil),.ite (.cmp .Eq (.ix (.var 3) 0⁻¹) "answer"⁻¹) {.asg 8 (.lst {.ix (.var 3) 1⁻¹})} {.asg 9 (.lst {.tup {.ix (.var 3) 1⁻¹,.call 24 {.var 2}}}),.ite (.or (.cmp .Eq (.ix (.var 3) 1⁻¹) "if"⁻¹) (.cmp .Eq (.ix (.var 3) 1⁻¹) "not"⁻¹)) {.asg 8 (.lst {.ix (.call 24 {.var 2}) 1⁻¹})} .nil},.asg 10 (.call 3 {.var 5}),.ite (.and (.cmp .Eq (.ix (.var 2) 0⁻¹) "answer"⁻¹) (.and (.cmp .Eq (.att 'h' "again") "once"⁻¹) (.cmp .In (.ix (.var 2) 1⁻¹) (.var 10)))) {.ex (.mth 5 (.var 10) {.ix (.var 2) 1⁻¹})} .nil,.ite (.or (.cmp .Eq (.att 'h' "speaks") "last"⁻¹) (.and (.cmp .Eq (.att 'h' "answers") "last"⁻¹) (.cmp .NotEq (.var 9) (.lst .nil)))) {.asg 10 (.lst .nil)} {.ite (.cmp .Eq (.att 'h' "answers") "last"⁻¹) {.asg 10 (.call 3 {.var 5})} .nil},.ite (.and (.cmp .Eq (.att 'h' "doubts") "once"⁻¹) (.cmp .Eq (.ix (.var 2) 0⁻¹) "doubt"⁻¹)) {.asg 6 (.call 7 {.call 6 {.bin .Add (.lc (.nm 0) ["_law_one"] [2] (.val (.var 6)) (.yes (.cmp .NotEq 'h' (.sl (.var 1) (.yes 1⁻¹) .no))) 'h') (.lst {.sl (.var 2) (.yes 1⁻¹) .no})}})} .nil,.asg 7 (.call 7 {.bin .Mult (.var 8) (.call 8 {.cmp .Eq (.att 'h' "speaks") "last"⁻¹})}),.asg 4 (.call 7 {.call 6 {.bin .Add (.lc (.nm 0) ["_law_one"] [8] (.val (.var 4)) (.yes (.cmp .NotIn 'h' (.var 1))) 'h') (.var 8)}}),.ret (.tup {.var 4,.call 7 {.call 6 {.bin .Add (.lc (.nm 0) ["_law_one"] [9] (.val (.var 10)) (.yes (.cmp .NotIn 'h' (.var 1))) 'h') (.var 9)}},.var 6,.var 7})}
def bJ:MC:=mC vY pD 50
theorem zcx:FnScope pD ["_law_book_here", "_law_standing", "_law_move", "_law_reply"] (zD vY):='a'
theorem zau:qV yY bJ (yZ vY)=true:=by decide +kernel
abbrev slaw:Stmt:=tF 49
noncomputable def nlaw:List Str:=["_law_script", "_law_deal_here", "_law_names_here", "_law_saying_here", "_law_book_here", "_law_program_here", "_law_standing", "_law_k", "_law_moves_now", "_law_move", "_law_replies_now"]
noncomputable def blaw:ISs:={.asg 1 (.call 10 {.var 0,1⁻¹}),.asg 2 (.call 12 {.var 1,.ix (.lst {1⁻¹,.bin .Add 1⁻¹ (.call 11 {.var 1,3⁻¹})}) (.call 11 {.var 1,2⁻¹})}),.asg 3 (.call 13 {.var 1,.var 2,.bin .Add 1⁻¹ (.call 11 {.var 1,6⁻¹})}),.asg 4 (.call 15 {.var 1}),.asg 5 (.call 20 {.var 1,.call 49 {.var 3},.ix (.lst {30⁻¹,8⁻¹}) (.call 8 {.cmp .Gt (.call 11 {.var 1,8⁻¹}) 0⁻¹}),2⁻¹}),.asg 6 (.call 21 {.var 3}),.for (.nm 7) (.blt 0 {.call 11 {.var 1,9⁻¹}}) {.ite (.not (.call 48 {.var 5,.var 4,.var 6})) {.ret (.con (.bool false))} .nil,.asg 8 (.call 25 {.var 4,.var 6}),.ite (.cmp .Eq (.var 8) (.lst .nil)) {.ret (.con (.bool true))} .nil,.asg 9 (.ix (.var 8) (.call 11 {.var 1,.call 1 {.var 8}})),.asg 10 (.call 47 {.var 9}),.ite (.cmp .Eq (.var 10) (.lst .nil)) {.ret (.con (.bool true))} .nil,.asg 6 (.call 50 {.var 4,.var 6,.var 9,.ix (.var 10) (.call 11 {.var 1,.call 1 {.var 10}})})},.ret (.call 48 {.var 5,.var 4,.var 6})}
def mlaw:MC:=mC slaw nlaw 51
theorem sclaw:FnScope nlaw ["_law_script"] (zD slaw):='a'
theorem zl4:qV blaw mlaw (yZ slaw)=true:=by decide +kernel
end K49
namespace K49
open PySem PySem.Spec PyProof.Rows L2 L3
inductive Sy where
 |say (x:Str)|not (a:Sy)|and (a b:Sy)|or (a b:Sy)|ite (a b:Sy)
noncomputable def Sy.w:Sy->W
 | .say x=>.tup [.str "say", .str x]
 | .not a=>.tup [.str "not", a.w]
 | .and a b=>.tup [.str "and", a.w,b.w]
 | .or a b=>.tup [.str "or", a.w,b.w]
 | .ite a b=>.tup [.str "if", a.w,b.w]
def Sy.size:Sy->Nat
 | .say _=>1
 | .not a=>a.size+1
 | .and a b=>a.size+b.size+1
 | .or a b=>a.size+b.size+1
 | .ite a b=>a.size+b.size+1
theorem Sy.pos:∀ t:Sy,1<=t.size
 | .say _=>zzR _
 | .not a=>Zav _ _
 | .and a b=>Zav _ _
 | .or a b=>Zav _ _
 | .ite a b=>Zav _ _
theorem Sy.pur:∀ t:Sy,L3.pur t.w=true
 | .say _=>by simp[Sy.w,L3.pur,yP]
 | .not a=>by simp[Sy.w,L3.pur,yP,Sy.pur a]
 | .and a b=>by simp[Sy.w,L3.pur,yP,Sy.pur a,Sy.pur b]
 | .or a b=>by simp[Sy.w,L3.pur,yP,Sy.pur a,Sy.pur b]
 | .ite a b=>by simp[Sy.w,L3.pur,yP,Sy.pur a,Sy.pur b]
theorem dep1 {x m:Nat} (h:x<=m):max 0 (max x 0)+1<=m+1:=ZaH (ZaJ.mpr ⟨Zg _,ZaJ.mpr ⟨h,Zg _⟩⟩)
theorem dep2 {x y m n:Nat} (h:x<=m) (h':y<=n):max 0 (max x (max y 0))+1<=m+n+1:=ZaH (ZaJ.mpr ⟨Zg _,ZaJ.mpr ⟨Zb h (ZbT _ _),ZaJ.mpr ⟨Zb h' (Zav _ _),Zg _⟩⟩⟩)
theorem Sy.dep:∀ t:Sy,L3.dep t.w<=t.size
 | .say _=>dep1 (Zg 0)
 | .not a=>dep1 (Sy.dep a)
 | .and a b=>dep2 (Sy.dep a) (Sy.dep b)
 | .or a b=>dep2 (Sy.dep a) (Sy.dep b)
 | .ite a b=>dep2 (Sy.dep a) (Sy.dep b)
theorem zaD:(("say" : Str) == "not")=false:=by decide +kernel
theorem zaE:(("say" : Str) == "and")=false:=by decide +kernel
theorem zcN:(("say" : Str) == "or")=false:=by decide +kernel
theorem zcO:(("say" : Str) == "if")=false:=by decide +kernel
theorem uO:(("not" : Str) == "say")=false:=by decide +kernel
theorem zaF:(("not" : Str) == "and")=false:=by decide +kernel
theorem zcP:(("not" : Str) == "or")=false:=by decide +kernel
theorem zcQ:(("not" : Str) == "if")=false:=by decide +kernel
theorem uN:(("and" : Str) == "say")=false:=by decide +kernel
theorem hV:(("and" : Str) == "not")=false:=by decide +kernel
theorem zcR:(("and" : Str) == "or")=false:=by decide +kernel
theorem zcS:(("and" : Str) == "if")=false:=by decide +kernel
theorem sX:(("or" : Str) == "say")=false:=by decide +kernel
theorem cW:(("or" : Str) == "not")=false:=by decide +kernel
theorem cV:(("or" : Str) == "and")=false:=by decide +kernel
theorem ze1:(("or" : Str) == "if")=false:=by decide +kernel
theorem sW:(("if" : Str) == "say")=false:=by decide +kernel
theorem cU:(("if" : Str) == "not")=false:=by decide +kernel
theorem cT:(("if" : Str) == "and")=false:=by decide +kernel
theorem zbF:(("if" : Str) == "or")=false:=by decide +kernel
theorem ltS1 {a b:W} (h:(tY a b).isSome=true):(vP [a] [b]).isSome=true:=by
 simp only[vP]
 split
 .rfl
 .exact h
theorem ltS2 {a b c d:W} (h:(tY a b).isSome=true) (h':(tY c d).isSome=true):(vP [a,c] [b,d]).isSome=true:=by
 rw[vP]
 split
 .exact ltS1 h'
 .exact h
theorem kX {x:Str} {l l':List W} (h:(vP l l').isSome=true):(tY (.tup (.str x::l)) (.tup (.str x::l'))).isSome=true:=by
 rw[tY,vP,if_pos (by simp[yQ])];exact h
theorem yF {x y:Str} {l l':List W} (h:(x==y)=false):(tY (.tup (.str x::l)) (.tup (.str y::l'))).isSome=true:=by
 rw[tY,vP,if_neg (by simp[yQ,h]),tY];rfl
theorem Sy.lt:∀ a b:Sy,(tY a.w b.w).isSome=true
 | .say x,.say y=>kX (ltS1 (by rw[tY];rfl))
 | .not a,.not b=>kX (ltS1 (Sy.lt a b))
 | .and a c,.and b d=>kX (ltS2 (Sy.lt a b) (Sy.lt c d))
 | .or a c,.or b d=>kX (ltS2 (Sy.lt a b) (Sy.lt c d))
 | .ite a c,.ite b d=>kX (ltS2 (Sy.lt a b) (Sy.lt c d))
 | .say _,.not _=>yF zaD
 | .say _,.and _ _=>yF zaE
 | .say _,.or _ _=>yF zcN
 | .say _,.ite _ _=>yF zcO
 | .not _,.say _=>yF uO
 | .not _,.and _ _=>yF zaF
 | .not _,.or _ _=>yF zcP
 | .not _,.ite _ _=>yF zcQ
 | .and _ _,.say _=>yF uN
 | .and _ _,.not _=>yF hV
 | .and _ _,.or _ _=>yF zcR
 | .and _ _,.ite _ _=>yF zcS
 | .or _ _,.say _=>yF sX
 | .or _ _,.not _=>yF cW
 | .or _ _,.and _ _=>yF cV
 | .or _ _,.ite _ _=>yF ze1
 | .ite _ _,.say _=>yF sW
 | .ite _ _,.not _=>yF cU
 | .ite _ _,.and _ _=>yF cT
 | .ite _ _,.or _ _=>yF zbF
theorem Sy.hd (t:Sy):hdT t.w=some "str" := by cases t<;>rfl
theorem pS:∀ ts:List Sy,yP (ts.map Sy.w)=true
 | []=>rfl
 |t::ts=>by simp[yP,t.pur,pS ts]
theorem zfo {n:Nat}:∀ ts:List Sy,(∀ t∈ts,t.size<=n)->yL (ts.map Sy.w)<=n
 | [],_=>Zg _
 |t::ts,h=>by
  have h1:=Sy.dep t;have h2:=h t zzT;have h3:=zfo ts fun x hx=>h x (Zd _ hx);simp only[zzU,yL];omega
theorem srtb {ts:List Sy} (hn:ts.length<64) (hs:∀ t∈ts,t.size<=59):Srtb (ts.map Sy.w) where
 pure:=pS ts
 lt:=fun x hx y hy=>by
  obtain ⟨a,_,rfl⟩:=zzP hx;obtain ⟨b,_,rfl⟩:=zzP hy;exact Sy.lt a b
 few:=by simpa using hn
 deep:=Zab (zfo ts hs) 'd'
 hd:=⟨"str", fun x hx=>by obtain ⟨a,_,rfl⟩:=zzP hx;exact a.hd⟩
theorem zdw (ts:List Sy):∃ us:List Sy,srt (ts.map Sy.w)=us.map Sy.w/\us.length=ts.length/\∀ n,(∀ t∈ts,t.size<=n)->∀ t∈us,t.size<=n:=by
 have p:=xR (ts.map Sy.w)
 have q:∀ x∈srt (ts.map Sy.w),∃ t,t∈ts/\x=t.w:=fun x hx=>by
  obtain ⟨t,ht,rfl⟩:=zzP (p.mem_iff.mp hx);exact ⟨t,ht,rfl⟩
 have key:∀ (ws:List W),(∀ x∈ws,∃ t,t∈ts/\x=t.w)->∃ us:List Sy,ws=us.map Sy.w/\∀ t∈us,t∈ts:=by
  intro ws
  induction ws with
  |nil=>exact fun _=>⟨[],rfl,fun _ h=>nomatch h⟩
  |cons x ws ih =>
   intro h;obtain ⟨t,ht,rfl⟩:=h x zzT;obtain ⟨us,e,hu⟩:=ih fun y hy=>h y (Zd _ hy);refine ⟨t::us,by rw[e];rfl,fun y hy=>?_⟩;rcases Zk.mp hy with rfl|hy
   .exact ht
   .exact hu y hy
 obtain ⟨us,e,hu⟩:=key _ q;refine ⟨us,e,?_,fun n hn t ht=>hn t (hu t ht)⟩;have:=p.length_eq;rw[e,zzM,zzM] at this;exact this
theorem mix {x y:Str} {l l':List W} (h:(x==y)=false) (e:yQ (.tup (.str x::l)) (.tup (.str y::l'))=true):False:=by simp[yQ,jU,h] at e
theorem tl1 {x:Str} {a b:W} (e:yQ (.tup [.str x,a]) (.tup [.str x,b])=true):yQ a b=true:=by simpa[yQ,jU] using e
theorem tl2 {x:Str} {a b c d:W} (e:yQ (.tup [.str x,a,c]) (.tup [.str x,b,d])=true):yQ a b=true/\yQ c d=true:=by simpa[yQ,jU] using e
theorem Sy.eqw:∀ a b:Sy,yQ a.w b.w=true->a=b
 | .say x,.say y,h=>by have:=tl1 h;simp[yQ] at this;rw[this]
 | .not a,.not b,h=>by rw[Sy.eqw a b (tl1 h)]
 | .and a c,.and b d,h=>by rw[Sy.eqw a b (tl2 h).1,Sy.eqw c d (tl2 h).2]
 | .or a c,.or b d,h=>by rw[Sy.eqw a b (tl2 h).1,Sy.eqw c d (tl2 h).2]
 | .ite a c,.ite b d,h=>by rw[Sy.eqw a b (tl2 h).1,Sy.eqw c d (tl2 h).2]
 | .say _,.not _,h=>(mix zaD h).elim
 | .say _,.and _ _,h=>(mix zaE h).elim
 | .say _,.or _ _,h=>(mix zcN h).elim
 | .say _,.ite _ _,h=>(mix zcO h).elim
 | .not _,.say _,h=>(mix uO h).elim
 | .not _,.and _ _,h=>(mix zaF h).elim
 | .not _,.or _ _,h=>(mix zcP h).elim
 | .not _,.ite _ _,h=>(mix zcQ h).elim
 | .and _ _,.say _,h=>(mix uN h).elim
 | .and _ _,.not _,h=>(mix hV h).elim
 | .and _ _,.or _ _,h=>(mix zcR h).elim
 | .and _ _,.ite _ _,h=>(mix zcS h).elim
 | .or _ _,.say _,h=>(mix sX h).elim
 | .or _ _,.not _,h=>(mix cW h).elim
 | .or _ _,.and _ _,h=>(mix cV h).elim
 | .or _ _,.ite _ _,h=>(mix ze1 h).elim
 | .ite _ _,.say _,h=>(mix sW h).elim
 | .ite _ _,.not _,h=>(mix cU h).elim
 | .ite _ _,.and _ _,h=>(mix cT h).elim
 | .ite _ _,.or _ _,h=>(mix zbF h).elim
theorem Sy.inj {a b:Sy} (h:a.w=b.w):a=b:=Sy.eqw a b (by rw[h];exact fD b.pur)
theorem hJ {α:Type} {f:α->W} (hf:∀ a b,f a=f b->a=b) {l:List α} (h:l.Nodup):(l.map f).Nodup:=ZbJ.mpr (h.imp fun n e=>n (hf _ _ e))
theorem nd_of {α:Type} {f:α->W} {l:List α} (h:(l.map f).Nodup):l.Nodup:=(ZbJ.mp h).imp fun n e=>n (congrArg f e)
def Fr (ws:List W) (G:Hw) (Q:Q3):Prop:=∀ r G',zK [] G G'->G r=none->G' r=some (.lst ws)->Q (.ref r) G'
theorem Fr.mono {ws:List W} {G:Hw} {Q Q':Q3} (k:∀ w G',Q w G'->Q' w G') (h:Fr ws G Q):Fr ws G Q':=fun r G' a b c=>k _ _ (h r G' a b c)
theorem Fr.of {ws:List W} {G:Hw} {Q:Q3} (h:Fr ws G Q):∀ r,G r=none->Q (.ref r) (put G r (.lst ws)):=fun r hr=>h r _ (zK.new hr) hr zM
theorem Fr.keep {ws:List W} {G G1:Hw} {Q:Q3} (h:Fr ws G Q) (k:zK [] G G1):Fr ws G1 Q:=fun r G' a b c=>h r G' (k.trans a) (k.none 'g' b) c
noncomputable def words:Sy->List Str
 | .say _=>[]
 | .not _=>["not"]
 | .and _ _=>["left", "right"]
 | .or _ _=>["which"]
 | .ite _ _=>["if"]
def rE (t:Sy):List W:=(words t).map W.str
def nZ:Sy->Sy
 | .not a=>a
 | .and a _=>a
 | .or a _=>a
 | .ite a _=>a
 |t=>t
def kid2:Sy->Sy
 | .and _ b=>b
 | .or _ b=>b
 | .ite _ b=>b
 |t=>t
def okD (x:Str) (t:Sy):Prop:=x∈words t\/x = "begin"
noncomputable def said (x:Str) (t:Sy):W:=if x = "if" \/ x = "not" then (nZ t).w else .non
def rO:List W->List W
 | [x,y]=>if yQ x y=true then [x] else [x,y]
 |l=>l
def once (a b:Sy):List W:=rO (srt [a.w,b.w])
noncomputable def ans (x:Str) (t:Sy):List W:=if x = "begin" then [t.w] else if x = "left" then [(nZ t).w] else if x = "right" \/ x = "if" then [(kid2 t).w] else if x = "which" then once (nZ t) (kid2 t) else []
def wL (n:Nat):qE:=fun ws G Q _=>∃ (d l r:Addr) (m:Int) (xs:List Str),ws=[.ref d,.ref r,.int m]/\xA G d l/\r∉[d,l]/\G r=some (.lst (xs.map .str))/\xs≠[]/\xs.length<=100/\1<=m/\m<=n/\m<=100 /\
 ∀ (t:Sy) G',(t.size:Int)<=m->zK [d,l] G G'->xA G' d l->Q t.w G'
def zbe:qE:=fun ws G Q _=>∃ (d l:Addr) (m:Int),ws=[.ref d,.int m]/\xA G d l/\1<=m/\m<=50/\∀ (r:Addr) (xs:List Str) G',xs≠[]->xs.length<=100->r∉[d,l]->G' r=some (.lst (xs.map .str))->zK [d,l] G G'->xA G' d l->Q (.ref r) G'
def kY:qE:=fun ws G Q _=>∃ t:Sy,ws=[t.w]/\Fr (rE t) G Q
def zch:qE:=fun ws G Q _=>∃ (t:Sy) (x:Str),ws=[.tup [.str x,t.w]]/\okD x t/\Q (said x t) G
def zeJ:qE:=fun ws G Q _=>∃ xs,ws=[.tup xs]/\Srtb xs/\qA xs=true/\∀ us,qA us=true->xB us->(∀ w,w∈us↔w∈xs)->us.length<=xs.length->Fr us G Q
def mV:qE:=fun ws G Q _=>∃ (t:Sy) (x:Str),ws=[.tup [.str x,t.w]]/\okD x t/\t.size<=21/\Fr (ans x t) G Q
inductive Mv where
 |ans (x:Str) (t s:Sy)|dbt (x:Str) (t:Sy)
noncomputable def Mv.w:Mv->W
 | .ans x t s=>.tup [.str "answer", .tup [.str x,t.w],s.w]
 | .dbt x t=>.tup [.str "doubt", .str x,t.w]
def Mv.ok:Mv->Prop
 | .ans _ t s=>t.size<=21/\s.size<=21
 | .dbt x t=>x∈words t/\t.size<=21
noncomputable def wZ:Mv->Option Sy
 | .ans _ _ s=>some s
 | .dbt x t=>if x = "if" \/ x = "not" then some (nZ t) else none
def wF (m:Mv):W:=match wZ m with|some s=>s.w|none=>.non
def qD:qE:=fun ws G Q _=>∃ m:Mv,ws=[m.w]/\m.ok/\Q (wF m) G
structure Bk where
 a:Str
 b:Str
 c:Str
 e:Str
 f:Str
noncomputable def Bk.fs (x:Bk):List (Str×W):=[("answers", .str x.a),("again", .str x.b),("doubts", .str x.c),("speaks", .str x.e),("other", .str x.f)]
def Bk.ws (x:Bk):List W:=[.str x.a,.str x.b,.str x.c,.str x.e,.str x.f]
def Bk.ok (x:Bk):Prop:=x.c = "once" \/ x.c = "often"
def vH:List Str:=["answers", "again", "doubts", "speaks", "other"]
def uD (C:Addr) (G:Hw) (p:Addr) (x:Bk):Prop:=G p=some (.ins C x.fs)
def ow:Option Sy->W
 |some s=>s.w
 |none=>.non
noncomputable def qH (x:Str) (t:Sy):Option Sy:=if x = "if" \/ x = "not" then some (nZ t) else none
def zot:Sy->Bool
 | .say _=>true
 |_=>false
def may (sds:List Sy):Option Sy->Bool
 |none=>true
 |some s=>!(zot s) || (sds.map Sy.w).any fun z=>yQ z s.w
def dW (d:Str×Sy):W:=.tup [.str d.1,d.2.w]
structure Sd where
 sd:List Sy
 op:List (Str×Sy)
 us:List (Str×Sy)
 fr:List Sy
def Sd.w (z:Sd):W:=.tup [.tup 'm',.tup (z.op.map dW),.tup (z.us.map dW),.tup (z.fr.map Sy.w)]
def vT (l:List Sy):Prop:=l.length<=8/\l.Nodup/\∀ s∈l,s.size<=8
def tM (l:List (Str×Sy)):Prop:=l.length<=17/\l.Nodup/\∀ d∈l,okD d.1 d.2/\d.2.size<=8
structure Sd.ok (z:Sd):Prop where
 sd:vT z.sd
 op:tM z.op
 us:tM z.us
 fr:vT z.fr
 s1:xB 'm'
 s2:xB (z.op.map dW)
 s3:xB (z.us.map dW)
def gI (x:Str) (t:Sy):List Sy:=open Classical in if h:∃ us:List Sy,ans x t=us.map Sy.w/\us.length<=2/\∀ u∈us,u.size<=t.size then h.choose else []
def pP (op:List (Str×Sy)) (sds:List Sy):List Mv:=op.flatMap fun d=>((gI d.1 d.2).filter fun s=>may sds (some s)).map (Mv.ans d.1 d.2)
def pQ (ss:List Sy) (gone:List (Str×Sy)) (sds:List Sy):List Mv:=ss.flatMap fun s=>((words s).filter fun x=>(!((gone.map dW).any fun g=>yQ g (dW (x,s))))&&may sds (qH x s)).map fun x=>Mv.dbt x s
def rK (x:Bk) (z:Sd):List (Str×Sy):=if x.c = "once" then z.us else []
def wR (x:Bk) (z:Sd):List Sy:=if x.e = "last" then z.fr else z.sd
def pre (x:Bk) (z:Sd):List Mv:=pP z.op z.sd++pQ (wR x z) (rK x z) z.sd
def mvs (x:Bk) (z:Sd):List W:=srt ((pre x z).map Mv.w)
def sM (m:Mv):List W:=match wZ m with|some s=>(rE s).map fun w=>.tup [.str "doubt", w]|none=>[]
def preB:Mv->List W
 | .dbt x t=>(ans x t).map fun a=>.tup [.str "answer", a]
 | .ans _ _ _=>[]
def repl (m:Mv):List W:=srt (sM m++preB m)
inductive Ry where
 |dbt (x:Str)|ans (s:Sy)
def Ry.w:Ry->W
 | .dbt x=>.tup [.str "doubt", .str x]
 | .ans s=>.tup [.str "answer", s.w]
def Ry.ok (m:Mv):Ry->Prop
 | .dbt x=>∃ s,wZ m=some s/\x∈words s
 | .ans s=>s.size<=21
def made (m:Mv):Ry->List (Str×Sy)
 | .dbt x=>(match wZ m with|some s=>[(x,s)]|none=>[])
 | .ans _=>[]
noncomputable def heard (m:Mv):Ry->List Sy
 | .dbt x=>(match wZ m with|some s=>if x = "if" \/ x = "not" then [nZ s] else []|none=>[])
 | .ans s=>[s]
noncomputable def zf2 (x:Bk) (op:List (Str×Sy)):Mv->List W
 | .ans y t _=>if x.b = "once" then (op.map dW).filter (fun w=>!(yQ w (dW (y,t)))) else op.map dW
 | .dbt _ _=>op.map dW
noncomputable def bV (x:Bk) (op:List (Str×Sy)) (m:Mv) (mk:List (Str×Sy)):List W:=if x.e = "last" then mk.map dW else if x.a = "last" then (if mk.isEmpty=true then op.map dW else mk.map dW) else uni (zf2 x op m) (mk.map dW)
noncomputable def bX (x:Bk) (us:List (Str×Sy)) (m:Mv):List W:=if x.c = "once" then (match m with|.dbt y t=>uni (us.map dW) [dW (y,t)]|.ans _ _ _=>us.map dW) else []
noncomputable def resW (x:Bk) (z:Sd) (m:Mv) (r:Ry):W:=.tup [.tup (uni 'm' ((heard m r).map Sy.w)),.tup (bV x z.op m (made m r)),.tup (bX x z.us m),.tup (if x.e = "last" then (heard m r).map Sy.w else [])]
def zgG (t:Sy):Sd:=⟨[],[("begin", t)],[],[]⟩
inductive C1 where
 |said|fresh|heard
inductive C2 where
 |opn|used|asked|answ
def C1.s:C1->Str
 | .said => "said"
 | .fresh => "fresh"
 | .heard => "heard"
def C2.s:C2->Str
 | .opn => "open"
 | .used => "used"
 | .asked => "asked"
 | .answ => "answered"
inductive Cd where
 |any|one (k:C1) (s:Sy)|two (k:C2) (x:Str) (s:Sy)|neg (a:Cd)|bin (k:Bool) (a b:Cd)
def bw:Bool->Str
 |false => "and"
 |true => "or"
noncomputable def Cd.w:Cd->W
 | .any=>.tup [.str "any"]
 | .one k s=>.tup [.str k.s,s.w]
 | .two k x s=>.tup [.str k.s,.str x,s.w]
 | .neg a=>.tup [.str "not", a.w]
 | .bin k a b=>.tup [.str (bw k),a.w,b.w]
def Cd.size:Cd->Nat
 | .neg a=>a.size+1
 | .bin _ a b=>a.size+b.size+1
 |_=>1
def Cd.deep:Cd->Nat
 | .neg a=>a.deep+1
 | .bin _ a b=>max a.deep b.deep+1
 |_=>0
def Cd.ok:Cd->Prop
 | .any=>True
 | .one _ s=>s.size<=20
 | .two _ _ s=>s.size<=20
 | .neg a=>a.ok
 | .bin _ a b=>a.ok/\b.ok
def jO:Cd->List Cd
 | .neg a=>[a]
 | .bin _ a b=>[a,b]
 |_=>[]
def yK:Cd->List Cd
 | .neg a=>.neg a::yK a
 | .bin k a b=>.bin k a b::(yK a++yK b)
 |c=>[c]
inductive Mo where
 |no|dbt (x:Str) (s:Sy)|ans (x:Str) (s a:Sy)
noncomputable def Mo.w:Mo->W
 | .no=>.non
 | .dbt x s=>.tup [.str "doubt", .str x,s.w]
 | .ans x s a=>.tup [.str "answer", .tup [.str x,s.w],a.w]
def Mo.ok:Mo->Prop
 | .no=>True
 | .dbt x s=>x∈words s/\s.size<=20
 | .ans _ s a=>s.size<=20/\a.size<=20
def Mo.told:Mo->W
 | .no=>.non
 | .dbt x s=>wF (.dbt x s)
 | .ans x s a=>wF (.ans x s a)
def Mv.o:Mv->Mo
 | .dbt x s=>.dbt x s
 | .ans x s a=>.ans x s a
def inL (ws:List W) (w:W):Bool:=ws.any fun v=>yQ v w
noncomputable def h1 (t:Sd) (m:Mo):Cd->Bool
 | .any=>true
 | .one .said s=>inL (t.sd.map Sy.w) s.w
 | .one .fresh s=>inL (t.fr.map Sy.w) s.w
 | .one .heard s=>(match m with|.no=>false|_=>yQ m.told s.w)
 | .two .opn x s=>inL (t.op.map dW) (dW (x,s))
 | .two .used x s=>inL (t.us.map dW) (dW (x,s))
 | .two .asked x s=>(match m with|.dbt y r=>yQ (dW (y,r)) (dW (x,s))|_=>false)
 | .two .answ x s=>(match m with|.ans y r _=>yQ (dW (y,r)) (dW (x,s))|_=>false)
 |_=>false
def hv (t:Sd) (m:Mo):Cd->Bool
 | .neg a=>!hv t m a
 | .bin false a b=>hv t m a&&hv t m b
 | .bin true a b=>hv t m a || hv t m b
 |c=>h1 t m c
inductive Dd where
 |ans (s:Sy)|dbt (x:Str) (s:Sy)|dbw (x:Str)|mov (i:Int)
noncomputable def Dd.w:Dd->W
 | .ans s=>.tup [.str "answer", s.w]
 | .dbt x s=>.tup [.str "doubt", .str x,s.w]
 | .dbw x=>.tup [.str "doubt", .str x]
 | .mov i=>.tup [.str "move", .int i]
def Dd.ok:Dd->Prop
 | .ans s=>s.size<=20
 | .dbt _ s=>s.size<=20
 | .dbw _=>True
 | .mov i=>0<=i/\i<=999
def uF (r:Cd×Dd):W:=.tup [r.1.w,r.2.w]
def zhO:W->W
 | .tup (_::r)=>r.getLast?.getD .non
 |_=>.non
def fG:W->Str
 | .tup (.str x::_)=>x
 |_ => ""
def done (e:Dd) (w:W):Bool:=match e with
 | .ans s=>fG w == "answer" && yQ (zhO w) s.w
 |e=>yQ w e.w
def Step (w:W):Prop:=(∃ x a,w=.tup [.str x,a])\/∃ x a b,w=.tup [.str x,a,b]
structure Steps (ws:List W):Prop where
 all:∀ w∈ws,Step w/\pur w=true/\dep w<=40
 few:ws.length<=200
def played (e:Dd) (ws:List W):W:=match e with
 | .mov i=>(match ws with | []=>.non|_=>ws.getD (i % (ws.length:Int)).toNat .non)
 |e=>(ws.find? (done e)).getD .non
def zjW:W->Bool
 | .non=>true
 |_=>false
def sY (z:Sd) (m:Mo) (ws:List W) (r:Cd×Dd):Bool:=!zjW (played r.2 ws)&&hv z m r.1
def hZ (z:Sd) (m:Mo) (ws:List W) (rs:List (Cd×Dd)):W:=match rs.find? (sY z m ws) with|some r=>played r.2 ws|none=>.non
def kZ (x:Bk) (z:Sd):Mo->List W
 | .no=>mvs x z
 | .dbt y s=>repl (.dbt y s)
 | .ans y s a=>repl (.ans y s a)
structure Rows (rs:List (Cd×Dd)):Prop where
 few:rs.length<=30
 all:∀ r∈rs,r.1.ok/\r.1.deep<=4/\r.2.ok
def wE (n:Nat):qE:=fun ws G Q _=>∃ t:Sy,ws=[t.w]/\t.size<=20/\t.size<=n/\∀ r (ps:List Sy) G',zK [] G G'->G r=none->G' r=some (.lst (ps.map Sy.w))->ps≠[]->ps.length<=t.size->(∀ p∈ps,p.size<=t.size)->Q (.ref r) G'
structure Says (G:Hw) (d l p:Addr) (ps:List Sy):Prop where
 deal:xA G d l
 off:p∉[d,l]
 is:G p=some (.lst (ps.map Sy.w))
 ne:ps≠[]
 few:ps.length<=20
 sz:∀ x∈ps,x.size<=20
def zcg:qE:=fun ws G Q _=>∃ (d l:Addr) (t:Sy),ws=[.ref d,t.w]/\xA G d l/\∀ (x:Str) G',zK [d,l] G G'->xA G' d l->Q (.str x) G'
def qS (n:Nat):qE:=fun ws G Q _=>∃ (d l p:Addr) (ps:List Sy) (k:Nat),ws=[.ref d,.ref p,.int (k:Nat)]/\Says G d l p ps/\k<n/\k<=10/\∀ (c:Cd) G',c.ok->c.deep<=k->zK [d,l] G G'->xA G' d l->Q c.w G'
inductive Tx:W->Prop where
 |str (x:Str):Tx (.str x)
 |int (i:Int):Tx (.int i)
 |tup (ws:List W) (few:ws.length<=100) (all:∀ w∈ws,Tx w):Tx (.tup ws)
def jF (n:Nat):qE:=fun ws G Q _=>∃ w:W,ws=[w]/\Tx w/\dep w<n/\∀ (i:Int) G',zK [] G G'->Q (.int i) G'
def zeL:qE:=fun ws G Q _=>∃ (d l p:Addr) (ps:List Sy),ws=[.ref d,.ref p]/\Says G d l p ps/\∀ (e:Dd) G',e.ok->zK [d,l] G G'->xA G' d l->Q e.w G'
def nP:qE:=fun ws G Q _=>∃ (d l p:Addr) (ps:List Sy) (m:Int),ws=[.ref d,.ref p,.int m,.int 2]/\0<=m/\m<=30/\Says G d l p ps/\∀ (rs:List (Cd×Dd)) G',Rows rs->zK [d,l] G G'->xA G' d l->Q (.tup (rs.map uF)) G'
def wB:qE:=fun ws G Q _=>∃ c:Cd,ws=[c.w]/\Q (.tup ((jO c).map Cd.w)) G
def gA (sA:Addr):qE:=fun ws G Q _=>∃ c:Cd,ws=[c.w,.ref sA]/\c.size<=200/\Fr ((yK c).map Cd.w) G Q
def jB:Cd->List W
 | .one _ s=>[s.w]
 | .two _ x s=>[.str x,s.w]
 |_=>[]
def yC:Cd->Str
 | .any => "any"
 | .one k _=>k.s
 | .two k _ _=>k.s
 | .neg _ => "not"
 | .bin k _ _=>bw k
def zhs:Cd->Prop
 | .one .heard _=>True
 | .two .asked _ _=>True
 | .two .answ _ _=>True
 |_=>False
def zi8 (t:Sd):qE:=fun ws G Q _=>∃ (c:Cd) (m:Mo) (p:Addr),ws=[.str (yC c),.ref p,m.w]/\zhs c/\c.ok/\m.ok/\m≠.no/\G p=some (.lst (jB c))/\∀ G',zK [] G G'->Q (.bl (h1 t m c)) G'
def noSd:Sd:=⟨[],[],[],[]⟩
def fZ:qE:=fun ws G Q _=>∃ (c:Cd) (t:Sd) (m:Mo),ws=[c.w,t.w,m.w]/\c.ok/\t.ok/\m.ok/\jO c=[]/\∀ G',zK [] G G'->Q (.bl (h1 t m c)) G'
def zbf:qE:=fun ws G Q _=>∃ (c:Cd) (t:Sd) (m:Mo),ws=[c.w,t.w,m.w]/\c.ok/\t.ok/\m.ok/\c.size<=200/\∀ G',zK [] G G'->Q (.bl (hv t m c)) G'
def wW (n:Nat):qE:=fun ws G Q _=>∃ (c:Cd) (t:Sd) (m:Mo),ws=[c.w,t.w,m.w]/\c.ok/\t.ok/\m.ok/\c.deep<n/\∀ G',zK [] G G'->Q (.bl (hv t m c)) G'
def zeK:qE:=fun ws G Q _=>∃ (e:Dd) (w:W),ws=[e.w,w]/\e.ok/\Step w/\pur w=true/\dep w<=40/\(∀ i,e≠.mov i)/\∀ G',zK [] G G'->Q (.bl (done e w)) G'
def kO:qE:=fun ws G Q _=>∃ (e:Dd) (p:Addr) (ys:List W),ws=[e.w,.ref p]/\e.ok/\G p=some (.lst ys)/\Steps ys/\∀ G',zK [] G G'->Q (played e ys) G'
section
variable (C:Addr)
def jZ:qE:=fun ws G Q _=>∃ (rs:List (Cd×Dd)) (b:Addr) (x:Bk) (z:Sd) (m:Mo),ws=[.tup (rs.map uF),.ref b,z.w,m.w]/\Rows rs/\uD C G b x/\x.ok/\z.ok/\m.ok/\∀ G',zK [] G G'->Q (hZ z m (kZ x z m) rs) G'
def nO:qE:=fun ws G Q _=>∃ (rs:List (Cd×Dd)) (p:Addr) (ys:List W) (z:Sd) (m:Mo),ws=[.tup (rs.map uF),.ref p,z.w,m.w]/\Rows rs/\G p=some (.lst ys)/\Steps ys/\z.ok/\m.ok/\∀ G',zK [] G G'->Q (hZ z m ys rs) G'
def zbd:qE:=fun ws G Q _=>∃ (rs:List (Cd×Dd)) (b:Addr) (x:Bk) (z:Sd),ws=[.tup (rs.map uF),.ref b,z.w]/\Rows rs/\uD C G b x/\x.ok/\z.ok/\∀ G',zK [] G G'->Q (.bl true) G'
def zbg:qE:=fun ws G Q _=>∃ (d l:Addr),ws=[.ref d]/\xA G d l/\∀ (b:Addr) (x:Bk) G',uD C G' b x->x.ok->b∉[d,l]->zK [d,l] G G'->xA G' d l->Q (.ref b) G'
end
section
variable (C:Addr)
def zci:qE:=fun ws G Q _=>∃ p x,ws=.ref p::Bk.ws x/\G p=some (.ins C [])/\Q .non (put G p (.ins C x.fs))
def zeN:qE:=mkSp C (fun ws G Q E=>zci C ws G Q E) [.str "last"]
def zbc:qE:=fun ws G Q _=>∃ t:Sy,ws=[t.w]/\Q (zgG t).w G
def spMv:qE:=fun ws G Q _=>∃ b x z,ws=[.ref b,Sd.w z]/\uD C G b x/\x.ok/\z.ok/\Fr (mvs x z) G Q
def sO:qE:=fun ws G Q _=>∃ m:Mv,ws=[m.w]/\m.ok/\Fr (repl m) G Q
def zbh:qE:=fun ws G Q _=>∃ (b:Addr) (x:Bk) (z:Sd) (m:Mv) (r:Ry),ws=[.ref b,z.w,m.w,r.w]/\uD C G b x/\x.ok/\z.ok/\(x.c = "often" -> z.us=[])/\m.ok/\r.ok m/\∀ G',zK [] G G'->Q (resW x z m r) G'
def zgK:qE:=fun ws G Q _=>∃ (a:Option Sy) (sds:List Sy),ws=[ow a,.tup (sds.map Sy.w)]/\(∀ s,a=some s->s.size<=8)/\sds.length<=8/\Q (.bl (may sds a)) G
def zeO:qE:=fun ws G Q _=>∃ (op:List (Str×Sy)) (sds:List Sy),ws=[.tup (op.map dW),.tup (sds.map Sy.w)]/\tM op/\vT sds/\Fr ((pP op sds).map Mv.w) G Q
def zeM:qE:=fun ws G Q _=>∃ (ss:List Sy) (gone:List (Str×Sy)) (sds:List Sy),ws=[.tup (ss.map Sy.w),.tup (gone.map dW),.tup (sds.map Sy.w)]/\vT ss/\tM gone/\vT sds/\Fr ((pQ ss gone sds).map Mv.w) G Q
noncomputable def zb3:W:=.dcf ["say", "not", "and", "or", "if"] [.tup [],.tup [.str "not"],.tup [.str "left", .str "right"],.tup [.str "which"],.tup [.str "if"]]
end
section
variable (K:yI) (C sA:Addr)
noncomputable def fnL:List Fn3:=[eMax,eLen,eAll,eLst,eIsj K,eAny,eSrt,eTup,eInt,eSum,zoC,fB,⟨"_law_names", zbe⟩,⟨"_law_saying", wL 10⟩,⟨"Book", zeN C⟩,⟨"_law_book", zbg C⟩,⟨"_law_word", zcg⟩,⟨"_law_condition", qS 5⟩,⟨"_law_deed", zeL⟩,⟨"_law_count", jF 60⟩,⟨"_law_program", nP⟩,⟨"_law_start", zbc⟩,⟨"_law_answers", mV⟩,⟨"_law_words", kY⟩,⟨"_law_says", qD⟩,⟨"_law_moves", spMv C⟩,⟨"sorted_once", zeJ⟩,⟨"answers_to", mV⟩,⟨"may_say", zgK⟩,⟨"answering_moves", zeO⟩,⟨"doubts_of", kY⟩,⟨"said_by", zch⟩,⟨"doubting_moves", zeM⟩,⟨"moves", spMv C⟩,⟨"told_by", qD⟩,⟨"replies", sO⟩,⟨"is_done", zeK⟩,⟨"played_by", kO⟩,⟨"all_within", gA sA⟩,⟨"joined_by", wB⟩,⟨"holds_of_move", zi8 noSd⟩,⟨"single_holds", fZ⟩,⟨"holds", zbf⟩,⟨"choice", jZ C⟩,⟨"_law_holds", wW 8⟩,⟨"_law_step", kO⟩,⟨"_law_choice", nO⟩,⟨"_law_replies", sO⟩,⟨"_law_right", zbd C⟩,⟨"_law_parts", wE 9⟩,⟨"_law_after", zbh C⟩]
noncomputable def GamL (l:List Fn3):Ctx3:=⟨l,[("WORDS", zb3),("JOINED", .dcf ["not", "and", "or"] [.int 1,.int 2,.int 2]),("tuple", .ty "tuple"),("joined_by", .ref sA)],[ePop,zkd,eApp,eGet,eExt,eRem],[eRng],[(C,vH)],[eRev,⟨rvM,rvS⟩,⟨hcM "sides_of", hcS sA wB⟩],[]⟩
def yW (n:Nat):Ctx3:=GamL C sA ((fnL K C sA).take n)
def wX (n:Nat) (e:Fn3):Ctx3:=GamL C sA ((fnL K C sA).take n++[e])
end
theorem uH {a:W} {l:List W}:rQ (a::l) 0=some a:=by
 unfold rQ;have:ixN (a::l).length 0=some 0:=by simp[ixN]
 rw[this];rfl
theorem vC {a b:W} {l:List W}:rQ (a::b::l) 1=some b:=by
 unfold rQ;have:ixN (a::b::l).length 1=some 1:=by simp[ixN];omega
 rw[this];rfl
theorem at_2 {a b c:W} {l:List W}:rQ (a::b::c::l) 2=some c:=by
 unfold rQ;have:ixN (a::b::c::l).length 2=some 2:=by simp[ixN];omega
 rw[this];rfl
theorem zmv {G:Hw} {a b:Str}:fC G (.str a) (.str b)=some (decide (a=b)):=by
 simp[fC,pur,dep,yQ,Zbd]
theorem sz (n:Nat) (h:n<=3000):n<=sizeLine:=by rw[Z5];omega
theorem gZ {α:Type} {a:α} {l:List α}:(a::l)[0]?=some a:=rfl
theorem gS {α:Type} {a:α} {l:List α} {i:Nat}:(a::l)[i+1]?=l[i]?:=rfl
theorem tZ {α:Type} {a b:α} {l:List α}:(a::l).set 0 b=b::l:=rfl
theorem tS {α:Type} {a b:α} {l:List α} {i:Nat}:(a::l).set (i+1) b=a::l.set i b:=rfl
theorem yX {Γ:Ctx3} {E:XQ} {s:IS} {ss:ISs} {D:End3} {σ:qX} {G:Hw} (h:zT Γ E s { D with nx:=zI Γ E ss D } σ G):zI Γ E (.cons s ss) D σ G:=h
theorem xT {Γ:Ctx3} {E:XQ} {D:End3} {σ:qX} {G:Hw} (h:D.nx σ G):zI Γ E .nil D σ G:=h
theorem tyL {G:Hw} {o:Addr} {l:List W} (e:G o=some (.lst l)):tyW G (.ref o) "list" := by simp only[tyW,e]
theorem appL {G:Hw} {o:Addr} {l:List W} {y:W} {Q:Q3} (e:G o=some (.lst l)) (hl:l.length<1000) (h:Q .non (put G o (.lst (l++[y])))):appS (.ref o) [y] G Q:=by
 simp only[appS,e];exact ⟨by rw[Z5];omega,h⟩
theorem nL {G:Hw} {t:Addr} {xs:List W} {i:Int} {Q:Q3} (e:yG G t=some xs) (h:match rQ xs i with|some w=>Q w G|none=>False):kU (.ref t) (.int i) G Q:=by
 unfold yG at e
 split at e
 .rename_i q;cases e;simp only[kU,q];exact h
 .rename_i q;cases e;simp only[kU,q];exact h
 .cases e
theorem cA {S:List Addr} {G G':Hw} {d l:Addr} (k:zK S G G') (hd:d∉S) (hl:l∉S) (D:xA G d l):xA G' d l:=by
 obtain ⟨x,y,z,D⟩:=D;exact ⟨x,y,z,k _ _ hd D.dic,k _ _ hl D.lst,D.s0,D.s1,D.n0,D.lf,D.len,D.ne⟩
theorem vV {G:Hw} {d l p:Addr} {o:O} (h:G p=none) (D:xA G d l):xA (put G p o) d l:=cA (S:=[]) (zK.new h) 'g' 'g' D
theorem qF {G G':Hw} {d l:Addr} (k:zK [] G G') (D:xA G d l):xA G' d l:=cA k 'g' 'g' D
theorem rL {S:List Addr} {G G':Hw} (k:zK [] G G'):zK S G G':=fun a u _ e=>k a u 'g' e
theorem wH {G:Hw} {d l p:Addr} (D:xA G d l) (h:G p=none):p∉[d,l]:=by
 obtain ⟨_,_,_,D⟩:=D;simp only[Zk,ZbS,or_false,not_or];exact ⟨fun e=>(by rw[e,D.dic] at h;cases h),fun e=>(by rw[e,D.lst] at h;cases h)⟩
theorem qO {S:List Addr} {G G':Hw} {p:Addr} {o:O} (k:zK S G G') (h:G p=none):zK S G (put G' p o):=fun a u ha e=>by
 rw[yO (xU e h)];exact k a u ha e
theorem zbX {G:Hw} {d l p:Addr} {o:O} (h:p∉[d,l]) (D:xA G d l):xA (put G p o) d l:=by
 simp only[Zk,ZbS,or_false,not_or] at h;exact cA (S:=[p]) (zK.put 'g') (by simpa using Ne.symm h.1) (by simpa using Ne.symm h.2) D
theorem addS {a b:Str} {G:Hw} {Q:Q3} (h:a.length+b.length<=3000) (q:Q (.str (a++b)) G):wN .Add (.str a) (.str b) G Q:=⟨sz _ h,q⟩
def tl:ISs->ISs
 | .cons _ ss=>ss
 | .nil=>.nil
theorem zJ {G:Hw} {a b:Str}:fC G (.str a) (.str b)=some (a==b):=by simp[fC,pur,dep,yQ]
theorem zk4 {G:Hw} {a b:Bool}:fC G (.bl a) (.bl b)=some (a==b):=by simp[fC,pur,dep,yQ]
section
variable {K:yI} {C sA:Addr}
theorem fnAt {n:Nat} (i:Nat) (hi:i<n) {e:Fn3} (h:(fnL K C sA)[i]?=some e):'b'.fn[i]?=some e:=by
 show ((fnL K C sA).take n)[i]?=_;rw[ZaX hi];exact h
theorem vW {n m:Nat} (i:Nat) (hn:m<=n) {e:Fn3} (h:(fnL K C sA)[i]?=some e) (hi:i<m:=by decide):'b'.fn[i]?=some e:=fnAt i (Zn hi hn) h
end
section
variable {K:yI} {C sA:Addr}
theorem zgn {n:Nat} {ws:List W} {G:Hw} {Q:Q3} (h:kY ws G Q XN):zI 'b' XN tT { nx:=fun _ G'=>Q .non G',rt:=Q } (yT pL ws) G:=by
 obtain ⟨t,rfl,h⟩:=h;show zI 'b' XN tT { nx:=fun _ G'=>Q .non G',rt:=Q } [some t.w] G;have d1:(decide (("say" : Str) = "and"))=false/\(decide (("say" : Str) = "or"))=false/\(decide (("say" : Str) = "if"))=false/\(decide (("say" : Str) = "not"))=false:=by decide +kernel
 have d2:(decide (("not" : Str) = "and"))=false/\(decide (("not" : Str) = "or"))=false/\(decide (("not" : Str) = "if"))=false/\(decide (("not" : Str) = "not"))=true:=by decide +kernel
 have d3:(decide (("or" : Str) = "and"))=false/\(decide (("if" : Str) = "and"))=false/\(decide (("if" : Str) = "or"))=false:=by decide +kernel
 have z0:=sz 0 'c';have z1:=sz 1 'c';have z2:=sz 2 'c';cases t<;>simp only[Sy.w,tT]<;>((try dsimp only[zI,zT,zU,zQ,zH,zF,zC,zB,zS,zW,zR,zX,zZ,zY,zV,zN,zP,zE,zO,gZ,gS,tZ,tS]);try simp only[kU,uH,zA,zmv,d1,d2,d3,decide_true,if_true,if_false,zzB,zzL,zzC,zzA,z0,z1,z2,true_and])<;>exact h.of
theorem zge {n:Nat} (hn:30<=n) {ws:List W} {G:Hw} {Q:Q3} (h:kY ws G Q XN):zI 'b' XN rX { nx:=fun _ G'=>Q .non G',rt:=Q } (yT hU ws) G:=by
 obtain ⟨t,rfl,h⟩:=h
 have e3:'b'.fn[3]?=some eLst:=by
  show ((fnL K C sA).take n)[3]?=_;rw[ZaX 'd'];rfl
 have g0:'b'.gl[0]?=some (("WORDS" : Str),zb3):=rfl;show zI 'b' XN rX { nx:=fun _ G'=>Q .non G',rt:=Q } [some t.w] G;have l1:(([("say" : Str), "not", "and", "or", "if"].zip [W.tup [],.tup [.str "not"],.tup [.str "left", .str "right"],.tup [.str "which"],.tup [.str "if"]]).lookup ("say" : Str))=some (W.tup []):=by rfl
 have l2:(([("say" : Str), "not", "and", "or", "if"].zip [W.tup [],.tup [.str "not"],.tup [.str "left", .str "right"],.tup [.str "which"],.tup [.str "if"]]).lookup ("not" : Str))=some (W.tup [.str "not"]):=by
  simp[List.zip,List.zipWith,List.lookup,uO]
 have l3:(([("say" : Str), "not", "and", "or", "if"].zip [W.tup [],.tup [.str "not"],.tup [.str "left", .str "right"],.tup [.str "which"],.tup [.str "if"]]).lookup ("and" : Str))=some (W.tup [.str "left", .str "right"]):=by
  simp[List.zip,List.zipWith,List.lookup,uN,hV]
 have l4:(([("say" : Str), "not", "and", "or", "if"].zip [W.tup [],.tup [.str "not"],.tup [.str "left", .str "right"],.tup [.str "which"],.tup [.str "if"]]).lookup ("or" : Str))=some (W.tup [.str "which"]):=by
  simp[List.zip,List.zipWith,List.lookup,sX,cW,cV]
 have l5:(([("say" : Str), "not", "and", "or", "if"].zip [W.tup [],.tup [.str "not"],.tup [.str "left", .str "right"],.tup [.str "which"],.tup [.str "if"]]).lookup ("if" : Str))=some (W.tup [.str "if"]):=by
  simp[List.zip,List.zipWith,List.lookup,sW,cU,cT,zbF]
 cases t<;>simp only[Sy.w,rX]<;>((try dsimp only[zI,zT,zU,zQ,zH,zF,zC,zB,zS,zW,zR,zX,zZ,zY,zV,zN,zP,zE,zO,gZ,gS,tZ,tS]);try simp only[e3,g0,zb3,kU,uH,l1,l2,l3,l4,l5,lstS,vN])<;>exact h.of
theorem zje {n:Nat} {ws:List W} {G:Hw} {Q:Q3} (h:zch ws G Q XN):zI 'b' XN dX { nx:=fun _ G'=>Q .non G',rt:=Q } (yT zbz ws) G:=by
 obtain ⟨t,x,rfl,ok,h⟩:=h;show zI 'b' XN dX { nx:=fun _ G'=>Q .non G',rt:=Q } [some (.tup [.str x,t.w]),none,none] G;have z2:=sz 2 'c';simp only[dX]
 ((try dsimp only[zI,zT,zU,zQ,zH,zF,zC,zB,zS,zW,zR,zX,zZ,zY,zV,zN,zP,zE,zO,gZ,gS,tZ,tS]);try simp only[zA,wP,L3.inR,zzC,zzL,zzA,z2,true_and])
 refine ⟨⟨by simp[pur],by simp[yP,pur],by simp[yL,dep]⟩,?_⟩
 have hb:(([W.str "if", .str "not"]:List W).any fun w=>yQ w (.str x))=decide (x = "if" \/ x = "not"):=by
  simp[yQ,Zbd,eq_comm]
 simp only[zzB,if_false,hb,decide_eq_true_eq];unfold said at h
 split
 .rename_i hx;rw[if_pos hx] at h
  have k:∀ l,t.w=.tup l->rQ l 1=some (nZ t).w->kU t.w (.int 1) G Q:=fun l e1 e2=>by
   rw[e1];simp only[kU,e2];exact h
  rcases ok with ok|rfl
  .cases t with
   |say _=>cases ok
   |not a=>exact k _ rfl vC
   |and a b=>exact k _ rfl vC
   |or a b=>exact k _ rfl vC
   |ite a b=>exact k _ rfl vC
  .exact absurd hx 'j'
 .rename_i hx;rw[if_neg hx] at h;exact h
end
theorem Sy.tup (t:Sy):∃ l,t.w=.tup l:=by cases t<;>exact ⟨_,rfl⟩
theorem eqG_w {G:Hw} (a b:Sy) (h:a.size<=150):fC G a.w b.w=some (yQ a.w b.w):=by
 have h1:=Sy.dep a;have p1:=a.pur;have p2:=b.pur;obtain ⟨l,e⟩:=a.tup;obtain ⟨l',e'⟩:=b.tup;rw[e] at h1 p1 ⊢;rw[e'] at p2 ⊢;show (if (pur (.tup l)&&pur (.tup l')&&decide (min (dep (.tup l)) (dep (.tup l'))<=150))=true then some (yQ (.tup l) (.tup l')) else none)=_;rw[p1,p2,if_pos (by simp only[Zb5,decide_eq_true_eq];omega)]
section
variable {K:yI} {C sA:Addr}
end
theorem zcH:(("begin" : Str) == "left")=false:=by decide +kernel
theorem zbu:(("begin" : Str) == "right")=false:=by decide +kernel
theorem zfP:(("begin" : Str) == "if")=false:=by decide +kernel
theorem zbt:(("begin" : Str) == "which")=false:=by decide +kernel
theorem zdR:(("begin" : Str) == "not")=false:=by decide +kernel
theorem zcG:(("left" : Str) == "begin")=false:=by decide +kernel
theorem zcF:(("left" : Str) == "right")=false:=by decide +kernel
theorem zg8:(("left" : Str) == "if")=false:=by decide +kernel
theorem zcE:(("left" : Str) == "which")=false:=by decide +kernel
theorem zfL:(("left" : Str) == "not")=false:=by decide +kernel
theorem zbs:(("right" : Str) == "begin")=false:=by decide +kernel
theorem zcD:(("right" : Str) == "left")=false:=by decide +kernel
theorem zfJ:(("right" : Str) == "if")=false:=by decide +kernel
theorem zbr:(("right" : Str) == "which")=false:=by decide +kernel
theorem zdN:(("right" : Str) == "not")=false:=by decide +kernel
theorem zfO:(("if" : Str) == "begin")=false:=by decide +kernel
theorem zg9:(("if" : Str) == "left")=false:=by decide +kernel
theorem zfN:(("if" : Str) == "right")=false:=by decide +kernel
theorem zfM:(("if" : Str) == "which")=false:=by decide +kernel
theorem zjk:(("if" : Str) == "not")=false:=by decide +kernel
theorem zbq:(("which" : Str) == "begin")=false:=by decide +kernel
theorem zcC:(("which" : Str) == "left")=false:=by decide +kernel
theorem zbp:(("which" : Str) == "right")=false:=by decide +kernel
theorem zfI:(("which" : Str) == "if")=false:=by decide +kernel
theorem zdM:(("which" : Str) == "not")=false:=by decide +kernel
theorem zdQ:(("not" : Str) == "begin")=false:=by decide +kernel
theorem zfK:(("not" : Str) == "left")=false:=by decide +kernel
theorem zdP:(("not" : Str) == "right")=false:=by decide +kernel
theorem zeW:(("not" : Str) == "if")=false:=by decide +kernel
theorem zdO:(("not" : Str) == "which")=false:=by decide +kernel
theorem qs:((("begin" : Str) == "left")=false)/\((("begin" : Str) == "right")=false)/\((("begin" : Str) == "if")=false)/\((("begin" : Str) == "which")=false)/\((("begin" : Str) == "not")=false)/\((("left" : Str) == "begin")=false)/\((("left" : Str) == "right")=false)/\((("left" : Str) == "if")=false)/\((("left" : Str) == "which")=false)/\((("left" : Str) == "not")=false)/\((("right" : Str) == "begin")=false)/\((("right" : Str) == "left")=false)/\((("right" : Str) == "if")=false)/\((("right" : Str) == "which")=false)/\((("right" : Str) == "not")=false)/\((("if" : Str) == "begin")=false)/\((("if" : Str) == "left")=false)/\((("if" : Str) == "right")=false)/\((("if" : Str) == "which")=false)/\((("if" : Str) == "not")=false)/\((("which" : Str) == "begin")=false)/\((("which" : Str) == "left")=false)/\((("which" : Str) == "right")=false)/\((("which" : Str) == "if")=false)/\((("which" : Str) == "not")=false)/\((("not" : Str) == "begin")=false)/\((("not" : Str) == "left")=false)/\((("not" : Str) == "right")=false)/\((("not" : Str) == "if")=false)/\((("not" : Str) == "which")=false):=⟨zcH,zbu,zfP,zbt,zdR,zcG,zcF,zg8,zcE,zfL,zbs,zcD,zfJ,zbr,zdN,zfO,zg9,zfN,zfM,zjk,zbq,zcC,zbp,zfI,zdM,zdQ,zfK,zdP,zeW,zdO⟩
theorem jQ {a b:Str}:yQ (.str a) (.str b)=(a==b):=by simp[yQ]
theorem cut3 {x a b:W}:cut [x,a,b] (some 1) none=[a,b]:=by rfl
theorem zcL {x:Str} {t:Sy} {P:Str->Sy->Prop} (ok:okD x t) (h0:∀ t,P "begin" t) (h1:∀ a,P "not" (.not a)) (h2:∀ a b,P "left" (.and a b)) (h3:∀ a b,P "right" (.and a b)) (h4:∀ a b,P "which" (.or a b)) (h5:∀ a b,P "if" (.ite a b)):P x t:=by
 rcases ok with ok|rfl
 .cases t with
  |say _=>cases ok
  |not a=>rw[zzO ok];exact h1 a
  |and a b =>
   rcases Zk.mp ok with rfl|ok
   .exact h2 a b
   .rw[zzO ok];exact h3 a b
  |or a b=>rw[zzO ok];exact h4 a b
  |ite a b=>rw[zzO ok];exact h5 a b
 .exact h0 t
theorem zdu (t:Sy):ans "begin" t=[t.w]:=by rw[ans,if_pos rfl]
theorem ziK (a:Sy):ans "not" (.not a)=[]:=by
 rw[ans,if_neg 'j',if_neg 'j',if_neg 'j',if_neg 'j']
theorem zfw (a b:Sy):ans "left" (.and a b)=[a.w]:=by
 rw[ans,if_neg 'j',if_pos rfl];rfl
theorem zdt (a b:Sy):ans "right" (.and a b)=[b.w]:=by
 rw[ans,if_neg 'j',if_neg 'j',if_pos (.inl rfl)];rfl
theorem zlc (a b:Sy):ans "if" (.ite a b)=[b.w]:=by
 rw[ans,if_neg 'j',if_neg 'j',if_pos (.inr rfl)];rfl
theorem zds (a b:Sy):ans "which" (.or a b)=once a b:=by
 rw[ans,if_neg 'j',if_neg 'j',if_neg 'j',if_pos rfl];rfl
section
variable {K:yI} {C sA:Addr}
theorem zjT {n:Nat} (hn:22<=n) {ws:List W} {G:Hw} {Q:Q3} (h:mV ws G Q XN):zI 'b' XN yA { nx:=fun _ G'=>Q .non G',rt:=Q } (yT tI ws) G:=by
 obtain ⟨t,x,rfl,ok,hs,h⟩:=h;have e5:'b'.fn[6]?=some eSrt:=vW 6 hn rfl;have e6:'b'.fn[8]?=some eInt:=vW 8 hn rfl;have z0:=sz 0 'c';have z1:=sz 1 'c';have z2:=sz 2 'c';show zI 'b' XN yA { nx:=fun _ G'=>Q .non G',rt:=Q } [some (.tup [.str x,t.w]),none,none,none] G;revert hs h;refine zcL (P:=fun x t=>t.size<=21->Fr (ans x t) G Q->zI 'b' XN yA { nx:=fun _ G'=>Q .non G',rt:=Q } [some (.tup [.str x,t.w]),none,none,none] G) ok ?_ ?_ ?_ ?_ ?_ ?_
 .intro t hs h;rw[zdu] at h;simp only[yA]
  repeat (refine yX ?_;erw[zA,wP,L3.inR,zJ,beq_self_eq_true,qs,zzB,if_false,if_true,zzL,zzC,zzA,Nat.reduceAdd,true_and,Zz,ZT,jQ,ZG,ZD,ZZ,ZO,pur,yP,dep,yL,ZM,Z0,ZU,Zg,and_self,z0,z1,z2];try refine xT (Γ:=yW K C sA n) (E:=XN) ?_)
  exact h.of
 .intro a hs h;rw[ziK] at h;simp only[yA]
  repeat (refine yX ?_;erw[zA,wP,L3.inR,zJ,beq_self_eq_true,qs,zzB,if_false,if_true,zzL,zzC,zzA,Nat.reduceAdd,true_and,Zz,ZT,jQ,ZG,ZD,ZZ,ZO,pur,yP,dep,yL,ZM,Z0,ZU,Zg,and_self,z0,z1,z2];try refine xT (Γ:=yW K C sA n) (E:=XN) ?_)
  exact h.of
 .intro a b hs h;rw[zfw] at h;simp only[yA]
  repeat (refine yX ?_;erw[zA,wP,L3.inR,zJ,beq_self_eq_true,qs,zzB,if_false,if_true,zzL,zzC,zzA,Nat.reduceAdd,true_and,Zz,ZT,jQ,ZG,ZD,ZZ,ZO,pur,yP,dep,yL,ZM,Z0,ZU,Zg,and_self,z0,z1,z2,Sy.w,kU,vC];try refine xT (Γ:=yW K C sA n) (E:=XN) ?_)
  exact h.of
 .intro a b hs h;rw[zdt] at h;simp only[yA]
  repeat (refine yX ?_;erw[zA,wP,L3.inR,zJ,beq_self_eq_true,qs,zzB,if_false,if_true,zzL,zzC,zzA,Nat.reduceAdd,true_and,Zz,ZT,jQ,ZG,ZD,ZZ,ZO,pur,yP,dep,yL,ZM,Z0,ZU,Zg,and_self,z0,z1,z2,Sy.w,kU,at_2];try refine xT (Γ:=yW K C sA n) (E:=XN) ?_)
  exact h.of
 .intro a b hs h;rw[zds] at h;simp only[yA]
  repeat (refine yX ?_;erw[zA,wP,L3.inR,zJ,beq_self_eq_true,qs,zzB,if_false,if_true,zzL,zzC,zzA,Nat.reduceAdd,true_and,Zz,ZT,jQ,ZG,ZD,ZZ,ZO,pur,yP,dep,yL,ZM,Z0,ZU,Zg,and_self,z0,z1,z2,Sy.w,kU,vC,at_2,e5,e6,zdA,vN];try refine xT (Γ:=yW K C sA n) (E:=XN) ?_)
  intro p hp;simp only[Sy.size] at hs;obtain ⟨us,eu,lu,su⟩:=zdw [a,b];have su:=su 21 (by simp;omega)
  obtain ⟨x,y,rfl⟩:∃ x y,us=[x,y]:=by
   match us,lu with
   | [x,y],_=>exact ⟨x,y,rfl⟩
  have hx:x.size<=21:=su x 'g';have hy:y.size<=21:=su y 'g';refine ⟨[a.w,b.w],zL zM,srtb (ts:=[a,b]) (by show 2<64;decide) (by simp;omega),fun s hs'=>?_⟩;have eu:srt [a.w,b.w]=[x.w,y.w]:=eu;have eo:once a b=rO [x.w,y.w]:=by unfold once;rw[eu]
  rw[eo] at h;rw[eu];generalize eG:put (put G p (.lst [a.w,b.w])) s (.lst [x.w,y.w])=G1;have g1:G1 s=some (.lst [x.w,y.w]):=by rw[← eG];exact zM
  have k1:zK [] G G1:=by rw[← eG];exact (zK.new hp).trans (zK.new hs')
  refine yX ?_
  erw[zA,wP,L3.inR,zJ,beq_self_eq_true,qs,zzB,if_false,if_true,zzL,zzC,zzA,Nat.reduceAdd,true_and,Zz,ZT,jQ,ZG,ZD,ZZ,ZO,pur,yP,dep,yL,ZM,Z0,ZU,Zg,and_self,e6,kU,g1,uH,vC,eqG_w x y (show x.size<=150 by omega),rF,wN,slR,zL g1]
  have h1:=(h.keep k1).of
  cases q:yQ x.w y.w with
  |true =>
   have:rO [x.w,y.w]=cut [x.w,y.w] none (some (1+if (!true)=true then 1 else 0)):=by simp[rO,q];rfl
   rw[this] at h1;exact h1
  |false =>
   have:rO [x.w,y.w]=cut [x.w,y.w] none (some (1+if (!false)=true then 1 else 0)):=by simp[rO,q];rfl
   rw[this] at h1;exact h1
 .intro a b hs h;rw[zlc] at h;simp only[yA]
  repeat (refine yX ?_;erw[zA,wP,L3.inR,zJ,beq_self_eq_true,qs,zzB,if_false,if_true,zzL,zzC,zzA,Nat.reduceAdd,true_and,Zz,ZT,jQ,ZG,ZD,ZZ,ZO,pur,yP,dep,yL,ZM,Z0,ZU,Zg,and_self,z0,z1,z2,Sy.w,kU,at_2];try refine xT (Γ:=yW K C sA n) (E:=XN) ?_)
  exact h.of
end
theorem ziF {xs:List Str} {i:Int} (h0:0<=i) (h1:i<xs.length):∃ x∈xs,rQ (xs.map W.str) i=some (.str x):=by
 have hi:i.toNat<xs.length:=by omega
 refine ⟨xs[i.toNat],ZB hi,?_⟩;unfold rQ ixN;rw[if_pos h0,zzM,if_pos h1];show (xs.map W.str)[i.toNat]?=_;rw[Zx,Zf hi];rfl
section
variable {K:yI} {C sA:Addr}
theorem zfG {n:Nat} {ws:List W} {G:Hw} {Q:Q3} (h:wL (n+1) ws G Q XN):zI (wX K C sA 13 ⟨"_law_saying", wL n⟩) XN vE { nx:=fun _ G'=>Q .non G',rt:=Q } (yT sJ ws) G:=by
 obtain ⟨d,l,r,m,xs,rfl,D,hr,gr,hx,hxl,m1,mn,m100,h⟩:=h;have e1:(wX K C sA 13 ⟨"_law_saying", wL n⟩).fn[1]?=some eLen:=rfl;have e8:(wX K C sA 13 ⟨"_law_saying", wL n⟩).fn[11]?=some fB:=rfl;have e9:(wX K C sA 13 ⟨"_law_saying", wL n⟩).fn[13]?=some ⟨"_law_saying", wL n⟩:=rfl;have z2:=sz 2 'c';have z3:=sz 3 'c';have x0:0<xs.length:=Z2.mpr hx;show zI (wX K C sA 13 ⟨"_law_saying", wL n⟩) XN vE { nx:=fun _ G'=>Q .non G',rt:=Q } [d⁻¹,r⁻¹,some (.int m),none,none,none] G;simp only[vE]
 ((try dsimp only[zI,zT,zU,zQ,zH,zF,zC,zB,zS,zW,zR,zX,zZ,zY,zV,zN,zP,zE,zO,gZ,gS,tZ,tS]);try simp only[zA,kT,e1,e8,e9,gM,gN,gr,zzM])
 by_cases hm1:m=1
 .subst hm1;rw[if_pos 'g'];refine ⟨d,l,xs.length,rfl,D,⟨by omega,by omega⟩,fun i G1 i0 i1 kp D1=>?_⟩;obtain ⟨x,_,ex⟩:=ziF i0 i1;refine nL (zL (kp _ _ hr gr)) ?_;rw[ex];exact ⟨z2,h (.say x) G1 (by show ((1:Nat):Int)<=1;decide) kp D1⟩
 rw[if_neg (by simpa using hm1)];refine ⟨d,l,4,rfl,D,by decide,fun way G1 w0 w1 kp1 D1=>?_⟩;have gr1:=kp1 _ _ hr gr
 (try dsimp only[zI,zT,zU,zQ,zH,zF,zC,zB,zS,zW,zR,zX,zZ,zY,zV,zN,zP,zE,zO,gZ,gS,tZ,tS])
 have hnot:zI (wX K C sA 13 ⟨"_law_saying", wL n⟩) XN {.ret (.tup {"not"⁻¹,.call 13 {.var 0,.var 1,.bin .Sub (.var 2) 1⁻¹}})} { nx:=fun _ G'=>Q .non G',rt:=Q } [d⁻¹,r⁻¹,some (.int m),some (.int way),none,none] G1:=by
  ((try dsimp only[zI,zT,zU,zQ,zH,zF,zC,zB,zS,zW,zR,zX,zZ,zY,zV,zN,zP,zE,zO,gZ,gS,tZ,tS]);try simp only[wN,e9])
  refine ⟨d,l,r,m-1,xs,rfl,D1,hr,gr1,hx,hxl,by omega,by omega,by omega,fun t G2 hs kp2 D2=>⟨z2,h (.not t) G2 ?_ (kp1.trans kp2) D2⟩⟩;show ((t.size+1:Nat):Int)<=m;omega
 (try dsimp only[zI,zT,zU,zQ,zH,zF,zC,zB,zS,zW,zR,zX,zZ,zY,zV,zN,zP,zE,zO,gZ,gS,tZ,tS] at hnot)
 by_cases hm2:m=2
 .subst hm2;simp only[decide_true,if_true];exact hnot
 simp only[decide_eq_false hm2,zzB,if_false,kT]
 by_cases hw:way=3
 .subst hw;simp only[decide_true,if_true];exact hnot
 simp only[decide_eq_false hw,zzB,if_false,wN];refine ⟨d,l,m-2,rfl,D1,⟨by omega,by omega⟩,fun i G2 i0 i1 kp2 D2=>?_⟩;have gr2:=kp2 _ _ hr gr1
 ((try dsimp only[zI,zT,zU,zQ,zH,zF,zC,zB,zS,zW,zR,zX,zZ,zY,zV,zN,zP,zE,zO,gZ,gS,tZ,tS]);try simp only[e9])
 refine ⟨d,l,r,1+i,xs,rfl,D2,hr,gr2,hx,hxl,by omega,by omega,by omega,fun a G3 ha kp3 D3=>?_⟩;have gr3:=kp3 _ _ hr gr2
 ((try dsimp only[zI,zT,zU,zQ,zH,zF,zC,zB,zS,zW,zR,zX,zZ,zY,zV,zN,zP,zE,zO,gZ,gS,tZ,tS]);try simp only[zzC,zzL,zzA,Nat.reduceAdd,z3,true_and])
 intro p hp;have D4:=vV (o:=.lst [.str "and", .str "or", .str "if"]) hp D3;have k4:zK [d,l] G3 (put G3 p (.lst [.str "and", .str "or", .str "if"])):=zK.new hp;have gr4:=k4 _ _ hr gr3;refine nL (zL zM) ?_;have kp4:=((kp1.trans kp2).trans kp3).trans k4
 have fin:∀ (x:Str) (mk:Sy->Sy->Sy),(∀ a b,(mk a b).w=.tup [.str x,a.w,b.w])->(∀ a b,(mk a b).size=a.size+b.size+1) ->
   wL n [.ref d,.ref r,.int (m-1-(1+i))] (put G3 p (.lst [.str "and", .str "or", .str "if"])) (fun b G5=>Q (.tup [.str x,a.w,b]) G5) XN:=fun x mk ew es =>
  ⟨d,l,r,m-1-(1+i),xs,rfl,D4,hr,gr4,hx,hxl,by omega,by omega,by omega,fun b G5 hb kp5 D5=>by
   show Q (.tup [.str x,a.w,b.w]) G5;rw[← ew];refine h (mk a b) G5 ?_ (kp4.trans kp5) D5;rw[es];omega⟩
 have hc:way=0\/way=1\/way=2:=by omega
 rcases hc with rfl|rfl|rfl
 .rw[uH];((try dsimp only[zI,zT,zU,zQ,zH,zF,zC,zB,zS,zW,zR,zX,zZ,zY,zV,zN,zP,zE,zO,gZ,gS,tZ,tS]);try simp only[e9,wN,z3,true_and]);exact fin "and" .and (fun _ _=>rfl) fun _ _=>rfl
 .rw[vC];((try dsimp only[zI,zT,zU,zQ,zH,zF,zC,zB,zS,zW,zR,zX,zZ,zY,zV,zN,zP,zE,zO,gZ,gS,tZ,tS]);try simp only[e9,wN,z3,true_and]);exact fin "or" .or (fun _ _=>rfl) fun _ _=>rfl
 .rw[at_2];((try dsimp only[zI,zT,zU,zQ,zH,zF,zC,zB,zS,zW,zR,zX,zZ,zY,zV,zN,zP,zE,zO,gZ,gS,tZ,tS]);try simp only[e9,wN,z3,true_and]);exact fin "if" .ite (fun _ _=>rfl) fun _ _=>rfl
end
theorem Sy.st:∀ t:Sy,L3.st t.w=true
 | .say _=>by simp[Sy.w,L3.st,qA]
 | .not a=>by simp[Sy.w,L3.st,qA,Sy.st a]
 | .and a b=>by simp[Sy.w,L3.st,qA,Sy.st a,Sy.st b]
 | .or a b=>by simp[Sy.w,L3.st,qA,Sy.st a,Sy.st b]
 | .ite a b=>by simp[Sy.w,L3.st,qA,Sy.st a,Sy.st b]
theorem sB (t:Sy):(nZ t).size<=t.size:=by cases t<;>simp only[nZ,Sy.size]<;>omega
theorem zmb (t:Sy):(kid2 t).size<=t.size:=by cases t<;>simp only[kid2,Sy.size]<;>omega
theorem dP {x:Str} {t:Sy}:∃ us:List Sy,ans x t=us.map Sy.w/\us.length<=2/\∀ u∈us,u.size<=t.size:=by
 have h1:=sB t;have h2:=zmb t;unfold ans
 split
 .exact ⟨[t],rfl,by simp,by simp⟩
 .split
  .exact ⟨[nZ t],rfl,by simp,by simpa using h1⟩
  .split
   .exact ⟨[kid2 t],rfl,by simp,by simpa using h2⟩
   .split
    .obtain ⟨us,eu,lu,su⟩:=zdw [nZ t,kid2 t];have su:=su t.size (by simp;exact ⟨h1,h2⟩)
     obtain ⟨a,b,rfl⟩:∃ a b,us=[a,b]:=by
      match us,lu with
      | [a,b],_=>exact ⟨a,b,rfl⟩
     have eu:srt [(nZ t).w,(kid2 t).w]=[a.w,b.w]:=eu;unfold once;rw[eu];unfold rO;dsimp only
     split
     .exact ⟨[a],rfl,by simp,by simpa using su a 'g'⟩
     .exact ⟨[a,b],rfl,by simp,su⟩
    .exact ⟨[],rfl,by simp,by simp⟩
theorem vJ {a:W} {l:List W} {G:Hw} {Q:Q3}:kU (.tup (a::l)) (.int 0) G Q=Q a G:=by simp only[kU,uH]
theorem bF {a b:W} {l:List W} {G:Hw} {Q:Q3}:kU (.tup (a::b::l)) (.int 1) G Q=Q b G:=by simp only[kU,vC]
theorem vS (t:Sy):pur t.w=true:=t.pur
theorem vO {t:Sy} (h:t.size<=20):dep t.w<=20:=Zb (Sy.dep t) h
theorem fU (ts:List Sy):yP (ts.map Sy.w)=true:=pS ts
theorem fA:∀ {ts:List Sy},(∀ t∈ts,t.size<=20)->yL (ts.map Sy.w)<=20
 | [],_=>Zg _
 |t::ts,h=>by
  have h1:=vO (h t zzT);have h2:=fA (ts:=ts) fun x hx=>h x (Zd _ hx);simp only[zzU,yL];omega
theorem pR (p:Str×Sy):pur (dW p)=true:=by simp only[dW,pur,yP,vS];rfl
theorem zfp {p:Str×Sy} (h:p.2.size<=20):dep (dW p)<=21:=by
 have:=vO h;simp only[dW,dep,yL];omega
theorem fT:∀ ts:List (Str×Sy),yP (ts.map dW)=true
 | []=>rfl
 |t::ts=>by simp only[zzU,yP,pR t,fT ts];rfl
theorem dZ:∀ {ts:List (Str×Sy)},(∀ t∈ts,t.2.size<=20)->yL (ts.map dW)<=21
 | [],_=>Zg _
 |t::ts,h=>by
  have h1:=zfp (h t zzT);have h2:=dZ (ts:=ts) fun x hx=>h x (Zd _ hx);simp only[zzU,yL];omega
theorem inW {w:W} {ws:List W} {G:Hw} {Q:Q3} (p:pur w=true) (ps:yP ws=true) (d:yL ws<=100) (q:Q (.bl (inL ws w)) G):L3.inR false w ws G Q:=⟨⟨p,ps,by omega⟩,q⟩
theorem eqP {x y:W} {G:Hw} (hx:pur x=true) (hy:pur y=true) (hd:dep x<=100) (nx:∀ p,x≠.ref p):fC G x y=some (yQ x y):=by
 have c:(pur x&&pur y&&decide (min (dep x) (dep y)<=150))=true:=by
  rw[hx,hy,decide_eq_true 'd'];rfl
 cases x with
 |ref p=>exact absurd rfl (nx p)
 |_=>exact if_pos c
section
variable {K:yI} {C sA:Addr}
theorem ziO {n:Nat} (hn:16<=n) {ws:List W} {G:Hw} {Q:Q3} (h:zcg ws G Q XN):zI 'b' XN xD { nx:=fun _ G'=>Q .non G',rt:=Q } (yT hG ws) G:=by
 obtain ⟨d,l,t,rfl,D,h⟩:=h;have e1:'b'.fn[1]?=some eLen:=vW 1 hn rfl;have e11:'b'.fn[11]?=some fB:=vW 11 hn rfl;have t3:'b'.mt[3]?=some eGet:=rfl;have z1:=sz 1 'c';have z2:=sz 2 'c';have z5:=sz 5 'c';show zI 'b' XN xD { nx:=fun _ G'=>Q .non G',rt:=Q } [d⁻¹,some t.w,none,none] G
 have fin:∀ (q:Addr) (xs:List Str) (v:Option W) (G':Hw),zK [d,l] G G'->xA G' d l->q∉[d,l]->G' q=some (.lst (xs.map .str))->1<=xs.length->xs.length<=5->zI 'b' XN (tl (tl (tl xD))) { nx:=fun _ G'=>Q .non G',rt:=Q } [d⁻¹,some t.w,v,q⁻¹] G':=by
  intro q xs v G' k D' hq gq h1 h5;simp only[xD,tl];refine yX ?_
  erw[e11,e1,gM,gN,gq,zzM]
  refine ⟨d,l,xs.length,rfl,D',⟨by omega,by omega⟩,fun i G2 i0 i1 k2 D2=>?_⟩;obtain ⟨x,_,ex⟩:=ziF i0 i1;refine nL (zL (k2 _ _ hq gq)) ?_;rw[ex];exact h x G2 (k.trans k2) D2
 simp only[xD,tl] at fin;simp only[xD];refine yX ?_
 erw[zzC,zzL,zzA,Nat.reduceAdd,z1,z2,true_and]
 intro pd hpd;have k0:zK [d,l] G (put G pd (.dic [])):=zK.new hpd;have D0:=vV (o:=.dic []) hpd D;have g0:(put G pd (.dic [])) pd=some (.dic []):=zM;have nd:=wH D hpd;generalize put G pd (.dic [])=G0 at k0 D0 g0 ⊢;intro p1 h1;have k1:zK [] G0 (put G0 p1 (.lst [.str "left", .str "right"])):=zK.new h1;have g1:(put G0 p1 (.lst [.str "left", .str "right"])) p1=some (.lst ((["left", "right"]:List Str).map .str)):=zM;have n1:=wH D0 h1;generalize put G0 p1 (.lst [.str "left", .str "right"])=G1 at k1 g1 ⊢;have D1:=qF k1 D0;intro p2 h2;have k2:zK [] G1 (put G1 p2 (.lst [.str "which"])):=zK.new h2;have g2:(put G1 p2 (.lst [.str "which"])) p2=some (.lst ((["which"]:List Str).map .str)):=zM;have n2:=wH D1 h2;generalize put G1 p2 (.lst [.str "which"])=G2 at k2 g2 ⊢;have D2:=qF k2 D1;intro p3 h3;have k3:zK [] G2 (put G2 p3 (.lst [.str "if"])):=zK.new h3;have g3:(put G2 p3 (.lst [.str "if"])) p3=some (.lst ((["if"]:List Str).map .str)):=zM;have n3:=wH D2 h3;generalize put G2 p3 (.lst [.str "if"])=G3 at k3 g3 ⊢;have D3:=qF k3 D2;intro p4 h4;have k4:zK [] G3 (put G3 p4 (.lst [.str "not"])):=zK.new h4;have g4:(put G3 p4 (.lst [.str "not"])) p4=some (.lst ((["not"]:List Str).map .str)):=zM;have n4:=wH D3 h4;generalize put G3 p4 (.lst [.str "not"])=G4 at k4 g4 ⊢;have D4:=qF k4 D3;have g3:=k4 _ _ 'g' g3;have g2:=(k3.trans k4) _ _ 'g' g2;have g1:=(k2.trans (k3.trans k4)) _ _ 'g' g1;have gd:=(k1.trans (k2.trans (k3.trans k4))) _ _ 'g' g0;have kk:zK [d,l] G G4:=k0.trans (rL (k1.trans (k2.trans (k3.trans k4))));refine ⟨gd,?_⟩;have ed:zkj ["and", "or", "if", "not"] [.ref p1,.ref p2,.ref p3,.ref p4]=[(.inr "and", .ref p1),(.inr "or", .ref p2),(.inr "if", .ref p3),(.inr "not", .ref p4)]:=rfl;rw[ed];have ne:∀ {p:Addr} {xs:List W},G4 p=some (.lst xs)->p≠pd:=fun e z=>by rw[z,gd] at e;cases e
 have off:=fun (p:Addr) (xs:List W) (e:G4 p=some (.lst xs))=>(yO (o:=O.dic [(.inr "and", .ref p1),(.inr "or", .ref p2),(.inr "if", .ref p3),(.inr "not", .ref p4)]) (ne e)).trans e;have g1:=off _ _ g1;have g2:=off _ _ g2;have g3:=off _ _ g3;have g4:=off _ _ g4;have g5:(put G4 pd (.dic [(.inr "and", .ref p1),(.inr "or", .ref p2),(.inr "if", .ref p3),(.inr "not", .ref p4)])) pd=some (.dic [(.inr "and", .ref p1),(.inr "or", .ref p2),(.inr "if", .ref p3),(.inr "not", .ref p4)]):=zM;have k5:zK [d,l] G (put G4 pd (.dic [(.inr "and", .ref p1),(.inr "or", .ref p2),(.inr "if", .ref p3),(.inr "not", .ref p4)])):=qO kk hpd;have D5:=zbX (o:=.dic [(.inr "and", .ref p1),(.inr "or", .ref p2),(.inr "if", .ref p3),(.inr "not", .ref p4)]) nd D4;generalize put G4 pd (.dic [(.inr "and", .ref p1),(.inr "or", .ref p2),(.inr "if", .ref p3),(.inr "not", .ref p4)])=G5 at g1 g2 g3 g4 g5 k5 D5 ⊢;refine yX ?_
 erw[zzC,zzL,zzA,Nat.reduceAdd,z5,true_and]
 intro p6 h6;have k6:zK [] G5 (put G5 p6 (.lst [.str "left", .str "right", .str "which", .str "if", .str "not"])):=zK.new h6;have g6:(put G5 p6 (.lst [.str "left", .str "right", .str "which", .str "if", .str "not"])) p6=some (.lst ((["left", "right", "which", "if", "not"]:List Str).map .str)):=zM;have n6:=wH D5 h6;generalize put G5 p6 (.lst [.str "left", .str "right", .str "which", .str "if", .str "not"])=G6 at k6 g6 ⊢;have D6:=qF k6 D5;refine yX ?_
 erw[e11]
 refine ⟨d,l,4,rfl,D6,by decide,fun q G7 q0 q1 k7 D7=>?_⟩;have kz:zK [d,l] G5 G7:=(rL k6).trans k7;have kk7:zK [d,l] G G7:=k5.trans kz;have g6:=k7 _ _ n6 g6;simp only[zA,mZ]
 by_cases hq:0<q
 .rw[if_pos (by simpa using hq)];refine yX ?_;have gd7:=kz _ _ nd g5
  erw[t3]
  refine ⟨by simp only[tyW,gd7],?_⟩
  have on:∀ (x:Str) (p:Addr) (xs:List Str) (r:List W),t.w=.tup (.str x::r)->(cB [(.inr "and", W.ref p1),(.inr "or", .ref p2),(.inr "if", .ref p3),(.inr "not", .ref p4)] (.inr x)).getD (.ref p6)=.ref p->p∉[d,l]->G7 p=some (.lst (xs.map .str))->1<=xs.length->xs.length<=5 ->
    kU t.w (.int 0) G7 fun w G1=>dg2S (.ref pd) [w,.ref p6] G1 fun w G1=>zI 'b' XN .nil { nx:=zI 'b' XN (tl (tl (tl xD))) { nx:=fun _ G'=>Q .non G',rt:=Q },rt:=Q } [d⁻¹,some t.w,pd⁻¹,some w] G1:=by
   intro x p xs r ew eg hp gp h1 h5;simp only[ew,vJ,dg2S,gd7];rw[eg];refine xT ?_;simp only[xD,tl];rw[← ew];exact fin p xs _ G7 kk7 D7 hp gp h1 h5
  simp only[xD,tl] at on
  cases t with
  |say y=>exact on "say" p6 ["left", "right", "which", "if", "not"] _ rfl rfl n6 g6 'c' 'c'
  |not a=>exact on "not" p4 ["not"] _ rfl rfl n4 (kz _ _ n4 g4) 'c' 'c'
  |and a b=>exact on "and" p1 ["left", "right"] _ rfl rfl n1 (kz _ _ n1 g1) 'c' 'c'
  |or a b=>exact on "or" p2 ["which"] _ rfl rfl n2 (kz _ _ n2 g2) 'c' 'c'
  |ite a b=>exact on "if" p3 ["if"] _ rfl rfl n3 (kz _ _ n3 g3) 'c' 'c'
 .rw[if_neg (by simpa using hq)];refine xT ?_;exact fin p6 _ _ G7 kk7 D7 n6 g6 'c' 'c'
end
theorem nV {x:W} {r:List W}:cut (x::r) (some 1) none=r:=by
 unfold cut HT.jN;simp
def xZ (ts:List Cd):List Cd:=ts.flatMap yK
theorem nC (t:Cd):yK t=t::xZ (jO t):=by cases t<;>simp[yK,jO,xZ]
theorem xG:∀ t:Cd,(yK t).length=t.size
 | .any=>rfl
 | .one _ _=>rfl
 | .two _ _ _=>rfl
 | .neg a=>by simp[yK,Cd.size,xG a]
 | .bin _ a b=>by simp[yK,Cd.size,xG a,xG b]
theorem Cd.pos:∀ t:Cd,1<=t.size
 | .any=>zzR _
 | .one _ _=>zzR _
 | .two _ _ _=>zzR _
 | .neg _=>Zav _ _
 | .bin _ _ _=>Zav _ _
theorem nG (a b:List Cd):xZ (a++b)=xZ a++xZ b:=by simp[xZ]
theorem zdd (a:Cd):xZ [a]=yK a:=by simp[xZ]
def wD (ts:List Cd):Nat:=(xZ ts).length
theorem bZ (a b:List Cd):wD (a++b)=wD a+wD b:=by simp[wD,nG]
theorem nH:∀ ts:List Cd,ts.length<=wD ts
 | []=>Zg _
 |t::ts=>by
  have h1:=t.pos;have h2:=nH ts;have e:wD (t::ts)=(yK t).length+wD ts:=by simp[wD,xZ]
  rw[e,xG,Ze];omega
theorem zgf (t:Cd):wD (jO t)+1=t.size:=by
 have:=xG t;rw[nC] at this;simpa[wD] using this
theorem zhV {G:Hw} {p:Addr} {ws:List W} {R:List W->(Hw->Prop)->Hw->Prop} (h:G p=some (.lst ws)) (q:R ws (fun G'=>yG G' p=some ws) G):xH (.ref p) G R:=by
 simp only[xH,zL h];exact q
theorem sR {ws:List W} {w:W} (hw:w∈ws):dep w<=yL ws:=by
 induction ws with
 |nil=>cases hw
 |cons x r ih =>
  simp only[yL];rcases Zk.mp hw with rfl|hw
  .exact Nat.le_max_left _ _
  .exact Zb (ih hw) (Nat.le_max_right _ _)
theorem zmI {ws:List W} {w:W} (hw:w∈ws):dep w<dep (.tup ws):=by
 have:=sR hw;simp only[dep];omega
section
variable {K:yI} {C sA:Addr}
theorem zfy {n:Nat} {ws:List W} {G:Hw} {Q:Q3} (h:gA sA ws G Q XN):zI 'b' XN tU { nx:=fun _ G'=>Q .non G',rt:=Q } (yT pM ws) G:=by
 obtain ⟨t,rfl,ts,h⟩:=h;have t0:'b'.mt[0]?=some ePop:=rfl;have t2:'b'.mt[2]?=some eApp:=rfl;have t3:'b'.mt[4]?=some eExt:=rfl;have s1:'b'.sx[1]?=some ⟨rvM,rvS⟩:=rfl;have s3:'b'.sx[2]?=some ⟨hcM "sides_of", hcS sA wB⟩:=rfl;have z0:=sz 0 'c';have z1:=sz 1 'c';show zI 'b' XN tU { nx:=fun _ G'=>Q .non G',rt:=Q } [some t.w,sA⁻¹,none,none,none] G;simp only[tU];refine yX ?_
 erw[Zj,z0,true_and]
 intro pf hf;have kf:zK [] G (put G pf (.lst [])):=zK.new hf;have gf:(put G pf (.lst [])) pf=some (.lst []):=zM;generalize put G pf (.lst [])=G1 at kf gf ⊢;refine yX ?_
 erw[zzC,zzL,zzA,z1,true_and]
 intro pw hw;have kw':zK [] G1 (put G1 pw (.lst [t.w])):=zK.new hw;have gw:(put G1 pw (.lst [t.w])) pw=some (.lst [t.w]):=zM;have gf:=kw' _ _ 'g' gf;have ne:pf≠pw:=fun e=>by rw[e,gw] at gf;cases gf
 have hw0:G pw=none:=kf.none 'g' hw;have k2:zK [] G (put G1 pw (.lst [t.w])):=kf.trans kw';generalize put G1 pw (.lst [t.w])=G2 at k2 gw gf ⊢;refine yX ?_;refine ⟨fun m σ G'=>∃ (fs st:List Cd) (v:Option W),σ=[some t.w,sA⁻¹,pf⁻¹,pw⁻¹,v]/\G' pf=some (.lst (fs.map Cd.w))/\G' pw=some (.lst (st.map Cd.w))/\zK [] G G'/\fs++xZ st.reverse=yK t/\wD st=m,⟨_,[],[t],none,rfl,gf,gw,k2,by simp[xZ],rfl⟩,?_⟩;rintro m σ G' ⟨fs,st,v,rfl,gf',gw',kp,hp,rfl⟩
 have hln:fs.length+wD st=t.size:=by
  have:=congrArg List.length hp;rw[zzW,xG] at this
  have e:(xZ st.reverse).length=wD st:=by
   clear this hp gw' gf'
   induction st with
   |nil=>rfl
   |cons a st ih =>
    rw[Zad,nG,zzW,ih,zdd];simp[wD,xZ];omega
  omega
 erw[rB,gw']
 by_cases hst:st=[]
 .subst hst;simp only[zzV,Zah,ZA,zzB,if_false];refine yX ?_
  erw[]
  have e:fs=yK t:=by simpa[xZ] using hp
  rw[e] at gf';exact h pf G' kp hf gf'
 .obtain ⟨ini,x,rfl⟩:∃ ini x,st=ini++[x]:=⟨st.dropLast,st.getLast hst,(List.dropLast_concat_getLast hst).symm⟩;have he:((ini++[x]).map Cd.w).isEmpty=false:=by simp
  simp only[he,Zu,if_true];rw[ZW,zzU,zzV] at gw';have hgx:(ini.map Cd.w++[x.w])[(ini.map Cd.w++[x.w]).length-1]?=some x.w:=by simp
  rw[bZ,show wD [x]=x.size by simp[wD,xZ,xG]] at hln;have l1:=nH ini;have l2:=zgf x;have l3:=nH (jO x);refine yX ?_
  erw[t0]
  refine ⟨tyL gw',?_⟩;simp only[popS,gw',hgx,List.dropLast_concat];have k3:zK [] G (put G' pw (.lst (ini.map Cd.w))):=qO kp hw0;have gw3:(put G' pw (.lst (ini.map Cd.w))) pw=some (.lst (ini.map Cd.w)):=zM;have gf3:(put G' pw (.lst (ini.map Cd.w))) pf=some (.lst (fs.map Cd.w)):=by rw[yO ne];exact gf'
  generalize put G' pw (.lst (ini.map Cd.w))=G3 at k3 gw3 gf3 ⊢;refine yX ?_
  erw[t2]
  refine ⟨tyL gf3,appL gf3 (by rw[zzM];omega) ?_⟩;have k4:zK [] G (put G3 pf (.lst (fs.map Cd.w++[x.w]))):=qO k3 hf;have gf4:(put G3 pf (.lst (fs.map Cd.w++[x.w]))) pf=some (.lst (fs.map Cd.w++[x.w])):=zM;have gw4:(put G3 pf (.lst (fs.map Cd.w++[x.w]))) pw=some (.lst (ini.map Cd.w)):=by rw[yO (Ne.symm ne)];exact gw3
  generalize put G3 pf (.lst (fs.map Cd.w++[x.w]))=G4 at k4 gf4 gw4 ⊢;refine yX ?_
  erw[t3,s1,s3]
  refine ⟨tyL gw4,?_⟩;refine ⟨rfl,x,rfl,?_⟩;simp only[rvS,extS,gw4];refine ⟨sz _ (by rw[zzM,Z3,zzM];omega),?_⟩;refine xT ?_;refine ⟨wD (ini++(jO x).reverse),?_,fs++[x],ini++(jO x).reverse,_,rfl,?_,?_,qO k4 hw0,?_,rfl⟩
  .have e:wD (jO x).reverse=wD (jO x):=by cases x<;>simp[jO,wD,xZ]<;>omega
   rw[bZ,bZ,e,show wD [x]=x.size by simp[wD,xZ,xG]];omega
  .rw[yO ne,gf4];simp
  .rw[zM,ZW,List.map_reverse]
  .rw[← hp,List.reverse_append,List.reverse_reverse,List.reverse_append,List.reverse_singleton,nG,nG,zdd,nC x];simp
end
section
variable {K:yI} {C sA:Addr}
theorem zit {n:Nat} {ws:List W} {G:Hw} {Q:Q3} (h:jF (n+1) ws G Q XN):zI (wX K C sA 19 ⟨"_law_count", jF n⟩) XN tO { nx:=fun _ G'=>Q .non G',rt:=Q } (yT pE ws) G:=by
 obtain ⟨w,rfl,ht,hd,h⟩:=h;have e4:(wX K C sA 19 ⟨"_law_count", jF n⟩).fn[4]?=some (eIsj K):=rfl;have e8:(wX K C sA 19 ⟨"_law_count", jF n⟩).fn[8]?=some eInt:=rfl;have e9:(wX K C sA 19 ⟨"_law_count", jF n⟩).fn[9]?=some eSum:=rfl;have e18:(wX K C sA 19 ⟨"_law_count", jF n⟩).fn[19]?=some ⟨"_law_count", jF n⟩:=rfl;have g2:(wX K C sA 19 ⟨"_law_count", jF n⟩).gl[2]?=some (("tuple" : Str),.ty "tuple"):=rfl;show zI (wX K C sA 19 ⟨"_law_count", jF n⟩) XN tO { nx:=fun _ G'=>Q .non G',rt:=Q } [some w] G;simp only[tO];refine yX ?_
 cases ht with
 |str x =>
  erw[e4,g2]
  refine ⟨"str", false,rfl,rfl,?_⟩;simp only[rB,zzB,if_false];refine xT ?_;refine yX ?_
  erw[zA,zJ,e8,rF]
  exact h _ G zK.refl
 |int i =>
  erw[e4,g2]
  refine ⟨"int", false,rfl,rfl,?_⟩;simp only[rB,zzB,if_false];refine xT ?_;refine yX ?_;have ei:fC G (.int i) (.str "say")=some false:=by simp[fC,pur,dep,yQ]
  erw[zA,ei,e8,rF]
  exact h _ G zK.refl
 |tup vs hv ha =>
  erw[e4,g2]
  refine ⟨"tuple", true,rfl,rfl,?_⟩;simp only[rB,if_true];refine yX ?_
  erw[e9,xH]
  refine ⟨fun i acc G'=>zK [] G G'/\∃ ns:List Int,acc=ns.map .int/\ns.length=i,⟨zK.refl,[],rfl,rfl⟩,?_,sz _ 'd',?_,?_⟩
  .rintro i acc G' ⟨_,ns,rfl,hl⟩ _;exact ⟨trivial,by simp;omega⟩
  .rintro i u acc G' hu ⟨k,ns,rfl,hl⟩;simp only[nT,List.replicate,zzU,zzV,Zac,ZC,Zv,gZ,gS,Ze,Zj]
   erw[if_true,e18]
   have hm:=Zo hu;refine ⟨u,rfl,ha u hm,by have:=zmI hm;omega,fun j G2 k2=>⟨k.trans k2,ns++[j],by simp,by simp[hl]⟩⟩
  .rintro acc G' ⟨k,ns,rfl,hl⟩ r hr;exact ⟨ns,zL zM,h _ _ (k.trans (zK.new hr))⟩
end
theorem addL {G:Hw} {p q:Addr} {xs ys:List W} {Q:Q3} (hp:G p=some (.lst xs)) (hq:G q=some (.lst ys)) (hl:xs.length+ys.length<=3000) (h:∀ r,G r=none->Q (.ref r) (put G r (.lst (xs++ys)))):wN .Add (.ref p) (.ref q) G Q:=by
 simp only[wN,hp,hq];exact ⟨sz _ hl,h⟩
section
variable {K:yI} {C sA:Addr}
theorem zhl {n:Nat} {ws:List W} {G:Hw} {Q:Q3} (h:wE (n+1) ws G Q XN):zI (wX K C sA 49 ⟨"_law_parts", wE n⟩) XN tP { nx:=fun _ G'=>Q .non G',rt:=Q } (yT pI ws) G:=by
 obtain ⟨t,rfl,ts,td,h⟩:=h;have e15:(wX K C sA 49 ⟨"_law_parts", wE n⟩).fn[49]?=some ⟨"_law_parts", wE n⟩:=rfl;have z1:=sz 1 'c';show zI (wX K C sA 49 ⟨"_law_parts", wE n⟩) XN tP { nx:=fun _ G'=>Q .non G',rt:=Q } [some t.w,none,none] G;simp only[tP];refine yX ?_
 erw[zzC,zzL,zzA,z1,true_and]
 intro q0 hq0;have k0:zK [] G (put G q0 (.lst [t.w])):=zK.new hq0;have g0:(put G q0 (.lst [t.w])) q0=some (.lst (([t]:List Sy).map Sy.w)):=zM;generalize put G q0 (.lst [t.w])=G0 at k0 g0 ⊢;refine yX ?_
 have loop:∀ (c:Str) (ks:List Sy),t.w=.tup (.str c::ks.map Sy.w)->(c==("say" : Str))=false->(∀ a∈ks,a.size<t.size/\a.size<=n)->1+(ks.map Sy.size).sum<=t.size->ks.length<=2 ->
   zT (wX K C sA 49 ⟨"_law_parts", wE n⟩) XN (.for (.nm 2) (.val (.sl 'h' (.yes 1⁻¹) .no)) {.ite (.cmp .NotEq (.ix 'h' 0⁻¹) "say"⁻¹) {.asg 1 (.bin .Add (.var 1) (.lc (.nm 0) ["_law_one"] [1] (.val (.call 49 {.var 2})) (.yes (.cmp .NotIn 'h' (.var 1))) 'h'))} .nil}) { nx:=zI (wX K C sA 49 ⟨"_law_parts", wE n⟩) XN {.ret (.var 1)} { nx:=fun _ G'=>Q .non G',rt:=Q },rt:=Q } [some t.w,q0⁻¹,none] G0:=by
  intro c ks ew hc hk hs hl
  erw[ew,slR,nV,xH]
  refine ⟨fun i σ G'=>∃ (q:Addr) (ps:List Sy) (v:Option W),σ=[some (.tup (.str c::ks.map Sy.w)),q⁻¹,v]/\G' q=some (.lst (ps.map Sy.w))/\G q=none/\ps≠[]/\ps.length<=1+((ks.take i).map Sy.size).sum/\(∀ p∈ps,p.size<=t.size)/\zK [] G G',⟨q0,[t],none,rfl,g0,hq0,by simp,by simp,fun p hp=>by rw[zzO hp];exact zzR _,k0⟩,fun _ _ _ _ _=>trivial,?_,?_⟩
  .rintro i w σ G1 hw ⟨q,ps,v,rfl,gq,hq,pn,pl,pz,k1⟩;rw[Zx] at hw;obtain ⟨a,ha,rfl⟩:=ZF.mp hw;have am:=Zo ha;obtain ⟨as,ad⟩:=hk a am
   have et:((ks.take (i+1)).map Sy.size).sum=((ks.take i).map Sy.size).sum+a.size:=by
    rw[List.take_succ,ha];simp
   have le:((ks.take (i+1)).map Sy.size).sum<=(ks.map Sy.size).sum:=by
    have:=List.take_append_drop (i+1) ks;have e2:=congrArg (fun l=>(l.map Sy.size).sum) this;simp only[ZW,List.sum_append] at e2;omega
   refine yX ?_
   erw[vJ,zA,zJ,hc,Zu,if_true]
   refine yX ?_
   erw[e15]
   refine ⟨a,rfl,by omega,ad,fun r qs G2 k2 hr gr qn ql qz=>?_⟩;have gq2:=k2 _ _ 'g' gq;refine zhV gr ?_;refine ⟨fun j acc G'=>∃ us:List Sy,acc=us.map Sy.w/\us.length<=j/\(∀ u∈us,u∈qs)/\zK [] G2 G',⟨[],rfl,zzR _,by simp,zK.refl⟩,?_,sz _ (by rw[zzM];omega),?_,?_⟩
   .rintro j acc G' ⟨us,rfl,h1,_,k⟩ _;exact ⟨zL (k _ _ 'g' gr),by simpa using h1⟩
   .rintro j w acc G' hw ⟨us,rfl,h1,h2,k⟩;rw[Zx] at hw;obtain ⟨u,hu,rfl⟩:=ZF.mp hw;have um:=Zo hu;have du:=vO (t:=u) (by have:=qz u um;omega);simp only[nT,List.replicate,zzU,zzV,Zac,ZC,gZ,gS,Zaj,Ze,Zj]
    erw[zA,wP,k _ _ 'g' gq2]
    refine ⟨⟨vS u,fU ps,by omega⟩,?_⟩;simp only[if_true]
    split
    .refine ⟨us++[u],by simp,by simp;omega,fun y hy=>?_,k⟩;rcases Zm.mp hy with hy|hy
     .exact h2 y hy
     .rw[zzO hy];exact um
    .exact ⟨us,rfl,by omega,h2,k⟩
   .rintro acc G3 ⟨us,rfl,h1,h2,k3⟩ r4 hr4;rw[zzM] at h1;have k4:zK [] G2 (put G3 r4 (.lst (us.map Sy.w))):=k3.trans (zK.new hr4);have g4:(put G3 r4 (.lst (us.map Sy.w))) r4=some (.lst (us.map Sy.w)):=zM;generalize put G3 r4 (.lst (us.map Sy.w))=G4 at k4 g4 ⊢;refine addL (k4 _ _ 'g' gq2) g4 (by rw[zzM,zzM];omega) fun r5 hr5=>?_;have kz:=k1.trans (k2.trans k4);refine xT (Γ:=wX K C sA 49 ⟨"_law_parts", wE n⟩) (E:=XN) (xT (Γ:=wX K C sA 49 ⟨"_law_parts", wE n⟩) (E:=XN) ?_);refine ⟨r5,ps++us,_,rfl,by rw[zM];simp,kz.none 'g' hr5,by simp[pn],by rw[zzW,et];omega,fun p hp=>?_,kz.trans (zK.new hr5)⟩;rcases Zm.mp hp with hp|hp
    .exact pz p hp
    .have:=qz p (h2 p hp);omega
  .rintro σ G1 ⟨q,ps,v,rfl,gq,hq,pn,pl,pz,k1⟩;refine yX ?_
   erw[]
   refine h q ps G1 k1 hq gq pn ?_ pz;rw[zzM,ZaG] at pl;omega
 have two:=fun (c:Str) (a b:Sy) (ew:t.w=.tup (.str c::[a,b].map Sy.w)) (es:t.size=a.size+b.size+1) (hc:(c==("say" : Str))=false)=>loop c [a,b] ew hc (fun y hy=>by
  rcases Zk.mp hy with rfl|hy
  .omega
  .rw[zzO hy];omega) (by simp;omega) 'g'
 cases t with
 |say x =>
  erw[Sy.w,slR,nV,xH]
  refine ⟨fun i σ G'=>∃ v:Option W,σ=[some (.tup [.str "say", .str x]),q0⁻¹,v]/\G'=G0,⟨none,rfl,rfl⟩,fun _ _ _ _ _=>trivial,?_,?_⟩
  .rintro i w σ G1 hw ⟨v,rfl,rfl⟩;refine yX ?_
   erw[vJ,zA,zJ,beq_self_eq_true,ZA,zzB,if_false]
   exact xT (Γ:=wX K C sA 49 ⟨"_law_parts", wE n⟩) (E:=XN) (xT (Γ:=wX K C sA 49 ⟨"_law_parts", wE n⟩) (E:=XN) ⟨_,rfl,rfl⟩)
  .rintro σ G1 ⟨v,rfl,rfl⟩;refine yX ?_
   erw[]
   exact h q0 [.say x] G1 k0 hq0 g0 'g' (zzR _) (fun p hp=>by rw[zzO hp];exact zzR _)
 |not a=>exact loop "not" [a] rfl 'j' (fun y hy=>by rw[zzO hy];exact ⟨Zai _,Nat.le_of_succ_le_succ td⟩) (by simp[Sy.size];omega) 'g'
 |and a b=>exact two "and" a b rfl rfl 'j'
 |or a b=>exact two "or" a b rfl rfl 'j'
 |ite a b=>exact two "if" a b rfl rfl 'j'
end
abbrev abc:Str := "abcdefghijklmnopqrstuvwxyz"
theorem zes:abc.cps.toList.length=26:=by decide +kernel
theorem zok {i:Int} {G:Hw} {Q:Q3} (h0:0<=i) (h1:i<26) (h:∀ x:Str,x.length=1->Q (.str x) G):kU (.str abc) (.int i) G Q:=by
 have hi:i.toNat<abc.cps.toList.length:=by rw[zes];omega
 have e:rQ abc.cps.toList i=some abc.cps.toList[i.toNat]:=by
  unfold rQ ixN;rw[if_pos h0,zes,if_pos (show i<((26:Nat):Int) from h1)];exact Zf hi
 simp only[kU,e];refine ⟨?_,h _ rfl⟩;have:abc.length=26:=by rw[← zes];rfl
 rw[this];exact sz _ 'c'
theorem slS {x:Str} {lo hi:Option Int} {G:Hw} {Q:Q3} (h:x.length<=3000) (q:∀ y:Str,y.length<=x.length->Q (.str y) G):slR (.str x) lo hi G Q:=⟨sz _ h,q _ (Txt.slice_le x lo hi)⟩
theorem zjV {ts:List Str} (h:∀ x∈ts,x.length<=1) (hn:ts.length<=5):JoinOk "" ts=true/\(Txt.join "" ts).length<=5:=by
 have e:("" : Str).length=0:=by decide +kernel
 constructor
 .unfold JoinOk;rw[StrLaws.joinFits h (by rw[e];omega)];rfl
 .have h1:=StrLaws.join_length_le "" ts;have h2:=StrLaws.sumLen_le ts h;rw[e] at h1;rw[show Txt.join "" ts=Str.join "" ts from StrLaws.glued_eq_join "" ts];refine Zb h1 ?_;omega
section
variable {K:yI} {C sA:Addr}
theorem zhy {n:Nat} (hn:12<=n) {ws:List W} {G:Hw} {Q:Q3} (h:zbe ws G Q XN):zI 'b' XN jT { nx:=fun _ G'=>Q .non G',rt:=Q } (yT pH ws) G:=by
 obtain ⟨d,l,m,rfl,D,m1,m50,h⟩:=h;have e1:'b'.fn[1]?=some eLen:=vW 1 hn rfl;have e8:'b'.fn[11]?=some fB:=vW 11 hn rfl;have t1:'b'.mt[1]?=some zkd:=rfl;have t2:'b'.mt[2]?=some eApp:=rfl;have i0:'b'.it[0]?=some eRng:=rfl;have z0:=sz 0 'c';have z4:=sz 4 'c';have q1:("q" : Str).length=1:=by decide +kernel
 have zl:("z" : Str).length=1:=by decide +kernel
 show zI 'b' XN jT { nx:=fun _ G'=>Q .non G',rt:=Q } [d⁻¹,some (.int m),none,none,none,none,none,none,none] G
 have go:∀ (G1:Hw) (p:Addr) (core:Str),core.length<=5->G p=none->p∉[d,l]->zK [d,l] G G1->xA G1 d l->G1 p=some (.lst []) ->
   zI 'b' XN (tl (tl (tl jT))) { nx:=fun _ G'=>Q .non G',rt:=Q } [d⁻¹,some (.int m),some (.str abc),p⁻¹,some (.str core),none,none,none,none] G1:=by
  intro G1 p core hc hpn hp k1 D1 gp;simp only[jT,tl];refine yX ?_
  erw[e1,e8,gM,gN,sz _ (show core.length<=3000 by omega),if_true,wN]
  refine ⟨d,l,core.length+1,rfl,D1,⟨by omega,by omega⟩,fun at' G2 a0 a1 k2 D2=>?_⟩;have gp2:=k2 _ _ hp gp;refine yX ?_
  erw[e8]
  refine ⟨d,l,26,rfl,D2,by decide,fun tn G3 tn0 tn1 k3 D3=>?_⟩;have gp3:=k3 _ _ hp gp2;have kG:=(k1.trans k2).trans k3;refine yX ?_
  erw[zY,i0]
  refine ⟨⟨by omega,by omega⟩,?_⟩;have len:((List.range m.toNat).map fun i:Nat=>W.int (i:Int)).length=m.toNat:=by simp
  refine ⟨fun i σ G'=>∃ (xs:List Str) (v7 v8:Option W),σ=[d⁻¹,some (.int m),some (.str abc),p⁻¹,some (.str core),some (.int at'),some (.int tn),v7,v8]/\G' p=some (.lst (xs.map .str))/\xs.length=i/\(∀ x∈xs,x.length<=100)/\zK [d,l] G G'/\xA G' d l,
   ⟨[],none,none,rfl,gp3,rfl,by simp,kG,D3⟩,fun _ _ _ _ _=>trivial,?_,?_⟩
  .rintro i w σ G' hw ⟨xs,v7,v8,rfl,gx,hl,hs,kp,D'⟩;rw[Zx] at hw;obtain ⟨i',hi',rfl⟩:=ZF.mp hw;have him:i<m.toNat:=by have:=(Zl.mp hi').1;simpa using this
   have hii:i'=i:=by have:=(Zl.mp hi').2;simpa using this.symm
   subst hii;refine yX ?_
   erw[]
   refine slS 'd' fun y1 h1=>?_;refine ⟨.inl ⟨by omega,by omega⟩,by decide,?_⟩;refine zok (ZbW _ 'c') (Zby _ 'c') fun y2 h2=>?_;refine addS 'd' (slS 'd' fun y3 h3=>addS (by rw[Zba];omega) ?_);have hlen:((y1++y2)++y3).length<=20:=by rw[Zba,Zba];omega
   generalize (y1++y2)++y3=nm at hlen ⊢;refine yX ?_
   erw[zA,wP,L3.inR,zzB,if_false,zzC,zzL,zzA,Nat.reduceAdd,z4,true_and]
   refine ⟨⟨by simp[pur],by simp[yP,pur],by simp[yL,dep]⟩,?_⟩
   have app:∀ x:Str,x.length<=100->tyW G' (.ref p) "list" /\ appS (.ref p) [.str x] G' (fun _ G1=>∃ (xs':List Str) (v7 v8:Option W),[some (W.ref d),some (.int m),some (.str abc),p⁻¹,some (.str core),some (.int at'),some (.int tn),some (.int i'),some (.str x)]=[d⁻¹,some (.int m),some (.str abc),p⁻¹,some (.str core),some (.int at'),some (.int tn),v7,v8]/\G1 p=some (.lst (xs'.map .str))/\xs'.length=i'+1/\(∀ x∈xs',x.length<=100)/\zK [d,l] G G1/\xA G1 d l):=by
    intro x hx;refine ⟨tyL gx,appL gx (by rw[zzM];omega) ⟨xs++[x],_,_,rfl,by rw[zM];simp,by simp[hl],fun y hy=>?_,qO kp hpn,zbX hp D'⟩⟩;rcases Zm.mp hy with hy|hy
    .exact hs y hy
    .rw[zzO hy];exact hx
   split
   .refine yX ?_
    erw[]
    refine addS 'd' ?_;refine xT ?_;refine yX ?_
    erw[t2]
    exact app _ (by rw[Zba];omega)
   .refine xT ?_;refine yX ?_
    erw[t2]
    exact app _ 'd'
  .rintro σ G' ⟨xs,v7,v8,rfl,gx,hl,hs,kp,D'⟩;rw[len] at hl
   have fin:∀ (ys:List Str) (G2:Hw),ys.length=m.toNat->zK [d,l] G G2->xA G2 d l->G2 p=some (.lst (ys.map .str))->∀ v7 v8:Option W,zI 'b' XN {.ret (.var 3)} { nx:=fun _ G'=>Q .non G',rt:=Q } [d⁻¹,some (.int m),some (.str abc),p⁻¹,some (.str core),some (.int at'),some (.int tn),v7,v8] G2:=by
    intro ys G2 hy k4 D4 g4 v7 v8;refine yX ?_
    erw[]
    exact h p ys G2 (by rintro rfl;simp at hy;omega) 'd' hp g4 k4 D4
   refine yX ?_
   erw[zA,mZ]
   by_cases hm:1<m
   .rw[if_pos (by simpa using hm)]
    erw[e8]
    refine ⟨d,l,2,rfl,D',by decide,fun b G4 b0 b1 k4 D4=>?_⟩;have gx4:=k4 _ _ hp gx;simp only[kT]
    by_cases hb:b=1
    .rw[decide_eq_true hb,if_pos rfl];obtain ⟨x0,hx0,ex0⟩:=ziF (xs:=xs) (i:=0) 'c' 'd';have l0:=hs x0 hx0;refine yX ?_
     erw[]
     refine nL (zL gx4) ?_;rw[ex0];refine addS 'd' ?_
     have e0:ixN (xs.map W.str).length 0=some 0:=by
      unfold ixN;rw[if_pos 'c',zzM,if_pos 'd'];rfl
     simp only[setR,gx4,e0];refine xT ?_;exact fin (xs.set 0 (x0 ++ "z")) _ (by rw[List.length_set];exact hl) (qO (kp.trans k4) hpn) (zbX hp D4) (by rw[zM,List.map_set]) v7 v8
    .rw[decide_eq_false hb,if_neg zzN];refine xT ?_;exact fin xs _ hl (kp.trans k4) D4 gx4 v7 v8
   .rw[if_neg (by simpa using hm),if_neg zzN];refine xT ?_;exact fin xs _ hl kp D' gx v7 v8
 simp only[jT,tl] at go;simp only[jT];refine yX ?_
 erw[]
 refine yX ?_
 erw[Zj,z0,true_and]
 intro p hp;have hpd:=wH D hp;have D1:=vV (o:=.lst []) hp D;have k1:zK [d,l] G (put G p (.lst [])):=zK.new hp;have gp:(put G p (.lst [])) p=some (.lst []):=zM;generalize put G p (.lst [])=G1 at D1 k1 gp ⊢;refine yX ?_
 erw[t1,e8,zY,zV,i0]
 refine ⟨rfl,d,l,5,rfl,D1,by decide,fun j G2 j0 j5 k2 D2=>?_⟩;have gp2:=k2 _ _ hpd gp;refine ⟨⟨by omega,by omega⟩,?_⟩;have len:((List.range j.toNat).map fun i:Nat=>W.int (i:Int)).length=j.toNat:=by simp
 refine ⟨fun i acc G'=>∃ ts:List Str,acc=ts.map .str/\ts.length=i/\(∀ x∈ts,x.length<=1)/\zK [d,l] G2 G'/\xA G' d l,⟨[],rfl,rfl,by simp,zK.refl,D2⟩,?_,by rw[len];exact sz _ 'd',?_,?_⟩
 .rintro i acc G' ⟨ts,rfl,rfl,_,_,_⟩ _;exact ⟨trivial,by simp⟩
 .rintro i w acc G' hw ⟨ts,rfl,hl,hs,kp,D'⟩;simp only[nT,Ze,Zj,List.replicate,zzU,zzV,Zac,ZC,Zv]
  erw[Zaj,if_true,e8]
  refine ⟨d,l,26,rfl,D',by decide,fun r G'' r0 r1 kp' D''=>zok r0 r1 fun x hx=>?_⟩;refine ⟨ts++[x],by simp,by simp[hl],fun y hy=>?_,kp.trans kp',D''⟩;rcases Zm.mp hy with hy|hy
  .exact hs y hy
  .rw[zzO hy,hx];exact zzR _
 .rintro acc G' ⟨ts,rfl,hl,hs,kp,D'⟩ r hr;have hl5:ts.length<=5:=by rw[hl,len];omega
  obtain ⟨jo,jl⟩:=zjV hs hl5;refine ⟨ts,zL zM,jo,?_⟩;have k3:zK [d,l] G' (put G' r (.lst (ts.map .str))):=zK.new hr;exact go _ p _ jl hp hpd (((k1.trans k2).trans kp).trans k3) (vV hr D') (k3 _ _ hpd (kp _ _ hpd gp2))
end
section
variable {K:yI} {C sA:Addr}
theorem zaZ {Γ:Ctx3} (g0:Γ.gl[1]?=some (("JOINED" : Str),.dcf ["not", "and", "or"] [.int 1,.int 2,.int 2])) {ws:List W} {G:Hw} {Q:Q3} (h:wB ws G Q XN):zI Γ XN uI { nx:=fun _ G'=>Q .non G',rt:=Q } (yT sK ws) G:=by
 obtain ⟨c,rfl,h⟩:=h;have z0:=sz 0 'c';show zI Γ XN uI { nx:=fun _ G'=>Q .non G',rt:=Q } [some c.w] G;simp only[uI];refine yX ?_
 have no:∀ x:Str,((["not", "and", "or"]:List Str).zip [W.int 1,.int 2,.int 2]).lookup x=if x == "not" then some (.int 1) else if x == "and" then some (.int 2) else if x == "or" then some (.int 2) else none:=by
  intro x;simp only[Zaa,List.zip_nil_right,Zy,List.lookup_nil];cases (x==("not" : Str))<;>cases (x==("and" : Str))<;>cases (x==("or" : Str))<;>rfl
 have yes:∀ (x:Str) (r:List W),c.w=.tup (.str x::r)->(if x == "not" then some (W.int 1) else if x == "and" then some (.int 2) else if x == "or" then some (.int 2) else none).isSome=true->(jO c).map Cd.w=r->(zH Γ XN (.ite (.cmp .In (.ix 'h' 0⁻¹) (.glb 1)) (.sl 'h' (.yes 1⁻¹) .no) (.tup .nil))).e [some c.w] G Q:=by
  intro x r e b hr
  erw[e,vJ,g0,zA,wP,no,b,zzB,if_false,if_true,slR,nV]
  rw[← hr];exact h
 have nay:∀ (x:Str) (r:List W),c.w=.tup (.str x::r)->(if x == "not" then some (W.int 1) else if x == "and" then some (.int 2) else if x == "or" then some (.int 2) else none).isSome=false->jO c=[]->(zH Γ XN (.ite (.cmp .In (.ix 'h' 0⁻¹) (.glb 1)) (.sl 'h' (.yes 1⁻¹) .no) (.tup .nil))).e [some c.w] G Q:=by
  intro x r e b hr
  erw[e,vJ,g0,zA,wP,no,b,zzB,if_false,Zj,z0,true_and]
  rw[hr] at h;exact h
 cases c with
 |any=>exact nay "any" _ rfl 'j' rfl
 |one k s=>exact nay k.s _ rfl (by cases k<;>decide +kernel) rfl
 |two k x s=>exact nay k.s _ rfl (by cases k<;>decide +kernel) rfl
 |neg a=>exact yes "not" _ rfl 'j' rfl
 |bin k a b=>exact yes (bw k) _ rfl (by cases k<;>decide +kernel) rfl
end
theorem sy_nr (s:Sy) (p:Addr):s.w≠.ref p:=by cases s<;>(intro e;cases e)
theorem zgy (m:Mv) (h:∀ s,wZ m=some s->s.size<=20):pur (wF m)=true/\dep (wF m)<=20/\∀ p,wF m≠.ref p:=by
 unfold wF
 split
 .rename_i s e;exact ⟨s.pur,vO (h s e),sy_nr s⟩
 .exact ⟨rfl,Zg _,fun p e=>by cases e⟩
theorem zeE {m:Mo} (h:m.ok):pur m.told=true/\dep m.told<=20/\∀ p,m.told≠.ref p:=by
 cases m with
 |no=>exact ⟨rfl,Zg _,fun p e=>by cases e⟩
 |dbt x s =>
  exact zgy _ fun t e=>by
   simp only[wZ] at e
   split at e
   .cases e;exact Zb (sB s) h.2
   .cases e
 |ans x s a=>exact zgy (.ans x s a) fun t e=>by cases (show some a=some t from e);exact h.2
theorem zgz {m:Mo} (h:m.ok) (hn:m≠.no) {G:Hw} {Q:Q3} (q:Q m.told G):qD [m.w] G Q XN:=by
 cases m with
 |no=>exact absurd rfl hn
 |dbt x s=>exact ⟨.dbt x s,rfl,⟨h.1,Zb h.2 'c'⟩,q⟩
 |ans x s a=>exact ⟨.ans x s a,rfl,⟨Zb h.1 'c',Zb h.2 'c'⟩,q⟩
theorem zkO {m:Mo} (h:m.ok):pur m.w=true/\dep m.w<=30/\∀ p,m.w≠.ref p:=by
 cases m with
 |no=>exact ⟨rfl,Zg _,fun p e=>by cases e⟩
 |dbt x s =>
  have:=vO h.2;refine ⟨by simp only[Mo.w,pur,yP,vS];rfl,?_,fun p e=>by cases e⟩;simp only[Mo.w,dep,yL];omega
 |ans x s a =>
  have:=vO h.1;have:=vO h.2;refine ⟨by simp only[Mo.w,pur,yP,vS];rfl,?_,fun p e=>by cases e⟩;simp only[Mo.w,dep,yL];omega
section
variable {K:yI} {C sA:Addr}
theorem zmo {n:Nat} (hn:40<=n) {t:Sd} {ws:List W} {G:Hw} {Q:Q3} (h:zi8 t ws G Q XN):zI 'b' XN qL { nx:=fun _ G'=>Q .non G',rt:=Q } (yT uP ws) G:=by
 obtain ⟨c,m,p,rfl,hm,co,mo,mn,gp,h⟩:=h;have e26:'b'.fn[34]?=some ⟨"told_by", qD⟩:=vW 34 hn rfl;have z2:=sz 2 'c';have z3:=sz 3 'c';have q1:(("asked" : Str) == "heard")=false:=by decide +kernel
 have q2:(("answered" : Str) == "heard")=false:=by decide +kernel
 have q3:(("answered" : Str) == "asked")=false:=by decide +kernel
 have q4:(("doubt" : Str) == "answer")=false:=by decide +kernel
 have q5:(("answer" : Str) == "doubt")=false:=by decide +kernel
 have tp:=zeE mo;have mp:=zkO mo;show zI 'b' XN qL { nx:=fun _ G'=>Q .non G',rt:=Q } [some (.str (yC c)),p⁻¹,some m.w] G;have H:=h G zK.refl;simp only[qL];refine yX ?_
 cases c with
 |one k s =>
  cases k with
  |heard =>
   simp only[jB] at gp
   erw[yC,C1.s,zA,zJ,beq_self_eq_true,if_true]
   refine yX ?_
   erw[e26]
   refine zgz mo mn ?_;refine nL (zL gp) ?_;rw[uH];simp only[zA];rw[eqP tp.1 (vS s) 'd' tp.2.2]
   have e:h1 t m (.one .heard s)=yQ m.told s.w:=by
    cases m with
    |no=>exact absurd rfl mn
    |_=>rfl
   rw[e] at H;exact H
  |_=>exact hm.elim
 |two k x s =>
  cases k with
  |asked =>
   simp only[jB] at gp
   erw[yC,C2.s,zA,zJ,q1,zzB,if_false]
   refine xT ?_;refine yX ?_
   erw[yC,C2.s,zA,zJ,beq_self_eq_true,if_true]
   refine yX ?_
   erw[zzC,zzL,zzA,Nat.reduceAdd,z3,true_and]
   refine nL (zL gp) ?_;rw[uH];refine nL (zL gp) ?_;rw[vC];simp only[zA];rw[eqP mp.1 (by simp only[pur,yP,vS];rfl) 'd' mp.2.2]
   have e:h1 t m (.two .asked x s)=yQ m.w (.tup [.str "doubt", .str x,s.w]):=by
    cases m with
    |no=>exact absurd rfl mn
    |dbt y r=>simp[h1,Mo.w,dW,yQ,jU]
    |ans y r a=>simp[h1,Mo.w,yQ,jU,q5]
   rw[e] at H;exact H
  |answ =>
   simp only[jB] at gp
   erw[yC,C2.s,zA,zJ,q2,zzB,if_false]
   refine xT ?_;refine yX ?_
   erw[yC,C2.s,zA,zJ,q3,zzB,if_false]
   refine xT ?_;refine yX ?_
   cases m with
   |no=>exact absurd rfl mn
   |dbt y r =>
    erw[Mo.w,vJ,zA,zJ,q4,zzB,if_false]
    exact H
   |ans y r a =>
    erw[Mo.w,vJ,bF,zA,zJ,beq_self_eq_true,if_true,zzC,zzL,zzA,Nat.reduceAdd,z2,true_and]
    refine nL (zL gp) ?_;rw[uH];refine nL (zL gp) ?_;rw[vC];have pd:=zfp (p:=(y,r)) mo.1;have e:=eqP (G:=G) (x:=dW (y,r)) (y:=dW (x,s)) (pR _) (pR _) 'd' (fun p e=>by cases e);simp only[dW] at e;simp only[zA,e];exact H
  |_=>exact hm.elim
 |_=>exact hm.elim
end
theorem Sd.ok.s {z:Sd} (h:z.ok):∀ x∈z.sd,x.size<=20:=fun x hx=>Zb (h.sd.2.2 x hx) 'c'
theorem Sd.ok.f {z:Sd} (h:z.ok):∀ x∈z.fr,x.size<=20:=fun x hx=>Zb (h.fr.2.2 x hx) 'c'
theorem Sd.ok.o {z:Sd} (h:z.ok):∀ x∈z.op,x.2.size<=20:=fun x hx=>Zb (h.op.2.2 x hx).2 'c'
theorem Sd.ok.u {z:Sd} (h:z.ok):∀ x∈z.us,x.2.size<=20:=fun x hx=>Zb (h.us.2.2 x hx).2 'c'
def fJ:Cd->Bool
 | .any=>true
 |_=>false
def is1:C1->Cd->Bool
 | .said,.one .said _=>true
 | .fresh,.one .fresh _=>true
 | .heard,.one .heard _=>true
 |_,_=>false
noncomputable def is2:C2->Cd->Bool
 | .opn,.two .opn _ _=>true
 | .used,.two .used _ _=>true
 | .asked,.two .asked _ _=>true
 | .answ,.two .answ _ _=>true
 |_,_=>false
theorem zmX (c:Cd):(yC c==("any" : Str))=fJ c:=by
 cases c with
 |one k s=>cases k<;>rfl
 |two k x s=>cases k<;>rfl
 |bin k a b=>cases k<;>rfl
 |_=>rfl
theorem w_1 (k:C1) (c:Cd):(yC c==k.s)=is1 k c:=by
 cases c with
 |one j s=>cases j<;>cases k<;>rfl
 |two j x s=>cases j<;>cases k<;>rfl
 |bin j a b=>cases j<;>cases k<;>rfl
 |_=>cases k<;>rfl
theorem w_2 (k:C2) (c:Cd):(yC c==k.s)=is2 k c:=by
 cases c with
 |one j s=>cases j<;>cases k<;>rfl
 |two j x s=>cases j<;>cases k<;>rfl
 |bin j a b=>cases j<;>cases k<;>rfl
 |_=>cases k<;>rfl
theorem zeu (c:Cd):(yC c==("said" : Str))=is1 .said c:=w_1 .said c
theorem sQ (c:Cd):(yC c==("fresh" : Str))=is1 .fresh c:=w_1 .fresh c
theorem zgp (c:Cd):(yC c==("heard" : Str))=is1 .heard c:=w_1 .heard c
theorem zev (c:Cd):(yC c==("open" : Str))=is2 .opn c:=w_2 .opn c
theorem rD (c:Cd):(yC c==("used" : Str))=is2 .used c:=w_2 .used c
theorem zgq (c:Cd):(yC c==("asked" : Str))=is2 .asked c:=w_2 .asked c
theorem c_w {c:Cd} (h:jO c=[]):c.w=.tup (.str (yC c)::jB c):=by cases c<;>first|rfl|cases h
theorem zkZ {c:Cd} (h:zhs c) (t u:Sd) (m:Mo):h1 t m c=h1 u m c:=by
 cases c with
 |one k s=>cases k<;>first|rfl|exact h.elim
 |two k x s=>cases k<;>first|rfl|exact h.elim
 |_=>exact h.elim
section
variable {K:yI} {C sA:Addr}
theorem zfE {n:Nat} (hn:41<=n) {ws:List W} {G:Hw} {Q:Q3} (h:fZ ws G Q XN):zI 'b' XN kR { nx:=fun _ G'=>Q .non G',rt:=Q } (yT tL ws) G:=by
 obtain ⟨c,t,m,rfl,co,to,mo,ck,h⟩:=h;have e7:'b'.fn[7]?=some eTup:=vW 7 hn rfl;have e27:'b'.fn[40]?=some ⟨"holds_of_move", zi8 noSd⟩:=vW 40 hn rfl;show zI 'b' XN kR { nx:=fun _ G'=>Q .non G',rt:=Q } [some c.w,some t.w,some m.w,none,none,none,none,none,none] G;simp only[kR];refine yX ?_
 erw[Sd.w]
 refine yX ?_
 erw[c_w ck]
 refine ⟨by cases c<;>simp[jB],fun p hp=>?_⟩;have k1:zK [] G (put G p (.lst (jB c))):=zK.new hp;have g1:(put G p (.lst (jB c))) p=some (.lst (jB c)):=zM;have H:=h _ k1;generalize put G p (.lst (jB c))=G1 at k1 g1 H ⊢;have dO:=dZ to.o;have dU:=dZ to.u;have dS:=fA to.s;have dF:=fA to.f
 have last:zhs c->zI 'b' XN {.ret (.and (.cmp .IsNot (.var 2) (.con .none)) (.call 40 {.var 7,.var 8,.var 2}))} { nx:=fun _ G'=>Q .non G',rt:=Q } [some (.tup (.str (yC c)::jB c)),some t.w,some m.w,some (.tup (t.sd.map Sy.w)),some (.tup (t.op.map dW)),some (.tup (t.us.map dW)),some (.tup (t.fr.map Sy.w)),some (.str (yC c)),p⁻¹] G1:=by
  intro oc;refine yX ?_
  cases m with
  |no =>
   erw[Mo.w,zA,cH,if_true,zzB,if_false]
   have e:h1 t .no c=false:=by
    cases c with
    |one k s=>cases k<;>first|rfl|exact oc.elim
    |two k x s=>cases k<;>first|rfl|exact oc.elim
    |_=>exact oc.elim
   rw[e] at H;exact H
  |dbt y r =>
   erw[Mo.w,zA,cH,if_true,e27]
   exact ⟨c,.dbt y r,p,rfl,oc,co,mo,(by intro z;cases z),g1,fun G2 k2=>by rw[zkZ oc noSd t];exact h G2 (k1.trans k2)⟩
  |ans y r a =>
   erw[Mo.w,zA,cH,if_true,e27]
   exact ⟨c,.ans y r a,p,rfl,oc,co,mo,(by intro z;cases z),g1,fun G2 k2=>by rw[zkZ oc noSd t];exact h G2 (k1.trans k2)⟩
 simp only[Sd.w] at last;refine yX ?_
 erw[zA,zJ,zmX]
 cases c with
 |neg a=>cases ck
 |bin k a b=>cases ck
 |any =>
  simp only[fJ,if_true];refine yX ?_
  erw[]
  exact H
 |one k s =>
  simp only[fJ,zzB,if_false];refine xT ?_;refine yX ?_
  erw[zA,zJ,zeu]
  have ps:=vS s
  cases k with
  |said =>
   simp only[is1,if_true];refine yX ?_
   erw[]
   refine nL (zL g1) ?_;simp only[jB];rw[uH];simp only[zA,wP];exact inW ps (fU _) 'd' H
  |fresh =>
   simp only[is1,zzB,if_false];refine xT ?_;refine yX ?_
   erw[zA,zJ,sQ,is1,if_true]
   refine yX ?_
   erw[]
   refine nL (zL g1) ?_;simp only[jB];rw[uH];simp only[zA,wP];exact inW ps (fU _) 'd' H
  |heard =>
   simp only[is1,zzB,if_false];refine xT ?_;refine yX ?_
   erw[zA,zJ,sQ,is1,zzB,if_false]
   refine xT ?_;refine yX ?_
   erw[zA,zJ,zev,is2,zzB,if_false]
   refine xT ?_;refine yX ?_
   erw[zA,zJ,rD,is2,zzB,if_false]
   refine xT ?_;exact last trivial
 |two k x s =>
  simp only[fJ,zzB,if_false];refine xT ?_;refine yX ?_
  erw[zA,zJ,zeu,is1,zzB,if_false]
  refine xT ?_;refine yX ?_
  erw[zA,zJ,sQ,is1,zzB,if_false]
  refine xT ?_;refine yX ?_
  erw[zA,zJ,zev]
  have pd:=pR (x,s)
  cases k with
  |opn =>
   simp only[is2,if_true];refine yX ?_
   erw[e7,dJ,vN,zL g1,zA,wP]
   exact inW pd (fT _) 'd' H
  |used =>
   simp only[is2,zzB,if_false];refine xT ?_;refine yX ?_
   erw[zA,zJ,rD,is2,if_true]
   refine yX ?_
   erw[e7,dJ,vN,zL g1,zA,wP]
   exact inW pd (fT _) 'd' H
  |asked =>
   simp only[is2,zzB,if_false];refine xT ?_;refine yX ?_
   erw[zA,zJ,rD,is2,zzB,if_false]
   refine xT ?_;exact last trivial
  |answ =>
   simp only[is2,zzB,if_false];refine xT ?_;refine yX ?_
   erw[zA,zJ,rD,is2,zzB,if_false]
   refine xT ?_;exact last trivial
end
theorem csuf:∀ (t:Cd) (i:Nat) (p:Cd),(yK t)[i]?=some p->∃ rest,(yK t).drop i=yK p++rest
 | .any,0,p,h=>by simp[yK] at h;subst h;exact ⟨[],by simp[yK]⟩
 | .any,i+1,p,h=>by simp[yK] at h
 | .one _ _,0,p,h=>by simp[yK] at h;subst h;exact ⟨[],by simp[yK]⟩
 | .one _ _,i+1,p,h=>by simp[yK] at h
 | .two _ _ _,0,p,h=>by simp[yK] at h;subst h;exact ⟨[],by simp[yK]⟩
 | .two _ _ _,i+1,p,h=>by simp[yK] at h
 | .neg a,0,p,h=>by simp[yK] at h;subst h;exact ⟨[],by simp[yK]⟩
 | .neg a,i+1,p,h=>by
  obtain ⟨r,e⟩:=csuf a i p (by simpa[yK] using h);exact ⟨r,by simpa[yK] using e⟩
 | .bin k a b,0,p,h=>by simp[yK] at h;subst h;exact ⟨[],by simp[yK]⟩
 | .bin k a b,i+1,p,h=>by
  have h:(yK a++yK b)[i]?=some p:=by simpa[yK] using h
  by_cases hi:i<(yK a).length
  .rw[Z8 hi] at h;obtain ⟨r,e⟩:=csuf a i p h;refine ⟨r++yK b,?_⟩;show (yK a++yK b).drop i=_;rw[List.drop_append_of_le_length (ZaY hi),e,ZbG]
  .rw[ZN 'd'] at h;obtain ⟨r,e⟩:=csuf b _ p h;refine ⟨r,?_⟩;show (yK a++yK b).drop i=_;rw[List.drop_append,List.drop_of_length_le 'd',ZC];exact e
theorem zjD:∀ {t p:Cd},p∈yK t->t.ok->p.ok
 | .any,p,h,o=>by simp[yK] at h;subst h;exact o
 | .one _ _,p,h,o=>by simp[yK] at h;subst h;exact o
 | .two _ _ _,p,h,o=>by simp[yK] at h;subst h;exact o
 | .neg a,p,h,o=>by
  rcases Zk.mp h with rfl|h
  .exact o
  .exact zjD (t:=a) h o
 | .bin _ a b,p,h,o=>by
  rcases Zk.mp h with rfl|h
  .exact o
  .rcases Zm.mp h with h|h
   .exact zjD (t:=a) h o.1
   .exact zjD (t:=b) h o.2
theorem zei (t:Cd):∃ r,yK t=t::r:=⟨_,nC t⟩
theorem zbY {st:List Cd} {a:Cd} {r:List Cd} (h:xZ st=yK a++r):∃ st',st=a::st'/\xZ st'=r:=by
 obtain ⟨ra,ea⟩:=zei a
 cases st with
 |nil=>rw[ea] at h;simp[xZ] at h
 |cons s st' =>
  obtain ⟨rs,es⟩:=zei s;have e:xZ (s::st')=yK s++xZ st':=by simp[xZ]
  rw[e] at h
  have hs:s=a:=by
   rw[es,ea] at h;simpa using (List.cons.inj h).1
  subst hs;exact ⟨st',rfl,List.append_cancel_left h⟩
theorem ixw {p:Cd} {G:Hw} {Q:Q3}:kU p.w (.int 0) G Q=Q (.str (yC p)) G:=by cases p<;>simp only[Cd.w,yC,vJ]
theorem zgo {c:Cd} (h:jO c=[]):(yC c==("not" : Str))=false/\(yC c==("and" : Str))=false/\(yC c==("or" : Str))=false:=by
 cases c with
 |any=>exact ⟨rfl,rfl,rfl⟩
 |one k s=>cases k<;>exact ⟨rfl,rfl,rfl⟩
 |two k x s=>cases k<;>exact ⟨rfl,rfl,rfl⟩
 |neg a=>cases h
 |bin k a b=>cases h
def vU (t:Sd) (m:Mo) (st:List Cd):List W:=(st.map fun c=>W.bl (hv t m c)).reverse
theorem zew {t:Sd} {m:Mo} (c:Cd) (st:List Cd):vU t m (c::st)=vU t m st++[.bl (hv t m c)]:=by simp[vU]
theorem ziS {t:Sd} {m:Mo} (st:List Cd):(vU t m st).length=st.length:=by simp[vU]
theorem zhd {t:Sd} {m:Mo} {G:Hw} {pf:Addr} {c:Cd} {st:List Cd} {Q:Q3} (h:G pf=some (.lst (vU t m (c::st)))) (q:Q (.bl (hv t m c)) (put G pf (.lst (vU t m st)))):popS (.ref pf) [] G Q:=by
 rw[zew] at h;have hg:(vU t m st++[W.bl (hv t m c)])[(vU t m st++[W.bl (hv t m c)]).length-1]?=some (.bl (hv t m c)):=by simp
 simp only[popS,h,hg,List.dropLast_concat];exact q
section
variable {K:yI} {C sA:Addr}
theorem zh0 {n:Nat} (hn:42<=n) {ws:List W} {G:Hw} {Q:Q3} (h:zbf ws G Q XN):zI 'b' XN zfv { nx:=fun _ G'=>Q .non G',rt:=Q } (yT zhv ws) G:=by
 obtain ⟨c,t,m,rfl,co,to,mo,cs,h⟩:=h;have eA2:'b'.fn[2]?=some eAll:=vW 2 hn rfl;have e5:'b'.fn[5]?=some eAny:=vW 5 hn rfl;have e24:'b'.fn[38]?=some ⟨"all_within", gA sA⟩:=vW 38 hn rfl;have e28:'b'.fn[41]?=some ⟨"single_holds", fZ⟩:=vW 41 hn rfl;have t0:'b'.mt[0]?=some ePop:=rfl;have t2:'b'.mt[2]?=some eApp:=rfl;have s1:'b'.sx[1]?=some ⟨rvM,rvS⟩:=rfl;have g3:'b'.gl[3]?=some (("joined_by" : Str),.ref sA):=rfl;have z0:=sz 0 'c';have z2:=sz 2 'c';have n1:(("and" : Str) == "not")=false:=by decide +kernel
 have n2:(("or" : Str) == "not")=false:=by decide +kernel
 have n3:(("or" : Str) == "and")=false:=by decide +kernel
 show zI 'b' XN zfv { nx:=fun _ G'=>Q .non G',rt:=Q } [some c.w,some t.w,some m.w,none,none] G;simp only[zfv];refine yX ?_
 erw[Zj,z0,true_and]
 intro pf hpf;have k1:zK [] G (put G pf (.lst [])):=zK.new hpf;have g1:(put G pf (.lst [])) pf=some (.lst []):=zM;generalize put G pf (.lst [])=G1 at k1 g1 ⊢;refine yX ?_
 erw[s1,e24,g3]
 refine ⟨c,rfl,cs,fun r2 G2 k2 hr2 gr2=>⟨_,zL gr2,fun pr hpr=>?_⟩⟩;have k3:zK [] G (put G2 pr (.lst ((yK c).map Cd.w).reverse)):=(k1.trans k2).trans (zK.new hpr);have g3':(put G2 pr (.lst ((yK c).map Cd.w).reverse)) pr=some (.lst ((yK c).map Cd.w).reverse):=zM;have gf3:=zK.new (S:=[]) (o:=.lst ((yK c).map Cd.w).reverse) hpr _ _ 'g' (k2 _ _ 'g' g1);have ne:pr≠pf:=fun e=>by rw[e,k2 _ _ 'g' g1] at hpr;cases hpr
 generalize put G2 pr (.lst ((yK c).map Cd.w).reverse)=G3 at k3 g3' gf3 ⊢;refine zhV g3' ?_;have len:((yK c).map Cd.w).reverse.length=c.size:=by rw[Z3,zzM,xG]
 refine ⟨fun i σ G'=>∃ (st:List Cd) (v4:Option W),σ=[some c.w,some t.w,some m.w,pf⁻¹,v4]/\G' pf=some (.lst (vU t m st))/\xZ st=(yK c).drop (c.size-i)/\G' pr=some (.lst ((yK c).map Cd.w).reverse)/\zK [] G G',
  ⟨[],none,rfl,gf3,?_,g3',k3⟩,fun i σ G' z _=>by obtain ⟨_,_,_,_,_,z,_⟩:=z;exact zL z,?_,?_⟩
 .rw[Nat.sub_zero,← xG,List.drop_length];rfl
 .rintro i w σ G' hw ⟨st,v4,rfl,gf,hp,gr,kp⟩;have hi:=(Zl.mp hw).1;rw[len] at hi;have hw':(yK c)[c.size-1-i]?=some ((yK c)[c.size-1-i]'(by rw[xG];omega)):=Zf _;obtain ⟨p,ep⟩:∃ p,(yK c)[c.size-1-i]?=some p:=⟨_,hw'⟩
  have ew:w=p.w:=by
   rw[Zbe (by rw[zzM,xG];exact hi),zzM,xG,Zx,ep] at hw;exact (Zw hw).symm
  subst ew;obtain ⟨rest,er⟩:=csuf c _ p ep;have e1:c.size-1-i+1=c.size-i:=by omega
  have e2:(yK c).drop (c.size-1-i)=p::(yK c).drop (c.size-i):=by
   have hl:c.size-1-i<(yK c).length:=by rw[xG];omega
   rw[ZaQ hl,e1];congr 1;rw[Zf hl] at ep;exact Zw ep
  have e3:xZ st=xZ (jO p)++rest:=by
   rw[e2,← hp,nC] at er;exact (List.cons.inj er).2
  have e4:(yK c).drop (c.size-(i+1))=yK p++rest:=by rw[← er,show c.size-(i+1)=c.size-1-i by omega]
  have sl:st.length<=200:=by
   have h1:=nH st
   have h2:wD st<=c.size:=by
    unfold wD;rw[hp,Zbk,xG];omega
   omega
  have po:p.ok:=zjD (Zo ep) co
  have fin:∀ (st':List Cd) (G5:Hw),G5 pf=some (.lst (vU t m st'))->st'.length<=200->xZ st'=rest->G5 pr=some (.lst ((yK c).map Cd.w).reverse)->zK [] G G5 ->
    appS (.ref pf) [.bl (hv t m p)] G5 (fun _ G6=>∃ (st:List Cd) (v4:Option W),[some c.w,some t.w,some m.w,pf⁻¹,some p.w]=[some c.w,some t.w,some m.w,pf⁻¹,v4]/\G6 pf=some (.lst (vU t m st))/\xZ st=(yK c).drop (c.size-(i+1))/\G6 pr=some (.lst ((yK c).map Cd.w).reverse)/\zK [] G G6):=by
   intro st' G5 gf5 sl5 hp5 gr5 k5;refine appL gf5 (by rw[ziS];omega) ⟨p::st',_,rfl,?_,?_,?_,qO k5 hpf⟩
   .rw[zM,zew]
   .rw[e4,← hp5];simp[xZ]
   .rw[yO ne];exact gr5
  have popd:∀ (a:Cd) (st':List Cd) (G5:Hw),G5 pr=some (.lst ((yK c).map Cd.w).reverse)->zK [] G G5->(put G5 pf (.lst (vU t m st'))) pf=some (.lst (vU t m st'))/\(put G5 pf (.lst (vU t m st'))) pr=some (.lst ((yK c).map Cd.w).reverse)/\zK [] G (put G5 pf (.lst (vU t m st'))) :=
   fun a st' G5 gr5 k5=>⟨zM,by rw[yO ne];exact gr5,qO k5 hpf⟩
  have alone:jO p=[]->hv t m p=h1 t m p:=by cases p<;>first|(intro _;rfl)|(intro z;cases z)
  refine yX ?_
  by_cases ck:jO p=[]
  ·erw[ixw,zA,zJ,(zgo ck).1,zzB,if_false]
   refine yX ?_
   erw[ixw,zA,zJ,(zgo ck).2.1,zzB,if_false]
   refine yX ?_
   erw[ixw,zA,zJ,(zgo ck).2.2,zzB,if_false]
   refine yX ?_
   erw[t2,e28]
   refine ⟨tyL gf,p,t,m,rfl,po,to,mo,ck,fun G5 k5=>?_⟩;rw[← alone ck];rw[ck] at e3;exact fin st G5 (k5 _ _ 'g' gf) sl (by simpa[xZ] using e3) (k5 _ _ 'g' gr) (kp.trans k5)
  .cases p with
   |any=>exact absurd rfl ck
   |one k s=>exact absurd rfl ck
   |two k x s=>exact absurd rfl ck
   |neg a =>
    obtain ⟨st',rfl,hst⟩:=zbY (by simpa[jO,xZ] using e3:xZ st=yK a++rest)
    erw[Cd.w,vJ,zA,zJ,beq_self_eq_true,if_true]
    refine yX ?_
    erw[t2,t0]
    refine ⟨tyL gf,tyL gf,zhd gf ?_⟩;obtain ⟨a1,a2,a3⟩:=popd a st' G' gr kp;exact fin st' _ a1 (by simp at sl;omega) hst a2 a3
   |bin k a b =>
    obtain ⟨st1,rfl,hst1⟩:=zbY (by simpa[jO,xZ] using e3:xZ st=yK a++(yK b++rest));obtain ⟨st',rfl,hst⟩:=zbY hst1;have sl':st'.length<=200:=by simp at sl;omega
    cases k with
    |false =>
     erw[Cd.w,bw,vJ,zA,zJ,n1,zzB,if_false]
     refine yX ?_
     erw[Cd.w,bw,vJ,zA,zJ,beq_self_eq_true,if_true]
     refine yX ?_
     erw[t2,t0,eA2]
     refine ⟨tyL gf,tyL gf,zhd gf ?_⟩;obtain ⟨a1,a2,a3⟩:=popd a (b::st') G' gr kp;generalize put G' pf (.lst (vU t m (b::st')))=G5 at a1 a2 a3 ⊢;refine ⟨tyL a1,zhd a1 ?_⟩;obtain ⟨b1,b2,b3⟩:=popd b st' G5 a2 a3;generalize put G5 pf (.lst (vU t m st'))=G6 at b1 b2 b3 ⊢;refine ⟨z2,fun r hr=>?_⟩
     try simp only[eA2]
     refine ⟨[hv t m a,hv t m b],zL zM,?_⟩;have k7:zK [] G6 (put G6 r (.lst [.bl (hv t m a),.bl (hv t m b)])):=zK.new hr;have ev:[hv t m a,hv t m b].all id=(hv t m a&&hv t m b):=by simp
     dsimp only;rw[ev];exact fin st' _ (k7 _ _ 'g' b1) sl' hst (k7 _ _ 'g' b2) (b3.trans k7)
    |true =>
     erw[Cd.w,bw,vJ,zA,zJ,n2,zzB,if_false]
     refine yX ?_
     erw[Cd.w,bw,vJ,zA,zJ,n3,zzB,if_false]
     refine yX ?_
     erw[Cd.w,bw,vJ,zA,zJ,beq_self_eq_true,if_true]
     refine yX ?_
     erw[t2,t0,e5]
     refine ⟨tyL gf,tyL gf,zhd gf ?_⟩;obtain ⟨a1,a2,a3⟩:=popd a (b::st') G' gr kp;generalize put G' pf (.lst (vU t m (b::st')))=G5 at a1 a2 a3 ⊢;refine ⟨tyL a1,zhd a1 ?_⟩;obtain ⟨b1,b2,b3⟩:=popd b st' G5 a2 a3;generalize put G5 pf (.lst (vU t m st'))=G6 at b1 b2 b3 ⊢;refine ⟨z2,fun r hr=>?_⟩
     try simp only[e5]
     refine ⟨[hv t m a,hv t m b],zL zM,?_⟩;have k7:zK [] G6 (put G6 r (.lst [.bl (hv t m a),.bl (hv t m b)])):=zK.new hr;have ev:[hv t m a,hv t m b].any id=(hv t m a || hv t m b):=by simp
     dsimp only;rw[ev];exact fin st' _ (k7 _ _ 'g' b1) sl' hst (k7 _ _ 'g' b2) (b3.trans k7)
 .rintro σ G' ⟨st,v4,rfl,gf,hp,gr,kp⟩;rw[len,Nat.sub_self,Zb4] at hp;obtain ⟨st',rfl,hst⟩:=zbY (by simpa using hp:xZ st=yK c++[])
  have e:st'=[]:=by
   cases st' with
   |nil=>rfl
   |cons s r=>obtain ⟨q,eq⟩:=zei s;simp[xZ,eq] at hst
  subst e;refine yX ?_
  erw[]
  refine nL (zL gf) ?_;have ev:vU t m [c]=[.bl (hv t m c)]:=rfl;rw[ev,uH];exact h G' kp
end
theorem ix2 {a b c:W} {l:List W} {G:Hw} {Q:Q3}:kU (.tup (a::b::c::l)) (.int 2) G Q=Q c G:=by simp only[kU,at_2]
theorem at_3 {a b c d:W} {l:List W}:rQ (a::b::c::d::l) 3=some d:=by
 unfold rQ;have:ixN (a::b::c::d::l).length 3=some 3:=by simp[ixN];omega
 rw[this];rfl
theorem ix3 {a b c d:W} {l:List W} {G:Hw} {Q:Q3}:kU (.tup (a::b::c::d::l)) (.int 3) G Q=Q d G:=by simp only[kU,at_3]
def bls (l:List Bool):List W:=l.map .bl
theorem zbv:∀ l:List Bool,yP (bls l)=true
 | []=>rfl
 |x::l=>by show (pur (.bl x)&&yP (bls l))=true;rw[zbv l];rfl
theorem zbW:∀ l:List Bool,yL (bls l)=0
 | []=>rfl
 |x::l=>by show max (dep (.bl x)) (yL (bls l))=0;rw[zbW l];rfl
theorem zib:∀ l m:List Bool,jU (bls l) (bls m)=(l==m)
 | [],[]=>by simp[bls,jU]
 | [],_::_=>by simp[bls,jU]
 |_::_,[]=>by simp[bls,jU]
 |x::l,y::m=>by
  show (yQ (.bl x) (.bl y)&&jU (bls l) (bls m))=_;rw[zib l m];simp[yQ]
theorem zmu {G:Hw} {p q:Addr} {l m:List Bool} (hp:G p=some (.lst (bls l))) (hq:G q=some (.lst (bls m))):fC G (.ref p) (.ref q)=some (l==m):=by
 simp only[fC,zL hp,zL hq];rw[if_pos (by rw[zbv,zbv,zbW,zbW];rfl),zib]
theorem zkt (l:List Bool):((bls l).any fun w=>yQ w (.bl true))=l.contains true:=by
 induction l with
 |nil=>rfl
 |cons x l ih =>
  show (yQ (.bl x) (.bl true) || (bls l).any fun w=>yQ w (.bl true))=_;rw[ih];cases x<;>simp[yQ]
theorem zlf {l:List Bool} {G:Hw} {Q:Q3} (q:Q (.bl (l.contains true)) G):L3.inR false (.bl true) (bls l) G Q:=by
 refine ⟨⟨by simp[pur],zbv l,by rw[zbW];simp⟩,?_⟩;rw[zkt];exact q
def zhX:Cd->Bool
 | .neg _=>true
 |_=>false
def bE:Bool->Cd->Bool
 |false,.bin false _ _=>true
 |true,.bin true _ _=>true
 |_,_=>false
theorem ziQ (c:Cd):(yC c==("not" : Str))=zhX c:=by
 cases c with
 |one k s=>cases k<;>rfl
 |two k x s=>cases k<;>rfl
 |bin k a b=>cases k<;>rfl
 |_=>rfl
theorem ziR (c:Cd):(yC c==("and" : Str))=bE false c:=by
 cases c with
 |one k s=>cases k<;>rfl
 |two k x s=>cases k<;>rfl
 |bin k a b=>cases k<;>rfl
 |_=>rfl
theorem w_or (c:Cd):(yC c==("or" : Str))=bE true c:=by
 cases c with
 |one k s=>cases k<;>rfl
 |two k x s=>cases k<;>rfl
 |bin k a b=>cases k<;>rfl
 |_=>rfl
theorem ixs {c:Cd} (h:jO c=[]) {x:W} {r:List W} (e:jB c=x::r) {G:Hw} {Q:Q3}:kU c.w (.int 1) G Q=Q x G:=by rw[c_w h,e,bF]
theorem slc {c:Cd} (h:jO c=[]) {G:Hw} {Q:Q3}:slR c.w (some 1) none G Q=Q (.tup (jB c)) G:=by
 rw[c_w h];simp only[slR,nV]
section
variable {K:yI} {C sA:Addr}
theorem zf1 {n:Nat} {ws:List W} {G:Hw} {Q:Q3} (h:wW (n+1) ws G Q XN):zI (wX K C sA 44 ⟨"_law_holds", wW n⟩) XN xN { nx:=fun _ G'=>Q .non G',rt:=Q } (yT pF ws) G:=by
 obtain ⟨c,t,m,rfl,co,to,mo,cd,h⟩:=h;have e8:(wX K C sA 44 ⟨"_law_holds", wW n⟩).fn[8]?=some eInt:=rfl;have e14:(wX K C sA 44 ⟨"_law_holds", wW n⟩).fn[24]?=some ⟨"_law_says", qD⟩:=rfl;have e30:(wX K C sA 44 ⟨"_law_holds", wW n⟩).fn[44]?=some ⟨"_law_holds", wW n⟩:=rfl;have z2:=sz 2 'c';have dO:=dZ to.o;have dU:=dZ to.u;have dS:=fA to.s;have dF:=fA to.f;have tp:=zeE mo;have mp:=zkO mo;have H:=h G zK.refl;show zI (wX K C sA 44 ⟨"_law_holds", wW n⟩) XN xN { nx:=fun _ G'=>Q .non G',rt:=Q } [some c.w,some t.w,some m.w,none,none] G;simp only[xN];refine yX ?_
 erw[ixw]
 refine yX ?_
 erw[zA,zJ,zmX]
 cases c with
 |any =>
  simp only[fJ,if_true];refine yX ?_
  erw[]
  exact H
 |neg a =>
  simp only[fJ,zzB,if_false];refine xT ?_;refine yX ?_
  erw[zA,zJ,ziQ,zhX,if_true]
  refine yX ?_
  erw[Cd.w,bF,e30]
  simp only[Cd.deep] at cd;exact ⟨a,t,m,rfl,co,to,mo,by omega,fun G2 k2=>h G2 k2⟩
 |bin k a b =>
  simp only[fJ,zzB,if_false];refine xT ?_;refine yX ?_
  erw[zA,zJ,ziQ,zhX,zzB,if_false]
  refine xT ?_;simp only[Cd.deep] at cd;refine yX ?_
  have go:zI (wX K C sA 44 ⟨"_law_holds", wW n⟩) XN {.asg 4 (.lc (.nm 0) ["_law_part"] [1,2] (.val (.sl 'h' (.yes 1⁻¹) .no)) .no (.call 44 {.var 0,.var 1,.var 2})),.ret (.or (.cmp .Eq (.var 4) (.lst {.con (.bool true),.con (.bool true)})) (.and (.cmp .Eq (.var 3) "or"⁻¹) (.cmp .In (.con (.bool true)) (.var 4))))} { nx:=fun _ G'=>False,rt:=Q } [some (Cd.bin k a b).w,some t.w,some m.w,some (.str (yC (.bin k a b))),none] G:=by
   refine yX ?_
   erw[Cd.w,slR,nV,xH]
   refine ⟨fun i acc G'=>zK [] G G'/\acc=([hv t m a,hv t m b].take i).map .bl,⟨zK.refl,rfl⟩,?_,z2,?_,?_⟩
   .rintro i acc G' ⟨_,rfl⟩ _;exact ⟨trivial,by simp;omega⟩
   .rintro i w acc G' hw ⟨k1,rfl⟩;simp only[nT,List.replicate,zzU,zzV,Zac,ZC,gZ,gS,tZ,tS,Zaj,Ze,Zj]
    erw[if_true,e30]
    match i,hw with
    | 0,hw =>
     cases hw;exact ⟨a,t,m,rfl,co.1,to,mo,by omega,fun G2 k2=>⟨k1.trans k2,rfl⟩⟩
    | 1,hw =>
     cases hw;exact ⟨b,t,m,rfl,co.2,to,mo,by omega,fun G2 k2=>⟨k1.trans k2,rfl⟩⟩
    |i+2,hw=>cases hw
   .rintro acc G1 ⟨k1,rfl⟩ r hr;have k2:zK [] G (put G1 r (.lst (bls [hv t m a,hv t m b]))):=k1.trans (zK.new hr);have g2:(put G1 r (.lst (bls [hv t m a,hv t m b]))) r=some (.lst (bls [hv t m a,hv t m b])):=zM;show zI _ XN _ _ _ (put G1 r (.lst (bls [hv t m a,hv t m b])));generalize put G1 r (.lst (bls [hv t m a,hv t m b]))=G2 at k2 g2 ⊢;refine yX ?_
    erw[zzC,zzL,zzA,Nat.reduceAdd,z2,true_and]
    intro r3 hr3;have k3:zK [] G2 (put G2 r3 (.lst [.bl true,.bl true])):=zK.new hr3;have g3:(put G2 r3 (.lst [.bl true,.bl true])) r3=some (.lst (bls [true,true])):=zM;generalize put G2 r3 (.lst [.bl true,.bl true])=G3 at k3 g3 ⊢;have g23:=k3 _ _ 'g' g2;have H3:=h _ (k2.trans k3);simp only[zA,zmu g23 g3,wP,g23,zJ,w_or]
    cases k with
    |false =>
     simp only[hv] at H3;cases ha:hv t m a<;>cases hb:hv t m b<;>rw[ha,hb] at H3<;>simp[bE]<;>exact H3
    |true =>
     simp only[hv] at H3;cases ha:hv t m a<;>cases hb:hv t m b<;>rw[ha,hb] at H3<;>simp[bE]<;>first|exact H3|exact zlf H3
  cases k with
  |false =>
   erw[zA,zJ,ziR,bE,if_true]
   exact go
  |true =>
   erw[zA,zJ,ziR,w_or,bE,zzB,if_false,if_true]
   exact go
 |one k s =>
  have ps:=vS s;simp only[fJ,zzB,if_false];refine xT ?_;refine yX ?_
  erw[zA,zJ,ziQ,zhX,zzB,if_false]
  refine xT ?_;refine yX ?_
  erw[zA,zJ,ziR,w_or,bE,zzB,if_false]
  refine xT ?_;refine yX ?_
  erw[zA,zJ,zeu,sQ]
  cases k with
  |said =>
   simp only[is1,if_true];refine yX ?_
   erw[ixs (c:=.one .said s) rfl rfl,e8,zA,zJ,sQ,is1,rF,zzB,if_false,wN,Sd.w]
   refine ⟨by unfold CMul;decide,?_⟩;rw[show (3:Int) * 0=0 from rfl];simp only[vJ,wP];exact inW ps (fU _) 'd' H
  |fresh =>
   simp only[is1,zzB,if_false,if_true];refine yX ?_
   erw[ixs (c:=.one .fresh s) rfl rfl,e8,zA,zJ,sQ,is1,rF,if_true,wN,Sd.w]
   refine ⟨by unfold CMul;decide,?_⟩;rw[show (3:Int) * 1=3 from rfl];simp only[ix3,wP];exact inW ps (fU _) 'd' H
  |heard =>
   simp only[is1,zzB,if_false];refine xT ?_;refine yX ?_
   erw[zA,zJ,zev,rD,is2,zzB,if_false]
   refine xT ?_;refine yX ?_
   have mov:m≠.no->zI (wX K C sA 44 ⟨"_law_holds", wW n⟩) XN (tl (tl (tl (tl (tl (tl (tl xN))))))) { nx:=fun _ G'=>Q .non G',rt:=Q } [some (Cd.one .heard s).w,some t.w,some m.w,some (.str (yC (.one .heard s))),none] G:=by
    intro mn;simp only[xN,tl];refine yX ?_
    erw[zA,zJ,zgp,is1,if_true]
    refine yX ?_
    erw[e14]
    refine zgz mo mn ?_;simp only[ixs (c:=.one .heard s) rfl rfl,zA];rw[eqP tp.1 ps 'd' tp.2.2]
    have e:h1 t m (.one .heard s)=yQ m.told s.w:=by
     cases m with
     |no=>exact absurd rfl mn
     |_=>rfl
    have H':Q (.bl (h1 t m (.one .heard s))) G:=H;rw[e] at H';exact H'
   simp only[xN,tl] at mov
   cases m with
   |no =>
    erw[Mo.w,zA,cH,zzB,if_false,if_true]
    refine yX ?_
    erw[]
    exact H
   |dbt y r =>
    erw[Mo.w,zA,cH,zzB,if_false]
    refine xT ?_;exact mov (by intro z;cases z)
   |ans y r a =>
    erw[Mo.w,zA,cH,zzB,if_false]
    refine xT ?_;exact mov (by intro z;cases z)
 |two k x s =>
  have pd:=pR (x,s);have q5:(("answer" : Str) == "doubt")=false:=by decide +kernel
  simp only[fJ,zzB,if_false];refine xT ?_;refine yX ?_
  erw[zA,zJ,ziQ,zhX,zzB,if_false]
  refine xT ?_;refine yX ?_
  erw[zA,zJ,ziR,w_or,bE,zzB,if_false]
  refine xT ?_;refine yX ?_
  erw[zA,zJ,zeu,sQ,is1,zzB,if_false]
  refine xT ?_;refine yX ?_
  erw[zA,zJ,zev,rD]
  have mov:m≠.no->(is2 .asked (.two k x s)=true/\h1 t m (.two k x s)=(match m with|.dbt y r=>yQ (dW (y,r)) (dW (x,s))|_=>false)\/is2 .asked (.two k x s)=false/\h1 t m (.two k x s)=(match m with|.ans y r _=>yQ (dW (y,r)) (dW (x,s))|_=>false))->zI (wX K C sA 44 ⟨"_law_holds", wW n⟩) XN (tl (tl (tl (tl (tl (tl (tl xN))))))) { nx:=fun _ G'=>Q .non G',rt:=Q } [some (Cd.two k x s).w,some t.w,some m.w,some (.str (yC (.two k x s))),none] G:=by
   intro mn hk;simp only[xN,tl];refine yX ?_
   erw[zA,zJ,zgp,is1,zzB,if_false]
   refine xT ?_;refine yX ?_;have Hh:∀ G',zK [] G G'->Q (.bl (h1 t m (.two k x s))) G':=h
   cases m with
   |no=>exact absurd rfl mn
   |dbt y r =>
    have dy:=zfp (p:=(y,r)) mo.2
    erw[Mo.w,bF,slR,nV,zzC,zzL,zzA,Nat.reduceAdd,z2,true_and,e8]
    intro p hp;have k1:zK [] G (put G p (.lst [.str y,.tup [.str y,r.w]])):=zK.new hp;have g1:(put G p (.lst [.str y,.tup [.str y,r.w]])) p=some (.lst [.str y,.tup [.str y,r.w]]):=zM;have H1:=Hh _ k1;generalize put G p (.lst [.str y,.tup [.str y,r.w]])=G1 at k1 g1 H1 ⊢;have e1:=eqP (G:=G1) (x:=dW (y,r)) (y:=dW (x,s)) (pR _) pd 'd' (fun p e=>by cases e);have e2:=eqP (G:=G1) (x:=.str y) (y:=dW (x,s)) rfl pd (Zg _) (fun p e=>by cases e);simp only[dW] at e1 e2 hk;simp only[zA,zJ,zgq,rF];rcases hk with ⟨ia,ih⟩|⟨ia,ih⟩
    .rw[ia];simp only[if_true];refine nL (zL g1) ?_;rw[vC];simp only[Cd.w,nV,e1,vJ,zJ,beq_self_eq_true,zk4];rw[ih] at H1
     cases hE:yQ (.tup [.str y,r.w]) (.tup [.str x,s.w]) with
     |true=>rw[hE] at H1;simp only[if_true];exact H1
     |false=>rw[hE] at H1;simp only[zzB,if_false];exact H1
    .rw[ia];simp only[zzB,if_false];refine nL (zL g1) ?_;rw[uH];simp only[Cd.w,nV,e2];rw[ih] at H1;simp only[yQ,zzB,if_false];exact H1
   |ans y r a =>
    have dy:=zfp (p:=(y,r)) mo.1;have da:=vO mo.2
    erw[Mo.w,bF,slR,nV,zzC,zzL,zzA,Nat.reduceAdd,z2,true_and,e8]
    intro p hp;have k1:zK [] G (put G p (.lst [.tup [.str y,r.w],.tup [.tup [.str y,r.w],a.w]])):=zK.new hp;have g1:(put G p (.lst [.tup [.str y,r.w],.tup [.tup [.str y,r.w],a.w]])) p=some (.lst [.tup [.str y,r.w],.tup [.tup [.str y,r.w],a.w]]):=zM;have H1:=Hh _ k1;generalize put G p (.lst [.tup [.str y,r.w],.tup [.tup [.str y,r.w],a.w]])=G1 at k1 g1 H1 ⊢;have e1:=eqP (G:=G1) (x:=dW (y,r)) (y:=dW (x,s)) (pR _) pd 'd' (fun p e=>by cases e);have e2:=eqP (G:=G1) (x:=.tup [dW (y,r),a.w]) (y:=dW (x,s)) (by simp only[pur,yP,pR,vS];rfl) pd (by simp only[dep,yL] at *;omega) (fun p e=>by cases e);simp only[dW] at e1 e2 hk;simp only[zA,zJ,zgq,rF];rcases hk with ⟨ia,ih⟩|⟨ia,ih⟩
    .rw[ia];simp only[if_true];refine nL (zL g1) ?_;rw[vC];simp only[Cd.w,nV,e2];rw[ih] at H1;have ef:yQ (.tup [.tup [.str y,r.w],a.w]) (.tup [.str x,s.w])=false:=by simp[yQ,jU]
     simp only[ef,zzB,if_false];exact H1
    .rw[ia];simp only[zzB,if_false];refine nL (zL g1) ?_;rw[uH];simp only[Cd.w,nV,e1,vJ,zJ,q5,zk4,beq_self_eq_true];rw[ih] at H1
     cases hE:yQ (.tup [.str y,r.w]) (.tup [.str x,s.w]) with
     |true=>rw[hE] at H1;simp only[if_true];exact H1
     |false=>rw[hE] at H1;simp only[zzB,if_false];exact H1
  simp only[xN,tl] at mov
  cases k with
  |opn =>
   simp only[is2,if_true];refine yX ?_
   erw[slc (c:=.two .opn x s) rfl,e8,zA,zJ,rD,is2,rF,zzB,if_false,wN,Sd.w]
   rw[show (1:Int)+0=1 from rfl];simp only[bF,wP];exact inW pd (fT _) 'd' H
  |used =>
   simp only[is2,zzB,if_false,if_true];refine yX ?_
   erw[slc (c:=.two .used x s) rfl,e8,zA,zJ,rD,is2,rF,if_true,wN,Sd.w]
   rw[show (1:Int)+1=2 from rfl];simp only[ix2,wP];exact inW pd (fT _) 'd' H
  |asked =>
   simp only[is2,zzB,if_false];refine xT ?_;refine yX ?_
   cases m with
   |no =>
    erw[Mo.w,zA,cH,zzB,if_false,if_true]
    refine yX ?_
    erw[]
    exact H
   |dbt y r =>
    erw[Mo.w,zA,cH,zzB,if_false]
    refine xT ?_;exact mov (by intro z;cases z) (.inl ⟨rfl,rfl⟩)
   |ans y r a =>
    erw[Mo.w,zA,cH,zzB,if_false]
    refine xT ?_;exact mov (by intro z;cases z) (.inl ⟨rfl,rfl⟩)
  |answ =>
   simp only[is2,zzB,if_false];refine xT ?_;refine yX ?_
   cases m with
   |no =>
    erw[Mo.w,zA,cH,zzB,if_false,if_true]
    refine yX ?_
    erw[]
    exact H
   |dbt y r =>
    erw[Mo.w,zA,cH,zzB,if_false]
    refine xT ?_;exact mov (by intro z;cases z) (.inr ⟨rfl,rfl⟩)
   |ans y r a =>
    erw[Mo.w,zA,cH,zzB,if_false]
    refine xT ?_;exact mov (by intro z;cases z) (.inr ⟨rfl,rfl⟩)
end
theorem Says.keep {G G':Hw} {d l p:Addr} {ps:List Sy} (s:Says G d l p ps) (k:zK [d,l] G G') (D:xA G' d l):Says G' d l p ps:=⟨D,s.off,k _ _ s.off s.is,s.ne,s.few,s.sz⟩
theorem zoN {ps:List Sy} {i:Int} (h0:0<=i) (h1:i<ps.length):∃ x∈ps,rQ (ps.map Sy.w) i=some x.w:=by
 have hi:i.toNat<ps.length:=by omega
 refine ⟨ps[i.toNat],ZB hi,?_⟩;unfold rQ ixN;rw[if_pos h0,zzM,if_pos h1];show (ps.map Sy.w)[i.toNat]?=_;rw[Zx,Zf hi];rfl
section
variable {K:yI} {C sA:Addr}
theorem zkp {n:Nat} {ws:List W} {G:Hw} {Q:Q3} (h:qS (n+1) ws G Q XN):zI (wX K C sA 17 ⟨"_law_condition", qS n⟩) XN yH { nx:=fun _ G'=>Q .non G',rt:=Q } (yT vQ ws) G:=by
 obtain ⟨d,l,p,ps,k,rfl,S,kn,k10,h⟩:=h;have e1:(wX K C sA 17 ⟨"_law_condition", qS n⟩).fn[1]?=some eLen:=rfl;have e8:(wX K C sA 17 ⟨"_law_condition", qS n⟩).fn[8]?=some eInt:=rfl;have e11:(wX K C sA 17 ⟨"_law_condition", qS n⟩).fn[11]?=some fB:=rfl;have e16:(wX K C sA 17 ⟨"_law_condition", qS n⟩).fn[16]?=some ⟨"_law_word", zcg⟩:=rfl;have e17:(wX K C sA 17 ⟨"_law_condition", qS n⟩).fn[17]?=some ⟨"_law_condition", qS n⟩:=rfl;have z1:=sz 1 'c';have z2:=sz 2 'c';have z3:=sz 3 'c';have z4:=sz 4 'c';have few:=S.few;have pos:0<ps.length:=Z2.mpr S.ne;show zI (wX K C sA 17 ⟨"_law_condition", qS n⟩) XN yH { nx:=fun _ G'=>Q .non G',rt:=Q } [d⁻¹,p⁻¹,some (.int (k:Nat)),none,none,none,none] G;simp only[yH];refine yX ?_
 erw[e11]
 refine ⟨d,l,10,rfl,S.deal,by decide,fun way G1 w0 w1 k1 D1=>?_⟩;have S1:=S.keep k1 D1;refine yX ?_
 erw[e1,e11,gM,gN,S1.is,zzM]
 refine ⟨d,l,ps.length,rfl,D1,⟨by omega,by omega⟩,fun i G2 i0 i1 k2 D2=>?_⟩;have S2:=S1.keep k2 D2;have kk:=k1.trans k2;obtain ⟨s,sm,es⟩:=zoN i0 i1;have ss:=S.sz s sm;refine nL (zL S2.is) ?_;rw[es];refine yX ?_
 erw[zA,mZ]
 have rest:zI (wX K C sA 17 ⟨"_law_condition", qS n⟩) XN (tl (tl (tl yH))) { nx:=fun _ G'=>Q .non G',rt:=Q } [d⁻¹,p⁻¹,some (.int (k:Nat)),some (.int way),some s.w,none,none] G2:=by
  simp only[yH,tl];refine yX ?_
  erw[zA,mZ]
  by_cases h2:way<2
  .rw[if_pos (by simpa using h2)];refine yX ?_
   erw[zzC,zzL,zzA,z1,true_and]
   exact h .any G2 trivial (Zg _) kk D2
  rw[if_neg (by simpa using h2)];refine xT ?_;refine yX ?_
  erw[zA,mZ]
  by_cases h4:way<4
  .rw[if_pos (by simpa using h4)];refine yX ?_
   erw[zzC,zzL,zzA,Nat.reduceAdd,z2,z3,true_and]
   intro q hq;have k3:zK [] G2 (put G2 q (.lst [.str "said", .str "fresh", .str "heard"])):=zK.new hq;have g3:(put G2 q (.lst [.str "said", .str "fresh", .str "heard"])) q=some (.lst [.str "said", .str "fresh", .str "heard"]):=zM;have nq:=wH D2 hq;generalize put G2 q (.lst [.str "said", .str "fresh", .str "heard"])=G3 at k3 g3 ⊢;have D3:=qF k3 D2;simp only[e11];refine ⟨d,l,3,rfl,D3,by decide,fun j G4 j0 j1 k4 D4=>?_⟩;refine nL (zL (k4 _ _ nq g3)) ?_;have kz:=kk.trans ((rL k3).trans k4);have hj:j=0\/j=1\/j=2:=by omega
   rcases hj with rfl|rfl|rfl
   .rw[uH];exact h (.one .said s) G4 ss (Zg _) kz D4
   .rw[vC];exact h (.one .fresh s) G4 ss (Zg _) kz D4
   .rw[at_2];exact h (.one .heard s) G4 ss (Zg _) kz D4
  rw[if_neg (by simpa using h4)];refine xT ?_;refine yX ?_
  erw[e16,zzC,zzL,zzA,Nat.reduceAdd,z2,true_and]
  refine ⟨d,l,s,rfl,D2,fun x G3 k3 D3=>?_⟩;intro q hq;have k4:zK [] G3 (put G3 q (.lst [.str x,.str "begin"])):=zK.new hq;have g4:(put G3 q (.lst [.str x,.str "begin"])) q=some (.lst [.str x,.str "begin"]):=zM;have nq:=wH D3 hq;generalize put G3 q (.lst [.str x,.str "begin"])=G4 at k4 g4 ⊢;have D4:=qF k4 D3;simp only[e8,e11];refine ⟨d,l,5,rfl,D4,by decide,fun j G5 j0 j1 k5 D5=>?_⟩;simp only[zA,kT,rF];refine nL (zL (k5 _ _ nq g4)) ?_;have kz:=kk.trans (k3.trans ((rL k4).trans k5))
  have fin:∀ y:Str,zI (wX K C sA 17 ⟨"_law_condition", qS n⟩) XN (tl (tl (tl (tl (tl (tl yH)))))) { nx:=fun _ G'=>Q .non G',rt:=Q } [d⁻¹,p⁻¹,some (.int (k:Nat)),some (.int way),some s.w,none,some (.str y)] G5:=by
   intro y;simp only[yH,tl];refine yX ?_
   erw[zzC,zzL,zzA,Nat.reduceAdd,z3,z4,true_and]
   intro q hq;have k6:zK [] G5 (put G5 q (.lst [.str "open", .str "used", .str "asked", .str "answered"])):=zK.new hq;have g6:(put G5 q (.lst [.str "open", .str "used", .str "asked", .str "answered"])) q=some (.lst [.str "open", .str "used", .str "asked", .str "answered"]):=zM;have nq:=wH D5 hq;generalize put G5 q (.lst [.str "open", .str "used", .str "asked", .str "answered"])=G6 at k6 g6 ⊢;have D6:=qF k6 D5;simp only[e11];refine ⟨d,l,4,rfl,D6,by decide,fun j G7 j0 j1 k7 D7=>?_⟩;refine nL (zL (k7 _ _ nq g6)) ?_;have ky:=kz.trans ((rL k6).trans k7);have hj:j=0\/j=1\/j=2\/j=3:=by omega
   rcases hj with rfl|rfl|rfl|rfl
   .rw[uH];exact h (.two .opn y s) G7 ss (Zg _) ky D7
   .rw[vC];exact h (.two .used y s) G7 ss (Zg _) ky D7
   .rw[at_2];exact h (.two .asked y s) G7 ss (Zg _) ky D7
   .rw[at_3];exact h (.two .answ y s) G7 ss (Zg _) ky D7
  simp only[yH,tl] at fin
  by_cases hj:j=0
  .rw[decide_eq_true hj];simp only[if_true];rw[vC];exact fin _
  .rw[decide_eq_false hj];simp only[zzB,if_false];rw[uH];exact fin _
 simp only[yH,tl] at rest
 by_cases h6:6<way
 .simp only[decide_eq_true h6,if_true]
  by_cases h0:0<(k:Int)
  .simp only[decide_eq_true h0,if_true];refine yX ?_
   erw[e17,wN]
   have ek:(k:Int)-1=((k-1:Nat):Int):=by omega
   refine ⟨d,l,p,ps,k-1,by rw[ek],S2,by omega,by omega,fun c G3 co cd k3 D3=>?_⟩;have S3:=S2.keep k3 D3;have kz:=kk.trans k3;refine yX ?_
   erw[zA,kT]
   by_cases h9:way=9
   .rw[decide_eq_true h9,if_pos rfl];refine yX ?_
    erw[zzC,zzL,zzA,Nat.reduceAdd,z2,true_and]
    exact h (.neg c) G3 co (by simp only[Cd.deep];omega) kz D3
   .rw[decide_eq_false h9,if_neg zzN];refine xT ?_;refine yX ?_
    erw[zzC,zzL,zzA,Nat.reduceAdd,z2,z3,true_and]
    intro q hq;have k4:zK [] G3 (put G3 q (.lst [.str "and", .str "or"])):=zK.new hq;have g4:(put G3 q (.lst [.str "and", .str "or"])) q=some (.lst [.str "and", .str "or"]):=zM;generalize put G3 q (.lst [.str "and", .str "or"])=G4 at k4 g4 ⊢;have D4:=qF k4 D3;have S4:=S3.keep (rL k4) D4;simp only[wN];refine nL (zL g4) ?_;have hw:way-7=0\/way-7=1:=by omega
    rcases hw with hw|hw
    .rw[hw,uH];simp only[e17];refine ⟨d,l,p,ps,k-1,by rw[ek],S4,by omega,by omega,fun c' G5 co' cd' k5 D5=>?_⟩;exact h (.bin false c c') G5 ⟨co,co'⟩ (by simp only[Cd.deep];omega) (kz.trans ((rL k4).trans k5)) D5
    .rw[hw,vC];simp only[e17];refine ⟨d,l,p,ps,k-1,by rw[ek],S4,by omega,by omega,fun c' G5 co' cd' k5 D5=>?_⟩;exact h (.bin true c c') G5 ⟨co,co'⟩ (by simp only[Cd.deep];omega) (kz.trans ((rL k4).trans k5)) D5
  .simp only[decide_eq_false h0,zzB,if_false];refine xT ?_;exact rest
 .simp only[decide_eq_false h6,zzB,if_false];refine xT ?_;exact rest
end
theorem tx2 {a b:W} (ha:Tx a) (hb:Tx b):Tx (.tup [a,b]):=.tup _ 'g' fun w hw=>by
 rcases Zk.mp hw with rfl|hw
 .exact ha
 .rw[zzO hw];exact hb
theorem tx3 {a b c:W} (ha:Tx a) (hb:Tx b) (hc:Tx c):Tx (.tup [a,b,c]):=.tup _ 'g' fun w hw=>by
 rcases Zk.mp hw with rfl|hw
 .exact ha
 .rcases Zk.mp hw with rfl|hw
  .exact hb
  .rw[zzO hw];exact hc
theorem rC:∀ t:Sy,Tx t.w
 | .say x=>tx2 (.str _) (.str _)
 | .not a=>tx2 (.str _) (rC a)
 | .and a b=>tx3 (.str _) (rC a) (rC b)
 | .or a b=>tx3 (.str _) (rC a) (rC b)
 | .ite a b=>tx3 (.str _) (rC a) (rC b)
theorem ziV:∀ c:Cd,Tx c.w
 | .any=>.tup _ 'g' fun w hw=>by rw[zzO hw];exact .str _
 | .one _ s=>tx2 (.str _) (rC s)
 | .two _ x s=>tx3 (.str _) (.str _) (rC s)
 | .neg a=>tx2 (.str _) (ziV a)
 | .bin _ a b=>tx3 (.str _) (ziV a) (ziV b)
theorem zfq:∀ {c:Cd},c.ok->dep c.w<=c.deep+22
 | .any,_=>by simp[Cd.w,dep,yL]
 | .one _ s,h=>by
  have:=vO (t:=s) h;simp only[Cd.w,dep,yL];omega
 | .two _ x s,h=>by
  have:=vO (t:=s) h;simp only[Cd.w,dep,yL];omega
 | .neg a,h=>by
  have:=zfq (c:=a) h;simp only[Cd.w,Cd.deep,dep,yL];omega
 | .bin _ a b,h=>by
  have:=zfq (c:=a) h.1;have:=zfq (c:=b) h.2;simp only[Cd.w,Cd.deep,dep,yL];omega
theorem tx_dd:∀ e:Dd,Tx e.w
 | .ans s=>tx2 (.str _) (rC s)
 | .dbt _ s=>tx3 (.str _) (.str _) (rC s)
 | .dbw _=>tx2 (.str _) (.str _)
 | .mov _=>tx2 (.str _) (.int _)
theorem zoF:∀ {e:Dd},e.ok->dep e.w<=22
 | .ans s,h=>by
  have:=vO (t:=s) h;simp only[Dd.w,dep,yL];omega
 | .dbt _ s,h=>by
  have:=vO (t:=s) h;simp only[Dd.w,dep,yL];omega
 | .dbw _,_=>by simp[Dd.w,dep,yL]
 | .mov _,_=>by simp[Dd.w,dep,yL]
section
variable {K:yI} {C sA:Addr}
theorem zkh {n:Nat} (hn:18<=n) {ws:List W} {G:Hw} {Q:Q3} (h:zeL ws G Q XN):zI 'b' XN rT { nx:=fun _ G'=>Q .non G',rt:=Q } (yT gW ws) G:=by
 obtain ⟨d,l,p,ps,rfl,S,h⟩:=h;have e1:'b'.fn[1]?=some eLen:=vW 1 hn rfl;have e9:'b'.fn[11]?=some fB:=vW 11 hn rfl;have e13:'b'.fn[16]?=some ⟨"_law_word", zcg⟩:=vW 16 hn rfl;have z2:=sz 2 'c';have z3:=sz 3 'c';have few:=S.few;have pos:0<ps.length:=Z2.mpr S.ne;show zI 'b' XN rT { nx:=fun _ G'=>Q .non G',rt:=Q } [d⁻¹,p⁻¹,none,none] G;simp only[rT];refine yX ?_
 erw[e9]
 refine ⟨d,l,6,rfl,S.deal,by decide,fun way G1 w0 w1 k1 D1=>?_⟩;have S1:=S.keep k1 D1;refine yX ?_
 erw[e1,e9,gM,gN,S1.is,zzM]
 refine ⟨d,l,ps.length,rfl,D1,⟨by omega,by omega⟩,fun i G2 i0 i1 k2 D2=>?_⟩;have S2:=S1.keep k2 D2;have kk:=k1.trans k2;obtain ⟨s,sm,es⟩:=zoN i0 i1;have ss:=S.sz s sm;refine nL (zL S2.is) ?_;rw[es];refine yX ?_
 erw[zA,mZ]
 by_cases h2:way<2
 .rw[if_pos (by simpa using h2)];refine yX ?_
  erw[zzC,zzL,zzA,Nat.reduceAdd,z2,true_and]
  exact h (.ans s) G2 ss kk D2
 rw[if_neg (by simpa using h2)];refine xT ?_;refine yX ?_
 erw[zA,kT]
 by_cases h3:way=2
 .rw[if_pos (by simpa using h3)];refine yX ?_
  erw[e13,zzC,zzL,zzA,Nat.reduceAdd,z3,true_and]
  exact ⟨d,l,s,rfl,D2,fun x G3 k3 D3=>h (.dbt x s) G3 ss (kk.trans k3) D3⟩
 rw[if_neg (by simpa using h3)];refine xT ?_;refine yX ?_
 erw[zA,kT]
 by_cases h4:way=3
 .rw[if_pos (by simpa using h4)];refine yX ?_
  erw[e13,zzC,zzL,zzA,Nat.reduceAdd,z2,true_and]
  exact ⟨d,l,s,rfl,D2,fun x G3 k3 D3=>h (.dbw x) G3 trivial (kk.trans k3) D3⟩
 rw[if_neg (by simpa using h4)];refine xT ?_;refine yX ?_
 erw[e9,zzC,zzL,zzA,Nat.reduceAdd,z2,true_and]
 refine ⟨d,l,4,rfl,D2,by decide,fun a G3 a0 a1 k3 D3=>⟨d,l,1000,rfl,D3,by decide,fun b G4 b0 b1 k4 D4=>?_⟩⟩;intro q hq;have k5:zK [] G4 (put G4 q (.lst [.int a,.int b])):=zK.new hq;have g5:(put G4 q (.lst [.int a,.int b])) q=some (.lst [.int a,.int b]):=zM;have nq:=wH D4 hq;generalize put G4 q (.lst [.int a,.int b])=G5 at k5 g5 ⊢;refine ⟨d,l,2,rfl,qF k5 D4,by decide,fun j G6 j0 j1 k6 D6=>?_⟩;refine nL (zL (k6 _ _ nq g5)) ?_;have kz:=kk.trans (k3.trans (k4.trans ((rL k5).trans k6)));have hj:j=0\/j=1:=by omega
 rcases hj with rfl|rfl
 .rw[uH];exact h (.mov a) G6 ⟨a0,by omega⟩ kz D6
 .rw[vC];exact h (.mov b) G6 ⟨b0,by omega⟩ kz D6
theorem zdT {n:Nat} (hn:20<=n) {ws:List W} {G:Hw} {Q:Q3} (h:nP ws G Q XN):zI 'b' XN kQ { nx:=fun _ G'=>Q .non G',rt:=Q } (yT tJ ws) G:=by
 obtain ⟨d,l,p,ps,M,rfl,M0,M1,S,h⟩:=h;have e5:'b'.fn[7]?=some eTup:=vW 7 hn rfl;have e9:'b'.fn[11]?=some fB:=vW 11 hn rfl;have e14:'b'.fn[17]?=some ⟨"_law_condition", qS 5⟩:=vW 17 hn rfl;have e15:'b'.fn[18]?=some ⟨"_law_deed", zeL⟩:=vW 18 hn rfl;have e16:'b'.fn[19]?=some ⟨"_law_count", jF 60⟩:=vW 19 hn rfl;have i0:'b'.it[0]?=some eRng:=rfl;have t2:'b'.mt[2]?=some eApp:=rfl;have z0:=sz 0 'c';have z1:=sz 1 'c';have z2:=sz 2 'c';show zI 'b' XN kQ { nx:=fun _ G'=>Q .non G',rt:=Q } [d⁻¹,p⁻¹,some (.int M),some (.int 2),none,none,none,none] G;simp only[kQ];refine yX ?_
 erw[Zj,z0,true_and]
 intro q hq;have nq:=wH S.deal hq;have k0:zK [] G (put G q (.lst [])):=zK.new hq;have g0:(put G q (.lst [])) q=some (.lst (([]:List (Cd×Dd)).map uF)):=zM;generalize put G q (.lst [])=G0 at k0 g0 ⊢;have S0:=S.keep (rL k0) (qF k0 S.deal);refine yX ?_
 erw[i0,e9,wN]
 refine ⟨d,l,M+1,rfl,S0.deal,⟨by omega,by omega⟩,fun m G1 m0 m1 k1 D1=>?_⟩;refine ⟨⟨by omega,by omega⟩,?_⟩;refine ⟨fun i σ G'=>∃ (rs:List (Cd×Dd)) (v5 v6 v7:Option W),σ=[d⁻¹,p⁻¹,some (.int M),some (.int 2),q⁻¹,v5,v6,v7]/\G' q=some (.lst (rs.map uF))/\rs.length<=i/\(∀ r∈rs,r.1.ok/\r.1.deep<=4/\r.2.ok)/\zK [d,l] G G'/\xA G' d l,⟨[],none,none,none,rfl,k1 _ _ nq g0,zzR _,by simp,(rL k0).trans k1,D1⟩,fun _ _ _ _ _=>trivial,?_,?_⟩
 .rintro i w σ G' hw ⟨rs,v5,v6,v7,rfl,gq,rl,ro,kp,D'⟩
  have him:i<31:=by
   have:=(Zl.mp hw).1;simp only[zzM,Za9] at this;omega
  have S':=S.keep kp D';refine yX ?_
  erw[e14]
  refine ⟨d,l,p,ps,2,rfl,S',by decide,by decide,fun c G2 co cd k2 D2=>?_⟩;have S2:=S'.keep k2 D2;refine yX ?_
  erw[e15,zzC,zzL,zzA,Nat.reduceAdd,z2,true_and]
  refine ⟨d,l,p,ps,rfl,S2,fun e G3 eo k3 D3=>?_⟩;have gq3:=k3 _ _ nq (k2 _ _ nq gq);refine yX ?_
  erw[e16]
  have dc:=zfq co;have dd:=zoF eo;refine ⟨.tup [c.w,e.w],rfl,tx2 (ziV c) (tx_dd e),by simp only[dep,yL];omega,fun j G4 k4=>?_⟩;have D4:=qF k4 D3;have gq4:=k4 _ _ 'g' gq3;have kz:=kp.trans (k2.trans (k3.trans (rL k4)))
  have fin:∀ (r:Cd×Dd) (G5:Hw) (bk ct:qX->Hw->Prop) (v5 v6:Option W),r.1.ok->r.1.deep<=4->r.2.ok->zK [d,l] G G5->xA G5 d l->G5 q=some (.lst (rs.map uF))->zI 'b' XN {.ex (.mth 2 (.var 4) {.var 7})} { nx:=fun σ G'=>∃ (rs:List (Cd×Dd)) (v5 v6 v7:Option W),σ=[d⁻¹,p⁻¹,some (.int M),some (.int 2),q⁻¹,v5,v6,v7]/\G' q=some (.lst (rs.map uF))/\rs.length<=i+1/\(∀ r∈rs,r.1.ok/\r.1.deep<=4/\r.2.ok)/\zK [d,l] G G'/\xA G' d l,rt:=Q,bk:=bk,ct:=ct } [d⁻¹,p⁻¹,some (.int M),some (.int 2),q⁻¹,v5,v6,some (uF r)] G5:=by
   intro r G5 bk ct v5 v6 r1 r2 r3 k5 D5 gq5;refine yX ?_
   erw[t2]
   refine ⟨tyL gq5,appL gq5 (by rw[zzM];omega) ?_⟩;refine xT (Γ:=yW K C sA n) (E:=XN) ?_;refine ⟨rs++[r],_,_,_,rfl,by rw[zM];simp,by simp;omega,fun x hx=>?_,qO k5 hq,zbX nq D5⟩;rcases Zm.mp hx with hx|hx
   .exact ro x hx
   .rw[zzO hx];exact ⟨r1,r2,r3⟩
  simp only[zA,mZ]
  by_cases hj:55<j
  .rw[if_pos (by simpa using hj)];refine yX ?_
   erw[e9,zzC,zzL,zzA,Nat.reduceAdd,z1,z2,true_and]
   refine ⟨d,l,9,rfl,D4,by decide,fun a G5 a0 a1 k5 D5=>?_⟩;refine xT ?_;exact fin (.any,.mov a) G5 _ _ _ _ trivial (Zg _) ⟨a0,by omega⟩ (kz.trans k5) D5 (k5 _ _ nq gq4)
  .rw[if_neg (by simpa using hj)];refine xT ?_;exact fin (c,e) G4 _ _ _ _ co (Zb cd 'c') eo kz D4 gq4
 .rintro σ G' ⟨rs,v5,v6,v7,rfl,gq,rl,ro,kp,D'⟩;simp only[zzM,Za9] at rl;refine yX ?_
  erw[e5,dJ,vN,zL gq]
  exact h rs G' ⟨by omega,ro⟩ kp D'
end
theorem wU:(("doubt" : Str) == "answer")=false:=by decide +kernel
theorem jX:(("answer" : Str) == "doubt")=false:=by decide +kernel
theorem jS:∀ {l:List W},(∀ w∈l,pur w=true)->yP l=true
 | [],_=>rfl
 |x::l,h=>by simp[yP,h x zzT,jS fun w hw=>h w (Zd _ hw)]
theorem nI {n:Nat}:∀ {l:List W},(∀ w∈l,dep w<=n)->yL l<=n
 | [],_=>Zg _
 |x::l,h=>by
  have h1:=h x zzT;have h2:=nI fun w hw=>h w (Zd _ hw);simp only[yL];omega
theorem za9 {m:Mv} (ok:m.ok):∀ s,wZ m=some s->s.size<=21:=by
 intro s e
 cases m with
 |ans x t u=>cases e;exact ok.2
 |dbt x t =>
  simp only[wZ] at e
  split at e
  .cases e;exact Zb (sB t) ok.2
  .cases e
theorem jC (t:Sy):(words t).length<=2:=by cases t<;>simp[words]
theorem zfd {items:List W} {stab:Hw->Prop} {G1:Hw} {turn:W->Hw->(Option W->Hw->Prop)->Prop} {Q:Q3} (f:W->W) (hs:stab G1) (hl:items.length<=sizeLine) (ht:∀ w∈items,∀ K:Option W->Hw->Prop,K (some (f w)) G1->turn w G1 K)
  (hq:∀ p,G1 p=none->Q (.ref p) (put G1 p (.lst (items.map f)))):lcR items stab G1 turn Q :=
 nM (fun w=>some (f w)) hs hl ht (by intro p hp;have:=hq p hp;rwa[show items.filterMap (fun w=>some (f w))=items.map f from congrFun (List.filterMap_eq_map (f:=f)) items])
theorem zb7 (x:Str) (t:Sy):wF (.dbt x t)=said x t:=by
 by_cases h:x = "if" \/ x = "not"
 .simp only[wF,wZ,said,if_pos h]
 .simp only[wF,wZ,said,if_neg h]
theorem qJ (x:Str) (t:Sy):ans x t=(gI x t).map Sy.w/\(gI x t).length<=2/\∀ u∈gI x t,u.size<=t.size:=by
 unfold gI;rw[dif_pos dP];exact (dP (x:=x) (t:=t)).choose_spec
theorem zkn (a b:Str×Sy):(tY (dW a) (dW b)).isSome=true:=by
 cases q:(a.1==b.1) with
 |true =>
  have e:a.1=b.1:=by simpa using q
  unfold dW;rw[e];exact kX (ltS1 (Sy.lt _ _))
 |false=>exact yF q
theorem zni (a b:Str):(tY (.str a) (.str b)).isSome=true:=by rw[tY];rfl
theorem Mv.lt (a b:Mv):(tY a.w b.w).isSome=true:=by
 cases a with
 |ans x t s =>
  cases b with
  |ans y u v=>exact kX (ltS2 (zkn (x,t) (y,u)) (Sy.lt s v))
  |dbt y u=>exact yF jX
 |dbt x t =>
  cases b with
  |ans y u v=>exact yF wU
  |dbt y u=>exact kX (ltS2 (zni x y) (Sy.lt t u))
theorem tH (d:Str×Sy):L3.pur (dW d)=true:=by simp[dW,L3.pur,yP,d.2.pur]
theorem Mv.pur (m:Mv):L3.pur m.w=true:=by
 cases m with
 |ans x t s=>simp[Mv.w,L3.pur,yP,t.pur,s.pur]
 |dbt x t=>simp[Mv.w,L3.pur,yP,t.pur]
def Mv.big (n:Nat):Mv->Prop
 | .ans _ t s=>t.size<=n/\s.size<=n
 | .dbt _ t=>t.size<=n
theorem Mv.dep {m:Mv} {n:Nat} (h:m.big n):L3.dep m.w<=n+2:=by
 cases m with
 |ans x t s=>exact ZaH (ZaJ.mpr ⟨Zg _,ZaJ.mpr ⟨dep1 (Zb (Sy.dep t) h.1),ZaJ.mpr ⟨Zb (Zb (Sy.dep s) h.2) (ZbN n),Zg _⟩⟩⟩)
 |dbt x t=>exact ZaH (ZaJ.mpr ⟨Zg _,ZaJ.mpr ⟨Zg _,ZaJ.mpr ⟨Zb (Zb (Sy.dep t) h) (ZbN n),Zg _⟩⟩⟩)
theorem zdc (d:Str×Sy):L3.dep (dW d)<=d.2.size+1:=dep1 (Sy.dep d.2)
theorem Mv.hd (m:Mv):hdT m.w=some "str" := by cases m<;>rfl
theorem zfr {a b:Str×Sy} (h:dW a=dW b):a=b:=by
 simp only[dW,W.tup.injEq,List.cons.injEq,W.str.injEq,and_true] at h;exact Prod.ext h.1 (Sy.inj h.2)
theorem zgI {ms:List Mv} (hn:ms.length<64) (hs:∀ m∈ms,m.big 21):Srtb (ms.map Mv.w) where
 pure:=jS fun w hw=>by obtain ⟨m,_,rfl⟩:=zzP hw;exact m.pur
 lt:=fun x hx y hy=>by
  obtain ⟨a,_,rfl⟩:=zzP hx;obtain ⟨b,_,rfl⟩:=zzP hy;exact Mv.lt a b
 few:=by rw[zzM];exact hn
 deep:=Zab (nI (n:=23) fun w hw=>by obtain ⟨m,hm,rfl⟩:=zzP hw;exact Mv.dep (hs m hm)) 'c'
 hd:=⟨"str", fun x hx=>by obtain ⟨a,_,rfl⟩:=zzP hx;exact a.hd⟩
theorem zln {ds:List (Str×Sy)} (hn:ds.length<64) (hs:∀ d∈ds,d.2.size<=21):Srtb (ds.map dW) where
 pure:=jS fun w hw=>by obtain ⟨m,_,rfl⟩:=zzP hw;exact tH m
 lt:=fun x hx y hy=>by
  obtain ⟨a,_,rfl⟩:=zzP hx;obtain ⟨b,_,rfl⟩:=zzP hy;exact zkn a b
 few:=by rw[zzM];exact hn
 deep:=Zab (nI (n:=23) fun w hw=>by
  obtain ⟨m,hm,rfl⟩:=zzP hw;have:=zdc m;have:=hs m hm;omega) 'c'
 hd:=⟨"str", fun x hx=>by obtain ⟨a,_,rfl⟩:=zzP hx;rfl⟩
theorem qN {α:Type} {xs:List α} {φ:α->W} (g:α->List W) {f:Addr} {G1:Hw} {L0:List W} (S:qX->Prop) {stab:Hw->Prop} {D:End3} {σ:qX} {turn:W->End3->qX->Hw->Prop}
  (hs:S σ) (gf:G1 f=some (.lst L0)) (stb:∀ G',zK [f] G1 G'->stab G')
  (ht:∀ (i:Nat) (x:α),xs[i]?=some x->∀ σ' G',S σ'->zK [f] G1 G'->G' f=some (.lst (L0++(xs.take i).flatMap g))->∀ D':End3,(∀ σ2 G2,S σ2->zK [f] G' G2->G2 f=some (.lst (L0++(xs.take i).flatMap g++g x))->D'.nx σ2 G2)->turn (φ x) D' σ' G')
  (hq:∀ σ' G',S σ'->zK [f] G1 G'->G' f=some (.lst (L0++xs.flatMap g))->D.nx σ' G'):forR (xs.map φ) stab D σ G1 turn:=by
 refine ⟨fun i σ' G'=>S σ'/\zK [f] G1 G'/\G' f=some (.lst (L0++(xs.take i).flatMap g)),⟨hs,zK.refl,by simpa using gf⟩,fun i σ' G' h _=>stb G' h.2.1,?_,?_⟩
 .rintro i w σ' G' hw ⟨h1,h2,h3⟩;rw[Zx] at hw;obtain ⟨x,hx,rfl⟩:=ZF.mp hw;refine ht i x hx σ' G' h1 h2 h3 _ fun σ2 G2 s2 k2 g2=>⟨s2,h2.trans k2,?_⟩;rw[g2];have hi:i<xs.length:=(Zl.mp hx).1;have e:xs[i]=x:=(Zl.mp hx).2;rw[ZJ hi,e,List.flatMap_append,List.flatMap_singleton,ZbG]
 .rintro σ' G' ⟨h1,h2,h3⟩;rw[zzM,ZaG] at h3;exact hq σ' G' h1 h2 h3
theorem qP {α:Type} {g:α->List W} {n:Nat}:∀ xs:List α,(∀ x∈xs,(g x).length<=n)->(xs.flatMap g).length<=n * xs.length
 | [],_=>by simp
 |x::xs,h=>by
  have h1:=h x zzT;have h2:=qP xs fun y hy=>h y (Zd _ hy);rw[ZbI,zzW,Ze,Nat.mul_succ];omega
theorem zK.grow {G G1 G2:Hw} {f:Addr} (k1:zK [] G G1) (hf:G f=none) (k2:zK [f] G1 G2):zK [] G G2:=fun a o _ e=>k2 a o (by simpa using xU e hf) (k1 a o 'g' e)
section
variable {K:yI} {C sA:Addr}
theorem stk (K:yI) (C sA:Addr) (n:Nat) {D:End3} {σ:qX} {G:Hw} (h:D.nx σ G):zI 'b' XN .nil D σ G:=h
theorem is_w {G:Hw} {R:Q3} (s:Sy):cH false s.w .non G R=R (.bl false) G:=by
 obtain ⟨l,e⟩:=s.tup;rw[e];rfl
theorem zl1 {n:Nat} {ws:List W} {G:Hw} {Q:Q3} (h:zgK ws G Q XN):zI 'b' XN dR { nx:=fun _ G'=>Q .non G',rt:=Q } (yT zbD ws) G:=by
 obtain ⟨a,sds,rfl,ha,hl,h⟩:=h;show zI 'b' XN dR { nx:=fun _ G'=>Q .non G',rt:=Q } [some (ow a),some (.tup (sds.map Sy.w))] G;simp only[dR];refine yX ?_
 cases a with
 |none =>
  erw[ow,zA,cH,if_true]
  exact h
 |some s =>
  have hs:=ha s rfl;have hd:=Sy.dep s
  erw[ow,zA,is_w,zzB,if_false]
  cases s with
  |say x =>
   simp only[Sy.w,vJ,zJ,beq_self_eq_true,ZA,zzB,if_false,wP,L3.inR];exact ⟨⟨Sy.pur (.say x),pS sds,by simp only[Sy.w] at hd;omega⟩,h⟩
  |not a=>simp only[Sy.w,vJ,zJ,uO,Zu,if_true];exact h
  |and a b=>simp only[Sy.w,vJ,zJ,uN,Zu,if_true];exact h
  |or a b=>simp only[Sy.w,vJ,zJ,sX,Zu,if_true];exact h
  |ite a b=>simp only[Sy.w,vJ,zJ,sW,Zu,if_true];exact h
theorem zjd {n:Nat} {ws:List W} {G:Hw} {Q:Q3} (h:qD ws G Q XN):zI 'b' XN rV { nx:=fun _ G'=>Q .non G',rt:=Q } (yT gX ws) G:=by
 obtain ⟨m,rfl,ok,h⟩:=h;show zI 'b' XN rV { nx:=fun _ G'=>Q .non G',rt:=Q } [some m.w] G;simp only[rV]
 cases m with
 |ans x t s =>
  simp only[Mv.w]
  ((try dsimp only[zI,zT,zU,zQ,zH,zF,zC,zB,zS,zW,zR,zX,zZ,zY,zV,zN,zP,zE,zO,gZ,gS,tZ,tS]);try simp only[vJ,ix2,zA,zJ,beq_self_eq_true,if_true])
  exact h
 |dbt x t =>
  simp only[Mv.w]
  ((try dsimp only[zI,zT,zU,zQ,zH,zF,zC,zB,zS,zW,zR,zX,zZ,zY,zV,zN,zP,zE,zO,gZ,gS,tZ,tS]);try simp only[vJ,bF,ix2,zA,zJ,wU,zzB,if_false])
  rw[zb7] at h;unfold said at h
  have kid:∀ R:Q3,R (nZ t).w G->kU t.w (.int 1) G R:=fun R hR=>by
   have ok:=ok.1
   cases t with
   |say _=>cases ok
   |not a=>rw[Sy.w,bF];exact hR
   |and a b=>rw[Sy.w,bF];exact hR
   |or a b=>rw[Sy.w,bF];exact hR
   |ite a b=>rw[Sy.w,bF];exact hR
  by_cases hx:x = "if" \/ x = "not"
  .rw[if_pos hx] at h;rcases hx with rfl|rfl
   .simp only[beq_self_eq_true,if_true];exact kid _ h
   .simp only[zeW,beq_self_eq_true,zzB,if_false,if_true];exact kid _ h
  .rw[if_neg hx] at h;have n1:(x==("if" : Str))=false:=by simpa using fun e=>hx (.inl e)
   have n2:(x==("not" : Str))=false:=by simpa using fun e=>hx (.inr e)
   simp only[n1,n2,zzB,if_false];exact h
end
theorem vI {α β:Type} (p:α->Bool) (h:α->β):∀ l:List α,(l.flatMap fun s=>if p s=true then [h s] else [])=(l.filter p).map h
 | []=>rfl
 |a::l=>by
  rw[ZbI,vI p h l,Zbj]
  split<;>rfl
theorem zK.wide {S:List Addr} {G G':Hw} (k:zK [] G G'):zK S G G':=fun a o _ e=>k a o 'g' e
theorem zK.at {G:Hw} {f:Addr} {o:O}:zK [f] G (put G f o):=fun a u ha e=>by rw[yO (by simpa using ha)];exact e
theorem zlt (x:Str) (t:Sy):said x t=ow (qH x t):=by
 unfold said qH
 split<;>rfl
theorem zjf {x:Str} {t s:Sy} (e:qH x t=some s):s.size<=t.size:=by
 unfold qH at e
 split at e
 .cases e;exact sB t
 .cases e
theorem zaM (op:List (Str×Sy)) (sds:List Sy):(pP op sds).map Mv.w=op.flatMap fun d=>(((gI d.1 d.2).filter fun s=>may sds (some s)).map (Mv.ans d.1 d.2)).map Mv.w:=by
 unfold pP;rw[Zbl]
theorem zaL (ss:List Sy) (gone:List (Str×Sy)) (sds:List Sy):(pQ ss gone sds).map Mv.w=ss.flatMap fun s=>(((words s).filter fun x=>(!((gone.map dW).any fun g=>yQ g (dW (x,s))))&&may sds (qH x s)).map fun x=>Mv.dbt x s).map Mv.w:=by
 unfold pQ;rw[Zbl]
theorem sS {α β γ:Type} {l:List α} {p:α->Bool} {f:α->β} {g:β->γ}:(((l.filter p).map f).map g).length<=l.length:=by
 rw[zzM,zzM];exact ZL _ _
theorem qU {α:Type} {l:List α} {i:Nat}:(l.take i).length<=l.length:=by rw[ZaE];exact Nat.min_le_right _ _
section
variable {K:yI} {C sA:Addr}
theorem zku {n:Nat} (hn:29<=n) {ws:List W} {G:Hw} {Q:Q3} (h:zeO ws G Q XN):zI 'b' XN jP { nx:=fun _ G'=>Q .non G',rt:=Q } (yT qC ws) G:=by
 obtain ⟨op,sds,rfl,ho,hsd,h⟩:=h;have e17:'b'.fn[27]?=some ⟨"answers_to", mV⟩:=vW 27 hn rfl;have e28:'b'.fn[28]?=some ⟨"may_say", zgK⟩:=vW 28 hn rfl;have t2:'b'.mt[2]?=some eApp:=rfl;have z0:=sz 0 'c';have z3:=sz 3 'c';show zI 'b' XN jP { nx:=fun _ G'=>Q .non G',rt:=Q } [some (.tup (op.map dW)),some (.tup (sds.map Sy.w)),none,none,none] G;simp only[jP];refine yX ?_
 erw[Zj,z0,true_and]
 intro f hf;have k1:zK [] G (put G f (.lst [])):=zK.new hf;have g1:(put G f (.lst [])) f=some (.lst []):=zM;generalize put G f (.lst [])=G1 at k1 g1 ⊢;refine yX ?_
 erw[zY,xH]
 refine qN (fun d=>(((gI d.1 d.2).filter fun s=>may sds (some s)).map (Mv.ans d.1 d.2)).map Mv.w) (fun σ=>∃ v3 v4,σ=[some (.tup (op.map dW)),some (.tup (sds.map Sy.w)),f⁻¹,v3,v4]) ⟨none,none,rfl⟩ g1 (fun _ _=>trivial) ?_ ?_
 .rintro i d hd σ' G2 ⟨v3,v4,rfl⟩ k2 g2 D' hD;obtain ⟨hok,hds⟩:=ho.2.2 d (Zo hd);obtain ⟨ea,la,sa⟩:=qJ d.1 d.2
  have ll:([]++(op.take i).flatMap fun d=>(((gI d.1 d.2).filter fun s=>may sds (some s)).map (Mv.ans d.1 d.2)).map Mv.w:List W).length<=40:=by
   rw[ZC];refine Zb (qP (n:=2) _ fun x _=>Zb sS (qJ x.1 x.2).2.1) ?_;have:=ho.1;have:=@qU _ op i;omega
  erw[]
  refine yX ?_
  erw[e17,zY]
  refine ⟨d.2,d.1,rfl,hok,by omega,fun r G3 k3 hr gr=>?_⟩;rw[ea] at gr;have hfr:f≠r:=xU g2 hr;simp only[xH,zL gr];refine qN (fun s=>if may sds (some s)=true then [Mv.w (.ans d.1 d.2 s)] else []) (fun σ=>∃ v4,σ=[some (.tup (op.map dW)),some (.tup (sds.map Sy.w)),f⁻¹,some (dW d),v4]) ⟨_,rfl⟩ (k3 _ _ 'g' g2) (fun G' k=>zL (k r _ (by simpa using Ne.symm hfr) gr)) ?_ ?_
  .rintro j s hj σ' G4 ⟨v4,rfl⟩ k4 g4 D'' hD';have hs:=sa s (Zo hj)
   erw[]
   refine yX ?_
   erw[e28]
   refine ⟨some s,sds,rfl,fun s' e=>by cases e;omega,hsd.1,?_⟩
   have lj:∀ l:List Sy,l.length<=2->(l.flatMap fun s=>if may sds (some s)=true then [Mv.w (.ans d.1 d.2 s)] else []).length<=2:=fun l hl=>by
    rw[vI (fun s=>may sds (some s)) (fun s=>Mv.w (.ans d.1 d.2 s)),zzM];exact Zb (ZL _ _) hl
   have lj:=lj ((gI d.1 d.2).take j) (by have:=@qU _ (gI d.1 d.2) j;omega)
   cases hm:may sds (some s) with
   |true =>
    simp only[rB,if_true];refine yX ?_
    erw[t2,zzC,zzL,zzA,Nat.reduceAdd,z3,true_and]
    refine ⟨tyL g4,appL g4 (by rw[zzW];omega) ?_⟩;refine stk K C sA n (stk K C sA n ?_);exact hD' _ _ ⟨_,rfl⟩ zK.at (by rw[zM,if_pos hm];rfl)
   |false =>
    simp only[rB,zzB,if_false];refine stk K C sA n (stk K C sA n ?_);exact hD' _ _ ⟨_,rfl⟩ zK.refl (by rw[g4,if_neg (by rw[hm];exact zzN),Zv])
  .rintro σ' G4 ⟨v4,rfl⟩ k4 g4;refine stk K C sA n ?_;refine hD _ _ ⟨_,_,rfl⟩ ((zK.wide (S:=[f]) k3).trans k4) ?_;rw[g4,vI (fun s=>may sds (some s)) (fun s=>Mv.w (.ans d.1 d.2 s)),Zbg];rfl
 .rintro σ' G2 ⟨v3,v4,rfl⟩ k2 g2;refine yX ?_
  erw[]
  exact h f G2 (zK.grow k1 hf k2) hf (by rw[g2,zaM];rfl)
theorem zkl {n:Nat} (hn:32<=n) {ws:List W} {G:Hw} {Q:Q3} (h:zeM ws G Q XN):zI 'b' XN jD { nx:=fun _ G'=>Q .non G',rt:=Q } (yT vR ws) G:=by
 obtain ⟨ss,gone,sds,rfl,hss,hgo,hsd,h⟩:=h;have e12:'b'.fn[30]?=some ⟨"doubts_of", kY⟩:=vW 30 hn rfl;have e15:'b'.fn[31]?=some ⟨"said_by", zch⟩:=vW 31 hn rfl;have e28:'b'.fn[28]?=some ⟨"may_say", zgK⟩:=vW 28 hn rfl;have t2:'b'.mt[2]?=some eApp:=rfl;have z0:=sz 0 'c';have z2:=sz 2 'c';have z3:=sz 3 'c';show zI 'b' XN jD { nx:=fun _ G'=>Q .non G',rt:=Q } [some (.tup (ss.map Sy.w)),some (.tup (gone.map dW)),some (.tup (sds.map Sy.w)),none,none,none,none] G;simp only[jD];refine yX ?_
 erw[Zj,z0,true_and]
 intro f hf;have k1:zK [] G (put G f (.lst [])):=zK.new hf;have g1:(put G f (.lst [])) f=some (.lst []):=zM;generalize put G f (.lst [])=G1 at k1 g1 ⊢;refine yX ?_
 erw[zY,xH]
 refine qN (fun s=>(((words s).filter fun x=>(!((gone.map dW).any fun g=>yQ g (dW (x,s))))&&may sds (qH x s)).map fun x=>Mv.dbt x s).map Mv.w) (fun σ=>∃ v4 v5 v6,σ=[some (.tup (ss.map Sy.w)),some (.tup (gone.map dW)),some (.tup (sds.map Sy.w)),f⁻¹,v4,v5,v6]) ⟨none,none,none,rfl⟩ g1 (fun _ _=>trivial) ?_ ?_
 .rintro i s hs σ' G2 ⟨v4,v5,v6,rfl⟩ k2 g2 D' hD;have hsz:=hss.2.2 s (Zo hs);have hds:=Sy.dep s
  have ll:([]++(ss.take i).flatMap fun s=>(((words s).filter fun x=>(!((gone.map dW).any fun g=>yQ g (dW (x,s))))&&may sds (qH x s)).map fun x=>Mv.dbt x s).map Mv.w:List W).length<=40:=by
   rw[ZC];refine Zb (qP (n:=2) _ fun x _=>Zb sS (jC x)) ?_;have:=hss.1;have:=@qU _ ss i;omega
  erw[]
  refine yX ?_
  erw[e12,zY]
  refine ⟨s,rfl,fun r G3 k3 hr gr=>?_⟩;have hfr:f≠r:=xU g2 hr;simp only[xH,zL gr];refine qN (xs:=words s) (φ:=W.str) (fun x=>if ((!((gone.map dW).any fun g=>yQ g (dW (x,s))))&&may sds (qH x s))=true then [Mv.w (.dbt x s)] else []) (fun σ=>∃ v5 v6,σ=[some (.tup (ss.map Sy.w)),some (.tup (gone.map dW)),some (.tup (sds.map Sy.w)),f⁻¹,some s.w,v5,v6]) ⟨_,_,rfl⟩ (k3 _ _ 'g' g2) (fun G' k=>zL (k r _ (by simpa using Ne.symm hfr) gr)) ?_ ?_
  .rintro j x hj σ' G4 ⟨v5,v6,rfl⟩ k4 g4 D'' hD';have hx:=Zo hj
   erw[]
   refine yX ?_
   erw[zzC,zzL,zzA,Nat.reduceAdd,z2,true_and]
   refine yX ?_
   erw[zA,wP,L3.inR,zzB,if_false,e28,e15]
   refine ⟨⟨tH (x,s),jS fun w hw=>by obtain ⟨m,_,rfl⟩:=zzP hw;exact tH m,?_⟩,?_⟩
   .have:=zdc (x,s);simp only[dW] at this;omega
   have lj:∀ l:List Str,l.length<=2->(l.flatMap fun x=>if ((!((gone.map dW).any fun g=>yQ g (dW (x,s))))&&may sds (qH x s))=true then [Mv.w (.dbt x s)] else []).length<=2:=fun l hl=>by
    rw[vI (fun x=>(!((gone.map dW).any fun g=>yQ g (dW (x,s))))&&may sds (qH x s)) (fun x=>Mv.w (.dbt x s)),zzM];exact Zb (ZL _ _) hl
   have lj:=lj ((words s).take j) (by have:=@qU _ (words s) j;have:=jC s;omega)
   have yes:((!((gone.map dW).any fun g=>yQ g (dW (x,s))))&&may sds (qH x s))=true->zI 'b' XN {.ex (.mth 2 (.var 3) {.tup {"doubt"⁻¹,.var 5,.var 4}})} { D'' with nx:=zI 'b' XN .nil D'' } [some (.tup (ss.map Sy.w)),some (.tup (gone.map dW)),some (.tup (sds.map Sy.w)),f⁻¹,some s.w,some (.str x),some (dW (x,s))] G4:=fun hc=>by
    refine yX ?_
    erw[t2,zzC,zzL,zzA,Nat.reduceAdd,z3,true_and]
    refine ⟨tyL g4,appL g4 (by rw[zzW];omega) ?_⟩;refine stk K C sA n (stk K C sA n ?_);exact hD' _ _ ⟨_,_,rfl⟩ zK.at (by rw[zM,if_pos hc];rfl)
   have no:((!((gone.map dW).any fun g=>yQ g (dW (x,s))))&&may sds (qH x s))=false->zI 'b' XN .nil { D'' with nx:=zI 'b' XN .nil D'' } [some (.tup (ss.map Sy.w)),some (.tup (gone.map dW)),some (.tup (sds.map Sy.w)),f⁻¹,some s.w,some (.str x),some (dW (x,s))] G4:=fun hc=>by
    refine stk K C sA n (stk K C sA n ?_);exact hD' _ _ ⟨_,_,rfl⟩ zK.refl (by rw[g4,if_neg (by rw[hc];exact zzN),Zv])
   cases hg:(gone.map dW).any fun g=>yQ g (dW (x,s)) with
   |true =>
    rw[hg] at no;rw[show ((gone.map dW).any fun g=>yQ g (.tup [.str x,s.w]))=true from hg];simp only[ZA,zzB,if_false];exact no rfl
   |false =>
    rw[hg] at yes no;rw[show ((gone.map dW).any fun g=>yQ g (.tup [.str x,s.w]))=false from hg];simp only[Zu,if_true];refine ⟨s,x,rfl,.inl hx,qH x s,sds,by rw[zlt],fun s' e=>Zb (zjf e) hsz,hsd.1,?_⟩
    cases hm:may sds (qH x s) with
    |true=>rw[hm] at yes;exact yes rfl
    |false=>rw[hm] at no;exact no rfl
  .rintro σ' G4 ⟨v5,v6,rfl⟩ k4 g4;refine stk K C sA n ?_;refine hD _ _ ⟨_,_,_,rfl⟩ ((zK.wide (S:=[f]) k3).trans k4) ?_;rw[g4,vI (fun x=>(!((gone.map dW).any fun g=>yQ g (dW (x,s))))&&may sds (qH x s)) (fun x=>Mv.w (.dbt x s)),Zbg];rfl
 .rintro σ' G2 ⟨v4,v5,v6,rfl⟩ k2 g2;refine yX ?_
  erw[]
  exact h f G2 (zK.grow k1 hf k2) hf (by rw[g2,zaL];rfl)
end
theorem bn1:(("again" : Str) == "answers")=false:=by decide +kernel
theorem bn2:(("doubts" : Str) == "answers")=false:=by decide +kernel
theorem bn3:(("doubts" : Str) == "again")=false:=by decide +kernel
theorem bn4:(("speaks" : Str) == "answers")=false:=by decide +kernel
theorem bn5:(("speaks" : Str) == "again")=false:=by decide +kernel
theorem bn6:(("speaks" : Str) == "doubts")=false:=by decide +kernel
theorem lk_c (x:Bk):x.fs.lookup ("doubts" : Str)=some (W.str x.c):=by unfold Bk.fs;simp[List.lookup,bn2,bn3]
theorem lk_e (x:Bk):x.fs.lookup ("speaks" : Str)=some (W.str x.e):=by unfold Bk.fs;simp[List.lookup,bn4,bn5,bn6]
theorem purs_mem:∀ {ws:List W} {w:W},yP ws=true->w∈ws->pur w=true
 |x::ws,w,h,hw=>by
  simp only[yP,Zp] at h;rcases Zk.mp hw with rfl|hw
  .exact h.1
  .exact purs_mem h.2 hw
theorem zi5 {xs ys:List W} (h:Srtb xs) (hm:∀ y∈ys,y∈xs) (hl:ys.length<=xs.length):Srtb ys where
 pure:=jS fun w hw=>purs_mem h.pure (hm w hw)
 lt:=fun x hx y hy=>h.lt x (hm x hx) y (hm y hy)
 few:=Zab hl h.few
 deep:=Zab (nI fun w hw=>sR (hm w hw)) h.deep
 hd:=by obtain ⟨T,hT⟩:=h.hd;exact ⟨T,fun x hx=>hT x (hm x hx)⟩
theorem zjw {G:Hw} {a b:Str} {r:Addr} {l:List W} {j i:Int} {Q:Q3} (gr:G r=some (.lst l)) (e:rQ l j=some (.int i)) (hi:i=0\/i=1) (h:∀ p,G p=none->Q (.str (if i=0 then a else b)) (put G p (.lst [.str a,.str b]))) :
  ∀ p,G p=none->kU (.ref r) (.int j) (put G p (.lst [.str a,.str b])) fun y G2=>kU (.ref p) y G2 Q:=fun p hp=>by
 have gr':(put G p (.lst [.str a,.str b])) r=some (.lst l):=by rw[yO (xU gr hp)];exact gr
 refine nL (zL gr') ?_;rw[e];refine nL (zL zM) ?_;have:=h p hp;rcases hi with rfl|rfl
 .rw[uH];exact this
 .rw[vC];exact this
theorem zdU {x:Bk} {z:Sd} (h:z.ok):(pre x z).length<=50:=by
 have hf:vT (wR x z):=by unfold wR;split;exact h.fr;exact h.sd
 have h1:((pP z.op z.sd).map Mv.w).length<=2 * z.op.length:=by rw[zaM];exact qP _ fun d _=>Zb sS (qJ d.1 d.2).2.1
 have h2:((pQ (wR x z) (rK x z) z.sd).map Mv.w).length<=2 * (wR x z).length:=by rw[zaL];exact qP _ fun s _=>Zb sS (jC s)
 rw[zzM] at h1 h2;have:=h.op.1;have:=hf.1;unfold pre;rw[zzW];omega
theorem zhb {x:Bk} {z:Sd} (h:z.ok):∀ m∈pre x z,m.big 21:=by
 have hf:vT (wR x z):=by unfold wR;split;exact h.fr;exact h.sd
 intro m hm;rcases Zm.mp hm with hm|hm
 .obtain ⟨d,hd,hm⟩:=ZaF.mp hm;obtain ⟨s,hs,rfl⟩:=zzP hm;have h1:=(h.op.2.2 d hd).2;have h2:=(qJ d.1 d.2).2.2 s (ZX.mp hs).1;exact ⟨by omega,by omega⟩
 .obtain ⟨s,hs,hm⟩:=ZaF.mp hm;obtain ⟨y,_,rfl⟩:=zzP hm;have:=hf.2.2 s hs;show s.size<=21;omega
section
variable {K:yI} {C sA:Addr}
theorem fH {f:Str} (h:f∈vH) (l:List Fn3):∃ l',(C,l')∈(GamL C sA l).cl/\f∈l':=⟨vH,by simp[GamL],h⟩
theorem m_a:("answers" : Str)∈vH:=by decide +kernel
theorem m_b:("again" : Str)∈vH:=by decide +kernel
theorem m_c:("doubts" : Str)∈vH:=by decide +kernel
theorem m_e:("speaks" : Str)∈vH:=by decide +kernel
theorem m_f:("other" : Str)∈vH:=by decide +kernel
theorem attE {n:Nat} {G:Hw} {b:Addr} {x:Bk} {Q:Q3} (hb:uD C G b x) (h:Q (.str x.e) G):bY 'b'.cl "speaks" (.ref b) G Q:=by
 simp only[bY,show G b=some (.ins C x.fs) from hb,lk_e];exact ⟨fH m_e _,h⟩
theorem lk_a (x:Bk):x.fs.lookup ("answers" : Str)=some (W.str x.a):=by unfold Bk.fs;simp[List.lookup]
theorem lk_b (x:Bk):x.fs.lookup ("again" : Str)=some (W.str x.b):=by unfold Bk.fs;simp[List.lookup,bn1]
theorem attA {n:Nat} {G:Hw} {b:Addr} {x:Bk} {Q:Q3} (hb:uD C G b x) (h:Q (.str x.a) G):bY 'b'.cl "answers" (.ref b) G Q:=by
 simp only[bY,show G b=some (.ins C x.fs) from hb,lk_a];exact ⟨fH m_a _,h⟩
theorem attB {n:Nat} {G:Hw} {b:Addr} {x:Bk} {Q:Q3} (hb:uD C G b x) (h:Q (.str x.b) G):bY 'b'.cl "again" (.ref b) G Q:=by
 simp only[bY,show G b=some (.ins C x.fs) from hb,lk_b];exact ⟨fH m_b _,h⟩
theorem attC {n:Nat} {G:Hw} {b:Addr} {x:Bk} {Q:Q3} (hb:uD C G b x) (h:Q (.str x.c) G):bY 'b'.cl "doubts" (.ref b) G Q:=by
 simp only[bY,show G b=some (.ins C x.fs) from hb,lk_c];exact ⟨fH m_c _,h⟩
theorem zj4 {n:Nat} {ws:List W} {G:Hw} {Q:Q3} (h:zci C ws G Q XN):zI 'b' XN rR { nx:=fun _ G'=>Q .non G',rt:=Q } (yT gT ws) G:=by
 obtain ⟨p,x,rfl,hp,h⟩:=h;show zI 'b' XN rR { nx:=fun _ G'=>Q .non G',rt:=Q } [p⁻¹,some (.str x.a),some (.str x.b),some (.str x.c),some (.str x.e),some (.str x.f)] G;dsimp only[rR,zI,zT,zU,zQ,zH,zF,gZ,gS];simp only[satR,hp,zM,zha];have q1:uB ("answers" : Str) (W.str x.a) []=([("answers", .str x.a)]:List (Str×W)):=rfl
 have q2:uB ("again" : Str) (W.str x.b) [("answers", .str x.a)]=([("answers", .str x.a),("again", .str x.b)]:List (Str×W)):=by
  simp[uB,show ¬ (("answers" : Str) = "again") by decide +kernel]
 have q3:uB ("doubts" : Str) (W.str x.c) [("answers", .str x.a),("again", .str x.b)]=([("answers", .str x.a),("again", .str x.b),("doubts", .str x.c)]:List (Str×W)):=by
  simp[uB,show ¬ (("answers" : Str) = "doubts") by decide +kernel,show ¬ (("again" : Str) = "doubts") by decide +kernel]
 have q4:uB ("speaks" : Str) (W.str x.e) [("answers", .str x.a),("again", .str x.b),("doubts", .str x.c)]=([("answers", .str x.a),("again", .str x.b),("doubts", .str x.c),("speaks", .str x.e)]:List (Str×W)):=by
  simp[uB,show ¬ (("answers" : Str) = "speaks") by decide +kernel,show ¬ (("again" : Str) = "speaks") by decide +kernel,show ¬ (("doubts" : Str) = "speaks") by decide +kernel]
 have q5:uB ("other" : Str) (W.str x.f) [("answers", .str x.a),("again", .str x.b),("doubts", .str x.c),("speaks", .str x.e)]=x.fs:=by
  unfold Bk.fs;simp[uB,show ¬ (("answers" : Str) = "other") by decide +kernel,show ¬ (("again" : Str) = "other") by decide +kernel,show ¬ (("doubts" : Str) = "other") by decide +kernel,show ¬ (("speaks" : Str) = "other") by decide +kernel]
 rw[q1,q2,q3,q4,q5];exact ⟨fH m_a _,by decide,fH m_b _,by show 1<1000;decide,fH m_c _,by show 2<1000;decide,fH m_e _,by show 3<1000;decide,fH m_f _,by show 4<1000;decide,h⟩
theorem zmQ {x:Bk} (hx:x.f = "last") {G:Hw} {Q:Q3} (h:∀ p,G p=none->Q (.ref p) (put G p (.ins C x.fs))):zeN C [.str x.a,.str x.b,.str x.c,.str x.e] G Q XN:=fun p hp=>⟨p,x,by rw[Bk.ws,hx];rfl,zM,rfl,by rw[zha];exact h p hp⟩
theorem zhB {n:Nat} (hn:33<=n) {ws:List W} {G:Hw} {Q:Q3} (h:spMv C ws G Q XN):zI 'b' XN tG { nx:=fun _ G'=>Q .non G',rt:=Q } (yT zhu ws) G:=by
 obtain ⟨b,x,z,rfl,hb,hx,hz,h⟩:=h;have e5:'b'.fn[6]?=some eSrt:=vW 6 hn rfl;have e29:'b'.fn[29]?=some ⟨"answering_moves", zeO⟩:=vW 29 hn rfl;have e30:'b'.fn[32]?=some ⟨"doubting_moves", zeM⟩:=vW 32 hn rfl;have z0:=sz 0 'c';have hf:vT (wR x z):=by unfold wR;split;exact hz.fr;exact hz.sd
 have hg:tM (rK x z):=by
  unfold rK;split
  .exact hz.us
  .exact ⟨Zg _,ZaR,fun _ h=>nomatch h⟩
 have fin:∀ v6 v7,v6=.tup ((wR x z).map Sy.w)->v7=.tup ((rK x z).map dW)->zI 'b' XN (tl (tl (tl tG))) { nx:=fun _ G'=>Q .non G',rt:=Q } [b⁻¹,some z.w,some (.tup 'm'),some (.tup (z.op.map dW)),some (.tup (z.us.map dW)),some (.tup (z.fr.map Sy.w)),some v6,some v7] G:=by
  intro v6 v7 h6 h7;subst h6 h7;simp only[tG,tl];refine yX ?_
  erw[e29,e30,e5]
  refine ⟨z.op,z.sd,rfl,hz.op,hz.sd,fun r G2 k2 hr gr=>?_⟩;refine ⟨wR x z,rK x z,z.sd,rfl,hf,hg,hz.sd,fun r' G3 k3 hr' gr'=>?_⟩;have gr3:=k3 _ _ 'g' gr;have hl:=zdU (x:=x) hz;have hl':(pP z.op z.sd).length+(pQ (wR x z) (rK x z) z.sd).length<=50:=by rw[← zzW];exact hl
  simp only[wN,gr3,gr'];refine ⟨by rw[zzM,zzM];exact sz _ 'd',fun r2 hr2=>?_⟩;rw[← ZW];refine ⟨_,zL zM,zgI (ms:=pre x z) 'd' (zhb hz),fun s hs=>?_⟩;have kp:zK [] G (put G3 r2 (.lst ((pP z.op z.sd++pQ (wR x z) (rK x z) z.sd).map Mv.w))):=(k2.trans k3).trans (zK.new hr2);exact h s _ (kp.trans (zK.new hs)) (kp.none 'g' hs) zM
 simp only[tG,tl] at fin;show zI 'b' XN tG { nx:=fun _ G'=>Q .non G',rt:=Q } [b⁻¹,some z.w,none,none,none,none,none,none] G;simp only[tG];refine yX ?_
 erw[Sd.w]
 refine yX ?_
 erw[]
 refine attE hb ?_
 erw[zA,zJ]
 have six:∀ v6,v6=.tup ((wR x z).map Sy.w)->zI 'b' XN (tl (tl tG)) { nx:=fun _ G'=>Q .non G',rt:=Q } [b⁻¹,some z.w,some (.tup 'm'),some (.tup (z.op.map dW)),some (.tup (z.us.map dW)),some (.tup (z.fr.map Sy.w)),some v6,none] G:=by
  intro v6 h6;simp only[tG,tl];refine yX ?_
  erw[]
  refine attC hb ?_
  erw[zA,zJ,Zj,z0,true_and]
  by_cases hc:x.c = "once"
  .rw[if_pos (by rw[hc,beq_self_eq_true])];exact fin _ _ h6 (by unfold rK;rw[if_pos hc])
  .rw[if_neg (by simpa using hc)];exact fin _ _ h6 (by unfold rK;rw[if_neg hc];rfl)
 simp only[tG,tl] at six
 by_cases he:x.e = "last"
 .rw[if_pos (by rw[he,beq_self_eq_true])];exact six _ (by unfold wR;rw[if_pos he])
 .rw[if_neg (by simpa using he)];exact six _ (by unfold wR;rw[if_neg he])
theorem zfY {n:Nat} {ws:List W} {G:Hw} {Q:Q3} (h:zbc ws G Q XN):zI 'b' XN tR { nx:=fun _ G'=>Q .non G',rt:=Q } (yT pK ws) G:=by
 obtain ⟨t,rfl,h⟩:=h;have z0:=sz 0 'c';have z1:=sz 1 'c';have z2:=sz 2 'c';have z4:=sz 4 'c';show zI 'b' XN tR { nx:=fun _ G'=>Q .non G',rt:=Q } [some t.w] G;simp only[tR];refine yX ?_
 erw[zzC,zzL,zzA,Nat.reduceAdd,z0,z1,z2,z4,true_and]
 exact h
end
def asked (t:Sy) (ts:List Sy):List (Str×Sy):=("begin", t)::ts.flatMap fun s=>(words s).map fun x=>(x,s)
theorem zkw {α:Type} {φ:α->W} {ts:List α}:∀ {ws:List W},(∀ x∈ws,x∈ts.map φ)->∃ zs:List α,ws=zs.map φ/\∀ z∈zs,z∈ts
 | [],_=>⟨[],rfl,fun _ h=>nomatch h⟩
 |x::ws,h=>by
  obtain ⟨t,ht,rfl⟩:=zzP (h x zzT);obtain ⟨zs,rfl,hz⟩:=zkw (ws:=ws) fun y hy=>h y (Zd _ hy);refine ⟨t::zs,rfl,fun z hz'=>?_⟩;rcases Zk.mp hz' with rfl|hz'
  .exact ht
  .exact hz z hz'
theorem zkm (d:Str×Sy):L3.st (dW d)=true:=by simp[dW,L3.st,qA,d.2.st]
theorem zgC (l:List (Str×Sy)):qA (l.map dW)=true:=mF fun w hw=>by obtain ⟨d,_,rfl⟩:=zzP hw;exact zkm d
theorem zcc (l:List Sy):qA (l.map Sy.w)=true:=mF fun w hw=>by obtain ⟨d,_,rfl⟩:=zzP hw;exact d.st
theorem zay:tM []:=⟨Zg _,ZaR,fun _ h=>nomatch h⟩
theorem mD:vT []:=⟨Zg _,ZaR,fun _ h=>nomatch h⟩
theorem zlb {α:Type} {φ:α->W} {xs:List α} {i:Int} (h0:0<=i) (h1:i<xs.length):∃ x∈xs,rQ (xs.map φ) i=some (φ x):=by
 have hi:i.toNat<xs.length:=by omega
 refine ⟨xs[i.toNat],ZB hi,?_⟩;unfold rQ ixN;rw[if_pos h0,zzM,if_pos h1];show (xs.map φ)[i.toNat]?=_;rw[Zx,Zf hi];rfl
def lawA (op:List (Str×Sy)):List Mv:=op.flatMap fun d=>(gI d.1 d.2).map (Mv.ans d.1 d.2)
noncomputable def prB (x:Bk) (z:Sd) (s:Sy) (y:Str):Bool:=x.c == "often" || !((z.us.map dW).any fun g=>yQ g (dW (y,s)))
def lawD (x:Bk) (z:Sd):List Mv:=(wR x z).flatMap fun s=>((words s).filter (prB x z s)).map fun y=>Mv.dbt y s
theorem ziZ (m:Mv):wF m=ow (wZ m):=by
 unfold wF ow;cases wZ m<;>rfl
theorem zl8 {x:Bk} {z:Sd} (hx:x.ok):(lawA z.op++lawD x z).filter (fun m=>may z.sd (wZ m))=pre x z:=by
 unfold lawA lawD pre pP pQ;rw[List.filter_append,List.filter_flatMap,List.filter_flatMap];congr 1
 .refine congrArg (fun f=>z.op.flatMap f) (funext fun d=>?_);rw[ZbX];rfl
 .refine congrArg (fun f=>(wR x z).flatMap f) (funext fun s=>?_);rw[ZbX,List.filter_filter];refine congrArg (fun f=>List.map _ (List.filter f (words s))) (funext fun y=>?_);show (may z.sd (qH y s)&&prB x z s y)=((!((rK x z).map dW).any fun g=>yQ g (dW (y,s)))&&may z.sd (qH y s));rw[Bool.and_comm];congr 1;unfold prB rK;have n1:(("once" : Str) == "often")=false:=by decide +kernel
  have n2:¬ (("often" : Str) = "once"):=by decide +kernel
  rcases hx with e|e
  .rw[e,n1,if_pos rfl,ZD]
  .rw[e,beq_self_eq_true,if_neg n2,ZO];rfl
theorem zfb (op:List (Str×Sy)):(lawA op).map Mv.w=op.flatMap fun d=>((gI d.1 d.2).map (Mv.ans d.1 d.2)).map Mv.w:=by unfold lawA;rw[Zbl]
theorem zfa (x:Bk) (z:Sd):(lawD x z).map Mv.w=(wR x z).flatMap fun s=>(((words s).filter (prB x z s)).map fun y=>Mv.dbt y s).map Mv.w:=by unfold lawD;rw[Zbl]
theorem zfi {α β:Type} (h:α->β) (l:List α):(l.flatMap fun s=>[h s])=l.map h:=by
 induction l with
 |nil=>rfl
 |cons a l ih=>rw[ZbI,ih];rfl
theorem vX {x:Bk} {z:Sd} (h:z.ok):vT (wR x z):=by unfold wR;split;exact h.fr;exact h.sd
theorem zjS {op:List (Str×Sy)} (h:tM op):(lawA op).length<=34:=by
 have h1:((lawA op).map Mv.w).length<=2 * op.length:=by rw[zfb];exact qP _ fun d _=>by rw[zzM,zzM];exact (qJ d.1 d.2).2.1
 rw[zzM] at h1;have:=h.1;omega
theorem zjR {x:Bk} {z:Sd} (h:z.ok):(lawD x z).length<=16:=by
 have h1:((lawD x z).map Mv.w).length<=2 * (wR x z).length:=by rw[zfa];exact qP _ fun s _=>Zb sS (jC s)
 rw[zzM] at h1;have:=(vX (x:=x) h).1;omega
theorem zl9 {x:Bk} {z:Sd} (h:z.ok):∀ m∈lawA z.op++lawD x z,m.ok:=by
 intro m hm;rcases Zm.mp hm with hm|hm
 .obtain ⟨d,hd,hm⟩:=ZaF.mp hm;obtain ⟨s,hs,rfl⟩:=zzP hm;have h1:=(h.op.2.2 d hd).2;have h2:=(qJ d.1 d.2).2.2 s hs;exact ⟨by omega,by omega⟩
 .obtain ⟨s,hs,hm⟩:=ZaF.mp hm;obtain ⟨y,hy,rfl⟩:=zzP hm;have:=(vX h).2.2 s hs;exact ⟨(ZX.mp hy).1,by omega⟩
section
variable {K:yI} {C sA:Addr}
theorem zf0 {n:Nat} (hn:25<=n) {ws:List W} {G:Hw} {Q:Q3} (h:spMv C ws G Q XN):zI 'b' XN yD { nx:=fun _ G'=>Q .non G',rt:=Q } (yT pG ws) G:=by
 obtain ⟨b,x,z,rfl,hb,hx,hz,h⟩:=h;have e5:'b'.fn[6]?=some eSrt:=vW 6 hn rfl;have e6:'b'.fn[8]?=some eInt:=vW 8 hn rfl;have e14:'b'.fn[23]?=some ⟨"_law_words", kY⟩:=vW 23 hn rfl;have e18:'b'.fn[22]?=some ⟨"_law_answers", mV⟩:=vW 22 hn rfl;have e26:'b'.fn[24]?=some ⟨"_law_says", qD⟩:=vW 24 hn rfl;have t2:'b'.mt[2]?=some eApp:=rfl;have z0:=sz 0 'c';have z2:=sz 2 'c';have z3:=sz 3 'c';have lA:=zjS hz.op;have lD:=zjR (x:=x) hz
 have s4:∀ (G':Hw) (f:Addr) (v7 v8 v9 v10:Option W),zK [] G G'->G' f=some (.lst ((lawA z.op++lawD x z).map Mv.w))->zI 'b' XN (tl (tl (tl (tl yD)))) { nx:=fun _ G'=>Q .non G',rt:=Q } [b⁻¹,some z.w,some (.tup 'm'),some (.tup (z.op.map dW)),some (.tup (z.us.map dW)),some (.tup (z.fr.map Sy.w)),f⁻¹,v7,v8,v9,v10,none,none,none] G':=by
  intro G' f v7 v8 v9 v10 kp gf;simp only[yD,tl];refine yX ?_
  erw[Zj,z0,true_and]
  intro p hp;have k1:zK [] G' (put G' p (.lst [])):=zK.new hp;have g1:(put G' p (.lst [])) p=some (.lst []):=zM;have gf1:=k1 _ _ 'g' gf;have hpf:f≠p:=xU gf hp;generalize put G' p (.lst [])=G1 at k1 g1 gf1 ⊢;refine yX ?_
  erw[zY,xH,zL gf1]
  refine qN (fun m=>if may z.sd (wZ m)=true then [m.w] else []) (fun σ=>∃ v12 v13,σ=[b⁻¹,some z.w,some (.tup 'm'),some (.tup (z.op.map dW)),some (.tup (z.us.map dW)),some (.tup (z.fr.map Sy.w)),f⁻¹,v7,v8,v9,v10,p⁻¹,v12,v13]) ⟨none,none,rfl⟩ g1 (fun G' k=>zL (k f _ (by simpa using hpf) gf1)) ?_ ?_
  .rintro i m hm σ' G2 ⟨v12,v13,rfl⟩ k2 g2 D' hD;have ok:=zl9 hz m (Zo hm)
   erw[]
   refine yX ?_
   erw[e26]
   refine ⟨m,rfl,ok,?_⟩;rw[ziZ]
   have ll:([]++((lawA z.op++lawD x z).take i).flatMap fun m=>if may z.sd (wZ m)=true then [m.w] else []:List W).length<=60:=by
    rw[ZC,vI (fun m=>may z.sd (wZ m)) Mv.w,zzM];refine Zb (ZL _ _) (Zb qU ?_);rw[zzW];omega
   have yes:may z.sd (wZ m)=true->zI 'b' XN {.ex (.mth 2 (.var 11) {.var 12})} { D' with nx:=zI 'b' XN .nil D' } [b⁻¹,some z.w,some (.tup 'm'),some (.tup (z.op.map dW)),some (.tup (z.us.map dW)),some (.tup (z.fr.map Sy.w)),f⁻¹,v7,v8,v9,v10,p⁻¹,some m.w,some (ow (wZ m))] G2:=fun hc=>by
    refine yX ?_
    erw[t2]
    refine ⟨tyL g2,appL g2 'd' ?_⟩;refine stk K C sA n (stk K C sA n ?_);exact hD _ _ ⟨_,_,rfl⟩ zK.at (by rw[zM,if_pos hc])
   have no:may z.sd (wZ m)=false->zI 'b' XN .nil { D' with nx:=zI 'b' XN .nil D' } [b⁻¹,some z.w,some (.tup 'm'),some (.tup (z.op.map dW)),some (.tup (z.us.map dW)),some (.tup (z.fr.map Sy.w)),f⁻¹,v7,v8,v9,v10,p⁻¹,some m.w,some (ow (wZ m))] G2:=fun hc=>by
    refine stk K C sA n (stk K C sA n ?_);exact hD _ _ ⟨_,_,rfl⟩ zK.refl (by rw[g2,if_neg (by rw[hc];exact zzN),Zv])
   have hle:=za9 ok;generalize wZ m=a at hle yes no ⊢;refine yX ?_
   cases a with
   |none =>
    erw[ow,zA,cH,if_true]
    exact yes rfl
   |some s =>
    have hs:=hle s rfl;have hd:=Sy.dep s
    erw[ow,zA,is_w,zzB,if_false]
    cases s with
    |say y =>
     simp only[Sy.w,vJ,zJ,beq_self_eq_true,ZA,zzB,if_false,wP,L3.inR];refine ⟨⟨Sy.pur (.say y),pS z.sd,by simp only[Sy.w] at hd;omega⟩,?_⟩
     split
     .rename_i hc;exact yes hc
     .rename_i hc;exact no (by simpa[may,zot,Sy.w] using hc)
    |not a=>simp only[Sy.w,vJ,zJ,uO,Zu,if_true];exact yes rfl
    |and a b=>simp only[Sy.w,vJ,zJ,uN,Zu,if_true];exact yes rfl
    |or a b=>simp only[Sy.w,vJ,zJ,sX,Zu,if_true];exact yes rfl
    |ite a b=>simp only[Sy.w,vJ,zJ,sW,Zu,if_true];exact yes rfl
  .rintro σ' G2 ⟨v12,v13,rfl⟩ k2 g2;rw[ZC,vI (fun m=>may z.sd (wZ m)) Mv.w,zl8 hx] at g2;have k3:zK [] G G2:=zK.grow (kp.trans k1) (kp.none 'g' hp) k2;have hl:=zdU (x:=x) hz;refine yX ?_
   erw[e5]
   exact ⟨_,zL g2,zgI 'd' (zhb hz),fun s hs=>h s _ (k3.trans (zK.new hs)) (k3.none 'g' hs) zM⟩
 simp only[yD,tl] at s4
 have s3:∀ (G':Hw) (f:Addr) (v7 v8:Option W),zK [] G G'->G f=none->G' f=some (.lst ((lawA z.op).map Mv.w))->zI 'b' XN (tl (tl (tl yD))) { nx:=fun _ G'=>Q .non G',rt:=Q } [b⁻¹,some z.w,some (.tup 'm'),some (.tup (z.op.map dW)),some (.tup (z.us.map dW)),some (.tup (z.fr.map Sy.w)),f⁻¹,v7,v8,none,none,none,none,none] G':=by
  intro G' f v7 v8 kp hf gf;simp only[yD,tl];refine yX ?_
  erw[zY,zzC,zzL,zzA,Nat.reduceAdd,z2,true_and]
  intro p hp;have k1:zK [] G' (put G' p (.lst [.tup 'm',.tup (z.fr.map Sy.w)])):=zK.new hp;have g1:(put G' p (.lst [.tup 'm',.tup (z.fr.map Sy.w)])) p=some (.lst [.tup 'm',.tup (z.fr.map Sy.w)]):=zM;have gf1:=k1 _ _ 'g' gf;generalize put G' p (.lst [.tup 'm',.tup (z.fr.map Sy.w)])=G1 at k1 g1 gf1 ⊢;refine attE ((kp.trans k1) _ _ 'g' hb) ?_
  erw[zA,zJ,e6,rF]
  have go:forR ((wR x z).map Sy.w) (fun _=>True) { nx:=zI 'b' XN (tl (tl (tl (tl yD)))) { nx:=fun _ G'=>Q .non G',rt:=Q },rt:=Q } [b⁻¹,some z.w,some (.tup 'm'),some (.tup (z.op.map dW)),some (.tup (z.us.map dW)),some (.tup (z.fr.map Sy.w)),f⁻¹,v7,v8,none,none,none,none,none] G1
    (fun w D' σ' G'=>zX (.nm 9) w σ' G' fun σ2 G2=>zI 'b' XN {.for (.nm 10) (.val (.call 23 {.var 9})) {.ite (.or (.cmp .Eq (.att 'h' "doubts") "often"⁻¹) (.cmp .NotIn (.tup {.var 10,.var 9}) (.var 4))) {.ex (.mth 2 (.var 6) {.tup {"doubt"⁻¹,.var 10,.var 9}})} .nil}} D' σ2 G2):=by
   refine qN (fun s=>(((words s).filter (prB x z s)).map fun y=>Mv.dbt y s).map Mv.w) (fun σ=>∃ v9 v10,σ=[b⁻¹,some z.w,some (.tup 'm'),some (.tup (z.op.map dW)),some (.tup (z.us.map dW)),some (.tup (z.fr.map Sy.w)),f⁻¹,v7,v8,v9,v10,none,none,none]) ⟨none,none,rfl⟩ gf1 (fun _ _=>trivial) ?_ ?_
   .rintro i s hs σ' G2 ⟨v9,v10,rfl⟩ k2 g2 D' hD;have hsz:=(vX hz).2.2 s (Zo hs)
    have ll:((lawA z.op).map Mv.w++((wR x z).take i).flatMap fun s=>(((words s).filter (prB x z s)).map fun y=>Mv.dbt y s).map Mv.w:List W).length<=60:=by
     rw[zzW,zzM];have l1:=qP (g:=fun s=>(((words s).filter (prB x z s)).map fun y=>Mv.dbt y s).map Mv.w) (n:=2) ((wR x z).take i) fun s _=>Zb sS (jC s);have:=(vX (x:=x) hz).1;have:=@qU _ (wR x z) i;omega
    erw[]
    refine yX ?_
    erw[e14,zY]
    refine ⟨s,rfl,fun r G3 k3 hr gr=>?_⟩;have hfr:f≠r:=xU g2 hr;have hbf:b≠f:=xU hb hf;have hb3:uD C G3 b x:=k3 _ _ 'g' (k2 _ _ (by simpa using hbf) ((kp.trans k1) _ _ 'g' hb));have hbr:b≠r:=xU (k2 _ _ (by simpa using hbf) ((kp.trans k1) _ _ 'g' hb)) hr;simp only[xH,zL gr];refine qN (xs:=words s) (φ:=W.str) (fun y=>if prB x z s y=true then [Mv.w (.dbt y s)] else []) (fun σ=>∃ v10,σ=[b⁻¹,some z.w,some (.tup 'm'),some (.tup (z.op.map dW)),some (.tup (z.us.map dW)),some (.tup (z.fr.map Sy.w)),f⁻¹,v7,v8,some s.w,v10,none,none,none]) ⟨_,rfl⟩ (k3 _ _ 'g' g2) (fun G' k=>zL (k r _ (by simpa using Ne.symm hfr) gr)) ?_ ?_
    .rintro j y hj σ' G4 ⟨v10,rfl⟩ k4 g4 D'' hD';have hb4:uD C G4 b x:=k4 _ _ (by simpa using hbf) hb3;have lj:((words s).take j).flatMap (fun y=>if prB x z s y=true then [Mv.w (.dbt y s)] else [])=(((words s).take j).filter (prB x z s)).map fun y=>Mv.w (.dbt y s):=vI _ _ _
     have lj:(((words s).take j).flatMap (fun y=>if prB x z s y=true then [Mv.w (.dbt y s)] else [])).length<=2:=by
      rw[lj,zzM];exact Zb (ZL _ _) (Zb qU (jC s))
     have yes:prB x z s y=true->zI 'b' XN {.ex (.mth 2 (.var 6) {.tup {"doubt"⁻¹,.var 10,.var 9}})} { D'' with nx:=zI 'b' XN .nil D'' } [b⁻¹,some z.w,some (.tup 'm'),some (.tup (z.op.map dW)),some (.tup (z.us.map dW)),some (.tup (z.fr.map Sy.w)),f⁻¹,v7,v8,some s.w,some (.str y),none,none,none] G4:=fun hc=>by
      refine yX ?_
      erw[t2,zzC,zzL,zzA,Nat.reduceAdd,z3,true_and]
      refine ⟨tyL g4,appL g4 (by rw[zzW];omega) ?_⟩;refine stk K C sA n (stk K C sA n ?_);exact hD' _ _ ⟨_,rfl⟩ zK.at (by rw[zM,if_pos hc];rfl)
     have no:prB x z s y=false->zI 'b' XN .nil { D'' with nx:=zI 'b' XN .nil D'' } [b⁻¹,some z.w,some (.tup 'm'),some (.tup (z.op.map dW)),some (.tup (z.us.map dW)),some (.tup (z.fr.map Sy.w)),f⁻¹,v7,v8,some s.w,some (.str y),none,none,none] G4:=fun hc=>by
      refine stk K C sA n (stk K C sA n ?_);exact hD' _ _ ⟨_,rfl⟩ zK.refl (by rw[g4,if_neg (by rw[hc];exact zzN),Zv])
     erw[]
     refine yX ?_
     erw[]
     refine attC hb4 ?_
     erw[zA,zJ]
     unfold prB at yes no
     cases hc:(x.c==("often" : Str)) with
     |true =>
      rw[hc] at yes;simp only[if_true];exact yes rfl
     |false =>
      rw[hc] at yes no;simp only[zzB,if_false]
      erw[zA,wP,L3.inR,zzC,zzL,zzA,Nat.reduceAdd,z2,true_and,if_true]
      refine ⟨⟨tH (y,s),jS fun w hw=>by obtain ⟨m,_,rfl⟩:=zzP hw;exact tH m,?_⟩,?_⟩
      .have:=zdc (y,s);have h2:dep (.tup [.str y,s.w])<=s.size+1:=this;omega
      cases hg:(z.us.map dW).any fun g=>yQ g (dW (y,s)) with
      |true =>
       rw[hg] at no;rw[show ((z.us.map dW).any fun g=>yQ g (.tup [.str y,s.w]))=true from hg];simp only[ZA,zzB,if_false];exact no rfl
      |false =>
       rw[hg] at yes;rw[show ((z.us.map dW).any fun g=>yQ g (.tup [.str y,s.w]))=false from hg];simp only[Zu,if_true];exact yes rfl
    .rintro σ' G4 ⟨v10,rfl⟩ k4 g4;refine stk K C sA n ?_;refine hD _ _ ⟨_,_,rfl⟩ ((zK.wide (S:=[f]) k3).trans k4) ?_;rw[g4,vI (prB x z s) (fun y=>Mv.w (.dbt y s)),Zbg];rfl
   .rintro σ' G2 ⟨v9,v10,rfl⟩ k2 g2;simp only[yD,tl];exact s4 G2 f v7 v8 v9 v10 (zK.grow (kp.trans k1) hf k2) (by rw[g2,← zfa,← ZW])
  simp only[yD,tl] at go;unfold wR at go
  cases he:(x.e==("last" : Str)) with
  |true =>
   rw[if_pos (by simpa using he)] at go;refine nL (zL g1) ?_;simp only[if_true,vC];exact go
  |false =>
   rw[if_neg (by simpa using he)] at go;refine nL (zL g1) ?_;simp only[zzB,if_false,uH];exact go
 simp only[yD,tl] at s3;show zI 'b' XN yD { nx:=fun _ G'=>Q .non G',rt:=Q } [b⁻¹,some z.w,none,none,none,none,none,none,none,none,none,none,none,none] G;simp only[yD];refine yX ?_
 erw[Sd.w]
 refine yX ?_
 erw[Zj,z0,true_and]
 intro f hf;have k1:zK [] G (put G f (.lst [])):=zK.new hf;have g1:(put G f (.lst [])) f=some (.lst []):=zM;generalize put G f (.lst [])=G1 at k1 g1 ⊢;refine yX ?_
 erw[zY,xH]
 refine qN (fun d=>((gI d.1 d.2).map (Mv.ans d.1 d.2)).map Mv.w) (fun σ=>∃ v7 v8,σ=[b⁻¹,some z.w,some (.tup 'm'),some (.tup (z.op.map dW)),some (.tup (z.us.map dW)),some (.tup (z.fr.map Sy.w)),f⁻¹,v7,v8,none,none,none,none,none]) ⟨none,none,rfl⟩ g1 (fun _ _=>trivial) ?_ ?_
 .rintro i d hd σ' G2 ⟨v7,v8,rfl⟩ k2 g2 D' hD;obtain ⟨hok,hds⟩:=hz.op.2.2 d (Zo hd);obtain ⟨ea,la,sa⟩:=qJ d.1 d.2
  have ll:([]++(z.op.take i).flatMap fun d=>((gI d.1 d.2).map (Mv.ans d.1 d.2)).map Mv.w:List W).length<=40:=by
   rw[ZC];refine Zb (qP (n:=2) _ fun x _=>by rw[zzM,zzM];exact (qJ x.1 x.2).2.1) ?_;have:=hz.op.1;have:=@qU _ z.op i;omega
  erw[]
  refine yX ?_
  erw[e18,zY]
  refine ⟨d.2,d.1,rfl,hok,by omega,fun r G3 k3 hr gr=>?_⟩;rw[ea] at gr;have hfr:f≠r:=xU g2 hr;simp only[xH,zL gr];refine qN (fun s=>[Mv.w (.ans d.1 d.2 s)]) (fun σ=>∃ v8,σ=[b⁻¹,some z.w,some (.tup 'm'),some (.tup (z.op.map dW)),some (.tup (z.us.map dW)),some (.tup (z.fr.map Sy.w)),f⁻¹,some (dW d),v8,none,none,none,none,none]) ⟨_,rfl⟩ (k3 _ _ 'g' g2) (fun G' k=>zL (k r _ (by simpa using Ne.symm hfr) gr)) ?_ ?_
  .rintro j s hj σ' G4 ⟨v8,rfl⟩ k4 g4 D'' hD'
   have lj:(((gI d.1 d.2).take j).flatMap fun s=>[Mv.w (.ans d.1 d.2 s)]).length<=2:=by
    rw[zfi,zzM];exact Zb qU la
   erw[]
   refine yX ?_
   erw[t2,zzC,zzL,zzA,Nat.reduceAdd,z3,true_and]
   refine ⟨tyL g4,appL g4 (by rw[zzW];omega) ?_⟩;refine stk K C sA n ?_;exact hD' _ _ ⟨_,rfl⟩ zK.at zM
  .rintro σ' G4 ⟨v8,rfl⟩ k4 g4;refine stk K C sA n ?_;refine hD _ _ ⟨_,_,rfl⟩ ((zK.wide (S:=[f]) k3).trans k4) ?_;rw[g4,zfi,Zbg];rfl
 .rintro σ' G2 ⟨v7,v8,rfl⟩ k2 g2;exact s3 G2 f v7 v8 (zK.grow k1 hf k2) hf (by rw[g2,zfb];rfl)
end
structure OnceI (S:List W) (i:Nat) (acc:List W):Prop where
 up:xB acc
 mem:∀ w,w∈acc↔w∈S.take i
 len:acc.length<=i
 last:acc.getLast?=(S.take i).getLast?
theorem nQ {S:List W} {i:Nat} {w:W} (hw:S[i]?=some w):S.take (i+1)=S.take i++[w]:=by
 obtain ⟨hi,e⟩:=Zl.mp hw;rw[ZJ hi,e]
theorem OnceI.same {S acc:List W} {i:Nat} {w:W} (I:OnceI S i acc) (hw:S[i]?=some w) (hz:acc.getLast?=some w):OnceI S (i+1) acc:=by
 refine ⟨I.up,fun v=>?_,ZbK I.len,?_⟩
 .rw[nQ hw,Zm,ZH,← I.mem v];exact ⟨.inl,fun h=>h.elim id fun e=>e▸List.mem_of_getLast? hz⟩
 .rw[nQ hw,Zbo,hz];rfl
theorem OnceI.add {S acc:List W} {i:Nat} {w:W} (hs:qA S=true) (hc:Can S) (up:S.Pairwise fun x y=>ltB y x=false) (I:OnceI S i acc) (hw:S[i]?=some w) (hz:∀ z,acc.getLast?=some z->z≠w):OnceI S (i+1) (acc++[w]):=by
 obtain ⟨hi,ew⟩:=Zl.mp hw;refine ⟨List.pairwise_append.mpr ⟨I.up,ZY _ _,fun a ha b hb=>?_⟩,fun v=>?_,?_,?_⟩
 .rw[zzO hb];have wS:w∈S:=Zo hw;obtain ⟨j,hj,ea⟩:=List.mem_take_iff_getElem.mp ((I.mem a).mp ha);have hj':j<i:=by omega
  have le:∀ p q (hp:p<S.length) (hq:q<S.length),p<=q->S[p]=S[q]\/tY S[p] S[q]=some true:=fun p q hp hq pq=>by
   by_cases e:p=q
   .subst e;exact .inl rfl
   .have:=List.pairwise_iff_getElem.mp up p q hp hq 'd';rcases sT (xX hs (ZB hq)) (xX hs (ZB hp)) (hc _ (ZB hq) _ (ZB hp)) this with e|e
    .exact .inl e.symm
    .exact .inr e
  have ej:S[j]''d'=a:=ea;rcases le j i 'd' hi 'd' with e|e
  .rw[ej,ew] at e;exfalso
   have hl:acc.getLast?=some (S[i-1]''d'):=by
    rw[I.last,List.getLast?_take,if_neg 'd',Zf 'd'];rfl
   refine hz _ hl ?_;have s1:=xX hs (ZB (l:=S) (n:=i-1) 'd');have s2:=xX hs wS;rcases le j (i-1) 'd' 'd' 'd' with q|q
   .rw[← q,ej,e]
   .rcases le (i-1) i 'd' hi 'd' with q'|q'
    .rw[q',ew]
    .rw[ej,e] at q;rw[ew,zjI _ _ s2 s1 q] at q';cases q'
  .rw[ej,ew] at e;exact e
 .rw[nQ hw,Zm,Zm,I.mem v]
 .have:=I.len;rw[zzW];show acc.length+1<=i+1;omega
 .rw[nQ hw,Zbo,Zbo];rfl
theorem zoB {G:Hw} {a b:W} (ha:∃ l,a=.tup l) (pa:pur a=true) (pb:pur b=true) (h:dep a<=150):fC G a b=some (yQ a b):=by
 obtain ⟨l,rfl⟩:=ha;have e:fC G (.tup l) b=if (pur (.tup l)&&pur b&&decide (min (dep (.tup l)) (dep b)<=150))=true then some (yQ (.tup l) b) else none:=by cases b<;>rfl
 rw[e,pa,pb,if_pos (by simp only[Zb5,decide_eq_true_eq];omega)]
theorem zks {l:List W} {z:W} (h:l.getLast?=some z):rQ l (-1)=some z:=by
 unfold rQ ixN;have hl:l≠[]:=fun e=>by rw[e] at h;cases h
 have h0:0<l.length:=Z2.mpr hl;rw[if_neg 'c',if_pos 'd'];rw[List.getLast?_eq_getElem?] at h;have:(-1+(l.length:Int)).toNat=l.length-1:=by omega
 simp only[Option.bind_some]
 first|rw[this];exact h|simpa[this] using h
section
variable {K:yI} {C sA:Addr}
theorem zjC {n:Nat} (hn:26<=n) {ws:List W} {G:Hw} {Q:Q3} (h:zeJ ws G Q XN):zI 'b' XN vF { nx:=fun _ G'=>Q .non G',rt:=Q } (yT sL ws) G:=by
 obtain ⟨xs,rfl,hS,hs,h⟩:=h;have e5:'b'.fn[6]?=some eSrt:=vW 6 hn rfl;have m2:'b'.mt[2]?=some eApp:=rfl;have z0:=sz 0 'c';have pm:=xR xs;have up:=zgJ hs hS.lt;have hs':=zba pm hs;have hc':Can (srt xs):=Can.sub hS.lt fun x hx=>pm.mem_iff.mp hx;have few:=hS.few;show zI 'b' XN vF { nx:=fun _ G'=>Q .non G',rt:=Q } [some (.tup xs),none,none] G;simp only[vF]
 ((try dsimp only[zI,zT,zU,zQ,zH,zF,zC,zB,zS,zW,zR,zX,zZ,zY,zV,zN,zP,zE,zO,gZ,gS,tZ,tS]);try simp only[Zj,z0,true_and,e5,zY])
 intro o ho;refine ⟨xs,rfl,hS,fun s hso=>?_⟩;generalize eG:put (put G o (.lst [])) s (.lst (srt xs))=G1;have hne:s≠o:=by rintro rfl;rw[zM] at hso;cases hso
 have g1:G1 s=some (.lst (srt xs)):=by rw[← eG];exact zM
 have g2:G1 o=some (.lst []):=by rw[← eG,yO (Ne.symm hne)];exact zM
 have k1:zK [] G G1:=by rw[← eG];exact (zK.new ho).trans (zK.new hso)
 simp only[xH,zL g1];refine ⟨fun i σ G'=>∃ v2 acc,σ=[some (.tup xs),o⁻¹,v2]/\zK [o] G1 G'/\G' o=some (.lst acc)/\OnceI (srt xs) i acc/\i<=(srt xs).length,⟨none,[],rfl,zK.refl,g2,⟨.nil,fun w=>by simp,zzR _,rfl⟩,Zg _⟩,?_,?_,?_⟩
 .rintro i σ G' ⟨v2,acc,rfl,kp,_⟩ _;exact zL (kp _ _ (by simpa using hne) g1)
 .rintro i w σ G' hw ⟨v2,acc,rfl,kp,go,I,hil⟩;have hi:i<(srt xs).length:=(Zl.mp hw).1;have al:acc.length<1000:=by have:=I.len;rw[pm.length_eq] at hi;omega
  have wx:w∈xs:=pm.mem_iff.mp (Zo hw)
  have app:(∀ z,acc.getLast?=some z->z≠w)->tyW G' (.ref o) "list" /\ appS (.ref o) [w] G' fun _ G2=>∃ v2 acc,[some (W.tup xs),some (W.ref o),some w]=[some (W.tup xs),some (W.ref o),v2]/\zK [o] G1 G2/\G2 o=some (.lst acc)/\OnceI (srt xs) (i+1) acc/\i+1<=(srt xs).length:=fun hz =>
   ⟨tyL go,appL go al ⟨_,_,rfl,kp.trans (zK.put 'g'),zM,I.add hs' hc' up hw hz,hi⟩⟩
  cases acc with
  |nil =>
   ((try dsimp only[zI,zT,zU,zQ,zH,zF,zC,zB,zS,zW,zR,zX,zZ,zY,zV,zN,zP,zE,zO,gZ,gS,tZ,tS]);try simp only[rB,go,Zah,ZA,Zu,if_true,m2])
   exact app fun z hz=>nomatch hz
  |cons a l =>
   obtain ⟨z,hz⟩:∃ z,(a::l).getLast?=some z:=⟨_,List.getLast?_eq_some_getLast (List.cons_ne_nil a l)⟩;have zx:z∈xs:=pm.mem_iff.mp (List.mem_of_mem_take ((I.mem z).mp (List.mem_of_getLast? hz)));obtain ⟨T,hT⟩:=hS.hd
   have zt:∃ l,z=.tup l:=by
    have:=hT z zx;cases z<;>first|exact ⟨_,rfl⟩|cases this
   have zd:dep z<=150:=by have:=sR zx;have:=hS.deep;omega
   have zp:=L3.purs_mem hS.pure z zx;have wp:=L3.purs_mem hS.pure w wx
   ((try dsimp only[zI,zT,zU,zQ,zH,zF,zC,zB,zS,zW,zR,zX,zZ,zY,zV,zN,zP,zE,zO,gZ,gS,tZ,tS]);try simp only[rB,go,Za8,ZA,Zu,zzB,if_false,m2,kU,zks hz,zA,zoB zt zp wp zd])
   cases q:yQ z w with
   |true =>
    simp only[ZA,zzB,if_false];have e:z=w:=zgH z w (xX hs zx) q;exact ⟨_,_,rfl,kp,rfl,I.same hw (by rw[hz,e]),hi⟩
   |false =>
    simp only[Zu,if_true];refine app fun y hy e=>?_;rw[hz] at hy;cases hy;rw[e,zi4 (xX hs wx)] at q;cases q
 .rintro σ G' ⟨v2,acc,rfl,kp,go,I,_⟩
  (try dsimp only[zI,zT,zU,zQ,zH,zF,zC,zB,zS,zW,zR,zX,zZ,zY,zV,zN,zP,zE,zO,gZ,gS,tZ,tS])
  have tk:(srt xs).take (srt xs).length=srt xs:=ZaG;refine h acc (mF fun w hw=>xX hs' (by rw[← tk];exact (I.mem w).mp hw)) I.up (fun w=>by rw[I.mem w,tk];exact pm.mem_iff) (by rw[← pm.length_eq];exact I.len) o G' ?_ ho go;exact fun c u _ e=>kp c u (by rw[ZH];rintro rfl;rw[ho] at e;cases e) (k1 c u 'g' e)
theorem ziY {n:Nat} (hn:34<=n) {ws:List W} {G:Hw} {Q:Q3} (h:qD ws G Q XN):zI 'b' XN dY { nx:=fun _ G'=>Q .non G',rt:=Q } (yT zby ws) G:=by
 obtain ⟨m,rfl,ok,h⟩:=h;have e12:'b'.fn[31]?=some ⟨"said_by", zch⟩:=vW 31 hn rfl;show zI 'b' XN dY { nx:=fun _ G'=>Q .non G',rt:=Q } [some m.w] G;simp only[dY]
 cases m with
 |ans x t s =>
  simp only[Mv.w]
  ((try dsimp only[zI,zT,zU,zQ,zH,zF,zC,zB,zS,zW,zR,zX,zZ,zY,zV,zN,zP,zE,zO,gZ,gS,tZ,tS]);try simp only[vJ,ix2,zA,zJ,beq_self_eq_true,if_true])
  exact h
 |dbt x t =>
  simp only[Mv.w]
  ((try dsimp only[zI,zT,zU,zQ,zH,zF,zC,zB,zS,zW,zR,zX,zZ,zY,zV,zN,zP,zE,zO,gZ,gS,tZ,tS]);try simp only[vJ,ix2,zA,zJ,wU,zzB,if_false,e12,slR])
  rw[cut3];refine ⟨t,x,rfl,.inl ok.1,?_⟩;rw[zb7] at h;exact h
end
def Rp (w:W):Prop:=(∃ x,w=.tup [.str "doubt", .str x])\/∃ s:Sy,s.size<=21/\w=.tup [.str "answer", s.w]
theorem Rp.pur {w:W} (h:Rp w):L3.pur w=true:=by
 rcases h with ⟨x,rfl⟩|⟨s,_,rfl⟩
 .simp[L3.pur,yP]
 .simp[L3.pur,yP,s.pur]
theorem Rp.dep {w:W} (h:Rp w):L3.dep w<=22:=by
 rcases h with ⟨x,rfl⟩|⟨s,hs,rfl⟩
 .simp[L3.dep,yL]
 .have:=Sy.dep s;simp only[L3.dep,yL];omega
theorem Rp.lt {w v:W} (h:Rp w) (h':Rp v):(tY w v).isSome=true:=by
 rcases h with ⟨x,rfl⟩|⟨s,_,rfl⟩<;>rcases h' with ⟨y,rfl⟩|⟨t,_,rfl⟩
 .exact kX (ltS1 (by rw[tY];rfl))
 .exact yF wU
 .exact yF jX
 .exact kX (ltS1 (Sy.lt s t))
theorem Rp.hd {w:W} (h:Rp w):hdT w=some "str" := by
 rcases h with ⟨x,rfl⟩|⟨s,_,rfl⟩<;>rfl
theorem dD {m:Mv} (ok:m.ok):(∀ w∈sM m++preB m,Rp w)/\(sM m).length<=2/\(preB m).length<=2:=by
 refine ⟨fun w hw=>?_,?_,?_⟩
 .rcases Zm.mp hw with hw|hw
  .unfold sM at hw
   split at hw
   .rename_i s e;obtain ⟨v,hv,rfl⟩:=zzP hw;obtain ⟨x,_,rfl⟩:=zzP hv;exact .inl ⟨x,rfl⟩
   .cases hw
  .cases m with
   |ans x t u=>cases hw
   |dbt x t =>
    obtain ⟨v,hv,rfl⟩:=zzP (show w∈(ans x t).map _ from hw);obtain ⟨us,e,_,hs⟩:=dP (x:=x) (t:=t);rw[e] at hv;obtain ⟨u,hu,rfl⟩:=zzP hv;exact .inr ⟨u,Zb (hs u hu) ok.2,rfl⟩
 .unfold sM
  split
  .rename_i s e;have:=jC s;simpa[rE] using this
  .exact Zg _
 .cases m with
  |ans x t u=>exact Zg _
  |dbt x t =>
   obtain ⟨us,e,hl,_⟩:=dP (x:=x) (t:=t);show ((ans x t).map _).length<=2;rw[e,zzM,zzM];exact hl
theorem zi6 {m:Mv} (ok:m.ok):Srtb (sM m++preB m):=by
 obtain ⟨h,l1,l2⟩:=dD ok;exact ⟨jS fun w hw=>(h w hw).pur,fun x hx y hy=>(h x hx).lt (h y hy),by rw[zzW];omega,Zab (nI fun w hw=>(h w hw).dep) 'c',⟨"str", fun x hx=>(h x hx).hd⟩⟩
theorem zhW {G:Hw} {R:Q3} (s:Sy):cH true s.w .non G R=R (.bl true) G:=by
 obtain ⟨l,e⟩:=s.tup;rw[e];rfl
section
variable {K:yI} {C sA:Addr}
theorem fW {m:Mv} (ok:m.ok) {G G':Hw} {p:Addr} {Q:Q3} (h:Fr (repl m) G Q) (kp:zK [] G G') (g:G' p=some (.lst (sM m++preB m))):zdA [.ref p] G' Q :=
 ⟨_,zL g,zi6 ok,fun r hr=>h r _ (kp.trans (zK.new hr)) (kp.none 'g' hr) zM⟩
theorem zhG {n:Nat} (hn:47<=n) {ws:List W} {G:Hw} {Q:Q3} (h:sO ws G Q XN):zI 'b' XN xC { nx:=fun _ G'=>Q .non G',rt:=Q } (yT tK ws) G:=by
 obtain ⟨m,rfl,ok,h⟩:=h;have e5:'b'.fn[6]?=some eSrt:=fnAt 6 'd' rfl;have e14:'b'.fn[23]?=some ⟨"_law_words", kY⟩:=fnAt 23 'd' rfl;have e18:'b'.fn[22]?=some ⟨"_law_answers", mV⟩:=fnAt 22 'd' rfl;have e26:'b'.fn[24]?=some ⟨"_law_says", qD⟩:=fnAt 24 'd' rfl;have z0:=sz 0 'c';have z2:=sz 2 'c';obtain ⟨_,la,lb⟩:=dD ok;show zI 'b' XN xC { nx:=fun _ G'=>Q .non G',rt:=Q } [some m.w,none,none] G;simp only[xC];refine yX ?_
 erw[e26]
 refine ⟨m,rfl,ok,?_⟩;refine yX ?_
 erw[Zj,z0,true_and]
 intro p hp;have k1:zK [] G (put G p (.lst [])):=zK.new hp;have g1:(put G p (.lst [])) p=some (.lst []):=zM;generalize put G p (.lst [])=G1 at k1 g1 ⊢
 have go:∀ (G2:Hw) (p:Addr),zK [] G G2->G2 p=some (.lst (sM m))->zI 'b' XN (tl (tl (tl xC))) { nx:=fun _ G'=>Q .non G',rt:=Q } [some m.w,some (wF m),p⁻¹] G2:=by
  intro G2 p k2 g2;simp only[xC,tl];refine yX ?_
  erw[zA,e18]
  cases m with
  |ans x t s =>
   simp only[Mv.w,vJ,zJ,jX,zzB,if_false];refine xT (Γ:=yW K C sA n) (E:=XN) ?_;refine yX ?_
   erw[e5]
   exact fW ok h k2 (by rw[g2];simp[preB])
  |dbt x t =>
   simp only[Mv.w,vJ,zJ,beq_self_eq_true,if_true];refine yX ?_
   erw[e18,zY,zV,bF,ix2,zzC,zzL,zzA,Nat.reduceAdd,z2,true_and]
   refine ⟨t,x,rfl,.inl ok.1,ok.2,fun r G3 k3 hr g3=>?_⟩;simp only[xH,zL g3];refine zfd (fun a=>.tup [.str "answer", a]) (zL g3) (by have:=lb;simp only[preB,zzM] at this;exact sz _ 'd') ?_ ?_
   .intro w hw K' hK;simp only[nT,Ze,Zj,List.replicate,zzV,Zv]
    erw[zzC,zzL,zzA,Nat.reduceAdd,z2,true_and,if_true]
    exact hK
   .intro r2 hr2;have hne:=xU (k3 _ _ 'g' g2) hr2;simp only[wN,yO hne,k3 _ _ 'g' g2,zM];refine ⟨sz _ (by show _+(preB (.dbt x t)).length<=3000;omega),fun r3 hr3=>?_⟩;refine xT (Γ:=yW K C sA n) (E:=XN) ?_;refine yX ?_
    erw[e5]
    exact fW (p:=r3) ok h (((k2.trans k3).trans (zK.new hr2)).trans (zK.new hr3)) zM
 simp only[xC,tl] at go;refine yX ?_
 erw[zA,e14]
 cases e:wZ m with
 |none =>
  have ew:wF m=.non:=by simp only[wF,e]
  have ea:sM m=[]:=by simp only[sM,e]
  rw[ew] at go ⊢;simp only[cH,if_true,zzB,if_false];refine xT (Γ:=yW K C sA n) (E:=XN) ?_;exact go G1 p k1 (by rw[ea];exact g1)
 |some s =>
  have ew:wF m=s.w:=by simp only[wF,e]
  have ea:sM m=(rE s).map fun w=>.tup [.str "doubt", w]:=by simp only[sM,e]
  rw[ew] at go ⊢;rw[zhW];simp only[if_true];refine yX ?_
  erw[e14,zY,zV]
  refine ⟨s,rfl,fun r G3 k3 hr g3=>?_⟩;simp only[xH,zL g3];have la':(rE s).length<=2:=by rw[ea,zzM] at la;exact la
  refine zfd (fun w=>.tup [.str "doubt", w]) (zL g3) (sz _ 'd') ?_ ?_
  .intro w hw K' hK;simp only[nT,Ze,Zj,List.replicate,zzV,Zv]
   erw[zzC,zzL,zzA,Nat.reduceAdd,z2,true_and,if_true]
   exact hK
  .intro r2 hr2;refine xT (Γ:=yW K C sA n) (E:=XN) ?_;exact go _ r2 ((k1.trans k3).trans (zK.new hr2)) (by rw[zM,ea])
end
theorem zbT {x:Bk} {op:List (Str×Sy)} {y:Str} {t s:Sy} (h:x.b = "once"):zf2 x op (.ans y t s)=(op.map dW).filter (fun w=>!(yQ w (dW (y,t)))):=if_pos h
theorem zhL {x:Bk} {op:List (Str×Sy)} {y:Str} {t s:Sy} (h:¬ x.b = "once"):zf2 x op (.ans y t s)=op.map dW:=if_neg h
theorem zez {x:Bk} {us:List (Str×Sy)} {y:Str} {t:Sy} (h:x.c = "once"):bX x us (.dbt y t)=uni (us.map dW) [dW (y,t)]:=if_pos h
theorem zeA {x:Bk} {us:List (Str×Sy)} {y:Str} {t s:Sy} (h:x.c = "once"):bX x us (.ans y t s)=us.map dW:=if_pos h
theorem zgr {x:Bk} {us:List (Str×Sy)} {m:Mv} (h:¬ x.c = "once"):bX x us m=[]:=if_neg h
theorem zhx {α:Type} (a:α):[a].Nodup:=Zau.mpr ⟨(fun h=>nomatch h),ZaR⟩
theorem zc0 (x:Bk) (op:List (Str×Sy)) (m:Mv):∃ zs:List (Str×Sy),zf2 x op m=zs.map dW/\zs.Sublist op:=by
 cases m with
 |ans y t s =>
  by_cases h:x.b = "once"
  .rw[zbT h,ZbX];exact ⟨_,rfl,List.filter_sublist⟩
  .exact ⟨op,zhL h,ZbF _⟩
 |dbt y t=>exact ⟨op,rfl,ZbF _⟩
theorem tB {α:Type} {l:List α} (h:l.length<=1):l.Nodup:=by
 match l,h with
 | [],_=>exact ZaR
 | [a],_=>exact zhx a
theorem zog {as bs:List (Str×Sy)} (h:as.Nodup) (hb:bs.length<=1) (hl:as.length<=17) (ha:∀ d∈as,d.2.size<=21) (hb':∀ d∈bs,d.2.size<=21) :
  Srtb (as.map dW++bs.map dW)/\qA (as.map dW++bs.map dW)=true/\(as.map dW).Nodup/\(bs.map dW).Nodup:=by
 rw[← ZW];refine ⟨zln (by rw[zzW];omega) fun d hd=>?_,zgC _,hJ (fun _ _=>zfr) h,hJ (fun _ _=>zfr) (tB hb)⟩;rcases Zm.mp hd with hd|hd
 .exact ha d hd
 .exact hb' d hd
theorem jn_Sy {as bs:List Sy} (h:as.Nodup) (hb:bs.length<=1) (hl:as.length<=17) (ha:∀ d∈as,d.size<=21) (hb':∀ d∈bs,d.size<=21) :
  Srtb (as.map Sy.w++bs.map Sy.w)/\qA (as.map Sy.w++bs.map Sy.w)=true/\(as.map Sy.w).Nodup/\(bs.map Sy.w).Nodup:=by
 rw[← ZW];refine ⟨srtb (by rw[zzW];omega) fun d hd=>?_,zcc _,hJ (fun _ _=>Sy.inj) h,hJ (fun _ _=>Sy.inj) (tB hb)⟩;rcases Zm.mp hd with hd|hd
 .have:=ha d hd;omega
 .have:=hb' d hd;omega
theorem cG {α:Type} (p:α->Bool):∀ l:List α,(l.filterMap fun w=>if p w=true then none else some w)=l.filter fun w=>!(p w)
 | []=>rfl
 |a::l=>by
  rw[Zaz,Zbj,cG p l];cases p a<;>rfl
theorem bD {m:Mv} {r:Ry} (ok:m.ok) (rk:r.ok m):(heard m r).length<=1/\∀ s∈heard m r,s.size<=21:=by
 cases r with
 |ans s=>exact ⟨zzR _,fun s' h=>by rw[zzO h];exact rk⟩
 |dbt x =>
  obtain ⟨s,es,_⟩:=rk;have em:heard m (.dbt x)=if x = "if" \/ x = "not" then [nZ s] else []:=by simp only[heard,es]
  rw[em]
  split
  .exact ⟨zzR _,fun s' h=>by rw[zzO h];exact Zb (sB s) (za9 ok s es)⟩
  .exact ⟨Zg _,fun s' h=>nomatch h⟩
theorem zaN {m:Mv} {r:Ry} (ok:m.ok) (rk:r.ok m):(made m r).length<=1/\∀ d∈made m r,d.2.size<=21:=by
 cases r with
 |ans s=>exact ⟨Zg _,fun s' h=>nomatch h⟩
 |dbt x =>
  obtain ⟨s,es,_⟩:=rk;have em:made m (.dbt x)=[(x,s)]:=by simp only[made,es]
  rw[em];exact ⟨zzR _,fun s' h=>by rw[zzO h];exact za9 ok s es⟩
section
variable {K:yI} {C sA:Addr}
end
theorem zc9 {d:W}:∀ {l:List W},qA l=true->l.Nodup->(l.any fun w=>yQ w d)=true->l.eraseIdx (l.findIdx fun w=>yQ w d)=l.filter fun w=>!(yQ w d)
 | [],_,_,h=>by cases h
 |a::l,hs,nd,h=>by
  have hs':=xK.mp hs;have nd':=Zau.mp nd;rw[ZbH,Zbj]
  cases e:yQ a d with
  |true =>
   have ea:=zgH a d hs'.1 e;simp only[cond_true,ZA,zzB,if_false,List.eraseIdx_cons_zero];refine (List.filter_eq_self.mpr fun w hw=>?_).symm
   cases q:yQ w d with
   |false=>rfl
   |true =>
    rw[← ea] at q;rw[zgH w a (xX hs'.2 hw) q] at hw;exact absurd hw nd'.1
  |false =>
   simp only[cond_false,Zu,if_true,List.eraseIdx_cons_succ];rw[zc9 hs'.2 nd'.2 (by simpa[e] using h)]
theorem zkb {a b:W} (ha:L3.st a=true) (hb:L3.st b=true):yQ a b=yQ b a:=by
 by_cases e:a=b
 .rw[e]
 .rw[zlm ha e,zlm hb (Ne.symm e)]
theorem zee {d:W} {l:List W} (h:(l.any fun w=>yQ w d)=false):(l.filter fun w=>!(yQ w d))=l:=List.filter_eq_self.mpr fun w hw=>by
 cases q:yQ w d with
 |false=>rfl
 |true =>
  have:(l.any fun w=>yQ w d)=true:=ZaU.mpr ⟨w,hw,q⟩;rw[h] at this;cases this
noncomputable def mU (x:Bk) (op:List (Str×Sy)) (m:Mv) (mk:List (Str×Sy)):List W:=if x.e = "last" then [] else if x.a = "last" then (if mk.isEmpty=true then op.map dW else []) else zf2 x op m
theorem zg5 (x:Bk) (op:List (Str×Sy)) (m:Mv) (mk:List (Str×Sy)):∃ zs:List (Str×Sy),mU x op m mk=zs.map dW/\zs.Sublist op:=by
 unfold mU
 split
 .exact ⟨[],rfl,List.nil_sublist _⟩
 .split
  .split
   .exact ⟨op,rfl,ZbF _⟩
   .exact ⟨[],rfl,List.nil_sublist _⟩
  .exact zc0 x op m
theorem zb5 {mk:List (Str×Sy)} (h:mk.length<=1):uni [] (mk.map dW)=mk.map dW:=by
 match mk,h with
 | [],_=>rfl
 | [d],_=>rfl
theorem zg4 {x:Bk} {op:List (Str×Sy)} {m:Mv} {mk:List (Str×Sy)} (h:mk.length<=1) (hs:xB (op.map dW)):uni (mU x op m mk) (mk.map dW)=bV x op m mk:=by
 unfold mU bV
 split
 .exact zb5 h
 .split
  .cases mk with
   |nil =>
    simp only[Zah,if_true,zzV]
    exact zle (zgC op) (fun a ha b hb=>by
     obtain ⟨d,_,rfl⟩:=zzP ha;obtain ⟨e,_,rfl⟩:=zzP hb;exact zkn d e) hs
   |cons d l =>
    simp only[Za8,zzB,if_false];exact zb5 h
  .rfl
theorem zgu (a b:List W):srt ((a.filterMap fun w=>if (b.any fun z=>yQ z w)=true then none else some w)++b)=uni a b:=by rw[cG (fun w=>b.any fun z=>yQ z w)];rfl
theorem zbb {a b:List W} (h:Srtb (a++b)):Srtb ((a.filterMap fun w=>if (b.any fun z=>yQ z w)=true then none else some w)++b):=by
 rw[cG (fun w=>b.any fun z=>yQ z w)];refine zi5 h (fun y hy=>?_) (by rw[zzW,zzW];have:=ZL (fun w=>!(b.any fun z=>yQ z w)) a;omega);rcases Zm.mp hy with hy|hy
 .exact Zm.mpr (.inl (ZX.mp hy).1)
 .exact Zm.mpr (.inr hy)
theorem zcU {a b:List W} (h:Srtb (a++b)) {w:W} (hw:w∈a):pur w=true/\yP b=true/\min (yL b) (dep w)<=150:=by
 have p:=h.pure;refine ⟨L3.purs_mem p w (Zm.mpr (.inl hw)),jS fun v hv=>L3.purs_mem p v (Zm.mpr (.inr hv)),?_⟩;have:=sR (Zm.mpr (.inl hw):w∈a++b);have:=h.deep;omega
section
variable {K:yI} {C sA:Addr}
theorem zf3 {n:Nat} (hn:50<=n) {ws:List W} {G:Hw} {Q:Q3} (h:zbh C ws G Q XN):zI 'b' XN yY { nx:=fun _ G'=>Q .non G',rt:=Q } (yT pD ws) G:=by
 obtain ⟨b,x,z,m,r,rfl,hb,hx,hz,hu,ok,rk,h⟩:=h;have e3:'b'.fn[3]?=some eLst:=vW 3 hn rfl;have e5:'b'.fn[6]?=some eSrt:=vW 6 hn rfl;have e6:'b'.fn[8]?=some eInt:=vW 8 hn rfl;have e19:'b'.fn[7]?=some eTup:=vW 7 hn rfl;have e26:'b'.fn[24]?=some ⟨"_law_says", qD⟩:=vW 24 hn rfl;have m3:'b'.mt[5]?=some eRem:=rfl;have z0:=sz 0 'c';have z1:=sz 1 'c';have z2:=sz 2 'c';have z4:=sz 4 'c';obtain ⟨hh1,hh2⟩:=bD ok rk;obtain ⟨hm1,hm2⟩:=zaN ok rk;obtain ⟨zs,ez,sb⟩:=zg5 x z.op m (made m r);obtain ⟨i1,i2,i3,i4⟩:=jn_Sy hz.sd.2.1 hh1 (by have:=hz.sd.1;omega) (fun s hs=>by have:=hz.sd.2.2 s hs;omega) hh2;obtain ⟨j1,j2,j3,j4⟩:=zog (sb.nodup hz.op.2.1) hm1 (Zb sb.length_le hz.op.1) (fun d hd=>by have:=(hz.op.2.2 d (sb.subset hd)).2;omega) hm2;have hsl:=hz.sd.1;have hzl:=Zb sb.length_le hz.op.1
 have s10:∀ (G':Hw) (p8 p9 rG:Addr) (v7:W),zK [] G G'->G' p8=some (.lst ((heard m r).map Sy.w))->G' p9=some (.lst ((made m r).map dW))->G' rG=some (.lst (zs.map dW))->v7=.tup (if x.e = "last" then (heard m r).map Sy.w else []) ->
   zI 'b' XN (tl (tl (tl (tl (tl (tl (tl (tl (tl yY))))))))) { nx:=fun _ G'=>Q .non G',rt:=Q } [b⁻¹,some z.w,some m.w,some r.w,some (.tup 'm'),some (.tup (z.op.map dW)),some (.tup (bX x z.us m)),some v7,p8⁻¹,p9⁻¹,rG⁻¹] G':=by
  intro G' p8 p9 rG v7 kp g8 g9 g10 e7;simp only[yY,tl];refine yX ?_
  erw[e5,e19,zY,zV,xH]
  refine nM (fun w=>if (((heard m r).map Sy.w).any fun z=>yQ z w)=true then none else some w) trivial (by rw[zzM];exact sz _ 'd') ?_ ?_
  .intro w hw K' hK;simp only[nT,Ze,Zj,List.replicate,zzU,zzV,Zac,ZC,Zv]
   erw[zA,wP,L3.inR,Zaj,if_true,g8]
   refine ⟨zcU i1 hw,?_⟩;revert hK;cases ((heard m r).map Sy.w).any fun z=>yQ z w<;>simp
  .intro q hq;have n8:=xU g8 hq;simp only[wN,yO n8,g8,zM];refine ⟨sz _ (by rw[zzM];have:=Zat (fun w=>if (((heard m r).map Sy.w).any fun z=>yQ z w)=true then none else some w) 'm';rw[zzM] at this;omega),fun q2 hq2=>?_⟩;refine ⟨_,zL zM,zbb i1,fun q3 hq3=>?_⟩;rw[zgu];have k2:zK [] G' (put 'k' q3 (.lst (uni 'm' ((heard m r).map Sy.w)))):=((zK.new hq).trans (zK.new hq2)).trans (zK.new hq3);have g3:(put 'k' q3 (.lst (uni 'm' ((heard m r).map Sy.w)))) q3=some (.lst (uni 'm' ((heard m r).map Sy.w))):=zM;generalize put 'k' q3 (.lst (uni 'm' ((heard m r).map Sy.w)))=G2 at k2 g3 ⊢;have sq:vN G2 (.ref q3)=some (uni 'm' ((heard m r).map Sy.w)):=zL g3;simp only[dJ,sq];have g9:=k2 _ _ 'g' g9;have g10:=k2 _ _ 'g' g10;have kp:=kp.trans k2;refine yX ?_
   erw[e5,e19,zY,zV,xH,zL g10]
   refine nM (fun w=>if (((made m r).map dW).any fun z=>yQ z w)=true then none else some w) (zL g10) (by rw[zzM];exact sz _ 'd') ?_ ?_
   .intro w hw K' hK;simp only[nT,Ze,Zj,List.replicate,zzU,zzV,Zac,ZC,Zv]
    erw[zA,wP,L3.inR,Zaj,if_true,g9]
    refine ⟨zcU j1 hw,?_⟩;revert hK;cases ((made m r).map dW).any fun z=>yQ z w<;>simp
   .intro q hq;have n9:=xU g9 hq;simp only[wN,yO n9,g9,zM];refine ⟨sz _ (by rw[zzM];have:=Zat (fun w=>if (((made m r).map dW).any fun z=>yQ z w)=true then none else some w) (zs.map dW);rw[zzM] at this;omega),fun q2 hq2=>?_⟩;refine ⟨_,zL zM,zbb j1,fun q3 hq3=>?_⟩;rw[zgu,← ez,zg4 hm1 hz.s2];have k3:=(((zK.new hq).trans (zK.new hq2)).trans (zK.new hq3):zK [] G2 (put (put (put G2 q (.lst ((zs.map dW).filterMap fun w=>if (((made m r).map dW).any fun z=>yQ z w)=true then none else some w))) q2 (.lst (((zs.map dW).filterMap fun w=>if (((made m r).map dW).any fun z=>yQ z w)=true then none else some w)++(made m r).map dW))) q3 (.lst (bV x z.op m (made m r)))));rw[← ez] at k3;have sq:vN (put (put (put G2 q (.lst ((mU x z.op m (made m r)).filterMap fun w=>if (((made m r).map dW).any fun z=>yQ z w)=true then none else some w))) q2 (.lst (((mU x z.op m (made m r)).filterMap fun w=>if (((made m r).map dW).any fun z=>yQ z w)=true then none else some w)++(made m r).map dW))) q3 (.lst (bV x z.op m (made m r)))) (.ref q3)=some (bV x z.op m (made m r)):=zL zM;simp only[dJ,sq,zzC,zzL,zzA,Nat.reduceAdd,z4,true_and];rw[e7];exact h _ (kp.trans k3)
 simp only[yY,tl] at s10
 have s9:∀ (G':Hw) (p8 p9 rG:Addr),zK [] G G'->G' p8=some (.lst ((heard m r).map Sy.w))->G' p9=some (.lst ((made m r).map dW))->G' rG=some (.lst (zs.map dW)) ->
   zI 'b' XN (tl (tl (tl (tl (tl (tl (tl (tl yY)))))))) { nx:=fun _ G'=>Q .non G',rt:=Q } [b⁻¹,some z.w,some m.w,some r.w,some (.tup 'm'),some (.tup (z.op.map dW)),some (.tup (bX x z.us m)),some (.tup (z.fr.map Sy.w)),p8⁻¹,p9⁻¹,rG⁻¹] G':=by
  intro G' p8 p9 rG kp g8 g9 g10;simp only[yY,tl];refine yX ?_
  erw[e19,e6]
  refine attE (kp _ _ 'g' hb) ?_
  erw[zA,zJ,rF]
  have fin:∀ (l:List W) (q:Addr),G' q=none->l=(if x.e = "last" then (heard m r).map Sy.w else [])->dJ [.ref q] (put G' q (.lst l)) fun w G1=>zI 'b' XN (tl (tl (tl (tl (tl (tl (tl (tl (tl yY))))))))) { nx:=fun _ G'=>Q .non G',rt:=Q } [b⁻¹,some z.w,some m.w,some r.w,some (.tup 'm'),some (.tup (z.op.map dW)),some (.tup (bX x z.us m)),some w,p8⁻¹,p9⁻¹,rG⁻¹] G1:=by
   intro l q hq el;have sq:vN (put G' q (.lst l)) (.ref q)=some l:=zL zM;simp only[dJ,sq,yY,tl];exact s10 _ p8 p9 rG _ (kp.trans (zK.new hq)) (by rw[yO (xU g8 hq)];exact g8) (by rw[yO (xU g9 hq)];exact g9) (by rw[yO (xU g10 hq)];exact g10) (by rw[el])
  simp only[yY,tl] at fin
  by_cases he:x.e = "last"
  .rw[he,beq_self_eq_true];simp only[if_true,wN,g8];refine ⟨⟨by decide,by decide,by rw[zzM];exact sz _ (by rw[show (1:Int).toNat=1 from rfl];omega)⟩,fun q hq=>?_⟩;have e1:(List.replicate (1:Int).toNat ((heard m r).map Sy.w)).flatten=(heard m r).map Sy.w:=by rw[show (1:Int).toNat=1 from rfl];simp
   rw[e1];exact fin _ q hq (by rw[if_pos he])
  .have hne:(x.e == "last")=false:=by simpa using he
   rw[hne];simp only[zzB,if_false,wN,g8];refine ⟨⟨by decide,by decide,by rw[show (0:Int).toNat=0 from rfl];exact sz _ 'd'⟩,fun q hq=>?_⟩;exact fin [] q hq (by rw[if_neg he])
 simp only[yY,tl] at s9
 have s8:∀ (G':Hw) (p8 p9 rG:Addr),zK [] G G'->G' p8=some (.lst ((heard m r).map Sy.w))->G' p9=some (.lst ((made m r).map dW))->G' rG=some (.lst (zs.map dW)) ->
   zI 'b' XN (tl (tl (tl (tl (tl (tl (tl yY))))))) { nx:=fun _ G'=>Q .non G',rt:=Q } [b⁻¹,some z.w,some m.w,some r.w,some (.tup 'm'),some (.tup (z.op.map dW)),some (.tup (z.us.map dW)),some (.tup (z.fr.map Sy.w)),p8⁻¹,p9⁻¹,rG⁻¹] G':=by
  intro G' p8 p9 rG kp g8 g9 g10;simp only[yY,tl];refine yX ?_
  erw[]
  refine attC (kp _ _ 'g' hb) ?_
  erw[zA,zJ]
  by_cases hc:x.c = "once"
  .rw[if_pos (by rw[hc,beq_self_eq_true])]
   cases m with
   |ans y t s =>
    simp only[Mv.w,vJ,zJ,jX,zzB,if_false];refine stk K C sA n ?_;have:=s9 G' p8 p9 rG kp g8 g9 g10;rw[zeA hc] at this;exact this
   |dbt y t =>
    simp only[Mv.w,vJ,zJ,beq_self_eq_true,if_true];refine yX ?_
    erw[e5,e19,zY,zV,xH]
    obtain ⟨u1,u2,u3,u4⟩:=zog (bs:=[(y,t)]) hz.us.2.1 (zzR _) hz.us.1 (fun d hd=>by have:=(hz.us.2.2 d hd).2;omega) (fun d hd=>by rw[zzO hd];exact ok.2);have hul:=hz.us.1;refine nM (fun w=>if (([dW (y,t)]).any fun z=>yQ z w)=true then none else some w) trivial (by rw[zzM];exact sz _ 'd') ?_ ?_
    .intro w hw K' hK;obtain ⟨d,hd,rfl⟩:=zzP hw;simp only[nT,Ze,Zj,List.replicate,zzU,zzV,Zac,ZC,Zv]
     erw[Zaj,if_true,zA,slR]
     rw[cut3];have dd:=zdc d;have hd2:=(hz.us.2.2 d hd).2;have eq:fC G' (dW d) (.tup [.str y,t.w])=some (yQ (dW d) (dW (y,t))):=zoB ⟨_,rfl⟩ (tH d) (tH (y,t)) 'd';have ec:(([dW (y,t)]).any fun z=>yQ z (dW d))=yQ (dW d) (dW (y,t)):=by rw[Zz,ZT,ZG];exact zkb (zkm _) (zkm _)
     rw[ec] at hK;rw[eq];revert hK;cases yQ (dW d) (dW (y,t))<;>simp
    .intro q hq
     erw[slR]
     rw[cut3]
     erw[zzC,zzL,zzA,Nat.reduceAdd,z1,true_and]
     intro q2 hq2;have nq:q≠q2:=by rintro rfl;rw[zM] at hq2;cases hq2
     simp only[wN,yO nq,zM];refine ⟨sz _ (by have:=Zat (fun w=>if (([dW (y,t)]).any fun z=>yQ z w)=true then none else some w) (z.us.map dW);rw[zzM] at this;simp only[Ze,Zj];omega),fun q3 hq3=>?_⟩;refine ⟨_,zL zM,zbb (b:=[dW (y,t)]) u1,fun q4 hq4=>?_⟩;have ef:=zgu (z.us.map dW) [dW (y,t)];have k2:=((((zK.new hq).trans (zK.new hq2)).trans (zK.new hq3)).trans (zK.new hq4):zK [] G' (put (put (put (put G' q (.lst 'l')) q2 (.lst [.tup [.str y,t.w]])) q3 (.lst ('l'++[.tup [.str y,t.w]]))) q4 (.lst (srt ('l'++[.tup [.str y,t.w]])))));have sq:vN (put (put (put (put G' q (.lst 'l')) q2 (.lst [.tup [.str y,t.w]])) q3 (.lst ('l'++[.tup [.str y,t.w]]))) q4 (.lst (srt ('l'++[.tup [.str y,t.w]])))) (.ref q4)=some (uni (z.us.map dW) [dW (y,t)]):=zL (by rw[zM];exact congrArg (fun l=>some (O.lst l)) ef);simp only[dJ,sq];refine stk K C sA n ?_;have:=s9 _ p8 p9 rG (kp.trans k2) (k2 _ _ 'g' g8) (k2 _ _ 'g' g9) (k2 _ _ 'g' g10);rw[zez hc] at this;exact this
  .rw[if_neg (by simpa using hc)];have hof:x.c = "often" := hx.resolve_left hc;have:=s9 G' p8 p9 rG kp g8 g9 g10;rw[zgr hc,← List.map_nil (f:=dW),← hu hof] at this;refine stk K C sA n ?_;exact this
 simp only[yY,tl] at s8
 have s7:∀ (G':Hw) (p8 p9 rG:Addr),zK [] G G'->G' p8=some (.lst ((heard m r).map Sy.w))->G' p9=some (.lst ((made m r).map dW))->G' rG=some (.lst (zf2 x z.op m)) ->
   zI 'b' XN (tl (tl (tl (tl (tl (tl yY)))))) { nx:=fun _ G'=>Q .non G',rt:=Q } [b⁻¹,some z.w,some m.w,some r.w,some (.tup 'm'),some (.tup (z.op.map dW)),some (.tup (z.us.map dW)),some (.tup (z.fr.map Sy.w)),p8⁻¹,p9⁻¹,rG⁻¹] G':=by
  intro G' p8 p9 rG kp g8 g9 g10;simp only[yY,tl];have hb':=kp _ _ 'g' hb
  have non:∀ G2:Hw,zK [] G' G2->zs.map dW=[]->zI 'b' XN {.asg 10 (.lst .nil)} { nx:=zI 'b' XN (tl (tl (tl (tl (tl (tl (tl yY))))))) { nx:=fun _ G'=>Q .non G',rt:=Q },rt:=Q } [b⁻¹,some z.w,some m.w,some r.w,some (.tup 'm'),some (.tup (z.op.map dW)),some (.tup (z.us.map dW)),some (.tup (z.fr.map Sy.w)),p8⁻¹,p9⁻¹,rG⁻¹] G2:=by
   intro G2 k2 e0;simp only[yY,tl];refine yX ?_
   erw[Zj,z0,true_and]
   intro q hq;refine stk K C sA n ?_;have k3:=k2.trans (zK.new (o:=.lst []) hq);exact s8 _ p8 p9 q (kp.trans k3) (k3 _ _ 'g' g8) (k3 _ _ 'g' g9) (by rw[zM,e0])
  simp only[yY,tl] at non;refine yX ?_
  erw[]
  refine attE hb' ?_
  erw[zA,zJ]
  by_cases he:x.e = "last"
  .rw[if_pos (by rw[he,beq_self_eq_true])];simp only[if_true];exact non G' zK.refl (by rw[← ez,mU,if_pos he])
  .rw[if_neg (by simpa using he)];refine attA hb' ?_
   erw[zA,zJ]
   by_cases ha:x.a = "last"
   .rw[if_pos (by rw[ha,beq_self_eq_true])];simp only[Zj,z0,true_and];intro q hq;have n9:put G' q (.lst []) p9=some (.lst ((made m r).map dW)):=by rw[yO (xU g9 hq)];exact g9
    have k2:zK [] G' (put G' q (.lst [])):=zK.new hq;have q2:put G' q (.lst []) q=some (.lst []):=zM;generalize put G' q (.lst [])=G2 at n9 k2 q2 ⊢;have mp:yP ((made m r).map dW)=true:=jS fun w hw=>by obtain ⟨d,_,rfl⟩:=zzP hw;exact tH d
    have eq:fC G2 (.ref p9) (.ref q)=some (jU ((made m r).map dW) []):=by
     simp only[fC,zL n9,zL q2,mp];rw[if_pos (by simp[yP,yL])]
    rw[eq]
    cases em:made m r with
    |nil =>
     simp only[zzV,jU,ZA,zzB,if_false];refine yX ?_
     erw[]
     refine attA (k2 _ _ 'g' hb') ?_
     erw[zA,zJ]
     rw[if_pos (by rw[ha,beq_self_eq_true])];refine yX ?_
     erw[e3,lstS,vN]
     intro f hf;refine stk K C sA n (stk K C sA n ?_);have k3:=k2.trans (zK.new (o:=.lst (z.op.map dW)) hf);exact s8 _ p8 p9 f (kp.trans k3) (k3 _ _ 'g' g8) (k3 _ _ 'g' g9) (by rw[zM,← ez,mU,if_neg he,if_pos ha,em];rfl)
    |cons d l =>
     simp only[zzU,jU,Zu,if_true];exact non G2 k2 (by rw[← ez,mU,if_neg he,if_pos ha,em];rfl)
   .rw[if_neg (by simpa using ha)];simp only[zzB,if_false];refine yX ?_
    erw[]
    refine attA hb' ?_
    erw[zA,zJ]
    rw[if_neg (by simpa using ha)];refine stk K C sA n (stk K C sA n ?_);exact s8 _ p8 p9 rG kp g8 g9 (by rw[g10,← ez,mU,if_neg he,if_neg ha])
 simp only[yY,tl] at s7
 have s6:∀ (G':Hw) (p8 p9 rG:Addr),zK [] G G'->G rG=none->p8≠rG->p9≠rG->G' p8=some (.lst ((heard m r).map Sy.w))->G' p9=some (.lst ((made m r).map dW))->G' rG=some (.lst (z.op.map dW)) ->
   zI 'b' XN (tl (tl (tl (tl (tl yY))))) { nx:=fun _ G'=>Q .non G',rt:=Q } [b⁻¹,some z.w,some m.w,some r.w,some (.tup 'm'),some (.tup (z.op.map dW)),some (.tup (z.us.map dW)),some (.tup (z.fr.map Sy.w)),p8⁻¹,p9⁻¹,rG⁻¹] G':=by
  intro G' p8 p9 rG kp h10 n8 n9 g8 g9 g10;simp only[yY,tl];have hb':=kp _ _ 'g' hb;have opp:yP (z.op.map dW)=true:=jS fun w hw=>by obtain ⟨d,_,rfl⟩:=zzP hw;exact tH d
  have opd:yL (z.op.map dW)<=9:=nI fun w hw=>by
   obtain ⟨d,hd,rfl⟩:=zzP hw;have:=zdc d;have:=(hz.op.2.2 d hd).2;omega
  have opn:(z.op.map dW).Nodup:=hJ (fun _ _=>zfr) hz.op.2.1;refine yX ?_
  cases m with
  |dbt y t =>
   simp only[Mv.w]
   erw[vJ,zA,zJ,wU,zzB,if_false]
   refine stk K C sA n ?_;exact s7 G' p8 p9 rG kp g8 g9 g10
  |ans y t s =>
   simp only[Mv.w]
   erw[vJ,zA,zJ,beq_self_eq_true,if_true]
   refine attB hb' ?_
   erw[zA,zJ]
   by_cases ho:x.b = "once"
   .rw[if_pos (by rw[ho,beq_self_eq_true])];simp only[bF,wP,L3.inR,zL g10,g10];have pp:pur (W.tup [.str y,t.w])=true/\yP (z.op.map dW)=true/\min (yL (z.op.map dW)) (dep (W.tup [.str y,t.w]))<=150:=⟨tH (y,t),opp,by omega⟩;refine ⟨pp,?_⟩
    cases ea:(z.op.map dW).any fun w=>yQ w (W.tup [.str y,t.w]) with
    |false =>
     simp only[zzB,if_false];refine stk K C sA n ?_;refine s7 G' p8 p9 rG kp g8 g9 ?_;rw[g10,zbT ho];exact congrArg (fun l=>some (O.lst l)) (zee ea).symm
    |true =>
     simp only[zzB,if_false,if_true];refine yX ?_
     erw[m3,bF]
     refine ⟨tyL g10,?_⟩;simp only[remS,g10];refine ⟨pp,ea,?_⟩;refine stk K C sA n (stk K C sA n ?_);have k2:zK [rG] G' (put G' rG (.lst ((z.op.map dW).eraseIdx ((z.op.map dW).findIdx fun w=>yQ w (.tup [.str y,t.w]))))):=zK.at;refine s7 _ p8 p9 rG (fun a o _ e=>k2 a o (by simpa using xU e h10) (kp a o 'g' e)) (k2 _ _ (by simpa using n8) g8) (k2 _ _ (by simpa using n9) g9) ?_;rw[zM,zbT ho];exact congrArg (fun l=>some (O.lst l)) (zc9 (zgC _) opn ea)
   .rw[if_neg (by simpa using ho)];simp only[zzB,if_false];refine stk K C sA n ?_;exact s7 G' p8 p9 rG kp g8 g9 (by rw[g10,zhL ho])
 simp only[yY,tl] at s6
 have s5:∀ (G':Hw) (p8 p9:Addr),zK [] G G'->G' p8=some (.lst ((heard m r).map Sy.w))->G' p9=some (.lst ((made m r).map dW)) ->
   zI 'b' XN (tl (tl (tl (tl yY)))) { nx:=fun _ G'=>Q .non G',rt:=Q } [b⁻¹,some z.w,some m.w,some r.w,some (.tup 'm'),some (.tup (z.op.map dW)),some (.tup (z.us.map dW)),some (.tup (z.fr.map Sy.w)),p8⁻¹,p9⁻¹,none] G':=by
  intro G' p8 p9 kp g8 g9;simp only[yY,tl];refine yX ?_
  erw[e3,lstS,vN]
  intro f hf;exact s6 _ p8 p9 f (kp.trans (zK.new hf)) (kp.none 'g' hf) (xU g8 hf) (xU g9 hf) (by rw[yO (xU g8 hf)];exact g8) (by rw[yO (xU g9 hf)];exact g9) zM
 simp only[yY,tl] at s5;show zI 'b' XN yY { nx:=fun _ G'=>Q .non G',rt:=Q } [b⁻¹,some z.w,some m.w,some r.w,none,none,none,none,none,none,none] G;simp only[yY];refine yX ?_
 erw[Sd.w]
 refine yX ?_
 erw[Zj,z0,true_and]
 intro p8 h8;have k8:zK [] G (put G p8 (.lst [])):=zK.new h8;have g8:(put G p8 (.lst [])) p8=some (.lst []):=zM;generalize put G p8 (.lst [])=G1 at k8 g8 ⊢;refine yX ?_
 erw[Zj,z0,true_and]
 intro p9 h9;have k9:zK [] G1 (put G1 p9 (.lst [])):=zK.new h9;have g9:(put G1 p9 (.lst [])) p9=some (.lst []):=zM;generalize put G1 p9 (.lst [])=G2 at k9 g9 ⊢;have g8:=k9 _ _ 'g' g8;have kp:=k8.trans k9;refine yX ?_
 cases r with
 |ans s =>
  simp only[Ry.w]
  erw[vJ,zA,zJ,beq_self_eq_true,if_true]
  refine yX ?_
  erw[bF,zzC,zzL,zzA,Nat.reduceAdd,z1,true_and]
  intro q hq;refine stk K C sA n ?_;exact s5 _ q p9 (kp.trans (zK.new hq)) zM (by rw[yO (xU g9 hq)];exact g9)
 |dbt y =>
  obtain ⟨s,es,hy⟩:=rk;have em:made m (.dbt y)=[(y,s)]:=by simp only[made,es]
  have eh:heard m (.dbt y)=if y = "if" \/ y = "not" then [nZ s] else []:=by simp only[heard,es]
  have et:wF m=s.w:=by simp only[wF,es]
  simp only[Ry.w]
  erw[vJ,zA,zJ,wU,zzB,if_false]
  refine yX ?_
  erw[bF,e26]
  refine ⟨m,rfl,ok,?_⟩;rw[et]
  erw[zzC,zzL,zzA,Nat.reduceAdd,z1,z2,true_and]
  intro q hq;have k3:=kp.trans (zK.new (o:=.lst [.tup [.str y,s.w]]) hq);have g9':(put G2 q (.lst [.tup [.str y,s.w]])) q=some (.lst ((made m (.dbt y)).map dW)):=by rw[zM,em];rfl
  have g8':(put G2 q (.lst [.tup [.str y,s.w]])) p8=some (.lst []):=by rw[yO (xU g8 hq)];exact g8
  generalize put G2 q (.lst [.tup [.str y,s.w]])=G3 at k3 g9' g8' ⊢
  have kid:∀ R:Q3,R (nZ s).w G3->kU s.w (.int 1) G3 R:=fun R hR=>by
   cases s with
   |say _=>cases hy
   |not a=>rw[Sy.w,bF];exact hR
   |and a b=>rw[Sy.w,bF];exact hR
   |or a b=>rw[Sy.w,bF];exact hR
   |ite a b=>rw[Sy.w,bF];exact hR
  have yes:(y = "if" \/ y = "not")->zI 'b' XN {.asg 8 (.lst {.ix (.call 24 {.var 2}) 1⁻¹})}
    { nx:=zI 'b' XN .nil { nx:=zI 'b' XN (tl (tl (tl (tl yY)))) { nx:=fun _ G'=>Q .non G',rt:=Q },rt:=Q },rt:=Q } [b⁻¹,some z.w,some m.w,some (.tup [.str "doubt", .str y]),some (.tup 'm'),some (.tup (z.op.map dW)),some (.tup (z.us.map dW)),some (.tup (z.fr.map Sy.w)),p8⁻¹,q⁻¹,none] G3:=fun hc=>by
   simp only[yY,tl];refine yX ?_
   erw[e26]
   refine ⟨m,rfl,ok,?_⟩;rw[et];refine kid _ ?_
   erw[zzC,zzL,zzA,Nat.reduceAdd,z1,true_and]
   intro q' hq';refine stk K C sA n (stk K C sA n ?_);exact s5 _ q' q (k3.trans (zK.new hq')) (by rw[zM,eh,if_pos hc];rfl) (by rw[yO (xU g9' hq')];exact g9')
  simp only[yY,tl] at yes;refine yX ?_
  erw[bF,zA,zJ]
  cases c1:(y == "if") with
  |true =>
   simp only[if_true];exact yes (.inl (by simpa using c1))
  |false =>
   simp only[zzB,if_false,bF,zJ]
   cases c2:(y == "not") with
   |true =>
    simp only[if_true];exact yes (.inr (by simpa using c2))
   |false =>
    simp only[zzB,if_false];refine stk K C sA n (stk K C sA n ?_);have hc:¬ (y = "if" \/ y = "not"):=fun e=>e.elim (fun e=>by rw[e,beq_self_eq_true] at c1;cases c1) (fun e=>by rw[e,beq_self_eq_true] at c2;cases c2);exact s5 _ p8 q k3 (by rw[g8',eh,if_neg hc];rfl) g9'
end
theorem zgs {α:Type} {φ:α->W} {P:α->Prop}:∀ {ws:List W},(∀ w∈ws,∃ a,w=φ a/\P a)->∃ as:List α,ws=as.map φ/\∀ a∈as,P a
 | [],_=>⟨[],rfl,fun _ h=>nomatch h⟩
 |w::ws,h=>by
  obtain ⟨a,rfl,ha⟩:=h w zzT;obtain ⟨as,rfl,has⟩:=zgs (ws:=ws) fun v hv=>h v (Zd _ hv);refine ⟨a::as,rfl,fun b hb=>?_⟩;rcases Zk.mp hb with rfl|hb
  .exact ha
  .exact has b hb
theorem zjr {x:Bk} {z:Sd} (h:z.ok):∀ m∈pre x z,m.big 8/\m.ok:=by
 intro m hm;rcases Zm.mp hm with hm|hm
 .obtain ⟨d,hd,hm⟩:=ZaF.mp hm;obtain ⟨s,hs,rfl⟩:=zzP hm;have h1:=(h.op.2.2 d hd).2;have h2:=(qJ d.1 d.2).2.2 s (ZX.mp hs).1;exact ⟨⟨by omega,by omega⟩,by omega,by omega⟩
 .obtain ⟨s,hs,hm⟩:=ZaF.mp hm;obtain ⟨y,hy,rfl⟩:=zzP hm;have:=(vX h).2.2 s hs;exact ⟨this,(ZX.mp hy).1,by omega⟩
theorem zbG {x:Bk} {z:Sd} (h:z.ok):∃ ms:List Mv,mvs x z=ms.map Mv.w/\∀ m∈ms,m.big 8/\m.ok:=by
 refine zgs fun w hw=>?_;obtain ⟨m,hm,e⟩:=zzP ((xR _).mem_iff.mp hw);exact ⟨m,e.symm,zjr h m hm⟩
theorem zm3 {m:Mv} (h:m.big 8) {s:Sy} (e:wZ m=some s):s.size<=8:=by
 cases m with
 |ans x t u=>cases e;exact h.2
 |dbt x t =>
  simp only[wZ] at e
  split at e
  .cases e;exact Zb (sB t) h
  .cases e
theorem zjL {m:Mv} {r:Ry} (h:m.big 8):∀ d∈made m r,d.2.size<=8:=by
 cases r with
 |ans s=>exact fun d hd=>nomatch hd
 |dbt x =>
  intro d hd
  cases e:wZ m with
  |none=>simp only[made,e] at hd;cases hd
  |some s =>
   simp only[made,e] at hd;rw[zzO hd];exact zm3 h e
theorem zi2 {t:Sy} (h:t.size<=8):(zgG t).ok:=⟨mD,⟨by show 1<=17;decide,zhx _,fun d hd=>by rw[zzO hd];exact ⟨.inr rfl,h⟩⟩,zay,mD,.nil,ZY _ _,.nil⟩
theorem extL {G:Hw} {p r:Addr} {l l':List W} {Q:Q3} (e:G p=some (.lst l)) (e':G r=some (.lst l')) (hl:l.length+l'.length<=3000) (h:Q .non (put G p (.lst (l++l')))):extS (.ref p) [.ref r] G Q:=⟨l,l',e,zL e',sz _ hl,h⟩
theorem zlW {a b:Sy} {us:List W} (su:qA us=true) (pu:xB us) (hm:∀ w,w∈us↔w∈[a.w,b.w]):us=once a b:=by
 have ss:qA [a.w,b.w]=true:=zcc [a,b]
 have cn:Can [a.w,b.w]:=fun x hx y hy=>by
  obtain ⟨s,_,rfl⟩:=zzP (show x∈[a,b].map Sy.w from hx);obtain ⟨t,_,rfl⟩:=zzP (show y∈[a,b].map Sy.w from hy);exact Sy.lt s t
 have pm:=xR [a.w,b.w];have up:=zgJ ss cn;obtain ⟨vs,ev,lv,_⟩:=zdw [a,b]
 obtain ⟨x,y,rfl⟩:∃ x y,vs=[x,y]:=by
  match vs,lv with
  | [x,y],_=>exact ⟨x,y,rfl⟩
 have ev:srt [a.w,b.w]=[x.w,y.w]:=ev;rw[ev] at pm up;have eo:once a b=rO [x.w,y.w]:=by unfold once;rw[ev]
 have hm':∀ w,w∈us↔w∈[x.w,y.w]:=fun w=>(hm w).trans pm.mem_iff.symm;rw[eo]
 cases q:yQ x.w y.w with
 |true =>
  have e:y=x:=(Sy.eqw x y q).symm;rw[show rO [x.w,y.w]=[x.w] by simp[rO,q]];rw[e] at hm';exact only su (zcc [x]) pu (ZY _ _) fun w=>(hm' w).trans 'g'
 |false =>
  rw[show rO [x.w,y.w]=[x.w,y.w] by simp[rO,q]];refine only su (zcc [x,y]) pu ?_ hm';have h:=(Za3.mp up).1 y.w 'g';rcases sT y.st x.st (Sy.lt y x) h with e|e
  .rw[e,zi4 x.st] at q;cases q
  .exact Za3.mpr ⟨fun w hw=>by rw[zzO hw];exact e,ZY _ _⟩
section
variable {K:yI} {C sA:Addr}
theorem zji {n:Nat} (hn:35<=n) {ws:List W} {G:Hw} {Q:Q3} (h:sO ws G Q XN):zI 'b' XN uK { nx:=fun _ G'=>Q .non G',rt:=Q } (yT zbA ws) G:=by
 obtain ⟨m,rfl,ok,h⟩:=h;have e5:'b'.fn[6]?=some eSrt:=fnAt 6 'd' rfl;have e12:'b'.fn[30]?=some ⟨"doubts_of", kY⟩:=fnAt 30 'd' rfl;have e17:'b'.fn[27]?=some ⟨"answers_to", mV⟩:=fnAt 27 'd' rfl;have e19:'b'.fn[34]?=some ⟨"told_by", qD⟩:=fnAt 34 'd' rfl;have t3:'b'.mt[4]?=some eExt:=rfl;have z0:=sz 0 'c';have z2:=sz 2 'c';obtain ⟨_,la,lb⟩:=dD ok;show zI 'b' XN uK { nx:=fun _ G'=>Q .non G',rt:=Q } [some m.w,none,none] G;simp only[uK];refine yX ?_
 erw[e19]
 refine ⟨m,rfl,ok,?_⟩;refine yX ?_
 erw[Zj,z0,true_and]
 intro p hp;have k1:zK [] G (put G p (.lst [])):=zK.new hp;have g1:(put G p (.lst [])) p=some (.lst []):=zM;generalize put G p (.lst [])=G1 at k1 g1 ⊢
 have go:∀ G2:Hw,zK [] G G2->G2 p=some (.lst (sM m))->zI 'b' XN (tl (tl (tl uK))) { nx:=fun _ G'=>Q .non G',rt:=Q } [some m.w,some (wF m),p⁻¹] G2:=by
  intro G2 k2 g2;simp only[uK,tl];refine yX ?_
  erw[zA,e17]
  cases m with
  |ans x t s =>
   simp only[Mv.w,vJ,zJ,jX,zzB,if_false];refine xT (Γ:=yW K C sA n) (E:=XN) ?_;refine yX ?_
   erw[e5]
   exact fW ok h k2 (by rw[g2];simp[preB])
  |dbt x t =>
   simp only[Mv.w,vJ,zJ,beq_self_eq_true,if_true];refine yX ?_
   erw[e17,t3,zY,zV,slR]
   refine ⟨tyL g2,?_⟩;rw[cut3];refine ⟨t,x,rfl,.inl ok.1,ok.2,fun r G3 k3 hr g3=>?_⟩;simp only[xH,zL g3];refine zfd (fun a=>.tup [.str "answer", a]) (zL g3) (by have:=lb;simp only[preB,zzM] at this;exact sz _ 'd') ?_ ?_
   .intro w hw K' hK;simp only[nT,Ze,Zj,List.replicate,zzV,Zv]
    erw[zzC,zzL,zzA,Nat.reduceAdd,z2,true_and,if_true]
    exact hK
   .intro r2 hr2
    have g2':(put G3 r2 (.lst ((ans x t).map fun a=>.tup [.str "answer", a]))) p=some (.lst (sM (.dbt x t))):=by
     rw[yO (xU (k3 _ _ 'g' g2) hr2)];exact k3 _ _ 'g' g2
    refine extL g2' zM (by show _+(preB (.dbt x t)).length<=3000;omega) ?_;refine xT (Γ:=yW K C sA n) (E:=XN) ?_;refine yX ?_
    erw[e5]
    exact fW (p:=p) ok h (qO ((k2.trans k3).trans (zK.new hr2)) hp) zM
 simp only[uK,tl] at go;refine yX ?_
 erw[zA,e12,t3]
 cases e:wZ m with
 |none =>
  have ew:wF m=.non:=by simp only[wF,e]
  have ea:sM m=[]:=by simp only[sM,e]
  rw[ew] at go ⊢;simp only[cH,if_true,zzB,if_false];refine xT (Γ:=yW K C sA n) (E:=XN) ?_;exact go G1 k1 (by rw[ea];exact g1)
 |some s =>
  have ew:wF m=s.w:=by simp only[wF,e]
  have ea:sM m=(rE s).map fun w=>.tup [.str "doubt", w]:=by simp only[sM,e]
  rw[ew] at go ⊢;rw[zhW];simp only[if_true];refine yX ?_
  erw[e12,t3,zY,zV]
  refine ⟨tyL g1,s,rfl,fun r G3 k3 hr g3=>?_⟩;simp only[xH,zL g3];have la':(rE s).length<=2:=by rw[ea,zzM] at la;exact la
  refine zfd (fun w=>.tup [.str "doubt", w]) (zL g3) (sz _ 'd') ?_ ?_
  .intro w hw K' hK;simp only[nT,Ze,Zj,List.replicate,zzV,Zv]
   erw[zzC,zzL,zzA,Nat.reduceAdd,z2,true_and,if_true]
   exact hK
  .intro r2 hr2
   have g1':(put G3 r2 (.lst ((rE s).map fun w=>.tup [.str "doubt", w]))) p=some (.lst []):=by
    rw[yO (xU (k3 _ _ 'g' g1) hr2)];exact k3 _ _ 'g' g1
   refine extL g1' zM (by rw[zzM];simp;omega) ?_;refine xT (Γ:=yW K C sA n) (E:=XN) ?_;exact go _ (qO ((k1.trans k3).trans (zK.new hr2)) hp) (by rw[zM,ea];rfl)
theorem zmT {n:Nat} (hn:27<=n) {ws:List W} {G:Hw} {Q:Q3} (h:mV ws G Q XN):zI 'b' XN xO { nx:=fun _ G'=>Q .non G',rt:=Q } (yT pN ws) G:=by
 obtain ⟨t,x,rfl,ok,hs,h⟩:=h;have e16:'b'.fn[26]?=some ⟨"sorted_once", zeJ⟩:=vW 26 hn rfl;have z0:=sz 0 'c';have z1:=sz 1 'c';have z2:=sz 2 'c';show zI 'b' XN xO { nx:=fun _ G'=>Q .non G',rt:=Q } [some (.tup [.str x,t.w]),none,none] G;revert hs h;refine zcL (P:=fun x t=>t.size<=21->Fr (ans x t) G Q->zI 'b' XN xO { nx:=fun _ G'=>Q .non G',rt:=Q } [some (.tup [.str x,t.w]),none,none] G) ok ?_ ?_ ?_ ?_ ?_ ?_
 .intro t hs h;rw[zdu] at h;simp only[xO]
  repeat (refine yX ?_;erw[zA,wP,L3.inR,zJ,beq_self_eq_true,qs,zzB,if_false,if_true,zzL,zzC,zzA,Nat.reduceAdd,true_and,Zz,ZT,jQ,ZG,ZD,ZZ,ZO,pur,yP,dep,yL,ZM,Z0,ZU,Zg,and_self,z0,z1,z2];try refine xT (Γ:=yW K C sA n) (E:=XN) ?_)
  exact h.of
 .intro a hs h;rw[ziK] at h;simp only[xO]
  repeat (refine yX ?_;erw[zA,wP,L3.inR,zJ,beq_self_eq_true,qs,zzB,if_false,if_true,zzL,zzC,zzA,Nat.reduceAdd,true_and,Zz,ZT,jQ,ZG,ZD,ZZ,ZO,pur,yP,dep,yL,ZM,Z0,ZU,Zg,and_self,z0,z1,z2];try refine xT (Γ:=yW K C sA n) (E:=XN) ?_)
  exact h.of
 .intro a b hs h;rw[zfw] at h;simp only[xO]
  repeat (refine yX ?_;erw[zA,wP,L3.inR,zJ,beq_self_eq_true,qs,zzB,if_false,if_true,zzL,zzC,zzA,Nat.reduceAdd,true_and,Zz,ZT,jQ,ZG,ZD,ZZ,ZO,pur,yP,dep,yL,ZM,Z0,ZU,Zg,and_self,z0,z1,z2,Sy.w,kU,vC];try refine xT (Γ:=yW K C sA n) (E:=XN) ?_)
  exact h.of
 .intro a b hs h;rw[zdt] at h;simp only[xO]
  repeat (refine yX ?_;erw[zA,wP,L3.inR,zJ,beq_self_eq_true,qs,zzB,if_false,if_true,zzL,zzC,zzA,Nat.reduceAdd,true_and,Zz,ZT,jQ,ZG,ZD,ZZ,ZO,pur,yP,dep,yL,ZM,Z0,ZU,Zg,and_self,z0,z1,z2,Sy.w,kU,at_2];try refine xT (Γ:=yW K C sA n) (E:=XN) ?_)
  exact h.of
 .intro a b hs h;rw[zds] at h;simp only[xO]
  repeat (refine yX ?_;erw[zA,wP,L3.inR,zJ,beq_self_eq_true,qs,zzB,if_false,if_true,zzL,zzC,zzA,Nat.reduceAdd,true_and,Zz,ZT,jQ,ZG,ZD,ZZ,ZO,pur,yP,dep,yL,ZM,Z0,ZU,Zg,and_self,z0,z1,z2,Sy.w,slR,e16];try refine xT (Γ:=yW K C sA n) (E:=XN) ?_)
  rw[cut3];simp only[Sy.size] at hs;exact ⟨[a.w,b.w],rfl,srtb (ts:=[a,b]) (by show 2<64;decide) (by simp;omega),zcc [a,b],fun us su pu hm _=>by rw[zlW su pu hm];exact h⟩
 .intro a b hs h;rw[zlc] at h;simp only[xO]
  repeat (refine yX ?_;erw[zA,wP,L3.inR,zJ,beq_self_eq_true,qs,zzB,if_false,if_true,zzL,zzC,zzA,Nat.reduceAdd,true_and,Zz,ZT,jQ,ZG,ZD,ZZ,ZO,pur,yP,dep,yL,ZM,Z0,ZU,Zg,and_self,z0,z1,z2,Sy.w,kU,at_2];try refine xT (Γ:=yW K C sA n) (E:=XN) ?_)
  exact h.of
end
theorem zeB {α:Type} {φ:α->W} (inj:∀ a b,φ a=φ b->a=b) (hst:∀ a,L3.st (φ a)=true) (hlt:∀ a b,(tY (φ a) (φ b)).isSome=true) {as bs:List α} (na:as.Nodup) (nb:bs.Nodup) :
  ∃ zs:List α,uni (as.map φ) (bs.map φ)=zs.map φ/\zs.Nodup/\xB (zs.map φ)/\zs.length<=as.length+bs.length/\∀ z∈zs,z∈as\/z∈bs:=by
 have sm:∀ l:List α,qA (l.map φ)=true:=fun l=>mF fun w hw=>by obtain ⟨a,_,rfl⟩:=zzP hw;exact hst a
 have cm:Can (as.map φ++bs.map φ):=fun x hx y hy=>by
  rw[← ZW] at hx hy;obtain ⟨a,_,rfl⟩:=zzP hx;obtain ⟨b,_,rfl⟩:=zzP hy;exact hlt a b
 have um:=zgt (a:=as.map φ) (sm bs)
 have st:xB (uni (as.map φ) (bs.map φ)):=by
  refine zaw (mF fun w hw=>?_) (cm.sub fun x hx=>(um x).mp hx) (zmZ (sm bs) (hJ inj na) (hJ inj nb));have:=(um w).mp hw;rw[← ZW] at this;exact xX (sm _) this
 obtain ⟨zs,e,hz⟩:=zkw (φ:=φ) (ts:=as++bs) (ws:=uni (as.map φ) (bs.map φ)) fun w hw=>by rw[ZW];exact (ziT (sm bs) w).mp hw
 rw[e] at st;refine ⟨zs,e,nd_of (zce (sm zs) st),st,?_,fun z h=>Zm.mp (hz z h)⟩;have hl:(uni (as.map φ) (bs.map φ)).length=zs.length:=by rw[e,zzM]
 rw[← hl,show (uni (as.map φ) (bs.map φ)).length=_ from (xR _).length_eq,zzW];have:=ZL (fun w=>!((bs.map φ).any fun z=>yQ z w)) (as.map φ);rw[zzM] at this;rw[zzM];omega
theorem zm0 {as bs:List (Str×Sy)} (na:as.Nodup) (nb:bs.Nodup):∃ zs:List (Str×Sy),uni (as.map dW) (bs.map dW)=zs.map dW/\zs.Nodup/\xB (zs.map dW)/\zs.length<=as.length+bs.length/\∀ z∈zs,z∈as\/z∈bs:=zeB (fun _ _=>zfr) zkm zkn na nb
theorem uni_S {as bs:List Sy} (na:as.Nodup) (nb:bs.Nodup):∃ zs:List Sy,uni (as.map Sy.w) (bs.map Sy.w)=zs.map Sy.w/\zs.Nodup/\xB (zs.map Sy.w)/\zs.length<=as.length+bs.length/\∀ z∈zs,z∈as\/z∈bs:=zeB (fun _ _=>Sy.inj) Sy.st Sy.lt na nb
theorem gB {l:List W} (h:l.length<=1):xB l:=by
 match l,h with
 | [],_=>exact .nil
 | [a],_=>exact ZY _ _
theorem zl3 {m:Mv} {r:Ry} (rk:r.ok m) (hb:m.big 8):∀ d∈made m r,okD d.1 d.2/\d.2.size<=8:=by
 intro d hd;refine ⟨?_,zjL hb d hd⟩
 cases r with
 |ans s=>cases hd
 |dbt x =>
  obtain ⟨s,es,hx⟩:=rk;simp only[made,es] at hd;rw[zzO hd];exact .inl hx
def Nx (x:Bk) (z z':Sd):Prop:=z'.ok/\(x.c = "often" -> z'.us=[])/\z'.sd.length<=z.sd.length+1/\z'.op.length<=z.op.length+1/\z'.us.length<=z.us.length+1
theorem zlZ {x:Bk} {z:Sd} {m:Mv} {r:Ry} (hx:x.ok) (hz:z.ok) (hu:x.c = "often" -> z.us=[]) (hb:m.big 8) (ok:m.ok) (rk:r.ok m) (hh:∀ s∈heard m r,s.size<=8) (l1:z.sd.length<8) (l2:z.op.length<17) (l3:z.us.length<17):∃ z':Sd,resW x z m r=z'.w/\Nx x z z':=by
 obtain ⟨hh1,_⟩:=bD ok rk;obtain ⟨hm1,_⟩:=zaN ok rk;have mko:=zl3 rk hb;obtain ⟨sd,e1,n1,s1,c1,i1⟩:=uni_S hz.sd.2.1 (tB hh1)
 have two:∃ op:List (Str×Sy),bV x z.op m (made m r)=op.map dW/\tM op/\xB (op.map dW)/\op.length<=z.op.length+1:=by
  have mk:tM (made m r):=⟨by omega,tB hm1,mko⟩;unfold bV
  split
  .exact ⟨_,rfl,mk,gB (by rw[zzM];exact hm1),by omega⟩
  .split
   .split
    .exact ⟨_,rfl,hz.op,hz.s2,by omega⟩
    .exact ⟨_,rfl,mk,gB (by rw[zzM];exact hm1),by omega⟩
   .obtain ⟨zs,ez,sb⟩:=zc0 x z.op m;rw[ez];have sl:=sb.length_le;obtain ⟨op,e2,n2,s2,c2,i2⟩:=zm0 (sb.nodup hz.op.2.1) (tB hm1);refine ⟨op,e2,⟨by omega,n2,fun d hd=>?_⟩,s2,by omega⟩;rcases i2 d hd with h|h
    .exact hz.op.2.2 d (sb.subset h)
    .exact mko d h
 have three:∃ us:List (Str×Sy),bX x z.us m=us.map dW/\tM us/\xB (us.map dW)/\us.length<=z.us.length+1/\(x.c = "often" -> us=[]):=by
  have n1:¬ (("often" : Str) = "once"):=by decide +kernel
  by_cases hc:x.c = "once"
  .have no:x.c = "often" -> False:=fun e=>n1 (e▸hc)
   cases m with
   |ans y t s=>rw[zeA hc];exact ⟨_,rfl,hz.us,hz.s3,by omega,fun e=>(no e).elim⟩
   |dbt y t =>
    rw[zez hc];obtain ⟨us,e3,n3,s3,c3,i3⟩:=zm0 (bs:=[(y,t)]) hz.us.2.1 (zhx _);have c3:us.length<=z.us.length+1:=c3;refine ⟨us,e3,⟨by omega,n3,fun d hd=>?_⟩,s3,c3,fun e=>(no e).elim⟩;rcases i3 d hd with h|h
    .exact hz.us.2.2 d h
    .rw[zzO h];exact ⟨.inl ok.1,hb⟩
  .rw[zgr hc];exact ⟨[],rfl,zay,.nil,Zg _,fun _=>rfl⟩
 obtain ⟨op,e2,p2,s2,c2⟩:=two;obtain ⟨us,e3,p3,s3,c3,u3⟩:=three
 have p1:vT sd:=⟨by omega,n1,fun s hs=>by
  rcases i1 s hs with h|h
  .exact hz.sd.2.2 s h
  .exact hh s h⟩
 have hfr:∃ fr:List Sy,(if x.e = "last" then (heard m r).map Sy.w else [])=fr.map Sy.w/\vT fr:=by
  split
  .exact ⟨_,rfl,by omega,tB hh1,hh⟩
  .exact ⟨[],rfl,mD⟩
 obtain ⟨fr,e4,p4⟩:=hfr;refine ⟨⟨sd,op,us,fr⟩,?_,⟨p1,p2,p3,p4,s1,s2,s3⟩,u3,by show sd.length<=_;omega,c2,c3⟩;unfold resW;rw[e1,e2,e3,e4];rfl
theorem zfH {m:Mv} (ok:m.ok) (hb:m.big 8):∃ rs:List Ry,repl m=rs.map Ry.w/\∀ r∈rs,r.ok m/\∀ s∈heard m r,s.size<=8:=by
 refine zgs fun w hw=>?_;rcases Zm.mp ((xR _).mem_iff.mp hw) with hw|hw
 .unfold sM at hw
  split at hw
  .rename_i s e;obtain ⟨v,hv,rfl⟩:=zzP hw;obtain ⟨x,hx,rfl⟩:=zzP hv;refine ⟨.dbt x,rfl,⟨s,e,hx⟩,fun u hu=>?_⟩;have em:heard m (.dbt x)=if x = "if" \/ x = "not" then [nZ s] else []:=by simp only[heard,e]
   rw[em] at hu
   split at hu
   .rw[zzO hu];exact Zb (sB s) (zm3 hb e)
   .cases hu
  .cases hw
 .cases m with
  |ans x t u=>cases hw
  |dbt x t =>
   obtain ⟨v,hv,rfl⟩:=zzP (show w∈(ans x t).map _ from hw);obtain ⟨us,e,_,hs⟩:=dP (x:=x) (t:=t);rw[e] at hv;obtain ⟨u,hu,rfl⟩:=zzP hv;refine ⟨.ans u,rfl,Zb (hs u hu) ok.2,fun s h=>?_⟩;rw[zzO (show s∈[u] from h)];exact Zb (hs u hu) hb
theorem zhz {x:Bk} {z:Sd} (h:z.ok):(mvs x z).length<=50:=by
 rw[show (mvs x z).length=_ from (xR _).length_eq,zzM];exact zdU h
theorem zef {G:Hw} {p q:Addr} {l:List W} (gp:G p=some (.lst l)) (gq:G q=some (.lst [])) (hp:yP l=true):fC G (.ref p) (.ref q)=some l.isEmpty:=by
 simp only[fC,zL gp,zL gq,hp];rw[if_pos (by simp[yP,yL])];cases l<;>rfl
theorem zg6 {m:Mv} (ok:m.ok):yP (repl m)=true:=by
 obtain ⟨h,_,_⟩:=dD ok;exact jS fun w hw=>(h w ((xR _).mem_iff.mp hw)).pur
theorem zeV {m:Mv} (ok:m.ok):(repl m).length<=4:=by
 obtain ⟨_,l1,l2⟩:=dD ok;rw[show (repl m).length=_ from (xR _).length_eq,zzW];omega
theorem nY {α:Type} {xs:List α} {φ:α->W} (p:α->Bool) {G1:Hw} (S:qX->Prop) {stab:Hw->Prop} {D:End3} {σ:qX} {turn:W->End3->qX->Hw->Prop}
  (hs:S σ) (stb:∀ G',zK [] G1 G'->stab G')
  (ht:∀ x∈xs,∀ σ' G',S σ'->zK [] G1 G'->∀ D':End3,D'.rt=D.rt->(p x=false->∀ σ2 G2,S σ2->zK [] G1 G2->D'.nx σ2 G2)->(p x=true->xs.find? p=some x)->turn (φ x) D' σ' G')
  (hq:xs.find? p=none->∀ σ' G',S σ'->zK [] G1 G'->D.nx σ' G'):forR (xs.map φ) stab D σ G1 turn:=by
 refine ⟨fun i σ' G'=>S σ'/\zK [] G1 G'/\(xs.take i).find? p=none,⟨hs,zK.refl,rfl⟩,fun i σ' G' h _=>stb G' h.2.1,?_,?_⟩
 .rintro i w σ' G' hw ⟨h1,h2,h3⟩;rw[Zx] at hw;obtain ⟨x,hx,rfl⟩:=ZF.mp hw;have hi:i<xs.length:=(Zl.mp hx).1;have e:xs[i]=x:=(Zl.mp hx).2;have hd:xs.drop i=x::xs.drop (i+1):=by rw[ZaQ hi,e]
  refine ht x (Zo hx) σ' G' h1 h2 _ rfl (fun hp σ2 G2 s2 k2=>⟨s2,k2,?_⟩) (fun hp=>?_)
  .rw[ZJ hi,e,List.find?_append,h3];simp[hp]
  .rw[← List.take_append_drop i xs,List.find?_append,h3,hd];simp[hp]
 .rintro σ' G' ⟨h1,h2,h3⟩;rw[zzM,ZaG] at h3;exact hq h3 σ' G' h1 h2
theorem zc5 {xs:List W} (p:W->Bool) {G1:Hw} (S:qX->Prop) {stab:Hw->Prop} {D:End3} {σ:qX} {turn:W->End3->qX->Hw->Prop}
  (hs:S σ) (stb:∀ G',zK [] G1 G'->stab G')
  (ht:∀ x∈xs,∀ σ' G',S σ'->zK [] G1 G'->∀ D':End3,D'.rt=D.rt->(p x=false->∀ σ2 G2,S σ2->zK [] G1 G2->D'.nx σ2 G2)->(p x=true->xs.find? p=some x)->turn x D' σ' G')
  (hq:xs.find? p=none->∀ σ' G',S σ'->zK [] G1 G'->D.nx σ' G'):forR xs stab D σ G1 turn:=by
 have:=nY (φ:=id) p S hs stb ht hq
 rwa[List.map_id] at this
theorem znA {w:W} (h:pur w=true) (p:Addr):w≠.ref p:=fun e=>by rw[e] at h;cases h
theorem eqA {x y:W} {G:Hw} (hx:pur x=true) (hy:pur y=true) (hd:dep x<=100):fC G x y=some (yQ x y):=eqP hx hy hd (znA hx)
theorem at_l2 {a b:W}:rQ [a,b] (-1)=some b:=by rfl
theorem at_l3 {a b c:W}:rQ [a,b,c] (-1)=some c:=by rfl
theorem ixl2 {a b:W} {G:Hw} {Q:Q3}:kU (.tup [a,b]) (.int (-1)) G Q=Q b G:=by simp only[kU,at_l2]
theorem ixl3 {a b c:W} {G:Hw} {Q:Q3}:kU (.tup [a,b,c]) (.int (-1)) G Q=Q c G:=by simp only[kU,at_l3]
theorem zkF (e:Dd):pur e.w=true:=by cases e<;>simp[Dd.w,pur,yP,vS]
theorem zgE {w:W} (h:Step w) (p:pur w=true) (d:dep w<=40):(∀ G Q,kU w (.int 0) G Q=Q (.str (fG w)) G)/\(∀ G Q,kU w (.int (-1)) G Q=Q (zhO w) G)/\pur (zhO w)=true/\dep (zhO w)<=100/\∃ l,w=.tup l:=by
 rcases h with ⟨x,a,rfl⟩|⟨x,a,b,rfl⟩
 .refine ⟨fun G Q=>vJ,fun G Q=>ixl2,?_,?_,_,rfl⟩
  .show pur a=true;simpa[pur,yP] using p
  .show dep a<=100;simp only[dep,yL] at d;omega
 .have p':pur a=true/\pur b=true:=by simpa[pur,yP] using p
  refine ⟨fun G Q=>vJ,fun G Q=>ixl3,p'.2,?_,_,rfl⟩;show dep b<=100;simp only[dep,yL] at d;omega
section
variable {K:yI} {C sA:Addr}
theorem zkf {n:Nat} {ws:List W} {G:Hw} {Q:Q3} (h:zeK ws G Q XN):zI 'b' XN dQ { nx:=fun _ G'=>Q .non G',rt:=Q } (yT zbE ws) G:=by
 obtain ⟨e,w,rfl,eo,hw,pw,dw,nm,h⟩:=h;have H:=h G zK.refl;obtain ⟨s0,s1,s2,s3,_⟩:=zgE hw pw dw;have q1:(("doubt" : Str) == "answer")=false:=by decide +kernel
 show zI 'b' XN dQ { nx:=fun _ G'=>Q .non G',rt:=Q } [some e.w,some w] G;simp only[dQ];refine yX ?_;have pe:=zkF e
 have oth:zI 'b' XN {.ret (.cmp .Eq (.var 1) 'h')} { nx:=fun _ G'=>Q .non G',rt:=Q } [some e.w,some w] G\/∃ s,e=.ans s:=by
  cases e with
  |ans s=>exact .inr ⟨s,rfl⟩
  |mov i=>exact absurd rfl (nm i)
  |_ =>
   refine .inl ?_;refine yX ?_
   erw[zA,eqA pw pe (Zb dw 'c')]
   exact H
 cases e with
 |ans s =>
  erw[Dd.w,vJ,zA,zJ,beq_self_eq_true,if_true]
  refine yX ?_
  erw[Dd.w,s0,s1,bF,zA,zJ,eqA s2 (vS s) s3]
  cases hx:(fG w==("answer" : Str)) with
  |false =>
   simp only[zzB,if_false];simpa[done,hx] using H
  |true =>
   simp only[if_true];simpa[done,hx] using H
 |mov i=>exact absurd rfl (nm i)
 |dbt x s =>
  erw[Dd.w,vJ,zA,zJ,q1,zzB,if_false]
  refine xT ?_;exact oth.resolve_right (fun z=>by obtain ⟨s,z⟩:=z;cases z)
 |dbw x =>
  erw[Dd.w,vJ,zA,zJ,q1,zzB,if_false]
  refine xT ?_;exact oth.resolve_right (fun z=>by obtain ⟨s,z⟩:=z;cases z)
end
theorem zla {ys:List W} {i:Int} (h:ys≠[]):rQ ys (i % (ys.length:Int))=some (ys.getD (i % (ys.length:Int)).toNat .non):=by
 have pos:0<ys.length:=Z2.mpr h;have h0:=ZbW i (b:=(ys.length:Int)) 'd';have h1:=Zby i (b:=(ys.length:Int)) 'd';unfold rQ ixN;rw[if_pos h0,if_pos h1];show ys[(i % (ys.length:Int)).toNat]?=_;have hi:(i % (ys.length:Int)).toNat<ys.length:=by omega
 rw[Z1,Zf hi];rfl
theorem mB {ys:List W} {i:Int} (h:ys≠[]):played (.mov i) ys=ys.getD (i % (ys.length:Int)).toNat .non:=by
 cases ys with
 |nil=>exact absurd rfl h
 |cons y r=>rfl
theorem uQ {e:Dd} (nm:∀ i,e≠.mov i) (ys:List W):played e ys=(ys.find? (done e)).getD .non:=by
 cases e with
 |mov i=>exact absurd rfl (nm i)
 |_=>rfl
theorem zaC (e:Dd):played e []=.non:=by cases e<;>rfl
theorem sel {e:Dd}:(∃ i,e=.mov i)\/∀ i,e≠.mov i:=by
 cases e with
 |mov i=>exact .inl ⟨i,rfl⟩
 |_=>exact .inr fun i h=>by cases h
theorem zfj {ys:List W} {p:W->Bool} {w:W} (h:ys.find? p=some w):(ys.find? p).getD .non=w:=by rw[h];rfl
theorem zmJ {e:Dd} (nm:∀ i,e≠.mov i) {G:Hw} {Q:Q3}:kU e.w (.int 0) G Q=Q (.str (fG e.w)) G:=by
 cases e with
 |mov i=>exact absurd rfl (nm i)
 |_=>exact vJ
theorem zoI {e:Dd} (nm:∀ i,e≠.mov i):(fG e.w==("move" : Str))=false:=by
 cases e with
 |mov i=>exact absurd rfl (nm i)
 |_=>rfl
theorem zoH {e:Dd} {x:W} (nm:∀ i,e≠.mov i):(∃ s:Sy,(∀ G Q,kU e.w (.int 1) G Q=Q s.w G)/\(fG e.w==("answer" : Str))=true/\done e x=(fG x==("answer" : Str)&&yQ (zhO x) s.w))\/((fG e.w==("answer" : Str))=false/\done e x=yQ x e.w):=by
 cases e with
 |mov i=>exact absurd rfl (nm i)
 |ans s=>exact .inl ⟨s,fun G Q=>bF,rfl,rfl⟩
 |_=>exact .inr ⟨rfl,rfl⟩
theorem zmG {e:Dd} {x:W} (h:Step x) (q:yQ x e.w=true):done e x=true:=by
 cases e with
 |ans s =>
  rcases h with ⟨y,a,rfl⟩|⟨y,a,b,rfl⟩
  .simp only[Dd.w,yQ,jU,Bool.and_true] at q;exact q
  .simp[Dd.w,yQ,jU] at q
 |_=>exact q
section
variable {K:yI} {C sA:Addr}
theorem zfQ {n:Nat} (hn:37<=n) {ws:List W} {G:Hw} {Q:Q3} (h:kO ws G Q XN):zI 'b' XN rY { nx:=fun _ G'=>Q .non G',rt:=Q } (yT hW ws) G:=by
 obtain ⟨e,p,ys,rfl,eo,gp,hy,h⟩:=h;have e1:'b'.fn[1]?=some eLen:=vW 1 hn rfl;have e36:'b'.fn[36]?=some ⟨"is_done", zeK⟩:=vW 36 hn rfl;have few:=hy.few;show zI 'b' XN rY { nx:=fun _ G'=>Q .non G',rt:=Q } [some e.w,p⁻¹,none] G;simp only[rY];refine yX ?_
 erw[rB,gp]
 by_cases hn0:ys=[]
 .subst hn0;simp only[Zah,ZA,Zu,if_true];refine yX ?_
  erw[]
  have:=h G zK.refl;rw[zaC] at this;exact this
 have he:ys.isEmpty=false:=by simpa using hn0
 simp only[he,Zu,ZA,zzB,if_false];refine xT ?_;refine yX ?_;rcases sel (e:=e) with ⟨i,rfl⟩|nm
 ·erw[Dd.w,vJ,zA,zJ,beq_self_eq_true,if_true]
  refine yX ?_
  erw[Dd.w,bF,e1,gM,gN,gp,wN]
  refine ⟨by have:=Z2.mpr hn0;omega,?_⟩;refine nL (zL gp) ?_;rw[zla hn0];have:=h G zK.refl;rw[mB hn0] at this;exact this
 ·erw[zmJ nm,zA,zJ,zoI nm,zzB,if_false]
  refine xT ?_;refine yX ?_
  erw[]
  refine zhV gp ?_;refine zc5 (done e) (fun σ=>∃ v,σ=[some e.w,p⁻¹,v]) ⟨none,rfl⟩ (fun G' k=>zL (k _ _ 'g' gp)) (fun x hx σ' G' hs k1 D' hrt hnx hf=>?_) (fun hf σ' G' hs k1=>?_)
  .obtain ⟨v,rfl⟩:=hs;obtain ⟨a1,a2,a3⟩:=hy.all x hx
   erw[]
   refine yX ?_
   erw[e36]
   refine ⟨e,x,rfl,eo,a1,a2,a3,nm,fun G2 k2=>?_⟩
   erw[rB]
   cases hdn:done e x with
   |false =>
    simp only[zzB,if_false];exact xT (Γ:=yW K C sA n) (E:=XN) (xT (Γ:=yW K C sA n) (E:=XN) (hnx hdn _ _ ⟨_,rfl⟩ (k1.trans k2)))
   |true =>
    simp only[if_true];refine yX ?_
    erw[]
    rw[hrt];have:=h G2 (k1.trans k2);rw[uQ nm,zfj (hf hdn)] at this;exact this
  .obtain ⟨v,rfl⟩:=hs;refine yX ?_
   erw[]
   have:=h G' k1;rw[uQ nm,hf] at this;exact this
theorem zhE {n:Nat} (hn:45<=n) {ws:List W} {G:Hw} {Q:Q3} (h:kO ws G Q XN):zI 'b' XN qB { nx:=fun _ G'=>Q .non G',rt:=Q } (yT gY ws) G:=by
 obtain ⟨e,p,ys,rfl,eo,gp,hy,h⟩:=h;have e1:'b'.fn[1]?=some eLen:=vW 1 hn rfl;have few:=hy.few;have z0:=sz 0 'c';have py:yP ys=true:=jS fun w hw=>(hy.all w hw).2.1;show zI 'b' XN qB { nx:=fun _ G'=>Q .non G',rt:=Q } [some e.w,p⁻¹,none] G;simp only[qB];refine yX ?_
 have loop:∀ G1,zK [] G G1->((∀ i,e≠.mov i)\/ys=[])->zI 'b' XN (tl qB) { nx:=fun _ G'=>Q .non G',rt:=Q } [some e.w,p⁻¹,none] G1:=by
  intro G1 k0 hc;have gp1:=k0 _ _ 'g' gp;simp only[qB,tl];refine yX ?_
  erw[]
  refine zhV gp1 ?_;refine zc5 (done e) (fun σ=>∃ v,σ=[some e.w,p⁻¹,v]) ⟨none,rfl⟩ (fun G' k=>zL (k _ _ 'g' gp1)) (fun x hx σ' G' hs k1 D' hrt hnx hf=>?_) (fun hf σ' G' hs k1=>?_)
  .obtain ⟨v,rfl⟩:=hs;obtain ⟨a1,a2,a3⟩:=hy.all x hx;obtain ⟨s0,s1,s2,s3,_⟩:=zgE a1 a2 a3;have nm:∀ i,e≠.mov i:=hc.resolve_right fun z=>by rw[z] at hx;cases hx
   have fin:∀ b:Bool,b=done e x->(if b=true then zI 'b' XN {.ret (.var 2)} { D' with nx:=zI 'b' XN .nil D' } [some e.w,p⁻¹,some x] G' else zI 'b' XN .nil { D' with nx:=zI 'b' XN .nil D' } [some e.w,p⁻¹,some x] G'):=by
    rintro b rfl
    cases hdn:done e x with
    |false =>
     simp only[zzB,if_false];exact xT (Γ:=yW K C sA n) (E:=XN) (xT (Γ:=yW K C sA n) (E:=XN) (hnx hdn _ _ ⟨_,rfl⟩ k1))
    |true =>
     simp only[if_true];refine yX ?_
     erw[]
     rw[hrt];have:=h G' (k0.trans k1);rw[uQ nm,zfj (hf hdn)] at this;exact this
   erw[]
   refine yX ?_
   erw[zA,eqA a2 (zkF e) (Zb a3 'c')]
   simp only[zmJ nm,zJ]
   cases hE:yQ x e.w with
   |true =>
    have:=fin true (zmG a1 hE).symm;simpa only [if_true] using this
   |false =>
    simp only[zzB,if_false];rcases zoH (e:=e) (x:=x) nm with ⟨s,i1,i2,i3⟩|⟨i2,i3⟩
    .simp only[i2,if_true,s0,s1,i1,zJ,eqA s2 (vS s) s3]
     cases hx:(fG x==("answer" : Str)) with
     |false =>
      have:=fin false (by rw[i3,hx];rfl);simpa only [zzB,if_false] using this
     |true =>
      simp only[if_true];exact fin _ (by rw[i3,hx];rfl)
    .simp only[i2,zzB,if_false];have:=fin false (by rw[i3,hE]);simpa only [zzB,if_false] using this
  .obtain ⟨v,rfl⟩:=hs;refine yX ?_
   erw[]
   have:=h G' (k0.trans k1);rcases hc with nm|rfl
   .rw[uQ nm,hf] at this;exact this
   .rw[zaC] at this;exact this
 rcases sel (e:=e) with ⟨i,rfl⟩|nm
 ·erw[Dd.w,vJ,zA,zJ,beq_self_eq_true,if_true,Zj,z0,true_and]
  intro r hr;have k1:zK [] G (put G r (.lst [])):=zK.new hr;have gr:(put G r (.lst [])) r=some (.lst []):=zM;generalize put G r (.lst [])=G1 at k1 gr ⊢;have gp1:=k1 _ _ 'g' gp;simp only[zef gp1 gr py]
  by_cases hn0:ys=[]
  .have lp:=loop G1 k1 (.inr hn0);subst hn0;simp only[Zah,ZA,zzB,if_false];exact xT (Γ:=yW K C sA n) (E:=XN) lp
  .have he:ys.isEmpty=false:=by simpa using hn0
   simp only[he,Zu,if_true];refine yX ?_
   erw[Dd.w,bF,e1,gM,gN,gp1,wN]
   refine ⟨by have:=Z2.mpr hn0;omega,?_⟩;refine nL (zL gp1) ?_;rw[zla hn0];have:=h G1 k1;rw[mB hn0] at this;exact this
 ·erw[zmJ nm,zA,zJ,zoI nm,zzB,if_false]
  exact xT (Γ:=yW K C sA n) (E:=XN) (loop G zK.refl (.inl nm))
end
theorem zbj:∀ c:Cd,c.size+1<=2 ^ (c.deep+1)
 | .any=>by decide
 | .one _ _=>by show 2<=2 ^ (0+1);decide
 | .two _ _ _=>by show 2<=2 ^ (0+1);decide
 | .neg a=>by
  have:=zbj a;simp only[Cd.size,Cd.deep];rw[Nat.pow_succ];omega
 | .bin _ a b=>by
  have h1:=zbj a;have h2:=zbj b;have h3:2 ^ (a.deep+1)<=2 ^ (max a.deep b.deep+1):=Zbq 'c' 'd';have h4:2 ^ (b.deep+1)<=2 ^ (max a.deep b.deep+1):=Zbq 'c' 'd';simp only[Cd.size,Cd.deep];rw[Nat.pow_succ 2 (max a.deep b.deep+1)];omega
theorem size4 {c:Cd} (h:c.deep<=4):c.size<=200:=by
 have h1:=zbj c;have h2:2 ^ (c.deep+1)<=2 ^ 5:=Zbq 'c' (ZaH h);exact Zb (Nat.le_of_succ_le (Zb h1 h2)) 'c'
theorem isN {w:W} {G:Hw} {Q:Q3}:cH true w .non G Q=Q (.bl (!zjW w)) G:=by cases w<;>rfl
theorem dI {x:Bk} {z:Sd} (h:z.ok):Steps (mvs x z):=by
 obtain ⟨ms,e,hm⟩:=zbG (x:=x) h;refine ⟨fun w hw=>?_,Zb (zhz h) 'c'⟩;rw[e] at hw;obtain ⟨m,hm',rfl⟩:=zzP hw;refine ⟨.inr ?_,m.pur,Zb (Mv.dep (hm m hm').1) 'c'⟩
 cases m with
 |ans y t s=>exact ⟨_,_,_,rfl⟩
 |dbt y t=>exact ⟨_,_,_,rfl⟩
theorem sP {m:Mv} (h:m.ok):Steps (repl m):=by
 obtain ⟨hp,_,_⟩:=dD h;refine ⟨fun w hw=>?_,Zb (zeV h) 'c'⟩;have hr:=hp w ((xR _).mem_iff.mp hw);refine ⟨.inl ?_,hr.pur,Zb hr.dep 'c'⟩;rcases hr with ⟨y,rfl⟩|⟨s,_,rfl⟩
 .exact ⟨_,_,rfl⟩
 .exact ⟨_,_,rfl⟩
theorem zi1 {x:Bk} {z:Sd} {m:Mo} (h:z.ok) (mo:m.ok):Steps (kZ x z m):=by
 cases m with
 |no=>exact dI h
 |dbt y s=>exact sP ⟨mo.1,Zb mo.2 'c'⟩
 |ans y s a=>exact sP ⟨Zb mo.1 'c',Zb mo.2 'c'⟩
theorem zhe {e:Dd} {ys:List W}:played e ys=.non\/played e ys∈ys:=by
 rcases sel (e:=e) with ⟨i,rfl⟩|nm
 .by_cases hn:ys=[]
  .subst hn;exact .inl rfl
  .rw[mB hn];rw[Z1]
   cases he:ys[(i % (ys.length:Int)).toNat]? with
   |none=>exact .inl rfl
   |some w=>exact .inr (Zo he)
 .rw[uQ nm]
  cases he:ys.find? (done e) with
  |none=>exact .inl rfl
  |some w=>exact .inr (List.mem_of_find?_eq_some he)
theorem zlK {z:Sd} {m:Mo} {ys:List W} {rs:List (Cd×Dd)}:hZ z m ys rs=.non\/hZ z m ys rs∈ys:=by
 unfold hZ
 split
 .exact zhe
 .exact .inl rfl
theorem zhg {z:Sd} {m:Mo} {ys:List W} {rs:List (Cd×Dd)} (hy:Steps ys) {G:Hw}:fC G (hZ z m ys rs) (hZ z m ys rs)=some true:=by
 rcases zlK (z:=z) (m:=m) (ys:=ys) (rs:=rs) with h|h
 .rw[h];exact eqA rfl rfl (Zg _)
 .obtain ⟨_,p,d⟩:=hy.all _ h;rw[eqA p p (Zb d 'c'),fD p]
theorem zhh {z:Sd} {m:Mo} {ys:List W} {rs:List (Cd×Dd)} {r:Cd×Dd} (h:rs.find? (sY z m ys)=some r):hZ z m ys rs=played r.2 ys:=by
 unfold hZ;rw[h]
theorem zhf {z:Sd} {m:Mo} {ys:List W} {rs:List (Cd×Dd)} (h:rs.find? (sY z m ys)=none):hZ z m ys rs=.non:=by
 unfold hZ;rw[h]
section
variable {K:yI} {C sA:Addr}
theorem za4 {n:Nat} (hn:43<=n) {ws:List W} {G:Hw} {Q:Q3} (h:jZ C ws G Q XN):zI 'b' XN rW { nx:=fun _ G'=>Q .non G',rt:=Q } (yT zdX ws) G:=by
 obtain ⟨rs,b,x,z,m,rfl,hr,hb,hx,hz,mo,h⟩:=h;have e33:'b'.fn[33]?=some ⟨"moves", spMv C⟩:=vW 33 hn rfl;have e35:'b'.fn[35]?=some ⟨"replies", sO⟩:=vW 35 hn rfl;have e37:'b'.fn[37]?=some ⟨"played_by", kO⟩:=vW 37 hn rfl;have e42:'b'.fn[42]?=some ⟨"holds", zbf⟩:=vW 42 hn rfl;have st:=zi1 (x:=x) hz mo;show zI 'b' XN rW { nx:=fun _ G'=>Q .non G',rt:=Q } [some (.tup (rs.map uF)),b⁻¹,some z.w,some m.w,none,none,none,none] G
 have go:∀ (p:Addr) (G1:Hw),zK [] G G1->G1 p=some (.lst (kZ x z m))->zI 'b' XN (tl rW) { nx:=fun _ G'=>Q .non G',rt:=Q } [some (.tup (rs.map uF)),b⁻¹,some z.w,some m.w,p⁻¹,none,none,none] G1:=by
  intro p G1 k0 gp;simp only[rW,tl];refine yX ?_
  erw[xH]
  refine nY (sY z m (kZ x z m)) (fun σ=>∃ v5 v6 v7,σ=[some (.tup (rs.map uF)),b⁻¹,some z.w,some m.w,p⁻¹,v5,v6,v7]) ⟨none,none,none,rfl⟩ (fun _ _=>trivial) (fun r hr' σ' G' hs k1 D' hrt hnx hf=>?_) (fun hf σ' G' hs k1=>?_)
  .obtain ⟨v5,v6,v7,rfl⟩:=hs;obtain ⟨r1,r2,r3⟩:=hr.all r hr'
   erw[uF]
   refine yX ?_
   erw[e37]
   refine ⟨r.2,p,_,rfl,r3,k1 _ _ 'g' gp,st,fun G2 k2=>?_⟩;refine yX ?_
   erw[zA,isN]
   have no:sY z m (kZ x z m) r=false->∀ G3,zK [] G2 G3->zI 'b' XN .nil { D' with nx:=zI 'b' XN .nil D' } [some (.tup (rs.map uF)),b⁻¹,some z.w,some m.w,p⁻¹,some r.1.w,some r.2.w,some (played r.2 (kZ x z m))] G3:=fun hz G3 k3=>xT (Γ:=yW K C sA n) (E:=XN) (xT (Γ:=yW K C sA n) (E:=XN) (hnx hz _ _ ⟨_,_,_,rfl⟩ ((k1.trans k2).trans k3)))
   cases hN:zjW (played r.2 (kZ x z m)) with
   |true =>
    simp only[ZA,zzB,if_false];exact no (by simp[sY,hN]) G2 zK.refl
   |false =>
    simp only[Zu,if_true]
    erw[e42]
    refine ⟨r.1,z,m,rfl,r1,hz,mo,size4 r2,fun G3 k3=>?_⟩
    erw[rB]
    cases hH:hv z m r.1 with
    |false =>
     simp only[zzB,if_false];exact no (by simp[sY,hH]) G3 k3
    |true =>
     simp only[if_true];refine yX ?_
     erw[]
     rw[hrt];have:=h G3 (((k0.trans k1).trans k2).trans k3);rw[zhh (hf (by simp[sY,hN,hH]))] at this;exact this
  .obtain ⟨v5,v6,v7,rfl⟩:=hs;refine yX ?_
   erw[]
   have:=h G' (k0.trans k1);rw[zhf hf] at this;exact this
 simp only[rW,tl] at go;simp only[rW];refine yX ?_
 cases m with
 |no =>
  erw[Mo.w,zA,cH,zzB,if_false,if_true,e33]
  exact ⟨b,x,z,rfl,hb,hx,hz,fun p G1 k1 _ gp=>go p G1 k1 gp⟩
 |dbt y s =>
  erw[Mo.w,zA,cH,zzB,if_false,if_true,e35]
  exact ⟨.dbt y s,rfl,⟨mo.1,Zb mo.2 'c'⟩,fun p G1 k1 _ gp=>go p G1 k1 gp⟩
 |ans y s a =>
  erw[Mo.w,zA,cH,zzB,if_false,if_true,e35]
  exact ⟨.ans y s a,rfl,⟨Zb mo.1 'c',Zb mo.2 'c'⟩,fun p G1 k1 _ gp=>go p G1 k1 gp⟩
theorem zd8 {n:Nat} (hn:46<=n) {ws:List W} {G:Hw} {Q:Q3} (h:nO ws G Q XN):zI 'b' XN vD { nx:=fun _ G'=>Q .non G',rt:=Q } (yT sI ws) G:=by
 obtain ⟨rs,p,ys,z,m,rfl,hr,gp,st,hz,mo,h⟩:=h;have e44:'b'.fn[44]?=some ⟨"_law_holds", wW 8⟩:=vW 44 hn rfl;have e45:'b'.fn[45]?=some ⟨"_law_step", kO⟩:=vW 45 hn rfl;show zI 'b' XN vD { nx:=fun _ G'=>Q .non G',rt:=Q } [some (.tup (rs.map uF)),p⁻¹,some z.w,some m.w,none,none] G;simp only[vD];refine yX ?_
 erw[xH]
 refine nY (sY z m ys) (fun σ=>∃ v5 v6,σ=[some (.tup (rs.map uF)),p⁻¹,some z.w,some m.w,v5,v6]) ⟨none,none,rfl⟩ (fun _ _=>trivial) (fun r hr' σ' G' hs k1 D' hrt hnx hf=>?_) (fun hf σ' G' hs k1=>?_)
 .obtain ⟨v5,v6,rfl⟩:=hs;obtain ⟨r1,r2,r3⟩:=hr.all r hr'
  erw[uF]
  refine yX ?_
  erw[e44]
  refine ⟨r.1,z,m,rfl,r1,hz,mo,by omega,fun G2 k2=>?_⟩
  erw[rB]
  have no:sY z m ys r=false->∀ G3,zK [] G2 G3->zI 'b' XN .nil { D' with nx:=zI 'b' XN .nil D' } [some (.tup (rs.map uF)),p⁻¹,some z.w,some m.w,some r.1.w,some r.2.w] G3:=fun hz G3 k3=>xT (Γ:=yW K C sA n) (E:=XN) (xT (Γ:=yW K C sA n) (E:=XN) (hnx hz _ _ ⟨_,_,rfl⟩ ((k1.trans k2).trans k3)))
  cases hH:hv z m r.1 with
  |false =>
   simp only[zzB,if_false];exact no (by simp[sY,hH]) G2 zK.refl
  |true =>
   simp only[if_true]
   erw[e45]
   refine ⟨r.2,p,ys,rfl,r3,(k1.trans k2) _ _ 'g' gp,st,fun G3 k3=>?_⟩
   erw[zA,isN]
   cases hN:zjW (played r.2 ys) with
   |true =>
    simp only[ZA,zzB,if_false];exact no (by simp[sY,hN]) G3 k3
   |false =>
    simp only[Zu,if_true];refine yX ?_
    erw[e45]
    refine ⟨r.2,p,ys,rfl,r3,((k1.trans k2).trans k3) _ _ 'g' gp,st,fun G4 k4=>?_⟩;rw[hrt];have:=h G4 (((k1.trans k2).trans k3).trans k4);rw[zhh (hf (by simp[sY,hN,hH]))] at this;exact this
 .obtain ⟨v5,v6,rfl⟩:=hs;refine yX ?_
  erw[]
  have:=h G' k1;rw[zhf hf] at this;exact this
end
theorem o_w (m:Mv):m.o.w=m.w:=by cases m<;>rfl
theorem o_ok {m:Mv} (h:m.ok) (b:m.big 8):m.o.ok:=by
 cases m with
 |dbt x t=>exact ⟨h.1,Zb b 'c'⟩
 |ans x t s=>exact ⟨Zb b.1 'c',Zb b.2 'c'⟩
theorem zlY (x:Bk) (z:Sd) (m:Mv):kZ x z m.o=repl m:=by cases m<;>rfl
noncomputable def dN (K:yI) (C sA:Addr):Ctx3:={ yW K C sA 48 with sx:=[eRev,⟨rvM,rvS⟩,⟨hcM "sides_of", hcS sA wB⟩,⟨dcM "choice", dcS (jZ C) [.non]⟩] }
section
variable {K:yI} {C sA:Addr}
theorem zg3 {ws:List W} {G:Hw} {Q:Q3} (h:zbd C ws G Q XN):zI (dN K C sA) XN tQ { nx:=fun _ G'=>Q .non G',rt:=Q } (yT pJ ws) G:=by
 obtain ⟨rs,b,x,z,rfl,hr,hb,hx,hz,h⟩:=h;have e25:(dN K C sA).fn[25]?=some ⟨"_law_moves", spMv C⟩:=rfl;have e43:(dN K C sA).fn[43]?=some ⟨"choice", jZ C⟩:=rfl;have e46:(dN K C sA).fn[46]?=some ⟨"_law_choice", nO⟩:=rfl;have e47:(dN K C sA).fn[47]?=some ⟨"_law_replies", sO⟩:=rfl;have s3:(dN K C sA).sx[3]?=some ⟨dcM "choice", dcS (jZ C) [.non]⟩:=rfl;have i0:(dN K C sA).it[0]?=some eRng:=rfl;show zI (dN K C sA) XN tQ { nx:=fun _ G'=>Q .non G',rt:=Q } [some (.tup (rs.map uF)),b⁻¹,some z.w,none,none,none] G;simp only[tQ];refine yX ?_
 erw[e25]
 refine ⟨b,x,z,rfl,hb,hx,hz,fun p G1 k1 hp gp=>?_⟩;have hb1:uD C G1 b x:=k1 _ _ 'g' hb;refine yX ?_
 erw[zY,i0]
 refine ⟨⟨by decide,by decide⟩,?_⟩;refine nY (fun _=>false) (fun σ=>∃ v4,σ=[some (.tup (rs.map uF)),b⁻¹,some z.w,p⁻¹,v4,none]) ⟨none,rfl⟩ (fun _ _=>trivial) (fun i hi σ' G2 hs k2 D' hrt hnx hf=>?_) (fun _ σ' G2 hs k2=>?_)
 .obtain ⟨v4,rfl⟩:=hs
  erw[]
  refine yX ?_
  erw[s3,dcS,e46]
  refine ⟨rs,b,x,z,.no,rfl,hr,k2 _ _ 'g' hb1,hx,hz,trivial,fun G3 k3=>?_⟩;refine ⟨rs,p,mvs x z,z,.no,rfl,hr,(k2.trans k3) _ _ 'g' gp,dI hz,hz,trivial,fun G4 k4=>?_⟩;have pe:fC G4 (hZ z .no (kZ x z .no) rs) (hZ z .no (mvs x z) rs)=some true:=zhg (dI hz)
  erw[zA,pe,ZA,zzB,if_false]
  exact xT (Γ:=dN K C sA) (E:=XN) (xT (Γ:=dN K C sA) (E:=XN) (hnx rfl _ _ ⟨_,rfl⟩ ((k2.trans k3).trans k4)))
 .obtain ⟨v4,rfl⟩:=hs;obtain ⟨ms,em,hms⟩:=zbG (x:=x) hz;have gp2:=k2 _ _ 'g' gp;have hb2:uD C G2 b x:=k2 _ _ 'g' hb1;rw[em] at gp2;refine yX ?_
  erw[]
  refine zhV gp2 ?_;refine nY (fun _=>false) (fun σ=>∃ v5,σ=[some (.tup (rs.map uF)),b⁻¹,some z.w,p⁻¹,v4,v5]) ⟨none,rfl⟩ (fun G' k=>zL (k _ _ 'g' gp2)) (fun m hm σ' G3 hs k3 D' hrt hnx hf=>?_) (fun _ σ' G3 hs k3=>?_)
  .obtain ⟨v5,rfl⟩:=hs;obtain ⟨m8,mo⟩:=hms m hm;have oo:=o_ok mo m8
   erw[]
   refine yX ?_
   erw[e43,e46,e47]
   refine ⟨rs,b,x,z,m.o,by rw[o_w],hr,k3 _ _ 'g' hb2,hx,hz,oo,fun G4 k4=>?_⟩;refine ⟨m,rfl,mo,fun q G5 k5 hq gq=>?_⟩;refine ⟨rs,q,repl m,z,m.o,by rw[o_w],hr,gq,sP mo,hz,oo,fun G6 k6=>?_⟩;have pe:fC G6 (hZ z m.o (kZ x z m.o) rs) (hZ z m.o (repl m) rs)=some true:=by rw[zlY];exact zhg (sP mo)
   erw[zA,pe,ZA,zzB,if_false]
   exact xT (Γ:=dN K C sA) (E:=XN) (xT (Γ:=dN K C sA) (E:=XN) (hnx rfl _ _ ⟨_,rfl⟩ (((k3.trans k4).trans k5).trans k6)))
  .obtain ⟨v5,rfl⟩:=hs;refine yX ?_
   erw[]
   exact h G3 ((k1.trans k2).trans k3)
end
section
variable {K:yI} {C sA:Addr}
theorem zkq {n:Nat} (hn:15<=n) {ws:List W} {G:Hw} {Q:Q3} (h:zbg C ws G Q XN):zI 'b' XN rS { nx:=fun _ G'=>Q .non G',rt:=Q } (yT gU ws) G:=by
 obtain ⟨d,l,rfl,D,h⟩:=h;have e11:'b'.fn[11]?=some fB:=vW 11 hn rfl;have e14:'b'.fn[14]?=some ⟨"Book", zeN C⟩:=vW 14 hn rfl;have i0:'b'.it[0]?=some eRng:=rfl;have z2:=sz 2 'c';have z4:=sz 4 'c';show zI 'b' XN rS { nx:=fun _ G'=>Q .non G',rt:=Q } [d⁻¹,none,none,none,none] G;simp only[rS];refine yX ?_
 erw[e11]
 refine ⟨d,l,4,rfl,D,by decide,fun way G1 w0 w1 k1 D1=>?_⟩
 have fin:∀ (x:Bk) (G2:Hw),x.f = "last" -> x.ok->zK [d,l] G G2->xA G2 d l->zeN C [.str x.a,.str x.b,.str x.c,.str x.e] G2 Q XN:=fun x G2 hf ho k2 D2 =>
  zmQ hf fun p hp=>h p x _ zM ho (wH D2 hp) (k2.trans (zK.new hp)) (vV hp D2)
 refine yX ?_
 erw[zA,kT]
 by_cases h0:way=0
 .rw[if_pos (by simpa using h0)];refine yX ?_
  erw[e14]
  exact fin ⟨"last", "once", "often", "any", "last"⟩ G1 rfl (.inr rfl) k1 D1
 rw[if_neg (by simpa using h0)];refine xT ?_;refine yX ?_
 erw[zA,kT]
 by_cases h1:way=1
 .rw[if_pos (by simpa using h1)];refine yX ?_
  erw[e14]
  exact fin ⟨"any", "often", "often", "any", "last"⟩ G1 rfl (.inr rfl) k1 D1
 rw[if_neg (by simpa using h1)];refine xT ?_;refine yX ?_
 erw[zY,zV,i0]
 refine ⟨⟨by decide,by decide⟩,?_⟩;refine ⟨fun i acc G'=>∃ ts:List Int,acc=ts.map .int/\ts.length=i/\(∀ x∈ts,x=0\/x=1)/\zK [d,l] G1 G'/\xA G' d l,⟨[],rfl,rfl,by simp,zK.refl,D1⟩,?_,sz _ 'c',?_,?_⟩
 .rintro i acc G' ⟨ts,rfl,rfl,_,_,_⟩ _;exact ⟨trivial,by simp⟩
 .rintro i w acc G' hw ⟨ts,rfl,hl,hs,kp,D'⟩;simp only[nT,Ze,Zj,List.replicate,zzU,zzV,Zac,ZC,Zv]
  erw[Zaj,if_true,e11]
  refine ⟨d,l,2,rfl,D',by decide,fun r G'' r0 r1 kp' D''=>?_⟩;refine ⟨ts++[r],by simp,by simp[hl],fun y hy=>?_,kp.trans kp',D''⟩;rcases Zm.mp hy with hy|hy
  .exact hs y hy
  .rw[zzO hy];omega
 .rintro acc G2 ⟨ts,rfl,hl,hs,kp,D2⟩ r hr
  match ts,hl with
  | [a0,a1,a2,a3],_ =>
  have s0:=hs a0 'g';have s1:=hs a1 'g';have s2:=hs a2 'g';have s3:=hs a3 'g';have k3:zK [d,l] G (put G2 r (.lst ([a0,a1,a2,a3].map W.int))):=(k1.trans kp).trans (zK.new hr);have g3:(put G2 r (.lst ([a0,a1,a2,a3].map W.int))) r=some (.lst [.int a0,.int a1,.int a2,.int a3]):=zM;have D3:=vV (o:=.lst ([a0,a1,a2,a3].map W.int)) hr D2;generalize put G2 r (.lst ([a0,a1,a2,a3].map W.int))=G3 at k3 g3 D3 ⊢;have nx:∀ {G4:Hw} {p:Addr} (w:List W),G4 p=none->G4 r=some (.lst [.int a0,.int a1,.int a2,.int a3])->zK [d,l] G G4->xA G4 d l->(put G4 p (.lst w)) r=some (.lst [.int a0,.int a1,.int a2,.int a3])/\zK [d,l] G (put G4 p (.lst w))/\xA (put G4 p (.lst w)) d l:=fun w hp g k D4=>⟨(zK.new (S:=[]) hp) _ _ 'g' g,k.trans (zK.new hp),vV hp D4⟩;refine yX ?_
  erw[zzC,zzL,zzA,Nat.reduceAdd,z2,true_and]
  refine zjw g3 uH s0 fun p0 h0=>?_;obtain ⟨g4,k4,D4⟩:=nx [.str "last", .str "any"] h0 g3 k3 D3;generalize put G3 p0 (.lst [.str "last", .str "any"])=G4 at g4 k4 D4 ⊢;refine yX ?_
  erw[zzC,zzL,zzA,Nat.reduceAdd,z2,true_and]
  refine zjw g4 vC s1 fun p1 h1=>?_;obtain ⟨g5,k5,D5⟩:=nx [.str "once", .str "often"] h1 g4 k4 D4;generalize put G4 p1 (.lst [.str "once", .str "often"])=G5 at g5 k5 D5 ⊢;refine yX ?_
  erw[e14,zzC,zzL,zzA,Nat.reduceAdd,z2,true_and]
  refine zjw g5 at_2 s2 fun p2 h2=>?_;obtain ⟨g6,k6,D6⟩:=nx [.str "once", .str "often"] h2 g5 k5 D5;generalize put G5 p2 (.lst [.str "once", .str "often"])=G6 at g6 k6 D6 ⊢;refine zjw g6 at_3 s3 fun p3 h3=>?_;obtain ⟨g7,k7,D7⟩:=nx [.str "last", .str "any"] h3 g6 k6 D6;generalize put G6 p3 (.lst [.str "last", .str "any"])=G7 at g7 k7 D7 ⊢;refine fin ⟨if a0=0 then "last" else "any", if a1=0 then "once" else "often", if a2=0 then "once" else "often", if a3=0 then "last" else "any", "last"⟩ G7 rfl ?_ k7 D7;show (if a2=0 then ("once" : Str) else "often") = "once" \/ (if a2=0 then ("once" : Str) else "often") = "often"
  split
  .exact .inl rfl
  .exact .inr rfl
theorem zl7 {s0:W} {ns:List Int} {G:Hw} {Q:Q3} (sc:zgl G s0 ns) (nl:ns.length<=63) (h:∀ G',Q (.bl true) G'):zI (yW K C sA 51) XN blaw { nx:=fun _ G'=>Q .non G',rt:=Q } (yT nlaw [s0]) G:=by
 have e1:(yW K C sA 51).fn[1]?=some eLen:=rfl;have e8:(yW K C sA 51).fn[8]?=some eInt:=rfl;have e10:(yW K C sA 51).fn[10]?=some zoC:=rfl;have e11:(yW K C sA 51).fn[11]?=some fB:=rfl;have e12:(yW K C sA 51).fn[12]?=some ⟨"_law_names", zbe⟩:=rfl;have e13:(yW K C sA 51).fn[13]?=some ⟨"_law_saying", wL 10⟩:=rfl;have e15:(yW K C sA 51).fn[15]?=some ⟨"_law_book", zbg C⟩:=rfl;have e20:(yW K C sA 51).fn[20]?=some ⟨"_law_program", nP⟩:=rfl;have e21:(yW K C sA 51).fn[21]?=some ⟨"_law_start", zbc⟩:=rfl;have e25:(yW K C sA 51).fn[25]?=some ⟨"_law_moves", spMv C⟩:=rfl;have e47:(yW K C sA 51).fn[47]?=some ⟨"_law_replies", sO⟩:=rfl;have e48:(yW K C sA 51).fn[48]?=some ⟨"_law_right", zbd C⟩:=rfl;have e49:(yW K C sA 51).fn[49]?=some ⟨"_law_parts", wE 9⟩:=rfl;have e50:(yW K C sA 51).fn[50]?=some ⟨"_law_after", zbh C⟩:=rfl;have i0:(yW K C sA 51).it[0]?=some eRng:=rfl;have z0:=sz 0 'c';have z2:=sz 2 'c';show zI (yW K C sA 51) XN blaw { nx:=fun _ G'=>Q .non G',rt:=Q } [some s0,none,none,none,none,none,none,none,none,none,none] G;simp only[blaw];refine yX ?_
 erw[e10]
 refine ⟨s0,1,ns,rfl,sc,nl,by decide,fun d l G1 hd hl k1 D1=>?_⟩;refine yX ?_
 erw[e11,e12,wN,zzC,zzL,zzA,Nat.reduceAdd,z2,true_and]
 refine ⟨d,l,3,rfl,D1,by decide,fun q2 G2 q20 q21 k2 D2=>?_⟩;intro r0 hr0;have g3:(put G2 r0 (.lst [.int 1,.int (1+q2)])) r0=some (.lst [.int 1,.int (1+q2)]):=zM;have n3:=wH D2 hr0;have D3:=vV (o:=.lst [.int 1,.int (1+q2)]) hr0 D2;generalize put G2 r0 (.lst [.int 1,.int (1+q2)])=G3 at g3 D3 ⊢;refine ⟨d,l,2,rfl,D3,by decide,fun j G4 j0 j1 k4 D4=>?_⟩;refine nL (zL (k4 _ _ n3 g3)) ?_
 obtain ⟨mN,eN,hN⟩:∃ m:Int,rQ [W.int 1,.int (1+q2)] j=some (.int m)/\1<=m/\m<=50:=by
  have hj:j=0\/j=1:=by omega
  rcases hj with rfl|rfl
  .exact ⟨1,uH,by decide,by decide⟩
  .exact ⟨_,vC,by omega,by omega⟩
 rw[eN];refine ⟨d,l,mN,rfl,D4,hN.1,hN.2,fun r xs G5 xn xl nr gr k5 D5=>?_⟩;refine yX ?_
 erw[e11,e13,wN]
 refine ⟨d,l,6,rfl,D5,by decide,fun q6 G6 q60 q61 k6 D6=>?_⟩;refine ⟨d,l,r,1+q6,xs,rfl,D6,nr,k6 _ _ nr gr,xn,xl,by omega,by omega,by omega,fun t G7 tz k7 D7=>?_⟩;have t8:t.size<=8:=by omega
 refine yX ?_
 erw[e15]
 refine ⟨d,l,rfl,D7,fun b x G8 hb hx nb k8 D8=>?_⟩;refine yX ?_
 erw[e20,e49]
 refine ⟨t,rfl,by omega,by omega,fun p ps G9 k9 hp gp pn pl pz=>?_⟩;have np:=wH D8 hp;have D9:=qF k9 D8;have hb9:uD C G9 b x:=k9 _ _ 'g' hb
 erw[zzC,zzL,zzA,Nat.reduceAdd,z2,true_and,e8,e11]
 intro r1 hr1;have g10:(put G9 r1 (.lst [.int 30,.int 8])) r1=some (.lst [.int 30,.int 8]):=zM;have n10:=wH D9 hr1;have k10:zK [] G9 (put G9 r1 (.lst [.int 30,.int 8])):=zK.new hr1;generalize put G9 r1 (.lst [.int 30,.int 8])=G10 at g10 k10 ⊢;have D10:=qF k10 D9;refine ⟨d,l,8,rfl,D10,by decide,fun q8 G11 q80 q81 k11 D11=>?_⟩;have S11:Says G11 d l p ps:=⟨D11,np,k11 _ _ np (k10 _ _ 'g' gp),pn,by omega,fun y hy=>by have:=pz y hy;omega⟩;have hb11:uD C G11 b x:=k11 _ _ nb (k10 _ _ 'g' hb9)
 obtain ⟨mP,eP,hP⟩:∃ m:Int,(∀ (Q':Q3),(Q' (.int m) G11->kU (.ref r1) (.int (if decide (0<q8)=true then 1 else 0)) G11 Q'))/\0<=m/\m<=30:=by
  by_cases hq:0<q8
  .refine ⟨8,fun Q' q=>nL (zL (k11 _ _ n10 g10)) ?_,by decide,by decide⟩;rw[if_pos (by simpa using hq),vC];exact q
  .refine ⟨30,fun Q' q=>nL (zL (k11 _ _ n10 g10)) ?_,by decide,by decide⟩;rw[if_neg (by simpa using hq),uH];exact q
 erw[zA,mZ,rF]
 refine eP _ ?_;refine ⟨d,l,p,ps,mP,rfl,hP.1,hP.2,S11,fun rs G12 hr k12 D12=>?_⟩;have hb12:uD C G12 b x:=k12 _ _ nb hb11;refine yX ?_
 erw[e21]
 refine ⟨t,rfl,?_⟩;refine yX ?_
 erw[zY,i0,e11]
 refine ⟨d,l,9,rfl,D12,by decide,fun q9 G13 q90 q91 k13 D13=>?_⟩;refine ⟨⟨by omega,by omega⟩,?_⟩;have hb13:uD C G13 b x:=k13 _ _ nb hb12;have len:((List.range q9.toNat).map fun i:Nat=>W.int (i:Int)).length=q9.toNat:=by simp
 refine ⟨fun i σ G'=>∃ (z:Sd) (v7 v8 v9 v10:Option W),σ=[some s0,d⁻¹,r⁻¹,some t.w,b⁻¹,some (.tup (rs.map uF)),some z.w,v7,v8,v9,v10]/\z.ok/\(x.c = "often" -> z.us=[])/\z.sd.length<=i/\z.op.length<=i+1/\z.us.length<=i/\uD C G' b x/\xA G' d l,
  ⟨zgG t,none,none,none,none,rfl,zi2 t8,fun _=>rfl,zzR _,zzR _,zzR _,hb13,D13⟩,fun _ _ _ _ _=>trivial,?_,?_⟩
 .rintro i w σ G2 hw ⟨z,v7,v8,v9,v10,rfl,hz,hu,c1,c2,c3,hb2,D2⟩;have hi:i<q9.toNat:=by have:=(Zl.mp hw).1;rwa[len] at this
  erw[]
  refine yX ?_
  erw[e48]
  refine ⟨rs,b,x,z,rfl,hr,hb2,hx,hz,fun G3 k3=>?_⟩
  erw[rB,ZA,zzB,if_false]
  refine stk K C sA 51 ?_;have hb3:uD C G3 b x:=k3 _ _ 'g' hb2;have D3:=qF k3 D2;refine yX ?_
  erw[e25]
  refine ⟨b,x,z,rfl,hb3,hx,hz,fun p8 G4 k4 hp8 g8=>?_⟩;obtain ⟨ms,em,hms⟩:=zbG (x:=x) hz;have ml:=zhz (x:=x) hz;rw[em,zzM] at ml;rw[em] at g8;have mp:yP (ms.map Mv.w)=true:=jS fun w hw=>by obtain ⟨m,_,rfl⟩:=zzP hw;exact m.pur
  refine yX ?_
  erw[Zj,z0,true_and]
  intro rb hrb;have g8':(put G4 rb (.lst [])) p8=some (.lst (ms.map Mv.w)):=by rw[yO (xU g8 hrb)];exact g8
  simp only[zA,zef g8' zM mp];have k5:zK [] G3 (put G4 rb (.lst [])):=k4.trans (zK.new hrb);generalize put G4 rb (.lst [])=G5 at g8' k5 ⊢;have n8:=wH D3 hp8;have D5:=qF k5 D3;have hb5:uD C G5 b x:=k5 _ _ 'g' hb3
  cases ms with
  |nil =>
   simp only[zzV,Zah,if_true];refine yX ?_
   erw[]
   exact h G5
  |cons g gs =>
   simp only[zzU,Za8,zzB,if_false];refine stk K C sA 51 ?_;have g8':G5 p8=some (.lst ((g::gs).map Mv.w)):=g8';refine yX ?_
   erw[e11,e1,gM,gN,g8',zzM]
   refine ⟨d,l,_,rfl,D5,⟨by simp only[Ze];omega,by omega⟩,fun c G6 c0 c1' k6 D6=>?_⟩;obtain ⟨m,hm,es⟩:=zlb (φ:=Mv.w) (xs:=g::gs) c0 c1';obtain ⟨hb8,ok⟩:=hms m hm;refine nL (zL (k6 _ _ n8 g8')) ?_;rw[es];obtain ⟨rr,er,hrs⟩:=zfH ok hb8;have rl:=zeV ok;have rp:=zg6 ok;rw[er] at rp;rw[er,zzM] at rl;refine yX ?_
   erw[e47]
   refine ⟨m,rfl,ok,fun ra G7 k7 hra ga=>?_⟩;rw[er] at ga;refine yX ?_
   erw[Zj,z0,true_and]
   intro rc hrc;have ga':(put G7 rc (.lst [])) ra=some (.lst (rr.map Ry.w)):=by rw[yO (xU ga hrc)];exact ga
   simp only[zA,zef ga' zM rp];have k8:zK [] G6 (put G7 rc (.lst [])):=k7.trans (zK.new hrc);generalize put G7 rc (.lst [])=G8 at ga' k8 ⊢;have na:=wH D6 hra;have D8:=qF k8 D6;have hb8':uD C G8 b x:=k8 _ _ 'g' (k6 _ _ nb hb5)
   cases rr with
   |nil =>
    simp only[zzV,Zah,if_true];refine yX ?_
    erw[]
    exact h G8
   |cons y ys =>
    simp only[zzU,Za8,zzB,if_false];refine stk K C sA 51 ?_;have ga':G8 ra=some (.lst ((y::ys).map Ry.w)):=ga';refine yX ?_
    erw[e50,e11,e1,gM,gN,ga',zzM]
    refine ⟨d,l,_,rfl,D8,⟨by simp only[Ze];omega,by omega⟩,fun f G9 f0 f1 k9 D9=>?_⟩;obtain ⟨r',hr',es'⟩:=zlb (φ:=Ry.w) (xs:=y::ys) f0 f1;obtain ⟨rk,hh⟩:=hrs r' hr';refine nL (zL (k9 _ _ na ga')) ?_;rw[es'];have hb9':uD C G9 b x:=k9 _ _ nb hb8';refine ⟨b,x,z,m,r',rfl,hb9',hx,hz,hu,ok,rk,fun G10 k10=>?_⟩;obtain ⟨z',ez,oz,uz,d1,d2,d3⟩:=zlZ hx hz hu hb8 ok rk hh 'd' 'd' 'd';refine stk K C sA 51 ?_;exact ⟨z',_,_,_,_,by rw[ez],oz,uz,by omega,by omega,by omega,k10 _ _ 'g' hb9',qF k10 D9⟩
 .rintro σ G2 ⟨z,v7,v8,v9,v10,rfl,hz,hu,c1,c2,c3,hb2,D2⟩;refine yX ?_
  erw[e48]
  exact ⟨rs,b,x,z,rfl,hr,hb2,hx,hz,fun G3 _=>h G3⟩
end
def Dm (K:yI) (mg:Str->Option Value) (x:Str) (st:Stmt) (dV:Value):Prop:=∃ f,mg x=f⁻¹/\HD K x x st dV f
def Df (K:yI) (x:Str) (st:Stmt) (dV:Value):Prop:=∃ f,PySem.W.nsIn K mainGlobals x=some (f⁻¹)/\HD K x x st dV f
theorem Df.to {K:yI} {h:Heap} {mg:Str->Option Value} {x:Str} {st:Stmt} {dV:Value} (d:Df K x st dV) (X:K.In h) (G:h.Ns mainGlobals mg):Dm K mg x st dV:=by
 obtain ⟨f,a,b⟩:=d;exact ⟨f,PySem.W.mg_of X G a,b⟩
set_option hygiene false in
local macro_rules | `(tactic| and_intros)=>`(tactic| (intro _ _ _ _ _ k;(repeat first|refine Exists.imp fun _=>?_|refine And.imp_right ?_);first|exact k _ _|exact Fr.mono k|(intro h;intros;first|(apply k;apply h<;>assumption)|(apply Fr.mono k;apply h<;>assumption))))
set_option hygiene false in
local macro_rules | `(tactic| subst_eqs)=>`(tactic| (intro _ _ _ h;repeat first|(obtain ⟨rfl,_⟩:=h;exact rfl)|obtain ⟨_,h⟩:=h))
structure Txt (K:yI) (mg:Str->Option Value) (wA C fI dT sA jA dA dB:Addr):Prop where
 cl:Cls K C
 nf:∀ f∈vH,rP K C f
 mgC:mg "Book" = C⁻¹
 mkC:Mk K C fI
 hI:HD K "__init__" "Book.__init__" qZ (.ref dT) fI
 dT:∃ o t n,K.lookup dT=some o/\o.data=.seq #[.str "last" t] n
 deal:Dm K mg "_law_deal" uS .none
 draw:Dm K mg "_law_draw" uU .none
 names:Dm K mg "_law_names" kD .none
 saying:Dm K mg "_law_saying" qR .none
 book:Dm K mg "_law_book" uR .none
 word:Dm K mg "_law_word" uX .none
 cond:Dm K mg "_law_condition" wJ .none
 deed:Dm K mg "_law_deed" uT .none
 count:Dm K mg "_law_count" vZ .none
 program:Dm K mg "_law_program" jK .none
 lstart:Dm K mg "_law_start" kH .none
 lans:Dm K mg "_law_answers" jJ .none
 words:Dm K mg "_law_words" kJ .none
 says:Dm K mg "_law_says" uV .none
 lmoves:Dm K mg "_law_moves" kB .none
 once:Dm K mg "sorted_once" qT .none
 ans:Dm K mg "answers_to" kM .none
 may:Dm K mg "may_say" pV .none
 ansM:Dm K mg "answering_moves" wV .none
 dof:Dm K mg "doubts_of" uY .none
 said:Dm K mg "said_by" pY .none
 dbtM:Dm K mg "doubting_moves" wK .none
 moves:Dm K mg "moves" zcj .none
 told:Dm K mg "told_by" pZ .none
 repl:Dm K mg "replies" pX .none
 done:Dm K mg "is_done" pU .none
 played:Dm K mg "played_by" uZ .none
 within:Dm K mg "all_within" kK .none
 joined:Dm K mg "joined_by" xJ .none
 hom:Dm K mg "holds_of_move" jY .none
 single:Dm K mg "single_holds" jM .none
 holds:Dm K mg "holds" zcl (.ref dA)
 choice:Dm K mg "choice" fY (.ref dB)
 lholds:Dm K mg "_law_holds" kA .none
 lstep:Dm K mg "_law_step" uW .none
 lchoice:Dm K mg "_law_choice" qQ .none
 lrepl:Dm K mg "_law_replies" jL .none
 right:Dm K mg "_law_right" kF .none
 parts:Dm K mg "_law_parts" kE .none
 lafter:Dm K mg "_law_after" vY .none
 max:mg "max" = none
 len:mg "len" = none
 all:mg "all" = none
 list:mg "list" = none
 isi:mg "isinstance" = none
 any:mg "any" = none
 srt:mg "sorted" = none
 tup:mg "tuple" = none
 int:mg "int" = none
 sum:mg "sum" = none
 range:mg "range" = none
 rev:mg "reversed" = none
 mgW:mg "WORDS" = wA⁻¹
 wrd:∀ H,wM K H zb3 (.ref wA)
 mgS:mg "joined_by" = sA⁻¹
 hdS:HD K "joined_by" "joined_by" xJ .none sA
 mgJ:mg "JOINED" = jA⁻¹
 jnD:∀ H,wM K H (.dcf ["not", "and", "or"] [.int 1,.int 2,.int 2]) (.ref jA)
 dtH:∃ o m,K.lookup dA=some o/\o.data=.seq #[.none] m
 dtC:∃ o m,K.lookup dB=some o/\o.data=.seq #[.none] m
noncomputable def rk (n:Nat):Nat:=2 * n+2+(if 14<=n then 8 else 0)+(if 18<=n then 5 else 0)+(if 20<=n then 60 else 0)+(if 45<=n then 8 else 0)+(if 50<=n then 9 else 0)
section
variable {q:Pr} {wA C fI dT sA jA dA dB:Addr}
def Pn (q:Pr) (C sA:Addr) (n:Nat):Prop:=∀ A,Room (rk n) A->∀ f∈(fnL q.K C sA).take n,vM (q.at A) f
noncomputable def Gam0:Ctx3:=⟨[],[("WORDS", zb3),("JOINED", .dcf ["not", "and", "or"] [.int 1,.int 2,.int 2])],[],[],[],[],[]⟩
def ze7:MC:=⟨zD xJ,sK,(fun _=>true),[],["WORDS", "JOINED"],[],[],[],[]⟩
theorem zd6:qV uI ze7 (yZ xJ)=true:=by decide +kernel
theorem us1' {P:List Value->Prop} (h:∀ a,P [a]) (us:List Value) (e:us.length=1):P us:=by
 cases us with
 |nil=>cases e
 |cons a l=>cases l with
  |nil=>exact h a
  |cons b l=>cases e
theorem mX:∀ ws G (Q Q':Q3),'i'->wB ws G Q XN->wB ws G Q' XN:=fun ws G Q Q' k h=>by
 obtain ⟨t,h1,h⟩:=h;exact ⟨t,h1,k _ _ h⟩
theorem zca (T:Txt q.K q.mg wA C fI dT sA jA dA dB) {A:Around} (hr:Room 1 A):SxE (q.at A) ⟨hcM "sides_of", hcS sA wB⟩/\jI (hcS sA wB):=by
 obtain ⟨fd,F,_⟩:=T.hdS.fd;have FO:=vG (k:=0) (sp:=wB) (M:=ze7) F bW (fun A hr=>zed (Γ:=Gam0) (p:=q.at A) (by have:=hr.un;show A.units+200<cLine;omega) yM (zG (tW T.mgW (v:=.ref wA) rfl T.wrd) (zG (tW T.mgJ (v:=.ref jA) rfl T.jnD) yM)) yM yM yM yM rfl) 'e' zd6 (fun ws G Q h=>by obtain ⟨t,rfl,_⟩:=h;rfl) (fun ws G Q h=>zaZ rfl h);exact ⟨sx_hc FO F.kp (nS F fun _ _ _ _ _ _=>us1' fun _=>rfl) mX hr,zj6 mX⟩
theorem zox (T:Txt q.K q.mg wA C fI dT sA jA dA dB) {l:List Fn3} {A:Around} (hu:A.units+200<cLine) (hr1:Room 1 A) (h:∀ f∈l,vM (q.at A) f):L3.Good (GamL C sA l) (q.at A) :=
 zed (Γ:=GamL C sA l) hu h
  (zG (tW T.mgW (v:=.ref wA) rfl T.wrd) (zG (tW T.mgJ (v:=.ref jA) rfl T.jnD) (zG (zh5 T.tup 'j') (zG (tW T.mgS (v:=.ref sA) rfl fun _=>rfl) yM))))
  (zG zij (zG zfl (zG zim (zG (zik hu) (zG zil (zG (zii hu) yM))))))
  (zG (zig T.range) yM)
  (zG ⟨T.cl,T.nf⟩ yM)
  (zG (zih T.list T.rev) (zG ⟨znf,zeS⟩ (zG (zca T hr1) yM))) rfl
theorem gC {k:Nat} {A:Around} (hr:Room k A):A.units+200<cLine:=by have:=hr.un;omega
theorem good (T:Txt q.K q.mg wA C fI dT sA jA dA dB) {n:Nat} (h:Pn q C sA n):∀ A,Room (rk n) A->L3.Good (yW q.K C sA n) (q.at A):=fun A hr=>zox T (gC hr) (hr.mono (by unfold rk;omega)) (h A hr)
theorem next {n:Nat} {e:Fn3} (h:Pn q C sA n) (hk:rk n<=rk (n+1)) (he:(fnL q.K C sA).take (n+1)=(fnL q.K C sA).take n++[e]) (hx:∀ A,Room (rk (n+1)) A->vM (q.at A) e):Pn q C sA (n+1):=fun A hr=>by
 rw[he];exact bC (h A (hr.mono hk)) (hx A hr)
theorem rG (T:Txt q.K q.mg wA C fI dT sA jA dA dB):Pn q C sA 10:=fun A hr=>(zG (zmz T.max) (zG (zmB T.len) (zG (zmF T.all) (zG (zmA T.list) (zG (zmC T.isi) (zG (zmE T.any) (zG (zmy (gC hr) T.srt) (zG (zmw T.tup) (zG (zmD T.int) (zG (zmx T.sum) yM))))))))))
theorem xF {n:Nat} {nm:Str} {st:Stmt} {M:MC} {ps:List Str} {sp:qE} {body:ISs} (T:Txt q.K q.mg wA C fI dT sA jA dA dB) (h:Pn q C sA n) (hk:rk n+1<=rk (n+1)) (hd:Dm q.K q.mg nm st .none) (S:FnScope M.N ps (zD st)) (eM:MOk (yW q.K C sA n) M (zD st)) (look:qV body M (yZ st)=true)
  (len:∀ ws G Q,sp ws G Q XN->ws.length=ps.length) (hb:∀ ws G Q,sp ws G Q XN->zI (yW q.K C sA n) XN body { nx:=fun _ G'=>Q .non G',rt:=Q } (yT M.N ws) G) (mono:zet ⟨nm,sp⟩)
  (hbind:∀ (kV doc pm:Value) (an:Option Addr) (cdv ct:Value) (us:List Value),us.length=ps.length->bindArgs (PySem.W.fnOf nm nm (qM st) (yZ st) (zD st) .none kV doc pm an cdv ct) ⟨us,[]⟩=pure (ps.zip us))
  (he:(fnL q.K C sA).take (n+1)=(fnL q.K C sA).take n++[⟨nm,sp⟩]):Pn q C sA (n+1):=by
 obtain ⟨f,hm,hd⟩:=hd;obtain ⟨fd,F,_⟩:=hd.fd;have FO:=vG F S (good T h) eM look len hb;exact next h 'd' he fun A hr=>nK FO hm F.kp (nS F hbind) mono hr hk
theorem zhC {n N:Nat} {nm qual:Str} {st:Stmt} {f:Addr} {M:MC} {ps:List Str} {sp:Nat->qE} {body:ISs} (T:Txt q.K q.mg wA C fI dT sA jA dA dB) (h:Pn q C sA n) (hk:rk n+N<=rk (n+1)) (hm:q.mg nm=f⁻¹) (hd:HD q.K nm qual st .none f) (S:FnScope M.N ps (zD st)) (eM:∀ j,MOk (wX q.K C sA n ⟨nm,sp j⟩) M (zD st)) (look:qV body M (yZ st)=true)
  (h0:∀ ws G Q,¬ sp 0 ws G Q XN) (len:∀ j ws G Q,sp j ws G Q XN->ws.length=ps.length) (hb:∀ j ws G Q,sp (j+1) ws G Q XN->zI (wX q.K C sA n ⟨nm,sp j⟩) XN body { nx:=fun _ G'=>Q .non G',rt:=Q } (yT M.N ws) G) (mono:∀ j,zet ⟨nm,sp j⟩)
  (hbind:∀ (kV doc pm:Value) (an:Option Addr) (cdv ct:Value) (us:List Value),us.length=ps.length->bindArgs (PySem.W.fnOf nm qual (qM st) (yZ st) (zD st) .none kV doc pm an cdv ct) ⟨us,[]⟩=pure (ps.zip us))
  (he:(fnL q.K C sA).take (n+1)=(fnL q.K C sA).take n++[⟨nm,sp N⟩]):Pn q C sA (n+1):=by
 obtain ⟨fd,F,_⟩:=hd.fd;have FO:=zkD (k:=rk n) (Γ:=fun e=>wX q.K C sA n e) F S hm (nS F hbind) h0 len mono (fun j A hr hx=>zox T (gC hr) (hr.mono (by unfold rk;omega)) (bC (h A hr) hx)) eM look hb N;exact next h 'd' he fun A hr=>nK FO hm F.kp (nS F hbind) (mono N) hr hk
theorem zdj {K:yI} {x qual:Str} {st:Stmt} {T f:Addr} {fd:FuncData} {ps:List Str} {o:Obj} {items:Array Value} {n:Nat} {ds:List Value} (F:FunD K x qual st (.ref T) f fd) (l:K.lookup T=some o) (hd:o.data=.seq items n)
  (h:∀ (kV doc pm:Value) (an:Option Addr) (cdv ct:Value) (us:List Value),(us++ds).length=ps.length->∃ k:Option (Array Value)->Sem (List (Str×Value)),bindArgs (PySem.W.fnOf x qual (qM st) (yZ st) (zD st) (.ref T) kV doc pm an cdv ct) ⟨us,[]⟩=seqItems? (.ref T) >>= k/\k (some items)=pure (ps.zip (us++ds))):vL K fd ps ds:=by
 obtain ⟨oc,od,kV,doc,pm,an,cdv,ct,osl,rfl,lk,hcd⟩:=F.ex;intro s us X hl;obtain ⟨k,h1,h2⟩:=h kV doc pm an cdv ct us hl;exact BindsTo.of_defaults rfl (X _ _ l) hd h1 h2
theorem usS {P:List Value->Prop} {n:Nat} (h:∀ a l,l.length=n->P (a::l)) (us:List Value) (e:us.length=n+1):P us:=by
 cases us with
 |nil=>exact absurd e (Nat.succ_ne_zero n).symm
 |cons a l=>exact h a l (Nat.succ.inj e)
theorem us0 {P:List Value->Prop} (h:P []) (us:List Value) (e:us.length=0):P us:=by
 cases us with
 |nil=>exact h
 |cons a l=>exact absurd e (Nat.succ_ne_zero _)
theorem us1 {P:List Value->Prop} (h:∀ a0,P [a0]):∀ us:List Value,us.length=1->P us:=usS (P:=fun l=>P (l)) (fun a0=>us0 (P:=fun l=>P (a0::l)) (h a0))
theorem us2 {P:List Value->Prop} (h:∀ a0 a1,P [a0,a1]):∀ us:List Value,us.length=2->P us:=usS (P:=fun l=>P (l)) (fun a0=>usS (P:=fun l=>P (a0::l)) (fun a1=>us0 (P:=fun l=>P (a0::a1::l)) (h a0 a1)))
theorem us3 {P:List Value->Prop} (h:∀ a0 a1 a2,P [a0,a1,a2]):∀ us:List Value,us.length=3->P us:=usS (P:=fun l=>P (l)) (fun a0=>usS (P:=fun l=>P (a0::l)) (fun a1=>usS (P:=fun l=>P (a0::a1::l)) (fun a2=>us0 (P:=fun l=>P (a0::a1::a2::l)) (h a0 a1 a2))))
theorem us4 {P:List Value->Prop} (h:∀ a0 a1 a2 a3,P [a0,a1,a2,a3]):∀ us:List Value,us.length=4->P us:=usS (P:=fun l=>P (l)) (fun a0=>usS (P:=fun l=>P (a0::l)) (fun a1=>usS (P:=fun l=>P (a0::a1::l)) (fun a2=>usS (P:=fun l=>P (a0::a1::a2::l)) (fun a3=>us0 (P:=fun l=>P (a0::a1::a2::a3::l)) (h a0 a1 a2 a3)))))
theorem us5 {P:List Value->Prop} (h:∀ a0 a1 a2 a3 a4,P [a0,a1,a2,a3,a4]):∀ us:List Value,us.length=5->P us:=usS (P:=fun l=>P (l)) (fun a0=>usS (P:=fun l=>P (a0::l)) (fun a1=>usS (P:=fun l=>P (a0::a1::l)) (fun a2=>usS (P:=fun l=>P (a0::a1::a2::l)) (fun a3=>usS (P:=fun l=>P (a0::a1::a2::a3::l)) (fun a4=>us0 (P:=fun l=>P (a0::a1::a2::a3::a4::l)) (h a0 a1 a2 a3 a4))))))
variable (T:Txt q.K q.mg wA C fI dT sA jA dA dB)
include T
theorem p11:Pn q C sA 11:=xF (sp:=zgM) (M:=zaT) T (rG T) 'c' T.deal zdI 'e' zbQ (by subst_eqs) (fun ws G Q ⟨a,b,ns,e,h1,h2,h3,h4⟩=>by subst e;exact zki rfl rfl h1 h2 h3 h4) zdy (fun _ _ _ _ _ _=>us2 (fun _ _=>rfl)) rfl
theorem p12:Pn q C sA 12:=xF (sp:=zgL) (M:=zaR) T (p11 T) 'c' T.draw zdG 'e' zbO (by subst_eqs) (fun ws G Q ⟨a,b,m,e,h1,h2,h3⟩=>by subst e;exact zke rfl rfl h1 h2 h3) zdx (fun _ _ _ _ _ _=>us2 (fun _ _=>rfl)) rfl
theorem p13:Pn q C sA 13:=xF (sp:=zbe) (M:=bN) T (p12 T) 'c' T.names zct 'e' zaq (by subst_eqs) (fun ws G Q h=>zhy 'c' h) (by and_intros) (fun _ _ _ _ _ _=>us2 (fun _ _=>rfl)) rfl
theorem p14:Pn q C sA 14:=by
 obtain ⟨f,hm,hd⟩:=T.saying
 exact zhC (N:=10) (sp:=wL) (M:=fO) T (p13 T) 'c' hm hd zbn (fun j=>'e') zac
  (fun ws G Q hh=>by
   obtain ⟨d,l,r,m,xs,_,_,_,_,_,_,h1,h2,_⟩:=hh;omega) (fun j ws G Q h=>by obtain ⟨d,l,r,m,xs,rfl,_⟩:=h;rfl) (fun j ws G Q h=>zfG h) (fun j ws G Q Q' E k hh=>by
   obtain ⟨d,l,r,m,xs,h1,h2,h3,h4,h5,h6,h7,h8,h9,h⟩:=hh;exact ⟨d,l,r,m,xs,h1,h2,h3,h4,h5,h6,h7,h8,h9,fun t G' a b c=>k _ _ (h t G' a b c)⟩) (fun _ _ _ _ _ _=>us3 fun _ _ _=>rfl) rfl
theorem p15:Pn q C sA 15:=by
 obtain ⟨fd,F,_⟩:=T.hI.fd;obtain ⟨o,t,m,l,hdt⟩:=T.dT;have FO:=vG (sp:=zci C) (M:=zaV) F zdK (good T (p14 T)) 'e' zbS (fun ws G Q ⟨p,x,e,_⟩=>by rw[e];rfl) (fun ws G Q h=>zj4 h);have mono:∀ ws G (Q Q':Q3),'i'->zci C ws G Q XN->zci C ws G Q' XN:=fun ws G Q Q' k ⟨p,x,e,h1,h⟩=>⟨p,x,e,h1,k _ _ h⟩
 exact next (p14 T) 'c' rfl fun A hr=>⟨zoy (dws:=[.str "last"]) (dvs:=[.str "last"]) (ds:=[.str "last" t]) T.mkC FO T.mgC (zdj F l hdt fun _ _ _ _ _ _ us hl=>by
  have hl':us.length=5:=by simpa using hl
  clear hl
  revert us hl';refine us5 ?_;exact fun _ _ _ _ _=>⟨_,rfl,rfl⟩) (fun H=>⟨_,_,rfl,rfl,rfl⟩) {⟨_,rfl⟩} mono (hr.mono 'c'),
  fun ws G Q Q' E z h p hp=>mono _ _ _ _ (fun w G' y=>⟨y.1,z _ _ y.2⟩) (h p hp)⟩
theorem p16:Pn q C sA 16:=xF (sp:=(zbg C)) (M:=zaU) T (p15 T) 'c' T.book zdJ 'e' zbR (by subst_eqs) (fun ws G Q h=>zkq 'c' h) (by and_intros) (fun _ _ _ _ _ _=>us1 (fun _=>rfl)) rfl
theorem p17:Pn q C sA 17:=xF (sp:=zcg) (M:=zaO) T (p16 T) 'c' T.word zdD 'e' zbL (by subst_eqs) (fun ws G Q h=>ziO 'c' h) (by and_intros) (fun _ _ _ _ _ _=>us2 (fun _ _=>rfl)) rfl
theorem p18:Pn q C sA 18:=by
 obtain ⟨f,hm,hd⟩:=T.cond
 exact zhC (N:=5) (sp:=qS) (M:=rM) T (p17 T) 'c' hm hd dE (fun j=>'e') gP
  (fun ws G Q hh=>by
   obtain ⟨d,l,p,ps,k,_,_,h1,_⟩:=hh;omega) (fun j ws G Q h=>by obtain ⟨d,l,p,ps,k,rfl,_⟩:=h;rfl) (fun j ws G Q h=>zkp h) (fun j ws G Q Q' E k hh=>by
   obtain ⟨d,l,p,ps,kk,h1,h2,h3,h4,h⟩:=hh;exact ⟨d,l,p,ps,kk,h1,h2,h3,h4,fun c G' a b e f=>k _ _ (h c G' a b e f)⟩) (fun _ _ _ _ _ _=>us3 fun _ _ _=>rfl) rfl
theorem p19:Pn q C sA 19:=xF (sp:=zeL) (M:=zaS) T (p18 T) 'c' T.deed zdH 'e' zbP (by subst_eqs) (fun ws G Q h=>zkh 'c' h) (by and_intros) (fun _ _ _ _ _ _=>us2 (fun _ _=>rfl)) rfl
theorem p20:Pn q C sA 20:=by
 obtain ⟨f,hm,hd⟩:=T.count
 exact zhC (N:=60) (sp:=jF) (M:=bK) T (p19 T) 'c' hm hd zcw (fun j=>'e') zat
  (fun ws G Q hh=>by
   obtain ⟨w,_,_,h1,_⟩:=hh;omega) (fun j ws G Q h=>by obtain ⟨w,rfl,_⟩:=h;rfl) (fun j ws G Q h=>zit h) (fun j ws G Q Q' E k hh=>by
   obtain ⟨w,h1,h2,h3,h⟩:=hh;exact ⟨w,h1,h2,h3,fun i G' a=>k _ _ (h i G' a)⟩) (fun _ _ _ _ _ _=>us1 fun _=>rfl) rfl
theorem p21:Pn q C sA 21:=xF (sp:=nP) (M:=mL) T (p20 T) 'c' T.program zai 'e' cN (by subst_eqs) (fun ws G Q h=>zdT 'c' h) (by and_intros) (fun _ _ _ _ _ _=>us4 (fun _ _ _ _=>rfl)) rfl
theorem p22:Pn q C sA 22:=xF (sp:=zbc) (M:=bQ) T (p21 T) 'c' T.lstart zcq 'e' zan (by subst_eqs) (fun ws G Q h=>zfY h) (by and_intros) (fun _ _ _ _ _ _=>us1 (fun _=>rfl)) rfl
theorem p23:Pn q C sA 23:=xF (sp:=mV) (M:=mK) T (p22 T) 'c' T.lans zaj 'e' cM (by subst_eqs) (fun ws G Q h=>zjT 'c' h) (by and_intros) (fun _ _ _ _ _ _=>us1 (fun _=>rfl)) rfl
theorem p24:Pn q C sA 24:=xF (sp:=kY) (M:=bR) T (p23 T) 'c' T.words zcp 'e' zam (by subst_eqs) (fun ws G Q h=>zgn h) (by and_intros) (fun _ _ _ _ _ _=>us1 (fun _=>rfl)) rfl
theorem p25:Pn q C sA 25:=xF (sp:=qD) (M:=zaQ) T (p24 T) 'c' T.says zdF 'e' zbN (by subst_eqs) (fun ws G Q h=>zjd h) (by and_intros) (fun _ _ _ _ _ _=>us1 (fun _=>rfl)) rfl
theorem p26:Pn q C sA 26:=xF (sp:=(spMv C)) (M:=bM) T (p25 T) 'c' T.lmoves zcu 'e' zar (by subst_eqs) (fun ws G Q h=>zf0 'c' h) (by and_intros) (fun _ _ _ _ _ _=>us2 (fun _ _=>rfl)) rfl
theorem p27:Pn q C sA 27:=xF (sp:=zeJ) (M:=fR) T (p26 T) 'c' T.once zbm 'e' zab (by subst_eqs) (fun ws G Q h=>zjC 'c' h) (by and_intros) (fun _ _ _ _ _ _=>us1 (fun _=>rfl)) rfl
theorem p28:Pn q C sA 28:=xF (sp:=mV) (M:=bT) T (p27 T) 'c' T.ans zcn 'e' zak (by subst_eqs) (fun ws G Q h=>zmT 'c' h) (by and_intros) (fun _ _ _ _ _ _=>us1 (fun _=>rfl)) rfl
theorem p29:Pn q C sA 29:=xF (sp:=zgK) (M:=ze6) T (p28 T) 'c' T.may zgY 'e' zd5 (by subst_eqs) (fun ws G Q h=>zl1 h) (by and_intros) (fun _ _ _ _ _ _=>us2 (fun _ _=>rfl)) rfl
theorem p30:Pn q C sA 30:=xF (sp:=zeO) (M:=sV) T (p29 T) 'c' T.ansM fX 'e' mY (by subst_eqs) (fun ws G Q h=>zku 'c' h) (by and_intros) (fun _ _ _ _ _ _=>us2 (fun _ _=>rfl)) rfl
theorem p31:Pn q C sA 31:=xF (sp:=kY) (M:=zaK) T (p30 T) 'c' T.dof zdC 'e' zbK (by subst_eqs) (fun ws G Q h=>zge 'c' h) (by and_intros) (fun _ _ _ _ _ _=>us1 (fun _=>rfl)) rfl
theorem p32:Pn q C sA 32:=xF (sp:=zch) (M:=ze3) T (p31 T) 'c' T.said zgV 'e' zd3 (by subst_eqs) (fun ws G Q h=>zje h) (by and_intros) (fun _ _ _ _ _ _=>us1 (fun _=>rfl)) rfl
theorem p33:Pn q C sA 33:=xF (sp:=zeM) (M:=rN) T (p32 T) 'c' T.dbtM dG 'e' gQ (by subst_eqs) (fun ws G Q h=>zkl 'c' h) (by and_intros) (fun _ _ _ _ _ _=>us3 (fun _ _ _=>rfl)) rfl
theorem p34:Pn q C sA 34:=xF (sp:=(spMv C)) (M:=zkP) T (p33 T) 'c' T.moves zlr 'e' zhH (by subst_eqs) (fun ws G Q h=>zhB 'c' h) (by and_intros) (fun _ _ _ _ _ _=>us2 (fun _ _=>rfl)) rfl
theorem p35:Pn q C sA 35:=xF (sp:=qD) (M:=ze2) T (p34 T) 'c' T.told zgU 'e' zd2 (by subst_eqs) (fun ws G Q h=>ziY 'c' h) (by and_intros) (fun _ _ _ _ _ _=>us1 (fun _=>rfl)) rfl
theorem p36:Pn q C sA 36:=xF (sp:=sO) (M:=ze4) T (p35 T) 'c' T.repl zgX 'e' zd4 (by subst_eqs) (fun ws G Q h=>zji 'c' h) (by and_intros) (fun _ _ _ _ _ _=>us1 (fun _=>rfl)) rfl
theorem p37:Pn q C sA 37:=xF (sp:=zeK) (M:=ze8) T (p36 T) 'c' T.done zgZ 'e' zd7 (by subst_eqs) (fun ws G Q h=>zkf h) (by and_intros) (fun _ _ _ _ _ _=>us2 (fun _ _=>rfl)) rfl
theorem p38:Pn q C sA 38:=xF (sp:=kO) (M:=zaI) T (p37 T) 'c' T.played zdB 'e' zbI (by subst_eqs) (fun ws G Q h=>zfQ 'c' h) (by and_intros) (fun _ _ _ _ _ _=>us2 (fun _ _=>rfl)) rfl
theorem p39:Pn q C sA 39:=xF (sp:=(gA sA)) (M:=bS) T (p38 T) 'c' T.within zco 'e' zal (by subst_eqs) (fun ws G Q h=>zfy h) (by and_intros) (fun _ _ _ _ _ _=>us2 (fun _ _=>rfl)) rfl
theorem p40:Pn q C sA 40:=xF (sp:=wB) (M:=zaJ) T (p39 T) 'c' T.joined bW 'e' zbJ (by subst_eqs) (fun ws G Q h=>zaZ rfl h) (by and_intros) (fun _ _ _ _ _ _=>us1 (fun _=>rfl)) rfl
theorem p41:Pn q C sA 41:=xF (sp:=(zi8 noSd)) (M:=pC) T (p40 T) 'c' T.hom zaa 'e' fL (by subst_eqs) (fun ws G Q h=>zmo 'c' h) (by and_intros) (fun _ _ _ _ _ _=>us3 (fun _ _ _=>rfl)) rfl
theorem p42:Pn q C sA 42:=xF (sp:=fZ) (M:=mQ) T (p41 T) 'c' T.single zag 'e' cP (by subst_eqs) (fun ws G Q h=>zfE 'c' h) (by and_intros) (fun _ _ _ _ _ _=>us3 (fun _ _ _=>rfl)) rfl
theorem p43:Pn q C sA 43:=by
 obtain ⟨f,hm,hd⟩:=T.holds;obtain ⟨fd,F,_⟩:=hd.fd;obtain ⟨o,m,l,hdt⟩:=T.dtH;have FO:=vG (sp:=zbf) (M:=zkQ) F zls (good T (p42 T)) 'e' zhI (fun ws G Q h=>by obtain ⟨c,t,m,rfl,_⟩:=h;rfl) (fun ws G Q h=>zh0 'c' h)
 exact next (p42 T) 'c' rfl fun A hr=>nK FO hm F.kp (zdk F l hdt fun _ _ _ _ _ _=>us3 fun _ _ _=>⟨_,rfl,rfl⟩) (fun ws G Q Q' E k hh=>by
   obtain ⟨c,t,m,h1,h2,h3,h4,h5,h⟩:=hh;exact ⟨c,t,m,h1,h2,h3,h4,h5,fun G' a=>k _ _ (h G' a)⟩) hr 'c'
theorem p44:Pn q C sA 44:=by
 obtain ⟨f,hm,hd⟩:=T.choice;obtain ⟨fd,F,_⟩:=hd.fd;obtain ⟨o,m,l,hdt⟩:=T.dtC;have FO:=vG (sp:=(jZ C)) (M:=zd0) F zeR (good T (p43 T)) 'e' zaX (fun ws G Q h=>by obtain ⟨rs,b,x,z,m,rfl,_⟩:=h;rfl) (fun ws G Q h=>za4 'c' h)
 exact next (p43 T) 'c' rfl fun A hr=>nK FO hm F.kp (zdk F l hdt fun _ _ _ _ _ _=>us4 fun _ _ _ _=>⟨_,rfl,rfl⟩) (fun ws G Q Q' E k hh=>by
   obtain ⟨rs,b,x,z,m,h1,h2,h3,h4,h5,h6,h⟩:=hh;exact ⟨rs,b,x,z,m,h1,h2,h3,h4,h5,h6,fun G' a=>k _ _ (h G' a)⟩) hr 'c'
theorem p45:Pn q C sA 45:=by
 obtain ⟨f,hm,hd⟩:=T.lholds
 exact zhC (N:=8) (sp:=wW) (M:=bL) T (p44 T) 'c' hm hd zcv (fun j=>'e') zas
  (fun ws G Q hh=>by
   obtain ⟨c,t,m,_,_,_,_,h1,_⟩:=hh;omega) (fun j ws G Q h=>by obtain ⟨c,t,m,rfl,_⟩:=h;rfl) (fun j ws G Q h=>zf1 h) (fun j ws G Q Q' E k hh=>by
   obtain ⟨c,t,m,h1,h2,h3,h4,h5,h⟩:=hh;exact ⟨c,t,m,h1,h2,h3,h4,h5,fun G' a=>k _ _ (h G' a)⟩) (fun _ _ _ _ _ _=>us3 fun _ _ _=>rfl) rfl
theorem p46:Pn q C sA 46:=xF (sp:=kO) (M:=zaP) T (p45 T) 'c' T.lstep zdE 'e' zbM (by subst_eqs) (fun ws G Q h=>zhE 'c' h) (by and_intros) (fun _ _ _ _ _ _=>us2 (fun _ _=>rfl)) rfl
theorem p47:Pn q C sA 47:=xF (sp:=nO) (M:=fN) T (p46 T) 'c' T.lchoice zbo 'e' zad (by subst_eqs) (fun ws G Q h=>zd8 'c' h) (by and_intros) (fun _ _ _ _ _ _=>us4 (fun _ _ _ _=>rfl)) rfl
theorem p48:Pn q C sA 48:=xF (sp:=sO) (M:=mM) T (p47 T) 'c' T.lrepl zah 'e' cO (by subst_eqs) (fun ws G Q h=>zhG 'c' h) (by and_intros) (fun _ _ _ _ _ _=>us1 (fun _=>rfl)) rfl
omit T
theorem mW:∀ ws G (Q Q':Q3),'i'->jZ C ws G Q XN->jZ C ws G Q' XN:=fun ws G Q Q' k h=>by
 obtain ⟨rs,b,x,z,m,h1,h2,h3,h4,h5,h6,h⟩:=h;exact ⟨rs,b,x,z,m,h1,h2,h3,h4,h5,h6,fun G' a=>k _ _ (h G' a)⟩
theorem zgB (T:Txt q.K q.mg wA C fI dT sA jA dA dB) {A:Around} (hr:Room (rk 44) A):SxE (q.at A) ⟨dcM "choice", dcS (jZ C) [.non]⟩/\jI (dcS (jZ C) [.non]):=by
 obtain ⟨f,hm,hd⟩:=T.choice;obtain ⟨fd,F,_⟩:=hd.fd;obtain ⟨o,m,l,hdt⟩:=T.dtC;have FO:=vG (sp:=jZ C) (M:=zd0) F zeR (good T (p43 T)) 'e' zaX (fun ws G Q h=>by obtain ⟨rs,b,x,z,m,rfl,_⟩:=h;rfl) (fun ws G Q h=>za4 'c' h);refine ⟨sx_dc (zk0 (dws:=[.non]) (dvs:=[.non]) (ds:=[.none]) FO hm F.kp (zdj F l hdt fun _ _ _ _ _ _ us hl=>?_) (fun H=>⟨_,_,rfl,rfl,rfl⟩) (.cons rfl .nil) mW (hr.mono 'c')),zkk mW⟩;have hl':us.length=3:=by simpa using hl
 clear hl
 revert us hl';refine us3 ?_;exact fun _ _ _=>⟨_,rfl,rfl⟩
theorem goodW (T:Txt q.K q.mg wA C fI dT sA jA dA dB) (h:Pn q C sA 48):∀ A,Room (rk 48) A->L3.Good (dN q.K C sA) (q.at A):=fun A hr=>by
 have hu:=gC hr
 exact zed (Γ:=dN q.K C sA) hu (h A hr)
  (zG (tW T.mgW (v:=.ref wA) rfl T.wrd) (zG (tW T.mgJ (v:=.ref jA) rfl T.jnD) (zG (zh5 T.tup 'j') (zG (tW T.mgS (v:=.ref sA) rfl fun _=>rfl) yM))))
  (zG zij (zG zfl (zG zim (zG (zik hu) (zG zil (zG (zii hu) yM))))))
  (zG (zig T.range) yM)
  (zG ⟨T.cl,T.nf⟩ yM)
  (zG (zih T.list T.rev) (zG ⟨znf,zeS⟩ (zG (zca T (hr.mono 'c')) (zG (zgB T (hr.mono 'c')) yM)))) rfl
include T
theorem p49:Pn q C sA 49:=by
 obtain ⟨f,hm,hd⟩:=T.right;obtain ⟨fd,F,_⟩:=hd.fd;have FO:=vG (sp:=zbd C) (M:=bP) F zcr (goodW T (p48 T)) 'e' zao (fun ws G Q h=>by obtain ⟨rs,b,x,z,rfl,_⟩:=h;rfl) (fun ws G Q h=>zg3 h)
 exact next (p48 T) 'c' rfl fun A hr=>nK FO hm F.kp (nS F fun _ _ _ _ _ _=>us3 fun _ _ _=>rfl) (fun ws G Q Q' E k hh=>by
  obtain ⟨rs,b,x,z,h1,h2,h3,h4,h5,h⟩:=hh;exact ⟨rs,b,x,z,h1,h2,h3,h4,h5,fun G' a=>k _ _ (h G' a)⟩) hr 'c'
theorem p50:Pn q C sA 50:=by
 obtain ⟨f,hm,hd⟩:=T.parts
 exact zhC (N:=9) (sp:=wE) (M:=bO) T (p49 T) 'c' hm hd zcs (fun j=>'e') zap
  (fun ws G Q hh=>by
   obtain ⟨t,_,_,h1,_⟩:=hh;have:=t.pos;omega) (fun j ws G Q h=>by obtain ⟨t,rfl,_⟩:=h;rfl) (fun j ws G Q h=>zhl h) (fun j ws G Q Q' E k hh=>by
   obtain ⟨t,h1,h2,h3,h⟩:=hh;exact ⟨t,h1,h2,h3,fun r ps G' a b c d e f=>k _ _ (h r ps G' a b c d e f)⟩) (fun _ _ _ _ _ _=>us1 fun _=>rfl) rfl
theorem p51:Pn q C sA 51:=xF (sp:=(zbh C)) (M:=bJ) T (p50 T) 'c' T.lafter zcx 'e' zau (by subst_eqs) (fun ws G Q h=>zf3 'c' h) (by and_intros) (fun _ _ _ _ _ _=>us4 (fun _ _ _ _=>rfl)) rfl
omit T
theorem zma:(zD slaw).names.lookup ("_law_script" : Str)=some .local:=by decide +kernel
theorem zn7 {P:Program} {w:World} {K:yI} {mg:Str->Option Value} (T:Txt K mg wA C fI dT sA jA dA dB) {f:Addr} (hd:HD K "law" "law" slaw .none f):∃ fd:FuncData,(∀ (s:Shared) (u:Value),BindsTo s fd ⟨[u],[]⟩ [("_law_script", u)])/\fd.scope.names.lookup ("_law_script" : Str)=some .local/\∀ base:Heap,FnOk P w K mg base CX0 195 f fd ["_law_script"] (tX K zfD):=by
 obtain ⟨fd,F,kV,doc,pm,an,cdv,ct,e⟩:=hd.fd;refine ⟨fd,fun s u=>by subst e;exact .of_eq rfl,by subst e;exact zma,fun base=>vG (q:=⟨P,w,K,mg,base⟩) (k:=194) (sp:=zfD) (M:=mlaw) F sclaw (good (q:=⟨P,w,K,mg,base⟩) T (p51 T)) 'e' zl4 (fun ws G Q h=>by obtain ⟨a,ns,rfl,_⟩:=h;rfl) fun ws G Q h=>?_⟩;obtain ⟨a,ns,rfl,hs,hl,h⟩:=h;exact zl7 hs hl h
end
end K49
namespace K49
open PySem PySem.Spec PyProof.Rows L2 L3
open PySem.W (nsIn keepIn codeIn mg_of findIn mg_none_of fnOf)
theorem all_mk {l:PySem.W.OpenLaw} {w:World} {K:yI} {h:Heap} {mg:Str->Option Value} {fa wA C fI dT sA jA dA dB t1 t2 t3 t4 t5:Addr} (X:K.In h) (G:h.Ns mainGlobals mg) (hfa:mg "law" = fa⁻¹)
  {oT1 oT2 oT3 oT4 oT5 odI anI oD:Option Addr} {sT1 sT2 sT3 sT4 sT5 slI sD:Array (Option Value)} {ocI kVI dcI pmI cdI ctI cD:Value} {tk1 tk2 tk3 tk4 tk5 tv1 tv2 tv3 tv4 tv5:Tok} {nW nT1 nT2 nT3 nT4 nT5:Nat} {hs1 hs2 hs3 hs4 hs5:Int} {tD:Tok} {nD:Nat} {odS anS oE oF:Option Addr} {slS sE sF:Array (Option Value)} {ocS kVS dcS pmS cdS ctS cE cF:Value} {jk1 jk2 jk3 ji1 ji2 ji3:Tok} {nJ nE nF:Nat} {jh1 jh2 jh3:Int}
  (d1:Df K "_law_deal" uS .none)
  (d2:Df K "_law_draw" uU .none)
  (d3:Df K "_law_names" kD .none)
  (d4:Df K "_law_saying" qR .none)
  (d5:Df K "_law_book" uR .none)
  (d6:Df K "_law_word" uX .none)
  (d7:Df K "_law_condition" wJ .none)
  (d8:Df K "_law_deed" uT .none)
  (d9:Df K "_law_count" vZ .none)
  (d10:Df K "_law_program" jK .none)
  (d11:Df K "_law_start" kH .none)
  (d12:Df K "_law_answers" jJ .none)
  (d13:Df K "_law_words" kJ .none)
  (d14:Df K "_law_says" uV .none)
  (d15:Df K "_law_moves" kB .none)
  (d16:Df K "sorted_once" qT .none)
  (d17:Df K "answers_to" kM .none)
  (d18:Df K "may_say" pV .none)
  (d19:Df K "answering_moves" wV .none)
  (d20:Df K "doubts_of" uY .none)
  (d21:Df K "said_by" pY .none)
  (d22:Df K "doubting_moves" wK .none)
  (d23:Df K "moves" zcj .none)
  (d24:Df K "told_by" pZ .none)
  (d25:Df K "replies" pX .none)
  (d26:Df K "is_done" pU .none)
  (d27:Df K "played_by" uZ .none)
  (d28:Df K "all_within" kK .none)
  (d29:Df K "joined_by" xJ .none)
  (d30:Df K "holds_of_move" jY .none)
  (d31:Df K "single_holds" jM .none)
  (d32:Df K "holds" zcl (.ref dA))
  (d33:Df K "choice" fY (.ref dB))
  (d34:Df K "_law_holds" kA .none)
  (d35:Df K "_law_step" uW .none)
  (d36:Df K "_law_choice" qQ .none)
  (d37:Df K "_law_replies" jL .none)
  (d38:Df K "_law_right" kF .none)
  (d39:Df K "_law_parts" kE .none)
  (d40:Df K "_law_after" vY .none)
  (d41:Df K "law" slaw .none)
  (z0:nsIn K mainGlobals "max" = some none)
  (z1:nsIn K mainGlobals "len" = some none)
  (z2:nsIn K mainGlobals "all" = some none)
  (z3:nsIn K mainGlobals "list" = some none)
  (z4:nsIn K mainGlobals "isinstance" = some none)
  (z5:nsIn K mainGlobals "any" = some none)
  (z6:nsIn K mainGlobals "sorted" = some none)
  (z7:nsIn K mainGlobals "tuple" = some none)
  (z8:nsIn K mainGlobals "int" = some none)
  (z9:nsIn K mainGlobals "sum" = some none)
  (z10:nsIn K mainGlobals "range" = some none)
  (z11:nsIn K mainGlobals "reversed" = some none)
  (aC:nsIn K mainGlobals "Book" = some (C⁻¹)) (aI:findIn K (.ref C) "__init__" = some (fI⁻¹)) (iI:PySem.W.isFn K (.ref fI)=true)
  (lI:K.lookup fI=some ⟨ocI,odI,.func (fnOf "__init__" "Book.__init__" (qM qZ) (yZ qZ) (zD qZ) (.ref dT) kVI dcI pmI anI cdI ctI),slI⟩) (cI:codeIn K cdI "Book.__init__" = true) (kI:keepIn K (.ref fI)=true)
  (lD:K.lookup dT=some ⟨cD,oD,.seq #[.str "last" tD] nD,sD⟩)
  (pg:PySem.W.plainGet K C Str.empty=true) (hdi:PySem.W.hasDictIn K C=true) (po:PySem.W.plainOver K C=true) (sa:findIn K (.ref C) "__setattr__" = some (some (.builtin "object.__setattr__"))) (mk:PySem.W.makesIn K C=true) (kC:keepIn K (.ref C)=true)
  (n1:findIn K (.ref C) "answers" = some none) (n2:findIn K (.ref C) "again" = some none) (n3:findIn K (.ref C) "doubts" = some none) (n4:findIn K (.ref C) "speaks" = some none) (n5:findIn K (.ref C) "other" = some none)
  (aW:nsIn K mainGlobals "WORDS" = some (wA⁻¹)) (lW:K.lookup wA=some ⟨.type "dict", none,.dict #[⟨hs1,.str "say" tk1,.ref t1⟩,⟨hs2,.str "not" tk2,.ref t2⟩,⟨hs3,.str "and" tk3,.ref t3⟩,⟨hs4,.str "or" tk4,.ref t4⟩,⟨hs5,.str "if" tk5,.ref t5⟩] nW,#[]⟩)
  (lT1:K.lookup t1=some ⟨.type "tuple", oT1,.seq #[] nT1,sT1⟩)
  (lT2:K.lookup t2=some ⟨.type "tuple", oT2,.seq #[.str "not" tv1] nT2,sT2⟩)
  (lT3:K.lookup t3=some ⟨.type "tuple", oT3,.seq #[.str "left" tv2,.str "right" tv3] nT3,sT3⟩)
  (lT4:K.lookup t4=some ⟨.type "tuple", oT4,.seq #[.str "which" tv4] nT4,sT4⟩)
  (lT5:K.lookup t5=some ⟨.type "tuple", oT5,.seq #[.str "if" tv5] nT5,sT5⟩) (hw:(wA==sysModules)=false)
  (aS:nsIn K mainGlobals "joined_by" = some (sA⁻¹)) (lS:K.lookup sA=some ⟨ocS,odS,.func (fnOf "joined_by" "joined_by" (qM xJ) (yZ xJ) (zD xJ) .none kVS dcS pmS anS cdS ctS),slS⟩) (cS:codeIn K cdS "joined_by" = true) (kS:keepIn K (.ref sA)=true)
  (aJ:nsIn K mainGlobals "JOINED" = some (jA⁻¹)) (lJ:K.lookup jA=some ⟨.type "dict", none,.dict #[⟨jh1,.str "not" jk1,.int 1 ji1⟩,⟨jh2,.str "and" jk2,.int 2 ji2⟩,⟨jh3,.str "or" jk3,.int 2 ji3⟩] nJ,#[]⟩) (hwJ:(jA==sysModules)=false)
  (lE:K.lookup dA=some ⟨cE,oE,.seq #[.none] nE,sE⟩) (lF:K.lookup dB=some ⟨cF,oF,.seq #[.none] nF,sF⟩) :
  ∃ fd:FuncData,(∀ (s:Shared) (u:Value),BindsTo s fd ⟨[u],[]⟩ [("_law_script", u)])/\fd.scope.names.lookup ("_law_script" : Str)=some .local/\∀ base:Heap,K.In base->base.Ns mainGlobals mg->FnOk l.prog w K mg base CX0 195 fa fd ["_law_script"] (tX K zfD):=by
 obtain ⟨fl,ml,hl⟩:=d41.to X G;have e:=hfa.symm.trans ml;cases e;have sz0:∀ k:Nat,k<=5->k<=sizeLine:=fun k hk=>by rw[Z5];omega
 have r1:∀ H,wM K H (.tup []) (.ref t1):=fV (vs:=[]) lT1 rfl rfl (sz0 0 'c') .nil fun H=>rfl;have r2:∀ H,wM K H (.tup [.str "not"]) (.ref t2):=fV (vs:=[.str "not"]) lT2 rfl rfl (sz0 1 'c') {⟨_,rfl⟩} fun H=>⟨_,_,rfl,rfl,rfl⟩;have r3:∀ H,wM K H (.tup [.str "left", .str "right"]) (.ref t3):=fV (vs:=[.str "left", .str "right"]) lT3 rfl rfl (sz0 2 'c') {⟨_,rfl⟩,⟨_,rfl⟩} fun H=>⟨_,_,rfl,rfl,_,_,rfl,rfl,rfl⟩;have r4:∀ H,wM K H (.tup [.str "which"]) (.ref t4):=fV (vs:=[.str "which"]) lT4 rfl rfl (sz0 1 'c') {⟨_,rfl⟩} fun H=>⟨_,_,rfl,rfl,rfl⟩;have r5:∀ H,wM K H (.tup [.str "if"]) (.ref t5):=fV (vs:=[.str "if"]) lT5 rfl rfl (sz0 1 'c') {⟨_,rfl⟩} fun H=>⟨_,_,rfl,rfl,rfl⟩
 have T:Txt K mg wA C fI dT sA jA dA dB:={
  cl:=⟨pg,hdi,po,sa⟩
  nf:=(zG n1 (zG n2 (zG n3 (zG n4 (zG n5 yM)))))
  mgC:=mg_of X G aC
  mkC:=⟨mk,aI,iI,kC⟩
  hI:=HD.mk' lI cI kI
  dT:=⟨_,tD,nD,lD,rfl⟩
  deal:=d1.to X G
  draw:=d2.to X G
  names:=d3.to X G
  saying:=d4.to X G
  book:=d5.to X G
  word:=d6.to X G
  cond:=d7.to X G
  deed:=d8.to X G
  count:=d9.to X G
  program:=d10.to X G
  lstart:=d11.to X G
  lans:=d12.to X G
  words:=d13.to X G
  says:=d14.to X G
  lmoves:=d15.to X G
  once:=d16.to X G
  ans:=d17.to X G
  may:=d18.to X G
  ansM:=d19.to X G
  dof:=d20.to X G
  said:=d21.to X G
  dbtM:=d22.to X G
  moves:=d23.to X G
  told:=d24.to X G
  repl:=d25.to X G
  done:=d26.to X G
  played:=d27.to X G
  within:=d28.to X G
  joined:=d29.to X G
  hom:=d30.to X G
  single:=d31.to X G
  holds:=d32.to X G
  choice:=d33.to X G
  lholds:=d34.to X G
  lstep:=d35.to X G
  lchoice:=d36.to X G
  lrepl:=d37.to X G
  right:=d38.to X G
  parts:=d39.to X G
  lafter:=d40.to X G
  max:=Zak X G z0
  len:=Zak X G z1
  all:=Zak X G z2
  list:=Zak X G z3
  isi:=Zak X G z4
  any:=Zak X G z5
  srt:=Zak X G z6
  tup:=Zak X G z7
  int:=Zak X G z8
  sum:=Zak X G z9
  range:=Zak X G z10
  rev:=Zak X G z11
  mgW:=mg_of X G aW
  wrd:=fun H=>⟨wA,[.ref t1,.ref t2,.ref t3,.ref t4,.ref t5],rfl,⟨_,_,_,lW,⟨rfl,rfl,rfl⟩,rfl,sz0 5 'c',hw,⟨"say", tk1,.ref t1,_,_,rfl,rfl,rfl,rfl,⟨"not", tk2,.ref t2,_,_,rfl,rfl,rfl,rfl,⟨"and", tk3,.ref t3,_,_,rfl,rfl,rfl,rfl,⟨"or", tk4,.ref t4,_,_,rfl,rfl,rfl,rfl,⟨"if", tk5,.ref t5,_,_,rfl,rfl,rfl,rfl,⟨rfl,rfl⟩⟩⟩⟩⟩⟩⟩,⟨_,_,rfl,r1 H,⟨_,_,rfl,r2 H,⟨_,_,rfl,r3 H,⟨_,_,rfl,r4 H,⟨_,_,rfl,r5 H,rfl⟩⟩⟩⟩⟩⟩
  mgS:=mg_of X G aS
  hdS:=HD.mk' lS cS kS
  mgJ:=mg_of X G aJ
  jnD:=fun H=>⟨jA,[.int 1,.int 2,.int 2],rfl,⟨_,_,_,lJ,⟨rfl,rfl,rfl⟩,rfl,sz0 3 'c',hwJ,⟨"not", jk1,.int 1,_,_,rfl,rfl,rfl,⟨_,rfl⟩,⟨"and", jk2,.int 2,_,_,rfl,rfl,rfl,⟨_,rfl⟩,⟨"or", jk3,.int 2,_,_,rfl,rfl,rfl,⟨_,rfl⟩,⟨rfl,rfl⟩⟩⟩⟩⟩,⟨_,_,rfl,rfl,⟨_,_,rfl,rfl,⟨_,_,rfl,rfl,rfl⟩⟩⟩⟩
  dtH:=⟨_,nE,lE,rfl⟩
  dtC:=⟨_,nF,lF,rfl⟩ }
 obtain ⟨fd,hb,hx,hF⟩:=zn7 (P:=l.prog) (w:=w) T hl;exact ⟨fd,hb,hx,fun base _ _=>hF base⟩
end K49
end
namespace PySem.W.Fast
theorem tw15364241304706349978:0=0:=rfl
theorem tw3913131324582126435:0=0:=rfl
theorem tw1326617316690496888:0=0:=rfl
theorem tw1867023290010236991:0=0:=rfl
theorem tw2893553588587741255:0=0:=rfl
theorem tw8936649684068084098:0=0:=rfl
theorem tw1069621004298399646:0=0:=rfl
theorem tw11842442877196522266:0=0:=rfl
theorem tw7739085147762427124:0=0:=rfl
theorem tw15089377123990813782:0=0:=rfl
theorem tw5863209534941137912:0=0:=rfl
theorem tw10483817457921370755:0=0:=rfl
theorem tw4683408517463903363:0=0:=rfl
theorem tw3597136608175595495:0=0:=rfl
theorem tw13026488251549449539:0=0:=rfl
theorem tw16039542112466461462:0=0:=rfl
theorem tw18181451289913313581:0=0:=rfl
theorem tw6221423456900929777:0=0:=rfl
theorem tw3812569745426864030:0=0:=rfl
theorem tw10351928821792860848:0=0:=rfl
theorem tw5152149411166610116:0=0:=rfl
theorem tw2364925858513711822:0=0:=rfl
theorem tw6995110263518227754:0=0:=rfl
theorem tw14702692911982152621:0=0:=rfl
theorem tw4718158019421276695:0=0:=rfl
theorem tw5623470002468029341:0=0:=rfl
theorem tw927315573817984148:0=0:=rfl
theorem tw17917047421212169330:0=0:=rfl
theorem tw4996778952539757061:0=0:=rfl
theorem tw15448836948798576938:0=0:=rfl
theorem tw1651021639204305960:0=0:=rfl
theorem tw16379934177663546877:0=0:=rfl
theorem tw16463237948132721693:0=0:=rfl
theorem tw1995256436740164659:0=0:=rfl
theorem tw5762513493026032613:0=0:=rfl
theorem tw14752694410020120104:0=0:=rfl
theorem tw8865302905672807234:0=0:=rfl
theorem tw4643858206996933589:0=0:=rfl
theorem tw4645569139359192564:0=0:=rfl
theorem tw5989994805926999210:0=0:=rfl
theorem tw17593538100552721663:0=0:=rfl
theorem tw6133113210110997903:0=0:=rfl
theorem tw3198775810641829351:0=0:=rfl
theorem tw13025201599421120215:0=0:=rfl
theorem tw4214774971781994320:0=0:=rfl
theorem tw3469758222661891925:0=0:=rfl
theorem tw14549203847020561004:0=0:=rfl
theorem tw7089082173834011534:0=0:=rfl
theorem tw9623178304558516955:0=0:=rfl
theorem tw1823628260727653680:0=0:=rfl
theorem tw9076212147014515318:0=0:=rfl
theorem tw1511999054242231189:0=0:=rfl
theorem tw14698510601500825521:0=0:=rfl
theorem tw16708994904023951648:0=0:=rfl
theorem tw18436846021459268399:0=0:=rfl
theorem tw5413376251099290027:0=0:=rfl
theorem tw11903365817097236273:0=0:=rfl
theorem tw5700528664456446334:0=0:=rfl
theorem tw13796720224996524737:0=0:=rfl
theorem tw15483983261016611289:0=0:=rfl
theorem tw11528376786275543430:0=0:=rfl
theorem tw9882042286641514793:0=0:=rfl
theorem tw17736386455305697054:0=0:=rfl
theorem tw12886821558163585181:0=0:=rfl
theorem tw6088877415904574345:0=0:=rfl
theorem tw9955594160783879808:0=0:=rfl
theorem tw12874701599955267586:0=0:=rfl
theorem tw1363860865791140262:0=0:=rfl
theorem tw3647340468680088015:0=0:=rfl
theorem tw2738004012250334158:0=0:=rfl
theorem tw12632856086617723700:0=0:=rfl
theorem tw17779465855257301425:0=0:=rfl
theorem tw11995414817639594462:0=0:=rfl
theorem tw18438167115356272825:0=0:=rfl
theorem tw6059198541023917769:0=0:=rfl
theorem tw10037948812396171569:0=0:=rfl
theorem tw11646875805615592748:0=0:=rfl
theorem tw10680184719222818074:0=0:=rfl
theorem tw16695998230957904934:0=0:=rfl
theorem tw7055588757852485412:0=0:=rfl
theorem tw6582493718074414568:0=0:=rfl
theorem tw4847085840316032952:0=0:=rfl
theorem tw9460940199643145901:0=0:=rfl
theorem tw3607495566387185472:0=0:=rfl
theorem tw5658066891515547793:0=0:=rfl
theorem tw11049476645711354528:0=0:=rfl
theorem tw10552254019938097991:0=0:=rfl
theorem tw8308909456900891311:0=0:=rfl
theorem tw6285322378074863446:0=0:=rfl
theorem tw3487843853442151363:0=0:=rfl
theorem tw17366550100594866818:0=0:=rfl
theorem tw9982452671378536975:0=0:=rfl
theorem tw4671360480011884624:0=0:=rfl
theorem tw10153843300418746505:0=0:=rfl
theorem tw17799028249576593743:0=0:=rfl
theorem tw9099214674420716025:0=0:=rfl
theorem tw7068540266552504486:0=0:=rfl
theorem tw16192113354794648468:0=0:=rfl
theorem tw6516887821387864097:0=0:=rfl
theorem tw10294904445549147199:0=0:=rfl
theorem tw3878438894571413434:0=0:=rfl
theorem tw14832417676899043672:0=0:=rfl
theorem tw8349592565226041528:0=0:=rfl
theorem tw9584569097841064830:0=0:=rfl
theorem tw1455297628568799375:0=0:=rfl
theorem tw14814994123528145914:0=0:=rfl
theorem tw5700656875131569373:0=0:=rfl
theorem tw575261355257079895:0=0:=rfl
theorem tw3374652582341819721:0=0:=rfl
theorem tw18222112362080643660:0=0:=rfl
theorem tw16443336140962098866:0=0:=rfl
theorem tw504682677195101315:0=0:=rfl
theorem tw17670856253451291657:0=0:=rfl
theorem tw14252982422730556361:0=0:=rfl
theorem tw9137284414328774159:0=0:=rfl
theorem tw13968701071416747125:0=0:=rfl
theorem tw17415054436841229731:0=0:=rfl
theorem tw3371744504243310848:0=0:=rfl
theorem tw10163741505338496411:0=0:=rfl
theorem tw387843151143684087:0=0:=rfl
theorem tw14629701285320238756:0=0:=rfl
theorem tw12971666926930355884:0=0:=rfl
theorem tw16585304990718844057:0=0:=rfl
theorem tw2363250357269142434:0=0:=rfl
theorem tw16589183916890533988:0=0:=rfl
theorem tw1709541978335138280:0=0:=rfl
theorem tw2860403473251583221:0=0:=rfl
theorem tw7547914549528897576:0=0:=rfl
theorem tw11348192761895055268:0=0:=rfl
theorem tw11336038668571019325:0=0:=rfl
theorem tw8710129533901640939:0=0:=rfl
theorem tw13581904648403235811:0=0:=rfl
theorem tw3708504296111839380:0=0:=rfl
theorem tw10271170624242472235:0=0:=rfl
theorem tw5985163523887068794:0=0:=rfl
theorem tw3925398677866799678:0=0:=rfl
theorem tw391157670755818620:0=0:=rfl
theorem tw8695862534413107523:0=0:=rfl
theorem tw376040509250347315:0=0:=rfl
theorem tw14016675009602156070:0=0:=rfl
theorem tw15016081331477688783:0=0:=rfl
theorem tw6857967194071103536:0=0:=rfl
theorem tw10421352090055139392:0=0:=rfl
theorem tw7314186401172480992:0=0:=rfl
theorem tw11264879498684466670:0=0:=rfl
theorem tw10196217300560633028:0=0:=rfl
theorem tw15997259658173236687:0=0:=rfl
theorem tw13943507083736860686:0=0:=rfl
theorem tw10532987033008773855:0=0:=rfl
theorem tw8869702027990368173:0=0:=rfl
theorem tw17922563733329754701:0=0:=rfl
theorem tw1491781824015976931:0=0:=rfl
theorem tw8521081211539897952:0=0:=rfl
theorem tw17647305487524752918:0=0:=rfl
theorem tw1584943653226555786:0=0:=rfl
theorem tw10635764697017405828:0=0:=rfl
theorem tw2729301104263039946:0=0:=rfl
theorem tw9392627081877049382:0=0:=rfl
theorem tw5367342277226628039:0=0:=rfl
theorem tw2489843784475986190:0=0:=rfl
theorem tw14886914200035259302:0=0:=rfl
theorem tw13065704284999072876:0=0:=rfl
theorem tw11485930151283822742:0=0:=rfl
theorem tw12761850027707704065:0=0:=rfl
theorem tw3705776538751316391:0=0:=rfl
theorem tw5743950678615808213:0=0:=rfl
theorem tw156233475725954135:0=0:=rfl
theorem tw895941707614815155:0=0:=rfl
theorem tw14622211939184784445:0=0:=rfl
theorem tw16721498466271848818:0=0:=rfl
theorem tw1835428098578411835:0=0:=rfl
theorem tw13219157660253104847:0=0:=rfl
theorem tw13871392948080567326:0=0:=rfl
theorem tw17322962310515932775:0=0:=rfl
theorem tw10530011625596531798:0=0:=rfl
theorem tw1759273752800635478:0=0:=rfl
theorem tw17065744656261062254:0=0:=rfl
theorem tw17403456660919810675:0=0:=rfl
theorem tw5979733624293119538:0=0:=rfl
theorem tw9858451692932984951:0=0:=rfl
theorem tw12756714433031800753:0=0:=rfl
theorem tw5516275774547746871:0=0:=rfl
theorem tw480653452710989036:0=0:=rfl
theorem tw16198273586955562234:0=0:=rfl
theorem tw4908748491044135315:0=0:=rfl
theorem tw4302516391661202408:0=0:=rfl
theorem tw16677623520030685097:0=0:=rfl
theorem tw9074097758400515508:0=0:=rfl
theorem tw17202567605309644186:0=0:=rfl
theorem tw10405424799133963408:0=0:=rfl
theorem tw17463131928049098767:0=0:=rfl
theorem tw13758538711828346834:0=0:=rfl
theorem tw15163813380467664728:0=0:=rfl
theorem tw377027927921967196:0=0:=rfl
theorem tw6309268575086932450:0=0:=rfl
theorem tw15202117772889342025:0=0:=rfl
theorem tw8601216491598008078:0=0:=rfl
theorem tw6025216560271294406:0=0:=rfl
theorem tw809751684699501516:0=0:=rfl
theorem tw9303166589944443969:0=0:=rfl
theorem tw2879189912665494285:0=0:=rfl
theorem tw5508416997767094363:0=0:=rfl
theorem tw9556552013891435519:0=0:=rfl
theorem tw18018878649421205508:0=0:=rfl
theorem tw9931959639054877156:0=0:=rfl
theorem tw9768999473336319747:0=0:=rfl
theorem tw9418156543055756596:0=0:=rfl
theorem tw932406162799617117:0=0:=rfl
theorem tw9197852213744912407:0=0:=rfl
theorem tw8923352350926483830:0=0:=rfl
theorem tw8540576086522514961:0=0:=rfl
theorem tw796957679091912921:0=0:=rfl
theorem tw7913023497926708614:0=0:=rfl
theorem tw7625385108186547277:0=0:=rfl
theorem tw744761197135997071:0=0:=rfl
theorem tw7326073908607742375:0=0:=rfl
theorem tw7235959387983504431:0=0:=rfl
theorem tw7208139652292989091:0=0:=rfl
theorem tw6682154099400785324:0=0:=rfl
theorem tw6524397387792238770:0=0:=rfl
theorem tw6493458813106521350:0=0:=rfl
theorem tw6406539644425147813:0=0:=rfl
theorem tw6303180040732757787:0=0:=rfl
theorem tw6284931567178025798:0=0:=rfl
theorem tw587365177202872237:0=0:=rfl
theorem tw5782847319173905314:0=0:=rfl
theorem tw5539744342698739055:0=0:=rfl
theorem tw4946254636379163432:0=0:=rfl
theorem tw4503388832898763290:0=0:=rfl
theorem tw3912545428148662412:0=0:=rfl
theorem tw3866308550146210198:0=0:=rfl
theorem tw3590979206245933546:0=0:=rfl
theorem tw3561650659632068152:0=0:=rfl
theorem tw3557367342273899788:0=0:=rfl
theorem tw3379499308644226165:0=0:=rfl
theorem tw3194114124288825505:0=0:=rfl
theorem tw3111318916452803717:0=0:=rfl
theorem tw2797173592055068342:0=0:=rfl
theorem tw2655734299561576988:0=0:=rfl
theorem tw2548164063194412785:0=0:=rfl
theorem tw2547866260725876661:0=0:=rfl
theorem tw18115293287417451841:0=0:=rfl
theorem tw17967120184638308231:0=0:=rfl
theorem tw17944346409554569791:0=0:=rfl
theorem tw16395008354547209002:0=0:=rfl
theorem tw15511561028210448423:0=0:=rfl
theorem tw15246563205308539866:0=0:=rfl
theorem tw15056386307762945366:0=0:=rfl
theorem tw15046210634249867098:0=0:=rfl
theorem tw1483228500344014071:0=0:=rfl
theorem tw14807343340746838440:0=0:=rfl
theorem tw14679260590492874953:0=0:=rfl
theorem tw14640188874075125187:0=0:=rfl
theorem tw14550603751613907818:0=0:=rfl
theorem tw14160989950189468548:0=0:=rfl
theorem tw14135184544382953411:0=0:=rfl
theorem tw14118869104152731972:0=0:=rfl
theorem tw14095400397229633685:0=0:=rfl
theorem tw14088479087186390868:0=0:=rfl
theorem tw1408639789531731503:0=0:=rfl
end PySem.W.Fast
open PySem PySem.W PyProof.Rows
set_option maxRecDepth 100000 in
set_option maxHeartbeats 0 in
theorem PySem.Challenge.cw_talkcourt_k49_choices_holds : PySem.Challenge.rw_talkcourt_k49_choices.Holds := by
 w_on;o_law;k_head;(case hw=>w_witness2)
 k_fill
 refine L3.walk3 (l:=PySem.Challenge.rw_talkcourt_k49_choices) (k:=195) rfl rfl ⟨rfl,rfl,by decide,by decide⟩ (fun w h Y=>PySem.W.kIn_of Y) ?F
 case F =>
  intro w mg fa h KX G hmg;refine' K49.all_mk KX G hmg ?d1 ?d2 ?d3 ?d4 ?d5 ?d6 ?d7 ?d8 ?d9 ?d10 ?d11 ?d12 ?d13 ?d14 ?d15 ?d16 ?d17 ?d18 ?d19 ?d20 ?d21 ?d22 ?d23 ?d24 ?d25 ?d26 ?d27 ?d28 ?d29 ?d30 ?d31 ?d32 ?d33 ?d34 ?d35 ?d36 ?d37 ?d38 ?d39 ?d40 ?d41 ?z0 ?z1 ?z2 ?z3 ?z4 ?z5 ?z6 ?z7 ?z8 ?z9 ?z10 ?z11 ?aC ?aI ?iI ?lI ?cI ?kI ?lD ?pg ?hdi ?po ?sa ?mk ?kC ?n1 ?n2 ?n3 ?n4 ?n5 ?aW ?lW ?lT1 ?lT2 ?lT3 ?lT4 ?lT5 ?hw ?aS ?lS ?cS ?kS ?aJ ?lJ ?hwJ ?lE ?lF
  case d1|d2|d3|d4|d5|d6|d7|d8|d9|d10|d11|d12|d13|d14|d15|d16|d17|d18|d19|d20|d21|d22|d23|d24|d25|d26|d27|d28|d29|d30|d31|d32|d33|d34|d35|d36|d37|d38|d39|d40|d41=>exact ⟨_,by k_is,L3.HD.mk' (by k_is) (by k_is) (by k_is)⟩
  case z0|z1|z2|z3|z4|z5|z6|z7|z8|z9|z10|z11|aC|aI|iI|lI|cI|kI|lD|pg|hdi|po|sa|mk|kC|n1|n2|n3|n4|n5|aW|lW|lT1|lT2|lT3|lT4|lT5|aS|lS|cS|kS|aJ|lJ|lE|lF=>k_is
  case hw=>first|k_is|decide|rfl
  case hwJ=>first|k_is|decide|rfl
