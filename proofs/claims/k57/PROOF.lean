import PyProof.Rows.All
import Wide.All
import OpenK.AllK
import Wide.FinOn
import Lean
import PyProof.EqAt
import PyProof.EqKinds
import PyProof.TupleCall
import PySem.Challenge.RW_talkcourt_k57_each_condition_broken_alon
set_option Elab.async false
set_option linter.all false
set_option compiler.extract_closed false
set_option maxRecDepth 100000
set_option maxHeartbeats 8000000
theorem zzN:¬ (false=true):=Bool.false_ne_true
theorem zzQ {p:Prop} (h:false=true):p:=absurd h zzN
noncomputable abbrev VP:=PySem.Value->PySem.Shared->Prop
noncomputable abbrev PL:=List (PySem.Addr×PySem.Obj)
theorem zzB:(false=true)=False:=Bool.false_eq_true
theorem zzC {α:Type _} {a:α} {l:List α}:(a::l).length=l.length+1:=rfl
theorem zzL {α:Type _}:([]:List α).length=0:=rfl
theorem zzA (n:Nat):0+n=n:=Nat.zero_add n
theorem zzM {α β:Type _} {l:List α} {f:α->β}:(l.map f).length=l.length:=List.length_map f
theorem zzP {α β:Type _} {b:β} {l:List α} {f:α->β} (h:b∈l.map f):∃ a,a∈l/\f a=b:=List.mem_map.mp h
theorem zzS {α:Type _} {l:List α}:l.toArray.size=l.length:=List.size_toArray
theorem zzR (n:Nat):n<=n:=Nat.le_refl n
theorem zzO {α:Type _} {a b:α} (h:a∈[b]):a=b:=List.mem_singleton.mp h
theorem zzT {α:Type _} {a:α} {l:List α}:a∈a::l:=List.mem_cons_self
theorem zzU {α β:Type _} {a:α} {l:List α} {f:α->β}:(a::l).map f=f a::l.map f:=rfl
theorem zzV {α β:Type _} {f:α->β}:([]:List α).map f=[]:=rfl
theorem zzW {α:Type _} {l l':List α}:(l++l').length=l.length+l'.length:=List.length_append
open PySem renaming wpAny_bind→Za, wpAny_pure→Zc, wpAny_mono→Zv, wpAny_callSpecial?_slot→ZN, wpAny_holding→ZO, wpAny_call_entry→ZP, wpAny_loadPart'→ZQ, wpAny_field→ZR, wpAny_Call_Name_kw→ZT, sizeLine_eq→Z2, wpAny_loadPart_at→Z4, wpAny_newObj_type→Z5, wpAny_truthy_bool→Z6, wpAny_setField_rec→Z7, wpAny_isSubtype_exc→Zal, wpAny_standAt→Zao, wpAny_passesOwn→Zau, mem_of_lookup→Zay, wpAny_getItem_str_slice→Zaz, codeAny_mono→ZaF, wpAny_updateSeq→ZaG, codeAny_call_builtin→ZaJ, wpAny_comprehension_free→ZaS, wpAny_attempt→ZaZ, wpAny_pyIter_list→Za5, wpAny_sequenceKey→Za6, wpAny_setField→Za7, post_val_or_str→Zbl, pushCells_keeps→Zbm, wpAny_execs_nil→Zbn, wpAny_typeOf→Zbv, wpAny_call→ZbG, wpAny_rule→ZbH, wpAny_onRaise→ZbM, noFill_tuple_add→ZbP, wpAny_isInstance→ZbQ, wpAny_specialOf→ZbY, evalPart_none→Zb3, plainId_quiet→Zb4, seq_tuple_add→Zb5, call_meets→Zb8
open PySem.Heap renaming get?_push_of_some→Zb, lt_size→Zd, get?_push_size→Zl, get?_update_other→Zu, get?_update_self→Zx, size_push→ZH, size_after_update→Zac, get?_some_iff→Zbo
open Nat renaming le_trans→Ze, lt_of_lt_of_le→Zj, ne_of_lt→Zo, le_of_ble_eq_true→Zr, zero_le→Zy, succ_pos→ZM, lt_irrefl→Z1, ne_of_gt→Z3, succ_le_succ→ZaB, min_le_left→ZaE, lt_succ_of_lt→ZaI, le_of_lt→ZaQ, lt_of_le_of_lt→ZaW, lt_succ_self→Zbe, le_of_succ_le→ZbE, max_le→ZbF, not_lt_zero→ZbU, le_succ→Zb0
open List renaming getElem?_eq_getElem→Zf, length_cons→Zg, mem_cons→Zh, mem_cons_of_mem→Zi, mem_append_right→Zk, length_nil→Zn, getElem?_eq_some_iff→Zp, append_nil→Zq, mem_append_left→Zs, not_mem_nil→Zt, mem_of_getElem?→Zw, getElem?_map→Zz, mem_append→ZA, cons_append→ZC, take_succ_eq_append_getElem→ZF, lookup_cons→ZG, nil_append→ZI, mem_singleton→ZJ, getElem?_cons_zero→ZL, zip_cons_cons→ZS, map_append→ZV, getElem?_append_left→ZX, all_eq_true→ZZ, length_take→Z0, map_map→Z8, take_length→Z9, getElem?_append_right→Zab, getElem?_set_self→Zad, contains_iff_mem→Zae, find?_cons→Zaf, getElem?_set_ne→Zag, getElem?_cons_succ→Zah, length_reverse→Zak, nodup_cons→Zar, of_mem_zip→Zas, reverse_cons→Zat, all_cons→Zax, eq_nil_of_length_eq_zero→ZaA, set_cons_zero→ZaC, filterMap_append→ZaD, any_cons→ZaH, drop_eq_getElem_cons→ZaK, mem_range→ZaL, getElem_mem→ZaM, filterMap_cons→ZaO, getElem?_replicate→ZaU, mem_filter→ZaV, find?_cons_of_neg→Za1, flatMap_cons→Za3, all_map→Za9, getElem?_eq_none→Zba, length_replicate→Zbb, length_drop→Zbd, length_dropLast→Zbf, mem_of_mem_take→Zbg, length_set→Zbh, length_zip→Zbi, filterMap_map→Zbp, find?_eq_none→Zbq, set_cons_succ→Zbr, drop_zero→Zbx, nodup_nil→Zby, length_range→ZbD, map_take→ZbJ, map_zipWith→ZbN, zipWith_map→ZbO, mem_map→ZbT
open Bool renaming and_eq_true→Zm, not_true→ZY, not_eq_true'→Zai, not_false→Zap, and_true→Zaw, beq_eq_decide_eq→Za8, and_false→Zbw, eq_false_iff→ZbB, false_or→ZbI, or_eq_true→ZbR, true_or→ZbS, false_and→ZbZ, and_self→Zb1, true_and→Zb2
open PyProof.Rows renaming slot_tuple_getitem→ZB, callWith_type1→ZW, entry_tuple_getitem→Zbk, args_tuple_getitem→Zbu, slicePart_none→ZbA, tail_any→Zb6, tupleItemsOf_→Zb7
open PySem.Heap.SameBut renaming update→ZD
open Option.some renaming inj→ZE
open Option renaming map_eq_some_iff→ZK, isSome_iff_exists→ZU, isSome_some→Zan, isSome_none→Zbs
open Array renaming getElem?_eq_some_iff→Zaa, length_toList→Zav
open PySem.W renaming mg_none_of→Zaj, callWith_K0→Zbj, callWith_K→Zbt, kia_one→ZbW, looks_findIn→ZbX
open PySem.F renaming slot_enumerate_next→Zam, slot_dict_getitem→Zaq, plain_extend_loop→ZaN, args_tuple_add_2→ZaR, slot_zip_next→ZaT, entry_tuple_add→ZaX, plainAttrs_list→ZaY, slot_tuple_add→Za2, slot_dict_get→Zbc
open PySem.AutoSeq1 renaming sub_tuple_tuple→ZaP
open PySem.Calls renaming callWith_builtin→Za0
open PySem.Str renaming length_append→Za4
open PySem.Value.type renaming inj→Zbz
open Int renaming toNat_natCast→ZbC
open PySem.Paired renaming length→ZbK
open PySem.Value.ref renaming inj→ZbL
open PySem.PassesOwn renaming never→ZbV
noncomputable section
set_option hygiene false
local macro_rules|`('m')=>`((kE elt t1 i1 t2 i2 f2 sc pos))
local macro_rules|`('l')=>`((∀ w G',Q w G'->Q' w G'))
local macro_rules|`('k')=>`((λ_ _=>False))
local macro_rules|`('j')=>`((.var 0))
local macro_rules|`('i')=>`((λfin s'=>∃ v,fin=.done (.ret v)/\∃ u x H',some v=some u/\Inv X pins σ H' s'/\yV x u/\(Itz a b X.K l1 l2).yld i H x H'/\vQ a b z TI TO i1 i2 l1 l2 (i+1) s'.heap/\(∃ T:Addr,u=.ref T/\T∉[z,TI,TO,i1,i2])/\∀ c∈[z,TI,TO,i1,i2],H' c=none))
local macro_rules|`('h')=>`(⟨by simp[pur],by simp[yH,pur],by simp[xS,dep]⟩)
local macro_rules|`('g')=>`((by simp))
local macro_rules|`('f')=>`((by omega))
local macro_rules|`('e')=>`(⟨rfl,rfl,rfl,rfl,rfl,rfl,rfl,rfl⟩)
local macro_rules|`('d')=>`((model prog w))
local macro_rules|`('c')=>`((by decide))
local macro_rules|`('b')=>`((model X.prog X.w))
local macro_rules|`('a')=>`(⟨rfl,rfl,rfl,by decide +kernel,rfl,by decide +kernel,by decide +kernel⟩)
local macro_rules(kind:=«term{_}»)|`({$a,*})=>do let x:Lean.Term<-a.getElems.foldrM (λa b=>`(.cons $a $b)) (<-`(.nil));return x
local macro_rules|`($x:ident⁻¹)=>`(some (.ref $x))
local macro_rules|`($x:num⁻¹)=>`(.con (.int $x))
local macro_rules|`($x:str⁻¹)=>`(.con (.str $x))
local macro_rules|`(tactic|erw[$[$t:term],*])=>`(tactic|((try dsimp only [zU,zV,zS,zI,zF,zE,zD,zP,zX,zR,zY,zZ,zW,zT,zO,zN,zG,zM,gZ,gS,tZ,tS]);try simp only [$[$t:term],*]))
set_option hygiene false in
local macro_rules|`(tactic|bv_omega)=>`(tactic|first|exact Nat.succ_pos _|exact L2.Inv.tk (by assumption)|exact L2.Inv.tk ‹L2.Inv _ _ _ _ _›|assumption|omega)
namespace L2
open PySem
theorem bX {M:Model} {Γ:Ctx} {p:Pos} {t:Sem Fin} {fs:List Frame} {s s':Shared} {e:End} (h:Runs M Γ p t fs s e s'):s.toks<=s'.toks:=by
 induction h<;>(try simp only[Shared.setGen] at *)<;>omega
theorem zd2 {M:Model} {Γ:Ctx} {p:Pos} {g:Nat} {r:Resume} {s s':Shared} {res:GenResult} (h:Wakes M Γ p g r s res s'):s.toks<=s'.toks:=by
 unfold Wakes at h
 split at h
 .exact h.elim
 .split at h
  .obtain ⟨e,s1,h,_,_,rfl⟩:=h;have:=bX h;exact this
  .rw[h.2];exact zzR _
  .rw[h.2];exact zzR _
 .obtain ⟨e,s1,h,_,_,rfl⟩:=h;have:=bX h;exact this
 .rw[h.2];exact zzR _
 .rw[h.2];exact zzR _
theorem wp_up {α:Type} {M:Model} {Γ:Ctx} {n:Nat}:∀ (t:Sem α) (Q:α->Pos->Shared->Prop) (E:Value->Pos->Shared->Prop) (p:Pos) (s:Shared),n<=s.toks ->
  Sem.wp M Γ t (λa p' s'=>n<=s'.toks->Q a p' s') (λe p' s'=>n<=s'.toks->E e p' s') p s->Sem.wp M Γ t Q E p s:=by
 intro t
 induction t with
 |pure a=>intro Q E p s h z;rw[Sem.wp] at z ⊢;exact z h
 |raise e=>intro Q E p s h z;rw[Sem.wp] at z ⊢;exact z h
 |unsupported _=>intro Q E p s h z;rw[Sem.wp] at z;exact z.elim
 |finish _=>intro Q E p s h z;rw[Sem.wp] at z;exact z.elim
 |register _ _ _=>intro Q E p s h z;rw[Sem.wp] at z;exact z.elim
 | «yield» _ _ _ _ _=>intro Q E p s h z;rw[Sem.wp] at z;exact z.elim
 |load a part k ih=>intro Q E p s h z;rw[Sem.wp] at z ⊢;obtain⟨o,e,z⟩:=z;exact⟨o,e,ih o Q E p s h z⟩
 |update a part f k ih=>intro Q E p s h z;rw[Sem.wp] at z ⊢;exact⟨z.1,ih () Q E p _ h z.2⟩
 |fresh k ih=>intro Q E p s h z;rw[Sem.wp] at z ⊢;exact ih _ Q E p _ (Nat.le_succ_of_le h) z
 |choose src m k ih=>intro Q E p s h z;rw[Sem.wp] at z ⊢;exact⟨z.1,ih _ Q E p _ h z.2⟩
 |genState g k ih=>intro Q E p s h z;rw[Sem.wp] at z ⊢;obtain⟨st,e,z⟩:=z;exact⟨st,e,ih _ Q E p s h z⟩
 |resume g r l k ih=>intro Q E p s h z;rw[Sem.wp] at z ⊢;obtain⟨res,s',w,z⟩:=z;exact⟨res,s',w,ih _ Q E p s' (Ze h (zd2 w)) z⟩
 |call c hd g l k ih=>intro Q E p s h z;rw[Sem.wp] at z ⊢;obtain⟨r,s',w,z⟩:=z;exact⟨r,s',w,ih _ Q E p s' (Ze h (bX w)) z⟩
 |_=>first|(intro Q E p s h z;rw[Sem.wp] at z;exact z.elim)|(rename_i ih;intro Q E p s h z;rw[Sem.wp] at z ⊢;exact ih _ Q E _ _ h z)
theorem jO {α:Type} {M:Model} {A:Around} {t:Sem α} {Q:α->Shared->Prop} {E:VP} {s:Shared} (h:0<s.toks) (w:wpAny M A t (λa s'=>0<s'.toks->Q a s') E s):wpAny M A t Q E s:=λΓ p hΓ =>
 wp_up (n:=1) t _ _ p s h (Sem.wp_mono M Γ t (post':=λa _ s'=>1<=s'.toks->Q a s') (exc':=λe _ s'=>1<=s'.toks->E e s') (λ_ _ _ z=>z) (λ_ _ _ z _=>z) p s (w Γ p hΓ))
theorem zbD {M:Model} {A:Around} {E:VP} {s:Shared} {scope:Scope} {gl:Addr} {x:Str} {u:Value} {qual:Str} {fn:Option Addr} {code:Value} {bl:Addr} {Q:Env->Shared->Prop}
  (hk:scope.kind=.function) (hx:scope.names.lookup x=some .local)
  (hQ:∀ env,env=newEnv scope s.heap.objs.size gl (cellsFrom (s.heap.objs.size+1) scope.names []) qual fn code none bl ->
   ∀ s',InCallC s env.locals (bindL env.kindOf [(x,u)] λ_=>none) env.cells (bindC env.kindOf [(x,u)] λ_=>none) s'->0<s'.toks->Q env s') :
  wpAny M A (newFunctionEnv scope gl [] [(x,u)] qual fn code none bl) Q E s:=by
 simp only[newFunctionEnv,Zbs,zzB,if_false];refine Za (wpAny_alloc (Za (wpAny_layCells _ (λname kind cells=>by cases h:kind==NameKind.cell<;>simp[h]) _ _ _ _ ?_)));have ok:=cellsFrom_ok scope.names (s.heap.push { cls:=.type "frame", data:=.dict #[]}) (s.heap.objs.size+1) [] ⟨λ_ _ z=>(nomatch z),List.Pairwise.nil⟩ (by rw[ZH];exact zzR _);rw[ZH] at ok;rw[show({s with heap:=s.heap.push { cls:=.type "frame", data:=.dict #[]}}:Shared).heap.objs.size=s.heap.objs.size+1 from ZH ..];have ns:=(Heap.Ns.new s.heap (.type "frame")).keeps (Zbm scope.names (s.heap.push { cls:=.type "frame", data:=.dict #[]}));rw[List.forIn_cons];refine Za (Za (Za (wpAny_storeName_local (env:=newEnv scope s.heap.objs.size gl (cellsFrom (s.heap.objs.size+1) scope.names []) qual fn code none bl) hx ns (λh' hn' hs'=>Zc ?_) (by show(scope.kind==ScopeKind.class || (scope.kind==ScopeKind.module&&(s.heap.objs.size != gl)))=false;rw[hk];rfl))));show wpAny M A (forIn [] _ _) _ _ _;rw[List.forIn_nil];refine Zc (Zc (hQ _ rfl _ ⟨⟨⟨h',_,rfl⟩,?_,λb o e=>?_,zzR _⟩,λn c hc=>?_,ok.apart,λn c hm=>(ok.empty n c hm).2⟩ (ZM _)))
 .have e:(newEnv scope s.heap.objs.size gl (cellsFrom (s.heap.objs.size+1) scope.names []) qual fn code none bl).kindOf x=some .local:=hx;unfold bindL bindL;rw[if_pos e];exact hn'
 .exact (hs'.2 b (Zo (Zd e))).trans (Zbm _ _ b o (Zb _ e))
 .have e:(newEnv scope s.heap.objs.size gl (cellsFrom (s.heap.objs.size+1) scope.names []) qual fn code none bl).kindOf x=some .local:=hx;unfold bindC bindC;rw[if_pos e];have q:=ok.empty n c (mem_of_lookup hc);exact q.1.sameBut hs' (Z3 q.2)
theorem zbC {M:Model} {A:Around} {E:VP} {s:Shared} {scope:Scope} {gl:Addr} {ps:List Str} {us:List Value} {qual:Str} {fn:Option Addr} {code:Value} {bl:Addr} {Q:Env->Shared->Prop}
  (hk:scope.kind=.function) (hkind:∀ x∈ps.zip us,scope.names.lookup x.1=some .local\/(scope.names.lookup x.1=some .cell/\((cellsFrom (s.heap.objs.size+1) scope.names []).lookup x.1).isSome=true))
  (hl:us.length=ps.length) (hp:0<s.toks\/∃ x,ps=[x]/\scope.names.lookup x=some .local)
  (hQ:∀ env,env=newEnv scope s.heap.objs.size gl (cellsFrom (s.heap.objs.size+1) scope.names []) qual fn code none bl ->
   ∀ s',InCallC s env.locals (bindL env.kindOf (ps.zip us) λ_=>none) env.cells (bindC env.kindOf (ps.zip us) λ_=>none) s'->0<s'.toks->Q env s') :
  wpAny M A (newFunctionEnv scope gl [] (ps.zip us) qual fn code none bl) Q E s:=by
 rcases hp with hp|⟨x,rfl,hx⟩
 .exact jO hp (wpAny_newFunctionEnv_cells hk hkind hQ)
 .cases us with
  |nil=>cases hl
  |cons u r =>
   cases r with
   |nil=>exact zbD hk hx hQ
   |cons _ _=>cases hl
end L2
namespace L2
open PySem PySem.Spec PyProof.Rows
noncomputable abbrev xM:=Sum Int Str
noncomputable def dO:xM->Value->Bool
 | .inl k,v=>Value.isInt k v
 | .inr x,v=>Value.isStrOf x v
noncomputable def keyH (w:World):xM->Int
 | .inl k=>hashInt k
 | .inr x=>hashStr w x
theorem xR:∀ {k:xM} {v:Value},dO k v=true->(∃ i t,k=Sum.inl i/\v=Value.int i t)\/(∃ x t,k=Sum.inr x/\v=Value.str x t)
 | .inl i,v,h=>by
  obtain⟨t,e⟩:=Value.isInt_shape (k:=i) (v:=v) h;exact .inl ⟨i,t,rfl,e⟩
 | .inr x,v,h=>by
  obtain⟨t,e⟩:=Value.isStrOf_shape (x:=x) (v:=v) h;exact .inr ⟨x,t,rfl,e⟩
theorem zc8 (i:Int) (t:Tok):dO (.inl i) (.int i t)=true:=by simp[dO,Value.isInt]
theorem zc7 (x:Str) (t:Tok):dO (.inr x) (.str x t)=true:=by simp[dO,Value.isStrOf]
theorem zjO (a b:Int):decide ((Sum.inl a:xM)=Sum.inl b)=(a==b):=by
 by_cases e:a=b
 .subst e;simp
 .have h:¬ (Sum.inl a:xM)=Sum.inl b:=λq=>e (Sum.inl.inj q);rw[decide_eq_false h];exact(beq_eq_false_iff_ne.mpr e).symm
theorem zjK (a b:Str):decide ((Sum.inr a:xM)=Sum.inr b)=decide (a=b):=by
 by_cases e:a=b
 .subst e;simp
 .have h:¬ (Sum.inr a:xM)=Sum.inr b:=λq=>e (Sum.inr.inj q);rw[decide_eq_false h,decide_eq_false e]
theorem zjN (a:Int) (b:Str):decide ((Sum.inl a:xM)=Sum.inr b)=false:=decide_eq_false (λq=>nomatch q)
theorem zjL (a:Str) (b:Int):decide ((Sum.inr a:xM)=Sum.inl b)=false:=decide_eq_false (λq=>nomatch q)
noncomputable def xN (prog:Program) (w:World):PySem.KeyKind prog w xM where
 is:=dO
 hash:=keyH w
 inj:=λv a b ha hb=>by
  rcases xR ha with⟨i,t,rfl,rfl⟩|⟨x,t,rfl,rfl⟩
  .rcases xR hb with⟨j,u,rfl,e⟩|⟨y,u,rfl,e⟩
   .injection e with e1 _;rw[e1]
   .exact nomatch e
  .rcases xR hb with⟨j,u,rfl,e⟩|⟨y,u,rfl,e⟩
   .exact nomatch e
   .injection e with e1 _;rw[e1]
 byValue:=λk v h=>by
  rcases xR h with⟨i,t,rfl,rfl⟩|⟨x,t,rfl,rfl⟩<;>rfl
 pyHash:=λhv h=>by
  rcases xR hv with⟨i,t,rfl,rfl⟩|⟨x,t,rfl,rfl⟩
  .exact wpAny_pyHash_int h
  .exact wpAny_pyHash_str h
 eqBool:=λhu hv h=>by
  rcases xR hu with⟨i,t,rfl,rfl⟩|⟨x,t,rfl,rfl⟩
  .rcases xR hv with⟨j,u,rfl,rfl⟩|⟨y,u,rfl,rfl⟩
   .rw[zjO] at h;exact wpAny_eqBool_int h
   .rw[zjN] at h;exact SeqAt.EqAt.int_str i t y u _ _ _ _ h
  .rcases xR hv with⟨j,u,rfl,rfl⟩|⟨y,u,rfl,rfl⟩
   .rw[zjL] at h;exact SeqAt.EqAt.str_int x t j u _ _ _ _ h
   .rw[zjK] at h;exact wpAny_eqBool_str h
 «strs»:=λk x t v h=>by
  rcases xR h with⟨i,u,rfl,e⟩|⟨y,u,rfl,e⟩
  .exact nomatch e
  .injection e with e1 _
   subst e1;cases v<;>rfl
theorem zap (prog:Program) (w:World) (i:Int) (t:Tok):(xN prog w).is (.inl i) (.int i t)=true:=zc8 i t
theorem zao (prog:Program) (w:World) (x:Str) (t:Tok):(xN prog w).is (.inr x) (.str x t)=true:=zc7 x t
end L2
namespace L2
open PySem PySem.Spec PyProof.Rows
inductive V where
 |non|bl (b:Bool)|int (i:Int)|str (x:Str)|byt (b:Array UInt8)|flt (b:UInt64)|ref (a:Addr)|ty (n:String)
 deriving DecidableEq
noncomputable def yV:V->Value->Prop
 | .non,u=>u=Value.none
 | .bl b,u=>u=Value.bool b
 | .int i,u=>∃ t,u=Value.int i t
 | .str x,u=>∃ t,u=Value.str x t
 | .byt b,u=>∃ t,u=Value.bytes b t
 | .flt b,u=>∃ t,u=Value.float b t
 | .ref a,u=>u=Value.ref a
 | .ty n,u=>u=Value.type n
noncomputable abbrev yW:List V->List Value->Prop:=Paired yV
theorem yW.length {xs:List V} {us:List Value} (r:yW xs us):xs.length=us.length:=ZbK r
theorem yW.get:∀ {xs:List V} {us:List Value} {i:Nat} {x:V},yW xs us->xs[i]?=some x->∃ u,us[i]?=some u/\yV x u
 |_,_,_,_,.nil,e=>by simp at e
 |_,_,0,_,.cons r _,e=>by simp at e;subst e;exact⟨_,rfl,r⟩
 |_,_,i+1,x,.cons _ t,e=>by
  obtain⟨u,h1,h2⟩:=yW.get (i:=i) (x:=x) t (by simpa using e);exact⟨u,by simpa using h1,h2⟩
theorem yW.set {x:V} {u:Value} (r:yV x u):∀ {xs:List V} {us:List Value} (i:Nat),yW xs us->yW (xs.set i x) (us.set i u)
 |_,_,_,.nil=>.nil
 |_,_,0,.cons _ t=>.cons r t
 |_,_,i+1,.cons q t=>.cons q (yW.set r i t)
theorem yW.append:∀ {xs ys:List V} {us ws:List Value},yW xs us->yW ys ws->yW (xs++ys) (us++ws)
 |_,_,_,_,.nil,s=>s
 |_,_,_,_,.cons r t,s=>.cons r (yW.append t s)
theorem yW.take:∀ {xs:List V} {us:List Value} (n:Nat),yW xs us->yW (xs.take n) (us.take n)
 |_,_,0,_=>.nil
 |_,_,_+1,.nil=>.nil
 |_,_,n+1,.cons r t=>.cons r (yW.take n t)
theorem yW.drop:∀ {xs:List V} {us:List Value} (n:Nat),yW xs us->yW (xs.drop n) (us.drop n)
 |_,_,0,r=>r
 |_,_,_+1,.nil=>.nil
 |_,_,n+1,.cons _ t=>yW.drop n t
theorem yW.none_of:∀ {xs:List V} {us:List Value} {i:Nat},yW xs us->xs[i]?=none->us[i]?=none:=λ{xs us i} r e=>by
 have h1:=r.length;have h2:xs.length<=i:=List.getElem?_eq_none_iff.mp e;exact List.getElem?_eq_none_iff.mpr 'f'
noncomputable def pZ:Option V->Option Value->Prop
 |some v,some u=>yV v u
 |none,none=>True
 |_,_=>False
noncomputable def KV {κ:Type}:List (κ×V)->List (κ×Value)->Prop:=Paired λ(p:κ×V) (q:κ×Value)=>p.1=q.1/\yV p.2 q.2
noncomputable def kV:xM->V
 | .inl i=>.int i
 | .inr x=>.str x
inductive HO where
  |lst (xs:List V)
  |tup (xs:List V)
  |dK (kvs:List (xM×V))|dT (kvs:List (List xM×V))
  |set (S:Int->Bool) (n:Nat)
  |ins (C dx:Addr) (fs:List (Str×V))
  |own (x:Addr)
  |xd (fs:List (Str×V))
  |met (f x:Addr)
  |rng (lo hi:Int)
  |frz (o:Obj) (u:HO)
  |tbl (ps:Array Value)
  |ext (φ:Heap->Prop)
noncomputable abbrev Hp:=Addr->Option HO
noncomputable def yG (H:Hp) (a:Addr) (o:HO):Hp:=λb=>if b=a then some o else H b
theorem yI {H:Hp} {a:Addr} {o:HO}:yG H a o a=some o:=by unfold yG;rw[if_pos rfl]
theorem zA {H:Hp} {a b:Addr} {o:HO} (h:b≠a):yG H a o b=H b:=by unfold yG;rw[if_neg h]
theorem zgu {H:Hp} {a:Addr} {o u:HO}:yG (yG H a o) a u=yG H a u:=by
 funext b;unfold yG;split<;>rfl
theorem ne_of {H:Hp} {a b:Addr} {o u:HO} (h:H a=some o) (h':H b=some u) (d:o≠u):a≠b:=by
 intro e;subst e;rw[h] at h';exact d (ZE h')
theorem yP {H:Hp} {a b:Addr} {o:HO} (h:H a=some o) (h':H b=none):a≠b:=by
 intro e;subst e;rw[h] at h';cases h'
section
variable (P:Program) (w:World)
noncomputable def xK (H:Hp) (h:Heap) (a:Addr):HO->Prop
 | .lst xs=>xs.length<=sizeLine/\∃ (its:List Value) (n:Nat),yW xs its/\h.get? a=some { cls:=.type "list", data:=.seq its.toArray n}
 | .tup xs=>xs.length<=sizeLine/\∃ its:List Value,yW xs its/\IsTup h a its.toArray
 | .dK kvs=>kvs.length<=sizeLine/\(a==sysModules)=false/\∃ vs,KV kvs vs/\h.DictOf (xN P w) a vs
 | .dT kvs=>kvs.length<=sizeLine/\(a==sysModules)=false/\∃ xs:List (List xM×Addr×Value),
   Paired (λ(p:List xM×V) (q:List xM×Addr×Value)=>p.1=q.1/\H q.2.1=some (.tup (p.1.map kV))/\yV p.2 q.2.2) kvs xs /\
   ∃ o es ep,h.get? a=some o/\o.ExactDict/\o.data=.dict es ep/\es.toList=xs.map (entryOfKey (tupleKind (xN P w)))/\(xs.map (·.1)).Nodup
 | .set S n=>h.SetOf (intKind P w) a S n
 | .ins C dx fs=>H dx=some (.own a)/\fs.length<=1000/\dx≠a/\h.get? a=some (PySem.W.instObj C dx) /\
   ∃ mA,h.Ns1 dx mA/\(∀ f,pZ (fs.lookup f) (mA f))/\PySem.Within mA (fs.map (·.1))
 | .own _=>∃ o,h.get? a=some o
 | .xd fs=>∃ mA,h.Ns1 a mA/\∀ f,pZ (fs.lookup f) (mA f)
 | .rng lo hi=>∃ t u v,h.get? a=some { cls:=.type "range", data:=.fields #[.int lo t,.int hi u,.int 1 v]}
 | .frz o u=>h.get? a=some o/\xK H h a u
 | .tbl ps=>h.get? a=some { cls:=.none,data:=.fields ps}
 | .met f x=>h.get? a=some (PySem.W.methodObj (.ref f) (.ref x))
 | .ext φ=>φ h/\(∃ o,h.get? a=some o)/\∀ h1 h2:Heap,φ h1->(∀ o,h1.get? a=some o->h2.get? a=some o)->φ h2
noncomputable def uW (H:Hp) (h:Heap):Prop:=∀ a o,H a=some o->xK P w H h a o
end
section
variable {P:Program} {w:World} {H H':Hp} {h h':Heap} {a:Addr} {o:HO}
theorem xK.lt (x:xK P w H h a o):a<h.objs.size:=by
 cases o with
 |lst xs=>obtain⟨_,_,_,_,e⟩:=x;exact Zd e
 |tup xs=>obtain⟨_,_,_,p⟩:=x;exact p.lt
 |dK kvs=>obtain⟨_,_,_,_,o,_,_,e,_⟩:=x;exact Zd e
 |dT kvs=>obtain⟨_,_,_,_,o,_,_,e,_⟩:=x;exact Zd e
 |set S n=>obtain⟨o,_,_,_,e,_⟩:=x;exact Zd e
 |ins C dx fs=>obtain⟨_,_,_,e,_⟩:=x;exact Zd e
 |own y=>obtain⟨_,e⟩:=x;exact Zd e
 |xd fs=>obtain⟨_,⟨_,_,_,e,_⟩,_⟩:=x;exact Zd e
 |rng lo hi=>obtain⟨_,_,_,e⟩:=x;exact Zd e
 |frz ob u=>obtain⟨e,_⟩:=x;exact Zd e
 |tbl ps=>exact Zd (show h.get? a=some _ from x)
 |met f y=>exact Zd (show h.get? a=some _ from x)
 |ext φ=>obtain⟨_,⟨_,e⟩,_⟩:=x;exact Zd e
theorem Paired.mapP {α β:Type} {F G:α->β->Prop}:∀ {l₁:List α} {l₂:List β},Paired F l₁ l₂->(∀ a b,F a b->G a b)->Paired G l₁ l₂
 |_,_,.nil,_=>.nil
 |_,_,.cons r t,f=>.cons (f _ _ r) (Paired.mapP t f)
theorem xK.stay (x:xK P w H h a o) (k:∀ b u,(b=a\/H b=some (.own a))->h.get? b=some u->h'.get? b=some u)
  (ho:∀ b,H b=some (.own a)->H' b=some (.own a)) (ht:∀ b xs,H b=some (.tup xs)->H' b=some (.tup xs)):xK P w H' h' a o:=by
 induction o with
 |lst xs=>obtain⟨z,its,n,r,e⟩:=x;exact⟨z,its,n,r,k _ _ (.inl rfl) e⟩
 |tup xs=>obtain⟨z,its,r,ob,e,c⟩:=x;exact⟨z,its,r,ob,k _ _ (.inl rfl) e,c⟩
 |dK kvs=>obtain⟨z,y,vs,r,ob,es,ep,e,c⟩:=x;exact⟨z,y,vs,r,ob,es,ep,k _ _ (.inl rfl) e,c⟩
 |dT kvs =>
  obtain⟨z,y,xs,r,ob,es,ep,e,c⟩:=x;exact⟨z,y,xs,Paired.mapP r λp q z=>⟨z.1,ht _ _ z.2.1,z.2.2⟩,ob,es,ep,k _ _ (.inl rfl) e,c⟩
 |set S n=>obtain⟨ob,es,ep,t,e,c⟩:=x;exact⟨ob,es,ep,t,k _ _ (.inl rfl) e,c⟩
 |ins C dx fs =>
  obtain⟨d,z,ne,e,mA,⟨od,es,ep,e2,c⟩,r⟩:=x;exact⟨ho _ d,z,ne,k _ _ (.inl rfl) e,mA,⟨od,es,ep,k _ _ (.inr d) e2,c⟩,r⟩
 |own y=>obtain⟨ob,e⟩:=x;exact⟨ob,k _ _ (.inl rfl) e⟩
 |xd fs=>obtain⟨mA,⟨od,es,ep,e,c⟩,r⟩:=x;exact⟨mA,⟨od,es,ep,k _ _ (.inl rfl) e,c⟩,r⟩
 |rng lo hi=>obtain⟨t,u,v,e⟩:=x;exact⟨t,u,v,k _ _ (.inl rfl) e⟩
 |frz ob u ih=>obtain⟨e,q⟩:=x;exact⟨k _ _ (.inl rfl) e,ih q⟩
 |tbl ps =>
  have e:h.get? a=some { cls:=.none,data:=.fields ps}:=x;show h'.get? a=some { cls:=.none,data:=.fields ps};exact k a _ (.inl rfl) e
 |met f y =>
  have e:h.get? a=some (PySem.W.methodObj (.ref f) (.ref y)):=x;show h'.get? a=some (PySem.W.methodObj (.ref f) (.ref y));exact k a _ (.inl rfl) e
 |ext φ=>obtain⟨p,⟨o,e⟩,st⟩:=x;exact⟨st _ _ p λo q=>k _ _ (.inl rfl) q,⟨o,k _ _ (.inl rfl) e⟩,st⟩
theorem uW.lt (x:uW P w H h) (e:H a=some o):a<h.objs.size:=(x a o e).lt
theorem uW.fresh (x:uW P w H h) (e:h.objs.size<=a):H a=none:=by
 cases q:H a with
 |none=>rfl
 |some u=>exact absurd (Zj (x.lt q) e) (Z1 _)
theorem uW.kept (x:uW P w H h) (k:∀ b u,h.get? b=some u->h'.get? b=some u):uW P w H h':=λa o e =>
 (x a o e).stay (λb u _ q=>k b u q) (λ_ q=>q) λ_ _ q=>q
theorem uW.laid (x:uW P w H h) (k:∀ b u,h.get? b=some u->h'.get? b=some u) (hp:h.objs.size<=a) (new:xK P w (yG H a o) h' a o):uW P w (yG H a o) h':=λb u e=>by
 have hn:=x.fresh hp
 by_cases hb:b=a
 .subst hb;rw[yI] at e;cases e;exact new
 .rw[zA hb] at e;exact(x b u e).stay (λc v _ q=>k c v q) (λc q=>by rw[zA (yP q hn)];exact q) λc xs q=>by rw[zA (yP q hn)];exact q
end
noncomputable def Rd (H:Hp) (a:Addr) (u:HO):Prop:=H a=some u\/∃ o,H a=some (.frz o u)
theorem Rd.ok {P:Program} {w:World} {H:Hp} {h:Heap} {a:Addr} {u:HO} (r:Rd H a u) (x:uW P w H h):xK P w H h a u:=by
 rcases r with r|⟨o,r⟩
 .exact x a u r
 .obtain ⟨_,q⟩:=x a _ r;exact q
noncomputable def Mut:Option HO->Prop
 |some (.lst _)=>True
 |some (.dK _)=>True
 |some (.dT _)=>True
 |some (.set _ _)=>True
 |some (.ins _ _ _)=>True
 |some (.ext _)=>True
 |_=>False
section
variable {P:Program} {w:World} {H:Hp} {h h':Heap} {x e:Addr} {o':HO}
theorem uW.write (ok:uW P w H h) (mu:Mut (H x)) (he:e=x\/H e=some (.own x)) (k:∀ b u,b≠e->h.get? b=some u->h'.get? b=some u) (heo:∃ u,h'.get? e=some u)
  (new:xK P w (yG H x o') h' x o'):uW P w (yG H x o') h':=λb u q=>by
 have nown:∀ c y,H c=some (.own y)->c≠x:=λc y r z=>by subst z;rw[r] at mu;exact mu
 have ntup:∀ c xs,H c=some (.tup xs)->c≠x:=λc xs r z=>by subst z;rw[r] at mu;exact mu
 by_cases hb:b=x
 .subst hb;rw[yI] at q;cases q;exact new
 .rw[zA hb] at q
  by_cases hbe:b=e
  .have q':H b=some (.own x):=by
    rcases he with z|z
    .exact absurd (hbe.trans z) hb
    .rw[hbe];exact z
   rw[q] at q';cases q';obtain⟨v,hv⟩:=heo;exact⟨v,by rw[hbe];exact hv⟩
  .refine (ok b u q).stay (λc v hc r=>k c v ?_ r) (λc r=>by rw[zA (nown c b r)];exact r) λc xs r=>by rw[zA (ntup c xs r)];exact r
   rcases hc with rfl|hc
   .exact hbe
   .rintro rfl;rcases he with z|z
    .exact nown c b hc z
    .rw[hc] at z;cases z;exact hb rfl
end
structure Un (fs ex:List Addr) (H H':Hp) (h h':Heap):Prop where
 keep:∀ b o,h.get? b=some o->H b=none->b∉fs->b∉ex->h'.get? b=some o
 slot:∀ b o,h.get? b=some o->H b=none->b∈fs->b∉ex->∃ sl,h'.get? b=some {o with slots:=sl}
 free:∀ b o,h.get? b=some o->H b=none->b∉ex->H' b=none
 there:∀ b o,h.get? b=some o->b∉ex->∃ o',h'.get? b=some o'
 tups:∀ b xs,H b=some (.tup xs)->H' b=some (.tup xs)
 frzs:∀ b o u,H b=some (.frz o u)->H' b=some (.frz o u)
 tbls:∀ b ps,H b=some (.tbl ps)->∃ wM,H' b=some (.tbl (ps++wM))
section
variable {fs fs' ex ex':List Addr} {H H1 H2:Hp} {h h1 h2 h':Heap} {a x e:Addr} {o:HO}
theorem Un.any (u:Un fs ex H H1 h h1) {b:Addr} {ob:Obj} (q:h.get? b=some ob) (n:H b=none) (hx:b∉ex):∃ sl,h1.get? b=some {ob with slots:=sl}:=by
 by_cases hb:b∈fs
 .exact u.slot b ob q n hb hx
 .exact ⟨ob.slots,u.keep b ob q n hb hx⟩
theorem Un.kept (k:∀ b u,h.get? b=some u->h'.get? b=some u):Un fs ex H H h h' :=
 ⟨λb ob q _ _ _=>k b ob q,λb ob q _ _ _=>⟨ob.slots,k b ob q⟩,λ_ _ _ n _=>n,λb ob q _=>⟨ob,k b ob q⟩,λ_ _ q=>q,λ_ _ _ q=>q,λ_ ps q=>⟨#[],by rw[q];simp⟩⟩
theorem Un.refl:Un fs ex H H h h:=Un.kept λ_ _ q=>q
theorem Un.laid (k:∀ b u,h.get? b=some u->h'.get? b=some u) (hp:h.objs.size<=a) (hn:H a=none):Un fs ex H (yG H a o) h h' where
 keep:=λb u q _ _ _=>k b u q
 slot:=λb u q _ _ _=>⟨u.slots,k b u q⟩
 free:=λb u q n _=>by rw[zA (Zo (Zj (Zd q) hp))];exact n
 there:=λb u q _=>⟨u,k b u q⟩
 tups:=λb xs q=>by rw[zA (yP q hn)];exact q
 frzs:=λb u xs q=>by rw[zA (yP q hn)];exact q
 tbls:=λb ps q=>⟨#[],by rw[zA (yP q hn),q];simp⟩
theorem Un.write (mu:Mut (H x)) (he:e=x\/H e=some (.own x)) (k:∀ b u,b≠e->h.get? b=some u->h'.get? b=some u) (heo:∃ u,h'.get? e=some u):Un fs ex H (yG H x o) h h':=by
 have hx:∀ b,H b=none->b≠x:=λb n z=>by subst z;rw[n] at mu;exact mu
 have hb:∀ b,H b=none->b≠e:=λb n z=>by
  subst z;rcases he with r|r
  .exact hx b n r
  .rw[n] at r;cases r
 have hm:∀ b u,H b=some u->¬ Mut (some u)->b≠x:=λb u q nm z=>by subst z;rw[q] at mu;exact nm mu
 refine⟨λb u q n _ _=>k b u (hb b n) q,λb u q n _ _=>⟨u.slots,k b u (hb b n) q⟩,λb u q n _=>by rw[zA (hx b n)];exact n,λb u q _=>?_,
  λb xs q=>by rw[zA (hm b _ q λz=>z)];exact q,λb u xs q=>by rw[zA (hm b _ q λz=>z)];exact q,λb ps q=>⟨#[],by rw[zA (hm b _ q λz=>z),q];simp⟩⟩
 by_cases hbe:b=e
 .subst hbe;exact heo
 .exact ⟨u,k b u hbe q⟩
end
noncomputable def trk (h:Heap) (H:Hp):List Addr:=(List.range h.objs.size).filter λa=>(H a).isSome
noncomputable def bC (h:Heap) (H:Hp):Heap:=PySem.W.hideAll h (trk h H)
theorem zdc (h:Heap) (H:Hp):(bC h H).objs.size=h.objs.size:=PySem.W.hideAll_size _ _
theorem ze1 {h:Heap} {H:Hp} {b:Addr} {o:Obj} (e:h.get? b=some o) (n:H b=none):(bC h H).get? b=some o :=
 PySem.W.hideAll_get _ e λhm=>by
  have q:(H b).isSome=true:=(ZaV.mp hm).2;rw[n] at q;simp at q
theorem zg4 {h:Heap} {H:Hp} {b:Addr} {o:Obj} (e:(bC h H).get? b=some o):h.get? b=some o/\H b=none:=by
 have e':h.get? b=some o:=PySem.W.of_hideAll (trk h H) e;refine⟨e',?_⟩
 cases q:H b with
 |none=>rfl
 |some x =>
  have hm:b∈trk h H:=ZaV.mpr ⟨ZaL.mpr (Zd e'),by simp[q]⟩;have z:(bC h H).get? b=none:=PySem.W.hideAll_none (trk h H) hm;rw[z] at e;cases e
noncomputable def zh8 (g h:Heap) (L:Addr):List (Addr×Obj):=(List.range h.objs.size).filterMap λa=>if a=L\/(g.get? a).isSome=true then none else(h.get? a).map λo=>(a,o)
noncomputable def rest (g h:Heap) (L d:Addr):List (Addr×Obj):=(zh8 g h L).filter λp=>decide (p.1≠d)
end L2
namespace L2
open PySem PySem.Spec PyProof.Rows
structure Mod (K:PySem.W.Frag) (mg:Str->Option Value) (base:Heap):Prop where
 kin:K.In base
 glob:base.Ns mainGlobals mg
 blt:∃ mb,base.Ns builtinsNs mb/\∀ x:Str,x ≠ "__name__" -> mb x=bootBuiltins x
 nolimit:base.NoLimit
structure Cx where
 prog:Program
 w:World
 K:PySem.W.Frag
 mg:Str->Option Value
 base:Heap
 A:Around
 N:List Str
 s₀:Shared
 H₀:Hp
 env:Env
 outer:List Env
 stack:List Env
 ex:List Addr
 fn:Str->Bool
 calm:Bool
 pn:PL
 xe:VP
noncomputable def sN (l:List Env):List Addr:=l.filterMap (·.frame)
noncomputable abbrev Cx.fs (X:Cx):List Addr:=sN X.outer
noncomputable def Vis (sc:Scope) (x:Str):Prop:=sc.names.lookup x=some .local\/sc.names.lookup x=some .cell\/sc.names.lookup x=some .free
noncomputable def Loc (sc:Scope) (x:Str):Prop:=sc.names.lookup x=some .local\/sc.names.lookup x=some .cell
noncomputable def Look (env:Env) (h:Heap) (m:Str->Option Value) (x:Str) (u:Value):Prop :=
 (env.kindOf x=some .local/\m x=some u)\/((env.kindOf x=some .cell\/env.kindOf x=some .free)/\∃ c,env.cells.lookup x=some c/\h.IsCell c (some u))
structure Cx.Ok (X:Cx):Prop where
 mod:Mod X.K X.mg X.base
 kind:X.env.scope.kind=.function
 glob:X.env.globals=mainGlobals
 blt:X.env.builtins=builtinsNs
 above:X.s₀.heap.objs.size<=X.env.locals
 inj:∀ x y c,X.env.cells.lookup x=some c->X.env.cells.lookup y=some c->x=y
 has:∀ x,(X.env.kindOf x=some .cell\/X.env.kindOf x=some .free)->∃ c,X.env.cells.lookup x=some c
 cab:∀ x c,X.fn x=true->X.env.cells.lookup x=some c->X.s₀.heap.objs.size<=c
 hd:X.calm=true->X.A.handled=none
 frames:X.A.frames=some X.stack
 stk:X.stack=X.outer\/(X.stack=X.env::X.outer/\X.env.frame=some X.env.locals)
 exf:∀ b∈X.ex,b≠X.env.locals/\∀ x c,X.env.cells.lookup x=some c->c≠b
 bs:∀ b o,X.base.get? b=some o->X.s₀.heap.get? b=some o/\X.H₀ b=none
 bsz:X.base.objs.size<=X.s₀.heap.objs.size
 noex:∀ b o,X.base.get? b=some o->b∉X.ex
 exfs:∀ b∈X.ex,b∉X.fs
 funs:X.s₀.heap.FunFrames X.base X.outer
 frf:∀ b∈X.fs,X.H₀ b=none
structure Inv (X:Cx) (pins:PL) (σ:List (Option V)) (H:Hp) (s:Shared):Prop where
 ok:X.Ok
 os:s.os=X.s₀.os
 bare:AllBare s.gens
 base:Un X.fs X.ex X.H₀ H X.s₀.heap s.heap
 loc:∃ m,s.heap.Ns X.env.locals m/\∀ (i:Nat) (x:Str) (v:V),X.N[i]?=some x->σ[i]?=some (some v)->Vis X.env.scope x->∃ u,yV v u/\Look X.env s.heap m x u
 cell:∀ x c,X.env.cells.lookup x=some c->∃ v,s.heap.IsCell c v
 free:H X.env.locals=none
 freeC:∀ x c,X.env.cells.lookup x=some c->H c=none
 pin:∀ p∈X.pn++pins,s.heap.get? p.1=some p.2/\H p.1=none/\p.1≠X.env.locals/\p.1∉X.fs/\∀ v,p.2.data≠.cell v
 hok:uW X.prog X.w H s.heap
 len:σ.length=X.N.length
 tk:0<s.toks
section
variable {X:Cx} {pins:PL} {σ:List (Option V)} {H H':Hp} {s:Shared} {h':Heap}
theorem Cx.Ok.nofr (ok:X.Ok) {b:Addr} {o:Obj} (e:X.base.get? b=some o):b∉X.fs:=λhb=>by
 have:=(ok.funs.mem hb).1;rw[e] at this;cases this
theorem Inv.bs (I:Inv X pins σ H s):∀ b o,X.base.get? b=some o->s.heap.get? b=some o/\H b=none:=λb o e =>
 ⟨I.base.keep b o (I.ok.bs b o e).1 (I.ok.bs b o e).2 (I.ok.nofr e) (I.ok.noex b o e),I.base.free b o (I.ok.bs b o e).1 (I.ok.bs b o e).2 (I.ok.noex b o e)⟩
theorem Inv.bk (I:Inv X pins σ H s):∀ b o,X.base.get? b=some o->s.heap.get? b=some o:=λb o e=>(I.bs b o e).1
theorem Inv.mod (I:Inv X pins σ H s):Mod X.K X.mg X.base:=I.ok.mod
theorem Inv.kIn (I:Inv X pins σ H s):X.K.In s.heap:=I.ok.mod.kin.keeps I.bk
theorem Inv.lt (I:Inv X pins σ H s):X.env.locals<s.heap.objs.size:=let ⟨_,hn,_⟩:=I.loc;hn.lt
theorem Inv.sz (I:Inv X pins σ H s):X.s₀.heap.objs.size<=s.heap.objs.size:=Ze I.ok.above (ZaQ I.lt)
theorem Inv.nofs (I:Inv X pins σ H s) {a:Addr} (h:s.heap.objs.size<=a):a∉X.fs:=λhb=>by
 obtain⟨_,o,ho,_⟩:=I.ok.funs.mem hb;exact absurd (Zj (Zd ho) (Ze I.sz h)) (Z1 _)
theorem Inv.cne (I:Inv X pins σ H s):∀ x c,X.env.cells.lookup x=some c->c≠X.env.locals:=λx c e z=>by
 obtain⟨v,o,ho,hd⟩:=I.cell x c e;obtain⟨m,⟨o',es,ep,ho',hd',_⟩,_⟩:=I.loc;rw[z,ho'] at ho;cases ho;rw[hd'] at hd;cases hd
theorem Inv.funs (I:Inv X pins σ H s):s.heap.FunFrames X.base X.outer:=by
 have all:∀ (l:List Env),(∀ b∈sN l,b∈X.fs)->X.s₀.heap.FunFrames X.base l->s.heap.FunFrames X.base l:=by
  intro l
  induction l with
  |nil=>intro _ _;trivial
  |cons env r ih =>
   intro hs hl;obtain⟨hk,⟨L,o,hf,hn,ho,hd⟩,hr⟩:=hl;have hL:L∈X.fs:=hs L (by unfold sN;rw[ZaO,hf];exact zzT);obtain⟨sl,e⟩:=I.base.slot L o ho (I.ok.frf L hL) hL λz=>I.ok.exfs L z hL;exact⟨hk,⟨L,_,hf,hn,e,hd⟩,ih (λb hb=>hs b (by unfold sN;rw[ZaO,hf];exact Zi _ hb)) hr⟩
 exact all X.outer (λ_ hb=>hb) I.ok.funs
theorem Inv.stack (I:Inv X pins σ H s):s.heap.FunFrames X.base X.stack:=by
 rcases I.ok.stk with e|⟨e,hf⟩
 .rw[e];exact I.funs
 .rw[e];obtain⟨m,hn,_⟩:=I.loc;refine .cons (by rw[I.ok.kind];decide) hf hn ?_ I.funs;exact Heap.get?_none_of_le (Ze I.ok.bsz I.ok.above)
theorem Inv.stkSub (I:Inv X pins σ H s):∀ b∈sN X.stack,b∈X.env.locals::X.fs:=λb hb=>by
 rcases I.ok.stk with e|⟨e,hf⟩
 .rw[e] at hb;exact Zi _ hb
 .rw[e] at hb;unfold sN at hb;rw[ZaO,hf] at hb;exact hb
theorem Inv.stkFree (I:Inv X pins σ H s):∀ b∈sN X.stack,H b=none:=λb hb=>by
 rcases Zh.mp (I.stkSub b hb) with e|hb
 .rw[e];exact I.free
 .obtain ⟨_,o,ho,_⟩:=I.ok.funs.mem hb;exact I.base.free b o ho (I.ok.frf b hb) λz=>I.ok.exfs b z hb
theorem Inv.step {g':Array GenState} {t':Nat} {d':Drawn} {ch:List Addr} (I:Inv X pins σ H s)
  (hch:∀ b∈ch,(b∈X.ex\/X.s₀.heap.objs.size<=b)/\b≠X.env.locals/\(∀ x c,X.env.cells.lookup x=some c->c≠b)/\∀ p∈X.pn++pins,p.1≠b)
  (keep:∀ b o,b≠X.env.locals->b∉X.fs->b∉ch->s.heap.get? b=some o->H b=none->h'.get? b=some o)
  (slot:∀ b o,b≠X.env.locals->b∈X.fs->b∉ch->s.heap.get? b=some o->H b=none->∃ sl,h'.get? b=some {o with slots:=sl}) (free:∀ b o,b∉ch->s.heap.get? b=some o->H b=none->H' b=none)
  (there:∀ b o,b∉ch->s.heap.get? b=some o->∃ o',h'.get? b=some o')
  (tups:∀ b xs,H b=some (.tup xs)->H' b=some (.tup xs)) (frzs:∀ b o u,H b=some (.frz o u)->H' b=some (.frz o u)) (tbls:∀ b ps,H b=some (.tbl ps)->∃ wM,H' b=some (.tbl (ps++wM)))
  (ns:∀ m,s.heap.Ns X.env.locals m->h'.Ns X.env.locals m) (hok:uW X.prog X.w H' h') (hg:AllBare g') (ht:0<t':=by bv_omega) :
  Inv X pins σ H' {s with heap:=h',gens:=g',drawn:=d',toks:=t'}:=by
 have neL:∀ b o,X.s₀.heap.get? b=some o->b≠X.env.locals:=λb o e=>Zo (Zj (Zd e) I.ok.above)
 have neC:∀ b o,X.s₀.heap.get? b=some o->b∉X.ex->b∉ch:=λb o e hx hb=>by
  rcases(hch b hb).1 with z|z
  .exact hx z
  .exact absurd (Zj (Zd e) z) (Z1 _)
 have cellK:∀ x c,X.env.cells.lookup x=some c->∀ v,s.heap.IsCell c v->h'.IsCell c v:=λx c e v ⟨o,ho,hd⟩=>by
  have nch:c∉ch:=λz=>(hch c z).2.2.1 x c e rfl
  by_cases hc:c∈X.fs
  .obtain ⟨sl,q⟩:=slot c o (I.cne x c e) hc nch ho (I.freeC x c e);exact⟨_,q,hd⟩
  .exact ⟨o,keep c o (I.cne x c e) hc nch ho (I.freeC x c e),hd⟩
 refine⟨I.ok,I.os,hg,⟨λb o e n hb hx=>?_,λb o e n hb hx=>?_,λb o e n hx=>?_,λb o e hx=>?_,λb xs e=>tups b xs (I.base.tups b xs e),λb o xs e=>frzs b o xs (I.base.frzs b o xs e),λb ps e=>?_⟩,?_,λx c e=>?_,?_,λx c e=>?_,λp hp=>?_,hok,I.len,ht⟩
 .exact keep b o (neL b o e) hb (neC b o e hx) (I.base.keep b o e n hb hx) (I.base.free b o e n hx)
 .obtain ⟨sl,e1⟩:=I.base.slot b o e n hb hx;obtain⟨sl',e2⟩:=slot b _ (neL b o e) hb (neC b o e hx) e1 (I.base.free b o e n hx);exact⟨sl',e2⟩
 .obtain ⟨o',e1⟩:=I.base.there b o e hx;exact free b o' (neC b o e hx) e1 (I.base.free b o e n hx)
 .obtain ⟨o',e1⟩:=I.base.there b o e hx;exact there b o' (neC b o e hx) e1
 .obtain ⟨m1,e1⟩:=I.base.tbls b ps e;obtain⟨m2,e2⟩:=tbls b _ e1;exact⟨m1++m2,by rw[e2,Array.append_assoc]⟩
 .obtain ⟨m,hn,hl⟩:=I.loc;refine⟨m,ns m hn,λi x v e1 e2 e3=>?_⟩;obtain⟨u,r,l⟩:=hl i x v e1 e2 e3;refine⟨u,r,?_⟩;rcases l with l|⟨k,c,e,z⟩
  .exact .inl l
  .exact .inr ⟨k,c,e,cellK x c e _ z⟩
 .obtain ⟨v,z⟩:=I.cell x c e;exact⟨v,cellK x c e v z⟩
 .obtain ⟨m,⟨o,_,_,ho,_⟩,_⟩:=I.loc;exact free _ o (λz=>(hch _ z).2.1 rfl) ho I.free
 .obtain ⟨v,o,ho,hd⟩:=I.cell x c e;exact free c o (λz=>(hch c z).2.2.1 x c e rfl) ho (I.freeC x c e)
 .obtain ⟨e,n,ne,nf,d⟩:=I.pin p hp;have nch:p.1∉ch:=λz=>(hch p.1 z).2.2.2 p hp rfl;exact⟨keep p.1 p.2 ne nf nch e n,free p.1 p.2 nch e n,ne,nf,d⟩
theorem Inv.un {t':Nat} (I:Inv X pins σ H s) (u:Un X.fs [] H H' s.heap h') (hok:uW X.prog X.w H' h') (ht:0<t':=by bv_omega):Inv X pins σ H' {s with heap:=h',toks:=t'}:=by
 obtain⟨m,⟨o,es,ep,ho,r⟩,_⟩:=id I.loc;obtain⟨sl,hL⟩:=u.any ho I.free 'g'
 exact I.step (g':=s.gens) (d':=s.drawn) (ch:=[]) (λ_ z=>nomatch z) (λb o _ hb _ e n=>u.keep b o e n hb 'g') (λb o _ hb _ e n=>u.slot b o e n hb 'g') (λb o _ e n=>u.free b o e n 'g') (λb o _ e=>u.there b o e 'g') u.tups u.frzs u.tbls (λm' hm=>by
  obtain⟨o',es',ep',ho',r'⟩:=hm;rw[ho] at ho';cases ho';exact⟨_,es',ep',hL,r'⟩) hok I.bare
theorem Inv.call {g':Array GenState} {t':Nat} {d':Drawn} {ch:List Addr} (I:Inv X pins σ H s) (u:Un (sN X.stack) ch H H' s.heap h') (hok:uW X.prog X.w H' h') (hg:AllBare g')
  (hch:∀ b∈ch,(b∈X.ex\/X.s₀.heap.objs.size<=b)/\b≠X.env.locals/\(∀ x c,X.env.cells.lookup x=some c->c≠b)/\∀ p∈X.pn++pins,p.1≠b) (ht:0<t':=by bv_omega) :
  Inv X pins σ H' {s with heap:=h',gens:=g',drawn:=d',toks:=t'}:=by
 obtain⟨m,⟨o,es,ep,ho,r⟩,_⟩:=id I.loc;obtain⟨sl,hL⟩:=u.any ho I.free λz=>(hch _ z).2.1 rfl
 exact I.step (ch:=ch) hch (λb o hL hb hc e n=>u.keep b o e n (λz=>(Zh.mp (I.stkSub b z)).elim hL hb) hc) (λb o _ _ hc e n=>u.any e n hc) (λb o hc e n=>u.free b o e n hc) (λb o hc e=>u.there b o e hc) u.tups u.frzs u.tbls (λm' hm=>by
  obtain⟨o',es',ep',ho',r'⟩:=hm;rw[ho] at ho';cases ho';exact⟨_,es',ep',hL,r'⟩) hok hg
theorem Inv.turned {t':Nat} {it:Addr} (I:Inv X pins σ H s) (k:∀ b o,b≠it->s.heap.get? b=some o->h'.get? b=some o) (hn:H it=none) (hL:it≠X.env.locals)
  (h1:it∈X.ex\/X.s₀.heap.objs.size<=it) (h2:∀ x c,X.env.cells.lookup x=some c->c≠it) (h3:∀ p∈X.pn++pins,p.1≠it) (ht:0<t':=by bv_omega):Inv X pins σ H {s with heap:=h',toks:=t'}:=by
 have nit:∀ b u,H b=some u->b≠it:=λb u e z=>by rw[z,hn] at e;cases e
 refine I.step (g':=s.gens) (d':=s.drawn) (ch:=[it]) (λb hb=>?_) (λb o _ _ hc e _=>k b o (λz=>hc (by simp[z])) e) (λb o _ _ hc e _=>⟨o.slots,k b o (λz=>hc (by simp[z])) e⟩) (λ_ _ _ _ n=>n)
  (λb o hc e=>⟨o,k b o (λz=>hc (by simp[z])) e⟩) (λ_ _ e=>e) (λ_ _ _ e=>e) (λb ps e=>⟨#[],by rw[e];simp⟩) (λm hm=>?_) (λb u e=>?_) I.bare
 .have e:b=it:=by simpa using hb
  subst e;exact⟨h1,hL,h2,h3⟩
 .obtain ⟨o,es,ep,ho,r⟩:=hm;exact⟨o,es,ep,k _ o (Ne.symm hL) ho,r⟩
 .refine (I.hok b u e).stay (λc v hc q=>k c v ?_ q) (λ_ q=>q) λ_ _ q=>q;rcases hc with z|z
  .rw[z];exact nit b u e
  .exact nit c _ z
theorem Inv.tok (I:Inv X pins σ H s) (t:Nat) (ht:0<t:=by bv_omega):Inv X pins σ H {s with toks:=t}:=I.un (h':=s.heap) (t':=t) Un.refl I.hok
theorem Inv.kept {t':Nat} (I:Inv X pins σ H s) (k:∀ b u,s.heap.get? b=some u->h'.get? b=some u) (ht:0<t':=by bv_omega):Inv X pins σ H {s with heap:=h',toks:=t'}:=I.un (Un.kept k) (I.hok.kept k)
theorem Inv.laid {a:Addr} {o:HO} {t':Nat} (I:Inv X pins σ H s) (k:∀ b u,s.heap.get? b=some u->h'.get? b=some u) (hp:s.heap.objs.size<=a) (new:xK X.prog X.w (yG H a o) h' a o) (ht:0<t':=by bv_omega) :
  Inv X pins σ (yG H a o) {s with heap:=h',toks:=t'}:=I.un (Un.laid k hp (I.hok.fresh hp)) (I.hok.laid k hp new)
theorem Inv.write {x e:Addr} {o:HO} {t':Nat} (I:Inv X pins σ H s) (mu:Mut (H x)) (he:e=x\/H e=some (.own x)) (k:∀ b u,b≠e->s.heap.get? b=some u->h'.get? b=some u) (heo:∃ u,h'.get? e=some u)
  (new:xK X.prog X.w (yG H x o) h' x o) (ht:0<t':=by bv_omega):Inv X pins σ (yG H x o) {s with heap:=h',toks:=t'}:=I.un (Un.write mu he k heo) (I.hok.write mu he k heo new)
theorem Inv.pins_of {pins':PL} (I:Inv X pins σ H s) (h:∀ p∈pins',s.heap.get? p.1=some p.2/\H p.1=none/\p.1≠X.env.locals/\p.1∉X.fs/\∀ v,p.2.data≠.cell v):Inv X pins' σ H s :=
 ⟨I.ok,I.os,I.bare,I.base,I.loc,I.cell,I.free,I.freeC,λp hp=>(ZA.mp hp).elim (λz=>I.pin p (Zs _ z)) (h p),I.hok,I.len,I.tk⟩
theorem nM {N:List Str} (hN:N.Nodup) {i j:Nat} {x:Str} (a:N[i]?=some x) (b:N[j]?=some x):i=j:=by
 obtain⟨h1,e1⟩:=Zp.mp a;obtain⟨h2,e2⟩:=Zp.mp b;exact(List.getElem_inj hN).mp (e1.trans e2.symm)
theorem fU {M:Model} {A:Around} {E:VP} {i:Nat} {x:Str} {v:V} {u:Value} {Q:Unit->Shared->Prop} (I:Inv X pins σ H s) (hN:X.N.Nodup) (hi:X.N[i]?=some x) (hx:Loc X.env.scope x) (r:yV v u)
  (h:∀ s',Inv X pins (σ.set i (some v)) H s'->(∃ a,Heap.SameBut a s.heap s'.heap/\(a=X.env.locals\/X.env.cells.lookup x=some a))->Q () s') (hf:X.fn x=true\/X.env.scope.names.lookup x=some .local:=by first|exact .inl rfl|exact .inr rfl|assumption):wpAny M A (storeName X.env x u) Q E s:=by
 obtain⟨m,hn,hl⟩:=id I.loc;have hcls:(X.env.scope.kind==.class || (X.env.scope.kind==.module&&X.env.locals != X.env.globals))=false:=by rw[I.ok.kind];rfl
 have hiσ:i<σ.length:=by rw[I.len];exact(Zp.mp hi).1
 have cne:=I.cne
 have tracked:∀ {a:Addr} {h':Heap},(∃ o,s.heap.get? a=some o/\H a=none)->Heap.SameBut a s.heap h'->uW X.prog X.w H h':=λ{a h'} ha hs b ob e=>by
  obtain⟨_,_,hfree⟩:=ha;refine(I.hok b ob e).stay (λc w' hc q=>(hs.2 c ?_).trans q) (λ_ q=>q) λ_ _ q=>q;rintro rfl;rcases hc with rfl|hc
  .rw[hfree] at e;cases e
  .rw[hfree] at hc;cases hc
 rcases hx with hk|hk
 .refine wpAny_storeName_local hk hn (λh' hn' hs=>?_) hcls;obtain⟨oL,_,_,hoL,_⟩:=id hn;refine h _ ⟨I.ok,I.os,I.bare,⟨λb o e n hb hx=>?_,λb o e n hb hx=>?_,I.base.free,λb o e hx=>?_,I.base.tups,I.base.frzs,I.base.tbls⟩,⟨_,hn',λj y v' e1 e2 e3=>?_⟩,λy c e=>?_,I.free,I.freeC,λp hp=>?_,tracked ⟨oL,hoL,I.free⟩ hs,by simpa using I.len,ZM _⟩ ⟨_,hs,.inl rfl⟩
  .exact (hs.2 b (Zo (Zj (Zd e) I.ok.above))).trans (I.base.keep b o e n hb hx)
  .obtain ⟨sl,e1⟩:=I.base.slot b o e n hb hx;exact⟨sl,(hs.2 b (Zo (Zj (Zd e) I.ok.above))).trans e1⟩
  .obtain ⟨o',e1⟩:=I.base.there b o e hx;exact⟨o',(hs.2 b (Zo (Zj (Zd e) I.ok.above))).trans e1⟩
  .by_cases hj:j=i
   .subst hj;rw[hi] at e1;cases e1;rw[Zad hiσ] at e2;cases e2;exact⟨u,r,.inl ⟨hk,by simp⟩⟩
   .rw[Zag (Ne.symm hj)] at e2;obtain⟨u',r',q⟩:=hl j y v' e1 e2 e3;refine⟨u',r',?_⟩;rcases q with⟨k,e⟩|⟨k,c,e,z⟩
    .refine .inl ⟨k,?_⟩;have:y≠x:=λe=>hj (nM hN e1 (e▸hi));simp[this,e]
    .exact .inr ⟨k,c,e,z.sameBut hs (cne y c e)⟩
  .obtain ⟨w',z⟩:=I.cell y c e;exact⟨w',z.sameBut hs (cne y c e)⟩
  .obtain ⟨e,n,ne,nf,d⟩:=I.pin p hp;exact⟨(hs.2 p.1 ne).trans e,n,ne,nf,d⟩
 .have hfn:X.fn x=true:=by
   rcases hf with z|z
   .exact z
   .rw[z] at hk;cases hk
  obtain⟨c,hc⟩:=I.ok.has x (.inl hk);obtain⟨w',z⟩:=I.cell x c hc;refine wpAny_storeName_cell I.ok.kind hk hc z (λh' hc' hs=>?_);obtain⟨oc,hoc,hocd⟩:=id z;refine h {s with heap:=h'} ⟨I.ok,I.os,I.bare,⟨λb o e n hb hx=>?_,λb o e n hb hx=>?_,I.base.free,λb o e hx=>?_,I.base.tups,I.base.frzs,I.base.tbls⟩,⟨m,hn.sameBut hs (Ne.symm (cne x c hc)),λj y v' e1 e2 e3=>?_⟩,λy c' e=>?_,I.free,I.freeC,λp hp=>?_,tracked ⟨oc,hoc,I.freeC x c hc⟩ hs,by simpa using I.len,I.tk⟩ ⟨c,hs,.inr hc⟩
  .exact (hs.2 b (Zo (Zj (Zd e) (I.ok.cab x c hfn hc)))).trans (I.base.keep b o e n hb hx)
  .obtain ⟨sl,e1⟩:=I.base.slot b o e n hb hx;exact⟨sl,(hs.2 b (Zo (Zj (Zd e) (I.ok.cab x c hfn hc)))).trans e1⟩
  .obtain ⟨o',e1⟩:=I.base.there b o e hx;exact⟨o',(hs.2 b (Zo (Zj (Zd e) (I.ok.cab x c hfn hc)))).trans e1⟩
  .by_cases hj:j=i
   .subst hj;rw[hi] at e1;cases e1;rw[Zad hiσ] at e2;cases e2;exact⟨u,r,.inr ⟨.inl hk,c,hc,hc'⟩⟩
   .rw[Zag (Ne.symm hj)] at e2;obtain⟨u',r',q⟩:=hl j y v' e1 e2 e3;refine⟨u',r',?_⟩;rcases q with q|⟨k,c',e,z'⟩
    .exact .inl q
    .refine .inr ⟨k,c',e,z'.sameBut hs ?_⟩;rintro rfl;exact hj (nM hN e1 (I.ok.inj _ _ _ e hc▸hi))
  .by_cases hcc:c'=c
   .subst hcc;exact⟨_,hc'⟩
   .obtain ⟨w2,z2⟩:=I.cell y c' e;exact⟨w2,z2.sameBut hs hcc⟩
  .obtain ⟨e,n,ne,nf,d⟩:=I.pin p hp;refine⟨(hs.2 p.1 ?_).trans e,n,ne,nf,d⟩;intro q;rw[q,hoc] at e;have q':oc=p.2:=ZE e;exact d w' (by rw[← q'];exact hocd)
theorem pD {M:Model} {A:Around} {E:VP} {i:Nat} {x:Str} {v:V} {u:Value} {Q:Unit->Shared->Prop} (I:Inv X pins σ H s) (hN:X.N.Nodup) (hi:X.N[i]?=some x) (hx:Loc X.env.scope x) (r:yV v u)
  (h:∀ s',Inv X pins (σ.set i (some v)) H s'->Q () s') (hf:X.fn x=true\/X.env.scope.names.lookup x=some .local:=by first|exact .inl rfl|exact .inr rfl|assumption):wpAny M A (storeName X.env x u) Q E s :=
 fU I hN hi hx r (λs' I' _=>h s' I') hf
theorem Inv.call' {s':Shared} {ch:List Addr} (I:Inv X pins σ H s) (ho:s'.os=s.os) (u:Un (sN X.stack) ch H H' s.heap s'.heap) (hok:uW X.prog X.w H' s'.heap) (hg:AllBare s'.gens)
  (hch:∀ b∈ch,(b∈X.ex\/X.s₀.heap.objs.size<=b)/\b≠X.env.locals/\(∀ x c,X.env.cells.lookup x=some c->c≠b)/\∀ p∈X.pn++pins,p.1≠b) (ht:0<s'.toks):Inv X pins σ H' s':=by
 obtain⟨h',g',d',t',o'⟩:=s';have e:o'=s.os:=ho;subst e;exact I.call (g':=g') (t':=t') (d':=d') u hok hg hch
end
noncomputable abbrev XK:=Value->Option Addr->Hp->Prop
noncomputable abbrev St:=List (Option V)
noncomputable abbrev VK:=V->Hp->Prop
noncomputable abbrev TE:=St->Hp->VK->Prop
noncomputable abbrev TT:=St->Hp->(Bool->Hp->Prop)->Prop
noncomputable abbrev TA:=St->Hp->(List V->Hp->Prop)->Prop
structure Ends where
 nx:St->Hp->Prop
 rt:VK
 bk:St->Hp->Prop:=λ_ _=>False
 ct:St->Hp->Prop:=λ_ _=>False
noncomputable abbrev TS:=Ends->St->Hp->Prop
noncomputable def EP (X:Cx) (pins:PL) (σ:St) (Q:VK) (u:Value) (s':Shared):Prop:=∃ v H',Inv X pins σ H' s'/\yV v u/\Q v H'
noncomputable def TP (X:Cx) (pins:PL) (σ:St) (Q:Bool->Hp->Prop) (b:Bool) (s':Shared):Prop:=∃ H',Inv X pins σ H' s'/\Q b H'
noncomputable def AP (X:Cx) (pins:PL) (σ:St) (Q:List V->Hp->Prop) (us:List Value) (s':Shared):Prop:=∃ vs H',Inv X pins σ H' s'/\yW vs us/\Q vs H'
noncomputable def SP (X:Cx) (pins:PL) (D:Ends) (f:Flow) (s':Shared):Prop :=
 match f with
 | .next=>∃ σ' H',Inv X pins σ' H' s'/\D.nx σ' H'
 | .brk=>∃ σ' H',Inv X pins σ' H' s'/\D.bk σ' H'
 | .cont=>∃ σ' H',Inv X pins σ' H' s'/\D.ct σ' H'
 | .ret u=>∃ v σ' H',Inv X pins σ' H' s'/\yV v u/\D.rt v H'
noncomputable def PE (X:Cx) (e:Expr) (t:TE):Prop :=
 ∀ (pins:PL) (s:Shared) (σ:St) (H:Hp) (Q:VK),Inv X pins σ H s->t σ H Q->wpAny 'b' X.A (eval e X.env) (EP X pins σ Q) X.xe s
noncomputable def PT (X:Cx) (e:Expr) (t:TT):Prop :=
 ∀ (pins:PL) (s:Shared) (σ:St) (H:Hp) (Q:Bool->Hp->Prop),Inv X pins σ H s->t σ H Q->wpAny 'b' X.A (isTrue e X.env (eval e X.env)) (TP X pins σ Q) X.xe s
noncomputable def PW (X:Cx) (e:Expr) (t:TT):Prop :=
 ∀ (whole:Sem Value) (pins:PL) (s:Shared) (σ:St) (H:Hp) (Q:Bool->Hp->Prop),Inv X pins σ H s->t σ H Q->wpAny 'b' X.A (isTrue e X.env whole) (TP X pins σ Q) X.xe s
theorem PW.pt {X:Cx} {e:Expr} {t:TT} (h:PW X e t):PT X e t:=h _
noncomputable def PA (X:Cx) (es:List Expr) (t:TA):Prop :=
 ∀ (pos:Pos) (pins:PL) (s:Shared) (σ:St) (H:Hp) (Q:List V->Hp->Prop),Inv X pins σ H s->t σ H Q->wpAny 'b' X.A (spliced (backTo pos (starEach es X.env))) (AP X pins σ Q) X.xe s
noncomputable def PS (X:Cx) (st:Stmt) (t:TS):Prop :=
 ∀ (pins:PL) (s:Shared) (σ:St) (H:Hp) (D:Ends),Inv X pins σ H s->t D σ H->wpAny 'b' X.A (exec st X.env) (SP X pins D) X.xe s
noncomputable def gP (X:Cx) (st:List Stmt) (t:TS):Prop :=
 ∀ (pins:PL) (s:Shared) (σ:St) (H:Hp) (D:Ends),Inv X pins σ H s->t D σ H->wpAny 'b' X.A (execs st X.env) (SP X pins D) X.xe s
theorem thn {α:Type} {t:Sem α} {Q Q':α->Shared->Prop} {M:Model} {A:Around} {E:VP} {s:Shared} (h:wpAny M A t Q E s) (hQ:∀ a s,Q a s->Q' a s):wpAny M A t Q' E s:=Zv h hQ λ_ _ x=>x
end L2
namespace L2
open PySem PySem.Spec PyProof.Rows
section
variable {X:Cx}
theorem bin {a b:Expr} {ta tb:TE} (ha:PE X a ta) (hb:PE X b tb) {pins:PL} {s:Shared} {σ:St} {H:Hp} {R:V->V->Hp->Prop} (I:Inv X pins σ H s) (h:ta σ H λx H1=>tb σ H1 λy H2=>R x y H2)
  {α:Type} {Q:α->Shared->Prop} {f:Value->Value->Sem α}
  (hf:∀ v u s2 x y H2,Inv X pins σ H2 s2->yV x v->yV y u->R x y H2->wpAny 'b' X.A (f v u) Q X.xe s2) :
  wpAny 'b' X.A (eval a X.env) (λv s₁=>wpAny 'b' X.A (eval b X.env) (λu s₂=>wpAny 'b' X.A (f v u) Q X.xe s₂) X.xe s₁) X.xe s:=by
 refine thn (ha pins s σ H _ I h) λv s1 ⟨x,H1,I1,r1,q1⟩=>?_;refine thn (hb pins s1 σ H1 _ I1 q1) λu s2 ⟨y,H2,I2,r2,q2⟩=>?_;exact hf v u s2 x y H2 I2 r1 r2 q2
noncomputable def tVar (i:Nat):TE:=λσ H Q=>∃ v,σ[i]?=some (some v)/\Q v H
noncomputable def tC (v:V):TE:=λ_ H Q=>Q v H
theorem bR {i:Nat} {x:Str} {pos:Pos} (hN:X.N[i]?=some x) (hv:Vis X.env.scope x) (hd:(x==("__debug__":Str))=false:=by decide) (hcd:(x==("__classdict__":Str))=false:=by decide):PE X (.Name x pos) (tVar i):=by
 intro pins s σ H Q I h;obtain⟨v,e,h⟩:=h;obtain⟨m,hn,hl⟩:=I.loc;obtain⟨u,r,l⟩:=hl i x v hN e hv;have fin:EP X pins σ Q u s:=⟨v,H,I,r,h⟩;rcases l with⟨hk,hm⟩|⟨hk,c,hc,hcell⟩
 .exact wpAny_Name (wpAny_loadName_local I.ok.kind hk hn hm fin) hd
 .rcases hk with hk|hk
  .exact wpAny_Name (wpAny_loadName_cell I.ok.kind hk hc hcell fin) hd
  .exact wpAny_Name (wpAny_loadName_free I.ok.kind hk hc hcell fin hcd) hd
theorem zfR {i j pos}:PE X (.Constant (.int i) j pos) (tC (.int i)):=λ_ _ _ H _ I h=>wpAny_Constant_int ⟨.int i,H,I.tok _,⟨_,rfl⟩,h⟩
theorem pe_bl {b j pos}:PE X (.Constant (.bool b) j pos) (tC (.bl b)):=λ_ _ _ H _ I h=>Constant_bool ⟨.bl b,H,I,rfl,h⟩
theorem zjf {j pos}:PE X (.Constant .none j pos) (tC .non):=λ_ _ _ H _ I h=>Constant_none ⟨.non,H,I,rfl,h⟩
theorem zfP {x j pos}:PE X (.Constant (.str x) j pos) (tC (.str x)):=λ_ _ _ H _ I h=>Calls.Constant_str ⟨.str x,H,I.tok _,⟨_,rfl⟩,h⟩
noncomputable def Gl (X:Cx) (x:Str):Prop:=X.env.kindOf x=some .globalImplicit
theorem qL {E:VP} {pins:PL} {s:Shared} {σ:St} {H:Hp} {x:Str} {u:Value} {pos:Pos} {Q:VP} (I:Inv X pins σ H s) (hg:Gl X x) (hm:X.mg x=some u) (h:Q u s)
  (hd:(x==("__debug__":Str))=false:=by decide):wpAny 'b' X.A (eval (.Name x pos) X.env) Q E s :=
 Calls.Name_function_global I.ok.kind hg (Calls.loadGlobal_global (by rw[I.ok.glob];exact I.mod.glob.keeps I.bk) hm h) hd
theorem vA {E:VP} {pins:PL} {s:Shared} {σ:St} {H:Hp} {x:Str} {u:Value} {pos:Pos} {Q:VP} (I:Inv X pins σ H s) (hg:Gl X x) (hm:X.mg x=none) (hv:bootBuiltins x=some u) (h:Q u s)
  (hn:x ≠ "__name__" := by decide) (hd:(x==("__debug__":Str))=false:=by decide):wpAny 'b' X.A (eval (.Name x pos) X.env) Q E s:=by
 obtain⟨mb,h1,h2⟩:=I.mod.blt;exact Calls.Name_function_global I.ok.kind hg (Calls.loadGlobal_builtin (by rw[I.ok.glob];exact I.mod.glob.keeps I.bk) hm (by rw[I.ok.blt];exact h1.keeps I.bk) ((h2 x hn).trans hv) h) hd
theorem zgV {x:Str} {v:V} {u:Value} {pos:Pos} (hg:Gl X x) (hm:X.mg x=some u) (r:yV v u) (hd:(x==("__debug__":Str))=false:=by decide):PE X (.Name x pos) (tC v) :=
 λ_ _ _ H _ I h=>qL I hg hm ⟨v,H,I,r,h⟩ hd
theorem zgZ {x:Str} {v:V} {u:Value} {pos:Pos} (hg:Gl X x) (hm:X.mg x=none) (hv:bootBuiltins x=some u) (r:yV v u) (hn:x ≠ "__name__" := by decide) (hd:(x==("__debug__":Str))=false:=by decide):PE X (.Name x pos) (tC v) :=
 λ_ _ _ H _ I h=>vA I hg hm hv ⟨v,H,I,r,h⟩ hn hd
variable {a b:Expr} {ta tb:TE} {pos:Pos}
variable {tA tB':TT} {rest:List Expr}
noncomputable def tAnd (t u:TT):TT:=λσ H Q=>t σ H λc H1=>if c=true then u σ H1 Q else Q false H1
noncomputable def tOr (t u:TT):TT:=λσ H Q=>t σ H λc H1=>if c=true then Q true H1 else u σ H1 Q
noncomputable def tNot (t:TT):TT:=λσ H Q=>t σ H λc H1=>Q (!c) H1
theorem zgJ (ha:PT X a tA):PW X (.BoolOp .And [a] pos) tA:=by
 intro wh pins s σ H Q I h;refine isTrue_and (thn (ha pins s σ H Q I h) λc s1 e=>?_)
 cases c with
 |true=>exact isTrue_and_nil e
 |false=>exact e
theorem ziZ (ha:PT X a tA):PW X (.BoolOp .Or [a] pos) tA:=by
 intro wh pins s σ H Q I h;refine isTrue_or (thn (ha pins s σ H Q I h) λc s1 e=>?_)
 cases c with
 |false=>exact isTrue_or_nil e
 |true=>exact e
theorem zfM (ha:PT X a tA) (hb:PW X (.BoolOp .And (b::rest) pos) tB'):PW X (.BoolOp .And (a::b::rest) pos) (tAnd tA tB'):=by
 intro wh pins s σ H Q I h;refine isTrue_and (thn (ha pins s σ H _ I h) λc s1 ⟨H1,I1,q1⟩=>?_)
 cases c with
 |true=>exact hb wh pins s1 σ H1 Q I1 q1
 |false=>exact⟨H1,I1,q1⟩
theorem zi0 (ha:PT X a tA) (hb:PW X (.BoolOp .Or (b::rest) pos) tB'):PW X (.BoolOp .Or (a::b::rest) pos) (tOr tA tB'):=by
 intro wh pins s σ H Q I h;refine isTrue_or (thn (ha pins s σ H _ I h) λc s1 ⟨H1,I1,q1⟩=>?_)
 cases c with
 |true=>exact⟨H1,I1,q1⟩
 |false=>exact hb wh pins s1 σ H1 Q I1 q1
theorem zi3 (ha:PT X a tA):PT X (.UnaryOp .Not a pos) (tNot tA):=by
 intro pins s σ H Q I h;exact isTrue_not (ha pins s σ H (λc H1=>Q (!c) H1) I h)
noncomputable def ziB (ta tb:TE):TE:=λσ H Q=>ta σ H λx H1=>∃ c,x=.bl c/\if c=true then tb σ H1 Q else Q (.bl false) H1
noncomputable def tOrV (ta tb:TE):TE:=λσ H Q=>ta σ H λx H1=>∃ c,x=.bl c/\if c=true then Q (.bl true) H1 else tb σ H1 Q
noncomputable def tNotV (ta:TE):TE:=λσ H Q=>ta σ H λx H1=>∃ c,x=.bl c/\Q (.bl (!c)) H1
theorem zfQ {op} {t:TE} (h:PE X a t):PE X (.BoolOp op [a] pos) t:=λpins s σ H Q I hw=>BoolOp_one (h pins s σ H Q I hw)
theorem zfS (ha:PE X a ta) (hb:PE X (.BoolOp .And (b::rest) pos) tb):PE X (.BoolOp .And (a::b::rest) pos) (ziB ta tb):=by
 intro pins s σ H Q I h;refine BoolOp_and (thn (ha pins s σ H _ I h) λv s1 ⟨x,H1,I1,r1,q1⟩=>?_);obtain⟨c,rfl,q1⟩:=q1;cases r1;refine Z6 ?_
 cases c with
 |true=>exact hb pins s1 σ H1 Q I1 q1
 |false=>exact⟨.bl false,H1,I1,rfl,q1⟩
theorem zjd (ha:PE X a ta) (hb:PE X (.BoolOp .Or (b::rest) pos) tb):PE X (.BoolOp .Or (a::b::rest) pos) (tOrV ta tb):=by
 intro pins s σ H Q I h;refine BoolOp_or (thn (ha pins s σ H _ I h) λv s1 ⟨x,H1,I1,r1,q1⟩=>?_);obtain⟨c,rfl,q1⟩:=q1;cases r1;refine Z6 ?_
 cases c with
 |false=>exact hb pins s1 σ H1 Q I1 q1
 |true=>exact⟨.bl true,H1,I1,rfl,q1⟩
theorem zje (ha:PE X a ta):PE X (.UnaryOp .Not a pos) (tNotV ta):=by
 intro pins s σ H Q I h;refine UnaryOp_ (thn (ha pins s σ H _ I h) λv s1 ⟨x,H1,I1,r1,q1⟩=>?_);obtain⟨c,rfl,q1⟩:=q1;cases r1;exact not_of (Z6 ⟨.bl (!c),H1,I1,rfl,q1⟩)
noncomputable def tIf (t:TT) (ta tb:TE):TE:=λσ H Q=>t σ H λc H1=>if c=true then ta σ H1 Q else tb σ H1 Q
theorem zey {c:Expr} (hc:PT X c tA) (ha:PE X a ta) (hb:PE X b tb):PE X (.IfExp c a b pos) (tIf tA ta tb):=by
 intro pins s σ H Q I h;refine wpAny_IfExp (thn (hc pins s σ H _ I h) λd s1 ⟨H1,I1,q1⟩=>?_)
 cases d with
 |true=>exact ha pins s1 σ H1 Q I1 q1
 |false=>exact hb pins s1 σ H1 Q I1 q1
end
end L2
namespace L2
open PySem PySem.Spec PyProof.Rows
noncomputable def sL (K:PySem.W.Frag) (H:Hp) (a:Addr) (xs:List V):Prop :=
 Rd H a (.lst xs) \/
  ∃ (o:Obj) (its:Array Value) (n:Nat),K.lookup a=some o/\o.cls=.type "list" /\ o.dict=none/\o.data=.seq its n/\its.size<=sizeLine/\yW xs its.toList
noncomputable def sP (K:PySem.W.Frag) (H:Hp) (a:Addr) (xs:List V):Prop :=
 Rd H a (.tup xs) \/
  ∃ (o:Obj) (its:Array Value) (n:Nat),K.lookup a=some o/\o.cls=.type "tuple" /\ o.data=.seq its n/\its.size<=sizeLine/\yW xs its.toList
noncomputable def absV:Value->Option V
 | .none=>some .non
 | .bool b=>some (.bl b)
 | .int i _=>some (.int i)
 | .str x _=>some (.str x)
 | .bytes b _=>some (.byt b)
 | .float b _=>some (.flt b)
 | .ref a=>a⁻¹
 | .type n=>some (.ty n)
 |_=>none
theorem yV.abs {x:V} {u:Value} (r:yV x u):absV u=some x:=by
 cases x with
 |non=>cases r;rfl
 |bl _=>cases r;rfl
 |int _=>obtain⟨t,rfl⟩:=r;rfl
 |str _=>obtain⟨t,rfl⟩:=r;rfl
 |byt _=>obtain⟨t,rfl⟩:=r;rfl
 |flt _=>obtain⟨t,rfl⟩:=r;rfl
 |ref _=>cases r;rfl
 |ty _=>cases r;rfl
theorem yV.inj {x y:V} {u:Value} (r:yV x u) (q:yV y u):x=y:=ZE (r.abs.symm.trans q.abs)
theorem yW.inj:∀ {xs ys:List V} {us:List Value},yW xs us->yW ys us->xs=ys
 |_,_,_,.nil,.nil=>rfl
 |_,_,_,.cons r t,.cons r' t'=>by rw[r.inj r',yW.inj t t']
section
variable {X:Cx} {pins:PL} {σ:St} {H:Hp} {s:Shared} {a:Addr} {xs ys:List V}
theorem sL.of {K:PySem.W.Frag} (h:H a=some (.lst xs)):sL K H a xs:=.inl (.inl h)
theorem sP.of {K:PySem.W.Frag} (h:H a=some (.tup xs)):sP K H a xs:=.inl (.inl h)
theorem Inv.list (I:Inv X pins σ H s) (h:sL X.K H a xs):∃ its:List Value,yW xs its/\PlainL s.heap a its.toArray/\xs.length<=sizeLine:=by
 rcases h with h|⟨o,its,n,hk,hc,hd,hs,hz,r⟩
 .obtain ⟨z,its,n,r,e⟩:=h.ok I.hok;exact⟨its,r,⟨_,n,e,rfl,rfl,rfl⟩,z⟩
 .refine ⟨its.toList,r,⟨o,n,I.kIn a o hk,hc,hd,by simpa using hs⟩,?_⟩;have e:=r.length;simp only[Zav] at e;omega
theorem Inv.tuple (I:Inv X pins σ H s) (h:sP X.K H a xs):∃ its:List Value,yW xs its/\IsTup s.heap a its.toArray/\xs.length<=sizeLine:=by
 rcases h with h|⟨o,its,n,hk,hc,hs,hz,r⟩
 .obtain ⟨z,its,r,p⟩:=h.ok I.hok;exact⟨its,r,p,z⟩
 .refine ⟨its.toList,r,⟨o,I.kIn a o hk,hc,n,by simpa using hs⟩,?_⟩;have e:=r.length;simp only[Zav] at e;omega
theorem Inv.list_inj (I:Inv X pins σ H s) (h:sL X.K H a xs) (h':sL X.K H a ys):xs=ys:=by
 obtain⟨its,r,⟨o,n,e,_,_,d⟩,_⟩:=I.list h;obtain⟨its',r',⟨o',n',e',_,_,d'⟩,_⟩:=I.list h';rw[e] at e';cases e';rw[d] at d'
 injection d' with d1 _
 have:its=its':=by simpa using congrArg Array.toList d1
 subst this;exact r.inj r'
theorem Inv.tuple_inj (I:Inv X pins σ H s) (h:sP X.K H a xs) (h':sP X.K H a ys):xs=ys:=by
 obtain⟨its,r,⟨o,e,_,n,d⟩,_⟩:=I.tuple h;obtain⟨its',r',⟨o',e',_,n',d'⟩,_⟩:=I.tuple h';rw[e] at e';cases e';rw[d] at d'
 injection d' with d1 _
 have:its=its':=by simpa using congrArg Array.toList d1
 subst this;exact r.inj r'
end
noncomputable abbrev Cx.wish (X:Cx) (E:VP):Cx:={X with xe:=E}
noncomputable abbrev Cx.nox (X:Cx):Cx:=X.wish λ_ _=>False
theorem Cx.Ok.wish {X:Cx} (ok:X.Ok) (E:VP):(X.wish E).Ok :=
 ⟨ok.mod,ok.kind,ok.glob,ok.blt,ok.above,ok.inj,ok.has,ok.cab,ok.hd,ok.frames,ok.stk,ok.exf,ok.bs,ok.bsz,ok.noex,ok.exfs,ok.funs,ok.frf⟩
theorem Cx.Ok.unwish {X:Cx} {E:VP} (ok:(X.wish E).Ok):X.Ok :=
 ⟨ok.mod,ok.kind,ok.glob,ok.blt,ok.above,ok.inj,ok.has,ok.cab,ok.hd,ok.frames,ok.stk,ok.exf,ok.bs,ok.bsz,ok.noex,ok.exfs,ok.funs,ok.frf⟩
section
variable {X:Cx} {pins:PL} {σ:St} {H:Hp} {s:Shared} {E:VP}
theorem Inv.wish (I:Inv X pins σ H s) (E:VP):Inv (X.wish E) pins σ H s:=⟨I.ok.wish E,I.os,I.bare,I.base,I.loc,I.cell,I.free,I.freeC,I.pin,I.hok,I.len,I.tk⟩
theorem Inv.unwish (I:Inv (X.wish E) pins σ H s):Inv X pins σ H s:=⟨I.ok.unwish,I.os,I.bare,I.base,I.loc,I.cell,I.free,I.freeC,I.pin,I.hok,I.len,I.tk⟩
theorem SP.unwish {D:Ends} {f:Flow} {s':Shared} (h:SP (X.wish E) pins D f s'):SP X pins D f s':=by
 cases f with
 |next=>obtain⟨σ',H',I,q⟩:=h;exact⟨σ',H',I.unwish,q⟩
 |brk=>obtain⟨σ',H',I,q⟩:=h;exact⟨σ',H',I.unwish,q⟩
 |cont=>obtain⟨σ',H',I,q⟩:=h;exact⟨σ',H',I.unwish,q⟩
 |ret u=>obtain⟨v,σ',H',I,r,q⟩:=h;exact⟨v,σ',H',I.unwish,r,q⟩
theorem PE.nox {e:Expr} {t:TE} (h:PE X.nox e t):PE X e t:=λpins s σ H Q I hw =>
 Zv (h pins s σ H Q (I.wish _) hw) (λ_ _ ⟨v,H',I',r,q⟩=>⟨v,H',I'.unwish,r,q⟩) λ_ _ z=>False.elim z
theorem PT.nox {e:Expr} {t:TT} (h:PT X.nox e t):PT X e t:=λpins s σ H Q I hw =>
 Zv (h pins s σ H Q (I.wish _) hw) (λ_ _ ⟨H',I',q⟩=>⟨H',I'.unwish,q⟩) λ_ _ z=>False.elim z
theorem gP.nox {st:List Stmt} {t:TS} (h:gP X.nox st t):gP X st t:=λpins s σ H D I hw =>
 Zv (h pins s σ H D (I.wish _) hw) (λ_ _ q=>q.unwish) λ_ _ z=>False.elim z
end
section
variable {X:Cx} {st:Stmt} {rest:List Stmt} {t u:TS} {e:Expr} {te:TE} {pos:Pos}
noncomputable def ziy:TS:=λD σ H=>D.nx σ H
noncomputable def tSeq (t u:TS):TS:=λD σ H=>t {D with nx:=u D} σ H
theorem zcA:gP X [] ziy:=λ_ _ σ H _ I h=>Zbn ⟨σ,H,I,h⟩
theorem zaZ (h1:PS X st t) (h2:gP X rest u):gP X (st::rest) (tSeq t u):=by
 intro pins s σ H D I h;refine wpAny_execs_cons (thn (h1 pins s σ H {D with nx:=u D} I h) λf s1 q=>?_)
 cases f with
 |next =>
  obtain⟨σ',H',I',q⟩:=q;exact h2 pins s1 σ' H' D I' q
 |ret v=>exact q
 |brk=>exact q
 |cont=>exact q
theorem zcz (h1:PS X st t):gP X [st] t:=by
 intro pins s σ H D I h;refine wpAny_execs_cons (thn (h1 pins s σ H D I h) λf s1 q=>?_)
 cases f with
 |next=>exact Zbn q
 |ret v=>exact q
 |brk=>exact q
 |cont=>exact q
noncomputable def ziA:TS:=λD σ H=>D.bk σ H
noncomputable def tCont:TS:=λD σ H=>D.ct σ H
theorem zgO:PS X (.Pass pos) ziy:=λ_ _ σ H _ I h=>wpAny_Pass ⟨σ,H,I,h⟩
theorem zer:PS X (.Break pos) ziA:=λ_ _ σ H _ I h=>wpAny_Break ⟨σ,H,I,h⟩
theorem zan:PS X (.Continue pos) tCont:=λ_ _ σ H _ I h=>wpAny_Continue ⟨σ,H,I,h⟩
theorem Inv.quiet {pins:PL} {σ:St} {H:Hp} {s:Shared} (I:Inv X pins σ H s):interactive X.env=false:=by simp[interactive,I.ok.kind]
noncomputable def tDrop (te:TE):TS:=λD σ H=>te σ H λ_ H1=>D.nx σ H1
theorem zgP (he:PE X e te) (hs:swapsWith e none pos.line X.env=pure false:=by rfl):PS X (.Expr e pos) (tDrop te):=by
 intro pins s σ H D I h;exact wpAny_Expr_any (thn (he pins s σ H _ I h) λv s1 ⟨x,H1,I1,r1,q1⟩=>⟨σ,H1,I1,q1⟩) I.quiet hs
noncomputable def tRet (te:TE):TS:=λD σ H=>te σ H D.rt
theorem zi5 (he:PE X e te):PS X (.Return (some e) pos) (tRet te):=by
 intro pins s σ H D I h;exact wpAny_Return_some (thn (he pins s σ H _ I h) λv s1 ⟨x,H1,I1,r1,q1⟩=>⟨x,σ,H1,I1,r1,q1⟩)
noncomputable def tRetN:TS:=λD _ H=>D.rt .non H
theorem zgN:PS X (.Return none pos) tRetN:=λ_ _ σ H _ I h=>wpAny_Return_none ⟨.non,σ,H,I,rfl,h⟩
noncomputable def tIfS (c:TT) (t u:TS):TS:=λD σ H=>c σ H λb H1=>if b=true then t D σ H1 else u D σ H1
theorem zi6 {c:Expr} {a b:List Stmt} {tc:TT} (hc:PT X c tc) (ha:gP X a t) (hb:gP X b u):PS X (.If c a b pos) (tIfS tc t u):=by
 intro pins s σ H D I h;refine wpAny_If (thn (hc pins s σ H _ I h) λd s1 ⟨H1,I1,q1⟩=>?_)
 cases d with
 |true=>exact ha pins s1 σ H1 D I1 q1
 |false=>exact hb pins s1 σ H1 D I1 q1
noncomputable def ziz:TS:=λ_ _ _=>False
theorem zeq:PS X st ziz:=λ_ _ _ _ _ _ h=>h.elim
end
noncomputable abbrev TG:=V->St->Hp->(St->Hp->Prop)->Prop
noncomputable abbrev TGs:=List V->St->Hp->(St->Hp->Prop)->Prop
noncomputable def PG (X:Cx) (target:Expr) (t:TG):Prop :=
 ∀ (pins:PL) (s:Shared) (σ:St) (H:Hp) (v:V) (u:Value) (Q:St->Hp->Prop),Inv X pins σ H s->yV v u->t v σ H Q ->
  wpAny 'b' X.A (assign target X.env u) (λ_ s'=>∃ σ' H',Inv X pins σ' H' s'/\Q σ' H') X.xe s
noncomputable def PGs (X:Cx) (ts:List Expr) (t:TGs):Prop :=
 ∀ (pins:PL) (s:Shared) (σ:St) (H:Hp) (vs:List V) (us:List Value) (Q:St->Hp->Prop),Inv X pins σ H s->yW vs us->t vs σ H Q ->
  wpAny 'b' X.A (assignInOrder ((assignEach ts X.env).map (·.2)) us) (λ_ s'=>∃ σ' H',Inv X pins σ' H' s'/\Q σ' H') X.xe s
noncomputable abbrev TSet:=V->V->V->Hp->(Hp->Prop)->Prop
noncomputable def PSet (X:Cx) (t:TSet):Prop :=
 ∀ (pins:PL) (s:Shared) (σ:St) (H:Hp) (o i v:V) (ov iv u:Value) (Q:Hp->Prop),Inv X pins σ H s->yV o ov->yV i iv->yV v u->t o i v H Q ->
  wpAny 'b' X.A (setItem ov iv u) (λ_ s'=>∃ H',Inv X pins σ H' s'/\Q H') X.xe s
section
variable {X:Cx} {pos:Pos}
noncomputable def zfc (i:Nat):TG:=λv σ H Q=>Q (σ.set i (some v)) H
theorem zgU {i:Nat} {x:Str} (hN:X.N.Nodup) (hi:X.N[i]?=some x) (hx:Loc X.env.scope x) (hf:X.fn x=true\/X.env.scope.names.lookup x=some .local:=by first|exact .inl rfl|exact .inr rfl|assumption):PG X (.Name x pos) (zfc i):=by
 intro pins s σ H v u Q I r h;exact wpAny_assign_Name (pD I hN hi hx r (λs' I'=>⟨_,H,I',h⟩) hf)
noncomputable def gNil:TGs:=λvs σ H Q=>vs=[]/\Q σ H
noncomputable def gCons (t:TG) (u:TGs):TGs:=λvs σ H Q=>∃ v r,vs=v::r/\t v σ H λσ' H'=>u r σ' H' Q
theorem zgT:PGs X [] gNil:=by
 intro pins s σ H vs us Q I r h;obtain⟨e,h⟩:=h;subst e;cases r;exact assignInOrder_nil ⟨σ,H,I,h⟩
theorem zew {e:Expr} {es:List Expr} {t:TG} {u:TGs} (h1:PG X e t) (h2:PGs X es u)
  (hs:(assignEach (e::es) X.env).map (·.2)=assign e X.env::(assignEach es X.env).map (·.2):=by rfl):PGs X (e::es) (gCons t u):=by
 intro pins s σ H vs us Q I r h;obtain⟨v,vr,e1,h⟩:=h;subst e1
 cases r with
 |cons r rr =>
  rw[hs];refine assignInOrder_cons (thn (h1 pins s σ H _ _ _ I r h) λ_ s1 ⟨σ1,H1,I1,q1⟩=>?_);exact h2 pins s1 σ1 H1 _ _ Q I1 rr q1
noncomputable def gTup (K:PySem.W.Frag) (n:Nat) (t:TGs):TG:=λv σ H Q=>∃ a xs,v=.ref a/\sP K H a xs/\xs.length=n/\t xs σ H Q
theorem zfO {es:List Expr} {k:Nat} {t:TGs} {n:Nat} (hc:X.calm=true) (h:PGs X es t)
  (hn:(assignEach es X.env).length=n:=by rfl) (hst:(assignEach es X.env).findIdx? (·.1)=none:=by rfl):PG X (.Tuple es k pos) (gTup X.K n t):=by
 intro pins s σ H v u Q I r hw;obtain⟨a,xs,e1,hq,hl,hw⟩:=hw;subst e1;cases r;obtain⟨its,rv,ht,hz⟩:=I.tuple hq;refine assign_Tuple_tuple (I.ok.hd hc) ht (by simp[hn,← hl,rv.length]) hst λh' hx=>?_;have I1:Inv X pins σ H {s with heap:=h'}:=I.kept (t':=s.toks) λb o e=>hx b o (Zo (Zd e)) e;exact h pins _ σ H xs _ Q I1 (by simpa using rv) hw
noncomputable def tAsg (te:TE) (g:TG):TS:=λD σ H=>te σ H λx H1=>g x σ H1 D.nx
theorem zi7 {tg e:Expr} {te:TE} {g:TG} (he:PE X e te) (hg:PG X tg g) (hs:swapsWithSole [tg] e pos.line X.env=pure false:=by rfl) (hw:swappedStores [tg] e X.env=pure none:=by rfl)
  (h1:(assignEach [tg] X.env).map (·.2)=[assign tg X.env]:=by rfl):PS X (.Assign [tg] e pos) (tAsg te g):=by
 intro pins s σ H D I h;refine wpAny_Assign_stores (thn (he pins s σ H _ I h) λv s1 ⟨x,H1,I1,r1,q1⟩=>?_) hs hw;rw[h1];exact thn (hg pins s1 σ H1 x v _ I1 r1 q1) λ_ s2 q=>q
theorem bS {i:Nat} {x:Str} {e:Expr} {te:TE} {pos':Pos} (hN:X.N.Nodup) (hi:X.N[i]?=some x) (hx:Loc X.env.scope x) (he:PE X e te) (hs:swapsWith e (some (.Name x pos')) pos.line X.env=pure false:=by rfl) (hf:X.fn x=true\/X.env.scope.names.lookup x=some .local:=by first|exact .inl rfl|exact .inr rfl|assumption) :
  PS X (.Assign [.Name x pos'] e pos) (tAsg te (zfc i)):=by
 intro pins s σ H D I h;refine wpAny_Assign_Name (thn (he pins s σ H _ I h) λv s1 ⟨y,H1,I1,r1,q1⟩=>?_) hs;exact pD I1 hN hi hx r1 (λs2 I2=>⟨_,H1,I2,q1⟩) hf
end
section
variable {X:Cx} {pos:Pos}
noncomputable def ziw (c:TT) (tb:TS):TS:=λD σ H=>∃ W:Nat->St->Hp->Prop,(∃ m,W m σ H)/\∀ m σ H,W m σ H ->
 c σ H λb H1=>if b=true then ∃ N:St->Hp->Prop,(∀ σ' H',N σ' H'->∃ m',m' < m/\W m' σ' H')/\tb {D with nx:=N,ct:=N,bk:=D.nx} σ H1 else D.nx σ H1
theorem zen {c:Expr} {body:List Stmt} {tc:TT} {tb:TS} (hp:PassesOwn 'b' X.A X.env X.xe) (hc:PT X c tc) (hb:gP X body tb):PS X (.While c body [] pos) (ziw tc tb):=by
 intro pins s σ H D I h;obtain⟨W,⟨m0,w0⟩,turn⟩:=h;refine wpAny_While (codeAny_whileLoop (λn s'=>∃ σ' H',Inv X pins σ' H' s'/\W n σ' H') ?_ m0 ⟨σ,H,I,w0⟩);rintro n s1 ⟨σ1,H1,I1,w1⟩;refine Zau hp (thn (hc pins s1 σ1 H1 _ I1 (turn n σ1 H1 w1)) λb s2 ⟨H2,I2,q2⟩=>?_)
 cases b with
 |true =>
  obtain⟨N,hN,q2⟩:=q2;rw[if_pos rfl];refine Zau hp (thn (hb pins s2 σ1 H2 _ I2 q2) λf s3 q3=>?_)
  cases f with
  |next =>
   obtain⟨σ3,H3,I3,n3⟩:=q3;obtain⟨m',hm,w3⟩:=hN σ3 H3 n3;exact⟨m',hm,σ3,H3,I3,w3⟩
  |cont =>
   obtain⟨σ3,H3,I3,n3⟩:=q3;obtain⟨m',hm,w3⟩:=hN σ3 H3 n3;exact⟨m',hm,σ3,H3,I3,w3⟩
  |brk=>exact q3
  |ret v=>exact q3
 |false =>
  rw[if_neg zzN];exact Zbn ⟨σ1,H2,I2,q2⟩
end
structure It where
 go:Nat->Hp->Prop
 yld:Nat->Hp->V->Hp->Prop
 stop:Nat->Hp->Prop
noncomputable def qU (X:Cx) (pins:PL) (H:Hp) (b:Addr):Prop :=
 H b=none/\b≠X.env.locals/\b∉X.fs/\(b∈X.ex\/X.s₀.heap.objs.size<=b)/\(∀ x c,X.env.cells.lookup x=some c->c≠b)/\∀ p∈X.pn++pins,p.1≠b
theorem Inv.fpOk {X:Cx} {pins:PL} {σ:St} {H H':Hp} {s:Shared} {b:Addr} (I:Inv X pins σ H s) (hb:s.heap.objs.size<=b) (hn:H' b=none):qU X pins H' b:=by
 refine⟨hn,Z3 (Zj I.lt hb),I.nofs hb,.inr (Ze I.sz hb),λx c e z=>?_,λp hp z=>?_⟩
 .obtain ⟨v,q⟩:=I.cell x c e;exact absurd (Zj q.lt (by rw[z];exact hb)) (Z1 _)
 .exact absurd (Zj (Zd (I.pin p hp).1) (by rw[z];exact hb)) (Z1 _)
structure Turn (P:Program) (w:World) (K:PySem.W.Frag) (tg:Expr) (J:It) (fp:List Addr) (it:Addr) (tn:Nat->Heap->Prop):Prop where
 mem:it∈fp
 obj:∀ i h,tn i h->∀ b∈fp,∃ o,h.get? b=some o/\∀ v,o.data≠.cell v
 keep:∀ i h h',tn i h->(∀ b∈fp,∀ o,h.get? b=some o->h'.get? b=some o)->tn i h'
 item:∀ (X:Cx),X.prog=P->X.w=w->X.K=K->X.calm=true->∀ (i:Nat) (pins:PL) (s:Shared) (σ:St) (H:Hp) (E:VP),Inv X pins σ H s->(∀ b∈fp,qU X pins H b)->tn i s.heap->J.go i H ->
  wpAny (model P w) X.A (pyNext (.ref it)) (λr s1=>∃ u,r=some u /\
   wpAny (model P w) X.A (letOwnedTupleGo tg (.ref it) u) (λ_ s2=>∃ x H',Inv X pins σ H' s2/\yV x u/\J.yld i H x H'/\tn (i+1) s2.heap/\∀ b∈fp,H' b=none) E s1) E s
 done:∀ (X:Cx),X.prog=P->X.w=w->X.K=K->X.calm=true->∀ (i:Nat) (pins:PL) (s:Shared) (σ:St) (H:Hp) (E:VP),Inv X pins σ H s->(∀ b∈fp,qU X pins H b)->tn i s.heap->J.stop i H ->
  wpAny (model P w) X.A (pyNext (.ref it)) (λr s1=>r=none/\Inv X pins σ H s1) E s
 self:∀ (A:Around) (i:Nat) (s:Shared) (Q:VP) (E:VP),tn i s.heap->Q (.ref it) s->wpAny (model P w) A (pyIter (.ref it)) Q E s
noncomputable abbrev TI:=St->Hp->(It->Hp->Prop)->Prop
noncomputable def PIE (X:Cx) (pins:PL) (σ:St) (tg:Expr) (R:It->Hp->Prop) (itv:Value) (s2:Shared):Prop :=
 ∃ (it:Addr) (fp:List Addr) (tn:Nat->Heap->Prop) (J:It) (H':Hp),itv=.ref it/\Inv X pins σ H' s2/\Turn X.prog X.w X.K tg J fp it tn/\tn 0 s2.heap/\(∀ b∈fp,qU X pins H' b)/\R J H'
noncomputable def PI (X:Cx) (tg iter:Expr) (wi:TI):Prop :=
 ∀ (pins:PL) (s:Shared) (σ:St) (H:Hp) (R:It->Hp->Prop),Inv X pins σ H s->wi σ H R ->
  wpAny 'b' X.A (eval iter X.env) (λv s1=>wpAny 'b' X.A (pyIter v) (PIE X pins σ tg R) X.xe s1) X.xe s
theorem zhw {M:Model} {A:Around} {E:VP} {s:Shared} {tg:Expr} {it:Addr} {u:Value} {o:Obj} {n:String} {vs:Array Value} {Q:Unit->Shared->Prop} (ho:s.heap.get? it=some o) (hc:o.cls=.type n) (hd:o.data=.fields vs)
    (hn:["enumerate", "zip", "dict_itemiterator", "dict_reverseitemiterator", "odict_iterator", "itertools.zip_longest", "itertools.pairwise"].contains n=false) (hQ:Q () s):wpAny M A (letOwnedTupleGo tg (.ref it) u) Q E s:=by
  unfold letOwnedTupleGo
  cases tg<;>first
    |exact Zc hQ
    | (cases u<;>first
        |exact Zc hQ
        | (refine Za (wpAny_load ho ?_)
           rw[hc,hd];show wpAny M A (if(["enumerate", "zip", "dict_itemiterator", "dict_reverseitemiterator", "odict_iterator", "itertools.zip_longest", "itertools.pairwise"].contains n&&vs[0]?==some (rawInt _))=true then _ else _) Q E s;rw[if_neg (by intro h;rw[hn,ZbZ] at h;cases h)];exact Zc hQ))
noncomputable def Itl (K:PySem.W.Frag) (a:Addr):It :=
 ⟨λi H=>∃ xs x,sL K H a xs/\xs[i]?=some x,λi H x H'=>H'=H/\∀ xs,sL K H a xs->xs[i]?=some x,λi H=>∃ xs,sL K H a xs/\xs.length<=i⟩
noncomputable def Itt (K:PySem.W.Frag) (a:Addr):It :=
 ⟨λi H=>∃ xs x,sP K H a xs/\xs[i]?=some x,λi H x H'=>H'=H/\∀ xs,sP K H a xs->xs[i]?=some x,λi H=>∃ xs,sP K H a xs/\xs.length<=i⟩
noncomputable def Itr (lo:Int) (n:Nat):It:=⟨λi _=>i<n,λi H x H'=>H'=H/\x=.int (lo+i),λi _=>n<=i⟩
theorem zb3 {P:Program} {w:World} {K:PySem.W.Frag} {tg:Expr} (a it:Addr):Turn P w K tg (Itl K a) [it] it (λi h=>h.IsListIter it a i) where
 mem:=by simp
 obj:=λi h st b hb=>by
  have e:b=it:=by simpa using hb
  subst e;obtain⟨o,e,c,d⟩:=st;exact⟨o,e,λv z=>by rw[d] at z;cases z⟩
 keep:=λi h h' st k=>st.at λo e=>k it 'g' o e
 item:=by
  intro X hP hw hK hc i pins s σ H E I hf st hg;subst hP hw hK;obtain⟨xs,x,hq,hx⟩:=hg;obtain⟨its,rv,p,hz⟩:=I.list hq;obtain⟨u,hu,ru⟩:=rv.get hx;obtain⟨f0,f1,f2,f3,f4,f5⟩:=hf it 'g';refine wpAny_pyNext_list_item st p.isList (x:=u) (by simpa using hu) λh' st' sb=>?_;have I1:Inv X pins σ H {s with heap:=h'}:=I.turned (t':=s.toks) (λb o hb e=>(sb.2 b hb).trans e) f0 f1 f3 f4 f5;obtain⟨o,e,c,d⟩:=id st';exact⟨u,rfl,zhw (s:={s with heap:=h'}) e c d 'c' ⟨x,H,I1,ru,⟨rfl,λys hy=>by rw[I.list_inj hy hq];exact hx⟩,st',λb hb=>(hf b hb).1⟩⟩
 done:=by
  intro X hP hw hK hc i pins s σ H E I hf st hg;subst hP hw hK;obtain⟨xs,hq,hx⟩:=hg;obtain⟨its,rv,p,hz⟩:=I.list hq;obtain⟨f0,f1,f2,f3,f4,f5⟩:=hf it 'g';have hl:=rv.length;exact wpAny_pyNext_list_end (I.ok.hd hc) st p.isList (by simp;omega) λh' eb=>⟨rfl,I.turned (t':=s.toks) (λb o hb e=>eb b o hb e) f0 f1 f3 f4 f5⟩
 self:=λ_ _ _ _ _ st h=>wpAny_pyIter_listiter st h
theorem zbu {P:Program} {w:World} {K:PySem.W.Frag} {tg:Expr} (a it:Addr):Turn P w K tg (Itt K a) [it] it (λi h=>h.IsTupleIter it a i) where
 mem:=by simp
 obj:=λi h st b hb=>by
  have e:b=it:=by simpa using hb
  subst e;obtain⟨o,e,c,d⟩:=st;exact⟨o,e,λv z=>by rw[d] at z;cases z⟩
 keep:=λi h h' st k=>st.at λo e=>k it 'g' o e
 item:=by
  intro X hP hw hK hc i pins s σ H E I hf st hg;subst hP hw hK;obtain⟨xs,x,hq,hx⟩:=hg;obtain⟨its,rv,p,hz⟩:=I.tuple hq;obtain⟨u,hu,ru⟩:=rv.get hx;obtain⟨f0,f1,f2,f3,f4,f5⟩:=hf it 'g';refine wpAny_pyNext_tuple_item st (show s.heap.IsTuple a its.toArray from p) (x:=u) (by simpa using hu) λh' st' sb=>?_;have I1:Inv X pins σ H {s with heap:=h'}:=I.turned (t':=s.toks) (λb o hb e=>(sb.2 b hb).trans e) f0 f1 f3 f4 f5;obtain⟨o,e,c,d⟩:=id st';exact⟨u,rfl,zhw (s:={s with heap:=h'}) e c d 'c' ⟨x,H,I1,ru,⟨rfl,λys hy=>by rw[I.tuple_inj hy hq];exact hx⟩,st',λb hb=>(hf b hb).1⟩⟩
 done:=by
  intro X hP hw hK hc i pins s σ H E I hf st hg;subst hP hw hK;obtain⟨xs,hq,hx⟩:=hg;obtain⟨its,rv,p,hz⟩:=I.tuple hq;obtain⟨f0,f1,f2,f3,f4,f5⟩:=hf it 'g';have hl:=rv.length;exact wpAny_pyNext_tuple_end (I.ok.hd hc) st (show s.heap.IsTuple a its.toArray from p) (by simp;omega) λh' eb=>⟨rfl,I.turned (t':=s.toks) (λb o hb e=>eb b o hb e) f0 f1 f3 f4 f5⟩
 self:=λ_ _ _ _ _ st h=>wpAny_pyIter_tupleiter st h
theorem zbv {P:Program} {w:World} {K:PySem.W.Frag} {tg:Expr} (it:Addr) (lo:Int) (n:Nat):Turn P w K tg (Itr lo n) [it] it (λi h=>IsRangeIter h it (lo+(i:Nat) * 1) ((n:Int)-(i:Nat)) 1) where
 mem:=by simp
 obj:=λi h st b hb=>by
  have e:b=it:=by simpa using hb
  subst e
  exact⟨_,st,λv z=>by
   have z':Data.fields _=Data.cell v:=z;cases z'⟩
 keep:=λi h h' st k=>k it 'g' _ st
 item:=by
  intro X hP hw hK hc i pins s σ H E I hf st hg;subst hP hw hK;obtain⟨f0,f1,f2,f3,f4,f5⟩:=hf it 'g';have W:=Walks.range (prog:=X.prog) (w:=X.w) (I.ok.hd hc) it lo 1 n;refine jO I.tk (W.item i s _ _ hg st λv h' tk hv st' kk h0=>?_);obtain⟨t,rfl⟩:=hv;have I1:Inv X pins σ H {s with heap:=h',toks:=tk}:=I.turned (λb o hb e=>kk b o (by simpa using hb) e) f0 f1 f3 f4 f5;refine⟨_,rfl,zhw (s:={s with heap:=h',toks:=tk}) (n := "range_iterator") st' rfl rfl 'c' ⟨.int (lo+i),H,I1,⟨t,?_⟩,⟨rfl,rfl⟩,st',λb hb=>(hf b hb).1⟩⟩;rw[Int.mul_one]
 done:=by
  intro X hP hw hK hc i pins s σ H E I hf st hg;subst hP hw hK;obtain⟨f0,f1,f2,f3,f4,f5⟩:=hf it 'g';exact wpAny_pyNext_range_end (I.ok.hd hc) st (by have:n<=i:=hg;omega) λh' eb=>⟨rfl,I.turned (t':=s.toks) (λb o hb e=>eb b o hb e) f0 f1 f3 f4 f5⟩
 self:=λ_ _ _ _ _ st h=>wpAny_pyIter_rangeiter st h
end L2
namespace L2
open PySem PySem.Spec PyProof.Rows
section
variable {X:Cx} {tg:Expr}
theorem zek {pins:PL} {σ:St} {H:Hp} {s:Shared} {R:It->Hp->Prop} {E:VP} {lo hi:Int} {t u v:Tok} {tk:Nat} (I:Inv X pins σ H s) (h0:0<tk) (h1:-(2 ^ 62)<=lo) (h2:lo<2 ^ 62) (h3:-(2 ^ 62)<=hi) (h4:hi<2 ^ 62)
  (q:R (Itr lo (hi-lo).toNat) H):wpAny 'b' X.A (pyIter (.ref s.heap.objs.size)) (PIE X pins σ tg R) E {s with heap:=s.heap.push { cls:=.type "range", data:=.fields #[.int lo t,.int hi u,.int 1 v]},toks:=tk}:=by
 refine wpAny_pyIter_range (IsRange.new ..) (small_one h1 h2 h3 h4) ?_;have I1:Inv X pins σ H {s with heap:=s.heap.push { cls:=.type "range", data:=.fields #[.int lo t,.int hi u,.int 1 v]},toks:=tk}:=I.kept λb o e=>Zb _ e
 refine⟨(s.heap.push { cls:=.type "range", data:=.fields #[.int lo t,.int hi u,.int 1 v]}).objs.size,[(s.heap.push { cls:=.type "range", data:=.fields #[.int lo t,.int hi u,.int 1 v]}).objs.size],_,_,H,rfl,
  I1.kept (t':=tk) λb o e=>Zb _ e,zbv _ lo (hi-lo).toNat,?_,λb hb=>?_,q⟩
 .have e1:lo+((0:Nat):Int) * 1=lo:=by simp
  have e2:(((hi-lo).toNat:Nat):Int)-((0:Nat):Int)=Builtin.Range.rangeSize lo hi 1:=by rw[rangeSize_one];split<;>omega
  show IsRangeIter _ _ (lo+((0:Nat):Int) * 1) ((((hi-lo).toNat:Nat):Int)-((0:Nat):Int)) 1;rw[e1,e2];exact Zl _ rfl
 .have e:b=(s.heap.push { cls:=.type "range", data:=.fields #[.int lo t,.int hi u,.int 1 v]}).objs.size:=by simpa using hb
  subst e;exact I1.fpOk (zzR _) (I1.hok.fresh (zzR _))
noncomputable def tFor (wi:TI) (g:TG) (tb:TS):TS:=λD σ H=>wi σ H λJ H1=>∃ W:Nat->Nat->St->Hp->Prop,(∃ m,W 0 m σ H1)/\∀ i m σ H,W i m σ H ->
 (J.stop i H/\D.nx σ H)\/(J.go i H/\∃ N:St->Hp->Prop,(∀ σ' H',N σ' H'->∃ m',m' < m/\W (i+1) m' σ' H')/\∀ x H',J.yld i H x H'->g x σ H' λσ2 H2=>tb {D with nx:=N,ct:=N,bk:=D.nx} σ2 H2)
noncomputable def xU (fp:List Addr) (h:Heap):List (Addr×Obj):=fp.filterMap λb=>(h.get? b).map λo=>(b,o)
theorem xB {fp:List Addr} {h:Heap} {b:Addr} {o:Obj} (hb:b∈fp) (e:h.get? b=some o):(b,o)∈xU fp h:=List.mem_filterMap.mpr ⟨b,hb,by rw[e];rfl⟩
theorem fM {fp:List Addr} {h:Heap} {p:Addr×Obj} (hp:p∈xU fp h):p.1∈fp/\h.get? p.1=some p.2:=by
 obtain⟨b,hb,e⟩:=List.mem_filterMap.mp hp
 cases q:h.get? b with
 |none=>rw[q] at e;cases e
 |some o =>
  rw[q] at e;have e':(b,o)=p:=ZE e;subst e';exact⟨hb,q⟩
theorem Inv.pinned {pins:PL} {σ:St} {H:Hp} {s:Shared} {fp:List Addr} (I:Inv X pins σ H s) (hf:∀ b∈fp,qU X pins H b) (ho:∀ b∈fp,∃ o,s.heap.get? b=some o/\∀ v,o.data≠.cell v):Inv X (pins++xU fp s.heap) σ H s :=
 I.pins_of λp hp=>(ZA.mp hp).elim (λz=>I.pin p (Zk _ z)) λz=>by
  obtain⟨hb,e⟩:=fM z;obtain⟨f0,f1,f2,_⟩:=hf p.1 hb;obtain⟨o,e',d⟩:=ho p.1 hb;rw[e] at e';cases e';exact⟨e,f0,f1,f2,d⟩
theorem Inv.unpinned {pins pl:PL} {σ:St} {H:Hp} {s:Shared} (I:Inv X (pins++pl) σ H s):Inv X pins σ H s:=I.pins_of λp hp=>I.pin p (Zk _ (Zs _ hp))
theorem zfN {iter:Expr} {body:List Stmt} {wi:TI} {g:TG} {tb:TS} {pos:Pos} (hp:PassesOwn 'b' X.A X.env X.xe) (hc:X.calm=true) (hi:PI X tg iter wi) (hg:PG X tg g) (hb:gP X body tb)
  (hs:∀ x,foldedSetIterable iter X.env x=pure x:=by intro _;rfl):PS X (.For tg iter body [] pos) (tFor wi g tb):=by
 intro pins s σ H D I h;refine wpAny_For (thn (hi pins s σ H _ I h) λv s1 h1=>thn h1 λitv s2 h2=>?_) hs;obtain⟨it,fp,tn,J,H2,e,I2,T,st2,f2,W,⟨m0,w0⟩,turn⟩:=h2;subst e;have stat:∀ {H':Hp},(∀ b∈fp,H' b=none)->∀ b∈fp,qU X pins H' b:=λhn b hb=>⟨hn b hb,(f2 b hb).2⟩;refine codeAny_forLoop_any (λn s'=>∃ i σ' H',Inv X pins σ' H' s'/\tn i s'.heap/\(∀ b∈fp,H' b=none)/\W i n σ' H') ?_ m0 ⟨0,σ,H2,I2,st2,λb hb=>(f2 b hb).1,w0⟩;rintro n s3 ⟨i,σ3,H3,I3,st3,fr3,w3⟩;rcases turn i n σ3 H3 w3 with⟨stop,qn⟩|⟨go,N,hN,step⟩
 .refine Zau hp (thn (T.done X rfl rfl rfl hc i pins s3 σ3 H3 X.xe I3 (stat fr3) st3 stop) λr s4 ⟨hr,I4⟩=>?_);subst hr;exact Zbn ⟨σ3,H3,I4,qn⟩
 .refine Zau hp (thn (T.item X rfl rfl rfl hc i pins s3 σ3 H3 X.xe I3 (stat fr3) st3 go) λr s4 ⟨u,hr,h4⟩=>?_);subst hr;refine Zau hp (thn h4 λ_ s5 ⟨x,H5,I5,r5,y5,st5,fr5⟩=>?_);have I5':=I5.pinned (stat fr5) (T.obj _ _ st5);refine Zau hp (thn (hg _ s5 σ3 H5 x u _ I5' r5 (step x H5 y5)) λ_ s6 ⟨σ6,H6,I6,q6⟩=>?_);refine Zau hp (thn (hb _ s6 σ6 H6 _ I6 q6) λf s7 q7=>?_)
  have again:∀ {σ7:St} {H7:Hp},Inv X (pins++xU fp s5.heap) σ7 H7 s7->N σ7 H7->∃ m,m<n/\∃ i σ' H',Inv X pins σ' H' s7/\tn i s7.heap/\(∀ b∈fp,H' b=none)/\W i m σ' H':=λ{σ7 H7} I7 n7=>by
   obtain⟨m',hm,w7⟩:=hN σ7 H7 n7;refine⟨m',hm,i+1,σ7,H7,I7.unpinned,T.keep _ _ _ st5 λb hb o e=>(I7.pin (b,o) (Zk _ (Zk _ (xB hb e)))).1,λb hb=>?_,w7⟩;obtain⟨o,e,d⟩:=T.obj _ _ st5 b hb;exact(I7.pin (b,o) (Zk _ (Zk _ (xB hb e)))).2.1
  cases f with
  |next=>obtain⟨σ7,H7,I7,n7⟩:=q7;exact again I7 n7
  |cont=>obtain⟨σ7,H7,I7,n7⟩:=q7;exact again I7 n7
  |brk=>obtain⟨σ7,H7,I7,q7⟩:=q7;exact⟨σ7,H7,I7.unpinned,q7⟩
  |ret v=>obtain⟨x7,σ7,H7,I7,r7,q7⟩:=q7;exact⟨x7,σ7,H7,I7.unpinned,r7,q7⟩
end
end L2
namespace L2
open PySem PySem.Spec PyProof.Rows
noncomputable abbrev R2:=V->V->Hp->VK->Prop
noncomputable def tT (X:Cx) (f:Value->Value->Sem Value) (r:R2):Prop :=
 ∀ (pins:PL) (s:Shared) (σ:St) (H:Hp) (x y:V) (v u:Value) (Q:VK),Inv X pins σ H s->yV x v->yV y u->r x y H Q ->
  wpAny 'b' X.A (f v u) (EP X pins σ Q) X.xe s
noncomputable def UnR (X:Cx) (f:Value->Sem Value) (r:V->Hp->VK->Prop):Prop :=
 ∀ (pins:PL) (s:Shared) (σ:St) (H:Hp) (x:V) (v:Value) (Q:VK),Inv X pins σ H s->yV x v->r x H Q ->
  wpAny 'b' X.A (f v) (EP X pins σ Q) X.xe s
noncomputable def wW (X:Cx) (f:Value) (r:List V->Hp->VK->Prop):Prop :=
 ∀ (pins:PL) (s:Shared) (σ:St) (H:Hp) (xs:List V) (us:List Value) (Q:VK),Inv X pins σ H s->yW xs us->r xs H Q ->
  wpAny 'b' X.A (call f us) (EP X pins σ Q) X.xe s
noncomputable def TruR (X:Cx) (r:V->Hp->(Bool->Hp->Prop)->Prop):Prop :=
 ∀ (pins:PL) (s:Shared) (σ:St) (H:Hp) (x:V) (v:Value) (Q:Bool->Hp->Prop),Inv X pins σ H s->yV x v->r x H Q ->
  wpAny 'b' X.A (truthy v) (TP X pins σ Q) X.xe s
noncomputable def tOp (r:R2) (ta tb:TE):TE:=λσ H Q=>ta σ H λx H1=>tb σ H1 λy H2=>r x y H2 Q
noncomputable def tUn (r:V->Hp->VK->Prop) (ta:TE):TE:=λσ H Q=>ta σ H λx H1=>r x H1 Q
noncomputable def rI (C:Int->Int->Prop) (g:Int->Int->V):R2:=λx y H Q=>∃ i j,x=.int i/\y=.int j/\C i j/\Q (g i j) H
noncomputable def rI0 (g:Int->Int->V):R2:=λx y H Q=>∃ i j,x=.int i/\y=.int j/\Q (g i j) H
noncomputable def rU (g:Int->V):V->Hp->VK->Prop:=λx H Q=>∃ i,x=.int i/\Q (g i) H
section
variable {X:Cx} {a b c:Expr} {ta tb tc:TE} {pos:Pos}
theorem binT (ha:PE X a ta) (hb:PE X b tb) {pins:PL} {s:Shared} {σ:St} {H:Hp} {R:V->V->Hp->Prop} (I:Inv X pins σ H s)
  (h:ta σ H λx H1=>tb σ H1 λy H2=>R x y H2) {Q:VP} {f:Value->Value->Sem Value}
  (hf:∀ v u s2 x y H2,Inv X pins σ H2 s2->yV x v->yV y u->R x y H2->wpAny 'b' X.A (f v u) Q X.xe s2) :
  wpAny 'b' X.A (eval a X.env) (λv s₁=>wpAny 'b' X.A (eval b X.env) (λu s₂=>wpAny 'b' X.A (f v u) Q X.xe s₂) X.xe s₁) X.xe s:=by
 refine thn (ha pins s σ H _ I h) λv s1 ⟨x,H1,I1,r1,q1⟩=>?_;refine thn (hb pins s1 σ H1 _ I1 q1) λu s2 ⟨y,H2,I2,r2,q2⟩=>?_;exact hf v u s2 x y H2 I2 r1 r2 q2
theorem pe_op {op:Operator} {r:R2} (ho:tT X (binaryOp op) r) (ha:PE X a ta) (hb:PE X b tb):PE X (.BinOp a op b pos) (tOp r ta tb):=by
 intro pins s σ H Q I h;exact wpAny_BinOp (binT ha hb I h λv u s2 x y H2 I2 rx ry q=>ho pins s2 σ H2 x y v u Q I2 rx ry q)
theorem zjb {op:UnaryOp} {r:V->Hp->VK->Prop} (ho:UnR X (unaryOp op) r) (ha:PE X a ta):PE X (.UnaryOp op a pos) (tUn r ta):=by
 intro pins s σ H Q I h;exact UnaryOp_ (thn (ha pins s σ H _ I h) λv s1 ⟨x,H1,I1,r1,q1⟩=>ho pins s1 σ H1 x v Q I1 r1 q1)
theorem opI {f:Value->Value->Sem Value} {C:Int->Int->Prop} {g:Int->Int->Int}
  (rule:∀ (i j:Int) (t u:Tok) (s:Shared) (Q:VP) (E:VP),C i j->Q (.int (g i j) s.toks) {s with toks:=s.toks+1}->wpAny 'b' X.A (f (.int i t) (.int j u)) Q E s) :
  tT X f (rI C λi j=>.int (g i j)):=by
 intro pins s σ H x y v u Q I rx ry h;obtain⟨i,j,rfl,rfl,hc,q⟩:=h;obtain⟨t,rfl⟩:=rx;obtain⟨t',rfl⟩:=ry;exact rule i j t t' s _ _ hc ⟨.int (g i j),H,I.tok _,⟨_,rfl⟩,q⟩
theorem opI0 {f:Value->Value->Sem Value} {g:Int->Int->Int}
  (rule:∀ (i j:Int) (t u:Tok) (s:Shared) (Q:VP) (E:VP),Q (.int (g i j) s.toks) {s with toks:=s.toks+1}->wpAny 'b' X.A (f (.int i t) (.int j u)) Q E s) :
  tT X f (rI0 λi j=>.int (g i j)):=by
 intro pins s σ H x y v u Q I rx ry h;obtain⟨i,j,rfl,rfl,q⟩:=h;obtain⟨t,rfl⟩:=rx;obtain⟨t',rfl⟩:=ry;exact rule i j t t' s _ _ ⟨.int (g i j),H,I.tok _,⟨_,rfl⟩,q⟩
theorem opB0 {f:Value->Value->Sem Value} {g:Int->Int->Bool}
  (rule:∀ (i j:Int) (t u:Tok) (s:Shared) (Q:VP) (E:VP),Q (.bool (g i j)) s->wpAny 'b' X.A (f (.int i t) (.int j u)) Q E s) :
  tT X f (rI0 λi j=>.bl (g i j)):=by
 intro pins s σ H x y v u Q I rx ry h;obtain⟨i,j,rfl,rfl,q⟩:=h;obtain⟨t,rfl⟩:=rx;obtain⟨t',rfl⟩:=ry;exact rule i j t t' s _ _ ⟨.bl (g i j),H,I,rfl,q⟩
noncomputable def CDiv (i j:Int):Prop:=0<j/\j<1073741824
noncomputable def CPow (i j:Int):Prop:=0<=j/\j<=1000000/\i.natAbs<2 ^ 64
noncomputable def CMul (i j:Int):Prop:=(-(2 ^ 64)<i/\i<2 ^ 64)\/(-(2 ^ 64)<j/\j<2 ^ 64)
theorem CMul.ok {i j:Int} (h:CMul i j):IntMulOk i j:=by
 rcases h with⟨h1,h2⟩|⟨h1,h2⟩
 .exact .of_left (intBits_le_64 h1 h2)
 .exact .of_right (intBits_le_64 h1 h2)
theorem zjq:tT X (binaryOp .Add) (rI0 λi j=>.int (i+j)):=opI0 λ_ _ _ _ _ _ _ q=>add_int q
theorem zjl:tT X (binaryOp .Sub) (rI0 λi j=>.int (i-j)):=opI0 λ_ _ _ _ _ _ _ q=>sub_int q
theorem zjn:tT X (binaryOp .Mult) (rI CMul λi j=>.int (i * j)):=opI λ_ _ _ _ _ _ _ hc q=>mul_int q hc.ok
theorem zg2:tT X (binaryOp .FloorDiv) (rI CDiv λi j=>.int (i / j)):=opI λi j _ _ _ _ _ hc q=>by
 have h1:(0:Int)<j:=hc.1;have h2:j<1073741824:=hc.2;exact floordiv_int 'f' (by rw[Int.fdiv_eq_ediv_of_nonneg i 'f'];exact q) (.inl (PyProof.noPylong_small 'f'))
theorem zjo:tT X (binaryOp .Mod) (rI (λ_ j=>0<j) λi j=>.int (i % j)):=opI λi j _ _ _ _ _ hc q=>by
 have h1:(0:Int)<j:=hc;exact mod_int' 'f' (by rw[Int.fmod_eq_emod_of_nonneg i 'f'];exact q)
theorem zjm:tT X (binaryOp .Pow) (rI CPow λi j=>.int (i ^ j.toNat)):=opI λ_ _ _ _ _ _ _ hc q=>pow_int_small hc.1 hc.2.1 hc.2.2 q
theorem unI {f:Value->Sem Value} {g:Int->Int}
  (rule:∀ (i:Int) (t:Tok) (s:Shared) (Q:VP) (E:VP),Q (.int (g i) s.toks) {s with toks:=s.toks+1}->wpAny 'b' X.A (f (.int i t)) Q E s) :
  UnR X f (rU λi=>.int (g i)):=by
 intro pins s σ H x v Q I rx h;obtain⟨i,rfl,q⟩:=h;obtain⟨t,rfl⟩:=rx;exact rule i t s _ _ ⟨.int (g i),H,I.tok _,⟨_,rfl⟩,q⟩
theorem zfx:UnR X (unaryOp .USub) (rU λi=>.int (-i)):=unI λ_ _ _ _ _ q=>neg_int q
end
section
variable {X:Cx} {a b c:Expr} {ta tb tc:TE} {pos:Pos}
theorem op_lt:tT X (compareOp .Lt) (rI0 λi j=>.bl (decide (i<j))):=opB0 λ_ _ _ _ _ _ _ q=>lt_int q
theorem op_le:tT X (compareOp .LtE) (rI0 λi j=>.bl (decide (i<=j))):=opB0 λ_ _ _ _ _ _ _ q=>le_int q
theorem op_gt:tT X (compareOp .Gt) (rI0 λi j=>.bl (decide (j<i))):=opB0 λ_ _ _ _ _ _ _ q=>gt_int q
theorem op_ge:tT X (compareOp .GtE) (rI0 λi j=>.bl (decide (j<=i))):=opB0 λ_ _ _ _ _ _ _ q=>ge_int q
theorem zgX {op:CmpOp} {r:R2} (ho:tT X (compareOp op) r) (ha:PE X a ta) (hb:PE X b tb) (hm:behindInMarks op b=false):PE X (.Compare a [op] [b] pos) (tOp r ta tb):=by
 intro pins s σ H Q I h;exact wpAny_Compare1 (binT ha hb I h λv u s2 x y H2 I2 rx ry q=>ho pins s2 σ H2 x y v u Q I2 rx ry q) hm
noncomputable def zix (t:TE):TT:=λσ H Q=>t σ H λx H'=>∃ k,x=.bl k/\Q k H'
theorem zgM {op:CmpOp} {r:R2} (ho:tT X (compareOp op) r) (ha:PE X a ta) (hb:PE X b tb) (hm:behindInMarks op b=false):PT X (.Compare a [op] [b] pos) (zix (tOp r ta tb)):=by
 intro pins s σ H Q I h
 refine wpAny_isTrue_Compare1 (thn (ha pins s σ H _ I h) λv s1 ⟨x,H1,I1,r1,q1⟩=>thn (hb pins s1 σ H1 _ I1 q1) λu s2 ⟨y,H2,I2,r2,q2⟩ =>
  thn (ho pins s2 σ H2 x y v u _ I2 r1 r2 q2) λc s3 ⟨z,H3,I3,r3,k,e,q3⟩=>?_) hm
 subst e;cases r3;exact Z6 ⟨H3,I3,q3⟩
noncomputable def zb7 (r r':R2) (ta tb tc:TE):TE:=λσ H Q=>ta σ H λx H1=>tb σ H1 λy H2=>r x y H2 λz H3=>∃ k,z=.bl k /\
 (if k=true then tc σ H3 λw' H4=>r' y w' H4 Q else Q (.bl false) H3)
theorem zez {op op':CmpOp} {r r':R2} (ho:tT X (compareOp op) r) (ho':tT X (compareOp op') r') (ha:PE X a ta) (hb:PE X b tb) (hc:PE X c tc)
  (hm:lastMarks [op,op'] [b,c]=false:=by with_unfolding_all rfl):PE X (.Compare a [op,op'] [b,c] pos) (zb7 r r' ta tb tc):=by
 intro pins s σ H Q I h
 refine Compare_chain (thn (ha pins s σ H _ I h) λv s1 ⟨x,H1,I1,r1,q1⟩=>chain_link (thn (hb pins s1 σ H1 _ I1 q1) λu s2 ⟨y,H2,I2,r2,q2⟩ =>
  thn (ho pins s2 σ H2 x y v u _ I2 r1 r2 q2) λd s3 ⟨z,H3,I3,r3,k,e,q3⟩=>?_)) hm
 subst e;cases r3;refine Z6 ?_
 cases k with
 |false=>exact ite_ff ⟨.bl false,H3,I3,rfl,q3⟩
 |true=>exact ite_tt (chain_last (thn (hc pins s3 σ H3 _ I3 q3) λw' s4 ⟨z',H4,I4,r4,q4⟩=>ho' pins s4 σ H4 y z' u w' Q I4 r2 r4 q4))
theorem zem {op op':CmpOp} {r r':R2} (ho:tT X (compareOp op) r) (ho':tT X (compareOp op') r') (ha:PE X a ta) (hb:PE X b tb) (hc:PE X c tc)
  (hm:lastMarks [op,op'] [b,c]=false:=by with_unfolding_all rfl):PT X (.Compare a [op,op'] [b,c] pos) (zix (zb7 r r' ta tb tc)):=by
 intro pins s σ H Q I h
 refine isTrue_chain (thn (ha pins s σ H _ I h) λv s1 ⟨x,H1,I1,r1,q1⟩=>test_link (thn (hb pins s1 σ H1 _ I1 q1) λu s2 ⟨y,H2,I2,r2,q2⟩ =>
  thn (ho pins s2 σ H2 x y v u _ I2 r1 r2 q2) λd s3 ⟨z,H3,I3,r3,k,e,q3⟩=>?_)) hm
 subst e;cases r3;refine Z6 ?_
 cases k with
 |false =>
  obtain⟨k',e',q'⟩:=q3;cases e';exact ite_ff ⟨H3,I3,q'⟩
 |true =>
  refine ite_tt (test_last (thn (hc pins s3 σ H3 _ I3 q3) λw' s4 ⟨z',H4,I4,r4,q4⟩=>thn (ho' pins s4 σ H4 y z' u w' _ I4 r2 r4 q4) λd' s5 ⟨z2,H5,I5,r5,k2,e2,q5⟩=>?_));subst e2;cases r5;exact Z6 ⟨H5,I5,q5⟩
noncomputable def TruV (K:PySem.W.Frag) (x:V) (H:Hp) (k:Bool):Prop :=
 match x with
 | .non=>k=false
 | .bl b=>k=b
 | .int i=>k=(i != 0)
 | .str y=>y.length<=sizeLine/\k=((y.length:Int) != 0)
 | .byt y=>y.size<=sizeLine/\k=((y.size:Int) != 0)
 | .ref p=>(∃ xs,sL K H p xs/\k=!xs.isEmpty)\/(∃ xs,sP K H p xs/\k=!xs.isEmpty)\/∃ kvs,H p=some (.dK kvs)/\k=!kvs.isEmpty
 |_=>False
theorem zbJ {κ:Type} {kvs:List (κ×V)} {vs:List (κ×Value)} (r:KV kvs vs):(!vs.isEmpty)=!kvs.isEmpty:=by
 cases r<;>rfl
theorem hV {xs:List V} {its:List Value} (r:yW xs its):(!its.toArray.isEmpty)=!xs.isEmpty:=by
 cases r<;>simp
theorem tW:(sizeLine:Nat)<2 ^ 63:=by rw[Z2];decide
theorem ziq:TruR X (λx H Q=>∃ k,TruV X.K x H k/\Q k H):=by
 intro pins s σ H x v Q I rx h;obtain⟨k,e,q⟩:=h;have hl:=tW;have hs:sizeLine=16777216:=Z2
 cases x with
 |non =>
  cases rx;have e':k=false:=e;subst e';exact truthy_none ⟨H,I,q⟩
 |bl b =>
  cases rx;have e':k=b:=e;subst e';exact Z6 ⟨H,I,q⟩
 |int i =>
  obtain⟨t,rfl⟩:=rx;have e':k=(i != 0):=e;subst e';exact PySem.P.truthy_int ⟨H,I,q⟩
 |str y =>
  obtain⟨t,rfl⟩:=rx;obtain⟨hy,e'⟩:y.length<=sizeLine/\k=((y.length:Int) != 0):=e;subst e';exact PySem.P.truthy_str 'f' ⟨H,I.tok _,q⟩
 |byt y =>
  obtain⟨t,rfl⟩:=rx;obtain⟨hy,e'⟩:y.size<=sizeLine/\k=((y.size:Int) != 0):=e;subst e';exact PySem.W.truthy_bytes 'f' ⟨H,I.tok _,q⟩
 |ref p =>
  cases rx;have e':(∃ xs,sL X.K H p xs/\k=!xs.isEmpty)\/(∃ xs,sP X.K H p xs/\k=!xs.isEmpty)\/∃ kvs,H p=some (.dK kvs)/\k=!kvs.isEmpty:=e;rcases e' with⟨xs,hx,e'⟩|⟨xs,hx,e'⟩|⟨kvs,hx,e'⟩
  .subst e';obtain⟨its,r,pl,hz⟩:=I.list hx;have hlen:=r.length;exact wpAny_truthy_list pl.isList (by simp only[zzS];omega) ⟨H,I.tok _,by rw[hV r];exact q⟩
  .subst e';obtain⟨its,r,pl,hz⟩:=I.tuple hx;have hlen:=r.length;exact truthy_tuple pl (by simp only[zzS];omega) ⟨H,I.tok _,by rw[hV r];exact q⟩
  .subst e';obtain⟨hz,hS,vs,r,m⟩:kvs.length<=sizeLine/\(p==sysModules)=false/\∃ vs,KV kvs vs/\s.heap.DictOf (xN X.prog X.w) p vs:=I.hok p _ hx;have hlen:kvs.length=vs.length:=ZbK r;exact wpAny_truthy_dict hS m 'f' ⟨H,I.tok _,by rw[zbJ r];exact q⟩
 |_=>exact(show False from e).elim
theorem zel (ha:PE X a ta) (he:∀ whole,isTrue a X.env whole=(do let v ← whole;standAt a.pos;holding [v] (truthy v))) :
  PT X a (λσ H Q=>ta σ H λx H'=>∃ k,TruV X.K x H' k/\Q k H'):=by
 intro pins s σ H Q I h;exact isTrue_plain (thn (ha pins s σ H _ I h) λv s1 ⟨x,H1,I1,r1,q1⟩=>ziq pins s1 σ H1 x v Q I1 r1 q1) (he _)
theorem zbB:tT X (binaryOp .Add) (λx y H Q=>∃ i j,x=.str i/\y=.str j/\i.length+j.length<=sizeLine/\Q (.str (i++j)) H):=by
 intro pins s σ H x y v u Q I rx ry h;obtain⟨i,j,rfl,rfl,hz,q⟩:=h;obtain⟨t,rfl⟩:=rx;obtain⟨t',rfl⟩:=ry;exact jO I.tk (add_str (λt' tk h0=>⟨.str (i++j),H,I.tok _ h0,⟨_,rfl⟩,q⟩) hz)
theorem jX {x:V} {us:List Value} (r:yW [x] us):∃ u,us=[u]/\yV x u:=by
 cases r with
 |cons r1 r2=>cases r2;exact⟨_,rfl,r1⟩
theorem pK {x y:V} {us:List Value} (r:yW [x,y] us):∃ u w',us=[u,w']/\yV x u/\yV y w':=by
 cases r with
 |cons r1 r2 =>
  cases r2 with
  |cons r3 r4=>cases r4;exact⟨_,_,rfl,r1,r3⟩
theorem zdK (hc:X.calm=true):wW X (.builtin "max") (λxs H Q=>∃ i j,xs=[.int i,.int j]/\Q (.int (if j > i then j else i)) H):=by
 intro pins s σ H xs us Q I r h;obtain⟨i,j,rfl,q⟩:=h;obtain⟨u,w',rfl,⟨t,rfl⟩,⟨t',rfl⟩⟩:=pK r;refine jO I.tk (max_two_ints (I.ok.hd hc) λh' tk k h0=>⟨_,H,I.kept k h0,?_,q⟩)
 by_cases hj:j > i
 .rw[if_pos hj,if_pos hj];exact⟨_,rfl⟩
 .rw[if_neg hj,if_neg hj];exact⟨_,rfl⟩
theorem dB:wW X (.type "int") (λxs H Q=>(∃ i,xs=[.int i]/\Q (.int i) H)\/∃ k,xs=[.bl k]/\Q (.int (if k then 1 else 0)) H):=by
 intro pins s σ H xs us Q I r h;rcases h with⟨i,rfl,q⟩|⟨k,rfl,q⟩
 .obtain ⟨u,rfl,t,rfl⟩:=jX r;exact call_int_int ⟨.int i,H,I,⟨_,rfl⟩,q⟩
 .obtain ⟨u,rfl,r1⟩:=jX r;cases r1;exact call_int_bool ⟨.int (if k then 1 else 0),H,I.tok _,⟨_,rfl⟩,q⟩
end
end L2
namespace L2
open PySem PySem.Spec PyProof.Rows
theorem zcU {h:Heap} {dx:Addr} {mA:Str->Option Value} (n:h.Ns1 dx mA):∃ od,h.get? dx=some od/\∀ name,PySem.W.lookIn name od=some (mA name):=by
 obtain⟨o,es,ep,ho,hd,hk,_,hm⟩:=n;refine⟨o,ho,λname=>?_⟩;have e:=hm name;unfold nsFind findBy at e;rw[← Array.find?_toList] at e;unfold PySem.W.lookIn;rw[hd];dsimp only
 split
 .rename_i y q;rw[q] at e;exact congrArg some e
 .rename_i q;rw[q] at e
  have a:es.toList.any (·.refKey)=false:=by
   rw[List.any_eq_false];intro y hy;obtain⟨z,t,hkey⟩:=hk y (Array.mem_toList_iff.mp hy);simp[DictEntry.refKey,hkey]
  have a':¬ es.toList.any (·.refKey)=true:=by rw[a];exact zzN
  rw[if_neg a'];exact congrArg some e
section
variable {prog:Program} {w:World} {A:Around} {E:VP} {s:Shared} {K:PySem.W.Frag} {x dx C f:Addr} {mA:Str->Option Value} {name:Str} {v:Value}
end
theorem pZ.some_of {v:V} {o:Option Value} (r:pZ (some v) o):∃ u,o=some u/\yV v u:=by
 cases o with
 |none=>exact(show False from r).elim
 |some u=>exact⟨u,rfl,r⟩
theorem zdd {v:V} {u:Value} (r:yV v u):PySem.W.handedIn u=true:=by
 cases v with
 |non=>cases(show u=Value.none from r);rfl
 |bl b=>cases(show u=Value.bool b from r);rfl
 |int i=>obtain⟨t,e⟩:=(show ∃ t,u=Value.int i t from r);cases e;rfl
 |str x=>obtain⟨t,e⟩:=(show ∃ t,u=Value.str x t from r);cases e;rfl
 |byt b=>obtain⟨t,e⟩:=(show ∃ t,u=Value.bytes b t from r);cases e;rfl
 |flt b=>obtain⟨t,e⟩:=(show ∃ t,u=Value.float b t from r);cases e;rfl
 |ref a=>cases(show u=Value.ref a from r);rfl
 |ty n=>cases(show u=Value.type n from r);rfl
section
variable {P:Program} {w:World} {H H':Hp} {h h':Heap} {a C dx:Addr} {fs fs':List (Str×V)}
end
structure Cls (K:PySem.W.Frag) (C:Addr):Prop where
 pg:PySem.W.plainGet K C Str.empty=true
 hd:PySem.W.hasDictIn K C=true
 po:PySem.W.plainOver K C=true
 sa:PySem.W.findIn K (.ref C) "__setattr__" = some (some (.builtin "object.__setattr__"))
noncomputable def zgd (K:PySem.W.Frag) (C:Addr) (f:Str):Prop:=PySem.W.findIn K (.ref C) f=some none
section
variable {X:Cx} {pins:PL} {σ:St} {H:Hp} {s:Shared} {a C dx:Addr} {fs:List (Str×V)} {f:Str} {v:V} {A:Around} {E:VP}
theorem zh6 {prog:Program} {w:World} {env:Env} {e:Expr} {f:Str} {pos:Pos} {s:Shared} {Q:VP} (hb:attributeBase e f env (eval e env)=eval e env)
  (h:wpAny 'd' A (eval e env) (λo s₁=>wpAny 'd' A (getAttr o f true) Q E s₁) E s):wpAny 'd' A (eval (.Attribute e f pos) env) Q E s :=
 Attribute_any_ h (by rw[arm_eval_Attribute,hb])
end
section
variable {X:Cx} {o e value:Expr} {f:Str} {pos pos' tpos:Pos} {ta tv:TE}
end
section
variable {X:Cx} {pins:PL} {σ:St} {H:Hp} {s:Shared} {A:Around} {E:VP} {Q:VP} {c:Value} {b:Bool}
end
end L2
namespace L2
open PySem PySem.Spec PyProof.Rows
structure Room (k:Nat) (A:Around):Prop where
 gd:A.guards=some []
 hd:A.handled=none
 dp:A.depth+3 * k+5<recursionLimit
 un:A.units+16 * k+200<cLine
theorem Room.mono {j k:Nat} {A:Around} (r:Room k A) (h:j<=k):Room j A:=⟨r.gd,r.hd,by have:=r.dp;omega,by have:=r.un;omega⟩
theorem Room.deeper {k:Nat} {A:Around} (r:Room (k+1) A) (env:Env):Room k (A.deeper env) :=
 ⟨r.gd,r.hd,by have:=r.dp;show A.depth+1+3 * k+5<_;omega,by have:=r.un;show A.units+3+16 * k+200<_;omega⟩
theorem zbG {A:Around} {C:Addr} {us:List Value} {kw:List (Str×Value)}:(A.under (.builtin "type.__call__" ⟨.ref C::us,kw⟩)).depth=A.depth+1:=by
 first|rfl|simp[Around.under,Code.weight,Code.isCreation,Code.isGuard,Code.isCaller,Code.frames,Code.isFrame,guardIds]
theorem zbF {A:Around} {C:Addr} {us:List Value} {kw:List (Str×Value)}:(A.under (.builtin "type.__call__" ⟨.ref C::us,kw⟩)).units=A.units+1:=by
 first|rfl|simp[Around.under,Code.cUnits,Code.frames,Code.isFrame]
theorem zg7 {A:Around} {C:Addr} {us:List Value} {kw:List (Str×Value)}:(A.under (.builtin "type.__call__" ⟨.ref C::us,kw⟩)).guards=A.guards:=by
 first|rfl|simp[Around.under,Code.guards,Code.isGuard,guardIds,pushGuards]
theorem Room.make {k:Nat} {A:Around} (r:Room (k+1) A) (C:Addr) (us:List Value) (kw:List (Str×Value)):Room k (A.under (.builtin "type.__call__" ⟨.ref C::us,kw⟩)) :=
 ⟨(zg7).trans r.gd,r.hd,by have:=r.dp;rw[zbG];omega,by have:=r.un;rw[zbF];omega⟩
theorem Room.depth {k:Nat} {A:Around} (r:Room k A):A.depth<recursionLimit:=by have:=r.dp;omega
noncomputable def tNil:TA:=λ_ H Q=>Q [] H
noncomputable def tCons (ta:TE) (tr:TA):TA:=λσ H Q=>ta σ H λx H1=>tr σ H1 λxs H2=>Q (x::xs) H2
section
variable {X:Cx} {e:Expr} {es:List Expr} {te:TE} {t:TA} {pos:Pos}
theorem zjk:PA X [] tNil:=λ_ _ _ _ H Q I h=>Calls.spliced_nil ⟨[],H,I,.nil,h⟩
theorem zg1 (ha:PE X e te) (hr:PA X es t) (hs:starEach (e::es) X.env=(false,eval e X.env)::starEach es X.env:=by rfl):PA X (e::es) (tCons te t):=by
 intro pos pins s σ H Q I h;rw[hs];show wpAny _ _ (spliced ((false,eval e X.env)::backTo pos (starEach es X.env))) _ _ s;refine Calls.spliced_cons (thn (ha pins s σ H _ I h) λu s1 ⟨x,H1,I1,r1,q1⟩=>?_);exact thn (hr pos pins s1 σ H1 _ I1 q1) λus s2 ⟨xs,H2,I2,r2,q2⟩=>⟨x::xs,H2,I2,.cons r1 r2,q2⟩
noncomputable def tTup (t:TA):TE:=λσ H Q=>t σ H λxs H1=>xs.length<=sizeLine/\∀ p,H1 p=none->Q (.ref p) (yG H1 p (.tup xs))
noncomputable def tLst (t:TA):TE:=λσ H Q=>t σ H λxs H1=>xs.length<=sizeLine/\∀ p,H1 p=none->Q (.ref p) (yG H1 p (.lst xs))
theorem zjc {x1} (h:PA X es t):PE X (.Tuple es x1 pos) (tTup t):=by
 intro pins s σ H Q I hq;refine wpAny_Tuple_spliced (thn (h pos pins s σ H _ I hq) λus s1 ⟨xs,H1,I1,r,z,q⟩=>⟨by rw[← r.length];exact z,?_⟩);have hf:H1 s1.heap.objs.size=none:=I1.hok.fresh (zzR _);refine⟨.ref s1.heap.objs.size,yG H1 s1.heap.objs.size (.tup xs),I1.laid (t':=s1.toks) (λb u e=>Zb _ e) (zzR _) ?_,rfl,q _ hf⟩;exact⟨z,us,r,⟨_,Zl _ rfl,rfl,_,rfl⟩⟩
theorem zjg (h:PA X es t):PE X (.List es pos) (tLst t):=by
 intro pins s σ H Q I hq;refine wpAny_List_spliced (thn (h pos pins s σ H _ I hq) λus s1 ⟨xs,H1,I1,r,z,q⟩=>⟨by rw[← r.length];exact z,?_⟩);have hf:H1 s1.heap.objs.size=none:=I1.hok.fresh (zzR _);refine⟨.ref s1.heap.objs.size,yG H1 s1.heap.objs.size (.lst xs),I1.laid (t':=s1.toks) (λb u e=>Zb _ e) (zzR _) ?_,rfl,q _ hf⟩;exact⟨z,us,0,r,Zl _ rfl⟩
end
noncomputable abbrev Sp:=List V->Hp->VK->XK->Prop
noncomputable abbrev CXT:=List Env->Hp->Shared->XK->Value->Shared->Prop
structure Env0 (P:Program) (w:World) (K:PySem.W.Frag) (mg:Str->Option Value) (base:Heap) (A:Around) (outer:List Env) (s:Shared) (H:Hp):Prop where
 frames:A.frames=some outer
 mod:Mod K mg base
 bs:∀ b o,base.get? b=some o->s.heap.get? b=some o/\H b=none
 bsz:base.objs.size<=s.heap.objs.size
 funs:s.heap.FunFrames base outer
 frf:∀ b∈sN outer,H b=none
 hok:uW P w H s.heap
 bare:AllBare s.gens
 tk:0<s.toks
noncomputable def CE (outer:List Env) (P:Program) (w:World) (H:Hp) (s:Shared) (Q:VK) (u:Value) (s':Shared):Prop :=
 ∃ v H',s'.os=s.os/\0<s'.toks/\AllBare s'.gens/\Un (sN outer) [] H H' s.heap s'.heap/\uW P w H' s'.heap/\yV v u/\Q v H'
noncomputable def CR (CX:CXT) (outer:List Env) (P:Program) (w:World) (H:Hp) (s:Shared) (Q:VK) (E:XK) (r:Result) (s':Shared):Prop :=
 match r with
 | .ok (.ret u)=>CE outer P w H s Q u s'
 | .ok _=>False
 | .error e=>CX outer H s E e s'
structure FnOk (P:Program) (w:World) (K:PySem.W.Frag) (mg:Str->Option Value) (base:Heap) (CX:CXT) (k:Nat) (f:Addr) (fd:FuncData) (ps:List Str) (sp:Sp):Prop where
 len:∀ vs H Q E,sp vs H Q E->vs.length=ps.length
 run:∀ (A:Around) (outer:List Env) (s:Shared) (H:Hp) (args:Args) (us:List Value) (vs:List V) (Q:VK) (E:XK),Room k A->Env0 P w K mg base A outer s H->BindsTo s fd args (ps.zip us)->yW vs us->sp vs H Q E ->
  codeAny (model P w) A (.call (.ref f) args) (CR CX outer P w H s Q E) s
 one:∀ (x:Str),ps=[x]->fd.scope.names.lookup x=some .local->∀ (A:Around) (outer:List Env) (s:Shared) (H:Hp) (args:Args) (us:List Value) (vs:List V) (Q:VK) (E:XK),Room k A->Env0 P w K mg base A outer {s with toks:=1} H->BindsTo s fd args (ps.zip us)->yW vs us->sp vs H Q E ->
  codeAny (model P w) A (.call (.ref f) args) (CR CX outer P w H s Q E) s
theorem FnOk.mono {P:Program} {w:World} {K:PySem.W.Frag} {mg:Str->Option Value} {base:Heap} {CX:CXT} {j k:Nat} {f:Addr} {fd:FuncData} {ps:List Str} {sp:Sp} (F:FnOk P w K mg base CX j f fd ps sp) (h:j<=k) :
  FnOk P w K mg base CX k f fd ps sp:=⟨F.len,λA outer s H args us vs Q E hr=>F.run A outer s H args us vs Q E (hr.mono h),λx e l A outer s H args us vs Q E hr=>F.one x e l A outer s H args us vs Q E (hr.mono h)⟩
theorem Env0.make {P:Program} {w:World} {K:PySem.W.Frag} {mg:Str->Option Value} {base:Heap} {A:Around} {outer:List Env} {s:Shared} {H:Hp} (e:Env0 P w K mg base A outer s H) (C:Addr) (us:List Value) (kw:List (Str×Value)) :
  Env0 P w K mg base (A.under (.builtin "type.__call__" ⟨.ref C::us,kw⟩)) outer s H:=⟨by first|exact e.frames|(simpa[Around.under,Code.envs,Code.isFrame,pushEnvs] using e.frames),e.mod,e.bs,e.bsz,e.funs,e.frf,e.hok,e.bare,e.tk⟩
section
variable {X:Cx} {pins:PL} {σ:St} {H:Hp} {s s':Shared}
theorem Inv.env0 (I:Inv X pins σ H s):Env0 X.prog X.w X.K X.mg X.base X.A X.stack s H :=
 ⟨I.ok.frames,I.ok.mod,I.bs,Ze I.ok.bsz I.sz,I.stack,I.stkFree,I.hok,I.bare,I.tk⟩
theorem Inv.after {Q:VK} {u:Value} (I:Inv X pins σ H s) (h:CE X.stack X.prog X.w H s Q u s'):EP X pins σ Q u s':=by
 obtain⟨v,H',os,tk,bare,un,hok,r,q⟩:=h;obtain⟨hh,g,d,t,os'⟩:=s';obtain rfl:os'=s.os:=os;exact⟨v,H',I.call (h':=hh) (g':=g) (d':=d) (t':=t) (ch:=[]) un hok bare (λb z=>absurd z 'g') tk,r,q⟩
end
noncomputable def zgA (sp:Sp) (dvs:List V) (E:XK) (t:TA):TE:=λσ H Q=>t σ H λvs H1=>sp (vs++dvs) H1 Q E
noncomputable def qG (K:PySem.W.Frag) (fd:FuncData) (ps:List Str) (ds:List Value):Prop :=
 ∀ (s:Shared) (us:List Value),K.In s.heap->(us++ds).length=ps.length->BindsTo s fd ⟨us,[]⟩ (ps.zip (us++ds))
theorem qG.all {K:PySem.W.Frag} {fd:FuncData} {ps:List Str} (h:∀ us:List Value,us.length=ps.length->bindArgs fd ⟨us,[]⟩=pure (ps.zip us)):qG K fd ps []:=λs us _ hl=>by
 rw[Zq] at hl ⊢;exact .of_eq (h us hl)
noncomputable def zbr (CX:CXT) (X:Cx) (E:XK):Prop:=∀ (pins:PL) (σ:St) (H:Hp) (s:Shared) (e:Value) (s':Shared),Inv X pins σ H s->CX X.stack H s E e s'->X.xe e s'
section
variable {X:Cx} {CX:CXT} {k:Nat} {f C:Addr} {fd:FuncData} {ps:List Str} {sp:Sp} {dvs:List V} {ds:List Value} {E:XK} {x m:Str} {p pos apos:Pos} {e o:Expr} {es:List Expr} {ta:TE} {t:TA}
theorem zfJ {pins:PL} {σ:St} {H:Hp} {s:Shared} {Q:VK} {us:List Value} {vs:List V} (F:FnOk X.prog X.w X.K X.mg X.base CX k f fd ps sp) (hr:Room k X.A) (hb:qG X.K fd ps ds) (hd:yW dvs ds) (hx:zbr CX X E)
  (I:Inv X pins σ H s) (r:yW vs us) (h:sp (vs++dvs) H Q E):wpAny 'b' X.A (call (.ref f) us) (EP X pins σ Q) X.xe s:=by
 have r2:yW (vs++dvs) (us++ds):=r.append hd;have hl:(us++ds).length=ps.length:=by rw[← r2.length];exact F.len _ _ _ _ h
 refine ZbG (ZaF (F.run X.A X.stack s H ⟨us,[]⟩ (us++ds) (vs++dvs) Q E hr I.env0 (hb s us I.kIn hl) r2 h) λr s' hq=>?_)
 cases r with
 |error e=>exact hx pins σ H s e s' I hq
 |ok fl =>
  cases fl with
  |ret u=>exact I.after hq
  |next=>exact False.elim hq
  |brk=>exact False.elim hq
  |cont=>exact False.elim hq
theorem zgY (F:FnOk X.prog X.w X.K X.mg X.base CX k f fd ps sp) (hr:Room k X.A) (hg:Gl X x) (hm:X.mg x=f⁻¹) (hk:PySem.W.keepIn X.K (.ref f)=true) (hb:qG X.K fd ps ds) (hd:yW dvs ds) (hx:zbr CX X E)
  (ha:PA X (e::es) t) (hdb:(x==("__debug__":Str))=false:=by decide) (he:starEach (e::es) X.env=(false,eval e X.env)::starEach es X.env:=by rfl) (hpl:(backTo pos (starEach es X.env)).any (·.1)=false:=by rfl) :
  PE X (.Call (.Name x p) (e::es) [] pos) (zgA sp dvs E t):=by
 intro pins s σ H Q I h;refine ZT (qL I hg hm ?_ hdb);refine Zbt (h₀:=X.base) I.ok.mod.kin hk (thn (ha pos pins s σ H _ I h) λus s1 ⟨vs,H1,I1,r,q⟩=>⟨I1.kIn,?_⟩) he hpl;exact zfJ F hr hb hd hx I1 r q
theorem zeB (F:FnOk X.prog X.w X.K X.mg X.base CX k f fd ps sp) (hr:Room k X.A) (hg:Gl X x) (hm:X.mg x=f⁻¹) (hk:PySem.W.keepIn X.K (.ref f)=true) (hb:qG X.K fd ps ds) (hd:yW dvs ds) (hx:zbr CX X E)
  (hdb:(x==("__debug__":Str))=false:=by decide):PE X (.Call (.Name x p) [] [] pos) (zgA sp dvs E tNil):=by
 intro pins s σ H Q I h;refine ZT (qL I hg hm ?_ hdb);exact Zbj I.kIn hk (zfJ (us:=[]) F hr hb hd hx I .nil h)
structure Mk (K:PySem.W.Frag) (C f:Addr):Prop where
 makes:PySem.W.makesIn K C=true
 init:PySem.W.findIn K (.ref C) "__init__" = some (f⁻¹)
 fn:PySem.W.isFn K (.ref f)=true
 kp:PySem.W.keepIn K (.ref C)=true
end
section
variable {X:Cx} {CX:CXT} {k:Nat} {f C:Addr} {fd:FuncData} {ps ks:List Str} {sp:Sp} {E:XK} {x m:Str} {p pos apos kpos:Pos} {e o:Expr} {es:List Expr} {kws:List Keyword} {te ta:TE} {t tk:TA} {nm:Option Str}
variable {g:List Value->List Value->List Value} {gV:List V->List V->List V}
end
structure FnScope (N P:List Str) (sc:Scope):Prop where
 kind:sc.kind=.function
 co:sc.isCoroutine=false
 gen:sc.isGenerator=false
 nd:N.Nodup
 pre:N.take P.length=P
 par:∀ x∈P,sc.names.lookup x=some .local\/sc.names.lookup x=some .cell
 nofree:∀ y∈sc.names,y.2≠.free
theorem cY {kindOf:Str->Option NameKind} {x:Str}:∀ {binds:List (Str×Value)} {m:Str->Option Value},(∀ v,(x,v)∉binds)->bindL kindOf binds m x=m x
 | [],_,_=>rfl
 | (n,v)::r,m,h=>by
  unfold bindL;rw[cY λw hw=>h w (Zi _ hw)]
  split
  .have:x≠n:=by rintro rfl;exact h v zzT
   simp[this]
  .rfl
theorem cW {kindOf:Str->Option NameKind} {x:Str}:∀ {binds:List (Str×Value)} {m:Str->Option Value},(∀ v,(x,v)∉binds)->bindC kindOf binds m x=m x
 | [],_,_=>rfl
 | (n,v)::r,m,h=>by
  unfold bindC;rw[cW λw hw=>h w (Zi _ hw)]
  split
  .rfl
  .have:x≠n:=by rintro rfl;exact h v zzT
   simp[this]
theorem cX {kindOf:Str->Option NameKind} {x:Str} {v:Value}:∀ {P:List Str} {vs:List Value} {i:Nat} {m:Str->Option Value},P.Nodup->P[i]?=some x->vs[i]?=some v->kindOf x=some .local ->
  bindL kindOf (P.zip vs) m x=some v
 | [],_,_,_,_,h,_,_=>by simp at h
 |_::_,[],_,_,_,_,h,_=>by simp at h
 |p::P,w::vs,0,m,nd,h1,h2,hk=>by
  simp at h1 h2;subst h1;subst h2;show bindL kindOf ((p,w)::P.zip vs) m p=_;unfold bindL;rw[cY λv hv=>(Zar.mp nd).1 (Zas hv).1,if_pos hk];simp
 |p::P,w::vs,i+1,m,nd,h1,h2,hk=>by
  show bindL kindOf ((p,w)::P.zip vs) m x=_;unfold bindL;exact cX (i:=i) (Zar.mp nd).2 (by simpa using h1) (by simpa using h2) hk
theorem cV {kindOf:Str->Option NameKind} {x:Str} {v:Value}:∀ {P:List Str} {vs:List Value} {i:Nat} {m:Str->Option Value},P.Nodup->P[i]?=some x->vs[i]?=some v->kindOf x≠some .local ->
  bindC kindOf (P.zip vs) m x=some v
 | [],_,_,_,_,h,_,_=>by simp at h
 |_::_,[],_,_,_,_,h,_=>by simp at h
 |p::P,w::vs,0,m,nd,h1,h2,hk=>by
  simp at h1 h2;subst h1;subst h2;show bindC kindOf ((p,w)::P.zip vs) m p=_;unfold bindC;rw[cW λv hv=>(Zar.mp nd).1 (Zas hv).1,if_neg hk];simp
 |p::P,w::vs,i+1,m,nd,h1,h2,hk=>by
  show bindC kindOf ((p,w)::P.zip vs) m x=_;unfold bindC;exact cV (i:=i) (Zar.mp nd).2 (by simpa using h1) (by simpa using h2) hk
noncomputable def start (N:List Str) (vs:List V):St:=vs.map some++List.replicate (N.length-vs.length) none
noncomputable def rB (CX:CXT) (P:Program) (w:World) (K:PySem.W.Frag) (mg:Str->Option Value) (base:Heap) (N:List Str) (qual:Str) (scope:Scope) (f:Addr) (cd:Value) (A:Around) (outer:List Env) (s:Shared) (H:Hp) (E:XK):Cx where
 prog:=P
 w:=w
 K:=K
 mg:=mg
 base:=base
 A:=A.deeper (envOfC qual scope s.heap.objs.size f cd)
 N:=N
 s₀:=s
 H₀:=H
 env:=envOfC qual scope s.heap.objs.size f cd
 outer:=outer
 stack:=envOfC qual scope s.heap.objs.size f cd::outer
 ex:=[]
 calm:=true
 fn:=λ_=>true
 pn:=[]
 xe:=λe s'=>wpAny (model P w) (A.deeper (envOfC qual scope s.heap.objs.size f cd)) (leaving (envOfC qual scope s.heap.objs.size f cd) e) (λ_ s''=>CX outer H s E e s'') (λe' s''=>CX outer H s E e' s'') s'
theorem zbo {sc:Scope} {n:Nat} {x:Str} (h:sc.names.lookup x=some .cell):∃ c,(cellsFrom n sc.names []).lookup x=some c:=by
 have q:=PySem.W.cellsFrom_some sc.names n [] (.inl h);exact ZU.mp q
theorem zdb {CX:CXT} {P:Program} {w:World} {K:PySem.W.Frag} {mg:Str->Option Value} {base:Heap} {N ps:List Str} {qual:Str} {scope:Scope} {f:Addr} {cd:Value} {A:Around} {outer:List Env} {s s1:Shared} {H:Hp} {E:XK} {us:List Value} {vs:List V}
  (S:FnScope N ps scope) (hd:A.handled=none) (e0:Env0 P w K mg base A outer {s with toks:=1} H) (hl:vs.length=ps.length) (r:yW vs us)
  (x:InCallC s s.heap.objs.size (bindL (envOfC qual scope s.heap.objs.size f cd).kindOf (ps.zip us) λ_=>none) (cellsFrom (s.heap.objs.size+1) scope.names []) (bindC (envOfC qual scope s.heap.objs.size f cd).kindOf (ps.zip us) λ_=>none) s1) (h0:0<s1.toks) :
  Inv (rB CX P w K mg base N qual scope f cd A outer s H E) [] (start N vs) H s1:=by
 have hpl:ps.length<=N.length:=by have:=congrArg List.length S.pre;rw[Z0] at this;omega
 obtain⟨h1,tk,rfl,hk⟩:=x.done;have noA:∀ b:Addr,b∉(rB CX P w K mg base N qual scope f cd A outer s H E).ex:=λb z=>absurd (show b∈([]:List Addr) from z) 'g'
 refine⟨⟨e0.mod,S.kind,rfl,rfl,zzR _,λy z c h1 h2=>?_,λy hy=>?_,λy c _ h=>?_,λ_=>hd,Around.frames_deeper e0.frames,.inr ⟨rfl,rfl⟩,λb z=>absurd z (noA b),e0.bs,e0.bsz,λb _ _=>noA b,λb z=>absurd z (noA b),e0.funs,e0.frf⟩,
  rfl,e0.bare,Un.kept hk,⟨_,x.toInCall.ns,λi y v h1 h2 h3=>?_⟩,λy c h=>⟨_,x.cell y c h⟩,e0.hok.fresh (zzR _),λy c h=>?_,λp hp=>absurd (show p∈([]:PL) from hp) 'g',e0.hok.kept hk,?_,h0⟩
 .exact name_of_addr x.apart (Zay h1) (Zay h2)
 .have hy:scope.names.lookup y=some .cell\/scope.names.lookup y=some .free:=hy;rcases hy with hy|hy
  .exact zbo hy
  .exact absurd rfl (S.nofree _ (Zay hy))
 .exact ZaQ (x.above y c (Zay h))
 .have hi:i<vs.length:=by
   unfold start at h2
   by_cases hi:i<vs.length
   .exact hi
   .rw[Zab (by simpa using hi)] at h2;rw[ZaU] at h2
    split at h2<;>cases h2
  have ha:vs[i]?=some v:=by
   unfold start at h2;rw[ZX (by simpa using hi),Zz] at h2
   cases e:vs[i]? with
   |none=>rw[e] at h2;cases h2
   |some a=>rw[e] at h2;cases h2;rfl
  obtain⟨u,hu,rv⟩:=r.get ha
  have hp:ps[i]?=some y:=by
   rw[← S.pre,List.getElem?_take_of_lt 'f'];exact h1
  have ndP:ps.Nodup:=by rw[← S.pre];exact S.nd.sublist (List.take_sublist _ _)
  refine⟨u,rv,?_⟩;rcases S.par y (Zw hp) with k|k
  .exact .inl ⟨k,cX ndP hp hu k⟩
  .obtain ⟨c,e⟩:=zbo (n:=s.heap.objs.size+1) k;refine .inr ⟨.inl k,c,e,?_⟩;have q:=x.cell y c e;rw[cV ndP hp hu (by show scope.names.lookup y≠_;rw[k];decide)] at q;exact q
 .exact e0.hok.fresh (ZaQ (x.above y c (Zay h)))
 .unfold start;show _=N.length;rw[zzW,zzM,Zbb];omega
theorem zfd {CX:CXT} {P:Program} {w:World} {K:PySem.W.Frag} {mg:Str->Option Value} {base:Heap} {k:Nat} {f:Addr} {name qual:Str} {params:Arguments} {body:List Stmt} {scope:Scope} {dV kV doc pm cdv ct oc:Value} {an od:Option Addr}
  {osl:Array (Option Value)} {N ps:List Str} {sp:Sp} (lk:K.lookup f=some ⟨oc,od,.func (PySem.W.fnOf name qual params body scope dV kV doc pm an cdv ct),osl⟩) (hcd:PySem.W.codeIn K cdv qual=true) (S:FnScope N ps scope)
  (len:∀ vs H Q E,sp vs H Q E->vs.length=ps.length)
  (hbody:∀ (A:Around) (outer:List Env) (s:Shared) (H:Hp) (vs:List V) (Q:VK) (E:XK),Room k (A.deeper (envOfC qual scope s.heap.objs.size f cdv))->sp vs H Q E ->
   ∃ t,gP (rB CX P w K mg base N qual scope f cdv A outer s H E) body t/\t { nx:=λ_ H'=>Q .non H',rt:=Q} (start N vs) H) :
  FnOk P w K mg base CX (k+1) f (PySem.W.fnOf name qual params body scope dV kV doc pm an cdv ct) ps sp:=by
 suffices core:∀ (A:Around) (outer:List Env) (s:Shared) (H:Hp) (args:Args) (us:List Value) (vs:List V) (Q:VK) (E:XK),Room (k+1) A->Env0 P w K mg base A outer {s with toks:=1} H->BindsTo s (PySem.W.fnOf name qual params body scope dV kV doc pm an cdv ct) args (ps.zip us)->yW vs us->sp vs H Q E ->
   (0<s.toks\/∃ x,ps=[x]/\scope.names.lookup x=some .local)->codeAny (model P w) A (.call (.ref f) args) (CR CX outer P w H s Q E) s from
  ⟨len,λA outer s H args us vs Q E hr e0 hb r hsp=>core A outer s H args us vs Q E hr ⟨e0.frames,e0.mod,e0.bs,e0.bsz,e0.funs,e0.frf,e0.hok,e0.bare,Nat.one_pos⟩ hb r hsp (.inl e0.tk),λx e l A outer s H args us vs Q E hr e0 hb r hsp=>core A outer s H args us vs Q E hr e0 hb r hsp (.inr ⟨x,e,l⟩)⟩
 intro A outer s H args us vs Q E hr e0 hb r hsp hpos;have hl:=len _ _ _ _ hsp;have KX:K.In s.heap:=e0.mod.kin.keeps λb o e=>(e0.bs b o e).1;have lim:s.heap.NoLimit:=e0.mod.nolimit.keeps λb o e=>(e0.bs b o e).1
 have hkind:∀ y∈ps.zip us,scope.names.lookup y.1=some .local\/(scope.names.lookup y.1=some .cell/\((cellsFrom (s.heap.objs.size+1) scope.names []).lookup y.1).isSome=true):=λ⟨n,v⟩ hy=>by
  rcases S.par n (Zas hy).1 with q|q
  .exact .inl q
  .exact .inr ⟨q,PySem.W.cellsFrom_some _ _ _ (.inl q)⟩
 refine codeAny_call_function hr.depth (KX _ _ lk) rfl S.co S.gen rfl (PySem.W.codeRec_of KX hcd) (hb _ _ _ _ ?_);refine zbC S.kind hkind (r.length.symm.trans hl) hpos λenv he s1 x h0=>?_;subst he;refine⟨lim.keeps x.toInCall.keep,codeAny_func ?_⟩;obtain⟨t,ht,hq⟩:=hbody A outer s H vs Q E (hr.deeper _) hsp;have I:Inv (rB CX P w K mg base N qual scope f cdv A outer s H E) [] (start N vs) H s1:=zdb S hr.hd e0 hl r x h0;refine Zv (ht [] s1 (start N vs) H _ I hq) (λfl s' hs=>?_) λe s' hs=>hs
 have fin:∀ {σ':St} {H':Hp} {v:V} {u:Value},Inv (rB CX P w K mg base N qual scope f cdv A outer s H E) [] σ' H' s'->yV v u->Q v H'->CE outer P w H s Q u s' :=
  λ{σ' H' v u} J rv q=>⟨v,H',J.os,J.tk,J.bare,J.base,J.hok,rv,q⟩
 cases fl with
 |ret u =>
  obtain⟨v,σ',H',J,rv,q⟩:=hs;exact fin J rv q
 |next =>
  obtain⟨σ',H',J,q⟩:=hs;exact fin (v:=V.non) (u:=Value.none) J rfl q
 |brk =>
  obtain⟨_,_,_,q⟩:=hs;exact False.elim q
 |cont =>
  obtain⟨_,_,_,q⟩:=hs;exact False.elim q
end L2
namespace L2
open PySem PySem.Spec PyProof.Rows
section
variable {X:Cx} {x:Str} {p pos:Pos} {e:Expr} {es:List Expr} {t:TA} {id T:String} {r:List V->Hp->VK->Prop}
noncomputable def tCB (r:List V->Hp->VK->Prop) (t:TA):TE:=λσ H Q=>t σ H λvs H1=>r vs H1 Q
theorem zeA (hc:wW X (.builtin id) r) (hg:Gl X x) (hm:X.mg x=none) (hv:bootBuiltins x=some (.builtin id)) (ha:PA X (e::es) t) (hn:x ≠ "__name__" := by decide) (hdb:(x==("__debug__":Str))=false:=by decide)
  (he:starEach (e::es) X.env=(false,eval e X.env)::starEach es X.env:=by rfl) (hpl:(backTo pos (starEach es X.env)).any (·.1)=false:=by rfl):PE X (.Call (.Name x p) (e::es) [] pos) (tCB r t):=by
 intro pins s σ H Q I h;refine ZT (vA I hg hm hv ?_ hn hdb);exact PyProof.Rows.callWith_builtin1 (thn (ha pos pins s σ H _ I h) λus s1 ⟨vs,H1,I1,r1,q1⟩=>hc pins s1 σ H1 vs us Q I1 r1 q1) he hpl
theorem zcD (hc:wW X (.type T) r) (hg:Gl X x) (hm:X.mg x=none) (hv:bootBuiltins x=some (.type T)) (ha:PA X (e::es) t) (hn:x ≠ "__name__" := by decide) (hdb:(x==("__debug__":Str))=false:=by decide)
  (he:starEach (e::es) X.env=(false,eval e X.env)::starEach es X.env:=by rfl) (hpl:(backTo pos (starEach es X.env)).any (·.1)=false:=by rfl):PE X (.Call (.Name x p) (e::es) [] pos) (tCB r t):=by
 intro pins s σ H Q I h;refine ZT (vA I hg hm hv ?_ hn hdb);exact ZW (thn (ha pos pins s σ H _ I h) λus s1 ⟨vs,H1,I1,r1,q1⟩=>hc pins s1 σ H1 vs us Q I1 r1 q1) he hpl
end
end L2
namespace HT
open PySem PyProof.Rows
section
open PySem.SeqAt
open PySem.AutoSeq1 (wpAny_loadPart')
open PySem.MeetsSeq PySem.MeetsSeq2 PySem.MeetsSeq3
end
section
variable {prog:Program} {w:World} {A:Around} {E:VP} {s:Shared}
theorem zh1 {t b:Addr} {vs ws:List Value} {Q:VP} (ht:IsTup s.heap t vs.toArray) (hb:IsTup s.heap b ws.toArray) (hv:vs≠[])
  (h1:ws=[]->Q (.ref t) s) (h2:ws≠[]->Q (.ref s.heap.objs.size) {s with heap:=s.heap.push { cls:=.type "tuple", data:=.seq (vs++ws).toArray}})
  (hsz:vs.length+ws.length<=sizeLine):wpAny 'd' A (binaryOp .Add (.ref t) (.ref b)) Q E s:=by
 obtain⟨⟨cls,dd,data,sl⟩,ho,hc,n,hd⟩:=id ht;obtain⟨⟨cls2,dd2,data2,sl2⟩,ho2,hc2,n2,hd2⟩:=id hb;simp only at hc hd hc2 hd2;subst hc hd hc2 hd2;have e:vs.toArray++ws.toArray=(vs++ws).toArray:=by simp
 by_cases hw:ws=[]
 .exact concat_meets ⟨_,ho,rfl⟩ ⟨_,ho2,rfl⟩ ZbP Zb5 Za2 ZaX (ZaR _ _)
   (tuple_addW1 t b vs.toArray ws.toArray n n2 dd dd2 sl sl2 (by simpa using hv) (by simp[hw])) ⟨ho,ho2,h1 hw⟩
 .refine concat_meets ⟨_,ho,rfl⟩ ⟨_,ho2,rfl⟩ ZbP Zb5 Za2 ZaX (ZaR _ _)
   (tuple_addW2 t b vs.toArray ws.toArray n n2 dd dd2 sl sl2 (by simpa using hv) (by simpa using hw) (by rw[zzS,zzS];exact hsz)) ⟨ho,ho2,?_⟩
  rw[e];exact h2 hw
noncomputable def wY (n d:Nat):Option Int->Nat
 |none=>d
 |some v=>if v<0 then(v+(n:Int)).toNat else min v.toNat n
theorem zaU (n d:Nat):wY n d none=d:=rfl
theorem zcs (n d k:Nat):wY n d (some (k:Int))=min k n:=by
 show(if(k:Int)<0 then((k:Int)+(n:Int)).toNat else min (k:Int).toNat n)=min k n;rw[if_neg 'f',ZbC]
theorem ziS (n d:Nat) (hd:d<=n) (o:Option Int):wY n d o<=n:=by
 cases o with
 |none=>exact hd
 |some v =>
  show(if v<0 then(v+(n:Int)).toNat else min v.toNat n)<=n
  by_cases hv:v<0
  .rw[if_pos hv];omega
  .rw[if_neg hv];exact Nat.min_le_right _ _
theorem zdF (v:Int) (n d:Nat):(if v<0 then max (v+(n:Int)) 0 else min v (n:Int))=((wY n d (some v):Nat):Int):=by
 show(if v<0 then max (v+(n:Int)) 0 else min v (n:Int))=(((if v<0 then(v+(n:Int)).toNat else min v.toNat n):Nat):Int)
 by_cases hv:v<0
 .simp only[if_pos hv];omega
 .simp only[if_neg hv];omega
theorem zbR (lo hi:Option Int) (n:Nat):Builtin.Slice.sliceAdjust lo hi 1 (n:Int)=(((wY n 0 lo:Nat):Int),((wY n n hi:Nat):Int)):=by
 have h1:¬ ((1:Int)<0):=by omega
 unfold Builtin.Slice.sliceAdjust;simp only[h1,if_false];refine Prod.ext ?_ ?_
 .cases lo with
  |none=>rfl
  |some v=>exact zdF v n 0
 .cases hi with
  |none=>rfl
  |some v=>exact zdF v n n
theorem zbA (i j:Nat):Builtin.Slice.slicePlaces (i:Int) (j:Int) 1=j-i:=by
 unfold Builtin.Slice.slicePlaces;have h1:(1:Int) > 0:=by omega
 simp only[h1,if_true,Int.ediv_one]
 split<;>omega
theorem pB {v:Value} {o:Option Int} {Q:Option Int->Shared->Prop} (p:IsPart v o) (h:Q o s):wpAny 'd' A (Builtin.Slice.slicePartIndex v) Q E s:=by
 cases p with
 |none=>exact ZbA h
 |int i t=>exact slicePart_int h
theorem kY {sl:Addr} {vl vu:Value} {lo hi:Option Int} {n:Nat} {Q:Int×Int×Nat->Shared->Prop} (hs:s.heap.IsSliceOf sl vl vu .none) (pl:IsPart vl lo) (pu:IsPart vu hi)
  (h:Q (((wY n 0 lo:Nat):Int),1,wY n n hi-wY n 0 lo) s):wpAny 'd' A (Builtin.Slice.sliceApplied (.ref sl) (pure (n:Int))) Q E s:=by
 obtain⟨os,hos,hcs,hds⟩:=id hs;unfold Builtin.Slice.sliceApplied Builtin.Slice.sliceFields;refine Za (Za (ZR hos hds (x:=vl) rfl (Za (ZR hos hds (x:=vu) rfl (Za (ZR hos hds (x:=.none) rfl (Zc ?_)))))));refine Za (ZbA ?_);show wpAny _ _ (if((1:Int)==0)=true then _ else _) _ _ s;rw[if_neg 'c'];refine Za (pB pl (Za (pB pu (Za (Zc ?_)))));show wpAny _ _ (match Builtin.Slice.sliceAdjust lo hi 1 (n:Int) with|(lo,hi)=>pure (lo,(1:Int),Builtin.Slice.slicePlaces lo hi 1)) _ _ s;rw[zbR lo hi n];show wpAny _ _ (pure (((wY n 0 lo:Nat):Int),(1:Int),Builtin.Slice.slicePlaces ((wY n 0 lo:Nat):Int) ((wY n n hi:Nat):Int) 1)) _ _ s;rw[zbA];exact Zc h
theorem zev (xs:Array Value) (i k:Nat):((List.range k).filterMap λ(m:Nat)=>xs[((i:Int)+(m:Int) * 1).toNat]?).toArray=((xs.toList.drop i).take k).toArray:=by
 have e:(λ(m:Nat)=>xs[((i:Int)+(m:Int) * 1).toNat]?)=λm=>xs[i+m]?:=by
  funext m
  have:((i:Int)+(m:Int) * 1).toNat=i+m:=by omega
  rw[this]
 rw[e];have:=pick_run xs i k;rw[Zbp] at this;have e2:((λx=>xs[x]?) ∘ λx=>i+x)=λm=>xs[i+m]?:=rfl;rw[e2] at this;rw[this]
theorem sX {t sl:Addr} {items:Array Value} {vl vu:Value} {lo hi:Option Int} {Q:VP} (ht:IsTup s.heap t items) (hs:s.heap.IsSliceOf sl vl vu .none) (pl:IsPart vl lo) (pu:IsPart vu hi)
  (hw:¬ (wY items.size 0 lo=0/\wY items.size items.size hi=items.size))
  (h:Q (.ref s.heap.objs.size) {s with heap:=s.heap.push { cls:=.type "tuple", data:=.seq ((items.toList.drop (wY items.size 0 lo)).take (wY items.size items.size hi-wY items.size 0 lo)).toArray}})
  (hsz:items.size<=sizeLine):wpAny 'd' A (getItem (.ref t) (.ref sl)) Q E s:=by
 have htake:sizeOk (.seq ((items.toList.drop (wY items.size 0 lo)).take (wY items.size items.size hi-wY items.size 0 lo)).toArray):=by
  show((items.toList.drop (wY items.size 0 lo)).take (wY items.size items.size hi-wY items.size 0 lo)).toArray.size<=sizeLine;rw[zzS,Z0,Zbd,Zav];omega
 have hj:wY items.size items.size hi<=items.size:=ziS _ _ (zzR _) hi;obtain⟨os,hos,hcs,hds⟩:=id hs;have hTs:s.TypeIs (.ref sl) "slice" := ⟨os,hos,hcs⟩;unfold getItem
 try with_reducible refine ZO ?_
 first|refine Za (Zc ?_)|skip
 refine Za (Za6 ht.typeIs 'c' ?_)
 refine Za (ZN (name:=Str.ofString "__getitem__") ht.typeIs ZB
  (ZP ZB ht.typeIs Zbk ?_ (Zbu _ _)))
 show wpAny _ _ (Builtin.Tuple.tupleItemsOf (.ref t) >>= _) _ _ s;refine Za (Zb7 ht ?_);refine Za (Zbv hTs ?_);rw[if_pos 'c'];refine Za (kY hs pl pu ?_)
 have hno:¬ ((((wY items.size 0 lo:Nat):Int)==0&&(1:Int)==1&&(wY items.size items.size hi-wY items.size 0 lo)==items.size)=true):=by
  intro q;rw[Zm,Zm] at q;have q1:((wY items.size 0 lo:Nat):Int)=0:=eq_of_beq q.1.1;have q2:wY items.size items.size hi-wY items.size 0 lo=items.size:=eq_of_beq q.2;exact hw ⟨by omega,by omega⟩
 show wpAny _ _ (if(((wY items.size 0 lo:Nat):Int)==0&&(1:Int)==1&&(wY items.size items.size hi-wY items.size 0 lo)==items.size)=true then _ else _) _ _ s;rw[if_neg hno,zev]
 first
  |exact Za (m:=Builtin.Tuple.tupleExact _) (Z5 (Zc ⟨_,rfl,Zc h⟩) htake)
  |exact Za (m:=Builtin.Tuple.tupleExact _) (Z5 (Za (Zc (Zc ⟨_,rfl,Zc h⟩))) htake)
  |exact Za (Za (m:=Builtin.Tuple.tupleExact _) (Z5 (Zc (Zc ⟨_,rfl,Zc h⟩)) htake))
  |exact Za (Za (m:=Builtin.Tuple.tupleExact _) (Z5 (Zc ⟨_,rfl,Zc h⟩) htake))
end
end HT
namespace L2
open PySem PySem.Spec PyProof.Rows
noncomputable abbrev TO:=St->Hp->(Option Int->Hp->Prop)->Prop
noncomputable def PO (X:Cx) (e:Option Expr) (t:TO):Prop :=
 ∀ (pins:PL) (s:Shared) (σ:St) (H:Hp) (Q:Option Int->Hp->Prop),Inv X pins σ H s->t σ H Q ->
  wpAny 'b' X.A (evalPart e X.env) (λu s'=>∃ o H',Inv X pins σ H' s'/\IsPart u o/\Q o H') X.xe s
noncomputable def zgy:TO:=λ_ H Q=>Q none H
noncomputable def tPart (t:TE):TO:=λσ H Q=>t σ H λx H1=>∃ i,x=.int i/\Q (some i) H1
section
variable {X:Cx} {e:Expr} {te:TE} {lo hi:Option Expr} {tl th:TO} {pos p2:Pos}
theorem zgS:PO X none zgy:=by
 intro pins s σ H Q I h;rw[Zb3];exact Zc ⟨none,H,I,.none,h⟩
theorem zgR (h:PE X e te):PO X (some e) (tPart te):=by
 intro pins s σ H Q I hw;rw[evalPart_some];refine thn (h pins s σ H _ I hw) λu s1 ⟨x,H1,I1,r1,q1⟩=>?_;obtain⟨i,rfl,q⟩:=q1;obtain⟨t,rfl⟩:=r1;exact⟨some i,H1,I1,.int i t,q⟩
noncomputable def SlR (X:Cx) (r:V->Option Int->Option Int->Hp->VK->Prop):Prop :=
 ∀ (pins:PL) (s:Shared) (σ:St) (H:Hp) (x:V) (v vl vu:Value) (lo hi:Option Int) (sl:Addr) (Q:VK),Inv X pins σ H s->yV x v->s.heap.IsSliceOf sl vl vu .none->IsPart vl lo->IsPart vu hi->r x lo hi H Q ->
  ∃ T id,typeLookup (.type T) "__getitem__" = pure (some (.builtin id))/\s.TypeIs v T/\wpAny 'b' X.A (getItem v (.ref sl)) (EP X pins σ Q) X.xe s
noncomputable def tSl (r:V->Option Int->Option Int->Hp->VK->Prop) (te:TE) (tl th:TO):TE:=λσ H Q=>te σ H λx H1=>tl σ H1 λl H2=>th σ H2 λu H3=>r x l u H3 Q
theorem zex {r:V->Option Int->Option Int->Hp->VK->Prop} (hr:SlR X r) (he:PE X e te) (hl:PO X lo tl) (hu:PO X hi th):PE X (.Subscript e (.Slice lo hi none p2) pos) (tSl r te tl th):=by
 intro pins s σ H Q I h;refine Subscript_ (thn (he pins s σ H _ I h) λv s1 ⟨x,H1,I1,r1,q1⟩=>?_);refine wpAny_Slice (thn (hl pins s1 σ H1 _ I1 q1) λvl s2 ⟨l,H2,I2,pl,q2⟩=>thn (hu pins s2 σ H2 _ I2 q2) λvu s3 ⟨u,H3,I3,pu,q3⟩=>?_);rw[Zb3];refine Zc ?_;have I4:Inv X pins σ H3 {s3 with heap:=s3.heap.push { cls:=.type "slice", data:=.fields #[vl,vu,.none]}}:=I3.kept (t':=s3.toks) λb ob q=>Zb _ q;obtain⟨T,id,hT,ht,hg⟩:=hr pins {s3 with heap:=s3.heap.push { cls:=.type "slice", data:=.fields #[vl,vu,.none]}} σ H3 x v vl vu l u s3.heap.objs.size Q I4 r1 (Heap.IsSliceOf.new ..) pl pu q3;show wpAny 'b' X.A (subscriptTail e (.Slice lo hi none p2) v (.ref s3.heap.objs.size)) (EP X pins σ Q) X.xe {s3 with heap:=s3.heap.push { cls:=.type "slice", data:=.fields #[vl,vu,.none]}};exact Zb6 (ops:=[.ref s3.heap.objs.size,v]) ht hT hg (by with_unfolding_all rfl)
noncomputable def cutV (xs:List V) (lo hi:Option Int):List V:=(xs.drop (HT.wY xs.length 0 lo)).take (HT.wY xs.length xs.length hi-HT.wY xs.length 0 lo)
theorem rK (xs:List V) (lo hi:Option Int):(cutV xs lo hi).length<=xs.length:=by
 unfold cutV;rw[Z0,Zbd];omega
noncomputable def rSlT (K:PySem.W.Frag):V->Option Int->Option Int->Hp->VK->Prop:=λx lo hi H Q=>∃ a xs,x=.ref a/\sP K H a xs /\
 ¬ (HT.wY xs.length 0 lo=0/\HT.wY xs.length xs.length hi=xs.length)/\∀ p,H p=none->Q (.ref p) (yG H p (.tup (cutV xs lo hi)))
theorem ziJ:SlR X (rSlT X.K):=by
 intro pins s σ H x v vl vu lo hi sl Q I rx hs pl pu h;obtain⟨a,xs,rfl,hx,hw,q⟩:=h;cases rx;obtain⟨its,r,ht,hz⟩:=I.tuple hx;have hlen:its.toArray.size=xs.length:=by rw[zzS];exact r.length.symm
 refine⟨"tuple", _,ZB.lookup,ht.typeIs,?_⟩;refine HT.sX ht hs pl pu (by rw[hlen];exact hw) ?_ (by rw[hlen];exact hz);rw[hlen];refine⟨.ref s.heap.objs.size,_,I.laid (t':=s.toks) (o:=.tup (cutV xs lo hi)) (λb ob q=>Zb _ q) (zzR _) ?_,rfl,q _ (I.hok.fresh (zzR _))⟩;exact⟨Ze (rK xs lo hi) hz,_,(r.drop (HT.wY xs.length 0 lo)).take (HT.wY xs.length xs.length hi-HT.wY xs.length 0 lo),IsTup.new _ _⟩
noncomputable def rCatT (K:PySem.W.Frag):R2:=λx y H Q=>∃ a b xs ys,x=.ref a/\y=.ref b/\sP K H a xs/\sP K H b ys/\xs≠[]/\xs.length+ys.length<=sizeLine /\
 (ys=[]->Q (.ref a) H)/\(ys≠[]->∀ p,H p=none->Q (.ref p) (yG H p (.tup (xs++ys))))
theorem yW.nil_iff {xs:List V} {us:List Value} (r:yW xs us):us=[]↔xs=[]:=by
 cases r with
 |nil=>simp
 |cons _ _=>simp
theorem zg3:tT X (binaryOp .Add) (rCatT X.K):=by
 intro pins s σ H x y v u Q I rx ry h;obtain⟨a,b,xs,ys,rfl,rfl,ha,hb,hx,hz,q1,q2⟩:=h;cases rx;cases ry;obtain⟨its,r1,p1,_⟩:=I.tuple ha;obtain⟨its2,r2,p2,_⟩:=I.tuple hb;refine HT.zh1 p1 p2 (λz=>hx (r1.nil_iff.mp z)) (λz=>⟨.ref a,H,I,rfl,q1 (r2.nil_iff.mp z)⟩) (λz=>?_) (by rw[← r1.length,← r2.length];exact hz);refine⟨.ref s.heap.objs.size,_,I.laid (t':=s.toks) (o:=.tup (xs++ys)) (λb ob q=>Zb _ q) (zzR _) ?_,rfl,q2 (λw=>z (r2.nil_iff.mpr w)) _ (I.hok.fresh (zzR _))⟩;exact⟨by rw[zzW];exact hz,_,r1.append r2,IsTup.new _ _⟩
end
end L2
namespace L2
open PySem PySem.Spec PyProof.Rows
noncomputable def ixN (n:Nat) (i:Int):Option Nat:=if 0<=i then(if i<n then some i.toNat else none) else if -(n:Int)<=i then some (i+n).toNat else none
noncomputable def tU {α:Type} (xs:List α) (i:Int):Option α:=(ixN xs.length i).bind λj=>xs[j]?
theorem zc9 {n:Nat} {i:Int} {j:Nat} (h:ixN n i=some j):seqIndex? i n=some j/\j<n/\-(n:Int)<=i/\i<n:=by
 unfold ixN at h
 by_cases h0:0<=i
 .rw[if_pos h0] at h
  by_cases h1:i<n
  .rw[if_pos h1] at h;have e:i.toNat=j:=ZE h;exact⟨by rw[seqIndex_of h0 h1,e],by omega,by omega,h1⟩
  .rw[if_neg h1] at h;cases h
 .rw[if_neg h0] at h
  by_cases h1:-(n:Int)<=i
  .rw[if_pos h1] at h;have e:(i+n).toNat=j:=ZE h;exact⟨by rw[seqIndex_neg 'f' h1,e],by omega,h1,by omega⟩
  .rw[if_neg h1] at h;cases h
theorem zaG {α:Type} {xs:List α} {i:Int} {v:α} (h:tU xs i=some v):∃ j,seqIndex? i xs.length=some j/\xs[j]?=some v/\j<xs.length/\-(xs.length:Int)<=i/\i<xs.length:=by
 unfold tU at h
 cases e:ixN xs.length i with
 |none=>rw[e] at h;cases h
 |some j =>
  rw[e] at h;obtain⟨h1,h2,h3,h4⟩:=zc9 e;exact⟨j,h1,h,h2,h3,h4⟩
noncomputable def zdV (b:Expr):Prop:=∀ o i,subscripted b false o i=operate [o,i] (getItem o i)
noncomputable def IxR (X:Cx) (r:R2):Prop :=
 ∀ (value slice:Expr) (pins:PL) (s:Shared) (σ:St) (H:Hp) (x y:V) (v u:Value) (Q:VK),Inv X pins σ H s->yV x v->yV y u->r x y H Q ->
  subscripted slice false v u=operate [v,u] (getItem v u)->wpAny 'b' X.A (subscriptTail value slice v u) (EP X pins σ Q) X.xe s
noncomputable def MtR (X:Cx) (id:String) (r:V->List V->Hp->VK->Prop):Prop :=
 ∀ (pins:PL) (s:Shared) (σ:St) (H:Hp) (x:V) (xs:List V) (v:Value) (us:List Value) (Q:VK),Inv X pins σ H s->yV x v->yW xs us->r x xs H Q ->
  wpAny 'b' X.A (call (.builtin id) (v::us)) (EP X pins σ Q) X.xe s
section
variable {X:Cx} {a b:Expr} {ta tb:TE} {pos:Pos}
theorem pe_ix {r:R2} (hr:IxR X r) (ha:PE X a ta) (hb:PE X b tb) (hs:zdV b):PE X (.Subscript a b pos) (tOp r ta tb):=by
 intro pins s σ H Q I h;exact Subscript_ (binT ha hb I h λv u s2 x y H2 I2 rx ry q=>hr a b pins s2 σ H2 x y v u Q I2 rx ry q (hs _ _))
noncomputable def rIxL (K:PySem.W.Frag):R2:=λx y H Q=>∃ p xs i v,x=.ref p/\y=.int i/\sL K H p xs/\tU xs i=some v/\Q v H
noncomputable def rIxT (K:PySem.W.Frag):R2:=λx y H Q=>∃ p xs i v,x=.ref p/\y=.int i/\sP K H p xs/\tU xs i=some v/\Q v H
noncomputable def rIxS:R2:=λx y H Q=>∃ z i c,x=.str z/\y=.int i/\z.length<=sizeLine/\tU z.cps.toList i=some c/\Q (.str ⟨#[c]⟩) H
theorem zhh:IxR X (rIxL X.K):=by
 intro value slice pins s σ H x y v u Q I rx ry h hs;obtain⟨p,xs,i,z,rfl,rfl,hq,he,q⟩:=h;cases rx;obtain⟨t,rfl⟩:=ry;obtain⟨its,r,pl,hz⟩:=I.list hq;obtain⟨j,h1,h2,h3,h4,h5⟩:=zaG he;obtain⟨w,ew,rw'⟩:=r.get h2;have hl:=r.length;have hn:=tW;have fin:EP X pins σ Q w s:=⟨z,H,I,rw',q⟩
 by_cases h0:0<=i
 .have hj:i.toNat=j:=by
   rw[seqIndex_of h0 h5] at h1;exact ZE h1
  exact item_listR pl.isList h0 'f' (by rw[hj];simpa using ew) fin hs
 .have hj:(i+(its.toArray.size:Int)).toNat=j:=by
   rw[seqIndex_neg 'f' h4] at h1;rw[zzS,← hl];exact ZE h1
  exact subscriptTail_builtinR (x:=w) pl.isList.typeIs slot_list_getitem.lookup
   (wpAny_getItem_list_neg (Q:=λr s'=>r=w/\EP X pins σ Q r s') pl.isList 'f' (by rw[zzS]<;>omega) 'f' (by rw[hj];simpa using ew) ⟨rfl,fin⟩) hs
theorem zjP:IxR X (rIxT X.K):=by
 intro value slice pins s σ H x y v u Q I rx ry h hs;obtain⟨p,xs,i,z,rfl,rfl,hq,he,q⟩:=h;cases rx;obtain⟨t,rfl⟩:=ry;obtain⟨its,r,pl,hz⟩:=I.tuple hq;obtain⟨j,h1,h2,h3,h4,h5⟩:=zaG he;obtain⟨w,ew,rw'⟩:=r.get h2;have hl:=r.length;have hn:=tW;have fin:EP X pins σ Q w s:=⟨z,H,I,rw',q⟩
 exact subscriptTail_builtinR (x:=w) pl.typeIs slot_tuple_getitem.lookup
  (getItem_tuple (j:=j) (Q:=λr s'=>r=w/\EP X pins σ Q r s') pl 'f' 'f' (by rw[zzS,← hl];exact h1) (by simpa using ew) ⟨rfl,fin⟩) hs
theorem zjQ:IxR X rIxS:=by
 intro value slice pins s σ H x y v u Q I rx ry h hs;obtain⟨z,i,c,rfl,rfl,hz,he,q⟩:=h;obtain⟨t,rfl⟩:=rx;obtain⟨t',rfl⟩:=ry;obtain⟨j,h1,h2,h3,h4,h5⟩:=zaG he;have hl:z.cps.toList.length=z.length:=by simp[Str.length]
 rw[hl] at h1 h4 h5;have hn:=tW
 exact Zb6 (typeIs_str s z t) slot_str_getitem.lookup (getItem_str (c:=c) (by
  have e1:decide (i < -(2 ^ 63:Int))=false:=decide_eq_false 'f';have e2:decide (i>=2 ^ 63)=false:=decide_eq_false 'f';rw[e1,e2,Bool.or_false]) (by rw[h1];simpa using h2) ⟨.str ⟨#[c]⟩,H,I.tok _,⟨_,rfl⟩,q⟩) hs
theorem zbE (its:List Value) (n j:Nat) (u:Value):Obj.mapSeq (·.setIfInBounds j u) { cls:=.type "list", data:=.seq its.toArray n}={ cls:=.type "list", data:=.seq (its.set j u).toArray n}:=by
 simp[Obj.mapSeq]
theorem Inv.lst {pins:PL} {σ:St} {H:Hp} {s:Shared} {p:Addr} {xs:List V} (I:Inv X pins σ H s) (h:H p=some (.lst xs)) :
  ∃ (its:List Value) (n:Nat),yW xs its/\s.heap.get? p=some { cls:=.type "list", data:=.seq its.toArray n}/\xs.length<=sizeLine:=by
 obtain⟨z,its,n,r,e⟩:=I.hok p _ h;exact⟨its,n,r,e,z⟩
theorem Inv.lstUpd {pins:PL} {σ:St} {H:Hp} {s:Shared} {p:Addr} {xs ys:List V} {its its':List Value} {n n':Nat} {f:Obj->Obj} (I:Inv X pins σ H s) (h:H p=some (.lst xs))
  (ho:s.heap.get? p=some { cls:=.type "list", data:=.seq its.toArray n}) (hf:f { cls:=.type "list", data:=.seq its.toArray n}={ cls:=.type "list", data:=.seq its'.toArray n'}) (r:yW ys its') (hz:ys.length<=sizeLine) (t:Nat) (ht:0<t:=by bv_omega) :
  Inv X pins σ (yG H p (.lst ys)) {s with heap:=s.heap.update p f,toks:=t}:=by
 have e:(s.heap.update p f).get? p=some { cls:=.type "list", data:=.seq its'.toArray n'}:=by
  rw[Zx f ho (by rw[hf]<;>rfl),hf]
 refine I.write (x:=p) (e:=p) (by rw[h];trivial) (.inl rfl) (λb u hb q=>(Zu _ _ (Ne.symm hb)).trans q) ⟨_,e⟩ ?_;exact⟨hz,its',n',r,e⟩
noncomputable def rSetL:V->V->V->Hp->(Hp->Prop)->Prop:=λo i v H Q=>∃ p xs k j,o=.ref p/\i=.int k/\H p=some (.lst xs)/\ixN xs.length k=some j/\Q (yG H p (.lst (xs.set j v)))
theorem zed:PSet X rSetL:=by
 intro pins s σ H o i v ov iv u Q I ro ri rv h;obtain⟨p,xs,k,j,rfl,rfl,hp,hj,q⟩:=h;cases ro;obtain⟨t,rfl⟩:=ri;obtain⟨its,n,r,ho,hz⟩:=I.lst hp;obtain⟨h1,h2,h3,h4⟩:=zc9 hj;have hl:=r.length;have hn:=tW
 have I':Inv X pins σ (yG H p (.lst (xs.set j v))) {s with heap:=s.heap.update p (Obj.mapSeq (·.setIfInBounds j u))} :=
  I.lstUpd hp ho (zbE its n j u) (r.set rv j) (by rw[Zbh];exact hz) s.toks
 by_cases h0:0<=k
 .have hk:k.toNat=j:=by
   rw[seqIndex_of h0 h4] at h1;exact ZE h1
  exact PySem.W.ki_setAt ho h0 'f' (by rw[zzS,← hl];exact h4) (by rw[hk];exact⟨_,I',q⟩)
 .have hk:(k+(its.toArray.size:Int)).toNat=j:=by
   rw[seqIndex_neg 'f' h3] at h1;rw[zzS,← hl];exact ZE h1
  exact PySem.W.ki_setBack ho 'f' (by rw[zzS,← hl];exact h3) 'f' (by rw[hk];exact⟨_,I',q⟩)
theorem cD (lo hi:Option Int) (n:Nat):(sliceBounds lo hi none n).1=((HT.wY n 0 lo:Nat):Int)/\(sliceBounds lo hi none n).2.1=((HT.wY n n hi:Nat):Int)/\(sliceBounds lo hi none n).2.2=1:=by
 refine⟨?_,?_,rfl⟩
 .cases lo with
  |none=>simp[sliceBounds,HT.wY]
  |some i =>
   simp only[sliceBounds,HT.wY,Option.getD_none,show(1:Int) > 0 by decide,if_true]
   by_cases h:i<0
   .simp only[h,if_true]<;>omega
   .simp only[h,if_false]<;>omega
 .cases hi with
  |none=>simp[sliceBounds,HT.wY]
  |some i =>
   simp only[sliceBounds,HT.wY,Option.getD_none,show(1:Int) > 0 by decide,if_true]
   by_cases h:i<0
   .simp only[h,if_true]<;>omega
   .simp only[h,if_false]<;>omega
theorem gM (its:List Value) (lo hi:Option Int):slicePick its.toArray lo hi none=((its.drop (HT.wY its.length 0 lo)).take (HT.wY its.length its.length hi-HT.wY its.length 0 lo)).toArray:=by
 obtain⟨h1,h2,h3⟩:=cD lo hi its.toArray.size;unfold slicePick;rw[h1,h2,h3];simp only[sliceRange_one,pick_run,zzS]<;>rfl
noncomputable def rSlL (K:PySem.W.Frag):V->Option Int->Option Int->Hp->VK->Prop:=λx lo hi H Q=>∃ a xs,x=.ref a/\sL K H a xs/\∀ p,H p=none->Q (.ref p) (yG H p (.lst (cutV xs lo hi)))
theorem zck:SlR X (rSlL X.K):=by
 intro pins s σ H x v vl vu lo hi sl Q I rx hs pl pu h;obtain⟨a,xs,rfl,hx,q⟩:=h;cases rx;obtain⟨its,r,ht,hz⟩:=I.list hx;have hlen:=r.length;refine⟨"list", _,slot_list_getitem.lookup,ht.isList.typeIs,?_⟩;refine wpAny_getItem_list_slice ht.isList hs pl pu .none 'g' ?_ (by rw[zzS]<;>omega);rw[gM,← hlen];refine⟨.ref s.heap.objs.size,_,I.laid (t':=s.toks) (o:=.lst (cutV xs lo hi)) (λb ob q=>Zb _ q) (zzR _) ?_,rfl,q _ (I.hok.fresh (zzR _))⟩;exact⟨Ze (rK xs lo hi) hz,_,0,(r.drop (HT.wY xs.length 0 lo)).take (HT.wY xs.length xs.length hi-HT.wY xs.length 0 lo),Zl _ rfl⟩
theorem vZ:wW X (.builtin "len") (λxs H Q=>∃ p ys,xs=[.ref p]/\(sL X.K H p ys\/sP X.K H p ys)/\Q (.int ys.length) H):=by
 intro pins s σ H xs us Q I r h;obtain⟨p,ys,rfl,hq,q⟩:=h;obtain⟨u,rfl,rx⟩:=jX r;cases rx;have hn:=tW;rcases hq with hq|hq
 .obtain ⟨its,r',pl,hz⟩:=I.list hq;have hlen:=r'.length;exact Calls.call_len_list pl.isList (by simp only[zzS]<;>omega) ⟨.int ys.length,H,I.tok _,⟨s.toks+1,by rw[zzS,hlen]⟩,q⟩
 .obtain ⟨its,r',pl,hz⟩:=I.tuple hq;have hlen:=r'.length;exact len_tuple pl (by simp only[zzS]<;>omega) ⟨.int ys.length,H,I.tok _,⟨s.toks+1,by rw[zzS,hlen]⟩,q⟩
theorem zad:wW X (.builtin "len") (λxs H Q=>∃ z,xs=[.str z]/\z.length<=sizeLine/\Q (.int z.length) H):=by
 intro pins s σ H xs us Q I r h;obtain⟨z,rfl,hz,q⟩:=h;obtain⟨u,rfl,t,rfl⟩:=jX r;have hn:=tW;exact len_str 'f' ⟨.int z.length,H,I.tok _,⟨_,rfl⟩,q⟩
theorem zac:wW X (.type "list") (λxs H Q=>∃ p ys,xs=[.ref p]/\(sL X.K H p ys\/sP X.K H p ys)/\∀ l,H l=none->Q (.ref l) (yG H l (.lst ys))):=by
 intro pins s σ H xs us Q I r h;obtain⟨p,ys,rfl,hq,q⟩:=h;obtain⟨u,rfl,rx⟩:=jX r;cases rx
 have fin:∀ (its:List Value),yW ys its->ys.length<=sizeLine->∀ (h':Heap) (c':Nat),(∀ b o',s.heap.get? b=some o'->h'.get? b=some o') ->
   h'.get? s.heap.objs.size=some { cls:=.type "list", dict:=none,data:=.seq its.toArray c',slots:=#[]}->EP X pins σ Q (.ref s.heap.objs.size) {s with heap:=h'}:=λits r' hz h' c' kp e =>
  ⟨.ref s.heap.objs.size,_,I.laid (t':=s.toks) kp (zzR _) (show xK X.prog X.w _ h' _ (.lst ys) from⟨hz,its,c',r',e⟩),rfl,q _ (I.hok.fresh (zzR _))⟩
 rcases hq with hq|hq
 .obtain ⟨its,r',pl,hz⟩:=I.list hq;have hlen:=r'.length;obtain⟨o,ho,hc,n,hd⟩:=pl.isList;exact call_list_seq p (.inl rfl) ho hc hd (λh' c' kp e=>fin its r' hz h' c' kp e) (by simp only[zzS]<;>omega)
 .obtain ⟨its,r',pl,hz⟩:=I.tuple hq;have hlen:=r'.length;obtain⟨o,ho,hc,n,hd⟩:=pl;exact call_list_seq p (.inr rfl) ho hc hd (λh' c' kp e=>fin its r' hz h' c' kp e) (by simp only[zzS]<;>omega)
theorem gB:wW X (.type "tuple") (λxs H Q=>∃ p ys,xs=[.ref p]/\((sL X.K H p ys/\∀ l,H l=none->Q (.ref l) (yG H l (.tup ys)))\/(sP X.K H p ys/\Q (.ref p) H))):=by
 intro pins s σ H xs us Q I r h;obtain⟨p,ys,rfl,h⟩:=h;obtain⟨u,rfl,rx⟩:=jX r;cases rx;rcases h with⟨hq,q⟩|⟨hq,q⟩
 .obtain ⟨its,r',pl,hz⟩:=I.list hq;have hlen:=r'.length;refine call_tuple_list pl.isList (λh' kp=>?_) (by simp only[zzS]<;>omega);have I1:Inv X pins σ H {s with heap:=h'}:=I.kept (t':=s.toks) kp
  have I2:Inv X pins σ (yG H h'.objs.size (.tup ys)) {s with heap:=h'.push { cls:=.type "tuple", data:=.seq its.toArray}} :=
   I1.laid (t':=s.toks) (λb o e=>Zb _ e) (zzR _) (show xK X.prog X.w _ _ _ (.tup ys) from⟨hz,its,r',IsTup.new _ _⟩)
  exact⟨.ref h'.objs.size,_,I2,rfl,q _ (I1.hok.fresh (zzR _))⟩
 .obtain ⟨its,r',pl,hz⟩:=I.tuple hq;exact call_tuple_same pl ⟨.ref p,H,I,rfl,q⟩
noncomputable def tyV (K:PySem.W.Frag) (T:String) (x:V) (H:Hp):Prop:=match x with
 | .str _=>T = "str"
 | .int _=>T = "int"
 | .ref p=>(T = "list" /\ ∃ xs,sL K H p xs)\/(T = "tuple" /\ ∃ o,K.lookup p=some o/\o.cls=.type "tuple" /\ o.dict=none) \/
   (T = "dict" /\ ((∃ kvs,H p=some (.dK kvs))\/∃ kvs,H p=some (.dT kvs)))\/(T = "set" /\ ∃ S n,H p=some (.set S n))
 |_=>False
theorem zfz {pins:PL} {σ:St} {H:Hp} {s:Shared} {T:String} {x:V} {v:Value} (I:Inv X pins σ H s) (r:yV x v) (ty:tyV X.K T x H) :
  s.TypeIs v T/\∀ a,v=.ref a->∃ ob,s.heap.get? a=some ob/\ob.dict=none:=by
 cases x with
 |str z =>
  obtain⟨t,rfl⟩:=r;cases(show T = "str" from ty);exact⟨typeIs_str s z t,λ_ e=>nomatch e⟩
 |int i =>
  obtain⟨t,rfl⟩:=r;cases(show T = "int" from ty);exact⟨typeIs_int s i t,λ_ e=>nomatch e⟩
 |ref p =>
  cases r;rcases ty with⟨rfl,xs,hq⟩|⟨rfl,o,hk,hc,hd⟩|⟨rfl,hk⟩|⟨rfl,S,n,hk⟩
  .obtain ⟨its,_,pl,_⟩:=I.list hq;refine⟨pl.isList.typeIs,λa e=>?_⟩;cases e;obtain⟨o,n,e,c,hd,_⟩:=pl;exact⟨o,e,hd⟩
  .refine ⟨⟨o,I.kIn p o hk,hc⟩,λa e=>?_⟩;cases e;exact⟨o,I.kIn _ o hk,hd⟩
  .have z:∃ o,s.heap.get? p=some o/\o.ExactDict:=by
    rcases hk with⟨kvs,hk⟩|⟨kvs,hk⟩
    .obtain ⟨_,_,_,_,o,_,_,e,ex,_⟩:=I.hok p _ hk;exact⟨o,e,ex⟩
    .obtain ⟨_,_,_,_,o,_,_,e,ex,_⟩:=I.hok p _ hk;exact⟨o,e,ex⟩
   obtain⟨o,e,ex⟩:=z;refine⟨⟨o,e,ex.1⟩,λa e2=>?_⟩;cases e2;exact⟨o,e,ex.2.1⟩
  .obtain ⟨o,_,_,_,e,ex,_⟩:=I.hok p _ hk;refine⟨⟨o,e,ex.1⟩,λa e2=>?_⟩;cases e2;exact⟨o,e,ex.2.1⟩
 |_=>exact False.elim ty
noncomputable def tBM0 (K:PySem.W.Frag) (T:String) (r:V->List V->Hp->VK->Prop) (to:TE):TE:=λσ H Q=>to σ H λx H1=>tyV K T x H1/\r x [] H1 Q
noncomputable def tBM (K:PySem.W.Frag) (T:String) (r:V->List V->Hp->VK->Prop) (to:TE) (t:TA):TE:=λσ H Q=>to σ H λx H1=>tyV K T x H1/\t σ H1 λxs H2=>r x xs H2 Q
variable {o e:Expr} {es:List Expr} {to:TE} {t:TA} {name:Str} {apos cpos:Pos} {T id:String} {r:V->List V->Hp->VK->Prop}
theorem zjj (pa:PlainAttrs T) (slot:Slot T name id) (hty:typeOf (.builtin id)=pure (.type "method_descriptor")) (hm:MtR X id r) (ho:PE X o to)
  (hbase:attributeBase o name X.env (eval o X.env)=eval o X.env:=by rfl) (hline:(apos.endLine==cpos.line)=true:=by rfl):PE X (.Call (.Attribute o name apos) [] [] cpos) (tBM0 X.K T r to):=by
 intro pins s σ H Q I h;refine wpAny_Call_method0_late hbase hline (thn (ho pins s σ H _ I h) λv s1 ⟨x,H1,I1,r1,ty,q1⟩=>?_);obtain⟨h1,h2⟩:=zfz I1 r1 ty;exact⟨T,id,pa,slot,hty,h1,h2,Za0 rfl (PySem.evalArgs_none (hm pins s1 σ H1 x [] v [] Q I1 r1 .nil q1))⟩
theorem pe_bm (pa:PlainAttrs T) (slot:Slot T name id) (hty:typeOf (.builtin id)=pure (.type "method_descriptor")) (hm:MtR X id r) (ho:PE X o to) (ha:PA X (e::es) t)
  (hbase:attributeBase o name X.env (eval o X.env)=eval o X.env:=by rfl)
  (hfew:((backTo cpos (starEach (e::es) X.env)).all (λx=>!x.1)&&(backToKw cpos (keywordEach [] X.env)).all (λx=>x.1.isSome)
   && decide ((e::es).length+([]:List Keyword).length+(if([]:List Keyword).isEmpty then 0 else 1)<30))=true:=by rfl)
  (hline:(apos.endLine==cpos.line)=true:=by rfl) (hs:starEach (e::es) X.env=(false,eval e X.env)::starEach es X.env:=by rfl) (hplain:(backTo cpos (starEach es X.env)).any (·.1)=false:=by rfl) :
  PE X (.Call (.Attribute o name apos) (e::es) [] cpos) (tBM X.K T r to t):=by
 intro pins s σ H Q I h;refine wpAny_Call_method_late hbase hfew hline rfl (thn (ho pins s σ H _ I h) λv s1 ⟨x,H1,I1,r1,ty,q1⟩=>?_);obtain⟨h1,h2⟩:=zfz I1 r1 ty;refine⟨T,id,pa,slot,hty,h1,h2,?_⟩;have hA:=ha cpos pins s1 σ H1 _ I1 q1;rw[hs] at hA ⊢;refine Za0 (by show(false || (backTo cpos (starEach es X.env)).any (·.1))=false;rw[hplain]<;>rfl) (Calls.evalArgs_plain ?_);exact thn hA λus s2 ⟨vs,H2,I2,r2,q2⟩=>hm pins s2 σ H2 x vs v us Q I2 r1 r2 q2
/- xs.append(e),list.index on a module's tuple .. are MtR facts of 06m -/
end
end L2
namespace L2
open PySem PySem.Spec PyProof.Rows
noncomputable def MtM (X:Cx) (id:String) (r:V->List V->Hp->VK->Prop):Prop :=
 ∀ (pins:PL) (s:Shared) (σ:St) (H:Hp) (x:V) (xs:List V) (v:Value) (us:List Value) (Q:VK),Inv X pins σ H s->yV x v->yW xs us->r x xs H Q ->
  wpAny 'b' X.A (call (.builtin id) (v::us)) (EP X pins σ Q) X.xe s
theorem yW.one:∀ {x:V} {us:List Value},yW [x] us->∃ u,us=[u]/\yV x u
 |_,_,.cons r .nil=>⟨_,rfl,r⟩
theorem yW.zero:∀ {us:List Value},yW [] us->us=[]
 |_,.nil=>rfl
theorem yW.dropLast {xs:List V} {us:List Value} (h:yW xs us):yW xs.dropLast us.dropLast:=by
 induction h with
 |nil=>exact .nil
 |cons r t ih =>
  cases t with
  |nil=>exact .nil
  |cons q t'=>exact .cons r ih
theorem yW.reverse {xs:List V} {us:List Value} (h:yW xs us):yW xs.reverse us.reverse:=by
 induction h with
 |nil=>exact .nil
 |cons r t ih=>rw[Zat,Zat];exact yW.append ih (.cons r .nil)
theorem zbM {α:Type} (l:List α):l.eraseIdx (l.length-1)=l.dropLast:=by
 induction l with
 |nil=>rfl
 |cons a r ih =>
  cases r with
  |nil=>rfl
  |cons b r =>
   have e:(a::b::r).length-1=((b::r).length-1)+1:=by
    have h1:(a::b::r).length=r.length+2:=rfl;have h2:(b::r).length=r.length+1:=rfl;omega
   rw[e,List.eraseIdx_cons_succ,ih]
   all_goals rfl
section
variable {X:Cx} {pins:PL} {σ:St} {H:Hp} {s:Shared} {l b:Addr} {xs ys zs:List V}
theorem Inv.lset {its its':List Value} {n:Nat} {f:Array Value->Array Value} {t':Nat} (I:Inv X pins σ H s) (hH:H l=some (.lst xs))
  (e:s.heap.get? l=some { cls:=.type "list", data:=.seq its.toArray n}) (hf:f its.toArray=its'.toArray) (hv:yW ys its') (hz:ys.length<=sizeLine) (ht:0<t':=by bv_omega) :
  Inv X pins σ (yG H l (.lst ys)) {s with heap:=s.heap.update l (Obj.mapSeq f),toks:=t'}:=by
 have q:=PySem.IsL.update e f;rw[hf] at q;refine I.write (x:=l) (e:=l) (by rw[hH];exact trivial) (.inl rfl) (λb' u hb hu=>(Zu s.heap (Obj.mapSeq f) (Ne.symm hb)).trans hu) ⟨_,q⟩ ?_;exact⟨hz,its',_,hv,q⟩
theorem Inv.lnew {its:List Value} {t':Nat} (I:Inv X pins σ H s) (hv:yW ys its) (hz:ys.length<=sizeLine) (ht:0<t':=by bv_omega) :
  Inv X pins σ (yG H s.heap.objs.size (.lst ys)) {s with heap:=s.heap.push { cls:=.type "list", data:=.seq its.toArray},toks:=t'} :=
 I.laid (λ_ _ q=>Zb _ q) (zzR _) ⟨hz,its,0,hv,Zl _ rfl⟩
theorem Inv.fresh (I:Inv X pins σ H s):H s.heap.objs.size=none:=I.hok.fresh (zzR _)
theorem Inv.lstM (I:Inv X pins σ H s) (hH:H l=some (.lst xs)):xs.length<=sizeLine/\∃ (its:List Value) (n:Nat),yW xs its/\xs.length=its.length/\s.heap.get? l=some { cls:=.type "list", data:=.seq its.toArray n}:=by
 obtain⟨z,its,n,r,e⟩:=I.hok l _ hH;exact⟨z,its,n,r,r.length,e⟩
theorem za2 {n:Nat} (h:n<=sizeLine):Builtin.List.listTooLong n=false:=by
 unfold Builtin.List.listTooLong;exact decide_eq_false 'f'
end
section
variable {X:Cx}
noncomputable def zgI:V->List V->Hp->VK->Prop:=λx vs H Q=>∃ l xs y,x=.ref l/\vs=[y]/\H l=some (.lst xs)/\xs.length<sizeLine/\Q .non (yG H l (.lst (xs++[y])))
theorem zcN:MtM X "list.append" zgI:=by
 intro pins s σ H x vs v us Q I rx rv h;obtain⟨l,xs,y,rfl,rfl,hH,hz,q⟩:=h;cases rx;obtain⟨u,rfl,ru⟩:=rv.one;obtain⟨z,its,n,r,hl,e⟩:=I.lstM hH;refine Zb8 F.slot_list_append ⟨_,e,rfl⟩ F.entry_list_append (F.args_list_append_2 _ _) (PySem.list_append l its.toArray n u (by rw[zzS];omega)) ⟨e,?_⟩;refine⟨.non,_,I.lset (its':=its++[u]) hH e 'g' (r.append (.cons ru .nil)) ?_,rfl,q⟩;rw[zzW,List.length_singleton];omega
noncomputable def rPop:V->List V->Hp->VK->Prop:=λx vs H Q=>∃ l xs y,x=.ref l/\vs=[]/\H l=some (.lst xs)/\xs[xs.length-1]?=some y/\Q y (yG H l (.lst xs.dropLast))
theorem zjv:MtM X "list.pop" rPop:=by
 intro pins s σ H x vs v us Q I rx rv h;obtain⟨l,xs,y,rfl,rfl,hH,hy,q⟩:=h;cases rx;have hus:=rv.zero;subst hus;obtain⟨z,its,n,r,hl,e⟩:=I.lstM hH;obtain⟨u,hu,ru⟩:=r.get hy
 have hy':its.toArray[its.toArray.size-1]?=some u:=by
  show its.toArray[its.length-1]?=some u;rw[← Array.getElem?_toList,← hl];exact hu
 refine Zb8 F.slot_list_pop ⟨_,e,rfl⟩ F.entry_list_pop (F.args_list_pop_1 _) (MeetsSeq.list_pop_last l its.toArray n u hy' (by rw[zzS];omega)) ⟨e,?_⟩;refine⟨y,_,I.lset (its':=its.dropLast) hH e ?_ r.dropLast ?_,ru,q⟩
 .show its.toArray.eraseIdxIfInBounds (its.toArray.size-1)=its.dropLast.toArray;rw[zzS,List.eraseIdxIfInBounds_toArray,zbM]
 .rw[Zbf];omega
noncomputable def rCat:R2:=λx y H Q=>∃ l b xs zs,x=.ref l/\y=.ref b/\H l=some (.lst xs)/\H b=some (.lst zs)/\xs.length+zs.length<=sizeLine/\∀ p,H p=none->Q (.ref p) (yG H p (.lst (xs++zs)))
theorem zjp:tT X (binaryOp .Add) rCat:=by
 intro pins s σ H x y v u Q I rx ry h;obtain⟨l,b,xs,zs,rfl,rfl,hH,hB,hz,q⟩:=h;cases rx;cases ry;obtain⟨z,its,n,r,hl,e⟩:=I.lstM hH;obtain⟨z2,its2,n2,r2,hl2,e2⟩:=I.lstM hB;refine PySem.P.add_list e e2 ?_ (by rw[zzS,zzS];omega);have ea:its.toArray++its2.toArray=(its++its2).toArray:=by simp
 rw[ea];exact⟨.ref _,_,I.lnew (t':=s.toks) (r.append r2) (by rw[zzW];omega),rfl,q _ I.fresh⟩
end
section
variable {prog:Program} {w:World} {A:Around} {E:VP} {s:Shared}
set_option maxRecDepth 100000 in
end
section
variable {X:Cx}
end
end L2
namespace L2
open PySem PySem.Spec PyProof.Rows
section
variable {κ:Type} [DecidableEq κ]
noncomputable def rG (kvs:List (κ×V)) (k:κ):Option V:=(kvs.find? λkv=>decide (kv.1=k)).map (·.2)
noncomputable def vS (kvs:List (κ×V)) (k:κ) (v:V):List (κ×V) :=
 if(kvs.any λkv=>decide (kv.1=k))=true then kvs.map (λkv=>if kv.1=k then(kv.1,v) else kv) else kvs++[(k,v)]
theorem pJ {p:κ×V} {r:List (κ×V)} {k:κ} (e:p.1=k):rG (p::r) k=some p.2:=by simp[rG,Zaf,e]
theorem pI {p:κ×V} {r:List (κ×V)} {k:κ} (e:¬ p.1=k):rG (p::r) k=rG r k:=by simp[rG,Zaf,e]
theorem zaO (k:κ):∀ kvs:List (κ×V),(kvs.any λkv=>decide (kv.1=k))=(rG kvs k).isSome
 | []=>rfl
 |p::r=>by
  rw[ZaH]
  by_cases e:p.1=k
  .simp only[pJ e,decide_eq_true e,ZbS,Zan]
  .rw[pI e,decide_eq_false e,ZbI];exact zaO k r
theorem vB (kvs:List (κ×V)) (k:κ) (v:V):(vS kvs k v).length<=kvs.length+1:=by
 unfold vS
 split
 .rw[zzM];omega
 .rw[zzW,Zg,Zn];omega
theorem pZ.isSome_eq {o:Option V} {u:Option Value} (r:pZ o u):o.isSome=u.isSome:=by
 cases o with
 |none=>cases u with
  |none=>rfl
  |some _=>exact(show False from r).elim
 |some _=>cases u with
  |none=>exact(show False from r).elim
  |some _=>rfl
theorem KV.val {kvs:List (κ×V)} {vs:List (κ×Value)} (r:KV kvs vs) (k:κ):pZ (rG kvs k) (valueAt vs k):=by
 unfold KV at r
 induction r with
 |nil=>exact True.intro
 | @cons p q ps qs h t ih =>
  obtain⟨h1,h2⟩:=h
  by_cases e:p.1=k
  .have e':q.1=k:=h1.symm.trans e;have b:valueAt (q::qs) k=some q.2:=by simp[valueAt,Zaf,e']
   rw[pJ e,b];exact h2
  .have e':¬ q.1=k:=λz=>e (h1.trans z);have b:valueAt (q::qs) k=valueAt qs k:=by simp[valueAt,Zaf,e']
   rw[pI e,b];exact ih
theorem KV.any {kvs:List (κ×V)} {vs:List (κ×Value)} (r:KV kvs vs) (k:κ):(kvs.any λkv=>decide (kv.1=k))=vs.any λkv=>decide (kv.1=k):=by
 unfold KV at r
 induction r with
 |nil=>rfl
 |cons h t ih=>rw[ZaH,ZaH,ih,h.1]
theorem KV.repl {kvs:List (κ×V)} {vs:List (κ×Value)} (r:KV kvs vs) (k:κ) {y:V} {u:Value} (ry:yV y u) :
  KV (kvs.map λkv=>if kv.1=k then(kv.1,y) else kv) (vs.map λkv=>if kv.1=k then(kv.1,u) else kv):=by
 unfold KV at r ⊢
 induction r with
 |nil=>exact .nil
 | @cons p q ps qs h t ih =>
  rw[zzU,zzU];refine .cons ?_ ih;obtain⟨h1,h2⟩:=h
  by_cases e:p.1=k
  .rw[if_pos e,if_pos (h1.symm.trans e)];exact⟨h1,ry⟩
  .rw[if_neg e,if_neg (λz=>e (h1.trans z))];exact⟨h1,h2⟩
theorem KV.put {kvs:List (κ×V)} {vs:List (κ×Value)} (r:KV kvs vs) (k:κ) {y:V} {u:Value} (ry:yV y u):KV (vS kvs k y) (stored vs k u):=by
 unfold vS stored;rw[r.any k]
 by_cases e:(vs.any λkv=>decide (kv.1=k))=true
 .rw[if_pos e,if_pos e];exact r.repl k ry
 .rw[if_neg e,if_neg e];exact Paired.snoc r ⟨rfl,ry⟩
theorem KV.length {kvs:List (κ×V)} {vs:List (κ×Value)} (r:KV kvs vs):kvs.length=vs.length:=ZbK r
end
theorem zeT {P:Program} {w:World} {k:xM} {u:Value} (r:yV (kV k) u):(xN P w).is k u=true:=by
 cases k with
 |inl i=>obtain⟨t,e⟩:=(show ∃ t,u=Value.int i t from r);subst e;exact zap P w i t
 |inr x=>obtain⟨t,e⟩:=(show ∃ t,u=Value.str x t from r);subst e;exact zao P w x t
theorem dM {P:Program} {w:World}:∀ {ks:List xM} {us:List Value},yW (ks.map kV) us->ItemsAre (xN P w) ks us
 | [],_,r=>by rw[zzV] at r;cases r;exact .nil
 |k::ks,_,r=>by
  rw[zzU] at r
  cases r with
  |cons h t=>exact .cons (zeT h) (dM t)
noncomputable abbrev KT (H:Hp):List (List xM×V)->List (List xM×Addr×Value)->Prop:=Paired λp q=>p.1=q.1/\H q.2.1=some (.tup (p.1.map kV))/\yV p.2 q.2.2
theorem KT.val {H:Hp} {kvs:List (List xM×V)} {xs:List (List xM×Addr×Value)} (r:KT H kvs xs) (k:List xM):pZ (rG kvs k) ((atKey xs k).map (·.2)):=by
 induction r with
 |nil=>exact True.intro
 | @cons p q ps qs h t ih =>
  obtain⟨h1,_,h2⟩:=h
  by_cases e:p.1=k
  .have e':q.1=k:=h1.symm.trans e;have b:atKey (q::qs) k=some q.2:=by simp[atKey,Zaf,e']
   rw[pJ e,b];exact h2
  .have e':¬ q.1=k:=λz=>e (h1.trans z);have b:atKey (q::qs) k=atKey qs k:=by simp[atKey,Zaf,e']
   rw[pI e,b];exact ih
theorem KT.repl {H:Hp} {kvs:List (List xM×V)} {xs:List (List xM×Addr×Value)} (r:KT H kvs xs) (k:List xM) {y:V} {u:Value} (ry:yV y u) :
  KT H (kvs.map λkv=>if kv.1=k then(kv.1,y) else kv) (xs.map (putAt k u)):=by
 induction r with
 |nil=>exact .nil
 | @cons p q ps qs h t ih =>
  rw[zzU,zzU];refine .cons ?_ ih;obtain⟨h1,h2,h3⟩:=h;unfold putAt
  by_cases e:p.1=k
  .rw[if_pos e,if_pos (h1.symm.trans e)];exact⟨h1,h2,ry⟩
  .rw[if_neg e,if_neg (λz=>e (h1.trans z))];exact⟨h1,h2,h3⟩
theorem KT.put {H:Hp} {kvs:List (List xM×V)} {xs:List (List xM×Addr×Value)} (r:KT H kvs xs) (k:List xM) {b:Addr} {y:V} {u:Value} (hb:H b=some (.tup (k.map kV))) (ry:yV y u) :
  KT H (vS kvs k y) (storedH xs k b u):=by
 have e:(kvs.any λkv=>decide (kv.1=k))=(atKey xs k).isSome:=by
  rw[zaO,(r.val k).isSome_eq,Option.isSome_map]
 unfold vS storedH;rw[e]
 by_cases q:(atKey xs k).isSome=true
 .rw[if_pos q,if_pos q];exact r.repl k ry
 .rw[if_neg q,if_neg q];exact Paired.snoc r ⟨rfl,hb,ry⟩
theorem KT.keeps {H H':Hp} {kvs:List (List xM×V)} {xs:List (List xM×Addr×Value)} (r:KT H kvs xs) (ht:∀ b ys,H b=some (.tup ys)->H' b=some (.tup ys)):KT H' kvs xs :=
 Paired.mapP r λ_ _ z=>⟨z.1,ht _ _ z.2.1,z.2.2⟩
section
variable {P:Program} {w:World} {H:Hp} {h:Heap} {a:Addr}
theorem ziW {u:HO} (ok:uW P w H h) (e:Rd H a u):xK P w H h a u:=e.ok ok
theorem zfn {kvs:List (xM×V)} (ok:uW P w H h) (e:Rd H a (.dK kvs)):kvs.length<=sizeLine/\(a==sysModules)=false/\∃ vs,KV kvs vs/\h.DictOf (xN P w) a vs :=
 show xK P w H h a (.dK kvs) from ziW ok e
theorem zky {kvs:List (xM×V)} (ok:uW P w H h) (e:H a=some (.dK kvs)):kvs.length<=sizeLine/\(a==sysModules)=false/\∃ vs,KV kvs vs/\h.DictOf (xN P w) a vs:=zfn ok (.inl e)
theorem zc6 {ks:List xM} (ok:uW P w H h) (e:H a=some (.tup (ks.map kV))):(tupleKind (xN P w)).is h ks a:=by
 obtain⟨_,its,r,o,h1,h2,n,h3⟩:=(show xK P w H h a (.tup (ks.map kV)) from ok a _ e);exact⟨o,its.toArray,n,h1,h2,h3,by simpa using dM r⟩
theorem zhV {kvs:List (List xM×V)} (ok:uW P w H h) (e:Rd H a (.dT kvs)):kvs.length<=sizeLine/\(a==sysModules)=false /\
  ∃ xs,KT H kvs xs/\h.DictOfH (tupleKind (xN P w)) a xs:=by
 obtain⟨z,y,xs,r,o,es,ep,h1,h2,h3,h4,h5⟩:=(show xK P w H h a (.dT kvs) from ziW ok e);refine⟨z,y,xs,r,o,es,ep,h1,h2,h3,h4,λx hx=>?_,h5⟩
 have all:∀ {l:List (List xM×V)} {m:List (List xM×Addr×Value)},KT H l m->∀ x∈m,(tupleKind (xN P w)).is h x.1 x.2.1:=by
  intro l m q
  induction q with
  |nil=>intro x hx;exact nomatch hx
  | @cons p q ps qs hq t ih =>
   intro x hx;rcases Zh.mp hx with e|hx
   .subst e;exact zc6 ok (by rw[← hq.1];exact hq.2.1)
   .exact ih x hx
 exact all r x hx
theorem dt_of {kvs:List (List xM×V)} (ok:uW P w H h) (e:H a=some (.dT kvs)):kvs.length<=sizeLine/\(a==sysModules)=false /\
  ∃ xs,KT H kvs xs/\h.DictOfH (tupleKind (xN P w)) a xs:=zhV ok (.inl e)
end
noncomputable def DGet (H:Hp) (a:Addr) (y:V) (r:Option V):Prop :=
 (∃ kvs k,Rd H a (.dK kvs)/\y=kV k/\r=rG kvs k)\/∃ kvs k b,Rd H a (.dT kvs)/\y=.ref b/\H b=some (.tup (k.map kV))/\r=rG kvs k
noncomputable def DPut (H:Hp) (a:Addr) (y v:V) (H':Hp):Prop :=
 (∃ kvs k,H a=some (.dK kvs)/\y=kV k/\kvs.length<sizeLine/\H'=yG H a (.dK (vS kvs k v))) \/
 ∃ kvs k b,H a=some (.dT kvs)/\y=.ref b/\H b=some (.tup (k.map kV))/\kvs.length<sizeLine/\H'=yG H a (.dT (vS kvs k v))
section
variable {X:Cx} {pins:PL} {σ:St} {H:Hp} {s:Shared} {a:Addr} {y v:V} {u r:Value} {o:Option V} {A:Around} {E:VP}
theorem Inv.big (I:Inv X pins σ H s):sysModules<s.heap.objs.size:=by
 have h:mainGlobals<s.heap.objs.size:=(I.mod.glob.keeps I.bk).lt;exact Nat.lt_trans 'c' h
theorem zdB {Q:VP} (hu:A.units+1<cLine) (I:Inv X pins σ H s) (g:DGet H a y (some v)) (ry:yV y u) (h:∀ w' s',Inv X pins σ H s'->yV v w'->Q w' s') :
  wpAny 'b' A (getItem (.ref a) u) Q E s:=by
 rcases g with⟨kvs,k,e,ey,l⟩|⟨kvs,k,b,e,ey,eb,l⟩
 .subst ey;obtain⟨z,hd,vs,rel,dd⟩:=zfn I.hok e;obtain⟨w',hw,rw'⟩:=pZ.some_of (v:=v) (o:=valueAt vs k) (by rw[l];exact rel.val k);exact wpAny_getItem_of (zeT ry) dd.mapOf hw (h w' _ (I.tok _) rw')
 .subst ey;cases(show u=Value.ref b from ry);obtain⟨z,hd,xs,rel,dd⟩:=zhV I.hok e;obtain⟨w',hw,rw'⟩:=pZ.some_of (v:=v) (o:=(atKey xs k).map (·.2)) (by rw[l];exact rel.val k);obtain⟨p,hp,hp2⟩:=ZK.mp hw;refine wpAny_getItem_heap (tupleKind_room_in1 hu) (zc6 I.hok eb) dd hp ?_;rw[hp2];exact h w' _ (I.tok _) rw'
theorem zaz {h':Heap} {t':Nat} {ob:HO} (I:Inv X pins σ H s) (mu:Mut (H a)) (hs:Heap.SameBut a s.heap h') (he:∃ q,h'.get? a=some q) (new:xK X.prog X.w (yG H a ob) h' a ob) (ht:0<t':=by bv_omega) :
  Inv X pins σ (yG H a ob) {s with heap:=h',toks:=t'} :=
 I.write (x:=a) (e:=a) mu (.inl rfl) (λb q hb z=>(hs.2 b hb).trans z) he new
theorem zf9 {P:Program} {w:World} {H':Hp} {h':Heap} {kvs:List (xM×V)} {vs:List (xM×Value)} (z:kvs.length<=sizeLine) (hd:(a==sysModules)=false) (rel:KV kvs vs) (dd:h'.DictOf (xN P w) a vs) :
  xK P w H' h' a (.dK kvs):=⟨z,hd,vs,rel,dd⟩
theorem zdA {H':Hp} {Q:Unit->Shared->Prop} (hu:A.units+1<cLine) (I:Inv X pins σ H s) (g:DPut H a y v H') (ry:yV y u) (rv:yV v r) (h:∀ s',Inv X pins σ H' s'->Q () s') :
  wpAny 'b' A (setItem (.ref a) u r) Q E s:=by
 rcases g with⟨kvs,k,e,ey,l,eH⟩|⟨kvs,k,b,e,ey,eb,l,eH⟩
 .subst ey eH;obtain⟨z,hd,vs,rel,dd⟩:=zky I.hok e;have hz:vs.length<=sizeLine:=by rw[← rel.length];exact z
  have hl:(vS kvs k v).length<=sizeLine:=by have:=vB kvs k v;omega
  refine wpAny_setItem_pairs (hsz:=hz) (zeT ry) dd λh' dd' hs=>h _ ?_;have he:∃ q,h'.get? a=some q:=let ⟨q,_,_,hq,_⟩:=dd';⟨q,hq⟩;exact zaz I (by rw[e];exact True.intro) hs he (zf9 hl hd (rel.put k rv) dd')
 .subst ey eH;cases(show u=Value.ref b from ry);obtain⟨z,hd,xs,rel,dd⟩:=dt_of I.hok e;have hz:xs.length<=sizeLine:=by rw[← ZbK rel];exact z
  have hl:(vS kvs k v).length<=sizeLine:=by have:=vB kvs k v;omega
  refine wpAny_setItem_heap (hsz:=hz) (tupleKind_room_in1 hu) (zc6 I.hok eb) dd λh' dd' hs=>h _ ?_;obtain⟨q,es,ep,hq,h2,h3,h4,_,h5⟩:=dd';refine zaz I (by rw[e];exact True.intro) hs ⟨q,hq⟩ ⟨hl,hd,_,(rel.put k eb rv).keeps λc ys ec=>?_,q,es,ep,hq,h2,h3,h4,h5⟩;rw[zA (ne_of ec e (λz=>nomatch z))];exact ec
end
section
variable {X:Cx} {pins:PL} {σ:St} {H:Hp} {s:Shared} {a:Addr} {kvs:List (xM×V)} {k:xM} {u:Value} {A:Around} {E:VP}
theorem d_len {Q:VP} (I:Inv X pins σ H s) (e:Rd H a (.dK kvs)) (h:∀ t s',Inv X pins σ H s'->Q (.int kvs.length t) s'):wpAny 'b' A (call (.builtin "len") [.ref a]) Q E s:=by
 obtain⟨z,hd,vs,rel,dd⟩:=zfn I.hok e;refine call_len_dict hd dd (by rw[← rel.length];rw[Z2] at z;omega) ?_;rw[← rel.length];exact h _ _ (I.tok _)
end
section
variable {X:Cx} {o i e value:Expr} {pos pos' tpos:Pos} {td ty tv:TE}
end
theorem zfo {P:Program} {w:World} {H:Hp} (h:Heap) (hb:sysModules<h.objs.size):xK P w H (h.push { cls:=.type "dict", data:=.dict #[]}) h.objs.size (.dK []) :=
 ⟨Zy _,beq_eq_false_iff_ne.mpr (Ne.symm (Zo hb)),[],.nil,Heap.DictOf.new h⟩
section
variable {X:Cx} {pos:Pos}
end
noncomputable def cK:List (TE×TE)->St->Hp->(List (V×V)->Hp->Prop)->Prop
 | [],_,H,Q=>Q [] H
 | (tk,tv)::r,σ,H,Q=>tk σ H λx H1=>tv σ H1 λy H2=>cK r σ H2 λps H3=>Q ((x,y)::ps) H3
noncomputable abbrev VV:List (V×V)->List (Value×Value)->Prop:=Paired λp q=>yV p.1 q.1/\yV p.2 q.2
noncomputable def PPs (X:Cx) (pos:Pos) (keys:List (Option Expr)) (values:List Expr) (trs:List (TE×TE)):Prop :=
 ∀ (pins:PL) (s:Shared) (σ:St) (H:Hp) (Q:List (V×V)->Hp->Prop),Inv X pins σ H s->cK trs σ H Q ->
  wpAny 'b' X.A (evalPairs (pairTrees keys values X.env pos)) (λvs s'=>∃ ps H',Inv X pins σ H' s'/\VV ps vs/\Q ps H') X.xe s
theorem zgQ {X:Cx} {pos:Pos}:PPs X pos [] [] []:=λpins s σ H Q I h=>pairTrees_nil_walk ⟨[],H,I,.nil,h⟩
theorem zes {X:Cx} {pos:Pos} {k v:Expr} {ks:List (Option Expr)} {vs:List Expr} {tk tv:TE} {trs:List (TE×TE)} (hk:PE X k tk) (hv:PE X v tv) (hr:PPs X pos ks vs trs) :
  PPs X pos (some k::ks) (v::vs) ((tk,tv)::trs):=λpins s σ H Q I h =>
 pairTrees_cons_walk (thn (hk pins s σ H _ I h) λu s1 ⟨x,H1,I1,rx,q1⟩=>thn (hv pins s1 σ H1 _ I1 q1) λw2 s2 ⟨y,H2,I2,ry,q2⟩ =>
  thn (hr pins s2 σ H2 _ I2 q2) λws s3 ⟨ps,H3,I3,rel,q3⟩=>⟨(x,y)::ps,H3,I3,.cons ⟨rx,ry⟩ rel,q3⟩)
noncomputable def sA (kvs wM:List (xM×V)):List (xM×V):=wM.foldl (λacc kv=>vS acc kv.1 kv.2) kvs
theorem KV.merge:∀ {wM:List (xM×V)} {rs:List (xM×Value)} {kvs:List (xM×V)} {vs:List (xM×Value)},KV wM rs->KV kvs vs->KV (sA kvs wM) (merged vs rs):=by
 intro wM rs kvs vs r;unfold KV at r
 induction r generalizing kvs vs with
 |nil=>intro q;exact q
 | @cons p q ps qs h t ih =>
  intro r0
  have e:KV (vS kvs p.1 p.2) (stored vs q.1 q.2):=by
   have:=r0.put p.1 h.2;rw[← h.1];exact this
  exact ih e
theorem uJ:∀ (wM kvs:List (xM×V)),(sA kvs wM).length<=kvs.length+wM.length
 | [],kvs=>by show kvs.length<=kvs.length+0;omega
 |p::r,kvs=>by
  have h1:=uJ r (vS kvs p.1 p.2);have h2:=vB kvs p.1 p.2;show(sA (vS kvs p.1 p.2) r).length<=_;rw[Zg];omega
theorem gY {P:Program} {w:World}:∀ {kvs:List (xM×V)} {ws:List (Value×Value)},VV (kvs.map λkv=>(kV kv.1,kv.2)) ws->∃ rs,Carries (xN P w) ws rs/\KV kvs rs
 | [],_,r=>by rw[zzV] at r;cases r;exact⟨[],True.intro,.nil⟩
 |p::kvs,_,r=>by
  rw[zzU] at r
  cases r with
  | @cons a b as bs h t =>
   obtain⟨rs,c,q⟩:=gY (P:=P) (w:=w) t;obtain⟨b1,b2⟩:=b;exact⟨(p.1,b2)::rs,⟨zeT h.1,rfl,c⟩,.cons ⟨rfl,h.2⟩ q⟩
noncomputable def tDisp (trs:List (TE×TE)):TE:=λσ H Q=>∀ p,H p=none->cK trs σ (yG H p (.dK [])) λps H2=>H2 p=some (.dK [])/\∃ kvs:List (xM×V),ps=kvs.map (λkv=>(kV kv.1,kv.2))/\kvs.length<=15/\Q (.ref p) (yG H2 p (.dK (sA [] kvs)))
theorem zgW {X:Cx} {pos:Pos} {keys:List (Option Expr)} {values:List Expr} {trs:List (TE×TE)} (h:PPs X pos keys values trs) (hall:keys.all (·.isSome)=true) (hl:keys.length=values.length) (h0:keys≠[])
  (h15:keys.length<=15):PE X (.Dict keys values pos) (tDisp trs):=by
 intro pins s σ H Q I q;have hn:=I.hok.fresh (zzR s.heap.objs.size);have I1:=I.laid (a:=s.heap.objs.size) (o:=.dK []) (h':=s.heap.push { cls:=.type "dict", data:=.dict #[]}) (t':=s.toks) (λ_ _ q=>Zb _ q) (zzR _) (zfo s.heap I.big);refine wpAny_Dict_walk (knd:=xN X.prog X.w) hall hl h0 h15 (thn (h pins _ σ _ _ I1 (q _ hn)) λws s2 ⟨ps,H2,I2,rel,e,kvs,ep,lk,q2⟩=>?_);subst ep;obtain⟨rs,c,rk⟩:=gY (P:=X.prog) (w:=X.w) rel;obtain⟨z,hd,vs0,r0,dd⟩:=zky I2.hok e;cases r0;refine⟨rs,c,dd,λh' dd' hs=>⟨.ref s.heap.objs.size,_,?_,rfl,q2⟩⟩
 have hz:(sA [] kvs).length<=sizeLine:=by
  have h1:=uJ kvs [];rw[Zn] at h1;rw[Z2];omega
 have he:∃ q,h'.get? s.heap.objs.size=some q:=let ⟨q,_,_,hq,_⟩:=dd';⟨q,hq⟩;exact zaz I2 (by rw[e];exact True.intro) hs he (zf9 hz hd (rk.merge .nil) dd') (Nat.add_pos_left I2.tk _)
noncomputable def IsD (H:Hp) (a:Addr):Prop:=(∃ kvs,Rd H a (.dK kvs))\/∃ kvs,Rd H a (.dT kvs)
theorem zj3 {X:Cx} {pins:PL} {σ:St} {H:Hp} {s:Shared} {a:Addr} (I:Inv X pins σ H s) (d:IsD H a) :
  s.TypeIs (.ref a) "dict" /\ (∀ b,Value.ref a=.ref b->∃ ob,s.heap.get? b=some ob/\ob.dict=none)/\(a==sysModules)=false:=by
 rcases d with⟨kvs,e⟩|⟨kvs,e⟩
 .obtain ⟨_,hd,vs,_,dd⟩:=zfn I.hok e;refine⟨dd.typeIs,λb q=>?_,hd⟩;cases q;obtain⟨ob,_,_,h1,h2,_⟩:=dd;exact⟨ob,h1,h2.2.1⟩
 .obtain ⟨_,hd,xs,_,dd⟩:=zhV I.hok e;refine⟨dd.typeIs,λb q=>?_,hd⟩;cases q;obtain⟨ob,_,_,h1,h2,_⟩:=dd;exact⟨ob,h1,h2.2.1⟩
section
variable {X:Cx} {pins:PL} {σ:St} {H:Hp} {s:Shared} {a:Addr} {y d:V} {u r:Value} {o:Option V} {A:Around} {E:VP}
end
section
variable {X:Cx} {o e f:Expr} {apos cpos:Pos} {td ty tx:TE}
end
section
variable {X:Cx} {pins:PL} {σ:St} {H:Hp} {s:Shared} {a:Addr} {kvs:List (xM×V)} {A:Around} {E:VP}
end
section
variable {X:Cx} {pins:PL} {σ:St} {H:Hp} {s:Shared} {a:Addr} {y:V} {u:Value} {A:Around} {E:VP}
end
end L2
namespace Att
open PySem PySem.W PySem.Calls PyProof.Rows
theorem rD {P:Params} {h:Heap}:∀ (ns:List Int) (vs:List Value),WellAll P h vs (ns.map WData.int)->IntsAre vs ns:=by
 intro ns
 induction ns with
 |nil =>
  intro vs w;rw[zzV] at w;cases w;exact .nil
 |cons n ns ih =>
  intro vs w;rw[zzU] at w
  cases w with
  |cons a b =>
   cases a;exact .cons _ _ (ih _ b)
theorem zco {l:OpenLaw} {n:Nat} (hn:l.most=some n) {P:Params} {h:Heap} {args:List WData} {vals:List Value}
  (hpre:l.row.toRowW.claim.pre args=true) (hwl:WellAll P h vals args) :
  ∃ a vs ns,vals=[Value.ref a]/\args=[WData.list (ns.map WData.int)]/\h.get? a=some { cls:=.type "list", data:=.seq vs.toArray}/\IntsAre vs ns/\ns.length<=n:=by
 have hsh:WShape.hasAll [] args [.list .int]=true:=(pre_splitW hpre).1;have hc:l.pre.holds [] { args:=args}=true:=(pre_splitW hpre).2;obtain⟨d,r,rfl,h1,h2⟩:=hasAllW_cons hsh;obtain rfl:=hasAllW_nil h2;obtain⟨xs,rfl,h3⟩:=hasW_list h1;obtain⟨ns,rfl⟩:=items_int h3
 have hlen:ns.length<=n:=by
  unfold OpenLaw.pre at hc
  have h4:(WTm.not (.lt (.lit (.int (n:Int))) (.len (.arg 0)))).holds [] { args:=[.list (ns.map .int)]}=true:=by
   have h4:=(holds_andW hc).1;rw[hn] at h4;exact h4
  have h5:=condW_of h4 (w_not (w_lt w_lit (w_len_list (w_arg rfl))));rw[zzM] at h5;refine Nat.le_of_not_lt λq=>?_;have q':(n:Int)<((ns.length:Nat):Int):=by omega
  first
   | (rw[decide_eq_true q'] at h5;exact absurd h5 'c')
   | (simp at h5;omega)
 cases hwl with
 |cons w1 w2 =>
  cases w2
  cases w1 with
  |list ho hall=>exact⟨_,_,ns,rfl,rfl,ho,rD ns _ hall,hlen⟩
theorem zcB (l:OpenLaw) (args:List WData):l.row.toRowW.claim.post args (.bool true) args=true :=
 postW_of (r:=l.row.toRowW) (X:=(true==true))
  (show WShape.has [] (.bool true) .bool=true by first|rfl|decide|simp[WShape.has,WShape.arms,WShape.armsAll])
  (show(WTm.eq .res (.lit (.bool true))).value [] { args:=args,res:=some (.bool true),after:=args}=some (.bool (true==true)) from w_eq_bool (w_res rfl) w_lit) rfl
theorem attach_call {l:OpenLaw} {n:Nat} {q:Program} {loose:List Str} {XP:(Str->Option Value)->Heap->Prop} {YP:World->Heap->Prop} {d:DefRec}
  (hn:l.most=some n) (hdf:d.params.defaults=[])
  (call:∀ (w:World) (s₀ s₁:Shared) (mg mb:Str->Option Value) (fa:Addr) (o:Obj) (pm cd doc:Value) (a:Addr) (vs:List Value) (ns:List Int),
   Ground q loose [] XP w s₀ mg mb s₁.heap->YP w s₁.heap ->
   s₁.heap.get? fa=some o->o.data=.func (docDef d.name d.params d.body d.scope pm cd doc)->s₁.heap.CodeRec cd d.name->mg d.name=fa⁻¹ ->
   s₁.heap.get? a=some { cls:=.type "list", data:=.seq vs.toArray}->IntsAre vs ns->ns.length<=n->s₁.gens=#[] ->
   codeAny (model l.prog w) callerA (.call (.ref fa) ⟨[.ref a],[]⟩) (λr s'=>r=.ok (.ret (.bool true))/\OldK s₁.heap s'.heap/\s'.os=s₁.os/\AllBare s'.gens) s₁) :
  WalkO q loose XP YP l.row.toRowW d [] (λf vs=>PySem.call f vs):=by
 intro w s₀ s₁ mg mb G Y fa o pm cd doc dV kV ho hd hcd hD hmg hg args vals as hpre hlay hrd hwl hlo;obtain rfl:dV=.none:=Dflts.none hD hdf;obtain rfl:kV=.none:=Dflts.noKw hD;obtain⟨a,vs,ns,rfl,rfl,hobj,hints,hlen⟩:=zco hn hpre hwl;refine enter_call (ZaF (call w s₀ s₁ mg mb fa o pm cd doc a vs ns G Y ho (fd_plain hd) hcd hmg hobj hints hlen hg) λr s' hq=>?_);obtain⟨rfl,h2,h3,h4⟩:=hq;exact⟨.inl ⟨.bool true,.bool true,[],rfl,λ_=>rfl,.bool true,zcB l _,λ_=>⟨List.Pairwise.nil,λ_ hm=>(nomatch hm)⟩⟩,h2,h3,h4⟩
section
variable {prog:Program} {w:World} {A:Around} {E:VP} {s:Shared} {K:Frag}
end
end Att
namespace L2
open PySem PySem.Spec PyProof.Rows
theorem fX:∀ {vs:List Value} {ns:List Int},IntsAre vs ns->yW (ns.map V.int) vs
 |_,_,.nil=>.nil
 |_,_,.cons n t h=>.cons ⟨t,rfl⟩ (fX h)
noncomputable def Only (H:Hp):Prop:=∀ b,H b=none\/∃ o xs,H b=some (.frz o (.lst xs))
theorem zeS {P:Program} {w:World} {K:PySem.W.Frag} {mg mb:Str->Option Value} {CX:CXT} {k:Nat} {fa a:Addr} {fd:FuncData} {x:Str} {sp:Sp} {s₁:Shared} {vs:List Value} {ns:List Int}
  (KX:K.In s₁.heap) (hns:s₁.heap.Ns mainGlobals mg) (hb:s₁.heap.Ns builtinsNs mb) (hbb:∀ x:Str,x ≠ "__name__" -> mb x=bootBuiltins x) (hlim:s₁.heap.NoLimit) (hg:s₁.gens=#[])
  (ha:s₁.heap.get? a=some { cls:=.type "list", data:=.seq vs.toArray}) (hi:IntsAre vs ns) (hl:ns.length<=sizeLine) (hr:Room k callerA)
  (F:∀ base:Heap,K.In base->base.Ns mainGlobals mg->FnOk P w K mg base CX k fa fd [x] sp) (hbind:∀ (s:Shared) (u:Value),BindsTo s fd ⟨[u],[]⟩ [(x,u)])
  (hsp:∀ H:Hp,Only H->sL K H a (ns.map V.int)->sp [.ref a] H (λv _=>v=.bl true) λ_ _ _=>False)
  (hCX:∀ H e s',CX [] H s₁ (λ_ _ _=>False) e s'->False) (hx:fd.scope.names.lookup x=some .local) :
  codeAny (model P w) callerA (.call (.ref fa) ⟨[.ref a],[]⟩) (λr s'=>r=.ok (.ret (.bool true))/\OldK s₁.heap s'.heap/\s'.os=s₁.os/\AllBare s'.gens) s₁:=by
 have rv:=fX hi;have lenV:=hi.length
 have core:∀ H:Hp,Only H->sL K H a (ns.map V.int)->uW P w H s₁.heap->(∀ b,H b≠none->b=a)->(H a≠none->K.lookup a=none) ->
   codeAny (model P w) callerA (.call (.ref fa) ⟨[.ref a],[]⟩) (λr s'=>r=.ok (.ret (.bool true))/\OldK s₁.heap s'.heap/\s'.os=s₁.os/\AllBare s'.gens) s₁:=by
  intro H hO hS hok hA hK;have base_of:∀ {b:Addr} {o:Obj},s₁.heap.get? b=some o->H b=none->(bC s₁.heap H).get? b=some o:=λe n=>ze1 e n
  have noA:∀ {b:Addr} {o:Obj} {es:Array DictEntry} {ep:Nat},s₁.heap.get? b=some o->o.data=.dict es ep->H b=none:=λ{b o es ep} e d=>by
   cases q:H b with
   |none=>rfl
   |some u =>
    have e':b=a:=hA b (by rw[q];simp);subst e';rw[ha] at e;cases e;have d':Data.seq vs.toArray _=Data.dict es ep:=d;cases d'
  have nsK:∀ {b:Addr} {m:Str->Option Value},s₁.heap.Ns b m->(bC s₁.heap H).Ns b m:=λ{b m} ⟨o,es,ep,e,d,r⟩=>⟨o,es,ep,base_of e (noA e d),d,r⟩
  have hKb:K.In (bC s₁.heap H):=λb o e=>base_of (KX b o e) (by
   cases q:H b with
   |none=>rfl
   |some u =>
    have e':b=a:=hA b (by rw[q];simp);subst e';rw[hK (by rw[q];simp)] at e;cases e)
  have hM:Mod K mg (bC s₁.heap H):=⟨hKb,nsK hns,⟨mb,nsK hb,hbb⟩,let ⟨mc,h1,h2⟩:=hlim;⟨mc,nsK h1,h2⟩⟩;have e0:Env0 P w K mg (bC s₁.heap H) callerA [] {s₁ with toks:=1} H:=⟨rfl,hM,λb o e=>zg4 e,Nat.le_of_eq (zdc _ _),trivial,λb hb=>absurd (show b∈([]:List Addr) from hb) 'g',hok,.of_eq hg,Nat.one_pos⟩;refine ZaF ((F _ hKb (nsK hns)).one x rfl hx callerA [] s₁ H ⟨[.ref a],[]⟩ [.ref a] [.ref a] _ _ hr e0 (hbind s₁ (.ref a)) (.cons rfl .nil) (hsp H hO hS)) λr s' h=>?_
  cases r with
  |error e=>exact(hCX H e s' h).elim
  |ok fl =>
   cases fl with
   |next=>exact False.elim h
   |brk=>exact False.elim h
   |cont=>exact False.elim h
   |ret u =>
    obtain⟨v,H',os,_,bare,un,hok',r',q⟩:=h;have q':v=.bl true:=q;subst q';obtain rfl:u=Value.bool true:=r';refine⟨rfl,OldK.of_keep λb o e=>?_,os,bare⟩
    cases q:H b with
    |none=>exact un.keep b o e q (by intro z;exact absurd (show b∈([]:List Addr) from z) 'g') 'g'
    |some u =>
     rcases hO b with z|⟨ob,xs,z⟩
     .rw[q] at z;cases z
     .have z2:=un.frzs b ob _ z;obtain⟨e1,_⟩:=hok b _ z;obtain⟨e2,_⟩:=hok' b _ z2;rw[e] at e1;cases e1;exact e2
 cases hk:K.lookup a with
 |some o =>
  have e:=KX a o hk;rw[ha] at e;cases e;refine core (λ_=>none) (λ_=>.inl rfl) (.inr ⟨_,vs.toArray,_,hk,rfl,rfl,rfl,by rw[zzS,lenV];exact hl,by simpa using rv⟩) (λb u z=>by have z':(none:Option HO)=some u:=z;cases z') (λb z=>absurd rfl z) λz=>absurd rfl z
 |none =>
  refine core (λb=>if b=a then some (.frz { cls:=.type "list", data:=.seq vs.toArray} (.lst (ns.map V.int))) else none) (λb=>?_) (.inl (.inr ⟨{ cls:=.type "list", data:=.seq vs.toArray},if_pos rfl⟩)) (λb u z=>?_) (λb z=>?_) λ_=>hk
  .by_cases hb:b=a
   .exact .inr ⟨_,_,if_pos hb⟩
   .exact .inl (if_neg hb)
  .by_cases hb:b=a
   .have z':=(if_pos hb).symm.trans z;cases z';subst hb;exact⟨ha,by rw[zzM];exact hl,vs,_,rv,ha⟩
   .have z':=(if_neg hb).symm.trans z;cases z'
  .by_cases hb:b=a
   .exact hb
   .exact absurd (if_neg hb) z
end L2
namespace L2
open PySem PySem.Spec PyProof.Rows
noncomputable abbrev KOf {K:PySem.W.Frag} {h:Heap} (_:K.In h):PySem.W.Frag:=K
theorem walk_of {l:PySem.W.OpenLaw} {n k:Nat} {q:Program} {loose:List Str} {XP:(Str->Option Value)->Heap->Prop} {YP:World->Heap->Prop} {d:DefRec} {K:Params->PySem.W.Frag} {CX:World->CXT} {sp:World->Sp} {x:Str}
  (hn:l.most=some n) (hn2:n<=sizeLine) (hdf:d.params.defaults=[]) (hr:Room k callerA)
  (hY:∀ (w:World) (h:Heap),YP w h->(K w.params).In h)
  (F:∀ (w:World) (mg:Str->Option Value) (fa:Addr) (h:Heap),(K w.params).In h->h.Ns mainGlobals mg->mg d.name=fa⁻¹ ->
   ∃ fd:FuncData,(∀ (s:Shared) (u:Value),BindsTo s fd ⟨[u],[]⟩ [(x,u)])/\fd.scope.names.lookup x=some .local /\
    ∀ base:Heap,(K w.params).In base->base.Ns mainGlobals mg->FnOk l.prog w (K w.params) mg base (CX w) k fa fd [x] (sp w))
  (hsp:∀ (w:World) (H:Hp) (a:Addr) (ns:List Int),ns.length<=n->Only H->sL (K w.params) H a (ns.map V.int)->sp w [.ref a] H (λv _=>v=.bl true) λ_ _ _=>False)
  (hCX:∀ (w:World) (H:Hp) (s:Shared) (e:Value) (s':Shared),CX w [] H s (λ_ _ _=>False) e s'->False) :
  PySem.W.WalkO q loose XP YP l.row.toRowW d [] (λf vs=>PySem.call f vs):=by
 refine Att.attach_call hn hdf λw s₀ s₁ mg mb fa o pm cd doc a vs ns G Y ho hd hcd hmg hobj hints hlen hg=>?_;have KX:=hY w _ Y;obtain⟨fd,hb,hx,hF⟩:=F w mg fa _ KX G.T.g hmg;exact zeS KX G.T.g G.T.b G.T.builtins G.T.nolimit hg hobj hints (Ze hlen hn2) hr hF hb (λH hO hS=>hsp w H a ns hlen hO hS) (λH e s'=>hCX w H s₁ e s') hx
end L2
/- THE LAST THEOREM (shape;LID,My.* are yours):
   My.Adr: a structure of the addresses that your layer names (classes,functions);My.Txt K t: a structure (Prop) of the equations over K;
   My.txt_mk:{K} {implicit addresses ..} (e1:nsIn K mainGlobals "law" = some (f⁻¹)) (e2:K.lookup f=some ⟨oc,od,.func (fnOf "law" "law" params body scope dV kV doc pm an cdv ct),sl⟩) (e3:codeIn K cdv "law" = true) ..:∃ t,My.Txt K t
set_option maxRecDepth 100000 in
set_option maxHeartbeats 0 in
theorem PySem.Challenge.cw_LID_holds : PySem.Challenge.rw_LID.Holds := by
 w_on;o_law;k_head;(case hw=>w_witness2)
 k_fill
 refine L2.walk_of (l:=PySem.Challenge.rw_LID) (n:=63) (k:=40) (x := "script") (CX:=λw=>..) (sp:=λ_=>My.sp_law) rfl 'c' rfl ⟨rfl,by decide,by decide⟩ (λw h Y=>PySem.W.kIn_of Y) ?F ?S ?C
 case F =>
  intro w mg fa h KX G hmg
  have T:∃ t,My.Txt (L2.KOf KX) t:=by
   dsimp only[L2.KOf]                          -- K must stand as «<heap const> w.params» for k_is;refine' My.txt_mk ?e1 ?e2 ?e3 ..
   (case e1=>PySem.W.k_is)                    -- in the order: a name -> its address -> its object -> its parts
   (case e2=>PySem.W.k_is)
   ..
  obtain⟨t,T⟩:=T;have e0:=hmg.symm.trans (PySem.W.mg_of KX G T.law);cases e0                                       -- fa is the law's own address;exact⟨_,λs u=>.of_eq rfl,λbase kb nb=>My.law_fn T kb nb⟩     -- if «.of_eq rfl» comes too early: refine' ⟨_,?b,λbase kb nb=>My.law_fn T kb nb⟩;exactλs u=>.of_eq rfl
 case S=>exactλw H a ns hl hO hS=>..
 case C=>exact ..
(the tactic k_is has no namespace: write k_is) -/
namespace L2
open PySem PySem.Spec PyProof.Rows
noncomputable def zhs (s:Stmt) (j:Nat):Stmt:=match s with
 | .ClassDef _ _ _ body _ _ _ _ _ _ _=>body.getD j (.Pass ⟨0,0,0,0⟩)
 |_=>.Pass ⟨0,0,0,0⟩
noncomputable def jL (s:Stmt):Arguments:=match s with
 | .FunctionDef _ a _ _ _ _ _ _ _ _=>a
 |_=>{ posonlyargs:=[],args:=[],vararg:=none,kwonlyargs:=[],kw_defaults:=[],kwarg:=none,defaults:=[]}
noncomputable def yX (s:Stmt):List Stmt:=match s with
 | .FunctionDef _ _ b _ _ _ _ _ _ _=>b
 |_=>[]
noncomputable def zH (s:Stmt):Scope:=match s with
 | .FunctionDef _ _ _ _ _ _ sc _ _ _=>sc
 |_=>{ kind:=.function,names:=[],isGenerator:=false,isCoroutine:=false}
noncomputable abbrev CX0:CXT:=λ_ _ _ _ _ _=>False
noncomputable abbrev E0:XK:=λ_ _ _=>False
theorem zg0 {X:Cx}:zbr CX0 X E0:=λ_ _ _ _ _ _ _ h=>h.elim
structure Fun (K:PySem.W.Frag) (x qual:Str) (st:Stmt) (f:Addr) (fd:FuncData):Prop where
 ex:∃ (oc:Value) (od:Option Addr) (kV doc pm:Value) (an:Option Addr) (cdv ct:Value) (osl:Array (Option Value)),
  fd=PySem.W.fnOf x qual (jL st) (yX st) (zH st) .none kV doc pm an cdv ct/\K.lookup f=some ⟨oc,od,.func fd,osl⟩/\PySem.W.codeIn K cdv qual=true
 kp:PySem.W.keepIn K (.ref f)=true
section
variable {P:Program} {w:World} {K:PySem.W.Frag} {mg:Str->Option Value} {base:Heap}
theorem Fun.ok {x qual:Str} {st:Stmt} {f:Addr} {fd:FuncData} {N ps:List Str} {k:Nat} {sp:Sp} (F:Fun K x qual st f fd) (S:FnScope N ps (zH st)) (len:∀ vs H Q E,sp vs H Q E->vs.length=ps.length)
  (hbody:∀ (cdv:Value) (A:Around) (outer:List Env) (s:Shared) (H:Hp) (vs:List V) (Q:VK) (E:XK),Room k (A.deeper (envOfC qual (zH st) s.heap.objs.size f cdv))->sp vs H Q E ->
   ∃ t,gP (rB CX0 P w K mg base N qual (zH st) f cdv A outer s H E).nox (yX st) t/\t { nx:=λ_ H'=>Q .non H',rt:=Q} (start N vs) H):FnOk P w K mg base CX0 (k+1) f fd ps sp:=by
 obtain⟨oc,od,kV,doc,pm,an,cdv,ct,osl,rfl,lk,hcd⟩:=F.ex;refine zfd lk hcd S len λA outer s H vs Q E hr hsp=>?_;obtain⟨t,h,q⟩:=hbody cdv A outer s H vs Q E hr hsp;exact⟨t,h.nox,q⟩
end
section
variable {X:Cx}
end
section
variable {κ:Type} [DecidableEq κ]
end
end L2
namespace L3
open PySem PySem.Spec PyProof.Rows L2
inductive W where
 |non|bl (b:Bool)|int (i:Int)|str (x:Str)|ty (n:String)|ref (a:Addr)|tup (ws:List W)|lsf (ws:List W)
  |exc (C:Addr) (ns:List Str) (ws:List W)|dcf (ks:List Str) (ws:List W)
noncomputable abbrev yM:=PySem.W.Frag
noncomputable def KL (K:yM) (a:Addr) (xs:List V):Prop:=∃ (o:Obj) (its:Array Value) (n:Nat),K.lookup a=some o/\o.cls=.type "list" /\ o.dict=none/\o.data=.seq its n/\its.size<=sizeLine/\yW xs its.toList
noncomputable def zib:List DictEntry->List Str->List V->Prop
 | [],ks,vs=>ks=[]/\vs=[]
 |e::r,ks,vs=>∃ k t v ks' vs',ks=k::ks'/\vs=v::vs'/\e.key=.str k t/\yV v e.val/\zib r ks' vs'
noncomputable def KD (K:yM) (a:Addr) (ks:List Str) (vs:List V):Prop:=∃ (o:Obj) (es:Array DictEntry) (ep:Nat),K.lookup a=some o/\o.ExactDict/\o.data=.dict es ep/\es.size<=sizeLine/\(a==sysModules)=false/\zib es.toList ks vs
noncomputable def cO (a C:Addr) (dx:Option Addr):Heap->Prop:=λh=>∃ fs,h.get? a=some { cls:=.ref C,dict:=dx,data:=.fields fs}
noncomputable def ExAt (H:Hp) (a C:Addr) (l:List (Str×V)):Prop:=(H a=some (.ext (cO a C none))/\l=[])\/∃ dx,H a=some (.ext (cO a C (some dx)))/\H dx=some (.xd l)
noncomputable def isX:HO->Prop
 | .ext _=>True
 | .frz _ (.dK _)=>True
 | .xd _=>True
 |_=>False
mutual
noncomputable def xF (K:yM) (H:Hp):W->V->Prop
 | .non,v=>v=.non
 | .bl b,v=>v=.bl b
 | .int i,v=>v=.int i
 | .str x,v=>v=.str x
 | .ty n,v=>v=.ty n
 | .ref a,v=>v=.ref a
 | .tup ws,v=>∃ a vs,v=.ref a/\sP K H a vs/\yY K H ws vs
 | .lsf ws,v=>∃ a vs,v=.ref a/\KL K a vs/\yY K H ws vs
 | .exc C ns ws,v=>∃ a vs,v=.ref a/\ExAt H a C (ns.zip vs)/\yY K H ws vs
 | .dcf ks ws,v=>∃ a vs,v=.ref a/\KD K a ks vs/\yY K H ws vs
noncomputable def yY (K:yM) (H:Hp):List W->List V->Prop
 | [],vs=>vs=[]
 |w::ws,vs=>∃ v r,vs=v::r/\xF K H w v/\yY K H ws r
end
noncomputable def yO (K:yM) (H H':Hp):Prop:=(∀ a xs,sP K H a xs->sP K H' a xs)/\∀ a o,isX o->H a=some o->H' a=some o
theorem yO.refl {K:yM} {H:Hp}:yO K H H:=⟨λ_ _ h=>h,λ_ _ _ h=>h⟩
theorem yO.trans {K:yM} {H H1 H2:Hp} (a:yO K H H1) (b:yO K H1 H2):yO K H H2:=⟨λx xs h=>b.1 x xs (a.1 x xs h),λx o i h=>b.2 x o i (a.2 x o i h)⟩
theorem ExAt.mono {K:yM} {H H':Hp} (g:yO K H H') {a C:Addr} {l:List (Str×V)} (h:ExAt H a C l):ExAt H' a C l:=by
 rcases h with⟨h,e⟩|⟨dx,h,h'⟩
 .exact .inl ⟨g.2 _ _ True.intro h,e⟩
 .exact .inr ⟨dx,g.2 _ _ True.intro h,g.2 _ _ True.intro h'⟩
section
variable {K:yM} {H H':Hp}
mutual
theorem xF.mono (g:yO K H H'):∀ {w:W} {v:V},xF K H w v->xF K H' w v
 | .non,_,h=>h
 | .bl _,_,h=>h
 | .int _,_,h=>h
 | .str _,_,h=>h
 | .ty _,_,h=>h
 | .ref _,_,h=>h
 | .tup _,_,⟨a,vs,e,s,r⟩=>⟨a,vs,e,g.1 a vs s,yY.mono g r⟩
 | .lsf _,_,⟨a,vs,e,s,r⟩=>⟨a,vs,e,s,yY.mono g r⟩
 | .exc _ _ _,_,⟨a,vs,e,s,r⟩=>⟨a,vs,e,s.mono g,yY.mono g r⟩
 | .dcf _ _,_,⟨a,vs,e,s,r⟩=>⟨a,vs,e,s,yY.mono g r⟩
theorem yY.mono (g:yO K H H'):∀ {ws:List W} {vs:List V},yY K H ws vs->yY K H' ws vs
 | [],_,h=>h
 |_::_,_,⟨v,r,e,h,t⟩=>⟨v,r,e,xF.mono g h,yY.mono g t⟩
end
theorem yY.length:∀ {ws:List W} {vs:List V},yY K H ws vs->vs.length=ws.length
 | [],_,h=>by rw[show _=[] from h];rfl
 |_::_,_,⟨v,r,e,_,t⟩=>by rw[e,Zg,Zg,yY.length t]
theorem yY.append:∀ {ws:List W} {vs:List V} {ws':List W} {vs':List V},yY K H ws vs->yY K H ws' vs'->yY K H (ws++ws') (vs++vs')
 | [],_,_,_,h,h'=>by rw[show _=[] from h];exact h'
 |_::_,_,_,_,⟨v,r,e,h,t⟩,h'=>by rw[e];exact⟨v,_,rfl,h,yY.append t h'⟩
theorem yY.get:∀ {ws:List W} {vs:List V} {i:Nat} {w:W},yY K H ws vs->ws[i]?=some w->∃ v,vs[i]?=some v/\xF K H w v
 | [],_,_,_,_,e=>by simp at e
 |_::_,_,0,_,⟨v,r,e,h,t⟩,q=>by simp at q;subst q;subst e;exact⟨v,rfl,h⟩
 |_::_,_,i+1,w,⟨v,r,e,h,t⟩,q=>by
  subst e;obtain⟨u,h1,h2⟩:=yY.get (i:=i) (w:=w) t (by simpa using q);exact⟨u,by simpa using h1,h2⟩
theorem yY.get':∀ {ws:List W} {vs:List V} {i:Nat} {v:V},yY K H ws vs->vs[i]?=some v->∃ w,ws[i]?=some w/\xF K H w v
 | [],_,_,_,h,e=>by rw[show _=[] from h] at e;simp at e
 |_::_,_,0,_,⟨v,r,e,h,t⟩,q=>by subst e;simp at q;subst q;exact⟨_,rfl,h⟩
 |_::_,_,i+1,w,⟨v,r,e,h,t⟩,q=>by
  subst e;obtain⟨u,h1,h2⟩:=yY.get' (i:=i) (v:=w) t (by simpa using q);exact⟨u,by simpa using h1,h2⟩
theorem yY.set {w:W} {v:V} (q:xF K H w v):∀ {ws:List W} {vs:List V} (i:Nat),yY K H ws vs->yY K H (ws.set i w) (vs.set i v)
 | [],_,_,h=>by rw[show _=[] from h];rfl
 |_::_,_,0,⟨_,r,e,_,t⟩=>by rw[e];exact⟨_,_,rfl,q,t⟩
 |_::_,_,i+1,⟨v,r,e,h,t⟩=>by rw[e];exact⟨_,_,rfl,h,yY.set q i t⟩
theorem yY.take:∀ {ws:List W} {vs:List V} (n:Nat),yY K H ws vs->yY K H (ws.take n) (vs.take n)
 | [],_,_,h=>by rw[show _=[] from h];simp;rfl
 |_::_,_,0,_=>by simp;rfl
 |_::_,_,n+1,⟨v,r,e,h,t⟩=>by rw[e];exact⟨_,_,rfl,h,yY.take n t⟩
theorem yY.drop:∀ {ws:List W} {vs:List V} (n:Nat),yY K H ws vs->yY K H (ws.drop n) (vs.drop n)
 | [],_,_,h=>by rw[show _=[] from h];simp;rfl
 |_::_,_,0,h=>h
 |_::_,_,n+1,⟨v,r,e,h,t⟩=>by rw[e];exact yY.drop n t
theorem yY.reverse:∀ {ws:List W} {vs:List V},yY K H ws vs->yY K H ws.reverse vs.reverse
 | [],_,h=>by rw[show _=[] from h];rfl
 |_::_,_,⟨v,r,e,h,t⟩=>by
  rw[e,Zat,Zat];exact yY.append (yY.reverse t) ⟨v,[],rfl,h,rfl⟩
theorem yY.dropLast {ws:List W} {vs:List V} (h:yY K H ws vs):yY K H ws.dropLast vs.dropLast:=by
 rw[List.dropLast_eq_take,List.dropLast_eq_take,h.length];exact h.take _
end
inductive O where
 |lst (ws:List W)
  |fix (ws:List W)
 |dic (kvs:List (xM×W))
 |ins (C:Addr) (fs:List (Str×W))
  |fzd (kvs:List (xM×W))
noncomputable def isFz:O->Bool
 | .fzd _=>true
 |_=>false
noncomputable abbrev Hw:=Addr->Option O
noncomputable def put (G:Hw) (a:Addr) (o:O):Hw:=λb=>if b=a then some o else G b
theorem zL {G:Hw} {a:Addr} {o:O}:put G a o a=some o:=by unfold put;rw[if_pos rfl]
theorem wE {G:Hw} {a b:Addr} {o:O} (h:b≠a):put G a o b=G b:=by unfold put;rw[if_neg h]
theorem dG {G:Hw} {a b:Addr} {o:O} (h:G a=some o) (h':G b=none):a≠b:=by
 intro e;subst e;rw[h] at h';cases h'
noncomputable def yE (K:yM) (H:Hp) {κ:Type}:List (κ×W)->List (κ×V)->Prop
 | [],l=>l=[]
 |p::r,l=>∃ v t,l=(p.1,v)::t/\xF K H p.2 v/\yE K H r t
noncomputable def fZ (K:yM) (H:Hp):O->HO->Prop
 | .lst ws,o=>∃ vs,o=.lst vs/\yY K H ws vs
 | .fix ws,o=>∃ vs ob,(o=.lst vs\/o=.frz ob (.lst vs))/\yY K H ws vs
 | .dic kvs,o=>∃ l,o=.dK l/\yE K H kvs l
 | .ins C fs,o=>∃ dx l,o=.ins C dx l/\yE K H fs l
 | .fzd kvs,o=>∃ ob l,o=.frz ob (.dK l)/\yE K H kvs l
noncomputable def xP (K:yM) (H:Hp) (G:Hw):Prop:=∀ a o,G a=some o->∃ u,H a=some u/\fZ K H o u
theorem yE.mono {K:yM} {H H':Hp} (g:yO K H H') {κ:Type}:∀ {l:List (κ×W)} {l':List (κ×V)},yE K H l l'->yE K H' l l'
 | [],_,h=>h
 |_::_,_,⟨v,t,e,h,r⟩=>⟨v,t,e,h.mono g,yE.mono g r⟩
theorem fZ.mono {K:yM} {H H':Hp} (g:yO K H H'):∀ {o:O} {u:HO},fZ K H o u->fZ K H' o u
 | .lst _,_,⟨vs,e,r⟩=>⟨vs,e,r.mono g⟩
 | .fix _,_,⟨vs,ob,e,r⟩=>⟨vs,ob,e,r.mono g⟩
 | .dic _,_,⟨l,e,r⟩=>⟨l,e,r.mono g⟩
 | .ins _ _,_,⟨dx,l,e,r⟩=>⟨dx,l,e,r.mono g⟩
 | .fzd _,_,⟨ob,l,e,r⟩=>⟨ob,l,e,r.mono g⟩
theorem fZ.notX {K:yM} {H:Hp}:∀ {o:O} {u:HO},isFz o=false->fZ K H o u->¬ isX u
 | .lst _,_,_,⟨vs,e,r⟩=>by subst e;exact id
 | .fix _,_,_,⟨vs,ob,e,r⟩=>by rcases e with e|e<;>subst e<;>exact id
 | .dic _,_,_,⟨l,e,r⟩=>by subst e;exact id
 | .ins _ _,_,_,⟨dx,l,e,r⟩=>by subst e;exact id
 | .fzd _,_,m,_=>nomatch m
theorem fZ.notTup {K:yM} {H:Hp}:∀ {o:O} {u:HO},fZ K H o u->(∀ xs,u≠.tup xs)/\∀ ob xs,u≠.frz ob (.tup xs)
 | .lst _,_,⟨vs,e,r⟩=>by subst e;exact⟨(λ_ z=>nomatch z),(λ_ _ z=>nomatch z)⟩
 | .fix _,_,⟨vs,ob,e,r⟩=>by
  rcases e with e|e<;>subst e
  .exact ⟨(λ_ z=>nomatch z),(λ_ _ z=>nomatch z)⟩
  .exact ⟨(λ_ z=>nomatch z),(λ_ _ z=>nomatch z)⟩
 | .dic _,_,⟨l,e,r⟩=>by subst e;exact⟨(λ_ z=>nomatch z),(λ_ _ z=>nomatch z)⟩
 | .ins _ _,_,⟨dx,l,e,r⟩=>by subst e;exact⟨(λ_ z=>nomatch z),(λ_ _ z=>nomatch z)⟩
 | .fzd _,_,⟨ob,l,e,r⟩=>by subst e;exact⟨(λ_ z=>nomatch z),(λ_ _ z=>nomatch z)⟩
section
variable {K:yM} {H H':Hp} {G:Hw} {a:Addr}
theorem xP.free (h:xP K H G) (e:H a=none):G a=none:=by
 cases q:G a with
 |none=>rfl
 |some o =>
  obtain⟨u,e',_⟩:=h a o q;rw[e] at e';cases e'
theorem zbe {u:HO} (h:∀ xs,¬ Rd H a (.tup xs)) (hx:∀ o,isX o->H a≠some o):yO K H (yG H a u):=⟨λb xs s=>by
 rcases s with s|s
 .have hb:b≠a:=by rintro rfl;exact h xs s
  left
  rcases s with s|⟨o,s⟩
  .exact .inl (by rw[zA hb];exact s)
  .exact .inr ⟨o,by rw[zA hb];exact s⟩
 .exact .inr s,λb o i s=>by
 have hb:b≠a:=by rintro rfl;exact hx o i s
 rw[zA hb];exact s⟩
theorem yB {u:HO} (h:H a=none):yO K H (yG H a u):=zbe (λxs s=>by
 rcases s with s|⟨o,s⟩<;>(rw[h] at s;cases s)) (λo _ s=>by rw[h] at s;cases s)
theorem xP.grow {o:O} {u:HO} (h:xP K H G) (e:G a=some o) (m:isFz o=false:=by rfl):yO K H (yG H a u):=by
 obtain⟨u',e',r⟩:=h a o e;refine zbe (λxs s=>?_) (λo' i s=>?_)
 .rcases s with s|⟨ob,s⟩
  .rw[e'] at s;cases s;exact r.notTup.1 xs rfl
  .rw[e'] at s;cases s;exact r.notTup.2 ob xs rfl
 .rw[e'] at s;cases s;exact r.notX m i
theorem xP.new {o:O} {u:HO} (h:xP K H G) (e:H a=none) (r:fZ K (yG H a u) o u):xP K (yG H a u) (put G a o):=λb ob q=>by
 by_cases hb:b=a
 .subst hb;rw[zL] at q;cases q;exact⟨u,yI,r⟩
 .rw[wE hb] at q;obtain⟨u',e',r'⟩:=h b ob q;exact⟨u',by rw[zA hb];exact e',r'.mono (yB e)⟩
theorem xP.tup {u:HO} (h:xP K H G) (e:H a=none):xP K (yG H a u) G:=λb ob q=>by
 obtain⟨u',e',r'⟩:=h b ob q;exact⟨u',by rw[zA (yP e' e)];exact e',r'.mono (yB e)⟩
theorem xP.chg {o o':O} {u:HO} (h:xP K H G) (e:G a=some o') (r:fZ K (yG H a u) o u) (m:isFz o'=false:=by rfl):xP K (yG H a u) (put G a o):=λb ob q=>by
 by_cases hb:b=a
 .subst hb;rw[zL] at q;cases q;exact⟨u,yI,r⟩
 .rw[wE hb] at q;obtain⟨u',e',r'⟩:=h b ob q;exact⟨u',by rw[zA hb];exact e',r'.mono (h.grow e m)⟩
theorem xP.lst {ws:List W} (h:xP K H G) (e:G a=some (.lst ws)):∃ vs,H a=some (.lst vs)/\yY K H ws vs:=by
 obtain⟨u,e',vs,rfl,r⟩:=h a _ e;exact⟨vs,e',r⟩
theorem xP.dic {kvs:List (xM×W)} (h:xP K H G) (e:G a=some (.dic kvs)):∃ l,H a=some (.dK l)/\yE K H kvs l:=by
 obtain⟨u,e',vs,rfl,r⟩:=h a _ e;exact⟨vs,e',r⟩
end
noncomputable def yN (G:Hw) (a:Addr):Option (List W):=match G a with
 |some (.lst ws)=>some ws
 |some (.fix ws)=>some ws
 |_=>none
theorem xP.seq {K:yM} {H:Hp} {G:Hw} {a:Addr} {ws:List W} (h:xP K H G) (e:yN G a=some ws):∃ vs,sL K H a vs/\yY K H ws vs:=by
 unfold yN at e
 split at e
 .rename_i q;cases e;obtain⟨vs,e',r⟩:=h.lst q;exact⟨vs,.of e',r⟩
 .rename_i q;cases e;obtain⟨u,e',vs,ob,z,r⟩:=h a _ q;refine⟨vs,?_,r⟩;rcases z with rfl|rfl
  .exact .inl (.inl e')
  .exact .inl (.inr ⟨_,e'⟩)
 .cases e
noncomputable abbrev xZ:=List (Option W)
noncomputable def yR (K:yM) (H:Hp) (σ:xZ) (τ:L2.St):Prop:=σ.length=τ.length/\∀ (i:Nat) (w:W),σ[i]?=some (some w)->∃ v,τ[i]?=some (some v)/\xF K H w v
theorem yR.mono {K:yM} {H H':Hp} (g:yO K H H') {σ:xZ} {τ:L2.St} (h:yR K H σ τ):yR K H' σ τ :=
 ⟨h.1,λi w e=>let ⟨v,e',r⟩:=h.2 i w e;⟨v,e',r.mono g⟩⟩
theorem yR.set {K:yM} {H:Hp} {σ:xZ} {τ:L2.St} {w:W} {v:V} (h:yR K H σ τ) (r:xF K H w v) (i:Nat):yR K H (σ.set i (some w)) (τ.set i (some v)):=by
 refine⟨by simp[h.1],λj w' e=>?_⟩;rw[List.getElem?_set] at e ⊢
 by_cases hj:i=j
 .subst hj;rw[if_pos rfl] at e ⊢
  by_cases hl:i<σ.length
  .rw[if_pos hl] at e;cases e;rw[if_pos (h.1▸hl)];exact⟨v,rfl,r⟩
  .rw[if_neg hl] at e;cases e
 .rw[if_neg hj] at e ⊢;exact h.2 j w' e
noncomputable abbrev Q3:=W->Hw->Prop
noncomputable abbrev E3:=xZ->Hw->Q3->Prop
noncomputable abbrev T3:=xZ->Hw->(Bool->Hw->Prop)->Prop
noncomputable abbrev A3:=xZ->Hw->(List W->Hw->Prop)->Prop
structure End3 where
 nx:xZ->Hw->Prop
 rt:Q3
 bk:xZ->Hw->Prop:=λ_ _=>False
 ct:xZ->Hw->Prop:=λ_ _=>False
noncomputable abbrev S3:=End3->xZ->Hw->Prop
section
variable (K:yM)
noncomputable def xW (t:E3):TE:=λτ H Q=>∃ σ G,yR K H σ τ/\xP K H G/\t σ G λw G'=>∀ v H',yO K H H'->xF K H' w v->xP K H' G'->Q v H'
noncomputable def jM (t:T3):TT:=λτ H Q=>∃ σ G,yR K H σ τ/\xP K H G/\t σ G λb G'=>∀ H',yO K H H'->xP K H' G'->Q b H'
noncomputable def vD (t:A3):TA:=λτ H Q=>∃ σ G,yR K H σ τ/\xP K H G/\t σ G λws G'=>∀ vs H',yO K H H'->yY K H' ws vs->xP K H' G'->Q vs H'
structure Fine (H:Hp) (D3:End3) (D:Ends):Prop where
 nx:∀ σ G τ H',yO K H H'->yR K H' σ τ->xP K H' G->D3.nx σ G->D.nx τ H'
 bk:∀ σ G τ H',yO K H H'->yR K H' σ τ->xP K H' G->D3.bk σ G->D.bk τ H'
 ct:∀ σ G τ H',yO K H H'->yR K H' σ τ->xP K H' G->D3.ct σ G->D.ct τ H'
 rt:∀ w G v H',yO K H H'->xF K H' w v->xP K H' G->D3.rt w G->D.rt v H'
noncomputable def lowS (t:S3):TS:=λD τ H=>∃ σ G D3,yR K H σ τ/\xP K H G/\Fine K H D3 D/\t D3 σ G
end
theorem Fine.grow {K:yM} {H H':Hp} {D3:End3} {D:Ends} (f:Fine K H D3 D) (g:yO K H H'):Fine K H' D3 D :=
 ⟨λσ G τ H2 g2=>f.nx σ G τ H2 (g.trans g2),λσ G τ H2 g2=>f.bk σ G τ H2 (g.trans g2),λσ G τ H2 g2=>f.ct σ G τ H2 (g.trans g2),λw G v H2 g2=>f.rt w G v H2 (g.trans g2)⟩
noncomputable def wX (t:E3):Prop:=∀ σ G (Q Q':Q3),'l'->t σ G Q->t σ G Q'
noncomputable def vT (t:T3):Prop:=∀ σ G (Q Q':Bool->Hw->Prop),'l'->t σ G Q->t σ G Q'
noncomputable def qH (t:A3):Prop:=∀ σ G (Q Q':List W->Hw->Prop),'l'->t σ G Q->t σ G Q'
section
variable {K:yM} {H:Hp} {σ:xZ} {τ:L2.St} {G:Hw}
theorem xJ {t:E3} {R:Q3} {S:VK} (m:wX t) (hs:yR K H σ τ) (ha:xP K H G) (h:t σ G R)
  (k:∀ w G1 v H1,yO K H H1->yR K H1 σ τ->xF K H1 w v->xP K H1 G1->R w G1->S v H1):xW K t τ H S :=
 ⟨σ,G,hs,ha,m σ G _ _ (λw G' r v H' g rp ab=>k w G' v H' g (hs.mono g) rp ab r) h⟩
theorem sR {t:T3} {R:Bool->Hw->Prop} {S:Bool->Hp->Prop} (m:vT t) (hs:yR K H σ τ) (ha:xP K H G) (h:t σ G R)
  (k:∀ b G1 H1,yO K H H1->yR K H1 σ τ->xP K H1 G1->R b G1->S b H1):jM K t τ H S :=
 ⟨σ,G,hs,ha,m σ G _ _ (λw G' r H' g ab=>k w G' H' g (hs.mono g) ab r) h⟩
theorem uX {t:A3} {R:List W->Hw->Prop} {S:List V->Hp->Prop} (m:qH t) (hs:yR K H σ τ) (ha:xP K H G) (h:t σ G R)
  (k:∀ w G1 v H1,yO K H H1->yR K H1 σ τ->yY K H1 w v->xP K H1 G1->R w G1->S v H1):vD K t τ H S :=
 ⟨σ,G,hs,ha,m σ G _ _ (λw G' r v H' g rp ab=>k w G' v H' g (hs.mono g) rp ab r) h⟩
end
end L3
namespace L2
section
variable {X:Cx} {e:PySem.Expr} {st:PySem.Stmt} {sts:List PySem.Stmt}
theorem PE.imp {t t':TE} (h:PE X e t) (k:∀ σ H Q,t' σ H Q->t σ H Q):PE X e t':=λpins s σ H Q I q=>h pins s σ H Q I (k σ H Q q)
theorem PT.imp {t t':TT} (h:PT X e t) (k:∀ σ H Q,t' σ H Q->t σ H Q):PT X e t':=λpins s σ H Q I q=>h pins s σ H Q I (k σ H Q q)
theorem PW.imp {t t':TT} (h:PW X e t) (k:∀ σ H Q,t' σ H Q->t σ H Q):PW X e t':=λwh pins s σ H Q I q=>h wh pins s σ H Q I (k σ H Q q)
theorem PA.imp {es:List PySem.Expr} {t t':TA} (h:PA X es t) (k:∀ σ H Q,t' σ H Q->t σ H Q):PA X es t':=λpos pins s σ H Q I q=>h pos pins s σ H Q I (k σ H Q q)
theorem PS.imp {t t':TS} (h:PS X st t) (k:∀ D σ H,t' D σ H->t D σ H):PS X st t':=λpins s σ H D I q=>h pins s σ H D I (k D σ H q)
theorem gP.imp {t t':TS} (h:gP X sts t) (k:∀ D σ H,t' D σ H->t D σ H):gP X sts t':=λpins s σ H D I q=>h pins s σ H D I (k D σ H q)
end
end L2
set_option genInjectivity false
set_option genSizeOfSpec false
namespace L2
open PySem PySem.Spec PyProof.Rows PySem.Calls
noncomputable def clo (env:Env):List (Str×NameKind)->List (Str×Addr)->List (Str×Addr)
 | [],acc=>acc
 | (n,k)::r,acc=>if(k==NameKind.free)=true then clo env r ((n,(env.cells.lookup n).getD 0)::acc) else clo env r acc
theorem zaB (env:Env):∀ (l:List (Str×NameKind)) (acc:List (Str×Addr)) {x:Str} {c:Addr},(clo env l acc).lookup x=some c ->
  ((∃ k,(x,k)∈l/\k=.free)/\c=(env.cells.lookup x).getD 0)\/acc.lookup x=some c
 | [],acc,x,c,h=>.inr h
 | (n,k)::r,acc,x,c,h=>by
  unfold clo at h
  by_cases hk:(k==NameKind.free)=true
  .rw[if_pos hk] at h;rcases zaB env r _ h with⟨⟨k',m,e⟩,q⟩|h
   .exact .inl ⟨⟨k',Zi _ m,e⟩,q⟩
   .rw[ZG] at h
    by_cases hx:(x==n)=true
    .rw[hx] at h;have e:x=n:=eq_of_beq hx;subst e;exact .inl ⟨⟨k,zzT,eq_of_beq hk⟩,(ZE h).symm⟩
    .rw[Bool.not_eq_true] at hx;rw[hx] at h;exact .inr h
  .rw[if_neg hk] at h;rcases zaB env r _ h with⟨⟨k',m,e⟩,q⟩|h
   .exact .inl ⟨⟨k',Zi _ m,e⟩,q⟩
   .exact .inr h
theorem zaD (env:Env):∀ (l:List (Str×NameKind)) (acc:List (Str×Addr)) {x:Str},(∃ c,acc.lookup x=some c)->∃ c,(clo env l acc).lookup x=some c
 | [],acc,x,h=>h
 | (n,k)::r,acc,x,h=>by
  unfold clo
  split
  .refine zaD env r _ ?_;rw[ZG];cases x==n
   .exact h
   .exact ⟨_,rfl⟩
  .exact zaD env r _ h
theorem zaC (env:Env):∀ (l:List (Str×NameKind)) (acc:List (Str×Addr)) {x:Str},(x,NameKind.free)∈l->∃ c,(clo env l acc).lookup x=some c
 | (n,k)::r,acc,x,h=>by
  unfold clo;rcases Zh.mp h with h|h
  .cases h;rw[if_pos 'c'];refine zaD env r _ ?_;rw[ZG,beq_self_eq_true];exact⟨_,rfl⟩
  .split
   .exact zaC env r _ h
   .exact zaC env r _ h
theorem tV {env:Env} {scope:Scope} (h:∀ x,(x,NameKind.free)∈scope.names->∃ c,env.cells.lookup x=some c):closureFor scope env=pure (clo env scope.names []):=by
 simp only[closureFor]
 have key:∀ (l:List (Str×NameKind)) (acc:List (Str×Addr)),(∀ x,(x,NameKind.free)∈l->∃ c,env.cells.lookup x=some c) ->
   (forIn l acc λx r=>match x with|(name,kind)=>if(kind==NameKind.free)=true then(do let a ← cellOf env name;pure (ForInStep.yield ((name,a)::r))) else pure (ForInStep.yield r):Sem (List (Str×Addr)))=pure (clo env l acc):=by
  intro l
  induction l with
  |nil=>intro acc _;rfl
  |cons p r ih =>
   intro acc hh;obtain⟨n,k⟩:=p;rw[List.forIn_cons]
   by_cases hk:(k==NameKind.free)=true
   .have ek:k=.free:=eq_of_beq hk;obtain⟨c,hc⟩:=hh n (by rw[ek];exact zzT);simp only[hk,if_true];have e1:cellOf env n=pure c:=by unfold cellOf;rw[hc]
    rw[e1];simp only[pure_bind];rw[ih _ λx hx=>hh x (Zi _ hx)]
    conv=>rhs;unfold clo
    rw[if_pos hk,hc]
    all_goals rfl
   .simp only[hk];rw[if_neg 'g'];simp only[pure_bind];rw[ih _ λx hx=>hh x (Zi _ hx)]
    conv=>rhs;unfold clo
    rw[if_neg hk]
 have:=key scope.names [] h;simpa using this
theorem xA {env:Env}:∀ {names:List (Str×NameKind)} {x:Str} {k':NameKind},
  (names.map λ(n,k)=>if(k==NameKind.free&&env.scope.kind==.function&&env.kindOf n==some .cell) then(n,NameKind.cell) else(n,k)).lookup x=some k' ->
  ∃ k,names.lookup x=some k/\(k'=k\/(k=.free/\k'=.cell))
 | [],_,_,h=>by simp at h
 | (n,k)::r,x,k',h=>by
  rw[zzU] at h
  by_cases hc:(k==NameKind.free&&env.scope.kind==.function&&env.kindOf n==some .cell)=true
  .simp only[hc,if_true] at h;rw[ZG] at h ⊢
   cases hx:x==n with
   |true =>
    rw[hx] at h;cases h;simp only[Zm,beq_iff_eq] at hc;exact⟨k,rfl,.inr ⟨hc.1.1,rfl⟩⟩
   |false=>rw[hx] at h;exact xA h
  .simp only[hc,if_false] at h;rw[if_neg 'g'] at h;rw[ZG] at h ⊢
   cases hx:x==n with
   |true=>rw[hx] at h;cases h;exact⟨k,rfl,.inl rfl⟩
   |false=>rw[hx] at h;exact xA h
theorem qY {α:Type}:∀ {l:List (Str×α)} {x:Str} {v:α},l.lookup x=some v->(x,v)∈l
 | (n,k)::r,x,v,h=>by
  rw[ZG] at h
  cases hx:x==n with
  |true=>rw[hx] at h;cases h;rw[eq_of_beq hx];exact zzT
  |false=>rw[hx] at h;exact Zi _ (qY h)
theorem zaE:∀ (l:List (Str×NameKind)) (n:Nat) (acc:List (Str×Addr)) {x:Str} {c:Addr},(cellsFrom n l acc).lookup x=some c->acc.lookup x=some c\/((x,NameKind.cell)∈l/\n<=c)
 | [],n,acc,x,c,h=>.inl h
 | (y,k)::r,n,acc,x,c,h=>by
  unfold cellsFrom at h
  split at h
  .rename_i hk;rcases zaE r _ _ h with h|⟨h,q⟩
   .rw[ZG] at h
    by_cases hx:(x==y)=true
    .rw[hx] at h;cases eq_of_beq hx;cases eq_of_beq hk;exact .inr ⟨zzT,Nat.le_of_eq (ZE h)⟩
    .rw[Bool.not_eq_true] at hx;rw[hx] at h;exact .inl h
   .exact .inr ⟨Zi _ h,ZbE q⟩
  .rcases zaE r _ _ h with h|⟨h,q⟩
   .exact .inl h
   .exact .inr ⟨Zi _ h,q⟩
theorem zbn:∀ (l:List (Str×NameKind)) (n:Nat) (acc:List (Str×Addr)) {x:Str},(∃ c,acc.lookup x=some c)->∃ c,(cellsFrom n l acc).lookup x=some c
 | [],n,acc,x,h=>h
 | (y,k)::r,n,acc,x,h=>by
  unfold cellsFrom
  split
  .refine zbn r _ _ ?_;rw[ZG];cases x==y
   .exact h
   .exact ⟨_,rfl⟩
  .exact zbn r _ _ h
theorem zdI:∀ (l:List (Str×NameKind)) (n:Nat) (acc:List (Str×Addr)) {x:Str},(x,NameKind.cell)∈l->∃ c,(cellsFrom n l acc).lookup x=some c
 | (y,k)::r,n,acc,x,h=>by
  unfold cellsFrom;rcases Zh.mp h with h|h
  .cases h;rw[if_pos 'c'];refine zbn r _ _ ?_;rw[ZG,beq_self_eq_true];exact⟨_,rfl⟩
  .split
   .exact zdI r _ _ h
   .exact zdI r _ _ h
noncomputable def Inj (n:Nat) (l:List (Str×Addr)):Prop:=(∀ x c,l.lookup x=some c->c<n)/\∀ x y c,l.lookup x=some c->l.lookup y=some c->x=y
theorem zdH:∀ (l:List (Str×NameKind)) (n:Nat) (acc:List (Str×Addr)),Inj n acc->∀ x y c,(cellsFrom n l acc).lookup x=some c->(cellsFrom n l acc).lookup y=some c->x=y
 | [],n,acc,h=>h.2
 | (z,k)::r,n,acc,h=>by
  unfold cellsFrom
  split
  .refine zdH r (n+1) ((z,n)::acc) ⟨λx c e=>?_,λx y c e e'=>?_⟩
   .rw[ZG] at e
    cases hx:x==z with
    |true=>rw[hx] at e;cases e;exact Zbe _
    |false=>rw[hx] at e;exact ZaI (h.1 x c e)
   .rw[ZG] at e e'
    cases hx:x==z with
    |true =>
     rw[hx] at e;cases e
     cases hy:y==z with
     |true=>rw[eq_of_beq hx,eq_of_beq hy]
     |false=>rw[hy] at e';exact absurd (h.1 y _ e') (Z1 _)
    |false =>
     rw[hx] at e
     cases hy:y==z with
     |true=>rw[hy] at e';cases e';exact absurd (h.1 x _ e) (Z1 _)
     |false=>rw[hy] at e';exact h.2 x y c e e'
  .exact zdH r n acc h
theorem pP:∀ (l:List (Str×NameKind)) (h:Heap) (acc:List (Str×Addr)),(∀ x c,acc.lookup x=some c->∃ v,h.IsCell c v)->∀ x c,(cellsFrom h.objs.size l acc).lookup x=some c->∃ v,(pushCells h l).IsCell c v
 | [],h,acc,k=>k
 | (z,q)::r,h,acc,k=>by
  unfold cellsFrom pushCells
  split
  .have:=pP r (h.push { cls:=.type "cell", data:=.cell none}) ((z,h.objs.size)::acc) (λx c e=>by
    rw[ZG] at e
    cases hx:x==z with
    |true=>rw[hx] at e;cases e;exact⟨_,_,Zl _ rfl,rfl⟩
    |false =>
     rw[hx] at e;obtain⟨v,o,ho,hd⟩:=k x c e;exact⟨v,o,Zb _ ho,hd⟩)
   rw[ZH] at this;exact this
  .exact pP r h acc k
theorem nfe {M:Model} {A:Around} {E:VP} {s:Shared} {sc:Scope} {gl:Addr} {cl:List (Str×Addr)} {qual:Str} {env:Env} {Q:Env->Shared->Prop}
  (hQ:∀ h',h'=pushCells (s.heap.push { cls:=.type "dict", data:=.dict #[]}) sc.names->h'.Ns s.heap.objs.size (λ_=>none)->(∀ b o,s.heap.get? b=some o->h'.get? b=some o) ->
   Q { scope:=sc,locals:=s.heap.objs.size,globals:=gl,cells:=cellsFrom (s.heap.objs.size+1) sc.names cl,qual:=qual,func:=none,code:=env.code,frame:=env.frame,builtins:=env.builtins} {s with heap:=h'}) :
  wpAny M A (newFunctionEnv sc gl cl [] qual none .none (some env)) Q E s:=by
 simp only[newFunctionEnv,Zan,if_true];refine Za (wpAny_alloc (Za (wpAny_layCells _ (λname kind cells=>by cases hkc:kind==NameKind.cell<;>simp[hkc]) _ _ _ _ ?_)));rw[show({s with heap:=s.heap.push { cls:=.type "dict", data:=.dict #[]}}:Shared).heap.objs.size=s.heap.objs.size+1 from ZH ..];rw[List.forIn_nil];refine Za (Zc (Zc (hQ _ rfl ((Heap.Ns.new s.heap (.type "dict")).keeps (Zbm _ _)) λb o e=>Zbm _ _ b o (Zb _ e))))
end L2
namespace L2
open PySem PySem.Spec PyProof.Rows PySem.Calls
theorem zaa (elt target iter:Expr) (ifs:List Expr) (scope:Scope) (pos:Pos) (it acc:Value) (env:Env) :
  compTurn (.ListComp elt [⟨target,iter,ifs,0⟩] scope pos) 0 it acc env=(do
   standAt iter.pos
   match ← pyNext it with
   |none=>pure (.done .next)
   |some v =>
    letOwnedTupleGo target it v
    assign target env v
    let mut ok:=true
    for c in ifs do
     if ok then ok ← isTrue c env (eval c env)
    if ok then
     (do let _ ← call (.builtin "list.append") [acc,← eval elt env])
    again (.compLoop (.ListComp elt [⟨target,iter,ifs,0⟩] scope pos) 0 it acc env)):=by rfl
section
variable {prog:Program} {w:World} {A:Around} {R:Result->Shared->Prop} {s:Shared}
theorem zab {elt target iter:Expr} {ifs:List Expr} {scope:Scope} {pos:Pos} {it acc:Value} {env:Env} (I:Nat->Shared->Prop)
  (turn:∀ n s,I n s->wpAny 'd' A (pyNext it) (λr s₁=>match r with
   |none=>R (.ok .next) s₁
   |some v=>wpAny 'd' A (letOwnedTupleGo target it v) (λ_ s₁=>wpAny 'd' A (assign target env v) (λ_ s₂ =>
     wpAny 'd' A (forIn ifs true λc r=>if r=true then do let ok ← isTrue c env (eval c env);pure (ForInStep.yield ok) else pure (ForInStep.yield r)) (λok s₃ =>
      if ok=true then wpAny 'd' A (eval elt env) (λx s₄ =>
       wpAny 'd' A (call (.builtin "list.append") [acc,x]) (λ_ s₅=>∃ m,m<n/\I m s₅) 'k' s₄) (notedBy 'd' A env λe s'=>R (.error e) s') s₃
      else ∃ m,m<n/\I m s₃) 'k' s₂) 'k' s₁) 'k' s₁) 'k' s)
  (n:Nat) (h:I n s) :
  codeAny 'd' A (.compLoop (.ListComp elt [⟨target,iter,ifs,0⟩] scope pos) 0 it acc env) R s:=by
 refine codeAny_loop rfl I (λn s hI=>?_) n h;show wpAny _ A ((compTurn (.ListComp elt [⟨target,iter,ifs,0⟩] scope pos) 0 it acc env).onRaise (λx=>do noteFrame x env;theTreesLotGoes x)) _ _ s;refine wpAny_noted ?_;rw[zaa];refine Za (Zao (Za (Zv (turn n s hI) (λr s₁ h₁=>?_) λ_ _ h'=>h'.elim)))
 cases r with
 |none=>exact Zc h₁
 |some v =>
  refine Za (Zv h₁ (λ_ s₁ h₁=>?_) λ_ _ h'=>h'.elim);refine Za (Zv h₁ (λ_ s₂ h₂=>Za (Zv h₂ (λok s₃ h₃=>?_) λ_ _ h'=>h'.elim)) λ_ _ h'=>h'.elim)
  cases ok with
  |false=>exact Zc ⟨rfl,h₃⟩
  |true =>
   exact Za (Za (Zv h₃ (λx s₄ h₄=>Za (Zv h₄ (λ_ s₅ h₅=>Zc (Zc ⟨rfl,h₅⟩)) λ_ _ h'=>h'.elim)) λ_ _ h'=>h'))
end
structure IsBlock (X:Cx) (N:List Str) (sc:Scope) (X':Cx):Prop where
 prog:X'.prog=X.prog
 w:X'.w=X.w
 K:X'.K=X.K
 mg:X'.mg=X.mg
 base:X'.base=X.base
 A:X'.A=X.A
 calm:X'.calm=X.calm
 N:X'.N=N
 scope:X'.env.scope=relabel sc X.env
 xe:X'.xe=λ_ _=>False
 fn:∀ x,sc.names.lookup x=some .cell->X'.fn x=true
noncomputable def ocl (X:Cx) (sc:Scope) (C:Addr):List (Str×Addr):=cellsFrom (C+1) sc.names (clo X.env sc.names [])
noncomputable def wJ (X:Cx) (N:List Str) (sc:Scope) (C:Addr) (s2:Shared) (H2:Hp) (fp:List Addr) (pins:PL) (xe:VP):Cx where
 prog:=X.prog
 w:=X.w
 K:=X.K
 mg:=X.mg
 base:=X.base
 A:=X.A
 N:=N
 s₀:=s2
 H₀:=H2
 env:=compEnvC sc (ocl X sc C) C X.env
 outer:=X.stack
 stack:=X.stack
 ex:=fp
 fn:=λx=>sc.names.lookup x==some .cell
 calm:=X.calm
 pn:=X.pn++pins
 xe:=xe
theorem gW (X:Cx) (N:List Str) (sc:Scope) (C:Addr) (s2:Shared) (H2:Hp) (fp:List Addr) (pins:PL) (xe:VP):IsBlock X N sc (wJ X N sc C s2 H2 fp pins xe).nox :=
 ⟨rfl,rfl,rfl,rfl,rfl,rfl,rfl,rfl,rfl,rfl,λx h=>by show(sc.names.lookup x==some .cell)=true;rw[h];rfl⟩
structure BlkSc (X:Cx) (sc:Scope):Prop where
 kind:sc.kind=.function
 cells:∀ x,(x,NameKind.cell)∈sc.names->sc.names.lookup x=some .cell
 frees:∀ x,(x,NameKind.free)∈sc.names->sc.names.lookup x=some .free
 free:∀ x,(x,NameKind.free)∈sc.names->X.env.kindOf x=some .cell\/X.env.kindOf x=some .free
 names:∀ y∈sc.names,y.2=.local->sc.names.lookup y.1=some .local
section
variable {X:Cx} {pins:PL} {σ:St} {H2:Hp} {s2:Shared} {sc:Scope} {N:List Str} {C:Addr} {fp:List Addr} {xe:VP}
theorem kQ (ok:X.Ok) (B:BlkSc X sc) {x:Str} {c:Addr} (h:(clo X.env sc.names []).lookup x=some c):X.env.cells.lookup x=some c/\sc.names.lookup x=some .free:=by
 rcases zaB _ _ _ h with⟨⟨k,m,e⟩,q⟩|h
 .subst e;have hf:=B.free x m;obtain⟨c',hc'⟩:=ok.has x hf;rw[hc'] at q;exact⟨by rw[hc',q];rfl,B.frees x m⟩
 .simp at h
theorem kW (ok:X.Ok) (B:BlkSc X sc) {x:Str} {c:Addr} (h:(ocl X sc C).lookup x=some c):(X.env.cells.lookup x=some c/\sc.names.lookup x=some .free)\/(sc.names.lookup x=some .cell/\C<c):=by
 rcases zaE _ _ _ h with h|⟨h,q⟩
 .exact .inl (kQ ok B h)
 .exact .inr ⟨B.cells x h,q⟩
theorem B_has (B:BlkSc X sc) {x:Str} (h:(relabel sc X.env).names.lookup x=some .cell\/(relabel sc X.env).names.lookup x=some .free):(x,NameKind.free)∈sc.names\/(x,NameKind.cell)∈sc.names:=by
 rcases h with h|h
 .obtain ⟨k,hk,e⟩:=xA h;rcases e with e|⟨e,_⟩
  .subst e;exact .inr (qY hk)
  .subst e;exact .inl (qY hk)
 .obtain ⟨k,hk,e⟩:=xA h;rcases e with e|⟨e,z⟩
  .subst e;exact .inl (qY hk)
  .cases z
theorem zcH {x:Str} (h:(x,NameKind.free)∈sc.names\/(x,NameKind.cell)∈sc.names):∃ c,(ocl X sc C).lookup x=some c:=by
 rcases h with h|h
 .exact zbn _ _ _ (zaC _ _ _ h)
 .exact zdI _ _ _ h
theorem zaF (I2:Inv X pins σ H2 s2) {x:Str} {c:Addr} (h:X.env.cells.lookup x=some c):c<s2.heap.objs.size:=by
 obtain⟨v,o,e,_⟩:=I2.cell x c h;exact Zd e
theorem uY (I2:Inv X pins σ H2 s2) (B:BlkSc X sc) (f2:∀ b∈fp,qU X pins H2 b) (hfp:∀ b∈fp,b<s2.heap.objs.size) (hC:s2.heap.objs.size<=C):(wJ X N sc C s2 H2 fp pins xe).Ok where
 mod:=I2.ok.mod
 kind:=B.kind
 glob:=I2.ok.glob
 blt:=I2.ok.blt
 above:=hC
 inj:=zdH _ _ _ ⟨λx c h=>ZaI (Zj (zaF I2 (kQ I2.ok B h).1) hC),λx y c hx hy=>I2.ok.inj x y c (kQ I2.ok B hx).1 (kQ I2.ok B hy).1⟩
 has:=λx h=>zcH (B_has B h)
 cab:=λx c h e=>by
  rcases kW I2.ok B e with⟨_,q⟩|⟨_,q⟩
  .have h:(sc.names.lookup x==some .cell)=true:=h;rw[q] at h;cases h
  .exact Ze hC (ZaQ q)
 hd:=I2.ok.hd
 frames:=I2.ok.frames
 stk:=.inl rfl
 exf:=λb hb=>⟨Zo (Zj (hfp b hb) hC),λx c h=>by
  rcases kW I2.ok B h with⟨q,_⟩|⟨_,q⟩
  .exact (f2 b hb).2.2.2.2.1 x c q
  .exact Z3 (Nat.lt_trans (Zj (hfp b hb) hC) q)⟩
 bs:=I2.bs
 bsz:=Ze I2.ok.bsz I2.sz
 noex:=λb o e hb=>by
  rcases(f2 b hb).2.2.2.1 with h|h
  .exact I2.ok.noex b o e h
  .exact absurd (Zj (Zd e) (Ze I2.ok.bsz h)) (Z1 _)
 exfs:=λb hb hm=>by
  rcases Zh.mp (I2.stkSub b hm) with h|h
  .exact (f2 b hb).2.1 h
  .exact (f2 b hb).2.2.1 h
 funs:=I2.stack
 frf:=I2.stkFree
theorem cZ {s4:Shared} {τ:St} {m:Str->Option Value} (I2:Inv X pins σ H2 s2) (B:BlkSc X sc) (f2:∀ b∈fp,qU X pins H2 b) (hfp:∀ b∈fp,b<s2.heap.objs.size) (hC:s2.heap.objs.size<=C)
  (ho:s4.os=s2.os) (hg:s4.gens=s2.gens) (keep:∀ b o,s2.heap.get? b=some o->s4.heap.get? b=some o) (hcs:∀ x c,(ocl X sc C).lookup x=some c->∃ v,s4.heap.IsCell c v) (hns:s4.heap.Ns C m) (hl:τ.length=N.length)
  (cap:∀ (i:Nat) (x:Str) (v:V),N[i]?=some x->τ[i]?=some (some v)->Vis (relabel sc X.env) x->sc.names.lookup x=some .free/\∃ j:Nat,X.N[j]?=some x/\σ[j]?=some (some v)) (h4:0<s4.toks) :
  Inv (wJ X N sc C s2 H2 fp pins xe) [] τ H2 s4:=by
 refine⟨uY I2 B f2 hfp hC,ho,by rw[hg];exact I2.bare,Un.kept keep,⟨m,hns,λi x v hN hτ hv=>?_⟩,hcs,I2.hok.fresh hC,λx c h=>?_,λp hp=>?_,I2.hok.kept keep,hl,h4⟩
 .obtain ⟨hnl,j,hj,hσ⟩:=cap i x v hN hτ hv;have hmem:=qY hnl;have hf:=B.free x hmem
  have hkind:(relabel sc X.env).names.lookup x=some .cell\/(relabel sc X.env).names.lookup x=some .free:=by
   rcases hv with h|h|h
   .obtain ⟨k,hk,e⟩:=xA h;rw[hnl] at hk;cases hk;rcases e with e|⟨_,e⟩<;>cases e
   .exact .inl h
   .exact .inr h
  obtain⟨m0,_,hl0⟩:=I2.loc;obtain⟨u,r,lk⟩:=hl0 j x v hj hσ (hf.elim (λh=>.inr (.inl h)) λh=>.inr (.inr h));refine⟨u,r,.inr ⟨hkind,?_⟩⟩;rcases lk with⟨hk,_⟩|⟨_,c,hc,hcell⟩
  .rw[hk] at hf;rcases hf with hf|hf<;>cases hf
  .obtain ⟨c',hc'⟩:=zcH (X:=X) (C:=C) (.inl hmem);rcases kW I2.ok B hc' with⟨e,_⟩|⟨e,_⟩
   .rw[hc] at e;cases e;refine⟨c,hc',?_⟩;obtain⟨o,e1,r1⟩:=hcell;exact⟨o,keep _ _ e1,r1⟩
   .rw[hnl] at e;cases e
 .rcases kW I2.ok B h with⟨e,_⟩|⟨_,e⟩
  .exact I2.freeC x c e
  .exact I2.hok.fresh (Ze hC (ZaQ e))
 .have hp':p∈X.pn++pins:=by simpa[wJ] using hp
  obtain⟨q1,q2,q3,q4,q5⟩:=I2.pin p hp';refine⟨keep _ _ q1,q2,Zo (Zj (Zd q1) hC),λz=>?_,q5⟩;rcases Zh.mp (I2.stkSub _ z) with h|h
  .exact q3 h
  .exact q4 h
end
theorem uW.adopt {P:Program} {w:World} {H:Hp} {h h':Heap} {a:Addr} {o:HO} (x:uW P w H h) (k:∀ b u v,H b=some v->h.get? b=some u->h'.get? b=some u) (hn:H a=none) (new:xK P w (yG H a o) h' a o):uW P w (yG H a o) h':=λb u e=>by
 by_cases hb:b=a
 .subst hb;rw[yI] at e;cases e;exact new
 .rw[zA hb] at e;refine(x b u e).stay (λc v hc q=>?_) (λc q=>by rw[zA (yP q hn)];exact q) λc xs q=>by rw[zA (yP q hn)];exact q
  rcases hc with rfl|hc
  .exact k _ _ _ e q
  .exact k _ _ _ hc q
end L2
namespace L2
open PySem PySem.Spec PyProof.Rows PySem.Calls
noncomputable def PTs (X:Cx) (ifs:List Expr) (t:TT):Prop :=
 ∀ (pins:PL) (s:Shared) (σ:St) (H:Hp) (Q:Bool->Hp->Prop),Inv X pins σ H s->t σ H Q ->
  wpAny 'b' X.A (forIn ifs true λc r=>if r=true then do let ok ← isTrue c X.env (eval c X.env);pure (ForInStep.yield ok) else pure (ForInStep.yield r)) (TP X pins σ Q) X.xe s
theorem zgL {X:Cx}:PTs X [] (λ_ H Q=>Q true H):=λ_ _ _ H _ I h=>wpAny_tests_nil ⟨H,I,h⟩
theorem zgK {X:Cx} {c:Expr} {t:TT} (h:PT X c t):PTs X [c] t:=λpins s σ H Q I q=>wpAny_tests_one (h pins s σ H Q I q)
noncomputable def tLCb (J:It) (τ:St) (g:TG) (tc:TT) (te:TE) (Qf:List V->Hp->Prop) (H1:Hp):Prop :=
 ∃ Pv:Nat->Nat->St->List V->Hp->Prop,(∃ m,Pv 0 m τ [] H1)/\∀ i m τ acc H,Pv i m τ acc H ->
  (J.stop i H/\Qf acc H) \/
  (J.go i H/\acc.length<sizeLine/\∀ x H',J.yld i H x H'->g x τ H' λσ2 H2=>tc σ2 H2 λb H3=>if b=true then te σ2 H3 λv H4=>∃ m',m' < m/\Pv (i+1) m' σ2 (acc++[v]) H4 else ∃ m',m' < m/\Pv (i+1) m' σ2 acc H3)
structure Off (X:Cx) (pins:PL) (C:Addr):Prop where
 ne:C≠X.env.locals
 ge:X.s₀.heap.objs.size<=C
 cl:∀ x c,X.env.cells.lookup x=some c->c≠C
 pn:∀ p∈X.pn++pins,p.1≠C
theorem Off.turned {X:Cx} {pins:PL} {C:Addr} {σ:St} {H:Hp} {s:Shared} {h':Heap} (o:Off X pins C) (I:Inv X pins σ H s) (hn:H C=none) (k:Heap.SameBut C s.heap h'):Inv X pins σ H {s with heap:=h'} :=
 I.turned (t':=s.toks) (λb u hb e=>k.extBut b u hb e) hn o.ne (.inr o.ge) o.cl o.pn
theorem Inv.off {X:Cx} {pins:PL} {σ:St} {H:Hp} {s:Shared} {C:Addr} (I:Inv X pins σ H s) (hC:s.heap.objs.size<=C):Off X pins C :=
 ⟨(Zo (Zj I.lt hC)).symm,Ze I.sz hC,λx c h=>by
  obtain⟨v,o,e,_⟩:=I.cell x c h;exact Zo (Zj (Zd e) hC),λp hp=>Zo (Zj (Zd (I.pin p hp).1) hC)⟩
noncomputable abbrev xI (its:List Value) (n:Nat):Obj:={ cls:=.type "list", data:=.seq its.toArray n}
set_option maxHeartbeats 8000000 in
theorem zc0 {X:Cx} {pins:PL} {σ τ:St} {H2:Hp} {s2:Shared} {sc:Scope} {N:List Str} {fp:List Addr} {it:Addr} {tn:Nat->Heap->Prop} {J:It} {tg iter elt:Expr} {ifs:List Expr} {pos:Pos} {g:TG} {tc:TT} {te:TE}
  {Qf:List V->Hp->Prop} {RR:Value->Addr->Result->Shared->Prop} {E:VP}
  (hc:X.calm=true) (I2:Inv X pins σ H2 s2) (T:Turn X.prog X.w X.K tg J fp it tn) (t0:tn 0 s2.heap) (f2:∀ b∈fp,qU X pins H2 b) (B:BlkSc X sc) (hl:τ.length=N.length)
  (cap:∀ (i:Nat) (x:Str) (v:V),N[i]?=some x->τ[i]?=some (some v)->Vis (relabel sc X.env) x->sc.names.lookup x=some .free/\∃ j:Nat,X.N[j]?=some x/\σ[j]?=some (some v))
  (hg:∀ X',IsBlock X N sc X'->PG X' tg g) (ht:∀ X',IsBlock X N sc X'->PTs X' ifs tc) {PX:Cx->Prop} (hpx:∀ D C,s2.heap.objs.size<=C->PX (wJ X N sc C s2 H2 fp pins (notedBy 'b' X.A (compEnvC sc (ocl X sc C) C X.env) λe s'=>RR (.ref D) C (.error e) s'))) (he:∀ X',IsBlock X N sc X'.nox->PX X'->PE X' elt te)
  (h:tLCb J τ g tc te Qf H2)
  (fin:∀ (D C:Addr) (acc:List V) (H':Hp) (s':Shared) (m:Str->Option Value),D≠C->H' D=none->H' C=none->Off X pins C->Inv X pins σ (yG H' D (.lst acc)) s'->s'.heap.Ns C m->Qf acc H'->RR (.ref D) C (.ok .next) s') :
  wpAny 'b' X.A (newList []) (λacc s₃=>wpAny 'b' X.A (newFunctionEnv sc X.env.globals (clo X.env sc.names []) [] X.env.qual none .none (some X.env)) (λcenv s₄ =>
   codeAny 'b' X.A (.compStart (.ListComp elt [⟨tg,iter,ifs,0⟩] sc pos) 0 (.ref it) acc {cenv with scope:=relabel sc X.env}) (RR acc cenv.locals) s₄) E s₃) E s2:=by
 refine Z5 (nfe λh₁ heq hns₁ hk₁=>?_);dsimp only at heq hns₁ hk₁ ⊢;generalize hH2:s2.heap.push { cls:=.type "list", dict:=none,data:=.seq ([]:List Value).toArray}=G2 at heq hns₁ hk₁ ⊢
 have hcs:∀ x c,(ocl X sc G2.objs.size).lookup x=some c->∃ v,h₁.IsCell c v:=λx c e=>by
  rw[heq];refine pP sc.names (G2.push { cls:=.type "dict", data:=.dict #[]}) (clo X.env sc.names []) (λy d q=>?_) x c (by rw[ZH];exact e);obtain⟨v,o,ho,hd⟩:=I2.cell y d (kQ I2.ok B q).1;exact⟨v,o,Zb _ (hH2▸Zb _ ho),hd⟩
 have hC:G2.objs.size=s2.heap.objs.size+1:=by rw[← hH2,ZH]
 have hDC:s2.heap.objs.size≠G2.objs.size:=by rw[hC];exact Zo (Zbe _)
 have hCle:s2.heap.objs.size<=G2.objs.size:=by rw[hC];exact Zb0 _
 have below:∀ b,b<s2.heap.objs.size->b≠G2.objs.size/\b≠s2.heap.objs.size:=λb hb=>⟨by rw[hC];exact Zo (ZaI hb),Zo hb⟩
 have hfp:∀ b∈fp,b<s2.heap.objs.size:=λb hb=>by
  obtain⟨o,e,_⟩:=T.obj _ _ t0 b hb;exact Zd e
 have hDf:∀ b∈fp,b≠s2.heap.objs.size:=λb hb=>(below b (hfp b hb)).2;have hCf:∀ b∈fp,b≠G2.objs.size:=λb hb=>(below b (hfp b hb)).1;have old:∀ b o,s2.heap.get? b=some o->h₁.get? b=some o:=λb o e=>hk₁ b o (hH2▸Zb _ e);have hacc:h₁.get? s2.heap.objs.size=some (xI [] 0):=hk₁ _ _ (hH2▸Zl _ rfl)
 have fresh:∀ a,s2.heap.objs.size<=a->s2.heap.get? a=none:=λa ha=>by
  cases e:s2.heap.get? a with
  |none=>rfl
  |some o'=>exact absurd (Zd e) (Nat.not_lt.mpr ha)
 have hsub:∀ b∈sN X.stack,b<s2.heap.objs.size:=λb hb=>by
  obtain⟨_,o,e,_⟩:=I2.stack.mem hb;exact Zd e
 obtain⟨Pv,⟨m0,p0⟩,step⟩:=h;generalize hD:s2.heap.objs.size=D at *;generalize hCe:G2.objs.size=C at *;have hpx:=hpx D C hCle;have hXb:IsBlock X N sc (wJ X N sc C s2 H2 fp pins (notedBy 'b' X.A (compEnvC sc (ocl X sc C) C X.env) λe s'=>RR (.ref D) C (.error e) s')).nox:=gW ..;generalize hXd:wJ X N sc C s2 H2 fp pins (notedBy 'b' X.A (compEnvC sc (ocl X sc C) C X.env) λe s'=>RR (.ref D) C (.error e) s')=X' at hXb hpx;have exe:X'.xe=notedBy 'b' X.A (compEnvC sc (ocl X sc C) C X.env) λe s'=>RR (.ref D) C (.error e) s':=by rw[← hXd];rfl
 have J0:Inv X' [] τ H2 {s2 with heap:=h₁}:=by
  rw[← hXd];exact cZ (s4:={s2 with heap:=h₁}) I2 B f2 (by rw[hD];exact hfp) (by rw[hD];exact hCle) rfl rfl old hcs hns₁ hl cap I2.tk
 have offD:Off X' [] D:=by
  rw[← hXd];refine⟨hDC,by show s2.heap.objs.size<=D;rw[hD];exact zzR _,λx c hx=>?_,λp hp=>?_⟩
  .rcases kW I2.ok B hx with⟨q,_⟩|⟨_,q⟩
   .have:=zaF I2 q;rw[hD] at this;exact Zo this
   .exact Z3 (ZaW hCle q)
  .have hp':p∈X.pn++pins:=by simpa[wJ] using hp
   have:=Zd (I2.pin p hp').1;rw[hD] at this;exact Zo this
 have offC:Off X pins C:=I2.off (by rw[hD];exact hCle)
 have fpok:∀ {H':Hp} {ob:Obj},(∀ b∈fp,H' b=none)->∀ b∈fp,qU X' [(D,ob)] H' b:=λ{H' ob} hn b hb=>by
  rw[← hXd];refine⟨hn b hb,hCf b hb,λz=>(uY (N:=N) I2 B f2 (by rw[hD];exact hfp) (by rw[hD];exact hCle)).exfs b hb z,.inl hb,λx c hx=>(uY (N:=N) I2 B f2 (by rw[hD];exact hfp) (by rw[hD];exact hCle)).exf b hb |>.2 x c hx,λp hp=>?_⟩;rcases ZA.mp hp with hp|hp
  .exact (f2 b hb).2.2.2.2.2 p hp
  .rw[zzO hp];exact(hDf b hb).symm
 have Dfs:D∉X'.fs:=by
  rw[← hXd];intro z;exact Z1 _ (hsub D z)
 have pinD:∀ {H':Hp} {τ':St} {s':Shared} {its:List Value} {n:Nat},Inv X' [] τ' H' s'->H' D=none->s'.heap.get? D=some (xI its n)->Inv X' [(D,xI its n)] τ' H' s':=λ{H' τ' s' its n} I hn e =>
  I.pins_of λp hp=>by
   rw[zzO hp];exact⟨e,hn,by rw[← hXd];exact hDC,Dfs,λv z=>nomatch z⟩
 have loop:∀ s₃:Shared,s₃={s2 with heap:=h₁} ->
   codeAny 'b' X.A (.compLoop (.ListComp elt [⟨tg,iter,ifs,0⟩] sc pos) 0 (.ref it) (.ref D) (compEnvC sc (ocl X sc C) C X.env)) (RR (.ref D) C) s₃:=by
  rintro s₃ rfl;have tn0:tn 0 h₁:=T.keep _ _ _ t0 λb _ o e=>old b o e;have fr0:∀ b∈fp,H2 b=none:=λb hb=>(f2 b hb).1;have Df0:H2 D=none:=I2.hok.fresh (by rw[hD];exact zzR _);have eX:X'.env=compEnvC sc (ocl X sc C) C X.env:=by rw[← hXd];rfl
  have ep:X'.prog=X.prog:=hXb.prog;have ew:X'.w=X.w:=hXb.w;have eA:X'.A=X.A:=hXb.A;refine zab (λk s'=>∃ i τ' acc H' its n,Inv X' [] τ' H' s'/\tn i s'.heap/\(∀ b∈fp,H' b=none)/\H' D=none/\s'.heap.get? D=some (xI its n)/\yW acc its/\acc.length<=sizeLine/\Pv i k τ' acc H') ?_ m0 ⟨0,τ,[],H2,[],0,J0,tn0,fr0,Df0,hacc,.nil,Zy _,p0⟩;rintro k s3 ⟨i,τ3,acc,H3,its,n,I3,st3,fr3,D3,o3,v3,lenA,p3⟩;have I3':=pinD I3 D3 o3;rcases step i k τ3 acc H3 p3 with⟨stop,qf⟩|⟨go,hsz,turn⟩
  .have td:=T.done X' ep ew hXb.K (by rw[hXb.calm];exact hc) i _ s3 τ3 H3 'k' I3' (fpok fr3) st3 stop;rw[eA] at td;refine thn td λr s4 ⟨hr,I4⟩=>?_;subst hr;have o4:=(I4.pin (D,xI its n) (Zk _ (ZJ.mpr rfl))).1;obtain⟨m4,hn4,_⟩:=I4.loc;rw[eX] at hn4;refine fin D C acc H3 s4 m4 hDC D3 ?_ offC ?_ hn4 qf
   .have:=I4.free;rw[eX] at this;exact this
   .have base:Un (sN X.stack) fp H2 H3 s2.heap s4.heap:=by have:=I4.base;rw[← hXd] at this;exact this
    have hb:∀ b o,s2.heap.get? b=some o->b≠D:=λb o e=>by have:=Zd e;rw[hD] at this;exact Zo this
    refine I2.call' (ch:=fp) (by have:=I4.os;rw[← hXd] at this;exact this) ⟨base.keep,base.slot,λb o e n' hx=>?_,base.there,λb xs e=>?_,λb o u e=>?_,λb ps e=>?_⟩ ?_ I4.bare ?_ I4.tk
    .rw[zA (hb b o e)];exact base.free b o e n' hx
    .rw[zA (yP (base.tups b xs e) D3)];exact base.tups b xs e
    .rw[zA (yP (base.frzs b o u e) D3)];exact base.frzs b o u e
    .obtain ⟨mo,e'⟩:=base.tbls b ps e;exact⟨mo,by rw[zA (yP e' D3)];exact e'⟩
    .have hk:=I4.hok;rw[ep,ew] at hk;exact hk.adopt (λb u v _ q=>q) D3 ⟨lenA,its,n,v3,o4⟩
    .intro b hb';obtain⟨q1,q2,q3,q4,q5,q6⟩:=f2 b hb';exact⟨q4,q2,q5,q6⟩
  .have td:=T.item X' ep ew hXb.K (by rw[hXb.calm];exact hc) i _ s3 τ3 H3 'k' I3' (fpok fr3) st3 go;rw[eA] at td;refine thn td λr s4 ⟨u,hr,h4⟩=>?_;subst hr;refine thn h4 λ_ s5 ⟨x,H5,I5,r5,y5,st5,fr5⟩=>?_;have I5':=I5.pinned (fpok fr5) (T.obj _ _ st5);have q1:=hg X'.nox hXb _ s5 τ3 H5 x u _ (I5'.wish _) r5 (turn x H5 y5);rw[show X'.nox.prog=X.prog from ep,show X'.nox.w=X.w from ew,show X'.nox.A=X.A from eA,show X'.nox.env=_ from eX,hXb.xe] at q1;refine thn q1 λ_ s6 ⟨σ6,H6,I6,q6⟩=>?_;have q2:=ht X'.nox hXb _ s6 σ6 H6 _ I6 q6;rw[show X'.nox.prog=X.prog from ep,show X'.nox.w=X.w from ew,show X'.nox.A=X.A from eA,show X'.nox.env=_ from eX,hXb.xe] at q2;refine thn q2 λb s7 ⟨H7,I7n,q7⟩=>?_;have I7:=I7n.unwish
   have back:∀ {H8:Hp} {s8:Shared},Inv X' ([(D,xI its n)]++xU fp s5.heap) σ6 H8 s8->Inv X' [] σ6 H8 s8/\tn (i+1) s8.heap/\(∀ b∈fp,H8 b=none)/\H8 D=none/\s8.heap.get? D=some (xI its n):=λ{H8 s8} I8=>by
    have pp:∀ p,p∈[(D,xI its n)]++xU fp s5.heap->_:=λp hp=>I8.pin p (Zk _ hp);refine⟨I8.pins_of (pins':=[]) (λp hp=>nomatch hp),T.keep _ _ _ st5 λb hb o e=>(pp (b,o) (Zk _ (xB hb e))).1,λb hb=>?_,?_,?_⟩
    .obtain ⟨o,e,d⟩:=T.obj _ _ st5 b hb;exact(pp (b,o) (Zk _ (xB hb e))).2.1
    .exact (pp (D,xI its n) (Zs _ (ZJ.mpr rfl))).2.1
    .exact (pp (D,xI its n) (Zs _ (ZJ.mpr rfl))).1
   cases b with
   |false =>
    rw[if_neg 'c'] at q7;rw[if_neg 'c'];obtain⟨m',hm,p'⟩:=q7;obtain⟨b1,b2,b3,b4,b5⟩:=back I7;exact⟨m',hm,i+1,σ6,acc,H7,its,n,b1,b2,b3,b4,b5,v3,lenA,p'⟩
   |true =>
    rw[if_pos rfl] at q7;rw[if_pos rfl];have q3:=he X' hXb hpx _ s7 σ6 H7 _ I7 q7;rw[ep,ew,eA,eX,exe] at q3;refine thn q3 λy s8 ⟨v,H8,I8,r8,m',hm,p'⟩=>?_;obtain⟨b1,b2,b3,b4,b5⟩:=back I8;refine append_at (hsz:=by show its.toArray.size<=sizeLine;rw[zzS,← v3.length];exact ZaQ hsz) b5 λh₅ hs₅ hD₅=>?_;refine⟨m',hm,i+1,σ6,acc++[v],H8,its++[y],n+1,offD.turned b1 b4 hs₅,T.keep _ _ _ b2 λb hb o e=>hs₅.extBut b o (hDf b hb) e,b3,b4,?_,v3.append (.cons r8 .nil),by rw[zzW];exact hsz,p'⟩;show h₅.get? D=_;rw[hD₅,List.push_toArray]
 exact codeAny_compStart_list (loop _ rfl) (T.self _ 0 _ _ _ (T.keep _ _ _ t0 λb _ o e=>old b o e) (loop _ rfl))
noncomputable def tLC (wi:TI) (cap:St->St) (g:TG) (tc:TT) (te:Hp->TE):TE:=λσ H Q=>wi σ H λJ H1=>tLCb J (cap σ) g tc (te H) (λacc H'=>∀ p,H' p=none->Q (.ref p) (yG H' p (.lst acc))) H1
section
variable {X:Cx} {sc:Scope} {N:List Str} {tg iter elt:Expr} {ifs:List Expr} {pos:Pos} {wi:TI} {g:TG} {tc:TT} {te:Hp->TE} {cap:St->St}
noncomputable def Caps (X:Cx) (sc:Scope) (N:List Str) (cap:St->St):Prop:=∀ σ:St,σ.length=X.N.length->(cap σ).length=N.length /\
 ∀ (i:Nat) (x:Str) (v:V),N[i]?=some x->(cap σ)[i]?=some (some v)->Vis (relabel sc X.env) x->sc.names.lookup x=some .free/\∃ j:Nat,X.N[j]?=some x/\σ[j]?=some (some v)
theorem pe_lc (hc:X.calm=true) (hi:PI X tg iter wi) (B:BlkSc X sc) (hcap:Caps X sc N cap)
  (hg:∀ X',IsBlock X N sc X'->PG X' tg g) (ht:∀ X',IsBlock X N sc X'->PTs X' ifs tc) (he:∀ H X',IsBlock X N sc X'->PE X' elt (te H))
  (hs:∀ x,foldedSetIterable iter X.env x=pure x:=by intro _;rfl):PE X (.ListComp elt [⟨tg,iter,ifs,0⟩] sc pos) (tLC wi cap g tc te):=by
 intro pins s σ H Q I h;rw[eval_ListComp];refine ZaS (use:=none) rfl hs (tV λx hx=>I.ok.has x (B.free x hx)) B.kind B.names (thn (hi pins s σ H _ I h) λv s1 h1=>thn h1 λitv s2 h2=>?_);obtain⟨it,fp,tn,J,H2,e,I2,T,st2,f2,q⟩:=h2;subst e;obtain⟨cl,cc⟩:=hcap σ I.len;refine zc0 (RR:=λacc C=>compPost 'b' X.A X.xe none (EP X pins σ Q) acc C) hc I2 T st2 f2 B cl cc hg ht (PX:=λ_=>True) (λ_ _ _=>trivial) (λX' b _=>(he H X'.nox b).nox) q λD C acc H' s' m hDC hD hC off I' hn qf=>?_;refine⟨m,hn,λh' hk=>⟨.ref D,_,off.turned I' (by rw[zA hDC.symm];exact hC) hk,rfl,qf D hD⟩⟩
theorem zeo {i:Nat} {y:Str} {py spos:Pos} (hc:X.calm=true) (hi:PI X tg iter wi) (B:BlkSc X sc) (hcap:Caps X sc N cap)
  (hg:∀ X',IsBlock X N sc X'->PG X' tg g) (ht:∀ X',IsBlock X N sc X'->PTs X' ifs tc) (he:∀ H X',IsBlock X N sc X'->PE X' elt (te H))
  (hN:X.N.Nodup) (hy:X.N[i]?=some y) (hx:Loc X.env.scope y) (hf:X.fn y=true\/X.env.scope.names.lookup y=some .local)
  (hsw:swapsWith (.ListComp elt [⟨tg,iter,ifs,0⟩] sc pos) (some (.Name y py)) spos.line X.env=pure true)
  (hs:∀ x,foldedSetIterable iter X.env x=pure x:=by intro _;rfl):PS X (.Assign [.Name y py] (.ListComp elt [⟨tg,iter,ifs,0⟩] sc pos) spos) (tAsg (tLC wi cap g tc te) (zfc i)):=by
 intro pins s σ H D I h;rw[exec_Assign_Name_used _ _ _ _ hsw];refine Za (Zao (Za ?_));show wpAny _ X.A (do let _ ← comprehension (.ListComp elt [⟨tg,iter,ifs,0⟩] sc pos) sc X.env _ (newList []) false (eval iter X.env) (some (assign (.Name y py) X.env))) _ _ s
 refine Za (Zv (ZaS (use:=some (assign (.Name y py) X.env)) (Q:=λ_ s'=>SP X pins D .next s') rfl hs (tV λx hx=>I.ok.has x (B.free x hx)) B.kind B.names
  (thn (hi pins s σ H _ I h) λv s1 h1=>thn h1 λitv s2 h2=>?_)) (λ_ s' hq=>Zc (Zc hq)) λ_ _ e=>e)
 obtain⟨it,fp,tn,J,H2,e,I2,T,st2,f2,q⟩:=h2;subst e;obtain⟨cl,cc⟩:=hcap σ I.len;refine zc0 (RR:=λacc C=>compPost 'b' X.A X.xe (some (assign (.Name y py) X.env)) (λ_ s'=>SP X pins D .next s') acc C) hc I2 T st2 f2 B cl cc hg ht (PX:=λ_=>True) (λ_ _ _=>trivial) (λX' b _=>(he H X'.nox b).nox) q λD' C acc H' s' m hDC hD hC off I' hn qf=>?_;show wpAny _ X.A (assign (.Name y py) X.env (.ref D')) _ _ _;refine wpAny_assign_Name (fU I' hN hy hx (v:=.ref D') rfl (λs'' I'' hsm=>?_) hf);obtain⟨a,hsb,ha⟩:=hsm
 have hCa:C≠a:=by
  rcases ha with ha|ha
  .rw[ha];exact off.ne
  .exact (off.cl y a ha).symm
 refine⟨m,hn.sameBut hsb hCa,λh' hk=>⟨_,_,off.turned I'' (by rw[zA hDC.symm];exact hC) hk,qf D' hD⟩⟩
end
end L2
namespace L3
open PySem PySem.Spec PyProof.Rows L2 PySem.SeqAt
mutual
noncomputable def xE:W->W->Bool
 | .non,.non=>true
 | .bl a,.bl b=>a==b
 | .bl a,.int j=>(if a then 1 else 0)==j
 | .int i,.bl b=>i==(if b then 1 else 0)
 | .int i,.int j=>i==j
 | .str x,.str y=>x==y
 | .tup xs,.tup ys=>yS xs ys
 |_,_=>false
noncomputable def yS:List W->List W->Bool
 | [],[]=>true
 |x::xs,y::ys=>xE x y&&yS xs ys
 |_,_=>false
end
mutual
noncomputable def pur:W->Bool
 | .ref _=>false
 | .ty _=>false
 | .lsf _=>false
 | .exc _ _ _=>false
 | .dcf _ _=>false
 | .tup ws=>yH ws
 |_=>true
noncomputable def yH:List W->Bool
 | []=>true
 |w::ws=>pur w&&yH ws
end
mutual
noncomputable def dep:W->Nat
 | .tup ws=>xS ws+1
 |_=>0
noncomputable def xS:List W->Nat
 | []=>0
 |w::ws=>max (dep w) (xS ws)
end
theorem yA {w:W} {ws:List W}:yH (w::ws)=true↔pur w=true/\yH ws=true:=by simp[yH]
section
variable {X:Cx} {pins:PL} {σ:L2.St} {H:Hp} {s:Shared}
theorem W.ind {P:W->Prop} (non:P .non) (bl:∀ b,P (.bl b)) (int:∀ i,P (.int i)) (str:∀ x,P (.str x)) (ty:∀ n,P (.ty n)) (ref:∀ a,P (.ref a)) (tup:∀ ws,(∀ w∈ws,P w)->P (.tup ws)) (lsf:∀ ws,P (.lsf ws)) (exc:∀ C ns ws,P (.exc C ns ws)) (dcf:∀ ks ws,P (.dcf ks ws)):∀ w:W,P w:=λw =>
 W.rec (motive_1:=P) (motive_2:=λws=>∀ w∈ws,P w) non bl int str ty ref (λws h=>tup ws h) (λws _=>lsf ws) (λC ns ws _=>exc C ns ws) (λks ws _=>dcf ks ws) (λ_ h=>nomatch h) (λw ws h hs v hv=>(Zh.mp hv).elim (λe=>e▸h) (hs v)) w
theorem zaX {ws:List W} (h:yH ws=true):∀ w∈ws,pur w=true:=by
 induction ws with
 |nil=>intro w hw;cases hw
 |cons x xs ih =>
  intro w hw;have h':=yA.mp h;rcases Zh.mp hw with e|hw
  .rw[e];exact h'.1
  .exact ih h'.2 w hw
theorem zbO:∀ (ws:List W),(∀ w∈ws,pur w=true->xE w w=true)->yH ws=true->yS ws ws=true:=by
 intro ws
 induction ws with
 |nil=>intro _ _;simp[yS]
 |cons w ws ih =>
  intro h hp;have h':=yA.mp hp;simp only[yS,h w zzT h'.1,ih (λz hz=>h z (Zi _ hz)) h'.2,Zb1]
theorem uZ {w:W}:pur w=true->xE w w=true:=by
 induction w using W.ind with
 |non=>intro _;simp[xE]
 |bl _=>intro _;simp[xE]
 |int _=>intro _;simp[xE]
 |str _=>intro _;simp[xE]
 |ty _=>intro h;cases h
 |lsf _=>intro h;cases h
 |exc _ _ _=>intro h;cases h
 |dcf _ _=>intro h;cases h
 |ref _=>intro h;cases h
 |tup ws ih=>intro h;exact zbO ws ih h
theorem fP (I:Inv X pins σ H s):∀ (xs ys:List W) (vs:List V),(∀ x∈xs,∀ (y:W) (v:V),xF X.K H x v->xF X.K H y v->pur x=true->pur y=true->x=y)->yY X.K H xs vs->yY X.K H ys vs->yH xs=true->yH ys=true->xs=ys:=by
 intro xs
 induction xs with
 |nil =>
  intro ys vs _ h h' _ _
  cases ys with
  |nil=>rfl
  |cons y ys=>obtain⟨_,_,e,_⟩:=h';rw[show _=[] from h] at e;cases e
 |cons x xs ih =>
  intro ys vs hx h h' px py;obtain⟨v,r,e,q,t⟩:=h;subst e
  cases ys with
  |nil=>cases h'
  |cons y ys =>
   obtain⟨v',r',e',q',t'⟩:=h';cases e';rw[hx x zzT y v q q' (yA.mp px).1 (yA.mp py).1,ih ys r (λz hz=>hx z (Zi _ hz)) t t' (yA.mp px).2 (yA.mp py).2]
theorem zcv (I:Inv X pins σ H s):∀ (x y:W) (v:V),xF X.K H x v->xF X.K H y v->pur x=true->pur y=true->x=y:=by
 intro x
 induction x using W.ind with
 |tup xs ih =>
  intro y v h h' hx hy;obtain⟨a,vs,e,q,r⟩:=h;subst e
  cases y with
  |tup ys =>
   obtain⟨b,us,e',q',r'⟩:=h';cases e';have:=I.tuple_inj q q';subst this;rw[fP I xs ys vs ih r r' hx hy]
  |ref _=>cases hy
  |ty _=>cases hy
  |lsf _=>cases hy
  |exc _ _ _=>cases hy
  |dcf _ _=>cases hy
  |non=>cases h'
  |bl _=>cases h'
  |int _=>cases h'
  |str _=>cases h'
 |ty _=>intro y v _ _ hx;cases hx
 |lsf _=>intro y v _ _ hx;cases hx
 |exc _ _ _=>intro y v _ _ hx;cases hx
 |dcf _ _=>intro y v _ _ hx;cases hx
 |ref _=>intro y v _ _ hx;cases hx
 |non =>
  intro y v h h' _ hy;cases h
  cases y with
  |tup ys=>obtain⟨_,_,e,_⟩:=h';cases e
  |ref _=>cases hy
  |ty _=>cases hy
  |lsf _=>cases hy
  |exc _ _ _=>cases hy
  |dcf _ _=>cases hy
  |non=>rfl
  |bl _=>cases h'
  |int _=>cases h'
  |str _=>cases h'
 |bl _ =>
  intro y v h h' _ hy;cases h
  cases y with
  |tup ys=>obtain⟨_,_,e,_⟩:=h';cases e
  |ref _=>cases hy
  |ty _=>cases hy
  |lsf _=>cases hy
  |exc _ _ _=>cases hy
  |dcf _ _=>cases hy
  |non=>cases h'
  |bl _=>cases h';rfl
  |int _=>cases h'
  |str _=>cases h'
 |int _ =>
  intro y v h h' _ hy;cases h
  cases y with
  |tup ys=>obtain⟨_,_,e,_⟩:=h';cases e
  |ref _=>cases hy
  |ty _=>cases hy
  |lsf _=>cases hy
  |exc _ _ _=>cases hy
  |dcf _ _=>cases hy
  |non=>cases h'
  |bl _=>cases h'
  |int _=>cases h';rfl
  |str _=>cases h'
 |str _ =>
  intro y v h h' _ hy;cases h
  cases y with
  |tup ys=>obtain⟨_,_,e,_⟩:=h';cases e
  |ref _=>cases hy
  |ty _=>cases hy
  |lsf _=>cases hy
  |exc _ _ _=>cases hy
  |dcf _ _=>cases hy
  |non=>cases h'
  |bl _=>cases h'
  |int _=>cases h'
  |str _=>cases h';rfl
theorem zej (I:Inv X pins σ H s) {xs ys:List W} {vs:List V} (h:yY X.K H xs vs) (h':yY X.K H ys vs) (hx:yH xs=true) (hy:yH ys=true):xs=ys :=
 fP I xs ys vs (λx _=>zcv I x) h h' hx hy
noncomputable def uN (xs ys:List W) (j:Nat):Bool:=match xs[j]?,ys[j]? with
 |some x,some y=>xE x y
 |_,_=>false
theorem sW:∀ xs ys:List W,((List.range (min xs.length ys.length)).all (uN xs ys)&&xs.length==ys.length)=yS xs ys
 | [],[]=>rfl
 | [],_::_=>by simp[yS]
 |_::_,[]=>by simp[yS]
 |x::xs,y::ys=>by
  have ih:=sW xs ys;simp only[Zg,Nat.add_min_add_right,yS];rw[List.range_succ_eq_map,Zax,Za9];have h0:uN (x::xs) (y::ys) 0=xE x y:=rfl;have h1:(uN (x::xs) (y::ys) ∘ Nat.succ)=uN xs ys:=by funext j;simp[uN]
  rw[h0,h1,← ih,Bool.and_assoc];congr 2;simp
theorem zfg {xs ys:List W} (h:xs.length≠ys.length):yS xs ys=false:=by
 rw[← sW];have:(xs.length==ys.length)=false:=by simpa using h
 rw[this,Zbw]
theorem zds {xs ys:List W} (h:xs.length=ys.length):(List.range xs.length).all (uN xs ys)=yS xs ys:=by
 rw[← sW,h,Nat.min_self];simp
theorem xV (I:Inv X pins σ H s) {ws:List W} {v:V} {u:Value} (h:xF X.K H (.tup ws) v) (r:yV v u):∃ a vs its,v=.ref a/\u=.ref a/\sP X.K H a vs/\yY X.K H ws vs/\yW vs its/\s.heap.IsTuple a its.toArray/\ws.length<=sizeLine:=by
 obtain⟨a,vs,rfl,q,rs⟩:=h;obtain⟨its,vr,it,hl⟩:=I.tuple q;exact⟨a,vs,its,rfl,r,q,rs,vr,it,by rw[← rs.length];exact hl⟩
theorem zbj (I:Inv X pins σ H s):∀ (xs ys:List W) (vs vs':List V) (us us':List Value) (A:Around),(∀ x∈xs,∀ (y:W) (v v':V) (u u':Value) (A:Around),xF X.K H x v->yV v u->xF X.K H y v'->yV v' u'->pur x=true->pur y=true->A.units+min (dep x) (dep y)<cLine->EqAt A s u u' (xE x y)) ->
  yY X.K H xs vs->yW vs us->yY X.K H ys vs'->yW vs' us'->yH xs=true->yH ys=true ->
  A.units+min (xS xs) (xS ys)<cLine->∀ (j:Nat) (h1:j<us.length) (h2:j<us'.length),EqAt A s us[j] us'[j] (uN xs ys j):=by
 intro xs
 induction xs with
 |nil=>intro ys vs vs' us us' A _ h r _ _ _ _ _ j h1;rw[show _=[] from h] at r;cases r;exact absurd h1 (ZbU _)
 |cons x xs ih =>
  intro ys vs vs' us us' A he h r h' r' hx hy hu j h1 h2
  cases ys with
  |nil=>rw[show _=[] from h'] at r';cases r';exact absurd h2 (ZbU _)
  |cons y ys =>
   obtain⟨v,t,e,h,hs⟩:=h;obtain⟨v',t',e',h',hs'⟩:=h';subst e;subst e'
   cases r with
   |cons r rs =>
    cases r' with
    |cons r' rs' =>
     have px:=yA.mp hx;have py:=yA.mp hy;simp only[xS] at hu
     cases j with
     |zero=>exact he x zzT y _ _ _ _ A h r h' r' px.1 py.1 'f'
     |succ j=>exact ih ys _ _ _ _ A (λz hz=>he z (Zi _ hz)) hs rs hs' rs' px.2 py.2 'f' j (Nat.lt_of_succ_lt_succ h1) (Nat.lt_of_succ_lt_succ h2)
theorem zdu (I:Inv X pins σ H s):∀ (x y:W) (v v':V) (u u':Value) (A:Around),xF X.K H x v->yV v u->xF X.K H y v'->yV v' u'->pur x=true->pur y=true->A.units+min (dep x) (dep y)<cLine->EqAt A s u u' (xE x y):=by
 intro x
 induction x using W.ind with
 |tup xs ih =>
  intro y v v' u u' A h r h' r' hx hy hu;obtain⟨a,vs,its,rfl,rfl,q,rs,vr,it,_⟩:=xV I h r
  cases y with
  |tup ys =>
   obtain⟨b,us,its',rfl,rfl,q',rs',vr',it',_⟩:=xV I h' r'
   by_cases e:a=b
   .subst e;have:=I.tuple_inj q q';subst this;have:=zej I rs rs' hx hy;subst this;rw[show xE (.tup xs) (.tup xs)=true from uZ (w:=.tup xs) hx];exact EqAt.same _
   .show EqAt A s _ _ (yS xs ys);rw[← sW];have l1:its.toArray.size=xs.length:=by rw[zzS,← vr.length,rs.length]
    have l2:its'.toArray.size=ys.length:=by rw[zzS,← vr'.length,rs'.length]
    rw[← l1,← l2];refine EqAt.of_refs e (RcAt.tuples it it' (by simp only[dep] at hu;omega) λj j1 j2=>?_);exact zbj I xs ys _ _ _ _ A.in1 ih rs vr rs' vr' hx hy (by simp only[dep] at hu;show A.units+1+_<_;omega) j (by simpa using j1) (by simpa using j2)
  |ref _=>cases hy
  |ty _=>cases hy
  |lsf _=>cases hy
  |exc _ _ _=>cases hy
  |dcf _ _=>cases hy
  |non=>cases h';cases r';exact EqAt.tuple_none it 'f'
  |bl _=>cases h';cases r';exact EqAt.tuple_bool _ it 'f'
  |int _=>cases h';obtain⟨t,rfl⟩:=r';exact EqAt.tuple_int _ _ it 'f'
  |str _=>cases h';obtain⟨t,rfl⟩:=r';exact EqAt.tuple_str _ _ it 'f'
 |ty _=>intro y v v' u u' A _ _ _ _ hx;cases hx
 |lsf _=>intro y v v' u u' A _ _ _ _ hx;cases hx
 |exc _ _ _=>intro y v v' u u' A _ _ _ _ hx;cases hx
 |dcf _ _=>intro y v v' u u' A _ _ _ _ hx;cases hx
 |ref _=>intro y v v' u u' A _ _ _ _ hx;cases hx
 |non =>
  intro y v v' u u' A h r h' r' hx hy hu;cases h;cases r
  cases y with
  |tup ys=>obtain⟨b,us,its',rfl,rfl,q',rs',vr',it',_⟩:=xV I h' r';exact EqAt.none_tuple it' 'f'
  |ref _=>cases hy
  |ty _=>cases hy
  |lsf _=>cases hy
  |exc _ _ _=>cases hy
  |dcf _ _=>cases hy
  |non=>cases h';cases r';exact EqAt.same _
  |bl _=>cases h';cases r';exact EqAt.none_bool _
  |int _=>cases h';obtain⟨t,rfl⟩:=r';exact EqAt.none_int _ _
  |str _=>cases h';obtain⟨t,rfl⟩:=r';exact EqAt.none_str _ _
 |bl _ =>
  intro y v v' u u' A h r h' r' hx hy hu;cases h;cases r
  cases y with
  |tup ys=>obtain⟨b,us,its',rfl,rfl,q',rs',vr',it',_⟩:=xV I h' r';exact EqAt.bool_tuple _ it' 'f'
  |ref _=>cases hy
  |ty _=>cases hy
  |lsf _=>cases hy
  |exc _ _ _=>cases hy
  |dcf _ _=>cases hy
  |non=>cases h';cases r';exact EqAt.bool_none _
  |bl _=>cases h';cases r';exact EqAt.bool_bool _ _
  |int _=>cases h';obtain⟨t,rfl⟩:=r';exact EqAt.bool_int _ _ _
  |str _=>cases h';obtain⟨t,rfl⟩:=r';exact EqAt.bool_str _ _ _
 |int _ =>
  intro y v v' u u' A h r h' r' hx hy hu;cases h;obtain⟨t0,rfl⟩:=r
  cases y with
  |tup ys=>obtain⟨b,us,its',rfl,rfl,q',rs',vr',it',_⟩:=xV I h' r';exact EqAt.int_tuple _ _ it' 'f'
  |ref _=>cases hy
  |ty _=>cases hy
  |lsf _=>cases hy
  |exc _ _ _=>cases hy
  |dcf _ _=>cases hy
  |non=>cases h';cases r';exact EqAt.int_none _ _
  |bl _=>cases h';cases r';exact EqAt.int_bool _ _ _
  |int _=>cases h';obtain⟨t,rfl⟩:=r';exact EqAt.int_int _ _ _ _
  |str _=>cases h';obtain⟨t,rfl⟩:=r';exact EqAt.int_str _ _ _ _
 |str _ =>
  intro y v v' u u' A h r h' r' hx hy hu;cases h;obtain⟨t0,rfl⟩:=r
  cases y with
  |tup ys=>obtain⟨b,us,its',rfl,rfl,q',rs',vr',it',_⟩:=xV I h' r';exact EqAt.str_tuple _ _ it' 'f'
  |ref _=>cases hy
  |ty _=>cases hy
  |lsf _=>cases hy
  |exc _ _ _=>cases hy
  |dcf _ _=>cases hy
  |non=>cases h';cases r';exact EqAt.str_none _ _
  |bl _=>cases h';cases r';exact EqAt.str_bool _ _ _
  |int _=>cases h';obtain⟨t,rfl⟩:=r';exact EqAt.str_int _ _ _ _
  |str _=>cases h';obtain⟨t,rfl⟩:=r';exact EqAt.str_str _ _ _ _
theorem zdt (I:Inv X pins σ H s) {xs ys:List W} {vs vs':List V} {us us':List Value} {A:Around} (h:yY X.K H xs vs) (r:yW vs us) (h':yY X.K H ys vs') (r':yW vs' us') (hx:yH xs=true) (hy:yH ys=true)
  (hu:A.units+min (xS xs) (xS ys)<cLine):∀ (j:Nat) (h1:j<us.length) (h2:j<us'.length),EqAt A s us[j] us'[j] (uN xs ys j) :=
 zbj I xs ys _ _ _ _ A (λx _=>zdu I x) h r h' r' hx hy hu
end
section
variable {X:Cx} {pins:PL} {σ:L2.St} {H:Hp} {s:Shared}
theorem ziX (I:Inv X pins σ H s) (x y:W) (v v':V) (u u':Value) (A:Around) (h:xF X.K H x v) (r:yV v u) (h':xF X.K H y v') (r':yV v' u') (hx:pur x=true) (hy:pur y=true) (hu:A.units+min (dep x) (dep y)<cLine):RcAt A s u u' (xE x y)/\RcNeAt A s u u' (!xE x y):=by
 have h0:A.units<cLine:=by omega
 cases x with
 |ref _=>cases hx
 |ty _=>cases hx
 |lsf _=>cases hx
 |exc _ _ _=>cases hx
 |dcf _ _=>cases hx
 |tup xs =>
  obtain⟨a,vs,its,rfl,rfl,q,rs,vr,it,_⟩:=xV I h r
  cases y with
  |ref _=>cases hy
  |ty _=>cases hy
  |lsf _=>cases hy
  |exc _ _ _=>cases hy
  |dcf _ _=>cases hy
  |tup ys =>
   obtain⟨b,us,its',rfl,rfl,q',rs',vr',it',_⟩:=xV I h' r';have l1:its.toArray.size=xs.length:=by rw[zzS,← vr.length,rs.length]
   have l2:its'.toArray.size=ys.length:=by rw[zzS,← vr'.length,rs'.length]
   have key:∀ (j:Nat) (j1:j<its.toArray.size) (j2:j<its'.toArray.size),EqAt A.in1 s its.toArray[j] its'.toArray[j] (uN xs ys j):=λj j1 j2 =>
    zdt I rs vr rs' vr' hx hy (A:=A.in1) (by simp only[dep] at hu;show A.units+1+_<_;omega) j (by simpa using j1) (by simpa using j2)
   show RcAt A s _ _ (yS xs ys)/\RcNeAt A s _ _ (!yS xs ys);rw[← sW,← l1,← l2];exact⟨RcAt.tuples it it' h0 key,RcNeAt.tuples it it' h0 key⟩
  |non=>cases h';cases r';exact⟨RcAt.tuple_none it h0,RcNeAt.tuple_none it h0⟩
  |bl _=>cases h';cases r';exact⟨RcAt.tuple_bool _ it h0,RcNeAt.tuple_bool _ it h0⟩
  |int _=>cases h';obtain⟨t,rfl⟩:=r';exact⟨RcAt.tuple_int _ _ it h0,RcNeAt.tuple_int _ _ it h0⟩
  |str _=>cases h';obtain⟨t,rfl⟩:=r';exact⟨RcAt.tuple_str _ _ it h0,RcNeAt.tuple_str _ _ it h0⟩
 |non =>
  cases h;cases r
  cases y with
  |ref _=>cases hy
  |ty _=>cases hy
  |lsf _=>cases hy
  |exc _ _ _=>cases hy
  |dcf _ _=>cases hy
  |tup ys=>obtain⟨b,us,its',rfl,rfl,q',rs',vr',it',_⟩:=xV I h' r';exact⟨RcAt.none_tuple it' h0,RcNeAt.none_tuple it' h0⟩
  |non=>cases h';cases r';exact⟨RcAt.none_none,RcNeAt.none_none⟩
  |bl _=>cases h';cases r';exact⟨RcAt.none_bool _,RcNeAt.none_bool _⟩
  |int _=>cases h';obtain⟨t,rfl⟩:=r';exact⟨RcAt.none_int _ _,RcNeAt.none_int _ _⟩
  |str _=>cases h';obtain⟨t,rfl⟩:=r';exact⟨RcAt.none_str _ _,RcNeAt.none_str _ _⟩
 |bl _ =>
  cases h;cases r
  cases y with
  |ref _=>cases hy
  |ty _=>cases hy
  |lsf _=>cases hy
  |exc _ _ _=>cases hy
  |dcf _ _=>cases hy
  |tup ys=>obtain⟨b,us,its',rfl,rfl,q',rs',vr',it',_⟩:=xV I h' r';exact⟨RcAt.bool_tuple _ it' h0,RcNeAt.bool_tuple _ it' h0⟩
  |non=>cases h';cases r';exact⟨RcAt.bool_none _,RcNeAt.bool_none _⟩
  |bl _=>cases h';cases r';exact⟨RcAt.bool_bool _ _,RcNeAt.bool_bool _ _⟩
  |int _=>cases h';obtain⟨t,rfl⟩:=r';exact⟨RcAt.bool_int _ _ _,RcNeAt.bool_int _ _ _⟩
  |str _=>cases h';obtain⟨t,rfl⟩:=r';exact⟨RcAt.bool_str _ _ _,RcNeAt.bool_str _ _ _⟩
 |int _ =>
  cases h;obtain⟨t0,rfl⟩:=r
  cases y with
  |ref _=>cases hy
  |ty _=>cases hy
  |lsf _=>cases hy
  |exc _ _ _=>cases hy
  |dcf _ _=>cases hy
  |tup ys=>obtain⟨b,us,its',rfl,rfl,q',rs',vr',it',_⟩:=xV I h' r';exact⟨RcAt.int_tuple _ _ it' h0,RcNeAt.int_tuple _ _ it' h0⟩
  |non=>cases h';cases r';exact⟨RcAt.int_none _ _,RcNeAt.int_none _ _⟩
  |bl _=>cases h';cases r';exact⟨RcAt.int_bool _ _ _,RcNeAt.int_bool _ _ _⟩
  |int _=>cases h';obtain⟨t,rfl⟩:=r';exact⟨RcAt.int_int _ _ _ _,RcNeAt.int_int _ _ _ _⟩
  |str _=>cases h';obtain⟨t,rfl⟩:=r';exact⟨RcAt.int_str _ _ _ _,RcNeAt.int_str _ _ _ _⟩
 |str _ =>
  cases h;obtain⟨t0,rfl⟩:=r
  cases y with
  |ref _=>cases hy
  |ty _=>cases hy
  |lsf _=>cases hy
  |exc _ _ _=>cases hy
  |dcf _ _=>cases hy
  |tup ys=>obtain⟨b,us,its',rfl,rfl,q',rs',vr',it',_⟩:=xV I h' r';exact⟨RcAt.str_tuple _ _ it' h0,RcNeAt.str_tuple _ _ it' h0⟩
  |non=>cases h';cases r';exact⟨RcAt.str_none _ _,RcNeAt.str_none _ _⟩
  |bl _=>cases h';cases r';exact⟨RcAt.str_bool _ _ _,RcNeAt.str_bool _ _ _⟩
  |int _=>cases h';obtain⟨t,rfl⟩:=r';exact⟨RcAt.str_int _ _ _ _,RcNeAt.str_int _ _ _ _⟩
  |str _=>cases h';obtain⟨t,rfl⟩:=r';exact⟨RcAt.str_str _ _ _ _,RcNeAt.str_str _ _ _ _⟩
theorem zcT (I:Inv X pins σ H s) {G:Hw} {p:Addr} {ws:List W} (ab:xP X.K H G) (e:yN G p=some ws):∃ vs its,sL X.K H p vs/\yY X.K H ws vs/\yW vs its/\s.heap.IsList p its.toArray/\PlainL s.heap p its.toArray/\ws.length<=sizeLine:=by
 obtain⟨vs,q,r⟩:=ab.seq e;obtain⟨its,vr,pl,hl⟩:=I.list q;exact⟨vs,its,q,r,vr,(let ⟨o,n,h1,h2,_,h3⟩:=pl;⟨o,h1,h2,n,h3⟩),pl,by rw[← r.length];exact hl⟩
theorem ziY (I:Inv X pins σ H s) {G:Hw} {p q:Addr} {xs ys:List W} {A:Around} (ab:xP X.K H G) (e:yN G p=some xs) (e':yN G q=some ys) (hx:yH xs=true) (hy:yH ys=true) (hu:A.units+1+min (xS xs) (xS ys)<cLine) :
  RcAt A s (.ref p) (.ref q) (yS xs ys)/\RcNeAt A s (.ref p) (.ref q) (!yS xs ys):=by
 obtain⟨vs,its,_,rs,vr,il,_⟩:=zcT I ab e;obtain⟨us,its',_,rs',vr',il',_⟩:=zcT I ab e';have h0:A.units<cLine:=by omega
 have l1:its.toArray.size=xs.length:=by rw[zzS,← vr.length,rs.length]
 have l2:its'.toArray.size=ys.length:=by rw[zzS,← vr'.length,rs'.length]
 have key:∀ (j:Nat) (j1:j<its.toArray.size) (j2:j<its'.toArray.size),EqAt A.in1 s its.toArray[j] its'.toArray[j] (uN xs ys j):=λj j1 j2 =>
  zdt I rs vr rs' vr' hx hy (A:=A.in1) hu j (by simpa using j1) (by simpa using j2)
 by_cases hl:xs.length=ys.length
 .rw[← zds hl,← l1];exact⟨RcAt.lists il il' 'f' h0 key,RcNeAt.lists il il' 'f' h0 key⟩
 .rw[zfg hl];have:(its.toArray.size != its'.toArray.size)=true:=by simp only[bne_iff_ne];omega
  exact⟨RcAt.lists_lengths il il' this h0,RcNeAt.lists_lengths il il' this h0⟩
end
end L3
namespace PySem
open Sem (wp)
open Builtin
end PySem
namespace L3
open PySem PySem.Spec PyProof.Rows L2
section
variable {X:Cx}
end
end L3
namespace L3
open PySem PySem.Spec PyProof.Rows L2 PySem.SeqAt
noncomputable abbrev R3:=W->W->Hw->Q3->Prop
noncomputable def jT (K:yM) (H:Hp) (Q:VK):Q3:=λw G'=>∀ v H',yO K H H'->xF K H' w v->xP K H' G'->Q v H'
theorem jT.mono {K:yM} {H H1:Hp} {Q:VK} (g:yO K H H1) {w:W} {G:Hw} (h:jT K H Q w G):jT K H1 Q w G:=λv H' g'=>h v H' (g.trans g')
noncomputable def sO (r:R3):Prop:=∀ x y G (Q Q':Q3),'l'->r x y G Q->r x y G Q'
noncomputable def mL (K:yM) (r:R3):R2:=λv u H Q=>∃ x y G,xF K H x v/\xF K H y u/\xP K H G/\r x y G (jT K H Q)
noncomputable def qP:Operator->R3
 | .Add=>λx y G Q=>match x,y with
  | .int i,.int j=>Q (.int (i+j)) G
  | .str a,.str b=>a.length+b.length<=sizeLine/\Q (.str (a++b)) G
  | .tup a,.tup b=>a.length+b.length<=sizeLine/\Q (.tup (a++b)) G
  | .ref p,.ref q=>(match G p,G q with
   |some (.lst xs),some (.lst ys)=>xs.length+ys.length<=sizeLine/\∀ r,G r=none->Q (.ref r) (put G r (.lst (xs++ys)))
   |_,_=>False)
  |_,_=>False
 | .Sub=>λx y G Q=>match x,y with
  | .int i,.int j=>Q (.int (i-j)) G
  |_,_=>False
 | .Mult=>λx y G Q=>match x,y with
  | .int i,.int j=>CMul i j/\Q (.int (i * j)) G
  |_,_=>False
 | .Mod=>λx y G Q=>match x,y with
  | .int i,.int j=>0<j/\Q (.int (i % j)) G
  |_,_=>False
 | .FloorDiv=>λx y G Q=>match x,y with
  | .int i,.int j=>CDiv i j/\Q (.int (i / j)) G
  |_,_=>False
 | .Pow=>λx y G Q=>match x,y with
  | .int i,.int j=>CPow i j/\Q (.int (i ^ j.toNat)) G
  |_,_=>False
 |_=>λ_ _ _ _=>False
theorem cU:∀ op,sO (qP op):=by
 intro op x y G Q Q' k h
 cases op with
 |Add =>
  cases x with
  |int i=>cases y with
   |int j=>exact k _ _ h
   |_=>exact h.elim
  |str i=>cases y with
   |str j=>exact⟨h.1,k _ _ h.2⟩
   |_=>exact h.elim
  |tup a=>cases y with
   |tup b=>exact⟨h.1,k _ _ h.2⟩
   |_=>exact h.elim
  |ref p=>cases y with
   |ref q =>
    simp only[qP] at h ⊢
    split at h
    .exact ⟨h.1,λr hr=>k _ _ (h.2 r hr)⟩
    .exact h.elim
   |_=>exact h.elim
  |_=>exact h.elim
 |Mult =>
  cases x with
  |int i=>cases y with
   |int j=>exact⟨h.1,k _ _ h.2⟩
   |_=>exact h.elim
  |_=>exact h.elim
 |Sub =>
  cases x with
  |int i=>cases y with
   |int j=>exact k _ _ h
   |_=>exact h.elim
  |_=>exact h.elim
 |Mod =>
  cases x with
  |int i=>cases y with
   |int j=>exact⟨h.1,k _ _ h.2⟩
   |_=>exact h.elim
  |_=>exact h.elim
 |FloorDiv =>
  cases x with
  |int i=>cases y with
   |int j=>exact⟨h.1,k _ _ h.2⟩
   |_=>exact h.elim
  |_=>exact h.elim
 |Pow =>
  cases x with
  |int i=>cases y with
   |int j=>exact⟨h.1,k _ _ h.2⟩
   |_=>exact h.elim
  |_=>exact h.elim
 |_=>exact h.elim
section
variable {X:Cx}
theorem yY.nil_iff {K:yM} {H:Hp} {ws:List W} {vs:List V} (h:yY K H ws vs):vs=[]↔ws=[]:=by
 have:=h.length
 constructor
 .intro e;subst e;exact ZaA this.symm
 .intro e;subst e;exact ZaA this
theorem zh2 {pins:PL} {s:Shared} {σ:L2.St} {H:Hp} {a b:Addr} {Q:VP} {E:VP} {ws:List Value} (ht:IsTup s.heap a #[]) (hb:IsTup s.heap b ws.toArray) (h:Q (.ref b) s) :
  wpAny 'b' X.A (binaryOp .Add (.ref a) (.ref b)) Q E s:=by
 obtain⟨⟨cls,dd,data,sl⟩,ho,hc,n,hd⟩:=id ht;obtain⟨⟨cls2,dd2,data2,sl2⟩,ho2,hc2,n2,hd2⟩:=id hb;simp only at hc hd hc2 hd2;subst hc hd hc2 hd2
 exact concat_meets ⟨_,ho,rfl⟩ ⟨_,ho2,rfl⟩ ZbP Zb5 Za2 ZaX (ZaR _ _)
  (tuple_addW0 a b #[] ws.toArray n n2 dd dd2 sl sl2 rfl) ⟨ho,ho2,h⟩
theorem qN {K:yM} {H:Hp} {G:Hw} {Q:VK} {ws:List W} {vs:List V} (ab:xP K H G) (r:yY K H ws vs) (h:∀ p,G p=none->jT K H Q (.ref p) (put G p (.lst ws))):∀ p,H p=none->Q (.ref p) (yG H p (.lst vs)):=λp hp =>
 h p (ab.free hp) _ _ (yB hp) rfl (ab.new hp ⟨vs,rfl,r.mono (yB hp)⟩)
theorem pU {K:yM} {H:Hp} {G:Hw} {Q:VK} {ws:List W} {vs:List V} (ab:xP K H G) (r:yY K H ws vs) (h:jT K H Q (.tup ws) G):∀ p,H p=none->Q (.ref p) (yG H p (.tup vs)):=λp hp =>
 h _ _ (yB hp) ⟨p,vs,rfl,.of yI,r.mono (yB hp)⟩ (ab.tup hp)
theorem zkB (op:Operator):tT X (binaryOp op) (mL X.K (qP op)):=by
 intro pins s σ H v u a b Q I rv ru h;obtain⟨x,y,G,rx,ry,ab,h⟩:=h
 cases op with
 |Add =>
  cases x with
  |int i =>
   cases y with
   |int j=>cases rx;cases ry;exact zjq pins s σ H _ _ _ _ Q I rv ru ⟨i,j,rfl,rfl,h _ _ .refl rfl ab⟩
   |_=>exact h.elim
  |str i =>
   cases y with
   |str j=>cases rx;cases ry;exact zbB pins s σ H _ _ _ _ Q I rv ru ⟨i,j,rfl,rfl,h.1,h.2 _ _ .refl rfl ab⟩
   |_=>exact h.elim
  |tup xs =>
   cases y with
   |tup ys =>
    obtain⟨a1,vs,its,rfl,rfl,q,rs,vr,it,_⟩:=xV I rx rv;obtain⟨b1,us,its',rfl,rfl,q',rs',vr',it',_⟩:=xV I ry ru
    by_cases e:xs=[]
    .subst e;have e1:vs=[]:=(rs.nil_iff).mpr rfl;subst e1;cases vr;exact zh2 (pins:=pins) (σ:=σ) (H:=H) it it' ⟨.ref b1,H,I,rfl,h.2 _ _ .refl ⟨b1,us,rfl,q',rs'⟩ ab⟩
    .refine zg3 pins s σ H (.ref a1) (.ref b1) _ _ Q I rfl rfl ⟨a1,b1,vs,us,rfl,rfl,q,q',λz=>e (rs.nil_iff.mp z),by rw[rs.length,rs'.length];exact h.1,λz=>?_,λ_=>?_⟩
     .have:ys=[]:=rs'.nil_iff.mp z;subst this;exact h.2 _ _ .refl ⟨a1,vs,rfl,q,by rw[Zq];exact rs⟩ ab
     .exact pU ab (rs.append rs') h.2
   |_=>exact h.elim
  |ref p =>
   cases y with
   |ref q =>
    cases rx;cases ry;simp only[qP] at h
    split at h
    .rename_i xs ys e1 e2;obtain⟨vs,q1,r1⟩:=ab.lst e1;obtain⟨us,q2,r2⟩:=ab.lst e2;exact zjp pins s σ H _ _ _ _ Q I rv ru ⟨p,q,vs,us,rfl,rfl,q1,q2,by rw[r1.length,r2.length];exact h.1,qN ab (r1.append r2) h.2⟩
    .exact h.elim
   |_=>exact h.elim
  |_=>exact h.elim
 |Sub =>
  cases x with
  |int i =>
   cases y with
   |int j=>cases rx;cases ry;exact zjl pins s σ H _ _ _ _ Q I rv ru ⟨i,j,rfl,rfl,h _ _ .refl rfl ab⟩
   |_=>exact h.elim
  |_=>exact h.elim
 |Mult =>
  cases x with
  |int i =>
   cases y with
   |int j=>cases rx;cases ry;exact zjn pins s σ H _ _ _ _ Q I rv ru ⟨i,j,rfl,rfl,h.1,h.2 _ _ .refl rfl ab⟩
   |_=>exact h.elim
  |_=>exact h.elim
 |Mod =>
  cases x with
  |int i =>
   cases y with
   |int j=>cases rx;cases ry;exact zjo pins s σ H _ _ _ _ Q I rv ru ⟨i,j,rfl,rfl,h.1,h.2 _ _ .refl rfl ab⟩
   |_=>exact h.elim
  |_=>exact h.elim
 |FloorDiv =>
  cases x with
  |int i =>
   cases y with
   |int j=>cases rx;cases ry;exact zg2 pins s σ H _ _ _ _ Q I rv ru ⟨i,j,rfl,rfl,h.1,h.2 _ _ .refl rfl ab⟩
   |_=>exact h.elim
  |_=>exact h.elim
 |Pow =>
  cases x with
  |int i =>
   cases y with
   |int j=>cases rx;cases ry;exact zjm pins s σ H _ _ _ _ Q I rv ru ⟨i,j,rfl,rfl,h.1,h.2 _ _ .refl rfl ab⟩
   |_=>exact h.elim
  |_=>exact h.elim
 |_=>exact h.elim
end
noncomputable def LtAt (A:Around) (s:Shared) (y x:Value) (b:Bool):Prop :=
 ∀ (prog:Program) (w:World) (E:VP) (Q:VP),Q (.bool b) s->wpAny 'd' A (richCompare .Lt y x) Q E s
noncomputable def Lx (A:Around) (s:Shared) (fin:Bool):List (Value×Value)->Bool->Prop
 | [],v=>v=fin
 | (p,q)::r,v=>∃ e:Bool,EqAt A s p q e/\if e=true then Lx A s fin r v else LtAt A s p q v
theorem zbw (l b:Addr) (xs ys:Array Value) (n m:Nat) (d1 d2:Option Addr) (s1 s2:Array (Option Value)) (v:Bool) :
  Meets (Builtin.«tuple.__lt__» ⟨[.ref l,.ref b],[]⟩) (λA R s=>s.heap.get? l=some { cls:=.type "tuple", dict:=d1,data:=.seq xs n,slots:=s1}/\s.heap.get? b=some { cls:=.type "tuple", dict:=d2,data:=.seq ys m,slots:=s2} /\
    Lx A.in1 s (decide (xs.size<ys.size)) (xs.toList.zip ys.toList) v/\R (.ok (.ret (.bool v))) s) :=
 .of_wp λprog w A R s h=>by
  obtain⟨hp,g,d,tk,os⟩:=s;obtain⟨hl,hb,he,h⟩:=h;have f2:=ZaP
  wp_walk using ZQ hl,ZQ hb,wpAny_forIn_list _ (λrest b s'=>b.1=none/\s'=⟨hp,g,d,tk,os⟩/\Lx A.in1 ⟨hp,g,d,tk,os⟩ (decide (xs.size<ys.size)) rest v) _
  case turn =>
   rintro⟨y,x⟩ rest b s' ⟨hb',rfl,e,he,hr⟩;refine Za (he prog w _ _ ?_)
   cases e with
   |true =>
    wp_walk
    exact⟨rfl,rfl,by simpa using hr⟩
   |false =>
    have hr:LtAt A.in1 ⟨hp,g,d,tk,os⟩ y x v:=by simpa using hr
    have hr':∀ (E:VP) (Q:VP),Q (.bool v) ⟨hp,g,d,tk,os⟩->wpAny 'd' A.in1 (richCompare .Lt y x) Q E ⟨hp,g,d,tk,os⟩:=hr prog w
    repeat (first|with_reducible refine hr' _ _ ?_|wp_step)
    exact⟨_,rfl,h⟩
  case fin =>
   rintro⟨b1,b2⟩ s' ⟨hb',rfl,hz⟩;simp only at hb';subst hb';have hz:v=decide (xs.size<ys.size):=hz;subst hz
   wp_walk
   exact⟨_,rfl,by simpa[Builtin.Tuple.tupleCompareSizes] using h⟩
  case h=>exact⟨rfl,rfl,he⟩
mutual
noncomputable def tD:W->W->Option Bool
 | .str x,.str y=>some (decide (x.cps.toList<y.cps.toList))
 | .tup xs,.tup ys=>kH xs ys
 |_,_=>none
noncomputable def kH:List W->List W->Option Bool
 | [],[]=>some false
 | [],_::_=>some true
 |_::_,[]=>some false
 |x::xs,y::ys=>if xE x y=true then kH xs ys else tD x y
end
section
variable {X:Cx} {pins:PL} {σ:L2.St} {H:Hp} {s:Shared}
noncomputable def LtOk (X:Cx) (H:Hp) (s:Shared) (x:W):Prop:=∀ (y:W) (v v':V) (u u':Value) (A:Around) (b:Bool),xF X.K H x v->yV v u->xF X.K H y v'->yV v' u'->pur x=true->pur y=true->A.units+min (dep x) (dep y)<cLine->tD x y=some b->LtAt A s u u' b
theorem zeE (I:Inv X pins σ H s):∀ (xs ys:List W) (vs vs':List V) (us us':List Value) (A:Around) (b:Bool),(∀ x∈xs,LtOk X H s x)->yY X.K H xs vs->yW vs us->yY X.K H ys vs'->yW vs' us'->yH xs=true->yH ys=true ->
  A.units+min (xS xs) (xS ys)<cLine->kH xs ys=some b->Lx A s (decide (us.length<us'.length)) (us.zip us') b
 | [],[],vs,vs',us,us',A,b,_,h,r,h',r',_,_,_,e=>by
  rw[show _=[] from h] at r;cases r;rw[show _=[] from h'] at r';cases r';cases e;rfl
 | [],y::ys,vs,vs',us,us',A,b,_,h,r,h',r',_,_,_,e=>by
  rw[show _=[] from h] at r;cases r;have l1:=h'.length;have l2:=r'.length;cases e;show true=decide (0<us'.length);rw[← l2,l1];rfl
 |x::xs,[],vs,vs',us,us',A,b,_,h,r,h',r',_,_,_,e=>by
  rw[show _=[] from h'] at r';cases r';cases e;rw[List.zip_nil_right];show false=decide (us.length<0);rfl
 |x::xs,y::ys,vs,vs',us,us',A,b,ok,h,r,h',r',px,py,hu,e=>by
  obtain⟨v,t,e1,h,hs⟩:=h;obtain⟨v',t',e2,h',hs'⟩:=h';subst e1;subst e2
  cases r with
  |cons r rs =>
   cases r' with
   |cons r' rs' =>
    have px:=yA.mp px;have py:=yA.mp py;simp only[xS] at hu;rw[ZS];refine⟨xE x y,zdu I x y _ _ _ _ A h r h' r' px.1 py.1 'f',?_⟩;simp only[kH] at e
    cases q:xE x y with
    |true =>
     rw[q,if_pos rfl] at e;rw[if_pos rfl];have:=zeE I xs ys _ _ _ _ A b (λz hz=>ok z (Zi _ hz)) hs rs hs' rs' px.2 py.2 'f' e;simpa using this
    |false =>
     rw[q,if_neg zzN] at e;rw[if_neg zzN];exact ok x zzT y _ _ _ _ A b h r h' r' px.1 py.1 'f' e
theorem zcS (I:Inv X pins σ H s):∀ x:W,LtOk X H s x:=by
 intro x
 induction x using W.ind with
 |tup xs ih =>
  intro y v v' u u' A b h r h' r' hx hy hu e;obtain⟨a,vs,its,rfl,rfl,q,rs,vr,it,_⟩:=xV I h r
  cases y with
  |tup ys =>
   obtain⟨c,us,its',rfl,rfl,q',rs',vr',it',_⟩:=xV I h' r';obtain⟨⟨cls,dd,data,sl⟩,ho,hc,n,hd⟩:=it;obtain⟨⟨cls2,dd2,data2,sl2⟩,ho2,hc2,n2,hd2⟩:=it';simp only at hc hd hc2 hd2;subst hc hd hc2 hd2;simp only[dep] at hu;intro prog w E Q hq;refine richCompare_meets_room (op:=.Lt) ⟨_,ho,rfl⟩ ⟨_,ho2,rfl⟩ F.slot_tuple_lt F.entry_tuple_lt (F.args_tuple_lt_2 _ _) (zbw a c its.toArray its'.toArray n n2 dd dd2 sl sl2 b) ⟨ho,ho2,?_,show Value.bool b≠Value.notImplemented/\Q (.bool b) s from⟨(λx=>nomatch x),hq⟩⟩ 'f';have:=zeE I xs ys _ _ _ _ A.in1 b ih rs vr rs' vr' hx hy (by show A.units+1+_<_;omega) e;simpa using this
  |_=>cases e
 |str x =>
  intro y v v' u u' A b h r h' r' hx hy hu e;cases(show v=.str x from h);obtain⟨t,rfl⟩:=r
  cases y with
  |str z =>
   cases(show v'=.str z from h');obtain⟨t',rfl⟩:=r';cases e;exactλprog w E Q hq=>PyProof.Rows.lt_str hq
  |_=>cases e
 |_=>intro y v v' u u' A b _ _ _ _ _ _ _ e;cases e
end
theorem mD {k:Str}:∀ {es:List DictEntry} {ks:List Str} {vs:List V},zib es ks vs->(es.all λe=>isExactStrKey e.key)=true/\(match(ks.zip vs).lookup k with
  |some v=>∃ u,(es.find? λe=>e.key.isStr k).map (·.val)=some u/\yV v u
  |none=>(es.find? λe=>e.key.isStr k).map (·.val)=none)
 | [],ks,vs,h=>by obtain⟨rfl,rfl⟩:=h;exact⟨rfl,rfl⟩
 |e::r,ks,vs,h=>by
  obtain⟨x,t,v,ks',vs',rfl,rfl,hk,hv,hr⟩:=h;have ih:=mD (k:=k) hr;refine⟨by rw[Zax,hk,ih.1];rfl,?_⟩;rw[ZS,ZG,Zaf,KTD.key_is hk k]
  by_cases hx:k=x
  .subst hx;simp only[beq_self_eq_true,decide_true];exact⟨e.val,rfl,hv⟩
  .have e1:(k==x)=false:=by simpa using hx
   rw[e1,decide_eq_false hx];exact ih.2
theorem zfZ {X:Cx} {pins:PL} {σ:L2.St} {H:Hp} {s:Shared} {a:Addr} {ks:List Str} {vs:List V} {k:Str} {tk:Tok} {A:Around} {Q:Option Value->Shared->Prop} {E:VP} (I:Inv X pins σ H s) (h:KD X.K a ks vs)
  (q:match(ks.zip vs).lookup k with|some v=>∀ u s',yV v u->Inv X pins σ H s'->Q (some u) s'|none=>∀ s',Inv X pins σ H s'->Q none s'):wpAny 'b' A (dictGet a (.str k tk)) Q E s:=by
 obtain⟨o,es,ep,l,_,hd,_,_,hr⟩:=h;have ho:=I.kIn _ _ l;obtain⟨hx,hf⟩:=mD (k:=k) hr;have J:Inv X pins σ H {s with toks:=s.toks+1}:=I.tok _;unfold dictGet
 try with_reducible refine ZO ?_
 refine Za (wpAny_pyHash_str (Za ?_));refine KTD.kt_dictFind_strs (s:={s with toks:=s.toks+1}) ho hd (by obtain⟨es'⟩:=es;simpa using hx) ?_
 have key:Q (findBy (λk v=>v.isStr k) es k) {s with toks:=s.toks+1}:=by
  have e:findBy (λk v=>v.isStr k) es k=(es.toList.find? λe=>e.key.isStr k).map (·.val):=by obtain⟨es'⟩:=es;simp[findBy]
  rw[e];revert q hf
  cases(ks.zip vs).lookup k with
  |some v=>intro q hf;obtain⟨u,e1,r⟩:=hf;rw[e1];exact q u _ r J
  |none=>intro q hf;rw[hf];exact q _ J
 rw[findBy_of_findIdx?] at key;revert key
 cases es.findIdx? λe=>e.key.isStr k with
 |none=>exactλkey=>Zc key
 |some i=>exactλkey=>Za (wpAny_dictEntries (s:={s with toks:=s.toks+1}) ho hd (Zc key))
theorem zhf {X:Cx} {pins:PL} {σ:L2.St} {H:Hp} {s:Shared} {a:Addr} {ks:List Str} {vs:List V} (I:Inv X pins σ H s) (h:KD X.K a ks vs):s.TypeIs (.ref a) "dict" := by
 obtain⟨o,es,ep,l,hc,_⟩:=h;exact⟨o,I.kIn _ _ l,hc.1⟩
theorem vC {K:yM} {H:Hp} {k:Str} {w:W}:∀ {ks:List Str} {ws:List W} {vs:List V},yY K H ws vs->(ks.zip ws).lookup k=some w->∃ v,(ks.zip vs).lookup k=some v/\xF K H w v
 | [],ws,vs,_,e=>by simp at e
 |x::ks,[],vs,_,e=>by simp at e
 |x::ks,y::ws,vs,r,e=>by
  obtain⟨v,vs',rfl,rv,rs⟩:=r;rw[ZS,ZG] at e ⊢
  cases hx:(k==x) with
  |true=>rw[hx] at e;cases e;exact⟨v,rfl,rv⟩
  |false=>rw[hx] at e;exact vC rs e
theorem rQ {K:yM} {H:Hp} {k:Str}:∀ {ks:List Str} {ws:List W} {vs:List V},yY K H ws vs->(ks.zip ws).lookup k=none->(ks.zip vs).lookup k=none
 | [],ws,vs,_,e=>by simp
 |x::ks,[],vs,r,e=>by rw[show vs=[] from r];rfl
 |x::ks,y::ws,vs,r,e=>by
  obtain⟨v,vs',rfl,rv,rs⟩:=r;rw[ZS,ZG] at e ⊢
  cases hx:(k==x) with
  |true=>rw[hx] at e;cases e
  |false=>rw[hx] at e;exact rQ rs e
noncomputable def sM (G:Hw):W->W->Option Bool
 | .ref p,.ref q=>match yN G p,yN G q with
  |some a,some b=>if(yH a&&yH b&&decide (min (xS a) (xS b)<=150))=true then some (yS a b) else none
  |_,_=>none
 |x,y=>if(pur x&&pur y&&decide (min (dep x) (dep y)<=150))=true then some (xE x y) else none
noncomputable def inR (neg:Bool) (x:W) (ws:List W) (G:Hw) (Q:Q3):Prop:=(pur x=true/\yH ws=true/\min (xS ws) (dep x)<=150)/\Q (.bl (if neg then !ws.any λw=>xE w x else ws.any λw=>xE w x)) G
noncomputable def rP:W->Option xM
 | .int i=>some (.inl i)
 | .str x=>some (.inr x)
 |_=>none
noncomputable def qR (neg:Bool):R3:=λx y G Q=>match y with
 | .tup ws=>inR neg x ws G Q
 | .ref p=>(match G p with
  |some (.lst ws)=>inR neg x ws G Q
  |some (.fix ws)=>inR neg x ws G Q
  |_=>False)
 |_=>False
noncomputable def isR (neg:Bool):R3:=λx y G Q=>match y with
 | .non=>Q (.bl (if neg then(match x with|.non=>false|_=>true) else(match x with|.non=>true|_=>false))) G
 | .bl b=>Q (.bl (if neg then(match x with|.bl c=>!(c==b)|_=>true) else(match x with|.bl c=>c==b|_=>false))) G
 |_=>False
noncomputable def nQ (p:Int->Int->Bool) (q:Option (Str->Str->Bool):=none):R3:=λx y G Q=>match x,y with
 | .int i,.int j=>Q (.bl (p i j)) G
 | .str i,.str j=>(match q with
  |some q=>Q (.bl (q i j)) G
  |none=>False)
 |_,_=>False
noncomputable def ltS (x y:Str):Bool:=decide (x.cps.toList<y.cps.toList)
noncomputable def leS (x y:Str):Bool:=!decide (y.cps.toList<x.cps.toList)
noncomputable def leR:R3:=λx y G Q=>match x,y with
 | .int i,.int j=>Q (.bl (decide (i<=j))) G
 | .str i,.str j=>Q (.bl (leS i j)) G
 |_,_=>False
noncomputable def ltT:R3:=λx y G Q=>match x with
 | .tup _=>(pur x=true/\pur y=true/\dep x<=100)/\∃ b,tD x y=some b/\Q (.bl b) G
 |_=>nQ (λi j=>decide (i<j)) (some ltS) x y G Q
noncomputable def yZ:CmpOp->R3
 | .Eq=>λx y G Q=>match sM G x y with|some b=>Q (.bl b) G|none=>False
 | .NotEq=>λx y G Q=>match sM G x y with|some b=>Q (.bl (!b)) G|none=>False
 | .Is=>isR false
 | .IsNot=>isR true
 | .In=>qR false
 | .NotIn=>qR true
 | .Lt=>ltT
 | .LtE=>leR
 | .Gt=>nQ λi j=>decide (j<i)
 | .GtE=>nQ λi j=>decide (j<=i)
theorem sE (p:Int->Int->Bool) (q:Option (Str->Str->Bool)):sO (nQ p q):=by
 intro x y G Q Q' k h
 cases x with
 |int i =>
  cases y with
  |int j=>exact k _ _ h
  |_=>exact h.elim
 |str i =>
  cases y with
  |str j =>
   cases q with
   |some f=>exact k _ _ h
   |none=>exact h.elim
  |_=>exact h.elim
 |_=>exact h.elim
theorem zeO:sO leR:=by
 intro x y G Q Q' k h
 cases x with
 |int i =>
  cases y with
  |int j=>exact k _ _ h
  |_=>exact h.elim
 |str i =>
  cases y with
  |str j=>exact k _ _ h
  |_=>exact h.elim
 |_=>exact h.elim
theorem dW (neg:Bool):sO (qR neg):=by
 intro x y G Q Q' k h;unfold qR at h ⊢
 cases y with
 |tup ws=>exact⟨h.1,k _ _ h.2⟩
 |ref p =>
  simp only at h ⊢
  split at h
  .exact ⟨h.1,k _ _ h.2⟩
  .exact ⟨h.1,k _ _ h.2⟩
  .exact h.elim
 |_=>exact h.elim
theorem zbc (neg:Bool):sO (isR neg):=by
 intro x y G Q Q' k h;unfold isR at h ⊢
 cases y with
 |non=>exact k _ _ h
 |bl b=>exact k _ _ h
 |_=>exact h.elim
theorem zeF:sO ltT:=by
 intro x y G Q Q' k h
 cases x with
 |tup xs=>obtain⟨h1,b,e,q⟩:=h;exact⟨h1,b,e,k _ _ q⟩
 |_=>simp only[ltT] at h ⊢;exact sE _ _ _ y G Q Q' k h
theorem xG:∀ op,sO (yZ op):=by
 intro op x y G Q Q' k h
 cases op with
 |Eq =>
  simp only[yZ] at h ⊢
  split at h
  .exact k _ _ h
  .exact h.elim
 |NotEq =>
  simp only[yZ] at h ⊢
  split at h
  .exact k _ _ h
  .exact h.elim
 |Is=>exact zbc false x y G Q Q' k h
 |IsNot=>exact zbc true x y G Q Q' k h
 |In=>exact dW false x y G Q Q' k h
 |NotIn=>exact dW true x y G Q Q' k h
 |Lt=>exact zeF x y G Q Q' k h
 |LtE=>exact zeO x y G Q Q' k h
 |Gt=>exact sE (λi j=>decide (j<i)) none x y G Q Q' k h
 |GtE=>exact sE (λi j=>decide (j<=i)) none x y G Q Q' k h
section
variable {X:Cx} {pins:PL} {σ:L2.St} {H:Hp} {s:Shared}
open Classical in
noncomputable def eqI (K:yM) (H:Hp) (x:W) (y:Value):Bool:=if ∃ w v,xF K H w v/\yV v y/\pur w=true/\xE w x=true then true else false
theorem zf7 (I:Inv X pins σ H s) {x w:W} {v:V} {y:Value} (r:xF X.K H w v) (q:yV v y) (p:pur w=true):eqI X.K H x y=xE w x:=by
 unfold eqI
 cases e:xE w x with
 |true=>rw[if_pos ⟨w,v,r,q,p,e⟩]
 |false =>
  rw[if_neg];rintro⟨w',v',r',q',p',e'⟩;have:=yV.inj q q';subst this;rw[zcv I w' w v r' r p' p,e] at e';cases e'
theorem zhE (I:Inv X pins σ H s) {x:W}:∀ {ws:List W} {vs:List V} {us:List Value},yY X.K H ws vs->yW vs us->yH ws=true->us.any (eqI X.K H x)=ws.any λw=>xE w x:=by
 intro ws
 induction ws with
 |nil=>intro vs us h r _;rw[show _=[] from h] at r;cases r;rfl
 |cons w ws ih =>
  intro vs us h r p;obtain⟨v,t,e,h,hs⟩:=h;subst e
  cases r with
  |cons r rs =>
   have p':=yA.mp p;rw[ZaH,ZaH,zf7 I h r p'.1,ih hs rs p'.2]
theorem zfp {w:W}:∀ {ws:List W},w∈ws->dep w<=xS ws:=by
 intro ws
 induction ws with
 |nil=>intro h;cases h
 |cons x xs ih =>
  intro h;simp only[xS];rcases Zh.mp h with e|h
  .rw[e];exact Nat.le_max_left _ _
  .exact Ze (ih h) (Nat.le_max_right _ _)
theorem zkt (I:Inv X pins σ H s) {x:W} {vx:V} {ux:Value} {A:Around} (rx:xF X.K H x vx) (qx:yV vx ux) (px:pur x=true):∀ {ws:List W} {vs:List V} {us:List Value},yY X.K H ws vs->yW vs us->yH ws=true->A.units+min (xS ws) (dep x)<cLine ->
  ∀ y∈us,EqAt A s y ux (eqI X.K H x y):=by
 intro ws
 induction ws with
 |nil=>intro vs us h r _ _ y hy;rw[show _=[] from h] at r;cases r;cases hy
 |cons w ws ih =>
  intro vs us h r p hu y hy;obtain⟨v,t,e,h,hs⟩:=h;subst e;simp only[xS] at hu
  cases r with
  |cons r rs =>
   have p':=yA.mp p;rcases Zh.mp hy with e|hy
   .subst e;rw[zf7 I h r p'.1];exact zdu I w x v vx _ ux A h r rx qx p'.1 px 'f'
   .exact ih hs rs p'.2 'f' y hy
theorem zav {M:Model} {A:Around} {E:VP} {Q:VP} {v:Value} {b:Bool} (hb:∀ p,v≠.builtin p) (h:Q (.bool (v==.bool b)) s):wpAny M A (compareOp .Is v (.bool b)) Q E s:=by
 cases v<;>first|exact Zc h|exact absurd rfl (hb _)
theorem hW {M:Model} {A:Around} {E:VP} {Q:VP} {v:Value} {b:Bool} (hb:∀ p,v≠.builtin p) (h:Q (.bool (!(v==.bool b))) s):wpAny M A (compareOp .IsNot v (.bool b)) Q E s:=by
 cases v<;>first|exact Zc h|exact absurd rfl (hb _)
theorem zfK {v:V} {u:Value} (r:yV v u):∀ p,u≠.builtin p:=by
 cases v<;>first
  | (obtain⟨t,e⟩:=r;subst e;intro p z;cases z)
  | (intro p z;subst z;cases r)
theorem zj2 (neg:Bool):tT X (compareOp (if neg then .IsNot else .Is)) (mL X.K (isR neg)):=by
 intro pins s σ H v u a b Q I rv ru h;obtain⟨x,y,G,rx,ry,ab,h⟩:=h;have fin:∀ k k':Bool,jT X.K H Q (.bl k) G->k=k'->EP X pins σ Q (.bool k') s:=λk k' q e=>⟨.bl k',H,I,rfl,by rw[← e];exact q _ _ .refl rfl ab⟩
 cases y with
 |non =>
  cases ry;cases ru
  have n:(match(generalizing:=false) x with|.non=>true|_=>false)=(a==Value.none)/\(match(generalizing:=false) x with|.non=>false|_=>true)=!(a==Value.none):=by
   cases x<;>first
    | (cases rx;cases rv;exact⟨rfl,rfl⟩)
    | (cases rx;obtain⟨t,rfl⟩:=rv;exact⟨rfl,rfl⟩)
    | (obtain⟨_,_,rfl,_⟩:=rx;cases rv;exact⟨rfl,rfl⟩)
  cases neg with
  |false=>exact is_none_gen (fin _ _ h n.1)
  |true=>exact isnot_none_gen (fin _ _ h n.2)
 |bl c =>
  cases ry;cases ru
  have n:(match(generalizing:=false) x with|.bl d=>d==c|_=>false)=(a==Value.bool c)/\(match(generalizing:=false) x with|.bl d=>!(d==c)|_=>true)=!(a==Value.bool c):=by
   cases x<;>first
    | (cases rx;cases rv;exact⟨rfl,rfl⟩)
    | (cases rx;cases rv;rename_i d;cases c<;>cases d<;>exact⟨rfl,rfl⟩)
    | (cases rx;obtain⟨t,rfl⟩:=rv;exact⟨rfl,rfl⟩)
    | (obtain⟨_,_,rfl,_⟩:=rx;cases rv;exact⟨rfl,rfl⟩)
  cases neg with
  |false=>exact zav (zfK rv) (fin _ _ h n.1)
  |true=>exact hW (zfK rv) (fin _ _ h n.2)
 |_=>exact h.elim
theorem pO (us:List Value) (e:Value->Bool):us.toArray.any e=us.any e:=by simp
theorem zfV (neg:Bool) (hu:X.A.units+200<cLine):tT X (compareOp (if neg then .NotIn else .In)) (mL X.K (qR neg)):=by
 intro pins s σ H v u a b Q I rv ru h;obtain⟨x,y,G,rx,ry,ab,h⟩:=h;have fin:∀ k:Bool,jT X.K H Q (.bl k) G->EP X pins σ Q (.bool k) s:=λk q=>⟨.bl k,H,I,rfl,q _ _ .refl rfl ab⟩
 have sq:∀ (p:Addr) (ws:List W) (vs:List V) (its:List Value),yY X.K H ws vs->yW vs its->(s.heap.IsTuple p its.toArray\/s.heap.IsList p its.toArray)->inR neg x ws G (jT X.K H Q) ->
   wpAny 'b' X.A (compareOp (if neg then .NotIn else .In) a (.ref p)) (EP X pins σ Q) X.xe s:=λp ws vs its rs vr ht hin=>by
  obtain⟨⟨p1,p2,p3⟩,q⟩:=hin;have he:∀ y,y∈its.toArray->EqAt X.A.in1 s y a (eqI X.K H x y):=λy hy=>zkt I rx rv p1 rs vr p2 (by show X.A.units+1+_<_;omega) y (by simpa using hy);have ea:=zhE I (x:=x) rs vr p2
  cases neg with
  |false =>
   rcases ht with ht|ht
   .exact in_tupleAt _ ht he (by rw[pO,ea];exact fin _ q)
   .exact in_listAt _ ht he (by rw[pO,ea];exact fin _ q)
  |true =>
   rcases ht with ht|ht
   .exact notIn_tupleAt _ ht he (by rw[pO,ea];exact fin _ q)
   .exact notIn_listAt _ ht he (by rw[pO,ea];exact fin _ q)
 cases y with
 |tup ws =>
  obtain⟨b1,us,its',rfl,rfl,q',rs',vr',it',_⟩:=xV I ry ru;exact sq b1 ws us its' rs' vr' (.inl it') h
 |ref p =>
  cases ry;cases ru
  have lk:∀ ws,yN G p=some ws->inR neg x ws G (jT X.K H Q)->wpAny 'b' X.A (compareOp (if neg then .NotIn else .In) a (.ref p)) (EP X pins σ Q) X.xe s:=λws e q=>by
   obtain⟨vs,its,_,rs,vr,il,_⟩:=zcT I ab e;exact sq p ws vs its rs vr (.inr il) q
  simp only[qR] at h
  split at h
  .rename_i ws e;exact lk ws (by unfold yN;rw[e]) h
  .rename_i ws e;exact lk ws (by unfold yN;rw[e]) h
  .exact h.elim
 |_=>exact h.elim
theorem zcF {op:CmpOp} {p:Int->Int->Bool} {f:Option (Str->Str->Bool)} (ho:tT X (compareOp op) (rI0 λi j=>.bl (p i j)))
  (hq:∀ q,f=some q->∀ (i j:Str) (t t':Tok) (s:Shared) (Q:VP),Q (.bool (q i j)) s->wpAny 'b' X.A (compareOp op (.str i t) (.str j t')) Q X.xe s:=by(intro _ z;cases z)):tT X (compareOp op) (mL X.K (nQ p f)):=by
 intro pins s σ H v u a b Q I rv ru h;obtain⟨x,y,G,rx,ry,ab,h⟩:=h
 cases x with
 |int i =>
  cases y with
  |int j=>cases rx;cases ry;exact ho pins s σ H _ _ _ _ Q I rv ru ⟨i,j,rfl,rfl,h _ _ .refl rfl ab⟩
  |_=>exact h.elim
 |str i =>
  cases y with
  |str j =>
   cases f with
   |none=>exact h.elim
   |some q =>
    cases rx;cases ry;obtain⟨t,rfl⟩:=rv;obtain⟨t',rfl⟩:=ru;exact hq q rfl i j t t' s _ ⟨.bl (q i j),H,I,rfl,h _ _ .refl rfl ab⟩
  |_=>exact h.elim
 |_=>exact h.elim
theorem le_ok:tT X (compareOp .LtE) (mL X.K leR):=by
 intro pins s σ H v u a b Q I rv ru h;obtain⟨x,y,G,rx,ry,ab,h⟩:=h
 cases x with
 |int i =>
  cases y with
  |int j=>cases rx;cases ry;exact op_le pins s σ H _ _ _ _ Q I rv ru ⟨i,j,rfl,rfl,h _ _ .refl rfl ab⟩
  |_=>exact h.elim
 |str i =>
  cases y with
  |str j =>
   cases rx;cases ry;obtain⟨t,rfl⟩:=rv;obtain⟨t',rfl⟩:=ru;exact PySem.P.le_str ⟨.bl (leS i j),H,I,rfl,h _ _ .refl rfl ab⟩
  |_=>exact h.elim
 |_=>exact h.elim
theorem zf8 (I:Inv X pins σ H s) (hu:X.A.units+200<cLine) {G:Hw} {x y:W} {v v':V} {u u':Value} {b:Bool} (ab:xP X.K H G) (h:xF X.K H x v) (r:yV v u) (h':xF X.K H y v') (r':yV v' u') (e:sM G x y=some b) :
  RcAt X.A s u u' b/\RcNeAt X.A s u u' (!b):=by
 have gen:∀ (hh:(if(pur x&&pur y&&decide (min (dep x) (dep y)<=150))=true then some (xE x y) else none)=some b),RcAt X.A s u u' b/\RcNeAt X.A s u u' (!b):=λhh=>by
  split at hh
  .rename_i c;simp only[Zm,decide_eq_true_eq] at c;cases hh;exact ziX I x y v v' u u' X.A h r h' r' c.1.1 c.1.2 'f'
  .cases hh
 cases x with
 |ref p =>
  cases y with
  |ref q =>
   simp only[sM] at e
   split at e
   .rename_i a1 b1 e1 e2
    split at e
    .rename_i c;simp only[Zm,decide_eq_true_eq] at c;cases e;cases h;cases h';cases r;cases r';exact ziY I ab e1 e2 c.1.1 c.1.2 'f'
    .cases e
   .cases e
  |_=>exact gen e
 |_=>cases y<;>exact gen e
theorem zjC (hu:X.A.units+200<cLine):tT X (compareOp .Lt) (mL X.K ltT):=by
 intro pins s σ H v u a b Q I rv ru h;obtain⟨x,y,G,rx,ry,ab,h⟩:=h
 cases x with
 |tup xs =>
  obtain⟨⟨p1,p2,d⟩,k,e,q⟩:=h;exact zcS I (.tup xs) y _ _ _ _ X.A k rx rv ry ru p1 p2 'f' e _ _ _ _ ⟨.bl k,H,I,rfl,q _ _ .refl rfl ab⟩
 |_=>simp only[ltT] at h;exact(zcF (f:=some ltS) op_lt λq e i j t t' s Q z=>by cases e;exact lt_str z) pins s σ H v u a b Q I rv ru ⟨_,y,G,rx,ry,ab,h⟩
theorem rY (hu:X.A.units+200<cLine) (op:CmpOp):tT X (compareOp op) (mL X.K (yZ op)):=by
 cases op with
 |Eq =>
  intro pins s σ H v u a b Q I rv ru h;obtain⟨x,y,G,rx,ry,ab,h⟩:=h;simp only[yZ] at h
  split at h
  .rename_i k e;exact(zf8 I hu ab rx rv ry ru e).1 _ _ _ _ ⟨.bl k,H,I,rfl,h _ _ .refl rfl ab⟩
  .exact h.elim
 |NotEq =>
  intro pins s σ H v u a b Q I rv ru h;obtain⟨x,y,G,rx,ry,ab,h⟩:=h;simp only[yZ] at h
  split at h
  .rename_i k e;exact(zf8 I hu ab rx rv ry ru e).2 _ _ _ _ ⟨.bl (!k),H,I,rfl,h _ _ .refl rfl ab⟩
  .exact h.elim
 |Is=>exact zj2 false
 |IsNot=>exact zj2 true
 |In=>exact zfV false hu
 |NotIn=>exact zfV true hu
 |Lt=>exact zjC hu
 |LtE=>exact le_ok
 |Gt=>exact zcF (f:=none) op_gt
 |GtE=>exact zcF (f:=none) op_ge
end
end L3
namespace L3
open PySem PySem.Spec PyProof.Rows L2 HT
section
variable {prog:Program} {w:World} {A:Around} {E:VP} {s:Shared}
theorem zdf {t sl:Addr} {items:Array Value} {vl vu:Value} {lo hi:Option Int} {Q:VP} (ht:IsTup s.heap t items) (hs:s.heap.IsSliceOf sl vl vu .none) (pl:IsPart vl lo) (pu:IsPart vu hi)
  (hw:wY items.size 0 lo=0/\wY items.size items.size hi=items.size) (h:Q (.ref t) s):wpAny 'd' A (getItem (.ref t) (.ref sl)) Q E s:=by
 obtain⟨os,hos,hcs,hds⟩:=id hs;have hTs:s.TypeIs (.ref sl) "slice" := ⟨os,hos,hcs⟩;unfold getItem
 try with_reducible refine ZO ?_
 first|refine Za (Zc ?_)|skip
 refine Za (Za6 ht.typeIs 'c' ?_)
 refine Za (ZN (name:=Str.ofString "__getitem__") ht.typeIs ZB
  (ZP ZB ht.typeIs Zbk ?_ (Zbu _ _)))
 show wpAny _ _ (Builtin.Tuple.tupleItemsOf (.ref t) >>= _) _ _ s;refine Za (Zb7 ht ?_);refine Za (Zbv hTs ?_);rw[if_pos 'c'];refine Za (kY hs pl pu ?_)
 have yes:(((wY items.size 0 lo:Nat):Int)==0&&(1:Int)==1&&(wY items.size items.size hi-wY items.size 0 lo)==items.size)=true:=by
  rw[hw.1,hw.2];simp
 show wpAny _ _ (if(((wY items.size 0 lo:Nat):Int)==0&&(1:Int)==1&&(wY items.size items.size hi-wY items.size 0 lo)==items.size)=true then _ else _) _ _ s;rw[if_pos yes];refine Za (m:=Builtin.Tuple.tupleIsExact (.ref t)) ?_;unfold Builtin.Tuple.tupleIsExact;refine Za (Zbv ht.typeIs (Zc ?_));rw[if_pos 'c'];exact Za (ZbH (Zc ⟨_,rfl,Zc h⟩))
end
section
variable {X:Cx}
noncomputable def rSlW (K:yM):V->Option Int->Option Int->Hp->VK->Prop:=λx lo hi H Q=>∃ a xs,x=.ref a/\sP K H a xs/\(HT.wY xs.length 0 lo=0/\HT.wY xs.length xs.length hi=xs.length)/\Q (.ref a) H
theorem zec:SlR X (rSlW X.K):=by
 intro pins s σ H x v vl vu lo hi sl Q I rx hs pl pu h;obtain⟨a,xs,rfl,hx,hw,q⟩:=h;cases rx;obtain⟨its,r,ht,hz⟩:=I.tuple hx;have hlen:its.toArray.size=xs.length:=by rw[zzS];exact r.length.symm
 exact⟨"tuple", _,ZB.lookup,ht.typeIs,zdf ht hs pl pu (by rw[hlen];exact hw) ⟨.ref a,H,I,rfl,q⟩⟩
end
end L3
namespace L3
open PySem PySem.Spec PyProof.Rows L2 PySem.SeqAt
noncomputable def truW (G:Hw):W->Option Bool
 | .non=>some false
 | .bl b=>some b
 | .int i=>some (i != 0)
 | .str y=>if y.length<=sizeLine then some ((y.length:Int) != 0) else none
 | .tup ws=>some (!ws.isEmpty)
 | .ref p=>match G p with
  |some (.lst ws)=>some (!ws.isEmpty)
  |some (.fix ws)=>some (!ws.isEmpty)
  |some (.dic kvs)=>some (!kvs.isEmpty)
  |_=>none
 |_=>none
theorem yY.empty {K:yM} {H:Hp} {ws:List W} {vs:List V} (h:yY K H ws vs):vs.isEmpty=ws.isEmpty:=by
 have:=h.length;cases ws<;>cases vs<;>simp_all
theorem yE.length {K:yM} {H:Hp} {κ:Type}:∀ {l:List (κ×W)} {l':List (κ×V)},yE K H l l'->l'.length=l.length
 | [],_,h=>by rw[show _=[] from h];rfl
 |_::_,_,⟨v,t,e,_,r⟩=>by rw[e,Zg,Zg,yE.length r]
theorem zgx {K:yM} {H:Hp} {G:Hw} {w:W} {v:V} {k:Bool} (r:xF K H w v) (ab:xP K H G) (h:truW G w=some k):TruV K v H k:=by
 cases w with
 |non=>cases r;cases h;rfl
 |bl b=>cases r;cases h;rfl
 |int i=>cases r;cases h;rfl
 |str y =>
  cases r;simp only[truW] at h
  split at h
  .rename_i c;cases h;exact⟨c,rfl⟩
  .cases h
 |ty n=>cases h
 |lsf n=>cases h
 |exc _ _ _=>cases h
 |dcf _ _=>cases h
 |tup ws =>
  obtain⟨a,vs,rfl,q,rs⟩:=r;cases h;exact .inr (.inl ⟨vs,q,by rw[rs.empty]⟩)
 |ref p =>
  cases r
  have lk:∀ ws,yN G p=some ws->k=!ws.isEmpty->TruV K (.ref p) H k:=λws e q=>by
   obtain⟨vs,sq,rs⟩:=ab.seq e;exact .inl ⟨vs,sq,by rw[rs.empty];exact q⟩
  simp only[truW] at h
  split at h
  .rename_i ws e;cases h;exact lk ws (by unfold yN;rw[e]) rfl
  .rename_i ws e;cases h;exact lk ws (by unfold yN;rw[e]) rfl
  .rename_i kvs e;cases h;obtain⟨l,e',rk⟩:=ab.dic e;refine .inr (.inr ⟨l,e',?_⟩);have:=rk.length;cases kvs<;>cases l<;>simp_all
  .cases h
noncomputable def dget {α:Type} (kvs:List (xM×α)) (k:xM):Option α:=(kvs.find? λkv=>decide (kv.1=k)).map (·.2)
noncomputable def gC {α:Type} (kvs:List (xM×α)) (k:xM) (v:α):List (xM×α) :=
 if(kvs.any λkv=>decide (kv.1=k))=true then kvs.map (λkv=>if kv.1=k then(kv.1,v) else kv) else kvs++[(k,v)]
theorem yE.get {K:yM} {H:Hp} {k:xM} {w:W}:∀ {l:List (xM×W)} {l':List (xM×V)},yE K H l l'->dget l k=some w->∃ v,rG l' k=some v/\xF K H w v
 | [],_,h,e=>by cases e
 |p::r,_,⟨v,t,e,h,hr⟩,q=>by
  subst e;unfold dget at q;rw[Zaf] at q;unfold rG;rw[Zaf]
  by_cases hk:p.1=k
  .simp only[hk,decide_true] at q ⊢;cases q;exact⟨v,rfl,h⟩
  .simp only[hk,decide_false] at q ⊢;exact yE.get hr q
theorem yE.any {K:yM} {H:Hp} {k:xM}:∀ {l:List (xM×W)} {l':List (xM×V)},yE K H l l'->(l'.any λkv=>decide (kv.1=k))=l.any λkv=>decide (kv.1=k)
 | [],_,h=>by rw[show _=[] from h];rfl
 |p::r,_,⟨v,t,e,h,hr⟩=>by subst e;rw[ZaH,ZaH,yE.any hr]
theorem yE.app {K:yM} {H:Hp} {κ:Type}:∀ {l:List (κ×W)} {l':List (κ×V)} {m:List (κ×W)} {m':List (κ×V)},yE K H l l'->yE K H m m'->yE K H (l++m) (l'++m')
 | [],_,_,_,h,h'=>by rw[show _=[] from h];exact h'
 |p::r,_,_,_,⟨v,t,e,h,hr⟩,h'=>by rw[e];exact⟨v,_,rfl,h,yE.app hr h'⟩
theorem yE.repl {K:yM} {H:Hp} {k:xM} {w:W} {v:V} (q:xF K H w v):∀ {l:List (xM×W)} {l':List (xM×V)},yE K H l l' ->
  yE K H (l.map λkv=>if kv.1=k then(kv.1,w) else kv) (l'.map λkv=>if kv.1=k then(kv.1,v) else kv)
 | [],_,h=>by rw[show _=[] from h];rfl
 |p::r,_,⟨u,t,e,h,hr⟩=>by
  subst e;rw[zzU,zzU]
  by_cases hk:p.1=k
  .simp only[hk,if_true];exact⟨v,_,rfl,q,yE.repl q hr⟩
  .simp only[hk,if_false];exact⟨u,_,rfl,h,yE.repl q hr⟩
theorem yE.put {K:yM} {H:Hp} {k:xM} {w:W} {v:V} {l:List (xM×W)} {l':List (xM×V)} (h:yE K H l l') (q:xF K H w v):yE K H (gC l k w) (vS l' k v):=by
 unfold gC vS;rw[h.any]
 split
 .exact yE.repl q h
 .exact h.app ⟨v,[],rfl,q,rfl⟩
theorem zc5 {K:yM} {H:Hp} {y:W} {v:V} {k:xM} (r:xF K H y v) (h:rP y=some k):v=kV k:=by
 cases y<;>first|(cases h;cases r;rfl)|cases h
theorem ix_kd {X:Cx} {value slice:PySem.Expr} {pins:PL} {s:Shared} {σ:L2.St} {H:Hp} {a:Addr} {u:Value} {ks:List Str} {vs:List V} {k:Str} {v:V} {Q:VK} (I:Inv X pins σ H s) (h:KD X.K a ks vs) (ry:yV (.str k) u) (e:(ks.zip vs).lookup k=some v) (q:Q v H)
  (hs:subscripted slice false (.ref a) u=operate [.ref a,u] (getItem (.ref a) u)):wpAny 'b' X.A (subscriptTail value slice (.ref a) u) (EP X pins σ Q) X.xe s:=by
 have hT:=zhf I h;obtain⟨tk,rfl⟩:=ry;refine Zb6 hT Zaq.lookup ?_ hs;unfold getItem
 try with_reducible refine ZO ?_
 refine Za (Za6 hT 'c' (Za ?_));refine ZN (name:=Str.ofString "__getitem__") hT Zaq (ZP Zaq hT PySem.F.entry_dict_getitem ?_ (PySem.F.args_dict_getitem_2 _ _));show wpAny _ _ (dictGet a (.str k tk) >>= _) _ _ s;refine Za (zfZ I h ?_);rw[e];exactλu s' r J=>Zc ⟨u,rfl,Zc ⟨v,H,J,r,q⟩⟩
noncomputable def qD:R3:=λx y G Q=>match x,y with
 | .tup ws,.int i=>(match tU ws i with|some w=>Q w G|none=>False)
 | .str z,.int i=>z.length<=sizeLine/\(match tU z.cps.toList i with|some c=>Q (.str ⟨#[c]⟩) G|none=>False)
 | .ref p,y=>(match G p with
  |some (.lst ws)=>(match y with|.int i=>(match tU ws i with|some w=>Q w G|none=>False)|_=>False)
  |some (.fix ws)=>(match y with|.int i=>(match tU ws i with|some w=>Q w G|none=>False)|_=>False)
  |some (.dic kvs)=>(match rP y with|some k=>(match dget kvs k with|some w=>Q w G|none=>False)|none=>False)
  |_=>False)
 | .dcf ks ws,.str k=>(match(ks.zip ws).lookup k with|some w=>Q w G|none=>False)
 |_,_=>False
theorem zdS {K:yM} {H:Hp} {ws:List W} {vs:List V} {i:Int} {w:W} (h:yY K H ws vs) (e:tU ws i=some w):∃ v,tU vs i=some v/\xF K H w v:=by
 unfold tU at e ⊢;rw[h.length]
 cases q:ixN ws.length i with
 |none=>rw[q] at e;cases e
 |some j =>
  rw[q] at e;exact h.get e
theorem zbb:sO qD:=by
 intro x y G Q Q' k h
 cases x with
 |tup ws =>
  cases y<;>simp only[qD] at h ⊢<;>first
   |exact h.elim
   | (split at h<;>first|exact k _ _ h|exact h.elim)
 |str z =>
  cases y<;>simp only[qD] at h ⊢<;>first
   |exact h.elim
   | (refine⟨h.1,?_⟩;have h:=h.2;split at h<;>first|exact k _ _ h|exact h.elim)
 |ref p =>
  simp only[qD] at h ⊢
  split at h
  .cases y<;>simp only at h ⊢<;>first
    |exact h.elim
    | (split at h<;>first|exact k _ _ h|exact h.elim)
  .cases y<;>simp only at h ⊢<;>first
    |exact h.elim
    | (split at h<;>first|exact k _ _ h|exact h.elim)
  .split at h
   .split at h
    .exact k _ _ h
    .exact h.elim
   .exact h.elim
  .exact h.elim
 |dcf ks ws =>
  cases y<;>simp only[qD] at h ⊢<;>first
   |exact h.elim
   | (split at h<;>first|exact k _ _ h|exact h.elim)
 |_=>exact h.elim
section
variable {X:Cx}
theorem zjR (hu:X.A.units+200<cLine) {value slice:PySem.Expr} {pins:PL} {s:Shared} {σ:L2.St} {H:Hp} {a:Addr} {u:Value} {y v:V} {Q:VK} (I:Inv X pins σ H s) (g:DGet H a y (some v)) (hd:IsD H a) (ry:yV y u) (q:Q v H)
  (hs:subscripted slice false (.ref a) u=operate [.ref a,u] (getItem (.ref a) u)):wpAny 'b' X.A (subscriptTail value slice (.ref a) u) (EP X pins σ Q) X.xe s:=by
 exact Zb6 (zj3 I hd).1 Zaq.lookup (zdB 'f' I g ry λw' s' I' r'=>⟨v,H,I',r',q⟩) hs
theorem ix_ok (hu:X.A.units+200<cLine):IxR X (mL X.K qD):=by
 intro value slice pins s σ H v u a b Q I rv ru h hs;obtain⟨x,y,G,rx,ry,ab,h⟩:=h
 cases x with
 |tup ws =>
  cases y with
  |int i =>
   obtain⟨a1,vs,rfl,q,rs⟩:=rx;cases ry;simp only[qD] at h
   split at h
   .rename_i w e;obtain⟨vv,ev,rp⟩:=zdS rs e;exact zjP value slice pins s σ H _ _ _ _ Q I rv ru ⟨a1,vs,i,vv,rfl,rfl,q,ev,h _ _ .refl rp ab⟩ hs
   .exact h.elim
  |_=>exact h.elim
 |str z =>
  cases y with
  |int i =>
   cases rx;cases ry;simp only[qD] at h;obtain⟨hz,h⟩:=h
   split at h
   .rename_i c e;exact zjQ value slice pins s σ H _ _ _ _ Q I rv ru ⟨z,i,c,rfl,rfl,hz,e,h _ _ .refl rfl ab⟩ hs
   .exact h.elim
  |_=>exact h.elim
 |ref p =>
  cases rx
  have lk:∀ ws i w,yN G p=some ws->y=.int i->tU ws i=some w->jT X.K H Q w G->wpAny 'b' X.A (subscriptTail value slice a b) (EP X pins σ Q) X.xe s:=λws i w e ey ew q=>by
   subst ey;obtain⟨vs,sq,rs⟩:=ab.seq e;obtain⟨vv,ev,rp⟩:=zdS rs ew;cases ry;exact zhh value slice pins s σ H _ _ _ _ Q I rv ru ⟨p,vs,i,vv,rfl,rfl,sq,ev,q _ _ .refl rp ab⟩ hs
  simp only[qD] at h
  split at h
  .rename_i ws e
   cases y with
   |int i =>
    simp only at h
    split at h
    .rename_i w ew;exact lk ws i w (by unfold yN;rw[e]) rfl ew h
    .exact h.elim
   |_=>exact h.elim
  .rename_i ws e
   cases y with
   |int i =>
    simp only at h
    split at h
    .rename_i w ew;exact lk ws i w (by unfold yN;rw[e]) rfl ew h
    .exact h.elim
   |_=>exact h.elim
  .rename_i kvs e
   split at h
   .rename_i k ek
    split at h
    .rename_i w ew;obtain⟨l,e',rk⟩:=ab.dic e;obtain⟨vv,ev,rp⟩:=rk.get ew;have ey:=zc5 ry ek;subst ey;obtain rfl:a=Value.ref p:=rv;exact zjR hu I (.inl ⟨l,k,.inl e',rfl,ev.symm⟩) (.inl ⟨l,.inl e'⟩) ru (h _ _ .refl rp ab) hs
    .exact h.elim
   .exact h.elim
  .exact h.elim
 |dcf ks ws =>
  cases y with
  |str k =>
   obtain⟨a1,vs,rfl,kd,rs⟩:=rx;obtain rfl:a=Value.ref a1:=rv;cases(show u=.str k from ry);simp only[qD] at h
   split at h
   .rename_i w e;obtain⟨vv,ev,rp⟩:=vC rs e;exact ix_kd I kd ru ev (h _ _ .refl rp ab) hs
   .exact h.elim
  |_=>exact h.elim
 |_=>exact h.elim
end
noncomputable def jQ {α:Type} (xs:List α) (lo hi:Option Int):List α:=(xs.drop (HT.wY xs.length 0 lo)).take (HT.wY xs.length xs.length hi-HT.wY xs.length 0 lo)
theorem zaA {K:yM} {H:Hp} {ws:List W} {vs:List V} (h:yY K H ws vs) (lo hi:Option Int):yY K H (jQ ws lo hi) (cutV vs lo hi):=by
 unfold jQ cutV;rw[h.length];exact(h.drop _).take _
noncomputable def gL:W->Option Int->Option Int->Hw->Q3->Prop:=λx lo hi G Q=>match x with
 | .tup ws=>Q (.tup (jQ ws lo hi)) G
 | .ref p=>(match yN G p with|some ws=>∀ r,G r=none->Q (.ref r) (put G r (.lst (jQ ws lo hi)))|none=>False)
 | .lsf ws=>∀ r,G r=none->Q (.ref r) (put G r (.lst (jQ ws lo hi)))
 | .str x=>x.length<=sizeLine/\Q (.str (Txt.slice x lo hi)) G
 |_=>False
theorem zaT {x:W} {lo hi:Option Int} {G:Hw} {Q Q':Q3} (k:∀ w G',Q w G'->Q' w G') (h:gL x lo hi G Q):gL x lo hi G Q':=by
 cases x with
 |tup ws=>exact k _ _ h
 |ref p =>
  simp only[gL] at h ⊢
  split at h
  .exact λr hr=>k _ _ (h r hr)
  .exact h.elim
 |lsf ws=>exactλr hr=>k _ _ (h r hr)
 |str x=>exact⟨h.1,k _ _ h.2⟩
 |_=>exact h.elim
theorem ziK {X:Cx} {pins:PL} {s:Shared} {σ:L2.St} {H:Hp} {x:Str} {v vl vu:Value} {lo hi:Option Int} {sl:Addr} {Q:VK} (I:Inv X pins σ H s) (rv:yV (.str x) v) (hs:s.heap.IsSliceOf sl vl vu .none)
  (pl:IsPart vl lo) (pu:IsPart vu hi) (hz:x.length<=sizeLine) (q:Q (.str (Txt.slice x lo hi)) H):∃ T id,typeLookup (.type T) "__getitem__" = pure (some (.builtin id))/\s.TypeIs v T/\wpAny 'b' X.A (getItem v (.ref sl)) (EP X pins σ Q) X.xe s:=by
 obtain⟨t,rfl⟩:=rv;have fin:∀ t' k,0<k->EP X pins σ Q (.str (Txt.slice x lo hi) t') {s with toks:=k}:=λt' k h0=>⟨.str (Txt.slice x lo hi),H,I.tok _ h0,⟨t',rfl⟩,q⟩;have hz':=Ze (Txt.slice_le x lo hi) hz;refine⟨"str", _,F.slot_str_getitem.lookup,typeIs_str _ _ _,?_⟩;obtain⟨o,ho,hc,hd⟩:=hs
 cases pl with
 |none =>
  cases pu with
  |none=>exact jO I.tk (Zaz (l:=none) (u:=none) (st:=none) ⟨o,ho,hc,hd⟩ rfl (Zbl ⟨hz',fin⟩))
  |int j tj=>exact jO I.tk (Zaz (l:=none) (u:=some (j,tj)) (st:=none) ⟨o,ho,hc,hd⟩ rfl (Zbl ⟨hz',fin⟩))
 |int i ti =>
  cases pu with
  |none=>exact jO I.tk (Zaz (l:=some (i,ti)) (u:=none) (st:=none) ⟨o,ho,hc,hd⟩ rfl (Zbl ⟨hz',fin⟩))
  |int j tj=>exact jO I.tk (Zaz (l:=some (i,ti)) (u:=some (j,tj)) (st:=none) ⟨o,ho,hc,hd⟩ rfl (Zbl ⟨hz',fin⟩))
noncomputable def lowSl (K:yM) (r:W->Option Int->Option Int->Hw->Q3->Prop):V->Option Int->Option Int->Hp->VK->Prop:=λv lo hi H Q=>∃ x G,xF K H x v/\xP K H G/\r x lo hi G (jT K H Q)
theorem sl_ok {X:Cx}:SlR X (lowSl X.K gL):=by
 intro pins s σ H v u vl vu lo hi sl Q I rv hs pl pu h;obtain⟨x,G,rx,ab,h⟩:=h
 cases x with
 |tup ws =>
  obtain⟨a,vs,rfl,q,rs⟩:=rx
  by_cases hw:HT.wY vs.length 0 lo=0/\HT.wY vs.length vs.length hi=vs.length
  .have e:jQ ws lo hi=ws:=by
    have hw':=hw;rw[rs.length] at hw';unfold jQ;rw[hw'.1,hw'.2,Zbx,Nat.sub_zero,Z9]
   have h':jT X.K H Q (.tup (jQ ws lo hi)) G:=h;rw[e] at h';exact zec pins s σ H _ _ vl vu lo hi sl Q I rv hs pl pu ⟨a,vs,rfl,q,hw,h' _ _ .refl ⟨a,vs,rfl,q,rs⟩ ab⟩
  .exact ziJ pins s σ H _ _ vl vu lo hi sl Q I rv hs pl pu ⟨a,vs,rfl,q,hw,pU ab (zaA rs lo hi) h⟩
 |ref p =>
  cases rx;simp only[gL] at h
  split at h
  .rename_i ws e;obtain⟨vs,sq,rs⟩:=ab.seq e;exact zck pins s σ H _ _ vl vu lo hi sl Q I rv hs pl pu ⟨p,vs,rfl,sq,qN ab (zaA rs lo hi) h⟩
  .exact h.elim
 |lsf ws =>
  obtain⟨a,vs,rfl,q,rs⟩:=rx;exact zck pins s σ H _ _ vl vu lo hi sl Q I rv hs pl pu ⟨a,vs,rfl,.inr q,qN ab (zaA rs lo hi) h⟩
 |str x =>
  cases(show v=.str x from rx);exact ziK I rv hs pl pu h.1 (h.2 _ _ .refl rfl ab)
 |_=>exact h.elim
noncomputable def pA:W->W->W->Hw->(Hw->Prop)->Prop:=λo i v G Q=>match o with
 | .ref p=>(match G p with
  |some (.lst ws)=>(match i with|.int k=>(match ixN ws.length k with|some j=>Q (put G p (.lst (ws.set j v)))|none=>False)|_=>False)
  |some (.dic kvs)=>(match rP i with|some k=>kvs.length<sizeLine/\Q (put G p (.dic (gC kvs k v)))|none=>False)
  |_=>False)
 |_=>False
theorem zcl {o i v:W} {G:Hw} {Q Q':Hw->Prop} (k:∀ G',Q G'->Q' G') (h:pA o i v G Q):pA o i v G Q':=by
 cases o with
 |ref p =>
  simp only[pA] at h ⊢
  split at h
  .cases i<;>simp only at h ⊢<;>first
    |exact h.elim
    | (split at h<;>first|exact k _ h|exact h.elim)
  .split at h
   .exact ⟨h.1,k _ h.2⟩
   .exact h.elim
  .exact h.elim
 |_=>exact h.elim
noncomputable def zfW (K:yM):TSet:=λo i v H Q=>∃ x y z G,xF K H x o/\xF K H y i/\xF K H z v/\xP K H G/\pA x y z G λG'=>∀ H',yO K H H'->xP K H' G'->Q H'
theorem ziL {X:Cx} (hu:X.A.units+200<cLine):PSet X (zfW X.K):=by
 intro pins s σ H o i v ov iv u Q I ro ri rv h;obtain⟨x,y,z,G,rx,ry,rz,ab,h⟩:=h
 cases x with
 |ref p =>
  cases rx;simp only[pA] at h
  split at h
  .rename_i ws e
   cases y with
   |int k =>
    simp only at h
    split at h
    .rename_i j ej;cases ry;obtain⟨vs,q1,r1⟩:=ab.lst e;refine zed pins s σ H _ _ _ _ _ _ Q I ro ri rv ⟨p,vs,k,j,rfl,rfl,q1,by rw[r1.length];exact ej,?_⟩;have g:=ab.grow (u:=.lst (vs.set j v)) e;exact h _ g (ab.chg e ⟨_,rfl,((r1.mono g).set (rz.mono g) j)⟩)
    .exact h.elim
   |_=>exact h.elim
  .rename_i kvs e
   split at h
   .rename_i k ek;obtain⟨l,e',rk⟩:=ab.dic e;have ey:=zc5 ry ek;subst ey;obtain rfl:ov=Value.ref p:=ro;refine zdA 'f' I (.inl ⟨l,k,e',rfl,by rw[rk.length];exact h.1,rfl⟩) ri rv λs' I'=>⟨_,I',?_⟩;have g:=ab.grow (u:=.dK (vS l k v)) e;exact h.2 _ g (ab.chg e ⟨_,rfl,(rk.mono g).put (rz.mono g)⟩)
   .exact h.elim
  .exact h.elim
 |_=>exact h.elim
end L3
namespace L3
open PySem PySem.Spec PyProof.Rows L2
noncomputable abbrev XQ:=Str->List (Str×W)->Hw->Prop
noncomputable def XN:XQ:=λ_ _ _=>False
noncomputable abbrev tO:=List W->Hw->Q3->XQ->Prop
structure Fn3 where
 nm:Str
 sp:tO
structure Mt3 where
 nm:Str
 T:String
 sp:W->List W->Hw->Q3->Prop
noncomputable abbrev I3:=xZ->Hw->(List W->(Hw->Prop)->Hw->Prop)->Prop
structure It3 where
 nm:Str
 sp:List W->Hw->(List W->(Hw->Prop)->Hw->Prop)->Prop
structure Sx3 where
 m:Scope->Expr->Option (List Expr)
 sp:List W->Hw->Q3->Prop
structure Ix3 where
 m:Scope->Expr->Option (List Expr)
 sp:List W->Hw->(List W->(Hw->Prop)->Hw->Prop)->Prop
structure Ctx3 where
 fn:List Fn3
 gl:List (Str×W)
 mt:List Mt3
 it:List It3
 cl:List (Addr×List Str)
 sx:List Sx3
 ix:List Ix3
set_option genInjectivity false
mutual
inductive IE where
 |var (i:Nat)|con (c:Const)|glb (i:Nat)
 |bin (op:Operator) (a b:IE)|neg (a:IE)|not (a:IE)
 |cmp (op:CmpOp) (a b:IE)|chn (o1 o2:CmpOp) (a b c:IE)
 |and (a b:IE)|or (a b:IE)|ite (c a b:IE)
 |ix (a i:IE)|sl (a:IE) (lo hi:IO)
 |tup (es:IEs)|lst (es:IEs)|dct (ks:List Str) (es:IEs)
 |call (f:Nat) (es:IEs)|mth (m:Nat) (o:IE) (es:IEs)|att (o:IE) (f:Str)
 |lc (tg:ITg) (names:List Str) (caps:List Nat) (it:II) (c:IO) (elt:IE)
 |spc (i:Nat) (es:IEs)|ch3 (o1 o2 o3:CmpOp) (a b c d:IE)
 |lc2 (t1:ITg) (i1:II) (t2:ITg) (i2:II) (names:List Str) (caps:List Nat) (c:IO) (elt:IE)
inductive IO where
 |no|yes (e:IE)
inductive IEs where
 |nil|cons (e:IE) (es:IEs)
inductive II where
 |val (e:IE)|blt (i:Nat) (es:IEs)|spc (i:Nat) (es:IEs)
inductive ITg where
 |nm (i:Nat)|tup (ts:ITgs)
inductive ITgs where
 |nil|cons (t:ITg) (ts:ITgs)
end
mutual
inductive IS where
 |asg (i:Nat) (e:IE)|asgT (ts:ITgs) (e:IE)|asgI (o i e:IE)|asgA (o:IE) (f:Str) (e:IE)
 |ex (e:IE)|ret (e:IE)|retN|pass|brk|cnt
 |ite (c:IE) (a b:ISs)|whl (c:IE) (b:ISs)|for (tg:ITg) (it:II) (b:ISs)|dead|asgS (i j:Nat) (e:IE)
inductive ISs where
 |nil|cons (s:IS) (ss:ISs)
end
noncomputable def zO:Const->Option W
 | .none=>some .non
 | .bool b=>some (.bl b)
 | .int i=>some (.int i)
 | .str x=>some (.str x)
 |_=>none
noncomputable abbrev G3:=W->xZ->Hw->(xZ->Hw->Prop)->Prop
noncomputable abbrev Gs3:=List W->xZ->Hw->(xZ->Hw->Prop)->Prop
mutual
noncomputable def zY:ITg->G3
 | .nm i=>λw σ G Q=>Q (σ.set i (some w)) G
 | .tup ts=>λw σ G Q=>match w with
  | .tup ws=>zZ ts ws σ G Q
  |_=>False
noncomputable def zZ:ITgs->Gs3
 | .nil=>λws σ G Q=>match ws with | []=>Q σ G|_=>False
 | .cons t ts=>λws σ G Q=>match ws with
  |w::r=>zY t w σ G λσ' G'=>zZ ts r σ' G' Q
  | []=>False
end
noncomputable def unl (G:Hw) (w:W):W:=match w with
 | .ref p=>(match yN G p with|some ws=>.tup ws|none=>.ref p)
 |w=>w
noncomputable def jP (k:Nat) (caps:List Nat) (σ:xZ):xZ:=List.replicate k none++caps.map λj=>(σ[j]?).join
noncomputable def uH (w:W) (G:Hw) (R:List W->(Hw->Prop)->Hw->Prop):Prop:=match w with
 | .tup ws=>R ws (λ_=>True) G
 | .ref p=>(match yN G p with
  |some ws=>R ws (λG'=>yN G' p=some ws) G
  |none=>False)
 |_=>False
noncomputable def lcR (items:List W) (stab:Hw->Prop) (G1:Hw) (turn:W->Hw->(Option W->Hw->Prop)->Prop) (Q:Q3):Prop :=
 ∃ Pv:Nat->List W->Hw->Prop,Pv 0 [] G1/\(∀ i acc G,Pv i acc G->i<=items.length->stab G/\acc.length<=i)/\items.length<=sizeLine /\
  (∀ i w acc G,items[i]?=some w->Pv i acc G->turn w G λo G'=>match o with|some x=>Pv (i+1) (acc++[x]) G'|none=>Pv (i+1) acc G') /\
  ∀ acc G,Pv items.length acc G->∀ p,G p=none->Q (.ref p) (put G p (.lst acc))
noncomputable def lc2R (items:List W) (stab:Hw->Prop) (G1:Hw) (outer:W->Hw->(List W->(Hw->Prop)->xZ->Hw->Prop)->Prop) (inner:W->xZ->Hw->(Option W->Hw->Prop)->Prop) (Q:Q3):Prop :=
 ∃ Pv:Nat->List W->Hw->Prop,Pv 0 [] G1/\(∀ i acc G,Pv i acc G->i<=items.length->stab G) /\
  (∀ i w acc G,items[i]?=some w->Pv i acc G->outer w G λitems2 stab2 σ2 G3 =>
   ∃ Pw:Nat->List W->Hw->Prop,Pw 0 acc G3/\(∀ j acc G,Pw j acc G->j<=items2.length->stab2 G/\acc.length<sizeLine) /\
    (∀ j y acc G,items2[j]?=some y->Pw j acc G->inner y σ2 G λo G'=>match o with|some x=>Pw (j+1) (acc++[x]) G'|none=>Pw (j+1) acc G') /\
    ∀ acc G,Pw items2.length acc G->Pv (i+1) acc G) /\
  ∀ acc G,Pv items.length acc G->∀ p,G p=none->Q (.ref p) (put G p (.lst acc))
noncomputable def zM (w:W) (G:Hw) (Q:Q3):Prop:=match w with|.int i=>Q (.int (-i)) G|_=>False
noncomputable def zG (w:W) (Q:Bool->Prop):Prop:=match w with|.bl b=>Q b|_=>False
noncomputable def zN (w:W) (Q:Int->Prop):Prop:=match w with|.int i=>Q i|_=>False
noncomputable def tyW (G:Hw):W->String->Prop
 | .str _,T=>T = "str"
 | .ref p,T=>match G p with
  |some (.lst _)=>T = "list"
  |some (.fix _)=>T = "list"
  |some (.dic _)=>T = "dict"
  |_=>False
 |_,_=>False
noncomputable def attR (cl:List (Addr×List Str)) (f:Str) (w:W) (G:Hw) (Q:Q3):Prop:=match w with
 | .ref p=>(match G p with
  |some (.ins C fs)=>(∃ l,(C,l)∈cl/\f∈l)/\(match fs.lookup f with|some v=>Q v G|none=>False)
  |_=>False)
 |_=>False
noncomputable def zi1 (f:Str) (v:W):List (Str×W)->List (Str×W)
 | []=>[(f,v)]
 | (g,x)::r=>if g=f then(g,v)::r else(g,x)::zi1 f v r
noncomputable def satR (cl:List (Addr×List Str)) (f:Str) (o v:W) (G:Hw) (Q:Hw->Prop):Prop:=match o with
 | .ref p=>(match G p with
  |some (.ins C fs)=>(∃ l,(C,l)∈cl/\f∈l)/\fs.length<1000/\Q (put G p (.ins C (zi1 f v fs)))
  |_=>False)
 |_=>False
noncomputable def zhY (ks:List Str) (ws:List W):List (xM×W):=(ks.zip ws).foldl (λacc kv=>gC acc (.inr kv.1) kv.2) []
structure ET where
 e:E3
 t:T3
noncomputable def zP (e:E3):T3:=λσ G Q=>e σ G λw G1=>match truW G1 w with|some b=>Q b G1|none=>False
noncomputable def zD (e:E3):T3:=λσ G Q=>e σ G λw G1=>zG w λb=>Q b G1
noncomputable def zF (e:E3):ET:=⟨e,zP e⟩
noncomputable def zE (e:E3):ET:=⟨e,zD e⟩
noncomputable def cB:List E3->A3
 | []=>λ_ G Q=>Q [] G
 |e::es=>λσ G Q=>e σ G λx G1=>cB es σ G1 λxs G2=>Q (x::xs) G2
section
variable (Γ:Ctx3)
mutual
noncomputable def zI (E:XQ):IE->ET
 | .var i=>zF λσ G Q=>match σ[i]? with|some (some w)=>Q w G|_=>False
 | .con c=>zF λσ G Q=>match zO c with|some w=>Q w G|none=>False
 | .glb i=>zF λσ G Q=>match Γ.gl[i]? with|some p=>Q p.2 G|none=>False
 | .bin op a b=>zF λσ G Q=>(zI E a).e σ G λx G1=>(zI E b).e σ G1 λy G2=>qP op x y G2 Q
 | .neg a=>zF λσ G Q=>(zI E a).e σ G λx G1=>zM x G1 Q
 | .not a=>⟨λσ G Q=>(zI E a).e σ G λx G1=>zG x λb=>Q (.bl (!b)) G1,λσ G Q=>(zI E a).t σ G λb G1=>Q (!b) G1⟩
 | .cmp op a b=>zE λσ G Q=>(zI E a).e σ G λx G1=>(zI E b).e σ G1 λy G2=>yZ op x y G2 Q
 | .chn o1 o2 a b c=>zE λσ G Q=>(zI E a).e σ G λx G1=>(zI E b).e σ G1 λy G2=>yZ o1 x y G2 λz G3=>zG z λk =>
   if k=true then(zI E c).e σ G3 λu G4=>yZ o2 y u G4 Q else Q (.bl false) G3
 | .and a b=>⟨λσ G Q=>(zI E a).e σ G λx G1=>zG x λk=>if k=true then(zI E b).e σ G1 Q else Q (.bl false) G1,
   λσ G Q=>(zI E a).t σ G λk G1=>if k=true then(zI E b).t σ G1 Q else Q false G1⟩
 | .or a b=>⟨λσ G Q=>(zI E a).e σ G λx G1=>zG x λk=>if k=true then Q (.bl true) G1 else(zI E b).e σ G1 Q,
   λσ G Q=>(zI E a).t σ G λk G1=>if k=true then Q true G1 else(zI E b).t σ G1 Q⟩
 | .ite c a b=>⟨λσ G Q=>(zI E c).t σ G λk G1=>if k=true then(zI E a).e σ G1 Q else(zI E b).e σ G1 Q,λ_ _ _=>False⟩
 | .ix a i=>zF λσ G Q=>(zI E a).e σ G λx G1=>(zI E i).e σ G1 λy G2=>qD x y G2 Q
 | .sl a lo hi=>zF λσ G Q=>(zI E a).e σ G λx G1=>zR E lo σ G1 λl G2=>zR E hi σ G2 λu G3=>gL x l u G3 Q
 | .tup es=>zF λσ G Q=>zX E es σ G λws G1=>ws.length<=sizeLine/\Q (.tup ws) G1
 | .lst es=>zF λσ G Q=>zX E es σ G λws G1=>ws.length<=sizeLine/\∀ p,G1 p=none->Q (.ref p) (put G1 p (.lst ws))
 | .dct ks es=>zF λσ G Q=>∀ p,G p=none->zX E es σ (put G p (.dic [])) λws G1=>G1 p=some (.dic [])/\ws.length=ks.length/\Q (.ref p) (put G1 p (.dic (zhY ks ws)))
 | .call f es=>zF λσ G Q=>zX E es σ G λws G1=>match Γ.fn[f]? with|some h=>h.sp ws G1 Q E|none=>False
 | .mth m o es=>zF λσ G Q=>(zI E o).e σ G λx G1=>match Γ.mt[m]? with|some h=>tyW G1 x h.T/\zX E es σ G1 λws G2=>h.sp x ws G2 Q|none=>False
 | .att o f=>zF λσ G Q=>(zI E o).e σ G λx G1=>attR Γ.cl f x G1 Q
 | .lc tg names caps it c elt=>zF λσ G Q=>zW E it σ G λitems stab G1 =>
   lcR items stab G1 (λw G' K=>zY tg w (jP names.length caps σ) G' λσ2 G2=>zT c σ2 G2 λb G3=>if b=true then(zI XN elt).e σ2 G3 λx G4=>K (some x) G4 else K none G3) Q
 | .spc i es=>zF λσ G Q=>zX E es σ G λws G1=>match Γ.sx[i]? with|some h=>h.sp ws G1 Q|none=>False
 | .ch3 o1 o2 o3 a b c d=>zE λσ G Q=>(zI E a).e σ G λx G1=>(zI E b).e σ G1 λy G2=>yZ o1 x y G2 λz G3=>zG z λk =>
   if k=true then(zI E c).e σ G3 λu G4=>yZ o2 y u G4 λz2 G5=>zG z2 λk2 =>
    if k2=true then(zI E d).e σ G5 λt G6=>yZ o3 u t G6 Q else Q (.bl false) G5
   else Q (.bl false) G3
 | .lc2 t1 i1 t2 i2 names caps c elt=>zF λσ G Q=>zW E i1 σ G λitems stab G1 =>
   lc2R items stab G1 (λw G' K=>zY t1 w (jP names.length caps σ) G' λσ2 G2=>zW XN i2 σ2 G2 λitems2 stab2 G3=>K items2 stab2 σ2 G3)
    (λy σ2 G' K=>zY t2 y σ2 G' λσ3 G3=>zT c σ3 G3 λb G4=>if b=true then(zI XN elt).e σ3 G4 λx G5=>K (some x) G5 else K none G4) Q
noncomputable def zR (E:XQ):IO->xZ->Hw->(Option Int->Hw->Prop)->Prop
 | .no=>λ_ G Q=>Q none G
 | .yes e=>λσ G Q=>(zI E e).e σ G λx G1=>zN x λi=>Q (some i) G1
noncomputable def zT:IO->T3
 | .no=>λ_ G Q=>Q true G
 | .yes e=>(zI XN e).t
noncomputable def zX (E:XQ):IEs->A3
 | .nil=>λ_ G Q=>Q [] G
 | .cons e es=>λσ G Q=>(zI E e).e σ G λx G1=>zX E es σ G1 λxs G2=>Q (x::xs) G2
noncomputable def zW (E:XQ):II->I3
 | .val e=>λσ G R=>(zI E e).e σ G λw G1=>uH w G1 R
 | .blt i es=>λσ G R=>zX E es σ G λws G1=>match Γ.it[i]? with|some h=>h.sp ws G1 R|none=>False
 | .spc i es=>λσ G R=>zX E es σ G λws G1=>match Γ.ix[i]? with|some h=>h.sp ws G1 R|none=>False
end
noncomputable def semL:IEs->List E3
 | .nil=>[]
 | .cons e es=>(zI Γ XN e).e::semL es
noncomputable abbrev zV (E:XQ) (e:IE):E3:=(zI Γ E e).e
noncomputable abbrev zS (E:XQ) (e:IE):T3:=(zI Γ E e).t
noncomputable def forR (items:List W) (stab:Hw->Prop) (D:End3) (σ:xZ) (G1:Hw) (turn:W->End3->xZ->Hw->Prop):Prop :=
 ∃ Pv:Nat->xZ->Hw->Prop,Pv 0 σ G1/\(∀ i σ G,Pv i σ G->i<=items.length->stab G) /\
  (∀ i w σ G,items[i]?=some w->Pv i σ G->turn w {D with nx:=Pv (i+1),ct:=Pv (i+1),bk:=D.nx} σ G)/\∀ σ G,Pv items.length σ G->D.nx σ G
mutual
noncomputable def zU (E:XQ):IS->S3
 | .asg i e=>λD σ G=>zV Γ E e σ G λw G1=>D.nx (σ.set i (some w)) G1
 | .asgT ts e=>λD σ G=>zV Γ E e σ G λw G1=>zY (.tup ts) (unl G1 w) σ G1 D.nx
 | .asgI o i e=>λD σ G=>zV Γ E e σ G λw G1=>zV Γ E o σ G1 λx G2=>zV Γ E i σ G2 λy G3=>pA x y w G3 λG4=>D.nx σ G4
 | .asgA o f e=>λD σ G=>zV Γ E e σ G λw G1=>zV Γ E o σ G1 λx G2=>satR Γ.cl f x w G2 λG3=>D.nx σ G3
 | .ex e=>λD σ G=>zV Γ E e σ G λ_ G1=>D.nx σ G1
 | .ret e=>λD σ G=>zV Γ E e σ G D.rt
 | .retN=>λD _ G=>D.rt .non G
 | .pass=>λD σ G=>D.nx σ G
 | .brk=>λD σ G=>D.bk σ G
 | .cnt=>λD σ G=>D.ct σ G
 | .ite c a b=>λD σ G=>zS Γ E c σ G λk G1=>if k=true then zB E a D σ G1 else zB E b D σ G1
 | .whl c b=>λD σ G=>∃ Pv:Nat->xZ->Hw->Prop,(∃ m,Pv m σ G)/\∀ m σ G,Pv m σ G->zS Γ E c σ G λk G1 =>
   if k=true then zB E b {D with nx:=λσ' G'=>∃ m',m' < m/\Pv m' σ' G',ct:=λσ' G'=>∃ m',m' < m/\Pv m' σ' G',bk:=D.nx} σ G1 else D.nx σ G1
 | .for tg it b=>λD σ G=>zW Γ E it σ G λitems stab G1=>forR items stab D σ G1 λw D' σ' G'=>zY tg w σ' G' λσ2 G2=>zB E b D' σ2 G2
 | .dead=>λ_ _ _=>False
 | .asgS i j e=>λD σ G=>zV Γ E e σ G λw G1=>match unl G1 w with
  | .tup (x::r)=>r.length<=1000/\∀ p,G1 p=none->D.nx ((σ.set i (some x)).set j (p⁻¹)) (put G1 p (.lst r))
  |_=>False
noncomputable def zB (E:XQ):ISs->S3
 | .nil=>λD σ G=>D.nx σ G
 | .cons s ss=>λD σ G=>zU E s {D with nx:=zB E ss D} σ G
end
end
theorem nZ (Γ:Ctx3):∀ es:IEs,zX Γ XN es=cB (semL Γ es)
 | .nil=>rfl
 | .cons e es=>by
  show(λ(σ:xZ) (G:Hw) (Q:List W->Hw->Prop)=>(zI Γ XN e).e σ G λx G1=>zX Γ XN es σ G1 λxs G2=>Q (x::xs) G2)=_;rw[nZ Γ es];rfl
structure TabMono (Γ:Ctx3):Prop where
 fn:∀ f∈Γ.fn,∀ ws G (Q Q':Q3) E,'l'->f.sp ws G Q E->f.sp ws G Q' E
 mt:∀ m∈Γ.mt,∀ x ws G (Q Q':Q3),'l'->m.sp x ws G Q->m.sp x ws G Q'
 it:∀ m∈Γ.it,∀ ws G (R R':List W->(Hw->Prop)->Hw->Prop),(∀ a b c,R a b c->R' a b c)->m.sp ws G R->m.sp ws G R'
 sx:∀ m∈Γ.sx,∀ ws G (Q Q':Q3),'l'->m.sp ws G Q->m.sp ws G Q'
 ix:∀ m∈Γ.ix,∀ ws G (R R':List W->(Hw->Prop)->Hw->Prop),(∀ a b c,R a b c->R' a b c)->m.sp ws G R->m.sp ws G R'
noncomputable def zia (t:I3):Prop:=∀ σ G (R R':List W->(Hw->Prop)->Hw->Prop),(∀ a b c,R a b c->R' a b c)->t σ G R->t σ G R'
noncomputable def zkH (t:xZ->Hw->(Option Int->Hw->Prop)->Prop):Prop:=∀ σ G (Q Q':Option Int->Hw->Prop),(∀ a b,Q a b->Q' a b)->t σ G Q->t σ G Q'
theorem qW {w:W} {Q Q':Bool->Prop} (k:∀ b,Q b->Q' b) (h:zG w Q):zG w Q':=by
 cases w<;>first|exact k _ h|exact h.elim
theorem dI {w:W} {Q Q':Int->Prop} (k:∀ b,Q b->Q' b) (h:zN w Q):zN w Q':=by
 cases w<;>first|exact k _ h|exact h.elim
theorem zcL {w:W} {G:Hw} {Q Q':Q3} (k:∀ w G,Q w G->Q' w G) (h:zM w G Q):zM w G Q':=by
 cases w<;>first|exact k _ _ h|exact h.elim
theorem zdQ {cl:List (Addr×List Str)} {f:Str} {w:W} {G:Hw} {Q Q':Q3} (k:∀ w G,Q w G->Q' w G) (h:attR cl f w G Q):attR cl f w G Q':=by
 cases w with
 |ref p =>
  simp only[attR] at h ⊢
  split at h
  .refine ⟨h.1,?_⟩;have h2:=h.2
   split at h2
   .exact k _ _ h2
   .exact h2.elim
  .exact h.elim
 |_=>exact h.elim
theorem hX {w:W} {G:Hw} {R R':List W->(Hw->Prop)->Hw->Prop} (k:∀ a b c,R a b c->R' a b c) (h:uH w G R):uH w G R':=by
 cases w with
 |tup ws=>exact k _ _ _ h
 |ref p =>
  simp only[uH] at h ⊢
  split at h
  .exact k _ _ _ h
  .exact h.elim
 |_=>exact h.elim
theorem zeQ {items:List W} {stab:Hw->Prop} {G1:Hw} {turn:W->Hw->(Option W->Hw->Prop)->Prop} {Q Q':Q3} (k:∀ w G,Q w G->Q' w G) (h:lcR items stab G1 turn Q):lcR items stab G1 turn Q':=by
 obtain⟨Pv,h0,h1,h2,h3,h4⟩:=h;exact⟨Pv,h0,h1,h2,h3,λacc G hp p hn=>k _ _ (h4 acc G hp p hn)⟩
theorem zc1 {items:List W} {stab:Hw->Prop} {G1:Hw} {o:W->Hw->(List W->(Hw->Prop)->xZ->Hw->Prop)->Prop} {n:W->xZ->Hw->(Option W->Hw->Prop)->Prop} {Q Q':Q3} (k:∀ w G,Q w G->Q' w G) (h:lc2R items stab G1 o n Q):lc2R items stab G1 o n Q':=by
 obtain⟨Pv,h0,h1,h2,h3⟩:=h;exact⟨Pv,h0,h1,h2,λacc G hp p hn=>k _ _ (h3 acc G hp p hn)⟩
theorem zb5 {e:E3} (m:wX e):vT (zP e):=λσ G Q Q' k h=>m σ G _ _ (λw G1 q=>by
 split at q
 .exact k _ _ q
 .exact q.elim) h
theorem zft {e:E3} (m:wX e):vT (zD e):=λσ G Q Q' k h=>m σ G _ _ (λw G1 q=>qW (λb=>k b G1) q) h
theorem yC {e:E3} (m:wX e):wX (zF e).e/\vT (zF e).t:=⟨m,zb5 m⟩
theorem mW {e:E3} (m:wX e):wX (zE e).e/\vT (zE e).t:=⟨m,zft m⟩
theorem wR {α:Type} {l:List α} {i:Nat} {x:α} (h:l[i]?=some x):x∈l:=Zw h
variable {Γ:Ctx3} (g:TabMono Γ)
include g
theorem za6 (e:IE):∀ E,wX (zI Γ E e).e/\vT (zI Γ E e).t:=by
 refine IE.rec (motive_1:=λe=>∀ E,wX (zI Γ E e).e/\vT (zI Γ E e).t) (motive_2:=λo=>(∀ E,zkH (zR Γ E o))/\vT (zT Γ o)) (motive_3:=λes=>∀ E,qH (zX Γ E es)) (motive_4:=λit=>∀ E,zia (zW Γ E it))
  (motive_5:=λ_=>True) (motive_6:=λ_=>True) ?var ?con ?glb ?bin ?neg ?not ?cmp ?chn ?and ?or ?ite ?ix ?sl ?tup ?lst ?dct ?call ?mth ?att ?lc ?spc ?ch3 ?lc2 ?no ?yes ?nil ?cons ?val ?blt ?ispc ?nm ?tt ?tn ?tc e
 case var =>
  intro i E;refine yC λσ G Q Q' k h=>?_
  split at h
  .exact k _ _ h
  .exact h.elim
 case con =>
  intro c E;refine yC λσ G Q Q' k h=>?_
  split at h
  .exact k _ _ h
  .exact h.elim
 case glb =>
  intro i E;refine yC λσ G Q Q' k h=>?_
  split at h
  .exact k _ _ h
  .exact h.elim
 case bin=>exactλop a b ha hb E=>yC λσ G Q Q' k h=>(ha E).1 σ G _ _ (λx G1 h=>(hb E).1 σ G1 _ _ (λy G2 h=>cU op x y G2 _ _ k h) h) h
 case neg=>exactλa ha E=>yC λσ G Q Q' k h=>(ha E).1 σ G _ _ (λx G1 h=>zcL k h) h
 case not=>exactλa ha E=>⟨λσ G Q Q' k h=>(ha E).1 σ G _ _ (λx G1 h=>qW (λb=>k _ _) h) h,λσ G Q Q' k h=>(ha E).2 σ G _ _ (λb G1 h=>k _ _ h) h⟩
 case cmp=>exactλop a b ha hb E=>mW λσ G Q Q' k h=>(ha E).1 σ G _ _ (λx G1 h=>(hb E).1 σ G1 _ _ (λy G2 h=>xG op x y G2 _ _ k h) h) h
 case chn =>
  exactλo1 o2 a b c ha hb hc E=>mW λσ G Q Q' k h=>(ha E).1 σ G _ _ (λx G1 h=>(hb E).1 σ G1 _ _ (λy G2 h=>xG o1 x y G2 _ _ (λz G3 h=>qW (λb h=>by
   split
   .rename_i hb;rw[if_pos hb] at h;exact(hc E).1 σ G3 _ _ (λu G4 h=>xG o2 y u G4 _ _ k h) h
   .rename_i hb;rw[if_neg hb] at h;exact k _ _ h) h) h) h) h
 case ch3 =>
  exactλo1 o2 o3 a b c d ha hb hc hd E=>mW λσ G Q Q' k h=>(ha E).1 σ G _ _ (λx G1 h=>(hb E).1 σ G1 _ _ (λy G2 h=>xG o1 x y G2 _ _ (λz G3 h=>qW (λb h=>by
   split
   .rename_i hb;rw[if_pos hb] at h
    exact(hc E).1 σ G3 _ _ (λu G4 h=>xG o2 y u G4 _ _ (λz2 G5 h=>qW (λb2 h=>by
     split
     .rename_i hb2;rw[if_pos hb2] at h;exact(hd E).1 σ G5 _ _ (λt G6 h=>xG o3 u t G6 _ _ k h) h
     .rename_i hb2;rw[if_neg hb2] at h;exact k _ _ h) h) h) h
   .rename_i hb;rw[if_neg hb] at h;exact k _ _ h) h) h) h) h
 case and =>
  exactλa b ha hb E=>⟨λσ G Q Q' k h=>(ha E).1 σ G _ _ (λx G1 h=>qW (λc h=>by
   split
   .rename_i hc;rw[if_pos hc] at h;exact(hb E).1 σ G1 _ _ k h
   .rename_i hc;rw[if_neg hc] at h;exact k _ _ h) h) h,λσ G Q Q' k h=>(ha E).2 σ G _ _ (λc G1 h=>by
   split
   .rename_i hc;rw[if_pos hc] at h;exact(hb E).2 σ G1 _ _ k h
   .rename_i hc;rw[if_neg hc] at h;exact k _ _ h) h⟩
 case or =>
  exactλa b ha hb E=>⟨λσ G Q Q' k h=>(ha E).1 σ G _ _ (λx G1 h=>qW (λc h=>by
   split
   .rename_i hc;rw[if_pos hc] at h;exact k _ _ h
   .rename_i hc;rw[if_neg hc] at h;exact(hb E).1 σ G1 _ _ k h) h) h,λσ G Q Q' k h=>(ha E).2 σ G _ _ (λc G1 h=>by
   split
   .rename_i hc;rw[if_pos hc] at h;exact k _ _ h
   .rename_i hc;rw[if_neg hc] at h;exact(hb E).2 σ G1 _ _ k h) h⟩
 case ite =>
  exactλc a b hc ha hb E=>⟨λσ G Q Q' k h=>(hc E).2 σ G _ _ (λc G1 h=>by
   split
   .rename_i hc;rw[if_pos hc] at h;exact(ha E).1 σ G1 _ _ k h
   .rename_i hc;rw[if_neg hc] at h;exact(hb E).1 σ G1 _ _ k h) h,λ_ _ _ _ _ h=>h.elim⟩
 case ix=>exactλa b ha hb E=>yC λσ G Q Q' k h=>(ha E).1 σ G _ _ (λx G1 h=>(hb E).1 σ G1 _ _ (λy G2 h=>zbb x y G2 _ _ k h) h) h
 case sl=>exactλa lo hi ha hl hh E=>yC λσ G Q Q' k h=>(ha E).1 σ G _ _ (λx G1 h=>(hl.1 E) σ G1 _ _ (λl G2 h=>(hh.1 E) σ G2 _ _ (λu G3 h=>zaT k h) h) h) h
 case tup=>exactλes hs E=>yC λσ G Q Q' k h=>(hs E) σ G _ _ (λws G1 h=>⟨h.1,k _ _ h.2⟩) h
 case lst=>exactλes hs E=>yC λσ G Q Q' k h=>(hs E) σ G _ _ (λws G1 h=>⟨h.1,λp hp=>k _ _ (h.2 p hp)⟩) h
 case dct=>exactλks es hs E=>yC λσ G Q Q' k h=>λp hp=>(hs E) σ _ _ _ (λws G1 h=>⟨h.1,h.2.1,k _ _ h.2.2⟩) (h p hp)
 case call =>
  exactλf es hs E=>yC λσ G Q Q' k h=>(hs E) σ G _ _ (λws G1 h=>by
   split at h
   .rename_i f' e;exact g.fn f' (wR e) ws G1 Q Q' E k h
   .exact h.elim) h
 case mth =>
  exactλm o es ho hs E=>yC λσ G Q Q' k h=>(ho E).1 σ G _ _ (λx G1 h=>by
   split at h
   .rename_i m' e;exact⟨h.1,(hs E) σ G1 _ _ (λws G2 h=>g.mt m' (wR e) x ws G2 Q Q' k h) h.2⟩
   .exact h.elim) h
 case att=>exactλo f ho E=>yC λσ G Q Q' k h=>(ho E).1 σ G _ _ (λx G1 h=>zdQ k h) h
 case lc2=>exactλt1 i1 t2 i2 names caps c elt _ hi _ _ _ _ E=>yC λσ G Q Q' k h=>(hi E) σ G _ _ (λitems stab G1 h=>zc1 k h) h
 case lc=>exactλtg names caps it c elt _ hi hc he E=>yC λσ G Q Q' k h=>(hi E) σ G _ _ (λitems stab G1 h=>zeQ k h) h
 case spc =>
  exactλi es hs E=>yC λσ G Q Q' k h=>(hs E) σ G _ _ (λws G1 h=>by
   split at h
   .rename_i f' e;exact g.sx f' (wR e) ws G1 Q Q' k h
   .exact h.elim) h
 case ispc =>
  exactλi es hs E σ G R R' k h=>(hs E) σ G _ _ (λws G1 h=>by
   split at h
   .rename_i m' e;exact g.ix m' (wR e) ws G1 R R' k h
   .exact h.elim) h
 case no=>exact⟨λE σ G Q Q' k h=>k _ _ h,λσ G Q Q' k h=>k _ _ h⟩
 case yes=>exactλe he=>⟨λE σ G Q Q' k h=>(he E).1 σ G _ _ (λx G1 h=>dI (λi=>k _ _) h) h,(he XN).2⟩
 case nil=>exactλE σ G Q Q' k h=>k _ _ h
 case cons=>exactλe es he hs E σ G Q Q' k h=>(he E).1 σ G _ _ (λx G1 h=>(hs E) σ G1 _ _ (λxs G2 h=>k _ _ h) h) h
 case val=>exactλe he E σ G R R' k h=>(he E).1 σ G _ _ (λw G1 h=>hX k h) h
 case blt =>
  exactλi es hs E σ G R R' k h=>(hs E) σ G _ _ (λws G1 h=>by
   split at h
   .rename_i m' e;exact g.it m' (wR e) ws G1 R R' k h
   .exact h.elim) h
 case nm=>exactλ_=>trivial
 case tt=>exactλ_ _=>trivial
 case tn=>trivial
 case tc=>exactλ_ _ _ _=>trivial
theorem yU (E:XQ) (e:IE):wX (zI Γ E e).e:=(za6 g e E).1
theorem uL (E:XQ) (e:IE):vT (zI Γ E e).t:=(za6 g e E).2
theorem wG (E:XQ):∀ es:IEs,qH (zX Γ E es)
 | .nil=>λσ G Q Q' k h=>k _ _ h
 | .cons e es=>λσ G Q Q' k h=>yU g E e σ G _ _ (λx G1 h=>wG E es σ G1 _ _ (λxs G2 h=>k _ _ h) h) h
theorem zjw (E:XQ):∀ o:IO,zkH (zR Γ E o)
 | .no=>λσ G Q Q' k h=>k _ _ h
 | .yes e=>λσ G Q Q' k h=>yU g E e σ G _ _ (λx G1 h=>dI (λi=>k _ _) h) h
theorem zjx:∀ o:IO,vT (zT Γ o)
 | .no=>λσ G Q Q' k h=>k _ _ h
 | .yes e=>uL g XN e
theorem zcO (E:XQ):∀ it:II,zia (zW Γ E it)
 | .val e=>λσ G R R' k h=>yU g E e σ G _ _ (λw G1 h=>hX k h) h
 | .blt i es=>λσ G R R' k h=>wG g E es σ G _ _ (λws G1 h=>by
   split at h
   .rename_i m' e;exact g.it m' (wR e) ws G1 R R' k h
   .exact h.elim) h
 | .spc i es=>λσ G R R' k h=>wG g E es σ G _ _ (λws G1 h=>by
   split at h
   .rename_i m' e;exact g.ix m' (wR e) ws G1 R R' k h
   .exact h.elim) h
end L3
namespace L3
open PySem PySem.Spec PyProof.Rows L2
structure MC where
 sc:Scope
 N:List Str
 own:Str->Bool
 fns:List Str
 gls:List Str
 mts:List Str
 its:List Str
 sxm:List (Scope->Expr->Option (List Expr))
 ixm:List (Scope->Expr->Option (List Expr))
noncomputable def visB (sc:Scope) (x:Str):Bool:=match sc.names.lookup x with
 |some .local=>true
 |some .cell=>true
 |some .free=>true
 |_=>false
noncomputable def kB (sc:Scope) (x:Str):Bool:=sc.names.lookup x==some .globalImplicit&&!(x==("__debug__":Str))&&!(x==("__name__":Str))
noncomputable def vH:Expr->Bool
 | .Set ..=>false
 |_=>true
noncomputable def noStar:Expr->Bool
 | .Starred ..=>false
 |_=>true
noncomputable def pV:Expr->Bool
 | .Slice ..=>false
 |_=>true
noncomputable def noLC:Expr->Bool
 | .ListComp ..=>false
 | .SetComp ..=>false
 | .DictComp ..=>false
 |_=>true
noncomputable def rJ:Expr->Bool
 | .Call (.Name ..) [] [] _=>false
 |_=>true
noncomputable def bV (sc out:Scope):Scope:={sc with names:=sc.names.map λ(n,k)=>if(k==.free&&out.kind==.function&&out.names.lookup n==some .cell) then(n,.cell) else(n,k)}
noncomputable def blkB (out sc:Scope):Bool:=(sc.kind==.function)&&(sc.names.all λy=>(!(y.2==.cell) || sc.names.lookup y.1==some .cell)&&(!(y.2==.free) || sc.names.lookup y.1==some .free)) &&
 (sc.names.all λy=>!(y.2==.free) || out.names.lookup y.1==some .cell || out.names.lookup y.1==some .free) &&
 (sc.names.all λy=>!(y.2==.local) || sc.names.lookup y.1==some .local)
noncomputable def sC:List Str->Bool
 | []=>true
 |x::r=>!r.contains x&&sC r
noncomputable def locB (M:MC) (x:Str):Bool:=match M.sc.names.lookup x with
 |some .local=>true
 |some .cell=>M.own x
 |_=>false
mutual
noncomputable def pE:ITg->List Nat
 | .nm i=>[i]
 | .tup ts=>zd8 ts
noncomputable def zd8:ITgs->List Nat
 | .nil=>[]
 | .cons t ts=>pE t++zd8 ts
end
mutual
noncomputable def mG (M:MC):ITg->Expr->Bool
 | .nm i,.Name x _=>M.N[i]?==some x&&locB M x
 | .tup ts,.Tuple es _ _=>mGs M ts es
 |_,_=>false
noncomputable def mGs (M:MC):ITgs->List Expr->Bool
 | .nil,[]=>true
 | .cons t ts,e::es=>noStar e&&mG M t e&&mGs M ts es
 |_,_=>false
end
mutual
noncomputable def mE:IE->MC->Expr->Bool
 | .var i=>λM e=>match e with
  | .Name x _=>M.N[i]?==some x&&visB M.sc x&&!(x==("__debug__":Str))&&!(x==("__classdict__":Str))
  |_=>false
 | .con c=>λM e=>match e with
  | .Constant d _ _=>decide (c=d)
  |_=>false
 | .glb i=>λM e=>match e with
  | .Name x _=>M.gls[i]?==some x&&kB M.sc x
  |_=>false
 | .bin op a b=>λM e=>match e with
  | .BinOp l o r _=>decide (op=o)&&mE a M l&&mE b M r
  |_=>false
 | .neg a=>λM e=>match e with
  | .UnaryOp .USub l _=>mE a M l
  |_=>false
 | .not a=>λM e=>match e with
  | .UnaryOp .Not l _=>mE a M l
  |_=>false
 | .cmp op a b=>λM e=>match e with
  | .Compare l [o] [r] _=>decide (op=o)&&mE a M l&&mE b M r&&vH r
  |_=>false
 | .chn o1 o2 a b c=>λM e=>match e with
  | .Compare l [p1,p2] [r,t] _=>decide (o1=p1)&&decide (o2=p2)&&mE a M l&&mE b M r&&mE c M t&&vH t
  |_=>false
 | .ch3 o1 o2 o3 a b c d=>λM e=>false
 | .and a b=>λM e=>match e with
  | .BoolOp .And [l,r] _=>mE a M l&&mE b M r
  | .BoolOp .And (l::r::q::rest) pos=>mE a M l&&mE b M (.BoolOp .And (r::q::rest) pos)
  |_=>false
 | .or a b=>λM e=>match e with
  | .BoolOp .Or [l,r] _=>mE a M l&&mE b M r
  | .BoolOp .Or (l::r::q::rest) pos=>mE a M l&&mE b M (.BoolOp .Or (r::q::rest) pos)
  |_=>false
 | .ite c a b=>λM e=>match e with
  | .IfExp t l r _=>mE c M t&&mE a M l&&mE b M r
  |_=>false
 | .ix a i=>λM e=>match e with
  | .Subscript l r _=>mE a M l&&mE i M r&&pV r
  |_=>false
 | .sl a lo hi=>λM e=>match e with
  | .Subscript l (.Slice x y none _) _=>mE a M l&&mO lo M x&&mO hi M y
  |_=>false
 | .tup es=>λM e=>match e with
  | .Tuple xs _ _=>mA es M xs
  |_=>false
 | .lst es=>λM e=>match e with
  | .List xs _=>mA es M xs
  |_=>false
 | .dct ks es=>λM e=>match e with
  | .Dict keys xs _=>keyB ks keys&&mA es M xs&&decide (keys.length=xs.length)&&decide (keys.length<=15)&&!ks.isEmpty
  |_=>false
 | .call f es=>λM e=>match e with
  | .Call (.Name x _) xs [] _=>M.fns[f]?==some x&&kB M.sc x&&mA es M xs
  |_=>false
 | .mth m o es=>λM e=>match e with
  | .Call (.Attribute l x apos) xs [] cpos=>M.mts[m]?==some x&&rJ l&&(apos.endLine==cpos.line)&&decide (xs.length<25)&&mE o M l&&mA es M xs
  |_=>false
 | .att o f=>λM e=>false
 | .lc tg names caps it c elt=>λM e=>match e with
  | .ListComp x [⟨t,ix,ifs,asy⟩] sc _ =>
   let M':MC:={M with sc:=bV sc M.sc,N:=names++caps.map (λj=>M.N.getD j Str.empty),own:=λx=>sc.names.lookup x==some .cell}
   decide (asy=0)&&blkB M.sc sc&&vH ix&&sC M'.N&&(caps.all λj=>decide (j<M.N.length)&&(sc.names.lookup (M.N.getD j Str.empty)==some .free)) &&
    mI it M ix&&((pE tg).all λi=>decide (i<names.length))&&mG M' tg t&&mC c M' ifs&&mE elt M' x
  |_=>false
 | .spc i es=>λM e=>noLC e&&(match M.sxm[i]? with
  |some m=>(match m M.sc e with|some xs=>mA es M xs|none=>false)
  |none=>false)
 | .lc2 t1 i1 t2 i2 names caps c elt=>λM e=>match e with
  | .ListComp x [⟨t,ix,[],asy⟩,⟨t',ix',ifs,asy'⟩] sc _ =>
   let M':MC:={M with sc:=bV sc M.sc,N:=names++caps.map (λj=>M.N.getD j Str.empty),own:=λx=>sc.names.lookup x==some .cell}
   decide (asy=0)&&decide (asy'=0)&&blkB M.sc sc&&vH ix&&vH ix'&&sC M'.N&&(caps.all λj=>decide (j<M.N.length)&&(sc.names.lookup (M.N.getD j Str.empty)==some .free)) &&
    mI i1 M ix&&((pE t1).all λi=>decide (i<names.length)&&!(pE t2).contains i)&&((pE t2).all λi=>decide (i<names.length))&&mG M' t1 t&&mI i2 M' ix'&&mG M' t2 t'&&mC c M' ifs&&mE elt M' x
  |_=>false
noncomputable def mO:IO->MC->Option Expr->Bool
 | .no=>λM e=>match e with|none=>true|_=>false
 | .yes a=>λM e=>match e with|some x=>mE a M x|_=>false
noncomputable def mC:IO->MC->List Expr->Bool
 | .no=>λM e=>match e with | []=>true|_=>false
 | .yes a=>λM e=>match e with | [x]=>mE a M x|_=>false
noncomputable def mA:IEs->MC->List Expr->Bool
 | .nil=>λM e=>match e with | []=>true|_=>false
 | .cons a as=>λM e=>match e with|x::xs=>noStar x&&mE a M x&&mA as M xs|_=>false
noncomputable def mI:II->MC->Expr->Bool
 | .val a=>λM e=>mE a M e
 | .blt i es=>λM e=>match e with
  | .Call (.Name x _) xs [] _=>M.its[i]?==some x&&kB M.sc x&&mA es M xs
  |_=>false
 | .spc i es=>λM e=>false
noncomputable def keyB:List Str->List (Option Expr)->Bool
 | []=>λe=>match e with | []=>true|_=>false
 |k::ks=>λe=>match e with|some (.Constant (.str x) _ _)::es=>k==x&&keyB ks es|_=>false
end
noncomputable def notL2:IE->Bool
 | .lc2 ..=>false
 |_=>true
mutual
noncomputable def mS:IS->MC->Stmt->Bool
 | .asg i a=>λM s=>match s with
  | .Assign [.Name x py] e _=>M.N[i]?==some x&&locB M x&&mE a M e&&notL2 a
  |_=>false
 | .asgT ts a=>λM s=>match s with
  | .Assign [.Tuple es _ _] e _=>(zg5 e || !(es.length==2 || es.length==3))&&mGs M ts es&&mE a M e
  |_=>false
 | .asgI o i a=>λM s=>match s with
  | .Assign [.Subscript l r _] e _=>noLC e&&pV r&&mE o M l&&mE i M r&&mE a M e
  |_=>false
 | .asgA o f a=>λM s=>false
 | .ex a=>λM s=>match s with
  | .Expr e _=>noLC e&&mE a M e
  |_=>false
 | .ret a=>λM s=>match s with
  | .Return (some e) _=>mE a M e
  |_=>false
 | .retN=>λM s=>match s with|.Return none _=>true|_=>false
 | .pass=>λM s=>match s with|.Pass _=>true|_=>false
 | .brk=>λM s=>match s with|.Break _=>true|_=>false
 | .cnt=>λM s=>match s with|.Continue _=>true|_=>false
 | .ite c a b=>λM s=>match s with
  | .If t x y _=>mE c M t&&vP a M x&&vP b M y
  |_=>false
 | .whl c b=>λM s=>match s with
  | .While t x [] _=>mE c M t&&vP b M x
  |_=>false
 | .for tg it b=>λM s=>match s with
  | .For t x y [] _=>vH x&&mG M tg t&&mI it M x&&vP b M y
  |_=>false
 | .dead=>λM s=>true
 | .asgS i j a=>λM s=>false
noncomputable def vP:ISs->MC->List Stmt->Bool
 | .nil=>λM s=>match s with | []=>true|_=>false
 | .cons a as=>λM s=>match s with|x::xs=>mS a M x&&vP as M xs|_=>false
noncomputable def zg5:Expr->Bool
 | .Tuple ..=>false
 |_=>true
end
theorem tP {a b:Bool} (h:(a&&b)=true):a=true/\b=true:=(Zm a b).mp h
theorem bd3 {a b c:Bool} (h:(a&&b&&c)=true):(a=true/\b=true)/\c=true:=⟨tP (tP h).1,(tP h).2⟩
theorem bd4 {a b c d:Bool} (h:(a&&b&&c&&d)=true):((a=true/\b=true)/\c=true)/\d=true:=⟨bd3 (tP h).1,(tP h).2⟩
theorem bd5 {a b c d e:Bool} (h:(a&&b&&c&&d&&e)=true):(((a=true/\b=true)/\c=true)/\d=true)/\e=true:=⟨bd4 (tP h).1,(tP h).2⟩
theorem bd6 {a b c d e f:Bool} (h:(a&&b&&c&&d&&e&&f)=true):((((a=true/\b=true)/\c=true)/\d=true)/\e=true)/\f=true:=⟨bd5 (tP h).1,(tP h).2⟩
theorem bd7 {a b c d e f g:Bool} (h:(a&&b&&c&&d&&e&&f&&g)=true):(((((a=true/\b=true)/\c=true)/\d=true)/\e=true)/\f=true)/\g=true:=⟨bd6 (tP h).1,(tP h).2⟩
theorem bd8 {a b c d e f g k:Bool} (h:(a&&b&&c&&d&&e&&f&&g&&k)=true):((((((a=true/\b=true)/\c=true)/\d=true)/\e=true)/\f=true)/\g=true)/\k=true:=⟨bd7 (tP h).1,(tP h).2⟩
theorem bd9 {a b c d e f g k l:Bool} (h:(a&&b&&c&&d&&e&&f&&g&&k&&l)=true):(((((((a=true/\b=true)/\c=true)/\d=true)/\e=true)/\f=true)/\g=true)/\k=true)/\l=true:=⟨bd8 (tP h).1,(tP h).2⟩
theorem bd10 {a b c d e f g k l m:Bool} (h:(a&&b&&c&&d&&e&&f&&g&&k&&l&&m)=true):((((((((a=true/\b=true)/\c=true)/\d=true)/\e=true)/\f=true)/\g=true)/\k=true)/\l=true)/\m=true:=⟨bd9 (tP h).1,(tP h).2⟩
end L3
namespace L2
open PySem PySem.Spec PyProof.Rows
section
variable {X:Cx} {pins:PL} {σ:St} {H:Hp} {s:Shared} {d:Addr} {ob:Obj} {l:List (xM×V)}
theorem sJ {u:HO} (e:H d=some u):yG H d u=H:=by
 funext b
 unfold yG
 split
 .rename_i h;subst h;exact e.symm
 .rfl
end
end L2
namespace L3
open PySem PySem.Spec PyProof.Rows L2 PySem.SeqAt
structure Par where
 prog:Program
 w:World
 K:yM
 mg:Str->Option Value
 base:Heap
 A:Around
structure Fits (p:Par) (X:Cx):Prop where
 prog:X.prog=p.prog
 w:X.w=p.w
 K:X.K=p.K
 mg:X.mg=p.mg
 base:X.base=p.base
 A:X.A=p.A
 calm:X.calm=true
 xe:X.xe=λ_ _=>False
structure ItIs (K:yM) (J:It) (H1:Hp) (ws:List W) (stab:Hw->Prop):Prop where
 go:∀ i H G,yO K H1 H->xP K H G->stab G->i<ws.length->J.go i H
 yld:∀ i H G x H',yO K H1 H->xP K H G->stab G->i<ws.length->J.yld i H x H'->∃ w,ws[i]?=some w/\yO K H H'/\xF K H' w x/\xP K H' G
 stop:∀ i H G,yO K H1 H->xP K H G->stab G->ws.length<=i->J.stop i H
noncomputable def bI (K:yM) (t:I3):TI:=λτ H R=>∃ σ G,yR K H σ τ/\xP K H G/\t σ G λws stab G1=>∀ J H1,yO K H H1->xP K H1 G1->ItIs K J H1 ws stab->R J H1
noncomputable def cN (X:Cx):List Expr->List E3->Prop
 | [],[]=>True
 |x::xs,e::es=>wX e/\PE X x (xW X.K e)/\cN X xs es
 |_,_=>False
structure Good (Γ:Ctx3) (p:Par):Prop where
 mono:TabMono Γ
 un:p.A.units+200<cLine
 fn:∀ f∈Γ.fn,∀ X,Fits p X->Gl X f.nm->∀ (args:List Expr) (t:A3) (q pos:Pos),qH t->args.all noStar=true->PA X args (vD X.K t)->(args=[]->∀ σ G Q,t σ G Q->Q [] G)->(f.nm==("__debug__":Str))=false->f.nm ≠ "__name__" ->
  PE X (.Call (.Name f.nm q) args [] pos) (xW X.K λσ G Q=>t σ G λws G1=>f.sp ws G1 Q XN)
 gl:∀ g∈Γ.gl,∀ X,Fits p X->Gl X g.1->∀ q:Pos,(g.1==("__debug__":Str))=false->g.1 ≠ "__name__" -> PE X (.Name g.1 q) (xW X.K λ_ G Q=>Q g.2 G)
 mt:∀ m∈Γ.mt,∀ X,Fits p X->∀ (o:Expr) (args:List Expr) (to:E3) (t:A3) (apos cpos:Pos),wX to->qH t->rJ o=true->(apos.endLine==cpos.line)=true->args.length<25->args.all noStar=true ->
  PE X o (xW X.K to)->PA X args (vD X.K t)->(args=[]->∀ σ G Q,t σ G Q->Q [] G)->PE X (.Call (.Attribute o m.nm apos) args [] cpos) (xW X.K λσ G Q=>to σ G λx G1=>tyW G1 x m.T/\t σ G1 λws G2=>m.sp x ws G2 Q)
 it:∀ i∈Γ.it,∀ X,Fits p X->Gl X i.nm->∀ (tg:Expr) (args:List Expr) (t:A3) (q pos:Pos),qH t->args.all noStar=true->PA X args (vD X.K t)->(args=[]->∀ σ G Q,t σ G Q->Q [] G)->(i.nm==("__debug__":Str))=false->i.nm ≠ "__name__" ->
  PI X tg (.Call (.Name i.nm q) args [] pos) (bI X.K λσ G R=>t σ G λws G1=>i.sp ws G1 R)
 cl:∀ c∈Γ.cl,Cls p.K c.1/\∀ f∈c.2,zgd p.K c.1 f
 sx:∀ k∈Γ.sx,∀ X,Fits p X->∀ (e:Expr) (xs:List Expr) (es:List E3),k.m X.env.scope e=some xs->cN X xs es->xs.all noStar=true->PA X xs (vD X.K (cB es)) ->
  PE X e (xW X.K λσ G Q=>cB es σ G λws G1=>k.sp ws G1 Q)/\(∀ whole,isTrue e X.env whole=(do let v ← whole;standAt e.pos;holding [v] (truthy v)))/\∀ op vs pos,e≠.BoolOp op vs pos
 ix:∀ k∈Γ.ix,∀ X,Fits p X->∀ (tg e:Expr) (xs:List Expr) (es:List E3),k.m X.env.scope e=some xs->cN X xs es->xs.all noStar=true->PA X xs (vD X.K (cB es)) ->
  PI X tg e (bI X.K λσ G R=>cB es σ G λws G1=>k.sp ws G1 R)
structure Lk (Γ:Ctx3) (M:MC) (p:Par) (X:Cx):Prop where
 fits:Fits p X
 N:X.N=M.N
 sc:X.env.scope=M.sc
 nd:M.N.Nodup
 own:∀ x,M.own x=true->X.fn x=true
 kind:M.sc.kind=.function
 fns:Γ.fn.map (·.nm)=M.fns
 gls:Γ.gl.map (·.1)=M.gls
 mts:Γ.mt.map (·.nm)=M.mts
 its:Γ.it.map (·.nm)=M.its
 sxs:Γ.sx.map (·.m)=M.sxm
 ixs:Γ.ix.map (·.m)=M.ixm
theorem qO {e:Expr} {es:List Expr} {env:Env} (h:noStar e=true):starEach (e::es) env=(false,eval e env)::starEach es env:=by
 cases e<;>first|rfl|exact zzQ h
theorem vV {o:Expr} {f:Str} {env:Env} {t:Sem Value} (h:rJ o=true):attributeBase o f env t=t:=by
 unfold attributeBase
 split
 .exact zzQ h
 .rfl
theorem kR {e:Expr} {env:Env} (h:vH e=true):∀ x,foldedSetIterable e env x=pure x:=λx=>by
 cases e<;>first|rfl|exact zzQ h
theorem tG {op:CmpOp} {e:Expr} (h:vH e=true):behindInMarks op e=false:=by
 cases e<;>first|rfl|exact zzQ h
theorem zet {e:Expr} (h:pV e=true):zdV e:=λo i=>by
 cases e<;>first|rfl|exact zzQ h
theorem qA {e:Expr} {t:Option Expr} {n:Nat} {env:Env} (h:noLC e=true):swapsWith e t n env=pure false:=by
 cases e<;>first|rfl|exact zzQ h
theorem zbZ {sc:Scope} {x:Str} (h:visB sc x=true):Vis sc x:=by
 unfold visB at h
 split at h
 .rename_i e;exact .inl e
 .rename_i e;exact .inr (.inl e)
 .rename_i e;exact .inr (.inr e)
 .exact zzQ h
theorem sY {X:Cx} {sc:Scope} {x:Str} (e:X.env.scope=sc) (h:kB sc x=true):Gl X x/\(x==("__debug__":Str))=false/\x ≠ "__name__" := by
 unfold kB at h;simp only[Zm,Zai] at h;refine⟨?_,h.1.2,λz=>?_⟩
 .show X.env.scope.names.lookup x=_;rw[e];exact eq_of_beq h.1.1
 .subst z;have:=h.2;simp at this
theorem xQ {α:Type} [BEq α] [LawfulBEq α] {a:Option α} {b:α} (h:(a==some b)=true):a=some b:=eq_of_beq h
theorem qM {α β:Type} {f:α->β} {l:List α} {i:Nat} {y:β} (h:(l.map f)[i]?=some y):∃ x,l[i]?=some x/\f x=y:=by
 rw[Zz] at h
 cases e:l[i]? with
 |none=>rw[e] at h;cases h
 |some x=>rw[e] at h;exact⟨x,rfl,ZE h⟩
section
variable {X:Cx}
theorem zd6 {K:yM} {e:E3} (m:wX e) {τ:L2.St} {H:Hp} {Q:Bool->Hp->Prop} (h:jM K (zP e) τ H Q):xW K e τ H (λx H'=>∃ k,TruV K x H' k/\Q k H'):=by
 obtain⟨σ,G,hs,ha,h⟩:=h;refine xJ m hs ha h λw G1 v H1 gr _ rp ab q=>?_
 split at q
 .rename_i b hb;exact⟨b,zgx rp ab hb,q H1 gr ab⟩
 .exact q.elim
theorem pt_of {x:Expr} {e:E3} (m:wX e) (h:PE X x (xW X.K e)) (he:∀ whole,isTrue x X.env whole=(do let v ← whole;standAt x.pos;holding [v] (truthy v))):PT X x (jM X.K (zP e)) :=
 (zel h he).imp λσ H Q q=>zd6 m q
theorem zdM {K:yM} {e:E3} (m:wX e) {τ:L2.St} {H:Hp} {Q:Bool->Hp->Prop} (h:jM K (zD e) τ H Q):xW K e τ H (λx H'=>∃ k,x=.bl k/\Q k H'):=by
 obtain⟨σ,G,hs,ha,h⟩:=h;refine xJ m hs ha h λw G1 v H1 gr _ rp ab q=>?_
 cases w with
 |bl b=>cases rp;exact⟨b,rfl,q H1 gr ab⟩
 |_=>exact q.elim
theorem bQ {K:yM} {ea eb:E3} {r:R3} (ma:wX ea) (mb:wX eb) (mr:sO r) {τ:L2.St} {H:Hp} {Q:VK} (h:xW K (λσ G Q=>ea σ G λx G1=>eb σ G1 λy G2=>r x y G2 Q) τ H Q) :
  tOp (mL K r) (xW K ea) (xW K eb) τ H Q:=by
 obtain⟨σ,G,hs,ha,h⟩:=h;refine xJ ma hs ha h λx G1 v H1 g1 hs1 rx a1 h1=>?_;refine xJ mb hs1 a1 h1 λy G2 u H2 g2 hs2 ry a2 h2=>?_;exact⟨x,y,G2,rx.mono g2,ry,a2,mr x y G2 _ _ (λw G' q v' H' g'=>q v' H' ((g1.trans g2).trans g')) h2⟩
theorem zi9 {tg l:Expr} {tl:TE} (hl:PE X l tl):PI X tg l (λσ H R=>tl σ H λx H1=>∃ a,x=.ref a/\(((∃ xs,sL X.K H1 a xs)/\R (Itl X.K a) H1)\/((∃ xs,sP X.K H1 a xs)/\R (Itt X.K a) H1))):=by
 intro pins s σ H R I h;refine thn (hl pins s σ H _ I h) λv s1 ⟨x,H1,I1,r1,q1⟩=>?_;obtain⟨a,e,q1⟩:=q1;subst e;cases r1;rcases q1 with⟨⟨xs,hq⟩,q⟩|⟨⟨xs,hq⟩,q⟩
 .obtain ⟨its,rv,p,hz⟩:=I1.list hq;refine Za5 p.isList ?_;refine⟨s1.heap.objs.size,[s1.heap.objs.size],_,_,H1,rfl,I1.kept (t':=s1.toks) λb o e=>Zb _ e,zb3 a _,⟨_,Zl _ rfl,rfl,rfl⟩,λb hb=>?_,q⟩;have e:b=s1.heap.objs.size:=by simpa using hb
  subst e;exact I1.fpOk (zzR _) (I1.hok.fresh (zzR _))
 .obtain ⟨its,rv,p,hz⟩:=I1.tuple hq;refine wpAny_pyIter_tuple (show s1.heap.IsTuple a its.toArray from p) ?_;refine⟨s1.heap.objs.size,[s1.heap.objs.size],_,_,H1,rfl,I1.kept (t':=s1.toks) λb o e=>Zb _ e,zbu a _,⟨_,Zl _ rfl,rfl,rfl⟩,λb hb=>?_,q⟩;have e:b=s1.heap.objs.size:=by simpa using hb
  subst e;exact I1.fpOk (zzR _) (I1.hok.fresh (zzR _))
theorem zjW {K:yM} {a:Addr} {H1:Hp} {ws:List W}:ItIs K (Itl K a) H1 ws (λG=>yN G a=some ws) where
 go:=λi H G _ ab st hi=>by
  obtain⟨vs,sq,rs⟩:=ab.seq st;have hl:=rs.length;obtain⟨v,e⟩:∃ v,vs[i]?=some v:=⟨vs[i]''f',Zf _⟩;exact⟨vs,v,sq,e⟩
 yld:=λi H G x H' _ ab st hi y=>by
  obtain⟨vs,sq,rs⟩:=ab.seq st;obtain⟨e,y⟩:=y;subst e;obtain⟨w,ew,rp⟩:=rs.get' (y vs sq);exact⟨w,ew,.refl,rp,ab⟩
 stop:=λi H G _ ab st hi=>by
  obtain⟨vs,sq,rs⟩:=ab.seq st;exact⟨vs,sq,by rw[rs.length];exact hi⟩
theorem zjU {K:yM} {a:Addr} {H1:Hp} {ws:List W} {vs:List V} (sq:sP K H1 a vs) (rs:yY K H1 ws vs):ItIs K (Itt K a) H1 ws (λ_=>True) where
 go:=λi H G g ab st hi=>by
  have hl:=rs.length;obtain⟨v,e⟩:∃ v,vs[i]?=some v:=⟨vs[i]''f',Zf _⟩;exact⟨vs,v,g.1 _ _ sq,e⟩
 yld:=λi H G x H' g ab st hi y=>by
  obtain⟨e,y⟩:=y;subst e;obtain⟨w,ew,rp⟩:=(rs.mono g).get' (y vs (g.1 _ _ sq));exact⟨w,ew,.refl,rp,ab⟩
 stop:=λi H G g ab st hi=>⟨vs,g.1 _ _ sq,by rw[rs.length];exact hi⟩
theorem zja {tg x:Expr} {e:E3} (m:wX e) (h:PE X x (xW X.K e)):PI X tg x (bI X.K λσ G R=>e σ G λw G1=>uH w G1 R):=by
 intro pins s σ H R I q;refine zi9 h pins s σ H R I ?_;obtain⟨σ3,G,hs,ha,q⟩:=q;refine xJ m hs ha q λw G1 v H1 gr hs1 rp ab q=>?_
 cases w with
 |tup ws =>
  obtain⟨a,vs,rfl,sq,rs⟩:=rp;exact⟨a,rfl,.inr ⟨⟨vs,sq⟩,q _ H1 gr ab (zjU sq rs)⟩⟩
 |ref p =>
  cases rp;simp only[uH] at q
  split at q
  .rename_i ws e;obtain⟨vs,sq,rs⟩:=ab.seq e;exact⟨p,rfl,.inl ⟨⟨vs,sq⟩,q _ H1 gr ab zjW⟩⟩
  .exact q.elim
 |_=>exact q.elim
noncomputable def bH (K:yM) (t:G3):TG:=λv τ H Q=>∃ w σ G,xF K H w v/\yR K H σ τ/\xP K H G/\t w σ G λσ' G'=>∀ τ' H',yO K H H'->yR K H' σ' τ'->xP K H' G'->Q τ' H'
noncomputable def lowGs (K:yM) (t:Gs3):TGs:=λvs τ H Q=>∃ ws σ G,yY K H ws vs/\yR K H σ τ/\xP K H G/\t ws σ G λσ' G'=>∀ τ' H',yO K H H'->yR K H' σ' τ'->xP K H' G'->Q τ' H'
theorem _root_.L2.PG.imp {tg:Expr} {t t':TG} (h:PG X tg t) (k:∀ v σ H Q,t' v σ H Q->t v σ H Q):PG X tg t':=λpins s σ H v u Q I r q=>h pins s σ H v u Q I r (k v σ H Q q)
theorem _root_.L2.PGs.imp {tg:List Expr} {t t':TGs} (h:PGs X tg t) (k:∀ v σ H Q,t' v σ H Q->t v σ H Q):PGs X tg t':=λpins s σ H v u Q I r q=>h pins s σ H v u Q I r (k v σ H Q q)
theorem gA {e:Expr} {es:List Expr} {env:Env} (h:noStar e=true):assignEach (e::es) env=(false,assign e env)::assignEach es env:=by
 cases e<;>first|rfl|exact zzQ h
end
noncomputable def MonoG (t:G3):Prop:=∀ w σ G (Q Q':xZ->Hw->Prop),(∀ a b,Q a b->Q' a b)->t w σ G Q->t w σ G Q'
noncomputable def zkI (t:Gs3):Prop:=∀ w σ G (Q Q':xZ->Hw->Prop),(∀ a b,Q a b->Q' a b)->t w σ G Q->t w σ G Q'
mutual
theorem kU:∀ t:ITg,MonoG (zY t)
 | .nm i=>λw σ G Q Q' k h=>k _ _ h
 | .tup ts=>λw σ G Q Q' k h=>by
  cases w with
  |tup ws=>exact mY ts ws σ G Q Q' k h
  |_=>exact h.elim
theorem mY:∀ ts:ITgs,zkI (zZ ts)
 | .nil=>λw σ G Q Q' k h=>by
  cases w with
  |nil=>exact k _ _ h
  |cons _ _=>exact h.elim
 | .cons t ts=>λw σ G Q Q' k h=>by
  cases w with
  |nil=>exact h.elim
  |cons x r=>exact kU t x σ G _ _ (λσ' G' h=>mY ts r σ' G' Q Q' k h) h
end
theorem zcV {Γ:Ctx3} {M:MC} {p:Par} {X:Cx} (L:Lk Γ M p X) {x:Str} (h:locB M x=true):Loc X.env.scope x/\(X.fn x=true\/X.env.scope.names.lookup x=some .local):=by
 unfold locB at h;rw[L.sc]
 split at h
 .rename_i e;exact⟨.inl e,.inr e⟩
 .rename_i e;exact⟨.inr e,.inl (L.own x h)⟩
 .exact zzQ h
mutual
theorem sndG {Γ:Ctx3} {M:MC} {p:Par} {X:Cx} (L:Lk Γ M p X):∀ (t:ITg) (x:Expr),mG M t x=true->PG X x (bH X.K (zY t))
  | .nm i,x,h=>by
   cases x with
   |Name y q =>
    replace h:=tP h;have lo:=zcV L h.2;refine(zgU (i:=i) (L.N▸L.nd) (by rw[L.N];exact xQ h.1) lo.1 lo.2).imp λv σ H Q q=>?_;obtain⟨w,σ3,G,rp,hs,ab,q⟩:=q;exact q _ _ .refl (hs.set rp i) ab
   |_=>exact zzQ h
  | .tup ts,x,h=>by
   cases x with
   |Tuple es k q =>
    skip
    obtain⟨ps,hn,hst⟩:=zgE L ts es h;refine(zfO (n:=es.length) L.fits.calm ps hn hst).imp λv σ H Q q=>?_;obtain⟨w,σ3,G,rp,hs,ab,q⟩:=q
    cases w with
    |tup ws =>
      obtain⟨a,vs,rfl,sq,rs⟩:=rp;refine⟨a,vs,rfl,sq,?_,ws,σ3,G,rs,hs,ab,q⟩;rw[rs.length];exact zeM ts es ws σ3 G _ h q
    |_=>exact q.elim
   |_=>exact zzQ h
theorem zgE {Γ:Ctx3} {M:MC} {p:Par} {X:Cx} (L:Lk Γ M p X):∀ (ts:ITgs) (xs:List Expr),mGs M ts xs=true->PGs X xs (lowGs X.K (zZ ts))/\(assignEach xs X.env).length=xs.length/\(assignEach xs X.env).findIdx? (·.1)=none
 | .nil,[],_=>⟨(zgT).imp λvs σ H Q q=>by
   obtain⟨ws,σ3,G,rs,hs,ab,q⟩:=q
   cases ws with
   |nil=>exact⟨rs,q _ _ .refl hs ab⟩
   |cons _ _=>exact q.elim,rfl,rfl⟩
 | .cons t ts,x::xs,h=>by
  simp only[mGs,Zm] at h;obtain⟨ps,hn,hst⟩:=zgE L ts xs h.2;have es:=gA (es:=xs) (env:=X.env) h.1.1;refine⟨(zew (sndG L t x h.1.2) ps (by rw[es];rfl)).imp λvs σ H Q q=>?_,by rw[es,Zg,Zg,hn],?_⟩
  .obtain ⟨ws,σ3,G,rs,hs,ab,q⟩:=q
   cases ws with
   |nil=>exact q.elim
   |cons w r =>
    obtain⟨v,vr,e,rp,rr⟩:=rs;refine⟨v,vr,e,w,σ3,G,rp,hs,ab,kU t w σ3 G _ _ (λσ' G' q τ' H' g' hs' ab'=>?_) q⟩;exact⟨r,σ',G',rr.mono g',hs',ab',mY ts r σ' G' _ _ (λσ2 G2 q τ2 H2 g2=>q τ2 H2 (g'.trans g2)) q⟩
  .rw[es,List.findIdx?_cons];simp only[zzB,if_false,hst];rfl
theorem zeM {M:MC}:∀ (ts:ITgs) (xs:List Expr) (ws:List W) (σ:xZ) (G:Hw) (Q:xZ->Hw->Prop),mGs M ts xs=true->zZ ts ws σ G Q->ws.length=xs.length
 | .nil,[],ws,σ,G,Q,_,q=>by
  cases ws with
  |nil=>rfl
  |cons _ _=>exact q.elim
 | .cons t ts,x::xs,ws,σ,G,Q,h,q=>by
  simp only[mGs,Zm] at h
  cases ws with
  |nil=>exact q.elim
  |cons w r =>
   have:∃ σ' G',zZ ts r σ' G' Q:=exG t w σ G _ q;obtain⟨σ',G',q'⟩:=this;rw[Zg,Zg,zeM ts xs r σ' G' Q h.2 q']
theorem exG:∀ (t:ITg) (w:W) (σ:xZ) (G:Hw) (Q:xZ->Hw->Prop),zY t w σ G Q->∃ σ' G',Q σ' G'
 | .nm i,w,σ,G,Q,q=>⟨_,_,q⟩
 | .tup ts,w,σ,G,Q,q=>by
  cases w with
  |tup ws=>exact exGs ts ws σ G Q q
  |_=>exact q.elim
theorem exGs:∀ (ts:ITgs) (ws:List W) (σ:xZ) (G:Hw) (Q:xZ->Hw->Prop),zZ ts ws σ G Q->∃ σ' G',Q σ' G'
 | .nil,ws,σ,G,Q,q=>by
  cases ws with
  |nil=>exact⟨_,_,q⟩
  |cons _ _=>exact q.elim
 | .cons t ts,ws,σ,G,Q,q=>by
  cases ws with
  |nil=>exact q.elim
  |cons w r =>
   obtain⟨σ',G',q'⟩:=exG t w σ G _ q;exact exGs ts r σ' G' Q q'
end
noncomputable def lowO (K:yM) (t:xZ->Hw->(Option Int->Hw->Prop)->Prop):TO:=λτ H Q=>∃ σ G,yR K H σ τ/\xP K H G/\t σ G λo G'=>∀ H',yO K H H'->xP K H' G'->Q o H'
theorem _root_.L2.PO.imp {X:Cx} {e:Option Expr} {t t':TO} (h:PO X e t) (k:∀ σ H Q,t' σ H Q->t σ H Q):PO X e t':=λpins s σ H Q I q=>h pins s σ H Q I (k σ H Q q)
theorem _root_.L2.PTs.imp {X:Cx} {e:List Expr} {t t':TT} (h:PTs X e t) (k:∀ σ H Q,t' σ H Q->t σ H Q):PTs X e t':=λpins s σ H Q I q=>h pins s σ H Q I (k σ H Q q)
theorem _root_.L2.PI.imp {X:Cx} {tg x:Expr} {t t':TI} (h:PI X tg x t) (k:∀ σ H R,t' σ H R->t σ H R):PI X tg x t':=λpins s σ H R I q=>h pins s σ H R I (k σ H R q)
noncomputable def capV (k:Nat) (caps:List Nat) (σ:L2.St):L2.St:=List.replicate k none++caps.map λj=>(σ[j]?).join
theorem sV {α:Type} {k:Nat} {caps:List Nat} {σ:List (Option α)} {i:Nat} {v:α} (h:(List.replicate k none++caps.map λj=>(σ[j]?).join)[i]?=some (some v)):k<=i/\∃ j,caps[i-k]?=some j/\σ[j]?=some (some v):=by
 by_cases hi:i<k
 .rw[ZX (by simpa using hi),ZaU,if_pos hi] at h;cases h
 .rw[Zab (by simpa using hi),Zbb,Zz] at h;refine⟨by omega,?_⟩
  cases e:caps[i-k]? with
  |none=>rw[e] at h;cases h
  |some j =>
   rw[e] at h;have h':(σ[j]?).join=some v:=ZE h;refine⟨j,rfl,?_⟩
   cases q:σ[j]? with
   |none=>rw[q] at h';cases h'
   |some o=>rw[q] at h';exact congrArg some h'
theorem zdJ {K:yM} {H:Hp} {σ:xZ} {τ:L2.St} (h:yR K H σ τ) (k:Nat) (caps:List Nat):yR K H (jP k caps σ) (capV k caps τ):=by
 refine⟨by simp[jP,capV],λi w e=>?_⟩;obtain⟨hk,j,ej,es⟩:=sV e;obtain⟨v,ev,rp⟩:=h.2 j w es;refine⟨v,?_,rp⟩;unfold capV;rw[Zab (by simpa using hk),Zbb,Zz,ej];simp[ev]
theorem nN:∀ {l:List Str},sC l=true->l.Nodup
 | [],_=>Zby
 |x::r,h=>by
  simp only[sC,Zm,Zai] at h;refine Zar.mpr ⟨λhm=>?_,nN h.2⟩;have:=List.elem_eq_true_of_mem hm;rw[List.contains_eq_mem] at h;simp[hm] at h
theorem zcw {X:Cx} {sc out:Scope} (e:X.env.scope=out):relabel sc X.env=bV sc out:=by
 unfold relabel bV Env.kindOf;rw[e]
theorem zbp {X:Cx} {sc out:Scope} (e:X.env.scope=out) (h:blkB out sc=true):BlkSc X sc:=by
 unfold blkB at h;simp only[Zm,ZZ] at h;obtain⟨⟨⟨h1,h2⟩,h3⟩,h4⟩:=h;refine⟨eq_of_beq h1,λy hy=>?_,λy hy=>?_,λx hx=>?_,λy hy z=>?_⟩
 .simpa using(h2 _ hy).1
 .simpa using(h2 _ hy).2
 .have:=h3 _ hx;simp only[beq_self_eq_true,ZY,ZbI,ZbR,beq_iff_eq] at this;show X.env.scope.names.lookup x=_\/X.env.scope.names.lookup x=_;rw[e];exact this
 .have:=h4 y hy;rw[z] at this;simpa using this
theorem dC {X:Cx} {M:MC} {sc:Scope} {names:List Str} {caps:List Nat} (eN:X.N=M.N) (es:X.env.scope=M.sc)
  (h:(caps.all λj=>decide (j<M.N.length)&&(sc.names.lookup (M.N.getD j Str.empty)==some .free))=true) :
  Caps X sc (names++caps.map (λj=>M.N.getD j Str.empty)) (capV names.length caps):=by
 intro σ hl;simp only[ZZ,Zm,decide_eq_true_eq,Zai] at h;refine⟨by simp[capV],λi x v hN hσ _=>?_⟩;obtain⟨hk,j,ej,e⟩:=sV hσ;rw[Zab hk,Zz,ej] at hN;have hx:M.N.getD j Str.empty=x:=ZE hN;have hj:=h j (Zw ej);refine⟨?_,j,?_,e⟩
 .rw[← hx];exact eq_of_beq hj.2
 .rw[eN,← hx,List.getD_eq_getElem?_getD,Zf hj.1];rfl
theorem zjG {K:yM} {J:It} {H1:Hp} {items:List W} {stab:Hw->Prop} {G1:Hw} {σ:xZ} {τ:L2.St} {tg:ITg} {c:T3} {e:E3} {Q:VK} {H0:Hp} (mc:vT c) (me:wX e) (it:ItIs K J H1 items stab) (ab:xP K H1 G1) (hs:yR K H1 σ τ) (g0:yO K H0 H1)
  (hw:∀ w G' (Q:xZ->Hw->Prop),zY tg w σ G' Q->zY tg w σ G' λσ2 G2=>(σ2.length=σ.length/\∀ (i:Nat) (v:W),σ[i]?=some (some v)->σ2[i]?=some (some v))/\Q σ2 G2)
  (h:lcR items stab G1 (λw G' K=>zY tg w σ G' λσ2 G2=>c σ2 G2 λb G3=>if b=true then e σ2 G3 λx G4=>K (some x) G4 else K none G3) (jT K H0 Q)) :
  tLCb J τ (bH K (zY tg)) (jM K c) (λτ H Q=>yO K H0 H/\xW K e τ H Q) (λacc H'=>∀ p,H' p=none->Q (.ref p) (yG H' p (.lst acc))) H1:=by
 obtain⟨Pv,p0,pst,hlen,step,fin⟩:=h;refine⟨λi m τ acc H=>m+i=items.length/\yO K H1 H/\yR K H σ τ/\∃ ws G,yY K H ws acc/\xP K H G/\Pv i ws G,⟨items.length,rfl,.refl,hs,[],G1,rfl,ab,p0⟩,?_⟩;rintro i m τ acc H ⟨hm,gr,hs,ws,G,rs,a,pv⟩;have hst:=pst i ws G pv 'f';have hacc:acc.length=ws.length:=rs.length
 by_cases hi:i<items.length
 .refine .inr ⟨it.go i H G gr a hst.1 hi,by omega,λx H' y=>?_⟩;obtain⟨w,ew,g1,rp,a1⟩:=it.yld i H G x H' gr a hst.1 hi y;refine⟨w,σ,G,rp,hs.mono g1,a1,kU tg w σ G _ _ (λσ2 G2 q τ2 H2 g2 hs2 a2=>?_) (hw w G _ (step i w ws G ew pv))⟩;obtain⟨⟨wl,wk⟩,q⟩:=q;have back:∀ {τ':L2.St} {H':Hp},yR K H' σ2 τ'->yR K H' σ τ':=λ{τ' H'} r=>⟨by rw[← wl];exact r.1,λk w e=>r.2 k w (wk k w e)⟩;refine sR mc hs2 a2 q λb G3 H3 g3 hs3 a3 q3=>?_
  cases b with
  |true =>
   rw[if_pos rfl] at q3 ⊢;refine⟨g0.trans (gr.trans (g1.trans (g2.trans g3))),xJ me hs3 a3 q3 λx G4 v H4 g4 hs4 rx a4 q4=>?_⟩;refine⟨m-1,by omega,by omega,gr.trans (g1.trans (g2.trans (g3.trans g4))),back hs4,ws++[x],G4,?_,a4,q4⟩;exact(rs.mono (g1.trans (g2.trans (g3.trans g4)))).append ⟨v,[],rfl,rx,rfl⟩
  |false =>
   rw[if_neg 'c'] at q3 ⊢;exact⟨m-1,by omega,by omega,gr.trans (g1.trans (g2.trans g3)),back hs3,ws,G3,rs.mono (g1.trans (g2.trans g3)),a3,q3⟩
 .refine .inl ⟨it.stop i H G gr a hst.1 'f',λp hp=>?_⟩;have ei:i=items.length:=by omega
  subst ei;exact fin ws G pv p (a.free hp) _ _ ((g0.trans gr).trans (yB hp)) rfl (a.new hp ⟨acc,rfl,rs.mono (yB hp)⟩)
theorem sG:∀ (tg:ITg) (w:W) (σ:xZ) (G:Hw) (Q:xZ->Hw->Prop),zY tg w σ G Q->zY tg w σ G λσ2 G2=>σ2.length=σ.length/\Q σ2 G2:=by
 intro tg
 refine ITg.rec (motive_1:=λ_=>True) (motive_2:=λ_=>True) (motive_3:=λ_=>True) (motive_4:=λ_=>True) (motive_5:=λtg=>∀ (w:W) (σ:xZ) (G:Hw) (Q:xZ->Hw->Prop),zY tg w σ G Q->zY tg w σ G λσ2 G2=>σ2.length=σ.length/\Q σ2 G2)
  (motive_6:=λts=>∀ (ws:List W) (σ:xZ) (G:Hw) (Q:xZ->Hw->Prop),zZ ts ws σ G Q->zZ ts ws σ G λσ2 G2=>σ2.length=σ.length/\Q σ2 G2)
  ?_ ?_ ?_ ?_ ?_ ?_ ?_ ?_ ?_ ?_ ?_ ?_ ?_ ?_ ?_ ?_ ?_ ?_ ?_ ?_ ?_ ?_ ?_ ?_ ?_ ?_ ?_ ?_ ?_ ?_ ?nm ?tup ?nil ?cons tg
 case nm=>exactλi w σ G Q h=>⟨by simp,h⟩
 case tup =>
  intro ts ih w σ G Q h
  cases w with
  |tup ws=>exact ih ws σ G Q h
  |_=>exact h.elim
 case nil =>
  intro ws σ G Q h
  cases ws with
  |nil=>exact⟨rfl,h⟩
  |cons _ _=>exact h.elim
 case cons =>
  intro t ts ht hts ws σ G Q h
  cases ws with
  |nil=>exact h.elim
  |cons w r =>
   refine kU t w σ G _ _ (λσ' G' q=>?_) (ht w σ G _ h);exact mY ts r σ' G' _ _ (λσ2 G2 q2=>⟨q2.1.trans q.1,q2.2⟩) (hts r σ' G' Q q.2)
 all_goals intros;trivial
mutual
theorem tI:∀ (tg:ITg) (w:W) (σ:xZ) (G:Hw) (Q:xZ->Hw->Prop),zY tg w σ G Q->zY tg w σ G λσ2 G2=>(∀ i,i∉pE tg->σ2[i]?=σ[i]?)/\Q σ2 G2
 | .nm j,w,σ,G,Q,h=>⟨λi hi=>by rw[Zag];intro z;exact hi (by simp[pE,z]),h⟩
 | .tup ts,w,σ,G,Q,h=>by
  cases w with
  |tup ws=>exact fS ts ws σ G Q h
  |_=>exact h.elim
theorem fS:∀ (ts:ITgs) (ws:List W) (σ:xZ) (G:Hw) (Q:xZ->Hw->Prop),zZ ts ws σ G Q->zZ ts ws σ G λσ2 G2=>(∀ i,i∉zd8 ts->σ2[i]?=σ[i]?)/\Q σ2 G2
 | .nil,ws,σ,G,Q,h=>by
  cases ws with
  |nil=>exact⟨λ_ _=>rfl,h⟩
  |cons _ _=>exact h.elim
 | .cons t ts,ws,σ,G,Q,h=>by
  cases ws with
  |nil=>exact h.elim
  |cons w r =>
   refine kU t w σ G _ _ (λσ' G' q=>?_) (tI t w σ G _ h);refine mY ts r σ' G' _ _ (λσ2 G2 q2=>⟨λi hi=>?_,q2.2⟩) (fS ts r σ' G' Q q.2);simp only[zd8,ZA,not_or] at hi;rw[q2.1 i hi.2,q.1 i hi.1]
end
theorem zdz {K:yM} {H:Hp}:∀ (ks:List Str) {ws:List W} {vs:List V} {a:List (xM×W)} {b:List (xM×V)},yY K H ws vs->yE K H a b ->
  yE K H ((ks.zip ws).foldl (λacc kv=>gC acc (.inr kv.1) kv.2) a) (((ks.zip vs).map λkv=>((Sum.inr kv.1:xM),kv.2)).foldl (λacc kv=>vS acc kv.1 kv.2) b)
 | [],ws,vs,a,b,_,h=>by simpa using h
 |k::ks,[],vs,a,b,hr,h=>by rw[show vs=[] from hr];simpa using h
 |k::ks,w::ws,vs,a,b,hr,h=>by
  obtain⟨v,r,e,rw',rr⟩:=hr;subst e;simp only[ZS,List.foldl_cons,zzU];exact zdz ks rr (h.put rw')
theorem zfy {K:yM} {H:Hp} {G:Hw} {w:W} {v:V} {T:String} (r:xF K H w v) (ab:xP K H G) (h:tyW G w T):tyV K T v H:=by
 cases w with
 |str x=>cases r;exact h
 |ref p =>
  cases r;simp only[tyW] at h
  split at h
  .rename_i ws e;obtain⟨vs,q,_⟩:=ab.lst e;exact .inl ⟨h,vs,.of q⟩
  .rename_i ws e;obtain⟨vs,q,_⟩:=ab.seq (a:=p) (ws:=ws) (by unfold yN;rw[e]);exact .inl ⟨h,vs,q⟩
  .rename_i kvs e;obtain⟨l,q,_⟩:=ab.dic e;exact .inr (.inr (.inl ⟨h,.inl ⟨l,q⟩⟩))
  .exact h.elim
 |_=>exact h.elim
theorem zg6 {l:List Nat} {k:Nat} (h:l.all (λi=>decide (i<k))=true) {i:Nat} (hi:k<=i):i∉l:=λhm=>by
 have:=ZZ.mp h i hm;simp at this;omega
theorem zho {op:CmpOp} {a b:IE} {M:MC} {l:Expr} {os:List CmpOp} {rs:List Expr} {q:Pos} (h:mE (.cmp op a b) M (.Compare l os rs q)=true):∃ o r,os=[o]/\rs=[r]:=by
 cases os with
 |nil=>exact zzQ h
 |cons o os =>
  cases os with
  |cons _ _=>exact zzQ h
  |nil =>
   cases rs with
   |nil=>exact zzQ h
   |cons r rs =>
    cases rs with
    |cons _ _=>exact zzQ h
    |nil=>exact⟨o,r,rfl,rfl⟩
theorem zhp {o1 o2:CmpOp} {a b c:IE} {M:MC} {l:Expr} {os:List CmpOp} {rs:List Expr} {q:Pos} (h:mE (.chn o1 o2 a b c) M (.Compare l os rs q)=true):∃ p1 p2 r t,os=[p1,p2]/\rs=[r,t]:=by
 cases os with
 |nil=>exact zzQ h
 |cons p1 os =>
  cases os with
  |nil=>exact zzQ h
  |cons p2 os =>
   cases os with
   |cons _ _=>exact zzQ h
   |nil =>
    cases rs with
    |nil=>exact zzQ h
    |cons r rs =>
     cases rs with
     |nil=>exact zzQ h
     |cons t rs =>
      cases rs with
      |cons _ _=>exact zzQ h
      |nil=>exact⟨p1,p2,r,t,rfl,rfl⟩
section
variable {X:Cx} {a b c d:Expr} {pos:Pos} {ta tb tc td:TE}
end
section
variable {Γ:Ctx3} {p:Par} (g:Good Γ p)
noncomputable def wF (Γ:Ctx3) (p:Par) (e:IE):Prop:=∀ M X x,Lk Γ M p X->mE e M x=true->PE X x (xW X.K (zI Γ XN e).e)/\PT X x (jM X.K (zI Γ XN e).t)/\∀ op vs pos,x=.BoolOp op vs pos->PW X x (jM X.K (zI Γ XN e).t)
noncomputable def OkO (Γ:Ctx3) (p:Par) (o:IO):Prop:=∀ M X,Lk Γ M p X->(∀ x,mO o M x=true->PO X x (lowO X.K (zR Γ XN o)))/\∀ xs,mC o M xs=true->PTs X xs (jM X.K (zT Γ o))
noncomputable def OkA (Γ:Ctx3) (p:Par) (es:IEs):Prop:=∀ M X xs,Lk Γ M p X->mA es M xs=true->PA X xs (vD X.K (zX Γ XN es))/\xs.all noStar=true /\
 (∀ ks keys pos,keyB ks keys=true->keys.length=xs.length->keys.all (·.isSome)=true/\ks.length=keys.length/\∃ trs,PPs X pos keys xs trs/\∀ τ H (Q:List (V×V)->Hp->Prop),
  (∃ σ G,yR X.K H σ τ/\xP X.K H G/\zX Γ XN es σ G λws G'=>∀ vs H',yO X.K H H'->yY X.K H' ws vs->xP X.K H' G'->Q ((ks.zip vs).map λkv=>(V.str kv.1,kv.2)) H')->cK trs τ H Q)/\cN X xs (semL Γ es)
noncomputable def OkI (Γ:Ctx3) (p:Par) (it:II):Prop:=∀ M X x,Lk Γ M p X->mI it M x=true->∀ tg,PI X tg x (bI X.K (zW Γ XN it))
theorem wP {M:MC} {X:Cx} {x:Expr} {e:E3} (m:wX e) (h:PE X x (xW X.K e)) (he:∀ whole,isTrue x X.env whole=(do let v ← whole;standAt x.pos;holding [v] (truthy v))) (hb:∀ op vs pos,x≠.BoolOp op vs pos) :
  PE X x (xW X.K (zF e).e)/\PT X x (jM X.K (zF e).t)/\∀ op vs pos,x=.BoolOp op vs pos->PW X x (jM X.K (zF e).t) :=
 ⟨h,pt_of m h he,λop vs pos z=>absurd z (hb op vs pos)⟩
include g
theorem s_var (i:Nat):wF Γ p (.var i):=by
 intro M X x L h
 cases x with
 |Name y q =>
  replace h:=bd4 h;simp only[Zai] at h;refine wP (M:=M) (yU g.mono XN (.var i)) ((bR (i:=i) (by rw[L.N];exact xQ h.1.1.1) (by rw[L.sc];exact zbZ h.1.1.2) h.1.2 h.2).imp λτ H Q q=>?_) (λ_=>rfl) (λ_ _ _ z=>nomatch z);obtain⟨σ,G,hs,ab,q⟩:=q
  split at q
  .rename_i w e;obtain⟨v,ev,rp⟩:=hs.2 i w e;exact⟨v,ev,q v H .refl rp ab⟩
  .exact q.elim
 |_=>exact zzQ h
theorem s_con (c:Const):wF Γ p (.con c):=by
 intro M X x L h
 cases x with
 |Constant d k q =>
  replace h:=of_decide_eq_true h;subst h;refine wP (M:=M) (yU g.mono XN (.con c)) ?_ (λ_=>rfl) (λ_ _ _ z=>nomatch z)
  cases c with
  |none=>exact zjf.imp λτ H Q q=>by obtain⟨σ,G,hs,ab,q⟩:=q;exact q _ H .refl rfl ab
  |bool b=>exact pe_bl.imp λτ H Q q=>by obtain⟨σ,G,hs,ab,q⟩:=q;exact q _ H .refl rfl ab
  |int b=>exact zfR.imp λτ H Q q=>by obtain⟨σ,G,hs,ab,q⟩:=q;exact q _ H .refl rfl ab
  |str b=>exact zfP.imp λτ H Q q=>by obtain⟨σ,G,hs,ab,q⟩:=q;exact q _ H .refl rfl ab
  |_=>exactλpins s σ H Q I q=>by obtain⟨σ,G,hs,ab,q⟩:=q;exact q.elim
 |_=>exact zzQ h
theorem s_glb (i:Nat):wF Γ p (.glb i):=by
 intro M X x L h
 cases x with
 |Name y q =>
  replace h:=tP h;have gl:=sY L.sc h.2;have hi:=xQ h.1;rw[← L.gls] at hi;obtain⟨e,ei,rfl⟩:=qM hi;refine wP (M:=M) (yU g.mono XN (.glb i)) ((g.gl e (wR ei) X L.fits gl.1 q gl.2.1 gl.2.2).imp λτ H Q q=>?_) (λ_=>rfl) (λ_ _ _ z=>nomatch z);obtain⟨σ,G,hs,ab,q⟩:=q;simp only[ei] at q;exact⟨σ,G,hs,ab,q⟩
 |_=>exact zzQ h
theorem hu_X {M:MC} {X:Cx} (L:Lk Γ M p X):X.A.units+200<cLine:=by rw[L.fits.A];exact g.un
theorem s_bin (op:Operator) (a b:IE) (ha:wF Γ p a) (hb:wF Γ p b):wF Γ p (.bin op a b):=by
 intro M X x L h
 cases x with
 |BinOp l o r q =>
  replace h:=bd3 h;simp only[decide_eq_true_eq] at h;obtain⟨⟨rfl,h1⟩,h2⟩:=h;exact wP (M:=M) (yU g.mono XN (.bin op a b)) ((pe_op (zkB op) (ha M X l L h1).1 (hb M X r L h2).1).imp λτ H Q q=>bQ (yU g.mono XN a) (yU g.mono XN b) (cU op) q) (λ_=>rfl) (λ_ _ _ z=>nomatch z)
 |_=>exact zzQ h
theorem s_neg (a:IE) (ha:wF Γ p a):wF Γ p (.neg a):=by
 intro M X x L h
 cases x with
 |UnaryOp o l q =>
  cases o with
  |USub =>
   skip
   refine wP (M:=M) (yU g.mono XN (.neg a)) ((zjb zfx (ha M X l L h).1).imp λτ H Q q=>?_) (λ_=>rfl) (λ_ _ _ z=>nomatch z);obtain⟨σ,G,hs,ab,q⟩:=q;refine xJ (yU g.mono XN a) hs ab q λw G1 v H1 gr _ rp ab q=>?_
   cases w with
   |int i=>cases rp;exact⟨i,rfl,q _ H1 gr rfl ab⟩
   |_=>exact q.elim
  |_=>exact zzQ h
 |_=>exact zzQ h
theorem s_not (a:IE) (ha:wF Γ p a):wF Γ p (.not a):=by
 intro M X x L h
 cases x with
 |UnaryOp o l q =>
  cases o with
  |Not =>
   skip
   refine⟨(zje (ha M X l L h).1).imp λτ H Q q=>?_,(zi3 (ha M X l L h).2.1).imp λτ H Q q=>?_,λ_ _ _ z=>nomatch z⟩
   .obtain ⟨σ,G,hs,ab,q⟩:=q;refine xJ (yU g.mono XN a) hs ab q λw G1 v H1 gr _ rp ab q=>?_
    cases w with
    |bl i=>cases rp;exact⟨i,rfl,q _ H1 gr rfl ab⟩
    |_=>exact q.elim
   .obtain ⟨σ,G,hs,ab,q⟩:=q;exact sR (uL g.mono XN a) hs ab q λb G1 H1 gr _ ab q=>q H1 gr ab
  |_=>exact zzQ h
 |_=>exact zzQ h
theorem s_cmp (op:CmpOp) (a b:IE) (ha:wF Γ p a) (hb:wF Γ p b):wF Γ p (.cmp op a b):=by
 intro M X x L h
 cases x with
 |Compare l os rs q =>
   obtain⟨o,r,rfl,rfl⟩:=zho h;replace h:=bd4 h;simp only[decide_eq_true_eq] at h;obtain⟨⟨⟨rfl,h1⟩,h2⟩,h3⟩:=h;have m:=yU g.mono XN (.cmp op a b)
   refine⟨(zgX (rY (hu_X g L) op) (ha M X l L h1).1 (hb M X r L h2).1 (tG h3)).imp λτ H Q q=>bQ (yU g.mono XN a) (yU g.mono XN b) (xG op) q,
    (zgM (rY (hu_X g L) op) (ha M X l L h1).1 (hb M X r L h2).1 (tG h3)).imp λτ H Q q=>bQ (yU g.mono XN a) (yU g.mono XN b) (xG op) (zdM m q),λ_ _ _ z=>nomatch z⟩
 |_=>exact zzQ h
theorem s_chn (o1 o2:CmpOp) (a b c:IE) (ha:wF Γ p a) (hb:wF Γ p b) (hc:wF Γ p c):wF Γ p (.chn o1 o2 a b c):=by
 intro M X x L h
 cases x with
 |Compare l os rs q =>
   obtain⟨q1,q2,r,t,rfl,rfl⟩:=zhp h;replace h:=bd6 h;simp only[decide_eq_true_eq] at h;obtain⟨⟨⟨⟨⟨rfl,rfl⟩,h1⟩,h2⟩,h3⟩,h4⟩:=h;have m:=yU g.mono XN (.chn o1 o2 a b c)
   have key:∀ τ H Q,xW X.K (zI Γ XN (.chn o1 o2 a b c)).e τ H Q->zb7 (mL X.K (yZ o1)) (mL X.K (yZ o2)) (xW X.K (zI Γ XN a).e) (xW X.K (zI Γ XN b).e) (xW X.K (zI Γ XN c).e) τ H Q:=λτ H Q q=>by
    obtain⟨σ,G,hs,ab,q⟩:=q;refine xJ (yU g.mono XN a) hs ab q λx G1 v H1 g1 hs1 rx a1 q=>?_;refine xJ (yU g.mono XN b) hs1 a1 q λy G2 u H2 g2 hs2 ry a2 q=>?_;refine⟨x,y,G2,rx.mono g2,ry,a2,xG o1 x y G2 _ _ (λz G3 q v3 H3 g3 r3 a3=>?_) q⟩
    cases z with
    |bl k =>
     cases r3;refine⟨k,rfl,?_⟩;have q:if k=true then _ else _:=q
     split
     .rename_i hk;rw[if_pos hk] at q;refine xJ (yU g.mono XN c) (hs2.mono g3) a3 q λw G4 v4 H4 g4 hs4 r4 a4 q=>?_;exact⟨y,w,G4,(ry.mono g3).mono g4,r4,a4,xG o2 y w G4 _ _ (λw5 G5 q v5 H5 g5=>q v5 H5 (g1.trans (g2.trans (g3.trans (g4.trans g5))))) q⟩
     .rename_i hk;rw[if_neg hk] at q;exact q _ H3 (g1.trans (g2.trans g3)) rfl a3
    |_=>exact q.elim
   refine⟨(zez (rY (hu_X g L) o1) (rY (hu_X g L) o2) (ha M X l L h1).1 (hb M X r L h2).1 (hc M X t L h3).1 (tG (op:=o2) h4)).imp key,
    (zem (rY (hu_X g L) o1) (rY (hu_X g L) o2) (ha M X l L h1).1 (hb M X r L h2).1 (hc M X t L h3).1 (tG (op:=o2) h4)).imp λτ H Q q=>key _ _ _ (zdM m q),λ_ _ _ z=>nomatch z⟩
 |_=>exact zzQ h
theorem s_ch3 (o1 o2 o3:CmpOp) (a b c d:IE) (ha:wF Γ p a) (hb:wF Γ p b) (hc:wF Γ p c) (hd:wF Γ p d):wF Γ p (.ch3 o1 o2 o3 a b c d):=λM X x L h=>absurd h zzN
theorem s_and (a b:IE) (ha:wF Γ p a) (hb:wF Γ p b):wF Γ p (.and a b):=by
 intro M X x L h
 have e1:∀ τ H Q,xW X.K (zI Γ XN (.and a b)).e τ H Q->ziB (xW X.K (zI Γ XN a).e) (xW X.K (zI Γ XN b).e) τ H Q:=λτ H Q q=>by
  obtain⟨σ,G,hs,ab,q⟩:=q;refine xJ (yU g.mono XN a) hs ab q λw G1 v H1 g1 hs1 rx a1 q=>?_
  cases w with
  |bl k =>
   cases rx;refine⟨k,rfl,?_⟩;have q:if k=true then _ else _:=q
   split
   .rename_i hk;rw[if_pos hk] at q;exact⟨σ,G1,hs1,a1,yU g.mono XN b σ G1 _ _ (λw G' q v' H' g'=>q v' H' (g1.trans g')) q⟩
   .rename_i hk;rw[if_neg hk] at q;exact q _ H1 g1 rfl a1
  |_=>exact q.elim
 have e2:∀ τ H Q,jM X.K (zI Γ XN (.and a b)).t τ H Q->tAnd (jM X.K (zI Γ XN a).t) (jM X.K (zI Γ XN b).t) τ H Q:=λτ H Q q=>by
  obtain⟨σ,G,hs,ab,q⟩:=q;refine sR (uL g.mono XN a) hs ab q λk G1 H1 g1 hs1 a1 q=>?_
  split
  .rename_i hk;rw[if_pos hk] at q;exact⟨σ,G1,hs1,a1,uL g.mono XN b σ G1 _ _ (λw G' q H' g'=>q H' (g1.trans g')) q⟩
  .rename_i hk;rw[if_neg hk] at q;exact q H1 g1 a1
 cases x with
 |BoolOp o vs q =>
  match o,vs,h with
  | .And,[l,r],h =>
   replace h:=tP h;have A:=ha M X l L h.1;have B:=hb M X r L h.2;have W2:PW X (.BoolOp .And [l,r] q) (jM X.K (zI Γ XN (.and a b)).t):=(zfM A.2.1 (zgJ B.2.1)).imp e2;exact⟨(zfS A.1 (zfQ B.1)).imp e1,W2.pt,λ_ _ _ _=>W2⟩
  | .And,l::r::q'::rest,h =>
   replace h:=tP h;have A:=ha M X l L h.1;have B:=hb M X _ L h.2;have W2:PW X (.BoolOp .And (l::r::q'::rest) q) (jM X.K (zI Γ XN (.and a b)).t):=(zfM A.2.1 (B.2.2 _ _ _ rfl)).imp e2;exact⟨(zfS A.1 B.1).imp e1,W2.pt,λ_ _ _ _=>W2⟩
 |_=>exact zzQ h
theorem s_or (a b:IE) (ha:wF Γ p a) (hb:wF Γ p b):wF Γ p (.or a b):=by
 intro M X x L h
 have e1:∀ τ H Q,xW X.K (zI Γ XN (.or a b)).e τ H Q->tOrV (xW X.K (zI Γ XN a).e) (xW X.K (zI Γ XN b).e) τ H Q:=λτ H Q q=>by
  obtain⟨σ,G,hs,ab,q⟩:=q;refine xJ (yU g.mono XN a) hs ab q λw G1 v H1 g1 hs1 rx a1 q=>?_
  cases w with
  |bl k =>
   cases rx;refine⟨k,rfl,?_⟩;have q:if k=true then _ else _:=q
   split
   .rename_i hk;rw[if_pos hk] at q;exact q _ H1 g1 rfl a1
   .rename_i hk;rw[if_neg hk] at q;exact⟨σ,G1,hs1,a1,yU g.mono XN b σ G1 _ _ (λw G' q v' H' g'=>q v' H' (g1.trans g')) q⟩
  |_=>exact q.elim
 have e2:∀ τ H Q,jM X.K (zI Γ XN (.or a b)).t τ H Q->tOr (jM X.K (zI Γ XN a).t) (jM X.K (zI Γ XN b).t) τ H Q:=λτ H Q q=>by
  obtain⟨σ,G,hs,ab,q⟩:=q;refine sR (uL g.mono XN a) hs ab q λk G1 H1 g1 hs1 a1 q=>?_
  split
  .rename_i hk;rw[if_pos hk] at q;exact q H1 g1 a1
  .rename_i hk;rw[if_neg hk] at q;exact⟨σ,G1,hs1,a1,uL g.mono XN b σ G1 _ _ (λw G' q H' g'=>q H' (g1.trans g')) q⟩
 cases x with
 |BoolOp o vs q =>
  match o,vs,h with
  | .Or,[l,r],h =>
   replace h:=tP h;have A:=ha M X l L h.1;have B:=hb M X r L h.2;have W2:PW X (.BoolOp .Or [l,r] q) (jM X.K (zI Γ XN (.or a b)).t):=(zi0 A.2.1 (ziZ B.2.1)).imp e2;exact⟨(zjd A.1 (zfQ B.1)).imp e1,W2.pt,λ_ _ _ _=>W2⟩
  | .Or,l::r::q'::rest,h =>
   replace h:=tP h;have A:=ha M X l L h.1;have B:=hb M X _ L h.2;have W2:PW X (.BoolOp .Or (l::r::q'::rest) q) (jM X.K (zI Γ XN (.or a b)).t):=(zi0 A.2.1 (B.2.2 _ _ _ rfl)).imp e2;exact⟨(zjd A.1 B.1).imp e1,W2.pt,λ_ _ _ _=>W2⟩
 |_=>exact zzQ h
theorem s_ite (c a b:IE) (hc:wF Γ p c) (ha:wF Γ p a) (hb:wF Γ p b):wF Γ p (.ite c a b):=by
 intro M X x L h
 cases x with
 |IfExp t l r q =>
  replace h:=bd3 h;refine⟨(zey (hc M X t L h.1.1).2.1 (ha M X l L h.1.2).1 (hb M X r L h.2).1).imp λτ H Q q=>?_,λ_ _ _ _ _ _ q=>?_,λ_ _ _ z=>nomatch z⟩
  .obtain ⟨σ,G,hs,ab,q⟩:=q;refine sR (uL g.mono XN c) hs ab q λk G1 H1 g1 hs1 a1 q=>?_
   split
   .rename_i hk;rw[if_pos hk] at q;exact⟨σ,G1,hs1,a1,yU g.mono XN a σ G1 _ _ (λw G' q v' H' g'=>q v' H' (g1.trans g')) q⟩
   .rename_i hk;rw[if_neg hk] at q;exact⟨σ,G1,hs1,a1,yU g.mono XN b σ G1 _ _ (λw G' q v' H' g'=>q v' H' (g1.trans g')) q⟩
  .obtain ⟨_,_,_,_,z⟩:=q;exact z.elim
 |_=>exact zzQ h
theorem s_ix (a i:IE) (ha:wF Γ p a) (hb:wF Γ p i):wF Γ p (.ix a i):=by
 intro M X x L h
 cases x with
 |Subscript l r q =>
  replace h:=bd3 h;exact wP (M:=M) (yU g.mono XN (.ix a i)) ((pe_ix (ix_ok (hu_X g L)) (ha M X l L h.1.1).1 (hb M X r L h.1.2).1 (zet h.2)).imp λτ H Q q=>bQ (yU g.mono XN a) (yU g.mono XN i) zbb q) (λ_=>rfl) (λ_ _ _ z=>nomatch z)
 |_=>exact zzQ h
theorem s_sl (a:IE) (lo hi:IO) (ha:wF Γ p a) (hl:OkO Γ p lo) (hh:OkO Γ p hi):wF Γ p (.sl a lo hi):=by
  intro M X x L h
  cases x with
  |Subscript l r q =>
    cases r with
    |Slice y z sp q2 =>
     cases sp with
     |none =>
      replace h:=bd3 h;refine wP (M:=M) (yU g.mono XN (.sl a lo hi)) ((zex sl_ok (ha M X l L h.1.1).1 ((hl M X L).1 y h.1.2) ((hh M X L).1 z h.2)).imp λτ H Q q=>?_) (λ_=>rfl) (λ_ _ _ z=>nomatch z);obtain⟨σ,G,hs,ab,q⟩:=q;refine xJ (yU g.mono XN a) hs ab q λw G1 v H1 g1 hs1 rx a1 q=>?_;refine⟨σ,G1,hs1,a1,zjw g.mono XN lo σ G1 _ _ (λo G2 q H2 g2 a2=>?_) q⟩;refine⟨σ,G2,hs1.mono g2,a2,zjw g.mono XN hi σ G2 _ _ (λo2 G3 q H3 g3 a3=>?_) q⟩;exact⟨w,G3,(rx.mono g2).mono g3,a3,zaT (λw' G' q v' H' g'=>q v' H' (g1.trans (g2.trans (g3.trans g')))) q⟩
     |some _=>exact zzQ h
    |_=>exact zzQ h
  |_=>exact zzQ h
theorem s_tup (es:IEs) (hs:OkA Γ p es):wF Γ p (.tup es):=by
 intro M X x L h
 cases x with
 |Tuple xs k q =>
  skip
  refine wP (M:=M) (yU g.mono XN (.tup es)) ((zjc (hs M X xs L h).1).imp λτ H Q q=>?_) (λ_=>rfl) (λ_ _ _ z=>nomatch z);obtain⟨σ,G,hs',ab,q⟩:=q;refine uX (wG g.mono XN es) hs' ab q λws G1 vs H1 g1 hs1 rs a1 q=>⟨by rw[rs.length];exact q.1,pU a1 rs λv' H' g'=>q.2 v' H' (g1.trans g')⟩
 |_=>exact zzQ h
theorem s_lst (es:IEs) (hs:OkA Γ p es):wF Γ p (.lst es):=by
 intro M X x L h
 cases x with
 |List xs q =>
  skip
  refine wP (M:=M) (yU g.mono XN (.lst es)) ((zjg (hs M X xs L h).1).imp λτ H Q q=>?_) (λ_=>rfl) (λ_ _ _ z=>nomatch z);obtain⟨σ,G,hs',ab,q⟩:=q;refine uX (wG g.mono XN es) hs' ab q λws G1 vs H1 g1 hs1 rs a1 q=>⟨by rw[rs.length];exact q.1,qN a1 rs λr hr v' H' g'=>q.2 r hr v' H' (g1.trans g')⟩
 |_=>exact zzQ h
theorem nY {Γ:Ctx3} {M:MC} {es:IEs} {xs:List Expr} (h:mA es M xs=true):xs=[]->∀ σ G Q,zX Γ XN es σ G Q->Q [] G:=by
 rintro rfl σ G Q q
 cases es with
 |nil=>exact q
 |cons _ _=>exact zzQ h
theorem ziQ (f:Nat) (es:IEs) (hs:OkA Γ p es):wF Γ p (.call f es):=by
  intro M X x L h
  cases x with
  |Call fn xs kw q =>
    cases fn with
    |Name y qy =>
     cases kw with
     |nil =>
      replace h:=bd3 h;have gl:=sY L.sc h.1.2;have hi:=xQ h.1.1;rw[← L.fns] at hi;obtain⟨e,ei,rfl⟩:=qM hi;have A:=hs M X xs L h.2;refine wP (M:=M) (yU g.mono XN (.call f es)) ((g.fn e (wR ei) X L.fits gl.1 xs (zX Γ XN es) qy q (wG g.mono XN es) A.2.1 A.1 (nY g h.2) gl.2.1 gl.2.2).imp λτ H Q q=>?_) (λ_=>rfl) (λ_ _ _ z=>nomatch z);obtain⟨σ,G,hs',ab,q⟩:=q;refine⟨σ,G,hs',ab,wG g.mono XN es σ G _ _ (λws G1 q=>?_) q⟩;simp only[ei] at q;exact q
     |cons _ _=>exact zzQ h
    |_=>exact zzQ h
  |_=>exact zzQ h
theorem s_spc (i:Nat) (es:IEs) (hs:OkA Γ p es):wF Γ p (.spc i es):=by
 intro M X x L h;replace h:=tP h;replace h:=h.2
 split at h
 .rename_i m hm
  split at h
  .rename_i xs hx;rw[← L.sxs] at hm;obtain⟨k,ek,rfl⟩:=qM hm;have A:=hs M X xs L h;have q:=g.sx k (wR ek) X L.fits x xs (semL Γ es) (by rw[L.sc];exact hx) A.2.2.2 A.2.1 (by rw[← nZ];exact A.1);refine wP (M:=M) (yU g.mono XN (.spc i es)) (q.1.imp λτ H Q q=>?_) q.2.1 q.2.2;obtain⟨σ,G,hs',ab,q⟩:=q;refine⟨σ,G,hs',ab,?_⟩;rw[← nZ];refine wG g.mono XN es σ G _ _ (λws G1 q=>?_) q;simp only[ek] at q;exact q
  .exact zzQ h
 .exact zzQ h
theorem s_mth (m:Nat) (o:IE) (es:IEs) (ho:wF Γ p o) (hs:OkA Γ p es):wF Γ p (.mth m o es):=by
  intro M X x L h
  cases x with
  |Call fn xs kw q =>
    cases fn with
    |Attribute l y qy =>
     cases kw with
     |nil =>
      replace h:=bd6 h;simp only[decide_eq_true_eq] at h;have hi:=xQ h.1.1.1.1.1;rw[← L.mts] at hi;obtain⟨e,ei,rfl⟩:=qM hi;have A:=hs M X xs L h.2;have B:=ho M X l L h.1.2;refine wP (M:=M) (yU g.mono XN (.mth m o es)) ((g.mt e (wR ei) X L.fits l xs (zI Γ XN o).e (zX Γ XN es) qy q (yU g.mono XN o) (wG g.mono XN es) h.1.1.1.1.2 h.1.1.1.2 h.1.1.2 A.2.1 B.1 A.1 (nY g h.2)).imp λτ H Q q=>?_) (λ_=>rfl) (λ_ _ _ z=>nomatch z);obtain⟨σ,G,hs',ab,q⟩:=q;refine⟨σ,G,hs',ab,yU g.mono XN o σ G _ _ (λw G1 q=>?_) q⟩;simp only[ei] at q;exact q
     |cons _ _=>exact zzQ h
    |_=>exact zzQ h
  |_=>exact zzQ h
theorem s_att (o:IE) (f:Str) (ho:wF Γ p o):wF Γ p (.att o f):=λM X x L h=>absurd h zzN
end
end L3
namespace L2
open PySem PySem.Spec PyProof.Rows PySem.Calls
noncomputable abbrev kE (elt t1 i1 t2 i2:Expr) (f2:List Expr) (sc:Scope) (pos:Pos):Expr:=.ListComp elt [⟨t1,i1,[],0⟩,⟨t2,i2,f2,0⟩] sc pos
section
variable {elt t1 i1 t2 i2:Expr} {f2:List Expr} {sc:Scope} {pos:Pos} {it acc:Value} {env:Env}
theorem zd4:compTurn 'm' 0 it acc env=(do
   standAt i1.pos
   match ← pyNext it with
   |none=>pure (.done .next)
   |some v =>
    letOwnedTupleGo t1 it v
    assign t1 env v
    let x ← eval i2 env
    standAt i2.pos
    let x ← foldedSetIterable i2 env x
    let _ ← runOwn (.compStart 'm' 1 (← holding [x] (pyIter x)) acc env) env
    again (.compLoop 'm' 0 it acc env)):=by rfl
theorem zgw:compTurn 'm' 1 it acc env=(do
   standAt i2.pos
   match ← pyNext it with
   |none=>pure (.done .next)
   |some v =>
    letOwnedTupleGo t2 it v
    assign t2 env v
    let mut yes:=true
    for d in f2 do
     if yes then yes ← isTrue d env (eval d env)
    if yes then
     (do let v ← eval elt env;let _ ← call (.builtin "list.append") [acc,v])
    again (.compLoop 'm' 1 it acc env)):=by rfl
variable {s:Shared} {A:Around} {w:World} {prog:Program} {R:Result->Shared->Prop}
theorem zg8 (I:Nat->Shared->Prop)
  (step:∀ n t,I n t->wpAny 'd' A (pyNext it) (λr u₁=>match r with
   |none=>R (.ok .next) u₁
   |some v=>wpAny 'd' A (letOwnedTupleGo t2 it v) (λ_ u₁=>wpAny 'd' A (assign t2 env v) (λ_ u₂ =>
     wpAny 'd' A (forIn f2 true λc r=>if r=true then do let ok ← isTrue c env (eval c env);pure (ForInStep.yield ok) else pure (ForInStep.yield r)) (λok u₃ =>
      if ok=true then wpAny 'd' A (eval elt env) (λx u₄ =>
       wpAny 'd' A (call (.builtin "list.append") [acc,x]) (λ_ u₅=>∃ m,m<n/\I m u₅) 'k' u₄) 'k' u₃
      else ∃ m,m<n/\I m u₃) 'k' u₂) 'k' u₁) 'k' u₁) 'k' t)
  (n:Nat) (h:I n s):codeAny 'd' A (.compLoop 'm' 1 it acc env) R s:=by
 refine codeAny_loop rfl I (λk t hI=>?_) n h;show wpAny _ A ((compTurn 'm' 1 it acc env).onRaise (λx=>do noteFrame x env;theTreesLotGoes x)) _ _ t;refine wpAny_noted ?_;rw[zgw];refine Za (Zao (Za (Zv (step k t hI) (λr u₁ q₁=>?_) λ_ _ h'=>h'.elim)))
 cases r with
 |none=>exact Zc q₁
 |some v =>
  refine Za (Zv q₁ (λ_ u₁ q₁=>?_) λ_ _ h'=>h'.elim);refine Za (Zv q₁ (λ_ u₂ q₂=>Za (Zv q₂ (λok u₃ q₃=>?_) λ_ _ h'=>h'.elim)) λ_ _ h'=>h'.elim)
  cases ok with
  |false=>exact Zc ⟨rfl,q₃⟩
  |true=>exact Za (Za (Zv q₃ (λx u₄ q₄=>Za (Zv q₄ (λ_ u₅ q₅=>Zc (Zc ⟨rfl,q₅⟩)) λ_ _ h'=>h'.elim)) λ_ _ h'=>h'.elim))
theorem zd9 (h0:codeAny 'd' A (.compLoop 'm' 1 it acc env) R s)
  (h:wpAny 'd' A (pyIter it) (λit' s'=>codeAny 'd' A (.compLoop 'm' 1 it' acc env) R s') 'k' s) :
  codeAny 'd' A (.compStart 'm' 1 it acc env) R s:=by
 refine codeAny_of_tree (show wpAny _ _ ((compStart 'm' 1 it acc env).onRaise λx=>do noteFrame x env;standAt theWindowsPlace) _ _ s from wpAny_notedAt ?_);unfold compStart;refine(λk=>Za (wpAny_askSetting (wpAny_ite k)):_->wpAny _ _ (ask >>= _) _ _ s) ?_;have go:=Zv (Q':=λit' s'=>codeAny 'd' A (.compLoop 'm' 1 it' acc env) R s') (E':=notedBy 'd' A env λx s'=>R (.error x) s') h (λ_ _ x=>x) λ_ _ x=>x.elim
 split
 .first|exact Za (Zc (Zc ⟨rfl,h0⟩))|exact Zc ⟨rfl,h0⟩
 .exact Za (ZbH (show wpAny _ _ (standAt i2.pos >>= _) _ _ s from Za (Zao (Za (Zv go (λ_ _ z=>Zc ⟨rfl,z⟩) λ_ _ x=>x)))))
theorem zeI (hf:∀ x,foldedSetIterable i2 env x=pure x) (I:Nat->Shared->Prop)
  (step:∀ n t,I n t->wpAny 'd' A (pyNext it) (λr u₁=>match r with
   |none=>R (.ok .next) u₁
   |some v=>wpAny 'd' A (letOwnedTupleGo t1 it v) (λ_ u₁=>wpAny 'd' A (assign t1 env v) (λ_ u₂ =>
     wpAny 'd' A (eval i2 env) (λx u₃=>wpAny 'd' A (pyIter x) (λit2 u₄ =>
      codeAny 'd' A (.compStart 'm' 1 it2 acc env) (λr u₅=>r=.ok .next/\∃ m,m<n/\I m u₅) u₄) 'k' u₃) 'k' u₂) 'k' u₁) 'k' u₁) 'k' t)
  (n:Nat) (h:I n s):codeAny 'd' A (.compLoop 'm' 0 it acc env) R s:=by
 refine codeAny_loop rfl I (λk t hI=>?_) n h;show wpAny _ A ((compTurn 'm' 0 it acc env).onRaise (λx=>do noteFrame x env;theTreesLotGoes x)) _ _ t;refine wpAny_noted ?_;rw[zd4];refine Za (Zao (Za (Zv (step k t hI) (λr u₁ q₁=>?_) λ_ _ h'=>h'.elim)))
 cases r with
 |none=>exact Zc q₁
 |some v =>
  refine Za (Zv q₁ (λ_ u₁ q₁=>?_) λ_ _ h'=>h'.elim);refine Za (Zv q₁ (λ_ u₂ q₂=>?_) λ_ _ h'=>h'.elim);refine Za (Zv q₂ (λx u₃ q₃=>Za (Zao ?_)) λ_ _ h'=>h'.elim);rw[hf];refine Za (Zc (Za (ZO (Zv q₃ (λit2 u₄ q₄=>?_) λ_ _ h'=>h'.elim))));refine Za (wpAny_runOwn ?_);refine ZaF q₄ λr u₅ q₅=>?_;obtain⟨rfl,m,hm,q₅⟩:=q₅;exact Zc ⟨rfl,m,hm,q₅⟩
end
noncomputable def zgz (J:It) (τ:St) (g1:TG) (w2:TI) (g2:TG) (tc:TT) (te:TE) (Qf:List V->Hp->Prop) (H1:Hp):Prop :=
 ∃ Pv:Nat->Nat->St->List V->Hp->Prop,(∃ m,Pv 0 m τ [] H1)/\∀ i m τ acc H,Pv i m τ acc H ->
  (J.stop i H/\Qf acc H) \/
  (J.go i H/\∀ x H',J.yld i H x H'->g1 x τ H' λσ2 H2=>w2 σ2 H2 λJ2 H3 =>
   ∃ Pw:Nat->Nat->St->List V->Hp->Prop,(∃ k,Pw 0 k σ2 acc H3)/\∀ j k σ acc H,Pw j k σ acc H ->
    (J2.stop j H/\∃ m',m' < m/\Pv (i+1) m' σ acc H) \/
    (J2.go j H/\acc.length<sizeLine/\∀ y H',J2.yld j H y H'->g2 y σ H' λσ3 H3=>tc σ3 H3 λb H4=>if b=true then te σ3 H4 λv H5=>∃ k',k' < k/\Pw (j+1) k' σ3 (acc++[v]) H5 else ∃ k',k' < k/\Pw (j+1) k' σ3 acc H4))
theorem zeR {X:Cx} {pins:PL} {σ τ:St} {H2:Hp} {s2:Shared} {sc:Scope} {N:List Str} {fp:List Addr} {it:Addr} {tn:Nat->Heap->Prop} {J:It} {t1 i1 t2 i2 elt:Expr} {ifs:List Expr} {pos:Pos} {g1 g2:TG} {w2:TI} {tc:TT} {te:TE}
  {Qf:List V->Hp->Prop} {RR:Value->Addr->Result->Shared->Prop} {E:VP}
  (hc:X.calm=true) (I2:Inv X pins σ H2 s2) (T:Turn X.prog X.w X.K t1 J fp it tn) (t0:tn 0 s2.heap) (f2:∀ b∈fp,qU X pins H2 b) (B:BlkSc X sc) (hl:τ.length=N.length)
  (cap:∀ (i:Nat) (x:Str) (v:V),N[i]?=some x->τ[i]?=some (some v)->Vis (relabel sc X.env) x->sc.names.lookup x=some .free/\∃ j:Nat,X.N[j]?=some x/\σ[j]?=some (some v))
  (hg1:∀ X',IsBlock X N sc X'->PG X' t1 g1) (hi2:∀ X',IsBlock X N sc X'->PI X' t2 i2 w2) (hg2:∀ X',IsBlock X N sc X'->PG X' t2 g2) (ht:∀ X',IsBlock X N sc X'->PTs X' ifs tc) (he:∀ X',IsBlock X N sc X'->PE X' elt te)
  (hs2:∀ env x,foldedSetIterable i2 env x=pure x) (h:zgz J τ g1 w2 g2 tc te Qf H2)
  (fin:∀ (D C:Addr) (acc:List V) (H':Hp) (s':Shared) (m:Str->Option Value),D≠C->H' D=none->H' C=none->Off X pins C->Inv X pins σ (yG H' D (.lst acc)) s'->s'.heap.Ns C m->Qf acc H'->RR (.ref D) C (.ok .next) s') :
  wpAny 'b' X.A (newList []) (λacc s₃=>wpAny 'b' X.A (newFunctionEnv sc X.env.globals (clo X.env sc.names []) [] X.env.qual none .none (some X.env)) (λcenv s₄ =>
   codeAny 'b' X.A (.compStart (kE elt t1 i1 t2 i2 ifs sc pos) 0 (.ref it) acc {cenv with scope:=relabel sc X.env}) (RR acc cenv.locals) s₄) E s₃) E s2:=by
 refine Z5 (nfe λh₁ heq hns₁ hk₁=>?_);dsimp only at heq hns₁ hk₁ ⊢;generalize hH2:s2.heap.push { cls:=.type "list", dict:=none,data:=.seq ([]:List Value).toArray}=G2 at heq hns₁ hk₁ ⊢
 have hcs:∀ x c,(ocl X sc G2.objs.size).lookup x=some c->∃ v,h₁.IsCell c v:=λx c e=>by
  rw[heq];refine pP sc.names (G2.push { cls:=.type "dict", data:=.dict #[]}) (clo X.env sc.names []) (λy d q=>?_) x c (by rw[ZH];exact e);obtain⟨v,o,ho,hd⟩:=I2.cell y d (kQ I2.ok B q).1;exact⟨v,o,Zb _ (hH2▸Zb _ ho),hd⟩
 have hC:G2.objs.size=s2.heap.objs.size+1:=by rw[← hH2,ZH]
 have hDC:s2.heap.objs.size≠G2.objs.size:=by rw[hC];exact Zo (Zbe _)
 have hCle:s2.heap.objs.size<=G2.objs.size:=by rw[hC];exact Zb0 _
 have below:∀ b,b<s2.heap.objs.size->b≠G2.objs.size/\b≠s2.heap.objs.size:=λb hb=>⟨by rw[hC];exact Zo (ZaI hb),Zo hb⟩
 have hfp:∀ b∈fp,b<s2.heap.objs.size:=λb hb=>by
  obtain⟨o,e,_⟩:=T.obj _ _ t0 b hb;exact Zd e
 have hDf:∀ b∈fp,b≠s2.heap.objs.size:=λb hb=>(below b (hfp b hb)).2;have hCf:∀ b∈fp,b≠G2.objs.size:=λb hb=>(below b (hfp b hb)).1;have old:∀ b o,s2.heap.get? b=some o->h₁.get? b=some o:=λb o e=>hk₁ b o (hH2▸Zb _ e);have hacc:h₁.get? s2.heap.objs.size=some (xI [] 0):=hk₁ _ _ (hH2▸Zl _ rfl)
 have fresh:∀ a,s2.heap.objs.size<=a->s2.heap.get? a=none:=λa ha=>by
  cases e:s2.heap.get? a with
  |none=>rfl
  |some o'=>exact absurd (Zj (Zd e) ha) (Z1 _)
 have hsub:∀ b∈sN X.stack,b<s2.heap.objs.size:=λb hb=>by
  obtain⟨_,o,e,_⟩:=I2.stack.mem hb;exact Zd e
 obtain⟨Pv,⟨m0,p0⟩,step⟩:=h;generalize hD:s2.heap.objs.size=D at *;generalize hCe:G2.objs.size=C at *;have hXb:IsBlock X N sc (wJ X N sc C s2 H2 fp pins 'k'):=gW X N sc C s2 H2 fp pins 'k';generalize hXd:wJ X N sc C s2 H2 fp pins 'k'=X' at hXb;have exe:X'.xe=λ_ _=>False:=hXb.xe
 have J0:Inv X' [] τ H2 {s2 with heap:=h₁}:=by
  rw[← hXd];exact cZ (s4:={s2 with heap:=h₁}) I2 B f2 (by rw[hD];exact hfp) (by rw[hD];exact hCle) rfl rfl old hcs hns₁ hl cap I2.tk
 have offD:Off X' [] D:=by
  rw[← hXd];refine⟨hDC,by show s2.heap.objs.size<=D;rw[hD];exact zzR _,λx c hx=>?_,λp hp=>?_⟩
  .rcases kW I2.ok B hx with⟨q,_⟩|⟨_,q⟩
   .have:=zaF I2 q;rw[hD] at this;exact Zo this
   .exact Z3 (ZaW hCle q)
  .have hp':p∈X.pn++pins:=by simpa[wJ] using hp
   have:=Zd (I2.pin p hp').1;rw[hD] at this;exact Zo this
 have offC:Off X pins C:=I2.off (by rw[hD];exact hCle)
 have fpok:∀ {H':Hp} {ob:Obj},(∀ b∈fp,H' b=none)->∀ b∈fp,qU X' [(D,ob)] H' b:=λ{H' ob} hn b hb=>by
  rw[← hXd];refine⟨hn b hb,hCf b hb,λz=>(uY (N:=N) I2 B f2 (by rw[hD];exact hfp) (by rw[hD];exact hCle)).exfs b hb z,.inl hb,λx c hx=>(uY (N:=N) I2 B f2 (by rw[hD];exact hfp) (by rw[hD];exact hCle)).exf b hb |>.2 x c hx,λp hp=>?_⟩;rcases ZA.mp hp with hp|hp
  .exact (f2 b hb).2.2.2.2.2 p hp
  .rw[zzO hp];exact(hDf b hb).symm
 have Dfs:D∉X'.fs:=by
  rw[← hXd];intro z;exact Z1 _ (hsub D z)
 have pinD:∀ {H':Hp} {τ':St} {s':Shared} {its:List Value} {n:Nat},Inv X' [] τ' H' s'->H' D=none->s'.heap.get? D=some (xI its n)->Inv X' [(D,xI its n)] τ' H' s':=λ{H' τ' s' its n} I hn e =>
  I.pins_of λp hp=>by
   rw[zzO hp];exact⟨e,hn,by rw[← hXd];exact hDC,Dfs,λv z=>nomatch z⟩
 have loop:∀ s₃:Shared,s₃={s2 with heap:=h₁} ->
   codeAny 'b' X.A (.compLoop (kE elt t1 i1 t2 i2 ifs sc pos) 0 (.ref it) (.ref D) (compEnvC sc (ocl X sc C) C X.env)) (RR (.ref D) C) s₃:=by
  rintro s₃ rfl;have tn0:tn 0 h₁:=T.keep _ _ _ t0 λb _ o e=>old b o e;have fr0:∀ b∈fp,H2 b=none:=λb hb=>(f2 b hb).1;have Df0:H2 D=none:=I2.hok.fresh (by rw[hD];exact zzR _);have eX:X'.env=compEnvC sc (ocl X sc C) C X.env:=by rw[← hXd];rfl
  have ep:X'.prog=X.prog:=hXb.prog;have ew:X'.w=X.w:=hXb.w;have eA:X'.A=X.A:=hXb.A;refine zeI (hs2 _) (λk s'=>∃ i τ' acc H' its n,Inv X' [] τ' H' s'/\tn i s'.heap/\(∀ b∈fp,H' b=none)/\H' D=none/\s'.heap.get? D=some (xI its n)/\yW acc its/\acc.length<=sizeLine/\Pv i k τ' acc H') ?_ m0 ⟨0,τ,[],H2,[],0,J0,tn0,fr0,Df0,hacc,.nil,Zy _,p0⟩;rintro k s3 ⟨i,τ3,acc,H3,its,n,I3,st3,fr3,D3,o3,v3,lenA,p3⟩;have I3':=pinD I3 D3 o3;rcases step i k τ3 acc H3 p3 with⟨stop,qf⟩|⟨go,turn⟩
  .have td:=T.done X' ep ew hXb.K (by rw[hXb.calm];exact hc) i _ s3 τ3 H3 'k' I3' (fpok fr3) st3 stop;rw[eA] at td;refine thn td λr s4 ⟨hr,I4⟩=>?_;subst hr;have o4:=(I4.pin (D,xI its n) (Zk _ (ZJ.mpr rfl))).1;obtain⟨m4,hn4,_⟩:=I4.loc;rw[eX] at hn4;refine fin D C acc H3 s4 m4 hDC D3 ?_ offC ?_ hn4 qf
   .have:=I4.free;rw[eX] at this;exact this
   .have base:Un (sN X.stack) fp H2 H3 s2.heap s4.heap:=by have:=I4.base;rw[← hXd] at this;exact this
    have hb:∀ b o,s2.heap.get? b=some o->b≠D:=λb o e=>by have:=Zd e;rw[hD] at this;exact Zo this
    refine I2.call' (ch:=fp) (by have:=I4.os;rw[← hXd] at this;exact this) ⟨base.keep,base.slot,λb o e n' hx=>?_,base.there,λb xs e=>?_,λb o u e=>?_,λb ps e=>?_⟩ ?_ I4.bare ?_ I4.tk
    .rw[zA (hb b o e)];exact base.free b o e n' hx
    .rw[zA (yP (base.tups b xs e) D3)];exact base.tups b xs e
    .rw[zA (yP (base.frzs b o u e) D3)];exact base.frzs b o u e
    .obtain ⟨mo,e'⟩:=base.tbls b ps e;exact⟨mo,by rw[zA (yP e' D3)];exact e'⟩
    .have hk:=I4.hok;rw[ep,ew] at hk;exact hk.adopt (λb u v _ q=>q) D3 ⟨lenA,its,n,v3,o4⟩
    .intro b hb';obtain⟨q1,q2,q3,q4,q5,q6⟩:=f2 b hb';exact⟨q4,q2,q5,q6⟩
  .have td:=T.item X' ep ew hXb.K (by rw[hXb.calm];exact hc) i _ s3 τ3 H3 'k' I3' (fpok fr3) st3 go;rw[eA] at td;refine thn td λr s4 ⟨u,hr,h4⟩=>?_;subst hr;refine thn h4 λ_ s5 ⟨x,H5,I5,r5,y5,st5,fr5⟩=>?_;have I5':=I5.pinned (fpok fr5) (T.obj _ _ st5);have q1:=hg1 X' hXb _ s5 τ3 H5 x u _ I5' r5 (turn x H5 y5);rw[ep,ew,eA,eX,exe] at q1;refine thn q1 λ_ s6 ⟨σ6,H6,I6,q6⟩=>?_;have q2:=hi2 X' hXb _ s6 σ6 H6 _ I6 q6;rw[ep,ew,eA,eX,exe] at q2;refine thn q2 λv7 s7 h7=>thn h7 λitv s8 h8=>?_;obtain⟨it2,fp2,tn2,J2,H8,ei,I8,T2,st8,f8,Pw,⟨k0,w0⟩,step2⟩:=h8;subst ei;rw[ep,ew] at T2
   have pinP:∀ {H':Hp} {τ':St} {s':Shared} {its':List Value} {n':Nat},Inv X' (xU fp s5.heap) τ' H' s'->H' D=none->s'.heap.get? D=some (xI its' n')->Inv X' ([(D,xI its' n')]++xU fp s5.heap) τ' H' s':=λ{H' τ' s' its' n'} I hn e =>
    I.pins_of λp hp=>by
     rcases ZA.mp hp with hp|hp
     .rw[zzO hp];exact⟨e,hn,by rw[← hXd];exact hDC,Dfs,λv z=>nomatch z⟩
     .exact I.pin p (Zk _ hp)
   have fp2ok:∀ {H':Hp} {ob:Obj},(∀ b∈fp2,H' b=none)->∀ b∈fp2,qU X' ([(D,ob)]++xU fp s5.heap) H' b:=λ{H' ob} hn b hb=>by
    obtain⟨_,q1,q2,q3,q4,q5⟩:=f8 b hb;refine⟨hn b hb,q1,q2,q3,q4,λp hp=>?_⟩;rcases ZA.mp hp with hp|hp
    .exact q5 p (Zs _ hp)
    .rcases ZA.mp hp with hp|hp
     .rw[zzO hp];exact q5 (D,xI its n) (Zk _ (Zs _ (ZJ.mpr rfl)))
     .exact q5 p (Zk _ (Zk _ hp))
   have D2f:∀ b∈fp2,b≠D:=λb hb=>((f8 b hb).2.2.2.2.2 (D,xI its n) (Zk _ (Zs _ (ZJ.mpr rfl)))).symm
   have outI:∀ {H':Hp} {τ':St} {s':Shared},Inv X' (xU fp s5.heap) τ' H' s'->Inv X' [] τ' H' s'/\tn (i+1) s'.heap/\∀ b∈fp,H' b=none:=λ{H' τ' s'} I=>by
    have pp:∀ p,p∈xU fp s5.heap->_:=λp hp=>I.pin p (Zk _ hp);refine⟨I.pins_of (pins':=[]) (λp hp=>nomatch hp),T.keep _ _ _ st5 λb hb o e=>(pp (b,o) (xB hb e)).1,λb hb=>?_⟩;obtain⟨o,e,d⟩:=T.obj _ _ st5 b hb;exact(pp (b,o) (xB hb e)).2.1
   have unD:∀ {H':Hp} {τ':St} {s':Shared} {its':List Value} {n':Nat} {pl:PL},Inv X' ([(D,xI its' n')]++xU fp s5.heap++pl) τ' H' s'->Inv X' (xU fp s5.heap) τ' H' s'/\H' D=none/\s'.heap.get? D=some (xI its' n'):=λ{H' τ' s' its' n' pl} I=>by
    have pp:∀ p,p∈[(D,xI its' n')]++xU fp s5.heap++pl->_:=λp hp=>I.pin p (Zk _ hp);exact⟨I.pins_of λp hp=>pp p (Zs _ (Zk _ hp)),(pp (D,xI its' n') (Zs _ (Zs _ (ZJ.mpr rfl)))).2.1,(pp (D,xI its' n') (Zs _ (Zs _ (ZJ.mpr rfl)))).1⟩
   have I8e:Inv X' ([(D,xI its n)]++xU fp s5.heap++[]) σ6 H8 s8:=by rw[Zq];exact I8
   obtain⟨I8',D8,o8⟩:=unD I8e
   have loop2:codeAny 'b' X.A (.compLoop (kE elt t1 i1 t2 i2 ifs sc pos) 1 (.ref it2) (.ref D) (compEnvC sc (ocl X sc C) C X.env)) (λr s₅=>r=.ok .next/\∃ m,m<k/\∃ i τ' acc H' its n,Inv X' [] τ' H' s₅/\tn i s₅.heap/\(∀ b∈fp,H' b=none)/\H' D=none/\s₅.heap.get? D=some (xI its n)/\yW acc its/\acc.length<=sizeLine/\Pv i m τ' acc H') s8:=by
    refine zg8 (λk' s'=>∃ j τ' acc' H' its' n',Inv X' (xU fp s5.heap) τ' H' s'/\tn2 j s'.heap/\(∀ b∈fp2,H' b=none)/\H' D=none/\s'.heap.get? D=some (xI its' n')/\yW acc' its'/\acc'.length<=sizeLine/\Pw j k' τ' acc' H') ?_ k0 ⟨0,σ6,acc,H8,its,n,I8',st8,λb hb=>(f8 b hb).1,D8,o8,v3,lenA,w0⟩;rintro k' s9 ⟨j,τ9,acc9,H9,its9,n9,I9,st9,fr9,D9,o9,v9,len9,p9⟩;have I9':=pinP I9 D9 o9;rcases step2 j k' τ9 acc9 H9 p9 with⟨stop2,m',hm',pv'⟩|⟨go2,hsz2,turn2⟩
    .have td:=T2.done X' ep ew rfl (by rw[hXb.calm];exact hc) j _ s9 τ9 H9 'k' I9' (fp2ok fr9) st9 stop2;rw[eA] at td;refine thn td λr s10 ⟨hr,I10⟩=>?_;subst hr;have I10e:Inv X' ([(D,xI its9 n9)]++xU fp s5.heap++[]) τ9 H9 s10:=by rw[Zq];exact I10
     obtain⟨J1,J2',J3⟩:=unD I10e;obtain⟨K1,K2,K3⟩:=outI J1;exact⟨rfl,m',hm',i+1,τ9,acc9,H9,its9,n9,K1,K2,K3,J2',J3,v9,len9,pv'⟩
    .have td:=T2.item X' ep ew rfl (by rw[hXb.calm];exact hc) j _ s9 τ9 H9 'k' I9' (fp2ok fr9) st9 go2;rw[eA] at td;refine thn td λr s10 ⟨u2,hr,h10⟩=>?_;subst hr;refine thn h10 λ_ s11 ⟨y,H11,I11,r11,y11,st11,fr11⟩=>?_;have I11':=I11.pinned (fp2ok fr11) (T2.obj _ _ st11);have q3:=hg2 X' hXb _ s11 τ9 H11 y u2 _ I11' r11 (turn2 y H11 y11);rw[ep,ew,eA,eX,exe] at q3;refine thn q3 λ_ s12 ⟨σ12,H12,I12,q12⟩=>?_;have q4:=ht X' hXb _ s12 σ12 H12 _ I12 q12;rw[ep,ew,eA,eX,exe] at q4;refine thn q4 λbb s13 ⟨H13,I13,q13⟩=>?_
     have back:∀ {H':Hp} {s':Shared},Inv X' ([(D,xI its9 n9)]++xU fp s5.heap++xU fp2 s11.heap) σ12 H' s'->Inv X' (xU fp s5.heap) σ12 H' s'/\tn2 (j+1) s'.heap/\(∀ b∈fp2,H' b=none)/\H' D=none/\s'.heap.get? D=some (xI its9 n9):=λ{H' s'} I'=>by
      obtain⟨a1,a2,a3⟩:=unD I';have pp:∀ p,p∈xU fp2 s11.heap->_:=λp hp=>I'.pin p (Zk _ (Zk _ hp));refine⟨a1,T2.keep _ _ _ st11 λb hb o e=>(pp (b,o) (xB hb e)).1,λb hb=>?_,a2,a3⟩;obtain⟨o,e,d⟩:=T2.obj _ _ st11 b hb;exact(pp (b,o) (xB hb e)).2.1
     cases bb with
     |false =>
      rw[if_neg 'c'] at q13;rw[if_neg 'c'];obtain⟨k1,hk1,p'⟩:=q13;obtain⟨b1,b2,b3,b4,b5⟩:=back I13;exact⟨k1,hk1,j+1,σ12,acc9,H13,its9,n9,b1,b2,b3,b4,b5,v9,len9,p'⟩
     |true =>
      rw[if_pos rfl] at q13;rw[if_pos rfl];have q5:=he X' hXb _ s13 σ12 H13 _ I13 q13;rw[ep,ew,eA,eX,exe] at q5;refine thn q5 λyv s14 ⟨v,H14,I14,r14,k1,hk1,p'⟩=>?_;obtain⟨b1,b2,b3,b4,b5⟩:=back I14;refine append_at (hsz:=by show its9.toArray.size<=sizeLine;rw[zzS,← v9.length];exact ZaQ hsz2) b5 λh₅ hs₅ hD₅=>?_
      have offP:Off X' (xU fp s5.heap) D:=⟨offD.ne,offD.ge,offD.cl,λp hp=>by
       rcases ZA.mp hp with hp|hp
       .exact offD.pn p (Zs _ hp)
       .exact hDf p.1 (fM hp).1⟩
      refine⟨k1,hk1,j+1,σ12,acc9++[v],H14,its9++[yv],n9+1,offP.turned b1 b4 hs₅,T2.keep _ _ _ b2 λb hb o e=>hs₅.extBut b o (D2f b hb) e,b3,b4,?_,v9.append (.cons r14 .nil),by rw[zzW];exact hsz2,p'⟩;show h₅.get? D=_;rw[hD₅,List.push_toArray]
   exact zd9 loop2 (T2.self _ 0 _ _ _ st8 loop2)
 exact codeAny_compStart_list (loop _ rfl) (T.self _ 0 _ _ _ (T.keep _ _ _ t0 λb _ o e=>old b o e) (loop _ rfl))
noncomputable def tLC2 (wi:TI) (cap:St->St) (g1:TG) (w2:TI) (g2:TG) (tc:TT) (te:TE):TE:=λσ H Q=>wi σ H λJ H1=>zgz J (cap σ) g1 w2 g2 tc te (λacc H'=>∀ p,H' p=none->Q (.ref p) (yG H' p (.lst acc))) H1
theorem zjh {X:Cx} {sc:Scope} {N:List Str} {t1 i1 t2 i2 elt:Expr} {ifs:List Expr} {pos:Pos} {wi w2:TI} {g1 g2:TG} {tc:TT} {te:TE} {cap:St->St} (hc:X.calm=true) (hi:PI X t1 i1 wi) (B:BlkSc X sc) (hcap:Caps X sc N cap)
  (hg1:∀ X',IsBlock X N sc X'->PG X' t1 g1) (hi2:∀ X',IsBlock X N sc X'->PI X' t2 i2 w2) (hg2:∀ X',IsBlock X N sc X'->PG X' t2 g2) (ht:∀ X',IsBlock X N sc X'->PTs X' ifs tc) (he:∀ X',IsBlock X N sc X'->PE X' elt te)
  (hs:∀ x,foldedSetIterable i1 X.env x=pure x) (hs2:∀ env x,foldedSetIterable i2 env x=pure x):PE X (kE elt t1 i1 t2 i2 ifs sc pos) (tLC2 wi cap g1 w2 g2 tc te):=by
 intro pins s σ H Q I h;rw[eval_ListComp];refine ZaS (use:=none) rfl hs (tV λx hx=>I.ok.has x (B.free x hx)) B.kind B.names (thn (hi pins s σ H _ I h) λv s1 h1=>thn h1 λitv s2 h2=>?_);obtain⟨it,fp,tn,J,H2,e,I2,T,st2,f2,q⟩:=h2;subst e;obtain⟨cl,cc⟩:=hcap σ I.len;refine zeR (RR:=λacc C=>compPost 'b' X.A X.xe none (EP X pins σ Q) acc C) hc I2 T st2 f2 B cl cc hg1 hi2 hg2 ht he hs2 q λD C acc H' s' m hDC hD hC off I' hn qf=>?_;exact⟨m,hn,λh' hk=>⟨.ref D,_,off.turned I' (by rw[zA hDC.symm];exact hC) hk,rfl,qf D hD⟩⟩
end L2
namespace L3
open PySem PySem.Spec PyProof.Rows L2 PySem.SeqAt
noncomputable def KpS (σ σ2:xZ):Prop:=σ2.length=σ.length/\∀ (i:Nat) (v:W),σ[i]?=some (some v)->σ2[i]?=some (some v)
theorem KpS.rep {K:yM} {σ σ2:xZ} (k:KpS σ σ2) {H:Hp} {τ:L2.St} (r:yR K H σ2 τ):yR K H σ τ:=⟨by rw[← k.1];exact r.1,λi w e=>r.2 i w (k.2 i w e)⟩
theorem zhc {K:yM} {J:It} {H1:Hp} {items:List W} {stab:Hw->Prop} {G1:Hw} {σ:xZ} {τ:L2.St} {t1 t2:ITg} {i2:I3} {c:T3} {e:E3} {Q:VK} {H0:Hp} {Fr:xZ->Prop} (mi:zia i2) (mc:vT c) (me:wX e) (it:ItIs K J H1 items stab) (ab:xP K H1 G1) (hs:yR K H1 σ τ) (g0:yO K H0 H1)
  (hw1:∀ w G' (Q:xZ->Hw->Prop),zY t1 w σ G' Q->zY t1 w σ G' λσ2 G2=>(KpS σ σ2/\Fr σ2)/\Q σ2 G2)
  (hw2:∀ σ2,Fr σ2->∀ y G' (Q:xZ->Hw->Prop),zY t2 y σ2 G' Q->zY t2 y σ2 G' λσ3 G3=>KpS σ2 σ3/\Q σ3 G3)
  (h:lc2R items stab G1 (λw G' K=>zY t1 w σ G' λσ2 G2=>i2 σ2 G2 λitems2 stab2 G3=>K items2 stab2 σ2 G3)
   (λy σ2 G' K=>zY t2 y σ2 G' λσ3 G3=>c σ3 G3 λb G4=>if b=true then e σ3 G4 λx G5=>K (some x) G5 else K none G4) (jT K H0 Q)) :
  zgz J τ (bH K (zY t1)) (bI K i2) (bH K (zY t2)) (jM K c) (xW K e) (λacc H'=>∀ p,H' p=none->Q (.ref p) (yG H' p (.lst acc))) H1:=by
 obtain⟨Pv,p0,pst,step,fin⟩:=h;refine⟨λi m τ acc H=>m+i=items.length/\yO K H1 H/\yR K H σ τ/\∃ ws G,yY K H ws acc/\xP K H G/\Pv i ws G,⟨items.length,rfl,.refl,hs,[],G1,rfl,ab,p0⟩,?_⟩;rintro i m τ acc H ⟨hm,gr,hs,ws,G,rs,a,pv⟩;have hst:=pst i ws G pv 'f'
 by_cases hi:i<items.length
 .refine .inr ⟨it.go i H G gr a hst hi,λx H' y=>?_⟩;obtain⟨w,ew,g1,rp,a1⟩:=it.yld i H G x H' gr a hst hi y;refine⟨w,σ,G,rp,hs.mono g1,a1,kU t1 w σ G _ _ (λσ2 G2 q τ2 H2 g2 hs2 a2=>?_) (hw1 w G _ (step i w ws G ew pv))⟩;obtain⟨⟨kp,fr⟩,q⟩:=q;refine⟨σ2,G2,hs2,a2,mi σ2 G2 _ _ (λitems2 stab2 G3 q J2 H3 g3 a3 ii=>?_) q⟩;obtain⟨Pw,w0,wst,wstep,wfin⟩:=q;refine⟨λj k τ acc H=>k+j=items2.length/\yO K H3 H/\yR K H σ2 τ/\∃ ws G,yY K H ws acc/\xP K H G/\Pw j ws G,⟨items2.length,rfl,.refl,hs2.mono g3,ws,G3,rs.mono (g1.trans (g2.trans g3)),a3,w0⟩,?_⟩;rintro j k τ4 acc4 H4 ⟨hk,gr4,hs4,ws4,G4,rs4,a4,pw⟩;have hst2:=wst j ws4 G4 pw 'f'
  by_cases hj:j<items2.length
  .refine .inr ⟨ii.go j H4 G4 gr4 a4 hst2.1 hj,by rw[rs4.length];exact hst2.2,λy H5 yy=>?_⟩;obtain⟨wy,ewy,g5,rpy,a5⟩:=ii.yld j H4 G4 y H5 gr4 a4 hst2.1 hj yy;refine⟨wy,σ2,G4,rpy,hs4.mono g5,a5,kU t2 wy σ2 G4 _ _ (λσ3 G5 q τ5 H6 g6 hs6 a6=>?_) (hw2 σ2 fr wy G4 _ (wstep j wy ws4 G4 ewy pw))⟩;obtain⟨kp2,q⟩:=q;refine sR mc hs6 a6 q λb G7 H7 g7 hs7 a7 q7=>?_
   cases b with
   |true =>
    rw[if_pos rfl] at q7 ⊢;refine xJ me hs7 a7 q7 λx G8 v H8 g8 hs8 rx a8 q8=>?_;exact⟨k-1,by omega,by omega,gr4.trans (g5.trans (g6.trans (g7.trans g8))),kp2.rep hs8,ws4++[x],G8,(rs4.mono (g5.trans (g6.trans (g7.trans g8)))).append ⟨v,[],rfl,rx,rfl⟩,a8,q8⟩
   |false =>
    rw[if_neg 'c'] at q7 ⊢;exact⟨k-1,by omega,by omega,gr4.trans (g5.trans (g6.trans g7)),kp2.rep hs7,ws4,G7,rs4.mono (g5.trans (g6.trans g7)),a7,q7⟩
  .have ej:j=items2.length:=by omega
   subst ej;exact .inl ⟨ii.stop _ H4 G4 gr4 a4 hst2.1 (zzR _),m-1,by omega,by omega,gr.trans (g1.trans (g2.trans (g3.trans gr4))),kp.rep hs4,ws4,G4,rs4,a4,wfin ws4 G4 pw⟩
 .refine .inl ⟨it.stop i H G gr a hst 'f',λp hp=>?_⟩;have ei:i=items.length:=by omega
  subst ei;exact fin ws G pv p (a.free hp) _ _ ((g0.trans gr).trans (yB hp)) rfl (a.new hp ⟨acc,rfl,rs.mono (yB hp)⟩)
theorem bd15 {a b c d e f g h i j k l m n o:Bool} (H:(a&&b&&c&&d&&e&&f&&g&&h&&i&&j&&k&&l&&m&&n&&o)=true):((((((((((((((a=true/\b=true)/\c=true)/\d=true)/\e=true)/\f=true)/\g=true)/\h=true)/\i=true)/\j=true)/\k=true)/\l=true)/\m=true)/\n=true)/\o=true):=by simpa only [Zm] using H
section
variable {Γ:Ctx3} {p:Par} (g:Good Γ p)
include g
theorem s_dct (ks:List Str) (es:IEs) (hs:OkA Γ p es):wF Γ p (.dct ks es):=by
 intro M X x L h
 cases x with
 |Dict keys xs q =>
  replace h:=bd5 h;simp only[decide_eq_true_eq,Zai] at h;obtain⟨⟨⟨⟨h1,h2⟩,h3⟩,h4⟩,h5⟩:=h;obtain⟨all,ek,trs,pp,low⟩:=(hs M X xs L h2).2.2.1 ks keys q h1 h3
  have h0:keys≠[]:=by
   intro z;rw[z] at ek
   cases ks with
   |nil=>cases h5
   |cons _ _=>cases ek
  refine wP (M:=M) (yU g.mono XN (.dct ks es)) ((zgW pp all h3 h0 h4).imp λτ H Q q=>?_) (λ_=>rfl) (λ_ _ _ z=>nomatch z);intro a ha;obtain⟨σ,G,hs',ab,q⟩:=q;have gr:yO X.K H (yG H a (.dK [])):=yB ha;refine low τ _ _ ⟨σ,put G a (.dic []),hs'.mono gr,ab.new ha ⟨[],rfl,rfl⟩,wG g.mono XN es σ _ _ _ (λws G1 q vs H1 g1 rs a1=>?_) (q a (ab.free ha))⟩;obtain⟨q1,q2,q3⟩:=q;obtain⟨l,e,rl⟩:=a1.dic q1
  have el:l=[]:=by
   cases l with
   |nil=>rfl
   |cons _ _=>cases rl
  subst el;refine⟨e,(ks.zip vs).map (λkv=>((Sum.inr kv.1:xM),kv.2)),by rw[Z8];rfl,?_,?_⟩
  .rw[zzM,Zbi];omega
  .have gr2:yO X.K H1 (yG H1 a (.dK (sA [] ((ks.zip vs).map λkv=>((Sum.inr kv.1:xM),kv.2))))):=a1.grow q1;exact q3 _ _ (gr.trans (g1.trans gr2)) rfl (a1.chg q1 ⟨_,rfl,zdz ks (rs.mono gr2) rfl⟩)
 |_=>exact zzQ h
theorem fR (tg:ITg) (names:List Str) (caps:List Nat) (it:II) (c:IO) (elt:IE) (hi:OkI Γ p it) (hc:OkO Γ p c) (he:wF Γ p elt) {M:MC} {X:Cx} (L:Lk Γ M p X) {x t ix:Expr} {ifs:List Expr} {sc:Scope}
  (h:(blkB M.sc sc&&vH ix&&sC (names++caps.map (λj=>M.N.getD j Str.empty))&&(caps.all λj=>decide (j<M.N.length)&&(sc.names.lookup (M.N.getD j Str.empty)==some .free)) &&
    mI it M ix&&((pE tg).all λi=>decide (i<names.length))&&mG {M with sc:=bV sc M.sc,N:=names++caps.map (λj=>M.N.getD j Str.empty),own:=λx=>sc.names.lookup x==some .cell} tg t&&mC c {M with sc:=bV sc M.sc,N:=names++caps.map (λj=>M.N.getD j Str.empty),own:=λx=>sc.names.lookup x==some .cell} ifs&&mE elt {M with sc:=bV sc M.sc,N:=names++caps.map (λj=>M.N.getD j Str.empty),own:=λx=>sc.names.lookup x==some .cell} x)=true) :
  PI X t ix (bI X.K (zW Γ XN it))/\BlkSc X sc/\Caps X sc (names++caps.map (λj=>M.N.getD j Str.empty)) (capV names.length caps) /\
  (∀ X',IsBlock X (names++caps.map (λj=>M.N.getD j Str.empty)) sc X'->PG X' t (bH X.K (zY tg)))/\(∀ X',IsBlock X (names++caps.map (λj=>M.N.getD j Str.empty)) sc X'->PTs X' ifs (jM X.K (zT Γ c))) /\
  (∀ H1 X',IsBlock X (names++caps.map (λj=>M.N.getD j Str.empty)) sc X'->PE X' x (λτ H Q=>yO X.K H1 H/\xW X.K (zI Γ XN elt).e τ H Q))/\(∀ y,foldedSetIterable ix X.env y=pure y) /\
  ∀ τ H Q,xW X.K (zI Γ XN (.lc tg names caps it c elt)).e τ H Q->tLC (bI X.K (zW Γ XN it)) (capV names.length caps) (bH X.K (zY tg)) (jM X.K (zT Γ c)) (λH0 τ H Q=>yO X.K H0 H/\xW X.K (zI Γ XN elt).e τ H Q) τ H Q:=by
 simp only[Zm] at h;obtain⟨⟨⟨⟨⟨⟨⟨⟨h1,h2⟩,h3⟩,h4⟩,h5⟩,h6⟩,h7⟩,h8⟩,h9⟩:=h
 have lk:∀ X',IsBlock X (names++caps.map (λj=>M.N.getD j Str.empty)) sc X'->Lk Γ {M with sc:=bV sc M.sc,N:=names++caps.map (λj=>M.N.getD j Str.empty),own:=λx=>sc.names.lookup x==some .cell} p X':=λX' b =>
  ⟨⟨b.prog.trans L.fits.prog,b.w.trans L.fits.w,b.K.trans L.fits.K,b.mg.trans L.fits.mg,b.base.trans L.fits.base,b.A.trans L.fits.A,b.calm.trans L.fits.calm,b.xe⟩,b.N,b.scope.trans (zcw L.sc),nN h3,(λx z=>b.fn x (eq_of_beq z)),(zbp L.sc h1).kind,L.fns,L.gls,L.mts,L.its,L.sxs,L.ixs⟩
 refine⟨hi M X ix L h5 t,zbp L.sc h1,dC L.N L.sc h4,λX' b=>?_,λX' b=>?_,λH1 X' b=>?_,kR h2,λτ H Q q=>?_⟩
 .rw[← b.K];exact sndG (lk X' b) tg t h7
 .rw[← b.K];exact(hc _ X' (lk X' b)).2 ifs h8
 .rw[← b.K];exact(he _ X' x (lk X' b) h9).1.imp λ_ _ _ z=>z.2
 .obtain ⟨σ,G,hs,ab,q⟩:=q;refine⟨σ,G,hs,ab,zcO g.mono XN it σ G _ _ (λitems stab G1 q J H1 g1 a1 ii=>?_) q⟩;refine zjG (zjx g.mono c) (yU g.mono XN elt) ii a1 (zdJ (hs.mono g1) names.length caps) g1 (λw G' Q' z=>?_) q;refine kU tg w _ G' _ _ (λσ2 G2 z=>⟨⟨z.2.1,λi v e=>?_⟩,z.2.2⟩) (tI tg w _ G' _ (sG tg w _ G' _ z));have hk:=(sV e).1;rw[z.1 i (zg6 h6 hk)];exact e
theorem s_lc (tg:ITg) (names:List Str) (caps:List Nat) (it:II) (c:IO) (elt:IE) (hi:OkI Γ p it) (hc:OkO Γ p c) (he:wF Γ p elt):wF Γ p (.lc tg names caps it c elt):=by
 intro M X x L h
 cases x with
 |ListComp x gens sc q =>
  match gens,h with
  | [⟨t,ix,ifs,asy⟩],h =>
   have h':=h;replace h:=bd10 h;obtain⟨⟨⟨⟨⟨⟨⟨⟨⟨h0,h1⟩,h2⟩,h3⟩,h4⟩,h5⟩,h6⟩,h7⟩,h8⟩,h9⟩:=h;replace h0:=of_decide_eq_true h0;subst h0;obtain⟨c1,c2,c3,c4,c5,c6,c7,c8⟩:=fR g tg names caps it c elt hi hc he L (x:=x) (t:=t) (ix:=ix) (ifs:=ifs) (sc:=sc) (by simp only[Zm];exact⟨⟨⟨⟨⟨⟨⟨⟨h1,h2⟩,h3⟩,h4⟩,h5⟩,h6⟩,h7⟩,h8⟩,h9⟩);exact wP (M:=M) (yU g.mono XN (.lc tg names caps it c elt)) ((pe_lc L.fits.calm c1 c2 c3 c4 c5 c6 c7).imp c8) (λ_=>rfl) (λ_ _ _ z=>nomatch z)
 |_=>exact zzQ h
theorem s_lc2 (t1:ITg) (i1:II) (t2:ITg) (i2:II) (names:List Str) (caps:List Nat) (c:IO) (elt:IE) (hi1:OkI Γ p i1) (hi2:OkI Γ p i2) (hc:OkO Γ p c) (he:wF Γ p elt):wF Γ p (.lc2 t1 i1 t2 i2 names caps c elt):=by
 intro M X x L h
 cases x with
 |ListComp x gens sc q =>
  match gens,h with
  | [⟨t,ix,[],asy⟩,⟨t',ix',ifs,asy'⟩],h =>
   obtain⟨⟨⟨⟨⟨⟨⟨⟨⟨⟨⟨⟨⟨⟨h0,h0'⟩,h1⟩,h2⟩,h2'⟩,h3⟩,h4⟩,h5⟩,h6⟩,h6'⟩,h7⟩,h5'⟩,h7'⟩,h8⟩,h9⟩:=bd15 h;replace h0:=of_decide_eq_true h0;subst h0;replace h0':=of_decide_eq_true h0';subst h0'
   have lk:∀ X',IsBlock X (names++caps.map (λj=>M.N.getD j Str.empty)) sc X'->Lk Γ {M with sc:=bV sc M.sc,N:=names++caps.map (λj=>M.N.getD j Str.empty),own:=λx=>sc.names.lookup x==some .cell} p X':=λX' b =>
    ⟨⟨b.prog.trans L.fits.prog,b.w.trans L.fits.w,b.K.trans L.fits.K,b.mg.trans L.fits.mg,b.base.trans L.fits.base,b.A.trans L.fits.A,b.calm.trans L.fits.calm,b.xe⟩,b.N,b.scope.trans (zcw L.sc),nN h3,(λx z=>b.fn x (eq_of_beq z)),(zbp L.sc h1).kind,L.fns,L.gls,L.mts,L.its,L.sxs,L.ixs⟩
   refine wP (M:=M) (yU g.mono XN (.lc2 t1 i1 t2 i2 names caps c elt)) ((zjh (w2:=bI X.K (zW Γ XN i2)) (g1:=bH X.K (zY t1)) (g2:=bH X.K (zY t2)) (tc:=jM X.K (zT Γ c)) (te:=xW X.K (zI Γ XN elt).e) (cap:=capV names.length caps) L.fits.calm (hi1 M X ix L h5 t) (zbp L.sc h1) (dC L.N L.sc h4) (λX' b=>by rw[← b.K];exact sndG (lk X' b) t1 t h7) (λX' b=>by rw[← b.K];exact hi2 _ X' ix' (lk X' b) h5' t') (λX' b=>by rw[← b.K];exact sndG (lk X' b) t2 t' h7')
    (λX' b=>by rw[← b.K];exact(hc _ X' (lk X' b)).2 ifs h8) (λX' b=>by rw[← b.K];exact(he _ X' x (lk X' b) h9).1) (kR h2) (λenv y=>kR h2' y)).imp λτ H Q q=>?_) (λ_=>rfl) (λ_ _ _ z=>nomatch z)
   obtain⟨σ,G,hs,ab,q⟩:=q;refine⟨σ,G,hs,ab,zcO g.mono XN i1 σ G _ _ (λitems stab G1 q J H1 g1 a1 ii=>?_) q⟩
   have dj:∀ i∈pE t1,i<names.length/\i∉pE t2:=λi hi=>by
    have:=ZZ.mp h6 i hi;simp only[Zm,decide_eq_true_eq,Zai,List.contains_eq_mem,decide_eq_false_iff_not] at this;exact this
   refine zhc (Fr:=λσ2=>∀ i∈pE t2,∀ v,σ2[i]?≠some (some v)) (zcO g.mono XN i2) (zjx g.mono c) (yU g.mono XN elt) ii a1 (zdJ (hs.mono g1) names.length caps) g1 (λw G' Q' z=>?_) (λσ2 fr y G' Q' z=>?_) q
   .refine kU t1 w _ G' _ _ (λσ2 G2 z=>⟨⟨⟨z.2.1,λi v e=>?_⟩,λi hi v e=>?_⟩,z.2.2⟩) (tI t1 w _ G' _ (sG t1 w _ G' _ z))
    .have hk:=(sV e).1;rw[z.1 i (λhm=>by have:=(dj i hm).1;omega)];exact e
    .have hl:=of_decide_eq_true (ZZ.mp h6' i hi);rw[z.1 i (λhm=>(dj i hm).2 hi)] at e;have hk:=(sV e).1;omega
   .refine kU t2 y _ G' _ _ (λσ3 G3 z=>⟨⟨z.2.1,λi v e=>?_⟩,z.2.2⟩) (tI t2 y _ G' _ (sG t2 y _ G' _ z));rw[z.1 i (λhm=>fr i hm v e)];exact e
 |_=>exact zzQ h
theorem s_no:OkO Γ p .no:=by
 intro M X L;refine⟨λx h=>?_,λxs h=>?_⟩
 .cases x with
  |none=>exact zgS.imp λτ H Q q=>by obtain⟨σ,G,hs,ab,q⟩:=q;exact q H .refl ab
  |some _=>exact zzQ h
 .cases xs with
  |nil=>exact zgL.imp λτ H Q q=>by obtain⟨σ,G,hs,ab,q⟩:=q;exact q H .refl ab
  |cons _ _=>exact zzQ h
theorem ziN (e:IE) (he:wF Γ p e):OkO Γ p (.yes e):=by
 intro M X L;refine⟨λx h=>?_,λxs h=>?_⟩
 .cases x with
  |none=>exact zzQ h
  |some x =>
   skip
   refine(zgR (he M X x L h).1).imp λτ H Q q=>?_;obtain⟨σ,G,hs,ab,q⟩:=q;refine xJ (yU g.mono XN e) hs ab q λw G1 v H1 g1 hs1 rx a1 q=>?_
   cases w with
   |int i=>cases rx;exact⟨i,rfl,q H1 g1 a1⟩
   |_=>exact q.elim
 .match xs,h with
  | [x],h=>exact zgK (he M X x L (by simpa only [mC] using h)).2.1
theorem ziP:OkA Γ p .nil:=by
 intro M X xs L h
 cases xs with
 |cons _ _=>exact zzQ h
 |nil =>
  refine⟨zjk.imp λτ H Q q=>by obtain⟨σ,G,hs,ab,q⟩:=q;exact q [] H .refl rfl ab,rfl,λks keys pos hk hl=>?_,trivial⟩
  cases keys with
  |cons _ _=>cases hl
  |nil =>
   cases ks with
   |cons _ _=>cases hk
   |nil =>
    refine⟨rfl,rfl,[],zgQ,λτ H Q q=>?_⟩;obtain⟨σ,G,hs,ab,q⟩:=q;exact q [] H .refl rfl ab
theorem zfH (e:IE) (es:IEs) (he:wF Γ p e) (hs:OkA Γ p es):OkA Γ p (.cons e es):=by
  intro M X xs L h
  cases xs with
  |nil=>exact zzQ h
  |cons x xs =>
    simp only[mA,Zm] at h;obtain⟨⟨h1,h2⟩,h3⟩:=h;have A:=he M X x L h2;have B:=hs M X xs L h3;refine⟨(zg1 A.1 B.1 (qO h1)).imp λτ H Q q=>?_,by rw[Zax,h1,B.2.1];rfl,λks keys pos hk hl=>?_,⟨yU g.mono XN e,A.1,B.2.2.2⟩⟩
    . obtain⟨σ,G,hs',ab,q⟩:=q
      refine xJ (yU g.mono XN e) hs' ab q λw G1 v H1 g1 hs1 rx a1 q=>?_;refine uX (wG g.mono XN es) hs1 a1 q λws G2 vs H2 g2 hs2 rs a2 q=>?_;exact q _ H2 (g1.trans g2) ⟨v,vs,rfl,rx.mono g2,rs⟩ a2
    . cases ks with
      |nil =>
        cases keys with
        |nil=>simp at hl
        |cons _ _=>simp[keyB] at hk
      |cons k ks =>
       cases keys with
       |nil=>cases hk
       |cons ko keys =>
        obtain⟨y,ky,qy,rfl⟩:∃ y ky qy,ko=some (.Constant (.str y) ky qy):=by
          cases ko with
          |none=>cases hk
          |some ke =>
            cases ke with
            |Constant c ky qy =>
              cases c with
              |str y=>exact⟨y,ky,qy,rfl⟩
              |_=>cases hk
            |_=>cases hk
        simp only[keyB,Zm,beq_iff_eq] at hk;obtain⟨rfl,hk⟩:=hk;obtain⟨all,ek,trs,pp,low⟩:=B.2.2.1 ks keys pos hk (by simpa using hl);refine⟨by simpa using all,by simpa using ek,(tC (.str k),xW X.K (zI Γ XN e).e)::trs,zes zfP A.1 pp,λτ H Q q=>?_⟩;obtain⟨σ,G,hs',ab,q⟩:=q;show xW X.K (zI Γ XN e).e τ H _;refine xJ (yU g.mono XN e) hs' ab q λw G1 v H1 g1 hs1 rx a1 q=>?_;refine low τ H1 _ ⟨σ,G1,hs1,a1,wG g.mono XN es σ G1 _ _ (λws G2 q vs H2 g2 rs a2=>?_) q⟩;exact q (v::vs) H2 (g1.trans g2) ⟨v,vs,rfl,rx.mono g2,rs⟩ a2
theorem ziO (e:IE) (he:wF Γ p e):OkI Γ p (.val e):=λM X x L h tg=>zja (yU g.mono XN e) (he M X x L h).1
theorem ziR (i:Nat) (es:IEs) (hs:OkA Γ p es):OkI Γ p (.blt i es):=by
  intro M X x L h tg
  cases x with
  |Call fn xs kw q =>
    cases fn with
    |Name y qy =>
     cases kw with
     |nil =>
      replace h:=bd3 h;have gl:=sY L.sc h.1.2;have hi:=xQ h.1.1;rw[← L.its] at hi;obtain⟨e,ei,rfl⟩:=qM hi;have A:=hs M X xs L h.2;refine(g.it e (wR ei) X L.fits gl.1 tg xs (zX Γ XN es) qy q (wG g.mono XN es) A.2.1 A.1 (nY g h.2) gl.2.1 gl.2.2).imp λτ H R q=>?_;obtain⟨σ,G,hs',ab,q⟩:=q;refine⟨σ,G,hs',ab,wG g.mono XN es σ G _ _ (λws G1 q=>?_) q⟩;simp only[ei] at q;exact q
     |cons _ _=>exact zzQ h
    |_=>exact zzQ h
  |_=>exact zzQ h
theorem zfG (i:Nat) (es:IEs) (hs:OkA Γ p es):OkI Γ p (.spc i es):=λM X x L h=>absurd h zzN
theorem uE (e:IE):wF Γ p e :=
 IE.rec (motive_1:=wF Γ p) (motive_2:=OkO Γ p) (motive_3:=OkA Γ p) (motive_4:=OkI Γ p) (motive_5:=λ_=>True) (motive_6:=λ_=>True)
  (s_var g) (s_con g) (s_glb g) (s_bin g) (s_neg g) (s_not g) (s_cmp g) (s_chn g) (s_and g) (s_or g) (s_ite g) (s_ix g) (s_sl g) (s_tup g) (s_lst g) (s_dct g) (ziQ g) (s_mth g) (s_att g)
  (λtg names caps it c elt _ hi hc he=>s_lc g tg names caps it c elt hi hc he) (s_spc g) (s_ch3 g) (λt1 i1 t2 i2 names caps c elt _ h1 _ h2 hc he=>s_lc2 g t1 i1 t2 i2 names caps c elt h1 h2 hc he) (s_no g) (ziN g) (ziP g) (zfH g) (ziO g) (ziR g) (zfG g) (λ_=>trivial) (λ_ _=>trivial) trivial (λ_ _ _ _=>trivial) e
theorem sndA (es:IEs):OkA Γ p es:=match es with
 | .nil=>ziP g
 | .cons e es=>zfH g e es (uE g e) (sndA es)
theorem sndI (it:II):OkI Γ p it:=match it with
 | .val e=>ziO g e (uE g e)
 | .blt i es=>ziR g i es (sndA g es)
 | .spc i es=>zfG g i es (sndA g es)
theorem sndO (o:IO):OkO Γ p o:=match o with
 | .no=>s_no g
 | .yes e=>ziN g e (uE g e)
end
end L3
namespace L3
open PySem PySem.Spec PyProof.Rows L2
theorem zhr {i:Nat} {a:IE} {M:MC} {x:Stmt} (h:mS (.asg i a) M x=true):∃ y py v q,x=.Assign [.Name y py] v q/\(M.N[i]?==some y)=true/\locB M y=true/\mE a M v=true:=by
 cases x with
 |Assign ts v q =>
  cases ts with
  |nil=>exact zzQ h
  |cons t r =>
   cases r with
   |cons _ _=>cases t<;>exact zzQ h
   |nil =>
    cases t with
    |Name y py =>
     replace h:=bd4 h;exact⟨y,py,v,q,rfl,h.1.1.1,h.1.1.2,h.1.2⟩
    |_=>exact zzQ h
 |_=>exact zzQ h
theorem zeY {ts:ITgs} {a:IE} {M:MC} {x:Stmt} (h:mS (.asgT ts a) M x=true):∃ es k qt v q,x=.Assign [.Tuple es k qt] v q/\(zg5 v || !(es.length==2 || es.length==3))=true/\mGs M ts es=true/\mE a M v=true:=by
 cases x with
 |Assign ts v q =>
  cases ts with
  |nil=>exact zzQ h
  |cons t r =>
   cases r with
   |cons _ _=>cases t<;>exact zzQ h
   |nil =>
    cases t with
    |Tuple es k qt =>
     replace h:=bd3 h;exact⟨es,k,qt,v,q,rfl,h.1.1,h.1.2,h.2⟩
    |_=>exact zzQ h
 |_=>exact zzQ h
theorem ziE {e:Expr} {es:List Expr} {k:Nat} {q:Pos} {n:Nat} {env:Env}:swapsWithSole [.Tuple es k q] e n env=pure false:=by cases e<;>rfl
theorem ziG {e:Expr} {es:List Expr} {k:Nat} {q:Pos} {env:Env} (h:(zg5 e || !(es.length==2 || es.length==3))=true):swappedStores [.Tuple es k q] e env=pure none:=by
 cases e with
 |Tuple vs k' q' =>
  have h:(!(es.length==2 || es.length==3))=true:=h;unfold swappedStores;simp only[h,ZbS,if_true]
 |_=>rfl
theorem zeZ {o i a:IE} {M:MC} {x:Stmt} (h:mS (.asgI o i a) M x=true):∃ l r qs v q,x=.Assign [.Subscript l r qs] v q/\noLC v=true/\pV r=true/\mE o M l=true/\mE i M r=true/\mE a M v=true:=by
 cases x with
 |Assign ts v q =>
  cases ts with
  |nil=>exact zzQ h
  |cons t r =>
   cases r with
   |cons _ _=>cases t<;>exact zzQ h
   |nil =>
    cases t with
    |Subscript l r qs =>
     replace h:=bd5 h;exact⟨l,r,qs,v,q,rfl,h.1.1.1.1,h.1.1.1.2,h.1.1.2,h.1.2,h.2⟩
    |_=>exact zzQ h
 |_=>exact zzQ h
theorem zj4 {a:IE} {M:MC} {x:Stmt} (h:mS (.ex a) M x=true):∃ v q,x=.Expr v q/\noLC v=true/\mE a M v=true:=by
 cases x with
 |Expr v q =>
  replace h:=tP h;exact⟨v,q,rfl,h.1,h.2⟩
 |_=>exact zzQ h
theorem zhj {a:IE} {M:MC} {x:Stmt} (h:mS (.ret a) M x=true):∃ v q,x=.Return (some v) q/\mE a M v=true:=by
 cases x with
 |Return v q =>
  cases v with
  |none=>exact zzQ h
  |some v=>exact⟨v,q,rfl,h⟩
 |_=>exact zzQ h
theorem zeV {M:MC} {x:Stmt} (h:mS .retN M x=true):∃ q,x=.Return none q:=by
 cases x with
 |Return v q =>
  cases v with
  |none=>exact⟨q,rfl⟩
  |some v=>exact zzQ h
 |_=>exact zzQ h
theorem zeW {M:MC} {x:Stmt} (h:mS .pass M x=true):∃ q,x=.Pass q:=by
 cases x with
 |Pass q=>exact⟨q,rfl⟩
 |_=>exact zzQ h
theorem zhq {M:MC} {x:Stmt} (h:mS .brk M x=true):∃ q,x=.Break q:=by
 cases x with
 |Break q=>exact⟨q,rfl⟩
 |_=>exact zzQ h
theorem zhn {M:MC} {x:Stmt} (h:mS .cnt M x=true):∃ q,x=.Continue q:=by
 cases x with
 |Continue q=>exact⟨q,rfl⟩
 |_=>exact zzQ h
theorem zhl {c:IE} {a b:ISs} {M:MC} {x:Stmt} (h:mS (.ite c a b) M x=true):∃ t y z q,x=.If t y z q/\mE c M t=true/\vP a M y=true/\vP b M z=true:=by
 cases x with
 |If t y z q =>
  replace h:=bd3 h;exact⟨t,y,z,q,rfl,h.1.1,h.1.2,h.2⟩
 |_=>exact zzQ h
theorem zhi {c:IE} {b:ISs} {M:MC} {x:Stmt} (h:mS (.whl c b) M x=true):∃ t y q,x=.While t y [] q/\mE c M t=true/\vP b M y=true:=by
 cases x with
 |While t y z q =>
  cases z with
  |nil =>
   replace h:=tP h;exact⟨t,y,q,rfl,h.1,h.2⟩
  |cons _ _=>exact zzQ h
 |_=>exact zzQ h
theorem zhm {tg:ITg} {it:II} {b:ISs} {M:MC} {x:Stmt} (h:mS (.for tg it b) M x=true):∃ t y z q,x=.For t y z [] q/\vH y=true/\mG M tg t=true/\mI it M y=true/\vP b M z=true:=by
 cases x with
 |For t y z e q =>
  cases e with
  |nil =>
   replace h:=bd4 h;exact⟨t,y,z,q,rfl,h.1.1.1,h.1.1.2,h.1.2,h.2⟩
  |cons _ _=>exact zzQ h
 |_=>exact zzQ h
theorem zhk {M:MC} {x:List Stmt} (h:vP .nil M x=true):x=[]:=by
 cases x with
 |nil=>rfl
 |cons _ _=>exact zzQ h
theorem zeX {s:IS} {ss:ISs} {M:MC} {x:List Stmt} (h:vP (.cons s ss) M x=true):∃ y ys,x=y::ys/\mS s M y=true/\vP ss M ys=true:=by
 cases x with
 |nil=>exact zzQ h
 |cons y ys =>
  replace h:=tP h;exact⟨y,ys,rfl,h.1,h.2⟩
end L3
namespace L2
open PySem PySem.Spec PyProof.Rows
section
variable {X:Cx} {pos:Pos}
end
end L2
namespace L2
open PySem PySem.Spec PyProof.Rows
section
variable {prog:Program} {w:World} {A:Around} {E:VP} {s:Shared}
theorem zbl {it l:Addr} {xs:Array Value} (ne:l≠it):∀ (n i:Nat) (s:Shared) (Q:List Value->Shared->Prop),s.heap.IsListIter it l i->s.heap.IsList l xs->i+n<=xs.size ->
  (∀ h',h'.IsListIter it l (i+n)->Heap.SameBut it s.heap h'->Q ((xs.toList.drop i).take n) {s with heap:=h'})->wpAny 'd' A (draw (.ref it) n) Q E s
 | 0,i,s,Q,a,_,_,q=>by
  show wpAny _ _ (pure []) Q E s;exact Zc (by simpa using q s.heap a (Heap.SameBut.refl ..))
 |n+1,i,s,Q,a,b,le,q=>by
  have lt:i<xs.size:=by omega
  show wpAny _ _ (pyNext (.ref it) >>= _) Q E s;refine Za (wpAny_pyNext_list_item a b (x:=xs[i]) (by simp[lt]) λh1 a1 s1=>?_);refine Za (ZO (zbl ne n (i+1) _ _ a1 (b.extBut s1.extBut ne) 'f' λh2 a2 s2=>Zc ?_));have e:xs.toList.drop i=xs[i]::xs.toList.drop (i+1):=by simp[ZaK,lt]
  have z:=q h2 (by rw[show i+(n+1)=i+1+n by omega];exact a2) (s1.trans s2);rw[e,List.take_succ_cons] at z;exact z
theorem zbt {l:Addr} {xs:Array Value} {ts:List (Bool×(Value->Sem Unit))} {Q:Unit->Shared->Prop} (hh:A.handled=none) (hl:s.heap.IsList l xs) (hn:ts.length=xs.size) (hs:ts.findIdx? (·.1)=none)
  (h:∀ h',Heap.ExtBut s.heap.objs.size s.heap h'->wpAny 'd' A (assignInOrder (ts.map (·.2)) xs.toList) Q E {s with heap:=h'}):wpAny 'd' A (unpack (.ref l) ts) Q E s:=by
 have ne:l≠s.heap.objs.size:=by obtain⟨o,ho,_⟩:=hl;exact Zo (Zd ho)
 unfold unpack;rw[hn,hs];refine Za (ZO ?_);unfold unpackItems;refine Za ?_;unfold notIterableAtAll;refine Za (ZbY hl.typeIs slot_list_iter.lookup (Zc ?_));simp only[zzB,if_false];refine Za (ZO (Za5 hl ?_));refine Za (ZO (zbl ne xs.size 0 _ _ ⟨_,Zl _ rfl,rfl,rfl⟩ (hl.push _) 'f' λh1 a1 s1=>?_));rw[show List.take xs.size (List.drop 0 xs.toList)=xs.toList by rw[Zbx];exact List.take_of_length_le 'g',if_neg 'g'];refine Za (ZO (wpAny_pyNext_list_end hh a1 ((hl.push _).extBut s1.extBut ne) 'g' λh2 e2=>?_));simp only[Zbs,zzB,if_false];exact Zc (h h2 λb o hb e=>e2 b o hb (s1.extBut b o hb (Zb _ e)))
end
noncomputable def gTL (K:PySem.W.Frag) (n:Nat) (t:TGs):TG:=λv σ H Q=>∃ a xs,v=.ref a/\(sP K H a xs\/sL K H a xs)/\xs.length=n/\t xs σ H Q
theorem pg_tl {X:Cx} {pos:Pos} {es:List Expr} {k:Nat} {t:TGs} {n:Nat} (hc:X.calm=true) (h:PGs X es t) (hn:(assignEach es X.env).length=n) (hst:(assignEach es X.env).findIdx? (·.1)=none):PG X (.Tuple es k pos) (gTL X.K n t):=by
 intro pins s σ H v u Q I r hw;obtain⟨a,xs,e1,hq,hl,hw⟩:=hw;rcases hq with hq|hq
 .exact zfO hc h hn hst pins s σ H v u Q I r ⟨a,xs,e1,hq,hl,hw⟩
 .subst e1;cases r;obtain⟨its,rv,pl,hz⟩:=I.list hq;rw[assign_Tuple];refine Za (Zao (zbt (I.ok.hd hc) pl.isList (by simp[hn,← hl,rv.length]) hst λh' hx=>?_));exact h pins _ σ H xs _ Q (I.kept (t':=s.toks) λb o e=>hx b o (Zo (Zd e)) e) (by simpa using rv) hw
end L2
namespace L3
open PySem PySem.Spec PyProof.Rows L2 PySem.SeqAt
section
variable {Γ:Ctx3} {p:Par} (g:Good Γ p)
noncomputable def OkS (Γ:Ctx3) (p:Par) (s:IS):Prop:=∀ M X x,Lk Γ M p X->mS s M x=true->PS X x (lowS X.K (zU Γ XN s))
noncomputable def OkSs (Γ:Ctx3) (p:Par) (s:ISs):Prop:=∀ M X x,Lk Γ M p X->vP s M x=true->gP X x (lowS X.K (zB Γ XN s))
include g
theorem ziv (i:Nat) (e:IE):OkS Γ p (.asg i e):=by
 intro M X x L h;obtain⟨y,py,v,q,rfl,h1,h2,h3⟩:=zhr h
 .
  have lo:=zcV L h2;have hN:=xQ h1;rw[← L.N] at hN;have nd:X.N.Nodup:=L.N▸L.nd
  have low:∀ (te:TE),(∀ τ H Q,xW X.K (zI Γ XN e).e τ H Q->te τ H Q)->∀ D τ H,lowS X.K (zU Γ XN (.asg i e)) D τ H->tAsg te (zfc i) D τ H:=λte k D τ H hq=>by
   obtain⟨σ,G,D3,hs,ab,f,hq⟩:=hq;refine k _ _ _ ⟨σ,G,hs,ab,yU g.mono XN e σ G _ _ (λw G' hq v' H' g' rp ab'=>?_) hq⟩;exact f.nx _ G' _ H' g' ((hs.mono g').set rp i) ab' hq
  by_cases hl:noLC v=true
  .exact (bS (i:=i) nd hN lo.1 (uE g e M X v L h3).1 (qA hl) lo.2).imp (low _ λ_ _ _ z=>z)
  .cases v with
   |ListComp x gens sc qq =>
    cases e with
    |lc tg names caps it c elt =>
     match gens,h3 with
     | [⟨t,ix,ifs,asy⟩],h3 =>
      have h3':=h3;replace h3:=bd10 h3;obtain⟨⟨⟨⟨⟨⟨⟨⟨⟨z0,z1⟩,z2⟩,z3⟩,z4⟩,z5⟩,z6⟩,z7⟩,z8⟩,z9⟩:=h3;replace z0:=of_decide_eq_true z0;subst z0;have cond:∃ b,swapsWith (.ListComp x [⟨t,ix,ifs,0⟩] sc qq) (some (.Name y py)) q.line X.env=pure b:=⟨_,rfl⟩;obtain⟨b,hb⟩:=cond
      cases b with
      |false=>exact(bS (i:=i) nd hN lo.1 (uE g _ M X _ L h3').1 hb lo.2).imp (low _ λ_ _ _ z=>z)
      |true =>
       obtain⟨c1,c2,c3,c4,c5,c6,c7,c8⟩:=fR g tg names caps it c elt (sndI g it) (sndO g c) (uE g elt) L (x:=x) (t:=t) (ix:=ix) (ifs:=ifs) (sc:=sc) (by simp only[Zm];exact⟨⟨⟨⟨⟨⟨⟨⟨z1,z2⟩,z3⟩,z4⟩,z5⟩,z6⟩,z7⟩,z8⟩,z9⟩);exact(zeo (i:=i) L.fits.calm c1 c2 c3 c4 c5 c6 nd hN lo.1 lo.2 hb c7).imp (low _ c8)
    |lc2 t1 i1 t2 i2 names caps c elt=>exact absurd (bd4 h).2 zzN
    |_=>exact absurd h3 zzN
   |SetComp _ _ _ _=>cases e<;>exact absurd h3 zzN
   |DictComp _ _ _ _ _=>cases e<;>exact absurd h3 zzN
   |_=>exact absurd rfl hl
theorem sndTL {M:MC} {X:Cx} {ts:ITgs} {es:List Expr} {k:Nat} {q:Pos} (L:Lk Γ M p X) (h:mGs M ts es=true):PG X (.Tuple es k q) (bH X.K λw σ G Q=>zY (.tup ts) (unl G w) σ G Q):=by
 obtain⟨ps,hn,hst⟩:=zgE L ts es h;refine(pg_tl (n:=es.length) L.fits.calm ps hn hst).imp λv σ H Q q=>?_;obtain⟨w,σ3,G,rp,hs,ab,q⟩:=q
 cases w with
 |tup ws =>
  obtain⟨a,vs,rfl,sq,rs⟩:=rp;exact⟨a,vs,rfl,.inl sq,by rw[rs.length];exact zeM ts es ws σ3 G _ h q,ws,σ3,G,rs,hs,ab,q⟩
 |ref p =>
  cases(show v=.ref p from rp);simp only[unl] at q
  split at q
  .rename_i ws e;obtain⟨vs,sq,rs⟩:=ab.seq e;exact⟨p,vs,rfl,.inr sq,by rw[rs.length];exact zeM ts es ws σ3 G _ h q,ws,σ3,G,rs,hs,ab,q⟩
  .exact q.elim
 |_=>exact q.elim
theorem zfB (ts:ITgs) (e:IE):OkS Γ p (.asgT ts e):=by
 intro M X x L h;obtain⟨es,k,qt,v,q,rfl,h2,h3,h4⟩:=zeY h
 .
  have pg:=sndTL g (k:=k) (q:=qt) L h3;refine(zi7 (uE g e M X v L h4).1 pg ziE (ziG h2) rfl).imp λD τ H hq=>?_;obtain⟨σ,G,D3,hs,ab,f,hq⟩:=hq;refine⟨σ,G,hs,ab,yU g.mono XN e σ G _ _ (λw G' hq v' H' g' rp ab'=>?_) hq⟩;exact⟨w,σ,G',rp,hs.mono g',ab',kU _ (unl G' w) σ G' _ _ (λσ2 G2 hq τ2 H2 g2 hs2 a2=>f.nx σ2 G2 τ2 H2 (g'.trans g2) hs2 a2 hq) hq⟩
theorem zfC (i j:Nat) (e:IE):OkS Γ p (.asgS i j e):=λM X x L h=>absurd h zzN
theorem zfD (o i e:IE):OkS Γ p (.asgI o i e):=by
 intro M X x L h;obtain⟨l,r,qs,v,q,rfl,h1,h2,h3,h4,h5⟩:=zeZ h
 .
  have pe:=(uE g e M X v L h5).1;have po:=(uE g o M X l L h3).1;have pi:=(uE g i M X r L h4).1;intro pins s τ H D I hq;obtain⟨σ,G,D3,hs,ab,f,hq⟩:=hq
  have q1:xW X.K (zI Γ XN e).e τ H λv H1=>xW X.K (zI Γ XN o).e τ H1 λov H2=>xW X.K (zI Γ XN i).e τ H2 λiv H3=>zfW X.K ov iv v H3 λH4=>D.nx τ H4:=by
   refine xJ (yU g.mono XN e) hs ab hq λw G1 v1 H1 g1 hs1 r1 a1 hq=>?_;refine xJ (yU g.mono XN o) hs1 a1 hq λx G2 v2 H2 g2 hs2 r2 a2 hq=>?_;refine xJ (yU g.mono XN i) hs2 a2 hq λy G3 v3 H3 g3 hs3 r3 a3 hq=>?_;exact⟨x,y,w,G3,r2.mono g3,r3,(r1.mono g2).mono g3,a3,zcl (λG4 hq H4 g4 a4=>f.nx σ G4 τ H4 (g1.trans (g2.trans (g3.trans g4))) (hs3.mono g4) a4 hq) hq⟩
  refine wpAny_Assign_Subscript (thn (pe pins s τ H _ I q1) λu1 s1 ⟨v1,H1,I1,r1,q1⟩=>thn (po pins s1 τ H1 _ I1 q1) λu2 s2 ⟨v2,H2,I2,r2,q2⟩=>thn (pi pins s2 τ H2 _ I2 q2) λu3 s3 ⟨v3,H3,I3,r3,q3⟩=>?_) (qA h1);exact thn (ziL (hu_X g L) pins s3 τ H3 v2 v3 v1 u2 u3 u1 _ I3 r2 r3 r1 q3) λ_ s4 ⟨H4,I4,q4⟩=>⟨τ,H4,I4,q4⟩
theorem zfE (o:IE) (f:Str) (e:IE):OkS Γ p (.asgA o f e):=λM X x L h=>absurd h zzN
theorem wV:OkS Γ p .retN/\OkS Γ p .pass/\OkS Γ p .brk/\OkS Γ p .cnt/\OkS Γ p .dead:=by
 refine⟨λM X x L h=>?_,λM X x L h=>?_,λM X x L h=>?_,λM X x L h=>?_,λM X x L h=>?_⟩
 .obtain ⟨q,rfl⟩:=zeV h;exact zgN.imp λD τ H hq=>by obtain⟨σ,G,D3,hs,ab,f,hq⟩:=hq;exact f.rt .non G _ H .refl (show xF X.K H .non .non from rfl) ab hq
 .obtain ⟨q,rfl⟩:=zeW h;exact zgO.imp λD τ H hq=>by obtain⟨σ,G,D3,hs,ab,f,hq⟩:=hq;exact f.nx σ G τ H .refl hs ab hq
 .obtain ⟨q,rfl⟩:=zhq h;exact zer.imp λD τ H hq=>by obtain⟨σ,G,D3,hs,ab,f,hq⟩:=hq;exact f.bk σ G τ H .refl hs ab hq
 .obtain ⟨q,rfl⟩:=zhn h;exact zan.imp λD τ H hq=>by obtain⟨σ,G,D3,hs,ab,f,hq⟩:=hq;exact f.ct σ G τ H .refl hs ab hq
 .exact zeq.imp λD τ H hq=>by obtain⟨σ,G,D3,hs,ab,f,hq⟩:=hq;exact hq.elim
theorem t_ex (e:IE):OkS Γ p (.ex e):=by
 intro M X x L h;obtain⟨v,q,rfl,hh⟩:=zj4 h
 .have h:=hh;refine(zgP (uE g e M X v L h.2).1 (qA h.1)).imp λD τ H hq=>?_;obtain⟨σ,G,D3,hs,ab,f,hq⟩:=hq;exact xJ (yU g.mono XN e) hs ab hq λw G1 v1 H1 g1 hs1 r1 a1 hq=>f.nx σ G1 τ H1 g1 hs1 a1 hq
theorem zis (e:IE):OkS Γ p (.ret e):=by
 intro M X x L h;obtain⟨v,q,rfl,hh⟩:=zhj h
 .have h:=hh;refine(zi5 (uE g e M X v L h).1).imp λD τ H hq=>?_;obtain⟨σ,G,D3,hs,ab,f,hq⟩:=hq;exact xJ (yU g.mono XN e) hs ab hq λw G1 v1 H1 g1 hs1 r1 a1 hq=>f.rt w G1 v1 H1 g1 r1 a1 hq
theorem zit (c:IE) (a b:ISs) (ha:OkSs Γ p a) (hb:OkSs Γ p b):OkS Γ p (.ite c a b):=by
 intro M X x L h;obtain⟨t,y,z,q,rfl,hh⟩:=zhl h
 .have h:=hh;refine(zi6 (uE g c M X t L h.1).2.1 (ha M X y L h.2.1) (hb M X z L h.2.2)).imp λD τ H hq=>?_;obtain⟨σ,G,D3,hs,ab,f,hq⟩:=hq;refine sR (uL g.mono XN c) hs ab hq λk G1 H1 g1 hs1 a1 hq=>?_
  split
  .rename_i hk;rw[if_pos hk] at hq;exact⟨σ,G1,D3,hs1,a1,f.grow g1,hq⟩
  .rename_i hk;rw[if_neg hk] at hq;exact⟨σ,G1,D3,hs1,a1,f.grow g1,hq⟩
theorem zir (c:IE) (b:ISs) (hb:OkSs Γ p b):OkS Γ p (.whl c b):=by
 intro M X x L h;obtain⟨t,y,q,rfl,hh⟩:=zhi h
 .have h:=hh;have hp:PassesOwn 'b' X.A X.env X.xe:=by rw[L.fits.xe];exact ZbV
  refine(zen hp (uE g c M X t L h.1).2.1 (hb M X y L h.2)).imp λD τ H hq=>?_;obtain⟨σ,G,D3,hs,ab,f,Pv,⟨m0,p0⟩,step⟩:=hq;refine⟨λm τ H'=>yO X.K H H'/\∃ σ G,yR X.K H' σ τ/\xP X.K H' G/\Pv m σ G,⟨m0,.refl,σ,G,hs,ab,p0⟩,?_⟩;rintro m τ1 H1 ⟨g1,σ1,G1,hs1,a1,p1⟩;refine sR (uL g.mono XN c) hs1 a1 (step m σ1 G1 p1) λk G2 H2 g2 hs2 a2 hq=>?_
  split
  .rename_i hk;rw[if_pos hk] at hq;refine⟨λτ' H'=>∃ m',m' < m/\yO X.K H H'/\∃ σ G,yR X.K H' σ τ'/\xP X.K H' G/\Pv m' σ G,λτ' H' z=>z,?_⟩;refine⟨σ1,G2,_,hs2,a2,⟨?_,?_,?_,?_⟩,hq⟩
   .rintro σ3 G3 τ3 H3 g3 hs3 a3 ⟨m',hm,p'⟩;exact⟨m',hm,g1.trans (g2.trans g3),σ3,G3,hs3,a3,p'⟩
   .exact λσ3 G3 τ3 H3 g3 hs3 a3 z=>f.nx σ3 G3 τ3 H3 (g1.trans (g2.trans g3)) hs3 a3 z
   .rintro σ3 G3 τ3 H3 g3 hs3 a3 ⟨m',hm,p'⟩;exact⟨m',hm,g1.trans (g2.trans g3),σ3,G3,hs3,a3,p'⟩
   .exact λw G3 v3 H3 g3 r3 a3 z=>f.rt w G3 v3 H3 (g1.trans (g2.trans g3)) r3 a3 z
  .rename_i hk;rw[if_neg hk] at hq;exact f.nx σ1 G2 τ1 H2 (g1.trans g2) hs2 a2 hq
theorem ziu (tg:ITg) (it:II) (b:ISs) (hb:OkSs Γ p b):OkS Γ p (.for tg it b):=by
 intro M X x L h;obtain⟨t,y,z,q,rfl,h1,h2,h3,h4⟩:=zhm h
 .
  have hp:PassesOwn 'b' X.A X.env X.xe:=by rw[L.fits.xe];exact ZbV
  refine(zfN hp L.fits.calm (sndI g it M X y L h3 t) (sndG L tg t h2) (hb M X z L h4) (kR h1)).imp λD τ H hq=>?_;obtain⟨σ,G,D3,hs,ab,f,hq⟩:=hq;refine⟨σ,G,hs,ab,zcO g.mono XN it σ G _ _ (λitems stab G1 hq J H1 g1 a1 ii=>?_) hq⟩;obtain⟨Pv,p0,pst,step,fin⟩:=hq;refine⟨λi m τ H'=>m+i=items.length/\yO X.K H1 H'/\∃ σ G,yR X.K H' σ τ/\xP X.K H' G/\Pv i σ G,⟨items.length,rfl,.refl,σ,G1,hs.mono g1,a1,p0⟩,?_⟩;rintro i m τ2 H2 ⟨hm,g2,σ2,G2,hs2,a2,p2⟩;have st:=pst i σ2 G2 p2 'f'
  by_cases hi:i<items.length
  .refine .inr ⟨ii.go i H2 G2 g2 a2 st hi,λτ' H'=>∃ m',m' < m/\(m'+(i+1)=items.length/\yO X.K H1 H'/\∃ σ G,yR X.K H' σ τ'/\xP X.K H' G/\Pv (i+1) σ G),λτ' H' z=>z,λx H' yl=>?_⟩;obtain⟨w,ew,g3,rp,a3⟩:=ii.yld i H2 G2 x H' g2 a2 st hi yl;refine⟨w,σ2,G2,rp,hs2.mono g3,a3,kU tg w σ2 G2 _ _ (λσ4 G4 hq τ4 H4 g4 hs4 a4=>?_) (step i w σ2 G2 ew p2)⟩;refine⟨σ4,G4,_,hs4,a4,⟨?_,?_,?_,?_⟩,hq⟩
   .exact λσ5 G5 τ5 H5 g5 hs5 a5 z=>⟨m-1,by omega,by omega,g2.trans (g3.trans (g4.trans g5)),σ5,G5,hs5,a5,z⟩
   .exact λσ5 G5 τ5 H5 g5 hs5 a5 z=>f.nx σ5 G5 τ5 H5 (g1.trans (g2.trans (g3.trans (g4.trans g5)))) hs5 a5 z
   .exact λσ5 G5 τ5 H5 g5 hs5 a5 z=>⟨m-1,by omega,by omega,g2.trans (g3.trans (g4.trans g5)),σ5,G5,hs5,a5,z⟩
   .exact λw5 G5 v5 H5 g5 r5 a5 z=>f.rt w5 G5 v5 H5 (g1.trans (g2.trans (g3.trans (g4.trans g5)))) r5 a5 z
  .have ei:i=items.length:=by omega
   subst ei;exact .inl ⟨ii.stop _ H2 G2 g2 a2 st (zzR _),f.nx σ2 G2 τ2 H2 (g1.trans g2) hs2 a2 (fin σ2 G2 p2)⟩
theorem zci (s:ISs):OkSs Γ p s :=
 ISs.rec (motive_1:=OkS Γ p) (motive_2:=OkSs Γ p) (ziv g) (zfB g) (zfD g) (zfE g) (t_ex g) (zis g) (wV g).1 (wV g).2.1 (wV g).2.2.1 (wV g).2.2.2.1
  (λc a b ha hb=>zit g c a b ha hb) (λc b hb=>zir g c b hb) (λtg it b hb=>ziu g tg it b hb) (wV g).2.2.2.2 (zfC g)
  (λM X x L h=>by
   cases zhk h;exact zcA.imp λD τ H hq=>by obtain⟨σ,G,D3,hs,ab,f,hq⟩:=hq;exact f.nx σ G τ H .refl hs ab hq)
  (λs ss hs1 hs2 M X x L h=>by
   obtain⟨y,ys,rfl,hh⟩:=zeX h
   .have h:=hh;refine(zaZ (hs1 M X y L h.1) (hs2 M X ys L h.2)).imp λD τ H hq=>?_;obtain⟨σ,G,D3,hs,ab,f,hq⟩:=hq;refine⟨σ,G,{D3 with nx:=zB Γ XN ss D3},hs,ab,⟨?_,f.bk,f.ct,f.rt⟩,hq⟩;exactλσ2 G2 τ2 H2 g2 hs2 a2 z=>⟨σ2,G2,D3,hs2,a2,f.grow g2,z⟩) s
end
end L3
namespace PySem
open Sem (wp)
section
variable {prog:Program} {w:World} {s:Shared} {A:Around} {E:VP}
noncomputable def itc (b:Bool):String:=if b then "tuple_iterator" else "list_iterator"
noncomputable def tN (b:Bool) (h:Heap) (i l:Addr) (k:Nat):Prop:=∃ o,h.get? i=some o/\o.cls=.type (itc b)/\o.data=.fields #[.ref l,.int k 0]
noncomputable def sK (b:Bool) (h:Heap) (l:Addr) (its:Array Value):Prop:=match b with
 |true=>h.IsTuple l its
 |false=>h.IsList l its
theorem tN.at {b:Bool} {h h':Heap} {i l:Addr} {k:Nat} (x:tN b h i l k) (e:∀ o,h.get? i=some o->h'.get? i=some o):tN b h' i l k:=let ⟨o,ho,r⟩:=x;⟨o,e _ ho,r⟩
theorem sK.at {b:Bool} {h h':Heap} {l:Addr} {its:Array Value} (x:sK b h l its) (e:∀ o,h.get? l=some o->h'.get? l=some o):sK b h' l its:=by
 cases b
 .obtain ⟨o,ho,r⟩:=x;exact⟨o,e _ ho,r⟩
 .obtain ⟨o,ho,r⟩:=x;exact⟨o,e _ ho,r⟩
theorem tN.eb {b:Bool} {h h':Heap} {i l c:Addr} {k:Nat} (x:tN b h i l k) (e:Heap.ExtBut c h h') (n:i≠c):tN b h' i l k:=x.at λo q=>e _ o n q
theorem sK.eb {b:Bool} {h h':Heap} {l c:Addr} {its:Array Value} (x:sK b h l its) (e:Heap.ExtBut c h h') (n:l≠c):sK b h' l its:=x.at λo q=>e _ o n q
theorem kM {b:Bool} {l:Addr} {its:Array Value} {Q:VP} (h:sK b s.heap l its)
  (hQ:Q (.ref s.heap.objs.size) {s with heap:=s.heap.push { cls:=.type (itc b),data:=.fields #[.ref l,.int 0 0]}}):wpAny 'd' A (pyIter (.ref l)) Q E s:=by
 cases b
 .exact Za5 h hQ
 .exact wpAny_pyIter_tuple h hQ
noncomputable abbrev zdv (it:Addr):Sem Value:=Builtin.SmallTypes.nextOf (.ref it)
theorem zfA {it:Addr} {Q:VP} (ty:s.TypeIs (.ref it) "tuple_iterator")
  (h:wpAny 'd' A.in1 (Builtin.«tuple_iterator.__next__» ⟨[.ref it],[]⟩) (λf s'=>∃ v,f=.done (.ret v)/\Q v s') E s) :
  wpAny 'd' A (zdv it) Q E s:=by
 have sl:=F.slot_tuple_iterator_next;apply Za;apply ZN ty sl;apply ZP sl ty F.entry_tuple_iterator_next _ (F.args_tuple_iterator_next_1 _);exact Zv h (λ_ _ ⟨v,e,q⟩=>⟨v,e,Zc q⟩) λ_ _ e=>e
theorem rF {it t:Addr} {i:Nat} {items} {x:Value} {Q:VP} (hit:s.heap.IsTupleIter it t i) (ht:s.heap.IsTuple t items) (hx:items[i]?=some x)
  (hQ:∀ h',h'.IsTupleIter it t (i+1)->Heap.SameBut it s.heap h'->Q x {s with heap:=h'}) :
  wpAny 'd' A (zdv it) Q E s:=by
 apply zfA hit.typeIs;obtain⟨⟨c,di,da,sl⟩,g1,c1,d1⟩:=hit;obtain⟨⟨c2,di2,da2,sl2⟩,g2,c2',n2,d2⟩:=ht;cases c1;cases d1;cases d2;obtain⟨hp,ge,dr,tk,os⟩:=s
 wp_walk using ZQ g2,ZQ g1
 rw[ZbC,hx]
 wp_walk using ZQ g1
 refine⟨x,rfl,hQ _ ⟨_,Zx _ g1 rfl,rfl,?_⟩ (.update ..)⟩;exact congrArg (λz=>Data.fields #[.ref t,z]) rfl
theorem pF {it t:Addr} {i:Nat} {items} {Q:VP} (hh:A.handled=none) (hit:s.heap.IsTupleIter it t i) (ht:s.heap.IsTuple t items) (hx:items[i]?=none)
  (hE:∀ g e,Heap.ExtBut it s.heap g->(∃ o,g.get? e=some o/\o.cls=.type "StopIteration")->E (.ref e) {s with heap:=g}) :
  wpAny 'd' A (zdv it) Q E s:=by
 apply zfA hit.typeIs;obtain⟨⟨c,di,da,sl⟩,g1,c1,d1⟩:=hit;obtain⟨⟨c2,di2,da2,sl2⟩,g2,c2',n2,d2⟩:=ht;cases c1;cases d1;cases d2;obtain⟨hp,ge,dr,tk,os⟩:=s;have hh':A.in1.handled=none:=hh
 wp_walk using ZQ g2,ZQ g1
 rw[ZbC,hx]
 wp_walk using ZQ g1
 unfold raiseNew
 wp_walk
 exact hE _ _ (λb o n z=>Zb _ (Zb _ ((ZD ..).extBut b o n z))) ⟨_,Zl _ rfl,rfl⟩
theorem jI {b:Bool} {it l:Addr} {i:Nat} {items:Array Value} {x:Value} {Q:VP} (hit:tN b s.heap it l i) (hl:sK b s.heap l items) (hx:items[i]?=some x)
  (hQ:∀ h',tN b h' it l (i+1)->Heap.SameBut it s.heap h'->Q x {s with heap:=h'}):wpAny 'd' A (Builtin.SmallTypes.nextOf (.ref it)) Q E s:=by
 cases b
 .exact wpAny_nextOf_list_item hit hl hx hQ
 .exact rF hit hl hx hQ
theorem tK {b:Bool} {it l:Addr} {i:Nat} {items:Array Value} {Q:VP} (hh:A.handled=none) (hit:tN b s.heap it l i) (hl:sK b s.heap l items) (hx:items[i]?=none)
  (hE:∀ h' e,Heap.ExtBut it s.heap h'->(∃ o,h'.get? e=some o/\o.cls=.type "StopIteration")->E (.ref e) {s with heap:=h'}):wpAny 'd' A (Builtin.SmallTypes.nextOf (.ref it)) Q E s:=by
 cases b
 .exact wpAny_nextOf_list_end hh hit hl hx hE
 .exact pF hh hit hl hx hE
noncomputable abbrev IsZ (h:Heap) (z TI TO:Addr) (f0 f1:Value):Prop :=
 h.get? z=some { cls:=.type "zip", dict:=none,data:=.fields #[f0,f1,.bool false,.ref TI,.ref TO],slots:=#[]}
end
noncomputable abbrev zpH1 (a:Bool) (h:Heap) (l1:Addr):Heap:=h.push { cls:=.type (itc a),data:=.fields #[.ref l1,.int 0 0]}
noncomputable abbrev zpH2 (a b:Bool) (h:Heap) (l1 l2:Addr):Heap:=(zpH1 a h l1).push { cls:=.type (itc b),data:=.fields #[.ref l2,.int 0 0]}
noncomputable abbrev zpH3 (a b:Bool) (h:Heap) (l1 l2:Addr):Heap:=(zpH2 a b h l1 l2).push { cls:=.type "tuple", data:=.seq #[.ref h.objs.size,.ref (zpH1 a h l1).objs.size]}
noncomputable abbrev zpH4 (a b:Bool) (h:Heap) (l1 l2:Addr):Heap:=(zpH3 a b h l1 l2).push { cls:=.type "tuple", data:=.seq #[.none,.none]}
noncomputable abbrev zpH5 (a b:Bool) (h:Heap) (l1 l2:Addr):Heap:=(zpH4 a b h l1 l2).push { cls:=.type "zip", data:=.fields #[.none,.bool false,.bool false,.ref (zpH2 a b h l1 l2).objs.size,.ref (zpH3 a b h l1 l2).objs.size]}
theorem bM (a b:Bool) (l1 l2:Addr) (xs ys:Array Value) :
  Meets (Builtin.«zip.__new__» ⟨[.type "zip", .ref l1,.ref l2],[]⟩) (λ_ R s=>sK a s.heap l1 xs/\sK b s.heap l2 ys /\
   R (.ok (.ret (.ref (zpH4 a b s.heap l1 l2).objs.size))) {s with heap:=zpH5 a b s.heap l1 l2}) :=
 .of_wp λprog w A R st ⟨hl1,hl2,h⟩=>by
  obtain⟨hp,g,d,tk,os⟩:=st;have hsub:=sub_zip;have hL1:sK a (Shared.heap ⟨hp,g,d,tk,os⟩) l1 xs:=hl1;have hL2:sK b (Shared.heap ⟨hp.push { cls:=.type (itc a),data:=.fields #[.ref l1,.int 0 0]},g,d,tk,os⟩) l2 ys:=hl2.at λo e=>Zb _ e
  wp_walk using kM hL1,kM hL2
  exact⟨_,rfl,h⟩
section
variable {prog:Program} {w:World} {s:Shared} {A:Around} {E:VP}
theorem zh3 {a b:Bool} {l1 l2:Addr} {xs ys:Array Value} {Q:VP} (hl1:sK a s.heap l1 xs) (hl2:sK b s.heap l2 ys)
  (h:∀ h',IsZ h' (s.heap.objs.size+4) (s.heap.objs.size+2) (s.heap.objs.size+3) .none (.bool false)->IsPair h' (s.heap.objs.size+2) (.ref s.heap.objs.size) (.ref (s.heap.objs.size+1)) ->
   IsPair h' (s.heap.objs.size+3) .none .none->tN a h' s.heap.objs.size l1 0->tN b h' (s.heap.objs.size+1) l2 0->h'.objs.size=s.heap.objs.size+5->(∀ c o,s.heap.get? c=some o->h'.get? c=some o)->Q (.ref (s.heap.objs.size+4)) {s with heap:=h'}):wpAny 'd' A (call (.type "zip") [.ref l1,.ref l2]) Q E s:=by
 apply callType_new F.called_zip 'c' (F.typeCall_zip_2 _ _) (F.newCall_zip_2 _ _) (λo=>F.args_object_init_3 o _ _) F.entry_zip_new (bM a b l1 l2 xs ys);refine⟨hl1,hl2,?_⟩;have z1:(zpH1 a s.heap l1).objs.size=s.heap.objs.size+1:=ZH ..;have z2:(zpH2 a b s.heap l1 l2).objs.size=s.heap.objs.size+2:=by rw[ZH,z1]
 have z3:(zpH3 a b s.heap l1 l2).objs.size=s.heap.objs.size+3:=by rw[ZH,z2]
 have z4:(zpH4 a b s.heap l1 l2).objs.size=s.heap.objs.size+4:=by rw[ZH,z3]
 have z5:(zpH5 a b s.heap l1 l2).objs.size=s.heap.objs.size+5:=by rw[ZH,z4]
 have g5:(zpH5 a b s.heap l1 l2).get? (zpH4 a b s.heap l1 l2).objs.size=some _:=Zl _ rfl;have g4:(zpH5 a b s.heap l1 l2).get? (zpH3 a b s.heap l1 l2).objs.size=some _:=Zb _ (Zl _ rfl);have g3:(zpH5 a b s.heap l1 l2).get? (zpH2 a b s.heap l1 l2).objs.size=some _:=Zb _ (Zb _ (Zl _ rfl));have g2:(zpH5 a b s.heap l1 l2).get? (zpH1 a s.heap l1).objs.size=some _:=Zb _ (Zb _ (Zb _ (Zl _ rfl)));have g1:(zpH5 a b s.heap l1 l2).get? s.heap.objs.size=some _:=Zb _ (Zb _ (Zb _ (Zb _ (Zl _ rfl))));show _/\_;rw[z2,z3,z4] at g5;rw[z1,z2] at g3;rw[z3] at g4;rw[z1] at g2;rw[z4];refine⟨⟨_,g5,rfl⟩,h _ g5 g3 g4 ⟨_,g1,rfl,rfl⟩ ⟨_,g2,rfl,rfl⟩ z5 λc o x=>?_⟩
 iterate 5 refine Zb _ ?_
 exact x
end
end PySem
namespace PySem
open Sem (wp)
section
variable {prog:Program} {w:World} {s:Shared} {A:Around} {E:VP}
theorem kF {M:Model} {a:Addr} {Q:Option Obj->Shared->Prop} (h:Q (s.heap.get? a) s):wpAny M A (loadIfAlive a) Q E s:=λΓ p hΓ=>by
 unfold loadIfAlive;rw[Sem.wp_loadIfAlive];exact Zc h Γ p hΓ
noncomputable abbrev zdW (z:Addr):Sem Fin:=Builtin.«zip.__next__» ⟨[.ref z],[]⟩
noncomputable abbrev zie (Q:VP) (f:Fin) (s:Shared):Prop:=∃ v,f=.done (.ret v)/\Q v s
noncomputable abbrev But4 (z TO i1 i2:Addr) (h h':Heap):Prop:=∀ c o,c≠z->c≠TO->c≠i1->c≠i2->h.get? c=some o->h'.get? c=some o
noncomputable abbrev zge (h:Heap) (e:Addr):Prop:=∃ o,h.get? e=some o/\o.cls=.type "StopIteration"
noncomputable def Stp (p:Prop):Prop:=p
theorem wU {M:Model} {v:Value} {Q:VP} (h:Stp (wpAny M A (Builtin.SmallTypes.nextOf v) Q E s)):wpAny M A (Builtin.SmallTypes.nextOf v) Q E s:=h
theorem za1 {z TI TO:Addr} {f0 f1:Value} {Q:Bool->Shared->Prop} (hz:IsZ s.heap z TI TO f0 f1) (hfr:f0=.none\/∃ T:Addr,f0=rawInt T/\s.heap.get? T=none) (h:Q true s) :
  wpAny 'd' A (Builtin.SmallTypes.ownedTupleIsFree (.ref z)) Q E s:=by
 obtain⟨hp,ge,dr,tk,os⟩:=s;obtain rfl|⟨T,rfl,d⟩:=hfr<;>wp_walk using kF<;>exact h
theorem za0 {z TI TO T:Addr} {f1:Value} {o:Obj} {Q:Bool->Shared->Prop} (hz:IsZ s.heap z TI TO (rawInt T) f1) (hf:f1=.bool false\/f1=.bool true) (hT:s.heap.get? T=some o)
  (h:∀ h',IsZ h' z TI TO (rawInt T) (.bool true)->Heap.SameBut z s.heap h'->Q false {s with heap:=h'}) :
  wpAny 'd' A (Builtin.SmallTypes.ownedTupleIsFree (.ref z)) Q E s:=by
 obtain⟨hp,ge,dr,tk,os⟩:=s;obtain rfl|rfl:=hf<;>wp_walk using kF
 .exact h _ (Zx _ hz rfl) (.update ..)
 .exact h _ hz (.refl ..)
theorem zgi {a b:Bool} {z TI TO i1 i2 l1 l2:Addr} {k1 k2:Nat} {xs ys:Array Value} {x y u v f0 f1:Value} {Q:VP} (D:ZipApart z TI TO i1 i2 l1 l2)
  (hfr:f0=.none\/∃ T:Addr,f0=rawInt T/\s.heap.get? T=none) (hz:IsZ s.heap z TI TO f0 f1) (hTI:IsPair s.heap TI (.ref i1) (.ref i2)) (hTO:IsPair s.heap TO u v)
  (h1:tN a s.heap i1 l1 k1) (h2i:tN b s.heap i2 l2 k2) (hl1:sK a s.heap l1 xs) (hl2:sK b s.heap l2 ys) (hx:xs[k1]?=some x) (hy:ys[k2]?=some y)
  (hQ:∀ h',IsZ h' z TI TO (rawInt s.heap.objs.size) (.bool false)->IsPair h' TO x y->tN a h' i1 l1 (k1+1)->tN b h' i2 l2 (k2+1)->IsPair h' s.heap.objs.size x y->h'.objs.size=s.heap.objs.size+1 ->
   But4 z TO i1 i2 s.heap h'->Q (.ref s.heap.objs.size) {s with heap:=h'}) :
  wpAny 'd' A (zdW z) (zie Q) E s:=by
 wp_walk using wU,za1 hz hfr,ZbM
 have b1:=(ZD (h:=s.heap) (a:=z) (f:=Obj.mapFields λx=>x.setIfInBounds 0 .ellipsis)).extBut;refine jI (h1.eb b1 D.i1z) (hl1.eb b1 D.l1z) hx λh2 q1 k2=>?_;have t2:IsPair h2 TO u v:=k2.extBut _ _ D.TOi1 (b1 _ _ D.TOz hTO);have z2:IsZ h2 z TI TO .ellipsis f1:=k2.extBut _ _ D.i1z.symm (Zx _ hz rfl)
 wp_walk using wU,ZbM
 have b3:=(ZD h2 TO (Obj.mapSeq λe=>e.setIfInBounds 0 x)).extBut;have c3:∀ c o,c≠z->c≠TO->c≠i1->s.heap.get? c=some o->(h2.update TO (Obj.mapSeq λe=>e.setIfInBounds 0 x)).get? c=some o:=λc o n1 n2 n3 e=>b3 _ _ n2 (k2.extBut _ _ n3 (b1 _ _ n1 e));refine jI (h2i.at λo e=>c3 _ o D.i2z D.TOi2.symm D.i12.symm e) (hl2.at λo e=>c3 _ o D.l2z D.l2TO D.l2i1 e) hy λh4 q2 k4=>?_;have t4:IsPair h4 TO x v:=k4.extBut _ _ D.TOi2 (Zx _ t2 rfl);have z4:IsZ h4 z TI TO .ellipsis f1:=k4.extBut _ _ D.i2z.symm (b3 _ _ D.TOz.symm z2);have n1:=D.TOz
 wp_walk
 have b5:=(ZD h4 TO (Obj.mapSeq λe=>e.setIfInBounds (0+1) y)).extBut;have t5:IsPair (h4.update TO (Obj.mapSeq λe=>e.setIfInBounds (0+1) y)) TO x y:=Zx _ t4 rfl;have z5:=b5 _ _ n1.symm z4;have m5:(h4.update TO (Obj.mapSeq λe=>e.setIfInBounds (0+1) y)).objs.size=s.heap.objs.size:=by rw[Zac,k4.1,Zac,k2.1,Zac]
 have c5:∀ c o,c≠z->c≠TO->c≠i1->c≠i2->s.heap.get? c=some o->(h4.update TO (Obj.mapSeq λe=>e.setIfInBounds (0+1) y)).get? c=some o:=λc o n1 n2 n3 n4 e=>b5 _ _ n2 (k4.extBut _ _ n4 (c3 _ _ n1 n2 n3 e));have q15:=((q1.eb b3 D.TOi1.symm).eb k4.extBut D.i12).eb b5 D.TOi1.symm;have q25:=q2.eb b5 D.TOi2.symm;generalize h4.update TO (Obj.mapSeq λe=>e.setIfInBounds (0+1) y)=h5 at *;rw[m5]
 have b6:∀ c o,c≠z->h5.get? c=some o->(((h5.push { cls:=.type "tuple", data:=.seq #[x,y]}).update z (Obj.mapFields λe=>e.setIfInBounds 0 (rawInt s.heap.objs.size))).update z (Obj.mapFields λe=>e.setIfInBounds 1 (.bool false))).get? c=some o :=
  λc o n e=>(ZD ..).extBut _ _ n ((ZD ..).extBut _ _ n (Zb _ e))
 refine⟨_,rfl,hQ _ (Zx _ (Zx _ (Zb _ z5) rfl) rfl) (b6 _ _ n1 t5) (q15.at λo e=>b6 _ o D.i1z e) (q25.at λo e=>b6 _ o D.i2z e) ?_ ?_ λc o n1 n2 n3 n4 e=>b6 c o n1 (c5 c o n1 n2 n3 n4 e)⟩
 .have:=Zd z5;rw[m5] at this;refine(ZD ..).extBut _ _ (Z3 this) ((ZD ..).extBut _ _ (Z3 this) ?_);exact m5▸Zl _ rfl
 .rw[Zac,Zac,ZH,m5]
theorem zgh {a b:Bool} {z TI TO i1 i2 l1 l2 T:Addr} {k1 k2:Nat} {xs ys:Array Value} {x y u v f1:Value} {oT:Obj} {Q:VP} (D:ZipApart z TI TO i1 i2 l1 l2) (hf:f1=.bool false\/f1=.bool true)
  (hz:IsZ s.heap z TI TO (rawInt T) f1) (hT:s.heap.get? T=some oT) (hTI:IsPair s.heap TI (.ref i1) (.ref i2)) (hTO:IsPair s.heap TO u v)
  (h1:tN a s.heap i1 l1 k1) (h2i:tN b s.heap i2 l2 k2) (hl1:sK a s.heap l1 xs) (hl2:sK b s.heap l2 ys) (hx:xs[k1]?=some x) (hy:ys[k2]?=some y)
  (hQ:∀ h',IsZ h' z TI TO (rawInt T) (.bool true)->tN a h' i1 l1 (k1+1)->tN b h' i2 l2 (k2+1)->IsPair h' s.heap.objs.size x y->h'.objs.size=s.heap.objs.size+1 ->
   (∀ c o,c≠z->c≠i1->c≠i2->s.heap.get? c=some o->h'.get? c=some o)->Q (.ref s.heap.objs.size) {s with heap:=h'}) :
  wpAny 'd' A (zdW z) (zie Q) E s:=by
 wp_walk using wU,za0 hz hf hT
 intro g z1 j1
 wp_walk using wU
 refine jI (h1.eb j1.extBut D.i1z) (hl1.eb j1.extBut D.l1z) hx λh2 q1 k2=>?_
 wp_walk using wU
 have c2:∀ c o,c≠z->c≠i1->s.heap.get? c=some o->h2.get? c=some o:=λc o n1 n2 e=>k2.extBut _ _ n2 (j1.extBut _ _ n1 e);refine jI (h2i.at λo e=>c2 _ o D.i2z D.i12.symm e) (hl2.at λo e=>c2 _ o D.l2z D.l2i1 e) hy λh3 q2 k3=>?_
 wp_walk
 have m:h3.objs.size=s.heap.objs.size:=by rw[k3.1,k2.1,j1.1]
 have p:∀ c o,h3.get? c=some o->(h3.push { cls:=.type "tuple", data:=.seq #[x,y]}).get? c=some o:=λc o e=>Zb _ e;rw[m];refine⟨_,rfl,hQ _ (p _ _ (k3.extBut _ _ D.i2z.symm (k2.extBut _ _ D.i1z.symm z1))) ((q1.eb k3.extBut D.i12).at (p _)) (q2.at (p _)) ?_ ?_ λc o n1 n2 n3 e=>p _ _ (k3.extBut _ _ n3 (c2 _ _ n1 n2 e))⟩
 .exact m▸Zl _ rfl
 .rw[ZH,m]
theorem rV {a b:Bool} {z TI TO i1 i2 l1 l2:Addr} {k1 k2:Nat} {xs ys:Array Value} {u v f0 f1:Value} {Q:Fin->Shared->Prop} (hh:A.handled=none) (D:ZipApart z TI TO i1 i2 l1 l2)
  (hfr:f0=.none\/∃ T:Addr,f0=rawInt T/\s.heap.get? T=none) (hz:IsZ s.heap z TI TO f0 f1) (hTI:IsPair s.heap TI (.ref i1) (.ref i2)) (hTO:IsPair s.heap TO u v)
  (h1:tN a s.heap i1 l1 k1) (h2i:tN b s.heap i2 l2 k2) (hl1:sK a s.heap l1 xs) (hl2:sK b s.heap l2 ys) (hend:xs[k1]?=none\/ys[k2]?=none)
  (hE:∀ h' e,But4 z TO i1 i2 s.heap h'->zge h' e->E (.ref e) {s with heap:=h'}) :
  wpAny 'd' A (zdW z) Q E s:=by
 wp_walk using wU,za1 hz hfr,ZbM
 have b1:=(ZD (h:=s.heap) (a:=z) (f:=Obj.mapFields λx=>x.setIfInBounds 0 .ellipsis)).extBut;have z1:IsZ (s.heap.update z (Obj.mapFields λx=>x.setIfInBounds 0 .ellipsis)) z TI TO .ellipsis f1:=Zx _ hz rfl
 have fin:∀ (g:Heap) e,IsZ g z TI TO .ellipsis f1->(∃ o,g.get? e=some o/\o.cls=.type "StopIteration") ->
   ∃ o,(g.update z (Obj.mapFields λx=>x.setIfInBounds 0 .none)).get? e=some o/\o.cls=.type "StopIteration" := by
  rintro g e zg ⟨o,he,ce⟩;refine⟨o,(ZD ..).extBut _ _ ?_ he,ce⟩;rintro rfl;cases he.symm.trans zg;simp at ce
 cases hx:xs[k1]? with
 |none =>
  refine tK hh (h1.eb b1 D.i1z) (hl1.eb b1 D.l1z) hx λg e k he=>?_;have zg:IsZ g z TI TO .ellipsis f1:=k _ _ D.i1z.symm z1
  wp_walk
  exact hE _ e (λc o n1 _ n3 _ q=>(ZD ..).extBut _ _ n1 (k _ _ n3 (b1 _ _ n1 q))) (fin _ _ zg he)
 |some x =>
  have hy:=hend.resolve_left (by rw[hx];exact Option.some_ne_none x);refine jI (h1.eb b1 D.i1z) (hl1.eb b1 D.l1z) hx λh2 q1 k2=>?_;have t2:IsPair h2 TO u v:=k2.extBut _ _ D.TOi1 (b1 _ _ D.TOz hTO);have z2:IsZ h2 z TI TO .ellipsis f1:=k2.extBut _ _ D.i1z.symm z1
  wp_walk using wU,ZbM
  have b3:=(ZD h2 TO (Obj.mapSeq λe=>e.setIfInBounds 0 x)).extBut;have c3:∀ c o,c≠z->c≠TO->c≠i1->s.heap.get? c=some o->(h2.update TO (Obj.mapSeq λe=>e.setIfInBounds 0 x)).get? c=some o:=λc o n1 n2 n3 e=>b3 _ _ n2 (k2.extBut _ _ n3 (b1 _ _ n1 e));refine tK hh (h2i.at λo e=>c3 _ o D.i2z D.TOi2.symm D.i12.symm e) (hl2.at λo e=>c3 _ o D.l2z D.l2TO D.l2i1 e) hy λg e k he=>?_;have zg:IsZ g z TI TO .ellipsis f1:=k _ _ D.i2z.symm (b3 _ _ D.TOz.symm z2)
  wp_walk
  exact hE _ e (λc o n1 n2 n3 n4 q=>(ZD ..).extBut _ _ n1 (k _ _ n4 (c3 _ _ n1 n2 n3 q))) (fin _ _ zg he)
theorem zae {a b:Bool} {z TI TO i1 i2 l1 l2 T:Addr} {k1 k2:Nat} {xs ys:Array Value} {u v f1:Value} {oT:Obj} {Q:Fin->Shared->Prop} (hh:A.handled=none) (D:ZipApart z TI TO i1 i2 l1 l2) (hf:f1=.bool false\/f1=.bool true)
  (hz:IsZ s.heap z TI TO (rawInt T) f1) (hT:s.heap.get? T=some oT) (hTI:IsPair s.heap TI (.ref i1) (.ref i2)) (hTO:IsPair s.heap TO u v)
  (h1:tN a s.heap i1 l1 k1) (h2i:tN b s.heap i2 l2 k2) (hl1:sK a s.heap l1 xs) (hl2:sK b s.heap l2 ys) (hend:xs[k1]?=none\/ys[k2]?=none)
  (hE:∀ h' e,But4 z TO i1 i2 s.heap h'->zge h' e->E (.ref e) {s with heap:=h'}) :
  wpAny 'd' A (zdW z) Q E s:=by
 wp_walk using wU,za0 hz hf hT
 intro g z1 j1
 wp_walk using wU
 cases hx:xs[k1]? with
 |none =>
  refine tK hh (h1.eb j1.extBut D.i1z) (hl1.eb j1.extBut D.l1z) hx λg' e k he=>?_;exact hE _ e (λc o n1 _ n3 _ q=>k _ _ n3 (j1.extBut _ _ n1 q)) he
 |some x =>
  have hy:=hend.resolve_left (by rw[hx];exact Option.some_ne_none x);refine jI (h1.eb j1.extBut D.i1z) (hl1.eb j1.extBut D.l1z) hx λh2 q1 k2=>?_
  wp_walk using wU
  have c2:∀ c o,c≠z->c≠i1->s.heap.get? c=some o->h2.get? c=some o:=λc o n1 n2 e=>k2.extBut _ _ n2 (j1.extBut _ _ n1 e);refine tK hh (h2i.at λo e=>c2 _ o D.i2z D.i12.symm e) (hl2.at λo e=>c2 _ o D.l2z D.l2i1 e) hy λg' e k he=>?_;exact hE _ e (λc o n1 _ n3 n4 q=>k _ _ n4 (c2 _ _ n1 n3 q)) he
end
end PySem
namespace L2
open PySem PySem.Spec PyProof.Rows
structure TurnL (P:Program) (w:World) (K:PySem.W.Frag) (T:String) (J:It) (fp:List Addr) (it:Addr) (tn:Nat->Heap->Prop):Prop where
 mem:it∈fp
 ty:∀ i h,tn i h->∃ o,h.get? it=some o/\o.cls=.type T
 obj:∀ i h,tn i h->∀ b∈fp,∃ o,h.get? b=some o/\∀ v,o.data≠.cell v
 keep:∀ i h h',tn i h->(∀ b∈fp,∀ o,h.get? b=some o->h'.get? b=some o)->tn i h'
 item:∀ (X:Cx),X.prog=P->X.w=w->X.K=K->X.calm=true->∀ (i:Nat) (pins:PL) (s:Shared) (σ:St) (H:Hp) (E:VP),Inv X pins σ H s->(∀ b∈fp,qU X pins H b)->tn i s.heap->J.go i H ->
  wpAny (model P w) X.A (pyNext (.ref it)) (λr s2=>∃ u x H',r=some u/\Inv X pins σ H' s2/\yV x u/\J.yld i H x H'/\tn (i+1) s2.heap/\∀ b∈fp,H' b=none) E s
 done:∀ (X:Cx),X.prog=P->X.w=w->X.K=K->X.calm=true->∀ (i:Nat) (pins:PL) (s:Shared) (σ:St) (H:Hp) (E:VP),Inv X pins σ H s->(∀ b∈fp,qU X pins H b)->tn i s.heap->J.stop i H ->
  wpAny (model P w) X.A (pyNext (.ref it)) (λr s1=>r=none/\Inv X pins σ H s1) E s
 self:∀ (A:Around) (i:Nat) (s:Shared) (Q:VP) (E:VP),tn i s.heap->Q (.ref it) s->wpAny (model P w) A (pyIter (.ref it)) Q E s
 hint:∀ (A:Around) (i:Nat) (s:Shared) (Q:Bool->Shared->Prop) (E:VP),tn i s.heap->(∀ b,Q b s)->wpAny (model P w) A (Builtin.List.listLengthHint (.ref it)) Q E s
noncomputable abbrev Cx.atA (X:Cx) (A:Around):Cx:={X with A:=A}
theorem Cx.Ok.atA {X:Cx} (ok:X.Ok) {A:Around} (hf:A.frames=X.A.frames) (hh:A.handled=X.A.handled):(X.atA A).Ok :=
 ⟨ok.mod,ok.kind,ok.glob,ok.blt,ok.above,ok.inj,ok.has,ok.cab,λz=>hh.trans (ok.hd z),hf.trans ok.frames,ok.stk,ok.exf,ok.bs,ok.bsz,ok.noex,ok.exfs,ok.funs,ok.frf⟩
section
variable {X:Cx} {pins:PL} {σ:St} {H:Hp} {s:Shared}
theorem Inv.atA (I:Inv X pins σ H s) {A:Around} (hf:A.frames=X.A.frames) (hh:A.handled=X.A.handled):Inv (X.atA A) pins σ H s :=
 ⟨I.ok.atA hf hh,I.os,I.bare,I.base,I.loc,I.cell,I.free,I.freeC,I.pin,I.hok,I.len,I.tk⟩
theorem Inv.unA {A:Around} (hf:A.frames=X.A.frames) (hh:A.handled=X.A.handled) (I:Inv (X.atA A) pins σ H s):Inv X pins σ H s :=
 ⟨Cx.Ok.atA (X:=X.atA A) (A:=X.A) I.ok hf.symm hh.symm,I.os,I.bare,I.base,I.loc,I.cell,I.free,I.freeC,I.pin,I.hok,I.len,I.tk⟩
theorem zfe {P:Program} {w:World} {A:Around} {R:Result->Shared->Prop} (S I:Addr) (res:Value) (Jn:Nat->Shared->Prop)
  (step:∀ k s,Jn k s->wpAny (model P w) A.in1 (pyNext (.ref I)) (λr s'=>match r with
   |none=>R (.ok (.ret res)) s'
   |some v=>∃ its c,s'.heap.get? S=some (xI its c)/\its.length<sizeLine/\∀ h',Heap.SameBut S s'.heap h'->h'.get? S=some (xI (its++[v]) (c+1))->∃ k',k' < k/\Jn k' {s' with heap:=h'}) (λe s'=>R (.error e) s') s) :
  ∀ k s,Jn k s->codeAny (model P w) A (.builtin "list.extend.loop" ⟨[.ref S,.ref I,res],[]⟩) R s:=by
 intro k
 induction k using Nat.strongRecOn with
 |_ k ih =>
  intro s j;refine codeAny_builtin F.entry_extend_loop ?_;rw[Around.under_plainId ZaN _];show wpAny _ A.in1 (pyNext (.ref I) >>= _) _ _ s;refine Za (thn (step k s j) λr s' q=>?_)
  cases r with
  |none=>exact Zc q
  |some v =>
   obtain⟨its,c,hS,hl,q⟩:=q;show wpAny _ A.in1 (updateSeq S (·.push v) >>= _) _ _ _;refine Za ?_;obtain⟨k',hk,j'⟩:=q _ (ZD ..) (by exact(Zx (Obj.mapSeq (·.push v)) hS rfl).trans (by simp[Obj.mapSeq,xI]));exact ZaG hS rfl (Zc ⟨Zb4 ZaN _,ih k' hk _ j'⟩) (by show its.toArray.size<=sizeLine;rw[zzS];omega) (by show(its.toArray.push v).size<=sizeLine+1;rw[Array.size_push,zzS];omega)
theorem Inv.adopt {a:Addr} {o:HO} (I:Inv X pins σ H s) (off:Off X pins a) (hn:H a=none) (new:xK X.prog X.w (yG H a o) s.heap a o):Inv X pins σ (yG H a o) s:=by
 have b:=I.base;have nb:∀ b' ob,X.s₀.heap.get? b'=some ob->b'≠a:=λb' ob e=>Zo (Zj (Zd e) off.ge);refine⟨I.ok,I.os,I.bare,⟨b.keep,b.slot,λc ob e n hx=>?_,b.there,λc xs e=>?_,λc ob u e=>?_,λc ps e=>?_⟩,I.loc,I.cell,?_,λx c e=>?_,λp hp=>?_,I.hok.adopt (λc u v _ q=>q) hn new,I.len,I.tk⟩
 .rw[zA (nb c ob e)];exact b.free c ob e n hx
 .rw[zA (yP (b.tups c xs e) hn)];exact b.tups c xs e
 .rw[zA (yP (b.frzs c ob u e) hn)];exact b.frzs c ob u e
 .obtain ⟨mo,e'⟩:=b.tbls c ps e;exact⟨mo,by rw[zA (yP e' hn)];exact e'⟩
 .rw[zA off.ne.symm];exact I.free
 .rw[zA (off.cl x c e)];exact I.freeC x c e
 .obtain ⟨q1,q2,q3⟩:=I.pin p hp;exact⟨q1,by rw[zA (off.pn p hp)];exact q2,q3⟩
theorem zcW (hc:X.calm=true) {T:String} {J:It} {fp:List Addr} {it:Addr} {tn:Nat->Heap->Prop} {Q:VK} (hTl:(Value.type T==Value.type "list")=false) (hTt:(Value.type T==Value.type "tuple")=false)
  (I:Inv X pins σ H s) (Tn:TurnL X.prog X.w X.K T J fp it tn) (t0:tn 0 s.heap) (hf:∀ b∈fp,qU X pins H b) (n:Nat) (hn:n<=sizeLine) (W:Nat->List V->Hp->Prop) (w0:W 0 [] H)
  (wgo:∀ i acc H,i<n->W i acc H->J.go i H/\∀ x H',J.yld i H x H'->W (i+1) (acc++[x]) H') (wst:∀ acc H,W n acc H->J.stop n H/\∀ p,H p=none->Q (.ref p) (yG H p (.lst acc))) :
  wpAny 'b' X.A (call (.type "list") [.ref it]) (EP X pins σ Q) X.xe s:=by
 have hfp:∀ b∈fp,b<s.heap.objs.size:=λb hb=>by
  obtain⟨o,e,_⟩:=Tn.obj _ _ t0 b hb;exact Zd e
 have hSf:∀ b∈fp,b≠s.heap.objs.size:=λb hb=>Zo (hfp b hb);have hSI:s.heap.objs.size≠it:=(hSf it Tn.mem).symm;have off:Off X pins s.heap.objs.size:=I.off (zzR _);have nfs:s.heap.objs.size∉X.fs:=I.nofs (zzR _);have fr0:∀ b∈fp,H b=none:=λb hb=>(hf b hb).1;have HS0:H s.heap.objs.size=none:=I.hok.fresh (zzR _)
 have fpok:∀ {H':Hp} {ob:Obj},(∀ b∈fp,H' b=none)->∀ b∈fp,qU X ((s.heap.objs.size,ob)::pins) H' b:=λ{H' ob} hn b hb=>by
  obtain⟨q1,q2,q3,q4,q5,q6⟩:=hf b hb;refine⟨hn b hb,q2,q3,q4,q5,λp hp=>?_⟩;rcases ZA.mp hp with hp|hp
  .exact q6 p (Zs _ hp)
  .rcases Zh.mp hp with rfl|hp
   .exact (hSf b hb).symm
   .exact q6 p (Zk _ hp)
 have pinS:∀ {H':Hp} {s':Shared} {its:List Value} {c:Nat},Inv X pins σ H' s'->H' s.heap.objs.size=none->s'.heap.get? s.heap.objs.size=some (xI its c)->Inv X ((s.heap.objs.size,xI its c)::pins) σ H' s':=λ{H' s' its c} I' hn e =>
  I'.pins_of λp hp=>by
   rcases Zh.mp hp with rfl|hp
   .exact ⟨e,hn,off.ne,nfs,λv z=>nomatch z⟩
   .exact I'.pin p (Zk _ hp)
 have unpin:∀ {H':Hp} {s':Shared} {ob:Obj},Inv X ((s.heap.objs.size,ob)::pins) σ H' s'->Inv X pins σ H' s':=λ{H' s' ob} I'=>I'.pins_of λp hp=>I'.pin p (Zk _ (Zi _ hp))
 refine callType_codes (Q₁:=λobj s₁=>obj=.ref s.heap.objs.size/\s₁={s with heap:=s.heap.push { cls:=.type "list", data:=.seq #[]}}) F.called_list (F.typeCall_list_1 _) F.entry_list_init
  (code_list_new _ ⟨rfl,rfl⟩) λobj s₁ h₁=>?_
 obtain⟨rfl,rfl⟩:=h₁;have hS:(s.heap.push { cls:=.type "list", data:=.seq #[]}).get? s.heap.objs.size=some { cls:=.type "list", data:=.seq #[]}:=Zl _ rfl;refine⟨⟨_,hS,rfl⟩,F.args_list_init_2 _ _,?_⟩
 have loop:∀ (h':Heap) (c:Nat),h'.get? s.heap.objs.size=some (xI [] c)->(∀ b o,s.heap.get? b=some o->h'.get? b=some o) ->
   codeAny 'b' X.A.in1 (.builtin "list.extend.loop" ⟨[.ref s.heap.objs.size,.ref it,.none],[]⟩) (wants (λr s₂=>r=.none/\EP X pins σ Q (.ref s.heap.objs.size) s₂) X.xe) {s with heap:=h'}:=by
  intro h' c e0 k0
  refine zfe s.heap.objs.size it .none (λk s'=>∃ i acc H' its c,k+i=n/\Inv X pins σ H' s'/\tn i s'.heap/\(∀ b∈fp,H' b=none)/\H' s.heap.objs.size=none/\s'.heap.get? s.heap.objs.size=some (xI its c)/\yW acc its/\acc.length<=i/\W i acc H') ?_ n _
   ⟨0,[],H,[],c,by omega,I.kept (t':=s.toks) k0,Tn.keep _ _ _ t0 λb _ o e=>k0 b o e,fr0,HS0,e0,.nil,zzR _,w0⟩
  rintro k s' ⟨i,acc,H',its,c',hk,I',st,fr,hS',oS,v,la,wi⟩;have Ip:=(pinS I' hS' oS).atA (A:=X.A.in1.in1) rfl rfl
  by_cases hi:i<n
  .obtain ⟨go,yl⟩:=wgo i acc H' hi wi;refine thn (Tn.item (X.atA X.A.in1.in1) rfl rfl rfl hc i _ s' σ H' _ Ip (fpok fr) st go) λr s2 ⟨u,x,H2,hr,I2,r2,y2,st2,fr2⟩=>?_;subst hr;have I2':=Inv.unA (X:=X) (A:=X.A.in1.in1) rfl rfl I2;have p2:=I2'.pin (s.heap.objs.size,xI its c') (Zk _ (zzT ..));refine⟨its,c',p2.1,by rw[← v.length];omega,λh'' sb e''=>⟨k-1,by omega,i+1,acc++[x],H2,its++[u],c'+1,by omega,off.turned (unpin I2') p2.2.1 sb,Tn.keep _ _ _ st2 λb hb o e=>sb.extBut b o (hSf b hb) e,fr2,p2.2.1,e'',v.append (.cons r2 .nil),by rw[zzW];show acc.length+1<=i+1;omega,yl x H2 y2⟩⟩
  .have hin:i=n:=by omega
   subst hin;obtain⟨yT,fin⟩:=wst acc H' wi;refine thn (Tn.done (X.atA X.A.in1.in1) rfl rfl rfl hc i _ s' σ H' _ Ip (fpok fr) st yT) λr s2 ⟨hr,I2⟩=>?_;subst hr;have I2':=Inv.unA (X:=X) (A:=X.A.in1.in1) rfl rfl I2;have p2:=I2'.pin (s.heap.objs.size,xI its c') (Zk _ (zzT ..));exact⟨rfl,.ref s.heap.objs.size,yG H' s.heap.objs.size (.lst acc),(unpin I2').adopt off hS' ⟨by omega,its,c',v,p2.1⟩,rfl,fin _ hS'⟩
 show wpAny _ X.A.in1.in1 (do let old ← Builtin.List.listItems (.ref s.heap.objs.size);Builtin.List.listUpdate (.ref s.heap.objs.size) (λ_=>#[]);letGo old.toList.reverse;Builtin.List.listExtendWith (.ref s.heap.objs.size) (.ref it) .none) _ _ _;refine Za ?_;unfold Builtin.List.listItems;refine Za (wpAny_seqItems hS rfl (Zc ?_));show wpAny _ X.A.in1.in1 (updateSeq s.heap.objs.size (λ_=>#[]) >>= λ_=>letGo (#[]:Array Value).toList.reverse >>= λ_=>Builtin.List.listExtendWith (.ref s.heap.objs.size) (.ref it) .none) _ _ _;refine Za (ZaG hS rfl ?_);have hS₂:=Zx (Obj.mapSeq (λ_=>(#[]:Array Value))) hS rfl;generalize hh2:(s.heap.push { cls:=.type "list", data:=.seq #[]}).update s.heap.objs.size (Obj.mapSeq (λ_=>(#[]:Array Value)))=h2 at *
 have k2:∀ b o,s.heap.get? b=some o->h2.get? b=some o:=λb o e=>by
  rw[← hh2,Zu _ _ (Z3 (Zd e))];exact Zb _ e
 have tn2:tn 0 h2:=Tn.keep _ _ _ t0 λb _ o e=>k2 b o e;refine Za (wpAny_letGo ?_);unfold Builtin.List.listExtendWith;obtain⟨oI,eI,cI⟩:=Tn.ty _ _ tn2;refine Za (Zbv (s:={s with heap:=h2}) ⟨oI,eI,cI⟩ ?_);have h1:Builtin.List.listSameRef (.ref s.heap.objs.size) (.ref it)=false:=by simp[Builtin.List.listSameRef,hSI]
 rw[if_neg (by rw[h1,hTl,hTt];decide)];refine Za (Tn.self _ 0 {s with heap:=h2} _ _ tn2 ?_);refine Za (ZO (Tn.hint _ 0 {s with heap:=h2} _ _ tn2 λroom=>?_));dsimp only
 split
 .refine Za (ZbH ?_);refine Za ?_;show wpAny _ X.A.in1.in1 (updateSeq s.heap.objs.size (·.push .none) >>= λ_=>updateSeq s.heap.objs.size (·.pop)) _ _ _;refine Za (ZaG hS₂ rfl ?_);have hS₃:=Zx (Obj.mapSeq (·.push Value.none)) hS₂ rfl;refine ZaG (hz:=by seq_fits) hS₃ rfl ?_;have hS₄:=Zx (Obj.mapSeq (·.pop)) hS₃ rfl;refine Zc ⟨Zb4 ZaN _,loop _ _ hS₄ λb o e=>?_⟩;rw[Zu _ _ (Z3 (Zd e)),Zu _ _ (Z3 (Zd e))];exact k2 b o e
 .exact Zc ⟨Zb4 ZaN _,loop _ _ hS₂ k2⟩
end
end L2
namespace L2
open PySem PySem.Spec PyProof.Rows
noncomputable def pN (b:Bool) (K:PySem.W.Frag) (H:Hp) (a:Addr) (xs:List V):Prop:=match b with
 |true=>sP K H a xs
 |false=>sL K H a xs
theorem Inv.sqB {X:Cx} {pins:PL} {σ:St} {H:Hp} {s:Shared} {b:Bool} {a:Addr} {xs:List V} (I:Inv X pins σ H s) (h:pN b X.K H a xs):∃ its:List Value,yW xs its/\sK b s.heap a its.toArray/\xs.length<=sizeLine:=by
 cases b
 .obtain ⟨its,r,p,hz⟩:=I.list h;exact⟨its,r,p.isList,hz⟩
 .obtain ⟨its,r,p,hz⟩:=I.tuple h;exact⟨its,r,p,hz⟩
theorem Inv.sqB_inj {X:Cx} {pins:PL} {σ:St} {H:Hp} {s:Shared} {b:Bool} {a:Addr} {xs ys:List V} (I:Inv X pins σ H s) (h:pN b X.K H a xs) (h':pN b X.K H a ys):xs=ys:=by
 cases b
 .exact I.list_inj h h'
 .exact I.tuple_inj h h'
theorem Inv.turns {X:Cx} {pins:PL} {σ:St} {H:Hp} {s:Shared} {h':Heap} {t':Nat} {fp:List Addr} (I:Inv X pins σ H s) (hf:∀ b∈fp,qU X pins H b) (k:∀ b o,b∉fp->s.heap.get? b=some o->h'.get? b=some o) (ht:0<t':=by bv_omega):Inv X pins σ H {s with heap:=h',toks:=t'}:=by
 have nit:∀ b u,H b=some u->b∉fp:=λb u e z=>by rw[(hf b z).1] at e;cases e
 refine I.step (g':=s.gens) (d':=s.drawn) (ch:=fp) (λb hb=>?_) (λb o _ _ hc e _=>k b o hc e) (λb o _ _ hc e _=>⟨o.slots,k b o hc e⟩) (λ_ _ _ _ n=>n)
  (λb o hc e=>⟨o,k b o hc e⟩) (λ_ _ e=>e) (λ_ _ _ e=>e) (λb ps e=>⟨#[],by rw[e];simp⟩) (λm hm=>?_) (λb u e=>?_) I.bare
 .obtain ⟨_,q2,q3,q4,q5,q6⟩:=hf b hb;exact⟨q4,q2,q5,q6⟩
 .obtain ⟨o,es,ep,ho,r⟩:=hm;exact⟨o,es,ep,k _ o (λz=>(hf _ z).2.1 rfl) ho,r⟩
 .refine (I.hok b u e).stay (λc v hc q=>k c v ?_ q) (λ_ q=>q) λ_ _ q=>q;rcases hc with z|z
  .rw[z];exact nit b u e
  .exact nit c _ z
noncomputable def Itz (a b:Bool) (K:PySem.W.Frag) (l1 l2:Addr):It where
 go:=λi H=>∃ xs ys x y,pN a K H l1 xs/\pN b K H l2 ys/\xs[i]?=some x/\ys[i]?=some y
 yld:=λi H v H'=>∃ p x y,v=.ref p/\H p=none/\H'=yG H p (.tup [x,y])/\(∀ xs,pN a K H l1 xs->xs[i]?=some x)/\∀ ys,pN b K H l2 ys->ys[i]?=some y
 stop:=λi H=>∃ xs ys,pN a K H l1 xs/\pN b K H l2 ys/\(xs[i]?=none\/ys[i]?=none)
noncomputable def vQ (a b:Bool) (z TI TO i1 i2 l1 l2:Addr) (i:Nat) (h:Heap):Prop :=
 ∃ f0 f1,IsZ h z TI TO f0 f1/\(f0=.none\/∃ T:Addr,f0=rawInt T)/\(f1=.bool false\/f1=.bool true)/\IsPair h TI (.ref i1) (.ref i2)/\(∃ u v,IsPair h TO u v)/\tN a h i1 l1 i/\tN b h i2 l2 i
section
variable {a b:Bool} {z TI TO i1 i2 l1 l2:Addr}
theorem vQ.obj {i:Nat} {h:Heap} (x:vQ a b z TI TO i1 i2 l1 l2 i h):∀ c∈[z,TI,TO,i1,i2],∃ o,h.get? c=some o/\∀ v,o.data≠.cell v:=by
 obtain⟨f0,f1,hz,_,_,hTI,⟨u,v,hTO⟩,⟨o1,e1,_,d1⟩,⟨o2,e2,_,d2⟩⟩:=x;intro c hc;simp only[Zh,Zt,or_false] at hc;rcases hc with rfl|rfl|rfl|rfl|rfl
 .exact ⟨_,hz,λv z=>nomatch z⟩
 .exact ⟨_,hTI,λv z=>nomatch z⟩
 .exact ⟨_,hTO,λv z=>nomatch z⟩
 .exact ⟨_,e1,λv z=>by rw[d1] at z;cases z⟩
 .exact ⟨_,e2,λv z=>by rw[d2] at z;cases z⟩
theorem vQ.keep {i:Nat} {h h':Heap} (x:vQ a b z TI TO i1 i2 l1 l2 i h) (k:∀ c∈[z,TI,TO,i1,i2],∀ o,h.get? c=some o->h'.get? c=some o):vQ a b z TI TO i1 i2 l1 l2 i h':=by
 obtain⟨f0,f1,hz,h0,h1,hTI,⟨u,v,hTO⟩,s1,s2⟩:=x;exact⟨f0,f1,k z 'g' _ hz,h0,h1,k TI 'g' _ hTI,⟨u,v,k TO 'g' _ hTO⟩,s1.at λo e=>k i1 'g' o e,s2.at λo e=>k i2 'g' o e⟩
variable {X:Cx} {pins:PL} {σ:St} {H:Hp} {s:Shared}
theorem zaJ (hd:[z,TI,TO,i1,i2].Nodup) (hf:∀ c∈[z,TI,TO,i1,i2],qU X pins H c) {xs ys:List V} (I:Inv X pins σ H s) (h1:pN a X.K H l1 xs) (h2:pN b X.K H l2 ys)
  (n1:l1∉[z,TI,TO,i1,i2]) (n2:l2∉[z,TI,TO,i1,i2]):ZipApart z TI TO i1 i2 l1 l2:=by
 simp only[Zar,Zh,Zt,or_false,not_or,Zby,not_false_eq_true,and_true] at hd n1 n2;obtain⟨⟨a1,a2,a3,a4⟩,⟨b1,b2,b3⟩,⟨c1,c2⟩,d1⟩:=hd;obtain⟨m1,m2,m3,m4,m5⟩:=n1;obtain⟨k1,k2,k3,k4,k5⟩:=n2;exact⟨Ne.symm a1,Ne.symm a2,Ne.symm a3,Ne.symm a4,b1,b2,b3,c1,c2,d1,m1,m3,m4,m5,k1,k3,k4,k5⟩
theorem zgg {E:VP} (hh:X.A.handled=none) (hd:[z,TI,TO,i1,i2].Nodup) (n1:l1∉[z,TI,TO,i1,i2]) (n2:l2∉[z,TI,TO,i1,i2]) {i:Nat} (I:Inv X pins σ H s) (hf:∀ c∈[z,TI,TO,i1,i2],qU X pins H c)
  (st:vQ a b z TI TO i1 i2 l1 l2 i s.heap) (go:(Itz a b X.K l1 l2).go i H) :
  wpAny 'b' X.A (pyNext (.ref z)) (λr s2=>∃ u x H',r=some u/\Inv X pins σ H' s2/\yV x u/\(Itz a b X.K l1 l2).yld i H x H'/\vQ a b z TI TO i1 i2 l1 l2 (i+1) s2.heap/\(∃ T:Addr,u=.ref T/\T∉[z,TI,TO,i1,i2])/\∀ c∈[z,TI,TO,i1,i2],H' c=none) E s:=by
 obtain⟨xs,ys,x,y,q1,q2,ex,ey⟩:=go;have D:=zaJ hd hf I q1 q2 n1 n2;obtain⟨itx,vx,sx,_⟩:=I.sqB q1;obtain⟨ity,vy,sy,_⟩:=I.sqB q2;obtain⟨ux,eux,rx⟩:=vx.get ex;obtain⟨uy,euy,ry⟩:=vy.get ey;have hx:itx.toArray[i]?=some ux:=by simpa using eux
 have hy:ity.toArray[i]?=some uy:=by simpa using euy
 obtain⟨f0,f1,hz,h0,h1,hTI,⟨u,v,hTO⟩,s1,s2⟩:=id st;have hT:s.TypeIs (.ref z) "zip" := ⟨_,hz,rfl⟩
 have lt:∀ c∈[z,TI,TO,i1,i2],c<s.heap.objs.size:=λc hc=>by
  obtain⟨o,e,_⟩:=st.obj c hc;exact Zd e
 have new:s.heap.objs.size∉[z,TI,TO,i1,i2]:=λhm=>Z1 _ (lt _ hm)
 have fin:∀ (h':Heap),vQ a b z TI TO i1 i2 l1 l2 (i+1) h'->IsPair h' s.heap.objs.size ux uy->h'.objs.size=s.heap.objs.size+1->(∀ c o,c∉[z,TI,TO,i1,i2]->s.heap.get? c=some o->h'.get? c=some o) ->
   ∃ u x H',(some (Value.ref s.heap.objs.size))=some u/\Inv X pins σ H' {s with heap:=h'}/\yV x u/\(Itz a b X.K l1 l2).yld i H x H'/\vQ a b z TI TO i1 i2 l1 l2 (i+1) h'/\(∃ T:Addr,u=.ref T/\T∉[z,TI,TO,i1,i2])/\∀ c∈[z,TI,TO,i1,i2],H' c=none:=by
  intro h' st' pr sz k;have hn:H s.heap.objs.size=none:=I.hok.fresh (zzR _);have I1:Inv X pins σ H {s with heap:=h',toks:=s.toks}:=I.turns hf k;refine⟨_,.ref s.heap.objs.size,yG H s.heap.objs.size (.tup [x,y]),rfl,?_,rfl,⟨_,x,y,rfl,hn,rfl,λxs' q'=>by rw[I.sqB_inj q' q1];exact ex,λys' q'=>by rw[I.sqB_inj q' q2];exact ey⟩,st',⟨_,rfl,new⟩,λc hc=>by rw[zA (λe:c=s.heap.objs.size=>new (e▸hc))];exact(hf c hc).1⟩;exact I1.adopt (I.off (zzR _)) hn ⟨by show 2<=sizeLine;rw[Z2];decide,[ux,uy],.cons rx (.cons ry .nil),⟨_,pr,rfl,_,rfl⟩⟩
 unfold pyNext
 have free:(f0=.none\/∃ T:Addr,f0=rawInt T/\s.heap.get? T=none)->wpAny 'b' X.A.in1 (Builtin.«zip.__next__» ⟨[.ref z],[]⟩) 'i' 'k' s:=λhfr=>by
  refine zgi D hfr hz hTI hTO s1 s2 sx sy hx hy λh' a1 a2 a3 a4 a5 a6 a7=>fin h' ⟨_,_,a1,.inr ⟨_,rfl⟩,.inl rfl,a7 TI _ D.TIz D.TITO D.TIi1 D.TIi2 hTI,⟨_,_,a2⟩,a3,a4⟩ a5 a6 λc o hc e=>?_;simp only[Zh,Zt,or_false,not_or] at hc;exact a7 c o hc.1 hc.2.2.1 hc.2.2.2.1 hc.2.2.2.2 e
 have held:∀ (T:Addr) (oT:Obj),f0=rawInt T->s.heap.get? T=some oT->wpAny 'b' X.A.in1 (Builtin.«zip.__next__» ⟨[.ref z],[]⟩) 'i' 'k' s:=λT oT e0 eT=>by
  subst e0;refine zgh D h1 hz eT hTI hTO s1 s2 sx sy hx hy λh' a1 a3 a4 a5 a6 a7=>fin h' ⟨_,_,a1,.inr ⟨_,rfl⟩,.inr rfl,a7 TI _ D.TIz D.TIi1 D.TIi2 hTI,⟨_,_,a7 TO _ D.TOz D.TOi1 D.TOi2 hTO⟩,a3,a4⟩ a5 a6 λc o hc e=>?_;simp only[Zh,Zt,or_false,not_or] at hc;exact a7 c o hc.1 hc.2.2.2.1 hc.2.2.2.2 e
 refine Za (ZaZ (ZN (name:=Str.ofString "__next__") hT ZaT
  (ZP ZaT hT F.entry_zip_next ?_ (F.args_zip_next_1 _))))
 have all:wpAny 'b' X.A.in1 (Builtin.«zip.__next__» ⟨[.ref z],[]⟩) 'i' 'k' s:=by
  rcases h0 with e0|⟨T,e0⟩
  .exact free (.inl e0)
  .cases eT:s.heap.get? T with
   |none=>exact free (.inr ⟨T,e0,eT⟩)
   |some oT=>exact held T oT e0 eT
 refine Zv all (λfin' s' ⟨v',e',q⟩=>⟨v',e',?_⟩) (λ_ _ z=>z.elim);exact Zc q
theorem zgj {E:VP} (hh:X.A.handled=none) (hd:[z,TI,TO,i1,i2].Nodup) (n1:l1∉[z,TI,TO,i1,i2]) (n2:l2∉[z,TI,TO,i1,i2]) {i:Nat} (I:Inv X pins σ H s) (hf:∀ c∈[z,TI,TO,i1,i2],qU X pins H c)
  (st:vQ a b z TI TO i1 i2 l1 l2 i s.heap) (stop:(Itz a b X.K l1 l2).stop i H) :
  wpAny 'b' X.A (pyNext (.ref z)) (λr s1=>r=none/\Inv X pins σ H s1) E s:=by
 obtain⟨xs,ys,q1,q2,he⟩:=stop;have D:=zaJ hd hf I q1 q2 n1 n2;obtain⟨itx,vx,sx,_⟩:=I.sqB q1;obtain⟨ity,vy,sy,_⟩:=I.sqB q2
 have hend:itx.toArray[i]?=none\/ity.toArray[i]?=none:=by
  rcases he with e|e
  .left;simpa using vx.none_of e
  .right;simpa using vy.none_of e
 obtain⟨f0,f1,hz,h0,h1,hTI,⟨u,v,hTO⟩,s1,s2⟩:=id st;have hT:s.TypeIs (.ref z) "zip" := ⟨_,hz,rfl⟩;unfold pyNext
 have fin:∀ (h':Heap) (e:Addr),(∀ c o,c≠z->c≠TO->c≠i1->c≠i2->s.heap.get? c=some o->h'.get? c=some o)->(∃ o,h'.get? e=some o/\o.cls=.type "StopIteration") ->
   wpAny 'b' X.A (do if ← isInstance (.ref e) (.type "StopIteration") then pure none else throw (.ref e)) (λ(r:Option Value) s1=>r=none/\Inv X pins σ H s1) E {s with heap:=h'}:=λh' e k ⟨o,ho,hc⟩=>by
  refine Za (ZbQ (T := "StopIteration") (b:=true) ⟨o,ho,hc⟩ isSubtype_stop ?_);refine Zc ⟨rfl,I.turns (t':=s.toks) hf λc o hc e=>?_⟩;simp only[Zh,Zt,or_false,not_or] at hc;exact k c o hc.1 hc.2.2.1 hc.2.2.2.1 hc.2.2.2.2 e
 refine Za (ZaZ (ZN (name:=Str.ofString "__next__") hT ZaT
  (ZP ZaT hT F.entry_zip_next ?_ (F.args_zip_next_1 _))))
 rcases h0 with e0|⟨T,e0⟩
 .exact rV hh D (.inl e0) hz hTI hTO s1 s2 sx sy hend λh' e k he=>fin h' e k he
 .cases eT:s.heap.get? T with
  |none=>exact rV hh D (.inr ⟨T,e0,eT⟩) hz hTI hTO s1 s2 sx sy hend λh' e k he=>fin h' e k he
  |some oT =>
   subst e0;exact zae hh D h1 hz eT hTI hTO s1 s2 sx sy hend λh' e k he=>fin h' e k he
theorem zbS {P:Program} {w:World} {A:Around} {i:Nat} {s:Shared} {Q:VP} {E:VP} (st:vQ a b z TI TO i1 i2 l1 l2 i s.heap) (h:Q (.ref z) s):wpAny (model P w) A (pyIter (.ref z)) Q E s:=by
 obtain⟨f0,f1,hz,_⟩:=st;have hT:s.TypeIs (.ref z) "zip" := ⟨_,hz,rfl⟩;refine wpAny_pyIter_slot hT F.slot_zip_iter (ZP F.slot_zip_iter hT F.entry_zip_iter ?_ (F.args_zip_iter_1 _));show wpAny _ _ (ret (.ref z)) _ _ s;exact Zc ⟨_,rfl, "zip", _,hT,ZaT.lookup,h⟩
end
end L2
namespace L3
open PySem PySem.Spec PyProof.Rows L2
structure Pr where
 prog:Program
 w:World
 K:yM
 mg:Str->Option Value
 base:Heap
noncomputable abbrev Pr.at (q:Pr) (A:Around):Par:=⟨q.prog,q.w,q.K,q.mg,q.base,A⟩
noncomputable def vE (K:yM) (sp:tO):Sp:=λvs H Q E=>∃ ws G,yY K H ws vs/\xP K H G/\sp ws G (jT K H Q) XN
noncomputable def yL (N:List Str) (ws:List W):xZ:=ws.map some++List.replicate (N.length-ws.length) none
theorem sI {K:yM} {H:Hp} {N:List Str} {ws:List W} {vs:List V} (r:yY K H ws vs):yR K H (yL N ws) (L2.start N vs):=by
 have hl:=r.length;refine⟨by simp[yL,L2.start,hl],λi w e=>?_⟩;unfold yL at e;unfold L2.start
 by_cases hi:i<ws.length
 .rw[ZX (by simpa using hi),Zz] at e
  cases q:ws[i]? with
  |none=>rw[q] at e;cases e
  |some w' =>
   rw[q] at e;obtain rfl:w'=w:=ZE (ZE e);obtain⟨v,ev,rp⟩:=r.get q;refine⟨v,?_,rp⟩;rw[ZX (by simp;omega),Zz,ev];rfl
 .rw[Zab (by simp;omega),ZaU] at e
  split at e<;>cases e
structure MOk (Γ:Ctx3) (M:MC) (sc:Scope):Prop where
 sc:M.sc=sc
 own:M.own=λ_=>true
 fns:Γ.fn.map (·.nm)=M.fns
 gls:Γ.gl.map (·.1)=M.gls
 mts:Γ.mt.map (·.nm)=M.mts
 its:Γ.it.map (·.nm)=M.its
 sxs:Γ.sx.map (·.m)=M.sxm
 ixs:Γ.ix.map (·.m)=M.ixm
noncomputable def FnE (p:Par) (f:Fn3):Prop:=∀ X,Fits p X->Gl X f.nm->∀ (args:List Expr) (t:A3) (q pos:Pos),qH t->args.all noStar=true->PA X args (vD X.K t)->(args=[]->∀ σ G Q,t σ G Q->Q [] G)->(f.nm==("__debug__":Str))=false->f.nm ≠ "__name__" ->
  PE X (.Call (.Name f.nm q) args [] pos) (xW X.K λσ G Q=>t σ G λws G1=>f.sp ws G1 Q XN)
theorem xX {e:Expr} {es:List Expr} {env:Env} {pos:Pos} (h:(e::es).all noStar=true):starEach (e::es) env=(false,eval e env)::starEach es env/\(backTo pos (starEach es env)).any (·.1)=false:=by
 rw[Zax,Zm] at h;refine⟨qO h.1,?_⟩;have h2:=h.2
 clear h
 induction es with
 |nil=>rfl
 |cons a r ih =>
  rw[Zax,Zm] at h2;rw[qO h2.1];show(false || (backTo pos (starEach r env)).any (·.1))=false;rw[ih h2.2];rfl
theorem Fits.eq {p:Par} {X:Cx} (f:Fits p X):p=⟨X.prog,X.w,X.K,X.mg,X.base,X.A⟩:=by
 obtain⟨e1,e2,e3,e4,e5,e6,_,_⟩:=f;rw[e1,e2,e3,e4,e5,e6]
theorem pa_sp {X:Cx} {args:List Expr} {t:A3} {sp:tO} {dws:List W} {dvs:List V} (m:qH t) (hd:∀ H,yY X.K H dws dvs) (mono:∀ ws G (Q Q':Q3),'l'->sp ws G Q XN->sp ws G Q' XN) {τ:L2.St} {H:Hp} {Q:VK} {E:XK}
  (h:xW X.K (λσ G Q=>t σ G λws G1=>sp (ws++dws) G1 Q XN) τ H Q):zgA (vE X.K sp) dvs E (vD X.K t) τ H Q:=by
 obtain⟨σ,G,hs,ab,h⟩:=h;refine uX m hs ab h λws G1 vs H1 g1 hs1 rs a1 h=>?_;exact⟨ws++dws,G1,rs.append (hd H1),a1,mono _ _ _ _ (λw G' z v' H' g'=>z v' H' (g1.trans g')) h⟩
theorem zkq {q:Pr} {k:Nat} {nm:Str} {f:Addr} {fd:FuncData} {ps:List Str} {ds:List Value} {dvs:List V} {dws:List W} {sp:tO} (FO:FnOk q.prog q.w q.K q.mg q.base CX0 k f fd ps (vE q.K sp)) (hm:q.mg nm=f⁻¹) (hk:PySem.W.keepIn q.K (.ref f)=true)
  (hb:qG q.K fd ps ds) (hd:∀ H,yY q.K H dws dvs) (hv:yW dvs ds) (mono:∀ ws G (Q Q':Q3),'l'->sp ws G Q XN->sp ws G Q' XN) {A:Around} (hr:Room k A):FnE (q.at A) ⟨nm,λws G Q _=>sp (ws++dws) G Q XN⟩:=by
 intro X fits gl args t qp pos mt hn pa hnil hdb hnm;have e:=fits.eq
 injection e with e1 e2 e3 e4 e5 e6
 subst e6;rw[e1,e2,e3,e4,e5] at FO;rw[e4] at hm;rw[e3] at hk hb hd
 cases args with
 |nil =>
  refine(zeB (p:=qp) (pos:=pos) FO hr gl hm hk hb hv zg0 hdb).imp λτ H Q h=>?_;obtain⟨σ,G,hs,ab,h⟩:=h;have h:=hnil rfl _ _ _ h;exact⟨dws,G,hd H,ab,h⟩
 |cons a r =>
  obtain⟨s1,s2⟩:=xX (env:=X.env) (pos:=pos) hn;exact(zgY (p:=qp) (pos:=pos) FO hr gl hm hk hb hv zg0 pa hdb s1 s2).imp λτ H Q h=>pa_sp (args:=a::r) mt hd mono h
end L3
namespace L3
open PySem PySem.Spec PyProof.Rows L2 PySem.SeqAt
noncomputable abbrev RS:=List W->Hw->Q3->Prop
noncomputable def wH (sp:RS):Prop:=∀ ws G (Q Q':Q3),'l'->sp ws G Q->sp ws G Q'
noncomputable def tB (K:yM) (sp:RS):List V->Hp->VK->Prop:=λvs H Q=>∃ ws G,yY K H ws vs/\xP K H G/\sp ws G (jT K H Q)
theorem bJ {X:Cx} {t:A3} {sp:RS} (mt:qH t) (mono:wH sp) {τ:L2.St} {H:Hp} {Q:VK} (h:xW X.K (λσ G Q=>t σ G λws G1=>sp ws G1 Q) τ H Q):tCB (tB X.K sp) (vD X.K t) τ H Q:=by
 obtain⟨σ,G,hs,ab,h⟩:=h;exact uX mt hs ab h λws G1 vs H1 g1 hs1 rs a1 h=>⟨ws,G1,rs,a1,mono _ _ _ _ (λw G' z v' H' g'=>z v' H' (g1.trans g')) h⟩
theorem hU {q:Pr} {A:Around} {nm:Str} {id:String} {sp:RS} (hm:q.mg nm=none) (hv:bootBuiltins nm=some (.builtin id)) (hc:∀ X,Fits (q.at A) X->wW X (.builtin id) (tB X.K sp)) (mono:wH sp) (h0:∀ G Q,¬ sp [] G Q):FnE (q.at A) ⟨nm,λws G Q _=>sp ws G Q⟩:=by
 intro X fits gl args t qp pos mt hn pa hnil hdb hnm;have hm':X.mg nm=none:=by rw[fits.mg];exact hm
 cases args with
 |nil=>exactλpins s σ H Q I h=>absurd (hnil rfl _ _ _ h.choose_spec.choose_spec.2.2) (h0 _ _)
 |cons a r =>
  obtain⟨s1,s2⟩:=xX (env:=X.env) (pos:=pos) hn;exact(zeA (p:=qp) (pos:=pos) (hc X fits) gl hm' hv pa hnm hdb s1 s2).imp λτ H Q h=>bJ mt mono h
theorem zhB {q:Pr} {A:Around} {nm:Str} {T:String} {sp:RS} (hm:q.mg nm=none) (hv:bootBuiltins nm=some (.type T)) (hc:∀ X,Fits (q.at A) X->wW X (.type T) (tB X.K sp)) (mono:wH sp) (h0:∀ G Q,¬ sp [] G Q):FnE (q.at A) ⟨nm,λws G Q _=>sp ws G Q⟩:=by
 intro X fits gl args t qp pos mt hn pa hnil hdb hnm;have hm':X.mg nm=none:=by rw[fits.mg];exact hm
 cases args with
 |nil=>exactλpins s σ H Q I h=>absurd (hnil rfl _ _ _ h.choose_spec.choose_spec.2.2) (h0 _ _)
 |cons a r =>
  obtain⟨s1,s2⟩:=xX (env:=X.env) (pos:=pos) hn;exact(zcD (p:=qp) (pos:=pos) (hc X fits) gl hm' hv pa hnm hdb s1 s2).imp λτ H Q h=>bJ mt mono h
noncomputable abbrev MS:=W->List W->Hw->Q3->Prop
noncomputable def MtE (p:Par) (m:Mt3):Prop:=∀ X,Fits p X->∀ (o:Expr) (args:List Expr) (to:E3) (t:A3) (apos cpos:Pos),wX to->qH t->rJ o=true->(apos.endLine==cpos.line)=true->args.length<25->args.all noStar=true ->
  PE X o (xW X.K to)->PA X args (vD X.K t)->(args=[]->∀ σ G Q,t σ G Q->Q [] G)->PE X (.Call (.Attribute o m.nm apos) args [] cpos) (xW X.K λσ G Q=>to σ G λx G1=>tyW G1 x m.T/\t σ G1 λws G2=>m.sp x ws G2 Q)
noncomputable def lowM (K:yM) (sp:MS):V->List V->Hp->VK->Prop:=λx vs H Q=>∃ w ws G,xF K H w x/\yY K H ws vs/\xP K H G/\sp w ws G (jT K H Q)
theorem zbi {args:List Expr} {env:Env} {pos:Pos} (h:args.all noStar=true):(backTo pos (starEach args env)).all (λx=>!x.1)=true:=by
 induction args with
 |nil=>rfl
 |cons a r ih =>
  rw[Zax,Zm] at h;rw[qO h.1];show(true&&(backTo pos (starEach r env)).all (λx=>!x.1))=true;rw[ih h.2];rfl
theorem bN {p:Par} {nm:Str} {T id:String} {sp:MS} (pa:PlainAttrs T) (slot:Slot T nm id) (hty:typeOf (.builtin id)=pure (.type "method_descriptor")) (hm:∀ X,Fits p X->MtR X id (lowM X.K sp))
  (mono:∀ x ws G (Q Q':Q3),'l'->sp x ws G Q->sp x ws G Q'):MtE p ⟨nm,T,sp⟩:=by
 intro X fits o args to t apos cpos mo mt ho hline hlen hn po pa' hnil
 cases args with
 |nil =>
  refine(zjj pa slot hty (hm X fits) po (vV ho) hline).imp λτ H Q h=>?_;obtain⟨σ,G,hs,ab,h⟩:=h;refine xJ mo hs ab h λw G1 v H1 g1 hs1 rw1 a1 h=>⟨zfy rw1 a1 h.1,w,[],G1,rw1,rfl,a1,mono _ _ _ _ _ (λw' G' z v' H' g'=>z v' H' (g1.trans g')) (hnil rfl _ _ _ h.2)⟩
 |cons a r =>
  obtain⟨s1,s2⟩:=xX (env:=X.env) (pos:=cpos) hn;refine(pe_bm pa slot hty (hm X fits) po pa' (vV ho) ?_ hline s1 s2).imp λτ H Q h=>?_
  .rw[zbi hn]
   have:(a::r).length+([]:List Keyword).length+(if([]:List Keyword).isEmpty then 0 else 1)<30:=by
    show(a::r).length+0+0<30;omega
   rw[decide_eq_true this];rfl
  .obtain ⟨σ,G,hs,ab,h⟩:=h;refine xJ mo hs ab h λw G1 v H1 g1 hs1 rw1 a1 h=>⟨zfy rw1 a1 h.1,?_⟩;exact uX mt hs1 a1 h.2 λws G2 vs H2 g2 hs2 rs a2 h=>⟨w,ws,G2,rw1.mono g2,rs,a2,mono _ _ _ _ _ (λw' G' z v' H' g'=>z v' H' (g1.trans (g2.trans g'))) h⟩
noncomputable def maxS:RS:=λws G Q=>match ws with
 | [.int i,.int j]=>Q (.int (if j > i then j else i)) G
 |_=>False
theorem dU:wH maxS:=by
 intro ws G Q Q' k h;unfold maxS at h ⊢
 split at h
 .exact k _ _ h
 .exact h.elim
theorem nV {K:yM} {H:Hp} {a b:W} {vs:List V} (r:yY K H [a,b] vs):∃ x y,vs=[x,y]/\xF K H a x/\xF K H b y:=by
 obtain⟨x,t,rfl,rx,y,t',rfl,ry,rt⟩:=r;cases(show t'=[] from rt);exact⟨x,y,rfl,rx,ry⟩
theorem jN {K:yM} {H:Hp} {a:W} {vs:List V} (r:yY K H [a] vs):∃ x,vs=[x]/\xF K H a x:=by
 obtain⟨x,t,rfl,rx,rt⟩:=r;cases(show t=[] from rt);exact⟨x,rfl,rx⟩
theorem zjz {X:Cx} (hc:X.calm=true):wW X (.builtin "max") (tB X.K maxS):=by
 intro pins s σ H xs us Q I r h;obtain⟨ws,G,rs,ab,h⟩:=h;unfold maxS at h
 split at h
 .rename_i i j;obtain⟨x,y,rfl,rx,ry⟩:=nV rs;cases(show x=.int i from rx);cases(show y=.int j from ry);exact zdK hc pins s σ H _ us Q I r ⟨i,j,rfl,h _ H .refl rfl ab⟩
 .exact h.elim
noncomputable def bE (G:Hw):W->Option Nat
 | .str x=>if x.length<=sizeLine then some x.length else none
 | .tup ws=>some ws.length
 | .ref p=>match G p with
  |some (.lst ws)=>some ws.length
  |some (.fix ws)=>some ws.length
  |some (.dic kvs)=>some kvs.length
  |_=>none
 |_=>none
noncomputable def mF:RS:=λws G Q=>match ws with
 | [x]=>(match bE G x with|some n=>Q (.int n) G|none=>False)
 |_=>False
theorem dP:wH mF:=by
 intro ws G Q Q' k h;unfold mF at h ⊢
 split at h
 .split at h
  .exact k _ _ h
  .exact h.elim
 .exact h.elim
theorem zhb {X:Cx}:wW X (.builtin "len") (λxs H Q=>∃ a kvs,xs=[V.ref a]/\H a=some (.dK kvs)/\Q (.int kvs.length) H):=by
 intro pins s σ H xs us Q I r h;obtain⟨a,kvs,rfl,ha,q⟩:=h;obtain⟨u,rfl,ru⟩:=jX r;cases ru;exact d_len I (.inl ha) λt s' I'=>⟨.int kvs.length,H,I',⟨t,rfl⟩,q⟩
theorem zjF {X:Cx}:wW X (.builtin "len") (tB X.K mF):=by
 intro pins s σ H xs us Q I r h;obtain⟨ws,G,rs,ab,h⟩:=h;unfold mF at h
 split at h
 .rename_i w;obtain⟨v,rfl,rv⟩:=jN rs
  split at h
  .rename_i n hn;have q:Q (.int n) H:=h (.int n) H .refl rfl ab
   cases w with
   |str x =>
    cases(show v=.str x from rv);simp only[bE] at hn
    split at hn
    .rename_i hl;cases hn;exact zad pins s σ H _ us Q I r ⟨x,rfl,hl,q⟩
    .cases hn
   |tup ws' =>
    obtain⟨a,vs,rfl,sq,rr⟩:=rv;simp only[bE] at hn;cases hn;exact vZ pins s σ H _ us Q I r ⟨a,vs,rfl,.inr sq,by rw[rr.length];exact q⟩
   |ref p =>
    cases(show v=.ref p from rv);simp only[bE] at hn
    split at hn
    .rename_i ws' e;cases hn;obtain⟨vs,sq,rr⟩:=ab.seq (show yN G p=some ws' by unfold yN;rw[e]);exact vZ pins s σ H _ us Q I r ⟨p,vs,rfl,.inl sq,by rw[rr.length];exact q⟩
    .rename_i ws' e;cases hn;obtain⟨vs,sq,rr⟩:=ab.seq (show yN G p=some ws' by unfold yN;rw[e]);exact vZ pins s σ H _ us Q I r ⟨p,vs,rfl,.inl sq,by rw[rr.length];exact q⟩
    .rename_i kvs e;cases hn;obtain⟨l,e',rl⟩:=ab.dic e;exact zhb pins s σ H _ us Q I r ⟨p,l,rfl,e',by rw[rl.length];exact q⟩
    .cases hn
   |_=>simp[bE] at hn
  .exact h.elim
 .exact h.elim
noncomputable def xD (G:Hw):W->Option (List W)
 | .tup ws=>some ws
 | .ref p=>yN G p
 |_=>none
noncomputable def lstS:RS:=λws G Q=>match ws with
 | [x]=>(match xD G x with|some xs=>∀ p,G p=none->Q (.ref p) (put G p (.lst xs))|none=>False)
 |_=>False
theorem dQ:wH lstS:=by
 intro ws G Q Q' k h;unfold lstS at h ⊢
 split at h
 .split at h
  .exact λp hp=>k _ _ (h p hp)
  .exact h.elim
 .exact h.elim
theorem zcm {K:yM} {H:Hp} {G:Hw} {w:W} {v:V} {xs:List W} (ab:xP K H G) (r:xF K H w v) (e:xD G w=some xs):∃ a vs b,v=.ref a/\pN b K H a vs/\yY K H xs vs:=by
 cases w with
 |tup ws =>
  obtain⟨a,vs,rfl,sq,rr⟩:=r;cases e;exact⟨a,vs,true,rfl,sq,rr⟩
 |ref p =>
  cases(show v=.ref p from r);obtain⟨vs,sq,rr⟩:=ab.seq e;exact⟨p,vs,false,rfl,sq,rr⟩
 |_=>cases e
theorem zjD {X:Cx}:wW X (.type "list") (tB X.K lstS):=by
 intro pins s σ H xs us Q I r h;obtain⟨ws,G,rs,ab,h⟩:=h;unfold lstS at h
 split at h
 .rename_i w;obtain⟨v,rfl,rv⟩:=jN rs
  split at h
  .rename_i ys hy;obtain⟨a,vs,b,rfl,sq,rr⟩:=zcm ab rv hy;refine zac pins s σ H _ us Q I r ⟨a,vs,rfl,?_,qN ab rr h⟩;cases b
   .exact .inl sq
   .exact .inr sq
  .exact h.elim
 .exact h.elim
noncomputable def allS (f:List Bool->Bool):RS:=λws G Q=>match ws with
 | [.ref p]=>∃ bs:List Bool,yN G p=some (bs.map .bl)/\Q (.bl (f bs)) G
 |_=>False
theorem cS (f:List Bool->Bool):wH (allS f):=by
 intro ws G Q Q' k h;unfold allS at h ⊢
 split at h
 .obtain ⟨bs,e,h⟩:=h;exact⟨bs,e,k _ _ h⟩
 .exact h.elim
theorem gX {K:yM} {H:Hp}:∀ {bs:List Bool} {vs:List V} {us:List Value},yY K H (bs.map .bl) vs->yW vs us->us=bs.map .bool
 | [],vs,us,r,v=>by cases(show vs=[] from r);cases v;rfl
 |b::bs,vs,us,r,v=>by
  obtain⟨x,t,rfl,rx,rt⟩:=r;cases(show x=.bl b from rx)
  cases v with
  |cons a c =>
   cases(show _=Value.bool b from a);rw[gX rt c];rfl
theorem zdU (bs:List Bool):(List.range bs.length).all (λi=>(bs[i]?).getD false)=bs.all id:=by
 rw[Bool.eq_iff_iff,ZZ,ZZ]
 constructor
 .intro h b hb;obtain⟨i,hi,rfl⟩:=List.mem_iff_getElem.mp hb;have:=h i (ZaL.mpr hi)
  rwa[Zf hi] at this
 .intro h i hi;have hi:=ZaL.mp hi;rw[Zf hi];exact h _ (ZaM hi)
theorem zfv {X:Cx} (hc:X.calm=true) {pins:PL} {s:Shared} {σ:L2.St} {H:Hp} {G:Hw} {p:Addr} {bs:List Bool} (I:Inv X pins σ H s) (ab:xP X.K H G) (e:yN G p=some (bs.map .bl)) {A:Around} (hh:A.handled=none) {E:VP}
  {R:VP} (h:∀ (I':Addr) (s₂:Shared),Walks X.prog X.w A I' [I',p] [I'] bs.length (λi v=>(bs.map Value.bool).toArray[i]?=some v) (λi h=>h.IsListIter I' p i/\h.IsList p (bs.map Value.bool).toArray)->(s₂.heap.IsListIter I' p 0/\s₂.heap.IsList p (bs.map Value.bool).toArray) ->
   (∀ h' tk,(∀ b o,b∉[I']->s₂.heap.get? b=some o->h'.get? b=some o)->0<tk->Inv X pins σ H {s₂ with heap:=h',toks:=tk})->R (.ref I') s₂):wpAny 'b' A (pyIter (.ref p)) R E s:=by
 obtain⟨vs,sq,rr⟩:=ab.seq e;obtain⟨its,rv,pl,hz⟩:=I.list sq;have eits:=gX rr rv;subst eits;have hl:=pl.isList;refine Za5 hl ?_
 have hne:p≠s.heap.objs.size:=by
  obtain⟨o,ho,_⟩:=hl;exact Zo (Zd ho)
 have W:=Walks.list (prog:=X.prog) (w:=X.w) hh s.heap.objs.size p hne (bs.map Value.bool).toArray;have hn:(bs.map Value.bool).toArray.size=bs.length:=by simp
 rw[hn] at W;refine h _ _ W ⟨⟨_,Zl _ rfl,rfl,rfl⟩,hl.push _⟩ λh' tk k h0=>I.kept (λb o e=>k b o (λhm=>?_) (Zb _ e)) h0;rw[ZJ] at hm;exact Zo (Zd e) hm
theorem zd5 {P:Program} {w:World} {A:Around} {bs:List Bool}:TruthOf P w A (λi v=>(bs.map Value.bool).toArray[i]?=some v) (λi=>(bs[i]?).getD false):=by
 intro i v s Q E h q;have h':(bs[i]?).map Value.bool=some v:=by simpa using h
 cases e:bs[i]? with
 |none=>rw[e] at h';cases h'
 |some b =>
  rw[e] at h';cases h';have q':Q ((bs[i]?).getD false) s:=q;rw[e] at q';exact Z6 q'
theorem zkG {X:Cx} (hc:X.calm=true):wW X (.builtin "all") (tB X.K (allS (·.all id))):=by
 intro pins s σ H xs us Q I r h;obtain⟨ws,G,rs,ab,h⟩:=h;unfold allS at h
 split at h
 .rename_i p;obtain⟨v,rfl,rv⟩:=jN rs;cases(show v=.ref p from rv);obtain⟨bs,e,h⟩:=h;obtain⟨u,rfl,ru⟩:=jX r;cases ru;refine jO I.tk (call_all_walk (zfv hc I ab e (A:=X.A.in1) (I.ok.hd hc) λI' s₂ W st k=>⟨I',_,_,_,_,_,_,rfl,W,st,zd5,λh' tk hk h0=>?_⟩));rw[zdU];exact⟨.bl (bs.all id),H,k h' tk hk h0,rfl,h _ H .refl rfl ab⟩
 .exact h.elim
noncomputable def tyO (G:Hw):W->Option String
 | .non=>some "NoneType"
 | .bl _=>some "bool"
 | .int _=>some "int"
 | .str _=>some "str"
 | .tup _=>some "tuple"
 | .ref p=>match G p with
  |some (.lst _)=>some "list"
  |some (.fix _)=>some "list"
  |some (.dic _)=>some "dict"
  |_=>none
 |_=>none
noncomputable def popS:MS:=λx ws G Q=>match x,ws with
 | .ref p,[]=>(match G p with
  |some (.lst xs)=>(match xs[xs.length-1]? with|some y=>Q y (put G p (.lst xs.dropLast))|none=>False)
  |_=>False)
 |_,_=>False
theorem fN:∀ x ws G (Q Q':Q3),'l'->popS x ws G Q->popS x ws G Q':=by
 intro x ws G Q Q' k h;unfold popS at h ⊢
 split at h
 .split at h
  .split at h
   .exact k _ _ h
   .exact h.elim
  .exact h.elim
 .exact h.elim
theorem zi8 {X:Cx}:MtR X "list.pop" (lowM X.K popS):=by
 intro pins s σ H x xs v us Q I rx rxs h;obtain⟨w,ws,G,rw1,rs,ab,h⟩:=h;unfold popS at h
 split at h
 .rename_i p;cases(show x=.ref p from rw1);cases(show xs=[] from rs)
  split at h
  .rename_i ys e
   split at h
   .rename_i y ey;obtain⟨vs,ev,rr⟩:=ab.lst e;obtain⟨vy,evy,ry⟩:=rr.get ey;have gr:yO X.K H (yG H p (.lst vs.dropLast)):=ab.grow e;exact zjv pins s σ H _ _ v us Q I rx rxs ⟨p,vs,vy,rfl,rfl,ev,by rw[rr.length];exact evy,h vy _ gr (ry.mono gr) (ab.chg e ⟨_,rfl,rr.dropLast.mono gr⟩)⟩
   .exact h.elim
  .exact h.elim
 .exact h.elim
noncomputable def appS:MS:=λx ws G Q=>match x,ws with
 | .ref p,[y]=>(match G p with
  |some (.lst xs)=>xs.length<sizeLine/\Q .non (put G p (.lst (xs++[y])))
  |_=>False)
 |_,_=>False
theorem cT:∀ x ws G (Q Q':Q3),'l'->appS x ws G Q->appS x ws G Q':=by
 intro x ws G Q Q' k h;unfold appS at h ⊢
 split at h
 .split at h
  .exact ⟨h.1,k _ _ h.2⟩
  .exact h.elim
 .exact h.elim
theorem zkF {X:Cx}:MtR X "list.append" (lowM X.K appS):=by
 intro pins s σ H x xs v us Q I rx rxs h;obtain⟨w,ws,G,rw1,rs,ab,h⟩:=h;unfold appS at h
 split at h
 .rename_i p y;cases(show x=.ref p from rw1);obtain⟨vy,rfl,ry⟩:=jN rs
  split at h
  .rename_i ys e;obtain⟨vs,ev,rr⟩:=ab.lst e;have gr:yO X.K H (yG H p (.lst (vs++[vy]))):=ab.grow e;exact zcN pins s σ H _ _ v us Q I rx rxs ⟨p,vs,vy,rfl,rfl,ev,by rw[rr.length];exact h.1,h.2 .non _ gr (show xF X.K _ .non .non from rfl) (ab.chg e ⟨_,rfl,(rr.append (show yY X.K H [y] [vy] from⟨vy,[],rfl,ry,rfl⟩)).mono gr⟩)⟩
  .exact h.elim
 .exact h.elim
noncomputable def rngI (ws:List W) (G:Hw) (R:List W->(Hw->Prop)->Hw->Prop):Prop:=match ws with
 | [.int j]=>(-(2 ^ 62)<=j/\j<2 ^ 62)/\R ((List.range j.toNat).map λi=>.int (i:Nat)) (λ_=>True) G
 |_=>False
theorem zjV {K:yM} {H1:Hp} {n:Nat}:ItIs K (Itr 0 n) H1 ((List.range n).map λi=>W.int (i:Nat)) (λ_=>True) where
 go:=λi H G _ ab st hi=>by show i<n;simpa using hi
 yld:=λi H G x H' _ ab st hi y=>by
  obtain⟨rfl,rfl⟩:=y;have hi':i<n:=by simpa using hi
  refine⟨.int (i:Nat),by simp[hi'],.refl,?_,ab⟩;show V.int (0+(i:Int))=V.int (i:Int);rw[Int.zero_add]
 stop:=λi H G _ ab st hi=>by show n<=i;simpa using hi
noncomputable def ItE (p:Par) (i:It3):Prop:=∀ X,Fits p X->Gl X i.nm->∀ (tg:Expr) (args:List Expr) (t:A3) (q pos:Pos),qH t->args.all noStar=true->PA X args (vD X.K t)->(args=[]->∀ σ G Q,t σ G Q->Q [] G)->(i.nm==("__debug__":Str))=false->i.nm ≠ "__name__" ->
  PI X tg (.Call (.Name i.nm q) args [] pos) (bI X.K λσ G R=>t σ G λws G1=>i.sp ws G1 R)
theorem zjZ {q:Pr} {A:Around} (hm:q.mg "range" = none):ItE (q.at A) ⟨"range", rngI⟩:=by
 intro X fits gl tg args t qp pos mt hn pa hnil hdb hnm;have hm':X.mg "range" = none:=by rw[fits.mg];exact hm
 intro pins s σ H R I h
 cases args with
 |nil =>
  obtain⟨σ3,G,hs,ab,h⟩:=h;exact(hnil rfl _ _ _ h).elim
 |cons a r =>
  obtain⟨s1,s2⟩:=xX (env:=X.env) (pos:=pos) hn;obtain⟨σ3,G,hs,ab,h⟩:=h
  have h':=uX (S:=λvs H1=>∃ j:Int,vs=[.int j]/\-(2 ^ 62)<=j/\j<2 ^ 62/\R (Itr 0 j.toNat) H1) mt hs ab h λws G1 vs H1 g1 hs1 rs a1 h=>by
   dsimp only at h;unfold rngI at h
   split at h
   .rename_i j;obtain⟨v,rfl,rv⟩:=jN rs;cases(show v=.int j from rv);exact⟨j,rfl,h.1.1,h.1.2,h.2 _ H1 g1 a1 zjV⟩
   .exact h.elim
  refine Call_ (vA I gl hm' boot_range (ZW (thn (pa pos pins s σ H _ I h') λus s1 ⟨vs,H1,I1,r1,q1⟩=>?_) s1 s2));obtain⟨j,e,q1,q2,q⟩:=q1;subst e;obtain⟨u,rfl,t,rfl⟩:=jX r1;exact call_range_1 (zek I1 (ZM _) 'f' 'f' q1 q2 (by simpa using q))
noncomputable def lofM (nm:Str):Scope->Expr->Option (List Expr):=λsc e=>match e with
 | .Call (.Name o _) [.Call (.Name x _) xs [] _] [] _=>if o==("list":Str)&&x==nm&&kB sc o&&kB sc x&&!xs.isEmpty then some xs else none
 |_=>none
theorem zeK {nm:Str} {sc:Scope} {e:Expr} {xs:List Expr} (h:lofM nm sc e=some xs):∃ qo q pos pos' a r,xs=a::r/\e=.Call (.Name "list" qo) [.Call (.Name nm q) (a::r) [] pos] [] pos'/\kB sc "list" = true/\kB sc nm=true:=by
 have no:¬ ((none:Option (List Expr))=some xs):=λe=>nomatch e
 cases e with
 |Call f args kws pos' =>
  cases f with
  |Name o qo =>
   cases args with
   |nil=>exact absurd h no
   |cons c rest =>
    cases c with
    |Call g ys kw2 pos =>
     cases g with
     |Name x q =>
      cases kw2 with
      |nil =>
       cases rest with
       |nil =>
        cases kws with
        |nil =>
         replace h:(if(o==("list":Str)&&x==nm&&kB sc o&&kB sc x&&!ys.isEmpty)=true then some ys else none)=some xs:=h
         by_cases hb:(o==("list":Str)&&x==nm&&kB sc o&&kB sc x&&!ys.isEmpty)=true
         .rw[if_pos hb] at h;cases h;simp only[Zm,beq_iff_eq,Zai,List.isEmpty_eq_false_iff] at hb;obtain⟨⟨⟨⟨rfl,rfl⟩,h1⟩,h2⟩,h3⟩:=hb
          cases xs with
          |nil=>exact absurd rfl h3
          |cons a r=>exact⟨qo,q,pos,pos',a,r,rfl,rfl,h1,h2⟩
         .rw[if_neg hb] at h;exact absurd h no
        |cons _ _=>exact absurd h no
       |cons _ _=>exact absurd h no
      |cons _ _=>exact absurd h no
     |_=>exact absurd h no
    |_=>exact absurd h no
  |_=>exact absurd h no
 |_=>exact absurd h no
noncomputable def SxE (p:Par) (k:Sx3):Prop:=∀ X,Fits p X->∀ (e:Expr) (xs:List Expr) (es:List E3),k.m X.env.scope e=some xs->cN X xs es->xs.all noStar=true->PA X xs (vD X.K (cB es)) ->
  PE X e (xW X.K λσ G Q=>cB es σ G λws G1=>k.sp ws G1 Q)/\(∀ whole,isTrue e X.env whole=(do let v ← whole;standAt e.pos;holding [v] (truthy v)))/\∀ op vs pos,e≠.BoolOp op vs pos
theorem dE {X:Cx}:∀ {xs:List Expr} {es:List E3},cN X xs es->qH (cB es)
 | [],[],_=>λσ G Q Q' k h=>k _ _ h
 |_::_,_::_,⟨m,_,r⟩=>λσ G Q Q' k h=>m σ G _ _ (λx G1 h=>dE r σ G1 _ _ (λxs G2 h=>k _ _ h) h) h
theorem ziC {q:Pr} {A:Around} {nm:Str} {T:String} {sp:RS} (hl:q.mg "list" = none) (hm:q.mg nm=none) (hv:bootBuiltins nm=some (.type T)) (mono:wH sp)
  (hc:∀ X,Fits (q.at A) X->∀ (pins:PL) (s:Shared) (σ:L2.St) (H:Hp) (vs:List V) (us:List Value) (Q:VK),Inv X pins σ H s->yW vs us->tB X.K sp vs H Q ->
   wpAny 'b' X.A (call (.type T) us) (λv s1=>wpAny 'b' X.A (call (.type "list") [v]) (EP X pins σ Q) X.xe s1) X.xe s):SxE (q.at A) ⟨lofM nm,sp⟩:=by
 intro X fits e xs es he each hn pa;obtain⟨qo,qq,pos,pos',a,r,rfl,rfl,g1,g2⟩:=zeK he;obtain⟨gl1,d1,n1⟩:=sY rfl g1;obtain⟨gl2,d2,n2⟩:=sY rfl g2;have hl':X.mg "list" = none:=by rw[fits.mg];exact hl
 have hm':X.mg nm=none:=by rw[fits.mg];exact hm
 refine⟨λpins s σ H Q I h=>?_,λ_=>rfl,λ_ _ _ z=>nomatch z⟩;obtain⟨s1,s2⟩:=xX (env:=X.env) (pos:=pos) hn;have h':=bJ (dE each) mono h;refine ZT (vA I gl1 hl' boot_list ?_ n1 d1);refine ZW (e:=.Call (.Name nm qq) (a::r) [] pos) (rest:=[]) ?_ rfl rfl;show wpAny _ _ (spliced ((false,eval (.Call (.Name nm qq) (a::r) [] pos) X.env)::backTo pos' (starEach [] X.env))) _ _ s;refine Calls.spliced_cons (ZT (vA I gl2 hm' hv (ZW (thn (pa pos pins s σ H _ I h') λus s1 ⟨vs,H1,I1,r1,q1⟩=>?_) s1 s2) n2 d2));exact thn (hc X fits pins s1 σ H1 vs us Q I1 r1 q1) λv s2 z=>Calls.spliced_nil z
theorem zbK (n:Nat):[n+4,n+2,n+3,n,n+1].Nodup:=by
 simp
theorem zbh (n a:Nat) (h:a<n):a∉[n+4,n+2,n+3,n,n+1]:=by
 simp only[Zh,Zt,or_false,not_or];omega
theorem zdm (n b:Nat) (h:b∈[n+4,n+2,n+3,n,n+1]):n<=b:=by
 simp only[Zh,Zt,or_false] at h;omega
noncomputable def Itv (K:yM) (a:Addr) (n:Nat):It where
 go:=λi H=>∃ xs,sL K H a xs/\xs.length=n/\i<n
 yld:=λi H v H'=>H'=H/\∀ xs,sL K H a xs->xs.length=n->xs[n-1-i]?=some v
 stop:=λi H=>i=n
theorem zbH:typeLookup (.type "list_reverseiterator") "__len__" = pure none:=by rw[typeLookup_type,builtinLookup_eq_fast];kernel_rfl
theorem zeH:typeLookup (.type "list_reverseiterator") "__length_hint__" = pure (some (.builtin "list_reverseiterator.__length_hint__")):=by rw[typeLookup_type,builtinLookup_eq_fast];kernel_rfl
theorem zgF {P:Program} {w:World} {A:Around} {it a:Addr} {i:Int} {s:Shared} {Q:Bool->Shared->Prop} {E:VP} (st:s.heap.IsRevIter it a i) (h:∀ b,Q b s):wpAny (model P w) A (Builtin.List.listLengthHint (.ref it)) Q E s:=by
 have hT:=st.typeIs;unfold Builtin.List.listLengthHint;refine Za (ZbY hT zbH ?_);show wpAny _ _ (specialOf (Value.ref it) (Str.ofString "__length_hint__") >>= _) _ _ _;refine Za (ZbY hT zeH ?_)
 (generalize hid:("list_reverseiterator.__length_hint__":String)=id0;(fail_if_success (clear hid id0));wp_delta;rw[show splitId id0=some ("list_reverseiterator", "__length_hint__") from by subst hid;decide +kernel];subst hid)
 refine Za (ZbQ (b:=true) hT (by rw[isSubtype_type];kernel_rfl) ?_);exact Zc (h _)
theorem zef (P:Program) (w:World) (K:yM) {it a:Addr} {n:Nat} (hne:a≠it):TurnL P w K "list_reverseiterator" (Itv K a n) [it] it (λi h=>i<=n/\h.IsRevIter it a ((n:Int)-1-i)) where
 mem:=by simp
 ty:=λi h ⟨_,o,ho,hc,_⟩=>⟨o,ho,hc⟩
 obj:=λi h ⟨_,o,ho,hc,hd⟩ b hb=>by
  rw[ZJ] at hb;subst hb;exact⟨o,ho,λv z=>by rw[hd] at z;cases z⟩
 keep:=λi h h' ⟨hi,x⟩ k=>⟨hi,x.at λo e=>k it 'g' o e⟩
 item:=by
  intro X e1 e2 e3 hc i pins s σ H E I hf st go;subst e1;subst e2;subst e3;obtain⟨hi,st⟩:=st;obtain⟨xs,sq,ln,hlt⟩:=go;obtain⟨its,rv,pl,hz⟩:=I.list sq;have hlx:n-1-i<xs.length:=by omega
  obtain⟨u,eu,ru⟩:=rv.get (Zf hlx);have e:(n:Int)-1-(i:Int)=((n-1-i:Nat):Int):=by omega
  rw[e] at st;refine wpAny_pyNext_rev_item st pl.isList (x:=u) (by simpa using eu) λh' st' sb=>?_;have e':((n-1-i:Nat):Int)-1=(n:Int)-1-((i+1:Nat):Int):=by omega
  rw[e'] at st';obtain⟨f1,f2,f3,f4,f5,f6⟩:=hf it 'g';refine⟨u,xs[n-1-i],H,rfl,I.turned (t':=s.toks) (λb o hb e=>sb.extBut b o hb e) f1 f2 f4 f5 f6,ru,⟨rfl,λys sq' _=>by rw[I.list_inj sq' sq];exact Zf hlx⟩,⟨hlt,st'⟩,λb hb=>(hf b hb).1⟩
 done:=by
  intro X e1 e2 e3 hc i pins s σ H E I hf st stop;subst e1;subst e2;subst e3;obtain⟨hi,st⟩:=st;have hin:i=n:=stop;subst hin;have e:(i:Int)-1-(i:Int)=-1:=by omega
  rw[e] at st;obtain⟨f1,f2,f3,f4,f5,f6⟩:=hf it 'g';exact wpAny_pyNext_rev_end (I.ok.hd hc) st λh' k=>⟨rfl,I.turned (t':=s.toks) (λb o hb e=>k b o hb e) f1 f2 f4 f5 f6⟩
 self:=λA i s Q E st h=>wpAny_pyIter_revIter st.2 h
 hint:=λA i s Q E st h=>zgF st.2 h
noncomputable def revS:RS:=λws G Q=>match ws with
 | [.ref p]=>∃ xs,yN G p=some xs/\∀ r,G r=none->Q (.ref r) (put G r (.lst xs.reverse))
 |_=>False
theorem fQ:wH revS:=by
 intro ws G Q Q' k h;unfold revS at h ⊢
 split at h
 .obtain ⟨xs,e1,h⟩:=h;exact⟨xs,e1,λp hp=>k _ _ (h p hp)⟩
 .exact h.elim
theorem ziV {X:Cx} (hc:X.calm=true) (pins:PL) (s:Shared) (σ:L2.St) (H:Hp) (vs:List V) (us:List Value) (Q:VK) (I:Inv X pins σ H s) (r:yW vs us) (h:tB X.K revS vs H Q) :
  wpAny 'b' X.A (call (.type "reversed") us) (λv s1=>wpAny 'b' X.A (call (.type "list") [v]) (EP X pins σ Q) X.xe s1) X.xe s:=by
 obtain⟨ws,G,rs,ab,h⟩:=h;unfold revS at h
 split at h
 .rename_i p;obtain⟨v,rfl,rv⟩:=jN rs;cases(show v=.ref p from rv);obtain⟨u,rfl,ru⟩:=jX r;cases(show u=Value.ref p from ru);obtain⟨xs,e,h⟩:=h;obtain⟨vs,sq,rr⟩:=ab.seq e;obtain⟨its,vv,pl,hz⟩:=I.list sq;have hl:=pl.isList
  have hlt:p<s.heap.objs.size:=by
   obtain⟨o,ho,_⟩:=hl;exact Zd ho
  refine call_reversed_list hl ?_;have I1:Inv X pins σ H {s with heap:=s.heap.push (revObj p ((its.toArray.size:Int)-1)),toks:=s.toks}:=I.kept λb u e=>Zb _ e;have en:its.toArray.size=vs.length:=by rw[zzS,← vv.length]
  refine zcW hc 'c' 'c' I1 (zef X.prog X.w X.K (n:=vs.length) (Zo hlt)) ⟨Zy _,?_⟩ (λb hb=>?_) vs.length hz
   (λi acc H'=>H'=H/\acc=vs.reverse.take i) ⟨rfl,by simp⟩ ?_ ?_
  .refine ⟨_,Zl _ rfl,rfl,?_⟩;show Data.fields #[.ref p,rawInt ((its.toArray.size:Int)-1)]=_;rw[en];simp
  .rw[ZJ] at hb;subst hb;exact I.fpOk (zzR _) (I.hok.fresh (zzR _))
  .rintro i acc H' hi ⟨rfl,rfl⟩;refine⟨⟨vs,sq,rfl,hi⟩,?_⟩;rintro v H2 ⟨rfl,e2⟩;refine⟨rfl,?_⟩;have e2:=e2 vs sq rfl;have hl':i<vs.reverse.length:=by simpa using hi
   rw[ZF hl'];congr 2;have:vs.reverse[i]?=some v:=by rw[List.getElem?_reverse hi];exact e2
   exact(ZE ((Zf hl').symm.trans this)).symm
  .rintro acc H' ⟨rfl,rfl⟩;refine⟨rfl,?_⟩;rw[List.take_of_length_le 'g'];exact qN ab rr.reverse h
 .exact h.elim
end L3
namespace L3
open PySem PySem.Spec PyProof.Rows L2
noncomputable def zK (S:List Addr) (G G':Hw):Prop:=∀ a o,a∉S->G a=some o->G' a=some o
theorem zK.refl {S:List Addr} {G:Hw}:zK S G G:=λ_ _ _ h=>h
theorem zK.trans {S:List Addr} {G G1 G2:Hw} (a:zK S G G1) (b:zK S G1 G2):zK S G G2:=λx o hx h=>b x o hx (a x o hx h)
theorem zK.put {S:List Addr} {G:Hw} {p:Addr} {o:O} (h:p∈S):zK S G (put G p o):=λx u hx hu=>by
 rw[wE (λe:x=p=>hx (e▸h))];exact hu
theorem zK.new {S:List Addr} {G:Hw} {p:Addr} {o:O} (h:G p=none):zK S G (L3.put G p o):=λx u hx hu=>by
 rw[wE (dG hu h)];exact hu
theorem zK.none {S:List Addr} {G G':Hw} {p:Addr} (k:zK S G G') (hp:p∉S) (h:G' p=Option.none):G p=Option.none:=by
 cases e:G p with
 |none=>rfl
 |some o=>rw[k p o hp e] at h;cases h
noncomputable abbrev kS:xM:=.inr "seed"
noncomputable abbrev kN:xM:=.inr "number"
noncomputable abbrev kL:xM:=.inr "left"
noncomputable def zdy (seed num:Int) (l:Addr):O:=.dic [(kS,.int seed),(kN,.int num),(kL,.ref l)]
structure DealS (G:Hw) (d l:Addr) (seed num:Int) (left:List Int):Prop where
 dic:G d=some (zdy seed num l)
 lst:G l=some (.lst (left.map .int))
 s0:0<=seed
 s1:seed<2147483647
 n0:0<=num
 lf:∀ x∈left,(0:Int)<=x
 len:left.length<=63
 ne:d≠l
noncomputable def jJ (G:Hw) (d l:Addr):Prop:=∃ seed num left,DealS G d l seed num left
theorem dgS {a b c:W}:dget [(kS,a),(kN,b),(kL,c)] kS=some a:=by rfl
theorem dgN {a b c:W}:dget [(kS,a),(kN,b),(kL,c)] kN=some b:=by
 have e1:¬ (kS=kN):=by decide +kernel
 unfold dget;rw[Za1 (by simp[e1]),List.find?_cons_of_pos 'g'];rfl
theorem dgL {a b c:W}:dget [(kS,a),(kN,b),(kL,c)] kL=some c:=by
 have e1:¬ (kS=kL):=by decide +kernel
 have e2:¬ (kN=kL):=by decide +kernel
 unfold dget;rw[Za1 (by simp[e1]),Za1 (by simp[e2]),List.find?_cons_of_pos 'g'];rfl
theorem dpN {a b c x:W}:gC [(kS,a),(kN,b),(kL,c)] kN x=[(kS,a),(kN,x),(kL,c)]:=by
 unfold gC;have e1:¬ (kS=kN):=by decide +kernel
 have e2:¬ (kL=kN):=by decide +kernel
 simp[e1,e2]
theorem dpS {a b c x:W}:gC [(kS,a),(kN,b),(kL,c)] kS x=[(kS,x),(kN,b),(kL,c)]:=by
 unfold gC;have e1:¬ (kN=kS):=by decide +kernel
 have e2:¬ (kL=kS):=by decide +kernel
 simp[e1,e2]
noncomputable def zkD:ISs:=(.cons (.whl (.and (.cmp .Eq (.ix 'j' "number"⁻¹) 0⁻¹) (.cmp .Gt (.call 1 (.cons (.ix 'j' "left"⁻¹) .nil)) 0⁻¹)) (.cons (.asgI 'j' "number"⁻¹ (.mth 0 (.ix 'j' "left"⁻¹) .nil))
 .nil))
 (.cons (.asg 2 (.ix 'j' "number"⁻¹))
 (.cons (.ite (.cmp .Gt (.var 2) 0⁻¹) (.cons (.asgI 'j' "number"⁻¹ (.bin .FloorDiv (.var 2) (.var 1)))
 (.cons (.ret (.bin .Mod (.var 2) (.var 1)))
 .nil)) .nil)
 (.cons (.asg 3 (.bin .Mod (.bin .Add (.bin .Mult (.ix 'j' "seed"⁻¹) 48271⁻¹) 7919⁻¹) 2147483647⁻¹))
 (.cons (.asgI 'j' "seed"⁻¹ (.bin .Mod (.bin .Add (.bin .Mult (.var 3) 40692⁻¹) 104729⁻¹) 2147483399⁻¹))
 (.cons (.asg 4 (.bin .Mod (.bin .Mult (.ix 'j' "seed"⁻¹) (.ix 'j' "seed"⁻¹)) 2147483563⁻¹))
 (.cons (.ret (.bin .Mod (.bin .Add (.bin .Mult (.bin .Mod (.bin .Mult (.var 3) (.var 3)) 2147483629⁻¹) 2147483563⁻¹) (.var 4)) (.var 1)))
 .nil)))))))
noncomputable abbrev rC:Fn3:=⟨"len",λws G Q _=>mF ws G Q⟩
noncomputable abbrev ePop:Mt3:=⟨"pop", "list", popS⟩
theorem DealS.put {G:Hw} {d l:Addr} {seed num:Int} {left:List Int} (D:DealS G d l seed num left) {seed' num':Int} (h1:0<=seed') (h2:seed' < 2147483647) (h3:0<=num'):DealS (put G d (zdy seed' num' l)) d l seed' num' left :=
 ⟨zL,by rw[wE D.ne.symm];exact D.lst,h1,h2,h3,D.lf,D.len,D.ne⟩
theorem zbN {i j:Int}:xE (.int i) (.int j)=decide (i=j):=by
 simp[xE,Za8]
theorem uT {G:Hw} {i j:Int}:sM G (.int i) (.int j)=some (decide (i=j)):=by
 simp[sM,pur,dep,zbN]
theorem zeC {left:List Int}:(left.map W.int)[left.length-1]?=(left[left.length-1]?).map W.int:=by simp
theorem modb {a m:Int} (h:0<m):0<=a % m/\a % m<m:=⟨Int.emod_nonneg _ 'f',Int.emod_lt_of_pos _ h⟩
section
variable {d l:Addr} {seed num:Int} {left:List Int} {G:Hw} (D:DealS G d l seed num left)
theorem few3 {a b c:W}:[(kS,a),(kN,b),(kL,c)].length<sizeLine:=by show 3<sizeLine;rw[Z2];decide
include D
theorem DealS.ixN {Q:Q3} (q:Q (.int num) G):qD (.ref d) (.str "number") G Q:=by
 simp only[qD,show G d=some (.dic [(kS,.int seed),(kN,.int num),(kL,.ref l)]) from D.dic,rP,dgN];exact q
theorem DealS.ixS {Q:Q3} (q:Q (.int seed) G):qD (.ref d) (.str "seed") G Q:=by
 simp only[qD,show G d=some (.dic [(kS,.int seed),(kN,.int num),(kL,.ref l)]) from D.dic,rP,dgS];exact q
theorem DealS.ixF {Q:Q3} (q:Q (.ref l) G):qD (.ref d) (.str "left") G Q:=by
 simp only[qD,show G d=some (.dic [(kS,.int seed),(kN,.int num),(kL,.ref l)]) from D.dic,rP,dgL];exact q
theorem DealS.stN {v:Int} {R:Hw->Prop} (r:R (L3.put G d (zdy seed v l))):pA (.ref d) (.str "number") (.int v) G R:=by
 simp only[pA,show G d=some (.dic [(kS,.int seed),(kN,.int num),(kL,.ref l)]) from D.dic,rP,dpN];exact⟨few3,r⟩
theorem DealS.stS {v:Int} {R:Hw->Prop} (r:R (L3.put G d (zdy v num l))):pA (.ref d) (.str "seed") (.int v) G R:=by
 simp only[pA,show G d=some (.dic [(kS,.int seed),(kN,.int num),(kL,.ref l)]) from D.dic,rP,dpS];exact⟨few3,r⟩
end
theorem iteP {b:Bool} {A B:Prop} (h1:b=true->A) (h0:b=false->B):if b=true then A else B:=by
 cases b
 .exact h0 rfl
 .exact h1 rfl
noncomputable def zkC:ISs:=match zkD with|.cons _ b=>b|b=>b
section
variable {Γ:Ctx3} {d l:Addr} {m seed num:Int} {left:List Int} {G:Hw} {Q:Q3} {nx:xZ->Hw->Prop}
theorem zfm (D:DealS G d l seed num left) (hm:0<m/\m<1073741824) (hq:∀ r G',0<=r->r<m->zK [d,l] G G'->jJ G' d l->Q (.int r) G'):zB Γ XN zkC { nx:=nx,rt:=Q} [d⁻¹,some (.int m),none,none,none] G:=by
 refine D.ixN ?_;refine iteP (b:=decide (0<num)) (λh=>?_) (λh=>?_)
 .refine And.intro hm (D.stN (And.intro hm.1 (hq _ _ (modb hm.1).1 (modb hm.1).2 (zK.put 'g') ⟨seed,num / m,left,D.put D.s0 D.s1 (Int.ediv_nonneg D.n0 'f')⟩)))
 .dsimp only[zB,zU,zV,zI,zF,zO,ZaC,Zbr,ZL,Zah];refine D.ixS ?_;refine And.intro (Or.inr ⟨by decide,by decide⟩) (And.intro 'c' ?_);have b1:=modb (a:=seed * 48271+7919) (m:=2147483647) 'c';generalize (seed * 48271+7919) % 2147483647=x at b1 ⊢;refine And.intro (Or.inr ⟨by decide,by decide⟩) (And.intro 'c' (D.stS ?_));have b2:=modb (a:=x * 40692+104729) (m:=2147483399) 'c';generalize (x * 40692+104729) % 2147483399=y at b2 ⊢;have D2:=D.put (num':=num) b2.1 'f' D.n0;refine D2.ixS ?_;refine D2.ixS ?_;exact⟨Or.inl ⟨by omega,by omega⟩,by decide,Or.inl ⟨by omega,by omega⟩,by decide,Or.inr ⟨by decide,by decide⟩,hm.1,hq _ _ (modb hm.1).1 (modb hm.1).2 (zK.put 'g') ⟨y,num,left,D2⟩⟩
theorem zfl (h1:Γ.fn[1]?=some rC) (h2:Γ.mt[0]?=some ePop) (D:jJ G d l) (hm:0<m/\m<1073741824)
  (hq:∀ r G',0<=r->r<m->zK [d,l] G G'->jJ G' d l->Q (.int r) G'):zB Γ XN zkD { nx:=nx,rt:=Q} [d⁻¹,some (.int m),none,none,none] G:=by
 obtain⟨seed,num,left,D⟩:=D;refine⟨λk σ G'=>σ=[d⁻¹,some (.int m),none,none,none]/\zK [d,l] G G'/\∃ num left,k=left.length/\DealS G' d l seed num left,⟨_,rfl,.refl,num,left,rfl,D⟩,?_⟩;rintro k σ G1 ⟨rfl,kp,num,left,rfl,D⟩;have out:=zfm (Γ:=Γ) (nx:=nx) D hm λr G' a b k' D'=>hq r G' a b (kp.trans k') D';dsimp only[zS,zV,zI,zF,zE,zD,zX,zO,ZL];refine D.ixN ?_;simp only[yZ,uT,zG];refine iteP (λhn=>?_) (λhn=>out);refine D.ixF ?_;simp only[h1,mF,bE,D.lst,zzM,nQ];refine iteP (λhlen=>?_) (λhlen=>out);have hlen:=of_decide_eq_true hlen;have hlast:left.length-1<left.length:=by omega
 show zU Γ XN _ _ _ _;dsimp only[zU,zV,zI,zF,zX,zO,ZL];refine D.ixF ?_;have nd:(put G1 l (.lst ((left.map W.int).dropLast))) d=some (zdy seed num l):=by rw[wE D.ne];exact D.dic
 simp only[h2,tyW,D.lst,popS,zzM,zeC,Zf hlast,Option.map_some];have D2:DealS (put G1 l (.lst ((left.map W.int).dropLast))) d l seed num left.dropLast:=⟨nd,by rw[zL,List.map_dropLast],D.s0,D.s1,D.n0,λx hx=>D.lf x (List.dropLast_subset _ hx),by have:=D.len;rw[Zbf];omega,D.ne⟩;refine⟨trivial,D2.stN ⟨left.dropLast.length,by rw[Zbf];omega,rfl,(kp.trans (zK.put 'g')).trans (zK.put 'g'),left[left.length-1],left.dropLast,rfl,D2.put D.s0 D.s1 (D.lf _ (ZaM hlast))⟩⟩
end
theorem zcZ {items:List W} {stab:Hw->Prop} {G1:Hw} {turn:W->Hw->(Option W->Hw->Prop)->Prop} {Q:Q3} (f:W->Option W) (hs:stab G1) (hl:items.length<=sizeLine) (ht:∀ w∈items,∀ K:Option W->Hw->Prop,K (f w) G1->turn w G1 K)
  (hq:∀ p,G1 p=none->Q (.ref p) (put G1 p (.lst (items.filterMap f)))):lcR items stab G1 turn Q:=by
 refine⟨λi acc G=>G=G1/\acc=(items.take i).filterMap f,⟨rfl,by simp⟩,?_,hl,?_,?_⟩
 .rintro i acc G ⟨rfl,rfl⟩ hi;refine⟨hs,Ze (List.length_filterMap_le _ _) ?_⟩;rw[Z0];omega
 .rintro i w acc G hi ⟨rfl,rfl⟩;have hlt:i<items.length:=(Zp.mp hi).1;have hw:items[i]=w:=(Zp.mp hi).2;refine ht w (Zw hi) _ ?_;have et:items.take (i+1)=items.take i++[w]:=by rw[ZF hlt,hw]
  cases e:f w with
  |some x=>exact⟨rfl,by rw[et,ZaD];simp[e]⟩
  |none=>exact⟨rfl,by rw[et,ZaD];simp[e]⟩
 .rintro acc G ⟨rfl,rfl⟩ p hp;rw[Z9];exact hq p hp
theorem qK {α β:Type} (f:α->β) (xs:List α) (lo hi:Option Int):jQ (xs.map f) lo hi=(jQ xs lo hi).map f:=by
 unfold jQ;rw[zzM,ZbJ,List.map_drop]
theorem kA {α:Type} (xs:List α) (lo hi:Option Int):(jQ xs lo hi).length<=xs.length:=by
 unfold jQ;rw[Z0,Zbd];omega
noncomputable def zkE:ISs:=(.cons (.asg 2 (.lc (.nm 0) ["_law_cell"] [] (.val (.sl 'j' (.yes (.var 1)) (.yes 63⁻¹))) .no (.call 0 (.cons 'j' (.cons (.bin .Sub 0⁻¹ 'j') .nil)))))
 (.cons (.asg 3 (.bin .Add 7919⁻¹ (.var 1)))
 (.cons (.for (.nm 4) (.val (.var 2)) (.cons (.asg 3 (.bin .Mod (.bin .Add (.bin .Mult (.var 3) 69621⁻¹) (.bin .Mod (.var 4) 2147483629⁻¹)) 2147483647⁻¹))
 .nil))
 (.cons (.ret (.dct ["seed", "number", "left"] (.cons (.var 3) (.cons 0⁻¹ (.cons (.spc 0 (.cons (.lc (.nm 0) ["_law_cell"] [] (.val (.var 2)) (.yes (.cmp .GtE 'j' (.bin .Pow 10⁻¹ 18⁻¹))) 'j') .nil)) .nil)))))
 .nil))))
noncomputable abbrev eMax:Fn3:=⟨"max",λws G Q _=>maxS ws G Q⟩
noncomputable abbrev eRev:Sx3:=⟨lofM "reversed", revS⟩
noncomputable def rA (x:Int):Int:=if 0-x > x then 0-x else x
theorem zh9 (x:Int):0<=rA x:=by unfold rA;split<;>omega
theorem zQ {G:Hw} {p:Addr} {ws:List W} (h:G p=some (.lst ws)):yN G p=some ws:=by unfold yN;rw[h]
theorem dct3 {a b c:W}:zhY ["seed", "number", "left"] [a,b,c]=[(kS,a),(kN,b),(kL,c)]:=by
 have e1:¬ (kS=kN):=by decide +kernel
 have e2:¬ (kS=kL):=by decide +kernel
 have e3:¬ (kN=kL):=by decide +kernel
 simp[zhY,gC,e1,e2,e3]
noncomputable def cP (G:Hw) (w:W) (ns:List Int):Prop:=(∃ a,w=.ref a/\yN G a=some (ns.map .int))\/w=.lsf (ns.map .int)
theorem cP.sl {G:Hw} {w:W} {ns:List Int} (h:cP G w ns) {lo hi:Option Int} {Q:Q3} (hq:∀ r,G r=none->Q (.ref r) (put G r (.lst (jQ (ns.map W.int) lo hi)))):gL w lo hi G Q:=by
 rcases h with⟨a,rfl,e⟩|rfl
 .simp only[gL,e];exact hq
 .exact hq
theorem zfq {Γ:Ctx3} (h0:Γ.fn[0]?=some eMax) (h2:Γ.sx[0]?=some eRev) {a:W} {base:Int} {ns:List Int} {G:Hw} {Q:Q3} {nx:xZ->Hw->Prop} (hs:cP G a ns) (hl:ns.length<=63) (hb:0<=base/\base<=1000)
  (hq:∀ d l G',G d=none->G l=none->zK [] G G'->jJ G' d l->Q (.ref d) G'):zB Γ XN zkE { nx:=nx,rt:=Q} [some a,some (.int base),none,none,none] G:=by
 dsimp only[zkE,zB,zU,zV,zS,zI,zF,zE,zD,zP,zX,zW,zR,zT,zY,zO,ZL,Zah,zN];simp only[h0,h2,uH];refine hs.sl λp1 hp1=>?_;dsimp only;have hp1':yN (put G p1 (.lst (jQ (ns.map W.int) (some base) (some 63)))) p1=some (jQ (ns.map W.int) (some base) (some 63)):=zQ zL;rw[hp1'];rw[qK];generalize ecs:jQ ns (some base) (some 63)=cs;have hcl:cs.length<=63:=by rw[← ecs];exact Ze (kA _ _ _) hl
 rw[qK,ecs] at hp1';refine zcZ (λw=>match w with|.int x=>some (.int (rA x))|_=>none) hp1' (by rw[zzM,Z2];omega) ?_ ?_
 .intro w hw K hK;obtain⟨x,hx,rfl⟩:=zzP hw;simp only[jP,Zg,Zn,List.replicate,zzV,Zq,ZaC,ZL,qP,maxS,if_true];exact hK
 .intro p2 hp2
  have ef:(cs.map W.int).filterMap (λw=>match w with|.int x=>some (.int (rA x))|_=>none)=(cs.map rA).map W.int:=by
   rw[Zbp,Z8,← List.filterMap_eq_map];rfl
  rw[ef];generalize eG:put (put G p1 (.lst (cs.map W.int))) p2 (.lst ((cs.map rA).map W.int))=G2;have kp2:zK [] G G2:=by rw[← eG];exact(zK.new hp1).trans (zK.new hp2)
  have g2:G2 p2=some (.lst ((cs.map rA).map W.int)):=by rw[← eG];exact zL
  simp only[ZL,Zah,ZaC,Zbr,qP,zQ g2];refine⟨λi σ G'=>G'=G2/\∃ (n:Int) (c:Option W),σ=[some a,some (.int base),p2⁻¹,some (.int n),c]/\0<=n/\n<2147483647,⟨rfl,7919+base,none,rfl,by omega,by omega⟩,?_,?_,?_⟩
  .rintro i σ G' ⟨rfl,_⟩ _;exact zQ g2
  .rintro i w σ G' hi ⟨rfl,n,c,rfl,n0,n1⟩;have hw:=Zw hi;obtain⟨x,hx,rfl⟩:=zzP hw;simp only[ZL,Zah,ZaC,Zbr,qP];exact⟨.inr ⟨by decide,by decide⟩,by decide,by decide,trivial,_,_,rfl,(modb 'c').1,(modb 'c').2⟩
  .rintro σ G' ⟨rfl,n,c,rfl,n0,n1⟩;intro d hd;simp only[ZL,Zah];have g3:(put G' d (.dic [])) p2=some (.lst ((cs.map rA).map W.int)):=by rw[wE (dG g2 hd)];exact g2
   simp only[zQ g3];refine zcZ (λw=>match w with|.int x=>if(10:Int) ^ 18<=x then some (.int x) else none|_=>none) (zQ g3) (by rw[zzM,zzM,Z2];omega) ?_ ?_
   .intro w hw K hK;obtain⟨x,hx,rfl⟩:=zzP hw;simp only[jP,Zg,Zn,List.replicate,zzV,Zq,ZaC,ZL,qP,yZ,nQ,zG];refine⟨⟨by decide,by decide,by decide⟩,?_⟩;have e18:(10:Int) ^ (18:Int).toNat=10 ^ 18:=rfl;rw[e18]
    by_cases hx:(10:Int) ^ 18<=x
    .rw[decide_eq_true hx,if_pos rfl];simp only[if_pos hx] at hK;exact hK
    .rw[decide_eq_false hx,if_neg zzN];simp only[if_neg hx] at hK;exact hK
   .intro p3 hp3
    have ef:((cs.map rA).map W.int).filterMap (λw=>match w with|.int x=>if(10:Int) ^ 18<=x then some (.int x) else none|_=>none)=((cs.map rA).filter λx=>decide ((10:Int) ^ 18<=x)).map W.int:=by
     generalize cs.map rA=ys
     induction ys with
     |nil=>rfl
     |cons y ys ih =>
      rw[zzU,ZaO,List.filter_cons]
      by_cases hy:(10:Int) ^ 18<=y
      .simp only[if_pos hy,decide_eq_true hy,if_true,zzU,ih]
      .simp only[if_neg hy,decide_eq_false hy,zzB,if_false,ih]
    rw[ef];generalize efl:(cs.map rA).filter (λx=>decide ((10:Int) ^ 18<=x))=fl;have flen:fl.length<=63:=by rw[← efl];refine Ze (List.length_filter_le _ _) ?_;rw[zzM];exact hcl
    have fnn:∀ x∈fl,(0:Int)<=x:=λx hx=>by
     rw[← efl] at hx;obtain⟨y,hy,rfl⟩:=zzP (ZaV.mp hx).1;exact zh9 y
    refine⟨fl.map W.int,zQ zL,λl hl'=>?_⟩
    have ned:d≠l:=λe=>by
     subst e;rw[wE (dG zL hp3),zL] at hl';cases hl'
    have np3:d≠p3:=dG zL hp3;refine⟨by rw[wE ned,wE np3,zL],rfl,?_⟩;rw[dct3];refine hq d l _ (kp2.none 'g' hd) ?_ ?_ ⟨n,0,fl.reverse,zL,?_,n0,n1,by omega,λx hx=>fnn x (List.mem_reverse.mp hx),by rw[Zak];exact flen,ned⟩
    .have k3:zK [] G (put (put G' d (.dic [])) p3 (.lst (fl.map W.int))):=(kp2.trans (zK.new hd)).trans (zK.new hp3);exact k3.none 'g' hl'
    .intro x u hx hu;rw[wE (dG hu (kp2.none 'g' hd))];exact((((kp2.trans (zK.new hd)).trans (zK.new hp3)).trans (zK.new hl')) x u hx hu)
    .rw[wE ned.symm,zL,← List.map_reverse]
structure FunD (K:yM) (x qual:Str) (st:Stmt) (dV:Value) (f:Addr) (fd:FuncData):Prop where
 ex:∃ (oc:Value) (od:Option Addr) (kV doc pm:Value) (an:Option Addr) (cdv ct:Value) (osl:Array (Option Value)),
  fd=PySem.W.fnOf x qual (jL st) (yX st) (zH st) dV kV doc pm an cdv ct/\K.lookup f=some ⟨oc,od,.func fd,osl⟩/\PySem.W.codeIn K cdv qual=true
 kp:PySem.W.keepIn K (.ref f)=true
theorem zay {Γ:Ctx3} {q:Pr} {k:Nat} {M:MC} {x qual:Str} {st:Stmt} {dV:Value} {f:Addr} {fd:FuncData} {ps:List Str} {sp:tO} {body:ISs} (F:FunD q.K x qual st dV f fd) (S:FnScope M.N ps (zH st)) (g:∀ A,Room k A->Good Γ (q.at A))
  (eM:MOk Γ M (zH st)) (hm:vP body M (yX st)=true) (len:∀ ws G Q,sp ws G Q XN->ws.length=ps.length)
  (hb:∀ ws G Q,sp ws G Q XN->zB Γ XN body { nx:=λ_ G'=>Q .non G',rt:=Q} (yL M.N ws) G):FnOk q.prog q.w q.K q.mg q.base CX0 (k+1) f fd ps (vE q.K sp):=by
 obtain⟨oc,od,kV,doc,pm,an,cdv,ct,osl,rfl,lk,hcd⟩:=F.ex;refine zfd lk hcd S (λvs H Q E h=>?_) λA outer s H vs Q E hr h=>?_
 .obtain ⟨ws,G,rs,ab,h⟩:=h;rw[rs.length];exact len ws G _ h
 .obtain ⟨ws,G,rs,ab,h⟩:=h;have gg:=g _ hr;refine⟨lowS q.K (zB Γ XN body),gP.nox (zci gg body M _ (yX st) ?_ hm),?_⟩
  .exact ⟨'e',rfl,eM.sc.symm,S.nd,λ_ _=>rfl,by rw[eM.sc];exact S.kind,eM.fns,eM.gls,eM.mts,eM.its,eM.sxs,eM.ixs⟩
  .refine ⟨yL M.N ws,G,_,sI rs,ab,⟨?_,?_,?_,?_⟩,hb ws G _ h⟩
   .exact λσ G' τ H' g' _ a' z=>z .non H' g' (show xF q.K H' .non .non from rfl) a'
   .exact λσ G' τ H' g' _ a' z=>z.elim
   .exact λσ G' τ H' g' _ a' z=>z.elim
   .exact λw G' v H' g' r' a' z=>z v H' g' r' a'
structure HD (K:yM) (x qual:Str) (st:Stmt) (dV:Value) (f:Addr):Prop where
 ex:∃ (oc:Value) (od an:Option Addr) (osl:Array (Option Value)) (kV doc pm cdv ct:Value),K.lookup f=some ⟨oc,od,.func (PySem.W.fnOf x qual (jL st) (yX st) (zH st) dV kV doc pm an cdv ct),osl⟩/\PySem.W.codeIn K cdv qual=true
 kp:PySem.W.keepIn K (.ref f)=true
theorem HD.mk' {K:yM} {x qual:Str} {st:Stmt} {dV:Value} {f:Addr} {oc:Value} {od an:Option Addr} {osl:Array (Option Value)} {kV doc pm cdv ct:Value}
  (l:K.lookup f=some ⟨oc,od,.func (PySem.W.fnOf x qual (jL st) (yX st) (zH st) dV kV doc pm an cdv ct),osl⟩) (c:PySem.W.codeIn K cdv qual=true) (k:PySem.W.keepIn K (.ref f)=true):HD K x qual st dV f:=⟨⟨oc,od,an,osl,kV,doc,pm,cdv,ct,l,c⟩,k⟩
theorem HD.fd {K:yM} {x qual:Str} {st:Stmt} {dV:Value} {f:Addr} (h:HD K x qual st dV f):∃ fd,FunD K x qual st dV f fd/\∃ kV doc pm an cdv ct,fd=PySem.W.fnOf x qual (jL st) (yX st) (zH st) dV kV doc pm an cdv ct:=by
 obtain⟨oc,od,an,osl,kV,doc,pm,cdv,ct,l,c⟩:=h.ex;exact⟨_,⟨⟨oc,od,kV,doc,pm,an,cdv,ct,osl,rfl,l,c⟩,h.kp⟩,kV,doc,pm,an,cdv,ct,rfl⟩
noncomputable def rH (f:Fn3):Prop:=∀ ws G (Q Q':Q3) E,'l'->f.sp ws G Q E->f.sp ws G Q' E
noncomputable def qT (p:Par) (f:Fn3):Prop:=FnE p f/\rH f
noncomputable def gU (m:Mt3):Prop:=∀ x ws G (Q Q':Q3),'l'->m.sp x ws G Q->m.sp x ws G Q'
noncomputable def tR (m:It3):Prop:=∀ ws G (R R':List W->(Hw->Prop)->Hw->Prop),(∀ a b c,R a b c->R' a b c)->m.sp ws G R->m.sp ws G R'
noncomputable def GlE (p:Par) (g:Str×W):Prop:=∀ X,Fits p X->Gl X g.1->∀ q:Pos,(g.1==("__debug__":Str))=false->g.1 ≠ "__name__" -> PE X (.Name g.1 q) (xW X.K λ_ G Q=>Q g.2 G)
theorem zhu {Γ:Ctx3} {p:Par} (un:p.A.units+200<cLine) (fn:∀ f∈Γ.fn,qT p f) (gl:∀ g∈Γ.gl,GlE p g) (mt:∀ m∈Γ.mt,MtE p m/\gU m) (it:∀ i∈Γ.it,ItE p i/\tR i)
  (cl:∀ c∈Γ.cl,Cls p.K c.1/\∀ f∈c.2,zgd p.K c.1 f) (sx:∀ k∈Γ.sx,SxE p k/\wH k.sp) (ix:Γ.ix=[]):Good Γ p where
 mono:=⟨λf hf=>(fn f hf).2,λm hm=>(mt m hm).2,λi hi=>(it i hi).2,λk hk=>(sx k hk).2,λk hk=>by rw[ix] at hk;cases hk⟩
 un:=un
 fn:=λf hf=>(fn f hf).1
 gl:=gl
 mt:=λm hm=>(mt m hm).1
 it:=λi hi=>(it i hi).1
 cl:=cl
 sx:=λk hk=>(sx k hk).1
 ix:=λk hk=>by rw[ix] at hk;cases hk
theorem yD {α:Type} {P:α->Prop}:∀ x∈([]:List α),P x:=λ_ h=>nomatch h
theorem zJ {α:Type} {P:α->Prop} {a:α} {l:List α} (h:P a) (t:∀ x∈l,P x):∀ x∈a::l,P x:=λx hx=>by
 rcases Zh.mp hx with rfl|hx
 .exact h
 .exact t x hx
theorem rM {α:Type} {P:α->Prop} {a:α} {l:List α} (t:∀ x∈l,P x) (h:P a):∀ x∈l++[a],P x:=λx hx=>by
 rcases ZA.mp hx with hx|hx
 .exact t x hx
 .rw[zzO hx];exact h
theorem wQ {q:Pr} {A:Around} {x:Str} {w:W} {u:Value} {v:V} (hm:q.mg x=some u) (r:yV v u) (rp:∀ H,xF q.K H w v):GlE (q.at A) (x,w):=by
 intro X fits gl qp hd hn;have hm':X.mg x=some u:=by rw[fits.mg];exact hm
 refine(zgV gl hm' r hd).imp λτ H Q h=>?_;obtain⟨σ,G,hs,ab,h⟩:=h;exact h v H .refl (by have:=rp H;rw[fits.K];exact this) ab
theorem zhz {q:Pr} {A:Around} {x:Str} {T:String} (hm:q.mg x=none) (hv:bootBuiltins x=some (.type T)):GlE (q.at A) (x,.ty T):=by
 intro X fits gl qp hd hn;have hm':X.mg x=none:=by rw[fits.mg];exact hm
 refine(zgZ (v:=.ty T) gl hm' hv rfl hn hd).imp λτ H Q h=>?_;obtain⟨σ,G,hs,ab,h⟩:=h;exact h (.ty T) H .refl rfl ab
theorem zcu:tR ⟨"range", rngI⟩:=by
 intro ws G R R' k h;replace h:rngI ws G R:=h;show rngI ws G R';unfold rngI at h ⊢
 split at h
 .exact ⟨h.1,k _ _ _ h.2⟩
 .exact h.elim
noncomputable def zcc:tO:=λws G Q _=>∃ a base ns,ws=[a,.int base]/\cP G a ns/\ns.length<=63/\(0<=base/\base<=1000)/\∀ d l G',G d=none->G l=none->zK [] G G'->jJ G' d l->Q (.ref d) G'
noncomputable def zcb:tO:=λws G Q _=>∃ d l m,ws=[.ref d,.int m]/\jJ G d l/\(0<m/\m<1073741824)/\∀ r G',0<=r->r<m->zK [d,l] G G'->jJ G' d l->Q (.int r) G'
theorem zag:rH ⟨"_law_deal", zcc⟩:=λws G Q Q' E k hh=>by
 obtain⟨a,b,ns,h1,h2,h3,h4,h⟩:=hh;exact⟨a,b,ns,h1,h2,h3,h4,λd l G' a b c e=>k _ _ (h d l G' a b c e)⟩
theorem zaf:rH ⟨"_law_draw", zcb⟩:=λws G Q Q' E k hh=>by
 obtain⟨a,b,m,h1,h2,h3,h⟩:=hh;exact⟨a,b,m,h1,h2,h3,λd l a b c e=>k _ _ (h d l a b c e)⟩
noncomputable abbrev zkx:Fn3:=⟨"_law_deal", zcc⟩
noncomputable abbrev zfk:Fn3:=⟨"_law_draw", zcb⟩
noncomputable abbrev eAll:Fn3:=⟨"all",λws G Q _=>allS (·.all id) ws G Q⟩
noncomputable abbrev eLst:Fn3:=⟨"list",λws G Q _=>lstS ws G Q⟩
noncomputable abbrev eRng:It3:=⟨"range", rngI⟩
section
variable {q:Pr} {A:Around} {k:Nat}
theorem zhL (hm:q.mg "max" = none):qT (q.at A) eMax:=⟨hU hm (by decide +kernel) (λX f=>zjz f.calm) dU (λ_ _ h=>h),λws G Q Q' _ k h=>dU ws G Q Q' k h⟩
theorem zhN (hm:q.mg "len" = none):qT (q.at A) rC:=⟨hU hm (by decide +kernel) (λX f=>zjF) dP (λ_ _ h=>h),λws G Q Q' _ k h=>dP ws G Q Q' k h⟩
theorem zhS (hm:q.mg "all" = none):qT (q.at A) eAll:=⟨hU hm (by decide +kernel) (λX f=>zkG f.calm) (cS _) (λ_ _ h=>h),λws G Q Q' _ k h=>cS _ ws G Q Q' k h⟩
theorem zhM (hm:q.mg "list" = none):qT (q.at A) eLst:=⟨zhB hm (by decide +kernel) (λX f=>zjD) dQ (λ_ _ h=>h),λws G Q Q' _ k h=>dQ ws G Q Q' k h⟩
theorem zhK:MtE (q.at A) ePop/\gU ePop:=⟨bN ZaY PySem.F.slot_list_pop PySem.F.type_list_pop (λX f=>zi8) fN,fN⟩
theorem zhI (hm:q.mg "range" = none):ItE (q.at A) eRng/\tR eRng:=⟨zjZ hm,zcu⟩
theorem zhJ (hl:q.mg "list" = none) (hm:q.mg "reversed" = none):SxE (q.at A) eRev/\wH eRev.sp:=⟨ziC hl hm (by decide +kernel) fQ (λX f=>ziV f.calm),fQ⟩
end
theorem FnE.imp {p:Par} {nm:Str} {sp sp':tO} (h:FnE p ⟨nm,sp'⟩) (k:∀ ws G Q,sp ws G Q XN->sp' ws G Q XN):FnE p ⟨nm,sp⟩:=by
 intro X fits gl args t qp pos mt hn pa hnil hdb hnm;refine(h X fits gl args t qp pos mt hn pa hnil hdb hnm).imp λτ H Q z=>?_;obtain⟨σ,G,hs,ab,z⟩:=z;exact⟨σ,G,hs,ab,mt σ G _ _ (λws G1 z=>k _ _ _ z) z⟩
theorem kP {K:yM} {x qual:Str} {st:Stmt} {f:Addr} {fd:FuncData} {ps:List Str} (F:FunD K x qual st .none f fd)
  (h:∀ (kV doc pm:Value) (an:Option Addr) (cdv ct:Value) (us:List Value),us.length=ps.length->bindArgs (PySem.W.fnOf x qual (jL st) (yX st) (zH st) .none kV doc pm an cdv ct) ⟨us,[]⟩=pure (ps.zip us)):qG K fd ps []:=by
 obtain⟨oc,od,kV,doc,pm,an,cdv,ct,osl,rfl,lk,hcd⟩:=F.ex;exact .all (h kV doc pm an cdv ct)
theorem pS {q:Pr} {j k:Nat} {nm:Str} {f:Addr} {fd:FuncData} {ps:List Str} {sp:tO} (FO:FnOk q.prog q.w q.K q.mg q.base CX0 j f fd ps (vE q.K sp)) (hm:q.mg nm=f⁻¹) (hk:PySem.W.keepIn q.K (.ref f)=true) (hb:qG q.K fd ps [])
  (mono:rH ⟨nm,sp⟩) {A:Around} (hr:Room k A) (hjk:j<=k):qT (q.at A) ⟨nm,sp⟩ :=
 ⟨(zkq (dws:=[]) (dvs:=[]) (FO.mono hjk) hm hk hb (λ_=>rfl) .nil (λws G Q Q' z h=>mono ws G Q Q' XN z h) hr).imp λws G Q h=>by rw[Zq];exact h,mono⟩
noncomputable def fT:tO:=λws G Q _=>∃ a ns,ws=[a]/\cP G a ns/\ns.length<=63/\∀ G',Q (.bl true) G'
theorem uV {K:yM} {H:Hp}:∀ ns:List Int,yY K H (ns.map W.int) (ns.map V.int)
 | []=>rfl
 |n::ns=>⟨.int n,_,rfl,rfl,uV ns⟩
theorem zc2 {K:yM} {H:Hp} {a:Addr} {ns:List Int} (hl:ns.length<=63) (hS:sL K H a (ns.map V.int)):vE K fT [.ref a] H (λv _=>v=.bl true) λ_ _ _=>False:=by
 rcases hS with hS|hS
 .refine ⟨[.ref a],λb=>if b=a then some (.fix (ns.map W.int)) else none,⟨_,[],rfl,rfl,rfl⟩,?_,.ref a,ns,rfl,.inl ⟨a,rfl,by simp[yN]⟩,hl,λG' v H' _ r _=>r⟩;intro b o e;dsimp only at e
  by_cases hb:b=a
  .subst hb;rw[if_pos rfl] at e;cases e;rcases hS with hS|⟨ob,hS⟩
   .exact ⟨_,hS,_,default,.inl rfl,uV ns⟩
   .exact ⟨_,hS,_,ob,.inr rfl,uV ns⟩
  .rw[if_neg hb] at e;cases e
 .exact ⟨[.lsf (ns.map W.int)],λ_=>none,⟨_,[],rfl,⟨a,_,rfl,hS,uV ns⟩,rfl⟩,(λb o e=>nomatch e),.lsf (ns.map W.int),ns,rfl,.inr rfl,hl,λG' v H' _ r _=>r⟩
theorem walk3 {l:PySem.W.OpenLaw} {k:Nat} {q:Program} {loose:List Str} {XP:(Str->Option Value)->Heap->Prop} {YP:World->Heap->Prop} {d:DefRec} {K:Params->PySem.W.Frag} (hn:l.most=some 63) (hdf:d.params.defaults=[]) (hr:Room k callerA)
  (hY:∀ (w:World) (h:Heap),YP w h->(K w.params).In h)
  (F:∀ (w:World) (mg:Str->Option Value) (fa:Addr) (h:Heap),(K w.params).In h->h.Ns mainGlobals mg->mg d.name=fa⁻¹ ->
   ∃ fd:FuncData,(∀ (s:Shared) (u:Value),BindsTo s fd ⟨[u],[]⟩ [("_law_script", u)])/\fd.scope.names.lookup ("_law_script":Str)=some .local/\∀ base:Heap,(K w.params).In base->base.Ns mainGlobals mg->FnOk l.prog w (K w.params) mg base CX0 k fa fd ["_law_script"] (vE (K w.params) fT)) :
  PySem.W.WalkO q loose XP YP l.row.toRowW d [] (λf vs=>PySem.call f vs) :=
 L2.walk_of (n:=63) (k:=k) (x := "_law_script") (CX:=λ_=>CX0) (sp:=λw=>vE (K w.params) fT) hn 'c' hdf hr hY F (λ_ _ a ns hl _ hS=>zc2 hl hS) λ_ _ _ _ _ z=>z
end L3
namespace L3
open PySem PySem.Spec PyProof.Rows L2 PySem.SeqAt
noncomputable def dN:MS:=λx ws G Q=>match x,ws with
 | .str sep,[.ref p]=>∃ ts:List Str,yN G p=some (ts.map .str)/\JoinOk sep ts=true/\Q (.str (Txt.join sep ts)) G
 |_,_=>False
theorem mB:∀ x ws G (Q Q':Q3),'l'->dN x ws G Q->dN x ws G Q':=by
 intro x ws G Q Q' k h;unfold dN at h ⊢
 split at h
 .obtain ⟨ts,e,o,h⟩:=h;exact⟨ts,e,o,k _ _ h⟩
 .exact h.elim
theorem fV {K:yM} {H:Hp}:∀ {ts:List Str} {vs:List V} {us:List Value},yY K H (ts.map .str) vs->yW vs us->∃ l:List (Str×Tok),l.map (·.1)=ts/\us=strValues l
 | [],vs,us,r,v=>by cases(show vs=[] from r);cases v;exact⟨[],rfl,rfl⟩
 |t::ts,vs,us,r,v=>by
  obtain⟨x,tl,rfl,rx,rt⟩:=r;cases(show x=.str t from rx)
  cases v with
  |cons a c =>
   obtain⟨tk,rfl⟩:=a;obtain⟨l,e1,e2⟩:=fV rt c;exact⟨(t,tk)::l,by rw[zzU,e1],by rw[e2];rfl⟩
theorem zhg {X:Cx}:MtR X "str.join" (lowM X.K dN):=by
 intro pins s σ H x xs v us Q I rx rxs h;obtain⟨w,ws,G,rw1,rs,ab,h⟩:=h;unfold dN at h
 split at h
 .rename_i sep p;cases(show x=.str sep from rw1);obtain⟨y,rfl,ry⟩:=jN rs;cases(show y=.ref p from ry);obtain⟨u,rfl,ru⟩:=jX rxs;cases(show u=Value.ref p from ru);obtain⟨t,rfl⟩:=rx;obtain⟨ts,e,ok,h⟩:=h;obtain⟨vs,sq,rr⟩:=ab.seq e;obtain⟨its,vv,pl,hz⟩:=I.list sq;obtain⟨l,e1,e2⟩:=fV rr vv;subst e2;exact jO I.tk (SC.join pl.isList e1 ok λt' k h0=>⟨.str (Txt.join sep ts),H,I.tok _ h0,⟨t',rfl⟩,h _ H .refl rfl ab⟩)
 .exact h.elim
noncomputable abbrev zfj:Mt3:=⟨"join", "str", dN⟩
theorem zfh {q:Pr} {A:Around}:MtE (q.at A) zfj/\gU zfj:=⟨bN PySem.F.plainAttrs_str PySem.F.slot_str_join PySem.F.type_str_join (λX f=>zhg) mB,mB⟩
noncomputable def intS:RS:=λws G Q=>match ws with
 | [.int i]=>Q (.int i) G
 | [.bl b]=>Q (.int (if b then 1 else 0)) G
 |_=>False
theorem dJ:wH intS:=by
 intro ws G Q Q' k h;unfold intS at h ⊢
 split at h
 .exact k _ _ h
 .exact k _ _ h
 .exact h.elim
theorem zj5 {X:Cx}:wW X (.type "int") (tB X.K intS):=by
 intro pins s σ H xs us Q I r h;obtain⟨ws,G,rs,ab,h⟩:=h;unfold intS at h
 split at h
 .rename_i i;obtain⟨v,rfl,rv⟩:=jN rs;cases(show v=.int i from rv);exact dB pins s σ H _ us Q I r (.inl ⟨i,rfl,h _ H .refl rfl ab⟩)
 .rename_i b;obtain⟨v,rfl,rv⟩:=jN rs;cases(show v=.bl b from rv);exact dB pins s σ H _ us Q I r (.inr ⟨b,rfl,h _ H .refl rfl ab⟩)
 .exact h.elim
noncomputable abbrev eInt:Fn3:=⟨"int",λws G Q _=>intS ws G Q⟩
theorem zhP {q:Pr} {A:Around} (hm:q.mg "int" = none):qT (q.at A) eInt:=⟨zhB hm (by decide +kernel) (λX f=>zj5) dJ (λ_ _ h=>h),λws G Q Q' _ k h=>dJ ws G Q Q' k h⟩
theorem zjJ {X:Cx} {pins:PL} {σ:L2.St} {H:Hp} {s:Shared} {G:Hw} {w:W} {v:V} {u:Value} {T:String} (I:Inv X pins σ H s) (ab:xP X.K H G) (rv:xF X.K H w v) (ru:yV v u) (ty:tyO G w=some T) :
  ∃ HH:Heap->Prop,PySem.W.KitX X.K u (.type T) HH/\HH s.heap/\u≠.builtin "__main__.__loader__#opaque" := by
 cases w with
 |non=>cases ty;cases(show v=.non from rv);cases(show u=Value.none from ru);exact⟨_,PySem.W.kitx_none,True.intro,λz=>nomatch z⟩
 |bl x=>cases ty;cases(show v=.bl x from rv);cases(show u=Value.bool x from ru);exact⟨_,PySem.W.kitx_bool,True.intro,λz=>nomatch z⟩
 |int x=>cases ty;cases(show v=.int x from rv);obtain⟨t,rfl⟩:=(show ∃ t,u=Value.int x t from ru);exact⟨_,PySem.W.kitx_int,True.intro,λz=>nomatch z⟩
 |str x=>cases ty;cases(show v=.str x from rv);obtain⟨t,rfl⟩:=(show ∃ t,u=Value.str x t from ru);exact⟨_,PySem.W.kitx_str,True.intro,λz=>nomatch z⟩
 |tup ws' =>
  cases ty;obtain⟨a,vs,rfl,sq,rr⟩:=rv;cases(show u=Value.ref a from ru);obtain⟨its,_,p,_⟩:=I.tuple sq;obtain⟨o,h1,h2,_⟩:=p;exact⟨_,PySem.W.kitx_tuple,⟨o,h1,h2⟩,λz=>nomatch z⟩
 |ref p =>
  cases(show v=.ref p from rv);cases(show u=Value.ref p from ru);simp only[tyO] at ty
  have lk:∀ ws',yN G p=some ws'->∃ HH:Heap->Prop,PySem.W.KitX X.K (.ref p) (.type "list") HH/\HH s.heap/\Value.ref p≠.builtin "__main__.__loader__#opaque" :=λws' el=>by
   obtain⟨vs,sq,rr⟩:=ab.seq el;obtain⟨its,_,pl,_⟩:=I.list sq;obtain⟨o,ho,hc,_⟩:=pl.isList;exact⟨_,PySem.W.kitx_list,⟨o,ho,hc⟩,λz=>nomatch z⟩
  split at ty
  .rename_i ws' eg;cases ty;exact lk ws' (by unfold yN;rw[eg])
  .rename_i ws' eg;cases ty;exact lk ws' (by unfold yN;rw[eg])
  .rename_i kvs eg;cases ty;obtain⟨l,e',rl⟩:=ab.dic eg;obtain⟨_,_,vs,_,o,_,_,e1,e2,_⟩:=(show xK X.prog X.w H s.heap p (.dK l) from I.hok p _ e');exact⟨_,PySem.W.kitx_dict,⟨o,e1,e2.1⟩,λz=>nomatch z⟩
  .cases ty
 |_=>cases ty
noncomputable def zd3:List W->Option (List String)
 | []=>some []
 | .ty T::r=>(zd3 r).map (T::·)
 |_=>none
theorem zaP {K:yM} {H:Hp}:∀ {ws:List W} {Ts:List String} {vs:List V} {us:List Value},zd3 ws=some Ts->yY K H ws vs->yW vs us->us=Ts.map .type
 | [],Ts,vs,us,e,r,v=>by cases e;cases(show vs=[] from r);cases v;rfl
 |w::ws,Ts,vs,us,e,r,v=>by
  cases w with
  |ty T =>
   simp only[zd3] at e;obtain⟨Ts',e',rfl⟩:=ZK.mp e;obtain⟨x,tl,rfl,rx,rt⟩:=r;cases(show x=.ty T from rx)
   cases v with
   |cons a c =>
    cases(show _=Value.type T from a);rw[zaP e' rt c];rfl
  |_=>cases e
noncomputable def isjS (K:yM):RS:=λws G Q=>match ws with
 | [x,.ty T]=>∃ T' b,tyO G x=some T'/\PySem.W.kitOne K (.type T') (.type T)=some b/\Q (.bl b) G
 | [x,.tup ts]=>∃ T' b Ts,tyO G x=some T'/\zd3 ts=some Ts/\PySem.W.kitAny K (.type T') (Ts.map .type)=some b/\Q (.bl b) G
 |_=>False
theorem zda (K:yM):wH (isjS K):=by
 intro ws G Q Q' k h;unfold isjS at h ⊢
 split at h
 .obtain ⟨T',b,e,e',h⟩:=h;exact⟨T',b,e,e',k _ _ h⟩
 .obtain ⟨T',b,Ts,e,e',e2,h⟩:=h;exact⟨T',b,Ts,e,e',e2,k _ _ h⟩
 .exact h.elim
theorem zj1 {X:Cx}:wW X (.builtin "isinstance") (tB X.K (isjS X.K)):=by
 intro pins s σ H xs us Q I r h;obtain⟨ws,G,rs,ab,h⟩:=h;unfold isjS at h
 split at h
 .rename_i w T;obtain⟨v,y,rfl,rv,ry⟩:=nV rs;cases(show y=.ty T from ry);obtain⟨u,c,rfl,ru,rc⟩:=pK r;cases(show c=Value.type T from rc);obtain⟨T',b,ty,e,h⟩:=h;obtain⟨HH,kx,hp,hb⟩:=zjJ I ab rv ru ty;exact jO I.tk (ZbW kx I.kIn hp e hb λtk h0=>⟨.bl b,H,I.tok _ h0,rfl,h _ H .refl rfl ab⟩)
 .rename_i w ts;obtain⟨v,y,rfl,rv,ry⟩:=nV rs;obtain⟨u,c,rfl,ru,rc⟩:=pK r;obtain⟨T',b,Ts,ty,et,e,h⟩:=h;obtain⟨a,vs,rfl,sq,rr⟩:=ry;cases(show c=Value.ref a from rc);obtain⟨its,vv,p,_⟩:=I.tuple sq;obtain⟨⟨oc,od,dt,sl⟩,h1,h2,n,h3⟩:=p;cases(show oc=_ from h2);cases(show dt=_ from h3);have ei:=zaP et rr vv;subst ei;obtain⟨HH,kx,hp,hb⟩:=zjJ I ab rv ru ty;exact jO I.tk (PySem.W.kia_tup kx I.kIn hp h1 e hb λtk h0=>⟨.bl b,H,I.tok _ h0,rfl,h _ H .refl rfl ab⟩)
 .exact h.elim
theorem zfL {q:Pr} {k:Nat} {M:MC} {nm qual:Str} {st:Stmt} {f:Addr} {fd:FuncData} {ps:List Str} {sp:Nat->tO} {body:ISs} {Γ:Fn3->Ctx3} (F:FunD q.K nm qual st .none f fd) (S:FnScope M.N ps (zH st))
  (hm:q.mg nm=f⁻¹) (hb:qG q.K fd ps []) (h0:∀ ws G Q,¬ sp 0 ws G Q XN) (len:∀ n ws G Q,sp n ws G Q XN->ws.length=ps.length) (mono:∀ n,rH ⟨nm,sp n⟩)
  (g:∀ n A,Room k A->qT (q.at A) ⟨nm,sp n⟩->Good (Γ ⟨nm,sp n⟩) (q.at A)) (eM:∀ n,MOk (Γ ⟨nm,sp n⟩) M (zH st)) (look:vP body M (yX st)=true)
  (hbd:∀ n ws G Q,sp (n+1) ws G Q XN->zB (Γ ⟨nm,sp n⟩) XN body { nx:=λ_ G'=>Q .non G',rt:=Q} (yL M.N ws) G):∀ n,FnOk q.prog q.w q.K q.mg q.base CX0 (k+n) f fd ps (vE q.K (sp n))
 | 0=>⟨λvs H Q E ⟨ws,G,_,_,h⟩=>absurd h (h0 _ _ _),λA outer s H args us vs Q E _ _ _ _ ⟨ws,G,_,_,h⟩=>absurd h (h0 _ _ _),λx _ _ A outer s H args us vs Q E _ _ _ _ ⟨ws,G,_,_,h⟩=>absurd h (h0 _ _ _)⟩
 |n+1=>zay (k:=k+n) F S (λA hr=>g n A (hr.mono (Nat.le_add_right _ _)) (pS (zfL F S hm hb h0 len mono g eM look hbd n) hm F.kp hb (mono n) hr (zzR _))) (eM n) look (len (n+1)) (hbd n)
end L3
namespace L2
open PySem PySem.Spec PyProof.Rows
section
variable {a b:Bool} {z TI TO i1 i2 l1 l2:Addr}
theorem zp_go {P:Program} {w:World} {A:Around} {E:VP} {s:Shared} {tg:Expr} {u:Value} {i:Nat} {Q:Unit->Shared->Prop} (hd:[z,TI,TO,i1,i2].Nodup) (st:vQ a b z TI TO i1 i2 l1 l2 i s.heap)
  (h:∀ h',vQ a b z TI TO i1 i2 l1 l2 i h'->(∀ c o,c≠z->s.heap.get? c=some o->h'.get? c=some o)->Q () {s with heap:=h'}):wpAny (model P w) A (letOwnedTupleGo tg (.ref z) u) Q E s:=by
 have stay:Q () s:=h s.heap st λ_ _ _ e=>e
 have core:wpAny (model P w) A (do
   let (.ref r,.ref t):=(Value.ref z,u)|return
   let o ← load r
   match o.cls,o.data with
   | .type n,.fields vs =>
    if ["enumerate", "zip", "dict_itemiterator", "dict_reverseitemiterator", "odict_iterator", "itertools.zip_longest", "itertools.pairwise"].contains n&&vs[0]?==some (rawInt t) then
     rule "for.unpacks-the-owned-tuple"
     updateField r 0 .none
   |_,_=>pure ()) Q E s:=by
  cases u with
  |ref t =>
   obtain⟨f0,f1,hz,h0,h1,hTI,⟨p,q,hTO⟩,s1,s2⟩:=st;refine Za (wpAny_load hz ?_);dsimp only
   split
   .refine Za (ZbH ?_);show wpAny _ _ (setField (.ref z) 0 .none) Q E s;refine Z7 hz 'g' λh' hz' hs'=>h h' ⟨.none,f1,hz',.inl rfl,h1,?_,⟨p,q,?_⟩,s1.at ?_,s2.at ?_⟩ λc o hc e=>(hs'.2 c hc).trans e
    all_goals simp only[Zar,Zh,Zt,or_false,not_or,Zby,not_false_eq_true,and_true] at hd
    .exact (hs'.2 _ (Ne.symm hd.1.1)).trans hTI
    .exact (hs'.2 _ (Ne.symm hd.1.2.1)).trans hTO
    .exact λo e=>(hs'.2 _ (Ne.symm hd.1.2.2.1)).trans e
    .exact λo e=>(hs'.2 _ (Ne.symm hd.1.2.2.2)).trans e
   .exact Zc stay
  |_=>exact Zc stay
 cases tg with
 |Tuple es x p=>exact core
 |List es x=>exact core
 |_=>exact Zc stay
theorem zgf (P:Program) (w:World) (K:PySem.W.Frag) (tg:Expr) (hd:[z,TI,TO,i1,i2].Nodup) (n1:l1∉[z,TI,TO,i1,i2]) (n2:l2∉[z,TI,TO,i1,i2]):Turn P w K tg (Itz a b K l1 l2) [z,TI,TO,i1,i2] z (vQ a b z TI TO i1 i2 l1 l2) where
 mem:=by simp
 obj:=λi h x=>x.obj
 keep:=λi h h' x k=>x.keep k
 item:=by
  intro X e1 e2 e3 hc i pins s σ H E I hf st go;subst e1;subst e2;subst e3;refine thn (zgg (I.ok.hd hc) hd n1 n2 I hf st go) λr s2 ⟨u,x,H',q1,q2,q3,q4,q5,_,q6⟩=>⟨u,q1,zp_go hd q5 λh' st' k=>⟨x,H',?_,q3,q4,st',q6⟩⟩;refine q2.turns (t':=s2.toks) (fp:=[z]) (λc hcz=>?_) λc o hcz e=>k c o (λz=>hcz (by rw[z];simp)) e;rw[ZJ] at hcz;subst hcz;obtain⟨_,f2,f3,f4,f5,f6⟩:=hf c 'g';exact⟨q6 c 'g',f2,f3,f4,f5,f6⟩
 done:=by
  intro X e1 e2 e3 hc i pins s σ H E I hf st stop;subst e1;subst e2;subst e3;exact zgj (I.ok.hd hc) hd n1 n2 I hf st stop
 self:=λA i s Q E st h=>zbS st h
end
end L2
namespace L3
open PySem PySem.Spec PyProof.Rows L2 PySem.SeqAt
noncomputable def zipI (ws:List W) (G:Hw) (R:List W->(Hw->Prop)->Hw->Prop):Prop:=match ws with
 | [x,y]=>∃ xs ys,xD G x=some xs/\xD G y=some ys/\R (List.zipWith (λa b=>W.tup [a,b]) xs ys) (λG'=>xD G' x=some xs/\xD G' y=some ys) G
 |_=>False
theorem zbT:tR ⟨"zip", zipI⟩:=by
 intro ws G R R' k h;replace h:zipI ws G R:=h;show zipI ws G R';unfold zipI at h ⊢
 split at h
 .obtain ⟨xs,ys,e1,e2,h⟩:=h;exact⟨xs,ys,e1,e2,k _ _ _ h⟩
 .exact h.elim
noncomputable def gQ (w:W):Bool:=match w with|.tup _=>true|_=>false
theorem kK {K:yM} {H1 H:Hp} {G1 G:Hw} {w:W} {a:Addr} {vs:List V} {b:Bool} {xs:List W} (g:yO K H1 H) (ab:xP K H G) (r1:xF K H1 w (.ref a)) (b1:xD G1 w=some xs) (sq1:pN b K H1 a vs) (hb:b=gQ w) (st:xD G w=some xs) (rr1:yY K H1 xs vs) :
  ∃ vs',pN b K H a vs'/\yY K H xs vs':=by
 cases w with
 |tup ws =>
  subst hb;exact⟨vs,g.1 _ _ sq1,rr1.mono g⟩
 |ref p =>
  subst hb;cases(show V.ref a=.ref p from r1);obtain⟨vs',sq,rr⟩:=ab.seq st;exact⟨vs',sq,rr⟩
 |_=>cases b1
theorem tJ {K:yM} {H:Hp} {G:Hw} {w:W} {v:V} {xs:List W} (ab:xP K H G) (r:xF K H w v) (e:xD G w=some xs):∃ a vs,v=.ref a/\pN (gQ w) K H a vs/\yY K H xs vs:=by
 cases w with
 |tup ws =>
  obtain⟨a,vs,rfl,sq,rr⟩:=r;cases e;exact⟨a,vs,rfl,sq,rr⟩
 |ref p =>
  cases(show v=.ref p from r);obtain⟨vs,sq,rr⟩:=ab.seq e;exact⟨p,vs,rfl,sq,rr⟩
 |_=>cases e
theorem zjT {K:yM} {H1:Hp} {G1:Hw} {x y:W} {a1 a2:Addr} {vx vy:List V} {xs ys:List W} (rx:xF K H1 x (.ref a1)) (ry:xF K H1 y (.ref a2)) (ex:xD G1 x=some xs) (ey:xD G1 y=some ys) (sx:pN (gQ x) K H1 a1 vx) (sy:pN (gQ y) K H1 a2 vy)
  (rrx:yY K H1 xs vx) (rry:yY K H1 ys vy):ItIs K (Itz (gQ x) (gQ y) K a1 a2) H1 (List.zipWith (λa b=>W.tup [a,b]) xs ys) (λG'=>xD G' x=some xs/\xD G' y=some ys) where
 go:=λi H G g ab st hi=>by
  obtain⟨vx',sx',rx'⟩:=kK g ab rx ex sx rfl st.1 rrx;obtain⟨vy',sy',ry'⟩:=kK g ab ry ey sy rfl st.2 rry;have h1:=rx'.length;have h2:=ry'.length;rw[List.length_zipWith] at hi;exact⟨vx',vy',vx'[i]''f',vy'[i]''f',sx',sy',Zf _,Zf _⟩
 yld:=λi H G v H' g ab st hi yl=>by
  obtain⟨vx',sx',rx'⟩:=kK g ab rx ex sx rfl st.1 rrx;obtain⟨vy',sy',ry'⟩:=kK g ab ry ey sy rfl st.2 rry;obtain⟨p,x',y',rfl,hp,rfl,e2,e3⟩:=yl;have e2:=e2 vx' sx';have e3:=e3 vy' sy';obtain⟨wx,ewx,rpx⟩:=rx'.get' e2;obtain⟨wy,ewy,rpy⟩:=ry'.get' e3;have gr:yO K H (yG H p (.tup [x',y'])):=yB hp;refine⟨.tup [wx,wy],?_,gr,⟨p,[x',y'],rfl,.of yI,⟨_,_,rfl,rpx.mono gr,_,_,rfl,rpy.mono gr,rfl⟩⟩,ab.tup hp⟩;rw[List.getElem?_zipWith,ewx,ewy]
 stop:=λi H G g ab st hi=>by
  obtain⟨vx',sx',rx'⟩:=kK g ab rx ex sx rfl st.1 rrx;obtain⟨vy',sy',ry'⟩:=kK g ab ry ey sy rfl st.2 rry;have h1:=rx'.length;have h2:=ry'.length;rw[List.length_zipWith] at hi;refine⟨vx',vy',sx',sy',?_⟩
  by_cases hl:xs.length<=ys.length
  .left;rw[Zba];omega
  .right;rw[Zba];omega
theorem zjY {q:Pr} {A:Around} (hm:q.mg "zip" = none):ItE (q.at A) ⟨"zip", zipI⟩:=by
 intro X fits gl tg args t qp pos mt hn pa hnil hdb hnm;have hm':X.mg "zip" = none:=by rw[fits.mg];exact hm
 intro pins s σ H R I h
 cases args with
 |nil =>
  obtain⟨σ3,G,hs,ab,h⟩:=h;exact(hnil rfl _ _ _ h).elim
 |cons a r =>
  obtain⟨s1,s2⟩:=xX (env:=X.env) (pos:=pos) hn;obtain⟨σ3,G,hs,ab,h⟩:=h
  have h':=uX (S:=λvs H1=>∃ x y a1 a2 vx vy,vs=[.ref a1,.ref a2]/\pN (gQ x) X.K H1 a1 vx/\pN (gQ y) X.K H1 a2 vy/\R (Itz (gQ x) (gQ y) X.K a1 a2) H1) mt hs ab h λws G1 vs H1 g1 hs1 rs a1 h=>by
   dsimp only at h;unfold zipI at h
   split at h
   .rename_i x y;obtain⟨v1,v2,rfl,r1,r2⟩:=nV rs;obtain⟨xs,ys,ex,ey,h⟩:=h;obtain⟨p1,vx,rfl,sx,rx⟩:=tJ a1 r1 ex;obtain⟨p2,vy,rfl,sy,ry⟩:=tJ a1 r2 ey;exact⟨x,y,p1,p2,vx,vy,rfl,sx,sy,h _ H1 g1 a1 (zjT r1 r2 ex ey sx sy rx ry)⟩
   .exact h.elim
  refine Call_ (vA I gl hm' (by decide +kernel:bootBuiltins "zip" = some (.type "zip")) (ZW (thn (pa pos pins s σ H _ I h') λus s1 ⟨vs,H1,I1,r1,q1⟩=>?_) s1 s2));obtain⟨x,y,a1,a2,vx,vy,e,sx,sy,q⟩:=q1;subst e;obtain⟨u1,u2,rfl,ru1,ru2⟩:=pK r1;cases(show u1=Value.ref a1 from ru1);cases(show u2=Value.ref a2 from ru2);obtain⟨itx,vvx,ssx,hzx⟩:=I1.sqB sx;obtain⟨ity,vvy,ssy,hzy⟩:=I1.sqB sy
  have lt1:a1<s1.heap.objs.size:=by
   cases hb:gQ x<;>rw[hb] at ssx<;>(obtain⟨o,ho,_⟩:=ssx;exact Zd ho)
  have lt2:a2<s1.heap.objs.size:=by
   cases hb:gQ y<;>rw[hb] at ssy<;>(obtain⟨o,ho,_⟩:=ssy;exact Zd ho)
  refine zh3 ssx ssy λh' z1 z2 z3 z4 z5 z6 z7=>?_;have I2:Inv X pins σ H1 {s1 with heap:=h',toks:=s1.toks}:=I1.kept z7;have hd:=zbK s1.heap.objs.size;have n1:=zbh _ _ lt1;have n2:=zbh _ _ lt2;have hf:∀ b∈[s1.heap.objs.size+4,s1.heap.objs.size+2,s1.heap.objs.size+3,s1.heap.objs.size,s1.heap.objs.size+1],qU X pins H1 b:=λb hb=>I1.fpOk (zdm _ _ hb) (I1.hok.fresh (zdm _ _ hb));have st:vQ (gQ x) (gQ y) (s1.heap.objs.size+4) (s1.heap.objs.size+2) (s1.heap.objs.size+3) s1.heap.objs.size (s1.heap.objs.size+1) a1 a2 0 h':=⟨.none,.bool false,z1,.inl rfl,.inl rfl,z2,⟨_,_,z3⟩,z4,z5⟩;refine zbS st ⟨_,_,_,_,H1,rfl,I2,zgf X.prog X.w X.K tg hd n1 n2,st,hf,q⟩
noncomputable abbrev eZpi:It3:=⟨"zip", zipI⟩
theorem zhF {q:Pr} {A:Around} (hm:q.mg "zip" = none):ItE (q.at A) eZpi/\tR eZpi:=⟨zjY hm,zbT⟩
noncomputable def gO {α:Type} (n:Nat) (R:α->Prop):PySem.W.KasT α->Prop
 | .ret a=>R a
 | .ask i j k=>i<n/\j<n/\∀ b,gO n R (k b)
theorem gO.bnd {α β:Type} {n:Nat} {R:α->Prop} {R':β->Prop} {f:α->PySem.W.KasT β} (hf:∀ a,R a->gO n R' (f a)):∀ {t:PySem.W.KasT α},gO n R t->gO n R' (t.bind f)
 | .ret a,h=>hf a h
 | .ask i j k,h=>⟨h.1,h.2.1,λb=>gO.bnd hf (h.2.2 b)⟩
noncomputable def krun {α:Type} (lt:Nat->Nat->Bool):PySem.W.KasT α->α
 | .ret a=>a
 | .ask i j k=>krun lt (k (lt i j))
theorem zc3 {α:Type} {n:Nat} {R:α->Prop} (lt:Nat->Nat->Bool):∀ {t:PySem.W.KasT α},gO n R t->R (krun lt t)
 | .ret a,h=>h
 | .ask i j k,h=>by
  show R (krun lt (k (lt i j)));exact zc3 lt (h.2.2 (lt i j))
theorem zfY {α:Type} {n:Nat} {R:α->Prop} {lt:Nat->Nat->Bool} {cmp:Nat->Nat->(Bool->Shared->Prop)->Shared->Prop} {Q:α->Shared->Prop} {s:Shared} (hc:∀ i j C,i<n->j<n->C (lt i j) s->cmp i j C s) :
  ∀ {t:PySem.W.KasT α},gO n R t->Q (krun lt t) s->t.kasWp cmp Q s
 | .ret a,_,h=>h
 | .ask i j k,o,h=>hc i j _ o.1 o.2.1 (zfY hc (o.2.2 _) h)
noncomputable def Pm (n:Nat) (p:Array Nat):Prop:=p.Perm (List.toArray (List.range n))
theorem Pm.lt {n:Nat} {p:Array Nat} (h:Pm n p) (hn:0<n) (i:Nat):p.getD i 0<n:=by
 by_cases hi:i<p.size
 .have e:p.getD i 0=p[i]:=by simp[Array.getD,hi]
  rw[e];have hm:p[i]∈p.toList:=by simp
  have:=(Array.perm_iff_toList_perm.mp h).mem_iff.mp hm;simpa using this
 .have e:p.getD i 0=0:=by simp[Array.getD,hi]
  rw[e];exact hn
theorem Pm.rev {n:Nat} {p:Array Nat} (h:Pm n p) (i j:Nat):Pm n (PySem.W.kas_rev p i j):=(mirror_perm p i j _).trans h
section
variable {n:Nat} {p:Array Nat}
theorem zdT (hn:0<n) (h:Pm n p):∀ f m,gO n (λ_=>True) (PySem.W.kas_asc p f m)
 | 0,m=>True.intro
 |f+1,m=>⟨h.lt hn _,h.lt hn _,λb=>by
  cases b
  .exact zdT hn h f (m+1)
  .exact True.intro⟩
theorem pR (hn:0<n):∀ f (p:Array Nat) m q,Pm n p->gO n (λr=>Pm n r.1) (PySem.W.kas_desc f p m q)
 | 0,p,m,q,h=>h
 |f+1,p,m,q,h=>⟨h.lt hn _,h.lt hn _,λb=>by
  cases b
  .refine ⟨h.lt hn _,h.lt hn _,λd=>?_⟩;cases d
   .exact pR hn f p _ _ h
   .exact h
  .simp only[if_true]
   split
   .exact pR hn f _ _ _ (h.rev _ _)
   .exact pR hn f p _ _ h⟩
theorem zaR (hn:0<n) (h:Pm n p) (m r:Nat):gO n (λx=>Pm n x.2) (PySem.W.kas_tail3 m r p):=by
 refine gO.bnd (λa _=>?_) (zdT hn (h.rev _ _) _ _);exact h.rev _ _
theorem rL (hn:0<n) (h:Pm n p) (m r:Nat):gO n (λx=>Pm n x.2) (PySem.W.kas_descPart m r p):=by
 refine gO.bnd (λa ha=>?_) (pR hn _ _ _ _ h)
 split
 .exact zaR hn (ha.rev _ _) _ _
 .exact zaR hn ha _ _
theorem zfr (hn:0<n) (h:Pm n p) (r:Nat):gO n (λx=>Pm n x.2) (PySem.W.kas_count r p):=by
 refine gO.bnd (λa _=>?_) (zdT hn h _ _)
 split
 .exact h
 .split
  .refine ⟨h.lt hn _,h.lt hn _,λb=>?_⟩;cases b
   .exact rL hn (h.rev _ _) _ _
   .exact h
  .exact rL hn h _ _
theorem nR (hn:0<n) (h:Pm n p) (k:Nat):∀ f l r,gO n (λ_=>True) (PySem.W.kas_place p k f l r)
 | 0,l,r=>True.intro
 |f+1,l,r=>by
  show gO n _ (if l>=r then _ else _)
  split
  .exact True.intro
  .refine ⟨h.lt hn _,h.lt hn _,λb=>?_⟩;cases b
   .exact nR hn h k f _ _
   .exact nR hn h k f _ _
theorem zdN (hn:0<n):∀ f (p:Array Nat) k,Pm n p->gO n (Pm n) (PySem.W.kas_bin f p k)
 | 0,p,k,h=>h
 |f+1,p,k,h=>gO.bnd (λl _=>zdN hn f _ _ ((bubble_perm p k _).trans h)) (nR hn h k k 0 k)
theorem zcf (hn:0<n):gO n (Pm n) (PySem.W.kas_sort n):=by
 refine gO.bnd (λr hr=>?_) (zfr hn (Array.Perm.refl _) n)
 split
 .exact zdN hn _ _ _ hr
 .exact hr
end
noncomputable def gN (n:Nat) (lt:Nat->Nat->Bool):List Nat:=if n<2 then List.range n else(krun lt (PySem.W.kas_sort n)).toList
theorem sH (n:Nat) (lt:Nat->Nat->Bool):(gN n lt).Perm (List.range n):=by
 unfold gN
 split
 .exact List.Perm.refl _
 .exact Array.perm_iff_toList_perm.mp (zc3 lt (zcf 'f'))
theorem jB {α:Type} (d:α) (l:List α):(List.range l.length).map (λi=>l.getD i d)=l:=by
 apply List.ext_getElem
 .simp
 .intro i h1 h2;simp[h2]
section
variable {prog:Program} {w:World} {A:Around} {E:VP} {s:Shared} {D:Addr} {vs:List Value} {κ:SortKind} {lt:Nat->Nat->Bool}
noncomputable def But (D:Addr) (h h':Heap):Prop:=∀ b o,b≠D->h.get? b=some o->h'.get? b=some o
noncomputable def uM (vs:List Value) (lt:Nat->Nat->Bool):List Value:=(gN vs.length lt).map λi=>vs.getD i Value.none
theorem zcE (vs:List Value) (lt:Nat->Nat->Bool):(uM vs lt).length=vs.length:=by
 unfold uM;rw[zzM,(sH _ _).length_eq,ZbD]
structure Asks (prog:Program) (w:World) (A:Around) (s:Shared) (D:Addr) (vs:List Value) (κ:SortKind) (lt:Nat->Nat->Bool):Prop where
 kind:∀ (h':Heap) (C:SortKind->Shared->Prop),2<=vs.length->But D s.heap h'->C κ {s with heap:=h'}->wpAny 'd' A (keyKind' vs.toArray) C 'k' {s with heap:=h'}
 ask:∀ (h':Heap) (i j:Nat) (C:Bool->Shared->Prop),But D s.heap h'->i<vs.length->j<vs.length->C (lt i j) {s with heap:=h'}->PySem.W.kas_ask prog w A κ vs i j C {s with heap:=h'}
theorem zeG {n:Nat} {P:PySem.Fin->Shared->Prop} (ho:s.heap.get? D=some (seqObj "list" vs.toArray n)) (h64:vs.length<64) (q:Asks prog w A s D vs κ lt)
  (h:∀ h' m,But D s.heap h'->h'.get? D=some (seqObj "list" (uM vs lt).toArray m)->P (.done (.ret .none)) {s with heap:=h'}):wpAny 'd' A (Builtin.«list.sort» ⟨[.ref D],[]⟩) P E s:=by
 have hD:D<s.heap.objs.size:=Zd ho;have big:(64:Nat)<=sizeLine:=by rw[Z2];decide
 have sz:vs.toArray.size=vs.length:=List.size_toArray;obtain⟨e1,ho1⟩:∃ e1,(s.heap.update D (Obj.mapSeq λ_=>(#[]:Array Value))).get? D=some (seqObj "list" #[] e1):=⟨_,get?_update_seq ho λ_=>#[]⟩;rw[list_sort_plain];refine Za (listItems_at ho rfl (Za (listUpdate_at ho rfl (Za (seqEpoch_at ho1 rfl ?_)) (by rw[sz];omega) (Zy _))));refine Za (wpAny_newTuple (Za (wpAny_newList (ZO ?_) (Zy _))) (by show vs.length<=_;omega));generalize hh:((s.heap.update D (Obj.mapSeq λ_=>(#[]:Array Value))).push { cls:=.type "tuple", data:=.seq vs.toArray.toList.toArray}).push { cls:=.type "list", data:=.seq ([]:List Value).toArray}=h6
 have k6:But D s.heap h6:=λb o hb e=>by
  rw[← hh];exact Zb _ (Zb _ ((Zu _ _ (Ne.symm hb)).trans e))
 have hD6:h6.get? D=some (seqObj "list" #[] e1):=by rw[← hh];exact Zb _ (Zb _ ho1)
 have fin:∀ (st:SortSt),failedOf st=none->(arrOf st).map (·.2)=(uM vs lt).toArray->wpAny 'd' A (do
   let touched:=(← seqEpoch D) != e1
   Builtin.List.listUpdate (.ref D) λ_=>(arrOf st).map (·.2)
   if let some e:=failedOf st then rule "list.sort.comparison-raised"; throw e
   if touched then rule "list.sort.modified"; raiseError "ValueError" "list modified during sort"
   ret .none) P E {s with heap:=h6}:=λst hf hout=>by
  refine Za (seqEpoch_at hD6 rfl (Za (listUpdate_at hD6 rfl ?_ (Zy _) (by rw[hout,zzS,zcE];omega))));rw[hf,hout];simp only[bne_self_eq_false,zzB,if_false];refine Zc (h _ _ (λb o hb e=>(Zu _ _ (Ne.symm hb)).trans (k6 b o hb e)) (get?_update_seq hD6 _))
 dsimp only
 by_cases h2:vs.toArray.size<2
 .rw[if_pos h2,if_pos h2];refine Za (Zc ?_);rw[StateT.run_pure];refine Za (Zc (fin _ rfl ?_));have hlt:vs.length<2:=by omega
  unfold uM gN;rw[if_pos hlt,jB];show((vs.toArray.zip vs.toArray).map (·.2))=vs.toArray;apply Array.toList_inj.mp;simp only[Array.toList_map,Array.toList_zip];exact List.map_snd_zip (zzR _)
 .rw[if_neg h2,if_neg h2];have h2':2<=vs.length:=by omega
  refine Za (Zv (q.kind h6 _ h2' k6 ?_) (λ_ _ z=>z) λ_ _ z=>z.elim)
  refine Za (Zv (PySem.W.kat_run (Q:=λst' s'=>s'={s with heap:=h6}/\failedOf st'=none/\(arrOf st').map (·.2)=(uM vs lt).toArray)
   (G:=λp s'=>s'={s with heap:=h6}/\p=krun lt (PySem.W.kas_sort vs.length)) rfl h2' h64 (λp st' s' _ har hf hg=>⟨hg.1,hf,?_⟩) ?_) (λr s' z=>?_) λ_ _ z=>z)
  .rw[PySem.W.kat_snds rfl har,hg.2];unfold uM gN;rw[if_neg 'f']
  .exact zfY (lt:=lt) (λi j C hi hj hc=>q.ask h6 i j C k6 hi hj hc) (zcf 'f') ⟨rfl,rfl⟩
  .obtain ⟨⟨⟩,st'⟩:=r;obtain⟨rfl,hf,hout⟩:=z;exact fin st' hf hout
noncomputable def cQ (h h':Heap):Prop:=∀ b o,h.get? b=some o->h'.get? b=some o
theorem zce {l:Addr} {o:Obj} {T:String} {n:Nat} {Q:VP} (hT:T = "list" \/ T = "tuple") (ho:s.heap.get? l=some o) (hc:o.cls=.type T) (hd:o.data=.seq vs.toArray n) (h64:vs.length<64)
  (kind:∀ (h':Heap) (C:SortKind->Shared->Prop),2<=vs.length->cQ s.heap h'->C κ {s with heap:=h'}->wpAny 'd' A.in1.in1 (keyKind' vs.toArray) C 'k' {s with heap:=h'})
  (ask:∀ (h':Heap) (i j:Nat) (C:Bool->Shared->Prop),cQ s.heap h'->i<vs.length->j<vs.length->C (lt i j) {s with heap:=h'}->PySem.W.kas_ask prog w A.in1.in1 κ vs i j C {s with heap:=h'})
  (h:∀ (h1 h':Heap) (m:Nat),cQ s.heap h1->cQ h1 h'->h'.get? h1.objs.size=some (seqObj "list" (uM vs lt).toArray m)->Q (.ref h1.objs.size) {s with heap:=h'}) :
  wpAny 'd' A (call (.builtin "sorted") [.ref l]) Q E s:=by
 have big:(64:Nat)<=sizeLine:=by rw[Z2];decide
 refine Calls.call_function_entry kind_sorted plain_sorted entry_sorted (args_sorted1 _) ?_;unfold Builtin.«sorted»;refine Za (m:=checkCount "sorted" 1 1 _) (Zc (Za (wpAny_collect_seq l hT ho hc hd (λh1 k1=>?_) (by rw[zzS];omega))));refine Za (wpAny_newList ?_ (by show vs.length<=_;omega));have hL:(h1.push (seqObj "list" vs.toArray 0)).get? h1.objs.size=some (seqObj "list" vs.toArray 0):=Zl _ rfl;have up:∀ h',But h1.objs.size (h1.push (seqObj "list" vs.toArray 0)) h'->cQ h1 h':=λh' k b o e=>k b o (Zo (Zd e)) (Zb _ e);show wpAny _ _ _ _ _ {s with heap:=h1.push (seqObj "list" vs.toArray 0)};refine Za (ZO (ZP slot_list_sort ⟨_,hL,rfl⟩ entry_list_sort (zeG (κ:=κ) (lt:=lt) hL h64 ⟨λh' C h2 k c=>?_,λh' i j C k hi hj c=>?_⟩ λh' m k hm=>⟨_,rfl,?_⟩) (args_list_sort _)))
 .exact kind h' C h2 (λb o e=>up h' k b o (k1 b o e)) c
 .exact ask h' i j C (λb o e=>up h' k b o (k1 b o e)) hi hj c
 .exact Zc ⟨_,rfl,h h1 h' m k1 (up h' k) hm⟩
end
noncomputable def ltB (x y:W):Bool:=(tD x y).getD false
noncomputable def srt (ws:List W):List W:=(gN ws.length λi j=>ltB (ws.getD i .non) (ws.getD j .non)).map λi=>ws.getD i .non
theorem zaS (ws:List W):(srt ws).Perm ws:=by
 have:=(sH ws.length λi j=>ltB (ws.getD i .non) (ws.getD j .non)).map λi=>ws.getD i .non
 rwa[jB] at this
noncomputable def hdT:W->Option String
 | .tup (.str _::_)=>some "str"
 | .tup (.tup _::_)=>some "tuple"
 |_=>none
structure Srtb (ws:List W):Prop where
 pure:yH ws=true
 lt:∀ x∈ws,∀ y∈ws,(tD x y).isSome=true
 few:ws.length<64
 deep:xS ws<60
 hd:∃ T,∀ x∈ws,hdT x=some T
noncomputable def zch:RS:=λws G Q=>match ws with
 | [x]=>∃ xs,xD G x=some xs/\Srtb xs/\∀ r,G r=none->Q (.ref r) (put G r (.lst (srt xs)))
 |_=>False
theorem pC:wH zch:=by
 intro ws G Q Q' k h;unfold zch at h ⊢
 split at h
 .obtain ⟨xs,e1,e2,h⟩:=h;exact⟨xs,e1,e2,λp hp=>k _ _ (h p hp)⟩
 .exact h.elim
section
variable {prog:Program} {w:World} {A:Around} {s:Shared} {b fin v:Bool} {C:Bool->Shared->Prop}
theorem zc4:∀ (l:List (Value×Value)) (i:Nat),(b&&i==0)=false->Lx A s fin l v->C v s->PySem.W.KatLex prog w A b fin C l i s
 | [],i,_,h,c=>by cases(show v=fin from h);exact c
 | (p,q)::r,i,hb,⟨e,he,hr⟩,c=>by
  refine PySem.W.kat_cons (he prog w _ _ ?_)
  cases e with
  |true =>
   rw[if_pos rfl] at hr;refine PySem.W.kat_yes (zc4 r (i+1) ?_ hr c);cases b<;>simp
  |false =>
   rw[if_neg zzN] at hr;refine PySem.W.kat_no ?_;rw[hb];exact PySem.W.kat_one p q (hr prog w _ _ c)
end
section
variable {X:Cx} {pins:PL} {σ:L2.St} {H:Hp} {s:Shared}
theorem zjM {prog:Program} {w:World} (I:Inv X pins σ H s) {T:String} {x y:W} {vx vy:V} {ux uy:Value} {A:Around} {v:Bool} {C:Bool->Shared->Prop} (hx:hdT x=some T) (hy:hdT y=some T) (rx:xF X.K H x vx) (ru:yV vx ux) (ry:xF X.K H y vy) (ru':yV vy uy)
  (px:pur x=true) (py:pur y=true) (hu:A.units+min (dep x) (dep y)<cLine) (e:tD x y=some v) (c:C v s):wpAny 'd' A (keyLt' (tuples' (Value.type T != Value.type "tuple")) ux uy) C 'k' s:=by
 have tu:∀ z,hdT z=some T->∃ zs,z=.tup zs:=λz hz=>by
  unfold hdT at hz
  split at hz
  .exact ⟨_,rfl⟩
  .exact ⟨_,rfl⟩
  .cases hz
 obtain⟨xs,rfl⟩:=tu x hx;obtain⟨ys,rfl⟩:=tu y hy;obtain⟨a,vs,its,rfl,rfl,q,rs,vr,it,_⟩:=xV I rx ru;obtain⟨c',vs',its',rfl,rfl,q',rs',vr',it',_⟩:=xV I ry ru';obtain⟨o,ho,hc,n,hd⟩:=it;obtain⟨o2,ho2,hc2,n2,hd2⟩:=it';simp only[dep] at hu;refine PySem.W.kat_lt ho hd ho2 hd2 ?_;simp only[zzS];have main:=zeE I xs ys _ _ _ _ A v (λz _=>zcS I z) rs vr rs' vr' px py 'f' e
 cases hb:(Value.type T != Value.type "tuple") with
 |false=>exact zc4 _ 0 rfl main c
 |true =>
  have hT:T = "str" := by
   unfold hdT at hx
   split at hx
   .cases hx;rfl
   .cases hx;cases hb
   .cases hx
  subst hT
  cases xs with
  |nil=>cases hx
  |cons x0 xs =>
   cases ys with
   |nil=>cases hy
   |cons y0 ys =>
    cases x0 with
    |str t =>
     cases y0 with
     |str z =>
      obtain⟨v1,r1,rfl,h1,rs⟩:=rs;obtain⟨v2,r2,rfl,h2,rs'⟩:=rs';cases(show v1=.str t from h1);cases(show v2=.str z from h2)
      cases vr with
      |cons k1 vr =>
       cases vr' with
       |cons k2 vr' =>
        obtain⟨t1,rfl⟩:=k1;obtain⟨t2,rfl⟩:=k2;replace e:(if(t==z)=true then kH xs ys else some (decide (t.cps.toList<z.cps.toList)))=some v:=e;simp only[pur,yH,Zb2] at px py;simp only[xS,dep,Nat.zero_max] at hu;rw[ZS];refine PySem.W.kat_cons (EqAt.str_str t t1 z t2 prog w _ _ ?_)
        cases q:(t==z) with
        |true =>
         rw[q,if_pos rfl] at e;refine PySem.W.kat_yes (zc4 _ 1 rfl ?_ c);have:=zeE I xs ys _ _ _ _ A v (λz _=>zcS I z) rs vr rs' vr' px py 'f' e;simpa using this
        |false =>
         rw[q,if_neg zzN] at e;cases e;refine PySem.W.kat_no ?_;exact oneLt_str c
     |_=>exact absurd hy (by simp[hdT])
    |_=>exact absurd hx (by simp[hdT])
theorem zbd (I:Inv X pins σ H s) {M:Model} {T:String}:∀ {ws:List W} {vs:List V} {us:List Value},(∀ x∈ws,hdT x=some T)->yY X.K H ws vs->yW vs us->∃ fs,PySem.W.KatTups s.heap us fs/\(∀ v∈fs,PySem.W.Looks M s.heap (typeOf v) (.type T))/\fs.length=us.length
 | [],vs,us,_,r,k=>by
  cases(show vs=[] from r);cases k;exact⟨[],True.intro,(λ_ h=>nomatch h),rfl⟩
 |x::ws,vs,us,hT,r,k=>by
  obtain⟨v,t,rfl,rx,rt⟩:=r
  cases k with
  |cons k ks =>
   obtain⟨fs,h1,h2,h3⟩:=zbd I (λy hy=>hT y (Zi _ hy)) rt ks;have hx:=hT x zzT;unfold hdT at hx
   split at hx
   .rename_i z zs;cases hx;obtain⟨a,vs',its,rfl,rfl,q,rs,vr,it,_⟩:=xV I rx k;obtain⟨v1,r1,rfl,g1,_⟩:=rs;cases(show v1=.str z from g1)
    cases vr with
    |cons k1 vr =>
     obtain⟨t1,rfl⟩:=k1;obtain⟨o,ho,hc,n,hd⟩:=it;refine⟨.str z t1::fs,.cons ho hc hd rfl h1,λv hv=>?_,by rw[Zg,Zg,h3]⟩;rcases Zh.mp hv with rfl|hv
     .exact PySem.W.Looks.of_pure rfl
     .exact h2 v hv
   .rename_i z zs;cases hx;obtain⟨a,vs',its,rfl,rfl,q,rs,vr,it,_⟩:=xV I rx k;obtain⟨v1,r1,rfl,g1,_⟩:=rs
    cases vr with
    |cons k1 vr =>
     obtain⟨a2,vs2,its2,rfl,rfl,q2,rs2,vr2,it2,_⟩:=xV I g1 k1;obtain⟨o,ho,hc,n,hd⟩:=it;obtain⟨o2,ho2,hc2,_⟩:=it2;refine⟨.ref a2::fs,.cons ho hc hd rfl h1,λv hv=>?_,by rw[Zg,Zg,h3]⟩;rcases Zh.mp hv with rfl|hv
     .exact PySem.W.kitAt_ty M _ ⟨o2,ho2,hc2⟩
     .exact h2 v hv
   .cases hx
theorem zcd (hu:X.A.units+200<cLine):wW X (.builtin "sorted") (tB X.K zch):=by
 intro pins s σ H xs us Q I r h;obtain⟨ws,G,rs,ab,h⟩:=h;unfold zch at h
 split at h
 .rename_i x;obtain⟨v,rfl,rv⟩:=jN rs;obtain⟨xs,ex,sb,h⟩:=h;obtain⟨a,vs,rfl,sq,rr⟩:=tJ ab rv ex;obtain⟨u,rfl,ru⟩:=jX r;cases(show u=Value.ref a from ru);obtain⟨its,vv,ss,hz⟩:=I.sqB sq
  obtain⟨T',o,n,hT,ho,hc,hd⟩:∃ (T':String) (o:Obj) (n:Nat),(T' = "list" \/ T' = "tuple")/\s.heap.get? a=some o/\o.cls=.type T'/\o.data=.seq its.toArray n:=by
   cases hb:gQ x<;>rw[hb] at ss
   .obtain ⟨o,ho,hc,n,hd⟩:=ss;exact⟨"list", o,n,.inl rfl,ho,hc,hd⟩
   .obtain ⟨o,ho,hc,n,hd⟩:=ss;exact⟨"tuple", o,n,.inr rfl,ho,hc,hd⟩
  have l1:its.length=xs.length:=by rw[← vv.length,rr.length]
  have l2:vs.length=xs.length:=rr.length;obtain⟨T,hT'⟩:=sb.hd;have I':∀ h',cQ s.heap h'->Inv X pins σ H {s with heap:=h',toks:=s.toks}:=λh' k=>I.kept k;refine zce (κ:=tuples' (Value.type T != Value.type "tuple")) (lt:=λi j=>ltB (xs.getD i .non) (xs.getD j .non)) hT ho hc hd (by rw[l1];exact sb.few) (λh' C h2 k c=>?_) (λh' i j C k hi hj c=>?_) λh1 h' m k1 k' hm=>?_
  .obtain ⟨fs,g1,g2,g3⟩:=zbd (M:=model X.prog X.w) (I' h' k) hT' rr vv;exact PySem.W.kat_kind g1 'f' g2 'g' c
  .have hi':i<xs.length:=by omega
   have hj':j<xs.length:=by omega
   obtain⟨vi,evi,ri⟩:=rr.get (Zf hi');obtain⟨vj,evj,rj⟩:=rr.get (Zf hj');obtain⟨ui,eui,si⟩:=vv.get evi;obtain⟨uj,euj,sj⟩:=vv.get evj;have mi:=ZaM hi';have mj:=ZaM hj';obtain⟨b,eb⟩:=ZU.mp (sb.lt _ mi _ mj);have e1:its.getD i Value.none=ui:=by simp[List.getD,eui]
   have e2:its.getD j Value.none=uj:=by simp[List.getD,euj]
   have e3:ltB (xs.getD i .non) (xs.getD j .non)=b:=by simp[List.getD,Zf hi',Zf hj',ltB,eb]
   unfold PySem.W.kas_ask;rw[e1,e2];rw[e3] at c;have d1:=zfp mi;have:=sb.deep;refine zjM (I' h' k) (hT' _ mi) (hT' _ mj) ri si rj sj (zaX sb.pure _ mi) (zaX sb.pure _ mj) ?_ eb c;show X.A.units+1+1+_<_;omega
  .have I1:Inv X pins σ H {s with heap:=h1,toks:=s.toks}:=I' h1 k1;have I2:Inv X pins σ H {s with heap:=h',toks:=s.toks}:=I' h' λb o e=>k' b o (k1 b o e);have hn:H h1.objs.size=none:=I1.hok.fresh (zzR _);have pm:=sH xs.length λi j=>ltB (xs.getD i .non) (xs.getD j .non);have lt:∀ i∈gN xs.length (λi j=>ltB (xs.getD i .non) (xs.getD j .non)),i<xs.length:=λi hi=>ZaL.mp (pm.mem_iff.mp hi);have eo:uM its (λi j=>ltB (xs.getD i .non) (xs.getD j .non))=(gN xs.length λi j=>ltB (xs.getD i .non) (xs.getD j .non)).map λi=>its.getD i Value.none:=by unfold uM;rw[l1]
   rw[eo] at hm
   have both:∀ l:List Nat,(∀ i∈l,i<xs.length)->yY X.K H (l.map λi=>xs.getD i .non) (l.map λi=>vs.getD i .non)/\yW (l.map λi=>vs.getD i .non) (l.map λi=>its.getD i Value.none):=by
    intro l
    induction l with
    |nil=>exactλ_=>⟨rfl,.nil⟩
    |cons i l ih =>
     intro hl;obtain⟨g1,g2⟩:=ih λj hj=>hl j (Zi _ hj);have hi:=hl i zzT;obtain⟨vi,evi,ri⟩:=rr.get (Zf hi);obtain⟨ui,eui,si⟩:=vv.get evi;have e0:xs.getD i .non=xs[i]:=by simp[List.getD,Zf hi]
     have e1:vs.getD i .non=vi:=by simp[List.getD,evi]
     have e2:its.getD i Value.none=ui:=by simp[List.getD,eui]
     rw[zzU,zzU,zzU,e0,e1,e2];exact⟨⟨vi,_,rfl,ri,g1⟩,.cons si g2⟩
   obtain⟨g1,g2⟩:=both _ lt;refine⟨.ref h1.objs.size,_,I2.adopt (o:=.lst _) (I1.off (zzR _)) hn ⟨?_,_,m,g2,hm⟩,rfl,qN ab g1 h _ hn⟩;rw[zzM,pm.length_eq,ZbD,← l2];exact hz
 .exact h.elim
end
noncomputable abbrev eSrt:Fn3:=⟨"sorted",λws G Q _=>zch ws G Q⟩
theorem zhH {q:Pr} {A:Around} (hu:A.units+200<cLine) (hm:q.mg "sorted" = none):qT (q.at A) eSrt:=⟨hU (id := "sorted") hm (by decide +kernel) (λX f=>zcd (by rw[f.A];exact hu)) pC (λ_ _ h=>h),λws G Q Q' _ k h=>pC ws G Q Q' k h⟩
end L3
namespace L3
open PySem PySem.Spec PyProof.Rows L2
end L3
namespace PySem.W
open PySem.Spec PySem.Calls PyProof.Rows PySem
theorem zaN:builtinKind "BaseException.__getattribute__" = some .slot:=by
 decide +kernel
theorem zbW:splitId "BaseException.__getattribute__" = some ("BaseException", "__getattribute__"):=by
 decide +kernel
section
variable {prog:Program} {w:World} {A:Around} {E:VP} {s:Shared} {K:Frag} {x C:Addr} {ox:Obj} {od:Option Obj} {name:Str} {expr:Bool}
theorem zaM {M:Model} {nameV:Value} {Q:Unit->Shared->Prop} (X:K.In s.heap) (I:InstAt s.heap x ox C od) (hs:subIn K (.ref C) (.type "BaseException")=some true) (q:Q () s):wpAny M A (checkBuiltinCall "BaseException.__getattribute__" ⟨[.ref x,nameV],[]⟩) Q E s:=by
 have hk:=zaN;have hsp:=zbW;have ha:=F.args_bexc_ga (.ref x) nameV;obtain⟨hh,g,d,t,os⟩:=s;have ty:=I.type (M:=M);have ls:=looks_subIn X hs (M:=M);have LI:Looks M hh (isInstance (.ref x) (.type "BaseException")) true:=ty.andThen ls;simp only[checkBuiltinCall,hsp,hk];refine Za (LI.at ?_)
 wp_walk
 exact q
theorem zdZ {v:Value} {tk:Tok} {Q:Fin->Shared->Prop} (X:K.In s.heap) (I:InstAt s.heap x ox C od) (hf:findObj K C od name=some (.value v)) (q:Q (.done (.ret v)) s) :
  wpAny 'd' A (Builtin.«object.__getattribute__» ⟨[.ref x,.str name tk],[]⟩) Q E s:=by
 obtain⟨hh,g,d,t,os⟩:=s;have ty:=I.type (M:=model prog w);have fd:=looks_find X I hf (M:=model prog w)
 delta Builtin.«object.__getattribute__»
 repeat (any_goals (first|with_reducible refine ty.at ?_|with_reducible refine fd.at ?_|wp_step))
 all_goals exact q
theorem zgr (self:Value):bindSpecial (.builtin "BaseException.__getattribute__") self=pure (.builtin "BaseException.__getattribute__", [self]):=by
 have hop:withoutEnding? "BaseException.__getattribute__" "#opaque" = none:=by decide +kernel
 have hdat:withoutEnding? "BaseException.__getattribute__" "#data" = none:=by decide +kernel
 have hk:=zaN;simp only[bindSpecial,typeOf,builtinType,hop,hdat,hk];rfl
theorem zgq {v:Value} {tk:Tok} {R:Result->Shared->Prop} (X:K.In s.heap) (I:InstAt s.heap x ox C od) (hs:subIn K (.ref C) (.type "BaseException")=some true) (hf:findObj K C od name=some (.value v)) (q:R (.ok (.ret v)) s) :
  codeAny 'd' A (.call (.builtin "BaseException.__getattribute__") ⟨[.ref x,.str name tk],[]⟩) R s :=
 ZaJ (by decide +kernel) F.entry_bexc_ga (zaM X I hs (zdZ X I hf q))
theorem zik {nameV:Value} {fill:Bool} {Q:VP} (X:K.In s.heap) (I:InstAt s.heap x ox C od) (hga:findIn K (.ref C) "__getattribute__" = some (some (.builtin "BaseException.__getattribute__"))) (hgt:findIn K (.ref C) "__getattr__" = some none)
  (h:codeAny 'd' A (.call (.builtin "BaseException.__getattribute__") ⟨[.ref x,nameV],[]⟩) (λr s'=>match r with|.ok (.ret v)=>wpAny 'd' A (handedOut v) Q E s'|_=>False) s) :
  wpAny 'd' A (getAttrBy (.ref x) nameV fill expr) Q E s:=by
 obtain⟨hp,g,d,t,os⟩:=s;have ty:=I.type (M:=model prog w);have lg:=ZbX X hga (M:=model prog w);have lh:=ZbX X hgt (M:=model prog w);unfold getAttrBy;refine ZO (Za (ty.at ?_));refine Za (lg.at ?_);show wpAny _ _ (getAttrByItsOwn _ _ _ _ _ _) _ _ _;unfold getAttrByItsOwn;refine Za ?_;show wpAny _ _ (typeLookup (.ref C) "__getattr__") _ _ _;refine lh.at (Za (ZaZ (ZO ?_)));have hx0:¬ ((expr&&onTheHeap (Value.builtin "BaseException.__getattribute__"))=true):=by cases expr<;>exactλe=>nomatch e
 unfold callGetattribute;rw[if_neg hx0];unfold boundAndCalled;rw[zgr];refine Za (Zc (ZbG (ZaF h λr s' z=>?_)));rcases r with _|(_|_|_|_)<;>first|exact z|exact z.elim
theorem xg_value {v:Value} {Q:VP} (X:K.In s.heap) (I:InstAt s.heap x ox C od) (hga:findIn K (.ref C) "__getattribute__" = some (some (.builtin "BaseException.__getattribute__"))) (hgt:findIn K (.ref C) "__getattr__" = some none)
  (hs:subIn K (.ref C) (.type "BaseException")=some true) (hf:findObj K C od name=some (.value v)) (hh:handedIn v=true) (q:Q v {s with toks:=s.toks+1}):wpAny 'd' A (getAttr (.ref x) name expr) Q E s:=by
 obtain⟨hp,g,d,t,os⟩:=s;unfold getAttr;refine Za (wpAny_mkText (zik (s:=⟨hp,g,d,t+1,os⟩) X I hga hgt (zgq (s:=⟨hp,g,d,t+1,os⟩) X I hs hf ?_)));show wpAny 'd' A (handedOut v) Q E _;rw[handedOut_of hh];exact Zc q
theorem zbU {g a:Value} {tk:Tok} {Q:Fin->Shared->Prop} (X:K.In s.heap) (I:InstAt s.heap x ox C od) (hf:findObj K C od name=some (.bind g a))
  (q:codeAny 'd' A (.call g ⟨[a,.ref x,.ref C],[]⟩) (λr s'=>match r with|.ok (.ret v)=>Q (.done (.ret v)) s'|_=>False) s) :
  wpAny 'd' A (Builtin.«object.__getattribute__» ⟨[.ref x,.str name tk],[]⟩) Q E s:=by
 obtain⟨hp,gn,dr,tt,st⟩:=s;have ty:=I.type (M:=model prog w);have fd:=looks_find X I hf (M:=model prog w)
 delta Builtin.«object.__getattribute__»
 repeat (any_goals (first|with_reducible refine ty.at ?_|with_reducible refine fd.at ?_|wp_step))
 refine ZaF q λr s' z=>?_;rcases r with _|(_|_|_|_)<;>first|exact z.elim|exact Zc z
theorem zd0 {Q:Option Value->Shared->Prop} (X:K.In s.heap) (I:InstAt s.heap x ox C od) (hga:findIn K (.ref C) "__getattribute__" = some (some (.builtin "BaseException.__getattribute__"))) (hgt:findIn K (.ref C) "__getattr__" = some none)
  (hs:subIn K (.ref C) (.type "BaseException")=some true) (hf:findObj K C od "__class__" = some (.bind (.builtin "getset_descriptor.__get__") (.builtin "object.__class__"))) (hm:mroIn K C (.type "object")=some true)
  (q:Q (C⁻¹) {s with toks:=s.toks+1}):wpAny 'd' A (getAttr? (.ref x) "__class__") Q E s:=by
 obtain⟨hp,g,d,t,os⟩:=s;unfold getAttr? getAttrBy?
 refine Za (wpAny_mkText (Za (ZaZ (zik (s:=⟨hp,g,d,t+1,os⟩) X I hga hgt
  (ZaJ (by decide +kernel) F.entry_bexc_ga (zaM (s:=⟨hp,g,d,t+1,os⟩) X I hs (zbU (s:=⟨hp,g,d,t+1,os⟩) X I hf
   (class_get (s:=⟨hp,g,d,t+1,os⟩) X I hm ?_))))))))
 show wpAny _ _ (handedOut (.ref C)) _ _ _;rw[handedOut_of rfl];exact Zc (Zc q)
end
structure XC (K:Frag) (C:Addr):Prop where
 cls:(clsIn K C).isSome=true
 ga:findIn K (.ref C) "__getattribute__" = some (some (.builtin "BaseException.__getattribute__"))
 gt:findIn K (.ref C) "__getattr__" = some none
 sub:subIn K (.ref C) (.type "BaseException")=some true
 cl:findIn K (.ref C) "__class__" = some (some (.builtin "object.__class__"))
 mro:mroIn K C (.type "object")=some true
theorem zgt {K:Frag} {C:Addr} {od:Option Obj} (T:XC K C) (hn:specialIn K (.builtin "object.__class__") "__get__" = some (some (.builtin "getset_descriptor.__get__"))) (htk:takesIn K (.builtin "object.__class__")=some true) :
  findObj K C od "__class__" = some (.bind (.builtin "getset_descriptor.__get__") (.builtin "object.__class__")):=by
 obtain⟨cd,hc⟩:=ZU.mp T.cls;unfold findObj;rw[hc,T.cl];simp only[Option.bind_some,hn,htk]
theorem kitx_exc {K:Frag} {x C:Addr} (T:XC K C) (hn:specialIn K (.builtin "object.__class__") "__get__" = some (some (.builtin "getset_descriptor.__get__"))) (htk:takesIn K (.builtin "object.__class__")=some true) :
  KitX K (.ref x) (.ref C) (λh=>∃ ox od,InstAt h x ox C od) where
 ty:=λ_ _ _ I=>by obtain⟨_,_,I⟩:=I;exact I.type
 it:=λ_ _ X _=>by
  obtain⟨cdD,hcD⟩:=ZU.mp T.cls;unfold clsIn at hcD
  split at hcD
  .rename_i c' d' cd' sl' ho;intro A' Q' E' s' k q;unfold isType loadHead;refine Za (wpAny_loadPart (k _ _ (X _ _ ho)) ?_);exact Zc q
  .cases hcD
 ne:=λhp tp _ _ _ _ X htp=>by
  obtain⟨cdD,hcD⟩:=ZU.mp T.cls;rw[ZbB];intro q;cases(ZbL (beq_iff_eq.mp q):C=tp);unfold clsIn at hcD
  split at hcD
  .rename_i c' d' cd' sl' ho;cases(X _ _ ho).symm.trans htp
  .cases hcD
 ca:=λX I k=>by
  obtain⟨ox,od,I⟩:=I;exact zd0 X I T.ga T.gt T.sub (zgt T hn htk) T.mro k
end PySem.W
namespace PySem.W
open PySem PySem.Spec PySem.Calls PyProof.Rows Builtin Builtin.ObjectAttr
noncomputable abbrev xsD:Obj:={ cls:=.type "dict", data:=.dict #[]}
noncomputable abbrev xsH (hp:Heap) (x:Addr):Heap:=(hp.push xsD).update x λo=>{ cls:=o.cls,dict:=some hp.objs.size,data:=o.data,slots:=o.slots}
section
variable {prog:Program} {w:World} {A:Around} {Er:VP} {hp:Heap} {gn:Array GenState} {dr:Drawn} {tk:Nat} {st:OsState} {K:Frag} {x C:Addr} {fld:Str} {val:Value}
variable {fs:Array Value} {sl:Array (Option Value)} {cd:ClassData}
theorem zig (e:hp.get? x=some ⟨.ref C,none,.fields fs,sl⟩):x≠hp.objs.size:=Zo (Zd e)
theorem zgm (e:hp.get? x=some ⟨.ref C,none,.fields fs,sl⟩):(xsH hp x).Ns hp.objs.size (λ_=>none):=by
 refine⟨xsD,#[],_,?_,rfl,λz hz=>absurd hz 'g',λ_=>rfl⟩;rw[Heap.get?_update_ne _ _ _ _ (zig e).symm];exact Heap.get?_push_at rfl rfl
theorem zdX {nt:Tok} {Q:Fin->Shared->Prop} (X:K.In hp) (at_:hp.get? x=some ⟨.ref C,none,.fields fs,sl⟩) (hc:clsIn K C=some cd) (hd:cd.hasDict=true) (ok:refuseLoop (.ref x) "__setattr__" cd.mro=pure ()) (no:findIn K (.ref C) fld=some none)
  (go:∀ h' n',h'.get? x=some ⟨.ref C,some hp.objs.size,.fields fs,sl⟩->h'.Ns1 hp.objs.size (λy=>if y=fld then some val else none)->(∀ b o,b≠x->hp.get? b=some o->h'.get? b=some o)->Q (.done (.ret .none)) ⟨h',gn,dr,n',st⟩) :
  wpAny 'd' A (Builtin.«object.__setattr__» ⟨[.ref x,.str fld nt,val],[]⟩) Q Er ⟨hp,gn,dr,tk,st⟩:=by
 have I:InstAt hp x ⟨.ref C,none,.fields fs,sl⟩ C none:=⟨at_,rfl,rfl,True.intro⟩;have lm:Looks 'd' hp (mroOf (.ref C)) cd.mro:=(looks_clsIn X hc).andThen .now;have lt:=I.type (M:=model prog w);rw[osa_eq,refuse_eq];refine Za (Za (lt.at (Za (lm.at ?_))));rw[ok];refine Zc (Za (lt.at (Za ((ZbX (M:=model prog w) X no).at (Za (Zc ?_))))));show wpAny _ _ (storeInOwnDict (.ref x) (.ref C) (.str fld nt) fld val false) _ _ _;refine Za (Zc (Za (Za (wpAny_loadPart at_ (Za ((looks_clsIn (M:=model prog w) X hc).at ?_))))));rw[hd];have now:(hp.push xsD).get? x=some ⟨.ref C,none,.fields fs,sl⟩:=Zb _ at_;show wpAny _ _ (alloc xsD >>= λa=>(update x λo=>{ cls:=o.cls,dict:=some a,data:=o.data,slots:=o.slots}) >>= λ_=>dictMade (.ref C) x a) _ _ _;refine Za (wpAny_alloc' (Za (wpAny_update' now (Zc ?_))));show wpAny _ _ (storeInDict hp.objs.size (.str fld nt) fld val) _ _ (Shared.mk (xsH hp x) _ _ _ _);unfold storeInDict;unfold newKeyGuard;refine Za (Zc (Za (wpAny_nsSet1 (Heap.Ns1.of_empty (zgm at_)) λh' nn same=>?_)));obtain⟨ob,en,ep,e1,e2,few⟩:=nn.count (Within.cons fld val Within.nil)
 refine Za (wpAny_lookBehind e1 (by
  rw[e2];exact pastItsLine_dict (Ze few (by show 1<=sizeLine+1;rw[Z2];decide))) (Zc (go h' _ ?_ nn λb o hb e=>?_)))
 .rw[same.2 x (zig at_)];exact Zx _ now rfl
 .rw[same.2 b (Zo (Zd e)),Heap.get?_update_ne _ _ _ _ hb];exact Zb _ e
noncomputable def vTail (l:List Value):Prop:=∃ cs:List Addr,l=cs.map Value.ref++[.type "ValueError", .type "Exception", .type "BaseException", .type "object"]
theorem zbs (self:Value) {l:List Value} (e:vTail l):refuseLoop self "__setattr__" l=pure ():=by
 obtain⟨cs,rfl⟩:=e
 induction cs with
 |nil=>exact PySem.F.store_ValueError.passes self
 |cons c r ih=>rw[zzU,ZC,refuseLoop_ref];exact ih
theorem xs_set {Q:Unit->Shared->Prop} (X:K.In hp) (at_:hp.get? x=some ⟨.ref C,none,.fields fs,sl⟩) (hc:clsIn K C=some cd) (hd:cd.hasDict=true) (up:vTail cd.mro)
  (hs:findIn K (.ref C) "__setattr__" = some (some (.builtin "object.__setattr__"))) (hm:mroIn K C (.type "object")=some true) (no:findIn K (.ref C) fld=some none)
  (go:∀ h' n',h'.get? x=some ⟨.ref C,some hp.objs.size,.fields fs,sl⟩->h'.Ns1 hp.objs.size (λy=>if y=fld then some val else none)->(∀ b o,b≠x->hp.get? b=some o->h'.get? b=some o)->Q () ⟨h',gn,dr,n',st⟩) :
  wpAny 'd' A (setAttr (.ref x) fld val) Q Er ⟨hp,gn,dr,tk,st⟩:=by
 have I:InstAt hp x ⟨.ref C,none,.fields fs,sl⟩ C none:=⟨at_,rfl,rfl,True.intro⟩;have st0:=PySem.F.store_object;have lo:Looks 'd' hp (isInstance (.ref x) (.type "object")) true:=I.type.andThen (looks_mroIn X hm);refine set_plain (s:=⟨hp,gn,dr,tk,st⟩) X I hs ?_;refine ZaJ st0.slot.plain st0.entry (@check_slot 'd' _ _ ⟨hp,gn,dr,tk+1,st⟩ "object.__setattr__" "object" "__setattr__" (.ref x) [.str fld tk,val] [] _ st0.kind st0.split lo (st0.args (.ref x) (.str fld tk) val) ?_);exact zdX X at_ hc hd (zbs _ up) no go
end
end PySem.W
namespace PySem
noncomputable abbrev xnT (ps:List Value):Obj:={ cls:=.type "tuple", data:=.seq ps.toArray}
noncomputable abbrev xnO (C n:Addr):Obj:={ cls:=.ref C,data:=.fields #[.ref n,.none,.none,.none,.bool false,.none]}
noncomputable abbrev xnH (hp:Heap) (C:Addr) (ps:List Value):Heap:=(hp.push (xnT ps)).push (xnO C hp.objs.size)
theorem zfw {hp:Heap} {C:Addr} {ps:List Value} {b:Addr} {o:Obj} (e:hp.get? b=some o):(xnH hp C ps).get? b=some o:=Zb _ (Zb _ e)
theorem zih {hp:Heap} {C:Addr} {ps:List Value}:(xnH hp C ps).get? (hp.objs.size+1)=some (xnO C hp.objs.size):=by heap_get
section
variable {prog:Program} {w:World} {A:Around} {X:VP} {hp:Heap} {gn:Array GenState} {dr:Drawn} {tk:Nat} {st:OsState}
variable {nm qn:Str} {C N:Addr} {bs up upB:List Value} {hdct:Bool} {sn:List Str} {sub:List Value} {ab:Bool} {col:Option Bool} {dd:Option Addr} {k0 k1 k2 k3 k5:Option Value} {B B' new new' ini ini':String} {up':List Value}
variable {mN:Str->Option Value} {ps:List Value} {fI:Addr} {oI:Obj}
end
end PySem
namespace L3
open PySem PySem.Spec PyProof.Rows L2
structure XK (K:yM):Prop where
 get:PySem.W.specialIn K (.builtin "object.__class__") "__get__" = some (some (.builtin "getset_descriptor.__get__"))
 tak:PySem.W.takesIn K (.builtin "object.__class__")=some true
theorem bA {X:Cx} {pins:PL} {σ:L2.St} {H:Hp} {s:Shared} {a C:Addr} {l:List (Str×V)} (I:Inv X pins σ H s) (e:ExAt H a C l):∃ ox od,PySem.W.InstAt s.heap a ox C od:=by
 rcases e with⟨e,_⟩|⟨dx,e,e'⟩
 .obtain ⟨⟨fs,h1⟩,_⟩:=I.hok a _ e;exact⟨_,none,h1,rfl,rfl,True.intro⟩
 .obtain ⟨⟨fs,h1⟩,_⟩:=I.hok a _ e;obtain⟨mA,⟨od,es,ep,h2,_⟩,_⟩:=I.hok dx _ e';exact⟨_,some od,h1,rfl,rfl,h2⟩
noncomputable def bU:List W->Option (List Addr)
 | []=>some []
 | .ref C::r=>(bU r).map (C::·)
 |_=>none
theorem fO {K:yM} {H:Hp}:∀ {ws:List W} {Cs:List Addr} {vs:List V} {us:List Value},bU ws=some Cs->yY K H ws vs->yW vs us->us=Cs.map .ref
 | [],Cs,vs,us,e,r,v=>by cases e;cases(show vs=[] from r);cases v;rfl
 |w::ws,Cs,vs,us,e,r,v=>by
  cases w with
  |ref C =>
   simp only[bU] at e;obtain⟨Cs',e',rfl⟩:=ZK.mp e;obtain⟨x,tl,rfl,rx,rt⟩:=r;cases(show x=.ref C from rx)
   cases v with
   |cons a c =>
    cases(show _=Value.ref C from a);rw[fO e' rt c];rfl
  |_=>cases e
noncomputable def isxS (K:yM):RS:=λws G Q=>match ws with
 | [.exc C _ _,.ref D]=>PySem.W.XC K C/\XK K/\∃ b,PySem.W.kitOne K (.ref C) (.ref D)=some b/\Q (.bl b) G
 | [.exc C _ _,.ty T]=>PySem.W.XC K C/\XK K/\∃ b,PySem.W.kitOne K (.ref C) (.type T)=some b/\Q (.bl b) G
 | [.exc C _ _,.tup ts]=>PySem.W.XC K C/\XK K/\∃ b Cs,bU ts=some Cs/\PySem.W.kitAny K (.ref C) (Cs.map .ref)=some b/\Q (.bl b) G
 |ws=>isjS K ws G Q
theorem dL (K:yM):wH (isxS K):=by
 intro ws G Q Q' k h;unfold isxS at h ⊢
 split at h
 .obtain ⟨h1,h2,b,h3,h4⟩:=h;exact⟨h1,h2,b,h3,k _ _ h4⟩
 .obtain ⟨h1,h2,b,h3,h4⟩:=h;exact⟨h1,h2,b,h3,k _ _ h4⟩
 .obtain ⟨h1,h2,b,Cs,h3,h4,h5⟩:=h;exact⟨h1,h2,b,Cs,h3,h4,k _ _ h5⟩
 .exact zda K _ _ _ _ k h
theorem zj0 {X:Cx}:wW X (.builtin "isinstance") (tB X.K (isxS X.K)):=by
 intro pins s σ H xs us Q I r h;obtain⟨ws,G,rs,ab,h⟩:=h;unfold isxS at h
 split at h
 .rename_i C ns vs' D;obtain⟨v,y,rfl,rv,ry⟩:=nV rs;cases(show y=.ref D from ry);obtain⟨u,c,rfl,ru,rc⟩:=pK r;cases(show c=Value.ref D from rc);obtain⟨xc,xk,b,e,h⟩:=h;obtain⟨a,vs,rfl,ex,_⟩:=rv;cases(show u=Value.ref a from ru);exact jO I.tk (ZbW (PySem.W.kitx_exc xc xk.get xk.tak) I.kIn (bA I ex) e (λz=>nomatch z) λtk h0=>⟨.bl b,H,I.tok _ h0,rfl,h _ H .refl rfl ab⟩)
 .rename_i C ns vs' T;obtain⟨v,y,rfl,rv,ry⟩:=nV rs;cases(show y=.ty T from ry);obtain⟨u,c,rfl,ru,rc⟩:=pK r;cases(show c=Value.type T from rc);obtain⟨xc,xk,b,e,h⟩:=h;obtain⟨a,vs,rfl,ex,_⟩:=rv;cases(show u=Value.ref a from ru);exact jO I.tk (ZbW (PySem.W.kitx_exc xc xk.get xk.tak) I.kIn (bA I ex) e (λz=>nomatch z) λtk h0=>⟨.bl b,H,I.tok _ h0,rfl,h _ H .refl rfl ab⟩)
 .rename_i C ns vs' ts;obtain⟨v,y,rfl,rv,ry⟩:=nV rs;obtain⟨u,c,rfl,ru,rc⟩:=pK r;obtain⟨xc,xk,b,Cs,et,e,h⟩:=h;obtain⟨a,vs,rfl,ex,_⟩:=rv;cases(show u=Value.ref a from ru);obtain⟨p,ys,rfl,sq,rr⟩:=ry;cases(show c=Value.ref p from rc);obtain⟨its,vv,pl,_⟩:=I.tuple sq;obtain⟨⟨oc,od,dt,sl⟩,h1,h2,n,h3⟩:=pl;cases(show oc=_ from h2);cases(show dt=_ from h3);have ei:=fO et rr vv;subst ei;exact jO I.tk (PySem.W.kia_tup (PySem.W.kitx_exc xc xk.get xk.tak) I.kIn (bA I ex) h1 e (λz=>nomatch z) λtk h0=>⟨.bl b,H,I.tok _ h0,rfl,h _ H .refl rfl ab⟩)
 .exact zj1 pins s σ H xs us Q I r ⟨_,G,rs,ab,h⟩
noncomputable abbrev eIsx (K:yM):Fn3:=⟨"isinstance",λws G Q _=>isxS K ws G Q⟩
theorem zhO {q:Pr} {A:Around} (hm:q.mg "isinstance" = none):qT (q.at A) (eIsx q.K):=⟨hU (id := "isinstance") hm (by decide +kernel) (λX f=>by rw[← show X.K=q.K from f.K];exact zj0) (dL _) (λ_ _ h=>h),λws G Q Q' _ k h=>dL _ ws G Q Q' k h⟩
section
variable {X:Cx}
theorem zgp {pins:PL} {σ:L2.St} {H:Hp} {s:Shared} {A:Around} {Er:VP} {a C:Addr} {l:List (Str×V)} {f:Str} {v:V} {b:Bool} {Q:VP} (I:Inv X pins σ H s) (e:ExAt H a C l) (xc:PySem.W.XC X.K C) (hh:PySem.W.hasDictIn X.K C=true)
  (na:PySem.W.findIn X.K (.ref C) f=some none) (lk:l.lookup f=some v) (h:∀ u s',Inv X pins σ H s'->yV v u->Q u s'):wpAny 'b' A (getAttr (.ref a) f b) Q Er s:=by
 rcases e with⟨_,rfl⟩|⟨dx,e,e'⟩
 .cases lk
 .obtain ⟨⟨fs,h1⟩,_⟩:=I.hok a _ e;obtain⟨mA,n1,rel⟩:=I.hok dx _ e';obtain⟨u,hu,ru⟩:=pZ.some_of (v:=v) (o:=mA f) (by rw[← lk];exact rel f);obtain⟨od,h2,look⟩:=zcU n1;exact PySem.W.xg_value I.kIn ⟨h1,rfl,rfl,h2⟩ xc.ga xc.gt xc.sub (PySem.W.findObj_own hh na rfl (by rw[look,hu])) (zdd ru) (h u _ (I.tok _) ru)
noncomputable def tXf (K:yM) (t:TE) (f:Str):TE:=λτ H Q=>t τ H λx H1=>∃ a C l v,x=.ref a/\ExAt H1 a C l/\PySem.W.XC K C/\PySem.W.hasDictIn K C=true/\PySem.W.findIn K (.ref C) f=some none/\l.lookup f=some v/\Q v H1
theorem pe_xf {e:Expr} {f:Str} {pos:Pos} {t:TE} (he:PE X e t) (hb:attributeBase e f X.env (eval e X.env)=eval e X.env):PE X (.Attribute e f pos) (tXf X.K t f):=by
 intro pins s σ H Q I h;refine zh6 hb (thn (he pins s σ H _ I h) λu s1 z=>?_);obtain⟨x,H1,I1,rx,a,C,l,v,rfl,ex,xc,hh,na,lk,q⟩:=z;cases(show u=Value.ref a from rx);exact zgp I1 ex xc hh na lk λu' s2 I2 ru=>⟨v,H1,I2,ru,q⟩
end
noncomputable def xfM (f:Str):Scope->Expr->Option (List Expr):=λ_ e=>match e with
 | .Attribute l y _=>if(y==f&&rJ l)=true then some [l] else none
 |_=>none
noncomputable def xfS (K:yM) (f:Str):RS:=λws G Q=>match ws with
 | [.exc C ns vs]=>(PySem.W.XC K C/\PySem.W.hasDictIn K C=true/\PySem.W.findIn K (.ref C) f=some none)/\(match(ns.zip vs).lookup f with|some w=>Q w G|none=>False)
 |_=>False
theorem zd1 (K:yM) (f:Str):wH (xfS K f):=by
 intro ws G Q Q' k h;unfold xfS at h ⊢
 split at h
 .refine ⟨h.1,?_⟩;have h:=h.2
  split at h
  .exact k _ _ h
  .exact h.elim
 .exact h.elim
theorem zgs {f:Str} {sc:Scope} {e:Expr} {xs:List Expr} (h:xfM f sc e=some xs):∃ l pos,e=.Attribute l f pos/\xs=[l]/\rJ l=true:=by
 have no:¬ ((none:Option (List Expr))=some xs):=λe=>nomatch e
 cases e with
 |Attribute l y pos =>
  replace h:(if(y==f&&rJ l)=true then some [l] else none)=some xs:=h
  by_cases hb:(y==f&&rJ l)=true
  .rw[if_pos hb] at h;obtain⟨h1,h2⟩:=tP hb;cases h;cases eq_of_beq h1;exact⟨l,pos,rfl,rfl,h2⟩
  .rw[if_neg hb] at h;exact absurd h no
 |_=>exact absurd h no
theorem zaK {K:yM} {H:Hp} {f:Str}:∀ {ns:List Str} {ws:List W} {vs:List V} {w:W},yY K H ws vs->(ns.zip ws).lookup f=some w->∃ v,(ns.zip vs).lookup f=some v/\xF K H w v
 | [],ws,vs,w,_,e=>by cases e
 |n::ns,[],vs,w,_,e=>by cases e
 |n::ns,x::ws,vs,w,r,e=>by
  obtain⟨v,tl,rfl,rv,rt⟩:=r;rw[ZS,ZG] at e ⊢
  cases q:(f==n) with
  |true=>rw[q] at e;cases e;exact⟨v,rfl,rv⟩
  |false=>rw[q] at e;exact zaK rt e
theorem sx_xf {q:Pr} {A:Around} {f:Str}:SxE (q.at A) ⟨xfM f,xfS q.K f⟩:=by
 intro X fits e xs es he each hn pa;obtain⟨l,pos,rfl,rfl,ok⟩:=zgs (sc:=X.env.scope) he
 match es,each with
 | [t],each =>
  refine⟨(pe_xf each.2.1 (vV ok)).imp λτ H Q h=>?_,λ_=>rfl,λ_ _ _ z=>nomatch z⟩;obtain⟨σ,G,hs,ab,h⟩:=h;refine xJ each.1 hs ab h λw G1 v H1 g1 hs1 rx a1 h=>?_;have h:xfS q.K f [w] G1 (jT X.K H Q):=h;unfold xfS at h
  split at h
  .rename_i C ns vs ew;cases ew;obtain⟨⟨h1,h2,h3⟩,h⟩:=h
   split at h
   .rename_i w' lk;obtain⟨a,us,rfl,ex,rr⟩:=rx;obtain⟨v',lk',rv⟩:=zaK rr lk;rw[show q.K=X.K from(fits.K).symm] at h1 h2 h3;exact⟨a,C,_,v',rfl,ex,h1,h2,h3,lk',h _ H1 g1 rv a1⟩
   .exact h.elim
  .exact h.elim
end L3
namespace PySem
open PySem.W
noncomputable def Nw (fs:Array Value):Prop:=∃ v0 v2 v3 v4 v5,fs=#[v0,.none,v2,v3,v4,v5]
section
variable {prog:Program} {w:World} {A:Around} {Er:VP} {hp:Heap} {gn:Array GenState} {dr:Drawn} {tk:Nat} {st:OsState} {K:Frag}
variable {nm qn:Str} {C N:Addr} {bs up:List Value} {hdct:Bool} {sn:List Str} {sub:List Value} {ab:Bool} {col:Option Bool} {dd:Option Addr} {k0 k1 k2 k3 k5:Option Value} {B new ini:String} {upB:List Value} {ps:List Value}
theorem zij {M:Model} (F:ExcBaseFacts B new ini upB) (cC:hp.get? C=some (excClassObj nm qn C N bs up hdct sn sub ab col dd k0 k1 k2 k3 k5 new)) (isB:(Value.ref C::up).contains (.type B)=true) {Q:Unit->Shared->Prop} (go:Q () ⟨hp,gn,dr,tk,st⟩) :
  wpAny M A (checkBuiltinCall new ⟨.ref C::ps,[]⟩) Q Er ⟨hp,gn,dr,tk,st⟩:=by
 have z:=F.noStar;simp only[checkBuiltinCall,F.newKind,F.newRow,F.newSplit]
 repeat (first|(refine Zal cC ?_;rw[isB])|refine wpAny_madeBy_exc cC ?_|refine wpAny_staticBase_exc cC ?_|refine Z4 cC ?_|simp only[if_false,zzB,bne_self_eq_false]|wp_step)
 exact go
theorem zii (F:ExcBaseFacts B new ini upB) (cC:hp.get? C=some (excClassObj nm qn C N bs up hdct sn sub ab col dd k0 k1 k2 k3 k5 new)) (isB:(Value.ref C::up).contains (.type B)=true) (noA:(Value.ref C::up).contains (.type "AttributeError")=false) (noN:(Value.ref C::up).contains (.type "NameError")=false)
  (few:ps.length<=sizeLine) {R:Result->Shared->Prop} (go:R (.ok (.ret (.ref (hp.objs.size+1)))) ⟨xnH hp C ps,gn,dr,tk,st⟩):codeAny 'd' A (.builtin new ⟨.ref C::ps,[]⟩) R ⟨hp,gn,dr,tk,st⟩:=by
 have z:=F.ends;refine codeAny_builtinAt F.entry ?_;unfold Builtin.«BaseException.__new__»;refine wpAt_bind (show wpAt _ _ _ (stack >>= _) _ _ _ from wpAt_bind (wpAt_stack λp below=>wpAt_of_wpAny ?_))
 wp_walk
 refine wpAt_of_wpAny ?_;rw[F.owner]
 repeat (first|(with_reducible refine Zal cC ?_;first|rw[isB]|rw[noA]|rw[noN])|(with_reducible refine wpAny_madeHere_exc F.canon cC ?_)|(with_reducible refine Z4 cC ?_)|wp_step)
 show R _ _;rw[ZH];exact go
theorem zgn (X:K.In hp) (F:ExcBaseFacts B new ini upB) (lC:K.lookup C=some (excClassObj nm qn C N bs up hdct sn sub ab col dd k0 k1 k2 k3 k5 new)) (isB:(Value.ref C::up).contains (.type B)=true) (noA:(Value.ref C::up).contains (.type "AttributeError")=false) (noN:(Value.ref C::up).contains (.type "NameError")=false)
  (few:ps.length<=sizeLine) {fI:Addr} (ci:findIn K (.ref C) "__init__" = some (fI⁻¹)) (cf:typeIn K (.ref fI)=some (.type "function")) {Q:Fin->Shared->Prop}
  (go:wpAny 'd' A (call (.ref fI) (.ref (hp.objs.size+1)::ps)) (λr s'=>r=.none/\Q (.done (.ret (.ref (hp.objs.size+1)))) s') Er ⟨xnH hp C ps,gn,dr,tk,st⟩) :
  wpAny 'd' A (Builtin.«type.__call__» ⟨.ref C::ps,[]⟩) Q Er ⟨hp,gn,dr,tk,st⟩:=by
 have cC:=X _ _ lC;have X':K.In (xnH hp C ps):=λa o e=>zfw (X a o e);have mine:(Value.ref C::up).contains (.ref C)=true:=by simp
 have cC':=X' _ _ lC;have here:=zih (hp:=hp) (C:=C) (ps:=ps)
 repeat (first|(with_reducible refine Z4 cC ?_)|(with_reducible refine wpAny_madeBy_exc cC ?_)|wp_step)
 refine codeAny_call_builtin_code (Code.quiet_builtin _ F.quiet) (zij F cC isB (zii F cC isB noA noN few ?_));show wpAny _ _ _ _ _ (Shared.mk (xnH hp C ps) _ _ _ _);unfold isInstance
 repeat (first|(with_reducible refine Z4 here ?_)|(with_reducible refine Zal cC' ?_;rw[mine])|wp_step)
 refine(show wpAny 'd' A (typeLookup (.ref C) "__init__") _ _ _ from(ZbX X' ci (M:=model prog w)).at ?_);refine ZO (Za (show wpAny 'd' A (bindSpecial (.ref fI) _) _ _ _ from ?_));unfold bindSpecial;refine Za ((looks_typeIn X' cf (M:=model prog w)).at ?_);rw[if_pos 'c'];refine Zc (Za (Zv go (λr s' z=>?_) λ_ _ z=>z));obtain⟨rfl,z⟩:=z
 wp_walk
 exact z
theorem zgo (X:K.In hp) (F:ExcBaseFacts B new ini upB) (lC:K.lookup C=some (excClassObj nm qn C N bs up hdct sn sub ab col dd k0 k1 k2 k3 k5 new)) (isB:(Value.ref C::up).contains (.type B)=true) (noA:(Value.ref C::up).contains (.type "AttributeError")=false) (noN:(Value.ref C::up).contains (.type "NameError")=false)
  (few:ps.length<=sizeLine) {fI:Addr} (ci:findIn K (.ref C) "__init__" = some (fI⁻¹)) (cf:typeIn K (.ref fI)=some (.type "function")) {Q:VP}
  (go:wpAny 'd' (A.under (.builtin "type.__call__" ⟨.ref C::ps,[]⟩)) (call (.ref fI) (.ref (hp.objs.size+1)::ps)) (λr s'=>r=.none/\Q (.ref (hp.objs.size+1)) s') Er ⟨xnH hp C ps,gn,dr,tk,st⟩) :
  wpAny 'd' A (call (.ref C) ps) Q Er ⟨hp,gn,dr,tk,st⟩:=by
 have cC:=X _ _ lC;have a1:=tc_lookup;have a2:=tc_bind (.ref C);have a3:(⟨hp,gn,dr,tk,st⟩:Shared).TypeIs (.ref C) "type" := ⟨_,cC,rfl⟩;refine ZbG (codeAny_of_tree (show wpAny _ _ (callAny (.ref C) _) _ _ _ from ?_))
 repeat (any_goals (first|assumption|(with_reducible refine Z4 cC ?_)|wp_step))
 exact⟨rfl,codeAny_call_builtin_at (Code.quiet_builtin _ (by decide +kernel)) entry_typeCall (wpAny_check_type_call_sub cC (zgn X F lC isB noA noN few ci cf go))⟩
end
end PySem
namespace L3
open PySem PySem.Spec PyProof.Rows L2
structure XM (K:yM) (C:Addr) (ini:Value):Prop where
 cls:∃ (nm qn:Str) (N:Addr) (bs up:List Value) (hd:Bool) (sn:List Str) (sub:List Value) (ab:Bool) (col:Option Bool) (dd:Option Addr) (k0 k1 k2 k3 k5:Option Value),
  K.lookup C=some (excClassObj nm qn C N bs up hd sn sub ab col dd k0 k1 k2 k3 k5 "ValueError.__new__")/\(Value.ref C::up).contains (.type "ValueError")=true/\(Value.ref C::up).contains (.type "AttributeError")=false/\(Value.ref C::up).contains (.type "NameError")=false/\(Value.ref C::up).contains (.type "BaseException")=true
 ini:PySem.W.findIn K (.ref C) "__init__" = some (some ini)
 kp:PySem.W.keepIn K (.ref C)=true
noncomputable def ExN (a C:Addr) (dx:Option Addr):Heap->Prop:=λh=>∃ fs,h.get? a=some { cls:=.ref C,dict:=dx,data:=.fields fs}/\Nw fs
theorem zf5 {P:Program} {w:World} {H:Hp} {h:Heap} {a C:Addr} {dx:Option Addr} {fs:Array Value} (e:h.get? a=some { cls:=.ref C,dict:=dx,data:=.fields fs}) (n:Nw fs):xK P w H h a (.ext (ExN a C dx)) :=
 ⟨⟨fs,e,n⟩,⟨_,e⟩,λh1 h2 z k=>by obtain⟨fs',e,n⟩:=z;exact⟨fs',k _ e,n⟩⟩
theorem zf4 {P:Program} {w:World} {H:Hp} {h:Heap} {a C:Addr} {dx:Option Addr} {fs:Array Value} (e:h.get? a=some { cls:=.ref C,dict:=dx,data:=.fields fs}):xK P w H h a (.ext (cO a C dx)) :=
 ⟨⟨fs,e⟩,⟨_,e⟩,λh1 h2 z k=>by obtain⟨fs',e⟩:=z;exact⟨fs',k _ e⟩⟩
structure XI (K:yM) (C:Addr) (f:Str):Prop where
 cls:∃ cd,PySem.W.clsIn K C=some cd/\cd.hasDict=true/\PySem.W.vTail cd.mro
 sa:PySem.W.findIn K (.ref C) "__setattr__" = some (some (.builtin "object.__setattr__"))
 mro:PySem.W.mroIn K C (.type "object")=some true
 no:PySem.W.findIn K (.ref C) f=some none
theorem zcy {hp:Heap} {od v:Obj} {b:Addr} (z:b≠hp.objs.size) (q:(hp.push od).get? b=some v):hp.get? b=some v:=by
 obtain⟨q1,q2⟩:=Zbo.mp q;refine Zbo.mpr ⟨?_,q2⟩;obtain⟨os,rs⟩:=hp;simpa[Heap.push,Array.getElem?_push,z] using q1
section
variable {X:Cx}
theorem zgl {pins:PL} {σ:L2.St} {H:Hp} {s:Shared} {A:Around} {Er:VP} {a C:Addr} {f:Str} {y:V} {u:Value} {Q:Unit->Shared->Prop} (I:Inv X pins σ H s) (e:H a=some (.ext (ExN a C none))) (T:XI X.K C f) (ry:yV y u)
  (h:∀ dx s',H dx=none->dx≠a->Inv X pins σ (yG (yG H dx (.xd [(f,y)])) a (.ext (ExN a C (some dx)))) s'->Q () s'):wpAny 'b' A (setAttr (.ref a) f u) Q Er s:=by
 obtain⟨⟨fs,h1,nw⟩,_⟩:=I.hok a _ e;obtain⟨cd,hc,hd,up⟩:=T.cls;obtain⟨hp,gn,dr,tk,st⟩:=s;refine jO I.tk (PySem.W.xs_set I.kIn h1 hc hd up T.sa T.mro T.no λh' n' now ns keep h0=>?_);have fr:H hp.objs.size=none:=I.hok.fresh (zzR _);have ne:hp.objs.size≠a:=λz=>by rw[z,e] at fr;cases fr
 obtain⟨od,es,ep,e1,rest⟩:=id ns;have live:=(Zbo.mp e1).2;have at1:(hp.push od).get? hp.objs.size=some od:=Zl hp live
 have rel:∀ g,pZ ([(f,y)].lookup g) (if g=f then some u else none):=λg=>by
  by_cases q:g=f
  .subst q;rw[if_pos rfl,List.lookup_cons_self];exact ry
  .have:(g==f)=false:=by simpa using q
   rw[if_neg q,ZG,this];exact True.intro
 have I1:=I.laid (a:=hp.objs.size) (h':=hp.push od) (t':=tk) (o:=.xd [(f,y)]) (λb v q=>Zb _ q) (zzR _) ⟨_,ns.at λo q=>by rw[e1] at q;cases q;exact at1,rel⟩
 have I2:=I1.write (x:=a) (e:=a) (h':=h') (t':=n') (o:=.ext (ExN a C (some hp.objs.size))) (by rw[zA ne.symm,e];exact True.intro) (.inl rfl) (λb v hb q=>by
   by_cases z:b=hp.objs.size
   .subst z;rw[at1] at q;cases q;exact e1
   .exact keep b v hb (zcy z q)) ⟨_,now⟩ (zf5 now nw)
 exact h _ _ fr ne I2
noncomputable def sXs (K:yM) (ta tv:TE) (f:Str):TS:=λD σ H=>tv σ H λy H1=>ta σ H1 λx H2=>∃ a C,x=.ref a/\H2 a=some (.ext (ExN a C none))/\XI K C f/\∀ dx,H2 dx=none->dx≠a->D.nx σ (yG (yG H2 dx (.xd [(f,y)])) a (.ext (ExN a C (some dx))))
theorem ps_xs {o value:Expr} {f:Str} {pos pos':Pos} {ta tv:TE} (ha:PE X o ta) (hv:PE X value tv) (hs:swapsWith value (some (.Attribute o f pos')) pos.line X.env=pure false):PS X (.Assign [.Attribute o f pos'] value pos) (sXs X.K ta tv f):=by
 intro pins s σ H D I h;refine plainObj_wpAny_Assign_Attribute (thn (hv pins s σ H _ I h) λu s1 z=>?_) hs;obtain⟨y,H1,I1,ry,z⟩:=z;refine thn (ha pins s1 σ H1 _ I1 z) λov s2 z=>?_;obtain⟨x,H2,I2,rx,a,C,rfl,e,T,z⟩:=z;cases(show ov=Value.ref a from rx);exact zgl I2 e T ry λdx s3 fr ne I3=>⟨σ,_,I3,z dx fr ne⟩
end
noncomputable def spXI (K:yM) (f:Str):Sp:=λvs H Q _=>∃ a v C,vs=[.ref a,v]/\H a=some (.ext (ExN a C none))/\XI K C f/\∀ dx,H dx=none->dx≠a->Q .non (yG (yG H dx (.xd [(f,v)])) a (.ext (ExN a C (some dx))))
theorem zdY {q:Pr} {k:Nat} {qual p f:Str} {stm:Stmt} {fI:Addr} {fd:FuncData} {p1 p2 p3 p4:Pos} (F:Fun q.K "__init__" qual stm fI fd) (S:FnScope ["self", p] ["self", p] (zH stm)) (hb:yX stm=[.Assign [.Attribute (.Name "self" p1) f p2] (.Name p p3) p4])
  (v0:visB (zH stm) "self" = true) (v1:visB (zH stm) p=true) (n1:(p==("__debug__":Str))=false) (n2:(p==("__classdict__":Str))=false):FnOk q.prog q.w q.K q.mg q.base CX0 (k+1) fI fd ["self", p] (spXI q.K f):=by
 refine F.ok S (λvs H Q E h=>by obtain⟨a,v,C,rfl,_⟩:=h;rfl) (λcdv A outer s H vs Q E hr h=>?_);obtain⟨a,v,C,rfl,e,T,h⟩:=h;rw[hb];refine⟨_,zcz (ps_xs (bR (i:=0) rfl (zbZ v0) (by decide +kernel) (by decide +kernel)) (bR (i:=1) rfl (zbZ v1) n1 n2) (qA rfl)),?_⟩;exact⟨v,rfl,.ref a,rfl,a,C,rfl,e,T,λdx fr ne=>h dx fr ne⟩
noncomputable def mk1 (C:Addr) (f:Str):List V->Hp->VK->Prop:=λvs H Q=>∃ v,vs=[v]/\∀ a dx,H a=none->H dx=none->dx≠a->Q (.ref a) (yG (yG H dx (.xd [(f,v)])) a (.ext (ExN a C (some dx))))
theorem zjy {X:Cx} {C fI:Addr} {f p:Str} {k:Nat} {fd:FuncData} (T:XM X.K C (.ref fI)) (TI:XI X.K C f) (F:FnOk X.prog X.w X.K X.mg X.base CX0 k fI fd ["self", p] (spXI X.K f)) (hr:Room (k+1) X.A) (hb:qG X.K fd ["self", p] []) (hf:PySem.W.typeIn X.K (.ref fI)=some (.type "function")) :
  wW X (.ref C) (mk1 C f):=by
 intro pins s σ H xs us Q I r h;obtain⟨v,rfl,h⟩:=h;obtain⟨u,rfl,ru⟩:=jX r;obtain⟨nm,qn,N,bs,up,hd,sn,sub,abb,col,dd,k0,k1,k2,k3,k5,lC,isB,noA,noN,isX⟩:=T.cls;obtain⟨hp,gn,dr,tk,st⟩:=s;have one:([u]:List Value).length<=sizeLine:=by show 1<=sizeLine;rw[Z2];decide
 refine zgo I.kIn PySem.F.excBase_ValueError lC isB noA noN one T.ini hf ?_;have fr:H (hp.objs.size+1)=none:=I.hok.fresh (Zb0 _);have I2:=I.laid (a:=hp.objs.size+1) (h':=xnH hp C [u]) (t':=tk) (o:=.ext (ExN (hp.objs.size+1) C none)) (λb o=>zfw) (Zb0 _) (zf5 zih ⟨_,_,_,_,_,rfl⟩);generalize hp.objs.size+1=e at fr I2 ⊢
 have hq:spXI X.K f [.ref e,v] (yG H e (.ext (ExN e C none))) (λv' H2=>v'=.non/\Q (.ref e) H2) E0:=by
  refine⟨e,v,C,rfl,yI,TI,λdx fx ne=>⟨rfl,?_⟩⟩;have fx':H dx=none:=by rw[zA ne] at fx;exact fx
  have same:yG (yG (yG H e (.ext (ExN e C none))) dx (.xd [(f,v)])) e (.ext (ExN e C (some dx)))=yG (yG H dx (.xd [(f,v)])) e (.ext (ExN e C (some dx))):=by
   funext b
   unfold yG
   by_cases z:b=e
   .simp only[if_pos z]
   .by_cases z':b=dx
    .simp only[if_neg z,if_pos z']
    .simp only[if_neg z,if_neg z']
  rw[same];exact h e dx fr fx' ne
 refine ZbG (ZaF (F.run _ X.stack _ _ ⟨[.ref e,u],[]⟩ [.ref e,u] [.ref e,v] _ E0 (hr.make C [u] []) (I2.env0.make C [u] []) (hb _ [.ref e,u] I2.kIn rfl) (.cons rfl (.cons ru .nil)) hq) λrr s' z=>?_)
 cases rr with
 |error e'=>exact zg0 pins σ _ _ e' s' I2 z
 |ok fl =>
  cases fl with
  |ret u' =>
   obtain⟨v',H',I3,rv',ev,q3⟩:=I2.after z;subst ev;exact⟨rv',⟨.ref e,H',I3,rfl,q3⟩⟩
  |next=>exact False.elim z
  |brk=>exact False.elim z
  |cont=>exact False.elim z
structure Lf (fs:List Addr) (a:Addr) (old:Option Addr) (T:Addr) (fl:Value) (h h':Heap):Prop where
 keep:∀ b o,h.get? b=some o->b≠a->old≠some b->b∉fs->h'.get? b=some o
 slot:∀ b o,h.get? b=some o->b≠a->old≠some b->∃ sl,h'.get? b=some {o with slots:=sl}
 it:∀ o vs,h.get? a=some o->o.data=.fields vs->∃ vs',h'.get? a=some {o with data:=.fields vs'}/\vs'[1]?=T⁻¹
 tb:∃ oT ts,h'.get? T=some oT/\oT.data=.fields ts/\ts[3]?=some fl
 new:h.objs.size<=T
 old':∀ b o,old=some b->h.get? b=some o->∃ o',h'.get? b=some o'
section
variable {M:Model} {A:Around} {E:VP} {s:Shared} {base:Heap} {env:Env} {outer:List Env} {L a:Addr}
theorem mapF {o:Obj} {vs:Array Value} (hd:o.data=.fields vs) (f:Array Value->Array Value):Obj.mapFields f o={o with data:=.fields (f vs)}:=by
 obtain⟨c,d,dt,sl⟩:=o;subst hd;rfl
theorem sJ {h:Heap} {b:Addr} {o:Obj} {vs:Array Value} (e:h.get? b=some o) (hd:o.data=.fields vs) (f:Array Value->Array Value):(h.update b (Obj.mapFields f)).get? b=some {o with data:=.fields (f vs)}:=by
 rw[← mapF hd];exact Zx _ e (by rw[mapF hd];rfl)
theorem zbk {oe:Obj} {vs:Array Value} {head:Value} {had:Bool} {Q:Unit->Shared->Prop} (hfr:A.frames=some (env::outer)) (hl:s.heap.FunFrames base (env::outer)) (hf:env.frame=some L) (he:s.heap.get? a=some oe) (hd:oe.data=.fields vs) (hz:1<vs.size)
  (q:∀ h' T,Lf (sN (env::outer)) a none T (rawInt L) s.heap h'->Q () {s with heap:=h'}) :
  wpAny M A (frameOf env >>= λx=>entryPlaceOf L had >>= λpl=>EntryCells.newEntry head x .none (rawInt L) .none pl >>= λb=>setField (.ref a) 1 b) Q E s:=by
 have na:a∉sN (env::outer):=λz=>by
  obtain⟨_,o,ho,no⟩:=hl.mem z;rw[he] at ho;cases ho;exact no vs hd
 refine Za (wpAny_frameOf_fun hfr hl hf λh1 s1=>Za (wpAny_entryPlaceOf λpl hp=>?_));unfold EntryCells.newEntry newFields;refine Za (Z5 ?_ (hp.sizeOk5 _ _ _ _ _));have e1:h1.get? a=some oe:=(s1.2.1 a na).trans he;have lt:a<h1.objs.size:=Zd e1;refine Za7 (Zb _ e1) hd hz (q _ h1.objs.size ⟨λb o eb n1 _ n2=>?_,λb o eb n1 _=>?_,λo ws eo ew=>?_,?_,by rw[s1.1];exact zzR _,λb o z=>by cases z⟩)
 .rw[Zu _ _ (Ne.symm n1)];exact Zb _ ((s1.2.1 b n2).trans eb)
 .obtain ⟨sl,es⟩:=s1.2.2 b o eb;exact⟨sl,by rw[Zu _ _ (Ne.symm n1)];exact Zb _ es⟩
 .rw[he] at eo;cases eo;rw[hd] at ew;cases ew;exact⟨_,sJ (Zb _ e1) hd _,by simp[hz]⟩
 .refine ⟨_,_,(Zu _ _ (Zo lt)).trans (Zl h1 rfl),rfl,?_⟩
  first|(simp;done)|(rcases hp with rfl|⟨_,_,_,_,_,_,_,rfl⟩<;>simp)
theorem zcJ {oe:Obj} {vs:Array Value} {Q:Unit->Shared->Prop} (hfr:A.frames=some (env::outer)) (hl:s.heap.FunFrames base (env::outer)) (hf:env.frame=some L) (he:s.heap.get? a=some oe) (hd:oe.data=.fields vs) (h1:vs[1]?=some .none)
  (q:∀ h' T,Lf (sN (env::outer)) a none T (rawInt L) s.heap h'->Q () {s with heap:=h'}):wpAny M A (noteFrame (.ref a) env) Q E s:=by
 unfold noteFrame;simp only[hf];refine Za (ZR he hd h1 ?_);rw[if_neg 'c'];exact zbk hfr hl hf he hd (Zaa.mp h1).1 q
structure Trc (h:Heap) (a T:Addr):Prop where
 it:∃ o vs,h.get? a=some o/\o.data=.fields vs/\vs[1]?=T⁻¹
 ne:T≠a
 tb:∃ o ts,h.get? T=some o/\o.data=.fields ts/\ts[3]?=some .none
structure TrcA (h:Heap) (a T:Addr):Prop where
 it:∃ o vs,h.get? a=some o/\o.data=.fields vs/\vs[1]?=T⁻¹
 ne:T≠a
 tb:∃ o ts,h.get? T=some o/\o.data=.fields ts/\3<ts.size
theorem Trc.any {h:Heap} {T:Addr} (t:Trc h a T):TrcA h a T:=by
 obtain⟨o,ts,e,d,h3⟩:=t.tb;exact⟨t.it,t.ne,o,ts,e,d,(Zaa.mp h3).1⟩
theorem nO {T0:Addr} {Q:Unit->Shared->Prop} (hfr:A.frames=some (env::outer)) (hl:s.heap.FunFrames base (env::outer)) (hf:env.frame=some L) (t:TrcA s.heap a T0) (q0:¬ (∃ o ts,s.heap.get? T0=some o/\o.data=.fields ts/\ts[3]?=some .none)->Q () s)
  (q:∀ h' T,Lf (sN (env::outer)) a (some T0) T (rawInt L) s.heap h'->Q () {s with heap:=h'}):wpAny M A (noteFrame (.ref a) env) Q E s:=by
 obtain⟨oe,vs,he,hd,h1⟩:=t.it;obtain⟨oT,ts,hT,dT,z3⟩:=t.tb;have h3:ts[3]?=some ts[3]:=Array.getElem?_eq_getElem z3
 have nT:T0∉sN (env::outer):=λz=>by
  obtain⟨_,o,ho,no⟩:=hl.mem z;rw[hT] at ho;cases ho;exact no ts dT
 unfold noteFrame;simp only[hf];refine Za (ZR he hd h1 ?_);rw[if_pos (show(Value.ref T0 != Value.none)=true by simp)];refine Za (ZR hT dT h3 ?_)
 by_cases hz:(ts[3]==rawInt L)=true
 .rw[if_pos hz];refine Zc (q0 λz=>?_);obtain⟨o,us,e1,e2,e3⟩:=z;rw[hT] at e1;cases e1;rw[dT] at e2;cases e2;rw[h3] at e3;rw[ZE e3] at hz;simp[rawInt] at hz
 rw[if_neg hz];refine Za (Za7 hT dT z3 ?_);have off:∀ {b:Addr} {o:Obj},b≠T0->s.heap.get? b=some o->(s.heap.update T0 (Obj.mapFields (·.setIfInBounds 3 Value.none))).get? b=some o:=λn e=>(Zu _ _ (Ne.symm n)).trans e
 have nf:∀ b o,s.heap.get? b=some o->(∀ vs,o.data≠.fields vs)->b≠T0:=λb o e no z=>by
  rw[z,hT] at e;cases e;exact no ts dT
 refine zbk (base:=base) (a:=a) (oe:=oe) (s:={s with heap:=s.heap.update T0 (Obj.mapFields (·.setIfInBounds 3 Value.none))}) hfr (hl.of_keeps λb o e no=>⟨o,off (nf b o e no) e,rfl⟩) hf (off t.ne.symm he) hd (Zaa.mp h1).1 λh' T x=>q h' T ?_;refine⟨λb o e n1 n2 n3=>x.keep b o (off (λz=>n2 (by rw[z])) e) n1 'g' n3,λb o e n1 n2=>x.slot b o (off (λz=>n2 (by rw[z])) e) n1 'g',λo ws e ew=>?_,x.tb,?_,λb o eb e=>?_⟩
 .exact x.it o ws (off t.ne.symm e) ew
 .have:=x.new
  rwa[Zac] at this
 .cases eb;obtain⟨sl,es⟩:=x.slot T0 _ (sJ hT dT _) t.ne 'g';exact⟨_,es⟩
theorem zcI {T0:Addr} {Q:Unit->Shared->Prop} (hfr:A.frames=some (env::outer)) (hl:s.heap.FunFrames base (env::outer)) (hf:env.frame=some L) (t:Trc s.heap a T0)
  (q:∀ h' T,Lf (sN (env::outer)) a (some T0) T (rawInt L) s.heap h'->Q () {s with heap:=h'}):wpAny M A (noteFrame (.ref a) env) Q E s:=nO hfr hl hf t.any (λz=>absurd t.tb z) q
theorem uU {fs:List Addr} {old:Option Addr} {T:Addr} {fl:Value} {h0:Heap} {Q:Unit->Shared->Prop} (x:Lf fs a old T fl h0 s.heap) (he:∃ o vs,h0.get? a=some o/\o.data=.fields vs) (q:∀ h',Lf fs a old T .none h0 h'->Q () {s with heap:=h'}):wpAny M A (setFlight (.ref a) none) Q E s:=by
 obtain⟨o,vs,he,hd⟩:=he;obtain⟨vs',e1,h1⟩:=x.it o vs he hd;obtain⟨oT,ts,eT,dT,h3⟩:=x.tb;have z3:3<ts.size:=(Zaa.mp h3).1;have off:∀ {b:Addr} {o:Obj},h0.get? b=some o->∀ {u:Obj},s.heap.get? b=some u->(s.heap.update T (Obj.mapFields (·.setIfInBounds 3 Value.none))).get? b=some u:=λe u r=>(Zu _ _ (Ne.symm (Zo (Zj (Zd e) x.new)))).trans r;unfold setFlight;refine Za (ZR e1 rfl h1 ?_);rw[if_pos (show(Value.ref T != Value.none)=true by simp)];refine Za7 eT dT z3 (q _ ⟨λb o e n1 n2 n3=>off e (x.keep b o e n1 n2 n3),λb o e n1 n2=>?_,λo ws e ew=>?_,⟨_,_,sJ eT dT _,rfl,by simp[z3]⟩,x.new,λb o eb e=>?_⟩)
 .obtain ⟨sl,r⟩:=x.slot b o e n1 n2;exact⟨sl,off e r⟩
 .obtain ⟨ws',r,r1⟩:=x.it o ws e ew;exact⟨ws',off e r,r1⟩
 .obtain ⟨o',r⟩:=x.old' b o eb e;exact⟨o',off e r⟩
theorem zdl {T:Addr} {fr:Option Addr} {Q:Unit->Shared->Prop} (t:TrcA s.heap a T) (q:∀ h',TrcA h' a T->Heap.SameBut T s.heap h'->(fr=none->Trc h' a T)->Q () {s with heap:=h'}):wpAny M A (setFlight (.ref a) fr) Q E s:=by
 obtain⟨o,vs,he,hd,h1⟩:=t.it;obtain⟨oT,ts,eT,dT,z3⟩:=t.tb;unfold setFlight;refine Za (ZR he hd h1 ?_);rw[if_pos (show(Value.ref T != Value.none)=true by simp)];refine Za7 eT dT z3 (q _ ⟨⟨o,vs,(Zu _ _ t.ne).trans he,hd,h1⟩,t.ne,_,_,sJ eT dT _,rfl,by simp[z3]⟩ (ZD ..) λe=>⟨⟨o,vs,(Zu _ _ t.ne).trans he,hd,h1⟩,t.ne,_,_,sJ eT dT _,rfl,by subst e;simp[z3]⟩)
theorem Lf.trc {fs:List Addr} {old:Option Addr} {T:Addr} {h h':Heap} (x:Lf fs a old T .none h h') (he:∃ o vs,h.get? a=some o/\o.data=.fields vs):Trc h' a T:=by
 obtain⟨o,vs,he,hd⟩:=he;obtain⟨vs',e1,h1⟩:=x.it o vs he hd;exact⟨⟨_,vs',e1,rfl,h1⟩,Z3 (Zj (Zd he) x.new),x.tb⟩
theorem zcY {oe:Obj} {vs:Array Value} {Q:Unit->Shared->Prop} (hfr:A.frames=some (env::outer)) (hl:s.heap.FunFrames base (env::outer)) (hf:env.frame=some L) (he:s.heap.get? a=some oe) (hd:oe.data=.fields vs) (h1:vs[1]?=some .none)
  (q:∀ h' T,Lf (sN (env::outer)) a none T .none s.heap h'->Q () {s with heap:=h'}):wpAny M A (leaving env (.ref a)) Q E s:=by
 unfold leaving;exact Za (zcJ hfr hl hf he hd h1 λh' T x=>uU x ⟨oe,vs,he,hd⟩ λh2 x2=>q h2 T x2)
theorem zeN {T0:Addr} {Q:Unit->Shared->Prop} (hfr:A.frames=some (env::outer)) (hl:s.heap.FunFrames base (env::outer)) (hf:env.frame=some L) (t:Trc s.heap a T0)
  (q:∀ h' T,Lf (sN (env::outer)) a (some T0) T .none s.heap h'->Q () {s with heap:=h'}):wpAny M A (leaving env (.ref a)) Q E s:=by
 obtain⟨oe,vs,he,hd,h1⟩:=t.it;unfold leaving;exact Za (zcI hfr hl hf t λh' T x=>uU x ⟨oe,vs,he,hd⟩ λh2 x2=>q h2 T x2)
end
noncomputable def CXr (P:Program) (w:World):CXT:=λouter H s E e s'=>∃ (a C:Addr) (dx:Option Addr) (T:Addr) (H':Hp),e=.ref a/\s'.os=s.os/\0<s'.toks/\AllBare s'.gens/\Un (sN outer) [] H H' s.heap s'.heap/\uW P w H' s'.heap /\
 H' a=some (.ext (cO a C dx))/\Trc s'.heap a T/\s.heap.objs.size<=T/\H' T=none/\E (.ref a) none H'
section
variable {P:Program} {w:World} {fs:List Addr} {a T:Addr} {old:Option Addr} {fl:Value} {h h':Heap} {H:Hp} {φ ψ:Heap->Prop}
theorem zfX (ok:uW P w H h) (x:Lf fs a old T fl h h') (hf:∀ b∈fs,H b=none) (ho:∀ b,old=some b->H b=none) (ha:H a=some (.ext φ)) (new:xK P w (yG H a (.ext ψ)) h' a (.ext ψ)):uW P w (yG H a (.ext ψ)) h':=λb o e=>by
 by_cases hb:b=a
 .subst hb;rw[yI] at e;cases e;exact new
 .rw[zA hb] at e
  have kp:∀ c u,(∃ v,H c=some v)->c≠a->h.get? c=some u->h'.get? c=some u:=λc u hc ne q=>by
   obtain⟨v,hv⟩:=hc;refine x.keep c u q ne (λz=>?_) λz=>?_
   .rw[ho c z] at hv;cases hv
   .rw[hf c z] at hv;cases hv
  refine(ok b o e).stay (λc u hc q=>?_) (λc q=>?_) λc xs q=>?_
  .rcases hc with rfl|hc
   .exact kp c u ⟨_,e⟩ hb q
   .exact kp c u ⟨_,hc⟩ (λz=>by rw[z,ha] at hc;cases hc) q
  .rw[zA λz=>by rw[z,ha] at q;cases q];exact q
  .rw[zA λz=>by rw[z,ha] at q;cases q];exact q
end
section
variable {X:Cx} {pins:PL} {σ:L2.St} {H:Hp} {s:Shared} {a T:Addr} {old:Option Addr} {fl:Value} {h':Heap} {φ ψ:Heap->Prop}
theorem zgv (I:Inv X pins σ H s) (x:Lf (sN X.stack) a old T fl s.heap h') (ha:H a=some (.ext φ)) (hat:∃ o vs,s.heap.get? a=some o/\o.data=.fields vs) (hold:∀ b,old=some b->X.s₀.heap.objs.size<=b):Un X.fs X.ex X.H₀ (yG H a (.ext ψ)) X.s₀.heap h':=by
 have no:∀ b o,X.s₀.heap.get? b=some o->old≠some b:=λb o e z=>absurd (Zj (Zd e) (hold b z)) (Z1 _);have nL:∀ b o,X.s₀.heap.get? b=some o->b≠X.env.locals:=λb o e=>Zo (Zj (Zd e) I.ok.above);have na:∀ b,H b=none->b≠a:=λb n z=>by rw[z,ha] at n;cases n
 refine⟨λb o e n hb hx=>?_,λb o e n hb hx=>?_,λb o e n hx=>?_,λb o e hx=>?_,λb xs e=>?_,λb o u e=>?_,λb ps e=>?_⟩
 .refine x.keep b o (I.base.keep b o e n hb hx) (na b (I.base.free b o e n hx)) (no b o e) λz=>?_;rcases Zh.mp (I.stkSub b z) with z|z
  .exact nL b o e z
  .exact hb z
 .obtain ⟨sl,e1⟩:=I.base.slot b o e n hb hx;obtain⟨sl',e2⟩:=x.slot b _ e1 (na b (I.base.free b o e n hx)) (no b o e);exact⟨sl',e2⟩
 .rw[zA (na b (I.base.free b o e n hx))];exact I.base.free b o e n hx
 .obtain ⟨o',e1⟩:=I.base.there b o e hx
  by_cases hb:b=a
  .subst hb;obtain⟨oa,vs,e3,d3⟩:=hat;obtain⟨vs',r,_⟩:=x.it oa vs e3 d3;exact⟨_,r⟩
  .obtain ⟨sl,r⟩:=x.slot b o' e1 hb (no b o e);exact⟨_,r⟩
 .have e1:=I.base.tups b xs e;rw[zA λz=>by rw[z,ha] at e1;cases e1];exact e1
 .have e1:=I.base.frzs b o u e;rw[zA λz=>by rw[z,ha] at e1;cases e1];exact e1
 .obtain ⟨m,e1⟩:=I.base.tbls b ps e;exact⟨m,by rw[zA λz=>by rw[z,ha] at e1;cases e1];exact e1⟩
theorem bD {C:Addr} {dx:Option Addr} {E:L2.XK} (I:Inv X pins σ H s) (x:Lf (sN X.stack) a old T .none s.heap h') (ha:H a=some (.ext φ)) (hat:∃ fs,s.heap.get? a=some { cls:=.ref C,dict:=dx,data:=.fields fs}) (hold:∀ b,old=some b->X.s₀.heap.objs.size<=b/\H b=none) (hex:X.ex=[]) (hE:E (.ref a) none (yG H a (.ext (cO a C dx)))) :
  CXr X.prog X.w X.outer X.H₀ X.s₀ E (.ref a) {s with heap:=h'}:=by
 obtain⟨fs,at_⟩:=hat;obtain⟨vs',e1,_⟩:=x.it _ fs at_ rfl;have hT:H T=none:=I.hok.fresh x.new;have nT:T≠a:=λz=>by rw[z,ha] at hT;cases hT
 refine⟨a,C,dx,T,_,rfl,I.os,I.tk,I.bare,by have:=zgv (ψ:=cO a C dx) I x ha ⟨_,fs,at_,rfl⟩ (λb z=>(hold b z).1);rw[hex] at this;exact this,zfX I.hok x I.stkFree (λb z=>(hold b z).2) ha (zf4 e1),yI,x.trc ⟨_,fs,at_,rfl⟩,Ze I.sz x.new,by rw[zA nT];exact hT,hE⟩
theorem zdP {E:L2.XK} {e:Value} {s':Shared} (I:Inv X pins σ H s) (h:CXr X.prog X.w X.stack H s E e s'):∃ (a C:Addr) (dx:Option Addr) (T:Addr) (H':Hp),e=.ref a/\Inv X pins σ H' s'/\H' a=some (.ext (cO a C dx))/\Trc s'.heap a T/\s.heap.objs.size<=T/\H' T=none/\E (.ref a) none H':=by
 obtain⟨a,C,dx,T,H',rfl,os,tk,bare,un,hok,ha,tr,hT,nT,hE⟩:=h;obtain⟨hh,g,d,t,os'⟩:=s';obtain rfl:os'=s.os:=os;exact⟨a,C,dx,T,H',rfl,I.call (h':=hh) (g':=g) (d':=d) (t':=t) (ch:=[]) un hok bare (λb z=>absurd z 'g') tk,ha,tr,hT,nT,hE⟩
end
section
variable {X:Cx} {pins:PL} {σ:L2.St} {H:Hp} {s:Shared}
structure Nwr (X:Cx) (pins:PL) (T:Addr):Prop where
 loc:T≠X.env.locals
 s0:X.s₀.heap.objs.size<=T
 cell:∀ x c,X.env.cells.lookup x=some c->c≠T
 pin:∀ p∈X.pn++pins,p.1≠T
theorem Inv.newer {T:Addr} (I:Inv X pins σ H s) (h:s.heap.objs.size<=T):Nwr X pins T:=by
 have lt:∀ {b:Addr} {o:Obj},s.heap.get? b=some o->b≠T:=λe=>Zo (Zj (Zd e) h);obtain⟨m,⟨o,_,_,ho,_⟩,_⟩:=I.loc;refine⟨(lt ho).symm,Ze I.sz h,λx c e=>?_,λp hp=>lt (I.pin p hp).1⟩;obtain⟨v,oc,hoc,_⟩:=I.cell x c e;exact lt hoc
theorem cx_of {a C T:Addr} {dx:Option Addr} {E:L2.XK} (I:Inv X pins σ H s) (hex:X.ex=[]) (ha:H a=some (.ext (cO a C dx))) (t:Trc s.heap a T) (h0:X.s₀.heap.objs.size<=T) (nT:H T=none) (hE:E (.ref a) none H):CXr X.prog X.w X.outer X.H₀ X.s₀ E (.ref a) s :=
 ⟨a,C,dx,T,H,rfl,I.os,I.tk,I.bare,by have:=I.base;rw[hex] at this;exact this,I.hok,ha,t,h0,nT,hE⟩
end
structure XpOk (X:Cx) (Ew:L2.St->L2.XK):Prop where
 pass:∀ pins σ H s e s',Inv X pins σ H s->CXr X.prog X.w X.stack H s (Ew σ) e s'->X.xe e s'
structure XeOk (X:Cx) (Ew:L2.St->L2.XK):Prop extends XpOk X Ew where
 raise:∀ pins σ H s a C dx,Inv X pins σ H s->H a=some (.ext (ExN a C dx))->Ew σ (.ref a) none (yG H a (.ext (cO a C dx)))->X.xe (.ref a) s
 note:∀ pins σ H s a C dx T,Inv X pins σ H s->H a=some (.ext (cO a C dx))->TrcA s.heap a T->H T=none->Nwr X pins T->Ew σ (.ref a) none H->X.xe (.ref a) s
 own:PassesOwn 'b' X.A X.env X.xe
theorem cM {H:Hp} {a:Addr} {o:HO} (h:H a=some o):yG H a o=H:=by
 funext b
 by_cases hb:b=a
 .rw[hb,yI,h]
 .rw[zA hb]
theorem zim {P:Program} {w:World} {K:yM} {mg:Str->Option Value} {base:Heap} {N:List Str} {qual:Str} {scope:Scope} {f:Addr} {cd:Value} {A:Around} {outer:List Env} {s:Shared} {H:Hp} {E:L2.XK}:XeOk (rB (CXr P w) P w K mg base N qual scope f cd A outer s H E) (λ_=>E) where
 raise:=λpins σ H1 s1 a C dx I ha hE=>by
  obtain⟨⟨fs,at_,v0,v2,v3,v4,v5,rfl⟩,_⟩:=I.hok a _ ha;refine zcY (base:=base) (outer:=outer) I.ok.frames I.stack rfl at_ rfl rfl λh' T x=>?_;exact bD (X:=rB (CXr P w) P w K mg base N qual scope f cd A outer s H E) I x ha ⟨_,at_⟩ (λb z=>by cases z) rfl hE
 pass:=λpins σ H1 s1 e s2 I h=>by
  obtain⟨a,C,dx,T,H2,rfl,I2,ha,tr,hT,nT,hE⟩:=zdP (X:=rB (CXr P w) P w K mg base N qual scope f cd A outer s H E) I h;obtain⟨⟨fs,at_⟩,_⟩:=I2.hok a _ ha;refine zeN (base:=base) (outer:=outer) I2.ok.frames I2.stack rfl tr λh' T' x=>?_;refine bD (X:=rB (CXr P w) P w K mg base N qual scope f cd A outer s H E) I2 x ha ⟨_,at_⟩ (λb z=>?_) rfl ?_
  .cases z;exact⟨Ze I.sz hT,nT⟩
  .rw[cM ha];exact hE
 note:=λpins σ H1 s1 a C dx T I ha tr nT nw hE=>by
  refine Za (nO (base:=base) (outer:=outer) I.ok.frames I.stack rfl tr (λ_=>?_) λh' T' x=>?_)
  .refine zdl (fr:=none) tr λh' _ sb t2=>?_;have I2:=I.turned (it:=T) (h':=h') (t':=s1.toks) (λb o n e=>(sb.2 b n).trans e) nT nw.loc (.inr nw.s0) nw.cell nw.pin;exact cx_of (X:=rB (CXr P w) P w K mg base N qual scope f cd A outer s H E) I2 rfl ha (t2 rfl) nw.s0 nT hE
  .obtain ⟨⟨fs,at_⟩,_⟩:=I.hok a _ ha;refine uU (s:={s1 with heap:=h'}) x ⟨_,fs,at_,rfl⟩ λh2 x2=>?_;refine bD (X:=rB (CXr P w) P w K mg base N qual scope f cd A outer s H E) (s:=s1) (h':=h2) I x2 ha ⟨_,at_⟩ (λb z=>?_) rfl ?_
   .cases z;exact⟨nw.s0,nT⟩
   .rw[cM ha];exact hE
 own:=PassesOwn.leaving
section
variable {M:Model} {A:Around} {E:VP} {env:Env} {s:Shared}
structure Rsd (s:Shared) (a:Addr):Prop where
 ex:∃ (C:Addr) (dx:Option Addr) (fs:Array Value) (nm qn:Str) (N:Addr) (bs up:List Value) (hd:Bool) (sn:List Str) (sub:List Value) (ab:Bool) (col:Option Bool) (dd:Option Addr) (k0 k1 k2 k3 k5:Option Value),
  s.heap.get? C=some (excClassObj nm qn C N bs up hd sn sub ab col dd k0 k1 k2 k3 k5 "ValueError.__new__")/\(Value.ref C::up).contains (.type "BaseException")=true/\s.heap.get? a=some { cls:=.ref C,dict:=dx,data:=.fields fs}/\Nw fs
theorem zcx {x:Sem Value} {Q:Flow->Shared->Prop} (hh:A.handled=none) (h:wpAny M A x (λv s1=>∃ a,v=.ref a/\Rsd s1 a/\E (.ref a) s1) E s):wpAny M A (raiseStmt env (some x) none) Q E s:=by
 unfold raiseStmt;refine Za (Zv h (λv s1 h1=>?_) λ_ _ z=>z);obtain⟨a,rfl,⟨C,dx,fs,nm,qn,N,bs,up,hd,sn,sub,ab,col,dd,k0,k1,k2,k3,k5,hC,isX,he,v0,v2,v3,v4,v5,rfl⟩,hE⟩:=h1;obtain⟨hp,g,d,tk,os⟩:=s1
 repeat (first|with_reducible refine Z4 he ?_|with_reducible refine Z4 hC ?_|(with_reducible refine Zal hC ?_;rw[isX])|wp_step)
 exact wpAny_raiseNew_none hh hE
end
theorem zep {X:Cx} {Ew:L2.St->L2.XK} {e:Expr} {pos:Pos} {te:TE} (xo:XeOk X Ew) (hc:X.calm=true) (he:PE X e te) :
  PS X (.Raise (some e) none pos) (λ_ σ H=>te σ H λv H2=>∃ (a C:Addr) (dx:Option Addr) (ini:Value),v=.ref a/\H2 a=some (.ext (ExN a C dx))/\XM X.K C ini/\Ew σ (.ref a) none (yG H2 a (.ext (cO a C dx)))):=by
 intro pins s σ H D I h
 have key:wpAny 'b' X.A (eval e X.env) (λv s1=>∃ a,v=.ref a/\Rsd s1 a/\X.xe (.ref a) s1) X.xe s:=thn (he pins s σ H _ I h) λu s1 z=>by
  obtain⟨v,H1,I1,rv,a,C,dx,ini,rfl,ha,T,hE⟩:=z;obtain⟨nm,qn,N,bs,up,hd,sn,sub,abb,col,dd,k0,k1,k2,k3,k5,lC,isB,noA,noN,isX⟩:=T.cls;obtain⟨⟨fs,at_,nw⟩,_⟩:=I1.hok a _ ha;exact⟨a,rv,⟨C,dx,fs,nm,qn,N,bs,up,hd,sn,sub,abb,col,dd,k0,k1,k2,k3,k5,I1.kIn _ _ lC,isX,at_,nw⟩,xo.raise pins σ H1 s1 a C dx I1 ha hE⟩
 have hh:=I.ok.hd hc;rw[arm_exec_Raise];refine Za (Zao (zcx hh ?_));exact Za (Zv key (λv s1 h1=>Za (Zao (Zc h1))) λ_ _ z=>z)
noncomputable def cR (K:yM) (C Ct:Addr):Prop:=∃ (nm qn:Str) (N:Addr) (bs up:List Value) (hd:Bool) (sn:List Str) (sub:List Value) (ab:Bool) (col:Option Bool) (dd:Option Addr) (k0 k1 k2 k3 k5:Option Value),
 K.lookup C=some (excClassObj nm qn C N bs up hd sn sub ab col dd k0 k1 k2 k3 k5 "ValueError.__new__")/\(Value.ref C::up).contains (.ref Ct)=true
section
variable {X:Cx} {pins:PL} {σ:L2.St} {H:Hp} {s:Shared}
theorem zhv {M:Model} {A:Around} {E:VP} {i:Nat} {n:Str} {pos:Pos} {Q:Unit->Shared->Prop} (I:Inv X pins σ H s) (hN:X.N.Nodup) (hi:X.N[i]?=some n) (hk:X.env.scope.names.lookup n=some .local) (q:∀ s',Inv X pins (σ.set i none) H s'->Q () s') :
  wpAny M A (do bindName X.env n .none;unbindBehindTheSuite X.env n pos) Q E s:=by
 obtain⟨m,hn,hl⟩:=id I.loc;have hc:(X.env.scope.kind==.class || (X.env.scope.kind==.module&&X.env.locals != X.env.globals))=false:=by rw[I.ok.kind];rfl
 refine wpAny_nameGoes_keeps hk hn hc λh' v hn' hs=>q _ ?_;have low:∀ {b:Addr} {o:Obj},X.s₀.heap.get? b=some o->h'.get? b=s.heap.get? b:=λe=>hs.2 _ (Zo (Zj (Zd e) I.ok.above));have li:i<σ.length:=by rw[I.len];exact(Zp.mp hi).1
 have cl:∀ y c,X.env.cells.lookup y=some c->∀ w,s.heap.IsCell c w->h'.IsCell c w:=λy c e w z=>z.sameBut hs (I.cne y c e);refine⟨I.ok,I.os,I.bare,?_,⟨_,hn',?_⟩,?_,I.free,I.freeC,?_,?_,by simpa using I.len,ZM _⟩
 .refine ⟨?_,?_,I.base.free,?_,I.base.tups,I.base.frzs,I.base.tbls⟩
  .intro b o e f n1 n2;rw[low e];exact I.base.keep b o e f n1 n2
  .intro b o e f n1 n2;rw[low e];exact I.base.slot b o e f n1 n2
  .intro b o e n2;rw[low e];exact I.base.there b o e n2
 .intro j y w e1 e2 e3
  have ne:j≠i:=λz=>by
   rw[z,Zad li] at e2;cases e2
  rw[Zag (Ne.symm ne)] at e2;obtain⟨u,r,k⟩:=hl j y w e1 e2 e3;refine⟨u,r,?_⟩;rcases k with⟨k1,k2⟩|⟨k1,c,k2,k3⟩
  .have yn:y≠n:=λz=>ne (nM hN e1 (z▸hi));exact .inl ⟨k1,by simp[yn,k2]⟩
  .exact .inr ⟨k1,c,k2,cl y c k2 _ k3⟩
 .intro y c e;obtain⟨w,z⟩:=I.cell y c e;exact⟨w,cl y c e w z⟩
 .intro p hp;obtain⟨p1,p2,p3,p4,p5⟩:=I.pin p hp;exact⟨by rw[hs.2 p.1 p3];exact p1,p2,p3,p4,p5⟩
 .intro b ob e;refine(I.hok b ob e).stay (λc u hc r=>?_) (λ_ z=>z) λ_ _ z=>z;rw[hs.2 c λz=>?_]
  .exact r
  .rcases hc with hc|hc
   .rw[← hc,z,I.free] at e;cases e
   .rw[z,I.free] at hc;cases hc
theorem zhC {M:Model} {A:Around} {E:VP} {a T:Addr} {Q:Unit->Shared->Prop} (I:Inv X pins σ H s) (t:Trc s.heap a T) (nT:H T=none) (nw:Nwr X pins T) (q:∀ s',Inv X pins σ H s'->Q () s'):wpAny M A (setFlight (.ref a) none) Q E s:=by
 obtain⟨o,vs,he,hd,h1⟩:=t.it;obtain⟨oT,ts,eT,dT,h3⟩:=t.tb;unfold setFlight;refine Za (ZR he hd h1 ?_);rw[if_pos (show(Value.ref T != Value.none)=true by simp)];refine Za7 eT dT (Zaa.mp h3).1 (q _ ?_);exact I.turned (it:=T) (t':=s.toks) (λb o n e=>(Zu _ _ (Ne.symm n)).trans e) nT nw.loc (.inr nw.s0) nw.cell nw.pin
end
section
variable {M:Model} {A:Around} {E:VP} {s:Shared}
theorem zcQ {K:yM} {a C Ct:Addr} {ini:Value} {oe:Obj} {Q:Bool->Shared->Prop} (hK:K.In s.heap) (sb:cR K C Ct) (T:XM K Ct ini) (he:s.heap.get? a=some oe) (hc:oe.cls=.ref C) (q:Q true s):wpAny M A (excMatches (.ref a) (.ref Ct)) Q E s:=by
 obtain⟨nm,qn,N,bs,up,hd,sn,sub,ab,col,dd,k0,k1,k2,k3,k5,lC,hin⟩:=sb;obtain⟨nm',qn',N',bs',up',hd',sn',sub',ab',col',dd',k0',k1',k2',k3',k5',lT,_,_,_,isX⟩:=T.cls;have hC:=hK _ _ lC;have hT:=hK _ _ lT;have f:=tc_notTuple;obtain⟨hp,g,d,tk,os⟩:=s;unfold excMatches
 repeat (first|(with_reducible refine Z4 he ?_;rw[hc])|with_reducible refine Z4 hT ?_|(with_reducible refine Zal hT ?_;rw[isX])|(with_reducible refine Zal hC ?_;rw[hin])|wp_step)
 exact q
end
noncomputable def wTry (K:yM) (Ct:Addr) (i j:Nat) (D:Ends):L2.St->L2.XK:=λσ e _ H=>∃ (a C:Addr) (dx:Option Addr),e=.ref a/\H a=some (.ext (cO a C dx))/\cR K C Ct/\D.nx (((σ.set i (a⁻¹)).set j (a⁻¹)).set i none) H
section
variable {X:Cx} {Ct:Addr} {ini:Value} {n y tn:Str} {i j:Nat} {tp np yp ap hp pos:Pos}
theorem Inv.held {X':Cx} {pins pins':PL} {σ:L2.St} {H:Hp} {s:Shared} (I:Inv X pins σ H s) (ok:X'.Ok) (e:X'={X with A:=X'.A,calm:=X'.calm,pn:=X'.pn,xe:=X'.xe}) (hp:∀ p∈X'.pn++pins',p∈X.pn++pins):Inv X' pins' σ H s:=by
 obtain⟨a1,a2,a3,a4,a5,a6,a7,a8,a9,a10,a11,a12,a13,a14,a15,a16,a17⟩:=X'
 injection e
 subst_vars
 exact⟨ok,I.os,I.bare,I.base,I.loc,I.cell,I.free,I.freeC,λp h=>I.pin p (hp p h),I.hok,I.len,I.tk⟩
theorem dH {pins:PL} {σ:L2.St} {H:Hp} {s:Shared} {D:Ends} {a C T:Addr} {dx:Option Addr} (hN:X.N.Nodup) (hi:X.N[i]?=some n) (hj:X.N[j]?=some y) (ln:X.env.scope.names.lookup n=some .local) (ly:X.env.scope.names.lookup y=some .local) (nd:(n==("__debug__":Str))=false) (nc:(n==("__classdict__":Str))=false)
  (gT:Gl X tn) (mT:X.mg tn=Ct⁻¹) (dT:(tn==("__debug__":Str))=false) (TT:XM X.K Ct ini) (I:Inv X pins σ H s) (ha:H a=some (.ext (cO a C dx))) (sb:cR X.K C Ct) (t:Trc s.heap a T) (nT:H T=none) (nw:Nwr X pins T)
  (q:D.nx (((σ.set i (a⁻¹)).set j (a⁻¹)).set i none) H) :
  wpAny 'b' X.A (handleBy (.ref a) X.env [.ExceptHandler (some (.Name tn tp)) (some n) [.Assign [.Name y yp] (.Name n np) ap] hp]) (SP X pins D) X.xe s:=by
 refine wpAny_handleBy_cons (codeAny_handlers_test ?_) (by intro z;cases z)
 let XM':Cx:={X with A:=X.A.mark (a⁻¹),calm:=false,xe:=λ_ _=>False}
 have okM:XM'.Ok:={ I.ok with hd:=λz=>by cases z};have IM:Inv XM' pins σ H s:=Inv.held I okM rfl λp h=>h;refine qL (X:=XM') IM gT mT ?_ dT;obtain⟨⟨fs,at_⟩,_⟩:=I.hok a _ ha;refine zcQ I.kIn sb TT at_ rfl ?_;refine codeAny_handlers_suite_as ?_;refine zhC (X:=XM') IM t nT ⟨nw.loc,nw.s0,nw.cell,nw.pin⟩ λs1 I1=>?_;refine pD (X:=XM') I1 hN hi (.inl ln) (v:=.ref a) rfl (λs2 I2=>?_) (.inr ln);have hiσ:i<σ.length:=by rw[I.len];exact(Zp.mp hi).1
 have ps:gP XM' [.Assign [.Name y yp] (.Name n np) ap] _:=zcz (bS (X:=XM') (i:=j) hN hj (.inl ly) (bR (i:=i) hi (.inl ln) nd nc) (qA rfl) (.inr ly));refine Zv (ps pins s2 _ H { nx:=λσ' H'=>σ'=((σ.set i (a⁻¹)).set j (a⁻¹))/\H'=H,rt:=λ_ _=>False} I2 ?_) (λf s3 h3=>?_) λ_ _ z=>z.elim
 .exact ⟨.ref a,by rw[Zad hiσ],rfl,rfl⟩
 .cases f with
  |next =>
   obtain⟨σ',H',I3,rfl,rfl⟩:=h3;have I4:Inv X pins _ _ s3:=Inv.held (X:=XM') I3 I.ok rfl λp h=>h;exact zhv I4 hN hi ln λs4 I5=>⟨_,_,I5,q⟩
  |ret u=>obtain⟨_,_,_,_,_,z⟩:=h3;exact z.elim
  |brk=>obtain⟨_,_,_,z⟩:=h3;exact z.elim
  |cont=>obtain⟨_,_,_,z⟩:=h3;exact z.elim
noncomputable abbrev tryX (X:Cx) (pins:PL) (D:Ends) (hs:List ExceptHandler):Value->Shared->Prop:=λe s1=>wpAny 'b' X.A (noteFrame e X.env) (λ_ s2=>wpAny 'b' X.A (setFlight e none) (λ_ s3=>wpAny 'b' X.A (handleBy e X.env hs) (SP X pins D) X.xe s3) X.xe s2) X.xe s1
noncomputable abbrev tryC (X:Cx) (pins:PL) (D:Ends) (hs:List ExceptHandler):Cx:={X with pn:=X.pn++pins,xe:=tryX X pins D hs}
theorem zil {pins:PL} {D:Ends} (hk:X.stack=X.env::X.outer/\X.env.frame=some X.env.locals) (hN:X.N.Nodup) (hi:X.N[i]?=some n) (hj:X.N[j]?=some y) (ln:X.env.scope.names.lookup n=some .local) (ly:X.env.scope.names.lookup y=some .local) (nd:(n==("__debug__":Str))=false) (nc:(n==("__classdict__":Str))=false)
  (gT:Gl X tn) (mT:X.mg tn=Ct⁻¹) (dT:(tn==("__debug__":Str))=false) (TT:XM X.K Ct ini) :
  XeOk (tryC X pins D [.ExceptHandler (some (.Name tn tp)) (some n) [.Assign [.Name y yp] (.Name n np) ap] hp]) (wTry X.K Ct i j D):=by
 have go:∀ {pins':PL} {σ:L2.St} {H:Hp} {s:Shared} {a C T:Addr} {dx:Option Addr} {old:Option Addr} {h':Heap} {φ:Heap->Prop},Inv X pins σ H s->H a=some (.ext φ)->(∃ fs,s.heap.get? a=some { cls:=.ref C,dict:=dx,data:=.fields fs})->(∀ b,old=some b->Nwr X pins b/\H b=none)->Lf (sN X.stack) a old T (rawInt X.env.locals) s.heap h'->wTry X.K Ct i j D σ (.ref a) none (yG H a (.ext (cO a C dx))) ->
   wpAny 'b' X.A (setFlight (.ref a) none) (λ_ s3=>wpAny 'b' X.A (handleBy (.ref a) X.env [.ExceptHandler (some (.Name tn tp)) (some n) [.Assign [.Name y yp] (.Name n np) ap] hp]) (SP X pins D) X.xe s3) X.xe {s with heap:=h'}:=by
  intro pins' σ H s a C T dx old h' φ I ha hat hold x hE;obtain⟨fs,at_⟩:=hat;refine uU (s:={s with heap:=h'}) x ⟨_,fs,at_,rfl⟩ λh2 x2=>?_;obtain⟨vs',e1,_⟩:=x2.it _ fs at_ rfl;have hT:H T=none:=I.hok.fresh x2.new;have nT:T≠a:=λz=>by rw[z,ha] at hT;cases hT
  have un:Un (sN X.stack) old.toList H (yG H a (.ext (cO a C dx))) s.heap h2:=by
   have na:∀ b,H b=none->b≠a:=λb n z=>by rw[z,ha] at n;cases n
   have no:∀ b,b∉old.toList->old≠some b:=λb z e=>z (by rw[e];simp);refine⟨λb o e n hb hx=>x2.keep b o e (na b n) (no b hx) hb,λb o e n hb hx=>x2.slot b o e (na b n) (no b hx),λb o e n _=>by rw[zA (na b n)];exact n,λb o e hx=>?_,λb xs e=>?_,λb o u e=>?_,λb ps e=>⟨#[],?_⟩⟩
   .by_cases hb:b=a
    .subst hb;exact⟨_,e1⟩
    .obtain ⟨sl,r⟩:=x2.slot b o e hb (no b hx);exact⟨_,r⟩
   .rw[zA λz=>by rw[z,ha] at e;cases e];exact e
   .rw[zA λz=>by rw[z,ha] at e;cases e];exact e
   .have nb:b≠a:=λz=>by rw[z,ha] at e;cases e
    rw[zA nb,e];simp
  have I2:=I.call (h':=h2) (g':=s.gens) (d':=s.drawn) (t':=s.toks) (ch:=old.toList) un (zfX I.hok x2 I.stkFree (λb z=>(hold b z).2) ha (zf4 e1)) I.bare (λb z=>by
   have z:old=some b:=by simpa using z
   have w:=(hold b z).1;exact⟨.inr w.s0,w.loc,w.cell,w.pin⟩)
  obtain⟨a',C',dx',ea,ha',sb,q⟩:=hE;cases ea;rw[yI] at ha'
  have cc:C'=C/\dx'=dx:=by
   have z:cO a C dx=cO a C' dx':=by injection ha' with ha';injection ha'
   have w:cO a C' dx' h2:=by rw[← z];exact⟨vs',e1⟩
   obtain⟨fs',w⟩:=w;rw[e1] at w
   injection w with w
   injection w with w1 w2
   injection w1 with w1
   exact⟨w1.symm,w2.symm⟩
  obtain⟨rfl,rfl⟩:=cc;exact dH hN hi hj ln ly nd nc gT mT dT TT I2 yI sb (x2.trc ⟨_,fs,at_,rfl⟩) (by rw[zA nT];exact hT) (Inv.newer I x2.new) q
 refine⟨⟨λpins' σ H s e s' I h=>?_⟩,λpins' σ H s a C dx I ha hE=>?_,λpins' σ H s a C dx T I ha tr nT nw hE=>?_,PassesOwn.looking⟩
 .obtain ⟨a,C,dx,T,H2,rfl,I2,ha,tr,hT,nT,hE⟩:=zdP (X:=tryC X pins D _) I h;have I0:Inv X pins σ H s:=Inv.held (X:=tryC X pins D _) I { I.ok with} rfl λp hp=>Zs _ hp;have I3:Inv X pins σ H2 s':=Inv.held (X:=tryC X pins D _) I2 { I.ok with} rfl λp hp=>Zs _ hp;obtain⟨⟨fs,at_⟩,_⟩:=I2.hok a _ ha;have fr:=I3.ok.frames;have st:=I3.stack;rw[hk.1] at fr st;refine zcI (base:=X.base) (outer:=X.outer) fr st hk.2 tr λh' T' x=>?_;rw[← hk.1] at x;refine go (pins':=pins') I3 ha ⟨_,at_⟩ (λb z=>?_) x (by rw[cM ha];exact hE);cases z;exact⟨Inv.newer I0 hT,nT⟩
 .have I0:Inv X pins σ H s:=Inv.held (X:=tryC X pins D _) I { I.ok with} rfl λp hp=>Zs _ hp;obtain⟨⟨fs,at_,v0,v2,v3,v4,v5,rfl⟩,_⟩:=I.hok a _ ha;have fr:=I0.ok.frames;have st:=I0.stack;rw[hk.1] at fr st;refine zcJ (base:=X.base) (outer:=X.outer) fr st hk.2 at_ rfl rfl λh' T x=>?_;rw[← hk.1] at x;exact go (pins':=pins') I0 ha ⟨_,at_⟩ (λb z=>by cases z) x hE
 .have I0:Inv X pins σ H s:=Inv.held (X:=tryC X pins D _) I { I.ok with} rfl λp hp=>Zs _ hp;have nw0:Nwr X pins T:=⟨nw.loc,nw.s0,nw.cell,λp hp=>nw.pin p (Zs _ hp)⟩;obtain⟨⟨fs,at_⟩,_⟩:=I0.hok a _ ha;have fr:=I0.ok.frames;have st:=I0.stack;rw[hk.1] at fr st;refine nO (base:=X.base) (outer:=X.outer) fr st hk.2 tr (λ_=>?_) λh' T' x=>?_
  .refine zdl (fr:=none) tr λh' _ sb t2=>?_;have I2:=I0.turned (it:=T) (h':=h') (t':=s.toks) (λb o n e=>(sb.2 b n).trans e) nT nw0.loc (.inr nw0.s0) nw0.cell nw0.pin;obtain⟨a',C',dx',ea,ha',sb',q⟩:=hE;cases ea;exact dH hN hi hj ln ly nd nc gT mT dT TT I2 ha' sb' (t2 rfl) nT nw0 q
  .rw[← hk.1] at x;refine go (pins':=pins') I0 ha ⟨_,at_⟩ (λb z=>?_) x (by rw[cM ha];exact hE);cases z;exact⟨nw0,nT⟩
theorem zi4 {bs:List Stmt} {tb:(L2.St->L2.XK)->TS} (hk:X.stack=X.env::X.outer/\X.env.frame=some X.env.locals) (hN:X.N.Nodup) (hi:X.N[i]?=some n) (hj:X.N[j]?=some y) (ln:X.env.scope.names.lookup n=some .local) (ly:X.env.scope.names.lookup y=some .local) (nd:(n==("__debug__":Str))=false) (nc:(n==("__classdict__":Str))=false)
  (gT:Gl X tn) (mT:X.mg tn=Ct⁻¹) (dT:(tn==("__debug__":Str))=false) (TT:XM X.K Ct ini) (hb:∀ (pn:PL) (E':VP) (Ew:L2.St->L2.XK),XeOk {X with pn:=pn,xe:=E'} Ew->gP {X with pn:=pn,xe:=E'} bs (tb Ew)) :
  PS X (.Try bs [.ExceptHandler (some (.Name tn tp)) (some n) [.Assign [.Name y yp] (.Name n np) ap] hp] [] [] pos) (λD σ H=>tb (wTry X.K Ct i j D) D σ H):=by
 intro pins s σ H D I h;have xo:=zil (tp:=tp) (np:=np) (yp:=yp) (ap:=ap) (hp:=hp) (pins:=pins) (D:=D) hk hN hi hj ln ly nd nc gT mT dT TT;have I0:Inv (tryC X pins D [.ExceptHandler (some (.Name tn tp)) (some n) [.Assign [.Name y yp] (.Name n np) ap] hp]) [] σ H s:=Inv.held I { I.ok with} rfl λp hp=>by simpa using hp
 refine wpAny_Try_except (Zv (hb _ _ _ xo [] s σ H D I0 h) (λf s1 h1=>?_) λe s1 h1=>h1);have back:∀ {σ':L2.St} {H':Hp},Inv (tryC X pins D [.ExceptHandler (some (.Name tn tp)) (some n) [.Assign [.Name y yp] (.Name n np) ap] hp]) [] σ' H' s1->Inv X pins σ' H' s1:=λJ=>Inv.held J { J.ok with} rfl λp hp=>by simpa using hp
 cases f with
 |next =>
  obtain⟨σ',H',J,z⟩:=h1;exact Zc ⟨σ',H',back J,z⟩
 |ret u =>
  obtain⟨v,σ',H',J,z⟩:=h1;exact⟨v,σ',H',back J,z⟩
 |brk =>
  obtain⟨σ',H',J,z⟩:=h1;exact⟨σ',H',back J,z⟩
 |cont =>
  obtain⟨σ',H',J,z⟩:=h1;exact⟨σ',H',back J,z⟩
end
section
variable {X:Cx} {pins:PL} {σ:L2.St} {H2:Hp} {s2:Shared} {sc:Scope} {N:List Str} {C:Addr} {fp:List Addr} {Ew:L2.St->L2.XK}
end
noncomputable abbrev X3:=W->Hw->Prop
noncomputable abbrev SpX:=List W->Hw->Q3->X3->Prop
structure Fx3 where
 nm:Str
 sp:SpX
structure Cl3 where
 nm:Str
 C:Addr
 f:Option Str
structure Tr3 where
 nm:Str
 C:Addr
 sub:List Addr
structure CtxX where
 fx:List Fx3
 cl:List Cl3
 tr:List Tr3
set_option genInjectivity false
mutual
inductive RT where
 |pl (s:IS)|rse (c:Nat) (es:IEs)|ite (c:IE) (a b:RTs)|whl (c:IE) (b:RTs)|for (tg:ITg) (it:II) (b:RTs)
 |asx (i f:Nat) (es:IEs)|exx (f:Nat) (es:IEs)|rtx (f:Nat) (es:IEs)|try (i j t:Nat) (b:RTs)|rtl (f:Nat) (tg:ITg) (names:List Str) (caps:List Nat) (it:II) (k:Nat) (es:IEs)
 |rt2 (a:IE) (f:Nat) (tg:ITg) (names:List Str) (caps:List Nat) (it:II) (k:Nat) (es:IEs)
inductive RTs where
 |nil|cons (s:RT) (ss:RTs)
end
noncomputable def clR (k:Cl3) (ws:List W) (Q:W->Prop):Prop:=match k.f with
 |none=>ws=[]/\Q (.exc k.C [] [])
 |some f=>∃ w,ws=[w]/\Q (.exc k.C [f] [w])
noncomputable def trR (k:Tr3) (i j:Nat) (D:End3) (σ:xZ) (w:W) (G:Hw):Prop:=∃ (C:Addr) (ns:List Str) (ws:List W),w=.exc C ns ws/\C∈k.sub/\D.nx (((σ.set i (some w)).set j (some w)).set i none) G
section
variable (Γ:Ctx3) (Δ:CtxX)
noncomputable def ziM (f:Nat) (tg:ITg) (names:List Str) (caps:List Nat) (it:II) (k:Nat) (es:IEs) (E:X3) (σ:xZ) (G:Hw) (Q:Q3):Prop :=
 zW Γ XN it σ G λitems stab G1=>lcR items stab G1 (λw G' K=>zY tg w (jP names.length caps σ) G' λσ2 G2=>zX Γ XN es σ2 G2 λws G3=>match Δ.fx[k]? with|some h=>h.sp ws G3 (λx G4=>K (some x) G4) E|none=>False)
   λr G2=>match Δ.fx[f]? with|some h=>h.sp [r] G2 Q E|none=>False
mutual
noncomputable def qF:RT->(xZ->X3)->S3
 | .pl s=>λ_=>zU Γ XN s
 | .rse c es=>λE _ σ G=>zX Γ XN es σ G λws G1=>match Δ.cl[c]? with|some k=>clR k ws λw=>E σ w G1|none=>False
 | .ite c a b=>λE D σ G=>zS Γ XN c σ G λk G1=>if k=true then xC a E D σ G1 else xC b E D σ G1
 | .whl c b=>λE D σ G=>∃ Pv:Nat->xZ->Hw->Prop,(∃ m,Pv m σ G)/\∀ m σ G,Pv m σ G->zS Γ XN c σ G λk G1 =>
   if k=true then xC b E {D with nx:=λσ' G'=>∃ m',m' < m/\Pv m' σ' G',ct:=λσ' G'=>∃ m',m' < m/\Pv m' σ' G',bk:=D.nx} σ G1 else D.nx σ G1
 | .for tg it b=>λE D σ G=>zW Γ XN it σ G λitems stab G1=>forR items stab D σ G1 λw D' σ' G'=>zY tg w σ' G' λσ2 G2=>xC b E D' σ2 G2
 | .asx i f es=>λE D σ G=>zX Γ XN es σ G λws G1=>match Δ.fx[f]? with|some h=>h.sp ws G1 (λw G2=>D.nx (σ.set i (some w)) G2) (E σ)|none=>False
 | .exx f es=>λE D σ G=>zX Γ XN es σ G λws G1=>match Δ.fx[f]? with|some h=>h.sp ws G1 (λ_ G2=>D.nx σ G2) (E σ)|none=>False
 | .rtx f es=>λE D σ G=>zX Γ XN es σ G λws G1=>match Δ.fx[f]? with|some h=>h.sp ws G1 D.rt (E σ)|none=>False
 | .try i j t b=>λ_ D σ G=>match Δ.tr[t]? with|some k=>xC b (trR k i j D) D σ G|none=>False
 | .rtl f tg names caps it k es=>λE D σ G=>ziM Γ Δ f tg names caps it k es (E σ) σ G D.rt
 | .rt2 a f tg names caps it k es=>λE D σ G=>zV Γ XN a σ G λx G1=>ziM Γ Δ f tg names caps it k es (E σ) σ G1 λy G2=>D.rt (.tup [x,y]) G2
noncomputable def xC:RTs->(xZ->X3)->S3
 | .nil=>λ_ D σ G=>D.nx σ G
 | .cons s ss=>λE D σ G=>qF s E {D with nx:=xC ss E D} σ G
end
end
structure MX where
 fx:List Str
 cl:List Str
 tr:List Str
noncomputable def zdL (M:MC) (ns:List Str) (i:Nat) (es:IEs):Expr->Bool
 | .Call (.Name x _) xs [] _=>ns[i]?==some x&&kB M.sc x&&mA es M xs
 |_=>false
noncomputable def zkz (M:MC) (ns:List Str) (i j t:Nat):List ExceptHandler->Bool
 | [.ExceptHandler (some (.Name tn _)) (some n) [.Assign [.Name y _] (.Name n' _) _] _] =>
  n==n'&&M.N[i]?==some n&&M.N[j]?==some y&&M.sc.names.lookup n==some .local&&M.sc.names.lookup y==some .local&&!(n==("__debug__":Str))&&!(n==("__classdict__":Str))&&ns[t]?==some tn&&kB M.sc tn
 |_=>false
mutual
noncomputable def mX (M:MC) (Z:MX):RT->Stmt->Bool
 | .pl s=>λx=>mS s M x
 | .rse c es=>λx=>match x with
  | .Raise (some e) none _=>zdL M Z.cl c es e
  |_=>false
 | .ite c a b=>λx=>match x with
  | .If t y z _=>mE c M t&&mXs M Z a y&&mXs M Z b z
  |_=>false
 | .whl c b=>λx=>false
 | .for tg it b=>λx=>match x with
  | .For t y z [] _=>vH y&&mG M tg t&&mI it M y&&mXs M Z b z
  |_=>false
 | .asx i f es=>λx=>match x with
  | .Assign [.Name y _] e _=>M.N[i]?==some y&&locB M y&&zdL M Z.fx f es e
  |_=>false
 | .exx f es=>λx=>false
 | .rtx f es=>λx=>false
 | .try i j t b=>λx=>match x with
  | .Try bs hs [] [] _=>zkz M Z.tr i j t hs&&mXs M Z b bs
  |_=>false
 | .rtl f tg names caps it k es=>λx=>false
 | .rt2 a f tg names caps it k es=>λx=>false
noncomputable def mXs (M:MC) (Z:MX):RTs->List Stmt->Bool
 | .nil=>λx=>match x with | []=>true|_=>false
 | .cons s ss=>λx=>match x with|y::ys=>mX M Z s y&&mXs M Z ss ys|_=>false
end
theorem dA {M:MC} {ns:List Str} {i:Nat} {es:IEs} {e:Expr} (h:zdL M ns i es e=true):∃ x q xs pos,e=.Call (.Name x q) xs [] pos/\ns[i]?=some x/\kB M.sc x=true/\mA es M xs=true:=by
 unfold zdL at h
 split at h
 .rename_i x q xs pos;obtain⟨⟨h1,h2⟩,h3⟩:=bd3 h;exact⟨x,q,xs,pos,rfl,xQ h1,h2,h3⟩
 .cases h
theorem zdG {M:MC} {ns:List Str} {i j t:Nat} {hs:List ExceptHandler} (h:zkz M ns i j t hs=true):∃ tn tp n y yp np ap hp,hs=[.ExceptHandler (some (.Name tn tp)) (some n) [.Assign [.Name y yp] (.Name n np) ap] hp]/\M.N[i]?=some n/\M.N[j]?=some y/\M.sc.names.lookup n=some .local/\M.sc.names.lookup y=some .local/\(n==("__debug__":Str))=false/\(n==("__classdict__":Str))=false/\ns[t]?=some tn/\kB M.sc tn=true:=by
 cases hs with
 |nil=>exact zzQ h
 |cons c r =>
  obtain⟨ty,nm,body,hp⟩:=c
  cases ty with
  |none=>exact zzQ h
  |some te =>
   cases nm with
   |none=>cases te<;>exact zzQ h
   |some n =>
    cases body with
    |nil=>cases te<;>exact zzQ h
    |cons s r2 =>
     cases te with
     |Name tn tp =>
      cases s with
      |Assign ts v ap =>
       cases ts with
       |nil=>exact zzQ h
       |cons t1 r3 =>
        cases t1 with
        |Name y yp =>
         cases r3 with
         |cons _ _=>exact zzQ h
         |nil =>
          cases v with
          |Name n' np =>
           cases r2 with
           |cons _ _=>exact zzQ h
           |nil =>
            cases r with
            |cons _ _=>exact zzQ h
            |nil =>
             obtain⟨⟨⟨⟨⟨⟨⟨⟨h1,h2⟩,h3⟩,h4⟩,h5⟩,h6⟩,h7⟩,h8⟩,h9⟩:=bd9 h;cases eq_of_beq h1;exact⟨tn,tp,n,y,yp,np,ap,hp,rfl,xQ h2,xQ h3,xQ h4,xQ h5,by simpa using h6,by simpa using h7,xQ h8,h9⟩
          |_=>exact zzQ h
        |_=>exact zzQ h
      |_=>exact zzQ h
     |_=>exact zzQ h
noncomputable def Fex (K:yM) (H:Hp) (E3:xZ->X3) (Ew:L2.St->L2.XK):Prop:=∀ σ w G τ a H',yO K H H'->yR K H' σ τ->xF K H' w (.ref a)->xP K H' G->E3 σ w G->Ew τ (.ref a) none H'
theorem Fex.grow {K:yM} {H H':Hp} {E3:xZ->X3} {Ew:L2.St->L2.XK} (f:Fex K H E3 Ew) (g:yO K H H'):Fex K H' E3 Ew:=λσ w G τ a H2 g2=>f σ w G τ a H2 (g.trans g2)
noncomputable def lowX (K:yM) (Ew:L2.St->L2.XK) (t:(xZ->X3)->S3):TS:=λD τ H=>∃ σ G D3 E3,yR K H σ τ/\xP K H G/\Fine K H D3 D/\Fex K H E3 Ew/\t E3 D3 σ G
section
variable {X:Cx}
theorem zjs {es:List Expr} {t:TA} (h:PA X.nox es t):PA X es t:=λpos pins s σ H Q I hw =>
 Zv (h pos pins s σ H Q (I.wish _) hw) (λ_ _ z=>by obtain⟨vs,H',I',z⟩:=z;exact⟨vs,H',I'.unwish,z⟩) λ_ _ z=>False.elim z
theorem nox_S {st:Stmt} {t:TS} (h:PS X.nox st t):PS X st t:=λpins s σ H D I hw =>
 Zv (h pins s σ H D (I.wish _) hw) (λ_ _ q=>q.unwish) λ_ _ z=>False.elim z
theorem nox_G {tg:Expr} {t:TG} (h:PG X.nox tg t):PG X tg t:=λpins s σ H v u Q I r hw =>
 Zv (h pins s σ H v u Q (I.wish _) r hw) (λ_ _ z=>by obtain⟨σ',H',I',z⟩:=z;exact⟨σ',H',I'.unwish,z⟩) λ_ _ z=>False.elim z
theorem nox_I {tg x:Expr} {t:TI} (h:PI X.nox tg x t):PI X tg x t:=λpins s σ H R I hw =>
 Zv (h pins s σ H R (I.wish _) hw) (λ_ _ z=>Zv z (λ_ _ z=>by obtain⟨it,fp,tn,J,H',e,I',z⟩:=z;exact⟨it,fp,tn,J,H',e,I'.unwish,z⟩) λ_ _ z=>False.elim z) λ_ _ z=>False.elim z
end
noncomputable def zjE (K:yM) (Ew:L2.St->L2.XK) (t:(xZ->X3)->E3):TE:=λτ H Q=>∃ σ G E3,yR K H σ τ/\xP K H G/\Fex K H E3 Ew/\t E3 σ G (jT K H Q)
noncomputable def bK (K:yM) (sp:SpX):Sp:=λvs H Q E=>∃ ws G,yY K H ws vs/\xP K H G/\sp ws G (jT K H Q) (λw G'=>∀ a H',yO K H H'->xF K H' w (.ref a)->xP K H' G'->E (.ref a) none H')
noncomputable def FxE (p:Par) (f:Fx3):Prop:=∀ X Ew,Fits p X.nox->XpOk X Ew->Gl X f.nm->∀ (args:List Expr) (ta:TA) (q pos:Pos),args.all noStar=true->PA X args ta->(args=[]->∀ τ H Q,ta τ H Q->Q [] H)->(f.nm==("__debug__":Str))=false ->
 PE X (.Call (.Name f.nm q) args [] pos) (λτ H Q=>ta τ H λvs H1=>bK X.K f.sp vs H1 Q (Ew τ))
noncomputable def tQ (f:Fx3):Prop:=∀ ws G (Q Q':Q3) (E E':X3),'l'->(∀ w G',E w G'->E' w G')->f.sp ws G Q E->f.sp ws G Q' E'
theorem zdi {p:Par} {f:Fx3} (h:FxE p f) (m:tQ f) {X:Cx} {Ew:L2.St->L2.XK} (fits:Fits p X.nox) (xp:XpOk X Ew) (gl:Gl X f.nm) {args:List Expr} {t:A3} {q pos:Pos} (mt:qH t) (hn:args.all noStar=true) (pa:PA X args (vD X.K t)) (hnil:args=[]->∀ σ G Q,t σ G Q->Q [] G) (hdb:(f.nm==("__debug__":Str))=false) :
  PE X (.Call (.Name f.nm q) args [] pos) (zjE X.K Ew λE σ G Q=>t σ G λws G1=>f.sp ws G1 Q (E σ)):=by
 refine(h X Ew fits xp gl args _ q pos hn pa (λe τ H Q z=>?_) hdb).imp λτ H Q z=>?_
 .obtain ⟨σ,G,hs,ab,z⟩:=z;exact hnil e _ _ _ z [] H .refl rfl ab
 .obtain ⟨σ,G,E3,hs,ab,fe,z⟩:=z;exact uX mt hs ab z λws G1 vs H1 g1 hs1 rs a1 z=>⟨ws,G1,rs,a1,m _ _ _ _ _ _ (λw G' z=>jT.mono g1 z) (λw G' z a H' g' rp ab'=>fe σ w G' τ a H' (g1.trans g') (hs1.mono g') rp ab' z) z⟩
noncomputable def ClE (p:Par) (k:Cl3):Prop:=∀ X Ew,Fits p X.nox->XeOk X Ew->Gl X k.nm->∀ (args:List Expr) (t:A3) (q pos cpos:Pos),qH t->args.all noStar=true->PA X args (vD X.K t)->(args=[]->∀ σ G Q,t σ G Q->Q [] G)->(k.nm==("__debug__":Str))=false ->
 PS X (.Raise (some (.Call (.Name k.nm q) args [] cpos)) none pos) (lowX X.K Ew λE _ σ G=>t σ G λws G1=>clR k ws λw=>E σ w G1)
structure TrE (p:Par) (k:Tr3):Prop where
 mg:p.mg k.nm=some (.ref k.C)
 cls:∃ ini,XM p.K k.C ini
 sub:∀ C∈k.sub,cR p.K C k.C
structure GoodX (Δ:CtxX) (p:Par):Prop where
 fx:∀ f∈Δ.fx,FxE p f/\tQ f
 cl:∀ k∈Δ.cl,ClE p k
 tr:∀ k∈Δ.tr,TrE p k
structure Lxx (Γ:Ctx3) (Δ:CtxX) (M:MC) (Z:MX) (p:Par) (X:Cx):Prop where
 lk:Lk Γ M p X.nox
 fx:Δ.fx.map (·.nm)=Z.fx
 cl:Δ.cl.map (·.nm)=Z.cl
 tr:Δ.tr.map (·.nm)=Z.tr
 hk:X.stack=X.env::X.outer/\X.env.frame=some X.env.locals
theorem Lxx.held {Γ:Ctx3} {Δ:CtxX} {M:MC} {Z:MX} {p:Par} {X:Cx} (L:Lxx Γ Δ M Z p X) (pn:PL) (E:VP):Lxx Γ Δ M Z p {X with pn:=pn,xe:=E} :=
 ⟨⟨⟨L.lk.fits.prog,L.lk.fits.w,L.lk.fits.K,L.lk.fits.mg,L.lk.fits.base,L.lk.fits.A,L.lk.fits.calm,rfl⟩,L.lk.N,L.lk.sc,L.lk.nd,L.lk.own,L.lk.kind,L.lk.fns,L.lk.gls,L.lk.mts,L.lk.its,L.lk.sxs,L.lk.ixs⟩,L.fx,L.cl,L.tr,L.hk⟩
theorem yR.unset {K:yM} {H:Hp} {σ:xZ} {τ:L2.St} (h:yR K H σ τ) (i:Nat):yR K H (σ.set i none) (τ.set i none):=by
 refine⟨by simp only[Zbh];exact h.1,λj w e=>?_⟩
 by_cases hj:i=j
 .subst hj
  by_cases hi:i<σ.length
  .rw[Zad hi] at e;cases e
  .rw[Zba (by rw[Zbh];omega)] at e;cases e
 .rw[Zag hj] at e;rw[Zag hj];exact h.2 j w e
theorem ex_at {K:yM} {H:Hp} {C a:Addr} {ns:List Str} {ws:List W} (h:xF K H (.exc C ns ws) (.ref a)):∃ dx,H a=some (.ext (cO a C dx)):=by
 obtain⟨b,vs,e,x,_⟩:=h;cases e;rcases x with⟨x,_⟩|⟨dx,x,_⟩
 .exact ⟨none,x⟩
 .exact ⟨some dx,x⟩
section
variable {Γ:Ctx3} {Δ:CtxX} {p:Par} (g:Good Γ p) (gx:GoodX Δ p)
include g
theorem sndS (s:IS):OkS Γ p s:=match s with
 | .asg i e=>ziv g i e
 | .asgT ts e=>zfB g ts e
 | .asgI o i e=>zfD g o i e
 | .asgA o f e=>zfE g o f e
 | .ex e=>t_ex g e
 | .ret e=>zis g e
 | .retN=>(wV g).1
 | .pass=>(wV g).2.1
 | .brk=>(wV g).2.2.1
 | .cnt=>(wV g).2.2.2.1
 | .ite c a b=>zit g c a b (zci g a) (zci g b)
 | .whl c b=>zir g c b (zci g b)
 | .for tg it b=>ziu g tg it b (zci g b)
 | .dead=>(wV g).2.2.2.2
 | .asgS i j e=>zfC g i j e
theorem zjt {M:MC} {es:IEs} {xs:List Expr} (h:mA es M xs=true):xs=[]->∀ σ G Q,zX Γ XN es σ G Q->Q [] G:=λe=>by
 subst e
 cases es with
 |nil=>exactλσ G Q h=>h
 |cons a r=>cases h
noncomputable def OkX (Γ:Ctx3) (Δ:CtxX) (p:Par) (s:RT):Prop:=∀ M Z X Ew x,Lxx Γ Δ M Z p X->XeOk X Ew->mX M Z s x=true->PS X x (lowX X.K Ew (qF Γ Δ s))
noncomputable def OkXs (Γ:Ctx3) (Δ:CtxX) (p:Par) (s:RTs):Prop:=∀ M Z X Ew x,Lxx Γ Δ M Z p X->XeOk X Ew->mXs M Z s x=true->gP X x (lowX X.K Ew (xC Γ Δ s))
theorem x_pl (s:IS):OkX Γ Δ p (.pl s):=λM Z X Ew x L xo h =>
 (nox_S (sndS g s M X.nox x L.lk h)).imp λD τ H hq=>by
  obtain⟨σ,G,D3,E3,hs,ab,f,_,hq⟩:=hq;exact⟨σ,G,D3,hs,ab,f,hq⟩
theorem x_ite (c:IE) (a b:RTs) (ha:OkXs Γ Δ p a) (hb:OkXs Γ Δ p b):OkX Γ Δ p (.ite c a b):=λM Z X Ew x L xo h=>by
 cases x with
 |If t y z pos =>
  obtain⟨⟨h1,h2⟩,h3⟩:=bd3 h;refine(zi6 (PT.nox (uE g c M X.nox t L.lk h1).2.1) (ha M Z X Ew y L xo h2) (hb M Z X Ew z L xo h3)).imp λD τ H hq=>?_;obtain⟨σ,G,D3,E3,hs,ab,f,fe,hq⟩:=hq;refine sR (uL g.mono XN c) hs ab hq λk G1 H1 g1 hs1 a1 hq=>?_
  split
  .rename_i hk;rw[if_pos hk] at hq;exact⟨σ,G1,D3,E3,hs1,a1,f.grow g1,fe.grow g1,hq⟩
  .rename_i hk;rw[if_neg hk] at hq;exact⟨σ,G1,D3,E3,hs1,a1,f.grow g1,fe.grow g1,hq⟩
 |_=>exact zzQ h
theorem x_whl (c:IE) (b:RTs) (hb:OkXs Γ Δ p b):OkX Γ Δ p (.whl c b):=λM Z X Ew x L xo h=>absurd h zzN
theorem x_for (tg:ITg) (it:II) (b:RTs) (hb:OkXs Γ Δ p b):OkX Γ Δ p (.for tg it b):=λM Z X Ew x L xo h=>by
 cases x with
 |For t y z e pos =>
  cases e with
  |cons _ _=>exact zzQ h
  |nil =>
   obtain⟨⟨⟨h1,h2⟩,h3⟩,h4⟩:=bd4 h;refine(zfN xo.own L.lk.fits.calm (nox_I (sndI g it M X.nox y L.lk h3 t)) (nox_G (sndG L.lk tg t h2)) (hb M Z X Ew z L xo h4) (kR h1)).imp λD τ H hq=>?_;obtain⟨σ,G,D3,E3,hs,ab,f,fe,hq⟩:=hq;refine⟨σ,G,hs,ab,zcO g.mono XN it σ G _ _ (λitems stab G1 hq J H1 g1 a1 ii=>?_) hq⟩;obtain⟨Pv,p0,pst,step,fin⟩:=hq;refine⟨λi m τ H'=>m+i=items.length/\yO X.K H1 H'/\∃ σ G,yR X.K H' σ τ/\xP X.K H' G/\Pv i σ G,⟨items.length,rfl,.refl,σ,G1,hs.mono g1,a1,p0⟩,?_⟩;rintro i m τ2 H2 ⟨hm,g2,σ2,G2,hs2,a2,p2⟩;have st:=pst i σ2 G2 p2 'f'
   by_cases hi:i<items.length
   .refine .inr ⟨ii.go i H2 G2 g2 a2 st hi,λτ' H'=>∃ m',m' < m/\(m'+(i+1)=items.length/\yO X.K H1 H'/\∃ σ G,yR X.K H' σ τ'/\xP X.K H' G/\Pv (i+1) σ G),λτ' H' z=>z,λx H' yl=>?_⟩;obtain⟨w,ew,g3,rp,a3⟩:=ii.yld i H2 G2 x H' g2 a2 st hi yl;refine⟨w,σ2,G2,rp,hs2.mono g3,a3,kU tg w σ2 G2 _ _ (λσ4 G4 hq τ4 H4 g4 hs4 a4=>?_) (step i w σ2 G2 ew p2)⟩;have gg:=g2.trans (g3.trans g4);refine⟨σ4,G4,_,E3,hs4,a4,⟨?_,?_,?_,?_⟩,fe.grow (g1.trans gg),hq⟩
    .exact λσ5 G5 τ5 H5 g5 hs5 a5 z=>⟨m-1,by omega,by omega,gg.trans g5,σ5,G5,hs5,a5,z⟩
    .exact λσ5 G5 τ5 H5 g5 hs5 a5 z=>f.nx σ5 G5 τ5 H5 (g1.trans (gg.trans g5)) hs5 a5 z
    .exact λσ5 G5 τ5 H5 g5 hs5 a5 z=>⟨m-1,by omega,by omega,gg.trans g5,σ5,G5,hs5,a5,z⟩
    .exact λw5 G5 v5 H5 g5 r5 a5 z=>f.rt w5 G5 v5 H5 (g1.trans (gg.trans g5)) r5 a5 z
   .have ei:i=items.length:=by omega
    subst ei;exact .inl ⟨ii.stop _ H2 G2 g2 a2 st (zzR _),f.nx σ2 G2 τ2 H2 (g1.trans g2) hs2 a2 (fin σ2 G2 p2)⟩
 |_=>exact zzQ h
include gx
theorem pe_fx {M:MC} {Z:List Str} {X:Cx} {Ew:L2.St->L2.XK} {e:Expr} {f:Nat} {es:IEs} (lk:Lk Γ M p X.nox) (hZ:Δ.fx.map (·.nm)=Z) (xo:XpOk X Ew) (h:zdL M Z f es e=true):noLC e=true/\∃ k∈Δ.fx,Δ.fx[f]?=some k/\PE X e (zjE X.K Ew λE σ G Q=>zX Γ XN es σ G λws G1=>k.sp ws G1 Q (E σ)):=by
 obtain⟨x,q,xs,pos,rfl,h1,h2,h3⟩:=dA h;rw[← hZ] at h1;obtain⟨k,hk,rfl⟩:=qM h1;have hm:=Zw hk;obtain⟨gl,d1,_⟩:=sY (X:=X) lk.sc h2;obtain⟨a1,a2,_⟩:=sndA g es M X.nox xs lk h3;exact⟨rfl,k,hm,hk,zdi (gx.fx k hm).1 (gx.fx k hm).2 lk.fits xo gl (wG g.mono XN es) a2 (zjs a1) (zjt g h3) d1⟩
theorem x_asx (i f:Nat) (es:IEs):OkX Γ Δ p (.asx i f es):=λM Z X Ew x L xo h=>by
 cases x with
 |Assign ts v pos =>
  cases ts with
  |nil=>exact zzQ h
  |cons a r =>
   cases a with
   |Name y py =>
    cases r with
    |cons _ _=>exact zzQ h
    |nil =>
     obtain⟨⟨h1,h2⟩,h3⟩:=bd3 h;obtain⟨nl,k,hm,hk,pe⟩:=pe_fx g gx L.lk L.fx xo.toXpOk h3;have lo:=zcV L.lk h2;have hN:=xQ h1;rw[← L.lk.N] at hN;refine(bS (X:=X) (i:=i) (show X.N.Nodup from L.lk.N▸L.lk.nd) hN lo.1 pe (qA nl) lo.2).imp λD τ H hq=>?_;obtain⟨σ,G,D3,E3,hs,ab,f3,fe,hq⟩:=hq;refine⟨σ,G,E3,hs,ab,fe,wG g.mono XN es σ G _ _ (λws G1 hq=>?_) hq⟩;simp only[hk] at hq;exact(gx.fx k hm).2 _ _ _ _ _ _ (λw G2 z v H' g' rp ab'=>f3.nx _ G2 _ H' g' ((hs.mono g').set rp i) ab' z) (λ_ _ z=>z) hq
   |_=>exact zzQ h
 |_=>exact zzQ h
theorem x_exx (f:Nat) (es:IEs):OkX Γ Δ p (.exx f es):=λM Z X Ew x L xo h=>absurd h zzN
theorem x_rtx (f:Nat) (es:IEs):OkX Γ Δ p (.rtx f es):=λM Z X Ew x L xo h=>absurd h zzN
theorem x_rse (c:Nat) (es:IEs):OkX Γ Δ p (.rse c es):=λM Z X Ew x L xo h=>by
 cases x with
 |Raise e from_ pos =>
  match e,from_,h with
  |some e,none,h =>
   obtain⟨x,q,xs,cpos,rfl,h1,h2,h3⟩:=dA h;rw[← L.cl] at h1;obtain⟨k,hk,rfl⟩:=qM h1;have hm:=Zw hk;obtain⟨gl,d1,_⟩:=sY (X:=X) L.lk.sc h2;obtain⟨a1,a2,_⟩:=sndA g es M X.nox xs L.lk h3;refine(gx.cl k hm X Ew L.lk.fits xo gl xs _ q pos cpos (wG g.mono XN es) a2 (zjs a1) (zjt g h3) d1).imp λD τ H hq=>?_;obtain⟨σ,G,D3,E3,hs,ab,f3,fe,hq⟩:=hq;refine⟨σ,G,D3,E3,hs,ab,f3,fe,wG g.mono XN es σ G _ _ (λws G1 hq=>?_) hq⟩;simp only[hk] at hq;exact hq
  |some _,some _,h=>exact zzQ h
  |none,_,h=>exact zzQ h
 |_=>exact zzQ h
theorem x_rtl (f:Nat) (tg:ITg) (names:List Str) (caps:List Nat) (it:II) (k:Nat) (es:IEs):OkX Γ Δ p (.rtl f tg names caps it k es):=λM Z X Ew x L xo h=>absurd h zzN
theorem x_rt2 (a:IE) (f:Nat) (tg:ITg) (names:List Str) (caps:List Nat) (it:II) (k:Nat) (es:IEs):OkX Γ Δ p (.rt2 a f tg names caps it k es):=λM Z X Ew x L xo h=>absurd h zzN
theorem x_try (i j t:Nat) (b:RTs) (hb:OkXs Γ Δ p b):OkX Γ Δ p (.try i j t b):=λM Z X Ew x L xo h=>by
 cases x with
 |Try bs hs o fin pos =>
  match o,fin,h with
  | [],[],h =>
   obtain⟨h1,h2⟩:=tP h;obtain⟨tn,tp,n,y,yp,np,ap,hp,rfl,e1,e2,e3,e4,e5,e6,e7,e8⟩:=zdG h1;rw[← L.tr] at e7;obtain⟨k,hk,rfl⟩:=qM e7;have hm:=Zw hk;have T:=gx.tr k hm;obtain⟨ini,TT⟩:=T.cls;obtain⟨gl,d1,_⟩:=sY (X:=X) L.lk.sc e8;have hN:X.N.Nodup:=L.lk.N▸L.lk.nd;have sc:X.env.scope=M.sc:=L.lk.sc;have eK:X.K=p.K:=L.lk.fits.K;have eN:X.N=M.N:=L.lk.N;refine(zi4 (tb:=λEw=>lowX X.K Ew (xC Γ Δ b)) L.hk hN (by rw[eN];exact e1) (by rw[eN];exact e2) (by rw[sc];exact e3) (by rw[sc];exact e4) e5 e6 gl (by rw[show X.mg=p.mg from L.lk.fits.mg];exact T.mg) d1 (by rw[eK];exact TT) (λpn E' Ew' xo'=>hb M Z _ Ew' bs (L.held pn E') xo' h2)).imp λD τ H hq=>?_;obtain⟨σ,G,D3,E3,hs,ab,f,fe,hq⟩:=hq;simp only[qF,hk] at hq;refine⟨σ,G,D3,trR k i j D3,hs,ab,f,λσ' w G' τ' a H' g' hs' rp ab' z=>?_,hq⟩;obtain⟨C,ns,ws,rfl,hc,z⟩:=z;obtain⟨dx,ha⟩:=ex_at rp;exact⟨a,C,dx,rfl,ha,by rw[eK];exact T.sub C hc,f.nx _ G' _ H' g' (yR.unset ((hs'.set rp i).set rp j) i) ab' z⟩
  |_::_,_,h=>exact zzQ h
  | [],_::_,h=>exact zzQ h
 |_=>exact zzQ h
theorem ziI (s:RTs):OkXs Γ Δ p s :=
 RTs.rec (motive_1:=OkX Γ Δ p) (motive_2:=OkXs Γ Δ p) (x_pl g) (x_rse g gx) (λc a b ha hb=>x_ite g c a b ha hb) (λc b hb=>x_whl g c b hb) (λtg it b hb=>x_for g tg it b hb) (x_asx g gx) (x_exx g gx) (x_rtx g gx) (λi j t b hb=>x_try g gx i j t b hb) (x_rtl g gx) (x_rt2 g gx)
  (λM Z X Ew x L xo h=>by
   cases x with
   |nil=>exact zcA.imp λD τ H hq=>by obtain⟨σ,G,D3,E3,hs,ab,f,_,hq⟩:=hq;exact f.nx σ G τ H .refl hs ab hq
   |cons _ _=>exact zzQ h)
  (λs ss h1 h2 M Z X Ew x L xo h=>by
   cases x with
   |nil=>exact zzQ h
   |cons y ys =>
    obtain⟨m1,m2⟩:=tP h;refine(zaZ (h1 M Z X Ew y L xo m1) (h2 M Z X Ew ys L xo m2)).imp λD τ H hq=>?_;obtain⟨σ,G,D3,E3,hs,ab,f,fe,hq⟩:=hq;refine⟨σ,G,{D3 with nx:=xC Γ Δ ss E3 D3},E3,hs,ab,⟨?_,f.bk,f.ct,f.rt⟩,fe,hq⟩;exactλσ2 G2 τ2 H2 g2 hs2 a2 z=>⟨σ2,G2,D3,E3,hs2,a2,f.grow g2,fe.grow g2,z⟩) s
end
section
variable {X:Cx} {Ew:L2.St->L2.XK}
theorem zfI {pins:PL} {τ:L2.St} {H:Hp} {s:Shared} {Q:VK} {us:List Value} {vs:List V} {k:Nat} {f:Addr} {fd:FuncData} {ps:List Str} {sp:Sp} (F:FnOk X.prog X.w X.K X.mg X.base (CXr X.prog X.w) k f fd ps sp) (hr:Room k X.A) (hb:qG X.K fd ps []) (xo:XpOk X Ew) (I:Inv X pins τ H s) (r:yW vs us) (h:sp vs H Q (Ew τ)) :
  wpAny 'b' X.A (call (.ref f) us) (EP X pins τ Q) X.xe s:=by
 have hl:(us++[]).length=ps.length:=by rw[Zq,← r.length];exact F.len _ _ _ _ h
 have bs:=hb s us I.kIn hl;rw[Zq] at bs;refine ZbG (ZaF (F.run X.A X.stack s H ⟨us,[]⟩ us vs Q (Ew τ) hr I.env0 bs r h) λrr s' z=>?_)
 cases rr with
 |error e=>exact xo.pass pins τ H s e s' I z
 |ok fl =>
  cases fl with
  |ret u=>exact I.after z
  |next=>exact False.elim z
  |brk=>exact False.elim z
  |cont=>exact False.elim z
theorem zbV (hx:X.xe=λ_ _=>False):XeOk X (λ_=>E0) :=
 ⟨⟨λ_ _ _ _ _ _ _ h=>by obtain⟨_,_,_,_,_,_,_,_,_,_,_,_,_,_,_,z⟩:=h;exact z.elim⟩,λ_ _ _ _ _ _ _ _ _ z=>z.elim,λ_ _ _ _ _ _ _ _ _ _ _ _ _ z=>z.elim,by rw[hx];exact ZbV⟩
theorem zji {nm:Str} {C:Addr} {args:List Expr} {t:A3} {q pos:Pos} {r:List V->Hp->VK->Prop} (hc:wW X (.ref C) r) (gl:Gl X nm) (hm:X.mg nm=C⁻¹) (kp:PySem.W.keepIn X.K (.ref C)=true) (hn:args.all noStar=true) (pa:PA X args (vD X.K t)) (hnil:args=[]->∀ σ G Q,t σ G Q->Q [] G) (hdb:(nm==("__debug__":Str))=false) :
  PE X (.Call (.Name nm q) args [] pos) (λτ H Q=>vD X.K t τ H λvs H1=>r vs H1 Q):=by
 cases args with
 |nil =>
  intro pins s σ H Q I h;obtain⟨σ3,G,hs,ab,h⟩:=h;refine ZT (qL I gl hm ?_ hdb);exact Zbj I.kIn kp (hc pins s σ H [] [] Q I .nil (hnil rfl _ _ _ h [] H .refl rfl ab))
 |cons a l =>
  intro pins s σ H Q I h;obtain⟨s1,s2⟩:=xX (env:=X.env) (pos:=pos) hn;refine ZT (qL I gl hm ?_ hdb);refine Zbt (h₀:=X.base) I.ok.mod.kin kp (thn (pa pos pins s σ H _ I h) λus s1 z=>?_) s1 s2;obtain⟨vs,H1,I1,r1,q1⟩:=z;exact⟨I1.kIn,hc pins s1 σ H1 vs us Q I1 r1 q1⟩
end
section
variable {q:Pr} {A:Around} {nm:Str} {C:Addr}
theorem zkp {k:Nat} {f:Addr} {fd:FuncData} {ps:List Str} {sp:SpX} (FO:FnOk q.prog q.w q.K q.mg q.base (CXr q.prog q.w) k f fd ps (bK q.K sp)) (hm:q.mg nm=f⁻¹) (hk:PySem.W.keepIn q.K (.ref f)=true) (hb:qG q.K fd ps []) (_:tQ ⟨nm,sp⟩) (hr:Room k A):FxE (q.at A) ⟨nm,sp⟩:=by
 intro X Ew fits xo gl args ta qp pos hn pa hnil hdb;have e:=fits.eq
 injection e with e1 e2 e3 e4 e5 e6
 have e1:q.prog=X.prog:=e1;have e2:q.w=X.w:=e2;have e3:q.K=X.K:=e3;have e4:q.mg=X.mg:=e4;have e5:q.base=X.base:=e5;have e6:A=X.A:=e6;subst e6;rw[e1,e2,e3,e4,e5] at FO;rw[e4] at hm;rw[e3] at hk hb
 cases args with
 |nil =>
  intro pins s τ H Q I h;exact ZT (qL I gl hm (Zbj I.kIn hk (zfI (us:=[]) (vs:=[]) FO hr hb xo I .nil (hnil rfl _ _ _ h))) hdb)
 |cons a l =>
  intro pins s τ H Q I h;obtain⟨s1,s2⟩:=xX (env:=X.env) (pos:=pos) hn;refine ZT (qL I gl hm ?_ hdb);refine Zbt (h₀:=X.base) I.ok.mod.kin hk (thn (pa pos pins s τ H _ I h) λus s1 z=>?_) s1 s2;obtain⟨vs,H1,I1,r1,q1⟩:=z;exact⟨I1.kIn,zfI FO hr hb xo I1 r1 q1⟩
theorem fn_fx {p:Par} {sp:SpX} (h:FxE p ⟨nm,sp⟩) (m:tQ ⟨nm,sp⟩):FnE p ⟨nm,λws G Q _=>sp ws G Q λ_ _=>False⟩:=by
 intro X fits gl args t qp pos mt hn pa hnil hdb hnm;refine(zdi h m (Ew:=λ_=>E0) ⟨fits.prog,fits.w,fits.K,fits.mg,fits.base,fits.A,fits.calm,rfl⟩ (zbV fits.xe).toXpOk gl mt hn pa hnil hdb).imp λτ H Q z=>?_;obtain⟨σ,G,hs,ab,z⟩:=z;exact⟨σ,G,λ_ _ _=>False,hs,ab,λ_ _ _ _ _ _ _ _ _ _ z=>z.elim,z⟩
theorem zkv {p:Par} {sp:SpX} (h:FxE p ⟨nm,sp⟩) (m:tQ ⟨nm,sp⟩):qT p ⟨nm,λws G Q _=>sp ws G Q λ_ _=>False⟩:=⟨fn_fx h m,λws G Q Q' E k z=>m ws G Q Q' _ _ k (λ_ _ z=>z) z⟩
theorem cl_1 {fI:Addr} {f pr:Str} {k:Nat} {fd:FuncData} (T:XM q.K C (.ref fI)) (TI:XI q.K C f) (F:FnOk q.prog q.w q.K q.mg q.base CX0 k fI fd ["self", pr] (spXI q.K f)) (hr:Room (k+1) A) (hb:qG q.K fd ["self", pr] []) (hf:PySem.W.typeIn q.K (.ref fI)=some (.type "function")) (hm:q.mg nm=C⁻¹):ClE (q.at A) ⟨nm,C,some f⟩:=by
 intro X Ew fits xo gl args t qp pos cpos mt hn pa hnil hdb;have e:=fits.eq
 injection e with e1 e2 e3 e4 e5 e6
 have e1:q.prog=X.prog:=e1;have e2:q.w=X.w:=e2;have e3:q.K=X.K:=e3;have e4:q.mg=X.mg:=e4;have e5:q.base=X.base:=e5;have e6:A=X.A:=e6;subst e6;rw[e1,e2,e3,e4,e5] at F;rw[e4] at hm;rw[e3] at T TI hb hf;refine(zep xo fits.calm (zji (q:=qp) (pos:=cpos) (zjy T TI F hr hb hf) gl hm T.kp hn pa hnil hdb)).imp λD τ H hq=>?_;obtain⟨σ,G,D3,E3,hs,ab,f3,fe,hq⟩:=hq;refine uX mt hs ab hq λws G1 vs H1 g1 hs1 rs a1 h=>?_;obtain⟨w,rfl,h⟩:=h;obtain⟨v,rfl,rv⟩:=jN rs;refine⟨v,rfl,λa dx fr fx ne=>⟨a,C,some dx,_,rfl,yI,T,?_⟩⟩;rw[zgu];have fe':(yG H1 dx (.xd [(f,v)])) a=none:=by rw[zA ne.symm];exact fr
 have gr:=(yB (K:=X.K) (u:=.xd [(f,v)]) fx).trans (yB (K:=X.K) (u:=.ext (cO a C (some dx))) fe');refine fe σ (.exc C [f] [w]) G1 τ a _ (g1.trans gr) (hs1.mono gr) ⟨a,[v],rfl,.inr ⟨dx,yI,?_⟩,v,[],rfl,rv.mono gr,rfl⟩ ((a1.tup fx).tup fe') h;rw[zA ne];exact yI
end
structure ZOk (Δ:CtxX) (Z:MX):Prop where
 fx:Δ.fx.map (·.nm)=Z.fx
 cl:Δ.cl.map (·.nm)=Z.cl
 tr:Δ.tr.map (·.nm)=Z.tr
theorem zhW {Γ:Ctx3} {Δ:CtxX} {q:Pr} {k:Nat} {M:MC} {Z:MX} {x qual:Str} {st:Stmt} {dV:Value} {f:Addr} {fd:FuncData} {ps:List Str} {sp:SpX} {body:RTs} (F:FunD q.K x qual st dV f fd) (S:FnScope M.N ps (zH st)) (g:∀ A,Room k A->Good Γ (q.at A)) (gx:∀ A,Room k A->GoodX Δ (q.at A))
  (eM:MOk Γ M (zH st)) (eZ:ZOk Δ Z) (hm:mXs M Z body (yX st)=true) (len:∀ ws G Q E,sp ws G Q E->ws.length=ps.length)
  (hb:∀ ws G Q E,sp ws G Q E->xC Γ Δ body (λ_=>E) { nx:=λ_ G'=>Q .non G',rt:=Q} (yL M.N ws) G):FnOk q.prog q.w q.K q.mg q.base (CXr q.prog q.w) (k+1) f fd ps (bK q.K sp):=by
 obtain⟨oc,od,kV,doc,pm,an,cdv,ct,osl,rfl,lk,hcd⟩:=F.ex;refine zfd lk hcd S (λvs H Q E h=>?_) λA outer s H vs Q E hr h=>?_
 .obtain ⟨ws,G,rs,ab,h⟩:=h;rw[rs.length];exact len ws G _ _ h
 .obtain ⟨ws,G,rs,ab,h⟩:=h;refine⟨lowX q.K (λ_=>E) (xC Γ Δ body),ziI (g _ hr) (gx _ hr) body M Z _ _ (yX st) ⟨⟨'e',rfl,eM.sc.symm,S.nd,λ_ _=>rfl,by rw[eM.sc];exact S.kind,eM.fns,eM.gls,eM.mts,eM.its,eM.sxs,eM.ixs⟩,eZ.fx,eZ.cl,eZ.tr,rfl,rfl⟩ zim hm,?_⟩;refine⟨yL M.N ws,G,_,_,sI rs,ab,⟨?_,?_,?_,?_⟩,λσ w G' τ a H' g' _ rp ab' z=>z a H' g' rp ab',hb ws G _ _ h⟩
  .exact λσ G' τ H' g' _ a' z=>z .non H' g' (show xF q.K H' .non .non from rfl) a'
  .exact λσ G' τ H' g' _ a' z=>z.elim
  .exact λσ G' τ H' g' _ a' z=>z.elim
  .exact λw G' v H' g' r' a' z=>z v H' g' r' a'
theorem zhX {Γ:Ctx3} {Δ:CtxX} {q:Pr} {k:Nat} {M:MC} {Z:MX} {x qual:Str} {st:Stmt} {dV:Value} {f:Addr} {fd:FuncData} {ps:List Str} {sp:tO} {body:RTs} (F:FunD q.K x qual st dV f fd) (S:FnScope M.N ps (zH st)) (g:∀ A,Room k A->Good Γ (q.at A)) (gx:∀ A,Room k A->GoodX Δ (q.at A))
  (eM:MOk Γ M (zH st)) (eZ:ZOk Δ Z) (hm:mXs M Z body (yX st)=true) (len:∀ ws G Q,sp ws G Q XN->ws.length=ps.length)
  (hb:∀ ws G Q,sp ws G Q XN->xC Γ Δ body (λ_ _ _=>False) { nx:=λ_ G'=>Q .non G',rt:=Q} (yL M.N ws) G):FnOk q.prog q.w q.K q.mg q.base CX0 (k+1) f fd ps (vE q.K sp):=by
 obtain⟨oc,od,kV,doc,pm,an,cdv,ct,osl,rfl,lk,hcd⟩:=F.ex;refine zfd lk hcd S (λvs H Q E h=>?_) λA outer s H vs Q E hr h=>?_
 .obtain ⟨ws,G,rs,ab,h⟩:=h;rw[rs.length];exact len ws G _ h
 .obtain ⟨ws,G,rs,ab,h⟩:=h;refine⟨lowX q.K (λ_=>E0) (xC Γ Δ body),gP.nox (ziI (g _ hr) (gx _ hr) body M Z _ _ (yX st) ⟨⟨'e',rfl,eM.sc.symm,S.nd,λ_ _=>rfl,by rw[eM.sc];exact S.kind,eM.fns,eM.gls,eM.mts,eM.its,eM.sxs,eM.ixs⟩,eZ.fx,eZ.cl,eZ.tr,rfl,rfl⟩ (zbV rfl) hm),?_⟩;refine⟨yL M.N ws,G,_,_,sI rs,ab,⟨?_,?_,?_,?_⟩,λσ w G' τ a H' g' _ rp ab' z=>z.elim,hb ws G _ h⟩
  .exact λσ G' τ H' g' _ a' z=>z .non H' g' (show xF q.K H' .non .non from rfl) a'
  .exact λσ G' τ H' g' _ a' z=>z.elim
  .exact λσ G' τ H' g' _ a' z=>z.elim
  .exact λw G' v H' g' r' a' z=>z v H' g' r' a'
end L3
namespace L3
open PySem PySem.Spec PyProof.Rows L2 PySem.SeqAt AutoSeq1
theorem zdp (l b:Addr) (xs ys:Array Value) (n n2:Nat) (od:Option Addr) (os:Array (Option Value)) (h0:¬(!xs.isEmpty&&Builtin.List.listTooLong (xs.size+ys.size))=true) (h1:xs.size<=sizeLine) (h2:xs.size+ys.size<=sizeLine+1) :
  Meets (Builtin.«list.extend» ⟨[.ref l,.ref b],[]⟩) (λ_ R s=>s.heap.get? l=some { cls:=.type "list", dict:=none,data:=.seq xs n,slots:=#[]}/\s.heap.get? b=some { cls:=.type "tuple", dict:=od,data:=.seq ys n2,slots:=os} /\
   R (.ok (.ret .none)) {s with heap:=s.heap.update l (Obj.mapSeq λx=>x++ys)}) :=
 .of_wp λpr wo ar R st h=>by
  obtain⟨hp,g,d,tk,os'⟩:=st;obtain⟨hl,hb,h⟩:=h;have f1:=idx_int;have ft:=ZaP;have fl:=AutoSeq1.sub_list_list;have fu:=AutoSeq1.sub_tuple_list;have fv:=AutoSeq1.sub_list_tuple;have hz:(xs++ys).size<=sizeLine+1:=by rw[Array.size_append];exact h2
  wp_walk using(ZaG hl rfl (hz:=h1) (_hz':=hz)),ZQ hl,ZQ hb
  exact⟨_,rfl,h⟩
theorem zbL (l b:Addr) (xs ys:Array Value) (n n2:Nat) (od:Option Addr) (os:Array (Option Value)) (h0:¬(!xs.isEmpty&&Builtin.List.listTooLong (xs.size+ys.size))=true) (h1:xs.size<=sizeLine) (h2:xs.size+ys.size<=sizeLine+1) :
  Meets (Builtin.«list.extend» ⟨[.ref l,.ref b],[]⟩) (λ_ R s=>s.heap.get? l=some { cls:=.type "list", dict:=none,data:=.seq xs n,slots:=#[]}/\s.heap.get? b=some { cls:=.type "list", dict:=od,data:=.seq ys n2,slots:=os} /\
   R (.ok (.ret .none)) {s with heap:=s.heap.update l (Obj.mapSeq λx=>x++ys)}) :=
 .of_wp λpr wo ar R st h=>by
  obtain⟨hp,g,d,tk,os'⟩:=st;obtain⟨hl,hb,h⟩:=h;have f1:=idx_int;have ft:=ZaP;have fl:=AutoSeq1.sub_list_list;have fu:=AutoSeq1.sub_tuple_list;have fv:=AutoSeq1.sub_list_tuple;have hz:(xs++ys).size<=sizeLine+1:=by rw[Array.size_append];exact h2
  wp_walk using(ZaG hl rfl (hz:=h1) (_hz':=hz)),ZQ hl,ZQ hb
  exact⟨_,rfl,h⟩
noncomputable def extS:MS:=λx ws G Q=>match x,ws with
 | .ref p,[.tup ys]=>(match G p with
  |some (.lst xs)=>xs.length+ys.length<=sizeLine/\Q .non (put G p (.lst (xs++ys)))
  |_=>False)
 | .ref p,[.ref q]=>∃ xs ys,G p=some (.lst xs)/\yN G q=some ys/\xs.length+ys.length<=sizeLine/\Q .non (put G p (.lst (xs++ys)))
 |_,_=>False
theorem dF:∀ x ws G (Q Q':Q3),'l'->extS x ws G Q->extS x ws G Q':=by
 intro x ws G Q Q' k h;unfold extS at h ⊢
 split at h
 .split at h
  .exact ⟨h.1,k _ _ h.2⟩
  .exact h.elim
 .obtain ⟨xs,ys,e1,e2,h1,h⟩:=h;exact⟨xs,ys,e1,e2,h1,k _ _ h⟩
 .exact h.elim
theorem zkr {X:Cx}:MtR X "list.extend" (lowM X.K extS):=by
 intro pins s σ H x xs v us Q I rx rxs h;obtain⟨w,ws,G,rw1,rs,ab,h⟩:=h;unfold extS at h
 split at h
 .rename_i p ys;cases(show x=.ref p from rw1);cases(show v=Value.ref p from rx);obtain⟨vy,rfl,ry⟩:=jN rs;obtain⟨b,vs2,rfl,sq,rr2⟩:=ry;obtain⟨u,rfl,ru⟩:=jX rxs;cases(show u=Value.ref b from ru)
  split at h
  .rename_i zs e;obtain⟨vs,ev,rr⟩:=ab.lst e;have gr:yO X.K H (yG H p (.lst (vs++vs2))):=ab.grow e;obtain⟨z,its,n,r,hl,e1⟩:=I.lstM ev;obtain⟨its2,r2,pt,hz2⟩:=I.tuple sq;obtain⟨⟨oc,od,oda,os⟩,ho,hc,n2,hd⟩:=(show s.heap.IsTuple b its2.toArray from pt);simp only at hc hd;subst hc hd;have l1:=rr.length;have l2:=rr2.length;have l3:=r2.length;have hb:=h.1;have hsz:its.toArray.size+its2.toArray.size<=sizeLine:=by rw[zzS,zzS];omega
   have hlong:¬ (!its.toArray.isEmpty&&Builtin.List.listTooLong (its.toArray.size+its2.toArray.size))=true:=by
    rw[za2 hsz,Zbw];exact zzN
   refine Zb8 F.slot_list_extend ⟨_,e1,rfl⟩ F.entry_list_extend (F.args_list_extend_2 _ _) (zdp p b its.toArray its2.toArray n n2 od os hlong (by rw[zzS];omega) 'f') ⟨e1,ho,?_⟩;refine⟨.non,_,I.lset (its':=its++its2) ev e1 'g' (r.append r2) ?_,rfl,h.2 .non _ gr (show xF X.K _ .non .non from rfl) (ab.chg e ⟨_,rfl,(rr.append rr2).mono gr⟩)⟩;rw[zzW];omega
  .exact h.elim
 .rename_i p q;cases(show x=.ref p from rw1);cases(show v=Value.ref p from rx);obtain⟨vy,rfl,ry⟩:=jN rs;cases(show vy=.ref q from ry);obtain⟨u,rfl,ru⟩:=jX rxs;cases(show u=Value.ref q from ru);obtain⟨zs,ys,e,e2,hb,h⟩:=h;obtain⟨vs,ev,rr⟩:=ab.lst e;obtain⟨vs2,sq,rr2⟩:=ab.seq e2;have gr:yO X.K H (yG H p (.lst (vs++vs2))):=ab.grow e;obtain⟨z,its,n,r,hl,e1⟩:=I.lstM ev;obtain⟨its2,r2,pt,hz2⟩:=I.list sq;obtain⟨⟨oc,od,oda,os⟩,ho,hc,n2,hd⟩:=pt.isList;simp only at hc hd;subst hc hd;have l1:=rr.length;have l2:=rr2.length;have l3:=r2.length;have hsz:its.toArray.size+its2.toArray.size<=sizeLine:=by rw[zzS,zzS];omega
  have hlong:¬ (!its.toArray.isEmpty&&Builtin.List.listTooLong (its.toArray.size+its2.toArray.size))=true:=by
   rw[za2 hsz,Zbw];exact zzN
  refine Zb8 F.slot_list_extend ⟨_,e1,rfl⟩ F.entry_list_extend (F.args_list_extend_2 _ _) (zbL p q its.toArray its2.toArray n n2 od os hlong (by rw[zzS];omega) 'f') ⟨e1,ho,?_⟩;refine⟨.non,_,I.lset (its':=its++its2) ev e1 'g' (r.append r2) ?_,rfl,h .non _ gr (show xF X.K _ .non .non from rfl) (ab.chg e ⟨_,rfl,(rr.append rr2).mono gr⟩)⟩;rw[zzW];omega
 .exact h.elim
noncomputable abbrev eExt:Mt3:=⟨"extend", "list", extS⟩
theorem zhQ {q:Pr} {A:Around}:MtE (q.at A) eExt/\gU eExt:=⟨bN ZaY PySem.F.slot_list_extend PySem.F.type_list_extend (λX f=>zkr) dF,dF⟩
noncomputable def getM (d:Str):Scope->Expr->Option (List Expr):=λsc e=>match e with
 | .Call (.Attribute (.Name x _) y apos) [a] [] cpos=>if(x==d&&kB sc x&&y==("get":Str)&&(apos.endLine==cpos.line))=true then some [a] else none
 |_=>none
noncomputable def getS (ks:List Str) (vs:List W):RS:=λws G Q=>match ws with
 | [.str k]=>Q (((ks.zip vs).lookup k).getD .non) G
 |_=>False
theorem zdg (ks:List Str) (vs:List W):wH (getS ks vs):=by
 intro ws G Q Q' k h;unfold getS at h ⊢
 split at h
 .exact k _ _ h
 .exact h.elim
theorem zfb {d:Str} {sc:Scope} {e:Expr} {xs:List Expr} (h:getM d sc e=some xs):∃ q apos a cpos,e=.Call (.Attribute (.Name d q) "get" apos) [a] [] cpos/\xs=[a]/\kB sc d=true/\(apos.endLine==cpos.line)=true:=by
 unfold getM at h
 split at h
 .rename_i x q y apos a cpos
  split at h
  .rename_i hb;obtain⟨⟨⟨h1,h2⟩,h3⟩,h4⟩:=bd4 hb;cases eq_of_beq h1;cases eq_of_beq h3;cases h;exact⟨q,apos,a,cpos,rfl,rfl,h2,h4⟩
  .cases h
 .cases h
theorem kd_bm {X:Cx} {pins:PL} {σ:L2.St} {H:Hp} {s:Shared} {a:Addr} {ks:List Str} {vs:List V} {k:Str} {u:Value} {Q:VK} (I:Inv X pins σ H s) (h:KD X.K a ks vs) (ru:yV (.str k) u) (q:Q (((ks.zip vs).lookup k).getD .non) H) :
  wpAny 'b' X.A (call (.builtin "dict.get") [.ref a,u]) (EP X pins σ Q) X.xe s:=by
 have hT:=zhf I h;have hd:(a==sysModules)=false:=by obtain⟨o,es,ep,l,_,_,_,z,_⟩:=h;exact z
 obtain⟨tk,rfl⟩:=ru;refine ZbG (ZaJ Zbc.plain PySem.F.entry_dict_get (Zbc.check _ _ _ _ _ _ _ _ hT (PySem.F.args_dict_get_2 _ _) ?_));show wpAny 'b' _ (dictGet a (.str k tk) >>= _) _ _ s;refine Za (zfZ I h ?_);revert q
 cases(ks.zip vs).lookup k with
 |some v=>exactλq u s' r J=>Zc ⟨v,H,J,r,q⟩
 |none =>
  intro q s' J;show wpAny _ _ (Builtin.Dict.missed a (.str k tk) >>= _) _ _ _;exact Za (wpAny_missed_other hd (Zc ⟨.non,H,J,rfl,q⟩))
theorem ziD {q:Pr} {A:Around} {d:Str} {ks:List Str} {vs:List W} (g:GlE (q.at A) (d,.dcf ks vs)):SxE (q.at A) ⟨getM d,getS ks vs⟩:=by
 intro X fits e xs es he each hn pa;obtain⟨qp,apos,a,cpos,rfl,rfl,hg,hline⟩:=zfb he;obtain⟨gl,d1,n1⟩:=sY (X:=X) rfl hg
 match es,each with
 | [t],each =>
  refine⟨λpins s σ H Q I h=>?_,λ_=>rfl,λ_ _ _ z=>nomatch z⟩;obtain⟨σ3,G,hs,ab,h⟩:=h;have po:=g X fits gl qp d1 n1;obtain⟨s1,s2⟩:=xX (env:=X.env) (pos:=cpos) hn;refine wpAny_Call_method_late (vV rfl) ?_ hline rfl (thn (po pins s σ H (λv H1=>yO X.K H H1/\xP X.K H1 G/\xF X.K H1 (.dcf ks vs) v) I ⟨σ3,G,hs,ab,λv H' gr rp ab'=>⟨gr,ab',rp⟩⟩) λv s3 ⟨x,H1,I1,r1,g1,a1,p,us,ex,kd,rr⟩=>?_)
  .rw[zbi hn];rfl
  .subst ex;cases(show v=Value.ref p from r1);have hT:=zhf I1 kd;refine⟨"dict", "dict.get", PySem.F.plainAttrs_dict,Zbc,PySem.F.type_dict_get,hT,λb e=>?_,?_⟩
   .cases e;obtain⟨o,es,ep,l,hc,_⟩:=kd;exact⟨o,I1.kIn _ _ l,hc.2.1⟩
   .have hA:=pa cpos pins s3 σ H1 (λys H2=>∃ k,ys=[.str k]/\Q (((ks.zip us).lookup k).getD .non) H2) I1 ⟨σ3,G,hs.mono g1,a1,?_⟩
    .rw[s1] at hA ⊢;refine Za0 (by show(false || (backTo cpos (starEach [] X.env)).any (·.1))=false;rfl) (Calls.evalArgs_plain ?_);refine thn hA λws s4 ⟨ys,H2,I2,r2,k,e2,q2⟩=>?_;subst e2;obtain⟨u,rfl,ru⟩:=jX r2;exact kd_bm I2 kd ru q2
    .refine each.1 σ3 G _ _ (λw G1 h=>?_) h;intro ys H2 g2 rs a2;replace h:getS ks vs [w] G1 (jT X.K H Q):=h;unfold getS at h
     split at h
     .rename_i k ew;cases ew;obtain⟨y,rfl,ry⟩:=jN rs;cases(show y=.str k from ry);refine⟨k,rfl,?_⟩
      cases hk:(ks.zip vs).lookup k with
      |some w' =>
       obtain⟨v',e',rv⟩:=vC rr hk;rw[hk] at h;rw[e'];exact h v' H2 (g1.trans g2) (rv.mono g2) a2
      |none =>
       rw[hk] at h;rw[rQ rr hk];exact h .non H2 (g1.trans g2) rfl a2
     .exact h.elim
end L3
namespace L3
open PySem PySem.Spec PyProof.Rows L2
noncomputable abbrev eApp:Mt3:=⟨"append", "list", appS⟩
theorem zhR {q:Pr} {A:Around}:MtE (q.at A) eApp/\gU eApp:=⟨bN ZaY PySem.F.slot_list_append PySem.F.type_list_append (λX f=>zkF) cT,cT⟩
noncomputable def tupS:RS:=λws G Q=>match ws with
 | [x]=>(match xD G x with|some xs=>Q (.tup xs) G|none=>False)
 |_=>False
theorem fW:wH tupS:=by
 intro ws G Q Q' k h;unfold tupS at h ⊢
 split at h
 .split at h
  .exact k _ _ h
  .exact h.elim
 .exact h.elim
theorem zio {X:Cx}:wW X (.type "tuple") (tB X.K tupS):=by
 intro pins s σ H xs us Q I r h;obtain⟨ws,G,rs,ab,h⟩:=h;unfold tupS at h
 split at h
 .rename_i w;obtain⟨v,rfl,rv⟩:=jN rs
  split at h
  .rename_i ys hy;obtain⟨a,vs,b,rfl,sq,rr⟩:=zcm ab rv hy;refine gB pins s σ H _ us Q I r ⟨a,vs,rfl,?_⟩;cases b
   .exact .inl ⟨sq,pU ab rr h⟩
   .exact .inr ⟨sq,h _ _ .refl ⟨a,vs,rfl,sq,rr⟩ ab⟩
  .exact h.elim
 .exact h.elim
noncomputable abbrev eTup:Fn3:=⟨"tuple",λws G Q _=>tupS ws G Q⟩
theorem zhG {q:Pr} {A:Around} (hm:q.mg "tuple" = none):qT (q.at A) eTup:=⟨zhB hm (by decide +kernel) (λX f=>zio) fW (λ_ _ h=>h),λws G Q Q' _ k h=>fW ws G Q Q' k h⟩
end L3
namespace L2
open PySem PySem.Spec PyProof.Rows
section
variable {X:Cx} {tg:Expr}
end
end L2
namespace L3
open PySem PySem.Spec PyProof.Rows L2 PySem.SeqAt
end L3
namespace PySem
open Sem (wp)
section
variable {prog:Program} {w:World} {A:Around} {E:VP} {s:Shared}
noncomputable abbrev rW (h:Heap) (e it:Addr) (i:Int) (f0 f1 old:Value):Prop :=
 h.get? e=some { cls:=.type "enumerate", dict:=none,data:=.fields #[f0,f1,.ref it,rawInt i,.none,old],slots:=#[]}
noncomputable def F0 (v:Value):Prop:=v=.none\/∃ T:Addr,v=rawInt T
noncomputable def F1 (v:Value):Prop:=v=.bool false\/v=.bool true
theorem zhU {b:Bool} {e it l:Addr} {k:Nat} {m:Int} {xs:Array Value} {x f0 f1 old:Value} {Q:VP} (hne:e≠it) (hle:l≠e) (h0:F0 f0) (h1:F1 f1) (he:rW s.heap e it m f0 f1 old)
  (hi:tN b s.heap it l k) (hl:sK b s.heap l xs) (hx:xs[k]?=some x)
  (hQ:∀ h' tk t f0' f1' old',0<tk->F0 f0'->F1 f1'->rW h' e it (m+1) f0' f1' old'->tN b h' it l (k+1)->h'.get? s.heap.objs.size=some { cls:=.type "tuple", data:=.seq #[.int m t,x]}->h'.objs.size=s.heap.objs.size+1 ->
   (∀ c o,c≠e->c≠it->s.heap.get? c=some o->h'.get? c=some o)->Q (.ref s.heap.objs.size) {s with heap:=h',toks:=tk}) :
  wpAny 'd' A (Builtin.«enumerate.__next__» ⟨[.ref e],[]⟩) (λfin z=>∃ v,fin=.done (.ret v)/\Q v z) E s:=by
 obtain⟨hp,g,d,tk,os⟩:=s;have le:e<hp.objs.size:=Zd he;refine Za (m:=field (.ref e) 2) (ZR he rfl (x:=.ref it) rfl (Za ?_));refine(jI hi hl hx λg1 i1 s1=>?_);replace s1:Heap.SameBut it hp g1:=s1;have e1:rW g1 e it m f0 f1 old:=(s1.2 e hne).trans he;show wpAny _ _ (field (.ref e) 3 >>= _) _ _ ⟨g1,g,d,tk,os⟩;refine Za (ZR e1 rfl (x:=rawInt m) rfl ?_);show wpAny _ _ (field (.ref e) 4 >>= _) _ _ ⟨g1,g,d,tk,os⟩;refine Za (ZR e1 rfl (x:=.none) rfl ?_);show wpAny _ _ (mkInt m >>= _) _ _ ⟨g1,g,d,tk,os⟩;refine Za (wpAny_mkInt ?_);show wpAny _ _ (setField (.ref e) 3 (rawInt (m+1)) >>= _) _ _ ⟨g1,g,d,tk+1,os⟩;refine Za (Z7 e1 'g' λg2 e2 s2=>?_);replace s2:Heap.SameBut e g1 g2:=s2;replace e2:rW g2 e it (m+1) f0 f1 old:=e2;show wpAny _ _ (setField (.ref e) 4 .none >>= _) _ _ ⟨g2,g,d,tk+1,os⟩;refine Za (Z7 e2 'g' λg3 e3 s3=>?_);replace s3:Heap.SameBut e g2 g3:=s3;replace e3:rW g3 e it (m+1) f0 f1 old:=e3;show wpAny _ _ (newTuple [.int m tk,x] >>= _) _ _ ⟨g3,g,d,tk+1,os⟩;refine Za (wpAny_newTuple ?_);have e4:rW (g3.push { cls:=.type "tuple", data:=.seq #[.int m tk,x]}) e it (m+1) f0 f1 old:=Zb _ e3;generalize hh:g3.push { cls:=.type "tuple", data:=.seq #[.int m tk,x]}=g4 at e4;have hsz:g3.objs.size=hp.objs.size:=by rw[s3.1,s2.1,s1.1]
 have t4:g4.get? hp.objs.size=some { cls:=.type "tuple", data:=.seq #[.int m tk,x]}:=by rw[← hh,← hsz];exact Zl _ rfl
 have z4:g4.objs.size=hp.objs.size+1:=by rw[← hh,ZH,hsz]
 have k4:∀ c o,c≠e->c≠it->hp.get? c=some o->g4.get? c=some o:=λc o n1 n2 q=>by
  rw[← hh];exact Zb _ (s3.extBut c o n1 (s2.extBut c o n1 (s1.extBut c o n2 q)))
 have i4:tN b g4 it l (k+1):=i1.at λo q=>by rw[← hh];exact Zb _ (s3.extBut it o hne.symm (s2.extBut it o hne.symm q))
 show wpAny _ _ (Builtin.SmallTypes.ownedTupleIsFree (.ref e) >>= _) _ _ ⟨g4,g,d,tk+1,os⟩;rw[hsz]
 clear hh e3 s3 e2 s2 e1 s1 i1 hsz g3 g2 g1
 have free:wpAny 'd' A (do
   rule "enumerate.__next__.owned-tuple-again"
   let old ← field (.ref e) 5
   setField (.ref e) 5 x
   Builtin.SmallTypes.ownedTupleHandOut (.ref e) (.ref hp.objs.size)
   letGo [old] [.ref hp.objs.size]
   ret (.ref hp.objs.size)) (λfin s'=>∃ v,fin=.done (.ret v)/\Q v s') E ⟨g4,g,d,tk+1,os⟩:=by
  refine Za (ZbH ?_);refine Za (ZR e4 rfl (x:=old) rfl ?_);refine Za (Z7 e4 'g' λg5 e5 s5=>?_);replace s5:Heap.SameBut e g4 g5:=s5;replace e5:rW g5 e it (m+1) f0 f1 x:=e5;show wpAny _ _ (Builtin.SmallTypes.ownedTupleHandOut (.ref e) (.ref hp.objs.size) >>= _) _ _ ⟨g5,g,d,tk+1,os⟩;refine Za ?_;unfold Builtin.SmallTypes.ownedTupleHandOut;refine Za (Z7 e5 'g' λg6 e6 s6=>?_);replace s6:Heap.SameBut e g5 g6:=s6;replace e6:rW g6 e it (m+1) (rawInt hp.objs.size) f1 x:=e6;refine Z7 e6 'g' λg7 e7 s7=>?_;replace s7:Heap.SameBut e g6 g7:=s7;replace e7:rW g7 e it (m+1) (rawInt hp.objs.size) (.bool false) x:=e7;have up:∀ c o,c≠e->g4.get? c=some o->g7.get? c=some o:=λc o n q=>s7.extBut c o n (s6.extBut c o n (s5.extBut c o n q));exact Za (wpAny_letGo (Zc ⟨_,rfl,hQ g7 (tk+1) tk _ _ _ (ZM _) (.inr ⟨_,rfl⟩) (.inl rfl) e7 (i4.at λo q=>up it o hne.symm q) (up _ _ (Z3 le) t4) (by rw[s7.1,s6.1,s5.1,z4]) λc o n1 n2 q=>up c o n1 (k4 c o n1 n2 q)⟩))
 refine Za ?_;unfold Builtin.SmallTypes.ownedTupleIsFree;refine Za (ZR e4 rfl (x:=f0) rfl ?_);rcases h0 with rfl|⟨T,rfl⟩
 .exact Zc free
 .show wpAny _ _ (loadIfAlive (Int.toNat T) >>= _) _ _ _;refine Za (kF ?_)
  cases hT:g4.get? (Int.toNat T) with
  |none=>exact Zc free
  |some oT =>
   show wpAny _ _ (field (.ref e) 1 >>= _) _ _ _;refine Za (ZR e4 rfl (x:=f1) rfl ?_);rcases h1 with rfl|rfl
   .refine Za (Z7 e4 'g' λg5 e5 s5=>?_);replace s5:Heap.SameBut e g4 g5:=s5;replace e5:rW g5 e it (m+1) (rawInt T) (.bool true) old:=e5;refine Zc (Zc ⟨_,rfl,hQ g5 (tk+1) tk _ _ _ (ZM _) (.inr ⟨_,rfl⟩) (.inr rfl) e5 (i4.at λo q=>s5.extBut it o hne.symm q) (s5.extBut _ _ (Z3 le) t4) (by rw[s5.1,z4]) λc o n1 n2 q=>s5.extBut c o n1 (k4 c o n1 n2 q)⟩)
   .exact Zc (Zc ⟨_,rfl,hQ g4 (tk+1) tk _ _ _ (ZM _) (.inr ⟨_,rfl⟩) (.inr rfl) e4 i4 t4 z4 k4⟩)
end
end PySem
namespace PySem
open Sem (wp)
noncomputable abbrev enH (b:Bool) (h:Heap) (l:Addr):Heap:=h.push { cls:=.type (itc b),data:=.fields #[.ref l,.int 0 0]}
theorem bL (b:Bool) (l:Addr) (xs:Array Value) :
  Meets (Builtin.«enumerate.__new__» ⟨[.type "enumerate", .ref l],[]⟩) (λ_ R s=>sK b s.heap l xs /\
   R (.ok (.ret (.ref (enH b s.heap l).objs.size))) {s with heap:=(enH b s.heap l).push { cls:=.type "enumerate", data:=.fields #[.none,.bool false,.ref s.heap.objs.size,rawInt 0,.none,.none]}}) :=
 .of_wp λprog w A R s h=>by
  obtain⟨hp,g,d,tk,os⟩:=s;obtain⟨hl,h⟩:=h;have hsub:=sub_enumerate;have hL:sK b (Shared.heap ⟨hp,g,d,tk,os⟩) l xs:=hl
  wp_walk
  refine wpAny_stack_any λst=>Zc ?_
  split
  .rename_i c _ _ _ _ _;cases(c==Value.type "enumerate")<;>(wp_walk using kM hL;exact⟨_,rfl,h⟩)
  .wp_walk using kM hL
   exact⟨_,rfl,h⟩
section
variable {prog:Program} {w:World} {A:Around} {E:VP} {s:Shared}
theorem zh4 {b:Bool} {l:Addr} {xs:Array Value} {Q:VP} (hl:sK b s.heap l xs)
  (h:∀ h',rW h' (s.heap.objs.size+1) s.heap.objs.size 0 .none (.bool false) .none->tN b h' s.heap.objs.size l 0->(∀ c o,s.heap.get? c=some o->h'.get? c=some o)->Q (.ref (s.heap.objs.size+1)) {s with heap:=h'}) :
  wpAny 'd' A (call (.type "enumerate") [.ref l]) Q E s:=by
 refine callType_new F.called_enumerate 'c' (F.typeCall_enumerate_1 _) (F.newCall_enumerate_1 _) (λobj=>F.args_object_init_2 obj _) F.entry_enumerate_new (bL b l xs) ⟨hl,?_⟩;have hz:(enH b s.heap l).objs.size=s.heap.objs.size+1:=ZH ..;show _/\_;rw[hz]
 have he:rW ((enH b s.heap l).push { cls:=.type "enumerate", data:=.fields #[.none,.bool false,.ref s.heap.objs.size,rawInt 0,.none,.none]}) (s.heap.objs.size+1) s.heap.objs.size 0 .none (.bool false) .none:=by
  have:=Zl (enH b s.heap l) (o:={ cls:=.type "enumerate", data:=.fields #[.none,.bool false,.ref s.heap.objs.size,rawInt 0,.none,.none]}) rfl;rw[hz] at this;exact this
 exact⟨⟨_,he,rfl⟩,h _ he ⟨_,Zb _ (Zl _ rfl),rfl,rfl⟩ λc o x=>Zb _ (Zb _ x)⟩
end
end PySem
namespace L2
open PySem PySem.Spec PyProof.Rows
noncomputable def Ite (st:Int) (b:Bool) (K:PySem.W.Frag) (l:Addr):It where
 go:=λi H=>∃ xs x,pN b K H l xs/\xs[i]?=some x
 yld:=λi H v H'=>∃ p x,v=.ref p/\H p=none/\H'=yG H p (.tup [.int (i+st),x])/\∀ xs,pN b K H l xs->xs[i]?=some x
 stop:=λi H=>∃ xs,pN b K H l xs/\xs.length<=i
noncomputable def EnSt (st:Int) (b:Bool) (e it l:Addr) (i:Nat) (h:Heap):Prop:=∃ f0 f1 old,F0 f0/\F1 f1/\rW h e it (i+st) f0 f1 old/\tN b h it l i
section
variable {sn:Int} {b:Bool} {e it l:Addr}
theorem EnSt.keep {i:Nat} {h h':Heap} (x:EnSt sn b e it l i h) (k:∀ c∈[e,it],∀ o,h.get? c=some o->h'.get? c=some o):EnSt sn b e it l i h':=by
 obtain⟨f0,f1,old,a0,a1,he,hi⟩:=x;exact⟨f0,f1,old,a0,a1,k e 'g' _ he,hi.at λo q=>k it 'g' o q⟩
theorem en_go {P:Program} {w:World} {A:Around} {E:VP} {s:Shared} {tg:Expr} {u:Value} {i:Nat} {Q:Unit->Shared->Prop} (hne:e≠it) (st:EnSt sn b e it l i s.heap)
  (h:∀ h',EnSt sn b e it l i h'->(∀ c o,c≠e->s.heap.get? c=some o->h'.get? c=some o)->Q () {s with heap:=h'}):wpAny (model P w) A (letOwnedTupleGo tg (.ref e) u) Q E s:=by
 have stay:Q () s:=h s.heap st λ_ _ _ z=>z
 have core:wpAny (model P w) A (do
   let (.ref r,.ref t):=(Value.ref e,u)|return
   let o ← load r
   match o.cls,o.data with
   | .type n,.fields vs =>
    if ["enumerate", "zip", "dict_itemiterator", "dict_reverseitemiterator", "odict_iterator", "itertools.zip_longest", "itertools.pairwise"].contains n&&vs[0]?==some (rawInt t) then
     rule "for.unpacks-the-owned-tuple"
     updateField r 0 .none
   |_,_=>pure ()) Q E s:=by
  cases u with
  |ref t =>
   obtain⟨f0,f1,old,a0,a1,he,hi⟩:=st;refine Za (wpAny_load he ?_);dsimp only
   split
   .refine Za (ZbH ?_);show wpAny _ _ (setField (.ref e) 0 .none) Q E s;exact Z7 he 'g' λh' he' hs'=>h h' ⟨.none,f1,old,.inl rfl,a1,he',hi.at λo q=>hs'.extBut it o hne.symm q⟩ λc o hc q=>hs'.extBut c o hc q
   .exact Zc stay
  |_=>exact Zc stay
 cases tg with
 |Tuple es x p=>exact core
 |List es x=>exact core
 |_=>exact Zc stay
theorem zhT (P:Program) (w:World) (K:PySem.W.Frag) (tg:Expr) (hne:e≠it) (n1:l≠e) (n2:l≠it):Turn P w K tg (Ite sn b K l) [e,it] e (EnSt sn b e it l) where
 mem:=by simp
 obj:=λi h x c hc=>by
  obtain⟨f0,f1,old,_,_,he,o,q1,q2,q3⟩:=x;simp only[Zh,Zt,or_false] at hc;rcases hc with rfl|rfl
  .exact ⟨_,he,λv z=>nomatch z⟩
  .exact ⟨o,q1,λv z=>by rw[q3] at z;cases z⟩
 keep:=λi h h' x k=>x.keep k
 item:=by
  intro X e1 e2 e3 hc i pins s σ H E I hf st go;subst e1;subst e2;subst e3;obtain⟨xs,x,q1,ex⟩:=go;obtain⟨its,vx,sx,_⟩:=I.sqB q1;obtain⟨u,eu,ru⟩:=vx.get ex;obtain⟨f0,f1,old,a0,a1,he,hi⟩:=id st;have hT:s.TypeIs (.ref e) "enumerate" := ⟨_,he,rfl⟩;have le:e<s.heap.objs.size:=Zd he;have li:it<s.heap.objs.size:=by obtain⟨o,ho,_⟩:=hi;exact Zd ho
  have hn:H s.heap.objs.size=none:=I.hok.fresh (zzR _);unfold pyNext
  refine Za (ZaZ (ZN (name:=Str.ofString "__next__") hT Zam (ZP Zam hT F.entry_enumerate_next
   (zhU hne n1 a0 a1 he hi sx (x:=u) (by simpa using eu) λh' tk t f0' f1' old' h0 b0 b1 he' hi' ht hz k=>Zc ⟨_,rfl,?_⟩) (F.args_enumerate_next_1 _))))
  refine en_go (sn:=sn) (i:=i+1) (s:={s with heap:=h',toks:=tk}) hne ⟨f0',f1',old',b0,b1,by rw[show(((i+1:Nat):Int)+sn)=(i:Int)+sn+1 by omega];exact he',hi'⟩ λh2 st2 k2=>?_
  have J:Inv X pins σ H {s with heap:=h2,toks:=tk}:=I.turns hf λc o hc q=>by
   simp only[Zh,Zt,or_false,not_or] at hc;exact k2 c o hc.1 (k c o hc.1 hc.2 q)
  refine⟨.ref s.heap.objs.size,yG H s.heap.objs.size (.tup [.int (i+sn),x]),?_,rfl,⟨_,x,rfl,hn,rfl,λys q'=>by rw[I.sqB_inj q' q1];exact ex⟩,st2,λc hc=>?_⟩
  .refine J.adopt (I.off (zzR _)) hn ⟨by show 2<=sizeLine;rw[Z2];decide,[.int (i+sn) t,u],.cons ⟨t,rfl⟩ (.cons ru .nil),⟨_,k2 _ _ (Z3 le) ht,rfl,_,rfl⟩⟩
  .have:c≠s.heap.objs.size:=by
    simp only[Zh,Zt,or_false] at hc;rcases hc with rfl|rfl
    .exact Zo le
    .exact Zo li
   rw[zA this];exact(hf c hc).1
 done:=by
  intro X e1 e2 e3 hc i pins s σ H E I hf st stop;subst e1;subst e2;subst e3;obtain⟨xs,q1,hx⟩:=stop;obtain⟨its,vx,sx,_⟩:=I.sqB q1;obtain⟨f0,f1,old,a0,a1,he,hi⟩:=id st;have hT:s.TypeIs (.ref e) "enumerate" := ⟨_,he,rfl⟩;have hl:=vx.length;unfold pyNext;refine Za (ZaZ (ZN (name:=Str.ofString "__next__") hT Zam (ZP Zam hT F.entry_enumerate_next ?_ (F.args_enumerate_next_1 _))));show wpAny _ _ (field (.ref e) 2 >>= _) _ _ _;refine Za (ZR he rfl (x:=.ref it) rfl ?_);refine Za (tK (A:=X.A.in1) (I.ok.hd hc) hi sx (by simp;omega) λh' x k hx'=>?_);obtain⟨o,ho,hc'⟩:=hx';refine Za (ZbQ (T := "StopIteration") (b:=true) ⟨o,ho,hc'⟩ isSubtype_stop ?_);refine Zc ⟨rfl,I.turns (t':=s.toks) hf λc o hc q=>?_⟩;simp only[Zh,Zt,or_false,not_or] at hc;exact k c o hc.2 q
 self:=λA i s Q E st h=>by
  obtain⟨f0,f1,old,a0,a1,he,hi⟩:=st;have hT:s.TypeIs (.ref e) "enumerate" := ⟨_,he,rfl⟩;have body:wpAny (model P w) A.in1 (ret (.ref e)) (λfin z=>∃ v,fin=.done (.ret v)/\∃ T id,z.TypeIs v T/\typeLookup (.type T) "__next__" = pure (some id)/\Q v z) E s:=Zc ⟨_,rfl,_,_,hT,Zam.lookup,h⟩;exact wpAny_pyIter_slot hT F.slot_enumerate_iter (ZP F.slot_enumerate_iter hT F.entry_enumerate_iter body (F.args_enumerate_iter_1 _))
end
end L2
namespace L3
open PySem PySem.Spec PyProof.Rows L2 PySem.SeqAt
noncomputable def enW (st:Int) (xs:List W):List W:=(List.range xs.length).map λi=>W.tup [.int ((i:Nat)+st),xs.getD i .non]
noncomputable def enI (ws:List W) (G:Hw) (R:List W->(Hw->Prop)->Hw->Prop):Prop:=match ws with
 | [x]=>∃ xs,xD G x=some xs/\R (enW 0 xs) (λG'=>xD G' x=some xs) G
 |_=>False
theorem zfi:tR ⟨"enumerate", enI⟩:=by
 intro ws G R R' k h;replace h:enI ws G R:=h;show enI ws G R';unfold enI at h ⊢
 split at h
 .obtain ⟨xs,e1,h⟩:=h;exact⟨xs,e1,k _ _ _ h⟩
 .exact h.elim
theorem zjX {sn:Int} {K:yM} {H1:Hp} {G1:Hw} {x:W} {a:Addr} {vx:List V} {xs:List W} (rx:xF K H1 x (.ref a)) (ex:xD G1 x=some xs) (sx:pN (gQ x) K H1 a vx) (rr:yY K H1 xs vx) :
  ItIs K (Ite sn (gQ x) K a) H1 (enW sn xs) (λG'=>xD G' x=some xs) where
 go:=λi H G g ab st hi=>by
  obtain⟨vx',sx',rx'⟩:=kK g ab rx ex sx rfl st rr;have h1:=rx'.length;have hi:i<xs.length:=by simpa[enW] using hi
  exact⟨vx',vx'[i]''f',sx',Zf _⟩
 yld:=λi H G v H' g ab st hi yl=>by
  obtain⟨vx',sx',rx'⟩:=kK g ab rx ex sx rfl st rr;obtain⟨p,x',rfl,hp,rfl,e2⟩:=yl;obtain⟨wx,ewx,rpx⟩:=rx'.get' (e2 vx' sx');have hi:i<xs.length:=by simpa[enW] using hi
  have gr:yO K H (yG H p (.tup [.int (i+sn),x'])):=yB hp;refine⟨.tup [.int (i+sn),wx],?_,gr,⟨p,[.int (i+sn),x'],rfl,.of yI,⟨_,_,rfl,rfl,_,_,rfl,rpx.mono gr,rfl⟩⟩,ab.tup hp⟩;simp[enW,hi];rw[Zf hi] at ewx;exact ZE ewx
 stop:=λi H G g ab st hi=>by
  obtain⟨vx',sx',rx'⟩:=kK g ab rx ex sx rfl st rr;have h1:=rx'.length;have hi:xs.length<=i:=by simpa[enW] using hi
  exact⟨vx',sx',by omega⟩
theorem it_en {q:Pr} {A:Around} (hm:q.mg "enumerate" = none):ItE (q.at A) ⟨"enumerate", enI⟩:=by
 intro X fits gl tg args t qp pos mt hn pa hnil hdb hnm;have hm':X.mg "enumerate" = none:=by rw[fits.mg];exact hm
 intro pins s σ H R I h
 cases args with
 |nil =>
  obtain⟨σ3,G,hs,ab,h⟩:=h;exact(hnil rfl _ _ _ h).elim
 |cons a r =>
  obtain⟨s1,s2⟩:=xX (env:=X.env) (pos:=pos) hn;obtain⟨σ3,G,hs,ab,h⟩:=h
  have h':=uX (S:=λvs H1=>∃ x a1 vx,vs=[.ref a1]/\pN (gQ x) X.K H1 a1 vx/\R (Ite 0 (gQ x) X.K a1) H1) mt hs ab h λws G1 vs H1 g1 hs1 rs a1 h=>by
   dsimp only at h;unfold enI at h
   split at h
   .rename_i x;obtain⟨v1,rfl,r1⟩:=jN rs;obtain⟨xs,ex,h⟩:=h;obtain⟨p1,vx,rfl,sx,rx⟩:=tJ a1 r1 ex;exact⟨x,p1,vx,rfl,sx,h _ H1 g1 a1 (zjX r1 ex sx rx)⟩
   .exact h.elim
  refine Call_ (vA I gl hm' (by decide +kernel:bootBuiltins "enumerate" = some (.type "enumerate")) (ZW (thn (pa pos pins s σ H _ I h') λus s1 ⟨vs,H1,I1,r1,q1⟩=>?_) s1 s2));obtain⟨x,a1,vx,e,sx,q⟩:=q1;subst e;obtain⟨u1,rfl,ru1⟩:=jX r1;cases(show u1=Value.ref a1 from ru1);obtain⟨itx,vvx,ssx,hzx⟩:=I1.sqB sx
  have lt1:a1<s1.heap.objs.size:=by
   cases hb:gQ x<;>rw[hb] at ssx<;>(obtain⟨o,ho,_⟩:=ssx;exact Zd ho)
  refine zh4 ssx λh' z1 z2 z3=>?_;have J:Inv X pins σ H1 {s1 with heap:=h',toks:=s1.toks}:=I1.kept z3
  have hf:∀ b∈[s1.heap.objs.size+1,s1.heap.objs.size],qU X pins H1 b:=λb hb=>by
   have hge:s1.heap.objs.size<=b:=by
    simp only[Zh,Zt,or_false] at hb;omega
   exact I1.fpOk hge (I1.hok.fresh hge)
  have tu:=zhT (sn:=0) (b:=gQ x) (e:=s1.heap.objs.size+1) (it:=s1.heap.objs.size) (l:=a1) X.prog X.w X.K tg (Nat.succ_ne_self _) (Zo (ZaI lt1)) (Zo lt1);have st:EnSt 0 (gQ x) (s1.heap.objs.size+1) s1.heap.objs.size a1 0 h':=⟨.none,.bool false,.none,.inl rfl,.inl rfl,z1,z2⟩;exact tu.self X.A 0 {s1 with heap:=h'} _ _ st ⟨_,_,_,_,H1,rfl,J,tu,st,hf,q⟩
noncomputable abbrev eEn:It3:=⟨"enumerate", enI⟩
theorem zkw {q:Pr} {A:Around} (hm:q.mg "enumerate" = none):ItE (q.at A) eEn/\tR eEn:=⟨it_en hm,zfi⟩
structure KdS (prog:Program) (w:World) (α:Type) [DecidableEq α] where
 k:_root_.PySem.KeyKind prog w α
 vl:α->Tok->Value
 of:Value->α
 d:α
 is:∀ x t,k.is x (vl x t)=true
 sh:∀ {x v},k.is x v=true->∃ t,v=vl x t
 ofm:∀ x t,of (vl x t)=x
 sc:∀ x t,(vl x t).scannable=true
section
variable {α:Type} [DecidableEq α] {prog:Program} {w:World}
noncomputable def tx (K:KdS prog w α) (e:Int×Value):α:=K.of e.2
end
section
variable {α:Type} [DecidableEq α] {prog:Program} {w:World} {K:KdS prog w α} {A:Around} {E:VP} {s:Shared} {S:Addr} {led:Bool}
end
section
variable {α:Type} [DecidableEq α] {prog:Program} {w:World} {K:KdS prog w α} {A:Around} {R:Result->Shared->Prop} {I:Addr} {fp wr:List Addr} {G:Array GenState->Array GenState->Prop} {n:Nat} {P:Nat->Value->Prop} {St:Nat->Shared->Prop} {S:Addr} {led:Bool}
end
section
variable {prog:Program} {w:World} {s:Shared} {A:Around} {E:VP}
end
namespace SI
end SI
section
variable {α:Type} [DecidableEq α] {prog:Program} {w:World} {K:KdS prog w α} {A:Around} {E:VP} {s:Shared} {I S:Addr} {first:Value} {i n ep:Nat} {led:Bool} {o:Obj} {es:Array (Int×Value)} {t:SetTable}
end
section
variable {α:Type} [DecidableEq α] {prog:Program} {w:World} {K:KdS prog w α} {A:Around} {I S T:Addr} {ep:Nat} {led:Bool} {o:Obj} {es:Array (Int×Value)} {t:SetTable}
end
section
variable {α:Type} [DecidableEq α] {prog:Program} {w:World} {K:KdS prog w α} {A:Around} {E:VP} {s:Shared} {S:Addr} {ep:Nat} {o:Obj} {es:Array (Int×Value)} {t:SetTable}
end
section
variable {α:Type} [DecidableEq α] {prog:Program} {w:World} {K:KdS prog w α} {A:Around} {E:VP} {s:Shared} {S:Addr} {ep:Nat} {o:Obj} {es:Array (Int×Value)} {t:SetTable}
end
section
variable {prog:Program} {w:World} {A:Around} {E:VP} {s:Shared}
end
section
variable {X:Cx}
end
end L3
namespace L3
open PySem PySem.Spec PyProof.Rows L2 HT
section
variable {prog:Program} {w:World} {A:Around} {E:VP} {s:Shared}
theorem zf2 {f:Nat->Option Value} {g:Nat->Value}:∀ {l:List Nat},(∀ m∈l,f m=some (g m))->l.filterMap f=l.map g
 | [],_=>rfl
 |a::l,h=>by
  rw[List.filterMap_cons_some (h a zzT),zzU,zf2 λm hm=>h m (Zi _ hm)]
theorem zaW (xs:Array Value):((List.range xs.size).filterMap λ(m:Nat)=>xs[(((xs.size:Int)-1)+(m:Int) * (-1)).toNat]?).toArray=xs.toList.reverse.toArray:=by
 congr 1;rw[zf2 (g:=λm=>xs.toList.reverse.getD m Value.none)]
 .have:=jB Value.none xs.toList.reverse;rw[Zak,Zav] at this;exact this
 .intro m hm;have hm:m<xs.size:=ZaL.mp hm;have e1:(((xs.size:Int)-1)+(m:Int) * (-1)).toNat=xs.size-1-m:=by omega
  have h2:xs.size-1-m<xs.size:=by omega
  rw[e1,Array.getElem?_eq_getElem h2,List.getD_eq_getElem?_getD,List.getElem?_reverse (by simpa using hm)];simp[h2]
theorem zcj {sl:Addr} {n:Nat} {t:Tok} {Q:Int×Int×Nat->Shared->Prop} (hs:s.heap.IsSliceOf sl .none .none (.int (-1) t)) (h:Q ((n:Int)-1,-1,n) s):wpAny 'd' A (Builtin.Slice.sliceApplied (.ref sl) (pure (n:Int))) Q E s:=by
 obtain⟨os,hos,hcs,hds⟩:=id hs;unfold Builtin.Slice.sliceApplied Builtin.Slice.sliceFields;refine Za (Za (ZR hos hds (x:=.none) rfl (Za (ZR hos hds (x:=.none) rfl (Za (ZR hos hds (x:=.int (-1) t) rfl (Zc ?_)))))));refine Za (slicePart_int ?_);show wpAny 'd' _ (if((-1:Int)==0)=true then _ else _) _ _ s;rw[if_neg 'c'];refine Za (ZbA (Za (ZbA (Za (Zc ?_)))))
 have e:Builtin.Slice.slicePlaces ((n:Int)-1) (-1) (-1)=n:=by
  unfold Builtin.Slice.slicePlaces;rw[if_neg 'c',show(-(-1):Int)=1 from rfl,Int.ediv_one]
  split<;>omega
 show wpAny 'd' _ (pure ((n:Int)-1,(-1:Int),Builtin.Slice.slicePlaces ((n:Int)-1) (-1) (-1))) _ _ s;rw[e];exact Zc h
theorem zhA {t sl:Addr} {items:Array Value} {tk:Tok} {Q:VP} (ht:IsTup s.heap t items) (hs:s.heap.IsSliceOf sl .none .none (.int (-1) tk)) (hsz:items.size<=sizeLine)
  (h:Q (.ref s.heap.objs.size) {s with heap:=s.heap.push { cls:=.type "tuple", data:=.seq items.toList.reverse.toArray}}):wpAny 'd' A (getItem (.ref t) (.ref sl)) Q E s:=by
 obtain⟨os,hos,hcs,hds⟩:=id hs;have hTs:s.TypeIs (.ref sl) "slice" := ⟨os,hos,hcs⟩
 have hok:sizeOk (.seq items.toList.reverse.toArray):=by
  show items.toList.reverse.toArray.size<=sizeLine;rw[zzS,Zak,Zav];exact hsz
 unfold getItem
 try with_reducible refine ZO ?_
 first|refine Za (Zc ?_)|skip
 refine Za (Za6 ht.typeIs 'c' ?_);refine Za (ZN (name:=Str.ofString "__getitem__") ht.typeIs ZB (ZP ZB ht.typeIs Zbk ?_ (Zbu _ _)));refine Za (m:=Builtin.Tuple.tupleItemsOf (.ref t)) (Zb7 ht ?_);refine Za (Zbv hTs ?_);rw[if_pos 'c'];refine Za (zcj hs ?_);dsimp only;rw[if_neg 'g',zaW]
 first
  |exact Za (m:=Builtin.Tuple.tupleExact _) (Z5 (Zc ⟨_,rfl,Zc h⟩) hok)
  |exact Za (Za (m:=Builtin.Tuple.tupleExact _) (Z5 (Zc ⟨_,rfl,Zc h⟩) hok))
end
noncomputable def rvM:Scope->Expr->Option (List Expr):=λ_ e=>match e with
 | .Subscript l (.Slice none none (some (.UnaryOp .USub (.Constant (.int i) _ _) _)) _) _=>if i=1 then some [l] else none
 |_=>none
noncomputable def rvS:RS:=λws G Q=>match ws with
 | [.tup xs]=>Q (.tup xs.reverse) G
 | [.ref p]=>∃ xs,yN G p=some xs/\∀ r,G r=none->Q (.ref r) (put G r (.lst xs.reverse))
 |_=>False
theorem zeg:wH rvS:=by
 intro ws G Q Q' k h;unfold rvS at h ⊢
 split at h
 .exact k _ _ h
 .obtain ⟨xs,e,h⟩:=h;exact⟨xs,e,λr hr=>k _ _ (h r hr)⟩
 .exact h.elim
theorem zeu (xs:Array Value):slicePick xs none none (some (-1))=xs.toList.reverse.toArray:=by
 rw[← zaW];unfold slicePick sliceBounds sliceRange;congr 1;simp only[Option.getD_some,show ¬ ((-1:Int) > 0) by decide,if_false]
 have e:(if(xs.size:Int)-1 > -1 then((xs.size:Int)-1 - -1 - -1-1) / - -1 else 0).toNat=xs.size:=by
  rw[show(- -1:Int)=1 from rfl,Int.ediv_one]
  split<;>omega
 rw[e,Zbp];congr 1
 funext m
 show xs[(((xs.size:Int)-1)+(-1) * (m:Int)).toNat]?=_;rw[Int.mul_comm]
theorem zgG {sc:Scope} {e:Expr} {xs:List Expr} (h:rvM sc e=some xs):∃ l a p1 p3 p2 pos,e=.Subscript l (.Slice none none (some (.UnaryOp .USub (.Constant (.int 1) a p1) p3)) p2) pos/\xs=[l]:=by
 unfold rvM at h
 split at h
 .rename_i l i a p1 p3 p2 pos
  split at h
  .rename_i hb;subst hb;cases h;exact⟨l,a,p1,p3,p2,pos,rfl,rfl⟩
  .cases h
 .cases h
theorem yW.reverse {vs:List V} {us:List Value} (h:yW vs us):yW vs.reverse us.reverse:=by
 induction h with
 |nil=>exact .nil
 |cons a _ ih=>rw[Zat,Zat];exact ih.append (.cons a .nil)
theorem sx_rv {q:Pr} {A:Around}:SxE (q.at A) ⟨rvM,rvS⟩:=by
 intro X fits e xs es he each hn pa;obtain⟨l,k,p1,p3,p2,pos,rfl,rfl⟩:=zgG (sc:=X.env.scope) he
 match es,each with
 | [t],each =>
  refine⟨λpins s σ H Q I h=>?_,λ_=>rfl,λ_ _ _ z=>nomatch z⟩;obtain⟨σ3,G,hs,ab,h⟩:=h;refine Subscript_ (thn (each.2.1 pins s σ H (λv H1=>∃ ys vs a G1,v=.ref a/\yY X.K H1 ys vs/\xP X.K H1 G1/\yO X.K H H1/\((sP X.K H1 a vs/\jT X.K H Q (.tup ys.reverse) G1)\/(sL X.K H1 a vs/\∀ r,G1 r=none->jT X.K H Q (.ref r) (put G1 r (.lst ys.reverse))))) I ⟨σ3,G,hs,ab,each.1 σ3 G _ _ (λw G1 h=>?_) h⟩) λv s1 ⟨x,H1,I1,r1,q1⟩=>?_)
  .intro v H1 g1 rv a1;have h:rvS [w] G1 (jT X.K H Q):=h;unfold rvS at h
   split at h
   .rename_i ys ew;cases ew;obtain⟨a,vs,rfl,sq,rr⟩:=rv;exact⟨ys,vs,a,G1,rfl,rr,a1,g1,.inl ⟨sq,h⟩⟩
   .rename_i p ew;cases ew;obtain⟨ys,e,h⟩:=h;cases(show v=.ref p from rv);obtain⟨vs,sq,rr⟩:=a1.seq e;exact⟨ys,vs,p,G1,rfl,rr,a1,g1,.inr ⟨sq,h⟩⟩
   .exact h.elim
  .obtain ⟨ys,vs,a,G1,rfl,rr,a1,g1,q⟩:=q1;cases(show v=Value.ref a from r1);refine wpAny_Slice ?_;rw[Zb3];refine Zc (Zc ?_);rw[evalPart_some];refine thn (zjb (pos:=p3) zfx (zfR (i:=1) (j:=k) (pos:=p1)) pins s1 σ H1 (λv H2=>v=.int (-1)/\H2=H1) I1 ⟨1,rfl,rfl,rfl⟩) λu s2 ⟨y,H2,I2,r2,e1,e2⟩=>?_;subst e1 e2;obtain⟨tk,rfl⟩:=r2;have I3:Inv X pins σ H2 {s2 with heap:=s2.heap.push { cls:=.type "slice", data:=.fields #[.none,.none,.int (-1) tk]}}:=I2.kept (t':=s2.toks) λb ob q=>Zb _ q;show wpAny 'b' X.A (subscriptTail l (.Slice none none (some (.UnaryOp .USub (.Constant (.int 1) k p1) p3)) p2) (.ref a) (.ref s2.heap.objs.size)) (EP X pins σ Q) X.xe {s2 with heap:=s2.heap.push { cls:=.type "slice", data:=.fields #[.none,.none,.int (-1) tk]}};have hsl:=Heap.IsSliceOf.new s2.heap .none .none (.int (-1) tk);have sz:s2.heap.objs.size<(s2.heap.push { cls:=.type "slice", data:=.fields #[.none,.none,.int (-1) tk]}).objs.size:=by rw[ZH];exact Zbe _
   generalize s2.heap.push { cls:=.type "slice", data:=.fields #[.none,.none,.int (-1) tk]}=h0 at I3 hsl sz ⊢;have hn:H2 h0.objs.size=none:=I3.hok.fresh (zzR _);rcases q with⟨sq,q⟩|⟨sq,q⟩
   .obtain ⟨its,vv,ht,hz⟩:=I3.tuple sq;have hlen:its.toArray.size=vs.length:=by rw[zzS];exact vv.length.symm
    refine Zb6 (ops:=[.ref a,.ref s2.heap.objs.size]) ht.typeIs ZB.lookup (zhA ht hsl (by rw[hlen];exact hz) ?_) (by with_unfolding_all rfl);refine⟨.ref _,_,I3.laid (t':=s2.toks) (o:=.tup vs.reverse) (λb ob q=>Zb _ q) (zzR _) ⟨by rw[Zak];exact hz,its.reverse,vv.reverse,?_⟩,rfl,?_⟩
    .have:=IsTup.new h0 its.reverse.toArray;simpa using this
    .have g2:yO X.K H2 (yG H2 h0.objs.size (.tup vs.reverse)):=yB hn;exact q _ _ (g1.trans g2) ⟨_,_,rfl,sP.of yI,rr.reverse.mono g2⟩ (a1.tup hn)
   .obtain ⟨its,vv,pl,hz⟩:=I3.list sq;have hlen:its.toArray.size=vs.length:=by rw[zzS];exact vv.length.symm
    have ht:=pl.isList;refine Zb6 (ops:=[.ref a,.ref s2.heap.objs.size]) ht.typeIs list_getitem_lookup (wpAny_getItem_list_slice ht hsl .none .none (.int (-1) tk) 'g' ?_ (by rw[hlen];exact hz)) (by with_unfolding_all rfl);rw[zeu];refine⟨.ref _,_,I3.laid (t':=s2.toks) (o:=.lst vs.reverse) (λb ob q=>Zb _ q) (zzR _) ⟨by rw[Zak];exact hz,its.reverse,0,vv.reverse,?_⟩,rfl,?_⟩
    .simpa using Zl h0 (o:={ cls:=.type "list", data:=.seq its.reverse.toArray}) rfl
    .exact qN (Q:=Q) a1 rr.reverse (λp hp v' H' g'=>q p hp v' H' (g1.trans g')) _ hn
end L3
namespace L3
open PySem PySem.Spec PyProof.Rows L2 PySem.SeqAt
section
variable {n:Nat} {lt:Nat->Nat->Bool}
end
mutual
noncomputable def st:W->Bool
 | .str _=>true
 | .tup ws=>decide (ws.length<=1000)&&sts ws
 |_=>false
noncomputable def sts:List W->Bool
 | []=>true
 |w::ws=>st w&&sts ws
end
theorem cJ {ws:List W}:st (.tup ws)=true↔ws.length<=1000/\sts ws=true:=by simp only[st,Zm,decide_eq_true_eq]
theorem tM {w:W} {ws:List W}:sts (w::ws)=true↔st w=true/\sts ws=true:=by simp only[sts,Zm]
theorem ziF:∀ w:W,st w=true->pur w=true:=by
 intro w
 induction w using W.ind with
 |tup ws ih =>
  intro h;show yH ws=true;replace h:sts ws=true:=(cJ.mp h).2
  induction ws with
  |nil=>rfl
  |cons x xs ih' =>
   have h':=tM.mp h;exact yA.mpr ⟨ih x zzT h'.1,ih' (λw hw=>ih w (Zi _ hw)) h'.2⟩
 |str _=>intro _;rfl
 |non=>intro h;cases h
 |bl _=>intro h;cases h
 |int _=>intro h;cases h
 |ty _=>intro h;cases h
 |ref _=>intro h;cases h
 |lsf _=>intro h;cases h
 |exc _ _ _=>intro h;cases h
 |dcf _ _=>intro h;cases h
theorem st_eq:∀ a b:W,st a=true->xE a b=true->a=b:=by
 intro a
 induction a using W.ind with
 |tup xs ih =>
  intro b h e
  cases b with
  |tup ys =>
   replace h:sts xs=true:=(cJ.mp h).2;replace e:yS xs ys=true:=e;congr 1
   induction xs generalizing ys with
   |nil=>cases ys with
    |nil=>rfl
    |cons _ _=>cases e
   |cons x xs ih'=>cases ys with
    |nil=>cases e
    |cons y ys =>
     have h':=tM.mp h;simp only[yS,Zm] at e;rw[ih x zzT y h'.1 e.1,ih' (λw hw=>ih w (Zi _ hw)) ys h'.2 e.2]
  |_=>cases e
 |str x =>
  intro b h e
  cases b with
  |str y=>rw[eq_of_beq (show(x==y)=true from e)]
  |_=>cases e
 |non=>intro _ h;cases h
 |bl _=>intro _ h;cases h
 |int _=>intro _ h;cases h
 |ty _=>intro _ h;cases h
 |ref _=>intro _ h;cases h
 |lsf _=>intro _ h;cases h
 |exc _ _ _=>intro _ h;cases h
 |dcf _ _=>intro _ h;cases h
theorem st_ne {a b:W} (ha:st a=true) (h:a≠b):xE a b=false:=by
 cases e:xE a b with
 |false=>rfl
 |true=>exact absurd (st_eq a b ha e) h
theorem st_rf {a:W} (ha:st a=true):xE a a=true:=uZ (ziF a ha)
theorem zcR {x:W} {xs ys:List W} (hx:st x=true):kH (x::xs) (x::ys)=kH xs ys:=by simp only[kH,st_rf hx,if_true]
theorem dR {x y:W} {xs ys:List W} (hx:st x=true) (h:x≠y):kH (x::xs) (y::ys)=tD x y:=by
 simp only[kH];rw[st_ne hx h];exact if_neg 'c'
theorem zgC {x y:Str} (h:x.cps.toList=y.cps.toList):x=y:=by
 obtain⟨⟨a⟩⟩:=x;obtain⟨⟨b⟩⟩:=y;cases(show a=b from h);rfl
theorem zjA:∀ a b:W,st a=true->st b=true->tD a b=some false->a=b\/tD b a=some true:=by
 intro a
 induction a using W.ind with
 |tup xs ih =>
  intro b h hb e
  cases b with
  |tup ys =>
   replace h:sts xs=true:=(cJ.mp h).2;replace hb:sts ys=true:=(cJ.mp hb).2;replace e:kH xs ys=some false:=e;show W.tup xs=W.tup ys\/kH ys xs=some true;rw[W.tup.injEq]
   induction xs generalizing ys with
   |nil=>cases ys with
    |nil=>exact .inl rfl
    |cons _ _=>cases e
   |cons x xs ih'=>cases ys with
    |nil=>exact .inr rfl
    |cons y ys =>
     have h':=tM.mp h;have hb':=tM.mp hb
     by_cases q:x=y
     .subst q;rw[zcR h'.1] at e ⊢;rcases ih' (λw hw=>ih w (Zi _ hw)) ys h'.2 hb'.2 e with r|r
      .exact .inl (by rw[r])
      .exact .inr r
     .rw[dR h'.1 q] at e;rw[dR hb'.1 (Ne.symm q)];rcases ih x zzT y h'.1 hb'.1 e with r|r
      .exact absurd r q
      .exact .inr r
  |_=>cases e
 |str x =>
  intro b _ hb e
  cases b with
  |str y =>
   simp only[tD,Option.some.injEq,decide_eq_true_eq,decide_eq_false_iff_not] at e ⊢
   by_cases q:y.cps.toList<x.cps.toList
   .exact .inr q
   .exact .inl (by rw[zgC (List.le_antisymm (List.not_lt.mp q) (List.not_lt.mp e))])
  |_=>cases e
 |non=>intro _ h;cases h
 |bl _=>intro _ h;cases h
 |int _=>intro _ h;cases h
 |ty _=>intro _ h;cases h
 |ref _=>intro _ h;cases h
 |lsf _=>intro _ h;cases h
 |exc _ _ _=>intro _ h;cases h
 |dcf _ _=>intro _ h;cases h
end L3
namespace K57
open PySem PySem.Spec L2 L3
noncomputable def gR (i:Nat):Stmt:=PySem.Challenge.pw_talkcourt_k57_each_condition_broken_alon.main.body.getD i (.Pass ⟨0,0,0,0⟩)
noncomputable def gls:List Str:=["WHYS", "ValueError", "NoText", "NoBook", "NotLet", "NoMove", "NoPlan", "NoTalker", "NoPaper", "NoWeb", "NoRow", "NoName"]
noncomputable def mts:List Str:=["pop", "join", "append", "extend"]
noncomputable def its:List Str:=["range", "zip", "enumerate"]
noncomputable def sxm:List (Scope->Expr->Option (List Expr)):=[lofM "reversed", xfM "row", getM "WHYS", rvM]
noncomputable def fns:List Str:=(["max", "len", "all", "list", "isinstance", "sorted", "tuple", "int", "_law_deal", "_law_draw", "_law_names", "_law_row", "_law_base", "_law_saying", "_law_plain_rows", "_law_letting_rows", "sort_of", "made_of", "taken_from", "why_lets"]:List Str)++(["is_rising", "let_go", "is_good", "checked", "_law_told", "_law_gone", "_law_is_good", "_law_forms", "law"]:List Str)
noncomputable def mC (s:Stmt) (N:List Str) (k:Nat):MC:=⟨zH s,N,λ_=>true,fns.take k,gls,mts,its,sxm,[]⟩
noncomputable abbrev wS:Stmt:=zhs (gR 8) 0
noncomputable def gJ:List Str:=["self", "row"]
theorem nW:FnScope gJ ["self", "row"] (zH wS):='a'
noncomputable abbrev jD:Stmt:=gR 24
noncomputable def mZ:List Str:=["_law_script", "_law_base_here", "_law_cells", "_law_number", "_law_cell"]
noncomputable def zbQ:ISs:={.asg 2 (.lc (.nm 0) ["_law_cell"] [] (.val (.sl 'j' (.yes (.var 1)) (.yes 63⁻¹))) .no (.call 0 {.var 0,.bin .Sub 0⁻¹ 'j'})),.asg 3 (.bin .Add 7919⁻¹ (.var 1)),.for (.nm 4) (.val (.var 2)) {.asg 3 (.bin .Mod (.bin .Add (.bin .Mult (.var 3) 69621⁻¹) (.bin .Mod (.var 4) 2147483629⁻¹)) 2147483647⁻¹)},.ret (.dct ["seed", "number", "left"] {.var 3,0⁻¹,.spc 0 {.lc (.nm 0) ["_law_cell"] [] (.val (.var 2)) (.yes (.cmp .GtE 'j' (.bin .Pow 10⁻¹ 18⁻¹))) 'j'}})}
noncomputable def mP:MC:=mC jD mZ 8
theorem zal:FnScope mZ ["_law_script", "_law_base_here"] (zH jD):='a'
theorem gE:vP zbQ mP (yX jD)=true:=by decide +kernel
noncomputable abbrev jE:Stmt:=gR 25
noncomputable def nA:List Str:=["_law_deal_here", "_law_many", "_law_number", "_law_one", "_law_other"]
noncomputable def zbP:ISs:={.whl (.and (.cmp .Eq (.ix 'j' "number"⁻¹) 0⁻¹) (.cmp .Gt (.call 1 {.ix 'j' "left"⁻¹}) 0⁻¹)) {.asgI 'j' "number"⁻¹ (.mth 0 (.ix 'j' "left"⁻¹) .nil)},.asg 2 (.ix 'j' "number"⁻¹),.ite (.cmp .Gt (.var 2) 0⁻¹) {.asgI 'j' "number"⁻¹ (.bin .FloorDiv (.var 2) (.var 1)),.ret (.bin .Mod (.var 2) (.var 1))} .nil,.asg 3 (.bin .Mod (.bin .Add (.bin .Mult (.ix 'j' "seed"⁻¹) 48271⁻¹) 7919⁻¹) 2147483647⁻¹),.asgI 'j' "seed"⁻¹ (.bin .Mod (.bin .Add (.bin .Mult (.var 3) 40692⁻¹) 104729⁻¹) 2147483399⁻¹),.asg 4 (.bin .Mod (.bin .Mult (.ix 'j' "seed"⁻¹) (.ix 'j' "seed"⁻¹)) 2147483563⁻¹),.ret (.bin .Mod (.bin .Add (.bin .Mult (.bin .Mod (.bin .Mult (.var 3) (.var 3)) 2147483629⁻¹) 2147483563⁻¹) (.var 4)) (.var 1))}
noncomputable def mQ:MC:=mC jE nA 9
theorem zak:FnScope nA ["_law_deal_here", "_law_many"] (zH jE):='a'
theorem gF:vP zbP mQ (yX jE)=true:=by decide +kernel
noncomputable abbrev jV:Stmt:=gR 26
noncomputable def vG:List Str:=["_law_deal_here", "_law_many", "_law_letters", "_law_names_here", "_law_core", "_law_at", "_law_turn", "_law_k", "_law_name"]
noncomputable def wZ:ISs:={.asg 2 "abcdefghijklmnopqrstuvwxyz"⁻¹,.asg 3 (.lst .nil),.asg 4 (.mth 1 ""⁻¹ {.lc (.nm 0) ["_law_k"] [2,0] (.blt 0 {.call 9 {.var 0,5⁻¹}}) .no (.ix (.var 1) (.call 9 {.var 2,26⁻¹}))}),.asg 5 (.call 9 {.var 0,.bin .Add (.call 1 {.var 4}) 1⁻¹}),.asg 6 (.call 9 {.var 0,26⁻¹}),.for (.nm 7) (.blt 0 {.var 1}) {.asg 8 (.bin .Add (.bin .Add (.sl (.var 4) .no (.yes (.var 5))) (.ix (.var 2) (.bin .Mod (.bin .Add (.var 6) (.bin .Mult 7⁻¹ (.var 7))) 26⁻¹))) (.sl (.var 4) (.yes (.var 5)) .no)),.ite (.cmp .In (.var 8) (.tup {"and"⁻¹,"or"⁻¹,"not"⁻¹,"then"⁻¹})) {.asg 8 (.bin .Add (.var 8) "q"⁻¹)} .nil,.ex (.mth 2 (.var 3) {.var 8})},.ite (.and (.cmp .Gt (.var 1) 1⁻¹) (.cmp .Eq (.call 9 {.var 0,2⁻¹}) 1⁻¹)) {.asgI (.var 3) 0⁻¹ (.bin .Add (.ix (.var 3) 0⁻¹) "z"⁻¹)} .nil,.ret (.var 3)}
noncomputable def rS:MC:=mC jV vG 10
theorem bZ:FnScope vG ["_law_deal_here", "_law_many"] (zH jV):='a'
theorem mJ:vP wZ rS (yX jV)=true:=by decide +kernel
noncomputable abbrev kX:Stmt:=gR 31
noncomputable def sB:List Str:=["_law_said", "_law_why", "_law_above", "_law_given"]
noncomputable def uR:ISs:={.ret (.tup {.call 6 {.call 5 {.lc (.tup {.nm 0,.nm 1}) ["_law_k", "_law_one"] [3] (.blt 2 {.var 3}) (.yes (.cmp .NotIn (.var 1) (.sl (.var 2) .no (.yes 'j')))) (.var 1)}},.var 0,.var 1,.var 2})}
noncomputable def dS:MC:=mC kX sB 11
theorem zby:FnScope sB ["_law_said", "_law_why", "_law_above", "_law_given"] (zH kX):='a'
theorem bF:vP uR dS (yX kX)=true:=by decide +kernel
noncomputable abbrev jC:Stmt:=gR 32
noncomputable def tY:List Str:=["_law_x", "_law_y", "_law_z", "_law_both", "_law_either", "_law_leads", "_law_no", "_law_rows"]
noncomputable def wN:ISs:={.asgT {.nm 3,.nm 4,.nm 5,.nm 6} (.tup {.tup {"and"⁻¹,.var 0,.var 1},.tup {"or"⁻¹,.var 0,.var 1},.tup {"if"⁻¹,.var 0,.var 1},.tup {"not"⁻¹,.var 0}}),.asg 7 (.lc (.nm 0) ["_law_one"] [] (.val (.tup {.var 0,.var 1,.var 3,.var 4,.var 5,.var 6})) .no (.call 11 {.var 0,"given"⁻¹,.tup .nil,.lst {.var 0}})),.ex (.mth 2 (.var 7) {.call 11 {.con .none,"clash"⁻¹,.tup {5⁻¹,0⁻¹},.lst {.var 0,.var 6}}}),.ex (.mth 2 (.var 7) {.call 11 {.var 2,"given"⁻¹,.tup .nil,.lst {.var 2}}}),.ex (.mth 2 (.var 7) {.call 11 {.var 2,"given"⁻¹,.tup .nil,.lst {.var 0,.var 2}}}),.ex (.mth 2 (.var 7) {.call 11 {.var 2,"given"⁻¹,.tup .nil,.lst {.var 1,.var 2}}}),.ex (.mth 2 (.var 7) {.call 11 {.var 1,"given"⁻¹,.tup .nil,.lst {.var 0,.var 1}}}),.ex (.mth 2 (.var 7) {.call 11 {.var 0,"left"⁻¹,.tup {2⁻¹},.lst {.var 3}}}),.ret (.var 7)}
noncomputable def mM:MC:=mC jC tY 12
theorem zam:FnScope tY ["_law_x", "_law_y", "_law_z"] (zH jC):='a'
theorem gD:vP wN mM (yX jC)=true:=by decide +kernel
noncomputable abbrev wL:Stmt:=gR 27
noncomputable def kI:List Str:=["_law_deal_here", "_law_names_here", "_law_many", "_law_way", "_law_left", "_law_one"]
noncomputable def jK:ISs:={.ite (.cmp .Eq (.var 2) 1⁻¹) {.ret (.tup {"say"⁻¹,.ix (.var 1) (.call 9 {.var 0,.call 1 {.var 1}})})} .nil,.asg 3 (.call 9 {.var 0,4⁻¹}),.ite (.or (.cmp .Eq (.var 2) 2⁻¹) (.cmp .Eq (.var 3) 3⁻¹)) {.ret (.tup {"not"⁻¹,.call 13 {.var 0,.var 1,.bin .Sub (.var 2) 1⁻¹}})} .nil,.asg 4 (.bin .Add 1⁻¹ (.call 9 {.var 0,.bin .Sub (.var 2) 2⁻¹})),.asg 5 (.call 13 {.var 0,.var 1,.var 4}),.ret (.tup {.ix (.lst {"and"⁻¹,"or"⁻¹,"if"⁻¹}) (.var 3),.var 5,.call 13 {.var 0,.var 1,.bin .Sub (.bin .Sub (.var 2) 1⁻¹) (.var 4)}})}
noncomputable def tF:MC:=mC wL kI 14
theorem gK:FnScope kI ["_law_deal_here", "_law_names_here", "_law_many"] (zH wL):='a'
theorem rE:vP jK tF (yX wL)=true:=by decide +kernel
noncomputable abbrev xL:Stmt:=gR 33
noncomputable def wD:List Str:=["_law_x", "_law_y", "_law_z", "_law_both", "_law_either", "_law_leads", "_law_no", "_law_some"]
noncomputable def kO:ISs:={.asgT {.nm 3,.nm 4,.nm 5,.nm 6} (.tup {.tup {"and"⁻¹,.var 0,.var 1},.tup {"or"⁻¹,.var 0,.var 1},.tup {"if"⁻¹,.var 0,.var 1},.tup {"not"⁻¹,.var 0}}),.asg 7 (.lst {.tup {.var 0,"given"⁻¹,.tup .nil,.lst {.var 0}},.tup {.var 0,"given"⁻¹,.tup .nil,.lst {.var 1}},.tup {.var 0,"given"⁻¹,.tup {0⁻¹},.lst {.var 0}}}),.asg 7 (.bin .Add (.var 7) (.lst {.tup {.con .none,"given"⁻¹,.tup .nil,.lst {.var 0}},.tup {.var 3,"both"⁻¹,.tup {0⁻¹,1⁻¹},.lst {.var 0,.var 1}},.tup {.var 3,"both"⁻¹,.tup {1⁻¹,0⁻¹},.lst {.var 0,.var 1}}})),.asg 7 (.bin .Add (.var 7) (.lst {.tup {.var 3,"both"⁻¹,.tup {0⁻¹,1⁻¹},.lst {.var 0}},.tup {.tup {"and"⁻¹,.var 1,.var 0},"both"⁻¹,.tup {0⁻¹,1⁻¹},.lst {.var 0,.var 1}}})),.asg 7 (.bin .Add (.var 7) (.lst {.tup {.var 4,"both"⁻¹,.tup {0⁻¹,1⁻¹},.lst {.var 0,.var 1}},.tup {.var 3,"both"⁻¹,.tup {0⁻¹,6⁻¹},.lst {.var 0,.var 6}}})),.asg 7 (.bin .Add (.var 7) (.lst {.tup {.var 0,"left"⁻¹,.tup {2⁻¹},.lst {.var 3}},.tup {.var 1,"left"⁻¹,.tup {2⁻¹},.lst {.var 3}},.tup {.var 0,"left"⁻¹,.tup {3⁻¹},.lst {.var 4}}})),.asg 7 (.bin .Add (.var 7) (.lst {.tup {.var 0,"left"⁻¹,.tup {2⁻¹},.lst {.var 0}},.tup {.var 1,"right"⁻¹,.tup {2⁻¹},.lst {.var 3}},.tup {.var 0,"right"⁻¹,.tup {2⁻¹},.lst {.var 3}}})),.asg 7 (.bin .Add (.var 7) (.lst {.tup {.var 1,"right"⁻¹,.tup {4⁻¹},.lst {.var 5}},.tup {.var 0,"left"⁻¹,.tup {6⁻¹},.lst {.var 0,.var 6}}})),.asg 7 (.bin .Add (.var 7) (.lst {.tup {.tup {"or"⁻¹,.var 0,.var 2},"one"⁻¹,.tup {0⁻¹},.lst {.var 0}},.tup {.tup {"or"⁻¹,.var 2,.var 0},"one"⁻¹,.tup {0⁻¹},.lst {.var 0}}})),.asg 7 (.bin .Add (.var 7) (.lst {.tup {.tup {"and"⁻¹,.var 0,.var 2},"one"⁻¹,.tup {0⁻¹},.lst {.var 0}},.tup {.tup {"or"⁻¹,.var 2,.var 0},"two"⁻¹,.tup {0⁻¹},.lst {.var 0}}})),.asg 7 (.bin .Add (.var 7) (.lst {.tup {.tup {"or"⁻¹,.var 0,.var 2},"two"⁻¹,.tup {0⁻¹},.lst {.var 0}},.tup {.tup {"if"⁻¹,.var 2,.var 0},"two"⁻¹,.tup {0⁻¹},.lst {.var 0}}})),.asg 7 (.bin .Add (.var 7) (.lst {.tup {.var 1,"use"⁻¹,.tup {4⁻¹,0⁻¹},.lst {.var 5,.var 0}},.tup {.var 1,"use"⁻¹,.tup {0⁻¹,4⁻¹},.lst {.var 5,.var 0}}})),.asg 7 (.bin .Add (.var 7) (.lst {.tup {.var 0,"use"⁻¹,.tup {4⁻¹,0⁻¹},.lst {.var 5,.var 0}},.tup {.var 1,"use"⁻¹,.tup {4⁻¹,1⁻¹},.lst {.var 5,.var 1}}})),.asg 7 (.bin .Add (.var 7) (.lst {.tup {.var 1,"use"⁻¹,.tup {2⁻¹,0⁻¹},.lst {.var 3,.var 0}},.tup {.var 1,"use"⁻¹,.tup {4⁻¹,0⁻¹},.lst {.var 5}}})),.asg 7 (.bin .Add (.var 7) (.lst {.tup {.con .none,"clash"⁻¹,.tup {5⁻¹,0⁻¹},.lst {.var 0,.var 6}},.tup {.con .none,"clash"⁻¹,.tup {0⁻¹,5⁻¹},.lst {.var 0,.var 6}}})),.asg 7 (.bin .Add (.var 7) (.lst {.tup {.con .none,"clash"⁻¹,.tup {5⁻¹,1⁻¹},.lst {.var 1,.var 6}},.tup {.var 2,"clash"⁻¹,.tup {5⁻¹,0⁻¹},.lst {.var 0,.var 6}}})),.asg 7 (.bin .Add (.var 7) (.lst {.tup {.con .none,"clash"⁻¹,.tup {4⁻¹,0⁻¹},.lst {.var 5,.var 0}},.tup {.con .none,"clash"⁻¹,.tup {5⁻¹,0⁻¹},.lst {.var 6}}})),.asg 7 (.bin .Add (.var 7) (.lst {.tup {.var 2,"all"⁻¹,.tup {6⁻¹},.lst {.var 0,.var 6}},.tup {.con .none,"all"⁻¹,.tup {6⁻¹},.lst {.var 0,.var 6}},.tup {.var 2,"all"⁻¹,.tup {0⁻¹},.lst {.var 0}}})),.asg 7 (.bin .Add (.var 7) (.lst {.tup {.var 2,"all"⁻¹,.tup {6⁻¹},.lst {.var 0}}})),.ret (.lc (.tup {.nm 0,.nm 1,.nm 2,.nm 3}) ["_law_said", "_law_why", "_law_above", "_law_given"] [] (.val (.var 7)) .no (.call 11 {.var 0,.var 1,.var 2,.var 3}))}
noncomputable def kT:MC:=mC xL wD 14
theorem tH:FnScope wD ["_law_x", "_law_y", "_law_z"] (zH xL):='a'
theorem uO:vP kO kT (yX xL)=true:=by decide +kernel
noncomputable abbrev xY:Stmt:=gR 34
noncomputable def wO:List Str:=["_law_x", "_law_y", "_law_z", "_law_both", "_law_either", "_law_leads", "_law_no", "_law_some"]
noncomputable def qV:ISs:={.asgT {.nm 3,.nm 4,.nm 5,.nm 6} (.tup {.tup {"and"⁻¹,.var 0,.var 1},.tup {"or"⁻¹,.var 0,.var 1},.tup {"if"⁻¹,.var 0,.var 1},.tup {"not"⁻¹,.var 0}}),.asg 7 (.lst {.tup {.var 2,"cases"⁻¹,.tup {3⁻¹,8⁻¹,9⁻¹},.lst {.var 4,.var 2}},.tup {.var 2,"cases"⁻¹,.tup {3⁻¹,9⁻¹,8⁻¹},.lst {.var 4,.var 2}}}),.asg 7 (.bin .Add (.var 7) (.lst {.tup {.var 2,"cases"⁻¹,.tup {2⁻¹,8⁻¹,9⁻¹},.lst {.var 3,.var 2}},.tup {.var 2,"cases"⁻¹,.tup {3⁻¹,0⁻¹,9⁻¹},.lst {.var 4,.var 2,.var 0}}})),.asg 7 (.bin .Add (.var 7) (.lst {.tup {.var 2,"cases"⁻¹,.tup {3⁻¹,8⁻¹,1⁻¹},.lst {.var 4,.var 2,.var 1}},.tup {.var 2,"cases"⁻¹,.tup {3⁻¹,8⁻¹,9⁻¹},.lst {.var 2}}})),.asg 7 (.bin .Add (.var 7) (.lst {.tup {.var 2,"cases"⁻¹,.tup {3⁻¹,8⁻¹,9⁻¹},.lst {.var 4}},.tup {.var 0,"cases"⁻¹,.tup {3⁻¹,8⁻¹,9⁻¹},.lst {.var 4,.var 2}}})),.asg 7 (.bin .Add (.var 7) (.lst {.tup {.var 5,"then"⁻¹,.tup {10⁻¹},.lst {.var 1}},.tup {.var 5,"then"⁻¹,.tup {10⁻¹},.lst {.var 0}}})),.asg 7 (.bin .Add (.var 7) (.lst {.tup {.tup {"if"⁻¹,.var 2,.var 1},"then"⁻¹,.tup {10⁻¹},.lst {.var 1}},.tup {.tup {"if"⁻¹,.var 0,.var 2},"then"⁻¹,.tup {10⁻¹},.lst {.var 1}}})),.asg 7 (.bin .Add (.var 7) (.lst {.tup {.var 3,"then"⁻¹,.tup {10⁻¹},.lst {.var 1}},.tup {.tup {"if"⁻¹,.var 1,.var 0},"then"⁻¹,.tup {10⁻¹},.lst {.var 0}},.tup {.var 6,"not"⁻¹,.tup {6⁻¹},.lst {.var 6}}})),.asg 7 (.bin .Add (.var 7) (.lst {.tup {.tup {"not"⁻¹,.var 1},"not"⁻¹,.tup {6⁻¹},.lst {.var 6}},.tup {.var 6,"not"⁻¹,.tup {0⁻¹},.lst {.var 0}},.tup {.var 0,"not"⁻¹,.tup {6⁻¹},.lst {.var 6}}})),.asg 7 (.bin .Add (.var 7) (.lst {.tup {.var 6,"not"⁻¹,.tup {6⁻¹},.lst .nil},.tup {.var 6,"not"⁻¹,.tup {10⁻¹},.lst {.var 1}},.tup {.con .none,"not"⁻¹,.tup {6⁻¹},.lst {.var 0,.var 6}}})),.asg 7 (.bin .Add (.var 7) (.lst {.tup {.var 2,"put"⁻¹,.tup {11⁻¹,8⁻¹},.lst {.var 3,.var 2}},.tup {.var 2,"put"⁻¹,.tup {8⁻¹,11⁻¹},.lst {.var 3,.var 0,.var 2}}})),.asg 7 (.bin .Add (.var 7) (.lst {.tup {.var 2,"put"⁻¹,.tup {6⁻¹,8⁻¹},.lst {.var 0,.var 6,.var 2}},.tup {.var 2,"put"⁻¹,.tup {11⁻¹,1⁻¹},.lst {.var 3,.var 1}},.tup {.var 2,"put"⁻¹,.tup {11⁻¹,8⁻¹},.lst {.var 2}}})),.asg 7 (.bin .Add (.var 7) (.lst {.tup {.var 2,"put"⁻¹,.tup {11⁻¹,8⁻¹},.lst {.var 3}},.tup {.var 2,"put"⁻¹,.tup {1⁻¹,8⁻¹},.lst {.var 1,.var 2}}})),.ret (.lc (.tup {.nm 0,.nm 1,.nm 2,.nm 3}) ["_law_said", "_law_why", "_law_above", "_law_given"] [] (.val (.var 7)) .no (.call 11 {.var 0,.var 1,.var 2,.var 3}))}
noncomputable def qZ:MC:=mC xY wO 15
theorem uP:FnScope wO ["_law_x", "_law_y", "_law_z"] (zH xY):='a'
theorem vR:vP qV qZ (yX xY)=true:=by decide +kernel
noncomputable abbrev vN:Stmt:=gR 21
noncomputable def nP:List Str:=["said"]
noncomputable def sU:ISs:={.ret (.ite (.cmp .Is 'j' (.con .none)) (.con .none) (.ix 'j' 0⁻¹))}
noncomputable def za5:MC:=mC vN nP 16
theorem zcn:FnScope nP ["said"] (zH vN):='a'
theorem zaq:vP sU za5 (yX vN)=true:=by decide +kernel
noncomputable abbrev vL:Stmt:=gR 19
noncomputable def nK:List Str:=["why", "said", "told"]
noncomputable def sT:ISs:={.ite (.cmp .Eq 'j' "both"⁻¹) {.ret (.and (.cmp .Eq (.call 16 {.var 1}) "and"⁻¹) (.cmp .Eq (.call 3 {.sl (.var 1) (.yes 1⁻¹) .no}) (.var 2)))} .nil,.ite (.cmp .Eq 'j' "one"⁻¹) {.ret (.and (.cmp .Eq (.call 16 {.var 1}) "or"⁻¹) (.cmp .Eq (.ix (.var 1) 1⁻¹) (.ix (.var 2) 0⁻¹)))} .nil,.ite (.cmp .Eq 'j' "two"⁻¹) {.ret (.and (.cmp .Eq (.call 16 {.var 1}) "or"⁻¹) (.cmp .Eq (.ix (.var 1) 2⁻¹) (.ix (.var 2) 0⁻¹)))} .nil,.ite (.cmp .Eq 'j' "then"⁻¹) {.ret (.and (.cmp .Eq (.call 16 {.var 1}) "if"⁻¹) (.cmp .Eq (.ix (.var 1) 2⁻¹) (.ix (.var 2) 0⁻¹)))} .nil,.ret (.and (.cmp .Eq (.call 16 {.var 1}) "not"⁻¹) (.cmp .Is (.ix (.var 2) 0⁻¹) (.con .none)))}
noncomputable def za7:MC:=mC vL nK 17
theorem zcp:FnScope nK ["why", "said", "told"] (zH vL):='a'
theorem zar:vP sT za7 (yX vL)=true:=by decide +kernel
noncomputable abbrev jW:Stmt:=gR 20
noncomputable def vI:List Str:=["why", "said", "told", "whole"]
noncomputable def qJ:ISs:={.asg 3 (.ix (.var 2) 0⁻¹),.ite (.cmp .Eq 'j' "left"⁻¹) {.ret (.and (.cmp .Eq (.call 16 {.var 3}) "and"⁻¹) (.cmp .Eq (.var 1) (.ix (.var 3) 1⁻¹)))} .nil,.ite (.cmp .Eq 'j' "right"⁻¹) {.ret (.and (.cmp .Eq (.call 16 {.var 3}) "and"⁻¹) (.cmp .Eq (.var 1) (.ix (.var 3) 2⁻¹)))} .nil,.ite (.cmp .Eq 'j' "use"⁻¹) {.ret (.and (.cmp .Eq (.call 16 {.var 3}) "if"⁻¹) (.and (.cmp .Eq (.ix (.var 2) 1⁻¹) (.ix (.var 3) 1⁻¹)) (.cmp .Eq (.var 1) (.ix (.var 3) 2⁻¹))))} .nil,.ret (.and (.cmp .Eq (.call 16 {.var 3}) "not"⁻¹) (.and (.cmp .Eq (.ix (.var 2) 1⁻¹) (.ix (.var 3) 1⁻¹)) (.cmp .Is (.var 1) (.con .none))))}
noncomputable def rT:MC:=mC jW vI 18
theorem cA:FnScope vI ["why", "said", "told"] (zH jW):='a'
theorem mK:vP qJ rT (yX jW)=true:=by decide +kernel
noncomputable abbrev qB:Stmt:=gR 18
noncomputable def sD:List Str:=["why", "said", "told"]
noncomputable def wC:ISs:={.ite (.cmp .In 'j' (.tup {"both"⁻¹,"one"⁻¹,"two"⁻¹,"then"⁻¹,"not"⁻¹})) {.ret (.call 17 {.var 0,.var 1,.var 2})} .nil,.ite (.cmp .In 'j' (.tup {"left"⁻¹,"right"⁻¹,"use"⁻¹,"clash"⁻¹})) {.ret (.call 18 {.var 0,.var 1,.var 2})} .nil,.ite (.cmp .Eq 'j' "all"⁻¹) {.ret (.and (.cmp .Is (.ix (.var 2) 0⁻¹) (.con .none)) (.cmp .IsNot (.var 1) (.con .none)))} .nil,.ite (.cmp .Eq 'j' "put"⁻¹) {.ret (.and (.cmp .IsNot (.ix (.var 2) 0⁻¹) (.con .none)) (.cmp .Eq (.ix (.var 2) 1⁻¹) (.var 1)))} .nil,.ret (.and (.cmp .Eq (.call 16 {.ix (.var 2) 0⁻¹}) "or"⁻¹) (.and (.cmp .Eq (.ix (.var 2) 1⁻¹) (.var 1)) (.cmp .Eq (.ix (.var 2) 2⁻¹) (.var 1))))}
noncomputable def dY:MC:=mC qB sD 19
theorem zbx:FnScope sD ["why", "said", "told"] (zH qB):='a'
theorem bG:vP wC dY (yX qB)=true:=by decide +kernel
noncomputable abbrev jH:Stmt:=gR 13
noncomputable def uC:List Str:=["things"]
noncomputable def vX:ISs:={.ret (.call 2 {.lc (.tup {.nm 0,.nm 1}) ["one", "later"] [] (.blt 1 {.var 0,.sl 'j' (.yes 1⁻¹) .no}) .no (.cmp .Lt 'j' (.var 1))})}
noncomputable def mV:MC:=mC jH uC 20
theorem zah:FnScope uC ["things"] (zH jH):='a'
theorem gI:vP vX mV (yX jH)=true:=by decide +kernel
noncomputable abbrev tL:Stmt:=gR 22
noncomputable def bO:List Str:=["why", "said", "told"]
noncomputable def vY:ISs:={.ite (.cmp .Eq 'j' "cases"⁻¹) {.ret (.lst {.tup .nil,.tup {.ix (.ix (.var 2) 0⁻¹) 1⁻¹},.tup {.ix (.ix (.var 2) 0⁻¹) 2⁻¹}})} .nil,.ite (.cmp .In 'j' (.tup {"then"⁻¹,"not"⁻¹})) {.ret (.lst {.tup {.ix (.var 1) 1⁻¹}})} .nil,.ite (.cmp .Eq 'j' "put"⁻¹) {.ret (.lst {.tup .nil,.tup {.ix (.var 2) 0⁻¹}})} .nil,.ret (.lc (.nm 0) ["saying"] [] (.val (.var 2)) .no (.tup .nil))}
noncomputable def zcP:MC:=mC tL bO 21
theorem zee:FnScope bO ["why", "said", "told"] (zH tL):='a'
theorem zbI:vP vY zcP (yX tL)=true:=by decide +kernel
noncomputable abbrev vK:Stmt:=gR 17
noncomputable def nI:List Str:=["row", "ahead", "given", "said", "why", "above", "rows", "told"]
noncomputable def sS:ISs:={.asgT {.nm 2,.nm 3,.nm 4,.nm 5} 'j',.ite (.or (.not (.call 20 {.var 2})) (.or (.cmp .NotEq (.spc 2 {.var 4}) (.call 1 {.var 5})) (.not (.call 2 {.lc (.nm 0) ["number"] [1] (.val (.var 5)) .no (.chn .LtE .Lt 0⁻¹ 'j' (.call 1 {.var 1}))})))) {.ret (.con (.bool false))} .nil,.asg 6 (.lc (.nm 0) ["number"] [1] (.val (.var 5)) .no (.ix (.var 1) 'j')),.asg 7 (.lc (.nm 0) ["other"] [] (.val (.var 6)) .no (.ix 'j' 1⁻¹)),.ite (.cmp .Eq (.var 4) "given"⁻¹) {.ret (.cmp .In (.var 3) (.var 2))} .nil,.ret (.and (.call 19 {.var 4,.var 3,.var 7}) (.call 2 {.lc2 (.tup {.nm 0,.nm 1}) (.blt 1 {.var 6,.call 21 {.var 4,.var 3,.var 7}}) (.nm 2) (.val (.ix 'j' 0⁻¹)) ["other", "gone", "saying"] [2] .no (.or (.cmp .In (.var 2) (.var 3)) (.cmp .In (.var 2) (.var 1)))}))}
noncomputable def za8:MC:=mC vK nI 22
theorem zcq:FnScope nI ["row", "ahead"] (zH vK):='a'
theorem zas:vP sS za8 (yX vK)=true:=by decide +kernel
noncomputable abbrev vJ:Stmt:=gR 16
noncomputable def nB:List Str:=["paper", "number", "row"]
noncomputable def sQ:RTs:={.ite (.not 'j') {.rse 0 {0⁻¹}} .nil,.for (.tup {.nm 1,.nm 2}) (.blt 2 {.var 0}) {.ite (.not (.call 22 {.var 2,.sl 'j' .no (.yes (.var 1))})) {.rse 0 {.var 1}} .nil},.pl (.ret (.con (.bool true)))}
noncomputable def zaL:MX:=⟨[],["NoPaper"],["TalkError"]⟩
noncomputable def za9:MC:=mC vJ nB 23
theorem zcr:FnScope nB ["paper"] (zH vJ):='a'
theorem zat:mXs za9 zaL sQ (yX vJ)=true:=by decide +kernel
noncomputable abbrev jG:Stmt:=gR 30
noncomputable def uB:List Str:=["_law_paper", "_law_told_here", "_law_caught", "e", "_law_others"]
noncomputable def vW:RTs:={.pl (.asg 1 (.con .none)),.pl (.asg 2 (.con .none)),.try 3 2 0 {.asx 1 0 {.var 0}},.pl (.ite (.cmp .Is (.var 2) (.con .none)) {.ret (.ix (.lst {"other"⁻¹,"whole"⁻¹}) (.call 7 {.cmp .Is (.var 1) (.con (.bool true))}))} .nil),.pl (.asg 4 (.lst {.call 4 {.var 2,.glb 2},.call 4 {.var 2,.glb 3},.call 4 {.var 2,.glb 4}})),.pl (.asg 4 (.bin .Add (.var 4) (.lst {.call 4 {.var 2,.glb 5},.call 4 {.var 2,.glb 6},.call 4 {.var 2,.glb 7}}))),.pl (.asg 4 (.bin .Add (.var 4) (.lst {.call 4 {.var 2,.glb 9},.call 4 {.var 2,.glb 10},.call 4 {.var 2,.glb 11}}))),.pl (.ite (.or (.cmp .In (.con (.bool true)) (.var 4)) (.or (.not (.call 4 {.var 2,.glb 8})) (.not (.call 4 {.var 2,.glb 1})))) {.ret "other"⁻¹} .nil),.pl (.ret (.spc 1 {.var 2}))}
noncomputable def pL:MX:=⟨["checked"],["NoPaper"],["TalkError"]⟩
noncomputable def mU:MC:=mC jG uB 24
theorem zai:FnScope uB ["_law_paper"] (zH jG):='a'
theorem gH:mXs mU pL vW (yX jG)=true:=by decide +kernel
noncomputable abbrev jF:Stmt:=gR 28
noncomputable def uA:List Str:=["_law_why", "_law_said", "_law_some", "_law_given", "_law_sorts", "_law_mine"]
noncomputable def yQ:ISs:={.asg 4 (.lc (.nm 0) ["_law_one"] [] (.val (.var 2)) .no (.ite (.cmp .Is 'j' (.con .none)) "none"⁻¹ (.ix 'j' 0⁻¹))),.asg 5 (.ite (.cmp .Is (.var 1) (.con .none)) "none"⁻¹ (.ix (.var 1) 0⁻¹)),.ite (.and (.cmp .Eq 'j' "given"⁻¹) (.and (.cmp .Eq (.var 2) (.lst .nil)) (.cmp .In (.var 1) (.var 3)))) {.ret (.lst .nil)} .nil,.ite (.and (.cmp .Eq 'j' "both"⁻¹) (.and (.cmp .Eq (.var 5) "and"⁻¹) (.cmp .Eq (.var 2) (.lst {.ix (.var 1) 1⁻¹,.ix (.var 1) 2⁻¹})))) {.ret (.lst {.lst .nil,.lst .nil})} .nil,.ite (.and (.cmp .In 'j' (.tup {"left"⁻¹,"right"⁻¹})) (.and (.cmp .Eq (.var 4) (.lst {"and"⁻¹})) (.cmp .Eq (.var 1) (.ix (.ix (.var 2) 0⁻¹) (.bin .Add 1⁻¹ (.call 7 {.cmp .Eq 'j' "right"⁻¹})))))) {.ret (.lst {.lst .nil})} .nil,.ite (.and (.cmp .In 'j' (.tup {"one"⁻¹,"two"⁻¹})) (.and (.cmp .Eq (.var 5) "or"⁻¹) (.cmp .Eq (.var 2) (.lst {.ix (.var 1) (.bin .Add 1⁻¹ (.call 7 {.cmp .Eq 'j' "two"⁻¹}))})))) {.ret (.lst {.lst .nil})} .nil,.ite (.and (.cmp .Eq 'j' "cases"⁻¹) (.and (.cmp .Eq (.call 1 {.var 2}) 3⁻¹) (.and (.cmp .Eq (.ix (.var 4) 0⁻¹) "or"⁻¹) (.cmp .Eq (.sl (.var 2) (.yes 1⁻¹) .no) (.lst {.var 1,.var 1}))))) {.ret (.lst {.lst .nil,.lst {.ix (.ix (.var 2) 0⁻¹) 1⁻¹},.lst {.ix (.ix (.var 2) 0⁻¹) 2⁻¹}})} .nil,.ite (.and (.cmp .Eq 'j' "then"⁻¹) (.and (.cmp .Eq (.var 5) "if"⁻¹) (.cmp .Eq (.var 2) (.lst {.ix (.var 1) 2⁻¹})))) {.ret (.lst {.lst {.ix (.var 1) 1⁻¹}})} .nil,.ite (.and (.cmp .Eq 'j' "use"⁻¹) (.and (.cmp .Eq (.call 1 {.var 2}) 2⁻¹) (.and (.cmp .Eq (.ix (.var 4) 0⁻¹) "if"⁻¹) (.cmp .Eq (.sl (.ix (.var 2) 0⁻¹) (.yes 1⁻¹) .no) (.tup {.ix (.var 2) 1⁻¹,.var 1}))))) {.ret (.lst {.lst .nil,.lst .nil})} .nil,.ite (.and (.cmp .Eq 'j' "not"⁻¹) (.and (.cmp .Eq (.var 5) "not"⁻¹) (.cmp .Eq (.var 2) (.lst {.con .none})))) {.ret (.lst {.lst {.ix (.var 1) 1⁻¹}})} .nil,.ite (.and (.cmp .Eq 'j' "clash"⁻¹) (.and (.cmp .Is (.var 1) (.con .none)) (.and (.cmp .Eq (.sl (.var 4) .no (.yes 1⁻¹)) (.lst {"not"⁻¹})) (.cmp .Eq (.sl (.var 2) (.yes 1⁻¹) .no) (.lst {.ix (.ix (.var 2) 0⁻¹) 1⁻¹}))))) {.ret (.lst {.lst .nil,.lst .nil})} .nil,.ite (.and (.cmp .Eq 'j' "all"⁻¹) (.and (.cmp .IsNot (.var 1) (.con .none)) (.cmp .Eq (.var 2) (.lst {.con .none})))) {.ret (.lst {.lst .nil})} .nil,.ite (.and (.cmp .Eq 'j' "put"⁻¹) (.and (.cmp .Eq (.call 1 {.var 2}) 2⁻¹) (.and (.cmp .IsNot (.ix (.var 2) 0⁻¹) (.con .none)) (.cmp .Eq (.ix (.var 2) 1⁻¹) (.var 1))))) {.ret (.lst {.lst .nil,.lst {.ix (.var 2) 0⁻¹}})} .nil,.ret (.con .none)}
noncomputable def mR:MC:=mC jF uA 25
theorem zaj:FnScope uA ["_law_why", "_law_said", "_law_some", "_law_given"] (zH jF):='a'
theorem gG:vP yQ mR (yX jF)=true:=by decide +kernel
noncomputable abbrev wT:Stmt:=gR 29
noncomputable def qE:List Str:=["_law_paper", "_law_at", "_law_given", "_law_said", "_law_why", "_law_above", "_law_gone_here", "_law_k", "_law_less"]
noncomputable def jY:ISs:={.asgT {.nm 2,.nm 3,.nm 4,.nm 5} (.ix 'j' (.var 1)),.ite (.or (.not (.call 2 {.lc (.tup {.nm 0,.nm 1}) ["_law_one", "_law_other"] [] (.blt 1 {.var 2,.sl (.var 2) (.yes 1⁻¹) .no}) .no (.cmp .Lt 'j' (.var 1))})) (.cmp .NotEq (.lc (.nm 0) ["_law_k"] [1] (.val (.var 5)) (.yes (.not (.chn .LtE .Lt 0⁻¹ 'j' (.var 1)))) 'j') (.lst .nil))) {.ret (.con (.bool false))} .nil,.asg 6 (.call 25 {.var 4,.var 3,.lc (.nm 0) ["_law_k"] [0] (.val (.var 5)) .no (.ix (.ix (.var 1) 'j') 1⁻¹),.var 2}),.ite (.cmp .Is (.var 6) (.con .none)) {.ret (.con (.bool false))} .nil,.for (.tup {.nm 7,.nm 8}) (.blt 1 {.var 5,.var 6}) {.ite (.not (.call 2 {.lc (.nm 0) ["_law_one"] [2,8] (.val (.ix (.ix 'j' (.var 7)) 0⁻¹)) .no (.or (.cmp .In 'j' (.var 1)) (.cmp .In 'j' (.var 2)))})) {.ret (.con (.bool false))} .nil},.ret (.con (.bool true))}
noncomputable def uK:MC:=mC wT qE 26
theorem nX:FnScope qE ["_law_paper", "_law_at"] (zH wT):='a'
theorem rZ:vP jY uK (yX wT)=true:=by decide +kernel
noncomputable abbrev jU:Stmt:=gR 35
noncomputable def vF:List Str:=["_law_rows", "_law_found", "_law_given", "_law_said", "_law_why", "_law_above", "_law_number"]
noncomputable def qI:ISs:={.asg 1 (.lst .nil),.for (.tup {.nm 2,.nm 3,.nm 4,.nm 5}) (.val 'j') {.ex (.mth 3 (.var 1) {.lst {.tup {.bin .Add (.var 2) (.sl (.var 2) .no (.yes 1⁻¹)),.var 3,.var 4,.var 5},.tup {.spc 3 {.var 2},.var 3,.var 4,.var 5}}}),.ex (.mth 3 (.var 1) {.lst {.tup {.var 2,.var 3,.var 4,.sl (.var 5) .no (.yes (.neg 1⁻¹))},.tup {.var 2,.var 3,.var 4,.bin .Add (.var 5) (.sl (.var 5) .no (.yes 1⁻¹))}}}),.ex (.mth 3 (.var 1) {.lst {.tup {.var 2,.var 3,.bin .Add (.var 4) " "⁻¹,.var 5},.tup {.var 2,.var 3,""⁻¹,.var 5}}}),.for (.nm 6) (.val (.tup {12⁻¹,13⁻¹,.neg 1⁻¹,.neg 12⁻¹,.bin .Pow 10⁻¹ 20⁻¹})) {.ex (.mth 2 (.var 1) {.tup {.var 2,.var 3,.var 4,.bin .Add (.tup {.var 6}) (.sl (.var 5) (.yes 1⁻¹) .no)}})}},.ret (.var 1)}
noncomputable def rR:MC:=mC jU vF 27
theorem bY:FnScope vF ["_law_rows"] (zH jU):='a'
theorem mH:vP qI rR (yX jU)=true:=by decide +kernel
noncomputable abbrev slaw:Stmt:=gR 36
noncomputable def nlaw:List Str:=["_law_script", "_law_deal_here", "_law_names_here", "_law_x", "_law_y", "_law_z", "_law_base_here", "_law_some", "_law_good", "_law_row_here", "_law_due"]
noncomputable def blaw:ISs:={.asg 1 (.call 8 {.var 0,1⁻¹}),.asg 2 (.call 10 {.var 1,.bin .Add 2⁻¹ (.call 9 {.var 1,3⁻¹})}),.asgT {.nm 3,.nm 4,.nm 5} (.lc (.nm 0) ["_law_k"] [1,2] (.blt 0 {3⁻¹}) .no (.call 13 {.var 1,.var 2,.bin .Add 1⁻¹ (.call 9 {.var 1,3⁻¹})})),.asg 6 (.call 12 {.var 3,.var 4,.var 5}),.asg 7 (.bin .Add (.call 14 {.var 3,.var 4,.var 5}) (.call 15 {.var 3,.var 4,.var 5})),.asg 8 (.lc (.nm 0) ["_law_row_here"] [6] (.val (.var 7)) (.yes (.call 26 {.bin .Add (.var 1) (.lst {.var 0}),12⁻¹})) 'j'),.for (.nm 9) (.val (.bin .Add (.bin .Add (.var 7) (.call 27 {.sl (.lc (.nm 0) ["_law_row_here"] [] (.val (.var 8)) (.yes (.cmp .Gt (.call 1 {.ix 'j' 3⁻¹}) 1⁻¹)) 'j') .no (.yes 3⁻¹)})) (.var 8))) {.asg 10 (.ix (.lst {"whole"⁻¹,12⁻¹}) (.call 7 {.not (.call 26 {.bin .Add (.var 6) (.lst {.var 9}),12⁻¹})})),.ite (.cmp .NotEq (.call 24 {.call 6 {.bin .Add (.var 6) (.lst {.var 9})}}) (.var 10)) {.ret (.con (.bool false))} .nil},.ret (.cmp .Eq (.call 24 {.call 6 {.var 6}}) "whole"⁻¹)}
noncomputable def mlaw:MC:=mC slaw nlaw 28
theorem sclaw:FnScope nlaw ["_law_script"] (zH slaw):='a'
theorem zg9:vP blaw mlaw (yX slaw)=true:=by decide +kernel
end K57
namespace K57
open PySem PySem.Spec PyProof.Rows L2 L3
inductive Sy where
 |say (x:Str)|not (a:Sy)|and (a b:Sy)|or (a b:Sy)|ite (a b:Sy)
noncomputable def Sy.w:Sy->W
 | .say x=>.tup [.str "say", .str x]
 | .not a=>.tup [.str "not", a.w]
 | .and a b=>.tup [.str "and", a.w,b.w]
 | .or a b=>.tup [.str "or", a.w,b.w]
 | .ite a b=>.tup [.str "if", a.w,b.w]
noncomputable def Sy.size:Sy->Nat
 | .say _=>1
 | .not a=>a.size+1
 | .and a b=>a.size+b.size+1
 | .or a b=>a.size+b.size+1
 | .ite a b=>a.size+b.size+1
theorem Sy.pur:∀ t:Sy,L3.pur t.w=true
 | .say _=>by simp[Sy.w,L3.pur,yH]
 | .not a=>by simp[Sy.w,L3.pur,yH,Sy.pur a]
 | .and a b=>by simp[Sy.w,L3.pur,yH,Sy.pur a,Sy.pur b]
 | .or a b=>by simp[Sy.w,L3.pur,yH,Sy.pur a,Sy.pur b]
 | .ite a b=>by simp[Sy.w,L3.pur,yH,Sy.pur a,Sy.pur b]
theorem dep1 {x m:Nat} (h:x<=m):max 0 (max x 0)+1<=m+1:=ZaB (ZbF.mpr ⟨Zy _,ZbF.mpr ⟨h,Zy _⟩⟩)
theorem dep2 {x y m n:Nat} (h:x<=m) (h':y<=n):max 0 (max x (max y 0))+1<=m+n+1:=ZaB (ZbF.mpr ⟨Zy _,ZbF.mpr ⟨Ze h (Nat.le_add_right _ _),ZbF.mpr ⟨Ze h' (Nat.le_add_left _ _),Zy _⟩⟩⟩)
theorem Sy.dep:∀ t:Sy,L3.dep t.w<=t.size
 | .say _=>dep1 (Zy 0)
 | .not a=>dep1 (Sy.dep a)
 | .and a b=>dep2 (Sy.dep a) (Sy.dep b)
 | .or a b=>dep2 (Sy.dep a) (Sy.dep b)
 | .ite a b=>dep2 (Sy.dep a) (Sy.dep b)
theorem nH:(("say":Str) == "not")=false:=by decide +kernel
theorem nG:(("say":Str) == "and")=false:=by decide +kernel
theorem fL:(("say":Str) == "or")=false:=by decide +kernel
theorem fK:(("say":Str) == "if")=false:=by decide +kernel
theorem nF:(("not":Str) == "say")=false:=by decide +kernel
theorem nE:(("not":Str) == "and")=false:=by decide +kernel
theorem fF:(("not":Str) == "or")=false:=by decide +kernel
theorem fE:(("not":Str) == "if")=false:=by decide +kernel
theorem nD:(("and":Str) == "say")=false:=by decide +kernel
theorem nC:(("and":Str) == "not")=false:=by decide +kernel
theorem fA:(("and":Str) == "or")=false:=by decide +kernel
theorem dZ:(("and":Str) == "if")=false:=by decide +kernel
theorem fJ:(("or":Str) == "say")=false:=by decide +kernel
theorem fH:(("or":Str) == "not")=false:=by decide +kernel
theorem fG:(("or":Str) == "and")=false:=by decide +kernel
theorem za3:(("or":Str) == "if")=false:=by decide +kernel
theorem fD:(("if":Str) == "say")=false:=by decide +kernel
theorem fC:(("if":Str) == "not")=false:=by decide +kernel
theorem fB:(("if":Str) == "and")=false:=by decide +kernel
theorem za4:(("if":Str) == "or")=false:=by decide +kernel
theorem ltS1 {a b:W} (h:(tD a b).isSome=true):(kH [a] [b]).isSome=true:=by
 simp only[kH]
 split
 .rfl
 .exact h
theorem ltS2 {a b c d:W} (h:(tD a b).isSome=true) (h':(tD c d).isSome=true):(kH [a,c] [b,d]).isSome=true:=by
 rw[kH]
 split
 .exact ltS1 h'
 .exact h
theorem tE {x:Str} {l l':List W} (h:(kH l l').isSome=true):(tD (.tup (.str x::l)) (.tup (.str x::l'))).isSome=true:=by
 rw[tD,kH,if_pos (by simp[xE])];exact h
theorem yF {x y:Str} {l l':List W} (h:(x==y)=false):(tD (.tup (.str x::l)) (.tup (.str y::l'))).isSome=true:=by
 rw[tD,kH,if_neg (by simp[xE,h]),tD];rfl
theorem Sy.lt:∀ a b:Sy,(tD a.w b.w).isSome=true
 | .say x,.say y=>tE (ltS1 (by rw[tD];rfl))
 | .not a,.not b=>tE (ltS1 (Sy.lt a b))
 | .and a c,.and b d=>tE (ltS2 (Sy.lt a b) (Sy.lt c d))
 | .or a c,.or b d=>tE (ltS2 (Sy.lt a b) (Sy.lt c d))
 | .ite a c,.ite b d=>tE (ltS2 (Sy.lt a b) (Sy.lt c d))
 | .say _,.not _=>yF nH
 | .say _,.and _ _=>yF nG
 | .say _,.or _ _=>yF fL
 | .say _,.ite _ _=>yF fK
 | .not _,.say _=>yF nF
 | .not _,.and _ _=>yF nE
 | .not _,.or _ _=>yF fF
 | .not _,.ite _ _=>yF fE
 | .and _ _,.say _=>yF nD
 | .and _ _,.not _=>yF nC
 | .and _ _,.or _ _=>yF fA
 | .and _ _,.ite _ _=>yF dZ
 | .or _ _,.say _=>yF fJ
 | .or _ _,.not _=>yF fH
 | .or _ _,.and _ _=>yF fG
 | .or _ _,.ite _ _=>yF za3
 | .ite _ _,.say _=>yF fD
 | .ite _ _,.not _=>yF fC
 | .ite _ _,.and _ _=>yF fB
 | .ite _ _,.or _ _=>yF za4
theorem Sy.hd (t:Sy):hdT t.w=some "str" := by cases t<;>rfl
theorem nS:∀ ts:List Sy,yH (ts.map Sy.w)=true
 | []=>rfl
 |t::ts=>by simp[yH,t.pur,nS ts]
theorem zbm {n:Nat}:∀ ts:List Sy,(∀ t∈ts,t.size<=n)->xS (ts.map Sy.w)<=n
 | [],_=>Zy _
 |t::ts,h=>by
  have h1:=Sy.dep t;have h2:=h t zzT;have h3:=zbm ts λx hx=>h x (Zi _ hx);simp only[zzU,xS];omega
theorem srtb {ts:List Sy} (hn:ts.length<64) (hs:∀ t∈ts,t.size<=59):Srtb (ts.map Sy.w) where
 pure:=nS ts
 lt:=λx hx y hy=>by
  obtain⟨a,_,rfl⟩:=zzP hx;obtain⟨b,_,rfl⟩:=zzP hy;exact Sy.lt a b
 few:=by simpa using hn
 deep:=ZaW (zbm ts hs) 'f'
 hd:=⟨"str",λx hx=>by obtain⟨a,_,rfl⟩:=zzP hx;exact a.hd⟩
theorem zgD (ts:List Sy):∃ us:List Sy,srt (ts.map Sy.w)=us.map Sy.w/\us.length=ts.length/\∀ n,(∀ t∈ts,t.size<=n)->∀ t∈us,t.size<=n:=by
 have p:=zaS (ts.map Sy.w)
 have q:∀ x∈srt (ts.map Sy.w),∃ t,t∈ts/\x=t.w:=λx hx=>by
  obtain⟨t,ht,rfl⟩:=zzP (p.mem_iff.mp hx);exact⟨t,ht,rfl⟩
 have key:∀ (ws:List W),(∀ x∈ws,∃ t,t∈ts/\x=t.w)->∃ us:List Sy,ws=us.map Sy.w/\∀ t∈us,t∈ts:=by
  intro ws
  induction ws with
  |nil=>exactλ_=>⟨[],rfl,λ_ h=>nomatch h⟩
  |cons x ws ih =>
   intro h;obtain⟨t,ht,rfl⟩:=h x zzT;obtain⟨us,e,hu⟩:=ih λy hy=>h y (Zi _ hy);refine⟨t::us,by rw[e];rfl,λy hy=>?_⟩;rcases Zh.mp hy with rfl|hy
   .exact ht
   .exact hu y hy
 obtain⟨us,e,hu⟩:=key _ q;refine⟨us,e,?_,λn hn t ht=>hn t (hu t ht)⟩;have:=p.length_eq;rw[e,zzM,zzM] at this;exact this
theorem dX {x y:Str} {l l':List W} (h:(x==y)=false) (e:xE (.tup (.str x::l)) (.tup (.str y::l'))=true):False:=by simp[xE,yS,h] at e
theorem tl1 {x:Str} {a b:W} (e:xE (.tup [.str x,a]) (.tup [.str x,b])=true):xE a b=true:=by simpa[xE,yS] using e
theorem tl2 {x:Str} {a b c d:W} (e:xE (.tup [.str x,a,c]) (.tup [.str x,b,d])=true):xE a b=true/\xE c d=true:=by simpa[xE,yS] using e
theorem Sy.eqw:∀ a b:Sy,xE a.w b.w=true->a=b
 | .say x,.say y,h=>by have:=tl1 h;simp[xE] at this;rw[this]
 | .not a,.not b,h=>by rw[Sy.eqw a b (tl1 h)]
 | .and a c,.and b d,h=>by rw[Sy.eqw a b (tl2 h).1,Sy.eqw c d (tl2 h).2]
 | .or a c,.or b d,h=>by rw[Sy.eqw a b (tl2 h).1,Sy.eqw c d (tl2 h).2]
 | .ite a c,.ite b d,h=>by rw[Sy.eqw a b (tl2 h).1,Sy.eqw c d (tl2 h).2]
 | .say _,.not _,h=>(dX nH h).elim
 | .say _,.and _ _,h=>(dX nG h).elim
 | .say _,.or _ _,h=>(dX fL h).elim
 | .say _,.ite _ _,h=>(dX fK h).elim
 | .not _,.say _,h=>(dX nF h).elim
 | .not _,.and _ _,h=>(dX nE h).elim
 | .not _,.or _ _,h=>(dX fF h).elim
 | .not _,.ite _ _,h=>(dX fE h).elim
 | .and _ _,.say _,h=>(dX nD h).elim
 | .and _ _,.not _,h=>(dX nC h).elim
 | .and _ _,.or _ _,h=>(dX fA h).elim
 | .and _ _,.ite _ _,h=>(dX dZ h).elim
 | .or _ _,.say _,h=>(dX fJ h).elim
 | .or _ _,.not _,h=>(dX fH h).elim
 | .or _ _,.and _ _,h=>(dX fG h).elim
 | .or _ _,.ite _ _,h=>(dX za3 h).elim
 | .ite _ _,.say _,h=>(dX fD h).elim
 | .ite _ _,.not _,h=>(dX fC h).elim
 | .ite _ _,.and _ _,h=>(dX fB h).elim
 | .ite _ _,.or _ _,h=>(dX za4 h).elim
theorem Sy.inj {a b:Sy} (h:a.w=b.w):a=b:=Sy.eqw a b (by rw[h];exact uZ b.pur)
theorem Sy.any {ts:List Sy} {u:Sy}:((ts.map Sy.w).any λz=>xE z u.w)=true↔u∈ts:=by
 rw[List.any_eq_true]
 constructor
 .rintro ⟨z,hz,e⟩;obtain⟨t,ht,rfl⟩:=zzP hz;rw[← Sy.eqw t u e];exact ht
 .exact λh=>⟨u.w,ZbT.mpr ⟨u,h,rfl⟩,uZ u.pur⟩
theorem jS {a:W} {l:List W}:tU (a::l) 0=some a:=by
 unfold tU;have:ixN (a::l).length 0=some 0:=by simp[ixN]
 rw[this];rfl
theorem at_1 {a b:W} {l:List W}:tU (a::b::l) 1=some b:=by
 unfold tU;have:ixN (a::b::l).length 1=some 1:=by simp[ixN];omega
 rw[this];rfl
theorem at_2 {a b c:W} {l:List W}:tU (a::b::c::l) 2=some c:=by
 unfold tU;have:ixN (a::b::c::l).length 2=some 2:=by simp[ixN];omega
 rw[this];rfl
theorem sz (n:Nat) (h:n<=3000):n<=sizeLine:=by rw[Z2];omega
theorem gZ {α:Type} {a:α} {l:List α}:(a::l)[0]?=some a:=rfl
theorem gS {α:Type} {a:α} {l:List α} {i:Nat}:(a::l)[i+1]?=l[i]?:=rfl
theorem tZ {α:Type} {a b:α} {l:List α}:(a::l).set 0 b=b::l:=rfl
theorem tS {α:Type} {a b:α} {l:List α} {i:Nat}:(a::l).set (i+1) b=a::l.set i b:=rfl
theorem yT {Γ:Ctx3} {E:XQ} {s:IS} {ss:ISs} {D:End3} {σ:xZ} {G:Hw} (h:zU Γ E s {D with nx:=zB Γ E ss D} σ G):zB Γ E (.cons s ss) D σ G:=h
theorem kZ {Γ:Ctx3} {E:XQ} {D:End3} {σ:xZ} {G:Hw} (h:D.nx σ G):zB Γ E .nil D σ G:=h
theorem tyL {G:Hw} {o:Addr} {l:List W} (e:G o=some (.lst l)):tyW G (.ref o) "list" := by simp only[tyW,e]
theorem appL {G:Hw} {o:Addr} {l:List W} {y:W} {Q:Q3} (e:G o=some (.lst l)) (hl:l.length<1000) (h:Q .non (put G o (.lst (l++[y])))):appS (.ref o) [y] G Q:=by
 simp only[appS,e];exact⟨by rw[Z2];omega,h⟩
theorem kD {G:Hw} {t:Addr} {xs:List W} {i:Int} {Q:Q3} (e:yN G t=some xs) (h:match tU xs i with|some w=>Q w G|none=>False):qD (.ref t) (.int i) G Q:=by
 unfold yN at e
 split at e
 .rename_i q;cases e;simp only[qD,q];exact h
 .rename_i q;cases e;simp only[qD,q];exact h
 .cases e
theorem dD {S:List Addr} {G G':Hw} {d l:Addr} (k:zK S G G') (hd:d∉S) (hl:l∉S) (D:jJ G d l):jJ G' d l:=by
 obtain⟨x,y,z,D⟩:=D;exact⟨x,y,z,k _ _ hd D.dic,k _ _ hl D.lst,D.s0,D.s1,D.n0,D.lf,D.len,D.ne⟩
theorem hJ {G:Hw} {d l p:Addr} {o:O} (h:G p=none) (D:jJ G d l):jJ (put G p o) d l:=dD (S:=[]) (zK.new h) 'g' 'g' D
theorem zjr {G:Hw} {d l p:Addr} (D:jJ G d l) (h:G p=none):p∉[d,l]:=by
 obtain⟨_,_,_,D⟩:=D;simp only[Zh,Zt,or_false,not_or];exact⟨λe=>(by rw[e,D.dic] at h;cases h),λe=>(by rw[e,D.lst] at h;cases h)⟩
theorem sZ {S:List Addr} {G G':Hw} {p:Addr} {o:O} (k:zK S G G') (h:G p=none):zK S G (put G' p o):=λa u ha e=>by
 rw[wE (dG e h)];exact k a u ha e
theorem zdx {G:Hw} {d l p:Addr} {o:O} (h:p∉[d,l]) (D:jJ G d l):jJ (put G p o) d l:=by
 simp only[Zh,Zt,or_false,not_or] at h;exact dD (S:=[p]) (zK.put 'g') (by simpa using Ne.symm h.1) (by simpa using Ne.symm h.2) D
theorem addS {a b:Str} {G:Hw} {Q:Q3} (h:a.length+b.length<=3000) (q:Q (.str (a++b)) G):qP .Add (.str a) (.str b) G Q:=⟨sz _ h,q⟩
noncomputable def tl:ISs->ISs
 | .cons _ ss=>ss
 | .nil=>.nil
theorem zC {G:Hw} {a b:Str}:sM G (.str a) (.str b)=some (a==b):=by simp[sM,pur,dep,xE]
theorem zku {G:Hw} {i:Int}:sM G .non (.int i)=some false:=by simp[sM,pur,dep,xE]
theorem zdw {t:Sy} (h:t.size<=20):dep t.w<=20:=Ze (Sy.dep t) h
theorem bT (ts:List Sy):yH (ts.map Sy.w)=true:=nS ts
theorem pQ:∀ {ts:List Sy},(∀ t∈ts,t.size<=20)->xS (ts.map Sy.w)<=20
 | [],_=>Zy _
 |t::ts,h=>by
  have h1:=zdw (h t zzT);have h2:=pQ (ts:=ts) λx hx=>h x (Zi _ hx);simp only[zzU,xS];omega
noncomputable def inL (ws:List W) (w:W):Bool:=ws.any λv=>xE v w
theorem inW {w:W} {ws:List W} {G:Hw} {Q:Q3} (p:pur w=true) (ps:yH ws=true) (d:xS ws<=100) (q:Q (.bl (inL ws w)) G):L3.inR false w ws G Q:=⟨⟨p,ps,by omega⟩,q⟩
theorem eqP {x y:W} {G:Hw} (hx:pur x=true) (hy:pur y=true) (hd:dep x<=100) (nx:∀ p,x≠.ref p):sM G x y=some (xE x y):=by
 have c:(pur x&&pur y&&decide (min (dep x) (dep y)<=150))=true:=by
  rw[hx,hy,decide_eq_true 'f'];rfl
 cases x with
 |ref p=>exact absurd rfl (nx p)
 |_=>exact if_pos c
theorem rN {G:Hw} {p:Addr} {ws:List W} {R:List W->(Hw->Prop)->Hw->Prop} (h:G p=some (.lst ws)) (q:R ws (λG'=>yN G' p=some ws) G):uH (.ref p) G R:=by
 simp only[uH,zQ h];exact q
theorem zdD {x:W} {r:List W}:jQ (x::r) (some 1) none=r:=by
 unfold jQ HT.wY;simp
theorem zgc {xs:List Str} {i:Int} (h0:0<=i) (h1:i<xs.length):∃ x∈xs,tU (xs.map W.str) i=some (.str x):=by
 have hi:i.toNat<xs.length:=by omega
 refine⟨xs[i.toNat],ZaM hi,?_⟩;unfold tU ixN;rw[if_pos h0,zzM,if_pos h1];show(xs.map W.str)[i.toNat]?=_;rw[Zz,Zf hi];rfl
theorem ix0 {a:W} {l:List W} {G:Hw} {Q:Q3}:qD (.tup (a::l)) (.int 0) G Q=Q a G:=by simp only[qD,jS]
theorem ix1 {a b:W} {l:List W} {G:Hw} {Q:Q3}:qD (.tup (a::b::l)) (.int 1) G Q=Q b G:=by simp only[qD,at_1]
theorem ix2 {a b c:W} {l:List W} {G:Hw} {Q:Q3}:qD (.tup (a::b::c::l)) (.int 2) G Q=Q c G:=by simp only[qD,at_2]
theorem uI {α:Type} {as:List α} {φ ψ:α->W} {stab:Hw->Prop} {G1:Hw} {turn:W->Hw->(Option W->Hw->Prop)->Prop} {Q:Q3} (hs:∀ G',zK [] G1 G'->stab G') (hl:as.length<=sizeLine)
  (ht:∀ a∈as,∀ (G':Hw) (K':Option W->Hw->Prop),zK [] G1 G'->(∀ G'',zK [] G' G''->K' (some (ψ a)) G'')->turn (φ a) G' K')
  (hq:∀ p G',zK [] G1 G'->G' p=none->Q (.ref p) (put G' p (.lst (as.map ψ)))):lcR (as.map φ) stab G1 turn Q:=by
 refine⟨λi acc G'=>zK [] G1 G'/\acc=(as.take i).map ψ,⟨zK.refl,rfl⟩,?_,by rw[zzM];exact hl,?_,?_⟩
 .rintro i acc G' ⟨kp,rfl⟩ _;exact⟨hs G' kp,by rw[zzM,Z0];omega⟩
 .rintro i w acc G' hw ⟨kp,rfl⟩;rw[Zz] at hw;obtain⟨a,ha,rfl⟩:=ZK.mp hw;obtain⟨hi,e⟩:=Zp.mp ha;exact ht a (Zw ha) G' _ kp λG'' k''=>⟨kp.trans k'',by rw[ZF hi,e,ZV];rfl⟩
 .rintro acc G' ⟨kp,rfl⟩ p hp;rw[zzM,Z9];exact hq p G' kp hp
theorem zbf {α:Type} {xs:List α} {φ:α->W} (p:α->Bool) {G1:Hw} (S:xZ->Prop) {stab:Hw->Prop} {D:End3} {σ:xZ} {turn:W->End3->xZ->Hw->Prop}
  (hs:S σ) (stb:∀ G',zK [] G1 G'->stab G')
  (ht:∀ x∈xs,∀ σ' G',S σ'->zK [] G1 G'->∀ D':End3,D'.rt=D.rt->(p x=false->∀ σ2 G2,S σ2->zK [] G1 G2->D'.nx σ2 G2)->(p x=true->xs.find? p=some x)->turn (φ x) D' σ' G')
  (hq:xs.find? p=none->∀ σ' G',S σ'->zK [] G1 G'->D.nx σ' G'):forR (xs.map φ) stab D σ G1 turn:=by
 refine⟨λi σ' G'=>S σ'/\zK [] G1 G'/\(xs.take i).find? p=none,⟨hs,zK.refl,rfl⟩,λi σ' G' h _=>stb G' h.2.1,?_,?_⟩
 .rintro i w σ' G' hw ⟨h1,h2,h3⟩;rw[Zz] at hw;obtain⟨x,hx,rfl⟩:=ZK.mp hw;have hi:i<xs.length:=(Zp.mp hx).1;have e:xs[i]=x:=(Zp.mp hx).2;have hd:xs.drop i=x::xs.drop (i+1):=by rw[ZaK hi,e]
  refine ht x (Zw hx) σ' G' h1 h2 _ rfl (λhp σ2 G2 s2 k2=>⟨s2,k2,?_⟩) (λhp=>?_)
  .rw[ZF hi,e,List.find?_append,h3];simp[hp]
  .rw[← List.take_append_drop i xs,List.find?_append,h3,hd];simp[hp]
 .rintro σ' G' ⟨h1,h2,h3⟩;rw[zzM,Z9] at h3;exact hq h3 σ' G' h1 h2
theorem zi2 {w:W} (h:pur w=true) (p:Addr):w≠.ref p:=λe=>by rw[e] at h;cases h
theorem eqA {x y:W} {G:Hw} (hx:pur x=true) (hy:pur y=true) (hd:dep x<=100):sM G x y=some (xE x y):=eqP hx hy hd (zi2 hx)
noncomputable def ow:Option Sy->W
 |some s=>s.w
 |none=>.non
structure Rw where
 g:List Sy
 s:Option Sy
 y:Str
 a:List Int
noncomputable def Rw.w (r:Rw):W:=.tup [.tup (r.g.map Sy.w),ow r.s,.str r.y,.tup (r.a.map .int)]
structure Rw.ok (r:Rw):Prop where
 g:r.g.length<=20
 z:∀ x∈r.g,x.size<=20
 s:∀ x,r.s=some x->x.size<=20
 a:r.a.length<=20
noncomputable def zeb:Option Sy->W
 |none=>.non
 |some (.say _)=>.str "say"
 |some (.not _)=>.str "not"
 |some (.and _ _)=>.str "and"
 |some (.or _ _)=>.str "or"
 |some (.ite _ _)=>.str "if"
noncomputable def rise:List Sy->Bool
 |x::y::r=>(tD x.w y.w).getD false&&rise (y::r)
 |_=>true
inductive Wy where
 |given|both|left|right|one|two|cases|thn|use|not|clash|all|put
noncomputable def Wy.s:Wy->Str
 | .given => "given"
 | .both => "both"
 | .left => "left"
 | .right => "right"
 | .one => "one"
 | .two => "two"
 | .cases => "cases"
 | .thn => "then"
 | .use => "use"
 | .not => "not"
 | .clash => "clash"
 | .all => "all"
 | .put => "put"
noncomputable def Wy.n:Wy->Nat
 | .given=>0
 | .both=>2
 | .left=>1
 | .right=>1
 | .one=>1
 | .two=>1
 | .cases=>3
 | .thn=>1
 | .use=>2
 | .not=>1
 | .clash=>2
 | .all=>1
 | .put=>2
noncomputable def vO (a b:Option Sy):Bool:=xE (ow a) (ow b)
noncomputable def gone:Wy->Option Sy->List (Option Sy)->List Sy->Option (List (List Sy))
 | .given,s,t,g=>if(t.isEmpty&&inL (g.map Sy.w) (ow s))=true then some [] else none
 | .both,s,t,_=>(match s with
  |some (.and a b)=>(match t with
   | [x,z]=>if(vO (some a) x&&vO (some b) z)=true then some [[],[]] else none
   |_=>none)
  |_=>none)
 | .left,s,t,_=>(match t with
  | [some (.and a _)]=>if vO s (some a)=true then some [[]] else none
  |_=>none)
 | .right,s,t,_=>(match t with
  | [some (.and _ b)]=>if vO s (some b)=true then some [[]] else none
  |_=>none)
 | .one,s,t,_=>(match s with
  |some (.or a _)=>(match t with
   | [x]=>if vO (some a) x=true then some [[]] else none
   |_=>none)
  |_=>none)
 | .two,s,t,_=>(match s with
  |some (.or _ b)=>(match t with
   | [x]=>if vO (some b) x=true then some [[]] else none
   |_=>none)
  |_=>none)
 | .cases,s,t,_=>(match t with
  | [o,x,z]=>(match o with
   |some (.or a b)=>if(vO x s&&vO z s)=true then some [[],[a],[b]] else none
   |_=>none)
  |_=>none)
 | .thn,s,t,_=>(match s with
  |some (.ite a b)=>(match t with
   | [x]=>if vO (some b) x=true then some [[a]] else none
   |_=>none)
  |_=>none)
 | .use,s,t,_=>(match t with
  | [o,x]=>(match o with
   |some (.ite a b)=>if(vO x (some a)&&vO s (some b))=true then some [[],[]] else none
   |_=>none)
  |_=>none)
 | .not,s,t,_=>(match s with
  |some (.not a)=>(match t with
   | [none]=>some [[a]]
   |_=>none)
  |_=>none)
 | .clash,s,t,_=>(match s with
  |none=>(match t with
   |some (.not a)::r=>(match r with
    | [x]=>if vO x (some a)=true then some [[],[]] else none
    |_=>none)
   |_=>none)
  |_=>none)
 | .all,s,t,_=>(match s with
  |some _=>(match t with
   | [none]=>some [[]]
   |_=>none)
  |_=>none)
 | .put,s,t,_=>(match t with
  | [o,z]=>(match o with
   |some x=>if vO z s=true then some [[],[x]] else none
   |none=>none)
  |_=>none)
noncomputable def uF:tO:=λws G Q _=>∃ s:Option Sy,ws=[ow s]/\Q (zeb s) G
noncomputable def cG:tO:=λws G Q _=>∃ g:List Sy,ws=[.tup (g.map Sy.w)]/\g.length<=30/\(∀ x∈g,x.size<=20)/\∀ G',zK [] G G'->Q (.bl (rise g)) G'
noncomputable def cF:tO:=λws G Q _=>∃ (y:Wy) (s:Option Sy) (p:Addr) (t:List (Option Sy)),ws=[.str y.s,ow s,.ref p]/\y≠.given/\G p=some (.lst (t.map ow))/\t.length=y.n/\(∀ x,s=some x->x.size<=20)/\(∀ x,some x∈t->x.size<=20)/\∀ G',zK [] G G'->Q (.bl (gone y s t []).isSome) G'
theorem zea {Γ:Ctx3} {ws:List W} {G:Hw} {Q:Q3} (h:uF ws G Q XN):zB Γ XN sU { nx:=λ_ G'=>Q .non G',rt:=Q} (yL nP ws) G:=by
 obtain⟨s,rfl,h⟩:=h;show zB Γ XN sU { nx:=λ_ G'=>Q .non G',rt:=Q} [some (ow s)] G;simp only[sU];refine yT ?_
 cases s with
 |none =>
  erw[ow,yZ,isR,zzB,if_false,if_true]
  exact h
 |some t =>
  cases t<;>(erw[ow,Sy.w,yZ,isR,zzB,if_false,ix0];exact h)
theorem sF (s:Option Sy):pur (ow s)=true:=by
 cases s with
 |none=>rfl
 |some t=>exact t.pur
theorem zfT {s:Option Sy} (h:∀ x,s=some x->x.size<=20):dep (ow s)<=20:=by
 cases s with
 |none=>exact Zy _
 |some t=>exact zdw (h t rfl)
theorem wK {G:Hw} {a b:Option Sy} (h:∀ x,a=some x->x.size<=20):sM G (ow a) (ow b)=some (vO a b):=eqA (sF a) (sF b) (Ze (zfT h) 'c')
theorem zcg {G:Hw} (s:Option Sy) (x:Str):sM G (zeb s) (.str x)=some (xE (zeb s) (.str x)):=by
 cases s with
 |none=>exact eqA rfl rfl (Zy _)
 |some t=>cases t<;>exact eqA rfl rfl (Zy _)
theorem pM:∀ g:List Sy,((g.zip g.tail).all λp=>(tD p.1.w p.2.w).getD false)=rise g
 | []=>rfl
 | [_]=>rfl
 |x::y::r=>by
  have:=pM (y::r);simp only[List.tail_cons,ZS,Zax] at this ⊢;rw[rise,← this]
theorem zga (l:List W):jQ l (some 1) none=l.tail:=by
 cases l with
 |nil=>rfl
 |cons x r=>exact zdD
theorem zic (a b:List Sy):List.zipWith (λx y=>W.tup [x,y]) (a.map Sy.w) (b.map Sy.w)=(a.zip b).map λp=>.tup [p.1.w,p.2.w]:=by
 rw[ZbO,List.zip,ZbN]
theorem zjB {a b:Sy} (ha:a.size<=20) {G:Hw} {Q:Q3} (h:Q (.bl ((tD a.w b.w).getD false)) G):ltT a.w b.w G Q:=by
 have p1:=a.pur;have d:=zdw ha;have l:=Sy.lt a b;obtain⟨k,e⟩:=ZU.mp l;rw[e] at h;cases a<;>exact⟨⟨p1,b.pur,Ze d 'c'⟩,k,e,h⟩
theorem zeh {Γ:Ctx3} (e2:Γ.fn[2]?=some eAll) (i1:Γ.it[1]?=some eZpi) {ws:List W} {G:Hw} {Q:Q3} (h:cG ws G Q XN):zB Γ XN vX { nx:=λ_ G'=>Q .non G',rt:=Q} (yL uC ws) G:=by
 obtain⟨g,rfl,gl,gz,h⟩:=h;show zB Γ XN vX { nx:=λ_ G'=>Q .non G',rt:=Q} [some (.tup (g.map Sy.w))] G;simp only[vX];refine yT ?_
 erw[e2,i1,zW,gL,zga]
 refine⟨g.map Sy.w,(g.map Sy.w).tail,rfl,rfl,?_⟩;rw[← List.map_tail,zic];have zl:(g.zip g.tail).length<=30:=Ze (by rw[Zbi];exact ZaE _ _) gl;refine uI (ψ:=λp=>.bl ((tD p.1.w p.2.w).getD false)) (λG' _=>⟨rfl,rfl⟩) (sz _ (Ze zl 'c')) (λp hp G' K' kp hK=>?_) (λr G1 k1 hr=>?_)
 .have h1:=gz p.1 (Zas hp).1;simp only[jP,Zg,Zn,List.replicate,zzV,ZC,ZI,Zq]
  erw[yZ,if_true]
  exact zjB h1 (hK G' zK.refl)
 .refine ⟨(g.zip g.tail).map λp=>(tD p.1.w p.2.w).getD false,zQ (by rw[zL,Z8];rfl),?_⟩;have e:(((g.zip g.tail).map λp=>(tD p.1.w p.2.w).getD false).all id)=rise g:=by rw[Za9];exact pM g
  dsimp only;rw[e];exact h _ (k1.trans (zK.new hr))
theorem wB:∀ t:List (Option Sy),yH (t.map ow)=true
 | []=>rfl
 |x::t=>by simp only[zzU,yH,sF x,wB t];rfl
theorem uS:∀ {t:List (Option Sy)},(∀ x,some x∈t->x.size<=20)->xS (t.map ow)<=20
 | [],_=>Zy _
 |x::t,h=>by
  have h1:dep (ow x)<=20:=zfT λz e=>h z (by rw[e];exact zzT);have h2:=uS (t:=t) λz hz=>h z (Zi _ hz);simp only[zzU,xS];exact ZbF.mpr ⟨h1,h2⟩
theorem zff {G:Hw} {p q:Addr} {a b:List (Option Sy)} (hp:G p=some (.lst (a.map ow))) (hq:G q=some (.lst (b.map ow))) (ha:∀ x,some x∈a->x.size<=20):sM G (.ref p) (.ref q)=some (yS (a.map ow) (b.map ow)):=by
 simp only[sM,zQ hp,zQ hq];rw[if_pos];rw[wB,wB,decide_eq_true (Ze (ZaE _ _) (Ze (uS ha) 'c'))];rfl
section
variable {Γ:Ctx3} (e16:Γ.fn[16]? = some ⟨"sort_of", uF⟩) (e3:Γ.fn[3]?=some eLst)
include e16
theorem wI {i:Nat} {x:Str} {b:IE} {σ:xZ} {G:Hw} {Q:Q3} {s:Option Sy} (hi:σ[i]?=some (some (ow s))) (h:if xE (zeb s) (.str x)=true then(zI Γ XN b).e σ G Q else Q (.bl false) G):(zI Γ XN (.and (.cmp .Eq (.call 16 {.var i}) (.con (.str x))) b)).e σ G Q:=by
 erw[hi,e16]
 refine⟨s,rfl,?_⟩;simp only[yZ,zcg,zG];exact h
end
noncomputable def mdY:Wy->Prop
 | .both=>True
 | .one=>True
 | .two=>True
 | .thn=>True
 | .not=>True
 |_=>False
noncomputable def spMd:tO:=λws G Q _=>∃ (y:Wy) (s:Option Sy) (p:Addr) (t:List (Option Sy)),ws=[.str y.s,ow s,.ref p]/\mdY y/\G p=some (.lst (t.map ow))/\t.length=y.n/\(∀ x,s=some x->x.size<=20)/\(∀ x,some x∈t->x.size<=20)/\∀ G',zK [] G G'->Q (.bl (gone y s t []).isSome) G'
theorem kJ {t:List (Option Sy)} (h:t.length=1):∃ x,t=[x]:=by
 match t,h with
 | [x],_=>exact⟨x,rfl⟩
theorem pG {t:List (Option Sy)} (h:t.length=2):∃ x z,t=[x,z]:=by
 match t,h with
 | [x,z],_=>exact⟨x,z,rfl⟩
theorem xO {α:Type} {b:Bool} {x:α}:(if b=true then some x else none).isSome=b:=by cases b<;>rfl
theorem yes {c:Prop} [Decidable c] {a b:Prop} (hc:c) (h:a):if c then a else b:=by rw[if_pos hc];exact h
theorem sz1 {a b:Sy} {n:Nat} (h:a.size+b.size+1<=n):a.size<=n/\b.size<=n:=⟨by omega,by omega⟩
section
variable {Γ:Ctx3} (e16:Γ.fn[16]? = some ⟨"sort_of", uF⟩) (e3:Γ.fn[3]?=some eLst)
include e16 e3
theorem zeD {ws:List W} {G:Hw} {Q:Q3} (h:spMd ws G Q XN):zB Γ XN sT { nx:=λ_ G'=>Q .non G',rt:=Q} (yL nK ws) G:=by
 obtain⟨y,s,p,t,rfl,hy,gp,tl,hs,ht,h⟩:=h;have H:=h G zK.refl;show zB Γ XN sT { nx:=λ_ G'=>Q .non G',rt:=Q} [some (.str y.s),some (ow s),p⁻¹] G;have n1:(("one":Str) == "both")=false/\(("two":Str) == "both")=false/\(("then":Str) == "both")=false/\(("not":Str) == "both")=false:=by decide +kernel
 have n2:(("two":Str) == "one")=false/\(("then":Str) == "one")=false/\(("not":Str) == "one")=false:=by decide +kernel
 have n3:(("then":Str) == "two")=false/\(("not":Str) == "two")=false/\(("not":Str) == "then")=false:=by decide +kernel
 simp only[sT];refine yT ?_
 cases y with
 |both =>
  obtain⟨x,z,rfl⟩:=pG tl
  erw[Wy.s,yZ,zC,beq_self_eq_true,if_true]
  refine yT ?_;show(zI Γ XN _).e _ G Q;refine wI e16 (s:=s) rfl ?_
  cases s with
  |none=>exact H
  |some u =>
   cases u with
   |and a b =>
    have sab:=sz1 (hs _ rfl);refine yes rfl ?_
    erw[ow,Sy.w,gL,zdD,e3,lstS,xD]
    intro r hr;have k1:zK [] G (put G r (.lst [a.w,b.w])):=zK.new hr;have gr:(put G r (.lst [a.w,b.w])) r=some (.lst (([some a,some b]:List (Option Sy)).map ow)):=zL;have H1:=h _ k1;generalize put G r (.lst [a.w,b.w])=G1 at k1 gr H1 ⊢
    simp only[yZ,zff gr (k1 _ _ 'g' gp) (λx hx=>by
     rcases Zh.mp hx with e|e
     .cases e;exact sab.1
     .cases zzO e;exact sab.2)]
    simp only[gone,xO] at H1;simpa[yS,vO,ow] using H1
   |_=>exact H
 |one =>
  obtain⟨x,rfl⟩:=kJ tl
  erw[Wy.s,yZ,zC,n1,zzB,if_false]
  refine kZ ?_;refine yT ?_
  erw[Wy.s,yZ,zC,beq_self_eq_true,if_true]
  refine yT ?_;show(zI Γ XN _).e _ G Q;refine wI e16 (s:=s) rfl ?_
  cases s with
  |none=>exact H
  |some u =>
   cases u with
   |or a b =>
    have sab:=sz1 (hs _ rfl);refine yes rfl ?_
    erw[ow,Sy.w,ix1]
    refine kD (zQ gp) ?_;rw[zzU,jS];simp only[yZ];rw[show(a.w:W)=ow (some a) from rfl,wK (λz e=>by cases e;exact sab.1)];simpa only [gone,xO] using H
   |_=>exact H
 |two =>
  obtain⟨x,rfl⟩:=kJ tl
  erw[Wy.s,yZ,zC,n1,zzB,if_false]
  refine kZ ?_;refine yT ?_
  erw[Wy.s,yZ,zC,n2,zzB,if_false]
  refine kZ ?_;refine yT ?_
  erw[Wy.s,yZ,zC,beq_self_eq_true,if_true]
  refine yT ?_;show(zI Γ XN _).e _ G Q;refine wI e16 (s:=s) rfl ?_
  cases s with
  |none=>exact H
  |some u =>
   cases u with
   |or a b =>
    have sab:=sz1 (hs _ rfl);refine yes rfl ?_
    erw[ow,Sy.w,ix2]
    refine kD (zQ gp) ?_;rw[zzU,jS];simp only[yZ];rw[show(b.w:W)=ow (some b) from rfl,wK (λz e=>by cases e;exact sab.2)];simpa only [gone,xO] using H
   |_=>exact H
 |thn =>
  obtain⟨x,rfl⟩:=kJ tl
  erw[Wy.s,yZ,zC,n1,zzB,if_false]
  refine kZ ?_;refine yT ?_
  erw[Wy.s,yZ,zC,n2,zzB,if_false]
  refine kZ ?_;refine yT ?_
  erw[Wy.s,yZ,zC,n3,zzB,if_false]
  refine kZ ?_;refine yT ?_
  erw[Wy.s,yZ,zC,beq_self_eq_true,if_true]
  refine yT ?_;show(zI Γ XN _).e _ G Q;refine wI e16 (s:=s) rfl ?_
  cases s with
  |none=>exact H
  |some u =>
   cases u with
   |ite a b =>
    have sab:=sz1 (hs _ rfl);refine yes rfl ?_
    erw[ow,Sy.w,ix2]
    refine kD (zQ gp) ?_;rw[zzU,jS];simp only[yZ];rw[show(b.w:W)=ow (some b) from rfl,wK (λz e=>by cases e;exact sab.2)];simpa only [gone,xO] using H
   |_=>exact H
 |not =>
  obtain⟨x,rfl⟩:=kJ tl
  erw[Wy.s,yZ,zC,n1,zzB,if_false]
  refine kZ ?_;refine yT ?_
  erw[Wy.s,yZ,zC,n2,zzB,if_false]
  refine kZ ?_;refine yT ?_
  erw[Wy.s,yZ,zC,n3,zzB,if_false]
  refine kZ ?_;refine yT ?_
  erw[Wy.s,yZ,zC,n3,zzB,if_false]
  refine kZ ?_;refine yT ?_;show(zI Γ XN _).e _ G Q;refine wI e16 (s:=s) rfl ?_
  cases s with
  |none=>exact H
  |some u =>
   cases u with
   |not a =>
    refine yes rfl ?_
    erw[]
    refine kD (zQ gp) ?_;rw[zzU,jS]
    cases x with
    |none=>exact H
    |some v=>cases v<;>exact H
   |_=>exact H
 |_=>exact hy.elim
end
noncomputable def tkY:Wy->Prop
 | .left=>True
 | .right=>True
 | .use=>True
 | .clash=>True
 |_=>False
noncomputable def spTk:tO:=λws G Q _=>∃ (y:Wy) (s:Option Sy) (p:Addr) (t:List (Option Sy)),ws=[.str y.s,ow s,.ref p]/\tkY y/\G p=some (.lst (t.map ow))/\t.length=y.n/\(∀ x,s=some x->x.size<=20)/\(∀ x,some x∈t->x.size<=20)/\∀ G',zK [] G G'->Q (.bl (gone y s t []).isSome) G'
section
variable {a b:Sy} {G:Hw} {Q:Q3}
theorem ian1:qD (ow (some (.and a b))) (.int 1) G Q=Q (ow (some a)) G:=ix1
theorem ian2:qD (ow (some (.and a b))) (.int 2) G Q=Q (ow (some b)) G:=ix2
theorem ior1:qD (ow (some (.or a b))) (.int 1) G Q=Q (ow (some a)) G:=ix1
theorem ior2:qD (ow (some (.or a b))) (.int 2) G Q=Q (ow (some b)) G:=ix2
theorem iit1:qD (ow (some (.ite a b))) (.int 1) G Q=Q (ow (some a)) G:=ix1
theorem iit2:qD (ow (some (.ite a b))) (.int 2) G Q=Q (ow (some b)) G:=ix2
theorem ino1:qD (ow (some (.not a))) (.int 1) G Q=Q (ow (some a)) G:=ix1
end
section
variable {Γ:Ctx3} (e16:Γ.fn[16]? = some ⟨"sort_of", uF⟩)
include e16
theorem zb6 {ws:List W} {G:Hw} {Q:Q3} (h:spTk ws G Q XN):zB Γ XN qJ { nx:=λ_ G'=>Q .non G',rt:=Q} (yL vI ws) G:=by
 obtain⟨y,s,p,t,rfl,hy,gp,tl,hs,ht,h⟩:=h;have H:=h G zK.refl;show zB Γ XN qJ { nx:=λ_ G'=>Q .non G',rt:=Q} [some (.str y.s),some (ow s),p⁻¹,none] G;have n1:(("right":Str) == "left")=false/\(("use":Str) == "left")=false/\(("clash":Str) == "left")=false:=by decide +kernel
 have n2:(("use":Str) == "right")=false/\(("clash":Str) == "right")=false/\(("clash":Str) == "use")=false:=by decide +kernel
 simp only[qJ]
 cases y with
 |left =>
  obtain⟨x,rfl⟩:=kJ tl;refine yT ?_
  erw[]
  refine kD (zQ gp) ?_;rw[zzU,jS];refine yT ?_
  erw[Wy.s,yZ,zC,beq_self_eq_true,if_true]
  refine yT ?_;show(zI Γ XN _).e _ G Q;refine wI e16 (s:=x) rfl ?_
  cases x with
  |none=>cases s<;>exact H
  |some u =>
   cases u with
   |and a b =>
    refine yes rfl ?_
    erw[ian1,yZ,wK hs]
    simpa only [gone,xO] using H
   |_=>cases s<;>exact H
 |right =>
  obtain⟨x,rfl⟩:=kJ tl;refine yT ?_
  erw[]
  refine kD (zQ gp) ?_;rw[zzU,jS];refine yT ?_
  erw[Wy.s,yZ,zC,n1,zzB,if_false]
  refine kZ ?_;refine yT ?_
  erw[Wy.s,yZ,zC,beq_self_eq_true,if_true]
  refine yT ?_;show(zI Γ XN _).e _ G Q;refine wI e16 (s:=x) rfl ?_
  cases x with
  |none=>cases s<;>exact H
  |some u =>
   cases u with
   |and a b =>
    refine yes rfl ?_
    erw[ian2,yZ,wK hs]
    simpa only [gone,xO] using H
   |_=>cases s<;>exact H
 |use =>
  obtain⟨x,z,rfl⟩:=pG tl;refine yT ?_
  erw[]
  refine kD (zQ gp) ?_;rw[zzU,jS];refine yT ?_
  erw[Wy.s,yZ,zC,n1,zzB,if_false]
  refine kZ ?_;refine yT ?_
  erw[Wy.s,yZ,zC,n2,zzB,if_false]
  refine kZ ?_;refine yT ?_
  erw[Wy.s,yZ,zC,beq_self_eq_true,if_true]
  refine yT ?_;show(zI Γ XN _).e _ G Q;refine wI e16 (s:=x) rfl ?_
  cases x with
  |none=>cases s<;>exact H
  |some u =>
   cases u with
   |ite a b =>
    refine yes rfl ?_
    erw[]
    refine kD (zQ gp) ?_;rw[zzU,zzU,at_1]
    erw[iit1,iit2,yZ,wK (a:=z) (λv e=>ht v (by rw[← e];simp)),wK hs,zG]
    simp only[gone,xO] at H
    cases h1:vO z (some a) with
    |false=>rw[h1] at H;simpa using H
    |true=>rw[h1] at H;simpa using H
   |_=>cases s<;>exact H
 |clash =>
  obtain⟨x,z,rfl⟩:=pG tl;refine yT ?_
  erw[]
  refine kD (zQ gp) ?_;rw[zzU,jS];refine yT ?_
  erw[Wy.s,yZ,zC,n1,zzB,if_false]
  refine kZ ?_;refine yT ?_
  erw[Wy.s,yZ,zC,n2,zzB,if_false]
  refine kZ ?_;refine yT ?_
  erw[Wy.s,yZ,zC,n2,zzB,if_false]
  refine kZ ?_;refine yT ?_;show(zI Γ XN _).e _ G Q;refine wI e16 (s:=x) rfl ?_
  cases x with
  |none=>cases s<;>exact H
  |some u =>
   cases u with
   |not a =>
    refine yes rfl ?_
    erw[]
    refine kD (zQ gp) ?_;rw[zzU,zzU,at_1]
    erw[ino1,yZ,wK (a:=z) (λv e=>ht v (by rw[← e];simp)),zG]
    cases s with
    |none =>
     simp only[gone,xO] at H
     cases h1:vO z (some a) with
     |false=>rw[h1] at H;simpa using H
     |true=>rw[h1] at H;simpa[isR,ow] using H
    |some v =>
     have HF:Q (.bl false) G:=by cases v<;>exact H
     cases h1:vO z (some a) with
     |false=>simpa using HF
     |true=>cases v<;>simpa[isR,ow,Sy.w] using HF
   |_=>cases s<;>exact H
 |_=>exact hy.elim
end
theorem zaQ {t:List (Option Sy)} (h:t.length=3):∃ x y z,t=[x,y,z]:=by
 match t,h with
 | [x,y,z],_=>exact⟨x,y,z,rfl⟩
theorem isO {s:Option Sy} {G:Hw} {Q:Q3}:isR false (ow s) .non G Q=Q (.bl s.isNone) G:=by
 cases s with
 |none=>rfl
 |some t=>cases t<;>rfl
theorem isnO {s:Option Sy} {G:Hw} {Q:Q3}:isR true (ow s) .non G Q=Q (.bl s.isSome) G:=by
 cases s with
 |none=>rfl
 |some t=>cases t<;>rfl
noncomputable def isMd:Wy->Bool
 | .both=>true
 | .one=>true
 | .two=>true
 | .thn=>true
 | .not=>true
 |_=>false
noncomputable def isTk:Wy->Bool
 | .left=>true
 | .right=>true
 | .use=>true
 | .clash=>true
 |_=>false
theorem in_md (y:Wy):(([W.str "both", .str "one", .str "two", .str "then", .str "not"]:List W).any λw=>xE w (.str y.s))=isMd y:=by cases y<;>rfl
theorem in_tk (y:Wy):(([W.str "left", .str "right", .str "use", .str "clash"]:List W).any λw=>xE w (.str y.s))=isTk y:=by cases y<;>rfl
section
variable {Γ:Ctx3} (e16:Γ.fn[16]? = some ⟨"sort_of", uF⟩) (e17:Γ.fn[17]?=some ⟨"made_of", spMd⟩) (e18:Γ.fn[18]?=some ⟨"taken_from", spTk⟩)
include e16 e17 e18
theorem zeL {ws:List W} {G:Hw} {Q:Q3} (h:cF ws G Q XN):zB Γ XN wC { nx:=λ_ G'=>Q .non G',rt:=Q} (yL sD ws) G:=by
 obtain⟨y,s,p,t,rfl,hy,gp,tn,hs,ht,h⟩:=h;have H:=h G zK.refl;have z5:=sz 5 'c';have z4:=sz 4 'c';show zB Γ XN wC { nx:=λ_ G'=>Q .non G',rt:=Q} [some (.str y.s),some (ow s),p⁻¹] G;simp only[wC];refine yT ?_
 erw[yZ,qR,L3.inR,zzC,zzL,zzA,Nat.reduceAdd,z5,true_and,zzB,if_false]
 refine⟨'h',?_⟩;rw[in_md]
 have md:mdY y->zB Γ XN {.ret (.call 17 {.var 0,.var 1,.var 2})} { nx:=zB Γ XN .nil { nx:=λ_ G'=>False,rt:=Q},rt:=Q} [some (.str y.s),some (ow s),p⁻¹] G:=by
  intro m;refine yT ?_
  erw[e17]
  exact⟨y,s,p,t,rfl,m,gp,tn,hs,ht,h⟩
 have rest:isMd y=false->zB Γ XN (tl wC) { nx:=λ_ G'=>Q .non G',rt:=Q} [some (.str y.s),some (ow s),p⁻¹] G:=by
  intro hm;simp only[wC,tl];refine yT ?_
  erw[yZ,qR,L3.inR,zzC,zzL,zzA,Nat.reduceAdd,z4,true_and,zzB,if_false]
  refine⟨'h',?_⟩;rw[in_tk];have n1:(("put":Str) == "all")=false/\(("cases":Str) == "all")=false/\(("cases":Str) == "put")=false:=by decide +kernel
  cases y with
  |left=>simp only[isTk,if_true];refine yT ?_;erw[e18];exact⟨.left,s,p,t,rfl,trivial,gp,tn,hs,ht,h⟩
  |right=>simp only[isTk,if_true];refine yT ?_;erw[e18];exact⟨.right,s,p,t,rfl,trivial,gp,tn,hs,ht,h⟩
  |use=>simp only[isTk,if_true];refine yT ?_;erw[e18];exact⟨.use,s,p,t,rfl,trivial,gp,tn,hs,ht,h⟩
  |clash=>simp only[isTk,if_true];refine yT ?_;erw[e18];exact⟨.clash,s,p,t,rfl,trivial,gp,tn,hs,ht,h⟩
  |all =>
   obtain⟨x,rfl⟩:=kJ tn;simp only[isTk,zzB,if_false];refine kZ ?_;refine yT ?_
   erw[Wy.s,yZ,zC,beq_self_eq_true,if_true]
   refine yT ?_
   erw[]
   refine kD (zQ gp) ?_;rw[zzU,jS];simp only[yZ,isO,isnO,zG]
   cases x with
   |none=>cases s<;>exact H
   |some u=>cases s<;>exact H
  |put =>
   obtain⟨x,z,rfl⟩:=pG tn;simp only[isTk,zzB,if_false];refine kZ ?_;refine yT ?_
   erw[Wy.s,yZ,zC,n1,zzB,if_false]
   refine kZ ?_;refine yT ?_
   erw[Wy.s,yZ,zC,beq_self_eq_true,if_true]
   refine yT ?_
   erw[]
   refine kD (zQ gp) ?_;rw[zzU,zzU,jS];simp only[yZ,isnO,zG]
   cases x with
   |none=>cases s<;>exact H
   |some u =>
    simp only[Zan,if_true];refine kD (zQ gp) ?_;rw[zzU,zzU,at_1];simp only[yZ,wK (a:=z) (λv e=>ht v (by rw[← e];simp))];simpa only [gone,xO] using H
  |cases =>
   obtain⟨x,z,v,rfl⟩:=zaQ tn;simp only[isTk,zzB,if_false];refine kZ ?_;refine yT ?_
   erw[Wy.s,yZ,zC,n1,zzB,if_false]
   refine kZ ?_;refine yT ?_
   erw[Wy.s,yZ,zC,n1,zzB,if_false]
   refine kZ ?_;refine yT ?_
   erw[e16]
   refine kD (zQ gp) ?_;rw[zzU,zzU,zzU,jS];refine⟨x,rfl,?_⟩;simp only[yZ,zcg,zG]
   cases x with
   |none=>cases s<;>exact H
   |some u =>
    cases u with
    |or a b =>
     refine yes rfl ?_;refine kD (zQ gp) ?_;rw[zzU,zzU,zzU,at_1];simp only[yZ,wK (a:=z) (λw e=>ht w (by rw[← e];simp)),zG];simp only[gone,xO] at H
     cases h1:vO z s with
     |false=>rw[h1] at H;simpa using H
     |true =>
      rw[h1] at H;refine yes rfl ?_;refine kD (zQ gp) ?_;rw[zzU,zzU,zzU,at_2];simp only[yZ,wK (a:=v) (λw e=>ht w (by rw[← e];simp))];simpa using H
    |_=>cases s<;>exact H
  |given=>exact absurd rfl hy
  |both=>cases hm
  |one=>cases hm
  |two=>cases hm
  |thn=>cases hm
  |not=>cases hm
 simp only[wC,tl] at rest
 cases y with
 |both=>exact md trivial
 |one=>exact md trivial
 |two=>exact md trivial
 |thn=>exact md trivial
 |not=>exact md trivial
 |_=>exact kZ (Γ:=Γ) (E:=XN) (rest rfl)
end
noncomputable def Fr (ws:List W) (G:Hw) (Q:Q3):Prop:=∀ r G',zK [] G G'->G r=none->G' r=some (.lst ws)->Q (.ref r) G'
theorem Fr.mono {ws:List W} {G:Hw} {Q Q':Q3} (k:∀ w G',Q w G'->Q' w G') (h:Fr ws G Q):Fr ws G Q':=λr G' a b c=>k _ _ (h r G' a b c)
theorem Fr.of {ws:List W} {G:Hw} {Q:Q3} (h:Fr ws G Q):∀ r,G r=none->Q (.ref r) (put G r (.lst ws)):=λr hr=>h r _ (zK.new hr) hr zL
noncomputable def zb4 (l:List Sy):W:=.tup (l.map Sy.w)
noncomputable def spGo:tO:=λws G Q _=>∃ (y:Wy) (s:Option Sy) (p:Addr) (t:List (Option Sy)) (gs:List (List Sy)),ws=[.str y.s,ow s,.ref p]/\y≠.given/\G p=some (.lst (t.map ow))/\t.length=y.n/\gone y s t []=some gs/\Fr (gs.map zb4) G Q
theorem ze0 (y:Wy):(([W.str "then", .str "not"]:List W).any λw=>xE w (.str y.s))=(match y with|.thn=>true|.not=>true|_=>false):=by cases y<;>rfl
theorem zgk (y:Wy):(y.s==("cases":Str))=(match y with|.cases=>true|_=>false):=by cases y<;>rfl
theorem zif (y:Wy):(y.s==("put":Str))=(match y with|.put=>true|_=>false):=by cases y<;>rfl
noncomputable def isPl:Wy->Bool
 | .given=>false
 | .cases=>false
 | .thn=>false
 | .not=>false
 | .put=>false
 |_=>true
theorem ze2 {y:Wy} (hy:isPl y=true) {s:Option Sy} {t:List (Option Sy)} {g:List Sy} {gs:List (List Sy)} (h:gone y s t g=some gs):gs=t.map (λ_=>[]):=by
 cases y<;>first|(cases hy;done)|(simp only[gone] at h;(repeat' split at h)<;>first|(cases h;done)|(cases h;rfl))
section
variable {Γ:Ctx3}
theorem zj9 {ws:List W} {G:Hw} {Q:Q3} (h:spGo ws G Q XN):zB Γ XN vY { nx:=λ_ G'=>Q .non G',rt:=Q} (yL bO ws) G:=by
 obtain⟨y,s,p,t,gs,rfl,hy,gp,tn,hg,h⟩:=h;have z0:=sz 0 'c';have z1:=sz 1 'c';have z2:=sz 2 'c';have z3:=sz 3 'c';show zB Γ XN vY { nx:=λ_ G'=>Q .non G',rt:=Q} [some (.str y.s),some (ow s),p⁻¹] G
 have plain:gs=t.map (λ_=>[])->t.length<=3->zB Γ XN (tl (tl (tl vY))) { nx:=λ_ G'=>Q .non G',rt:=Q} [some (.str y.s),some (ow s),p⁻¹] G:=by
  intro e l3;simp only[vY,tl];refine yT ?_
  erw[]
  refine rN gp ?_;refine uI (ψ:=λ_=>.tup []) (λG' k=>zQ (k _ _ 'g' gp)) (sz _ (Ze l3 'c')) (λx hx G' K' kp hK=>?_) (λr G1 k1 hr=>?_)
  .simp only[jP,Zg,Zn,List.replicate,zzV,ZC,ZI,Zq]
   erw[if_true,Zn,z0,true_and]
   exact hK G' zK.refl
  .refine h r _ (k1.trans (zK.new hr)) (k1.none 'g' hr) ?_;rw[zL,e,Z8];rfl
 simp only[vY,tl] at plain;simp only[vY];refine yT ?_
 erw[yZ,zC,zgk]
 cases y with
 |given=>exact absurd rfl hy
 |cases =>
  obtain⟨x,z,v,rfl⟩:=zaQ tn
  match x,hg with
  |some (.or a b),hg =>
   simp only[gone] at hg
   split at hg
   .cases hg;simp only[if_true];refine yT ?_
    erw[Zn,z0,true_and]
    refine kD (zQ gp) ?_;rw[zzU,jS]
    erw[ior1,zzC,zzL,zzA,z1,true_and]
    refine kD (zQ gp) ?_;rw[zzU,jS]
    erw[ior2,zzC,zzL,zzA,Nat.reduceAdd,z1,z3,true_and]
    exact h.of
   .cases hg
 |thn =>
  obtain⟨x,rfl⟩:=kJ tn
  match s,hg with
  |some (.ite a b),hg =>
   simp only[gone] at hg
   split at hg
   .cases hg;simp only[zzB,if_false];refine kZ ?_;refine yT ?_
    erw[yZ,qR,L3.inR,zzC,zzL,zzA,Nat.reduceAdd,z2,true_and,zzB,if_false]
    refine⟨'h',?_⟩;rw[ze0];simp only[if_true];refine yT ?_
    erw[iit1,zzC,zzL,zzA,z1,true_and]
    exact h.of
   .cases hg
 |not =>
  obtain⟨x,rfl⟩:=kJ tn
  match s,x,hg with
  |some (.not a),none,hg =>
   cases hg;simp only[zzB,if_false];refine kZ ?_;refine yT ?_
   erw[yZ,qR,L3.inR,zzC,zzL,zzA,Nat.reduceAdd,z2,true_and,zzB,if_false]
   refine⟨'h',?_⟩;rw[ze0];simp only[if_true];refine yT ?_
   erw[ino1,zzC,zzL,zzA,z1,true_and]
   exact h.of
 |put =>
  obtain⟨x,z,rfl⟩:=pG tn
  match x,hg with
  |some v,hg =>
   simp only[gone] at hg
   split at hg
   .cases hg;simp only[zzB,if_false];refine kZ ?_;refine yT ?_
    erw[yZ,qR,L3.inR,zzC,zzL,zzA,Nat.reduceAdd,z2,true_and,zzB,if_false]
    refine⟨'h',?_⟩;rw[ze0];simp only[zzB,if_false];refine kZ ?_;refine yT ?_
    erw[yZ,zC,zif,if_true]
    refine yT ?_
    erw[Zn,z0,true_and]
    refine kD (zQ gp) ?_;rw[zzU,jS]
    erw[zzC,zzL,zzA,Nat.reduceAdd,z1,z2,true_and]
    exact h.of
   .cases hg
 |_ =>
  have q:=plain (ze2 rfl hg) (by rw[tn];decide);simp only[zzB,if_false];refine kZ ?_;refine yT ?_
  erw[yZ,qR,L3.inR,zzC,zzL,zzA,Nat.reduceAdd,z2,true_and,zzB,if_false]
  refine⟨'h',?_⟩;rw[ze0];simp only[zzB,if_false];refine kZ ?_;refine yT ?_
  erw[yZ,zC,zif,zzB,if_false]
  exact kZ (Γ:=Γ) (E:=XN) q
end
noncomputable def wys:List Wy:=[.given,.both,.left,.right,.one,.two,.cases,.thn,.use,.not,.clash,.all,.put]
noncomputable def whyK:List Str:=["given", "both", "left", "right", "one", "two", "cases", "then", "use", "not", "clash", "all", "put"]
noncomputable def whyV:List W:=[.int 0,.int 2,.int 1,.int 1,.int 1,.int 1,.int 3,.int 1,.int 2,.int 1,.int 2,.int 1,.int 2]
noncomputable def uQ (x:Str):Option Wy:=wys.find? λy=>x==y.s
noncomputable def wyN (x:Str):W:=match uQ x with|some y=>.int y.n|none=>.non
theorem zbY {x:Str} {y:Wy} (h:uQ x=some y):x=y.s:=by simpa using List.find?_some h
theorem zbX (y:Wy):uQ y.s=some y:=by cases y<;>rfl
theorem zba (k:Str):∀ l:List Wy,((l.map Wy.s).zip (l.map λy=>W.int y.n)).lookup k=(l.find? λy=>k==y.s).map λy=>W.int y.n
 | []=>rfl
 |y::l=>by
  simp only[zzU,ZS,List.lookup,List.find?]
  cases h:k==y.s with
  |true=>rfl
  |false=>exact zba k l
theorem zeJ (k:Str):((whyK.zip whyV).lookup k).getD .non=wyN k:=by
 have e:((whyK.zip whyV).lookup k)=(uQ k).map λy=>W.int y.n:=zba k wys;rw[e];unfold wyN;cases uQ k<;>rfl
noncomputable def yJ (ah:List Rw) (k:Int):Rw:=ah.getD k.toNat ⟨[],none, "", []⟩
noncomputable def qC (g:List Sy) (x:Sy):Bool:=inL (g.map Sy.w) x.w
noncomputable def inA (r:Rw) (ah:List Rw):Bool:=r.a.all λk=>decide (0<=k)&&decide (k<ah.length)
noncomputable def qS (r:Rw) (ah:List Rw):List (Option Sy):=r.a.map λk=>(yJ ah k).s
noncomputable def cov (g:List Sy) (ps:List (Rw×List Sy)):Bool:=ps.all λp=>p.1.g.all λx=>qC g x || qC p.2 x
noncomputable def yK (r:Rw) (ah:List Rw):Bool:=rise r.g&&(inA r ah&&match uQ r.y with
 |none=>false
 |some y=>match gone y r.s (qS r ah) r.g with
  |none=>false
  |some gs=>cov r.g ((r.a.map (yJ ah)).zip gs))
theorem ze6 {y:Wy} {s:Option Sy} {t:List (Option Sy)} {g:List Sy} {gs:List (List Sy)} (h:gone y s t g=some gs):t.length=y.n:=by
 cases y<;>simp only[gone] at h<;>(repeat' split at h)<;>first|(cases h;done)|rfl|skip
 rename_i e;rw[Zm,List.isEmpty_iff] at e;rw[e.1];rfl
theorem zj8 {y:Wy} (hy:y≠.given) {s:Option Sy} {t:List (Option Sy)} {g:List Sy}:gone y s t g=gone y s t []:=by
 cases y<;>first|rfl|exact absurd rfl hy
theorem zjH {α β:Type} {as:List α} {φ:α->W} {bs:α->List β} {χ:β->W} {ψ:α->β->W} {σ2:α->xZ} {stab:Hw->Prop} {G1:Hw} {o:W->Hw->(List W->(Hw->Prop)->xZ->Hw->Prop)->Prop} {n:W->xZ->Hw->(Option W->Hw->Prop)->Prop} {Q:Q3}
  (hs:∀ G',zK [] G1 G'->stab G') (hl:(as.flatMap λa=>(bs a).map (ψ a)).length<3000)
  (ho:∀ a∈as,∀ (G':Hw) (K':List W->(Hw->Prop)->xZ->Hw->Prop),zK [] G1 G'->K' ((bs a).map χ) (λ_=>True) (σ2 a) G'->o (φ a) G' K')
  (hi:∀ a∈as,∀ b∈bs a,∀ (G':Hw) (K':Option W->Hw->Prop),zK [] G1 G'->K' (some (ψ a b)) G'->n (χ b) (σ2 a) G' K')
  (hq:∀ p G',zK [] G1 G'->G' p=none->Q (.ref p) (put G' p (.lst (as.flatMap λa=>(bs a).map (ψ a))))):lc2R (as.map φ) stab G1 o n Q:=by
 refine⟨λi acc G'=>zK [] G1 G'/\acc=(as.take i).flatMap λa=>(bs a).map (ψ a),⟨zK.refl,rfl⟩,λi acc G' h _=>hs G' h.1,?_,?_⟩
 .rintro i w acc G' hw ⟨kp,rfl⟩;rw[Zz] at hw;obtain⟨a,ha,rfl⟩:=ZK.mp hw;obtain⟨hx,e⟩:=Zp.mp ha;have am:=Zw ha;refine ho a am G' _ kp ⟨λj acc G''=>zK [] G1 G''/\acc=((as.take i).flatMap λa=>(bs a).map (ψ a))++((bs a).take j).map (ψ a),⟨kp,by simp⟩,?_,?_,?_⟩
  .rintro j acc G'' ⟨k2,rfl⟩ _;refine⟨trivial,?_⟩;have hd:as=as.take i++a::as.drop (i+1):=by rw[← e,← ZaK hx,List.take_append_drop]
   have e2:(as.flatMap λa=>(bs a).map (ψ a)).length=((as.take i).flatMap λa=>(bs a).map (ψ a)).length+((bs a).length+((as.drop (i+1)).flatMap λa=>(bs a).map (ψ a)).length):=by
    conv=>lhs;rw[hd]
    rw[List.flatMap_append,zzW,Za3,zzW,zzM]
   rw[Z2,zzW,zzM,Z0];omega
  .rintro j y acc G'' hy ⟨k2,rfl⟩;rw[Zz] at hy;obtain⟨b,hb,rfl⟩:=ZK.mp hy;obtain⟨hz,e3⟩:=Zp.mp hb;refine hi a am b (Zw hb) G'' _ k2 ⟨k2,?_⟩;rw[ZF hz,e3,ZV,List.append_assoc];rfl
  .rintro acc G'' ⟨k2,rfl⟩;refine⟨k2,?_⟩;rw[zzM,Z9,ZF hx,e,List.flatMap_append,Za3,List.flatMap_nil,Zq]
 .rintro acc G' ⟨kp,rfl⟩ p hp;rw[zzM,Z9];exact hq p G' kp hp
noncomputable def spGd:tO:=λws G Q _=>∃ (r:Rw) (ah:List Rw),ws=[r.w,.tup (ah.map Rw.w)]/\r.ok/\(∀ x∈ah,x.ok)/\∀ G',zK [] G G'->Q (.bl (yK r ah)) G'
theorem rO {ws:List W} {G:Hw} {R:List W->(Hw->Prop)->Hw->Prop} (h:R ws (λ_=>True) G):uH (.tup ws) G R:=h
theorem lenT {G:Hw} {ws:List W}:mF [.tup ws] G=λQ=>Q (.int ws.length) G:=rfl
theorem cL {G:Hw} {b:Bool}:truW G (.bl b)=some b:=rfl
theorem joS {α:Type} {x:α}:(some (some x)).join=some x:=rfl
theorem ixT {l:List W} {i:Int} {w:W} {G:Hw} {Q:Q3} (e:tU l i=some w) (h:Q w G):qD (.tup l) (.int i) G Q:=by simp only[qD,e];exact h
noncomputable def cntW (x:Str) (n:Nat):Bool:=match uQ x with|some y=>decide (y.n=n)|none=>false
theorem zju {G:Hw} (x:Str) (n:Nat):sM G (wyN x) (.int n)=some (cntW x n):=by
 unfold wyN cntW
 cases uQ x with
 |none=>exact zku
 |some y=>simp[sM,pur,dep,xE,Za8];exact Int.ofNat_inj
theorem zdR {ah:List Rw} {k:Int} (h0:0<=k) (h1:k<ah.length):tU (ah.map Rw.w) k=some (yJ ah k).w:=by
 have hi:k.toNat<ah.length:=by omega
 unfold tU ixN;rw[if_pos h0,zzM,if_pos h1];show(ah.map Rw.w)[k.toNat]?=_;rw[Zz,Zf hi];simp[yJ,List.getD,Zf hi]
theorem bW {ah:List Rw} {k:Int} (h0:0<=k) (h1:k<ah.length):yJ ah k∈ah:=by
 have hi:k.toNat<ah.length:=by omega
 simp[yJ,List.getD,Zf hi]
theorem pW {r:Rw} (h:r.ok):r.g.length<=30/\∀ x∈r.g,x.size<=20:=⟨Ze h.g 'c',h.z⟩
theorem in_g {g:List Sy} {w:W} {G:Hw} {Q:Q3} (hz:∀ x∈g,x.size<=20) (p:pur w=true) (q:Q (.bl (inL (g.map Sy.w) w)) G):qR false w (.tup (g.map Sy.w)) G Q :=
 inW p (bT g) (Ze (pQ hz) 'c') q
theorem zbq {α β:Type} (f:α->β->Bool) (bs:α->List β):∀ as:List α,((as.flatMap λa=>(bs a).map (f a)).all id)=as.all λa=>(bs a).all (f a)
 | []=>rfl
 |a::as=>by rw[Za3,List.all_append,zbq f bs as,Za9];rfl
theorem zbg {α β γ:Type} {f:α->β->γ} {bs:α->List β} {m:Nat}:∀ {as:List α},(∀ a∈as,(bs a).length<=m)->(as.flatMap λa=>(bs a).map (f a)).length<=as.length * m
 | [],_=>Zy _
 |a::as,h=>by
  have h1:=h a zzT;have h2:=zbg (f:=f) (as:=as) λx hx=>h x (Zi _ hx);rw[Za3,zzW,zzM,Zg,Nat.succ_mul];omega
theorem zde {y:Wy} {s:Option Sy} {t:List (Option Sy)} {g:List Sy} {gs:List (List Sy)} (hs:∀ x,s=some x->x.size<=20) (ht:∀ x,some x∈t->x.size<=20) (h:gone y s t g=some gs):∀ l∈gs,∀ x∈l,x.size<=20:=by
 cases y<;>simp only[gone] at h<;>(repeat' split at h)<;>first|(cases h;done)|skip
 all_goals
  cases h;intro l hl x hx
  first|(simp only[Zt] at hl;done)|(simp only[Zh,Zt,or_false] at hl;rcases hl with rfl|rfl|rfl<;>simp at hx<;>subst hx<;>first|exact(sz1 (hs _ rfl)).1|exact(sz1 (ht _ zzT)).1|exact(sz1 (ht _ zzT)).2|exact ht _ zzT|exact ZbE (hs _ rfl))
theorem zid (rs:List Rw) (gs:List (List Sy)):List.zipWith (λx y=>W.tup [x,y]) (rs.map Rw.w) (gs.map zb4)=(rs.zip gs).map λp=>.tup [p.1.w,zb4 p.2]:=by
 rw[ZbO,List.zip,ZbN]
section
variable {Γ:Ctx3} (e1:Γ.fn[1]? = some rC) (e2:Γ.fn[2]? = some eAll) (e19:Γ.fn[19]? = some ⟨"why_lets", cF⟩) (e20:Γ.fn[20]?=some ⟨"is_rising", cG⟩) (e21:Γ.fn[21]?=some ⟨"let_go", spGo⟩) (i1:Γ.it[1]?=some eZpi) (s2:Γ.sx[2]?=some ⟨getM "WHYS", getS whyK whyV⟩)
include e1 e2 e19 e20 e21 i1 s2
theorem ze3 {ws:List W} {G:Hw} {Q:Q3} (h:spGd ws G Q XN):zB Γ XN sS { nx:=λ_ G'=>Q .non G',rt:=Q} (yL nI ws) G:=by
 obtain⟨r,ah,rfl,ro,ao,h⟩:=h;show zB Γ XN sS { nx:=λ_ G'=>Q .non G',rt:=Q} [some (.tup [.tup (r.g.map Sy.w),ow r.s,.str r.y,.tup (r.a.map .int)]),some (.tup (ah.map Rw.w)),none,none,none,none,none,none] G;have al:r.a.length<=sizeLine:=sz _ (Ze ro.a 'c');simp only[sS];refine yT ?_
 erw[unl]
 refine yT ?_
 erw[e20]
 refine⟨r.g,rfl,(pW ro).1,(pW ro).2,λG1 k1=>?_⟩
 erw[cL]
 have no:yK r ah=false->∀ G',zK [] G G'->Q (.bl false) G':=λe G' k=>e▸h G' k
 cases hr:rise r.g with
 |false =>
  erw[if_true,Zap]
  refine yT ?_;exact no (by simp[yK,hr]) G1 k1
 |true =>
  erw[if_true,ZY,zzB,if_false,s2,getS,zeJ,e1,lenT,zzM,yZ,zju]
  cases hw:cntW r.y r.a.length with
  |false =>
   erw[hw,if_true,Zap]
   refine yT ?_;refine no ?_ G1 k1;unfold yK;unfold cntW at hw
   split at hw
   .rename_i y ey;rw[ey]
    cases hg:gone y r.s (qS r ah) r.g with
    |none=>simp[hg]
    |some gs =>
     have:=ze6 hg;rw[qS,zzM] at this;rw[this] at hw;simp at hw
   .rename_i ey;rw[ey];simp
  |true =>
   erw[hw,ZY,zzB,if_false,e2]
   refine rO (uI (ψ:=λk=>.bl (decide (0<=k)&&decide (k<(ah.length:Int)))) (λG' _=>trivial) al (λk hk G' K' kp hK=>?_) (λp G2 k2 hp=>?_))
   .simp only[jP,Zg,Zn,List.replicate,zzV,zzU,ZC,ZI,Zq]
    erw[if_true,leR]
    by_cases h0:(0:Int)<=k
    .rw[decide_eq_true h0]
     erw[if_true,joS,e1,lenT,zzM,ltT,nQ]
     have:=hK G' zK.refl;rw[decide_eq_true h0,Zb2] at this;exact this
    .rw[decide_eq_false h0];have:=hK G' zK.refl;rw[decide_eq_false h0,ZbZ] at this;exact this
   have k3:=k1.trans (k2.trans (zK.new (o:=.lst (r.a.map λk=>.bl (decide (0<=k)&&decide (k<(ah.length:Int))))) hp));refine⟨r.a.map λk=>decide (0<=k)&&decide (k<(ah.length:Int)),zQ (by rw[zL,Z8];rfl),?_⟩;have ea:((r.a.map λk=>decide (0<=k)&&decide (k<(ah.length:Int))).all id)=inA r ah:=by rw[Za9];rfl
   dsimp only;rw[ea];generalize put G2 p (.lst (r.a.map λk=>.bl (decide (0<=k)&&decide (k<(ah.length:Int)))))=G3 at k3 ⊢
   clear hp k2 ea
   cases hi:inA r ah with
   |false =>
    erw[cL,if_true,Zap]
    refine yT ?_;exact no (by simp[yK,hi]) G3 k3
   |true =>
    erw[cL,ZY,zzB,if_false]
    refine kZ ?_;have hin:∀ k∈r.a,0<=k/\k<(ah.length:Int):=λk hk=>by simpa using ZZ.mp hi k hk
    refine yT ?_
    erw[]
    refine rO (uI (ψ:=λk=>(yJ ah k).w) (λG' _=>trivial) al (λk hk G' K' kp hK=>?_) (λp6 G4 k4 h6=>?_))
    .simp only[jP,Zg,Zn,List.replicate,zzV,zzU,ZC,ZI,Zq]
     erw[if_true,joS]
     exact ixT (zdR (hin k hk).1 (hin k hk).2) (hK G' zK.refl)
    have g6:(put G4 p6 (.lst (r.a.map λk=>(yJ ah k).w))) p6=some (.lst ((r.a.map (yJ ah)).map Rw.w)):=by rw[zL,Z8];rfl
    have k5:=k3.trans (k4.trans (zK.new (o:=.lst (r.a.map λk=>(yJ ah k).w)) h6));generalize put G4 p6 (.lst (r.a.map λk=>(yJ ah k).w))=G5 at k5 g6 ⊢
    clear h6 k4
    refine yT ?_
    erw[]
    refine rN g6 ?_;have rl:(r.a.map (yJ ah)).length<=20:=by rw[zzM];exact ro.a
    refine uI (ψ:=λx=>ow x.s) (λG' k=>zQ (k _ _ 'g' g6)) (sz _ (Ze rl 'c')) (λx hx G' K' kp hK=>?_) (λp7 G6 k6 h7=>?_)
    .simp only[jP,Zg,Zn,List.replicate,zzV,zzU,ZC,ZI,Zq]
     erw[if_true,Rw.w,ix1]
     exact hK G' zK.refl
    have g7:(put G6 p7 (.lst ((r.a.map (yJ ah)).map λx=>ow x.s))) p7=some (.lst ((qS r ah).map ow)):=by rw[zL,qS,Z8,Z8];rfl
    have k7':=k6.trans (zK.new (o:=.lst ((r.a.map (yJ ah)).map λx=>ow x.s)) h7);have g6':=k7' _ _ 'g' g6;have k7:=k5.trans k7';generalize put G6 p7 (.lst ((r.a.map (yJ ah)).map λx=>ow x.s))=G7 at k7 g7 g6' ⊢
    clear h7 k6 k7'
    refine yT ?_
    erw[yZ,zC]
    cases hy:uQ r.y with
    |none=>rw[cntW,hy] at hw;cases hw
    |some y =>
     rw[cntW,hy] at hw;have hn:y.n=r.a.length:=by simpa using hw
     have ey:=zbY hy;have eg:yK r ah=(match gone y r.s (qS r ah) r.g with|none=>false|some gs=>cov r.g ((r.a.map (yJ ah)).zip gs)):=by unfold yK;rw[hr,hi,hy];rfl
     have tn:(qS r ah).length=y.n:=by rw[qS,zzM,hn]
     have ht:∀ x,some x∈qS r ah->x.size<=20:=λx hx=>by
      obtain⟨k,hk,e⟩:=zzP hx;exact(ao _ (bW (hin k hk).1 (hin k hk).2)).s x e
     by_cases gv:y=.given
     .subst gv;rw[show(r.y==("given":Str))=true by rw[ey];rfl]
      erw[if_true]
      refine yT ?_
      erw[yZ]
      refine in_g ro.z (sF _) ?_;have:=h G7 k7;rw[eg] at this;have t0:qS r ah=[]:=ZaA tn;rw[t0] at this;simp only[gone,List.isEmpty_nil,Zb2] at this
      cases hq:inL (r.g.map Sy.w) (ow r.s) with
      |true=>rw[hq] at this;simpa[cov] using this
      |false=>rw[hq] at this;exact this
     .have hne:(r.y==("given":Str))=false:=by
       rw[ey];cases y<;>first|exact absurd rfl gv|decide +kernel
      rw[hne]
      erw[zzB,if_false]
      refine kZ ?_;refine yT ?_
      erw[e19]
      refine⟨y,r.s,p7,qS r ah,by rw[ey],gv,g7,tn,ro.s,ht,λG8 k8=>?_⟩
      erw[]
      rw[zj8 gv] at eg
      cases hg:gone y r.s (qS r ah) [] with
      |none =>
       rw[hg] at eg;simp only[Zbs,zzB,if_false];exact no eg G8 (k7.trans k8)
      |some gs =>
       rw[hg] at eg;simp only[Zan,if_true]
       erw[e21]
       refine⟨y,r.s,p7,qS r ah,gs,by rw[ey],gv,k8 _ _ 'g' g7,tn,hg,λpg G9 k9 _ g9=>?_⟩
       erw[i1]
       have g6'':=(k8.trans k9) _ _ 'g' g6';refine⟨(r.a.map (yJ ah)).map Rw.w,gs.map zb4,zQ g6'',zQ g9,?_⟩;rw[zid]
       have zm:∀ p∈(r.a.map (yJ ah)).zip gs,p.1.ok/\∀ x∈p.2,x.size<=20:=λp hp=>by
        obtain⟨h1,h2⟩:=Zas hp;obtain⟨k,hk,e⟩:=zzP h1;exact⟨e▸ao _ (bW (hin k hk).1 (hin k hk).2),zde ro.s ht hg _ h2⟩
       refine zjH (bs:=λp=>p.1.g) (χ:=Sy.w) (ψ:=λp x=>.bl (qC r.g x || qC p.2 x)) (σ2:=λp=>[some p.1.w,some (zb4 p.2),none,some (.tup (r.g.map Sy.w))]) (λG' k=>⟨zQ (k _ _ 'g' g6''),zQ (k _ _ 'g' g9)⟩) ?_ (λp hp G' K' kp hK=>?_) (λp hp x hx G' K' kp hK=>?_) (λpz G' kp hpz=>?_)
       .have h1:=zbg (f:=λ(p:Rw×List Sy) (x:Sy)=>W.bl (qC r.g x || qC p.2 x)) (bs:=λp=>p.1.g) (m:=20) (as:=(r.a.map (yJ ah)).zip gs) λp hp=>(zm p hp).1.g;have h2:((r.a.map (yJ ah)).zip gs).length<=20:=Ze (by rw[Zbi];exact ZaE _ _) rl;exact ZaW (Ze h1 (Nat.mul_le_mul_right 20 h2)) 'c'
       .simp only[jP,Zg,Zn,List.replicate,zzV,zzU,ZC,ZI,Zq]
        erw[joS,Rw.w,ix0]
        exact rO hK
       ·erw[if_true,yZ]
        refine in_g ro.z x.pur ?_;simp only[zG]
        cases hq:inL (r.g.map Sy.w) x.w with
        |true =>
         simp only[if_true];rw[qC,hq,ZbS] at hK;exact hK
        |false =>
         simp only[zzB,if_false];refine in_g (zm p hp).2 x.pur ?_;rw[qC,hq,ZbI] at hK;exact hK
       ·erw[e2]
        refine⟨((r.a.map (yJ ah)).zip gs).flatMap λp=>p.1.g.map λx=>qC r.g x || qC p.2 x,zQ (by rw[zL,List.map_flatMap];simp only[Z8];rfl),?_⟩;dsimp only;rw[zbq (λ(p:Rw×List Sy) (x:Sy)=>qC r.g x || qC p.2 x) (λp=>p.1.g)];have:=h _ (((k7.trans k8).trans k9).trans (kp.trans (zK.new (o:=.lst (((r.a.map (yJ ah)).zip gs).flatMap λp=>p.1.g.map λx=>.bl (qC r.g x || qC p.2 x))) hpz)));rw[eg] at this;exact this
end
noncomputable def jR:Option Sy->Str
 |none => "none"
 |some (.say _) => "say"
 |some (.not _) => "not"
 |some (.and _ _) => "and"
 |some (.or _ _) => "or"
 |some (.ite _ _) => "if"
theorem zaw {a b:Option Sy}:vO a b=true↔a=b:=by
 constructor
 .intro h
  cases a with
  |none =>
   cases b with
   |none=>rfl
   |some v=>cases v<;>cases h
  |some u =>
   cases b with
   |none=>cases u<;>cases h
   |some v=>rw[Sy.eqw u v h]
 .rintro rfl;exact uZ (sF a)
noncomputable def Ls (G:Hw):List W->List (List Sy)->Prop
 | [],[]=>True
 |w::ws,l::ls=>(∃ p,w=.ref p/\G p=some (.lst (l.map Sy.w)))/\Ls G ws ls
 |_,_=>False
noncomputable def Gn (gs:List (List Sy)) (G:Hw) (Q:Q3):Prop:=∀ r ws G',zK [] G G'->G' r=some (.lst ws)->Ls G' ws gs->Q (.ref r) G'
theorem Gn.keep {gs:List (List Sy)} {G G':Hw} {Q:Q3} (h:Gn gs G Q) (k:zK [] G G'):Gn gs G' Q:=λr ws G2 a b c=>h r ws G2 (k.trans a) b c
theorem jZ {G G':Hw} {p:Addr} {u:O} (k:zK [] G G') (h:G p=some u):G' p=some u:=k _ _ 'g' h
theorem kn {G:Hw} {r:Addr} {o:O} (h:G r=none):zK [] G (put G r o):=zK.new h
theorem gn1 {l:List Sy} {G:Hw} {Q:Q3} (H:Gn [l] G Q) (a:Addr) (ha:G a=none) (r:Addr) (hr:put G a (.lst (l.map Sy.w)) r=none):Q (.ref r) (put (put G a (.lst (l.map Sy.w))) r (.lst [.ref a])) :=
 H r _ _ ((zK.new ha).trans (zK.new hr)) zL ⟨⟨a,rfl,jZ (zK.new hr) zL⟩,trivial⟩
theorem gn2 {l m:List Sy} {G:Hw} {Q:Q3} (H:Gn [l,m] G Q) (a:Addr) (ha:G a=none) (b:Addr) (hb:put G a (.lst (l.map Sy.w)) b=none) (r:Addr) (hr:put (put G a (.lst (l.map Sy.w))) b (.lst (m.map Sy.w)) r=none):Q (.ref r) (put (put (put G a (.lst (l.map Sy.w))) b (.lst (m.map Sy.w))) r (.lst [.ref a,.ref b])) :=
 H r _ _ (((zK.new ha).trans (zK.new hb)).trans (zK.new hr)) zL ⟨⟨a,rfl,jZ ((zK.new hb).trans (zK.new hr)) zL⟩,⟨b,rfl,jZ (zK.new hr) zL⟩,trivial⟩
theorem gn3 {l m n:List Sy} {G:Hw} {Q:Q3} (H:Gn [l,m,n] G Q) (a:Addr) (ha:G a=none) (b:Addr) (hb:put G a (.lst (l.map Sy.w)) b=none) (c:Addr) (hc:put (put G a (.lst (l.map Sy.w))) b (.lst (m.map Sy.w)) c=none) (r:Addr) (hr:put (put (put G a (.lst (l.map Sy.w))) b (.lst (m.map Sy.w))) c (.lst (n.map Sy.w)) r=none):Q (.ref r) (put (put (put (put G a (.lst (l.map Sy.w))) b (.lst (m.map Sy.w))) c (.lst (n.map Sy.w))) r (.lst [.ref a,.ref b,.ref c])) :=
 H r _ _ ((((zK.new ha).trans (zK.new hb)).trans (zK.new hc)).trans (zK.new hr)) zL ⟨⟨a,rfl,jZ (((zK.new hb).trans (zK.new hc)).trans (zK.new hr)) zL⟩,⟨b,rfl,jZ ((zK.new hc).trans (zK.new hr)) zL⟩,⟨c,rfl,jZ (zK.new hr) zL⟩,trivial⟩
theorem eqF {G:Hw} {p q:Addr} {a b:List W} (hp:G p=some (.lst a)) (hq:G q=some (.lst b)) (pa:yH a=true) (pb:yH b=true) (d:xS a<=100):sM G (.ref p) (.ref q)=some (yS a b):=by
 simp only[sM,zQ hp,zQ hq];rw[if_pos];rw[pa,pb,decide_eq_true (Ze (ZaE _ _) (Ze d 'c'))];rfl
noncomputable def cH:Nat->ISs->IS
 | 0,.cons s _=>s
 |n+1,.cons _ ss=>cH n ss
 |_,.nil=>.pass
section
variable {Γ:Ctx3}
theorem skE {σ:xZ} {x z:Str} {c:IE} {b ss:ISs} {D:End3} {G:Hw} (h0:σ[0]?=some (some (.str x))) (hz:(x==z)=false) (h:zB Γ XN ss D σ G):zB Γ XN (.cons (.ite (.and (.cmp .Eq 'j' (.con (.str z))) c) b .nil) ss) D σ G:=by
 refine yT ?_
 erw[h0,yZ,zC,hz,zzB,if_false]
 exact h
theorem skI {σ:xZ} {x z y:Str} {c:IE} {b ss:ISs} {D:End3} {G:Hw} (h0:σ[0]?=some (some (.str x))) (hz:(x==z)=false) (hy:(x==y)=false) (h:zB Γ XN ss D σ G):zB Γ XN (.cons (.ite (.and (.cmp .In 'j' (.tup {.con (.str z),.con (.str y)})) c) b .nil) ss) D σ G:=by
 refine yT ?_
 erw[h0,yZ,qR,L3.inR,zzC,zzL,zzA,Nat.reduceAdd,zzB,if_false]
 refine⟨sz 2 'c','h',?_⟩
 have e:([W.str z,.str y].any λw=>xE w (.str x))=false:=by
  have h1:(z==x)=false:=by rw[← hz];exact Bool.beq_comm
  have h2:(y==x)=false:=by rw[← hy];exact Bool.beq_comm
  simp[xE,h1,h2]
 rw[e]
 erw[zzB,if_false]
 exact h
end
noncomputable abbrev gsg (x:Str) (s:Option Sy) (p:Addr) (g:List Sy) (q:Addr):xZ:=[some (.str x),some (ow s),p⁻¹,some (.tup (g.map Sy.w)),q⁻¹,some (.str (jR s))]
structure Gi (s:Option Sy) (t:List (Option Sy)) (g:List Sy) (p q:Addr) (G:Hw):Prop where
 p:G p=some (.lst (t.map ow))
 q:G q=some (.lst (t.map λx=>.str (jR x)))
 s:∀ x,s=some x->x.size<=20
 t:∀ x,some x∈t->x.size<=20
 g:∀ x∈g,x.size<=20
theorem Gi.keep {s:Option Sy} {t:List (Option Sy)} {g:List Sy} {p q:Addr} {G G':Hw} (h:Gi s t g p q G) (k:zK [] G G'):Gi s t g p q G':=⟨jZ k h.p,jZ k h.q,h.s,h.t,h.g⟩
noncomputable def GnY (Γ:Ctx3) (y:Wy) (j:Nat):Prop:=∀ {s:Option Sy} {t:List (Option Sy)} {g:List Sy} {p q:Addr} {G:Hw} {rest:ISs} {D:End3},Gi s t g p q G ->
 (gone y s t g=none->∀ G',zK [] G G'->zB Γ XN rest D (gsg y.s s p g q) G')->(∀ gs,gone y s t g=some gs->Gn gs G D.rt)->zB Γ XN (.cons (cH j yQ) rest) D (gsg y.s s p g q) G
theorem zhD {s:Option Sy} {t u:List (Option Sy)} {g:List Sy} {p q r:Addr} {G:Hw} {us:List W} (I:Gi s t g p q G) (hr:G r=none) (e:us=u.map ow):sM (put G r (.lst us)) (.ref p) (.ref r)=some (yS (t.map ow) us):=by
 rw[e];exact eqF (jZ (zK.new hr) I.p) zL (wB t) (wB u) (Ze (uS I.t) 'c')
theorem zdr {s:Option Sy} {t:List (Option Sy)} {g:List Sy} {p q r:Addr} {G:Hw} (I:Gi s t g p q G) (hr:G r=none) {a:Option Sy}:sM (put G r (.lst [ow a])) (.ref p) (.ref r)=some (yS (t.map ow) [ow a]):=zhD I hr (u:=[a]) rfl
theorem eq_f2 {s:Option Sy} {t:List (Option Sy)} {g:List Sy} {p q r:Addr} {G:Hw} (I:Gi s t g p q G) (hr:G r=none) {a b:Option Sy}:sM (put G r (.lst [ow a,ow b])) (.ref p) (.ref r)=some (yS (t.map ow) [ow a,ow b]):=zhD I hr (u:=[a,b]) rfl
theorem nU (l:List Str):yH (l.map .str)=true/\xS (l.map .str)=0:=by
 induction l with
 |nil=>exact⟨rfl,rfl⟩
 |cons a l ih=>simp[yH,pur,xS,dep,ih.1,ih.2]
theorem zks {s:Option Sy} {t:List (Option Sy)} {g:List Sy} {p q r:Addr} {G:Hw} {u:Str} (I:Gi s t g p q G) (hr:G r=none):sM (put G r (.lst [.str u])) (.ref q) (.ref r)=some (yS (t.map λx=>.str (jR x)) [.str u]):=by
 have e:(t.map λx=>W.str (jR x))=(t.map jR).map .str:=by rw[Z8];rfl
 refine eqF (jZ (zK.new hr) I.q) zL (e▸(nU _).1) (nU [u]).1 ?_;rw[e,(nU _).2];exact Zy _
theorem hR (a b:Option Sy):vO a b=vO b a:=by rw[Bool.eq_iff_iff,zaw,zaw];exact eq_comm
section
variable {Γ:Ctx3}
theorem ze8:GnY Γ .given 2:=by
 intro s t g p q G rest D I H0 H1;simp only[cH,yQ];refine yT ?_
 erw[Wy.s,yZ,zC,beq_self_eq_true,if_true,Zn]
 refine⟨sz 0 'c',λr hr=>?_⟩;rw[zhD I hr (us:=[]) (u:=[]) rfl];have k:=kn (o:=.lst []) hr
 cases t with
 |cons a t =>
  erw[zzU,zzV,yS,zzB,if_false]
  exact H0 rfl _ k
 |nil =>
  erw[zzV,yS,if_true]
  refine in_g I.g (sF _) ?_
  erw[]
  cases hq:inL (g.map Sy.w) (ow s) with
  |false =>
   erw[zzB,if_false]
   exact H0 (by simp[gone,hq]) _ k
  |true =>
   erw[if_true]
   refine yT ?_
   erw[Zn]
   exact⟨sz 0 'c',λr' hr'=>H1 [] (by simp[gone,hq]) r' [] _ (k.trans (zK.new hr')) zL trivial⟩
theorem zf1 {a b:Sy} {t:List (Option Sy)} {g:List Sy}:gone .both (some (.and a b)) t g=if yS (t.map ow) [ow (some a),ow (some b)]=true then some [[],[]] else none:=by
 match t with
 | [x,z] =>
  simp only[gone,yS,zzU,zzV,Zaw,hR (some a),hR (some b)];rfl
 | []=>simp[gone,yS]
 | [x]=>simp[gone,yS]
 |x::y::z::r=>simp[gone,yS]
theorem zhy:GnY Γ .both 3:=by
 intro s t g p q G rest D I H0 H1;simp only[cH,yQ];refine yT ?_
 erw[Wy.s,yZ,zC,beq_self_eq_true,if_true]
 cases s with
 |none=>exact H0 rfl _ zK.refl
 |some u =>
  cases u with
  |and a b =>
   erw[jR,beq_self_eq_true,if_true,ian1,ian2,zzC,zzL,zzA,Nat.reduceAdd]
   refine⟨sz 2 'c',λr hr=>?_⟩;rw[eq_f2 I hr];have k:=kn (o:=.lst [ow (some a),ow (some b)]) hr;have H0':=λe=>H0 (zf1.trans (if_neg e)) _ k;have H1':=λe=>(H1 _ (zf1.trans (if_pos e))).keep k;generalize yS (t.map ow) [ow (some a),ow (some b)]=c at H0' H1' ⊢
   cases c with
   |false=>exact H0' 'g'
   |true =>
    refine yT (Γ:=Γ) (E:=XN) ?_
    erw[zzC,zzL,zzA,Nat.reduceAdd,sz 0 'c',sz 2 'c',true_and]
    exact gn2 (H1' rfl)
  |_=>exact H0 rfl _ zK.refl
end
theorem uT {G:Hw} {i j:Int}:sM G (.int i) (.int j)=some (i==j):=by simp[sM,pur,dep,xE]
theorem slL {G:Hw} {p:Addr} {ws:List W} {lo hi:Option Int} {Q:Q3} (e:G p=some (.lst ws)) (h:∀ r,G r=none->Q (.ref r) (put G r (.lst (jQ ws lo hi)))):gL (.ref p) lo hi G Q:=by
 simp only[gL,zQ e];exact h
theorem cut_h {x:W} {r:List W}:jQ (x::r) none (some 1)=[x]:=by
 unfold jQ HT.wY;simp
theorem l0 {α:Type} {G:Prop} (h:G):([]:List α).length<=sizeLine/\G:=⟨sz 0 'c',h⟩
theorem l1 {α:Type} {a:α} {G:Prop} (h:G):[a].length<=sizeLine/\G:=⟨sz 1 'c',h⟩
theorem l2 {α:Type} {a b:α} {G:Prop} (h:G):[a,b].length<=sizeLine/\G:=⟨sz 2 'c',h⟩
theorem l6 {α:Type} {a b c d e f:α} {G:Prop} (h:G):[a,b,c,d,e,f].length<=sizeLine/\G:=⟨sz 6 'c',h⟩
theorem l3 {α:Type} {a b c:α} {G:Prop} (h:G):[a,b,c].length<=sizeLine/\G:=⟨sz 3 'c',h⟩
theorem add1 {b:Bool} {G:Hw} {Q:Q3} (h:Q (.int (if b=true then 2 else 1)) G):intS [.bl b] G (λy G2=>qP .Add (.int 1) y G2 Q):=by
 cases b<;>exact h
section
variable {Γ:Ctx3}
theorem zkm {a b:Sy} {t:List (Option Sy)} {g:List Sy}:gone .one (some (.or a b)) t g=if yS (t.map ow) [ow (some a)]=true then some [[]] else none:=by
 match t with
 | [x] =>
  simp only[gone,yS,zzU,zzV,Zaw,hR (some a)];rfl
 | []=>simp[gone,yS]
 |x::y::r=>simp[gone,yS]
theorem zkk {a b:Sy} {t:List (Option Sy)} {g:List Sy}:gone .two (some (.or a b)) t g=if yS (t.map ow) [ow (some b)]=true then some [[]] else none:=by
 match t with
 | [x] =>
  simp only[gone,yS,zzU,zzV,Zaw,hR (some b)];rfl
 | []=>simp[gone,yS]
 |x::y::r=>simp[gone,yS]
theorem zkl {a b:Sy} {t:List (Option Sy)} {g:List Sy}:gone .thn (some (.ite a b)) t g=if yS (t.map ow) [ow (some b)]=true then some [[a]] else none:=by
 match t with
 | [x] =>
  simp only[gone,yS,zzU,zzV,Zaw,hR (some b)];rfl
 | []=>simp[gone,yS]
 |x::y::r=>simp[gone,yS]
theorem zkn {a:Sy} {t:List (Option Sy)} {g:List Sy}:gone .not (some (.not a)) t g=if yS (t.map ow) [ow none]=true then some [[a]] else none:=by
 match t with
 | [none]=>rfl
 | [some v]=>cases v<;>rfl
 | []=>simp[gone,yS]
 |x::y::r=>simp[gone,yS]
theorem zko {a:Sy} {t:List (Option Sy)} {g:List Sy}:gone .all (some a) t g=if yS (t.map ow) [ow none]=true then some [[]] else none:=by
 match t with
 | [none]=>rfl
 | [some v]=>cases v<;>rfl
 | []=>simp[gone,yS]
 |x::y::r=>simp[gone,yS]
theorem zke (e7:Γ.fn[7]?=some eInt):GnY Γ .one 5:=by
 intro s t g p q G rest D I H0 H1;simp only[cH,yQ];refine yT ?_
 erw[Wy.s,yZ,qR,L3.inR,zzB,if_false]
 refine l2 ⟨'h',?_⟩;rw[show([W.str "one", .str "two"].any λw=>xE w (.str "one"))=true from rfl]
 erw[if_true,zC]
 cases s with
 |none=>exact H0 rfl _ zK.refl
 |some u =>
  cases u with
  |or a b =>
   erw[jR,beq_self_eq_true,if_true,yZ,zC,e7]
   refine add1 ?_;show qD (ow (some (.or a b))) (.int 1) G _;rw[ior1];refine l1 λr hr=>?_;rw[zdr I hr];have k:=kn (o:=.lst [ow (some a)]) hr;have H0':=λe=>H0 (zkm.trans (if_neg e)) _ k;have H1':=λe=>(H1 _ (zkm.trans (if_pos e))).keep k;generalize yS (t.map ow) [ow (some a)]=c at H0' H1' ⊢
   cases c with
   |false=>exact H0' 'g'
   |true =>
    refine yT (Γ:=Γ) (E:=XN) ?_
    erw[]
    exact l0 λa ha=>l1 (gn1 (H1' rfl) a ha)
  |_=>exact H0 rfl _ zK.refl
theorem zkb (e7:Γ.fn[7]?=some eInt):GnY Γ .two 5:=by
 intro s t g p q G rest D I H0 H1;simp only[cH,yQ];refine yT ?_
 erw[Wy.s,yZ,qR,L3.inR,zzB,if_false]
 refine l2 ⟨'h',?_⟩;rw[show([W.str "one", .str "two"].any λw=>xE w (.str "two"))=true from rfl]
 erw[if_true,zC]
 cases s with
 |none=>exact H0 rfl _ zK.refl
 |some u =>
  cases u with
  |or a b =>
   erw[jR,beq_self_eq_true,if_true,yZ,zC,e7]
   refine add1 ?_;show qD (ow (some (.or a b))) (.int 2) G _;rw[ior2];refine l1 λr hr=>?_;rw[zdr I hr];have k:=kn (o:=.lst [ow (some b)]) hr;have H0':=λe=>H0 (zkk.trans (if_neg e)) _ k;have H1':=λe=>(H1 _ (zkk.trans (if_pos e))).keep k;generalize yS (t.map ow) [ow (some b)]=c at H0' H1' ⊢
   cases c with
   |false=>exact H0' 'g'
   |true =>
    refine yT (Γ:=Γ) (E:=XN) ?_
    erw[]
    exact l0 λa ha=>l1 (gn1 (H1' rfl) a ha)
  |_=>exact H0 rfl _ zK.refl
theorem zkc:GnY Γ .thn 7:=by
 intro s t g p q G rest D I H0 H1;simp only[cH,yQ];refine yT ?_
 erw[Wy.s,yZ,zC,beq_self_eq_true,if_true]
 cases s with
 |none=>exact H0 rfl _ zK.refl
 |some u =>
  cases u with
  |ite a b =>
   erw[jR,beq_self_eq_true,if_true,iit2]
   refine l1 λr hr=>?_;rw[zdr I hr];have k:=kn (o:=.lst [ow (some b)]) hr;have H0':=λe=>H0 (zkl.trans (if_neg e)) _ k;have H1':=λe=>(H1 _ (zkl.trans (if_pos e))).keep k;generalize yS (t.map ow) [ow (some b)]=c at H0' H1' ⊢
   cases c with
   |false=>exact H0' 'g'
   |true =>
    refine yT (Γ:=Γ) (E:=XN) ?_
    erw[iit1]
    exact l1 λa ha=>l1 (gn1 (H1' rfl) a ha)
  |_=>exact H0 rfl _ zK.refl
theorem zkf:GnY Γ .not 9:=by
 intro s t g p q G rest D I H0 H1;simp only[cH,yQ];refine yT ?_
 erw[Wy.s,yZ,zC,beq_self_eq_true,if_true]
 cases s with
 |none=>exact H0 rfl _ zK.refl
 |some u =>
  cases u with
  |not a =>
   erw[jR,beq_self_eq_true,if_true]
   rw[show(W.non)=ow none from rfl];refine l1 λr hr=>?_;rw[zdr I hr];have k:=kn (o:=.lst [ow none]) hr;have H0':=λe=>H0 (zkn.trans (if_neg e)) _ k;have H1':=λe=>(H1 _ (zkn.trans (if_pos e))).keep k;generalize yS (t.map ow) [ow none]=c at H0' H1' ⊢
   cases c with
   |false=>exact H0' 'g'
   |true =>
    refine yT (Γ:=Γ) (E:=XN) ?_
    erw[ino1]
    exact l1 λa ha=>l1 (gn1 (H1' rfl) a ha)
  |_=>exact H0 rfl _ zK.refl
theorem zkg:GnY Γ .all 11:=by
 intro s t g p q G rest D I H0 H1;simp only[cH,yQ];refine yT ?_
 erw[Wy.s,yZ,zC,beq_self_eq_true,if_true,isnO]
 cases s with
 |none=>exact H0 rfl _ zK.refl
 |some u =>
  erw[Zan,if_true]
  rw[show(W.non)=ow none from rfl];refine l1 λr hr=>?_;rw[zdr I hr];have k:=kn (o:=.lst [ow none]) hr;have H0':=λe=>H0 (zko.trans (if_neg e)) _ k;have H1':=λe=>(H1 _ (zko.trans (if_pos e))).keep k;generalize yS (t.map ow) [ow none]=c at H0' H1' ⊢
  cases c with
  |false=>exact H0' 'g'
  |true =>
   refine yT (Γ:=Γ) (E:=XN) ?_
   erw[]
   exact l0 λa ha=>l1 (gn1 (H1' rfl) a ha)
theorem zhx (e7:Γ.fn[7]?=some eInt):GnY Γ .left 4:=by
 intro s t g p q G rest D I H0 H1;simp only[cH,yQ];refine yT ?_
 erw[Wy.s,yZ,qR,L3.inR,zzB,if_false]
 refine l2 ⟨'h',?_⟩;rw[show([W.str "left", .str "right"].any λw=>xE w (.str "left"))=true from rfl]
 erw[if_true]
 refine l1 λr hr=>?_;rw[zks I hr];have k:=kn (o:=.lst [.str "and"]) hr;have I':=I.keep k
 match t,I,I',H0,H1 with
 | [],I,I',H0,H1=>exact H0 rfl _ k
 |x::y::l,I,I',H0,H1 =>
  rw[show yS ((x::y::l).map λx=>W.str (jR x)) [.str "and"]=false by simp[yS]];exact H0 (by simp[gone]) _ k
 | [none],I,I',H0,H1=>exact H0 rfl _ k
 | [some u],I,I',H0,H1 =>
  cases u with
  |and a b =>
   erw[zzU,zzV,jR,yS,xE,beq_self_eq_true,Zaw,if_true]
   refine kD (zQ I'.p) ?_;rw[zzU,jS]
   erw[yZ,zC,e7]
   refine add1 ?_;show qD (ow (some (.and a b))) (.int 1) (put G r (.lst [.str "and"])) _;rw[ian1];simp only[wK I.s,zG]
   cases hq:vO s (some a) with
   |false=>exact H0 (by simp[gone,hq]) _ k
   |true =>
    refine yT (Γ:=Γ) (E:=XN) ?_
    erw[]
    exact l0 λa' ha=>l1 (gn1 (l:=[]) ((H1 _ (by simp only[gone,hq];rfl)).keep k) a' ha)
  |_=>exact H0 rfl _ k
theorem ze7 (e7:Γ.fn[7]?=some eInt):GnY Γ .right 4:=by
 intro s t g p q G rest D I H0 H1;simp only[cH,yQ];refine yT ?_
 erw[Wy.s,yZ,qR,L3.inR,zzB,if_false]
 refine l2 ⟨'h',?_⟩;rw[show([W.str "left", .str "right"].any λw=>xE w (.str "right"))=true from rfl]
 erw[if_true]
 refine l1 λr hr=>?_;rw[zks I hr];have k:=kn (o:=.lst [.str "and"]) hr;have I':=I.keep k
 match t,I,I',H0,H1 with
 | [],I,I',H0,H1=>exact H0 rfl _ k
 |x::y::l,I,I',H0,H1 =>
  rw[show yS ((x::y::l).map λx=>W.str (jR x)) [.str "and"]=false by simp[yS]];exact H0 (by simp[gone]) _ k
 | [none],I,I',H0,H1=>exact H0 rfl _ k
 | [some u],I,I',H0,H1 =>
  cases u with
  |and a b =>
   erw[zzU,zzV,jR,yS,xE,beq_self_eq_true,Zaw,if_true]
   refine kD (zQ I'.p) ?_;rw[zzU,jS]
   erw[yZ,zC,e7]
   refine add1 ?_;show qD (ow (some (.and a b))) (.int 2) (put G r (.lst [.str "and"])) _;rw[ian2];simp only[wK I.s,zG]
   cases hq:vO s (some b) with
   |false=>exact H0 (by simp[gone,hq]) _ k
   |true =>
    refine yT (Γ:=Γ) (E:=XN) ?_
    erw[]
    exact l0 λa' ha=>l1 (gn1 (l:=[]) ((H1 _ (by simp only[gone,hq];rfl)).keep k) a' ha)
  |_=>exact H0 rfl _ k
end
section
variable {Γ:Ctx3}
theorem zdh {a:Sy} {t:List (Option Sy)} {g:List Sy}:gone .clash none (some (.not a)::t) g=if yS (t.map ow) [ow (some a)]=true then some [[],[]] else none:=by
 match t with
 | [x] =>
  simp only[gone,yS,zzU,zzV,Zaw];rfl
 | []=>simp[gone,yS]
 |x::y::r=>simp[gone,yS]
theorem zha {G:Hw} {p:Addr} {ws:List W} (h:G p=some (.lst ws)):mF [.ref p] G=λQ=>Q (.int ws.length) G:=by
 funext Q
 simp only[mF,bE,h]
theorem zkd (e1:Γ.fn[1]?=some rC):GnY Γ .put 12:=by
 intro s t g p q G rest D I H0 H1;simp only[cH,yQ];refine yT ?_
 erw[Wy.s,yZ,zC,beq_self_eq_true,if_true,e1,zha I.p,uT,zzM]
 match t,I,H0,H1 with
 | [],I,H0,H1=>exact H0 rfl _ zK.refl
 | [_],I,H0,H1=>exact H0 (by simp[gone]) _ zK.refl
 |x::y::z::l,I,H0,H1 =>
  have e:(((x::y::z::l).length:Int)==2)=false:=by simp;omega
  rw[e];exact H0 (by simp[gone]) _ zK.refl
 | [x,z],I,H0,H1 =>
  rw[show((([x,z]:List (Option Sy)).length:Int)==2)=true from rfl]
  erw[if_true]
  refine kD (zQ I.p) ?_;rw[zzU,zzU,jS];simp only[isnO,zG]
  cases x with
  |none=>exact H0 rfl _ zK.refl
  |some u =>
   simp only[Zan,if_true];refine kD (zQ I.p) ?_;rw[zzU,zzU,at_1];simp only[wK (a:=z) (λv e=>I.t v (by rw[← e];simp))]
   cases hq:vO z s with
   |false=>exact H0 (by simp[gone,hq]) _ zK.refl
   |true =>
    have H1':=H1 _ (by simp only[gone,hq];rfl);refine yT (Γ:=Γ) (E:=XN) ?_
    erw[]
    refine l0 λa ha=>?_;refine kD (zQ (jZ (kn ha) I.p)) ?_;rw[zzU,zzU,jS];exact l1 λb hb=>l2 (gn2 (l:=[]) (m:=[u]) H1' a ha b hb)
theorem zfa (e1:Γ.fn[1]?=some rC):GnY Γ .cases 6:=by
 intro s t g p q G rest D I H0 H1;simp only[cH,yQ];refine yT ?_
 erw[Wy.s,yZ,zC,beq_self_eq_true,if_true,e1,zha I.p,uT,zzM]
 match t,I,H0,H1 with
 | [],I,H0,H1=>exact H0 rfl _ zK.refl
 | [_],I,H0,H1=>exact H0 (by simp[gone]) _ zK.refl
 | [_,_],I,H0,H1=>exact H0 (by simp[gone]) _ zK.refl
 |x::y::z::v::l,I,H0,H1 =>
  have e:(((x::y::z::v::l).length:Int)==3)=false:=by simp;omega
  rw[e];exact H0 (by simp[gone]) _ zK.refl
 | [x,y,z],I,H0,H1 =>
  rw[show((([x,y,z]:List (Option Sy)).length:Int)==3)=true from rfl]
  erw[if_true]
  refine kD (zQ I.q) ?_;rw[zzU,zzU,zzU,jS];simp only[zC,zG]
  cases x with
  |none=>exact H0 rfl _ zK.refl
  |some u =>
   cases u with
   |or a b =>
    simp only[jR,beq_self_eq_true,if_true];refine slL I.p λr hr=>?_;rw[zzU,zdD];have k:=kn (o:=.lst (([y,z]:List (Option Sy)).map ow)) hr;have gr:(put G r (.lst (([y,z]:List (Option Sy)).map ow))) r=some (.lst (([y,z]:List (Option Sy)).map ow)):=zL;generalize put G r (.lst (([y,z]:List (Option Sy)).map ow))=G1 at k gr ⊢;refine l2 λr2 hr2=>?_;have k2:=kn (o:=.lst [ow s,ow s]) hr2;rw[eqF (b:=[ow s,ow s]) (jZ k2 gr) zL (wB _) (wB [s,s]) (Ze (uS λx hx=>I.t x (Zi _ hx)) 'c')];rw[show yS (([y,z]:List (Option Sy)).map ow) [ow s,ow s]=(vO y s&&vO z s) by simp[yS,vO]];have I2:=I.keep (k.trans k2)
    cases hq:(vO y s&&vO z s) with
    |false=>exact H0 (by simp only[gone,hq];rfl) _ (k.trans k2)
    |true =>
     have H1':=(H1 _ (by simp only[gone,hq];rfl)).keep (k.trans k2);generalize put G1 r2 _=G2 at I2 H1' ⊢;refine yT (Γ:=Γ) (E:=XN) ?_
     erw[]
     refine l0 λc hc=>?_;refine kD (zQ (jZ (kn hc) I2.p)) ?_;rw[zzU,jS];simp only[ior1];refine l1 λd hd=>?_;refine kD (zQ (jZ ((kn hc).trans (kn hd)) I2.p)) ?_;rw[zzU,jS];simp only[ior2];exact l1 λf hf=>l3 (gn3 (l:=[]) (m:=[a]) (n:=[b]) H1' c hc d hd f hf)
   |_=>exact H0 rfl _ zK.refl
theorem zka (e1:Γ.fn[1]?=some rC):GnY Γ .use 8:=by
 intro s t g p q G rest D I H0 H1;simp only[cH,yQ];refine yT ?_
 erw[Wy.s,yZ,zC,beq_self_eq_true,if_true,e1,zha I.p,uT,zzM]
 match t,I,H0,H1 with
 | [],I,H0,H1=>exact H0 rfl _ zK.refl
 | [_],I,H0,H1=>exact H0 (by simp[gone]) _ zK.refl
 |x::y::z::l,I,H0,H1 =>
  have e:(((x::y::z::l).length:Int)==2)=false:=by simp;omega
  rw[e];exact H0 (by simp[gone]) _ zK.refl
 | [x,z],I,H0,H1 =>
  rw[show((([x,z]:List (Option Sy)).length:Int)==2)=true from rfl]
  erw[if_true]
  refine kD (zQ I.q) ?_;rw[zzU,zzU,jS];simp only[zC,zG]
  cases x with
  |none=>exact H0 rfl _ zK.refl
  |some u =>
   cases u with
   |ite a b =>
    simp only[jR,beq_self_eq_true,if_true];refine kD (zQ I.p) ?_;rw[zzU,zzU,jS];show gL (.tup [.str "if", a.w,b.w]) (some 1) none G _;simp only[gL,zdD];refine kD (zQ I.p) ?_;rw[zzU,zzU,at_1];refine l2 ?_;have sab:=sz1 (I.t _ zzT)
    have dp:dep (.tup (([some a,some b]:List (Option Sy)).map ow))<=100:=Ze (ZaB (uS λx hx=>by
     rcases Zh.mp hx with e|e
     .cases e;exact sab.1
     .cases zzO e;exact sab.2)) 'c'
    have pr:∀ l:List (Option Sy),pur (.tup (l.map ow))=true:=λl=>wB l;rw[show(W.tup [a.w,b.w])=.tup (([some a,some b]:List (Option Sy)).map ow) from rfl,eqA (y:=.tup [ow z,ow s]) (pr _) (pr [z,s]) dp];rw[show xE (.tup (([some a,some b]:List (Option Sy)).map ow)) (.tup [ow z,ow s])=(vO z (some a)&&vO s (some b)) by rw[hR z,hR s];simp[xE,yS,vO]]
    cases hq:(vO z (some a)&&vO s (some b)) with
    |false=>exact H0 (by simp only[gone,hq];rfl) _ zK.refl
    |true =>
     have H1':=H1 _ (by simp only[gone,hq];rfl);refine yT (Γ:=Γ) (E:=XN) ?_
     erw[]
     exact l0 λc hc=>l0 λd hd=>l2 (gn2 (l:=[]) (m:=[]) H1' c hc d hd)
   |_=>exact H0 rfl _ zK.refl
theorem ze9:GnY Γ .clash 10:=by
 intro s t g p q G rest D I H0 H1;simp only[cH,yQ];refine yT ?_
 erw[Wy.s,yZ,zC,beq_self_eq_true,if_true,isO]
 cases s with
 |some u=>exact H0 (by cases u<;>rfl) _ zK.refl
 |none =>
  erw[Option.isNone_none,if_true]
  refine slL I.q λr hr=>?_
  cases t with
  |nil =>
   refine l1 λr2 hr2=>?_;rw[eqF (a:=[]) (b:=[.str "not"]) (jZ (kn hr2) zL) zL rfl rfl (Zy _)];exact H0 rfl _ ((kn hr).trans (kn hr2))
  |cons x t =>
   rw[zzU,cut_h];refine l1 λr2 hr2=>?_;rw[eqF (a:=[.str (jR x)]) (b:=[.str "not"]) (jZ (kn hr2) zL) zL rfl rfl (Zy _)];have k:=(kn (o:=.lst [.str (jR x)]) hr).trans (kn (o:=.lst [.str "not"]) hr2);have I2:=I.keep k;generalize put (put G r (.lst [.str (jR x)])) r2 (.lst [.str "not"])=G2 at k I2 ⊢
   clear hr2 hr
   cases x with
   |none=>exact H0 rfl _ k
   |some u =>
    cases u with
    |not a =>
     simp only[jR,yS,xE,beq_self_eq_true,Zaw,if_true,zG];refine slL I2.p λr3 hr3=>?_;rw[zzU,zdD];have k3:=kn (o:=.lst (t.map ow)) hr3;have gr:(put G2 r3 (.lst (t.map ow))) r3=some (.lst (t.map ow)):=zL;generalize put G2 r3 (.lst (t.map ow))=G3 at k3 gr ⊢;refine kD (zQ (jZ k3 I2.p)) ?_;rw[zzU,jS];simp only[ino1];refine l1 λr4 hr4=>?_;have k4:=kn (o:=.lst [ow (some a)]) hr4;rw[eqF (b:=[ow (some a)]) (jZ k4 gr) zL (wB _) (wB [some a]) (Ze (uS λx hx=>I.t x (Zi _ hx)) 'c')];have k5:=k.trans (k3.trans k4);have H0':=λe=>H0 (zdh.trans (if_neg e)) _ k5;have H1':=λe=>(H1 _ (zdh.trans (if_pos e))).keep k5;generalize yS (t.map ow) [ow (some a)]=c at H0' H1' ⊢
     cases c with
     |false=>exact H0' 'g'
     |true =>
      refine yT (Γ:=Γ) (E:=XN) ?_
      erw[]
      exact l0 λc hc=>l0 λd hd=>l2 (gn2 (l:=[]) (m:=[]) (H1' rfl) c hc d hd)
    |_=>exact H0 rfl _ k
end
noncomputable def wA (x:Str) (s:Option Sy) (t:List (Option Sy)) (g:List Sy):Option (List (List Sy)):=(uQ x).bind λy=>gone y s t g
noncomputable def spGn:tO:=λws G Q _=>∃ (x:Str) (s:Option Sy) (p:Addr) (t:List (Option Sy)) (g:List Sy),ws=[.str x,ow s,.ref p,.tup (g.map Sy.w)]/\G p=some (.lst (t.map ow))/\t.length<=30/\(∀ x,s=some x->x.size<=20)/\(∀ x,some x∈t->x.size<=20)/\(∀ x∈g,x.size<=20)/\(wA x s t g=none->∀ G',zK [] G G'->Q .non G')/\∀ gs,wA x s t g=some gs->Gn gs G Q
theorem zin (y:Wy):y∈wys:=by cases y<;>(unfold wys;repeat (first|exact .head _|refine .tail _ ?_))
theorem no_wy {x:Str} (h:uQ x=none) (y:Wy):(x==y.s)=false:=by
 have:=Zbq.mp h y (zin y);simpa using this
theorem zfF {Γ:Ctx3} {i:Nat} {σ:xZ} {s:Option Sy} {G:Hw} {Q:Q3} (hi:σ[i]?=some (some (ow s))) (h:Q (.str (jR s)) G):(zI Γ XN (.ite (.cmp .Is (.var i) (.con .none)) "none"⁻¹ (.ix (.var i) 0⁻¹))).e σ G Q:=by
 erw[hi,yZ,isO]
 cases s with
 |none=>exact h
 |some u=>cases u<;>exact h
local macro_rules | `(tactic| ac_rfl)=>`(tactic| repeat (first|refine skE rfl (by decide +kernel) ?_|refine skI rfl (by decide +kernel) (by decide +kernel) ?_))
section
variable {Γ:Ctx3} (e1:Γ.fn[1]? = some rC) (e7:Γ.fn[7]? = some eInt)
include e1 e7
theorem ze5 {ws:List W} {G:Hw} {Q:Q3} (h:spGn ws G Q XN):zB Γ XN yQ { nx:=λ_ G'=>Q .non G',rt:=Q} (yL uA ws) G:=by
 obtain⟨x,s,p,t,g,rfl,gp,tl,hs,ht,hg,H0,H1⟩:=h;show zB Γ XN yQ { nx:=λ_ G'=>Q .non G',rt:=Q} [some (.str x),some (ow s),p⁻¹,some (.tup (g.map Sy.w)),none,none] G;simp only[yQ];refine yT ?_
 erw[]
 refine rN gp ?_;refine uI (ψ:=λx=>.str (jR x)) (λG' k=>zQ (jZ k gp)) (sz _ (Ze tl 'c')) (λx hx G' K' kp hK=>?_) (λq G1 k1 hq=>?_)
 .simp only[jP,Zg,Zn,List.replicate,zzV,ZC,ZI,Zq]
  erw[if_true]
  exact zfF (Γ:=Γ) (i:=0) (σ:=[some (ow x)]) rfl (hK G' zK.refl)
 have k:=k1.trans (kn (o:=.lst (t.map λx=>.str (jR x))) hq);have I:Gi s t g p q (put G1 q (.lst (t.map λx=>.str (jR x)))):=⟨jZ k gp,zL,hs,ht,hg⟩;generalize put G1 q (.lst (t.map λx=>.str (jR x)))=G2 at k I ⊢;refine yT ?_;refine zfF (Γ:=Γ) (i:=1) rfl ?_;have N:∀ G',zK [] G2 G'->wA x s t g=none->Q .non G':=λG' k' e=>H0 e G' (k.trans k');have Y:∀ gs,wA x s t g=some gs->Gn gs G2 Q:=λgs e=>(H1 gs e).keep k;show zB Γ XN _ { nx:=λ_ G'=>Q .non G',rt:=Q} (gsg x s p g q) G2
 cases hw:uQ x with
 |none =>
  have n:=no_wy hw;refine skE rfl (n .given) (skE rfl (n .both) (skI rfl (n .left) (n .right) (skI rfl (n .one) (n .two) (skE rfl (n .cases) (skE rfl (n .thn) (skE rfl (n .use) (skE rfl (n .not) (skE rfl (n .clash) (skE rfl (n .all) (skE rfl (n .put) ?_))))))))));exact N G2 zK.refl (by rw[wA,hw];rfl)
 |some y =>
  have ex:=zbY hw;have el:wA x s t g=gone y s t g:=by rw[wA,hw];rfl
  rw[el] at N Y;subst ex
  clear hw el
  cases y with
  |given=>ac_rfl;refine ze8 I (λe G' k'=>?_) Y;ac_rfl;exact N G' k' e
  |both=>ac_rfl;refine zhy I (λe G' k'=>?_) Y;ac_rfl;exact N G' k' e
  |left=>ac_rfl;refine zhx e7 I (λe G' k'=>?_) Y;ac_rfl;exact N G' k' e
  |right=>ac_rfl;refine ze7 e7 I (λe G' k'=>?_) Y;ac_rfl;exact N G' k' e
  |one=>ac_rfl;refine zke e7 I (λe G' k'=>?_) Y;ac_rfl;exact N G' k' e
  |two=>ac_rfl;refine zkb e7 I (λe G' k'=>?_) Y;ac_rfl;exact N G' k' e
  |cases=>ac_rfl;refine zfa e1 I (λe G' k'=>?_) Y;ac_rfl;exact N G' k' e
  |thn=>ac_rfl;refine zkc I (λe G' k'=>?_) Y;ac_rfl;exact N G' k' e
  |use=>ac_rfl;refine zka e1 I (λe G' k'=>?_) Y;ac_rfl;exact N G' k' e
  |not=>ac_rfl;refine zkf I (λe G' k'=>?_) Y;ac_rfl;exact N G' k' e
  |clash=>ac_rfl;refine ze9 I (λe G' k'=>?_) Y;ac_rfl;exact N G' k' e
  |all=>ac_rfl;refine zkg I (λe G' k'=>?_) Y;ac_rfl;exact N G' k' e
  |put=>ac_rfl;refine zkd e1 I (λe G' k'=>?_) Y;exact N G' k' e
end
end K57
namespace K57
open PySem PySem.Spec PyProof.Rows L2 L3
noncomputable def spLg:tO:=λws G Q _=>∃ (p:Addr) (ah:List Rw) (r:Rw),ws=[.ref p,.int ah.length]/\G p=some (.lst ((ah++[r]).map Rw.w))/\r.ok/\(∀ x∈ah,x.ok)/\∀ G',zK [] G G'->Q (.bl (yK r ah)) G'
theorem zeP {α:Type} {as:List α} {φ:α->W} {ψ:α->Option W} {stab:Hw->Prop} {G1:Hw} {turn:W->Hw->(Option W->Hw->Prop)->Prop} {Q:Q3} (hs:∀ G',zK [] G1 G'->stab G') (hl:as.length<=sizeLine)
  (ht:∀ a∈as,∀ (G':Hw) (K':Option W->Hw->Prop),zK [] G1 G'->(∀ G'',zK [] G' G''->K' (ψ a) G'')->turn (φ a) G' K')
  (hq:∀ p G',zK [] G1 G'->G' p=none->Q (.ref p) (put G' p (.lst (as.filterMap ψ)))):lcR (as.map φ) stab G1 turn Q:=by
 refine⟨λi acc G'=>zK [] G1 G'/\acc=(as.take i).filterMap ψ,⟨zK.refl,rfl⟩,?_,by rw[zzM];exact hl,?_,?_⟩
 .rintro i acc G' ⟨kp,rfl⟩ _;exact⟨hs G' kp,Ze (List.length_filterMap_le _ _) (by rw[Z0];omega)⟩
 .rintro i w acc G' hw ⟨kp,rfl⟩;rw[Zz] at hw;obtain⟨a,ha,rfl⟩:=ZK.mp hw;obtain⟨hi,e⟩:=Zp.mp ha;refine ht a (Zw ha) G' _ kp λG'' k''=>?_
  have e2:(as.take (i+1)).filterMap ψ=(as.take i).filterMap ψ++(match ψ a with|some x=>[x]|none=>[]):=by
   rw[ZF hi,e,ZaD];cases h:ψ a<;>simp[h]
  cases h:ψ a with
  |none=>exact⟨kp.trans k'',by rw[e2,h,Zq]⟩
  |some x=>exact⟨kp.trans k'',by rw[e2,h]⟩
 .rintro acc G' ⟨kp,rfl⟩ p hp;rw[zzM,Z9];exact hq p G' kp hp
theorem zkJ {G:Hw}:∀ {ws:List W} {gs:List (List Sy)},Ls G ws gs->∃ qs:List (Addr×List Sy),ws=qs.map (λq=>.ref q.1)/\gs=qs.map (·.2)/\∀ q∈qs,G q.1=some (.lst (q.2.map Sy.w))
 | [],[],_=>⟨[],rfl,rfl,λ_ h=>nomatch h⟩
 |w::ws,l::ls,h=>by
  obtain⟨⟨p,rfl,hp⟩,h⟩:=h;obtain⟨qs,rfl,rfl,hq⟩:=zkJ h;refine⟨(p,l)::qs,rfl,rfl,λq hm=>?_⟩;rcases Zh.mp hm with rfl|hm
  .exact hp
  .exact hq q hm
 | [],_::_,h=>h.elim
 |_::_,[],h=>h.elim
theorem zip_q (a:List Int) (qs:List (Addr×List Sy)):List.zipWith (λx y=>W.tup [x,y]) (a.map .int) (qs.map λq=>W.ref q.1)=(a.zip qs).map λp=>.tup [.int p.1,.ref p.2.1]:=by
 rw[ZbO,List.zip,ZbN]
theorem zdE (g:List Sy) (ah:List Rw):∀ (a:List Int) (qs:List (Addr×List Sy)),cov g ((a.map (yJ ah)).zip (qs.map (·.2)))=(a.zip qs).all λp=>(yJ ah p.1).g.all λx=>qC g x || qC p.2.2 x
 | [],_=>rfl
 |_::_,[]=>rfl
 |k::a,q::qs=>by
  have:=zdE g ah a qs;simp only[cov] at this;simp only[cov,zzU,ZS,Zax,this]
theorem ze4 {x:Str} {s:Option Sy} {t:List (Option Sy)} {g:List Sy} {gs:List (List Sy)} (hs:∀ x,s=some x->x.size<=20) (ht:∀ x,some x∈t->x.size<=20) (h:wA x s t g=some gs):∀ l∈gs,∀ x∈l,x.size<=20:=by
 obtain⟨y,_,h⟩:=Option.bind_eq_some_iff.mp h;exact zde hs ht h
theorem zcK {b:Bool} (h:¬(!b)=true):b=true:=by cases b<;>simp_all
theorem zct {ah:List Rw} {r:Rw} {k:Int} (h0:0<=k) (h1:k<ah.length):yJ (ah++[r]) k=yJ ah k:=by
 have hi:k.toNat<ah.length:=by omega
 simp[yJ,List.getD,ZX hi]
theorem zh7 {ah:List Rw} {r:Rw}:tU ((ah++[r]).map Rw.w) ah.length=some r.w:=by
 have h:=zdR (ah:=ah++[r]) (k:=ah.length) 'f' (by rw[zzW];simp;omega);rw[h];simp[yJ,List.getD]
theorem zaY (l:List Int):yH (l.map .int)=true/\xS (l.map .int)=0:=by
 induction l with
 |nil=>exact⟨rfl,rfl⟩
 |cons a l ih=>simp[yH,pur,xS,dep,ih.1,ih.2]
theorem zf3 (p:Int->Bool):∀ a:List Int,(a.filterMap λk=>if p k=true then none else some (W.int k))=(a.filter λk=>!p k).map .int
 | []=>rfl
 |k::a=>by
  have:=zf3 p a;cases h:p k<;>simp[h,this]
theorem zdn (p:Int->Bool):∀ a:List Int,yS ((a.filter λk=>!p k).map .int) []=a.all p
 | []=>rfl
 |k::a=>by
  have:=zdn p a;cases h:p k<;>simp[h,this,yS]
section
variable {Γ:Ctx3} (e2:Γ.fn[2]? = some eAll) (i1:Γ.it[1]? = some eZpi)
include e2 i1
theorem ziU {i:Nat} {a b:Str} {σ:xZ} {g:List Sy} {G:Hw} {Q:Q3} (hi:σ[i]?=some (some (.tup (g.map Sy.w)))) (gl:g.length<=30) (gz:∀ x∈g,x.size<=20) (h:∀ G',zK [] G G'->Q (.bl (rise g)) G'):(zI Γ XN (.call 2 {.lc (.tup {.nm 0,.nm 1}) [a,b] [] (.blt 1 {.var i,.sl (.var i) (.yes 1⁻¹) .no}) .no (.cmp .Lt 'j' (.var 1))})).e σ G Q:=by
 erw[hi,e2,i1,zW,gL,zga]
 refine⟨g.map Sy.w,(g.map Sy.w).tail,rfl,rfl,?_⟩;rw[← List.map_tail,zic];have zl:(g.zip g.tail).length<=30:=Ze (by rw[Zbi];exact ZaE _ _) gl;refine uI (ψ:=λp=>.bl ((tD p.1.w p.2.w).getD false)) (λG' _=>⟨rfl,rfl⟩) (sz _ (Ze zl 'c')) (λp hp G' K' kp hK=>?_) (λr G1 k1 hr=>?_)
 .have h1:=gz p.1 (Zas hp).1;simp only[jP,Zg,Zn,List.replicate,zzV,ZC,ZI,Zq]
  erw[yZ,if_true]
  exact zjB h1 (hK G' zK.refl)
 .refine ⟨(g.zip g.tail).map λp=>(tD p.1.w p.2.w).getD false,zQ (by rw[zL,Z8];rfl),?_⟩;have e:(((g.zip g.tail).map λp=>(tD p.1.w p.2.w).getD false).all id)=rise g:=by rw[Za9];exact pM g
  dsimp only;rw[e];exact h _ (k1.trans (zK.new hr))
theorem zht {i:Nat} {a b:Str} {B:IE} {x y:ISs} {D:End3} {σ:xZ} {g:List Sy} {G:Hw} (hi:σ[i]?=some (some (.tup (g.map Sy.w)))) (gl:g.length<=30) (gz:∀ x∈g,x.size<=20) (h:∀ G',zK [] G G'->if rise g=true then(zI Γ XN B).t σ G' λk G2=>if k=true then zB Γ XN x D σ G2 else zB Γ XN y D σ G2 else zB Γ XN x D σ G'):zU Γ XN (.ite (.or (.not (.call 2 {.lc (.tup {.nm 0,.nm 1}) [a,b] [] (.blt 1 {.var i,.sl (.var i) (.yes 1⁻¹) .no}) .no (.cmp .Lt 'j' (.var 1))})) B) x y) D σ G:=by
 refine ziU e2 i1 (a:=a) (b:=b) (σ:=σ) hi gl gz λG' k=>?_;have:=h G' k;simp only[cL]
 cases hr:rise g with
 |true=>rw[hr] at this;simpa using this
 |false=>rw[hr] at this;simpa using this
end
section
variable {Γ:Ctx3} (e1:Γ.fn[1]? = some rC) (e2:Γ.fn[2]? = some eAll) (e25:Γ.fn[25]? = some ⟨"_law_gone", spGn⟩) (i1:Γ.it[1]?=some eZpi)
include e1 e2 e25 i1
theorem zcX {ws:List W} {G:Hw} {Q:Q3} (h:spLg ws G Q XN):zB Γ XN jY { nx:=λ_ G'=>Q .non G',rt:=Q} (yL qE ws) G:=by
 obtain⟨p,ah,r,rfl,gp,ro,ao,h⟩:=h;show zB Γ XN jY { nx:=λ_ G'=>Q .non G',rt:=Q} [p⁻¹,some (.int ah.length),none,none,none,none,none,none,none] G;have al:r.a.length<=sizeLine:=sz _ (Ze ro.a 'c');have no:yK r ah=false->∀ G',zK [] G G'->Q (.bl false) G':=λe G' k=>e▸h G' k;simp only[jY];refine yT ?_
 erw[]
 refine kD (zQ gp) ?_;rw[zh7]
 erw[Rw.w,unl]
 refine yT ?_;refine zht e2 i1 (i:=2) rfl (pW ro).1 (pW ro).2 λG1 k1=>?_
 cases hr:rise r.g with
 |false =>
  erw[zzB,if_false]
  refine yT ?_;exact no (by simp[yK,hr]) G1 k1
 |true =>
  erw[if_true]
  refine rO (zeP (ψ:=λk=>if(decide (0<=k)&&decide (k<(ah.length:Int)))=true then none else some (.int k)) (λG' _=>trivial) al (λk hk G' K' kp hK=>?_) (λp2 G2 k2 hp=>?_))
  .simp only[jP,Zg,Zn,List.replicate,zzV,zzU,ZC,ZI,Zq];have hK':=hK G' zK.refl
   erw[yZ,leR,joS,ltT,nQ]
   by_cases h0:(0:Int)<=k
   .by_cases h1:k<(ah.length:Int)
    .simp only[h0,h1,decide_true,Zb1,if_true] at hK';simpa[h0,h1] using hK'
    .simp only[h0,h1,decide_true,decide_false,Zbw,zzB,if_false] at hK';simpa[h0,h1] using hK'
   .simp only[h0,decide_false,ZbZ,zzB,if_false] at hK';simpa[h0] using hK'
  rw[zf3 λk=>decide (0<=k)&&decide (k<(ah.length:Int))];have g2:(put G2 p2 (.lst ((r.a.filter λk=>!(decide (0<=k)&&decide (k<(ah.length:Int)))).map .int))) p2=some (.lst ((r.a.filter λk=>!(decide (0<=k)&&decide (k<(ah.length:Int)))).map .int)):=zL;have k3:=k1.trans (k2.trans (kn (o:=.lst ((r.a.filter λk=>!(decide (0<=k)&&decide (k<(ah.length:Int)))).map .int)) hp));generalize put G2 p2 (.lst ((r.a.filter λk=>!(decide (0<=k)&&decide (k<(ah.length:Int)))).map .int))=G3 at g2 k3 ⊢
  clear hp k2
  erw[]
  refine l0 λp4 h4=>?_;have k4:=k3.trans (kn (o:=.lst []) h4);simp only[yZ];rw[eqF (b:=[]) (jZ (kn h4) g2) zL (zaY _).1 rfl (by rw[(zaY _).2];exact Zy _),zdn];rw[show(r.a.all λk=>decide (0<=k)&&decide (k<(ah.length:Int)))=inA r ah from rfl];generalize put G3 p4 (.lst [])=G4 at k4 ⊢
  clear h4 g2 k3
  cases hi:inA r ah with
  |false =>
   erw[if_true,Zap]
   refine yT ?_;exact no (by simp[yK,hi]) G4 k4
  |true =>
   erw[ZY,zzB,if_false]
   refine kZ ?_;have hin:∀ k∈r.a,0<=k/\k<(ah.length:Int):=λk hk=>by simpa using ZZ.mp hi k hk
   have atk:∀ k∈r.a,tU ((ah++[r]).map Rw.w) k=some (yJ ah k).w:=λk hk=>by
    rw[zdR (hin k hk).1 (by rw[zzW];have:=(hin k hk).2;simp;omega),zct (hin k hk).1 (hin k hk).2]
   have ht:∀ x,some x∈qS r ah->x.size<=20:=λx hx=>by
    obtain⟨k,hk,e⟩:=zzP hx;exact(ao _ (bW (hin k hk).1 (hin k hk).2)).s x e
   have eg:yK r ah=(match wA r.y r.s (qS r ah) r.g with|none=>false|some gs=>cov r.g ((r.a.map (yJ ah)).zip gs)):=by
    unfold yK wA;rw[hr,hi]
    cases uQ r.y with
    |none=>rfl
    |some y=>rfl
   refine yT ?_
   erw[]
   refine rO (uI (ψ:=λk=>ow (yJ ah k).s) (λG' _=>trivial) al (λk hk G' K' kp hK=>?_) (λp5 G5 k5 h5=>?_))
   .simp only[jP,Zg,Zn,List.replicate,zzV,zzU,ZC,ZI,Zq]
    erw[if_true,joS]
    refine kD (zQ (jZ (k4.trans kp) gp)) ?_;rw[atk k hk];simp only[Rw.w,ix1];exact hK G' zK.refl
   have g5:(put G5 p5 (.lst (r.a.map λk=>ow (yJ ah k).s))) p5=some (.lst ((qS r ah).map ow)):=by rw[zL,qS,Z8];rfl
   have k6:=k4.trans (k5.trans (kn (o:=.lst (r.a.map λk=>ow (yJ ah k).s)) h5));generalize put G5 p5 (.lst (r.a.map λk=>ow (yJ ah k).s))=G6 at g5 k6 ⊢
   clear h5 k5
   erw[e25]
   refine⟨r.y,r.s,p5,qS r ah,r.g,rfl,g5,by rw[qS,zzM];exact Ze ro.a 'c',ro.s,ht,ro.z,λe G7 k7=>?_,λgs e=>?_⟩
   .rw[e] at eg;refine yT ?_
    erw[yZ,isR,if_true]
    refine yT ?_;exact no eg G7 (k6.trans k7)
   .rw[e] at eg;intro pz wz G7 k7 g7 hL;refine yT ?_
    erw[yZ,isR,zzB,if_false]
    refine kZ ?_;obtain⟨qs,rfl,rfl,hq⟩:=zkJ hL;replace eg:=eg.trans (zdE r.g ah r.a qs);refine yT ?_
    erw[i1]
    refine⟨r.a.map .int,qs.map (λq=>.ref q.1),rfl,zQ g7,?_⟩;rw[zip_q];have k8:=k6.trans k7;refine zbf (λx=>!((yJ ah x.1).g.all λy=>qC r.g y || qC x.2.2 y)) (λσ=>∃ a b,σ=[p⁻¹,some (.int ah.length),some (.tup (r.g.map Sy.w)),some (ow r.s),some (.str r.y),some (.tup (r.a.map .int)),pz⁻¹,a,b]) ⟨none,none,rfl⟩ (λG' k'=>⟨rfl,zQ (jZ k' g7)⟩) (λx hx σ' G' hσ k' D' hD hN hY=>?_) (λhn σ' G' hσ k'=>?_)
    .obtain ⟨a,b,rfl⟩:=hσ;have xm:=Zas (a:=x.1) (b:=x.2) hx;have gx:=jZ k' (hq _ xm.2);have ok:=ao _ (bW (hin _ xm.1).1 (hin _ xm.1).2);have sx:∀ y∈x.2.2,y.size<=20:=ze4 ro.s ht e _ (ZbT.mpr ⟨x.2,xm.2,rfl⟩)
     erw[]
     refine yT ?_
     erw[e2]
     refine kD (zQ (jZ (k8.trans k') gp)) ?_;rw[atk _ xm.1];simp only[Rw.w,ix0];refine rO (uI (ψ:=λy=>.bl (qC r.g y || qC x.2.2 y)) (λG' _=>trivial) (sz _ (Ze ok.g 'c')) (λy hy G' K' kp hK=>?_) (λp9 G9 k9 h9=>?_))
     .simp only[jP,Zg,Zn,List.replicate,zzV,zzU,ZC,ZI,Zq];have hK':=hK G' zK.refl
      erw[joS,if_true,yZ]
      refine in_g ro.z y.pur ?_;simp only[zG]
      cases hi2:inL (r.g.map Sy.w) y.w with
      |true =>
       simp only[if_true];rw[qC,hi2,ZbS] at hK';exact hK'
      |false =>
       simp only[zzB,if_false,qR,jZ kp gx];refine inW y.pur (bT _) (Ze (pQ sx) 'c') ?_;rw[qC,hi2,ZbI] at hK';exact hK'
     refine⟨(yJ ah x.1).g.map λy=>qC r.g y || qC x.2.2 y,zQ (by rw[zL,Z8];rfl),?_⟩;have ea:(((yJ ah x.1).g.map λy=>qC r.g y || qC x.2.2 y).all id)=(yJ ah x.1).g.all λy=>qC r.g y || qC x.2.2 y:=by rw[Za9];rfl
     dsimp only;rw[ea,cL];have ky:=k'.trans (k9.trans (kn (o:=.lst ((yJ ah x.1).g.map λy=>.bl (qC r.g y || qC x.2.2 y))) h9))
     cases hc:((yJ ah x.1).g.all λy=>qC r.g y || qC x.2.2 y) with
     |true =>
      erw[ZY,zzB,if_false]
      exact hN (by rw[hc];rfl) _ _ ⟨_,_,rfl⟩ ky
     |false =>
      erw[Zap,if_true]
      refine yT (Γ:=Γ) (E:=XN) ?_
      have bad:yK r ah=false:=by
       rw[eg];exact List.all_eq_false.mpr ⟨x,hx,by rw[hc];decide⟩
      have:=no bad _ (k8.trans ky);show D'.rt _ _;rw[hD];exact this
    .obtain ⟨a,b,rfl⟩:=hσ;refine yT ?_
     have good:yK r ah=true:=by
      rw[eg];refine ZZ.mpr λx hx=>?_;exact zcK (Zbq.mp hn x hx)
     have:=h _ (k8.trans k');rw[good] at this;exact this
end
theorem pT {g:List Sy} {x:Sy}:qC g x=true↔x∈g:=Sy.any
noncomputable def gi (g:List Sy) (i:Nat):Sy:=g.getD i (.say "")
noncomputable def nw (g:List Sy) (i:Nat):Option Sy:=if qC (g.take i) (gi g i)=true then none else some (gi g i)
noncomputable def bP (g:List Sy) (n:Nat):List Sy:=(List.range n).filterMap (nw g)
theorem zcG (g:List Sy):∀ n,n<=g.length->(bP g n).Nodup/\(bP g n).length<=n/\∀ x,x∈bP g n↔x∈g.take n
 | 0,_=>⟨Zby,zzR _,λx=>by simp[bP]⟩
 |n+1,h=>by
  obtain⟨h1,h2,h3⟩:=zcG g n (ZbE h)
  have e:bP g (n+1)=bP g n++(match nw g n with|some x=>[x]|none=>[]):=by
   unfold bP;rw[List.range_succ,ZaD];cases hn:nw g n<;>simp[hn]
  have gn:gi g n=g[n]:=by simp[gi,List.getD,Zf (show n<g.length from h)]
  have et:g.take (n+1)=g.take n++[g[n]]:=ZF (show n<g.length from h);rw[e,et];unfold nw;rw[gn]
  by_cases hi:g[n]∈g.take n
  .rw[if_pos (pT.mpr hi)];refine⟨by simpa using h1,by simp;omega,λx=>?_⟩;simp only[Zq,h3,ZA,ZJ];exact⟨.inl,λq=>q.elim id λq=>q▸hi⟩
  .rw[if_neg λq=>hi (pT.mp q)];refine⟨?_,by simp;omega,λx=>by simp only[ZA,h3]⟩;refine List.nodup_append.mpr ⟨h1,by simp,λa ha b hb q=>?_⟩;rw[zzO hb] at q;exact hi ((h3 _).mp (q▸ha))
theorem Sy.st:∀ t:Sy,L3.st t.w=true
 | .say _=>by simp[Sy.w,L3.st,sts]
 | .not a=>by simp[Sy.w,L3.st,sts,Sy.st a]
 | .and a b=>by simp[Sy.w,L3.st,sts,Sy.st a,Sy.st b]
 | .or a b=>by simp[Sy.w,L3.st,sts,Sy.st a,Sy.st b]
 | .ite a b=>by simp[Sy.w,L3.st,sts,Sy.st a,Sy.st b]
theorem srtP2 (lt:Nat->Nat->Bool):gN 2 lt=if lt 1 0=true then [1,0] else [0,1]:=by
 have e:PySem.W.kas_sort 2=.ask 1 0 λc=>((if c=true then PySem.W.KasT.ret 1 else PySem.W.kas_asc #[0,1] 0 2).bind λn=>if(n==2)=true then .ret (n,#[0,1]) else if n > 1 then .ask 0 ((#[0,1]:Array Nat).getD (n-1) 0) λc=>if c=true then .ret (n,#[0,1]) else PySem.W.kas_descPart n 2 (PySem.W.kas_rev #[0,1] 0 n) else PySem.W.kas_descPart n 2 #[0,1]).bind λr=>if r.1<2 then PySem.W.kas_bin (2-max r.1 1) r.2 (max r.1 1) else .ret r.2:=rfl;show(krun lt (PySem.W.kas_sort 2)).toList=_;rw[e,krun];cases lt 1 0<;>rfl
theorem srt2 (a b:W):srt [a,b]=if ltB b a=true then [b,a] else [a,b]:=by
 show(gN 2 λi j=>ltB ([a,b].getD i .non) ([a,b].getD j .non)).map (λi=>[a,b].getD i .non)=_;rw[srtP2];show(if ltB b a=true then [1,0] else [0,1]).map _=_;cases ltB b a<;>rfl
theorem rise2 {x y:Sy} {us:List Sy} (n:x≠y) (e:srt [x.w,y.w]=us.map Sy.w):rise us=true:=by
 rw[srt2] at e
 have el:us.length=2:=by
  have:=congrArg List.length e;rw[zzM] at this;rw[← this]
  split<;>rfl
 obtain⟨a,b,rfl⟩:∃ a b,us=[a,b]:=by
  match us,el with
  | [a,b],_=>exact⟨a,b,rfl⟩
 cases h:ltB y.w x.w with
 |true =>
  rw[h,if_pos rfl] at e;simp only[zzU,zzV,List.cons.injEq,and_true] at e;cases Sy.inj e.1;cases Sy.inj e.2;unfold ltB at h;rw[rise,h];rfl
 |false =>
  rw[h,if_neg zzN] at e;simp only[zzU,zzV,List.cons.injEq,and_true] at e;cases Sy.inj e.1;cases Sy.inj e.2;obtain⟨k,ek⟩:=ZU.mp (Sy.lt y x);unfold ltB at h;rw[ek] at h;cases(show k=false from h);rcases zjA _ _ y.st x.st ek with q|q
  .exact absurd (Sy.inj q).symm n
  .rw[rise,q];rfl
structure Mk (g us:List Sy):Prop where
 r:g.length<=2->rise us=true
 m:∀ x,x∈us↔x∈g
 l:us.length<=g.length
theorem ziH (g:List Sy):∃ us,srt ((bP g g.length).map Sy.w)=us.map Sy.w/\Mk g us:=by
 obtain⟨us,e,el,_⟩:=zgD (bP g g.length);obtain⟨h1,h2,h3⟩:=zcG g g.length (zzR _);refine⟨us,e,λg2=>?_,λx=>?_,el▸h2⟩
 .match ho:bP g g.length,h1,e,el with
  | [],_,_,el=>rw[List.length_eq_zero_iff.mp el];rfl
  | [_],_,_,el =>
   match us,el with
   | [_],_=>rfl
  | [x,y],h1,e,_=>exact rise2 (λq=>by rw[q] at h1;simp at h1) e
  |x::y::z::r,_,_,_=>rw[ho] at h2;simp at h2;omega
 have p:=(zaS ((bP g g.length).map Sy.w)).mem_iff (a:=x.w);rw[e] at p
 have q:∀ l:List Sy,x.w∈l.map Sy.w↔x∈l:=λl=>⟨λh=>by
  obtain⟨t,ht,e⟩:=zzP h;exact Sy.inj e▸ht,λh=>ZbT.mpr ⟨x,h,rfl⟩⟩
 rw[q,q,h3,Z9] at p;exact p
theorem zgb {l:List W} {i:Nat} (h:i<=l.length):jQ l none (some ((i:Int)+0))=l.take i:=by
 unfold jQ;rw[Int.add_zero,HT.zcs,HT.zaU,Nat.min_eq_left h,Zbx,Nat.sub_zero]
noncomputable def zb9:tO:=λws G Q _=>∃ (s:Option Sy) (y:Str) (a:List Int) (p:Addr) (g:List Sy),ws=[ow s,.str y,.tup (a.map .int),.ref p]/\G p=some (.lst (g.map Sy.w))/\g.length<=20/\(∀ x∈g,x.size<=20)/\∀ us,Mk g us->∀ G',zK [] G G'->Q (Rw.w ⟨us,s,y,a⟩) G'
theorem zkh {g:List Sy} {i:Nat} (h:i<g.length):(g.map Sy.w).getD i .non=(gi g i).w:=by
 simp[gi,List.getD,Zz,Zf h]
section
variable {Γ:Ctx3} (e5:Γ.fn[5]? = some eSrt) (e6:Γ.fn[6]? = some eTup) (i2:Γ.it[2]? = some eEn)
include e5 e6 i2
theorem zgH {ws:List W} {G:Hw} {Q:Q3} (h:zb9 ws G Q XN):zB Γ XN uR { nx:=λ_ G'=>Q .non G',rt:=Q} (yL sB ws) G:=by
 obtain⟨s,y,a,p,g,rfl,gp,gl,gz,h⟩:=h;show zB Γ XN uR { nx:=λ_ G'=>Q .non G',rt:=Q} [some (ow s),some (.str y),some (.tup (a.map .int)),p⁻¹] G;simp only[uR];refine yT ?_
 erw[i2]
 refine⟨g.map Sy.w,zQ gp,?_⟩;rw[enW,zzM];refine zeP (ψ:=λi=>(nw g i).map Sy.w) (λG' k=>zQ (jZ k gp)) (sz _ (by rw[ZbD];exact Ze gl 'c')) (λi hi G' K' kp hK=>?_) (λq G1 k1 hq=>?_)
 .have hl:i<g.length:=ZaL.mp hi;simp only[jP,Zg,Zn,List.replicate,zzV,zzU,ZC,ZI,Zq,zkh hl]
  erw[joS]
  refine slL (jZ kp gp) λr hr=>?_;have hK':=hK _ (kn (o:=.lst (jQ (g.map Sy.w) none (some ((i:Int)+0)))) hr)
  erw[yZ,qR,zL]
  rw[zgb (by rw[zzM];omega),← ZbJ] at hK' ⊢;have tz:∀ x∈g.take i,x.size<=20:=λx hx=>gz x (Zbg hx);refine⟨⟨Sy.pur _,bT _,Ze (ZaE _ _) (Ze (pQ tz) 'c')⟩,?_⟩;rw[show(((g.take i).map Sy.w).any λw=>xE w (gi g i).w)=qC (g.take i) (gi g i) from rfl];unfold nw at hK'
  cases hc:qC (g.take i) (gi g i) with
  |true=>rw[hc] at hK';simpa using hK'
  |false=>rw[hc] at hK';simpa using hK'
 have e:(List.range g.length).filterMap (λi=>(nw g i).map Sy.w)=(bP g g.length).map Sy.w:=by rw[bP,List.map_filterMap]
 have gq:(put G1 q (.lst ((List.range g.length).filterMap λi=>(nw g i).map Sy.w))) q=some (.lst ((bP g g.length).map Sy.w)):=by rw[zL,e]
 have k2:=k1.trans (kn (o:=.lst ((List.range g.length).filterMap λi=>(nw g i).map Sy.w)) hq);generalize put G1 q (.lst ((List.range g.length).filterMap λi=>(nw g i).map Sy.w))=G2 at gq k2 ⊢;obtain⟨h1,h2,h3⟩:=zcG g g.length (zzR _);have oz:∀ x∈bP g g.length,x.size<=59:=λx hx=>Ze (gz x (by have:=(h3 x).mp hx;rwa[Z9] at this)) 'c'
 erw[e5,e6]
 refine⟨(bP g g.length).map Sy.w,zQ gq,srtb 'f' oz,λr hr=>?_⟩;obtain⟨us,eu,mk⟩:=ziH g;have k3:=k2.trans (kn (o:=.lst (srt ((bP g g.length).map Sy.w))) hr);have gr:(put G2 r (.lst (srt ((bP g g.length).map Sy.w)))) r=some (.lst (us.map Sy.w)):=by rw[zL,eu]
 generalize put G2 r (.lst (srt ((bP g g.length).map Sy.w)))=G3 at gr k3 ⊢;simp only[tupS,xD,zQ gr];exact⟨sz 4 'c',h us mk G3 k3⟩
end
theorem Mk.one {v:Sy} {us:List Sy} (h:Mk [v] us):us=[v]:=by
 obtain⟨_,m,l⟩:=h
 match us,m,l with
 | [],m,_=>exact absurd ((m v).mpr zzT) 'g'
 | [u],m,_=>rw[zzO ((m u).mp zzT)]
 |_::_::_,_,l=>simp at l
noncomputable abbrev qQ (v:Sy):Rw:=⟨[v],some v, "given", []⟩
noncomputable def bsL (x y z:Sy) (u6 u8 u9 u10:List Sy):List Rw:=[qQ x,qQ y,qQ (.and x y),qQ (.or x y),qQ (.ite x y),qQ (.not x),⟨u6,none, "clash", [5,0]⟩,qQ z,⟨u8,some z, "given", []⟩,⟨u9,some z, "given", []⟩,⟨u10,some y, "given", []⟩,⟨[.and x y],some x, "left", [2]⟩]
structure Bs (x y z:Sy) (bs:List Rw):Prop where
 ex:∃ u6 u8 u9 u10,bs=bsL x y z u6 u8 u9 u10/\Mk [x,.not x] u6/\Mk [x,z] u8/\Mk [y,z] u9/\Mk [x,y] u10
noncomputable def cE:tO:=λws G Q _=>∃ x y z:Sy,ws=[x.w,y.w,z.w]/\x.size<=5/\y.size<=5/\z.size<=5/\∀ bs,Bs x y z bs->∀ p G',zK [] G G'->G' p=some (.lst (bs.map Rw.w))->Q (.ref p) G'
theorem asg4 {Γ:Ctx3} {x y z:Sy} {v:Option W} {D:End3} {G:Hw} (h:D.nx [some x.w,some y.w,some z.w,some (Sy.and x y).w,some (Sy.or x y).w,some (Sy.ite x y).w,some (Sy.not x).w,v] G):zU Γ XN (cH 0 wN) D [some x.w,some y.w,some z.w,none,none,none,none,v] G:=by
 simp only[cH,wN]
 erw[zzC,zzL,zzA,Nat.reduceAdd,sz 2 'c',sz 3 'c',sz 4 'c',true_and,unl]
 exact h
section
variable {Γ:Ctx3} (e11:Γ.fn[11]? = some ⟨"_law_row", zb9⟩) (m2:Γ.mt[2]?=some eApp)
include e11
theorem uD {s:Option Sy} {y:Str} {a:List Int} {g:List Sy} {gw:List W} {G:Hw} {Q:Q3} (eg:gw=g.map Sy.w) (gl:g.length<=20) (gz:∀ x∈g,x.size<=20) (h:∀ us,Mk g us->∀ G',zK [] G G'->Q (Rw.w ⟨us,s,y,a⟩) G'):gw.length<=sizeLine/\∀ p,G p=none->(match Γ.fn[11]? with|some h=>h.sp [ow s,.str y,.tup (a.map .int),.ref p] (put G p (.lst gw)) Q XN|none=>False):=by
 subst eg;refine⟨sz _ (by rw[zzM];omega),λp hp=>?_⟩;rw[e11];exact⟨s,y,a,p,g,rfl,zL,gl,gz,λus mk G' k=>h us mk G' ((kn hp).trans k)⟩
include m2
omit e11 in
theorem rX {p:Addr} {l:List Rw} {G0 G:Hw} {σ:xZ} {D:End3} {rest:ISs} {e:IE} (P:Rw->Prop) (gp:G p=some (.lst (l.map Rw.w))) (hn:G0 p=none) (k:zK [] G0 G) (hl:l.length<50) (s7:σ[7]?=some (p⁻¹))
  (he:∀ Q:Q3,(∀ r:Rw,P r->∀ G',zK [] G G'->Q r.w G')->(zI Γ XN e).e σ G Q) (h:∀ r,P r->∀ G',zK [] G0 G'->G' p=some (.lst ((l++[r]).map Rw.w))->zB Γ XN rest D σ G'):zB Γ XN (.cons (.ex (.mth 2 (.var 7) (.cons e .nil))) rest) D σ G:=by
 refine yT ?_
 erw[s7,m2]
 refine⟨tyL gp,he _ λr hr G' k'=>?_⟩;refine appL (jZ k' gp) (by rw[zzM];omega) ?_;refine h r hr _ (sZ (k.trans k') hn) ?_;rw[zL,ZV];rfl
theorem zfu {ws:List W} {G:Hw} {Q:Q3} (h:cE ws G Q XN):zB Γ XN wN { nx:=λ_ G'=>Q .non G',rt:=Q} (yL tY ws) G:=by
 obtain⟨x,y,z,rfl,hx,hy,hz,h⟩:=h;show zB Γ XN wN { nx:=λ_ G'=>Q .non G',rt:=Q} [some x.w,some y.w,some z.w,none,none,none,none,none] G;have hx':x.size<=20:=Ze hx 'c';have hy':y.size<=20:=Ze hy 'c';have hz':z.size<=20:=Ze hz 'c';have sa:(Sy.and x y).size<=20:=by simp only[Sy.size];omega
 have so:(Sy.or x y).size<=20:=by simp only[Sy.size];omega
 have si:(Sy.ite x y).size<=20:=by simp only[Sy.size];omega
 have sn:(Sy.not x).size<=20:=by simp only[Sy.size];omega
 have f1:∀ {v:Sy},v.size<=20->∀ t∈[v],t.size<=20:=λh t ht=>by rw[zzO ht];exact h
 have f2:∀ {u v:Sy},u.size<=20->v.size<=20->∀ t∈[u,v],t.size<=20:=λh h' t ht=>by
  rcases Zh.mp ht with rfl|ht
  .exact h
  .rw[zzO ht];exact h'
 refine yT (asg4 ?_);simp only[wN,cH];refine yT ?_
 erw[]
 refine l6 (rO ?_);refine uI (as:=[x,y,.and x y,.or x y,.ite x y,.not x]) (φ:=Sy.w) (ψ:=λv=>(qQ v).w) (λG' _=>trivial) (sz 6 'c') (λv hv G' K' kp hK=>?_) (λp G1 k1 hp=>?_)
 .simp only[jP,Zg,Zn,List.replicate,zzV,zzU,ZC,ZI,Zq]
  erw[if_true]
  refine l0 (α:=W) (uD e11 (s:=some v) (a:=[]) (g:=[v]) rfl (Zr rfl) (f1 ?_) λus mk G'' k=>?_)
  .simp only[Zh,Zt,or_false] at hv;rcases hv with rfl|rfl|rfl|rfl|rfl|rfl<;>assumption
  .rw[mk.one];exact hK G'' k
 have gp:(put G1 p (.lst (([x,y,.and x y,.or x y,.ite x y,.not x]:List Sy).map λv=>(qQ v).w))) p=some (.lst (([qQ x,qQ y,qQ (.and x y),qQ (.or x y),qQ (.ite x y),qQ (.not x)]:List Rw).map Rw.w)):=zL;have kp:=k1.trans (kn (o:=.lst (([x,y,.and x y,.or x y,.ite x y,.not x]:List Sy).map λv=>(qQ v).w)) hp);have hn:G p=none:=k1.none 'g' hp;generalize put G1 p (.lst (([x,y,.and x y,.or x y,.ite x y,.not x]:List Sy).map λv=>(qQ v).w))=G2 at gp kp ⊢
 clear k1 hp
 refine rX m2 (λr=>∃ us,Mk [x,.not x] us/\r=⟨us,none, "clash", [5,0]⟩) gp hn kp (Zr rfl) rfl (λQ hq=>?_) (λr hr G' k' gp'=>?_)
 ·erw[]
  exact l2 (uD e11 (s:=none) (a:=[5,0]) (g:=[x,.not x]) rfl (Zr rfl) (f2 hx' sn) λus mk G' k=>hq _ ⟨us,mk,rfl⟩ G' k)
 obtain⟨u6,mk6,rfl⟩:=hr
 clear kp gp
 have gp:=gp';have kp:=k'
 clear gp' k'
 refine rX m2 (λr=>∃ us,Mk [z] us/\r=⟨us,some z, "given", []⟩) gp hn kp (Zr rfl) rfl (λQ hq=>?_) (λr hr G' k' gp'=>?_)
 ·erw[]
  exact l0 (uD e11 (s:=some z) (a:=[]) (g:=[z]) rfl (Zr rfl) (f1 hz') λus mk G' k=>hq _ ⟨us,mk,rfl⟩ G' k)
 obtain⟨u7,mk7,rfl⟩:=hr;rw[mk7.one] at gp'
 clear kp gp
 have gp:=gp';have kp:=k'
 clear gp' k'
 refine rX m2 (λr=>∃ us,Mk [x,z] us/\r=⟨us,some z, "given", []⟩) gp hn kp (Zr rfl) rfl (λQ hq=>?_) (λr hr G' k' gp'=>?_)
 ·erw[]
  exact l0 (uD e11 (s:=some z) (a:=[]) (g:=[x,z]) rfl (Zr rfl) (f2 hx' hz') λus mk G' k=>hq _ ⟨us,mk,rfl⟩ G' k)
 obtain⟨u8,mk8,rfl⟩:=hr
 clear kp gp
 have gp:=gp';have kp:=k'
 clear gp' k'
 refine rX m2 (λr=>∃ us,Mk [y,z] us/\r=⟨us,some z, "given", []⟩) gp hn kp (Zr rfl) rfl (λQ hq=>?_) (λr hr G' k' gp'=>?_)
 ·erw[]
  exact l0 (uD e11 (s:=some z) (a:=[]) (g:=[y,z]) rfl (Zr rfl) (f2 hy' hz') λus mk G' k=>hq _ ⟨us,mk,rfl⟩ G' k)
 obtain⟨u9,mk9,rfl⟩:=hr
 clear kp gp
 have gp:=gp';have kp:=k'
 clear gp' k'
 refine rX m2 (λr=>∃ us,Mk [x,y] us/\r=⟨us,some y, "given", []⟩) gp hn kp (Zr rfl) rfl (λQ hq=>?_) (λr hr G' k' gp'=>?_)
 ·erw[]
  exact l0 (uD e11 (s:=some y) (a:=[]) (g:=[x,y]) rfl (Zr rfl) (f2 hx' hy') λus mk G' k=>hq _ ⟨us,mk,rfl⟩ G' k)
 obtain⟨u10,mk10,rfl⟩:=hr
 clear kp gp
 have gp:=gp';have kp:=k'
 clear gp' k'
 refine rX m2 (λr=>∃ us,Mk [.and x y] us/\r=⟨us,some x, "left", [2]⟩) gp hn kp (Zr rfl) rfl (λQ hq=>?_) (λr hr G' k' gp'=>?_)
 ·erw[]
  exact l1 (uD e11 (s:=some x) (a:=[2]) (g:=[.and x y]) rfl (Zr rfl) (f1 sa) λus mk G' k=>hq _ ⟨us,mk,rfl⟩ G' k)
 obtain⟨u11,mk11,rfl⟩:=hr;rw[mk11.one] at gp'
 clear kp gp
 have gp:=gp';have kp:=k'
 clear gp' k'
 refine yT ?_;exact h _ ⟨u6,u8,u9,u10,rfl,mk6,mk8,mk9,mk10⟩ p _ kp gp
end
noncomputable def pr0:Rw:=⟨[],none, "", []⟩
noncomputable def gAt (ps:List Rw) (i:Nat):Bool:=yK (ps.getD i pr0) (ps.take i)
noncomputable def fb (ps:List Rw):Option Nat:=(List.range ps.length).find? λi=>!gAt ps i
noncomputable def chk (ps:List Rw):Option Int:=if ps.isEmpty=true then some 0 else(fb ps).map λk:Nat=>(k:Int)
theorem zdo {ps:List Rw} {i:Nat} (h:∀ k,k<i->gAt ps k=true) (hi:i<ps.length) (hb:gAt ps i=false):fb ps=some i:=by
 unfold fb;rw[List.find?_range_eq_some];exact⟨by simp[hb],by simpa using hi,λj hj=>by simp[h j hj]⟩
theorem bB {ps:List Rw} (h:∀ k,k<ps.length->gAt ps k=true):fb ps=none:=by
 unfold fb;rw[Zbq];intro k hk;simp[h k (by simpa using hk)]
structure Cl (K:yM) (C:Nat->Addr):Prop where
 xk:L3.XK K
 xc:PySem.W.XC K (C 6)
 one:PySem.W.kitOne K (.ref (C 6)) (.ref (C 6))=some true
 no:∀ i∈[0,1,2,3,4,5,7,8,9],PySem.W.kitOne K (.ref (C 6)) (.ref (C i))=some false
 val:PySem.W.kitOne K (.ref (C 6)) (.type "ValueError")=some true
 hd:PySem.W.hasDictIn K (C 6)=true
 wld:PySem.W.findIn K (.ref (C 6)) "row" = some none
noncomputable def vU (C:Nat->Addr):SpX:=λws G Q E=>∃ ps:List Rw,ws=[.tup (ps.map Rw.w)]/\(∀ r∈ps,r.ok)/\∀ G',zK [] G G'->match chk ps with
 |some k=>E (.exc (C 6) ["row"] [.int k]) G'
 |none=>Q (.bl true) G'
noncomputable def spTl:tO:=λws G Q _=>∃ ps:List Rw,ws=[.tup (ps.map Rw.w)]/\(∀ r∈ps,r.ok)/\∀ G',zK [] G G'->Q (match chk ps with|some k=>.int k|none=>.str "whole") G'
noncomputable def fY (C:Nat->Addr) (l:List Fx3) (T:Addr):CtxX:=⟨l,[⟨"NoPaper", C 6,some "row"⟩],[⟨"TalkError", T,[C 6]⟩]⟩
section
variable {Γ:Ctx3} {Δ:CtxX}
theorem xtp {E:xZ->X3} {s:RT} {ss:RTs} {D:End3} {σ:xZ} {G:Hw} (h:qF Γ Δ s E {D with nx:=xC Γ Δ ss E D} σ G):xC Γ Δ (.cons s ss) E D σ G:=by rw[xC];exact h
theorem xtn {E:xZ->X3} {D:End3} {σ:xZ} {G:Hw} (h:D.nx σ G):xC Γ Δ .nil E D σ G:=by rw[xC];exact h
end
theorem zki {ps:List Rw} {i:Nat} (h:i<ps.length):(ps.map Rw.w).getD i .non=(ps.getD i pr0).w:=by
 simp[List.getD,Zz,Zf h]
theorem zkj {ps:List Rw} {i:Nat} (h:i<ps.length):ps.getD i pr0∈ps:=by
 simp[List.getD,Zf h]
section
variable {Γ:Ctx3} {C:Nat->Addr} {T:Addr} (e22:Γ.fn[22]? = some ⟨"is_good", spGd⟩) (i2:Γ.it[2]?=some eEn)
include e22 i2
theorem zhZ {ws:List W} {G:Hw} {Q:Q3} {E:X3} (h:vU C ws G Q E):xC Γ (fY C [] T) sQ (λ_=>E) { nx:=λ_ G'=>Q .non G',rt:=Q} (yL nB ws) G:=by
 obtain⟨ps,rfl,po,h⟩:=h;have c0:(fY C [] T).cl[0]?=some ⟨"NoPaper", C 6,some "row"⟩:=rfl;show xC Γ (fY C [] T) sQ (λ_=>E) { nx:=λ_ G'=>Q .non G',rt:=Q} [some (.tup (ps.map Rw.w)),none,none] G;simp only[sQ];refine xtp ?_;simp only[qF]
 erw[truW]
 cases hw:(ps.map Rw.w).isEmpty with
 |true =>
  have hw':ps.isEmpty=true:=by simpa using hw
  simp only[ZY,Zap,if_true];refine xtp ?_;simp only[qF]
  erw[c0,clR]
  refine⟨_,rfl,?_⟩;have:=h G zK.refl
  rwa[chk,if_pos hw'] at this
 |false =>
  have hw':ps.isEmpty=false:=by simpa using hw
  have ec:chk ps=(fb ps).map λk:Nat=>(k:Int):=by rw[chk,if_neg (by rw[hw'];simp)]
  simp only[ZY,Zap,zzB,if_false];refine xtn ?_;refine xtp ?_;simp only[qF]
  erw[i2]
  refine⟨ps.map Rw.w,rfl,?_⟩;have len:(enW 0 (ps.map Rw.w)).length=ps.length:=by simp[enW]
  refine⟨λi σ G'=>∃ v u,σ=[some (.tup (ps.map Rw.w)),v,u]/\zK [] G G'/\∀ k,k<i->gAt ps k=true,⟨none,none,rfl,zK.refl,λk hk=>absurd hk (ZbU _)⟩,λ_ _ _ _ _=>rfl,?_,?_⟩
  .rintro i w σ G' hi ⟨v,u,rfl,kp,hg⟩;have hl:i<ps.length:=by have:=(Zp.mp hi).1;rwa[len] at this
   have ew:w=.tup [.int ((i:Nat)+0),(ps.getD i pr0).w]:=by
    have:=(Zp.mp hi).2;rw[← this,← zki hl];simp[enW]
   subst ew;simp only[zY,zZ];refine xtp ?_;simp only[qF,tS,tZ]
   erw[e22,gL]
   rw[zgb (by rw[zzM];omega),← ZbJ];refine⟨ps.getD i pr0,ps.take i,rfl,po _ (zkj hl),λr hr=>po r (Zbg hr),λG2 k2=>?_⟩;simp only[cL];rw[show yK (ps.getD i pr0) (ps.take i)=gAt ps i from rfl]
   cases hb:gAt ps i with
   |false =>
    simp only[Zap,if_true];refine xtp ?_;simp only[qF]
    erw[c0,clR]
    refine⟨_,rfl,?_⟩;have:=h G2 (kp.trans k2);rw[ec,zdo hg hl hb] at this;simpa using this
   |true =>
    simp only[ZY,zzB,if_false];simp only[xC];refine⟨_,_,rfl,kp.trans k2,λk hk=>?_⟩
    by_cases hki:k=i
    .rw[hki];exact hb
    .exact hg k 'f'
  .rintro σ G' ⟨v,u,rfl,kp,hg⟩;rw[len] at hg;refine xtp ?_;simp only[qF]
   erw[]
   have:=h G' kp
   rwa[ec,bB hg] at this
end
theorem addL {G:Hw} {p q:Addr} {xs ys:List W} {Q:Q3} (hp:G p=some (.lst xs)) (hq:G q=some (.lst ys)) (hl:xs.length+ys.length<=3000) (h:∀ r,G r=none->Q (.ref r) (put G r (.lst (xs++ys)))):qP .Add (.ref p) (.ref q) G Q:=by
 simp only[qP,hp,hq];exact⟨sz _ hl,h⟩
section
variable {Γ:Ctx3} {K:yM} {C:Nat->Addr} {T:Addr} (e4:Γ.fn[4]? = some (eIsx K)) (e7:Γ.fn[7]? = some eInt) (s1:Γ.sx[1]? = some ⟨xfM "row", xfS K "row"⟩)
 (g1:Γ.gl[1]?=some (("ValueError":Str),.ty "ValueError")) (g2:Γ.gl[2]?=some (("NoText":Str),.ref (C 0))) (g3:Γ.gl[3]?=some (("NoBook":Str),.ref (C 1))) (g4:Γ.gl[4]?=some (("NotLet":Str),.ref (C 2)))
 (g5:Γ.gl[5]?=some (("NoMove":Str),.ref (C 3))) (g6:Γ.gl[6]?=some (("NoPlan":Str),.ref (C 4))) (g7:Γ.gl[7]?=some (("NoTalker":Str),.ref (C 5))) (g8:Γ.gl[8]?=some (("NoPaper":Str),.ref (C 6)))
 (g9:Γ.gl[9]?=some (("NoWeb":Str),.ref (C 7))) (g10:Γ.gl[10]?=some (("NoRow":Str),.ref (C 8))) (g11:Γ.gl[11]?=some (("NoName":Str),.ref (C 9)))
include e4 e7 s1 g1 g2 g3 g4 g5 g6 g7 g8 g9 g10 g11
theorem zd7 (c:Cl K C) {ws:List W} {G:Hw} {Q:Q3} (h:spTl ws G Q XN):xC Γ (fY C [⟨"checked", vU C⟩] T) vW (λ_ _ _=>False) { nx:=λ_ G'=>Q .non G',rt:=Q} (yL uB ws) G:=by
 obtain⟨ps,rfl,po,h⟩:=h;have f0:(fY C [⟨"checked", vU C⟩] T).fx[0]?=some ⟨"checked", vU C⟩:=rfl;have t0:(fY C [⟨"checked", vU C⟩] T).tr[0]?=some ⟨"TalkError", T,[C 6]⟩:=rfl;show xC Γ (fY C [⟨"checked", vU C⟩] T) vW (λ_ _ _=>False) { nx:=λ_ G'=>Q .non G',rt:=Q} [some (.tup (ps.map Rw.w)),none,none,none,none] G;simp only[vW];refine xtp ?_;simp only[qF]
 erw[]
 refine xtp ?_;simp only[qF]
 erw[]
 refine xtp ?_;simp only[qF,t0];refine xtp ?_;simp only[qF]
 erw[f0]
 refine⟨ps,rfl,po,λG1 k1=>?_⟩
 cases hc:chk ps with
 |none =>
  refine xtn ?_;refine xtp ?_;simp only[qF]
  erw[yZ,isR,zzB,if_false,if_true]
  refine yT ?_
  erw[yZ,isR,e7,intS,zzB,if_false]
  refine l2 λp hp=>?_;simp only[beq_self_eq_true,if_true];refine kD (zQ zL) ?_;rw[at_1];have:=h _ (k1.trans (kn (o:=.lst [.str "other", .str "whole"]) hp))
  rwa[hc] at this
 |some k =>
  refine⟨C 6,_,_,rfl,by simp,?_⟩;simp only[tZ,tS];refine xtp ?_;simp only[qF]
  erw[yZ,isR,zzB,if_false,if_true]
  refine kZ ?_;refine xtp ?_;simp only[qF]
  erw[g2,g3,g4,e4]
  refine⟨c.xc,c.xk,_,c.no 0 'g',⟨c.xc,c.xk,_,c.no 1 'g',⟨c.xc,c.xk,_,c.no 2 'g',l3 λp hp=>?_⟩⟩⟩;have gp:(put G1 p (.lst [.bl false,.bl false,.bl false])) p=some (.lst [.bl false,.bl false,.bl false]):=zL;have k2:=k1.trans (kn (o:=.lst [.bl false,.bl false,.bl false]) hp);generalize put G1 p (.lst [.bl false,.bl false,.bl false])=G2 at gp k2 ⊢;refine xtp ?_;simp only[qF]
  erw[g5,g6,g7,e4]
  refine⟨c.xc,c.xk,_,c.no 3 'g',⟨c.xc,c.xk,_,c.no 4 'g',⟨c.xc,c.xk,_,c.no 5 'g',l3 λq hq=>?_⟩⟩⟩;refine addL (jZ (kn hq) gp) zL (Zr rfl) λr hr=>?_;have gr:(put (put G2 q (.lst [.bl false,.bl false,.bl false])) r (.lst ([.bl false,.bl false,.bl false]++[.bl false,.bl false,.bl false]))) r=some (.lst [.bl false,.bl false,.bl false,.bl false,.bl false,.bl false]):=zL;have k3:=k2.trans ((kn (o:=.lst [.bl false,.bl false,.bl false]) hq).trans (kn (o:=.lst ([.bl false,.bl false,.bl false]++[.bl false,.bl false,.bl false])) hr));generalize put (put G2 q (.lst [.bl false,.bl false,.bl false])) r (.lst ([.bl false,.bl false,.bl false]++[.bl false,.bl false,.bl false]))=G3 at gr k3 ⊢
  clear hq hr hp
  refine xtp ?_;simp only[qF]
  erw[g9,g10,g11,e4]
  refine⟨c.xc,c.xk,_,c.no 7 'g',⟨c.xc,c.xk,_,c.no 8 'g',⟨c.xc,c.xk,_,c.no 9 'g',l3 λu hu=>?_⟩⟩⟩;refine addL (jZ (kn hu) gr) zL (Zr rfl) λv hv=>?_;have gv:(put (put G3 u (.lst [.bl false,.bl false,.bl false])) v (.lst ([.bl false,.bl false,.bl false,.bl false,.bl false,.bl false]++[.bl false,.bl false,.bl false]))) v=some (.lst (List.replicate 9 (.bl false))):=zL;have k4:=k3.trans ((kn (o:=.lst [.bl false,.bl false,.bl false]) hu).trans (kn (o:=.lst ([.bl false,.bl false,.bl false,.bl false,.bl false,.bl false]++[.bl false,.bl false,.bl false])) hv));generalize put (put G3 u (.lst [.bl false,.bl false,.bl false])) v (.lst ([.bl false,.bl false,.bl false,.bl false,.bl false,.bl false]++[.bl false,.bl false,.bl false]))=G4 at gv k4 ⊢
  clear hu hv
  have h1:=h G4 k4;rw[hc] at h1;refine xtp ?_;simp only[qF]
  erw[yZ,qR,gv,g8,g1,e4]
  refine⟨⟨rfl,rfl,Zr rfl⟩,?_⟩;rw[show((List.replicate 9 (W.bl false)).any λw=>xE w (.bl true))=false from rfl];simp only[zzB,if_false];refine⟨c.xc,c.xk,_,c.one,?_⟩;simp only[cL,ZY,zzB,if_false];refine⟨c.xc,c.xk,_,c.val,?_⟩;simp only[cL,ZY,zzB,if_false];refine kZ ?_;refine xtp ?_;simp only[qF]
  erw[s1]
  exact⟨⟨c.xc,c.hd,c.wld⟩,by simpa using h1⟩
end
structure Rw.sm (r:Rw):Prop where
 g:r.g.length<=5
 z:∀ x∈r.g,x.size<=20
 s:∀ x,r.s=some x->x.size<=20
 a:r.a.length<=5
 y:r.y.length<=100
theorem Rw.sm.ok {r:Rw} (h:r.sm):r.ok:=⟨Ze h.g 'c',h.z,h.s,Ze h.a 'c'⟩
structure Itm (G:Hw) (w:W):Prop where
 ex:∃ (s:Option Sy) (y:Str) (a:List Int) (p:Addr) (g:List Sy),w=.tup [ow s,.str y,.tup (a.map .int),.ref p]/\G p=some (.lst (g.map Sy.w))/\g.length<=5/\(∀ x∈g,x.size<=20)/\(∀ x,s=some x->x.size<=20)/\a.length<=5/\y.length<=100
theorem Itm.keep {G G':Hw} {w:W} (k:zK [] G G') (h:Itm G w):Itm G' w:=by
 obtain⟨s,y,a,p,g,h1,h2,h3⟩:=h.ex;exact⟨s,y,a,p,g,h1,jZ k h2,h3⟩
noncomputable def okS:IE->Bool
 | .var i=>decide (i<7)
 | .con .none=>true
 | .tup {.con (.str t),.var i}=>t == "not" && decide (i<7)
 | .tup {.con (.str t),.var i,.var j}=>(t == "and" || t == "or" || t == "if")&&decide (i<7)&&decide (j<7)
 |_=>false
noncomputable def okI:Nat->IEs->Bool
 |_,.nil=>true
 |n+1,.cons (.con (.int _)) es=>okI n es
 |_,_=>false
noncomputable def okL:Nat->IEs->Bool
 |_,.nil=>true
 |n+1,.cons (.var i) es=>decide (i<7)&&okL n es
 |_,_=>false
noncomputable def okT:IE->Bool
 | .tup (.cons S {.con (.str y),.tup I,.lst L})=>okS S&&okI 5 I&&okL 5 L&&decide (y.length<=100)
 |_=>false
noncomputable def okTs:Nat->IEs->Bool
 |_,.nil=>true
 |n+1,.cons e es=>okT e&&okTs n es
 |_,_=>false
structure Sv (σ:xZ):Prop where
 at_:∀ i,i<7->∃ s:Sy,σ[i]?=some (some s.w)/\s.size<=9
section
variable {Γ:Ctx3} {σ:xZ} (V:Sv σ)
include V
theorem okS_s {e:IE} (h:okS e=true):∃ s:Option Sy,(∀ x,s=some x->x.size<=20)/\∀ (G:Hw) (Q:Q3),Q (ow s) G->(zI Γ XN e).e σ G Q:=by
 unfold okS at h
 split at h
 .obtain ⟨s,e,z⟩:=V.at_ _ (of_decide_eq_true h);exact⟨some s,λx hx=>by cases hx;omega,λG Q q=>by erw[e];exact q⟩
 .exact ⟨none,λx hx=>(nomatch hx),λG Q q=>q⟩
 .rw[Zm,beq_iff_eq,decide_eq_true_eq] at h;obtain⟨rfl,hi⟩:=h;obtain⟨s,e,z⟩:=V.at_ _ hi;exact⟨some (.not s),λx hx=>by cases hx;simp only[Sy.size];omega,λG Q q=>by erw[e];exact l2 q⟩
 .rw[Zm,Zm,decide_eq_true_eq,decide_eq_true_eq,ZbR,ZbR,beq_iff_eq,beq_iff_eq,beq_iff_eq] at h;obtain⟨⟨ht,hi⟩,hj⟩:=h;obtain⟨s,e,z⟩:=V.at_ _ hi;obtain⟨u,e',z'⟩:=V.at_ _ hj;rcases ht with(rfl|rfl)|rfl
  .exact ⟨some (.and s u),λx hx=>by cases hx;simp only[Sy.size];omega,λG Q q=>by erw[e,e'];exact l3 q⟩
  .exact ⟨some (.or s u),λx hx=>by cases hx;simp only[Sy.size];omega,λG Q q=>by erw[e,e'];exact l3 q⟩
  .exact ⟨some (.ite s u),λx hx=>by cases hx;simp only[Sy.size];omega,λG Q q=>by erw[e,e'];exact l3 q⟩
 .cases h
omit V in
theorem okI_s (n:Nat):∀ {es:IEs},okI n es=true->∃ a:List Int,a.length<=n/\∀ (G:Hw) (Q:List W->Hw->Prop),Q (a.map .int) G->zX Γ XN es σ G Q:=by
 induction n with
 |zero =>
  intro es h;unfold okI at h
  split at h
  .exact ⟨[],Zy _,λG Q q=>q⟩
  .rename_i heq;cases heq
  .cases h
 |succ n ih =>
  intro es h;unfold okI at h
  split at h
  .exact ⟨[],Zy _,λG Q q=>q⟩
  .rename_i i es heq;cases heq;obtain⟨a,h1,h2⟩:=ih h;exact⟨i::a,ZaB h1,λG Q q=>h2 G (λxs G2=>Q (.int i::xs) G2) q⟩
  .cases h
theorem okL_s (n:Nat):∀ {es:IEs},okL n es=true->∃ g:List Sy,g.length<=n/\(∀ x∈g,x.size<=20)/\∀ (G:Hw) (Q:List W->Hw->Prop),Q (g.map Sy.w) G->zX Γ XN es σ G Q:=by
 induction n with
 |zero =>
  intro es h;unfold okL at h
  split at h
  .exact ⟨[],Zy _,λ_ h=>(nomatch h),λG Q q=>q⟩
  .rename_i heq;cases heq
  .cases h
 |succ n ih =>
  intro es h;unfold okL at h
  split at h
  .exact ⟨[],Zy _,λ_ h=>(nomatch h),λG Q q=>q⟩
  .rename_i i es heq;cases heq;rw[Zm,decide_eq_true_eq] at h;obtain⟨s,e,z⟩:=V.at_ _ h.1;obtain⟨a,h1,h3,h2⟩:=ih h.2;refine⟨s::a,ZaB h1,λx hx=>?_,λG Q q=>?_⟩
   .rcases Zh.mp hx with rfl|hx
    .omega
    .exact h3 x hx
   ·erw[e]
    exact h2 G (λxs G2=>Q (s.w::xs) G2) q
  .cases h
theorem okT_s {e:IE} (h:okT e=true) {G:Hw} {Q:Q3} (q:∀ w G',zK [] G G'->Itm G' w->Q w G'):(zI Γ XN e).e σ G Q:=by
 unfold okT at h
 split at h
 .rename_i S y I L;rw[Zm,Zm,Zm,decide_eq_true_eq] at h;obtain⟨⟨⟨hS,hI⟩,hL⟩,hy⟩:=h;obtain⟨s,zs,es⟩:=okS_s (Γ:=Γ) V hS;obtain⟨a,la,ea⟩:=okI_s (Γ:=Γ) (σ:=σ) 5 hI;obtain⟨g,lg,zg,eg⟩:=okL_s (Γ:=Γ) V 5 hL
  erw[]
  refine es G _ ?_;refine ea G _ ⟨sz _ (by rw[zzM];omega),?_⟩;refine eg G _ ⟨sz _ (by rw[zzM];omega),λp hp=>?_⟩;exact⟨sz 4 'c',q _ _ (kn hp) ⟨s,y,a,p,g,rfl,zL,lg,zg,zs,la,hy⟩⟩
 .cases h
theorem zfU (n:Nat):∀ {es:IEs},okTs n es=true->∀ {G:Hw} {Q:List W->Hw->Prop},(∀ ws G',ws.length<=n->zK [] G G'->(∀ w∈ws,Itm G' w)->Q ws G')->zX Γ XN es σ G Q:=by
 induction n with
 |zero =>
  intro es h G Q q;unfold okTs at h
  split at h
  .exact q [] G (Zy _) zK.refl (λ_ h=>(nomatch h))
  .rename_i heq;cases heq
  .cases h
 |succ n ih =>
  intro es h G Q q;unfold okTs at h
  split at h
  .exact q [] G (Zy _) zK.refl (λ_ h=>(nomatch h))
  .rename_i e es heq;cases heq;rw[Zm] at h;refine okT_s V h.1 λw G1 k1 i1=>ih h.2 λws G2 l2 k2 i2=>q (w::ws) G2 (ZaB l2) (k1.trans k2) λv hv=>?_;rcases Zh.mp hv with rfl|hv
   .exact i1.keep k2
   .exact i2 v hv
  .cases h
end
noncomputable def zb8:Nat->ISs->Option ISs
 |n+1,.cons (.asg 7 (.bin .Add (.var 7) (.lst es))) ss=>if okTs 5 es=true then zb8 n ss else none
 |_,ss=>some ss
section
variable {Γ:Ctx3}
theorem zgB {σ0:xZ} (V:∀ v,Sv (σ0.set 7 v)) (l0:σ0.length=8):∀ {n:Nat} {ss rest:ISs},zb8 n ss=some rest->∀ {D:End3} {G:Hw} {q:Addr} {ws:List W} {m:Nat},G q=some (.lst ws)->(∀ w∈ws,Itm G w)->ws.length<=m->m+5 * n<=200 ->
  (∀ q' ws' G',ws'.length<=200->zK [] G G'->G' q'=some (.lst ws')->(∀ w∈ws',Itm G' w)->zB Γ XN rest D (σ0.set 7 (q'⁻¹)) G')->zB Γ XN ss D (σ0.set 7 (q⁻¹)) G:=by
 intro n
 induction n with
 |zero =>
  intro ss rest h D G q ws m gq hi hl hm H;have e:ss=rest:=by simpa[zb8] using h
  subst e;exact H q ws G 'f' zK.refl gq hi
 |succ n ih =>
  intro ss rest h D G q ws m gq hi hl hm H;unfold zb8 at h
  split at h
  .rename_i n' es ss' heq;cases heq
   split at h
   .rename_i ho;refine yT ?_;have e7:(σ0.set 7 (q⁻¹))[7]?=some (q⁻¹):=by rw[Zad 'f']
    erw[e7]
    refine zfU (V _) 5 ho λus G1 l1 k1 i1=>⟨sz _ 'f',λp hp=>?_⟩;refine addL (jZ (k1.trans (kn hp)) gq) zL 'f' λr hr=>?_;have k2:=(k1.trans (kn (o:=.lst us) hp)).trans (kn (o:=.lst (ws++us)) hr);rw[List.set_set];refine ih h (m:=m+5) zL (λw hw=>?_) (by rw[zzW];omega) 'f' λq' ws' G' a b c d=>H q' ws' G' a (k2.trans b) c d;rcases ZA.mp hw with hw|hw
    .exact (hi w hw).keep k2
    .exact (i1 w hw).keep ((kn hp).trans (kn hr))
   .cases h
  .cases h;exact H q ws G 'f' zK.refl gq hi
end
noncomputable def vM:tO:=λws G Q _=>∃ x y z:Sy,ws=[x.w,y.w,z.w]/\x.size<=4/\y.size<=4/\z.size<=4/\∀ (rs:List Rw) p G',(∀ r∈rs,r.sm)->rs.length<=200->zK [] G G'->G' p=some (.lst (rs.map Rw.w))->Q (.ref p) G'
noncomputable abbrev ziT (a b c d:Str):ISs:=.cons (.ret (.lc (.tup {.nm 0,.nm 1,.nm 2,.nm 3}) [a,b,c,d] [] (.val (.var 7)) .no (.call 11 {.var 0,.var 1,.var 2,.var 3}))) .nil
section
variable {Γ:Ctx3} (e11:Γ.fn[11]? = some ⟨"_law_row", zb9⟩)
include e11
theorem zei {a b c d:Str} {σ:xZ} {D:End3} {G:Hw} {q:Addr} {ws:List W} (s7:σ[7]?=some (q⁻¹)) (gq:G q=some (.lst ws)) (hi:∀ w∈ws,Itm G w) (hl:ws.length<=200) (h:∀ (rs:List Rw) p G',(∀ r∈rs,r.sm)->rs.length<=200->zK [] G G'->G' p=some (.lst (rs.map Rw.w))->D.rt (.ref p) G'):zB Γ XN (ziT a b c d) D σ G:=by
 refine yT ?_
 erw[s7]
 refine rN gq ?_;refine⟨λi acc G'=>zK [] G G'/\∃ rs:List Rw,acc=rs.map Rw.w/\rs.length=i/\∀ r∈rs,r.sm,⟨zK.refl,[],rfl,rfl,λ_ h=>(nomatch h)⟩,?_,sz _ 'f',?_,?_⟩
 .rintro i acc G' ⟨k,rs,rfl,rfl,_⟩ _;exact⟨zQ (jZ k gq),by rw[zzM];exact zzR _⟩
 .rintro i w acc G' hw ⟨k,rs,rfl,rfl,ho⟩;obtain⟨s,y,a,p,g,rfl,gp,lg,zg,zs,la,ly⟩:=((hi w (Zw hw)).keep k).ex;simp only[jP,Zg,Zn,List.replicate,zzV,zzU,ZC,ZI,Zq]
  erw[if_true,e11]
  refine⟨s,y,a,p,g,rfl,gp,by omega,zg,λus mk G2 k2=>⟨k.trans k2,rs++[⟨us,s,y,a⟩],by rw[ZV];rfl,by rw[zzW];rfl,λr hr=>?_⟩⟩;rcases ZA.mp hr with hr|hr
  .exact ho r hr
  .rw[zzO hr];exact⟨Ze mk.l lg,λx hx=>zg x ((mk.m x).mp hx),zs,la,ly⟩
 .rintro acc G' ⟨k,rs,rfl,hn,ho⟩ p hp;exact h rs p _ ho 'f' (k.trans (kn hp)) zL
theorem zaV {b ss:ISs} {es:IEs} {n1 n2 n3 n4:Str} {x y z:Sy} {G:Hw} {D:End3} (eb:b=.cons (cH 0 wN) (.cons (.asg 7 (.lst es)) ss)) (he:okTs 5 es=true) (hs:zb8 30 ss=some (ziT n1 n2 n3 n4)) (hx:x.size<=4) (hy:y.size<=4) (hz:z.size<=4)
  (h:∀ (rs:List Rw) p G',(∀ r∈rs,r.sm)->rs.length<=200->zK [] G G'->G' p=some (.lst (rs.map Rw.w))->D.rt (.ref p) G'):zB Γ XN b D [some x.w,some y.w,some z.w,none,none,none,none,none] G:=by
 subst eb;refine yT (asg4 ?_)
 have V:∀ v,Sv (([some x.w,some y.w,some z.w,some (Sy.and x y).w,some (Sy.or x y).w,some (Sy.ite x y).w,some (Sy.not x).w,none]:xZ).set 7 v):=λv=>⟨λi hi=>by
  match i,hi with
  | 0,_=>exact⟨x,rfl,by omega⟩
  | 1,_=>exact⟨y,rfl,by omega⟩
  | 2,_=>exact⟨z,rfl,by omega⟩
  | 3,_=>exact⟨.and x y,rfl,by simp only[Sy.size];omega⟩
  | 4,_=>exact⟨.or x y,rfl,by simp only[Sy.size];omega⟩
  | 5,_=>exact⟨.ite x y,rfl,by simp only[Sy.size];omega⟩
  | 6,_=>exact⟨.not x,rfl,by simp only[Sy.size];omega⟩⟩
 refine yT ?_;refine zfU (Γ:=Γ) (V none) 5 he λus G1 l1 k1 i1=>⟨sz _ 'f',λp hp=>?_⟩;refine zgB V rfl hs (m:=5) zL (λw hw=>(i1 w hw).keep (kn hp)) 'f' 'f' λq' ws' G' a b c d=>?_;exact zei e11 rfl c d a λrs p G'' r1 r2 r3 r4=>h rs p G'' r1 r2 ((k1.trans (kn hp)).trans (b.trans r3)) r4
theorem zcC {ws:List W} {G:Hw} {Q:Q3} (h:vM ws G Q XN):zB Γ XN kO { nx:=λ_ G'=>Q .non G',rt:=Q} (yL wD ws) G:=by
 obtain⟨x,y,z,rfl,hx,hy,hz,h⟩:=h;exact zaV e11 rfl rfl rfl hx hy hz h
theorem zau {ws:List W} {G:Hw} {Q:Q3} (h:vM ws G Q XN):zB Γ XN qV { nx:=λ_ G'=>Q .non G',rt:=Q} (yL wO ws) G:=by
 obtain⟨x,y,z,rfl,hx,hy,hz,h⟩:=h;exact zaV e11 rfl rfl rfl hx hy hz h
end
noncomputable def pX:tO:=λws G Q _=>∃ (p:Addr) (rs:List Rw),ws=[.ref p]/\G p=some (.lst (rs.map Rw.w))/\rs.length<=3/\(∀ r∈rs,r.sm)/\∀ (fs:List Rw) q G',(∀ r∈fs,r.ok)->fs.length<=200->zK [] G G'->G' q=some (.lst (fs.map Rw.w))->Q (.ref q) G'
theorem qK {α β:Type} (f:α->β) (l:List α) (lo hi:Option Int):jQ (l.map f) lo hi=(jQ l lo hi).map f:=by
 unfold jQ;rw[zzM,ZbJ,List.map_drop]
theorem kA {α:Type} (l:List α) (lo hi:Option Int):(jQ l lo hi).length<=l.length:=by
 unfold jQ;rw[Z0,Zbd];omega
theorem zdC {α:Type} {l:List α} {lo hi:Option Int} {x:α} (h:x∈jQ l lo hi):x∈l:=List.mem_of_mem_drop (Zbg h)
theorem tX {fs gs:List Rw} (h:∀ r∈fs,r.ok) (h':∀ r∈gs,r.ok):∀ r∈fs++gs,r.ok:=λr hr=>(ZA.mp hr).elim (h r) (h' r)
section
variable {Γ:Ctx3} (m2:Γ.mt[2]? = some eApp) (m3:Γ.mt[3]? = some eExt) (s3:Γ.sx[3]? = some ⟨rvM, rvS⟩)
include m3
theorem zdq {q:Addr} {fs:List Rw} {G0 G:Hw} {σ:xZ} {D:End3} {rest:ISs} {e1 e2:IE} (r1 r2:Rw) (gq:G q=some (.lst (fs.map Rw.w))) (hn:G0 q=none) (k:zK [] G0 G) (hl:fs.length<=500) (s1:σ[1]?=some (q⁻¹))
  (h1:∀ Q:Q3,Q r1.w G->(zI Γ XN e1).e σ G Q) (h2:∀ Q:Q3,Q r2.w G->(zI Γ XN e2).e σ G Q) (h:∀ G',zK [] G0 G'->G' q=some (.lst ((fs++[r1,r2]).map Rw.w))->zB Γ XN rest D σ G'):zB Γ XN (.cons (.ex (.mth 3 (.var 1) {.lst (.cons e1 (.cons e2 .nil))})) rest) D σ G:=by
 refine yT ?_
 erw[s1,m3]
 refine⟨tyL gq,h1 _ (h2 _ (l2 λr hr=>?_))⟩;have gr:(put G r (.lst [r1.w,r2.w])) r=some (.lst [r1.w,r2.w]):=zL;have kr:=kn (o:=.lst [r1.w,r2.w]) hr;generalize put G r (.lst [r1.w,r2.w])=G1 at gr kr ⊢;refine⟨_,_,jZ kr gq,zQ gr,sz _ (by rw[zzM];simp only[Zg,Zn];omega),?_⟩;refine h _ (sZ (k.trans kr) hn) ?_;rw[zL,ZV];rfl
include m2 s3
theorem zdj {ws:List W} {G:Hw} {Q:Q3} (h:pX ws G Q XN):zB Γ XN qI { nx:=λ_ G'=>Q .non G',rt:=Q} (yL vF ws) G:=by
 obtain⟨p,rs,rfl,gp,rl,rm,h⟩:=h;show zB Γ XN qI { nx:=λ_ G'=>Q .non G',rt:=Q} [p⁻¹,none,none,none,none,none,none] G;simp only[qI];refine yT ?_
 erw[]
 refine l0 λq hq=>?_;refine yT ?_
 erw[]
 refine rN (jZ (kn hq) gp) ?_;refine⟨λi σ G'=>∃ (a b c d e:Option W) (fs:List Rw),σ=[p⁻¹,q⁻¹,a,b,c,d,e]/\zK [] G G'/\G' q=some (.lst (fs.map Rw.w))/\fs.length=11 * i/\∀ r∈fs,r.ok,⟨none,none,none,none,none,[],rfl,kn hq,zL,rfl,λ_ h=>(nomatch h)⟩,?_,?_,?_⟩
 .rintro i σ G' ⟨_,_,_,_,_,_,_,k,_⟩ _;exact zQ (jZ k gp)
 .rintro i w σ G1 hw ⟨va,vb,vc,vd,ve,fs,rfl,k1,g1,f1,o1⟩;rw[Zz] at hw;obtain⟨r,hr,rfl⟩:=ZK.mp hw;have hi:i<3:=Zj (Zp.mp hr).1 rl;have sm:=rm r (Zw hr);obtain⟨g,s,y,a⟩:=r;obtain⟨sg,sz',ss,sa,sy⟩:=sm;dsimp only at sg sz' ss sa sy;simp only[Rw.w]
  erw[]
  refine zdq m3 (⟨g++jQ g none (some 1),s,y,a⟩) (⟨g.reverse,s,y,a⟩) g1 hq k1 'f' rfl (λQ q=>?_) (λQ q=>?_) (λG2 k2 g2=>?_)
  ·erw[gL,qK]
   refine⟨sz _ (by have:=kA g none (some 1);simp only[zzM];omega),?_⟩;rw[← ZV];exact⟨sz 4 'c',q⟩
  ·erw[s3,rvS]
   rw[← List.map_reverse];exact⟨sz 4 'c',q⟩
  have c1:=kA g none (some 1);have c2:=kA a none (some (-1));have c3:=kA a none (some 1);have c4:=kA a (some 1) none
  have o2:=tX (gs:=[(⟨g++jQ g none (some 1),s,y,a⟩:Rw),⟨g.reverse,s,y,a⟩]) o1 λr hr=>by
   rcases Zh.mp hr with rfl|hr
   .exact ⟨by simp only[zzW];omega,λx hx=>(ZA.mp hx).elim (sz' x) λhx=>sz' x (zdC hx),ss,by simp only;omega⟩
   .rw[zzO hr];exact⟨by simp only[Zak];omega,λx hx=>sz' x (List.mem_reverse.mp hx),ss,by simp only;omega⟩
  refine zdq m3 (⟨g,s,y,jQ a none (some (-1))⟩) (⟨g,s,y,a++jQ a none (some 1)⟩) g2 hq k2 (by simp only[zzW,Zg,Zn];omega) rfl (λQ q=>?_) (λQ q=>?_) (λG3 k3 g3=>?_)
  ·erw[gL,qK]
   exact⟨sz 4 'c',q⟩
  ·erw[gL,qK]
   refine⟨sz _ (by simp only[zzM];omega),?_⟩;rw[← ZV];exact⟨sz 4 'c',q⟩
  have o3:=tX (gs:=[(⟨g,s,y,jQ a none (some (-1))⟩:Rw),⟨g,s,y,a++jQ a none (some 1)⟩]) o2 λr hr=>by
   rcases Zh.mp hr with rfl|hr
   .exact ⟨by simp only;omega,sz',ss,by simp only;omega⟩
   .rw[zzO hr];exact⟨by simp only;omega,sz',ss,by simp only[zzW];omega⟩
  refine zdq m3 (⟨g,s,y ++ " ", a⟩) (⟨g,s, "", a⟩) g3 hq k3 (by simp only[zzW,Zg,Zn];omega) rfl (λQ q=>?_) (λQ q=>?_) (λG4 k4 g4=>?_)
  ·erw[]
   refine addS (Ze (Nat.add_le_add_right sy _) 'c') ?_;exact⟨sz 4 'c',q⟩
  ·erw[]
   exact⟨sz 4 'c',q⟩
  have o4:=tX (gs:=[(⟨g,s,y ++ " ", a⟩:Rw),⟨g,s, "", a⟩]) o3 λr hr=>by
   rcases Zh.mp hr with rfl|hr
   .exact ⟨by simp only;omega,sz',ss,by simp only;omega⟩
   .rw[zzO hr];exact⟨by simp only;omega,sz',ss,by simp only;omega⟩
  have f4:(((fs++[(⟨g++jQ g none (some 1),s,y,a⟩:Rw),⟨g.reverse,s,y,a⟩])++[(⟨g,s,y,jQ a none (some (-1))⟩:Rw),⟨g,s,y,a++jQ a none (some 1)⟩])++[(⟨g,s,y ++ " ", a⟩:Rw),⟨g,s, "", a⟩]).length=11 * i+6:=by simp only[zzW,Zg,Zn];omega
  generalize ((fs++[(⟨g++jQ g none (some 1),s,y,a⟩:Rw),⟨g.reverse,s,y,a⟩])++[(⟨g,s,y,jQ a none (some (-1))⟩:Rw),⟨g,s,y,a++jQ a none (some 1)⟩])++[(⟨g,s,y ++ " ", a⟩:Rw),⟨g,s, "", a⟩]=f5 at f4 o4 g4
  clear g1 g2 g3 o1 o2 o3 k1 k2 k3
  refine yT ?_
  erw[]
  refine⟨⟨by decide,by decide,by decide⟩,?_⟩;refine⟨sz 5 'c',rO ?_⟩;generalize ((10:Int) ^ (20:Int).toNat)=big;refine⟨λj σ G'=>∃ (e:Option W) (fs:List Rw),σ=[p⁻¹,q⁻¹,some (.tup (g.map Sy.w)),some (ow s),some (.str y),some (.tup (a.map .int)),e]/\zK [] G G'/\G' q=some (.lst (fs.map Rw.w))/\fs.length=11 * i+6+j/\∀ r∈fs,r.ok,⟨ve,f5,rfl,k4,g4,f4,o4⟩,λ_ _ _ _ _=>trivial,?_,?_⟩
  .rintro j w σ G5 hw ⟨e,fs,rfl,k5,g5,f6,o5⟩;have hj:j<5:=(Zp.mp hw).1
   obtain⟨n,rfl⟩:∃ n:Int,w=.int n:=by
    have:=Zw hw;simp only[Zh,Zt,or_false] at this;rcases this with rfl|rfl|rfl|rfl|rfl<;>exact⟨_,rfl⟩
   refine yT ?_
   erw[m2,gL,qK]
   refine⟨tyL g5,l1 ⟨sz _ (by simp only[zzM,Zg,Zn];omega),?_⟩⟩;refine⟨sz 4 'c',?_⟩;refine appL g5 (by rw[zzM];omega) ?_;refine⟨_,fs++[⟨g,s,y,n::jQ a (some 1) none⟩],rfl,sZ k5 hq,by rw[zL,ZV];rfl,by simp only[zzW,Zg,Zn];omega,tX o5 λr hr=>?_⟩;rw[zzO hr];exact⟨by simp only;omega,sz',ss,by simp only[Zg];omega⟩
  .rintro σ G' ⟨e,fs,rfl,k,g,f,o⟩;exact⟨_,_,_,_,_,fs,rfl,k,g,by simp only[Zg,Zn] at f;omega,o⟩
 .rintro σ G' ⟨va,vb,vc,vd,ve,fs,rfl,k,g,f,o⟩;refine yT ?_
  erw[]
  rw[zzM] at f;exact h fs q G' o 'f' k g
end
theorem zax {G:Hw} {i j:Int}:sM G (.int i) (.int j)=some (decide (i=j)):=by simp[sM,pur,dep,xE,Za8]
noncomputable def xH (n:Nat):tO:=λws G Q _=>∃ (d l r:Addr) (m:Int) (xs:List Str),ws=[.ref d,.ref r,.int m]/\jJ G d l/\r∉[d,l]/\G r=some (.lst (xs.map .str))/\xs≠[]/\xs.length<=100/\1<=m/\m<=n/\m<=100 /\
 ∀ (t:Sy) G',(t.size:Int)<=m->zK [d,l] G G'->jJ G' d l->Q t.w G'
noncomputable def pY:tO:=λws G Q _=>∃ (d l:Addr) (m:Int),ws=[.ref d,.int m]/\jJ G d l/\1<=m/\m<=50/\∀ (r:Addr) (xs:List Str) G',xs≠[]->xs.length<=100->r∉[d,l]->G' r=some (.lst (xs.map .str))->zK [d,l] G G'->jJ G' d l->Q (.ref r) G'
section
variable (K:yM) (C:Nat->Addr)
noncomputable def fnL:List Fn3:=[eMax,rC,eAll,eLst,eIsx K,eSrt,eTup,eInt,zkx,zfk,⟨"_law_names", pY⟩,⟨"_law_row", zb9⟩,⟨"_law_base", cE⟩,⟨"_law_saying", xH 10⟩,⟨"_law_plain_rows", vM⟩,⟨"_law_letting_rows", vM⟩,⟨"sort_of", uF⟩,⟨"made_of", spMd⟩,⟨"taken_from", spTk⟩,⟨"why_lets", cF⟩,⟨"is_rising", cG⟩,⟨"let_go", spGo⟩,⟨"is_good", spGd⟩,⟨"checked",λws G Q _=>vU C ws G Q λ_ _=>False⟩,⟨"_law_told", spTl⟩,⟨"_law_gone", spGn⟩,⟨"_law_is_good", spLg⟩,⟨"_law_forms", pX⟩]
noncomputable def GamL (l:List Fn3):Ctx3:=⟨l,[("WHYS", .dcf whyK whyV),("ValueError", .ty "ValueError"),("NoText", .ref (C 0)),("NoBook", .ref (C 1)),("NotLet", .ref (C 2)),("NoMove", .ref (C 3)),("NoPlan", .ref (C 4)),("NoTalker", .ref (C 5)),("NoPaper", .ref (C 6)),("NoWeb", .ref (C 7)),("NoRow", .ref (C 8)),("NoName", .ref (C 9))],
 [ePop,zfj,eApp,eExt],[eRng,eZpi,eEn],[],[eRev,⟨xfM "row", xfS K "row"⟩,⟨getM "WHYS", getS whyK whyV⟩,⟨rvM,rvS⟩],[]⟩
noncomputable def uG (n:Nat):Ctx3:=GamL K C ((fnL K C).take n)
noncomputable def GamR (n:Nat) (e:Fn3):Ctx3:=GamL K C ((fnL K C).take n++[e])
end
section
variable {K:yM} {C:Nat->Addr}
theorem fnAt {n:Nat} (i:Nat) (hi:i<n) {e:Fn3} (h:(fnL K C)[i]?=some e):(uG K C n).fn[i]?=some e:=by
 show((fnL K C).take n)[i]?=_;rw[List.getElem?_take_of_lt hi];exact h
theorem fnA {n m:Nat} (i:Nat) (hn:m<=n) {e:Fn3} (h:(fnL K C)[i]?=some e) (hi:i<m:=by decide):(uG K C n).fn[i]?=some e:=fnAt i (Zj hi hn) h
end
noncomputable abbrev abc:Str := "abcdefghijklmnopqrstuvwxyz"
theorem zaI:abc.cps.toList.length=26:=by decide +kernel
theorem zjS {i:Int} {G:Hw} {Q:Q3} (h0:0<=i) (h1:i<26) (h:∀ x:Str,x.length=1->Q (.str x) G):qD (.str abc) (.int i) G Q:=by
 have hi:i.toNat<abc.cps.toList.length:=by rw[zaI];omega
 have e:tU abc.cps.toList i=some abc.cps.toList[i.toNat]:=by
  unfold tU ixN;rw[if_pos h0,zaI,if_pos (show i<((26:Nat):Int) from h1)];exact Zf hi
 simp only[qD,e];refine⟨?_,h _ rfl⟩;have:abc.length=26:=by rw[← zaI];rfl
 rw[this];exact sz _ 'c'
theorem slS {x:Str} {lo hi:Option Int} {G:Hw} {Q:Q3} (h:x.length<=3000) (q:∀ y:Str,y.length<=x.length->Q (.str y) G):gL (.str x) lo hi G Q:=⟨sz _ h,q _ (Txt.slice_le x lo hi)⟩
theorem zeU {ts:List Str} (h:∀ x∈ts,x.length<=1) (hn:ts.length<=5):JoinOk "" ts=true/\(Txt.join "" ts).length<=5:=by
 have e:("":Str).length=0:=by decide +kernel
 constructor
 .unfold JoinOk;rw[StrLaws.joinFits h (by rw[e];omega)];rfl
 .have h1:=StrLaws.join_length_le "" ts;have h2:=StrLaws.sumLen_le ts h;rw[e] at h1;rw[show Txt.join "" ts=Str.join "" ts from StrLaws.glued_eq_join "" ts];refine Ze h1 ?_;omega
section
variable {K:yM} {C:Nat->Addr}
theorem zcM {n:Nat} (hn:10<=n) {ws:List W} {G:Hw} {Q:Q3} (h:pY ws G Q XN):zB (uG K C n) XN wZ { nx:=λ_ G'=>Q .non G',rt:=Q} (yL vG ws) G:=by
 obtain⟨d,l,m,rfl,D,m1,m50,h⟩:=h;have e1:(uG K C n).fn[1]?=some rC:=fnA 1 hn rfl;have e8:(uG K C n).fn[9]?=some zfk:=fnA 9 hn rfl;have t1:(uG K C n).mt[1]?=some zfj:=rfl;have t2:(uG K C n).mt[2]?=some eApp:=rfl;have i0:(uG K C n).it[0]?=some eRng:=rfl;have z0:=sz 0 'c';have z4:=sz 4 'c';have q1:("q":Str).length=1:=by decide +kernel
 have zl:("z":Str).length=1:=by decide +kernel
 show zB (uG K C n) XN wZ { nx:=λ_ G'=>Q .non G',rt:=Q} [d⁻¹,some (.int m),none,none,none,none,none,none,none] G
 have go:∀ (G1:Hw) (p:Addr) (core:Str),core.length<=5->G p=none->p∉[d,l]->zK [d,l] G G1->jJ G1 d l->G1 p=some (.lst []) ->
   zB (uG K C n) XN (tl (tl (tl wZ))) { nx:=λ_ G'=>Q .non G',rt:=Q} [d⁻¹,some (.int m),some (.str abc),p⁻¹,some (.str core),none,none,none,none] G1:=by
  intro G1 p core hc hpn hp k1 D1 gp;simp only[wZ,tl];refine yT ?_
  erw[e1,e8,mF,bE,sz _ (show core.length<=3000 by omega),if_true,qP]
  refine⟨d,l,core.length+1,rfl,D1,⟨by omega,by omega⟩,λat' G2 a0 a1 k2 D2=>?_⟩;have gp2:=k2 _ _ hp gp;refine yT ?_
  erw[e8]
  refine⟨d,l,26,rfl,D2,by decide,λtn G3 tn0 tn1 k3 D3=>?_⟩;have gp3:=k3 _ _ hp gp2;have kG:=(k1.trans k2).trans k3;refine yT ?_
  erw[zW,i0]
  refine⟨⟨by omega,by omega⟩,?_⟩;have len:((List.range m.toNat).map λi:Nat=>W.int (i:Int)).length=m.toNat:=by simp
  refine⟨λi σ G'=>∃ (xs:List Str) (v7 v8:Option W),σ=[d⁻¹,some (.int m),some (.str abc),p⁻¹,some (.str core),some (.int at'),some (.int tn),v7,v8]/\G' p=some (.lst (xs.map .str))/\xs.length=i/\(∀ x∈xs,x.length<=100)/\zK [d,l] G G'/\jJ G' d l,
   ⟨[],none,none,rfl,gp3,rfl,by simp,kG,D3⟩,λ_ _ _ _ _=>trivial,?_,?_⟩
  .rintro i w σ G' hw ⟨xs,v7,v8,rfl,gx,hl,hs,kp,D'⟩;rw[Zz] at hw;obtain⟨i',hi',rfl⟩:=ZK.mp hw;have him:i<m.toNat:=by have:=(Zp.mp hi').1;simpa using this
   have hii:i'=i:=by have:=(Zp.mp hi').2;simpa using this.symm
   subst hii;refine yT ?_
   erw[]
   refine slS 'f' λy1 h1=>?_;refine⟨.inl ⟨by omega,by omega⟩,by decide,?_⟩;refine zjS (Int.emod_nonneg _ 'c') (Int.emod_lt_of_pos _ 'c') λy2 h2=>?_;refine addS 'f' (slS 'f' λy3 h3=>addS (by rw[Za4];omega) ?_);have hlen:((y1++y2)++y3).length<=20:=by rw[Za4,Za4];omega
   generalize (y1++y2)++y3=nm at hlen ⊢;refine yT ?_
   erw[yZ,qR,L3.inR,zzB,if_false,zzC,zzL,zzA,Nat.reduceAdd,z4,true_and]
   refine⟨'h',?_⟩
   have app:∀ x:Str,x.length<=100->tyW G' (.ref p) "list" /\ appS (.ref p) [.str x] G' (λ_ G1=>∃ (xs':List Str) (v7 v8:Option W),[some (W.ref d),some (.int m),some (.str abc),p⁻¹,some (.str core),some (.int at'),some (.int tn),some (.int i'),some (.str x)]=[d⁻¹,some (.int m),some (.str abc),p⁻¹,some (.str core),some (.int at'),some (.int tn),v7,v8]/\G1 p=some (.lst (xs'.map .str))/\xs'.length=i'+1/\(∀ x∈xs',x.length<=100)/\zK [d,l] G G1/\jJ G1 d l):=by
    intro x hx;refine⟨tyL gx,appL gx (by rw[zzM];omega) ⟨xs++[x],_,_,rfl,by rw[zL];simp,by simp[hl],λy hy=>?_,sZ kp hpn,zdx hp D'⟩⟩;rcases ZA.mp hy with hy|hy
    .exact hs y hy
    .rw[zzO hy];exact hx
   split
   .refine yT ?_
    erw[]
    refine addS 'f' ?_;refine kZ ?_;refine yT ?_
    erw[t2]
    exact app _ (by rw[Za4];omega)
   .refine kZ ?_;refine yT ?_
    erw[t2]
    exact app _ 'f'
  .rintro σ G' ⟨xs,v7,v8,rfl,gx,hl,hs,kp,D'⟩;rw[len] at hl
   have fin:∀ (ys:List Str) (G2:Hw),ys.length=m.toNat->zK [d,l] G G2->jJ G2 d l->G2 p=some (.lst (ys.map .str))->∀ v7 v8:Option W,zB (uG K C n) XN {.ret (.var 3)} { nx:=λ_ G'=>Q .non G',rt:=Q} [d⁻¹,some (.int m),some (.str abc),p⁻¹,some (.str core),some (.int at'),some (.int tn),v7,v8] G2:=by
    intro ys G2 hy k4 D4 g4 v7 v8;refine yT ?_
    erw[]
    exact h p ys G2 (by rintro rfl;simp at hy;omega) 'f' hp g4 k4 D4
   refine yT ?_
   erw[yZ,nQ]
   by_cases hm:1<m
   .rw[if_pos (by simpa using hm)]
    erw[e8]
    refine⟨d,l,2,rfl,D',by decide,λb G4 b0 b1 k4 D4=>?_⟩;have gx4:=k4 _ _ hp gx;simp only[zax]
    by_cases hb:b=1
    .rw[decide_eq_true hb,if_pos rfl];obtain⟨x0,hx0,ex0⟩:=zgc (xs:=xs) (i:=0) 'c' 'f';have l0:=hs x0 hx0;refine yT ?_
     erw[]
     refine kD (zQ gx4) ?_;rw[ex0];refine addS 'f' ?_
     have e0:ixN (xs.map W.str).length 0=some 0:=by
      unfold ixN;rw[if_pos 'c',zzM,if_pos 'f'];rfl
     simp only[pA,gx4,e0];refine kZ ?_;exact fin (xs.set 0 (x0 ++ "z")) _ (by rw[Zbh];exact hl) (sZ (kp.trans k4) hpn) (zdx hp D4) (by rw[zL,List.map_set]) v7 v8
    .rw[decide_eq_false hb,if_neg zzN];refine kZ ?_;exact fin xs _ hl (kp.trans k4) D4 gx4 v7 v8
   .rw[if_neg (by simpa using hm),if_neg zzN];refine kZ ?_;exact fin xs _ hl kp D' gx v7 v8
 simp only[wZ,tl] at go;simp only[wZ];refine yT ?_
 erw[]
 refine yT ?_
 erw[Zn,z0,true_and]
 intro p hp;have hpd:=zjr D hp;have D1:=hJ (o:=.lst []) hp D;have k1:zK [d,l] G (put G p (.lst [])):=zK.new hp;have gp:(put G p (.lst [])) p=some (.lst []):=zL;generalize put G p (.lst [])=G1 at D1 k1 gp ⊢;refine yT ?_
 erw[t1,e8,zW,zT,i0]
 refine⟨rfl,d,l,5,rfl,D1,by decide,λj G2 j0 j5 k2 D2=>?_⟩;have gp2:=k2 _ _ hpd gp;refine⟨⟨by omega,by omega⟩,?_⟩;have len:((List.range j.toNat).map λi:Nat=>W.int (i:Int)).length=j.toNat:=by simp
 refine⟨λi acc G'=>∃ ts:List Str,acc=ts.map .str/\ts.length=i/\(∀ x∈ts,x.length<=1)/\zK [d,l] G2 G'/\jJ G' d l,⟨[],rfl,rfl,by simp,zK.refl,D2⟩,?_,by rw[len];exact sz _ 'f',?_,?_⟩
 .rintro i acc G' ⟨ts,rfl,rfl,_,_,_⟩ _;exact⟨trivial,by simp⟩
 .rintro i w acc G' hw ⟨ts,rfl,hl,hs,kp,D'⟩;simp only[jP,Zg,Zn,List.replicate,zzU,zzV,ZC,ZI,Zq]
  erw[Option.join_some,if_true,e8]
  refine⟨d,l,26,rfl,D',by decide,λr G'' r0 r1 kp' D''=>zjS r0 r1 λx hx=>?_⟩;refine⟨ts++[x],by simp,by simp[hl],λy hy=>?_,kp.trans kp',D''⟩;rcases ZA.mp hy with hy|hy
  .exact hs y hy
  .rw[zzO hy,hx];exact zzR _
 .rintro acc G' ⟨ts,rfl,hl,hs,kp,D'⟩ r hr;have hl5:ts.length<=5:=by rw[hl,len];omega
  obtain⟨jo,jl⟩:=zeU hs hl5;refine⟨ts,zQ zL,jo,?_⟩;have k3:zK [d,l] G' (put G' r (.lst (ts.map .str))):=zK.new hr;exact go _ p _ jl hp hpd (((k1.trans k2).trans kp).trans k3) (hJ hr D') (k3 _ _ hpd (kp _ _ hpd gp2))
theorem zbz {n:Nat} {ws:List W} {G:Hw} {Q:Q3} (h:xH (n+1) ws G Q XN):zB (GamR K C 13 ⟨"_law_saying", xH n⟩) XN jK { nx:=λ_ G'=>Q .non G',rt:=Q} (yL kI ws) G:=by
 obtain⟨d,l,r,m,xs,rfl,D,hr,gr,hx,hxl,m1,mn,m100,h⟩:=h;have e1:(GamR K C 13 ⟨"_law_saying", xH n⟩).fn[1]?=some rC:=rfl;have e8:(GamR K C 13 ⟨"_law_saying", xH n⟩).fn[9]?=some zfk:=rfl;have e9:(GamR K C 13 ⟨"_law_saying", xH n⟩).fn[13]?=some ⟨"_law_saying", xH n⟩:=rfl;have z2:=sz 2 'c';have z3:=sz 3 'c';have x0:0<xs.length:=List.length_pos_iff.mpr hx;show zB (GamR K C 13 ⟨"_law_saying", xH n⟩) XN jK { nx:=λ_ G'=>Q .non G',rt:=Q} [d⁻¹,r⁻¹,some (.int m),none,none,none] G;simp only[jK]
 ((try dsimp only[zB,zU,zV,zS,zI,zF,zE,zD,zP,zX,zR,zY,zZ,zW,zT,zO,zN,zG,zM,gZ,gS,tZ,tS]);try simp only[yZ,zax,e1,e8,e9,mF,bE,gr,zzM])
 by_cases hm1:m=1
 .subst hm1;rw[if_pos 'g'];refine⟨d,l,xs.length,rfl,D,⟨by omega,by omega⟩,λi G1 i0 i1 kp D1=>?_⟩;obtain⟨x,_,ex⟩:=zgc i0 i1;refine kD (zQ (kp _ _ hr gr)) ?_;rw[ex];exact⟨z2,h (.say x) G1 (by show((1:Nat):Int)<=1;decide) kp D1⟩
 rw[if_neg (by simpa using hm1)];refine⟨d,l,4,rfl,D,by decide,λway G1 w0 w1 kp1 D1=>?_⟩;have gr1:=kp1 _ _ hr gr
 (try dsimp only[zB,zU,zV,zS,zI,zF,zE,zD,zP,zX,zR,zY,zZ,zW,zT,zO,zN,zG,zM,gZ,gS,tZ,tS])
 have hnot:zB (GamR K C 13 ⟨"_law_saying", xH n⟩) XN {.ret (.tup {"not"⁻¹,.call 13 {.var 0,.var 1,.bin .Sub (.var 2) 1⁻¹}})} { nx:=λ_ G'=>Q .non G',rt:=Q} [d⁻¹,r⁻¹,some (.int m),some (.int way),none,none] G1:=by
  ((try dsimp only[zB,zU,zV,zS,zI,zF,zE,zD,zP,zX,zR,zY,zZ,zW,zT,zO,zN,zG,zM,gZ,gS,tZ,tS]);try simp only[qP,e9])
  refine⟨d,l,r,m-1,xs,rfl,D1,hr,gr1,hx,hxl,by omega,by omega,by omega,λt G2 hs kp2 D2=>⟨z2,h (.not t) G2 ?_ (kp1.trans kp2) D2⟩⟩;show((t.size+1:Nat):Int)<=m;omega
 (try dsimp only[zB,zU,zV,zS,zI,zF,zE,zD,zP,zX,zR,zY,zZ,zW,zT,zO,zN,zG,zM,gZ,gS,tZ,tS] at hnot)
 by_cases hm2:m=2
 .subst hm2;simp only[decide_true,if_true];exact hnot
 simp only[decide_eq_false hm2,zzB,if_false,zax]
 by_cases hw:way=3
 .subst hw;simp only[decide_true,if_true];exact hnot
 simp only[decide_eq_false hw,zzB,if_false,qP];refine⟨d,l,m-2,rfl,D1,⟨by omega,by omega⟩,λi G2 i0 i1 kp2 D2=>?_⟩;have gr2:=kp2 _ _ hr gr1
 ((try dsimp only[zB,zU,zV,zS,zI,zF,zE,zD,zP,zX,zR,zY,zZ,zW,zT,zO,zN,zG,zM,gZ,gS,tZ,tS]);try simp only[e9])
 refine⟨d,l,r,1+i,xs,rfl,D2,hr,gr2,hx,hxl,by omega,by omega,by omega,λa G3 ha kp3 D3=>?_⟩;have gr3:=kp3 _ _ hr gr2
 ((try dsimp only[zB,zU,zV,zS,zI,zF,zE,zD,zP,zX,zR,zY,zZ,zW,zT,zO,zN,zG,zM,gZ,gS,tZ,tS]);try simp only[zzC,zzL,zzA,Nat.reduceAdd,z3,true_and])
 intro p hp;have D4:=hJ (o:=.lst [.str "and", .str "or", .str "if"]) hp D3;have k4:zK [d,l] G3 (put G3 p (.lst [.str "and", .str "or", .str "if"])):=zK.new hp;have gr4:=k4 _ _ hr gr3;refine kD (zQ zL) ?_;have kp4:=((kp1.trans kp2).trans kp3).trans k4
 have fin:∀ (x:Str) (mk:Sy->Sy->Sy),(∀ a b,(mk a b).w=.tup [.str x,a.w,b.w])->(∀ a b,(mk a b).size=a.size+b.size+1) ->
   xH n [.ref d,.ref r,.int (m-1-(1+i))] (put G3 p (.lst [.str "and", .str "or", .str "if"])) (λb G5=>Q (.tup [.str x,a.w,b]) G5) XN:=λx mk ew es =>
  ⟨d,l,r,m-1-(1+i),xs,rfl,D4,hr,gr4,hx,hxl,by omega,by omega,by omega,λb G5 hb kp5 D5=>by
   show Q (.tup [.str x,a.w,b.w]) G5;rw[← ew];refine h (mk a b) G5 ?_ (kp4.trans kp5) D5;rw[es];omega⟩
 have hc:way=0\/way=1\/way=2:=by omega
 rcases hc with rfl|rfl|rfl
 .rw[jS];((try dsimp only[zB,zU,zV,zS,zI,zF,zE,zD,zP,zX,zR,zY,zZ,zW,zT,zO,zN,zG,zM,gZ,gS,tZ,tS]);try simp only[e9,qP,z3,true_and]);exact fin "and" .and (λ_ _=>rfl) λ_ _=>rfl
 .rw[at_1];((try dsimp only[zB,zU,zV,zS,zI,zF,zE,zD,zP,zX,zR,zY,zZ,zW,zT,zO,zN,zG,zM,gZ,gS,tZ,tS]);try simp only[e9,qP,z3,true_and]);exact fin "or" .or (λ_ _=>rfl) λ_ _=>rfl
 .rw[at_2];((try dsimp only[zB,zU,zV,zS,zI,zF,zE,zD,zP,zX,zR,zY,zZ,zW,zT,zO,zN,zG,zM,gZ,gS,tZ,tS]);try simp only[e9,qP,z3,true_and]);exact fin "if" .ite (λ_ _=>rfl) λ_ _=>rfl
end
theorem zj6 {us:List Sy} {v:Sy} (h:v∈us):inL (us.map Sy.w) (ow (some v))=true:=Sy.any.mpr h
theorem kC {us:List Sy} {s:Sy} {ah:List Rw} (hr:rise us=true) (hs:s∈us):yK ⟨us,some s, "given", []⟩ ah=true:=by
 unfold yK;have e:uQ "given" = some .given:=zbX .given;have t:qS ⟨us,some s, "given", []⟩ ah=[]:=rfl;dsimp only;rw[hr,e,t];simp only[gone,zj6 hs,List.isEmpty_nil,Zb1,if_true];rfl
theorem qX {v:Sy} {ah:List Rw}:yK (qQ v) ah=true:=kC rfl zzT
theorem zf6 (a:Option Sy):vO a a=true:=zaw.mpr rfl
theorem zkA {x y z:Sy} {bs:List Rw} (B:Bs x y z bs):bs.length=12:=by
 obtain⟨u6,u8,u9,u10,rfl,_⟩:=B.ex;rfl
theorem in2 {v a b:Sy} {us:List Sy} (m:Mk [a,b] us) (h:v=a\/v=b):qC us v=true:=pT.mpr ((m.m v).mpr (by simpa using h))
theorem zdO {x y z:Sy} {bs:List Rw} (B:Bs x y z bs):∀ i,i<12->gAt bs i=true:=by
 obtain⟨u6,u8,u9,u10,rfl,m6,m8,m9,m10⟩:=B.ex;intro i hi
 match i,hi with
 | 0,_=>exact qX
 | 1,_=>exact qX
 | 2,_=>exact qX
 | 3,_=>exact qX
 | 4,_=>exact qX
 | 5,_=>exact qX
 | 6,_ =>
  show yK ⟨u6,none, "clash", [5,0]⟩ [qQ x,qQ y,qQ (.and x y),qQ (.or x y),qQ (.ite x y),qQ (.not x)]=true;unfold yK;have e:uQ "clash" = some .clash:=zbX .clash;have t:qS ⟨u6,none, "clash", [5,0]⟩ [qQ x,qQ y,qQ (.and x y),qQ (.or x y),qQ (.ite x y),qQ (.not x)]=[some (.not x),some x]:=rfl;dsimp only;rw[(m6.r (zzR _)),e,t];simp only[gone,zf6,if_true];show(true&&(true&&(([.not x].all λv=>qC u6 v || qC [] v)&&(([x].all λv=>qC u6 v || qC [] v)&&true))))=true;simp[in2 m6 (.inl rfl),in2 m6 (.inr rfl)]
 | 7,_=>exact qX
 | 8,_=>exact kC (m8.r (zzR _)) ((m8.m _).mpr 'g')
 | 9,_=>exact kC (m9.r (zzR _)) ((m9.m _).mpr 'g')
 | 10,_=>exact kC (m10.r (zzR _)) ((m10.m _).mpr 'g')
 | 11,_ =>
  show yK ⟨[.and x y],some x, "left", [2]⟩ [qQ x,qQ y,qQ (.and x y),qQ (.or x y),qQ (.ite x y),qQ (.not x),⟨u6,none, "clash", [5,0]⟩,qQ z,⟨u8,some z, "given", []⟩,⟨u9,some z, "given", []⟩,⟨u10,some y, "given", []⟩]=true;unfold yK;have e:uQ "left" = some .left:=zbX .left;have t:qS ⟨[.and x y],some x, "left", [2]⟩ [qQ x,qQ y,qQ (.and x y),qQ (.or x y),qQ (.ite x y),qQ (.not x),⟨u6,none, "clash", [5,0]⟩,qQ z,⟨u8,some z, "given", []⟩,⟨u9,some z, "given", []⟩,⟨u10,some y, "given", []⟩]=[some (.and x y)]:=rfl;dsimp only;rw[e,t];simp only[gone,zf6,if_true];show(true&&(true&&(([.and x y].all λv=>qC [.and x y] v || qC [] v)&&true)))=true;simp[pT.mpr (zzT:Sy.and x y∈[Sy.and x y])]
theorem zh5 {x y z:Sy} {bs:List Rw} (hx:x.size<=4) (hy:y.size<=4) (hz:z.size<=4) (B:Bs x y z bs):∀ r∈bs,r.ok:=by
 obtain⟨u6,u8,u9,u10,rfl,m6,m8,m9,m10⟩:=B.ex;have g:∀ v:Sy,v.size<=20->(qQ v).ok:=λv h=>⟨by simp,λu hu=>by rw[zzO hu];exact h,λu e=>by cases e;exact h,by simp⟩
 have k:∀ {a b:Sy} {us:List Sy} {s:Option Sy} {w:Str} {n:List Int},Mk [a,b] us->a.size<=20->b.size<=20->(∀ u,s=some u->u.size<=20)->n.length<=20->(Rw.mk us s w n).ok:=λm ha hb hs hn=>⟨Ze m.l (Zr rfl),λu hu=>by
  have:=(m.m u).mp hu;rcases Zh.mp this with rfl|h
  .exact ha
  .rw[zzO h];exact hb,hs,hn⟩
 have hn:∀ {v:Sy},v.size<=4->v.size<=20:=λh=>Ze h 'c';have sn:(Sy.not x).size<=20:=by simp only[Sy.size];omega
 have so:∀ {v:Sy},v.size<=4->∀ u,some v=some u->u.size<=20:=λh u e=>by cases e;exact hn h
 intro r hr;simp only[bsL,Zh,Zt,or_false] at hr;rcases hr with rfl|rfl|rfl|rfl|rfl|rfl|rfl|rfl|rfl|rfl|rfl|rfl
 .exact g _ (hn hx)
 .exact g _ (hn hy)
 .exact g _ (by simp only[Sy.size];omega)
 .exact g _ (by simp only[Sy.size];omega)
 .exact g _ (by simp only[Sy.size];omega)
 .exact g _ sn
 .exact k m6 (hn hx) sn (λu e=>(nomatch e)) (Zr rfl)
 .exact g _ (hn hz)
 .exact k m8 (hn hx) (hn hz) (so hz) (Zy _)
 .exact k m9 (hn hy) (hn hz) (so hz) (Zy _)
 .exact k m10 (hn hx) (hn hy) (so hy) (Zy _)
 .exact ⟨by simp,λu hu=>by rw[zzO hu];simp only[Sy.size];omega,so hx,by simp⟩
theorem zfs {bs:List Rw} (l:bs.length=12) (h:∀ i,i<12->gAt bs i=true):chk bs=none:=by
 rw[chk,if_neg (by intro e;rw[List.isEmpty_iff] at e;rw[e] at l;cases l),bB (λk hk=>h k 'f')];rfl
theorem zh0 {bs:List Rw} {r:Rw} (l:bs.length=12) (h:∀ i,i<12->gAt bs i=true):chk (bs++[r])=if yK r bs=true then none else some 12:=by
 have hg:∀ i,i<12->gAt (bs++[r]) i=true:=λi hi=>by
  rw[← h i hi];unfold gAt;rw[List.take_append_of_le_length 'f'];simp[List.getD,ZX (show i<bs.length by omega)]
 have h12:gAt (bs++[r]) 12=yK r bs:=by
  unfold gAt;rw[← l,List.take_left];simp[List.getD]
 have ll:(bs++[r]).length=13:=by rw[zzW,l];rfl
 rw[chk,if_neg 'g']
 cases hr:yK r bs with
 |true =>
  rw[bB (λk hk=>by
   by_cases h':k=12
   .rw[h',h12,hr]
   .exact hg k 'f')]
  rfl
 |false =>
  rw[zdo hg 'f' (by rw[h12,hr])];rfl
theorem zdk (p:Rw->Bool):∀ l:List Rw,(l.filterMap λr=>if p r=true then some r.w else none)=(l.filter p).map Rw.w
 | []=>rfl
 |r::l=>by
  have:=zdk p l;cases h:p r<;>simp[h,this]
theorem row3 {r:Rw} {G:Hw} {Q:Q3}:qD r.w (.int 3) G Q=Q (.tup (r.a.map .int)) G:=by
 have e:tU [.tup (r.g.map Sy.w),ow r.s,.str r.y,.tup (r.a.map .int)] 3=some (.tup (r.a.map .int)):=rfl;simp only[Rw.w,qD,e]
theorem cut3 {α:Type} (l:List α):(jQ l none (some 3)).length<=3:=by
 unfold jQ;rw[show(some (3:Int))=some ((3:Nat):Int) from rfl,HT.zcs,HT.zaU,Z0,Zbx];omega
section
variable {K:yM} {C:Nat->Addr}
theorem zaH {p:Addr} {bs:List Rw} {r:Rw} {G:Hw} {Q:Q3} (gp:G p=some (.lst (bs.map Rw.w))) (l:bs.length=12) (h:∀ q G',zK [] G G'->G' q=some (.lst ((bs++[r]).map Rw.w))->Q (.ref q) G'):[r.w].length<=sizeLine/\∀ a,G a=none->qP .Add (.ref p) (.ref a) (put G a (.lst [r.w])) Q :=
 l1 λa ha=>addL (jZ (kn ha) gp) zL (by rw[zzM];simp only[Zg,Zn];omega) λq hq=>h q _ ((kn ha).trans (kn hq)) (by rw[zL,ZV];rfl)
theorem zhd {s0:W} {ns:List Int} {G:Hw} {Q:Q3} (sc:cP G s0 ns) (nl:ns.length<=63) (h:∀ G',Q (.bl true) G'):zB (uG K C 28) XN blaw { nx:=λ_ G'=>Q .non G',rt:=Q} (yL nlaw [s0]) G:=by
 have e1:(uG K C 28).fn[1]?=some rC:=rfl;have e6:(uG K C 28).fn[6]?=some eTup:=rfl;have e7:(uG K C 28).fn[7]?=some eInt:=rfl;have e8:(uG K C 28).fn[8]?=some zkx:=rfl;have e9:(uG K C 28).fn[9]?=some zfk:=rfl;have e10:(uG K C 28).fn[10]?=some ⟨"_law_names", pY⟩:=rfl;have e12:(uG K C 28).fn[12]?=some ⟨"_law_base", cE⟩:=rfl;have e13:(uG K C 28).fn[13]?=some ⟨"_law_saying", xH 10⟩:=rfl;have e14:(uG K C 28).fn[14]?=some ⟨"_law_plain_rows", vM⟩:=rfl;have e15:(uG K C 28).fn[15]?=some ⟨"_law_letting_rows", vM⟩:=rfl;have e24:(uG K C 28).fn[24]?=some ⟨"_law_told", spTl⟩:=rfl;have e26:(uG K C 28).fn[26]?=some ⟨"_law_is_good", spLg⟩:=rfl;have e27:(uG K C 28).fn[27]?=some ⟨"_law_forms", pX⟩:=rfl;have i0:(uG K C 28).it[0]?=some eRng:=rfl;show zB (uG K C 28) XN blaw { nx:=λ_ G'=>Q .non G',rt:=Q} [some s0,none,none,none,none,none,none,none,none,none,none] G;simp only[blaw];refine yT ?_
 erw[e8]
 refine⟨s0,1,ns,rfl,sc,nl,by decide,λd l G1 hd hl k1 D1=>?_⟩;refine yT ?_
 erw[e9,e10,qP]
 refine⟨d,l,3,rfl,D1,by decide,λq2 G2 q20 q21 k2 D2=>?_⟩;refine⟨d,l,2+q2,rfl,D2,by omega,by omega,λr xs G3 xn xl nr gr k3 D3=>?_⟩;refine yT ?_
 erw[i0]
 refine⟨⟨by decide,by decide⟩,?_⟩;refine⟨λi acc G'=>∃ ts:List Sy,acc=ts.map Sy.w/\ts.length=i/\(∀ t∈ts,t.size<=4)/\zK [d,l] G3 G'/\jJ G' d l,⟨[],rfl,rfl,by simp,zK.refl,D3⟩,?_,sz _ 'c',?_,?_⟩
 .rintro i acc G' ⟨ts,rfl,rfl,_,_,_⟩ _;exact⟨trivial,by simp⟩
 .rintro i w acc G' hw ⟨ts,rfl,hl,hs,kp,D'⟩;simp only[jP,Zg,Zn,List.replicate,zzU,zzV,ZC,ZI,Zq]
  erw[joS,if_true,e9,e13,qP]
  refine⟨d,l,3,rfl,D',by decide,λj G4 j0 j1 k4 D4=>?_⟩;refine⟨d,l,r,1+j,xs,rfl,D4,nr,k4 _ _ nr (kp _ _ nr gr),xn,xl,by omega,by omega,by omega,λt G5 tz k5 D5=>?_⟩;refine⟨ts++[t],by simp,by simp[hl],λy hy=>?_,(kp.trans k4).trans k5,D5⟩;rcases ZA.mp hy with hy|hy
  .exact hs y hy
  .rw[zzO hy];omega
 rintro acc G4 ⟨ts,rfl,hl3,hs,kp,D4⟩ p3 hp3
 match ts,hl3 with
 | [x,y,z],_ =>
 have hx:=hs x 'g';have hy:=hs y 'g';have hz:=hs z 'g';simp only[unl,zQ zL]
 erw[zzU,zzV]
 generalize put G4 p3 _=G5
 clear D4 kp D3 D2 D1 k3 k2 k1 hs hp3
 refine yT ?_
 erw[e12]
 refine⟨x,y,z,rfl,by omega,by omega,by omega,λbs B p6 G6 _ g6=>?_⟩;have bl:=zkA B;have bg:=zdO B;have bo:=zh5 hx hy hz B;refine yT ?_
 erw[e14,e15]
 refine⟨x,y,z,rfl,hx,hy,hz,λr1 a1 G7 s1 n1 k7 g7=>?_⟩;refine⟨x,y,z,rfl,hx,hy,hz,λr2 a2 G8 s2 n2 k8 g8=>?_⟩;refine addL (jZ k8 g7) g8 (by simp only[zzM];omega) λp7 h7=>?_;have k9:=(k7.trans k8).trans (kn (o:=.lst (r1.map Rw.w++r2.map Rw.w)) h7);have g9:(put G8 p7 (.lst (r1.map Rw.w++r2.map Rw.w))) p7=some (.lst ((r1++r2).map Rw.w)):=by rw[zL,ZV]
 have rm:∀ r∈r1++r2,r.sm:=λr hr=>(ZA.mp hr).elim (s1 r) (s2 r);have rl:(r1++r2).length<=400:=by rw[zzW];omega
 generalize put G8 p7 (.lst (r1.map Rw.w++r2.map Rw.w))=G9 at k9 g9 ⊢;generalize r1++r2=rs at g9 rm rl;have g6':=jZ k9 g6
 clear k9 k7 k8 g7 g8 h7 g6
 refine yT ?_
 erw[]
 refine rN g9 ?_;refine zeP (ψ:=λr=>if yK r bs=true then some r.w else none) (λG' k=>zQ (jZ k g9)) (sz _ 'f') (λr hr G' K' kp hK=>?_) (λp8 Ga ka h8=>?_)
 .simp only[jP,Zg,Zn,List.replicate,zzU,zzV,ZC,ZI,Zq]
  erw[joS,e26]
  refine zaH (jZ kp g6') bl λq G2 k2 gq=>?_;refine⟨q,bs,r,by rw[bl];rfl,gq,(rm r hr).ok,bo,λG3 k3=>?_⟩;have:=hK G3 (k2.trans k3);simp only[cL]
  cases hg:yK r bs with
  |true=>rw[hg] at this;simpa using this
  |false=>rw[hg] at this;simpa using this
 rw[zdk λr=>yK r bs];have gb:(put Ga p8 (.lst ((rs.filter λr=>yK r bs).map Rw.w))) p8=some (.lst ((rs.filter λr=>yK r bs).map Rw.w)):=zL;have kb:=ka.trans (kn (o:=.lst ((rs.filter λr=>yK r bs).map Rw.w)) h8);have gm:∀ r∈rs.filter λr=>yK r bs,r.sm:=λr hr=>rm r (ZaV.mp hr).1;have gl:(rs.filter λr=>yK r bs).length<=400:=Ze (List.length_filter_le _ _) rl;generalize put Ga p8 (.lst ((rs.filter λr=>yK r bs).map Rw.w))=Gb at gb kb ⊢;generalize (rs.filter λr=>yK r bs)=gs at gb gm gl;replace g9:=jZ kb g9;replace g6':=jZ kb g6'
 clear kb ka h8
 refine yT ?_
 erw[]
 refine rN gb ?_;refine zeP (ψ:=λr=>if decide (1<r.a.length)=true then some r.w else none) (λG' k=>zQ (jZ k gb)) (sz _ 'f') (λr hr G' K' kp hK=>?_) (λpc Gc kc hc=>?_)
 .simp only[jP,Zg,Zn,List.replicate,zzU,zzV,ZC,ZI,Zq];have:=hK G' zK.refl
  erw[row3,e1,lenT,zzM,yZ,nQ]
  by_cases hg:1<r.a.length
  .rw[if_pos (decide_eq_true hg)] at this;rw[if_pos (by simp;omega)];exact this
  .rw[if_neg (by simpa using hg)] at this;rw[if_neg (by simp;omega)];exact this
 rw[zdk λr=>decide (1<r.a.length)];have kd:=kn (o:=.lst ((gs.filter λr=>decide (1<r.a.length)).map Rw.w)) hc
 erw[]
 refine slL zL λpd hd=>?_;rw[qK];have ke:=kc.trans (kd.trans (kn (o:=.lst ((jQ (gs.filter λr=>decide (1<r.a.length)) none (some 3)).map Rw.w)) hd));have ge:(put (put Gc pc (.lst ((gs.filter λr=>decide (1<r.a.length)).map Rw.w))) pd (.lst ((jQ (gs.filter λr=>decide (1<r.a.length)) none (some 3)).map Rw.w))) pd=some (.lst ((jQ (gs.filter λr=>decide (1<r.a.length)) none (some 3)).map Rw.w)):=zL;generalize put (put Gc pc (.lst ((gs.filter λr=>decide (1<r.a.length)).map Rw.w))) pd (.lst ((jQ (gs.filter λr=>decide (1<r.a.length)) none (some 3)).map Rw.w))=Ge at ke ge ⊢
 erw[e27]
 refine⟨pd,_,rfl,ge,cut3 _,λr hr=>gm r (ZaV.mp (zdC hr)).1,λfs pf Gf fo fl kf gf=>?_⟩;refine addL (jZ (ke.trans kf) g9) gf (by simp only[zzM];omega) λpg hg=>?_;have kg:=(ke.trans kf).trans (kn (o:=.lst (rs.map Rw.w++fs.map Rw.w)) hg)
 erw[]
 refine addL zL (jZ kg gb) (by simp only[zzW,zzM];omega) λph hh=>?_;have kh:=kg.trans (kn (o:=.lst ((rs.map Rw.w++fs.map Rw.w)++gs.map Rw.w)) hh);have gh:(put (put Gf pg (.lst (rs.map Rw.w++fs.map Rw.w))) ph (.lst ((rs.map Rw.w++fs.map Rw.w)++gs.map Rw.w))) ph=some (.lst (((rs++fs)++gs).map Rw.w)):=by rw[zL,ZV,ZV]
 generalize put (put Gf pg (.lst (rs.map Rw.w++fs.map Rw.w))) ph (.lst ((rs.map Rw.w++fs.map Rw.w)++gs.map Rw.w))=Gh at kh gh ⊢;replace g6':=jZ kh g6'
 clear kg hh hg kf gf ke ge hd kd hc kc kh g9
 have ao:∀ r∈(rs++fs)++gs,r.ok:=tX (tX (λr hr=>(rm r hr).ok) fo) λr hr=>(gm r hr).ok;generalize (rs++fs)++gs=all at gh ao;refine rN gh ?_;refine zbf (λ_=>false) (λσ=>∃ a b,σ=[some s0,d⁻¹,r⁻¹,some x.w,some y.w,some z.w,p6⁻¹,p7⁻¹,p8⁻¹,a,b]) ⟨none,none,rfl⟩ (λG' k'=>zQ (jZ k' gh)) (λv hv σ' G' hσ k' D' hD hN hY=>?_) (λhn σ' G' hσ k'=>?_)
 .obtain ⟨a,b,rfl⟩:=hσ;have vo:=ao v hv;have g6a:=jZ k' g6'
  erw[]
  refine yT ?_
  erw[e26,e7]
  refine l2 λpa ha=>?_;have ga:(put G' pa (.lst [.str "whole", .int 12])) pa=some (.lst [.str "whole", .int 12]):=zL;have ka:=kn (o:=.lst [.str "whole", .int 12]) ha;generalize put G' pa (.lst [.str "whole", .int 12])=Gj at ga ka ⊢;refine zaH (jZ ka g6a) bl λq Gk kk gq=>?_;refine⟨q,bs,v,by rw[bl];rfl,gq,vo,bo,λGl kl=>?_⟩;simp only[zG,intS];refine kD (zQ (jZ (kk.trans kl) ga)) ?_;have km:=k'.trans (ka.trans (kk.trans kl));have due:tU [W.str "whole", .int 12] (if(!yK v bs)=true then 1 else 0)=some (if yK v bs=true then .str "whole" else .int 12):=by cases yK v bs<;>rfl
  rw[due];refine yT ?_
  erw[e6,e24]
  refine zaH (jZ km g6') bl λq2 Gm k2 gq2=>?_;simp only[tupS,xD,zQ gq2];refine⟨bs++[v],rfl,tX bo (λr hr=>by rw[zzO hr];exact vo),λGn kn'=>?_⟩;rw[zh0 bl bg];have fin:=hN rfl;have kz:=km.trans (k2.trans kn')
  cases hg:yK v bs with
  |true =>
   simp only[if_true,yZ,zC,beq_self_eq_true,ZY,zG,zzB,if_false];exact fin _ _ ⟨_,_,rfl⟩ kz
  |false =>
   simp only[zzB,if_false,yZ,uT,beq_self_eq_true,ZY,zG];exact fin _ _ ⟨_,_,rfl⟩ kz
 .obtain ⟨a,b,rfl⟩:=hσ;refine yT ?_
  erw[e6,e24,tupS,xD,zQ (jZ k' g6')]
  refine⟨bs,rfl,bo,λGn kn'=>?_⟩;rw[zfs bl bg];simp only[yZ,zC,beq_self_eq_true];exact h _
end
noncomputable def Dm (K:yM) (mg:Str->Option Value) (x:Str) (st:Stmt) (dV:Value):Prop:=∃ f,mg x=f⁻¹/\HD K x x st dV f
noncomputable def Df (K:yM) (x:Str) (st:Stmt) (dV:Value):Prop:=∃ f,PySem.W.nsIn K mainGlobals x=some (f⁻¹)/\HD K x x st dV f
theorem Df.to {K:yM} {h:Heap} {mg:Str->Option Value} {x:Str} {st:Stmt} {dV:Value} (d:Df K x st dV) (X:K.In h) (G:h.Ns mainGlobals mg):Dm K mg x st dV:=by
 obtain⟨f,a,b⟩:=d;exact⟨f,PySem.W.mg_of X G a,b⟩
set_option hygiene false in
local macro_rules | `(tactic| and_intros)=>`(tactic| (intro _ _ _ _ _ k;(repeat first|refine Exists.imp λ_=>?_|refine And.imp_right ?_);first|exact k _ _|exact Fr.mono k|(intro h;intros;first|(apply k;apply h<;>assumption)|(apply Fr.mono k;apply h<;>assumption))))
set_option hygiene false in
local macro_rules | `(tactic| subst_eqs)=>`(tactic| (intro _ _ _ h;repeat first|(obtain⟨rfl,_⟩:=h;exact rfl)|obtain⟨_,h⟩:=h))
structure X1 (K:yM) (C:Addr) (f qual:Str) (st:Stmt):Prop where
 ex:∃ fI,XM K C (.ref fI)/\HD K "__init__" qual st .none fI/\PySem.W.typeIn K (.ref fI)=some (.type "function")
 xi:XI K C f
structure Txt (K:yM) (mg:Str->Option Value) (CQ:Nat->Addr) (T0 jA:Addr):Prop where
 deal:Dm K mg "_law_deal" jD .none
 draw:Dm K mg "_law_draw" jE .none
 names:Dm K mg "_law_names" jV .none
 row:Dm K mg "_law_row" kX .none
 base:Dm K mg "_law_base" jC .none
 saying:Dm K mg "_law_saying" wL .none
 plain:Dm K mg "_law_plain_rows" xL .none
 letting:Dm K mg "_law_letting_rows" xY .none
 sort:Dm K mg "sort_of" vN .none
 made:Dm K mg "made_of" vL .none
 taken:Dm K mg "taken_from" jW .none
 lets:Dm K mg "why_lets" qB .none
 rise:Dm K mg "is_rising" jH .none
 go:Dm K mg "let_go" tL .none
 good:Dm K mg "is_good" vK .none
 chk:Dm K mg "checked" vJ .none
 told:Dm K mg "_law_told" jG .none
 gone:Dm K mg "_law_gone" jF .none
 lgood:Dm K mg "_law_is_good" wT .none
 forms:Dm K mg "_law_forms" jU .none
 max:mg "max" = none
 len:mg "len" = none
 all:mg "all" = none
 list:mg "list" = none
 isi:mg "isinstance" = none
 srt:mg "sorted" = none
 tup:mg "tuple" = none
 int:mg "int" = none
 range:mg "range" = none
 zip:mg "zip" = none
 enum:mg "enumerate" = none
 rev:mg "reversed" = none
 val:mg "ValueError" = none
 cl:Cl K CQ
 mgT:mg "TalkError" = T0⁻¹
 tr:∃ ini,XM K T0 ini
 sub:cR K (CQ 6) T0
 x6:X1 K (CQ 6) "row" "NoPaper.__init__" wS
 m0:mg "NoText" = some (.ref (CQ 0))
 m1:mg "NoBook" = some (.ref (CQ 1))
 m2:mg "NotLet" = some (.ref (CQ 2))
 m3:mg "NoMove" = some (.ref (CQ 3))
 m4:mg "NoPlan" = some (.ref (CQ 4))
 m5:mg "NoTalker" = some (.ref (CQ 5))
 m6:mg "NoPaper" = some (.ref (CQ 6))
 m7:mg "NoWeb" = some (.ref (CQ 7))
 m8:mg "NoRow" = some (.ref (CQ 8))
 m9:mg "NoName" = some (.ref (CQ 9))
 mgW:mg "WHYS" = jA⁻¹
 whyD:∀ H,xF K H (.dcf whyK whyV) (.ref jA)
noncomputable def rk (n:Nat):Nat:=2 * n+4+(if 14<=n then 8 else 0)
section
variable {q:Pr} {CQ:Nat->Addr} {T0 jA:Addr}
noncomputable def Pn (q:Pr) (CQ:Nat->Addr) (n:Nat):Prop:=∀ A,Room (rk n) A->∀ f∈(fnL q.K CQ).take n,qT (q.at A) f
theorem zj7 (T:Txt q.K q.mg CQ T0 jA) {l:List Fn3} {A:Around} (hu:A.units+200<cLine) (h:∀ f∈l,qT (q.at A) f):L3.Good (GamL q.K CQ l) (q.at A) :=
 zhu (Γ:=GamL q.K CQ l) hu h
  (zJ (wQ T.mgW (v:=.ref jA) rfl T.whyD) (zJ (zhz T.val (by decide +kernel)) (zJ (wQ T.m0 (v:=.ref _) rfl λ_=>rfl) (zJ (wQ T.m1 (v:=.ref _) rfl λ_=>rfl) (zJ (wQ T.m2 (v:=.ref _) rfl λ_=>rfl) (zJ (wQ T.m3 (v:=.ref _) rfl λ_=>rfl) (zJ (wQ T.m4 (v:=.ref _) rfl λ_=>rfl) (zJ (wQ T.m5 (v:=.ref _) rfl λ_=>rfl) (zJ (wQ T.m6 (v:=.ref _) rfl λ_=>rfl) (zJ (wQ T.m7 (v:=.ref _) rfl λ_=>rfl) (zJ (wQ T.m8 (v:=.ref _) rfl λ_=>rfl) (zJ (wQ T.m9 (v:=.ref _) rfl λ_=>rfl) yD))))))))))))
  (zJ zhK (zJ zfh (zJ zhR (zJ zhQ yD))))
  (zJ (zhI T.range) (zJ (zhF T.zip) (zJ (zkw T.enum) yD)))
  yD
  (zJ (zhJ T.list T.rev) (zJ ⟨sx_xf,zd1 _ _⟩ (zJ ⟨ziD (wQ T.mgW (v:=.ref jA) rfl T.whyD),zdg _ _⟩ (zJ ⟨sx_rv,zeg⟩ yD)))) rfl
theorem pH {k:Nat} {A:Around} (hr:Room k A):A.units+200<cLine:=by have:=hr.un;omega
theorem good (T:Txt q.K q.mg CQ T0 jA) {n:Nat} (h:Pn q CQ n):∀ A,Room (rk n) A->L3.Good (uG q.K CQ n) (q.at A):=λA hr=>zj7 T (pH hr) (h A hr)
theorem next {n:Nat} {e:Fn3} (h:Pn q CQ n) (hk:rk n<=rk (n+1)) (he:(fnL q.K CQ).take (n+1)=(fnL q.K CQ).take n++[e]) (hx:∀ A,Room (rk (n+1)) A->qT (q.at A) e):Pn q CQ (n+1):=λA hr=>by
 rw[he];exact rM (h A (hr.mono hk)) (hx A hr)
theorem p8 (T:Txt q.K q.mg CQ T0 jA):Pn q CQ 8:=λA hr=>(zJ (zhL T.max) (zJ (zhN T.len) (zJ (zhS T.all) (zJ (zhM T.list) (zJ (zhO T.isi) (zJ (zhH (pH hr) T.srt) (zJ (zhG T.tup) (zJ (zhP T.int) yD))))))))
theorem wM {n:Nat} {nm:Str} {st:Stmt} {M:MC} {ps:List Str} {sp:tO} {body:ISs} (T:Txt q.K q.mg CQ T0 jA) (h:Pn q CQ n) (hk:rk n+1<=rk (n+1)) (hd:Dm q.K q.mg nm st .none) (S:FnScope M.N ps (zH st)) (eM:MOk (uG q.K CQ n) M (zH st)) (look:vP body M (yX st)=true)
  (len:∀ ws G Q,sp ws G Q XN->ws.length=ps.length) (hb:∀ ws G Q,sp ws G Q XN->zB (uG q.K CQ n) XN body { nx:=λ_ G'=>Q .non G',rt:=Q} (yL M.N ws) G) (mono:rH ⟨nm,sp⟩)
  (hbind:∀ (kV doc pm:Value) (an:Option Addr) (cdv ct:Value) (us:List Value),us.length=ps.length->bindArgs (PySem.W.fnOf nm nm (jL st) (yX st) (zH st) .none kV doc pm an cdv ct) ⟨us,[]⟩=pure (ps.zip us))
  (he:(fnL q.K CQ).take (n+1)=(fnL q.K CQ).take n++[⟨nm,sp⟩]):Pn q CQ (n+1):=by
 obtain⟨f,hm,hd⟩:=hd;obtain⟨fd,F,_⟩:=hd.fd;have FO:=zay F S (good T h) eM look len hb;exact next h 'f' he λA hr=>pS FO hm F.kp (kP F hbind) mono hr hk
theorem moreR {n N:Nat} {nm qual:Str} {st:Stmt} {f:Addr} {M:MC} {ps:List Str} {sp:Nat->tO} {body:ISs} (T:Txt q.K q.mg CQ T0 jA) (h:Pn q CQ n) (hk:rk n+N<=rk (n+1)) (hm:q.mg nm=f⁻¹) (hd:HD q.K nm qual st .none f) (S:FnScope M.N ps (zH st)) (eM:∀ j,MOk (GamR q.K CQ n ⟨nm,sp j⟩) M (zH st)) (look:vP body M (yX st)=true)
  (h0:∀ ws G Q,¬ sp 0 ws G Q XN) (len:∀ j ws G Q,sp j ws G Q XN->ws.length=ps.length) (hb:∀ j ws G Q,sp (j+1) ws G Q XN->zB (GamR q.K CQ n ⟨nm,sp j⟩) XN body { nx:=λ_ G'=>Q .non G',rt:=Q} (yL M.N ws) G) (mono:∀ j,rH ⟨nm,sp j⟩)
  (hbind:∀ (kV doc pm:Value) (an:Option Addr) (cdv ct:Value) (us:List Value),us.length=ps.length->bindArgs (PySem.W.fnOf nm qual (jL st) (yX st) (zH st) .none kV doc pm an cdv ct) ⟨us,[]⟩=pure (ps.zip us))
  (he:(fnL q.K CQ).take (n+1)=(fnL q.K CQ).take n++[⟨nm,sp N⟩]):Pn q CQ (n+1):=by
 obtain⟨fd,F,_⟩:=hd.fd;have FO:=zfL (k:=rk n) (Γ:=λe=>GamR q.K CQ n e) F S hm (kP F hbind) h0 len mono (λj A hr hx=>zj7 T (pH hr) (rM (h A hr) hx)) eM look hb N;exact next h 'f' he λA hr=>pS FO hm F.kp (kP F hbind) (mono N) hr hk
theorem usS {P:List Value->Prop} {n:Nat} (h:∀ a l,l.length=n->P (a::l)) (us:List Value) (e:us.length=n+1):P us:=by
 cases us with
 |nil=>exact absurd e (Nat.succ_ne_zero n).symm
 |cons a l=>exact h a l (Nat.succ.inj e)
theorem us0 {P:List Value->Prop} (h:P []) (us:List Value) (e:us.length=0):P us:=by
 cases us with
 |nil=>exact h
 |cons a l=>exact absurd e (Nat.succ_ne_zero _)
theorem us1 {P:List Value->Prop} (h:∀ a0,P [a0]):∀ us:List Value,us.length=1->P us:=usS (P:=λl=>P (l)) (λa0=>us0 (P:=λl=>P (a0::l)) (h a0))
theorem us2 {P:List Value->Prop} (h:∀ a0 a1,P [a0,a1]):∀ us:List Value,us.length=2->P us:=usS (P:=λl=>P (l)) (λa0=>usS (P:=λl=>P (a0::l)) (λa1=>us0 (P:=λl=>P (a0::a1::l)) (h a0 a1)))
theorem us3 {P:List Value->Prop} (h:∀ a0 a1 a2,P [a0,a1,a2]):∀ us:List Value,us.length=3->P us:=usS (P:=λl=>P (l)) (λa0=>usS (P:=λl=>P (a0::l)) (λa1=>usS (P:=λl=>P (a0::a1::l)) (λa2=>us0 (P:=λl=>P (a0::a1::a2::l)) (h a0 a1 a2))))
theorem us4 {P:List Value->Prop} (h:∀ a0 a1 a2 a3,P [a0,a1,a2,a3]):∀ us:List Value,us.length=4->P us:=usS (P:=λl=>P (l)) (λa0=>usS (P:=λl=>P (a0::l)) (λa1=>usS (P:=λl=>P (a0::a1::l)) (λa2=>usS (P:=λl=>P (a0::a1::a2::l)) (λa3=>us0 (P:=λl=>P (a0::a1::a2::a3::l)) (h a0 a1 a2 a3)))))
variable (T:Txt q.K q.mg CQ T0 jA)
include T
theorem p9:Pn q CQ 9:=wM (sp:=zcc) (M:=mP) T (p8 T) 'c' T.deal zal 'e' gE (by subst_eqs) (λws G Q ⟨a,b,ns,e,h1,h2,h3,h4⟩=>by subst e;exact zfq rfl rfl h1 h2 h3 h4) zag (λ_ _ _ _ _ _=>us2 (λ_ _=>rfl)) rfl
theorem p10:Pn q CQ 10:=wM (sp:=zcb) (M:=mQ) T (p9 T) 'c' T.draw zak 'e' gF (by subst_eqs) (λws G Q ⟨a,b,m,e,h1,h2,h3⟩=>by subst e;exact zfl rfl rfl h1 h2 h3) zaf (λ_ _ _ _ _ _=>us2 (λ_ _=>rfl)) rfl
theorem p11:Pn q CQ 11:=wM (sp:=pY) (M:=rS) T (p10 T) 'c' T.names bZ 'e' mJ (by subst_eqs) (λws G Q h=>zcM 'c' h) (by and_intros) (λ_ _ _ _ _ _=>us2 (λ_ _=>rfl)) rfl
theorem p12:Pn q CQ 12:=wM (sp:=zb9) (M:=dS) T (p11 T) 'c' T.row zby 'e' bF (by subst_eqs) (λws G Q h=>zgH rfl rfl rfl h) (by and_intros) (λ_ _ _ _ _ _=>us4 (λ_ _ _ _=>rfl)) rfl
theorem p13:Pn q CQ 13:=wM (sp:=cE) (M:=mM) T (p12 T) 'c' T.base zam 'e' gD (by subst_eqs) (λws G Q h=>zfu rfl rfl h) (by and_intros) (λ_ _ _ _ _ _=>us3 (λ_ _ _=>rfl)) rfl
theorem p14:Pn q CQ 14:=by
 obtain⟨f,hm,hd⟩:=T.saying
 exact moreR (N:=10) (sp:=xH) (M:=tF) T (p13 T) 'c' hm hd gK (λj=>'e') rE
  (λws G Q hh=>by
   obtain⟨d,l,r,m,xs,_,_,_,_,_,_,h1,h2,_⟩:=hh;omega) (λj ws G Q h=>by obtain⟨d,l,r,m,xs,rfl,_⟩:=h;rfl) (λj ws G Q h=>zbz h) (λj ws G Q Q' E k hh=>by
   obtain⟨d,l,r,m,xs,h1,h2,h3,h4,h5,h6,h7,h8,h9,h⟩:=hh;exact⟨d,l,r,m,xs,h1,h2,h3,h4,h5,h6,h7,h8,h9,λt G' a b c=>k _ _ (h t G' a b c)⟩) (λ_ _ _ _ _ _=>us3 λ_ _ _=>rfl) rfl
theorem p15:Pn q CQ 15:=wM (sp:=vM) (M:=kT) T (p14 T) 'c' T.plain tH 'e' uO (by subst_eqs) (λws G Q h=>zcC rfl h) (by and_intros) (λ_ _ _ _ _ _=>us3 (λ_ _ _=>rfl)) rfl
theorem p16:Pn q CQ 16:=wM (sp:=vM) (M:=qZ) T (p15 T) 'c' T.letting uP 'e' vR (by subst_eqs) (λws G Q h=>zau rfl h) (by and_intros) (λ_ _ _ _ _ _=>us3 (λ_ _ _=>rfl)) rfl
theorem p17:Pn q CQ 17:=wM (sp:=uF) (M:=za5) T (p16 T) 'c' T.sort zcn 'e' zaq (by subst_eqs) (λws G Q h=>zea h) (by and_intros) (λ_ _ _ _ _ _=>us1 (λ_=>rfl)) rfl
theorem p18:Pn q CQ 18:=wM (sp:=spMd) (M:=za7) T (p17 T) 'c' T.made zcp 'e' zar (by subst_eqs) (λws G Q h=>zeD rfl rfl h) (by and_intros) (λ_ _ _ _ _ _=>us3 (λ_ _ _=>rfl)) rfl
theorem p19:Pn q CQ 19:=wM (sp:=spTk) (M:=rT) T (p18 T) 'c' T.taken cA 'e' mK (by subst_eqs) (λws G Q h=>zb6 rfl h) (by and_intros) (λ_ _ _ _ _ _=>us3 (λ_ _ _=>rfl)) rfl
theorem p20:Pn q CQ 20:=wM (sp:=cF) (M:=dY) T (p19 T) 'c' T.lets zbx 'e' bG (by subst_eqs) (λws G Q h=>zeL rfl rfl rfl h) (by and_intros) (λ_ _ _ _ _ _=>us3 (λ_ _ _=>rfl)) rfl
theorem p21:Pn q CQ 21:=wM (sp:=cG) (M:=mV) T (p20 T) 'c' T.rise zah 'e' gI (by subst_eqs) (λws G Q h=>zeh rfl rfl h) (by and_intros) (λ_ _ _ _ _ _=>us1 (λ_=>rfl)) rfl
theorem p22:Pn q CQ 22:=wM (sp:=spGo) (M:=zcP) T (p21 T) 'c' T.go zee 'e' zbI (by subst_eqs) (λws G Q h=>zj9 h) (by and_intros) (λ_ _ _ _ _ _=>us3 (λ_ _ _=>rfl)) rfl
theorem p23:Pn q CQ 23:=wM (sp:=spGd) (M:=za8) T (p22 T) 'c' T.good zcq 'e' zas (by subst_eqs) (λws G Q h=>ze3 rfl rfl rfl rfl rfl rfl rfl h) (by and_intros) (λ_ _ _ _ _ _=>us2 (λ_ _=>rfl)) rfl
omit T
theorem hG:tQ ⟨"checked", vU CQ⟩:=λws G Q Q' E E' k k' hh=>by
 obtain⟨ps,h1,h2,h⟩:=hh;refine⟨ps,h1,h2,λG' kp=>?_⟩;have:=h G' kp
 cases hc:chk ps with
 |some v=>rw[hc] at this;exact k' _ _ this
 |none=>rw[hc] at this;exact k _ _ this
theorem zf0 (T:Txt q.K q.mg CQ T0 jA) {l:List Fx3} {A:Around} (hr:Room 4 A) (hl:∀ f∈l,FxE (q.at A) f/\tQ f):GoodX (fY CQ l T0) (q.at A):=by
 obtain⟨fI,xm,hd,hf⟩:=T.x6.ex;obtain⟨fd,F,_⟩:=hd.fd;have FO:=zdY (q:=q) (k:=0) ⟨F.ex,F.kp⟩ nW rfl (by decide +kernel) (by decide +kernel) (by decide +kernel) (by decide +kernel);exact⟨hl,zJ (cl_1 xm T.x6.xi FO (hr.mono 'c') (kP F λ_ _ _ _ _ _=>us2 λ_ _=>rfl) hf T.m6) yD,zJ ⟨T.mgT,T.tr,zJ T.sub yD⟩ yD⟩
theorem chkF (T:Txt q.K q.mg CQ T0 jA):∃ f fd,q.mg "checked" = f⁻¹/\PySem.W.keepIn q.K (.ref f)=true/\qG q.K fd ["paper"] []/\FnOk q.prog q.w q.K q.mg q.base (CXr q.prog q.w) (rk 23+1) f fd ["paper"] (bK q.K (vU CQ)):=by
 obtain⟨f,hm,hd⟩:=T.chk;obtain⟨fd,F,_⟩:=hd.fd;exact⟨f,fd,hm,F.kp,kP F λ_ _ _ _ _ _=>us1 λ_=>rfl,zhW (k:=rk 23) (Γ:=uG q.K CQ 23) (Δ:=fY CQ [] T0) (M:=za9) (Z:=zaL) (sp:=vU CQ) F zcr (good T (p23 T)) (λA hr=>zf0 T (hr.mono 'c') yD) 'e' ⟨rfl,rfl,rfl⟩ zat (λws G Q E h=>by obtain⟨ps,rfl,_⟩:=h;rfl) (λws G Q E h=>zhZ rfl rfl h)⟩
theorem chkE (T:Txt q.K q.mg CQ T0 jA):∀ A,Room (rk 24) A->FxE (q.at A) ⟨"checked", vU CQ⟩:=λA hr=>by
 obtain⟨f,fd,hm,kp,hb,FO⟩:=chkF T;exact zkp FO hm kp hb hG (hr.mono 'c')
theorem zca:rH ⟨"_law_gone", spGn⟩:=λws G Q Q' E k hh=>by
 obtain⟨x,s,p,t,g,h1,h2,h3,h4,h5,h6,h7,h8⟩:=hh;exact⟨x,s,p,t,g,h1,h2,h3,h4,h5,h6,λe G' a=>k _ _ (h7 e G' a),λgs e r ws G' a b c=>k _ _ (h8 gs e r ws G' a b c)⟩
include T
theorem p24:Pn q CQ 24:=by
 exact next (p23 T) 'c' rfl λA hr=>zkv (chkE T A hr) hG
theorem p25:Pn q CQ 25:=by
 obtain⟨f,hm,hd⟩:=T.told;obtain⟨fd,F,_⟩:=hd.fd;have FO:=zhX (k:=rk 24) (Γ:=uG q.K CQ 24) (Δ:=fY CQ [⟨"checked", vU CQ⟩] T0) (M:=mU) (Z:=pL) (sp:=spTl) F zai (good T (p24 T)) (λA hr=>zf0 T (hr.mono 'c') (zJ ⟨chkE T A (hr.mono 'c'),hG⟩ yD)) 'e' ⟨rfl,rfl,rfl⟩ gH (λws G Q h=>by obtain⟨ps,rfl,_⟩:=h;rfl) (λws G Q h=>zd7 rfl rfl rfl rfl rfl rfl rfl rfl rfl rfl rfl rfl rfl rfl T.cl h)
 exact next (p24 T) 'c' rfl λA hr=>pS FO hm F.kp (kP F λ_ _ _ _ _ _=>us1 λ_=>rfl) (λws G Q Q' E k hh=>by
   obtain⟨ps,h1,h2,h⟩:=hh;exact⟨ps,h1,h2,λG' a=>k _ _ (h G' a)⟩) hr 'c'
theorem p26:Pn q CQ 26:=wM (sp:=spGn) (M:=mR) T (p25 T) 'c' T.gone zaj 'e' gG (by subst_eqs) (λws G Q h=>ze5 rfl rfl h) zca (λ_ _ _ _ _ _=>us4 (λ_ _ _ _=>rfl)) rfl
theorem p27:Pn q CQ 27:=wM (sp:=spLg) (M:=uK) T (p26 T) 'c' T.lgood nX 'e' rZ (by subst_eqs) (λws G Q h=>zcX rfl rfl rfl rfl h) (by and_intros) (λ_ _ _ _ _ _=>us2 (λ_ _=>rfl)) rfl
theorem p28:Pn q CQ 28:=wM (sp:=pX) (M:=rR) T (p27 T) 'c' T.forms bY 'e' mH (by subst_eqs) (λws G Q h=>zdj rfl rfl rfl h) (by and_intros) (λ_ _ _ _ _ _=>us1 (λ_=>rfl)) rfl
omit T
theorem zhe:(zH slaw).names.lookup ("_law_script":Str)=some .local:=by decide +kernel
theorem zjI {P:Program} {w:World} {K:yM} {mg:Str->Option Value} (T:Txt K mg CQ T0 jA) {f:Addr} (hd:HD K "law" "law" slaw .none f):∃ fd:FuncData,(∀ (s:Shared) (u:Value),BindsTo s fd ⟨[u],[]⟩ [("_law_script", u)])/\fd.scope.names.lookup ("_law_script":Str)=some .local/\∀ base:Heap,FnOk P w K mg base CX0 69 f fd ["_law_script"] (vE K fT):=by
 obtain⟨fd,F,kV,doc,pm,an,cdv,ct,e⟩:=hd.fd;refine⟨fd,λs u=>by subst e;exact .of_eq rfl,by subst e;exact zhe,λbase=>zay (q:=⟨P,w,K,mg,base⟩) (k:=68) (sp:=fT) (M:=mlaw) F sclaw (good (q:=⟨P,w,K,mg,base⟩) T (p28 T)) 'e' zg9 (λws G Q h=>by obtain⟨a,ns,rfl,_⟩:=h;rfl) λws G Q h=>?_⟩;obtain⟨a,ns,rfl,hs,hl,h⟩:=h;exact zhd hs hl h
end
end K57
namespace K57
open PySem PySem.Spec PyProof.Rows L2 L3
open PySem.W (nsIn keepIn codeIn mg_of findIn mg_none_of fnOf)
structure Kc (K:yM) (T C:Addr) (ini:Value):Prop where
 cls:∃ (nm qn:Str) (N:Addr) (bs:List Value) (sn:List Str) (sub:List Value) (ab:Bool) (col:Option Bool) (dd:Option Addr) (k0 k1 k2 k3 k5:Option Value),
  K.lookup C=some (excClassObj nm qn C N bs [.ref T,.type "ValueError", .type "Exception", .type "BaseException", .type "object"] true sn sub ab col dd k0 k1 k2 k3 k5 "ValueError.__new__")
 ga:findIn K (.ref C) "__getattribute__" = some (some (.builtin "BaseException.__getattribute__"))
 gt:findIn K (.ref C) "__getattr__" = some none
 ca:findIn K (.ref C) "__class__" = some (some (.builtin "object.__class__"))
 ini:findIn K (.ref C) "__init__" = some (some ini)
 kp:keepIn K (.ref C)=true
theorem Kc.mk' {K:yM} {T C N:Addr} {ini:Value} {nm qn:Str} {bs:List Value} {sn:List Str} {sub:List Value} {ab:Bool} {col:Option Bool} {dd:Option Addr} {k0 k1 k2 k3 k5:Option Value}
  (l:K.lookup C=some (excClassObj nm qn C N bs [.ref T,.type "ValueError", .type "Exception", .type "BaseException", .type "object"] true sn sub ab col dd k0 k1 k2 k3 k5 "ValueError.__new__"))
  (ga:findIn K (.ref C) "__getattribute__" = some (some (.builtin "BaseException.__getattribute__"))) (gt:findIn K (.ref C) "__getattr__" = some none) (ca:findIn K (.ref C) "__class__" = some (some (.builtin "object.__class__")))
  (ini':findIn K (.ref C) "__init__" = some (some ini)) (kp:keepIn K (.ref C)=true):Kc K T C ini:=⟨⟨nm,qn,N,bs,sn,sub,ab,col,dd,k0,k1,k2,k3,k5,l⟩,ga,gt,ca,ini',kp⟩
section
variable {K:yM} {T C:Addr} {ini:Value}
theorem Kc.cd (k:Kc K T C ini):∃ cd,PySem.W.clsIn K C=some cd/\cd.hasDict=true/\cd.mro=[.ref C,.ref T,.type "ValueError", .type "Exception", .type "BaseException", .type "object"]:=by
 obtain⟨nm,qn,N,bs,sn,sub,ab,col,dd,k0,k1,k2,k3,k5,l⟩:=k.cls;exact⟨_,by unfold PySem.W.clsIn;rw[l],rfl,rfl⟩
theorem Kc.mro (k:Kc K T C ini) (v:Value):PySem.W.mroIn K C v=some (([.ref C,.ref T,.type "ValueError", .type "Exception", .type "BaseException", .type "object"]:List Value).contains v):=by
 obtain⟨cd,e,_,m⟩:=k.cd;unfold PySem.W.mroIn;rw[e];show(if cd.mro.isEmpty=true then none else some (cd.mro.contains v))=_;rw[m];rfl
theorem zb2 {x:String} (C T:Addr) (h:(["ValueError", "Exception", "BaseException", "object"]:List String).contains x=true):([.ref C,.ref T,.type "ValueError", .type "Exception", .type "BaseException", .type "object"]:List Value).contains (.type x)=true:=by
 rw[Zae] at h ⊢;simp only[Zh,Zt,or_false] at h ⊢;rcases h with rfl|rfl|rfl|rfl<;>simp
theorem zb1 {x:String} (C T:Addr) (h:(["ValueError", "Exception", "BaseException", "object"]:List String).contains x=false):([.ref C,.ref T,.type "ValueError", .type "Exception", .type "BaseException", .type "object"]:List Value).contains (.type x)=false:=by
 rw[ZbB] at h ⊢;intro e;refine h ?_;rw[Zae] at e ⊢;simp only[Zh,Zt,or_false] at e ⊢;rcases e with e|e|e|e|e|e
 .cases e
 .cases e
 .exact .inl (Zbz e)
 .exact .inr (.inl (Zbz e))
 .exact .inr (.inr (.inl (Zbz e)))
 .exact .inr (.inr (.inr (Zbz e)))
theorem Kc.xc (k:Kc K T C ini):PySem.W.XC K C where
 cls:=by obtain⟨cd,e,_⟩:=k.cd;rw[e];rfl
 ga:=k.ga
 gt:=k.gt
 sub:=(k.mro _).trans (by rw[zb2 C T 'c'])
 cl:=k.ca
 mro:=(k.mro _).trans (by rw[zb2 C T 'c'])
theorem Kc.xm (k:Kc K T C ini):XM K C ini where
 cls:=by
  obtain⟨nm,qn,N,bs,sn,sub,ab,col,dd,k0,k1,k2,k3,k5,l⟩:=k.cls;exact⟨nm,qn,N,bs,_,true,sn,sub,ab,col,dd,k0,k1,k2,k3,k5,l,zb2 C T 'c',zb1 C T 'c',zb1 C T 'c',zb2 C T 'c'⟩
 ini:=k.ini
 kp:=k.kp
theorem Kc.xi {f:Str} (k:Kc K T C ini) (sa:findIn K (.ref C) "__setattr__" = some (some (.builtin "object.__setattr__"))) (no:findIn K (.ref C) f=some none):XI K C f where
 cls:=by
  obtain⟨cd,e,h,m⟩:=k.cd;exact⟨cd,e,h,[C,T],m⟩
 sa:=sa
 mro:=k.xc.mro
 no:=no
theorem Kc.hd (k:Kc K T C ini):PySem.W.hasDictIn K C=true:=by
 obtain⟨cd,e,h,m⟩:=k.cd;unfold PySem.W.hasDictIn;rw[e];exact h
theorem Kc.val (k:Kc K T C ini):PySem.W.kitOne K (.ref C) (.type "ValueError")=some true:=by
 unfold PySem.W.kitOne;rw[if_neg (λz=>by cases beq_iff_eq.mp z)];unfold PySem.W.kitCls;dsimp only;rw[if_pos (by decide +kernel)];exact(k.mro _).trans (by rw[zb2 C T 'c'])
theorem Kc.no {D:Addr} {cd:ClassData} (k:Kc K T C ini) (hc:PySem.W.clsIn K D=some cd) (ht:PySem.W.typeIn K (.ref D)=some (.type "type")) (hn:D≠C/\D≠T):PySem.W.kitOne K (.ref C) (.ref D)=some false:=by
 unfold PySem.W.kitOne;rw[if_neg (λz=>hn.1 (ZbL (beq_iff_eq.mp z)).symm)];unfold PySem.W.kitCls;dsimp only;rw[if_pos (by rw[hc,ht];rfl)];refine(k.mro _).trans ?_;congr 1;rw[ZbB];intro z;rw[Zae] at z;simp only[Zh,Zt,or_false] at z;rcases z with z|z|z|z|z|z
 .exact hn.1 (ZbL z)
 .exact hn.2 (ZbL z)
 .cases z
 .cases z
 .cases z
 .cases z
theorem zb0 {x:String} (T:Addr) (h:(["ValueError", "Exception", "BaseException", "object"]:List String).contains x=false):([.ref T,.type "ValueError", .type "Exception", .type "BaseException", .type "object"]:List Value).contains (.type x)=false:=by
 have:=zb1 T T h;rw[List.contains_cons] at this;exact(Bool.or_eq_false_iff.mp this).2
end
noncomputable def cs (c0 c1 c2 c3 c4 c5 c6 c7 c8 c9:Addr):Nat->Addr
 | 0=>c0
 | 1=>c1
 | 2=>c2
 | 3=>c3
 | 4=>c4
 | 5=>c5
 | 6=>c6
 | 7=>c7
 | 8=>c8
 |_=>c9
theorem all_mk {l:PySem.W.OpenLaw} {w:World} {K:yM} {h:Heap} {mg:Str->Option Value} {fa T0 jA:Addr} (X:K.In h) (G:h.Ns mainGlobals mg) (hfa:mg "law" = fa⁻¹)
  {C0 C1 C2 C3 C4 C5 C6 C7 C8 C9 g6 N6 NT:Addr} {nm6 qn6 nmT qnT:Str} {bs6 sub6 bsT subT:List Value} {sn6 snT:List Str} {ab6 abT:Bool} {col6 colT:Option Bool} {dd6 ddT odI6 anI6:Option Addr} {ka6 kb6 kc6 kd6 ke6 kaT kbT kcT kdT keT:Option Value} {slI6:Array (Option Value)} {ocI6 kVI6 dcI6 pmI6 cdI6 ctI6:Value} {jk1 ji1 jk2 ji2 jk3 ji3 jk4 ji4 jk5 ji5 jk6 ji6 jk7 ji7 jk8 ji8 jk9 ji9 jk10 ji10 jk11 ji11 jk12 ji12 jk13 ji13:Tok} {nJ:Nat} {jh1 jh2 jh3 jh4 jh5 jh6 jh7 jh8 jh9 jh10 jh11 jh12 jh13:Int} {cz0 cz1 cz2 cz3 cz4 cz5 cz7 cz8 cz9:ClassData}
  (d1:Df K "_law_deal" jD .none)
  (d2:Df K "_law_draw" jE .none)
  (d3:Df K "_law_names" jV .none)
  (d4:Df K "_law_row" kX .none)
  (d5:Df K "_law_base" jC .none)
  (d6:Df K "_law_saying" wL .none)
  (d7:Df K "_law_plain_rows" xL .none)
  (d8:Df K "_law_letting_rows" xY .none)
  (d9:Df K "sort_of" vN .none)
  (d10:Df K "made_of" vL .none)
  (d11:Df K "taken_from" jW .none)
  (d12:Df K "why_lets" qB .none)
  (d13:Df K "is_rising" jH .none)
  (d14:Df K "let_go" tL .none)
  (d15:Df K "is_good" vK .none)
  (d16:Df K "checked" vJ .none)
  (d17:Df K "_law_told" jG .none)
  (d18:Df K "_law_gone" jF .none)
  (d19:Df K "_law_is_good" wT .none)
  (d20:Df K "_law_forms" jU .none)
  (d21:Df K "law" slaw .none)
  (z0:nsIn K mainGlobals "max" = some none)
  (z1:nsIn K mainGlobals "len" = some none)
  (z2:nsIn K mainGlobals "all" = some none)
  (z3:nsIn K mainGlobals "list" = some none)
  (z4:nsIn K mainGlobals "isinstance" = some none)
  (z5:nsIn K mainGlobals "sorted" = some none)
  (z6:nsIn K mainGlobals "tuple" = some none)
  (z7:nsIn K mainGlobals "int" = some none)
  (z8:nsIn K mainGlobals "range" = some none)
  (z9:nsIn K mainGlobals "zip" = some none)
  (z10:nsIn K mainGlobals "enumerate" = some none)
  (z11:nsIn K mainGlobals "reversed" = some none)
  (z12:nsIn K mainGlobals "ValueError" = some none)
  (A0:nsIn K mainGlobals "NoText" = some (C0⁻¹))
  (A1:nsIn K mainGlobals "NoBook" = some (C1⁻¹))
  (A2:nsIn K mainGlobals "NotLet" = some (C2⁻¹))
  (A3:nsIn K mainGlobals "NoMove" = some (C3⁻¹))
  (A4:nsIn K mainGlobals "NoPlan" = some (C4⁻¹))
  (A5:nsIn K mainGlobals "NoTalker" = some (C5⁻¹))
  (A6:nsIn K mainGlobals "NoPaper" = some (C6⁻¹))
  (A7:nsIn K mainGlobals "NoWeb" = some (C7⁻¹))
  (A8:nsIn K mainGlobals "NoRow" = some (C8⁻¹))
  (A9:nsIn K mainGlobals "NoName" = some (C9⁻¹))
  (aT:nsIn K mainGlobals "TalkError" = some (T0⁻¹))
  (L6:K.lookup C6=some (excClassObj nm6 qn6 C6 N6 bs6 [.ref T0,.type "ValueError", .type "Exception", .type "BaseException", .type "object"] true sn6 sub6 ab6 col6 dd6 ka6 kb6 kc6 kd6 ke6 "ValueError.__new__"))
  (G6:findIn K (.ref C6) "__getattribute__" = some (some (.builtin "BaseException.__getattribute__")))
  (H6:findIn K (.ref C6) "__getattr__" = some none)
  (J6:findIn K (.ref C6) "__class__" = some (some (.builtin "object.__class__")))
  (I6:findIn K (.ref C6) "__init__" = some (g6⁻¹))
  (K6:keepIn K (.ref C6)=true)
  (S6:findIn K (.ref C6) "__setattr__" = some (some (.builtin "object.__setattr__")))
  (F6:findIn K (.ref C6) "row" = some none)
  (P6:K.lookup g6=some ⟨ocI6,odI6,.func (fnOf "__init__" "NoPaper.__init__" (jL wS) (yX wS) (zH wS) .none kVI6 dcI6 pmI6 anI6 cdI6 ctI6),slI6⟩)
  (Q6:codeIn K cdI6 "NoPaper.__init__" = true)
  (R6:keepIn K (.ref g6)=true)
  (T6:PySem.W.typeIn K (.ref g6)=some (.type "function"))
  (LT:K.lookup T0=some (excClassObj nmT qnT T0 NT bsT [.type "ValueError", .type "Exception", .type "BaseException", .type "object"] true snT subT abT colT ddT kaT kbT kcT kdT keT "ValueError.__new__"))
  (IT:findIn K (.ref T0) "__init__" = some (some (.builtin "ValueError.__init__")))
  (KT:keepIn K (.ref T0)=true)
  (xg:PySem.W.specialIn K (.builtin "object.__class__") "__get__" = some (some (.builtin "getset_descriptor.__get__")))
  (xt:PySem.W.takesIn K (.builtin "object.__class__")=some true)
  (aJ:nsIn K mainGlobals "WHYS" = some (jA⁻¹))
  (lJ:K.lookup jA=some ⟨.type "dict", none,.dict #[⟨jh1,.str "given" jk1,.int 0 ji1⟩,⟨jh2,.str "both" jk2,.int 2 ji2⟩,⟨jh3,.str "left" jk3,.int 1 ji3⟩,⟨jh4,.str "right" jk4,.int 1 ji4⟩,⟨jh5,.str "one" jk5,.int 1 ji5⟩,⟨jh6,.str "two" jk6,.int 1 ji6⟩,⟨jh7,.str "cases" jk7,.int 3 ji7⟩,⟨jh8,.str "then" jk8,.int 1 ji8⟩,⟨jh9,.str "use" jk9,.int 2 ji9⟩,⟨jh10,.str "not" jk10,.int 1 ji10⟩,⟨jh11,.str "clash" jk11,.int 2 ji11⟩,⟨jh12,.str "all" jk12,.int 1 ji12⟩,⟨jh13,.str "put" jk13,.int 2 ji13⟩] nJ,#[]⟩)
  (D0:PySem.W.clsIn K C0=some cz0)
  (E0:PySem.W.typeIn K (.ref C0)=some (.type "type"))
  (D1:PySem.W.clsIn K C1=some cz1)
  (E1:PySem.W.typeIn K (.ref C1)=some (.type "type"))
  (D2:PySem.W.clsIn K C2=some cz2)
  (E2:PySem.W.typeIn K (.ref C2)=some (.type "type"))
  (D3:PySem.W.clsIn K C3=some cz3)
  (E3:PySem.W.typeIn K (.ref C3)=some (.type "type"))
  (D4:PySem.W.clsIn K C4=some cz4)
  (E4:PySem.W.typeIn K (.ref C4)=some (.type "type"))
  (D5:PySem.W.clsIn K C5=some cz5)
  (E5:PySem.W.typeIn K (.ref C5)=some (.type "type"))
  (D7:PySem.W.clsIn K C7=some cz7)
  (E7:PySem.W.typeIn K (.ref C7)=some (.type "type"))
  (D8:PySem.W.clsIn K C8=some cz8)
  (E8:PySem.W.typeIn K (.ref C8)=some (.type "type"))
  (D9:PySem.W.clsIn K C9=some cz9)
  (E9:PySem.W.typeIn K (.ref C9)=some (.type "type"))
  (hw1:∀ d∈[C0,C1,C2,C3,C4,C5,C7,C8,C9],d≠C6/\d≠T0)
  (hwJ:(jA==sysModules)=false) :
  ∃ fd:FuncData,(∀ (s:Shared) (u:Value),BindsTo s fd ⟨[u],[]⟩ [("_law_script", u)])/\fd.scope.names.lookup ("_law_script":Str)=some .local/\∀ base:Heap,K.In base->base.Ns mainGlobals mg->FnOk l.prog w K mg base CX0 69 fa fd ["_law_script"] (vE K fT):=by
 obtain⟨fl,ml,hl⟩:=d21.to X G;have e:=hfa.symm.trans ml;cases e;have y6:=Kc.mk' L6 G6 H6 J6 I6 K6;have c:Cl K (cs C0 C1 C2 C3 C4 C5 C6 C7 C8 C9):=⟨⟨xg,xt⟩,y6.xc,by unfold PySem.W.kitOne;rw[if_pos (beq_self_eq_true _)],(zJ (y6.no D0 E0 (hw1 C0 'g')) (zJ (y6.no D1 E1 (hw1 C1 'g')) (zJ (y6.no D2 E2 (hw1 C2 'g')) (zJ (y6.no D3 E3 (hw1 C3 'g')) (zJ (y6.no D4 E4 (hw1 C4 'g')) (zJ (y6.no D5 E5 (hw1 C5 'g')) (zJ (y6.no D7 E7 (hw1 C7 'g')) (zJ (y6.no D8 E8 (hw1 C8 'g')) (zJ (y6.no D9 E9 (hw1 C9 'g')) yD))))))))),y6.val,y6.hd,F6⟩;have xT:XM K T0 (.builtin "ValueError.__init__"):=⟨⟨_,_,_,_,_,_,_,_,_,_,_,_,_,_,_,_,LT,by rw[Zae];simp,zb0 T0 'c',zb0 T0 'c',by rw[Zae];simp⟩,IT,KT⟩;have sb:cR K C6 T0:=⟨_,_,_,_,_,_,_,_,_,_,_,_,_,_,_,_,L6,by rw[Zae];simp⟩
 have T:Txt K mg (cs C0 C1 C2 C3 C4 C5 C6 C7 C8 C9) T0 jA:={
  deal:=d1.to X G
  draw:=d2.to X G
  names:=d3.to X G
  row:=d4.to X G
  base:=d5.to X G
  saying:=d6.to X G
  plain:=d7.to X G
  letting:=d8.to X G
  sort:=d9.to X G
  made:=d10.to X G
  taken:=d11.to X G
  lets:=d12.to X G
  rise:=d13.to X G
  go:=d14.to X G
  good:=d15.to X G
  chk:=d16.to X G
  told:=d17.to X G
  gone:=d18.to X G
  lgood:=d19.to X G
  forms:=d20.to X G
  max:=Zaj X G z0
  len:=Zaj X G z1
  all:=Zaj X G z2
  list:=Zaj X G z3
  isi:=Zaj X G z4
  srt:=Zaj X G z5
  tup:=Zaj X G z6
  int:=Zaj X G z7
  range:=Zaj X G z8
  zip:=Zaj X G z9
  enum:=Zaj X G z10
  rev:=Zaj X G z11
  val:=Zaj X G z12
  cl:=c
  mgT:=mg_of X G aT
  tr:=⟨_,xT⟩
  sub:=sb
  x6:=⟨⟨g6,y6.xm,HD.mk' P6 Q6 R6,T6⟩,y6.xi S6 F6⟩
  m0:=mg_of X G A0
  m1:=mg_of X G A1
  m2:=mg_of X G A2
  m3:=mg_of X G A3
  m4:=mg_of X G A4
  m5:=mg_of X G A5
  m6:=mg_of X G A6
  m7:=mg_of X G A7
  m8:=mg_of X G A8
  m9:=mg_of X G A9
  mgW:=mg_of X G aJ
  whyD:=λH=>⟨jA,[.int 0,.int 2,.int 1,.int 1,.int 1,.int 1,.int 3,.int 1,.int 2,.int 1,.int 2,.int 1,.int 2],rfl,⟨_,_,_,lJ,⟨rfl,rfl,rfl⟩,rfl,sz 13 'c',hwJ,⟨"given", jk1,.int 0,_,_,rfl,rfl,rfl,⟨_,rfl⟩,⟨"both", jk2,.int 2,_,_,rfl,rfl,rfl,⟨_,rfl⟩,⟨"left", jk3,.int 1,_,_,rfl,rfl,rfl,⟨_,rfl⟩,⟨"right", jk4,.int 1,_,_,rfl,rfl,rfl,⟨_,rfl⟩,⟨"one", jk5,.int 1,_,_,rfl,rfl,rfl,⟨_,rfl⟩,⟨"two", jk6,.int 1,_,_,rfl,rfl,rfl,⟨_,rfl⟩,⟨"cases", jk7,.int 3,_,_,rfl,rfl,rfl,⟨_,rfl⟩,⟨"then", jk8,.int 1,_,_,rfl,rfl,rfl,⟨_,rfl⟩,⟨"use", jk9,.int 2,_,_,rfl,rfl,rfl,⟨_,rfl⟩,⟨"not", jk10,.int 1,_,_,rfl,rfl,rfl,⟨_,rfl⟩,⟨"clash", jk11,.int 2,_,_,rfl,rfl,rfl,⟨_,rfl⟩,⟨"all", jk12,.int 1,_,_,rfl,rfl,rfl,⟨_,rfl⟩,⟨"put", jk13,.int 2,_,_,rfl,rfl,rfl,⟨_,rfl⟩,⟨rfl,rfl⟩⟩⟩⟩⟩⟩⟩⟩⟩⟩⟩⟩⟩⟩⟩,⟨_,_,rfl,rfl,⟨_,_,rfl,rfl,⟨_,_,rfl,rfl,⟨_,_,rfl,rfl,⟨_,_,rfl,rfl,⟨_,_,rfl,rfl,⟨_,_,rfl,rfl,⟨_,_,rfl,rfl,⟨_,_,rfl,rfl,⟨_,_,rfl,rfl,⟨_,_,rfl,rfl,⟨_,_,rfl,rfl,⟨_,_,rfl,rfl,rfl⟩⟩⟩⟩⟩⟩⟩⟩⟩⟩⟩⟩⟩⟩}
 obtain⟨fd,hb,hx,hF⟩:=zjI (P:=l.prog) (w:=w) T hl;exact⟨fd,hb,hx,λbase _ _=>hF base⟩
end K57
end
namespace PySem.W.Fast
theorem tw829465605632057130:0=0:=rfl
theorem tw1131383280492664570:0=0:=rfl
theorem tw13825183877224832943:0=0:=rfl
theorem tw1801351123254057756:0=0:=rfl
theorem tw8511813307868733022:0=0:=rfl
theorem tw2998275267448147150:0=0:=rfl
theorem tw13739296451848183745:0=0:=rfl
theorem tw9239822170313538125:0=0:=rfl
theorem tw4354338714614869153:0=0:=rfl
theorem tw3126188947581933563:0=0:=rfl
theorem tw15365772887115490815:0=0:=rfl
theorem tw176880382373977850:0=0:=rfl
theorem tw8340406391884086260:0=0:=rfl
theorem tw7262802498459729444:0=0:=rfl
theorem tw2460932863553184180:0=0:=rfl
theorem tw14725492114867189737:0=0:=rfl
theorem tw15744616018852562503:0=0:=rfl
theorem tw9596669783635860103:0=0:=rfl
theorem tw3482765276534437078:0=0:=rfl
theorem tw13508279620891527446:0=0:=rfl
theorem tw7370499891102422442:0=0:=rfl
theorem tw1753999250591605035:0=0:=rfl
theorem tw4205341281932561226:0=0:=rfl
theorem tw10822432741696803503:0=0:=rfl
theorem tw13455202111762575772:0=0:=rfl
theorem tw13072920005078064853:0=0:=rfl
theorem tw4482220559770427298:0=0:=rfl
theorem tw1580700917013901382:0=0:=rfl
theorem tw447646922112200652:0=0:=rfl
theorem tw17154584005999858822:0=0:=rfl
theorem tw10660521022014243845:0=0:=rfl
theorem tw4743015093139537118:0=0:=rfl
theorem tw6273083452498062232:0=0:=rfl
theorem tw12124537766696688377:0=0:=rfl
theorem tw16171479763640149731:0=0:=rfl
theorem tw8512035456865429518:0=0:=rfl
theorem tw4415942069875318475:0=0:=rfl
theorem tw14243978229776441913:0=0:=rfl
theorem tw1372861659845066207:0=0:=rfl
theorem tw6350090936635238187:0=0:=rfl
theorem tw6487551437440164307:0=0:=rfl
theorem tw10786849577239606941:0=0:=rfl
theorem tw6464222182757571952:0=0:=rfl
theorem tw4431315074876704678:0=0:=rfl
theorem tw12803118462507303056:0=0:=rfl
theorem tw14671221632989699668:0=0:=rfl
theorem tw7583915707173238154:0=0:=rfl
theorem tw12655939640000777962:0=0:=rfl
theorem tw8790154510684491795:0=0:=rfl
theorem tw900126571126076417:0=0:=rfl
theorem tw10574656901787027897:0=0:=rfl
theorem tw5024316961011841291:0=0:=rfl
theorem tw17324599737071029919:0=0:=rfl
theorem tw15923729496311996892:0=0:=rfl
theorem tw7185477978206006393:0=0:=rfl
theorem tw2994508650324042719:0=0:=rfl
theorem tw3260595855661161833:0=0:=rfl
theorem tw14702622115383156143:0=0:=rfl
theorem tw2074884170230658210:0=0:=rfl
theorem tw14356187532062072708:0=0:=rfl
theorem tw10123388620868337953:0=0:=rfl
theorem tw1855284141151129241:0=0:=rfl
theorem tw16231771148190226111:0=0:=rfl
theorem tw17998529186231285799:0=0:=rfl
theorem tw1737990671267157528:0=0:=rfl
theorem tw7458652935205265645:0=0:=rfl
theorem tw9062376563495858771:0=0:=rfl
theorem tw14267380451010739772:0=0:=rfl
theorem tw10878302913601807518:0=0:=rfl
theorem tw8745773451413918100:0=0:=rfl
theorem tw11162256304629603449:0=0:=rfl
theorem tw767628194006843897:0=0:=rfl
theorem tw935742222551292368:0=0:=rfl
theorem tw17473399739602635455:0=0:=rfl
theorem tw8595584930098738720:0=0:=rfl
theorem tw9126764550746708558:0=0:=rfl
theorem tw16102761357972694357:0=0:=rfl
theorem tw16248523607978000250:0=0:=rfl
theorem tw6154939166530519188:0=0:=rfl
theorem tw9693411448393983965:0=0:=rfl
theorem tw11099382304292789261:0=0:=rfl
theorem tw7424891481109701945:0=0:=rfl
theorem tw524935200845191148:0=0:=rfl
theorem tw4745460665488601688:0=0:=rfl
theorem tw9115094958567581023:0=0:=rfl
theorem tw6049078464083727652:0=0:=rfl
theorem tw4354394802258552978:0=0:=rfl
theorem tw16969049139117586291:0=0:=rfl
theorem tw16858735536033122463:0=0:=rfl
theorem tw4952762746017382785:0=0:=rfl
theorem tw310298501169782237:0=0:=rfl
theorem tw17437151897212828822:0=0:=rfl
theorem tw2449624732471478353:0=0:=rfl
theorem tw4164632941615830861:0=0:=rfl
theorem tw16000555278339024935:0=0:=rfl
theorem tw2639743895061406462:0=0:=rfl
theorem tw15482298684146257548:0=0:=rfl
theorem tw5474734787640607697:0=0:=rfl
theorem tw2563610052216802807:0=0:=rfl
theorem tw16184346251357018590:0=0:=rfl
theorem tw14949983905903252344:0=0:=rfl
theorem tw11717631128467161164:0=0:=rfl
theorem tw11714181036736898279:0=0:=rfl
theorem tw15365416604071306234:0=0:=rfl
theorem tw11242580505852160617:0=0:=rfl
theorem tw16247331563996506437:0=0:=rfl
theorem tw3109482703930496179:0=0:=rfl
theorem tw18224232271922132051:0=0:=rfl
theorem tw4267891655171871828:0=0:=rfl
theorem tw4756038515813354864:0=0:=rfl
theorem tw7810900171408170394:0=0:=rfl
theorem tw5060436446506307409:0=0:=rfl
theorem tw12430761018168118137:0=0:=rfl
theorem tw15859983176020457954:0=0:=rfl
theorem tw7923715776974087858:0=0:=rfl
theorem tw8701600931374206751:0=0:=rfl
theorem tw15348135758209742746:0=0:=rfl
theorem tw15392891502894660052:0=0:=rfl
theorem tw9545865620528492349:0=0:=rfl
theorem tw2133338839073139977:0=0:=rfl
theorem tw7273056414987504849:0=0:=rfl
theorem tw10331112234875845063:0=0:=rfl
theorem tw3666507509253254602:0=0:=rfl
theorem tw14800036361620315998:0=0:=rfl
theorem tw16553070568230756370:0=0:=rfl
theorem tw7707449774498132415:0=0:=rfl
theorem tw9230812753923775457:0=0:=rfl
theorem tw15359225550944090443:0=0:=rfl
theorem tw13738749352189753340:0=0:=rfl
theorem tw9652460738581303823:0=0:=rfl
theorem tw11764656461899835594:0=0:=rfl
theorem tw15870651644229698403:0=0:=rfl
theorem tw1219215450304808607:0=0:=rfl
theorem tw1666249930018548777:0=0:=rfl
theorem tw5772856084071190554:0=0:=rfl
theorem tw3689312527348746260:0=0:=rfl
theorem tw15919883488224555902:0=0:=rfl
theorem tw7750780980463839680:0=0:=rfl
theorem tw11387797964724697182:0=0:=rfl
theorem tw6933328477601005364:0=0:=rfl
theorem tw10511381103270661534:0=0:=rfl
theorem tw14213404646668465806:0=0:=rfl
theorem tw6214861092131129363:0=0:=rfl
theorem tw10116740027039639819:0=0:=rfl
theorem tw2880841481452690837:0=0:=rfl
theorem tw947269844013793565:0=0:=rfl
theorem tw2137679708515017611:0=0:=rfl
theorem tw13778731393667496167:0=0:=rfl
theorem tw8832033408786298800:0=0:=rfl
theorem tw742894951019580101:0=0:=rfl
theorem tw7714974989897145238:0=0:=rfl
theorem tw10114130223878261750:0=0:=rfl
theorem tw14825275043477699861:0=0:=rfl
theorem tw5140626981587054886:0=0:=rfl
theorem tw17512999458592451535:0=0:=rfl
theorem tw10139342799739058515:0=0:=rfl
theorem tw5291894266931424238:0=0:=rfl
theorem tw4253441821828844506:0=0:=rfl
theorem tw12608100014728490012:0=0:=rfl
theorem tw2665866303176850703:0=0:=rfl
theorem tw16854801034089082934:0=0:=rfl
theorem tw15731216123566067450:0=0:=rfl
theorem tw7259949250656741207:0=0:=rfl
theorem tw10216871544187789694:0=0:=rfl
theorem tw8223380478116154376:0=0:=rfl
theorem tw5763043887831998029:0=0:=rfl
theorem tw12411018296448072049:0=0:=rfl
theorem tw11192650419830726758:0=0:=rfl
theorem tw118578963568774945:0=0:=rfl
theorem tw9604774854159558437:0=0:=rfl
theorem tw11640102111224789734:0=0:=rfl
theorem tw5426272443619481773:0=0:=rfl
theorem tw13765999727920553057:0=0:=rfl
theorem tw11603914564164885677:0=0:=rfl
theorem tw8262052051776653571:0=0:=rfl
theorem tw7541857330642995869:0=0:=rfl
theorem tw3123076365670457783:0=0:=rfl
theorem tw1942349872070460724:0=0:=rfl
theorem tw17587663492114712259:0=0:=rfl
theorem tw5367267989673812695:0=0:=rfl
theorem tw5087846158910137997:0=0:=rfl
theorem tw4628559721072591474:0=0:=rfl
theorem tw7168123884488549797:0=0:=rfl
theorem tw11114170511179081549:0=0:=rfl
theorem tw5463256863290183996:0=0:=rfl
theorem tw8932937901479182965:0=0:=rfl
theorem tw11435655319289702169:0=0:=rfl
theorem tw14989325862779918434:0=0:=rfl
theorem tw17919988008021645911:0=0:=rfl
theorem tw7024855866063426522:0=0:=rfl
theorem tw562695060004452161:0=0:=rfl
theorem tw324606193437669981:0=0:=rfl
theorem tw9867654254651952054:0=0:=rfl
theorem tw97809010787717512:0=0:=rfl
theorem tw9577658191059243469:0=0:=rfl
theorem tw7402483417457973058:0=0:=rfl
theorem tw6856187547342941075:0=0:=rfl
theorem tw6156943408162973303:0=0:=rfl
theorem tw4517723239544961468:0=0:=rfl
theorem tw17698396996030856258:0=0:=rfl
theorem tw1675068824429124863:0=0:=rfl
theorem tw15181059088051847613:0=0:=rfl
theorem tw12810680689395469032:0=0:=rfl
theorem tw11975692532349243785:0=0:=rfl
theorem tw17650972693492548430:0=0:=rfl
theorem tw3895299348355137514:0=0:=rfl
theorem tw6019098769402199430:0=0:=rfl
theorem tw5807454543035823600:0=0:=rfl
theorem tw18021731841466608467:0=0:=rfl
theorem tw15293014247267927014:0=0:=rfl
theorem tw5501419534495086169:0=0:=rfl
theorem tw14962303138902486314:0=0:=rfl
theorem tw17143705613507930720:0=0:=rfl
theorem tw18027151581136269820:0=0:=rfl
theorem tw10219861070742141385:0=0:=rfl
theorem tw2144865259235253398:0=0:=rfl
theorem tw10196177701253981678:0=0:=rfl
theorem tw8804282923009600059:0=0:=rfl
theorem tw700034729566765076:0=0:=rfl
theorem tw13940677684939125400:0=0:=rfl
theorem tw1153344427291103388:0=0:=rfl
theorem tw9288863223266895679:0=0:=rfl
theorem tw6117263347716874935:0=0:=rfl
theorem tw3647174063878124217:0=0:=rfl
theorem tw17881951363219098448:0=0:=rfl
theorem tw17635190892026133884:0=0:=rfl
theorem tw16439521206998552038:0=0:=rfl
theorem tw14606680062856972979:0=0:=rfl
theorem tw11944822725470194831:0=0:=rfl
theorem tw11746511283045865659:0=0:=rfl
theorem tw10968724602665462482:0=0:=rfl
theorem tw10715951904963550468:0=0:=rfl
theorem tw9449690487191651679:0=0:=rfl
theorem tw8244579009681431312:0=0:=rfl
theorem tw7273597160319506341:0=0:=rfl
theorem tw58060629352328559:0=0:=rfl
theorem tw2358770308730923924:0=0:=rfl
theorem tw2235848021033258121:0=0:=rfl
theorem tw17769620092109783978:0=0:=rfl
theorem tw17572062716549046242:0=0:=rfl
theorem tw16408367886862174117:0=0:=rfl
theorem tw1621783498807716979:0=0:=rfl
theorem tw15496083202735047066:0=0:=rfl
theorem tw18055007079050426482:0=0:=rfl
theorem tw9841236507732856728:0=0:=rfl
theorem tw867147751669444195:0=0:=rfl
theorem tw6648984635000360158:0=0:=rfl
theorem tw6406906268637790471:0=0:=rfl
theorem tw4236415347637915251:0=0:=rfl
theorem tw3904433970712308197:0=0:=rfl
theorem tw17361494664792569225:0=0:=rfl
theorem tw1676531345270967553:0=0:=rfl
theorem tw15743660418140936535:0=0:=rfl
theorem tw13811239977621599943:0=0:=rfl
theorem tw8143051297503920389:0=0:=rfl
theorem tw5482250958836467169:0=0:=rfl
theorem tw2690119169015718831:0=0:=rfl
theorem tw17734089805949656410:0=0:=rfl
theorem tw17646878823029321864:0=0:=rfl
theorem tw17564253553861488494:0=0:=rfl
theorem tw17471189929519458207:0=0:=rfl
theorem tw1401527178821638258:0=0:=rfl
theorem tw13850682264153360388:0=0:=rfl
theorem tw13407806171723905681:0=0:=rfl
theorem tw124186861665034318:0=0:=rfl
theorem tw9572316893222390955:0=0:=rfl
theorem tw9539328913307078681:0=0:=rfl
theorem tw8958308443696413501:0=0:=rfl
theorem tw8266852810160573728:0=0:=rfl
theorem tw792716768138202958:0=0:=rfl
end PySem.W.Fast
open PySem PySem.W PyProof.Rows
set_option maxRecDepth 100000 in
set_option maxHeartbeats 0 in
theorem PySem.Challenge.cw_talkcourt_k57_each_condition_broken_alon_holds : PySem.Challenge.rw_talkcourt_k57_each_condition_broken_alon.Holds := by
 w_on;o_law;k_head;(case hw=>w_witness2)
 k_fill
 refine L3.walk3 (l:=PySem.Challenge.rw_talkcourt_k57_each_condition_broken_alon) (k:=69) rfl rfl ⟨rfl,rfl,by decide,by decide⟩ (fun w h Y=>PySem.W.kIn_of Y) ?F
 case F =>
  intro w mg fa h KX G hmg;refine' K57.all_mk KX G hmg ?d1 ?d2 ?d3 ?d4 ?d5 ?d6 ?d7 ?d8 ?d9 ?d10 ?d11 ?d12 ?d13 ?d14 ?d15 ?d16 ?d17 ?d18 ?d19 ?d20 ?d21 ?z0 ?z1 ?z2 ?z3 ?z4 ?z5 ?z6 ?z7 ?z8 ?z9 ?z10 ?z11 ?z12 ?A0 ?A1 ?A2 ?A3 ?A4 ?A5 ?A6 ?A7 ?A8 ?A9 ?aT ?L6 ?G6 ?H6 ?J6 ?I6 ?K6 ?S6 ?F6 ?P6 ?Q6 ?R6 ?T6 ?LT ?IT ?KT ?xg ?xt ?aJ ?lJ ?D0 ?E0 ?D1 ?E1 ?D2 ?E2 ?D3 ?E3 ?D4 ?E4 ?D5 ?E5 ?D7 ?E7 ?D8 ?E8 ?D9 ?E9 ?hw1 ?hwJ
  case d1|d2|d3|d4|d5|d6|d7|d8|d9|d10|d11|d12|d13|d14|d15|d16|d17|d18|d19|d20|d21=>exact ⟨_,by k_is,L3.HD.mk' (by k_is) (by k_is) (by k_is)⟩
  case z0|z1|z2|z3|z4|z5|z6|z7|z8|z9|z10|z11|z12|A0|A1|A2|A3|A4|A5|A6|A7|A8|A9|aT|L6|G6|H6|J6|I6|K6|S6|F6|P6|Q6|R6|T6|LT|IT|KT|xg|xt|aJ|lJ|D0|E0|D1|E1|D2|E2|D3|E3|D4|E4|D5|E5|D7|E7|D8|E8|D9|E9=>k_is
  case hw1=>first|k_is|decide|rfl
  case hwJ=>first|k_is|decide|rfl
