import PyProof.Rows.All
import Wide.All
import OpenK.AllK
import Wide.FinOn
import Lean
import PyProof.EqAt
import PyProof.EqKinds
import PyProof.TupleCall
import PySem.Challenge.RW_talkcourt_k17_books_refused
set_option Elab.async false
set_option linter.all false
set_option maxRecDepth 100000
set_option maxHeartbeats 8000000
theorem zzN:¬ (false=true):=Bool.false_ne_true
theorem zzB:(false=true)=False:=Bool.false_eq_true
theorem zzC {α:Type _} {a:α} {l:List α}:(a::l).length=l.length+1:=rfl
theorem zzL {α:Type _}:([]:List α).length=0:=rfl
theorem zzA (n:Nat):0+n=n:=Nat.zero_add n
theorem zzM {α β:Type _} {l:List α} {f:α->β}:(l.map f).length=l.length:=List.length_map f
theorem zzP {α β:Type _} {b:β} {l:List α} {f:α->β} (h:b∈l.map f):∃ a,a∈l/\f a=b:=List.mem_map.mp h
theorem zzS {α:Type _} {l:List α}:l.toArray.size=l.length:=List.size_toArray
theorem zzR (n:Nat):n<=n:=Nat.le_refl n
theorem zzO {α:Type _} {a b:α} (h:a∈[b]):a=b:=List.mem_singleton.mp h
theorem zzT {α:Type _} {a:α} {l:List α}:a∈a::l:=List.mem_cons_self
theorem zzU {α β:Type _} {a:α} {l:List α} {f:α->β}:(a::l).map f=f a::l.map f:=rfl
theorem zzV {α β:Type _} {f:α->β}:([]:List α).map f=[]:=rfl
theorem zzW {α:Type _} {l l':List α}:(l++l').length=l.length+l'.length:=List.length_append
noncomputable section
namespace L2
open PySem
theorem fF {M:Model} {Γ:Ctx} {p:Pos} {t:Sem Fin} {fs:List Frame} {s s':Shared} {e:End} (h:Runs M Γ p t fs s e s'):s.toks<=s'.toks:=by
 induction h<;>(try simp only [Shared.setGen] at *)<;>omega
theorem zcF {M:Model} {Γ:Ctx} {p:Pos} {g:Nat} {r:Resume} {s s':Shared} {res:GenResult} (h:Wakes M Γ p g r s res s'):s.toks<=s'.toks:=by
 unfold Wakes at h
 split at h
 .exact h.elim
 .split at h
  .obtain ⟨e,s1,h,_,_,rfl⟩:=h;have:=fF h;exact this
  .rw [h.2];exact zzR _
  .rw [h.2];exact zzR _
 .obtain ⟨e,s1,h,_,_,rfl⟩:=h;have:=fF h;exact this
 .rw [h.2];exact zzR _
 .rw [h.2];exact zzR _
theorem wp_up {α:Type} {M:Model} {Γ:Ctx} {n:Nat}:∀ (t:Sem α) (Q:α->Pos->Shared->Prop) (E:Value->Pos->Shared->Prop) (p:Pos) (s:Shared),n<=s.toks ->
  Sem.wp M Γ t (fun a p' s'=>n<=s'.toks->Q a p' s') (fun e p' s'=>n<=s'.toks->E e p' s') p s->Sem.wp M Γ t Q E p s:=by
 intro t
 induction t with
 |pure a=>intro Q E p s h z;rw [Sem.wp] at z ⊢;exact z h
 |raise e=>intro Q E p s h z;rw [Sem.wp] at z ⊢;exact z h
 |unsupported _=>intro Q E p s h z;rw [Sem.wp] at z;exact z.elim
 |finish _=>intro Q E p s h z;rw [Sem.wp] at z;exact z.elim
 |register _ _ _=>intro Q E p s h z;rw [Sem.wp] at z;exact z.elim
 | «yield» _ _ _ _ _=>intro Q E p s h z;rw [Sem.wp] at z;exact z.elim
 |load a part k ih=>intro Q E p s h z;rw [Sem.wp] at z ⊢;obtain ⟨o,e,z⟩:=z;exact ⟨o,e,ih o Q E p s h z⟩
 |update a part f k ih=>intro Q E p s h z;rw [Sem.wp] at z ⊢;exact ⟨z.1,ih () Q E p _ h z.2⟩
 |fresh k ih=>intro Q E p s h z;rw [Sem.wp] at z ⊢;exact ih _ Q E p _ (Nat.le_succ_of_le h) z
 |choose src m k ih=>intro Q E p s h z;rw [Sem.wp] at z ⊢;exact ⟨z.1,ih _ Q E p _ h z.2⟩
 |genState g k ih=>intro Q E p s h z;rw [Sem.wp] at z ⊢;obtain ⟨st,e,z⟩:=z;exact ⟨st,e,ih _ Q E p s h z⟩
 |resume g r l k ih=>intro Q E p s h z;rw [Sem.wp] at z ⊢;obtain ⟨res,s',w,z⟩:=z;exact ⟨res,s',w,ih _ Q E p s' (Nat.le_trans h (zcF w)) z⟩
 |call c hd g l k ih=>intro Q E p s h z;rw [Sem.wp] at z ⊢;obtain ⟨r,s',w,z⟩:=z;exact ⟨r,s',w,ih _ Q E p s' (Nat.le_trans h (fF w)) z⟩
 |_=>first|(intro Q E p s h z;rw [Sem.wp] at z;exact z.elim)|(rename_i ih;intro Q E p s h z;rw [Sem.wp] at z ⊢;exact ih _ Q E _ _ h z)
theorem wF {α:Type} {M:Model} {A:Around} {t:Sem α} {Q:α->Shared->Prop} {E:Value->Shared->Prop} {s:Shared} (h:0<s.toks) (w:wpAny M A t (fun a s'=>0<s'.toks->Q a s') E s):wpAny M A t Q E s:=fun Γ p hΓ =>
 wp_up (n:=1) t _ _ p s h (Sem.wp_mono M Γ t (post':=fun a _ s'=>1<=s'.toks->Q a s') (exc':=fun e _ s'=>1<=s'.toks->E e s') (fun _ _ _ z=>z) (fun _ _ _ z _=>z) p s (w Γ p hΓ))
theorem zaz {M:Model} {A:Around} {E:Value->Shared->Prop} {s:Shared} {scope:Scope} {gl:Addr} {x:Str} {u:Value} {qual:Str} {fn:Option Addr} {code:Value} {bl:Addr} {Q:Env->Shared->Prop}
  (hk:scope.kind=.function) (hx:scope.names.lookup x=some .local)
  (hQ:∀ env,env=newEnv scope s.heap.objs.size gl (cellsFrom (s.heap.objs.size+1) scope.names []) qual fn code none bl ->
   ∀ s',InCallC s env.locals (bindL env.kindOf [(x,u)] fun _=>none) env.cells (bindC env.kindOf [(x,u)] fun _=>none) s'->0<s'.toks->Q env s') :
  wpAny M A (newFunctionEnv scope gl [] [(x,u)] qual fn code none bl) Q E s:=by
 simp only [newFunctionEnv,Option.isSome_none,zzB,if_false];refine wpAny_bind (wpAny_alloc (wpAny_bind (wpAny_layCells _ (fun name kind cells=>by cases h:kind==NameKind.cell<;>simp [h]) _ _ _ _ ?_)));have ok:=cellsFrom_ok scope.names (s.heap.push { cls:=.type "frame", data:=.dict #[] }) (s.heap.objs.size+1) [] ⟨fun _ _ z=>(nomatch z),List.Pairwise.nil⟩ (by rw [Heap.size_push];exact zzR _);rw [Heap.size_push] at ok;rw [show ({ s with heap:=s.heap.push { cls:=.type "frame", data:=.dict #[] } }:Shared).heap.objs.size=s.heap.objs.size+1 from Heap.size_push ..];have ns:=(Heap.Ns.new s.heap (.type "frame")).keeps (pushCells_keeps scope.names (s.heap.push { cls:=.type "frame", data:=.dict #[] }));rw [List.forIn_cons];refine wpAny_bind (wpAny_bind (wpAny_bind (wpAny_storeName_local (env:=newEnv scope s.heap.objs.size gl (cellsFrom (s.heap.objs.size+1) scope.names []) qual fn code none bl) hx ns (fun h' hn' hs'=>wpAny_pure ?_) (by show (scope.kind==ScopeKind.class || (scope.kind==ScopeKind.module&&(s.heap.objs.size != gl)))=false;rw [hk];rfl))));show wpAny M A (forIn [] _ _) _ _ _;rw [List.forIn_nil];refine wpAny_pure (wpAny_pure (hQ _ rfl _ ⟨⟨⟨h',_,rfl⟩,?_,fun b o e=>?_,zzR _⟩,fun n c hc=>?_,ok.apart,fun n c hm=>(ok.empty n c hm).2⟩ (Nat.succ_pos _)))
 .have e:(newEnv scope s.heap.objs.size gl (cellsFrom (s.heap.objs.size+1) scope.names []) qual fn code none bl).kindOf x=some .local:=hx;unfold bindL bindL;rw [if_pos e];exact hn'
 .exact (hs'.2 b (Nat.ne_of_lt (Heap.lt_size e))).trans (pushCells_keeps _ _ b o (Heap.get?_push_of_some _ e))
 .have e:(newEnv scope s.heap.objs.size gl (cellsFrom (s.heap.objs.size+1) scope.names []) qual fn code none bl).kindOf x=some .local:=hx;unfold bindC bindC;rw [if_pos e];have q:=ok.empty n c (mem_of_lookup hc);exact q.1.sameBut hs' (Nat.ne_of_gt q.2)
theorem zay {M:Model} {A:Around} {E:Value->Shared->Prop} {s:Shared} {scope:Scope} {gl:Addr} {ps:List Str} {us:List Value} {qual:Str} {fn:Option Addr} {code:Value} {bl:Addr} {Q:Env->Shared->Prop}
  (hk:scope.kind=.function) (hkind:∀ x∈ps.zip us,scope.names.lookup x.1=some .local\/(scope.names.lookup x.1=some .cell/\((cellsFrom (s.heap.objs.size+1) scope.names []).lookup x.1).isSome=true))
  (hl:us.length=ps.length) (hp:0<s.toks\/∃ x,ps=[x]/\scope.names.lookup x=some .local)
  (hQ:∀ env,env=newEnv scope s.heap.objs.size gl (cellsFrom (s.heap.objs.size+1) scope.names []) qual fn code none bl ->
   ∀ s',InCallC s env.locals (bindL env.kindOf (ps.zip us) fun _=>none) env.cells (bindC env.kindOf (ps.zip us) fun _=>none) s'->0<s'.toks->Q env s') :
  wpAny M A (newFunctionEnv scope gl [] (ps.zip us) qual fn code none bl) Q E s:=by
 rcases hp with hp|⟨x,rfl,hx⟩
 .exact wF hp (wpAny_newFunctionEnv_cells hk hkind hQ)
 .cases us with
  |nil=>cases hl
  |cons u r =>
   cases r with
   |nil=>exact zaz hk hx hQ
   |cons _ _=>cases hl
end L2
namespace L2
open PySem PySem.Spec PyProof.Rows
abbrev yH:=Sum Int Str
def pE:yH->Value->Bool
 | .inl k,v=>Value.isInt k v
 | .inr x,v=>Value.isStrOf x v
def keyH (w:World):yH->Int
 | .inl k=>hashInt k
 | .inr x=>hashStr w x
theorem yA:∀ {k:yH} {v:Value},pE k v=true->(∃ i t,k=Sum.inl i/\v=Value.int i t)\/(∃ x t,k=Sum.inr x/\v=Value.str x t)
 | .inl i,v,h=>by
  obtain ⟨t,e⟩:=Value.isInt_shape (k:=i) (v:=v) h;exact .inl ⟨i,t,rfl,e⟩
 | .inr x,v,h=>by
  obtain ⟨t,e⟩:=Value.isStrOf_shape (x:=x) (v:=v) h;exact .inr ⟨x,t,rfl,e⟩
theorem zbK (i:Int) (t:Tok):pE (.inl i) (.int i t)=true:=by simp [pE,Value.isInt]
theorem zbI (x:Str) (t:Tok):pE (.inr x) (.str x t)=true:=by simp [pE,Value.isStrOf]
theorem zim (a b:Int):decide ((Sum.inl a:yH)=Sum.inl b)=(a==b):=by
 by_cases e:a=b
 .subst e;simp
 .have h:¬ (Sum.inl a:yH)=Sum.inl b:=fun q=>e (Sum.inl.inj q);rw [decide_eq_false h];exact (beq_eq_false_iff_ne.mpr e).symm
theorem zij (a b:Str):decide ((Sum.inr a:yH)=Sum.inr b)=decide (a=b):=by
 by_cases e:a=b
 .subst e;simp
 .have h:¬ (Sum.inr a:yH)=Sum.inr b:=fun q=>e (Sum.inr.inj q);rw [decide_eq_false h,decide_eq_false e]
theorem zil (a:Int) (b:Str):decide ((Sum.inl a:yH)=Sum.inr b)=false:=decide_eq_false (fun q=>nomatch q)
theorem zik (a:Str) (b:Int):decide ((Sum.inr a:yH)=Sum.inl b)=false:=decide_eq_false (fun q=>nomatch q)
def xR (prog:Program) (w:World):PySem.KeyKind prog w yH where
 is:=pE
 hash:=keyH w
 inj:=fun v a b ha hb=>by
  rcases yA ha with ⟨i,t,rfl,rfl⟩|⟨x,t,rfl,rfl⟩
  .rcases yA hb with ⟨j,u,rfl,e⟩|⟨y,u,rfl,e⟩
   .injection e with e1 _;rw [e1]
   .exact nomatch e
  .rcases yA hb with ⟨j,u,rfl,e⟩|⟨y,u,rfl,e⟩
   .exact nomatch e
   .injection e with e1 _;rw [e1]
 byValue:=fun k v h=>by
  rcases yA h with ⟨i,t,rfl,rfl⟩|⟨x,t,rfl,rfl⟩<;>rfl
 pyHash:=fun hv h=>by
  rcases yA hv with ⟨i,t,rfl,rfl⟩|⟨x,t,rfl,rfl⟩
  .exact wpAny_pyHash_int h
  .exact wpAny_pyHash_str h
 eqBool:=fun hu hv h=>by
  rcases yA hu with ⟨i,t,rfl,rfl⟩|⟨x,t,rfl,rfl⟩
  .rcases yA hv with ⟨j,u,rfl,rfl⟩|⟨y,u,rfl,rfl⟩
   .rw [zim] at h;exact wpAny_eqBool_int h
   .rw [zil] at h;exact SeqAt.EqAt.int_str i t y u _ _ _ _ h
  .rcases yA hv with ⟨j,u,rfl,rfl⟩|⟨y,u,rfl,rfl⟩
   .rw [zik] at h;exact SeqAt.EqAt.str_int x t j u _ _ _ _ h
   .rw [zij] at h;exact wpAny_eqBool_str h
 «strs»:=fun k x t v h=>by
  rcases yA h with ⟨i,u,rfl,e⟩|⟨y,u,rfl,e⟩
  .exact nomatch e
  .injection e with e1 _
   subst e1;cases v<;>rfl
theorem zab (prog:Program) (w:World) (i:Int) (t:Tok):(xR prog w).is (.inl i) (.int i t)=true:=zbK i t
theorem zaa (prog:Program) (w:World) (x:Str) (t:Tok):(xR prog w).is (.inr x) (.str x t)=true:=zbI x t
end L2
namespace L2
open PySem PySem.Spec PyProof.Rows
inductive V where
 |non|bl (b:Bool)|int (i:Int)|str (x:Str)|byt (b:Array UInt8)|flt (b:UInt64)|ref (a:Addr)|ty (n:String)
 deriving DecidableEq
def zC:V->Value->Prop
 | .non,u=>u=Value.none
 | .bl b,u=>u=Value.bool b
 | .int i,u=>∃ t,u=Value.int i t
 | .str x,u=>∃ t,u=Value.str x t
 | .byt b,u=>∃ t,u=Value.bytes b t
 | .flt b,u=>∃ t,u=Value.float b t
 | .ref a,u=>u=Value.ref a
 | .ty n,u=>u=Value.type n
abbrev zF:List V->List Value->Prop:=Paired zC
theorem zF.length {xs:List V} {us:List Value} (r:zF xs us):xs.length=us.length:=Paired.length r
theorem zF.get:∀ {xs:List V} {us:List Value} {i:Nat} {x:V},zF xs us->xs[i]?=some x->∃ u,us[i]?=some u/\zC x u
 |_,_,_,_,.nil,e=>by simp at e
 |_,_,0,_,.cons r _,e=>by simp at e;subst e;exact ⟨_,rfl,r⟩
 |_,_,i+1,x,.cons _ t,e=>by
  obtain ⟨u,h1,h2⟩:=zF.get (i:=i) (x:=x) t (by simpa using e);exact ⟨u,by simpa using h1,h2⟩
theorem zF.set {x:V} {u:Value} (r:zC x u):∀ {xs:List V} {us:List Value} (i:Nat),zF xs us->zF (xs.set i x) (us.set i u)
 |_,_,_,.nil=>.nil
 |_,_,0,.cons _ t=>.cons r t
 |_,_,i+1,.cons q t=>.cons q (zF.set r i t)
theorem zF.append:∀ {xs ys:List V} {us ws:List Value},zF xs us->zF ys ws->zF (xs++ys) (us++ws)
 |_,_,_,_,.nil,s=>s
 |_,_,_,_,.cons r t,s=>.cons r (zF.append t s)
theorem zF.take:∀ {xs:List V} {us:List Value} (n:Nat),zF xs us->zF (xs.take n) (us.take n)
 |_,_,0,_=>.nil
 |_,_,_+1,.nil=>.nil
 |_,_,n+1,.cons r t=>.cons r (zF.take n t)
theorem zF.drop:∀ {xs:List V} {us:List Value} (n:Nat),zF xs us->zF (xs.drop n) (us.drop n)
 |_,_,0,r=>r
 |_,_,_+1,.nil=>.nil
 |_,_,n+1,.cons _ t=>zF.drop n t
theorem zF.none_of:∀ {xs:List V} {us:List Value} {i:Nat},zF xs us->xs[i]?=none->us[i]?=none:=fun {xs us i} r e=>by
 have h1:=r.length;have h2:xs.length<=i:=List.getElem?_eq_none_iff.mp e;exact List.getElem?_eq_none_iff.mpr (by omega)
def uW:Option V->Option Value->Prop
 |some v,some u=>zC v u
 |none,none=>True
 |_,_=>False
def KV {κ:Type}:List (κ×V)->List (κ×Value)->Prop:=Paired fun (p:κ×V) (q:κ×Value)=>p.1=q.1/\zC p.2 q.2
def kV:yH->V
 | .inl i=>.int i
 | .inr x=>.str x
inductive HO where
  |lst (xs:List V)
  |tup (xs:List V)
  |dK (kvs:List (yH×V))|dT (kvs:List (List yH×V))
  |set (S:Int->Bool) (n:Nat)
  |ins (C dx:Addr) (fs:List (Str×V))
  |own (x:Addr)
  |xd (fs:List (Str×V))
  |met (f x:Addr)
  |rng (lo hi:Int)
  |frz (o:Obj) (u:HO)
  |tbl (ps:Array Value)
  |ext (φ:Heap->Prop)
abbrev Hp:=Addr->Option HO
def yT (H:Hp) (a:Addr) (o:HO):Hp:=fun b=>if b=a then some o else H b
theorem yY {H:Hp} {a:Addr} {o:HO}:yT H a o a=some o:=by unfold yT;rw [if_pos rfl]
theorem zW {H:Hp} {a b:Addr} {o:HO} (h:b≠a):yT H a o b=H b:=by unfold yT;rw [if_neg h]
theorem zfa {H:Hp} {a:Addr} {o u:HO}:yT (yT H a o) a u=yT H a u:=by
 funext b;unfold yT;split<;>rfl
theorem ne_of {H:Hp} {a b:Addr} {o u:HO} (h:H a=some o) (h':H b=some u) (d:o≠u):a≠b:=by
 intro e;subst e;rw [h] at h';exact d (Option.some.inj h')
theorem yS {H:Hp} {a b:Addr} {o:HO} (h:H a=some o) (h':H b=none):a≠b:=by
 intro e;subst e;rw [h] at h';cases h'
section
variable (P : Program) (w : World)
def xU (H:Hp) (h:Heap) (a:Addr):HO->Prop
 | .lst xs=>xs.length<=sizeLine/\∃ (its:List Value) (n:Nat),zF xs its/\h.get? a=some { cls:=.type "list", data:=.seq its.toArray n }
 | .tup xs=>xs.length<=sizeLine/\∃ its:List Value,zF xs its/\IsTup h a its.toArray
 | .dK kvs=>kvs.length<=sizeLine/\(a==sysModules)=false/\∃ vs,KV kvs vs/\h.DictOf (xR P w) a vs
 | .dT kvs=>kvs.length<=sizeLine/\(a==sysModules)=false/\∃ xs:List (List yH×Addr×Value),
   Paired (fun (p:List yH×V) (q:List yH×Addr×Value)=>p.1=q.1/\H q.2.1=some (.tup (p.1.map kV))/\zC p.2 q.2.2) kvs xs /\
   ∃ o es ep,h.get? a=some o/\o.ExactDict/\o.data=.dict es ep/\es.toList=xs.map (entryOfKey (tupleKind (xR P w)))/\(xs.map (·.1)).Nodup
 | .set S n=>h.SetOf (intKind P w) a S n
 | .ins C dx fs=>H dx=some (.own a)/\fs.length<=1000/\dx≠a/\h.get? a=some (PySem.W.instObj C dx) /\
   ∃ mA,h.Ns1 dx mA/\(∀ f,uW (fs.lookup f) (mA f))/\PySem.Within mA (fs.map (·.1))
 | .own _=>∃ o,h.get? a=some o
 | .xd fs=>∃ mA,h.Ns1 a mA/\∀ f,uW (fs.lookup f) (mA f)
 | .rng lo hi=>∃ t u v,h.get? a=some { cls:=.type "range", data:=.fields #[.int lo t,.int hi u,.int 1 v] }
 | .frz o u=>h.get? a=some o/\xU H h a u
 | .tbl ps=>h.get? a=some { cls:=.none,data:=.fields ps }
 | .met f x=>h.get? a=some (PySem.W.methodObj (.ref f) (.ref x))
 | .ext φ=>φ h/\(∃ o,h.get? a=some o)/\∀ h1 h2:Heap,φ h1->(∀ o,h1.get? a=some o->h2.get? a=some o)->φ h2
def kK (H:Hp) (h:Heap):Prop:=∀ a o,H a=some o->xU P w H h a o
end
section
variable {P : Program} {w : World} {H H' : Hp} {h h' : Heap} {a : Addr} {o : HO}
theorem xU.lt (x:xU P w H h a o):a<h.objs.size:=by
 cases o with
 |lst xs=>obtain ⟨_,_,_,_,e⟩:=x;exact Heap.lt_size e
 |tup xs=>obtain ⟨_,_,_,p⟩:=x;exact p.lt
 |dK kvs=>obtain ⟨_,_,_,_,o,_,_,e,_⟩:=x;exact Heap.lt_size e
 |dT kvs=>obtain ⟨_,_,_,_,o,_,_,e,_⟩:=x;exact Heap.lt_size e
 |set S n=>obtain ⟨o,_,_,_,e,_⟩:=x;exact Heap.lt_size e
 |ins C dx fs=>obtain ⟨_,_,_,e,_⟩:=x;exact Heap.lt_size e
 |own y=>obtain ⟨_,e⟩:=x;exact Heap.lt_size e
 |xd fs=>obtain ⟨_,⟨_,_,_,e,_⟩,_⟩:=x;exact Heap.lt_size e
 |rng lo hi=>obtain ⟨_,_,_,e⟩:=x;exact Heap.lt_size e
 |frz ob u=>obtain ⟨e,_⟩:=x;exact Heap.lt_size e
 |tbl ps=>exact Heap.lt_size (show h.get? a=some _ from x)
 |met f y=>exact Heap.lt_size (show h.get? a=some _ from x)
 |ext φ=>obtain ⟨_,⟨_,e⟩,_⟩:=x;exact Heap.lt_size e
theorem Paired.mapP {α β:Type} {F G:α->β->Prop}:∀ {l₁:List α} {l₂:List β},Paired F l₁ l₂->(∀ a b,F a b->G a b)->Paired G l₁ l₂
 |_,_,.nil,_=>.nil
 |_,_,.cons r t,f=>.cons (f _ _ r) (Paired.mapP t f)
theorem xU.stay (x:xU P w H h a o) (k:∀ b u,(b=a\/H b=some (.own a))->h.get? b=some u->h'.get? b=some u)
  (ho:∀ b,H b=some (.own a)->H' b=some (.own a)) (ht:∀ b xs,H b=some (.tup xs)->H' b=some (.tup xs)):xU P w H' h' a o:=by
 induction o with
 |lst xs=>obtain ⟨z,its,n,r,e⟩:=x;exact ⟨z,its,n,r,k _ _ (.inl rfl) e⟩
 |tup xs=>obtain ⟨z,its,r,ob,e,c⟩:=x;exact ⟨z,its,r,ob,k _ _ (.inl rfl) e,c⟩
 |dK kvs=>obtain ⟨z,y,vs,r,ob,es,ep,e,c⟩:=x;exact ⟨z,y,vs,r,ob,es,ep,k _ _ (.inl rfl) e,c⟩
 |dT kvs =>
  obtain ⟨z,y,xs,r,ob,es,ep,e,c⟩:=x;exact ⟨z,y,xs,Paired.mapP r fun p q z=>⟨z.1,ht _ _ z.2.1,z.2.2⟩,ob,es,ep,k _ _ (.inl rfl) e,c⟩
 |set S n=>obtain ⟨ob,es,ep,t,e,c⟩:=x;exact ⟨ob,es,ep,t,k _ _ (.inl rfl) e,c⟩
 |ins C dx fs =>
  obtain ⟨d,z,ne,e,mA,⟨od,es,ep,e2,c⟩,r⟩:=x;exact ⟨ho _ d,z,ne,k _ _ (.inl rfl) e,mA,⟨od,es,ep,k _ _ (.inr d) e2,c⟩,r⟩
 |own y=>obtain ⟨ob,e⟩:=x;exact ⟨ob,k _ _ (.inl rfl) e⟩
 |xd fs=>obtain ⟨mA,⟨od,es,ep,e,c⟩,r⟩:=x;exact ⟨mA,⟨od,es,ep,k _ _ (.inl rfl) e,c⟩,r⟩
 |rng lo hi=>obtain ⟨t,u,v,e⟩:=x;exact ⟨t,u,v,k _ _ (.inl rfl) e⟩
 |frz ob u ih=>obtain ⟨e,q⟩:=x;exact ⟨k _ _ (.inl rfl) e,ih q⟩
 |tbl ps =>
  have e:h.get? a=some { cls:=.none,data:=.fields ps }:=x;show h'.get? a=some { cls:=.none,data:=.fields ps };exact k a _ (.inl rfl) e
 |met f y =>
  have e:h.get? a=some (PySem.W.methodObj (.ref f) (.ref y)):=x;show h'.get? a=some (PySem.W.methodObj (.ref f) (.ref y));exact k a _ (.inl rfl) e
 |ext φ=>obtain ⟨p,⟨o,e⟩,st⟩:=x;exact ⟨st _ _ p fun o q=>k _ _ (.inl rfl) q,⟨o,k _ _ (.inl rfl) e⟩,st⟩
theorem kK.lt (x:kK P w H h) (e:H a=some o):a<h.objs.size:=(x a o e).lt
theorem kK.fresh (x:kK P w H h) (e:h.objs.size<=a):H a=none:=by
 cases q:H a with
 |none=>rfl
 |some u=>exact absurd (Nat.lt_of_lt_of_le (x.lt q) e) (Nat.lt_irrefl _)
theorem kK.kept (x:kK P w H h) (k:∀ b u,h.get? b=some u->h'.get? b=some u):kK P w H h':=fun a o e =>
 (x a o e).stay (fun b u _ q=>k b u q) (fun _ q=>q) fun _ _ q=>q
theorem kK.laid (x:kK P w H h) (k:∀ b u,h.get? b=some u->h'.get? b=some u) (hp:h.objs.size<=a) (new:xU P w (yT H a o) h' a o):kK P w (yT H a o) h':=fun b u e=>by
 have hn:=x.fresh hp
 by_cases hb:b=a
 .subst hb;rw [yY] at e;cases e;exact new
 .rw [zW hb] at e;exact (x b u e).stay (fun c v _ q=>k c v q) (fun c q=>by rw [zW (yS q hn)];exact q) fun c xs q=>by rw [zW (yS q hn)];exact q
end
def Rd (H:Hp) (a:Addr) (u:HO):Prop:=H a=some u\/∃ o,H a=some (.frz o u)
theorem Rd.ok {P:Program} {w:World} {H:Hp} {h:Heap} {a:Addr} {u:HO} (r:Rd H a u) (x:kK P w H h):xU P w H h a u:=by
 rcases r with r|⟨o,r⟩
 .exact x a u r
 .obtain ⟨_,q⟩:=x a _ r;exact q
def Mut:Option HO->Prop
 |some (.lst _)=>True
 |some (.dK _)=>True
 |some (.dT _)=>True
 |some (.set _ _)=>True
 |some (.ins _ _ _)=>True
 |some (.ext _)=>True
 |_=>False
section
variable {P : Program} {w : World} {H : Hp} {h h' : Heap} {x e : Addr} {o' : HO}
theorem kK.write (ok:kK P w H h) (mu:Mut (H x)) (he:e=x\/H e=some (.own x)) (k:∀ b u,b≠e->h.get? b=some u->h'.get? b=some u) (heo:∃ u,h'.get? e=some u)
  (new:xU P w (yT H x o') h' x o'):kK P w (yT H x o') h':=fun b u q=>by
 have nown:∀ c y,H c=some (.own y)->c≠x:=fun c y r z=>by subst z;rw [r] at mu;exact mu
 have ntup:∀ c xs,H c=some (.tup xs)->c≠x:=fun c xs r z=>by subst z;rw [r] at mu;exact mu
 by_cases hb:b=x
 .subst hb;rw [yY] at q;cases q;exact new
 .rw [zW hb] at q
  by_cases hbe:b=e
  .have q':H b=some (.own x):=by
    rcases he with z|z
    .exact absurd (hbe.trans z) hb
    .rw [hbe];exact z
   rw [q] at q';cases q';obtain ⟨v,hv⟩:=heo;exact ⟨v,by rw [hbe];exact hv⟩
  .refine (ok b u q).stay (fun c v hc r=>k c v ?_ r) (fun c r=>by rw [zW (nown c b r)];exact r) fun c xs r=>by rw [zW (ntup c xs r)];exact r
   rcases hc with rfl|hc
   .exact hbe
   .rintro rfl;rcases he with z|z
    .exact nown c b hc z
    .rw [hc] at z;cases z;exact hb rfl
end
structure Un (fs ex:List Addr) (H H':Hp) (h h':Heap):Prop where
 keep:∀ b o,h.get? b=some o->H b=none->b∉fs->b∉ex->h'.get? b=some o
 slot:∀ b o,h.get? b=some o->H b=none->b∈fs->b∉ex->∃ sl,h'.get? b=some { o with slots:=sl }
 free:∀ b o,h.get? b=some o->H b=none->b∉ex->H' b=none
 there:∀ b o,h.get? b=some o->b∉ex->∃ o',h'.get? b=some o'
 tups:∀ b xs,H b=some (.tup xs)->H' b=some (.tup xs)
 frzs:∀ b o u,H b=some (.frz o u)->H' b=some (.frz o u)
 tbls:∀ b ps,H b=some (.tbl ps)->∃ jI,H' b=some (.tbl (ps++jI))
section
variable {fs fs' ex ex' : List Addr} {H H1 H2 : Hp} {h h1 h2 h' : Heap} {a x e : Addr} {o : HO}
theorem Un.any (u:Un fs ex H H1 h h1) {b:Addr} {ob:Obj} (q:h.get? b=some ob) (n:H b=none) (hx:b∉ex):∃ sl,h1.get? b=some { ob with slots:=sl }:=by
 by_cases hb:b∈fs
 .exact u.slot b ob q n hb hx
 .exact ⟨ob.slots,u.keep b ob q n hb hx⟩
theorem Un.kept (k:∀ b u,h.get? b=some u->h'.get? b=some u):Un fs ex H H h h' :=
 ⟨fun b ob q _ _ _=>k b ob q,fun b ob q _ _ _=>⟨ob.slots,k b ob q⟩,fun _ _ _ n _=>n,fun b ob q _=>⟨ob,k b ob q⟩,fun _ _ q=>q,fun _ _ _ q=>q,fun _ ps q=>⟨#[],by rw [q];simp⟩⟩
theorem Un.refl:Un fs ex H H h h:=Un.kept fun _ _ q=>q
theorem Un.laid (k:∀ b u,h.get? b=some u->h'.get? b=some u) (hp:h.objs.size<=a) (hn:H a=none):Un fs ex H (yT H a o) h h' where
 keep:=fun b u q _ _ _=>k b u q
 slot:=fun b u q _ _ _=>⟨u.slots,k b u q⟩
 free:=fun b u q n _=>by rw [zW (Nat.ne_of_lt (Nat.lt_of_lt_of_le (Heap.lt_size q) hp))];exact n
 there:=fun b u q _=>⟨u,k b u q⟩
 tups:=fun b xs q=>by rw [zW (yS q hn)];exact q
 frzs:=fun b u xs q=>by rw [zW (yS q hn)];exact q
 tbls:=fun b ps q=>⟨#[],by rw [zW (yS q hn),q];simp⟩
theorem Un.write (mu:Mut (H x)) (he:e=x\/H e=some (.own x)) (k:∀ b u,b≠e->h.get? b=some u->h'.get? b=some u) (heo:∃ u,h'.get? e=some u):Un fs ex H (yT H x o) h h':=by
 have hx:∀ b,H b=none->b≠x:=fun b n z=>by subst z;rw [n] at mu;exact mu
 have hb:∀ b,H b=none->b≠e:=fun b n z=>by
  subst z;rcases he with r|r
  .exact hx b n r
  .rw [n] at r;cases r
 have hm:∀ b u,H b=some u->¬ Mut (some u)->b≠x:=fun b u q nm z=>by subst z;rw [q] at mu;exact nm mu
 refine ⟨fun b u q n _ _=>k b u (hb b n) q,fun b u q n _ _=>⟨u.slots,k b u (hb b n) q⟩,fun b u q n _=>by rw [zW (hx b n)];exact n,fun b u q _=>?_,
  fun b xs q=>by rw [zW (hm b _ q fun z=>z)];exact q,fun b u xs q=>by rw [zW (hm b _ q fun z=>z)];exact q,fun b ps q=>⟨#[],by rw [zW (hm b _ q fun z=>z),q];simp⟩⟩
 by_cases hbe:b=e
 .subst hbe;exact heo
 .exact ⟨u,k b u hbe q⟩
end
def trk (h:Heap) (H:Hp):List Addr:=(List.range h.objs.size).filter fun a=>(H a).isSome
def dO (h:Heap) (H:Hp):Heap:=PySem.W.hideAll h (trk h H)
theorem zbS (h:Heap) (H:Hp):(dO h H).objs.size=h.objs.size:=PySem.W.hideAll_size _ _
theorem zdJ {h:Heap} {H:Hp} {b:Addr} {o:Obj} (e:h.get? b=some o) (n:H b=none):(dO h H).get? b=some o :=
 PySem.W.hideAll_get _ e fun hm=>by
  have q:(H b).isSome=true:=(List.mem_filter.mp hm).2;rw [n] at q;simp at q
theorem zfP {h:Heap} {H:Hp} {b:Addr} {o:Obj} (e:(dO h H).get? b=some o):h.get? b=some o/\H b=none:=by
 have e':h.get? b=some o:=PySem.W.of_hideAll (trk h H) e;refine ⟨e',?_⟩
 cases q:H b with
 |none=>rfl
 |some x =>
  have hm:b∈trk h H:=List.mem_filter.mpr ⟨List.mem_range.mpr (Heap.lt_size e'),by simp [q]⟩;have z:(dO h H).get? b=none:=PySem.W.hideAll_none (trk h H) hm;rw [z] at e;cases e
def zgQ (g h:Heap) (L:Addr):List (Addr×Obj):=(List.range h.objs.size).filterMap fun a=>if a=L\/(g.get? a).isSome=true then none else (h.get? a).map fun o=>(a,o)
def rest (g h:Heap) (L d:Addr):List (Addr×Obj):=(zgQ g h L).filter fun p=>decide (p.1≠d)
end L2
namespace L2
open PySem PySem.Spec PyProof.Rows
structure Mod (K:PySem.W.Frag) (mg:Str->Option Value) (base:Heap):Prop where
 kin:K.In base
 glob:base.Ns mainGlobals mg
 blt:∃ mb,base.Ns builtinsNs mb/\∀ x:Str,x ≠ "__name__" -> mb x=bootBuiltins x
 nolimit:base.NoLimit
structure Cx where
 prog:Program
 w:World
 K:PySem.W.Frag
 mg:Str->Option Value
 base:Heap
 A:Around
 N:List Str
 s₀:Shared
 H₀:Hp
 env:Env
 outer:List Env
 stack:List Env
 ex:List Addr
 fn:Str->Bool
 calm:Bool
 pn:List (Addr×Obj)
 xe:Value->Shared->Prop
def sC (l:List Env):List Addr:=l.filterMap (·.frame)
abbrev Cx.fs (X:Cx):List Addr:=sC X.outer
def Vis (sc:Scope) (x:Str):Prop:=sc.names.lookup x=some .local\/sc.names.lookup x=some .cell\/sc.names.lookup x=some .free
def Loc (sc:Scope) (x:Str):Prop:=sc.names.lookup x=some .local\/sc.names.lookup x=some .cell
def Look (env:Env) (h:Heap) (m:Str->Option Value) (x:Str) (u:Value):Prop :=
 (env.kindOf x=some .local/\m x=some u)\/((env.kindOf x=some .cell\/env.kindOf x=some .free)/\∃ c,env.cells.lookup x=some c/\h.IsCell c (some u))
structure Cx.Ok (X:Cx):Prop where
 mod:Mod X.K X.mg X.base
 kind:X.env.scope.kind=.function
 glob:X.env.globals=mainGlobals
 blt:X.env.builtins=builtinsNs
 above:X.s₀.heap.objs.size<=X.env.locals
 inj:∀ x y c,X.env.cells.lookup x=some c->X.env.cells.lookup y=some c->x=y
 has:∀ x,(X.env.kindOf x=some .cell\/X.env.kindOf x=some .free)->∃ c,X.env.cells.lookup x=some c
 cab:∀ x c,X.fn x=true->X.env.cells.lookup x=some c->X.s₀.heap.objs.size<=c
 hd:X.calm=true->X.A.handled=none
 frames:X.A.frames=some X.stack
 stk:X.stack=X.outer\/(X.stack=X.env::X.outer/\X.env.frame=some X.env.locals)
 exf:∀ b∈X.ex,b≠X.env.locals/\∀ x c,X.env.cells.lookup x=some c->c≠b
 bs:∀ b o,X.base.get? b=some o->X.s₀.heap.get? b=some o/\X.H₀ b=none
 bsz:X.base.objs.size<=X.s₀.heap.objs.size
 noex:∀ b o,X.base.get? b=some o->b∉X.ex
 exfs:∀ b∈X.ex,b∉X.fs
 funs:X.s₀.heap.FunFrames X.base X.outer
 frf:∀ b∈X.fs,X.H₀ b=none
structure Inv (X:Cx) (pins:List (Addr×Obj)) (σ:List (Option V)) (H:Hp) (s:Shared):Prop where
 ok:X.Ok
 os:s.os=X.s₀.os
 bare:AllBare s.gens
 base:Un X.fs X.ex X.H₀ H X.s₀.heap s.heap
 loc:∃ m,s.heap.Ns X.env.locals m/\∀ (i:Nat) (x:Str) (v:V),X.N[i]?=some x->σ[i]?=some (some v)->Vis X.env.scope x->∃ u,zC v u/\Look X.env s.heap m x u
 cell:∀ x c,X.env.cells.lookup x=some c->∃ v,s.heap.IsCell c v
 free:H X.env.locals=none
 freeC:∀ x c,X.env.cells.lookup x=some c->H c=none
 pin:∀ p∈X.pn++pins,s.heap.get? p.1=some p.2/\H p.1=none/\p.1≠X.env.locals/\p.1∉X.fs/\∀ v,p.2.data≠.cell v
 hok:kK X.prog X.w H s.heap
 len:σ.length=X.N.length
 tk:0<s.toks
section
variable {X : Cx} {pins : List (Addr × Obj)} {σ : List (Option V)} {H H' : Hp} {s : Shared} {h' : Heap}
theorem Cx.Ok.nofr (ok:X.Ok) {b:Addr} {o:Obj} (e:X.base.get? b=some o):b∉X.fs:=fun hb=>by
 have:=(ok.funs.mem hb).1;rw [e] at this;cases this
theorem Inv.bs (I:Inv X pins σ H s):∀ b o,X.base.get? b=some o->s.heap.get? b=some o/\H b=none:=fun b o e =>
 ⟨I.base.keep b o (I.ok.bs b o e).1 (I.ok.bs b o e).2 (I.ok.nofr e) (I.ok.noex b o e),I.base.free b o (I.ok.bs b o e).1 (I.ok.bs b o e).2 (I.ok.noex b o e)⟩
theorem Inv.bk (I:Inv X pins σ H s):∀ b o,X.base.get? b=some o->s.heap.get? b=some o:=fun b o e=>(I.bs b o e).1
theorem Inv.mod (I:Inv X pins σ H s):Mod X.K X.mg X.base:=I.ok.mod
theorem Inv.kIn (I:Inv X pins σ H s):X.K.In s.heap:=I.ok.mod.kin.keeps I.bk
theorem Inv.lt (I:Inv X pins σ H s):X.env.locals<s.heap.objs.size:=let ⟨_,hn,_⟩:=I.loc;hn.lt
theorem Inv.sz (I:Inv X pins σ H s):X.s₀.heap.objs.size<=s.heap.objs.size:=Nat.le_trans I.ok.above (Nat.le_of_lt I.lt)
theorem Inv.nofs (I:Inv X pins σ H s) {a:Addr} (h:s.heap.objs.size<=a):a∉X.fs:=fun hb=>by
 obtain ⟨_,o,ho,_⟩:=I.ok.funs.mem hb;exact absurd (Nat.lt_of_lt_of_le (Heap.lt_size ho) (Nat.le_trans I.sz h)) (Nat.lt_irrefl _)
theorem Inv.cne (I:Inv X pins σ H s):∀ x c,X.env.cells.lookup x=some c->c≠X.env.locals:=fun x c e z=>by
 obtain ⟨v,o,ho,hd⟩:=I.cell x c e;obtain ⟨m,⟨o',es,ep,ho',hd',_⟩,_⟩:=I.loc;rw [z,ho'] at ho;cases ho;rw [hd'] at hd;cases hd
theorem Inv.funs (I:Inv X pins σ H s):s.heap.FunFrames X.base X.outer:=by
 have all:∀ (l:List Env),(∀ b∈sC l,b∈X.fs)->X.s₀.heap.FunFrames X.base l->s.heap.FunFrames X.base l:=by
  intro l
  induction l with
  |nil=>intro _ _;trivial
  |cons env r ih =>
   intro hs hl;obtain ⟨hk,⟨L,o,hf,hn,ho,hd⟩,hr⟩:=hl;have hL:L∈X.fs:=hs L (by unfold sC;rw [List.filterMap_cons,hf];exact zzT);obtain ⟨sl,e⟩:=I.base.slot L o ho (I.ok.frf L hL) hL fun z=>I.ok.exfs L z hL;exact ⟨hk,⟨L,_,hf,hn,e,hd⟩,ih (fun b hb=>hs b (by unfold sC;rw [List.filterMap_cons,hf];exact List.mem_cons_of_mem _ hb)) hr⟩
 exact all X.outer (fun _ hb=>hb) I.ok.funs
theorem Inv.stack (I:Inv X pins σ H s):s.heap.FunFrames X.base X.stack:=by
 rcases I.ok.stk with e|⟨e,hf⟩
 .rw [e];exact I.funs
 .rw [e];obtain ⟨m,hn,_⟩:=I.loc;refine .cons (by rw [I.ok.kind];decide) hf hn ?_ I.funs;exact Heap.get?_none_of_le (Nat.le_trans I.ok.bsz I.ok.above)
theorem Inv.stkSub (I:Inv X pins σ H s):∀ b∈sC X.stack,b∈X.env.locals::X.fs:=fun b hb=>by
 rcases I.ok.stk with e|⟨e,hf⟩
 .rw [e] at hb;exact List.mem_cons_of_mem _ hb
 .rw [e] at hb;unfold sC at hb;rw [List.filterMap_cons,hf] at hb;exact hb
theorem Inv.stkFree (I:Inv X pins σ H s):∀ b∈sC X.stack,H b=none:=fun b hb=>by
 rcases List.mem_cons.mp (I.stkSub b hb) with e|hb
 .rw [e];exact I.free
 .obtain ⟨_,o,ho,_⟩:=I.ok.funs.mem hb;exact I.base.free b o ho (I.ok.frf b hb) fun z=>I.ok.exfs b z hb
theorem Inv.step {g':Array GenState} {t':Nat} {d':Drawn} {ch:List Addr} (I:Inv X pins σ H s)
  (hch:∀ b∈ch,(b∈X.ex\/X.s₀.heap.objs.size<=b)/\b≠X.env.locals/\(∀ x c,X.env.cells.lookup x=some c->c≠b)/\∀ p∈X.pn++pins,p.1≠b)
  (keep:∀ b o,b≠X.env.locals->b∉X.fs->b∉ch->s.heap.get? b=some o->H b=none->h'.get? b=some o)
  (slot:∀ b o,b≠X.env.locals->b∈X.fs->b∉ch->s.heap.get? b=some o->H b=none->∃ sl,h'.get? b=some { o with slots:=sl }) (free:∀ b o,b∉ch->s.heap.get? b=some o->H b=none->H' b=none)
  (there:∀ b o,b∉ch->s.heap.get? b=some o->∃ o',h'.get? b=some o')
  (tups:∀ b xs,H b=some (.tup xs)->H' b=some (.tup xs)) (frzs:∀ b o u,H b=some (.frz o u)->H' b=some (.frz o u)) (tbls:∀ b ps,H b=some (.tbl ps)->∃ jI,H' b=some (.tbl (ps++jI)))
  (ns:∀ m,s.heap.Ns X.env.locals m->h'.Ns X.env.locals m) (hok:kK X.prog X.w H' h') (hg:AllBare g') (ht:0<t':=by first|exact Nat.succ_pos _|exact L2.Inv.tk (by assumption)|exact L2.Inv.tk ‹L2.Inv _ _ _ _ _› | assumption|omega) :
  Inv X pins σ H' { s with heap:=h',gens:=g',drawn:=d',toks:=t' }:=by
 have neL:∀ b o,X.s₀.heap.get? b=some o->b≠X.env.locals:=fun b o e=>Nat.ne_of_lt (Nat.lt_of_lt_of_le (Heap.lt_size e) I.ok.above)
 have neC:∀ b o,X.s₀.heap.get? b=some o->b∉X.ex->b∉ch:=fun b o e hx hb=>by
  rcases (hch b hb).1 with z|z
  .exact hx z
  .exact absurd (Nat.lt_of_lt_of_le (Heap.lt_size e) z) (Nat.lt_irrefl _)
 have cellK:∀ x c,X.env.cells.lookup x=some c->∀ v,s.heap.IsCell c v->h'.IsCell c v:=fun x c e v ⟨o,ho,hd⟩=>by
  have nch:c∉ch:=fun z=>(hch c z).2.2.1 x c e rfl
  by_cases hc:c∈X.fs
  .obtain ⟨sl,q⟩:=slot c o (I.cne x c e) hc nch ho (I.freeC x c e);exact ⟨_,q,hd⟩
  .exact ⟨o,keep c o (I.cne x c e) hc nch ho (I.freeC x c e),hd⟩
 refine ⟨I.ok,I.os,hg,⟨fun b o e n hb hx=>?_,fun b o e n hb hx=>?_,fun b o e n hx=>?_,fun b o e hx=>?_,fun b xs e=>tups b xs (I.base.tups b xs e),fun b o xs e=>frzs b o xs (I.base.frzs b o xs e),fun b ps e=>?_⟩,?_,fun x c e=>?_,?_,fun x c e=>?_,fun p hp=>?_,hok,I.len,ht⟩
 .exact keep b o (neL b o e) hb (neC b o e hx) (I.base.keep b o e n hb hx) (I.base.free b o e n hx)
 .obtain ⟨sl,e1⟩:=I.base.slot b o e n hb hx;obtain ⟨sl',e2⟩:=slot b _ (neL b o e) hb (neC b o e hx) e1 (I.base.free b o e n hx);exact ⟨sl',e2⟩
 .obtain ⟨o',e1⟩:=I.base.there b o e hx;exact free b o' (neC b o e hx) e1 (I.base.free b o e n hx)
 .obtain ⟨o',e1⟩:=I.base.there b o e hx;exact there b o' (neC b o e hx) e1
 .obtain ⟨m1,e1⟩:=I.base.tbls b ps e;obtain ⟨m2,e2⟩:=tbls b _ e1;exact ⟨m1++m2,by rw [e2,Array.append_assoc]⟩
 .obtain ⟨m,hn,hl⟩:=I.loc;refine ⟨m,ns m hn,fun i x v e1 e2 e3=>?_⟩;obtain ⟨u,r,l⟩:=hl i x v e1 e2 e3;refine ⟨u,r,?_⟩;rcases l with l|⟨k,c,e,z⟩
  .exact .inl l
  .exact .inr ⟨k,c,e,cellK x c e _ z⟩
 .obtain ⟨v,z⟩:=I.cell x c e;exact ⟨v,cellK x c e v z⟩
 .obtain ⟨m,⟨o,_,_,ho,_⟩,_⟩:=I.loc;exact free _ o (fun z=>(hch _ z).2.1 rfl) ho I.free
 .obtain ⟨v,o,ho,hd⟩:=I.cell x c e;exact free c o (fun z=>(hch c z).2.2.1 x c e rfl) ho (I.freeC x c e)
 .obtain ⟨e,n,ne,nf,d⟩:=I.pin p hp;have nch:p.1∉ch:=fun z=>(hch p.1 z).2.2.2 p hp rfl;exact ⟨keep p.1 p.2 ne nf nch e n,free p.1 p.2 nch e n,ne,nf,d⟩
theorem Inv.un {t':Nat} (I:Inv X pins σ H s) (u:Un X.fs [] H H' s.heap h') (hok:kK X.prog X.w H' h') (ht:0<t':=by first|exact Nat.succ_pos _|exact L2.Inv.tk (by assumption)|exact L2.Inv.tk ‹L2.Inv _ _ _ _ _› | assumption|omega):Inv X pins σ H' { s with heap:=h',toks:=t' }:=by
 obtain ⟨m,⟨o,es,ep,ho,r⟩,_⟩:=id I.loc;obtain ⟨sl,hL⟩:=u.any ho I.free (by simp)
 exact I.step (g':=s.gens) (d':=s.drawn) (ch:=[]) (fun _ z=>nomatch z) (fun b o _ hb _ e n=>u.keep b o e n hb (by simp)) (fun b o _ hb _ e n=>u.slot b o e n hb (by simp)) (fun b o _ e n=>u.free b o e n (by simp)) (fun b o _ e=>u.there b o e (by simp)) u.tups u.frzs u.tbls (fun m' hm=>by
  obtain ⟨o',es',ep',ho',r'⟩:=hm;rw [ho] at ho';cases ho';exact ⟨_,es',ep',hL,r'⟩) hok I.bare
theorem Inv.call {g':Array GenState} {t':Nat} {d':Drawn} {ch:List Addr} (I:Inv X pins σ H s) (u:Un (sC X.stack) ch H H' s.heap h') (hok:kK X.prog X.w H' h') (hg:AllBare g')
  (hch:∀ b∈ch,(b∈X.ex\/X.s₀.heap.objs.size<=b)/\b≠X.env.locals/\(∀ x c,X.env.cells.lookup x=some c->c≠b)/\∀ p∈X.pn++pins,p.1≠b) (ht:0<t':=by first|exact Nat.succ_pos _|exact L2.Inv.tk (by assumption)|exact L2.Inv.tk ‹L2.Inv _ _ _ _ _› | assumption|omega) :
  Inv X pins σ H' { s with heap:=h',gens:=g',drawn:=d',toks:=t' }:=by
 obtain ⟨m,⟨o,es,ep,ho,r⟩,_⟩:=id I.loc;obtain ⟨sl,hL⟩:=u.any ho I.free fun z=>(hch _ z).2.1 rfl
 exact I.step (ch:=ch) hch (fun b o hL hb hc e n=>u.keep b o e n (fun z=>(List.mem_cons.mp (I.stkSub b z)).elim hL hb) hc) (fun b o _ _ hc e n=>u.any e n hc) (fun b o hc e n=>u.free b o e n hc) (fun b o hc e=>u.there b o e hc) u.tups u.frzs u.tbls (fun m' hm=>by
  obtain ⟨o',es',ep',ho',r'⟩:=hm;rw [ho] at ho';cases ho';exact ⟨_,es',ep',hL,r'⟩) hok hg
theorem Inv.turned {t':Nat} {it:Addr} (I:Inv X pins σ H s) (k:∀ b o,b≠it->s.heap.get? b=some o->h'.get? b=some o) (hn:H it=none) (hL:it≠X.env.locals)
  (h1:it∈X.ex\/X.s₀.heap.objs.size<=it) (h2:∀ x c,X.env.cells.lookup x=some c->c≠it) (h3:∀ p∈X.pn++pins,p.1≠it) (ht:0<t':=by first|exact Nat.succ_pos _|exact L2.Inv.tk (by assumption)|exact L2.Inv.tk ‹L2.Inv _ _ _ _ _› | assumption|omega):Inv X pins σ H { s with heap:=h',toks:=t' }:=by
 have nit:∀ b u,H b=some u->b≠it:=fun b u e z=>by rw [z,hn] at e;cases e
 refine I.step (g':=s.gens) (d':=s.drawn) (ch:=[it]) (fun b hb=>?_) (fun b o _ _ hc e _=>k b o (fun z=>hc (by simp [z])) e) (fun b o _ _ hc e _=>⟨o.slots,k b o (fun z=>hc (by simp [z])) e⟩) (fun _ _ _ _ n=>n)
  (fun b o hc e=>⟨o,k b o (fun z=>hc (by simp [z])) e⟩) (fun _ _ e=>e) (fun _ _ _ e=>e) (fun b ps e=>⟨#[],by rw [e];simp⟩) (fun m hm=>?_) (fun b u e=>?_) I.bare
 .have e:b=it:=by simpa using hb
  subst e;exact ⟨h1,hL,h2,h3⟩
 .obtain ⟨o,es,ep,ho,r⟩:=hm;exact ⟨o,es,ep,k _ o (Ne.symm hL) ho,r⟩
 .refine (I.hok b u e).stay (fun c v hc q=>k c v ?_ q) (fun _ q=>q) fun _ _ q=>q;rcases hc with z|z
  .rw [z];exact nit b u e
  .exact nit c _ z
theorem Inv.tok (I:Inv X pins σ H s) (t:Nat) (ht:0<t:=by first|exact Nat.succ_pos _|exact L2.Inv.tk (by assumption)|exact L2.Inv.tk ‹L2.Inv _ _ _ _ _› | assumption|omega):Inv X pins σ H { s with toks:=t }:=I.un (h':=s.heap) (t':=t) Un.refl I.hok
theorem Inv.kept {t':Nat} (I:Inv X pins σ H s) (k:∀ b u,s.heap.get? b=some u->h'.get? b=some u) (ht:0<t':=by first|exact Nat.succ_pos _|exact L2.Inv.tk (by assumption)|exact L2.Inv.tk ‹L2.Inv _ _ _ _ _› | assumption|omega):Inv X pins σ H { s with heap:=h',toks:=t' }:=I.un (Un.kept k) (I.hok.kept k)
theorem Inv.laid {a:Addr} {o:HO} {t':Nat} (I:Inv X pins σ H s) (k:∀ b u,s.heap.get? b=some u->h'.get? b=some u) (hp:s.heap.objs.size<=a) (new:xU X.prog X.w (yT H a o) h' a o) (ht:0<t':=by first|exact Nat.succ_pos _|exact L2.Inv.tk (by assumption)|exact L2.Inv.tk ‹L2.Inv _ _ _ _ _› | assumption|omega) :
  Inv X pins σ (yT H a o) { s with heap:=h',toks:=t' }:=I.un (Un.laid k hp (I.hok.fresh hp)) (I.hok.laid k hp new)
theorem Inv.write {x e:Addr} {o:HO} {t':Nat} (I:Inv X pins σ H s) (mu:Mut (H x)) (he:e=x\/H e=some (.own x)) (k:∀ b u,b≠e->s.heap.get? b=some u->h'.get? b=some u) (heo:∃ u,h'.get? e=some u)
  (new:xU X.prog X.w (yT H x o) h' x o) (ht:0<t':=by first|exact Nat.succ_pos _|exact L2.Inv.tk (by assumption)|exact L2.Inv.tk ‹L2.Inv _ _ _ _ _› | assumption|omega):Inv X pins σ (yT H x o) { s with heap:=h',toks:=t' }:=I.un (Un.write mu he k heo) (I.hok.write mu he k heo new)
theorem Inv.pins_of {pins':List (Addr×Obj)} (I:Inv X pins σ H s) (h:∀ p∈pins',s.heap.get? p.1=some p.2/\H p.1=none/\p.1≠X.env.locals/\p.1∉X.fs/\∀ v,p.2.data≠.cell v):Inv X pins' σ H s :=
 ⟨I.ok,I.os,I.bare,I.base,I.loc,I.cell,I.free,I.freeC,fun p hp=>(List.mem_append.mp hp).elim (fun z=>I.pin p (List.mem_append_left _ z)) (h p),I.hok,I.len,I.tk⟩
theorem pU {N:List Str} (hN:N.Nodup) {i j:Nat} {x:Str} (a:N[i]?=some x) (b:N[j]?=some x):i=j:=by
 obtain ⟨h1,e1⟩:=List.getElem?_eq_some_iff.mp a;obtain ⟨h2,e2⟩:=List.getElem?_eq_some_iff.mp b;exact (List.getElem_inj hN).mp (e1.trans e2.symm)
theorem hW {M:Model} {A:Around} {E:Value->Shared->Prop} {i:Nat} {x:Str} {v:V} {u:Value} {Q:Unit->Shared->Prop} (I:Inv X pins σ H s) (hN:X.N.Nodup) (hi:X.N[i]?=some x) (hx:Loc X.env.scope x) (r:zC v u)
  (h:∀ s',Inv X pins (σ.set i (some v)) H s'->(∃ a,Heap.SameBut a s.heap s'.heap/\(a=X.env.locals\/X.env.cells.lookup x=some a))->Q () s') (hf:X.fn x=true\/X.env.scope.names.lookup x=some .local:=by first|exact .inl rfl|exact .inr rfl|assumption):wpAny M A (storeName X.env x u) Q E s:=by
 obtain ⟨m,hn,hl⟩:=id I.loc;have hcls:(X.env.scope.kind==.class || (X.env.scope.kind==.module&&X.env.locals != X.env.globals))=false:=by rw [I.ok.kind];rfl
 have hiσ:i<σ.length:=by rw [I.len];exact (List.getElem?_eq_some_iff.mp hi).1
 have cne:=I.cne
 have tracked:∀ {a:Addr} {h':Heap},(∃ o,s.heap.get? a=some o/\H a=none)->Heap.SameBut a s.heap h'->kK X.prog X.w H h':=fun {a h'} ha hs b ob e=>by
  obtain ⟨_,_,hfree⟩:=ha;refine (I.hok b ob e).stay (fun c w' hc q=>(hs.2 c ?_).trans q) (fun _ q=>q) fun _ _ q=>q;rintro rfl;rcases hc with rfl|hc
  .rw [hfree] at e;cases e
  .rw [hfree] at hc;cases hc
 rcases hx with hk|hk
 .refine wpAny_storeName_local hk hn (fun h' hn' hs=>?_) hcls;obtain ⟨oL,_,_,hoL,_⟩:=id hn;refine h _ ⟨I.ok,I.os,I.bare,⟨fun b o e n hb hx=>?_,fun b o e n hb hx=>?_,I.base.free,fun b o e hx=>?_,I.base.tups,I.base.frzs,I.base.tbls⟩,⟨_,hn',fun j y v' e1 e2 e3=>?_⟩,fun y c e=>?_,I.free,I.freeC,fun p hp=>?_,tracked ⟨oL,hoL,I.free⟩ hs,by simpa using I.len,Nat.succ_pos _⟩ ⟨_,hs,.inl rfl⟩
  .exact (hs.2 b (Nat.ne_of_lt (Nat.lt_of_lt_of_le (Heap.lt_size e) I.ok.above))).trans (I.base.keep b o e n hb hx)
  .obtain ⟨sl,e1⟩:=I.base.slot b o e n hb hx;exact ⟨sl,(hs.2 b (Nat.ne_of_lt (Nat.lt_of_lt_of_le (Heap.lt_size e) I.ok.above))).trans e1⟩
  .obtain ⟨o',e1⟩:=I.base.there b o e hx;exact ⟨o',(hs.2 b (Nat.ne_of_lt (Nat.lt_of_lt_of_le (Heap.lt_size e) I.ok.above))).trans e1⟩
  .by_cases hj:j=i
   .subst hj;rw [hi] at e1;cases e1;rw [List.getElem?_set_self hiσ] at e2;cases e2;exact ⟨u,r,.inl ⟨hk,by simp⟩⟩
   .rw [List.getElem?_set_ne (Ne.symm hj)] at e2;obtain ⟨u',r',q⟩:=hl j y v' e1 e2 e3;refine ⟨u',r',?_⟩;rcases q with ⟨k,e⟩|⟨k,c,e,z⟩
    .refine .inl ⟨k,?_⟩;have:y≠x:=fun e=>hj (pU hN e1 (e▸hi));simp [this,e]
    .exact .inr ⟨k,c,e,z.sameBut hs (cne y c e)⟩
  .obtain ⟨w',z⟩:=I.cell y c e;exact ⟨w',z.sameBut hs (cne y c e)⟩
  .obtain ⟨e,n,ne,nf,d⟩:=I.pin p hp;exact ⟨(hs.2 p.1 ne).trans e,n,ne,nf,d⟩
 .have hfn:X.fn x=true:=by
   rcases hf with z|z
   .exact z
   .rw [z] at hk;cases hk
  obtain ⟨c,hc⟩:=I.ok.has x (.inl hk);obtain ⟨w',z⟩:=I.cell x c hc;refine wpAny_storeName_cell I.ok.kind hk hc z (fun h' hc' hs=>?_);obtain ⟨oc,hoc,hocd⟩:=id z;refine h { s with heap:=h' } ⟨I.ok,I.os,I.bare,⟨fun b o e n hb hx=>?_,fun b o e n hb hx=>?_,I.base.free,fun b o e hx=>?_,I.base.tups,I.base.frzs,I.base.tbls⟩,⟨m,hn.sameBut hs (Ne.symm (cne x c hc)),fun j y v' e1 e2 e3=>?_⟩,fun y c' e=>?_,I.free,I.freeC,fun p hp=>?_,tracked ⟨oc,hoc,I.freeC x c hc⟩ hs,by simpa using I.len,I.tk⟩ ⟨c,hs,.inr hc⟩
  .exact (hs.2 b (Nat.ne_of_lt (Nat.lt_of_lt_of_le (Heap.lt_size e) (I.ok.cab x c hfn hc)))).trans (I.base.keep b o e n hb hx)
  .obtain ⟨sl,e1⟩:=I.base.slot b o e n hb hx;exact ⟨sl,(hs.2 b (Nat.ne_of_lt (Nat.lt_of_lt_of_le (Heap.lt_size e) (I.ok.cab x c hfn hc)))).trans e1⟩
  .obtain ⟨o',e1⟩:=I.base.there b o e hx;exact ⟨o',(hs.2 b (Nat.ne_of_lt (Nat.lt_of_lt_of_le (Heap.lt_size e) (I.ok.cab x c hfn hc)))).trans e1⟩
  .by_cases hj:j=i
   .subst hj;rw [hi] at e1;cases e1;rw [List.getElem?_set_self hiσ] at e2;cases e2;exact ⟨u,r,.inr ⟨.inl hk,c,hc,hc'⟩⟩
   .rw [List.getElem?_set_ne (Ne.symm hj)] at e2;obtain ⟨u',r',q⟩:=hl j y v' e1 e2 e3;refine ⟨u',r',?_⟩;rcases q with q|⟨k,c',e,z'⟩
    .exact .inl q
    .refine .inr ⟨k,c',e,z'.sameBut hs ?_⟩;rintro rfl;exact hj (pU hN e1 (I.ok.inj _ _ _ e hc▸hi))
  .by_cases hcc:c'=c
   .subst hcc;exact ⟨_,hc'⟩
   .obtain ⟨w2,z2⟩:=I.cell y c' e;exact ⟨w2,z2.sameBut hs hcc⟩
  .obtain ⟨e,n,ne,nf,d⟩:=I.pin p hp;refine ⟨(hs.2 p.1 ?_).trans e,n,ne,nf,d⟩;intro q;rw [q,hoc] at e;have q':oc=p.2:=Option.some.inj e;exact d w' (by rw [← q'];exact hocd)
theorem rG {M:Model} {A:Around} {E:Value->Shared->Prop} {i:Nat} {x:Str} {v:V} {u:Value} {Q:Unit->Shared->Prop} (I:Inv X pins σ H s) (hN:X.N.Nodup) (hi:X.N[i]?=some x) (hx:Loc X.env.scope x) (r:zC v u)
  (h:∀ s',Inv X pins (σ.set i (some v)) H s'->Q () s') (hf:X.fn x=true\/X.env.scope.names.lookup x=some .local:=by first|exact .inl rfl|exact .inr rfl|assumption):wpAny M A (storeName X.env x u) Q E s :=
 hW I hN hi hx r (fun s' I' _=>h s' I') hf
theorem Inv.call' {s':Shared} {ch:List Addr} (I:Inv X pins σ H s) (ho:s'.os=s.os) (u:Un (sC X.stack) ch H H' s.heap s'.heap) (hok:kK X.prog X.w H' s'.heap) (hg:AllBare s'.gens)
  (hch:∀ b∈ch,(b∈X.ex\/X.s₀.heap.objs.size<=b)/\b≠X.env.locals/\(∀ x c,X.env.cells.lookup x=some c->c≠b)/\∀ p∈X.pn++pins,p.1≠b) (ht:0<s'.toks):Inv X pins σ H' s':=by
 obtain ⟨h',g',d',t',o'⟩:=s';have e:o'=s.os:=ho;subst e;exact I.call (g':=g') (t':=t') (d':=d') u hok hg hch
end
abbrev XK:=Value->Option Addr->Hp->Prop
abbrev St:=List (Option V)
abbrev VK:=V->Hp->Prop
abbrev TE:=St->Hp->VK->Prop
abbrev TT:=St->Hp->(Bool->Hp->Prop)->Prop
abbrev TA:=St->Hp->(List V->Hp->Prop)->Prop
structure Ends where
 nx:St->Hp->Prop
 rt:VK
 bk:St->Hp->Prop:=fun _ _=>False
 ct:St->Hp->Prop:=fun _ _=>False
abbrev TS:=Ends->St->Hp->Prop
def EP (X:Cx) (pins:List (Addr×Obj)) (σ:St) (Q:VK) (u:Value) (s':Shared):Prop:=∃ v H',Inv X pins σ H' s'/\zC v u/\Q v H'
def TP (X:Cx) (pins:List (Addr×Obj)) (σ:St) (Q:Bool->Hp->Prop) (b:Bool) (s':Shared):Prop:=∃ H',Inv X pins σ H' s'/\Q b H'
def AP (X:Cx) (pins:List (Addr×Obj)) (σ:St) (Q:List V->Hp->Prop) (us:List Value) (s':Shared):Prop:=∃ vs H',Inv X pins σ H' s'/\zF vs us/\Q vs H'
def SP (X:Cx) (pins:List (Addr×Obj)) (D:Ends) (f:Flow) (s':Shared):Prop :=
 match f with
 | .next=>∃ σ' H',Inv X pins σ' H' s'/\D.nx σ' H'
 | .brk=>∃ σ' H',Inv X pins σ' H' s'/\D.bk σ' H'
 | .cont=>∃ σ' H',Inv X pins σ' H' s'/\D.ct σ' H'
 | .ret u=>∃ v σ' H',Inv X pins σ' H' s'/\zC v u/\D.rt v H'
def PE (X:Cx) (e:Expr) (t:TE):Prop :=
 ∀ (pins:List (Addr×Obj)) (s:Shared) (σ:St) (H:Hp) (Q:VK),Inv X pins σ H s->t σ H Q->wpAny (model X.prog X.w) X.A (eval e X.env) (EP X pins σ Q) X.xe s
def PT (X:Cx) (e:Expr) (t:TT):Prop :=
 ∀ (pins:List (Addr×Obj)) (s:Shared) (σ:St) (H:Hp) (Q:Bool->Hp->Prop),Inv X pins σ H s->t σ H Q->wpAny (model X.prog X.w) X.A (isTrue e X.env (eval e X.env)) (TP X pins σ Q) X.xe s
def PW (X:Cx) (e:Expr) (t:TT):Prop :=
 ∀ (whole:Sem Value) (pins:List (Addr×Obj)) (s:Shared) (σ:St) (H:Hp) (Q:Bool->Hp->Prop),Inv X pins σ H s->t σ H Q->wpAny (model X.prog X.w) X.A (isTrue e X.env whole) (TP X pins σ Q) X.xe s
theorem PW.pt {X:Cx} {e:Expr} {t:TT} (h:PW X e t):PT X e t:=h _
def PA (X:Cx) (es:List Expr) (t:TA):Prop :=
 ∀ (pos:Pos) (pins:List (Addr×Obj)) (s:Shared) (σ:St) (H:Hp) (Q:List V->Hp->Prop),Inv X pins σ H s->t σ H Q->wpAny (model X.prog X.w) X.A (spliced (backTo pos (starEach es X.env))) (AP X pins σ Q) X.xe s
def PS (X:Cx) (st:Stmt) (t:TS):Prop :=
 ∀ (pins:List (Addr×Obj)) (s:Shared) (σ:St) (H:Hp) (D:Ends),Inv X pins σ H s->t D σ H->wpAny (model X.prog X.w) X.A (exec st X.env) (SP X pins D) X.xe s
def nF (X:Cx) (st:List Stmt) (t:TS):Prop :=
 ∀ (pins:List (Addr×Obj)) (s:Shared) (σ:St) (H:Hp) (D:Ends),Inv X pins σ H s->t D σ H->wpAny (model X.prog X.w) X.A (execs st X.env) (SP X pins D) X.xe s
theorem yI {α:Type} {t:Sem α} {Q Q':α->Shared->Prop} {M:Model} {A:Around} {E:Value->Shared->Prop} {s:Shared} (h:wpAny M A t Q E s) (hQ:∀ a s,Q a s->Q' a s):wpAny M A t Q' E s:=wpAny_mono h hQ fun _ _ x=>x
end L2
namespace L2
open PySem PySem.Spec PyProof.Rows
section
variable {X : Cx}
theorem bin {a b:Expr} {ta tb:TE} (ha:PE X a ta) (hb:PE X b tb) {pins:List (Addr×Obj)} {s:Shared} {σ:St} {H:Hp} {R:V->V->Hp->Prop} (I:Inv X pins σ H s) (h:ta σ H fun x H1=>tb σ H1 fun y H2=>R x y H2)
  {α:Type} {Q:α->Shared->Prop} {f:Value->Value->Sem α}
  (hf:∀ v u s2 x y H2,Inv X pins σ H2 s2->zC x v->zC y u->R x y H2->wpAny (model X.prog X.w) X.A (f v u) Q X.xe s2) :
  wpAny (model X.prog X.w) X.A (eval a X.env) (fun v s₁=>wpAny (model X.prog X.w) X.A (eval b X.env) (fun u s₂=>wpAny (model X.prog X.w) X.A (f v u) Q X.xe s₂) X.xe s₁) X.xe s:=by
 refine yI (ha pins s σ H _ I h) fun v s1 ⟨x,H1,I1,r1,q1⟩=>?_;refine yI (hb pins s1 σ H1 _ I1 q1) fun u s2 ⟨y,H2,I2,r2,q2⟩=>?_;exact hf v u s2 x y H2 I2 r1 r2 q2
def tVar (i:Nat):TE:=fun σ H Q=>∃ v,σ[i]?=some (some v)/\Q v H
def tC (v:V):TE:=fun _ H Q=>Q v H
theorem fB {i:Nat} {x:Str} {pos:Pos} (hN:X.N[i]?=some x) (hv:Vis X.env.scope x) (hd:(x==("__debug__" : Str))=false:=by decide) (hcd:(x==("__classdict__" : Str))=false:=by decide):PE X (.Name x pos) (tVar i):=by
 intro pins s σ H Q I h;obtain ⟨v,e,h⟩:=h;obtain ⟨m,hn,hl⟩:=I.loc;obtain ⟨u,r,l⟩:=hl i x v hN e hv;have fin:EP X pins σ Q u s:=⟨v,H,I,r,h⟩;rcases l with ⟨hk,hm⟩|⟨hk,c,hc,hcell⟩
 .exact wpAny_Name (wpAny_loadName_local I.ok.kind hk hn hm fin) hd
 .rcases hk with hk|hk
  .exact wpAny_Name (wpAny_loadName_cell I.ok.kind hk hc hcell fin) hd
  .exact wpAny_Name (wpAny_loadName_free I.ok.kind hk hc hcell fin hcd) hd
theorem zhP {i j pos}:PE X (.Constant (.int i) j pos) (tC (.int i)):=fun _ _ _ H _ I h=>wpAny_Constant_int ⟨.int i,H,I.tok _,⟨_,rfl⟩,h⟩
theorem pe_bl {b j pos}:PE X (.Constant (.bool b) j pos) (tC (.bl b)):=fun _ _ _ H _ I h=>Constant_bool ⟨.bl b,H,I,rfl,h⟩
theorem zhN {j pos}:PE X (.Constant .none j pos) (tC .non):=fun _ _ _ H _ I h=>Constant_none ⟨.non,H,I,rfl,h⟩
theorem zeu {x j pos}:PE X (.Constant (.str x) j pos) (tC (.str x)):=fun _ _ _ H _ I h=>Calls.Constant_str ⟨.str x,H,I.tok _,⟨_,rfl⟩,h⟩
def Gl (X:Cx) (x:Str):Prop:=X.env.kindOf x=some .globalImplicit
theorem jY {E:Value->Shared->Prop} {pins:List (Addr×Obj)} {s:Shared} {σ:St} {H:Hp} {x:Str} {u:Value} {pos:Pos} {Q:Value->Shared->Prop} (I:Inv X pins σ H s) (hg:Gl X x) (hm:X.mg x=some u) (h:Q u s)
  (hd:(x==("__debug__" : Str))=false:=by decide):wpAny (model X.prog X.w) X.A (eval (.Name x pos) X.env) Q E s :=
 Calls.Name_function_global I.ok.kind hg (Calls.loadGlobal_global (by rw [I.ok.glob];exact I.mod.glob.keeps I.bk) hm h) hd
theorem kB {E:Value->Shared->Prop} {pins:List (Addr×Obj)} {s:Shared} {σ:St} {H:Hp} {x:Str} {u:Value} {pos:Pos} {Q:Value->Shared->Prop} (I:Inv X pins σ H s) (hg:Gl X x) (hm:X.mg x=none) (hv:bootBuiltins x=some u) (h:Q u s)
  (hn:x ≠ "__name__" := by decide) (hd:(x==("__debug__" : Str))=false:=by decide):wpAny (model X.prog X.w) X.A (eval (.Name x pos) X.env) Q E s:=by
 obtain ⟨mb,h1,h2⟩:=I.mod.blt;exact Calls.Name_function_global I.ok.kind hg (Calls.loadGlobal_builtin (by rw [I.ok.glob];exact I.mod.glob.keeps I.bk) hm (by rw [I.ok.blt];exact h1.keeps I.bk) ((h2 x hn).trans hv) h) hd
theorem zfE {x:Str} {v:V} {u:Value} {pos:Pos} (hg:Gl X x) (hm:X.mg x=some u) (r:zC v u) (hd:(x==("__debug__" : Str))=false:=by decide):PE X (.Name x pos) (tC v) :=
 fun _ _ _ H _ I h=>jY I hg hm ⟨v,H,I,r,h⟩ hd
theorem zfJ {x:Str} {v:V} {u:Value} {pos:Pos} (hg:Gl X x) (hm:X.mg x=none) (hv:bootBuiltins x=some u) (r:zC v u) (hn:x ≠ "__name__" := by decide) (hd:(x==("__debug__" : Str))=false:=by decide):PE X (.Name x pos) (tC v) :=
 fun _ _ _ H _ I h=>kB I hg hm hv ⟨v,H,I,r,h⟩ hn hd
variable {a b : Expr} {ta tb : TE} {pos : Pos}
variable {tA tB' : TT} {rest : List Expr}
def tAnd (t u:TT):TT:=fun σ H Q=>t σ H fun c H1=>if c=true then u σ H1 Q else Q false H1
def tOr (t u:TT):TT:=fun σ H Q=>t σ H fun c H1=>if c=true then Q true H1 else u σ H1 Q
def tNot (t:TT):TT:=fun σ H Q=>t σ H fun c H1=>Q (!c) H1
theorem zfs (ha:PT X a tA):PW X (.BoolOp .And [a] pos) tA:=by
 intro wh pins s σ H Q I h;refine isTrue_and (yI (ha pins s σ H Q I h) fun c s1 e=>?_)
 cases c with
 |true=>exact isTrue_and_nil e
 |false=>exact e
theorem zhz (ha:PT X a tA):PW X (.BoolOp .Or [a] pos) tA:=by
 intro wh pins s σ H Q I h;refine isTrue_or (yI (ha pins s σ H Q I h) fun c s1 e=>?_)
 cases c with
 |false=>exact isTrue_or_nil e
 |true=>exact e
theorem zep (ha:PT X a tA) (hb:PW X (.BoolOp .And (b::rest) pos) tB'):PW X (.BoolOp .And (a::b::rest) pos) (tAnd tA tB'):=by
 intro wh pins s σ H Q I h;refine isTrue_and (yI (ha pins s σ H _ I h) fun c s1 ⟨H1,I1,q1⟩=>?_)
 cases c with
 |true=>exact hb wh pins s1 σ H1 Q I1 q1
 |false=>exact ⟨H1,I1,q1⟩
theorem zhA (ha:PT X a tA) (hb:PW X (.BoolOp .Or (b::rest) pos) tB'):PW X (.BoolOp .Or (a::b::rest) pos) (tOr tA tB'):=by
 intro wh pins s σ H Q I h;refine isTrue_or (yI (ha pins s σ H _ I h) fun c s1 ⟨H1,I1,q1⟩=>?_)
 cases c with
 |true=>exact ⟨H1,I1,q1⟩
 |false=>exact hb wh pins s1 σ H1 Q I1 q1
theorem zhB (ha:PT X a tA):PT X (.UnaryOp .Not a pos) (tNot tA):=by
 intro pins s σ H Q I h;exact isTrue_not (ha pins s σ H (fun c H1=>Q (!c) H1) I h)
def zhf (ta tb:TE):TE:=fun σ H Q=>ta σ H fun x H1=>∃ c,x=.bl c/\if c=true then tb σ H1 Q else Q (.bl false) H1
def tOrV (ta tb:TE):TE:=fun σ H Q=>ta σ H fun x H1=>∃ c,x=.bl c/\if c=true then Q (.bl true) H1 else tb σ H1 Q
def tNotV (ta:TE):TE:=fun σ H Q=>ta σ H fun x H1=>∃ c,x=.bl c/\Q (.bl (!c)) H1
theorem zev {op} {t:TE} (h:PE X a t):PE X (.BoolOp op [a] pos) t:=fun pins s σ H Q I hw=>BoolOp_one (h pins s σ H Q I hw)
theorem zew (ha:PE X a ta) (hb:PE X (.BoolOp .And (b::rest) pos) tb):PE X (.BoolOp .And (a::b::rest) pos) (zhf ta tb):=by
 intro pins s σ H Q I h;refine BoolOp_and (yI (ha pins s σ H _ I h) fun v s1 ⟨x,H1,I1,r1,q1⟩=>?_);obtain ⟨c,rfl,q1⟩:=q1;cases r1;refine wpAny_truthy_bool ?_
 cases c with
 |true=>exact hb pins s1 σ H1 Q I1 q1
 |false=>exact ⟨.bl false,H1,I1,rfl,q1⟩
theorem zhL (ha:PE X a ta) (hb:PE X (.BoolOp .Or (b::rest) pos) tb):PE X (.BoolOp .Or (a::b::rest) pos) (tOrV ta tb):=by
 intro pins s σ H Q I h;refine BoolOp_or (yI (ha pins s σ H _ I h) fun v s1 ⟨x,H1,I1,r1,q1⟩=>?_);obtain ⟨c,rfl,q1⟩:=q1;cases r1;refine wpAny_truthy_bool ?_
 cases c with
 |false=>exact hb pins s1 σ H1 Q I1 q1
 |true=>exact ⟨.bl true,H1,I1,rfl,q1⟩
theorem zhM (ha:PE X a ta):PE X (.UnaryOp .Not a pos) (tNotV ta):=by
 intro pins s σ H Q I h;refine UnaryOp_ (yI (ha pins s σ H _ I h) fun v s1 ⟨x,H1,I1,r1,q1⟩=>?_);obtain ⟨c,rfl,q1⟩:=q1;cases r1;exact not_of (wpAny_truthy_bool ⟨.bl (!c),H1,I1,rfl,q1⟩)
def tIf (t:TT) (ta tb:TE):TE:=fun σ H Q=>t σ H fun c H1=>if c=true then ta σ H1 Q else tb σ H1 Q
theorem zdh {c:Expr} (hc:PT X c tA) (ha:PE X a ta) (hb:PE X b tb):PE X (.IfExp c a b pos) (tIf tA ta tb):=by
 intro pins s σ H Q I h;refine wpAny_IfExp (yI (hc pins s σ H _ I h) fun d s1 ⟨H1,I1,q1⟩=>?_)
 cases d with
 |true=>exact ha pins s1 σ H1 Q I1 q1
 |false=>exact hb pins s1 σ H1 Q I1 q1
end
end L2
namespace L2
open PySem PySem.Spec PyProof.Rows
def sJ (K:PySem.W.Frag) (H:Hp) (a:Addr) (xs:List V):Prop :=
 Rd H a (.lst xs) \/
  ∃ (o:Obj) (its:Array Value) (n:Nat),K.lookup a=some o/\o.cls=.type "list" /\ o.dict=none/\o.data=.seq its n/\its.size<=sizeLine/\zF xs its.toList
def tV (K:PySem.W.Frag) (H:Hp) (a:Addr) (xs:List V):Prop :=
 Rd H a (.tup xs) \/
  ∃ (o:Obj) (its:Array Value) (n:Nat),K.lookup a=some o/\o.cls=.type "tuple" /\ o.data=.seq its n/\its.size<=sizeLine/\zF xs its.toList
def absV:Value->Option V
 | .none=>some .non
 | .bool b=>some (.bl b)
 | .int i _=>some (.int i)
 | .str x _=>some (.str x)
 | .bytes b _=>some (.byt b)
 | .float b _=>some (.flt b)
 | .ref a=>some (.ref a)
 | .type n=>some (.ty n)
 |_=>none
theorem zC.abs {x:V} {u:Value} (r:zC x u):absV u=some x:=by
 cases x with
 |non=>cases r;rfl
 |bl _=>cases r;rfl
 |int _=>obtain ⟨t,rfl⟩:=r;rfl
 |str _=>obtain ⟨t,rfl⟩:=r;rfl
 |byt _=>obtain ⟨t,rfl⟩:=r;rfl
 |flt _=>obtain ⟨t,rfl⟩:=r;rfl
 |ref _=>cases r;rfl
 |ty _=>cases r;rfl
theorem zC.inj {x y:V} {u:Value} (r:zC x u) (q:zC y u):x=y:=Option.some.inj (r.abs.symm.trans q.abs)
theorem zF.inj:∀ {xs ys:List V} {us:List Value},zF xs us->zF ys us->xs=ys
 |_,_,_,.nil,.nil=>rfl
 |_,_,_,.cons r t,.cons r' t'=>by rw [r.inj r',zF.inj t t']
section
variable {X : Cx} {pins : List (Addr × Obj)} {σ : St} {H : Hp} {s : Shared} {a : Addr} {xs ys : List V}
theorem sJ.of {K:PySem.W.Frag} (h:H a=some (.lst xs)):sJ K H a xs:=.inl (.inl h)
theorem tV.of {K:PySem.W.Frag} (h:H a=some (.tup xs)):tV K H a xs:=.inl (.inl h)
theorem Inv.list (I:Inv X pins σ H s) (h:sJ X.K H a xs):∃ its:List Value,zF xs its/\PlainL s.heap a its.toArray/\xs.length<=sizeLine:=by
 rcases h with h|⟨o,its,n,hk,hc,hd,hs,hz,r⟩
 .obtain ⟨z,its,n,r,e⟩:=h.ok I.hok;exact ⟨its,r,⟨_,n,e,rfl,rfl,rfl⟩,z⟩
 .refine ⟨its.toList,r,⟨o,n,I.kIn a o hk,hc,hd,by simpa using hs⟩,?_⟩;have e:=r.length;simp only [Array.length_toList] at e;omega
theorem Inv.tuple (I:Inv X pins σ H s) (h:tV X.K H a xs):∃ its:List Value,zF xs its/\IsTup s.heap a its.toArray/\xs.length<=sizeLine:=by
 rcases h with h|⟨o,its,n,hk,hc,hs,hz,r⟩
 .obtain ⟨z,its,r,p⟩:=h.ok I.hok;exact ⟨its,r,p,z⟩
 .refine ⟨its.toList,r,⟨o,I.kIn a o hk,hc,n,by simpa using hs⟩,?_⟩;have e:=r.length;simp only [Array.length_toList] at e;omega
theorem Inv.list_inj (I:Inv X pins σ H s) (h:sJ X.K H a xs) (h':sJ X.K H a ys):xs=ys:=by
 obtain ⟨its,r,⟨o,n,e,_,_,d⟩,_⟩:=I.list h;obtain ⟨its',r',⟨o',n',e',_,_,d'⟩,_⟩:=I.list h';rw [e] at e';cases e';rw [d] at d'
 injection d' with d1 _
 have:its=its':=by simpa using congrArg Array.toList d1
 subst this;exact r.inj r'
theorem Inv.tuple_inj (I:Inv X pins σ H s) (h:tV X.K H a xs) (h':tV X.K H a ys):xs=ys:=by
 obtain ⟨its,r,⟨o,e,_,n,d⟩,_⟩:=I.tuple h;obtain ⟨its',r',⟨o',e',_,n',d'⟩,_⟩:=I.tuple h';rw [e] at e';cases e';rw [d] at d'
 injection d' with d1 _
 have:its=its':=by simpa using congrArg Array.toList d1
 subst this;exact r.inj r'
end
abbrev Cx.wish (X:Cx) (E:Value->Shared->Prop):Cx:={ X with xe:=E }
abbrev Cx.nox (X:Cx):Cx:=X.wish fun _ _=>False
theorem Cx.Ok.wish {X:Cx} (ok:X.Ok) (E:Value->Shared->Prop):(X.wish E).Ok :=
 ⟨ok.mod,ok.kind,ok.glob,ok.blt,ok.above,ok.inj,ok.has,ok.cab,ok.hd,ok.frames,ok.stk,ok.exf,ok.bs,ok.bsz,ok.noex,ok.exfs,ok.funs,ok.frf⟩
theorem Cx.Ok.unwish {X:Cx} {E:Value->Shared->Prop} (ok:(X.wish E).Ok):X.Ok :=
 ⟨ok.mod,ok.kind,ok.glob,ok.blt,ok.above,ok.inj,ok.has,ok.cab,ok.hd,ok.frames,ok.stk,ok.exf,ok.bs,ok.bsz,ok.noex,ok.exfs,ok.funs,ok.frf⟩
section
variable {X : Cx} {pins : List (Addr × Obj)} {σ : St} {H : Hp} {s : Shared} {E : Value → Shared → Prop}
theorem Inv.wish (I:Inv X pins σ H s) (E:Value->Shared->Prop):Inv (X.wish E) pins σ H s:=⟨I.ok.wish E,I.os,I.bare,I.base,I.loc,I.cell,I.free,I.freeC,I.pin,I.hok,I.len,I.tk⟩
theorem Inv.unwish (I:Inv (X.wish E) pins σ H s):Inv X pins σ H s:=⟨I.ok.unwish,I.os,I.bare,I.base,I.loc,I.cell,I.free,I.freeC,I.pin,I.hok,I.len,I.tk⟩
theorem SP.unwish {D:Ends} {f:Flow} {s':Shared} (h:SP (X.wish E) pins D f s'):SP X pins D f s':=by
 cases f with
 |next=>obtain ⟨σ',H',I,q⟩:=h;exact ⟨σ',H',I.unwish,q⟩
 |brk=>obtain ⟨σ',H',I,q⟩:=h;exact ⟨σ',H',I.unwish,q⟩
 |cont=>obtain ⟨σ',H',I,q⟩:=h;exact ⟨σ',H',I.unwish,q⟩
 |ret u=>obtain ⟨v,σ',H',I,r,q⟩:=h;exact ⟨v,σ',H',I.unwish,r,q⟩
theorem PT.nox {e:Expr} {t:TT} (h:PT X.nox e t):PT X e t:=fun pins s σ H Q I hw =>
 wpAny_mono (h pins s σ H Q (I.wish _) hw) (fun _ _ ⟨H',I',q⟩=>⟨H',I'.unwish,q⟩) fun _ _ z=>False.elim z
theorem nF.nox {st:List Stmt} {t:TS} (h:nF X.nox st t):nF X st t:=fun pins s σ H D I hw =>
 wpAny_mono (h pins s σ H D (I.wish _) hw) (fun _ _ q=>q.unwish) fun _ _ z=>False.elim z
end
section
variable {X : Cx} {st : Stmt} {rest : List Stmt} {t u : TS} {e : Expr} {te : TE} {pos : Pos}
def zha:TS:=fun D σ H=>D.nx σ H
def tSeq (t u:TS):TS:=fun D σ H=>t { D with nx:=u D } σ H
theorem zbh:nF X [] zha:=fun _ _ σ H _ I h=>wpAny_execs_nil ⟨σ,H,I,h⟩
theorem bI (h1:PS X st t) (h2:nF X rest u):nF X (st::rest) (tSeq t u):=by
 intro pins s σ H D I h;refine wpAny_execs_cons (yI (h1 pins s σ H { D with nx:=u D } I h) fun f s1 q=>?_)
 cases f with
 |next =>
  obtain ⟨σ',H',I',q⟩:=q;exact h2 pins s1 σ' H' D I' q
 |ret v=>exact q
 |brk=>exact q
 |cont=>exact q
theorem zbg (h1:PS X st t):nF X [st] t:=by
 intro pins s σ H D I h;refine wpAny_execs_cons (yI (h1 pins s σ H D I h) fun f s1 q=>?_)
 cases f with
 |next=>exact wpAny_execs_nil q
 |ret v=>exact q
 |brk=>exact q
 |cont=>exact q
def zhe:TS:=fun D σ H=>D.bk σ H
def tCont:TS:=fun D σ H=>D.ct σ H
theorem zfx:PS X (.Pass pos) zha:=fun _ _ σ H _ I h=>wpAny_Pass ⟨σ,H,I,h⟩
theorem zdb:PS X (.Break pos) zhe:=fun _ _ σ H _ I h=>wpAny_Break ⟨σ,H,I,h⟩
theorem bG:PS X (.Continue pos) tCont:=fun _ _ σ H _ I h=>wpAny_Continue ⟨σ,H,I,h⟩
theorem Inv.quiet {pins:List (Addr×Obj)} {σ:St} {H:Hp} {s:Shared} (I:Inv X pins σ H s):interactive X.env=false:=by simp [interactive,I.ok.kind]
def tDrop (te:TE):TS:=fun D σ H=>te σ H fun _ H1=>D.nx σ H1
theorem zbi (he:PE X e te) (hs:swapsWith e none pos.line X.env=pure false:=by rfl):PS X (.Expr e pos) (tDrop te):=by
 intro pins s σ H D I h;exact wpAny_Expr_any (yI (he pins s σ H _ I h) fun v s1 ⟨x,H1,I1,r1,q1⟩=>⟨σ,H1,I1,q1⟩) I.quiet hs
def tRet (te:TE):TS:=fun D σ H=>te σ H D.rt
theorem zeq (he:PE X e te):PS X (.Return (some e) pos) (tRet te):=by
 intro pins s σ H D I h;exact wpAny_Return_some (yI (he pins s σ H _ I h) fun v s1 ⟨x,H1,I1,r1,q1⟩=>⟨x,σ,H1,I1,r1,q1⟩)
def tRetN:TS:=fun D _ H=>D.rt .non H
theorem zfw:PS X (.Return none pos) tRetN:=fun _ _ σ H _ I h=>wpAny_Return_none ⟨.non,σ,H,I,rfl,h⟩
def tIfS (c:TT) (t u:TS):TS:=fun D σ H=>c σ H fun b H1=>if b=true then t D σ H1 else u D σ H1
theorem zhE {c:Expr} {a b:List Stmt} {tc:TT} (hc:PT X c tc) (ha:nF X a t) (hb:nF X b u):PS X (.If c a b pos) (tIfS tc t u):=by
 intro pins s σ H D I h;refine wpAny_If (yI (hc pins s σ H _ I h) fun d s1 ⟨H1,I1,q1⟩=>?_)
 cases d with
 |true=>exact ha pins s1 σ H1 D I1 q1
 |false=>exact hb pins s1 σ H1 D I1 q1
def zhb:TS:=fun _ _ _=>False
theorem zda:PS X st zhb:=fun _ _ _ _ _ _ h=>h.elim
end
abbrev TG:=V->St->Hp->(St->Hp->Prop)->Prop
abbrev TGs:=List V->St->Hp->(St->Hp->Prop)->Prop
def PG (X:Cx) (target:Expr) (t:TG):Prop :=
 ∀ (pins:List (Addr×Obj)) (s:Shared) (σ:St) (H:Hp) (v:V) (u:Value) (Q:St->Hp->Prop),Inv X pins σ H s->zC v u->t v σ H Q ->
  wpAny (model X.prog X.w) X.A (assign target X.env u) (fun _ s'=>∃ σ' H',Inv X pins σ' H' s'/\Q σ' H') X.xe s
def PGs (X:Cx) (ts:List Expr) (t:TGs):Prop :=
 ∀ (pins:List (Addr×Obj)) (s:Shared) (σ:St) (H:Hp) (vs:List V) (us:List Value) (Q:St->Hp->Prop),Inv X pins σ H s->zF vs us->t vs σ H Q ->
  wpAny (model X.prog X.w) X.A (assignInOrder ((assignEach ts X.env).map (·.2)) us) (fun _ s'=>∃ σ' H',Inv X pins σ' H' s'/\Q σ' H') X.xe s
abbrev TSet:=V->V->V->Hp->(Hp->Prop)->Prop
def PSet (X:Cx) (t:TSet):Prop :=
 ∀ (pins:List (Addr×Obj)) (s:Shared) (σ:St) (H:Hp) (o i v:V) (ov iv u:Value) (Q:Hp->Prop),Inv X pins σ H s->zC o ov->zC i iv->zC v u->t o i v H Q ->
  wpAny (model X.prog X.w) X.A (setItem ov iv u) (fun _ s'=>∃ H',Inv X pins σ H' s'/\Q H') X.xe s
section
variable {X : Cx} {pos : Pos}
def zdL (i:Nat):TG:=fun v σ H Q=>Q (σ.set i (some v)) H
theorem fC {i:Nat} {x:Str} (hN:X.N.Nodup) (hi:X.N[i]?=some x) (hx:Loc X.env.scope x) (hf:X.fn x=true\/X.env.scope.names.lookup x=some .local:=by first|exact .inl rfl|exact .inr rfl|assumption):PG X (.Name x pos) (zdL i):=by
 intro pins s σ H v u Q I r h;exact wpAny_assign_Name (rG I hN hi hx r (fun s' I'=>⟨_,H,I',h⟩) hf)
def gNil:TGs:=fun vs σ H Q=>vs=[]/\Q σ H
def gCons (t:TG) (u:TGs):TGs:=fun vs σ H Q=>∃ v r,vs=v::r/\t v σ H fun σ' H'=>u r σ' H' Q
theorem zbl:PGs X [] gNil:=by
 intro pins s σ H vs us Q I r h;obtain ⟨e,h⟩:=h;subst e;cases r;exact assignInOrder_nil ⟨σ,H,I,h⟩
theorem pV {e:Expr} {es:List Expr} {t:TG} {u:TGs} (h1:PG X e t) (h2:PGs X es u)
  (hs:(assignEach (e::es) X.env).map (·.2)=assign e X.env::(assignEach es X.env).map (·.2):=by rfl):PGs X (e::es) (gCons t u):=by
 intro pins s σ H vs us Q I r h;obtain ⟨v,vr,e1,h⟩:=h;subst e1
 cases r with
 |cons r rr =>
  rw [hs];refine assignInOrder_cons (yI (h1 pins s σ H _ _ _ I r h) fun _ s1 ⟨σ1,H1,I1,q1⟩=>?_);exact h2 pins s1 σ1 H1 _ _ Q I1 rr q1
def gTup (K:PySem.W.Frag) (n:Nat) (t:TGs):TG:=fun v σ H Q=>∃ a xs,v=.ref a/\tV K H a xs/\xs.length=n/\t xs σ H Q
theorem zet {es:List Expr} {k:Nat} {t:TGs} {n:Nat} (hc:X.calm=true) (h:PGs X es t)
  (hn:(assignEach es X.env).length=n:=by rfl) (hst:(assignEach es X.env).findIdx? (·.1)=none:=by rfl):PG X (.Tuple es k pos) (gTup X.K n t):=by
 intro pins s σ H v u Q I r hw;obtain ⟨a,xs,e1,hq,hl,hw⟩:=hw;subst e1;cases r;obtain ⟨its,rv,ht,hz⟩:=I.tuple hq;refine assign_Tuple_tuple (I.ok.hd hc) ht (by simp [hn,← hl,rv.length]) hst fun h' hx=>?_;have I1:Inv X pins σ H { s with heap:=h' }:=I.kept (t':=s.toks) fun b o e=>hx b o (Nat.ne_of_lt (Heap.lt_size e)) e;exact h pins _ σ H xs _ Q I1 (by simpa using rv) hw
def tAsg (te:TE) (g:TG):TS:=fun D σ H=>te σ H fun x H1=>g x σ H1 D.nx
theorem zes {tg e:Expr} {te:TE} {g:TG} (he:PE X e te) (hg:PG X tg g) (hs:swapsWithSole [tg] e pos.line X.env=pure false:=by rfl) (hw:swappedStores [tg] e X.env=pure none:=by rfl)
  (h1:(assignEach [tg] X.env).map (·.2)=[assign tg X.env]:=by rfl):PS X (.Assign [tg] e pos) (tAsg te g):=by
 intro pins s σ H D I h;refine wpAny_Assign_stores (yI (he pins s σ H _ I h) fun v s1 ⟨x,H1,I1,r1,q1⟩=>?_) hs hw;rw [h1];exact yI (hg pins s1 σ H1 x v _ I1 r1 q1) fun _ s2 q=>q
theorem fD {i:Nat} {x:Str} {e:Expr} {te:TE} {pos':Pos} (hN:X.N.Nodup) (hi:X.N[i]?=some x) (hx:Loc X.env.scope x) (he:PE X e te) (hs:swapsWith e (some (.Name x pos')) pos.line X.env=pure false:=by rfl) (hf:X.fn x=true\/X.env.scope.names.lookup x=some .local:=by first|exact .inl rfl|exact .inr rfl|assumption) :
  PS X (.Assign [.Name x pos'] e pos) (tAsg te (zdL i)):=by
 intro pins s σ H D I h;refine wpAny_Assign_Name (yI (he pins s σ H _ I h) fun v s1 ⟨y,H1,I1,r1,q1⟩=>?_) hs;exact rG I1 hN hi hx r1 (fun s2 I2=>⟨_,H1,I2,q1⟩) hf
end
section
variable {X : Cx} {pos : Pos}
def zg9 (c:TT) (tb:TS):TS:=fun D σ H=>∃ W:Nat->St->Hp->Prop,(∃ m,W m σ H)/\∀ m σ H,W m σ H ->
 c σ H fun b H1=>if b=true then ∃ N:St->Hp->Prop,(∀ σ' H',N σ' H'->∃ m',m' < m/\W m' σ' H')/\tb { D with nx:=N,ct:=N,bk:=D.nx } σ H1 else D.nx σ H1
theorem bH {c:Expr} {body:List Stmt} {tc:TT} {tb:TS} (hp:PassesOwn (model X.prog X.w) X.A X.env X.xe) (hc:PT X c tc) (hb:nF X body tb):PS X (.While c body [] pos) (zg9 tc tb):=by
 intro pins s σ H D I h;obtain ⟨W,⟨m0,w0⟩,turn⟩:=h;refine wpAny_While (codeAny_whileLoop (fun n s'=>∃ σ' H',Inv X pins σ' H' s'/\W n σ' H') ?_ m0 ⟨σ,H,I,w0⟩);rintro n s1 ⟨σ1,H1,I1,w1⟩;refine wpAny_passesOwn hp (yI (hc pins s1 σ1 H1 _ I1 (turn n σ1 H1 w1)) fun b s2 ⟨H2,I2,q2⟩=>?_)
 cases b with
 |true =>
  obtain ⟨N,hN,q2⟩:=q2;rw [if_pos rfl];refine wpAny_passesOwn hp (yI (hb pins s2 σ1 H2 _ I2 q2) fun f s3 q3=>?_)
  cases f with
  |next =>
   obtain ⟨σ3,H3,I3,n3⟩:=q3;obtain ⟨m',hm,w3⟩:=hN σ3 H3 n3;exact ⟨m',hm,σ3,H3,I3,w3⟩
  |cont =>
   obtain ⟨σ3,H3,I3,n3⟩:=q3;obtain ⟨m',hm,w3⟩:=hN σ3 H3 n3;exact ⟨m',hm,σ3,H3,I3,w3⟩
  |brk=>exact q3
  |ret v=>exact q3
 |false =>
  rw [if_neg zzN];exact wpAny_execs_nil ⟨σ1,H2,I2,q2⟩
end
structure It where
 go:Nat->Hp->Prop
 yld:Nat->Hp->V->Hp->Prop
 stop:Nat->Hp->Prop
def qR (X:Cx) (pins:List (Addr×Obj)) (H:Hp) (b:Addr):Prop :=
 H b=none/\b≠X.env.locals/\b∉X.fs/\(b∈X.ex\/X.s₀.heap.objs.size<=b)/\(∀ x c,X.env.cells.lookup x=some c->c≠b)/\∀ p∈X.pn++pins,p.1≠b
theorem Inv.fpOk {X:Cx} {pins:List (Addr×Obj)} {σ:St} {H H':Hp} {s:Shared} {b:Addr} (I:Inv X pins σ H s) (hb:s.heap.objs.size<=b) (hn:H' b=none):qR X pins H' b:=by
 refine ⟨hn,Nat.ne_of_gt (Nat.lt_of_lt_of_le I.lt hb),I.nofs hb,.inr (Nat.le_trans I.sz hb),fun x c e z=>?_,fun p hp z=>?_⟩
 .obtain ⟨v,q⟩:=I.cell x c e;exact absurd (Nat.lt_of_lt_of_le q.lt (by rw [z];exact hb)) (Nat.lt_irrefl _)
 .exact absurd (Nat.lt_of_lt_of_le (Heap.lt_size (I.pin p hp).1) (by rw [z];exact hb)) (Nat.lt_irrefl _)
structure Turn (P:Program) (w:World) (K:PySem.W.Frag) (tg:Expr) (J:It) (fp:List Addr) (it:Addr) (tn:Nat->Heap->Prop):Prop where
 mem:it∈fp
 obj:∀ i h,tn i h->∀ b∈fp,∃ o,h.get? b=some o/\∀ v,o.data≠.cell v
 keep:∀ i h h',tn i h->(∀ b∈fp,∀ o,h.get? b=some o->h'.get? b=some o)->tn i h'
 item:∀ (X:Cx),X.prog=P->X.w=w->X.K=K->X.calm=true->∀ (i:Nat) (pins:List (Addr×Obj)) (s:Shared) (σ:St) (H:Hp) (E:Value->Shared->Prop),Inv X pins σ H s->(∀ b∈fp,qR X pins H b)->tn i s.heap->J.go i H ->
  wpAny (model P w) X.A (pyNext (.ref it)) (fun r s1=>∃ u,r=some u /\
   wpAny (model P w) X.A (letOwnedTupleGo tg (.ref it) u) (fun _ s2=>∃ x H',Inv X pins σ H' s2/\zC x u/\J.yld i H x H'/\tn (i+1) s2.heap/\∀ b∈fp,H' b=none) E s1) E s
 done:∀ (X:Cx),X.prog=P->X.w=w->X.K=K->X.calm=true->∀ (i:Nat) (pins:List (Addr×Obj)) (s:Shared) (σ:St) (H:Hp) (E:Value->Shared->Prop),Inv X pins σ H s->(∀ b∈fp,qR X pins H b)->tn i s.heap->J.stop i H ->
  wpAny (model P w) X.A (pyNext (.ref it)) (fun r s1=>r=none/\Inv X pins σ H s1) E s
 self:∀ (A:Around) (i:Nat) (s:Shared) (Q:Value->Shared->Prop) (E:Value->Shared->Prop),tn i s.heap->Q (.ref it) s->wpAny (model P w) A (pyIter (.ref it)) Q E s
abbrev TI:=St->Hp->(It->Hp->Prop)->Prop
def PIE (X:Cx) (pins:List (Addr×Obj)) (σ:St) (tg:Expr) (R:It->Hp->Prop) (itv:Value) (s2:Shared):Prop :=
 ∃ (it:Addr) (fp:List Addr) (tn:Nat->Heap->Prop) (J:It) (H':Hp),itv=.ref it/\Inv X pins σ H' s2/\Turn X.prog X.w X.K tg J fp it tn/\tn 0 s2.heap/\(∀ b∈fp,qR X pins H' b)/\R J H'
def PI (X:Cx) (tg iter:Expr) (wi:TI):Prop :=
 ∀ (pins:List (Addr×Obj)) (s:Shared) (σ:St) (H:Hp) (R:It->Hp->Prop),Inv X pins σ H s->wi σ H R ->
  wpAny (model X.prog X.w) X.A (eval iter X.env) (fun v s1=>wpAny (model X.prog X.w) X.A (pyIter v) (PIE X pins σ tg R) X.xe s1) X.xe s
theorem zdK {M:Model} {A:Around} {E:Value->Shared->Prop} {s:Shared} {tg:Expr} {it:Addr} {u:Value} {o:Obj} {n:String} {vs:Array Value} {Q:Unit->Shared->Prop} (ho:s.heap.get? it=some o) (hc:o.cls=.type n) (hd:o.data=.fields vs)
    (hn:["enumerate", "zip", "dict_itemiterator", "dict_reverseitemiterator", "odict_iterator", "itertools.zip_longest", "itertools.pairwise"].contains n=false) (hQ:Q () s):wpAny M A (letOwnedTupleGo tg (.ref it) u) Q E s:=by
  unfold letOwnedTupleGo
  cases tg<;>first
    |exact wpAny_pure hQ
    | (cases u<;>first
        |exact wpAny_pure hQ
        | (refine wpAny_bind (wpAny_load ho ?_)
           rw [hc,hd];show wpAny M A (if (["enumerate", "zip", "dict_itemiterator", "dict_reverseitemiterator", "odict_iterator", "itertools.zip_longest", "itertools.pairwise"].contains n&&vs[0]?==some (rawInt _))=true then _ else _) Q E s;rw [if_neg (by intro h;rw [hn,Bool.false_and] at h;cases h)];exact wpAny_pure hQ))
def Itl (K:PySem.W.Frag) (a:Addr):It :=
 ⟨fun i H=>∃ xs x,sJ K H a xs/\xs[i]?=some x,fun i H x H'=>H'=H/\∀ xs,sJ K H a xs->xs[i]?=some x,fun i H=>∃ xs,sJ K H a xs/\xs.length<=i⟩
def Itt (K:PySem.W.Frag) (a:Addr):It :=
 ⟨fun i H=>∃ xs x,tV K H a xs/\xs[i]?=some x,fun i H x H'=>H'=H/\∀ xs,tV K H a xs->xs[i]?=some x,fun i H=>∃ xs,tV K H a xs/\xs.length<=i⟩
theorem za0 {P:Program} {w:World} {K:PySem.W.Frag} {tg:Expr} (a it:Addr):Turn P w K tg (Itl K a) [it] it (fun i h=>h.IsListIter it a i) where
 mem:=by simp
 obj:=fun i h st b hb=>by
  have e:b=it:=by simpa using hb
  subst e;obtain ⟨o,e,c,d⟩:=st;exact ⟨o,e,fun v z=>by rw [d] at z;cases z⟩
 keep:=fun i h h' st k=>st.at fun o e=>k it (by simp) o e
 item:=by
  intro X hP hw hK hc i pins s σ H E I hf st hg;subst hP hw hK;obtain ⟨xs,x,hq,hx⟩:=hg;obtain ⟨its,rv,p,hz⟩:=I.list hq;obtain ⟨u,hu,ru⟩:=rv.get hx;obtain ⟨f0,f1,f2,f3,f4,f5⟩:=hf it (by simp);refine wpAny_pyNext_list_item st p.isList (x:=u) (by simpa using hu) fun h' st' sb=>?_;have I1:Inv X pins σ H { s with heap:=h' }:=I.turned (t':=s.toks) (fun b o hb e=>(sb.2 b hb).trans e) f0 f1 f3 f4 f5;obtain ⟨o,e,c,d⟩:=id st';exact ⟨u,rfl,zdK (s:={ s with heap:=h' }) e c d (by decide) ⟨x,H,I1,ru,⟨rfl,fun ys hy=>by rw [I.list_inj hy hq];exact hx⟩,st',fun b hb=>(hf b hb).1⟩⟩
 done:=by
  intro X hP hw hK hc i pins s σ H E I hf st hg;subst hP hw hK;obtain ⟨xs,hq,hx⟩:=hg;obtain ⟨its,rv,p,hz⟩:=I.list hq;obtain ⟨f0,f1,f2,f3,f4,f5⟩:=hf it (by simp);have hl:=rv.length;exact wpAny_pyNext_list_end (I.ok.hd hc) st p.isList (by simp;omega) fun h' eb=>⟨rfl,I.turned (t':=s.toks) (fun b o hb e=>eb b o hb e) f0 f1 f3 f4 f5⟩
 self:=fun _ _ _ _ _ st h=>wpAny_pyIter_listiter st h
theorem zat {P:Program} {w:World} {K:PySem.W.Frag} {tg:Expr} (a it:Addr):Turn P w K tg (Itt K a) [it] it (fun i h=>h.IsTupleIter it a i) where
 mem:=by simp
 obj:=fun i h st b hb=>by
  have e:b=it:=by simpa using hb
  subst e;obtain ⟨o,e,c,d⟩:=st;exact ⟨o,e,fun v z=>by rw [d] at z;cases z⟩
 keep:=fun i h h' st k=>st.at fun o e=>k it (by simp) o e
 item:=by
  intro X hP hw hK hc i pins s σ H E I hf st hg;subst hP hw hK;obtain ⟨xs,x,hq,hx⟩:=hg;obtain ⟨its,rv,p,hz⟩:=I.tuple hq;obtain ⟨u,hu,ru⟩:=rv.get hx;obtain ⟨f0,f1,f2,f3,f4,f5⟩:=hf it (by simp);refine wpAny_pyNext_tuple_item st (show s.heap.IsTuple a its.toArray from p) (x:=u) (by simpa using hu) fun h' st' sb=>?_;have I1:Inv X pins σ H { s with heap:=h' }:=I.turned (t':=s.toks) (fun b o hb e=>(sb.2 b hb).trans e) f0 f1 f3 f4 f5;obtain ⟨o,e,c,d⟩:=id st';exact ⟨u,rfl,zdK (s:={ s with heap:=h' }) e c d (by decide) ⟨x,H,I1,ru,⟨rfl,fun ys hy=>by rw [I.tuple_inj hy hq];exact hx⟩,st',fun b hb=>(hf b hb).1⟩⟩
 done:=by
  intro X hP hw hK hc i pins s σ H E I hf st hg;subst hP hw hK;obtain ⟨xs,hq,hx⟩:=hg;obtain ⟨its,rv,p,hz⟩:=I.tuple hq;obtain ⟨f0,f1,f2,f3,f4,f5⟩:=hf it (by simp);have hl:=rv.length;exact wpAny_pyNext_tuple_end (I.ok.hd hc) st (show s.heap.IsTuple a its.toArray from p) (by simp;omega) fun h' eb=>⟨rfl,I.turned (t':=s.toks) (fun b o hb e=>eb b o hb e) f0 f1 f3 f4 f5⟩
 self:=fun _ _ _ _ _ st h=>wpAny_pyIter_tupleiter st h
end L2
namespace L2
open PySem PySem.Spec PyProof.Rows
section
variable {X : Cx} {tg : Expr}
def tFor (wi:TI) (g:TG) (tb:TS):TS:=fun D σ H=>wi σ H fun J H1=>∃ W:Nat->Nat->St->Hp->Prop,(∃ m,W 0 m σ H1)/\∀ i m σ H,W i m σ H ->
 (J.stop i H/\D.nx σ H)\/(J.go i H/\∃ N:St->Hp->Prop,(∀ σ' H',N σ' H'->∃ m',m' < m/\W (i+1) m' σ' H')/\∀ x H',J.yld i H x H'->g x σ H' fun σ2 H2=>tb { D with nx:=N,ct:=N,bk:=D.nx } σ2 H2)
def tM (fp:List Addr) (h:Heap):List (Addr×Obj):=fp.filterMap fun b=>(h.get? b).map fun o=>(b,o)
theorem qD {fp:List Addr} {h:Heap} {b:Addr} {o:Obj} (hb:b∈fp) (e:h.get? b=some o):(b,o)∈tM fp h:=List.mem_filterMap.mpr ⟨b,hb,by rw [e];rfl⟩
theorem zbs {fp:List Addr} {h:Heap} {p:Addr×Obj} (hp:p∈tM fp h):p.1∈fp/\h.get? p.1=some p.2:=by
 obtain ⟨b,hb,e⟩:=List.mem_filterMap.mp hp
 cases q:h.get? b with
 |none=>rw [q] at e;cases e
 |some o =>
  rw [q] at e;have e':(b,o)=p:=Option.some.inj e;subst e';exact ⟨hb,q⟩
theorem Inv.pinned {pins:List (Addr×Obj)} {σ:St} {H:Hp} {s:Shared} {fp:List Addr} (I:Inv X pins σ H s) (hf:∀ b∈fp,qR X pins H b) (ho:∀ b∈fp,∃ o,s.heap.get? b=some o/\∀ v,o.data≠.cell v):Inv X (pins++tM fp s.heap) σ H s :=
 I.pins_of fun p hp=>(List.mem_append.mp hp).elim (fun z=>I.pin p (List.mem_append_right _ z)) fun z=>by
  obtain ⟨hb,e⟩:=zbs z;obtain ⟨f0,f1,f2,_⟩:=hf p.1 hb;obtain ⟨o,e',d⟩:=ho p.1 hb;rw [e] at e';cases e';exact ⟨e,f0,f1,f2,d⟩
theorem Inv.unpinned {pins pl:List (Addr×Obj)} {σ:St} {H:Hp} {s:Shared} (I:Inv X (pins++pl) σ H s):Inv X pins σ H s:=I.pins_of fun p hp=>I.pin p (List.mem_append_right _ (List.mem_append_left _ hp))
theorem zer {iter:Expr} {body:List Stmt} {wi:TI} {g:TG} {tb:TS} {pos:Pos} (hp:PassesOwn (model X.prog X.w) X.A X.env X.xe) (hc:X.calm=true) (hi:PI X tg iter wi) (hg:PG X tg g) (hb:nF X body tb)
  (hs:∀ x,foldedSetIterable iter X.env x=pure x:=by intro _;rfl):PS X (.For tg iter body [] pos) (tFor wi g tb):=by
 intro pins s σ H D I h;refine wpAny_For (yI (hi pins s σ H _ I h) fun v s1 h1=>yI h1 fun itv s2 h2=>?_) hs;obtain ⟨it,fp,tn,J,H2,e,I2,T,st2,f2,W,⟨m0,w0⟩,turn⟩:=h2;subst e;have stat:∀ {H':Hp},(∀ b∈fp,H' b=none)->∀ b∈fp,qR X pins H' b:=fun hn b hb=>⟨hn b hb,(f2 b hb).2⟩;refine codeAny_forLoop_any (fun n s'=>∃ i σ' H',Inv X pins σ' H' s'/\tn i s'.heap/\(∀ b∈fp,H' b=none)/\W i n σ' H') ?_ m0 ⟨0,σ,H2,I2,st2,fun b hb=>(f2 b hb).1,w0⟩;rintro n s3 ⟨i,σ3,H3,I3,st3,fr3,w3⟩;rcases turn i n σ3 H3 w3 with ⟨stop,qn⟩|⟨go,N,hN,step⟩
 .refine wpAny_passesOwn hp (yI (T.done X rfl rfl rfl hc i pins s3 σ3 H3 X.xe I3 (stat fr3) st3 stop) fun r s4 ⟨hr,I4⟩=>?_);subst hr;exact wpAny_execs_nil ⟨σ3,H3,I4,qn⟩
 .refine wpAny_passesOwn hp (yI (T.item X rfl rfl rfl hc i pins s3 σ3 H3 X.xe I3 (stat fr3) st3 go) fun r s4 ⟨u,hr,h4⟩=>?_);subst hr;refine wpAny_passesOwn hp (yI h4 fun _ s5 ⟨x,H5,I5,r5,y5,st5,fr5⟩=>?_);have I5':=I5.pinned (stat fr5) (T.obj _ _ st5);refine wpAny_passesOwn hp (yI (hg _ s5 σ3 H5 x u _ I5' r5 (step x H5 y5)) fun _ s6 ⟨σ6,H6,I6,q6⟩=>?_);refine wpAny_passesOwn hp (yI (hb _ s6 σ6 H6 _ I6 q6) fun f s7 q7=>?_)
  have again:∀ {σ7:St} {H7:Hp},Inv X (pins++tM fp s5.heap) σ7 H7 s7->N σ7 H7->∃ m,m<n/\∃ i σ' H',Inv X pins σ' H' s7/\tn i s7.heap/\(∀ b∈fp,H' b=none)/\W i m σ' H':=fun {σ7 H7} I7 n7=>by
   obtain ⟨m',hm,w7⟩:=hN σ7 H7 n7;refine ⟨m',hm,i+1,σ7,H7,I7.unpinned,T.keep _ _ _ st5 fun b hb o e=>(I7.pin (b,o) (List.mem_append_right _ (List.mem_append_right _ (qD hb e)))).1,fun b hb=>?_,w7⟩;obtain ⟨o,e,d⟩:=T.obj _ _ st5 b hb;exact (I7.pin (b,o) (List.mem_append_right _ (List.mem_append_right _ (qD hb e)))).2.1
  cases f with
  |next=>obtain ⟨σ7,H7,I7,n7⟩:=q7;exact again I7 n7
  |cont=>obtain ⟨σ7,H7,I7,n7⟩:=q7;exact again I7 n7
  |brk=>obtain ⟨σ7,H7,I7,q7⟩:=q7;exact ⟨σ7,H7,I7.unpinned,q7⟩
  |ret v=>obtain ⟨x7,σ7,H7,I7,r7,q7⟩:=q7;exact ⟨x7,σ7,H7,I7.unpinned,r7,q7⟩
end
end L2
namespace L2
open PySem PySem.Spec PyProof.Rows
abbrev R2:=V->V->Hp->VK->Prop
def qN (X:Cx) (f:Value->Value->Sem Value) (r:R2):Prop :=
 ∀ (pins:List (Addr×Obj)) (s:Shared) (σ:St) (H:Hp) (x y:V) (v u:Value) (Q:VK),Inv X pins σ H s->zC x v->zC y u->r x y H Q ->
  wpAny (model X.prog X.w) X.A (f v u) (EP X pins σ Q) X.xe s
def UnR (X:Cx) (f:Value->Sem Value) (r:V->Hp->VK->Prop):Prop :=
 ∀ (pins:List (Addr×Obj)) (s:Shared) (σ:St) (H:Hp) (x:V) (v:Value) (Q:VK),Inv X pins σ H s->zC x v->r x H Q ->
  wpAny (model X.prog X.w) X.A (f v) (EP X pins σ Q) X.xe s
def wC (X:Cx) (f:Value) (r:List V->Hp->VK->Prop):Prop :=
 ∀ (pins:List (Addr×Obj)) (s:Shared) (σ:St) (H:Hp) (xs:List V) (us:List Value) (Q:VK),Inv X pins σ H s->zF xs us->r xs H Q ->
  wpAny (model X.prog X.w) X.A (call f us) (EP X pins σ Q) X.xe s
def TruR (X:Cx) (r:V->Hp->(Bool->Hp->Prop)->Prop):Prop :=
 ∀ (pins:List (Addr×Obj)) (s:Shared) (σ:St) (H:Hp) (x:V) (v:Value) (Q:Bool->Hp->Prop),Inv X pins σ H s->zC x v->r x H Q ->
  wpAny (model X.prog X.w) X.A (truthy v) (TP X pins σ Q) X.xe s
def tOp (r:R2) (ta tb:TE):TE:=fun σ H Q=>ta σ H fun x H1=>tb σ H1 fun y H2=>r x y H2 Q
def tUn (r:V->Hp->VK->Prop) (ta:TE):TE:=fun σ H Q=>ta σ H fun x H1=>r x H1 Q
def rI (C:Int->Int->Prop) (g:Int->Int->V):R2:=fun x y H Q=>∃ i j,x=.int i/\y=.int j/\C i j/\Q (g i j) H
def rI0 (g:Int->Int->V):R2:=fun x y H Q=>∃ i j,x=.int i/\y=.int j/\Q (g i j) H
def rU (g:Int->V):V->Hp->VK->Prop:=fun x H Q=>∃ i,x=.int i/\Q (g i) H
section
variable {X : Cx} {a b c : Expr} {ta tb tc : TE} {pos : Pos}
theorem binT (ha:PE X a ta) (hb:PE X b tb) {pins:List (Addr×Obj)} {s:Shared} {σ:St} {H:Hp} {R:V->V->Hp->Prop} (I:Inv X pins σ H s)
  (h:ta σ H fun x H1=>tb σ H1 fun y H2=>R x y H2) {Q:Value->Shared->Prop} {f:Value->Value->Sem Value}
  (hf:∀ v u s2 x y H2,Inv X pins σ H2 s2->zC x v->zC y u->R x y H2->wpAny (model X.prog X.w) X.A (f v u) Q X.xe s2) :
  wpAny (model X.prog X.w) X.A (eval a X.env) (fun v s₁=>wpAny (model X.prog X.w) X.A (eval b X.env) (fun u s₂=>wpAny (model X.prog X.w) X.A (f v u) Q X.xe s₂) X.xe s₁) X.xe s:=by
 refine yI (ha pins s σ H _ I h) fun v s1 ⟨x,H1,I1,r1,q1⟩=>?_;refine yI (hb pins s1 σ H1 _ I1 q1) fun u s2 ⟨y,H2,I2,r2,q2⟩=>?_;exact hf v u s2 x y H2 I2 r1 r2 q2
theorem pe_op {op:Operator} {r:R2} (ho:qN X (binaryOp op) r) (ha:PE X a ta) (hb:PE X b tb):PE X (.BinOp a op b pos) (tOp r ta tb):=by
 intro pins s σ H Q I h;exact wpAny_BinOp (binT ha hb I h fun v u s2 x y H2 I2 rx ry q=>ho pins s2 σ H2 x y v u Q I2 rx ry q)
theorem pe_un {op:UnaryOp} {r:V->Hp->VK->Prop} (ho:UnR X (unaryOp op) r) (ha:PE X a ta):PE X (.UnaryOp op a pos) (tUn r ta):=by
 intro pins s σ H Q I h;exact UnaryOp_ (yI (ha pins s σ H _ I h) fun v s1 ⟨x,H1,I1,r1,q1⟩=>ho pins s1 σ H1 x v Q I1 r1 q1)
theorem opI {f:Value->Value->Sem Value} {C:Int->Int->Prop} {g:Int->Int->Int}
  (rule:∀ (i j:Int) (t u:Tok) (s:Shared) (Q:Value->Shared->Prop) (E:Value->Shared->Prop),C i j->Q (.int (g i j) s.toks) { s with toks:=s.toks+1 }->wpAny (model X.prog X.w) X.A (f (.int i t) (.int j u)) Q E s) :
  qN X f (rI C fun i j=>.int (g i j)):=by
 intro pins s σ H x y v u Q I rx ry h;obtain ⟨i,j,rfl,rfl,hc,q⟩:=h;obtain ⟨t,rfl⟩:=rx;obtain ⟨t',rfl⟩:=ry;exact rule i j t t' s _ _ hc ⟨.int (g i j),H,I.tok _,⟨_,rfl⟩,q⟩
theorem opI0 {f:Value->Value->Sem Value} {g:Int->Int->Int}
  (rule:∀ (i j:Int) (t u:Tok) (s:Shared) (Q:Value->Shared->Prop) (E:Value->Shared->Prop),Q (.int (g i j) s.toks) { s with toks:=s.toks+1 }->wpAny (model X.prog X.w) X.A (f (.int i t) (.int j u)) Q E s) :
  qN X f (rI0 fun i j=>.int (g i j)):=by
 intro pins s σ H x y v u Q I rx ry h;obtain ⟨i,j,rfl,rfl,q⟩:=h;obtain ⟨t,rfl⟩:=rx;obtain ⟨t',rfl⟩:=ry;exact rule i j t t' s _ _ ⟨.int (g i j),H,I.tok _,⟨_,rfl⟩,q⟩
theorem opB0 {f:Value->Value->Sem Value} {g:Int->Int->Bool}
  (rule:∀ (i j:Int) (t u:Tok) (s:Shared) (Q:Value->Shared->Prop) (E:Value->Shared->Prop),Q (.bool (g i j)) s->wpAny (model X.prog X.w) X.A (f (.int i t) (.int j u)) Q E s) :
  qN X f (rI0 fun i j=>.bl (g i j)):=by
 intro pins s σ H x y v u Q I rx ry h;obtain ⟨i,j,rfl,rfl,q⟩:=h;obtain ⟨t,rfl⟩:=rx;obtain ⟨t',rfl⟩:=ry;exact rule i j t t' s _ _ ⟨.bl (g i j),H,I,rfl,q⟩
def CDiv (i j:Int):Prop:=0<j/\j<1073741824
def CPow (i j:Int):Prop:=0<=j/\j<=1000000/\i.natAbs<2 ^ 64
def cO (i j:Int):Prop:=(-(2 ^ 64)<i/\i<2 ^ 64)\/(-(2 ^ 64)<j/\j<2 ^ 64)
theorem cO.ok {i j:Int} (h:cO i j):IntMulOk i j:=by
 rcases h with ⟨h1,h2⟩|⟨h1,h2⟩
 .exact .of_left (intBits_le_64 h1 h2)
 .exact .of_right (intBits_le_64 h1 h2)
theorem zh1:qN X (binaryOp .Add) (rI0 fun i j=>.int (i+j)):=opI0 fun _ _ _ _ _ _ _ q=>add_int q
theorem zhV:qN X (binaryOp .Sub) (rI0 fun i j=>.int (i-j)):=opI0 fun _ _ _ _ _ _ _ q=>sub_int q
theorem zhY:qN X (binaryOp .Mult) (rI cO fun i j=>.int (i * j)):=opI fun _ _ _ _ _ _ _ hc q=>mul_int q hc.ok
theorem zfN:qN X (binaryOp .FloorDiv) (rI CDiv fun i j=>.int (i / j)):=opI fun i j _ _ _ _ _ hc q=>by
 have h1:(0:Int)<j:=hc.1;have h2:j<1073741824:=hc.2;exact floordiv_int (by omega) (by rw [Int.fdiv_eq_ediv_of_nonneg i (by omega)];exact q) (.inl (PyProof.noPylong_small (by omega)))
theorem zhZ:qN X (binaryOp .Mod) (rI (fun _ j=>0<j) fun i j=>.int (i % j)):=opI fun i j _ _ _ _ _ hc q=>by
 have h1:(0:Int)<j:=hc;exact mod_int' (by omega) (by rw [Int.fmod_eq_emod_of_nonneg i (by omega)];exact q)
theorem zhX:qN X (binaryOp .Pow) (rI CPow fun i j=>.int (i ^ j.toNat)):=opI fun _ _ _ _ _ _ _ hc q=>pow_int_small hc.1 hc.2.1 hc.2.2 q
theorem unI {f:Value->Sem Value} {g:Int->Int}
  (rule:∀ (i:Int) (t:Tok) (s:Shared) (Q:Value->Shared->Prop) (E:Value->Shared->Prop),Q (.int (g i) s.toks) { s with toks:=s.toks+1 }->wpAny (model X.prog X.w) X.A (f (.int i t)) Q E s) :
  UnR X f (rU fun i=>.int (g i)):=by
 intro pins s σ H x v Q I rx h;obtain ⟨i,rfl,q⟩:=h;obtain ⟨t,rfl⟩:=rx;exact rule i t s _ _ ⟨.int (g i),H,I.tok _,⟨_,rfl⟩,q⟩
theorem zg0:UnR X (unaryOp .USub) (rU fun i=>.int (-i)):=unI fun _ _ _ _ _ q=>neg_int q
end
section
variable {X : Cx} {a b c : Expr} {ta tb tc : TE} {pos : Pos}
theorem ziM {pins:List (Addr×Obj)} {σ:St} {H:Hp} {s:Shared} {Q:VK} {k k':Bool} (I:Inv X pins σ H s) (q:Q (.bl k) H) (e:k=k'):EP X pins σ Q (.bool k') s:=by
 subst e;exact ⟨.bl k,H,I,rfl,q⟩
theorem op_lt:qN X (compareOp .Lt) (rI0 fun i j=>.bl (decide (i<j))):=opB0 fun _ _ _ _ _ _ _ q=>lt_int q
theorem op_le:qN X (compareOp .LtE) (rI0 fun i j=>.bl (decide (i<=j))):=opB0 fun _ _ _ _ _ _ _ q=>le_int q
theorem op_gt:qN X (compareOp .Gt) (rI0 fun i j=>.bl (decide (j<i))):=opB0 fun _ _ _ _ _ _ _ q=>gt_int q
theorem op_ge:qN X (compareOp .GtE) (rI0 fun i j=>.bl (decide (j<=i))):=opB0 fun _ _ _ _ _ _ _ q=>ge_int q
theorem zbp:qN X (compareOp .In) (fun x y H Q=>∃ i j,x=.str i/\y=.str j/\Q (.bl (!(Builtin.Str.occurrences j i 0 j.length 1).isEmpty)) H):=by
 intro pins s σ H x y v u Q I rx ry h;obtain ⟨i,j,rfl,rfl,q⟩:=h;obtain ⟨t,rfl⟩:=rx;obtain ⟨t',rfl⟩:=ry;exact in_str (ziM I q rfl)
theorem zfH {op:CmpOp} {r:R2} (ho:qN X (compareOp op) r) (ha:PE X a ta) (hb:PE X b tb) (hm:behindInMarks op b=false):PE X (.Compare a [op] [b] pos) (tOp r ta tb):=by
 intro pins s σ H Q I h;exact wpAny_Compare1 (binT ha hb I h fun v u s2 x y H2 I2 rx ry q=>ho pins s2 σ H2 x y v u Q I2 rx ry q) hm
def zfg (t:TE):TT:=fun σ H Q=>t σ H fun x H'=>∃ k,x=.bl k/\Q k H'
theorem zfv {op:CmpOp} {r:R2} (ho:qN X (compareOp op) r) (ha:PE X a ta) (hb:PE X b tb) (hm:behindInMarks op b=false):PT X (.Compare a [op] [b] pos) (zfg (tOp r ta tb)):=by
 intro pins s σ H Q I h
 refine wpAny_isTrue_Compare1 (yI (ha pins s σ H _ I h) fun v s1 ⟨x,H1,I1,r1,q1⟩=>yI (hb pins s1 σ H1 _ I1 q1) fun u s2 ⟨y,H2,I2,r2,q2⟩ =>
  yI (ho pins s2 σ H2 x y v u _ I2 r1 r2 q2) fun c s3 ⟨z,H3,I3,r3,k,e,q3⟩=>?_) hm
 subst e;cases r3;exact wpAny_truthy_bool ⟨H3,I3,q3⟩
def za4 (r r':R2) (ta tb tc:TE):TE:=fun σ H Q=>ta σ H fun x H1=>tb σ H1 fun y H2=>r x y H2 fun z H3=>∃ k,z=.bl k /\
 (if k=true then tc σ H3 fun w' H4=>r' y w' H4 Q else Q (.bl false) H3)
theorem zdj {op op':CmpOp} {r r':R2} (ho:qN X (compareOp op) r) (ho':qN X (compareOp op') r') (ha:PE X a ta) (hb:PE X b tb) (hc:PE X c tc)
  (hm:lastMarks [op,op'] [b,c]=false:=by with_unfolding_all rfl):PE X (.Compare a [op,op'] [b,c] pos) (za4 r r' ta tb tc):=by
 intro pins s σ H Q I h
 refine Compare_chain (yI (ha pins s σ H _ I h) fun v s1 ⟨x,H1,I1,r1,q1⟩=>chain_link (yI (hb pins s1 σ H1 _ I1 q1) fun u s2 ⟨y,H2,I2,r2,q2⟩ =>
  yI (ho pins s2 σ H2 x y v u _ I2 r1 r2 q2) fun d s3 ⟨z,H3,I3,r3,k,e,q3⟩=>?_)) hm
 subst e;cases r3;refine wpAny_truthy_bool ?_
 cases k with
 |false=>exact ite_ff ⟨.bl false,H3,I3,rfl,q3⟩
 |true=>exact ite_tt (chain_last (yI (hc pins s3 σ H3 _ I3 q3) fun w' s4 ⟨z',H4,I4,r4,q4⟩=>ho' pins s4 σ H4 y z' u w' Q I4 r2 r4 q4))
theorem zc7 {op op':CmpOp} {r r':R2} (ho:qN X (compareOp op) r) (ho':qN X (compareOp op') r') (ha:PE X a ta) (hb:PE X b tb) (hc:PE X c tc)
  (hm:lastMarks [op,op'] [b,c]=false:=by with_unfolding_all rfl):PT X (.Compare a [op,op'] [b,c] pos) (zfg (za4 r r' ta tb tc)):=by
 intro pins s σ H Q I h
 refine isTrue_chain (yI (ha pins s σ H _ I h) fun v s1 ⟨x,H1,I1,r1,q1⟩=>test_link (yI (hb pins s1 σ H1 _ I1 q1) fun u s2 ⟨y,H2,I2,r2,q2⟩ =>
  yI (ho pins s2 σ H2 x y v u _ I2 r1 r2 q2) fun d s3 ⟨z,H3,I3,r3,k,e,q3⟩=>?_)) hm
 subst e;cases r3;refine wpAny_truthy_bool ?_
 cases k with
 |false =>
  obtain ⟨k',e',q'⟩:=q3;cases e';exact ite_ff ⟨H3,I3,q'⟩
 |true =>
  refine ite_tt (test_last (yI (hc pins s3 σ H3 _ I3 q3) fun w' s4 ⟨z',H4,I4,r4,q4⟩=>yI (ho' pins s4 σ H4 y z' u w' _ I4 r2 r4 q4) fun d' s5 ⟨z2,H5,I5,r5,k2,e2,q5⟩=>?_));subst e2;cases r5;exact wpAny_truthy_bool ⟨H5,I5,q5⟩
def TruV (K:PySem.W.Frag) (x:V) (H:Hp) (k:Bool):Prop :=
 match x with
 | .non=>k=false
 | .bl b=>k=b
 | .int i=>k=(i != 0)
 | .str y=>y.length<=sizeLine/\k=((y.length:Int) != 0)
 | .byt y=>y.size<=sizeLine/\k=((y.size:Int) != 0)
 | .ref p=>(∃ xs,sJ K H p xs/\k=!xs.isEmpty)\/(∃ xs,tV K H p xs/\k=!xs.isEmpty)\/∃ kvs,H p=some (.dK kvs)/\k=!kvs.isEmpty
 |_=>False
theorem zaF {κ:Type} {kvs:List (κ×V)} {vs:List (κ×Value)} (r:KV kvs vs):(!vs.isEmpty)=!kvs.isEmpty:=by
 cases r<;>rfl
theorem pA {xs:List V} {its:List Value} (r:zF xs its):(!its.toArray.isEmpty)=!xs.isEmpty:=by
 cases r<;>simp
theorem vC:(sizeLine:Nat)<2 ^ 63:=by rw [sizeLine_eq];decide
theorem zg1:TruR X (fun x H Q=>∃ k,TruV X.K x H k/\Q k H):=by
 intro pins s σ H x v Q I rx h;obtain ⟨k,e,q⟩:=h;have hl:=vC;have hs:sizeLine=16777216:=sizeLine_eq
 cases x with
 |non =>
  cases rx;have e':k=false:=e;subst e';exact truthy_none ⟨H,I,q⟩
 |bl b =>
  cases rx;have e':k=b:=e;subst e';exact wpAny_truthy_bool ⟨H,I,q⟩
 |int i =>
  obtain ⟨t,rfl⟩:=rx;have e':k=(i != 0):=e;subst e';exact PySem.P.truthy_int ⟨H,I,q⟩
 |str y =>
  obtain ⟨t,rfl⟩:=rx;obtain ⟨hy,e'⟩:y.length<=sizeLine/\k=((y.length:Int) != 0):=e;subst e';exact PySem.P.truthy_str (by omega) ⟨H,I.tok _,q⟩
 |byt y =>
  obtain ⟨t,rfl⟩:=rx;obtain ⟨hy,e'⟩:y.size<=sizeLine/\k=((y.size:Int) != 0):=e;subst e';exact PySem.W.truthy_bytes (by omega) ⟨H,I.tok _,q⟩
 |ref p =>
  cases rx;have e':(∃ xs,sJ X.K H p xs/\k=!xs.isEmpty)\/(∃ xs,tV X.K H p xs/\k=!xs.isEmpty)\/∃ kvs,H p=some (.dK kvs)/\k=!kvs.isEmpty:=e;rcases e' with ⟨xs,hx,e'⟩|⟨xs,hx,e'⟩|⟨kvs,hx,e'⟩
  .subst e';obtain ⟨its,r,pl,hz⟩:=I.list hx;have hlen:=r.length;exact wpAny_truthy_list pl.isList (by simp only [zzS];omega) ⟨H,I.tok _,by rw [pA r];exact q⟩
  .subst e';obtain ⟨its,r,pl,hz⟩:=I.tuple hx;have hlen:=r.length;exact truthy_tuple pl (by simp only [zzS];omega) ⟨H,I.tok _,by rw [pA r];exact q⟩
  .subst e';obtain ⟨hz,hS,vs,r,m⟩:kvs.length<=sizeLine/\(p==sysModules)=false/\∃ vs,KV kvs vs/\s.heap.DictOf (xR X.prog X.w) p vs:=I.hok p _ hx;have hlen:kvs.length=vs.length:=Paired.length r;exact wpAny_truthy_dict hS m (by omega) ⟨H,I.tok _,by rw [zaF r];exact q⟩
 |_=>exact (show False from e).elim
theorem zc6 (ha:PE X a ta) (he:∀ whole,isTrue a X.env whole=(do let v ← whole;standAt a.pos;holding [v] (truthy v))) :
  PT X a (fun σ H Q=>ta σ H fun x H'=>∃ k,TruV X.K x H' k/\Q k H'):=by
 intro pins s σ H Q I h;exact isTrue_plain (yI (ha pins s σ H _ I h) fun v s1 ⟨x,H1,I1,r1,q1⟩=>zg1 pins s1 σ H1 x v Q I1 r1 q1) (he _)
theorem zax:qN X (binaryOp .Add) (fun x y H Q=>∃ i j,x=.str i/\y=.str j/\i.length+j.length<=sizeLine/\Q (.str (i++j)) H):=by
 intro pins s σ H x y v u Q I rx ry h;obtain ⟨i,j,rfl,rfl,hz,q⟩:=h;obtain ⟨t,rfl⟩:=rx;obtain ⟨t',rfl⟩:=ry;exact wF I.tk (add_str (fun t' tk h0=>⟨.str (i++j),H,I.tok _ h0,⟨_,rfl⟩,q⟩) hz)
theorem kT {x:V} {us:List Value} (r:zF [x] us):∃ u,us=[u]/\zC x u:=by
 cases r with
 |cons r1 r2=>cases r2;exact ⟨_,rfl,r1⟩
theorem rM {x y:V} {us:List Value} (r:zF [x,y] us):∃ u w',us=[u,w']/\zC x u/\zC y w':=by
 cases r with
 |cons r1 r2 =>
  cases r2 with
  |cons r3 r4=>cases r4;exact ⟨_,_,rfl,r1,r3⟩
theorem zco (hc:X.calm=true):wC X (.builtin "max") (fun xs H Q=>∃ i j,xs=[.int i,.int j]/\Q (.int (if j > i then j else i)) H):=by
 intro pins s σ H xs us Q I r h;obtain ⟨i,j,rfl,q⟩:=h;obtain ⟨u,w',rfl,⟨t,rfl⟩,⟨t',rfl⟩⟩:=rM r;refine wF I.tk (max_two_ints (I.ok.hd hc) fun h' tk k h0=>⟨_,H,I.kept k h0,?_,q⟩)
 by_cases hj:j > i
 .rw [if_pos hj,if_pos hj];exact ⟨_,rfl⟩
 .rw [if_neg hj,if_neg hj];exact ⟨_,rfl⟩
end
end L2
namespace L2
open PySem PySem.Spec PyProof.Rows
structure ObjM (h:Heap) (x dx C:Addr) (mA:Str->Option Value):Prop where
 obj:h.get? x=some (PySem.W.instObj C dx)
 ns:h.Ns1 dx mA
 ne:dx≠x
theorem gL {h:Heap} {dx:Addr} {mA:Str->Option Value} (n:h.Ns1 dx mA):∃ od,h.get? dx=some od/\∀ name,PySem.W.lookIn name od=some (mA name):=by
 obtain ⟨o,es,ep,ho,hd,hk,_,hm⟩:=n;refine ⟨o,ho,fun name=>?_⟩;have e:=hm name;unfold nsFind findBy at e;rw [← Array.find?_toList] at e;unfold PySem.W.lookIn;rw [hd];dsimp only
 split
 .rename_i y q;rw [q] at e;exact congrArg some e
 .rename_i q;rw [q] at e
  have a:es.toList.any (·.refKey)=false:=by
   rw [List.any_eq_false];intro y hy;obtain ⟨z,t,hkey⟩:=hk y (Array.mem_toList_iff.mp hy);simp [DictEntry.refKey,hkey]
  have a':¬ es.toList.any (·.refKey)=true:=by rw [a];exact zzN
  rw [if_neg a'];exact congrArg some e
theorem ObjM.look {h:Heap} {x dx C:Addr} {mA:Str->Option Value} (I:ObjM h x dx C mA):∃ od,PySem.W.InstAt h x (PySem.W.instObj C dx) C (some od)/\∀ name,PySem.W.lookIn name od=some (mA name) :=
 let ⟨od,ho,hl⟩:=gL I.ns
 ⟨od,⟨I.obj,rfl,rfl,ho⟩,hl⟩
section
variable {prog : Program} {w : World} {A : Around} {E : Value → Shared → Prop} {s : Shared} {K : PySem.W.Frag} {x dx C f : Addr} {mA : Str → Option Value} {name : Str} {v : Value}
theorem zgi {expr:Bool} {Q:Value->Shared->Prop} (X:K.In s.heap) (I:ObjM s.heap x dx C mA) (hg:PySem.W.plainGet K C name=true) (hh:PySem.W.hasDictIn K C=true)
  (ha:PySem.W.findIn K (.ref C) name=some none) (hv:mA name=some v) (hv':PySem.W.handedIn v=true) (h:Q v { s with toks:=s.toks+1 }) :
  wpAny (model prog w) A (getAttr (.ref x) name expr) Q E s:=by
 obtain ⟨od,J,hl⟩:=I.look;exact PySem.W.get_value X J (PySem.W.plainGet_of hg).1 (PySem.W.findObj_own hh ha rfl (by rw [hl,hv])) hv' h
theorem zfm {ns:List Str} {Q:Unit->Shared->Prop} (X:K.In s.heap) (I:ObjM s.heap x dx C mA)
  (hs:PySem.W.findIn K (.ref C) "__setattr__" = some (some (.builtin "object.__setattr__"))) (hp:PySem.W.plainOver K C=true) (ht:PySem.W.takerIn K C name=some none) (hh:PySem.W.hasDictIn K C=true)
  (hw:PySem.Within mA ns) (hsz:ns.length<=sizeLine)
  (h:∀ h',ObjM h' x dx C (fun y=>if y=name then some v else mA y)->Heap.SameBut dx s.heap h'->Q () { s with heap:=h',toks:=s.toks+2 }) :
  wpAny (model prog w) A (setAttr (.ref x) name v) Q E s:=by
 obtain ⟨od,J,hl⟩:=I.look;refine PySem.W.set_plain X J hs (PySem.W.osa_open (s:={ s with toks:=s.toks+1 }) (r:=none) X J hp ht fun b=>?_);obtain ⟨cd,hc,hd'⟩:=PySem.W.any_some hh;have hx:s.heap.get? x=some ⟨.ref C,some dx,.plain,#[]⟩:=I.obj;refine wpAny_bind (wpAny_pure (wpAny_bind (wpAny_bind (wpAny_loadPart hx (wpAny_bind (PySem.W.Looks.here (s:={ s with toks:=s.toks+1 }) (PySem.W.looks_clsIn X hc) ?_))))));rw [hd'];refine wpAny_pure (a:=some dx) (wpAny_bind (wpAny_pure (wpAny_bind ?_)));refine wpAny_nsSet1 (s:={ s with toks:=s.toks+1 }) I.ns fun h' hn2 hs2=>?_;obtain ⟨oD,esD,epD,hoD,hdD,hcD⟩:=hn2.count (PySem.Within.cons name v hw);refine wpAny_bind (wpAny_lookBehind hoD (by rw [hdD];exact pastItsLine_dict (Nat.le_trans hcD (by rw [List.length_cons];omega))) ?_);exact wpAny_pure (h _ ⟨(hs2.2 _ (Ne.symm I.ne)).trans I.obj,hn2,I.ne⟩ hs2)
theorem zdq {R:Result->Shared->Prop} {vs:List Value} {kw:List (Str×Value)} (X:K.In s.heap) (hm:PySem.W.makesIn K C=true)
  (hi:PySem.W.findIn K (.ref C) "__init__" = some (some (.ref f))) (hf:PySem.W.typeIn K (.ref f)=some (.type "function"))
  (h:codeAny (model prog w) (A.under (.builtin "type.__call__" ⟨.ref C::vs,kw⟩)) (.call (.ref f) ⟨.ref (s.heap.objs.size+1)::vs,kw⟩) (PySem.W.InitBack (s.heap.objs.size+1) R)
   { s with heap:=(s.heap.push PySem.W.emptyDict).push (PySem.W.instObj C s.heap.objs.size) }) :
  codeAny (model prog w) A (.call (.ref C) ⟨vs,kw⟩) R s:=by
 obtain ⟨hh,g,d,t,os⟩:=s;exact PySem.W.make_core (PySem.W.makes_of X hm) (PySem.W.looks_findIn X hi) (fun self=>PySem.W.bind_fn X self hf) (.inl rfl) h
end
def qI (f:Str) (v:V):List (Str×V)->List (Str×V)
 | []=>[(f,v)]
 | (g,x)::r=>if g=f then (g,v)::r else (g,x)::qI f v r
theorem sP (f g:Str) (v:V):∀ fs:List (Str×V),(qI f v fs).lookup g=if g=f then some v else fs.lookup g
 | []=>by
  show List.lookup g [(f,v)]=_
  by_cases h:g=f
  .have hb:(g==f)=true:=beq_iff_eq.mpr h;simp only [List.lookup,hb,if_pos h]
  .have hb:(g==f)=false:=beq_eq_false_iff_ne.mpr h;simp only [List.lookup,hb,if_neg h]
 | (k,x)::r=>by
  have ih:=sP f g v r;rw [show qI f v ((k,x)::r)=(if k=f then (k,v)::r else (k,x)::qI f v r) from rfl]
  by_cases hk:k=f
  .rw [if_pos hk]
   by_cases h:g=k
   .have hb:(g==k)=true:=beq_iff_eq.mpr h;simp only [List.lookup,hb,if_pos (h.trans hk)]
   .have hb:(g==k)=false:=beq_eq_false_iff_ne.mpr h;simp only [List.lookup,hb,if_neg (fun e:g=f=>h (e.trans hk.symm))]
  .rw [if_neg hk]
   by_cases h:g=k
   .have hb:(g==k)=true:=beq_iff_eq.mpr h;simp only [List.lookup,hb,if_neg (fun e:g=f=>hk (h.symm.trans e))]
   .have hb:(g==k)=false:=beq_eq_false_iff_ne.mpr h;simp only [List.lookup,hb];exact ih
theorem tB (f:Str) (v:V):∀ fs:List (Str×V),f∈(qI f v fs).map (·.1)/\∀ g,g∈fs.map (·.1)->g∈(qI f v fs).map (·.1)
 | []=>⟨by simp [qI],fun g h=>by simp at h⟩
 | (k,x)::r=>by
  obtain ⟨i1,i2⟩:=tB f v r;rw [show qI f v ((k,x)::r)=(if k=f then (k,v)::r else (k,x)::qI f v r) from rfl]
  by_cases hk:k=f
  .rw [if_pos hk];subst hk;exact ⟨by simp,fun g h=>by simpa using h⟩
  .rw [if_neg hk];refine ⟨?_,fun g h=>?_⟩
   .rw [zzU];exact List.mem_cons_of_mem _ i1
   .rw [zzU] at h ⊢;rcases List.mem_cons.mp h with e|e
    .exact List.mem_cons.mpr (.inl e)
    .exact List.mem_cons_of_mem _ (i2 g e)
theorem sN (f:Str) (v:V):∀ fs:List (Str×V),(qI f v fs).length<=fs.length+1
 | []=>by simp [qI]
 | (k,x)::r=>by
  have ih:=sN f v r;rw [show qI f v ((k,x)::r)=(if k=f then (k,v)::r else (k,x)::qI f v r) from rfl]
  by_cases hk:k=f
  .rw [if_pos hk,List.length_cons,List.length_cons];omega
  .rw [if_neg hk,List.length_cons,List.length_cons];omega
theorem uW.some_of {v:V} {o:Option Value} (r:uW (some v) o):∃ u,o=some u/\zC v u:=by
 cases o with
 |none=>exact (show False from r).elim
 |some u=>exact ⟨u,rfl,r⟩
theorem gB {v:V} {u:Value} (r:zC v u):PySem.W.handedIn u=true:=by
 cases v with
 |non=>cases (show u=Value.none from r);rfl
 |bl b=>cases (show u=Value.bool b from r);rfl
 |int i=>obtain ⟨t,e⟩:=(show ∃ t,u=Value.int i t from r);cases e;rfl
 |str x=>obtain ⟨t,e⟩:=(show ∃ t,u=Value.str x t from r);cases e;rfl
 |byt b=>obtain ⟨t,e⟩:=(show ∃ t,u=Value.bytes b t from r);cases e;rfl
 |flt b=>obtain ⟨t,e⟩:=(show ∃ t,u=Value.float b t from r);cases e;rfl
 |ref a=>cases (show u=Value.ref a from r);rfl
 |ty n=>cases (show u=Value.type n from r);rfl
section
variable {P : Program} {w : World} {H H' : Hp} {h h' : Heap} {a C dx : Addr} {fs fs' : List (Str × V)}
theorem zbP (hok:kK P w H h) (e:H a=some (.ins C dx fs)):∃ mA,ObjM h a dx C mA/\(∀ f,uW (fs.lookup f) (mA f))/\PySem.Within mA (fs.map (·.1))/\fs.length<=1000/\H dx=some (.own a):=by
 obtain ⟨d,z,ne,ob,mA,n,r,q⟩:=(show xU P w H h a (.ins C dx fs) from hok a _ e);exact ⟨mA,⟨ob,n,ne⟩,r,q,z,d⟩
end
structure Cls (K:PySem.W.Frag) (C:Addr):Prop where
 pg:PySem.W.plainGet K C Str.empty=true
 hd:PySem.W.hasDictIn K C=true
 po:PySem.W.plainOver K C=true
 sa:PySem.W.findIn K (.ref C) "__setattr__" = some (some (.builtin "object.__setattr__"))
theorem Cls.get {K:PySem.W.Frag} {C:Addr} (c:Cls K C) (f:Str):PySem.W.plainGet K C f=true:=c.pg
def kU (K:PySem.W.Frag) (C:Addr) (f:Str):Prop:=PySem.W.findIn K (.ref C) f=some none
theorem kU.taker {K:PySem.W.Frag} {C:Addr} {f:Str} (n:kU K C f):PySem.W.takerIn K C f=some none:=by
 unfold PySem.W.takerIn;rw [show PySem.W.findIn K (.ref C) f=some none from n];rfl
section
variable {X : Cx} {pins : List (Addr × Obj)} {σ : St} {H : Hp} {s : Shared} {a C dx : Addr} {fs : List (Str × V)} {f : Str} {v : V} {A : Around} {E : Value → Shared → Prop}
theorem zaG {b:Bool} {Q:Value->Shared->Prop} (I:Inv X pins σ H s) (e:H a=some (.ins C dx fs)) (c:Cls X.K C) (n:kU X.K C f) (l:fs.lookup f=some v)
  (h:∀ u s',Inv X pins σ H s'->zC v u->Q u s'):wpAny (model X.prog X.w) A (getAttr (.ref a) f b) Q E s:=by
 obtain ⟨mA,O,r,_,_,_⟩:=zbP I.hok e;obtain ⟨u,hu,ru⟩:=uW.some_of (v:=v) (o:=mA f) (by rw [← l];exact r f);exact zgi I.kIn O (c.get f) c.hd n hu (gB ru) (h u _ (I.tok _) ru)
theorem zav {y:V} {u:Value} {Q:Unit->Shared->Prop} (I:Inv X pins σ H s) (e:H a=some (.ins C dx fs)) (c:Cls X.K C) (n:kU X.K C f) (hl:fs.length<1000) (ry:zC y u)
  (h:∀ s',Inv X pins σ (yT H a (.ins C dx (qI f y fs))) s'->Q () s'):wpAny (model X.prog X.w) A (setAttr (.ref a) f u) Q E s:=by
 obtain ⟨mA,O,r,wi,_,ho⟩:=zbP I.hok e;have hz:(fs.map (·.1)).length<=sizeLine:=by rw [zzM,sizeLine_eq];omega
 refine zfm I.kIn O c.sa c.po n.taker c.hd wi hz fun h' O' sb=>h _ ?_;have hd:∃ o,h'.get? dx=some o:=let ⟨o,_,_,e',_⟩:=O'.ns;⟨o,e'⟩;refine I.write (x:=a) (e:=dx) (by rw [e];exact True.intro) (.inr ho) (fun b q hb z=>(sb.2 b hb).trans z) hd ?_;refine ⟨by rw [zW O.ne];exact ho,?_,O.ne,O'.obj,_,O'.ns,fun g=>?_,fun g hg=>?_⟩
 .have:=sN f y fs;omega
 .show uW ((qI f y fs).lookup g) (if g=f then some u else mA g);rw [sP]
  by_cases q:g=f
  .rw [if_pos q,if_pos q];exact ry
  .rw [if_neg q,if_neg q];exact r g
 .by_cases q:g=f
  .rw [q];exact (tB f y fs).1
  .refine (tB f y fs).2 g (wi g fun z=>hg ?_);show (if g=f then some u else mA g)=none;rw [if_neg q];exact z
theorem Inv.made (I:Inv X pins σ H s):Inv X pins σ (yT (yT H s.heap.objs.size (.own (s.heap.objs.size+1))) (s.heap.objs.size+1) (.ins C s.heap.objs.size []))
  { s with heap:=(s.heap.push PySem.W.emptyDict).push (PySem.W.instObj C s.heap.objs.size) }:=by
 have e1:(s.heap.push PySem.W.emptyDict).get? s.heap.objs.size=some PySem.W.emptyDict:=Heap.get?_push_size s.heap rfl
 have e2:((s.heap.push PySem.W.emptyDict).push (PySem.W.instObj C s.heap.objs.size)).get? (s.heap.objs.size+1)=some (PySem.W.instObj C s.heap.objs.size):=by
  have:=Heap.get?_push_size (s.heap.push PySem.W.emptyDict) (o:=PySem.W.instObj C s.heap.objs.size) rfl
  rwa [Heap.size_push] at this
 have e3:(s.heap.push PySem.W.emptyDict).Ns s.heap.objs.size (fun _=>none):=⟨PySem.W.emptyDict,#[],_,e1,rfl,(fun e he=>absurd he (by simp)),fun _=>rfl⟩;have I1:=I.laid (a:=s.heap.objs.size) (o:=.own (s.heap.objs.size+1)) (h':=s.heap.push PySem.W.emptyDict) (t':=s.toks) (fun b u q=>Heap.get?_push_of_some _ q) (zzR _) ⟨_,e1⟩;refine I1.laid (a:=s.heap.objs.size+1) (o:=.ins C s.heap.objs.size []) (t':=s.toks) (fun b u q=>Heap.get?_push_of_some _ q) (Nat.le_of_eq (Heap.size_push _ _)) ?_;have ne:s.heap.objs.size≠s.heap.objs.size+1:=Nat.ne_of_lt (Nat.lt_succ_self _);refine ⟨by rw [zW ne,yY],Nat.zero_le _,ne,e2,fun _=>none,(Heap.Ns1.of_empty e3).at fun o q=>Heap.get?_push_of_some _ q,fun _=>True.intro,fun y hy=>absurd rfl hy⟩
theorem zcs {prog:Program} {w:World} {env:Env} {e:Expr} {f:Str} {pos:Pos} {s:Shared} {Q:Value->Shared->Prop} (hb:attributeBase e f env (eval e env)=eval e env)
  (h:wpAny (model prog w) A (eval e env) (fun o s₁=>wpAny (model prog w) A (getAttr o f true) Q E s₁) E s):wpAny (model prog w) A (eval (.Attribute e f pos) env) Q E s :=
 Attribute_any_ h (by rw [arm_eval_Attribute,hb])
end
def tFld (K:PySem.W.Frag) (ta:TE) (f:Str):TE:=fun σ H Q=>ta σ H fun x H1=>∃ a C dx fs v,x=.ref a/\H1 a=some (.ins C dx fs)/\Cls K C/\kU K C f/\fs.lookup f=some v/\Q v H1
def sFld (K:PySem.W.Frag) (ta tv:TE) (f:Str):TS:=fun D σ H=>tv σ H fun y H1=>ta σ H1 fun x H2=>∃ a C dx fs,x=.ref a/\H2 a=some (.ins C dx fs)/\Cls K C/\kU K C f/\fs.length<1000 /\
 D.nx σ (yT H2 a (.ins C dx (qI f y fs)))
section
variable {X : Cx} {o e value : Expr} {f : Str} {pos pos' tpos : Pos} {ta tv : TE}
theorem zhQ (he:PE X e ta) (hb:attributeBase e f X.env (eval e X.env)=eval e X.env):PE X (.Attribute e f pos) (tFld X.K ta f):=by
 intro pins s σ H Q I h;refine zcs hb (yI (he pins s σ H _ I h) fun u s1 ⟨x,H1,I1,rx,a,C,dx,fs,v,ex,ea,c,n,l,q⟩=>?_);subst ex;obtain rfl:u=Value.ref a:=rx;exact zaG I1 ea c n l fun u' s2 I2 ru=>⟨v,H1,I2,ru,q⟩
theorem zhF (ha:PE X o ta) (hv:PE X value tv) (hs:swapsWith value (some (.Attribute o f pos')) pos.line X.env=pure false):PS X (.Assign [.Attribute o f pos'] value pos) (sFld X.K ta tv f):=by
 intro pins s σ H D I h;refine plainObj_wpAny_Assign_Attribute (yI (hv pins s σ H _ I h) fun u s1 ⟨y,H1,I1,ry,q⟩=>yI (ha pins s1 σ H1 _ I1 q) fun ov s2 ⟨x,H2,I2,rx,a,C,dx,fs,ex,ea,c,n,l,q2⟩=>?_) hs;subst ex;obtain rfl:ov=Value.ref a:=rx;exact zav I2 ea c n l ry fun s3 I3=>⟨σ,_,I3,q2⟩
end
section
variable {X : Cx} {pins : List (Addr × Obj)} {σ : St} {H : Hp} {s : Shared} {A : Around} {E : Value → Shared → Prop} {Q : Value → Shared → Prop} {c : Value} {b : Bool}
end
end L2
namespace L2
open PySem PySem.Spec PyProof.Rows
structure Room (k:Nat) (A:Around):Prop where
 gd:A.guards=some []
 hd:A.handled=none
 dp:A.depth+3 * k+5<recursionLimit
 un:A.units+16 * k+200<cLine
theorem Room.mono {j k:Nat} {A:Around} (r:Room k A) (h:j<=k):Room j A:=⟨r.gd,r.hd,by have:=r.dp;omega,by have:=r.un;omega⟩
theorem Room.deeper {k:Nat} {A:Around} (r:Room (k+1) A) (env:Env):Room k (A.deeper env) :=
 ⟨r.gd,r.hd,by have:=r.dp;show A.depth+1+3 * k+5<_;omega,by have:=r.un;show A.units+3+16 * k+200<_;omega⟩
theorem zaD {A:Around} {C:Addr} {us:List Value} {kw:List (Str×Value)}:(A.under (.builtin "type.__call__" ⟨.ref C::us,kw⟩)).depth=A.depth+1:=by
 first|rfl|simp [Around.under,Code.weight,Code.isCreation,Code.isGuard,Code.isCaller,Code.frames,Code.isFrame,guardIds]
theorem zaC {A:Around} {C:Addr} {us:List Value} {kw:List (Str×Value)}:(A.under (.builtin "type.__call__" ⟨.ref C::us,kw⟩)).units=A.units+1:=by
 first|rfl|simp [Around.under,Code.cUnits,Code.frames,Code.isFrame]
theorem zfS {A:Around} {C:Addr} {us:List Value} {kw:List (Str×Value)}:(A.under (.builtin "type.__call__" ⟨.ref C::us,kw⟩)).guards=A.guards:=by
 first|rfl|simp [Around.under,Code.guards,Code.isGuard,guardIds,pushGuards]
theorem Room.make {k:Nat} {A:Around} (r:Room (k+1) A) (C:Addr) (us:List Value) (kw:List (Str×Value)):Room k (A.under (.builtin "type.__call__" ⟨.ref C::us,kw⟩)) :=
 ⟨(zfS).trans r.gd,r.hd,by have:=r.dp;rw [zaD];omega,by have:=r.un;rw [zaC];omega⟩
theorem Room.depth {k:Nat} {A:Around} (r:Room k A):A.depth<recursionLimit:=by have:=r.dp;omega
def tNil:TA:=fun _ H Q=>Q [] H
def tCons (ta:TE) (tr:TA):TA:=fun σ H Q=>ta σ H fun x H1=>tr σ H1 fun xs H2=>Q (x::xs) H2
section
variable {X : Cx} {e : Expr} {es : List Expr} {te : TE} {t : TA} {pos : Pos}
theorem zhU:PA X [] tNil:=fun _ _ _ _ H Q I h=>Calls.spliced_nil ⟨[],H,I,.nil,h⟩
theorem zfK (ha:PE X e te) (hr:PA X es t) (hs:starEach (e::es) X.env=(false,eval e X.env)::starEach es X.env:=by rfl):PA X (e::es) (tCons te t):=by
 intro pos pins s σ H Q I h;rw [hs];show wpAny _ _ (spliced ((false,eval e X.env)::backTo pos (starEach es X.env))) _ _ s;refine Calls.spliced_cons (yI (ha pins s σ H _ I h) fun u s1 ⟨x,H1,I1,r1,q1⟩=>?_);exact yI (hr pos pins s1 σ H1 _ I1 q1) fun us s2 ⟨xs,H2,I2,r2,q2⟩=>⟨x::xs,H2,I2,.cons r1 r2,q2⟩
def tTup (t:TA):TE:=fun σ H Q=>t σ H fun xs H1=>xs.length<=sizeLine/\∀ p,H1 p=none->Q (.ref p) (yT H1 p (.tup xs))
def tLst (t:TA):TE:=fun σ H Q=>t σ H fun xs H1=>xs.length<=sizeLine/\∀ p,H1 p=none->Q (.ref p) (yT H1 p (.lst xs))
theorem zhK {x1} (h:PA X es t):PE X (.Tuple es x1 pos) (tTup t):=by
 intro pins s σ H Q I hq;refine wpAny_Tuple_spliced (yI (h pos pins s σ H _ I hq) fun us s1 ⟨xs,H1,I1,r,z,q⟩=>⟨by rw [← r.length];exact z,?_⟩);have hf:H1 s1.heap.objs.size=none:=I1.hok.fresh (zzR _);refine ⟨.ref s1.heap.objs.size,yT H1 s1.heap.objs.size (.tup xs),I1.laid (t':=s1.toks) (fun b u e=>Heap.get?_push_of_some _ e) (zzR _) ?_,rfl,q _ hf⟩;exact ⟨z,us,r,⟨_,Heap.get?_push_size _ rfl,rfl,_,rfl⟩⟩
theorem zhO (h:PA X es t):PE X (.List es pos) (tLst t):=by
 intro pins s σ H Q I hq;refine wpAny_List_spliced (yI (h pos pins s σ H _ I hq) fun us s1 ⟨xs,H1,I1,r,z,q⟩=>⟨by rw [← r.length];exact z,?_⟩);have hf:H1 s1.heap.objs.size=none:=I1.hok.fresh (zzR _);refine ⟨.ref s1.heap.objs.size,yT H1 s1.heap.objs.size (.lst xs),I1.laid (t':=s1.toks) (fun b u e=>Heap.get?_push_of_some _ e) (zzR _) ?_,rfl,q _ hf⟩;exact ⟨z,us,0,r,Heap.get?_push_size _ rfl⟩
end
abbrev Sp:=List V->Hp->VK->XK->Prop
abbrev CXT:=List Env->Hp->Shared->XK->Value->Shared->Prop
structure Env0 (P:Program) (w:World) (K:PySem.W.Frag) (mg:Str->Option Value) (base:Heap) (A:Around) (outer:List Env) (s:Shared) (H:Hp):Prop where
 frames:A.frames=some outer
 mod:Mod K mg base
 bs:∀ b o,base.get? b=some o->s.heap.get? b=some o/\H b=none
 bsz:base.objs.size<=s.heap.objs.size
 funs:s.heap.FunFrames base outer
 frf:∀ b∈sC outer,H b=none
 hok:kK P w H s.heap
 bare:AllBare s.gens
 tk:0<s.toks
def CE (outer:List Env) (P:Program) (w:World) (H:Hp) (s:Shared) (Q:VK) (u:Value) (s':Shared):Prop :=
 ∃ v H',s'.os=s.os/\0<s'.toks/\AllBare s'.gens/\Un (sC outer) [] H H' s.heap s'.heap/\kK P w H' s'.heap/\zC v u/\Q v H'
def CR (CX:CXT) (outer:List Env) (P:Program) (w:World) (H:Hp) (s:Shared) (Q:VK) (E:XK) (r:Result) (s':Shared):Prop :=
 match r with
 | .ok (.ret u)=>CE outer P w H s Q u s'
 | .ok _=>False
 | .error e=>CX outer H s E e s'
structure FnOk (P:Program) (w:World) (K:PySem.W.Frag) (mg:Str->Option Value) (base:Heap) (CX:CXT) (k:Nat) (f:Addr) (fd:FuncData) (ps:List Str) (sp:Sp):Prop where
 len:∀ vs H Q E,sp vs H Q E->vs.length=ps.length
 run:∀ (A:Around) (outer:List Env) (s:Shared) (H:Hp) (args:Args) (us:List Value) (vs:List V) (Q:VK) (E:XK),Room k A->Env0 P w K mg base A outer s H->BindsTo s fd args (ps.zip us)->zF vs us->sp vs H Q E ->
  codeAny (model P w) A (.call (.ref f) args) (CR CX outer P w H s Q E) s
 one:∀ (x:Str),ps=[x]->fd.scope.names.lookup x=some .local->∀ (A:Around) (outer:List Env) (s:Shared) (H:Hp) (args:Args) (us:List Value) (vs:List V) (Q:VK) (E:XK),Room k A->Env0 P w K mg base A outer { s with toks:=1 } H->BindsTo s fd args (ps.zip us)->zF vs us->sp vs H Q E ->
  codeAny (model P w) A (.call (.ref f) args) (CR CX outer P w H s Q E) s
theorem FnOk.mono {P:Program} {w:World} {K:PySem.W.Frag} {mg:Str->Option Value} {base:Heap} {CX:CXT} {j k:Nat} {f:Addr} {fd:FuncData} {ps:List Str} {sp:Sp} (F:FnOk P w K mg base CX j f fd ps sp) (h:j<=k) :
  FnOk P w K mg base CX k f fd ps sp:=⟨F.len,fun A outer s H args us vs Q E hr=>F.run A outer s H args us vs Q E (hr.mono h),fun x e l A outer s H args us vs Q E hr=>F.one x e l A outer s H args us vs Q E (hr.mono h)⟩
theorem Env0.make {P:Program} {w:World} {K:PySem.W.Frag} {mg:Str->Option Value} {base:Heap} {A:Around} {outer:List Env} {s:Shared} {H:Hp} (e:Env0 P w K mg base A outer s H) (C:Addr) (us:List Value) (kw:List (Str×Value)) :
  Env0 P w K mg base (A.under (.builtin "type.__call__" ⟨.ref C::us,kw⟩)) outer s H:=⟨by first|exact e.frames|(simpa [Around.under,Code.envs,Code.isFrame,pushEnvs] using e.frames),e.mod,e.bs,e.bsz,e.funs,e.frf,e.hok,e.bare,e.tk⟩
section
variable {X : Cx} {pins : List (Addr × Obj)} {σ : St} {H : Hp} {s s' : Shared}
theorem Inv.env0 (I:Inv X pins σ H s):Env0 X.prog X.w X.K X.mg X.base X.A X.stack s H :=
 ⟨I.ok.frames,I.ok.mod,I.bs,Nat.le_trans I.ok.bsz I.sz,I.stack,I.stkFree,I.hok,I.bare,I.tk⟩
theorem Inv.after {Q:VK} {u:Value} (I:Inv X pins σ H s) (h:CE X.stack X.prog X.w H s Q u s'):EP X pins σ Q u s':=by
 obtain ⟨v,H',os,tk,bare,un,hok,r,q⟩:=h;obtain ⟨hh,g,d,t,os'⟩:=s';obtain rfl:os'=s.os:=os;exact ⟨v,H',I.call (h':=hh) (g':=g) (d':=d) (t':=t) (ch:=[]) un hok bare (fun b z=>absurd z (by simp)) tk,r,q⟩
end
def zfi (sp:Sp) (dvs:List V) (E:XK) (t:TA):TE:=fun σ H Q=>t σ H fun vs H1=>sp (vs++dvs) H1 Q E
def zhc (C:Addr) (sp:Sp) (dvs:List V) (E:XK) (t:TA):TE:=fun σ H Q=>t σ H fun vs H1=>∀ x dx,H1 x=none->H1 dx=none->dx≠x ->
 sp (.ref x::(vs++dvs)) (yT (yT H1 dx (.own x)) x (.ins C dx [])) (fun v H2=>v=.non/\Q (.ref x) H2) E
def wH (K:PySem.W.Frag) (fd:FuncData) (ps:List Str) (ds:List Value):Prop :=
 ∀ (s:Shared) (us:List Value),K.In s.heap->(us++ds).length=ps.length->BindsTo s fd ⟨us,[]⟩ (ps.zip (us++ds))
theorem wH.all {K:PySem.W.Frag} {fd:FuncData} {ps:List Str} (h:∀ us:List Value,us.length=ps.length->bindArgs fd ⟨us,[]⟩=pure (ps.zip us)):wH K fd ps []:=fun s us _ hl=>by
 rw [List.append_nil] at hl ⊢;exact .of_eq (h us hl)
def uV (CX:CXT) (X:Cx) (E:XK):Prop:=∀ (pins:List (Addr×Obj)) (σ:St) (H:Hp) (s:Shared) (e:Value) (s':Shared),Inv X pins σ H s->CX X.stack H s E e s'->X.xe e s'
section
variable {X : Cx} {CX : CXT} {k : Nat} {f C : Addr} {fd : FuncData} {ps : List Str} {sp : Sp} {dvs : List V} {ds : List Value} {E : XK} {x m : Str} {p pos apos : Pos} {e o : Expr} {es : List Expr} {ta : TE} {t : TA}
theorem zen {pins:List (Addr×Obj)} {σ:St} {H:Hp} {s:Shared} {Q:VK} {us:List Value} {vs:List V} (F:FnOk X.prog X.w X.K X.mg X.base CX k f fd ps sp) (hr:Room k X.A) (hb:wH X.K fd ps ds) (hd:zF dvs ds) (hx:uV CX X E)
  (I:Inv X pins σ H s) (r:zF vs us) (h:sp (vs++dvs) H Q E):wpAny (model X.prog X.w) X.A (call (.ref f) us) (EP X pins σ Q) X.xe s:=by
 have r2:zF (vs++dvs) (us++ds):=r.append hd;have hl:(us++ds).length=ps.length:=by rw [← r2.length];exact F.len _ _ _ _ h
 refine wpAny_call (codeAny_mono (F.run X.A X.stack s H ⟨us,[]⟩ (us++ds) (vs++dvs) Q E hr I.env0 (hb s us I.kIn hl) r2 h) fun r s' hq=>?_)
 cases r with
 |error e=>exact hx pins σ H s e s' I hq
 |ok fl =>
  cases fl with
  |ret u=>exact I.after hq
  |next=>exact False.elim hq
  |brk=>exact False.elim hq
  |cont=>exact False.elim hq
theorem zfI (F:FnOk X.prog X.w X.K X.mg X.base CX k f fd ps sp) (hr:Room k X.A) (hg:Gl X x) (hm:X.mg x=some (.ref f)) (hk:PySem.W.keepIn X.K (.ref f)=true) (hb:wH X.K fd ps ds) (hd:zF dvs ds) (hx:uV CX X E)
  (ha:PA X (e::es) t) (hdb:(x==("__debug__" : Str))=false:=by decide) (he:starEach (e::es) X.env=(false,eval e X.env)::starEach es X.env:=by rfl) (hpl:(backTo pos (starEach es X.env)).any (·.1)=false:=by rfl) :
  PE X (.Call (.Name x p) (e::es) [] pos) (zfi sp dvs E t):=by
 intro pins s σ H Q I h;refine wpAny_Call_Name_kw (jY I hg hm ?_ hdb);refine PySem.W.callWith_K (h₀:=X.base) I.ok.mod.kin hk (yI (ha pos pins s σ H _ I h) fun us s1 ⟨vs,H1,I1,r,q⟩=>⟨I1.kIn,?_⟩) he hpl;exact zen F hr hb hd hx I1 r q
theorem zdl (F:FnOk X.prog X.w X.K X.mg X.base CX k f fd ps sp) (hr:Room k X.A) (hg:Gl X x) (hm:X.mg x=some (.ref f)) (hk:PySem.W.keepIn X.K (.ref f)=true) (hb:wH X.K fd ps ds) (hd:zF dvs ds) (hx:uV CX X E)
  (hdb:(x==("__debug__" : Str))=false:=by decide):PE X (.Call (.Name x p) [] [] pos) (zfi sp dvs E tNil):=by
 intro pins s σ H Q I h;refine wpAny_Call_Name_kw (jY I hg hm ?_ hdb);exact PySem.W.callWith_K0 I.kIn hk (zen (us:=[]) F hr hb hd hx I .nil h)
structure Mk (K:PySem.W.Frag) (C f:Addr):Prop where
 makes:PySem.W.makesIn K C=true
 init:PySem.W.findIn K (.ref C) "__init__" = some (some (.ref f))
 fn:PySem.W.isFn K (.ref f)=true
 kp:PySem.W.keepIn K (.ref C)=true
theorem bL {pins:List (Addr×Obj)} {σ:St} {H:Hp} {s:Shared} {Q:VK} {us:List Value} {vs:List V} (M:Mk X.K C f) (F:FnOk X.prog X.w X.K X.mg X.base CX k f fd ps sp) (hr:Room (k+1) X.A) (hb:wH X.K fd ps ds) (hd:zF dvs ds)
  (hx:uV CX X E) (I:Inv X pins σ H s) (r:zF vs us)
  (h:∀ x dx,H x=none->H dx=none->dx≠x->sp (.ref x::(vs++dvs)) (yT (yT H dx (.own x)) x (.ins C dx [])) (fun v H2=>v=.non/\Q (.ref x) H2) E) :
  wpAny (model X.prog X.w) X.A (call (.ref C) us) (EP X pins σ Q) X.xe s:=by
 have hq:=h (s.heap.objs.size+1) s.heap.objs.size (I.hok.fresh (Nat.le_succ _)) (I.hok.fresh (zzR _)) (Nat.ne_of_lt (Nat.lt_succ_self _));have I2:=Inv.made (C:=C) I;have r2:zF (V.ref (s.heap.objs.size+1)::(vs++dvs)) (Value.ref (s.heap.objs.size+1)::(us++ds)):=.cons rfl (r.append hd)
 have hl:(Value.ref (s.heap.objs.size+1)::us++ds).length=ps.length:=by
  have e:=r2.length;rw [F.len _ _ _ _ hq] at e;exact e.symm
 refine wpAny_call (zdq (f:=f) I.kIn M.makes M.init (beq_iff_eq.mp M.fn) (codeAny_mono (F.run _ X.stack _ _ ⟨Value.ref (s.heap.objs.size+1)::us,[]⟩ (Value.ref (s.heap.objs.size+1)::(us++ds)) _ _ E (hr.make C us [])
  (I2.env0.make C us []) (hb _ (Value.ref (s.heap.objs.size+1)::us) I2.kIn hl) r2 hq) fun r s' hq'=>?_))
 cases r with
 |error e=>exact hx pins σ _ _ e s' I2 hq'
 |ok fl =>
  cases fl with
  |ret u =>
   obtain ⟨v,H',I3,rv,ev,q3⟩:=I2.after hq';subst ev;exact ⟨rv,⟨V.ref (s.heap.objs.size+1),H',I3,rfl,q3⟩⟩
  |next=>exact False.elim hq'
  |brk=>exact False.elim hq'
  |cont=>exact False.elim hq'
theorem zfD (M:Mk X.K C f) (F:FnOk X.prog X.w X.K X.mg X.base CX k f fd ps sp) (hr:Room (k+1) X.A) (hg:Gl X x) (hm:X.mg x=some (.ref C)) (hb:wH X.K fd ps ds) (hd:zF dvs ds) (hx:uV CX X E)
  (ha:PA X (e::es) t) (hdb:(x==("__debug__" : Str))=false:=by decide) (he:starEach (e::es) X.env=(false,eval e X.env)::starEach es X.env:=by rfl) (hpl:(backTo pos (starEach es X.env)).any (·.1)=false:=by rfl) :
  PE X (.Call (.Name x p) (e::es) [] pos) (zhc C sp dvs E t):=by
 intro pins s σ H Q I h;refine wpAny_Call_Name_kw (jY I hg hm ?_ hdb);refine PySem.W.callWith_K (h₀:=X.base) I.ok.mod.kin M.kp (yI (ha pos pins s σ H _ I h) fun us s1 ⟨vs,H1,I1,r,q⟩=>⟨I1.kIn,?_⟩) he hpl;exact bL M F hr hb hd hx I1 r q
theorem zdg (M:Mk X.K C f) (F:FnOk X.prog X.w X.K X.mg X.base CX k f fd ps sp) (hr:Room (k+1) X.A) (hg:Gl X x) (hm:X.mg x=some (.ref C)) (hb:wH X.K fd ps ds) (hd:zF dvs ds) (hx:uV CX X E)
  (hdb:(x==("__debug__" : Str))=false:=by decide):PE X (.Call (.Name x p) [] [] pos) (zhc C sp dvs E tNil):=by
 intro pins s σ H Q I h;refine wpAny_Call_Name_kw (jY I hg hm ?_ hdb);exact PySem.W.callWith_K0 I.kIn M.kp (bL (us:=[]) M F hr hb hd hx I .nil h)
end
section
variable {X : Cx} {CX : CXT} {k : Nat} {f C : Addr} {fd : FuncData} {ps ks : List Str} {sp : Sp} {E : XK} {x m : Str} {p pos apos kpos : Pos} {e o : Expr} {es : List Expr} {kws : List Keyword} {te ta : TE} {t tk : TA} {nm : Option Str}
variable {g : List Value → List Value → List Value} {gV : List V → List V → List V}
end
structure FnScope (N P:List Str) (sc:Scope):Prop where
 kind:sc.kind=.function
 co:sc.isCoroutine=false
 gen:sc.isGenerator=false
 nd:N.Nodup
 pre:N.take P.length=P
 par:∀ x∈P,sc.names.lookup x=some .local\/sc.names.lookup x=some .cell
 nofree:∀ y∈sc.names,y.2≠.free
theorem fV {kindOf:Str->Option NameKind} {x:Str}:∀ {binds:List (Str×Value)} {m:Str->Option Value},(∀ v,(x,v)∉binds)->bindL kindOf binds m x=m x
 | [],_,_=>rfl
 | (n,v)::r,m,h=>by
  unfold bindL;rw [fV fun w hw=>h w (List.mem_cons_of_mem _ hw)]
  split
  .have:x≠n:=by rintro rfl;exact h v zzT
   simp [this]
  .rfl
theorem fT {kindOf:Str->Option NameKind} {x:Str}:∀ {binds:List (Str×Value)} {m:Str->Option Value},(∀ v,(x,v)∉binds)->bindC kindOf binds m x=m x
 | [],_,_=>rfl
 | (n,v)::r,m,h=>by
  unfold bindC;rw [fT fun w hw=>h w (List.mem_cons_of_mem _ hw)]
  split
  .rfl
  .have:x≠n:=by rintro rfl;exact h v zzT
   simp [this]
theorem fU {kindOf:Str->Option NameKind} {x:Str} {v:Value}:∀ {P:List Str} {vs:List Value} {i:Nat} {m:Str->Option Value},P.Nodup->P[i]?=some x->vs[i]?=some v->kindOf x=some .local ->
  bindL kindOf (P.zip vs) m x=some v
 | [],_,_,_,_,h,_,_=>by simp at h
 |_::_,[],_,_,_,_,h,_=>by simp at h
 |p::P,w::vs,0,m,nd,h1,h2,hk=>by
  simp at h1 h2;subst h1;subst h2;show bindL kindOf ((p,w)::P.zip vs) m p=_;unfold bindL;rw [fV fun v hv=>(List.nodup_cons.mp nd).1 (List.of_mem_zip hv).1,if_pos hk];simp
 |p::P,w::vs,i+1,m,nd,h1,h2,hk=>by
  show bindL kindOf ((p,w)::P.zip vs) m x=_;unfold bindL;exact fU (i:=i) (List.nodup_cons.mp nd).2 (by simpa using h1) (by simpa using h2) hk
theorem fS {kindOf:Str->Option NameKind} {x:Str} {v:Value}:∀ {P:List Str} {vs:List Value} {i:Nat} {m:Str->Option Value},P.Nodup->P[i]?=some x->vs[i]?=some v->kindOf x≠some .local ->
  bindC kindOf (P.zip vs) m x=some v
 | [],_,_,_,_,h,_,_=>by simp at h
 |_::_,[],_,_,_,_,h,_=>by simp at h
 |p::P,w::vs,0,m,nd,h1,h2,hk=>by
  simp at h1 h2;subst h1;subst h2;show bindC kindOf ((p,w)::P.zip vs) m p=_;unfold bindC;rw [fT fun v hv=>(List.nodup_cons.mp nd).1 (List.of_mem_zip hv).1,if_neg hk];simp
 |p::P,w::vs,i+1,m,nd,h1,h2,hk=>by
  show bindC kindOf ((p,w)::P.zip vs) m x=_;unfold bindC;exact fS (i:=i) (List.nodup_cons.mp nd).2 (by simpa using h1) (by simpa using h2) hk
def start (N:List Str) (vs:List V):St:=vs.map some++List.replicate (N.length-vs.length) none
def mK (CX:CXT) (P:Program) (w:World) (K:PySem.W.Frag) (mg:Str->Option Value) (base:Heap) (N:List Str) (qual:Str) (scope:Scope) (f:Addr) (cd:Value) (A:Around) (outer:List Env) (s:Shared) (H:Hp) (E:XK):Cx where
 prog:=P
 w:=w
 K:=K
 mg:=mg
 base:=base
 A:=A.deeper (envOfC qual scope s.heap.objs.size f cd)
 N:=N
 s₀:=s
 H₀:=H
 env:=envOfC qual scope s.heap.objs.size f cd
 outer:=outer
 stack:=envOfC qual scope s.heap.objs.size f cd::outer
 ex:=[]
 calm:=true
 fn:=fun _=>true
 pn:=[]
 xe:=fun e s'=>wpAny (model P w) (A.deeper (envOfC qual scope s.heap.objs.size f cd)) (leaving (envOfC qual scope s.heap.objs.size f cd) e) (fun _ s''=>CX outer H s E e s'') (fun e' s''=>CX outer H s E e' s'') s'
theorem zao {sc:Scope} {n:Nat} {x:Str} (h:sc.names.lookup x=some .cell):∃ c,(cellsFrom n sc.names []).lookup x=some c:=by
 have q:=PySem.W.cellsFrom_some sc.names n [] (.inl h);exact Option.isSome_iff_exists.mp q
theorem zbO {CX:CXT} {P:Program} {w:World} {K:PySem.W.Frag} {mg:Str->Option Value} {base:Heap} {N ps:List Str} {qual:Str} {scope:Scope} {f:Addr} {cd:Value} {A:Around} {outer:List Env} {s s1:Shared} {H:Hp} {E:XK} {us:List Value} {vs:List V}
  (S:FnScope N ps scope) (hd:A.handled=none) (e0:Env0 P w K mg base A outer { s with toks:=1 } H) (hl:vs.length=ps.length) (r:zF vs us)
  (x:InCallC s s.heap.objs.size (bindL (envOfC qual scope s.heap.objs.size f cd).kindOf (ps.zip us) fun _=>none) (cellsFrom (s.heap.objs.size+1) scope.names []) (bindC (envOfC qual scope s.heap.objs.size f cd).kindOf (ps.zip us) fun _=>none) s1) (h0:0<s1.toks) :
  Inv (mK CX P w K mg base N qual scope f cd A outer s H E) [] (start N vs) H s1:=by
 have hpl:ps.length<=N.length:=by have:=congrArg List.length S.pre;rw [List.length_take] at this;omega
 obtain ⟨h1,tk,rfl,hk⟩:=x.done;have noA:∀ b:Addr,b∉(mK CX P w K mg base N qual scope f cd A outer s H E).ex:=fun b z=>absurd (show b∈([]:List Addr) from z) (by simp)
 refine ⟨⟨e0.mod,S.kind,rfl,rfl,zzR _,fun y z c h1 h2=>?_,fun y hy=>?_,fun y c _ h=>?_,fun _=>hd,Around.frames_deeper e0.frames,.inr ⟨rfl,rfl⟩,fun b z=>absurd z (noA b),e0.bs,e0.bsz,fun b _ _=>noA b,fun b z=>absurd z (noA b),e0.funs,e0.frf⟩,
  rfl,e0.bare,Un.kept hk,⟨_,x.toInCall.ns,fun i y v h1 h2 h3=>?_⟩,fun y c h=>⟨_,x.cell y c h⟩,e0.hok.fresh (zzR _),fun y c h=>?_,fun p hp=>absurd (show p∈([]:List (Addr×Obj)) from hp) (by simp),e0.hok.kept hk,?_,h0⟩
 .exact name_of_addr x.apart (PySem.mem_of_lookup h1) (PySem.mem_of_lookup h2)
 .have hy:scope.names.lookup y=some .cell\/scope.names.lookup y=some .free:=hy;rcases hy with hy|hy
  .exact zao hy
  .exact absurd rfl (S.nofree _ (PySem.mem_of_lookup hy))
 .exact Nat.le_of_lt (x.above y c (PySem.mem_of_lookup h))
 .have hi:i<vs.length:=by
   unfold start at h2
   by_cases hi:i<vs.length
   .exact hi
   .rw [List.getElem?_append_right (by simpa using hi)] at h2;rw [List.getElem?_replicate] at h2
    split at h2<;>cases h2
  have ha:vs[i]?=some v:=by
   unfold start at h2;rw [List.getElem?_append_left (by simpa using hi),List.getElem?_map] at h2
   cases e:vs[i]? with
   |none=>rw [e] at h2;cases h2
   |some a=>rw [e] at h2;cases h2;rfl
  obtain ⟨u,hu,rv⟩:=r.get ha
  have hp:ps[i]?=some y:=by
   rw [← S.pre,List.getElem?_take_of_lt (by omega)];exact h1
  have ndP:ps.Nodup:=by rw [← S.pre];exact S.nd.sublist (List.take_sublist _ _)
  refine ⟨u,rv,?_⟩;rcases S.par y (List.mem_of_getElem? hp) with k|k
  .exact .inl ⟨k,fU ndP hp hu k⟩
  .obtain ⟨c,e⟩:=zao (n:=s.heap.objs.size+1) k;refine .inr ⟨.inl k,c,e,?_⟩;have q:=x.cell y c e;rw [fS ndP hp hu (by show scope.names.lookup y≠_;rw [k];decide)] at q;exact q
 .exact e0.hok.fresh (Nat.le_of_lt (x.above y c (PySem.mem_of_lookup h)))
 .unfold start;show _=N.length;rw [zzW,zzM,List.length_replicate];omega
theorem zdN {CX:CXT} {P:Program} {w:World} {K:PySem.W.Frag} {mg:Str->Option Value} {base:Heap} {k:Nat} {f:Addr} {name qual:Str} {params:Arguments} {body:List Stmt} {scope:Scope} {dV kV doc pm cdv ct oc:Value} {an od:Option Addr}
  {osl:Array (Option Value)} {N ps:List Str} {sp:Sp} (lk:K.lookup f=some ⟨oc,od,.func (PySem.W.fnOf name qual params body scope dV kV doc pm an cdv ct),osl⟩) (hcd:PySem.W.codeIn K cdv qual=true) (S:FnScope N ps scope)
  (len:∀ vs H Q E,sp vs H Q E->vs.length=ps.length)
  (hbody:∀ (A:Around) (outer:List Env) (s:Shared) (H:Hp) (vs:List V) (Q:VK) (E:XK),Room k (A.deeper (envOfC qual scope s.heap.objs.size f cdv))->sp vs H Q E ->
   ∃ t,nF (mK CX P w K mg base N qual scope f cdv A outer s H E) body t/\t { nx:=fun _ H'=>Q .non H',rt:=Q } (start N vs) H) :
  FnOk P w K mg base CX (k+1) f (PySem.W.fnOf name qual params body scope dV kV doc pm an cdv ct) ps sp:=by
 suffices core:∀ (A:Around) (outer:List Env) (s:Shared) (H:Hp) (args:Args) (us:List Value) (vs:List V) (Q:VK) (E:XK),Room (k+1) A->Env0 P w K mg base A outer { s with toks:=1 } H->BindsTo s (PySem.W.fnOf name qual params body scope dV kV doc pm an cdv ct) args (ps.zip us)->zF vs us->sp vs H Q E ->
   (0<s.toks\/∃ x,ps=[x]/\scope.names.lookup x=some .local)->codeAny (model P w) A (.call (.ref f) args) (CR CX outer P w H s Q E) s from
  ⟨len,fun A outer s H args us vs Q E hr e0 hb r hsp=>core A outer s H args us vs Q E hr ⟨e0.frames,e0.mod,e0.bs,e0.bsz,e0.funs,e0.frf,e0.hok,e0.bare,Nat.one_pos⟩ hb r hsp (.inl e0.tk),fun x e l A outer s H args us vs Q E hr e0 hb r hsp=>core A outer s H args us vs Q E hr e0 hb r hsp (.inr ⟨x,e,l⟩)⟩
 intro A outer s H args us vs Q E hr e0 hb r hsp hpos;have hl:=len _ _ _ _ hsp;have KX:K.In s.heap:=e0.mod.kin.keeps fun b o e=>(e0.bs b o e).1;have lim:s.heap.NoLimit:=e0.mod.nolimit.keeps fun b o e=>(e0.bs b o e).1
 have hkind:∀ y∈ps.zip us,scope.names.lookup y.1=some .local\/(scope.names.lookup y.1=some .cell/\((cellsFrom (s.heap.objs.size+1) scope.names []).lookup y.1).isSome=true):=fun ⟨n,v⟩ hy=>by
  rcases S.par n (List.of_mem_zip hy).1 with q|q
  .exact .inl q
  .exact .inr ⟨q,PySem.W.cellsFrom_some _ _ _ (.inl q)⟩
 refine codeAny_call_function hr.depth (KX _ _ lk) rfl S.co S.gen rfl (PySem.W.codeRec_of KX hcd) (hb _ _ _ _ ?_);refine zay S.kind hkind (r.length.symm.trans hl) hpos fun env he s1 x h0=>?_;subst he;refine ⟨lim.keeps x.toInCall.keep,codeAny_func ?_⟩;obtain ⟨t,ht,hq⟩:=hbody A outer s H vs Q E (hr.deeper _) hsp;have I:Inv (mK CX P w K mg base N qual scope f cdv A outer s H E) [] (start N vs) H s1:=zbO S hr.hd e0 hl r x h0;refine wpAny_mono (ht [] s1 (start N vs) H _ I hq) (fun fl s' hs=>?_) fun e s' hs=>hs
 have fin:∀ {σ':St} {H':Hp} {v:V} {u:Value},Inv (mK CX P w K mg base N qual scope f cdv A outer s H E) [] σ' H' s'->zC v u->Q v H'->CE outer P w H s Q u s' :=
  fun {σ' H' v u} J rv q=>⟨v,H',J.os,J.tk,J.bare,J.base,J.hok,rv,q⟩
 cases fl with
 |ret u =>
  obtain ⟨v,σ',H',J,rv,q⟩:=hs;exact fin J rv q
 |next =>
  obtain ⟨σ',H',J,q⟩:=hs;exact fin (v:=V.non) (u:=Value.none) J rfl q
 |brk =>
  obtain ⟨_,_,_,q⟩:=hs;exact False.elim q
 |cont =>
  obtain ⟨_,_,_,q⟩:=hs;exact False.elim q
end L2
namespace L2
open PySem PySem.Spec PyProof.Rows
section
variable {X : Cx} {x : Str} {p pos : Pos} {e : Expr} {es : List Expr} {t : TA} {id T : String} {r : List V → Hp → VK → Prop}
def tCB (r:List V->Hp->VK->Prop) (t:TA):TE:=fun σ H Q=>t σ H fun vs H1=>r vs H1 Q
theorem zdk (hc:wC X (.builtin id) r) (hg:Gl X x) (hm:X.mg x=none) (hv:bootBuiltins x=some (.builtin id)) (ha:PA X (e::es) t) (hn:x ≠ "__name__" := by decide) (hdb:(x==("__debug__" : Str))=false:=by decide)
  (he:starEach (e::es) X.env=(false,eval e X.env)::starEach es X.env:=by rfl) (hpl:(backTo pos (starEach es X.env)).any (·.1)=false:=by rfl):PE X (.Call (.Name x p) (e::es) [] pos) (tCB r t):=by
 intro pins s σ H Q I h;refine wpAny_Call_Name_kw (kB I hg hm hv ?_ hn hdb);exact PyProof.Rows.callWith_builtin1 (yI (ha pos pins s σ H _ I h) fun us s1 ⟨vs,H1,I1,r1,q1⟩=>hc pins s1 σ H1 vs us Q I1 r1 q1) he hpl
theorem zbm (hc:wC X (.type T) r) (hg:Gl X x) (hm:X.mg x=none) (hv:bootBuiltins x=some (.type T)) (ha:PA X (e::es) t) (hn:x ≠ "__name__" := by decide) (hdb:(x==("__debug__" : Str))=false:=by decide)
  (he:starEach (e::es) X.env=(false,eval e X.env)::starEach es X.env:=by rfl) (hpl:(backTo pos (starEach es X.env)).any (·.1)=false:=by rfl):PE X (.Call (.Name x p) (e::es) [] pos) (tCB r t):=by
 intro pins s σ H Q I h;refine wpAny_Call_Name_kw (kB I hg hm hv ?_ hn hdb);exact PyProof.Rows.callWith_type1 (yI (ha pos pins s σ H _ I h) fun us s1 ⟨vs,H1,I1,r1,q1⟩=>hc pins s1 σ H1 vs us Q I1 r1 q1) he hpl
end
end L2
namespace HT
open PySem PyProof.Rows
section
open PySem.SeqAt
open PySem.AutoSeq1 (wpAny_loadPart')
open PySem.MeetsSeq PySem.MeetsSeq2 PySem.MeetsSeq3
end
section
variable {prog : Program} {w : World} {A : Around} {E : Value → Shared → Prop} {s : Shared}
theorem zgI {t b:Addr} {vs ws:List Value} {Q:Value->Shared->Prop} (ht:IsTup s.heap t vs.toArray) (hb:IsTup s.heap b ws.toArray) (hv:vs≠[])
  (h1:ws=[]->Q (.ref t) s) (h2:ws≠[]->Q (.ref s.heap.objs.size) { s with heap:=s.heap.push { cls:=.type "tuple", data:=.seq (vs++ws).toArray } })
  (hsz:vs.length+ws.length<=sizeLine):wpAny (model prog w) A (binaryOp .Add (.ref t) (.ref b)) Q E s:=by
 obtain ⟨⟨cls,dd,data,sl⟩,ho,hc,n,hd⟩:=id ht;obtain ⟨⟨cls2,dd2,data2,sl2⟩,ho2,hc2,n2,hd2⟩:=id hb;simp only at hc hd hc2 hd2;subst hc hd hc2 hd2;have e:vs.toArray++ws.toArray=(vs++ws).toArray:=by simp
 by_cases hw:ws=[]
 .exact concat_meets ⟨_,ho,rfl⟩ ⟨_,ho2,rfl⟩ noFill_tuple_add seq_tuple_add PySem.F.slot_tuple_add PySem.F.entry_tuple_add (PySem.F.args_tuple_add_2 _ _)
   (tuple_addW1 t b vs.toArray ws.toArray n n2 dd dd2 sl sl2 (by simpa using hv) (by simp [hw])) ⟨ho,ho2,h1 hw⟩
 .refine concat_meets ⟨_,ho,rfl⟩ ⟨_,ho2,rfl⟩ noFill_tuple_add seq_tuple_add PySem.F.slot_tuple_add PySem.F.entry_tuple_add (PySem.F.args_tuple_add_2 _ _)
   (tuple_addW2 t b vs.toArray ws.toArray n n2 dd dd2 sl sl2 (by simpa using hv) (by simpa using hw) (by rw [zzS,zzS];exact hsz)) ⟨ho,ho2,?_⟩
  rw [e];exact h2 hw
def xH (n d:Nat):Option Int->Nat
 |none=>d
 |some v=>if v<0 then (v+(n:Int)).toNat else min v.toNat n
theorem zhs (n d:Nat) (hd:d<=n) (o:Option Int):xH n d o<=n:=by
 cases o with
 |none=>exact hd
 |some v =>
  show (if v<0 then (v+(n:Int)).toNat else min v.toNat n)<=n
  by_cases hv:v<0
  .rw [if_pos hv];omega
  .rw [if_neg hv];exact Nat.min_le_right _ _
theorem zci (v:Int) (n d:Nat):(if v<0 then max (v+(n:Int)) 0 else min v (n:Int))=((xH n d (some v):Nat):Int):=by
 show (if v<0 then max (v+(n:Int)) 0 else min v (n:Int))=(((if v<0 then (v+(n:Int)).toNat else min v.toNat n):Nat):Int)
 by_cases hv:v<0
 .simp only [if_pos hv];omega
 .simp only [if_neg hv];omega
theorem zaO (lo hi:Option Int) (n:Nat):Builtin.Slice.sliceAdjust lo hi 1 (n:Int)=(((xH n 0 lo:Nat):Int),((xH n n hi:Nat):Int)):=by
 have h1:¬ ((1:Int)<0):=by omega
 unfold Builtin.Slice.sliceAdjust;simp only [h1,if_false];refine Prod.ext ?_ ?_
 .cases lo with
  |none=>rfl
  |some v=>exact zci v n 0
 .cases hi with
  |none=>rfl
  |some v=>exact zci v n n
theorem zaw (i j:Nat):Builtin.Slice.slicePlaces (i:Int) (j:Int) 1=j-i:=by
 unfold Builtin.Slice.slicePlaces;have h1:(1:Int) > 0:=by omega
 simp only [h1,if_true,Int.ediv_one]
 split<;>omega
theorem rD {v:Value} {o:Option Int} {Q:Option Int->Shared->Prop} (p:IsPart v o) (h:Q o s):wpAny (model prog w) A (Builtin.Slice.slicePartIndex v) Q E s:=by
 cases p with
 |none=>exact slicePart_none h
 |int i t=>exact slicePart_int h
theorem qQ {sl:Addr} {vl vu:Value} {lo hi:Option Int} {n:Nat} {Q:Int×Int×Nat->Shared->Prop} (hs:s.heap.IsSliceOf sl vl vu .none) (pl:IsPart vl lo) (pu:IsPart vu hi)
  (h:Q (((xH n 0 lo:Nat):Int),1,xH n n hi-xH n 0 lo) s):wpAny (model prog w) A (Builtin.Slice.sliceApplied (.ref sl) (pure (n:Int))) Q E s:=by
 obtain ⟨os,hos,hcs,hds⟩:=id hs;unfold Builtin.Slice.sliceApplied Builtin.Slice.sliceFields;refine wpAny_bind (wpAny_bind (wpAny_field hos hds (x:=vl) rfl (wpAny_bind (wpAny_field hos hds (x:=vu) rfl (wpAny_bind (wpAny_field hos hds (x:=.none) rfl (wpAny_pure ?_)))))));refine wpAny_bind (slicePart_none ?_);show wpAny _ _ (if ((1:Int)==0)=true then _ else _) _ _ s;rw [if_neg (by decide)];refine wpAny_bind (rD pl (wpAny_bind (rD pu (wpAny_bind (wpAny_pure ?_)))));show wpAny _ _ (match Builtin.Slice.sliceAdjust lo hi 1 (n:Int) with|(lo,hi)=>pure (lo,(1:Int),Builtin.Slice.slicePlaces lo hi 1)) _ _ s;rw [zaO lo hi n];show wpAny _ _ (pure (((xH n 0 lo:Nat):Int),(1:Int),Builtin.Slice.slicePlaces ((xH n 0 lo:Nat):Int) ((xH n n hi:Nat):Int) 1)) _ _ s;rw [zaw];exact wpAny_pure h
theorem zde (xs:Array Value) (i k:Nat):((List.range k).filterMap fun (m:Nat)=>xs[((i:Int)+(m:Int) * 1).toNat]?).toArray=((xs.toList.drop i).take k).toArray:=by
 have e:(fun (m:Nat)=>xs[((i:Int)+(m:Int) * 1).toNat]?)=fun m=>xs[i+m]?:=by
  funext m
  have:((i:Int)+(m:Int) * 1).toNat=i+m:=by omega
  rw [this]
 rw [e];have:=pick_run xs i k;rw [List.filterMap_map] at this;have e2:((fun x=>xs[x]?) ∘ fun x=>i+x)=fun m=>xs[i+m]?:=rfl;rw [e2] at this;rw [this]
theorem uG {t sl:Addr} {items:Array Value} {vl vu:Value} {lo hi:Option Int} {Q:Value->Shared->Prop} (ht:IsTup s.heap t items) (hs:s.heap.IsSliceOf sl vl vu .none) (pl:IsPart vl lo) (pu:IsPart vu hi)
  (hw:¬ (xH items.size 0 lo=0/\xH items.size items.size hi=items.size))
  (h:Q (.ref s.heap.objs.size) { s with heap:=s.heap.push { cls:=.type "tuple", data:=.seq ((items.toList.drop (xH items.size 0 lo)).take (xH items.size items.size hi-xH items.size 0 lo)).toArray } })
  (hsz:items.size<=sizeLine):wpAny (model prog w) A (getItem (.ref t) (.ref sl)) Q E s:=by
 have htake:sizeOk (.seq ((items.toList.drop (xH items.size 0 lo)).take (xH items.size items.size hi-xH items.size 0 lo)).toArray):=by
  show ((items.toList.drop (xH items.size 0 lo)).take (xH items.size items.size hi-xH items.size 0 lo)).toArray.size<=sizeLine;rw [zzS,List.length_take,List.length_drop,Array.length_toList];omega
 have hj:xH items.size items.size hi<=items.size:=zhs _ _ (zzR _) hi;obtain ⟨os,hos,hcs,hds⟩:=id hs;have hTs:s.TypeIs (.ref sl) "slice" := ⟨os,hos,hcs⟩;unfold getItem
 try with_reducible refine wpAny_holding ?_
 first|refine wpAny_bind (wpAny_pure ?_)|skip
 refine wpAny_bind (wpAny_sequenceKey ht.typeIs (by decide) ?_)
 refine wpAny_bind (wpAny_callSpecial?_slot (name:=Str.ofString "__getitem__") ht.typeIs PyProof.Rows.slot_tuple_getitem
  (wpAny_call_entry PyProof.Rows.slot_tuple_getitem ht.typeIs entry_tuple_getitem ?_ (args_tuple_getitem _ _)))
 show wpAny _ _ (Builtin.Tuple.tupleItemsOf (.ref t) >>= _) _ _ s;refine wpAny_bind (tupleItemsOf_ ht ?_);refine wpAny_bind (wpAny_typeOf hTs ?_);rw [if_pos (by decide)];refine wpAny_bind (qQ hs pl pu ?_)
 have hno:¬ ((((xH items.size 0 lo:Nat):Int)==0&&(1:Int)==1&&(xH items.size items.size hi-xH items.size 0 lo)==items.size)=true):=by
  intro q;rw [Bool.and_eq_true,Bool.and_eq_true] at q;have q1:((xH items.size 0 lo:Nat):Int)=0:=eq_of_beq q.1.1;have q2:xH items.size items.size hi-xH items.size 0 lo=items.size:=eq_of_beq q.2;exact hw ⟨by omega,by omega⟩
 show wpAny _ _ (if (((xH items.size 0 lo:Nat):Int)==0&&(1:Int)==1&&(xH items.size items.size hi-xH items.size 0 lo)==items.size)=true then _ else _) _ _ s;rw [if_neg hno,zde]
 first
  |exact wpAny_bind (m:=Builtin.Tuple.tupleExact _) (wpAny_newObj_type (wpAny_pure ⟨_,rfl,wpAny_pure h⟩) htake)
  |exact wpAny_bind (m:=Builtin.Tuple.tupleExact _) (wpAny_newObj_type (wpAny_bind (wpAny_pure (wpAny_pure ⟨_,rfl,wpAny_pure h⟩))) htake)
  |exact wpAny_bind (wpAny_bind (m:=Builtin.Tuple.tupleExact _) (wpAny_newObj_type (wpAny_pure (wpAny_pure ⟨_,rfl,wpAny_pure h⟩)) htake))
  |exact wpAny_bind (wpAny_bind (m:=Builtin.Tuple.tupleExact _) (wpAny_newObj_type (wpAny_pure ⟨_,rfl,wpAny_pure h⟩) htake))
end
end HT
namespace L2
open PySem PySem.Spec PyProof.Rows
abbrev TO:=St->Hp->(Option Int->Hp->Prop)->Prop
def PO (X:Cx) (e:Option Expr) (t:TO):Prop :=
 ∀ (pins:List (Addr×Obj)) (s:Shared) (σ:St) (H:Hp) (Q:Option Int->Hp->Prop),Inv X pins σ H s->t σ H Q ->
  wpAny (model X.prog X.w) X.A (evalPart e X.env) (fun u s'=>∃ o H',Inv X pins σ H' s'/\IsPart u o/\Q o H') X.xe s
def zfh:TO:=fun _ H Q=>Q none H
def tPart (t:TE):TO:=fun σ H Q=>t σ H fun x H1=>∃ i,x=.int i/\Q (some i) H1
section
variable {X : Cx} {e : Expr} {te : TE} {lo hi : Option Expr} {tl th : TO} {pos p2 : Pos}
theorem zfB:PO X none zfh:=by
 intro pins s σ H Q I h;rw [evalPart_none];exact wpAny_pure ⟨none,H,I,.none,h⟩
theorem zfA (h:PE X e te):PO X (some e) (tPart te):=by
 intro pins s σ H Q I hw;rw [evalPart_some];refine yI (h pins s σ H _ I hw) fun u s1 ⟨x,H1,I1,r1,q1⟩=>?_;obtain ⟨i,rfl,q⟩:=q1;obtain ⟨t,rfl⟩:=r1;exact ⟨some i,H1,I1,.int i t,q⟩
def SlR (X:Cx) (r:V->Option Int->Option Int->Hp->VK->Prop):Prop :=
 ∀ (pins:List (Addr×Obj)) (s:Shared) (σ:St) (H:Hp) (x:V) (v vl vu:Value) (lo hi:Option Int) (sl:Addr) (Q:VK),Inv X pins σ H s->zC x v->s.heap.IsSliceOf sl vl vu .none->IsPart vl lo->IsPart vu hi->r x lo hi H Q ->
  ∃ T id,typeLookup (.type T) "__getitem__" = pure (some (.builtin id))/\s.TypeIs v T/\wpAny (model X.prog X.w) X.A (getItem v (.ref sl)) (EP X pins σ Q) X.xe s
def tSl (r:V->Option Int->Option Int->Hp->VK->Prop) (te:TE) (tl th:TO):TE:=fun σ H Q=>te σ H fun x H1=>tl σ H1 fun l H2=>th σ H2 fun u H3=>r x l u H3 Q
theorem zdf {r:V->Option Int->Option Int->Hp->VK->Prop} (hr:SlR X r) (he:PE X e te) (hl:PO X lo tl) (hu:PO X hi th):PE X (.Subscript e (.Slice lo hi none p2) pos) (tSl r te tl th):=by
 intro pins s σ H Q I h;refine Subscript_ (yI (he pins s σ H _ I h) fun v s1 ⟨x,H1,I1,r1,q1⟩=>?_);refine wpAny_Slice (yI (hl pins s1 σ H1 _ I1 q1) fun vl s2 ⟨l,H2,I2,pl,q2⟩=>yI (hu pins s2 σ H2 _ I2 q2) fun vu s3 ⟨u,H3,I3,pu,q3⟩=>?_);rw [evalPart_none];refine wpAny_pure ?_;have I4:Inv X pins σ H3 { s3 with heap:=s3.heap.push { cls:=.type "slice", data:=.fields #[vl,vu,.none] } }:=I3.kept (t':=s3.toks) fun b ob q=>Heap.get?_push_of_some _ q;obtain ⟨T,id,hT,ht,hg⟩:=hr pins { s3 with heap:=s3.heap.push { cls:=.type "slice", data:=.fields #[vl,vu,.none] } } σ H3 x v vl vu l u s3.heap.objs.size Q I4 r1 (Heap.IsSliceOf.new ..) pl pu q3;show wpAny (model X.prog X.w) X.A (subscriptTail e (.Slice lo hi none p2) v (.ref s3.heap.objs.size)) (EP X pins σ Q) X.xe { s3 with heap:=s3.heap.push { cls:=.type "slice", data:=.fields #[vl,vu,.none] } };exact tail_any (ops:=[.ref s3.heap.objs.size,v]) ht hT hg (by with_unfolding_all rfl)
def cutV (xs:List V) (lo hi:Option Int):List V:=(xs.drop (HT.xH xs.length 0 lo)).take (HT.xH xs.length xs.length hi-HT.xH xs.length 0 lo)
theorem sL (xs:List V) (lo hi:Option Int):(cutV xs lo hi).length<=xs.length:=by
 unfold cutV;rw [List.length_take,List.length_drop];omega
def rSlT (K:PySem.W.Frag):V->Option Int->Option Int->Hp->VK->Prop:=fun x lo hi H Q=>∃ a xs,x=.ref a/\tV K H a xs /\
 ¬ (HT.xH xs.length 0 lo=0/\HT.xH xs.length xs.length hi=xs.length)/\∀ p,H p=none->Q (.ref p) (yT H p (.tup (cutV xs lo hi)))
theorem zhi:SlR X (rSlT X.K):=by
 intro pins s σ H x v vl vu lo hi sl Q I rx hs pl pu h;obtain ⟨a,xs,rfl,hx,hw,q⟩:=h;cases rx;obtain ⟨its,r,ht,hz⟩:=I.tuple hx;have hlen:its.toArray.size=xs.length:=by rw [zzS];exact r.length.symm
 refine ⟨"tuple", _,PyProof.Rows.slot_tuple_getitem.lookup,ht.typeIs,?_⟩;refine HT.uG ht hs pl pu (by rw [hlen];exact hw) ?_ (by rw [hlen];exact hz);rw [hlen];refine ⟨.ref s.heap.objs.size,_,I.laid (t':=s.toks) (o:=.tup (cutV xs lo hi)) (fun b ob q=>Heap.get?_push_of_some _ q) (zzR _) ?_,rfl,q _ (I.hok.fresh (zzR _))⟩;exact ⟨Nat.le_trans (sL xs lo hi) hz,_,(r.drop (HT.xH xs.length 0 lo)).take (HT.xH xs.length xs.length hi-HT.xH xs.length 0 lo),IsTup.new _ _⟩
def rCatT (K:PySem.W.Frag):R2:=fun x y H Q=>∃ a b xs ys,x=.ref a/\y=.ref b/\tV K H a xs/\tV K H b ys/\xs≠[]/\xs.length+ys.length<=sizeLine /\
 (ys=[]->Q (.ref a) H)/\(ys≠[]->∀ p,H p=none->Q (.ref p) (yT H p (.tup (xs++ys))))
theorem zF.nil_iff {xs:List V} {us:List Value} (r:zF xs us):us=[]↔xs=[]:=by
 cases r with
 |nil=>simp
 |cons _ _=>simp
theorem zfO:qN X (binaryOp .Add) (rCatT X.K):=by
 intro pins s σ H x y v u Q I rx ry h;obtain ⟨a,b,xs,ys,rfl,rfl,ha,hb,hx,hz,q1,q2⟩:=h;cases rx;cases ry;obtain ⟨its,r1,p1,_⟩:=I.tuple ha;obtain ⟨its2,r2,p2,_⟩:=I.tuple hb;refine HT.zgI p1 p2 (fun z=>hx (r1.nil_iff.mp z)) (fun z=>⟨.ref a,H,I,rfl,q1 (r2.nil_iff.mp z)⟩) (fun z=>?_) (by rw [← r1.length,← r2.length];exact hz);refine ⟨.ref s.heap.objs.size,_,I.laid (t':=s.toks) (o:=.tup (xs++ys)) (fun b ob q=>Heap.get?_push_of_some _ q) (zzR _) ?_,rfl,q2 (fun w=>z (r2.nil_iff.mpr w)) _ (I.hok.fresh (zzR _))⟩;exact ⟨by rw [zzW];exact hz,_,r1.append r2,IsTup.new _ _⟩
end
end L2
namespace L2
open PySem PySem.Spec PyProof.Rows
def ixN (n:Nat) (i:Int):Option Nat:=if 0<=i then (if i<n then some i.toNat else none) else if -(n:Int)<=i then some (i+n).toNat else none
def rQ {α:Type} (xs:List α) (i:Int):Option α:=(ixN xs.length i).bind fun j=>xs[j]?
theorem zbM {n:Nat} {i:Int} {j:Nat} (h:ixN n i=some j):seqIndex? i n=some j/\j<n/\-(n:Int)<=i/\i<n:=by
 unfold ixN at h
 by_cases h0:0<=i
 .rw [if_pos h0] at h
  by_cases h1:i<n
  .rw [if_pos h1] at h;have e:i.toNat=j:=Option.some.inj h;exact ⟨by rw [seqIndex_of h0 h1,e],by omega,by omega,h1⟩
  .rw [if_neg h1] at h;cases h
 .rw [if_neg h0] at h
  by_cases h1:-(n:Int)<=i
  .rw [if_pos h1] at h;have e:(i+n).toNat=j:=Option.some.inj h;exact ⟨by rw [seqIndex_neg (by omega) h1,e],by omega,h1,by omega⟩
  .rw [if_neg h1] at h;cases h
theorem cS {α:Type} {xs:List α} {i:Int} {v:α} (h:rQ xs i=some v):∃ j,seqIndex? i xs.length=some j/\xs[j]?=some v/\j<xs.length/\-(xs.length:Int)<=i/\i<xs.length:=by
 unfold rQ at h
 cases e:ixN xs.length i with
 |none=>rw [e] at h;cases h
 |some j =>
  rw [e] at h;obtain ⟨h1,h2,h3,h4⟩:=zbM e;exact ⟨j,h1,h,h2,h3,h4⟩
def zcx (b:Expr):Prop:=∀ o i,subscripted b false o i=operate [o,i] (getItem o i)
def IxR (X:Cx) (r:R2):Prop :=
 ∀ (value slice:Expr) (pins:List (Addr×Obj)) (s:Shared) (σ:St) (H:Hp) (x y:V) (v u:Value) (Q:VK),Inv X pins σ H s->zC x v->zC y u->r x y H Q ->
  subscripted slice false v u=operate [v,u] (getItem v u)->wpAny (model X.prog X.w) X.A (subscriptTail value slice v u) (EP X pins σ Q) X.xe s
def MtR (X:Cx) (id:String) (r:V->List V->Hp->VK->Prop):Prop :=
 ∀ (pins:List (Addr×Obj)) (s:Shared) (σ:St) (H:Hp) (x:V) (xs:List V) (v:Value) (us:List Value) (Q:VK),Inv X pins σ H s->zC x v->zF xs us->r x xs H Q ->
  wpAny (model X.prog X.w) X.A (call (.builtin id) (v::us)) (EP X pins σ Q) X.xe s
section
variable {X : Cx} {a b : Expr} {ta tb : TE} {pos : Pos}
theorem pe_ix {r:R2} (hr:IxR X r) (ha:PE X a ta) (hb:PE X b tb) (hs:zcx b):PE X (.Subscript a b pos) (tOp r ta tb):=by
 intro pins s σ H Q I h;exact Subscript_ (binT ha hb I h fun v u s2 x y H2 I2 rx ry q=>hr a b pins s2 σ H2 x y v u Q I2 rx ry q (hs _ _))
def rIxL (K:PySem.W.Frag):R2:=fun x y H Q=>∃ p xs i v,x=.ref p/\y=.int i/\sJ K H p xs/\rQ xs i=some v/\Q v H
def rIxT (K:PySem.W.Frag):R2:=fun x y H Q=>∃ p xs i v,x=.ref p/\y=.int i/\tV K H p xs/\rQ xs i=some v/\Q v H
def rIxS:R2:=fun x y H Q=>∃ z i c,x=.str z/\y=.int i/\z.length<=sizeLine/\rQ z.cps.toList i=some c/\Q (.str ⟨#[c]⟩) H
theorem zf1:IxR X (rIxL X.K):=by
 intro value slice pins s σ H x y v u Q I rx ry h hs;obtain ⟨p,xs,i,z,rfl,rfl,hq,he,q⟩:=h;cases rx;obtain ⟨t,rfl⟩:=ry;obtain ⟨its,r,pl,hz⟩:=I.list hq;obtain ⟨j,h1,h2,h3,h4,h5⟩:=cS he;obtain ⟨w,ew,rw'⟩:=r.get h2;have hl:=r.length;have hn:=vC;have fin:EP X pins σ Q w s:=⟨z,H,I,rw',q⟩
 by_cases h0:0<=i
 .have hj:i.toNat=j:=by
   rw [seqIndex_of h0 h5] at h1;exact Option.some.inj h1
  exact item_listR pl.isList h0 (by omega) (by rw [hj];simpa using ew) fin hs
 .have hj:(i+(its.toArray.size:Int)).toNat=j:=by
   rw [seqIndex_neg (by omega) h4] at h1;rw [zzS,← hl];exact Option.some.inj h1
  exact subscriptTail_builtinR (x:=w) pl.isList.typeIs slot_list_getitem.lookup
   (wpAny_getItem_list_neg (Q:=fun r s'=>r=w/\EP X pins σ Q r s') pl.isList (by omega) (by rw [zzS]<;>omega) (by omega) (by rw [hj];simpa using ew) ⟨rfl,fin⟩) hs
theorem zis:IxR X (rIxT X.K):=by
 intro value slice pins s σ H x y v u Q I rx ry h hs;obtain ⟨p,xs,i,z,rfl,rfl,hq,he,q⟩:=h;cases rx;obtain ⟨t,rfl⟩:=ry;obtain ⟨its,r,pl,hz⟩:=I.tuple hq;obtain ⟨j,h1,h2,h3,h4,h5⟩:=cS he;obtain ⟨w,ew,rw'⟩:=r.get h2;have hl:=r.length;have hn:=vC;have fin:EP X pins σ Q w s:=⟨z,H,I,rw',q⟩
 exact subscriptTail_builtinR (x:=w) pl.typeIs slot_tuple_getitem.lookup
  (getItem_tuple (j:=j) (Q:=fun r s'=>r=w/\EP X pins σ Q r s') pl (by omega) (by omega) (by rw [zzS,← hl];exact h1) (by simpa using ew) ⟨rfl,fin⟩) hs
theorem zit:IxR X rIxS:=by
 intro value slice pins s σ H x y v u Q I rx ry h hs;obtain ⟨z,i,c,rfl,rfl,hz,he,q⟩:=h;obtain ⟨t,rfl⟩:=rx;obtain ⟨t',rfl⟩:=ry;obtain ⟨j,h1,h2,h3,h4,h5⟩:=cS he;have hl:z.cps.toList.length=z.length:=by simp [Str.length]
 rw [hl] at h1 h4 h5;have hn:=vC
 exact tail_any (typeIs_str s z t) slot_str_getitem.lookup (getItem_str (c:=c) (by
  have e1:decide (i < -(2 ^ 63:Int))=false:=decide_eq_false (by omega);have e2:decide (i>=2 ^ 63)=false:=decide_eq_false (by omega);rw [e1,e2,Bool.or_false]) (by rw [h1];simpa using h2) ⟨.str ⟨#[c]⟩,H,I.tok _,⟨_,rfl⟩,q⟩) hs
theorem zaB (its:List Value) (n j:Nat) (u:Value):Obj.mapSeq (·.setIfInBounds j u) { cls:=.type "list", data:=.seq its.toArray n }={ cls:=.type "list", data:=.seq (its.set j u).toArray n }:=by
 simp [Obj.mapSeq]
theorem Inv.lst {pins:List (Addr×Obj)} {σ:St} {H:Hp} {s:Shared} {p:Addr} {xs:List V} (I:Inv X pins σ H s) (h:H p=some (.lst xs)) :
  ∃ (its:List Value) (n:Nat),zF xs its/\s.heap.get? p=some { cls:=.type "list", data:=.seq its.toArray n }/\xs.length<=sizeLine:=by
 obtain ⟨z,its,n,r,e⟩:=I.hok p _ h;exact ⟨its,n,r,e,z⟩
theorem Inv.lstUpd {pins:List (Addr×Obj)} {σ:St} {H:Hp} {s:Shared} {p:Addr} {xs ys:List V} {its its':List Value} {n n':Nat} {f:Obj->Obj} (I:Inv X pins σ H s) (h:H p=some (.lst xs))
  (ho:s.heap.get? p=some { cls:=.type "list", data:=.seq its.toArray n }) (hf:f { cls:=.type "list", data:=.seq its.toArray n }={ cls:=.type "list", data:=.seq its'.toArray n' }) (r:zF ys its') (hz:ys.length<=sizeLine) (t:Nat) (ht:0<t:=by first|exact Nat.succ_pos _|exact L2.Inv.tk (by assumption)|exact L2.Inv.tk ‹L2.Inv _ _ _ _ _› | assumption|omega) :
  Inv X pins σ (yT H p (.lst ys)) { s with heap:=s.heap.update p f,toks:=t }:=by
 have e:(s.heap.update p f).get? p=some { cls:=.type "list", data:=.seq its'.toArray n' }:=by
  rw [Heap.get?_update_self f ho (by rw [hf]<;>rfl),hf]
 refine I.write (x:=p) (e:=p) (by rw [h];trivial) (.inl rfl) (fun b u hb q=>(Heap.get?_update_other _ _ (Ne.symm hb)).trans q) ⟨_,e⟩ ?_;exact ⟨hz,its',n',r,e⟩
def rSetL:V->V->V->Hp->(Hp->Prop)->Prop:=fun o i v H Q=>∃ p xs k j,o=.ref p/\i=.int k/\H p=some (.lst xs)/\ixN xs.length k=some j/\Q (yT H p (.lst (xs.set j v)))
theorem zc0:PSet X rSetL:=by
 intro pins s σ H o i v ov iv u Q I ro ri rv h;obtain ⟨p,xs,k,j,rfl,rfl,hp,hj,q⟩:=h;cases ro;obtain ⟨t,rfl⟩:=ri;obtain ⟨its,n,r,ho,hz⟩:=I.lst hp;obtain ⟨h1,h2,h3,h4⟩:=zbM hj;have hl:=r.length;have hn:=vC
 have I':Inv X pins σ (yT H p (.lst (xs.set j v))) { s with heap:=s.heap.update p (Obj.mapSeq (·.setIfInBounds j u)) } :=
  I.lstUpd hp ho (zaB its n j u) (r.set rv j) (by rw [List.length_set];exact hz) s.toks
 by_cases h0:0<=k
 .have hk:k.toNat=j:=by
   rw [seqIndex_of h0 h4] at h1;exact Option.some.inj h1
  exact PySem.W.ki_setAt ho h0 (by omega) (by rw [zzS,← hl];exact h4) (by rw [hk];exact ⟨_,I',q⟩)
 .have hk:(k+(its.toArray.size:Int)).toNat=j:=by
   rw [seqIndex_neg (by omega) h3] at h1;rw [zzS,← hl];exact Option.some.inj h1
  exact PySem.W.ki_setBack ho (by omega) (by rw [zzS,← hl];exact h3) (by omega) (by rw [hk];exact ⟨_,I',q⟩)
theorem fH (lo hi:Option Int) (n:Nat):(sliceBounds lo hi none n).1=((HT.xH n 0 lo:Nat):Int)/\(sliceBounds lo hi none n).2.1=((HT.xH n n hi:Nat):Int)/\(sliceBounds lo hi none n).2.2=1:=by
 refine ⟨?_,?_,rfl⟩
 .cases lo with
  |none=>simp [sliceBounds,HT.xH]
  |some i =>
   simp only [sliceBounds,HT.xH,Option.getD_none,show (1:Int) > 0 by decide,if_true]
   by_cases h:i<0
   .simp only [h,if_true]<;>omega
   .simp only [h,if_false]<;>omega
 .cases hi with
  |none=>simp [sliceBounds,HT.xH]
  |some i =>
   simp only [sliceBounds,HT.xH,Option.getD_none,show (1:Int) > 0 by decide,if_true]
   by_cases h:i<0
   .simp only [h,if_true]<;>omega
   .simp only [h,if_false]<;>omega
theorem nE (its:List Value) (lo hi:Option Int):slicePick its.toArray lo hi none=((its.drop (HT.xH its.length 0 lo)).take (HT.xH its.length its.length hi-HT.xH its.length 0 lo)).toArray:=by
 obtain ⟨h1,h2,h3⟩:=fH lo hi its.toArray.size;unfold slicePick;rw [h1,h2,h3];simp only [sliceRange_one,pick_run,zzS]<;>rfl
def rSlL (K:PySem.W.Frag):V->Option Int->Option Int->Hp->VK->Prop:=fun x lo hi H Q=>∃ a xs,x=.ref a/\sJ K H a xs/\∀ p,H p=none->Q (.ref p) (yT H p (.lst (cutV xs lo hi)))
theorem za8:SlR X (rSlL X.K):=by
 intro pins s σ H x v vl vu lo hi sl Q I rx hs pl pu h;obtain ⟨a,xs,rfl,hx,q⟩:=h;cases rx;obtain ⟨its,r,ht,hz⟩:=I.list hx;have hlen:=r.length;refine ⟨"list", _,slot_list_getitem.lookup,ht.isList.typeIs,?_⟩;refine wpAny_getItem_list_slice ht.isList hs pl pu .none (by simp) ?_ (by rw [zzS]<;>omega);rw [nE,← hlen];refine ⟨.ref s.heap.objs.size,_,I.laid (t':=s.toks) (o:=.lst (cutV xs lo hi)) (fun b ob q=>Heap.get?_push_of_some _ q) (zzR _) ?_,rfl,q _ (I.hok.fresh (zzR _))⟩;exact ⟨Nat.le_trans (sL xs lo hi) hz,_,0,(r.drop (HT.xH xs.length 0 lo)).take (HT.xH xs.length xs.length hi-HT.xH xs.length 0 lo),Heap.get?_push_size _ rfl⟩
theorem fA:qN X (compareOp .NotIn) (fun x y H Q=>∃ i j,x=.str i/\y=.str j/\Q (.bl (!(!(Builtin.Str.occurrences j i 0 j.length 1).isEmpty))) H):=by
 intro pins s σ H x y v u Q I rx ry h;obtain ⟨i,j,rfl,rfl,q⟩:=h;obtain ⟨t,rfl⟩:=rx;obtain ⟨t',rfl⟩:=ry;exact notIn_str ⟨.bl _,H,I,rfl,q⟩
theorem kZ:wC X (.builtin "len") (fun xs H Q=>∃ p ys,xs=[.ref p]/\(sJ X.K H p ys\/tV X.K H p ys)/\Q (.int ys.length) H):=by
 intro pins s σ H xs us Q I r h;obtain ⟨p,ys,rfl,hq,q⟩:=h;obtain ⟨u,rfl,rx⟩:=kT r;cases rx;have hn:=vC;rcases hq with hq|hq
 .obtain ⟨its,r',pl,hz⟩:=I.list hq;have hlen:=r'.length;exact Calls.call_len_list pl.isList (by simp only [zzS]<;>omega) ⟨.int ys.length,H,I.tok _,⟨s.toks+1,by rw [zzS,hlen]⟩,q⟩
 .obtain ⟨its,r',pl,hz⟩:=I.tuple hq;have hlen:=r'.length;exact len_tuple pl (by simp only [zzS]<;>omega) ⟨.int ys.length,H,I.tok _,⟨s.toks+1,by rw [zzS,hlen]⟩,q⟩
theorem cU:wC X (.builtin "len") (fun xs H Q=>∃ z,xs=[.str z]/\z.length<=sizeLine/\Q (.int z.length) H):=by
 intro pins s σ H xs us Q I r h;obtain ⟨z,rfl,hz,q⟩:=h;obtain ⟨u,rfl,t,rfl⟩:=kT r;have hn:=vC;exact len_str (by omega) ⟨.int z.length,H,I.tok _,⟨_,rfl⟩,q⟩
theorem cV:wC X (.type "list") (fun xs H Q=>∃ p ys,xs=[.ref p]/\(sJ X.K H p ys\/tV X.K H p ys)/\∀ l,H l=none->Q (.ref l) (yT H l (.lst ys))):=by
 intro pins s σ H xs us Q I r h;obtain ⟨p,ys,rfl,hq,q⟩:=h;obtain ⟨u,rfl,rx⟩:=kT r;cases rx
 have fin:∀ (its:List Value),zF ys its->ys.length<=sizeLine->∀ (h':Heap) (c':Nat),(∀ b o',s.heap.get? b=some o'->h'.get? b=some o') ->
   h'.get? s.heap.objs.size=some { cls:=.type "list", dict:=none,data:=.seq its.toArray c',slots:=#[] }->EP X pins σ Q (.ref s.heap.objs.size) { s with heap:=h' }:=fun its r' hz h' c' kp e =>
  ⟨.ref s.heap.objs.size,_,I.laid (t':=s.toks) kp (zzR _) (show xU X.prog X.w _ h' _ (.lst ys) from ⟨hz,its,c',r',e⟩),rfl,q _ (I.hok.fresh (zzR _))⟩
 rcases hq with hq|hq
 .obtain ⟨its,r',pl,hz⟩:=I.list hq;have hlen:=r'.length;obtain ⟨o,ho,hc,n,hd⟩:=pl.isList;exact call_list_seq p (.inl rfl) ho hc hd (fun h' c' kp e=>fin its r' hz h' c' kp e) (by simp only [zzS]<;>omega)
 .obtain ⟨its,r',pl,hz⟩:=I.tuple hq;have hlen:=r'.length;obtain ⟨o,ho,hc,n,hd⟩:=pl;exact call_list_seq p (.inr rfl) ho hc hd (fun h' c' kp e=>fin its r' hz h' c' kp e) (by simp only [zzS]<;>omega)
def tyV (K:PySem.W.Frag) (T:String) (x:V) (H:Hp):Prop:=match x with
 | .str _=>T = "str"
 | .int _=>T = "int"
 | .ref p=>(T = "list" /\ ∃ xs,sJ K H p xs)\/(T = "tuple" /\ ∃ o,K.lookup p=some o/\o.cls=.type "tuple" /\ o.dict=none) \/
   (T = "dict" /\ ((∃ kvs,H p=some (.dK kvs))\/∃ kvs,H p=some (.dT kvs)))\/(T = "set" /\ ∃ S n,H p=some (.set S n))
 |_=>False
theorem zec {pins:List (Addr×Obj)} {σ:St} {H:Hp} {s:Shared} {T:String} {x:V} {v:Value} (I:Inv X pins σ H s) (r:zC x v) (ty:tyV X.K T x H) :
  s.TypeIs v T/\∀ a,v=.ref a->∃ ob,s.heap.get? a=some ob/\ob.dict=none:=by
 cases x with
 |str z =>
  obtain ⟨t,rfl⟩:=r;cases (show T = "str" from ty);exact ⟨typeIs_str s z t,fun _ e=>nomatch e⟩
 |int i =>
  obtain ⟨t,rfl⟩:=r;cases (show T = "int" from ty);exact ⟨typeIs_int s i t,fun _ e=>nomatch e⟩
 |ref p =>
  cases r;rcases ty with ⟨rfl,xs,hq⟩|⟨rfl,o,hk,hc,hd⟩|⟨rfl,hk⟩|⟨rfl,S,n,hk⟩
  .obtain ⟨its,_,pl,_⟩:=I.list hq;refine ⟨pl.isList.typeIs,fun a e=>?_⟩;cases e;obtain ⟨o,n,e,c,hd,_⟩:=pl;exact ⟨o,e,hd⟩
  .refine ⟨⟨o,I.kIn p o hk,hc⟩,fun a e=>?_⟩;cases e;exact ⟨o,I.kIn _ o hk,hd⟩
  .have z:∃ o,s.heap.get? p=some o/\o.ExactDict:=by
    rcases hk with ⟨kvs,hk⟩|⟨kvs,hk⟩
    .obtain ⟨_,_,_,_,o,_,_,e,ex,_⟩:=I.hok p _ hk;exact ⟨o,e,ex⟩
    .obtain ⟨_,_,_,_,o,_,_,e,ex,_⟩:=I.hok p _ hk;exact ⟨o,e,ex⟩
   obtain ⟨o,e,ex⟩:=z;refine ⟨⟨o,e,ex.1⟩,fun a e2=>?_⟩;cases e2;exact ⟨o,e,ex.2.1⟩
  .obtain ⟨o,_,_,_,e,ex,_⟩:=I.hok p _ hk;refine ⟨⟨o,e,ex.1⟩,fun a e2=>?_⟩;cases e2;exact ⟨o,e,ex.2.1⟩
 |_=>exact False.elim ty
def tBM0 (K:PySem.W.Frag) (T:String) (r:V->List V->Hp->VK->Prop) (to:TE):TE:=fun σ H Q=>to σ H fun x H1=>tyV K T x H1/\r x [] H1 Q
def tBM (K:PySem.W.Frag) (T:String) (r:V->List V->Hp->VK->Prop) (to:TE) (t:TA):TE:=fun σ H Q=>to σ H fun x H1=>tyV K T x H1/\t σ H1 fun xs H2=>r x xs H2 Q
variable {o e : Expr} {es : List Expr} {to : TE} {t : TA} {name : Str} {apos cpos : Pos} {T id : String} {r : V → List V → Hp → VK → Prop}
theorem zhT (pa:PlainAttrs T) (slot:Slot T name id) (hty:typeOf (.builtin id)=pure (.type "method_descriptor")) (hm:MtR X id r) (ho:PE X o to)
  (hbase:attributeBase o name X.env (eval o X.env)=eval o X.env:=by rfl) (hline:(apos.endLine==cpos.line)=true:=by rfl):PE X (.Call (.Attribute o name apos) [] [] cpos) (tBM0 X.K T r to):=by
 intro pins s σ H Q I h;refine wpAny_Call_method0_late hbase hline (yI (ho pins s σ H _ I h) fun v s1 ⟨x,H1,I1,r1,ty,q1⟩=>?_);obtain ⟨h1,h2⟩:=zec I1 r1 ty;exact ⟨T,id,pa,slot,hty,h1,h2,Calls.callWith_builtin rfl (PySem.evalArgs_none (hm pins s1 σ H1 x [] v [] Q I1 r1 .nil q1))⟩
theorem pe_bm (pa:PlainAttrs T) (slot:Slot T name id) (hty:typeOf (.builtin id)=pure (.type "method_descriptor")) (hm:MtR X id r) (ho:PE X o to) (ha:PA X (e::es) t)
  (hbase:attributeBase o name X.env (eval o X.env)=eval o X.env:=by rfl)
  (hfew:((backTo cpos (starEach (e::es) X.env)).all (fun x=>!x.1)&&(backToKw cpos (keywordEach [] X.env)).all (fun x=>x.1.isSome)
   && decide ((e::es).length+([]:List Keyword).length+(if ([]:List Keyword).isEmpty then 0 else 1)<30))=true:=by rfl)
  (hline:(apos.endLine==cpos.line)=true:=by rfl) (hs:starEach (e::es) X.env=(false,eval e X.env)::starEach es X.env:=by rfl) (hplain:(backTo cpos (starEach es X.env)).any (·.1)=false:=by rfl) :
  PE X (.Call (.Attribute o name apos) (e::es) [] cpos) (tBM X.K T r to t):=by
 intro pins s σ H Q I h;refine wpAny_Call_method_late hbase hfew hline rfl (yI (ho pins s σ H _ I h) fun v s1 ⟨x,H1,I1,r1,ty,q1⟩=>?_);obtain ⟨h1,h2⟩:=zec I1 r1 ty;refine ⟨T,id,pa,slot,hty,h1,h2,?_⟩;have hA:=ha cpos pins s1 σ H1 _ I1 q1;rw [hs] at hA ⊢;refine Calls.callWith_builtin (by show (false || (backTo cpos (starEach es X.env)).any (·.1))=false;rw [hplain]<;>rfl) (Calls.evalArgs_plain ?_);exact yI hA fun us s2 ⟨vs,H2,I2,r2,q2⟩=>hm pins s2 σ H2 x vs v us Q I2 r1 r2 q2
/- xs.append(e),list.index on a module's tuple .. are MtR facts of 06m -/
end
end L2
namespace L2
open PySem PySem.Spec PyProof.Rows
def MtM (X:Cx) (id:String) (r:V->List V->Hp->VK->Prop):Prop :=
 ∀ (pins:List (Addr×Obj)) (s:Shared) (σ:St) (H:Hp) (x:V) (xs:List V) (v:Value) (us:List Value) (Q:VK),Inv X pins σ H s->zC x v->zF xs us->r x xs H Q ->
  wpAny (model X.prog X.w) X.A (call (.builtin id) (v::us)) (EP X pins σ Q) X.xe s
theorem zF.one:∀ {x:V} {us:List Value},zF [x] us->∃ u,us=[u]/\zC x u
 |_,_,.cons r .nil=>⟨_,rfl,r⟩
theorem zF.zero:∀ {us:List Value},zF [] us->us=[]
 |_,.nil=>rfl
theorem zF.dropLast {xs:List V} {us:List Value} (h:zF xs us):zF xs.dropLast us.dropLast:=by
 induction h with
 |nil=>exact .nil
 |cons r t ih =>
  cases t with
  |nil=>exact .nil
  |cons q t'=>exact .cons r ih
theorem zF.eraseIdx:∀ {xs:List V} {us:List Value} (i:Nat),zF xs us->zF (xs.eraseIdx i) (us.eraseIdx i)
 |_,_,_,.nil=>.nil
 |_,_,0,.cons _ t=>t
 |_,_,i+1,.cons r t=>.cons r (zF.eraseIdx i t)
theorem zF.rep {xs:List V} {us:List Value} (h:zF xs us):∀ k:Nat,zF (List.replicate k xs).flatten (List.replicate k us).flatten
 | 0=>.nil
 |k+1=>by
  rw [List.replicate_succ,List.replicate_succ,List.flatten_cons,List.flatten_cons];exact zF.append h (zF.rep h k)
theorem zaI {α:Type} (l:List α):l.eraseIdx (l.length-1)=l.dropLast:=by
 induction l with
 |nil=>rfl
 |cons a r ih =>
  cases r with
  |nil=>rfl
  |cons b r =>
   have e:(a::b::r).length-1=((b::r).length-1)+1:=by
    have h1:(a::b::r).length=r.length+2:=rfl;have h2:(b::r).length=r.length+1:=rfl;omega
   rw [e,List.eraseIdx_cons_succ,ih]
   all_goals rfl
theorem gK {α:Type}:∀ (l:List α) (i:Nat),(l.eraseIdx i).length<=l.length
 | [],_=>zzR _
 |_::_,0=>Nat.le_succ _
 |_::r,i+1=>Nat.succ_le_succ (gK r i)
theorem gA (its:List Value):∀ (k:Nat) (acc:List Value),
  List.foldl (fun x1 x2=>x1++x2) acc.toArray (List.replicate k its.toArray)=(acc++(List.replicate k its).flatten).toArray
 | 0,acc=>by simp
 |k+1,acc=>by
  have e:acc.toArray++its.toArray=(acc++its).toArray:=by simp
  have e2:(acc++its)++(List.replicate k its).flatten=acc++(List.replicate (k+1) its).flatten:=by
   rw [List.replicate_succ,List.flatten_cons,List.append_assoc]
  rw [← e2,← gA its k (acc++its),← e,List.replicate_succ,List.foldl_cons]
section
variable {X : Cx} {pins : List (Addr × Obj)} {σ : St} {H : Hp} {s : Shared} {l b : Addr} {xs ys zs : List V}
theorem Inv.lset {its its':List Value} {n:Nat} {f:Array Value->Array Value} {t':Nat} (I:Inv X pins σ H s) (hH:H l=some (.lst xs))
  (e:s.heap.get? l=some { cls:=.type "list", data:=.seq its.toArray n }) (hf:f its.toArray=its'.toArray) (hv:zF ys its') (hz:ys.length<=sizeLine) (ht:0<t':=by first|exact Nat.succ_pos _|exact L2.Inv.tk (by assumption)|exact L2.Inv.tk ‹L2.Inv _ _ _ _ _› | assumption|omega) :
  Inv X pins σ (yT H l (.lst ys)) { s with heap:=s.heap.update l (Obj.mapSeq f),toks:=t' }:=by
 have q:=PySem.IsL.update e f;rw [hf] at q;refine I.write (x:=l) (e:=l) (by rw [hH];exact trivial) (.inl rfl) (fun b' u hb hu=>(Heap.get?_update_other s.heap (Obj.mapSeq f) (Ne.symm hb)).trans hu) ⟨_,q⟩ ?_;exact ⟨hz,its',_,hv,q⟩
theorem Inv.lnew {its:List Value} {t':Nat} (I:Inv X pins σ H s) (hv:zF ys its) (hz:ys.length<=sizeLine) (ht:0<t':=by first|exact Nat.succ_pos _|exact L2.Inv.tk (by assumption)|exact L2.Inv.tk ‹L2.Inv _ _ _ _ _› | assumption|omega) :
  Inv X pins σ (yT H s.heap.objs.size (.lst ys)) { s with heap:=s.heap.push { cls:=.type "list", data:=.seq its.toArray },toks:=t' } :=
 I.laid (fun _ _ q=>Heap.get?_push_of_some _ q) (zzR _) ⟨hz,its,0,hv,Heap.get?_push_size _ rfl⟩
theorem Inv.fresh (I:Inv X pins σ H s):H s.heap.objs.size=none:=I.hok.fresh (zzR _)
theorem Inv.lstM (I:Inv X pins σ H s) (hH:H l=some (.lst xs)):xs.length<=sizeLine/\∃ (its:List Value) (n:Nat),zF xs its/\xs.length=its.length/\s.heap.get? l=some { cls:=.type "list", data:=.seq its.toArray n }:=by
 obtain ⟨z,its,n,r,e⟩:=I.hok l _ hH;exact ⟨z,its,n,r,r.length,e⟩
theorem zdm {n:Nat} (h:n<=sizeLine):Builtin.List.listTooLong n=false:=by
 unfold Builtin.List.listTooLong;exact decide_eq_false (by omega)
end
section
variable {X : Cx}
def zfr:V->List V->Hp->VK->Prop:=fun x vs H Q=>∃ l xs y,x=.ref l/\vs=[y]/\H l=some (.lst xs)/\xs.length<sizeLine/\Q .non (yT H l (.lst (xs++[y])))
theorem zbx:MtM X "list.append" zfr:=by
 intro pins s σ H x vs v us Q I rx rv h;obtain ⟨l,xs,y,rfl,rfl,hH,hz,q⟩:=h;cases rx;obtain ⟨u,rfl,ru⟩:=rv.one;obtain ⟨z,its,n,r,hl,e⟩:=I.lstM hH;refine call_meets F.slot_list_append ⟨_,e,rfl⟩ F.entry_list_append (F.args_list_append_2 _ _) (PySem.list_append l its.toArray n u (by rw [zzS];omega)) ⟨e,?_⟩;refine ⟨.non,_,I.lset (its':=its++[u]) hH e (by simp) (r.append (.cons ru .nil)) ?_,rfl,q⟩;rw [zzW,List.length_singleton];omega
def rPop:V->List V->Hp->VK->Prop:=fun x vs H Q=>∃ l xs y,x=.ref l/\vs=[]/\H l=some (.lst xs)/\xs[xs.length-1]?=some y/\Q y (yT H l (.lst xs.dropLast))
theorem zh8:MtM X "list.pop" rPop:=by
 intro pins s σ H x vs v us Q I rx rv h;obtain ⟨l,xs,y,rfl,rfl,hH,hy,q⟩:=h;cases rx;have hus:=rv.zero;subst hus;obtain ⟨z,its,n,r,hl,e⟩:=I.lstM hH;obtain ⟨u,hu,ru⟩:=r.get hy
 have hy':its.toArray[its.toArray.size-1]?=some u:=by
  show its.toArray[its.length-1]?=some u;rw [← Array.getElem?_toList,← hl];exact hu
 refine call_meets F.slot_list_pop ⟨_,e,rfl⟩ F.entry_list_pop (F.args_list_pop_1 _) (MeetsSeq.list_pop_last l its.toArray n u hy' (by rw [zzS];omega)) ⟨e,?_⟩;refine ⟨y,_,I.lset (its':=its.dropLast) hH e ?_ r.dropLast ?_,ru,q⟩
 .show its.toArray.eraseIdxIfInBounds (its.toArray.size-1)=its.dropLast.toArray;rw [zzS,List.eraseIdxIfInBounds_toArray,zaI]
 .rw [List.length_dropLast];omega
def zhy:V->List V->Hp->VK->Prop:=fun x vs H Q=>∃ l xs i k y,x=.ref l/\vs=[.int i]/\H l=some (.lst xs)/\-(2 ^ 63)<=i/\i<2 ^ 63/\seqIndex? i xs.length=some k/\xs[k]?=some y/\Q y (yT H l (.lst (xs.eraseIdx k)))
theorem zdo:MtM X "list.pop" zhy:=by
 intro pins s σ H x vs v us Q I rx rv h;obtain ⟨l,xs,i,k,y,rfl,rfl,hH,h1,h2,hk,hy,q⟩:=h;cases rx;obtain ⟨u,rfl,ru⟩:=rv.one;obtain ⟨t,rfl⟩:=ru;obtain ⟨z,its,n,r,hl,e⟩:=I.lstM hH;obtain ⟨w,hw,rw'⟩:=r.get hy
 refine call_meets F.slot_list_pop ⟨_,e,rfl⟩ F.entry_list_pop (F.args_list_pop_2 _ _)
  (MeetsSeq.list_pop_at l its.toArray n i t k w (fitsIndex_both h1 h2) (by rw [zzS,← hl];exact hk) (by rw [← Array.getElem?_toList];exact hw) (by rw [zzS];omega)) ⟨e,?_⟩
 refine ⟨y,_,I.lset (its':=its.eraseIdx k) hH e ?_ (r.eraseIdx k) ?_,rw',q⟩
 .show its.toArray.eraseIdxIfInBounds k=(its.eraseIdx k).toArray;rw [List.eraseIdxIfInBounds_toArray]
 .have:=gK xs k;omega
def rCat:R2:=fun x y H Q=>∃ l b xs zs,x=.ref l/\y=.ref b/\H l=some (.lst xs)/\H b=some (.lst zs)/\xs.length+zs.length<=sizeLine/\∀ p,H p=none->Q (.ref p) (yT H p (.lst (xs++zs)))
theorem zh0:qN X (binaryOp .Add) rCat:=by
 intro pins s σ H x y v u Q I rx ry h;obtain ⟨l,b,xs,zs,rfl,rfl,hH,hB,hz,q⟩:=h;cases rx;cases ry;obtain ⟨z,its,n,r,hl,e⟩:=I.lstM hH;obtain ⟨z2,its2,n2,r2,hl2,e2⟩:=I.lstM hB;refine PySem.P.add_list e e2 ?_ (by rw [zzS,zzS];omega);have ea:its.toArray++its2.toArray=(its++its2).toArray:=by simp
 rw [ea];exact ⟨.ref _,_,I.lnew (t':=s.toks) (r.append r2) (by rw [zzW];omega),rfl,q _ I.fresh⟩
def rRep:R2:=fun x y H Q=>∃ l k xs,x=.ref l/\y=.int k/\H l=some (.lst xs)/\-(2 ^ 63)<=k/\k<2 ^ 63/\xs.length * k.toNat<=sizeLine /\
 ∀ p,H p=none->Q (.ref p) (yT H p (.lst (List.replicate k.toNat xs).flatten))
theorem zfU {α:Type} (xs:List α) (k:Nat):(List.replicate k xs).flatten.length=k * xs.length:=by
 induction k with
 |zero=>simp
 |succ k ih=>rw [List.replicate_succ,List.flatten_cons,zzW,ih,Nat.succ_mul,Nat.add_comm]
theorem zhW:qN X (binaryOp .Mult) rRep:=by
 intro pins s σ H x y v u Q I rx ry h;obtain ⟨l,k,xs,rfl,rfl,hH,h1,h2,hz,q⟩:=h;cases rx;obtain ⟨t,rfl⟩:=ry;obtain ⟨z,its,n,r,hl,e⟩:=I.lstM hH;have hlen:its.toArray.size * k.toNat<=sizeLine:=by rw [zzS,← hl];exact hz
 have hcap:¬ its.toArray.size * k.toNat > (2 ^ 63-1) / 8:=by
  have:(sizeLine:Nat)<=(2 ^ 63-1) / 8:=by decide
  omega
 have hfit:¬ (!Builtin.List.listFitsIndex k)=true:=by
  rw [fitsIndex_both h1 h2];exact zzN
 have hlong:¬ Builtin.List.listTooLong (its.toArray.size * k.toNat)=true:=by
  rw [zdm hlen];exact zzN
 have hnew:List.foldl (fun x1 x2=>x1++x2) #[] (List.replicate (if its.toArray.isEmpty=true then 0 else k.toNat) its.toArray)=(List.replicate k.toNat its).flatten.toArray:=by
  have f0:∀ m:Nat,List.foldl (fun x1 x2=>x1++x2) #[] (List.replicate m its.toArray)=(List.replicate m its).flatten.toArray:=fun m=>by
   have:=gA its m [];rw [List.nil_append] at this;exact this
  rw [f0]
  cases its with
  |nil=>simp
  |cons a r'=>rw [if_neg (by simp)]
 refine wpAny_binaryOp_repeat_ref (T := "list") (U := "int") (by decide) ⟨_,e,rfl⟩ (fun s'=>typeIs_int s' k t) noFill_list_mul F.fills_int_mul F.slot_int_rmul repeat_list F.slot_int_index.lookup
  (call_meets F.slot_int_rmul (typeIs_int s k t) F.entry_int_rmul (F.args_int_rmul_2 _ _) (int___rmul___int_list k t l its.toArray n)
   ⟨e,rfl,⟨_,e,rfl⟩,call_meets F.slot_list_mul ⟨_,e,rfl⟩ F.entry_list_mul (F.args_list_mul_2 _ _) (AutoListH.list___mul___list_int_3 l its.toArray n k t hfit hcap hlong) ⟨e,?_⟩⟩)
 rw [hnew];exact ⟨.ref _,_,I.lnew (t':=s.toks) (r.rep k.toNat) (by rw [zfU,Nat.mul_comm];exact hz),rfl,q _ I.fresh⟩
end
section
variable {prog : Program} {w : World} {A : Around} {E : Value → Shared → Prop} {s : Shared}
set_option maxRecDepth 100000 in
end
section
variable {X : Cx}
end
end L2
namespace L2
open PySem PySem.Spec PyProof.Rows
section
variable {κ : Type} [DecidableEq κ]
def kP (kvs:List (κ×V)) (k:κ):Option V:=(kvs.find? fun kv=>decide (kv.1=k)).map (·.2)
def jN (kvs:List (κ×V)) (k:κ) (v:V):List (κ×V) :=
 if (kvs.any fun kv=>decide (kv.1=k))=true then kvs.map (fun kv=>if kv.1=k then (kv.1,v) else kv) else kvs++[(k,v)]
def fZ (kvs:List (κ×V)) (k:κ):List (κ×V):=kvs.filter fun kv=>decide (kv.1≠k)
theorem rL {p:κ×V} {r:List (κ×V)} {k:κ} (e:p.1=k):kP (p::r) k=some p.2:=by simp [kP,List.find?_cons,e]
theorem rK {p:κ×V} {r:List (κ×V)} {k:κ} (e:¬ p.1=k):kP (p::r) k=kP r k:=by simp [kP,List.find?_cons,e]
theorem cF (k:κ):∀ kvs:List (κ×V),(kvs.any fun kv=>decide (kv.1=k))=(kP kvs k).isSome
 | []=>rfl
 |p::r=>by
  rw [List.any_cons]
  by_cases e:p.1=k
  .simp only [rL e,decide_eq_true e,Bool.true_or,Option.isSome_some]
  .rw [rK e,decide_eq_false e,Bool.false_or];exact cF k r
theorem kD (kvs:List (κ×V)) (k:κ) (v:V):(jN kvs k v).length<=kvs.length+1:=by
 unfold jN
 split
 .rw [zzM];omega
 .rw [zzW,List.length_cons,List.length_nil];omega
theorem uW.isSome_eq {o:Option V} {u:Option Value} (r:uW o u):o.isSome=u.isSome:=by
 cases o with
 |none=>cases u with
  |none=>rfl
  |some _=>exact (show False from r).elim
 |some _=>cases u with
  |none=>exact (show False from r).elim
  |some _=>rfl
theorem KV.val {kvs:List (κ×V)} {vs:List (κ×Value)} (r:KV kvs vs) (k:κ):uW (kP kvs k) (valueAt vs k):=by
 unfold KV at r
 induction r with
 |nil=>exact True.intro
 | @cons p q ps qs h t ih =>
  obtain ⟨h1,h2⟩:=h
  by_cases e:p.1=k
  .have e':q.1=k:=h1.symm.trans e;have b:valueAt (q::qs) k=some q.2:=by simp [valueAt,List.find?_cons,e']
   rw [rL e,b];exact h2
  .have e':¬ q.1=k:=fun z=>e (h1.trans z);have b:valueAt (q::qs) k=valueAt qs k:=by simp [valueAt,List.find?_cons,e']
   rw [rK e,b];exact ih
theorem KV.any {kvs:List (κ×V)} {vs:List (κ×Value)} (r:KV kvs vs) (k:κ):(kvs.any fun kv=>decide (kv.1=k))=vs.any fun kv=>decide (kv.1=k):=by
 unfold KV at r
 induction r with
 |nil=>rfl
 |cons h t ih=>rw [List.any_cons,List.any_cons,ih,h.1]
theorem KV.repl {kvs:List (κ×V)} {vs:List (κ×Value)} (r:KV kvs vs) (k:κ) {y:V} {u:Value} (ry:zC y u) :
  KV (kvs.map fun kv=>if kv.1=k then (kv.1,y) else kv) (vs.map fun kv=>if kv.1=k then (kv.1,u) else kv):=by
 unfold KV at r ⊢
 induction r with
 |nil=>exact .nil
 | @cons p q ps qs h t ih =>
  rw [zzU,zzU];refine .cons ?_ ih;obtain ⟨h1,h2⟩:=h
  by_cases e:p.1=k
  .rw [if_pos e,if_pos (h1.symm.trans e)];exact ⟨h1,ry⟩
  .rw [if_neg e,if_neg (fun z=>e (h1.trans z))];exact ⟨h1,h2⟩
theorem KV.put {kvs:List (κ×V)} {vs:List (κ×Value)} (r:KV kvs vs) (k:κ) {y:V} {u:Value} (ry:zC y u):KV (jN kvs k y) (stored vs k u):=by
 unfold jN stored;rw [r.any k]
 by_cases e:(vs.any fun kv=>decide (kv.1=k))=true
 .rw [if_pos e,if_pos e];exact r.repl k ry
 .rw [if_neg e,if_neg e];exact Paired.snoc r ⟨rfl,ry⟩
theorem KV.length {kvs:List (κ×V)} {vs:List (κ×Value)} (r:KV kvs vs):kvs.length=vs.length:=Paired.length r
end
theorem gG {P:Program} {w:World} {k:yH} {u:Value} (r:zC (kV k) u):(xR P w).is k u=true:=by
 cases k with
 |inl i=>obtain ⟨t,e⟩:=(show ∃ t,u=Value.int i t from r);subst e;exact zab P w i t
 |inr x=>obtain ⟨t,e⟩:=(show ∃ t,u=Value.str x t from r);subst e;exact zaa P w x t
theorem gE {P:Program} {w:World}:∀ {ks:List yH} {us:List Value},zF (ks.map kV) us->ItemsAre (xR P w) ks us
 | [],_,r=>by rw [zzV] at r;cases r;exact .nil
 |k::ks,_,r=>by
  rw [zzU] at r
  cases r with
  |cons h t=>exact .cons (gG h) (gE t)
abbrev KT (H:Hp):List (List yH×V)->List (List yH×Addr×Value)->Prop:=Paired fun p q=>p.1=q.1/\H q.2.1=some (.tup (p.1.map kV))/\zC p.2 q.2.2
theorem KT.val {H:Hp} {kvs:List (List yH×V)} {xs:List (List yH×Addr×Value)} (r:KT H kvs xs) (k:List yH):uW (kP kvs k) ((atKey xs k).map (·.2)):=by
 induction r with
 |nil=>exact True.intro
 | @cons p q ps qs h t ih =>
  obtain ⟨h1,_,h2⟩:=h
  by_cases e:p.1=k
  .have e':q.1=k:=h1.symm.trans e;have b:atKey (q::qs) k=some q.2:=by simp [atKey,List.find?_cons,e']
   rw [rL e,b];exact h2
  .have e':¬ q.1=k:=fun z=>e (h1.trans z);have b:atKey (q::qs) k=atKey qs k:=by simp [atKey,List.find?_cons,e']
   rw [rK e,b];exact ih
theorem KT.repl {H:Hp} {kvs:List (List yH×V)} {xs:List (List yH×Addr×Value)} (r:KT H kvs xs) (k:List yH) {y:V} {u:Value} (ry:zC y u) :
  KT H (kvs.map fun kv=>if kv.1=k then (kv.1,y) else kv) (xs.map (putAt k u)):=by
 induction r with
 |nil=>exact .nil
 | @cons p q ps qs h t ih =>
  rw [zzU,zzU];refine .cons ?_ ih;obtain ⟨h1,h2,h3⟩:=h;unfold putAt
  by_cases e:p.1=k
  .rw [if_pos e,if_pos (h1.symm.trans e)];exact ⟨h1,h2,ry⟩
  .rw [if_neg e,if_neg (fun z=>e (h1.trans z))];exact ⟨h1,h2,h3⟩
theorem KT.put {H:Hp} {kvs:List (List yH×V)} {xs:List (List yH×Addr×Value)} (r:KT H kvs xs) (k:List yH) {b:Addr} {y:V} {u:Value} (hb:H b=some (.tup (k.map kV))) (ry:zC y u) :
  KT H (jN kvs k y) (storedH xs k b u):=by
 have e:(kvs.any fun kv=>decide (kv.1=k))=(atKey xs k).isSome:=by
  rw [cF,(r.val k).isSome_eq,Option.isSome_map]
 unfold jN storedH;rw [e]
 by_cases q:(atKey xs k).isSome=true
 .rw [if_pos q,if_pos q];exact r.repl k ry
 .rw [if_neg q,if_neg q];exact Paired.snoc r ⟨rfl,hb,ry⟩
theorem KT.keeps {H H':Hp} {kvs:List (List yH×V)} {xs:List (List yH×Addr×Value)} (r:KT H kvs xs) (ht:∀ b ys,H b=some (.tup ys)->H' b=some (.tup ys)):KT H' kvs xs :=
 Paired.mapP r fun _ _ z=>⟨z.1,ht _ _ z.2.1,z.2.2⟩
section
variable {P : Program} {w : World} {H : Hp} {h : Heap} {a : Addr}
theorem zhv {u:HO} (ok:kK P w H h) (e:Rd H a u):xU P w H h a u:=e.ok ok
theorem nX {kvs:List (yH×V)} (ok:kK P w H h) (e:Rd H a (.dK kvs)):kvs.length<=sizeLine/\(a==sysModules)=false/\∃ vs,KV kvs vs/\h.DictOf (xR P w) a vs :=
 show xU P w H h a (.dK kvs) from zhv ok e
theorem ziT {kvs:List (yH×V)} (ok:kK P w H h) (e:H a=some (.dK kvs)):kvs.length<=sizeLine/\(a==sysModules)=false/\∃ vs,KV kvs vs/\h.DictOf (xR P w) a vs:=nX ok (.inl e)
theorem pF {ks:List yH} (ok:kK P w H h) (e:H a=some (.tup (ks.map kV))):(tupleKind (xR P w)).is h ks a:=by
 obtain ⟨_,its,r,o,h1,h2,n,h3⟩:=(show xU P w H h a (.tup (ks.map kV)) from ok a _ e);exact ⟨o,its.toArray,n,h1,h2,h3,by simpa using gE r⟩
theorem zca {kvs:List (List yH×V)} (ok:kK P w H h) (e:Rd H a (.dT kvs)):kvs.length<=sizeLine/\(a==sysModules)=false /\
  ∃ xs,KT H kvs xs/\h.DictOfH (tupleKind (xR P w)) a xs:=by
 obtain ⟨z,y,xs,r,o,es,ep,h1,h2,h3,h4,h5⟩:=(show xU P w H h a (.dT kvs) from zhv ok e);refine ⟨z,y,xs,r,o,es,ep,h1,h2,h3,h4,fun x hx=>?_,h5⟩
 have all:∀ {l:List (List yH×V)} {m:List (List yH×Addr×Value)},KT H l m->∀ x∈m,(tupleKind (xR P w)).is h x.1 x.2.1:=by
  intro l m q
  induction q with
  |nil=>intro x hx;exact nomatch hx
  | @cons p q ps qs hq t ih =>
   intro x hx;rcases List.mem_cons.mp hx with e|hx
   .subst e;exact pF ok (by rw [← hq.1];exact hq.2.1)
   .exact ih x hx
 exact all r x hx
theorem dt_of {kvs:List (List yH×V)} (ok:kK P w H h) (e:H a=some (.dT kvs)):kvs.length<=sizeLine/\(a==sysModules)=false /\
  ∃ xs,KT H kvs xs/\h.DictOfH (tupleKind (xR P w)) a xs:=zca ok (.inl e)
end
def DGet (H:Hp) (a:Addr) (y:V) (r:Option V):Prop :=
 (∃ kvs k,Rd H a (.dK kvs)/\y=kV k/\r=kP kvs k)\/∃ kvs k b,Rd H a (.dT kvs)/\y=.ref b/\H b=some (.tup (k.map kV))/\r=kP kvs k
def DPut (H:Hp) (a:Addr) (y v:V) (H':Hp):Prop :=
 (∃ kvs k,H a=some (.dK kvs)/\y=kV k/\kvs.length<sizeLine/\H'=yT H a (.dK (jN kvs k v))) \/
 ∃ kvs k b,H a=some (.dT kvs)/\y=.ref b/\H b=some (.tup (k.map kV))/\kvs.length<sizeLine/\H'=yT H a (.dT (jN kvs k v))
section
variable {X : Cx} {pins : List (Addr × Obj)} {σ : St} {H : Hp} {s : Shared} {a : Addr} {y v : V} {u r : Value} {o : Option V} {A : Around} {E : Value → Shared → Prop}
theorem Inv.big (I:Inv X pins σ H s):sysModules<s.heap.objs.size:=by
 have h:mainGlobals<s.heap.objs.size:=(I.mod.glob.keeps I.bk).lt;exact Nat.lt_trans (by decide) h
theorem zcf {Q:Value->Shared->Prop} (hu:A.units+1<cLine) (I:Inv X pins σ H s) (g:DGet H a y (some v)) (ry:zC y u) (h:∀ w' s',Inv X pins σ H s'->zC v w'->Q w' s') :
  wpAny (model X.prog X.w) A (getItem (.ref a) u) Q E s:=by
 rcases g with ⟨kvs,k,e,ey,l⟩|⟨kvs,k,b,e,ey,eb,l⟩
 .subst ey;obtain ⟨z,hd,vs,rel,dd⟩:=nX I.hok e;obtain ⟨w',hw,rw'⟩:=uW.some_of (v:=v) (o:=valueAt vs k) (by rw [l];exact rel.val k);exact wpAny_getItem_of (gG ry) dd.mapOf hw (h w' _ (I.tok _) rw')
 .subst ey;cases (show u=Value.ref b from ry);obtain ⟨z,hd,xs,rel,dd⟩:=zca I.hok e;obtain ⟨w',hw,rw'⟩:=uW.some_of (v:=v) (o:=(atKey xs k).map (·.2)) (by rw [l];exact rel.val k);obtain ⟨p,hp,hp2⟩:=Option.map_eq_some_iff.mp hw;refine wpAny_getItem_heap (tupleKind_room_in1 hu) (pF I.hok eb) dd hp ?_;rw [hp2];exact h w' _ (I.tok _) rw'
theorem d_in {Q:Value->Shared->Prop} (hu:A.units+1<cLine) (I:Inv X pins σ H s) (g:DGet H a y o) (ry:zC y u) (h:∀ s',Inv X pins σ H s'->Q (.bool o.isSome) s') :
  wpAny (model X.prog X.w) A (compareOp .In u (.ref a)) Q E s:=by
 rcases g with ⟨kvs,k,e,ey,l⟩|⟨kvs,k,b,e,ey,eb,l⟩
 .subst ey;obtain ⟨z,hd,vs,rel,dd⟩:=nX I.hok e;refine wpAny_in_of (gG ry) hd dd.mapOf ?_;rw [← (rel.val k).isSome_eq,← l];exact h _ (I.tok _)
 .subst ey;cases (show u=Value.ref b from ry);obtain ⟨z,hd,xs,rel,dd⟩:=zca I.hok e;refine wpAny_in_heap (tupleKind_room_in1 hu) (pF I.hok eb) hd dd ?_;have q:=(rel.val k).isSome_eq;rw [Option.isSome_map] at q;rw [← q,← l];exact h _ (I.tok _)
theorem zgF {Q:Value->Shared->Prop} (hu:A.units+1<cLine) (I:Inv X pins σ H s) (g:DGet H a y o) (ry:zC y u) (h:∀ s',Inv X pins σ H s'->Q (.bool (!o.isSome)) s') :
  wpAny (model X.prog X.w) A (compareOp .NotIn u (.ref a)) Q E s:=by
 rcases g with ⟨kvs,k,e,ey,l⟩|⟨kvs,k,b,e,ey,eb,l⟩
 .subst ey;obtain ⟨z,hd,vs,rel,dd⟩:=nX I.hok e;refine wpAny_notIn_of (gG ry) hd dd.mapOf ?_;rw [← (rel.val k).isSome_eq,← l];exact h _ (I.tok _)
 .subst ey;cases (show u=Value.ref b from ry);obtain ⟨z,hd,xs,rel,dd⟩:=zca I.hok e;refine wpAny_notIn_heap (tupleKind_room_in1 hu) (pF I.hok eb) hd dd ?_;have q:=(rel.val k).isSome_eq;rw [Option.isSome_map] at q;rw [← q,← l];exact h _ (I.tok _)
theorem dG {h':Heap} {t':Nat} {ob:HO} (I:Inv X pins σ H s) (mu:Mut (H a)) (hs:Heap.SameBut a s.heap h') (he:∃ q,h'.get? a=some q) (new:xU X.prog X.w (yT H a ob) h' a ob) (ht:0<t':=by first|exact Nat.succ_pos _|exact L2.Inv.tk (by assumption)|exact L2.Inv.tk ‹L2.Inv _ _ _ _ _› | assumption|omega) :
  Inv X pins σ (yT H a ob) { s with heap:=h',toks:=t' } :=
 I.write (x:=a) (e:=a) mu (.inl rfl) (fun b q hb z=>(hs.2 b hb).trans z) he new
theorem zeN {P:Program} {w:World} {H':Hp} {h':Heap} {kvs:List (yH×V)} {vs:List (yH×Value)} (z:kvs.length<=sizeLine) (hd:(a==sysModules)=false) (rel:KV kvs vs) (dd:h'.DictOf (xR P w) a vs) :
  xU P w H' h' a (.dK kvs):=⟨z,hd,vs,rel,dd⟩
theorem zce {H':Hp} {Q:Unit->Shared->Prop} (hu:A.units+1<cLine) (I:Inv X pins σ H s) (g:DPut H a y v H') (ry:zC y u) (rv:zC v r) (h:∀ s',Inv X pins σ H' s'->Q () s') :
  wpAny (model X.prog X.w) A (setItem (.ref a) u r) Q E s:=by
 rcases g with ⟨kvs,k,e,ey,l,eH⟩|⟨kvs,k,b,e,ey,eb,l,eH⟩
 .subst ey eH;obtain ⟨z,hd,vs,rel,dd⟩:=ziT I.hok e;have hz:vs.length<=sizeLine:=by rw [← rel.length];exact z
  have hl:(jN kvs k v).length<=sizeLine:=by have:=kD kvs k v;omega
  refine wpAny_setItem_pairs (hsz:=hz) (gG ry) dd fun h' dd' hs=>h _ ?_;have he:∃ q,h'.get? a=some q:=let ⟨q,_,_,hq,_⟩:=dd';⟨q,hq⟩;exact dG I (by rw [e];exact True.intro) hs he (zeN hl hd (rel.put k rv) dd')
 .subst ey eH;cases (show u=Value.ref b from ry);obtain ⟨z,hd,xs,rel,dd⟩:=dt_of I.hok e;have hz:xs.length<=sizeLine:=by rw [← Paired.length rel];exact z
  have hl:(jN kvs k v).length<=sizeLine:=by have:=kD kvs k v;omega
  refine wpAny_setItem_heap (hsz:=hz) (tupleKind_room_in1 hu) (pF I.hok eb) dd fun h' dd' hs=>h _ ?_;obtain ⟨q,es,ep,hq,h2,h3,h4,_,h5⟩:=dd';refine dG I (by rw [e];exact True.intro) hs ⟨q,hq⟩ ⟨hl,hd,_,(rel.put k eb rv).keeps fun c ys ec=>?_,q,es,ep,hq,h2,h3,h4,h5⟩;rw [zW (ne_of ec e (fun z=>nomatch z))];exact ec
end
section
variable {X : Cx} {pins : List (Addr × Obj)} {σ : St} {H : Hp} {s : Shared} {a : Addr} {kvs : List (yH × V)} {k : yH} {u : Value} {A : Around} {E : Value → Shared → Prop}
theorem d_len {Q:Value->Shared->Prop} (I:Inv X pins σ H s) (e:Rd H a (.dK kvs)) (h:∀ t s',Inv X pins σ H s'->Q (.int kvs.length t) s'):wpAny (model X.prog X.w) A (call (.builtin "len") [.ref a]) Q E s:=by
 obtain ⟨z,hd,vs,rel,dd⟩:=nX I.hok e;refine call_len_dict hd dd (by rw [← rel.length];rw [sizeLine_eq] at z;omega) ?_;rw [← rel.length];exact h _ _ (I.tok _)
end
section
variable {X : Cx} {o i e value : Expr} {pos pos' tpos : Pos} {td ty tv : TE}
end
theorem zam {P:Program} {w:World} {H:Hp} (h:Heap) (hb:sysModules<h.objs.size):xU P w H (h.push { cls:=.type "dict", data:=.dict #[] }) h.objs.size (.dK []) :=
 ⟨Nat.zero_le _,beq_eq_false_iff_ne.mpr (Ne.symm (Nat.ne_of_lt hb)),[],.nil,Heap.DictOf.new h⟩
def zhd:TE:=fun _ H Q=>∀ p,H p=none->Q (.ref p) (yT H p (.dK []))
section
variable {X : Cx} {pos : Pos}
theorem zdi:PE X (.Dict [] [] pos) zhd:=fun pins s σ H Q I h =>
 wpAny_Dict_empty ⟨.ref s.heap.objs.size,_,I.laid (a:=s.heap.objs.size) (o:=.dK []) (t':=s.toks) (fun _ _ q=>Heap.get?_push_of_some _ q) (zzR _) (zam s.heap I.big),rfl,h _ (I.hok.fresh (zzR _))⟩
end
def fN:List (TE×TE)->St->Hp->(List (V×V)->Hp->Prop)->Prop
 | [],_,H,Q=>Q [] H
 | (tk,tv)::r,σ,H,Q=>tk σ H fun x H1=>tv σ H1 fun y H2=>fN r σ H2 fun ps H3=>Q ((x,y)::ps) H3
abbrev VV:List (V×V)->List (Value×Value)->Prop:=Paired fun p q=>zC p.1 q.1/\zC p.2 q.2
def PPs (X:Cx) (pos:Pos) (keys:List (Option Expr)) (values:List Expr) (trs:List (TE×TE)):Prop :=
 ∀ (pins:List (Addr×Obj)) (s:Shared) (σ:St) (H:Hp) (Q:List (V×V)->Hp->Prop),Inv X pins σ H s->fN trs σ H Q ->
  wpAny (model X.prog X.w) X.A (evalPairs (pairTrees keys values X.env pos)) (fun vs s'=>∃ ps H',Inv X pins σ H' s'/\VV ps vs/\Q ps H') X.xe s
theorem zfy {X:Cx} {pos:Pos}:PPs X pos [] [] []:=fun pins s σ H Q I h=>pairTrees_nil_walk ⟨[],H,I,.nil,h⟩
theorem zdc {X:Cx} {pos:Pos} {k v:Expr} {ks:List (Option Expr)} {vs:List Expr} {tk tv:TE} {trs:List (TE×TE)} (hk:PE X k tk) (hv:PE X v tv) (hr:PPs X pos ks vs trs) :
  PPs X pos (some k::ks) (v::vs) ((tk,tv)::trs):=fun pins s σ H Q I h =>
 pairTrees_cons_walk (yI (hk pins s σ H _ I h) fun u s1 ⟨x,H1,I1,rx,q1⟩=>yI (hv pins s1 σ H1 _ I1 q1) fun w2 s2 ⟨y,H2,I2,ry,q2⟩ =>
  yI (hr pins s2 σ H2 _ I2 q2) fun ws s3 ⟨ps,H3,I3,rel,q3⟩=>⟨(x,y)::ps,H3,I3,.cons ⟨rx,ry⟩ rel,q3⟩)
def tJ (kvs jI:List (yH×V)):List (yH×V):=jI.foldl (fun acc kv=>jN acc kv.1 kv.2) kvs
theorem KV.merge:∀ {jI:List (yH×V)} {rs:List (yH×Value)} {kvs:List (yH×V)} {vs:List (yH×Value)},KV jI rs->KV kvs vs->KV (tJ kvs jI) (merged vs rs):=by
 intro jI rs kvs vs r;unfold KV at r
 induction r generalizing kvs vs with
 |nil=>intro q;exact q
 | @cons p q ps qs h t ih =>
  intro r0
  have e:KV (jN kvs p.1 p.2) (stored vs q.1 q.2):=by
   have:=r0.put p.1 h.2;rw [← h.1];exact this
  exact ih e
theorem vK:∀ (jI kvs:List (yH×V)),(tJ kvs jI).length<=kvs.length+jI.length
 | [],kvs=>by show kvs.length<=kvs.length+0;omega
 |p::r,kvs=>by
  have h1:=vK r (jN kvs p.1 p.2);have h2:=kD kvs p.1 p.2;show (tJ (jN kvs p.1 p.2) r).length<=_;rw [List.length_cons];omega
theorem nS {P:Program} {w:World}:∀ {kvs:List (yH×V)} {ws:List (Value×Value)},VV (kvs.map fun kv=>(kV kv.1,kv.2)) ws->∃ rs,Carries (xR P w) ws rs/\KV kvs rs
 | [],_,r=>by rw [zzV] at r;cases r;exact ⟨[],True.intro,.nil⟩
 |p::kvs,_,r=>by
  rw [zzU] at r
  cases r with
  | @cons a b as bs h t =>
   obtain ⟨rs,c,q⟩:=nS (P:=P) (w:=w) t;obtain ⟨b1,b2⟩:=b;exact ⟨(p.1,b2)::rs,⟨gG h.1,rfl,c⟩,.cons ⟨rfl,h.2⟩ q⟩
def tDisp (trs:List (TE×TE)):TE:=fun σ H Q=>∀ p,H p=none->fN trs σ (yT H p (.dK [])) fun ps H2=>H2 p=some (.dK [])/\∃ kvs:List (yH×V),ps=kvs.map (fun kv=>(kV kv.1,kv.2))/\kvs.length<=15/\Q (.ref p) (yT H2 p (.dK (tJ [] kvs)))
theorem zfG {X:Cx} {pos:Pos} {keys:List (Option Expr)} {values:List Expr} {trs:List (TE×TE)} (h:PPs X pos keys values trs) (hall:keys.all (·.isSome)=true) (hl:keys.length=values.length) (h0:keys≠[])
  (h15:keys.length<=15):PE X (.Dict keys values pos) (tDisp trs):=by
 intro pins s σ H Q I q;have hn:=I.hok.fresh (zzR s.heap.objs.size);have I1:=I.laid (a:=s.heap.objs.size) (o:=.dK []) (h':=s.heap.push { cls:=.type "dict", data:=.dict #[] }) (t':=s.toks) (fun _ _ q=>Heap.get?_push_of_some _ q) (zzR _) (zam s.heap I.big);refine wpAny_Dict_walk (knd:=xR X.prog X.w) hall hl h0 h15 (yI (h pins _ σ _ _ I1 (q _ hn)) fun ws s2 ⟨ps,H2,I2,rel,e,kvs,ep,lk,q2⟩=>?_);subst ep;obtain ⟨rs,c,rk⟩:=nS (P:=X.prog) (w:=X.w) rel;obtain ⟨z,hd,vs0,r0,dd⟩:=ziT I2.hok e;cases r0;refine ⟨rs,c,dd,fun h' dd' hs=>⟨.ref s.heap.objs.size,_,?_,rfl,q2⟩⟩
 have hz:(tJ [] kvs).length<=sizeLine:=by
  have h1:=vK kvs [];rw [List.length_nil] at h1;rw [sizeLine_eq];omega
 have he:∃ q,h'.get? s.heap.objs.size=some q:=let ⟨q,_,_,hq,_⟩:=dd';⟨q,hq⟩;exact dG I2 (by rw [e];exact True.intro) hs he (zeN hz hd (rk.merge .nil) dd') (Nat.add_pos_left I2.tk _)
def IsD (H:Hp) (a:Addr):Prop:=(∃ kvs,Rd H a (.dK kvs))\/∃ kvs,Rd H a (.dT kvs)
theorem ziF {X:Cx} {pins:List (Addr×Obj)} {σ:St} {H:Hp} {s:Shared} {a:Addr} (I:Inv X pins σ H s) (d:IsD H a) :
  s.TypeIs (.ref a) "dict" /\ (∀ b,Value.ref a=.ref b->∃ ob,s.heap.get? b=some ob/\ob.dict=none)/\(a==sysModules)=false:=by
 rcases d with ⟨kvs,e⟩|⟨kvs,e⟩
 .obtain ⟨_,hd,vs,_,dd⟩:=nX I.hok e;refine ⟨dd.typeIs,fun b q=>?_,hd⟩;cases q;obtain ⟨ob,_,_,h1,h2,_⟩:=dd;exact ⟨ob,h1,h2.2.1⟩
 .obtain ⟨_,hd,xs,_,dd⟩:=zca I.hok e;refine ⟨dd.typeIs,fun b q=>?_,hd⟩;cases q;obtain ⟨ob,_,_,h1,h2,_⟩:=dd;exact ⟨ob,h1,h2.2.1⟩
section
variable {X : Cx} {pins : List (Addr × Obj)} {σ : St} {H : Hp} {s : Shared} {a : Addr} {y d : V} {u r : Value} {o : Option V} {A : Around} {E : Value → Shared → Prop}
end
section
variable {X : Cx} {o e f : Expr} {apos cpos : Pos} {td ty tx : TE}
end
section
variable {X : Cx} {pins : List (Addr × Obj)} {σ : St} {H : Hp} {s : Shared} {a : Addr} {kvs : List (yH × V)} {A : Around} {E : Value → Shared → Prop}
end
section
variable {X : Cx} {pins : List (Addr × Obj)} {σ : St} {H : Hp} {s : Shared} {a : Addr} {y : V} {u : Value} {A : Around} {E : Value → Shared → Prop}
end
end L2
namespace Att
open PySem PySem.W PySem.Calls PyProof.Rows
theorem sE {P:Params} {h:Heap}:∀ (ns:List Int) (vs:List Value),WellAll P h vs (ns.map WData.int)->IntsAre vs ns:=by
 intro ns
 induction ns with
 |nil =>
  intro vs w;rw [zzV] at w;cases w;exact .nil
 |cons n ns ih =>
  intro vs w;rw [zzU] at w
  cases w with
  |cons a b =>
   cases a;exact .cons _ _ (ih _ b)
theorem zbb {l:OpenLaw} {n:Nat} (hn:l.most=some n) {P:Params} {h:Heap} {args:List WData} {vals:List Value}
  (hpre:l.row.toRowW.claim.pre args=true) (hwl:WellAll P h vals args) :
  ∃ a vs ns,vals=[Value.ref a]/\args=[WData.list (ns.map WData.int)]/\h.get? a=some { cls:=.type "list", data:=.seq vs.toArray }/\IntsAre vs ns/\ns.length<=n:=by
 have hsh:WShape.hasAll [] args [.list .int]=true:=(pre_splitW hpre).1;have hc:l.pre.holds [] { args:=args }=true:=(pre_splitW hpre).2;obtain ⟨d,r,rfl,h1,h2⟩:=hasAllW_cons hsh;obtain rfl:=hasAllW_nil h2;obtain ⟨xs,rfl,h3⟩:=hasW_list h1;obtain ⟨ns,rfl⟩:=items_int h3
 have hlen:ns.length<=n:=by
  unfold OpenLaw.pre at hc
  have h4:(WTm.not (.lt (.lit (.int (n:Int))) (.len (.arg 0)))).holds [] { args:=[.list (ns.map .int)] }=true:=by
   have h4:=(holds_andW hc).1;rw [hn] at h4;exact h4
  have h5:=condW_of h4 (w_not (w_lt w_lit (w_len_list (w_arg rfl))));rw [zzM] at h5;refine Nat.le_of_not_lt fun q=>?_;have q':(n:Int)<((ns.length:Nat):Int):=by omega
  first
   | (rw [decide_eq_true q'] at h5;exact absurd h5 (by decide))
   | (simp at h5;omega)
 cases hwl with
 |cons w1 w2 =>
  cases w2
  cases w1 with
  |list ho hall=>exact ⟨_,_,ns,rfl,rfl,ho,sE ns _ hall,hlen⟩
theorem zbj (l:OpenLaw) (args:List WData):l.row.toRowW.claim.post args (.bool true) args=true :=
 postW_of (r:=l.row.toRowW) (X:=(true==true))
  (show WShape.has [] (.bool true) .bool=true by first|rfl|decide|simp [WShape.has,WShape.arms,WShape.armsAll])
  (show (WTm.eq .res (.lit (.bool true))).value [] { args:=args,res:=some (.bool true),after:=args }=some (.bool (true==true)) from w_eq_bool (w_res rfl) w_lit) rfl
theorem attach_call {l:OpenLaw} {n:Nat} {q:Program} {loose:List Str} {XP:(Str->Option Value)->Heap->Prop} {YP:World->Heap->Prop} {d:DefRec}
  (hn:l.most=some n) (hdf:d.params.defaults=[])
  (call:∀ (w:World) (s₀ s₁:Shared) (mg mb:Str->Option Value) (fa:Addr) (o:Obj) (pm cd doc:Value) (a:Addr) (vs:List Value) (ns:List Int),
   Ground q loose [] XP w s₀ mg mb s₁.heap->YP w s₁.heap ->
   s₁.heap.get? fa=some o->o.data=.func (docDef d.name d.params d.body d.scope pm cd doc)->s₁.heap.CodeRec cd d.name->mg d.name=some (.ref fa) ->
   s₁.heap.get? a=some { cls:=.type "list", data:=.seq vs.toArray }->IntsAre vs ns->ns.length<=n->s₁.gens=#[] ->
   codeAny (model l.prog w) callerA (.call (.ref fa) ⟨[.ref a],[]⟩) (fun r s'=>r=.ok (.ret (.bool true))/\OldK s₁.heap s'.heap/\s'.os=s₁.os/\AllBare s'.gens) s₁) :
  WalkO q loose XP YP l.row.toRowW d [] (fun f vs=>PySem.call f vs):=by
 intro w s₀ s₁ mg mb G Y fa o pm cd doc dV kV ho hd hcd hD hmg hg args vals as hpre hlay hrd hwl hlo;obtain rfl:dV=.none:=Dflts.none hD hdf;obtain rfl:kV=.none:=Dflts.noKw hD;obtain ⟨a,vs,ns,rfl,rfl,hobj,hints,hlen⟩:=zbb hn hpre hwl;refine enter_call (codeAny_mono (call w s₀ s₁ mg mb fa o pm cd doc a vs ns G Y ho (fd_plain hd) hcd hmg hobj hints hlen hg) fun r s' hq=>?_);obtain ⟨rfl,h2,h3,h4⟩:=hq;exact ⟨.inl ⟨.bool true,.bool true,[],rfl,fun _=>rfl,.bool true,zbj l _,fun _=>⟨List.Pairwise.nil,fun _ hm=>(nomatch hm)⟩⟩,h2,h3,h4⟩
section
variable {prog : Program} {w : World} {A : Around} {E : Value → Shared → Prop} {s : Shared} {K : Frag}
end
end Att
namespace L2
open PySem PySem.Spec PyProof.Rows
theorem vW:∀ {vs:List Value} {ns:List Int},IntsAre vs ns->zF (ns.map V.int) vs
 |_,_,.nil=>.nil
 |_,_,.cons n t h=>.cons ⟨t,rfl⟩ (vW h)
def Only (H:Hp):Prop:=∀ b,H b=none\/∃ o xs,H b=some (.frz o (.lst xs))
theorem zdz {P:Program} {w:World} {K:PySem.W.Frag} {mg mb:Str->Option Value} {CX:CXT} {k:Nat} {fa a:Addr} {fd:FuncData} {x:Str} {sp:Sp} {s₁:Shared} {vs:List Value} {ns:List Int}
  (KX:K.In s₁.heap) (hns:s₁.heap.Ns mainGlobals mg) (hb:s₁.heap.Ns builtinsNs mb) (hbb:∀ x:Str,x ≠ "__name__" -> mb x=bootBuiltins x) (hlim:s₁.heap.NoLimit) (hg:s₁.gens=#[])
  (ha:s₁.heap.get? a=some { cls:=.type "list", data:=.seq vs.toArray }) (hi:IntsAre vs ns) (hl:ns.length<=sizeLine) (hr:Room k callerA)
  (F:∀ base:Heap,K.In base->base.Ns mainGlobals mg->FnOk P w K mg base CX k fa fd [x] sp) (hbind:∀ (s:Shared) (u:Value),BindsTo s fd ⟨[u],[]⟩ [(x,u)])
  (hsp:∀ H:Hp,Only H->sJ K H a (ns.map V.int)->sp [.ref a] H (fun v _=>v=.bl true) fun _ _ _=>False)
  (hCX:∀ H e s',CX [] H s₁ (fun _ _ _=>False) e s'->False) (hx:fd.scope.names.lookup x=some .local) :
  codeAny (model P w) callerA (.call (.ref fa) ⟨[.ref a],[]⟩) (fun r s'=>r=.ok (.ret (.bool true))/\OldK s₁.heap s'.heap/\s'.os=s₁.os/\AllBare s'.gens) s₁:=by
 have rv:=vW hi;have lenV:=hi.length
 have core:∀ H:Hp,Only H->sJ K H a (ns.map V.int)->kK P w H s₁.heap->(∀ b,H b≠none->b=a)->(H a≠none->K.lookup a=none) ->
   codeAny (model P w) callerA (.call (.ref fa) ⟨[.ref a],[]⟩) (fun r s'=>r=.ok (.ret (.bool true))/\OldK s₁.heap s'.heap/\s'.os=s₁.os/\AllBare s'.gens) s₁:=by
  intro H hO hS hok hA hK;have base_of:∀ {b:Addr} {o:Obj},s₁.heap.get? b=some o->H b=none->(dO s₁.heap H).get? b=some o:=fun e n=>zdJ e n
  have noA:∀ {b:Addr} {o:Obj} {es:Array DictEntry} {ep:Nat},s₁.heap.get? b=some o->o.data=.dict es ep->H b=none:=fun {b o es ep} e d=>by
   cases q:H b with
   |none=>rfl
   |some u =>
    have e':b=a:=hA b (by rw [q];simp);subst e';rw [ha] at e;cases e;have d':Data.seq vs.toArray _=Data.dict es ep:=d;cases d'
  have nsK:∀ {b:Addr} {m:Str->Option Value},s₁.heap.Ns b m->(dO s₁.heap H).Ns b m:=fun {b m} ⟨o,es,ep,e,d,r⟩=>⟨o,es,ep,base_of e (noA e d),d,r⟩
  have hKb:K.In (dO s₁.heap H):=fun b o e=>base_of (KX b o e) (by
   cases q:H b with
   |none=>rfl
   |some u =>
    have e':b=a:=hA b (by rw [q];simp);subst e';rw [hK (by rw [q];simp)] at e;cases e)
  have hM:Mod K mg (dO s₁.heap H):=⟨hKb,nsK hns,⟨mb,nsK hb,hbb⟩,let ⟨mc,h1,h2⟩:=hlim;⟨mc,nsK h1,h2⟩⟩;have e0:Env0 P w K mg (dO s₁.heap H) callerA [] { s₁ with toks:=1 } H:=⟨rfl,hM,fun b o e=>zfP e,Nat.le_of_eq (zbS _ _),trivial,fun b hb=>absurd (show b∈([]:List Addr) from hb) (by simp),hok,.of_eq hg,Nat.one_pos⟩;refine codeAny_mono ((F _ hKb (nsK hns)).one x rfl hx callerA [] s₁ H ⟨[.ref a],[]⟩ [.ref a] [.ref a] _ _ hr e0 (hbind s₁ (.ref a)) (.cons rfl .nil) (hsp H hO hS)) fun r s' h=>?_
  cases r with
  |error e=>exact (hCX H e s' h).elim
  |ok fl =>
   cases fl with
   |next=>exact False.elim h
   |brk=>exact False.elim h
   |cont=>exact False.elim h
   |ret u =>
    obtain ⟨v,H',os,_,bare,un,hok',r',q⟩:=h;have q':v=.bl true:=q;subst q';obtain rfl:u=Value.bool true:=r';refine ⟨rfl,OldK.of_keep fun b o e=>?_,os,bare⟩
    cases q:H b with
    |none=>exact un.keep b o e q (by intro z;exact absurd (show b∈([]:List Addr) from z) (by simp)) (by simp)
    |some u =>
     rcases hO b with z|⟨ob,xs,z⟩
     .rw [q] at z;cases z
     .have z2:=un.frzs b ob _ z;obtain ⟨e1,_⟩:=hok b _ z;obtain ⟨e2,_⟩:=hok' b _ z2;rw [e] at e1;cases e1;exact e2
 cases hk:K.lookup a with
 |some o =>
  have e:=KX a o hk;rw [ha] at e;cases e;refine core (fun _=>none) (fun _=>.inl rfl) (.inr ⟨_,vs.toArray,_,hk,rfl,rfl,rfl,by rw [zzS,lenV];exact hl,by simpa using rv⟩) (fun b u z=>by have z':(none:Option HO)=some u:=z;cases z') (fun b z=>absurd rfl z) fun z=>absurd rfl z
 |none =>
  refine core (fun b=>if b=a then some (.frz { cls:=.type "list", data:=.seq vs.toArray } (.lst (ns.map V.int))) else none) (fun b=>?_) (.inl (.inr ⟨{ cls:=.type "list", data:=.seq vs.toArray },if_pos rfl⟩)) (fun b u z=>?_) (fun b z=>?_) fun _=>hk
  .by_cases hb:b=a
   .exact .inr ⟨_,_,if_pos hb⟩
   .exact .inl (if_neg hb)
  .by_cases hb:b=a
   .have z':=(if_pos hb).symm.trans z;cases z';subst hb;exact ⟨ha,by rw [zzM];exact hl,vs,_,rv,ha⟩
   .have z':=(if_neg hb).symm.trans z;cases z'
  .by_cases hb:b=a
   .exact hb
   .exact absurd (if_neg hb) z
end L2
namespace L2
open PySem PySem.Spec PyProof.Rows
abbrev KOf {K:PySem.W.Frag} {h:Heap} (_:K.In h):PySem.W.Frag:=K
theorem walk_of {l:PySem.W.OpenLaw} {n k:Nat} {q:Program} {loose:List Str} {XP:(Str->Option Value)->Heap->Prop} {YP:World->Heap->Prop} {d:DefRec} {K:Params->PySem.W.Frag} {CX:World->CXT} {sp:World->Sp} {x:Str}
  (hn:l.most=some n) (hn2:n<=sizeLine) (hdf:d.params.defaults=[]) (hr:Room k callerA)
  (hY:∀ (w:World) (h:Heap),YP w h->(K w.params).In h)
  (F:∀ (w:World) (mg:Str->Option Value) (fa:Addr) (h:Heap),(K w.params).In h->h.Ns mainGlobals mg->mg d.name=some (.ref fa) ->
   ∃ fd:FuncData,(∀ (s:Shared) (u:Value),BindsTo s fd ⟨[u],[]⟩ [(x,u)])/\fd.scope.names.lookup x=some .local /\
    ∀ base:Heap,(K w.params).In base->base.Ns mainGlobals mg->FnOk l.prog w (K w.params) mg base (CX w) k fa fd [x] (sp w))
  (hsp:∀ (w:World) (H:Hp) (a:Addr) (ns:List Int),ns.length<=n->Only H->sJ (K w.params) H a (ns.map V.int)->sp w [.ref a] H (fun v _=>v=.bl true) fun _ _ _=>False)
  (hCX:∀ (w:World) (H:Hp) (s:Shared) (e:Value) (s':Shared),CX w [] H s (fun _ _ _=>False) e s'->False) :
  PySem.W.WalkO q loose XP YP l.row.toRowW d [] (fun f vs=>PySem.call f vs):=by
 refine Att.attach_call hn hdf fun w s₀ s₁ mg mb fa o pm cd doc a vs ns G Y ho hd hcd hmg hobj hints hlen hg=>?_;have KX:=hY w _ Y;obtain ⟨fd,hb,hx,hF⟩:=F w mg fa _ KX G.T.g hmg;exact zdz KX G.T.g G.T.b G.T.builtins G.T.nolimit hg hobj hints (Nat.le_trans hlen hn2) hr hF hb (fun H hO hS=>hsp w H a ns hlen hO hS) (fun H e s'=>hCX w H s₁ e s') hx
end L2
/- THE LAST THEOREM (shape;LID,My.* are yours):
   My.Adr: a structure of the addresses that your layer names (classes,functions);My.Txt K t: a structure (Prop) of the equations over K;
   My.txt_mk:{K} {implicit addresses ..} (e1:nsIn K mainGlobals "law" = some (some (.ref f))) (e2:K.lookup f=some ⟨oc,od,.func (fnOf "law" "law" params body scope dV kV doc pm an cdv ct),sl⟩) (e3:codeIn K cdv "law" = true) ..:∃ t,My.Txt K t
set_option maxRecDepth 100000 in
set_option maxHeartbeats 0 in
theorem PySem.Challenge.cw_LID_holds : PySem.Challenge.rw_LID.Holds := by
 w_on;o_law;k_head;(case hw=>w_witness2)
 k_fill
 refine L2.walk_of (l:=PySem.Challenge.rw_LID) (n:=63) (k:=40) (x := "script") (CX:=fun w=>..) (sp:=fun _=>My.sp_law) rfl (by decide) rfl ⟨rfl,by decide,by decide⟩ (fun w h Y=>PySem.W.kIn_of Y) ?F ?S ?C
 case F =>
  intro w mg fa h KX G hmg
  have T:∃ t,My.Txt (L2.KOf KX) t:=by
   dsimp only [L2.KOf]                          -- K must stand as «<heap const> w.params» for k_is;refine' My.txt_mk ?e1 ?e2 ?e3 ..
   (case e1=>PySem.W.k_is)                    -- in the order: a name -> its address -> its object -> its parts
   (case e2=>PySem.W.k_is)
   ..
  obtain ⟨t,T⟩:=T;have e0:=hmg.symm.trans (PySem.W.mg_of KX G T.law);cases e0                                       -- fa is the law's own address;exact ⟨_,fun s u=>.of_eq rfl,fun base kb nb=>My.law_fn T kb nb⟩     -- if «.of_eq rfl» comes too early: refine' ⟨_,?b,fun base kb nb=>My.law_fn T kb nb⟩;exact fun s u=>.of_eq rfl
 case S=>exact fun w H a ns hl hO hS=>..
 case C=>exact ..
(the tactic k_is has no namespace: write k_is) -/
namespace L2
open PySem PySem.Spec PyProof.Rows
def zbR (s:Stmt) (j:Nat):Stmt:=match s with
 | .ClassDef _ _ _ body _ _ _ _ _ _ _=>body.getD j (.Pass ⟨0,0,0,0⟩)
 |_=>.Pass ⟨0,0,0,0⟩
def yJ (s:Stmt):Arguments:=match s with
 | .FunctionDef _ a _ _ _ _ _ _ _ _=>a
 |_=>{ posonlyargs:=[],args:=[],vararg:=none,kwonlyargs:=[],kw_defaults:=[],kwarg:=none,defaults:=[] }
def zG (s:Stmt):List Stmt:=match s with
 | .FunctionDef _ _ b _ _ _ _ _ _ _=>b
 |_=>[]
def zY (s:Stmt):Scope:=match s with
 | .FunctionDef _ _ _ _ _ _ sc _ _ _=>sc
 |_=>{ kind:=.function,names:=[],isGenerator:=false,isCoroutine:=false }
abbrev CX0:CXT:=fun _ _ _ _ _ _=>False
abbrev E0:XK:=fun _ _ _=>False
theorem bF {X:Cx}:uV CX0 X E0:=fun _ _ _ _ _ _ _ h=>h.elim
structure Fun (K:PySem.W.Frag) (x qual:Str) (st:Stmt) (f:Addr) (fd:FuncData):Prop where
 ex:∃ (oc:Value) (od:Option Addr) (kV doc pm:Value) (an:Option Addr) (cdv ct:Value) (osl:Array (Option Value)),
  fd=PySem.W.fnOf x qual (yJ st) (zG st) (zY st) .none kV doc pm an cdv ct/\K.lookup f=some ⟨oc,od,.func fd,osl⟩/\PySem.W.codeIn K cdv qual=true
 kp:PySem.W.keepIn K (.ref f)=true
section
variable {P : Program} {w : World} {K : PySem.W.Frag} {mg : Str → Option Value} {base : Heap}
theorem Fun.ok {x qual:Str} {st:Stmt} {f:Addr} {fd:FuncData} {N ps:List Str} {k:Nat} {sp:Sp} (F:Fun K x qual st f fd) (S:FnScope N ps (zY st)) (len:∀ vs H Q E,sp vs H Q E->vs.length=ps.length)
  (hbody:∀ (cdv:Value) (A:Around) (outer:List Env) (s:Shared) (H:Hp) (vs:List V) (Q:VK) (E:XK),Room k (A.deeper (envOfC qual (zY st) s.heap.objs.size f cdv))->sp vs H Q E ->
   ∃ t,nF (mK CX0 P w K mg base N qual (zY st) f cdv A outer s H E).nox (zG st) t/\t { nx:=fun _ H'=>Q .non H',rt:=Q } (start N vs) H):FnOk P w K mg base CX0 (k+1) f fd ps sp:=by
 obtain ⟨oc,od,kV,doc,pm,an,cdv,ct,osl,rfl,lk,hcd⟩:=F.ex;refine zdN lk hcd S len fun A outer s H vs Q E hr hsp=>?_;obtain ⟨t,h,q⟩:=hbody cdv A outer s H vs Q E hr hsp;exact ⟨t,h.nox,q⟩
end
section
variable {X : Cx}
end
section
variable {κ : Type} [DecidableEq κ]
end
end L2
namespace L3
open PySem PySem.Spec PyProof.Rows L2
inductive W where
 |non|bl (b:Bool)|int (i:Int)|str (x:Str)|ty (n:String)|ref (a:Addr)|tup (ws:List W)|lsf (ws:List W)
  |exc (C:Addr) (ns:List Str) (ws:List W)|dcf (ks:List Str) (ws:List W)
abbrev yZ:=PySem.W.Frag
def KL (K:yZ) (a:Addr) (xs:List V):Prop:=∃ (o:Obj) (its:Array Value) (n:Nat),K.lookup a=some o/\o.cls=.type "list" /\ o.dict=none/\o.data=.seq its n/\its.size<=sizeLine/\zF xs its.toList
def zd9:List DictEntry->List Str->List V->Prop
 | [],ks,vs=>ks=[]/\vs=[]
 |e::r,ks,vs=>∃ k t v ks' vs',ks=k::ks'/\vs=v::vs'/\e.key=.str k t/\zC v e.val/\zd9 r ks' vs'
def KD (K:yZ) (a:Addr) (ks:List Str) (vs:List V):Prop:=∃ (o:Obj) (es:Array DictEntry) (ep:Nat),K.lookup a=some o/\o.ExactDict/\o.data=.dict es ep/\es.size<=sizeLine/\(a==sysModules)=false/\zd9 es.toList ks vs
def cP (a C:Addr) (dx:Option Addr):Heap->Prop:=fun h=>∃ fs,h.get? a=some { cls:=.ref C,dict:=dx,data:=.fields fs }
def ExAt (H:Hp) (a C:Addr) (l:List (Str×V)):Prop:=(H a=some (.ext (cP a C none))/\l=[])\/∃ dx,H a=some (.ext (cP a C (some dx)))/\H dx=some (.xd l)
def isX:HO->Prop
 | .ext _=>True
 | .frz _ (.dK _)=>True
 | .xd _=>True
 |_=>False
mutual
def xN (K:yZ) (H:Hp):W->V->Prop
 | .non,v=>v=.non
 | .bl b,v=>v=.bl b
 | .int i,v=>v=.int i
 | .str x,v=>v=.str x
 | .ty n,v=>v=.ty n
 | .ref a,v=>v=.ref a
 | .tup ws,v=>∃ a vs,v=.ref a/\tV K H a vs/\zQ K H ws vs
 | .lsf ws,v=>∃ a vs,v=.ref a/\KL K a vs/\zQ K H ws vs
 | .exc C ns ws,v=>∃ a vs,v=.ref a/\ExAt H a C (ns.zip vs)/\zQ K H ws vs
 | .dcf ks ws,v=>∃ a vs,v=.ref a/\KD K a ks vs/\zQ K H ws vs
def zQ (K:yZ) (H:Hp):List W->List V->Prop
 | [],vs=>vs=[]
 |w::ws,vs=>∃ v r,vs=v::r/\xN K H w v/\zQ K H ws r
end
def yV (K:yZ) (H H':Hp):Prop:=(∀ a xs,tV K H a xs->tV K H' a xs)/\∀ a o,isX o->H a=some o->H' a=some o
theorem yV.refl {K:yZ} {H:Hp}:yV K H H:=⟨fun _ _ h=>h,fun _ _ _ h=>h⟩
theorem yV.trans {K:yZ} {H H1 H2:Hp} (a:yV K H H1) (b:yV K H1 H2):yV K H H2:=⟨fun x xs h=>b.1 x xs (a.1 x xs h),fun x o i h=>b.2 x o i (a.2 x o i h)⟩
theorem ExAt.mono {K:yZ} {H H':Hp} (g:yV K H H') {a C:Addr} {l:List (Str×V)} (h:ExAt H a C l):ExAt H' a C l:=by
 rcases h with ⟨h,e⟩|⟨dx,h,h'⟩
 .exact .inl ⟨g.2 _ _ True.intro h,e⟩
 .exact .inr ⟨dx,g.2 _ _ True.intro h,g.2 _ _ True.intro h'⟩
section
variable {K : yZ} {H H' : Hp}
mutual
theorem xN.mono (g:yV K H H'):∀ {w:W} {v:V},xN K H w v->xN K H' w v
 | .non,_,h=>h
 | .bl _,_,h=>h
 | .int _,_,h=>h
 | .str _,_,h=>h
 | .ty _,_,h=>h
 | .ref _,_,h=>h
 | .tup _,_,⟨a,vs,e,s,r⟩=>⟨a,vs,e,g.1 a vs s,zQ.mono g r⟩
 | .lsf _,_,⟨a,vs,e,s,r⟩=>⟨a,vs,e,s,zQ.mono g r⟩
 | .exc _ _ _,_,⟨a,vs,e,s,r⟩=>⟨a,vs,e,s.mono g,zQ.mono g r⟩
 | .dcf _ _,_,⟨a,vs,e,s,r⟩=>⟨a,vs,e,s,zQ.mono g r⟩
theorem zQ.mono (g:yV K H H'):∀ {ws:List W} {vs:List V},zQ K H ws vs->zQ K H' ws vs
 | [],_,h=>h
 |_::_,_,⟨v,r,e,h,t⟩=>⟨v,r,e,xN.mono g h,zQ.mono g t⟩
end
theorem zQ.length:∀ {ws:List W} {vs:List V},zQ K H ws vs->vs.length=ws.length
 | [],_,h=>by rw [show _=[] from h];rfl
 |_::_,_,⟨v,r,e,_,t⟩=>by rw [e,List.length_cons,List.length_cons,zQ.length t]
theorem zQ.append:∀ {ws:List W} {vs:List V} {ws':List W} {vs':List V},zQ K H ws vs->zQ K H ws' vs'->zQ K H (ws++ws') (vs++vs')
 | [],_,_,_,h,h'=>by rw [show _=[] from h];exact h'
 |_::_,_,_,_,⟨v,r,e,h,t⟩,h'=>by rw [e];exact ⟨v,_,rfl,h,zQ.append t h'⟩
theorem zQ.get:∀ {ws:List W} {vs:List V} {i:Nat} {w:W},zQ K H ws vs->ws[i]?=some w->∃ v,vs[i]?=some v/\xN K H w v
 | [],_,_,_,_,e=>by simp at e
 |_::_,_,0,_,⟨v,r,e,h,t⟩,q=>by simp at q;subst q;subst e;exact ⟨v,rfl,h⟩
 |_::_,_,i+1,w,⟨v,r,e,h,t⟩,q=>by
  subst e;obtain ⟨u,h1,h2⟩:=zQ.get (i:=i) (w:=w) t (by simpa using q);exact ⟨u,by simpa using h1,h2⟩
theorem zQ.get':∀ {ws:List W} {vs:List V} {i:Nat} {v:V},zQ K H ws vs->vs[i]?=some v->∃ w,ws[i]?=some w/\xN K H w v
 | [],_,_,_,h,e=>by rw [show _=[] from h] at e;simp at e
 |_::_,_,0,_,⟨v,r,e,h,t⟩,q=>by subst e;simp at q;subst q;exact ⟨_,rfl,h⟩
 |_::_,_,i+1,w,⟨v,r,e,h,t⟩,q=>by
  subst e;obtain ⟨u,h1,h2⟩:=zQ.get' (i:=i) (v:=w) t (by simpa using q);exact ⟨u,by simpa using h1,h2⟩
theorem zQ.set {w:W} {v:V} (q:xN K H w v):∀ {ws:List W} {vs:List V} (i:Nat),zQ K H ws vs->zQ K H (ws.set i w) (vs.set i v)
 | [],_,_,h=>by rw [show _=[] from h];rfl
 |_::_,_,0,⟨_,r,e,_,t⟩=>by rw [e];exact ⟨_,_,rfl,q,t⟩
 |_::_,_,i+1,⟨v,r,e,h,t⟩=>by rw [e];exact ⟨_,_,rfl,h,zQ.set q i t⟩
theorem zQ.take:∀ {ws:List W} {vs:List V} (n:Nat),zQ K H ws vs->zQ K H (ws.take n) (vs.take n)
 | [],_,_,h=>by rw [show _=[] from h];simp;rfl
 |_::_,_,0,_=>by simp;rfl
 |_::_,_,n+1,⟨v,r,e,h,t⟩=>by rw [e];exact ⟨_,_,rfl,h,zQ.take n t⟩
theorem zQ.drop:∀ {ws:List W} {vs:List V} (n:Nat),zQ K H ws vs->zQ K H (ws.drop n) (vs.drop n)
 | [],_,_,h=>by rw [show _=[] from h];simp;rfl
 |_::_,_,0,h=>h
 |_::_,_,n+1,⟨v,r,e,h,t⟩=>by rw [e];exact zQ.drop n t
theorem zQ.reverse:∀ {ws:List W} {vs:List V},zQ K H ws vs->zQ K H ws.reverse vs.reverse
 | [],_,h=>by rw [show _=[] from h];rfl
 |_::_,_,⟨v,r,e,h,t⟩=>by
  rw [e,List.reverse_cons,List.reverse_cons];exact zQ.append (zQ.reverse t) ⟨v,[],rfl,h,rfl⟩
theorem zQ.dropLast {ws:List W} {vs:List V} (h:zQ K H ws vs):zQ K H ws.dropLast vs.dropLast:=by
 rw [List.dropLast_eq_take,List.dropLast_eq_take,h.length];exact h.take _
end
inductive O where
 |lst (ws:List W)
  |fix (ws:List W)
 |dic (kvs:List (yH×W))
 |ins (C:Addr) (fs:List (Str×W))
  |fzd (kvs:List (yH×W))
def isFz:O->Bool
 | .fzd _=>true
 |_=>false
abbrev Hw:=Addr->Option O
def put (G:Hw) (a:Addr) (o:O):Hw:=fun b=>if b=a then some o else G b
theorem zR {G:Hw} {a:Addr} {o:O}:put G a o a=some o:=by unfold put;rw [if_pos rfl]
theorem xO {G:Hw} {a b:Addr} {o:O} (h:b≠a):put G a o b=G b:=by unfold put;rw [if_neg h]
theorem zbe {G:Hw} {a:Addr} {o u:O}:put (put G a o) a u=put G a u:=by
 funext b;unfold put;split<;>rfl
theorem jA {G:Hw} {a b:Addr} {o:O} (h:G a=some o) (h':G b=none):a≠b:=by
 intro e;subst e;rw [h] at h';cases h'
def yX (K:yZ) (H:Hp) {κ:Type}:List (κ×W)->List (κ×V)->Prop
 | [],l=>l=[]
 |p::r,l=>∃ v t,l=(p.1,v)::t/\xN K H p.2 v/\yX K H r t
def mF (K:yZ) (H:Hp):O->HO->Prop
 | .lst ws,o=>∃ vs,o=.lst vs/\zQ K H ws vs
 | .fix ws,o=>∃ vs ob,(o=.lst vs\/o=.frz ob (.lst vs))/\zQ K H ws vs
 | .dic kvs,o=>∃ l,o=.dK l/\yX K H kvs l
 | .ins C fs,o=>∃ dx l,o=.ins C dx l/\yX K H fs l
 | .fzd kvs,o=>∃ ob l,o=.frz ob (.dK l)/\yX K H kvs l
def yC (K:yZ) (H:Hp) (G:Hw):Prop:=∀ a o,G a=some o->∃ u,H a=some u/\mF K H o u
theorem yX.mono {K:yZ} {H H':Hp} (g:yV K H H') {κ:Type}:∀ {l:List (κ×W)} {l':List (κ×V)},yX K H l l'->yX K H' l l'
 | [],_,h=>h
 |_::_,_,⟨v,t,e,h,r⟩=>⟨v,t,e,h.mono g,yX.mono g r⟩
theorem mF.mono {K:yZ} {H H':Hp} (g:yV K H H'):∀ {o:O} {u:HO},mF K H o u->mF K H' o u
 | .lst _,_,⟨vs,e,r⟩=>⟨vs,e,r.mono g⟩
 | .fix _,_,⟨vs,ob,e,r⟩=>⟨vs,ob,e,r.mono g⟩
 | .dic _,_,⟨l,e,r⟩=>⟨l,e,r.mono g⟩
 | .ins _ _,_,⟨dx,l,e,r⟩=>⟨dx,l,e,r.mono g⟩
 | .fzd _,_,⟨ob,l,e,r⟩=>⟨ob,l,e,r.mono g⟩
theorem mF.notX {K:yZ} {H:Hp}:∀ {o:O} {u:HO},isFz o=false->mF K H o u->¬ isX u
 | .lst _,_,_,⟨vs,e,r⟩=>by subst e;exact id
 | .fix _,_,_,⟨vs,ob,e,r⟩=>by rcases e with e|e<;>subst e<;>exact id
 | .dic _,_,_,⟨l,e,r⟩=>by subst e;exact id
 | .ins _ _,_,_,⟨dx,l,e,r⟩=>by subst e;exact id
 | .fzd _,_,m,_=>nomatch m
theorem mF.notTup {K:yZ} {H:Hp}:∀ {o:O} {u:HO},mF K H o u->(∀ xs,u≠.tup xs)/\∀ ob xs,u≠.frz ob (.tup xs)
 | .lst _,_,⟨vs,e,r⟩=>by subst e;exact ⟨(fun _ z=>nomatch z),(fun _ _ z=>nomatch z)⟩
 | .fix _,_,⟨vs,ob,e,r⟩=>by
  rcases e with e|e<;>subst e
  .exact ⟨(fun _ z=>nomatch z),(fun _ _ z=>nomatch z)⟩
  .exact ⟨(fun _ z=>nomatch z),(fun _ _ z=>nomatch z)⟩
 | .dic _,_,⟨l,e,r⟩=>by subst e;exact ⟨(fun _ z=>nomatch z),(fun _ _ z=>nomatch z)⟩
 | .ins _ _,_,⟨dx,l,e,r⟩=>by subst e;exact ⟨(fun _ z=>nomatch z),(fun _ _ z=>nomatch z)⟩
 | .fzd _,_,⟨ob,l,e,r⟩=>by subst e;exact ⟨(fun _ z=>nomatch z),(fun _ _ z=>nomatch z)⟩
section
variable {K : yZ} {H H' : Hp} {G : Hw} {a : Addr}
theorem yC.free (h:yC K H G) (e:H a=none):G a=none:=by
 cases q:G a with
 |none=>rfl
 |some o =>
  obtain ⟨u,e',_⟩:=h a o q;rw [e] at e';cases e'
theorem zag {u:HO} (h:∀ xs,¬ Rd H a (.tup xs)) (hx:∀ o,isX o->H a≠some o):yV K H (yT H a u):=⟨fun b xs s=>by
 rcases s with s|s
 .have hb:b≠a:=by rintro rfl;exact h xs s
  left
  rcases s with s|⟨o,s⟩
  .exact .inl (by rw [zW hb];exact s)
  .exact .inr ⟨o,by rw [zW hb];exact s⟩
 .exact .inr s,fun b o i s=>by
 have hb:b≠a:=by rintro rfl;exact hx o i s
 rw [zW hb];exact s⟩
theorem yF {u:HO} (h:H a=none):yV K H (yT H a u):=zag (fun xs s=>by
 rcases s with s|⟨o,s⟩<;>(rw [h] at s;cases s)) (fun o _ s=>by rw [h] at s;cases s)
theorem yC.grow {o:O} {u:HO} (h:yC K H G) (e:G a=some o) (m:isFz o=false:=by rfl):yV K H (yT H a u):=by
 obtain ⟨u',e',r⟩:=h a o e;refine zag (fun xs s=>?_) (fun o' i s=>?_)
 .rcases s with s|⟨ob,s⟩
  .rw [e'] at s;cases s;exact r.notTup.1 xs rfl
  .rw [e'] at s;cases s;exact r.notTup.2 ob xs rfl
 .rw [e'] at s;cases s;exact r.notX m i
theorem yC.new {o:O} {u:HO} (h:yC K H G) (e:H a=none) (r:mF K (yT H a u) o u):yC K (yT H a u) (put G a o):=fun b ob q=>by
 by_cases hb:b=a
 .subst hb;rw [zR] at q;cases q;exact ⟨u,yY,r⟩
 .rw [xO hb] at q;obtain ⟨u',e',r'⟩:=h b ob q;exact ⟨u',by rw [zW hb];exact e',r'.mono (yF e)⟩
theorem yC.tup {u:HO} (h:yC K H G) (e:H a=none):yC K (yT H a u) G:=fun b ob q=>by
 obtain ⟨u',e',r'⟩:=h b ob q;exact ⟨u',by rw [zW (yS e' e)];exact e',r'.mono (yF e)⟩
theorem yC.chg {o o':O} {u:HO} (h:yC K H G) (e:G a=some o') (r:mF K (yT H a u) o u) (m:isFz o'=false:=by rfl):yC K (yT H a u) (put G a o):=fun b ob q=>by
 by_cases hb:b=a
 .subst hb;rw [zR] at q;cases q;exact ⟨u,yY,r⟩
 .rw [xO hb] at q;obtain ⟨u',e',r'⟩:=h b ob q;exact ⟨u',by rw [zW hb];exact e',r'.mono (h.grow e m)⟩
theorem yC.lst {ws:List W} (h:yC K H G) (e:G a=some (.lst ws)):∃ vs,H a=some (.lst vs)/\zQ K H ws vs:=by
 obtain ⟨u,e',vs,rfl,r⟩:=h a _ e;exact ⟨vs,e',r⟩
theorem yC.dic {kvs:List (yH×W)} (h:yC K H G) (e:G a=some (.dic kvs)):∃ l,H a=some (.dK l)/\yX K H kvs l:=by
 obtain ⟨u,e',vs,rfl,r⟩:=h a _ e;exact ⟨vs,e',r⟩
theorem yC.ins {C:Addr} {fs:List (Str×W)} (h:yC K H G) (e:G a=some (.ins C fs)):∃ dx l,H a=some (.ins C dx l)/\yX K H fs l:=by
 obtain ⟨u,e',dx,vs,rfl,r⟩:=h a _ e;exact ⟨dx,vs,e',r⟩
end
def yU (G:Hw) (a:Addr):Option (List W):=match G a with
 |some (.lst ws)=>some ws
 |some (.fix ws)=>some ws
 |_=>none
theorem yC.seq {K:yZ} {H:Hp} {G:Hw} {a:Addr} {ws:List W} (h:yC K H G) (e:yU G a=some ws):∃ vs,sJ K H a vs/\zQ K H ws vs:=by
 unfold yU at e
 split at e
 .rename_i q;cases e;obtain ⟨vs,e',r⟩:=h.lst q;exact ⟨vs,.of e',r⟩
 .rename_i q;cases e;obtain ⟨u,e',vs,ob,z,r⟩:=h a _ q;refine ⟨vs,?_,r⟩;rcases z with rfl|rfl
  .exact .inl (.inl e')
  .exact .inl (.inr ⟨_,e'⟩)
 .cases e
abbrev xD:=List (Option W)
def zB (K:yZ) (H:Hp) (σ:xD) (τ:L2.St):Prop:=σ.length=τ.length/\∀ (i:Nat) (w:W),σ[i]?=some (some w)->∃ v,τ[i]?=some (some v)/\xN K H w v
theorem zB.mono {K:yZ} {H H':Hp} (g:yV K H H') {σ:xD} {τ:L2.St} (h:zB K H σ τ):zB K H' σ τ :=
 ⟨h.1,fun i w e=>let ⟨v,e',r⟩:=h.2 i w e;⟨v,e',r.mono g⟩⟩
theorem zB.set {K:yZ} {H:Hp} {σ:xD} {τ:L2.St} {w:W} {v:V} (h:zB K H σ τ) (r:xN K H w v) (i:Nat):zB K H (σ.set i (some w)) (τ.set i (some v)):=by
 refine ⟨by simp [h.1],fun j w' e=>?_⟩;rw [List.getElem?_set] at e ⊢
 by_cases hj:i=j
 .subst hj;rw [if_pos rfl] at e ⊢
  by_cases hl:i<σ.length
  .rw [if_pos hl] at e;cases e;rw [if_pos (h.1▸hl)];exact ⟨v,rfl,r⟩
  .rw [if_neg hl] at e;cases e
 .rw [if_neg hj] at e ⊢;exact h.2 j w' e
abbrev Q3:=W->Hw->Prop
abbrev E3:=xD->Hw->Q3->Prop
abbrev T3:=xD->Hw->(Bool->Hw->Prop)->Prop
abbrev A3:=xD->Hw->(List W->Hw->Prop)->Prop
structure End3 where
 nx:xD->Hw->Prop
 rt:Q3
 bk:xD->Hw->Prop:=fun _ _=>False
 ct:xD->Hw->Prop:=fun _ _=>False
abbrev S3:=End3->xD->Hw->Prop
section
variable (K : yZ)
def yB (t:E3):TE:=fun τ H Q=>∃ σ G,zB K H σ τ/\yC K H G/\t σ G fun w G'=>∀ v H',yV K H H'->xN K H' w v->yC K H' G'->Q v H'
def jH (t:T3):TT:=fun τ H Q=>∃ σ G,zB K H σ τ/\yC K H G/\t σ G fun b G'=>∀ H',yV K H H'->yC K H' G'->Q b H'
def qC (t:A3):TA:=fun τ H Q=>∃ σ G,zB K H σ τ/\yC K H G/\t σ G fun ws G'=>∀ vs H',yV K H H'->zQ K H' ws vs->yC K H' G'->Q vs H'
structure Fine (H:Hp) (D3:End3) (D:Ends):Prop where
 nx:∀ σ G τ H',yV K H H'->zB K H' σ τ->yC K H' G->D3.nx σ G->D.nx τ H'
 bk:∀ σ G τ H',yV K H H'->zB K H' σ τ->yC K H' G->D3.bk σ G->D.bk τ H'
 ct:∀ σ G τ H',yV K H H'->zB K H' σ τ->yC K H' G->D3.ct σ G->D.ct τ H'
 rt:∀ w G v H',yV K H H'->xN K H' w v->yC K H' G->D3.rt w G->D.rt v H'
def lowS (t:S3):TS:=fun D τ H=>∃ σ G D3,zB K H σ τ/\yC K H G/\Fine K H D3 D/\t D3 σ G
end
theorem Fine.grow {K:yZ} {H H':Hp} {D3:End3} {D:Ends} (f:Fine K H D3 D) (g:yV K H H'):Fine K H' D3 D :=
 ⟨fun σ G τ H2 g2=>f.nx σ G τ H2 (g.trans g2),fun σ G τ H2 g2=>f.bk σ G τ H2 (g.trans g2),fun σ G τ H2 g2=>f.ct σ G τ H2 (g.trans g2),fun w G v H2 g2=>f.rt w G v H2 (g.trans g2)⟩
def wV (t:E3):Prop:=∀ σ G (Q Q':Q3),(∀ w G',Q w G'->Q' w G')->t σ G Q->t σ G Q'
def vX (t:T3):Prop:=∀ σ G (Q Q':Bool->Hw->Prop),(∀ w G',Q w G'->Q' w G')->t σ G Q->t σ G Q'
def qY (t:A3):Prop:=∀ σ G (Q Q':List W->Hw->Prop),(∀ w G',Q w G'->Q' w G')->t σ G Q->t σ G Q'
section
variable {K : yZ} {H : Hp} {σ : xD} {τ : L2.St} {G : Hw}
theorem yE {t:E3} {R:Q3} {S:VK} (m:wV t) (hs:zB K H σ τ) (ha:yC K H G) (h:t σ G R)
  (k:∀ w G1 v H1,yV K H H1->zB K H1 σ τ->xN K H1 w v->yC K H1 G1->R w G1->S v H1):yB K t τ H S :=
 ⟨σ,G,hs,ha,m σ G _ _ (fun w G' r v H' g rp ab=>k w G' v H' g (hs.mono g) rp ab r) h⟩
theorem uB {t:T3} {R:Bool->Hw->Prop} {S:Bool->Hp->Prop} (m:vX t) (hs:zB K H σ τ) (ha:yC K H G) (h:t σ G R)
  (k:∀ b G1 H1,yV K H H1->zB K H1 σ τ->yC K H1 G1->R b G1->S b H1):jH K t τ H S :=
 ⟨σ,G,hs,ha,m σ G _ _ (fun w G' r H' g ab=>k w G' H' g (hs.mono g) ab r) h⟩
theorem kQ {t:A3} {R:List W->Hw->Prop} {S:List V->Hp->Prop} (m:qY t) (hs:zB K H σ τ) (ha:yC K H G) (h:t σ G R)
  (k:∀ w G1 v H1,yV K H H1->zB K H1 σ τ->zQ K H1 w v->yC K H1 G1->R w G1->S v H1):qC K t τ H S :=
 ⟨σ,G,hs,ha,m σ G _ _ (fun w G' r v H' g rp ab=>k w G' v H' g (hs.mono g) rp ab r) h⟩
end
end L3
namespace L2
section
variable {X : Cx} {e : PySem.Expr} {st : PySem.Stmt} {sts : List PySem.Stmt}
theorem PE.imp {t t':TE} (h:PE X e t) (k:∀ σ H Q,t' σ H Q->t σ H Q):PE X e t':=fun pins s σ H Q I q=>h pins s σ H Q I (k σ H Q q)
theorem PT.imp {t t':TT} (h:PT X e t) (k:∀ σ H Q,t' σ H Q->t σ H Q):PT X e t':=fun pins s σ H Q I q=>h pins s σ H Q I (k σ H Q q)
theorem PW.imp {t t':TT} (h:PW X e t) (k:∀ σ H Q,t' σ H Q->t σ H Q):PW X e t':=fun wh pins s σ H Q I q=>h wh pins s σ H Q I (k σ H Q q)
theorem PA.imp {es:List PySem.Expr} {t t':TA} (h:PA X es t) (k:∀ σ H Q,t' σ H Q->t σ H Q):PA X es t':=fun pos pins s σ H Q I q=>h pos pins s σ H Q I (k σ H Q q)
theorem PS.imp {t t':TS} (h:PS X st t) (k:∀ D σ H,t' D σ H->t D σ H):PS X st t':=fun pins s σ H D I q=>h pins s σ H D I (k D σ H q)
theorem nF.imp {t t':TS} (h:nF X sts t) (k:∀ D σ H,t' D σ H->t D σ H):nF X sts t':=fun pins s σ H D I q=>h pins s σ H D I (k D σ H q)
end
end L2
set_option genInjectivity false
set_option genSizeOfSpec false
namespace L2
open PySem PySem.Spec PyProof.Rows PySem.Calls
def clo (env:Env):List (Str×NameKind)->List (Str×Addr)->List (Str×Addr)
 | [],acc=>acc
 | (n,k)::r,acc=>if (k==NameKind.free)=true then clo env r ((n,(env.cells.lookup n).getD 0)::acc) else clo env r acc
theorem dC (env:Env):∀ (l:List (Str×NameKind)) (acc:List (Str×Addr)) {x:Str} {c:Addr},(clo env l acc).lookup x=some c ->
  ((∃ k,(x,k)∈l/\k=.free)/\c=(env.cells.lookup x).getD 0)\/acc.lookup x=some c
 | [],acc,x,c,h=>.inr h
 | (n,k)::r,acc,x,c,h=>by
  unfold clo at h
  by_cases hk:(k==NameKind.free)=true
  .rw [if_pos hk] at h;rcases dC env r _ h with ⟨⟨k',m,e⟩,q⟩|h
   .exact .inl ⟨⟨k',List.mem_cons_of_mem _ m,e⟩,q⟩
   .rw [List.lookup_cons] at h
    by_cases hx:(x==n)=true
    .rw [hx] at h;have e:x=n:=eq_of_beq hx;subst e;exact .inl ⟨⟨k,zzT,eq_of_beq hk⟩,(Option.some.inj h).symm⟩
    .rw [Bool.not_eq_true] at hx;rw [hx] at h;exact .inr h
  .rw [if_neg hk] at h;rcases dC env r _ h with ⟨⟨k',m,e⟩,q⟩|h
   .exact .inl ⟨⟨k',List.mem_cons_of_mem _ m,e⟩,q⟩
   .exact .inr h
theorem dA (env:Env):∀ (l:List (Str×NameKind)) (acc:List (Str×Addr)) {x:Str},(∃ c,acc.lookup x=some c)->∃ c,(clo env l acc).lookup x=some c
 | [],acc,x,h=>h
 | (n,k)::r,acc,x,h=>by
  unfold clo
  split
  .refine dA env r _ ?_;rw [List.lookup_cons];cases x==n
   .exact h
   .exact ⟨_,rfl⟩
  .exact dA env r _ h
theorem dB (env:Env):∀ (l:List (Str×NameKind)) (acc:List (Str×Addr)) {x:Str},(x,NameKind.free)∈l->∃ c,(clo env l acc).lookup x=some c
 | (n,k)::r,acc,x,h=>by
  unfold clo;rcases List.mem_cons.mp h with h|h
  .cases h;rw [if_pos (by decide)];refine dA env r _ ?_;rw [List.lookup_cons,beq_self_eq_true];exact ⟨_,rfl⟩
  .split
   .exact dB env r _ h
   .exact dB env r _ h
theorem nU {env:Env} {scope:Scope} (h:∀ x,(x,NameKind.free)∈scope.names->∃ c,env.cells.lookup x=some c):closureFor scope env=pure (clo env scope.names []):=by
 simp only [closureFor]
 have key:∀ (l:List (Str×NameKind)) (acc:List (Str×Addr)),(∀ x,(x,NameKind.free)∈l->∃ c,env.cells.lookup x=some c) ->
   (forIn l acc fun x r=>match x with|(name,kind)=>if (kind==NameKind.free)=true then (do let a ← cellOf env name;pure (ForInStep.yield ((name,a)::r))) else pure (ForInStep.yield r):Sem (List (Str×Addr)))=pure (clo env l acc):=by
  intro l
  induction l with
  |nil=>intro acc _;rfl
  |cons p r ih =>
   intro acc hh;obtain ⟨n,k⟩:=p;rw [List.forIn_cons]
   by_cases hk:(k==NameKind.free)=true
   .have ek:k=.free:=eq_of_beq hk;obtain ⟨c,hc⟩:=hh n (by rw [ek];exact zzT);simp only [hk,if_true];have e1:cellOf env n=pure c:=by unfold cellOf;rw [hc]
    rw [e1];simp only [pure_bind];rw [ih _ fun x hx=>hh x (List.mem_cons_of_mem _ hx)]
    conv=>rhs;unfold clo
    rw [if_pos hk,hc]
    all_goals rfl
   .simp only [hk];rw [if_neg (by simp)];simp only [pure_bind];rw [ih _ fun x hx=>hh x (List.mem_cons_of_mem _ hx)]
    conv=>rhs;unfold clo
    rw [if_neg hk]
 have:=key scope.names [] h;simpa using this
theorem xJ {env:Env}:∀ {names:List (Str×NameKind)} {x:Str} {k':NameKind},
  (names.map fun (n,k)=>if (k==NameKind.free&&env.scope.kind==.function&&env.kindOf n==some .cell) then (n,NameKind.cell) else (n,k)).lookup x=some k' ->
  ∃ k,names.lookup x=some k/\(k'=k\/(k=.free/\k'=.cell))
 | [],_,_,h=>by simp at h
 | (n,k)::r,x,k',h=>by
  rw [zzU] at h
  by_cases hc:(k==NameKind.free&&env.scope.kind==.function&&env.kindOf n==some .cell)=true
  .simp only [hc,if_true] at h;rw [List.lookup_cons] at h ⊢
   cases hx:x==n with
   |true =>
    rw [hx] at h;cases h;simp only [Bool.and_eq_true,beq_iff_eq] at hc;exact ⟨k,rfl,.inr ⟨hc.1.1,rfl⟩⟩
   |false=>rw [hx] at h;exact xJ h
  .simp only [hc,if_false] at h;rw [if_neg (by simp)] at h;rw [List.lookup_cons] at h ⊢
   cases hx:x==n with
   |true=>rw [hx] at h;cases h;exact ⟨k,rfl,.inl rfl⟩
   |false=>rw [hx] at h;exact xJ h
theorem lookup_mem {α:Type}:∀ {l:List (Str×α)} {x:Str} {v:α},l.lookup x=some v->(x,v)∈l
 | (n,k)::r,x,v,h=>by
  rw [List.lookup_cons] at h
  cases hx:x==n with
  |true=>rw [hx] at h;cases h;rw [eq_of_beq hx];exact zzT
  |false=>rw [hx] at h;exact List.mem_cons_of_mem _ (lookup_mem h)
theorem cZ:∀ (l:List (Str×NameKind)) (n:Nat) (acc:List (Str×Addr)) {x:Str} {c:Addr},(cellsFrom n l acc).lookup x=some c->acc.lookup x=some c\/((x,NameKind.cell)∈l/\n<=c)
 | [],n,acc,x,c,h=>.inl h
 | (y,k)::r,n,acc,x,c,h=>by
  unfold cellsFrom at h
  split at h
  .rename_i hk;rcases cZ r _ _ h with h|⟨h,q⟩
   .rw [List.lookup_cons] at h
    by_cases hx:(x==y)=true
    .rw [hx] at h;cases eq_of_beq hx;cases eq_of_beq hk;exact .inr ⟨zzT,Nat.le_of_eq (Option.some.inj h)⟩
    .rw [Bool.not_eq_true] at hx;rw [hx] at h;exact .inl h
   .exact .inr ⟨List.mem_cons_of_mem _ h,Nat.le_of_succ_le q⟩
  .rcases cZ r _ _ h with h|⟨h,q⟩
   .exact .inl h
   .exact .inr ⟨List.mem_cons_of_mem _ h,q⟩
theorem cX:∀ (l:List (Str×NameKind)) (n:Nat) (acc:List (Str×Addr)) {x:Str},(∃ c,acc.lookup x=some c)->∃ c,(cellsFrom n l acc).lookup x=some c
 | [],n,acc,x,h=>h
 | (y,k)::r,n,acc,x,h=>by
  unfold cellsFrom
  split
  .refine cX r _ _ ?_;rw [List.lookup_cons];cases x==y
   .exact h
   .exact ⟨_,rfl⟩
  .exact cX r _ _ h
theorem zcl:∀ (l:List (Str×NameKind)) (n:Nat) (acc:List (Str×Addr)) {x:Str},(x,NameKind.cell)∈l->∃ c,(cellsFrom n l acc).lookup x=some c
 | (y,k)::r,n,acc,x,h=>by
  unfold cellsFrom;rcases List.mem_cons.mp h with h|h
  .cases h;rw [if_pos (by decide)];refine cX r _ _ ?_;rw [List.lookup_cons,beq_self_eq_true];exact ⟨_,rfl⟩
  .split
   .exact zcl r _ _ h
   .exact zcl r _ _ h
def Inj (n:Nat) (l:List (Str×Addr)):Prop:=(∀ x c,l.lookup x=some c->c<n)/\∀ x y c,l.lookup x=some c->l.lookup y=some c->x=y
theorem zck:∀ (l:List (Str×NameKind)) (n:Nat) (acc:List (Str×Addr)),Inj n acc->∀ x y c,(cellsFrom n l acc).lookup x=some c->(cellsFrom n l acc).lookup y=some c->x=y
 | [],n,acc,h=>h.2
 | (z,k)::r,n,acc,h=>by
  unfold cellsFrom
  split
  .refine zck r (n+1) ((z,n)::acc) ⟨fun x c e=>?_,fun x y c e e'=>?_⟩
   .rw [List.lookup_cons] at e
    cases hx:x==z with
    |true=>rw [hx] at e;cases e;exact Nat.lt_succ_self _
    |false=>rw [hx] at e;exact Nat.lt_succ_of_lt (h.1 x c e)
   .rw [List.lookup_cons] at e e'
    cases hx:x==z with
    |true =>
     rw [hx] at e;cases e
     cases hy:y==z with
     |true=>rw [eq_of_beq hx,eq_of_beq hy]
     |false=>rw [hy] at e';exact absurd (h.1 y _ e') (Nat.lt_irrefl _)
    |false =>
     rw [hx] at e
     cases hy:y==z with
     |true=>rw [hy] at e';cases e';exact absurd (h.1 x _ e) (Nat.lt_irrefl _)
     |false=>rw [hy] at e';exact h.2 x y c e e'
  .exact zck r n acc h
theorem cY:∀ (l:List (Str×NameKind)) (h:Heap) (acc:List (Str×Addr)),(∀ x c,acc.lookup x=some c->∃ v,h.IsCell c v)->∀ x c,(cellsFrom h.objs.size l acc).lookup x=some c->∃ v,(pushCells h l).IsCell c v
 | [],h,acc,k=>k
 | (z,q)::r,h,acc,k=>by
  unfold cellsFrom pushCells
  split
  .have:=cY r (h.push { cls:=.type "cell", data:=.cell none }) ((z,h.objs.size)::acc) (fun x c e=>by
    rw [List.lookup_cons] at e
    cases hx:x==z with
    |true=>rw [hx] at e;cases e;exact ⟨_,_,Heap.get?_push_size _ rfl,rfl⟩
    |false =>
     rw [hx] at e;obtain ⟨v,o,ho,hd⟩:=k x c e;exact ⟨v,o,Heap.get?_push_of_some _ ho,hd⟩)
   rw [Heap.size_push] at this;exact this
  .exact cY r h acc k
theorem nfe {M:Model} {A:Around} {E:Value->Shared->Prop} {s:Shared} {sc:Scope} {gl:Addr} {cl:List (Str×Addr)} {qual:Str} {env:Env} {Q:Env->Shared->Prop}
  (hQ:∀ h',h'=pushCells (s.heap.push { cls:=.type "dict", data:=.dict #[] }) sc.names->h'.Ns s.heap.objs.size (fun _=>none)->(∀ b o,s.heap.get? b=some o->h'.get? b=some o) ->
   Q { scope:=sc,locals:=s.heap.objs.size,globals:=gl,cells:=cellsFrom (s.heap.objs.size+1) sc.names cl,qual:=qual,func:=none,code:=env.code,frame:=env.frame,builtins:=env.builtins } { s with heap:=h' }) :
  wpAny M A (newFunctionEnv sc gl cl [] qual none .none (some env)) Q E s:=by
 simp only [newFunctionEnv,Option.isSome_some,if_true];refine wpAny_bind (wpAny_alloc (wpAny_bind (wpAny_layCells _ (fun name kind cells=>by cases hkc:kind==NameKind.cell<;>simp [hkc]) _ _ _ _ ?_)));rw [show ({ s with heap:=s.heap.push { cls:=.type "dict", data:=.dict #[] } }:Shared).heap.objs.size=s.heap.objs.size+1 from Heap.size_push ..];rw [List.forIn_nil];refine wpAny_bind (wpAny_pure (wpAny_pure (hQ _ rfl ((Heap.Ns.new s.heap (.type "dict")).keeps (pushCells_keeps _ _)) fun b o e=>pushCells_keeps _ _ b o (Heap.get?_push_of_some _ e))))
end L2
namespace L2
open PySem PySem.Spec PyProof.Rows PySem.Calls
theorem dE (elt target iter:Expr) (ifs:List Expr) (scope:Scope) (pos:Pos) (it acc:Value) (env:Env) :
  compTurn (.ListComp elt [⟨target,iter,ifs,0⟩] scope pos) 0 it acc env=(do
   standAt iter.pos
   match ← pyNext it with
   |none=>pure (.done .next)
   |some v =>
    letOwnedTupleGo target it v
    assign target env v
    let mut ok:=true
    for c in ifs do
     if ok then ok ← isTrue c env (eval c env)
    if ok then
     (do let _ ← call (.builtin "list.append") [acc,← eval elt env])
    again (.compLoop (.ListComp elt [⟨target,iter,ifs,0⟩] scope pos) 0 it acc env)):=by rfl
section
variable {prog : Program} {w : World} {A : Around} {R : Result → Shared → Prop} {s : Shared}
theorem dD {elt target iter:Expr} {ifs:List Expr} {scope:Scope} {pos:Pos} {it acc:Value} {env:Env} (I:Nat->Shared->Prop)
  (turn:∀ n s,I n s->wpAny (model prog w) A (pyNext it) (fun r s₁=>match r with
   |none=>R (.ok .next) s₁
   |some v=>wpAny (model prog w) A (letOwnedTupleGo target it v) (fun _ s₁=>wpAny (model prog w) A (assign target env v) (fun _ s₂ =>
     wpAny (model prog w) A (forIn ifs true fun c r=>if r=true then do let ok ← isTrue c env (eval c env);pure (ForInStep.yield ok) else pure (ForInStep.yield r)) (fun ok s₃ =>
      if ok=true then wpAny (model prog w) A (eval elt env) (fun x s₄ =>
       wpAny (model prog w) A (call (.builtin "list.append") [acc,x]) (fun _ s₅=>∃ m,m<n/\I m s₅) (fun _ _=>False) s₄) (fun _ _=>False) s₃
      else ∃ m,m<n/\I m s₃) (fun _ _=>False) s₂) (fun _ _=>False) s₁) (fun _ _=>False) s₁) (fun _ _=>False) s)
  (n:Nat) (h:I n s) :
  codeAny (model prog w) A (.compLoop (.ListComp elt [⟨target,iter,ifs,0⟩] scope pos) 0 it acc env) R s:=by
 refine codeAny_loop rfl I (fun n s hI=>?_) n h;show wpAny _ A ((compTurn (.ListComp elt [⟨target,iter,ifs,0⟩] scope pos) 0 it acc env).onRaise (fun x=>do noteFrame x env;theTreesLotGoes x)) _ _ s;refine wpAny_noted ?_;rw [dE];refine wpAny_bind (wpAny_standAt (wpAny_bind (wpAny_mono (turn n s hI) (fun r s₁ h₁=>?_) fun _ _ h'=>h'.elim)))
 cases r with
 |none=>exact wpAny_pure h₁
 |some v =>
  refine wpAny_bind (wpAny_mono h₁ (fun _ s₁ h₁=>?_) fun _ _ h'=>h'.elim);refine wpAny_bind (wpAny_mono h₁ (fun _ s₂ h₂=>wpAny_bind (wpAny_mono h₂ (fun ok s₃ h₃=>?_) fun _ _ h'=>h'.elim)) fun _ _ h'=>h'.elim)
  cases ok with
  |false=>exact wpAny_pure ⟨rfl,h₃⟩
  |true =>
   exact wpAny_bind (wpAny_bind (wpAny_mono h₃ (fun x s₄ h₄=>wpAny_bind (wpAny_mono h₄ (fun _ s₅ h₅=>wpAny_pure (wpAny_pure ⟨rfl,h₅⟩)) fun _ _ h'=>h'.elim)) fun _ _ h'=>h'.elim))
end
structure IsBlock (X:Cx) (N:List Str) (sc:Scope) (X':Cx):Prop where
 prog:X'.prog=X.prog
 w:X'.w=X.w
 K:X'.K=X.K
 mg:X'.mg=X.mg
 base:X'.base=X.base
 A:X'.A=X.A
 calm:X'.calm=X.calm
 N:X'.N=N
 scope:X'.env.scope=relabel sc X.env
 xe:X'.xe=fun _ _=>False
 fn:∀ x,sc.names.lookup x=some .cell->X'.fn x=true
def ocl (X:Cx) (sc:Scope) (C:Addr):List (Str×Addr):=cellsFrom (C+1) sc.names (clo X.env sc.names [])
def kY (X:Cx) (N:List Str) (sc:Scope) (C:Addr) (s2:Shared) (H2:Hp) (fp:List Addr) (pins:List (Addr×Obj)):Cx where
 prog:=X.prog
 w:=X.w
 K:=X.K
 mg:=X.mg
 base:=X.base
 A:=X.A
 N:=N
 s₀:=s2
 H₀:=H2
 env:=compEnvC sc (ocl X sc C) C X.env
 outer:=X.stack
 stack:=X.stack
 ex:=fp
 fn:=fun x=>sc.names.lookup x==some .cell
 calm:=X.calm
 pn:=X.pn++pins
 xe:=fun _ _=>False
theorem zaL (X:Cx) (N:List Str) (sc:Scope) (C:Addr) (s2:Shared) (H2:Hp) (fp:List Addr) (pins:List (Addr×Obj)):IsBlock X N sc (kY X N sc C s2 H2 fp pins) :=
 ⟨rfl,rfl,rfl,rfl,rfl,rfl,rfl,rfl,rfl,rfl,fun x h=>by show (sc.names.lookup x==some .cell)=true;rw [h];rfl⟩
structure BlkSc (X:Cx) (sc:Scope):Prop where
 kind:sc.kind=.function
 cells:∀ x,(x,NameKind.cell)∈sc.names->sc.names.lookup x=some .cell
 frees:∀ x,(x,NameKind.free)∈sc.names->sc.names.lookup x=some .free
 free:∀ x,(x,NameKind.free)∈sc.names->X.env.kindOf x=some .cell\/X.env.kindOf x=some .free
 names:∀ y∈sc.names,y.2=.local->sc.names.lookup y.1=some .local
section
variable {X : Cx} {pins : List (Addr × Obj)} {σ : St} {H2 : Hp} {s2 : Shared} {sc : Scope} {N : List Str} {C : Addr} {fp : List Addr}
theorem vZ (ok:X.Ok) (B:BlkSc X sc) {x:Str} {c:Addr} (h:(clo X.env sc.names []).lookup x=some c):X.env.cells.lookup x=some c/\sc.names.lookup x=some .free:=by
 rcases dC _ _ _ h with ⟨⟨k,m,e⟩,q⟩|h
 .subst e;have hf:=B.free x m;obtain ⟨c',hc'⟩:=ok.has x hf;rw [hc'] at q;exact ⟨by rw [hc',q];rfl,B.frees x m⟩
 .simp at h
theorem kH (ok:X.Ok) (B:BlkSc X sc) {x:Str} {c:Addr} (h:(ocl X sc C).lookup x=some c):(X.env.cells.lookup x=some c/\sc.names.lookup x=some .free)\/(sc.names.lookup x=some .cell/\C<c):=by
 rcases cZ _ _ _ h with h|⟨h,q⟩
 .exact .inl (vZ ok B h)
 .exact .inr ⟨B.cells x h,q⟩
theorem B_has (B:BlkSc X sc) {x:Str} (h:(relabel sc X.env).names.lookup x=some .cell\/(relabel sc X.env).names.lookup x=some .free):(x,NameKind.free)∈sc.names\/(x,NameKind.cell)∈sc.names:=by
 rcases h with h|h
 .obtain ⟨k,hk,e⟩:=xJ h;rcases e with e|⟨e,_⟩
  .subst e;exact .inr (lookup_mem hk)
  .subst e;exact .inl (lookup_mem hk)
 .obtain ⟨k,hk,e⟩:=xJ h;rcases e with e|⟨e,z⟩
  .subst e;exact .inl (lookup_mem hk)
  .cases z
theorem zbt {x:Str} (h:(x,NameKind.free)∈sc.names\/(x,NameKind.cell)∈sc.names):∃ c,(ocl X sc C).lookup x=some c:=by
 rcases h with h|h
 .exact cX _ _ _ (dB _ _ _ h)
 .exact zcl _ _ _ h
theorem zcm (I2:Inv X pins σ H2 s2) {x:Str} {c:Addr} (h:X.env.cells.lookup x=some c):c<s2.heap.objs.size:=by
 obtain ⟨v,o,e,_⟩:=I2.cell x c h;exact Heap.lt_size e
theorem nN (I2:Inv X pins σ H2 s2) (B:BlkSc X sc) (f2:∀ b∈fp,qR X pins H2 b) (hfp:∀ b∈fp,b<s2.heap.objs.size) (hC:s2.heap.objs.size<=C):(kY X N sc C s2 H2 fp pins).Ok where
 mod:=I2.ok.mod
 kind:=B.kind
 glob:=I2.ok.glob
 blt:=I2.ok.blt
 above:=hC
 inj:=zck _ _ _ ⟨fun x c h=>Nat.lt_succ_of_lt (Nat.lt_of_lt_of_le (zcm I2 (vZ I2.ok B h).1) hC),fun x y c hx hy=>I2.ok.inj x y c (vZ I2.ok B hx).1 (vZ I2.ok B hy).1⟩
 has:=fun x h=>zbt (B_has B h)
 cab:=fun x c h e=>by
  rcases kH I2.ok B e with ⟨_,q⟩|⟨_,q⟩
  .have h:(sc.names.lookup x==some .cell)=true:=h;rw [q] at h;cases h
  .exact Nat.le_trans hC (Nat.le_of_lt q)
 hd:=I2.ok.hd
 frames:=I2.ok.frames
 stk:=.inl rfl
 exf:=fun b hb=>⟨Nat.ne_of_lt (Nat.lt_of_lt_of_le (hfp b hb) hC),fun x c h=>by
  rcases kH I2.ok B h with ⟨q,_⟩|⟨_,q⟩
  .exact (f2 b hb).2.2.2.2.1 x c q
  .exact Nat.ne_of_gt (Nat.lt_trans (Nat.lt_of_lt_of_le (hfp b hb) hC) q)⟩
 bs:=I2.bs
 bsz:=Nat.le_trans I2.ok.bsz I2.sz
 noex:=fun b o e hb=>by
  rcases (f2 b hb).2.2.2.1 with h|h
  .exact I2.ok.noex b o e h
  .exact absurd (Nat.lt_of_lt_of_le (Heap.lt_size e) (Nat.le_trans I2.ok.bsz h)) (Nat.lt_irrefl _)
 exfs:=fun b hb hm=>by
  rcases List.mem_cons.mp (I2.stkSub b hm) with h|h
  .exact (f2 b hb).2.1 h
  .exact (f2 b hb).2.2.1 h
 funs:=I2.stack
 frf:=I2.stkFree
theorem zcp {s4:Shared} {τ:St} {m:Str->Option Value} (I2:Inv X pins σ H2 s2) (B:BlkSc X sc) (f2:∀ b∈fp,qR X pins H2 b) (hfp:∀ b∈fp,b<s2.heap.objs.size) (hC:s2.heap.objs.size<=C)
  (ho:s4.os=s2.os) (hg:s4.gens=s2.gens) (keep:∀ b o,s2.heap.get? b=some o->s4.heap.get? b=some o) (hcs:∀ x c,(ocl X sc C).lookup x=some c->∃ v,s4.heap.IsCell c v) (hns:s4.heap.Ns C m) (hl:τ.length=N.length)
  (cap:∀ (i:Nat) (x:Str) (v:V),N[i]?=some x->τ[i]?=some (some v)->Vis (relabel sc X.env) x->sc.names.lookup x=some .free/\∃ j:Nat,X.N[j]?=some x/\σ[j]?=some (some v)) (h4:0<s4.toks) :
  Inv (kY X N sc C s2 H2 fp pins) [] τ H2 s4:=by
 refine ⟨nN I2 B f2 hfp hC,ho,by rw [hg];exact I2.bare,Un.kept keep,⟨m,hns,fun i x v hN hτ hv=>?_⟩,hcs,I2.hok.fresh hC,fun x c h=>?_,fun p hp=>?_,I2.hok.kept keep,hl,h4⟩
 .obtain ⟨hnl,j,hj,hσ⟩:=cap i x v hN hτ hv;have hmem:=lookup_mem hnl;have hf:=B.free x hmem
  have hkind:(relabel sc X.env).names.lookup x=some .cell\/(relabel sc X.env).names.lookup x=some .free:=by
   rcases hv with h|h|h
   .obtain ⟨k,hk,e⟩:=xJ h;rw [hnl] at hk;cases hk;rcases e with e|⟨_,e⟩<;>cases e
   .exact .inl h
   .exact .inr h
  obtain ⟨m0,_,hl0⟩:=I2.loc;obtain ⟨u,r,lk⟩:=hl0 j x v hj hσ (hf.elim (fun h=>.inr (.inl h)) fun h=>.inr (.inr h));refine ⟨u,r,.inr ⟨hkind,?_⟩⟩;rcases lk with ⟨hk,_⟩|⟨_,c,hc,hcell⟩
  .rw [hk] at hf;rcases hf with hf|hf<;>cases hf
  .obtain ⟨c',hc'⟩:=zbt (X:=X) (C:=C) (.inl hmem);rcases kH I2.ok B hc' with ⟨e,_⟩|⟨e,_⟩
   .rw [hc] at e;cases e;refine ⟨c,hc',?_⟩;obtain ⟨o,e1,r1⟩:=hcell;exact ⟨o,keep _ _ e1,r1⟩
   .rw [hnl] at e;cases e
 .rcases kH I2.ok B h with ⟨e,_⟩|⟨_,e⟩
  .exact I2.freeC x c e
  .exact I2.hok.fresh (Nat.le_trans hC (Nat.le_of_lt e))
 .have hp':p∈X.pn++pins:=by simpa [kY] using hp
  obtain ⟨q1,q2,q3,q4,q5⟩:=I2.pin p hp';refine ⟨keep _ _ q1,q2,Nat.ne_of_lt (Nat.lt_of_lt_of_le (Heap.lt_size q1) hC),fun z=>?_,q5⟩;rcases List.mem_cons.mp (I2.stkSub _ z) with h|h
  .exact q3 h
  .exact q4 h
end
theorem kK.adopt {P:Program} {w:World} {H:Hp} {h h':Heap} {a:Addr} {o:HO} (x:kK P w H h) (k:∀ b u v,H b=some v->h.get? b=some u->h'.get? b=some u) (hn:H a=none) (new:xU P w (yT H a o) h' a o):kK P w (yT H a o) h':=fun b u e=>by
 by_cases hb:b=a
 .subst hb;rw [yY] at e;cases e;exact new
 .rw [zW hb] at e;refine (x b u e).stay (fun c v hc q=>?_) (fun c q=>by rw [zW (yS q hn)];exact q) fun c xs q=>by rw [zW (yS q hn)];exact q
  rcases hc with rfl|hc
  .exact k _ _ _ e q
  .exact k _ _ _ hc q
end L2
namespace L2
open PySem PySem.Spec PyProof.Rows PySem.Calls
def PTs (X:Cx) (ifs:List Expr) (t:TT):Prop :=
 ∀ (pins:List (Addr×Obj)) (s:Shared) (σ:St) (H:Hp) (Q:Bool->Hp->Prop),Inv X pins σ H s->t σ H Q ->
  wpAny (model X.prog X.w) X.A (forIn ifs true fun c r=>if r=true then do let ok ← isTrue c X.env (eval c X.env);pure (ForInStep.yield ok) else pure (ForInStep.yield r)) (TP X pins σ Q) X.xe s
theorem zfu {X:Cx}:PTs X [] (fun _ H Q=>Q true H):=fun _ _ _ H _ I h=>wpAny_tests_nil ⟨H,I,h⟩
theorem zft {X:Cx} {c:Expr} {t:TT} (h:PT X c t):PTs X [c] t:=fun pins s σ H Q I q=>wpAny_tests_one (h pins s σ H Q I q)
def tLCb (J:It) (τ:St) (g:TG) (tc:TT) (te:TE) (Qf:List V->Hp->Prop) (H1:Hp):Prop :=
 ∃ Pv:Nat->Nat->St->List V->Hp->Prop,(∃ m,Pv 0 m τ [] H1)/\∀ i m τ acc H,Pv i m τ acc H ->
  (J.stop i H/\Qf acc H) \/
  (J.go i H/\acc.length<sizeLine/\∀ x H',J.yld i H x H'->g x τ H' fun σ2 H2=>tc σ2 H2 fun b H3=>if b=true then te σ2 H3 fun v H4=>∃ m',m' < m/\Pv (i+1) m' σ2 (acc++[v]) H4 else ∃ m',m' < m/\Pv (i+1) m' σ2 acc H3)
structure Off (X:Cx) (pins:List (Addr×Obj)) (C:Addr):Prop where
 ne:C≠X.env.locals
 ge:X.s₀.heap.objs.size<=C
 cl:∀ x c,X.env.cells.lookup x=some c->c≠C
 pn:∀ p∈X.pn++pins,p.1≠C
theorem Off.turned {X:Cx} {pins:List (Addr×Obj)} {C:Addr} {σ:St} {H:Hp} {s:Shared} {h':Heap} (o:Off X pins C) (I:Inv X pins σ H s) (hn:H C=none) (k:Heap.SameBut C s.heap h'):Inv X pins σ H { s with heap:=h' } :=
 I.turned (t':=s.toks) (fun b u hb e=>k.extBut b u hb e) hn o.ne (.inr o.ge) o.cl o.pn
theorem Inv.off {X:Cx} {pins:List (Addr×Obj)} {σ:St} {H:Hp} {s:Shared} {C:Addr} (I:Inv X pins σ H s) (hC:s.heap.objs.size<=C):Off X pins C :=
 ⟨(Nat.ne_of_lt (Nat.lt_of_lt_of_le I.lt hC)).symm,Nat.le_trans I.sz hC,fun x c h=>by
  obtain ⟨v,o,e,_⟩:=I.cell x c h;exact Nat.ne_of_lt (Nat.lt_of_lt_of_le (Heap.lt_size e) hC),fun p hp=>Nat.ne_of_lt (Nat.lt_of_lt_of_le (Heap.lt_size (I.pin p hp).1) hC)⟩
abbrev qB (its:List Value) (n:Nat):Obj:={ cls:=.type "list", data:=.seq its.toArray n }
set_option maxHeartbeats 8000000 in
theorem zbF {X:Cx} {pins:List (Addr×Obj)} {σ τ:St} {H2:Hp} {s2:Shared} {sc:Scope} {N:List Str} {fp:List Addr} {it:Addr} {tn:Nat->Heap->Prop} {J:It} {tg iter elt:Expr} {ifs:List Expr} {pos:Pos} {g:TG} {tc:TT} {te:TE}
  {Qf:List V->Hp->Prop} {RR:Value->Addr->Result->Shared->Prop} {E:Value->Shared->Prop}
  (hc:X.calm=true) (I2:Inv X pins σ H2 s2) (T:Turn X.prog X.w X.K tg J fp it tn) (t0:tn 0 s2.heap) (f2:∀ b∈fp,qR X pins H2 b) (B:BlkSc X sc) (hl:τ.length=N.length)
  (cap:∀ (i:Nat) (x:Str) (v:V),N[i]?=some x->τ[i]?=some (some v)->Vis (relabel sc X.env) x->sc.names.lookup x=some .free/\∃ j:Nat,X.N[j]?=some x/\σ[j]?=some (some v))
  (hg:∀ X',IsBlock X N sc X'->PG X' tg g) (ht:∀ X',IsBlock X N sc X'->PTs X' ifs tc) (he:∀ X',IsBlock X N sc X'->PE X' elt te)
  (h:tLCb J τ g tc te Qf H2)
  (fin:∀ (D C:Addr) (acc:List V) (H':Hp) (s':Shared) (m:Str->Option Value),D≠C->H' D=none->H' C=none->Off X pins C->Inv X pins σ (yT H' D (.lst acc)) s'->s'.heap.Ns C m->Qf acc H'->RR (.ref D) C (.ok .next) s') :
  wpAny (model X.prog X.w) X.A (newList []) (fun acc s₃=>wpAny (model X.prog X.w) X.A (newFunctionEnv sc X.env.globals (clo X.env sc.names []) [] X.env.qual none .none (some X.env)) (fun cenv s₄ =>
   codeAny (model X.prog X.w) X.A (.compStart (.ListComp elt [⟨tg,iter,ifs,0⟩] sc pos) 0 (.ref it) acc { cenv with scope:=relabel sc X.env }) (RR acc cenv.locals) s₄) E s₃) E s2:=by
 refine wpAny_newObj_type (nfe fun h₁ heq hns₁ hk₁=>?_);dsimp only at heq hns₁ hk₁ ⊢;generalize hH2:s2.heap.push { cls:=.type "list", dict:=none,data:=.seq ([]:List Value).toArray }=G2 at heq hns₁ hk₁ ⊢
 have hcs:∀ x c,(ocl X sc G2.objs.size).lookup x=some c->∃ v,h₁.IsCell c v:=fun x c e=>by
  rw [heq];refine cY sc.names (G2.push { cls:=.type "dict", data:=.dict #[] }) (clo X.env sc.names []) (fun y d q=>?_) x c (by rw [Heap.size_push];exact e);obtain ⟨v,o,ho,hd⟩:=I2.cell y d (vZ I2.ok B q).1;exact ⟨v,o,Heap.get?_push_of_some _ (hH2▸Heap.get?_push_of_some _ ho),hd⟩
 have hC:G2.objs.size=s2.heap.objs.size+1:=by rw [← hH2,Heap.size_push]
 have hDC:s2.heap.objs.size≠G2.objs.size:=by rw [hC];exact Nat.ne_of_lt (Nat.lt_succ_self _)
 have hCle:s2.heap.objs.size<=G2.objs.size:=by rw [hC];exact Nat.le_succ _
 have below:∀ b,b<s2.heap.objs.size->b≠G2.objs.size/\b≠s2.heap.objs.size:=fun b hb=>⟨by rw [hC];exact Nat.ne_of_lt (Nat.lt_succ_of_lt hb),Nat.ne_of_lt hb⟩
 have hfp:∀ b∈fp,b<s2.heap.objs.size:=fun b hb=>by
  obtain ⟨o,e,_⟩:=T.obj _ _ t0 b hb;exact Heap.lt_size e
 have hDf:∀ b∈fp,b≠s2.heap.objs.size:=fun b hb=>(below b (hfp b hb)).2;have hCf:∀ b∈fp,b≠G2.objs.size:=fun b hb=>(below b (hfp b hb)).1;have old:∀ b o,s2.heap.get? b=some o->h₁.get? b=some o:=fun b o e=>hk₁ b o (hH2▸Heap.get?_push_of_some _ e);have hacc:h₁.get? s2.heap.objs.size=some (qB [] 0):=hk₁ _ _ (hH2▸Heap.get?_push_size _ rfl)
 have fresh:∀ a,s2.heap.objs.size<=a->s2.heap.get? a=none:=fun a ha=>by
  cases e:s2.heap.get? a with
  |none=>rfl
  |some o'=>exact absurd (Heap.lt_size e) (Nat.not_lt.mpr ha)
 have hsub:∀ b∈sC X.stack,b<s2.heap.objs.size:=fun b hb=>by
  obtain ⟨_,o,e,_⟩:=I2.stack.mem hb;exact Heap.lt_size e
 obtain ⟨Pv,⟨m0,p0⟩,step⟩:=h;generalize hD:s2.heap.objs.size=D at *;generalize hCe:G2.objs.size=C at *;have hXb:IsBlock X N sc (kY X N sc C s2 H2 fp pins):=zaL ..;generalize hXd:kY X N sc C s2 H2 fp pins=X' at hXb
 have J0:Inv X' [] τ H2 { s2 with heap:=h₁ }:=by
  rw [← hXd];exact zcp (s4:={ s2 with heap:=h₁ }) I2 B f2 (by rw [hD];exact hfp) (by rw [hD];exact hCle) rfl rfl old hcs hns₁ hl cap I2.tk
 have offD:Off X' [] D:=by
  rw [← hXd];refine ⟨hDC,by show s2.heap.objs.size<=D;rw [hD];exact zzR _,fun x c hx=>?_,fun p hp=>?_⟩
  .rcases kH I2.ok B hx with ⟨q,_⟩|⟨_,q⟩
   .have:=zcm I2 q;rw [hD] at this;exact Nat.ne_of_lt this
   .exact Nat.ne_of_gt (Nat.lt_of_le_of_lt hCle q)
  .have hp':p∈X.pn++pins:=by simpa [kY] using hp
   have:=Heap.lt_size (I2.pin p hp').1;rw [hD] at this;exact Nat.ne_of_lt this
 have offC:Off X pins C:=I2.off (by rw [hD];exact hCle)
 have fpok:∀ {H':Hp} {ob:Obj},(∀ b∈fp,H' b=none)->∀ b∈fp,qR X' [(D,ob)] H' b:=fun {H' ob} hn b hb=>by
  rw [← hXd];refine ⟨hn b hb,hCf b hb,fun z=>(nN (N:=N) I2 B f2 (by rw [hD];exact hfp) (by rw [hD];exact hCle)).exfs b hb z,.inl hb,fun x c hx=>(nN (N:=N) I2 B f2 (by rw [hD];exact hfp) (by rw [hD];exact hCle)).exf b hb |>.2 x c hx,fun p hp=>?_⟩;rcases List.mem_append.mp hp with hp|hp
  .exact (f2 b hb).2.2.2.2.2 p hp
  .rw [zzO hp];exact (hDf b hb).symm
 have Dfs:D∉X'.fs:=by
  rw [← hXd];intro z;exact Nat.lt_irrefl _ (hsub D z)
 have pinD:∀ {H':Hp} {τ':St} {s':Shared} {its:List Value} {n:Nat},Inv X' [] τ' H' s'->H' D=none->s'.heap.get? D=some (qB its n)->Inv X' [(D,qB its n)] τ' H' s':=fun {H' τ' s' its n} I hn e =>
  I.pins_of fun p hp=>by
   rw [zzO hp];exact ⟨e,hn,by rw [← hXd];exact hDC,Dfs,fun v z=>nomatch z⟩
 have loop:∀ s₃:Shared,s₃={ s2 with heap:=h₁ } ->
   codeAny (model X.prog X.w) X.A (.compLoop (.ListComp elt [⟨tg,iter,ifs,0⟩] sc pos) 0 (.ref it) (.ref D) (compEnvC sc (ocl X sc C) C X.env)) (RR (.ref D) C) s₃:=by
  rintro s₃ rfl;have tn0:tn 0 h₁:=T.keep _ _ _ t0 fun b _ o e=>old b o e;have fr0:∀ b∈fp,H2 b=none:=fun b hb=>(f2 b hb).1;have Df0:H2 D=none:=I2.hok.fresh (by rw [hD];exact zzR _);have eX:X'.env=compEnvC sc (ocl X sc C) C X.env:=by rw [← hXd];rfl
  have ep:X'.prog=X.prog:=hXb.prog;have ew:X'.w=X.w:=hXb.w;have eA:X'.A=X.A:=hXb.A;refine dD (fun k s'=>∃ i τ' acc H' its n,Inv X' [] τ' H' s'/\tn i s'.heap/\(∀ b∈fp,H' b=none)/\H' D=none/\s'.heap.get? D=some (qB its n)/\zF acc its/\acc.length<=sizeLine/\Pv i k τ' acc H') ?_ m0 ⟨0,τ,[],H2,[],0,J0,tn0,fr0,Df0,hacc,.nil,Nat.zero_le _,p0⟩;rintro k s3 ⟨i,τ3,acc,H3,its,n,I3,st3,fr3,D3,o3,v3,lenA,p3⟩;have I3':=pinD I3 D3 o3;rcases step i k τ3 acc H3 p3 with ⟨stop,qf⟩|⟨go,hsz,turn⟩
  .have td:=T.done X' ep ew hXb.K (by rw [hXb.calm];exact hc) i _ s3 τ3 H3 (fun _ _=>False) I3' (fpok fr3) st3 stop;rw [eA] at td;refine yI td fun r s4 ⟨hr,I4⟩=>?_;subst hr;have o4:=(I4.pin (D,qB its n) (List.mem_append_right _ (List.mem_singleton.mpr rfl))).1;obtain ⟨m4,hn4,_⟩:=I4.loc;rw [eX] at hn4;refine fin D C acc H3 s4 m4 hDC D3 ?_ offC ?_ hn4 qf
   .have:=I4.free;rw [eX] at this;exact this
   .have base:Un (sC X.stack) fp H2 H3 s2.heap s4.heap:=by have:=I4.base;rw [← hXd] at this;exact this
    have hb:∀ b o,s2.heap.get? b=some o->b≠D:=fun b o e=>by have:=Heap.lt_size e;rw [hD] at this;exact Nat.ne_of_lt this
    refine I2.call' (ch:=fp) (by have:=I4.os;rw [← hXd] at this;exact this) ⟨base.keep,base.slot,fun b o e n' hx=>?_,base.there,fun b xs e=>?_,fun b o u e=>?_,fun b ps e=>?_⟩ ?_ I4.bare ?_ I4.tk
    .rw [zW (hb b o e)];exact base.free b o e n' hx
    .rw [zW (yS (base.tups b xs e) D3)];exact base.tups b xs e
    .rw [zW (yS (base.frzs b o u e) D3)];exact base.frzs b o u e
    .obtain ⟨mo,e'⟩:=base.tbls b ps e;exact ⟨mo,by rw [zW (yS e' D3)];exact e'⟩
    .have hk:=I4.hok;rw [ep,ew] at hk;exact hk.adopt (fun b u v _ q=>q) D3 ⟨lenA,its,n,v3,o4⟩
    .intro b hb';obtain ⟨q1,q2,q3,q4,q5,q6⟩:=f2 b hb';exact ⟨q4,q2,q5,q6⟩
  .have td:=T.item X' ep ew hXb.K (by rw [hXb.calm];exact hc) i _ s3 τ3 H3 (fun _ _=>False) I3' (fpok fr3) st3 go;rw [eA] at td;refine yI td fun r s4 ⟨u,hr,h4⟩=>?_;subst hr;refine yI h4 fun _ s5 ⟨x,H5,I5,r5,y5,st5,fr5⟩=>?_;have I5':=I5.pinned (fpok fr5) (T.obj _ _ st5);have q1:=hg X' hXb _ s5 τ3 H5 x u _ I5' r5 (turn x H5 y5);rw [ep,ew,eA,eX,hXb.xe] at q1;refine yI q1 fun _ s6 ⟨σ6,H6,I6,q6⟩=>?_;have q2:=ht X' hXb _ s6 σ6 H6 _ I6 q6;rw [ep,ew,eA,eX,hXb.xe] at q2;refine yI q2 fun b s7 ⟨H7,I7,q7⟩=>?_
   have back:∀ {H8:Hp} {s8:Shared},Inv X' ([(D,qB its n)]++tM fp s5.heap) σ6 H8 s8->Inv X' [] σ6 H8 s8/\tn (i+1) s8.heap/\(∀ b∈fp,H8 b=none)/\H8 D=none/\s8.heap.get? D=some (qB its n):=fun {H8 s8} I8=>by
    have pp:∀ p,p∈[(D,qB its n)]++tM fp s5.heap->_:=fun p hp=>I8.pin p (List.mem_append_right _ hp);refine ⟨I8.pins_of (pins':=[]) (fun p hp=>nomatch hp),T.keep _ _ _ st5 fun b hb o e=>(pp (b,o) (List.mem_append_right _ (qD hb e))).1,fun b hb=>?_,?_,?_⟩
    .obtain ⟨o,e,d⟩:=T.obj _ _ st5 b hb;exact (pp (b,o) (List.mem_append_right _ (qD hb e))).2.1
    .exact (pp (D,qB its n) (List.mem_append_left _ (List.mem_singleton.mpr rfl))).2.1
    .exact (pp (D,qB its n) (List.mem_append_left _ (List.mem_singleton.mpr rfl))).1
   cases b with
   |false =>
    rw [if_neg (by decide)] at q7;rw [if_neg (by decide)];obtain ⟨m',hm,p'⟩:=q7;obtain ⟨b1,b2,b3,b4,b5⟩:=back I7;exact ⟨m',hm,i+1,σ6,acc,H7,its,n,b1,b2,b3,b4,b5,v3,lenA,p'⟩
   |true =>
    rw [if_pos rfl] at q7;rw [if_pos rfl];have q3:=he X' hXb _ s7 σ6 H7 _ I7 q7;rw [ep,ew,eA,eX,hXb.xe] at q3;refine yI q3 fun y s8 ⟨v,H8,I8,r8,m',hm,p'⟩=>?_;obtain ⟨b1,b2,b3,b4,b5⟩:=back I8;refine append_at (hsz:=by show its.toArray.size<=sizeLine;rw [zzS,← v3.length];exact Nat.le_of_lt hsz) b5 fun h₅ hs₅ hD₅=>?_;refine ⟨m',hm,i+1,σ6,acc++[v],H8,its++[y],n+1,offD.turned b1 b4 hs₅,T.keep _ _ _ b2 fun b hb o e=>hs₅.extBut b o (hDf b hb) e,b3,b4,?_,v3.append (.cons r8 .nil),by rw [zzW];exact hsz,p'⟩;show h₅.get? D=_;rw [hD₅,List.push_toArray]
 exact codeAny_compStart_list (loop _ rfl) (T.self _ 0 _ _ _ (T.keep _ _ _ t0 fun b _ o e=>old b o e) (loop _ rfl))
def tLC (wi:TI) (cap:St->St) (g:TG) (tc:TT) (te:TE):TE:=fun σ H Q=>wi σ H fun J H1=>tLCb J (cap σ) g tc te (fun acc H'=>∀ p,H' p=none->Q (.ref p) (yT H' p (.lst acc))) H1
section
variable {X : Cx} {sc : Scope} {N : List Str} {tg iter elt : Expr} {ifs : List Expr} {pos : Pos} {wi : TI} {g : TG} {tc : TT} {te : TE} {cap : St → St}
def Caps (X:Cx) (sc:Scope) (N:List Str) (cap:St->St):Prop:=∀ σ:St,σ.length=X.N.length->(cap σ).length=N.length /\
 ∀ (i:Nat) (x:Str) (v:V),N[i]?=some x->(cap σ)[i]?=some (some v)->Vis (relabel sc X.env) x->sc.names.lookup x=some .free/\∃ j:Nat,X.N[j]?=some x/\σ[j]?=some (some v)
theorem pe_lc (hc:X.calm=true) (hi:PI X tg iter wi) (B:BlkSc X sc) (hcap:Caps X sc N cap)
  (hg:∀ X',IsBlock X N sc X'->PG X' tg g) (ht:∀ X',IsBlock X N sc X'->PTs X' ifs tc) (he:∀ X',IsBlock X N sc X'->PE X' elt te)
  (hs:∀ x,foldedSetIterable iter X.env x=pure x:=by intro _;rfl):PE X (.ListComp elt [⟨tg,iter,ifs,0⟩] sc pos) (tLC wi cap g tc te):=by
 intro pins s σ H Q I h;rw [eval_ListComp];refine wpAny_comprehension_free (use:=none) rfl hs (nU fun x hx=>I.ok.has x (B.free x hx)) B.kind B.names (yI (hi pins s σ H _ I h) fun v s1 h1=>yI h1 fun itv s2 h2=>?_);obtain ⟨it,fp,tn,J,H2,e,I2,T,st2,f2,q⟩:=h2;subst e;obtain ⟨cl,cc⟩:=hcap σ I.len;refine zbF (RR:=fun acc C=>compPost (model X.prog X.w) X.A X.xe none (EP X pins σ Q) acc C) hc I2 T st2 f2 B cl cc hg ht he q fun D C acc H' s' m hDC hD hC off I' hn qf=>?_;refine ⟨m,hn,fun h' hk=>⟨.ref D,_,off.turned I' (by rw [zW hDC.symm];exact hC) hk,rfl,qf D hD⟩⟩
theorem zc8 {i:Nat} {y:Str} {py spos:Pos} (hc:X.calm=true) (hi:PI X tg iter wi) (B:BlkSc X sc) (hcap:Caps X sc N cap)
  (hg:∀ X',IsBlock X N sc X'->PG X' tg g) (ht:∀ X',IsBlock X N sc X'->PTs X' ifs tc) (he:∀ X',IsBlock X N sc X'->PE X' elt te)
  (hN:X.N.Nodup) (hy:X.N[i]?=some y) (hx:Loc X.env.scope y) (hf:X.fn y=true\/X.env.scope.names.lookup y=some .local)
  (hsw:swapsWith (.ListComp elt [⟨tg,iter,ifs,0⟩] sc pos) (some (.Name y py)) spos.line X.env=pure true)
  (hs:∀ x,foldedSetIterable iter X.env x=pure x:=by intro _;rfl):PS X (.Assign [.Name y py] (.ListComp elt [⟨tg,iter,ifs,0⟩] sc pos) spos) (tAsg (tLC wi cap g tc te) (zdL i)):=by
 intro pins s σ H D I h;rw [exec_Assign_Name_used _ _ _ _ hsw];refine wpAny_bind (wpAny_standAt (wpAny_bind ?_));show wpAny _ X.A (do let _ ← comprehension (.ListComp elt [⟨tg,iter,ifs,0⟩] sc pos) sc X.env _ (newList []) false (eval iter X.env) (some (assign (.Name y py) X.env))) _ _ s
 refine wpAny_bind (wpAny_mono (wpAny_comprehension_free (use:=some (assign (.Name y py) X.env)) (Q:=fun _ s'=>SP X pins D .next s') rfl hs (nU fun x hx=>I.ok.has x (B.free x hx)) B.kind B.names
  (yI (hi pins s σ H _ I h) fun v s1 h1=>yI h1 fun itv s2 h2=>?_)) (fun _ s' hq=>wpAny_pure (wpAny_pure hq)) fun _ _ e=>e)
 obtain ⟨it,fp,tn,J,H2,e,I2,T,st2,f2,q⟩:=h2;subst e;obtain ⟨cl,cc⟩:=hcap σ I.len;refine zbF (RR:=fun acc C=>compPost (model X.prog X.w) X.A X.xe (some (assign (.Name y py) X.env)) (fun _ s'=>SP X pins D .next s') acc C) hc I2 T st2 f2 B cl cc hg ht he q fun D' C acc H' s' m hDC hD hC off I' hn qf=>?_;show wpAny _ X.A (assign (.Name y py) X.env (.ref D')) _ _ _;refine wpAny_assign_Name (hW I' hN hy hx (v:=.ref D') rfl (fun s'' I'' hsm=>?_) hf);obtain ⟨a,hsb,ha⟩:=hsm
 have hCa:C≠a:=by
  rcases ha with ha|ha
  .rw [ha];exact off.ne
  .exact (off.cl y a ha).symm
 refine ⟨m,hn.sameBut hsb hCa,fun h' hk=>⟨_,_,off.turned I'' (by rw [zW hDC.symm];exact hC) hk,qf D' hD⟩⟩
end
end L2
namespace L3
open PySem PySem.Spec PyProof.Rows L2 PySem.SeqAt
mutual
def vQ:W->W->Bool
 | .non,.non=>true
 | .bl a,.bl b=>a==b
 | .bl a,.int j=>(if a then 1 else 0)==j
 | .int i,.bl b=>i==(if b then 1 else 0)
 | .int i,.int j=>i==j
 | .str x,.str y=>x==y
 | .tup xs,.tup ys=>jG xs ys
 |_,_=>false
def jG:List W->List W->Bool
 | [],[]=>true
 |x::xs,y::ys=>vQ x y&&jG xs ys
 |_,_=>false
end
mutual
def uS:W->Bool
 | .ref _=>false
 | .ty _=>false
 | .lsf _=>false
 | .exc _ _ _=>false
 | .dcf _ _=>false
 | .tup ws=>wA ws
 |_=>true
def wA:List W->Bool
 | []=>true
 |w::ws=>uS w&&wA ws
end
mutual
def nG:W->Nat
 | .tup ws=>kO ws+1
 |_=>0
def kO:List W->Nat
 | []=>0
 |w::ws=>max (nG w) (kO ws)
end
theorem xG {w:W} {ws:List W}:wA (w::ws)=true↔uS w=true/\wA ws=true:=by simp [wA]
section
variable {X : Cx} {pins : List (Addr × Obj)} {σ : L2.St} {H : Hp} {s : Shared}
theorem W.ind {P:W->Prop} (non:P .non) (bl:∀ b,P (.bl b)) (int:∀ i,P (.int i)) (str:∀ x,P (.str x)) (ty:∀ n,P (.ty n)) (ref:∀ a,P (.ref a)) (tup:∀ ws,(∀ w∈ws,P w)->P (.tup ws)) (lsf:∀ ws,P (.lsf ws)) (exc:∀ C ns ws,P (.exc C ns ws)) (dcf:∀ ks ws,P (.dcf ks ws)):∀ w:W,P w:=fun w =>
 W.rec (motive_1:=P) (motive_2:=fun ws=>∀ w∈ws,P w) non bl int str ty ref (fun ws h=>tup ws h) (fun ws _=>lsf ws) (fun C ns ws _=>exc C ns ws) (fun ks ws _=>dcf ks ws) (fun _ h=>nomatch h) (fun w ws h hs v hv=>(List.mem_cons.mp hv).elim (fun e=>e▸h) (hs v)) w
theorem zaK:∀ (ws:List W),(∀ w∈ws,uS w=true->vQ w w=true)->wA ws=true->jG ws ws=true:=by
 intro ws
 induction ws with
 |nil=>intro _ _;simp [jG]
 |cons w ws ih =>
  intro h hp;have h':=xG.mp hp;simp only [jG,h w zzT h'.1,ih (fun z hz=>h z (List.mem_cons_of_mem _ hz)) h'.2,Bool.and_self]
theorem zdS {w:W}:uS w=true->vQ w w=true:=by
 induction w using W.ind with
 |non=>intro _;simp [vQ]
 |bl _=>intro _;simp [vQ]
 |int _=>intro _;simp [vQ]
 |str _=>intro _;simp [vQ]
 |ty _=>intro h;cases h
 |lsf _=>intro h;cases h
 |exc _ _ _=>intro h;cases h
 |dcf _ _=>intro h;cases h
 |ref _=>intro h;cases h
 |tup ws ih=>intro h;exact zaK ws ih h
theorem gY (I:Inv X pins σ H s):∀ (xs ys:List W) (vs:List V),(∀ x∈xs,∀ (y:W) (v:V),xN X.K H x v->xN X.K H y v->uS x=true->uS y=true->x=y)->zQ X.K H xs vs->zQ X.K H ys vs->wA xs=true->wA ys=true->xs=ys:=by
 intro xs
 induction xs with
 |nil =>
  intro ys vs _ h h' _ _
  cases ys with
  |nil=>rfl
  |cons y ys=>obtain ⟨_,_,e,_⟩:=h';rw [show _=[] from h] at e;cases e
 |cons x xs ih =>
  intro ys vs hx h h' px py;obtain ⟨v,r,e,q,t⟩:=h;subst e
  cases ys with
  |nil=>cases h'
  |cons y ys =>
   obtain ⟨v',r',e',q',t'⟩:=h';cases e';rw [hx x zzT y v q q' (xG.mp px).1 (xG.mp py).1,ih ys r (fun z hz=>hx z (List.mem_cons_of_mem _ hz)) t t' (xG.mp px).2 (xG.mp py).2]
theorem zbc (I:Inv X pins σ H s):∀ (x y:W) (v:V),xN X.K H x v->xN X.K H y v->uS x=true->uS y=true->x=y:=by
 intro x
 induction x using W.ind with
 |tup xs ih =>
  intro y v h h' hx hy;obtain ⟨a,vs,e,q,r⟩:=h;subst e
  cases y with
  |tup ys =>
   obtain ⟨b,us,e',q',r'⟩:=h';cases e';have:=I.tuple_inj q q';subst this;rw [gY I xs ys vs ih r r' hx hy]
  |ref _=>cases hy
  |ty _=>cases hy
  |lsf _=>cases hy
  |exc _ _ _=>cases hy
  |dcf _ _=>cases hy
  |non=>cases h'
  |bl _=>cases h'
  |int _=>cases h'
  |str _=>cases h'
 |ty _=>intro y v _ _ hx;cases hx
 |lsf _=>intro y v _ _ hx;cases hx
 |exc _ _ _=>intro y v _ _ hx;cases hx
 |dcf _ _=>intro y v _ _ hx;cases hx
 |ref _=>intro y v _ _ hx;cases hx
 |non =>
  intro y v h h' _ hy;cases h
  cases y with
  |tup ys=>obtain ⟨_,_,e,_⟩:=h';cases e
  |ref _=>cases hy
  |ty _=>cases hy
  |lsf _=>cases hy
  |exc _ _ _=>cases hy
  |dcf _ _=>cases hy
  |non=>rfl
  |bl _=>cases h'
  |int _=>cases h'
  |str _=>cases h'
 |bl _ =>
  intro y v h h' _ hy;cases h
  cases y with
  |tup ys=>obtain ⟨_,_,e,_⟩:=h';cases e
  |ref _=>cases hy
  |ty _=>cases hy
  |lsf _=>cases hy
  |exc _ _ _=>cases hy
  |dcf _ _=>cases hy
  |non=>cases h'
  |bl _=>cases h';rfl
  |int _=>cases h'
  |str _=>cases h'
 |int _ =>
  intro y v h h' _ hy;cases h
  cases y with
  |tup ys=>obtain ⟨_,_,e,_⟩:=h';cases e
  |ref _=>cases hy
  |ty _=>cases hy
  |lsf _=>cases hy
  |exc _ _ _=>cases hy
  |dcf _ _=>cases hy
  |non=>cases h'
  |bl _=>cases h'
  |int _=>cases h';rfl
  |str _=>cases h'
 |str _ =>
  intro y v h h' _ hy;cases h
  cases y with
  |tup ys=>obtain ⟨_,_,e,_⟩:=h';cases e
  |ref _=>cases hy
  |ty _=>cases hy
  |lsf _=>cases hy
  |exc _ _ _=>cases hy
  |dcf _ _=>cases hy
  |non=>cases h'
  |bl _=>cases h'
  |int _=>cases h'
  |str _=>cases h';rfl
theorem zc3 (I:Inv X pins σ H s) {xs ys:List W} {vs:List V} (h:zQ X.K H xs vs) (h':zQ X.K H ys vs) (hx:wA xs=true) (hy:wA ys=true):xs=ys :=
 gY I xs ys vs (fun x _=>zbc I x) h h' hx hy
def vO (xs ys:List W) (j:Nat):Bool:=match xs[j]?,ys[j]? with
 |some x,some y=>vQ x y
 |_,_=>false
theorem uE:∀ xs ys:List W,((List.range (min xs.length ys.length)).all (vO xs ys)&&xs.length==ys.length)=jG xs ys
 | [],[]=>rfl
 | [],_::_=>by simp [jG]
 |_::_,[]=>by simp [jG]
 |x::xs,y::ys=>by
  have ih:=uE xs ys;simp only [List.length_cons,Nat.add_min_add_right,jG];rw [List.range_succ_eq_map,List.all_cons,List.all_map];have h0:vO (x::xs) (y::ys) 0=vQ x y:=rfl;have h1:(vO (x::xs) (y::ys) ∘ Nat.succ)=vO xs ys:=by funext j;simp [vO]
  rw [h0,h1,← ih,Bool.and_assoc];congr 2;simp
theorem zdR {xs ys:List W} (h:xs.length≠ys.length):jG xs ys=false:=by
 rw [← uE];have:(xs.length==ys.length)=false:=by simpa using h
 rw [this,Bool.and_false]
theorem zb1 {xs ys:List W} (h:xs.length=ys.length):(List.range xs.length).all (vO xs ys)=jG xs ys:=by
 rw [← uE,h,Nat.min_self];simp
theorem xC (I:Inv X pins σ H s) {ws:List W} {v:V} {u:Value} (h:xN X.K H (.tup ws) v) (r:zC v u):∃ a vs its,v=.ref a/\u=.ref a/\tV X.K H a vs/\zQ X.K H ws vs/\zF vs its/\s.heap.IsTuple a its.toArray/\ws.length<=sizeLine:=by
 obtain ⟨a,vs,rfl,q,rs⟩:=h;obtain ⟨its,vr,it,hl⟩:=I.tuple q;exact ⟨a,vs,its,rfl,r,q,rs,vr,it,by rw [← rs.length];exact hl⟩
theorem zaj (I:Inv X pins σ H s):∀ (xs ys:List W) (vs vs':List V) (us us':List Value) (A:Around),(∀ x∈xs,∀ (y:W) (v v':V) (u u':Value) (A:Around),xN X.K H x v->zC v u->xN X.K H y v'->zC v' u'->uS x=true->uS y=true->A.units+min (nG x) (nG y)<cLine->EqAt A s u u' (vQ x y)) ->
  zQ X.K H xs vs->zF vs us->zQ X.K H ys vs'->zF vs' us'->wA xs=true->wA ys=true ->
  A.units+min (kO xs) (kO ys)<cLine->∀ (j:Nat) (h1:j<us.length) (h2:j<us'.length),EqAt A s us[j] us'[j] (vO xs ys j):=by
 intro xs
 induction xs with
 |nil=>intro ys vs vs' us us' A _ h r _ _ _ _ _ j h1;rw [show _=[] from h] at r;cases r;exact absurd h1 (Nat.not_lt_zero _)
 |cons x xs ih =>
  intro ys vs vs' us us' A he h r h' r' hx hy hu j h1 h2
  cases ys with
  |nil=>rw [show _=[] from h'] at r';cases r';exact absurd h2 (Nat.not_lt_zero _)
  |cons y ys =>
   obtain ⟨v,t,e,h,hs⟩:=h;obtain ⟨v',t',e',h',hs'⟩:=h';subst e;subst e'
   cases r with
   |cons r rs =>
    cases r' with
    |cons r' rs' =>
     have px:=xG.mp hx;have py:=xG.mp hy;simp only [kO] at hu
     cases j with
     |zero=>exact he x zzT y _ _ _ _ A h r h' r' px.1 py.1 (by omega)
     |succ j=>exact ih ys _ _ _ _ A (fun z hz=>he z (List.mem_cons_of_mem _ hz)) hs rs hs' rs' px.2 py.2 (by omega) j (Nat.lt_of_succ_lt_succ h1) (Nat.lt_of_succ_lt_succ h2)
theorem zeM (I:Inv X pins σ H s):∀ (x y:W) (v v':V) (u u':Value) (A:Around),xN X.K H x v->zC v u->xN X.K H y v'->zC v' u'->uS x=true->uS y=true->A.units+min (nG x) (nG y)<cLine->EqAt A s u u' (vQ x y):=by
 intro x
 induction x using W.ind with
 |tup xs ih =>
  intro y v v' u u' A h r h' r' hx hy hu;obtain ⟨a,vs,its,rfl,rfl,q,rs,vr,it,_⟩:=xC I h r
  cases y with
  |tup ys =>
   obtain ⟨b,us,its',rfl,rfl,q',rs',vr',it',_⟩:=xC I h' r'
   by_cases e:a=b
   .subst e;have:=I.tuple_inj q q';subst this;have:=zc3 I rs rs' hx hy;subst this;rw [show vQ (.tup xs) (.tup xs)=true from zdS (w:=.tup xs) hx];exact EqAt.same _
   .show EqAt A s _ _ (jG xs ys);rw [← uE];have l1:its.toArray.size=xs.length:=by rw [zzS,← vr.length,rs.length]
    have l2:its'.toArray.size=ys.length:=by rw [zzS,← vr'.length,rs'.length]
    rw [← l1,← l2];refine EqAt.of_refs e (RcAt.tuples it it' (by simp only [nG] at hu;omega) fun j j1 j2=>?_);exact zaj I xs ys _ _ _ _ A.in1 ih rs vr rs' vr' hx hy (by simp only [nG] at hu;show A.units+1+_<_;omega) j (by simpa using j1) (by simpa using j2)
  |ref _=>cases hy
  |ty _=>cases hy
  |lsf _=>cases hy
  |exc _ _ _=>cases hy
  |dcf _ _=>cases hy
  |non=>cases h';cases r';exact EqAt.tuple_none it (by omega)
  |bl _=>cases h';cases r';exact EqAt.tuple_bool _ it (by omega)
  |int _=>cases h';obtain ⟨t,rfl⟩:=r';exact EqAt.tuple_int _ _ it (by omega)
  |str _=>cases h';obtain ⟨t,rfl⟩:=r';exact EqAt.tuple_str _ _ it (by omega)
 |ty _=>intro y v v' u u' A _ _ _ _ hx;cases hx
 |lsf _=>intro y v v' u u' A _ _ _ _ hx;cases hx
 |exc _ _ _=>intro y v v' u u' A _ _ _ _ hx;cases hx
 |dcf _ _=>intro y v v' u u' A _ _ _ _ hx;cases hx
 |ref _=>intro y v v' u u' A _ _ _ _ hx;cases hx
 |non =>
  intro y v v' u u' A h r h' r' hx hy hu;cases h;cases r
  cases y with
  |tup ys=>obtain ⟨b,us,its',rfl,rfl,q',rs',vr',it',_⟩:=xC I h' r';exact EqAt.none_tuple it' (by omega)
  |ref _=>cases hy
  |ty _=>cases hy
  |lsf _=>cases hy
  |exc _ _ _=>cases hy
  |dcf _ _=>cases hy
  |non=>cases h';cases r';exact EqAt.same _
  |bl _=>cases h';cases r';exact EqAt.none_bool _
  |int _=>cases h';obtain ⟨t,rfl⟩:=r';exact EqAt.none_int _ _
  |str _=>cases h';obtain ⟨t,rfl⟩:=r';exact EqAt.none_str _ _
 |bl _ =>
  intro y v v' u u' A h r h' r' hx hy hu;cases h;cases r
  cases y with
  |tup ys=>obtain ⟨b,us,its',rfl,rfl,q',rs',vr',it',_⟩:=xC I h' r';exact EqAt.bool_tuple _ it' (by omega)
  |ref _=>cases hy
  |ty _=>cases hy
  |lsf _=>cases hy
  |exc _ _ _=>cases hy
  |dcf _ _=>cases hy
  |non=>cases h';cases r';exact EqAt.bool_none _
  |bl _=>cases h';cases r';exact EqAt.bool_bool _ _
  |int _=>cases h';obtain ⟨t,rfl⟩:=r';exact EqAt.bool_int _ _ _
  |str _=>cases h';obtain ⟨t,rfl⟩:=r';exact EqAt.bool_str _ _ _
 |int _ =>
  intro y v v' u u' A h r h' r' hx hy hu;cases h;obtain ⟨t0,rfl⟩:=r
  cases y with
  |tup ys=>obtain ⟨b,us,its',rfl,rfl,q',rs',vr',it',_⟩:=xC I h' r';exact EqAt.int_tuple _ _ it' (by omega)
  |ref _=>cases hy
  |ty _=>cases hy
  |lsf _=>cases hy
  |exc _ _ _=>cases hy
  |dcf _ _=>cases hy
  |non=>cases h';cases r';exact EqAt.int_none _ _
  |bl _=>cases h';cases r';exact EqAt.int_bool _ _ _
  |int _=>cases h';obtain ⟨t,rfl⟩:=r';exact EqAt.int_int _ _ _ _
  |str _=>cases h';obtain ⟨t,rfl⟩:=r';exact EqAt.int_str _ _ _ _
 |str _ =>
  intro y v v' u u' A h r h' r' hx hy hu;cases h;obtain ⟨t0,rfl⟩:=r
  cases y with
  |tup ys=>obtain ⟨b,us,its',rfl,rfl,q',rs',vr',it',_⟩:=xC I h' r';exact EqAt.str_tuple _ _ it' (by omega)
  |ref _=>cases hy
  |ty _=>cases hy
  |lsf _=>cases hy
  |exc _ _ _=>cases hy
  |dcf _ _=>cases hy
  |non=>cases h';cases r';exact EqAt.str_none _ _
  |bl _=>cases h';cases r';exact EqAt.str_bool _ _ _
  |int _=>cases h';obtain ⟨t,rfl⟩:=r';exact EqAt.str_int _ _ _ _
  |str _=>cases h';obtain ⟨t,rfl⟩:=r';exact EqAt.str_str _ _ _ _
theorem zb3 (I:Inv X pins σ H s) {xs ys:List W} {vs vs':List V} {us us':List Value} {A:Around} (h:zQ X.K H xs vs) (r:zF vs us) (h':zQ X.K H ys vs') (r':zF vs' us') (hx:wA xs=true) (hy:wA ys=true)
  (hu:A.units+min (kO xs) (kO ys)<cLine):∀ (j:Nat) (h1:j<us.length) (h2:j<us'.length),EqAt A s us[j] us'[j] (vO xs ys j) :=
 zaj I xs ys _ _ _ _ A (fun x _=>zeM I x) h r h' r' hx hy hu
end
section
variable {X : Cx} {pins : List (Addr × Obj)} {σ : L2.St} {H : Hp} {s : Shared}
theorem zhw (I:Inv X pins σ H s) (x y:W) (v v':V) (u u':Value) (A:Around) (h:xN X.K H x v) (r:zC v u) (h':xN X.K H y v') (r':zC v' u') (hx:uS x=true) (hy:uS y=true) (hu:A.units+min (nG x) (nG y)<cLine):RcAt A s u u' (vQ x y)/\RcNeAt A s u u' (!vQ x y):=by
 have h0:A.units<cLine:=by omega
 cases x with
 |ref _=>cases hx
 |ty _=>cases hx
 |lsf _=>cases hx
 |exc _ _ _=>cases hx
 |dcf _ _=>cases hx
 |tup xs =>
  obtain ⟨a,vs,its,rfl,rfl,q,rs,vr,it,_⟩:=xC I h r
  cases y with
  |ref _=>cases hy
  |ty _=>cases hy
  |lsf _=>cases hy
  |exc _ _ _=>cases hy
  |dcf _ _=>cases hy
  |tup ys =>
   obtain ⟨b,us,its',rfl,rfl,q',rs',vr',it',_⟩:=xC I h' r';have l1:its.toArray.size=xs.length:=by rw [zzS,← vr.length,rs.length]
   have l2:its'.toArray.size=ys.length:=by rw [zzS,← vr'.length,rs'.length]
   have key:∀ (j:Nat) (j1:j<its.toArray.size) (j2:j<its'.toArray.size),EqAt A.in1 s its.toArray[j] its'.toArray[j] (vO xs ys j):=fun j j1 j2 =>
    zb3 I rs vr rs' vr' hx hy (A:=A.in1) (by simp only [nG] at hu;show A.units+1+_<_;omega) j (by simpa using j1) (by simpa using j2)
   show RcAt A s _ _ (jG xs ys)/\RcNeAt A s _ _ (!jG xs ys);rw [← uE,← l1,← l2];exact ⟨RcAt.tuples it it' h0 key,RcNeAt.tuples it it' h0 key⟩
  |non=>cases h';cases r';exact ⟨RcAt.tuple_none it h0,RcNeAt.tuple_none it h0⟩
  |bl _=>cases h';cases r';exact ⟨RcAt.tuple_bool _ it h0,RcNeAt.tuple_bool _ it h0⟩
  |int _=>cases h';obtain ⟨t,rfl⟩:=r';exact ⟨RcAt.tuple_int _ _ it h0,RcNeAt.tuple_int _ _ it h0⟩
  |str _=>cases h';obtain ⟨t,rfl⟩:=r';exact ⟨RcAt.tuple_str _ _ it h0,RcNeAt.tuple_str _ _ it h0⟩
 |non =>
  cases h;cases r
  cases y with
  |ref _=>cases hy
  |ty _=>cases hy
  |lsf _=>cases hy
  |exc _ _ _=>cases hy
  |dcf _ _=>cases hy
  |tup ys=>obtain ⟨b,us,its',rfl,rfl,q',rs',vr',it',_⟩:=xC I h' r';exact ⟨RcAt.none_tuple it' h0,RcNeAt.none_tuple it' h0⟩
  |non=>cases h';cases r';exact ⟨RcAt.none_none,RcNeAt.none_none⟩
  |bl _=>cases h';cases r';exact ⟨RcAt.none_bool _,RcNeAt.none_bool _⟩
  |int _=>cases h';obtain ⟨t,rfl⟩:=r';exact ⟨RcAt.none_int _ _,RcNeAt.none_int _ _⟩
  |str _=>cases h';obtain ⟨t,rfl⟩:=r';exact ⟨RcAt.none_str _ _,RcNeAt.none_str _ _⟩
 |bl _ =>
  cases h;cases r
  cases y with
  |ref _=>cases hy
  |ty _=>cases hy
  |lsf _=>cases hy
  |exc _ _ _=>cases hy
  |dcf _ _=>cases hy
  |tup ys=>obtain ⟨b,us,its',rfl,rfl,q',rs',vr',it',_⟩:=xC I h' r';exact ⟨RcAt.bool_tuple _ it' h0,RcNeAt.bool_tuple _ it' h0⟩
  |non=>cases h';cases r';exact ⟨RcAt.bool_none _,RcNeAt.bool_none _⟩
  |bl _=>cases h';cases r';exact ⟨RcAt.bool_bool _ _,RcNeAt.bool_bool _ _⟩
  |int _=>cases h';obtain ⟨t,rfl⟩:=r';exact ⟨RcAt.bool_int _ _ _,RcNeAt.bool_int _ _ _⟩
  |str _=>cases h';obtain ⟨t,rfl⟩:=r';exact ⟨RcAt.bool_str _ _ _,RcNeAt.bool_str _ _ _⟩
 |int _ =>
  cases h;obtain ⟨t0,rfl⟩:=r
  cases y with
  |ref _=>cases hy
  |ty _=>cases hy
  |lsf _=>cases hy
  |exc _ _ _=>cases hy
  |dcf _ _=>cases hy
  |tup ys=>obtain ⟨b,us,its',rfl,rfl,q',rs',vr',it',_⟩:=xC I h' r';exact ⟨RcAt.int_tuple _ _ it' h0,RcNeAt.int_tuple _ _ it' h0⟩
  |non=>cases h';cases r';exact ⟨RcAt.int_none _ _,RcNeAt.int_none _ _⟩
  |bl _=>cases h';cases r';exact ⟨RcAt.int_bool _ _ _,RcNeAt.int_bool _ _ _⟩
  |int _=>cases h';obtain ⟨t,rfl⟩:=r';exact ⟨RcAt.int_int _ _ _ _,RcNeAt.int_int _ _ _ _⟩
  |str _=>cases h';obtain ⟨t,rfl⟩:=r';exact ⟨RcAt.int_str _ _ _ _,RcNeAt.int_str _ _ _ _⟩
 |str _ =>
  cases h;obtain ⟨t0,rfl⟩:=r
  cases y with
  |ref _=>cases hy
  |ty _=>cases hy
  |lsf _=>cases hy
  |exc _ _ _=>cases hy
  |dcf _ _=>cases hy
  |tup ys=>obtain ⟨b,us,its',rfl,rfl,q',rs',vr',it',_⟩:=xC I h' r';exact ⟨RcAt.str_tuple _ _ it' h0,RcNeAt.str_tuple _ _ it' h0⟩
  |non=>cases h';cases r';exact ⟨RcAt.str_none _ _,RcNeAt.str_none _ _⟩
  |bl _=>cases h';cases r';exact ⟨RcAt.str_bool _ _ _,RcNeAt.str_bool _ _ _⟩
  |int _=>cases h';obtain ⟨t,rfl⟩:=r';exact ⟨RcAt.str_int _ _ _ _,RcNeAt.str_int _ _ _ _⟩
  |str _=>cases h';obtain ⟨t,rfl⟩:=r';exact ⟨RcAt.str_str _ _ _ _,RcNeAt.str_str _ _ _ _⟩
theorem zbA (I:Inv X pins σ H s) {G:Hw} {p:Addr} {ws:List W} (ab:yC X.K H G) (e:yU G p=some ws):∃ vs its,sJ X.K H p vs/\zQ X.K H ws vs/\zF vs its/\s.heap.IsList p its.toArray/\PlainL s.heap p its.toArray/\ws.length<=sizeLine:=by
 obtain ⟨vs,q,r⟩:=ab.seq e;obtain ⟨its,vr,pl,hl⟩:=I.list q;exact ⟨vs,its,q,r,vr,(let ⟨o,n,h1,h2,_,h3⟩:=pl;⟨o,h1,h2,n,h3⟩),pl,by rw [← r.length];exact hl⟩
theorem zhx (I:Inv X pins σ H s) {G:Hw} {p q:Addr} {xs ys:List W} {A:Around} (ab:yC X.K H G) (e:yU G p=some xs) (e':yU G q=some ys) (hx:wA xs=true) (hy:wA ys=true) (hu:A.units+1+min (kO xs) (kO ys)<cLine) :
  RcAt A s (.ref p) (.ref q) (jG xs ys)/\RcNeAt A s (.ref p) (.ref q) (!jG xs ys):=by
 obtain ⟨vs,its,_,rs,vr,il,_⟩:=zbA I ab e;obtain ⟨us,its',_,rs',vr',il',_⟩:=zbA I ab e';have h0:A.units<cLine:=by omega
 have l1:its.toArray.size=xs.length:=by rw [zzS,← vr.length,rs.length]
 have l2:its'.toArray.size=ys.length:=by rw [zzS,← vr'.length,rs'.length]
 have key:∀ (j:Nat) (j1:j<its.toArray.size) (j2:j<its'.toArray.size),EqAt A.in1 s its.toArray[j] its'.toArray[j] (vO xs ys j):=fun j j1 j2 =>
  zb3 I rs vr rs' vr' hx hy (A:=A.in1) hu j (by simpa using j1) (by simpa using j2)
 by_cases hl:xs.length=ys.length
 .rw [← zb1 hl,← l1];exact ⟨RcAt.lists il il' (by omega) h0 key,RcNeAt.lists il il' (by omega) h0 key⟩
 .rw [zdR hl];have:(its.toArray.size != its'.toArray.size)=true:=by simp only [bne_iff_ne];omega
  exact ⟨RcAt.lists_lengths il il' this h0,RcNeAt.lists_lengths il il' this h0⟩
end
end L3
namespace PySem
open Sem (wp)
open Builtin
theorem mB:fillsNumberSlot (.type "tuple") "mul" = pure false :=
 fillsNumberSlot_seq (id := "tuple.__mul__") (r:=some (.builtin "tuple.__rmul__")) F.slot_tuple_mul.lookup (by decide +kernel) F.slot_tuple_rmul.lookup (by decide +kernel)
theorem mD:seqRepeat? (.type "tuple")=pure (some (.builtin "tuple.__mul__")):=by
 unfold seqRepeat?;rw [seqSlot_of (T := "tuple") (name := "__mul__") (id := "tuple.__mul__") F.slot_tuple_mul.lookup (by decide +kernel),seqSlot_of (T := "tuple") (name := "__rmul__") (id := "tuple.__rmul__") F.slot_tuple_rmul.lookup (by decide +kernel)];rfl
theorem za3 (a:Int) (t:Tok) (l:Addr) (items:Array Value) (n:Nat) (dd:Option Addr) (sl:Array (Option Value)) :
  Meets (Builtin.«int.__rmul__» ⟨[.int a t,.ref l],[]⟩) (fun _ R s=>s.heap.get? l=some { cls:=.type "tuple", dict:=dd,data:=.seq items n,slots:=sl }/\R (.ok (.ret Value.notImplemented)) s) :=
 .of_wp fun prog w A R s h=>by obtain ⟨hp,g,d,tk,os⟩:=s;obtain ⟨hl,h⟩:=h;wp_walk;exact ⟨_,rfl,h⟩
theorem zg2 (l:Addr) (items:Array Value) (n:Nat) (u:Tok) (dd:Option Addr) (sl:Array (Option Value)) :
  Meets (Builtin.«tuple.__mul__» ⟨[.ref l,.int 1 u],[]⟩) (fun _ R s=>s.heap.get? l=some { cls:=.type "tuple", dict:=dd,data:=.seq items n,slots:=sl }/\R (.ok (.ret (Value.ref l))) s) :=
 .of_wp fun prog w A R s h=>by obtain ⟨hp,g,d,tk,os⟩:=s;obtain ⟨hl,h⟩:=h;wp_walk;exact ⟨_,rfl,h⟩
theorem zff (l:Addr) (items:Array Value) (n:Nat) (u:Tok) (dd:Option Addr) (sl:Array (Option Value)) (hi:items.isEmpty=false) :
  Meets (Builtin.«tuple.__mul__» ⟨[.ref l,.int 0 u],[]⟩) (fun _ R s=>s.heap.get? l=some { cls:=.type "tuple", dict:=dd,data:=.seq items n,slots:=sl }/\R (.ok (.ret (Value.ref s.heap.objs.size))) { s with heap:=s.heap.push { cls:=.type "tuple", data:=.seq #[] } }) :=
 .of_wp fun prog w A R s h=>by obtain ⟨hp,g,d,tk,os⟩:=s;obtain ⟨hl,h⟩:=h;wp_walk;exact ⟨_,rfl,h⟩
end PySem
namespace L3
open PySem PySem.Spec PyProof.Rows L2
section
variable {X : Cx}
def rRepT (K:yZ):R2:=fun x y H Q=>∃ a k xs,x=.ref a/\y=.int k/\tV K H a xs/\((k=1/\Q (.ref a) H)\/(k=0/\xs≠[]/\∀ p,H p=none->Q (.ref p) (yT H p (.tup []))))
theorem zfL:qN X (binaryOp .Mult) (rRepT X.K):=by
 intro pins s σ H x y v u Q I rx ry h;obtain ⟨a,k,xs,rfl,rfl,ha,h⟩:=h;cases rx;obtain ⟨t,rfl⟩:=ry;obtain ⟨its,r1,p1,_⟩:=I.tuple ha;obtain ⟨⟨cls,dd,data,sl⟩,ho,hc,n,hd⟩:=id p1;simp only at hc hd;subst hc hd;rcases h with ⟨rfl,q⟩|⟨rfl,hx,q⟩
 .exact wpAny_binaryOp_repeat_ref (T := "tuple") (U := "int") (by decide) ⟨_,ho,rfl⟩ (fun s'=>typeIs_int s' 1 t) mB F.fills_int_mul F.slot_int_rmul mD F.slot_int_index.lookup
   (call_meets F.slot_int_rmul (typeIs_int s 1 t) F.entry_int_rmul (F.args_int_rmul_2 _ _) (za3 1 t a its.toArray n dd sl)
    ⟨ho,rfl,⟨_,ho,rfl⟩,call_meets F.slot_tuple_mul ⟨_,ho,rfl⟩ F.entry_tuple_mul (F.args_tuple_mul_2 _ _) (zg2 a its.toArray n t dd sl) ⟨ho,.ref a,H,I,rfl,q⟩⟩)
 .have he:its.toArray.isEmpty=false:=by
   cases its with
   |nil=>exact absurd (r1.nil_iff.mp rfl) hx
   |cons _ _=>rfl
  refine wpAny_binaryOp_repeat_ref (T := "tuple") (U := "int") (by decide) ⟨_,ho,rfl⟩ (fun s'=>typeIs_int s' 0 t) mB F.fills_int_mul F.slot_int_rmul mD F.slot_int_index.lookup
   (call_meets F.slot_int_rmul (typeIs_int s 0 t) F.entry_int_rmul (F.args_int_rmul_2 _ _) (za3 0 t a its.toArray n dd sl)
    ⟨ho,rfl,⟨_,ho,rfl⟩,call_meets F.slot_tuple_mul ⟨_,ho,rfl⟩ F.entry_tuple_mul (F.args_tuple_mul_2 _ _) (zff a its.toArray n t dd sl he) ⟨ho,?_⟩⟩)
  refine ⟨.ref s.heap.objs.size,_,I.laid (t':=s.toks) (o:=.tup []) (fun b ob q=>Heap.get?_push_of_some _ q) (zzR _) ?_,rfl,q _ (I.hok.fresh (zzR _))⟩;exact ⟨Nat.zero_le _,[],.nil,IsTup.new _ _⟩
def rRepS:R2:=fun x y H Q=>∃ i k,x=.str i/\y=.int k/\((k=1/\Q (.str i) H)\/(k=0/\Q (.str Str.empty) H))
theorem zfM:qN X (binaryOp .Mult) rRepS:=by
 intro pins s σ H x y v u Q I rx ry h;obtain ⟨i,k,rfl,rfl,h⟩:=h;obtain ⟨t,rfl⟩:=rx;obtain ⟨t2,rfl⟩:=ry;rcases h with ⟨rfl,q⟩|⟨rfl,q⟩
 .refine PySem.P.mul_str (by decide) (fun _ z=>absurd z (by simp)) (fun _ z=>absurd z (by simp)) ?_;rw [if_neg (by decide),if_pos (by simp)];exact ⟨.str i,H,I,⟨t,rfl⟩,q⟩
 .exact PySem.P.mul_str_none (by decide) (by decide) ⟨.str Str.empty,H,I.tok _ (Nat.lt_succ_of_lt I.tk),⟨_,rfl⟩,q⟩
end
end L3
namespace L3
open PySem PySem.Spec PyProof.Rows L2 PySem.SeqAt
abbrev R3:=W->W->Hw->Q3->Prop
def jL (K:yZ) (H:Hp) (Q:VK):Q3:=fun w G'=>∀ v H',yV K H H'->xN K H' w v->yC K H' G'->Q v H'
theorem jL.mono {K:yZ} {H H1:Hp} {Q:VK} (g:yV K H H1) {w:W} {G:Hw} (h:jL K H Q w G):jL K H1 Q w G:=fun v H' g'=>h v H' (g.trans g')
def sI (r:R3):Prop:=∀ x y G (Q Q':Q3),(∀ w G',Q w G'->Q' w G')->r x y G Q->r x y G Q'
def tI (K:yZ) (r:R3):R2:=fun v u H Q=>∃ x y G,xN K H x v/\xN K H y u/\yC K H G/\r x y G (jL K H Q)
def wI:Operator->R3
 | .Add=>fun x y G Q=>match x,y with
  | .int i,.int j=>Q (.int (i+j)) G
  | .str a,.str b=>a.length+b.length<=sizeLine/\Q (.str (a++b)) G
  | .tup a,.tup b=>a.length+b.length<=sizeLine/\Q (.tup (a++b)) G
  | .ref p,.ref q=>(match G p,G q with
   |some (.lst xs),some (.lst ys)=>xs.length+ys.length<=sizeLine/\∀ r,G r=none->Q (.ref r) (put G r (.lst (xs++ys)))
   |_,_=>False)
  |_,_=>False
 | .Sub=>fun x y G Q=>match x,y with
  | .int i,.int j=>Q (.int (i-j)) G
  |_,_=>False
 | .Mult=>fun x y G Q=>match x,y with
  | .int i,.int j=>cO i j/\Q (.int (i * j)) G
  | .tup xs,.int k=>(k=1/\Q (.tup xs) G)\/(k=0/\xs≠[]/\Q (.tup []) G)
  | .str a,.int k=>(k=1/\Q (.str a) G)\/(k=0/\Q (.str Str.empty) G)
  | .ref p,.int k=>(match G p with
   |some (.lst xs)=>(-(2 ^ 63)<=k/\k<2 ^ 63/\xs.length * k.toNat<=sizeLine)/\∀ r,G r=none->Q (.ref r) (put G r (.lst (List.replicate k.toNat xs).flatten))
   |_=>False)
  |_,_=>False
 | .Mod=>fun x y G Q=>match x,y with
  | .int i,.int j=>0<j/\Q (.int (i % j)) G
  |_,_=>False
 | .FloorDiv=>fun x y G Q=>match x,y with
  | .int i,.int j=>CDiv i j/\Q (.int (i / j)) G
  |_,_=>False
 | .Pow=>fun x y G Q=>match x,y with
  | .int i,.int j=>CPow i j/\Q (.int (i ^ j.toNat)) G
  |_,_=>False
 |_=>fun _ _ _ _=>False
theorem fR:∀ op,sI (wI op):=by
 intro op x y G Q Q' k h
 cases op with
 |Add =>
  cases x with
  |int i=>cases y with
   |int j=>exact k _ _ h
   |_=>exact h.elim
  |str i=>cases y with
   |str j=>exact ⟨h.1,k _ _ h.2⟩
   |_=>exact h.elim
  |tup a=>cases y with
   |tup b=>exact ⟨h.1,k _ _ h.2⟩
   |_=>exact h.elim
  |ref p=>cases y with
   |ref q =>
    simp only [wI] at h ⊢
    split at h
    .exact ⟨h.1,fun r hr=>k _ _ (h.2 r hr)⟩
    .exact h.elim
   |_=>exact h.elim
  |_=>exact h.elim
 |Mult =>
  cases x with
  |int i=>cases y with
   |int j=>exact ⟨h.1,k _ _ h.2⟩
   |_=>exact h.elim
  |tup a=>cases y with
   |int j=>exact h.imp (fun z=>⟨z.1,k _ _ z.2⟩) fun z=>⟨z.1,z.2.1,k _ _ z.2.2⟩
   |_=>exact h.elim
  |str a=>cases y with
   |int j=>exact h.imp (fun z=>⟨z.1,k _ _ z.2⟩) fun z=>⟨z.1,k _ _ z.2⟩
   |_=>exact h.elim
  |ref p=>cases y with
   |int q =>
    simp only [wI] at h ⊢
    split at h
    .exact ⟨h.1,fun r hr=>k _ _ (h.2 r hr)⟩
    .exact h.elim
   |_=>exact h.elim
  |_=>exact h.elim
 |Sub =>
  cases x with
  |int i=>cases y with
   |int j=>exact k _ _ h
   |_=>exact h.elim
  |_=>exact h.elim
 |Mod =>
  cases x with
  |int i=>cases y with
   |int j=>exact ⟨h.1,k _ _ h.2⟩
   |_=>exact h.elim
  |_=>exact h.elim
 |FloorDiv =>
  cases x with
  |int i=>cases y with
   |int j=>exact ⟨h.1,k _ _ h.2⟩
   |_=>exact h.elim
  |_=>exact h.elim
 |Pow =>
  cases x with
  |int i=>cases y with
   |int j=>exact ⟨h.1,k _ _ h.2⟩
   |_=>exact h.elim
  |_=>exact h.elim
 |_=>exact h.elim
section
variable {X : Cx}
theorem zQ.nil_iff {K:yZ} {H:Hp} {ws:List W} {vs:List V} (h:zQ K H ws vs):vs=[]↔ws=[]:=by
 have:=h.length
 constructor
 .intro e;subst e;exact List.eq_nil_of_length_eq_zero this.symm
 .intro e;subst e;exact List.eq_nil_of_length_eq_zero this
theorem zgJ {pins:List (Addr×Obj)} {s:Shared} {σ:L2.St} {H:Hp} {a b:Addr} {Q:Value->Shared->Prop} {E:Value->Shared->Prop} {ws:List Value} (ht:IsTup s.heap a #[]) (hb:IsTup s.heap b ws.toArray) (h:Q (.ref b) s) :
  wpAny (model X.prog X.w) X.A (binaryOp .Add (.ref a) (.ref b)) Q E s:=by
 obtain ⟨⟨cls,dd,data,sl⟩,ho,hc,n,hd⟩:=id ht;obtain ⟨⟨cls2,dd2,data2,sl2⟩,ho2,hc2,n2,hd2⟩:=id hb;simp only at hc hd hc2 hd2;subst hc hd hc2 hd2
 exact concat_meets ⟨_,ho,rfl⟩ ⟨_,ho2,rfl⟩ noFill_tuple_add seq_tuple_add PySem.F.slot_tuple_add PySem.F.entry_tuple_add (PySem.F.args_tuple_add_2 _ _)
  (tuple_addW0 a b #[] ws.toArray n n2 dd dd2 sl sl2 rfl) ⟨ho,ho2,h⟩
theorem jD {K:yZ} {H:Hp} {G:Hw} {Q:VK} {ws:List W} {vs:List V} (ab:yC K H G) (r:zQ K H ws vs) (h:∀ p,G p=none->jL K H Q (.ref p) (put G p (.lst ws))):∀ p,H p=none->Q (.ref p) (yT H p (.lst vs)):=fun p hp =>
 h p (ab.free hp) _ _ (yF hp) rfl (ab.new hp ⟨vs,rfl,r.mono (yF hp)⟩)
theorem rT {K:yZ} {H:Hp} {G:Hw} {Q:VK} {ws:List W} {vs:List V} (ab:yC K H G) (r:zQ K H ws vs) (h:jL K H Q (.tup ws) G):∀ p,H p=none->Q (.ref p) (yT H p (.tup vs)):=fun p hp =>
 h _ _ (yF hp) ⟨p,vs,rfl,.of yY,r.mono (yF hp)⟩ (ab.tup hp)
theorem zQ.flat {K:yZ} {H:Hp} {ws:List W} {vs:List V} (h:zQ K H ws vs):∀ k:Nat,zQ K H (List.replicate k ws).flatten (List.replicate k vs).flatten
 | 0=>rfl
 |k+1=>by rw [List.replicate_succ,List.replicate_succ,List.flatten_cons,List.flatten_cons];exact h.append (zQ.flat h k)
theorem ziY (op:Operator):qN X (binaryOp op) (tI X.K (wI op)):=by
 intro pins s σ H v u a b Q I rv ru h;obtain ⟨x,y,G,rx,ry,ab,h⟩:=h
 cases op with
 |Add =>
  cases x with
  |int i =>
   cases y with
   |int j=>cases rx;cases ry;exact zh1 pins s σ H _ _ _ _ Q I rv ru ⟨i,j,rfl,rfl,h _ _ .refl rfl ab⟩
   |_=>exact h.elim
  |str i =>
   cases y with
   |str j=>cases rx;cases ry;exact zax pins s σ H _ _ _ _ Q I rv ru ⟨i,j,rfl,rfl,h.1,h.2 _ _ .refl rfl ab⟩
   |_=>exact h.elim
  |tup xs =>
   cases y with
   |tup ys =>
    obtain ⟨a1,vs,its,rfl,rfl,q,rs,vr,it,_⟩:=xC I rx rv;obtain ⟨b1,us,its',rfl,rfl,q',rs',vr',it',_⟩:=xC I ry ru
    by_cases e:xs=[]
    .subst e;have e1:vs=[]:=(rs.nil_iff).mpr rfl;subst e1;cases vr;exact zgJ (pins:=pins) (σ:=σ) (H:=H) it it' ⟨.ref b1,H,I,rfl,h.2 _ _ .refl ⟨b1,us,rfl,q',rs'⟩ ab⟩
    .refine zfO pins s σ H (.ref a1) (.ref b1) _ _ Q I rfl rfl ⟨a1,b1,vs,us,rfl,rfl,q,q',fun z=>e (rs.nil_iff.mp z),by rw [rs.length,rs'.length];exact h.1,fun z=>?_,fun _=>?_⟩
     .have:ys=[]:=rs'.nil_iff.mp z;subst this;exact h.2 _ _ .refl ⟨a1,vs,rfl,q,by rw [List.append_nil];exact rs⟩ ab
     .exact rT ab (rs.append rs') h.2
   |_=>exact h.elim
  |ref p =>
   cases y with
   |ref q =>
    cases rx;cases ry;simp only [wI] at h
    split at h
    .rename_i xs ys e1 e2;obtain ⟨vs,q1,r1⟩:=ab.lst e1;obtain ⟨us,q2,r2⟩:=ab.lst e2;exact zh0 pins s σ H _ _ _ _ Q I rv ru ⟨p,q,vs,us,rfl,rfl,q1,q2,by rw [r1.length,r2.length];exact h.1,jD ab (r1.append r2) h.2⟩
    .exact h.elim
   |_=>exact h.elim
  |_=>exact h.elim
 |Sub =>
  cases x with
  |int i =>
   cases y with
   |int j=>cases rx;cases ry;exact zhV pins s σ H _ _ _ _ Q I rv ru ⟨i,j,rfl,rfl,h _ _ .refl rfl ab⟩
   |_=>exact h.elim
  |_=>exact h.elim
 |Mult =>
  cases x with
  |int i =>
   cases y with
   |int j=>cases rx;cases ry;exact zhY pins s σ H _ _ _ _ Q I rv ru ⟨i,j,rfl,rfl,h.1,h.2 _ _ .refl rfl ab⟩
   |_=>exact h.elim
  |tup xs =>
   cases y with
   |int k =>
    obtain ⟨a1,vs,its,rfl,rfl,q,rs,vr,it,_⟩:=xC I rx rv;cases ry;refine zfL pins s σ H (.ref a1) (.int k) _ _ Q I rfl ru ⟨a1,k,vs,rfl,rfl,q,?_⟩;rcases h with ⟨e,h⟩|⟨e,hx,h⟩
    .exact .inl ⟨e,h _ _ .refl ⟨a1,vs,rfl,q,rs⟩ ab⟩
    .exact .inr ⟨e,fun z=>hx (rs.nil_iff.mp z),rT ab (ws:=[]) (vs:=[]) rfl h⟩
   |_=>exact h.elim
  |str i =>
   cases y with
   |int k =>
    cases rx;cases ry;exact zfM pins s σ H _ _ _ _ Q I rv ru ⟨i,k,rfl,rfl,h.imp (fun z=>⟨z.1,z.2 _ _ .refl rfl ab⟩) fun z=>⟨z.1,z.2 _ _ .refl rfl ab⟩⟩
   |_=>exact h.elim
  |ref p =>
   cases y with
   |int k =>
    cases rx;cases ry;simp only [wI] at h
    split at h
    .rename_i xs e1;obtain ⟨vs,q1,r1⟩:=ab.lst e1;exact zhW pins s σ H _ _ _ _ Q I rv ru ⟨p,k,vs,rfl,rfl,q1,h.1.1,h.1.2.1,by rw [r1.length];exact h.1.2.2,jD ab (r1.flat _) h.2⟩
    .exact h.elim
   |_=>exact h.elim
  |_=>exact h.elim
 |Mod =>
  cases x with
  |int i =>
   cases y with
   |int j=>cases rx;cases ry;exact zhZ pins s σ H _ _ _ _ Q I rv ru ⟨i,j,rfl,rfl,h.1,h.2 _ _ .refl rfl ab⟩
   |_=>exact h.elim
  |_=>exact h.elim
 |FloorDiv =>
  cases x with
  |int i =>
   cases y with
   |int j=>cases rx;cases ry;exact zfN pins s σ H _ _ _ _ Q I rv ru ⟨i,j,rfl,rfl,h.1,h.2 _ _ .refl rfl ab⟩
   |_=>exact h.elim
  |_=>exact h.elim
 |Pow =>
  cases x with
  |int i =>
   cases y with
   |int j=>cases rx;cases ry;exact zhX pins s σ H _ _ _ _ Q I rv ru ⟨i,j,rfl,rfl,h.1,h.2 _ _ .refl rfl ab⟩
   |_=>exact h.elim
  |_=>exact h.elim
 |_=>exact h.elim
end
theorem pG {k:Str}:∀ {es:List DictEntry} {ks:List Str} {vs:List V},zd9 es ks vs->(es.all fun e=>isExactStrKey e.key)=true/\(match (ks.zip vs).lookup k with
  |some v=>∃ u,(es.find? fun e=>e.key.isStr k).map (·.val)=some u/\zC v u
  |none=>(es.find? fun e=>e.key.isStr k).map (·.val)=none)
 | [],ks,vs,h=>by obtain ⟨rfl,rfl⟩:=h;exact ⟨rfl,rfl⟩
 |e::r,ks,vs,h=>by
  obtain ⟨x,t,v,ks',vs',rfl,rfl,hk,hv,hr⟩:=h;have ih:=pG (k:=k) hr;refine ⟨by rw [List.all_cons,hk,ih.1];rfl,?_⟩;rw [List.zip_cons_cons,List.lookup_cons,List.find?_cons,KTD.key_is hk k]
  by_cases hx:k=x
  .subst hx;simp only [beq_self_eq_true,decide_true];exact ⟨e.val,rfl,hv⟩
  .have e1:(k==x)=false:=by simpa using hx
   rw [e1,decide_eq_false hx];exact ih.2
theorem zeF {X:Cx} {pins:List (Addr×Obj)} {σ:L2.St} {H:Hp} {s:Shared} {a:Addr} {ks:List Str} {vs:List V} {k:Str} {tk:Tok} {A:Around} {Q:Option Value->Shared->Prop} {E:Value->Shared->Prop} (I:Inv X pins σ H s) (h:KD X.K a ks vs)
  (q:match (ks.zip vs).lookup k with|some v=>∀ u s',zC v u->Inv X pins σ H s'->Q (some u) s'|none=>∀ s',Inv X pins σ H s'->Q none s'):wpAny (model X.prog X.w) A (dictGet a (.str k tk)) Q E s:=by
 obtain ⟨o,es,ep,l,_,hd,_,_,hr⟩:=h;have ho:=I.kIn _ _ l;obtain ⟨hx,hf⟩:=pG (k:=k) hr;have J:Inv X pins σ H { s with toks:=s.toks+1 }:=I.tok _;unfold dictGet
 try with_reducible refine wpAny_holding ?_
 refine wpAny_bind (wpAny_pyHash_str (wpAny_bind ?_));refine KTD.kt_dictFind_strs (s:={ s with toks:=s.toks+1 }) ho hd (by obtain ⟨es'⟩:=es;simpa using hx) ?_
 have key:Q (findBy (fun k v=>v.isStr k) es k) { s with toks:=s.toks+1 }:=by
  have e:findBy (fun k v=>v.isStr k) es k=(es.toList.find? fun e=>e.key.isStr k).map (·.val):=by obtain ⟨es'⟩:=es;simp [findBy]
  rw [e];revert q hf
  cases (ks.zip vs).lookup k with
  |some v=>intro q hf;obtain ⟨u,e1,r⟩:=hf;rw [e1];exact q u _ r J
  |none=>intro q hf;rw [hf];exact q _ J
 rw [findBy_of_findIdx?] at key;revert key
 cases es.findIdx? fun e=>e.key.isStr k with
 |none=>exact fun key=>wpAny_pure key
 |some i=>exact fun key=>wpAny_bind (wpAny_dictEntries (s:={ s with toks:=s.toks+1 }) ho hd (wpAny_pure key))
theorem zio {X:Cx} {pins:List (Addr×Obj)} {σ:L2.St} {H:Hp} {s:Shared} {a:Addr} {ks:List Str} {vs:List V} (I:Inv X pins σ H s) (h:KD X.K a ks vs):s.TypeIs (.ref a) "dict" := by
 obtain ⟨o,es,ep,l,hc,_⟩:=h;exact ⟨o,I.kIn _ _ l,hc.1⟩
theorem kF {K:yZ} {H:Hp} {k:Str} {w:W}:∀ {ks:List Str} {ws:List W} {vs:List V},zQ K H ws vs->(ks.zip ws).lookup k=some w->∃ v,(ks.zip vs).lookup k=some v/\xN K H w v
 | [],ws,vs,_,e=>by simp at e
 |x::ks,[],vs,_,e=>by simp at e
 |x::ks,y::ws,vs,r,e=>by
  obtain ⟨v,vs',rfl,rv,rs⟩:=r;rw [List.zip_cons_cons,List.lookup_cons] at e ⊢
  cases hx:(k==x) with
  |true=>rw [hx] at e;cases e;exact ⟨v,rfl,rv⟩
  |false=>rw [hx] at e;exact kF rs e
theorem sO {K:yZ} {H:Hp} {k:Str}:∀ {ks:List Str} {ws:List W} {vs:List V},zQ K H ws vs->(ks.zip ws).lookup k=none->(ks.zip vs).lookup k=none
 | [],ws,vs,_,e=>by simp
 |x::ks,[],vs,r,e=>by rw [show vs=[] from r];rfl
 |x::ks,y::ws,vs,r,e=>by
  obtain ⟨v,vs',rfl,rv,rs⟩:=r;rw [List.zip_cons_cons,List.lookup_cons] at e ⊢
  cases hx:(k==x) with
  |true=>rw [hx] at e;cases e
  |false=>rw [hx] at e;exact sO rs e
theorem zeE {X:Cx} {pins:List (Addr×Obj)} {σ:L2.St} {H:Hp} {s:Shared} {a:Addr} {ks:List Str} {vs:List V} {k:Str} {tk:Tok} {A:Around} {Q:Bool->Shared->Prop} {E:Value->Shared->Prop} (I:Inv X pins σ H s) (h:KD X.K a ks vs)
  (q:∀ s',Inv X pins σ H s'->Q ((ks.zip vs).lookup k).isSome s'):wpAny (model X.prog X.w) A (contains (.ref a) (.str k tk)) Q E s:=by
 have hT:=zio I h;have hd:(a==sysModules)=false:=by obtain ⟨o,es,ep,l,_,_,_,z,_⟩:=h;exact z
 have nn:¬ ((some (Value.builtin "dict.__contains__")==some Value.none)=true):=by rw [beq_builtin_none];simp
 unfold contains;refine wpAny_holding (wpAny_bind (wpAny_specialOf hT PySem.F.slot_dict_contains.lookup ?_));dsimp only;rw [if_neg nn];refine wpAny_bind (wpAny_callSpecialUnlessNone?_slot (name:=Str.ofString "__contains__") hT PySem.F.slot_dict_contains (wpAny_call_entry PySem.F.slot_dict_contains hT PySem.F.entry_dict_contains (show wpAny _ _ (dictGet a (.str k tk) >>= _) _ _ s from wpAny_bind (zeF I h ?_)) (PySem.F.args_dict_contains_2 _ _)));revert q
 cases (ks.zip vs).lookup k with
 |some v=>exact fun q u s' r J=>wpAny_pure ⟨_,rfl,wpAny_truthy_bool (q s' J)⟩
 |none=>exact fun q s' J=>wpAny_bind (wpAny_pendingKey_other hd (wpAny_pure ⟨_,rfl,wpAny_truthy_bool (q s' J)⟩))
def eqG (G:Hw):W->W->Option Bool
 | .ref p,.ref q=>match yU G p,yU G q with
  |some a,some b=>if (wA a&&wA b&&decide (min (kO a) (kO b)<=150))=true then some (jG a b) else none
  |_,_=>none
 |x,y=>if (uS x&&uS y&&decide (min (nG x) (nG y)<=150))=true then some (vQ x y) else none
def inR (neg:Bool) (x:W) (ws:List W) (G:Hw) (Q:Q3):Prop:=(uS x=true/\wA ws=true/\min (kO ws) (nG x)<=150)/\Q (.bl (if neg then !ws.any fun w=>vQ w x else ws.any fun w=>vQ w x)) G
def inStr (neg:Bool) (i j:Str):Bool:=if neg then !(!(Builtin.Str.occurrences j i 0 j.length 1).isEmpty) else !(Builtin.Str.occurrences j i 0 j.length 1).isEmpty
def kA:W->Option yH
 | .int i=>some (.inl i)
 | .str x=>some (.inr x)
 |_=>none
def dN {α:Type} (kvs:List (yH×α)) (k:yH):Bool:=kvs.any fun p=>decide (p.1=k)
def uL (neg:Bool):R3:=fun x y G Q=>match y with
 | .tup ws=>inR neg x ws G Q
 | .ref p=>(match G p with
  |some (.lst ws)=>inR neg x ws G Q
  |some (.fix ws)=>inR neg x ws G Q
  |some (.dic kvs)=>(match kA x with|some k=>Q (.bl (if neg then !dN kvs k else dN kvs k)) G|none=>False)
  |_=>False)
 | .str j=>(match x with
  | .str i=>Q (.bl (inStr neg i j)) G
  |_=>False)
 | .dcf ks ws=>(match x with
  | .str k=>Q (.bl (if neg then !((ks.zip ws).lookup k).isSome else ((ks.zip ws).lookup k).isSome)) G
  |_=>False)
 |_=>False
def isR (neg:Bool):R3:=fun x y G Q=>match y with
 | .non=>Q (.bl (if neg then (match x with|.non=>false|_=>true) else (match x with|.non=>true|_=>false))) G
 | .bl b=>Q (.bl (if neg then (match x with|.bl c=>!(c==b)|_=>true) else (match x with|.bl c=>c==b|_=>false))) G
 |_=>False
def nA (p:Int->Int->Bool) (q:Option (Str->Str->Bool):=none):R3:=fun x y G Q=>match x,y with
 | .int i,.int j=>Q (.bl (p i j)) G
 | .str i,.str j=>(match q with
  |some q=>Q (.bl (q i j)) G
  |none=>False)
 |_,_=>False
def ltS (x y:Str):Bool:=decide (x.cps.toList<y.cps.toList)
def leS (x y:Str):Bool:=!decide (y.cps.toList<x.cps.toList)
def leR:R3:=fun x y G Q=>match x,y with
 | .int i,.int j=>Q (.bl (decide (i<=j))) G
 | .str i,.str j=>Q (.bl (leS i j)) G
 |_,_=>False
def xI:CmpOp->R3
 | .Eq=>fun x y G Q=>match eqG G x y with|some b=>Q (.bl b) G|none=>False
 | .NotEq=>fun x y G Q=>match eqG G x y with|some b=>Q (.bl (!b)) G|none=>False
 | .Is=>isR false
 | .IsNot=>isR true
 | .In=>uL false
 | .NotIn=>uL true
 | .Lt=>nA (fun i j=>decide (i<j)) (some ltS)
 | .LtE=>leR
 | .Gt=>nA fun i j=>decide (j<i)
 | .GtE=>nA fun i j=>decide (j<=i)
theorem tL (p:Int->Int->Bool) (q:Option (Str->Str->Bool)):sI (nA p q):=by
 intro x y G Q Q' k h;cases q<;>cases x<;>cases y<;>simp only [nA] at h ⊢<;>first|exact h.elim|exact k _ _ h
theorem zdx:sI leR:=by
 intro x y G Q Q' k h;cases x<;>cases y<;>simp only [leR] at h ⊢<;>first|exact h.elim|exact k _ _ h
theorem gO (neg:Bool):sI (uL neg):=by
 intro x y G Q Q' k h;unfold uL at h ⊢
 cases y with
 |tup ws=>exact ⟨h.1,k _ _ h.2⟩
 |ref p =>
  simp only at h ⊢
  split at h
  .exact ⟨h.1,k _ _ h.2⟩
  .exact ⟨h.1,k _ _ h.2⟩
  .split at h
   .exact k _ _ h
   .exact h.elim
  .exact h.elim
 |str j =>
  cases x with
  |str i=>exact k _ _ h
  |_=>exact h.elim
 |dcf ks ws =>
  cases x with
  |str i=>exact k _ _ h
  |_=>exact h.elim
 |_=>exact h.elim
theorem zaf (neg:Bool):sI (isR neg):=by
 intro x y G Q Q' k h;unfold isR at h ⊢
 cases y with
 |non=>exact k _ _ h
 |bl b=>exact k _ _ h
 |_=>exact h.elim
theorem xZ:∀ op,sI (xI op):=by
 intro op x y G Q Q' k h
 cases op with
 |Eq =>
  simp only [xI] at h ⊢
  split at h
  .exact k _ _ h
  .exact h.elim
 |NotEq =>
  simp only [xI] at h ⊢
  split at h
  .exact k _ _ h
  .exact h.elim
 |Is=>exact zaf false x y G Q Q' k h
 |IsNot=>exact zaf true x y G Q Q' k h
 |In=>exact gO false x y G Q Q' k h
 |NotIn=>exact gO true x y G Q Q' k h
 |Lt=>exact tL (fun i j=>decide (i<j)) (some ltS) x y G Q Q' k h
 |LtE=>exact zdx x y G Q Q' k h
 |Gt=>exact tL (fun i j=>decide (j<i)) none x y G Q Q' k h
 |GtE=>exact tL (fun i j=>decide (j<=i)) none x y G Q Q' k h
section
variable {X : Cx} {pins : List (Addr × Obj)} {σ : L2.St} {H : Hp} {s : Shared}
open Classical in
def eqI (K:yZ) (H:Hp) (x:W) (y:Value):Bool:=if ∃ w v,xN K H w v/\zC v y/\uS w=true/\vQ w x=true then true else false
theorem zeK (I:Inv X pins σ H s) {x w:W} {v:V} {y:Value} (r:xN X.K H w v) (q:zC v y) (p:uS w=true):eqI X.K H x y=vQ w x:=by
 unfold eqI
 cases e:vQ w x with
 |true=>rw [if_pos ⟨w,v,r,q,p,e⟩]
 |false =>
  rw [if_neg];rintro ⟨w',v',r',q',p',e'⟩;have:=zC.inj q q';subst this;rw [zbc I w' w v r' r p' p,e] at e';cases e'
theorem zgm (I:Inv X pins σ H s) {x:W}:∀ {ws:List W} {vs:List V} {us:List Value},zQ X.K H ws vs->zF vs us->wA ws=true->us.any (eqI X.K H x)=ws.any fun w=>vQ w x:=by
 intro ws
 induction ws with
 |nil=>intro vs us h r _;rw [show _=[] from h] at r;cases r;rfl
 |cons w ws ih =>
  intro vs us h r p;obtain ⟨v,t,e,h,hs⟩:=h;subst e
  cases r with
  |cons r rs =>
   have p':=xG.mp p;rw [List.any_cons,List.any_cons,zeK I h r p'.1,ih hs rs p'.2]
theorem ziO (I:Inv X pins σ H s) {x:W} {vx:V} {ux:Value} {A:Around} (rx:xN X.K H x vx) (qx:zC vx ux) (px:uS x=true):∀ {ws:List W} {vs:List V} {us:List Value},zQ X.K H ws vs->zF vs us->wA ws=true->A.units+min (kO ws) (nG x)<cLine ->
  ∀ y∈us,EqAt A s y ux (eqI X.K H x y):=by
 intro ws
 induction ws with
 |nil=>intro vs us h r _ _ y hy;rw [show _=[] from h] at r;cases r;cases hy
 |cons w ws ih =>
  intro vs us h r p hu y hy;obtain ⟨v,t,e,h,hs⟩:=h;subst e;simp only [kO] at hu
  cases r with
  |cons r rs =>
   have p':=xG.mp p;rcases List.mem_cons.mp hy with e|hy
   .subst e;rw [zeK I h r p'.1];exact zeM I w x v vx _ ux A h r rx qx p'.1 px (by omega)
   .exact ih hs rs p'.2 (by omega) y hy
theorem zac {M:Model} {A:Around} {E:Value->Shared->Prop} {Q:Value->Shared->Prop} {v:Value} {b:Bool} (hb:∀ p,v≠.builtin p) (h:Q (.bool (v==.bool b)) s):wpAny M A (compareOp .Is v (.bool b)) Q E s:=by
 cases v<;>first|exact wpAny_pure h|exact absurd rfl (hb _)
theorem pB {M:Model} {A:Around} {E:Value->Shared->Prop} {Q:Value->Shared->Prop} {v:Value} {b:Bool} (hb:∀ p,v≠.builtin p) (h:Q (.bool (!(v==.bool b))) s):wpAny M A (compareOp .IsNot v (.bool b)) Q E s:=by
 cases v<;>first|exact wpAny_pure h|exact absurd rfl (hb _)
theorem zeo {v:V} {u:Value} (r:zC v u):∀ p,u≠.builtin p:=by
 cases v<;>first
  | (obtain ⟨t,e⟩:=r;subst e;intro p z;cases z)
  | (intro p z;subst z;cases r)
theorem ziE (neg:Bool):qN X (compareOp (if neg then .IsNot else .Is)) (tI X.K (isR neg)):=by
 intro pins s σ H v u a b Q I rv ru h;obtain ⟨x,y,G,rx,ry,ab,h⟩:=h;have fin:∀ k k':Bool,jL X.K H Q (.bl k) G->k=k'->EP X pins σ Q (.bool k') s:=fun k k' q e=>⟨.bl k',H,I,rfl,by rw [← e];exact q _ _ .refl rfl ab⟩
 cases y with
 |non =>
  cases ry;cases ru
  cases neg with
  |false =>
   refine is_none_gen (fin _ _ h ?_)
   cases x<;>first
    | (cases rx;cases rv;rfl)
    | (cases rx;obtain ⟨t,rfl⟩:=rv;rfl)
    | (obtain ⟨_,_,rfl,_⟩:=rx;cases rv;rfl)
  |true =>
   refine isnot_none_gen (fin _ _ h ?_)
   cases x<;>first
    | (cases rx;cases rv;rfl)
    | (cases rx;obtain ⟨t,rfl⟩:=rv;rfl)
    | (obtain ⟨_,_,rfl,_⟩:=rx;cases rv;rfl)
 |bl c =>
  cases ry;cases ru
  cases neg with
  |false =>
   refine zac (zeo rv) (fin _ _ h ?_)
   cases x<;>first
    | (cases rx;cases rv;rfl)
    | (cases rx;cases rv;rename_i d;cases c<;>cases d<;>rfl)
    | (cases rx;obtain ⟨t,rfl⟩:=rv;rfl)
    | (obtain ⟨_,_,rfl,_⟩:=rx;cases rv;rfl)
  |true =>
   refine pB (zeo rv) (fin _ _ h ?_)
   cases x<;>first
    | (cases rx;cases rv;rfl)
    | (cases rx;cases rv;rename_i d;cases c<;>cases d<;>rfl)
    | (cases rx;obtain ⟨t,rfl⟩:=rv;rfl)
    | (obtain ⟨_,_,rfl,_⟩:=rx;cases rv;rfl)
 |_=>exact h.elim
theorem zdA {K:yZ} {H:Hp} {y:W} {v:V} {k:yH} (r:xN K H y v) (h:kA y=some k):v=kV k:=by
 cases y<;>cases h<;>exact r
theorem zbT {K:yZ} {H:Hp} {k:yH}:∀ {l:List (yH×W)} {l':List (yH×V)},yX K H l l'->(kP l' k).isSome=dN l k
 | [],_,h=>by rw [show _=[] from h];rfl
 |p::r,_,⟨v,t,e,h,hr⟩=>by
  have ih:=zbT (k:=k) hr;subst e;unfold kP dN at ih ⊢;rw [List.find?_cons,List.any_cons]
  cases decide (p.1=k) with
  |true=>rfl
  |false=>exact ih
theorem rP (us:List Value) (e:Value->Bool):us.toArray.any e=us.any e:=by simp
theorem zex (neg:Bool) (hu:X.A.units+200<cLine):qN X (compareOp (if neg then .NotIn else .In)) (tI X.K (uL neg)):=by
 intro pins s σ H v u a b Q I rv ru h;obtain ⟨x,y,G,rx,ry,ab,h⟩:=h;have fin:∀ k:Bool,jL X.K H Q (.bl k) G->EP X pins σ Q (.bool k) s:=fun k q=>⟨.bl k,H,I,rfl,q _ _ .refl rfl ab⟩
 have sq:∀ (p:Addr) (ws:List W) (vs:List V) (its:List Value),zQ X.K H ws vs->zF vs its->(s.heap.IsTuple p its.toArray\/s.heap.IsList p its.toArray)->inR neg x ws G (jL X.K H Q) ->
   wpAny (model X.prog X.w) X.A (compareOp (if neg then .NotIn else .In) a (.ref p)) (EP X pins σ Q) X.xe s:=fun p ws vs its rs vr ht hin=>by
  obtain ⟨⟨p1,p2,p3⟩,q⟩:=hin;have he:∀ y,y∈its.toArray->EqAt X.A.in1 s y a (eqI X.K H x y):=fun y hy=>ziO I rx rv p1 rs vr p2 (by show X.A.units+1+_<_;omega) y (by simpa using hy);have ea:=zgm I (x:=x) rs vr p2
  cases neg with
  |false =>
   rcases ht with ht|ht
   .exact in_tupleAt _ ht he (by rw [rP,ea];exact fin _ q)
   .exact in_listAt _ ht he (by rw [rP,ea];exact fin _ q)
  |true =>
   rcases ht with ht|ht
   .exact notIn_tupleAt _ ht he (by rw [rP,ea];exact fin _ q)
   .exact notIn_listAt _ ht he (by rw [rP,ea];exact fin _ q)
 cases y with
 |tup ws =>
  obtain ⟨b1,us,its',rfl,rfl,q',rs',vr',it',_⟩:=xC I ry ru;exact sq b1 ws us its' rs' vr' (.inl it') h
 |ref p =>
  cases ry;cases ru
  have lk:∀ ws,yU G p=some ws->inR neg x ws G (jL X.K H Q)->wpAny (model X.prog X.w) X.A (compareOp (if neg then .NotIn else .In) a (.ref p)) (EP X pins σ Q) X.xe s:=fun ws e q=>by
   obtain ⟨vs,its,_,rs,vr,il,_⟩:=zbA I ab e;exact sq p ws vs its rs vr (.inr il) q
  simp only [uL] at h
  split at h
  .rename_i ws e;exact lk ws (by unfold yU;rw [e]) h
  .rename_i ws e;exact lk ws (by unfold yU;rw [e]) h
  .rename_i kvs e
   split at h
   .rename_i kk ek;obtain ⟨l,e1,rk⟩:=ab.dic e;have ev:=zdA rx ek;subst ev;have hs:(kP l kk).isSome=dN kvs kk:=zbT rk;have dg:DGet H p (kV kk) (kP l kk):=.inl ⟨l,kk,.inl e1,rfl,rfl⟩
    cases neg with
    |false=>exact d_in (by omega) I dg rv fun s' I'=>⟨.bl (kP l kk).isSome,H,I',rfl,by rw [hs];exact h _ H .refl rfl ab⟩
    |true=>exact zgF (by omega) I dg rv fun s' I'=>⟨.bl (!(kP l kk).isSome),H,I',rfl,by rw [hs];exact h _ H .refl rfl ab⟩
   .exact h.elim
  .exact h.elim
 |str j =>
  cases x with
  |str i =>
   cases rx;cases ry
   cases neg with
   |false=>exact zbp pins s σ H _ _ _ _ Q I rv ru ⟨i,j,rfl,rfl,h _ _ .refl rfl ab⟩
   |true=>exact fA pins s σ H _ _ _ _ Q I rv ru ⟨i,j,rfl,rfl,h _ _ .refl rfl ab⟩
  |_=>exact h.elim
 |dcf ks ws =>
  cases x with
  |str k =>
   obtain ⟨a1,vs,rfl,kd,rs⟩:=ry;obtain rfl:b=Value.ref a1:=ru;cases rx;obtain ⟨tk,rfl⟩:=rv
   have hs:((ks.zip vs).lookup k).isSome=((ks.zip ws).lookup k).isSome:=by
    cases e:(ks.zip ws).lookup k with
    |none=>rw [sO rs e];rfl
    |some w=>obtain ⟨v,e',_⟩:=kF rs e;rw [e'];rfl
   cases neg with
   |false =>
    show wpAny _ _ (contains (.ref a1) (.str k tk) >>= fun z=>pure (Value.bool z)) _ _ _;exact wpAny_bind (zeE I kd fun s' J=>wpAny_pure ⟨.bl _,H,J,rfl,by rw [hs];exact h _ _ .refl rfl ab⟩)
   |true =>
    show wpAny _ _ (contains (.ref a1) (.str k tk) >>= fun z=>pure (Value.bool (!z))) _ _ _;exact wpAny_bind (zeE I kd fun s' J=>wpAny_pure ⟨.bl _,H,J,rfl,by rw [hs];exact h _ _ .refl rfl ab⟩)
  |_=>exact h.elim
 |_=>exact h.elim
theorem zbo {op:CmpOp} {p:Int->Int->Bool} {f:Option (Str->Str->Bool)} (ho:qN X (compareOp op) (rI0 fun i j=>.bl (p i j)))
  (hq:∀ q,f=some q->∀ (i j:Str) (t t':Tok) (s:Shared) (Q:Value->Shared->Prop),Q (.bool (q i j)) s->wpAny (model X.prog X.w) X.A (compareOp op (.str i t) (.str j t')) Q X.xe s:=by (intro _ z;cases z)):qN X (compareOp op) (tI X.K (nA p f)):=by
 intro pins s σ H v u a b Q I rv ru h;obtain ⟨x,y,G,rx,ry,ab,h⟩:=h
 cases x with
 |int i =>
  cases y with
  |int j=>cases rx;cases ry;exact ho pins s σ H _ _ _ _ Q I rv ru ⟨i,j,rfl,rfl,h _ _ .refl rfl ab⟩
  |_=>exact h.elim
 |str i =>
  cases y with
  |str j =>
   cases f with
   |none=>exact h.elim
   |some q =>
    cases rx;cases ry;obtain ⟨t,rfl⟩:=rv;obtain ⟨t',rfl⟩:=ru;exact hq q rfl i j t t' s _ ⟨.bl (q i j),H,I,rfl,h _ _ .refl rfl ab⟩
  |_=>exact h.elim
 |_=>exact h.elim
theorem le_ok:qN X (compareOp .LtE) (tI X.K leR):=by
 intro pins s σ H v u a b Q I rv ru h;obtain ⟨x,y,G,rx,ry,ab,h⟩:=h
 cases x with
 |int i =>
  cases y with
  |int j=>cases rx;cases ry;exact op_le pins s σ H _ _ _ _ Q I rv ru ⟨i,j,rfl,rfl,h _ _ .refl rfl ab⟩
  |_=>exact h.elim
 |str i =>
  cases y with
  |str j =>
   cases rx;cases ry;obtain ⟨t,rfl⟩:=rv;obtain ⟨t',rfl⟩:=ru;exact PySem.P.le_str ⟨.bl (leS i j),H,I,rfl,h _ _ .refl rfl ab⟩
  |_=>exact h.elim
 |_=>exact h.elim
theorem zeL (I:Inv X pins σ H s) (hu:X.A.units+200<cLine) {G:Hw} {x y:W} {v v':V} {u u':Value} {b:Bool} (ab:yC X.K H G) (h:xN X.K H x v) (r:zC v u) (h':xN X.K H y v') (r':zC v' u') (e:eqG G x y=some b) :
  RcAt X.A s u u' b/\RcNeAt X.A s u u' (!b):=by
 have gen:∀ (hh:(if (uS x&&uS y&&decide (min (nG x) (nG y)<=150))=true then some (vQ x y) else none)=some b),RcAt X.A s u u' b/\RcNeAt X.A s u u' (!b):=fun hh=>by
  split at hh
  .rename_i c;simp only [Bool.and_eq_true,decide_eq_true_eq] at c;cases hh;exact zhw I x y v v' u u' X.A h r h' r' c.1.1 c.1.2 (by omega)
  .cases hh
 cases x with
 |ref p =>
  cases y with
  |ref q =>
   simp only [eqG] at e
   split at e
   .rename_i a1 b1 e1 e2
    split at e
    .rename_i c;simp only [Bool.and_eq_true,decide_eq_true_eq] at c;cases e;cases h;cases h';cases r;cases r';exact zhx I ab e1 e2 c.1.1 c.1.2 (by omega)
    .cases e
   .cases e
  |_=>exact gen e
 |_=>cases y<;>exact gen e
theorem jU (hu:X.A.units+200<cLine) (op:CmpOp):qN X (compareOp op) (tI X.K (xI op)):=by
 cases op with
 |Eq =>
  intro pins s σ H v u a b Q I rv ru h;obtain ⟨x,y,G,rx,ry,ab,h⟩:=h;simp only [xI] at h
  split at h
  .rename_i k e;exact (zeL I hu ab rx rv ry ru e).1 _ _ _ _ ⟨.bl k,H,I,rfl,h _ _ .refl rfl ab⟩
  .exact h.elim
 |NotEq =>
  intro pins s σ H v u a b Q I rv ru h;obtain ⟨x,y,G,rx,ry,ab,h⟩:=h;simp only [xI] at h
  split at h
  .rename_i k e;exact (zeL I hu ab rx rv ry ru e).2 _ _ _ _ ⟨.bl (!k),H,I,rfl,h _ _ .refl rfl ab⟩
  .exact h.elim
 |Is=>exact ziE false
 |IsNot=>exact ziE true
 |In=>exact zex false hu
 |NotIn=>exact zex true hu
 |Lt=>exact zbo (f:=some ltS) op_lt fun q e i j t t' s Q z=>by cases e;exact lt_str z
 |LtE=>exact le_ok
 |Gt=>exact zbo (f:=none) op_gt
 |GtE=>exact zbo (f:=none) op_ge
end
end L3
namespace L3
open PySem PySem.Spec PyProof.Rows L2 HT
section
variable {prog : Program} {w : World} {A : Around} {E : Value → Shared → Prop} {s : Shared}
theorem zbW {t sl:Addr} {items:Array Value} {vl vu:Value} {lo hi:Option Int} {Q:Value->Shared->Prop} (ht:IsTup s.heap t items) (hs:s.heap.IsSliceOf sl vl vu .none) (pl:IsPart vl lo) (pu:IsPart vu hi)
  (hw:xH items.size 0 lo=0/\xH items.size items.size hi=items.size) (h:Q (.ref t) s):wpAny (model prog w) A (getItem (.ref t) (.ref sl)) Q E s:=by
 obtain ⟨os,hos,hcs,hds⟩:=id hs;have hTs:s.TypeIs (.ref sl) "slice" := ⟨os,hos,hcs⟩;unfold getItem
 try with_reducible refine wpAny_holding ?_
 first|refine wpAny_bind (wpAny_pure ?_)|skip
 refine wpAny_bind (wpAny_sequenceKey ht.typeIs (by decide) ?_)
 refine wpAny_bind (wpAny_callSpecial?_slot (name:=Str.ofString "__getitem__") ht.typeIs PyProof.Rows.slot_tuple_getitem
  (wpAny_call_entry PyProof.Rows.slot_tuple_getitem ht.typeIs entry_tuple_getitem ?_ (args_tuple_getitem _ _)))
 show wpAny _ _ (Builtin.Tuple.tupleItemsOf (.ref t) >>= _) _ _ s;refine wpAny_bind (tupleItemsOf_ ht ?_);refine wpAny_bind (wpAny_typeOf hTs ?_);rw [if_pos (by decide)];refine wpAny_bind (qQ hs pl pu ?_)
 have yes:(((xH items.size 0 lo:Nat):Int)==0&&(1:Int)==1&&(xH items.size items.size hi-xH items.size 0 lo)==items.size)=true:=by
  rw [hw.1,hw.2];simp
 show wpAny _ _ (if (((xH items.size 0 lo:Nat):Int)==0&&(1:Int)==1&&(xH items.size items.size hi-xH items.size 0 lo)==items.size)=true then _ else _) _ _ s;rw [if_pos yes];refine wpAny_bind (m:=Builtin.Tuple.tupleIsExact (.ref t)) ?_;unfold Builtin.Tuple.tupleIsExact;refine wpAny_bind (wpAny_typeOf ht.typeIs (wpAny_pure ?_));rw [if_pos (by decide)];exact wpAny_bind (wpAny_rule (wpAny_pure ⟨_,rfl,wpAny_pure h⟩))
end
section
variable {X : Cx}
def rSlW (K:yZ):V->Option Int->Option Int->Hp->VK->Prop:=fun x lo hi H Q=>∃ a xs,x=.ref a/\tV K H a xs/\(HT.xH xs.length 0 lo=0/\HT.xH xs.length xs.length hi=xs.length)/\Q (.ref a) H
theorem zcY:SlR X (rSlW X.K):=by
 intro pins s σ H x v vl vu lo hi sl Q I rx hs pl pu h;obtain ⟨a,xs,rfl,hx,hw,q⟩:=h;cases rx;obtain ⟨its,r,ht,hz⟩:=I.tuple hx;have hlen:its.toArray.size=xs.length:=by rw [zzS];exact r.length.symm
 exact ⟨"tuple", _,PyProof.Rows.slot_tuple_getitem.lookup,ht.typeIs,zbW ht hs pl pu (by rw [hlen];exact hw) ⟨.ref a,H,I,rfl,q⟩⟩
end
end L3
namespace L3
open PySem PySem.Spec PyProof.Rows L2 PySem.SeqAt
def jJ (G:Hw):W->Option Bool
 | .non=>some false
 | .bl b=>some b
 | .int i=>some (i != 0)
 | .str y=>if y.length<=sizeLine then some ((y.length:Int) != 0) else none
 | .tup ws=>some (!ws.isEmpty)
 | .ref p=>match G p with
  |some (.lst ws)=>some (!ws.isEmpty)
  |some (.fix ws)=>some (!ws.isEmpty)
  |some (.dic kvs)=>some (!kvs.isEmpty)
  |_=>none
 |_=>none
theorem zQ.empty {K:yZ} {H:Hp} {ws:List W} {vs:List V} (h:zQ K H ws vs):vs.isEmpty=ws.isEmpty:=by
 have:=h.length;cases ws<;>cases vs<;>simp_all
theorem yX.length {K:yZ} {H:Hp} {κ:Type}:∀ {l:List (κ×W)} {l':List (κ×V)},yX K H l l'->l'.length=l.length
 | [],_,h=>by rw [show _=[] from h];rfl
 |_::_,_,⟨v,t,e,_,r⟩=>by rw [e,List.length_cons,List.length_cons,yX.length r]
theorem zfe {K:yZ} {H:Hp} {G:Hw} {w:W} {v:V} {k:Bool} (r:xN K H w v) (ab:yC K H G) (h:jJ G w=some k):TruV K v H k:=by
 cases w with
 |non=>cases r;cases h;rfl
 |bl b=>cases r;cases h;rfl
 |int i=>cases r;cases h;rfl
 |str y =>
  cases r;simp only [jJ] at h
  split at h
  .rename_i c;cases h;exact ⟨c,rfl⟩
  .cases h
 |ty n=>cases h
 |lsf n=>cases h
 |exc _ _ _=>cases h
 |dcf _ _=>cases h
 |tup ws =>
  obtain ⟨a,vs,rfl,q,rs⟩:=r;cases h;exact .inr (.inl ⟨vs,q,by rw [rs.empty]⟩)
 |ref p =>
  cases r
  have lk:∀ ws,yU G p=some ws->k=!ws.isEmpty->TruV K (.ref p) H k:=fun ws e q=>by
   obtain ⟨vs,sq,rs⟩:=ab.seq e;exact .inl ⟨vs,sq,by rw [rs.empty];exact q⟩
  simp only [jJ] at h
  split at h
  .rename_i ws e;cases h;exact lk ws (by unfold yU;rw [e]) rfl
  .rename_i ws e;cases h;exact lk ws (by unfold yU;rw [e]) rfl
  .rename_i kvs e;cases h;obtain ⟨l,e',rk⟩:=ab.dic e;refine .inr (.inr ⟨l,e',?_⟩);have:=rk.length;cases kvs<;>cases l<;>simp_all
  .cases h
def vA {α:Type} (kvs:List (yH×α)) (k:yH):Option α:=(kvs.find? fun kv=>decide (kv.1=k)).map (·.2)
def sB {α:Type} (kvs:List (yH×α)) (k:yH) (v:α):List (yH×α) :=
 if (kvs.any fun kv=>decide (kv.1=k))=true then kvs.map (fun kv=>if kv.1=k then (kv.1,v) else kv) else kvs++[(k,v)]
theorem yX.get {K:yZ} {H:Hp} {k:yH} {w:W}:∀ {l:List (yH×W)} {l':List (yH×V)},yX K H l l'->vA l k=some w->∃ v,kP l' k=some v/\xN K H w v
 | [],_,h,e=>by cases e
 |p::r,_,⟨v,t,e,h,hr⟩,q=>by
  subst e;unfold vA at q;rw [List.find?_cons] at q;unfold kP;rw [List.find?_cons]
  by_cases hk:p.1=k
  .simp only [hk,decide_true] at q ⊢;cases q;exact ⟨v,rfl,h⟩
  .simp only [hk,decide_false] at q ⊢;exact yX.get hr q
theorem yX.any {K:yZ} {H:Hp} {k:yH}:∀ {l:List (yH×W)} {l':List (yH×V)},yX K H l l'->(l'.any fun kv=>decide (kv.1=k))=l.any fun kv=>decide (kv.1=k)
 | [],_,h=>by rw [show _=[] from h];rfl
 |p::r,_,⟨v,t,e,h,hr⟩=>by subst e;rw [List.any_cons,List.any_cons,yX.any hr]
theorem yX.app {K:yZ} {H:Hp} {κ:Type}:∀ {l:List (κ×W)} {l':List (κ×V)} {m:List (κ×W)} {m':List (κ×V)},yX K H l l'->yX K H m m'->yX K H (l++m) (l'++m')
 | [],_,_,_,h,h'=>by rw [show _=[] from h];exact h'
 |p::r,_,_,_,⟨v,t,e,h,hr⟩,h'=>by rw [e];exact ⟨v,_,rfl,h,yX.app hr h'⟩
theorem yX.repl {K:yZ} {H:Hp} {k:yH} {w:W} {v:V} (q:xN K H w v):∀ {l:List (yH×W)} {l':List (yH×V)},yX K H l l' ->
  yX K H (l.map fun kv=>if kv.1=k then (kv.1,w) else kv) (l'.map fun kv=>if kv.1=k then (kv.1,v) else kv)
 | [],_,h=>by rw [show _=[] from h];rfl
 |p::r,_,⟨u,t,e,h,hr⟩=>by
  subst e;rw [zzU,zzU]
  by_cases hk:p.1=k
  .simp only [hk,if_true];exact ⟨v,_,rfl,q,yX.repl q hr⟩
  .simp only [hk,if_false];exact ⟨u,_,rfl,h,yX.repl q hr⟩
theorem yX.put {K:yZ} {H:Hp} {k:yH} {w:W} {v:V} {l:List (yH×W)} {l':List (yH×V)} (h:yX K H l l') (q:xN K H w v):yX K H (sB l k w) (jN l' k v):=by
 unfold sB jN;rw [h.any]
 split
 .exact yX.repl q h
 .exact h.app ⟨v,[],rfl,q,rfl⟩
theorem zbH {K:yZ} {H:Hp} {y:W} {v:V} {k:yH} (r:xN K H y v) (h:kA y=some k):v=kV k:=by
 cases y<;>first|(cases h;cases r;rfl)|cases h
theorem ix_kd {X:Cx} {value slice:PySem.Expr} {pins:List (Addr×Obj)} {s:Shared} {σ:L2.St} {H:Hp} {a:Addr} {u:Value} {ks:List Str} {vs:List V} {k:Str} {v:V} {Q:VK} (I:Inv X pins σ H s) (h:KD X.K a ks vs) (ry:zC (.str k) u) (e:(ks.zip vs).lookup k=some v) (q:Q v H)
  (hs:subscripted slice false (.ref a) u=operate [.ref a,u] (getItem (.ref a) u)):wpAny (model X.prog X.w) X.A (subscriptTail value slice (.ref a) u) (EP X pins σ Q) X.xe s:=by
 have hT:=zio I h;obtain ⟨tk,rfl⟩:=ry;refine tail_any hT PySem.F.slot_dict_getitem.lookup ?_ hs;unfold getItem
 try with_reducible refine wpAny_holding ?_
 refine wpAny_bind (wpAny_sequenceKey hT (by decide) (wpAny_bind ?_));refine wpAny_callSpecial?_slot (name:=Str.ofString "__getitem__") hT PySem.F.slot_dict_getitem (wpAny_call_entry PySem.F.slot_dict_getitem hT PySem.F.entry_dict_getitem ?_ (PySem.F.args_dict_getitem_2 _ _));show wpAny _ _ (dictGet a (.str k tk) >>= _) _ _ s;refine wpAny_bind (zeF I h ?_);rw [e];exact fun u s' r J=>wpAny_pure ⟨u,rfl,wpAny_pure ⟨v,H,J,r,q⟩⟩
def rS:R3:=fun x y G Q=>match x,y with
 | .tup ws,.int i=>(match rQ ws i with|some w=>Q w G|none=>False)
 | .str z,.int i=>z.length<=sizeLine/\(match rQ z.cps.toList i with|some c=>Q (.str ⟨#[c]⟩) G|none=>False)
 | .ref p,y=>(match G p with
  |some (.lst ws)=>(match y with|.int i=>(match rQ ws i with|some w=>Q w G|none=>False)|_=>False)
  |some (.fix ws)=>(match y with|.int i=>(match rQ ws i with|some w=>Q w G|none=>False)|_=>False)
  |some (.dic kvs)=>(match kA y with|some k=>(match vA kvs k with|some w=>Q w G|none=>False)|none=>False)
  |_=>False)
 | .dcf ks ws,.str k=>(match (ks.zip ws).lookup k with|some w=>Q w G|none=>False)
 |_,_=>False
theorem zcu {K:yZ} {H:Hp} {ws:List W} {vs:List V} {i:Int} {w:W} (h:zQ K H ws vs) (e:rQ ws i=some w):∃ v,rQ vs i=some v/\xN K H w v:=by
 unfold rQ at e ⊢;rw [h.length]
 cases q:ixN ws.length i with
 |none=>rw [q] at e;cases e
 |some j =>
  rw [q] at e;exact h.get e
theorem zae:sI rS:=by
 intro x y G Q Q' k h
 cases x with
 |tup ws =>
  cases y<;>simp only [rS] at h ⊢<;>first
   |exact h.elim
   | (split at h<;>first|exact k _ _ h|exact h.elim)
 |str z =>
  cases y<;>simp only [rS] at h ⊢<;>first
   |exact h.elim
   | (refine ⟨h.1,?_⟩;have h:=h.2;split at h<;>first|exact k _ _ h|exact h.elim)
 |ref p =>
  simp only [rS] at h ⊢
  split at h
  .cases y<;>simp only at h ⊢<;>first
    |exact h.elim
    | (split at h<;>first|exact k _ _ h|exact h.elim)
  .cases y<;>simp only at h ⊢<;>first
    |exact h.elim
    | (split at h<;>first|exact k _ _ h|exact h.elim)
  .split at h
   .split at h
    .exact k _ _ h
    .exact h.elim
   .exact h.elim
  .exact h.elim
 |dcf ks ws =>
  cases y<;>simp only [rS] at h ⊢<;>first
   |exact h.elim
   | (split at h<;>first|exact k _ _ h|exact h.elim)
 |_=>exact h.elim
section
variable {X : Cx}
theorem ziv (hu:X.A.units+200<cLine) {value slice:PySem.Expr} {pins:List (Addr×Obj)} {s:Shared} {σ:L2.St} {H:Hp} {a:Addr} {u:Value} {y v:V} {Q:VK} (I:Inv X pins σ H s) (g:DGet H a y (some v)) (hd:IsD H a) (ry:zC y u) (q:Q v H)
  (hs:subscripted slice false (.ref a) u=operate [.ref a,u] (getItem (.ref a) u)):wpAny (model X.prog X.w) X.A (subscriptTail value slice (.ref a) u) (EP X pins σ Q) X.xe s:=by
 exact tail_any (ziF I hd).1 PySem.F.slot_dict_getitem.lookup (zcf (by omega) I g ry fun w' s' I' r'=>⟨v,H,I',r',q⟩) hs
theorem ix_ok (hu:X.A.units+200<cLine):IxR X (tI X.K rS):=by
 intro value slice pins s σ H v u a b Q I rv ru h hs;obtain ⟨x,y,G,rx,ry,ab,h⟩:=h
 cases x with
 |tup ws =>
  cases y with
  |int i =>
   obtain ⟨a1,vs,rfl,q,rs⟩:=rx;cases ry;simp only [rS] at h
   split at h
   .rename_i w e;obtain ⟨vv,ev,rp⟩:=zcu rs e;exact zis value slice pins s σ H _ _ _ _ Q I rv ru ⟨a1,vs,i,vv,rfl,rfl,q,ev,h _ _ .refl rp ab⟩ hs
   .exact h.elim
  |_=>exact h.elim
 |str z =>
  cases y with
  |int i =>
   cases rx;cases ry;simp only [rS] at h;obtain ⟨hz,h⟩:=h
   split at h
   .rename_i c e;exact zit value slice pins s σ H _ _ _ _ Q I rv ru ⟨z,i,c,rfl,rfl,hz,e,h _ _ .refl rfl ab⟩ hs
   .exact h.elim
  |_=>exact h.elim
 |ref p =>
  cases rx
  have lk:∀ ws i w,yU G p=some ws->y=.int i->rQ ws i=some w->jL X.K H Q w G->wpAny (model X.prog X.w) X.A (subscriptTail value slice a b) (EP X pins σ Q) X.xe s:=fun ws i w e ey ew q=>by
   subst ey;obtain ⟨vs,sq,rs⟩:=ab.seq e;obtain ⟨vv,ev,rp⟩:=zcu rs ew;cases ry;exact zf1 value slice pins s σ H _ _ _ _ Q I rv ru ⟨p,vs,i,vv,rfl,rfl,sq,ev,q _ _ .refl rp ab⟩ hs
  simp only [rS] at h
  split at h
  .rename_i ws e
   cases y with
   |int i =>
    simp only at h
    split at h
    .rename_i w ew;exact lk ws i w (by unfold yU;rw [e]) rfl ew h
    .exact h.elim
   |_=>exact h.elim
  .rename_i ws e
   cases y with
   |int i =>
    simp only at h
    split at h
    .rename_i w ew;exact lk ws i w (by unfold yU;rw [e]) rfl ew h
    .exact h.elim
   |_=>exact h.elim
  .rename_i kvs e
   split at h
   .rename_i k ek
    split at h
    .rename_i w ew;obtain ⟨l,e',rk⟩:=ab.dic e;obtain ⟨vv,ev,rp⟩:=rk.get ew;have ey:=zbH ry ek;subst ey;obtain rfl:a=Value.ref p:=rv;exact ziv hu I (.inl ⟨l,k,.inl e',rfl,ev.symm⟩) (.inl ⟨l,.inl e'⟩) ru (h _ _ .refl rp ab) hs
    .exact h.elim
   .exact h.elim
  .exact h.elim
 |dcf ks ws =>
  cases y with
  |str k =>
   obtain ⟨a1,vs,rfl,kd,rs⟩:=rx;obtain rfl:a=Value.ref a1:=rv;cases (show u=.str k from ry);simp only [rS] at h
   split at h
   .rename_i w e;obtain ⟨vv,ev,rp⟩:=kF rs e;exact ix_kd I kd ru ev (h _ _ .refl rp ab) hs
   .exact h.elim
  |_=>exact h.elim
 |_=>exact h.elim
end
def vR {α:Type} (xs:List α) (lo hi:Option Int):List α:=(xs.drop (HT.xH xs.length 0 lo)).take (HT.xH xs.length xs.length hi-HT.xH xs.length 0 lo)
theorem dF {K:yZ} {H:Hp} {ws:List W} {vs:List V} (h:zQ K H ws vs) (lo hi:Option Int):zQ K H (vR ws lo hi) (cutV vs lo hi):=by
 unfold vR cutV;rw [h.length];exact (h.drop _).take _
def slR:W->Option Int->Option Int->Hw->Q3->Prop:=fun x lo hi G Q=>match x with
 | .tup ws=>Q (.tup (vR ws lo hi)) G
 | .ref p=>(match yU G p with|some ws=>∀ r,G r=none->Q (.ref r) (put G r (.lst (vR ws lo hi)))|none=>False)
 | .lsf ws=>∀ r,G r=none->Q (.ref r) (put G r (.lst (vR ws lo hi)))
 | .str x=>x.length<=sizeLine/\Q (.str (Txt.slice x lo hi)) G
 |_=>False
theorem bT {x:W} {lo hi:Option Int} {G:Hw} {Q Q':Q3} (k:∀ w G',Q w G'->Q' w G') (h:slR x lo hi G Q):slR x lo hi G Q':=by
 cases x with
 |tup ws=>exact k _ _ h
 |ref p =>
  simp only [slR] at h ⊢
  split at h
  .exact fun r hr=>k _ _ (h r hr)
  .exact h.elim
 |lsf ws=>exact fun r hr=>k _ _ (h r hr)
 |str x=>exact ⟨h.1,k _ _ h.2⟩
 |_=>exact h.elim
theorem zhj {X:Cx} {pins:List (Addr×Obj)} {s:Shared} {σ:L2.St} {H:Hp} {x:Str} {v vl vu:Value} {lo hi:Option Int} {sl:Addr} {Q:VK} (I:Inv X pins σ H s) (rv:zC (.str x) v) (hs:s.heap.IsSliceOf sl vl vu .none)
  (pl:IsPart vl lo) (pu:IsPart vu hi) (hz:x.length<=sizeLine) (q:Q (.str (Txt.slice x lo hi)) H):∃ T id,typeLookup (.type T) "__getitem__" = pure (some (.builtin id))/\s.TypeIs v T/\wpAny (model X.prog X.w) X.A (getItem v (.ref sl)) (EP X pins σ Q) X.xe s:=by
 obtain ⟨t,rfl⟩:=rv;have fin:∀ t' k,0<k->EP X pins σ Q (.str (Txt.slice x lo hi) t') { s with toks:=k }:=fun t' k h0=>⟨.str (Txt.slice x lo hi),H,I.tok _ h0,⟨t',rfl⟩,q⟩;have hz':=Nat.le_trans (Txt.slice_le x lo hi) hz;refine ⟨"str", _,F.slot_str_getitem.lookup,typeIs_str _ _ _,?_⟩;obtain ⟨o,ho,hc,hd⟩:=hs
 cases pl with
 |none =>
  cases pu with
  |none=>exact wF I.tk (wpAny_getItem_str_slice (l:=none) (u:=none) (st:=none) ⟨o,ho,hc,hd⟩ rfl (post_val_or_str ⟨hz',fin⟩))
  |int j tj=>exact wF I.tk (wpAny_getItem_str_slice (l:=none) (u:=some (j,tj)) (st:=none) ⟨o,ho,hc,hd⟩ rfl (post_val_or_str ⟨hz',fin⟩))
 |int i ti =>
  cases pu with
  |none=>exact wF I.tk (wpAny_getItem_str_slice (l:=some (i,ti)) (u:=none) (st:=none) ⟨o,ho,hc,hd⟩ rfl (post_val_or_str ⟨hz',fin⟩))
  |int j tj=>exact wF I.tk (wpAny_getItem_str_slice (l:=some (i,ti)) (u:=some (j,tj)) (st:=none) ⟨o,ho,hc,hd⟩ rfl (post_val_or_str ⟨hz',fin⟩))
def lowSl (K:yZ) (r:W->Option Int->Option Int->Hw->Q3->Prop):V->Option Int->Option Int->Hp->VK->Prop:=fun v lo hi H Q=>∃ x G,xN K H x v/\yC K H G/\r x lo hi G (jL K H Q)
theorem sl_ok {X:Cx}:SlR X (lowSl X.K slR):=by
 intro pins s σ H v u vl vu lo hi sl Q I rv hs pl pu h;obtain ⟨x,G,rx,ab,h⟩:=h
 cases x with
 |tup ws =>
  obtain ⟨a,vs,rfl,q,rs⟩:=rx
  by_cases hw:HT.xH vs.length 0 lo=0/\HT.xH vs.length vs.length hi=vs.length
  .have e:vR ws lo hi=ws:=by
    have hw':=hw;rw [rs.length] at hw';unfold vR;rw [hw'.1,hw'.2,List.drop_zero,Nat.sub_zero,List.take_length]
   have h':jL X.K H Q (.tup (vR ws lo hi)) G:=h;rw [e] at h';exact zcY pins s σ H _ _ vl vu lo hi sl Q I rv hs pl pu ⟨a,vs,rfl,q,hw,h' _ _ .refl ⟨a,vs,rfl,q,rs⟩ ab⟩
  .exact zhi pins s σ H _ _ vl vu lo hi sl Q I rv hs pl pu ⟨a,vs,rfl,q,hw,rT ab (dF rs lo hi) h⟩
 |ref p =>
  cases rx;simp only [slR] at h
  split at h
  .rename_i ws e;obtain ⟨vs,sq,rs⟩:=ab.seq e;exact za8 pins s σ H _ _ vl vu lo hi sl Q I rv hs pl pu ⟨p,vs,rfl,sq,jD ab (dF rs lo hi) h⟩
  .exact h.elim
 |lsf ws =>
  obtain ⟨a,vs,rfl,q,rs⟩:=rx;exact za8 pins s σ H _ _ vl vu lo hi sl Q I rv hs pl pu ⟨a,vs,rfl,.inr q,jD ab (dF rs lo hi) h⟩
 |str x =>
  cases (show v=.str x from rx);exact zhj I rv hs pl pu h.1 (h.2 _ _ .refl rfl ab)
 |_=>exact h.elim
def fG:W->W->W->Hw->(Hw->Prop)->Prop:=fun o i v G Q=>match o with
 | .ref p=>(match G p with
  |some (.lst ws)=>(match i with|.int k=>(match ixN ws.length k with|some j=>Q (put G p (.lst (ws.set j v)))|none=>False)|_=>False)
  |some (.dic kvs)=>(match kA i with|some k=>kvs.length<sizeLine/\Q (put G p (.dic (sB kvs k v)))|none=>False)
  |_=>False)
 |_=>False
theorem za9 {o i v:W} {G:Hw} {Q Q':Hw->Prop} (k:∀ G',Q G'->Q' G') (h:fG o i v G Q):fG o i v G Q':=by
 cases o with
 |ref p =>
  simp only [fG] at h ⊢
  split at h
  .cases i<;>simp only at h ⊢<;>first
    |exact h.elim
    | (split at h<;>first|exact k _ h|exact h.elim)
  .split at h
   .exact ⟨h.1,k _ h.2⟩
   .exact h.elim
  .exact h.elim
 |_=>exact h.elim
def zez (K:yZ):TSet:=fun o i v H Q=>∃ x y z G,xN K H x o/\xN K H y i/\xN K H z v/\yC K H G/\fG x y z G fun G'=>∀ H',yV K H H'->yC K H' G'->Q H'
theorem zhk {X:Cx} (hu:X.A.units+200<cLine):PSet X (zez X.K):=by
 intro pins s σ H o i v ov iv u Q I ro ri rv h;obtain ⟨x,y,z,G,rx,ry,rz,ab,h⟩:=h
 cases x with
 |ref p =>
  cases rx;simp only [fG] at h
  split at h
  .rename_i ws e
   cases y with
   |int k =>
    simp only at h
    split at h
    .rename_i j ej;cases ry;obtain ⟨vs,q1,r1⟩:=ab.lst e;refine zc0 pins s σ H _ _ _ _ _ _ Q I ro ri rv ⟨p,vs,k,j,rfl,rfl,q1,by rw [r1.length];exact ej,?_⟩;have g:=ab.grow (u:=.lst (vs.set j v)) e;exact h _ g (ab.chg e ⟨_,rfl,((r1.mono g).set (rz.mono g) j)⟩)
    .exact h.elim
   |_=>exact h.elim
  .rename_i kvs e
   split at h
   .rename_i k ek;obtain ⟨l,e',rk⟩:=ab.dic e;have ey:=zbH ry ek;subst ey;obtain rfl:ov=Value.ref p:=ro;refine zce (by omega) I (.inl ⟨l,k,e',rfl,by rw [rk.length];exact h.1,rfl⟩) ri rv fun s' I'=>⟨_,I',?_⟩;have g:=ab.grow (u:=.dK (jN l k v)) e;exact h.2 _ g (ab.chg e ⟨_,rfl,(rk.mono g).put (rz.mono g)⟩)
   .exact h.elim
  .exact h.elim
 |_=>exact h.elim
end L3
namespace L3
open PySem PySem.Spec PyProof.Rows L2
abbrev XQ:=Str->List (Str×W)->Hw->Prop
def XN:XQ:=fun _ _ _=>False
abbrev sV:=List W->Hw->Q3->XQ->Prop
structure Fn3 where
 nm:Str
 sp:sV
structure Mt3 where
 nm:Str
 T:String
 sp:W->List W->Hw->Q3->Prop
abbrev I3:=xD->Hw->(List W->(Hw->Prop)->Hw->Prop)->Prop
structure It3 where
 nm:Str
 sp:List W->Hw->(List W->(Hw->Prop)->Hw->Prop)->Prop
structure Sx3 where
 m:Scope->Expr->Option (List Expr)
 sp:List W->Hw->Q3->Prop
structure Ix3 where
 m:Scope->Expr->Option (List Expr)
 sp:List W->Hw->(List W->(Hw->Prop)->Hw->Prop)->Prop
structure Ctx3 where
 fn:List Fn3
 gl:List (Str×W)
 mt:List Mt3
 it:List It3
 cl:List (Addr×List Str)
 sx:List Sx3
 ix:List Ix3
set_option genInjectivity false
mutual
inductive IE where
 |var (i:Nat)|con (c:Const)|glb (i:Nat)
 |bin (op:Operator) (a b:IE)|neg (a:IE)|not (a:IE)
 |cmp (op:CmpOp) (a b:IE)|chn (o1 o2:CmpOp) (a b c:IE)
 |and (a b:IE)|or (a b:IE)|ite (c a b:IE)
 |ix (a i:IE)|sl (a:IE) (lo hi:IO)
 |tup (es:IEs)|lst (es:IEs)|dct (ks:List Str) (es:IEs)
 |call (f:Nat) (es:IEs)|mth (m:Nat) (o:IE) (es:IEs)|att (o:IE) (f:Str)
 |lc (tg:ITg) (names:List Str) (caps:List Nat) (it:II) (c:IO) (elt:IE)
 |spc (i:Nat) (es:IEs)|ch3 (o1 o2 o3:CmpOp) (a b c d:IE)
inductive IO where
 |no|yes (e:IE)
inductive IEs where
 |nil|cons (e:IE) (es:IEs)
inductive II where
 |val (e:IE)|blt (i:Nat) (es:IEs)|spc (i:Nat) (es:IEs)
inductive ITg where
 |nm (i:Nat)|tup (ts:ITgs)
inductive ITgs where
 |nil|cons (t:ITg) (ts:ITgs)
end
mutual
inductive IS where
 |asg (i:Nat) (e:IE)|asgT (ts:ITgs) (e:IE)|asgI (o i e:IE)|asgA (o:IE) (f:Str) (e:IE)
 |ex (e:IE)|ret (e:IE)|retN|pass|brk|cnt
 |ite (c:IE) (a b:ISs)|whl (c:IE) (b:ISs)|for (tg:ITg) (it:II) (b:ISs)|dead|asgS (i j:Nat) (e:IE)
inductive ISs where
 |nil|cons (s:IS) (ss:ISs)
end
def zH:Const->Option W
 | .none=>some .non
 | .bool b=>some (.bl b)
 | .int i=>some (.int i)
 | .str x=>some (.str x)
 |_=>none
abbrev G3:=W->xD->Hw->(xD->Hw->Prop)->Prop
abbrev Gs3:=List W->xD->Hw->(xD->Hw->Prop)->Prop
mutual
def zU:ITg->G3
 | .nm i=>fun w σ G Q=>Q (σ.set i (some w)) G
 | .tup ts=>fun w σ G Q=>match w with
  | .tup ws=>zX ts ws σ G Q
  |_=>False
def zX:ITgs->Gs3
 | .nil=>fun ws σ G Q=>match ws with | []=>Q σ G|_=>False
 | .cons t ts=>fun ws σ G Q=>match ws with
  |w::r=>zU t w σ G fun σ' G'=>zX ts r σ' G' Q
  | []=>False
end
def unl (G:Hw) (w:W):W:=match w with
 | .ref p=>(match yU G p with|some ws=>.tup ws|none=>.ref p)
 |w=>w
def capS (k:Nat) (caps:List Nat) (σ:xD):xD:=List.replicate k none++caps.map fun j=>(σ[j]?).join
def sgs (x:Str):List W:=x.cps.toList.map fun c=>.str ⟨#[c]⟩
def kW:yH->W
 | .inl i=>.int i
 | .inr x=>.str x
def zcc (G:Hw) (p:Addr):Option (List (yH×W)):=match G p with
 |some (.dic kvs)=>some kvs
 |some (.fzd kvs)=>some kvs
 |_=>none
def vJ (w:W) (G:Hw) (R:List W->(Hw->Prop)->Hw->Prop):Prop:=match w with
 | .tup ws=>R ws (fun _=>True) G
 | .ref p=>(match yU G p with
  |some ws=>R ws (fun G'=>yU G' p=some ws) G
  |none=>(match zcc G p with
   |some kvs=>R (kvs.map fun kv=>kW kv.1) (fun G'=>G' p=some (.fzd kvs)) (put G p (.fzd kvs))
   |none=>False))
 | .str x=>R (sgs x) (fun _=>True) G
 |_=>False
def lcR (items:List W) (stab:Hw->Prop) (G1:Hw) (turn:W->Hw->(Option W->Hw->Prop)->Prop) (Q:Q3):Prop :=
 ∃ Pv:Nat->List W->Hw->Prop,Pv 0 [] G1/\(∀ i acc G,Pv i acc G->i<=items.length->stab G/\acc.length<=i)/\items.length<=sizeLine /\
  (∀ i w acc G,items[i]?=some w->Pv i acc G->turn w G fun o G'=>match o with|some x=>Pv (i+1) (acc++[x]) G'|none=>Pv (i+1) acc G') /\
  ∀ acc G,Pv items.length acc G->∀ p,G p=none->Q (.ref p) (put G p (.lst acc))
def zI (w:W) (G:Hw) (Q:Q3):Prop:=match w with|.int i=>Q (.int (-i)) G|_=>False
def yO (w:W) (Q:Bool->Prop):Prop:=match w with|.bl b=>Q b|_=>False
def zJ (w:W) (Q:Int->Prop):Prop:=match w with|.int i=>Q i|_=>False
def tyW (G:Hw):W->String->Prop
 | .str _,T=>T = "str"
 | .ref p,T=>match G p with
  |some (.lst _)=>T = "list"
  |some (.fix _)=>T = "list"
  |some (.dic _)=>T = "dict"
  |_=>False
 |_,_=>False
def attR (cl:List (Addr×List Str)) (f:Str) (w:W) (G:Hw) (Q:Q3):Prop:=match w with
 | .ref p=>(match G p with
  |some (.ins C fs)=>(∃ l,(C,l)∈cl/\f∈l)/\(match fs.lookup f with|some v=>Q v G|none=>False)
  |_=>False)
 |_=>False
def jE (f:Str) (v:W):List (Str×W)->List (Str×W)
 | []=>[(f,v)]
 | (g,x)::r=>if g=f then (g,v)::r else (g,x)::jE f v r
def satR (cl:List (Addr×List Str)) (f:Str) (o v:W) (G:Hw) (Q:Hw->Prop):Prop:=match o with
 | .ref p=>(match G p with
  |some (.ins C fs)=>(∃ l,(C,l)∈cl/\f∈l)/\fs.length<1000/\Q (put G p (.ins C (jE f v fs)))
  |_=>False)
 |_=>False
def zgE (ks:List Str) (ws:List W):List (yH×W):=(ks.zip ws).foldl (fun acc kv=>sB acc (.inr kv.1) kv.2) []
structure ET where
 e:E3
 t:T3
def zM (e:E3):T3:=fun σ G Q=>e σ G fun w G1=>match jJ G1 w with|some b=>Q b G1|none=>False
def yK (e:E3):T3:=fun σ G Q=>e σ G fun w G1=>yO w fun b=>Q b G1
def yW (e:E3):ET:=⟨e,zM e⟩
def yL (e:E3):ET:=⟨e,yK e⟩
def vF:List E3->A3
 | []=>fun _ G Q=>Q [] G
 |e::es=>fun σ G Q=>e σ G fun x G1=>vF es σ G1 fun xs G2=>Q (x::xs) G2
section
variable (Γ : Ctx3)
mutual
def zE (E:XQ):IE->ET
 | .var i=>yW fun σ G Q=>match σ[i]? with|some (some w)=>Q w G|_=>False
 | .con c=>yW fun σ G Q=>match zH c with|some w=>Q w G|none=>False
 | .glb i=>yW fun σ G Q=>match Γ.gl[i]? with|some p=>Q p.2 G|none=>False
 | .bin op a b=>yW fun σ G Q=>(zE E a).e σ G fun x G1=>(zE E b).e σ G1 fun y G2=>wI op x y G2 Q
 | .neg a=>yW fun σ G Q=>(zE E a).e σ G fun x G1=>zI x G1 Q
 | .not a=>⟨fun σ G Q=>(zE E a).e σ G fun x G1=>yO x fun b=>Q (.bl (!b)) G1,fun σ G Q=>(zE E a).t σ G fun b G1=>Q (!b) G1⟩
 | .cmp op a b=>yL fun σ G Q=>(zE E a).e σ G fun x G1=>(zE E b).e σ G1 fun y G2=>xI op x y G2 Q
 | .chn o1 o2 a b c=>yL fun σ G Q=>(zE E a).e σ G fun x G1=>(zE E b).e σ G1 fun y G2=>xI o1 x y G2 fun z G3=>yO z fun k =>
   if k=true then (zE E c).e σ G3 fun u G4=>xI o2 y u G4 Q else Q (.bl false) G3
 | .and a b=>⟨fun σ G Q=>(zE E a).e σ G fun x G1=>yO x fun k=>if k=true then (zE E b).e σ G1 Q else Q (.bl false) G1,
   fun σ G Q=>(zE E a).t σ G fun k G1=>if k=true then (zE E b).t σ G1 Q else Q false G1⟩
 | .or a b=>⟨fun σ G Q=>(zE E a).e σ G fun x G1=>yO x fun k=>if k=true then Q (.bl true) G1 else (zE E b).e σ G1 Q,
   fun σ G Q=>(zE E a).t σ G fun k G1=>if k=true then Q true G1 else (zE E b).t σ G1 Q⟩
 | .ite c a b=>⟨fun σ G Q=>(zE E c).t σ G fun k G1=>if k=true then (zE E a).e σ G1 Q else (zE E b).e σ G1 Q,fun _ _ _=>False⟩
 | .ix a i=>yW fun σ G Q=>(zE E a).e σ G fun x G1=>(zE E i).e σ G1 fun y G2=>rS x y G2 Q
 | .sl a lo hi=>yW fun σ G Q=>(zE E a).e σ G fun x G1=>zL E lo σ G1 fun l G2=>zL E hi σ G2 fun u G3=>slR x l u G3 Q
 | .tup es=>yW fun σ G Q=>zV E es σ G fun ws G1=>ws.length<=sizeLine/\Q (.tup ws) G1
 | .lst es=>yW fun σ G Q=>zV E es σ G fun ws G1=>ws.length<=sizeLine/\∀ p,G1 p=none->Q (.ref p) (put G1 p (.lst ws))
 | .dct ks es=>yW fun σ G Q=>∀ p,G p=none->zV E es σ (put G p (.dic [])) fun ws G1=>G1 p=some (.dic [])/\ws.length=ks.length/\Q (.ref p) (put G1 p (.dic (zgE ks ws)))
 | .call f es=>yW fun σ G Q=>zV E es σ G fun ws G1=>match Γ.fn[f]? with|some h=>h.sp ws G1 Q E|none=>False
 | .mth m o es=>yW fun σ G Q=>(zE E o).e σ G fun x G1=>match Γ.mt[m]? with|some h=>tyW G1 x h.T/\zV E es σ G1 fun ws G2=>h.sp x ws G2 Q|none=>False
 | .att o f=>yW fun σ G Q=>(zE E o).e σ G fun x G1=>attR Γ.cl f x G1 Q
 | .lc tg names caps it c elt=>yW fun σ G Q=>zS E it σ G fun items stab G1 =>
   lcR items stab G1 (fun w G' K=>zU tg w (capS names.length caps σ) G' fun σ2 G2=>zN c σ2 G2 fun b G3=>if b=true then (zE XN elt).e σ2 G3 fun x G4=>K (some x) G4 else K none G3) Q
 | .spc i es=>yW fun σ G Q=>zV E es σ G fun ws G1=>match Γ.sx[i]? with|some h=>h.sp ws G1 Q|none=>False
 | .ch3 o1 o2 o3 a b c d=>yL fun σ G Q=>(zE E a).e σ G fun x G1=>(zE E b).e σ G1 fun y G2=>xI o1 x y G2 fun z G3=>yO z fun k =>
   if k=true then (zE E c).e σ G3 fun u G4=>xI o2 y u G4 fun z2 G5=>yO z2 fun k2 =>
    if k2=true then (zE E d).e σ G5 fun t G6=>xI o3 u t G6 Q else Q (.bl false) G5
   else Q (.bl false) G3
def zL (E:XQ):IO->xD->Hw->(Option Int->Hw->Prop)->Prop
 | .no=>fun _ G Q=>Q none G
 | .yes e=>fun σ G Q=>(zE E e).e σ G fun x G1=>zJ x fun i=>Q (some i) G1
def zN:IO->T3
 | .no=>fun _ G Q=>Q true G
 | .yes e=>(zE XN e).t
def zV (E:XQ):IEs->A3
 | .nil=>fun _ G Q=>Q [] G
 | .cons e es=>fun σ G Q=>(zE E e).e σ G fun x G1=>zV E es σ G1 fun xs G2=>Q (x::xs) G2
def zS (E:XQ):II->I3
 | .val e=>fun σ G R=>(zE E e).e σ G fun w G1=>vJ w G1 R
 | .blt i es=>fun σ G R=>zV E es σ G fun ws G1=>match Γ.it[i]? with|some h=>h.sp ws G1 R|none=>False
 | .spc i es=>fun σ G R=>zV E es σ G fun ws G1=>match Γ.ix[i]? with|some h=>h.sp ws G1 R|none=>False
end
def semL:IEs->List E3
 | .nil=>[]
 | .cons e es=>(zE Γ XN e).e::semL es
abbrev zT (E:XQ) (e:IE):E3:=(zE Γ E e).e
abbrev zO (E:XQ) (e:IE):T3:=(zE Γ E e).t
def forR (items:List W) (stab:Hw->Prop) (D:End3) (σ:xD) (G1:Hw) (turn:W->End3->xD->Hw->Prop):Prop :=
 ∃ Pv:Nat->xD->Hw->Prop,Pv 0 σ G1/\(∀ i σ G,Pv i σ G->i<=items.length->stab G) /\
  (∀ i w σ G,items[i]?=some w->Pv i σ G->turn w { D with nx:=Pv (i+1),ct:=Pv (i+1),bk:=D.nx } σ G)/\∀ σ G,Pv items.length σ G->D.nx σ G
mutual
def zP (E:XQ):IS->S3
 | .asg i e=>fun D σ G=>zT Γ E e σ G fun w G1=>D.nx (σ.set i (some w)) G1
 | .asgT ts e=>fun D σ G=>zT Γ E e σ G fun w G1=>zU (.tup ts) (unl G1 w) σ G1 D.nx
 | .asgI o i e=>fun D σ G=>zT Γ E e σ G fun w G1=>zT Γ E o σ G1 fun x G2=>zT Γ E i σ G2 fun y G3=>fG x y w G3 fun G4=>D.nx σ G4
 | .asgA o f e=>fun D σ G=>zT Γ E e σ G fun w G1=>zT Γ E o σ G1 fun x G2=>satR Γ.cl f x w G2 fun G3=>D.nx σ G3
 | .ex e=>fun D σ G=>zT Γ E e σ G fun _ G1=>D.nx σ G1
 | .ret e=>fun D σ G=>zT Γ E e σ G D.rt
 | .retN=>fun D _ G=>D.rt .non G
 | .pass=>fun D σ G=>D.nx σ G
 | .brk=>fun D σ G=>D.bk σ G
 | .cnt=>fun D σ G=>D.ct σ G
 | .ite c a b=>fun D σ G=>zO Γ E c σ G fun k G1=>if k=true then yQ E a D σ G1 else yQ E b D σ G1
 | .whl c b=>fun D σ G=>∃ Pv:Nat->xD->Hw->Prop,(∃ m,Pv m σ G)/\∀ m σ G,Pv m σ G->zO Γ E c σ G fun k G1 =>
   if k=true then yQ E b { D with nx:=fun σ' G'=>∃ m',m' < m/\Pv m' σ' G',ct:=fun σ' G'=>∃ m',m' < m/\Pv m' σ' G',bk:=D.nx } σ G1 else D.nx σ G1
 | .for tg it b=>fun D σ G=>zS Γ E it σ G fun items stab G1=>forR items stab D σ G1 fun w D' σ' G'=>zU tg w σ' G' fun σ2 G2=>yQ E b D' σ2 G2
 | .dead=>fun _ _ _=>False
 | .asgS i j e=>fun D σ G=>zT Γ E e σ G fun w G1=>match w with
  | .tup (x::r)=>r.length<=1000/\∀ p,G1 p=none->D.nx ((σ.set i (some x)).set j (some (.ref p))) (put G1 p (.lst r))
  |_=>False
def yQ (E:XQ):ISs->S3
 | .nil=>fun D σ G=>D.nx σ G
 | .cons s ss=>fun D σ G=>zP E s { D with nx:=yQ E ss D } σ G
end
end
theorem kJ (Γ:Ctx3):∀ es:IEs,zV Γ XN es=vF (semL Γ es)
 | .nil=>rfl
 | .cons e es=>by
  show (fun (σ:xD) (G:Hw) (Q:List W->Hw->Prop)=>(zE Γ XN e).e σ G fun x G1=>zV Γ XN es σ G1 fun xs G2=>Q (x::xs) G2)=_;rw [kJ Γ es];rfl
structure TabMono (Γ:Ctx3):Prop where
 fn:∀ f∈Γ.fn,∀ ws G (Q Q':Q3) E,(∀ w G',Q w G'->Q' w G')->f.sp ws G Q E->f.sp ws G Q' E
 mt:∀ m∈Γ.mt,∀ x ws G (Q Q':Q3),(∀ w G',Q w G'->Q' w G')->m.sp x ws G Q->m.sp x ws G Q'
 it:∀ m∈Γ.it,∀ ws G (R R':List W->(Hw->Prop)->Hw->Prop),(∀ a b c,R a b c->R' a b c)->m.sp ws G R->m.sp ws G R'
 sx:∀ m∈Γ.sx,∀ ws G (Q Q':Q3),(∀ w G',Q w G'->Q' w G')->m.sp ws G Q->m.sp ws G Q'
 ix:∀ m∈Γ.ix,∀ ws G (R R':List W->(Hw->Prop)->Hw->Prop),(∀ a b c,R a b c->R' a b c)->m.sp ws G R->m.sp ws G R'
def zi6 (t:I3):Prop:=∀ σ G (R R':List W->(Hw->Prop)->Hw->Prop),(∀ a b c,R a b c->R' a b c)->t σ G R->t σ G R'
def zi5 (t:xD->Hw->(Option Int->Hw->Prop)->Prop):Prop:=∀ σ G (Q Q':Option Int->Hw->Prop),(∀ a b,Q a b->Q' a b)->t σ G Q->t σ G Q'
theorem jK {w:W} {Q Q':Bool->Prop} (k:∀ b,Q b->Q' b) (h:yO w Q):yO w Q':=by
 cases w<;>first|exact k _ h|exact h.elim
theorem gC {w:W} {Q Q':Int->Prop} (k:∀ b,Q b->Q' b) (h:zJ w Q):zJ w Q':=by
 cases w<;>first|exact k _ h|exact h.elim
theorem zbw {w:W} {G:Hw} {Q Q':Q3} (k:∀ w G,Q w G->Q' w G) (h:zI w G Q):zI w G Q':=by
 cases w<;>first|exact k _ _ h|exact h.elim
theorem zct {cl:List (Addr×List Str)} {f:Str} {w:W} {G:Hw} {Q Q':Q3} (k:∀ w G,Q w G->Q' w G) (h:attR cl f w G Q):attR cl f w G Q':=by
 cases w with
 |ref p =>
  simp only [attR] at h ⊢
  split at h
  .refine ⟨h.1,?_⟩;have h2:=h.2
   split at h2
   .exact k _ _ h2
   .exact h2.elim
  .exact h.elim
 |_=>exact h.elim
theorem pC {w:W} {G:Hw} {R R':List W->(Hw->Prop)->Hw->Prop} (k:∀ a b c,R a b c->R' a b c) (h:vJ w G R):vJ w G R':=by
 cases w with
 |tup ws=>exact k _ _ _ h
 |ref p =>
  simp only [vJ] at h ⊢
  split at h
  .exact k _ _ _ h
  .split at h
   .exact k _ _ _ h
   .exact h.elim
 |str x=>exact k _ _ _ h
 |_=>exact h.elim
theorem zdy {items:List W} {stab:Hw->Prop} {G1:Hw} {turn:W->Hw->(Option W->Hw->Prop)->Prop} {Q Q':Q3} (k:∀ w G,Q w G->Q' w G) (h:lcR items stab G1 turn Q):lcR items stab G1 turn Q':=by
 obtain ⟨Pv,h0,h1,h2,h3,h4⟩:=h;exact ⟨Pv,h0,h1,h2,h3,fun acc G hp p hn=>k _ _ (h4 acc G hp p hn)⟩
theorem za2 {e:E3} (m:wV e):vX (zM e):=fun σ G Q Q' k h=>m σ G _ _ (fun w G1 q=>by
 split at q
 .exact k _ _ q
 .exact q.elim) h
theorem zd6 {e:E3} (m:wV e):vX (yK e):=fun σ G Q Q' k h=>m σ G _ _ (fun w G1 q=>jK (fun b=>k b G1) q) h
theorem xX {e:E3} (m:wV e):wV (yW e).e/\vX (yW e).t:=⟨m,za2 m⟩
theorem pM {e:E3} (m:wV e):wV (yL e).e/\vX (yL e).t:=⟨m,zd6 m⟩
theorem xF {α:Type} {l:List α} {i:Nat} {x:α} (h:l[i]?=some x):x∈l:=List.mem_of_getElem? h
variable {Γ : Ctx3} (g : TabMono Γ)
include g
theorem bB (e:IE):∀ E,wV (zE Γ E e).e/\vX (zE Γ E e).t:=by
 refine IE.rec (motive_1:=fun e=>∀ E,wV (zE Γ E e).e/\vX (zE Γ E e).t) (motive_2:=fun o=>(∀ E,zi5 (zL Γ E o))/\vX (zN Γ o)) (motive_3:=fun es=>∀ E,qY (zV Γ E es)) (motive_4:=fun it=>∀ E,zi6 (zS Γ E it))
  (motive_5:=fun _=>True) (motive_6:=fun _=>True) ?var ?con ?glb ?bin ?neg ?not ?cmp ?chn ?and ?or ?ite ?ix ?sl ?tup ?lst ?dct ?call ?mth ?att ?lc ?spc ?ch3 ?no ?yes ?nil ?cons ?val ?blt ?ispc ?nm ?tt ?tn ?tc e
 case var =>
  intro i E;refine xX fun σ G Q Q' k h=>?_
  split at h
  .exact k _ _ h
  .exact h.elim
 case con =>
  intro c E;refine xX fun σ G Q Q' k h=>?_
  split at h
  .exact k _ _ h
  .exact h.elim
 case glb =>
  intro i E;refine xX fun σ G Q Q' k h=>?_
  split at h
  .exact k _ _ h
  .exact h.elim
 case bin=>exact fun op a b ha hb E=>xX fun σ G Q Q' k h=>(ha E).1 σ G _ _ (fun x G1 h=>(hb E).1 σ G1 _ _ (fun y G2 h=>fR op x y G2 _ _ k h) h) h
 case neg=>exact fun a ha E=>xX fun σ G Q Q' k h=>(ha E).1 σ G _ _ (fun x G1 h=>zbw k h) h
 case not=>exact fun a ha E=>⟨fun σ G Q Q' k h=>(ha E).1 σ G _ _ (fun x G1 h=>jK (fun b=>k _ _) h) h,fun σ G Q Q' k h=>(ha E).2 σ G _ _ (fun b G1 h=>k _ _ h) h⟩
 case cmp=>exact fun op a b ha hb E=>pM fun σ G Q Q' k h=>(ha E).1 σ G _ _ (fun x G1 h=>(hb E).1 σ G1 _ _ (fun y G2 h=>xZ op x y G2 _ _ k h) h) h
 case chn =>
  exact fun o1 o2 a b c ha hb hc E=>pM fun σ G Q Q' k h=>(ha E).1 σ G _ _ (fun x G1 h=>(hb E).1 σ G1 _ _ (fun y G2 h=>xZ o1 x y G2 _ _ (fun z G3 h=>jK (fun b h=>by
   split
   .rename_i hb;rw [if_pos hb] at h;exact (hc E).1 σ G3 _ _ (fun u G4 h=>xZ o2 y u G4 _ _ k h) h
   .rename_i hb;rw [if_neg hb] at h;exact k _ _ h) h) h) h) h
 case ch3 =>
  exact fun o1 o2 o3 a b c d ha hb hc hd E=>pM fun σ G Q Q' k h=>(ha E).1 σ G _ _ (fun x G1 h=>(hb E).1 σ G1 _ _ (fun y G2 h=>xZ o1 x y G2 _ _ (fun z G3 h=>jK (fun b h=>by
   split
   .rename_i hb;rw [if_pos hb] at h
    exact (hc E).1 σ G3 _ _ (fun u G4 h=>xZ o2 y u G4 _ _ (fun z2 G5 h=>jK (fun b2 h=>by
     split
     .rename_i hb2;rw [if_pos hb2] at h;exact (hd E).1 σ G5 _ _ (fun t G6 h=>xZ o3 u t G6 _ _ k h) h
     .rename_i hb2;rw [if_neg hb2] at h;exact k _ _ h) h) h) h
   .rename_i hb;rw [if_neg hb] at h;exact k _ _ h) h) h) h) h
 case and =>
  exact fun a b ha hb E=>⟨fun σ G Q Q' k h=>(ha E).1 σ G _ _ (fun x G1 h=>jK (fun c h=>by
   split
   .rename_i hc;rw [if_pos hc] at h;exact (hb E).1 σ G1 _ _ k h
   .rename_i hc;rw [if_neg hc] at h;exact k _ _ h) h) h,fun σ G Q Q' k h=>(ha E).2 σ G _ _ (fun c G1 h=>by
   split
   .rename_i hc;rw [if_pos hc] at h;exact (hb E).2 σ G1 _ _ k h
   .rename_i hc;rw [if_neg hc] at h;exact k _ _ h) h⟩
 case or =>
  exact fun a b ha hb E=>⟨fun σ G Q Q' k h=>(ha E).1 σ G _ _ (fun x G1 h=>jK (fun c h=>by
   split
   .rename_i hc;rw [if_pos hc] at h;exact k _ _ h
   .rename_i hc;rw [if_neg hc] at h;exact (hb E).1 σ G1 _ _ k h) h) h,fun σ G Q Q' k h=>(ha E).2 σ G _ _ (fun c G1 h=>by
   split
   .rename_i hc;rw [if_pos hc] at h;exact k _ _ h
   .rename_i hc;rw [if_neg hc] at h;exact (hb E).2 σ G1 _ _ k h) h⟩
 case ite =>
  exact fun c a b hc ha hb E=>⟨fun σ G Q Q' k h=>(hc E).2 σ G _ _ (fun c G1 h=>by
   split
   .rename_i hc;rw [if_pos hc] at h;exact (ha E).1 σ G1 _ _ k h
   .rename_i hc;rw [if_neg hc] at h;exact (hb E).1 σ G1 _ _ k h) h,fun _ _ _ _ _ h=>h.elim⟩
 case ix=>exact fun a b ha hb E=>xX fun σ G Q Q' k h=>(ha E).1 σ G _ _ (fun x G1 h=>(hb E).1 σ G1 _ _ (fun y G2 h=>zae x y G2 _ _ k h) h) h
 case sl=>exact fun a lo hi ha hl hh E=>xX fun σ G Q Q' k h=>(ha E).1 σ G _ _ (fun x G1 h=>(hl.1 E) σ G1 _ _ (fun l G2 h=>(hh.1 E) σ G2 _ _ (fun u G3 h=>bT k h) h) h) h
 case tup=>exact fun es hs E=>xX fun σ G Q Q' k h=>(hs E) σ G _ _ (fun ws G1 h=>⟨h.1,k _ _ h.2⟩) h
 case lst=>exact fun es hs E=>xX fun σ G Q Q' k h=>(hs E) σ G _ _ (fun ws G1 h=>⟨h.1,fun p hp=>k _ _ (h.2 p hp)⟩) h
 case dct=>exact fun ks es hs E=>xX fun σ G Q Q' k h=>fun p hp=>(hs E) σ _ _ _ (fun ws G1 h=>⟨h.1,h.2.1,k _ _ h.2.2⟩) (h p hp)
 case call =>
  exact fun f es hs E=>xX fun σ G Q Q' k h=>(hs E) σ G _ _ (fun ws G1 h=>by
   split at h
   .rename_i f' e;exact g.fn f' (xF e) ws G1 Q Q' E k h
   .exact h.elim) h
 case mth =>
  exact fun m o es ho hs E=>xX fun σ G Q Q' k h=>(ho E).1 σ G _ _ (fun x G1 h=>by
   split at h
   .rename_i m' e;exact ⟨h.1,(hs E) σ G1 _ _ (fun ws G2 h=>g.mt m' (xF e) x ws G2 Q Q' k h) h.2⟩
   .exact h.elim) h
 case att=>exact fun o f ho E=>xX fun σ G Q Q' k h=>(ho E).1 σ G _ _ (fun x G1 h=>zct k h) h
 case lc=>exact fun tg names caps it c elt _ hi hc he E=>xX fun σ G Q Q' k h=>(hi E) σ G _ _ (fun items stab G1 h=>zdy k h) h
 case spc =>
  exact fun i es hs E=>xX fun σ G Q Q' k h=>(hs E) σ G _ _ (fun ws G1 h=>by
   split at h
   .rename_i f' e;exact g.sx f' (xF e) ws G1 Q Q' k h
   .exact h.elim) h
 case ispc =>
  exact fun i es hs E σ G R R' k h=>(hs E) σ G _ _ (fun ws G1 h=>by
   split at h
   .rename_i m' e;exact g.ix m' (xF e) ws G1 R R' k h
   .exact h.elim) h
 case no=>exact ⟨fun E σ G Q Q' k h=>k _ _ h,fun σ G Q Q' k h=>k _ _ h⟩
 case yes=>exact fun e he=>⟨fun E σ G Q Q' k h=>(he E).1 σ G _ _ (fun x G1 h=>gC (fun i=>k _ _) h) h,(he XN).2⟩
 case nil=>exact fun E σ G Q Q' k h=>k _ _ h
 case cons=>exact fun e es he hs E σ G Q Q' k h=>(he E).1 σ G _ _ (fun x G1 h=>(hs E) σ G1 _ _ (fun xs G2 h=>k _ _ h) h) h
 case val=>exact fun e he E σ G R R' k h=>(he E).1 σ G _ _ (fun w G1 h=>pC k h) h
 case blt =>
  exact fun i es hs E σ G R R' k h=>(hs E) σ G _ _ (fun ws G1 h=>by
   split at h
   .rename_i m' e;exact g.it m' (xF e) ws G1 R R' k h
   .exact h.elim) h
 case nm=>exact fun _=>trivial
 case tt=>exact fun _ _=>trivial
 case tn=>trivial
 case tc=>exact fun _ _ _ _=>trivial
theorem zD (E:XQ) (e:IE):wV (zE Γ E e).e:=(bB g e E).1
theorem kG (E:XQ) (e:IE):vX (zE Γ E e).t:=(bB g e E).2
theorem wW (E:XQ):∀ es:IEs,qY (zV Γ E es)
 | .nil=>fun σ G Q Q' k h=>k _ _ h
 | .cons e es=>fun σ G Q Q' k h=>zD g E e σ G _ _ (fun x G1 h=>wW E es σ G1 _ _ (fun xs G2 h=>k _ _ h) h) h
theorem zh9 (E:XQ):∀ o:IO,zi5 (zL Γ E o)
 | .no=>fun σ G Q Q' k h=>k _ _ h
 | .yes e=>fun σ G Q Q' k h=>zD g E e σ G _ _ (fun x G1 h=>gC (fun i=>k _ _) h) h
theorem monoC:∀ o:IO,vX (zN Γ o)
 | .no=>fun σ G Q Q' k h=>k _ _ h
 | .yes e=>kG g XN e
theorem zfQ (E:XQ):∀ it:II,zi6 (zS Γ E it)
 | .val e=>fun σ G R R' k h=>zD g E e σ G _ _ (fun w G1 h=>pC k h) h
 | .blt i es=>fun σ G R R' k h=>wW g E es σ G _ _ (fun ws G1 h=>by
   split at h
   .rename_i m' e;exact g.it m' (xF e) ws G1 R R' k h
   .exact h.elim) h
 | .spc i es=>fun σ G R R' k h=>wW g E es σ G _ _ (fun ws G1 h=>by
   split at h
   .rename_i m' e;exact g.ix m' (xF e) ws G1 R R' k h
   .exact h.elim) h
end L3
namespace L3
open PySem PySem.Spec PyProof.Rows L2
structure MC where
 sc:Scope
 N:List Str
 own:Str->Bool
 fns:List Str
 gls:List Str
 mts:List Str
 its:List Str
 sxm:List (Scope->Expr->Option (List Expr))
 ixm:List (Scope->Expr->Option (List Expr))
def visB (sc:Scope) (x:Str):Bool:=match sc.names.lookup x with
 |some .local=>true
 |some .cell=>true
 |some .free=>true
 |_=>false
def qO (sc:Scope) (x:Str):Bool:=sc.names.lookup x==some .globalImplicit&&!(x==("__debug__" : Str))&&!(x==("__name__" : Str))
def vN:Expr->Bool
 | .Set ..=>false
 |_=>true
def noStar:Expr->Bool
 | .Starred ..=>false
 |_=>true
def rV:Expr->Bool
 | .Slice ..=>false
 |_=>true
def uN:Expr->Bool
 | .ListComp ..=>false
 | .SetComp ..=>false
 | .DictComp ..=>false
 |_=>true
def tY:Expr->Bool
 | .Call (.Name ..) [] [] _=>false
 |_=>true
def relS (sc out:Scope):Scope:={ sc with names:=sc.names.map fun (n,k)=>if (k==.free&&out.kind==.function&&out.names.lookup n==some .cell) then (n,.cell) else (n,k) }
def blkB (out sc:Scope):Bool:=(sc.kind==.function)&&(sc.names.all fun y=>(!(y.2==.cell) || sc.names.lookup y.1==some .cell)&&(!(y.2==.free) || sc.names.lookup y.1==some .free)) &&
 (sc.names.all fun y=>!(y.2==.free) || out.names.lookup y.1==some .cell || out.names.lookup y.1==some .free) &&
 (sc.names.all fun y=>!(y.2==.local) || sc.names.lookup y.1==some .local)
def pT:List Str->Bool
 | []=>true
 |x::r=>!r.contains x&&pT r
def mP (M:MC) (x:Str):Bool:=match M.sc.names.lookup x with
 |some .local=>true
 |some .cell=>M.own x
 |_=>false
mutual
def tgIx:ITg->List Nat
 | .nm i=>[i]
 | .tup ts=>zcL ts
def zcL:ITgs->List Nat
 | .nil=>[]
 | .cons t ts=>tgIx t++zcL ts
end
mutual
def mG (M:MC):ITg->Expr->Bool
 | .nm i,.Name x _=>M.N[i]?==some x&&mP M x
 | .tup ts,.Tuple es _ _=>mGs M ts es
 |_,_=>false
def mGs (M:MC):ITgs->List Expr->Bool
 | .nil,[]=>true
 | .cons t ts,e::es=>noStar e&&mG M t e&&mGs M ts es
 |_,_=>false
end
mutual
def mE:IE->MC->Expr->Bool
 | .var i=>fun M e=>match e with
  | .Name x _=>M.N[i]?==some x&&visB M.sc x&&!(x==("__debug__" : Str))&&!(x==("__classdict__" : Str))
  |_=>false
 | .con c=>fun M e=>match e with
  | .Constant d _ _=>decide (c=d)
  |_=>false
 | .glb i=>fun M e=>match e with
  | .Name x _=>M.gls[i]?==some x&&qO M.sc x
  |_=>false
 | .bin op a b=>fun M e=>match e with
  | .BinOp l o r _=>decide (op=o)&&mE a M l&&mE b M r
  |_=>false
 | .neg a=>fun M e=>match e with
  | .UnaryOp .USub l _=>mE a M l
  |_=>false
 | .not a=>fun M e=>match e with
  | .UnaryOp .Not l _=>mE a M l
  |_=>false
 | .cmp op a b=>fun M e=>match e with
  | .Compare l [o] [r] _=>decide (op=o)&&mE a M l&&mE b M r&&vN r
  |_=>false
 | .chn o1 o2 a b c=>fun M e=>match e with
  | .Compare l [p1,p2] [r,t] _=>decide (o1=p1)&&decide (o2=p2)&&mE a M l&&mE b M r&&mE c M t&&vN t
  |_=>false
 | .ch3 o1 o2 o3 a b c d=>fun M e=>match e with
  | .Compare l [p1,p2,p3] [r,t,u] _=>decide (o1=p1)&&decide (o2=p2)&&decide (o3=p3)&&mE a M l&&mE b M r&&mE c M t&&mE d M u&&vN u
  |_=>false
 | .and a b=>fun M e=>match e with
  | .BoolOp .And [l,r] _=>mE a M l&&mE b M r
  | .BoolOp .And (l::r::q::rest) pos=>mE a M l&&mE b M (.BoolOp .And (r::q::rest) pos)
  |_=>false
 | .or a b=>fun M e=>match e with
  | .BoolOp .Or [l,r] _=>mE a M l&&mE b M r
  | .BoolOp .Or (l::r::q::rest) pos=>mE a M l&&mE b M (.BoolOp .Or (r::q::rest) pos)
  |_=>false
 | .ite c a b=>fun M e=>match e with
  | .IfExp t l r _=>mE c M t&&mE a M l&&mE b M r
  |_=>false
 | .ix a i=>fun M e=>match e with
  | .Subscript l r _=>mE a M l&&mE i M r&&rV r
  |_=>false
 | .sl a lo hi=>fun M e=>match e with
  | .Subscript l (.Slice x y none _) _=>mE a M l&&mO lo M x&&mO hi M y
  |_=>false
 | .tup es=>fun M e=>match e with
  | .Tuple xs _ _=>mA es M xs
  |_=>false
 | .lst es=>fun M e=>match e with
  | .List xs _=>mA es M xs
  |_=>false
 | .dct ks es=>fun M e=>match e with
  | .Dict keys xs _=>keyB ks keys&&mA es M xs&&decide (keys.length=xs.length)&&decide (keys.length<=15)&&!ks.isEmpty
  |_=>false
 | .call f es=>fun M e=>match e with
  | .Call (.Name x _) xs [] _=>M.fns[f]?==some x&&qO M.sc x&&mA es M xs
  |_=>false
 | .mth m o es=>fun M e=>match e with
  | .Call (.Attribute l x apos) xs [] cpos=>M.mts[m]?==some x&&tY l&&(apos.endLine==cpos.line)&&decide (xs.length<25)&&mE o M l&&mA es M xs
  |_=>false
 | .att o f=>fun M e=>match e with
  | .Attribute l x _=>x==f&&tY l&&mE o M l
  |_=>false
 | .lc tg names caps it c elt=>fun M e=>match e with
  | .ListComp x [⟨t,ix,ifs,asy⟩] sc _ =>
   let M':MC:={ M with sc:=relS sc M.sc,N:=names++caps.map (fun j=>M.N.getD j Str.empty),own:=fun x=>sc.names.lookup x==some .cell }
   decide (asy=0)&&blkB M.sc sc&&vN ix&&pT M'.N&&(caps.all fun j=>decide (j<M.N.length)&&(sc.names.lookup (M.N.getD j Str.empty)==some .free)) &&
    mI it M ix&&((tgIx tg).all fun i=>decide (i<names.length))&&mG M' tg t&&mC c M' ifs&&mE elt M' x
  |_=>false
 | .spc i es=>fun M e=>uN e&&(match M.sxm[i]? with
  |some m=>(match m M.sc e with|some xs=>mA es M xs|none=>false)
  |none=>false)
def mO:IO->MC->Option Expr->Bool
 | .no=>fun M e=>match e with|none=>true|_=>false
 | .yes a=>fun M e=>match e with|some x=>mE a M x|_=>false
def mC:IO->MC->List Expr->Bool
 | .no=>fun M e=>match e with | []=>true|_=>false
 | .yes a=>fun M e=>match e with | [x]=>mE a M x|_=>false
def mA:IEs->MC->List Expr->Bool
 | .nil=>fun M e=>match e with | []=>true|_=>false
 | .cons a as=>fun M e=>match e with|x::xs=>noStar x&&mE a M x&&mA as M xs|_=>false
def mI:II->MC->Expr->Bool
 | .val a=>fun M e=>mE a M e
 | .blt i es=>fun M e=>match e with
  | .Call (.Name x _) xs [] _=>M.its[i]?==some x&&qO M.sc x&&mA es M xs
  |_=>false
 | .spc i es=>fun M e=>match M.ixm[i]? with
  |some m=>(match m M.sc e with|some xs=>mA es M xs|none=>false)
  |none=>false
def keyB:List Str->List (Option Expr)->Bool
 | []=>fun e=>match e with | []=>true|_=>false
 |k::ks=>fun e=>match e with|some (.Constant (.str x) _ _)::es=>k==x&&keyB ks es|_=>false
end
def zcO (M:MC) (i j:Nat):Expr->Bool
 | .Tuple [.Name x _,.Starred (.Name y _) _] _ _=>(M.N[i]?==some x&&mP M x)&&(M.N[j]?==some y&&mP M y)
 |_=>false
mutual
def mS:IS->MC->Stmt->Bool
 | .asg i a=>fun M s=>match s with
  | .Assign [.Name x py] e _=>M.N[i]?==some x&&mP M x&&mE a M e
  |_=>false
 | .asgT ts a=>fun M s=>match s with
  | .Assign [.Tuple es _ _] e _=>uN e&&zdn e&&mGs M ts es&&mE a M e
  |_=>false
 | .asgI o i a=>fun M s=>match s with
  | .Assign [.Subscript l r _] e _=>uN e&&rV r&&mE o M l&&mE i M r&&mE a M e
  |_=>false
 | .asgA o f a=>fun M s=>match s with
  | .Assign [.Attribute l x _] e _=>x==f&&uN e&&mE o M l&&mE a M e
  |_=>false
 | .ex a=>fun M s=>match s with
  | .Expr e _=>uN e&&mE a M e
  |_=>false
 | .ret a=>fun M s=>match s with
  | .Return (some e) _=>mE a M e
  |_=>false
 | .retN=>fun M s=>match s with|.Return none _=>true|_=>false
 | .pass=>fun M s=>match s with|.Pass _=>true|_=>false
 | .brk=>fun M s=>match s with|.Break _=>true|_=>false
 | .cnt=>fun M s=>match s with|.Continue _=>true|_=>false
 | .ite c a b=>fun M s=>match s with
  | .If t x y _=>mE c M t&&sQ a M x&&sQ b M y
  |_=>false
 | .whl c b=>fun M s=>match s with
  | .While t x [] _=>mE c M t&&sQ b M x
  |_=>false
 | .for tg it b=>fun M s=>match s with
  | .For t x y [] _=>vN x&&mG M tg t&&mI it M x&&sQ b M y
  |_=>false
 | .dead=>fun M s=>true
 | .asgS i j a=>fun M s=>match s with
  | .Assign [t] e _=>uN e&&zdn e&&zcO M i j t&&mE a M e
  |_=>false
def sQ:ISs->MC->List Stmt->Bool
 | .nil=>fun M s=>match s with | []=>true|_=>false
 | .cons a as=>fun M s=>match s with|x::xs=>mS a M x&&sQ as M xs|_=>false
def zdn:Expr->Bool
 | .Tuple ..=>false
 |_=>true
end
theorem vY {a b:Bool} (h:(a&&b)=true):a=true/\b=true:=(Bool.and_eq_true a b).mp h
theorem bd3 {a b c:Bool} (h:(a&&b&&c)=true):(a=true/\b=true)/\c=true:=⟨vY (vY h).1,(vY h).2⟩
theorem bd4 {a b c d:Bool} (h:(a&&b&&c&&d)=true):((a=true/\b=true)/\c=true)/\d=true:=⟨bd3 (vY h).1,(vY h).2⟩
theorem bd5 {a b c d e:Bool} (h:(a&&b&&c&&d&&e)=true):(((a=true/\b=true)/\c=true)/\d=true)/\e=true:=⟨bd4 (vY h).1,(vY h).2⟩
theorem bd6 {a b c d e f:Bool} (h:(a&&b&&c&&d&&e&&f)=true):((((a=true/\b=true)/\c=true)/\d=true)/\e=true)/\f=true:=⟨bd5 (vY h).1,(vY h).2⟩
theorem bd7 {a b c d e f g:Bool} (h:(a&&b&&c&&d&&e&&f&&g)=true):(((((a=true/\b=true)/\c=true)/\d=true)/\e=true)/\f=true)/\g=true:=⟨bd6 (vY h).1,(vY h).2⟩
theorem bd8 {a b c d e f g k:Bool} (h:(a&&b&&c&&d&&e&&f&&g&&k)=true):((((((a=true/\b=true)/\c=true)/\d=true)/\e=true)/\f=true)/\g=true)/\k=true:=⟨bd7 (vY h).1,(vY h).2⟩
theorem bd9 {a b c d e f g k l:Bool} (h:(a&&b&&c&&d&&e&&f&&g&&k&&l)=true):(((((((a=true/\b=true)/\c=true)/\d=true)/\e=true)/\f=true)/\g=true)/\k=true)/\l=true:=⟨bd8 (vY h).1,(vY h).2⟩
theorem bd10 {a b c d e f g k l m:Bool} (h:(a&&b&&c&&d&&e&&f&&g&&k&&l&&m)=true):((((((((a=true/\b=true)/\c=true)/\d=true)/\e=true)/\f=true)/\g=true)/\k=true)/\l=true)/\m=true:=⟨bd9 (vY h).1,(vY h).2⟩
end L3
namespace L2
open PySem PySem.Spec PyProof.Rows
def Itd (d:Addr) (ob:Obj) (l:List (yH×V)):It where
 go:=fun i H=>H d=some (.frz ob (.dK l))/\i<l.length
 yld:=fun i H x H'=>H'=H/\∃ p,l[i]?=some p/\x=kV p.1
 stop:=fun i H=>H d=some (.frz ob (.dK l))/\l.length<=i
def KiSt (it d:Addr) (ob:Obj) (n i:Nat) (h:Heap):Prop:=∃ ep es,ob.data=.dict es ep/\h.IsKeyIter it d i n ep
section
variable {X : Cx} {pins : List (Addr × Obj)} {σ : St} {H : Hp} {s : Shared} {d : Addr} {ob : Obj} {l : List (yH × V)}
theorem zeD {κ:Type}:∀ {l:List (κ×V)} {vs:List (κ×Value)} {i:Nat} {k:κ} {v:Value},KV l vs->vs[i]?=some (k,v)->∃ x,l[i]?=some (k,x)
 |_,_,i,k,v,.nil,e=>by simp at e
 |p::_,_,0,k,v,.cons r t,e=>by
  simp at e;subst e;obtain ⟨a,b⟩:=p;have h1:a=k:=r.1;exact ⟨b,by simp [h1]⟩
 |_::_,_,i+1,k,v,.cons r t,e=>by
  obtain ⟨x,h⟩:=zeD (i:=i) (k:=k) (v:=v) t (by simpa using e);exact ⟨x,by simpa using h⟩
theorem zeC {κ:Type}:∀ {l:List (κ×V)} {vs:List (κ×Value)},KV l vs->vs.length=l.length
 |_,_,.nil=>rfl
 |_,_,.cons _ t=>by rw [List.length_cons,List.length_cons,zeC t]
theorem zbY (I:Inv X pins σ H s) (e:H d=some (.frz ob (.dK l))) {es:Array DictEntry} {ep:Nat} (hd:ob.data=.dict es ep):∃ vs,KV l vs/\s.heap.DictAt (xR X.prog X.w) d vs ep/\vs.length=l.length:=by
 obtain ⟨hg,_,_,vs,kv,o,es',ep',ho,hc,hdat,r⟩:=(show xU X.prog X.w H s.heap d (.frz ob (.dK l)) from I.hok d _ e);rw [hg] at ho;cases ho;rw [hd] at hdat;cases hdat;exact ⟨vs,kv,⟨ob,es,hg,hc,hd,r⟩,zeC kv⟩
theorem zbJ {k:yH} {v:Value} (h:pE k v=true):zC (kV k) v:=by
 rcases yA h with ⟨i,t,rfl,rfl⟩|⟨x,t,rfl,rfl⟩
 .exact ⟨t,rfl⟩
 .exact ⟨t,rfl⟩
theorem za1 {P:Program} {w:World} {K:PySem.W.Frag} {tg:Expr} (it:Addr):Turn P w K tg (Itd d ob l) [it] it (KiSt it d ob l.length) where
 mem:=by simp
 obj:=fun i h st b hb=>by
  cases zzO hb;obtain ⟨ep,es,_,o,e,c,z⟩:=st;exact ⟨o,e,fun v q=>by rw [z] at q;cases q⟩
 keep:=fun i h h' st k=>by
  obtain ⟨ep,es,hd,st⟩:=st;exact ⟨ep,es,hd,st.at fun o e=>k it (by simp) o e⟩
 item:=by
  intro X e1 e2 e3 hc i pins s σ H E I hf st hg;subst e1;subst e2;subst e3;obtain ⟨ep,es,hd,st⟩:=st;obtain ⟨e,hi⟩:=hg;obtain ⟨vs,kv,da,lv⟩:=zbY I e hd;obtain ⟨f0,f1,f2,f3,f4,f5⟩:=hf it (by simp);obtain ⟨⟨k,v⟩,ek⟩:∃ p,vs[i]?=some p:=⟨vs[i]'(by omega),List.getElem?_eq_getElem _⟩;obtain ⟨x,ex⟩:=zeD kv ek;rw [← lv] at st;refine wpAny_pyNext_dict_item st da ek fun key h' hkey st' sb=>?_;have I1:Inv X pins σ H { s with heap:=h',toks:=s.toks }:=I.turned (fun b o hb q=>(sb.2 b hb).trans q) f0 f1 f3 f4 f5;obtain ⟨o,o1,o2,o3⟩:=id st';refine ⟨key,rfl,zdK (s:={ s with heap:=h' }) o1 o2 o3 (by decide) ⟨kV k,H,I1,zbJ hkey,⟨rfl,(k,x),ex,rfl⟩,⟨ep,es,hd,?_⟩,fun b hb=>(hf b hb).1⟩⟩;rw [← lv];exact st'
 done:=by
  intro X e1 e2 e3 hc i pins s σ H E I hf st hg;subst e1;subst e2;subst e3;obtain ⟨ep,es,hd,st⟩:=st;obtain ⟨e,hi⟩:=hg;obtain ⟨vs,kv,da,lv⟩:=zbY I e hd;obtain ⟨f0,f1,f2,f3,f4,f5⟩:=hf it (by simp);rw [← lv] at st;exact wpAny_pyNext_dict_end (I.ok.hd hc) st da (List.getElem?_eq_none (by omega)) fun h' eb=>⟨rfl,I.turned (t':=s.toks) (fun b o hb q=>eb b o hb q) f0 f1 f3 f4 f5⟩
 self:=fun _ _ _ _ _ st h=>by
  obtain ⟨ep,es,hd,st⟩:=st;exact wpAny_pyIter_keyiter st h
theorem tU {u:HO} (e:H d=some u):yT H d u=H:=by
 funext b
 unfold yT
 split
 .rename_i h;subst h;exact e.symm
 .rfl
theorem zgj (I:Inv X pins σ H s) (e:Rd H d (.dK l)):∃ ob,Inv X pins σ (yT H d (.frz ob (.dK l))) s/\(∃ es ep,ob.data=.dict es ep)/\∀ ob',H d=some (.frz ob' (.dK l))->ob'=ob:=by
 rcases e with e|⟨ob,e⟩
 .have q:=I.hok d _ e;obtain ⟨h1,h2,vs,kv,o,es,ep,ho,hc,hdat,r⟩:=id q;have mu:Mut (H d):=by rw [e];exact True.intro
  refine ⟨o,I.un (t':=s.toks) (Un.write mu (.inl rfl) (fun b u _ z=>z) ⟨o,ho⟩) (I.hok.write mu (.inl rfl) (fun b u _ z=>z) ⟨o,ho⟩ ⟨ho,h1,h2,vs,kv,o,es,ep,ho,hc,hdat,r⟩),⟨es,ep,hdat⟩,fun ob' z=>by rw [e] at z;cases z⟩
 .obtain ⟨hg,_,_,vs,kv,o,es,ep,ho,hc,hdat,r⟩:=(show xU X.prog X.w H s.heap d (.frz ob (.dK l)) from I.hok d _ e);rw [hg] at ho;cases ho;exact ⟨ob,by rw [tU e];exact I,⟨es,ep,hdat⟩,fun ob' z=>by rw [e] at z;cases z;rfl⟩
theorem zgA {tg:Expr} {R:It->Hp->Prop} {E:Value->Shared->Prop} (I:Inv X pins σ H s) (e:Rd H d (.dK l)) (q:∀ ob,(∀ ob',H d=some (.frz ob' (.dK l))->ob'=ob)->R (Itd d ob l) (yT H d (.frz ob (.dK l)))):wpAny (model X.prog X.w) X.A (pyIter (.ref d)) (PIE X pins σ tg R) E s:=by
 have hs:(d==sysModules)=false:=(nX I.hok e).2.1;obtain ⟨ob,J,⟨es,ep,hd⟩,same⟩:=zgj I e;obtain ⟨vs,kv,da,lv⟩:=zbY J yY hd;refine wpAny_pyIter_dict hs da ?_;refine ⟨s.heap.objs.size,[s.heap.objs.size],_,_,_,rfl,J.kept (t':=s.toks) fun b o e=>Heap.get?_push_of_some _ e,za1 _,⟨ep,es,hd,⟨_,Heap.get?_push_size _ rfl,rfl,by rw [lv];rfl⟩⟩,fun b hb=>?_,q ob same⟩;cases zzO hb;exact J.fpOk (zzR _) (J.hok.fresh (zzR _))
end
end L2
namespace L3
open PySem PySem.Spec PyProof.Rows L2 PySem.SeqAt
structure Par where
 prog:Program
 w:World
 K:yZ
 mg:Str->Option Value
 base:Heap
 A:Around
structure Fits (p:Par) (X:Cx):Prop where
 prog:X.prog=p.prog
 w:X.w=p.w
 K:X.K=p.K
 mg:X.mg=p.mg
 base:X.base=p.base
 A:X.A=p.A
 calm:X.calm=true
 xe:X.xe=fun _ _=>False
structure ItIs (K:yZ) (J:It) (H1:Hp) (ws:List W) (stab:Hw->Prop):Prop where
 go:∀ i H G,yV K H1 H->yC K H G->stab G->i<ws.length->J.go i H
 yld:∀ i H G x H',yV K H1 H->yC K H G->stab G->i<ws.length->J.yld i H x H'->∃ w,ws[i]?=some w/\yV K H H'/\xN K H' w x/\yC K H' G
 stop:∀ i H G,yV K H1 H->yC K H G->stab G->ws.length<=i->J.stop i H
def lowI (K:yZ) (t:I3):TI:=fun τ H R=>∃ σ G,zB K H σ τ/\yC K H G/\t σ G fun ws stab G1=>∀ J H1,yV K H H1->yC K H1 G1->ItIs K J H1 ws stab->R J H1
def tX (X:Cx):List Expr->List E3->Prop
 | [],[]=>True
 |x::xs,e::es=>wV e/\PE X x (yB X.K e)/\tX X xs es
 |_,_=>False
structure Good (Γ:Ctx3) (p:Par):Prop where
 mono:TabMono Γ
 un:p.A.units+200<cLine
 fn:∀ f∈Γ.fn,∀ X,Fits p X->Gl X f.nm->∀ (args:List Expr) (t:A3) (q pos:Pos),qY t->args.all noStar=true->PA X args (qC X.K t)->(args=[]->∀ σ G Q,t σ G Q->Q [] G)->(f.nm==("__debug__" : Str))=false->f.nm ≠ "__name__" ->
  PE X (.Call (.Name f.nm q) args [] pos) (yB X.K fun σ G Q=>t σ G fun ws G1=>f.sp ws G1 Q XN)
 gl:∀ g∈Γ.gl,∀ X,Fits p X->Gl X g.1->∀ q:Pos,(g.1==("__debug__" : Str))=false->g.1 ≠ "__name__" -> PE X (.Name g.1 q) (yB X.K fun _ G Q=>Q g.2 G)
 mt:∀ m∈Γ.mt,∀ X,Fits p X->∀ (o:Expr) (args:List Expr) (to:E3) (t:A3) (apos cpos:Pos),wV to->qY t->tY o=true->(apos.endLine==cpos.line)=true->args.length<25->args.all noStar=true ->
  PE X o (yB X.K to)->PA X args (qC X.K t)->(args=[]->∀ σ G Q,t σ G Q->Q [] G)->PE X (.Call (.Attribute o m.nm apos) args [] cpos) (yB X.K fun σ G Q=>to σ G fun x G1=>tyW G1 x m.T/\t σ G1 fun ws G2=>m.sp x ws G2 Q)
 it:∀ i∈Γ.it,∀ X,Fits p X->Gl X i.nm->∀ (tg:Expr) (args:List Expr) (t:A3) (q pos:Pos),qY t->args.all noStar=true->PA X args (qC X.K t)->(args=[]->∀ σ G Q,t σ G Q->Q [] G)->(i.nm==("__debug__" : Str))=false->i.nm ≠ "__name__" ->
  PI X tg (.Call (.Name i.nm q) args [] pos) (lowI X.K fun σ G R=>t σ G fun ws G1=>i.sp ws G1 R)
 cl:∀ c∈Γ.cl,Cls p.K c.1/\∀ f∈c.2,kU p.K c.1 f
 sx:∀ k∈Γ.sx,∀ X,Fits p X->∀ (e:Expr) (xs:List Expr) (es:List E3),k.m X.env.scope e=some xs->tX X xs es->xs.all noStar=true->PA X xs (qC X.K (vF es)) ->
  PE X e (yB X.K fun σ G Q=>vF es σ G fun ws G1=>k.sp ws G1 Q)/\(∀ whole,isTrue e X.env whole=(do let v ← whole;standAt e.pos;holding [v] (truthy v)))/\∀ op vs pos,e≠.BoolOp op vs pos
 ix:∀ k∈Γ.ix,∀ X,Fits p X->∀ (tg e:Expr) (xs:List Expr) (es:List E3),k.m X.env.scope e=some xs->tX X xs es->xs.all noStar=true->PA X xs (qC X.K (vF es)) ->
  PI X tg e (lowI X.K fun σ G R=>vF es σ G fun ws G1=>k.sp ws G1 R)
structure Lk (Γ:Ctx3) (M:MC) (p:Par) (X:Cx):Prop where
 fits:Fits p X
 N:X.N=M.N
 sc:X.env.scope=M.sc
 nd:M.N.Nodup
 own:∀ x,M.own x=true->X.fn x=true
 kind:M.sc.kind=.function
 fns:Γ.fn.map (·.nm)=M.fns
 gls:Γ.gl.map (·.1)=M.gls
 mts:Γ.mt.map (·.nm)=M.mts
 its:Γ.it.map (·.nm)=M.its
 sxs:Γ.sx.map (·.m)=M.sxm
 ixs:Γ.ix.map (·.m)=M.ixm
theorem jF {e:Expr} {es:List Expr} {env:Env} (h:noStar e=true):starEach (e::es) env=(false,eval e env)::starEach es env:=by
 cases e<;>first|rfl|exact absurd h zzN
theorem kX {o:Expr} {f:Str} {env:Env} {t:Sem Value} (h:tY o=true):attributeBase o f env t=t:=by
 unfold attributeBase
 split
 .exact absurd h zzN
 .rfl
theorem sZ {e:Expr} {env:Env} (h:vN e=true):∀ x,foldedSetIterable e env x=pure x:=fun x=>by
 cases e<;>first|rfl|exact absurd h zzN
theorem qP {op:CmpOp} {e:Expr} (h:vN e=true):behindInMarks op e=false:=by
 cases e<;>first|rfl|exact absurd h zzN
theorem zdd {e:Expr} (h:rV e=true):zcx e:=fun o i=>by
 cases e<;>first|rfl|exact absurd h zzN
theorem wZ {e:Expr} {t:Option Expr} {n:Nat} {env:Env} (h:uN e=true):swapsWith e t n env=pure false:=by
 cases e<;>first|rfl|exact absurd h zzN
theorem zaX {sc:Scope} {x:Str} (h:visB sc x=true):Vis sc x:=by
 unfold visB at h
 split at h
 .rename_i e;exact .inl e
 .rename_i e;exact .inr (.inl e)
 .rename_i e;exact .inr (.inr e)
 .exact absurd h zzN
theorem uH {X:Cx} {sc:Scope} {x:Str} (e:X.env.scope=sc) (h:qO sc x=true):Gl X x/\(x==("__debug__" : Str))=false/\x ≠ "__name__" := by
 unfold qO at h;simp only [Bool.and_eq_true,Bool.not_eq_true'] at h;refine ⟨?_,h.1.2,fun z=>?_⟩
 .show X.env.scope.names.lookup x=_;rw [e];exact eq_of_beq h.1.1
 .subst z;have:=h.2;simp at this
theorem yD {α:Type} [BEq α] [LawfulBEq α] {a:Option α} {b:α} (h:(a==some b)=true):a=some b:=eq_of_beq h
theorem jR {α β:Type} {f:α->β} {l:List α} {i:Nat} {y:β} (h:(l.map f)[i]?=some y):∃ x,l[i]?=some x/\f x=y:=by
 rw [List.getElem?_map] at h
 cases e:l[i]? with
 |none=>rw [e] at h;cases h
 |some x=>rw [e] at h;exact ⟨x,rfl,Option.some.inj h⟩
section
variable {X : Cx}
theorem zcK {K:yZ} {e:E3} (m:wV e) {τ:L2.St} {H:Hp} {Q:Bool->Hp->Prop} (h:jH K (zM e) τ H Q):yB K e τ H (fun x H'=>∃ k,TruV K x H' k/\Q k H'):=by
 obtain ⟨σ,G,hs,ha,h⟩:=h;refine yE m hs ha h fun w G1 v H1 gr _ rp ab q=>?_
 split at q
 .rename_i b hb;exact ⟨b,zfe rp ab hb,q H1 gr ab⟩
 .exact q.elim
theorem pt_of {x:Expr} {e:E3} (m:wV e) (h:PE X x (yB X.K e)) (he:∀ whole,isTrue x X.env whole=(do let v ← whole;standAt x.pos;holding [v] (truthy v))):PT X x (jH X.K (zM e)) :=
 (zc6 h he).imp fun σ H Q q=>zcK m q
theorem cT {K:yZ} {e:E3} (m:wV e) {τ:L2.St} {H:Hp} {Q:Bool->Hp->Prop} (h:jH K (yK e) τ H Q):yB K e τ H (fun x H'=>∃ k,x=.bl k/\Q k H'):=by
 obtain ⟨σ,G,hs,ha,h⟩:=h;refine yE m hs ha h fun w G1 v H1 gr _ rp ab q=>?_
 cases w with
 |bl b=>cases rp;exact ⟨b,rfl,q H1 gr ab⟩
 |_=>exact q.elim
theorem dZ {K:yZ} {ea eb:E3} {r:R3} (ma:wV ea) (mb:wV eb) (mr:sI r) {τ:L2.St} {H:Hp} {Q:VK} (h:yB K (fun σ G Q=>ea σ G fun x G1=>eb σ G1 fun y G2=>r x y G2 Q) τ H Q) :
  tOp (tI K r) (yB K ea) (yB K eb) τ H Q:=by
 obtain ⟨σ,G,hs,ha,h⟩:=h;refine yE ma hs ha h fun x G1 v H1 g1 hs1 rx a1 h1=>?_;refine yE mb hs1 a1 h1 fun y G2 u H2 g2 hs2 ry a2 h2=>?_;exact ⟨x,y,G2,rx.mono g2,ry,a2,mr x y G2 _ _ (fun w G' q v' H' g'=>q v' H' ((g1.trans g2).trans g')) h2⟩
def Its (x:Str):It:=⟨fun i _=>i<x.cps.size,fun i H v H'=>H'=H/\∃ c,x.cps[i]?=some c/\v=.str ⟨#[c]⟩,fun i _=>x.cps.size<=i⟩
theorem zcI {P:Program} {w:World} {K:yZ} {tg:Expr} (T:String) (hT:T = "str_ascii_iterator" \/ T = "str_iterator") (x:Str) (t:Tok) (it:Addr):Turn P w K tg (Its x) [it] it (fun i h=>h.IsStrIter it T x t i) where
 mem:=by simp
 obj:=fun i h st b hb=>by
  have e:b=it:=by simpa using hb
  subst e;obtain ⟨o,e,c,d⟩:=st;exact ⟨o,e,fun v z=>by rw [d] at z;cases z⟩
 keep:=fun i h h' st k=>let ⟨o,e,r⟩:=st;⟨o,k it (by simp) o e,r⟩
 item:=by
  intro X hP hw hK hc i pins s σ H E I hf st hg;subst hP hw hK;obtain ⟨f0,f1,f2,f3,f4,f5⟩:=hf it (by simp);have hi:i<x.cps.size:=hg;have hx:x.cps[i]?=some x.cps[i]:=by simp [hi]
  have fin:∀ h':Heap,h'.IsStrIter it T x t (i+1)->Heap.SameBut it s.heap h'->∃ u,some (Value.str ⟨#[x.cps[i]]⟩ s.toks)=some u /\
    wpAny (model X.prog X.w) X.A (letOwnedTupleGo tg (.ref it) u) (fun _ s2=>∃ v H',Inv X pins σ H' s2/\zC v u/\(Its x).yld i H v H'/\s2.heap.IsStrIter it T x t (i+1)/\∀ b∈[it],H' b=none) E { s with heap:=h',toks:=s.toks+1 }:=fun h' st' sb=>by
   have I1:Inv X pins σ H { s with heap:=h',toks:=s.toks+1 }:=I.turned (t':=s.toks+1) (fun b o hb e=>(sb.2 b hb).trans e) f0 f1 f3 f4 f5;obtain ⟨o,e,c,d⟩:=id st';exact ⟨_,rfl,zdK (s:={ s with heap:=h',toks:=s.toks+1 }) e c d (by rcases hT with rfl|rfl<;>decide) ⟨.str ⟨#[x.cps[i]]⟩,H,I1,⟨_,rfl⟩,⟨rfl,_,hx,rfl⟩,st',fun b hb=>(hf b hb).1⟩⟩
  rcases hT with rfl|rfl
  .exact wpAny_pyNext_ascii_item st hx fin
  .exact wpAny_pyNext_wide_item st hx fin
 done:=by
  intro X hP hw hK hc i pins s σ H E I hf st hg;subst hP hw hK;obtain ⟨f0,f1,f2,f3,f4,f5⟩:=hf it (by simp);have hx:x.cps[i]?=none:=by have h:x.cps.size<=i:=hg;simp [h]
  rcases hT with rfl|rfl
  .exact wpAny_pyNext_ascii_end (I.ok.hd hc) st hx fun h' eb=>⟨rfl,I.turned (t':=s.toks) (fun b o hb e=>eb b o hb e) f0 f1 f3 f4 f5⟩
  .exact wpAny_pyNext_wide_end (I.ok.hd hc) st hx fun h' eb=>⟨rfl,I.turned (t':=s.toks) (fun b o hb e=>eb b o hb e) f0 f1 f3 f4 f5⟩
 self:=fun _ _ _ _ _ st h=>by
  rcases hT with rfl|rfl
  .exact wpAny_pyIter_striter_ascii st h
  .exact wpAny_pyIter_striter_wide st h
theorem zhI {tg l:Expr} {tl:TE} (hl:PE X l tl):PI X tg l (fun σ H R=>tl σ H fun x H1=>(∃ t,x=.str t/\R (Its t) H1)\/∃ a,x=.ref a/\(((∃ xs,sJ X.K H1 a xs)/\R (Itl X.K a) H1)\/((∃ xs,tV X.K H1 a xs)/\R (Itt X.K a) H1)\/∃ l,Rd H1 a (.dK l)/\∀ ob,(∀ ob',H1 a=some (.frz ob' (.dK l))->ob'=ob)->R (Itd a ob l) (yT H1 a (.frz ob (.dK l))))):=by
 intro pins s σ H R I h;refine yI (hl pins s σ H _ I h) fun v s1 ⟨x,H1,I1,r1,q1⟩=>?_;rcases q1 with ⟨tx,e,q⟩|q1
 .subst e;obtain ⟨tk,rfl⟩:=r1
  have fin:∀ T,(T = "str_ascii_iterator" \/ T = "str_iterator")->∀ o:Obj,o.isFreed=false->o.cls=.type T->o.data=.fields #[.str tx tk,.int 0 0]->PIE X pins σ tg R (.ref s1.heap.objs.size) { s1 with heap:=s1.heap.push o }   := fun T hT o hz hc hd=>by
   refine ⟨s1.heap.objs.size,[s1.heap.objs.size],_,_,H1,rfl,I1.kept (t':=s1.toks) fun b o e=>Heap.get?_push_of_some _ e,zcI T hT tx tk _,⟨_,Heap.get?_push_size _ hz,hc,hd⟩,fun b hb=>?_,q⟩;have e:b=s1.heap.objs.size:=by simpa using hb
   subst e;exact I1.fpOk (zzR _) (I1.hok.fresh (zzR _))
  cases hasc:tx.cps.all (· < 128)
  .exact wpAny_pyIter_wide hasc (fin _ (.inr rfl) _ rfl rfl rfl)
  .exact wpAny_pyIter_ascii hasc (fin _ (.inl rfl) _ rfl rfl rfl)
 obtain ⟨a,e,q1⟩:=q1;subst e;cases r1;rcases q1 with ⟨⟨xs,hq⟩,q⟩|⟨⟨xs,hq⟩,q⟩|⟨l,hq,q⟩
 rotate_left 2
 .exact zgA I1 hq q
 .obtain ⟨its,rv,p,hz⟩:=I1.list hq;refine wpAny_pyIter_list p.isList ?_;refine ⟨s1.heap.objs.size,[s1.heap.objs.size],_,_,H1,rfl,I1.kept (t':=s1.toks) fun b o e=>Heap.get?_push_of_some _ e,za0 a _,⟨_,Heap.get?_push_size _ rfl,rfl,rfl⟩,fun b hb=>?_,q⟩;have e:b=s1.heap.objs.size:=by simpa using hb
  subst e;exact I1.fpOk (zzR _) (I1.hok.fresh (zzR _))
 .obtain ⟨its,rv,p,hz⟩:=I1.tuple hq;refine wpAny_pyIter_tuple (show s1.heap.IsTuple a its.toArray from p) ?_;refine ⟨s1.heap.objs.size,[s1.heap.objs.size],_,_,H1,rfl,I1.kept (t':=s1.toks) fun b o e=>Heap.get?_push_of_some _ e,zat a _,⟨_,Heap.get?_push_size _ rfl,rfl,rfl⟩,fun b hb=>?_,q⟩;have e:b=s1.heap.objs.size:=by simpa using hb
  subst e;exact I1.fpOk (zzR _) (I1.hok.fresh (zzR _))
theorem ziy {K:yZ} {x:Str} {H1:Hp}:ItIs K (Its x) H1 (sgs x) (fun _=>True) where
 go:=fun i H G _ ab st hi=>by
  have h:i<(sgs x).length:=hi;show i<x.cps.size;simpa [sgs] using h
 yld:=fun i H G v H' _ ab st hi y=>by
  obtain ⟨rfl,c,e,rfl⟩:=y;refine ⟨.str ⟨#[c]⟩,?_,.refl,rfl,ab⟩;simp [sgs,e]
 stop:=fun i H G _ ab st hi=>by
  have h:(sgs x).length<=i:=hi;show x.cps.size<=i;simpa [sgs] using h
theorem ziz {K:yZ} {a:Addr} {H1:Hp} {ws:List W}:ItIs K (Itl K a) H1 ws (fun G=>yU G a=some ws) where
 go:=fun i H G _ ab st hi=>by
  obtain ⟨vs,sq,rs⟩:=ab.seq st;have hl:=rs.length;obtain ⟨v,e⟩:∃ v,vs[i]?=some v:=⟨vs[i]'(by omega),List.getElem?_eq_getElem _⟩;exact ⟨vs,v,sq,e⟩
 yld:=fun i H G x H' _ ab st hi y=>by
  obtain ⟨vs,sq,rs⟩:=ab.seq st;obtain ⟨e,y⟩:=y;subst e;obtain ⟨w,ew,rp⟩:=rs.get' (y vs sq);exact ⟨w,ew,.refl,rp,ab⟩
 stop:=fun i H G _ ab st hi=>by
  obtain ⟨vs,sq,rs⟩:=ab.seq st;exact ⟨vs,sq,by rw [rs.length];exact hi⟩
theorem zix {K:yZ} {a:Addr} {H1:Hp} {ws:List W} {vs:List V} (sq:tV K H1 a vs) (rs:zQ K H1 ws vs):ItIs K (Itt K a) H1 ws (fun _=>True) where
 go:=fun i H G g ab st hi=>by
  have hl:=rs.length;obtain ⟨v,e⟩:∃ v,vs[i]?=some v:=⟨vs[i]'(by omega),List.getElem?_eq_getElem _⟩;exact ⟨vs,v,g.1 _ _ sq,e⟩
 yld:=fun i H G x H' g ab st hi y=>by
  obtain ⟨e,y⟩:=y;subst e;obtain ⟨w,ew,rp⟩:=(rs.mono g).get' (y vs (g.1 _ _ sq));exact ⟨w,ew,.refl,rp,ab⟩
 stop:=fun i H G g ab st hi=>⟨vs,g.1 _ _ sq,by rw [rs.length];exact hi⟩
theorem yC.rdD {K:yZ} {H:Hp} {G:Hw} {p:Addr} {kvs:List (yH×W)} (ab:yC K H G) (e:zcc G p=some kvs):∃ l,Rd H p (.dK l)/\yX K H kvs l:=by
 unfold zcc at e
 split at e
 .rename_i q;cases e;obtain ⟨u,e',l,rfl,r⟩:=ab p _ q;exact ⟨l,.inl e',r⟩
 .rename_i q;cases e;obtain ⟨u,e',ob,l,rfl,r⟩:=ab p _ q;exact ⟨l,.inr ⟨ob,e'⟩,r⟩
 .cases e
theorem yC.freeze {K:yZ} {H:Hp} {G:Hw} {p:Addr} {kvs:List (yH×W)} {l:List (yH×V)} {ob:Obj} (ab:yC K H G) (e:zcc G p=some kvs) (hl:Rd H p (.dK l)) (rk:yX K H kvs l) :
  (∀ ob',H p=some (.frz ob' (.dK l))->ob'=ob)->yV K H (yT H p (.frz ob (.dK l)))/\yC K (yT H p (.frz ob (.dK l))) (put G p (.fzd kvs)):=by
 intro same;unfold zcc at e
 split at e
 .rename_i q;cases e;have g:yV K H (yT H p (.frz ob (.dK l))):=ab.grow q;exact ⟨g,ab.chg q ⟨ob,l,rfl,rk.mono g⟩⟩
 .rename_i q;cases e;obtain ⟨u,e',ob2,l2,rfl,r⟩:=ab p _ q
  have hp:H p=some (.frz ob (.dK l)):=by
   rcases hl with h|⟨o,h⟩
   .rw [h] at e';cases e'
   .rw [h,same o h]
  rw [tU hp];refine ⟨.refl,fun b o z=>?_⟩
  by_cases hb:b=p
  .subst hb;rw [zR] at z;cases z;exact ⟨_,hp,ob,l,rfl,rk⟩
  .rw [xO hb] at z;exact ab b o z
 .cases e
theorem yX.keyAt {K:yZ} {H:Hp} {κ:Type}:∀ {l:List (κ×W)} {l':List (κ×V)} {i:Nat} {p:κ×V},yX K H l l'->l'[i]?=some p->∃ w,l[i]?=some (p.1,w)
 | [],_,i,p,h,e=>by rw [show _=[] from h] at e;simp at e
 | (k,w)::_,_,0,p,⟨v,t,e,h,r⟩,q=>by subst e;simp at q;subst q;exact ⟨w,rfl⟩
 |_::_,_,i+1,p,⟨v,t,e,h,r⟩,q=>by
  subst e;obtain ⟨w,h1⟩:=yX.keyAt (i:=i) (p:=p) r (by simpa using q);exact ⟨w,by simpa using h1⟩
theorem zir {K:yZ} {H:Hp} (k:yH):xN K H (kW k) (kV k):=by
 cases k<;>rfl
theorem ziA {K:yZ} {d:Addr} {ob:Obj} {l:List (yH×V)} {H1:Hp} {kvs:List (yH×W)} (e:H1 d=some (.frz ob (.dK l))) (rk:yX K H1 kvs l):ItIs K (Itd d ob l) H1 (kvs.map fun kv=>kW kv.1) (fun G=>G d=some (.fzd kvs)) where
 go:=fun i H G g ab st hi=>⟨g.2 _ _ True.intro e,by rw [rk.length];simpa using hi⟩
 yld:=fun i H G x H' g ab st hi y=>by
  obtain ⟨e1,p,e2,e3⟩:=y;subst e1;subst e3;obtain ⟨w,ew⟩:=rk.keyAt e2;exact ⟨kW p.1,by rw [List.getElem?_map,ew];rfl,.refl,zir _,ab⟩
 stop:=fun i H G g ab st hi=>⟨g.2 _ _ True.intro e,by rw [rk.length];simpa using hi⟩
theorem zhJ {tg x:Expr} {e:E3} (m:wV e) (h:PE X x (yB X.K e)):PI X tg x (lowI X.K fun σ G R=>e σ G fun w G1=>vJ w G1 R):=by
 intro pins s σ H R I q;refine zhI h pins s σ H R I ?_;obtain ⟨σ3,G,hs,ha,q⟩:=q;refine yE m hs ha q fun w G1 v H1 gr hs1 rp ab q=>?_
 cases w with
 |tup ws =>
  obtain ⟨a,vs,rfl,sq,rs⟩:=rp;exact .inr ⟨a,rfl,.inr (.inl ⟨⟨vs,sq⟩,q _ H1 gr ab (zix sq rs)⟩)⟩
 |ref p =>
  cases rp;simp only [vJ] at q
  split at q
  .rename_i ws e;obtain ⟨vs,sq,rs⟩:=ab.seq e;exact .inr ⟨p,rfl,.inl ⟨⟨vs,sq⟩,q _ H1 gr ab ziz⟩⟩
  .split at q
   .rename_i kvs e;obtain ⟨l,hl,rk⟩:=ab.rdD e;refine .inr ⟨p,rfl,.inr (.inr ⟨l,hl,fun ob same=>?_⟩)⟩;obtain ⟨g2,a2⟩:=ab.freeze (ob:=ob) e hl rk same;exact q _ _ (gr.trans g2) a2 (ziA (yY) (rk.mono g2))
   .exact q.elim
 |str t =>
  cases rp;exact .inl ⟨t,rfl,q _ H1 gr ab ziy⟩
 |_=>exact q.elim
def lowG (K:yZ) (t:G3):TG:=fun v τ H Q=>∃ w σ G,xN K H w v/\zB K H σ τ/\yC K H G/\t w σ G fun σ' G'=>∀ τ' H',yV K H H'->zB K H' σ' τ'->yC K H' G'->Q τ' H'
def lowGs (K:yZ) (t:Gs3):TGs:=fun vs τ H Q=>∃ ws σ G,zQ K H ws vs/\zB K H σ τ/\yC K H G/\t ws σ G fun σ' G'=>∀ τ' H',yV K H H'->zB K H' σ' τ'->yC K H' G'->Q τ' H'
theorem _root_.L2.PG.imp {tg:Expr} {t t':TG} (h:PG X tg t) (k:∀ v σ H Q,t' v σ H Q->t v σ H Q):PG X tg t':=fun pins s σ H v u Q I r q=>h pins s σ H v u Q I r (k v σ H Q q)
theorem _root_.L2.PGs.imp {tg:List Expr} {t t':TGs} (h:PGs X tg t) (k:∀ v σ H Q,t' v σ H Q->t v σ H Q):PGs X tg t':=fun pins s σ H v u Q I r q=>h pins s σ H v u Q I r (k v σ H Q q)
theorem mJ {e:Expr} {es:List Expr} {env:Env} (h:noStar e=true):assignEach (e::es) env=(false,assign e env)::assignEach es env:=by
 cases e<;>first|rfl|exact absurd h zzN
end
def MonoG (t:G3):Prop:=∀ w σ G (Q Q':xD->Hw->Prop),(∀ a b,Q a b->Q' a b)->t w σ G Q->t w σ G Q'
def zi7 (t:Gs3):Prop:=∀ w σ G (Q Q':xD->Hw->Prop),(∀ a b,Q a b->Q' a b)->t w σ G Q->t w σ G Q'
mutual
theorem uM:∀ t:ITg,MonoG (zU t)
 | .nm i=>fun w σ G Q Q' k h=>k _ _ h
 | .tup ts=>fun w σ G Q Q' k h=>by
  cases w with
  |tup ws=>exact pO ts ws σ G Q Q' k h
  |_=>exact h.elim
theorem pO:∀ ts:ITgs,zi7 (zX ts)
 | .nil=>fun w σ G Q Q' k h=>by
  cases w with
  |nil=>exact k _ _ h
  |cons _ _=>exact h.elim
 | .cons t ts=>fun w σ G Q Q' k h=>by
  cases w with
  |nil=>exact h.elim
  |cons x r=>exact uM t x σ G _ _ (fun σ' G' h=>pO ts r σ' G' Q Q' k h) h
end
theorem pH {Γ:Ctx3} {M:MC} {p:Par} {X:Cx} (L:Lk Γ M p X) {x:Str} (h:mP M x=true):Loc X.env.scope x/\(X.fn x=true\/X.env.scope.names.lookup x=some .local):=by
 unfold mP at h;rw [L.sc]
 split at h
 .rename_i e;exact ⟨.inl e,.inr e⟩
 .rename_i e;exact ⟨.inr e,.inl (L.own x h)⟩
 .exact absurd h zzN
mutual
theorem sndG {Γ:Ctx3} {M:MC} {p:Par} {X:Cx} (L:Lk Γ M p X):∀ (t:ITg) (x:Expr),mG M t x=true->PG X x (lowG X.K (zU t))
  | .nm i,x,h=>by
   cases x with
   |Name y q =>
    replace h:=vY h;have lo:=pH L h.2;refine (fC (i:=i) (L.N▸L.nd) (by rw [L.N];exact yD h.1) lo.1 lo.2).imp fun v σ H Q q=>?_;obtain ⟨w,σ3,G,rp,hs,ab,q⟩:=q;exact q _ _ .refl (hs.set rp i) ab
   |_=>exact absurd h zzN
  | .tup ts,x,h=>by
   cases x with
   |Tuple es k q =>
    skip
    obtain ⟨ps,hn,hst⟩:=zfl L ts es h;refine (zet (n:=es.length) L.fits.calm ps hn hst).imp fun v σ H Q q=>?_;obtain ⟨w,σ3,G,rp,hs,ab,q⟩:=q
    cases w with
    |tup ws =>
      obtain ⟨a,vs,rfl,sq,rs⟩:=rp;refine ⟨a,vs,rfl,sq,?_,ws,σ3,G,rs,hs,ab,q⟩;rw [rs.length];exact zdv ts es ws σ3 G _ h q
    |_=>exact q.elim
   |_=>exact absurd h zzN
theorem zfl {Γ:Ctx3} {M:MC} {p:Par} {X:Cx} (L:Lk Γ M p X):∀ (ts:ITgs) (xs:List Expr),mGs M ts xs=true->PGs X xs (lowGs X.K (zX ts))/\(assignEach xs X.env).length=xs.length/\(assignEach xs X.env).findIdx? (·.1)=none
 | .nil,[],_=>⟨(zbl).imp fun vs σ H Q q=>by
   obtain ⟨ws,σ3,G,rs,hs,ab,q⟩:=q
   cases ws with
   |nil=>exact ⟨rs,q _ _ .refl hs ab⟩
   |cons _ _=>exact q.elim,rfl,rfl⟩
 | .cons t ts,x::xs,h=>by
  simp only [mGs,Bool.and_eq_true] at h;obtain ⟨ps,hn,hst⟩:=zfl L ts xs h.2;have es:=mJ (es:=xs) (env:=X.env) h.1.1;refine ⟨(pV (sndG L t x h.1.2) ps (by rw [es];rfl)).imp fun vs σ H Q q=>?_,by rw [es,List.length_cons,List.length_cons,hn],?_⟩
  .obtain ⟨ws,σ3,G,rs,hs,ab,q⟩:=q
   cases ws with
   |nil=>exact q.elim
   |cons w r =>
    obtain ⟨v,vr,e,rp,rr⟩:=rs;refine ⟨v,vr,e,w,σ3,G,rp,hs,ab,uM t w σ3 G _ _ (fun σ' G' q τ' H' g' hs' ab'=>?_) q⟩;exact ⟨r,σ',G',rr.mono g',hs',ab',pO ts r σ' G' _ _ (fun σ2 G2 q τ2 H2 g2=>q τ2 H2 (g'.trans g2)) q⟩
  .rw [es,List.findIdx?_cons];simp only [zzB,if_false,hst];rfl
theorem zdv {M:MC}:∀ (ts:ITgs) (xs:List Expr) (ws:List W) (σ:xD) (G:Hw) (Q:xD->Hw->Prop),mGs M ts xs=true->zX ts ws σ G Q->ws.length=xs.length
 | .nil,[],ws,σ,G,Q,_,q=>by
  cases ws with
  |nil=>rfl
  |cons _ _=>exact q.elim
 | .cons t ts,x::xs,ws,σ,G,Q,h,q=>by
  simp only [mGs,Bool.and_eq_true] at h
  cases ws with
  |nil=>exact q.elim
  |cons w r =>
   have:∃ σ' G',zX ts r σ' G' Q:=exG t w σ G _ q;obtain ⟨σ',G',q'⟩:=this;rw [List.length_cons,List.length_cons,zdv ts xs r σ' G' Q h.2 q']
theorem exG:∀ (t:ITg) (w:W) (σ:xD) (G:Hw) (Q:xD->Hw->Prop),zU t w σ G Q->∃ σ' G',Q σ' G'
 | .nm i,w,σ,G,Q,q=>⟨_,_,q⟩
 | .tup ts,w,σ,G,Q,q=>by
  cases w with
  |tup ws=>exact exGs ts ws σ G Q q
  |_=>exact q.elim
theorem exGs:∀ (ts:ITgs) (ws:List W) (σ:xD) (G:Hw) (Q:xD->Hw->Prop),zX ts ws σ G Q->∃ σ' G',Q σ' G'
 | .nil,ws,σ,G,Q,q=>by
  cases ws with
  |nil=>exact ⟨_,_,q⟩
  |cons _ _=>exact q.elim
 | .cons t ts,ws,σ,G,Q,q=>by
  cases ws with
  |nil=>exact q.elim
  |cons w r =>
   obtain ⟨σ',G',q'⟩:=exG t w σ G _ q;exact exGs ts r σ' G' Q q'
end
def lowO (K:yZ) (t:xD->Hw->(Option Int->Hw->Prop)->Prop):TO:=fun τ H Q=>∃ σ G,zB K H σ τ/\yC K H G/\t σ G fun o G'=>∀ H',yV K H H'->yC K H' G'->Q o H'
theorem _root_.L2.PO.imp {X:Cx} {e:Option Expr} {t t':TO} (h:PO X e t) (k:∀ σ H Q,t' σ H Q->t σ H Q):PO X e t':=fun pins s σ H Q I q=>h pins s σ H Q I (k σ H Q q)
theorem _root_.L2.PTs.imp {X:Cx} {e:List Expr} {t t':TT} (h:PTs X e t) (k:∀ σ H Q,t' σ H Q->t σ H Q):PTs X e t':=fun pins s σ H Q I q=>h pins s σ H Q I (k σ H Q q)
theorem _root_.L2.PI.imp {X:Cx} {tg x:Expr} {t t':TI} (h:PI X tg x t) (k:∀ σ H R,t' σ H R->t σ H R):PI X tg x t':=fun pins s σ H R I q=>h pins s σ H R I (k σ H R q)
def capV (k:Nat) (caps:List Nat) (σ:L2.St):L2.St:=List.replicate k none++caps.map fun j=>(σ[j]?).join
theorem cW {α:Type} {k:Nat} {caps:List Nat} {σ:List (Option α)} {i:Nat} {v:α} (h:(List.replicate k none++caps.map fun j=>(σ[j]?).join)[i]?=some (some v)):k<=i/\∃ j,caps[i-k]?=some j/\σ[j]?=some (some v):=by
 by_cases hi:i<k
 .rw [List.getElem?_append_left (by simpa using hi),List.getElem?_replicate,if_pos hi] at h;cases h
 .rw [List.getElem?_append_right (by simpa using hi),List.length_replicate,List.getElem?_map] at h;refine ⟨by omega,?_⟩
  cases e:caps[i-k]? with
  |none=>rw [e] at h;cases h
  |some j =>
   rw [e] at h;have h':(σ[j]?).join=some v:=Option.some.inj h;refine ⟨j,rfl,?_⟩
   cases q:σ[j]? with
   |none=>rw [q] at h';cases h'
   |some o=>rw [q] at h';exact congrArg some h'
theorem zgK {K:yZ} {H:Hp} {σ:xD} {τ:L2.St} (h:zB K H σ τ) (k:Nat) (caps:List Nat):zB K H (capS k caps σ) (capV k caps τ):=by
 refine ⟨by simp [capS,capV],fun i w e=>?_⟩;obtain ⟨hk,j,ej,es⟩:=cW e;obtain ⟨v,ev,rp⟩:=h.2 j w es;refine ⟨v,?_,rp⟩;unfold capV;rw [List.getElem?_append_right (by simpa using hk),List.length_replicate,List.getElem?_map,ej];simp [ev]
theorem bC:∀ {l:List Str},pT l=true->l.Nodup
 | [],_=>List.nodup_nil
 |x::r,h=>by
  simp only [pT,Bool.and_eq_true,Bool.not_eq_true'] at h;refine List.nodup_cons.mpr ⟨fun hm=>?_,bC h.2⟩;have:=List.elem_eq_true_of_mem hm;rw [List.contains_eq_mem] at h;simp [hm] at h
theorem zfp {X:Cx} {sc out:Scope} (e:X.env.scope=out):relabel sc X.env=relS sc out:=by
 unfold relabel relS Env.kindOf;rw [e]
theorem zeS {X:Cx} {sc out:Scope} (e:X.env.scope=out) (h:blkB out sc=true):BlkSc X sc:=by
 unfold blkB at h;simp only [Bool.and_eq_true,List.all_eq_true] at h;obtain ⟨⟨⟨h1,h2⟩,h3⟩,h4⟩:=h;refine ⟨eq_of_beq h1,fun y hy=>?_,fun y hy=>?_,fun x hx=>?_,fun y hy z=>?_⟩
 .simpa using (h2 _ hy).1
 .simpa using (h2 _ hy).2
 .have:=h3 _ hx;simp only [beq_self_eq_true,Bool.not_true,Bool.false_or,Bool.or_eq_true,beq_iff_eq] at this;show X.env.scope.names.lookup x=_\/X.env.scope.names.lookup x=_;rw [e];exact this
 .have:=h4 y hy;rw [z] at this;simpa using this
theorem zcn {X:Cx} {M:MC} {sc:Scope} {names:List Str} {caps:List Nat} (eN:X.N=M.N) (es:X.env.scope=M.sc)
  (h:(caps.all fun j=>decide (j<M.N.length)&&(sc.names.lookup (M.N.getD j Str.empty)==some .free))=true) :
  Caps X sc (names++caps.map (fun j=>M.N.getD j Str.empty)) (capV names.length caps):=by
 intro σ hl;simp only [List.all_eq_true,Bool.and_eq_true,decide_eq_true_eq,Bool.not_eq_true'] at h;refine ⟨by simp [capV],fun i x v hN hσ _=>?_⟩;obtain ⟨hk,j,ej,e⟩:=cW hσ;rw [List.getElem?_append_right hk,List.getElem?_map,ej] at hN;have hx:M.N.getD j Str.empty=x:=Option.some.inj hN;have hj:=h j (List.mem_of_getElem? ej);refine ⟨?_,j,?_,e⟩
 .rw [← hx];exact eq_of_beq hj.2
 .rw [eN,← hx,List.getD_eq_getElem?_getD,List.getElem?_eq_getElem hj.1];rfl
theorem zig {K:yZ} {J:It} {H1:Hp} {items:List W} {stab:Hw->Prop} {G1:Hw} {σ:xD} {τ:L2.St} {tg:ITg} {c:T3} {e:E3} {Q:VK} {H0:Hp} (mc:vX c) (me:wV e) (it:ItIs K J H1 items stab) (ab:yC K H1 G1) (hs:zB K H1 σ τ) (g0:yV K H0 H1)
  (hw:∀ w G' (Q:xD->Hw->Prop),zU tg w σ G' Q->zU tg w σ G' fun σ2 G2=>(σ2.length=σ.length/\∀ (i:Nat) (v:W),σ[i]?=some (some v)->σ2[i]?=some (some v))/\Q σ2 G2)
  (h:lcR items stab G1 (fun w G' K=>zU tg w σ G' fun σ2 G2=>c σ2 G2 fun b G3=>if b=true then e σ2 G3 fun x G4=>K (some x) G4 else K none G3) (jL K H0 Q)) :
  tLCb J τ (lowG K (zU tg)) (jH K c) (yB K e) (fun acc H'=>∀ p,H' p=none->Q (.ref p) (yT H' p (.lst acc))) H1:=by
 obtain ⟨Pv,p0,pst,hlen,step,fin⟩:=h;refine ⟨fun i m τ acc H=>m+i=items.length/\yV K H1 H/\zB K H σ τ/\∃ ws G,zQ K H ws acc/\yC K H G/\Pv i ws G,⟨items.length,rfl,.refl,hs,[],G1,rfl,ab,p0⟩,?_⟩;rintro i m τ acc H ⟨hm,gr,hs,ws,G,rs,a,pv⟩;have hst:=pst i ws G pv (by omega);have hacc:acc.length=ws.length:=rs.length
 by_cases hi:i<items.length
 .refine .inr ⟨it.go i H G gr a hst.1 hi,by omega,fun x H' y=>?_⟩;obtain ⟨w,ew,g1,rp,a1⟩:=it.yld i H G x H' gr a hst.1 hi y;refine ⟨w,σ,G,rp,hs.mono g1,a1,uM tg w σ G _ _ (fun σ2 G2 q τ2 H2 g2 hs2 a2=>?_) (hw w G _ (step i w ws G ew pv))⟩;obtain ⟨⟨wl,wk⟩,q⟩:=q;have back:∀ {τ':L2.St} {H':Hp},zB K H' σ2 τ'->zB K H' σ τ':=fun {τ' H'} r=>⟨by rw [← wl];exact r.1,fun k w e=>r.2 k w (wk k w e)⟩;refine uB mc hs2 a2 q fun b G3 H3 g3 hs3 a3 q3=>?_
  cases b with
  |true =>
   rw [if_pos rfl] at q3 ⊢;refine yE me hs3 a3 q3 fun x G4 v H4 g4 hs4 rx a4 q4=>?_;refine ⟨m-1,by omega,by omega,gr.trans (g1.trans (g2.trans (g3.trans g4))),back hs4,ws++[x],G4,?_,a4,q4⟩;exact (rs.mono (g1.trans (g2.trans (g3.trans g4)))).append ⟨v,[],rfl,rx,rfl⟩
  |false =>
   rw [if_neg (by decide)] at q3 ⊢;exact ⟨m-1,by omega,by omega,gr.trans (g1.trans (g2.trans g3)),back hs3,ws,G3,rs.mono (g1.trans (g2.trans g3)),a3,q3⟩
 .refine .inl ⟨it.stop i H G gr a hst.1 (by omega),fun p hp=>?_⟩;have ei:i=items.length:=by omega
  subst ei;exact fin ws G pv p (a.free hp) _ _ ((g0.trans gr).trans (yF hp)) rfl (a.new hp ⟨acc,rfl,rs.mono (yF hp)⟩)
theorem zba:∀ (tg:ITg) (w:W) (σ:xD) (G:Hw) (Q:xD->Hw->Prop),zU tg w σ G Q->zU tg w σ G fun σ2 G2=>σ2.length=σ.length/\Q σ2 G2:=by
 intro tg
 refine ITg.rec (motive_1:=fun _=>True) (motive_2:=fun _=>True) (motive_3:=fun _=>True) (motive_4:=fun _=>True) (motive_5:=fun tg=>∀ (w:W) (σ:xD) (G:Hw) (Q:xD->Hw->Prop),zU tg w σ G Q->zU tg w σ G fun σ2 G2=>σ2.length=σ.length/\Q σ2 G2)
  (motive_6:=fun ts=>∀ (ws:List W) (σ:xD) (G:Hw) (Q:xD->Hw->Prop),zX ts ws σ G Q->zX ts ws σ G fun σ2 G2=>σ2.length=σ.length/\Q σ2 G2)
  ?_ ?_ ?_ ?_ ?_ ?_ ?_ ?_ ?_ ?_ ?_ ?_ ?_ ?_ ?_ ?_ ?_ ?_ ?_ ?_ ?_ ?_ ?_ ?_ ?_ ?_ ?_ ?_ ?_ ?nm ?tup ?nil ?cons tg
 case nm=>exact fun i w σ G Q h=>⟨by simp,h⟩
 case tup =>
  intro ts ih w σ G Q h
  cases w with
  |tup ws=>exact ih ws σ G Q h
  |_=>exact h.elim
 case nil =>
  intro ws σ G Q h
  cases ws with
  |nil=>exact ⟨rfl,h⟩
  |cons _ _=>exact h.elim
 case cons =>
  intro t ts ht hts ws σ G Q h
  cases ws with
  |nil=>exact h.elim
  |cons w r =>
   refine uM t w σ G _ _ (fun σ' G' q=>?_) (ht w σ G _ h);exact pO ts r σ' G' _ _ (fun σ2 G2 q2=>⟨q2.1.trans q.1,q2.2⟩) (hts r σ' G' Q q.2)
 all_goals intros;trivial
mutual
theorem bS:∀ (tg:ITg) (w:W) (σ:xD) (G:Hw) (Q:xD->Hw->Prop),zU tg w σ G Q->zU tg w σ G fun σ2 G2=>(∀ i,i∉tgIx tg->σ2[i]?=σ[i]?)/\Q σ2 G2
 | .nm j,w,σ,G,Q,h=>⟨fun i hi=>by rw [List.getElem?_set_ne];intro z;exact hi (by simp [tgIx,z]),h⟩
 | .tup ts,w,σ,G,Q,h=>by
  cases w with
  |tup ws=>exact hU ts ws σ G Q h
  |_=>exact h.elim
theorem hU:∀ (ts:ITgs) (ws:List W) (σ:xD) (G:Hw) (Q:xD->Hw->Prop),zX ts ws σ G Q->zX ts ws σ G fun σ2 G2=>(∀ i,i∉zcL ts->σ2[i]?=σ[i]?)/\Q σ2 G2
 | .nil,ws,σ,G,Q,h=>by
  cases ws with
  |nil=>exact ⟨fun _ _=>rfl,h⟩
  |cons _ _=>exact h.elim
 | .cons t ts,ws,σ,G,Q,h=>by
  cases ws with
  |nil=>exact h.elim
  |cons w r =>
   refine uM t w σ G _ _ (fun σ' G' q=>?_) (bS t w σ G _ h);refine pO ts r σ' G' _ _ (fun σ2 G2 q2=>⟨fun i hi=>?_,q2.2⟩) (hU ts r σ' G' Q q.2);simp only [zcL,List.mem_append,not_or] at hi;rw [q2.1 i hi.2,q.1 i hi.1]
end
theorem zcd {K:yZ} {H:Hp}:∀ (ks:List Str) {ws:List W} {vs:List V} {a:List (yH×W)} {b:List (yH×V)},zQ K H ws vs->yX K H a b ->
  yX K H ((ks.zip ws).foldl (fun acc kv=>sB acc (.inr kv.1) kv.2) a) (((ks.zip vs).map fun kv=>((Sum.inr kv.1:yH),kv.2)).foldl (fun acc kv=>jN acc kv.1 kv.2) b)
 | [],ws,vs,a,b,_,h=>by simpa using h
 |k::ks,[],vs,a,b,hr,h=>by rw [show vs=[] from hr];simpa using h
 |k::ks,w::ws,vs,a,b,hr,h=>by
  obtain ⟨v,r,e,rw',rr⟩:=hr;subst e;simp only [List.zip_cons_cons,List.foldl_cons,zzU];exact zcd ks rr (h.put rw')
theorem pI {K:yZ} {H:Hp} {f:Str} {w:W}:∀ {l:List (Str×W)} {l':List (Str×V)},yX K H l l'->l.lookup f=some w->∃ v,l'.lookup f=some v/\xN K H w v
 | [],_,h,e=>by cases e
 |p::r,_,⟨v,t,e,h,hr⟩,q=>by
  subst e;obtain ⟨n,u⟩:=p;rw [List.lookup_cons] at q ⊢
  cases hx:f==n with
  |true=>rw [hx] at q;cases q;exact ⟨v,rfl,h⟩
  |false=>rw [hx] at q;exact pI hr q
theorem zeb {K:yZ} {H:Hp} {G:Hw} {w:W} {v:V} {T:String} (r:xN K H w v) (ab:yC K H G) (h:tyW G w T):tyV K T v H:=by
 cases w with
 |str x=>cases r;exact h
 |ref p =>
  cases r;simp only [tyW] at h
  split at h
  .rename_i ws e;obtain ⟨vs,q,_⟩:=ab.lst e;exact .inl ⟨h,vs,.of q⟩
  .rename_i ws e;obtain ⟨vs,q,_⟩:=ab.seq (a:=p) (ws:=ws) (by unfold yU;rw [e]);exact .inl ⟨h,vs,q⟩
  .rename_i kvs e;obtain ⟨l,q,_⟩:=ab.dic e;exact .inr (.inr (.inl ⟨h,.inl ⟨l,q⟩⟩))
  .exact h.elim
 |_=>exact h.elim
theorem zfR {l:List Nat} {k:Nat} (h:l.all (fun i=>decide (i<k))=true) {i:Nat} (hi:k<=i):i∉l:=fun hm=>by
 have:=List.all_eq_true.mp h i hm;simp at this;omega
theorem zf8 {op:CmpOp} {a b:IE} {M:MC} {l:Expr} {os:List CmpOp} {rs:List Expr} {q:Pos} (h:mE (.cmp op a b) M (.Compare l os rs q)=true):∃ o r,os=[o]/\rs=[r]:=by
 cases os with
 |nil=>exact absurd h zzN
 |cons o os =>
  cases os with
  |cons _ _=>exact absurd h zzN
  |nil =>
   cases rs with
   |nil=>exact absurd h zzN
   |cons r rs =>
    cases rs with
    |cons _ _=>exact absurd h zzN
    |nil=>exact ⟨o,r,rfl,rfl⟩
theorem zf9 {o1 o2:CmpOp} {a b c:IE} {M:MC} {l:Expr} {os:List CmpOp} {rs:List Expr} {q:Pos} (h:mE (.chn o1 o2 a b c) M (.Compare l os rs q)=true):∃ p1 p2 r t,os=[p1,p2]/\rs=[r,t]:=by
 cases os with
 |nil=>exact absurd h zzN
 |cons p1 os =>
  cases os with
  |nil=>exact absurd h zzN
  |cons p2 os =>
   cases os with
   |cons _ _=>exact absurd h zzN
   |nil =>
    cases rs with
    |nil=>exact absurd h zzN
    |cons r rs =>
     cases rs with
     |nil=>exact absurd h zzN
     |cons t rs =>
      cases rs with
      |cons _ _=>exact absurd h zzN
      |nil=>exact ⟨p1,p2,r,t,rfl,rfl⟩
theorem zga {o1 o2 o3:CmpOp} {a b c d:IE} {M:MC} {l:Expr} {os:List CmpOp} {rs:List Expr} {q:Pos} (h:mE (.ch3 o1 o2 o3 a b c d) M (.Compare l os rs q)=true):∃ p1 p2 p3 r t u,os=[p1,p2,p3]/\rs=[r,t,u]:=by
 match os,rs,h with
 | [p1,p2,p3],[r,t,u],_=>exact ⟨p1,p2,p3,r,t,u,rfl,rfl⟩
section
variable {X : Cx} {a b c d : Expr} {pos : Pos} {ta tb tc td : TE}
def tCh3 (r1 r2 r3:R2) (ta tb tc td:TE):TE:=fun σ H Q=>ta σ H fun x H1=>tb σ H1 fun y H2=>r1 x y H2 fun z H3=>∃ k,z=.bl k /\
 (if k=true then tc σ H3 fun u H4=>r2 y u H4 fun z2 H5=>∃ k2,z2=.bl k2/\(if k2=true then td σ H5 fun t H6=>r3 u t H6 Q else Q (.bl false) H5) else Q (.bl false) H3)
theorem zhS {o1 o2 o3:CmpOp} {r1 r2 r3:R2} (h1:qN X (compareOp o1) r1) (h2:qN X (compareOp o2) r2) (h3:qN X (compareOp o3) r3) (ha:PE X a ta) (hb:PE X b tb) (hc:PE X c tc) (hd:PE X d td)
  (hm:lastMarks [o1,o2,o3] [b,c,d]=false):PE X (.Compare a [o1,o2,o3] [b,c,d] pos) (tCh3 r1 r2 r3 ta tb tc td):=by
 intro pins s σ H Q I h
 refine Compare_chain (yI (ha pins s σ H _ I h) fun v s1 ⟨x,H1,I1,e1,q1⟩=>chain_link (yI (hb pins s1 σ H1 _ I1 q1) fun u s2 ⟨y,H2,I2,e2,q2⟩ =>
  yI (h1 pins s2 σ H2 x y v u _ I2 e1 e2 q2) fun _ s3 ⟨z,H3,I3,e3,k,e,q3⟩=>?_)) hm
 subst e;cases e3;refine wpAny_truthy_bool ?_
 cases k with
 |false=>exact ite_ff ⟨.bl false,H3,I3,rfl,q3⟩
 |true =>
  refine ite_tt (chain_link (yI (hc pins s3 σ H3 _ I3 q3) fun w4 s4 ⟨z4,H4,I4,e4,q4⟩=>yI (h2 pins s4 σ H4 y z4 u w4 _ I4 e2 e4 q4) fun _ s5 ⟨z5,H5,I5,e5,k2,e,q5⟩=>?_));subst e;cases e5;refine wpAny_truthy_bool ?_
  cases k2 with
  |false=>exact ite_ff ⟨.bl false,H5,I5,rfl,q5⟩
  |true=>exact ite_tt (chain_last (yI (hd pins s5 σ H5 _ I5 q5) fun w6 s6 ⟨z6,H6,I6,e6,q6⟩=>h3 pins s6 σ H6 z4 z6 w4 w6 Q I6 e4 e6 q6))
theorem zhC {o1 o2 o3:CmpOp} {r1 r2 r3:R2} (h1:qN X (compareOp o1) r1) (h2:qN X (compareOp o2) r2) (h3:qN X (compareOp o3) r3) (ha:PE X a ta) (hb:PE X b tb) (hc:PE X c tc) (hd:PE X d td)
  (hm:lastMarks [o1,o2,o3] [b,c,d]=false):PT X (.Compare a [o1,o2,o3] [b,c,d] pos) (zfg (tCh3 r1 r2 r3 ta tb tc td)):=by
 intro pins s σ H Q I h
 refine isTrue_chain (yI (ha pins s σ H _ I h) fun v s1 ⟨x,H1,I1,e1,q1⟩=>test_link (yI (hb pins s1 σ H1 _ I1 q1) fun u s2 ⟨y,H2,I2,e2,q2⟩ =>
  yI (h1 pins s2 σ H2 x y v u _ I2 e1 e2 q2) fun _ s3 ⟨z,H3,I3,e3,k,e,q3⟩=>?_)) hm
 subst e;cases e3;refine wpAny_truthy_bool ?_
 cases k with
 |false =>
  obtain ⟨k',e',q'⟩:=q3;cases e';exact ite_ff ⟨H3,I3,q'⟩
 |true =>
  refine ite_tt (test_link (yI (hc pins s3 σ H3 _ I3 q3) fun w4 s4 ⟨z4,H4,I4,e4,q4⟩=>yI (h2 pins s4 σ H4 y z4 u w4 _ I4 e2 e4 q4) fun _ s5 ⟨z5,H5,I5,e5,k2,e,q5⟩=>?_));subst e;cases e5;refine wpAny_truthy_bool ?_
  cases k2 with
  |false =>
   obtain ⟨k',e',q'⟩:=q5;cases e';exact ite_ff ⟨H5,I5,q'⟩
  |true =>
   refine ite_tt (test_last (yI (hd pins s5 σ H5 _ I5 q5) fun w6 s6 ⟨z6,H6,I6,e6,q6⟩=>yI (h3 pins s6 σ H6 z4 z6 w4 w6 _ I6 e4 e6 q6) fun _ s7 ⟨z7,H7,I7,e7,k3,e,q7⟩=>?_));subst e;cases e7;exact wpAny_truthy_bool ⟨H7,I7,q7⟩
end
section
variable {Γ : Ctx3} {p : Par} (g : Good Γ p)
def jW (Γ:Ctx3) (p:Par) (e:IE):Prop:=∀ M X x,Lk Γ M p X->mE e M x=true->PE X x (yB X.K (zE Γ XN e).e)/\PT X x (jH X.K (zE Γ XN e).t)/\∀ op vs pos,x=.BoolOp op vs pos->PW X x (jH X.K (zE Γ XN e).t)
def OkO (Γ:Ctx3) (p:Par) (o:IO):Prop:=∀ M X,Lk Γ M p X->(∀ x,mO o M x=true->PO X x (lowO X.K (zL Γ XN o)))/\∀ xs,mC o M xs=true->PTs X xs (jH X.K (zN Γ o))
def OkA (Γ:Ctx3) (p:Par) (es:IEs):Prop:=∀ M X xs,Lk Γ M p X->mA es M xs=true->PA X xs (qC X.K (zV Γ XN es))/\xs.all noStar=true /\
 (∀ ks keys pos,keyB ks keys=true->keys.length=xs.length->keys.all (·.isSome)=true/\ks.length=keys.length/\∃ trs,PPs X pos keys xs trs/\∀ τ H (Q:List (V×V)->Hp->Prop),
  (∃ σ G,zB X.K H σ τ/\yC X.K H G/\zV Γ XN es σ G fun ws G'=>∀ vs H',yV X.K H H'->zQ X.K H' ws vs->yC X.K H' G'->Q ((ks.zip vs).map fun kv=>(V.str kv.1,kv.2)) H')->fN trs τ H Q)/\tX X xs (semL Γ es)
def OkI (Γ:Ctx3) (p:Par) (it:II):Prop:=∀ M X x,Lk Γ M p X->mI it M x=true->∀ tg,PI X tg x (lowI X.K (zS Γ XN it))
theorem wN {M:MC} {X:Cx} {x:Expr} {e:E3} (m:wV e) (h:PE X x (yB X.K e)) (he:∀ whole,isTrue x X.env whole=(do let v ← whole;standAt x.pos;holding [v] (truthy v))) (hb:∀ op vs pos,x≠.BoolOp op vs pos) :
  PE X x (yB X.K (yW e).e)/\PT X x (jH X.K (yW e).t)/\∀ op vs pos,x=.BoolOp op vs pos->PW X x (jH X.K (yW e).t) :=
 ⟨h,pt_of m h he,fun op vs pos z=>absurd z (hb op vs pos)⟩
include g
theorem s_var (i:Nat):jW Γ p (.var i):=by
 intro M X x L h
 cases x with
 |Name y q =>
  replace h:=bd4 h;simp only [Bool.not_eq_true'] at h;refine wN (M:=M) (zD g.mono XN (.var i)) ((fB (i:=i) (by rw [L.N];exact yD h.1.1.1) (by rw [L.sc];exact zaX h.1.1.2) h.1.2 h.2).imp fun τ H Q q=>?_) (fun _=>rfl) (fun _ _ _ z=>nomatch z);obtain ⟨σ,G,hs,ab,q⟩:=q
  split at q
  .rename_i w e;obtain ⟨v,ev,rp⟩:=hs.2 i w e;exact ⟨v,ev,q v H .refl rp ab⟩
  .exact q.elim
 |_=>exact absurd h zzN
theorem s_con (c:Const):jW Γ p (.con c):=by
 intro M X x L h
 cases x with
 |Constant d k q =>
  replace h:=of_decide_eq_true h;subst h;refine wN (M:=M) (zD g.mono XN (.con c)) ?_ (fun _=>rfl) (fun _ _ _ z=>nomatch z)
  cases c with
  |none=>exact zhN.imp fun τ H Q q=>by obtain ⟨σ,G,hs,ab,q⟩:=q;exact q _ H .refl rfl ab
  |bool b=>exact pe_bl.imp fun τ H Q q=>by obtain ⟨σ,G,hs,ab,q⟩:=q;exact q _ H .refl rfl ab
  |int b=>exact zhP.imp fun τ H Q q=>by obtain ⟨σ,G,hs,ab,q⟩:=q;exact q _ H .refl rfl ab
  |str b=>exact zeu.imp fun τ H Q q=>by obtain ⟨σ,G,hs,ab,q⟩:=q;exact q _ H .refl rfl ab
  |_=>exact fun pins s σ H Q I q=>by obtain ⟨σ,G,hs,ab,q⟩:=q;exact q.elim
 |_=>exact absurd h zzN
theorem s_glb (i:Nat):jW Γ p (.glb i):=by
 intro M X x L h
 cases x with
 |Name y q =>
  replace h:=vY h;have gl:=uH L.sc h.2;have hi:=yD h.1;rw [← L.gls] at hi;obtain ⟨e,ei,rfl⟩:=jR hi;refine wN (M:=M) (zD g.mono XN (.glb i)) ((g.gl e (xF ei) X L.fits gl.1 q gl.2.1 gl.2.2).imp fun τ H Q q=>?_) (fun _=>rfl) (fun _ _ _ z=>nomatch z);obtain ⟨σ,G,hs,ab,q⟩:=q;simp only [ei] at q;exact ⟨σ,G,hs,ab,q⟩
 |_=>exact absurd h zzN
theorem uJ {M:MC} {X:Cx} (L:Lk Γ M p X):X.A.units+200<cLine:=by rw [L.fits.A];exact g.un
theorem s_bin (op:Operator) (a b:IE) (ha:jW Γ p a) (hb:jW Γ p b):jW Γ p (.bin op a b):=by
 intro M X x L h
 cases x with
 |BinOp l o r q =>
  replace h:=bd3 h;simp only [decide_eq_true_eq] at h;obtain ⟨⟨rfl,h1⟩,h2⟩:=h;exact wN (M:=M) (zD g.mono XN (.bin op a b)) ((pe_op (ziY op) (ha M X l L h1).1 (hb M X r L h2).1).imp fun τ H Q q=>dZ (zD g.mono XN a) (zD g.mono XN b) (fR op) q) (fun _=>rfl) (fun _ _ _ z=>nomatch z)
 |_=>exact absurd h zzN
theorem s_neg (a:IE) (ha:jW Γ p a):jW Γ p (.neg a):=by
 intro M X x L h
 cases x with
 |UnaryOp o l q =>
  cases o with
  |USub =>
   skip
   refine wN (M:=M) (zD g.mono XN (.neg a)) ((pe_un zg0 (ha M X l L h).1).imp fun τ H Q q=>?_) (fun _=>rfl) (fun _ _ _ z=>nomatch z);obtain ⟨σ,G,hs,ab,q⟩:=q;refine yE (zD g.mono XN a) hs ab q fun w G1 v H1 gr _ rp ab q=>?_
   cases w with
   |int i=>cases rp;exact ⟨i,rfl,q _ H1 gr rfl ab⟩
   |_=>exact q.elim
  |_=>exact absurd h zzN
 |_=>exact absurd h zzN
theorem s_not (a:IE) (ha:jW Γ p a):jW Γ p (.not a):=by
 intro M X x L h
 cases x with
 |UnaryOp o l q =>
  cases o with
  |Not =>
   skip
   refine ⟨(zhM (ha M X l L h).1).imp fun τ H Q q=>?_,(zhB (ha M X l L h).2.1).imp fun τ H Q q=>?_,fun _ _ _ z=>nomatch z⟩
   .obtain ⟨σ,G,hs,ab,q⟩:=q;refine yE (zD g.mono XN a) hs ab q fun w G1 v H1 gr _ rp ab q=>?_
    cases w with
    |bl i=>cases rp;exact ⟨i,rfl,q _ H1 gr rfl ab⟩
    |_=>exact q.elim
   .obtain ⟨σ,G,hs,ab,q⟩:=q;exact uB (kG g.mono XN a) hs ab q fun b G1 H1 gr _ ab q=>q H1 gr ab
  |_=>exact absurd h zzN
 |_=>exact absurd h zzN
theorem s_cmp (op:CmpOp) (a b:IE) (ha:jW Γ p a) (hb:jW Γ p b):jW Γ p (.cmp op a b):=by
 intro M X x L h
 cases x with
 |Compare l os rs q =>
   obtain ⟨o,r,rfl,rfl⟩:=zf8 h;replace h:=bd4 h;simp only [decide_eq_true_eq] at h;obtain ⟨⟨⟨rfl,h1⟩,h2⟩,h3⟩:=h;have m:=zD g.mono XN (.cmp op a b)
   refine ⟨(zfH (jU (uJ g L) op) (ha M X l L h1).1 (hb M X r L h2).1 (qP h3)).imp fun τ H Q q=>dZ (zD g.mono XN a) (zD g.mono XN b) (xZ op) q,
    (zfv (jU (uJ g L) op) (ha M X l L h1).1 (hb M X r L h2).1 (qP h3)).imp fun τ H Q q=>dZ (zD g.mono XN a) (zD g.mono XN b) (xZ op) (cT m q),fun _ _ _ z=>nomatch z⟩
 |_=>exact absurd h zzN
theorem s_chn (o1 o2:CmpOp) (a b c:IE) (ha:jW Γ p a) (hb:jW Γ p b) (hc:jW Γ p c):jW Γ p (.chn o1 o2 a b c):=by
 intro M X x L h
 cases x with
 |Compare l os rs q =>
   obtain ⟨q1,q2,r,t,rfl,rfl⟩:=zf9 h;replace h:=bd6 h;simp only [decide_eq_true_eq] at h;obtain ⟨⟨⟨⟨⟨rfl,rfl⟩,h1⟩,h2⟩,h3⟩,h4⟩:=h;have m:=zD g.mono XN (.chn o1 o2 a b c)
   have key:∀ τ H Q,yB X.K (zE Γ XN (.chn o1 o2 a b c)).e τ H Q->za4 (tI X.K (xI o1)) (tI X.K (xI o2)) (yB X.K (zE Γ XN a).e) (yB X.K (zE Γ XN b).e) (yB X.K (zE Γ XN c).e) τ H Q:=fun τ H Q q=>by
    obtain ⟨σ,G,hs,ab,q⟩:=q;refine yE (zD g.mono XN a) hs ab q fun x G1 v H1 g1 hs1 rx a1 q=>?_;refine yE (zD g.mono XN b) hs1 a1 q fun y G2 u H2 g2 hs2 ry a2 q=>?_;refine ⟨x,y,G2,rx.mono g2,ry,a2,xZ o1 x y G2 _ _ (fun z G3 q v3 H3 g3 r3 a3=>?_) q⟩
    cases z with
    |bl k =>
     cases r3;refine ⟨k,rfl,?_⟩;have q:if k=true then _ else _:=q
     split
     .rename_i hk;rw [if_pos hk] at q;refine yE (zD g.mono XN c) (hs2.mono g3) a3 q fun w G4 v4 H4 g4 hs4 r4 a4 q=>?_;exact ⟨y,w,G4,(ry.mono g3).mono g4,r4,a4,xZ o2 y w G4 _ _ (fun w5 G5 q v5 H5 g5=>q v5 H5 (g1.trans (g2.trans (g3.trans (g4.trans g5))))) q⟩
     .rename_i hk;rw [if_neg hk] at q;exact q _ H3 (g1.trans (g2.trans g3)) rfl a3
    |_=>exact q.elim
   refine ⟨(zdj (jU (uJ g L) o1) (jU (uJ g L) o2) (ha M X l L h1).1 (hb M X r L h2).1 (hc M X t L h3).1 (qP (op:=o2) h4)).imp key,
    (zc7 (jU (uJ g L) o1) (jU (uJ g L) o2) (ha M X l L h1).1 (hb M X r L h2).1 (hc M X t L h3).1 (qP (op:=o2) h4)).imp fun τ H Q q=>key _ _ _ (cT m q),fun _ _ _ z=>nomatch z⟩
 |_=>exact absurd h zzN
theorem s_ch3 (o1 o2 o3:CmpOp) (a b c d:IE) (ha:jW Γ p a) (hb:jW Γ p b) (hc:jW Γ p c) (hd:jW Γ p d):jW Γ p (.ch3 o1 o2 o3 a b c d):=by
 intro M X x L h
 cases x with
 |Compare l os rs q =>
   obtain ⟨q1,q2,q3,r,t,t2,rfl,rfl⟩:=zga h;replace h:=bd8 h;simp only [decide_eq_true_eq] at h;obtain ⟨⟨⟨⟨⟨⟨⟨rfl,rfl⟩,rfl⟩,h1⟩,h2⟩,h3⟩,h4⟩,h5⟩:=h;have m:=zD g.mono XN (.ch3 o1 o2 o3 a b c d)
   have key:∀ τ H Q,yB X.K (zE Γ XN (.ch3 o1 o2 o3 a b c d)).e τ H Q->tCh3 (tI X.K (xI o1)) (tI X.K (xI o2)) (tI X.K (xI o3)) (yB X.K (zE Γ XN a).e) (yB X.K (zE Γ XN b).e) (yB X.K (zE Γ XN c).e) (yB X.K (zE Γ XN d).e) τ H Q:=fun τ H Q q=>by
    obtain ⟨σ,G,hs,ab,q⟩:=q;refine yE (zD g.mono XN a) hs ab q fun x G1 v H1 g1 hs1 rx a1 q=>?_;refine yE (zD g.mono XN b) hs1 a1 q fun y G2 u H2 g2 hs2 ry a2 q=>?_;refine ⟨x,y,G2,rx.mono g2,ry,a2,xZ o1 x y G2 _ _ (fun z G3 q v3 H3 g3 r3 a3=>?_) q⟩
    cases z with
    |bl k =>
     cases r3;refine ⟨k,rfl,?_⟩;have q:if k=true then _ else _:=q
     split
     .rename_i hk;rw [if_pos hk] at q;refine yE (zD g.mono XN c) (hs2.mono g3) a3 q fun w G4 v4 H4 g4 hs4 r4 a4 q=>?_;refine ⟨y,w,G4,(ry.mono g3).mono g4,r4,a4,xZ o2 y w G4 _ _ (fun z5 G5 q v5 H5 g5 r5 a5=>?_) q⟩
      cases z5 with
      |bl k2 =>
       cases r5;refine ⟨k2,rfl,?_⟩;have q:if k2=true then _ else _:=q
       split
       .rename_i hk2;rw [if_pos hk2] at q;refine yE (zD g.mono XN d) (hs4.mono g5) a5 q fun w6 G6 v6 H6 g6 hs6 r6 a6 q=>?_;exact ⟨w,w6,G6,(r4.mono g5).mono g6,r6,a6,xZ o3 w w6 G6 _ _ (fun w7 G7 q v7 H7 g7=>q v7 H7 (g1.trans (g2.trans (g3.trans (g4.trans (g5.trans (g6.trans g7))))))) q⟩
       .rename_i hk2;rw [if_neg hk2] at q;exact q _ H5 (g1.trans (g2.trans (g3.trans (g4.trans g5)))) rfl a5
      |_=>exact q.elim
     .rename_i hk;rw [if_neg hk] at q;exact q _ H3 (g1.trans (g2.trans g3)) rfl a3
    |_=>exact q.elim
   refine ⟨(zhS (jU (uJ g L) o1) (jU (uJ g L) o2) (jU (uJ g L) o3) (ha M X l L h1).1 (hb M X r L h2).1 (hc M X t L h3).1 (hd M X t2 L h4).1 (qP (op:=o3) h5)).imp key,
    (zhC (jU (uJ g L) o1) (jU (uJ g L) o2) (jU (uJ g L) o3) (ha M X l L h1).1 (hb M X r L h2).1 (hc M X t L h3).1 (hd M X t2 L h4).1 (qP (op:=o3) h5)).imp fun τ H Q q=>key _ _ _ (cT m q),fun _ _ _ z=>nomatch z⟩
 |_=>exact absurd h zzN
theorem s_and (a b:IE) (ha:jW Γ p a) (hb:jW Γ p b):jW Γ p (.and a b):=by
 intro M X x L h
 have e1:∀ τ H Q,yB X.K (zE Γ XN (.and a b)).e τ H Q->zhf (yB X.K (zE Γ XN a).e) (yB X.K (zE Γ XN b).e) τ H Q:=fun τ H Q q=>by
  obtain ⟨σ,G,hs,ab,q⟩:=q;refine yE (zD g.mono XN a) hs ab q fun w G1 v H1 g1 hs1 rx a1 q=>?_
  cases w with
  |bl k =>
   cases rx;refine ⟨k,rfl,?_⟩;have q:if k=true then _ else _:=q
   split
   .rename_i hk;rw [if_pos hk] at q;exact ⟨σ,G1,hs1,a1,zD g.mono XN b σ G1 _ _ (fun w G' q v' H' g'=>q v' H' (g1.trans g')) q⟩
   .rename_i hk;rw [if_neg hk] at q;exact q _ H1 g1 rfl a1
  |_=>exact q.elim
 have e2:∀ τ H Q,jH X.K (zE Γ XN (.and a b)).t τ H Q->tAnd (jH X.K (zE Γ XN a).t) (jH X.K (zE Γ XN b).t) τ H Q:=fun τ H Q q=>by
  obtain ⟨σ,G,hs,ab,q⟩:=q;refine uB (kG g.mono XN a) hs ab q fun k G1 H1 g1 hs1 a1 q=>?_
  split
  .rename_i hk;rw [if_pos hk] at q;exact ⟨σ,G1,hs1,a1,kG g.mono XN b σ G1 _ _ (fun w G' q H' g'=>q H' (g1.trans g')) q⟩
  .rename_i hk;rw [if_neg hk] at q;exact q H1 g1 a1
 cases x with
 |BoolOp o vs q =>
  match o,vs,h with
  | .And,[l,r],h =>
   replace h:=vY h;have A:=ha M X l L h.1;have B:=hb M X r L h.2;have W2:PW X (.BoolOp .And [l,r] q) (jH X.K (zE Γ XN (.and a b)).t):=(zep A.2.1 (zfs B.2.1)).imp e2;exact ⟨(zew A.1 (zev B.1)).imp e1,W2.pt,fun _ _ _ _=>W2⟩
  | .And,l::r::q'::rest,h =>
   replace h:=vY h;have A:=ha M X l L h.1;have B:=hb M X _ L h.2;have W2:PW X (.BoolOp .And (l::r::q'::rest) q) (jH X.K (zE Γ XN (.and a b)).t):=(zep A.2.1 (B.2.2 _ _ _ rfl)).imp e2;exact ⟨(zew A.1 B.1).imp e1,W2.pt,fun _ _ _ _=>W2⟩
 |_=>exact absurd h zzN
theorem s_or (a b:IE) (ha:jW Γ p a) (hb:jW Γ p b):jW Γ p (.or a b):=by
 intro M X x L h
 have e1:∀ τ H Q,yB X.K (zE Γ XN (.or a b)).e τ H Q->tOrV (yB X.K (zE Γ XN a).e) (yB X.K (zE Γ XN b).e) τ H Q:=fun τ H Q q=>by
  obtain ⟨σ,G,hs,ab,q⟩:=q;refine yE (zD g.mono XN a) hs ab q fun w G1 v H1 g1 hs1 rx a1 q=>?_
  cases w with
  |bl k =>
   cases rx;refine ⟨k,rfl,?_⟩;have q:if k=true then _ else _:=q
   split
   .rename_i hk;rw [if_pos hk] at q;exact q _ H1 g1 rfl a1
   .rename_i hk;rw [if_neg hk] at q;exact ⟨σ,G1,hs1,a1,zD g.mono XN b σ G1 _ _ (fun w G' q v' H' g'=>q v' H' (g1.trans g')) q⟩
  |_=>exact q.elim
 have e2:∀ τ H Q,jH X.K (zE Γ XN (.or a b)).t τ H Q->tOr (jH X.K (zE Γ XN a).t) (jH X.K (zE Γ XN b).t) τ H Q:=fun τ H Q q=>by
  obtain ⟨σ,G,hs,ab,q⟩:=q;refine uB (kG g.mono XN a) hs ab q fun k G1 H1 g1 hs1 a1 q=>?_
  split
  .rename_i hk;rw [if_pos hk] at q;exact q H1 g1 a1
  .rename_i hk;rw [if_neg hk] at q;exact ⟨σ,G1,hs1,a1,kG g.mono XN b σ G1 _ _ (fun w G' q H' g'=>q H' (g1.trans g')) q⟩
 cases x with
 |BoolOp o vs q =>
  match o,vs,h with
  | .Or,[l,r],h =>
   replace h:=vY h;have A:=ha M X l L h.1;have B:=hb M X r L h.2;have W2:PW X (.BoolOp .Or [l,r] q) (jH X.K (zE Γ XN (.or a b)).t):=(zhA A.2.1 (zhz B.2.1)).imp e2;exact ⟨(zhL A.1 (zev B.1)).imp e1,W2.pt,fun _ _ _ _=>W2⟩
  | .Or,l::r::q'::rest,h =>
   replace h:=vY h;have A:=ha M X l L h.1;have B:=hb M X _ L h.2;have W2:PW X (.BoolOp .Or (l::r::q'::rest) q) (jH X.K (zE Γ XN (.or a b)).t):=(zhA A.2.1 (B.2.2 _ _ _ rfl)).imp e2;exact ⟨(zhL A.1 B.1).imp e1,W2.pt,fun _ _ _ _=>W2⟩
 |_=>exact absurd h zzN
theorem s_ite (c a b:IE) (hc:jW Γ p c) (ha:jW Γ p a) (hb:jW Γ p b):jW Γ p (.ite c a b):=by
 intro M X x L h
 cases x with
 |IfExp t l r q =>
  replace h:=bd3 h;refine ⟨(zdh (hc M X t L h.1.1).2.1 (ha M X l L h.1.2).1 (hb M X r L h.2).1).imp fun τ H Q q=>?_,fun _ _ _ _ _ _ q=>?_,fun _ _ _ z=>nomatch z⟩
  .obtain ⟨σ,G,hs,ab,q⟩:=q;refine uB (kG g.mono XN c) hs ab q fun k G1 H1 g1 hs1 a1 q=>?_
   split
   .rename_i hk;rw [if_pos hk] at q;exact ⟨σ,G1,hs1,a1,zD g.mono XN a σ G1 _ _ (fun w G' q v' H' g'=>q v' H' (g1.trans g')) q⟩
   .rename_i hk;rw [if_neg hk] at q;exact ⟨σ,G1,hs1,a1,zD g.mono XN b σ G1 _ _ (fun w G' q v' H' g'=>q v' H' (g1.trans g')) q⟩
  .obtain ⟨_,_,_,_,z⟩:=q;exact z.elim
 |_=>exact absurd h zzN
theorem s_ix (a i:IE) (ha:jW Γ p a) (hb:jW Γ p i):jW Γ p (.ix a i):=by
 intro M X x L h
 cases x with
 |Subscript l r q =>
  replace h:=bd3 h;exact wN (M:=M) (zD g.mono XN (.ix a i)) ((pe_ix (ix_ok (uJ g L)) (ha M X l L h.1.1).1 (hb M X r L h.1.2).1 (zdd h.2)).imp fun τ H Q q=>dZ (zD g.mono XN a) (zD g.mono XN i) zae q) (fun _=>rfl) (fun _ _ _ z=>nomatch z)
 |_=>exact absurd h zzN
theorem s_sl (a:IE) (lo hi:IO) (ha:jW Γ p a) (hl:OkO Γ p lo) (hh:OkO Γ p hi):jW Γ p (.sl a lo hi):=by
  intro M X x L h
  cases x with
  |Subscript l r q =>
    cases r with
    |Slice y z sp q2 =>
     cases sp with
     |none =>
      replace h:=bd3 h;refine wN (M:=M) (zD g.mono XN (.sl a lo hi)) ((zdf sl_ok (ha M X l L h.1.1).1 ((hl M X L).1 y h.1.2) ((hh M X L).1 z h.2)).imp fun τ H Q q=>?_) (fun _=>rfl) (fun _ _ _ z=>nomatch z);obtain ⟨σ,G,hs,ab,q⟩:=q;refine yE (zD g.mono XN a) hs ab q fun w G1 v H1 g1 hs1 rx a1 q=>?_;refine ⟨σ,G1,hs1,a1,zh9 g.mono XN lo σ G1 _ _ (fun o G2 q H2 g2 a2=>?_) q⟩;refine ⟨σ,G2,hs1.mono g2,a2,zh9 g.mono XN hi σ G2 _ _ (fun o2 G3 q H3 g3 a3=>?_) q⟩;exact ⟨w,G3,(rx.mono g2).mono g3,a3,bT (fun w' G' q v' H' g'=>q v' H' (g1.trans (g2.trans (g3.trans g')))) q⟩
     |some _=>exact absurd h zzN
    |_=>exact absurd h zzN
  |_=>exact absurd h zzN
theorem s_tup (es:IEs) (hs:OkA Γ p es):jW Γ p (.tup es):=by
 intro M X x L h
 cases x with
 |Tuple xs k q =>
  skip
  refine wN (M:=M) (zD g.mono XN (.tup es)) ((zhK (hs M X xs L h).1).imp fun τ H Q q=>?_) (fun _=>rfl) (fun _ _ _ z=>nomatch z);obtain ⟨σ,G,hs',ab,q⟩:=q;refine kQ (wW g.mono XN es) hs' ab q fun ws G1 vs H1 g1 hs1 rs a1 q=>⟨by rw [rs.length];exact q.1,rT a1 rs fun v' H' g'=>q.2 v' H' (g1.trans g')⟩
 |_=>exact absurd h zzN
theorem s_lst (es:IEs) (hs:OkA Γ p es):jW Γ p (.lst es):=by
 intro M X x L h
 cases x with
 |List xs q =>
  skip
  refine wN (M:=M) (zD g.mono XN (.lst es)) ((zhO (hs M X xs L h).1).imp fun τ H Q q=>?_) (fun _=>rfl) (fun _ _ _ z=>nomatch z);obtain ⟨σ,G,hs',ab,q⟩:=q;refine kQ (wW g.mono XN es) hs' ab q fun ws G1 vs H1 g1 hs1 rs a1 q=>⟨by rw [rs.length];exact q.1,jD a1 rs fun r hr v' H' g'=>q.2 r hr v' H' (g1.trans g')⟩
 |_=>exact absurd h zzN
theorem pZ {Γ:Ctx3} {M:MC} {es:IEs} {xs:List Expr} (h:mA es M xs=true):xs=[]->∀ σ G Q,zV Γ XN es σ G Q->Q [] G:=by
 rintro rfl σ G Q q
 cases es with
 |nil=>exact q
 |cons _ _=>exact absurd h zzN
theorem zhq (f:Nat) (es:IEs) (hs:OkA Γ p es):jW Γ p (.call f es):=by
  intro M X x L h
  cases x with
  |Call fn xs kw q =>
    cases fn with
    |Name y qy =>
     cases kw with
     |nil =>
      replace h:=bd3 h;have gl:=uH L.sc h.1.2;have hi:=yD h.1.1;rw [← L.fns] at hi;obtain ⟨e,ei,rfl⟩:=jR hi;have A:=hs M X xs L h.2;refine wN (M:=M) (zD g.mono XN (.call f es)) ((g.fn e (xF ei) X L.fits gl.1 xs (zV Γ XN es) qy q (wW g.mono XN es) A.2.1 A.1 (pZ g h.2) gl.2.1 gl.2.2).imp fun τ H Q q=>?_) (fun _=>rfl) (fun _ _ _ z=>nomatch z);obtain ⟨σ,G,hs',ab,q⟩:=q;refine ⟨σ,G,hs',ab,wW g.mono XN es σ G _ _ (fun ws G1 q=>?_) q⟩;simp only [ei] at q;exact q
     |cons _ _=>exact absurd h zzN
    |_=>exact absurd h zzN
  |_=>exact absurd h zzN
theorem s_spc (i:Nat) (es:IEs) (hs:OkA Γ p es):jW Γ p (.spc i es):=by
 intro M X x L h;replace h:=vY h;replace h:=h.2
 split at h
 .rename_i m hm
  split at h
  .rename_i xs hx;rw [← L.sxs] at hm;obtain ⟨k,ek,rfl⟩:=jR hm;have A:=hs M X xs L h;have q:=g.sx k (xF ek) X L.fits x xs (semL Γ es) (by rw [L.sc];exact hx) A.2.2.2 A.2.1 (by rw [← kJ];exact A.1);refine wN (M:=M) (zD g.mono XN (.spc i es)) (q.1.imp fun τ H Q q=>?_) q.2.1 q.2.2;obtain ⟨σ,G,hs',ab,q⟩:=q;refine ⟨σ,G,hs',ab,?_⟩;rw [← kJ];refine wW g.mono XN es σ G _ _ (fun ws G1 q=>?_) q;simp only [ek] at q;exact q
  .exact absurd h zzN
 .exact absurd h zzN
theorem s_mth (m:Nat) (o:IE) (es:IEs) (ho:jW Γ p o) (hs:OkA Γ p es):jW Γ p (.mth m o es):=by
  intro M X x L h
  cases x with
  |Call fn xs kw q =>
    cases fn with
    |Attribute l y qy =>
     cases kw with
     |nil =>
      replace h:=bd6 h;simp only [decide_eq_true_eq] at h;have hi:=yD h.1.1.1.1.1;rw [← L.mts] at hi;obtain ⟨e,ei,rfl⟩:=jR hi;have A:=hs M X xs L h.2;have B:=ho M X l L h.1.2;refine wN (M:=M) (zD g.mono XN (.mth m o es)) ((g.mt e (xF ei) X L.fits l xs (zE Γ XN o).e (zV Γ XN es) qy q (zD g.mono XN o) (wW g.mono XN es) h.1.1.1.1.2 h.1.1.1.2 h.1.1.2 A.2.1 B.1 A.1 (pZ g h.2)).imp fun τ H Q q=>?_) (fun _=>rfl) (fun _ _ _ z=>nomatch z);obtain ⟨σ,G,hs',ab,q⟩:=q;refine ⟨σ,G,hs',ab,zD g.mono XN o σ G _ _ (fun w G1 q=>?_) q⟩;simp only [ei] at q;exact q
     |cons _ _=>exact absurd h zzN
    |_=>exact absurd h zzN
  |_=>exact absurd h zzN
theorem s_att (o:IE) (f:Str) (ho:jW Γ p o):jW Γ p (.att o f):=by
 intro M X x L h
 cases x with
 |Attribute l y q =>
  replace h:=bd3 h;simp only [beq_iff_eq] at h;obtain ⟨⟨rfl,h1⟩,h2⟩:=h;refine wN (M:=M) (zD g.mono XN (.att o y)) ((zhQ (ho M X l L h2).1 (kX h1)).imp fun τ H Q q=>?_) (fun _=>rfl) (fun _ _ _ z=>nomatch z);obtain ⟨σ,G,hs,ab,q⟩:=q;refine yE (zD g.mono XN o) hs ab q fun w G1 v H1 g1 hs1 rx a1 q=>?_
  cases w with
  |ref a =>
   cases rx;simp only [attR] at q
   split at q
   .rename_i C fs e;obtain ⟨⟨l,hl,hf⟩,q⟩:=q
    split at q
    .rename_i w' ew;obtain ⟨dx,fs',e',rk⟩:=a1.ins e;obtain ⟨v',ev,rv⟩:=pI rk ew;have c:=g.cl _ hl;exact ⟨a,C,dx,fs',v',rfl,e',by rw [L.fits.K];exact c.1,by rw [L.fits.K];exact c.2 y hf,ev,q _ H1 g1 rv a1⟩
    .exact q.elim
   .exact q.elim
  |_=>exact q.elim
 |_=>exact absurd h zzN
end
section
variable {Γ : Ctx3} {p : Par} (g : Good Γ p)
include g
theorem s_dct (ks:List Str) (es:IEs) (hs:OkA Γ p es):jW Γ p (.dct ks es):=by
 intro M X x L h
 cases x with
 |Dict keys xs q =>
  replace h:=bd5 h;simp only [decide_eq_true_eq,Bool.not_eq_true'] at h;obtain ⟨⟨⟨⟨h1,h2⟩,h3⟩,h4⟩,h5⟩:=h;obtain ⟨all,ek,trs,pp,low⟩:=(hs M X xs L h2).2.2.1 ks keys q h1 h3
  have h0:keys≠[]:=by
   intro z;rw [z] at ek
   cases ks with
   |nil=>cases h5
   |cons _ _=>cases ek
  refine wN (M:=M) (zD g.mono XN (.dct ks es)) ((zfG pp all h3 h0 h4).imp fun τ H Q q=>?_) (fun _=>rfl) (fun _ _ _ z=>nomatch z);intro a ha;obtain ⟨σ,G,hs',ab,q⟩:=q;have gr:yV X.K H (yT H a (.dK [])):=yF ha;refine low τ _ _ ⟨σ,put G a (.dic []),hs'.mono gr,ab.new ha ⟨[],rfl,rfl⟩,wW g.mono XN es σ _ _ _ (fun ws G1 q vs H1 g1 rs a1=>?_) (q a (ab.free ha))⟩;obtain ⟨q1,q2,q3⟩:=q;obtain ⟨l,e,rl⟩:=a1.dic q1
  have el:l=[]:=by
   cases l with
   |nil=>rfl
   |cons _ _=>cases rl
  subst el;refine ⟨e,(ks.zip vs).map (fun kv=>((Sum.inr kv.1:yH),kv.2)),by rw [List.map_map];rfl,?_,?_⟩
  .rw [zzM,List.length_zip];omega
  .have gr2:yV X.K H1 (yT H1 a (.dK (tJ [] ((ks.zip vs).map fun kv=>((Sum.inr kv.1:yH),kv.2))))):=a1.grow q1;exact q3 _ _ (gr.trans (g1.trans gr2)) rfl (a1.chg q1 ⟨_,rfl,zcd ks (rs.mono gr2) rfl⟩)
 |_=>exact absurd h zzN
theorem hJ (tg:ITg) (names:List Str) (caps:List Nat) (it:II) (c:IO) (elt:IE) (hi:OkI Γ p it) (hc:OkO Γ p c) (he:jW Γ p elt) {M:MC} {X:Cx} (L:Lk Γ M p X) {x t ix:Expr} {ifs:List Expr} {sc:Scope}
  (h:(blkB M.sc sc&&vN ix&&pT (names++caps.map (fun j=>M.N.getD j Str.empty))&&(caps.all fun j=>decide (j<M.N.length)&&(sc.names.lookup (M.N.getD j Str.empty)==some .free)) &&
    mI it M ix&&((tgIx tg).all fun i=>decide (i<names.length))&&mG { M with sc:=relS sc M.sc,N:=names++caps.map (fun j=>M.N.getD j Str.empty),own:=fun x=>sc.names.lookup x==some .cell } tg t&&mC c { M with sc:=relS sc M.sc,N:=names++caps.map (fun j=>M.N.getD j Str.empty),own:=fun x=>sc.names.lookup x==some .cell } ifs&&mE elt { M with sc:=relS sc M.sc,N:=names++caps.map (fun j=>M.N.getD j Str.empty),own:=fun x=>sc.names.lookup x==some .cell } x)=true) :
  PI X t ix (lowI X.K (zS Γ XN it))/\BlkSc X sc/\Caps X sc (names++caps.map (fun j=>M.N.getD j Str.empty)) (capV names.length caps) /\
  (∀ X',IsBlock X (names++caps.map (fun j=>M.N.getD j Str.empty)) sc X'->PG X' t (lowG X.K (zU tg)))/\(∀ X',IsBlock X (names++caps.map (fun j=>M.N.getD j Str.empty)) sc X'->PTs X' ifs (jH X.K (zN Γ c))) /\
  (∀ X',IsBlock X (names++caps.map (fun j=>M.N.getD j Str.empty)) sc X'->PE X' x (yB X.K (zE Γ XN elt).e))/\(∀ y,foldedSetIterable ix X.env y=pure y) /\
  ∀ τ H Q,yB X.K (zE Γ XN (.lc tg names caps it c elt)).e τ H Q->tLC (lowI X.K (zS Γ XN it)) (capV names.length caps) (lowG X.K (zU tg)) (jH X.K (zN Γ c)) (yB X.K (zE Γ XN elt).e) τ H Q:=by
 simp only [Bool.and_eq_true] at h;obtain ⟨⟨⟨⟨⟨⟨⟨⟨h1,h2⟩,h3⟩,h4⟩,h5⟩,h6⟩,h7⟩,h8⟩,h9⟩:=h
 have lk:∀ X',IsBlock X (names++caps.map (fun j=>M.N.getD j Str.empty)) sc X'->Lk Γ { M with sc:=relS sc M.sc,N:=names++caps.map (fun j=>M.N.getD j Str.empty),own:=fun x=>sc.names.lookup x==some .cell } p X':=fun X' b =>
  ⟨⟨b.prog.trans L.fits.prog,b.w.trans L.fits.w,b.K.trans L.fits.K,b.mg.trans L.fits.mg,b.base.trans L.fits.base,b.A.trans L.fits.A,b.calm.trans L.fits.calm,b.xe⟩,b.N,b.scope.trans (zfp L.sc),bC h3,(fun x z=>b.fn x (eq_of_beq z)),(zeS L.sc h1).kind,L.fns,L.gls,L.mts,L.its,L.sxs,L.ixs⟩
 refine ⟨hi M X ix L h5 t,zeS L.sc h1,zcn L.N L.sc h4,fun X' b=>?_,fun X' b=>?_,fun X' b=>?_,sZ h2,fun τ H Q q=>?_⟩
 .rw [← b.K];exact sndG (lk X' b) tg t h7
 .rw [← b.K];exact (hc _ X' (lk X' b)).2 ifs h8
 .rw [← b.K];exact (he _ X' x (lk X' b) h9).1
 .obtain ⟨σ,G,hs,ab,q⟩:=q;refine ⟨σ,G,hs,ab,zfQ g.mono XN it σ G _ _ (fun items stab G1 q J H1 g1 a1 ii=>?_) q⟩;refine zig (monoC g.mono c) (zD g.mono XN elt) ii a1 (zgK (hs.mono g1) names.length caps) g1 (fun w G' Q' z=>?_) q;refine uM tg w _ G' _ _ (fun σ2 G2 z=>⟨⟨z.2.1,fun i v e=>?_⟩,z.2.2⟩) (bS tg w _ G' _ (zba tg w _ G' _ z));have hk:=(cW e).1;rw [z.1 i (zfR h6 hk)];exact e
theorem s_lc (tg:ITg) (names:List Str) (caps:List Nat) (it:II) (c:IO) (elt:IE) (hi:OkI Γ p it) (hc:OkO Γ p c) (he:jW Γ p elt):jW Γ p (.lc tg names caps it c elt):=by
 intro M X x L h
 cases x with
 |ListComp x gens sc q =>
  match gens,h with
  | [⟨t,ix,ifs,asy⟩],h =>
   have h':=h;replace h:=bd10 h;obtain ⟨⟨⟨⟨⟨⟨⟨⟨⟨h0,h1⟩,h2⟩,h3⟩,h4⟩,h5⟩,h6⟩,h7⟩,h8⟩,h9⟩:=h;replace h0:=of_decide_eq_true h0;subst h0;obtain ⟨c1,c2,c3,c4,c5,c6,c7,c8⟩:=hJ g tg names caps it c elt hi hc he L (x:=x) (t:=t) (ix:=ix) (ifs:=ifs) (sc:=sc) (by simp only [Bool.and_eq_true];exact ⟨⟨⟨⟨⟨⟨⟨⟨h1,h2⟩,h3⟩,h4⟩,h5⟩,h6⟩,h7⟩,h8⟩,h9⟩);exact wN (M:=M) (zD g.mono XN (.lc tg names caps it c elt)) ((pe_lc L.fits.calm c1 c2 c3 c4 c5 c6 c7).imp c8) (fun _=>rfl) (fun _ _ _ z=>nomatch z)
 |_=>exact absurd h zzN
theorem s_no:OkO Γ p .no:=by
 intro M X L;refine ⟨fun x h=>?_,fun xs h=>?_⟩
 .cases x with
  |none=>exact zfB.imp fun τ H Q q=>by obtain ⟨σ,G,hs,ab,q⟩:=q;exact q H .refl ab
  |some _=>exact absurd h zzN
 .cases xs with
  |nil=>exact zfu.imp fun τ H Q q=>by obtain ⟨σ,G,hs,ab,q⟩:=q;exact q H .refl ab
  |cons _ _=>exact absurd h zzN
theorem zhn (e:IE) (he:jW Γ p e):OkO Γ p (.yes e):=by
 intro M X L;refine ⟨fun x h=>?_,fun xs h=>?_⟩
 .cases x with
  |none=>exact absurd h zzN
  |some x =>
   skip
   refine (zfA (he M X x L h).1).imp fun τ H Q q=>?_;obtain ⟨σ,G,hs,ab,q⟩:=q;refine yE (zD g.mono XN e) hs ab q fun w G1 v H1 g1 hs1 rx a1 q=>?_
   cases w with
   |int i=>cases rx;exact ⟨i,rfl,q H1 g1 a1⟩
   |_=>exact q.elim
 .match xs,h with
  | [x],h=>exact zft (he M X x L (by simpa only [mC] using h)).2.1
theorem zhp:OkA Γ p .nil:=by
 intro M X xs L h
 cases xs with
 |cons _ _=>exact absurd h zzN
 |nil =>
  refine ⟨zhU.imp fun τ H Q q=>by obtain ⟨σ,G,hs,ab,q⟩:=q;exact q [] H .refl rfl ab,rfl,fun ks keys pos hk hl=>?_,trivial⟩
  cases keys with
  |cons _ _=>cases hl
  |nil =>
   cases ks with
   |cons _ _=>cases hk
   |nil =>
    refine ⟨rfl,rfl,[],zfy,fun τ H Q q=>?_⟩;obtain ⟨σ,G,hs,ab,q⟩:=q;exact q [] H .refl rfl ab
theorem zel (e:IE) (es:IEs) (he:jW Γ p e) (hs:OkA Γ p es):OkA Γ p (.cons e es):=by
  intro M X xs L h
  cases xs with
  |nil=>exact absurd h zzN
  |cons x xs =>
    simp only [mA,Bool.and_eq_true] at h;obtain ⟨⟨h1,h2⟩,h3⟩:=h;have A:=he M X x L h2;have B:=hs M X xs L h3;refine ⟨(zfK A.1 B.1 (jF h1)).imp fun τ H Q q=>?_,by rw [List.all_cons,h1,B.2.1];rfl,fun ks keys pos hk hl=>?_,⟨zD g.mono XN e,A.1,B.2.2.2⟩⟩
    . obtain ⟨σ,G,hs',ab,q⟩:=q
      refine yE (zD g.mono XN e) hs' ab q fun w G1 v H1 g1 hs1 rx a1 q=>?_;refine kQ (wW g.mono XN es) hs1 a1 q fun ws G2 vs H2 g2 hs2 rs a2 q=>?_;exact q _ H2 (g1.trans g2) ⟨v,vs,rfl,rx.mono g2,rs⟩ a2
    . cases ks with
      |nil =>
        cases keys with
        |nil=>simp at hl
        |cons _ _=>simp [keyB] at hk
      |cons k ks =>
       cases keys with
       |nil=>cases hk
       |cons ko keys =>
        obtain ⟨y,ky,qy,rfl⟩:∃ y ky qy,ko=some (.Constant (.str y) ky qy):=by
          cases ko with
          |none=>cases hk
          |some ke =>
            cases ke with
            |Constant c ky qy =>
              cases c with
              |str y=>exact ⟨y,ky,qy,rfl⟩
              |_=>cases hk
            |_=>cases hk
        simp only [keyB,Bool.and_eq_true,beq_iff_eq] at hk;obtain ⟨rfl,hk⟩:=hk;obtain ⟨all,ek,trs,pp,low⟩:=B.2.2.1 ks keys pos hk (by simpa using hl);refine ⟨by simpa using all,by simpa using ek,(tC (.str k),yB X.K (zE Γ XN e).e)::trs,zdc zeu A.1 pp,fun τ H Q q=>?_⟩;obtain ⟨σ,G,hs',ab,q⟩:=q;show yB X.K (zE Γ XN e).e τ H _;refine yE (zD g.mono XN e) hs' ab q fun w G1 v H1 g1 hs1 rx a1 q=>?_;refine low τ H1 _ ⟨σ,G1,hs1,a1,wW g.mono XN es σ G1 _ _ (fun ws G2 q vs H2 g2 rs a2=>?_) q⟩;exact q (v::vs) H2 (g1.trans g2) ⟨v,vs,rfl,rx.mono g2,rs⟩ a2
theorem zho (e:IE) (he:jW Γ p e):OkI Γ p (.val e):=fun M X x L h tg=>zhJ (zD g.mono XN e) (he M X x L h).1
theorem zhr (i:Nat) (es:IEs) (hs:OkA Γ p es):OkI Γ p (.blt i es):=by
  intro M X x L h tg
  cases x with
  |Call fn xs kw q =>
    cases fn with
    |Name y qy =>
     cases kw with
     |nil =>
      replace h:=bd3 h;have gl:=uH L.sc h.1.2;have hi:=yD h.1.1;rw [← L.its] at hi;obtain ⟨e,ei,rfl⟩:=jR hi;have A:=hs M X xs L h.2;refine (g.it e (xF ei) X L.fits gl.1 tg xs (zV Γ XN es) qy q (wW g.mono XN es) A.2.1 A.1 (pZ g h.2) gl.2.1 gl.2.2).imp fun τ H R q=>?_;obtain ⟨σ,G,hs',ab,q⟩:=q;refine ⟨σ,G,hs',ab,wW g.mono XN es σ G _ _ (fun ws G1 q=>?_) q⟩;simp only [ei] at q;exact q
     |cons _ _=>exact absurd h zzN
    |_=>exact absurd h zzN
  |_=>exact absurd h zzN
theorem zek (i:Nat) (es:IEs) (hs:OkA Γ p es):OkI Γ p (.spc i es):=by
 intro M X x L h tg;simp only [mI] at h
 split at h
 .rename_i m hm
  split at h
  .rename_i xs hx;rw [← L.ixs] at hm;obtain ⟨k,ek,rfl⟩:=jR hm;have A:=hs M X xs L h;refine (g.ix k (xF ek) X L.fits tg x xs (semL Γ es) (by rw [L.sc];exact hx) A.2.2.2 A.2.1 (by rw [← kJ];exact A.1)).imp fun τ H R q=>?_;obtain ⟨σ,G,hs',ab,q⟩:=q;refine ⟨σ,G,hs',ab,?_⟩;rw [← kJ];refine wW g.mono XN es σ G _ _ (fun ws G1 q=>?_) q;simp only [ek] at q;exact q
  .exact absurd h zzN
 .exact absurd h zzN
theorem qL (e:IE):jW Γ p e :=
 IE.rec (motive_1:=jW Γ p) (motive_2:=OkO Γ p) (motive_3:=OkA Γ p) (motive_4:=OkI Γ p) (motive_5:=fun _=>True) (motive_6:=fun _=>True)
  (s_var g) (s_con g) (s_glb g) (s_bin g) (s_neg g) (s_not g) (s_cmp g) (s_chn g) (s_and g) (s_or g) (s_ite g) (s_ix g) (s_sl g) (s_tup g) (s_lst g) (s_dct g) (zhq g) (s_mth g) (s_att g)
  (fun tg names caps it c elt _ hi hc he=>s_lc g tg names caps it c elt hi hc he) (s_spc g) (s_ch3 g) (s_no g) (zhn g) (zhp g) (zel g) (zho g) (zhr g) (zek g) (fun _=>trivial) (fun _ _=>trivial) trivial (fun _ _ _ _=>trivial) e
theorem sndA (es:IEs):OkA Γ p es:=match es with
 | .nil=>zhp g
 | .cons e es=>zel g e es (qL g e) (sndA es)
theorem sndI (it:II):OkI Γ p it:=match it with
 | .val e=>zho g e (qL g e)
 | .blt i es=>zhr g i es (sndA g es)
 | .spc i es=>zek g i es (sndA g es)
theorem sndO (o:IO):OkO Γ p o:=match o with
 | .no=>s_no g
 | .yes e=>zhn g e (qL g e)
end
end L3
namespace L3
open PySem PySem.Spec PyProof.Rows L2
theorem zgc {i:Nat} {a:IE} {M:MC} {x:Stmt} (h:mS (.asg i a) M x=true):∃ y py v q,x=.Assign [.Name y py] v q/\(M.N[i]?==some y)=true/\mP M y=true/\mE a M v=true:=by
 cases x with
 |Assign ts v q =>
  cases ts with
  |nil=>exact absurd h zzN
  |cons t r =>
   cases r with
   |cons _ _=>cases t<;>exact absurd h zzN
   |nil =>
    cases t with
    |Name y py =>
     replace h:=bd3 h;exact ⟨y,py,v,q,rfl,h.1.1,h.1.2,h.2⟩
    |_=>exact absurd h zzN
 |_=>exact absurd h zzN
theorem zdE {ts:ITgs} {a:IE} {M:MC} {x:Stmt} (h:mS (.asgT ts a) M x=true):∃ es k qt v q,x=.Assign [.Tuple es k qt] v q/\uN v=true/\zdn v=true/\mGs M ts es=true/\mE a M v=true:=by
 cases x with
 |Assign ts v q =>
  cases ts with
  |nil=>exact absurd h zzN
  |cons t r =>
   cases r with
   |cons _ _=>cases t<;>exact absurd h zzN
   |nil =>
    cases t with
    |Tuple es k qt =>
     replace h:=bd4 h;exact ⟨es,k,qt,v,q,rfl,h.1.1.1,h.1.1.2,h.1.2,h.2⟩
    |_=>exact absurd h zzN
 |_=>exact absurd h zzN
theorem zdF {i j:Nat} {a:IE} {M:MC} {x:Stmt} (h:mS (.asgS i j a) M x=true):∃ t v q,x=.Assign [t] v q/\uN v=true/\zdn v=true/\zcO M i j t=true/\mE a M v=true:=by
 cases x with
 |Assign ts v q =>
  cases ts with
  |nil=>exact absurd h zzN
  |cons t r =>
   cases r with
   |cons _ _=>exact absurd h zzN
   |nil =>
    replace h:=bd4 h;exact ⟨t,v,q,rfl,h.1.1.1,h.1.1.2,h.1.2,h.2⟩
 |_=>exact absurd h zzN
theorem zfj {M:MC} {i j:Nat} {t:Expr} (h:zcO M i j t=true):∃ x px y py p2 k q,t=.Tuple [.Name x px,.Starred (.Name y py) p2] k q/\((M.N[i]?==some x)=true/\mP M x=true)/\((M.N[j]?==some y)=true/\mP M y=true):=by
 unfold zcO at h
 split at h
 .exact ⟨_,_,_,_,_,_,_,rfl,vY (vY h).1,vY (vY h).2⟩
 .exact absurd h zzN
theorem zdG {o i a:IE} {M:MC} {x:Stmt} (h:mS (.asgI o i a) M x=true):∃ l r qs v q,x=.Assign [.Subscript l r qs] v q/\uN v=true/\rV r=true/\mE o M l=true/\mE i M r=true/\mE a M v=true:=by
 cases x with
 |Assign ts v q =>
  cases ts with
  |nil=>exact absurd h zzN
  |cons t r =>
   cases r with
   |cons _ _=>cases t<;>exact absurd h zzN
   |nil =>
    cases t with
    |Subscript l r qs =>
     replace h:=bd5 h;exact ⟨l,r,qs,v,q,rfl,h.1.1.1.1,h.1.1.1.2,h.1.1.2,h.1.2,h.2⟩
    |_=>exact absurd h zzN
 |_=>exact absurd h zzN
theorem zdH {o a:IE} {f:Str} {M:MC} {x:Stmt} (h:mS (.asgA o f a) M x=true):∃ l qs v q,x=.Assign [.Attribute l f qs] v q/\uN v=true/\mE o M l=true/\mE a M v=true:=by
 cases x with
 |Assign ts v q =>
  cases ts with
  |nil=>exact absurd h zzN
  |cons t r =>
   cases r with
   |cons _ _=>cases t<;>exact absurd h zzN
   |nil =>
    cases t with
    |Attribute l y qs =>
     replace h:=bd4 h;simp only [beq_iff_eq] at h;obtain ⟨⟨⟨rfl,h2⟩,h3⟩,h4⟩:=h;exact ⟨l,qs,v,q,rfl,h2,h3,h4⟩
    |_=>exact absurd h zzN
 |_=>exact absurd h zzN
theorem ziG {a:IE} {M:MC} {x:Stmt} (h:mS (.ex a) M x=true):∃ v q,x=.Expr v q/\uN v=true/\mE a M v=true:=by
 cases x with
 |Expr v q =>
  replace h:=vY h;exact ⟨v,q,rfl,h.1,h.2⟩
 |_=>exact absurd h zzN
theorem zf3 {a:IE} {M:MC} {x:Stmt} (h:mS (.ret a) M x=true):∃ v q,x=.Return (some v) q/\mE a M v=true:=by
 cases x with
 |Return v q =>
  cases v with
  |none=>exact absurd h zzN
  |some v=>exact ⟨v,q,rfl,h⟩
 |_=>exact absurd h zzN
theorem zdB {M:MC} {x:Stmt} (h:mS .retN M x=true):∃ q,x=.Return none q:=by
 cases x with
 |Return v q =>
  cases v with
  |none=>exact ⟨q,rfl⟩
  |some v=>exact absurd h zzN
 |_=>exact absurd h zzN
theorem zdC {M:MC} {x:Stmt} (h:mS .pass M x=true):∃ q,x=.Pass q:=by
 cases x with
 |Pass q=>exact ⟨q,rfl⟩
 |_=>exact absurd h zzN
theorem zgb {M:MC} {x:Stmt} (h:mS .brk M x=true):∃ q,x=.Break q:=by
 cases x with
 |Break q=>exact ⟨q,rfl⟩
 |_=>exact absurd h zzN
theorem zf7 {M:MC} {x:Stmt} (h:mS .cnt M x=true):∃ q,x=.Continue q:=by
 cases x with
 |Continue q=>exact ⟨q,rfl⟩
 |_=>exact absurd h zzN
theorem zf5 {c:IE} {a b:ISs} {M:MC} {x:Stmt} (h:mS (.ite c a b) M x=true):∃ t y z q,x=.If t y z q/\mE c M t=true/\sQ a M y=true/\sQ b M z=true:=by
 cases x with
 |If t y z q =>
  replace h:=bd3 h;exact ⟨t,y,z,q,rfl,h.1.1,h.1.2,h.2⟩
 |_=>exact absurd h zzN
theorem zf2 {c:IE} {b:ISs} {M:MC} {x:Stmt} (h:mS (.whl c b) M x=true):∃ t y q,x=.While t y [] q/\mE c M t=true/\sQ b M y=true:=by
 cases x with
 |While t y z q =>
  cases z with
  |nil =>
   replace h:=vY h;exact ⟨t,y,q,rfl,h.1,h.2⟩
  |cons _ _=>exact absurd h zzN
 |_=>exact absurd h zzN
theorem zf6 {tg:ITg} {it:II} {b:ISs} {M:MC} {x:Stmt} (h:mS (.for tg it b) M x=true):∃ t y z q,x=.For t y z [] q/\vN y=true/\mG M tg t=true/\mI it M y=true/\sQ b M z=true:=by
 cases x with
 |For t y z e q =>
  cases e with
  |nil =>
   replace h:=bd4 h;exact ⟨t,y,z,q,rfl,h.1.1.1,h.1.1.2,h.1.2,h.2⟩
  |cons _ _=>exact absurd h zzN
 |_=>exact absurd h zzN
theorem zf4 {M:MC} {x:List Stmt} (h:sQ .nil M x=true):x=[]:=by
 cases x with
 |nil=>rfl
 |cons _ _=>exact absurd h zzN
theorem zdD {s:IS} {ss:ISs} {M:MC} {x:List Stmt} (h:sQ (.cons s ss) M x=true):∃ y ys,x=y::ys/\mS s M y=true/\sQ ss M ys=true:=by
 cases x with
 |nil=>exact absurd h zzN
 |cons y ys =>
  replace h:=vY h;exact ⟨y,ys,rfl,h.1,h.2⟩
end L3
namespace L2
open PySem PySem.Spec PyProof.Rows
theorem alive {P:Program} {w:World} {H:Hp} {h:Heap} {a:Addr} {o:HO} (x:xU P w H h a o):∃ u,h.get? a=some u:=by
 cases o with
 |lst _=>obtain ⟨_,_,_,_,e⟩:=x;exact ⟨_,e⟩
 |tup _=>obtain ⟨_,_,_,u,e,_⟩:=x;exact ⟨u,e⟩
 |dK _=>obtain ⟨_,_,_,_,u,_,_,e,_⟩:=x;exact ⟨u,e⟩
 |dT _=>obtain ⟨_,_,_,_,u,_,_,e,_⟩:=x;exact ⟨u,e⟩
 |set _ _=>obtain ⟨u,_,_,_,e,_⟩:=x;exact ⟨u,e⟩
 |ins _ _ _=>exact ⟨_,x.2.2.2.1⟩
 |own _=>exact x
 |xd _=>obtain ⟨_,⟨u,_,_,e,_⟩,_⟩:=x;exact ⟨u,e⟩
 |rng _ _=>obtain ⟨_,_,_,e⟩:=x;exact ⟨_,e⟩
 |frz _ _=>exact ⟨_,x.1⟩
 |tbl _=>exact ⟨_,x⟩
 |met _ _=>exact ⟨_,x⟩
 |ext _=>exact x.2.1
def zbn (h:Heap) (L:Addr):List (Addr×Obj):=(List.range h.objs.size).filterMap fun b=>if b=L then none else (h.get? b).map fun o=>(b,o)
theorem vD {h:Heap} {L b:Addr} {o:Obj}:(b,o)∈zbn h L↔b≠L/\h.get? b=some o:=by
 unfold zbn;rw [List.mem_filterMap]
 constructor
 .rintro ⟨c,_,e⟩
  split at e
  .cases e
  .rename_i hc;obtain ⟨o',e1,e2⟩:=Option.map_eq_some_iff.mp e;cases e2;exact ⟨hc,e1⟩
 .rintro ⟨hb,e⟩;exact ⟨b,List.mem_range.mpr (Heap.lt_size e),by rw [if_neg hb,e];rfl⟩
section
variable {X : Cx} {pos : Pos}
def gStar (K:PySem.W.Frag) (t:TGs):TG:=fun v σ H Q=>∃ a x xs,v=.ref a/\tV K H a (x::xs)/\xs.length<=1000/\∀ D,H D=none->t [x,.ref D] σ (yT H D (.lst xs)) Q
theorem zfC {e1 e2:Expr} {k:Nat} {p2:Pos} {t:TGs} (hc:X.calm=true) (h:PGs X [e1,e2] t) (h1:assignEach [e1,.Starred e2 p2] X.env=[(false,assign e1 X.env),(true,assign e2 X.env)])
  (h2:assignEach [e1,e2] X.env=[(false,assign e1 X.env),(false,assign e2 X.env)]):PG X (.Tuple [e1,.Starred e2 p2] k pos) (gStar X.K t):=by
 intro pins s σ H v u Q I r hw;obtain ⟨a,x,xs,e,hq,hl,hw⟩:=hw;subst e;cases r;obtain ⟨its,rv,ht,hz⟩:=I.tuple hq
 cases rv with
 | @cons _ u _ us r0 rs =>
 have hus:us.length=xs.length:=rs.length.symm;obtain ⟨m,hn,_⟩:=id I.loc;have F:Fr (default:Heap) X.env.locals s.heap m:=⟨hn,fun b o e=>(by cases e),Nat.zero_le _⟩
 have N:News (default:Heap) X.env.locals s.heap (zbn s.heap X.env.locals):=fun p hp=>by
  obtain ⟨b,o⟩:=p;have:=vD.mp hp;exact ⟨this.2,this.1,rfl⟩
 rw [assign_Tuple];refine wpAny_bind (wpAny_standAt ?_);unfold unpack;rw [show (assignEach [e1,.Starred e2 p2] X.env).length=2 by rw [h1];rfl,show (assignEach [e1,.Starred e2 p2] X.env).findIdx? (·.1)=some 1 by rw [h1];rfl];refine wpAny_bind (wpAny_holding (wF I.tk (PySem.W.kun_starT (n:=2) (i:=1) (first:=[u]) (mids:=us) (lasts:=[]) F N ht (I.ok.hd hc) (by decide) (by simp) (by simp;omega) (by simp) (by simp) (by simp) fun D h' tk F' N' lt h0=>?_)));have get:∀ b o,b≠X.env.locals->s.heap.get? b=some o->h'.get? b=some o:=fun b o hb e=>(N' (b,o) (List.mem_cons_of_mem _ (vD.mpr ⟨hb,e⟩))).1;obtain ⟨hD,nD,_⟩:=N' (D,{ cls:=.type "list", data:=.seq us.toArray 0 }) zzT
 have no:s.heap.get? D=none:=by
  cases q:s.heap.get? D with
  |none=>rfl
  |some o=>exact absurd (lt (D,o) (vD.mpr ⟨nD,q⟩)) (Nat.lt_irrefl _)
 have HD:H D=none:=by
  cases q:H D with
  |none=>rfl
  |some o=>obtain ⟨u',e'⟩:=alive (I.hok D o q);rw [no] at e';cases e'
 have nl:∀ b o,H b=some o->b≠X.env.locals:=fun b o e z=>by rw [z,I.free] at e;cases e
 have ne:∀ b o,H b=some o->b≠D:=fun b o e=>yS e HD
 have hok:kK X.prog X.w (yT H D (.lst xs)) h':=fun b o e=>by
  by_cases hb:b=D
  .subst hb;rw [yY] at e;cases e;exact ⟨by rw [sizeLine_eq];omega,us,0,rs,hD⟩
  .rw [zW hb] at e;refine (I.hok b o e).stay (fun c v hc q=>get c v ?_ q) (fun c q=>by rw [zW (ne c _ q)];exact q) fun c ys q=>by rw [zW (ne c _ q)];exact q
   rcases hc with z|z
   .rw [z];exact nl b o e
   .exact nl c _ z
 have I1:Inv X pins σ (yT H D (.lst xs)) { s with heap:=h',toks:=tk } :=
  I.step (g':=s.gens) (d':=s.drawn) (ch:=[]) (fun _ z=>nomatch z) (fun b o hb _ _ e _=>get b o hb e) (fun b o hb _ _ e _=>⟨o.slots,get b o hb e⟩)
   (fun b o _ e n=>by rw [zW (fun z=>by rw [z,no] at e;cases e)];exact n)
   (fun b o _ e=>by
    by_cases hb:b=X.env.locals
    .obtain ⟨o',_,_,q,_⟩:=F'.ns;exact ⟨o',by rw [hb];exact q⟩
    .exact ⟨o,get b o hb e⟩)
   (fun b ys e=>by rw [zW (ne b _ e)];exact e) (fun b o u e=>by rw [zW (ne b _ e)];exact e) (fun b ps e=>⟨#[],by rw [zW (ne b _ e),e];simp⟩)
   (fun m' hm=>by rw [hm.eq_nsMap,← hn.eq_nsMap];exact F'.ns) hok I.bare
 have:=h pins _ σ _ [x,.ref D] [u,.ref D] Q I1 (.cons r0 (.cons rfl .nil)) (hw D HD);rw [h2] at this;rw [h1];exact this
end
end L2
namespace L2
open PySem PySem.Spec PyProof.Rows
section
variable {prog : Program} {w : World} {A : Around} {E : Value → Shared → Prop} {s : Shared}
theorem zal {it l:Addr} {xs:Array Value} (ne:l≠it):∀ (n i:Nat) (s:Shared) (Q:List Value->Shared->Prop),s.heap.IsListIter it l i->s.heap.IsList l xs->i+n<=xs.size ->
  (∀ h',h'.IsListIter it l (i+n)->Heap.SameBut it s.heap h'->Q ((xs.toList.drop i).take n) { s with heap:=h' })->wpAny (model prog w) A (draw (.ref it) n) Q E s
 | 0,i,s,Q,a,_,_,q=>by
  show wpAny _ _ (pure []) Q E s;exact wpAny_pure (by simpa using q s.heap a (Heap.SameBut.refl ..))
 |n+1,i,s,Q,a,b,le,q=>by
  have lt:i<xs.size:=by omega
  show wpAny _ _ (pyNext (.ref it) >>= _) Q E s;refine wpAny_bind (wpAny_pyNext_list_item a b (x:=xs[i]) (by simp [lt]) fun h1 a1 s1=>?_);refine wpAny_bind (wpAny_holding (zal ne n (i+1) _ _ a1 (b.extBut s1.extBut ne) (by omega) fun h2 a2 s2=>wpAny_pure ?_));have e:xs.toList.drop i=xs[i]::xs.toList.drop (i+1):=by simp [List.drop_eq_getElem_cons,lt]
  have z:=q h2 (by rw [show i+(n+1)=i+1+n by omega];exact a2) (s1.trans s2);rw [e,List.take_succ_cons] at z;exact z
theorem zar {l:Addr} {xs:Array Value} {ts:List (Bool×(Value->Sem Unit))} {Q:Unit->Shared->Prop} (hh:A.handled=none) (hl:s.heap.IsList l xs) (hn:ts.length=xs.size) (hs:ts.findIdx? (·.1)=none)
  (h:∀ h',Heap.ExtBut s.heap.objs.size s.heap h'->wpAny (model prog w) A (assignInOrder (ts.map (·.2)) xs.toList) Q E { s with heap:=h' }):wpAny (model prog w) A (unpack (.ref l) ts) Q E s:=by
 have ne:l≠s.heap.objs.size:=by obtain ⟨o,ho,_⟩:=hl;exact Nat.ne_of_lt (Heap.lt_size ho)
 unfold unpack;rw [hn,hs];refine wpAny_bind (wpAny_holding ?_);unfold unpackItems;refine wpAny_bind ?_;unfold notIterableAtAll;refine wpAny_bind (wpAny_specialOf hl.typeIs slot_list_iter.lookup (wpAny_pure ?_));simp only [zzB,if_false];refine wpAny_bind (wpAny_holding (wpAny_pyIter_list hl ?_));refine wpAny_bind (wpAny_holding (zal ne xs.size 0 _ _ ⟨_,Heap.get?_push_size _ rfl,rfl,rfl⟩ (hl.push _) (by omega) fun h1 a1 s1=>?_));rw [show List.take xs.size (List.drop 0 xs.toList)=xs.toList by rw [List.drop_zero];exact List.take_of_length_le (by simp),if_neg (by simp)];refine wpAny_bind (wpAny_holding (wpAny_pyNext_list_end hh a1 ((hl.push _).extBut s1.extBut ne) (by simp) fun h2 e2=>?_));simp only [Option.isSome_none,zzB,if_false];exact wpAny_pure (h h2 fun b o hb e=>e2 b o hb (s1.extBut b o hb (Heap.get?_push_of_some _ e)))
end
def gTL (K:PySem.W.Frag) (n:Nat) (t:TGs):TG:=fun v σ H Q=>∃ a xs,v=.ref a/\(tV K H a xs\/sJ K H a xs)/\xs.length=n/\t xs σ H Q
theorem pg_tl {X:Cx} {pos:Pos} {es:List Expr} {k:Nat} {t:TGs} {n:Nat} (hc:X.calm=true) (h:PGs X es t) (hn:(assignEach es X.env).length=n) (hst:(assignEach es X.env).findIdx? (·.1)=none):PG X (.Tuple es k pos) (gTL X.K n t):=by
 intro pins s σ H v u Q I r hw;obtain ⟨a,xs,e1,hq,hl,hw⟩:=hw;rcases hq with hq|hq
 .exact zet hc h hn hst pins s σ H v u Q I r ⟨a,xs,e1,hq,hl,hw⟩
 .subst e1;cases r;obtain ⟨its,rv,pl,hz⟩:=I.list hq;rw [assign_Tuple];refine wpAny_bind (wpAny_standAt (zar (I.ok.hd hc) pl.isList (by simp [hn,← hl,rv.length]) hst fun h' hx=>?_));exact h pins _ σ H xs _ Q (I.kept (t':=s.toks) fun b o e=>hx b o (Nat.ne_of_lt (Heap.lt_size e)) e) (by simpa using rv) hw
end L2
namespace L3
open PySem PySem.Spec PyProof.Rows L2 PySem.SeqAt
theorem bK {K:yZ} {H:Hp} {f:Str} {w:W} {v:V} (q:xN K H w v):∀ {l:List (Str×W)} {l':List (Str×V)},yX K H l l'->yX K H (jE f w l) (qI f v l')
 | [],_,h=>by rw [show _=[] from h];exact ⟨v,[],rfl,q,rfl⟩
 | (n,u)::r,_,⟨x,t,e,h,hr⟩=>by
  subst e;unfold jE qI
  by_cases hn:n=f
  .rw [if_pos hn,if_pos hn];exact ⟨v,t,rfl,q,hr⟩
  .rw [if_neg hn,if_neg hn];exact ⟨x,_,rfl,h,bK q hr⟩
section
variable {Γ : Ctx3} {p : Par} (g : Good Γ p)
def OkS (Γ:Ctx3) (p:Par) (s:IS):Prop:=∀ M X x,Lk Γ M p X->mS s M x=true->PS X x (lowS X.K (zP Γ XN s))
def OkSs (Γ:Ctx3) (p:Par) (s:ISs):Prop:=∀ M X x,Lk Γ M p X->sQ s M x=true->nF X x (lowS X.K (yQ Γ XN s))
include g
theorem zg8 (i:Nat) (e:IE):OkS Γ p (.asg i e):=by
 intro M X x L h;obtain ⟨y,py,v,q,rfl,h1,h2,h3⟩:=zgc h
 .
  have lo:=pH L h2;have hN:=yD h1;rw [← L.N] at hN;have nd:X.N.Nodup:=L.N▸L.nd
  have low:∀ (te:TE),(∀ τ H Q,yB X.K (zE Γ XN e).e τ H Q->te τ H Q)->∀ D τ H,lowS X.K (zP Γ XN (.asg i e)) D τ H->tAsg te (zdL i) D τ H:=fun te k D τ H hq=>by
   obtain ⟨σ,G,D3,hs,ab,f,hq⟩:=hq;refine k _ _ _ ⟨σ,G,hs,ab,zD g.mono XN e σ G _ _ (fun w G' hq v' H' g' rp ab'=>?_) hq⟩;exact f.nx _ G' _ H' g' ((hs.mono g').set rp i) ab' hq
  by_cases hl:uN v=true
  .exact (fD (i:=i) nd hN lo.1 (qL g e M X v L h3).1 (wZ hl) lo.2).imp (low _ fun _ _ _ z=>z)
  .cases v with
   |ListComp x gens sc qq =>
    cases e with
    |lc tg names caps it c elt =>
     match gens,h3 with
     | [⟨t,ix,ifs,asy⟩],h3 =>
      have h3':=h3;replace h3:=bd10 h3;obtain ⟨⟨⟨⟨⟨⟨⟨⟨⟨z0,z1⟩,z2⟩,z3⟩,z4⟩,z5⟩,z6⟩,z7⟩,z8⟩,z9⟩:=h3;replace z0:=of_decide_eq_true z0;subst z0;have cond:∃ b,swapsWith (.ListComp x [⟨t,ix,ifs,0⟩] sc qq) (some (.Name y py)) q.line X.env=pure b:=⟨_,rfl⟩;obtain ⟨b,hb⟩:=cond
      cases b with
      |false=>exact (fD (i:=i) nd hN lo.1 (qL g _ M X _ L h3').1 hb lo.2).imp (low _ fun _ _ _ z=>z)
      |true =>
       obtain ⟨c1,c2,c3,c4,c5,c6,c7,c8⟩:=hJ g tg names caps it c elt (sndI g it) (sndO g c) (qL g elt) L (x:=x) (t:=t) (ix:=ix) (ifs:=ifs) (sc:=sc) (by simp only [Bool.and_eq_true];exact ⟨⟨⟨⟨⟨⟨⟨⟨z1,z2⟩,z3⟩,z4⟩,z5⟩,z6⟩,z7⟩,z8⟩,z9⟩);exact (zc8 (i:=i) L.fits.calm c1 c2 c3 c4 c5 c6 nd hN lo.1 lo.2 hb c7).imp (low _ c8)
    |_=>exact absurd h3 zzN
   |SetComp _ _ _ _=>cases e<;>exact absurd h3 zzN
   |DictComp _ _ _ _ _=>cases e<;>exact absurd h3 zzN
   |_=>exact absurd rfl hl
theorem sndTL {M:MC} {X:Cx} {ts:ITgs} {es:List Expr} {k:Nat} {q:Pos} (L:Lk Γ M p X) (h:mGs M ts es=true):PG X (.Tuple es k q) (lowG X.K fun w σ G Q=>zU (.tup ts) (unl G w) σ G Q):=by
 obtain ⟨ps,hn,hst⟩:=zfl L ts es h;refine (pg_tl (n:=es.length) L.fits.calm ps hn hst).imp fun v σ H Q q=>?_;obtain ⟨w,σ3,G,rp,hs,ab,q⟩:=q
 cases w with
 |tup ws =>
  obtain ⟨a,vs,rfl,sq,rs⟩:=rp;exact ⟨a,vs,rfl,.inl sq,by rw [rs.length];exact zdv ts es ws σ3 G _ h q,ws,σ3,G,rs,hs,ab,q⟩
 |ref p =>
  cases (show v=.ref p from rp);simp only [unl] at q
  split at q
  .rename_i ws e;obtain ⟨vs,sq,rs⟩:=ab.seq e;exact ⟨p,vs,rfl,.inr sq,by rw [rs.length];exact zdv ts es ws σ3 G _ h q,ws,σ3,G,rs,hs,ab,q⟩
  .exact q.elim
 |_=>exact q.elim
theorem zeg (ts:ITgs) (e:IE):OkS Γ p (.asgT ts e):=by
 intro M X x L h;obtain ⟨es,k,qt,v,q,rfl,h1,h2,h3,h4⟩:=zdE h
 .
  have pg:=sndTL g (k:=k) (q:=qt) L h3;refine (zes (qL g e M X v L h4).1 pg (by unfold swapsWithSole;exact wZ h1) (by cases v<;>first|rfl|cases h2) rfl).imp fun D τ H hq=>?_;obtain ⟨σ,G,D3,hs,ab,f,hq⟩:=hq;refine ⟨σ,G,hs,ab,zD g.mono XN e σ G _ _ (fun w G' hq v' H' g' rp ab'=>?_) hq⟩;exact ⟨w,σ,G',rp,hs.mono g',ab',uM _ (unl G' w) σ G' _ _ (fun σ2 G2 hq τ2 H2 g2 hs2 a2=>f.nx σ2 G2 τ2 H2 (g'.trans g2) hs2 a2 hq) hq⟩
theorem zeh (i j:Nat) (e:IE):OkS Γ p (.asgS i j e):=by
 intro M X x L h;obtain ⟨t,v,q,rfl,h1,h2,h3,h4⟩:=zdF h;obtain ⟨y,py,z,pz,p2,k,qt,rfl,hi,hj⟩:=zfj h3;have l1:=pH L hi.2;have l2:=pH L hj.2;have pg:=zfC (k:=k) (p2:=p2) (pos:=qt) L.fits.calm (pV (fC (pos:=py) (i:=i) (L.N▸L.nd) (by rw [L.N];exact yD hi.1) l1.1 l1.2) (pV (fC (pos:=pz) (i:=j) (L.N▸L.nd) (by rw [L.N];exact yD hj.1) l2.1 l2.2) zbl)) rfl rfl;refine (zes (qL g e M X v L h4).1 pg (by unfold swapsWithSole;exact wZ h1) (by cases v<;>first|rfl|cases h2) rfl).imp fun D τ H hq=>?_;obtain ⟨σ,G,D3,hs,ab,f,hq⟩:=hq;refine yE (zD g.mono XN e) hs ab hq fun w G1 v1 H1 g1 hs1 r1 a1 hq=>?_
 cases w with
 |tup ws =>
  cases ws with
  |nil=>exact hq.elim
  |cons x r =>
   obtain ⟨a,vs,rfl,sq,rs⟩:=r1;obtain ⟨v0,vr,rfl,rx,rr⟩:=rs;refine ⟨a,v0,vr,rfl,sq,by rw [rr.length];exact hq.1,fun p hp=>⟨v0,[.ref p],rfl,.ref p,[],rfl,rfl,?_⟩⟩;have gr:=yF (K:=X.K) (u:=.lst vr) hp;have ab2:yC X.K (yT H1 p (.lst vr)) (put G1 p (.lst r)):=a1.new hp ⟨vr,rfl,rr.mono gr⟩;exact f.nx _ _ _ _ (g1.trans gr) (((hs1.mono gr).set (rx.mono gr) i).set (show xN X.K _ (.ref p) (.ref p) from rfl) j) ab2 (hq.2 p (a1.free hp))
 |_=>exact hq.elim
theorem zei (o i e:IE):OkS Γ p (.asgI o i e):=by
 intro M X x L h;obtain ⟨l,r,qs,v,q,rfl,h1,h2,h3,h4,h5⟩:=zdG h
 .
  have pe:=(qL g e M X v L h5).1;have po:=(qL g o M X l L h3).1;have pi:=(qL g i M X r L h4).1;intro pins s τ H D I hq;obtain ⟨σ,G,D3,hs,ab,f,hq⟩:=hq
  have q1:yB X.K (zE Γ XN e).e τ H fun v H1=>yB X.K (zE Γ XN o).e τ H1 fun ov H2=>yB X.K (zE Γ XN i).e τ H2 fun iv H3=>zez X.K ov iv v H3 fun H4=>D.nx τ H4:=by
   refine yE (zD g.mono XN e) hs ab hq fun w G1 v1 H1 g1 hs1 r1 a1 hq=>?_;refine yE (zD g.mono XN o) hs1 a1 hq fun x G2 v2 H2 g2 hs2 r2 a2 hq=>?_;refine yE (zD g.mono XN i) hs2 a2 hq fun y G3 v3 H3 g3 hs3 r3 a3 hq=>?_;exact ⟨x,y,w,G3,r2.mono g3,r3,(r1.mono g2).mono g3,a3,za9 (fun G4 hq H4 g4 a4=>f.nx σ G4 τ H4 (g1.trans (g2.trans (g3.trans g4))) (hs3.mono g4) a4 hq) hq⟩
  refine wpAny_Assign_Subscript (yI (pe pins s τ H _ I q1) fun u1 s1 ⟨v1,H1,I1,r1,q1⟩=>yI (po pins s1 τ H1 _ I1 q1) fun u2 s2 ⟨v2,H2,I2,r2,q2⟩=>yI (pi pins s2 τ H2 _ I2 q2) fun u3 s3 ⟨v3,H3,I3,r3,q3⟩=>?_) (wZ h1);exact yI (zhk (uJ g L) pins s3 τ H3 v2 v3 v1 u2 u3 u1 _ I3 r2 r3 r1 q3) fun _ s4 ⟨H4,I4,q4⟩=>⟨τ,H4,I4,q4⟩
theorem zej (o:IE) (f:Str) (e:IE):OkS Γ p (.asgA o f e):=by
 intro M X x L h;obtain ⟨l,qs,v,q,rfl,h2,h3,h4⟩:=zdH h
 .
  refine (zhF (qL g o M X l L h3).1 (qL g e M X v L h4).1 (wZ h2)).imp fun D τ H hq=>?_;obtain ⟨σ,G,D3,hs,ab,fi,hq⟩:=hq;refine yE (zD g.mono XN e) hs ab hq fun w G1 v1 H1 g1 hs1 r1 a1 hq=>?_;refine yE (zD g.mono XN o) hs1 a1 hq fun x G2 v2 H2 g2 hs2 r2 a2 hq=>?_
  cases x with
  |ref a =>
   cases r2;simp only [satR] at hq
   split at hq
   .rename_i C fs e2;obtain ⟨⟨l2,hl,hf⟩,hlen,hq⟩:=hq;obtain ⟨dx,fs',e',rk⟩:=a2.ins e2;have c:=g.cl _ hl;refine ⟨a,C,dx,fs',rfl,e',by rw [L.fits.K];exact c.1,by rw [L.fits.K];exact c.2 f hf,by rw [rk.length];exact hlen,?_⟩;have gr:=a2.grow (u:=.ins C dx (qI f v1 fs')) e2;exact fi.nx σ _ τ _ (g1.trans (g2.trans gr)) (hs2.mono gr) (a2.chg (o:=.ins C (jE f w fs)) e2 ⟨dx,_,rfl,bK ((r1.mono g2).mono gr) (rk.mono gr)⟩) hq
   .exact hq.elim
  |_=>exact hq.elim
theorem xA:OkS Γ p .retN/\OkS Γ p .pass/\OkS Γ p .brk/\OkS Γ p .cnt/\OkS Γ p .dead:=by
 refine ⟨fun M X x L h=>?_,fun M X x L h=>?_,fun M X x L h=>?_,fun M X x L h=>?_,fun M X x L h=>?_⟩
 .obtain ⟨q,rfl⟩:=zdB h;exact zfw.imp fun D τ H hq=>by obtain ⟨σ,G,D3,hs,ab,f,hq⟩:=hq;exact f.rt .non G _ H .refl (show xN X.K H .non .non from rfl) ab hq
 .obtain ⟨q,rfl⟩:=zdC h;exact zfx.imp fun D τ H hq=>by obtain ⟨σ,G,D3,hs,ab,f,hq⟩:=hq;exact f.nx σ G τ H .refl hs ab hq
 .obtain ⟨q,rfl⟩:=zgb h;exact zdb.imp fun D τ H hq=>by obtain ⟨σ,G,D3,hs,ab,f,hq⟩:=hq;exact f.bk σ G τ H .refl hs ab hq
 .obtain ⟨q,rfl⟩:=zf7 h;exact bG.imp fun D τ H hq=>by obtain ⟨σ,G,D3,hs,ab,f,hq⟩:=hq;exact f.ct σ G τ H .refl hs ab hq
 .exact zda.imp fun D τ H hq=>by obtain ⟨σ,G,D3,hs,ab,f,hq⟩:=hq;exact hq.elim
theorem t_ex (e:IE):OkS Γ p (.ex e):=by
 intro M X x L h;obtain ⟨v,q,rfl,hh⟩:=ziG h
 .have h:=hh;refine (zbi (qL g e M X v L h.2).1 (wZ h.1)).imp fun D τ H hq=>?_;obtain ⟨σ,G,D3,hs,ab,f,hq⟩:=hq;exact yE (zD g.mono XN e) hs ab hq fun w G1 v1 H1 g1 hs1 r1 a1 hq=>f.nx σ G1 τ H1 g1 hs1 a1 hq
theorem zg5 (e:IE):OkS Γ p (.ret e):=by
 intro M X x L h;obtain ⟨v,q,rfl,hh⟩:=zf3 h
 .have h:=hh;refine (zeq (qL g e M X v L h).1).imp fun D τ H hq=>?_;obtain ⟨σ,G,D3,hs,ab,f,hq⟩:=hq;exact yE (zD g.mono XN e) hs ab hq fun w G1 v1 H1 g1 hs1 r1 a1 hq=>f.rt w G1 v1 H1 g1 r1 a1 hq
theorem zg6 (c:IE) (a b:ISs) (ha:OkSs Γ p a) (hb:OkSs Γ p b):OkS Γ p (.ite c a b):=by
 intro M X x L h;obtain ⟨t,y,z,q,rfl,hh⟩:=zf5 h
 .have h:=hh;refine (zhE (qL g c M X t L h.1).2.1 (ha M X y L h.2.1) (hb M X z L h.2.2)).imp fun D τ H hq=>?_;obtain ⟨σ,G,D3,hs,ab,f,hq⟩:=hq;refine uB (kG g.mono XN c) hs ab hq fun k G1 H1 g1 hs1 a1 hq=>?_
  split
  .rename_i hk;rw [if_pos hk] at hq;exact ⟨σ,G1,D3,hs1,a1,f.grow g1,hq⟩
  .rename_i hk;rw [if_neg hk] at hq;exact ⟨σ,G1,D3,hs1,a1,f.grow g1,hq⟩
theorem zg4 (c:IE) (b:ISs) (hb:OkSs Γ p b):OkS Γ p (.whl c b):=by
 intro M X x L h;obtain ⟨t,y,q,rfl,hh⟩:=zf2 h
 .have h:=hh;have hp:PassesOwn (model X.prog X.w) X.A X.env X.xe:=by rw [L.fits.xe];exact PassesOwn.never
  refine (bH hp (qL g c M X t L h.1).2.1 (hb M X y L h.2)).imp fun D τ H hq=>?_;obtain ⟨σ,G,D3,hs,ab,f,Pv,⟨m0,p0⟩,step⟩:=hq;refine ⟨fun m τ H'=>yV X.K H H'/\∃ σ G,zB X.K H' σ τ/\yC X.K H' G/\Pv m σ G,⟨m0,.refl,σ,G,hs,ab,p0⟩,?_⟩;rintro m τ1 H1 ⟨g1,σ1,G1,hs1,a1,p1⟩;refine uB (kG g.mono XN c) hs1 a1 (step m σ1 G1 p1) fun k G2 H2 g2 hs2 a2 hq=>?_
  split
  .rename_i hk;rw [if_pos hk] at hq;refine ⟨fun τ' H'=>∃ m',m' < m/\yV X.K H H'/\∃ σ G,zB X.K H' σ τ'/\yC X.K H' G/\Pv m' σ G,fun τ' H' z=>z,?_⟩;refine ⟨σ1,G2,_,hs2,a2,⟨?_,?_,?_,?_⟩,hq⟩
   .rintro σ3 G3 τ3 H3 g3 hs3 a3 ⟨m',hm,p'⟩;exact ⟨m',hm,g1.trans (g2.trans g3),σ3,G3,hs3,a3,p'⟩
   .exact fun σ3 G3 τ3 H3 g3 hs3 a3 z=>f.nx σ3 G3 τ3 H3 (g1.trans (g2.trans g3)) hs3 a3 z
   .rintro σ3 G3 τ3 H3 g3 hs3 a3 ⟨m',hm,p'⟩;exact ⟨m',hm,g1.trans (g2.trans g3),σ3,G3,hs3,a3,p'⟩
   .exact fun w G3 v3 H3 g3 r3 a3 z=>f.rt w G3 v3 H3 (g1.trans (g2.trans g3)) r3 a3 z
  .rename_i hk;rw [if_neg hk] at hq;exact f.nx σ1 G2 τ1 H2 (g1.trans g2) hs2 a2 hq
theorem zg7 (tg:ITg) (it:II) (b:ISs) (hb:OkSs Γ p b):OkS Γ p (.for tg it b):=by
 intro M X x L h;obtain ⟨t,y,z,q,rfl,h1,h2,h3,h4⟩:=zf6 h
 .
  have hp:PassesOwn (model X.prog X.w) X.A X.env X.xe:=by rw [L.fits.xe];exact PassesOwn.never
  refine (zer hp L.fits.calm (sndI g it M X y L h3 t) (sndG L tg t h2) (hb M X z L h4) (sZ h1)).imp fun D τ H hq=>?_;obtain ⟨σ,G,D3,hs,ab,f,hq⟩:=hq;refine ⟨σ,G,hs,ab,zfQ g.mono XN it σ G _ _ (fun items stab G1 hq J H1 g1 a1 ii=>?_) hq⟩;obtain ⟨Pv,p0,pst,step,fin⟩:=hq;refine ⟨fun i m τ H'=>m+i=items.length/\yV X.K H1 H'/\∃ σ G,zB X.K H' σ τ/\yC X.K H' G/\Pv i σ G,⟨items.length,rfl,.refl,σ,G1,hs.mono g1,a1,p0⟩,?_⟩;rintro i m τ2 H2 ⟨hm,g2,σ2,G2,hs2,a2,p2⟩;have st:=pst i σ2 G2 p2 (by omega)
  by_cases hi:i<items.length
  .refine .inr ⟨ii.go i H2 G2 g2 a2 st hi,fun τ' H'=>∃ m',m' < m/\(m'+(i+1)=items.length/\yV X.K H1 H'/\∃ σ G,zB X.K H' σ τ'/\yC X.K H' G/\Pv (i+1) σ G),fun τ' H' z=>z,fun x H' yl=>?_⟩;obtain ⟨w,ew,g3,rp,a3⟩:=ii.yld i H2 G2 x H' g2 a2 st hi yl;refine ⟨w,σ2,G2,rp,hs2.mono g3,a3,uM tg w σ2 G2 _ _ (fun σ4 G4 hq τ4 H4 g4 hs4 a4=>?_) (step i w σ2 G2 ew p2)⟩;refine ⟨σ4,G4,_,hs4,a4,⟨?_,?_,?_,?_⟩,hq⟩
   .exact fun σ5 G5 τ5 H5 g5 hs5 a5 z=>⟨m-1,by omega,by omega,g2.trans (g3.trans (g4.trans g5)),σ5,G5,hs5,a5,z⟩
   .exact fun σ5 G5 τ5 H5 g5 hs5 a5 z=>f.nx σ5 G5 τ5 H5 (g1.trans (g2.trans (g3.trans (g4.trans g5)))) hs5 a5 z
   .exact fun σ5 G5 τ5 H5 g5 hs5 a5 z=>⟨m-1,by omega,by omega,g2.trans (g3.trans (g4.trans g5)),σ5,G5,hs5,a5,z⟩
   .exact fun w5 G5 v5 H5 g5 r5 a5 z=>f.rt w5 G5 v5 H5 (g1.trans (g2.trans (g3.trans (g4.trans g5)))) r5 a5 z
  .have ei:i=items.length:=by omega
   subst ei;exact .inl ⟨ii.stop _ H2 G2 g2 a2 st (zzR _),f.nx σ2 G2 τ2 H2 (g1.trans g2) hs2 a2 (fin σ2 G2 p2)⟩
theorem bV (s:ISs):OkSs Γ p s :=
 ISs.rec (motive_1:=OkS Γ p) (motive_2:=OkSs Γ p) (zg8 g) (zeg g) (zei g) (zej g) (t_ex g) (zg5 g) (xA g).1 (xA g).2.1 (xA g).2.2.1 (xA g).2.2.2.1
  (fun c a b ha hb=>zg6 g c a b ha hb) (fun c b hb=>zg4 g c b hb) (fun tg it b hb=>zg7 g tg it b hb) (xA g).2.2.2.2 (zeh g)
  (fun M X x L h=>by
   cases zf4 h;exact zbh.imp fun D τ H hq=>by obtain ⟨σ,G,D3,hs,ab,f,hq⟩:=hq;exact f.nx σ G τ H .refl hs ab hq)
  (fun s ss hs1 hs2 M X x L h=>by
   obtain ⟨y,ys,rfl,hh⟩:=zdD h
   .have h:=hh;refine (bI (hs1 M X y L h.1) (hs2 M X ys L h.2)).imp fun D τ H hq=>?_;obtain ⟨σ,G,D3,hs,ab,f,hq⟩:=hq;refine ⟨σ,G,{ D3 with nx:=yQ Γ XN ss D3 },hs,ab,⟨?_,f.bk,f.ct,f.rt⟩,hq⟩;exact fun σ2 G2 τ2 H2 g2 hs2 a2 z=>⟨σ2,G2,D3,hs2,a2,f.grow g2,z⟩) s
end
end L3
namespace PySem
open Sem (wp)
section
variable {prog : Program} {w : World} {s : Shared} {A : Around} {E : Value → Shared → Prop}
def itc (b:Bool):String:=if b then "tuple_iterator" else "list_iterator"
def uX (b:Bool) (h:Heap) (i l:Addr) (k:Nat):Prop:=∃ o,h.get? i=some o/\o.cls=.type (itc b)/\o.data=.fields #[.ref l,.int k 0]
def uY (b:Bool) (h:Heap) (l:Addr) (its:Array Value):Prop:=match b with
 |true=>h.IsTuple l its
 |false=>h.IsList l its
theorem uX.at {b:Bool} {h h':Heap} {i l:Addr} {k:Nat} (x:uX b h i l k) (e:∀ o,h.get? i=some o->h'.get? i=some o):uX b h' i l k:=let ⟨o,ho,r⟩:=x;⟨o,e _ ho,r⟩
theorem uY.at {b:Bool} {h h':Heap} {l:Addr} {its:Array Value} (x:uY b h l its) (e:∀ o,h.get? l=some o->h'.get? l=some o):uY b h' l its:=by
 cases b
 .obtain ⟨o,ho,r⟩:=x;exact ⟨o,e _ ho,r⟩
 .obtain ⟨o,ho,r⟩:=x;exact ⟨o,e _ ho,r⟩
theorem uX.eb {b:Bool} {h h':Heap} {i l c:Addr} {k:Nat} (x:uX b h i l k) (e:Heap.ExtBut c h h') (n:i≠c):uX b h' i l k:=x.at fun o q=>e _ o n q
theorem uY.eb {b:Bool} {h h':Heap} {l c:Addr} {its:Array Value} (x:uY b h l its) (e:Heap.ExtBut c h h') (n:l≠c):uY b h' l its:=x.at fun o q=>e _ o n q
theorem wB {b:Bool} {l:Addr} {its:Array Value} {Q:Value->Shared->Prop} (h:uY b s.heap l its)
  (hQ:Q (.ref s.heap.objs.size) { s with heap:=s.heap.push { cls:=.type (itc b),data:=.fields #[.ref l,.int 0 0] } }):wpAny (model prog w) A (pyIter (.ref l)) Q E s:=by
 cases b
 .exact wpAny_pyIter_list h hQ
 .exact wpAny_pyIter_tuple h hQ
abbrev zcb (it:Addr):Sem Value:=Builtin.SmallTypes.nextOf (.ref it)
theorem zef {it:Addr} {Q:Value->Shared->Prop} (ty:s.TypeIs (.ref it) "tuple_iterator")
  (h:wpAny (model prog w) A.in1 (Builtin.«tuple_iterator.__next__» ⟨[.ref it],[]⟩) (fun f s'=>∃ v,f=.done (.ret v)/\Q v s') E s) :
  wpAny (model prog w) A (zcb it) Q E s:=by
 have sl:=F.slot_tuple_iterator_next;apply wpAny_bind;apply wpAny_callSpecial?_slot ty sl;apply wpAny_call_entry sl ty F.entry_tuple_iterator_next _ (F.args_tuple_iterator_next_1 _);exact wpAny_mono h (fun _ _ ⟨v,e,q⟩=>⟨v,e,wpAny_pure q⟩) fun _ _ e=>e
theorem sH {it t:Addr} {i:Nat} {items} {x:Value} {Q:Value->Shared->Prop} (hit:s.heap.IsTupleIter it t i) (ht:s.heap.IsTuple t items) (hx:items[i]?=some x)
  (hQ:∀ h',h'.IsTupleIter it t (i+1)->Heap.SameBut it s.heap h'->Q x { s with heap:=h' }) :
  wpAny (model prog w) A (zcb it) Q E s:=by
 apply zef hit.typeIs;obtain ⟨⟨c,di,da,sl⟩,g1,c1,d1⟩:=hit;obtain ⟨⟨c2,di2,da2,sl2⟩,g2,c2',n2,d2⟩:=ht;cases c1;cases d1;cases d2;obtain ⟨hp,ge,dr,tk,os⟩:=s
 wp_walk using wpAny_loadPart' g2,wpAny_loadPart' g1
 rw [Int.toNat_natCast,hx]
 wp_walk using wpAny_loadPart' g1
 refine ⟨x,rfl,hQ _ ⟨_,Heap.get?_update_self _ g1 rfl,rfl,?_⟩ (.update ..)⟩;exact congrArg (fun z=>Data.fields #[.ref t,z]) rfl
theorem rJ {it t:Addr} {i:Nat} {items} {Q:Value->Shared->Prop} (hh:A.handled=none) (hit:s.heap.IsTupleIter it t i) (ht:s.heap.IsTuple t items) (hx:items[i]?=none)
  (hE:∀ g e,Heap.ExtBut it s.heap g->(∃ o,g.get? e=some o/\o.cls=.type "StopIteration")->E (.ref e) { s with heap:=g }) :
  wpAny (model prog w) A (zcb it) Q E s:=by
 apply zef hit.typeIs;obtain ⟨⟨c,di,da,sl⟩,g1,c1,d1⟩:=hit;obtain ⟨⟨c2,di2,da2,sl2⟩,g2,c2',n2,d2⟩:=ht;cases c1;cases d1;cases d2;obtain ⟨hp,ge,dr,tk,os⟩:=s;have hh':A.in1.handled=none:=hh
 wp_walk using wpAny_loadPart' g2,wpAny_loadPart' g1
 rw [Int.toNat_natCast,hx]
 wp_walk using wpAny_loadPart' g1
 unfold raiseNew
 wp_walk
 exact hE _ _ (fun b o n z=>Heap.get?_push_of_some _ (Heap.get?_push_of_some _ ((Heap.SameBut.update ..).extBut b o n z))) ⟨_,Heap.get?_push_size _ rfl,rfl⟩
theorem jO {b:Bool} {it l:Addr} {i:Nat} {items:Array Value} {x:Value} {Q:Value->Shared->Prop} (hit:uX b s.heap it l i) (hl:uY b s.heap l items) (hx:items[i]?=some x)
  (hQ:∀ h',uX b h' it l (i+1)->Heap.SameBut it s.heap h'->Q x { s with heap:=h' }):wpAny (model prog w) A (Builtin.SmallTypes.nextOf (.ref it)) Q E s:=by
 cases b
 .exact wpAny_nextOf_list_item hit hl hx hQ
 .exact sH hit hl hx hQ
theorem uP {b:Bool} {it l:Addr} {i:Nat} {items:Array Value} {Q:Value->Shared->Prop} (hh:A.handled=none) (hit:uX b s.heap it l i) (hl:uY b s.heap l items) (hx:items[i]?=none)
  (hE:∀ h' e,Heap.ExtBut it s.heap h'->(∃ o,h'.get? e=some o/\o.cls=.type "StopIteration")->E (.ref e) { s with heap:=h' }):wpAny (model prog w) A (Builtin.SmallTypes.nextOf (.ref it)) Q E s:=by
 cases b
 .exact wpAny_nextOf_list_end hh hit hl hx hE
 .exact rJ hh hit hl hx hE
abbrev cN (h:Heap) (z TI TO:Addr) (f0 f1:Value):Prop :=
 h.get? z=some { cls:=.type "zip", dict:=none,data:=.fields #[f0,f1,.bool false,.ref TI,.ref TO],slots:=#[] }
end
abbrev zpH1 (a:Bool) (h:Heap) (l1:Addr):Heap:=h.push { cls:=.type (itc a),data:=.fields #[.ref l1,.int 0 0] }
abbrev zpH2 (a b:Bool) (h:Heap) (l1 l2:Addr):Heap:=(zpH1 a h l1).push { cls:=.type (itc b),data:=.fields #[.ref l2,.int 0 0] }
abbrev zpH3 (a b:Bool) (h:Heap) (l1 l2:Addr):Heap:=(zpH2 a b h l1 l2).push { cls:=.type "tuple", data:=.seq #[.ref h.objs.size,.ref (zpH1 a h l1).objs.size] }
abbrev zpH4 (a b:Bool) (h:Heap) (l1 l2:Addr):Heap:=(zpH3 a b h l1 l2).push { cls:=.type "tuple", data:=.seq #[.none,.none] }
abbrev zpH5 (a b:Bool) (h:Heap) (l1 l2:Addr):Heap:=(zpH4 a b h l1 l2).push { cls:=.type "zip", data:=.fields #[.none,.bool false,.bool false,.ref (zpH2 a b h l1 l2).objs.size,.ref (zpH3 a b h l1 l2).objs.size] }
theorem dW (a b:Bool) (l1 l2:Addr) (xs ys:Array Value) :
  Meets (Builtin.«zip.__new__» ⟨[.type "zip", .ref l1,.ref l2],[]⟩) (fun _ R s=>uY a s.heap l1 xs/\uY b s.heap l2 ys /\
   R (.ok (.ret (.ref (zpH4 a b s.heap l1 l2).objs.size))) { s with heap:=zpH5 a b s.heap l1 l2 }) :=
 .of_wp fun prog w A R st ⟨hl1,hl2,h⟩=>by
  obtain ⟨hp,g,d,tk,os⟩:=st;have hsub:=sub_zip;have hL1:uY a (Shared.heap ⟨hp,g,d,tk,os⟩) l1 xs:=hl1;have hL2:uY b (Shared.heap ⟨hp.push { cls:=.type (itc a),data:=.fields #[.ref l1,.int 0 0] },g,d,tk,os⟩) l2 ys:=hl2.at fun o e=>Heap.get?_push_of_some _ e
  wp_walk using wB hL1,wB hL2
  exact ⟨_,rfl,h⟩
section
variable {prog : Program} {w : World} {s : Shared} {A : Around} {E : Value → Shared → Prop}
theorem zgL {a b:Bool} {l1 l2:Addr} {xs ys:Array Value} {Q:Value->Shared->Prop} (hl1:uY a s.heap l1 xs) (hl2:uY b s.heap l2 ys)
  (h:∀ h',cN h' (s.heap.objs.size+4) (s.heap.objs.size+2) (s.heap.objs.size+3) .none (.bool false)->IsPair h' (s.heap.objs.size+2) (.ref s.heap.objs.size) (.ref (s.heap.objs.size+1)) ->
   IsPair h' (s.heap.objs.size+3) .none .none->uX a h' s.heap.objs.size l1 0->uX b h' (s.heap.objs.size+1) l2 0->h'.objs.size=s.heap.objs.size+5->(∀ c o,s.heap.get? c=some o->h'.get? c=some o)->Q (.ref (s.heap.objs.size+4)) { s with heap:=h' }):wpAny (model prog w) A (call (.type "zip") [.ref l1,.ref l2]) Q E s:=by
 apply callType_new F.called_zip (by decide) (F.typeCall_zip_2 _ _) (F.newCall_zip_2 _ _) (fun o=>F.args_object_init_3 o _ _) F.entry_zip_new (dW a b l1 l2 xs ys);refine ⟨hl1,hl2,?_⟩;have z1:(zpH1 a s.heap l1).objs.size=s.heap.objs.size+1:=Heap.size_push ..;have z2:(zpH2 a b s.heap l1 l2).objs.size=s.heap.objs.size+2:=by rw [Heap.size_push,z1]
 have z3:(zpH3 a b s.heap l1 l2).objs.size=s.heap.objs.size+3:=by rw [Heap.size_push,z2]
 have z4:(zpH4 a b s.heap l1 l2).objs.size=s.heap.objs.size+4:=by rw [Heap.size_push,z3]
 have z5:(zpH5 a b s.heap l1 l2).objs.size=s.heap.objs.size+5:=by rw [Heap.size_push,z4]
 have g5:(zpH5 a b s.heap l1 l2).get? (zpH4 a b s.heap l1 l2).objs.size=some _:=Heap.get?_push_size _ rfl;have g4:(zpH5 a b s.heap l1 l2).get? (zpH3 a b s.heap l1 l2).objs.size=some _:=Heap.get?_push_of_some _ (Heap.get?_push_size _ rfl);have g3:(zpH5 a b s.heap l1 l2).get? (zpH2 a b s.heap l1 l2).objs.size=some _:=Heap.get?_push_of_some _ (Heap.get?_push_of_some _ (Heap.get?_push_size _ rfl));have g2:(zpH5 a b s.heap l1 l2).get? (zpH1 a s.heap l1).objs.size=some _:=Heap.get?_push_of_some _ (Heap.get?_push_of_some _ (Heap.get?_push_of_some _ (Heap.get?_push_size _ rfl)));have g1:(zpH5 a b s.heap l1 l2).get? s.heap.objs.size=some _:=Heap.get?_push_of_some _ (Heap.get?_push_of_some _ (Heap.get?_push_of_some _ (Heap.get?_push_of_some _ (Heap.get?_push_size _ rfl))));show _/\_;rw [z2,z3,z4] at g5;rw [z1,z2] at g3;rw [z3] at g4;rw [z1] at g2;rw [z4];refine ⟨⟨_,g5,rfl⟩,h _ g5 g3 g4 ⟨_,g1,rfl,rfl⟩ ⟨_,g2,rfl,rfl⟩ z5 fun c o x=>?_⟩
 iterate 5 refine Heap.get?_push_of_some _ ?_
 exact x
end
end PySem
namespace PySem
open Sem (wp)
section
variable {prog : Program} {w : World} {s : Shared} {A : Around} {E : Value → Shared → Prop}
theorem qA {M:Model} {a:Addr} {Q:Option Obj->Shared->Prop} (h:Q (s.heap.get? a) s):wpAny M A (loadIfAlive a) Q E s:=fun Γ p hΓ=>by
 unfold loadIfAlive;rw [Sem.wp_loadIfAlive];exact wpAny_pure h Γ p hΓ
abbrev zcz (z:Addr):Sem Fin:=Builtin.«zip.__next__» ⟨[.ref z],[]⟩
abbrev zgS (Q:Value->Shared->Prop) (f:Fin) (s:Shared):Prop:=∃ v,f=.done (.ret v)/\Q v s
abbrev But4 (z TO i1 i2:Addr) (h h':Heap):Prop:=∀ c o,c≠z->c≠TO->c≠i1->c≠i2->h.get? c=some o->h'.get? c=some o
abbrev zeU (h:Heap) (e:Addr):Prop:=∃ o,h.get? e=some o/\o.cls=.type "StopIteration"
def Stp (p:Prop):Prop:=p
theorem wY {M:Model} {v:Value} {Q:Value->Shared->Prop} (h:Stp (wpAny M A (Builtin.SmallTypes.nextOf v) Q E s)):wpAny M A (Builtin.SmallTypes.nextOf v) Q E s:=h
theorem bD {z TI TO:Addr} {f0 f1:Value} {Q:Bool->Shared->Prop} (hz:cN s.heap z TI TO f0 f1) (hfr:f0=.none\/∃ T:Addr,f0=rawInt T/\s.heap.get? T=none) (h:Q true s) :
  wpAny (model prog w) A (Builtin.SmallTypes.ownedTupleIsFree (.ref z)) Q E s:=by
 obtain ⟨hp,ge,dr,tk,os⟩:=s;obtain rfl|⟨T,rfl,d⟩:=hfr<;>wp_walk using qA<;>exact h
theorem bE {z TI TO T:Addr} {f1:Value} {o:Obj} {Q:Bool->Shared->Prop} (hz:cN s.heap z TI TO (rawInt T) f1) (hf:f1=.bool false\/f1=.bool true) (hT:s.heap.get? T=some o)
  (h:∀ h',cN h' z TI TO (rawInt T) (.bool true)->Heap.SameBut z s.heap h'->Q false { s with heap:=h' }) :
  wpAny (model prog w) A (Builtin.SmallTypes.ownedTupleIsFree (.ref z)) Q E s:=by
 obtain ⟨hp,ge,dr,tk,os⟩:=s;obtain rfl|rfl:=hf<;>wp_walk using qA
 .exact h _ (Heap.get?_update_self _ hz rfl) (.update ..)
 .exact h _ hz (.refl ..)
theorem zeY {a b:Bool} {z TI TO i1 i2 l1 l2:Addr} {k1 k2:Nat} {xs ys:Array Value} {x y u v f0 f1:Value} {Q:Value->Shared->Prop} (D:ZipApart z TI TO i1 i2 l1 l2)
  (hfr:f0=.none\/∃ T:Addr,f0=rawInt T/\s.heap.get? T=none) (hz:cN s.heap z TI TO f0 f1) (hTI:IsPair s.heap TI (.ref i1) (.ref i2)) (hTO:IsPair s.heap TO u v)
  (h1:uX a s.heap i1 l1 k1) (h2i:uX b s.heap i2 l2 k2) (hl1:uY a s.heap l1 xs) (hl2:uY b s.heap l2 ys) (hx:xs[k1]?=some x) (hy:ys[k2]?=some y)
  (hQ:∀ h',cN h' z TI TO (rawInt s.heap.objs.size) (.bool false)->IsPair h' TO x y->uX a h' i1 l1 (k1+1)->uX b h' i2 l2 (k2+1)->IsPair h' s.heap.objs.size x y->h'.objs.size=s.heap.objs.size+1 ->
   But4 z TO i1 i2 s.heap h'->Q (.ref s.heap.objs.size) { s with heap:=h' }) :
  wpAny (model prog w) A (zcz z) (zgS Q) E s:=by
 wp_walk using wY,bD hz hfr,wpAny_onRaise
 have b1:=(Heap.SameBut.update (h:=s.heap) (a:=z) (f:=Obj.mapFields fun x=>x.setIfInBounds 0 .ellipsis)).extBut;refine jO (h1.eb b1 D.i1z) (hl1.eb b1 D.l1z) hx fun h2 q1 k2=>?_;have t2:IsPair h2 TO u v:=k2.extBut _ _ D.TOi1 (b1 _ _ D.TOz hTO);have z2:cN h2 z TI TO .ellipsis f1:=k2.extBut _ _ D.i1z.symm (Heap.get?_update_self _ hz rfl)
 wp_walk using wY,wpAny_onRaise
 have b3:=(Heap.SameBut.update h2 TO (Obj.mapSeq fun e=>e.setIfInBounds 0 x)).extBut;have c3:∀ c o,c≠z->c≠TO->c≠i1->s.heap.get? c=some o->(h2.update TO (Obj.mapSeq fun e=>e.setIfInBounds 0 x)).get? c=some o:=fun c o n1 n2 n3 e=>b3 _ _ n2 (k2.extBut _ _ n3 (b1 _ _ n1 e));refine jO (h2i.at fun o e=>c3 _ o D.i2z D.TOi2.symm D.i12.symm e) (hl2.at fun o e=>c3 _ o D.l2z D.l2TO D.l2i1 e) hy fun h4 q2 k4=>?_;have t4:IsPair h4 TO x v:=k4.extBut _ _ D.TOi2 (Heap.get?_update_self _ t2 rfl);have z4:cN h4 z TI TO .ellipsis f1:=k4.extBut _ _ D.i2z.symm (b3 _ _ D.TOz.symm z2);have n1:=D.TOz
 wp_walk
 have b5:=(Heap.SameBut.update h4 TO (Obj.mapSeq fun e=>e.setIfInBounds (0+1) y)).extBut;have t5:IsPair (h4.update TO (Obj.mapSeq fun e=>e.setIfInBounds (0+1) y)) TO x y:=Heap.get?_update_self _ t4 rfl;have z5:=b5 _ _ n1.symm z4;have m5:(h4.update TO (Obj.mapSeq fun e=>e.setIfInBounds (0+1) y)).objs.size=s.heap.objs.size:=by rw [Heap.size_after_update,k4.1,Heap.size_after_update,k2.1,Heap.size_after_update]
 have c5:∀ c o,c≠z->c≠TO->c≠i1->c≠i2->s.heap.get? c=some o->(h4.update TO (Obj.mapSeq fun e=>e.setIfInBounds (0+1) y)).get? c=some o:=fun c o n1 n2 n3 n4 e=>b5 _ _ n2 (k4.extBut _ _ n4 (c3 _ _ n1 n2 n3 e));have q15:=((q1.eb b3 D.TOi1.symm).eb k4.extBut D.i12).eb b5 D.TOi1.symm;have q25:=q2.eb b5 D.TOi2.symm;generalize h4.update TO (Obj.mapSeq fun e=>e.setIfInBounds (0+1) y)=h5 at *;rw [m5]
 have b6:∀ c o,c≠z->h5.get? c=some o->(((h5.push { cls:=.type "tuple", data:=.seq #[x,y] }).update z (Obj.mapFields fun e=>e.setIfInBounds 0 (rawInt s.heap.objs.size))).update z (Obj.mapFields fun e=>e.setIfInBounds 1 (.bool false))).get? c=some o :=
  fun c o n e=>(Heap.SameBut.update ..).extBut _ _ n ((Heap.SameBut.update ..).extBut _ _ n (Heap.get?_push_of_some _ e))
 refine ⟨_,rfl,hQ _ (Heap.get?_update_self _ (Heap.get?_update_self _ (Heap.get?_push_of_some _ z5) rfl) rfl) (b6 _ _ n1 t5) (q15.at fun o e=>b6 _ o D.i1z e) (q25.at fun o e=>b6 _ o D.i2z e) ?_ ?_ fun c o n1 n2 n3 n4 e=>b6 c o n1 (c5 c o n1 n2 n3 n4 e)⟩
 .have:=Heap.lt_size z5;rw [m5] at this;refine (Heap.SameBut.update ..).extBut _ _ (Nat.ne_of_gt this) ((Heap.SameBut.update ..).extBut _ _ (Nat.ne_of_gt this) ?_);exact m5▸Heap.get?_push_size _ rfl
 .rw [Heap.size_after_update,Heap.size_after_update,Heap.size_push,m5]
theorem zeX {a b:Bool} {z TI TO i1 i2 l1 l2 T:Addr} {k1 k2:Nat} {xs ys:Array Value} {x y u v f1:Value} {oT:Obj} {Q:Value->Shared->Prop} (D:ZipApart z TI TO i1 i2 l1 l2) (hf:f1=.bool false\/f1=.bool true)
  (hz:cN s.heap z TI TO (rawInt T) f1) (hT:s.heap.get? T=some oT) (hTI:IsPair s.heap TI (.ref i1) (.ref i2)) (hTO:IsPair s.heap TO u v)
  (h1:uX a s.heap i1 l1 k1) (h2i:uX b s.heap i2 l2 k2) (hl1:uY a s.heap l1 xs) (hl2:uY b s.heap l2 ys) (hx:xs[k1]?=some x) (hy:ys[k2]?=some y)
  (hQ:∀ h',cN h' z TI TO (rawInt T) (.bool true)->uX a h' i1 l1 (k1+1)->uX b h' i2 l2 (k2+1)->IsPair h' s.heap.objs.size x y->h'.objs.size=s.heap.objs.size+1 ->
   (∀ c o,c≠z->c≠i1->c≠i2->s.heap.get? c=some o->h'.get? c=some o)->Q (.ref s.heap.objs.size) { s with heap:=h' }) :
  wpAny (model prog w) A (zcz z) (zgS Q) E s:=by
 wp_walk using wY,bE hz hf hT
 intro g z1 j1
 wp_walk using wY
 refine jO (h1.eb j1.extBut D.i1z) (hl1.eb j1.extBut D.l1z) hx fun h2 q1 k2=>?_
 wp_walk using wY
 have c2:∀ c o,c≠z->c≠i1->s.heap.get? c=some o->h2.get? c=some o:=fun c o n1 n2 e=>k2.extBut _ _ n2 (j1.extBut _ _ n1 e);refine jO (h2i.at fun o e=>c2 _ o D.i2z D.i12.symm e) (hl2.at fun o e=>c2 _ o D.l2z D.l2i1 e) hy fun h3 q2 k3=>?_
 wp_walk
 have m:h3.objs.size=s.heap.objs.size:=by rw [k3.1,k2.1,j1.1]
 have p:∀ c o,h3.get? c=some o->(h3.push { cls:=.type "tuple", data:=.seq #[x,y] }).get? c=some o:=fun c o e=>Heap.get?_push_of_some _ e;rw [m];refine ⟨_,rfl,hQ _ (p _ _ (k3.extBut _ _ D.i2z.symm (k2.extBut _ _ D.i1z.symm z1))) ((q1.eb k3.extBut D.i12).at (p _)) (q2.at (p _)) ?_ ?_ fun c o n1 n2 n3 e=>p _ _ (k3.extBut _ _ n3 (c2 _ _ n1 n2 e))⟩
 .exact m▸Heap.get?_push_size _ rfl
 .rw [Heap.size_push,m]
theorem sT {a b:Bool} {z TI TO i1 i2 l1 l2:Addr} {k1 k2:Nat} {xs ys:Array Value} {u v f0 f1:Value} {Q:Fin->Shared->Prop} (hh:A.handled=none) (D:ZipApart z TI TO i1 i2 l1 l2)
  (hfr:f0=.none\/∃ T:Addr,f0=rawInt T/\s.heap.get? T=none) (hz:cN s.heap z TI TO f0 f1) (hTI:IsPair s.heap TI (.ref i1) (.ref i2)) (hTO:IsPair s.heap TO u v)
  (h1:uX a s.heap i1 l1 k1) (h2i:uX b s.heap i2 l2 k2) (hl1:uY a s.heap l1 xs) (hl2:uY b s.heap l2 ys) (hend:xs[k1]?=none\/ys[k2]?=none)
  (hE:∀ h' e,But4 z TO i1 i2 s.heap h'->zeU h' e->E (.ref e) { s with heap:=h' }) :
  wpAny (model prog w) A (zcz z) Q E s:=by
 wp_walk using wY,bD hz hfr,wpAny_onRaise
 have b1:=(Heap.SameBut.update (h:=s.heap) (a:=z) (f:=Obj.mapFields fun x=>x.setIfInBounds 0 .ellipsis)).extBut;have z1:cN (s.heap.update z (Obj.mapFields fun x=>x.setIfInBounds 0 .ellipsis)) z TI TO .ellipsis f1:=Heap.get?_update_self _ hz rfl
 have fin:∀ (g:Heap) e,cN g z TI TO .ellipsis f1->(∃ o,g.get? e=some o/\o.cls=.type "StopIteration") ->
   ∃ o,(g.update z (Obj.mapFields fun x=>x.setIfInBounds 0 .none)).get? e=some o/\o.cls=.type "StopIteration" := by
  rintro g e zg ⟨o,he,ce⟩;refine ⟨o,(Heap.SameBut.update ..).extBut _ _ ?_ he,ce⟩;rintro rfl;cases he.symm.trans zg;simp at ce
 cases hx:xs[k1]? with
 |none =>
  refine uP hh (h1.eb b1 D.i1z) (hl1.eb b1 D.l1z) hx fun g e k he=>?_;have zg:cN g z TI TO .ellipsis f1:=k _ _ D.i1z.symm z1
  wp_walk
  exact hE _ e (fun c o n1 _ n3 _ q=>(Heap.SameBut.update ..).extBut _ _ n1 (k _ _ n3 (b1 _ _ n1 q))) (fin _ _ zg he)
 |some x =>
  have hy:=hend.resolve_left (by rw [hx];exact Option.some_ne_none x);refine jO (h1.eb b1 D.i1z) (hl1.eb b1 D.l1z) hx fun h2 q1 k2=>?_;have t2:IsPair h2 TO u v:=k2.extBut _ _ D.TOi1 (b1 _ _ D.TOz hTO);have z2:cN h2 z TI TO .ellipsis f1:=k2.extBut _ _ D.i1z.symm z1
  wp_walk using wY,wpAny_onRaise
  have b3:=(Heap.SameBut.update h2 TO (Obj.mapSeq fun e=>e.setIfInBounds 0 x)).extBut;have c3:∀ c o,c≠z->c≠TO->c≠i1->s.heap.get? c=some o->(h2.update TO (Obj.mapSeq fun e=>e.setIfInBounds 0 x)).get? c=some o:=fun c o n1 n2 n3 e=>b3 _ _ n2 (k2.extBut _ _ n3 (b1 _ _ n1 e));refine uP hh (h2i.at fun o e=>c3 _ o D.i2z D.TOi2.symm D.i12.symm e) (hl2.at fun o e=>c3 _ o D.l2z D.l2TO D.l2i1 e) hy fun g e k he=>?_;have zg:cN g z TI TO .ellipsis f1:=k _ _ D.i2z.symm (b3 _ _ D.TOz.symm z2)
  wp_walk
  exact hE _ e (fun c o n1 n2 n3 n4 q=>(Heap.SameBut.update ..).extBut _ _ n1 (k _ _ n4 (c3 _ _ n1 n2 n3 q))) (fin _ _ zg he)
theorem cM {a b:Bool} {z TI TO i1 i2 l1 l2 T:Addr} {k1 k2:Nat} {xs ys:Array Value} {u v f1:Value} {oT:Obj} {Q:Fin->Shared->Prop} (hh:A.handled=none) (D:ZipApart z TI TO i1 i2 l1 l2) (hf:f1=.bool false\/f1=.bool true)
  (hz:cN s.heap z TI TO (rawInt T) f1) (hT:s.heap.get? T=some oT) (hTI:IsPair s.heap TI (.ref i1) (.ref i2)) (hTO:IsPair s.heap TO u v)
  (h1:uX a s.heap i1 l1 k1) (h2i:uX b s.heap i2 l2 k2) (hl1:uY a s.heap l1 xs) (hl2:uY b s.heap l2 ys) (hend:xs[k1]?=none\/ys[k2]?=none)
  (hE:∀ h' e,But4 z TO i1 i2 s.heap h'->zeU h' e->E (.ref e) { s with heap:=h' }) :
  wpAny (model prog w) A (zcz z) Q E s:=by
 wp_walk using wY,bE hz hf hT
 intro g z1 j1
 wp_walk using wY
 cases hx:xs[k1]? with
 |none =>
  refine uP hh (h1.eb j1.extBut D.i1z) (hl1.eb j1.extBut D.l1z) hx fun g' e k he=>?_;exact hE _ e (fun c o n1 _ n3 _ q=>k _ _ n3 (j1.extBut _ _ n1 q)) he
 |some x =>
  have hy:=hend.resolve_left (by rw [hx];exact Option.some_ne_none x);refine jO (h1.eb j1.extBut D.i1z) (hl1.eb j1.extBut D.l1z) hx fun h2 q1 k2=>?_
  wp_walk using wY
  have c2:∀ c o,c≠z->c≠i1->s.heap.get? c=some o->h2.get? c=some o:=fun c o n1 n2 e=>k2.extBut _ _ n2 (j1.extBut _ _ n1 e);refine uP hh (h2i.at fun o e=>c2 _ o D.i2z D.i12.symm e) (hl2.at fun o e=>c2 _ o D.l2z D.l2i1 e) hy fun g' e k he=>?_;exact hE _ e (fun c o n1 _ n3 n4 q=>k _ _ n4 (c2 _ _ n1 n3 q)) he
end
end PySem
namespace L2
open PySem PySem.Spec PyProof.Rows
structure TurnL (P:Program) (w:World) (K:PySem.W.Frag) (T:String) (J:It) (fp:List Addr) (it:Addr) (tn:Nat->Heap->Prop):Prop where
 mem:it∈fp
 ty:∀ i h,tn i h->∃ o,h.get? it=some o/\o.cls=.type T
 obj:∀ i h,tn i h->∀ b∈fp,∃ o,h.get? b=some o/\∀ v,o.data≠.cell v
 keep:∀ i h h',tn i h->(∀ b∈fp,∀ o,h.get? b=some o->h'.get? b=some o)->tn i h'
 item:∀ (X:Cx),X.prog=P->X.w=w->X.K=K->X.calm=true->∀ (i:Nat) (pins:List (Addr×Obj)) (s:Shared) (σ:St) (H:Hp) (E:Value->Shared->Prop),Inv X pins σ H s->(∀ b∈fp,qR X pins H b)->tn i s.heap->J.go i H ->
  wpAny (model P w) X.A (pyNext (.ref it)) (fun r s2=>∃ u x H',r=some u/\Inv X pins σ H' s2/\zC x u/\J.yld i H x H'/\tn (i+1) s2.heap/\∀ b∈fp,H' b=none) E s
 done:∀ (X:Cx),X.prog=P->X.w=w->X.K=K->X.calm=true->∀ (i:Nat) (pins:List (Addr×Obj)) (s:Shared) (σ:St) (H:Hp) (E:Value->Shared->Prop),Inv X pins σ H s->(∀ b∈fp,qR X pins H b)->tn i s.heap->J.stop i H ->
  wpAny (model P w) X.A (pyNext (.ref it)) (fun r s1=>r=none/\Inv X pins σ H s1) E s
 self:∀ (A:Around) (i:Nat) (s:Shared) (Q:Value->Shared->Prop) (E:Value->Shared->Prop),tn i s.heap->Q (.ref it) s->wpAny (model P w) A (pyIter (.ref it)) Q E s
 hint:∀ (A:Around) (i:Nat) (s:Shared) (Q:Bool->Shared->Prop) (E:Value->Shared->Prop),tn i s.heap->(∀ b,Q b s)->wpAny (model P w) A (Builtin.List.listLengthHint (.ref it)) Q E s
abbrev Cx.atA (X:Cx) (A:Around):Cx:={ X with A:=A }
theorem Cx.Ok.atA {X:Cx} (ok:X.Ok) {A:Around} (hf:A.frames=X.A.frames) (hh:A.handled=X.A.handled):(X.atA A).Ok :=
 ⟨ok.mod,ok.kind,ok.glob,ok.blt,ok.above,ok.inj,ok.has,ok.cab,fun z=>hh.trans (ok.hd z),hf.trans ok.frames,ok.stk,ok.exf,ok.bs,ok.bsz,ok.noex,ok.exfs,ok.funs,ok.frf⟩
section
variable {X : Cx} {pins : List (Addr × Obj)} {σ : St} {H : Hp} {s : Shared}
theorem Inv.atA (I:Inv X pins σ H s) {A:Around} (hf:A.frames=X.A.frames) (hh:A.handled=X.A.handled):Inv (X.atA A) pins σ H s :=
 ⟨I.ok.atA hf hh,I.os,I.bare,I.base,I.loc,I.cell,I.free,I.freeC,I.pin,I.hok,I.len,I.tk⟩
theorem Inv.unA {A:Around} (hf:A.frames=X.A.frames) (hh:A.handled=X.A.handled) (I:Inv (X.atA A) pins σ H s):Inv X pins σ H s :=
 ⟨Cx.Ok.atA (X:=X.atA A) (A:=X.A) I.ok hf.symm hh.symm,I.os,I.bare,I.base,I.loc,I.cell,I.free,I.freeC,I.pin,I.hok,I.len,I.tk⟩
theorem zdQ {P:Program} {w:World} {A:Around} {R:Result->Shared->Prop} (S I:Addr) (res:Value) (Jn:Nat->Shared->Prop)
  (step:∀ k s,Jn k s->wpAny (model P w) A.in1 (pyNext (.ref I)) (fun r s'=>match r with
   |none=>R (.ok (.ret res)) s'
   |some v=>∃ its c,s'.heap.get? S=some (qB its c)/\its.length<sizeLine/\∀ h',Heap.SameBut S s'.heap h'->h'.get? S=some (qB (its++[v]) (c+1))->∃ k',k' < k/\Jn k' { s' with heap:=h' }) (fun e s'=>R (.error e) s') s) :
  ∀ k s,Jn k s->codeAny (model P w) A (.builtin "list.extend.loop" ⟨[.ref S,.ref I,res],[]⟩) R s:=by
 intro k
 induction k using Nat.strongRecOn with
 |_ k ih =>
  intro s j;refine codeAny_builtin F.entry_extend_loop ?_;rw [Around.under_plainId F.plain_extend_loop _];show wpAny _ A.in1 (pyNext (.ref I) >>= _) _ _ s;refine wpAny_bind (yI (step k s j) fun r s' q=>?_)
  cases r with
  |none=>exact wpAny_pure q
  |some v =>
   obtain ⟨its,c,hS,hl,q⟩:=q;show wpAny _ A.in1 (updateSeq S (·.push v) >>= _) _ _ _;refine wpAny_bind ?_;obtain ⟨k',hk,j'⟩:=q _ (Heap.SameBut.update ..) (by exact (Heap.get?_update_self (Obj.mapSeq (·.push v)) hS rfl).trans (by simp [Obj.mapSeq,qB]));exact wpAny_updateSeq hS rfl (wpAny_pure ⟨plainId_quiet F.plain_extend_loop _,ih k' hk _ j'⟩) (by show its.toArray.size<=sizeLine;rw [zzS];omega) (by show (its.toArray.push v).size<=sizeLine+1;rw [Array.size_push,zzS];omega)
theorem Inv.adopt {a:Addr} {o:HO} (I:Inv X pins σ H s) (off:Off X pins a) (hn:H a=none) (new:xU X.prog X.w (yT H a o) s.heap a o):Inv X pins σ (yT H a o) s:=by
 have b:=I.base;have nb:∀ b' ob,X.s₀.heap.get? b'=some ob->b'≠a:=fun b' ob e=>Nat.ne_of_lt (Nat.lt_of_lt_of_le (Heap.lt_size e) off.ge);refine ⟨I.ok,I.os,I.bare,⟨b.keep,b.slot,fun c ob e n hx=>?_,b.there,fun c xs e=>?_,fun c ob u e=>?_,fun c ps e=>?_⟩,I.loc,I.cell,?_,fun x c e=>?_,fun p hp=>?_,I.hok.adopt (fun c u v _ q=>q) hn new,I.len,I.tk⟩
 .rw [zW (nb c ob e)];exact b.free c ob e n hx
 .rw [zW (yS (b.tups c xs e) hn)];exact b.tups c xs e
 .rw [zW (yS (b.frzs c ob u e) hn)];exact b.frzs c ob u e
 .obtain ⟨mo,e'⟩:=b.tbls c ps e;exact ⟨mo,by rw [zW (yS e' hn)];exact e'⟩
 .rw [zW off.ne.symm];exact I.free
 .rw [zW (off.cl x c e)];exact I.freeC x c e
 .obtain ⟨q1,q2,q3⟩:=I.pin p hp;exact ⟨q1,by rw [zW (off.pn p hp)];exact q2,q3⟩
theorem zbB (hc:X.calm=true) {T:String} {J:It} {fp:List Addr} {it:Addr} {tn:Nat->Heap->Prop} {Q:VK} (hTl:(Value.type T==Value.type "list")=false) (hTt:(Value.type T==Value.type "tuple")=false)
  (I:Inv X pins σ H s) (Tn:TurnL X.prog X.w X.K T J fp it tn) (t0:tn 0 s.heap) (hf:∀ b∈fp,qR X pins H b) (n:Nat) (hn:n<=sizeLine) (W:Nat->List V->Hp->Prop) (w0:W 0 [] H)
  (wgo:∀ i acc H,i<n->W i acc H->J.go i H/\∀ x H',J.yld i H x H'->W (i+1) (acc++[x]) H') (wst:∀ acc H,W n acc H->J.stop n H/\∀ p,H p=none->Q (.ref p) (yT H p (.lst acc))) :
  wpAny (model X.prog X.w) X.A (call (.type "list") [.ref it]) (EP X pins σ Q) X.xe s:=by
 have hfp:∀ b∈fp,b<s.heap.objs.size:=fun b hb=>by
  obtain ⟨o,e,_⟩:=Tn.obj _ _ t0 b hb;exact Heap.lt_size e
 have hSf:∀ b∈fp,b≠s.heap.objs.size:=fun b hb=>Nat.ne_of_lt (hfp b hb);have hSI:s.heap.objs.size≠it:=(hSf it Tn.mem).symm;have off:Off X pins s.heap.objs.size:=I.off (zzR _);have nfs:s.heap.objs.size∉X.fs:=I.nofs (zzR _);have fr0:∀ b∈fp,H b=none:=fun b hb=>(hf b hb).1;have HS0:H s.heap.objs.size=none:=I.hok.fresh (zzR _)
 have fpok:∀ {H':Hp} {ob:Obj},(∀ b∈fp,H' b=none)->∀ b∈fp,qR X ((s.heap.objs.size,ob)::pins) H' b:=fun {H' ob} hn b hb=>by
  obtain ⟨q1,q2,q3,q4,q5,q6⟩:=hf b hb;refine ⟨hn b hb,q2,q3,q4,q5,fun p hp=>?_⟩;rcases List.mem_append.mp hp with hp|hp
  .exact q6 p (List.mem_append_left _ hp)
  .rcases List.mem_cons.mp hp with rfl|hp
   .exact (hSf b hb).symm
   .exact q6 p (List.mem_append_right _ hp)
 have pinS:∀ {H':Hp} {s':Shared} {its:List Value} {c:Nat},Inv X pins σ H' s'->H' s.heap.objs.size=none->s'.heap.get? s.heap.objs.size=some (qB its c)->Inv X ((s.heap.objs.size,qB its c)::pins) σ H' s':=fun {H' s' its c} I' hn e =>
  I'.pins_of fun p hp=>by
   rcases List.mem_cons.mp hp with rfl|hp
   .exact ⟨e,hn,off.ne,nfs,fun v z=>nomatch z⟩
   .exact I'.pin p (List.mem_append_right _ hp)
 have unpin:∀ {H':Hp} {s':Shared} {ob:Obj},Inv X ((s.heap.objs.size,ob)::pins) σ H' s'->Inv X pins σ H' s':=fun {H' s' ob} I'=>I'.pins_of fun p hp=>I'.pin p (List.mem_append_right _ (List.mem_cons_of_mem _ hp))
 refine callType_codes (Q₁:=fun obj s₁=>obj=.ref s.heap.objs.size/\s₁={ s with heap:=s.heap.push { cls:=.type "list", data:=.seq #[] } }) F.called_list (F.typeCall_list_1 _) F.entry_list_init
  (code_list_new _ ⟨rfl,rfl⟩) fun obj s₁ h₁=>?_
 obtain ⟨rfl,rfl⟩:=h₁;have hS:(s.heap.push { cls:=.type "list", data:=.seq #[] }).get? s.heap.objs.size=some { cls:=.type "list", data:=.seq #[] }:=Heap.get?_push_size _ rfl;refine ⟨⟨_,hS,rfl⟩,F.args_list_init_2 _ _,?_⟩
 have loop:∀ (h':Heap) (c:Nat),h'.get? s.heap.objs.size=some (qB [] c)->(∀ b o,s.heap.get? b=some o->h'.get? b=some o) ->
   codeAny (model X.prog X.w) X.A.in1 (.builtin "list.extend.loop" ⟨[.ref s.heap.objs.size,.ref it,.none],[]⟩) (wants (fun r s₂=>r=.none/\EP X pins σ Q (.ref s.heap.objs.size) s₂) X.xe) { s with heap:=h' }:=by
  intro h' c e0 k0
  refine zdQ s.heap.objs.size it .none (fun k s'=>∃ i acc H' its c,k+i=n/\Inv X pins σ H' s'/\tn i s'.heap/\(∀ b∈fp,H' b=none)/\H' s.heap.objs.size=none/\s'.heap.get? s.heap.objs.size=some (qB its c)/\zF acc its/\acc.length<=i/\W i acc H') ?_ n _
   ⟨0,[],H,[],c,by omega,I.kept (t':=s.toks) k0,Tn.keep _ _ _ t0 fun b _ o e=>k0 b o e,fr0,HS0,e0,.nil,zzR _,w0⟩
  rintro k s' ⟨i,acc,H',its,c',hk,I',st,fr,hS',oS,v,la,wi⟩;have Ip:=(pinS I' hS' oS).atA (A:=X.A.in1.in1) rfl rfl
  by_cases hi:i<n
  .obtain ⟨go,yl⟩:=wgo i acc H' hi wi;refine yI (Tn.item (X.atA X.A.in1.in1) rfl rfl rfl hc i _ s' σ H' _ Ip (fpok fr) st go) fun r s2 ⟨u,x,H2,hr,I2,r2,y2,st2,fr2⟩=>?_;subst hr;have I2':=Inv.unA (X:=X) (A:=X.A.in1.in1) rfl rfl I2;have p2:=I2'.pin (s.heap.objs.size,qB its c') (List.mem_append_right _ (zzT ..));refine ⟨its,c',p2.1,by rw [← v.length];omega,fun h'' sb e''=>⟨k-1,by omega,i+1,acc++[x],H2,its++[u],c'+1,by omega,off.turned (unpin I2') p2.2.1 sb,Tn.keep _ _ _ st2 fun b hb o e=>sb.extBut b o (hSf b hb) e,fr2,p2.2.1,e'',v.append (.cons r2 .nil),by rw [zzW];show acc.length+1<=i+1;omega,yl x H2 y2⟩⟩
  .have hin:i=n:=by omega
   subst hin;obtain ⟨wU,fin⟩:=wst acc H' wi;refine yI (Tn.done (X.atA X.A.in1.in1) rfl rfl rfl hc i _ s' σ H' _ Ip (fpok fr) st wU) fun r s2 ⟨hr,I2⟩=>?_;subst hr;have I2':=Inv.unA (X:=X) (A:=X.A.in1.in1) rfl rfl I2;have p2:=I2'.pin (s.heap.objs.size,qB its c') (List.mem_append_right _ (zzT ..));exact ⟨rfl,.ref s.heap.objs.size,yT H' s.heap.objs.size (.lst acc),(unpin I2').adopt off hS' ⟨by omega,its,c',v,p2.1⟩,rfl,fin _ hS'⟩
 show wpAny _ X.A.in1.in1 (do let old ← Builtin.List.listItems (.ref s.heap.objs.size);Builtin.List.listUpdate (.ref s.heap.objs.size) (fun _=>#[]);letGo old.toList.reverse;Builtin.List.listExtendWith (.ref s.heap.objs.size) (.ref it) .none) _ _ _;refine wpAny_bind ?_;unfold Builtin.List.listItems;refine wpAny_bind (wpAny_seqItems hS rfl (wpAny_pure ?_));show wpAny _ X.A.in1.in1 (updateSeq s.heap.objs.size (fun _=>#[]) >>= fun _=>letGo (#[]:Array Value).toList.reverse >>= fun _=>Builtin.List.listExtendWith (.ref s.heap.objs.size) (.ref it) .none) _ _ _;refine wpAny_bind (wpAny_updateSeq hS rfl ?_);have hS₂:=Heap.get?_update_self (Obj.mapSeq (fun _=>(#[]:Array Value))) hS rfl;generalize hh2:(s.heap.push { cls:=.type "list", data:=.seq #[] }).update s.heap.objs.size (Obj.mapSeq (fun _=>(#[]:Array Value)))=h2 at *
 have k2:∀ b o,s.heap.get? b=some o->h2.get? b=some o:=fun b o e=>by
  rw [← hh2,Heap.get?_update_other _ _ (Nat.ne_of_gt (Heap.lt_size e))];exact Heap.get?_push_of_some _ e
 have tn2:tn 0 h2:=Tn.keep _ _ _ t0 fun b _ o e=>k2 b o e;refine wpAny_bind (wpAny_letGo ?_);unfold Builtin.List.listExtendWith;obtain ⟨oI,eI,cI⟩:=Tn.ty _ _ tn2;refine wpAny_bind (wpAny_typeOf (s:={ s with heap:=h2 }) ⟨oI,eI,cI⟩ ?_);have h1:Builtin.List.listSameRef (.ref s.heap.objs.size) (.ref it)=false:=by simp [Builtin.List.listSameRef,hSI]
 rw [if_neg (by rw [h1,hTl,hTt];decide)];refine wpAny_bind (Tn.self _ 0 { s with heap:=h2 } _ _ tn2 ?_);refine wpAny_bind (wpAny_holding (Tn.hint _ 0 { s with heap:=h2 } _ _ tn2 fun room=>?_));dsimp only
 split
 .refine wpAny_bind (wpAny_rule ?_);refine wpAny_bind ?_;show wpAny _ X.A.in1.in1 (updateSeq s.heap.objs.size (·.push .none) >>= fun _=>updateSeq s.heap.objs.size (·.pop)) _ _ _;refine wpAny_bind (wpAny_updateSeq hS₂ rfl ?_);have hS₃:=Heap.get?_update_self (Obj.mapSeq (·.push Value.none)) hS₂ rfl;refine wpAny_updateSeq (hz:=by seq_fits) hS₃ rfl ?_;have hS₄:=Heap.get?_update_self (Obj.mapSeq (·.pop)) hS₃ rfl;refine wpAny_pure ⟨plainId_quiet F.plain_extend_loop _,loop _ _ hS₄ fun b o e=>?_⟩;rw [Heap.get?_update_other _ _ (Nat.ne_of_gt (Heap.lt_size e)),Heap.get?_update_other _ _ (Nat.ne_of_gt (Heap.lt_size e))];exact k2 b o e
 .exact wpAny_pure ⟨plainId_quiet F.plain_extend_loop _,loop _ _ hS₂ k2⟩
end
end L2
namespace L2
open PySem PySem.Spec PyProof.Rows
def rZ (b:Bool) (K:PySem.W.Frag) (H:Hp) (a:Addr) (xs:List V):Prop:=match b with
 |true=>tV K H a xs
 |false=>sJ K H a xs
theorem Inv.sqB {X:Cx} {pins:List (Addr×Obj)} {σ:St} {H:Hp} {s:Shared} {b:Bool} {a:Addr} {xs:List V} (I:Inv X pins σ H s) (h:rZ b X.K H a xs):∃ its:List Value,zF xs its/\uY b s.heap a its.toArray/\xs.length<=sizeLine:=by
 cases b
 .obtain ⟨its,r,p,hz⟩:=I.list h;exact ⟨its,r,p.isList,hz⟩
 .obtain ⟨its,r,p,hz⟩:=I.tuple h;exact ⟨its,r,p,hz⟩
theorem Inv.sqB_inj {X:Cx} {pins:List (Addr×Obj)} {σ:St} {H:Hp} {s:Shared} {b:Bool} {a:Addr} {xs ys:List V} (I:Inv X pins σ H s) (h:rZ b X.K H a xs) (h':rZ b X.K H a ys):xs=ys:=by
 cases b
 .exact I.list_inj h h'
 .exact I.tuple_inj h h'
theorem Inv.turns {X:Cx} {pins:List (Addr×Obj)} {σ:St} {H:Hp} {s:Shared} {h':Heap} {t':Nat} {fp:List Addr} (I:Inv X pins σ H s) (hf:∀ b∈fp,qR X pins H b) (k:∀ b o,b∉fp->s.heap.get? b=some o->h'.get? b=some o) (ht:0<t':=by first|exact Nat.succ_pos _|exact L2.Inv.tk (by assumption)|exact L2.Inv.tk ‹L2.Inv _ _ _ _ _› | assumption|omega):Inv X pins σ H { s with heap:=h',toks:=t' }:=by
 have nit:∀ b u,H b=some u->b∉fp:=fun b u e z=>by rw [(hf b z).1] at e;cases e
 refine I.step (g':=s.gens) (d':=s.drawn) (ch:=fp) (fun b hb=>?_) (fun b o _ _ hc e _=>k b o hc e) (fun b o _ _ hc e _=>⟨o.slots,k b o hc e⟩) (fun _ _ _ _ n=>n)
  (fun b o hc e=>⟨o,k b o hc e⟩) (fun _ _ e=>e) (fun _ _ _ e=>e) (fun b ps e=>⟨#[],by rw [e];simp⟩) (fun m hm=>?_) (fun b u e=>?_) I.bare
 .obtain ⟨_,q2,q3,q4,q5,q6⟩:=hf b hb;exact ⟨q4,q2,q5,q6⟩
 .obtain ⟨o,es,ep,ho,r⟩:=hm;exact ⟨o,es,ep,k _ o (fun z=>(hf _ z).2.1 rfl) ho,r⟩
 .refine (I.hok b u e).stay (fun c v hc q=>k c v ?_ q) (fun _ q=>q) fun _ _ q=>q;rcases hc with z|z
  .rw [z];exact nit b u e
  .exact nit c _ z
def Itz (a b:Bool) (K:PySem.W.Frag) (l1 l2:Addr):It where
 go:=fun i H=>∃ xs ys x y,rZ a K H l1 xs/\rZ b K H l2 ys/\xs[i]?=some x/\ys[i]?=some y
 yld:=fun i H v H'=>∃ p x y,v=.ref p/\H p=none/\H'=yT H p (.tup [x,y])/\(∀ xs,rZ a K H l1 xs->xs[i]?=some x)/\∀ ys,rZ b K H l2 ys->ys[i]?=some y
 stop:=fun i H=>∃ xs ys,rZ a K H l1 xs/\rZ b K H l2 ys/\(xs[i]?=none\/ys[i]?=none)
def kM (a b:Bool) (z TI TO i1 i2 l1 l2:Addr) (i:Nat) (h:Heap):Prop :=
 ∃ f0 f1,cN h z TI TO f0 f1/\(f0=.none\/∃ T:Addr,f0=rawInt T)/\(f1=.bool false\/f1=.bool true)/\IsPair h TI (.ref i1) (.ref i2)/\(∃ u v,IsPair h TO u v)/\uX a h i1 l1 i/\uX b h i2 l2 i
section
variable {a b : Bool} {z TI TO i1 i2 l1 l2 : Addr}
theorem kM.obj {i:Nat} {h:Heap} (x:kM a b z TI TO i1 i2 l1 l2 i h):∀ c∈[z,TI,TO,i1,i2],∃ o,h.get? c=some o/\∀ v,o.data≠.cell v:=by
 obtain ⟨f0,f1,hz,_,_,hTI,⟨u,v,hTO⟩,⟨o1,e1,_,d1⟩,⟨o2,e2,_,d2⟩⟩:=x;intro c hc;simp only [List.mem_cons,List.not_mem_nil,or_false] at hc;rcases hc with rfl|rfl|rfl|rfl|rfl
 .exact ⟨_,hz,fun v z=>nomatch z⟩
 .exact ⟨_,hTI,fun v z=>nomatch z⟩
 .exact ⟨_,hTO,fun v z=>nomatch z⟩
 .exact ⟨_,e1,fun v z=>by rw [d1] at z;cases z⟩
 .exact ⟨_,e2,fun v z=>by rw [d2] at z;cases z⟩
theorem kM.keep {i:Nat} {h h':Heap} (x:kM a b z TI TO i1 i2 l1 l2 i h) (k:∀ c∈[z,TI,TO,i1,i2],∀ o,h.get? c=some o->h'.get? c=some o):kM a b z TI TO i1 i2 l1 l2 i h':=by
 obtain ⟨f0,f1,hz,h0,h1,hTI,⟨u,v,hTO⟩,s1,s2⟩:=x;exact ⟨f0,f1,k z (by simp) _ hz,h0,h1,k TI (by simp) _ hTI,⟨u,v,k TO (by simp) _ hTO⟩,s1.at fun o e=>k i1 (by simp) o e,s2.at fun o e=>k i2 (by simp) o e⟩
variable {X : Cx} {pins : List (Addr × Obj)} {σ : St} {H : Hp} {s : Shared}
theorem cL (hd:[z,TI,TO,i1,i2].Nodup) (hf:∀ c∈[z,TI,TO,i1,i2],qR X pins H c) {xs ys:List V} (I:Inv X pins σ H s) (h1:rZ a X.K H l1 xs) (h2:rZ b X.K H l2 ys)
  (n1:l1∉[z,TI,TO,i1,i2]) (n2:l2∉[z,TI,TO,i1,i2]):ZipApart z TI TO i1 i2 l1 l2:=by
 simp only [List.nodup_cons,List.mem_cons,List.not_mem_nil,or_false,not_or,List.nodup_nil,not_false_eq_true,and_true] at hd n1 n2;obtain ⟨⟨a1,a2,a3,a4⟩,⟨b1,b2,b3⟩,⟨c1,c2⟩,d1⟩:=hd;obtain ⟨m1,m2,m3,m4,m5⟩:=n1;obtain ⟨k1,k2,k3,k4,k5⟩:=n2;exact ⟨Ne.symm a1,Ne.symm a2,Ne.symm a3,Ne.symm a4,b1,b2,b3,c1,c2,d1,m1,m3,m4,m5,k1,k3,k4,k5⟩
theorem zeW {E:Value->Shared->Prop} (hh:X.A.handled=none) (hd:[z,TI,TO,i1,i2].Nodup) (n1:l1∉[z,TI,TO,i1,i2]) (n2:l2∉[z,TI,TO,i1,i2]) {i:Nat} (I:Inv X pins σ H s) (hf:∀ c∈[z,TI,TO,i1,i2],qR X pins H c)
  (st:kM a b z TI TO i1 i2 l1 l2 i s.heap) (go:(Itz a b X.K l1 l2).go i H) :
  wpAny (model X.prog X.w) X.A (pyNext (.ref z)) (fun r s2=>∃ u x H',r=some u/\Inv X pins σ H' s2/\zC x u/\(Itz a b X.K l1 l2).yld i H x H'/\kM a b z TI TO i1 i2 l1 l2 (i+1) s2.heap/\(∃ T:Addr,u=.ref T/\T∉[z,TI,TO,i1,i2])/\∀ c∈[z,TI,TO,i1,i2],H' c=none) E s:=by
 obtain ⟨xs,ys,x,y,q1,q2,ex,ey⟩:=go;have D:=cL hd hf I q1 q2 n1 n2;obtain ⟨itx,vx,sx,_⟩:=I.sqB q1;obtain ⟨ity,vy,sy,_⟩:=I.sqB q2;obtain ⟨ux,eux,rx⟩:=vx.get ex;obtain ⟨uy,euy,ry⟩:=vy.get ey;have hx:itx.toArray[i]?=some ux:=by simpa using eux
 have hy:ity.toArray[i]?=some uy:=by simpa using euy
 obtain ⟨f0,f1,hz,h0,h1,hTI,⟨u,v,hTO⟩,s1,s2⟩:=id st;have hT:s.TypeIs (.ref z) "zip" := ⟨_,hz,rfl⟩
 have lt:∀ c∈[z,TI,TO,i1,i2],c<s.heap.objs.size:=fun c hc=>by
  obtain ⟨o,e,_⟩:=st.obj c hc;exact Heap.lt_size e
 have new:s.heap.objs.size∉[z,TI,TO,i1,i2]:=fun hm=>Nat.lt_irrefl _ (lt _ hm)
 have fin:∀ (h':Heap),kM a b z TI TO i1 i2 l1 l2 (i+1) h'->IsPair h' s.heap.objs.size ux uy->h'.objs.size=s.heap.objs.size+1->(∀ c o,c∉[z,TI,TO,i1,i2]->s.heap.get? c=some o->h'.get? c=some o) ->
   ∃ u x H',(some (Value.ref s.heap.objs.size))=some u/\Inv X pins σ H' { s with heap:=h' }/\zC x u/\(Itz a b X.K l1 l2).yld i H x H'/\kM a b z TI TO i1 i2 l1 l2 (i+1) h'/\(∃ T:Addr,u=.ref T/\T∉[z,TI,TO,i1,i2])/\∀ c∈[z,TI,TO,i1,i2],H' c=none:=by
  intro h' st' pr sz k;have hn:H s.heap.objs.size=none:=I.hok.fresh (zzR _);have I1:Inv X pins σ H { s with heap:=h',toks:=s.toks }:=I.turns hf k;refine ⟨_,.ref s.heap.objs.size,yT H s.heap.objs.size (.tup [x,y]),rfl,?_,rfl,⟨_,x,y,rfl,hn,rfl,fun xs' q'=>by rw [I.sqB_inj q' q1];exact ex,fun ys' q'=>by rw [I.sqB_inj q' q2];exact ey⟩,st',⟨_,rfl,new⟩,fun c hc=>by rw [zW (fun e:c=s.heap.objs.size=>new (e▸hc))];exact (hf c hc).1⟩;exact I1.adopt (I.off (zzR _)) hn ⟨by show 2<=sizeLine;rw [sizeLine_eq];decide,[ux,uy],.cons rx (.cons ry .nil),⟨_,pr,rfl,_,rfl⟩⟩
 unfold pyNext
 have free:(f0=.none\/∃ T:Addr,f0=rawInt T/\s.heap.get? T=none)->wpAny (model X.prog X.w) X.A.in1 (Builtin.«zip.__next__» ⟨[.ref z],[]⟩) (fun fin s'=>∃ v,fin=.done (.ret v)/\∃ u x H',some v=some u/\Inv X pins σ H' s'/\zC x u/\(Itz a b X.K l1 l2).yld i H x H'/\kM a b z TI TO i1 i2 l1 l2 (i+1) s'.heap/\(∃ T:Addr,u=.ref T/\T∉[z,TI,TO,i1,i2])/\∀ c∈[z,TI,TO,i1,i2],H' c=none) (fun _ _=>False) s:=fun hfr=>by
  refine zeY D hfr hz hTI hTO s1 s2 sx sy hx hy fun h' a1 a2 a3 a4 a5 a6 a7=>fin h' ⟨_,_,a1,.inr ⟨_,rfl⟩,.inl rfl,a7 TI _ D.TIz D.TITO D.TIi1 D.TIi2 hTI,⟨_,_,a2⟩,a3,a4⟩ a5 a6 fun c o hc e=>?_;simp only [List.mem_cons,List.not_mem_nil,or_false,not_or] at hc;exact a7 c o hc.1 hc.2.2.1 hc.2.2.2.1 hc.2.2.2.2 e
 have held:∀ (T:Addr) (oT:Obj),f0=rawInt T->s.heap.get? T=some oT->wpAny (model X.prog X.w) X.A.in1 (Builtin.«zip.__next__» ⟨[.ref z],[]⟩) (fun fin s'=>∃ v,fin=.done (.ret v)/\∃ u x H',some v=some u/\Inv X pins σ H' s'/\zC x u/\(Itz a b X.K l1 l2).yld i H x H'/\kM a b z TI TO i1 i2 l1 l2 (i+1) s'.heap/\(∃ T:Addr,u=.ref T/\T∉[z,TI,TO,i1,i2])/\∀ c∈[z,TI,TO,i1,i2],H' c=none) (fun _ _=>False) s:=fun T oT e0 eT=>by
  subst e0;refine zeX D h1 hz eT hTI hTO s1 s2 sx sy hx hy fun h' a1 a3 a4 a5 a6 a7=>fin h' ⟨_,_,a1,.inr ⟨_,rfl⟩,.inr rfl,a7 TI _ D.TIz D.TIi1 D.TIi2 hTI,⟨_,_,a7 TO _ D.TOz D.TOi1 D.TOi2 hTO⟩,a3,a4⟩ a5 a6 fun c o hc e=>?_;simp only [List.mem_cons,List.not_mem_nil,or_false,not_or] at hc;exact a7 c o hc.1 hc.2.2.2.1 hc.2.2.2.2 e
 refine wpAny_bind (wpAny_attempt (wpAny_callSpecial?_slot (name:=Str.ofString "__next__") hT F.slot_zip_next
  (wpAny_call_entry F.slot_zip_next hT F.entry_zip_next ?_ (F.args_zip_next_1 _))))
 have all:wpAny (model X.prog X.w) X.A.in1 (Builtin.«zip.__next__» ⟨[.ref z],[]⟩) (fun fin s'=>∃ v,fin=.done (.ret v)/\∃ u x H',some v=some u/\Inv X pins σ H' s'/\zC x u/\(Itz a b X.K l1 l2).yld i H x H'/\kM a b z TI TO i1 i2 l1 l2 (i+1) s'.heap/\(∃ T:Addr,u=.ref T/\T∉[z,TI,TO,i1,i2])/\∀ c∈[z,TI,TO,i1,i2],H' c=none) (fun _ _=>False) s:=by
  rcases h0 with e0|⟨T,e0⟩
  .exact free (.inl e0)
  .cases eT:s.heap.get? T with
   |none=>exact free (.inr ⟨T,e0,eT⟩)
   |some oT=>exact held T oT e0 eT
 refine wpAny_mono all (fun fin' s' ⟨v',e',q⟩=>⟨v',e',?_⟩) (fun _ _ z=>z.elim);exact wpAny_pure q
theorem zeZ {E:Value->Shared->Prop} (hh:X.A.handled=none) (hd:[z,TI,TO,i1,i2].Nodup) (n1:l1∉[z,TI,TO,i1,i2]) (n2:l2∉[z,TI,TO,i1,i2]) {i:Nat} (I:Inv X pins σ H s) (hf:∀ c∈[z,TI,TO,i1,i2],qR X pins H c)
  (st:kM a b z TI TO i1 i2 l1 l2 i s.heap) (stop:(Itz a b X.K l1 l2).stop i H) :
  wpAny (model X.prog X.w) X.A (pyNext (.ref z)) (fun r s1=>r=none/\Inv X pins σ H s1) E s:=by
 obtain ⟨xs,ys,q1,q2,he⟩:=stop;have D:=cL hd hf I q1 q2 n1 n2;obtain ⟨itx,vx,sx,_⟩:=I.sqB q1;obtain ⟨ity,vy,sy,_⟩:=I.sqB q2
 have hend:itx.toArray[i]?=none\/ity.toArray[i]?=none:=by
  rcases he with e|e
  .left;simpa using vx.none_of e
  .right;simpa using vy.none_of e
 obtain ⟨f0,f1,hz,h0,h1,hTI,⟨u,v,hTO⟩,s1,s2⟩:=id st;have hT:s.TypeIs (.ref z) "zip" := ⟨_,hz,rfl⟩;unfold pyNext
 have fin:∀ (h':Heap) (e:Addr),(∀ c o,c≠z->c≠TO->c≠i1->c≠i2->s.heap.get? c=some o->h'.get? c=some o)->(∃ o,h'.get? e=some o/\o.cls=.type "StopIteration") ->
   wpAny (model X.prog X.w) X.A (do if ← isInstance (.ref e) (.type "StopIteration") then pure none else throw (.ref e)) (fun (r:Option Value) s1=>r=none/\Inv X pins σ H s1) E { s with heap:=h' }:=fun h' e k ⟨o,ho,hc⟩=>by
  refine wpAny_bind (wpAny_isInstance (T := "StopIteration") (b:=true) ⟨o,ho,hc⟩ isSubtype_stop ?_);refine wpAny_pure ⟨rfl,I.turns (t':=s.toks) hf fun c o hc e=>?_⟩;simp only [List.mem_cons,List.not_mem_nil,or_false,not_or] at hc;exact k c o hc.1 hc.2.2.1 hc.2.2.2.1 hc.2.2.2.2 e
 refine wpAny_bind (wpAny_attempt (wpAny_callSpecial?_slot (name:=Str.ofString "__next__") hT F.slot_zip_next
  (wpAny_call_entry F.slot_zip_next hT F.entry_zip_next ?_ (F.args_zip_next_1 _))))
 rcases h0 with e0|⟨T,e0⟩
 .exact sT hh D (.inl e0) hz hTI hTO s1 s2 sx sy hend fun h' e k he=>fin h' e k he
 .cases eT:s.heap.get? T with
  |none=>exact sT hh D (.inr ⟨T,e0,eT⟩) hz hTI hTO s1 s2 sx sy hend fun h' e k he=>fin h' e k he
  |some oT =>
   subst e0;exact cM hh D h1 hz eT hTI hTO s1 s2 sx sy hend fun h' e k he=>fin h' e k he
theorem zaP {P:Program} {w:World} {A:Around} {i:Nat} {s:Shared} {Q:Value->Shared->Prop} {E:Value->Shared->Prop} (st:kM a b z TI TO i1 i2 l1 l2 i s.heap) (h:Q (.ref z) s):wpAny (model P w) A (pyIter (.ref z)) Q E s:=by
 obtain ⟨f0,f1,hz,_⟩:=st;have hT:s.TypeIs (.ref z) "zip" := ⟨_,hz,rfl⟩;refine wpAny_pyIter_slot hT F.slot_zip_iter (wpAny_call_entry F.slot_zip_iter hT F.entry_zip_iter ?_ (F.args_zip_iter_1 _));show wpAny _ _ (ret (.ref z)) _ _ s;exact wpAny_pure ⟨_,rfl, "zip", _,hT,F.slot_zip_next.lookup,h⟩
end
end L2
namespace L3
open PySem PySem.Spec PyProof.Rows L2
structure Pr where
 prog:Program
 w:World
 K:yZ
 mg:Str->Option Value
 base:Heap
abbrev Pr.at (q:Pr) (A:Around):Par:=⟨q.prog,q.w,q.K,q.mg,q.base,A⟩
def jB (K:yZ) (sp:sV):Sp:=fun vs H Q E=>∃ ws G,zQ K H ws vs/\yC K H G/\sp ws G (jL K H Q) XN
def yN (N:List Str) (ws:List W):xD:=ws.map some++List.replicate (N.length-ws.length) none
theorem tR {K:yZ} {H:Hp} {N:List Str} {ws:List W} {vs:List V} (r:zQ K H ws vs):zB K H (yN N ws) (L2.start N vs):=by
 have hl:=r.length;refine ⟨by simp [yN,L2.start,hl],fun i w e=>?_⟩;unfold yN at e;unfold L2.start
 by_cases hi:i<ws.length
 .rw [List.getElem?_append_left (by simpa using hi),List.getElem?_map] at e
  cases q:ws[i]? with
  |none=>rw [q] at e;cases e
  |some w' =>
   rw [q] at e;obtain rfl:w'=w:=Option.some.inj (Option.some.inj e);obtain ⟨v,ev,rp⟩:=r.get q;refine ⟨v,?_,rp⟩;rw [List.getElem?_append_left (by simp;omega),List.getElem?_map,ev];rfl
 .rw [List.getElem?_append_right (by simp;omega),List.getElem?_replicate] at e
  split at e<;>cases e
structure MOk (Γ:Ctx3) (M:MC) (sc:Scope):Prop where
 sc:M.sc=sc
 own:M.own=fun _=>true
 fns:Γ.fn.map (·.nm)=M.fns
 gls:Γ.gl.map (·.1)=M.gls
 mts:Γ.mt.map (·.nm)=M.mts
 its:Γ.it.map (·.nm)=M.its
 sxs:Γ.sx.map (·.m)=M.sxm
 ixs:Γ.ix.map (·.m)=M.ixm
def FnE (p:Par) (f:Fn3):Prop:=∀ X,Fits p X->Gl X f.nm->∀ (args:List Expr) (t:A3) (q pos:Pos),qY t->args.all noStar=true->PA X args (qC X.K t)->(args=[]->∀ σ G Q,t σ G Q->Q [] G)->(f.nm==("__debug__" : Str))=false->f.nm ≠ "__name__" ->
  PE X (.Call (.Name f.nm q) args [] pos) (yB X.K fun σ G Q=>t σ G fun ws G1=>f.sp ws G1 Q XN)
theorem xY {e:Expr} {es:List Expr} {env:Env} {pos:Pos} (h:(e::es).all noStar=true):starEach (e::es) env=(false,eval e env)::starEach es env/\(backTo pos (starEach es env)).any (·.1)=false:=by
 rw [List.all_cons,Bool.and_eq_true] at h;refine ⟨jF h.1,?_⟩;have h2:=h.2
 clear h
 induction es with
 |nil=>rfl
 |cons a r ih =>
  rw [List.all_cons,Bool.and_eq_true] at h2;rw [jF h2.1];show (false || (backTo pos (starEach r env)).any (·.1))=false;rw [ih h2.2];rfl
theorem Fits.eq {p:Par} {X:Cx} (f:Fits p X):p=⟨X.prog,X.w,X.K,X.mg,X.base,X.A⟩:=by
 obtain ⟨e1,e2,e3,e4,e5,e6,_,_⟩:=f;rw [e1,e2,e3,e4,e5,e6]
theorem pa_sp {X:Cx} {args:List Expr} {t:A3} {sp:sV} {dws:List W} {dvs:List V} (m:qY t) (hd:∀ H,zQ X.K H dws dvs) (mono:∀ ws G (Q Q':Q3),(∀ w G',Q w G'->Q' w G')->sp ws G Q XN->sp ws G Q' XN) {τ:L2.St} {H:Hp} {Q:VK} {E:XK}
  (h:yB X.K (fun σ G Q=>t σ G fun ws G1=>sp (ws++dws) G1 Q XN) τ H Q):zfi (jB X.K sp) dvs E (qC X.K t) τ H Q:=by
 obtain ⟨σ,G,hs,ab,h⟩:=h;refine kQ m hs ab h fun ws G1 vs H1 g1 hs1 rs a1 h=>?_;exact ⟨ws++dws,G1,rs.append (hd H1),a1,mono _ _ _ _ (fun w G' z v' H' g'=>z v' H' (g1.trans g')) h⟩
theorem ziJ {q:Pr} {k:Nat} {nm:Str} {f:Addr} {fd:FuncData} {ps:List Str} {ds:List Value} {dvs:List V} {dws:List W} {sp:sV} (FO:FnOk q.prog q.w q.K q.mg q.base CX0 k f fd ps (jB q.K sp)) (hm:q.mg nm=some (.ref f)) (hk:PySem.W.keepIn q.K (.ref f)=true)
  (hb:wH q.K fd ps ds) (hd:∀ H,zQ q.K H dws dvs) (hv:zF dvs ds) (mono:∀ ws G (Q Q':Q3),(∀ w G',Q w G'->Q' w G')->sp ws G Q XN->sp ws G Q' XN) {A:Around} (hr:Room k A):FnE (q.at A) ⟨nm,fun ws G Q _=>sp (ws++dws) G Q XN⟩:=by
 intro X fits gl args t qp pos mt hn pa hnil hdb hnm;have e:=fits.eq
 injection e with e1 e2 e3 e4 e5 e6
 subst e6;rw [e1,e2,e3,e4,e5] at FO;rw [e4] at hm;rw [e3] at hk hb hd
 cases args with
 |nil =>
  refine (zdl (p:=qp) (pos:=pos) FO hr gl hm hk hb hv bF hdb).imp fun τ H Q h=>?_;obtain ⟨σ,G,hs,ab,h⟩:=h;have h:=hnil rfl _ _ _ h;exact ⟨dws,G,hd H,ab,h⟩
 |cons a r =>
  obtain ⟨s1,s2⟩:=xY (env:=X.env) (pos:=pos) hn;exact (zfI (p:=qp) (pos:=pos) FO hr gl hm hk hb hv bF pa hdb s1 s2).imp fun τ H Q h=>pa_sp (args:=a::r) mt hd mono h
end L3
namespace L3
open PySem PySem.Spec PyProof.Rows L2 PySem.SeqAt
def mkSp (C:Addr) (sp:sV) (dws:List W):sV:=fun ws G Q _=>∀ p,G p=none->sp (.ref p::(ws++dws)) (put G p (.ins C [])) (fun v G2=>v=.non/\Q (.ref p) G2) XN
theorem ziK {q:Pr} {k:Nat} {nm:Str} {C f:Addr} {fd:FuncData} {ps:List Str} {ds:List Value} {dvs:List V} {dws:List W} {sp:sV} (M:Mk q.K C f) (FO:FnOk q.prog q.w q.K q.mg q.base CX0 k f fd ps (jB q.K sp)) (hm:q.mg nm=some (.ref C))
  (hb:wH q.K fd ps ds) (hd:∀ H,zQ q.K H dws dvs) (hv:zF dvs ds) (mono:∀ ws G (Q Q':Q3),(∀ w G',Q w G'->Q' w G')->sp ws G Q XN->sp ws G Q' XN) {A:Around} (hr:Room (k+1) A):FnE (q.at A) ⟨nm,mkSp C sp dws⟩:=by
 intro X fits gl args t qp pos mt hn pa hnil hdb hnm;have e:=fits.eq
 injection e with e1 e2 e3 e4 e5 e6
 subst e6;rw [e1,e2,e3,e4,e5] at FO;rw [e4] at hm;rw [e3] at M hb hd
 have core:∀ (ws:List W) (G1:Hw) (vs:List V) (H H1:Hp) (Q:VK),yV X.K H H1->zQ X.K H1 ws vs->yC X.K H1 G1->mkSp C sp dws ws G1 (jL X.K H Q) XN->∀ x dx,H1 x=none->H1 dx=none->dx≠x ->
   jB X.K sp (.ref x::(vs++dvs)) (yT (yT H1 dx (.own x)) x (.ins C dx [])) (fun v H2=>v=.non/\Q (.ref x) H2) E0:=by
  intro ws G1 vs H H1 Q g1 rs a1 h x dx hx hdx hne;have a2:yC X.K (yT H1 dx (.own x)) G1:=a1.tup hdx;have g2:yV X.K H1 (yT H1 dx (.own x)):=yF hdx;have hx2:(yT H1 dx (.own x)) x=none:=by rw [zW hne.symm];exact hx
  have g3:yV X.K (yT H1 dx (.own x)) (yT (yT H1 dx (.own x)) x (.ins C dx [])):=yF hx2;have a3:yC X.K (yT (yT H1 dx (.own x)) x (.ins C dx [])) (put G1 x (.ins C [])):=a2.new hx2 ⟨dx,[],rfl,rfl⟩;refine ⟨.ref x::(ws++dws),put G1 x (.ins C []),⟨_,_,rfl,rfl,(rs.mono (g2.trans g3)).append (hd _)⟩,a3,mono _ _ _ _ (fun w G' z v' H' g' r' a'=>?_) (h x (a1.free hx))⟩;obtain ⟨rfl,z⟩:=z;exact ⟨r',z (.ref x) H' (g1.trans (g2.trans (g3.trans g'))) rfl a'⟩
 cases args with
 |nil =>
  refine (zdg (p:=qp) (pos:=pos) M FO hr gl hm hb hv bF hdb).imp fun τ H Q h=>?_;obtain ⟨σ,G,hs,ab,h⟩:=h;exact core [] G [] H H Q .refl rfl ab (hnil rfl _ _ _ h)
 |cons a r =>
  obtain ⟨s1,s2⟩:=xY (env:=X.env) (pos:=pos) hn;refine (zfD (p:=qp) (pos:=pos) M FO hr gl hm hb hv bF pa hdb s1 s2).imp fun τ H Q h=>?_;obtain ⟨σ,G,hs,ab,h⟩:=h;exact kQ mt hs ab h fun ws G1 vs H1 g1 hs1 rs a1 h=>core ws G1 vs H H1 Q g1 rs a1 h
abbrev RS:=List W->Hw->Q3->Prop
def jV (sp:RS):Prop:=∀ ws G (Q Q':Q3),(∀ w G',Q w G'->Q' w G')->sp ws G Q->sp ws G Q'
def sG (K:yZ) (sp:RS):List V->Hp->VK->Prop:=fun vs H Q=>∃ ws G,zQ K H ws vs/\yC K H G/\sp ws G (jL K H Q)
theorem dR {X:Cx} {t:A3} {sp:RS} (mt:qY t) (mono:jV sp) {τ:L2.St} {H:Hp} {Q:VK} (h:yB X.K (fun σ G Q=>t σ G fun ws G1=>sp ws G1 Q) τ H Q):tCB (sG X.K sp) (qC X.K t) τ H Q:=by
 obtain ⟨σ,G,hs,ab,h⟩:=h;exact kQ mt hs ab h fun ws G1 vs H1 g1 hs1 rs a1 h=>⟨ws,G1,rs,a1,mono _ _ _ _ (fun w G' z v' H' g'=>z v' H' (g1.trans g')) h⟩
theorem nY {q:Pr} {A:Around} {nm:Str} {id:String} {sp:RS} (hm:q.mg nm=none) (hv:bootBuiltins nm=some (.builtin id)) (hc:∀ X,Fits (q.at A) X->wC X (.builtin id) (sG X.K sp)) (mono:jV sp) (h0:∀ G Q,¬ sp [] G Q):FnE (q.at A) ⟨nm,fun ws G Q _=>sp ws G Q⟩:=by
 intro X fits gl args t qp pos mt hn pa hnil hdb hnm;have hm':X.mg nm=none:=by rw [fits.mg];exact hm
 cases args with
 |nil=>exact fun pins s σ H Q I h=>absurd (hnil rfl _ _ _ h.choose_spec.choose_spec.2.2) (h0 _ _)
 |cons a r =>
  obtain ⟨s1,s2⟩:=xY (env:=X.env) (pos:=pos) hn;exact (zdk (p:=qp) (pos:=pos) (hc X fits) gl hm' hv pa hnm hdb s1 s2).imp fun τ H Q h=>dR mt mono h
theorem fn_ty {q:Pr} {A:Around} {nm:Str} {T:String} {sp:RS} (hm:q.mg nm=none) (hv:bootBuiltins nm=some (.type T)) (hc:∀ X,Fits (q.at A) X->wC X (.type T) (sG X.K sp)) (mono:jV sp) (h0:∀ G Q,¬ sp [] G Q):FnE (q.at A) ⟨nm,fun ws G Q _=>sp ws G Q⟩:=by
 intro X fits gl args t qp pos mt hn pa hnil hdb hnm;have hm':X.mg nm=none:=by rw [fits.mg];exact hm
 cases args with
 |nil=>exact fun pins s σ H Q I h=>absurd (hnil rfl _ _ _ h.choose_spec.choose_spec.2.2) (h0 _ _)
 |cons a r =>
  obtain ⟨s1,s2⟩:=xY (env:=X.env) (pos:=pos) hn;exact (zbm (p:=qp) (pos:=pos) (hc X fits) gl hm' hv pa hnm hdb s1 s2).imp fun τ H Q h=>dR mt mono h
abbrev MS:=W->List W->Hw->Q3->Prop
def MtE (p:Par) (m:Mt3):Prop:=∀ X,Fits p X->∀ (o:Expr) (args:List Expr) (to:E3) (t:A3) (apos cpos:Pos),wV to->qY t->tY o=true->(apos.endLine==cpos.line)=true->args.length<25->args.all noStar=true ->
  PE X o (yB X.K to)->PA X args (qC X.K t)->(args=[]->∀ σ G Q,t σ G Q->Q [] G)->PE X (.Call (.Attribute o m.nm apos) args [] cpos) (yB X.K fun σ G Q=>to σ G fun x G1=>tyW G1 x m.T/\t σ G1 fun ws G2=>m.sp x ws G2 Q)
def lowM (K:yZ) (sp:MS):V->List V->Hp->VK->Prop:=fun x vs H Q=>∃ w ws G,xN K H w x/\zQ K H ws vs/\yC K H G/\sp w ws G (jL K H Q)
theorem zdP {args:List Expr} {env:Env} {pos:Pos} (h:args.all noStar=true):(backTo pos (starEach args env)).all (fun x=>!x.1)=true:=by
 induction args with
 |nil=>rfl
 |cons a r ih =>
  rw [List.all_cons,Bool.and_eq_true] at h;rw [jF h.1];show (true&&(backTo pos (starEach r env)).all (fun x=>!x.1))=true;rw [ih h.2];rfl
theorem tK {p:Par} {nm:Str} {T id:String} {sp:MS} (pa:PlainAttrs T) (slot:Slot T nm id) (hty:typeOf (.builtin id)=pure (.type "method_descriptor")) (hm:∀ X,Fits p X->MtR X id (lowM X.K sp))
  (mono:∀ x ws G (Q Q':Q3),(∀ w G',Q w G'->Q' w G')->sp x ws G Q->sp x ws G Q'):MtE p ⟨nm,T,sp⟩:=by
 intro X fits o args to t apos cpos mo mt ho hline hlen hn po pa' hnil
 cases args with
 |nil =>
  refine (zhT pa slot hty (hm X fits) po (kX ho) hline).imp fun τ H Q h=>?_;obtain ⟨σ,G,hs,ab,h⟩:=h;refine yE mo hs ab h fun w G1 v H1 g1 hs1 rw1 a1 h=>⟨zeb rw1 a1 h.1,w,[],G1,rw1,rfl,a1,mono _ _ _ _ _ (fun w' G' z v' H' g'=>z v' H' (g1.trans g')) (hnil rfl _ _ _ h.2)⟩
 |cons a r =>
  obtain ⟨s1,s2⟩:=xY (env:=X.env) (pos:=cpos) hn;refine (pe_bm pa slot hty (hm X fits) po pa' (kX ho) ?_ hline s1 s2).imp fun τ H Q h=>?_
  .rw [zdP hn]
   have:(a::r).length+([]:List Keyword).length+(if ([]:List Keyword).isEmpty then 0 else 1)<30:=by
    show (a::r).length+0+0<30;omega
   rw [decide_eq_true this];rfl
  .obtain ⟨σ,G,hs,ab,h⟩:=h;refine yE mo hs ab h fun w G1 v H1 g1 hs1 rw1 a1 h=>⟨zeb rw1 a1 h.1,?_⟩;exact kQ mt hs1 a1 h.2 fun ws G2 vs H2 g2 hs2 rs a2 h=>⟨w,ws,G2,rw1.mono g2,rs,a2,mono _ _ _ _ _ (fun w' G' z v' H' g'=>z v' H' (g1.trans (g2.trans g'))) h⟩
def maxS:RS:=fun ws G Q=>match ws with
 | [.int i,.int j]=>Q (.int (if j > i then j else i)) G
 |_=>False
theorem gN:jV maxS:=by
 intro ws G Q Q' k h;unfold maxS at h ⊢
 split at h
 .exact k _ _ h
 .exact h.elim
theorem pW {K:yZ} {H:Hp} {a b:W} {vs:List V} (r:zQ K H [a,b] vs):∃ x y,vs=[x,y]/\xN K H a x/\xN K H b y:=by
 obtain ⟨x,t,rfl,rx,y,t',rfl,ry,rt⟩:=r;cases (show t'=[] from rt);exact ⟨x,y,rfl,rx,ry⟩
theorem kR {K:yZ} {H:Hp} {a:W} {vs:List V} (r:zQ K H [a] vs):∃ x,vs=[x]/\xN K H a x:=by
 obtain ⟨x,t,rfl,rx,rt⟩:=r;cases (show t=[] from rt);exact ⟨x,rfl,rx⟩
theorem zic {X:Cx} (hc:X.calm=true):wC X (.builtin "max") (sG X.K maxS):=by
 intro pins s σ H xs us Q I r h;obtain ⟨ws,G,rs,ab,h⟩:=h;unfold maxS at h
 split at h
 .rename_i i j;obtain ⟨x,y,rfl,rx,ry⟩:=pW rs;cases (show x=.int i from rx);cases (show y=.int j from ry);exact zco hc pins s σ H _ us Q I r ⟨i,j,rfl,h _ H .refl rfl ab⟩
 .exact h.elim
def tF (G:Hw):W->Option Nat
 | .str x=>if x.length<=sizeLine then some x.length else none
 | .tup ws=>some ws.length
 | .ref p=>match G p with
  |some (.lst ws)=>some ws.length
  |some (.fix ws)=>some ws.length
  |some (.dic kvs)=>some kvs.length
  |_=>none
 |_=>none
def tE:RS:=fun ws G Q=>match ws with
 | [x]=>(match tF G x with|some n=>Q (.int n) G|none=>False)
 |_=>False
theorem gJ:jV tE:=by
 intro ws G Q Q' k h;unfold tE at h ⊢
 split at h
 .split at h
  .exact k _ _ h
  .exact h.elim
 .exact h.elim
theorem zfW {X:Cx}:wC X (.builtin "len") (fun xs H Q=>∃ a kvs,xs=[V.ref a]/\H a=some (.dK kvs)/\Q (.int kvs.length) H):=by
 intro pins s σ H xs us Q I r h;obtain ⟨a,kvs,rfl,ha,q⟩:=h;obtain ⟨u,rfl,ru⟩:=kT r;cases ru;exact d_len I (.inl ha) fun t s' I'=>⟨.int kvs.length,H,I',⟨t,rfl⟩,q⟩
theorem zif {X:Cx}:wC X (.builtin "len") (sG X.K tE):=by
 intro pins s σ H xs us Q I r h;obtain ⟨ws,G,rs,ab,h⟩:=h;unfold tE at h
 split at h
 .rename_i w;obtain ⟨v,rfl,rv⟩:=kR rs
  split at h
  .rename_i n hn;have q:Q (.int n) H:=h (.int n) H .refl rfl ab
   cases w with
   |str x =>
    cases (show v=.str x from rv);simp only [tF] at hn
    split at hn
    .rename_i hl;cases hn;exact cU pins s σ H _ us Q I r ⟨x,rfl,hl,q⟩
    .cases hn
   |tup ws' =>
    obtain ⟨a,vs,rfl,sq,rr⟩:=rv;simp only [tF] at hn;cases hn;exact kZ pins s σ H _ us Q I r ⟨a,vs,rfl,.inr sq,by rw [rr.length];exact q⟩
   |ref p =>
    cases (show v=.ref p from rv);simp only [tF] at hn
    split at hn
    .rename_i ws' e;cases hn;obtain ⟨vs,sq,rr⟩:=ab.seq (show yU G p=some ws' by unfold yU;rw [e]);exact kZ pins s σ H _ us Q I r ⟨p,vs,rfl,.inl sq,by rw [rr.length];exact q⟩
    .rename_i ws' e;cases hn;obtain ⟨vs,sq,rr⟩:=ab.seq (show yU G p=some ws' by unfold yU;rw [e]);exact kZ pins s σ H _ us Q I r ⟨p,vs,rfl,.inl sq,by rw [rr.length];exact q⟩
    .rename_i kvs e;cases hn;obtain ⟨l,e',rl⟩:=ab.dic e;exact zfW pins s σ H _ us Q I r ⟨p,l,rfl,e',by rw [rl.length];exact q⟩
    .cases hn
   |_=>simp [tF] at hn
  .exact h.elim
 .exact h.elim
def wX (G:Hw):W->Option (List W)
 | .tup ws=>some ws
 | .ref p=>yU G p
 |_=>none
def lstS:RS:=fun ws G Q=>match ws with
 | [x]=>(match wX G x with|some xs=>∀ p,G p=none->Q (.ref p) (put G p (.lst xs))|none=>False)
 |_=>False
theorem gM:jV lstS:=by
 intro ws G Q Q' k h;unfold lstS at h ⊢
 split at h
 .split at h
  .exact fun p hp=>k _ _ (h p hp)
  .exact h.elim
 .exact h.elim
theorem zfn {K:yZ} {H:Hp} {G:Hw} {w:W} {v:V} {xs:List W} (ab:yC K H G) (r:xN K H w v) (e:wX G w=some xs):∃ a vs b,v=.ref a/\rZ b K H a vs/\zQ K H xs vs:=by
 cases w with
 |tup ws =>
  obtain ⟨a,vs,rfl,sq,rr⟩:=r;cases e;exact ⟨a,vs,true,rfl,sq,rr⟩
 |ref p =>
  cases (show v=.ref p from r);obtain ⟨vs,sq,rr⟩:=ab.seq e;exact ⟨p,vs,false,rfl,sq,rr⟩
 |_=>cases e
theorem zid {X:Cx}:wC X (.type "list") (sG X.K lstS):=by
 intro pins s σ H xs us Q I r h;obtain ⟨ws,G,rs,ab,h⟩:=h;unfold lstS at h
 split at h
 .rename_i w;obtain ⟨v,rfl,rv⟩:=kR rs
  split at h
  .rename_i ys hy;obtain ⟨a,vs,b,rfl,sq,rr⟩:=zfn ab rv hy;refine cV pins s σ H _ us Q I r ⟨a,vs,rfl,?_,jD ab rr h⟩;cases b
   .exact .inl sq
   .exact .inr sq
  .exact h.elim
 .exact h.elim
def allS (f:List Bool->Bool):RS:=fun ws G Q=>match ws with
 | [.ref p]=>∃ bs:List Bool,yU G p=some (bs.map .bl)/\Q (.bl (f bs)) G
 |_=>False
theorem fP (f:List Bool->Bool):jV (allS f):=by
 intro ws G Q Q' k h;unfold allS at h ⊢
 split at h
 .obtain ⟨bs,e,h⟩:=h;exact ⟨bs,e,k _ _ h⟩
 .exact h.elim
theorem nP {K:yZ} {H:Hp}:∀ {bs:List Bool} {vs:List V} {us:List Value},zQ K H (bs.map .bl) vs->zF vs us->us=bs.map .bool
 | [],vs,us,r,v=>by cases (show vs=[] from r);cases v;rfl
 |b::bs,vs,us,r,v=>by
  obtain ⟨x,t,rfl,rx,rt⟩:=r;cases (show x=.bl b from rx)
  cases v with
  |cons a c =>
   cases (show _=Value.bool b from a);rw [nP rt c];rfl
theorem zcw (bs:List Bool):(List.range bs.length).all (fun i=>(bs[i]?).getD false)=bs.all id:=by
 rw [Bool.eq_iff_iff,List.all_eq_true,List.all_eq_true]
 constructor
 .intro h b hb;obtain ⟨i,hi,rfl⟩:=List.mem_iff_getElem.mp hb;have:=h i (List.mem_range.mpr hi)
  rwa [List.getElem?_eq_getElem hi] at this
 .intro h i hi;have hi:=List.mem_range.mp hi;rw [List.getElem?_eq_getElem hi];exact h _ (List.getElem_mem hi)
theorem zd7 {X:Cx} (hc:X.calm=true) {pins:List (Addr×Obj)} {s:Shared} {σ:L2.St} {H:Hp} {G:Hw} {p:Addr} {bs:List Bool} (I:Inv X pins σ H s) (ab:yC X.K H G) (e:yU G p=some (bs.map .bl)) {A:Around} (hh:A.handled=none) {E:Value->Shared->Prop}
  {R:Value->Shared->Prop} (h:∀ (I':Addr) (s₂:Shared),Walks X.prog X.w A I' [I',p] [I'] bs.length (fun i v=>(bs.map Value.bool).toArray[i]?=some v) (fun i h=>h.IsListIter I' p i/\h.IsList p (bs.map Value.bool).toArray)->(s₂.heap.IsListIter I' p 0/\s₂.heap.IsList p (bs.map Value.bool).toArray) ->
   (∀ h' tk,(∀ b o,b∉[I']->s₂.heap.get? b=some o->h'.get? b=some o)->0<tk->Inv X pins σ H { s₂ with heap:=h',toks:=tk })->R (.ref I') s₂):wpAny (model X.prog X.w) A (pyIter (.ref p)) R E s:=by
 obtain ⟨vs,sq,rr⟩:=ab.seq e;obtain ⟨its,rv,pl,hz⟩:=I.list sq;have eits:=nP rr rv;subst eits;have hl:=pl.isList;refine wpAny_pyIter_list hl ?_
 have hne:p≠s.heap.objs.size:=by
  obtain ⟨o,ho,_⟩:=hl;exact Nat.ne_of_lt (Heap.lt_size ho)
 have W:=Walks.list (prog:=X.prog) (w:=X.w) hh s.heap.objs.size p hne (bs.map Value.bool).toArray;have hn:(bs.map Value.bool).toArray.size=bs.length:=by simp
 rw [hn] at W;refine h _ _ W ⟨⟨_,Heap.get?_push_size _ rfl,rfl,rfl⟩,hl.push _⟩ fun h' tk k h0=>I.kept (fun b o e=>k b o (fun hm=>?_) (Heap.get?_push_of_some _ e)) h0;rw [List.mem_singleton] at hm;exact Nat.ne_of_lt (Heap.lt_size e) hm
theorem zcJ {P:Program} {w:World} {A:Around} {bs:List Bool}:TruthOf P w A (fun i v=>(bs.map Value.bool).toArray[i]?=some v) (fun i=>(bs[i]?).getD false):=by
 intro i v s Q E h q;have h':(bs[i]?).map Value.bool=some v:=by simpa using h
 cases e:bs[i]? with
 |none=>rw [e] at h';cases h'
 |some b =>
  rw [e] at h';cases h';have q':Q ((bs[i]?).getD false) s:=q;rw [e] at q';exact wpAny_truthy_bool q'
theorem zi3 {X:Cx} (hc:X.calm=true):wC X (.builtin "all") (sG X.K (allS (·.all id))):=by
 intro pins s σ H xs us Q I r h;obtain ⟨ws,G,rs,ab,h⟩:=h;unfold allS at h
 split at h
 .rename_i p;obtain ⟨v,rfl,rv⟩:=kR rs;cases (show v=.ref p from rv);obtain ⟨bs,e,h⟩:=h;obtain ⟨u,rfl,ru⟩:=kT r;cases ru;refine wF I.tk (call_all_walk (zd7 hc I ab e (A:=X.A.in1) (I.ok.hd hc) fun I' s₂ W st k=>⟨I',_,_,_,_,_,_,rfl,W,st,zcJ,fun h' tk hk h0=>?_⟩));rw [zcw];exact ⟨.bl (bs.all id),H,k h' tk hk h0,rfl,h _ H .refl rfl ab⟩
 .exact h.elim
def tyO (G:Hw):W->Option String
 | .non=>some "NoneType"
 | .bl _=>some "bool"
 | .int _=>some "int"
 | .str _=>some "str"
 | .tup _=>some "tuple"
 | .ref p=>match G p with
  |some (.lst _)=>some "list"
  |some (.fix _)=>some "list"
  |some (.dic _)=>some "dict"
  |_=>none
 |_=>none
def popS:MS:=fun x ws G Q=>match x,ws with
 | .ref p,[]=>(match G p with
  |some (.lst xs)=>(match xs[xs.length-1]? with|some y=>Q y (put G p (.lst xs.dropLast))|none=>False)
  |_=>False)
 |_,_=>False
theorem gU:∀ x ws G (Q Q':Q3),(∀ w G',Q w G'->Q' w G')->popS x ws G Q->popS x ws G Q':=by
 intro x ws G Q Q' k h;unfold popS at h ⊢
 split at h
 .split at h
  .split at h
   .exact k _ _ h
   .exact h.elim
  .exact h.elim
 .exact h.elim
theorem zhG {X:Cx}:MtR X "list.pop" (lowM X.K popS):=by
 intro pins s σ H x xs v us Q I rx rxs h;obtain ⟨w,ws,G,rw1,rs,ab,h⟩:=h;unfold popS at h
 split at h
 .rename_i p;cases (show x=.ref p from rw1);cases (show xs=[] from rs)
  split at h
  .rename_i ys e
   split at h
   .rename_i y ey;obtain ⟨vs,ev,rr⟩:=ab.lst e;obtain ⟨vy,evy,ry⟩:=rr.get ey;have gr:yV X.K H (yT H p (.lst vs.dropLast)):=ab.grow e;exact zh8 pins s σ H _ _ v us Q I rx rxs ⟨p,vs,vy,rfl,rfl,ev,by rw [rr.length];exact evy,h vy _ gr (ry.mono gr) (ab.chg e ⟨_,rfl,rr.dropLast.mono gr⟩)⟩
   .exact h.elim
  .exact h.elim
 .exact h.elim
def appS:MS:=fun x ws G Q=>match x,ws with
 | .ref p,[y]=>(match G p with
  |some (.lst xs)=>xs.length<sizeLine/\Q .non (put G p (.lst (xs++[y])))
  |_=>False)
 |_,_=>False
theorem fQ:∀ x ws G (Q Q':Q3),(∀ w G',Q w G'->Q' w G')->appS x ws G Q->appS x ws G Q':=by
 intro x ws G Q Q' k h;unfold appS at h ⊢
 split at h
 .split at h
  .exact ⟨h.1,k _ _ h.2⟩
  .exact h.elim
 .exact h.elim
theorem zi2 {X:Cx}:MtR X "list.append" (lowM X.K appS):=by
 intro pins s σ H x xs v us Q I rx rxs h;obtain ⟨w,ws,G,rw1,rs,ab,h⟩:=h;unfold appS at h
 split at h
 .rename_i p y;cases (show x=.ref p from rw1);obtain ⟨vy,rfl,ry⟩:=kR rs
  split at h
  .rename_i ys e;obtain ⟨vs,ev,rr⟩:=ab.lst e;have gr:yV X.K H (yT H p (.lst (vs++[vy]))):=ab.grow e;exact zbx pins s σ H _ _ v us Q I rx rxs ⟨p,vs,vy,rfl,rfl,ev,by rw [rr.length];exact h.1,h.2 .non _ gr (show xN X.K _ .non .non from rfl) (ab.chg e ⟨_,rfl,(rr.append (show zQ X.K H [y] [vy] from ⟨vy,[],rfl,ry,rfl⟩)).mono gr⟩)⟩
  .exact h.elim
 .exact h.elim
def ItE (p:Par) (i:It3):Prop:=∀ X,Fits p X->Gl X i.nm->∀ (tg:Expr) (args:List Expr) (t:A3) (q pos:Pos),qY t->args.all noStar=true->PA X args (qC X.K t)->(args=[]->∀ σ G Q,t σ G Q->Q [] G)->(i.nm==("__debug__" : Str))=false->i.nm ≠ "__name__" ->
  PI X tg (.Call (.Name i.nm q) args [] pos) (lowI X.K fun σ G R=>t σ G fun ws G1=>i.sp ws G1 R)
def lofM (nm:Str):Scope->Expr->Option (List Expr):=fun sc e=>match e with
 | .Call (.Name o _) [.Call (.Name x _) xs [] _] [] _=>if o==("list" : Str)&&x==nm&&qO sc o&&qO sc x&&!xs.isEmpty then some xs else none
 |_=>none
theorem zdu {nm:Str} {sc:Scope} {e:Expr} {xs:List Expr} (h:lofM nm sc e=some xs):∃ qo q pos pos' a r,xs=a::r/\e=.Call (.Name "list" qo) [.Call (.Name nm q) (a::r) [] pos] [] pos'/\qO sc "list" = true/\qO sc nm=true:=by
 have no:¬ ((none:Option (List Expr))=some xs):=fun e=>nomatch e
 cases e with
 |Call f args kws pos' =>
  cases f with
  |Name o qo =>
   cases args with
   |nil=>exact absurd h no
   |cons c rest =>
    cases c with
    |Call g ys kw2 pos =>
     cases g with
     |Name x q =>
      cases kw2 with
      |nil =>
       cases rest with
       |nil =>
        cases kws with
        |nil =>
         replace h:(if (o==("list" : Str)&&x==nm&&qO sc o&&qO sc x&&!ys.isEmpty)=true then some ys else none)=some xs:=h
         by_cases hb:(o==("list" : Str)&&x==nm&&qO sc o&&qO sc x&&!ys.isEmpty)=true
         .rw [if_pos hb] at h;cases h;simp only [Bool.and_eq_true,beq_iff_eq,Bool.not_eq_true',List.isEmpty_eq_false_iff] at hb;obtain ⟨⟨⟨⟨rfl,rfl⟩,h1⟩,h2⟩,h3⟩:=hb
          cases xs with
          |nil=>exact absurd rfl h3
          |cons a r=>exact ⟨qo,q,pos,pos',a,r,rfl,rfl,h1,h2⟩
         .rw [if_neg hb] at h;exact absurd h no
        |cons _ _=>exact absurd h no
       |cons _ _=>exact absurd h no
      |cons _ _=>exact absurd h no
     |_=>exact absurd h no
    |_=>exact absurd h no
  |_=>exact absurd h no
 |_=>exact absurd h no
def SxE (p:Par) (k:Sx3):Prop:=∀ X,Fits p X->∀ (e:Expr) (xs:List Expr) (es:List E3),k.m X.env.scope e=some xs->tX X xs es->xs.all noStar=true->PA X xs (qC X.K (vF es)) ->
  PE X e (yB X.K fun σ G Q=>vF es σ G fun ws G1=>k.sp ws G1 Q)/\(∀ whole,isTrue e X.env whole=(do let v ← whole;standAt e.pos;holding [v] (truthy v)))/\∀ op vs pos,e≠.BoolOp op vs pos
theorem xE {X:Cx}:∀ {xs:List Expr} {es:List E3},tX X xs es->qY (vF es)
 | [],[],_=>fun σ G Q Q' k h=>k _ _ h
 |_::_,_::_,⟨m,_,r⟩=>fun σ G Q Q' k h=>m σ G _ _ (fun x G1 h=>xE r σ G1 _ _ (fun xs G2 h=>k _ _ h) h) h
theorem zhg {q:Pr} {A:Around} {nm:Str} {T:String} {sp:RS} (hl:q.mg "list" = none) (hm:q.mg nm=none) (hv:bootBuiltins nm=some (.type T)) (mono:jV sp)
  (hc:∀ X,Fits (q.at A) X->∀ (pins:List (Addr×Obj)) (s:Shared) (σ:L2.St) (H:Hp) (vs:List V) (us:List Value) (Q:VK),Inv X pins σ H s->zF vs us->sG X.K sp vs H Q ->
   wpAny (model X.prog X.w) X.A (call (.type T) us) (fun v s1=>wpAny (model X.prog X.w) X.A (call (.type "list") [v]) (EP X pins σ Q) X.xe s1) X.xe s):SxE (q.at A) ⟨lofM nm,sp⟩:=by
 intro X fits e xs es he each hn pa;obtain ⟨qo,qq,pos,pos',a,r,rfl,rfl,g1,g2⟩:=zdu he;obtain ⟨gl1,d1,n1⟩:=uH rfl g1;obtain ⟨gl2,d2,n2⟩:=uH rfl g2;have hl':X.mg "list" = none:=by rw [fits.mg];exact hl
 have hm':X.mg nm=none:=by rw [fits.mg];exact hm
 refine ⟨fun pins s σ H Q I h=>?_,fun _=>rfl,fun _ _ _ z=>nomatch z⟩;obtain ⟨s1,s2⟩:=xY (env:=X.env) (pos:=pos) hn;have h':=dR (xE each) mono h;refine wpAny_Call_Name_kw (kB I gl1 hl' boot_list ?_ n1 d1);refine PyProof.Rows.callWith_type1 (e:=.Call (.Name nm qq) (a::r) [] pos) (rest:=[]) ?_ rfl rfl;show wpAny _ _ (spliced ((false,eval (.Call (.Name nm qq) (a::r) [] pos) X.env)::backTo pos' (starEach [] X.env))) _ _ s;refine Calls.spliced_cons (wpAny_Call_Name_kw (kB I gl2 hm' hv (PyProof.Rows.callWith_type1 (yI (pa pos pins s σ H _ I h') fun us s1 ⟨vs,H1,I1,r1,q1⟩=>?_) s1 s2) n2 d2));exact yI (hc X fits pins s1 σ H1 vs us Q I1 r1 q1) fun v s2 z=>Calls.spliced_nil z
theorem zaH (n:Nat):[n+4,n+2,n+3,n,n+1].Nodup:=by
 simp
theorem zah (n a:Nat) (h:a<n):a∉[n+4,n+2,n+3,n,n+1]:=by
 simp only [List.mem_cons,List.not_mem_nil,or_false,not_or];omega
theorem zbZ (n b:Nat) (h:b∈[n+4,n+2,n+3,n,n+1]):n<=b:=by
 simp only [List.mem_cons,List.not_mem_nil,or_false] at h;omega
def Itv (K:yZ) (a:Addr) (n:Nat):It where
 go:=fun i H=>∃ xs,sJ K H a xs/\xs.length=n/\i<n
 yld:=fun i H v H'=>H'=H/\∀ xs,sJ K H a xs->xs.length=n->xs[n-1-i]?=some v
 stop:=fun i H=>i=n
theorem zaE:typeLookup (.type "list_reverseiterator") "__len__" = pure none:=by rw [typeLookup_type,builtinLookup_eq_fast];kernel_rfl
theorem zds:typeLookup (.type "list_reverseiterator") "__length_hint__" = pure (some (.builtin "list_reverseiterator.__length_hint__")):=by rw [typeLookup_type,builtinLookup_eq_fast];kernel_rfl
theorem zfo {P:Program} {w:World} {A:Around} {it a:Addr} {i:Int} {s:Shared} {Q:Bool->Shared->Prop} {E:Value->Shared->Prop} (st:s.heap.IsRevIter it a i) (h:∀ b,Q b s):wpAny (model P w) A (Builtin.List.listLengthHint (.ref it)) Q E s:=by
 have hT:=st.typeIs;unfold Builtin.List.listLengthHint;refine wpAny_bind (wpAny_specialOf hT zaE ?_);show wpAny _ _ (specialOf (Value.ref it) (Str.ofString "__length_hint__") >>= _) _ _ _;refine wpAny_bind (wpAny_specialOf hT zds ?_)
 (generalize hid:("list_reverseiterator.__length_hint__" : String)=id0;(fail_if_success (clear hid id0));wp_delta;rw [show splitId id0=some ("list_reverseiterator", "__length_hint__") from by subst hid;decide +kernel];subst hid)
 refine wpAny_bind (wpAny_isInstance (b:=true) hT (by rw [isSubtype_type];kernel_rfl) ?_);exact wpAny_pure (h _)
theorem zc1 (P:Program) (w:World) (K:yZ) {it a:Addr} {n:Nat} (hne:a≠it):TurnL P w K "list_reverseiterator" (Itv K a n) [it] it (fun i h=>i<=n/\h.IsRevIter it a ((n:Int)-1-i)) where
 mem:=by simp
 ty:=fun i h ⟨_,o,ho,hc,_⟩=>⟨o,ho,hc⟩
 obj:=fun i h ⟨_,o,ho,hc,hd⟩ b hb=>by
  rw [List.mem_singleton] at hb;subst hb;exact ⟨o,ho,fun v z=>by rw [hd] at z;cases z⟩
 keep:=fun i h h' ⟨hi,x⟩ k=>⟨hi,x.at fun o e=>k it (by simp) o e⟩
 item:=by
  intro X e1 e2 e3 hc i pins s σ H E I hf st go;subst e1;subst e2;subst e3;obtain ⟨hi,st⟩:=st;obtain ⟨xs,sq,ln,hlt⟩:=go;obtain ⟨its,rv,pl,hz⟩:=I.list sq;have hlx:n-1-i<xs.length:=by omega
  obtain ⟨u,eu,ru⟩:=rv.get (List.getElem?_eq_getElem hlx);have e:(n:Int)-1-(i:Int)=((n-1-i:Nat):Int):=by omega
  rw [e] at st;refine wpAny_pyNext_rev_item st pl.isList (x:=u) (by simpa using eu) fun h' st' sb=>?_;have e':((n-1-i:Nat):Int)-1=(n:Int)-1-((i+1:Nat):Int):=by omega
  rw [e'] at st';obtain ⟨f1,f2,f3,f4,f5,f6⟩:=hf it (by simp);refine ⟨u,xs[n-1-i],H,rfl,I.turned (t':=s.toks) (fun b o hb e=>sb.extBut b o hb e) f1 f2 f4 f5 f6,ru,⟨rfl,fun ys sq' _=>by rw [I.list_inj sq' sq];exact List.getElem?_eq_getElem hlx⟩,⟨hlt,st'⟩,fun b hb=>(hf b hb).1⟩
 done:=by
  intro X e1 e2 e3 hc i pins s σ H E I hf st stop;subst e1;subst e2;subst e3;obtain ⟨hi,st⟩:=st;have hin:i=n:=stop;subst hin;have e:(i:Int)-1-(i:Int)=-1:=by omega
  rw [e] at st;obtain ⟨f1,f2,f3,f4,f5,f6⟩:=hf it (by simp);exact wpAny_pyNext_rev_end (I.ok.hd hc) st fun h' k=>⟨rfl,I.turned (t':=s.toks) (fun b o hb e=>k b o hb e) f1 f2 f4 f5 f6⟩
 self:=fun A i s Q E st h=>wpAny_pyIter_revIter st.2 h
 hint:=fun A i s Q E st h=>zfo st.2 h
def revS:RS:=fun ws G Q=>match ws with
 | [.ref p]=>∃ xs,yU G p=some xs/\∀ r,G r=none->Q (.ref r) (put G r (.lst xs.reverse))
 |_=>False
theorem hG:jV revS:=by
 intro ws G Q Q' k h;unfold revS at h ⊢
 split at h
 .obtain ⟨xs,e1,h⟩:=h;exact ⟨xs,e1,fun p hp=>k _ _ (h p hp)⟩
 .exact h.elim
theorem zht {X:Cx} (hc:X.calm=true) (pins:List (Addr×Obj)) (s:Shared) (σ:L2.St) (H:Hp) (vs:List V) (us:List Value) (Q:VK) (I:Inv X pins σ H s) (r:zF vs us) (h:sG X.K revS vs H Q) :
  wpAny (model X.prog X.w) X.A (call (.type "reversed") us) (fun v s1=>wpAny (model X.prog X.w) X.A (call (.type "list") [v]) (EP X pins σ Q) X.xe s1) X.xe s:=by
 obtain ⟨ws,G,rs,ab,h⟩:=h;unfold revS at h
 split at h
 .rename_i p;obtain ⟨v,rfl,rv⟩:=kR rs;cases (show v=.ref p from rv);obtain ⟨u,rfl,ru⟩:=kT r;cases (show u=Value.ref p from ru);obtain ⟨xs,e,h⟩:=h;obtain ⟨vs,sq,rr⟩:=ab.seq e;obtain ⟨its,vv,pl,hz⟩:=I.list sq;have hl:=pl.isList
  have hlt:p<s.heap.objs.size:=by
   obtain ⟨o,ho,_⟩:=hl;exact Heap.lt_size ho
  refine call_reversed_list hl ?_;have I1:Inv X pins σ H { s with heap:=s.heap.push (revObj p ((its.toArray.size:Int)-1)),toks:=s.toks }:=I.kept fun b u e=>Heap.get?_push_of_some _ e;have en:its.toArray.size=vs.length:=by rw [zzS,← vv.length]
  refine zbB hc (by decide) (by decide) I1 (zc1 X.prog X.w X.K (n:=vs.length) (Nat.ne_of_lt hlt)) ⟨Nat.zero_le _,?_⟩ (fun b hb=>?_) vs.length hz
   (fun i acc H'=>H'=H/\acc=vs.reverse.take i) ⟨rfl,by simp⟩ ?_ ?_
  .refine ⟨_,Heap.get?_push_size _ rfl,rfl,?_⟩;show Data.fields #[.ref p,rawInt ((its.toArray.size:Int)-1)]=_;rw [en];simp
  .rw [List.mem_singleton] at hb;subst hb;exact I.fpOk (zzR _) (I.hok.fresh (zzR _))
  .rintro i acc H' hi ⟨rfl,rfl⟩;refine ⟨⟨vs,sq,rfl,hi⟩,?_⟩;rintro v H2 ⟨rfl,e2⟩;refine ⟨rfl,?_⟩;have e2:=e2 vs sq rfl;have hl':i<vs.reverse.length:=by simpa using hi
   rw [List.take_succ_eq_append_getElem hl'];congr 2;have:vs.reverse[i]?=some v:=by rw [List.getElem?_reverse hi];exact e2
   exact (Option.some.inj ((List.getElem?_eq_getElem hl').symm.trans this)).symm
  .rintro acc H' ⟨rfl,rfl⟩;refine ⟨rfl,?_⟩;rw [List.take_of_length_le (by simp)];exact jD ab rr.reverse h
 .exact h.elim
end L3
namespace L3
open PySem PySem.Spec PyProof.Rows L2
def zK (S:List Addr) (G G':Hw):Prop:=∀ a o,a∉S->G a=some o->G' a=some o
theorem zK.refl {S:List Addr} {G:Hw}:zK S G G:=fun _ _ _ h=>h
theorem zK.trans {S:List Addr} {G G1 G2:Hw} (a:zK S G G1) (b:zK S G1 G2):zK S G G2:=fun x o hx h=>b x o hx (a x o hx h)
theorem zK.put {S:List Addr} {G:Hw} {p:Addr} {o:O} (h:p∈S):zK S G (put G p o):=fun x u hx hu=>by
 rw [xO (fun e:x=p=>hx (e▸h))];exact hu
theorem zK.new {S:List Addr} {G:Hw} {p:Addr} {o:O} (h:G p=none):zK S G (L3.put G p o):=fun x u hx hu=>by
 rw [xO (jA hu h)];exact hu
theorem zK.none {S:List Addr} {G G':Hw} {p:Addr} (k:zK S G G') (hp:p∉S) (h:G' p=Option.none):G p=Option.none:=by
 cases e:G p with
 |none=>rfl
 |some o=>rw [k p o hp e] at h;cases h
abbrev kS:yH:=.inr "seed"
abbrev kN:yH:=.inr "number"
abbrev kL:yH:=.inr "left"
def ziU (seed num:Int) (l:Addr):O:=.dic [(kS,.int seed),(kN,.int num),(kL,.ref l)]
structure DealS (G:Hw) (d l:Addr) (seed num:Int) (left:List Int):Prop where
 dic:G d=some (ziU seed num l)
 lst:G l=some (.lst (left.map .int))
 s0:0<=seed
 s1:seed<2147483647
 n0:0<=num
 lf:∀ x∈left,(0:Int)<=x
 len:left.length<=63
 ne:d≠l
def jT (G:Hw) (d l:Addr):Prop:=∃ seed num left,DealS G d l seed num left
theorem dgS {a b c:W}:vA [(kS,a),(kN,b),(kL,c)] kS=some a:=by rfl
theorem dgN {a b c:W}:vA [(kS,a),(kN,b),(kL,c)] kN=some b:=by
 have e1:¬ (kS=kN):=by decide +kernel
 unfold vA;rw [List.find?_cons_of_neg (by simp [e1]),List.find?_cons_of_pos (by simp)];rfl
theorem dgL {a b c:W}:vA [(kS,a),(kN,b),(kL,c)] kL=some c:=by
 have e1:¬ (kS=kL):=by decide +kernel
 have e2:¬ (kN=kL):=by decide +kernel
 unfold vA;rw [List.find?_cons_of_neg (by simp [e1]),List.find?_cons_of_neg (by simp [e2]),List.find?_cons_of_pos (by simp)];rfl
theorem dpN {a b c x:W}:sB [(kS,a),(kN,b),(kL,c)] kN x=[(kS,a),(kN,x),(kL,c)]:=by
 unfold sB;have e1:¬ (kS=kN):=by decide +kernel
 have e2:¬ (kL=kN):=by decide +kernel
 simp [e1,e2]
theorem dpS {a b c x:W}:sB [(kS,a),(kN,b),(kL,c)] kS x=[(kS,x),(kN,b),(kL,c)]:=by
 unfold sB;have e1:¬ (kN=kS):=by decide +kernel
 have e2:¬ (kL=kS):=by decide +kernel
 simp [e1,e2]
def zi0:ISs:=(.cons (.whl (.and (.cmp .Eq (.ix (.var 0) (.con (.str "number"))) (.con (.int 0))) (.cmp .Gt (.call 1 (.cons (.ix (.var 0) (.con (.str "left"))) .nil)) (.con (.int 0)))) (.cons (.asgI (.var 0) (.con (.str "number")) (.mth 0 (.ix (.var 0) (.con (.str "left"))) .nil))
 .nil))
 (.cons (.asg 2 (.ix (.var 0) (.con (.str "number"))))
 (.cons (.ite (.cmp .Gt (.var 2) (.con (.int 0))) (.cons (.asgI (.var 0) (.con (.str "number")) (.bin .FloorDiv (.var 2) (.var 1)))
 (.cons (.ret (.bin .Mod (.var 2) (.var 1)))
 .nil)) .nil)
 (.cons (.asg 3 (.bin .Mod (.bin .Add (.bin .Mult (.ix (.var 0) (.con (.str "seed"))) (.con (.int 48271))) (.con (.int 7919))) (.con (.int 2147483647))))
 (.cons (.asgI (.var 0) (.con (.str "seed")) (.bin .Mod (.bin .Add (.bin .Mult (.var 3) (.con (.int 40692))) (.con (.int 104729))) (.con (.int 2147483399))))
 (.cons (.asg 4 (.bin .Mod (.bin .Mult (.ix (.var 0) (.con (.str "seed"))) (.ix (.var 0) (.con (.str "seed")))) (.con (.int 2147483563))))
 (.cons (.ret (.bin .Mod (.bin .Add (.bin .Mult (.bin .Mod (.bin .Mult (.var 3) (.var 3)) (.con (.int 2147483629))) (.con (.int 2147483563))) (.var 4)) (.var 1)))
 .nil)))))))
abbrev eLen:Fn3:=⟨"len", fun ws G Q _=>tE ws G Q⟩
abbrev ePop:Mt3:=⟨"pop", "list", popS⟩
theorem DealS.put {G:Hw} {d l:Addr} {seed num:Int} {left:List Int} (D:DealS G d l seed num left) {seed' num':Int} (h1:0<=seed') (h2:seed' < 2147483647) (h3:0<=num'):DealS (put G d (ziU seed' num' l)) d l seed' num' left :=
 ⟨zR,by rw [xO D.ne.symm];exact D.lst,h1,h2,h3,D.lf,D.len,D.ne⟩
theorem zaJ {i j:Int}:vQ (.int i) (.int j)=decide (i=j):=by
 simp [vQ,Bool.beq_eq_decide_eq]
theorem uD {G:Hw} {i j:Int}:eqG G (.int i) (.int j)=some (decide (i=j)):=by
 simp [eqG,uS,nG,zaJ]
theorem zdp {left:List Int}:(left.map W.int)[left.length-1]?=(left[left.length-1]?).map W.int:=by simp
theorem bA {a m:Int} (h:0<m):0<=a % m/\a % m<m:=⟨Int.emod_nonneg _ (by omega),Int.emod_lt_of_pos _ h⟩
theorem fY {d l:Addr} {m:Int} {G G1:Hw} {Q:Q3} {seed num:Int} {left:List Int} (D:DealS G1 d l seed num left) (kp:zK [d,l] G G1) (hm:0<m/\m<1073741824) (few:∀ {a b c:W},[(kS,a),(kN,b),(kL,c)].length<sizeLine)
  (hq:∀ r G',0<=r->r<m->zK [d,l] G G'->jT G' d l->Q (.int r) G'):if decide (0<num)=true then
   CDiv num m/\[(kS,W.int seed),(kN,W.int num),(kL,W.ref l)].length<sizeLine/\0<m/\Q (W.int (num % m)) (put G1 d (O.dic [(kS,W.int seed),(kN,W.int (num / m)),(kL,W.ref l)]))
  else
   cO seed 48271/\(0:Int)<2147483647/\cO ((seed * 48271+7919) % 2147483647) 40692/\(0:Int)<2147483399/\[(kS,W.int seed),(kN,W.int num),(kL,W.ref l)].length<sizeLine /\
   cO (((seed * 48271+7919) % 2147483647 * 40692+104729) % 2147483399) (((seed * 48271+7919) % 2147483647 * 40692+104729) % 2147483399)/\(0:Int)<2147483563 /\
   cO ((seed * 48271+7919) % 2147483647) ((seed * 48271+7919) % 2147483647)/\(0:Int)<2147483629 /\
   cO ((seed * 48271+7919) % 2147483647 * ((seed * 48271+7919) % 2147483647) % 2147483629) 2147483563/\0<m /\
   Q (W.int (((seed * 48271+7919) % 2147483647 * ((seed * 48271+7919) % 2147483647) % 2147483629 * 2147483563+((seed * 48271+7919) % 2147483647 * 40692+104729) % 2147483399 * (((seed * 48271+7919) % 2147483647 * 40692+104729) % 2147483399) % 2147483563) % m))
    (put G1 d (O.dic [(kS,W.int (((seed * 48271+7919) % 2147483647 * 40692+104729) % 2147483399)),(kN,W.int num),(kL,W.ref l)])):=by
 split
 .exact ⟨hm,few,hm.1,hq _ _ (bA hm.1).1 (bA hm.1).2 (kp.trans (zK.put (by simp))) ⟨seed,num / m,left,D.put D.s0 D.s1 (Int.ediv_nonneg D.n0 (by omega))⟩⟩
 .have b1:=bA (a:=seed * 48271+7919) (m:=2147483647) (by decide);generalize (seed * 48271+7919) % 2147483647=x at b1 ⊢;have b2:=bA (a:=x * 40692+104729) (m:=2147483399) (by decide);generalize (x * 40692+104729) % 2147483399=y at b2 ⊢;refine ⟨.inr ⟨by decide,by decide⟩,by decide,.inr ⟨by decide,by decide⟩,by decide,few,.inl ⟨by omega,by omega⟩,by decide,.inl ⟨by omega,by omega⟩,by decide,.inr ⟨by decide,by decide⟩,hm.1,?_⟩;exact hq _ _ (bA hm.1).1 (bA hm.1).2 (kp.trans (zK.put (by simp))) ⟨y,num,left,D.put b2.1 (by omega) D.n0⟩
theorem zd0 {Γ:Ctx3} (h1:Γ.fn[1]?=some eLen) (h2:Γ.mt[0]?=some ePop) {d l:Addr} {m:Int} {G:Hw} {Q:Q3} {nx:xD->Hw->Prop} (D:jT G d l) (hm:0<m/\m<1073741824)
  (hq:∀ r G',0<=r->r<m->zK [d,l] G G'->jT G' d l->Q (.int r) G'):yQ Γ XN zi0 { nx:=nx,rt:=Q } [some (.ref d),some (.int m),none,none,none] G:=by
 obtain ⟨seed,num,left,D⟩:=D;dsimp only [zi0,yQ,zP,zT,zO,zE,yW,yL,yK,zM,zV,zH,List.getElem?_cons_zero,List.getElem?_cons_succ,List.set_cons_zero,List.set_cons_succ];simp only [h1,h2];refine ⟨fun k σ G'=>σ=[some (.ref d),some (.int m),none,none,none]/\zK [d,l] G G'/\∃ num left,k=left.length/\DealS G' d l seed num left,⟨_,rfl,.refl,num,left,rfl,D⟩,?_⟩;rintro k σ G1 ⟨rfl,kp,num,left,rfl,D⟩;have hd:G1 d=some (.dic [(kS,.int seed),(kN,.int num),(kL,.ref l)]):=D.dic;have hl:G1 l=some (.lst (left.map .int)):=D.lst;have hds:∀ o,(put G1 d o) d=some o:=fun o=>zR;have hdl:∀ o,(put G1 l o) d=some (.dic [(kS,.int seed),(kN,.int num),(kL,.ref l)]):=fun o=>by rw [xO D.ne];exact hd
 have few:∀ {a b c:W},[(kS,a),(kN,b),(kL,c)].length<sizeLine:=by intros;show 3<sizeLine;rw [sizeLine_eq];decide
 simp only [List.getElem?_cons_zero,List.getElem?_cons_succ,List.set_cons_zero,List.set_cons_succ,rS,hd,kA,dgN,dgL,dgS,xI,uD,yO,tE,tF,hl,zzM,tyW,popS,nA,zdp,fG,hdl,hds,dpN,dpS,wI]
 by_cases hn:num=0
 .simp only [decide_eq_true hn,if_true]
  by_cases hlen:(0:Int)<(left.length:Int)
  .simp only [decide_eq_true hlen,if_true];have hlast:left.length-1<left.length:=by omega
   rw [List.getElem?_eq_getElem hlast];simp only [Option.map_some];refine ⟨trivial,few,left.dropLast.length,by rw [List.length_dropLast];omega,trivial,?_,left[left.length-1],left.dropLast,rfl,?_⟩
   .exact (kp.trans (zK.put (by simp))).trans (zK.put (by simp))
   .refine ⟨zR,?_,D.s0,D.s1,D.lf _ (List.getElem_mem hlast),fun x hx=>D.lf x (List.dropLast_subset _ hx),by have:=D.len;rw [List.length_dropLast];omega,D.ne⟩;rw [xO D.ne.symm,zR,List.map_dropLast]
  .simp only [decide_eq_false hlen,zzB,if_false];exact fY D kp hm few hq
 .simp only [decide_eq_false hn,zzB,if_false];exact fY D kp hm few hq
theorem zbE {items:List W} {stab:Hw->Prop} {G1:Hw} {turn:W->Hw->(Option W->Hw->Prop)->Prop} {Q:Q3} (f:W->Option W) (hs:stab G1) (hl:items.length<=sizeLine) (ht:∀ w∈items,∀ K:Option W->Hw->Prop,K (f w) G1->turn w G1 K)
  (hq:∀ p,G1 p=none->Q (.ref p) (put G1 p (.lst (items.filterMap f)))):lcR items stab G1 turn Q:=by
 refine ⟨fun i acc G=>G=G1/\acc=(items.take i).filterMap f,⟨rfl,by simp⟩,?_,hl,?_,?_⟩
 .rintro i acc G ⟨rfl,rfl⟩ hi;refine ⟨hs,Nat.le_trans (List.length_filterMap_le _ _) ?_⟩;rw [List.length_take];omega
 .rintro i w acc G hi ⟨rfl,rfl⟩;have hlt:i<items.length:=(List.getElem?_eq_some_iff.mp hi).1;have hw:items[i]=w:=(List.getElem?_eq_some_iff.mp hi).2;refine ht w (List.mem_of_getElem? hi) _ ?_;have et:items.take (i+1)=items.take i++[w]:=by rw [List.take_succ_eq_append_getElem hlt,hw]
  cases e:f w with
  |some x=>exact ⟨rfl,by rw [et,List.filterMap_append];simp [e]⟩
  |none=>exact ⟨rfl,by rw [et,List.filterMap_append];simp [e]⟩
 .rintro acc G ⟨rfl,rfl⟩ p hp;rw [List.take_length];exact hq p hp
theorem zcg {α β:Type} (f:α->β) (xs:List α) (lo hi:Option Int):vR (xs.map f) lo hi=(vR xs lo hi).map f:=by
 unfold vR;rw [zzM,List.map_take,List.map_drop]
theorem zgG {α:Type} (xs:List α) (lo hi:Option Int):(vR xs lo hi).length<=xs.length:=by
 unfold vR;rw [List.length_take,List.length_drop];omega
def zi1:ISs:=(.cons (.asg 2 (.lc (.nm 0) ["_law_cell"] [] (.val (.sl (.var 0) (.yes (.var 1)) (.yes (.con (.int 63))))) .no (.call 0 (.cons (.var 0) (.cons (.bin .Sub (.con (.int 0)) (.var 0)) .nil)))))
 (.cons (.asg 3 (.bin .Add (.con (.int 7919)) (.var 1)))
 (.cons (.for (.nm 4) (.val (.var 2)) (.cons (.asg 3 (.bin .Mod (.bin .Add (.bin .Mult (.var 3) (.con (.int 69621))) (.bin .Mod (.var 4) (.con (.int 2147483629)))) (.con (.int 2147483647))))
 .nil))
 (.cons (.ret (.dct ["seed", "number", "left"] (.cons (.var 3) (.cons (.con (.int 0)) (.cons (.spc 0 (.cons (.lc (.nm 0) ["_law_cell"] [] (.val (.var 2)) (.yes (.cmp .GtE (.var 0) (.bin .Pow (.con (.int 10)) (.con (.int 18))))) (.var 0)) .nil)) .nil)))))
 .nil))))
abbrev eMax:Fn3:=⟨"max", fun ws G Q _=>maxS ws G Q⟩
abbrev eRev:Sx3:=⟨lofM "reversed", revS⟩
def sA (x:Int):Int:=if 0-x > x then 0-x else x
theorem zgR (x:Int):0<=sA x:=by unfold sA;split<;>omega
theorem jP {G:Hw} {p:Addr} {ws:List W} (h:G p=some (.lst ws)):yU G p=some ws:=by unfold yU;rw [h]
theorem dct3 {a b c:W}:zgE ["seed", "number", "left"] [a,b,c]=[(kS,a),(kN,b),(kL,c)]:=by
 have e1:¬ (kS=kN):=by decide +kernel
 have e2:¬ (kS=kL):=by decide +kernel
 have e3:¬ (kN=kL):=by decide +kernel
 simp [zgE,sB,e1,e2,e3]
def nJ (G:Hw) (w:W) (ns:List Int):Prop:=(∃ a,w=.ref a/\yU G a=some (ns.map .int))\/w=.lsf (ns.map .int)
theorem nJ.sl {G:Hw} {w:W} {ns:List Int} (h:nJ G w ns) {lo hi:Option Int} {Q:Q3} (hq:∀ r,G r=none->Q (.ref r) (put G r (.lst (vR (ns.map W.int) lo hi)))):slR w lo hi G Q:=by
 rcases h with ⟨a,rfl,e⟩|rfl
 .simp only [slR,e];exact hq
 .exact hq
theorem zd2 {Γ:Ctx3} (h0:Γ.fn[0]?=some eMax) (h2:Γ.sx[0]?=some eRev) {a:W} {base:Int} {ns:List Int} {G:Hw} {Q:Q3} {nx:xD->Hw->Prop} (hs:nJ G a ns) (hl:ns.length<=63) (hb:0<=base/\base<=1000)
  (hq:∀ d l G',G d=none->G l=none->zK [] G G'->jT G' d l->Q (.ref d) G'):yQ Γ XN zi1 { nx:=nx,rt:=Q } [some a,some (.int base),none,none,none] G:=by
 dsimp only [zi1,yQ,zP,zT,zO,zE,yW,yL,yK,zM,zV,zS,zL,zN,zU,zH,List.getElem?_cons_zero,List.getElem?_cons_succ,zJ];simp only [h0,h2,vJ];refine hs.sl fun p1 hp1=>?_;dsimp only;have hp1':yU (put G p1 (.lst (vR (ns.map W.int) (some base) (some 63)))) p1=some (vR (ns.map W.int) (some base) (some 63)):=jP zR;rw [hp1'];rw [zcg];generalize ecs:vR ns (some base) (some 63)=cs;have hcl:cs.length<=63:=by rw [← ecs];exact Nat.le_trans (zgG _ _ _) hl
 rw [zcg,ecs] at hp1';refine zbE (fun w=>match w with|.int x=>some (.int (sA x))|_=>none) hp1' (by rw [zzM,sizeLine_eq];omega) ?_ ?_
 .intro w hw K hK;obtain ⟨x,hx,rfl⟩:=zzP hw;simp only [capS,List.length_cons,List.length_nil,List.replicate,zzV,List.append_nil,List.set_cons_zero,List.getElem?_cons_zero,wI,maxS,if_true];exact hK
 .intro p2 hp2
  have ef:(cs.map W.int).filterMap (fun w=>match w with|.int x=>some (.int (sA x))|_=>none)=(cs.map sA).map W.int:=by
   rw [List.filterMap_map,List.map_map,← List.filterMap_eq_map];rfl
  rw [ef];generalize eG:put (put G p1 (.lst (cs.map W.int))) p2 (.lst ((cs.map sA).map W.int))=G2;have kp2:zK [] G G2:=by rw [← eG];exact (zK.new hp1).trans (zK.new hp2)
  have g2:G2 p2=some (.lst ((cs.map sA).map W.int)):=by rw [← eG];exact zR
  simp only [List.getElem?_cons_zero,List.getElem?_cons_succ,List.set_cons_zero,List.set_cons_succ,wI,jP g2];refine ⟨fun i σ G'=>G'=G2/\∃ (n:Int) (c:Option W),σ=[some a,some (.int base),some (.ref p2),some (.int n),c]/\0<=n/\n<2147483647,⟨rfl,7919+base,none,rfl,by omega,by omega⟩,?_,?_,?_⟩
  .rintro i σ G' ⟨rfl,_⟩ _;exact jP g2
  .rintro i w σ G' hi ⟨rfl,n,c,rfl,n0,n1⟩;have hw:=List.mem_of_getElem? hi;obtain ⟨x,hx,rfl⟩:=zzP hw;simp only [List.getElem?_cons_zero,List.getElem?_cons_succ,List.set_cons_zero,List.set_cons_succ,wI];exact ⟨.inr ⟨by decide,by decide⟩,by decide,by decide,trivial,_,_,rfl,(bA (by decide)).1,(bA (by decide)).2⟩
  .rintro σ G' ⟨rfl,n,c,rfl,n0,n1⟩;intro d hd;simp only [List.getElem?_cons_zero,List.getElem?_cons_succ];have g3:(put G' d (.dic [])) p2=some (.lst ((cs.map sA).map W.int)):=by rw [xO (jA g2 hd)];exact g2
   simp only [jP g3];refine zbE (fun w=>match w with|.int x=>if (10:Int) ^ 18<=x then some (.int x) else none|_=>none) (jP g3) (by rw [zzM,zzM,sizeLine_eq];omega) ?_ ?_
   .intro w hw K hK;obtain ⟨x,hx,rfl⟩:=zzP hw;simp only [capS,List.length_cons,List.length_nil,List.replicate,zzV,List.append_nil,List.set_cons_zero,List.getElem?_cons_zero,wI,xI,nA,yO];refine ⟨⟨by decide,by decide,by decide⟩,?_⟩;have e18:(10:Int) ^ (18:Int).toNat=10 ^ 18:=rfl;rw [e18]
    by_cases hx:(10:Int) ^ 18<=x
    .rw [decide_eq_true hx,if_pos rfl];simp only [if_pos hx] at hK;exact hK
    .rw [decide_eq_false hx,if_neg zzN];simp only [if_neg hx] at hK;exact hK
   .intro p3 hp3
    have ef:((cs.map sA).map W.int).filterMap (fun w=>match w with|.int x=>if (10:Int) ^ 18<=x then some (.int x) else none|_=>none)=((cs.map sA).filter fun x=>decide ((10:Int) ^ 18<=x)).map W.int:=by
     generalize cs.map sA=ys
     induction ys with
     |nil=>rfl
     |cons y ys ih =>
      rw [zzU,List.filterMap_cons,List.filter_cons]
      by_cases hy:(10:Int) ^ 18<=y
      .simp only [if_pos hy,decide_eq_true hy,if_true,zzU,ih]
      .simp only [if_neg hy,decide_eq_false hy,zzB,if_false,ih]
    rw [ef];generalize efl:(cs.map sA).filter (fun x=>decide ((10:Int) ^ 18<=x))=fl;have flen:fl.length<=63:=by rw [← efl];refine Nat.le_trans (List.length_filter_le _ _) ?_;rw [zzM];exact hcl
    have fnn:∀ x∈fl,(0:Int)<=x:=fun x hx=>by
     rw [← efl] at hx;obtain ⟨y,hy,rfl⟩:=zzP (List.mem_filter.mp hx).1;exact zgR y
    refine ⟨fl.map W.int,jP zR,fun l hl'=>?_⟩
    have ned:d≠l:=fun e=>by
     subst e;rw [xO (jA zR hp3),zR] at hl';cases hl'
    have np3:d≠p3:=jA zR hp3;refine ⟨by rw [xO ned,xO np3,zR],rfl,?_⟩;rw [dct3];refine hq d l _ (kp2.none (by simp) hd) ?_ ?_ ⟨n,0,fl.reverse,zR,?_,n0,n1,by omega,fun x hx=>fnn x (List.mem_reverse.mp hx),by rw [List.length_reverse];exact flen,ned⟩
    .have k3:zK [] G (put (put G' d (.dic [])) p3 (.lst (fl.map W.int))):=(kp2.trans (zK.new hd)).trans (zK.new hp3);exact k3.none (by simp) hl'
    .intro x u hx hu;rw [xO (jA hu (kp2.none (by simp) hd))];exact ((((kp2.trans (zK.new hd)).trans (zK.new hp3)).trans (zK.new hl')) x u hx hu)
    .rw [xO ned.symm,zR,← List.map_reverse]
structure FunD (K:yZ) (x qual:Str) (st:Stmt) (dV:Value) (f:Addr) (fd:FuncData):Prop where
 ex:∃ (oc:Value) (od:Option Addr) (kV doc pm:Value) (an:Option Addr) (cdv ct:Value) (osl:Array (Option Value)),
  fd=PySem.W.fnOf x qual (yJ st) (zG st) (zY st) dV kV doc pm an cdv ct/\K.lookup f=some ⟨oc,od,.func fd,osl⟩/\PySem.W.codeIn K cdv qual=true
 kp:PySem.W.keepIn K (.ref f)=true
theorem dH {Γ:Ctx3} {q:Pr} {k:Nat} {M:MC} {x qual:Str} {st:Stmt} {dV:Value} {f:Addr} {fd:FuncData} {ps:List Str} {sp:sV} {body:ISs} (F:FunD q.K x qual st dV f fd) (S:FnScope M.N ps (zY st)) (g:∀ A,Room k A->Good Γ (q.at A))
  (eM:MOk Γ M (zY st)) (hm:sQ body M (zG st)=true) (len:∀ ws G Q,sp ws G Q XN->ws.length=ps.length)
  (hb:∀ ws G Q,sp ws G Q XN->yQ Γ XN body { nx:=fun _ G'=>Q .non G',rt:=Q } (yN M.N ws) G):FnOk q.prog q.w q.K q.mg q.base CX0 (k+1) f fd ps (jB q.K sp):=by
 obtain ⟨oc,od,kV,doc,pm,an,cdv,ct,osl,rfl,lk,hcd⟩:=F.ex;refine zdN lk hcd S (fun vs H Q E h=>?_) fun A outer s H vs Q E hr h=>?_
 .obtain ⟨ws,G,rs,ab,h⟩:=h;rw [rs.length];exact len ws G _ h
 .obtain ⟨ws,G,rs,ab,h⟩:=h;have gg:=g _ hr;refine ⟨lowS q.K (yQ Γ XN body),nF.nox (bV gg body M _ (zG st) ?_ hm),?_⟩
  .exact ⟨⟨rfl,rfl,rfl,rfl,rfl,rfl,rfl,rfl⟩,rfl,eM.sc.symm,S.nd,fun _ _=>rfl,by rw [eM.sc];exact S.kind,eM.fns,eM.gls,eM.mts,eM.its,eM.sxs,eM.ixs⟩
  .refine ⟨yN M.N ws,G,_,tR rs,ab,⟨?_,?_,?_,?_⟩,hb ws G _ h⟩
   .exact fun σ G' τ H' g' _ a' z=>z .non H' g' (show xN q.K H' .non .non from rfl) a'
   .exact fun σ G' τ H' g' _ a' z=>z.elim
   .exact fun σ G' τ H' g' _ a' z=>z.elim
   .exact fun w G' v H' g' r' a' z=>z v H' g' r' a'
structure HD (K:yZ) (x qual:Str) (st:Stmt) (dV:Value) (f:Addr):Prop where
 ex:∃ (oc:Value) (od an:Option Addr) (osl:Array (Option Value)) (kV doc pm cdv ct:Value),K.lookup f=some ⟨oc,od,.func (PySem.W.fnOf x qual (yJ st) (zG st) (zY st) dV kV doc pm an cdv ct),osl⟩/\PySem.W.codeIn K cdv qual=true
 kp:PySem.W.keepIn K (.ref f)=true
theorem HD.mk' {K:yZ} {x qual:Str} {st:Stmt} {dV:Value} {f:Addr} {oc:Value} {od an:Option Addr} {osl:Array (Option Value)} {kV doc pm cdv ct:Value}
  (l:K.lookup f=some ⟨oc,od,.func (PySem.W.fnOf x qual (yJ st) (zG st) (zY st) dV kV doc pm an cdv ct),osl⟩) (c:PySem.W.codeIn K cdv qual=true) (k:PySem.W.keepIn K (.ref f)=true):HD K x qual st dV f:=⟨⟨oc,od,an,osl,kV,doc,pm,cdv,ct,l,c⟩,k⟩
theorem HD.fd {K:yZ} {x qual:Str} {st:Stmt} {dV:Value} {f:Addr} (h:HD K x qual st dV f):∃ fd,FunD K x qual st dV f fd/\∃ kV doc pm an cdv ct,fd=PySem.W.fnOf x qual (yJ st) (zG st) (zY st) dV kV doc pm an cdv ct:=by
 obtain ⟨oc,od,an,osl,kV,doc,pm,cdv,ct,l,c⟩:=h.ex;exact ⟨_,⟨⟨oc,od,kV,doc,pm,an,cdv,ct,osl,rfl,l,c⟩,h.kp⟩,kV,doc,pm,an,cdv,ct,rfl⟩
def zcy (f:Fn3):Prop:=∀ ws G (Q Q':Q3) E,(∀ w G',Q w G'->Q' w G')->f.sp ws G Q E->f.sp ws G Q' E
def qM (p:Par) (f:Fn3):Prop:=FnE p f/\zcy f
def uU (m:Mt3):Prop:=∀ x ws G (Q Q':Q3),(∀ w G',Q w G'->Q' w G')->m.sp x ws G Q->m.sp x ws G Q'
def nK (m:It3):Prop:=∀ ws G (R R':List W->(Hw->Prop)->Hw->Prop),(∀ a b c,R a b c->R' a b c)->m.sp ws G R->m.sp ws G R'
def GlE (p:Par) (g:Str×W):Prop:=∀ X,Fits p X->Gl X g.1->∀ q:Pos,(g.1==("__debug__" : Str))=false->g.1 ≠ "__name__" -> PE X (.Name g.1 q) (yB X.K fun _ G Q=>Q g.2 G)
theorem yR {α:Type} {P:α->Prop}:∀ x∈([]:List α),P x:=fun _ h=>nomatch h
theorem zZ {α:Type} {P:α->Prop} {a:α} {l:List α} (h:P a) (t:∀ x∈l,P x):∀ x∈a::l,P x:=fun x hx=>by
 rcases List.mem_cons.mp hx with rfl|hx
 .exact h
 .exact t x hx
theorem zad {α:Type} {P:α->Prop} {a:α} {l:List α} (t:∀ x∈l,P x) (h:P a):∀ x∈l++[a],P x:=fun x hx=>by
 rcases List.mem_append.mp hx with hx|hx
 .exact t x hx
 .rw [zzO hx];exact h
theorem wJ {q:Pr} {A:Around} {x:Str} {w:W} {u:Value} {v:V} (hm:q.mg x=some u) (r:zC v u) (rp:∀ H,xN q.K H w v):GlE (q.at A) (x,w):=by
 intro X fits gl qp hd hn;have hm':X.mg x=some u:=by rw [fits.mg];exact hm
 refine (zfE gl hm' r hd).imp fun τ H Q h=>?_;obtain ⟨σ,G,hs,ab,h⟩:=h;exact h v H .refl (by have:=rp H;rw [fits.K];exact this) ab
theorem dM {q:Pr} {A:Around} {x:Str} {T:String} (hm:q.mg x=none) (hv:bootBuiltins x=some (.type T)):GlE (q.at A) (x,.ty T):=by
 intro X fits gl qp hd hn;have hm':X.mg x=none:=by rw [fits.mg];exact hm
 refine (zfJ (v:=.ty T) gl hm' hv rfl hn hd).imp fun τ H Q h=>?_;obtain ⟨σ,G,hs,ab,h⟩:=h;exact h (.ty T) H .refl rfl ab
theorem jS {K:yZ} {a:Addr} {o:Obj} {its:Array Value} {n:Nat} {ws:List W} {vs:List V} (l:K.lookup a=some o) (hc:o.cls=.type "tuple") (hd:o.data=.seq its n) (hz:its.size<=sizeLine) (hv:zF vs its.toList) (hr:∀ H,zQ K H ws vs):∀ H,xN K H (.tup ws) (.ref a) :=
 fun H=>⟨a,vs,rfl,.inr ⟨o,its,n,l,hc,hd,hz,hv⟩,hr H⟩
def za6:sV:=fun ws G Q _=>∃ a base ns,ws=[a,.int base]/\nJ G a ns/\ns.length<=63/\(0<=base/\base<=1000)/\∀ d l G',G d=none->G l=none->zK [] G G'->jT G' d l->Q (.ref d) G'
def vG:sV:=fun ws G Q _=>∃ d l m,ws=[.ref d,.int m]/\jT G d l/\(0<m/\m<1073741824)/\∀ r G',0<=r->r<m->zK [d,l] G G'->jT G' d l->Q (.int r) G'
theorem bW:zcy ⟨"_law_deal", za6⟩:=fun ws G Q Q' E k hh=>by
 obtain ⟨a,b,ns,h1,h2,h3,h4,h⟩:=hh;exact ⟨a,b,ns,h1,h2,h3,h4,fun d l G' a b c e=>k _ _ (h d l G' a b c e)⟩
theorem bX:zcy ⟨"_law_draw", vG⟩:=fun ws G Q Q' E k hh=>by
 obtain ⟨a,b,m,h1,h2,h3,h⟩:=hh;exact ⟨a,b,m,h1,h2,h3,fun d l a b c e=>k _ _ (h d l a b c e)⟩
abbrev ziS:Fn3:=⟨"_law_deal", za6⟩
abbrev zb9:Fn3:=⟨"_law_draw", vG⟩
abbrev eAll:Fn3:=⟨"all", fun ws G Q _=>allS (·.all id) ws G Q⟩
abbrev eLst:Fn3:=⟨"list", fun ws G Q _=>lstS ws G Q⟩
section
variable {q : Pr} {A : Around} {k : Nat}
theorem zgq (hm:q.mg "max" = none):qM (q.at A) eMax:=⟨nY hm (by decide +kernel) (fun X f=>zic f.calm) gN (fun _ _ h=>h),fun ws G Q Q' _ k h=>gN ws G Q Q' k h⟩
theorem zgs (hm:q.mg "len" = none):qM (q.at A) eLen:=⟨nY hm (by decide +kernel) (fun X f=>zif) gJ (fun _ _ h=>h),fun ws G Q Q' _ k h=>gJ ws G Q Q' k h⟩
theorem zgw (hm:q.mg "all" = none):qM (q.at A) eAll:=⟨nY hm (by decide +kernel) (fun X f=>zi3 f.calm) (fP _) (fun _ _ h=>h),fun ws G Q Q' _ k h=>fP _ ws G Q Q' k h⟩
theorem zgr (hm:q.mg "list" = none):qM (q.at A) eLst:=⟨fn_ty hm (by decide +kernel) (fun X f=>zid) gM (fun _ _ h=>h),fun ws G Q Q' _ k h=>gM ws G Q Q' k h⟩
theorem zgp:MtE (q.at A) ePop/\uU ePop:=⟨tK PySem.F.plainAttrs_list PySem.F.slot_list_pop PySem.F.type_list_pop (fun X f=>zhG) gU,gU⟩
theorem zgo (hl:q.mg "list" = none) (hm:q.mg "reversed" = none):SxE (q.at A) eRev/\jV eRev.sp:=⟨zhg hl hm (by decide +kernel) hG (fun X f=>zht f.calm),hG⟩
end
theorem FnE.imp {p:Par} {nm:Str} {sp sp':sV} (h:FnE p ⟨nm,sp'⟩) (k:∀ ws G Q,sp ws G Q XN->sp' ws G Q XN):FnE p ⟨nm,sp⟩:=by
 intro X fits gl args t qp pos mt hn pa hnil hdb hnm;refine (h X fits gl args t qp pos mt hn pa hnil hdb hnm).imp fun τ H Q z=>?_;obtain ⟨σ,G,hs,ab,z⟩:=z;exact ⟨σ,G,hs,ab,mt σ G _ _ (fun ws G1 z=>k _ _ _ z) z⟩
theorem uC {K:yZ} {x qual:Str} {st:Stmt} {f:Addr} {fd:FuncData} {ps:List Str} (F:FunD K x qual st .none f fd)
  (h:∀ (kV doc pm:Value) (an:Option Addr) (cdv ct:Value) (us:List Value),us.length=ps.length->bindArgs (PySem.W.fnOf x qual (yJ st) (zG st) (zY st) .none kV doc pm an cdv ct) ⟨us,[]⟩=pure (ps.zip us)):wH K fd ps []:=by
 obtain ⟨oc,od,kV,doc,pm,an,cdv,ct,osl,rfl,lk,hcd⟩:=F.ex;exact .all (h kV doc pm an cdv ct)
theorem zcq {K:yZ} {x qual:Str} {st:Stmt} {T f:Addr} {fd:FuncData} {ps:List Str} {o:Obj} {items:Array Value} {n:Nat} (F:FunD K x qual st (.ref T) f fd) (l:K.lookup T=some o) (hd:o.data=.seq items n)
  (h:∀ (kV doc pm:Value) (an:Option Addr) (cdv ct:Value) (us:List Value),us.length=ps.length->∃ k:Option (Array Value)->Sem (List (Str×Value)),bindArgs (PySem.W.fnOf x qual (yJ st) (zG st) (zY st) (.ref T) kV doc pm an cdv ct) ⟨us,[]⟩=seqItems? (.ref T) >>= k/\k (some items)=pure (ps.zip us)):wH K fd ps []:=by
 obtain ⟨oc,od,kV,doc,pm,an,cdv,ct,osl,rfl,lk,hcd⟩:=F.ex;intro s us X hl;rw [List.append_nil] at hl ⊢;obtain ⟨k,h1,h2⟩:=h kV doc pm an cdv ct us hl;exact BindsTo.of_defaults rfl (X _ _ l) hd h1 h2
theorem zb6 {q:Pr} {j k:Nat} {nm:Str} {f:Addr} {fd:FuncData} {ps:List Str} {sp:sV} (FO:FnOk q.prog q.w q.K q.mg q.base CX0 j f fd ps (jB q.K sp)) (hm:q.mg nm=some (.ref f)) (hk:PySem.W.keepIn q.K (.ref f)=true) (hb:wH q.K fd ps [])
  (mono:zcy ⟨nm,sp⟩) {A:Around} (hr:Room k A) (hjk:j<=k):qM (q.at A) ⟨nm,sp⟩ :=
 ⟨(ziJ (dws:=[]) (dvs:=[]) (FO.mono hjk) hm hk hb (fun _=>rfl) .nil (fun ws G Q Q' z h=>mono ws G Q Q' XN z h) hr).imp fun ws G Q h=>by rw [List.append_nil];exact h,mono⟩
theorem zgu {q:Pr} {j k:Nat} {nm:Str} {C f:Addr} {fd:FuncData} {ps:List Str} {sp:sV} (M:Mk q.K C f) (FO:FnOk q.prog q.w q.K q.mg q.base CX0 j f fd ps (jB q.K sp)) (hm:q.mg nm=some (.ref C)) (hb:wH q.K fd ps [])
  (mono:∀ ws G (Q Q':Q3),(∀ w G',Q w G'->Q' w G')->sp ws G Q XN->sp ws G Q' XN) {A:Around} (hr:Room k A) (hjk:j+1<=k):qM (q.at A) ⟨nm,mkSp C sp []⟩ :=
 ⟨ziK (dws:=[]) (dvs:=[]) M FO hm hb (fun _=>rfl) .nil mono (hr.mono hjk),fun ws G Q Q' E z h p hp=>mono _ _ _ _ (fun w G' y=>⟨y.1,z _ _ y.2⟩) (h p hp)⟩
def rE:sV:=fun ws G Q _=>∃ a ns,ws=[a]/\nJ G a ns/\ns.length<=63/\∀ G',Q (.bl true) G'
theorem vT {K:yZ} {H:Hp}:∀ ns:List Int,zQ K H (ns.map W.int) (ns.map V.int)
 | []=>rfl
 |n::ns=>⟨.int n,_,rfl,rfl,vT ns⟩
theorem zbG {K:yZ} {H:Hp} {a:Addr} {ns:List Int} (hl:ns.length<=63) (hS:sJ K H a (ns.map V.int)):jB K rE [.ref a] H (fun v _=>v=.bl true) fun _ _ _=>False:=by
 rcases hS with hS|hS
 .refine ⟨[.ref a],fun b=>if b=a then some (.fix (ns.map W.int)) else none,⟨_,[],rfl,rfl,rfl⟩,?_,.ref a,ns,rfl,.inl ⟨a,rfl,by simp [yU]⟩,hl,fun G' v H' _ r _=>r⟩;intro b o e;dsimp only at e
  by_cases hb:b=a
  .subst hb;rw [if_pos rfl] at e;cases e;rcases hS with hS|⟨ob,hS⟩
   .exact ⟨_,hS,_,default,.inl rfl,vT ns⟩
   .exact ⟨_,hS,_,ob,.inr rfl,vT ns⟩
  .rw [if_neg hb] at e;cases e
 .exact ⟨[.lsf (ns.map W.int)],fun _=>none,⟨_,[],rfl,⟨a,_,rfl,hS,vT ns⟩,rfl⟩,(fun b o e=>nomatch e),.lsf (ns.map W.int),ns,rfl,.inr rfl,hl,fun G' v H' _ r _=>r⟩
theorem walk3 {l:PySem.W.OpenLaw} {k:Nat} {q:Program} {loose:List Str} {XP:(Str->Option Value)->Heap->Prop} {YP:World->Heap->Prop} {d:DefRec} {K:Params->PySem.W.Frag} (hn:l.most=some 63) (hdf:d.params.defaults=[]) (hr:Room k callerA)
  (hY:∀ (w:World) (h:Heap),YP w h->(K w.params).In h)
  (F:∀ (w:World) (mg:Str->Option Value) (fa:Addr) (h:Heap),(K w.params).In h->h.Ns mainGlobals mg->mg d.name=some (.ref fa) ->
   ∃ fd:FuncData,(∀ (s:Shared) (u:Value),BindsTo s fd ⟨[u],[]⟩ [("_law_script", u)])/\fd.scope.names.lookup ("_law_script" : Str)=some .local/\∀ base:Heap,(K w.params).In base->base.Ns mainGlobals mg->FnOk l.prog w (K w.params) mg base CX0 k fa fd ["_law_script"] (jB (K w.params) rE)) :
  PySem.W.WalkO q loose XP YP l.row.toRowW d [] (fun f vs=>PySem.call f vs) :=
 L2.walk_of (n:=63) (k:=k) (x := "_law_script") (CX:=fun _=>CX0) (sp:=fun w=>jB (K w.params) rE) hn (by decide) hdf hr hY F (fun _ _ a ns hl _ hS=>zbG hl hS) fun _ _ _ _ _ z=>z
end L3
namespace L3
open PySem PySem.Spec PyProof.Rows L2 PySem.SeqAt
def gF:MS:=fun x ws G Q=>match x,ws with
 | .str sep,[.ref p]=>∃ ts:List Str,yU G p=some (ts.map .str)/\JoinOk sep ts=true/\Q (.str (Txt.join sep ts)) G
 |_,_=>False
theorem pD:∀ x ws G (Q Q':Q3),(∀ w G',Q w G'->Q' w G')->gF x ws G Q->gF x ws G Q':=by
 intro x ws G Q Q' k h;unfold gF at h ⊢
 split at h
 .obtain ⟨ts,e,o,h⟩:=h;exact ⟨ts,e,o,k _ _ h⟩
 .exact h.elim
theorem hZ {K:yZ} {H:Hp}:∀ {ts:List Str} {vs:List V} {us:List Value},zQ K H (ts.map .str) vs->zF vs us->∃ l:List (Str×Tok),l.map (·.1)=ts/\us=strValues l
 | [],vs,us,r,v=>by cases (show vs=[] from r);cases v;exact ⟨[],rfl,rfl⟩
 |t::ts,vs,us,r,v=>by
  obtain ⟨x,tl,rfl,rx,rt⟩:=r;cases (show x=.str t from rx)
  cases v with
  |cons a c =>
   obtain ⟨tk,rfl⟩:=a;obtain ⟨l,e1,e2⟩:=hZ rt c;exact ⟨(t,tk)::l,by rw [zzU,e1],by rw [e2];rfl⟩
theorem zf0 {X:Cx}:MtR X "str.join" (lowM X.K gF):=by
 intro pins s σ H x xs v us Q I rx rxs h;obtain ⟨w,ws,G,rw1,rs,ab,h⟩:=h;unfold gF at h
 split at h
 .rename_i sep p;cases (show x=.str sep from rw1);obtain ⟨y,rfl,ry⟩:=kR rs;cases (show y=.ref p from ry);obtain ⟨u,rfl,ru⟩:=kT rxs;cases (show u=Value.ref p from ru);obtain ⟨t,rfl⟩:=rx;obtain ⟨ts,e,ok,h⟩:=h;obtain ⟨vs,sq,rr⟩:=ab.seq e;obtain ⟨its,vv,pl,hz⟩:=I.list sq;obtain ⟨l,e1,e2⟩:=hZ rr vv;subst e2;exact wF I.tk (SC.join pl.isList e1 ok fun t' k h0=>⟨.str (Txt.join sep ts),H,I.tok _ h0,⟨t',rfl⟩,h _ H .refl rfl ab⟩)
 .exact h.elim
abbrev sM:Mt3:=⟨"join", "str", gF⟩
theorem zdV {q:Pr} {A:Around}:MtE (q.at A) sM/\uU sM:=⟨tK PySem.F.plainAttrs_str PySem.F.slot_str_join PySem.F.type_str_join (fun X f=>zf0) pD,pD⟩
theorem zii {X:Cx} {pins:List (Addr×Obj)} {σ:L2.St} {H:Hp} {s:Shared} {G:Hw} {w:W} {v:V} {u:Value} {T:String} (I:Inv X pins σ H s) (ab:yC X.K H G) (rv:xN X.K H w v) (ru:zC v u) (ty:tyO G w=some T) :
  ∃ HH:Heap->Prop,PySem.W.KitX X.K u (.type T) HH/\HH s.heap/\u≠.builtin "__main__.__loader__#opaque" := by
 cases w with
 |non=>cases ty;cases (show v=.non from rv);cases (show u=Value.none from ru);exact ⟨_,PySem.W.kitx_none,True.intro,fun z=>nomatch z⟩
 |bl x=>cases ty;cases (show v=.bl x from rv);cases (show u=Value.bool x from ru);exact ⟨_,PySem.W.kitx_bool,True.intro,fun z=>nomatch z⟩
 |int x=>cases ty;cases (show v=.int x from rv);obtain ⟨t,rfl⟩:=(show ∃ t,u=Value.int x t from ru);exact ⟨_,PySem.W.kitx_int,True.intro,fun z=>nomatch z⟩
 |str x=>cases ty;cases (show v=.str x from rv);obtain ⟨t,rfl⟩:=(show ∃ t,u=Value.str x t from ru);exact ⟨_,PySem.W.kitx_str,True.intro,fun z=>nomatch z⟩
 |tup ws' =>
  cases ty;obtain ⟨a,vs,rfl,sq,rr⟩:=rv;cases (show u=Value.ref a from ru);obtain ⟨its,_,p,_⟩:=I.tuple sq;obtain ⟨o,h1,h2,_⟩:=p;exact ⟨_,PySem.W.kitx_tuple,⟨o,h1,h2⟩,fun z=>nomatch z⟩
 |ref p =>
  cases (show v=.ref p from rv);cases (show u=Value.ref p from ru);simp only [tyO] at ty
  have lk:∀ ws',yU G p=some ws'->∃ HH:Heap->Prop,PySem.W.KitX X.K (.ref p) (.type "list") HH/\HH s.heap/\Value.ref p≠.builtin "__main__.__loader__#opaque" := fun ws' el=>by
   obtain ⟨vs,sq,rr⟩:=ab.seq el;obtain ⟨its,_,pl,_⟩:=I.list sq;obtain ⟨o,ho,hc,_⟩:=pl.isList;exact ⟨_,PySem.W.kitx_list,⟨o,ho,hc⟩,fun z=>nomatch z⟩
  split at ty
  .rename_i ws' eg;cases ty;exact lk ws' (by unfold yU;rw [eg])
  .rename_i ws' eg;cases ty;exact lk ws' (by unfold yU;rw [eg])
  .rename_i kvs eg;cases ty;obtain ⟨l,e',rl⟩:=ab.dic eg;obtain ⟨_,_,vs,_,o,_,_,e1,e2,_⟩:=(show xU X.prog X.w H s.heap p (.dK l) from I.hok p _ e');exact ⟨_,PySem.W.kitx_dict,⟨o,e1,e2.1⟩,fun z=>nomatch z⟩
  .cases ty
 |_=>cases ty
def zcH:List W->Option (List String)
 | []=>some []
 | .ty T::r=>(zcH r).map (T::·)
 |_=>none
theorem cE {K:yZ} {H:Hp}:∀ {ws:List W} {Ts:List String} {vs:List V} {us:List Value},zcH ws=some Ts->zQ K H ws vs->zF vs us->us=Ts.map .type
 | [],Ts,vs,us,e,r,v=>by cases e;cases (show vs=[] from r);cases v;rfl
 |w::ws,Ts,vs,us,e,r,v=>by
  cases w with
  |ty T =>
   simp only [zcH] at e;obtain ⟨Ts',e',rfl⟩:=Option.map_eq_some_iff.mp e;obtain ⟨x,tl,rfl,rx,rt⟩:=r;cases (show x=.ty T from rx)
   cases v with
   |cons a c =>
    cases (show _=Value.type T from a);rw [cE e' rt c];rfl
  |_=>cases e
def isjS (K:yZ):RS:=fun ws G Q=>match ws with
 | [x,.ty T]=>∃ T' b,tyO G x=some T'/\PySem.W.kitOne K (.type T') (.type T)=some b/\Q (.bl b) G
 | [x,.tup ts]=>∃ T' b Ts,tyO G x=some T'/\zcH ts=some Ts/\PySem.W.kitAny K (.type T') (Ts.map .type)=some b/\Q (.bl b) G
 |_=>False
theorem zbN (K:yZ):jV (isjS K):=by
 intro ws G Q Q' k h;unfold isjS at h ⊢
 split at h
 .obtain ⟨T',b,e,e',h⟩:=h;exact ⟨T',b,e,e',k _ _ h⟩
 .obtain ⟨T',b,Ts,e,e',e2,h⟩:=h;exact ⟨T',b,Ts,e,e',e2,k _ _ h⟩
 .exact h.elim
theorem ziD {X:Cx}:wC X (.builtin "isinstance") (sG X.K (isjS X.K)):=by
 intro pins s σ H xs us Q I r h;obtain ⟨ws,G,rs,ab,h⟩:=h;unfold isjS at h
 split at h
 .rename_i w T;obtain ⟨v,y,rfl,rv,ry⟩:=pW rs;cases (show y=.ty T from ry);obtain ⟨u,c,rfl,ru,rc⟩:=rM r;cases (show c=Value.type T from rc);obtain ⟨T',b,ty,e,h⟩:=h;obtain ⟨HH,kx,hp,hb⟩:=zii I ab rv ru ty;exact wF I.tk (PySem.W.kia_one kx I.kIn hp e hb fun tk h0=>⟨.bl b,H,I.tok _ h0,rfl,h _ H .refl rfl ab⟩)
 .rename_i w ts;obtain ⟨v,y,rfl,rv,ry⟩:=pW rs;obtain ⟨u,c,rfl,ru,rc⟩:=rM r;obtain ⟨T',b,Ts,ty,et,e,h⟩:=h;obtain ⟨a,vs,rfl,sq,rr⟩:=ry;cases (show c=Value.ref a from rc);obtain ⟨its,vv,p,_⟩:=I.tuple sq;obtain ⟨⟨oc,od,dt,sl⟩,h1,h2,n,h3⟩:=p;cases (show oc=_ from h2);cases (show dt=_ from h3);have ei:=cE et rr vv;subst ei;obtain ⟨HH,kx,hp,hb⟩:=zii I ab rv ru ty;exact wF I.tk (PySem.W.kia_tup kx I.kIn hp h1 e hb fun tk h0=>⟨.bl b,H,I.tok _ h0,rfl,h _ H .refl rfl ab⟩)
 .exact h.elim
end L3
namespace L2
open PySem PySem.Spec PyProof.Rows
section
variable {a b : Bool} {z TI TO i1 i2 l1 l2 : Addr}
theorem zp_go {P:Program} {w:World} {A:Around} {E:Value->Shared->Prop} {s:Shared} {tg:Expr} {u:Value} {i:Nat} {Q:Unit->Shared->Prop} (hd:[z,TI,TO,i1,i2].Nodup) (st:kM a b z TI TO i1 i2 l1 l2 i s.heap)
  (h:∀ h',kM a b z TI TO i1 i2 l1 l2 i h'->(∀ c o,c≠z->s.heap.get? c=some o->h'.get? c=some o)->Q () { s with heap:=h' }):wpAny (model P w) A (letOwnedTupleGo tg (.ref z) u) Q E s:=by
 have stay:Q () s:=h s.heap st fun _ _ _ e=>e
 have core:wpAny (model P w) A (do
   let (.ref r,.ref t):=(Value.ref z,u)|return
   let o ← load r
   match o.cls,o.data with
   | .type n,.fields vs =>
    if ["enumerate", "zip", "dict_itemiterator", "dict_reverseitemiterator", "odict_iterator", "itertools.zip_longest", "itertools.pairwise"].contains n&&vs[0]?==some (rawInt t) then
     rule "for.unpacks-the-owned-tuple"
     updateField r 0 .none
   |_,_=>pure ()) Q E s:=by
  cases u with
  |ref t =>
   obtain ⟨f0,f1,hz,h0,h1,hTI,⟨p,q,hTO⟩,s1,s2⟩:=st;refine wpAny_bind (wpAny_load hz ?_);dsimp only
   split
   .refine wpAny_bind (wpAny_rule ?_);show wpAny _ _ (setField (.ref z) 0 .none) Q E s;refine wpAny_setField_rec hz (by simp) fun h' hz' hs'=>h h' ⟨.none,f1,hz',.inl rfl,h1,?_,⟨p,q,?_⟩,s1.at ?_,s2.at ?_⟩ fun c o hc e=>(hs'.2 c hc).trans e
    all_goals simp only [List.nodup_cons,List.mem_cons,List.not_mem_nil,or_false,not_or,List.nodup_nil,not_false_eq_true,and_true] at hd
    .exact (hs'.2 _ (Ne.symm hd.1.1)).trans hTI
    .exact (hs'.2 _ (Ne.symm hd.1.2.1)).trans hTO
    .exact fun o e=>(hs'.2 _ (Ne.symm hd.1.2.2.1)).trans e
    .exact fun o e=>(hs'.2 _ (Ne.symm hd.1.2.2.2)).trans e
   .exact wpAny_pure stay
  |_=>exact wpAny_pure stay
 cases tg with
 |Tuple es x p=>exact core
 |List es x=>exact core
 |_=>exact wpAny_pure stay
theorem zeV (P:Program) (w:World) (K:PySem.W.Frag) (tg:Expr) (hd:[z,TI,TO,i1,i2].Nodup) (n1:l1∉[z,TI,TO,i1,i2]) (n2:l2∉[z,TI,TO,i1,i2]):Turn P w K tg (Itz a b K l1 l2) [z,TI,TO,i1,i2] z (kM a b z TI TO i1 i2 l1 l2) where
 mem:=by simp
 obj:=fun i h x=>x.obj
 keep:=fun i h h' x k=>x.keep k
 item:=by
  intro X e1 e2 e3 hc i pins s σ H E I hf st go;subst e1;subst e2;subst e3;refine yI (zeW (I.ok.hd hc) hd n1 n2 I hf st go) fun r s2 ⟨u,x,H',q1,q2,q3,q4,q5,_,q6⟩=>⟨u,q1,zp_go hd q5 fun h' st' k=>⟨x,H',?_,q3,q4,st',q6⟩⟩;refine q2.turns (t':=s2.toks) (fp:=[z]) (fun c hcz=>?_) fun c o hcz e=>k c o (fun z=>hcz (by rw [z];simp)) e;rw [List.mem_singleton] at hcz;subst hcz;obtain ⟨_,f2,f3,f4,f5,f6⟩:=hf c (by simp);exact ⟨q6 c (by simp),f2,f3,f4,f5,f6⟩
 done:=by
  intro X e1 e2 e3 hc i pins s σ H E I hf st stop;subst e1;subst e2;subst e3;exact zeZ (I.ok.hd hc) hd n1 n2 I hf st stop
 self:=fun A i s Q E st h=>zaP st h
end
end L2
namespace L3
open PySem PySem.Spec PyProof.Rows L2 PySem.SeqAt
def zipI (ws:List W) (G:Hw) (R:List W->(Hw->Prop)->Hw->Prop):Prop:=match ws with
 | [x,y]=>∃ xs ys,wX G x=some xs/\wX G y=some ys/\R (List.zipWith (fun a b=>W.tup [a,b]) xs ys) (fun G'=>wX G' x=some xs/\wX G' y=some ys) G
 |_=>False
theorem zaQ:nK ⟨"zip", zipI⟩:=by
 intro ws G R R' k h;replace h:zipI ws G R:=h;show zipI ws G R';unfold zipI at h ⊢
 split at h
 .obtain ⟨xs,ys,e1,e2,h⟩:=h;exact ⟨xs,ys,e1,e2,k _ _ _ h⟩
 .exact h.elim
def sK (w:W):Bool:=match w with|.tup _=>true|_=>false
theorem qK {K:yZ} {H1 H:Hp} {G1 G:Hw} {w:W} {a:Addr} {vs:List V} {b:Bool} {xs:List W} (g:yV K H1 H) (ab:yC K H G) (r1:xN K H1 w (.ref a)) (b1:wX G1 w=some xs) (sq1:rZ b K H1 a vs) (hb:b=sK w) (st:wX G w=some xs) (rr1:zQ K H1 xs vs) :
  ∃ vs',rZ b K H a vs'/\zQ K H xs vs':=by
 cases w with
 |tup ws =>
  subst hb;exact ⟨vs,g.1 _ _ sq1,rr1.mono g⟩
 |ref p =>
  subst hb;cases (show V.ref a=.ref p from r1);obtain ⟨vs',sq,rr⟩:=ab.seq st;exact ⟨vs',sq,rr⟩
 |_=>cases b1
theorem uO {K:yZ} {H:Hp} {G:Hw} {w:W} {v:V} {xs:List W} (ab:yC K H G) (r:xN K H w v) (e:wX G w=some xs):∃ a vs,v=.ref a/\rZ (sK w) K H a vs/\zQ K H xs vs:=by
 cases w with
 |tup ws =>
  obtain ⟨a,vs,rfl,sq,rr⟩:=r;cases e;exact ⟨a,vs,rfl,sq,rr⟩
 |ref p =>
  cases (show v=.ref p from r);obtain ⟨vs,sq,rr⟩:=ab.seq e;exact ⟨p,vs,rfl,sq,rr⟩
 |_=>cases e
theorem ziw {K:yZ} {H1:Hp} {G1:Hw} {x y:W} {a1 a2:Addr} {vx vy:List V} {xs ys:List W} (rx:xN K H1 x (.ref a1)) (ry:xN K H1 y (.ref a2)) (ex:wX G1 x=some xs) (ey:wX G1 y=some ys) (sx:rZ (sK x) K H1 a1 vx) (sy:rZ (sK y) K H1 a2 vy)
  (rrx:zQ K H1 xs vx) (rry:zQ K H1 ys vy):ItIs K (Itz (sK x) (sK y) K a1 a2) H1 (List.zipWith (fun a b=>W.tup [a,b]) xs ys) (fun G'=>wX G' x=some xs/\wX G' y=some ys) where
 go:=fun i H G g ab st hi=>by
  obtain ⟨vx',sx',rx'⟩:=qK g ab rx ex sx rfl st.1 rrx;obtain ⟨vy',sy',ry'⟩:=qK g ab ry ey sy rfl st.2 rry;have h1:=rx'.length;have h2:=ry'.length;rw [List.length_zipWith] at hi;exact ⟨vx',vy',vx'[i]'(by omega),vy'[i]'(by omega),sx',sy',List.getElem?_eq_getElem _,List.getElem?_eq_getElem _⟩
 yld:=fun i H G v H' g ab st hi yl=>by
  obtain ⟨vx',sx',rx'⟩:=qK g ab rx ex sx rfl st.1 rrx;obtain ⟨vy',sy',ry'⟩:=qK g ab ry ey sy rfl st.2 rry;obtain ⟨p,x',y',rfl,hp,rfl,e2,e3⟩:=yl;have e2:=e2 vx' sx';have e3:=e3 vy' sy';obtain ⟨wx,ewx,rpx⟩:=rx'.get' e2;obtain ⟨wy,ewy,rpy⟩:=ry'.get' e3;have gr:yV K H (yT H p (.tup [x',y'])):=yF hp;refine ⟨.tup [wx,wy],?_,gr,⟨p,[x',y'],rfl,.of yY,⟨_,_,rfl,rpx.mono gr,_,_,rfl,rpy.mono gr,rfl⟩⟩,ab.tup hp⟩;rw [List.getElem?_zipWith,ewx,ewy]
 stop:=fun i H G g ab st hi=>by
  obtain ⟨vx',sx',rx'⟩:=qK g ab rx ex sx rfl st.1 rrx;obtain ⟨vy',sy',ry'⟩:=qK g ab ry ey sy rfl st.2 rry;have h1:=rx'.length;have h2:=ry'.length;rw [List.length_zipWith] at hi;refine ⟨vx',vy',sx',sy',?_⟩
  by_cases hl:xs.length<=ys.length
  .left;rw [List.getElem?_eq_none];omega
  .right;rw [List.getElem?_eq_none];omega
theorem ziB {q:Pr} {A:Around} (hm:q.mg "zip" = none):ItE (q.at A) ⟨"zip", zipI⟩:=by
 intro X fits gl tg args t qp pos mt hn pa hnil hdb hnm;have hm':X.mg "zip" = none:=by rw [fits.mg];exact hm
 intro pins s σ H R I h
 cases args with
 |nil =>
  obtain ⟨σ3,G,hs,ab,h⟩:=h;exact (hnil rfl _ _ _ h).elim
 |cons a r =>
  obtain ⟨s1,s2⟩:=xY (env:=X.env) (pos:=pos) hn;obtain ⟨σ3,G,hs,ab,h⟩:=h
  have h':=kQ (S:=fun vs H1=>∃ x y a1 a2 vx vy,vs=[.ref a1,.ref a2]/\rZ (sK x) X.K H1 a1 vx/\rZ (sK y) X.K H1 a2 vy/\R (Itz (sK x) (sK y) X.K a1 a2) H1) mt hs ab h fun ws G1 vs H1 g1 hs1 rs a1 h=>by
   dsimp only at h;unfold zipI at h
   split at h
   .rename_i x y;obtain ⟨v1,v2,rfl,r1,r2⟩:=pW rs;obtain ⟨xs,ys,ex,ey,h⟩:=h;obtain ⟨p1,vx,rfl,sx,rx⟩:=uO a1 r1 ex;obtain ⟨p2,vy,rfl,sy,ry⟩:=uO a1 r2 ey;exact ⟨x,y,p1,p2,vx,vy,rfl,sx,sy,h _ H1 g1 a1 (ziw r1 r2 ex ey sx sy rx ry)⟩
   .exact h.elim
  refine Call_ (kB I gl hm' (by decide +kernel:bootBuiltins "zip" = some (.type "zip")) (PyProof.Rows.callWith_type1 (yI (pa pos pins s σ H _ I h') fun us s1 ⟨vs,H1,I1,r1,q1⟩=>?_) s1 s2));obtain ⟨x,y,a1,a2,vx,vy,e,sx,sy,q⟩:=q1;subst e;obtain ⟨u1,u2,rfl,ru1,ru2⟩:=rM r1;cases (show u1=Value.ref a1 from ru1);cases (show u2=Value.ref a2 from ru2);obtain ⟨itx,vvx,ssx,hzx⟩:=I1.sqB sx;obtain ⟨ity,vvy,ssy,hzy⟩:=I1.sqB sy
  have lt1:a1<s1.heap.objs.size:=by
   cases hb:sK x<;>rw [hb] at ssx<;>(obtain ⟨o,ho,_⟩:=ssx;exact Heap.lt_size ho)
  have lt2:a2<s1.heap.objs.size:=by
   cases hb:sK y<;>rw [hb] at ssy<;>(obtain ⟨o,ho,_⟩:=ssy;exact Heap.lt_size ho)
  refine zgL ssx ssy fun h' z1 z2 z3 z4 z5 z6 z7=>?_;have I2:Inv X pins σ H1 { s1 with heap:=h',toks:=s1.toks }:=I1.kept z7;have hd:=zaH s1.heap.objs.size;have n1:=zah _ _ lt1;have n2:=zah _ _ lt2;have hf:∀ b∈[s1.heap.objs.size+4,s1.heap.objs.size+2,s1.heap.objs.size+3,s1.heap.objs.size,s1.heap.objs.size+1],qR X pins H1 b:=fun b hb=>I1.fpOk (zbZ _ _ hb) (I1.hok.fresh (zbZ _ _ hb));have st:kM (sK x) (sK y) (s1.heap.objs.size+4) (s1.heap.objs.size+2) (s1.heap.objs.size+3) s1.heap.objs.size (s1.heap.objs.size+1) a1 a2 0 h':=⟨.none,.bool false,z1,.inl rfl,.inl rfl,z2,⟨_,_,z3⟩,z4,z5⟩;refine zaP st ⟨_,_,_,_,H1,rfl,I2,zeV X.prog X.w X.K tg hd n1 n2,st,hf,q⟩
abbrev eZpi:It3:=⟨"zip", zipI⟩
theorem zgn {q:Pr} {A:Around} (hm:q.mg "zip" = none):ItE (q.at A) eZpi/\nK eZpi:=⟨ziB hm,zaQ⟩
def krun {α:Type} (lt:Nat->Nat->Bool):PySem.W.KasT α->α
 | .ret a=>a
 | .ask i j k=>krun lt (k (lt i j))
section
variable {n : Nat} {p : Array Nat}
end
def srtP (n:Nat) (lt:Nat->Nat->Bool):List Nat:=if n<2 then List.range n else (krun lt (PySem.W.kas_sort n)).toList
mutual
def ltW:W->W->Option Bool
 | .str x,.str y=>some (decide (x.cps.toList<y.cps.toList))
 | .tup xs,.tup ys=>ltWs xs ys
 |_,_=>none
def ltWs:List W->List W->Option Bool
 | [],[]=>some false
 | [],_::_=>some true
 |_::_,[]=>some false
 |x::xs,y::ys=>if vQ x y=true then ltWs xs ys else ltW x y
end
section
variable {X : Cx} {pins : List (Addr × Obj)} {σ : L2.St} {H : Hp} {s : Shared}
end
section
variable {prog : Program} {w : World} {A : Around} {E : Value → Shared → Prop} {s : Shared} {D : Addr} {vs : List Value} {κ : SortKind} {lt : Nat → Nat → Bool}
end
def ltB (x y:W):Bool:=(ltW x y).getD false
def vV (ws:List W):List W:=(srtP ws.length fun i j=>ltB (ws.getD i .non) (ws.getD j .non)).map fun i=>ws.getD i .non
section
variable {prog : Program} {w : World} {A : Around} {s : Shared} {b fin v : Bool} {C : Bool → Shared → Prop}
end
section
variable {X : Cx} {pins : List (Addr × Obj)} {σ : L2.St} {H : Hp} {s : Shared}
end
end L3
namespace L3
open PySem PySem.Spec PyProof.Rows L2
end L3
namespace PySem.W
open PySem.Spec PySem.Calls PyProof.Rows PySem
theorem cG:builtinKind "BaseException.__getattribute__" = some .slot:=by
 decide +kernel
theorem zaT:splitId "BaseException.__getattribute__" = some ("BaseException", "__getattribute__"):=by
 decide +kernel
section
variable {prog : Program} {w : World} {A : Around} {E : Value → Shared → Prop} {s : Shared} {K : Frag} {x C : Addr} {ox : Obj} {od : Option Obj} {name : Str} {expr : Bool}
theorem cH {M:Model} {nameV:Value} {Q:Unit->Shared->Prop} (X:K.In s.heap) (I:InstAt s.heap x ox C od) (hs:subIn K (.ref C) (.type "BaseException")=some true) (q:Q () s):wpAny M A (checkBuiltinCall "BaseException.__getattribute__" ⟨[.ref x,nameV],[]⟩) Q E s:=by
 have hk:=cG;have hsp:=zaT;have ha:=F.args_bexc_ga (.ref x) nameV;obtain ⟨hh,g,d,t,os⟩:=s;have ty:=I.type (M:=M);have ls:=looks_subIn X hs (M:=M);have LI:Looks M hh (isInstance (.ref x) (.type "BaseException")) true:=ty.andThen ls;simp only [checkBuiltinCall,hsp,hk];refine wpAny_bind (LI.at ?_)
 wp_walk
 exact q
theorem zcC {v:Value} {tk:Tok} {Q:Fin->Shared->Prop} (X:K.In s.heap) (I:InstAt s.heap x ox C od) (hf:findObj K C od name=some (.value v)) (q:Q (.done (.ret v)) s) :
  wpAny (model prog w) A (Builtin.«object.__getattribute__» ⟨[.ref x,.str name tk],[]⟩) Q E s:=by
 obtain ⟨hh,g,d,t,os⟩:=s;have ty:=I.type (M:=model prog w);have fd:=looks_find X I hf (M:=model prog w)
 delta Builtin.«object.__getattribute__»
 repeat (any_goals (first|with_reducible refine ty.at ?_|with_reducible refine fd.at ?_|wp_step))
 all_goals exact q
theorem ze6 (self:Value):bindSpecial (.builtin "BaseException.__getattribute__") self=pure (.builtin "BaseException.__getattribute__", [self]):=by
 have hop:withoutEnding? "BaseException.__getattribute__" "#opaque" = none:=by decide +kernel
 have hdat:withoutEnding? "BaseException.__getattribute__" "#data" = none:=by decide +kernel
 have hk:=cG;simp only [bindSpecial,typeOf,builtinType,hop,hdat,hk];rfl
theorem ze5 {v:Value} {tk:Tok} {R:Result->Shared->Prop} (X:K.In s.heap) (I:InstAt s.heap x ox C od) (hs:subIn K (.ref C) (.type "BaseException")=some true) (hf:findObj K C od name=some (.value v)) (q:R (.ok (.ret v)) s) :
  codeAny (model prog w) A (.call (.builtin "BaseException.__getattribute__") ⟨[.ref x,.str name tk],[]⟩) R s :=
 codeAny_call_builtin (by decide +kernel) F.entry_bexc_ga (cH X I hs (zcC X I hf q))
theorem zgX {nameV:Value} {fill:Bool} {Q:Value->Shared->Prop} (X:K.In s.heap) (I:InstAt s.heap x ox C od) (hga:findIn K (.ref C) "__getattribute__" = some (some (.builtin "BaseException.__getattribute__"))) (hgt:findIn K (.ref C) "__getattr__" = some none)
  (h:codeAny (model prog w) A (.call (.builtin "BaseException.__getattribute__") ⟨[.ref x,nameV],[]⟩) (fun r s'=>match r with|.ok (.ret v)=>wpAny (model prog w) A (handedOut v) Q E s'|_=>False) s) :
  wpAny (model prog w) A (getAttrBy (.ref x) nameV fill expr) Q E s:=by
 obtain ⟨hp,g,d,t,os⟩:=s;have ty:=I.type (M:=model prog w);have lg:=looks_findIn X hga (M:=model prog w);have lh:=looks_findIn X hgt (M:=model prog w);unfold getAttrBy;refine wpAny_holding (wpAny_bind (ty.at ?_));refine wpAny_bind (lg.at ?_);show wpAny _ _ (getAttrByItsOwn _ _ _ _ _ _) _ _ _;unfold getAttrByItsOwn;refine wpAny_bind ?_;show wpAny _ _ (typeLookup (.ref C) "__getattr__") _ _ _;refine lh.at (wpAny_bind (wpAny_attempt (wpAny_holding ?_)));have hx0:¬ ((expr&&onTheHeap (Value.builtin "BaseException.__getattribute__"))=true):=by cases expr<;>exact fun e=>nomatch e
 unfold callGetattribute;rw [if_neg hx0];unfold boundAndCalled;rw [ze6];refine wpAny_bind (wpAny_pure (wpAny_call (codeAny_mono h fun r s' z=>?_)));rcases r with _|(_|_|_|_)<;>first|exact z|exact z.elim
theorem xg_value {v:Value} {Q:Value->Shared->Prop} (X:K.In s.heap) (I:InstAt s.heap x ox C od) (hga:findIn K (.ref C) "__getattribute__" = some (some (.builtin "BaseException.__getattribute__"))) (hgt:findIn K (.ref C) "__getattr__" = some none)
  (hs:subIn K (.ref C) (.type "BaseException")=some true) (hf:findObj K C od name=some (.value v)) (hh:handedIn v=true) (q:Q v { s with toks:=s.toks+1 }):wpAny (model prog w) A (getAttr (.ref x) name expr) Q E s:=by
 obtain ⟨hp,g,d,t,os⟩:=s;unfold getAttr;refine wpAny_bind (wpAny_mkText (zgX (s:=⟨hp,g,d,t+1,os⟩) X I hga hgt (ze5 (s:=⟨hp,g,d,t+1,os⟩) X I hs hf ?_)));show wpAny (model prog w) A (handedOut v) Q E _;rw [handedOut_of hh];exact wpAny_pure q
theorem zaR {g a:Value} {tk:Tok} {Q:Fin->Shared->Prop} (X:K.In s.heap) (I:InstAt s.heap x ox C od) (hf:findObj K C od name=some (.bind g a))
  (q:codeAny (model prog w) A (.call g ⟨[a,.ref x,.ref C],[]⟩) (fun r s'=>match r with|.ok (.ret v)=>Q (.done (.ret v)) s'|_=>False) s) :
  wpAny (model prog w) A (Builtin.«object.__getattribute__» ⟨[.ref x,.str name tk],[]⟩) Q E s:=by
 obtain ⟨hp,gn,dr,tt,st⟩:=s;have ty:=I.type (M:=model prog w);have fd:=looks_find X I hf (M:=model prog w)
 delta Builtin.«object.__getattribute__»
 repeat (any_goals (first|with_reducible refine ty.at ?_|with_reducible refine fd.at ?_|wp_step))
 refine codeAny_mono q fun r s' z=>?_;rcases r with _|(_|_|_|_)<;>first|exact z.elim|exact wpAny_pure z
theorem zcD {Q:Option Value->Shared->Prop} (X:K.In s.heap) (I:InstAt s.heap x ox C od) (hga:findIn K (.ref C) "__getattribute__" = some (some (.builtin "BaseException.__getattribute__"))) (hgt:findIn K (.ref C) "__getattr__" = some none)
  (hs:subIn K (.ref C) (.type "BaseException")=some true) (hf:findObj K C od "__class__" = some (.bind (.builtin "getset_descriptor.__get__") (.builtin "object.__class__"))) (hm:mroIn K C (.type "object")=some true)
  (q:Q (some (.ref C)) { s with toks:=s.toks+1 }):wpAny (model prog w) A (getAttr? (.ref x) "__class__") Q E s:=by
 obtain ⟨hp,g,d,t,os⟩:=s;unfold getAttr? getAttrBy?
 refine wpAny_bind (wpAny_mkText (wpAny_bind (wpAny_attempt (zgX (s:=⟨hp,g,d,t+1,os⟩) X I hga hgt
  (codeAny_call_builtin (by decide +kernel) F.entry_bexc_ga (cH (s:=⟨hp,g,d,t+1,os⟩) X I hs (zaR (s:=⟨hp,g,d,t+1,os⟩) X I hf
   (class_get (s:=⟨hp,g,d,t+1,os⟩) X I hm ?_))))))))
 show wpAny _ _ (handedOut (.ref C)) _ _ _;rw [handedOut_of rfl];exact wpAny_pure (wpAny_pure q)
end
structure XC (K:Frag) (C:Addr):Prop where
 cls:(clsIn K C).isSome=true
 ga:findIn K (.ref C) "__getattribute__" = some (some (.builtin "BaseException.__getattribute__"))
 gt:findIn K (.ref C) "__getattr__" = some none
 sub:subIn K (.ref C) (.type "BaseException")=some true
 cl:findIn K (.ref C) "__class__" = some (some (.builtin "object.__class__"))
 mro:mroIn K C (.type "object")=some true
theorem ze8 {K:Frag} {C:Addr} {od:Option Obj} (T:XC K C) (hn:specialIn K (.builtin "object.__class__") "__get__" = some (some (.builtin "getset_descriptor.__get__"))) (htk:takesIn K (.builtin "object.__class__")=some true) :
  findObj K C od "__class__" = some (.bind (.builtin "getset_descriptor.__get__") (.builtin "object.__class__")):=by
 obtain ⟨cd,hc⟩:=Option.isSome_iff_exists.mp T.cls;unfold findObj;rw [hc,T.cl];simp only [Option.bind_some,hn,htk]
theorem kitx_exc {K:Frag} {x C:Addr} (T:XC K C) (hn:specialIn K (.builtin "object.__class__") "__get__" = some (some (.builtin "getset_descriptor.__get__"))) (htk:takesIn K (.builtin "object.__class__")=some true) :
  KitX K (.ref x) (.ref C) (fun h=>∃ ox od,InstAt h x ox C od) where
 ty:=fun _ _ _ I=>by obtain ⟨_,_,I⟩:=I;exact I.type
 it:=fun _ _ X _=>by
  obtain ⟨cdD,hcD⟩:=Option.isSome_iff_exists.mp T.cls;unfold clsIn at hcD
  split at hcD
  .rename_i c' d' cd' sl' ho;intro A' Q' E' s' k q;unfold isType loadHead;refine wpAny_bind (wpAny_loadPart (k _ _ (X _ _ ho)) ?_);exact wpAny_pure q
  .cases hcD
 ne:=fun hp tp _ _ _ _ X htp=>by
  obtain ⟨cdD,hcD⟩:=Option.isSome_iff_exists.mp T.cls;rw [Bool.eq_false_iff];intro q;cases (Value.ref.inj (beq_iff_eq.mp q):C=tp);unfold clsIn at hcD
  split at hcD
  .rename_i c' d' cd' sl' ho;cases (X _ _ ho).symm.trans htp
  .cases hcD
 ca:=fun X I k=>by
  obtain ⟨ox,od,I⟩:=I;exact zcD X I T.ga T.gt T.sub (ze8 T hn htk) T.mro k
end PySem.W
namespace PySem.W
open PySem PySem.Spec PySem.Calls PyProof.Rows Builtin Builtin.ObjectAttr
abbrev xsD:Obj:={ cls:=.type "dict", data:=.dict #[] }
abbrev xsH (hp:Heap) (x:Addr):Heap:=(hp.push xsD).update x fun o=>{ cls:=o.cls,dict:=some hp.objs.size,data:=o.data,slots:=o.slots }
section
variable {prog : Program} {w : World} {A : Around} {Er : Value → Shared → Prop} {hp : Heap} {gn : Array GenState} {dr : Drawn} {tk : Nat} {st : OsState} {K : Frag} {x C : Addr} {fld : Str} {val : Value}
variable {fs : Array Value} {sl : Array (Option Value)} {cd : ClassData}
theorem zgT (e:hp.get? x=some ⟨.ref C,none,.fields fs,sl⟩):x≠hp.objs.size:=Nat.ne_of_lt (Heap.lt_size e)
theorem ze1 (e:hp.get? x=some ⟨.ref C,none,.fields fs,sl⟩):(xsH hp x).Ns hp.objs.size (fun _=>none):=by
 refine ⟨xsD,#[],_,?_,rfl,fun z hz=>absurd hz (by simp),fun _=>rfl⟩;rw [Heap.get?_update_ne _ _ _ _ (zgT e).symm];exact Heap.get?_push_at rfl rfl
theorem zcA {nt:Tok} {Q:Fin->Shared->Prop} (X:K.In hp) (at_:hp.get? x=some ⟨.ref C,none,.fields fs,sl⟩) (hc:clsIn K C=some cd) (hd:cd.hasDict=true) (ok:refuseLoop (.ref x) "__setattr__" cd.mro=pure ()) (no:findIn K (.ref C) fld=some none)
  (go:∀ h' n',h'.get? x=some ⟨.ref C,some hp.objs.size,.fields fs,sl⟩->h'.Ns1 hp.objs.size (fun y=>if y=fld then some val else none)->(∀ b o,b≠x->hp.get? b=some o->h'.get? b=some o)->Q (.done (.ret .none)) ⟨h',gn,dr,n',st⟩) :
  wpAny (model prog w) A (Builtin.«object.__setattr__» ⟨[.ref x,.str fld nt,val],[]⟩) Q Er ⟨hp,gn,dr,tk,st⟩:=by
 have I:InstAt hp x ⟨.ref C,none,.fields fs,sl⟩ C none:=⟨at_,rfl,rfl,True.intro⟩;have lm:Looks (model prog w) hp (mroOf (.ref C)) cd.mro:=(looks_clsIn X hc).andThen .now;have lt:=I.type (M:=model prog w);rw [osa_eq,refuse_eq];refine wpAny_bind (wpAny_bind (lt.at (wpAny_bind (lm.at ?_))));rw [ok];refine wpAny_pure (wpAny_bind (lt.at (wpAny_bind ((looks_findIn (M:=model prog w) X no).at (wpAny_bind (wpAny_pure ?_))))));show wpAny _ _ (storeInOwnDict (.ref x) (.ref C) (.str fld nt) fld val false) _ _ _;refine wpAny_bind (wpAny_pure (wpAny_bind (wpAny_bind (wpAny_loadPart at_ (wpAny_bind ((looks_clsIn (M:=model prog w) X hc).at ?_))))));rw [hd];have now:(hp.push xsD).get? x=some ⟨.ref C,none,.fields fs,sl⟩:=Heap.get?_push_of_some _ at_;show wpAny _ _ (alloc xsD >>= fun a=>(update x fun o=>{ cls:=o.cls,dict:=some a,data:=o.data,slots:=o.slots }) >>= fun _=>dictMade (.ref C) x a) _ _ _;refine wpAny_bind (wpAny_alloc' (wpAny_bind (wpAny_update' now (wpAny_pure ?_))));show wpAny _ _ (storeInDict hp.objs.size (.str fld nt) fld val) _ _ (Shared.mk (xsH hp x) _ _ _ _);unfold storeInDict;unfold newKeyGuard;refine wpAny_bind (wpAny_pure (wpAny_bind (wpAny_nsSet1 (Heap.Ns1.of_empty (ze1 at_)) fun h' nn same=>?_)));obtain ⟨ob,en,ep,e1,e2,few⟩:=nn.count (Within.cons fld val Within.nil)
 refine wpAny_bind (wpAny_lookBehind e1 (by
  rw [e2];exact pastItsLine_dict (Nat.le_trans few (by show 1<=sizeLine+1;rw [sizeLine_eq];decide))) (wpAny_pure (go h' _ ?_ nn fun b o hb e=>?_)))
 .rw [same.2 x (zgT at_)];exact Heap.get?_update_self _ now rfl
 .rw [same.2 b (Nat.ne_of_lt (Heap.lt_size e)),Heap.get?_update_ne _ _ _ _ hb];exact Heap.get?_push_of_some _ e
def vTail (l:List Value):Prop:=∃ cs:List Addr,l=cs.map Value.ref++[.type "ValueError", .type "Exception", .type "BaseException", .type "object"]
theorem zaq (self:Value) {l:List Value} (e:vTail l):refuseLoop self "__setattr__" l=pure ():=by
 obtain ⟨cs,rfl⟩:=e
 induction cs with
 |nil=>exact PySem.F.store_ValueError.passes self
 |cons c r ih=>rw [zzU,List.cons_append,refuseLoop_ref];exact ih
theorem xs_set {Q:Unit->Shared->Prop} (X:K.In hp) (at_:hp.get? x=some ⟨.ref C,none,.fields fs,sl⟩) (hc:clsIn K C=some cd) (hd:cd.hasDict=true) (up:vTail cd.mro)
  (hs:findIn K (.ref C) "__setattr__" = some (some (.builtin "object.__setattr__"))) (hm:mroIn K C (.type "object")=some true) (no:findIn K (.ref C) fld=some none)
  (go:∀ h' n',h'.get? x=some ⟨.ref C,some hp.objs.size,.fields fs,sl⟩->h'.Ns1 hp.objs.size (fun y=>if y=fld then some val else none)->(∀ b o,b≠x->hp.get? b=some o->h'.get? b=some o)->Q () ⟨h',gn,dr,n',st⟩) :
  wpAny (model prog w) A (setAttr (.ref x) fld val) Q Er ⟨hp,gn,dr,tk,st⟩:=by
 have I:InstAt hp x ⟨.ref C,none,.fields fs,sl⟩ C none:=⟨at_,rfl,rfl,True.intro⟩;have st0:=PySem.F.store_object;have lo:Looks (model prog w) hp (isInstance (.ref x) (.type "object")) true:=I.type.andThen (looks_mroIn X hm);refine set_plain (s:=⟨hp,gn,dr,tk,st⟩) X I hs ?_;refine codeAny_call_builtin st0.slot.plain st0.entry (@check_slot (model prog w) _ _ ⟨hp,gn,dr,tk+1,st⟩ "object.__setattr__" "object" "__setattr__" (.ref x) [.str fld tk,val] [] _ st0.kind st0.split lo (st0.args (.ref x) (.str fld tk) val) ?_);exact zcA X at_ hc hd (zaq _ up) no go
end
end PySem.W
namespace PySem
abbrev xnT (ps:List Value):Obj:={ cls:=.type "tuple", data:=.seq ps.toArray }
abbrev xnO (C n:Addr):Obj:={ cls:=.ref C,data:=.fields #[.ref n,.none,.none,.none,.bool false,.none] }
abbrev xnH (hp:Heap) (C:Addr) (ps:List Value):Heap:=(hp.push (xnT ps)).push (xnO C hp.objs.size)
theorem zea {hp:Heap} {C:Addr} {ps:List Value} {b:Addr} {o:Obj} (e:hp.get? b=some o):(xnH hp C ps).get? b=some o:=Heap.get?_push_of_some _ (Heap.get?_push_of_some _ e)
theorem zgU {hp:Heap} {C:Addr} {ps:List Value}:(xnH hp C ps).get? (hp.objs.size+1)=some (xnO C hp.objs.size):=by heap_get
section
variable {prog : Program} {w : World} {A : Around} {X : Value → Shared → Prop} {hp : Heap} {gn : Array GenState} {dr : Drawn} {tk : Nat} {st : OsState}
variable {nm qn : Str} {C N : Addr} {bs up upB : List Value} {hdct : Bool} {sn : List Str} {sub : List Value} {ab : Bool} {col : Option Bool} {dd : Option Addr} {k0 k1 k2 k3 k5 : Option Value} {B B' new new' ini ini' : String} {up' : List Value}
variable {mN : Str → Option Value} {ps : List Value} {fI : Addr} {oI : Obj}
end
end PySem
namespace L3
open PySem PySem.Spec PyProof.Rows L2
structure XK (K:yZ):Prop where
 get:PySem.W.specialIn K (.builtin "object.__class__") "__get__" = some (some (.builtin "getset_descriptor.__get__"))
 tak:PySem.W.takesIn K (.builtin "object.__class__")=some true
theorem dJ {X:Cx} {pins:List (Addr×Obj)} {σ:L2.St} {H:Hp} {s:Shared} {a C:Addr} {l:List (Str×V)} (I:Inv X pins σ H s) (e:ExAt H a C l):∃ ox od,PySem.W.InstAt s.heap a ox C od:=by
 rcases e with ⟨e,_⟩|⟨dx,e,e'⟩
 .obtain ⟨⟨fs,h1⟩,_⟩:=I.hok a _ e;exact ⟨_,none,h1,rfl,rfl,True.intro⟩
 .obtain ⟨⟨fs,h1⟩,_⟩:=I.hok a _ e;obtain ⟨mA,⟨od,es,ep,h2,_⟩,_⟩:=I.hok dx _ e';exact ⟨_,some od,h1,rfl,rfl,h2⟩
def fE:List W->Option (List Addr)
 | []=>some []
 | .ref C::r=>(fE r).map (C::·)
 |_=>none
theorem gX {K:yZ} {H:Hp}:∀ {ws:List W} {Cs:List Addr} {vs:List V} {us:List Value},fE ws=some Cs->zQ K H ws vs->zF vs us->us=Cs.map .ref
 | [],Cs,vs,us,e,r,v=>by cases e;cases (show vs=[] from r);cases v;rfl
 |w::ws,Cs,vs,us,e,r,v=>by
  cases w with
  |ref C =>
   simp only [fE] at e;obtain ⟨Cs',e',rfl⟩:=Option.map_eq_some_iff.mp e;obtain ⟨x,tl,rfl,rx,rt⟩:=r;cases (show x=.ref C from rx)
   cases v with
   |cons a c =>
    cases (show _=Value.ref C from a);rw [gX e' rt c];rfl
  |_=>cases e
def isxS (K:yZ):RS:=fun ws G Q=>match ws with
 | [.exc C _ _,.ref D]=>PySem.W.XC K C/\XK K/\∃ b,PySem.W.kitOne K (.ref C) (.ref D)=some b/\Q (.bl b) G
 | [.exc C _ _,.ty T]=>PySem.W.XC K C/\XK K/\∃ b,PySem.W.kitOne K (.ref C) (.type T)=some b/\Q (.bl b) G
 | [.exc C _ _,.tup ts]=>PySem.W.XC K C/\XK K/\∃ b Cs,fE ts=some Cs/\PySem.W.kitAny K (.ref C) (Cs.map .ref)=some b/\Q (.bl b) G
 |ws=>isjS K ws G Q
theorem gD (K:yZ):jV (isxS K):=by
 intro ws G Q Q' k h;unfold isxS at h ⊢
 split at h
 .obtain ⟨h1,h2,b,h3,h4⟩:=h;exact ⟨h1,h2,b,h3,k _ _ h4⟩
 .obtain ⟨h1,h2,b,h3,h4⟩:=h;exact ⟨h1,h2,b,h3,k _ _ h4⟩
 .obtain ⟨h1,h2,b,Cs,h3,h4,h5⟩:=h;exact ⟨h1,h2,b,Cs,h3,h4,k _ _ h5⟩
 .exact zbN K _ _ _ _ k h
theorem ziC {X:Cx}:wC X (.builtin "isinstance") (sG X.K (isxS X.K)):=by
 intro pins s σ H xs us Q I r h;obtain ⟨ws,G,rs,ab,h⟩:=h;unfold isxS at h
 split at h
 .rename_i C ns vs' D;obtain ⟨v,y,rfl,rv,ry⟩:=pW rs;cases (show y=.ref D from ry);obtain ⟨u,c,rfl,ru,rc⟩:=rM r;cases (show c=Value.ref D from rc);obtain ⟨xc,xk,b,e,h⟩:=h;obtain ⟨a,vs,rfl,ex,_⟩:=rv;cases (show u=Value.ref a from ru);exact wF I.tk (PySem.W.kia_one (PySem.W.kitx_exc xc xk.get xk.tak) I.kIn (dJ I ex) e (fun z=>nomatch z) fun tk h0=>⟨.bl b,H,I.tok _ h0,rfl,h _ H .refl rfl ab⟩)
 .rename_i C ns vs' T;obtain ⟨v,y,rfl,rv,ry⟩:=pW rs;cases (show y=.ty T from ry);obtain ⟨u,c,rfl,ru,rc⟩:=rM r;cases (show c=Value.type T from rc);obtain ⟨xc,xk,b,e,h⟩:=h;obtain ⟨a,vs,rfl,ex,_⟩:=rv;cases (show u=Value.ref a from ru);exact wF I.tk (PySem.W.kia_one (PySem.W.kitx_exc xc xk.get xk.tak) I.kIn (dJ I ex) e (fun z=>nomatch z) fun tk h0=>⟨.bl b,H,I.tok _ h0,rfl,h _ H .refl rfl ab⟩)
 .rename_i C ns vs' ts;obtain ⟨v,y,rfl,rv,ry⟩:=pW rs;obtain ⟨u,c,rfl,ru,rc⟩:=rM r;obtain ⟨xc,xk,b,Cs,et,e,h⟩:=h;obtain ⟨a,vs,rfl,ex,_⟩:=rv;cases (show u=Value.ref a from ru);obtain ⟨p,ys,rfl,sq,rr⟩:=ry;cases (show c=Value.ref p from rc);obtain ⟨its,vv,pl,_⟩:=I.tuple sq;obtain ⟨⟨oc,od,dt,sl⟩,h1,h2,n,h3⟩:=pl;cases (show oc=_ from h2);cases (show dt=_ from h3);have ei:=gX et rr vv;subst ei;exact wF I.tk (PySem.W.kia_tup (PySem.W.kitx_exc xc xk.get xk.tak) I.kIn (dJ I ex) h1 e (fun z=>nomatch z) fun tk h0=>⟨.bl b,H,I.tok _ h0,rfl,h _ H .refl rfl ab⟩)
 .exact ziD pins s σ H xs us Q I r ⟨_,G,rs,ab,h⟩
abbrev eIsx (K:yZ):Fn3:=⟨"isinstance", fun ws G Q _=>isxS K ws G Q⟩
theorem zgt {q:Pr} {A:Around} (hm:q.mg "isinstance" = none):qM (q.at A) (eIsx q.K):=⟨nY (id := "isinstance") hm (by decide +kernel) (fun X f=>by rw [← show X.K=q.K from f.K];exact ziC) (gD _) (fun _ _ h=>h),fun ws G Q Q' _ k h=>gD _ ws G Q Q' k h⟩
section
variable {X : Cx}
theorem ze4 {pins:List (Addr×Obj)} {σ:L2.St} {H:Hp} {s:Shared} {A:Around} {Er:Value->Shared->Prop} {a C:Addr} {l:List (Str×V)} {f:Str} {v:V} {b:Bool} {Q:Value->Shared->Prop} (I:Inv X pins σ H s) (e:ExAt H a C l) (xc:PySem.W.XC X.K C) (hh:PySem.W.hasDictIn X.K C=true)
  (na:PySem.W.findIn X.K (.ref C) f=some none) (lk:l.lookup f=some v) (h:∀ u s',Inv X pins σ H s'->zC v u->Q u s'):wpAny (model X.prog X.w) A (getAttr (.ref a) f b) Q Er s:=by
 rcases e with ⟨_,rfl⟩|⟨dx,e,e'⟩
 .cases lk
 .obtain ⟨⟨fs,h1⟩,_⟩:=I.hok a _ e;obtain ⟨mA,n1,rel⟩:=I.hok dx _ e';obtain ⟨u,hu,ru⟩:=uW.some_of (v:=v) (o:=mA f) (by rw [← lk];exact rel f);obtain ⟨od,h2,look⟩:=gL n1;exact PySem.W.xg_value I.kIn ⟨h1,rfl,rfl,h2⟩ xc.ga xc.gt xc.sub (PySem.W.findObj_own hh na rfl (by rw [look,hu])) (gB ru) (h u _ (I.tok _) ru)
def tXf (K:yZ) (t:TE) (f:Str):TE:=fun τ H Q=>t τ H fun x H1=>∃ a C l v,x=.ref a/\ExAt H1 a C l/\PySem.W.XC K C/\PySem.W.hasDictIn K C=true/\PySem.W.findIn K (.ref C) f=some none/\l.lookup f=some v/\Q v H1
theorem pe_xf {e:Expr} {f:Str} {pos:Pos} {t:TE} (he:PE X e t) (hb:attributeBase e f X.env (eval e X.env)=eval e X.env):PE X (.Attribute e f pos) (tXf X.K t f):=by
 intro pins s σ H Q I h;refine zcs hb (yI (he pins s σ H _ I h) fun u s1 z=>?_);obtain ⟨x,H1,I1,rx,a,C,l,v,rfl,ex,xc,hh,na,lk,q⟩:=z;cases (show u=Value.ref a from rx);exact ze4 I1 ex xc hh na lk fun u' s2 I2 ru=>⟨v,H1,I2,ru,q⟩
end
def xfM (f:Str):Scope->Expr->Option (List Expr):=fun _ e=>match e with
 | .Attribute l y _=>if (y==f&&tY l)=true then some [l] else none
 |_=>none
def xfS (K:yZ) (f:Str):RS:=fun ws G Q=>match ws with
 | [.exc C ns vs]=>(PySem.W.XC K C/\PySem.W.hasDictIn K C=true/\PySem.W.findIn K (.ref C) f=some none)/\(match (ns.zip vs).lookup f with|some w=>Q w G|none=>False)
 |_=>False
theorem zcE (K:yZ) (f:Str):jV (xfS K f):=by
 intro ws G Q Q' k h;unfold xfS at h ⊢
 split at h
 .refine ⟨h.1,?_⟩;have h:=h.2
  split at h
  .exact k _ _ h
  .exact h.elim
 .exact h.elim
theorem ze7 {f:Str} {sc:Scope} {e:Expr} {xs:List Expr} (h:xfM f sc e=some xs):∃ l pos,e=.Attribute l f pos/\xs=[l]/\tY l=true:=by
 have no:¬ ((none:Option (List Expr))=some xs):=fun e=>nomatch e
 cases e with
 |Attribute l y pos =>
  replace h:(if (y==f&&tY l)=true then some [l] else none)=some xs:=h
  by_cases hb:(y==f&&tY l)=true
  .rw [if_pos hb] at h;obtain ⟨h1,h2⟩:=vY hb;cases h;cases eq_of_beq h1;exact ⟨l,pos,rfl,rfl,h2⟩
  .rw [if_neg hb] at h;exact absurd h no
 |_=>exact absurd h no
theorem cK {K:yZ} {H:Hp} {f:Str}:∀ {ns:List Str} {ws:List W} {vs:List V} {w:W},zQ K H ws vs->(ns.zip ws).lookup f=some w->∃ v,(ns.zip vs).lookup f=some v/\xN K H w v
 | [],ws,vs,w,_,e=>by cases e
 |n::ns,[],vs,w,_,e=>by cases e
 |n::ns,x::ws,vs,w,r,e=>by
  obtain ⟨v,tl,rfl,rv,rt⟩:=r;rw [List.zip_cons_cons,List.lookup_cons] at e ⊢
  cases q:(f==n) with
  |true=>rw [q] at e;cases e;exact ⟨v,rfl,rv⟩
  |false=>rw [q] at e;exact cK rt e
theorem sx_xf {q:Pr} {A:Around} {f:Str}:SxE (q.at A) ⟨xfM f,xfS q.K f⟩:=by
 intro X fits e xs es he each hn pa;obtain ⟨l,pos,rfl,rfl,ok⟩:=ze7 (sc:=X.env.scope) he
 match es,each with
 | [t],each =>
  refine ⟨(pe_xf each.2.1 (kX ok)).imp fun τ H Q h=>?_,fun _=>rfl,fun _ _ _ z=>nomatch z⟩;obtain ⟨σ,G,hs,ab,h⟩:=h;refine yE each.1 hs ab h fun w G1 v H1 g1 hs1 rx a1 h=>?_;have h:xfS q.K f [w] G1 (jL X.K H Q):=h;unfold xfS at h
  split at h
  .rename_i C ns vs ew;cases ew;obtain ⟨⟨h1,h2,h3⟩,h⟩:=h
   split at h
   .rename_i w' lk;obtain ⟨a,us,rfl,ex,rr⟩:=rx;obtain ⟨v',lk',rv⟩:=cK rr lk;rw [show q.K=X.K from (fits.K).symm] at h1 h2 h3;exact ⟨a,C,_,v',rfl,ex,h1,h2,h3,lk',h _ H1 g1 rv a1⟩
   .exact h.elim
  .exact h.elim
end L3
namespace PySem
open PySem.W
def Nw (fs:Array Value):Prop:=∃ v0 v2 v3 v4 v5,fs=#[v0,.none,v2,v3,v4,v5]
section
variable {prog : Program} {w : World} {A : Around} {Er : Value → Shared → Prop} {hp : Heap} {gn : Array GenState} {dr : Drawn} {tk : Nat} {st : OsState} {K : Frag}
variable {nm qn : Str} {C N : Addr} {bs up : List Value} {hdct : Bool} {sn : List Str} {sub : List Value} {ab : Bool} {col : Option Bool} {dd : Option Addr} {k0 k1 k2 k3 k5 : Option Value} {B new ini : String} {upB : List Value} {ps : List Value}
theorem zgW {M:Model} (F:ExcBaseFacts B new ini upB) (cC:hp.get? C=some (excClassObj nm qn C N bs up hdct sn sub ab col dd k0 k1 k2 k3 k5 new)) (isB:(Value.ref C::up).contains (.type B)=true) {Q:Unit->Shared->Prop} (go:Q () ⟨hp,gn,dr,tk,st⟩) :
  wpAny M A (checkBuiltinCall new ⟨.ref C::ps,[]⟩) Q Er ⟨hp,gn,dr,tk,st⟩:=by
 have z:=F.noStar;simp only [checkBuiltinCall,F.newKind,F.newRow,F.newSplit]
 repeat (first|(refine wpAny_isSubtype_exc cC ?_;rw [isB])|refine wpAny_madeBy_exc cC ?_|refine wpAny_staticBase_exc cC ?_|refine wpAny_loadPart_at cC ?_|simp only [if_false,zzB,bne_self_eq_false]|wp_step)
 exact go
theorem zgV (F:ExcBaseFacts B new ini upB) (cC:hp.get? C=some (excClassObj nm qn C N bs up hdct sn sub ab col dd k0 k1 k2 k3 k5 new)) (isB:(Value.ref C::up).contains (.type B)=true) (noA:(Value.ref C::up).contains (.type "AttributeError")=false) (noN:(Value.ref C::up).contains (.type "NameError")=false)
  (few:ps.length<=sizeLine) {R:Result->Shared->Prop} (go:R (.ok (.ret (.ref (hp.objs.size+1)))) ⟨xnH hp C ps,gn,dr,tk,st⟩):codeAny (model prog w) A (.builtin new ⟨.ref C::ps,[]⟩) R ⟨hp,gn,dr,tk,st⟩:=by
 have z:=F.ends;refine codeAny_builtinAt F.entry ?_;unfold Builtin.«BaseException.__new__»;refine wpAt_bind (show wpAt _ _ _ (stack >>= _) _ _ _ from wpAt_bind (wpAt_stack fun p below=>wpAt_of_wpAny ?_))
 wp_walk
 refine wpAt_of_wpAny ?_;rw [F.owner]
 repeat (first|(with_reducible refine wpAny_isSubtype_exc cC ?_;first|rw [isB]|rw [noA]|rw [noN])|(with_reducible refine wpAny_madeHere_exc F.canon cC ?_)|(with_reducible refine wpAny_loadPart_at cC ?_)|wp_step)
 show R _ _;rw [Heap.size_push];exact go
theorem ze2 (X:K.In hp) (F:ExcBaseFacts B new ini upB) (lC:K.lookup C=some (excClassObj nm qn C N bs up hdct sn sub ab col dd k0 k1 k2 k3 k5 new)) (isB:(Value.ref C::up).contains (.type B)=true) (noA:(Value.ref C::up).contains (.type "AttributeError")=false) (noN:(Value.ref C::up).contains (.type "NameError")=false)
  (few:ps.length<=sizeLine) {fI:Addr} (ci:findIn K (.ref C) "__init__" = some (some (.ref fI))) (cf:typeIn K (.ref fI)=some (.type "function")) {Q:Fin->Shared->Prop}
  (go:wpAny (model prog w) A (call (.ref fI) (.ref (hp.objs.size+1)::ps)) (fun r s'=>r=.none/\Q (.done (.ret (.ref (hp.objs.size+1)))) s') Er ⟨xnH hp C ps,gn,dr,tk,st⟩) :
  wpAny (model prog w) A (Builtin.«type.__call__» ⟨.ref C::ps,[]⟩) Q Er ⟨hp,gn,dr,tk,st⟩:=by
 have cC:=X _ _ lC;have X':K.In (xnH hp C ps):=fun a o e=>zea (X a o e);have mine:(Value.ref C::up).contains (.ref C)=true:=by simp
 have cC':=X' _ _ lC;have here:=zgU (hp:=hp) (C:=C) (ps:=ps)
 repeat (first|(with_reducible refine wpAny_loadPart_at cC ?_)|(with_reducible refine wpAny_madeBy_exc cC ?_)|wp_step)
 refine codeAny_call_builtin_code (Code.quiet_builtin _ F.quiet) (zgW F cC isB (zgV F cC isB noA noN few ?_));show wpAny _ _ _ _ _ (Shared.mk (xnH hp C ps) _ _ _ _);unfold isInstance
 repeat (first|(with_reducible refine wpAny_loadPart_at here ?_)|(with_reducible refine wpAny_isSubtype_exc cC' ?_;rw [mine])|wp_step)
 refine (show wpAny (model prog w) A (typeLookup (.ref C) "__init__") _ _ _ from (looks_findIn X' ci (M:=model prog w)).at ?_);refine wpAny_holding (wpAny_bind (show wpAny (model prog w) A (bindSpecial (.ref fI) _) _ _ _ from ?_));unfold bindSpecial;refine wpAny_bind ((looks_typeIn X' cf (M:=model prog w)).at ?_);rw [if_pos (by decide)];refine wpAny_pure (wpAny_bind (wpAny_mono go (fun r s' z=>?_) fun _ _ z=>z));obtain ⟨rfl,z⟩:=z
 wp_walk
 exact z
theorem ze3 (X:K.In hp) (F:ExcBaseFacts B new ini upB) (lC:K.lookup C=some (excClassObj nm qn C N bs up hdct sn sub ab col dd k0 k1 k2 k3 k5 new)) (isB:(Value.ref C::up).contains (.type B)=true) (noA:(Value.ref C::up).contains (.type "AttributeError")=false) (noN:(Value.ref C::up).contains (.type "NameError")=false)
  (few:ps.length<=sizeLine) {fI:Addr} (ci:findIn K (.ref C) "__init__" = some (some (.ref fI))) (cf:typeIn K (.ref fI)=some (.type "function")) {Q:Value->Shared->Prop}
  (go:wpAny (model prog w) (A.under (.builtin "type.__call__" ⟨.ref C::ps,[]⟩)) (call (.ref fI) (.ref (hp.objs.size+1)::ps)) (fun r s'=>r=.none/\Q (.ref (hp.objs.size+1)) s') Er ⟨xnH hp C ps,gn,dr,tk,st⟩) :
  wpAny (model prog w) A (call (.ref C) ps) Q Er ⟨hp,gn,dr,tk,st⟩:=by
 have cC:=X _ _ lC;have a1:=tc_lookup;have a2:=tc_bind (.ref C);have a3:(⟨hp,gn,dr,tk,st⟩:Shared).TypeIs (.ref C) "type" := ⟨_,cC,rfl⟩;refine wpAny_call (codeAny_of_tree (show wpAny _ _ (callAny (.ref C) _) _ _ _ from ?_))
 repeat (any_goals (first|assumption|(with_reducible refine wpAny_loadPart_at cC ?_)|wp_step))
 exact ⟨rfl,codeAny_call_builtin_at (Code.quiet_builtin _ (by decide +kernel)) entry_typeCall (wpAny_check_type_call_sub cC (ze2 X F lC isB noA noN few ci cf go))⟩
end
end PySem
namespace L3
open PySem PySem.Spec PyProof.Rows L2
structure XM (K:yZ) (C:Addr) (ini:Value):Prop where
 cls:∃ (nm qn:Str) (N:Addr) (bs up:List Value) (hd:Bool) (sn:List Str) (sub:List Value) (ab:Bool) (col:Option Bool) (dd:Option Addr) (k0 k1 k2 k3 k5:Option Value),
  K.lookup C=some (excClassObj nm qn C N bs up hd sn sub ab col dd k0 k1 k2 k3 k5 "ValueError.__new__")/\(Value.ref C::up).contains (.type "ValueError")=true/\(Value.ref C::up).contains (.type "AttributeError")=false/\(Value.ref C::up).contains (.type "NameError")=false/\(Value.ref C::up).contains (.type "BaseException")=true
 ini:PySem.W.findIn K (.ref C) "__init__" = some (some ini)
 kp:PySem.W.keepIn K (.ref C)=true
def ExN (a C:Addr) (dx:Option Addr):Heap->Prop:=fun h=>∃ fs,h.get? a=some { cls:=.ref C,dict:=dx,data:=.fields fs }/\Nw fs
theorem zeJ {P:Program} {w:World} {H:Hp} {h:Heap} {a C:Addr} {dx:Option Addr} {fs:Array Value} (e:h.get? a=some { cls:=.ref C,dict:=dx,data:=.fields fs }) (n:Nw fs):xU P w H h a (.ext (ExN a C dx)) :=
 ⟨⟨fs,e,n⟩,⟨_,e⟩,fun h1 h2 z k=>by obtain ⟨fs',e,n⟩:=z;exact ⟨fs',k _ e,n⟩⟩
theorem zeI {P:Program} {w:World} {H:Hp} {h:Heap} {a C:Addr} {dx:Option Addr} {fs:Array Value} (e:h.get? a=some { cls:=.ref C,dict:=dx,data:=.fields fs }):xU P w H h a (.ext (cP a C dx)) :=
 ⟨⟨fs,e⟩,⟨_,e⟩,fun h1 h2 z k=>by obtain ⟨fs',e⟩:=z;exact ⟨fs',k _ e⟩⟩
structure XI (K:yZ) (C:Addr) (f:Str):Prop where
 cls:∃ cd,PySem.W.clsIn K C=some cd/\cd.hasDict=true/\PySem.W.vTail cd.mro
 sa:PySem.W.findIn K (.ref C) "__setattr__" = some (some (.builtin "object.__setattr__"))
 mro:PySem.W.mroIn K C (.type "object")=some true
 no:PySem.W.findIn K (.ref C) f=some none
theorem zbf {hp:Heap} {od v:Obj} {b:Addr} (z:b≠hp.objs.size) (q:(hp.push od).get? b=some v):hp.get? b=some v:=by
 obtain ⟨q1,q2⟩:=Heap.get?_some_iff.mp q;refine Heap.get?_some_iff.mpr ⟨?_,q2⟩;obtain ⟨os,rs⟩:=hp;simpa [Heap.push,Array.getElem?_push,z] using q1
section
variable {X : Cx}
theorem ze0 {pins:List (Addr×Obj)} {σ:L2.St} {H:Hp} {s:Shared} {A:Around} {Er:Value->Shared->Prop} {a C:Addr} {f:Str} {y:V} {u:Value} {Q:Unit->Shared->Prop} (I:Inv X pins σ H s) (e:H a=some (.ext (ExN a C none))) (T:XI X.K C f) (ry:zC y u)
  (h:∀ dx s',H dx=none->dx≠a->Inv X pins σ (yT (yT H dx (.xd [(f,y)])) a (.ext (ExN a C (some dx)))) s'->Q () s'):wpAny (model X.prog X.w) A (setAttr (.ref a) f u) Q Er s:=by
 obtain ⟨⟨fs,h1,nw⟩,_⟩:=I.hok a _ e;obtain ⟨cd,hc,hd,up⟩:=T.cls;obtain ⟨hp,gn,dr,tk,st⟩:=s;refine wF I.tk (PySem.W.xs_set I.kIn h1 hc hd up T.sa T.mro T.no fun h' n' now ns keep h0=>?_);have fr:H hp.objs.size=none:=I.hok.fresh (zzR _);have ne:hp.objs.size≠a:=fun z=>by rw [z,e] at fr;cases fr
 obtain ⟨od,es,ep,e1,rest⟩:=id ns;have live:=(Heap.get?_some_iff.mp e1).2;have at1:(hp.push od).get? hp.objs.size=some od:=Heap.get?_push_size hp live
 have rel:∀ g,uW ([(f,y)].lookup g) (if g=f then some u else none):=fun g=>by
  by_cases q:g=f
  .subst q;rw [if_pos rfl,List.lookup_cons_self];exact ry
  .have:(g==f)=false:=by simpa using q
   rw [if_neg q,List.lookup_cons,this];exact True.intro
 have I1:=I.laid (a:=hp.objs.size) (h':=hp.push od) (t':=tk) (o:=.xd [(f,y)]) (fun b v q=>Heap.get?_push_of_some _ q) (zzR _) ⟨_,ns.at fun o q=>by rw [e1] at q;cases q;exact at1,rel⟩
 have I2:=I1.write (x:=a) (e:=a) (h':=h') (t':=n') (o:=.ext (ExN a C (some hp.objs.size))) (by rw [zW ne.symm,e];exact True.intro) (.inl rfl) (fun b v hb q=>by
   by_cases z:b=hp.objs.size
   .subst z;rw [at1] at q;cases q;exact e1
   .exact keep b v hb (zbf z q)) ⟨_,now⟩ (zeJ now nw)
 exact h _ _ fr ne I2
def sXs (K:yZ) (ta tv:TE) (f:Str):TS:=fun D σ H=>tv σ H fun y H1=>ta σ H1 fun x H2=>∃ a C,x=.ref a/\H2 a=some (.ext (ExN a C none))/\XI K C f/\∀ dx,H2 dx=none->dx≠a->D.nx σ (yT (yT H2 dx (.xd [(f,y)])) a (.ext (ExN a C (some dx))))
theorem ps_xs {o value:Expr} {f:Str} {pos pos':Pos} {ta tv:TE} (ha:PE X o ta) (hv:PE X value tv) (hs:swapsWith value (some (.Attribute o f pos')) pos.line X.env=pure false):PS X (.Assign [.Attribute o f pos'] value pos) (sXs X.K ta tv f):=by
 intro pins s σ H D I h;refine plainObj_wpAny_Assign_Attribute (yI (hv pins s σ H _ I h) fun u s1 z=>?_) hs;obtain ⟨y,H1,I1,ry,z⟩:=z;refine yI (ha pins s1 σ H1 _ I1 z) fun ov s2 z=>?_;obtain ⟨x,H2,I2,rx,a,C,rfl,e,T,z⟩:=z;cases (show ov=Value.ref a from rx);exact ze0 I2 e T ry fun dx s3 fr ne I3=>⟨σ,_,I3,z dx fr ne⟩
end
def spXI (K:yZ) (f:Str):Sp:=fun vs H Q _=>∃ a v C,vs=[.ref a,v]/\H a=some (.ext (ExN a C none))/\XI K C f/\∀ dx,H dx=none->dx≠a->Q .non (yT (yT H dx (.xd [(f,v)])) a (.ext (ExN a C (some dx))))
theorem zcB {q:Pr} {k:Nat} {qual p f:Str} {stm:Stmt} {fI:Addr} {fd:FuncData} {p1 p2 p3 p4:Pos} (F:Fun q.K "__init__" qual stm fI fd) (S:FnScope ["self", p] ["self", p] (zY stm)) (hb:zG stm=[.Assign [.Attribute (.Name "self" p1) f p2] (.Name p p3) p4])
  (v0:visB (zY stm) "self" = true) (v1:visB (zY stm) p=true) (n1:(p==("__debug__" : Str))=false) (n2:(p==("__classdict__" : Str))=false):FnOk q.prog q.w q.K q.mg q.base CX0 (k+1) fI fd ["self", p] (spXI q.K f):=by
 refine F.ok S (fun vs H Q E h=>by obtain ⟨a,v,C,rfl,_⟩:=h;rfl) (fun cdv A outer s H vs Q E hr h=>?_);obtain ⟨a,v,C,rfl,e,T,h⟩:=h;rw [hb];refine ⟨_,zbg (ps_xs (fB (i:=0) rfl (zaX v0) (by decide +kernel) (by decide +kernel)) (fB (i:=1) rfl (zaX v1) n1 n2) (wZ rfl)),?_⟩;exact ⟨v,rfl,.ref a,rfl,a,C,rfl,e,T,fun dx fr ne=>h dx fr ne⟩
def mk1 (C:Addr) (f:Str):List V->Hp->VK->Prop:=fun vs H Q=>∃ v,vs=[v]/\∀ a dx,H a=none->H dx=none->dx≠a->Q (.ref a) (yT (yT H dx (.xd [(f,v)])) a (.ext (ExN a C (some dx))))
theorem zia {X:Cx} {C fI:Addr} {f p:Str} {k:Nat} {fd:FuncData} (T:XM X.K C (.ref fI)) (TI:XI X.K C f) (F:FnOk X.prog X.w X.K X.mg X.base CX0 k fI fd ["self", p] (spXI X.K f)) (hr:Room (k+1) X.A) (hb:wH X.K fd ["self", p] []) (hf:PySem.W.typeIn X.K (.ref fI)=some (.type "function")) :
  wC X (.ref C) (mk1 C f):=by
 intro pins s σ H xs us Q I r h;obtain ⟨v,rfl,h⟩:=h;obtain ⟨u,rfl,ru⟩:=kT r;obtain ⟨nm,qn,N,bs,up,hd,sn,sub,abb,col,dd,k0,k1,k2,k3,k5,lC,isB,noA,noN,isX⟩:=T.cls;obtain ⟨hp,gn,dr,tk,st⟩:=s;have one:([u]:List Value).length<=sizeLine:=by show 1<=sizeLine;rw [sizeLine_eq];decide
 refine ze3 I.kIn PySem.F.excBase_ValueError lC isB noA noN one T.ini hf ?_;have fr:H (hp.objs.size+1)=none:=I.hok.fresh (Nat.le_succ _);have I2:=I.laid (a:=hp.objs.size+1) (h':=xnH hp C [u]) (t':=tk) (o:=.ext (ExN (hp.objs.size+1) C none)) (fun b o=>zea) (Nat.le_succ _) (zeJ zgU ⟨_,_,_,_,_,rfl⟩);generalize hp.objs.size+1=e at fr I2 ⊢
 have hq:spXI X.K f [.ref e,v] (yT H e (.ext (ExN e C none))) (fun v' H2=>v'=.non/\Q (.ref e) H2) E0:=by
  refine ⟨e,v,C,rfl,yY,TI,fun dx fx ne=>⟨rfl,?_⟩⟩;have fx':H dx=none:=by rw [zW ne] at fx;exact fx
  have same:yT (yT (yT H e (.ext (ExN e C none))) dx (.xd [(f,v)])) e (.ext (ExN e C (some dx)))=yT (yT H dx (.xd [(f,v)])) e (.ext (ExN e C (some dx))):=by
   funext b
   unfold yT
   by_cases z:b=e
   .simp only [if_pos z]
   .by_cases z':b=dx
    .simp only [if_neg z,if_pos z']
    .simp only [if_neg z,if_neg z']
  rw [same];exact h e dx fr fx' ne
 refine wpAny_call (codeAny_mono (F.run _ X.stack _ _ ⟨[.ref e,u],[]⟩ [.ref e,u] [.ref e,v] _ E0 (hr.make C [u] []) (I2.env0.make C [u] []) (hb _ [.ref e,u] I2.kIn rfl) (.cons rfl (.cons ru .nil)) hq) fun rr s' z=>?_)
 cases rr with
 |error e'=>exact bF pins σ _ _ e' s' I2 z
 |ok fl =>
  cases fl with
  |ret u' =>
   obtain ⟨v',H',I3,rv',ev,q3⟩:=I2.after z;subst ev;exact ⟨rv',⟨.ref e,H',I3,rfl,q3⟩⟩
  |next=>exact False.elim z
  |brk=>exact False.elim z
  |cont=>exact False.elim z
structure Lf (fs:List Addr) (a:Addr) (old:Option Addr) (T:Addr) (fl:Value) (h h':Heap):Prop where
 keep:∀ b o,h.get? b=some o->b≠a->old≠some b->b∉fs->h'.get? b=some o
 slot:∀ b o,h.get? b=some o->b≠a->old≠some b->∃ sl,h'.get? b=some { o with slots:=sl }
 it:∀ o vs,h.get? a=some o->o.data=.fields vs->∃ vs',h'.get? a=some { o with data:=.fields vs' }/\vs'[1]?=some (.ref T)
 tb:∃ oT ts,h'.get? T=some oT/\oT.data=.fields ts/\ts[3]?=some fl
 new:h.objs.size<=T
 old':∀ b o,old=some b->h.get? b=some o->∃ o',h'.get? b=some o'
section
variable {M : Model} {A : Around} {E : Value → Shared → Prop} {s : Shared} {base : Heap} {env : Env} {outer : List Env} {L a : Addr}
theorem mapF {o:Obj} {vs:Array Value} (hd:o.data=.fields vs) (f:Array Value->Array Value):Obj.mapFields f o={ o with data:=.fields (f vs) }:=by
 obtain ⟨c,d,dt,sl⟩:=o;subst hd;rfl
theorem tU {h:Heap} {b:Addr} {o:Obj} {vs:Array Value} (e:h.get? b=some o) (hd:o.data=.fields vs) (f:Array Value->Array Value):(h.update b (Obj.mapFields f)).get? b=some { o with data:=.fields (f vs) }:=by
 rw [← mapF hd];exact Heap.get?_update_self _ e (by rw [mapF hd];rfl)
theorem zak {oe:Obj} {vs:Array Value} {head:Value} {had:Bool} {Q:Unit->Shared->Prop} (hfr:A.frames=some (env::outer)) (hl:s.heap.FunFrames base (env::outer)) (hf:env.frame=some L) (he:s.heap.get? a=some oe) (hd:oe.data=.fields vs) (hz:1<vs.size)
  (q:∀ h' T,Lf (sC (env::outer)) a none T (rawInt L) s.heap h'->Q () { s with heap:=h' }) :
  wpAny M A (frameOf env >>= fun x=>entryPlaceOf L had >>= fun pl=>EntryCells.newEntry head x .none (rawInt L) .none pl >>= fun b=>setField (.ref a) 1 b) Q E s:=by
 have na:a∉sC (env::outer):=fun z=>by
  obtain ⟨_,o,ho,no⟩:=hl.mem z;rw [he] at ho;cases ho;exact no vs hd
 refine wpAny_bind (wpAny_frameOf_fun hfr hl hf fun h1 s1=>wpAny_bind (wpAny_entryPlaceOf fun pl hp=>?_));unfold EntryCells.newEntry newFields;refine wpAny_bind (wpAny_newObj_type ?_ (hp.sizeOk5 _ _ _ _ _));have e1:h1.get? a=some oe:=(s1.2.1 a na).trans he;have lt:a<h1.objs.size:=Heap.lt_size e1;refine wpAny_setField (Heap.get?_push_of_some _ e1) hd hz (q _ h1.objs.size ⟨fun b o eb n1 _ n2=>?_,fun b o eb n1 _=>?_,fun o ws eo ew=>?_,?_,by rw [s1.1];exact zzR _,fun b o z=>by cases z⟩)
 .rw [Heap.get?_update_other _ _ (Ne.symm n1)];exact Heap.get?_push_of_some _ ((s1.2.1 b n2).trans eb)
 .obtain ⟨sl,es⟩:=s1.2.2 b o eb;exact ⟨sl,by rw [Heap.get?_update_other _ _ (Ne.symm n1)];exact Heap.get?_push_of_some _ es⟩
 .rw [he] at eo;cases eo;rw [hd] at ew;cases ew;exact ⟨_,tU (Heap.get?_push_of_some _ e1) hd _,by simp [hz]⟩
 .refine ⟨_,_,(Heap.get?_update_other _ _ (Nat.ne_of_lt lt)).trans (Heap.get?_push_size h1 rfl),rfl,?_⟩
  first|(simp;done)|(rcases hp with rfl|⟨_,_,_,_,_,_,_,rfl⟩<;>simp)
theorem zbv {oe:Obj} {vs:Array Value} {Q:Unit->Shared->Prop} (hfr:A.frames=some (env::outer)) (hl:s.heap.FunFrames base (env::outer)) (hf:env.frame=some L) (he:s.heap.get? a=some oe) (hd:oe.data=.fields vs) (h1:vs[1]?=some .none)
  (q:∀ h' T,Lf (sC (env::outer)) a none T (rawInt L) s.heap h'->Q () { s with heap:=h' }):wpAny M A (noteFrame (.ref a) env) Q E s:=by
 unfold noteFrame;simp only [hf];refine wpAny_bind (wpAny_field he hd h1 ?_);rw [if_neg (by decide)];exact zak hfr hl hf he hd (Array.getElem?_eq_some_iff.mp h1).1 q
structure Trc (h:Heap) (a T:Addr):Prop where
 it:∃ o vs,h.get? a=some o/\o.data=.fields vs/\vs[1]?=some (.ref T)
 ne:T≠a
 tb:∃ o ts,h.get? T=some o/\o.data=.fields ts/\ts[3]?=some .none
theorem zbu {T0:Addr} {Q:Unit->Shared->Prop} (hfr:A.frames=some (env::outer)) (hl:s.heap.FunFrames base (env::outer)) (hf:env.frame=some L) (t:Trc s.heap a T0)
  (q:∀ h' T,Lf (sC (env::outer)) a (some T0) T (rawInt L) s.heap h'->Q () { s with heap:=h' }):wpAny M A (noteFrame (.ref a) env) Q E s:=by
 obtain ⟨oe,vs,he,hd,h1⟩:=t.it;obtain ⟨oT,ts,hT,dT,h3⟩:=t.tb;have z3:3<ts.size:=(Array.getElem?_eq_some_iff.mp h3).1
 have nT:T0∉sC (env::outer):=fun z=>by
  obtain ⟨_,o,ho,no⟩:=hl.mem z;rw [hT] at ho;cases ho;exact no ts dT
 unfold noteFrame;simp only [hf];refine wpAny_bind (wpAny_field he hd h1 ?_);rw [if_pos (show (Value.ref T0 != Value.none)=true by simp)];refine wpAny_bind (wpAny_field hT dT h3 ?_);rw [if_neg (show ¬ ((Value.none==rawInt L)=true) by simp [rawInt])];refine wpAny_bind (wpAny_setField hT dT z3 ?_);have off:∀ {b:Addr} {o:Obj},b≠T0->s.heap.get? b=some o->(s.heap.update T0 (Obj.mapFields (·.setIfInBounds 3 Value.none))).get? b=some o:=fun n e=>(Heap.get?_update_other _ _ (Ne.symm n)).trans e
 have nf:∀ b o,s.heap.get? b=some o->(∀ vs,o.data≠.fields vs)->b≠T0:=fun b o e no z=>by
  rw [z,hT] at e;cases e;exact no ts dT
 refine zak (base:=base) (a:=a) (oe:=oe) (s:={ s with heap:=s.heap.update T0 (Obj.mapFields (·.setIfInBounds 3 Value.none)) }) hfr (hl.of_keeps fun b o e no=>⟨o,off (nf b o e no) e,rfl⟩) hf (off t.ne.symm he) hd (Array.getElem?_eq_some_iff.mp h1).1 fun h' T x=>q h' T ?_;refine ⟨fun b o e n1 n2 n3=>x.keep b o (off (fun z=>n2 (by rw [z])) e) n1 (by simp) n3,fun b o e n1 n2=>x.slot b o (off (fun z=>n2 (by rw [z])) e) n1 (by simp),fun o ws e ew=>?_,x.tb,?_,fun b o eb e=>?_⟩
 .exact x.it o ws (off t.ne.symm e) ew
 .have:=x.new
  rwa [Heap.size_after_update] at this
 .cases eb;obtain ⟨sl,es⟩:=x.slot T0 _ (tU hT dT _) t.ne (by simp);exact ⟨_,es⟩
theorem sY {fs:List Addr} {old:Option Addr} {T:Addr} {fl:Value} {h0:Heap} {Q:Unit->Shared->Prop} (x:Lf fs a old T fl h0 s.heap) (he:∃ o vs,h0.get? a=some o/\o.data=.fields vs) (q:∀ h',Lf fs a old T .none h0 h'->Q () { s with heap:=h' }):wpAny M A (setFlight (.ref a) none) Q E s:=by
 obtain ⟨o,vs,he,hd⟩:=he;obtain ⟨vs',e1,h1⟩:=x.it o vs he hd;obtain ⟨oT,ts,eT,dT,h3⟩:=x.tb;have z3:3<ts.size:=(Array.getElem?_eq_some_iff.mp h3).1;have off:∀ {b:Addr} {o:Obj},h0.get? b=some o->∀ {u:Obj},s.heap.get? b=some u->(s.heap.update T (Obj.mapFields (·.setIfInBounds 3 Value.none))).get? b=some u:=fun e u r=>(Heap.get?_update_other _ _ (Ne.symm (Nat.ne_of_lt (Nat.lt_of_lt_of_le (Heap.lt_size e) x.new)))).trans r;unfold setFlight;refine wpAny_bind (wpAny_field e1 rfl h1 ?_);rw [if_pos (show (Value.ref T != Value.none)=true by simp)];refine wpAny_setField eT dT z3 (q _ ⟨fun b o e n1 n2 n3=>off e (x.keep b o e n1 n2 n3),fun b o e n1 n2=>?_,fun o ws e ew=>?_,⟨_,_,tU eT dT _,rfl,by simp [z3]⟩,x.new,fun b o eb e=>?_⟩)
 .obtain ⟨sl,r⟩:=x.slot b o e n1 n2;exact ⟨sl,off e r⟩
 .obtain ⟨ws',r,r1⟩:=x.it o ws e ew;exact ⟨ws',off e r,r1⟩
 .obtain ⟨o',r⟩:=x.old' b o eb e;exact ⟨o',off e r⟩
theorem Lf.trc {fs:List Addr} {old:Option Addr} {T:Addr} {h h':Heap} (x:Lf fs a old T .none h h') (he:∃ o vs,h.get? a=some o/\o.data=.fields vs):Trc h' a T:=by
 obtain ⟨o,vs,he,hd⟩:=he;obtain ⟨vs',e1,h1⟩:=x.it o vs he hd;exact ⟨⟨_,vs',e1,rfl,h1⟩,Nat.ne_of_gt (Nat.lt_of_lt_of_le (Heap.lt_size he) x.new),x.tb⟩
theorem zbD {oe:Obj} {vs:Array Value} {Q:Unit->Shared->Prop} (hfr:A.frames=some (env::outer)) (hl:s.heap.FunFrames base (env::outer)) (hf:env.frame=some L) (he:s.heap.get? a=some oe) (hd:oe.data=.fields vs) (h1:vs[1]?=some .none)
  (q:∀ h' T,Lf (sC (env::outer)) a none T .none s.heap h'->Q () { s with heap:=h' }):wpAny M A (leaving env (.ref a)) Q E s:=by
 unfold leaving;exact wpAny_bind (zbv hfr hl hf he hd h1 fun h' T x=>sY x ⟨oe,vs,he,hd⟩ fun h2 x2=>q h2 T x2)
theorem zdw {T0:Addr} {Q:Unit->Shared->Prop} (hfr:A.frames=some (env::outer)) (hl:s.heap.FunFrames base (env::outer)) (hf:env.frame=some L) (t:Trc s.heap a T0)
  (q:∀ h' T,Lf (sC (env::outer)) a (some T0) T .none s.heap h'->Q () { s with heap:=h' }):wpAny M A (leaving env (.ref a)) Q E s:=by
 obtain ⟨oe,vs,he,hd,h1⟩:=t.it;unfold leaving;exact wpAny_bind (zbu hfr hl hf t fun h' T x=>sY x ⟨oe,vs,he,hd⟩ fun h2 x2=>q h2 T x2)
end
def CXr (P:Program) (w:World):CXT:=fun outer H s E e s'=>∃ (a C:Addr) (dx:Option Addr) (T:Addr) (H':Hp),e=.ref a/\s'.os=s.os/\0<s'.toks/\AllBare s'.gens/\Un (sC outer) [] H H' s.heap s'.heap/\kK P w H' s'.heap /\
 H' a=some (.ext (cP a C dx))/\Trc s'.heap a T/\s.heap.objs.size<=T/\H' T=none/\E (.ref a) none H'
section
variable {P : Program} {w : World} {fs : List Addr} {a T : Addr} {old : Option Addr} {fl : Value} {h h' : Heap} {H : Hp} {φ ψ : Heap → Prop}
theorem zeA (ok:kK P w H h) (x:Lf fs a old T fl h h') (hf:∀ b∈fs,H b=none) (ho:∀ b,old=some b->H b=none) (ha:H a=some (.ext φ)) (new:xU P w (yT H a (.ext ψ)) h' a (.ext ψ)):kK P w (yT H a (.ext ψ)) h':=fun b o e=>by
 by_cases hb:b=a
 .subst hb;rw [yY] at e;cases e;exact new
 .rw [zW hb] at e
  have kp:∀ c u,(∃ v,H c=some v)->c≠a->h.get? c=some u->h'.get? c=some u:=fun c u hc ne q=>by
   obtain ⟨v,hv⟩:=hc;refine x.keep c u q ne (fun z=>?_) fun z=>?_
   .rw [ho c z] at hv;cases hv
   .rw [hf c z] at hv;cases hv
  refine (ok b o e).stay (fun c u hc q=>?_) (fun c q=>?_) fun c xs q=>?_
  .rcases hc with rfl|hc
   .exact kp c u ⟨_,e⟩ hb q
   .exact kp c u ⟨_,hc⟩ (fun z=>by rw [z,ha] at hc;cases hc) q
  .rw [zW fun z=>by rw [z,ha] at q;cases q];exact q
  .rw [zW fun z=>by rw [z,ha] at q;cases q];exact q
end
section
variable {X : Cx} {pins : List (Addr × Obj)} {σ : L2.St} {H : Hp} {s : Shared} {a T : Addr} {old : Option Addr} {fl : Value} {h' : Heap} {φ ψ : Heap → Prop}
theorem zfb (I:Inv X pins σ H s) (x:Lf (sC X.stack) a old T fl s.heap h') (ha:H a=some (.ext φ)) (hat:∃ o vs,s.heap.get? a=some o/\o.data=.fields vs) (hold:∀ b,old=some b->X.s₀.heap.objs.size<=b) (hex:X.ex=[]):Un X.fs [] X.H₀ (yT H a (.ext ψ)) X.s₀.heap h':=by
 have nx:∀ b:Addr,b∉X.ex:=fun b=>by rw [hex];simp
 have no:∀ b o,X.s₀.heap.get? b=some o->old≠some b:=fun b o e z=>absurd (Nat.lt_of_lt_of_le (Heap.lt_size e) (hold b z)) (Nat.lt_irrefl _);have nL:∀ b o,X.s₀.heap.get? b=some o->b≠X.env.locals:=fun b o e=>Nat.ne_of_lt (Nat.lt_of_lt_of_le (Heap.lt_size e) I.ok.above);have na:∀ b,H b=none->b≠a:=fun b n z=>by rw [z,ha] at n;cases n
 refine ⟨fun b o e n hb _=>?_,fun b o e n hb _=>?_,fun b o e n _=>?_,fun b o e _=>?_,fun b xs e=>?_,fun b o u e=>?_,fun b ps e=>?_⟩
 .refine x.keep b o (I.base.keep b o e n hb (nx b)) (na b (I.base.free b o e n (nx b))) (no b o e) fun z=>?_;rcases List.mem_cons.mp (I.stkSub b z) with z|z
  .exact nL b o e z
  .exact hb z
 .obtain ⟨sl,e1⟩:=I.base.slot b o e n hb (nx b);obtain ⟨sl',e2⟩:=x.slot b _ e1 (na b (I.base.free b o e n (nx b))) (no b o e);exact ⟨sl',e2⟩
 .rw [zW (na b (I.base.free b o e n (nx b)))];exact I.base.free b o e n (nx b)
 .obtain ⟨o',e1⟩:=I.base.there b o e (nx b)
  by_cases hb:b=a
  .subst hb;obtain ⟨oa,vs,e3,d3⟩:=hat;obtain ⟨vs',r,_⟩:=x.it oa vs e3 d3;exact ⟨_,r⟩
  .obtain ⟨sl,r⟩:=x.slot b o' e1 hb (no b o e);exact ⟨_,r⟩
 .have e1:=I.base.tups b xs e;rw [zW fun z=>by rw [z,ha] at e1;cases e1];exact e1
 .have e1:=I.base.frzs b o u e;rw [zW fun z=>by rw [z,ha] at e1;cases e1];exact e1
 .obtain ⟨m,e1⟩:=I.base.tbls b ps e;exact ⟨m,by rw [zW fun z=>by rw [z,ha] at e1;cases e1];exact e1⟩
theorem zbC {C:Addr} {dx:Option Addr} {E:L2.XK} (I:Inv X pins σ H s) (x:Lf (sC X.stack) a old T .none s.heap h') (ha:H a=some (.ext φ)) (hat:∃ fs,s.heap.get? a=some { cls:=.ref C,dict:=dx,data:=.fields fs }) (hold:∀ b,old=some b->X.s₀.heap.objs.size<=b/\H b=none) (hex:X.ex=[]) (hE:E (.ref a) none (yT H a (.ext (cP a C dx)))) :
  CXr X.prog X.w X.outer X.H₀ X.s₀ E (.ref a) { s with heap:=h' }:=by
 obtain ⟨fs,at_⟩:=hat;obtain ⟨vs',e1,_⟩:=x.it _ fs at_ rfl;have hT:H T=none:=I.hok.fresh x.new;have nT:T≠a:=fun z=>by rw [z,ha] at hT;cases hT
 refine ⟨a,C,dx,T,_,rfl,I.os,I.tk,I.bare,zfb I x ha ⟨_,fs,at_,rfl⟩ (fun b z=>(hold b z).1) hex,zeA I.hok x I.stkFree (fun b z=>(hold b z).2) ha (zeI e1),yY,x.trc ⟨_,fs,at_,rfl⟩,Nat.le_trans I.sz x.new,by rw [zW nT];exact hT,hE⟩
theorem zcr {E:L2.XK} {e:Value} {s':Shared} (I:Inv X pins σ H s) (h:CXr X.prog X.w X.stack H s E e s'):∃ (a C:Addr) (dx:Option Addr) (T:Addr) (H':Hp),e=.ref a/\Inv X pins σ H' s'/\H' a=some (.ext (cP a C dx))/\Trc s'.heap a T/\s.heap.objs.size<=T/\H' T=none/\E (.ref a) none H':=by
 obtain ⟨a,C,dx,T,H',rfl,os,tk,bare,un,hok,ha,tr,hT,nT,hE⟩:=h;obtain ⟨hh,g,d,t,os'⟩:=s';obtain rfl:os'=s.os:=os;exact ⟨a,C,dx,T,H',rfl,I.call (h':=hh) (g':=g) (d':=d) (t':=t) (ch:=[]) un hok bare (fun b z=>absurd z (by simp)) tk,ha,tr,hT,nT,hE⟩
end
structure XeOk (X:Cx) (Ew:L2.St->L2.XK):Prop where
 raise:∀ pins σ H s a C dx,Inv X pins σ H s->H a=some (.ext (ExN a C dx))->Ew σ (.ref a) none (yT H a (.ext (cP a C dx)))->X.xe (.ref a) s
 pass:∀ pins σ H s e s',Inv X pins σ H s->CXr X.prog X.w X.stack H s (Ew σ) e s'->X.xe e s'
 own:PassesOwn (model X.prog X.w) X.A X.env X.xe
theorem zgZ {P:Program} {w:World} {K:yZ} {mg:Str->Option Value} {base:Heap} {N:List Str} {qual:Str} {scope:Scope} {f:Addr} {cd:Value} {A:Around} {outer:List Env} {s:Shared} {H:Hp} {E:L2.XK}:XeOk (mK (CXr P w) P w K mg base N qual scope f cd A outer s H E) (fun _=>E) where
 raise:=fun pins σ H1 s1 a C dx I ha hE=>by
  obtain ⟨⟨fs,at_,v0,v2,v3,v4,v5,rfl⟩,_⟩:=I.hok a _ ha;refine zbD (base:=base) (outer:=outer) I.ok.frames I.stack rfl at_ rfl rfl fun h' T x=>?_;exact zbC (X:=mK (CXr P w) P w K mg base N qual scope f cd A outer s H E) I x ha ⟨_,at_⟩ (fun b z=>by cases z) rfl hE
 pass:=fun pins σ H1 s1 e s2 I h=>by
  obtain ⟨a,C,dx,T,H2,rfl,I2,ha,tr,hT,nT,hE⟩:=zcr (X:=mK (CXr P w) P w K mg base N qual scope f cd A outer s H E) I h;obtain ⟨⟨fs,at_⟩,_⟩:=I2.hok a _ ha;refine zdw (base:=base) (outer:=outer) I2.ok.frames I2.stack rfl tr fun h' T' x=>?_;refine zbC (X:=mK (CXr P w) P w K mg base N qual scope f cd A outer s H E) I2 x ha ⟨_,at_⟩ (fun b z=>?_) rfl ?_
  .cases z;exact ⟨Nat.le_trans I.sz hT,nT⟩
  .have same:yT H2 a (.ext (cP a C dx))=H2:=by
    funext b
    by_cases hb:b=a
    .rw [hb,yY,ha]
    .rw [zW hb]
   rw [same];exact hE
 own:=PassesOwn.leaving
section
variable {M : Model} {A : Around} {E : Value → Shared → Prop} {env : Env} {s : Shared}
structure Rsd (s:Shared) (a:Addr):Prop where
 ex:∃ (C:Addr) (dx:Option Addr) (fs:Array Value) (nm qn:Str) (N:Addr) (bs up:List Value) (hd:Bool) (sn:List Str) (sub:List Value) (ab:Bool) (col:Option Bool) (dd:Option Addr) (k0 k1 k2 k3 k5:Option Value),
  s.heap.get? C=some (excClassObj nm qn C N bs up hd sn sub ab col dd k0 k1 k2 k3 k5 "ValueError.__new__")/\(Value.ref C::up).contains (.type "BaseException")=true/\s.heap.get? a=some { cls:=.ref C,dict:=dx,data:=.fields fs }/\Nw fs
theorem zbd {x:Sem Value} {Q:Flow->Shared->Prop} (hh:A.handled=none) (h:wpAny M A x (fun v s1=>∃ a,v=.ref a/\Rsd s1 a/\E (.ref a) s1) E s):wpAny M A (raiseStmt env (some x) none) Q E s:=by
 unfold raiseStmt;refine wpAny_bind (wpAny_mono h (fun v s1 h1=>?_) fun _ _ z=>z);obtain ⟨a,rfl,⟨C,dx,fs,nm,qn,N,bs,up,hd,sn,sub,ab,col,dd,k0,k1,k2,k3,k5,hC,isX,he,v0,v2,v3,v4,v5,rfl⟩,hE⟩:=h1;obtain ⟨hp,g,d,tk,os⟩:=s1
 repeat (first|with_reducible refine wpAny_loadPart_at he ?_|with_reducible refine wpAny_loadPart_at hC ?_|(with_reducible refine wpAny_isSubtype_exc hC ?_;rw [isX])|wp_step)
 exact wpAny_raiseNew_none hh hE
end
theorem zc9 {X:Cx} {Ew:L2.St->L2.XK} {e:Expr} {pos:Pos} {te:TE} (xo:XeOk X Ew) (hc:X.calm=true) (he:PE X e te) :
  PS X (.Raise (some e) none pos) (fun _ σ H=>te σ H fun v H2=>∃ (a C:Addr) (dx:Option Addr) (ini:Value),v=.ref a/\H2 a=some (.ext (ExN a C dx))/\XM X.K C ini/\Ew σ (.ref a) none (yT H2 a (.ext (cP a C dx)))):=by
 intro pins s σ H D I h
 have key:wpAny (model X.prog X.w) X.A (eval e X.env) (fun v s1=>∃ a,v=.ref a/\Rsd s1 a/\X.xe (.ref a) s1) X.xe s:=yI (he pins s σ H _ I h) fun u s1 z=>by
  obtain ⟨v,H1,I1,rv,a,C,dx,ini,rfl,ha,T,hE⟩:=z;obtain ⟨nm,qn,N,bs,up,hd,sn,sub,abb,col,dd,k0,k1,k2,k3,k5,lC,isB,noA,noN,isX⟩:=T.cls;obtain ⟨⟨fs,at_,nw⟩,_⟩:=I1.hok a _ ha;exact ⟨a,rv,⟨C,dx,fs,nm,qn,N,bs,up,hd,sn,sub,abb,col,dd,k0,k1,k2,k3,k5,I1.kIn _ _ lC,isX,at_,nw⟩,xo.raise pins σ H1 s1 a C dx I1 ha hE⟩
 have hh:=I.ok.hd hc;rw [arm_exec_Raise];refine wpAny_bind (wpAny_standAt (zbd hh ?_));exact wpAny_bind (wpAny_mono key (fun v s1 h1=>wpAny_bind (wpAny_standAt (wpAny_pure h1))) fun _ _ z=>z)
def fO (K:yZ) (C Ct:Addr):Prop:=∃ (nm qn:Str) (N:Addr) (bs up:List Value) (hd:Bool) (sn:List Str) (sub:List Value) (ab:Bool) (col:Option Bool) (dd:Option Addr) (k0 k1 k2 k3 k5:Option Value),
 K.lookup C=some (excClassObj nm qn C N bs up hd sn sub ab col dd k0 k1 k2 k3 k5 "ValueError.__new__")/\(Value.ref C::up).contains (.ref Ct)=true
section
variable {X : Cx} {pins : List (Addr × Obj)} {σ : L2.St} {H : Hp} {s : Shared}
theorem zgf {M:Model} {A:Around} {E:Value->Shared->Prop} {i:Nat} {n:Str} {pos:Pos} {Q:Unit->Shared->Prop} (I:Inv X pins σ H s) (hN:X.N.Nodup) (hi:X.N[i]?=some n) (hk:X.env.scope.names.lookup n=some .local) (q:∀ s',Inv X pins (σ.set i none) H s'->Q () s') :
  wpAny M A (do bindName X.env n .none;unbindBehindTheSuite X.env n pos) Q E s:=by
 obtain ⟨m,hn,hl⟩:=id I.loc;have hc:(X.env.scope.kind==.class || (X.env.scope.kind==.module&&X.env.locals != X.env.globals))=false:=by rw [I.ok.kind];rfl
 refine wpAny_nameGoes_keeps hk hn hc fun h' v hn' hs=>q _ ?_;have low:∀ {b:Addr} {o:Obj},X.s₀.heap.get? b=some o->h'.get? b=s.heap.get? b:=fun e=>hs.2 _ (Nat.ne_of_lt (Nat.lt_of_lt_of_le (Heap.lt_size e) I.ok.above));have li:i<σ.length:=by rw [I.len];exact (List.getElem?_eq_some_iff.mp hi).1
 have cl:∀ y c,X.env.cells.lookup y=some c->∀ w,s.heap.IsCell c w->h'.IsCell c w:=fun y c e w z=>z.sameBut hs (I.cne y c e);refine ⟨I.ok,I.os,I.bare,?_,⟨_,hn',?_⟩,?_,I.free,I.freeC,?_,?_,by simpa using I.len,Nat.succ_pos _⟩
 .refine ⟨?_,?_,I.base.free,?_,I.base.tups,I.base.frzs,I.base.tbls⟩
  .intro b o e f n1 n2;rw [low e];exact I.base.keep b o e f n1 n2
  .intro b o e f n1 n2;rw [low e];exact I.base.slot b o e f n1 n2
  .intro b o e n2;rw [low e];exact I.base.there b o e n2
 .intro j y w e1 e2 e3
  have ne:j≠i:=fun z=>by
   rw [z,List.getElem?_set_self li] at e2;cases e2
  rw [List.getElem?_set_ne (Ne.symm ne)] at e2;obtain ⟨u,r,k⟩:=hl j y w e1 e2 e3;refine ⟨u,r,?_⟩;rcases k with ⟨k1,k2⟩|⟨k1,c,k2,k3⟩
  .have yn:y≠n:=fun z=>ne (pU hN e1 (z▸hi));exact .inl ⟨k1,by simp [yn,k2]⟩
  .exact .inr ⟨k1,c,k2,cl y c k2 _ k3⟩
 .intro y c e;obtain ⟨w,z⟩:=I.cell y c e;exact ⟨w,cl y c e w z⟩
 .intro p hp;obtain ⟨p1,p2,p3,p4,p5⟩:=I.pin p hp;exact ⟨by rw [hs.2 p.1 p3];exact p1,p2,p3,p4,p5⟩
 .intro b ob e;refine (I.hok b ob e).stay (fun c u hc r=>?_) (fun _ z=>z) fun _ _ z=>z;rw [hs.2 c fun z=>?_]
  .exact r
  .rcases hc with hc|hc
   .rw [← hc,z,I.free] at e;cases e
   .rw [z,I.free] at hc;cases hc
structure Nwr (X:Cx) (pins:List (Addr×Obj)) (T:Addr):Prop where
 loc:T≠X.env.locals
 s0:X.s₀.heap.objs.size<=T
 cell:∀ x c,X.env.cells.lookup x=some c->c≠T
 pin:∀ p∈X.pn++pins,p.1≠T
theorem Inv.newer {T:Addr} (I:Inv X pins σ H s) (h:s.heap.objs.size<=T):Nwr X pins T:=by
 have lt:∀ {b:Addr} {o:Obj},s.heap.get? b=some o->b≠T:=fun e=>Nat.ne_of_lt (Nat.lt_of_lt_of_le (Heap.lt_size e) h);obtain ⟨m,⟨o,_,_,ho,_⟩,_⟩:=I.loc;refine ⟨(lt ho).symm,Nat.le_trans I.sz h,fun x c e=>?_,fun p hp=>lt (I.pin p hp).1⟩;obtain ⟨v,oc,hoc,_⟩:=I.cell x c e;exact lt hoc
theorem zgk {M:Model} {A:Around} {E:Value->Shared->Prop} {a T:Addr} {Q:Unit->Shared->Prop} (I:Inv X pins σ H s) (t:Trc s.heap a T) (nT:H T=none) (nw:Nwr X pins T) (q:∀ s',Inv X pins σ H s'->Q () s'):wpAny M A (setFlight (.ref a) none) Q E s:=by
 obtain ⟨o,vs,he,hd,h1⟩:=t.it;obtain ⟨oT,ts,eT,dT,h3⟩:=t.tb;unfold setFlight;refine wpAny_bind (wpAny_field he hd h1 ?_);rw [if_pos (show (Value.ref T != Value.none)=true by simp)];refine wpAny_setField eT dT (Array.getElem?_eq_some_iff.mp h3).1 (q _ ?_);exact I.turned (it:=T) (t':=s.toks) (fun b o n e=>(Heap.get?_update_other _ _ (Ne.symm n)).trans e) nT nw.loc (.inr nw.s0) nw.cell nw.pin
end
section
variable {M : Model} {A : Around} {E : Value → Shared → Prop} {s : Shared}
theorem zbz {K:yZ} {a C Ct:Addr} {ini:Value} {oe:Obj} {Q:Bool->Shared->Prop} (hK:K.In s.heap) (sb:fO K C Ct) (T:XM K Ct ini) (he:s.heap.get? a=some oe) (hc:oe.cls=.ref C) (q:Q true s):wpAny M A (excMatches (.ref a) (.ref Ct)) Q E s:=by
 obtain ⟨nm,qn,N,bs,up,hd,sn,sub,ab,col,dd,k0,k1,k2,k3,k5,lC,hin⟩:=sb;obtain ⟨nm',qn',N',bs',up',hd',sn',sub',ab',col',dd',k0',k1',k2',k3',k5',lT,_,_,_,isX⟩:=T.cls;have hC:=hK _ _ lC;have hT:=hK _ _ lT;have f:=tc_notTuple;obtain ⟨hp,g,d,tk,os⟩:=s;unfold excMatches
 repeat (first|(with_reducible refine wpAny_loadPart_at he ?_;rw [hc])|with_reducible refine wpAny_loadPart_at hT ?_|(with_reducible refine wpAny_isSubtype_exc hT ?_;rw [isX])|(with_reducible refine wpAny_isSubtype_exc hC ?_;rw [hin])|wp_step)
 exact q
end
def wTry (K:yZ) (Ct:Addr) (i j:Nat) (D:Ends):L2.St->L2.XK:=fun σ e _ H=>∃ (a C:Addr) (dx:Option Addr),e=.ref a/\H a=some (.ext (cP a C dx))/\fO K C Ct/\D.nx (((σ.set i (some (.ref a))).set j (some (.ref a))).set i none) H
section
variable {X : Cx} {Ct : Addr} {ini : Value} {n y tn : Str} {i j : Nat} {tp np yp ap hp pos : Pos}
theorem Inv.held {X':Cx} {pins pins':List (Addr×Obj)} {σ:L2.St} {H:Hp} {s:Shared} (I:Inv X pins σ H s) (ok:X'.Ok) (e:X'={ X with A:=X'.A,calm:=X'.calm,pn:=X'.pn,xe:=X'.xe }) (hp:∀ p∈X'.pn++pins',p∈X.pn++pins):Inv X' pins' σ H s:=by
 obtain ⟨a1,a2,a3,a4,a5,a6,a7,a8,a9,a10,a11,a12,a13,a14,a15,a16,a17⟩:=X'
 injection e
 subst_vars
 exact ⟨ok,I.os,I.bare,I.base,I.loc,I.cell,I.free,I.freeC,fun p h=>I.pin p (hp p h),I.hok,I.len,I.tk⟩
theorem zbU {pins:List (Addr×Obj)} {σ:L2.St} {H:Hp} {s:Shared} {D:Ends} {a C T:Addr} {dx:Option Addr} (hN:X.N.Nodup) (hi:X.N[i]?=some n) (hj:X.N[j]?=some y) (ln:X.env.scope.names.lookup n=some .local) (ly:X.env.scope.names.lookup y=some .local) (nd:(n==("__debug__" : Str))=false) (nc:(n==("__classdict__" : Str))=false)
  (gT:Gl X tn) (mT:X.mg tn=some (.ref Ct)) (dT:(tn==("__debug__" : Str))=false) (TT:XM X.K Ct ini) (I:Inv X pins σ H s) (ha:H a=some (.ext (cP a C dx))) (sb:fO X.K C Ct) (t:Trc s.heap a T) (nT:H T=none) (nw:Nwr X pins T)
  (q:D.nx (((σ.set i (some (.ref a))).set j (some (.ref a))).set i none) H) :
  wpAny (model X.prog X.w) X.A (handleBy (.ref a) X.env [.ExceptHandler (some (.Name tn tp)) (some n) [.Assign [.Name y yp] (.Name n np) ap] hp]) (SP X pins D) X.xe s:=by
 refine wpAny_handleBy_cons (codeAny_handlers_test ?_) (by intro z;cases z)
 let XM':Cx:={ X with A:=X.A.mark (some (.ref a)),calm:=false,xe:=fun _ _=>False }
 have okM:XM'.Ok:={ I.ok with hd:=fun z=>by cases z };have IM:Inv XM' pins σ H s:=Inv.held I okM rfl fun p h=>h;refine jY (X:=XM') IM gT mT ?_ dT;obtain ⟨⟨fs,at_⟩,_⟩:=I.hok a _ ha;refine zbz I.kIn sb TT at_ rfl ?_;refine codeAny_handlers_suite_as ?_;refine zgk (X:=XM') IM t nT ⟨nw.loc,nw.s0,nw.cell,nw.pin⟩ fun s1 I1=>?_;refine rG (X:=XM') I1 hN hi (.inl ln) (v:=.ref a) rfl (fun s2 I2=>?_) (.inr ln);have hiσ:i<σ.length:=by rw [I.len];exact (List.getElem?_eq_some_iff.mp hi).1
 have ps:nF XM' [.Assign [.Name y yp] (.Name n np) ap] _:=zbg (fD (X:=XM') (i:=j) hN hj (.inl ly) (fB (i:=i) hi (.inl ln) nd nc) (wZ rfl) (.inr ly));refine wpAny_mono (ps pins s2 _ H { nx:=fun σ' H'=>σ'=((σ.set i (some (.ref a))).set j (some (.ref a)))/\H'=H,rt:=fun _ _=>False } I2 ?_) (fun f s3 h3=>?_) fun _ _ z=>z.elim
 .exact ⟨.ref a,by rw [List.getElem?_set_self hiσ],rfl,rfl⟩
 .cases f with
  |next =>
   obtain ⟨σ',H',I3,rfl,rfl⟩:=h3;have I4:Inv X pins _ _ s3:=Inv.held (X:=XM') I3 I.ok rfl fun p h=>h;exact zgf I4 hN hi ln fun s4 I5=>⟨_,_,I5,q⟩
  |ret u=>obtain ⟨_,_,_,_,_,z⟩:=h3;exact z.elim
  |brk=>obtain ⟨_,_,_,z⟩:=h3;exact z.elim
  |cont=>obtain ⟨_,_,_,z⟩:=h3;exact z.elim
abbrev tryX (X:Cx) (pins:List (Addr×Obj)) (D:Ends) (hs:List ExceptHandler):Value->Shared->Prop:=fun e s1=>wpAny (model X.prog X.w) X.A (noteFrame e X.env) (fun _ s2=>wpAny (model X.prog X.w) X.A (setFlight e none) (fun _ s3=>wpAny (model X.prog X.w) X.A (handleBy e X.env hs) (SP X pins D) X.xe s3) X.xe s2) X.xe s1
abbrev tryC (X:Cx) (pins:List (Addr×Obj)) (D:Ends) (hs:List ExceptHandler):Cx:={ X with pn:=X.pn++pins,xe:=tryX X pins D hs }
theorem zgY {pins:List (Addr×Obj)} {D:Ends} (hk:X.stack=X.env::X.outer/\X.env.frame=some X.env.locals) (hN:X.N.Nodup) (hi:X.N[i]?=some n) (hj:X.N[j]?=some y) (ln:X.env.scope.names.lookup n=some .local) (ly:X.env.scope.names.lookup y=some .local) (nd:(n==("__debug__" : Str))=false) (nc:(n==("__classdict__" : Str))=false)
  (gT:Gl X tn) (mT:X.mg tn=some (.ref Ct)) (dT:(tn==("__debug__" : Str))=false) (TT:XM X.K Ct ini) :
  XeOk (tryC X pins D [.ExceptHandler (some (.Name tn tp)) (some n) [.Assign [.Name y yp] (.Name n np) ap] hp]) (wTry X.K Ct i j D):=by
 have go:∀ {pins':List (Addr×Obj)} {σ:L2.St} {H:Hp} {s:Shared} {a C T:Addr} {dx:Option Addr} {old:Option Addr} {h':Heap} {φ:Heap->Prop},Inv X pins σ H s->H a=some (.ext φ)->(∃ fs,s.heap.get? a=some { cls:=.ref C,dict:=dx,data:=.fields fs })->(∀ b,old=some b->Nwr X pins b/\H b=none)->Lf (sC X.stack) a old T (rawInt X.env.locals) s.heap h'->wTry X.K Ct i j D σ (.ref a) none (yT H a (.ext (cP a C dx))) ->
   wpAny (model X.prog X.w) X.A (setFlight (.ref a) none) (fun _ s3=>wpAny (model X.prog X.w) X.A (handleBy (.ref a) X.env [.ExceptHandler (some (.Name tn tp)) (some n) [.Assign [.Name y yp] (.Name n np) ap] hp]) (SP X pins D) X.xe s3) X.xe { s with heap:=h' }:=by
  intro pins' σ H s a C T dx old h' φ I ha hat hold x hE;obtain ⟨fs,at_⟩:=hat;refine sY (s:={ s with heap:=h' }) x ⟨_,fs,at_,rfl⟩ fun h2 x2=>?_;obtain ⟨vs',e1,_⟩:=x2.it _ fs at_ rfl;have hT:H T=none:=I.hok.fresh x2.new;have nT:T≠a:=fun z=>by rw [z,ha] at hT;cases hT
  have un:Un (sC X.stack) old.toList H (yT H a (.ext (cP a C dx))) s.heap h2:=by
   have na:∀ b,H b=none->b≠a:=fun b n z=>by rw [z,ha] at n;cases n
   have no:∀ b,b∉old.toList->old≠some b:=fun b z e=>z (by rw [e];simp);refine ⟨fun b o e n hb hx=>x2.keep b o e (na b n) (no b hx) hb,fun b o e n hb hx=>x2.slot b o e (na b n) (no b hx),fun b o e n _=>by rw [zW (na b n)];exact n,fun b o e hx=>?_,fun b xs e=>?_,fun b o u e=>?_,fun b ps e=>⟨#[],?_⟩⟩
   .by_cases hb:b=a
    .subst hb;exact ⟨_,e1⟩
    .obtain ⟨sl,r⟩:=x2.slot b o e hb (no b hx);exact ⟨_,r⟩
   .rw [zW fun z=>by rw [z,ha] at e;cases e];exact e
   .rw [zW fun z=>by rw [z,ha] at e;cases e];exact e
   .have nb:b≠a:=fun z=>by rw [z,ha] at e;cases e
    rw [zW nb,e];simp
  have I2:=I.call (h':=h2) (g':=s.gens) (d':=s.drawn) (t':=s.toks) (ch:=old.toList) un (zeA I.hok x2 I.stkFree (fun b z=>(hold b z).2) ha (zeI e1)) I.bare (fun b z=>by
   have z:old=some b:=by simpa using z
   have w:=(hold b z).1;exact ⟨.inr w.s0,w.loc,w.cell,w.pin⟩)
  obtain ⟨a',C',dx',ea,ha',sb,q⟩:=hE;cases ea;rw [yY] at ha'
  have cc:C'=C/\dx'=dx:=by
   have z:cP a C dx=cP a C' dx':=by injection ha' with ha';injection ha'
   have w:cP a C' dx' h2:=by rw [← z];exact ⟨vs',e1⟩
   obtain ⟨fs',w⟩:=w;rw [e1] at w
   injection w with w
   injection w with w1 w2
   injection w1 with w1
   exact ⟨w1.symm,w2.symm⟩
  obtain ⟨rfl,rfl⟩:=cc;exact zbU hN hi hj ln ly nd nc gT mT dT TT I2 yY sb (x2.trc ⟨_,fs,at_,rfl⟩) (by rw [zW nT];exact hT) (Inv.newer I x2.new) q
 refine ⟨fun pins' σ H s a C dx I ha hE=>?_,fun pins' σ H s e s' I h=>?_,PassesOwn.looking⟩
 .have I0:Inv X pins σ H s:=Inv.held (X:=tryC X pins D _) I { I.ok with } rfl fun p hp=>List.mem_append_left _ hp;obtain ⟨⟨fs,at_,v0,v2,v3,v4,v5,rfl⟩,_⟩:=I.hok a _ ha;have fr:=I0.ok.frames;have st:=I0.stack;rw [hk.1] at fr st;refine zbv (base:=X.base) (outer:=X.outer) fr st hk.2 at_ rfl rfl fun h' T x=>?_;rw [← hk.1] at x;exact go (pins':=pins') I0 ha ⟨_,at_⟩ (fun b z=>by cases z) x hE
 .obtain ⟨a,C,dx,T,H2,rfl,I2,ha,tr,hT,nT,hE⟩:=zcr (X:=tryC X pins D _) I h;have I0:Inv X pins σ H s:=Inv.held (X:=tryC X pins D _) I { I.ok with } rfl fun p hp=>List.mem_append_left _ hp;have I3:Inv X pins σ H2 s':=Inv.held (X:=tryC X pins D _) I2 { I.ok with } rfl fun p hp=>List.mem_append_left _ hp;obtain ⟨⟨fs,at_⟩,_⟩:=I2.hok a _ ha;have fr:=I3.ok.frames;have st:=I3.stack;rw [hk.1] at fr st;refine zbu (base:=X.base) (outer:=X.outer) fr st hk.2 tr fun h' T' x=>?_;rw [← hk.1] at x
  have same:yT H2 a (.ext (cP a C dx))=H2:=by
   funext b
   by_cases hb:b=a
   .rw [hb,yY,ha]
   .rw [zW hb]
  refine go (pins':=pins') I3 ha ⟨_,at_⟩ (fun b z=>?_) x (by rw [same];exact hE);cases z;exact ⟨Inv.newer I0 hT,nT⟩
theorem zhD {bs:List Stmt} {tb:(L2.St->L2.XK)->TS} (hk:X.stack=X.env::X.outer/\X.env.frame=some X.env.locals) (hN:X.N.Nodup) (hi:X.N[i]?=some n) (hj:X.N[j]?=some y) (ln:X.env.scope.names.lookup n=some .local) (ly:X.env.scope.names.lookup y=some .local) (nd:(n==("__debug__" : Str))=false) (nc:(n==("__classdict__" : Str))=false)
  (gT:Gl X tn) (mT:X.mg tn=some (.ref Ct)) (dT:(tn==("__debug__" : Str))=false) (TT:XM X.K Ct ini) (hb:∀ (pn:List (Addr×Obj)) (E':Value->Shared->Prop) (Ew:L2.St->L2.XK),XeOk { X with pn:=pn,xe:=E' } Ew->nF { X with pn:=pn,xe:=E' } bs (tb Ew)) :
  PS X (.Try bs [.ExceptHandler (some (.Name tn tp)) (some n) [.Assign [.Name y yp] (.Name n np) ap] hp] [] [] pos) (fun D σ H=>tb (wTry X.K Ct i j D) D σ H):=by
 intro pins s σ H D I h;have xo:=zgY (tp:=tp) (np:=np) (yp:=yp) (ap:=ap) (hp:=hp) (pins:=pins) (D:=D) hk hN hi hj ln ly nd nc gT mT dT TT;have I0:Inv (tryC X pins D [.ExceptHandler (some (.Name tn tp)) (some n) [.Assign [.Name y yp] (.Name n np) ap] hp]) [] σ H s:=Inv.held I { I.ok with } rfl fun p hp=>by simpa using hp
 refine wpAny_Try_except (wpAny_mono (hb _ _ _ xo [] s σ H D I0 h) (fun f s1 h1=>?_) fun e s1 h1=>h1);have back:∀ {σ':L2.St} {H':Hp},Inv (tryC X pins D [.ExceptHandler (some (.Name tn tp)) (some n) [.Assign [.Name y yp] (.Name n np) ap] hp]) [] σ' H' s1->Inv X pins σ' H' s1:=fun J=>Inv.held J { J.ok with } rfl fun p hp=>by simpa using hp
 cases f with
 |next =>
  obtain ⟨σ',H',J,z⟩:=h1;exact wpAny_pure ⟨σ',H',back J,z⟩
 |ret u =>
  obtain ⟨v,σ',H',J,z⟩:=h1;exact ⟨v,σ',H',back J,z⟩
 |brk =>
  obtain ⟨σ',H',J,z⟩:=h1;exact ⟨σ',H',back J,z⟩
 |cont =>
  obtain ⟨σ',H',J,z⟩:=h1;exact ⟨σ',H',back J,z⟩
end
abbrev X3:=W->Hw->Prop
abbrev SpX:=List W->Hw->Q3->X3->Prop
structure Fx3 where
 nm:Str
 sp:SpX
structure Cl3 where
 nm:Str
 C:Addr
 f:Option Str
structure Tr3 where
 nm:Str
 C:Addr
 sub:List Addr
structure CtxX where
 fx:List Fx3
 cl:List Cl3
 tr:List Tr3
set_option genInjectivity false
mutual
inductive RT where
 |pl (s:IS)|rse (c:Nat) (es:IEs)|ite (c:IE) (a b:RTs)|whl (c:IE) (b:RTs)|for (tg:ITg) (it:II) (b:RTs)
 |asx (i f:Nat) (es:IEs)|exx (f:Nat) (es:IEs)|rtx (f:Nat) (es:IEs)|try (i j t:Nat) (b:RTs)
inductive RTs where
 |nil|cons (s:RT) (ss:RTs)
end
def clR (k:Cl3) (ws:List W) (Q:W->Prop):Prop:=match k.f with
 |none=>ws=[]/\Q (.exc k.C [] [])
 |some f=>∃ w,ws=[w]/\Q (.exc k.C [f] [w])
def trR (k:Tr3) (i j:Nat) (D:End3) (σ:xD) (w:W) (G:Hw):Prop:=∃ (C:Addr) (ns:List Str) (ws:List W),w=.exc C ns ws/\C∈k.sub/\D.nx (((σ.set i (some w)).set j (some w)).set i none) G
section
variable (Γ : Ctx3) (Δ : CtxX)
mutual
def wG:RT->(xD->X3)->S3
 | .pl s=>fun _=>zP Γ XN s
 | .rse c es=>fun E _ σ G=>zV Γ XN es σ G fun ws G1=>match Δ.cl[c]? with|some k=>clR k ws fun w=>E σ w G1|none=>False
 | .ite c a b=>fun E D σ G=>zO Γ XN c σ G fun k G1=>if k=true then xS a E D σ G1 else xS b E D σ G1
 | .whl c b=>fun E D σ G=>∃ Pv:Nat->xD->Hw->Prop,(∃ m,Pv m σ G)/\∀ m σ G,Pv m σ G->zO Γ XN c σ G fun k G1 =>
   if k=true then xS b E { D with nx:=fun σ' G'=>∃ m',m' < m/\Pv m' σ' G',ct:=fun σ' G'=>∃ m',m' < m/\Pv m' σ' G',bk:=D.nx } σ G1 else D.nx σ G1
 | .for tg it b=>fun E D σ G=>zS Γ XN it σ G fun items stab G1=>forR items stab D σ G1 fun w D' σ' G'=>zU tg w σ' G' fun σ2 G2=>xS b E D' σ2 G2
 | .asx i f es=>fun E D σ G=>zV Γ XN es σ G fun ws G1=>match Δ.fx[f]? with|some h=>h.sp ws G1 (fun w G2=>D.nx (σ.set i (some w)) G2) (E σ)|none=>False
 | .exx f es=>fun E D σ G=>zV Γ XN es σ G fun ws G1=>match Δ.fx[f]? with|some h=>h.sp ws G1 (fun _ G2=>D.nx σ G2) (E σ)|none=>False
 | .rtx f es=>fun E D σ G=>zV Γ XN es σ G fun ws G1=>match Δ.fx[f]? with|some h=>h.sp ws G1 D.rt (E σ)|none=>False
 | .try i j t b=>fun _ D σ G=>match Δ.tr[t]? with|some k=>xS b (trR k i j D) D σ G|none=>False
def xS:RTs->(xD->X3)->S3
 | .nil=>fun _ D σ G=>D.nx σ G
 | .cons s ss=>fun E D σ G=>wG s E { D with nx:=xS ss E D } σ G
end
end
structure MX where
 fx:List Str
 cl:List Str
 tr:List Str
def nR (M:MC) (ns:List Str) (i:Nat) (es:IEs):Expr->Bool
 | .Call (.Name x _) xs [] _=>ns[i]?==some x&&qO M.sc x&&mA es M xs
 |_=>false
def zgH (M:MC) (ns:List Str) (i j t:Nat):List ExceptHandler->Bool
 | [.ExceptHandler (some (.Name tn _)) (some n) [.Assign [.Name y _] (.Name n' _) _] _] =>
  n==n'&&M.N[i]?==some n&&M.N[j]?==some y&&M.sc.names.lookup n==some .local&&M.sc.names.lookup y==some .local&&!(n==("__debug__" : Str))&&!(n==("__classdict__" : Str))&&ns[t]?==some tn&&qO M.sc tn
 |_=>false
mutual
def mX (M:MC) (Z:MX):RT->Stmt->Bool
 | .pl s=>fun x=>mS s M x
 | .rse c es=>fun x=>match x with
  | .Raise (some e) none _=>nR M Z.cl c es e
  |_=>false
 | .ite c a b=>fun x=>match x with
  | .If t y z _=>mE c M t&&mXs M Z a y&&mXs M Z b z
  |_=>false
 | .whl c b=>fun x=>match x with
  | .While t y [] _=>mE c M t&&mXs M Z b y
  |_=>false
 | .for tg it b=>fun x=>match x with
  | .For t y z [] _=>vN y&&mG M tg t&&mI it M y&&mXs M Z b z
  |_=>false
 | .asx i f es=>fun x=>match x with
  | .Assign [.Name y _] e _=>M.N[i]?==some y&&mP M y&&nR M Z.fx f es e
  |_=>false
 | .exx f es=>fun x=>match x with
  | .Expr e _=>nR M Z.fx f es e
  |_=>false
 | .rtx f es=>fun x=>match x with
  | .Return (some e) _=>nR M Z.fx f es e
  |_=>false
 | .try i j t b=>fun x=>match x with
  | .Try bs hs [] [] _=>zgH M Z.tr i j t hs&&mXs M Z b bs
  |_=>false
def mXs (M:MC) (Z:MX):RTs->List Stmt->Bool
 | .nil=>fun x=>match x with | []=>true|_=>false
 | .cons s ss=>fun x=>match x with|y::ys=>mX M Z s y&&mXs M Z ss ys|_=>false
end
theorem fW {M:MC} {ns:List Str} {i:Nat} {es:IEs} {e:Expr} (h:nR M ns i es e=true):∃ x q xs pos,e=.Call (.Name x q) xs [] pos/\ns[i]?=some x/\qO M.sc x=true/\mA es M xs=true:=by
 unfold nR at h
 split at h
 .rename_i x q xs pos;obtain ⟨⟨h1,h2⟩,h3⟩:=bd3 h;exact ⟨x,q,xs,pos,rfl,yD h1,h2,h3⟩
 .cases h
theorem zcj {M:MC} {ns:List Str} {i j t:Nat} {hs:List ExceptHandler} (h:zgH M ns i j t hs=true):∃ tn tp n y yp np ap hp,hs=[.ExceptHandler (some (.Name tn tp)) (some n) [.Assign [.Name y yp] (.Name n np) ap] hp]/\M.N[i]?=some n/\M.N[j]?=some y/\M.sc.names.lookup n=some .local/\M.sc.names.lookup y=some .local/\(n==("__debug__" : Str))=false/\(n==("__classdict__" : Str))=false/\ns[t]?=some tn/\qO M.sc tn=true:=by
 unfold zgH at h
 split at h
 .rename_i tn tp n y yp n' np ap hp;obtain ⟨⟨⟨⟨⟨⟨⟨⟨h1,h2⟩,h3⟩,h4⟩,h5⟩,h6⟩,h7⟩,h8⟩,h9⟩:=bd9 h;cases eq_of_beq h1;exact ⟨tn,tp,n,y,yp,np,ap,hp,rfl,yD h2,yD h3,yD h4,yD h5,by simpa using h6,by simpa using h7,yD h8,h9⟩
 .cases h
def Fex (K:yZ) (H:Hp) (E3:xD->X3) (Ew:L2.St->L2.XK):Prop:=∀ σ w G τ a H',yV K H H'->zB K H' σ τ->xN K H' w (.ref a)->yC K H' G->E3 σ w G->Ew τ (.ref a) none H'
theorem Fex.grow {K:yZ} {H H':Hp} {E3:xD->X3} {Ew:L2.St->L2.XK} (f:Fex K H E3 Ew) (g:yV K H H'):Fex K H' E3 Ew:=fun σ w G τ a H2 g2=>f σ w G τ a H2 (g.trans g2)
def lowX (K:yZ) (Ew:L2.St->L2.XK) (t:(xD->X3)->S3):TS:=fun D τ H=>∃ σ G D3 E3,zB K H σ τ/\yC K H G/\Fine K H D3 D/\Fex K H E3 Ew/\t E3 D3 σ G
section
variable {X : Cx}
theorem zh3 {es:List Expr} {t:TA} (h:PA X.nox es t):PA X es t:=fun pos pins s σ H Q I hw =>
 wpAny_mono (h pos pins s σ H Q (I.wish _) hw) (fun _ _ z=>by obtain ⟨vs,H',I',z⟩:=z;exact ⟨vs,H',I'.unwish,z⟩) fun _ _ z=>False.elim z
theorem nox_S {st:Stmt} {t:TS} (h:PS X.nox st t):PS X st t:=fun pins s σ H D I hw =>
 wpAny_mono (h pins s σ H D (I.wish _) hw) (fun _ _ q=>q.unwish) fun _ _ z=>False.elim z
theorem nox_G {tg:Expr} {t:TG} (h:PG X.nox tg t):PG X tg t:=fun pins s σ H v u Q I r hw =>
 wpAny_mono (h pins s σ H v u Q (I.wish _) r hw) (fun _ _ z=>by obtain ⟨σ',H',I',z⟩:=z;exact ⟨σ',H',I'.unwish,z⟩) fun _ _ z=>False.elim z
theorem nox_I {tg x:Expr} {t:TI} (h:PI X.nox tg x t):PI X tg x t:=fun pins s σ H R I hw =>
 wpAny_mono (h pins s σ H R (I.wish _) hw) (fun _ _ z=>wpAny_mono z (fun _ _ z=>by obtain ⟨it,fp,tn,J,H',e,I',z⟩:=z;exact ⟨it,fp,tn,J,H',e,I'.unwish,z⟩) fun _ _ z=>False.elim z) fun _ _ z=>False.elim z
end
def zie (K:yZ) (Ew:L2.St->L2.XK) (t:(xD->X3)->E3):TE:=fun τ H Q=>∃ σ G E3,zB K H σ τ/\yC K H G/\Fex K H E3 Ew/\t E3 σ G (jL K H Q)
def FxE (p:Par) (f:Fx3):Prop:=∀ X Ew,Fits p X.nox->XeOk X Ew->Gl X f.nm->∀ (args:List Expr) (t:A3) (q pos:Pos),qY t->args.all noStar=true->PA X args (qC X.K t)->(args=[]->∀ σ G Q,t σ G Q->Q [] G)->(f.nm==("__debug__" : Str))=false ->
 PE X (.Call (.Name f.nm q) args [] pos) (zie X.K Ew fun E σ G Q=>t σ G fun ws G1=>f.sp ws G1 Q (E σ))
def nI (f:Fx3):Prop:=∀ ws G (Q Q':Q3) (E E':X3),(∀ w G',Q w G'->Q' w G')->(∀ w G',E w G'->E' w G')->f.sp ws G Q E->f.sp ws G Q' E'
def ClE (p:Par) (k:Cl3):Prop:=∀ X Ew,Fits p X.nox->XeOk X Ew->Gl X k.nm->∀ (args:List Expr) (t:A3) (q pos cpos:Pos),qY t->args.all noStar=true->PA X args (qC X.K t)->(args=[]->∀ σ G Q,t σ G Q->Q [] G)->(k.nm==("__debug__" : Str))=false ->
 PS X (.Raise (some (.Call (.Name k.nm q) args [] cpos)) none pos) (lowX X.K Ew fun E _ σ G=>t σ G fun ws G1=>clR k ws fun w=>E σ w G1)
structure TrE (p:Par) (k:Tr3):Prop where
 mg:p.mg k.nm=some (.ref k.C)
 cls:∃ ini,XM p.K k.C ini
 sub:∀ C∈k.sub,fO p.K C k.C
structure GoodX (Δ:CtxX) (p:Par):Prop where
 fx:∀ f∈Δ.fx,FxE p f/\nI f
 cl:∀ k∈Δ.cl,ClE p k
 tr:∀ k∈Δ.tr,TrE p k
structure Lxx (Γ:Ctx3) (Δ:CtxX) (M:MC) (Z:MX) (p:Par) (X:Cx):Prop where
 lk:Lk Γ M p X.nox
 fx:Δ.fx.map (·.nm)=Z.fx
 cl:Δ.cl.map (·.nm)=Z.cl
 tr:Δ.tr.map (·.nm)=Z.tr
 hk:X.stack=X.env::X.outer/\X.env.frame=some X.env.locals
theorem Lxx.held {Γ:Ctx3} {Δ:CtxX} {M:MC} {Z:MX} {p:Par} {X:Cx} (L:Lxx Γ Δ M Z p X) (pn:List (Addr×Obj)) (E:Value->Shared->Prop):Lxx Γ Δ M Z p { X with pn:=pn,xe:=E } :=
 ⟨⟨⟨L.lk.fits.prog,L.lk.fits.w,L.lk.fits.K,L.lk.fits.mg,L.lk.fits.base,L.lk.fits.A,L.lk.fits.calm,rfl⟩,L.lk.N,L.lk.sc,L.lk.nd,L.lk.own,L.lk.kind,L.lk.fns,L.lk.gls,L.lk.mts,L.lk.its,L.lk.sxs,L.lk.ixs⟩,L.fx,L.cl,L.tr,L.hk⟩
theorem zB.unset {K:yZ} {H:Hp} {σ:xD} {τ:L2.St} (h:zB K H σ τ) (i:Nat):zB K H (σ.set i none) (τ.set i none):=by
 refine ⟨by simp only [List.length_set];exact h.1,fun j w e=>?_⟩
 by_cases hj:i=j
 .subst hj
  by_cases hi:i<σ.length
  .rw [List.getElem?_set_self hi] at e;cases e
  .rw [List.getElem?_eq_none (by rw [List.length_set];omega)] at e;cases e
 .rw [List.getElem?_set_ne hj] at e;rw [List.getElem?_set_ne hj];exact h.2 j w e
theorem ex_at {K:yZ} {H:Hp} {C a:Addr} {ns:List Str} {ws:List W} (h:xN K H (.exc C ns ws) (.ref a)):∃ dx,H a=some (.ext (cP a C dx)):=by
 obtain ⟨b,vs,e,x,_⟩:=h;cases e;rcases x with ⟨x,_⟩|⟨dx,x,_⟩
 .exact ⟨none,x⟩
 .exact ⟨some dx,x⟩
section
variable {Γ : Ctx3} {Δ : CtxX} {p : Par} (g : Good Γ p) (gx : GoodX Δ p)
include g
theorem sndS (s:IS):OkS Γ p s:=match s with
 | .asg i e=>zg8 g i e
 | .asgT ts e=>zeg g ts e
 | .asgI o i e=>zei g o i e
 | .asgA o f e=>zej g o f e
 | .ex e=>t_ex g e
 | .ret e=>zg5 g e
 | .retN=>(xA g).1
 | .pass=>(xA g).2.1
 | .brk=>(xA g).2.2.1
 | .cnt=>(xA g).2.2.2.1
 | .ite c a b=>zg6 g c a b (bV g a) (bV g b)
 | .whl c b=>zg4 g c b (bV g b)
 | .for tg it b=>zg7 g tg it b (bV g b)
 | .dead=>(xA g).2.2.2.2
 | .asgS i j e=>zeh g i j e
theorem zh5 {M:MC} {es:IEs} {xs:List Expr} (h:mA es M xs=true):xs=[]->∀ σ G Q,zV Γ XN es σ G Q->Q [] G:=fun e=>by
 subst e
 cases es with
 |nil=>exact fun σ G Q h=>h
 |cons a r=>cases h
def OkX (Γ:Ctx3) (Δ:CtxX) (p:Par) (s:RT):Prop:=∀ M Z X Ew x,Lxx Γ Δ M Z p X->XeOk X Ew->mX M Z s x=true->PS X x (lowX X.K Ew (wG Γ Δ s))
def OkXs (Γ:Ctx3) (Δ:CtxX) (p:Par) (s:RTs):Prop:=∀ M Z X Ew x,Lxx Γ Δ M Z p X->XeOk X Ew->mXs M Z s x=true->nF X x (lowX X.K Ew (xS Γ Δ s))
theorem x_pl (s:IS):OkX Γ Δ p (.pl s):=fun M Z X Ew x L xo h =>
 (nox_S (sndS g s M X.nox x L.lk h)).imp fun D τ H hq=>by
  obtain ⟨σ,G,D3,E3,hs,ab,f,_,hq⟩:=hq;exact ⟨σ,G,D3,hs,ab,f,hq⟩
theorem x_ite (c:IE) (a b:RTs) (ha:OkXs Γ Δ p a) (hb:OkXs Γ Δ p b):OkX Γ Δ p (.ite c a b):=fun M Z X Ew x L xo h=>by
 cases x with
 |If t y z pos =>
  obtain ⟨⟨h1,h2⟩,h3⟩:=bd3 h;refine (zhE (PT.nox (qL g c M X.nox t L.lk h1).2.1) (ha M Z X Ew y L xo h2) (hb M Z X Ew z L xo h3)).imp fun D τ H hq=>?_;obtain ⟨σ,G,D3,E3,hs,ab,f,fe,hq⟩:=hq;refine uB (kG g.mono XN c) hs ab hq fun k G1 H1 g1 hs1 a1 hq=>?_
  split
  .rename_i hk;rw [if_pos hk] at hq;exact ⟨σ,G1,D3,E3,hs1,a1,f.grow g1,fe.grow g1,hq⟩
  .rename_i hk;rw [if_neg hk] at hq;exact ⟨σ,G1,D3,E3,hs1,a1,f.grow g1,fe.grow g1,hq⟩
 |_=>exact absurd h zzN
theorem x_whl (c:IE) (b:RTs) (hb:OkXs Γ Δ p b):OkX Γ Δ p (.whl c b):=fun M Z X Ew x L xo h=>by
 cases x with
 |While t y e pos =>
  cases e with
  |cons _ _=>exact absurd h zzN
  |nil =>
   obtain ⟨h1,h2⟩:=vY h;refine (bH xo.own (PT.nox (qL g c M X.nox t L.lk h1).2.1) (hb M Z X Ew y L xo h2)).imp fun D τ H hq=>?_;obtain ⟨σ,G,D3,E3,hs,ab,f,fe,Pv,⟨m0,p0⟩,step⟩:=hq;refine ⟨fun m τ H'=>yV X.K H H'/\∃ σ G,zB X.K H' σ τ/\yC X.K H' G/\Pv m σ G,⟨m0,.refl,σ,G,hs,ab,p0⟩,?_⟩;rintro m τ1 H1 ⟨g1,σ1,G1,hs1,a1,p1⟩;refine uB (kG g.mono XN c) hs1 a1 (step m σ1 G1 p1) fun k G2 H2 g2 hs2 a2 hq=>?_
   split
   .rename_i hk;rw [if_pos hk] at hq;have g12:=g1.trans g2;refine ⟨fun τ' H'=>∃ m',m' < m/\yV X.K H H'/\∃ σ G,zB X.K H' σ τ'/\yC X.K H' G/\Pv m' σ G,fun τ' H' z=>z,?_⟩;refine ⟨σ1,G2,_,E3,hs2,a2,⟨?_,?_,?_,?_⟩,fe.grow g12,hq⟩
    .rintro σ3 G3 τ3 H3 g3 hs3 a3 ⟨m',hm,p'⟩;exact ⟨m',hm,g12.trans g3,σ3,G3,hs3,a3,p'⟩
    .exact fun σ3 G3 τ3 H3 g3 hs3 a3 z=>f.nx σ3 G3 τ3 H3 (g12.trans g3) hs3 a3 z
    .rintro σ3 G3 τ3 H3 g3 hs3 a3 ⟨m',hm,p'⟩;exact ⟨m',hm,g12.trans g3,σ3,G3,hs3,a3,p'⟩
    .exact fun w G3 v3 H3 g3 r3 a3 z=>f.rt w G3 v3 H3 (g12.trans g3) r3 a3 z
   .rename_i hk;rw [if_neg hk] at hq;exact f.nx σ1 G2 τ1 H2 (g1.trans g2) hs2 a2 hq
 |_=>exact absurd h zzN
theorem x_for (tg:ITg) (it:II) (b:RTs) (hb:OkXs Γ Δ p b):OkX Γ Δ p (.for tg it b):=fun M Z X Ew x L xo h=>by
 cases x with
 |For t y z e pos =>
  cases e with
  |cons _ _=>exact absurd h zzN
  |nil =>
   obtain ⟨⟨⟨h1,h2⟩,h3⟩,h4⟩:=bd4 h;refine (zer xo.own L.lk.fits.calm (nox_I (sndI g it M X.nox y L.lk h3 t)) (nox_G (sndG L.lk tg t h2)) (hb M Z X Ew z L xo h4) (sZ h1)).imp fun D τ H hq=>?_;obtain ⟨σ,G,D3,E3,hs,ab,f,fe,hq⟩:=hq;refine ⟨σ,G,hs,ab,zfQ g.mono XN it σ G _ _ (fun items stab G1 hq J H1 g1 a1 ii=>?_) hq⟩;obtain ⟨Pv,p0,pst,step,fin⟩:=hq;refine ⟨fun i m τ H'=>m+i=items.length/\yV X.K H1 H'/\∃ σ G,zB X.K H' σ τ/\yC X.K H' G/\Pv i σ G,⟨items.length,rfl,.refl,σ,G1,hs.mono g1,a1,p0⟩,?_⟩;rintro i m τ2 H2 ⟨hm,g2,σ2,G2,hs2,a2,p2⟩;have st:=pst i σ2 G2 p2 (by omega)
   by_cases hi:i<items.length
   .refine .inr ⟨ii.go i H2 G2 g2 a2 st hi,fun τ' H'=>∃ m',m' < m/\(m'+(i+1)=items.length/\yV X.K H1 H'/\∃ σ G,zB X.K H' σ τ'/\yC X.K H' G/\Pv (i+1) σ G),fun τ' H' z=>z,fun x H' yl=>?_⟩;obtain ⟨w,ew,g3,rp,a3⟩:=ii.yld i H2 G2 x H' g2 a2 st hi yl;refine ⟨w,σ2,G2,rp,hs2.mono g3,a3,uM tg w σ2 G2 _ _ (fun σ4 G4 hq τ4 H4 g4 hs4 a4=>?_) (step i w σ2 G2 ew p2)⟩;have gg:=g2.trans (g3.trans g4);refine ⟨σ4,G4,_,E3,hs4,a4,⟨?_,?_,?_,?_⟩,fe.grow (g1.trans gg),hq⟩
    .exact fun σ5 G5 τ5 H5 g5 hs5 a5 z=>⟨m-1,by omega,by omega,gg.trans g5,σ5,G5,hs5,a5,z⟩
    .exact fun σ5 G5 τ5 H5 g5 hs5 a5 z=>f.nx σ5 G5 τ5 H5 (g1.trans (gg.trans g5)) hs5 a5 z
    .exact fun σ5 G5 τ5 H5 g5 hs5 a5 z=>⟨m-1,by omega,by omega,gg.trans g5,σ5,G5,hs5,a5,z⟩
    .exact fun w5 G5 v5 H5 g5 r5 a5 z=>f.rt w5 G5 v5 H5 (g1.trans (gg.trans g5)) r5 a5 z
   .have ei:i=items.length:=by omega
    subst ei;exact .inl ⟨ii.stop _ H2 G2 g2 a2 st (zzR _),f.nx σ2 G2 τ2 H2 (g1.trans g2) hs2 a2 (fin σ2 G2 p2)⟩
 |_=>exact absurd h zzN
include gx
theorem zfF {M:MC} {Z:MX} {X:Cx} {Ew:L2.St->L2.XK} {e:Expr} {f:Nat} {es:IEs} (L:Lxx Γ Δ M Z p X) (xo:XeOk X Ew) (h:nR M Z.fx f es e=true):uN e=true/\∃ k∈Δ.fx,Δ.fx[f]?=some k/\PE X e (zie X.K Ew fun E σ G Q=>zV Γ XN es σ G fun ws G1=>k.sp ws G1 Q (E σ)):=by
 obtain ⟨x,q,xs,pos,rfl,h1,h2,h3⟩:=fW h;rw [← L.fx] at h1;obtain ⟨k,hk,rfl⟩:=jR h1;have hm:=List.mem_of_getElem? hk;obtain ⟨gl,d1,_⟩:=uH (X:=X) L.lk.sc h2;obtain ⟨a1,a2,_⟩:=sndA g es M X.nox xs L.lk h3;exact ⟨rfl,k,hm,hk,(gx.fx k hm).1 X Ew L.lk.fits xo gl xs _ q pos (wW g.mono XN es) a2 (zh3 a1) (zh5 g h3) d1⟩
theorem x_asx (i f:Nat) (es:IEs):OkX Γ Δ p (.asx i f es):=fun M Z X Ew x L xo h=>by
 cases x with
 |Assign ts v pos =>
  match ts,h with
  | [.Name y py],h =>
   obtain ⟨⟨h1,h2⟩,h3⟩:=bd3 h;obtain ⟨nl,k,hm,hk,pe⟩:=zfF g gx L xo h3;have lo:=pH L.lk h2;have hN:=yD h1;rw [← L.lk.N] at hN;refine (fD (X:=X) (i:=i) (show X.N.Nodup from L.lk.N▸L.lk.nd) hN lo.1 pe (wZ nl) lo.2).imp fun D τ H hq=>?_;obtain ⟨σ,G,D3,E3,hs,ab,f3,fe,hq⟩:=hq;refine ⟨σ,G,E3,hs,ab,fe,wW g.mono XN es σ G _ _ (fun ws G1 hq=>?_) hq⟩;simp only [hk] at hq;exact (gx.fx k hm).2 _ _ _ _ _ _ (fun w G2 z v H' g' rp ab'=>f3.nx _ G2 _ H' g' ((hs.mono g').set rp i) ab' z) (fun _ _ z=>z) hq
 |_=>exact absurd h zzN
theorem x_exx (f:Nat) (es:IEs):OkX Γ Δ p (.exx f es):=fun M Z X Ew x L xo h=>by
 cases x with
 |Expr v pos =>
  obtain ⟨nl,k,hm,hk,pe⟩:=zfF g gx L xo h;refine (zbi pe (wZ nl)).imp fun D τ H hq=>?_;obtain ⟨σ,G,D3,E3,hs,ab,f3,fe,hq⟩:=hq;refine ⟨σ,G,E3,hs,ab,fe,wW g.mono XN es σ G _ _ (fun ws G1 hq=>?_) hq⟩;simp only [hk] at hq;exact (gx.fx k hm).2 _ _ _ _ _ _ (fun w G2 z v H' g' rp ab'=>f3.nx _ G2 _ H' g' (hs.mono g') ab' z) (fun _ _ z=>z) hq
 |_=>exact absurd h zzN
theorem x_rtx (f:Nat) (es:IEs):OkX Γ Δ p (.rtx f es):=fun M Z X Ew x L xo h=>by
 cases x with
 |Return v pos =>
  cases v with
  |none=>exact absurd h zzN
  |some v =>
   obtain ⟨nl,k,hm,hk,pe⟩:=zfF g gx L xo h;refine (zeq pe).imp fun D τ H hq=>?_;obtain ⟨σ,G,D3,E3,hs,ab,f3,fe,hq⟩:=hq;refine ⟨σ,G,E3,hs,ab,fe,wW g.mono XN es σ G _ _ (fun ws G1 hq=>?_) hq⟩;simp only [hk] at hq;exact (gx.fx k hm).2 _ _ _ _ _ _ (fun w G2 z v H' g' rp ab'=>f3.rt w G2 v H' g' rp ab' z) (fun _ _ z=>z) hq
 |_=>exact absurd h zzN
theorem x_rse (c:Nat) (es:IEs):OkX Γ Δ p (.rse c es):=fun M Z X Ew x L xo h=>by
 cases x with
 |Raise e from_ pos =>
  match e,from_,h with
  |some e,none,h =>
   obtain ⟨x,q,xs,cpos,rfl,h1,h2,h3⟩:=fW h;rw [← L.cl] at h1;obtain ⟨k,hk,rfl⟩:=jR h1;have hm:=List.mem_of_getElem? hk;obtain ⟨gl,d1,_⟩:=uH (X:=X) L.lk.sc h2;obtain ⟨a1,a2,_⟩:=sndA g es M X.nox xs L.lk h3;refine (gx.cl k hm X Ew L.lk.fits xo gl xs _ q pos cpos (wW g.mono XN es) a2 (zh3 a1) (zh5 g h3) d1).imp fun D τ H hq=>?_;obtain ⟨σ,G,D3,E3,hs,ab,f3,fe,hq⟩:=hq;refine ⟨σ,G,D3,E3,hs,ab,f3,fe,wW g.mono XN es σ G _ _ (fun ws G1 hq=>?_) hq⟩;simp only [hk] at hq;exact hq
  |some _,some _,h=>exact absurd h zzN
  |none,_,h=>exact absurd h zzN
 |_=>exact absurd h zzN
theorem x_try (i j t:Nat) (b:RTs) (hb:OkXs Γ Δ p b):OkX Γ Δ p (.try i j t b):=fun M Z X Ew x L xo h=>by
 cases x with
 |Try bs hs o fin pos =>
  match o,fin,h with
  | [],[],h =>
   obtain ⟨h1,h2⟩:=vY h;obtain ⟨tn,tp,n,y,yp,np,ap,hp,rfl,e1,e2,e3,e4,e5,e6,e7,e8⟩:=zcj h1;rw [← L.tr] at e7;obtain ⟨k,hk,rfl⟩:=jR e7;have hm:=List.mem_of_getElem? hk;have T:=gx.tr k hm;obtain ⟨ini,TT⟩:=T.cls;obtain ⟨gl,d1,_⟩:=uH (X:=X) L.lk.sc e8;have hN:X.N.Nodup:=L.lk.N▸L.lk.nd;have sc:X.env.scope=M.sc:=L.lk.sc;have eK:X.K=p.K:=L.lk.fits.K;have eN:X.N=M.N:=L.lk.N;refine (zhD (tb:=fun Ew=>lowX X.K Ew (xS Γ Δ b)) L.hk hN (by rw [eN];exact e1) (by rw [eN];exact e2) (by rw [sc];exact e3) (by rw [sc];exact e4) e5 e6 gl (by rw [show X.mg=p.mg from L.lk.fits.mg];exact T.mg) d1 (by rw [eK];exact TT) (fun pn E' Ew' xo'=>hb M Z _ Ew' bs (L.held pn E') xo' h2)).imp fun D τ H hq=>?_;obtain ⟨σ,G,D3,E3,hs,ab,f,fe,hq⟩:=hq;simp only [wG,hk] at hq;refine ⟨σ,G,D3,trR k i j D3,hs,ab,f,fun σ' w G' τ' a H' g' hs' rp ab' z=>?_,hq⟩;obtain ⟨C,ns,ws,rfl,hc,z⟩:=z;obtain ⟨dx,ha⟩:=ex_at rp;exact ⟨a,C,dx,rfl,ha,by rw [eK];exact T.sub C hc,f.nx _ G' _ H' g' (zB.unset ((hs'.set rp i).set rp j) i) ab' z⟩
  |_::_,_,h=>exact absurd h zzN
  | [],_::_,h=>exact absurd h zzN
 |_=>exact absurd h zzN
theorem zhh (s:RTs):OkXs Γ Δ p s :=
 RTs.rec (motive_1:=OkX Γ Δ p) (motive_2:=OkXs Γ Δ p) (x_pl g) (x_rse g gx) (fun c a b ha hb=>x_ite g c a b ha hb) (fun c b hb=>x_whl g c b hb) (fun tg it b hb=>x_for g tg it b hb) (x_asx g gx) (x_exx g gx) (x_rtx g gx) (fun i j t b hb=>x_try g gx i j t b hb)
  (fun M Z X Ew x L xo h=>by
   cases x with
   |nil=>exact zbh.imp fun D τ H hq=>by obtain ⟨σ,G,D3,E3,hs,ab,f,_,hq⟩:=hq;exact f.nx σ G τ H .refl hs ab hq
   |cons _ _=>exact absurd h zzN)
  (fun s ss h1 h2 M Z X Ew x L xo h=>by
   cases x with
   |nil=>exact absurd h zzN
   |cons y ys =>
    obtain ⟨m1,m2⟩:=vY h;refine (bI (h1 M Z X Ew y L xo m1) (h2 M Z X Ew ys L xo m2)).imp fun D τ H hq=>?_;obtain ⟨σ,G,D3,E3,hs,ab,f,fe,hq⟩:=hq;refine ⟨σ,G,{ D3 with nx:=xS Γ Δ ss E3 D3 },E3,hs,ab,⟨?_,f.bk,f.ct,f.rt⟩,fe,hq⟩;exact fun σ2 G2 τ2 H2 g2 hs2 a2 z=>⟨σ2,G2,D3,E3,hs2,a2,f.grow g2,fe.grow g2,z⟩) s
end
def dS (K:yZ) (sp:SpX):Sp:=fun vs H Q E=>∃ ws G,zQ K H ws vs/\yC K H G/\sp ws G (jL K H Q) (fun w G'=>∀ a H',yV K H H'->xN K H' w (.ref a)->yC K H' G'->E (.ref a) none H')
section
variable {X : Cx} {Ew : L2.St → L2.XK}
theorem zem {pins:List (Addr×Obj)} {τ:L2.St} {H:Hp} {s:Shared} {Q:VK} {us:List Value} {vs:List V} {k:Nat} {f:Addr} {fd:FuncData} {ps:List Str} {sp:Sp} (F:FnOk X.prog X.w X.K X.mg X.base (CXr X.prog X.w) k f fd ps sp) (hr:Room k X.A) (hb:wH X.K fd ps []) (xo:XeOk X Ew) (I:Inv X pins τ H s) (r:zF vs us) (h:sp vs H Q (Ew τ)) :
  wpAny (model X.prog X.w) X.A (call (.ref f) us) (EP X pins τ Q) X.xe s:=by
 have hl:(us++[]).length=ps.length:=by rw [List.append_nil,← r.length];exact F.len _ _ _ _ h
 have bs:=hb s us I.kIn hl;rw [List.append_nil] at bs;refine wpAny_call (codeAny_mono (F.run X.A X.stack s H ⟨us,[]⟩ us vs Q (Ew τ) hr I.env0 bs r h) fun rr s' z=>?_)
 cases rr with
 |error e=>exact xo.pass pins τ H s e s' I z
 |ok fl =>
  cases fl with
  |ret u=>exact I.after z
  |next=>exact False.elim z
  |brk=>exact False.elim z
  |cont=>exact False.elim z
theorem zaS (hx:X.xe=fun _ _=>False):XeOk X (fun _=>E0) :=
 ⟨fun _ _ _ _ _ _ _ _ _ z=>z.elim,fun _ _ _ _ _ _ _ h=>by obtain ⟨_,_,_,_,_,_,_,_,_,_,_,_,_,_,_,z⟩:=h;exact z.elim,by rw [hx];exact PassesOwn.never⟩
theorem zhR {nm:Str} {C:Addr} {args:List Expr} {t:A3} {q pos:Pos} {r:List V->Hp->VK->Prop} (hc:wC X (.ref C) r) (gl:Gl X nm) (hm:X.mg nm=some (.ref C)) (kp:PySem.W.keepIn X.K (.ref C)=true) (hn:args.all noStar=true) (pa:PA X args (qC X.K t)) (hnil:args=[]->∀ σ G Q,t σ G Q->Q [] G) (hdb:(nm==("__debug__" : Str))=false) :
  PE X (.Call (.Name nm q) args [] pos) (fun τ H Q=>qC X.K t τ H fun vs H1=>r vs H1 Q):=by
 cases args with
 |nil =>
  intro pins s σ H Q I h;obtain ⟨σ3,G,hs,ab,h⟩:=h;refine wpAny_Call_Name_kw (jY I gl hm ?_ hdb);exact PySem.W.callWith_K0 I.kIn kp (hc pins s σ H [] [] Q I .nil (hnil rfl _ _ _ h [] H .refl rfl ab))
 |cons a l =>
  intro pins s σ H Q I h;obtain ⟨s1,s2⟩:=xY (env:=X.env) (pos:=pos) hn;refine wpAny_Call_Name_kw (jY I gl hm ?_ hdb);refine PySem.W.callWith_K (h₀:=X.base) I.ok.mod.kin kp (yI (pa pos pins s σ H _ I h) fun us s1 z=>?_) s1 s2;obtain ⟨vs,H1,I1,r1,q1⟩:=z;exact ⟨I1.kIn,hc pins s1 σ H1 vs us Q I1 r1 q1⟩
end
section
variable {q : Pr} {A : Around} {nm : Str} {C : Addr}
theorem ziI {k:Nat} {f:Addr} {fd:FuncData} {ps:List Str} {sp:SpX} (FO:FnOk q.prog q.w q.K q.mg q.base (CXr q.prog q.w) k f fd ps (dS q.K sp)) (hm:q.mg nm=some (.ref f)) (hk:PySem.W.keepIn q.K (.ref f)=true) (hb:wH q.K fd ps []) (mono:nI ⟨nm,sp⟩) (hr:Room k A):FxE (q.at A) ⟨nm,sp⟩:=by
 intro X Ew fits xo gl args t qp pos mt hn pa hnil hdb;have e:=fits.eq
 injection e with e1 e2 e3 e4 e5 e6
 have e1:q.prog=X.prog:=e1;have e2:q.w=X.w:=e2;have e3:q.K=X.K:=e3;have e4:q.mg=X.mg:=e4;have e5:q.base=X.base:=e5;have e6:A=X.A:=e6;subst e6;rw [e1,e2,e3,e4,e5] at FO;rw [e4] at hm;rw [e3] at hk hb
 cases args with
 |nil =>
  intro pins s τ H Q I h;obtain ⟨σ,G,E3,hs,ab,fe,h⟩:=h;have h:=hnil rfl _ _ _ h;refine wpAny_Call_Name_kw (jY I gl hm ?_ hdb);refine PySem.W.callWith_K0 I.kIn hk (zem (us:=[]) (vs:=[]) FO hr hb xo I .nil ?_);exact ⟨[],G,rfl,ab,mono _ _ _ _ _ _ (fun _ _ z=>z) (fun w G' z a H' g' rp ab'=>fe σ w G' τ a H' g' (hs.mono g') rp ab' z) h⟩
 |cons a l =>
  intro pins s τ H Q I h;obtain ⟨σ,G,E3,hs,ab,fe,h⟩:=h;obtain ⟨s1,s2⟩:=xY (env:=X.env) (pos:=pos) hn;refine wpAny_Call_Name_kw (jY I gl hm ?_ hdb)
  have ha:qC X.K t τ H fun vs H1=>dS X.K sp vs H1 Q (Ew τ):=kQ mt hs ab h fun ws G1 vs H1 g1 hs1 rs a1 h =>
   ⟨ws,G1,rs,a1,mono _ _ _ _ _ _ (fun w G' z=>jL.mono g1 z) (fun w G' z a H' g' rp ab'=>fe σ w G' τ a H' (g1.trans g') (hs1.mono g') rp ab' z) h⟩
  refine PySem.W.callWith_K (h₀:=X.base) I.ok.mod.kin hk (yI (pa pos pins s τ H _ I ha) fun us s1 z=>?_) s1 s2;obtain ⟨vs,H1,I1,r1,q1⟩:=z;exact ⟨I1.kIn,zem FO hr hb xo I1 r1 q1⟩
theorem fn_fx {p:Par} {sp:SpX} (h:FxE p ⟨nm,sp⟩):FnE p ⟨nm,fun ws G Q _=>sp ws G Q fun _ _=>False⟩:=by
 intro X fits gl args t qp pos mt hn pa hnil hdb hnm;refine (h X (fun _=>E0) ⟨fits.prog,fits.w,fits.K,fits.mg,fits.base,fits.A,fits.calm,rfl⟩ (zaS fits.xe) gl args t qp pos mt hn pa hnil hdb).imp fun τ H Q z=>?_;obtain ⟨σ,G,hs,ab,z⟩:=z;exact ⟨σ,G,fun _ _ _=>False,hs,ab,fun _ _ _ _ _ _ _ _ _ _ z=>z.elim,z⟩
theorem ziP {p:Par} {sp:SpX} (h:FxE p ⟨nm,sp⟩) (m:nI ⟨nm,sp⟩):qM p ⟨nm,fun ws G Q _=>sp ws G Q fun _ _=>False⟩:=⟨fn_fx h,fun ws G Q Q' E k z=>m ws G Q Q' _ _ k (fun _ _ z=>z) z⟩
theorem cl_1 {fI:Addr} {f pr:Str} {k:Nat} {fd:FuncData} (T:XM q.K C (.ref fI)) (TI:XI q.K C f) (F:FnOk q.prog q.w q.K q.mg q.base CX0 k fI fd ["self", pr] (spXI q.K f)) (hr:Room (k+1) A) (hb:wH q.K fd ["self", pr] []) (hf:PySem.W.typeIn q.K (.ref fI)=some (.type "function")) (hm:q.mg nm=some (.ref C)):ClE (q.at A) ⟨nm,C,some f⟩:=by
 intro X Ew fits xo gl args t qp pos cpos mt hn pa hnil hdb;have e:=fits.eq
 injection e with e1 e2 e3 e4 e5 e6
 have e1:q.prog=X.prog:=e1;have e2:q.w=X.w:=e2;have e3:q.K=X.K:=e3;have e4:q.mg=X.mg:=e4;have e5:q.base=X.base:=e5;have e6:A=X.A:=e6;subst e6;rw [e1,e2,e3,e4,e5] at F;rw [e4] at hm;rw [e3] at T TI hb hf;refine (zc9 xo fits.calm (zhR (q:=qp) (pos:=cpos) (zia T TI F hr hb hf) gl hm T.kp hn pa hnil hdb)).imp fun D τ H hq=>?_;obtain ⟨σ,G,D3,E3,hs,ab,f3,fe,hq⟩:=hq;refine kQ mt hs ab hq fun ws G1 vs H1 g1 hs1 rs a1 h=>?_;obtain ⟨w,rfl,h⟩:=h;obtain ⟨v,rfl,rv⟩:=kR rs;refine ⟨v,rfl,fun a dx fr fx ne=>⟨a,C,some dx,_,rfl,yY,T,?_⟩⟩;rw [zfa];have fe':(yT H1 dx (.xd [(f,v)])) a=none:=by rw [zW ne.symm];exact fr
 have gr:=(yF (K:=X.K) (u:=.xd [(f,v)]) fx).trans (yF (K:=X.K) (u:=.ext (cP a C (some dx))) fe');refine fe σ (.exc C [f] [w]) G1 τ a _ (g1.trans gr) (hs1.mono gr) ⟨a,[v],rfl,.inr ⟨dx,yY,?_⟩,v,[],rfl,rv.mono gr,rfl⟩ ((a1.tup fx).tup fe') h;rw [zW ne];exact yY
end
structure ZOk (Δ:CtxX) (Z:MX):Prop where
 fx:Δ.fx.map (·.nm)=Z.fx
 cl:Δ.cl.map (·.nm)=Z.cl
 tr:Δ.tr.map (·.nm)=Z.tr
theorem zgB {Γ:Ctx3} {Δ:CtxX} {q:Pr} {k:Nat} {M:MC} {Z:MX} {x qual:Str} {st:Stmt} {dV:Value} {f:Addr} {fd:FuncData} {ps:List Str} {sp:SpX} {body:RTs} (F:FunD q.K x qual st dV f fd) (S:FnScope M.N ps (zY st)) (g:∀ A,Room k A->Good Γ (q.at A)) (gx:∀ A,Room k A->GoodX Δ (q.at A))
  (eM:MOk Γ M (zY st)) (eZ:ZOk Δ Z) (hm:mXs M Z body (zG st)=true) (len:∀ ws G Q E,sp ws G Q E->ws.length=ps.length)
  (hb:∀ ws G Q E,sp ws G Q E->xS Γ Δ body (fun _=>E) { nx:=fun _ G'=>Q .non G',rt:=Q } (yN M.N ws) G):FnOk q.prog q.w q.K q.mg q.base (CXr q.prog q.w) (k+1) f fd ps (dS q.K sp):=by
 obtain ⟨oc,od,kV,doc,pm,an,cdv,ct,osl,rfl,lk,hcd⟩:=F.ex;refine zdN lk hcd S (fun vs H Q E h=>?_) fun A outer s H vs Q E hr h=>?_
 .obtain ⟨ws,G,rs,ab,h⟩:=h;rw [rs.length];exact len ws G _ _ h
 .obtain ⟨ws,G,rs,ab,h⟩:=h;refine ⟨lowX q.K (fun _=>E) (xS Γ Δ body),zhh (g _ hr) (gx _ hr) body M Z _ _ (zG st) ⟨⟨⟨rfl,rfl,rfl,rfl,rfl,rfl,rfl,rfl⟩,rfl,eM.sc.symm,S.nd,fun _ _=>rfl,by rw [eM.sc];exact S.kind,eM.fns,eM.gls,eM.mts,eM.its,eM.sxs,eM.ixs⟩,eZ.fx,eZ.cl,eZ.tr,rfl,rfl⟩ zgZ hm,?_⟩;refine ⟨yN M.N ws,G,_,_,tR rs,ab,⟨?_,?_,?_,?_⟩,fun σ w G' τ a H' g' _ rp ab' z=>z a H' g' rp ab',hb ws G _ _ h⟩
  .exact fun σ G' τ H' g' _ a' z=>z .non H' g' (show xN q.K H' .non .non from rfl) a'
  .exact fun σ G' τ H' g' _ a' z=>z.elim
  .exact fun σ G' τ H' g' _ a' z=>z.elim
  .exact fun w G' v H' g' r' a' z=>z v H' g' r' a'
theorem zgC {Γ:Ctx3} {Δ:CtxX} {q:Pr} {k:Nat} {M:MC} {Z:MX} {x qual:Str} {st:Stmt} {dV:Value} {f:Addr} {fd:FuncData} {ps:List Str} {sp:sV} {body:RTs} (F:FunD q.K x qual st dV f fd) (S:FnScope M.N ps (zY st)) (g:∀ A,Room k A->Good Γ (q.at A)) (gx:∀ A,Room k A->GoodX Δ (q.at A))
  (eM:MOk Γ M (zY st)) (eZ:ZOk Δ Z) (hm:mXs M Z body (zG st)=true) (len:∀ ws G Q,sp ws G Q XN->ws.length=ps.length)
  (hb:∀ ws G Q,sp ws G Q XN->xS Γ Δ body (fun _ _ _=>False) { nx:=fun _ G'=>Q .non G',rt:=Q } (yN M.N ws) G):FnOk q.prog q.w q.K q.mg q.base CX0 (k+1) f fd ps (jB q.K sp):=by
 obtain ⟨oc,od,kV,doc,pm,an,cdv,ct,osl,rfl,lk,hcd⟩:=F.ex;refine zdN lk hcd S (fun vs H Q E h=>?_) fun A outer s H vs Q E hr h=>?_
 .obtain ⟨ws,G,rs,ab,h⟩:=h;rw [rs.length];exact len ws G _ h
 .obtain ⟨ws,G,rs,ab,h⟩:=h;refine ⟨lowX q.K (fun _=>E0) (xS Γ Δ body),nF.nox (zhh (g _ hr) (gx _ hr) body M Z _ _ (zG st) ⟨⟨⟨rfl,rfl,rfl,rfl,rfl,rfl,rfl,rfl⟩,rfl,eM.sc.symm,S.nd,fun _ _=>rfl,by rw [eM.sc];exact S.kind,eM.fns,eM.gls,eM.mts,eM.its,eM.sxs,eM.ixs⟩,eZ.fx,eZ.cl,eZ.tr,rfl,rfl⟩ (zaS rfl) hm),?_⟩;refine ⟨yN M.N ws,G,_,_,tR rs,ab,⟨?_,?_,?_,?_⟩,fun σ w G' τ a H' g' _ rp ab' z=>z.elim,hb ws G _ h⟩
  .exact fun σ G' τ H' g' _ a' z=>z .non H' g' (show xN q.K H' .non .non from rfl) a'
  .exact fun σ G' τ H' g' _ a' z=>z.elim
  .exact fun σ G' τ H' g' _ a' z=>z.elim
  .exact fun w G' v H' g' r' a' z=>z v H' g' r' a'
end L3
namespace L2
open PySem PySem.Spec PyProof.Rows
section
variable {X : Cx} {tg : Expr}
end
end L2
namespace L3
open PySem PySem.Spec PyProof.Rows L2 PySem.SeqAt
end L3
namespace PySem
open Sem (wp)
section
variable {prog : Program} {w : World} {A : Around} {E : Value → Shared → Prop} {s : Shared}
abbrev uT (h:Heap) (e it:Addr) (i:Int) (f0 f1 old:Value):Prop :=
 h.get? e=some { cls:=.type "enumerate", dict:=none,data:=.fields #[f0,f1,.ref it,rawInt i,.none,old],slots:=#[] }
def F0 (v:Value):Prop:=v=.none\/∃ T:Addr,v=rawInt T
def F1 (v:Value):Prop:=v=.bool false\/v=.bool true
theorem zgx {b:Bool} {e it l:Addr} {k:Nat} {m:Int} {xs:Array Value} {x f0 f1 old:Value} {Q:Value->Shared->Prop} (hne:e≠it) (hle:l≠e) (h0:F0 f0) (h1:F1 f1) (he:uT s.heap e it m f0 f1 old)
  (hi:uX b s.heap it l k) (hl:uY b s.heap l xs) (hx:xs[k]?=some x)
  (hQ:∀ h' tk t f0' f1' old',0<tk->F0 f0'->F1 f1'->uT h' e it (m+1) f0' f1' old'->uX b h' it l (k+1)->h'.get? s.heap.objs.size=some { cls:=.type "tuple", data:=.seq #[.int m t,x] }->h'.objs.size=s.heap.objs.size+1 ->
   (∀ c o,c≠e->c≠it->s.heap.get? c=some o->h'.get? c=some o)->Q (.ref s.heap.objs.size) { s with heap:=h',toks:=tk }) :
  wpAny (model prog w) A (Builtin.«enumerate.__next__» ⟨[.ref e],[]⟩) (fun fin z=>∃ v,fin=.done (.ret v)/\Q v z) E s:=by
 obtain ⟨hp,g,d,tk,os⟩:=s;have le:e<hp.objs.size:=Heap.lt_size he;refine wpAny_bind (m:=field (.ref e) 2) (wpAny_field he rfl (x:=.ref it) rfl (wpAny_bind ?_));refine (jO hi hl hx fun g1 i1 s1=>?_);replace s1:Heap.SameBut it hp g1:=s1;have e1:uT g1 e it m f0 f1 old:=(s1.2 e hne).trans he;show wpAny _ _ (field (.ref e) 3 >>= _) _ _ ⟨g1,g,d,tk,os⟩;refine wpAny_bind (wpAny_field e1 rfl (x:=rawInt m) rfl ?_);show wpAny _ _ (field (.ref e) 4 >>= _) _ _ ⟨g1,g,d,tk,os⟩;refine wpAny_bind (wpAny_field e1 rfl (x:=.none) rfl ?_);show wpAny _ _ (mkInt m >>= _) _ _ ⟨g1,g,d,tk,os⟩;refine wpAny_bind (wpAny_mkInt ?_);show wpAny _ _ (setField (.ref e) 3 (rawInt (m+1)) >>= _) _ _ ⟨g1,g,d,tk+1,os⟩;refine wpAny_bind (wpAny_setField_rec e1 (by simp) fun g2 e2 s2=>?_);replace s2:Heap.SameBut e g1 g2:=s2;replace e2:uT g2 e it (m+1) f0 f1 old:=e2;show wpAny _ _ (setField (.ref e) 4 .none >>= _) _ _ ⟨g2,g,d,tk+1,os⟩;refine wpAny_bind (wpAny_setField_rec e2 (by simp) fun g3 e3 s3=>?_);replace s3:Heap.SameBut e g2 g3:=s3;replace e3:uT g3 e it (m+1) f0 f1 old:=e3;show wpAny _ _ (newTuple [.int m tk,x] >>= _) _ _ ⟨g3,g,d,tk+1,os⟩;refine wpAny_bind (wpAny_newTuple ?_);have e4:uT (g3.push { cls:=.type "tuple", data:=.seq #[.int m tk,x] }) e it (m+1) f0 f1 old:=Heap.get?_push_of_some _ e3;generalize hh:g3.push { cls:=.type "tuple", data:=.seq #[.int m tk,x] }=g4 at e4;have hsz:g3.objs.size=hp.objs.size:=by rw [s3.1,s2.1,s1.1]
 have t4:g4.get? hp.objs.size=some { cls:=.type "tuple", data:=.seq #[.int m tk,x] }:=by rw [← hh,← hsz];exact Heap.get?_push_size _ rfl
 have z4:g4.objs.size=hp.objs.size+1:=by rw [← hh,Heap.size_push,hsz]
 have k4:∀ c o,c≠e->c≠it->hp.get? c=some o->g4.get? c=some o:=fun c o n1 n2 q=>by
  rw [← hh];exact Heap.get?_push_of_some _ (s3.extBut c o n1 (s2.extBut c o n1 (s1.extBut c o n2 q)))
 have i4:uX b g4 it l (k+1):=i1.at fun o q=>by rw [← hh];exact Heap.get?_push_of_some _ (s3.extBut it o hne.symm (s2.extBut it o hne.symm q))
 show wpAny _ _ (Builtin.SmallTypes.ownedTupleIsFree (.ref e) >>= _) _ _ ⟨g4,g,d,tk+1,os⟩;rw [hsz]
 clear hh e3 s3 e2 s2 e1 s1 i1 hsz g3 g2 g1
 have free:wpAny (model prog w) A (do
   rule "enumerate.__next__.owned-tuple-again"
   let old ← field (.ref e) 5
   setField (.ref e) 5 x
   Builtin.SmallTypes.ownedTupleHandOut (.ref e) (.ref hp.objs.size)
   letGo [old] [.ref hp.objs.size]
   ret (.ref hp.objs.size)) (fun fin s'=>∃ v,fin=.done (.ret v)/\Q v s') E ⟨g4,g,d,tk+1,os⟩:=by
  refine wpAny_bind (wpAny_rule ?_);refine wpAny_bind (wpAny_field e4 rfl (x:=old) rfl ?_);refine wpAny_bind (wpAny_setField_rec e4 (by simp) fun g5 e5 s5=>?_);replace s5:Heap.SameBut e g4 g5:=s5;replace e5:uT g5 e it (m+1) f0 f1 x:=e5;show wpAny _ _ (Builtin.SmallTypes.ownedTupleHandOut (.ref e) (.ref hp.objs.size) >>= _) _ _ ⟨g5,g,d,tk+1,os⟩;refine wpAny_bind ?_;unfold Builtin.SmallTypes.ownedTupleHandOut;refine wpAny_bind (wpAny_setField_rec e5 (by simp) fun g6 e6 s6=>?_);replace s6:Heap.SameBut e g5 g6:=s6;replace e6:uT g6 e it (m+1) (rawInt hp.objs.size) f1 x:=e6;refine wpAny_setField_rec e6 (by simp) fun g7 e7 s7=>?_;replace s7:Heap.SameBut e g6 g7:=s7;replace e7:uT g7 e it (m+1) (rawInt hp.objs.size) (.bool false) x:=e7;have up:∀ c o,c≠e->g4.get? c=some o->g7.get? c=some o:=fun c o n q=>s7.extBut c o n (s6.extBut c o n (s5.extBut c o n q));exact wpAny_bind (wpAny_letGo (wpAny_pure ⟨_,rfl,hQ g7 (tk+1) tk _ _ _ (Nat.succ_pos _) (.inr ⟨_,rfl⟩) (.inl rfl) e7 (i4.at fun o q=>up it o hne.symm q) (up _ _ (Nat.ne_of_gt le) t4) (by rw [s7.1,s6.1,s5.1,z4]) fun c o n1 n2 q=>up c o n1 (k4 c o n1 n2 q)⟩))
 refine wpAny_bind ?_;unfold Builtin.SmallTypes.ownedTupleIsFree;refine wpAny_bind (wpAny_field e4 rfl (x:=f0) rfl ?_);rcases h0 with rfl|⟨T,rfl⟩
 .exact wpAny_pure free
 .show wpAny _ _ (loadIfAlive (Int.toNat T) >>= _) _ _ _;refine wpAny_bind (qA ?_)
  cases hT:g4.get? (Int.toNat T) with
  |none=>exact wpAny_pure free
  |some oT =>
   show wpAny _ _ (field (.ref e) 1 >>= _) _ _ _;refine wpAny_bind (wpAny_field e4 rfl (x:=f1) rfl ?_);rcases h1 with rfl|rfl
   .refine wpAny_bind (wpAny_setField_rec e4 (by simp) fun g5 e5 s5=>?_);replace s5:Heap.SameBut e g4 g5:=s5;replace e5:uT g5 e it (m+1) (rawInt T) (.bool true) old:=e5;refine wpAny_pure (wpAny_pure ⟨_,rfl,hQ g5 (tk+1) tk _ _ _ (Nat.succ_pos _) (.inr ⟨_,rfl⟩) (.inr rfl) e5 (i4.at fun o q=>s5.extBut it o hne.symm q) (s5.extBut _ _ (Nat.ne_of_gt le) t4) (by rw [s5.1,z4]) fun c o n1 n2 q=>s5.extBut c o n1 (k4 c o n1 n2 q)⟩)
   .exact wpAny_pure (wpAny_pure ⟨_,rfl,hQ g4 (tk+1) tk _ _ _ (Nat.succ_pos _) (.inr ⟨_,rfl⟩) (.inr rfl) e4 i4 t4 z4 k4⟩)
end
end PySem
namespace PySem
open Sem (wp)
abbrev enH (b:Bool) (h:Heap) (l:Addr):Heap:=h.push { cls:=.type (itc b),data:=.fields #[.ref l,.int 0 0] }
theorem dU (b:Bool) (l:Addr) (xs:Array Value) :
  Meets (Builtin.«enumerate.__new__» ⟨[.type "enumerate", .ref l],[]⟩) (fun _ R s=>uY b s.heap l xs /\
   R (.ok (.ret (.ref (enH b s.heap l).objs.size))) { s with heap:=(enH b s.heap l).push { cls:=.type "enumerate", data:=.fields #[.none,.bool false,.ref s.heap.objs.size,rawInt 0,.none,.none] } }) :=
 .of_wp fun prog w A R s h=>by
  obtain ⟨hp,g,d,tk,os⟩:=s;obtain ⟨hl,h⟩:=h;have hsub:=sub_enumerate;have hL:uY b (Shared.heap ⟨hp,g,d,tk,os⟩) l xs:=hl
  wp_walk
  refine wpAny_stack_any fun st=>wpAny_pure ?_
  split
  .rename_i c _ _ _ _ _;cases (c==Value.type "enumerate")<;>(wp_walk using wB hL;exact ⟨_,rfl,h⟩)
  .wp_walk using wB hL
   exact ⟨_,rfl,h⟩
section
variable {prog : Program} {w : World} {A : Around} {E : Value → Shared → Prop} {s : Shared}
theorem zgM {b:Bool} {l:Addr} {xs:Array Value} {Q:Value->Shared->Prop} (hl:uY b s.heap l xs)
  (h:∀ h',uT h' (s.heap.objs.size+1) s.heap.objs.size 0 .none (.bool false) .none->uX b h' s.heap.objs.size l 0->(∀ c o,s.heap.get? c=some o->h'.get? c=some o)->Q (.ref (s.heap.objs.size+1)) { s with heap:=h' }) :
  wpAny (model prog w) A (call (.type "enumerate") [.ref l]) Q E s:=by
 refine callType_new F.called_enumerate (by decide) (F.typeCall_enumerate_1 _) (F.newCall_enumerate_1 _) (fun obj=>F.args_object_init_2 obj _) F.entry_enumerate_new (dU b l xs) ⟨hl,?_⟩;have hz:(enH b s.heap l).objs.size=s.heap.objs.size+1:=Heap.size_push ..;show _/\_;rw [hz]
 have he:uT ((enH b s.heap l).push { cls:=.type "enumerate", data:=.fields #[.none,.bool false,.ref s.heap.objs.size,rawInt 0,.none,.none] }) (s.heap.objs.size+1) s.heap.objs.size 0 .none (.bool false) .none:=by
  have:=Heap.get?_push_size (enH b s.heap l) (o:={ cls:=.type "enumerate", data:=.fields #[.none,.bool false,.ref s.heap.objs.size,rawInt 0,.none,.none] }) rfl;rw [hz] at this;exact this
 exact ⟨⟨_,he,rfl⟩,h _ he ⟨_,Heap.get?_push_of_some _ (Heap.get?_push_size _ rfl),rfl,rfl⟩ fun c o x=>Heap.get?_push_of_some _ (Heap.get?_push_of_some _ x)⟩
end
end PySem
namespace L2
open PySem PySem.Spec PyProof.Rows
def Ite (st:Int) (b:Bool) (K:PySem.W.Frag) (l:Addr):It where
 go:=fun i H=>∃ xs x,rZ b K H l xs/\xs[i]?=some x
 yld:=fun i H v H'=>∃ p x,v=.ref p/\H p=none/\H'=yT H p (.tup [.int (i+st),x])/\∀ xs,rZ b K H l xs->xs[i]?=some x
 stop:=fun i H=>∃ xs,rZ b K H l xs/\xs.length<=i
def EnSt (st:Int) (b:Bool) (e it l:Addr) (i:Nat) (h:Heap):Prop:=∃ f0 f1 old,F0 f0/\F1 f1/\uT h e it (i+st) f0 f1 old/\uX b h it l i
section
variable {sn : Int} {b : Bool} {e it l : Addr}
theorem EnSt.keep {i:Nat} {h h':Heap} (x:EnSt sn b e it l i h) (k:∀ c∈[e,it],∀ o,h.get? c=some o->h'.get? c=some o):EnSt sn b e it l i h':=by
 obtain ⟨f0,f1,old,a0,a1,he,hi⟩:=x;exact ⟨f0,f1,old,a0,a1,k e (by simp) _ he,hi.at fun o q=>k it (by simp) o q⟩
theorem en_go {P:Program} {w:World} {A:Around} {E:Value->Shared->Prop} {s:Shared} {tg:Expr} {u:Value} {i:Nat} {Q:Unit->Shared->Prop} (hne:e≠it) (st:EnSt sn b e it l i s.heap)
  (h:∀ h',EnSt sn b e it l i h'->(∀ c o,c≠e->s.heap.get? c=some o->h'.get? c=some o)->Q () { s with heap:=h' }):wpAny (model P w) A (letOwnedTupleGo tg (.ref e) u) Q E s:=by
 have stay:Q () s:=h s.heap st fun _ _ _ z=>z
 have core:wpAny (model P w) A (do
   let (.ref r,.ref t):=(Value.ref e,u)|return
   let o ← load r
   match o.cls,o.data with
   | .type n,.fields vs =>
    if ["enumerate", "zip", "dict_itemiterator", "dict_reverseitemiterator", "odict_iterator", "itertools.zip_longest", "itertools.pairwise"].contains n&&vs[0]?==some (rawInt t) then
     rule "for.unpacks-the-owned-tuple"
     updateField r 0 .none
   |_,_=>pure ()) Q E s:=by
  cases u with
  |ref t =>
   obtain ⟨f0,f1,old,a0,a1,he,hi⟩:=st;refine wpAny_bind (wpAny_load he ?_);dsimp only
   split
   .refine wpAny_bind (wpAny_rule ?_);show wpAny _ _ (setField (.ref e) 0 .none) Q E s;exact wpAny_setField_rec he (by simp) fun h' he' hs'=>h h' ⟨.none,f1,old,.inl rfl,a1,he',hi.at fun o q=>hs'.extBut it o hne.symm q⟩ fun c o hc q=>hs'.extBut c o hc q
   .exact wpAny_pure stay
  |_=>exact wpAny_pure stay
 cases tg with
 |Tuple es x p=>exact core
 |List es x=>exact core
 |_=>exact wpAny_pure stay
theorem zb8 (P:Program) (w:World) (K:PySem.W.Frag) (tg:Expr) (hne:e≠it) (n1:l≠e) (n2:l≠it):Turn P w K tg (Ite sn b K l) [e,it] e (EnSt sn b e it l) where
 mem:=by simp
 obj:=fun i h x c hc=>by
  obtain ⟨f0,f1,old,_,_,he,o,q1,q2,q3⟩:=x;simp only [List.mem_cons,List.not_mem_nil,or_false] at hc;rcases hc with rfl|rfl
  .exact ⟨_,he,fun v z=>nomatch z⟩
  .exact ⟨o,q1,fun v z=>by rw [q3] at z;cases z⟩
 keep:=fun i h h' x k=>x.keep k
 item:=by
  intro X e1 e2 e3 hc i pins s σ H E I hf st go;subst e1;subst e2;subst e3;obtain ⟨xs,x,q1,ex⟩:=go;obtain ⟨its,vx,sx,_⟩:=I.sqB q1;obtain ⟨u,eu,ru⟩:=vx.get ex;obtain ⟨f0,f1,old,a0,a1,he,hi⟩:=id st;have hT:s.TypeIs (.ref e) "enumerate" := ⟨_,he,rfl⟩;have le:e<s.heap.objs.size:=Heap.lt_size he;have li:it<s.heap.objs.size:=by obtain ⟨o,ho,_⟩:=hi;exact Heap.lt_size ho
  have hn:H s.heap.objs.size=none:=I.hok.fresh (zzR _);unfold pyNext
  refine wpAny_bind (wpAny_attempt (wpAny_callSpecial?_slot (name:=Str.ofString "__next__") hT F.slot_enumerate_next (wpAny_call_entry F.slot_enumerate_next hT F.entry_enumerate_next
   (zgx hne n1 a0 a1 he hi sx (x:=u) (by simpa using eu) fun h' tk t f0' f1' old' h0 b0 b1 he' hi' ht hz k=>wpAny_pure ⟨_,rfl,?_⟩) (F.args_enumerate_next_1 _))))
  refine en_go (sn:=sn) (i:=i+1) (s:={ s with heap:=h',toks:=tk }) hne ⟨f0',f1',old',b0,b1,by rw [show (((i+1:Nat):Int)+sn)=(i:Int)+sn+1 by omega];exact he',hi'⟩ fun h2 st2 k2=>?_
  have J:Inv X pins σ H { s with heap:=h2,toks:=tk }:=I.turns hf fun c o hc q=>by
   simp only [List.mem_cons,List.not_mem_nil,or_false,not_or] at hc;exact k2 c o hc.1 (k c o hc.1 hc.2 q)
  refine ⟨.ref s.heap.objs.size,yT H s.heap.objs.size (.tup [.int (i+sn),x]),?_,rfl,⟨_,x,rfl,hn,rfl,fun ys q'=>by rw [I.sqB_inj q' q1];exact ex⟩,st2,fun c hc=>?_⟩
  .refine J.adopt (I.off (zzR _)) hn ⟨by show 2<=sizeLine;rw [sizeLine_eq];decide,[.int (i+sn) t,u],.cons ⟨t,rfl⟩ (.cons ru .nil),⟨_,k2 _ _ (Nat.ne_of_gt le) ht,rfl,_,rfl⟩⟩
  .have:c≠s.heap.objs.size:=by
    simp only [List.mem_cons,List.not_mem_nil,or_false] at hc;rcases hc with rfl|rfl
    .exact Nat.ne_of_lt le
    .exact Nat.ne_of_lt li
   rw [zW this];exact (hf c hc).1
 done:=by
  intro X e1 e2 e3 hc i pins s σ H E I hf st stop;subst e1;subst e2;subst e3;obtain ⟨xs,q1,hx⟩:=stop;obtain ⟨its,vx,sx,_⟩:=I.sqB q1;obtain ⟨f0,f1,old,a0,a1,he,hi⟩:=id st;have hT:s.TypeIs (.ref e) "enumerate" := ⟨_,he,rfl⟩;have hl:=vx.length;unfold pyNext;refine wpAny_bind (wpAny_attempt (wpAny_callSpecial?_slot (name:=Str.ofString "__next__") hT F.slot_enumerate_next (wpAny_call_entry F.slot_enumerate_next hT F.entry_enumerate_next ?_ (F.args_enumerate_next_1 _))));show wpAny _ _ (field (.ref e) 2 >>= _) _ _ _;refine wpAny_bind (wpAny_field he rfl (x:=.ref it) rfl ?_);refine wpAny_bind (uP (A:=X.A.in1) (I.ok.hd hc) hi sx (by simp;omega) fun h' x k hx'=>?_);obtain ⟨o,ho,hc'⟩:=hx';refine wpAny_bind (wpAny_isInstance (T := "StopIteration") (b:=true) ⟨o,ho,hc'⟩ isSubtype_stop ?_);refine wpAny_pure ⟨rfl,I.turns (t':=s.toks) hf fun c o hc q=>?_⟩;simp only [List.mem_cons,List.not_mem_nil,or_false,not_or] at hc;exact k c o hc.2 q
 self:=fun A i s Q E st h=>by
  obtain ⟨f0,f1,old,a0,a1,he,hi⟩:=st;have hT:s.TypeIs (.ref e) "enumerate" := ⟨_,he,rfl⟩;have body:wpAny (model P w) A.in1 (ret (.ref e)) (fun fin z=>∃ v,fin=.done (.ret v)/\∃ T id,z.TypeIs v T/\typeLookup (.type T) "__next__" = pure (some id)/\Q v z) E s:=wpAny_pure ⟨_,rfl,_,_,hT,F.slot_enumerate_next.lookup,h⟩;exact wpAny_pyIter_slot hT F.slot_enumerate_iter (wpAny_call_entry F.slot_enumerate_iter hT F.entry_enumerate_iter body (F.args_enumerate_iter_1 _))
end
end L2
namespace L3
open PySem PySem.Spec PyProof.Rows L2 PySem.SeqAt
def enW (st:Int) (xs:List W):List W:=(List.range xs.length).map fun i=>W.tup [.int ((i:Nat)+st),xs.getD i .non]
def enI (ws:List W) (G:Hw) (R:List W->(Hw->Prop)->Hw->Prop):Prop:=match ws with
 | [x]=>∃ xs,wX G x=some xs/\R (enW 0 xs) (fun G'=>wX G' x=some xs) G
 |_=>False
theorem zdX:nK ⟨"enumerate", enI⟩:=by
 intro ws G R R' k h;replace h:enI ws G R:=h;show enI ws G R';unfold enI at h ⊢
 split at h
 .obtain ⟨xs,e1,h⟩:=h;exact ⟨xs,e1,k _ _ _ h⟩
 .exact h.elim
theorem zeG {sn:Int} {K:yZ} {H1:Hp} {G1:Hw} {x:W} {a:Addr} {vx:List V} {xs:List W} (rx:xN K H1 x (.ref a)) (ex:wX G1 x=some xs) (sx:rZ (sK x) K H1 a vx) (rr:zQ K H1 xs vx) :
  ItIs K (Ite sn (sK x) K a) H1 (enW sn xs) (fun G'=>wX G' x=some xs) where
 go:=fun i H G g ab st hi=>by
  obtain ⟨vx',sx',rx'⟩:=qK g ab rx ex sx rfl st rr;have h1:=rx'.length;have hi:i<xs.length:=by simpa [enW] using hi
  exact ⟨vx',vx'[i]'(by omega),sx',List.getElem?_eq_getElem _⟩
 yld:=fun i H G v H' g ab st hi yl=>by
  obtain ⟨vx',sx',rx'⟩:=qK g ab rx ex sx rfl st rr;obtain ⟨p,x',rfl,hp,rfl,e2⟩:=yl;obtain ⟨wx,ewx,rpx⟩:=rx'.get' (e2 vx' sx');have hi:i<xs.length:=by simpa [enW] using hi
  have gr:yV K H (yT H p (.tup [.int (i+sn),x'])):=yF hp;refine ⟨.tup [.int (i+sn),wx],?_,gr,⟨p,[.int (i+sn),x'],rfl,.of yY,⟨_,_,rfl,rfl,_,_,rfl,rpx.mono gr,rfl⟩⟩,ab.tup hp⟩;simp [enW,hi];rw [List.getElem?_eq_getElem hi] at ewx;exact Option.some.inj ewx
 stop:=fun i H G g ab st hi=>by
  obtain ⟨vx',sx',rx'⟩:=qK g ab rx ex sx rfl st rr;have h1:=rx'.length;have hi:xs.length<=i:=by simpa [enW] using hi
  exact ⟨vx',sx',by omega⟩
theorem it_en {q:Pr} {A:Around} (hm:q.mg "enumerate" = none):ItE (q.at A) ⟨"enumerate", enI⟩:=by
 intro X fits gl tg args t qp pos mt hn pa hnil hdb hnm;have hm':X.mg "enumerate" = none:=by rw [fits.mg];exact hm
 intro pins s σ H R I h
 cases args with
 |nil =>
  obtain ⟨σ3,G,hs,ab,h⟩:=h;exact (hnil rfl _ _ _ h).elim
 |cons a r =>
  obtain ⟨s1,s2⟩:=xY (env:=X.env) (pos:=pos) hn;obtain ⟨σ3,G,hs,ab,h⟩:=h
  have h':=kQ (S:=fun vs H1=>∃ x a1 vx,vs=[.ref a1]/\rZ (sK x) X.K H1 a1 vx/\R (Ite 0 (sK x) X.K a1) H1) mt hs ab h fun ws G1 vs H1 g1 hs1 rs a1 h=>by
   dsimp only at h;unfold enI at h
   split at h
   .rename_i x;obtain ⟨v1,rfl,r1⟩:=kR rs;obtain ⟨xs,ex,h⟩:=h;obtain ⟨p1,vx,rfl,sx,rx⟩:=uO a1 r1 ex;exact ⟨x,p1,vx,rfl,sx,h _ H1 g1 a1 (zeG r1 ex sx rx)⟩
   .exact h.elim
  refine Call_ (kB I gl hm' (by decide +kernel:bootBuiltins "enumerate" = some (.type "enumerate")) (PyProof.Rows.callWith_type1 (yI (pa pos pins s σ H _ I h') fun us s1 ⟨vs,H1,I1,r1,q1⟩=>?_) s1 s2));obtain ⟨x,a1,vx,e,sx,q⟩:=q1;subst e;obtain ⟨u1,rfl,ru1⟩:=kT r1;cases (show u1=Value.ref a1 from ru1);obtain ⟨itx,vvx,ssx,hzx⟩:=I1.sqB sx
  have lt1:a1<s1.heap.objs.size:=by
   cases hb:sK x<;>rw [hb] at ssx<;>(obtain ⟨o,ho,_⟩:=ssx;exact Heap.lt_size ho)
  refine zgM ssx fun h' z1 z2 z3=>?_;have J:Inv X pins σ H1 { s1 with heap:=h',toks:=s1.toks }:=I1.kept z3
  have hf:∀ b∈[s1.heap.objs.size+1,s1.heap.objs.size],qR X pins H1 b:=fun b hb=>by
   have hge:s1.heap.objs.size<=b:=by
    simp only [List.mem_cons,List.not_mem_nil,or_false] at hb;omega
   exact I1.fpOk hge (I1.hok.fresh hge)
  have tu:=zb8 (sn:=0) (b:=sK x) (e:=s1.heap.objs.size+1) (it:=s1.heap.objs.size) (l:=a1) X.prog X.w X.K tg (Nat.succ_ne_self _) (Nat.ne_of_lt (Nat.lt_succ_of_lt lt1)) (Nat.ne_of_lt lt1);have st:EnSt 0 (sK x) (s1.heap.objs.size+1) s1.heap.objs.size a1 0 h':=⟨.none,.bool false,.none,.inl rfl,.inl rfl,z1,z2⟩;exact tu.self X.A 0 { s1 with heap:=h' } _ _ st ⟨_,_,_,_,H1,rfl,J,tu,st,hf,q⟩
abbrev eEn:It3:=⟨"enumerate", enI⟩
theorem ziQ {q:Pr} {A:Around} (hm:q.mg "enumerate" = none):ItE (q.at A) eEn/\nK eEn:=⟨it_en hm,zdX⟩
end L3
namespace PySem
open Sem (wp)
theorem zg3 (a b:Value):checkTypeCall "enumerate" ⟨[a],[("start", b)]⟩=pure ():=by kernel_rfl
theorem zh6 (a b:Value):checkBuiltinCall "enumerate.__new__" ⟨[.type "enumerate", a],[("start", b)]⟩=pure ():=by kernel_rfl
theorem zh2 (a b c:Value):argsOk "object.__init__" ⟨[a,b],[("start", c)]⟩:=by
 unfold argsOk;rw [signature?_of (id := "object.__init__") (n := "__init__".toList.reverse) (o := "object".toList.reverse) (by kernel_rfl) F.owner_object]
 kernel_rfl
theorem zby (b:Bool) (l:Addr) (xs:Array Value) (t:Tok) :
  Meets (Builtin.«enumerate.__new__» ⟨[.type "enumerate", .ref l],[("start", .int 1 t)]⟩) (fun _ R s=>uY b s.heap l xs /\
   R (.ok (.ret (.ref (enH b s.heap l).objs.size))) { s with heap:=(enH b s.heap l).push { cls:=.type "enumerate", data:=.fields #[.none,.bool false,.ref s.heap.objs.size,rawInt 1,.none,.none] } }) :=
 .of_wp fun prog w A R s h=>by
  obtain ⟨hp,g,d,tk,os⟩:=s;obtain ⟨hl,h⟩:=h;have hsub:=sub_enumerate;have hL:uY b (Shared.heap ⟨hp,g,d,tk,os⟩) l xs:=hl
  wp_walk
  refine wpAny_stack_any fun st=>wpAny_pure ?_
  split
  .rename_i c _ _ _ _ _;cases (c==Value.type "enumerate")<;>(wp_walk using wB hL;exact ⟨_,rfl,h⟩)
  .wp_walk using wB hL
   exact ⟨_,rfl,h⟩
section
variable {prog : Program} {w : World} {A : Around} {E : Value → Shared → Prop} {s : Shared}
theorem zbq {T n:String} {self a b:Value} (hl:typeLookup (.type T) "__init__" = pure (some (.builtin "object.__init__"))) (hm:Bind.madeBy (.type T)=pure (some n)) (hne:(some n != some "object.__new__")=true) :
  Meets (Builtin.«object.__init__» ⟨[self,a],[("start", b)]⟩) (fun _ R s=>s.TypeIs self T/\R (.ok (.ret .none)) s):=by
 refine Meets.of_wp fun P W A R s z=>?_;obtain ⟨hT,hq⟩:=z
 repeat (any_goals (first|assumption|wp_step))
 exact ⟨_,rfl,hq⟩
theorem zd5 {b:Bool} {l:Addr} {xs:Array Value} {t:Tok} {Q:Value->Shared->Prop} (hl:uY b s.heap l xs)
  (h:∀ h',uT h' (s.heap.objs.size+1) s.heap.objs.size 1 .none (.bool false) .none->uX b h' s.heap.objs.size l 0->(∀ c o,s.heap.get? c=some o->h'.get? c=some o)->Q (.ref (s.heap.objs.size+1)) { s with heap:=h' }) :
  wpAny (model prog w) A (call (.type "enumerate") [.ref l] [("start", .int 1 t)]) Q E s:=by
 have ft:=F.called_enumerate;obtain ⟨c0,tl,hmro⟩:=ft.mro;have hmade:=ft.made;have hsub:=ft.sub;have n1:=ft.notType;have n2:=ft.canCreate;have hct:=zg3 (.ref l) (.int 1 t);refine wpAny_call (codeAny_of_tree ?_);show wpAny _ _ (callAny (.type "enumerate") _) _ _ _;refine wpAny_pure ⟨Code.quiet_builtin _ (by decide +kernel),codeAny_builtin F.entry_type_call ?_⟩;rw [Around.under_plain (weight_type_call_type "enumerate" [.ref l] [("start", .int 1 t)]) (units_type_call_type "enumerate" [.ref l] [("start", .int 1 t)])]
 repeat (any_goals (first|assumption|wp_step))
 have hz:(enH b s.heap l).objs.size=s.heap.objs.size+1:=Heap.size_push ..
 have he:uT ((enH b s.heap l).push { cls:=.type "enumerate", data:=.fields #[.none,.bool false,.ref s.heap.objs.size,rawInt 1,.none,.none] }) (s.heap.objs.size+1) s.heap.objs.size 1 .none (.bool false) .none:=by
  have z:=Heap.get?_push_size (enH b s.heap l) (o:={ cls:=.type "enumerate", data:=.fields #[.none,.bool false,.ref s.heap.objs.size,rawInt 1,.none,.none] }) rfl;rw [hz] at z;exact z
 have q:=h _ he ⟨_,Heap.get?_push_of_some _ (Heap.get?_push_size _ rfl),rfl,rfl⟩ fun c o x=>Heap.get?_push_of_some _ (Heap.get?_push_of_some _ x);refine codeAny_mono (codeAny_call_builtin ft.plain F.entry_enumerate_new (wpAny_of_eq (zh6 _ _) (zby b l xs t prog w A.in1 (wants (fun obj s1=>obj=.ref (s.heap.objs.size+1)/\s1.TypeIs obj "enumerate" /\ Q obj s1) E) s ⟨hl,?_⟩))) fun r s1 hr=>?_
 .rw [hz];exact ⟨rfl,⟨_,he,rfl⟩,q⟩
 cases r with
 |error e=>exact hr
 |ok fl =>
  cases fl with
  |ret obj =>
   obtain ⟨rfl,hT,hq⟩:=hr;have hli:=ft.init.lookup;have hbi:=ft.init.bind (.ref (s.heap.objs.size+1))
   repeat (any_goals (first|assumption|wp_step))
   refine codeAny_mono (codeAny_call_builtin ft.init.plain F.entry_object_init (ft.init.check _ _ _ _ _ _ _ _ hT (zh2 _ _ _) (zbq ft.init.lookup ft.made (by decide) prog w A.in1 (wants (fun r s2=>r=.none/\Q (.ref (s.heap.objs.size+1)) s2) E) s1 ⟨hT,?_⟩))) fun r2 s2 hr2=>?_
   .exact ⟨rfl,hq⟩
   cases r2 with
   |error e=>exact hr2
   |ok fl2 =>
    cases fl2 with
    |ret r =>
     obtain ⟨rfl,hq⟩:=hr2
     repeat (any_goals (first|assumption|wp_step))
    |_=>exact hr2.elim
  |_=>exact hr.elim
end
end PySem
namespace L3
open PySem PySem.Spec PyProof.Rows L2 PySem.SeqAt
theorem zd4 {M:Model} {A:Around} {E:Value->Shared->Prop} {s:Shared} {pos:Pos} {T:String} {args:List (Bool×Sem Value)} {kws:List (Option Str×Sem Value)} {Q:Value->Shared->Prop} (hp:args.any (·.1)=false) (hk:kws.any (·.1.isNone)=false)
  (h:wpAny M A (evalArgs (.type T) true args kws) (fun a s1=>wpAny M A (call (.type T) ([]++a.pos) a.kw) Q E s1) E s):wpAny M A (callWith pos (.type T) [] args kws) Q E s:=by
 unfold callWith;refine wpAny_bind (wpAny_holding (yI h fun a s1 z=>wpAny_bind (wpAny_standAt ?_)));simp only [hp,hk,Bool.or_false];exact wpAny_bind (wpAny_pure (wpAny_bind (yI z fun r s2 y=>wpAny_bind (wpAny_holding (wpAny_point (wpAny_pure y))))))
def enkM:Scope->Expr->Option (List Expr):=fun sc e=>match e with
 | .Call (.Name x _) [a] [⟨some k,.Constant (.int i) _ _,_⟩] _=>if (x==("enumerate" : Str)&&qO sc x&&k==("start" : Str)&&i==1)=true then some [a] else none
 |_=>none
theorem zdW {sc:Scope} {e:Expr} {xs:List Expr} (h:enkM sc e=some xs):∃ q a j p kp pos,xs=[a]/\e=.Call (.Name "enumerate" q) [a] [⟨some "start", .Constant (.int 1) j p,kp⟩] pos/\qO sc "enumerate" = true:=by
 unfold enkM at h
 split at h
 .rename_i x q a k i j p kp pos
  by_cases hb:(x==("enumerate" : Str)&&qO sc x&&k==("start" : Str)&&i==1)=true
  .rw [if_pos hb] at h;cases h;simp only [Bool.and_eq_true,beq_iff_eq] at hb;obtain ⟨⟨⟨rfl,h1⟩,rfl⟩,rfl⟩:=hb;exact ⟨_,_,_,_,_,_,rfl,rfl,h1⟩
  .rw [if_neg hb] at h;cases h
 .cases h
def enkI (ws:List W) (G:Hw) (R:List W->(Hw->Prop)->Hw->Prop):Prop:=match ws with
 | [x]=>∃ xs,wX G x=some xs/\R (enW 1 xs) (fun G'=>wX G' x=some xs) G
 |_=>False
theorem zb7:∀ ws G (R R':List W->(Hw->Prop)->Hw->Prop),(∀ xs st G',R xs st G'->R' xs st G')->enkI ws G R->enkI ws G R':=by
 intro ws G R R' k h;unfold enkI at h ⊢
 split at h
 .obtain ⟨xs,e1,h⟩:=h;exact ⟨xs,e1,k _ _ _ h⟩
 .exact h.elim
def IxE (p:Par) (k:Ix3):Prop:=∀ X,Fits p X->∀ (tg e:Expr) (xs:List Expr) (es:List E3),k.m X.env.scope e=some xs->tX X xs es->xs.all noStar=true->PA X xs (qC X.K (vF es)) ->
  PI X tg e (lowI X.K fun σ G R=>vF es σ G fun ws G1=>k.sp ws G1 R)
theorem ziu {q:Pr} {A:Around} (hm:q.mg "enumerate" = none):IxE (q.at A) ⟨enkM,enkI⟩:=by
 intro X fits tg e xs es he each hn pa;obtain ⟨qp,a,j,p,kp,pos,rfl,rfl,g1⟩:=zdW (sc:=X.env.scope) he;obtain ⟨gl,d1,n1⟩:=uH (X:=X) rfl g1;have hm':X.mg "enumerate" = none:=by rw [fits.mg];exact hm
 intro pins s σ H R I h;obtain ⟨s1,s2⟩:=xY (env:=X.env) (pos:=pos) hn;obtain ⟨σ3,G,hs,ab,h⟩:=h
 have h':=kQ (S:=fun vs H1=>∃ x a1 vx,vs=[.ref a1]/\rZ (sK x) X.K H1 a1 vx/\R (Ite 1 (sK x) X.K a1) H1) (xE each) hs ab h fun ws G1 vs H1 g1 hs1 rs a1 h=>by
  dsimp only at h;unfold enkI at h
  split at h
  .rename_i x;obtain ⟨v1,rfl,r1⟩:=kR rs;obtain ⟨xs,ex,h⟩:=h;obtain ⟨p1,vx,rfl,sx,rx⟩:=uO a1 r1 ex;exact ⟨x,p1,vx,rfl,sx,h _ H1 g1 a1 (zeG r1 ex sx rx)⟩
  .exact h.elim
 refine wpAny_Call_Name_kw (kB (u:=.type "enumerate") I gl hm' (by decide +kernel) ?_ n1 d1);have hA:=pa pos pins s σ H _ I h';have tr:backTo pos (starEach [a] X.env)=[(false,eval a X.env)]:=by rw [s1];rfl
 rw [tr] at hA ⊢;refine zd4 rfl rfl (evalArgs_kwB rfl (yI hA fun us s1 ⟨vs,H1,I1,r1,q1⟩=>kws_cons (wpAny_Constant_int (kws_nil ?_))));obtain ⟨x,a1,vx,e,sx,q⟩:=q1;subst e;obtain ⟨u1,rfl,ru1⟩:=kT r1;cases (show u1=Value.ref a1 from ru1);obtain ⟨itx,vvx,ssx,hzx⟩:=I1.sqB sx
 have lt1:a1<s1.heap.objs.size:=by
  cases hb:sK x<;>rw [hb] at ssx<;>(obtain ⟨o,ho,_⟩:=ssx;exact Heap.lt_size ho)
 refine zd5 (s:={ s1 with toks:=s1.toks+1 }) ssx fun h' z1 z2 z3=>?_;have J:Inv X pins σ H1 { s1 with heap:=h',toks:=s1.toks+1 }:=I1.kept z3
 have hf:∀ b∈[s1.heap.objs.size+1,s1.heap.objs.size],qR X pins H1 b:=fun b hb=>by
  have hge:s1.heap.objs.size<=b:=by
   simp only [List.mem_cons,List.not_mem_nil,or_false] at hb;omega
  exact I1.fpOk hge (I1.hok.fresh hge)
 have tu:=zb8 (sn:=1) (b:=sK x) (e:=s1.heap.objs.size+1) (it:=s1.heap.objs.size) (l:=a1) X.prog X.w X.K tg (Nat.succ_ne_self _) (Nat.ne_of_lt (Nat.lt_succ_of_lt lt1)) (Nat.ne_of_lt lt1);have st:EnSt 1 (sK x) (s1.heap.objs.size+1) s1.heap.objs.size a1 0 h':=⟨.none,.bool false,.none,.inl rfl,.inl rfl,z1,z2⟩;exact tu.self X.A 0 { s1 with heap:=h',toks:=s1.toks+1 } _ _ st ⟨_,_,_,_,H1,rfl,J,tu,st,hf,q⟩
end L3
namespace L3
open PySem PySem.Spec PyProof.Rows L2
theorem zge {Γ:Ctx3} {p:Par} (un:p.A.units+200<cLine) (fn:∀ f∈Γ.fn,qM p f) (gl:∀ g∈Γ.gl,GlE p g) (mt:∀ m∈Γ.mt,MtE p m/\uU m) (it:∀ i∈Γ.it,ItE p i/\nK i)
  (cl:∀ c∈Γ.cl,Cls p.K c.1/\∀ f∈c.2,kU p.K c.1 f) (sx:∀ k∈Γ.sx,SxE p k/\jV k.sp) (ix:∀ k∈Γ.ix,IxE p k/\∀ ws G (R R':List W->(Hw->Prop)->Hw->Prop),(∀ a b c,R a b c->R' a b c)->k.sp ws G R->k.sp ws G R'):Good Γ p where
 mono:=⟨fun f hf=>(fn f hf).2,fun m hm=>(mt m hm).2,fun i hi=>(it i hi).2,fun k hk=>(sx k hk).2,fun k hk=>(ix k hk).2⟩
 un:=un
 fn:=fun f hf=>(fn f hf).1
 gl:=gl
 mt:=fun m hm=>(mt m hm).1
 it:=fun i hi=>(it i hi).1
 cl:=cl
 sx:=fun k hk=>(sx k hk).1
 ix:=fun k hk=>(ix k hk).1
end L3
namespace L3
open PySem PySem.Spec PyProof.Rows L2 PySem.SeqAt AutoSeq1
end L3
namespace L3
open PySem PySem.Spec PyProof.Rows L2 PySem.SeqAt
structure KdS (prog:Program) (w:World) (α:Type) [DecidableEq α] where
 k:_root_.PySem.KeyKind prog w α
 vl:α->Tok->Value
 of:Value->α
 d:α
 is:∀ x t,k.is x (vl x t)=true
 sh:∀ {x v},k.is x v=true->∃ t,v=vl x t
 ofm:∀ x t,of (vl x t)=x
 sc:∀ x t,(vl x t).scannable=true
section
variable {α : Type} [DecidableEq α] {prog : Program} {w : World}
def tx (K:KdS prog w α) (e:Int×Value):α:=K.of e.2
end
section
variable {α : Type} [DecidableEq α] {prog : Program} {w : World} {K : KdS prog w α} {A : Around} {E : Value → Shared → Prop} {s : Shared} {S : Addr} {led : Bool}
end
section
variable {α : Type} [DecidableEq α] {prog : Program} {w : World} {K : KdS prog w α} {A : Around} {R : Result → Shared → Prop} {I : Addr} {fp wr : List Addr} {G : Array GenState → Array GenState → Prop} {n : Nat} {P : Nat → Value → Prop} {St : Nat → Shared → Prop} {S : Addr} {led : Bool}
end
section
variable {prog : Program} {w : World} {s : Shared} {A : Around} {E : Value → Shared → Prop}
end
namespace SI
end SI
section
variable {α : Type} [DecidableEq α] {prog : Program} {w : World} {K : KdS prog w α} {A : Around} {E : Value → Shared → Prop} {s : Shared} {I S : Addr} {first : Value} {i n ep : Nat} {led : Bool} {o : Obj} {es : Array (Int × Value)} {t : SetTable}
theorem uR {β:Type} {B:Around} {Q:β->Shared->Prop} {Er:Value->Shared->Prop} (hh:B.handled=none) (h:∀ (h':Heap) (e:Addr),(∀ b o,s.heap.get? b=some o->h'.get? b=some o)->Shared.TypeIs { s with heap:=h' } (.ref e) "StopIteration" -> Er (.ref e) { s with heap:=h' }) :
  wpAny (model prog w) B (do raiseNew (← newExc (.type "StopIteration") []):Sem β) Q Er s:=by
 refine wpAny_bind ?_;simp only [newExc,newTuple];refine wpAny_bind (wpAny_newObj_type ?_ (by size_fits));refine wpAny_bind (m:=firstArgMember _ _) (wpAny_of_eq (a:=Value.none) (by first|rfl|(simp only [firstArgMember];rfl)) ?_);refine wpAny_newObj_type ?_ (by size_fits);simp only [raiseNew];refine wpAny_bind (wpAny_handled ?_);rw [hh];refine wpAny_bind (wpAny_pure (wpAny_throw ?_));exact h _ _ (fun b o e=>Heap.get?_push_of_some _ (Heap.get?_push_of_some _ e)) ⟨_,Heap.get?_push_size _ rfl,rfl⟩
end
section
variable {α : Type} [DecidableEq α] {prog : Program} {w : World} {K : KdS prog w α} {A : Around} {I S T : Addr} {ep : Nat} {led : Bool} {o : Obj} {es : Array (Int × Value)} {t : SetTable}
end
section
variable {α : Type} [DecidableEq α] {prog : Program} {w : World} {K : KdS prog w α} {A : Around} {E : Value → Shared → Prop} {s : Shared} {S : Addr} {ep : Nat} {o : Obj} {es : Array (Int × Value)} {t : SetTable}
end
section
variable {α : Type} [DecidableEq α] {prog : Program} {w : World} {K : KdS prog w α} {A : Around} {E : Value → Shared → Prop} {s : Shared} {S : Addr} {ep : Nat} {o : Obj} {es : Array (Int × Value)} {t : SetTable}
end
section
variable {prog : Program} {w : World} {A : Around} {E : Value → Shared → Prop} {s : Shared}
end
section
variable {X : Cx}
theorem hX {K:yZ} {H:Hp}:∀ (ss:List Str),zQ K H (ss.map .str) (ss.map .str)
 | []=>rfl
 |x::ss=>⟨.str x,_,rfl,rfl,hX ss⟩
end
end L3
namespace L3
open PySem PySem.Spec PyProof.Rows L2 PySem.SeqAt PySem.Builtin PySem.Builtin.Str
theorem za5 {prog:Program} {w:World} {A:Around} {E:Value->Shared->Prop} {s:Shared} {x y:Str} {t u:Tok} {Q:Value->Shared->Prop} (hy:(y.length==0)=false) (hsz:x.length<=sizeLine)
  (hsz2:(partsBetween x (occurrences x y 0 x.length (x.length+1)) y.length).length<=sizeLine)
  (hq:∀ l k,l.map (·.1)=Txt.split x y->Q (.ref s.heap.objs.size) { s with heap:=s.heap.push { cls:=.type "list", data:=.seq (strValues l).toArray },toks:=k }) :
  wpAny (model prog w) A (call (.builtin "str.split") [.str x t,.str y u]) Q E s:=by
 cases h1:(decide (x.length<y.length) || decide (strKind x<strKind y))
 .cases hf:(occurrences x y 0 x.length (x.length+1)).isEmpty
  .refine call_meets F.slot_str_split (typeIs_str _ _ _) F.entry_str_split (F.args_str_split_2 _ _) (meets_str_split_sep x y t u h1 hy hf hsz hsz2) ?_;show wants Q E _ { s with toks:=_,heap:=s.heap.push { cls:=.type "list", data:=.seq (strsFrom s.toks (partsBetween x (occurrences x y 0 x.length (x.length+1)) y.length)).toArray } };rw [strsFrom_eq];exact hq (numbered s.toks _) _ ((numbered_texts _ _).trans ((if_neg (ne_true_of_eq_false h1)).trans (if_neg (ne_true_of_eq_false hf))).symm)
  .exact call_meets F.slot_str_split (typeIs_str _ _ _) F.entry_str_split (F.args_str_split_2 _ _) (meets_str_split_not_found x y t u h1 hy hf) (hq [(x,t)] s.toks ((if_neg (ne_true_of_eq_false h1)).trans (if_pos hf)).symm)
 .exact call_meets F.slot_str_split (typeIs_str _ _ _) F.entry_str_split (F.args_str_split_2 _ _) (meets_str_split_cannot_occur x y t u h1) (hq [(x,t)] s.toks (if_pos h1).symm)
theorem vU (x y:Str):(Txt.split x y).length<=x.length+2:=by
 unfold Txt.split
 split
 .simp
 .split
  .simp
  .rw [length_partsBetween];have:=StrLaws.occ_length_le x y 0 x.length (x.length+1);omega
def tQ:MS:=fun x ws G Q=>match x,ws with
 | .str x,[.str y]=>(y.length==0)=false/\x.length<=1000000/\∀ r,G r=none->Q (.ref r) (put G r (.lst ((Txt.split x y).map .str)))
 |_,_=>False
theorem sR:∀ x ws G (Q Q':Q3),(∀ w G',Q w G'->Q' w G')->tQ x ws G Q->tQ x ws G Q':=by
 intro x ws G Q Q' k h;unfold tQ at h ⊢
 split at h
 .exact ⟨h.1,h.2.1,fun r hr=>k _ _ (h.2.2 r hr)⟩
 .exact h.elim
theorem rH:∀ (l:List (Str×Tok)),zF ((l.map (·.1)).map V.str) (strValues l)
 | []=>.nil
 | (x,t)::l=>.cons ⟨t,rfl⟩ (rH l)
theorem zcU {X:Cx}:MtR X "str.split" (lowM X.K tQ):=by
 intro pins s σ H x xs v us Q I rx rxs h;obtain ⟨w,ws,G,rw1,rs,ab,h⟩:=h;unfold tQ at h
 split at h
 .rename_i x' y;cases (show x=.str x' from rw1);obtain ⟨z,rfl,rz⟩:=kR rs;cases (show z=.str y from rz);obtain ⟨u,rfl,ru⟩:=kT rxs;obtain ⟨t',rfl⟩:=ru;obtain ⟨t,rfl⟩:=rx;obtain ⟨hy,hx,h⟩:=h;have hl:=vU x' y;refine wF I.tk (za5 hy (by rw [sizeLine_eq];omega) (by rw [length_partsBetween,sizeLine_eq];have:=StrLaws.occ_length_le x' y 0 x'.length (x'.length+1);omega) fun l k e h0=>?_);have hn:H s.heap.objs.size=none:=I.hok.fresh (zzR _);refine ⟨.ref s.heap.objs.size,_,I.laid (o:=.lst ((Txt.split x' y).map .str)) (fun b ob q=>Heap.get?_push_of_some _ q) (zzR _) ⟨by rw [zzM,sizeLine_eq];omega,strValues l,0,by rw [← e];exact rH l,Heap.get?_push_size _ rfl⟩ h0,rfl,jD ab (hX _) h _ hn⟩
 .exact h.elim
abbrev sX:Mt3:=⟨"split", "str", tQ⟩
theorem zb5 {q:Pr} {A:Around}:MtE (q.at A) sX/\uU sX:=⟨tK PySem.F.plainAttrs_str PySem.F.slot_str_split PySem.F.type_str_split (fun X f=>zcU) sR,sR⟩
end L3
namespace L2
open PySem
theorem ze9 {α:Type} {M:Model} {Γ:Ctx}:∀ (t:Sem α) (p:Pos) (s:Shared),¬ Sem.wp M Γ t (fun _ _ _=>False) (fun _ _ _=>False) p s:=by
 intro t
 induction t with
 |pure a=>intro p s z;rw [Sem.wp] at z;exact z
 |raise e=>intro p s z;rw [Sem.wp] at z;exact z
 |unsupported _=>intro p s z;rw [Sem.wp] at z;exact z
 |finish _=>intro p s z;rw [Sem.wp] at z;exact z
 |register _ _ _=>intro p s z;rw [Sem.wp] at z;exact z
 | «yield» _ _ _ _ _=>intro p s z;rw [Sem.wp] at z;exact z
 |load a part k ih=>intro p s z;rw [Sem.wp] at z;obtain ⟨o,e,z⟩:=z;exact ih o p s z
 |update a part f k ih=>intro p s z;rw [Sem.wp] at z;exact ih () p _ z.2
 |fresh k ih=>intro p s z;rw [Sem.wp] at z;exact ih _ p _ z
 |choose src m k ih=>intro p s z;rw [Sem.wp] at z;exact ih _ p _ z.2
 |genState g k ih=>intro p s z;rw [Sem.wp] at z;obtain ⟨st,e,z⟩:=z;exact ih _ p s z
 |resume g r l k ih=>intro p s z;rw [Sem.wp] at z;obtain ⟨res,s',w,z⟩:=z;exact ih _ p s' z
 |call c hd g l k ih=>intro p s z;rw [Sem.wp] at z;obtain ⟨r,s',w,z⟩:=z;exact ih _ p s' z
 |_=>first|(intro p s z;rw [Sem.wp] at z;exact z.elim)|(rename_i ih;intro p s z;rw [Sem.wp] at z;exact ih _ _ _ z)
theorem zap {α β:Type} {M:Model} {A:Around} {t:Sem α} {s:Shared} (h:wpAny M A t (fun _ _=>False) (fun _ _=>False) s) {u:Sem β} {Q:β->Shared->Prop} {E:Value->Shared->Prop}:wpAny M A u Q E s:=fun Γ p hΓ=>(ze9 t p s (h Γ p hΓ)).elim
end L2
namespace L3
open PySem PySem.Spec PyProof.Rows L2 PySem.SeqAt PySem.Builtin PySem.Builtin.Str
def mL:List (Option Str)->List Expr->Option (List Expr)
 | [],[]=>some []
 |some a::ps,.Constant (.str b) _ _::vs=>if a==b then mL ps vs else none
 |none::ps,.FormattedValue v c sp _::vs=>if (c==-1&&sp.isNone)=true then (mL ps vs).map (v::·) else none
 |_,_=>none
def qS:List (Option Str)->List Str->Str
 | [],_=>Str.empty
 |some a::ps,ts=>a++qS ps ts
 |none::ps,t::ts=>t++qS ps ts
 |none::ps,[]=>qS ps []
def vB (ps:List (Option Str)):Scope->Expr->Option (List Expr):=fun _ e=>match e with
 | .JoinedStr (a::b::r) _=>mL ps (a::b::r)
 |_=>none
theorem zdM {ps:List (Option Str)} {sc:Scope} {e:Expr} {xs:List Expr} (h:vB ps sc e=some xs):∃ a b r p,e=.JoinedStr (a::b::r) p/\mL ps (a::b::r)=some xs:=by
 unfold vB at h
 split at h
 .exact ⟨_,_,_,_,rfl,h⟩
 .cases h
def zhl (env:Env):List Expr->Sem Unit
 | []=>pure ()
 |x::xs=>eval x env >>= fun _=>zhl env xs
theorem rA {X:Cx} (hx:X.xe=fun _ _=>False):∀ (xs:List Expr) (es:List E3) (pins:List (Addr×Obj)) (s:Shared) (τ:L2.St) (H:Hp) (σ:xD) (G:Hw),tX X xs es->Inv X pins τ H s->zB X.K H σ τ->yC X.K H G->vF es σ G (fun _ _=>False) ->
  wpAny (model X.prog X.w) X.A (zhl X.env xs) (fun _ _=>False) (fun _ _=>False) s
 | [],[],_,_,_,_,_,_,_,_,_,_,h=>h.elim
 | [],_::_,_,_,_,_,_,_,e,_,_,_,_=>e.elim
 |_::_,[],_,_,_,_,_,_,e,_,_,_,_=>e.elim
 |x::xs,e::es,pins,s,τ,H,σ,G,⟨m,pe,r⟩,I,hs,ab,h=>by
  have w:=pe pins s τ H (fun v H1=>∃ G1,zB X.K H1 σ τ/\yC X.K H1 G1/\vF es σ G1 (fun _ _=>False)) I (yE m hs ab h fun w G1 v H1 g1 hs1 rw1 a1 h=>⟨G1,hs1,a1,xE r σ G1 _ _ (fun _ _ z=>z) h⟩);rw [hx] at w;exact wpAny_bind (yI w fun v s1 ⟨_,H1,I1,_,G1,hs1,a1,h1⟩=>rA hx xs es pins s1 τ H1 σ G1 r I1 hs1 a1 h1)
theorem zcv (a b c:Str):a++b++c=a++(b++c):=by
 show (⟨(a.cps++b.cps)++c.cps⟩:Str)=⟨a.cps++(b.cps++c.cps)⟩;rw [Array.append_assoc]
theorem zeT (a:Str):a++Str.empty=a:=by
 show (⟨a.cps++#[]⟩:Str)=a;rw [Array.append_empty]
theorem ziR (a:Str):Str.empty++a=a:=by
 show (⟨#[]++a.cps⟩:Str)=a;rw [Array.empty_append]
def FstK (X:Cx) (ps:List (Option Str)) (acc:Str) (H:Hp) (Q:VK) (ws:List W) (G':Hw):Prop:=∃ ts:List Str,ws=ts.map .str/\acc.length+(qS ps ts).length<=1000000/\∀ H',yV X.K H H'->yC X.K H' G'->Q (.str (acc++qS ps ts)) H'
theorem zbX {X:Cx} (hx:X.xe=fun _ _=>False):∀ (ps:List (Option Str)) (vs xs:List Expr) (es:List E3) (acc:Str) (pins:List (Addr×Obj)) (s:Shared) (τ:L2.St) (H:Hp) (σ:xD) (G:Hw) (Q:VK),mL ps vs=some xs->tX X xs es->Inv X pins τ H s->zB X.K H σ τ->yC X.K H G ->
  vF es σ G (FstK X ps acc H Q)->Joins (model X.prog X.w) X.A X.xe (evalEach vs X.env) acc (fun out s1=>out.length<=sizeLine/\EP X pins τ Q (.str out s1.toks) { s1 with toks:=s1.toks+1 }) s:=by
 intro ps
 induction ps with
 |nil =>
  intro vs xs es acc pins s τ H σ G Q hp each I hs ab h
  cases vs with
  |cons _ _=>cases hp
  |nil =>
   cases hp
   cases es with
   |cons _ _=>exact each.elim
   |nil =>
    obtain ⟨ts,e,l,q⟩:=h;have q:=q H .refl ab;dsimp only [qS] at q l;rw [zeT] at q;exact ⟨by rw [sizeLine_eq];omega,.str acc,H,I.tok _,⟨_,rfl⟩,q⟩
 |cons p ps ih =>
  intro vs xs es acc pins s τ H σ G Q hp each I hs ab h
  cases p with
  |some a =>
   obtain ⟨j,po,vs',rfl,hq⟩:∃ j po vs',vs=.Constant (.str a) j po::vs'/\mL ps vs'=some xs:=by
    unfold mL at hp
    split at hp
    .rename_i e;cases e
    .rename_i b j po vs' e;cases e
     split at hp
     .rename_i e;cases eq_of_beq e;exact ⟨_,_,_,rfl,hp⟩
     .cases hp
    .rename_i e;cases e
    .cases hp
   show wpAny _ _ (eval (.Constant (.str a) j po) X.env) _ _ s
   by_cases hl:acc.length+a.length<=1000000
   .refine Calls.Constant_str ⟨a,_,rfl,by rw [strLen_append,sizeLine_eq];omega,ih vs' xs es (acc++a) pins _ τ H σ G Q hq each (I.tok _) hs ab (xE each σ G _ _ (fun ws G' z=>?_) h)⟩;obtain ⟨ts,e,l,q⟩:=z;dsimp only [qS] at l q;rw [strLen_append] at l;exact ⟨ts,e,by rw [strLen_append];omega,fun H' g a'=>by rw [zcv];exact q H' g a'⟩
   .refine zap (rA hx xs es pins s τ H σ G each I hs ab (xE each σ G _ _ (fun ws G' z=>?_) h));obtain ⟨ts,e,l,q⟩:=z;dsimp only [qS] at l;rw [strLen_append] at l;omega
  |none =>
   obtain ⟨v,po,vs',xs',rfl,rfl,hq⟩:∃ v po vs' xs',vs=.FormattedValue v (-1) none po::vs'/\xs=v::xs'/\mL ps vs'=some xs':=by
    unfold mL at hp
    split at hp
    .rename_i e;cases e
    .rename_i e;cases e
    .rename_i v c sp po vs' e;cases e
     split at hp
     .rename_i e;simp only [Bool.and_eq_true,beq_iff_eq,Option.isNone_iff_eq_none] at e;obtain ⟨rfl,rfl⟩:=e
      cases hq:mL ps vs' with
      |none=>rw [hq] at hp;cases hp
      |some ys=>rw [hq] at hp;cases hp;exact ⟨_,_,_,_,rfl,rfl,hq⟩
     .cases hp
    .cases hp
   cases es with
   |nil=>exact each.elim
   |cons e es =>
    obtain ⟨m,pe,r⟩:=each;show wpAny _ _ (eval (.FormattedValue v (-1) none po) X.env) _ _ s
    refine wpAny_FormattedValue_plain (yI (pe pins s τ H (fun v' H1=>∃ w G1,xN X.K H1 w v'/\zB X.K H1 σ τ/\yC X.K H1 G1/\yV X.K H H1/\vF es σ G1 fun ws G'=>FstK X (none::ps) acc H Q (w::ws) G') I
     (yE m hs ab h fun w G1 v' H1 g1 hs1 rw1 a1 h=>⟨w,G1,rw1,hs1,a1,g1,h⟩)) fun u s1 ⟨v',H1,I1,ru,w,G1,rw1,hs1,a1,g1,h1⟩=>?_)
    by_cases hw:∃ y,w=.str y/\acc.length+y.length<=1000000
    .obtain ⟨y,rfl,hl⟩:=hw;cases (show v'=.str y from rw1);obtain ⟨t,rfl⟩:=ru;have hy:y.length<=sizeLine:=by rw [sizeLine_eq];omega
     have go:∀ s2,Inv X pins τ H1 s2->Joins (model X.prog X.w) X.A X.xe (evalEach vs' X.env) (acc++y) (fun out s1=>out.length<=sizeLine/\EP X pins τ Q (.str out s1.toks) { s1 with toks:=s1.toks+1 }) s2:=fun s2 I2 =>
      ih vs' xs' es (acc++y) pins s2 τ H1 σ G1 Q hq r I2 hs1 a1 (xE r σ G1 _ _ (fun ws G' z=>by
       obtain ⟨ts,e,l,q⟩:=z
       cases ts with
       |nil=>cases e
       |cons t ts =>
        rw [zzU] at e
        injection e with e1 e2
        cases e1;dsimp only [qS] at l q;rw [strLen_append] at l;exact ⟨ts,e2,by rw [strLen_append];omega,fun H' g a'=>by rw [zcv];exact q H' (g1.trans g) a'⟩) h1)
     have hz:(acc++y).length<=sizeLine:=by rw [strLen_append,sizeLine_eq];omega
     exact wpAny_formatField_str ⟨y,_,rfl,hz,go s1 I1⟩ ⟨y,_,rfl,hz,go _ (I1.tok _)⟩ hy
    .refine zap (rA hx xs' es pins s1 τ H1 σ G1 r I1 hs1 a1 (xE r σ G1 _ _ (fun ws G' z=>hw ?_) h1));obtain ⟨ts,e,l,q⟩:=z
     cases ts with
     |nil=>cases e
     |cons t ts =>
      rw [zzU] at e
      injection e with e1 e2
      dsimp only [qS] at l;rw [strLen_append] at l;exact ⟨t,e1,by omega⟩
def mM (ps:List (Option Str)):RS:=fun ws G Q=>∃ ts:List Str,ws=ts.map .str/\(qS ps ts).length<=1000000/\Q (.str (qS ps ts)) G
theorem vS {ps:List (Option Str)}:jV (mM ps):=fun ws G Q Q' k ⟨ts,e,l,h⟩=>⟨ts,e,l,k _ _ h⟩
theorem fM {q:Pr} {A:Around} {ps:List (Option Str)}:SxE (q.at A) ⟨vB ps,mM ps⟩:=by
 intro X fits e xs es he each hn pa;obtain ⟨a,b,r,p,rfl,he⟩:=zdM (sc:=X.env.scope) he;refine ⟨fun pins s τ H Q I h=>?_,fun _=>rfl,fun _ _ _ z=>nomatch z⟩;obtain ⟨σ,G,hs,ab,h⟩:=h;refine wpAny_JoinedStr (zbX fits.xe ps _ xs es Str.empty pins s τ H σ G Q he each I hs ab (xE each σ G _ _ (fun ws G' z=>?_) h));obtain ⟨ts,e,l,q⟩:=z;exact ⟨ts,e,by rw [show Str.empty.length=0 from rfl];omega,fun H' g a'=>by rw [ziR];exact q _ H' g rfl a'⟩
def tW (c:Nat):List Nat->List (List Nat)
 | []=>[[]]
 |k::r=>if k=c then []::tW c r else match tW c r with
  |h::t=>(k::h)::t
  | []=>[[k]]
theorem zeO (c:Nat):∀ l,tW c l≠[]
 | []=>by simp [tW]
 |k::r=>by
  unfold tW
  split
  .simp
  .split<;>simp
theorem nV {c:Nat}:∀ {l:List Nat},c∉l->tW c l=[l]
 | [],_=>rfl
 |k::r,h=>by
  simp only [List.mem_cons,not_or] at h;unfold tW;rw [if_neg (Ne.symm h.1),nV h.2]
theorem zch {c:Nat}:∀ (a b:List Nat),tW c (a++c::b)=tW c a++tW c b
 | [],b=>by show tW c (c::b)=[[]]++tW c b;rw [tW,if_pos rfl];rfl
 |k::a,b=>by
  show tW c (k::(a++c::b))=tW c (k::a)++tW c b;rw [tW,zch a b,tW]
  split
  .rfl
  .cases h:tW c a with
   |nil=>exact absurd h (zeO c a)
   |cons x t=>rfl
theorem nW {c:Nat}:∀ (ps:List Str),ps≠[]->(∀ p∈ps,c∉p.cps.toList)->tW c (Str.join ⟨#[c]⟩ ps).cps.toList=ps.map (·.cps.toList)
 | [],h,_=>absurd rfl h
 | [p],_,h=>nV (h p zzT)
 |p::q::r,_,h=>by
  have ih:=nW (q::r) (by simp) fun a ha=>h a (List.mem_cons_of_mem _ ha);show tW c (p++⟨#[c]⟩++Str.join ⟨#[c]⟩ (q::r)).cps.toList=_;rw [Str.cps_append,Str.cps_append,Array.toList_append,Array.toList_append,List.append_assoc];show tW c (p.cps.toList++c::(Str.join ⟨#[c]⟩ (q::r)).cps.toList)=_;rw [zch,ih,nV (h p zzT)];rfl
theorem zcV (x:Str) (c:Nat):Txt.split x ⟨#[c]⟩≠[]:=by
 unfold Txt.split
 split
 .simp
 .split
  .simp
  .intro h;have:=congrArg List.length h;rw [length_partsBetween] at this;simp at this
theorem hV (x:Str) (c:Nat):(Txt.split x ⟨#[c]⟩).map (·.cps.toList)=tW c x.cps.toList:=by
 have h:=nW (c:=c) (Txt.split x ⟨#[c]⟩) (zcV x c) (StrLaws.split_free x c);rw [StrLaws.join_split] at h;exact h.symm
theorem bZ (x:Str) (c:Nat):Txt.split x ⟨#[c]⟩=(tW c x.cps.toList).map fun l=>⟨l.toArray⟩:=by
 rw [← hV,List.map_map]
 conv=>lhs;rw [← List.map_id (Txt.split x ⟨#[c]⟩)]
 exact List.map_congr_left fun a _=>by simp
def wd (l:List Nat):List (List Nat):=(tW 32 l).filter fun w=>!w.isEmpty
end L3
namespace L3
open PySem PySem.Spec PyProof.Rows L2 PySem.SeqAt
def popA:MS:=fun x ws G Q=>∃ p xs k y,x=.ref p/\ws=[.int ((k:Nat):Int)]/\G p=some (.lst xs)/\xs.length<=1000/\xs[k]?=some y/\Q y (put G p (.lst (xs.eraseIdx k)))
theorem gR:∀ x ws G (Q Q':Q3),(∀ w G',Q w G'->Q' w G')->popA x ws G Q->popA x ws G Q':=fun x ws G Q Q' k ⟨p,xs,j,y,h1,h2,h3,h4,h5,h⟩=>⟨p,xs,j,y,h1,h2,h3,h4,h5,k _ _ h⟩
theorem zQ.erase {K:yZ} {H:Hp}:∀ {ws:List W} {vs:List V} (k:Nat),zQ K H ws vs->zQ K H (ws.eraseIdx k) (vs.eraseIdx k)
 | [],vs,k,r=>by cases (show vs=[] from r);exact rfl
 |w::ws,vs,0,⟨v,r,e,_,h⟩=>by subst e;exact h
 |w::ws,vs,k+1,⟨v,r,e,h1,h2⟩=>by subst e;exact ⟨v,_,rfl,h1,zQ.erase k h2⟩
theorem zfz {X:Cx}:MtR X "list.pop" (lowM X.K popA):=by
 intro pins s σ H x xs v us Q I rx rxs h;obtain ⟨w,ws,G,rw1,rs,ab,p,ys,k,y,rfl,rfl,e,hl,ey,h⟩:=h;cases (show x=.ref p from rw1);obtain ⟨z,rfl,rz⟩:=kR rs;cases (show z=.int k from rz);obtain ⟨vs,ev,rr⟩:=ab.lst e;obtain ⟨vy,evy,ry⟩:=rr.get ey;have gr:yV X.K H (yT H p (.lst (vs.eraseIdx k))):=ab.grow e;have lk:k<ys.length:=(List.getElem?_eq_some_iff.mp ey).1;have lv:=rr.length;exact zdo pins s σ H _ _ v us Q I rx rxs ⟨p,vs,k,k,vy,rfl,rfl,ev,by omega,by omega,by unfold seqIndex?;split<;>simp<;>omega,evy,h vy _ gr (ry.mono gr) (ab.chg e ⟨_,rfl,(zQ.erase k rr).mono gr⟩)⟩
abbrev zdZ:Mt3:=⟨"pop", "list", popA⟩
theorem zdT {q:Pr} {A:Around}:MtE (q.at A) zdZ/\uU zdZ:=⟨tK PySem.F.plainAttrs_list PySem.F.slot_list_pop PySem.F.type_list_pop (fun X f=>zfz) gR,gR⟩
end L3
namespace L3
open PySem PySem.Spec PyProof.Rows L2 HT
section
variable {prog : Program} {w : World} {A : Around} {E : Value → Shared → Prop} {s : Shared}
end
end L3
namespace L3
open PySem PySem.Spec PyProof.Rows L2 PySem.SeqAt
section
variable {prog : Program} {w : World} {A : Around} {E : Value → Shared → Prop} {s : Shared}
end
section
variable {X : Cx}
theorem vW {K:yZ} {H:Hp}:∀ {ns:List Int} {vs:List V} {us:List Value},zQ K H (ns.map .int) vs->zF vs us->IntsAre us ns
 | [],vs,us,r,v=>by cases (show vs=[] from r);cases v;exact .nil
 |x::ns,vs,us,r,v=>by
  obtain ⟨y,tl,rfl,ry,rt⟩:=r;cases (show y=.int x from ry)
  cases v with
  |cons a c =>
   obtain ⟨tk,rfl⟩:=a;exact .cons x tk (vW rt c)
end
mutual
def dOf:W->PyData
 | .str x=>.str x
 | .tup ws=>.tuple (dOfs ws)
 |_=>.none
def dOfs:List W->List PyData
 | []=>[]
 |w::ws=>dOf w::dOfs ws
end
mutual
def tt:W->Bool
 | .str _=>true
 | .tup ws=>tts ws
 |_=>false
def tts:List W->Bool
 | []=>true
 |w::ws=>tt w&&tts ws
end
section
variable {X : Cx} {pins : List (Addr × Obj)} {σ : L2.St} {H : Hp} {s : Shared}
end
end L3
namespace L3
open PySem PySem.Spec PyProof.Rows L2
def emM:Scope->Expr->Option (List Expr):=fun _ e=>match e with
 | .Dict [] [] _=>some []
 |_=>none
def emS:RS:=fun ws G Q=>match ws with
 | []=>∀ p,G p=none->Q (.ref p) (put G p (.dic []))
 |_=>False
theorem zdY:jV emS:=by
 intro ws G Q Q' k h;unfold emS at h ⊢
 split at h
 .exact fun p hp=>k _ _ (h p hp)
 .exact h.elim
theorem zgy {sc:Scope} {e:Expr} {xs:List Expr} (h:emM sc e=some xs):∃ pos,e=.Dict [] [] pos/\xs=[]:=by
 unfold emM at h
 split at h
 .cases h;exact ⟨_,rfl,rfl⟩
 .cases h
theorem sx_em {q:Pr} {A:Around}:SxE (q.at A) ⟨emM,emS⟩:=by
 intro X fits e xs es he each hn pa;obtain ⟨pos,rfl,rfl⟩:=zgy (sc:=X.env.scope) he
 match es,each with
 | [],each =>
  refine ⟨fun pins s σ H Q I h=>?_,fun _=>rfl,fun _ _ _ z=>nomatch z⟩;obtain ⟨σ3,G,hs,ab,h⟩:=h;have h:∀ p,G p=none->jL X.K H Q (.ref p) (put G p (.dic [])):=h;refine zdi pins s σ H Q I fun p hp=>?_;exact h p (ab.free hp) _ _ (yF hp) rfl (ab.new hp ⟨[],rfl,rfl⟩)
end L3
namespace L3
open PySem PySem.Spec PyProof.Rows L2 PySem.SeqAt
theorem ziq {prog:Program} {w:World} {A:Around} {E:Value->Shared->Prop} {s:Shared} {d:Addr} {o:Obj} {es:Array DictEntry} {ep:Nat} {Q:Value->Shared->Prop} (hd:(d==sysModules)=false) (ho:s.heap.get? d=some o) (hx:o.ExactDict) (hdat:o.data=.dict es ep) (hz:(es.size:Int)<2 ^ 63)
  (h:Q (.int es.size (s.toks+1)) { s with toks:=s.toks+1+1 }):wpAny (model prog w) A (call (.builtin "len") [.ref d]) Q E s:=by
 have hT:s.TypeIs (.ref d) "dict" := ⟨o,ho,hx.1⟩
 have m:MeetsIn prog w (Builtin.«dict.__len__» ⟨[.ref d],[]⟩) (fun _ R z=>z=s/\R (.ok (.ret (.int es.size z.toks))) { z with toks:=z.toks+1 }):=.of_wp fun A' R z ⟨e,y⟩=>by
  subst e;show wpAny _ _ (dictSize d >>= _) _ _ z;unfold dictSize;refine wpAny_bind (wpAny_bind (wpAny_dictEntries ho hdat (wpAny_pure ?_)));show wpAny _ _ (Builtin.Dict.pendingCount d >>= _) _ _ z;refine wpAny_bind (wpAny_pendingCount_other hd (wpAny_ret_mkInt ?_));simpa using y
 refine Calls.call_function_entry kind_len plain_len entry_len (args_len1 _) ?_;unfold Builtin.«len»;refine wpAny_bind (m:=oneArg "len" _) (wpAny_pure ?_);refine wpAny_bind (m:=callSpecial? (.ref d) (Str.ofString "__len__")) (wpAny_callSpecial?_slot (name:=Str.ofString "__len__") hT F.slot_dict_len (call_meetsIn F.slot_dict_len hT F.entry_dict_len (F.args_dict_len_1 _) m ⟨rfl,?_⟩));show wpAny _ _ _ _ _ { s with toks:=s.toks+1 };refine wpAny_bind (wpAny_holding (wpAny_pure (wpAny_bind (wpAny_letGo ?_))));show wpAny _ _ (if ((es.size:Nat):Int)<0 then _ else if ((es.size:Nat):Int)>=2 ^ 63 then _ else _) _ _ _;rw [if_neg (by omega),if_neg (by omega)];exact wpAny_bind (wpAny_mkInt (wpAny_pure ⟨_,rfl,h⟩))
theorem gH:∀ {es:List DictEntry} {ks:List Str} {vs:List V},zd9 es ks vs->es.length=ks.length
 | [],ks,vs,h=>by rw [h.1];rfl
 |e::r,ks,vs,⟨k,t,v,ks',vs',e1,e2,_,_,h⟩=>by rw [e1];simp [gH h]
def lenG:RS:=fun ws G Q=>∃ ks ws',ws=[.dcf ks ws']/\Q (.int (ks.length:Nat)) G
theorem gI:jV lenG:=fun ws G Q Q' k ⟨ks,ws',e,h⟩=>⟨ks,ws',e,k _ _ h⟩
theorem zfV {X:Cx}:wC X (.builtin "len") (sG X.K lenG):=by
 intro pins s σ H xs us Q I r h;obtain ⟨ws,G,rs,ab,ks,ws',rfl,h⟩:=h;obtain ⟨v,rfl,rv⟩:=kR rs;obtain ⟨a,vs,rfl,⟨o,es,ep,l,hx,hd,hz,hm,hr⟩,_⟩:=rv;obtain ⟨u,rfl,ru⟩:=kT r;cases (show u=Value.ref a from ru);have e:es.size=ks.length:=by rw [← gH hr];simp
 refine ziq hm (I.kIn _ _ l) hx hd (by rw [sizeLine_eq] at hz;omega) ?_;rw [e];exact ⟨.int ks.length,H,I.tok _,⟨_,rfl⟩,h _ H .refl rfl ab⟩
abbrev zgz:Fn3:=⟨"len", fun ws G Q _=>lenG ws G Q⟩
theorem zdU {q:Pr} {A:Around} (hm:q.mg "len" = none):qM (q.at A) zgz:=⟨nY (id := "len") hm (by decide +kernel) (fun X f=>zfV) gI (fun _ _ ⟨_,_,e,_⟩=>nomatch e),fun ws G Q Q' _ k h=>gI ws G Q Q' k h⟩
end L3
namespace L3
open PySem PySem.Spec PyProof.Rows L2
def tT:MS:=fun x ws G Q=>match x,ws with
 | .str x,[]=>x.length<=1000000/\Q (.str (Txt.strip x)) G
 |_,_=>False
theorem sS:∀ x ws G (Q Q':Q3),(∀ w G',Q w G'->Q' w G')->tT x ws G Q->tT x ws G Q':=by
 intro x ws G Q Q' k h;unfold tT at h ⊢
 split at h
 .exact ⟨h.1,k _ _ h.2⟩
 .exact h.elim
theorem zcM {X:Cx}:MtR X "str.strip" (lowM X.K tT):=by
 intro pins s σ H x xs v us Q I rx rxs h;obtain ⟨w,ws,G,rw1,rs,ab,h⟩:=h;unfold tT at h
 split at h
 .rename_i y;cases (show x=.str y from rw1);cases (show xs=[] from rs);cases rxs;obtain ⟨t,rfl⟩:=rx;exact wF I.tk (SC.strip (fun t' k h0=>⟨.str (Txt.strip y),H,I.tok _ h0,⟨t',rfl⟩,h.2 _ H .refl rfl ab⟩) (by rw [sizeLine_eq];omega))
 .exact h.elim
abbrev dI:Mt3:=⟨"strip", "str", tT⟩
theorem zb4 {q:Pr} {A:Around}:MtE (q.at A) dI/\uU dI:=⟨tK PySem.F.plainAttrs_str PySem.F.slot_str_strip PySem.F.type_str_strip (fun X f=>zcM) sS,sS⟩
end L3
namespace K17
open PySem PySem.Spec L2 L3
def top (i:Nat):Stmt:=PySem.Challenge.pw_talkcourt_k17_books_refused.main.body.getD i (.Pass ⟨0,0,0,0⟩)
def gls:List Str:=["CHOICES", "bool", "str", "ValueError", "NoText", "NoBook", "NotLet", "NoMove", "NoPlan", "NoTalker", "NoPaper", "NoWeb", "NoRow", "NoName"]
def mts:List Str:=["pop", "join", "append", "split", "strip", "pop"]
def its:List Str:=["zip", "enumerate"]
def sxm:List (Scope->Expr->Option (List Expr)):=[lofM "reversed", xfM "row", emM,vB [some "first answers ", none,some " ", none],vB [some "first doubts ", none],vB [some "first speaks ", none],vB [some "other speaks ", none]]
def ixm:List (Scope->Expr->Option (List Expr)):=[enkM]
def fns:List Str:=(["max", "len", "all", "list", "isinstance", "len", "_law_deal", "show_book", "Book", "made_book", "words_between_blanks", "fits", "read_book", "_law_draw", "_law_turned", "_law_refused", "_law_bad_row", "_law_all_refused", "law"]:List Str)
/- fn: 0 max,1 len,2 all,3 list,4 isinstance,5 len@,6 _law_deal,7 show_book,8 Book,9 made_book,10 words_between_blanks,11 fits,12 read_book,13 _law_draw,14 _law_turned,15 _law_refused,16 _law_bad_row,17 _law_all_refused,18 law -/
abbrev wL:Stmt:=zbR (top 5) 0
def dY:List Str:=["self", "row"]
theorem nB:FnScope dY ["self", "row"] (zY wL):=⟨rfl,rfl,rfl,by decide +kernel,rfl,by decide +kernel,by decide +kernel⟩
abbrev wO:Stmt:=top 23
def pR:List Str:=["_law_script", "_law_base", "_law_cells", "_law_number", "_law_cell"]
def zaN:ISs:=(.cons (.asg 2 (.lc (.nm 0) ["_law_cell"] [] (.val (.sl (.var 0) (.yes (.var 1)) (.yes (.con (.int 63))))) .no (.call 0 (.cons (.var 0) (.cons (.bin .Sub (.con (.int 0)) (.var 0)) .nil)))))
 (.cons (.asg 3 (.bin .Add (.con (.int 7919)) (.var 1)))
 (.cons (.for (.nm 4) (.val (.var 2)) (.cons (.asg 3 (.bin .Mod (.bin .Add (.bin .Mult (.var 3) (.con (.int 69621))) (.bin .Mod (.var 4) (.con (.int 2147483629)))) (.con (.int 2147483647))))
 .nil))
 (.cons (.ret (.dct ["seed", "number", "left"] (.cons (.var 3) (.cons (.con (.int 0)) (.cons (.spc 0 (.cons (.lc (.nm 0) ["_law_cell"] [] (.val (.var 2)) (.yes (.cmp .GtE (.var 0) (.bin .Pow (.con (.int 10)) (.con (.int 18))))) (.var 0)) .nil)) .nil)))))
 .nil))))
def pK:MC:=⟨zY wO,pR,(fun _=>true),fns.take 6,gls,mts,its,sxm,ixm⟩
theorem bN:FnScope pR ["_law_script", "_law_base"] (zY wO):=⟨rfl,rfl,rfl,by decide +kernel,rfl,by decide +kernel,by decide +kernel⟩
theorem mR:sQ zaN pK (zG wO)=true:=by decide +kernel
abbrev wT:Stmt:=top 18
def qH:List Str:=["book"]
def nQ:ISs:=(.cons (.ret (.mth 1 (.con (.str "\n")) (.cons (.lst (.cons (.spc 3 (.cons (.att (.var 0) "answers") (.cons (.att (.var 0) "again") .nil))) (.cons (.spc 4 (.cons (.att (.var 0) "doubts") .nil)) (.cons (.spc 5 (.cons (.att (.var 0) "speaks") .nil)) (.cons (.spc 6 (.cons (.att (.var 0) "other") .nil)) .nil))))) .nil)))
 .nil)
def pQ:MC:=⟨zY wT,qH,(fun _=>true),fns.take 7,gls,mts,its,sxm,ixm⟩
theorem bR:FnScope qH ["book"] (zY wT):=⟨rfl,rfl,rfl,by decide +kernel,rfl,by decide +kernel,by decide +kernel⟩
theorem mY:sQ nQ pQ (zG wT)=true:=by decide +kernel
abbrev xK:Stmt:=zbR (top 1) 0
def qE:List Str:=["self", "answers", "again", "doubts", "speaks", "other"]
def uZ:ISs:=(.cons (.asgA (.var 0) "answers" (.var 1))
 (.cons (.asgA (.var 0) "again" (.var 2))
 (.cons (.asgA (.var 0) "doubts" (.var 3))
 (.cons (.asgA (.var 0) "speaks" (.var 4))
 (.cons (.asgA (.var 0) "other" (.var 5))
 .nil)))))
def pJ:MC:=⟨zY xK,qE,(fun _=>true),fns.take 8,gls,mts,its,sxm,ixm⟩
theorem bM:FnScope qE ["self", "answers", "again", "doubts", "speaks", "other"] (zY xK):=⟨rfl,rfl,rfl,by decide +kernel,rfl,by decide +kernel,by decide +kernel⟩
theorem mQ:sQ uZ pJ (zG xK)=true:=by decide +kernel
abbrev wQ:Stmt:=top 21
def jM:List Str:=["found", "answers", "again"]
def nO:ISs:=(.cons (.asgT (.cons (.nm 1) (.cons (.nm 2) .nil)) (.ix (.var 0) (.con (.str "first answers"))))
 (.cons (.ret (.call 8 (.cons (.var 1) (.cons (.var 2) (.cons (.ix (.ix (.var 0) (.con (.str "first doubts"))) (.con (.int 0))) (.cons (.ix (.ix (.var 0) (.con (.str "first speaks"))) (.con (.int 0))) (.cons (.ix (.ix (.var 0) (.con (.str "other speaks"))) (.con (.int 0))) .nil)))))))
 .nil))
def pN:MC:=⟨zY wQ,jM,(fun _=>true),fns.take 9,gls,mts,its,sxm,ixm⟩
theorem bP:FnScope jM ["found"] (zY wQ):=⟨rfl,rfl,rfl,by decide +kernel,rfl,by decide +kernel,by decide +kernel⟩
theorem mV:sQ nO pN (zG wQ)=true:=by decide +kernel
abbrev zA:Stmt:=top 15
def xW:List Str:=["row"]
def wD:ISs:=(.cons (.ret (.lc (.nm 0) ["word"] [] (.val (.mth 3 (.var 0) (.cons (.con (.str " ")) .nil))) (.yes (.var 0)) (.var 0)))
 .nil)
def wE:MC:=⟨zY zA,xW,(fun _=>true),fns.take 10,gls,mts,its,sxm,ixm⟩
theorem qJ:FnScope xW ["row"] (zY zA):=⟨rfl,rfl,rfl,by decide +kernel,rfl,by decide +kernel,by decide +kernel⟩
theorem qT:sQ wD wE (zG zA)=true:=by decide +kernel
abbrev rC:Stmt:=top 20
def gP:List Str:=["sort", "words"]
def ziZ:ISs:=(.cons (.ite (.or (.cmp .NotIn (.var 0) (.glb 0)) (.cmp .NotEq (.call 1 (.cons (.var 1) .nil)) (.call 1 (.cons (.ix (.glb 0) (.var 0)) .nil)))) (.cons (.ret (.con (.bool false)))
 .nil) .nil)
 (.cons (.ret (.call 2 (.cons (.lc (.tup (.cons (.nm 0) (.cons (.nm 1) .nil))) ["word", "choice"] [] (.blt 0 (.cons (.var 1) (.cons (.ix (.glb 0) (.var 0)) .nil))) .no (.cmp .In (.var 0) (.var 1))) .nil)))
 .nil))
def zib:MC:=⟨zY rC,gP,(fun _=>true),fns.take 11,gls,mts,its,sxm,ixm⟩
theorem zhm:FnScope gP ["sort", "words"] (zY rC):=⟨rfl,rfl,rfl,by decide +kernel,rfl,by decide +kernel,by decide +kernel⟩
theorem zdt:sQ ziZ zib (zG rC)=true:=by decide +kernel
abbrev wS:Stmt:=top 19
def qG:List Str:=["text", "rows", "found", "number", "row", "words", "sort"]
def wM:RTs:=(.cons (.ite (.not (.call 4 (.cons (.var 0) (.cons (.glb 2) .nil)))) (.cons (.rse 0 (.cons (.con (.int 0)) .nil))
 .nil) .nil)
 (.cons (.pl (.asg 1 (.mth 3 (.var 0) (.cons (.con (.str "\n")) .nil))))
 (.cons (.pl (.asg 2 (.spc 2 .nil)))
 (.cons (.for (.tup (.cons (.nm 3) (.cons (.nm 4) .nil))) (.spc 0 (.cons (.var 1) .nil)) (.cons (.pl (.asg 5 (.call 10 (.cons (.var 4) .nil))))
 (.cons (.ite (.var 5) (.cons (.pl (.asg 6 (.mth 1 (.con (.str " ")) (.cons (.sl (.var 5) .no (.yes (.con (.int 2)))) .nil))))
 (.cons (.ite (.or (.cmp .In (.var 6) (.var 2)) (.not (.call 11 (.cons (.var 6) (.cons (.sl (.var 5) (.yes (.con (.int 2))) .no) .nil))))) (.cons (.rse 0 (.cons (.var 3) .nil))
 .nil) .nil)
 (.cons (.pl (.asgI (.var 2) (.var 6) (.sl (.var 5) (.yes (.con (.int 2))) .no)))
 .nil))) .nil)
 .nil)))
 (.cons (.ite (.cmp .Lt (.call 1 (.cons (.var 2) .nil)) (.call 5 (.cons (.glb 0) .nil))) (.cons (.rse 0 (.cons (.bin .Add (.call 1 (.cons (.var 1) .nil)) (.con (.int 1))) .nil))
 .nil) .nil)
 (.cons (.pl (.ret (.call 9 (.cons (.var 2) .nil))))
 .nil))))))
def rN:MX:=⟨[],["NoBook"],["TalkError"]⟩
def pP:MC:=⟨zY wS,qG,(fun _=>true),fns.take 12,gls,mts,its,sxm,ixm⟩
theorem bQ:FnScope qG ["text"] (zY wS):=⟨rfl,rfl,rfl,by decide +kernel,rfl,by decide +kernel,by decide +kernel⟩
theorem mW:mXs pP rN wM (zG wS)=true:=by decide +kernel
abbrev wP:Stmt:=top 24
def pS:List Str:=["_law_deal_here", "_law_many", "_law_number", "_law_one", "_law_other"]
def zaM:ISs:=(.cons (.whl (.and (.cmp .Eq (.ix (.var 0) (.con (.str "number"))) (.con (.int 0))) (.cmp .Gt (.call 1 (.cons (.ix (.var 0) (.con (.str "left"))) .nil)) (.con (.int 0)))) (.cons (.asgI (.var 0) (.con (.str "number")) (.mth 0 (.ix (.var 0) (.con (.str "left"))) .nil))
 .nil))
 (.cons (.asg 2 (.ix (.var 0) (.con (.str "number"))))
 (.cons (.ite (.cmp .Gt (.var 2) (.con (.int 0))) (.cons (.asgI (.var 0) (.con (.str "number")) (.bin .FloorDiv (.var 2) (.var 1)))
 (.cons (.ret (.bin .Mod (.var 2) (.var 1)))
 .nil)) .nil)
 (.cons (.asg 3 (.bin .Mod (.bin .Add (.bin .Mult (.ix (.var 0) (.con (.str "seed"))) (.con (.int 48271))) (.con (.int 7919))) (.con (.int 2147483647))))
 (.cons (.asgI (.var 0) (.con (.str "seed")) (.bin .Mod (.bin .Add (.bin .Mult (.var 3) (.con (.int 40692))) (.con (.int 104729))) (.con (.int 2147483399))))
 (.cons (.asg 4 (.bin .Mod (.bin .Mult (.ix (.var 0) (.con (.str "seed"))) (.ix (.var 0) (.con (.str "seed")))) (.con (.int 2147483563))))
 (.cons (.ret (.bin .Mod (.bin .Add (.bin .Mult (.bin .Mod (.bin .Mult (.var 3) (.var 3)) (.con (.int 2147483629))) (.con (.int 2147483563))) (.var 4)) (.var 1)))
 .nil)))))))
def pL:MC:=⟨zY wP,pS,(fun _=>true),fns.take 13,gls,mts,its,sxm,ixm⟩
theorem bO:FnScope pS ["_law_deal_here", "_law_many"] (zY wP):=⟨rfl,rfl,rfl,by decide +kernel,rfl,by decide +kernel,by decide +kernel⟩
theorem mU:sQ zaM pL (zG wP)=true:=by decide +kernel
abbrev xM:Stmt:=top 27
def qF:List Str:=["_law_deal_here", "_law_row", "_law_other", "_law_word"]
def uA:ISs:=(.cons (.asg 2 (.lst .nil))
 (.cons (.for (.nm 3) (.val (.mth 3 (.var 1) (.cons (.con (.str " ")) .nil))) (.cons (.ite (.cmp .In (.var 3) (.tup (.cons (.con (.str "last")) (.cons (.con (.str "any")) .nil)))) (.cons (.asg 3 (.ix (.lst (.cons (.con (.str "last")) (.cons (.con (.str "any")) .nil))) (.call 13 (.cons (.var 0) (.cons (.con (.int 2)) .nil)))))
 .nil) .nil)
 (.cons (.ite (.cmp .In (.var 3) (.tup (.cons (.con (.str "once")) (.cons (.con (.str "often")) .nil)))) (.cons (.asg 3 (.ix (.lst (.cons (.con (.str "once")) (.cons (.con (.str "often")) .nil))) (.call 13 (.cons (.var 0) (.cons (.con (.int 2)) .nil)))))
 .nil) .nil)
 (.cons (.ex (.mth 2 (.var 2) (.cons (.var 3) .nil)))
 .nil))))
 (.cons (.ret (.mth 1 (.con (.str " ")) (.cons (.var 2) .nil)))
 .nil)))
def uK:MC:=⟨zY xM,qF,(fun _=>true),fns.take 14,gls,mts,its,sxm,ixm⟩
theorem nC:FnScope qF ["_law_deal_here", "_law_row"] (zY xM):=⟨rfl,rfl,rfl,by decide +kernel,rfl,by decide +kernel,by decide +kernel⟩
theorem sF:sQ uA uK (zG xM)=true:=by decide +kernel
abbrev xQ:Stmt:=top 25
def qV:List Str:=["_law_text", "_law_row", "_law_caught", "e", "_law_others"]
def jX:RTs:=(.cons (.pl (.asg 2 (.con .none)))
 (.cons (.try 3 2 0 (.cons (.exx 0 (.cons (.var 0) .nil))
 .nil))
 (.cons (.pl (.asg 4 (.lst (.cons (.call 4 (.cons (.var 2) (.cons (.glb 4) .nil))) (.cons (.call 4 (.cons (.var 2) (.cons (.glb 7) .nil))) (.cons (.call 4 (.cons (.var 2) (.cons (.glb 13) .nil))) .nil))))))
 (.cons (.pl (.asg 4 (.bin .Add (.var 4) (.lst (.cons (.call 4 (.cons (.var 2) (.cons (.glb 8) .nil))) (.cons (.call 4 (.cons (.var 2) (.cons (.glb 10) .nil))) (.cons (.call 4 (.cons (.var 2) (.cons (.glb 12) .nil))) .nil)))))))
 (.cons (.pl (.asg 4 (.bin .Add (.var 4) (.lst (.cons (.call 4 (.cons (.var 2) (.cons (.glb 9) .nil))) (.cons (.call 4 (.cons (.var 2) (.cons (.glb 6) .nil))) (.cons (.call 4 (.cons (.var 2) (.cons (.glb 11) .nil))) .nil)))))))
 (.cons (.pl (.ite (.or (.not (.call 4 (.cons (.var 2) (.cons (.glb 5) .nil)))) (.or (.not (.call 4 (.cons (.var 2) (.cons (.glb 3) .nil)))) (.cmp .In (.con (.bool true)) (.var 4)))) (.cons (.ret (.con (.bool false)))
 .nil) .nil))
 (.cons (.pl (.ret (.and (.cmp .Eq (.spc 1 (.cons (.var 2) .nil)) (.var 1)) (.not (.call 4 (.cons (.spc 1 (.cons (.var 2) .nil)) (.cons (.glb 1) .nil)))))))
 .nil)))))))
def vP:MX:=⟨["read_book"],["NoBook"],["TalkError"]⟩
def vM:MC:=⟨zY xQ,qV,(fun _=>true),fns.take 15,gls,mts,its,sxm,ixm⟩
theorem pY:FnScope qV ["_law_text", "_law_row"] (zY xQ):=⟨rfl,rfl,rfl,by decide +kernel,rfl,by decide +kernel,by decide +kernel⟩
theorem tH:mXs vM vP jX (zG xQ)=true:=by decide +kernel
abbrev xP:Stmt:=top 26
def qU:List Str:=["_law_deal_here", "_law_some"]
def vH:ISs:=(.cons (.asg 1 (.lst (.cons (.con (.str "first")) (.cons (.con (.str "first answers")) (.cons (.con (.str "first answers last")) (.cons (.con (.str "first answers once last")) .nil))))))
 (.cons (.asg 1 (.bin .Add (.var 1) (.lst (.cons (.con (.str "first answers any often any")) (.cons (.con (.str "first doubts")) (.cons (.con (.str "first doubts any")) (.cons (.con (.str "first doubts once once")) .nil)))))))
 (.cons (.asg 1 (.bin .Add (.var 1) (.lst (.cons (.con (.str "first speaks")) (.cons (.con (.str "first speaks once")) (.cons (.con (.str "other speaks")) (.cons (.con (.str "other speaks often")) (.cons (.con (.str "other answers last once")) .nil))))))))
 (.cons (.asg 1 (.bin .Add (.var 1) (.lst (.cons (.con (.str "other doubts once")) (.cons (.con (.str "speaks last")) (.cons (.con (.str "First speaks last")) (.cons (.con (.str "first Speaks last")) (.cons (.con (.str "first speaks Last")) .nil))))))))
 (.cons (.asg 1 (.bin .Add (.var 1) (.lst (.cons (.con (.str "firstspeaks last")) (.cons (.con (.str "# first speaks last")) (.cons (.con (.str "first speaks last.")) (.cons (.con (.str "second speaks last")) (.cons (.con (.str "last")) (.cons (.con (.str "any")) .nil)))))))))
 (.cons (.asg 1 (.bin .Add (.var 1) (.lst (.cons (.con (.str "first answers last 1")) (.cons (.con (.str "first speak last")) (.cons (.con (.str "first answers la once")) (.cons (.con (.str "first doubts on")) .nil)))))))
 (.cons (.asg 1 (.bin .Add (.var 1) (.lst (.cons (.con (.str "first speaks an")) (.cons (.con (.str "other speaks ")) (.cons (.con (.str "first answers any of")) .nil))))))
 (.cons (.ret (.ix (.var 1) (.call 13 (.cons (.var 0) (.cons (.con (.int 31)) .nil)))))
 .nil))))))))
def vL:MC:=⟨zY xP,qU,(fun _=>true),fns.take 16,gls,mts,its,sxm,ixm⟩
theorem pX:FnScope qU ["_law_deal_here"] (zY xP):=⟨rfl,rfl,rfl,by decide +kernel,rfl,by decide +kernel,by decide +kernel⟩
theorem tG:sQ vH vL (zG xP)=true:=by decide +kernel
abbrev yM:Stmt:=top 28
def wK:List Str:=["_law_deal_here", "_law_rows", "_law_places", "_law_place", "_law_lacking", "_law_again", "_law_more", "_law_unlike", "_law_instead", "_law_twice", "_law_other", "_law_at", "_law_wrong"]
def qZ:ISs:=(.cons (.asg 4 (.bin .Add (.sl (.var 1) .no (.yes (.var 3))) (.sl (.var 1) (.yes (.bin .Add (.var 3) (.con (.int 1)))) .no)))
 (.cons (.ite (.not (.call 15 (.cons (.mth 1 (.con (.str "\n")) (.cons (.var 4) .nil)) (.cons (.bin .Add (.call 1 (.cons (.var 4) .nil)) (.con (.int 1))) .nil)))) (.cons (.ret (.con (.bool false)))
 .nil) .nil)
 (.cons (.asg 5 (.bin .Add (.bin .Add (.var 3) (.con (.int 1))) (.call 13 (.cons (.var 0) (.cons (.bin .Sub (.call 1 (.cons (.var 1) .nil)) (.var 3)) .nil)))))
 (.cons (.asg 6 (.bin .Add (.bin .Add (.sl (.var 1) .no (.yes (.var 5))) (.lst (.cons (.ix (.var 1) (.var 3)) .nil))) (.sl (.var 1) (.yes (.var 5)) .no)))
 (.cons (.ite (.not (.call 15 (.cons (.mth 1 (.con (.str "\n")) (.cons (.var 6) .nil)) (.cons (.bin .Add (.var 5) (.con (.int 1))) .nil)))) (.cons (.ret (.con (.bool false)))
 .nil) .nil)
 (.cons (.asg 7 (.call 14 (.cons (.var 0) (.cons (.ix (.var 1) (.var 3)) .nil))))
 (.cons (.asg 6 (.bin .Add (.bin .Add (.sl (.var 1) .no (.yes (.var 5))) (.lst (.cons (.var 7) .nil))) (.sl (.var 1) (.yes (.var 5)) .no)))
 (.cons (.ite (.not (.call 15 (.cons (.mth 1 (.con (.str "\n")) (.cons (.var 6) .nil)) (.cons (.bin .Add (.var 5) (.con (.int 1))) .nil)))) (.cons (.ret (.con (.bool false)))
 .nil) .nil)
 (.cons (.asg 8 (.bin .Add (.bin .Add (.sl (.var 1) .no (.yes (.var 3))) (.lst (.cons (.call 16 (.cons (.var 0) .nil)) .nil))) (.sl (.var 1) (.yes (.bin .Add (.var 3) (.con (.int 1)))) .no)))
 (.cons (.ite (.not (.call 15 (.cons (.mth 1 (.con (.str "\n")) (.cons (.var 8) .nil)) (.cons (.bin .Add (.var 3) (.con (.int 1))) .nil)))) (.cons (.ret (.con (.bool false)))
 .nil) .nil)
 (.cons (.asg 9 (.call 3 (.cons (.var 1) .nil)))
 (.cons (.asg 10 (.ix (.lc (.nm 0) ["_law_k"] [3] (.val (.var 2)) (.yes (.cmp .NotEq (.var 0) (.var 1))) (.var 0)) (.call 13 (.cons (.var 0) (.cons (.con (.int 3)) .nil)))))
 (.cons (.asgI (.var 9) (.var 10) (.var 7))
 (.cons (.ite (.not (.call 15 (.cons (.mth 1 (.con (.str "\n")) (.cons (.var 9) .nil)) (.cons (.bin .Add (.call 0 (.cons (.var 3) (.cons (.var 10) .nil))) (.con (.int 1))) .nil)))) (.cons (.ret (.con (.bool false)))
 .nil) .nil)
 (.cons (.asg 11 (.call 13 (.cons (.var 0) (.cons (.bin .Add (.call 1 (.cons (.var 1) .nil)) (.con (.int 1))) .nil))))
 (.cons (.asg 12 (.bin .Add (.bin .Add (.sl (.var 1) .no (.yes (.var 11))) (.lst (.cons (.call 16 (.cons (.var 0) .nil)) .nil))) (.sl (.var 1) (.yes (.var 11)) .no)))
 (.cons (.ite (.cmp .Eq (.call 13 (.cons (.var 0) (.cons (.con (.int 2)) .nil))) (.con (.int 1))) (.cons (.ex (.mth 2 (.var 12) (.cons (.call 16 (.cons (.var 0) .nil)) .nil)))
 .nil) .nil)
 (.cons (.ite (.not (.call 15 (.cons (.mth 1 (.con (.str "\n")) (.cons (.var 12) .nil)) (.cons (.bin .Add (.var 11) (.con (.int 1))) .nil)))) (.cons (.ret (.con (.bool false)))
 .nil) .nil)
 (.cons (.ret (.con (.bool true)))
 .nil)))))))))))))))))))
def jC:MC:=⟨zY yM,wK,(fun _=>true),fns.take 17,gls,mts,its,sxm,ixm⟩
theorem vE:FnScope wK ["_law_deal_here", "_law_rows", "_law_places", "_law_place"] (zY yM):=⟨rfl,rfl,rfl,by decide +kernel,rfl,by decide +kernel,by decide +kernel⟩
theorem kE:sQ qZ jC (zG yM)=true:=by decide +kernel
abbrev bU:Stmt:=top 29
def nlaw:List Str:=["_law_script", "_law_deal_here", "_law_reach", "_law_times", "_law_left", "_law_rows", "_law_good", "_law_places", "_law_place", "_law_odd"]
def blaw:ISs:=(.cons (.asg 1 (.call 6 (.cons (.var 0) (.cons (.con (.int 0)) .nil))))
 (.cons (.asg 2 (.lst (.cons (.con (.str "last")) (.cons (.con (.str "any")) .nil))))
 (.cons (.asg 3 (.lst (.cons (.con (.str "once")) (.cons (.con (.str "often")) .nil))))
 (.cons (.asg 4 (.lst (.cons (.bin .Add (.bin .Add (.bin .Add (.con (.str "first answers ")) (.ix (.var 2) (.call 13 (.cons (.var 1) (.cons (.con (.int 2)) .nil))))) (.con (.str " "))) (.ix (.var 3) (.call 13 (.cons (.var 1) (.cons (.con (.int 2)) .nil))))) .nil)))
 (.cons (.asg 4 (.bin .Add (.var 4) (.lst (.cons (.bin .Add (.con (.str "first doubts ")) (.ix (.var 3) (.call 13 (.cons (.var 1) (.cons (.con (.int 2)) .nil))))) (.cons (.bin .Add (.con (.str "first speaks ")) (.ix (.var 2) (.call 13 (.cons (.var 1) (.cons (.con (.int 2)) .nil))))) .nil)))))
 (.cons (.ex (.mth 2 (.var 4) (.cons (.bin .Add (.con (.str "other speaks ")) (.ix (.var 2) (.call 13 (.cons (.var 1) (.cons (.con (.int 2)) .nil))))) .nil)))
 (.cons (.asg 5 (.lst .nil))
 (.cons (.whl (.cmp .NotEq (.var 4) (.lst .nil)) (.cons (.ex (.mth 2 (.var 5) (.cons (.mth 5 (.var 4) (.cons (.call 13 (.cons (.var 1) (.cons (.call 1 (.cons (.var 4) .nil)) .nil))) .nil)) .nil)))
 (.cons (.asg 5 (.bin .Add (.var 5) (.bin .Mult (.lst (.cons (.ix (.lst (.cons (.con (.str "")) (.cons (.con (.str "   ")) .nil))) (.call 13 (.cons (.var 1) (.cons (.con (.int 2)) .nil)))) .nil)) (.call 13 (.cons (.var 1) (.cons (.con (.int 3)) .nil))))))
 .nil)))
 (.cons (.asg 6 (.call 7 (.cons (.call 12 (.cons (.mth 1 (.con (.str "\n")) (.cons (.var 5) .nil)) .nil)) .nil)))
 (.cons (.asg 7 (.lc (.tup (.cons (.nm 0) (.cons (.nm 1) .nil))) ["_law_k", "_law_row"] [] (.blt 1 (.cons (.var 5) .nil)) (.yes (.cmp .NotEq (.mth 4 (.var 1) .nil) (.con (.str "")))) (.var 0)))
 (.cons (.asg 8 (.ix (.var 7) (.call 13 (.cons (.var 1) (.cons (.con (.int 4)) .nil)))))
 (.cons (.ite (.not (.call 17 (.cons (.var 1) (.cons (.var 5) (.cons (.var 7) (.cons (.var 8) .nil)))))) (.cons (.ret (.con (.bool false)))
 .nil) .nil)
 (.cons (.asg 9 (.ix (.lst (.cons (.con .none) (.cons (.con (.int 7)) (.cons (.con (.bool true)) (.cons (.var 5) (.cons (.tup (.cons (.con (.str "first")) .nil)) .nil)))))) (.call 13 (.cons (.var 1) (.cons (.con (.int 5)) .nil)))))
 (.cons (.ite (.or (.not (.call 15 (.cons (.var 9) (.cons (.con (.int 0)) .nil)))) (.or (.not (.call 15 (.cons (.con (.str "")) (.cons (.con (.int 2)) .nil)))) (.not (.call 15 (.cons (.con (.str "\n\n ")) (.cons (.con (.int 4)) .nil)))))) (.cons (.ret (.con (.bool false)))
 .nil) .nil)
 (.cons (.ret (.cmp .Eq (.call 7 (.cons (.call 12 (.cons (.mth 1 (.con (.str "\n")) (.cons (.var 5) .nil)) .nil)) .nil)) (.var 6)))
 .nil)))))))))))))))
def mlaw:MC:=⟨zY bU,nlaw,(fun _=>true),fns.take 18,gls,mts,its,sxm,ixm⟩
theorem sclaw:FnScope nlaw ["_law_script"] (zY bU):=⟨rfl,rfl,rfl,by decide +kernel,rfl,by decide +kernel,by decide +kernel⟩
theorem zfT:sQ blaw mlaw (zG bU)=true:=by decide +kernel
end K17
namespace K17
open PySem PySem.Spec PyProof.Rows L2 L3
open PySem.W (nsIn keepIn codeIn mg_of findIn mg_none_of fnOf)
structure Bk where
 a:Str
 b:Str
 c:Str
 e:Str
 f:Str
deriving DecidableEq
def LA (x:Str):Prop:=x = "last" \/ x = "any"
def OO (x:Str):Prop:=x = "once" \/ x = "often"
structure Bk.Ok (x:Bk):Prop where
 a:LA x.a
 b:OO x.b
 c:OO x.c
 e:LA x.e
 f:LA x.f
def mkS (l:List Nat):Str:=⟨l.toArray⟩
def qX (x:Str):List Str:=(wd x.cps.toList).map mkS
def vV (ws:List Str):Str:=Txt.join " " (ws.take 2)
def Bk.rows (x:Bk):List (List Str):=[["first", "answers", x.a,x.b],["first", "doubts", x.c],["first", "speaks", x.e],["other", "speaks", x.f]]
def Bk.txt (x:Bk):List Str:=["first answers " ++ x.a ++ " " ++ x.b, "first doubts " ++ x.c, "first speaks " ++ x.e, "other speaks " ++ x.f]
def Bk.show (x:Bk):Str:=Txt.join "\n" x.txt
def fX:List Str:=["first answers", "first doubts", "first speaks", "other speaks"]
def chC:List (List (List Str)):=[[["last", "any"],["once", "often"]],[["once", "often"]],[["last", "any"]],[["last", "any"]]]
def fitB (s:Str) (ws:List Str):Bool:=match (fX.zip chC).lookup s with
 |none=>false
 |some cs=>decide (ws.length=cs.length)&&(List.zipWith (fun w (c:List Str)=>c.contains w) ws cs).all id
def ok1 (w:List Str):Bool:=fitB (vV w) (w.drop 2)
def go:List (List Str)->Nat->List Str->Option Nat
 | [],n,f=>if f.length<4 then some n else none
 |w::r,n,f=>if w=[] then go r (n+1) f else if vV w∈f\/ok1 w=false then some n else go r (n+1) (f++[vV w])
def nb (r:Str):Bool:=!(qX r).isEmpty
def sr (r:Str):Str:=vV (qX r)
def yP (A:List Str):List Str:=(A.filter nb).map sr
theorem xL (A B:List Str):yP (A++B)=yP A++yP B:=by unfold yP;rw [List.filter_append,List.map_append]
theorem tO {r:Str} (h:nb r=true):yP [r]=[sr r]:=by unfold yP;rw [List.filter_cons,if_pos h];rfl
theorem zh7 {r:Str} (h:nb r=true):qX r≠[]:=fun z=>by unfold nb at h;rw [z] at h;cases h
theorem nb_no {r:Str} (h:¬ nb r=true):qX r=[]:=by
 unfold nb at h
 cases e:qX r with
 |nil=>rfl
 |cons _ _=>rw [e] at h;exact absurd rfl h
theorem uI (B:List (List Str)):∀ (A:List Str) (n:Nat) (f:List Str),(∀ r∈A,nb r=true->ok1 (qX r)=true)->(f++yP A).Nodup->go (A.map qX++B) n f=go B (n+A.length) (f++yP A)
 | [],n,f,_,_=>by show go B n f=_;rw [show f++yP []=f from List.append_nil f];rfl
 |r::A,n,f,h1,h2=>by
  show go (qX r::(A.map qX++B)) n f=_;rw [go]
  by_cases hr:nb r=true
  .have e:yP (r::A)=sr r::yP A:=by unfold yP;rw [List.filter_cons,if_pos hr];rfl
   rw [e] at h2 ⊢;have h3:(f++[sr r]++yP A).Nodup:=by rw [List.append_assoc];exact h2
   have h4:vV (qX r)∉f:=fun z=>(List.nodup_append.mp h2).2.2 _ z _ zzT rfl;rw [if_neg (zh7 hr),if_neg (fun z=>z.elim h4 fun z=>by rw [h1 r zzT hr] at z;cases z)];have ih:=uI B A (n+1) (f++[sr r]) (fun a ha=>h1 a (List.mem_cons_of_mem _ ha)) h3;rw [List.append_assoc] at ih;rw [List.length_cons,show n+(A.length+1)=n+1+A.length by omega];exact ih
  .have e:yP (r::A)=yP A:=by unfold yP;rw [List.filter_cons,if_neg hr]
   rw [e] at h2 ⊢;rw [if_pos (nb_no hr),List.length_cons,show n+(A.length+1)=n+1+A.length by omega];exact uI B A (n+1) f (fun a ha=>h1 a (List.mem_cons_of_mem _ ha)) h2
theorem zgg {w:List Str} {B:List (List Str)} {n:Nat} {f:List Str} (h:w≠[]) (h2:vV w∈f\/ok1 w=false):go (w::B) n f=some n:=by
 rw [go,if_neg h,if_pos h2]
structure Fine (A:List Str):Prop where
 ok:∀ r∈A,nb r=true->ok1 (qX r)=true
 nd:(yP A).Nodup
theorem Fine.sub {A B:List Str} (h:Fine B) (s:A.Sublist B):Fine A:=⟨fun r hr=>h.ok r (s.subset hr),(List.Sublist.map sr (List.Sublist.filter nb s)).nodup h.nd⟩
theorem uR {A B:List Str} {r:Str} (h:Fine A) (hr:nb r=true) (h2:sr r∈yP A\/ok1 (qX r)=false):go ((A++r::B).map qX) 1 []=some (A.length+1):=by
 rw [List.map_append,uI _ A 1 [] h.ok (by rw [List.nil_append];exact h.nd),List.nil_append,zzU,zgg (zh7 hr) h2,Nat.add_comm]
theorem lack {A:List Str} (h:Fine A) (hl:(yP A).length<4):go (A.map qX) 1 []=some (A.length+1):=by
 have:=uI [] A 1 [] h.ok (by rw [List.nil_append];exact h.nd);rw [List.append_nil,List.nil_append] at this;rw [this,go,if_pos hl,Nat.add_comm]
theorem nZ {A:List Str} {r:Str} (h:r∈A) (hr:nb r=true):sr r∈yP A:=List.mem_map_of_mem (List.mem_filter.mpr ⟨h,hr⟩)
def blank (r:Str):Prop:=r = "" \/ r = "   "
def Rw (r:Str):Prop:=∃ x:Bk,x.Ok/\r∈x.txt
structure RsOk (x:Bk) (R:List Str):Prop where
 ok:x.Ok
 each:∀ r∈R,blank r\/r∈x.txt
 perm:(R.filter nb).Perm x.txt
theorem zed {x:Bk} (ok:x.Ok):x.txt.map qX=x.rows:=by
 obtain ⟨a,b,c,e,f⟩:=x;obtain ⟨ha,hb,hc,he,hf⟩:=ok;dsimp only at ha hb hc he hf
 have r1:qX ("first answers " ++ a ++ " " ++ b)=([("first" : Str), "answers", a,b]:List Str):=by
  rcases ha with rfl|rfl<;>rcases hb with rfl|rfl<;>decide +kernel
 have r2:qX ("first doubts " ++ c)=([("first" : Str), "doubts", c]:List Str):=by rcases hc with rfl|rfl<;>decide +kernel
 have r3:qX ("first speaks " ++ e)=([("first" : Str), "speaks", e]:List Str):=by rcases he with rfl|rfl<;>decide +kernel
 have r4:qX ("other speaks " ++ f)=([("other" : Str), "speaks", f]:List Str):=by rcases hf with rfl|rfl<;>decide +kernel
 simp only [Bk.txt,Bk.rows,zzU,zzV,r1,r2,r3,r4]
theorem zcS (a b:Str):vV ["first", "answers", a,b] = "first answers" := by show Txt.join " " ["first", "answers"]=_;decide +kernel
theorem zcR (a:Str):vV ["first", "doubts", a] = "first doubts" := by show Txt.join " " ["first", "doubts"]=_;decide +kernel
theorem zcQ (a:Str):vV ["first", "speaks", a] = "first speaks" := by show Txt.join " " ["first", "speaks"]=_;decide +kernel
theorem zcP (a:Str):vV ["other", "speaks", a] = "other speaks" := by show Txt.join " " ["other", "speaks"]=_;decide +kernel
theorem zc2 (x:Bk):(x.rows.map vV).Nodup:=by
 simp only [Bk.rows,zzU,zzV,zcS,zcR,zcQ,zcP]
 decide +kernel
theorem zee {x:Bk} (ok:x.Ok):x.txt.map sr=fX:=by
 have:x.txt.map sr=(x.txt.map qX).map vV:=by rw [List.map_map];rfl
 rw [this,zed ok];simp only [Bk.rows,zzU,zzV,zcS,zcR,zcQ,zcP];rfl
theorem Rw.ok {r:Str} (h:Rw r):ok1 (qX r)=true/\nb r=true/\10∉r.cps.toList/\r.length<=40/\Txt.strip r ≠ "" := by
 obtain ⟨⟨a,b,c,e,f⟩,⟨ha,hb,hc,he,hf⟩,hr⟩:=h;dsimp only at ha hb hc he hf;simp only [Bk.txt,List.mem_cons,List.not_mem_nil,or_false] at hr;rcases hr with rfl|rfl|rfl|rfl
 .rcases ha with rfl|rfl<;>rcases hb with rfl|rfl<;>decide +kernel
 .rcases hc with rfl|rfl<;>decide +kernel
 .rcases he with rfl|rfl<;>decide +kernel
 .rcases hf with rfl|rfl<;>decide +kernel
theorem blank.ok {r:Str} (h:blank r):nb r=false/\10∉r.cps.toList/\r.length<=40/\Txt.strip r = "" := by
 rcases h with rfl|rfl<;>decide +kernel
theorem RsOk.rw {x:Bk} {R:List Str} (h:RsOk x R) {r:Str} (hr:r∈R) (n:nb r=true):Rw r:=by
 rcases h.each r hr with b|b
 .rw [b.ok.1] at n;cases n
 .exact ⟨x,h.ok,b⟩
theorem RsOk.fine {x:Bk} {R:List Str} (h:RsOk x R):Fine R:=by
 refine ⟨fun r hr n=>(h.rw hr n).ok.1,?_⟩;have:(yP R).Perm fX:=by rw [← zee h.ok];exact h.perm.map sr
 exact this.nodup_iff.mpr (by decide +kernel)
theorem RsOk.len {x:Bk} {R:List Str} (h:RsOk x R):(yP R).length=4:=by
 unfold yP;rw [zzM,h.perm.length_eq];rfl
theorem RsOk.row {x:Bk} {R:List Str} (h:RsOk x R):∀ r∈R,10∉r.cps.toList/\r.length<=40:=fun r hr=>by
 rcases h.each r hr with b|b
 .exact ⟨b.ok.2.1,b.ok.2.2.1⟩
 .have:=Rw.ok ⟨x,h.ok,b⟩;exact ⟨this.2.2.1,this.2.2.2.1⟩
def badL:List Str:=(["first", "first answers", "first answers last", "first answers once last"]:List Str)++(["first answers any often any", "first doubts", "first doubts any", "first doubts once once"]:List Str)++(["first speaks", "first speaks once", "other speaks", "other speaks often", "other answers last once"]:List Str)++(["other doubts once", "speaks last", "First speaks last", "first Speaks last", "first speaks Last"]:List Str)++(["firstspeaks last", "# first speaks last", "first speaks last.", "second speaks last", "last", "any"]:List Str)++(["first answers last 1", "first speak last", "first answers la once", "first doubts on"]:List Str)++(["first speaks an", "other speaks ", "first answers any of"]:List Str)
theorem nM:∀ r∈badL,nb r=true/\ok1 (qX r)=false/\10∉r.cps.toList/\r.length<=40:=by decide +kernel
section
variable {x : Bk} {R A B : List Str} {r u : Str}
theorem way1 (h:RsOk x R) (e:R=A++r::B) (n:nb r=true):go ((A++B).map qX) 1 []=some ((A++B).length+1):=by
 have s:(A++B).Sublist R:=by rw [e];exact List.Sublist.append_left (List.sublist_cons_self r B) A
 refine lack (h.fine.sub s) ?_;have:=h.len;rw [e,xL,show yP (r::B)=yP [r]++yP B from xL [r] B,tO n] at this;simp only [zzW,List.length_cons,List.length_nil] at this;rw [xL,zzW];omega
theorem way2 (h:RsOk x R) (e:R=A++B) (hr:r∈A) (n:nb r=true) (hu:nb u=true) (eu:sr u=sr r):go ((A++u::B).map qX) 1 []=some (A.length+1) :=
 uR (h.fine.sub (by rw [e];exact List.sublist_append_left A B)) hu (.inl (eu▸nZ hr n))
theorem way4 (h:RsOk x R) (s:A.Sublist R) (hu:u∈badL):go ((A++u::B).map qX) 1 []=some (A.length+1) :=
 uR (h.fine.sub s) (nM u hu).1 (.inr (nM u hu).2.1)
theorem way5 {A1 A2 A3:List Str} {q:Str} (h:RsOk x R) (e:R=A1++q::A2++r::A3) (n:nb r=true) (hu:Rw u) (eu:sr u=sr r):go ((A1++u::A2++r::A3).map qX) 1 []=some ((A1++u::A2).length+1):=by
 obtain ⟨u1,u2,_⟩:=hu.ok;have nd:=h.fine.nd;rw [e,xL,xL,show yP (r::A3)=yP [r]++yP A3 from xL [r] A3,tO n] at nd
 have f1:Fine (A1++A2):=h.fine.sub (by
  rw [e];exact (List.Sublist.append_left (List.sublist_cons_self q A2) A1).trans (List.sublist_append_left _ _))
 have no:sr r∉yP A1++yP A2:=fun z=>by
  have z2:sr r∈yP A1++yP (q::A2):=by
   rcases List.mem_append.mp z with z|z
   .exact List.mem_append_left _ z
   .refine List.mem_append_right _ ?_;rw [show yP (q::A2)=yP [q]++yP A2 from xL [q] A2];exact List.mem_append_right _ z
  exact (List.nodup_append.mp nd).2.2 _ z2 _ (by simp) rfl
 refine uR ⟨fun a ha na=>?_,?_⟩ n (.inl ?_)
 .rcases List.mem_append.mp ha with ha|ha
  .exact f1.ok a (List.mem_append_left _ ha) na
  .rcases List.mem_cons.mp ha with rfl|ha
   .exact u1
   .exact f1.ok a (List.mem_append_right _ ha) na
 .have nd1:=f1.nd;rw [xL] at nd1;rw [xL,show yP (u::A2)=yP [u]++yP A2 from xL [u] A2,tO u2,eu];obtain ⟨d1,d2,d3⟩:=List.nodup_append.mp nd1;rw [List.mem_append,not_or] at no;refine List.nodup_append.mpr ⟨d1,List.nodup_cons.mpr ⟨no.2,d2⟩,fun a ha b hb z=>?_⟩;rcases List.mem_cons.mp hb with rfl|hb
  .exact no.1 (z▸ha)
  .exact d3 a ha b hb z
 .rw [← eu];exact nZ (by simp) u2
end
def vw (t:Str):List (List Str):=(Txt.split t "\n").map qX
theorem zh4:("\n" : Str)=⟨#[10]⟩:=by decide +kernel
theorem zau {R:List Str} (h0:R≠[]) (h:∀ r∈R,10∉r.cps.toList):Txt.split (Txt.join "\n" R) "\n" = R:=by
 rw [zh4,bZ,show Txt.join ⟨#[10]⟩ R=Str.join ⟨#[10]⟩ R from StrLaws.glued_eq_join _ R,nW R h0 h,List.map_map]
 conv=>rhs;rw [← List.map_id R]
 exact List.map_congr_left fun a _=>by simp
theorem zaW {R:List Str} (h0:R≠[]) (h:∀ r∈R,10∉r.cps.toList):vw (Txt.join "\n" R)=R.map qX:=by unfold vw;rw [zau h0 h]
abbrev eApp:Mt3:=⟨"append", "list", appS⟩
theorem zgv {q:Pr} {A:Around}:MtE (q.at A) eApp/\uU eApp:=⟨tK PySem.F.plainAttrs_list PySem.F.slot_list_append PySem.F.type_list_append (fun X f=>zi2) fQ,fQ⟩
def Bk.fs (x:Bk):List (Str×W):=[("answers", .str x.a),("again", .str x.b),("doubts", .str x.c),("speaks", .str x.e),("other", .str x.f)]
def Bk.ws (x:Bk):List W:=[.str x.a,.str x.b,.str x.c,.str x.e,.str x.f]
def jQ:List Str:=["answers", "again", "doubts", "speaks", "other"]
theorem lk_a (x:Bk):x.fs.lookup ("answers" : Str)=some (W.str x.a):=by unfold Bk.fs;rfl
theorem lk_b (x:Bk):x.fs.lookup ("again" : Str)=some (W.str x.b):=by unfold Bk.fs;simp [List.lookup,show (("again" : Str) == "answers")=false by decide +kernel]
theorem lk_c (x:Bk):x.fs.lookup ("doubts" : Str)=some (W.str x.c):=by unfold Bk.fs;simp [List.lookup,show (("doubts" : Str) == "answers")=false by decide +kernel,show (("doubts" : Str) == "again")=false by decide +kernel]
theorem lk_e (x:Bk):x.fs.lookup ("speaks" : Str)=some (W.str x.e):=by unfold Bk.fs;simp [List.lookup,show (("speaks" : Str) == "answers")=false by decide +kernel,show (("speaks" : Str) == "again")=false by decide +kernel,show (("speaks" : Str) == "doubts")=false by decide +kernel]
theorem lk_f (x:Bk):x.fs.lookup ("other" : Str)=some (W.str x.f):=by unfold Bk.fs;simp [List.lookup,show (("other" : Str) == "answers")=false by decide +kernel,show (("other" : Str) == "again")=false by decide +kernel,show (("other" : Str) == "doubts")=false by decide +kernel,show (("other" : Str) == "speaks")=false by decide +kernel]
def la:W:=.tup [.str "last", .str "any"]
def oo:W:=.tup [.str "once", .str "often"]
def chW (cs:List (List Str)):W:=.tup (cs.map fun c=>.tup (c.map .str))
def chV:List W:=chC.map chW
def Fr (ws:List W) (G:Hw) (Q:Q3):Prop:=∀ r G',zK [] G G'->G r=none->G' r=some (.lst ws)->Q (.ref r) G'
theorem Fr.mono {ws:List W} {G:Hw} {Q Q':Q3} (k:∀ w G',Q w G'->Q' w G') (h:Fr ws G Q):Fr ws G Q':=fun r G' a b c=>k _ _ (h r G' a b c)
structure Cl (K:yZ) (CQ:Nat->Addr):Prop where
 xk:L3.XK K
 xc:PySem.W.XC K (CQ 1)
 one:PySem.W.kitOne K (.ref (CQ 1)) (.ref (CQ 1))=some true
 no:∀ i∈[0,3,9,4,6,8,5,2,7],PySem.W.kitOne K (.ref (CQ 1)) (.ref (CQ i))=some false
 val:PySem.W.kitOne K (.ref (CQ 1)) (.type "ValueError")=some true
 hd:PySem.W.hasDictIn K (CQ 1)=true
 row:findIn K (.ref (CQ 1)) "row" = some none
 ib:PySem.W.kitOne K (.type "int") (.type "bool")=some false
 ss:PySem.W.kitOne K (.type "str") (.type "str")=some true
 ns:∀ T∈["NoneType", "int", "bool", "list", "tuple"],PySem.W.kitOne K (.type T) (.type "str")=some false
def zd8 (G:Hw) (w:W):Prop:=∃ T∈["NoneType", "int", "bool", "list", "tuple"],tyO G w=some T
def RefW (G:Hw) (w:W) (k:Nat):Prop:=(zd8 G w/\k=0)\/∃ t,w=.str t/\t.length<=1000/\go (vw t) 1 []=some k
def yG (R:List Str):List Nat:=(List.range R.length).filter fun i=>nb (R.getD i "")
def qW (l:List Nat):List W:=l.map fun n:Nat=>.int (n:Int)
section
variable (K : yZ) (C : Addr) (CQ : Nat → Addr)
def tP:sV:=fun ws G Q _=>∃ (p:Addr) (x:Bk),ws=.ref p::Bk.ws x/\G p=some (.ins C [])/\Q .non (put G p (.ins C x.fs))
def za7:sV:=mkSp C (tP C) []
def fK:sV:=fun ws G Q _=>∃ (p:Addr) (kvs:List (yH×W)) (r1 r2 r3 r4:Addr) (x:Bk),ws=[.ref p]/\G p=some (.dic kvs)/\(vA kvs (.inr "first answers")=some (.ref r1)/\vA kvs (.inr "first doubts")=some (.ref r2)/\vA kvs (.inr "first speaks")=some (.ref r3)/\vA kvs (.inr "other speaks")=some (.ref r4)) /\
 (G r1=some (.lst [.str x.a,.str x.b])/\G r2=some (.lst [.str x.c])/\G r3=some (.lst [.str x.e])/\G r4=some (.lst [.str x.f]))/\∀ q,G q=none->Q (.ref q) (put G q (.ins C x.fs))
def rX:sV:=fun ws G Q _=>∃ x:Str,ws=[.str x]/\x.length<=2000/\Fr ((qX x).map .str) G Q
def fJ:sV:=fun ws G Q _=>∃ (r:Addr) (s:Str) (ss:List Str),ws=[.str s,.ref r]/\G r=some (.lst (ss.map .str))/\ss.length<=1100/\∀ G',zK [] G G'->Q (.bl (fitB s ss)) G'
def xNo (k:Nat):W:=.exc (CQ 1) ["row"] [.int k]
def wR:SpX:=fun ws G Q E=>(∃ w,ws=[w]/\zd8 G w/\∀ G',zK [] G G'->E (xNo CQ 0) G')\/(∃ (t:Str) (k:Nat),ws=[.str t]/\t.length<=1000/\go (vw t) 1 []=some k/\∀ G',zK [] G G'->E (xNo CQ k) G') \/
 ∃ (t:Str) (x:Bk),ws=[.str t]/\t.length<=1000/\x.Ok/\((vw t).filter fun w=>!w.isEmpty).Perm x.rows/\∀ q G',zK [] G G'->G q=none->G' q=some (.ins C x.fs)->Q (.ref q) G'
def fL:sV:=fun ws G Q _=>∃ (p:Addr) (x:Bk),ws=[.ref p]/\G p=some (.ins C (Bk.fs x))/\x.Ok/\∀ G',zK [] G G'->Q (.str x.show) G'
def uQ:sV:=fun ws G Q _=>∃ (d l:Addr) (r:Str),ws=[.ref d,.str r]/\jT G d l/\Rw r/\∀ (u:Str) G',Rw u->sr u=sr r->zK [d,l] G G'->jT G' d l->Q (.str u) G'
def bY:sV:=fun ws G Q _=>∃ (w:W) (k:Nat),ws=[w,.int k]/\RefW G w k/\∀ G',zK [] G G'->Q (.bl true) G'
def zcW:sV:=fun ws G Q _=>∃ (d l:Addr),ws=[.ref d]/\jT G d l/\∀ u∈badL,∀ G',zK [d,l] G G'->jT G' d l->Q (.str u) G'
def zcX:sV:=fun ws G Q _=>∃ (d l rr pp:Addr) (R:List Str) (x:Bk) (i:Nat),ws=[.ref d,.ref rr,.ref pp,.int i]/\jT G d l/\rr∉[d,l]/\pp∉[d,l]/\G rr=some (.lst (R.map .str))/\G pp=some (.lst (qW (yG R)))/\RsOk x R/\R.length<=12/\i∈yG R /\
 ∀ G',zK [d,l] G G'->jT G' d l->Q (.bl true) G'
def fnL:List Fn3:=[eMax,eLen,eAll,eLst,eIsx K,zgz,ziS,⟨"show_book", fL C⟩,⟨"Book", za7 C⟩,⟨"made_book", fK C⟩,⟨"words_between_blanks", rX⟩,⟨"fits", fJ⟩,⟨"read_book", fun ws G Q _=>wR C CQ ws G Q fun _ _=>False⟩,zb9,⟨"_law_turned", uQ⟩,⟨"_law_refused", bY⟩,⟨"_law_bad_row", zcW⟩,⟨"_law_all_refused", zcX⟩]
def GamL (l:List Fn3):Ctx3:=⟨l,[("CHOICES", .dcf fX chV),("bool", .ty "bool"),("str", .ty "str"),("ValueError", .ty "ValueError"),("NoText", .ref (CQ 0)),("NoBook", .ref (CQ 1)),("NotLet", .ref (CQ 2)),("NoMove", .ref (CQ 3)),("NoPlan", .ref (CQ 4)),("NoTalker", .ref (CQ 5)),("NoPaper", .ref (CQ 6)),("NoWeb", .ref (CQ 7)),("NoRow", .ref (CQ 8)),("NoName", .ref (CQ 9))],
 [ePop,sM,eApp,sX,dI,zdZ],[eZpi,eEn],[(C,jQ)],
 [eRev,⟨xfM "row", xfS K "row"⟩,⟨emM,emS⟩,⟨vB [some "first answers ", none,some " ", none],mM [some "first answers ", none,some " ", none]⟩,⟨vB [some "first doubts ", none],mM [some "first doubts ", none]⟩,⟨vB [some "first speaks ", none],mM [some "first speaks ", none]⟩,⟨vB [some "other speaks ", none],mM [some "other speaks ", none]⟩],[⟨enkM,enkI⟩]⟩
def xV (n:Nat):Ctx3:=GamL K C CQ ((fnL K C CQ).take n)
def sU (l:List Fx3) (T:Addr):CtxX:=⟨l,[⟨"NoBook", CQ 1,some "row"⟩],[⟨"TalkError", T,[CQ 1]⟩]⟩
end
theorem at_0 {a:W} {l:List W}:rQ (a::l) 0=some a:=by
 unfold rQ;have:ixN (a::l).length 0=some 0:=by simp [ixN]
 rw [this];rfl
theorem sz (n:Nat) (h:n<=3000):n<=sizeLine:=by rw [sizeLine_eq];omega
theorem gZ {α:Type} {a:α} {l:List α}:(a::l)[0]?=some a:=rfl
theorem gS {α:Type} {a:α} {l:List α} {i:Nat}:(a::l)[i+1]?=l[i]?:=rfl
theorem tZ {α:Type} {a b:α} {l:List α}:(a::l).set 0 b=b::l:=rfl
theorem tS {α:Type} {a b:α} {l:List α} {i:Nat}:(a::l).set (i+1) b=a::l.set i b:=rfl
theorem wU {Γ:Ctx3} {E:XQ} {s:IS} {ss:ISs} {D:End3} {σ:xD} {G:Hw} (h:zP Γ E s { D with nx:=yQ Γ E ss D } σ G):yQ Γ E (.cons s ss) D σ G:=h
theorem stn {Γ:Ctx3} {E:XQ} {D:End3} {σ:xD} {G:Hw} (h:D.nx σ G):yQ Γ E .nil D σ G:=h
theorem tyL {G:Hw} {o:Addr} {l:List W} (e:G o=some (.lst l)):tyW G (.ref o) "list" := by simp only [tyW,e]
theorem appL {G:Hw} {o:Addr} {l:List W} {y:W} {Q:Q3} (e:G o=some (.lst l)) (hl:l.length<1000) (h:Q .non (put G o (.lst (l++[y])))):appS (.ref o) [y] G Q:=by
 simp only [appS,e];exact ⟨by rw [sizeLine_eq];omega,h⟩
theorem ixL {G:Hw} {t:Addr} {xs:List W} {i:Int} {Q:Q3} (e:yU G t=some xs) (h:match rQ xs i with|some w=>Q w G|none=>False):rS (.ref t) (.int i) G Q:=by
 unfold yU at e
 split at e
 .rename_i q;cases e;simp only [rS,q];exact h
 .rename_i q;cases e;simp only [rS,q];exact h
 .cases e
theorem xB {G:Hw} {t:Addr} {xs:List W} (e:G t=some (.lst xs)):yU G t=some xs:=by unfold yU;rw [e]
theorem seqL {G:Hw} {t:Addr} {xs:List W} (e:G t=some (.lst xs)):wX G (.ref t)=some xs:=by simp only [wX,xB e]
theorem sW {S:List Addr} {G G':Hw} {d l:Addr} (k:zK S G G') (hd:d∉S) (hl:l∉S) (D:jT G d l):jT G' d l:=by
 obtain ⟨x,y,z,D⟩:=D;exact ⟨x,y,z,k _ _ hd D.dic,k _ _ hl D.lst,D.s0,D.s1,D.n0,D.lf,D.len,D.ne⟩
theorem zd3 {G:Hw} {d l p:Addr} {o:O} (h:G p=none) (D:jT G d l):jT (put G p o) d l:=sW (S:=[]) (zK.new h) (by simp) (by simp) D
theorem ziV {G G':Hw} {d l:Addr} (k:zK [] G G') (D:jT G d l):jT G' d l:=sW k (by simp) (by simp) D
theorem zin {S:List Addr} {G G':Hw} (k:zK [] G G'):zK S G G':=fun a u _ e=>k a u (by simp) e
theorem k0 {G G':Hw} (k:zK [] G G') {p:Addr} {o:O} (h:G p=some o):G' p=some o:=k _ _ (by simp) h
theorem mZ {G:Hw} {p r:Addr} {o u:O} (hr:G r=none) (h:G p=some o):put G r u p=some o:=k0 (zK.new hr) h
theorem jA {G:Hw} {a p:Addr} {o:O} (e:G a=some o) (h:G p=none):a≠p:=fun z=>by rw [z,h] at e;cases e
theorem zbr {G:Hw} {d l p:Addr} (D:jT G d l) (h:G p=none):p∉[d,l]:=by
 obtain ⟨_,_,_,D⟩:=D;simp only [List.mem_cons,List.not_mem_nil,or_false,not_or];exact ⟨fun e=>(by rw [e,D.dic] at h;cases h),fun e=>(by rw [e,D.lst] at h;cases h)⟩
theorem dQ {S:List Addr} {G G':Hw} {p:Addr} {o:O} (k:zK S G G') (h:G p=none):zK S G (put G' p o):=fun a u ha e=>by
 rw [xO (jA e h)];exact k a u ha e
theorem zgD {G:Hw} {d l p:Addr} {o:O} (h:p∉[d,l]) (D:jT G d l):jT (put G p o) d l:=by
 simp only [List.mem_cons,List.not_mem_nil,or_false,not_or] at h;exact sW (S:=[p]) (zK.put (by simp)) (by simpa using Ne.symm h.1) (by simpa using Ne.symm h.2) D
theorem addS {a b:Str} {G:Hw} {Q:Q3} (h:a.length+b.length<=3000) (q:Q (.str (a++b)) G):wI .Add (.str a) (.str b) G Q:=⟨sz _ h,q⟩
section
variable {K : yZ} {C : Addr} {CQ : Nat → Addr}
theorem vI {f:Str} (h:f∈jQ) (n:Nat):∃ l,(C,l)∈(xV K C CQ n).cl/\f∈l:=⟨jQ,by simp [xV,GamL],h⟩
theorem m_a:("answers" : Str)∈jQ:=by decide +kernel
theorem m_b:("again" : Str)∈jQ:=by decide +kernel
theorem m_c:("doubts" : Str)∈jQ:=by decide +kernel
theorem m_e:("speaks" : Str)∈jQ:=by decide +kernel
theorem m_f:("other" : Str)∈jQ:=by decide +kernel
theorem zb2 {G:Hw} {a b:Str}:eqG G (.str a) (.str b)=some (decide (a=b)):=by
 simp [eqG,uS,nG,vQ,Bool.beq_eq_decide_eq]
theorem jZ {n i:Nat} {f:Fn3} (h:i<n) (e:(fnL K C CQ)[i]?=some f):(xV K C CQ n).fn[i]?=some f:=by
 show ((fnL K C CQ).take n)[i]?=_;rw [List.getElem?_take_of_lt h];exact e
theorem zdI {n:Nat} {ws:List W} {G:Hw} {Q:Q3} (h:tP C ws G Q XN):yQ (xV K C CQ n) XN uZ { nx:=fun _ G'=>Q .non G',rt:=Q } (yN qE ws) G:=by
 obtain ⟨p,x,rfl,hp,h⟩:=h;simp only [uZ,yQ,zP,zT,zO,zE,yW,yN,qE,Bk.ws,zzU,zzV,List.length_cons,List.length_nil,List.cons_append,List.nil_append,List.getElem?_cons_zero,List.getElem?_cons_succ,satR,hp,zR,zbe];have q1:jE ("answers" : Str) (W.str x.a) []=([("answers", .str x.a)]:List (Str×W)):=rfl
 have q2:jE ("again" : Str) (W.str x.b) [("answers", .str x.a)]=([("answers", .str x.a),("again", .str x.b)]:List (Str×W)):=by
  simp [jE,show ¬ (("answers" : Str) = "again") by decide +kernel]
 have q3:jE ("doubts" : Str) (W.str x.c) [("answers", .str x.a),("again", .str x.b)]=([("answers", .str x.a),("again", .str x.b),("doubts", .str x.c)]:List (Str×W)):=by
  simp [jE,show ¬ (("answers" : Str) = "doubts") by decide +kernel,show ¬ (("again" : Str) = "doubts") by decide +kernel]
 have q4:jE ("speaks" : Str) (W.str x.e) [("answers", .str x.a),("again", .str x.b),("doubts", .str x.c)]=([("answers", .str x.a),("again", .str x.b),("doubts", .str x.c),("speaks", .str x.e)]:List (Str×W)):=by
  simp [jE,show ¬ (("answers" : Str) = "speaks") by decide +kernel,show ¬ (("again" : Str) = "speaks") by decide +kernel,show ¬ (("doubts" : Str) = "speaks") by decide +kernel]
 have q5:jE ("other" : Str) (W.str x.f) [("answers", .str x.a),("again", .str x.b),("doubts", .str x.c),("speaks", .str x.e)]=x.fs:=by
  unfold Bk.fs;simp [jE,show ¬ (("answers" : Str) = "other") by decide +kernel,show ¬ (("again" : Str) = "other") by decide +kernel,show ¬ (("doubts" : Str) = "other") by decide +kernel,show ¬ (("speaks" : Str) = "other") by decide +kernel]
 rw [q1,q2,q3,q4,q5];exact ⟨vI m_a n,by decide,vI m_b n,by show 1<1000;decide,vI m_c n,by show 2<1000;decide,vI m_e n,by show 3<1000;decide,vI m_f n,by show 4<1000;decide,h⟩
theorem zgN {x:Bk} {G:Hw} {Q:Q3} (h:∀ p,G p=none->Q (.ref p) (put G p (.ins C x.fs))):za7 C (Bk.ws x) G Q XN:=fun p hp=>⟨p,x,by rw [List.append_nil],zR,rfl,by rw [zbe];exact h p hp⟩
end
theorem LA.len {x:Str} (h:LA x):x.length<=5:=by rcases h with rfl|rfl<;>decide +kernel
theorem OO.len {x:Str} (h:OO x):x.length<=5:=by rcases h with rfl|rfl<;>decide +kernel
theorem zbL {sep:Str} {ts:List Str} {n:Nat} (h:∀ y∈ts,y.length<=n) (hz:ts.length * n+ts.length * sep.length<=16777216):JoinOk sep ts=true:=by
 unfold JoinOk;rw [StrLaws.joinFits h hz];rfl
theorem l_fa:(("first answers " : Str)).length=14:=by decide +kernel
theorem l_fd:(("first doubts " : Str)).length=13:=by decide +kernel
theorem l_fs:(("first speaks " : Str)).length=13:=by decide +kernel
theorem l_os:(("other speaks " : Str)).length=13:=by decide +kernel
theorem l_1:((" " : Str)).length=1:=by decide +kernel
theorem l_n:(("\n" : Str)).length=1:=by decide +kernel
theorem l_0:Str.empty.length=0:=rfl
theorem Bk.Ok.txt {x:Bk} (h:x.Ok):∀ y∈x.txt,y.length<=40:=by
 have a:=h.a.len;have b:=h.b.len;have c:=h.c.len;have e:=h.e.len;have f:=h.f.len;intro y hy;simp only [Bk.txt,List.mem_cons,List.not_mem_nil,or_false] at hy;rcases hy with rfl|rfl|rfl|rfl<;>simp only [strLen_append,l_fa,l_fd,l_fs,l_os,l_1]<;>omega
section
variable {K : yZ} {C : Addr} {CQ : Nat → Addr}
theorem zcZ {n:Nat} {ws:List W} {G:Hw} {Q:Q3} (h:fL C ws G Q XN):yQ (xV K C CQ n) XN nQ { nx:=fun _ G'=>Q .non G',rt:=Q } (yN qH ws) G:=by
 obtain ⟨p,x,rfl,hp,ok,h⟩:=h;have m1:(xV K C CQ n).mt[1]?=some sM:=rfl;have x3:(xV K C CQ n).sx[3]?=some ⟨vB [some "first answers ", none,some " ", none],mM [some "first answers ", none,some " ", none]⟩:=rfl;have x4:(xV K C CQ n).sx[4]?=some ⟨vB [some "first doubts ", none],mM [some "first doubts ", none]⟩:=rfl;have x5:(xV K C CQ n).sx[5]?=some ⟨vB [some "first speaks ", none],mM [some "first speaks ", none]⟩:=rfl;have x6:(xV K C CQ n).sx[6]?=some ⟨vB [some "other speaks ", none],mM [some "other speaks ", none]⟩:=rfl;have la:=ok.a.len;have lb:=ok.b.len;have lc:=ok.c.len;have le:=ok.e.len;have lf:=ok.f.len;refine wU ?_
 ((try dsimp only [zP,zT,zO,zE,yW,yL,yK,zM,zV,zL,zU,zX,zS,zN,zH,zJ,yO,zI,gZ,gS,tZ,tS]);try simp only [yN,qH,zzU,zzV,List.length_cons,List.length_nil,List.cons_append,List.nil_append,List.getElem?_cons_zero,List.getElem?_cons_succ,attR,hp,lk_a,lk_b,lk_c,lk_e,lk_f,m1,x3,x4,x5,x6])
 refine ⟨rfl,vI m_a n,vI m_b n,[x.a,x.b],rfl,?_,?_⟩
 .simp only [qS,strLen_append,l_fa,l_1,l_0];omega
 simp only [hp,lk_c];refine ⟨vI m_c n,[x.c],rfl,?_,?_⟩
 .simp only [qS,strLen_append,l_fd,l_0];omega
 simp only [hp,lk_e];refine ⟨vI m_e n,[x.e],rfl,?_,?_⟩
 .simp only [qS,strLen_append,l_fs,l_0];omega
 simp only [hp,lk_f];refine ⟨vI m_f n,[x.f],rfl,?_,sz _ (by decide),fun r hr=>?_⟩
 .simp only [qS,strLen_append,l_os,l_0];omega
 have e:[qS [some "first answers ", none,some " ", none] [x.a,x.b],qS [some "first doubts ", none] [x.c],qS [some "first speaks ", none] [x.e],qS [some "other speaks ", none] [x.f]]=x.txt:=by
  simp only [qS,Bk.txt,zeT,zcv]
 refine ⟨x.txt,by rw [xB zR,← e];rfl,zbL ok.txt (by rw [l_n];show 4 * 40+4 * 1<=_;decide),h _ (zK.new hr)⟩
theorem zfX {items:List W} {stab:Hw->Prop} {G:Hw} {turn:W->Hw->(Option W->Hw->Prop)->Prop} {Q:Q3} (g:Nat->Option W) (hl:items.length<=3000) (st:∀ G',zK [] G G'->stab G')
  (step:∀ i w G' (k:Option W->Hw->Prop),items[i]?=some w->zK [] G G'->(∀ G'',zK [] G G''->k (g i) G'')->turn w G' k)
  (fin:∀ G' r,zK [] G G'->G' r=none->Q (.ref r) (put G' r (.lst ((List.range items.length).filterMap g)))):lcR items stab G turn Q:=by
 refine ⟨fun i acc G'=>zK [] G G'/\acc=(List.range i).filterMap g,⟨zK.refl,rfl⟩,?_,sz _ hl,?_,?_⟩
 .rintro i acc G' ⟨k,rfl⟩ _;exact ⟨st G' k,Nat.le_trans (List.length_filterMap_le _ _) (Nat.le_of_eq List.length_range)⟩
 .rintro i w acc G' hw ⟨k,rfl⟩;refine step i w G' _ hw k fun G'' k'=>?_
  have e:(List.range (i+1)).filterMap g=(List.range i).filterMap g++(g i).toList:=by
   rw [List.range_succ,List.filterMap_append];cases h:g i<;>simp [h]
  cases hg:g i with
  |some x=>exact ⟨k',by rw [e,hg];rfl⟩
  |none=>exact ⟨k',by rw [e,hg];simp⟩
 .rintro acc G' ⟨k,rfl⟩ r hr;exact fin G' r k hr
theorem dL {α:Type} (c:α->W) (f:α->Bool):∀ l:List α,l.filterMap (fun x=>if f x=true then some (c x) else none)=(l.filter f).map c
 | []=>rfl
 |x::l=>by
  have ih:=dL c f l;rw [List.filterMap_cons,List.filter_cons]
  by_cases h:f x=true
  .rw [if_pos h,if_pos h,zzU,← ih]
  .rw [if_neg h,if_neg h,← ih]
theorem zeB {α:Type} {items:List W} {stab:Hw->Prop} {G:Hw} {turn:W->Hw->(Option W->Hw->Prop)->Prop} {Q:Q3} (l:List α) (c:α->W) (f:α->Bool) (hi:items=l.map c) (hl:l.length<=3000) (st:∀ G',zK [] G G'->stab G')
  (step:∀ x∈l,∀ G' (k:Option W->Hw->Prop),zK [] G G'->(∀ G'',zK [] G G''->k (if f x=true then some (c x) else none) G'')->turn (c x) G' k)
  (fin:∀ G' r,zK [] G G'->G' r=none->Q (.ref r) (put G' r (.lst ((l.filter f).map c)))):lcR items stab G turn Q:=by
 subst hi
 have e:(List.range (l.map c).length).filterMap (fun i=>(l[i]?).bind fun x=>if f x=true then some (c x) else none)=(l.filter f).map c:=by
  rw [zzM,← dL];have h:=List.filterMap_getElem?_range_length l
  conv=>rhs;rw [← h]
  rw [List.filterMap_filterMap]
 refine zfX (fun i=>(l[i]?).bind fun x=>if f x=true then some (c x) else none) (by rw [zzM];exact hl) st (fun i w G' k hw kp hk=>?_) (fun G' r kp hr=>by rw [e];exact fin G' r kp hr);rw [List.getElem?_map] at hw;obtain ⟨x,hx,rfl⟩:=Option.map_eq_some_iff.mp hw;rw [hx] at hk;exact step x (List.mem_of_getElem? hx) G' k kp hk
theorem rR {c:Nat}:∀ {l p:List Nat},p∈tW c l->p.length<=l.length
 | [],p,h=>by simp [tW] at h;subst h;exact zzR _
 |x::r,p,h=>by
  unfold tW at h
  split at h
  .rcases List.mem_cons.mp h with rfl|h
   .exact Nat.zero_le _
   .exact Nat.le_succ_of_le (rR h)
  .split at h
   .rename_i a t e;rcases List.mem_cons.mp h with rfl|h
    .exact Nat.succ_le_succ (rR (by rw [e];exact zzT))
    .exact Nat.le_succ_of_le (rR (by rw [e];exact List.mem_cons_of_mem _ h))
   .rename_i e;exact absurd e (zeO c r)
theorem zfk:(" " : Str)=⟨#[32]⟩:=by decide +kernel
theorem rF {x w:Str} {c:Nat} (h:w∈Txt.split x ⟨#[c]⟩):w.length<=x.length:=by
 have:=List.mem_map_of_mem (f:=fun s:Str=>s.cps.toList) h;rw [hV] at this;have:=rR this;simpa [Str.length] using this
theorem zaV (x:Str):(Txt.split x " ").filter (fun w=>(w.length:Int) != 0)=qX x:=by
 rw [zfk,bZ,qX,wd,List.filter_map];show List.map mkS _=_;congr 1;apply List.filter_congr;intro l _;show ((l.toArray.size:Int) != 0)=!l.isEmpty;cases l<;>simp
 omega
theorem zaU {n:Nat} {ws:List W} {G:Hw} {Q:Q3} (h:rX ws G Q XN):yQ (xV K C CQ n) XN wD { nx:=fun _ G'=>Q .non G',rt:=Q } (yN xW ws) G:=by
 obtain ⟨x,rfl,hx,h⟩:=h;have m3:(xV K C CQ n).mt[3]?=some sX:=rfl;refine wU ?_
 ((try dsimp only [zP,zT,zO,zE,yW,yL,yK,zM,zV,zL,zU,zX,zS,zN,zH,zJ,yO,zI,gZ,gS,tZ,tS]);try simp only [yN,xW,zzU,zzV,List.length_cons,List.length_nil,List.cons_append,List.nil_append,List.getElem?_cons_zero,List.getElem?_cons_succ,m3])
 refine ⟨rfl,by decide +kernel,by omega,fun r hr=>?_⟩;simp only [vJ,xB zR];have hl:=vU x " ";refine zeB (Txt.split x " ") W.str (fun w=>(w.length:Int) != 0) rfl (by omega) (fun G' k=>xB (k0 k zR)) (fun w hw G' k kp hk=>?_) (fun G' q kp hq=>?_)
 .have lw:w.length<=sizeLine:=sz _ (Nat.le_trans (rF (by rw [zfk] at hw;exact hw)) (by omega));show (match jJ G' (.str w) with|some b=>if b=true then k (some (.str w)) G' else k none G'|none=>False);have hk:=hk G' kp;simp only [jJ,lw,if_true]
  by_cases e:((w.length:Int) != 0)=true
  .rw [if_pos e] at hk ⊢;exact hk
  .rw [if_neg e] at hk ⊢;exact hk
 .rw [zaV];exact h q _ (((zK.new hr).trans kp).trans (zK.new hq)) (zK.none ((zK.new hr).trans kp) (by simp) hq) zR
theorem zdr {n:Nat} (hn:9<=n) {ws:List W} {G:Hw} {Q:Q3} (h:fK C ws G Q XN):yQ (xV K C CQ n) XN nO { nx:=fun _ G'=>Q .non G',rt:=Q } (yN jM ws) G:=by
 obtain ⟨p,kvs,r1,r2,r3,r4,x,rfl,hp,⟨d1,d2,d3,d4⟩,⟨g1,g2,g3,g4⟩,h⟩:=h;have e8:(xV K C CQ n).fn[8]?=some ⟨"Book", za7 C⟩:=jZ (by omega) rfl;refine wU ?_
 ((try dsimp only [zP,zT,zO,zE,yW,yL,yK,zM,zV,zL,zU,zX,zS,zN,zH,zJ,yO,zI,gZ,gS,tZ,tS]);try simp only [yN,jM,zzU,zzV,List.length_cons,List.length_nil,List.cons_append,List.nil_append,List.getElem?_cons_zero,List.getElem?_cons_succ,rS,hp,kA,d1,unl,xB g1])
 refine wU ?_
 ((try dsimp only [zP,zT,zO,zE,yW,yL,yK,zM,zV,zL,zU,zX,zS,zN,zH,zJ,yO,zI,gZ,gS,tZ,tS]);try simp only [yN,jM,zzU,zzV,List.length_cons,List.length_nil,List.cons_append,List.nil_append,List.getElem?_cons_zero,List.getElem?_cons_succ,rS,hp,kA,d2,d3,d4,g2,g3,g4,at_0,e8])
 exact zgN (x:=x) h
theorem cJ {α β:Type} (f:α->β):∀ (l:List Str) (m:List α) (s:Str),l.length=m.length->(l.zip (m.map f)).lookup s=((l.zip m).lookup s).map f
 | [],_,_,_=>rfl
 |_::_,[],_,h=>by cases h
 |k::l,a::m,s,h=>by
  show List.lookup s ((k,f a)::(l.zip (m.map f)))=(List.lookup s ((k,a)::l.zip m)).map f;rw [List.lookup_cons,List.lookup_cons];cases s==k
  .exact cJ f l m s (Nat.succ.inj h)
  .rfl
theorem zeR (s:Str):(fX.zip chV).lookup s=((fX.zip chC).lookup s).map chW:=cJ chW fX chC s rfl
theorem ziX {s:Str} {cs:List (List Str)} (h:(fX.zip chC).lookup s=some cs):cs.length<=2:=by
 have:∀ p∈fX.zip chC,p.2.length<=2:=by decide +kernel
 have m:=L2.lookup_mem h;exact this _ m
theorem memW {G:Hw} {Q:Q3} (x:Str) (c:List Str) (q:Q (.bl (c.contains x)) G):uL false (.str x) (.tup (c.map .str)) G Q:=by
 have e1:∀ c:List Str,wA (c.map W.str)=true:=fun c=>by induction c with|nil=>rfl|cons a l ih=>simp only [zzU,wA,uS,ih,Bool.and_self]
 have e2:∀ c:List Str,kO (c.map W.str)<=0:=fun c=>by induction c with|nil=>exact zzR _|cons a l ih=>simp only [zzU,kO,nG];omega
 refine ⟨⟨by simp [uS],e1 c,?_⟩,?_⟩
 .have:=e2 c;omega
 have e:((c.map W.str).any fun w=>vQ w (.str x))=c.contains x:=by
  rw [List.any_map,List.contains_eq_any_beq];congr 1
  funext a
  simp [vQ,Bool.beq_comm]
 rw [e];exact q
theorem uF {α:Type} {l:List α} {i:Nat} (d:α) (h:i<l.length):l.getD i d=l[i]:=by simp [List.getD,List.getElem?_eq_getElem h]
theorem zdO {n:Nat} (hn:3<=n) {ws:List W} {G:Hw} {Q:Q3} (h:fJ ws G Q XN):yQ (xV K C CQ n) XN ziZ { nx:=fun _ G'=>Q .non G',rt:=Q } (yN gP ws) G:=by
 obtain ⟨r,s,ss,rfl,hr,hz,h⟩:=h;have e1:(xV K C CQ n).fn[1]?=some eLen:=jZ (by omega) rfl;have e2:(xV K C CQ n).fn[2]?=some eAll:=jZ (by omega) rfl;have g0:(xV K C CQ n).gl[0]?=some (("CHOICES" : Str),W.dcf fX chV):=rfl;have i0:(xV K C CQ n).it[0]?=some eZpi:=rfl;refine wU ?_
 cases ec:(fX.zip chC).lookup s with
 |none =>
  have hb:fitB s ss=false:=by unfold fitB;rw [ec]
  have ev:(fX.zip chV).lookup s=none:=by rw [zeR,ec];rfl
  ((try dsimp only [zP,zT,zO,zE,yW,yL,yK,zM,zV,zL,zU,zX,zS,zN,zH,zJ,yO,zI,gZ,gS,tZ,tS]);try simp only [yN,gP,zzU,zzV,List.length_cons,List.length_nil,List.cons_append,List.nil_append,List.getElem?_cons_zero,List.getElem?_cons_succ,g0,xI,uL,ev,Option.isSome_none,Bool.not_false,if_true])
  refine wU ?_
  (try dsimp only [zP,zT,zO,zE,yW,yL,yK,zM,zV,zL,zU,zX,zS,zN,zH,zJ,yO,zI,gZ,gS,tZ,tS])
  have:=h G zK.refl
  rwa [hb] at this
 |some cs =>
  have ev:(fX.zip chV).lookup s=some (chW cs):=by rw [zeR,ec];rfl
  have few:=ziX ec;have eb:fitB s ss=(decide (ss.length=cs.length)&&(List.zipWith (fun w (c:List Str)=>c.contains w) ss cs).all id):=by unfold fitB;rw [ec]
  ((try dsimp only [zP,zT,zO,zE,yW,yL,yK,zM,zV,zL,zU,zX,zS,zN,zH,zJ,yO,zI,gZ,gS,tZ,tS]);try simp only [yN,gP,zzU,zzV,List.length_cons,List.length_nil,List.cons_append,List.nil_append,List.getElem?_cons_zero,List.getElem?_cons_succ,g0,xI,uL,ev,Option.isSome_some,Bool.not_true,if_true,zzB,if_false,e1,tE,tF,hr,rS,chW])
  have eq:eqG G (W.int ((ss.map W.str).length:Nat)) (W.int ((cs.map fun c=>W.tup (c.map .str)).length:Nat))=some (decide (ss.length=cs.length)):=by
   rw [zzM,zzM];simp only [eqG,uS,nG,vQ]
   have:((ss.length:Int)==(cs.length:Int))=decide (ss.length=cs.length):=by
    rw [Bool.beq_eq_decide_eq,decide_eq_decide];omega
   simp [this]
  rw [eq]
  by_cases hl:ss.length=cs.length
  .rw [decide_eq_true hl] at eb ⊢;rw [Bool.true_and] at eb;simp only [Bool.not_true,zzB,if_false];refine stn (wU ?_)
   ((try dsimp only [zP,zT,zO,zE,yW,yL,yK,zM,zV,zL,zU,zX,zS,zN,zH,zJ,yO,zI,gZ,gS,tZ,tS]);try simp only [g0,i0,e2,rS,ev,chW,yN,gP,zzU,zzV,List.length_cons,List.length_nil,List.cons_append,List.nil_append])
   refine ⟨ss.map .str,cs.map fun c=>.tup (c.map .str),seqL hr,rfl,?_⟩;have len:(List.zipWith (fun a b=>W.tup [a,b]) (ss.map W.str) (cs.map fun c=>W.tup (c.map .str))).length=ss.length:=by rw [List.length_zipWith,zzM,zzM,hl,Nat.min_self]
   refine zfX (fun i=>some (.bl ((cs.getD i []).contains (ss.getD i "")))) (by rw [len];omega) (fun G' k=>⟨seqL (k0 k hr),rfl⟩) (fun i w G' k hw kp hk=>?_) (fun G' q kp hq=>?_)
   .have hi:i<ss.length:=by
     have:=(List.getElem?_eq_some_iff.mp hw).1
     rwa [len] at this
    have hi2:i<cs.length:=hl▸hi;rw [List.getElem?_zipWith,List.getElem?_map,List.getElem?_map,List.getElem?_eq_getElem hi,List.getElem?_eq_getElem hi2] at hw;have hw:W.tup [.str ss[i],.tup (cs[i].map .str)]=w:=by simpa using hw
    subst hw;have:=hk G' kp;rw [uF _ hi,uF _ hi2] at this;exact memW (Q:=fun y G2=>k (some y) G2) _ _ this
   .refine ⟨List.zipWith (fun w (c:List Str)=>c.contains w) ss cs,?_,?_⟩
    .rw [xB zR,len,List.filterMap_eq_map'];congr 1;apply List.ext_getElem?;intro i;rw [List.getElem?_map,List.getElem?_map,List.getElem?_zipWith]
     by_cases hi:i<ss.length
     .have hi2:i<cs.length:=hl▸hi;rw [List.getElem?_range hi,List.getElem?_eq_getElem hi,List.getElem?_eq_getElem hi2];simp only [Option.map_some,uF _ hi,uF _ hi2]
     .rw [List.getElem?_eq_none (by simp;omega),List.getElem?_eq_none (show ss.length<=i by omega)];rfl
    .dsimp only;rw [← eb];exact h _ (kp.trans (zK.new hq))
  .rw [decide_eq_false hl] at eb ⊢;rw [Bool.false_and] at eb;simp only [Bool.not_false,if_true];refine wU ?_
   (try dsimp only [zP,zT,zO,zE,yW,yL,yK,zM,zV,zL,zU,zX,zS,zN,zH,zJ,yO,zI,gZ,gS,tZ,tS])
   have:=h G zK.refl
   rwa [eb] at this
end
inductive Fd (G:Hw):List (yH×W)->List (List Str)->Prop where
 |nil:Fd G [] []
 |snoc {kvs:List (yH×W)} {R:List (List Str)} {ws:List Str} {r:Addr}:Fd G kvs R->G r=some (.lst ((ws.drop 2).map .str))->Fd G (kvs++[(.inr (vV ws),.ref r)]) (R++[ws])
theorem Fd.mono {G G':Hw} {kvs:List (yH×W)} {R:List (List Str)} (h:Fd G kvs R) (k:∀ r l,G r=some (.lst l)->G' r=some (.lst l)):Fd G' kvs R:=by
 induction h with
 |nil=>exact .nil
 |snoc _ e ih=>exact .snoc ih (k _ _ e)
theorem Fd.len {G:Hw} {kvs:List (yH×W)} {R:List (List Str)} (h:Fd G kvs R):kvs.length=R.length:=by
 induction h with
 |nil=>rfl
 |snoc _ _ ih=>simp [ih]
theorem Fd.has {G:Hw} {kvs:List (yH×W)} {R:List (List Str)} {s:Str} (h:Fd G kvs R) (hs:s∉R.map vV):∀ p∈kvs,p.1≠.inr s:=by
 induction h with
 |nil=>intro p hp;cases hp
 | @snoc kvs R ws r _ e ih =>
  rw [List.map_append,List.mem_append,not_or] at hs;intro p hp;rcases List.mem_append.mp hp with hp|hp
  .exact ih hs.1 p hp
  .rw [zzO hp];intro z
   injection z with z
   exact hs.2 (by simp [z])
theorem Fd.get {G:Hw} {kvs:List (yH×W)} {R:List (List Str)} (h:Fd G kvs R):(R.map vV).Nodup->∀ ws∈R,∃ r,vA kvs (.inr (vV ws))=some (.ref r)/\G r=some (.lst ((ws.drop 2).map .str)):=by
 induction h with
 |nil=>intro _ ws hw;cases hw
 | @snoc kvs R ws r f e ih =>
  intro nd us hu;rw [List.map_append] at nd;have nd':=List.nodup_append.mp nd;rcases List.mem_append.mp hu with hu|hu
  .obtain ⟨r',e1,e2⟩:=ih nd'.1 us hu;refine ⟨r',?_,e2⟩;unfold vA at e1 ⊢;rw [List.find?_append];obtain ⟨y,e3,e4⟩:=Option.map_eq_some_iff.mp e1;rw [e3];exact congrArg some e4
  .rw [zzO hu];have no:vV ws∉R.map vV:=fun z=>nd'.2.2 _ z _ (by simp) rfl;refine ⟨r,?_,e⟩;unfold vA;rw [List.find?_append,List.find?_eq_none.mpr (fun p hp=>by simpa using f.has no p hp)];simp
theorem zd1 {kvs:List (yH×W)} {k:yH} {v:W} (h:∀ p∈kvs,p.1≠k):sB kvs k v=kvs++[(k,v)]:=by
 unfold sB;rw [if_neg];rw [Bool.not_eq_true,List.any_eq_false];intro p hp;simp [h p hp]
theorem zgd {kvs:List (yH×W)} {k:yH} (h:∀ p∈kvs,p.1≠k):dN kvs k=false:=by
 unfold dN;rw [List.any_eq_false];intro p hp;simp [h p hp]
theorem Fd.yes {G:Hw} {kvs:List (yH×W)} {R:List (List Str)} {s:Str} (h:Fd G kvs R) (hs:s∈R.map vV):dN kvs (.inr s)=true:=by
 induction h with
 |nil=>cases hs
 | @snoc kvs R ws r _ e ih =>
  unfold dN at ih ⊢;rw [List.any_append,Bool.or_eq_true];rw [List.map_append,List.mem_append] at hs;rcases hs with hs|hs
  .exact .inl (ih hs)
  .right
   have:s=vV ws:=by simpa using hs
   simp [this]
def PR (t:Str) (i:Nat):List (List Str):=((vw t).take i).filter fun w=>!w.isEmpty
theorem cQ (t:Str) {i:Nat} {l:List Str} (h:(vw t)[i]?=some l):PR t (i+1)=if l.isEmpty then PR t i else PR t i++[l]:=by
 unfold PR;rw [List.take_succ,h,Option.toList_some,List.filter_append]
 cases l with
 |nil=>simp
 |cons a b=>simp
theorem zi4 (t:Str) (i:Nat):(PR t i).length<=(vw t).length:=Nat.le_trans (List.length_filter_le _ _) (by rw [List.length_take];omega)
theorem zbV (t:Str) {i:Nat} {l:List Str} (h:(vw t)[i]?=some l):(vw t).drop i=l::(vw t).drop (i+1):=by
 obtain ⟨hi,e⟩:=List.getElem?_eq_some_iff.mp h;rw [List.drop_eq_getElem_cons hi,e]
def At (t:Str) (i:Nat):Prop:=go ((vw t).drop i) (i+1) ((PR t i).map vV)=go (vw t) 1 []
theorem At.zero (t:Str):At t 0:=rfl
theorem At.blank {t:Str} {i:Nat} (h:At t i) (e:(vw t)[i]?=some []):At t (i+1):=by
 unfold At at h ⊢;rw [zbV t e,go,if_pos rfl] at h;rw [cQ t e];exact h
theorem At.bad {t:Str} {i:Nat} {l:List Str} (h:At t i) (e:(vw t)[i]?=some l) (hl:l≠[]) (hb:vV l∈(PR t i).map vV\/ok1 l=false):go (vw t) 1 []=some (i+1):=by
 unfold At at h;rw [zbV t e,go,if_neg hl,if_pos hb] at h;exact h.symm
theorem At.next {t:Str} {i:Nat} {l:List Str} (h:At t i) (e:(vw t)[i]?=some l) (hl:l≠[]) (h1:vV l∉(PR t i).map vV) (h2:ok1 l=true):At t (i+1)/\PR t (i+1)=PR t i++[l]:=by
 have ps:PR t (i+1)=PR t i++[l]:=by
  rw [cQ t e,if_neg]
  cases l with
  |nil=>exact absurd rfl hl
  |cons _ _=>simp
 refine ⟨?_,ps⟩;unfold At at h ⊢;rw [zbV t e,go,if_neg hl,if_neg (fun z=>z.elim h1 fun z=>by rw [h2] at z;cases z)] at h;rw [ps,List.map_append];exact h
theorem At.fin {t:Str} (h:At t (vw t).length):go (vw t) 1 []=if (PR t (vw t).length).length<4 then some ((vw t).length+1) else none:=by
 unfold At at h;rw [List.drop_length,go,zzM] at h;exact h.symm
theorem zgh {t:Str} {x:Bk} (ok:x.Ok) (pm:((vw t).filter fun w=>!w.isEmpty).Perm x.rows):go (vw t) 1 []=none:=by
 have e:∀ A:List Str,(A.map qX).filter (fun w=>!w.isEmpty)=(A.filter nb).map qX:=fun A=>by rw [List.filter_map];rfl
 have hs:(yP (Txt.split t "\n")).Perm fX:=by
  have:=pm.map vV;unfold vw at this;rw [e,List.map_map] at this;refine this.trans ?_;simp only [Bk.rows,zzU,zzV,zcS,zcR,zcQ,zcP];exact .refl _
 have fit:∀ w∈x.rows,ok1 w=true:=by
  obtain ⟨a,b,c,e,f⟩:=x;obtain ⟨ha,hb,hc,he,hf⟩:=ok;dsimp only at ha hb hc he hf;intro w hw;simp only [Bk.rows,List.mem_cons,List.not_mem_nil,or_false] at hw;rcases hw with rfl|rfl|rfl|rfl
  .rcases ha with rfl|rfl<;>rcases hb with rfl|rfl<;>decide +kernel
  .rcases hc with rfl|rfl<;>decide +kernel
  .rcases he with rfl|rfl<;>decide +kernel
  .rcases hf with rfl|rfl<;>decide +kernel
 have:=uI [] (Txt.split t "\n") 1 [] (fun r hr n=>fit _ (pm.mem_iff.mp (by unfold vw;rw [e];exact List.mem_map_of_mem (List.mem_filter.mpr ⟨hr,n⟩)))) (by rw [List.nil_append];exact hs.nodup_iff.mpr (by decide +kernel));rw [List.append_nil,List.nil_append] at this;unfold vw;rw [this,go,if_neg];rw [hs.length_eq]
 decide
theorem cut_2 {α:Type} (l:List α):vR l none (some 2)=l.take 2:=by
 unfold vR HT.xH;dsimp only;rw [if_neg (by omega),List.drop_zero,Nat.sub_zero];show l.take (min 2 l.length)=_;rw [List.take_eq_take_iff];omega
theorem ziW {α:Type} (l:List α):vR l (some 2) none=l.drop 2:=by
 unfold vR HT.xH;dsimp only;rw [if_neg (by omega)];show (l.drop (min 2 l.length)).take (l.length-min 2 l.length)=_;rw [List.take_of_length_le (by rw [List.length_drop];omega)]
 by_cases h:2<=l.length
 .rw [Nat.min_eq_left h]
 .rw [Nat.min_eq_right (by omega),List.drop_length,List.drop_of_length_le (by omega)]
section
variable {Γ : Ctx3} {Δ : CtxX}
theorem rY {E:xD->X3} {s:RT} {ss:RTs} {D:End3} {σ:xD} {G:Hw} (h:wG Γ Δ s E { D with nx:=xS Γ Δ ss E D } σ G):xS Γ Δ (.cons s ss) E D σ G:=by rw [xS];exact h
theorem xtn {E:xD->X3} {D:End3} {σ:xD} {G:Hw} (h:D.nx σ G):xS Γ Δ .nil E D σ G:=by rw [xS];exact h
end
section
variable {K : yZ} {C : Addr} {CQ : Nat → Addr} {T : Addr}
theorem stk (K:yZ) (C:Addr) (CQ:Nat->Addr) (n:Nat) {D:End3} {σ:xD} {G:Hw} (h:D.nx σ G):yQ (xV K C CQ n) XN .nil D σ G:=h
theorem gW {n:Nat} (hn:12<=n) (cl:Cl K CQ) {t:Str} {G:Hw} {Q:Q3} {E:X3} (ht:t.length<=1000) (hE:∀ k,go (vw t) 1 []=some k->∀ G',zK [] G G'->E (xNo CQ k) G')
  (hQ:go (vw t) 1 []=none->∃ x:Bk,x.Ok/\((vw t).filter fun w=>!w.isEmpty).Perm x.rows/\∀ q G',zK [] G G'->G q=none->G' q=some (.ins C x.fs)->Q (.ref q) G') :
  xS (xV K C CQ n) (sU CQ [] T) wM (fun _=>E) { nx:=fun _ G'=>Q .non G',rt:=Q } (yN qG [.str t]) G:=by
 have e1:(xV K C CQ n).fn[1]?=some eLen:=jZ (by omega) rfl;have e4:(xV K C CQ n).fn[4]?=some (eIsx K):=jZ (by omega) rfl;have e5:(xV K C CQ n).fn[5]?=some zgz:=jZ (by omega) rfl;have e9:(xV K C CQ n).fn[9]?=some ⟨"made_book", fK C⟩:=jZ (by omega) rfl;have e10:(xV K C CQ n).fn[10]?=some ⟨"words_between_blanks", rX⟩:=jZ (by omega) rfl;have e11:(xV K C CQ n).fn[11]?=some ⟨"fits", fJ⟩:=jZ (by omega) rfl;have g0:(xV K C CQ n).gl[0]?=some (("CHOICES" : Str),W.dcf fX chV):=rfl;have g2:(xV K C CQ n).gl[2]?=some (("str" : Str),W.ty "str"):=rfl;have m1:(xV K C CQ n).mt[1]?=some sM:=rfl;have m3:(xV K C CQ n).mt[3]?=some sX:=rfl;have x2:(xV K C CQ n).sx[2]?=some ⟨emM,emS⟩:=rfl;have i0:(xV K C CQ n).ix[0]?=some ⟨enkM,enkI⟩:=rfl;have c0:(sU CQ [] T).cl[0]?=some ⟨"NoBook", CQ 1,some "row"⟩:=rfl;show xS (xV K C CQ n) (sU CQ [] T) wM (fun _=>E) { nx:=fun _ G'=>Q .non G',rt:=Q } [some (.str t),none,none,none,none,none,none] G;simp only [wM];refine rY ?_;simp only [wG]
 ((try dsimp only [zP,zT,zO,zE,yW,yL,yK,zM,zV,zL,zU,zX,zS,zN,zH,zJ,yO,zI,gZ,gS,tZ,tS]);try simp only [e4,g2])
 refine ⟨"str", true,rfl,cl.ss,?_⟩
 ((try dsimp only [zP,zT,zO,zE,yW,yL,yK,zM,zV,zL,zU,zX,zS,zN,zH,zJ,yO,zI,gZ,gS,tZ,tS]);try simp only [jJ,Bool.not_true,zzB,if_false])
 refine xtn (rY ?_);simp only [wG]
 ((try dsimp only [zP,zT,zO,zE,yW,yL,yK,zM,zV,zL,zU,zX,zS,zN,zH,zJ,yO,zI,gZ,gS,tZ,tS]);try simp only [m3])
 refine ⟨rfl,by decide +kernel,by omega,fun lr hlr=>?_⟩;refine rY ?_;simp only [wG]
 ((try dsimp only [zP,zT,zO,zE,yW,yL,yK,zM,zV,zL,zU,zX,zS,zN,zH,zJ,yO,zI,gZ,gS,tZ,tS]);try simp only [x2])
 intro p hp;refine rY ?_;simp only [wG]
 ((try dsimp only [zP,zT,zO,zE,yW,yL,yK,zM,zV,zL,zU,zX,zS,zN,zH,zJ,yO,zI,gZ,gS,tZ,tS]);try simp only [i0])
 have hne:lr≠p:=jA zR hp;have hlp:put (put G lr (.lst ((Txt.split t "\n").map .str))) p (.dic []) lr=some (.lst ((Txt.split t "\n").map .str)):=by rw [xO hne];exact zR
 have hpG:G p=none:=by rw [xO (Ne.symm hne)] at hp;exact hp
 refine ⟨_,seqL hlp,?_⟩;have lv:(vw t).length=(Txt.split t "\n").length:=List.length_map ..;have lenI:(enW 1 ((Txt.split t "\n").map W.str)).length=(vw t).length:=by simp [enW,lv]
 have few:(vw t).length<=1002:=by rw [lv];have:=vU t "\n"; omega
 refine ⟨fun i σ G'=>∃ n3 n4 n5 n6 kvs,σ=[some (.str t),some (.ref lr),some (.ref p),n3,n4,n5,n6]/\zK [] G G'/\G' lr=some (.lst ((Txt.split t "\n").map .str))/\G' p=some (.dic kvs)/\Fd G' kvs (PR t i)/\At t i,?_,?_,?_,?_⟩
 .exact ⟨none,none,none,none,[],rfl,(zK.new hlr).trans (zK.new hp),hlp,zR,.nil,.zero t⟩
 .rintro i σ G' ⟨_,_,_,_,_,_,_,h1,_⟩ _;exact seqL h1
 .rintro i w σ G' hw ⟨n3,n4,n5,n6,kvs,rfl,kp,h1,h2,fd,at_⟩;have hi:=(List.getElem?_eq_some_iff.mp hw).1;rw [lenI,lv] at hi;obtain ⟨l,hl⟩:∃ l,(Txt.split t "\n")[i]?=some l:=⟨_,List.getElem?_eq_getElem hi⟩;have hv:(vw t)[i]?=some (qX l):=by unfold vw;rw [List.getElem?_map,hl];rfl
  have ew:w=.tup [.int ((i:Nat)+1),.str l]:=by
   have:(enW 1 ((Txt.split t "\n").map W.str))[i]?=some (.tup [.int ((i:Nat)+1),.str l]):=by
    unfold enW;rw [List.getElem?_map,List.getElem?_range (by rw [zzM];exact hi)];simp only [Option.map_some,List.getD,List.getElem?_map,hl,Option.getD_some]
   rw [this] at hw;exact (Option.some.inj hw).symm
  subst ew;have ll:l.length<=1000:=Nat.le_trans (rF (c:=10) (by rw [← zh4];exact List.mem_of_getElem? hl)) ht
  (try dsimp only [zP,zT,zO,zE,yW,yL,yK,zM,zV,zL,zU,zX,zS,zN,zH,zJ,yO,zI,gZ,gS,tZ,tS])
  refine rY ?_;simp only [wG]
  ((try dsimp only [zP,zT,zO,zE,yW,yL,yK,zM,zV,zL,zU,zX,zS,zN,zH,zJ,yO,zI,gZ,gS,tZ,tS]);try simp only [e10])
  refine ⟨l,rfl,by omega,fun r1 G1 kp1 hr1 g1=>?_⟩;refine rY ?_;simp only [wG]
  ((try dsimp only [zP,zT,zO,zE,yW,yL,yK,zM,zV,zL,zU,zX,zS,zN,zH,zJ,yO,zI,gZ,gS,tZ,tS]);try simp only [jJ,g1])
  have wl:∀ y∈qX l,y.length<=1000:=fun y hy=>by
   rw [← zaV] at hy;exact Nat.le_trans (rF (c:=32) (by rw [← zfk];exact (List.mem_filter.mp hy).1)) ll
  have wn:(qX l).length<=1002:=by
   rw [← zaV];have:=vU l " ";exact Nat.le_trans (List.length_filter_le _ _) (by omega)
  by_cases hse:qX l=[]
  .rw [hse] at hv g1 ⊢;simp only [zzV,List.isEmpty_nil,Bool.not_true,zzB,if_false];simp only [xS];refine ⟨_,_,_,n6,kvs,rfl,kp.trans kp1,k0 kp1 h1,k0 kp1 h2,?_,at_.blank hv⟩;rw [cQ t hv];exact fd.mono fun r l e=>k0 kp1 e
  .have hse2:((List.map W.str (qX l)).isEmpty)=false:=by
    cases hq:qX l with
    |nil=>exact absurd hq hse
    |cons _ _=>rfl
   rw [hse2];generalize qX l=ss at *;simp only [Bool.not_false,if_true];refine rY ?_;simp only [wG]
   ((try dsimp only [zP,zT,zO,zE,yW,yL,yK,zM,zV,zL,zU,zX,zS,zN,zH,zJ,yO,zI,gZ,gS,tZ,tS]);try simp only [m1,slR,xB g1])
   refine ⟨rfl,fun r2 hr2=>?_⟩;refine ⟨ss.take 2,by rw [xB zR,cut_2,List.map_take],zbL (n:=1000) (fun y hy=>wl y (List.mem_of_mem_take hy)) (by rw [l_1,List.length_take];omega),?_⟩;have g2p:=mZ (u:=.lst (vR (ss.map W.str) none (some 2))) hr2 (k0 kp1 h2);have g2r:=mZ (u:=.lst (vR (ss.map W.str) none (some 2))) hr2 g1;have kp2:=(kp.trans kp1).trans (zK.new (o:=.lst (vR (ss.map W.str) none (some 2))) hr2);have g2l:=mZ (u:=.lst (vR (ss.map W.str) none (some 2))) hr2 (k0 kp1 h1);have fd2:Fd (put G1 r2 (.lst (vR (ss.map W.str) none (some 2)))) kvs (PR t i):=fd.mono fun r l e=>mZ hr2 (k0 kp1 e);generalize put G1 r2 (.lst (vR (ss.map W.str) none (some 2)))=G2 at g2p g2r kp2 g2l fd2;rw [show Txt.join " " (ss.take 2)=vV ss from rfl];refine rY ?_;simp only [wG]
   by_cases hin:vV ss∈(PR t i).map vV
   ·((try dsimp only [zP,zT,zO,zE,yW,yL,yK,zM,zV,zL,zU,zX,zS,zN,zH,zJ,yO,zI,gZ,gS,tZ,tS]);try simp only [xI,uL,g2p,kA,fd.yes hin,if_true])
    refine rY ?_;simp only [wG]
    ((try dsimp only [zP,zT,zO,zE,yW,yL,yK,zM,zV,zL,zU,zX,zS,zN,zH,zJ,yO,zI,gZ,gS,tZ,tS]);try simp only [c0,clR])
    refine ⟨_,rfl,?_⟩;exact hE (i+1) (at_.bad hv hse (.inl hin)) _ kp2
   ·((try dsimp only [zP,zT,zO,zE,yW,yL,yK,zM,zV,zL,zU,zX,zS,zN,zH,zJ,yO,zI,gZ,gS,tZ,tS]);try simp only [xI,uL,g2p,kA,zgd (fd.has hin),zzB,if_false,slR,xB g2r,e11])
    intro r3 hr3;refine ⟨r3,vV ss,ss.drop 2,rfl,by rw [zR,ziW,List.map_drop],by rw [List.length_drop];omega,fun G3 kp3=>?_⟩;have kp23:=(zK.new (S:=[]) (o:=.lst (vR (ss.map W.str) (some 2) none)) hr3).trans kp3
    ((try dsimp only [zP,zT,zO,zE,yW,yL,yK,zM,zV,zL,zU,zX,zS,zN,zH,zJ,yO,zI,gZ,gS,tZ,tS]);try simp only [jJ])
    cases hok:fitB (vV ss) (ss.drop 2) with
    |false =>
     simp only [Bool.not_false,if_true];refine rY ?_;simp only [wG]
     ((try dsimp only [zP,zT,zO,zE,yW,yL,yK,zM,zV,zL,zU,zX,zS,zN,zH,zJ,yO,zI,gZ,gS,tZ,tS]);try simp only [c0,clR])
     refine ⟨_,rfl,?_⟩;exact hE (i+1) (at_.bad hv hse (.inr hok)) _ (kp2.trans kp23)
    |true =>
     simp only [Bool.not_true,zzB,if_false];obtain ⟨at2,ps⟩:=at_.next hv hse hin hok;have g3p:=k0 kp23 g2p;have g3r:=k0 kp23 g2r;refine xtn (rY ?_);simp only [wG]
     ((try dsimp only [zP,zT,zO,zE,yW,yL,yK,zM,zV,zL,zU,zX,zS,zN,zH,zJ,yO,zI,gZ,gS,tZ,tS]);try simp only [slR,xB g3r])
     intro r4 hr4;have hp4:p≠r4:=jA g3p hr4;have g4p:=mZ (u:=.lst (vR (ss.map W.str) (some 2) none)) hr4 g3p;simp only [fG,g4p,kA]
     have kl:kvs.length<=2000:=by
      rw [fd.len];have:=zi4 t i;omega
     refine ⟨by rw [sizeLine_eq];omega,?_⟩;simp only [xS];refine ⟨_,_,_,_,_,rfl,?_,?_,zR,?_,at2⟩
     .exact dQ ((kp2.trans kp23).trans (zK.new hr4)) hpG
     .rw [xO hne];exact mZ hr4 (k0 kp23 g2l)
     .rw [ps,zd1 (fd.has hin)];refine .snoc ((fd2.mono fun r l e=>?_)) (r:=r4) ?_
      .have nr:r≠p:=fun z=>by rw [z,g2p] at e;cases e
       rw [xO nr];exact mZ hr4 (k0 kp23 e)
      .rw [xO (Ne.symm hp4),zR,ziW,List.map_drop]
 .rintro σ G' ⟨n3,n4,n5,n6,kvs,rfl,kp,h1,h2,fd,at_⟩;rw [lenI] at fd at_;have fin:=at_.fin;have kl:=fd.len;refine rY ?_;simp only [wG]
  ((try dsimp only [zP,zT,zO,zE,yW,yL,yK,zM,zV,zL,zU,zX,zS,zN,zH,zJ,yO,zI,gZ,gS,tZ,tS]);try simp only [e1,e5,g0,tE,tF,h2])
  refine ⟨fX,chV,rfl,?_⟩
  have lt:nA (fun i j=>decide (i<j)) (some ltS) (.int ((kvs.length:Nat):Int)) (.int (fX.length:Nat)) G'=fun Q=>Q (.bl (decide (kvs.length<4))) G':=by
   funext Q
   simp only [nA];congr 2;rw [show (fX.length:Nat)=4 from rfl,decide_eq_decide];omega
  simp only [xI,lt]
  by_cases h4:kvs.length<4
  .simp only [decide_eq_true h4,if_true];refine rY ?_;simp only [wG]
   ((try dsimp only [zP,zT,zO,zE,yW,yL,yK,zM,zV,zL,zU,zX,zS,zN,zH,zJ,yO,zI,gZ,gS,tZ,tS]);try simp only [c0,clR,e1,tE,tF,h1,wI])
   refine ⟨_,rfl,?_⟩;rw [if_pos (by rw [← kl];exact h4)] at fin;have:=hE _ fin G' kp;rw [lv] at this;rw [zzM];exact this
  .simp only [decide_eq_false h4,zzB,if_false];rw [if_neg (by rw [← kl];exact h4)] at fin;obtain ⟨x,ok,pm,h⟩:=hQ fin;refine xtn (rY ?_);simp only [wG]
   ((try dsimp only [zP,zT,zO,zE,yW,yL,yK,zM,zV,zL,zU,zX,zS,zN,zH,zJ,yO,zI,gZ,gS,tZ,tS]);try simp only [e9])
   have pm2:(PR t (vw t).length).Perm x.rows:=by unfold PR;rw [List.take_length];exact pm
   have nd:((PR t (vw t).length).map vV).Nodup:=(pm2.map vV).nodup_iff.mpr (zc2 x);obtain ⟨r1,a1,b1⟩:=fd.get nd ["first", "answers", x.a,x.b] (pm2.mem_iff.mpr (by simp [Bk.rows]));obtain ⟨r2,a2,b2⟩:=fd.get nd ["first", "doubts", x.c] (pm2.mem_iff.mpr (by simp [Bk.rows]));obtain ⟨r3,a3,b3⟩:=fd.get nd ["first", "speaks", x.e] (pm2.mem_iff.mpr (by simp [Bk.rows]));obtain ⟨r4,a4,b4⟩:=fd.get nd ["other", "speaks", x.f] (pm2.mem_iff.mpr (by simp [Bk.rows]));rw [zcS] at a1;rw [zcR] at a2;rw [zcQ] at a3;rw [zcP] at a4;exact ⟨p,kvs,r1,r2,r3,r4,x,rfl,h2,⟨a1,a2,a3,a4⟩,⟨b1,b2,b3,b4⟩,fun q hq=>h q _ (kp.trans (zK.new hq)) (zK.none kp (by simp) hq) zR⟩
theorem isNo {G:Hw} {w:W} {Q:Q3} (cl:Cl K CQ) (h:zd8 G w) (q:Q (.bl false) G):isxS K [w,.ty "str"] G Q:=by
 obtain ⟨T',hT,ty⟩:=h;have j:isjS K [w,.ty "str"] G Q:=⟨T',false,ty,cl.ns T' hT,q⟩;unfold isxS
 split
 .rename_i e;cases e
 .rename_i C' ns vs T e;cases e;simp [tyO] at ty
 .rename_i e;cases e
 .exact j
theorem zc4 {n:Nat} (hn:12<=n) (cl:Cl K CQ) {ws:List W} {G:Hw} {Q:Q3} {E:X3} (h:wR C CQ ws G Q E):xS (xV K C CQ n) (sU CQ [] T) wM (fun _=>E) { nx:=fun _ G'=>Q .non G',rt:=Q } (yN qG ws) G:=by
 rcases h with ⟨w,rfl,hw,h⟩|⟨t,k,rfl,ht,hg,h⟩|⟨t,x,rfl,ht,ok,pm,h⟩
 .have e4:(xV K C CQ n).fn[4]?=some (eIsx K):=jZ (by omega) rfl;have g2:(xV K C CQ n).gl[2]?=some (("str" : Str),W.ty "str"):=rfl;have c0:(sU CQ [] T).cl[0]?=some ⟨"NoBook", CQ 1,some "row"⟩:=rfl;show xS (xV K C CQ n) (sU CQ [] T) wM (fun _=>E) { nx:=fun _ G'=>Q .non G',rt:=Q } [some w,none,none,none,none,none,none] G;simp only [wM];refine rY ?_;simp only [wG]
  ((try dsimp only [zP,zT,zO,zE,yW,yL,yK,zM,zV,zL,zU,zX,zS,zN,zH,zJ,yO,zI,gZ,gS,tZ,tS]);try simp only [e4,g2])
  refine isNo cl hw ?_
  ((try dsimp only [zP,zT,zO,zE,yW,yL,yK,zM,zV,zL,zU,zX,zS,zN,zH,zJ,yO,zI,gZ,gS,tZ,tS]);try simp only [jJ,Bool.not_false,if_true])
  refine rY ?_;simp only [wG]
  ((try dsimp only [zP,zT,zO,zE,yW,yL,yK,zM,zV,zL,zU,zX,zS,zN,zH,zJ,yO,zI,gZ,gS,tZ,tS]);try simp only [c0,clR])
  exact ⟨_,rfl,h G zK.refl⟩
 .exact gW hn cl ht (fun k' hk=>by rw [hg] at hk;cases hk;exact h) (fun z=>by rw [hg] at z;cases z)
 .have hg:=zgh ok pm;exact gW hn cl ht (fun k' hk=>by rw [hg] at hk;cases hk) fun _=>⟨x,ok,pm,h⟩
end
structure Fc (G:Hw) (d l:Addr) (fs:List (Addr×O)):Prop where
 dl:jT G d l
 ob:∀ f∈fs,G f.1=some f.2/\f.1∉[d,l]
section
variable {G G' : Hw} {d l : Addr} {fs : List (Addr × O)}
theorem Fc.draw (F:Fc G d l fs) (k:zK [d,l] G G') (D:jT G' d l):Fc G' d l fs:=⟨D,fun f hf=>⟨k _ _ (F.ob f hf).2 (F.ob f hf).1,(F.ob f hf).2⟩⟩
theorem Fc.keep (F:Fc G d l fs) (k:zK [] G G'):Fc G' d l fs:=⟨ziV k F.dl,fun f hf=>⟨k0 k (F.ob f hf).1,(F.ob f hf).2⟩⟩
theorem Fc.new {p:Addr} {o:O} (F:Fc G d l fs) (h:G p=none):Fc (put G p o) d l ((p,o)::fs):=⟨zd3 h F.dl,fun f hf=>by
 rcases List.mem_cons.mp hf with rfl|hf
 .exact ⟨zR,zbr F.dl h⟩
 .exact ⟨mZ h (F.ob f hf).1,(F.ob f hf).2⟩⟩
theorem Fc.add {p:Addr} {o:O} (F:Fc G d l fs) (k:zK [] G G') (h:G p=none) (e:G' p=some o):Fc G' d l ((p,o)::fs):=⟨ziV k F.dl,fun f hf=>by
 rcases List.mem_cons.mp hf with rfl|hf
 .exact ⟨e,zbr F.dl h⟩
 .exact ⟨k0 k (F.ob f hf).1,(F.ob f hf).2⟩⟩
theorem Fc.chg {p:Addr} {o o':O} (F:Fc G d l ((p,o)::fs)) (ne:∀ f∈fs,f.1≠p):Fc (put G p o') d l ((p,o')::fs):=⟨zgD (F.ob _ zzT).2 F.dl,fun f hf=>by
 rcases List.mem_cons.mp hf with rfl|hf
 .exact ⟨zR,(F.ob _ zzT).2⟩
 .rw [xO (ne f hf)];exact F.ob f (List.mem_cons_of_mem _ hf)⟩
theorem Fc.sub {gs:List (Addr×O)} (F:Fc G d l fs) (h:∀ f∈gs,f∈fs):Fc G d l gs:=⟨F.dl,fun f hf=>F.ob f (h f hf)⟩
theorem Fc.at {p:Addr} {o:O} (F:Fc G d l fs) (h:(p,o)∈fs):G p=some o:=(F.ob _ h).1
theorem getI {lits:List Str} {r:Int} (h0:0<=r) (h1:r<lits.length):∃ x∈lits,rQ (lits.map W.str) r=some (.str x):=by
 have hi:r.toNat<lits.length:=by omega
 refine ⟨lits[r.toNat],List.getElem_mem hi,?_⟩;unfold rQ ixN;rw [if_pos h0,zzM,if_pos h1];simp [hi]
theorem gQ {lits:List Str} {r:Addr} {m:Int} {Q:Q3} (F:Fc G d l fs) (hr:(r,O.lst (lits.map .str))∈fs) (hm:m=lits.length) (h0:0<m) (h9:m<100) (q:∀ x∈lits,∀ G',Fc G' d l fs->Q (.str x) G') :
  vG [.ref d,.int m] G (fun y G2=>rS (.ref r) y G2 Q) XN:=by
 refine ⟨d,l,m,rfl,F.dl,by omega,fun i G2 i0 i1 k D=>?_⟩;have F2:=F.draw k D;obtain ⟨x,hx,e⟩:=getI (lits:=lits) i0 (by omega);refine ixL (xB (F2.at hr)) ?_;rw [e];exact q x hx G2 F2
theorem pickL {lits:List Str} {m:Int} {Q:Q3} (F:Fc G d l fs) (hm:m=lits.length) (h0:0<m) (h9:m<100) (q:∀ x∈lits,∀ G',Fc G' d l fs->Q (.str x) G') :
  (lits.map W.str).length<=sizeLine/\∀ r,G r=none->vG [.ref d,.int m] (put G r (.lst (lits.map .str))) (fun y G2=>rS (.ref r) y G2 Q) XN :=
 ⟨sz _ (by rw [zzM];omega),fun r hr=>gQ (F.new hr) zzT hm h0 h9 fun x hx G' F'=>q x hx G' (F'.sub fun f hf=>List.mem_cons_of_mem _ hf)⟩
end
theorem zey {α β:Type} {f:α->β}:∀ (l:List α) (i:Nat),(l.map f).eraseIdx i=(l.eraseIdx i).map f
 | [],_=>rfl
 |_::_,0=>rfl
 |x::l,i+1=>congrArg (f x::·) (zey l i)
theorem zb0:∀ (l:List Str) (i:Nat) (y:Str),l[i]?=some y->(y::l.eraseIdx i).Perm l
 | [],_,_,h=>by simp at h
 |x::l,0,y,h=>by
  have e:x=y:=by simpa using h
  subst e;exact .refl _
 |x::l,i+1,y,h=>(List.Perm.swap x y _).trans ((zb0 l i y (by simpa using h)).cons x)
theorem bJ:∀ ns:List Str,wA (ns.map W.str)=true
 | []=>rfl
 |x::ns=>by simp [wA,uS,bJ ns]
theorem zan:∀ ns:List Str,kO (ns.map W.str)=0
 | []=>rfl
 |x::ns=>by simp [kO,nG,zan ns]
theorem zai:∀ {a b:List Str},jG (a.map .str) (b.map .str)=decide (a=b)
 | [],[]=>by simp [jG]
 | [],_::_=>by simp [jG]
 |_::_,[]=>by simp [jG]
 |x::a,y::b=>by
  simp only [zzU,jG,vQ,zai]
  by_cases h:x=y<;>simp [h]
theorem zgl {G:Hw} {p q:Addr} {a b:List Str} (hp:G p=some (.lst (a.map .str))) (hq:G q=some (.lst (b.map .str))):eqG G (.ref p) (.ref q)=some (decide (a=b)):=by
 simp only [eqG,xB hp,xB hq,bJ,zan];rw [if_pos (by simp),zai]
theorem neNil {G:Hw} {d l p:Addr} {fs:List (Addr×O)} {rem:List Str} {Q:Q3} (F:Fc G d l fs) (h:(p,O.lst (rem.map .str))∈fs) (q:∀ G',Fc G' d l fs->Q (.bl (!decide (rem=[]))) G') :
  ([]:List W).length<=sizeLine/\∀ r,G r=none->xI .NotEq (.ref p) (.ref r) (put G r (.lst [])) Q:=by
 refine ⟨Nat.zero_le _,fun r hr=>?_⟩;have F2:=F.new (o:=.lst []) hr;show (match eqG (put G r (.lst [])) (.ref p) (.ref r) with|some b=>Q (.bl (!b)) (put G r (.lst []))|none=>False);rw [zgl (a:=rem) (b:=[]) (F2.at (List.mem_cons_of_mem _ h)) zR];exact q _ (F2.sub fun f hf=>List.mem_cons_of_mem _ hf)
theorem uD {G:Hw} {a b:Int}:eqG G (.int a) (.int b)=some (decide (a=b)):=by
 simp [eqG,uS,nG,vQ,Bool.beq_eq_decide_eq]
def Tn (w u:Str):Prop:=(u=w/\¬ LA w/\¬ OO w)\/(LA w/\LA u)\/(OO w/\OO u)
inductive Tns:List Str->List Str->Prop where
 |nil:Tns [] []
 |cons {a b:List Str} {w u:Str}:Tn w u->Tns a b->Tns (w::a) (u::b)
theorem Tns.snoc {a b:List Str} {w u:Str} (h:Tns a b) (k:Tn w u):Tns (a++[w]) (b++[u]):=by
 induction h with
 |nil=>exact .cons k .nil
 |cons k' _ ih=>exact .cons k' ih
theorem Tns.len {a b:List Str} (h:Tns a b):b.length=a.length:=by
 induction h with
 |nil=>rfl
 |cons _ _ ih=>simp [ih]
theorem no_LO {w:Str} (h:w∈(["first", "answers", "doubts", "speaks", "other"]:List Str)):¬ LA w/\¬ OO w:=by
 have:∀ w∈(["first", "answers", "doubts", "speaks", "other"]:List Str),¬ (w = "last" \/ w = "any")/\¬ (w = "once" \/ w = "often"):=by decide +kernel
 exact this w h
theorem OO.noLA {w:Str} (h:OO w):¬ LA w:=by
 rcases h with rfl|rfl<;>(intro z;rcases z with z|z<;>revert z<;>decide +kernel)
theorem Tn.still {w u:Str} (h:Tn w u) (hw:w∈(["first", "answers", "doubts", "speaks", "other"]:List Str)):u=w:=by
 obtain ⟨n1,n2⟩:=no_LO hw;rcases h with ⟨e,_⟩|⟨e,_⟩|⟨e,_⟩
 .exact e
 .exact absurd e n1
 .exact absurd e n2
theorem Tn.la {w u:Str} (h:Tn w u) (hw:LA w):LA u:=by
 rcases h with ⟨_,e,_⟩|⟨_,e⟩|⟨e,_⟩
 .exact absurd hw e
 .exact e
 .exact absurd hw e.noLA
theorem Tn.oo {w u:Str} (h:Tn w u) (hw:OO w):OO u:=by
 rcases h with ⟨_,_,e⟩|⟨e,_⟩|⟨_,e⟩
 .exact absurd hw e
 .exact absurd e hw.noLA
 .exact e
theorem zcT {x:Bk} {u:Str} {i:Nat} (ok:x.Ok) (h:x.txt[i]?=some u):fX[i]?=some (sr u):=by
 rw [← zee ok,List.getElem?_map,h];rfl
theorem fixd:∀ w∈(["first", "answers", "doubts", "speaks", "other"]:List Str),w.length<=7:=by decide +kernel
theorem zfd {x y:Bk} {i:Nat} {w1 w2 z:Str} {r:Str} (P:Str->Prop) (p:Str) (hx:x.Ok) (hr:x.txt[i]?=some r) (e:Txt.split r " " = [w1,w2,z]) (h1:w1∈(["first", "answers", "doubts", "speaks", "other"]:List Str)) (h2:w2∈(["first", "answers", "doubts", "speaks", "other"]:List Str))
  (hz:P z) (l5:∀ z,P z->z.length<=5) (tn:∀ {u},Tn z u->P u) (ej:∀ u,P u->Txt.join " " [w1,w2,u]=p++u) (nw:∀ u,P u->∃ x':Bk,x'.Ok/\x'.txt[i]?=some (p++u)) :
  (Txt.split r " ").length<=4/\(∀ w∈Txt.split r " ", w.length<=7)/\∀ us,Tns (Txt.split r " ") us->Rw (Txt.join " " us)/\sr (Txt.join " " us)=sr r/\∀ u∈us,u.length<=7:=by
 rw [e];have f1:=fixd w1 h1;have f2:=fixd w2 h2;have f3:=l5 z hz;refine ⟨by simp,fun w hw=>?_,fun us t=>?_⟩
 .simp only [List.mem_cons,List.not_mem_nil,or_false] at hw;rcases hw with rfl|rfl|rfl<;>omega
 .cases t with
  |cons k1 t =>
   cases t with
   |cons k2 t =>
    cases t with
    | @cons _ us _ u k3 t =>
     cases t;cases k1.still h1;cases k2.still h2;have pu:=tn k3;have f4:=l5 u pu;rw [ej u pu];obtain ⟨x',ok',e'⟩:=nw u pu;refine ⟨⟨x',ok',List.mem_of_getElem? e'⟩,?_,fun v hv=>?_⟩
     .exact Option.some.inj ((zcT ok' e').symm.trans (zcT hx hr))
     .simp only [List.mem_cons,List.not_mem_nil,or_false] at hv;rcases hv with rfl|rfl|rfl<;>omega
theorem zfc {r:Str} (h:Rw r):(Txt.split r " ").length<=4/\(∀ w∈Txt.split r " ", w.length<=7)/\∀ us,Tns (Txt.split r " ") us->Rw (Txt.join " " us)/\sr (Txt.join " " us)=sr r/\∀ u∈us,u.length<=7:=by
 obtain ⟨⟨a,b,c,e,f⟩,ok,hr⟩:=h;have ok0:=ok;obtain ⟨ha,hb,hc,he,hf⟩:=ok;dsimp only at ha hb hc he hf;simp only [Bk.txt,List.mem_cons,List.not_mem_nil,or_false] at hr;rcases hr with rfl|rfl|rfl|rfl
 .have es:Txt.split ("first answers " ++ a ++ " " ++ b) " " = ([("first" : Str), "answers", a,b]:List Str):=by rcases ha with rfl|rfl<;>rcases hb with rfl|rfl<;>decide +kernel
  have la:=ha.len;have lb:=hb.len;have f1:=fixd "first" (by simp);have f2:=fixd "answers" (by simp);have h0:(Bk.txt ⟨a,b,c,e,f⟩)[0]?=some ("first answers " ++ a ++ " " ++ b):=rfl;rw [es];refine ⟨by simp,fun w hw=>?_,fun us t=>?_⟩
  .simp only [List.mem_cons,List.not_mem_nil,or_false] at hw;rcases hw with rfl|rfl|rfl|rfl<;>omega
  .cases t with
   |cons k1 t =>
    cases t with
    |cons k2 t =>
     cases t with
     | @cons _ _ _ y3 k3 t =>
      cases t with
      | @cons _ _ _ y4 k4 t =>
       cases t;cases k1.still (by simp);cases k2.still (by simp);have l3:=k3.la ha;have l4:=k4.oo hb;have ej:Txt.join " " ([("first" : Str), "answers", y3,y4]:List Str) = "first answers " ++ y3 ++ " " ++ y4:=by rcases l3 with rfl|rfl<;>rcases l4 with rfl|rfl<;>decide +kernel
       rw [ej];have okn:Bk.Ok ⟨y3,y4,c,e,f⟩:=⟨l3,l4,hc,he,hf⟩;have hn:(Bk.txt ⟨y3,y4,c,e,f⟩)[0]?=some ("first answers " ++ y3 ++ " " ++ y4):=rfl;have:=l3.len;have:=l4.len;refine ⟨⟨_,okn,List.mem_of_getElem? hn⟩,Option.some.inj ((zcT okn hn).symm.trans (zcT ok0 h0)),fun u hu=>?_⟩;simp only [List.mem_cons,List.not_mem_nil,or_false] at hu;rcases hu with rfl|rfl|rfl|rfl<;>omega
 .exact zfd (y:=⟨a,b,c,e,f⟩) (i:=1) (w1 := "first") (w2 := "doubts") (z:=c) OO "first doubts " ok0 rfl (by rcases hc with rfl|rfl<;>decide +kernel) (by simp) (by simp) hc (fun z h=>h.len) (fun k=>k.oo hc) (fun u h=>by rcases h with rfl|rfl<;>decide +kernel) fun u h=>⟨⟨a,b,u,e,f⟩,⟨ha,hb,h,he,hf⟩,rfl⟩
 .exact zfd (y:=⟨a,b,c,e,f⟩) (i:=2) (w1 := "first") (w2 := "speaks") (z:=e) LA "first speaks " ok0 rfl (by rcases he with rfl|rfl<;>decide +kernel) (by simp) (by simp) he (fun z h=>h.len) (fun k=>k.la he) (fun u h=>by rcases h with rfl|rfl<;>decide +kernel) fun u h=>⟨⟨a,b,c,u,f⟩,⟨ha,hb,hc,h,hf⟩,rfl⟩
 .exact zfd (y:=⟨a,b,c,e,f⟩) (i:=3) (w1 := "other") (w2 := "speaks") (z:=f) LA "other speaks " ok0 rfl (by rcases hf with rfl|rfl<;>decide +kernel) (by simp) (by simp) hf (fun z h=>h.len) (fun k=>k.la hf) (fun u h=>by rcases h with rfl|rfl<;>decide +kernel) fun u h=>⟨⟨a,b,c,e,u⟩,⟨ha,hb,hc,he,h⟩,rfl⟩
section
variable {K : yZ} {C : Addr} {CQ : Nat → Addr} {T : Addr}
theorem catL {G:Hw} {d l r:Addr} {a b:List Str} {Q:Q3} (F:Fc G d l [(r,.lst (a.map .str))]) (h:a.length+b.length<=3000) (q:∀ r' G',Fc G' d l [(r',.lst ((a++b).map .str))]->zK [] G G'->Q (.ref r') G') :
  (b.map W.str).length<=sizeLine/\∀ p,G p=none->wI .Add (.ref r) (.ref p) (put G p (.lst (b.map .str))) Q:=by
 refine ⟨sz _ (by rw [zzM];omega),fun p hp=>?_⟩;have F1:=F.new (o:=.lst (b.map .str)) hp;have g1:=F1.at (p:=r) (o:=.lst (a.map .str)) (by simp);have g2:=F1.at (p:=p) (o:=.lst (b.map .str)) (by simp);simp only [wI,g1,g2];refine ⟨sz _ (by rw [zzM,zzM];exact h),fun q' hq'=>?_⟩;rw [← List.map_append];exact q q' _ ((F1.new hq').sub (by simp)) ((zK.new hp).trans (zK.new hq'))
theorem zgO {n:Nat} (hn:14<=n) {ws:List W} {G:Hw} {Q:Q3} (h:zcW ws G Q XN):yQ (xV K C CQ n) XN vH { nx:=fun _ G'=>Q .non G',rt:=Q } (yN qU ws) G:=by
 obtain ⟨d,l,rfl,D,h⟩:=h;have e13:(xV K C CQ n).fn[13]?=some zb9:=jZ (by omega) rfl;have F0:Fc G d l []:=⟨D,fun f hf=>nomatch hf⟩;show yQ _ _ _ _ [some (.ref d),none] G;refine wU ?_
 (try dsimp only [zP,zT,zO,zE,yW,yL,yK,zM,zV,zL,zU,zX,zS,zN,zH,zJ,yO,zI,gZ,gS,tZ,tS])
 refine ⟨sz _ (by show 4<=3000;decide),fun r1 hr1=>?_⟩;have F1:=F0.new (o:=.lst ((["first", "first answers", "first answers last", "first answers once last"]:List Str).map .str)) hr1;have k1:zK [] G (put G r1 (.lst ((["first", "first answers", "first answers last", "first answers once last"]:List Str).map .str))):=zK.new hr1;show yQ _ _ _ _ _ (put G r1 (.lst ((["first", "first answers", "first answers last", "first answers once last"]:List Str).map .str)));generalize put G r1 (.lst ((["first", "first answers", "first answers last", "first answers once last"]:List Str).map .str))=G1 at F1 k1 ⊢;refine wU ?_
 (try dsimp only [zP,zT,zO,zE,yW,yL,yK,zM,zV,zL,zU,zX,zS,zN,zH,zJ,yO,zI,gZ,gS,tZ,tS])
 refine catL (b:=["first answers any often any", "first doubts", "first doubts any", "first doubts once once"]) F1 (by decide) fun r2 G2 F2 k2=>?_;refine wU ?_
 (try dsimp only [zP,zT,zO,zE,yW,yL,yK,zM,zV,zL,zU,zX,zS,zN,zH,zJ,yO,zI,gZ,gS,tZ,tS])
 refine catL (b:=["first speaks", "first speaks once", "other speaks", "other speaks often", "other answers last once"]) F2 (by decide) fun r3 G3 F3 k3=>?_;refine wU ?_
 (try dsimp only [zP,zT,zO,zE,yW,yL,yK,zM,zV,zL,zU,zX,zS,zN,zH,zJ,yO,zI,gZ,gS,tZ,tS])
 refine catL (b:=["other doubts once", "speaks last", "First speaks last", "first Speaks last", "first speaks Last"]) F3 (by decide) fun r4 G4 F4 k4=>?_;refine wU ?_
 (try dsimp only [zP,zT,zO,zE,yW,yL,yK,zM,zV,zL,zU,zX,zS,zN,zH,zJ,yO,zI,gZ,gS,tZ,tS])
 refine catL (b:=["firstspeaks last", "# first speaks last", "first speaks last.", "second speaks last", "last", "any"]) F4 (by decide) fun r5 G5 F5 k5=>?_;refine wU ?_
 (try dsimp only [zP,zT,zO,zE,yW,yL,yK,zM,zV,zL,zU,zX,zS,zN,zH,zJ,yO,zI,gZ,gS,tZ,tS])
 refine catL (b:=["first answers last 1", "first speak last", "first answers la once", "first doubts on"]) F5 (by decide) fun r6 G6 F6 k6=>?_;refine wU ?_
 (try dsimp only [zP,zT,zO,zE,yW,yL,yK,zM,zV,zL,zU,zX,zS,zN,zH,zJ,yO,zI,gZ,gS,tZ,tS])
 refine catL (b:=["first speaks an", "other speaks ", "first answers any of"]) F6 (by decide) fun r7 G7 F7 k7=>?_;refine wU ?_
 ((try dsimp only [zP,zT,zO,zE,yW,yL,yK,zM,zV,zL,zU,zX,zS,zN,zH,zJ,yO,zI,gZ,gS,tZ,tS]);try simp only [e13])
 have kk:=(((((k1.trans k2).trans k3).trans k4).trans k5).trans k6).trans k7;refine ⟨d,l,31,rfl,F7.dl,by decide,fun i G8 i0 i1 k8 D8=>?_⟩;have F8:=F7.draw k8 D8;obtain ⟨x,hx,e⟩:=getI (lits:=badL) i0 (by have:badL.length=31:=rfl;omega);refine ixL (xB (F8.at (p:=r7) zzT)) ?_;show (match rQ (badL.map W.str) i with|some w=>Q w G8|none=>False);rw [e];exact h x hx G8 ((zin kk).trans k8) D8
theorem zhH {G:Hw} {d l:Addr} {fs:List (Addr×O)} {lits:List Str} {m:Int} {Q:Q3} (F:Fc G d l fs) (hm:m=lits.length) (h0:0<m) (h9:m<100) (q:∀ x∈lits,∀ G',Fc G' d l fs->zK [d,l] G G'->Q (.str x) G') :
  (lits.map W.str).length<=sizeLine/\∀ r,G r=none->vG [.ref d,.int m] (put G r (.lst (lits.map .str))) (fun y G2=>rS (.ref r) y G2 Q) XN:=by
 refine ⟨sz _ (by rw [zzM];omega),fun r hr=>⟨d,l,m,rfl,(F.new hr).dl,by omega,fun i G2 i0 i1 k D=>?_⟩⟩;have F2:=(F.new (o:=.lst (lits.map .str)) hr).draw k D;obtain ⟨x,hx,e⟩:=getI (lits:=lits) i0 (by omega);refine ixL (xB (F2.at zzT)) ?_;rw [e];exact q x hx G2 (F2.sub fun f hf=>List.mem_cons_of_mem _ hf) ((zK.new hr).trans k)
theorem ziH {x:Str} {c:List Str} {G:Hw} {Q:Q3} (q:Q (.bl (c.contains x)) G):uL false (.str x) (.tup (c.map .str)) G Q:=memW x c q
theorem zeQ {w:Str}:(["last", "any"]:List Str).contains w=true↔LA w:=by
 rw [List.contains_iff_mem];simp only [LA,List.mem_cons,List.not_mem_nil,or_false]
theorem zeP {w:Str}:(["once", "often"]:List Str).contains w=true↔OO w:=by
 rw [List.contains_iff_mem];simp only [OO,List.mem_cons,List.not_mem_nil,or_false]
theorem zas {n:Nat} (hn:14<=n) {ws:List W} {G:Hw} {Q:Q3} (h:uQ ws G Q XN):yQ (xV K C CQ n) XN uA { nx:=fun _ G'=>Q .non G',rt:=Q } (yN qF ws) G:=by
 obtain ⟨d,l,r,rfl,D,hr,h⟩:=h;have e13:(xV K C CQ n).fn[13]?=some zb9:=jZ (by omega) rfl;have m1:(xV K C CQ n).mt[1]?=some sM:=rfl;have m2:(xV K C CQ n).mt[2]?=some eApp:=rfl;have m3:(xV K C CQ n).mt[3]?=some sX:=rfl;have z2:=sz 2 (by decide);obtain ⟨t1,t2,t3⟩:=zfc hr;have F0:Fc G d l []:=⟨D,fun f hf=>nomatch hf⟩;have rl:=hr.ok.2.2.2.1;show yQ _ _ _ _ [some (.ref d),some (.str r),none,none] G;refine wU ?_
 (try dsimp only [zP,zT,zO,zE,yW,yL,yK,zM,zV,zL,zU,zX,zS,zN,zH,zJ,yO,zI,gZ,gS,tZ,tS])
 refine ⟨Nat.zero_le _,fun a ha=>?_⟩;have F1:=F0.new (o:=.lst []) ha;have k1:zK [d,l] G (put G a (.lst [])):=zK.new ha;generalize put G a (.lst [])=G1 at F1 k1 ⊢;refine wU ?_
 ((try dsimp only [zP,zT,zO,zE,yW,yL,yK,zM,zV,zL,zU,zX,zS,zN,zH,zJ,yO,zI,gZ,gS,tZ,tS]);try simp only [m3])
 refine ⟨rfl,by decide +kernel,by omega,fun b hb=>?_⟩;have F2:=F1.new (o:=.lst ((Txt.split r " ").map .str)) hb;have k2:=k1.trans (zK.new (o:=.lst ((Txt.split r " ").map .str)) hb);have hab:a≠b:=jA (F1.at zzT) hb;generalize put G1 b (.lst ((Txt.split r " ").map .str))=G2 at F2 k2 ⊢;simp only [vJ,xB (F2.at (p:=b) (o:=.lst ((Txt.split r " ").map .str)) (by simp))];have naG:G a=none:=ha;refine ⟨fun i σ G'=>∃ (us:List Str) (v:Option W),σ=[some (.ref d),some (.str r),some (.ref a),v]/\Fc G' d l [(a,.lst (us.map .str)),(b,.lst ((Txt.split r " ").map .str))]/\zK [d,l] G G'/\Tns ((Txt.split r " ").take i) us,?_,?_,?_,?_⟩
 .exact ⟨[],none,rfl,F2.sub (by simp),k2,.nil⟩
 .rintro i σ G' ⟨us,v,rfl,F,k,t⟩ _;exact xB (F.at (by simp))
 .rintro i w σ G' hw ⟨us,v,rfl,F,k,t⟩;rw [List.getElem?_map] at hw;obtain ⟨x,hx,rfl⟩:=Option.map_eq_some_iff.mp hw;have hi:=(List.getElem?_eq_some_iff.mp hx).1;have et:(Txt.split r " ").take (i+1)=(Txt.split r " ").take i++[x]:=by rw [List.take_succ,hx];rfl
  have ul:us.length<1000:=by rw [t.len,List.length_take];omega
  have fin:∀ (D:End3),(∀ σ G',(∃ (us:List Str) (v:Option W),σ=[some (.ref d),some (.str r),some (.ref a),v]/\Fc G' d l [(a,.lst (us.map .str)),(b,.lst ((Txt.split r " ").map .str))]/\zK [d,l] G G'/\Tns ((Txt.split r " ").take (i+1)) us)->D.nx σ G') ->
    ∀ (u:Str) (G3:Hw),Tn x u->Fc G3 d l [(a,.lst (us.map .str)),(b,.lst ((Txt.split r " ").map .str))]->zK [d,l] G G3 ->
    yQ (xV K C CQ n) XN (.cons (.ex (.mth 2 (.var 2) (.cons (.var 3) .nil))) .nil) D [some (.ref d),some (.str r),some (.ref a),some (.str u)] G3:=fun D hD u G3 hu F3 k3=>by
   refine wU ?_
   ((try dsimp only [zP,zT,zO,zE,yW,yL,yK,zM,zV,zL,zU,zX,zS,zN,zH,zJ,yO,zI,gZ,gS,tZ,tS]);try simp only [m2])
   have ga:=F3.at (p:=a) (o:=.lst (us.map .str)) (by simp);refine ⟨tyL ga,appL ga (by rw [zzM];exact ul) ?_⟩;refine stk K C CQ n (hD _ _ ⟨us++[u],_,rfl,?_,?_,?_⟩)
   .rw [List.map_append];exact F3.chg (by simp;exact hab.symm)
   .exact dQ k3 naG
   .rw [et];exact t.snoc hu
  have sec:∀ (D:End3),(∀ σ G',(∃ (us:List Str) (v:Option W),σ=[some (.ref d),some (.str r),some (.ref a),v]/\Fc G' d l [(a,.lst (us.map .str)),(b,.lst ((Txt.split r " ").map .str))]/\zK [d,l] G G'/\Tns ((Txt.split r " ").take (i+1)) us)->D.nx σ G') ->
    ∀ (u:Str) (G3:Hw),Tn x u\/(u=x/\¬ LA x)->Fc G3 d l [(a,.lst (us.map .str)),(b,.lst ((Txt.split r " ").map .str))]->zK [d,l] G G3 ->
    yQ (xV K C CQ n) XN (.cons (.ite (.cmp .In (.var 3) (.tup (.cons (.con (.str "once")) (.cons (.con (.str "often")) .nil)))) (.cons (.asg 3 (.ix (.lst (.cons (.con (.str "once")) (.cons (.con (.str "often")) .nil))) (.call 13 (.cons (.var 0) (.cons (.con (.int 2)) .nil))))) .nil) .nil) (.cons (.ex (.mth 2 (.var 2) (.cons (.var 3) .nil))) .nil)) D [some (.ref d),some (.str r),some (.ref a),some (.str u)] G3:=fun D hD u G3 hu F3 k3=>by
   refine wU ?_
   ((try dsimp only [zP,zT,zO,zE,yW,yL,yK,zM,zV,zL,zU,zX,zS,zN,zH,zJ,yO,zI,gZ,gS,tZ,tS]);try simp only [xI])
   refine ⟨z2,ziH (c:=["once", "often"]) ?_⟩
   (try dsimp only [zP,zT,zO,zE,yW,yL,yK,zM,zV,zL,zU,zX,zS,zN,zH,zJ,yO,zI,gZ,gS,tZ,tS])
   by_cases hoo:OO u
   .rw [if_pos (zeP.mpr hoo)];refine wU ?_
    ((try dsimp only [zP,zT,zO,zE,yW,yL,yK,zM,zV,zL,zU,zX,zS,zN,zH,zJ,yO,zI,gZ,gS,tZ,tS]);try simp only [e13])
    refine zhH (lits:=["once", "often"]) F3 rfl (by decide) (by decide) fun y hy G4 F4 k4=>?_;have oy:OO y:=by simpa [OO] using hy
    refine stk K C CQ n (fin D hD y G4 ?_ F4 (k3.trans k4));rcases hu with hu|⟨rfl,h2⟩
    .rcases hu with ⟨e,_,n2⟩|⟨e,e2⟩|⟨e,_⟩
     .exact absurd (e▸hoo) n2
     .exact absurd e2 hoo.noLA
     .exact .inr (.inr ⟨e,oy⟩)
    .exact .inr (.inr ⟨hoo,oy⟩)
   .rw [if_neg (fun z=>hoo (zeP.mp z))];refine stn (fin D hD u G3 ?_ F3 k3);rcases hu with hu|⟨rfl,h2⟩
    .exact hu
    .exact .inl ⟨rfl,h2,hoo⟩
  (try dsimp only [zP,zT,zO,zE,yW,yL,yK,zM,zV,zL,zU,zX,zS,zN,zH,zJ,yO,zI,gZ,gS,tZ,tS])
  refine wU ?_
  ((try dsimp only [zP,zT,zO,zE,yW,yL,yK,zM,zV,zL,zU,zX,zS,zN,zH,zJ,yO,zI,gZ,gS,tZ,tS]);try simp only [xI])
  refine ⟨z2,ziH (c:=["last", "any"]) ?_⟩
  (try dsimp only [zP,zT,zO,zE,yW,yL,yK,zM,zV,zL,zU,zX,zS,zN,zH,zJ,yO,zI,gZ,gS,tZ,tS])
  by_cases hla:LA x
  .rw [if_pos (zeQ.mpr hla)];refine wU ?_
   ((try dsimp only [zP,zT,zO,zE,yW,yL,yK,zM,zV,zL,zU,zX,zS,zN,zH,zJ,yO,zI,gZ,gS,tZ,tS]);try simp only [e13])
   refine zhH (lits:=["last", "any"]) F rfl (by decide) (by decide) fun y hy G4 F4 k4=>?_;have ly:LA y:=by simpa [LA] using hy
   exact stk K C CQ n (sec _ (fun _ _ z=>z) y G4 (.inl (.inr (.inl ⟨hla,ly⟩))) F4 (k.trans k4))
  .rw [if_neg (fun z=>hla (zeQ.mp z))];exact stn (sec _ (fun _ _ z=>z) x G' (.inr ⟨rfl,hla⟩) F k)
 .rintro σ G' ⟨us,v,rfl,F,k,t⟩;rw [zzM,List.take_length] at t;obtain ⟨q1,q2,q3⟩:=t3 us t;refine wU ?_
  ((try dsimp only [zP,zT,zO,zE,yW,yL,yK,zM,zV,zL,zU,zX,zS,zN,zH,zJ,yO,zI,gZ,gS,tZ,tS]);try simp only [m1])
  refine ⟨rfl,us,xB (F.at (by simp)),zbL (n:=7) q3 (by rw [l_1,t.len];omega),?_⟩;exact h _ G' q1 q2 k F.dl
theorem dP {G:Hw} {k:Nat} {Q:Q3} (cl:Cl K CQ) (i:Nat) (hi:i∈[0,3,9,4,6,8,5,2,7]) (q:Q (.bl false) G):isxS K [xNo CQ k,.ref (CQ i)] G Q:=⟨cl.xc,cl.xk,false,cl.no i hi,q⟩
theorem memF {G:Hw} {r:Addr} {n:Nat} {Q:Q3} (h:G r=some (.lst (List.replicate n (.bl false)))) (q:Q (.bl false) G):uL false (.bl true) (.ref r) G Q:=by
 have e1:∀ n,wA (List.replicate n (W.bl false))=true:=fun n=>by induction n with|zero=>rfl|succ n ih=>simp only [List.replicate_succ,wA,uS,ih,Bool.and_self]
 have e2:((List.replicate n (W.bl false)).any fun w=>vQ w (.bl true))=false:=by
  rw [List.any_eq_false];intro w hw;rw [(List.mem_replicate.mp hw).2];simp [vQ]
 simp only [uL,h,L3.inR];refine ⟨⟨rfl,e1 n,?_⟩,?_⟩
 .show min _ 0<=150;omega
 .rw [e2];exact q
theorem zfq {n:Nat} (hn:13<=n) (cl:Cl K CQ) {ws:List W} {G:Hw} {Q:Q3} (h:bY ws G Q XN):xS (xV K C CQ n) (sU CQ [⟨"read_book", wR C CQ⟩] T) jX (fun _ _ _=>False) { nx:=fun _ G'=>Q .non G',rt:=Q } (yN qV ws) G:=by
 obtain ⟨w,k,rfl,hw,h⟩:=h;have z3:=sz 3 (by decide);have s1:(xV K C CQ n).sx[1]?=some ⟨xfM "row", xfS K "row"⟩:=rfl;have g1:(xV K C CQ n).gl[1]?=some (("bool" : Str),.ty "bool"):=rfl;have g3:(xV K C CQ n).gl[3]?=some (("ValueError" : Str),.ty "ValueError"):=rfl;have g4:(xV K C CQ n).gl[4]?=some (("NoText" : Str),.ref (CQ 0)):=rfl;have g5:(xV K C CQ n).gl[5]?=some (("NoBook" : Str),.ref (CQ 1)):=rfl;have g6:(xV K C CQ n).gl[6]?=some (("NotLet" : Str),.ref (CQ 2)):=rfl;have g7:(xV K C CQ n).gl[7]?=some (("NoMove" : Str),.ref (CQ 3)):=rfl;have g8:(xV K C CQ n).gl[8]?=some (("NoPlan" : Str),.ref (CQ 4)):=rfl;have g9:(xV K C CQ n).gl[9]?=some (("NoTalker" : Str),.ref (CQ 5)):=rfl;have g10:(xV K C CQ n).gl[10]?=some (("NoPaper" : Str),.ref (CQ 6)):=rfl;have g11:(xV K C CQ n).gl[11]?=some (("NoWeb" : Str),.ref (CQ 7)):=rfl;have g12:(xV K C CQ n).gl[12]?=some (("NoRow" : Str),.ref (CQ 8)):=rfl;have g13:(xV K C CQ n).gl[13]?=some (("NoName" : Str),.ref (CQ 9)):=rfl;have e4:(xV K C CQ n).fn[4]?=some (eIsx K):=jZ (by omega) rfl;have f0:(sU CQ [⟨"read_book", wR C CQ⟩] T).fx[0]?=some ⟨"read_book", wR C CQ⟩:=rfl;have t0:(sU CQ [⟨"read_book", wR C CQ⟩] T).tr[0]?=some ⟨"TalkError", T,[CQ 1]⟩:=rfl;show xS (xV K C CQ n) (sU CQ [⟨"read_book", wR C CQ⟩] T) jX (fun _ _ _=>False) { nx:=fun _ G'=>Q .non G',rt:=Q } [some w,some (.int k),none,none,none] G;simp only [jX];refine rY ?_;simp only [wG]
 (try dsimp only [zP,zT,zO,zE,yW,yL,yK,zM,zV,zL,zU,zX,zS,zN,zH,zJ,yO,zI,gZ,gS,tZ,tS])
 refine rY ?_;simp only [wG,t0];refine rY ?_;simp only [wG]
 ((try dsimp only [zP,zT,zO,zE,yW,yL,yK,zM,zV,zL,zU,zX,zS,zN,zH,zJ,yO,zI,gZ,gS,tZ,tS]);try simp only [f0])
 have key:∀ (Q':Q3) (E:X3),(∀ G',zK [] G G'->E (xNo CQ k) G')->wR C CQ [w] G Q' E:=fun Q' E hE=>by
  rcases hw with ⟨hw,rfl⟩|⟨t,rfl,ht,hg⟩
  .exact .inl ⟨w,rfl,hw,hE⟩
  .exact .inr (.inl ⟨t,k,rfl,ht,hg,hE⟩)
 refine key _ _ fun G1 k1=>?_;refine ⟨CQ 1,["row"],[.int k],rfl,List.mem_singleton.mpr rfl,?_⟩
 (try dsimp only [zP,zT,zO,zE,yW,yL,yK,zM,zV,zL,zU,zX,zS,zN,zH,zJ,yO,zI,gZ,gS,tZ,tS])
 refine rY ?_;simp only [wG]
 ((try dsimp only [zP,zT,zO,zE,yW,yL,yK,zM,zV,zL,zU,zX,zS,zN,zH,zJ,yO,zI,gZ,gS,tZ,tS]);try simp only [e4,g4,g7,g13])
 refine dP cl 0 (by simp) (dP cl 3 (by simp) (dP cl 9 (by simp) ⟨z3,fun r1 hr1=>?_⟩));have a1:(put G1 r1 (.lst (List.replicate 3 (.bl false)))) r1=some (.lst (List.replicate 3 (.bl false))):=zR;have q1:zK [] G (put G1 r1 (.lst (List.replicate 3 (.bl false)))):=k1.trans (zK.new hr1);show xS _ _ _ _ _ _ (put G1 r1 (.lst (List.replicate 3 (.bl false))));generalize put G1 r1 (.lst (List.replicate 3 (.bl false)))=G2 at a1 q1 ⊢;refine rY ?_;simp only [wG]
 ((try dsimp only [zP,zT,zO,zE,yW,yL,yK,zM,zV,zL,zU,zX,zS,zN,zH,zJ,yO,zI,gZ,gS,tZ,tS]);try simp only [e4,g8,g10,g12])
 refine dP cl 4 (by simp) (dP cl 6 (by simp) (dP cl 8 (by simp) ⟨z3,fun r2 hr2=>?_⟩));have b1:=mZ (u:=.lst [.bl false,.bl false,.bl false]) hr2 a1;simp only [wI,b1,zR];refine ⟨sz _ (by show 6<=3000;decide),fun r3 hr3=>?_⟩;have a3:(put (put G2 r2 (.lst [.bl false,.bl false,.bl false])) r3 (.lst (List.replicate 6 (.bl false)))) r3=some (.lst (List.replicate 6 (.bl false))):=zR;have q3:zK [] G (put (put G2 r2 (.lst [.bl false,.bl false,.bl false])) r3 (.lst (List.replicate 6 (.bl false)))):=(q1.trans (zK.new hr2)).trans (zK.new hr3);show xS _ _ _ _ _ _ (put (put G2 r2 (.lst [.bl false,.bl false,.bl false])) r3 (.lst (List.replicate 6 (.bl false))));generalize put (put G2 r2 (.lst [.bl false,.bl false,.bl false])) r3 (.lst (List.replicate 6 (.bl false)))=G3 at a3 q3 ⊢;refine rY ?_;simp only [wG]
 ((try dsimp only [zP,zT,zO,zE,yW,yL,yK,zM,zV,zL,zU,zX,zS,zN,zH,zJ,yO,zI,gZ,gS,tZ,tS]);try simp only [e4,g9,g6,g11])
 refine dP cl 5 (by simp) (dP cl 2 (by simp) (dP cl 7 (by simp) ⟨z3,fun r4 hr4=>?_⟩));have b3:=mZ (u:=.lst [.bl false,.bl false,.bl false]) hr4 a3;simp only [wI,b3,zR];refine ⟨sz _ (by show 9<=3000;decide),fun r5 hr5=>?_⟩;have a5:(put (put G3 r4 (.lst [.bl false,.bl false,.bl false])) r5 (.lst (List.replicate 9 (.bl false)))) r5=some (.lst (List.replicate 9 (.bl false))):=zR;have q5:zK [] G (put (put G3 r4 (.lst [.bl false,.bl false,.bl false])) r5 (.lst (List.replicate 9 (.bl false)))):=(q3.trans (zK.new hr4)).trans (zK.new hr5);show xS _ _ _ _ _ _ (put (put G3 r4 (.lst [.bl false,.bl false,.bl false])) r5 (.lst (List.replicate 9 (.bl false))));generalize put (put G3 r4 (.lst [.bl false,.bl false,.bl false])) r5 (.lst (List.replicate 9 (.bl false)))=G5 at a5 q5 ⊢;refine rY ?_;simp only [wG]
 ((try dsimp only [zP,zT,zO,zE,yW,yL,yK,zM,zV,zL,zU,zX,zS,zN,zH,zJ,yO,zI,gZ,gS,tZ,tS]);try simp only [e4,g5,g3])
 refine ⟨cl.xc,cl.xk,true,cl.one,?_⟩
 ((try dsimp only [zP,zT,zO,zE,yW,yL,yK,zM,zV,zL,zU,zX,zS,zN,zH,zJ,yO,zI,gZ,gS,tZ,tS]);try simp only [jJ,Bool.not_true,zzB,if_false])
 refine ⟨cl.xc,cl.xk,true,cl.val,?_⟩
 ((try dsimp only [zP,zT,zO,zE,yW,yL,yK,zM,zV,zL,zU,zX,zS,zN,zH,zJ,yO,zI,gZ,gS,tZ,tS]);try simp only [jJ,Bool.not_true,zzB,if_false,xI])
 refine memF a5 ?_
 ((try dsimp only [zP,zT,zO,zE,yW,yL,yK,zM,zV,zL,zU,zX,zS,zN,zH,zJ,yO,zI,gZ,gS,tZ,tS]);try simp only [zzB,if_false])
 refine stn ?_;refine rY ?_;simp only [wG]
 ((try dsimp only [zP,zT,zO,zE,yW,yL,yK,zM,zV,zL,zU,zX,zS,zN,zH,zJ,yO,zI,gZ,gS,tZ,tS]);try simp only [s1,xI])
 refine ⟨⟨cl.xc,cl.hd,cl.row⟩,?_⟩;have lk:List.lookup ("row" : Str) ([("row" : Str)].zip [W.int k])=some (.int k):=rfl;rw [lk];simp only [uD,decide_true,if_true];refine ⟨⟨cl.xc,cl.hd,cl.row⟩,?_⟩;rw [lk]
 ((try dsimp only [zP,zT,zO,zE,yW,yL,yK,zM,zV,zL,zU,zX,zS,zN,zH,zJ,yO,zI,gZ,gS,tZ,tS]);try simp only [g1,e4])
 refine ⟨"int", false,rfl,cl.ib,?_⟩
 ((try dsimp only [zP,zT,zO,zE,yW,yL,yK,zM,zV,zL,zU,zX,zS,zN,zH,zJ,yO,zI,gZ,gS,tZ,tS]);try simp only [Bool.not_false])
 exact h _ q5
end
theorem cut_t {α:Type} (l:List α) (i:Nat):vR l none (some (i:Int))=l.take i:=by
 unfold vR HT.xH;dsimp only;rw [if_neg (by omega),List.drop_zero,Nat.sub_zero,Int.toNat_natCast];rw [List.take_eq_take_iff];omega
theorem cut_r {α:Type} (l:List α) (i:Nat):vR l (some (i:Int)) none=l.drop i:=by
 unfold vR HT.xH;dsimp only;rw [if_neg (by omega),Int.toNat_natCast];rw [List.take_of_length_le (by rw [List.length_drop];omega)]
 by_cases h:i<=l.length
 .rw [Nat.min_eq_left h]
 .rw [Nat.min_eq_right (by omega),List.drop_length,List.drop_of_length_le (by omega)]
structure Fk (G0 G:Hw) (d l:Addr) (fs:List (Addr×O)):Prop where
 fc:Fc G d l fs
 kp:zK [d,l] G0 G
abbrev rO (A:List Str):O:=.lst (A.map .str)
section
variable {G0 G G' : Hw} {d l : Addr} {fs : List (Addr × O)} {Q : Q3}
theorem Fk.draw (F:Fk G0 G d l fs) (k:zK [d,l] G G') (D:jT G' d l):Fk G0 G' d l fs:=⟨F.fc.draw k D,F.kp.trans k⟩
theorem Fk.keep (F:Fk G0 G d l fs) (k:zK [] G G'):Fk G0 G' d l fs:=⟨F.fc.keep k,F.kp.trans (zin k)⟩
theorem Fk.new {p:Addr} {o:O} (F:Fk G0 G d l fs) (h:G p=none):Fk G0 (put G p o) d l ((p,o)::fs):=⟨F.fc.new h,F.kp.trans (zK.new h)⟩
theorem Fk.sub {gs:List (Addr×O)} (F:Fk G0 G d l fs) (h:∀ f∈gs,f∈fs):Fk G0 G d l gs:=⟨F.fc.sub h,F.kp⟩
theorem mH {i j:Int} (q:Q (.int (i+j)) G):wI .Add (.int i) (.int j) G Q:=q
theorem subI {i j:Int} (q:Q (.int (i-j)) G):wI .Sub (.int i) (.int j) G Q:=q
theorem slK {rr:Addr} {R R':List Str} {lo hi:Option Int} (F:Fk G0 G d l fs) (hr:(rr,rO R)∈fs) (e:vR (R.map W.str) lo hi=R'.map W.str) (q:∀ r G',Fk G0 G' d l ((r,rO R')::fs)->Q (.ref r) G'):slR (.ref rr) lo hi G Q:=by
 simp only [slR,xB (F.fc.at hr),e];exact fun r h=>q r _ (F.new h)
theorem addK {a b:Addr} {A B:List Str} (F:Fk G0 G d l fs) (ha:(a,rO A)∈fs) (hb:(b,rO B)∈fs) (hl:A.length+B.length<=3000) (q:∀ r G',Fk G0 G' d l ((r,rO (A++B))::fs)->Q (.ref r) G'):wI .Add (.ref a) (.ref b) G Q:=by
 simp only [wI,F.fc.at ha,F.fc.at hb];refine ⟨sz _ (by rw [zzM,zzM];exact hl),fun r h=>?_⟩;rw [← List.map_append];exact q r _ (F.new h)
theorem addN {a b:Addr} {A B:List Str} (F:Fk G0 G d l fs) (ha:(a,rO A)∈fs) (hb:(b,rO B)∈fs) (hl:A.length+B.length<=3000) (q:∀ r G',G0 r=none->Fk G0 G' d l ((r,rO (A++B))::fs)->Q (.ref r) G'):wI .Add (.ref a) (.ref b) G Q:=by
 simp only [wI,F.fc.at ha,F.fc.at hb];refine ⟨sz _ (by rw [zzM,zzM];exact hl),fun r h=>?_⟩;rw [← List.map_append];exact q r _ (zK.none F.kp (zbr F.fc.dl h) h) (F.new h)
theorem jN {a:Addr} {A:List Str} {x:Str} (F:Fk G0 G d l fs) (ha:(a,rO A)∈fs) (hl:A.length<=2000) (q:∀ r G',Fk G0 G' d l ((r,rO (A++[x]))::fs)->Q (.ref r) G'):[W.str x].length<=sizeLine/\∀ p,G p=none->wI .Add (.ref a) (.ref p) (put G p (.lst [.str x])) Q :=
 ⟨sz _ (by show 1<=3000;decide),fun p hp=>addK (B:=[x]) (F.new (o:=rO [x]) hp) (List.mem_cons_of_mem _ ha) zzT (by simp;omega) fun r G' F'=>q r G' (F'.sub fun f hf=>by
  rcases List.mem_cons.mp hf with rfl|hf
  .exact zzT
  .exact List.mem_cons_of_mem _ (List.mem_cons_of_mem _ hf))⟩
theorem cA {rr:Addr} {R:List Str} {a:Nat} (F:Fk G0 G d l fs) (hr:(rr,rO R)∈fs) (q:∀ r G',Fk G0 G' d l ((r,rO (R.take a))::fs)->Q (.ref r) G'):slR (.ref rr) none (some (a:Int)) G Q:=slK F hr (by rw [cut_t,List.map_take]) q
theorem fZ {rr:Addr} {R:List Str} {a:Nat} (F:Fk G0 G d l fs) (hr:(rr,rO R)∈fs) (q:∀ r G',Fk G0 G' d l ((r,rO (R.drop a))::fs)->Q (.ref r) G'):slR (.ref rr) (some (a:Int)) none G Q:=slK F hr (by rw [cut_r,List.map_drop]) q
theorem ixK {rr:Addr} {R:List Str} {a:Nat} {r:Str} (F:Fk G0 G d l fs) (hr:(rr,rO R)∈fs) (e:R[a]?=some r) (q:Q (.str r) G):rS (.ref rr) (.int a) G Q:=by
 refine ixL (xB (F.fc.at hr)) ?_;have h1:=(List.getElem?_eq_some_iff.mp e).1
 have:rQ (R.map W.str) (a:Int)=some (.str r):=by
  unfold rQ ixN;rw [if_pos (by omega),zzM,if_pos (by omega)];simp [e]
 rw [this];exact q
theorem refT {A:List Str} {k:Nat} (h0:A≠[]) (hA:∀ r∈A,10∉r.cps.toList/\r.length<=40) (hl:A.length<=15) (hg:go (A.map qX) 1 []=some k):JoinOk "\n" A=true/\∀ G,RefW G (.str (Txt.join "\n" A)) k:=by
 have j:=zbL (sep := "\n") (ts:=A) (n:=40) (fun y hy=>(hA y hy).2) (by rw [l_n];omega);refine ⟨j,fun G=>.inr ⟨_,rfl,?_,by rw [zaW h0 fun r hr=>(hA r hr).1];exact hg⟩⟩;unfold Txt.join;rw [StrLaws.glued_eq_join];have h1:=StrLaws.join_length_le "\n" A;have h2:=StrLaws.sumLen_le A fun y hy=>(hA y hy).2;rw [l_n] at h1;omega
end
theorem RsOk.four {x:Bk} {R:List Str} (h:RsOk x R):4<=R.length:=by
 have h1:=h.perm.length_eq;have h2:=List.length_filter_le nb R;have:x.txt.length=4:=rfl;omega
theorem dX {A B:List Str} {u:Str}:A++[u]++B=A++u::B:=by simp
theorem rW {R A B:List Str} {u:Str} (hR:∀ r∈R,10∉r.cps.toList/\r.length<=40) (hA:∀ r∈A,r∈R) (hB:∀ r∈B,r∈R) (hu:10∉u.cps.toList/\u.length<=40):∀ r∈A++u::B,10∉r.cps.toList/\r.length<=40:=fun r hr=>by
 rcases List.mem_append.mp hr with h|h
 .exact hR r (hA r h)
 .rcases List.mem_cons.mp h with rfl|h
  .exact hu
  .exact hR r (hB r h)
theorem fil3 {i:Nat}:∀ {l:List Nat},l.Nodup->i∈l->(l.filter (· != i)).length+1=l.length
 |a::l,hn,hi=>by
  obtain ⟨h1,h2⟩:=List.nodup_cons.mp hn;rw [List.filter_cons]
  by_cases e:a=i
  .subst e
   have:l.filter (· != a)=l:=List.filter_eq_self.mpr fun b hb=>by
    simp only [bne_iff_ne];exact fun z=>h1 (z▸hb)
   rw [if_neg (by simp),this];rfl
  .rcases List.mem_cons.mp hi with z|z
   .exact absurd z.symm e
   .rw [if_pos (by simpa using e),List.length_cons,fil3 h2 z];rfl
theorem zbk:∀ R:List Str,(yG R).length=(R.filter nb).length
 | []=>rfl
 |r::R=>by
  have ih:=zbk R;unfold yG at ih ⊢;rw [List.length_cons,List.range_succ_eq_map,List.filter_cons,List.filter_cons,List.filter_map];have e:(fun i=>nb ((r::R).getD i "")) ∘ Nat.succ=fun i=>nb (R.getD i ""):=rfl;have e0:nb ((r::R).getD 0 "")=nb r:=rfl;rw [e,e0]
  split
  .rw [List.length_cons,List.length_cons,zzM,ih]
  .rw [zzM,ih]
theorem pl_nd (R:List Str):(yG R).Nodup:=List.Pairwise.filter _ List.nodup_range
theorem Fk.chg {G0 G:Hw} {d l:Addr} {fs:List (Addr×O)} {p:Addr} {o o':O} (F:Fk G0 G d l ((p,o)::fs)) (h:G0 p=none) (ne:∀ f∈fs,f.1≠p):Fk G0 (put G p o') d l ((p,o')::fs):=⟨F.fc.chg ne,dQ F.kp h⟩
theorem atN {l:List Nat} {y:Int} (h0:0<=y) (h1:y<l.length):∃ j∈l,rQ (qW l) y=some (.int (j:Int)):=by
 have hi:y.toNat<l.length:=by omega
 refine ⟨l[y.toNat],List.getElem_mem hi,?_⟩;unfold rQ ixN qW;rw [if_pos h0,zzM,if_pos h1];simp [hi]
theorem two {R:List Str} {i j:Nat} {q r:Str} (h:j<i) (ei:R[i]?=some r) (ej:R[j]?=some q):∃ A1 A2 A3,R=A1++q::A2++r::A3/\∀ u,R.set j u=A1++u::A2++r::A3/\(A1++u::A2).length=i:=by
 obtain ⟨hi,e1⟩:=List.getElem?_eq_some_iff.mp ei;obtain ⟨hj,e2⟩:=List.getElem?_eq_some_iff.mp ej;have s1:R=R.take i++r::R.drop (i+1):=by rw [← e1,List.getElem_cons_drop,List.take_append_drop]
 have tj:(R.take i)[j]?=some q:=by rw [List.getElem?_take_of_lt h];exact ej
 obtain ⟨hj',e3⟩:=List.getElem?_eq_some_iff.mp tj
 have s2:R.take i=(R.take i).take j++q::(R.take i).drop (j+1):=by
  conv=>lhs;rw [← List.take_append_drop j (R.take i)]
  rw [← e3,List.getElem_cons_drop]
 have l1:((R.take i).take j).length=j:=by rw [List.length_take,List.length_take];omega
 refine ⟨(R.take i).take j,(R.take i).drop (j+1),R.drop (i+1),?_,fun u=>⟨?_,?_⟩⟩
 .rw [← s2];exact s1
 .have e:R=(R.take i).take j++q::((R.take i).drop (j+1)++r::R.drop (i+1)):=by
   have:(R.take i).take j++q::((R.take i).drop (j+1)++r::R.drop (i+1))=((R.take i).take j++q::(R.take i).drop (j+1))++r::R.drop (i+1):=by simp
   rw [this,← s2];exact s1
  conv=>lhs;rw [e]
  rw [List.set_append_right _ _ (by omega),l1,Nat.sub_self,List.set_cons_zero];simp
 .rw [zzW,List.length_cons,l1,List.length_drop,List.length_take];omega
theorem zaA {R:List Str} {j:Nat} {u r:Str} (h:r∈R.set j u):r∈R\/r=u:=List.mem_or_eq_of_mem_set h
section
variable {K : yZ} {C : Addr} {CQ : Nat → Addr} {T : Addr}
theorem zgP {n:Nat} (hn:17<=n) {ws:List W} {G:Hw} {Q:Q3} (h:zcX ws G Q XN):yQ (xV K C CQ n) XN qZ { nx:=fun _ G'=>Q .non G',rt:=Q } (yN wK ws) G:=by
 obtain ⟨d,l,rr,pp,R,x,i,rfl,D,nr,np,hr,hp,ok,few,hi,h⟩:=h;have e0:(xV K C CQ n).fn[0]?=some eMax:=jZ (by omega) rfl;have e1:(xV K C CQ n).fn[1]?=some eLen:=jZ (by omega) rfl;have e3:(xV K C CQ n).fn[3]?=some eLst:=jZ (by omega) rfl;have e13:(xV K C CQ n).fn[13]?=some zb9:=jZ (by omega) rfl;have e14:(xV K C CQ n).fn[14]?=some ⟨"_law_turned", uQ⟩:=jZ (by omega) rfl;have e15:(xV K C CQ n).fn[15]?=some ⟨"_law_refused", bY⟩:=jZ (by omega) rfl;have e16:(xV K C CQ n).fn[16]?=some ⟨"_law_bad_row", zcW⟩:=jZ (by omega) rfl;have m1:(xV K C CQ n).mt[1]?=some sM:=rfl;have m2:(xV K C CQ n).mt[2]?=some eApp:=rfl
 have F0:Fk G G d l [(rr,rO R),(pp,.lst (qW (yG R)))]:=⟨⟨D,fun f hf=>by
  simp only [List.mem_cons,List.not_mem_nil,or_false] at hf;rcases hf with rfl|rfl
  .exact ⟨hr,nr⟩
  .exact ⟨hp,np⟩⟩,zK.refl⟩
 show yQ _ _ _ _ [some (.ref d),some (.ref rr),some (.ref pp),some (.int i),none,none,none,none,none,none,none,none,none] G;obtain ⟨hiR,nbi⟩:=List.mem_filter.mp hi;have hiR:i<R.length:=by simpa using hiR
 have row:=ok.row;generalize hri:R.getD i "" = ri at nbi;have ei:R[i]?=some ri:=by rw [← hri];simp [List.getD,List.getElem?_eq_getElem hiR]
 have sp:R=R.take i++ri::R.drop (i+1):=by
  rw [← (List.getElem?_eq_some_iff.mp ei).2,List.getElem_cons_drop,List.take_append_drop]
 have rin:ri∈R:=List.mem_of_getElem? ei;have rwi:=ok.rw rin nbi;have lenT:(R.take i).length=i:=by rw [List.length_take];omega
 have four:=ok.four;have tk:∀ a,∀ r∈R.take a,r∈R:=fun a r h=>List.mem_of_mem_take h;have dk:∀ a,∀ r∈R.drop a,r∈R:=fun a r h=>List.mem_of_mem_drop h;refine wU ?_
 (try dsimp only [zP,zT,zO,zE,yW,yL,yK,zM,zV,zL,zU,zX,zS,zN,zH,zJ,yO,zI,gZ,gS,tZ,tS])
 refine cA (R:=R) F0 (by simp) fun r1 G1 F1=>mH ?_;dsimp only;refine fZ (R:=R) (a:=i+1) F1 (by simp) fun r2 G2 F2=>addK (A:=R.take i) (B:=R.drop (i+1)) F2 (by simp) (by simp) (by simp;omega) fun lk3 G3 F3=>?_;have F3:=F3.sub (gs:=[(lk3,rO (R.take i++R.drop (i+1))),(rr,rO R),(pp,.lst (qW (yG R)))]) (by simp);have w1:=way1 ok sp nbi;obtain ⟨j1,t1⟩:=refT (by intro z;have z:=congrArg List.length z;rw [zzW,List.length_take,List.length_drop,List.length_nil] at z;omega) (fun r hr=>row r (by rcases List.mem_append.mp hr with h|h;exact tk _ r h;exact dk _ r h)) (by simp;omega) w1;refine wU ?_
 ((try dsimp only [zP,zT,zO,zE,yW,yL,yK,zM,zV,zL,zU,zX,zS,zN,zH,zJ,yO,zI,gZ,gS,tZ,tS]);try simp only [e15,m1,e1,tE,tF,F3.fc.at (p:=lk3) zzT,wI])
 refine ⟨rfl,_,xB (F3.fc.at (p:=lk3) zzT),j1,?_⟩;simp only [F3.fc.at (p:=lk3) zzT];refine ⟨_,_,rfl,?_,fun G4 k4=>?_⟩
 .rw [zzM];exact t1 G3
 have F4:=(F3.keep k4).sub (gs:=[(rr,rO R),(pp,.lst (qW (yG R)))]) (by simp)
 clear F3 F2 F1 F0 t1 j1 w1
 ((try dsimp only [zP,zT,zO,zE,yW,yL,yK,zM,zV,zL,zU,zX,zS,zN,zH,zJ,yO,zI,gZ,gS,tZ,tS]);try simp only [jJ,Bool.not_true,zzB,if_false])
 refine stk K C CQ n (wU ?_)
 ((try dsimp only [zP,zT,zO,zE,yW,yL,yK,zM,zV,zL,zU,zX,zS,zN,zH,zJ,yO,zI,gZ,gS,tZ,tS]);try simp only [e13,e1,tE,tF,F4.fc.at (p:=rr) zzT])
 refine mH ?_;simp only [F4.fc.at (p:=rr) zzT,zzM];refine subI ⟨d,l,_,rfl,F4.fc.dl,⟨by omega,by omega⟩,fun y G5 y0 y1 k5 D5=>mH ?_⟩;have F5:=F4.draw k5 D5;obtain ⟨a,ea,ia,aR⟩:∃ a:Nat,(i:Int)+1+y=(a:Int)/\i<a/\a<=R.length:=⟨(i+1+y).toNat,by omega,by omega,by omega⟩;rw [ea]
 clear F4 y0 y1 k5 D5 ea
 have lena:(R.take a).length=a:=by rw [List.length_take];omega
 have spa:R=R.take a++R.drop a:=(List.take_append_drop a R).symm
 have ina:ri∈R.take a:=by
  refine List.mem_of_getElem? (i:=i) ?_;rw [List.getElem?_take_of_lt ia];exact ei
 have rok:10∉ri.cps.toList/\ri.length<=40:=row ri rin
 have lmid:∀ (a:Nat) (u:Str),(R.take a++u::R.drop a).length<=15:=fun a u=>by
  have:=congrArg List.length (List.take_append_drop a R);simp only [zzW,List.length_cons] at this ⊢;omega
 refine wU ?_
 (try dsimp only [zP,zT,zO,zE,yW,yL,yK,zM,zV,zL,zU,zX,zS,zN,zH,zJ,yO,zI,gZ,gS,tZ,tS])
 refine cA (R:=R) F5 (by simp) fun r1 G1 F1=>ixK (R:=R) F1 (by simp) ei (jN (A:=R.take a) F1 (by simp) (by simp;omega) fun r3 G3 F3=>?_);refine fZ (R:=R) F3 (by simp) fun r4 G4 F4=>addK (A:=R.take a++[ri]) (B:=R.drop a) F4 (by simp) (by simp) (by simp;omega) fun r5 G6 F6=>?_;rw [dX] at F6;have F6:=F6.sub (gs:=[(r5,rO (R.take a++ri::R.drop a)),(rr,rO R),(pp,.lst (qW (yG R)))]) (by simp)
 clear F5 F4 F3 F1
 obtain ⟨j2,t2⟩:=refT (by simp) (rW row (tk a) (dk a) rok) (lmid a ri) (way2 ok spa ina nbi nbi rfl);refine wU ?_
 ((try dsimp only [zP,zT,zO,zE,yW,yL,yK,zM,zV,zL,zU,zX,zS,zN,zH,zJ,yO,zI,gZ,gS,tZ,tS]);try simp only [e15,m1])
 refine ⟨rfl,_,xB (F6.fc.at (p:=r5) zzT),j2,mH ?_⟩;rw [lena] at t2;refine ⟨_,a+1,rfl,t2 _,fun G7 k7=>?_⟩;have F7:=(F6.keep k7).sub (gs:=[(rr,rO R),(pp,.lst (qW (yG R)))]) (by simp)
 clear F6 t2 j2
 ((try dsimp only [zP,zT,zO,zE,yW,yL,yK,zM,zV,zL,zU,zX,zS,zN,zH,zJ,yO,zI,gZ,gS,tZ,tS]);try simp only [jJ,Bool.not_true,zzB,if_false])
 refine stk K C CQ n (wU ?_)
 ((try dsimp only [zP,zT,zO,zE,yW,yL,yK,zM,zV,zL,zU,zX,zS,zN,zH,zJ,yO,zI,gZ,gS,tZ,tS]);try simp only [e14])
 refine ixK (R:=R) F7 (by simp) ei ⟨d,l,ri,rfl,F7.fc.dl,rwi,fun u G8 ru su k8 D8=>?_⟩;have F8:=F7.draw k8 D8;obtain ⟨u1,u2,u3,u4,_⟩:=ru.ok
 clear F7 k8 D8
 refine wU ?_
 (try dsimp only [zP,zT,zO,zE,yW,yL,yK,zM,zV,zL,zU,zX,zS,zN,zH,zJ,yO,zI,gZ,gS,tZ,tS])
 refine cA (R:=R) F8 (by simp) fun r1 G1 F1=>jN (A:=R.take a) F1 (by simp) (by simp;omega) fun r3 G3 F3=>?_;refine fZ (R:=R) F3 (by simp) fun r4 G4 F4=>addK (A:=R.take a++[u]) (B:=R.drop a) F4 (by simp) (by simp) (by simp;omega) fun r6 G9 F9=>?_;rw [dX] at F9;have F9:=F9.sub (gs:=[(r6,rO (R.take a++u::R.drop a)),(rr,rO R),(pp,.lst (qW (yG R)))]) (by simp)
 clear F8 F4 F3 F1
 obtain ⟨j2,t2⟩:=refT (by simp) (rW row (tk a) (dk a) ⟨u3,u4⟩) (lmid a u) (way2 ok spa ina nbi u2 su);refine wU ?_
 ((try dsimp only [zP,zT,zO,zE,yW,yL,yK,zM,zV,zL,zU,zX,zS,zN,zH,zJ,yO,zI,gZ,gS,tZ,tS]);try simp only [e15,m1])
 refine ⟨rfl,_,xB (F9.fc.at (p:=r6) zzT),j2,mH ?_⟩;rw [lena] at t2;refine ⟨_,a+1,rfl,t2 _,fun G7 k7=>?_⟩;have F10:=(F9.keep k7).sub (gs:=[(rr,rO R),(pp,.lst (qW (yG R)))]) (by simp)
 clear F9 t2 j2
 ((try dsimp only [zP,zT,zO,zE,yW,yL,yK,zM,zV,zL,zU,zX,zS,zN,zH,zJ,yO,zI,gZ,gS,tZ,tS]);try simp only [jJ,Bool.not_true,zzB,if_false])
 refine stk K C CQ n (wU ?_)
 ((try dsimp only [zP,zT,zO,zE,yW,yL,yK,zM,zV,zL,zU,zX,zS,zN,zH,zJ,yO,zI,gZ,gS,tZ,tS]);try simp only [e16])
 refine cA (R:=R) F10 (by simp) fun r1 G1 F1=>⟨d,l,rfl,F1.fc.dl,fun b hb G2 k2 D2=>?_⟩;obtain ⟨b1,b2,b3,b4⟩:=nM b hb;have F2:=F1.draw k2 D2;refine jN (A:=R.take i) F2 (by simp) (by simp;omega) fun r3 G4 F4=>mH ?_;dsimp only;refine fZ (R:=R) (a:=i+1) F4 (by simp) fun r4 G5 F5=>addK (A:=R.take i++[b]) (B:=R.drop (i+1)) F5 (by simp) (by simp) (by simp;omega) fun r7 G6 F6=>?_;rw [dX] at F6;have F11:=F6.sub (gs:=[(r7,rO (R.take i++b::R.drop (i+1))),(rr,rO R),(pp,.lst (qW (yG R)))]) (by simp)
 clear F10 F6 F5 F4 F2 F1
 obtain ⟨j2,t2⟩:=refT (by simp) (rW row (tk i) (dk (i+1)) ⟨b3,b4⟩) (by simp;omega) (way4 (B:=R.drop (i+1)) ok (List.take_sublist i R) hb);refine wU ?_
 ((try dsimp only [zP,zT,zO,zE,yW,yL,yK,zM,zV,zL,zU,zX,zS,zN,zH,zJ,yO,zI,gZ,gS,tZ,tS]);try simp only [e15,m1])
 refine ⟨rfl,_,xB (F11.fc.at (p:=r7) zzT),j2,mH ?_⟩;rw [lenT] at t2;refine ⟨_,i+1,rfl,t2 _,fun G7 k7=>?_⟩;have F12:=(F11.keep k7).sub (gs:=[(rr,rO R),(pp,.lst (qW (yG R)))]) (by simp)
 clear F11 t2 j2
 ((try dsimp only [zP,zT,zO,zE,yW,yL,yK,zM,zV,zL,zU,zX,zS,zN,zH,zJ,yO,zI,gZ,gS,tZ,tS]);try simp only [jJ,Bool.not_true,zzB,if_false])
 refine stk K C CQ n (wU ?_)
 ((try dsimp only [zP,zT,zO,zE,yW,yL,yK,zM,zV,zL,zU,zX,zS,zN,zH,zJ,yO,zI,gZ,gS,tZ,tS]);try simp only [e3,lstS,seqL (F12.fc.at (p:=rr) zzT)])
 intro tw htw;have F13:=F12.new (o:=rO R) htw;have ntr:∀ f∈[(rr,rO R),(pp,O.lst (qW (yG R)))],f.1≠tw:=fun f hf=>jA (F12.fc.ob f hf).1 htw;generalize put G7 tw _=G8 at F13;refine wU ?_
 ((try dsimp only [zP,zT,zO,zE,yW,yL,yK,zM,zV,zL,zU,zX,zS,zN,zH,zJ,yO,zI,gZ,gS,tZ,tS]);try simp only [e13])
 simp only [vJ,xB (F13.fc.at (p:=pp) (o:=.lst (qW (yG R))) (by simp))];have p4:(yG R).length=4:=by rw [zbk,ok.perm.length_eq];rfl
 have p3:=fil3 (pl_nd R) hi;refine zeB (yG R) (fun n:Nat=>W.int (n:Int)) (fun k=>k != i) rfl (by omega) (fun G' k=>xB (k0 k (F13.fc.at (p:=pp) (o:=.lst (qW (yG R))) (by simp)))) (fun y hy G' k kp hk=>?_) (fun G9 q kp hq=>?_)
 .show xI .NotEq (.int (y:Int)) (.int (i:Int)) G' (fun w G1=>match w with|.bl b=>if b=true then k (some (.int (y:Int))) G1 else k none G1|_=>False);have:=hk G' kp;simp only [xI,uD]
  by_cases e:y=i
  .subst e;simpa using this
  .have e2:¬ ((y:Int)=(i:Int)):=by omega
   rw [if_pos (by simpa using e)] at this;simpa [e2] using this
 have F14:=(F13.keep kp).new (o:=.lst (qW ((yG R).filter (· != i)))) hq;refine ⟨d,l,3,rfl,F14.fc.dl,by decide,fun y G10 y0 y1 k10 D10=>?_⟩;have F15:=F14.draw k10 D10;obtain ⟨j,hj,ej⟩:=atN (l:=(yG R).filter (· != i)) y0 (by omega);refine ixL (xB (F15.fc.at (p:=q) zzT)) ?_;rw [ej];have F15:=F15.sub (gs:=[(tw,rO R),(rr,rO R),(pp,.lst (qW (yG R)))]) (by simp)
 clear ej k10 D10 F14 y0 y1 kp hq
 obtain ⟨hj,nji⟩:=List.mem_filter.mp hj;have nji:j≠i:=by simpa using nji
 obtain ⟨hjR,nbj⟩:=List.mem_filter.mp hj;have hjR:j<R.length:=by simpa using hjR
 generalize hrj:R.getD j "" = rj at nbj;have ej:R[j]?=some rj:=by rw [← hrj];simp [List.getD,List.getElem?_eq_getElem hjR]
 have ntw:G tw=none:=zK.none F12.kp (F13.fc.ob _ zzT).2 htw;refine wU ?_
 have jx:ixN (R.map W.str).length (j:Int)=some j:=by
  unfold ixN;rw [if_pos (by omega),zzM,if_pos (by omega),Int.toNat_natCast]
 ((try dsimp only [zP,zT,zO,zE,yW,yL,yK,zM,zV,zL,zU,zX,zS,zN,zH,zJ,yO,zI,gZ,gS,tZ,tS]);try simp only [fG,F15.fc.at (p:=tw) zzT,jx])
 have F16:=F15.chg (o':=rO (R.set j u)) ntw ntr;rw [show (R.map W.str).set j (.str u)=(R.set j u).map W.str from List.map_set.symm];generalize put G10 tw _=G11 at F16 ⊢
 clear F15 F13 F12 ntr
 have way:go ((R.set j u).map qX) 1 []=some (max i j+1):=by
  rcases Nat.lt_or_gt_of_ne nji with lt|lt
  .obtain ⟨A1,A2,A3,s,hs⟩:=two lt ei ej;obtain ⟨s1,s2⟩:=hs u;rw [s1,way5 ok s nbi ru su,s2,Nat.max_eq_left (Nat.le_of_lt lt)]
  .have s:R.set j u=R.take j++u::R.drop (j+1):=List.set_eq_take_append_cons_drop.trans (if_pos hjR)
   have inj:ri∈R.take j:=by
    refine List.mem_of_getElem? (i:=i) ?_;rw [List.getElem?_take_of_lt lt];exact ei
   rw [s,uR (ok.fine.sub (List.take_sublist j R)) u2 (.inl (su▸nZ inj nbi)),List.length_take,Nat.max_eq_right (Nat.le_of_lt lt),Nat.min_eq_left (Nat.le_of_lt hjR)]
 obtain ⟨j2,t2⟩:=refT (by intro z;have:=congrArg List.length z;rw [List.length_set,List.length_nil] at this;omega) (fun r hr=>(zaA hr).elim (row r) fun e=>e▸⟨u3,u4⟩) (by rw [List.length_set];omega) way;refine wU ?_
 ((try dsimp only [zP,zT,zO,zE,yW,yL,yK,zM,zV,zL,zU,zX,zS,zN,zH,zJ,yO,zI,gZ,gS,tZ,tS]);try simp only [e15,m1,e0,maxS])
 refine ⟨rfl,_,xB (F16.fc.at (p:=tw) zzT),j2,mH ?_⟩
 have em:(if (j:Int) > (i:Int) then (j:Int) else (i:Int))+1=((max i j+1:Nat):Int):=by
  split<;>omega
 rw [em];refine ⟨_,_,rfl,t2 _,fun G12 k12=>?_⟩;have F17:=(F16.keep k12).sub (gs:=[(rr,rO R)]) (by simp)
 clear F16 t2 j2 em way
 ((try dsimp only [zP,zT,zO,zE,yW,yL,yK,zM,zV,zL,zU,zX,zS,zN,zH,zJ,yO,zI,gZ,gS,tZ,tS]);try simp only [jJ,Bool.not_true,zzB,if_false])
 refine stk K C CQ n (wU ?_)
 ((try dsimp only [zP,zT,zO,zE,yW,yL,yK,zM,zV,zL,zU,zX,zS,zN,zH,zJ,yO,zI,gZ,gS,tZ,tS]);try simp only [e13,e1,tE,tF])
 simp only [F17.fc.at (p:=rr) zzT,zzM];refine mH ⟨d,l,_,rfl,F17.fc.dl,⟨by omega,by omega⟩,fun y G13 y0 y1 k13 D13=>?_⟩;have F18:=F17.draw k13 D13;obtain ⟨c,rfl⟩:∃ c:Nat,y=(c:Int):=⟨y.toNat,by omega⟩;have cR:c<=R.length:=by omega
 have lenc:(R.take c).length=c:=by rw [List.length_take];omega
 clear F17 k13 D13
 refine wU ?_
 ((try dsimp only [zP,zT,zO,zE,yW,yL,yK,zM,zV,zL,zU,zX,zS,zN,zH,zJ,yO,zI,gZ,gS,tZ,tS]);try simp only [e16])
 refine cA (R:=R) F18 (by simp) fun r1 G1 F1=>⟨d,l,rfl,F1.fc.dl,fun g hg G2 k2 D2=>?_⟩;obtain ⟨g1,g2,g3,g4⟩:=nM g hg;have F2:=F1.draw k2 D2;refine jN (A:=R.take c) F2 (by simp) (by simp;omega) fun r3 G4 F4=>?_;refine fZ (R:=R) (a:=c) F4 (by simp) fun r4 G5 F5=>addN (A:=R.take c++[g]) (B:=R.drop c) F5 (by simp) (by simp) (by simp;omega) fun wr G14 nwr F6=>?_;rw [dX] at F6;have F19:=F6.sub (gs:=[(wr,rO (R.take c++g::R.drop c))]) (by simp)
 clear F18 F6 F5 F4 F2 F1
 have fin:∀ (B:List Str) (G15:Hw),B.length<=R.length-c+1->(∀ r∈R.take c++g::B,10∉r.cps.toList/\r.length<=40)->Fk G G15 d l [(wr,rO (R.take c++g::B))]->yQ (xV K C CQ n) XN (.cons (.ite (.not (.call 15 (.cons (.mth 1 (.con (.str "\n")) (.cons (.var 12) .nil)) (.cons (.bin .Add (.var 11) (.con (.int 1))) .nil)))) (.cons (.ret (.con (.bool false)))
 .nil) .nil) (.cons (.ret (.con (.bool true))) .nil)) { nx:=fun _ G'=>Q .non G',rt:=Q } [some (.ref d),some (.ref rr),some (.ref pp),some (.int i),some (.ref lk3),some (.int a),some (.ref r6),some (.str u),some (.ref r7),some (.ref tw),some (.int j),some (.int c),some (.ref wr)] G15:=fun B G15 hB rB F=>by
  obtain ⟨j2,t2⟩:=refT (by simp) rB (by rw [zzW,lenc,List.length_cons];omega) (way4 (B:=B) ok (List.take_sublist c R) hg);refine wU ?_
  ((try dsimp only [zP,zT,zO,zE,yW,yL,yK,zM,zV,zL,zU,zX,zS,zN,zH,zJ,yO,zI,gZ,gS,tZ,tS]);try simp only [e15,m1])
  refine ⟨rfl,_,xB (F.fc.at (p:=wr) zzT),j2,mH ?_⟩;rw [lenc] at t2;refine ⟨_,c+1,rfl,t2 _,fun G16 k16=>?_⟩;have F:=F.keep k16
  ((try dsimp only [zP,zT,zO,zE,yW,yL,yK,zM,zV,zL,zU,zX,zS,zN,zH,zJ,yO,zI,gZ,gS,tZ,tS]);try simp only [jJ,Bool.not_true,zzB,if_false])
  refine stk K C CQ n (wU ?_)
  (try dsimp only [zP,zT,zO,zE,yW,yL,yK,zM,zV,zL,zU,zX,zS,zN,zH,zJ,yO,zI,gZ,gS,tZ,tS])
  exact h _ F.kp F.fc.dl
 have rowc:=rW (A:=R.take c) (B:=R.drop c) row (tk c) (dk c) ⟨g3,g4⟩;refine wU ?_
 ((try dsimp only [zP,zT,zO,zE,yW,yL,yK,zM,zV,zL,zU,zX,zS,zN,zH,zJ,yO,zI,gZ,gS,tZ,tS]);try simp only [e13])
 refine ⟨d,l,2,rfl,F19.fc.dl,by decide,fun y G15 y0 y1 k15 D15=>?_⟩;have F20:=F19.draw k15 D15
 ((try dsimp only [zP,zT,zO,zE,yW,yL,yK,zM,zV,zL,zU,zX,zS,zN,zH,zJ,yO,zI,gZ,gS,tZ,tS]);try simp only [xI,uD])
 by_cases hy:y=1
 .rw [decide_eq_true hy,if_pos rfl];refine wU ?_
  ((try dsimp only [zP,zT,zO,zE,yW,yL,yK,zM,zV,zL,zU,zX,zS,zN,zH,zJ,yO,zI,gZ,gS,tZ,tS]);try simp only [m2,e16])
  have gw:=F20.fc.at (p:=wr) zzT;refine ⟨tyL gw,d,l,rfl,F20.fc.dl,fun z hz G16 k16 D16=>?_⟩;obtain ⟨z1,z2,z3,z4⟩:=nM z hz;have F21:=F20.draw k16 D16;refine appL (F21.fc.at (p:=wr) zzT) (by rw [zzM,zzW,lenc,List.length_cons,List.length_drop];omega) ?_;have F22:=F21.chg (o':=rO (R.take c++g::(R.drop c++[z]))) nwr (by simp);rw [show (R.take c++g::R.drop c).map W.str++[.str z]=(R.take c++g::(R.drop c++[z])).map W.str by simp];refine stk K C CQ n (fin (R.drop c++[z]) _ (by rw [zzW,List.length_drop];simp) (fun r hr=>?_) F22)
  have:r∈R.take c++g::R.drop c\/r=z:=by
   simp only [List.mem_append,List.mem_cons,List.not_mem_nil,or_false] at hr ⊢;rcases hr with h|h|h|h
   .exact .inl (.inl h)
   .exact .inl (.inr (.inl h))
   .exact .inl (.inr (.inr h))
   .exact .inr h
  exact this.elim (rowc r) fun e=>e▸⟨z3,z4⟩
 .rw [decide_eq_false hy,if_neg zzN];exact stk K C CQ n (fin (R.drop c) _ (by rw [List.length_drop];omega) rowc F20)
end
section
variable {K : yZ} {C : Addr} {CQ : Nat → Addr} {T : Addr}
theorem ziL {b:Str}:∀ k:Nat,(List.replicate k [W.str b]).flatten=(List.replicate k b).map W.str
 | 0=>rfl
 |k+1=>by rw [List.replicate_succ,List.flatten_cons,ziL k,List.replicate_succ];rfl
theorem nbT {x:Bk} (ok:x.Ok) {r:Str} (h:r∈x.txt):nb r=true:=(Rw.ok ⟨x,ok,h⟩).2.1
theorem ziN {b:Str} (h:blank b) (k:Nat):(List.replicate k b).filter nb=[]:=by
 rw [List.filter_eq_nil_iff];intro r hr;rw [(List.mem_replicate.mp hr).2,h.ok.1];exact zzN
theorem readR {x:Bk} {R:List Str} (ok:RsOk x R) (few:R.length<=12):JoinOk "\n" R=true/\(Txt.join "\n" R).length<=1000/\((vw (Txt.join "\n" R)).filter fun w=>!w.isEmpty).Perm x.rows:=by
 have row:=ok.row;have ne:R≠[]:=fun z=>by have:=ok.four;rw [z] at this;simp at this
 refine ⟨zbL (n:=40) (fun y hy=>(row y hy).2) (by rw [l_n];omega),?_,?_⟩
 .unfold Txt.join;rw [StrLaws.glued_eq_join];have h1:=StrLaws.join_length_le "\n" R;have h2:=StrLaws.sumLen_le R fun y hy=>(row y hy).2;rw [l_n] at h1;omega
 .rw [zaW ne fun r hr=>(row r hr).1,List.filter_map,← zed ok.ok];exact ok.perm.map qX
theorem zcN {x:Bk} {R:List Str} (ok:RsOk x R) {r:Str} (h:r∈R):(!decide (Txt.strip r = ""))=nb r:=by
 rcases ok.each r h with b|b
 .rw [b.ok.1,decide_eq_true b.ok.2.2.2];rfl
 .have:=Rw.ok ⟨x,ok.ok,b⟩;rw [this.2.1,decide_eq_false this.2.2.2.2];rfl
def rE:sV:=fun ws G Q _=>∃ (a:W) (ns:List Int),ws=[a]/\nJ G a ns/\ns.length<=63/\∀ G',Q (.bl true) G'
theorem Fc.pick {G:Hw} {d l:Addr} {fs:List (Addr×O)} {xs:List Nat} {r:Addr} {m:Int} {Q:Q3} (F:Fc G d l fs) (hr:(r,O.lst (qW xs))∈fs) (hm:m=xs.length) (h0:0<m) (h9:m<100) (q:∀ j∈xs,∀ G',Fc G' d l fs->Q (.int (j:Int)) G') :
  vG [.ref d,.int m] G (fun y G2=>rS (.ref r) y G2 Q) XN:=by
 refine ⟨d,l,m,rfl,F.dl,by omega,fun i G2 i0 i1 k D=>?_⟩;have F2:=F.draw k D;obtain ⟨j,hj,e⟩:=atN (l:=xs) i0 (by omega);refine ixL (xB (F2.at hr)) ?_;rw [e];exact q j hj G2 F2
theorem zfY {n:Nat} (hn:18<=n) (cl:Cl K CQ) {a:W} {ns:List Int} {G:Hw} {Q:Q3} {nx:xD->Hw->Prop} (hs:nJ G a ns) (hl:ns.length<=63) (hq:∀ G',Q (.bl true) G') :
  yQ (xV K C CQ n) XN blaw { nx:=nx,rt:=Q } [some a,none,none,none,none,none,none,none,none,none] G:=by
 have e1:(xV K C CQ n).fn[1]?=some eLen:=jZ (by omega) rfl;have e6:(xV K C CQ n).fn[6]?=some ziS:=jZ (by omega) rfl;have e7:(xV K C CQ n).fn[7]?=some ⟨"show_book", fL C⟩:=jZ (by omega) rfl;have e12:(xV K C CQ n).fn[12]?=some ⟨"read_book", fun ws G Q _=>wR C CQ ws G Q fun _ _=>False⟩:=jZ (by omega) rfl;have e13:(xV K C CQ n).fn[13]?=some zb9:=jZ (by omega) rfl;have e15:(xV K C CQ n).fn[15]?=some ⟨"_law_refused", bY⟩:=jZ (by omega) rfl;have e17:(xV K C CQ n).fn[17]?=some ⟨"_law_all_refused", zcX⟩:=jZ (by omega) rfl;have m1:(xV K C CQ n).mt[1]?=some sM:=rfl;have m2:(xV K C CQ n).mt[2]?=some eApp:=rfl;have m4:(xV K C CQ n).mt[4]?=some dI:=rfl;have m5:(xV K C CQ n).mt[5]?=some zdZ:=rfl;have i1:(xV K C CQ n).it[1]?=some eEn:=rfl;have z2:=sz 2 (by decide);refine wU ?_
 ((try dsimp only [zP,zT,zO,zE,yW,yL,yK,zM,zV,zL,zU,zX,zS,zN,zH,zJ,yO,zI,gZ,gS,tZ,tS]);try simp only [e6])
 refine ⟨a,0,ns,rfl,hs,hl,by decide,fun d l G1 _ _ _ D1=>?_⟩;have F1:Fc G1 d l []:=⟨D1,fun f hf=>nomatch hf⟩;refine wU ?_
 (try dsimp only [zP,zT,zO,zE,yW,yL,yK,zM,zV,zL,zU,zX,zS,zN,zH,zJ,yO,zI,gZ,gS,tZ,tS])
 refine ⟨z2,fun rc hrc=>?_⟩;have F2:=F1.new (o:=rO ["last", "any"]) hrc;show yQ _ _ _ _ _ (put G1 rc (rO ["last", "any"]));generalize put G1 rc (rO ["last", "any"])=G2 at F2 ⊢;refine wU ?_
 (try dsimp only [zP,zT,zO,zE,yW,yL,yK,zM,zV,zL,zU,zX,zS,zN,zH,zJ,yO,zI,gZ,gS,tZ,tS])
 refine ⟨z2,fun tm htm=>?_⟩;have F3:=F2.new (o:=rO ["once", "often"]) htm;show yQ _ _ _ _ _ (put G2 tm (rO ["once", "often"]));generalize put G2 tm (rO ["once", "often"])=G3 at F3 ⊢;refine wU ?_
 ((try dsimp only [zP,zT,zO,zE,yW,yL,yK,zM,zV,zL,zU,zX,zS,zN,zH,zJ,yO,zI,gZ,gS,tZ,tS]);try simp only [e13])
 refine gQ (lits:=["last", "any"]) F3 (by simp) rfl (by decide) (by decide) fun xa ha G4 F4=>?_;have ha:LA xa:=by simpa [LA] using ha
 have la:=ha.len;refine addS (by rw [l_fa];omega) (addS (by rw [strLen_append,l_fa,l_1];omega) ?_);refine gQ (lits:=["once", "often"]) F4 (by simp) rfl (by decide) (by decide) fun xb hb G5 F5=>?_;have hb:OO xb:=by simpa [OO] using hb
 have lb:=hb.len;refine addS (by rw [strLen_append,strLen_append,l_fa,l_1];omega) ?_;refine ⟨sz _ (by show 1<=3000;decide),fun l1 hl1=>?_⟩;have F6:=F5.new (o:=rO ["first answers " ++ xa ++ " " ++ xb]) hl1;show yQ _ _ _ _ _ (put G5 l1 (rO ["first answers " ++ xa ++ " " ++ xb]));generalize put G5 l1 (rO ["first answers " ++ xa ++ " " ++ xb])=G6 at F6 ⊢
 clear F5 F4 F3 F2 F1 hl1 htm hrc
 refine wU ?_
 ((try dsimp only [zP,zT,zO,zE,yW,yL,yK,zM,zV,zL,zU,zX,zS,zN,zH,zJ,yO,zI,gZ,gS,tZ,tS]);try simp only [e13])
 refine gQ (lits:=["once", "often"]) F6 (by simp) rfl (by decide) (by decide) fun xc hc G7 F7=>?_;have hc:OO xc:=by simpa [OO] using hc
 have lc:=hc.len;refine addS (by rw [l_fd];omega) ?_;refine gQ (lits:=["last", "any"]) F7 (by simp) rfl (by decide) (by decide) fun xe he G8 F8=>?_;have he:LA xe:=by simpa [LA] using he
 have le:=he.len;refine addS (by rw [l_fs];omega) ?_;refine ⟨z2,fun l2 hl2=>?_⟩;have F9:=F8.new (o:=rO ["first doubts " ++ xc, "first speaks " ++ xe]) hl2;have g1:=F9.at (p:=l1) (o:=rO ["first answers " ++ xa ++ " " ++ xb]) (by simp);have g2:=F9.at (p:=l2) (o:=rO ["first doubts " ++ xc, "first speaks " ++ xe]) (by simp);show wI .Add (.ref l1) (.ref l2) (put G8 l2 (rO ["first doubts " ++ xc, "first speaks " ++ xe])) _;generalize put G8 l2 (rO ["first doubts " ++ xc, "first speaks " ++ xe])=G9 at F9 g1 g2 ⊢;simp only [wI,g1,g2];refine ⟨sz _ (by show 3<=3000;decide),fun lf hlf=>?_⟩;have F10:=(F9.new (o:=rO ["first answers " ++ xa ++ " " ++ xb, "first doubts " ++ xc, "first speaks " ++ xe]) hlf).sub (gs:=[(lf,rO ["first answers " ++ xa ++ " " ++ xb, "first doubts " ++ xc, "first speaks " ++ xe]),(rc,rO ["last", "any"])]) (by simp);have nlf:∀ f∈[(rc,rO ["last", "any"])],f.1≠lf:=fun f hf=>jA (F9.ob f (by simp only [List.mem_singleton] at hf;subst hf;simp)).1 hlf;show yQ _ _ _ _ _ (put G9 lf (rO ["first answers " ++ xa ++ " " ++ xb, "first doubts " ++ xc, "first speaks " ++ xe]));generalize put G9 lf (rO ["first answers " ++ xa ++ " " ++ xb, "first doubts " ++ xc, "first speaks " ++ xe])=G10 at F10 ⊢
 clear F9 F8 F7 F6 g1 g2 hl2 hlf
 refine wU ?_
 ((try dsimp only [zP,zT,zO,zE,yW,yL,yK,zM,zV,zL,zU,zX,zS,zN,zH,zJ,yO,zI,gZ,gS,tZ,tS]);try simp only [m2,e13])
 refine ⟨tyL (F10.at (p:=lf) zzT),?_⟩;refine gQ (lits:=["last", "any"]) F10 (by simp) rfl (by decide) (by decide) fun xf hf G11 F11=>?_;have hf:LA xf:=by simpa [LA] using hf
 have lf':=hf.len;refine addS (by rw [l_os];omega) (appL (F11.at (p:=lf) zzT) (by show 3<1000;decide) ?_);generalize hx:(⟨xa,xb,xc,xe,xf⟩:Bk)=x;have okx:x.Ok:=by subst hx;exact ⟨ha,hb,hc,he,hf⟩
 have F12:=(F11.chg (o':=rO x.txt) nlf).sub (gs:=[(lf,rO x.txt)]) (by simp);have et:((["first answers " ++ xa ++ " " ++ xb, "first doubts " ++ xc, "first speaks " ++ xe]:List Str).map W.str++[.str ("other speaks " ++ xf)])=x.txt.map W.str:=by subst hx;rfl
 show yQ _ _ _ _ _ (put G11 lf (.lst ((["first answers " ++ xa ++ " " ++ xb, "first doubts " ++ xc, "first speaks " ++ xe]:List Str).map W.str++[.str ("other speaks " ++ xf)])));rw [et];generalize put G11 lf (.lst (x.txt.map .str))=G12 at F12 ⊢
 clear F11 F10 nlf et hx ha hb hc he hf la lb lc le lf'
 refine wU ?_
 (try dsimp only [zP,zT,zO,zE,yW,yL,yK,zM,zV,zL,zU,zX,zS,zN,zH,zJ,yO,zI,gZ,gS,tZ,tS])
 refine ⟨Nat.zero_le _,fun w0 hw0=>?_⟩;have F13:=F12.new (o:=rO []) hw0;have n0:lf≠w0:=jA (F12.at (p:=lf) zzT) hw0;show yQ _ _ _ _ _ (put G12 w0 (rO []));generalize put G12 w0 (rO [])=G13 at F13 ⊢;refine wU ?_
 refine ⟨fun m σ G'=>∃ (rem R:List Str) (w:Addr),σ=[some a,some (.ref d),some (.ref rc),some (.ref tm),some (.ref lf),some (.ref w),none,none,none,none]/\Fc G' d l [(lf,rO rem),(w,rO R)]/\lf≠w/\m=rem.length/\(R.filter nb++rem).Perm x.txt/\(∀ r∈R,blank r\/r∈x.txt)/\R.length+3 * rem.length<=12,
  ⟨4,x.txt,[],w0,rfl,F13.sub (by simp),n0,rfl,.refl _,fun r hr=>absurd hr List.not_mem_nil,by show 0+3 * 4<=12;decide⟩,?_⟩
 rintro m σ G14 ⟨rem,R,w,rfl,F14,nlw,rfl,pm,each,len⟩
 (try dsimp only [zP,zT,zO,zE,yW,yL,yK,zM,zV,zL,zU,zX,zS,zN,zH,zJ,yO,zI,gZ,gS,tZ,tS])
 refine neNil F14 (rem:=rem) (by simp) fun G15 F15=>?_
 by_cases hre:rem=[]
 .subst hre;simp only [decide_true,Bool.not_true,zzB,if_false];rw [List.append_nil] at pm;have ok:RsOk x R:=⟨okx,each,pm⟩;have few:R.length<=12:=by simpa using len
  have F15:=F15.sub (gs:=[(w,rO R)]) (by simp)
  clear F14 F13 F12 pm each len nlw n0 hw0
  obtain ⟨jo,tl,rp⟩:=readR ok few;refine wU ?_
  ((try dsimp only [zP,zT,zO,zE,yW,yL,yK,zM,zV,zL,zU,zX,zS,zN,zH,zJ,yO,zI,gZ,gS,tZ,tS]);try simp only [m1,e12,e7])
  refine ⟨rfl,R,xB (F15.at zzT),jo,.inr (.inr ⟨_,x,rfl,tl,okx,rp,fun bk G16 k16 hbk gbk=>?_⟩)⟩;have F16:=F15.add k16 hbk gbk;refine ⟨bk,x,rfl,F16.at zzT,okx,fun G17 k17=>?_⟩;have F17:=(F16.keep k17).sub (gs:=[(w,rO R)]) (by simp)
  clear F15 F16 hbk gbk k16 k17
  refine wU ?_
  ((try dsimp only [zP,zT,zO,zE,yW,yL,yK,zM,zV,zL,zU,zX,zS,zN,zH,zJ,yO,zI,gZ,gS,tZ,tS]);try simp only [i1])
  refine ⟨R.map .str,seqL (F17.at zzT),?_⟩;have lenE:(enW 0 (R.map W.str)).length=R.length:=by simp [enW]
  refine zfX (fun i=>if nb (R.getD i "")=true then some (.int (i:Nat)) else none) (by rw [lenE];omega) (fun G' k=>seqL (k0 k (F17.at zzT))) (fun i e G' k hw kp hk=>?_) (fun G18 q kp hq'=>?_)
  .have hi:i<R.length:=by
    have:=(List.getElem?_eq_some_iff.mp hw).1
    rwa [lenE] at this
   have ei:R[i]?=some R[i]:=List.getElem?_eq_getElem hi
   have ew:e=.tup [.int (i:Nat),.str R[i]]:=by
    unfold enW at hw;rw [List.getElem?_map,List.getElem?_range (by rw [zzM];exact hi)] at hw;simp only [Option.map_some,List.getD,List.getElem?_map,ei,Option.getD_some,Int.add_zero] at hw;exact (Option.some.inj hw).symm
   subst ew;have mem:R[i]∈R:=List.getElem_mem hi;have lr:=(ok.row _ mem).2;have:=hk G' kp;rw [uF ("" : Str) hi] at this
   show (match (xV K C CQ n).mt[4]? with
    |some h=>tyW G' (.str R[i]) h.T/\h.sp (.str R[i]) [] G' fun x G1=>xI .NotEq x (.str "") G1 fun w G1=>(match w with|.bl b=>if b=true then k (some (.int (i:Nat))) G1 else k none G1|_=>False)
    |none=>False)
   rw [m4];refine ⟨rfl,by omega,?_⟩;simp only [xI,zb2,zcN ok mem]
   by_cases hn:nb R[i]=true
   .rw [if_pos hn] at this ⊢;exact this
   .rw [if_neg hn] at this ⊢;exact this
  have eL:(List.range (enW 0 (R.map W.str)).length).filterMap (fun i=>if nb (R.getD i "")=true then some (W.int (i:Nat)) else none)=qW (yG R):=by
   rw [lenE,dL (fun i:Nat=>W.int (i:Nat)) (fun i=>nb (R.getD i ""))];rfl
  rw [eL];have F18:=(F17.keep kp).new (o:=.lst (qW (yG R))) hq';generalize put G18 q _=G19 at F18 ⊢
  clear F17 kp hq' eL
  have p4:(yG R).length=4:=by rw [zbk,ok.perm.length_eq];rfl
  refine wU ?_
  ((try dsimp only [zP,zT,zO,zE,yW,yL,yK,zM,zV,zL,zU,zX,zS,zN,zH,zJ,yO,zI,gZ,gS,tZ,tS]);try simp only [e13])
  refine F18.pick (xs:=yG R) zzT (by omega) (by decide) (by decide) fun i hi G20 F20=>?_;refine wU ?_
  ((try dsimp only [zP,zT,zO,zE,yW,yL,yK,zM,zV,zL,zU,zX,zS,zN,zH,zJ,yO,zI,gZ,gS,tZ,tS]);try simp only [e17])
  refine ⟨d,l,w,q,R,x,i,rfl,F20.dl,(F20.ob (w,rO R) (by simp)).2,(F20.ob (q,.lst (qW (yG R))) (by simp)).2,F20.at (by simp),F20.at (by simp),ok,few,hi,fun G21 k21 D21=>?_⟩;have F21:=(F20.draw k21 D21).sub (gs:=[(w,rO R)]) (by simp)
  clear F20 F18 k21 D21
  ((try dsimp only [zP,zT,zO,zE,yW,yL,yK,zM,zV,zL,zU,zX,zS,zN,zH,zJ,yO,zI,gZ,gS,tZ,tS]);try simp only [jJ,Bool.not_true,zzB,if_false])
  refine stk K C CQ n (wU ?_)
  ((try dsimp only [zP,zT,zO,zE,yW,yL,yK,zM,zV,zL,zU,zX,zS,zN,zH,zJ,yO,zI,gZ,gS,tZ,tS]);try simp only [e13])
  refine ⟨sz _ (by show 1<=3000;decide),sz _ (by show 5<=3000;decide),fun p hp=>⟨d,l,5,rfl,(F21.new hp).dl,by decide,fun y G22 y0 y1 k22 D22=>?_⟩⟩;have F22:=(F21.new (o:=.lst [.non,.int 7,.bl true,.ref w,.tup [.str "first"]]) hp).draw k22 D22
  obtain ⟨v,ev,nv⟩:∃ v,rQ [.non,.int 7,.bl true,.ref w,.tup [.str "first"]] y=some v/\zd8 G22 v:=by
   have gw:=F22.at (p:=w) (o:=rO R) (by simp);have:y=0\/y=1\/y=2\/y=3\/y=4:=by omega
   rcases this with rfl|rfl|rfl|rfl|rfl
   .exact ⟨.non,rfl, "NoneType", by simp,rfl⟩
   .exact ⟨.int 7,rfl, "int", by simp,rfl⟩
   .exact ⟨.bl true,rfl, "bool", by simp,rfl⟩
   .exact ⟨.ref w,rfl, "list", by simp,by simp only [tyO,gw]⟩
   .exact ⟨.tup [.str "first"],rfl, "tuple", by simp,rfl⟩
  refine ixL (xB (F22.at (p:=p) zzT)) ?_;rw [ev];refine wU ?_
  ((try dsimp only [zP,zT,zO,zE,yW,yL,yK,zM,zV,zL,zU,zX,zS,zN,zH,zJ,yO,zI,gZ,gS,tZ,tS]);try simp only [e15])
  refine ⟨v,0,rfl,.inl ⟨nv,rfl⟩,fun G23 k23=>?_⟩
  ((try dsimp only [zP,zT,zO,zE,yW,yL,yK,zM,zV,zL,zU,zX,zS,zN,zH,zJ,yO,zI,gZ,gS,tZ,tS]);try simp only [jJ,Bool.not_true,zzB,if_false])
  refine ⟨.str "", 2,rfl,.inr ⟨"", rfl,by decide +kernel,by decide +kernel⟩,fun G24 k24=>?_⟩
  ((try dsimp only [zP,zT,zO,zE,yW,yL,yK,zM,zV,zL,zU,zX,zS,zN,zH,zJ,yO,zI,gZ,gS,tZ,tS]);try simp only [jJ,Bool.not_true,zzB,if_false])
  refine ⟨.str "\n\n ", 4,rfl,.inr ⟨"\n\n ", rfl,by decide +kernel,by decide +kernel⟩,fun G25 k25=>?_⟩
  ((try dsimp only [zP,zT,zO,zE,yW,yL,yK,zM,zV,zL,zU,zX,zS,zN,zH,zJ,yO,zI,gZ,gS,tZ,tS]);try simp only [jJ,Bool.not_true,zzB,if_false])
  have F25:=((F22.keep k23).keep k24).keep k25;refine stk K C CQ n (wU ?_)
  ((try dsimp only [zP,zT,zO,zE,yW,yL,yK,zM,zV,zL,zU,zX,zS,zN,zH,zJ,yO,zI,gZ,gS,tZ,tS]);try simp only [m1,e12,e7])
  refine ⟨rfl,R,xB (F25.at (by simp)),jo,.inr (.inr ⟨_,x,rfl,tl,okx,rp,fun bk G26 k26 hbk gbk=>?_⟩)⟩;refine ⟨bk,x,rfl,gbk,okx,fun G27 k27=>?_⟩;simp only [xI,zb2,decide_true];exact hq _
 .simp only [decide_eq_false hre,Bool.not_false,if_true];have hrl:0<rem.length:=List.length_pos_iff.mpr hre;refine wU ?_
  ((try dsimp only [zP,zT,zO,zE,yW,yL,yK,zM,zV,zL,zU,zX,zS,zN,zH,zJ,yO,zI,gZ,gS,tZ,tS]);try simp only [m2,m5,e13,e1,tE,tF,F15.at (p:=lf) (o:=rO rem) (by simp),zzM])
  refine ⟨tyL (F15.at (p:=w) (o:=rO R) (by simp)),tyL (F15.at (p:=lf) zzT),⟨d,l,_,rfl,F15.dl,by omega,fun i G16 i0 i1 k16 D16=>?_⟩⟩;have F16:=F15.draw k16 D16;obtain ⟨y,hy⟩:∃ y,rem[i.toNat]?=some y:=⟨_,List.getElem?_eq_getElem (by omega)⟩;refine ⟨lf,rem.map .str,i.toNat,.str y,rfl,by rw [Int.toNat_of_nonneg i0],F16.at zzT,by rw [zzM];omega,by rw [List.getElem?_map,hy];rfl,?_⟩;have F17:Fc (put G16 lf (rO (rem.eraseIdx i.toNat))) d l [(lf,rO (rem.eraseIdx i.toNat)),(w,rO R)]:=F16.chg (by simpa using nlw.symm);rw [show (rem.map W.str).eraseIdx i.toNat=(rem.eraseIdx i.toNat).map .str from zey _ _];generalize put G16 lf _=G17 at F17 ⊢;have yin:y∈x.txt:=pm.mem_iff.mp (List.mem_append_right _ (List.mem_of_getElem? hy));have ep:=zb0 _ _ _ hy;have le2:(rem.eraseIdx i.toNat).length+1=rem.length:=by rw [← ep.length_eq];rfl
  generalize rem.eraseIdx i.toNat=rem2 at F17 ep le2;refine appL (F17.at (p:=w) (o:=rO R) (by simp)) (by rw [zzM];omega) ?_;have F18:=(F17.sub (gs:=[(w,rO R),(lf,rO rem2)]) (by simp)).chg (o':=rO (R++[y])) (by simpa using nlw);rw [show R.map W.str++[.str y]=(R++[y]).map W.str by simp];generalize put G17 w _=G18 at F18 ⊢
  clear F17 F16 F15 F14
  refine wU ?_
  ((try dsimp only [zP,zT,zO,zE,yW,yL,yK,zM,zV,zL,zU,zX,zS,zN,zH,zJ,yO,zI,gZ,gS,tZ,tS]);try simp only [e13])
  refine pickL (lits:=["", "   "]) F18 rfl (by decide) (by decide) fun b hb G19 F19=>?_;have hb:blank b:=by simpa [blank] using hb
  refine ⟨sz _ (by show 1<=3000;decide),fun p1 hp1=>⟨d,l,3,rfl,(F19.new hp1).dl,by decide,fun k G20 k0' k1 k20 D20=>?_⟩⟩;have F20:=(F19.new (o:=.lst [.str b]) hp1).draw k20 D20;have gp:=F20.at (p:=p1) (o:=.lst [.str b]) zzT;simp only [wI,gp];refine ⟨⟨by omega,by omega,sz _ (by simp;omega)⟩,fun p2 hp2=>?_⟩;rw [ziL];have F21:=F20.new (o:=rO (List.replicate k.toNat b)) hp2;have gw:=F21.at (p:=w) (o:=rO (R++[y])) (by simp);have g2:=F21.at (p:=p2) (o:=rO (List.replicate k.toNat b)) (by simp);generalize put G20 p2 _=G21 at F21 gw g2 ⊢;simp only [gw,g2];refine ⟨sz _ (by simp;omega),fun w2 hw2=>?_⟩;have nw2:lf≠w2:=jA (F21.at (p:=lf) (o:=rO rem2) (by simp)) hw2;rw [← List.map_append];have F22:=F21.new (o:=rO (R++[y]++List.replicate k.toNat b)) hw2;refine stk K C CQ n ⟨_,(by omega:rem2.length<rem.length),rem2,R++[y]++List.replicate k.toNat b,w2,rfl,F22.sub (by simp),nw2,rfl,?_,fun r hr=>?_,?_⟩
  .refine List.Perm.trans ?_ pm;rw [List.filter_append,List.filter_append,ziN hb,List.append_nil,List.filter_cons,if_pos (nbT okx yin),List.filter_nil,List.append_assoc];exact List.Perm.append_left _ ep
  .rcases List.mem_append.mp hr with hr|hr
   .rcases List.mem_append.mp hr with hr|hr
    .exact each r hr
    .rw [zzO hr];exact .inr yin
   .rw [(List.mem_replicate.mp hr).2];exact .inl hb
  .simp only [zzW,List.length_singleton,List.length_replicate];omega
end
structure X1 (K:yZ) (C:Addr) (f qual:Str) (st:Stmt):Prop where
 ex:∃ fI,XM K C (.ref fI)/\HD K "__init__" qual st .none fI/\PySem.W.typeIn K (.ref fI)=some (.type "function")
 xi:XI K C f
structure Txt (K:yZ) (mg:Str->Option Value) (C fI dT hA:Addr) (CQ:Nat->Addr) (T0:Addr):Prop where
 cl:Cls K C
 nf:∀ f∈jQ,kU K C f
 mgC:mg "Book" = some (.ref C)
 mkC:Mk K C fI
 hI:HD K "__init__" "Book.__init__" xK (.ref dT) fI
 dT:∃ o t n,K.lookup dT=some o/\o.data=.seq #[.str "last" t] n
 deal:∃ f,mg "_law_deal" = some (.ref f)/\HD K "_law_deal" "_law_deal" wO .none f
 show_:∃ f,mg "show_book" = some (.ref f)/\HD K "show_book" "show_book" wT .none f
 made:∃ f,mg "made_book" = some (.ref f)/\HD K "made_book" "made_book" wQ .none f
 words:∃ f,mg "words_between_blanks" = some (.ref f)/\HD K "words_between_blanks" "words_between_blanks" zA .none f
 fits:∃ f,mg "fits" = some (.ref f)/\HD K "fits" "fits" rC .none f
 read:∃ f,mg "read_book" = some (.ref f)/\HD K "read_book" "read_book" wS .none f
 draw:∃ f,mg "_law_draw" = some (.ref f)/\HD K "_law_draw" "_law_draw" wP .none f
 turn:∃ f,mg "_law_turned" = some (.ref f)/\HD K "_law_turned" "_law_turned" xM .none f
 ref:∃ f,mg "_law_refused" = some (.ref f)/\HD K "_law_refused" "_law_refused" xQ .none f
 bad:∃ f,mg "_law_bad_row" = some (.ref f)/\HD K "_law_bad_row" "_law_bad_row" xP .none f
 allr:∃ f,mg "_law_all_refused" = some (.ref f)/\HD K "_law_all_refused" "_law_all_refused" yM .none f
 max:mg "max" = none
 len:mg "len" = none
 all:mg "all" = none
 list:mg "list" = none
 isi:mg "isinstance" = none
 rev:mg "reversed" = none
 zip:mg "zip" = none
 str:mg "str" = none
 enu:mg "enumerate" = none
 bool:mg "bool" = none
 val:mg "ValueError" = none
 mgH:mg "CHOICES" = some (.ref hA)
 chs:∀ H,xN K H (.dcf fX chV) (.ref hA)
 qc:Cl K CQ
 mgT:mg "TalkError" = some (.ref T0)
 tr:∃ ini,XM K T0 ini
 sub:fO K (CQ 1) T0
 x1:X1 K (CQ 1) "row" "NoBook.__init__" wL
 m0:mg "NoText" = some (.ref (CQ 0))
 m1:mg "NoBook" = some (.ref (CQ 1))
 m2:mg "NotLet" = some (.ref (CQ 2))
 m3:mg "NoMove" = some (.ref (CQ 3))
 m4:mg "NoPlan" = some (.ref (CQ 4))
 m5:mg "NoTalker" = some (.ref (CQ 5))
 m6:mg "NoPaper" = some (.ref (CQ 6))
 m7:mg "NoWeb" = some (.ref (CQ 7))
 m8:mg "NoRow" = some (.ref (CQ 8))
 m9:mg "NoName" = some (.ref (CQ 9))
def rk (n:Nat):Nat:=2 * n+4
section
variable {q : Pr} {C fI dT hA : Addr} {CQ : Nat → Addr} {T0 : Addr}
def Pn (q:Pr) (C:Addr) (CQ:Nat->Addr) (n:Nat):Prop:=∀ A,Room (rk n) A->∀ f∈(fnL q.K C CQ).take n,qM (q.at A) f
theorem goodL (T:Txt q.K q.mg C fI dT hA CQ T0) {l:List Fn3} {A:Around} (hu:A.units+200<cLine) (h:∀ f∈l,qM (q.at A) f):L3.Good (GamL q.K C CQ l) (q.at A) :=
 zge (Γ:=GamL q.K C CQ l) hu h
  (zZ (wJ T.mgH (v:=.ref hA) rfl T.chs) (zZ (dM T.bool (by decide +kernel)) (zZ (dM T.str (by decide +kernel)) (zZ (dM T.val (by decide +kernel)) (zZ (wJ T.m0 (v:=.ref _) rfl fun _=>rfl) (zZ (wJ T.m1 (v:=.ref _) rfl fun _=>rfl) (zZ (wJ T.m2 (v:=.ref _) rfl fun _=>rfl) (zZ (wJ T.m3 (v:=.ref _) rfl fun _=>rfl) (zZ (wJ T.m4 (v:=.ref _) rfl fun _=>rfl) (zZ (wJ T.m5 (v:=.ref _) rfl fun _=>rfl) (zZ (wJ T.m6 (v:=.ref _) rfl fun _=>rfl) (zZ (wJ T.m7 (v:=.ref _) rfl fun _=>rfl) (zZ (wJ T.m8 (v:=.ref _) rfl fun _=>rfl) (zZ (wJ T.m9 (v:=.ref _) rfl fun _=>rfl) yR))))))))))))))
  (zZ zgp (zZ zdV (zZ zgv (zZ zb5 (zZ zb4 (zZ zdT yR))))))
  (zZ (zgn T.zip) (zZ (ziQ T.enu) yR))
  (zZ ⟨T.cl,T.nf⟩ yR)
  (zZ (zgo T.list T.rev) (zZ ⟨sx_xf,zcE _ _⟩ (zZ ⟨sx_em,zdY⟩ (zZ ⟨fM,vS⟩ (zZ ⟨fM,vS⟩ (zZ ⟨fM,vS⟩ (zZ ⟨fM,vS⟩ yR))))))) (zZ ⟨ziu T.enu,zb7⟩ yR)
theorem zcG {k:Nat} {A:Around} (hr:Room k A):A.units+200<cLine:=by have:=hr.un;omega
theorem good (T:Txt q.K q.mg C fI dT hA CQ T0) {n:Nat} (h:Pn q C CQ n):∀ A,Room (rk n) A->L3.Good (xV q.K C CQ n) (q.at A):=fun A hr=>goodL T (zcG hr) (h A hr)
theorem next {n:Nat} {e:Fn3} (h:Pn q C CQ n) (hk:rk n<=rk (n+1)) (he:(fnL q.K C CQ).take (n+1)=(fnL q.K C CQ).take n++[e]) (hx:∀ A,Room (rk (n+1)) A->qM (q.at A) e):Pn q C CQ (n+1):=fun A hr=>by
 rw [he];exact zad (h A (hr.mono hk)) (hx A hr)
theorem p6 (T:Txt q.K q.mg C fI dT hA CQ T0):Pn q C CQ 6:=fun A hr=>zZ (zgq T.max) (zZ (zgs T.len) (zZ (zgw T.all) (zZ (zgr T.list) (zZ (zgt T.isi) (zZ (zdU T.len) yR)))))
theorem jI {n:Nat} {nm qual:Str} {st:Stmt} {f:Addr} {M:MC} {ps:List Str} {sp:sV} {body:ISs} (T:Txt q.K q.mg C fI dT hA CQ T0) (h:Pn q C CQ n) (hk:rk n+1<=rk (n+1)) (hm:q.mg nm=some (.ref f)) (hd:HD q.K nm qual st .none f) (S:FnScope M.N ps (zY st)) (eM:MOk (xV q.K C CQ n) M (zY st)) (look:sQ body M (zG st)=true)
  (len:∀ ws G Q,sp ws G Q XN->ws.length=ps.length) (hb:∀ ws G Q,sp ws G Q XN->yQ (xV q.K C CQ n) XN body { nx:=fun _ G'=>Q .non G',rt:=Q } (yN M.N ws) G) (mono:zcy ⟨nm,sp⟩)
  (hbind:∀ (kV doc pm:Value) (an:Option Addr) (cdv ct:Value) (us:List Value),us.length=ps.length->bindArgs (fnOf nm qual (yJ st) (zG st) (zY st) .none kV doc pm an cdv ct) ⟨us,[]⟩=pure (ps.zip us))
  (he:(fnL q.K C CQ).take (n+1)=(fnL q.K C CQ).take n++[⟨nm,sp⟩]):Pn q C CQ (n+1):=by
 obtain ⟨fd,F,_⟩:=hd.fd;have FO:=dH F S (good T h) eM look len hb;exact next h (by omega) he fun A hr=>zb6 FO hm F.kp (uC F hbind) mono hr hk
theorem usS {P:List Value->Prop} {n:Nat} (h:∀ a l,l.length=n->P (a::l)) (us:List Value) (e:us.length=n+1):P us:=by
 cases us with
 |nil=>exact absurd e (Nat.succ_ne_zero n).symm
 |cons a l=>exact h a l (Nat.succ.inj e)
theorem us0 {P:List Value->Prop} (h:P []) (us:List Value) (e:us.length=0):P us:=by
 cases us with
 |nil=>exact h
 |cons a l=>exact absurd e (Nat.succ_ne_zero _)
theorem us1 {P:List Value->Prop} (h:∀ a0,P [a0]):∀ us:List Value,us.length=1->P us:=usS (P:=fun l=>P (l)) (fun a0=>us0 (P:=fun l=>P (a0::l)) (h a0))
theorem us2 {P:List Value->Prop} (h:∀ a0 a1,P [a0,a1]):∀ us:List Value,us.length=2->P us:=usS (P:=fun l=>P (l)) (fun a0=>usS (P:=fun l=>P (a0::l)) (fun a1=>us0 (P:=fun l=>P (a0::a1::l)) (h a0 a1)))
theorem us4 {P:List Value->Prop} (h:∀ a0 a1 a2 a3,P [a0,a1,a2,a3]):∀ us:List Value,us.length=4->P us:=usS (P:=fun l=>P (l)) (fun a0=>usS (P:=fun l=>P (a0::l)) (fun a1=>usS (P:=fun l=>P (a0::a1::l)) (fun a2=>usS (P:=fun l=>P (a0::a1::a2::l)) (fun a3=>us0 (P:=fun l=>P (a0::a1::a2::a3::l)) (h a0 a1 a2 a3)))))
theorem us6 {P:List Value->Prop} (h:∀ a0 a1 a2 a3 a4 a5,P [a0,a1,a2,a3,a4,a5]):∀ us:List Value,us.length=6->P us:=usS (P:=fun l=>P (l)) (fun a0=>usS (P:=fun l=>P (a0::l)) (fun a1=>usS (P:=fun l=>P (a0::a1::l)) (fun a2=>usS (P:=fun l=>P (a0::a1::a2::l)) (fun a3=>usS (P:=fun l=>P (a0::a1::a2::a3::l)) (fun a4=>usS (P:=fun l=>P (a0::a1::a2::a3::a4::l)) (fun a5=>us0 (P:=fun l=>P (a0::a1::a2::a3::a4::a5::l)) (h a0 a1 a2 a3 a4 a5)))))))
theorem p7 (T:Txt q.K q.mg C fI dT hA CQ T0):Pn q C CQ 7:=by
 obtain ⟨f,hm,hd⟩:=T.deal
 exact jI (sp:=za6) (M:=pK) T (p6 T) (by decide) hm hd bN ⟨rfl,rfl,rfl,rfl,rfl,rfl,rfl,rfl⟩ mR
  (fun ws G Q h=>by obtain ⟨a,b,ns,rfl,_⟩:=h;rfl) (fun ws G Q ⟨a,b,ns,e,h1,h2,h3,h4⟩=>by subst e;exact zd2 rfl rfl h1 h2 h3 h4) (bW) (fun _ _ _ _ _ _=>us2 (fun _ _=>rfl)) rfl
theorem p8 (T:Txt q.K q.mg C fI dT hA CQ T0):Pn q C CQ 8:=by
 obtain ⟨f,hm,hd⟩:=T.show_
 exact jI (sp:=fL C) (M:=pQ) T (p7 T) (by decide) hm hd bR ⟨rfl,rfl,rfl,rfl,rfl,rfl,rfl,rfl⟩ mY
  (fun ws G Q h=>by obtain ⟨p,x,rfl,_⟩:=h;rfl) (fun ws G Q h=>zcZ h) (fun ws G Q Q' E k hh=>by
   obtain ⟨p,x,h1,h2,h3,h⟩:=hh;exact ⟨p,x,h1,h2,h3,fun G' a=>k _ _ (h G' a)⟩) (fun _ _ _ _ _ _=>us1 (fun _=>rfl)) rfl
theorem zbQ:∀ ws G (Q Q':Q3),(∀ w G',Q w G'->Q' w G')->tP C ws G Q XN->tP C ws G Q' XN:=fun ws G Q Q' k hh=>by
 obtain ⟨p,x,e,h1,h⟩:=hh;exact ⟨p,x,e,h1,k _ _ h⟩
theorem initF (T:Txt q.K q.mg C fI dT hA CQ T0) {fd:FuncData} (F:FunD q.K "__init__" "Book.__init__" xK (.ref dT) fI fd):FnOk q.prog q.w q.K q.mg q.base CX0 (rk 8+1) fI fd ["self", "answers", "again", "doubts", "speaks", "other"] (jB q.K (tP C)) :=
 dH (sp:=tP C) (M:=pJ) F bM (good T (p8 T)) ⟨rfl,rfl,rfl,rfl,rfl,rfl,rfl,rfl⟩ mQ (fun ws G Q h=>by obtain ⟨p,x,e,_⟩:=h;rw [e];rfl) (fun ws G Q h=>zdI h)
theorem p9 (T:Txt q.K q.mg C fI dT hA CQ T0):Pn q C CQ 9:=by
 obtain ⟨fd,F,_⟩:=T.hI.fd;obtain ⟨o,t,m,l,hdt⟩:=T.dT;exact next (p8 T) (by decide) rfl fun A hr=>zgu T.mkC (initF T F) T.mgC (zcq F l hdt fun _ _ _ _ _ _=>us6 fun _ _ _ _ _ _=>⟨_,rfl,rfl⟩) zbQ hr (by decide)
theorem p10 (T:Txt q.K q.mg C fI dT hA CQ T0):Pn q C CQ 10:=by
 obtain ⟨f,hm,hd⟩:=T.made
 exact jI (sp:=fK C) (M:=pN) T (p9 T) (by decide) hm hd bP ⟨rfl,rfl,rfl,rfl,rfl,rfl,rfl,rfl⟩ mV
  (fun ws G Q h=>by obtain ⟨p,kvs,r1,r2,r3,r4,x,rfl,_⟩:=h;rfl) (fun ws G Q h=>zdr (by decide) h) (fun ws G Q Q' E k hh=>by
   obtain ⟨p,kvs,r1,r2,r3,r4,x,h1,h2,h3,h4,h⟩:=hh;exact ⟨p,kvs,r1,r2,r3,r4,x,h1,h2,h3,h4,fun q hq=>k _ _ (h q hq)⟩) (fun _ _ _ _ _ _=>us1 (fun _=>rfl)) rfl
theorem p11 (T:Txt q.K q.mg C fI dT hA CQ T0):Pn q C CQ 11:=by
 obtain ⟨f,hm,hd⟩:=T.words
 exact jI (sp:=rX) (M:=wE) T (p10 T) (by decide) hm hd qJ ⟨rfl,rfl,rfl,rfl,rfl,rfl,rfl,rfl⟩ qT
  (fun ws G Q h=>by obtain ⟨x,rfl,_⟩:=h;rfl) (fun ws G Q h=>zaU h) (fun ws G Q Q' E k hh=>by
   obtain ⟨x,h1,h2,h⟩:=hh;exact ⟨x,h1,h2,h.mono k⟩) (fun _ _ _ _ _ _=>us1 (fun _=>rfl)) rfl
theorem p12 (T:Txt q.K q.mg C fI dT hA CQ T0):Pn q C CQ 12:=by
 obtain ⟨f,hm,hd⟩:=T.fits
 exact jI (sp:=fJ) (M:=zib) T (p11 T) (by decide) hm hd zhm ⟨rfl,rfl,rfl,rfl,rfl,rfl,rfl,rfl⟩ zdt
  (fun ws G Q h=>by obtain ⟨r,s,ss,rfl,_⟩:=h;rfl) (fun ws G Q h=>zdO (by decide) h) (fun ws G Q Q' E k hh=>by
   obtain ⟨r,s,ss,h1,h2,h3,h⟩:=hh;exact ⟨r,s,ss,h1,h2,h3,fun  G' y0=>k _ _ (h  G' y0)⟩) (fun _ _ _ _ _ _=>us2 (fun _ _=>rfl)) rfl
theorem tN:nI ⟨"read_book", wR C CQ⟩:=fun ws G Q Q' E E' k k' hh=>by
 rcases hh with ⟨w,h1,h2,h⟩|⟨t,j,h1,h2,h3,h⟩|⟨t,x,h1,h2,h3,h4,h⟩
 .exact .inl ⟨w,h1,h2,fun G' kp=>k' _ _ (h G' kp)⟩
 .exact .inr (.inl ⟨t,j,h1,h2,h3,fun G' kp=>k' _ _ (h G' kp)⟩)
 .exact .inr (.inr ⟨t,x,h1,h2,h3,h4,fun q G' a b c=>k _ _ (h q G' a b c)⟩)
theorem zc5 {ws:List W} {G:Hw} {Q:Q3} {E:X3} (h:wR C CQ ws G Q E):ws.length=1:=by
 rcases h with ⟨w,rfl,_⟩|⟨t,j,rfl,_⟩|⟨t,x,rfl,_⟩<;>rfl
theorem zeH (T:Txt q.K q.mg C fI dT hA CQ T0) {l:List Fx3} {A:Around} (hr:Room 4 A) (hl:∀ f∈l,FxE (q.at A) f/\nI f):GoodX (sU CQ l T0) (q.at A):=by
 obtain ⟨fI,xm,hd,hf⟩:=T.x1.ex;obtain ⟨fd,F,_⟩:=hd.fd;have FO:=zcB (q:=q) (k:=0) ⟨F.ex,F.kp⟩ nB rfl (by decide +kernel) (by decide +kernel) (by decide +kernel) (by decide +kernel);exact ⟨hl,zZ (cl_1 xm T.x1.xi FO (hr.mono (by decide)) (uC F fun _ _ _ _ _ _=>us2 fun _ _=>rfl) hf T.m1) yR,zZ ⟨T.mgT,T.tr,zZ T.sub yR⟩ yR⟩
theorem readF (T:Txt q.K q.mg C fI dT hA CQ T0):∃ f fd,q.mg "read_book" = some (.ref f)/\keepIn q.K (.ref f)=true/\wH q.K fd ["text"] []/\FnOk q.prog q.w q.K q.mg q.base (CXr q.prog q.w) (rk 12+1) f fd ["text"] (dS q.K (wR C CQ)):=by
 obtain ⟨f,hm,hd⟩:=T.read;obtain ⟨fd,F,_⟩:=hd.fd;exact ⟨f,fd,hm,F.kp,uC F fun _ _ _ _ _ _=>us1 fun _=>rfl,zgB (k:=rk 12) (Γ:=xV q.K C CQ 12) (Δ:=sU CQ [] T0) (M:=pP) (Z:=rN) (sp:=wR C CQ) F bQ (good T (p12 T)) (fun A hr=>zeH T (hr.mono (by decide)) yR) ⟨rfl,rfl,rfl,rfl,rfl,rfl,rfl,rfl⟩ ⟨rfl,rfl,rfl⟩ mW (fun ws G Q E h=>zc5 h) (fun ws G Q E h=>zc4 (by decide) T.qc h)⟩
theorem zhu (T:Txt q.K q.mg C fI dT hA CQ T0):∀ A,Room (rk 13) A->FxE (q.at A) ⟨"read_book", wR C CQ⟩:=fun A hr=>by
 obtain ⟨f,fd,hm,kp,hb,FO⟩:=readF T;exact ziI FO hm kp hb tN (hr.mono (by decide))
theorem p13 (T:Txt q.K q.mg C fI dT hA CQ T0):Pn q C CQ 13:=by
 exact next (p12 T) (by decide) rfl fun A hr=>ziP (zhu T A hr) tN
theorem p14 (T:Txt q.K q.mg C fI dT hA CQ T0):Pn q C CQ 14:=by
 obtain ⟨f,hm,hd⟩:=T.draw
 exact jI (sp:=vG) (M:=pL) T (p13 T) (by decide) hm hd bO ⟨rfl,rfl,rfl,rfl,rfl,rfl,rfl,rfl⟩ mU
  (fun ws G Q h=>by obtain ⟨a,b,m,rfl,_⟩:=h;rfl) (fun ws G Q ⟨a,b,m,e,h1,h2,h3⟩=>by subst e;exact zd0 rfl rfl h1 h2 h3) (bX) (fun _ _ _ _ _ _=>us2 (fun _ _=>rfl)) rfl
theorem p15 (T:Txt q.K q.mg C fI dT hA CQ T0):Pn q C CQ 15:=by
 obtain ⟨f,hm,hd⟩:=T.turn
 exact jI (sp:=uQ) (M:=uK) T (p14 T) (by decide) hm hd nC ⟨rfl,rfl,rfl,rfl,rfl,rfl,rfl,rfl⟩ sF
  (fun ws G Q h=>by obtain ⟨d,l,r,rfl,_⟩:=h;rfl) (fun ws G Q h=>zas (by decide) h) (fun ws G Q Q' E k hh=>by
   obtain ⟨d,l,r,h1,h2,h3,h⟩:=hh;exact ⟨d,l,r,h1,h2,h3,fun u G' a b c e=>k _ _ (h u G' a b c e)⟩) (fun _ _ _ _ _ _=>us2 (fun _ _=>rfl)) rfl
theorem p16 (T:Txt q.K q.mg C fI dT hA CQ T0):Pn q C CQ 16:=by
 obtain ⟨f,hm,hd⟩:=T.ref;obtain ⟨fd,F,_⟩:=hd.fd;have FO:=zgC (k:=rk 15) (Γ:=xV q.K C CQ 15) (Δ:=sU CQ [⟨"read_book", wR C CQ⟩] T0) (M:=vM) (Z:=vP) (sp:=bY) F pY (good T (p15 T)) (fun A hr=>zeH T (hr.mono (by decide)) (zZ ⟨zhu T A (hr.mono (by decide)),tN⟩ yR)) ⟨rfl,rfl,rfl,rfl,rfl,rfl,rfl,rfl⟩ ⟨rfl,rfl,rfl⟩ tH (fun ws G Q h=>by obtain ⟨w,j,rfl,_⟩:=h;rfl) (fun ws G Q h=>zfq (by decide) T.qc h)
 exact next (p15 T) (by decide) rfl fun A hr=>zb6 FO hm F.kp (uC F fun _ _ _ _ _ _=>us2 fun _ _=>rfl) (fun ws G Q Q' E k hh=>by
   obtain ⟨w,j,h1,h2,h⟩:=hh;exact ⟨w,j,h1,h2,fun G' a=>k _ _ (h G' a)⟩) hr (by decide)
theorem p17 (T:Txt q.K q.mg C fI dT hA CQ T0):Pn q C CQ 17:=by
 obtain ⟨f,hm,hd⟩:=T.bad
 exact jI (sp:=zcW) (M:=vL) T (p16 T) (by decide) hm hd pX ⟨rfl,rfl,rfl,rfl,rfl,rfl,rfl,rfl⟩ tG
  (fun ws G Q h=>by obtain ⟨d,l,rfl,_⟩:=h;rfl) (fun ws G Q h=>zgO (by decide) h) (fun ws G Q Q' E k hh=>by
   obtain ⟨d,l,h1,h2,h⟩:=hh;exact ⟨d,l,h1,h2,fun u hu G' a b=>k _ _ (h u hu G' a b)⟩) (fun _ _ _ _ _ _=>us1 (fun _=>rfl)) rfl
theorem p18 (T:Txt q.K q.mg C fI dT hA CQ T0):Pn q C CQ 18:=by
 obtain ⟨f,hm,hd⟩:=T.allr
 exact jI (sp:=zcX) (M:=jC) T (p17 T) (by decide) hm hd vE ⟨rfl,rfl,rfl,rfl,rfl,rfl,rfl,rfl⟩ kE
  (fun ws G Q h=>by obtain ⟨d,l,rr,pp,R,x,i,rfl,_⟩:=h;rfl) (fun ws G Q h=>zgP (by decide) h) (fun ws G Q Q' E k hh=>by
   obtain ⟨d,l,rr,pp,R,x,i,h1,h2,h3,h4,h5,h6,h7,h8,h9,h⟩:=hh;exact ⟨d,l,rr,pp,R,x,i,h1,h2,h3,h4,h5,h6,h7,h8,h9,fun  G' y0 y1=>k _ _ (h  G' y0 y1)⟩) (fun _ _ _ _ _ _=>us4 (fun _ _ _ _=>rfl)) rfl
theorem zfZ:(zY bU).names.lookup ("_law_script" : Str)=some .local:=by decide +kernel
theorem zih {P:Program} {w:World} {K:yZ} {mg:Str->Option Value} (T:Txt K mg C fI dT hA CQ T0) {f:Addr} (hd:HD K "law" "law" bU .none f):∃ fd:FuncData,(∀ (s:Shared) (u:Value),BindsTo s fd ⟨[u],[]⟩ [("_law_script", u)])/\fd.scope.names.lookup ("_law_script" : Str)=some .local/\∀ base:Heap,FnOk P w K mg base CX0 41 f fd ["_law_script"] (jB K rE):=by
 obtain ⟨fd,F,kV,doc,pm,an,cdv,ct,e⟩:=hd.fd;refine ⟨fd,fun s u=>by subst e;exact .of_eq rfl,by subst e;exact zfZ,fun base=>dH (q:=⟨P,w,K,mg,base⟩) (k:=40) (sp:=rE) (M:=mlaw) F sclaw (good (q:=⟨P,w,K,mg,base⟩) T (p18 T)) ⟨rfl,rfl,rfl,rfl,rfl,rfl,rfl,rfl⟩ zfT (fun ws G Q h=>by obtain ⟨a,ns,rfl,_⟩:=h;rfl) fun ws G Q h=>?_⟩;obtain ⟨a,ns,rfl,hs,hl,h⟩:=h;exact zfY (by decide) T.qc hs hl h
end
structure Kc (K:yZ) (T C:Addr) (ini:Value):Prop where
 cls:∃ (nm qn:Str) (N:Addr) (bs:List Value) (sn:List Str) (sub:List Value) (ab:Bool) (col:Option Bool) (dd:Option Addr) (k0 k1 k2 k3 k5:Option Value),
  K.lookup C=some (excClassObj nm qn C N bs [.ref T,.type "ValueError", .type "Exception", .type "BaseException", .type "object"] true sn sub ab col dd k0 k1 k2 k3 k5 "ValueError.__new__")
 ga:findIn K (.ref C) "__getattribute__" = some (some (.builtin "BaseException.__getattribute__"))
 gt:findIn K (.ref C) "__getattr__" = some none
 ca:findIn K (.ref C) "__class__" = some (some (.builtin "object.__class__"))
 ini:findIn K (.ref C) "__init__" = some (some ini)
 kp:keepIn K (.ref C)=true
theorem Kc.mk' {K:yZ} {T C N:Addr} {ini:Value} {nm qn:Str} {bs:List Value} {sn:List Str} {sub:List Value} {ab:Bool} {col:Option Bool} {dd:Option Addr} {k0 k1 k2 k3 k5:Option Value}
  (l:K.lookup C=some (excClassObj nm qn C N bs [.ref T,.type "ValueError", .type "Exception", .type "BaseException", .type "object"] true sn sub ab col dd k0 k1 k2 k3 k5 "ValueError.__new__"))
  (ga:findIn K (.ref C) "__getattribute__" = some (some (.builtin "BaseException.__getattribute__"))) (gt:findIn K (.ref C) "__getattr__" = some none) (ca:findIn K (.ref C) "__class__" = some (some (.builtin "object.__class__")))
  (ini':findIn K (.ref C) "__init__" = some (some ini)) (kp:keepIn K (.ref C)=true):Kc K T C ini:=⟨⟨nm,qn,N,bs,sn,sub,ab,col,dd,k0,k1,k2,k3,k5,l⟩,ga,gt,ca,ini',kp⟩
section
variable {K : yZ} {T C : Addr} {ini : Value}
theorem Kc.cd (k:Kc K T C ini):∃ cd,PySem.W.clsIn K C=some cd/\cd.hasDict=true/\cd.mro=[.ref C,.ref T,.type "ValueError", .type "Exception", .type "BaseException", .type "object"]:=by
 obtain ⟨nm,qn,N,bs,sn,sub,ab,col,dd,k0,k1,k2,k3,k5,l⟩:=k.cls;exact ⟨_,by unfold PySem.W.clsIn;rw [l],rfl,rfl⟩
theorem Kc.ty (k:Kc K T C ini):PySem.W.typeIn K (.ref C)=some (.type "type"):=by
 obtain ⟨nm,qn,N,bs,sn,sub,ab,col,dd,k0,k1,k2,k3,k5,l⟩:=k.cls;show (K.lookup C).map (·.cls)=_;rw [l];rfl
theorem Kc.mro (k:Kc K T C ini) (v:Value):PySem.W.mroIn K C v=some (([.ref C,.ref T,.type "ValueError", .type "Exception", .type "BaseException", .type "object"]:List Value).contains v):=by
 obtain ⟨cd,e,_,m⟩:=k.cd;unfold PySem.W.mroIn;rw [e];show (if cd.mro.isEmpty=true then none else some (cd.mro.contains v))=_;rw [m];rfl
theorem cB {x:String} (C T:Addr) (h:(["ValueError", "Exception", "BaseException", "object"]:List String).contains x=true):([.ref C,.ref T,.type "ValueError", .type "Exception", .type "BaseException", .type "object"]:List Value).contains (.type x)=true:=by
 rw [List.contains_iff_mem] at h ⊢;simp only [List.mem_cons,List.not_mem_nil,or_false] at h ⊢;rcases h with rfl|rfl|rfl|rfl<;>simp
theorem zaZ {x:String} (C T:Addr) (h:(["ValueError", "Exception", "BaseException", "object"]:List String).contains x=false):([.ref C,.ref T,.type "ValueError", .type "Exception", .type "BaseException", .type "object"]:List Value).contains (.type x)=false:=by
 rw [Bool.eq_false_iff] at h ⊢;intro e;refine h ?_;rw [List.contains_iff_mem] at e ⊢;simp only [List.mem_cons,List.not_mem_nil,or_false] at e ⊢;rcases e with e|e|e|e|e|e
 .cases e
 .cases e
 .exact .inl (Value.type.inj e)
 .exact .inr (.inl (Value.type.inj e))
 .exact .inr (.inr (.inl (Value.type.inj e)))
 .exact .inr (.inr (.inr (Value.type.inj e)))
theorem Kc.xc (k:Kc K T C ini):PySem.W.XC K C where
 cls:=by obtain ⟨cd,e,_⟩:=k.cd;rw [e];rfl
 ga:=k.ga
 gt:=k.gt
 sub:=(k.mro _).trans (by rw [cB C T (by decide)])
 cl:=k.ca
 mro:=(k.mro _).trans (by rw [cB C T (by decide)])
theorem Kc.xm (k:Kc K T C ini):XM K C ini where
 cls:=by
  obtain ⟨nm,qn,N,bs,sn,sub,ab,col,dd,k0,k1,k2,k3,k5,l⟩:=k.cls;exact ⟨nm,qn,N,bs,_,true,sn,sub,ab,col,dd,k0,k1,k2,k3,k5,l,cB C T (by decide),zaZ C T (by decide),zaZ C T (by decide),cB C T (by decide)⟩
 ini:=k.ini
 kp:=k.kp
theorem Kc.xi {f:Str} (k:Kc K T C ini) (sa:findIn K (.ref C) "__setattr__" = some (some (.builtin "object.__setattr__"))) (no:findIn K (.ref C) f=some none):XI K C f where
 cls:=by
  obtain ⟨cd,e,h,m⟩:=k.cd;exact ⟨cd,e,h,[C,T],m⟩
 sa:=sa
 mro:=k.xc.mro
 no:=no
theorem Kc.hd (k:Kc K T C ini):PySem.W.hasDictIn K C=true:=by
 obtain ⟨cd,e,h,m⟩:=k.cd;unfold PySem.W.hasDictIn;rw [e];exact h
theorem Kc.val (k:Kc K T C ini):PySem.W.kitOne K (.ref C) (.type "ValueError")=some true:=by
 unfold PySem.W.kitOne;rw [if_neg (fun z=>by cases beq_iff_eq.mp z)];unfold PySem.W.kitCls;dsimp only;rw [if_pos (by decide +kernel)];exact (k.mro _).trans (by rw [cB C T (by decide)])
theorem Kc.no {D:Addr} {cd:ClassData} (k:Kc K T C ini) (hc:PySem.W.clsIn K D=some cd) (ht:PySem.W.typeIn K (.ref D)=some (.type "type")) (hn:D≠C/\D≠T):PySem.W.kitOne K (.ref C) (.ref D)=some false:=by
 unfold PySem.W.kitOne;rw [if_neg (fun z=>hn.1 (Value.ref.inj (beq_iff_eq.mp z)).symm)];unfold PySem.W.kitCls;dsimp only;rw [if_pos (by rw [hc,ht];rfl)];refine (k.mro _).trans ?_;congr 1;rw [Bool.eq_false_iff];intro z;rw [List.contains_iff_mem] at z;simp only [List.mem_cons,List.not_mem_nil,or_false] at z;rcases z with z|z|z|z|z|z
 .exact hn.1 (Value.ref.inj z)
 .exact hn.2 (Value.ref.inj z)
 .cases z
 .cases z
 .cases z
 .cases z
theorem zaY {x:String} (T:Addr) (h:(["ValueError", "Exception", "BaseException", "object"]:List String).contains x=false):([.ref T,.type "ValueError", .type "Exception", .type "BaseException", .type "object"]:List Value).contains (.type x)=false:=by
 have:=zaZ T T h;rw [List.contains_cons] at this;exact (Bool.or_eq_false_iff.mp this).2
end
def cs (c0 c1 c2 c3 c4 c5 c6 c7 c8 c9:Addr):Nat->Addr
 | 0=>c0
 | 1=>c1
 | 2=>c2
 | 3=>c3
 | 4=>c4
 | 5=>c5
 | 6=>c6
 | 7=>c7
 | 8=>c8
 |_=>c9
theorem all_mk {l:PySem.W.OpenLaw} {w:World} {K:yZ} {h:Heap} {mg:Str->Option Value} {fa C fI dT hA T0 f1 f2 f3 f4 f5 f6 f7 f8 f9 f10 f11 f12:Addr} (X:K.In h) (G:h.Ns mainGlobals mg) (hfa:mg "law" = some (.ref fa))
  {od1 an1 od2 an2 od3 an3 od4 an4 od5 an5 od6 an6 od7 an7 od8 an8 od9 an9 od10 an10 od11 an11 od12 an12 odI anI oD:Option Addr} {sl1 sl2 sl3 sl4 sl5 sl6 sl7 sl8 sl9 sl10 sl11 sl12 slI sD:Array (Option Value)} {oc1 kV1 dc1 pm1 cd1 ct1 oc2 kV2 dc2 pm2 cd2 ct2 oc3 kV3 dc3 pm3 cd3 ct3 oc4 kV4 dc4 pm4 cd4 ct4 oc5 kV5 dc5 pm5 cd5 ct5 oc6 kV6 dc6 pm6 cd6 ct6 oc7 kV7 dc7 pm7 cd7 ct7 oc8 kV8 dc8 pm8 cd8 ct8 oc9 kV9 dc9 pm9 cd9 ct9 oc10 kV10 dc10 pm10 cd10 ct10 oc11 kV11 dc11 pm11 cd11 ct11 oc12 kV12 dc12 pm12 cd12 ct12 ocI kVI dcI pmI cdI ctI cD:Value} {tD:Tok} {nD:Nat} {t1 t2 t3 t4 t5 t6 t7 t8 t9:Addr} {oT1 oT2 oT3 oT4 oT5 oT6 oT7 oT8 oT9:Option Addr} {sT1 sT2 sT3 sT4 sT5 sT6 sT7 sT8 sT9:Array (Option Value)} {nT1 nT2 nT3 nT4 nT5 nT6 nT7 nT8 nT9 nH:Nat} {v1 v2 v3 v4 v5 v6 v7 v8 v9 v10 tk1 tk2 tk3 tk4:Tok} {hs1 hs2 hs3 hs4:Int} {C0 C1 C2 C3 C4 C5 C6 C7 C8 C9 g7 N7 NT:Addr} {nm7 qn7 nmT qnT:Str} {bs7 sub7 bsT subT:List Value} {sn7 snT:List Str} {ab7 abT:Bool} {col7 colT:Option Bool} {dd7 ddT odI7 anI7:Option Addr} {ka7 kb7 kc7 kd7 ke7 kaT kbT kcT kdT keT:Option Value} {slI7:Array (Option Value)} {ocI7 kVI7 dcI7 pmI7 cdI7 ctI7:Value} {cz0 cz2 cz3 cz4 cz5 cz6 cz7 cz8 cz9:ClassData}
  (a1:nsIn K mainGlobals "_law_deal" = some (some (.ref f1))) (l1:K.lookup f1=some ⟨oc1,od1,.func (fnOf "_law_deal" "_law_deal" (yJ wO) (zG wO) (zY wO) .none kV1 dc1 pm1 an1 cd1 ct1),sl1⟩) (c1:codeIn K cd1 "_law_deal" = true) (k1:keepIn K (.ref f1)=true)
  (a2:nsIn K mainGlobals "show_book" = some (some (.ref f2))) (l2:K.lookup f2=some ⟨oc2,od2,.func (fnOf "show_book" "show_book" (yJ wT) (zG wT) (zY wT) .none kV2 dc2 pm2 an2 cd2 ct2),sl2⟩) (c2:codeIn K cd2 "show_book" = true) (k2:keepIn K (.ref f2)=true)
  (a3:nsIn K mainGlobals "made_book" = some (some (.ref f3))) (l3:K.lookup f3=some ⟨oc3,od3,.func (fnOf "made_book" "made_book" (yJ wQ) (zG wQ) (zY wQ) .none kV3 dc3 pm3 an3 cd3 ct3),sl3⟩) (c3:codeIn K cd3 "made_book" = true) (k3:keepIn K (.ref f3)=true)
  (a4:nsIn K mainGlobals "words_between_blanks" = some (some (.ref f4))) (l4:K.lookup f4=some ⟨oc4,od4,.func (fnOf "words_between_blanks" "words_between_blanks" (yJ zA) (zG zA) (zY zA) .none kV4 dc4 pm4 an4 cd4 ct4),sl4⟩) (c4:codeIn K cd4 "words_between_blanks" = true) (k4:keepIn K (.ref f4)=true)
  (a5:nsIn K mainGlobals "fits" = some (some (.ref f5))) (l5:K.lookup f5=some ⟨oc5,od5,.func (fnOf "fits" "fits" (yJ rC) (zG rC) (zY rC) .none kV5 dc5 pm5 an5 cd5 ct5),sl5⟩) (c5:codeIn K cd5 "fits" = true) (k5:keepIn K (.ref f5)=true)
  (a6:nsIn K mainGlobals "read_book" = some (some (.ref f6))) (l6:K.lookup f6=some ⟨oc6,od6,.func (fnOf "read_book" "read_book" (yJ wS) (zG wS) (zY wS) .none kV6 dc6 pm6 an6 cd6 ct6),sl6⟩) (c6:codeIn K cd6 "read_book" = true) (k6:keepIn K (.ref f6)=true)
  (a7:nsIn K mainGlobals "_law_draw" = some (some (.ref f7))) (l7:K.lookup f7=some ⟨oc7,od7,.func (fnOf "_law_draw" "_law_draw" (yJ wP) (zG wP) (zY wP) .none kV7 dc7 pm7 an7 cd7 ct7),sl7⟩) (c7:codeIn K cd7 "_law_draw" = true) (k7:keepIn K (.ref f7)=true)
  (a8:nsIn K mainGlobals "_law_turned" = some (some (.ref f8))) (l8:K.lookup f8=some ⟨oc8,od8,.func (fnOf "_law_turned" "_law_turned" (yJ xM) (zG xM) (zY xM) .none kV8 dc8 pm8 an8 cd8 ct8),sl8⟩) (c8:codeIn K cd8 "_law_turned" = true) (k8:keepIn K (.ref f8)=true)
  (a9:nsIn K mainGlobals "_law_refused" = some (some (.ref f9))) (l9:K.lookup f9=some ⟨oc9,od9,.func (fnOf "_law_refused" "_law_refused" (yJ xQ) (zG xQ) (zY xQ) .none kV9 dc9 pm9 an9 cd9 ct9),sl9⟩) (c9:codeIn K cd9 "_law_refused" = true) (k9:keepIn K (.ref f9)=true)
  (a10:nsIn K mainGlobals "_law_bad_row" = some (some (.ref f10))) (l10:K.lookup f10=some ⟨oc10,od10,.func (fnOf "_law_bad_row" "_law_bad_row" (yJ xP) (zG xP) (zY xP) .none kV10 dc10 pm10 an10 cd10 ct10),sl10⟩) (c10:codeIn K cd10 "_law_bad_row" = true) (k10:keepIn K (.ref f10)=true)
  (a11:nsIn K mainGlobals "_law_all_refused" = some (some (.ref f11))) (l11:K.lookup f11=some ⟨oc11,od11,.func (fnOf "_law_all_refused" "_law_all_refused" (yJ yM) (zG yM) (zY yM) .none kV11 dc11 pm11 an11 cd11 ct11),sl11⟩) (c11:codeIn K cd11 "_law_all_refused" = true) (k11:keepIn K (.ref f11)=true)
  (a12:nsIn K mainGlobals "law" = some (some (.ref f12))) (l12:K.lookup f12=some ⟨oc12,od12,.func (fnOf "law" "law" (yJ bU) (zG bU) (zY bU) .none kV12 dc12 pm12 an12 cd12 ct12),sl12⟩) (c12:codeIn K cd12 "law" = true) (k12:keepIn K (.ref f12)=true)
  (z0:nsIn K mainGlobals "max" = some none)
  (z1:nsIn K mainGlobals "len" = some none)
  (z2:nsIn K mainGlobals "all" = some none)
  (z3:nsIn K mainGlobals "list" = some none)
  (z4:nsIn K mainGlobals "isinstance" = some none)
  (z5:nsIn K mainGlobals "reversed" = some none)
  (z6:nsIn K mainGlobals "zip" = some none)
  (z7:nsIn K mainGlobals "str" = some none)
  (z8:nsIn K mainGlobals "enumerate" = some none)
  (z9:nsIn K mainGlobals "bool" = some none)
  (z10:nsIn K mainGlobals "ValueError" = some none)
  (aC:nsIn K mainGlobals "Book" = some (some (.ref C))) (aI:findIn K (.ref C) "__init__" = some (some (.ref fI))) (iI:PySem.W.isFn K (.ref fI)=true)
  (lI:K.lookup fI=some ⟨ocI,odI,.func (fnOf "__init__" "Book.__init__" (yJ xK) (zG xK) (zY xK) (.ref dT) kVI dcI pmI anI cdI ctI),slI⟩) (cI:codeIn K cdI "Book.__init__" = true) (kI:keepIn K (.ref fI)=true)
  (lD:K.lookup dT=some ⟨cD,oD,.seq #[.str "last" tD] nD,sD⟩)
  (pg:PySem.W.plainGet K C Str.empty=true) (hdi:PySem.W.hasDictIn K C=true) (po:PySem.W.plainOver K C=true) (sa:findIn K (.ref C) "__setattr__" = some (some (.builtin "object.__setattr__"))) (mk:PySem.W.makesIn K C=true) (kC:keepIn K (.ref C)=true)
  (n1:findIn K (.ref C) "answers" = some none) (n2:findIn K (.ref C) "again" = some none) (n3:findIn K (.ref C) "doubts" = some none) (n4:findIn K (.ref C) "speaks" = some none) (n5:findIn K (.ref C) "other" = some none)
  (aH:nsIn K mainGlobals "CHOICES" = some (some (.ref hA)))
  (lH:K.lookup hA=some ⟨.type "dict", none,.dict #[⟨hs1,.str "first answers" tk1,.ref t1⟩,⟨hs2,.str "first doubts" tk2,.ref t2⟩,⟨hs3,.str "first speaks" tk3,.ref t3⟩,⟨hs4,.str "other speaks" tk4,.ref t4⟩] nH,#[]⟩)
  (lT1:K.lookup t1=some ⟨.type "tuple", oT1,.seq #[.ref t5,.ref t6] nT1,sT1⟩)
  (lT2:K.lookup t2=some ⟨.type "tuple", oT2,.seq #[.ref t7] nT2,sT2⟩)
  (lT3:K.lookup t3=some ⟨.type "tuple", oT3,.seq #[.ref t8] nT3,sT3⟩)
  (lT4:K.lookup t4=some ⟨.type "tuple", oT4,.seq #[.ref t9] nT4,sT4⟩)
  (lT5:K.lookup t5=some ⟨.type "tuple", oT5,.seq #[.str "last" v1,.str "any" v2] nT5,sT5⟩)
  (lT6:K.lookup t6=some ⟨.type "tuple", oT6,.seq #[.str "once" v3,.str "often" v4] nT6,sT6⟩)
  (lT7:K.lookup t7=some ⟨.type "tuple", oT7,.seq #[.str "once" v5,.str "often" v6] nT7,sT7⟩)
  (lT8:K.lookup t8=some ⟨.type "tuple", oT8,.seq #[.str "last" v7,.str "any" v8] nT8,sT8⟩)
  (lT9:K.lookup t9=some ⟨.type "tuple", oT9,.seq #[.str "last" v9,.str "any" v10] nT9,sT9⟩)
  (A0:nsIn K mainGlobals "NoText" = some (some (.ref C0)))
  (A1:nsIn K mainGlobals "NoBook" = some (some (.ref C1)))
  (A2:nsIn K mainGlobals "NotLet" = some (some (.ref C2)))
  (A3:nsIn K mainGlobals "NoMove" = some (some (.ref C3)))
  (A4:nsIn K mainGlobals "NoPlan" = some (some (.ref C4)))
  (A5:nsIn K mainGlobals "NoTalker" = some (some (.ref C5)))
  (A6:nsIn K mainGlobals "NoPaper" = some (some (.ref C6)))
  (A7:nsIn K mainGlobals "NoWeb" = some (some (.ref C7)))
  (A8:nsIn K mainGlobals "NoRow" = some (some (.ref C8)))
  (A9:nsIn K mainGlobals "NoName" = some (some (.ref C9)))
  (aT:nsIn K mainGlobals "TalkError" = some (some (.ref T0)))
  (L7:K.lookup C1=some (excClassObj nm7 qn7 C1 N7 bs7 [.ref T0,.type "ValueError", .type "Exception", .type "BaseException", .type "object"] true sn7 sub7 ab7 col7 dd7 ka7 kb7 kc7 kd7 ke7 "ValueError.__new__"))
  (G7:findIn K (.ref C1) "__getattribute__" = some (some (.builtin "BaseException.__getattribute__")))
  (H7:findIn K (.ref C1) "__getattr__" = some none)
  (J7:findIn K (.ref C1) "__class__" = some (some (.builtin "object.__class__")))
  (I7:findIn K (.ref C1) "__init__" = some (some (.ref g7)))
  (K7:keepIn K (.ref C1)=true)
  (S7:findIn K (.ref C1) "__setattr__" = some (some (.builtin "object.__setattr__")))
  (F7:findIn K (.ref C1) "row" = some none)
  (P7:K.lookup g7=some ⟨ocI7,odI7,.func (fnOf "__init__" "NoBook.__init__" (yJ wL) (zG wL) (zY wL) .none kVI7 dcI7 pmI7 anI7 cdI7 ctI7),slI7⟩)
  (Q7:codeIn K cdI7 "NoBook.__init__" = true)
  (R7:keepIn K (.ref g7)=true)
  (T7:PySem.W.typeIn K (.ref g7)=some (.type "function"))
  (LT:K.lookup T0=some (excClassObj nmT qnT T0 NT bsT [.type "ValueError", .type "Exception", .type "BaseException", .type "object"] true snT subT abT colT ddT kaT kbT kcT kdT keT "ValueError.__new__"))
  (IT:findIn K (.ref T0) "__init__" = some (some (.builtin "ValueError.__init__")))
  (KT:keepIn K (.ref T0)=true)
  (xg:PySem.W.specialIn K (.builtin "object.__class__") "__get__" = some (some (.builtin "getset_descriptor.__get__")))
  (xt:PySem.W.takesIn K (.builtin "object.__class__")=some true)
  (D0:PySem.W.clsIn K C0=some cz0)
  (E0:PySem.W.typeIn K (.ref C0)=some (.type "type"))
  (D2:PySem.W.clsIn K C2=some cz2)
  (E2:PySem.W.typeIn K (.ref C2)=some (.type "type"))
  (D3:PySem.W.clsIn K C3=some cz3)
  (E3:PySem.W.typeIn K (.ref C3)=some (.type "type"))
  (D4:PySem.W.clsIn K C4=some cz4)
  (E4:PySem.W.typeIn K (.ref C4)=some (.type "type"))
  (D5:PySem.W.clsIn K C5=some cz5)
  (E5:PySem.W.typeIn K (.ref C5)=some (.type "type"))
  (D6:PySem.W.clsIn K C6=some cz6)
  (E6:PySem.W.typeIn K (.ref C6)=some (.type "type"))
  (D7:PySem.W.clsIn K C7=some cz7)
  (E7:PySem.W.typeIn K (.ref C7)=some (.type "type"))
  (D8:PySem.W.clsIn K C8=some cz8)
  (E8:PySem.W.typeIn K (.ref C8)=some (.type "type"))
  (D9:PySem.W.clsIn K C9=some cz9)
  (E9:PySem.W.typeIn K (.ref C9)=some (.type "type"))
  (hw1:∀ d∈[C0,C2,C3,C4,C5,C6,C7,C8,C9],d≠C1/\d≠T0)
  (hw:(hA==sysModules)=false) :
  ∃ fd:FuncData,(∀ (s:Shared) (u:Value),BindsTo s fd ⟨[u],[]⟩ [("_law_script", u)])/\fd.scope.names.lookup ("_law_script" : Str)=some .local/\∀ base:Heap,K.In base->base.Ns mainGlobals mg->FnOk l.prog w K mg base CX0 41 fa fd ["_law_script"] (jB K rE):=by
 have e:=hfa.symm.trans (mg_of X G a12);cases e;have sz0:∀ k:Nat,k<=5->k<=sizeLine:=fun k hk=>by rw [sizeLine_eq];omega
 have r5:∀ H,xN K H (.tup [.str "last", .str "any"]) (.ref t5):=jS (vs:=[.str "last", .str "any"]) lT5 rfl rfl (sz0 2 (by decide)) (.cons ⟨_,rfl⟩ (.cons ⟨_,rfl⟩ .nil)) fun H=>⟨_,_,rfl,rfl,_,_,rfl,rfl,rfl⟩;have r6:∀ H,xN K H (.tup [.str "once", .str "often"]) (.ref t6):=jS (vs:=[.str "once", .str "often"]) lT6 rfl rfl (sz0 2 (by decide)) (.cons ⟨_,rfl⟩ (.cons ⟨_,rfl⟩ .nil)) fun H=>⟨_,_,rfl,rfl,_,_,rfl,rfl,rfl⟩;have r7:∀ H,xN K H (.tup [.str "once", .str "often"]) (.ref t7):=jS (vs:=[.str "once", .str "often"]) lT7 rfl rfl (sz0 2 (by decide)) (.cons ⟨_,rfl⟩ (.cons ⟨_,rfl⟩ .nil)) fun H=>⟨_,_,rfl,rfl,_,_,rfl,rfl,rfl⟩;have r8:∀ H,xN K H (.tup [.str "last", .str "any"]) (.ref t8):=jS (vs:=[.str "last", .str "any"]) lT8 rfl rfl (sz0 2 (by decide)) (.cons ⟨_,rfl⟩ (.cons ⟨_,rfl⟩ .nil)) fun H=>⟨_,_,rfl,rfl,_,_,rfl,rfl,rfl⟩;have r9:∀ H,xN K H (.tup [.str "last", .str "any"]) (.ref t9):=jS (vs:=[.str "last", .str "any"]) lT9 rfl rfl (sz0 2 (by decide)) (.cons ⟨_,rfl⟩ (.cons ⟨_,rfl⟩ .nil)) fun H=>⟨_,_,rfl,rfl,_,_,rfl,rfl,rfl⟩;have r1:∀ H,xN K H (.tup [la,oo]) (.ref t1):=jS (vs:=[.ref t5,.ref t6]) lT1 rfl rfl (sz0 2 (by decide)) (.cons rfl (.cons rfl .nil)) fun H=>⟨_,_,rfl,r5 H,_,_,rfl,r6 H,rfl⟩;have r2:∀ H,xN K H (.tup [oo]) (.ref t2):=jS (vs:=[.ref t7]) lT2 rfl rfl (sz0 1 (by decide)) (.cons rfl .nil) fun H=>⟨_,_,rfl,r7 H,rfl⟩;have r3:∀ H,xN K H (.tup [la]) (.ref t3):=jS (vs:=[.ref t8]) lT3 rfl rfl (sz0 1 (by decide)) (.cons rfl .nil) fun H=>⟨_,_,rfl,r8 H,rfl⟩;have r4:∀ H,xN K H (.tup [la]) (.ref t4):=jS (vs:=[.ref t9]) lT4 rfl rfl (sz0 1 (by decide)) (.cons rfl .nil) fun H=>⟨_,_,rfl,r9 H,rfl⟩;have y7:=Kc.mk' L7 G7 H7 J7 I7 K7
 have no:∀ i∈[0,3,9,4,6,8,5,2,7],PySem.W.kitOne K (.ref C1) (.ref ((cs C0 C1 C2 C3 C4 C5 C6 C7 C8 C9) i))=some false :=
  zZ (y7.no D0 E0 (hw1 C0 (by simp))) (zZ (y7.no D3 E3 (hw1 C3 (by simp))) (zZ (y7.no D9 E9 (hw1 C9 (by simp))) (zZ (y7.no D4 E4 (hw1 C4 (by simp))) (zZ (y7.no D6 E6 (hw1 C6 (by simp))) (zZ (y7.no D8 E8 (hw1 C8 (by simp))) (zZ (y7.no D5 E5 (hw1 C5 (by simp))) (zZ (y7.no D2 E2 (hw1 C2 (by simp))) (zZ (y7.no D7 E7 (hw1 C7 (by simp))) yR))))))))
 have c:Cl K (cs C0 C1 C2 C3 C4 C5 C6 C7 C8 C9):=⟨⟨xg,xt⟩,y7.xc,by unfold PySem.W.kitOne;rw [if_pos (beq_self_eq_true _)],no,y7.val,y7.hd,F7,rfl,rfl,zZ rfl (zZ rfl (zZ rfl (zZ rfl (zZ rfl yR))))⟩;have xT:XM K T0 (.builtin "ValueError.__init__"):=⟨⟨_,_,_,_,_,_,_,_,_,_,_,_,_,_,_,_,LT,by rw [List.contains_iff_mem];simp,zaY T0 (by decide),zaY T0 (by decide),by rw [List.contains_iff_mem];simp⟩,IT,KT⟩;have sb:fO K C1 T0:=⟨_,_,_,_,_,_,_,_,_,_,_,_,_,_,_,_,L7,by rw [List.contains_iff_mem];simp⟩
 have T:Txt K mg C fI dT hA (cs C0 C1 C2 C3 C4 C5 C6 C7 C8 C9) T0:={
  cl:=⟨pg,hdi,po,sa⟩
  nf:=(zZ n1 (zZ n2 (zZ n3 (zZ n4 (zZ n5 yR)))))
  mgC:=mg_of X G aC
  mkC:=⟨mk,aI,iI,kC⟩
  hI:=HD.mk' lI cI kI
  dT:=⟨_,tD,nD,lD,rfl⟩
  deal:=⟨f1,mg_of X G a1,HD.mk' l1 c1 k1⟩
  show_:=⟨f2,mg_of X G a2,HD.mk' l2 c2 k2⟩
  made:=⟨f3,mg_of X G a3,HD.mk' l3 c3 k3⟩
  words:=⟨f4,mg_of X G a4,HD.mk' l4 c4 k4⟩
  fits:=⟨f5,mg_of X G a5,HD.mk' l5 c5 k5⟩
  read:=⟨f6,mg_of X G a6,HD.mk' l6 c6 k6⟩
  draw:=⟨f7,mg_of X G a7,HD.mk' l7 c7 k7⟩
  turn:=⟨f8,mg_of X G a8,HD.mk' l8 c8 k8⟩
  ref:=⟨f9,mg_of X G a9,HD.mk' l9 c9 k9⟩
  bad:=⟨f10,mg_of X G a10,HD.mk' l10 c10 k10⟩
  allr:=⟨f11,mg_of X G a11,HD.mk' l11 c11 k11⟩
  max:=mg_none_of X G z0
  len:=mg_none_of X G z1
  all:=mg_none_of X G z2
  list:=mg_none_of X G z3
  isi:=mg_none_of X G z4
  rev:=mg_none_of X G z5
  zip:=mg_none_of X G z6
  str:=mg_none_of X G z7
  enu:=mg_none_of X G z8
  bool:=mg_none_of X G z9
  val:=mg_none_of X G z10
  mgH:=mg_of X G aH
  chs:=fun H=>⟨hA,[.ref t1,.ref t2,.ref t3,.ref t4],rfl,⟨_,_,_,lH,⟨rfl,rfl,rfl⟩,rfl,sz0 4 (by decide),hw,⟨"first answers", tk1,.ref t1,_,_,rfl,rfl,rfl,rfl,⟨"first doubts", tk2,.ref t2,_,_,rfl,rfl,rfl,rfl,⟨"first speaks", tk3,.ref t3,_,_,rfl,rfl,rfl,rfl,⟨"other speaks", tk4,.ref t4,_,_,rfl,rfl,rfl,rfl,⟨rfl,rfl⟩⟩⟩⟩⟩⟩,⟨_,_,rfl,r1 H,⟨_,_,rfl,r2 H,⟨_,_,rfl,r3 H,⟨_,_,rfl,r4 H,rfl⟩⟩⟩⟩⟩
  qc:=c
  mgT:=mg_of X G aT
  tr:=⟨_,xT⟩
  sub:=sb
  x1:=⟨⟨g7,y7.xm,HD.mk' P7 Q7 R7,T7⟩,y7.xi S7 F7⟩
  m0:=mg_of X G A0
  m1:=mg_of X G A1
  m2:=mg_of X G A2
  m3:=mg_of X G A3
  m4:=mg_of X G A4
  m5:=mg_of X G A5
  m6:=mg_of X G A6
  m7:=mg_of X G A7
  m8:=mg_of X G A8
  m9:=mg_of X G A9 }
 obtain ⟨fd,hb,hx,hF⟩:=zih (P:=l.prog) (w:=w) T (HD.mk' l12 c12 k12);exact ⟨fd,hb,hx,fun base _ _=>hF base⟩
end K17
namespace PySem.W.Fast
def tw14283617645959543706:=0
def tw11419828619879320559:=0
def tw4436605391760362840:=0
def tw2323068278279442179:=0
def tw6639787905699761514:=0
def tw5794072618747904487:=0
def tw8613926711896668663:=0
def tw16676531864386407805:=0
def tw5024152242717680878:=0
def tw15911941062990309568:=0
def tw16216610550807206312:=0
def tw8780202110088223086:=0
def tw4225726582820276491:=0
def tw2196992728138352695:=0
def tw13520797642860649372:=0
def tw1364893789603538993:=0
def tw5596967624758375083:=0
def tw14884701469643917430:=0
def tw8664913469155409478:=0
def tw14003045066369894638:=0
def tw3657786529658210795:=0
def tw737329781137256458:=0
def tw12189246257808602234:=0
def tw14764207423927286191:=0
def tw14764078305450326362:=0
def tw15430834192874417019:=0
def tw10111321590642804187:=0
def tw7075713662726140579:=0
def tw3906268072408010771:=0
def tw2117732556362032570:=0
def tw15298878836368800739:=0
def tw13071714593085365428:=0
def tw2312528383338325208:=0
def tw1060497382771542638:=0
def tw13403956959408309885:=0
def tw3159666883073545121:=0
def tw3852100842844214442:=0
def tw880112123220031039:=0
def tw13261518168786733178:=0
def tw10778904066216942820:=0
def tw15745180181972128533:=0
def tw13362321965550568480:=0
def tw8457352371083536796:=0
def tw629107188610195794:=0
def tw6488408769994682798:=0
def tw14562503593350544857:=0
def tw4248012673030299986:=0
def tw10062896785280414915:=0
def tw6129028896302171462:=0
def tw3511091019447444046:=0
def tw16077944156576388789:=0
def tw8600821349704400173:=0
def tw6674237787162618875:=0
def tw1631979686219387568:=0
def tw17159377362906985587:=0
def tw5979657016165779743:=0
def tw5003734339987407700:=0
def tw11923968647754901987:=0
def tw3527381005804315458:=0
def tw6539487222552333025:=0
def tw15067062640640924294:=0
def tw6371528835024430896:=0
def tw4161409955117126696:=0
def tw13558654828783250383:=0
def tw8331609168246602162:=0
def tw8165004089435254542:=0
def tw2545306159566603159:=0
def tw1617610526193153460:=0
def tw18392021798603821429:=0
def tw16569993459279364057:=0
def tw5473308349952928707:=0
def tw5136414144625141268:=0
def tw9167063219739282725:=0
def tw2816762331041264465:=0
def tw10740469375599144368:=0
def tw6760677924580044422:=0
def tw1071244877709505385:=0
def tw14211563741146685033:=0
def tw15314684263974546283:=0
def tw8704100383397228452:=0
def tw7133278307930111257:=0
def tw4983274408955051609:=0
def tw17534132452498673239:=0
def tw17333458214574805387:=0
def tw11212944050371535707:=0
def tw8252671865369237145:=0
def tw4756047189321261762:=0
def tw16304099547550188694:=0
def tw8157488825351680270:=0
def tw3345266454840009672:=0
def tw8801888709135160278:=0
def tw6609700794478633339:=0
def tw1489415546322844353:=0
def tw1172069504950059901:=0
def tw15513236610388418120:=0
def tw2244505695240628233:=0
def tw10737177107207367900:=0
def tw16872279024024613226:=0
def tw4713256121839326795:=0
def tw18446685531805711646:=0
def tw17584553438357539618:=0
def tw8802739653180511859:=0
def tw16237670935418531115:=0
def tw15516897870963515475:=0
def tw14517279243645283725:=0
def tw15628230909903429595:=0
def tw5253096017704379570:=0
def tw6955968806208132811:=0
def tw15194569294151892716:=0
def tw4651836994625505693:=0
def tw12488703385460808407:=0
def tw2032626304267960879:=0
def tw834684113596003954:=0
def tw18033081510171595780:=0
def tw5961801868901542674:=0
def tw570492474114432642:=0
def tw12445129445197485768:=0
def tw17890474735730418014:=0
def tw790675577988941154:=0
def tw12777067708131994225:=0
def tw10556176085463529969:=0
def tw18293967111866526958:=0
def tw1516094207486229624:=0
def tw5518041947746425098:=0
def tw6114250320153629028:=0
def tw4737838146875233615:=0
def tw11378959222963010439:=0
def tw15540831630217057312:=0
def tw100540429306287743:=0
def tw12968616840090429475:=0
def tw15749429058278755956:=0
def tw12407408094593048683:=0
def tw5464728888404523718:=0
def tw9886821730537849455:=0
def tw10141063572760696179:=0
def tw3916089466671572915:=0
def tw11973416165718242362:=0
def tw402080845370889664:=0
def tw2055618204061340160:=0
def tw13040871915435134146:=0
def tw17417997763360211235:=0
def tw18209203896012216536:=0
def tw6112570409425274384:=0
def tw12561530298386008285:=0
def tw12103866688615190315:=0
def tw8253722657771360604:=0
def tw14187435624745709160:=0
def tw8191098716686332888:=0
def tw6481697962832255075:=0
def tw15250490258580842111:=0
def tw9181569246115234414:=0
def tw18071828992992180707:=0
def tw17102920514919516410:=0
def tw4870259759120298042:=0
def tw14562920505694816236:=0
def tw418146941930027866:=0
def tw15409290579306089893:=0
def tw2946529093979593320:=0
def tw17567356371229776449:=0
def tw3205294318633349423:=0
def tw2110942056245281799:=0
def tw502366296522616005:=0
def tw1879241165865250394:=0
def tw18426161721142238908:=0
def tw16486266677551920009:=0
def tw16829716854554828337:=0
def tw7416625411270690494:=0
def tw3632002686563687477:=0
def tw1927926798458053141:=0
def tw1775157408096395906:=0
def tw14070838458607524343:=0
def tw13681347772825978616:=0
def tw1257953647070757318:=0
def tw12171289046646300192:=0
def tw12152845227298754105:=0
def tw1159131071818709384:=0
def tw10495350991705786759:=0
def tw94396526752822002:=0
def tw2685669471143673862:=0
def tw5508788190035616383:=0
def tw483654164659984734:=0
def tw14580609370588275995:=0
def tw5311055622612388520:=0
def tw6108053725221131013:=0
def tw17696649813755109324:=0
def tw16310366936393723059:=0
def tw16046328427835071084:=0
def tw15264236153405387992:=0
def tw3931509789625957545:=0
def tw17640675629515093812:=0
def tw17252657184290762307:=0
def tw10697160217731348818:=0
def tw13075043243293480431:=0
def tw11721517823383308133:=0
def tw6504366438597437229:=0
def tw13639245067502678912:=0
def tw14045356486168184687:=0
def tw1289129441796931717:=0
def tw10540291916613578117:=0
def tw7549584638986214241:=0
end PySem.W.Fast
open PySem PySem.W PyProof.Rows
set_option maxRecDepth 100000 in
set_option maxHeartbeats 0 in
theorem PySem.Challenge.cw_talkcourt_k17_books_refused_holds : PySem.Challenge.rw_talkcourt_k17_books_refused.Holds := by
 w_on;o_law;k_head;(case hw=>w_witness2)
 k_fill
 refine L3.walk3 (l:=PySem.Challenge.rw_talkcourt_k17_books_refused) (k:=41) rfl rfl ⟨rfl,rfl,by decide,by decide⟩ (fun w h Y=>PySem.W.kIn_of Y) ?F
 case F =>
  intro w mg fa h KX G hmg;refine' K17.all_mk KX G hmg ?a1 ?l1 ?c1 ?k1 ?a2 ?l2 ?c2 ?k2 ?a3 ?l3 ?c3 ?k3 ?a4 ?l4 ?c4 ?k4 ?a5 ?l5 ?c5 ?k5 ?a6 ?l6 ?c6 ?k6 ?a7 ?l7 ?c7 ?k7 ?a8 ?l8 ?c8 ?k8 ?a9 ?l9 ?c9 ?k9 ?a10 ?l10 ?c10 ?k10 ?a11 ?l11 ?c11 ?k11 ?a12 ?l12 ?c12 ?k12 ?z0 ?z1 ?z2 ?z3 ?z4 ?z5 ?z6 ?z7 ?z8 ?z9 ?z10 ?aC ?aI ?iI ?lI ?cI ?kI ?lD ?pg ?hdi ?po ?sa ?mk ?kC ?n1 ?n2 ?n3 ?n4 ?n5 ?aH ?lH ?lT1 ?lT2 ?lT3 ?lT4 ?lT5 ?lT6 ?lT7 ?lT8 ?lT9 ?A0 ?A1 ?A2 ?A3 ?A4 ?A5 ?A6 ?A7 ?A8 ?A9 ?aT ?L7 ?G7 ?H7 ?J7 ?I7 ?K7 ?S7 ?F7 ?P7 ?Q7 ?R7 ?T7 ?LT ?IT ?KT ?xg ?xt ?D0 ?E0 ?D2 ?E2 ?D3 ?E3 ?D4 ?E4 ?D5 ?E5 ?D6 ?E6 ?D7 ?E7 ?D8 ?E8 ?D9 ?E9 ?hw1 ?hw
  case a1|l1|c1|k1|a2|l2|c2|k2|a3|l3|c3|k3|a4|l4|c4|k4|a5|l5|c5|k5|a6|l6|c6|k6|a7|l7|c7|k7|a8|l8|c8|k8|a9|l9|c9|k9|a10|l10|c10|k10|a11|l11|c11|k11|a12|l12|c12|k12|z0|z1|z2|z3|z4|z5|z6|z7|z8|z9|z10|aC|aI|iI|lI|cI|kI|lD|pg|hdi|po|sa|mk|kC|n1|n2|n3|n4|n5|aH|lH|lT1|lT2|lT3|lT4|lT5|lT6|lT7|lT8|lT9|A0|A1|A2|A3|A4|A5|A6|A7|A8|A9|aT|L7|G7|H7|J7|I7|K7|S7|F7|P7|Q7|R7|T7|LT|IT|KT|xg|xt|D0|E0|D2|E2|D3|E3|D4|E4|D5|E5|D6|E6|D7|E7|D8|E8|D9|E9=>k_is
  case hw1=>first|k_is|decide|rfl
  case hw=>first|k_is|decide|rfl
