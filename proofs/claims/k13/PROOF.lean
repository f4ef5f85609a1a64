import PyProof.Rows.All
import Wide.All
import OpenK.AllK
import Wide.FinOn
import Lean
import PyProof.EqAt
import PyProof.EqKinds
import PyProof.TupleCall
import PySem.Challenge.RW_talkcourt_k13_read_loosely
set_option Elab.async false
set_option linter.all false
set_option maxRecDepth 100000
set_option maxHeartbeats 8000000
theorem zzN:¬ (false=true):=Bool.false_ne_true
theorem zzB:(false=true)=False:=Bool.false_eq_true
theorem zzC {α:Type _} {a:α} {l:List α}:(a::l).length=l.length+1:=rfl
theorem zzL {α:Type _}:([]:List α).length=0:=rfl
theorem zzA (n:Nat):0+n=n:=Nat.zero_add n
theorem zzM {α β:Type _} {l:List α} {f:α->β}:(l.map f).length=l.length:=List.length_map f
theorem zzP {α β:Type _} {b:β} {l:List α} {f:α->β} (h:b∈l.map f):∃ a,a∈l/\f a=b:=List.mem_map.mp h
theorem zzS {α:Type _} {l:List α}:l.toArray.size=l.length:=List.size_toArray
theorem zzR (n:Nat):n<=n:=Nat.le_refl n
theorem zzO {α:Type _} {a b:α} (h:a∈[b]):a=b:=List.mem_singleton.mp h
theorem zzT {α:Type _} {a:α} {l:List α}:a∈a::l:=List.mem_cons_self
theorem zzU {α β:Type _} {a:α} {l:List α} {f:α->β}:(a::l).map f=f a::l.map f:=rfl
theorem zzV {α β:Type _} {f:α->β}:([]:List α).map f=[]:=rfl
theorem zzW {α:Type _} {l l':List α}:(l++l').length=l.length+l'.length:=List.length_append
noncomputable section
namespace L2
open PySem
theorem za0 {M:Model} {Γ:Ctx} {p:Pos} {t:Sem Fin} {fs:List Frame} {s s':Shared} {e:End} (h:Runs M Γ p t fs s e s'):s.toks<=s'.toks:=by
 induction h<;>(try simp only [Shared.setGen] at *)<;>omega
theorem zer {M:Model} {Γ:Ctx} {p:Pos} {g:Nat} {r:Resume} {s s':Shared} {res:GenResult} (h:Wakes M Γ p g r s res s'):s.toks<=s'.toks:=by
 unfold Wakes at h
 split at h
 .exact h.elim
 .split at h
  .obtain ⟨e,s1,h,_,_,rfl⟩:=h;have:=za0 h;exact this
  .rw [h.2];exact zzR _
  .rw [h.2];exact zzR _
 .obtain ⟨e,s1,h,_,_,rfl⟩:=h;have:=za0 h;exact this
 .rw [h.2];exact zzR _
 .rw [h.2];exact zzR _
theorem wp_up {α:Type} {M:Model} {Γ:Ctx} {n:Nat}:∀ (t:Sem α) (Q:α->Pos->Shared->Prop) (E:Value->Pos->Shared->Prop) (p:Pos) (s:Shared),n<=s.toks ->
  Sem.wp M Γ t (fun a p' s'=>n<=s'.toks->Q a p' s') (fun e p' s'=>n<=s'.toks->E e p' s') p s->Sem.wp M Γ t Q E p s:=by
 intro t
 induction t with
 |pure a=>intro Q E p s h z;rw [Sem.wp] at z ⊢;exact z h
 |raise e=>intro Q E p s h z;rw [Sem.wp] at z ⊢;exact z h
 |unsupported _=>intro Q E p s h z;rw [Sem.wp] at z;exact z.elim
 |finish _=>intro Q E p s h z;rw [Sem.wp] at z;exact z.elim
 |register _ _ _=>intro Q E p s h z;rw [Sem.wp] at z;exact z.elim
 | «yield» _ _ _ _ _=>intro Q E p s h z;rw [Sem.wp] at z;exact z.elim
 |load a part k ih=>intro Q E p s h z;rw [Sem.wp] at z ⊢;obtain ⟨o,e,z⟩:=z;exact ⟨o,e,ih o Q E p s h z⟩
 |update a part f k ih=>intro Q E p s h z;rw [Sem.wp] at z ⊢;exact ⟨z.1,ih () Q E p _ h z.2⟩
 |fresh k ih=>intro Q E p s h z;rw [Sem.wp] at z ⊢;exact ih _ Q E p _ (Nat.le_succ_of_le h) z
 |choose src m k ih=>intro Q E p s h z;rw [Sem.wp] at z ⊢;exact ⟨z.1,ih _ Q E p _ h z.2⟩
 |genState g k ih=>intro Q E p s h z;rw [Sem.wp] at z ⊢;obtain ⟨st,e,z⟩:=z;exact ⟨st,e,ih _ Q E p s h z⟩
 |resume g r l k ih=>intro Q E p s h z;rw [Sem.wp] at z ⊢;obtain ⟨res,s',w,z⟩:=z;exact ⟨res,s',w,ih _ Q E p s' (Nat.le_trans h (zer w)) z⟩
 |call c hd g l k ih=>intro Q E p s h z;rw [Sem.wp] at z ⊢;obtain ⟨r,s',w,z⟩:=z;exact ⟨r,s',w,ih _ Q E p s' (Nat.le_trans h (za0 w)) z⟩
 |_=>first|(intro Q E p s h z;rw [Sem.wp] at z;exact z.elim)|(rename_i ih;intro Q E p s h z;rw [Sem.wp] at z ⊢;exact ih _ Q E _ _ h z)
theorem wB {α:Type} {M:Model} {A:Around} {t:Sem α} {Q:α->Shared->Prop} {E:Value->Shared->Prop} {s:Shared} (h:0<s.toks) (w:wpAny M A t (fun a s'=>0<s'.toks->Q a s') E s):wpAny M A t Q E s:=fun Γ p hΓ =>
 wp_up (n:=1) t _ _ p s h (Sem.wp_mono M Γ t (post':=fun a _ s'=>1<=s'.toks->Q a s') (exc':=fun e _ s'=>1<=s'.toks->E e s') (fun _ _ _ z=>z) (fun _ _ _ z _=>z) p s (w Γ p hΓ))
theorem zci {M:Model} {A:Around} {E:Value->Shared->Prop} {s:Shared} {scope:Scope} {gl:Addr} {x:Str} {u:Value} {qual:Str} {fn:Option Addr} {code:Value} {bl:Addr} {Q:Env->Shared->Prop}
  (hk:scope.kind=.function) (hx:scope.names.lookup x=some .local)
  (hQ:∀ env,env=newEnv scope s.heap.objs.size gl (cellsFrom (s.heap.objs.size+1) scope.names []) qual fn code none bl ->
   ∀ s',InCallC s env.locals (bindL env.kindOf [(x,u)] fun _=>none) env.cells (bindC env.kindOf [(x,u)] fun _=>none) s'->0<s'.toks->Q env s') :
  wpAny M A (newFunctionEnv scope gl [] [(x,u)] qual fn code none bl) Q E s:=by
 simp only [newFunctionEnv,Option.isSome_none,zzB,if_false];refine wpAny_bind (wpAny_alloc (wpAny_bind (wpAny_layCells _ (fun name kind cells=>by cases h:kind==NameKind.cell<;>simp [h]) _ _ _ _ ?_)));have ok:=cellsFrom_ok scope.names (s.heap.push { cls:=.type "frame", data:=.dict #[] }) (s.heap.objs.size+1) [] ⟨fun _ _ z=>(nomatch z),List.Pairwise.nil⟩ (by rw [Heap.size_push];exact zzR _);rw [Heap.size_push] at ok;rw [show ({ s with heap:=s.heap.push { cls:=.type "frame", data:=.dict #[] } }:Shared).heap.objs.size=s.heap.objs.size+1 from Heap.size_push ..];have ns:=(Heap.Ns.new s.heap (.type "frame")).keeps (pushCells_keeps scope.names (s.heap.push { cls:=.type "frame", data:=.dict #[] }));rw [List.forIn_cons];refine wpAny_bind (wpAny_bind (wpAny_bind (wpAny_storeName_local (env:=newEnv scope s.heap.objs.size gl (cellsFrom (s.heap.objs.size+1) scope.names []) qual fn code none bl) hx ns (fun h' hn' hs'=>wpAny_pure ?_) (by show (scope.kind==ScopeKind.class || (scope.kind==ScopeKind.module&&(s.heap.objs.size != gl)))=false;rw [hk];rfl))));show wpAny M A (forIn [] _ _) _ _ _;rw [List.forIn_nil];refine wpAny_pure (wpAny_pure (hQ _ rfl _ ⟨⟨⟨h',_,rfl⟩,?_,fun b o e=>?_,zzR _⟩,fun n c hc=>?_,ok.apart,fun n c hm=>(ok.empty n c hm).2⟩ (Nat.succ_pos _)))
 .have e:(newEnv scope s.heap.objs.size gl (cellsFrom (s.heap.objs.size+1) scope.names []) qual fn code none bl).kindOf x=some .local:=hx;unfold bindL bindL;rw [if_pos e];exact hn'
 .exact (hs'.2 b (Nat.ne_of_lt (Heap.lt_size e))).trans (pushCells_keeps _ _ b o (Heap.get?_push_of_some _ e))
 .have e:(newEnv scope s.heap.objs.size gl (cellsFrom (s.heap.objs.size+1) scope.names []) qual fn code none bl).kindOf x=some .local:=hx;unfold bindC bindC;rw [if_pos e];have q:=ok.empty n c (mem_of_lookup hc);exact q.1.sameBut hs' (Nat.ne_of_gt q.2)
theorem zch {M:Model} {A:Around} {E:Value->Shared->Prop} {s:Shared} {scope:Scope} {gl:Addr} {ps:List Str} {us:List Value} {qual:Str} {fn:Option Addr} {code:Value} {bl:Addr} {Q:Env->Shared->Prop}
  (hk:scope.kind=.function) (hkind:∀ x∈ps.zip us,scope.names.lookup x.1=some .local\/(scope.names.lookup x.1=some .cell/\((cellsFrom (s.heap.objs.size+1) scope.names []).lookup x.1).isSome=true))
  (hl:us.length=ps.length) (hp:0<s.toks\/∃ x,ps=[x]/\scope.names.lookup x=some .local)
  (hQ:∀ env,env=newEnv scope s.heap.objs.size gl (cellsFrom (s.heap.objs.size+1) scope.names []) qual fn code none bl ->
   ∀ s',InCallC s env.locals (bindL env.kindOf (ps.zip us) fun _=>none) env.cells (bindC env.kindOf (ps.zip us) fun _=>none) s'->0<s'.toks->Q env s') :
  wpAny M A (newFunctionEnv scope gl [] (ps.zip us) qual fn code none bl) Q E s:=by
 rcases hp with hp|⟨x,rfl,hx⟩
 .exact wB hp (wpAny_newFunctionEnv_cells hk hkind hQ)
 .cases us with
  |nil=>cases hl
  |cons u r =>
   cases r with
   |nil=>exact zci hk hx hQ
   |cons _ _=>cases hl
end L2
namespace L2
open PySem PySem.Spec PyProof.Rows
abbrev yC:=Sum Int Str
def dI:yC->Value->Bool
 | .inl k,v=>Value.isInt k v
 | .inr x,v=>Value.isStrOf x v
def keyH (w:World):yC->Int
 | .inl k=>hashInt k
 | .inr x=>hashStr w x
theorem xZ:∀ {k:yC} {v:Value},dI k v=true->(∃ i t,k=Sum.inl i/\v=Value.int i t)\/(∃ x t,k=Sum.inr x/\v=Value.str x t)
 | .inl i,v,h=>by
  obtain ⟨t,e⟩:=Value.isInt_shape (k:=i) (v:=v) h;exact .inl ⟨i,t,rfl,e⟩
 | .inr x,v,h=>by
  obtain ⟨t,e⟩:=Value.isStrOf_shape (x:=x) (v:=v) h;exact .inr ⟨x,t,rfl,e⟩
theorem zdz (i:Int) (t:Tok):dI (.inl i) (.int i t)=true:=by simp [dI,Value.isInt]
theorem zdx (x:Str) (t:Tok):dI (.inr x) (.str x t)=true:=by simp [dI,Value.isStrOf]
theorem zkf (a b:Int):decide ((Sum.inl a:yC)=Sum.inl b)=(a==b):=by
 by_cases e:a=b
 .subst e;simp
 .have h:¬ (Sum.inl a:yC)=Sum.inl b:=fun q=>e (Sum.inl.inj q);rw [decide_eq_false h];exact (beq_eq_false_iff_ne.mpr e).symm
theorem zkc (a b:Str):decide ((Sum.inr a:yC)=Sum.inr b)=decide (a=b):=by
 by_cases e:a=b
 .subst e;simp
 .have h:¬ (Sum.inr a:yC)=Sum.inr b:=fun q=>e (Sum.inr.inj q);rw [decide_eq_false h,decide_eq_false e]
theorem zke (a:Int) (b:Str):decide ((Sum.inl a:yC)=Sum.inr b)=false:=decide_eq_false (fun q=>nomatch q)
theorem zkd (a:Str) (b:Int):decide ((Sum.inr a:yC)=Sum.inl b)=false:=decide_eq_false (fun q=>nomatch q)
def xR (prog:Program) (w:World):PySem.KeyKind prog w yC where
 is:=dI
 hash:=keyH w
 inj:=fun v a b ha hb=>by
  rcases xZ ha with ⟨i,t,rfl,rfl⟩|⟨x,t,rfl,rfl⟩
  .rcases xZ hb with ⟨j,u,rfl,e⟩|⟨y,u,rfl,e⟩
   .injection e with e1 _;rw [e1]
   .exact nomatch e
  .rcases xZ hb with ⟨j,u,rfl,e⟩|⟨y,u,rfl,e⟩
   .exact nomatch e
   .injection e with e1 _;rw [e1]
 byValue:=fun k v h=>by
  rcases xZ h with ⟨i,t,rfl,rfl⟩|⟨x,t,rfl,rfl⟩<;>rfl
 pyHash:=fun hv h=>by
  rcases xZ hv with ⟨i,t,rfl,rfl⟩|⟨x,t,rfl,rfl⟩
  .exact wpAny_pyHash_int h
  .exact wpAny_pyHash_str h
 eqBool:=fun hu hv h=>by
  rcases xZ hu with ⟨i,t,rfl,rfl⟩|⟨x,t,rfl,rfl⟩
  .rcases xZ hv with ⟨j,u,rfl,rfl⟩|⟨y,u,rfl,rfl⟩
   .rw [zkf] at h;exact wpAny_eqBool_int h
   .rw [zke] at h;exact SeqAt.EqAt.int_str i t y u _ _ _ _ h
  .rcases xZ hv with ⟨j,u,rfl,rfl⟩|⟨y,u,rfl,rfl⟩
   .rw [zkd] at h;exact SeqAt.EqAt.str_int x t j u _ _ _ _ h
   .rw [zkc] at h;exact wpAny_eqBool_str h
 «strs»:=fun k x t v h=>by
  rcases xZ h with ⟨i,u,rfl,e⟩|⟨y,u,rfl,e⟩
  .exact nomatch e
  .injection e with e1 _
   subst e1;cases v<;>rfl
theorem za7 (prog:Program) (w:World) (i:Int) (t:Tok):(xR prog w).is (.inl i) (.int i t)=true:=zdz i t
theorem za6 (prog:Program) (w:World) (x:Str) (t:Tok):(xR prog w).is (.inr x) (.str x t)=true:=zdx x t
end L2
namespace L2
open PySem PySem.Spec PyProof.Rows
inductive V where
 |non|bl (b:Bool)|int (i:Int)|str (x:Str)|byt (b:Array UInt8)|flt (b:UInt64)|ref (a:Addr)|ty (n:String)
 deriving DecidableEq
def zA:V->Value->Prop
 | .non,u=>u=Value.none
 | .bl b,u=>u=Value.bool b
 | .int i,u=>∃ t,u=Value.int i t
 | .str x,u=>∃ t,u=Value.str x t
 | .byt b,u=>∃ t,u=Value.bytes b t
 | .flt b,u=>∃ t,u=Value.float b t
 | .ref a,u=>u=Value.ref a
 | .ty n,u=>u=Value.type n
abbrev zE:List V->List Value->Prop:=Paired zA
theorem zE.length {xs:List V} {us:List Value} (r:zE xs us):xs.length=us.length:=Paired.length r
theorem zE.get:∀ {xs:List V} {us:List Value} {i:Nat} {x:V},zE xs us->xs[i]?=some x->∃ u,us[i]?=some u/\zA x u
 |_,_,_,_,.nil,e=>by simp at e
 |_,_,0,_,.cons r _,e=>by simp at e;subst e;exact ⟨_,rfl,r⟩
 |_,_,i+1,x,.cons _ t,e=>by
  obtain ⟨u,h1,h2⟩:=zE.get (i:=i) (x:=x) t (by simpa using e);exact ⟨u,by simpa using h1,h2⟩
theorem zE.set {x:V} {u:Value} (r:zA x u):∀ {xs:List V} {us:List Value} (i:Nat),zE xs us->zE (xs.set i x) (us.set i u)
 |_,_,_,.nil=>.nil
 |_,_,0,.cons _ t=>.cons r t
 |_,_,i+1,.cons q t=>.cons q (zE.set r i t)
theorem zE.append:∀ {xs ys:List V} {us ws:List Value},zE xs us->zE ys ws->zE (xs++ys) (us++ws)
 |_,_,_,_,.nil,s=>s
 |_,_,_,_,.cons r t,s=>.cons r (zE.append t s)
theorem zE.take:∀ {xs:List V} {us:List Value} (n:Nat),zE xs us->zE (xs.take n) (us.take n)
 |_,_,0,_=>.nil
 |_,_,_+1,.nil=>.nil
 |_,_,n+1,.cons r t=>.cons r (zE.take n t)
theorem zE.drop:∀ {xs:List V} {us:List Value} (n:Nat),zE xs us->zE (xs.drop n) (us.drop n)
 |_,_,0,r=>r
 |_,_,_+1,.nil=>.nil
 |_,_,n+1,.cons _ t=>zE.drop n t
theorem zE.none_of:∀ {xs:List V} {us:List Value} {i:Nat},zE xs us->xs[i]?=none->us[i]?=none:=fun {xs us i} r e=>by
 have h1:=r.length;have h2:xs.length<=i:=List.getElem?_eq_none_iff.mp e;exact List.getElem?_eq_none_iff.mpr (by omega)
def nC:Option V->Option Value->Prop
 |some v,some u=>zA v u
 |none,none=>True
 |_,_=>False
def KV {κ:Type}:List (κ×V)->List (κ×Value)->Prop:=Paired fun (p:κ×V) (q:κ×Value)=>p.1=q.1/\zA p.2 q.2
def kV:yC->V
 | .inl i=>.int i
 | .inr x=>.str x
inductive HO where
  |lst (xs:List V)
  |tup (xs:List V)
  |dK (kvs:List (yC×V))|dT (kvs:List (List yC×V))
  |set (S:Int->Bool) (n:Nat)
  |ins (C dx:Addr) (fs:List (Str×V))
  |own (x:Addr)
  |xd (fs:List (Str×V))
  |met (f x:Addr)
  |rng (lo hi:Int)
  |frz (o:Obj) (u:HO)
  |tbl (ps:Array Value)
  |ext (φ:Heap->Prop)
abbrev Hp:=Addr->Option HO
def xL (H:Hp) (a:Addr) (o:HO):Hp:=fun b=>if b=a then some o else H b
theorem wY {H:Hp} {a:Addr} {o:HO}:xL H a o a=some o:=by unfold xL;rw [if_pos rfl]
theorem zB {H:Hp} {a b:Addr} {o:HO} (h:b≠a):xL H a o b=H b:=by unfold xL;rw [if_neg h]
theorem ne_of {H:Hp} {a b:Addr} {o u:HO} (h:H a=some o) (h':H b=some u) (d:o≠u):a≠b:=by
 intro e;subst e;rw [h] at h';exact d (Option.some.inj h')
theorem yN {H:Hp} {a b:Addr} {o:HO} (h:H a=some o) (h':H b=none):a≠b:=by
 intro e;subst e;rw [h] at h';cases h'
section
variable (P : Program) (w : World)
def xU (H:Hp) (h:Heap) (a:Addr):HO->Prop
 | .lst xs=>xs.length<=sizeLine/\∃ (its:List Value) (n:Nat),zE xs its/\h.get? a=some { cls:=.type "list", data:=.seq its.toArray n }
 | .tup xs=>xs.length<=sizeLine/\∃ its:List Value,zE xs its/\IsTup h a its.toArray
 | .dK kvs=>kvs.length<=sizeLine/\(a==sysModules)=false/\∃ vs,KV kvs vs/\h.DictOf (xR P w) a vs
 | .dT kvs=>kvs.length<=sizeLine/\(a==sysModules)=false/\∃ xs:List (List yC×Addr×Value),
   Paired (fun (p:List yC×V) (q:List yC×Addr×Value)=>p.1=q.1/\H q.2.1=some (.tup (p.1.map kV))/\zA p.2 q.2.2) kvs xs /\
   ∃ o es ep,h.get? a=some o/\o.ExactDict/\o.data=.dict es ep/\es.toList=xs.map (entryOfKey (tupleKind (xR P w)))/\(xs.map (·.1)).Nodup
 | .set S n=>h.SetOf (intKind P w) a S n
 | .ins C dx fs=>H dx=some (.own a)/\fs.length<=1000/\dx≠a/\h.get? a=some (PySem.W.instObj C dx) /\
   ∃ mA,h.Ns1 dx mA/\(∀ f,nC (fs.lookup f) (mA f))/\PySem.Within mA (fs.map (·.1))
 | .own _=>∃ o,h.get? a=some o
 | .xd fs=>∃ mA,h.Ns1 a mA/\∀ f,nC (fs.lookup f) (mA f)
 | .rng lo hi=>∃ t u v,h.get? a=some { cls:=.type "range", data:=.fields #[.int lo t,.int hi u,.int 1 v] }
 | .frz o u=>h.get? a=some o/\xU H h a u
 | .tbl ps=>h.get? a=some { cls:=.none,data:=.fields ps }
 | .met f x=>h.get? a=some (PySem.W.methodObj (.ref f) (.ref x))
 | .ext φ=>φ h/\(∃ o,h.get? a=some o)/\∀ h1 h2:Heap,φ h1->(∀ o,h1.get? a=some o->h2.get? a=some o)->φ h2
def sR (H:Hp) (h:Heap):Prop:=∀ a o,H a=some o->xU P w H h a o
end
section
variable {P : Program} {w : World} {H H' : Hp} {h h' : Heap} {a : Addr} {o : HO}
theorem xU.lt (x:xU P w H h a o):a<h.objs.size:=by
 cases o with
 |lst xs=>obtain ⟨_,_,_,_,e⟩:=x;exact Heap.lt_size e
 |tup xs=>obtain ⟨_,_,_,p⟩:=x;exact p.lt
 |dK kvs=>obtain ⟨_,_,_,_,o,_,_,e,_⟩:=x;exact Heap.lt_size e
 |dT kvs=>obtain ⟨_,_,_,_,o,_,_,e,_⟩:=x;exact Heap.lt_size e
 |set S n=>obtain ⟨o,_,_,_,e,_⟩:=x;exact Heap.lt_size e
 |ins C dx fs=>obtain ⟨_,_,_,e,_⟩:=x;exact Heap.lt_size e
 |own y=>obtain ⟨_,e⟩:=x;exact Heap.lt_size e
 |xd fs=>obtain ⟨_,⟨_,_,_,e,_⟩,_⟩:=x;exact Heap.lt_size e
 |rng lo hi=>obtain ⟨_,_,_,e⟩:=x;exact Heap.lt_size e
 |frz ob u=>obtain ⟨e,_⟩:=x;exact Heap.lt_size e
 |tbl ps=>exact Heap.lt_size (show h.get? a=some _ from x)
 |met f y=>exact Heap.lt_size (show h.get? a=some _ from x)
 |ext φ=>obtain ⟨_,⟨_,e⟩,_⟩:=x;exact Heap.lt_size e
theorem Paired.mapP {α β:Type} {F G:α->β->Prop}:∀ {l₁:List α} {l₂:List β},Paired F l₁ l₂->(∀ a b,F a b->G a b)->Paired G l₁ l₂
 |_,_,.nil,_=>.nil
 |_,_,.cons r t,f=>.cons (f _ _ r) (Paired.mapP t f)
theorem xU.stay (x:xU P w H h a o) (k:∀ b u,(b=a\/H b=some (.own a))->h.get? b=some u->h'.get? b=some u)
  (ho:∀ b,H b=some (.own a)->H' b=some (.own a)) (ht:∀ b xs,H b=some (.tup xs)->H' b=some (.tup xs)):xU P w H' h' a o:=by
 induction o with
 |lst xs=>obtain ⟨z,its,n,r,e⟩:=x;exact ⟨z,its,n,r,k _ _ (.inl rfl) e⟩
 |tup xs=>obtain ⟨z,its,r,ob,e,c⟩:=x;exact ⟨z,its,r,ob,k _ _ (.inl rfl) e,c⟩
 |dK kvs=>obtain ⟨z,y,vs,r,ob,es,ep,e,c⟩:=x;exact ⟨z,y,vs,r,ob,es,ep,k _ _ (.inl rfl) e,c⟩
 |dT kvs =>
  obtain ⟨z,y,xs,r,ob,es,ep,e,c⟩:=x;exact ⟨z,y,xs,Paired.mapP r fun p q z=>⟨z.1,ht _ _ z.2.1,z.2.2⟩,ob,es,ep,k _ _ (.inl rfl) e,c⟩
 |set S n=>obtain ⟨ob,es,ep,t,e,c⟩:=x;exact ⟨ob,es,ep,t,k _ _ (.inl rfl) e,c⟩
 |ins C dx fs =>
  obtain ⟨d,z,ne,e,mA,⟨od,es,ep,e2,c⟩,r⟩:=x;exact ⟨ho _ d,z,ne,k _ _ (.inl rfl) e,mA,⟨od,es,ep,k _ _ (.inr d) e2,c⟩,r⟩
 |own y=>obtain ⟨ob,e⟩:=x;exact ⟨ob,k _ _ (.inl rfl) e⟩
 |xd fs=>obtain ⟨mA,⟨od,es,ep,e,c⟩,r⟩:=x;exact ⟨mA,⟨od,es,ep,k _ _ (.inl rfl) e,c⟩,r⟩
 |rng lo hi=>obtain ⟨t,u,v,e⟩:=x;exact ⟨t,u,v,k _ _ (.inl rfl) e⟩
 |frz ob u ih=>obtain ⟨e,q⟩:=x;exact ⟨k _ _ (.inl rfl) e,ih q⟩
 |tbl ps =>
  have e:h.get? a=some { cls:=.none,data:=.fields ps }:=x;show h'.get? a=some { cls:=.none,data:=.fields ps };exact k a _ (.inl rfl) e
 |met f y =>
  have e:h.get? a=some (PySem.W.methodObj (.ref f) (.ref y)):=x;show h'.get? a=some (PySem.W.methodObj (.ref f) (.ref y));exact k a _ (.inl rfl) e
 |ext φ=>obtain ⟨p,⟨o,e⟩,st⟩:=x;exact ⟨st _ _ p fun o q=>k _ _ (.inl rfl) q,⟨o,k _ _ (.inl rfl) e⟩,st⟩
theorem sR.lt (x:sR P w H h) (e:H a=some o):a<h.objs.size:=(x a o e).lt
theorem sR.fresh (x:sR P w H h) (e:h.objs.size<=a):H a=none:=by
 cases q:H a with
 |none=>rfl
 |some u=>exact absurd (Nat.lt_of_lt_of_le (x.lt q) e) (Nat.lt_irrefl _)
theorem sR.kept (x:sR P w H h) (k:∀ b u,h.get? b=some u->h'.get? b=some u):sR P w H h':=fun a o e =>
 (x a o e).stay (fun b u _ q=>k b u q) (fun _ q=>q) fun _ _ q=>q
theorem sR.laid (x:sR P w H h) (k:∀ b u,h.get? b=some u->h'.get? b=some u) (hp:h.objs.size<=a) (new:xU P w (xL H a o) h' a o):sR P w (xL H a o) h':=fun b u e=>by
 have hn:=x.fresh hp
 by_cases hb:b=a
 .subst hb;rw [wY] at e;cases e;exact new
 .rw [zB hb] at e;exact (x b u e).stay (fun c v _ q=>k c v q) (fun c q=>by rw [zB (yN q hn)];exact q) fun c xs q=>by rw [zB (yN q hn)];exact q
end
def Rd (H:Hp) (a:Addr) (u:HO):Prop:=H a=some u\/∃ o,H a=some (.frz o u)
theorem Rd.ok {P:Program} {w:World} {H:Hp} {h:Heap} {a:Addr} {u:HO} (r:Rd H a u) (x:sR P w H h):xU P w H h a u:=by
 rcases r with r|⟨o,r⟩
 .exact x a u r
 .obtain ⟨_,q⟩:=x a _ r;exact q
def Mut:Option HO->Prop
 |some (.lst _)=>True
 |some (.dK _)=>True
 |some (.dT _)=>True
 |some (.set _ _)=>True
 |some (.ins _ _ _)=>True
 |some (.ext _)=>True
 |_=>False
section
variable {P : Program} {w : World} {H : Hp} {h h' : Heap} {x e : Addr} {o' : HO}
theorem sR.write (ok:sR P w H h) (mu:Mut (H x)) (he:e=x\/H e=some (.own x)) (k:∀ b u,b≠e->h.get? b=some u->h'.get? b=some u) (heo:∃ u,h'.get? e=some u)
  (new:xU P w (xL H x o') h' x o'):sR P w (xL H x o') h':=fun b u q=>by
 have nown:∀ c y,H c=some (.own y)->c≠x:=fun c y r z=>by subst z;rw [r] at mu;exact mu
 have ntup:∀ c xs,H c=some (.tup xs)->c≠x:=fun c xs r z=>by subst z;rw [r] at mu;exact mu
 by_cases hb:b=x
 .subst hb;rw [wY] at q;cases q;exact new
 .rw [zB hb] at q
  by_cases hbe:b=e
  .have q':H b=some (.own x):=by
    rcases he with z|z
    .exact absurd (hbe.trans z) hb
    .rw [hbe];exact z
   rw [q] at q';cases q';obtain ⟨v,hv⟩:=heo;exact ⟨v,by rw [hbe];exact hv⟩
  .refine (ok b u q).stay (fun c v hc r=>k c v ?_ r) (fun c r=>by rw [zB (nown c b r)];exact r) fun c xs r=>by rw [zB (ntup c xs r)];exact r
   rcases hc with rfl|hc
   .exact hbe
   .rintro rfl;rcases he with z|z
    .exact nown c b hc z
    .rw [hc] at z;cases z;exact hb rfl
end
structure Un (fs ex:List Addr) (H H':Hp) (h h':Heap):Prop where
 keep:∀ b o,h.get? b=some o->H b=none->b∉fs->b∉ex->h'.get? b=some o
 slot:∀ b o,h.get? b=some o->H b=none->b∈fs->b∉ex->∃ sl,h'.get? b=some { o with slots:=sl }
 free:∀ b o,h.get? b=some o->H b=none->b∉ex->H' b=none
 there:∀ b o,h.get? b=some o->b∉ex->∃ o',h'.get? b=some o'
 tups:∀ b xs,H b=some (.tup xs)->H' b=some (.tup xs)
 frzs:∀ b o u,H b=some (.frz o u)->H' b=some (.frz o u)
 tbls:∀ b ps,H b=some (.tbl ps)->∃ wO,H' b=some (.tbl (ps++wO))
section
variable {fs fs' ex ex' : List Addr} {H H1 H2 : Hp} {h h1 h2 h' : Heap} {a x e : Addr} {o : HO}
theorem Un.any (u:Un fs ex H H1 h h1) {b:Addr} {ob:Obj} (q:h.get? b=some ob) (n:H b=none) (hx:b∉ex):∃ sl,h1.get? b=some { ob with slots:=sl }:=by
 by_cases hb:b∈fs
 .exact u.slot b ob q n hb hx
 .exact ⟨ob.slots,u.keep b ob q n hb hx⟩
theorem Un.kept (k:∀ b u,h.get? b=some u->h'.get? b=some u):Un fs ex H H h h' :=
 ⟨fun b ob q _ _ _=>k b ob q,fun b ob q _ _ _=>⟨ob.slots,k b ob q⟩,fun _ _ _ n _=>n,fun b ob q _=>⟨ob,k b ob q⟩,fun _ _ q=>q,fun _ _ _ q=>q,fun _ ps q=>⟨#[],by rw [q];simp⟩⟩
theorem Un.refl:Un fs ex H H h h:=Un.kept fun _ _ q=>q
theorem Un.laid (k:∀ b u,h.get? b=some u->h'.get? b=some u) (hp:h.objs.size<=a) (hn:H a=none):Un fs ex H (xL H a o) h h' where
 keep:=fun b u q _ _ _=>k b u q
 slot:=fun b u q _ _ _=>⟨u.slots,k b u q⟩
 free:=fun b u q n _=>by rw [zB (Nat.ne_of_lt (Nat.lt_of_lt_of_le (Heap.lt_size q) hp))];exact n
 there:=fun b u q _=>⟨u,k b u q⟩
 tups:=fun b xs q=>by rw [zB (yN q hn)];exact q
 frzs:=fun b u xs q=>by rw [zB (yN q hn)];exact q
 tbls:=fun b ps q=>⟨#[],by rw [zB (yN q hn),q];simp⟩
theorem Un.write (mu:Mut (H x)) (he:e=x\/H e=some (.own x)) (k:∀ b u,b≠e->h.get? b=some u->h'.get? b=some u) (heo:∃ u,h'.get? e=some u):Un fs ex H (xL H x o) h h':=by
 have hx:∀ b,H b=none->b≠x:=fun b n z=>by subst z;rw [n] at mu;exact mu
 have hb:∀ b,H b=none->b≠e:=fun b n z=>by
  subst z;rcases he with r|r
  .exact hx b n r
  .rw [n] at r;cases r
 have hm:∀ b u,H b=some u->¬ Mut (some u)->b≠x:=fun b u q nm z=>by subst z;rw [q] at mu;exact nm mu
 refine ⟨fun b u q n _ _=>k b u (hb b n) q,fun b u q n _ _=>⟨u.slots,k b u (hb b n) q⟩,fun b u q n _=>by rw [zB (hx b n)];exact n,fun b u q _=>?_,
  fun b xs q=>by rw [zB (hm b _ q fun z=>z)];exact q,fun b u xs q=>by rw [zB (hm b _ q fun z=>z)];exact q,fun b ps q=>⟨#[],by rw [zB (hm b _ q fun z=>z),q];simp⟩⟩
 by_cases hbe:b=e
 .subst hbe;exact heo
 .exact ⟨u,k b u hbe q⟩
end
def trk (h:Heap) (H:Hp):List Addr:=(List.range h.objs.size).filter fun a=>(H a).isSome
def hidT (h:Heap) (H:Hp):Heap:=PySem.W.hideAll h (trk h H)
theorem zdF (h:Heap) (H:Hp):(hidT h H).objs.size=h.objs.size:=PySem.W.hideAll_size _ _
theorem zfw {h:Heap} {H:Hp} {b:Addr} {o:Obj} (e:h.get? b=some o) (n:H b=none):(hidT h H).get? b=some o :=
 PySem.W.hideAll_get _ e fun hm=>by
  have q:(H b).isSome=true:=(List.mem_filter.mp hm).2;rw [n] at q;simp at q
theorem zhu {h:Heap} {H:Hp} {b:Addr} {o:Obj} (e:(hidT h H).get? b=some o):h.get? b=some o/\H b=none:=by
 have e':h.get? b=some o:=PySem.W.of_hideAll (trk h H) e;refine ⟨e',?_⟩
 cases q:H b with
 |none=>rfl
 |some x =>
  have hm:b∈trk h H:=List.mem_filter.mpr ⟨List.mem_range.mpr (Heap.lt_size e'),by simp [q]⟩;have z:(hidT h H).get? b=none:=PySem.W.hideAll_none (trk h H) hm;rw [z] at e;cases e
def zix (g h:Heap) (L:Addr):List (Addr×Obj):=(List.range h.objs.size).filterMap fun a=>if a=L\/(g.get? a).isSome=true then none else (h.get? a).map fun o=>(a,o)
def rest (g h:Heap) (L d:Addr):List (Addr×Obj):=(zix g h L).filter fun p=>decide (p.1≠d)
end L2
namespace L2
open PySem PySem.Spec PyProof.Rows
structure Mod (K:PySem.W.Frag) (mg:Str->Option Value) (base:Heap):Prop where
 kin:K.In base
 glob:base.Ns mainGlobals mg
 blt:∃ mb,base.Ns builtinsNs mb/\∀ x:Str,x ≠ "__name__" -> mb x=bootBuiltins x
 nolimit:base.NoLimit
structure Cx where
 prog:Program
 w:World
 K:PySem.W.Frag
 mg:Str->Option Value
 base:Heap
 A:Around
 N:List Str
 s₀:Shared
 H₀:Hp
 env:Env
 outer:List Env
 stack:List Env
 ex:List Addr
 fn:Str->Bool
 calm:Bool
 pn:List (Addr×Obj)
 xe:Value->Shared->Prop
def frs (l:List Env):List Addr:=l.filterMap (·.frame)
abbrev Cx.fs (X:Cx):List Addr:=frs X.outer
def Vis (sc:Scope) (x:Str):Prop:=sc.names.lookup x=some .local\/sc.names.lookup x=some .cell\/sc.names.lookup x=some .free
def Loc (sc:Scope) (x:Str):Prop:=sc.names.lookup x=some .local\/sc.names.lookup x=some .cell
def Look (env:Env) (h:Heap) (m:Str->Option Value) (x:Str) (u:Value):Prop :=
 (env.kindOf x=some .local/\m x=some u)\/((env.kindOf x=some .cell\/env.kindOf x=some .free)/\∃ c,env.cells.lookup x=some c/\h.IsCell c (some u))
structure Cx.Ok (X:Cx):Prop where
 mod:Mod X.K X.mg X.base
 kind:X.env.scope.kind=.function
 glob:X.env.globals=mainGlobals
 blt:X.env.builtins=builtinsNs
 above:X.s₀.heap.objs.size<=X.env.locals
 inj:∀ x y c,X.env.cells.lookup x=some c->X.env.cells.lookup y=some c->x=y
 has:∀ x,(X.env.kindOf x=some .cell\/X.env.kindOf x=some .free)->∃ c,X.env.cells.lookup x=some c
 cab:∀ x c,X.fn x=true->X.env.cells.lookup x=some c->X.s₀.heap.objs.size<=c
 hd:X.calm=true->X.A.handled=none
 frames:X.A.frames=some X.stack
 stk:X.stack=X.outer\/(X.stack=X.env::X.outer/\X.env.frame=some X.env.locals)
 exf:∀ b∈X.ex,b≠X.env.locals/\∀ x c,X.env.cells.lookup x=some c->c≠b
 bs:∀ b o,X.base.get? b=some o->X.s₀.heap.get? b=some o/\X.H₀ b=none
 bsz:X.base.objs.size<=X.s₀.heap.objs.size
 noex:∀ b o,X.base.get? b=some o->b∉X.ex
 exfs:∀ b∈X.ex,b∉X.fs
 funs:X.s₀.heap.FunFrames X.base X.outer
 frf:∀ b∈X.fs,X.H₀ b=none
structure Inv (X:Cx) (pins:List (Addr×Obj)) (σ:List (Option V)) (H:Hp) (s:Shared):Prop where
 ok:X.Ok
 os:s.os=X.s₀.os
 bare:AllBare s.gens
 base:Un X.fs X.ex X.H₀ H X.s₀.heap s.heap
 loc:∃ m,s.heap.Ns X.env.locals m/\∀ (i:Nat) (x:Str) (v:V),X.N[i]?=some x->σ[i]?=some (some v)->Vis X.env.scope x->∃ u,zA v u/\Look X.env s.heap m x u
 cell:∀ x c,X.env.cells.lookup x=some c->∃ v,s.heap.IsCell c v
 free:H X.env.locals=none
 freeC:∀ x c,X.env.cells.lookup x=some c->H c=none
 pin:∀ p∈X.pn++pins,s.heap.get? p.1=some p.2/\H p.1=none/\p.1≠X.env.locals/\p.1∉X.fs/\∀ v,p.2.data≠.cell v
 hok:sR X.prog X.w H s.heap
 len:σ.length=X.N.length
 tk:0<s.toks
section
variable {X : Cx} {pins : List (Addr × Obj)} {σ : List (Option V)} {H H' : Hp} {s : Shared} {h' : Heap}
theorem Cx.Ok.nofr (ok:X.Ok) {b:Addr} {o:Obj} (e:X.base.get? b=some o):b∉X.fs:=fun hb=>by
 have:=(ok.funs.mem hb).1;rw [e] at this;cases this
theorem Inv.bs (I:Inv X pins σ H s):∀ b o,X.base.get? b=some o->s.heap.get? b=some o/\H b=none:=fun b o e =>
 ⟨I.base.keep b o (I.ok.bs b o e).1 (I.ok.bs b o e).2 (I.ok.nofr e) (I.ok.noex b o e),I.base.free b o (I.ok.bs b o e).1 (I.ok.bs b o e).2 (I.ok.noex b o e)⟩
theorem Inv.bk (I:Inv X pins σ H s):∀ b o,X.base.get? b=some o->s.heap.get? b=some o:=fun b o e=>(I.bs b o e).1
theorem Inv.mod (I:Inv X pins σ H s):Mod X.K X.mg X.base:=I.ok.mod
theorem Inv.kIn (I:Inv X pins σ H s):X.K.In s.heap:=I.ok.mod.kin.keeps I.bk
theorem Inv.lt (I:Inv X pins σ H s):X.env.locals<s.heap.objs.size:=let ⟨_,hn,_⟩:=I.loc;hn.lt
theorem Inv.sz (I:Inv X pins σ H s):X.s₀.heap.objs.size<=s.heap.objs.size:=Nat.le_trans I.ok.above (Nat.le_of_lt I.lt)
theorem Inv.nofs (I:Inv X pins σ H s) {a:Addr} (h:s.heap.objs.size<=a):a∉X.fs:=fun hb=>by
 obtain ⟨_,o,ho,_⟩:=I.ok.funs.mem hb;exact absurd (Nat.lt_of_lt_of_le (Heap.lt_size ho) (Nat.le_trans I.sz h)) (Nat.lt_irrefl _)
theorem Inv.cne (I:Inv X pins σ H s):∀ x c,X.env.cells.lookup x=some c->c≠X.env.locals:=fun x c e z=>by
 obtain ⟨v,o,ho,hd⟩:=I.cell x c e;obtain ⟨m,⟨o',es,ep,ho',hd',_⟩,_⟩:=I.loc;rw [z,ho'] at ho;cases ho;rw [hd'] at hd;cases hd
theorem Inv.funs (I:Inv X pins σ H s):s.heap.FunFrames X.base X.outer:=by
 have all:∀ (l:List Env),(∀ b∈frs l,b∈X.fs)->X.s₀.heap.FunFrames X.base l->s.heap.FunFrames X.base l:=by
  intro l
  induction l with
  |nil=>intro _ _;trivial
  |cons env r ih =>
   intro hs hl;obtain ⟨hk,⟨L,o,hf,hn,ho,hd⟩,hr⟩:=hl;have hL:L∈X.fs:=hs L (by unfold frs;rw [List.filterMap_cons,hf];exact zzT);obtain ⟨sl,e⟩:=I.base.slot L o ho (I.ok.frf L hL) hL fun z=>I.ok.exfs L z hL;exact ⟨hk,⟨L,_,hf,hn,e,hd⟩,ih (fun b hb=>hs b (by unfold frs;rw [List.filterMap_cons,hf];exact List.mem_cons_of_mem _ hb)) hr⟩
 exact all X.outer (fun _ hb=>hb) I.ok.funs
theorem Inv.stack (I:Inv X pins σ H s):s.heap.FunFrames X.base X.stack:=by
 rcases I.ok.stk with e|⟨e,hf⟩
 .rw [e];exact I.funs
 .rw [e];obtain ⟨m,hn,_⟩:=I.loc;refine .cons (by rw [I.ok.kind];decide) hf hn ?_ I.funs;exact Heap.get?_none_of_le (Nat.le_trans I.ok.bsz I.ok.above)
theorem Inv.stkSub (I:Inv X pins σ H s):∀ b∈frs X.stack,b∈X.env.locals::X.fs:=fun b hb=>by
 rcases I.ok.stk with e|⟨e,hf⟩
 .rw [e] at hb;exact List.mem_cons_of_mem _ hb
 .rw [e] at hb;unfold frs at hb;rw [List.filterMap_cons,hf] at hb;exact hb
theorem Inv.stkFree (I:Inv X pins σ H s):∀ b∈frs X.stack,H b=none:=fun b hb=>by
 rcases List.mem_cons.mp (I.stkSub b hb) with e|hb
 .rw [e];exact I.free
 .obtain ⟨_,o,ho,_⟩:=I.ok.funs.mem hb;exact I.base.free b o ho (I.ok.frf b hb) fun z=>I.ok.exfs b z hb
theorem Inv.step {g':Array GenState} {t':Nat} {d':Drawn} {ch:List Addr} (I:Inv X pins σ H s)
  (hch:∀ b∈ch,(b∈X.ex\/X.s₀.heap.objs.size<=b)/\b≠X.env.locals/\(∀ x c,X.env.cells.lookup x=some c->c≠b)/\∀ p∈X.pn++pins,p.1≠b)
  (keep:∀ b o,b≠X.env.locals->b∉X.fs->b∉ch->s.heap.get? b=some o->H b=none->h'.get? b=some o)
  (slot:∀ b o,b≠X.env.locals->b∈X.fs->b∉ch->s.heap.get? b=some o->H b=none->∃ sl,h'.get? b=some { o with slots:=sl }) (free:∀ b o,b∉ch->s.heap.get? b=some o->H b=none->H' b=none)
  (there:∀ b o,b∉ch->s.heap.get? b=some o->∃ o',h'.get? b=some o')
  (tups:∀ b xs,H b=some (.tup xs)->H' b=some (.tup xs)) (frzs:∀ b o u,H b=some (.frz o u)->H' b=some (.frz o u)) (tbls:∀ b ps,H b=some (.tbl ps)->∃ wO,H' b=some (.tbl (ps++wO)))
  (ns:∀ m,s.heap.Ns X.env.locals m->h'.Ns X.env.locals m) (hok:sR X.prog X.w H' h') (hg:AllBare g') (ht:0<t':=by first|exact Nat.succ_pos _|exact L2.Inv.tk (by assumption)|exact L2.Inv.tk ‹L2.Inv _ _ _ _ _› | assumption|omega) :
  Inv X pins σ H' { s with heap:=h',gens:=g',drawn:=d',toks:=t' }:=by
 have neL:∀ b o,X.s₀.heap.get? b=some o->b≠X.env.locals:=fun b o e=>Nat.ne_of_lt (Nat.lt_of_lt_of_le (Heap.lt_size e) I.ok.above)
 have neC:∀ b o,X.s₀.heap.get? b=some o->b∉X.ex->b∉ch:=fun b o e hx hb=>by
  rcases (hch b hb).1 with z|z
  .exact hx z
  .exact absurd (Nat.lt_of_lt_of_le (Heap.lt_size e) z) (Nat.lt_irrefl _)
 have cellK:∀ x c,X.env.cells.lookup x=some c->∀ v,s.heap.IsCell c v->h'.IsCell c v:=fun x c e v ⟨o,ho,hd⟩=>by
  have nch:c∉ch:=fun z=>(hch c z).2.2.1 x c e rfl
  by_cases hc:c∈X.fs
  .obtain ⟨sl,q⟩:=slot c o (I.cne x c e) hc nch ho (I.freeC x c e);exact ⟨_,q,hd⟩
  .exact ⟨o,keep c o (I.cne x c e) hc nch ho (I.freeC x c e),hd⟩
 refine ⟨I.ok,I.os,hg,⟨fun b o e n hb hx=>?_,fun b o e n hb hx=>?_,fun b o e n hx=>?_,fun b o e hx=>?_,fun b xs e=>tups b xs (I.base.tups b xs e),fun b o xs e=>frzs b o xs (I.base.frzs b o xs e),fun b ps e=>?_⟩,?_,fun x c e=>?_,?_,fun x c e=>?_,fun p hp=>?_,hok,I.len,ht⟩
 .exact keep b o (neL b o e) hb (neC b o e hx) (I.base.keep b o e n hb hx) (I.base.free b o e n hx)
 .obtain ⟨sl,e1⟩:=I.base.slot b o e n hb hx;obtain ⟨sl',e2⟩:=slot b _ (neL b o e) hb (neC b o e hx) e1 (I.base.free b o e n hx);exact ⟨sl',e2⟩
 .obtain ⟨o',e1⟩:=I.base.there b o e hx;exact free b o' (neC b o e hx) e1 (I.base.free b o e n hx)
 .obtain ⟨o',e1⟩:=I.base.there b o e hx;exact there b o' (neC b o e hx) e1
 .obtain ⟨m1,e1⟩:=I.base.tbls b ps e;obtain ⟨m2,e2⟩:=tbls b _ e1;exact ⟨m1++m2,by rw [e2,Array.append_assoc]⟩
 .obtain ⟨m,hn,hl⟩:=I.loc;refine ⟨m,ns m hn,fun i x v e1 e2 e3=>?_⟩;obtain ⟨u,r,l⟩:=hl i x v e1 e2 e3;refine ⟨u,r,?_⟩;rcases l with l|⟨k,c,e,z⟩
  .exact .inl l
  .exact .inr ⟨k,c,e,cellK x c e _ z⟩
 .obtain ⟨v,z⟩:=I.cell x c e;exact ⟨v,cellK x c e v z⟩
 .obtain ⟨m,⟨o,_,_,ho,_⟩,_⟩:=I.loc;exact free _ o (fun z=>(hch _ z).2.1 rfl) ho I.free
 .obtain ⟨v,o,ho,hd⟩:=I.cell x c e;exact free c o (fun z=>(hch c z).2.2.1 x c e rfl) ho (I.freeC x c e)
 .obtain ⟨e,n,ne,nf,d⟩:=I.pin p hp;have nch:p.1∉ch:=fun z=>(hch p.1 z).2.2.2 p hp rfl;exact ⟨keep p.1 p.2 ne nf nch e n,free p.1 p.2 nch e n,ne,nf,d⟩
theorem Inv.un {t':Nat} (I:Inv X pins σ H s) (u:Un X.fs [] H H' s.heap h') (hok:sR X.prog X.w H' h') (ht:0<t':=by first|exact Nat.succ_pos _|exact L2.Inv.tk (by assumption)|exact L2.Inv.tk ‹L2.Inv _ _ _ _ _› | assumption|omega):Inv X pins σ H' { s with heap:=h',toks:=t' }:=by
 obtain ⟨m,⟨o,es,ep,ho,r⟩,_⟩:=id I.loc;obtain ⟨sl,hL⟩:=u.any ho I.free (by simp)
 exact I.step (g':=s.gens) (d':=s.drawn) (ch:=[]) (fun _ z=>nomatch z) (fun b o _ hb _ e n=>u.keep b o e n hb (by simp)) (fun b o _ hb _ e n=>u.slot b o e n hb (by simp)) (fun b o _ e n=>u.free b o e n (by simp)) (fun b o _ e=>u.there b o e (by simp)) u.tups u.frzs u.tbls (fun m' hm=>by
  obtain ⟨o',es',ep',ho',r'⟩:=hm;rw [ho] at ho';cases ho';exact ⟨_,es',ep',hL,r'⟩) hok I.bare
theorem Inv.call {g':Array GenState} {t':Nat} {d':Drawn} {ch:List Addr} (I:Inv X pins σ H s) (u:Un (frs X.stack) ch H H' s.heap h') (hok:sR X.prog X.w H' h') (hg:AllBare g')
  (hch:∀ b∈ch,(b∈X.ex\/X.s₀.heap.objs.size<=b)/\b≠X.env.locals/\(∀ x c,X.env.cells.lookup x=some c->c≠b)/\∀ p∈X.pn++pins,p.1≠b) (ht:0<t':=by first|exact Nat.succ_pos _|exact L2.Inv.tk (by assumption)|exact L2.Inv.tk ‹L2.Inv _ _ _ _ _› | assumption|omega) :
  Inv X pins σ H' { s with heap:=h',gens:=g',drawn:=d',toks:=t' }:=by
 obtain ⟨m,⟨o,es,ep,ho,r⟩,_⟩:=id I.loc;obtain ⟨sl,hL⟩:=u.any ho I.free fun z=>(hch _ z).2.1 rfl
 exact I.step (ch:=ch) hch (fun b o hL hb hc e n=>u.keep b o e n (fun z=>(List.mem_cons.mp (I.stkSub b z)).elim hL hb) hc) (fun b o _ _ hc e n=>u.any e n hc) (fun b o hc e n=>u.free b o e n hc) (fun b o hc e=>u.there b o e hc) u.tups u.frzs u.tbls (fun m' hm=>by
  obtain ⟨o',es',ep',ho',r'⟩:=hm;rw [ho] at ho';cases ho';exact ⟨_,es',ep',hL,r'⟩) hok hg
theorem Inv.turned {t':Nat} {it:Addr} (I:Inv X pins σ H s) (k:∀ b o,b≠it->s.heap.get? b=some o->h'.get? b=some o) (hn:H it=none) (hL:it≠X.env.locals)
  (h1:it∈X.ex\/X.s₀.heap.objs.size<=it) (h2:∀ x c,X.env.cells.lookup x=some c->c≠it) (h3:∀ p∈X.pn++pins,p.1≠it) (ht:0<t':=by first|exact Nat.succ_pos _|exact L2.Inv.tk (by assumption)|exact L2.Inv.tk ‹L2.Inv _ _ _ _ _› | assumption|omega):Inv X pins σ H { s with heap:=h',toks:=t' }:=by
 have nit:∀ b u,H b=some u->b≠it:=fun b u e z=>by rw [z,hn] at e;cases e
 refine I.step (g':=s.gens) (d':=s.drawn) (ch:=[it]) (fun b hb=>?_) (fun b o _ _ hc e _=>k b o (fun z=>hc (by simp [z])) e) (fun b o _ _ hc e _=>⟨o.slots,k b o (fun z=>hc (by simp [z])) e⟩) (fun _ _ _ _ n=>n)
  (fun b o hc e=>⟨o,k b o (fun z=>hc (by simp [z])) e⟩) (fun _ _ e=>e) (fun _ _ _ e=>e) (fun b ps e=>⟨#[],by rw [e];simp⟩) (fun m hm=>?_) (fun b u e=>?_) I.bare
 .have e:b=it:=by simpa using hb
  subst e;exact ⟨h1,hL,h2,h3⟩
 .obtain ⟨o,es,ep,ho,r⟩:=hm;exact ⟨o,es,ep,k _ o (Ne.symm hL) ho,r⟩
 .refine (I.hok b u e).stay (fun c v hc q=>k c v ?_ q) (fun _ q=>q) fun _ _ q=>q;rcases hc with z|z
  .rw [z];exact nit b u e
  .exact nit c _ z
theorem Inv.tok (I:Inv X pins σ H s) (t:Nat) (ht:0<t:=by first|exact Nat.succ_pos _|exact L2.Inv.tk (by assumption)|exact L2.Inv.tk ‹L2.Inv _ _ _ _ _› | assumption|omega):Inv X pins σ H { s with toks:=t }:=I.un (h':=s.heap) (t':=t) Un.refl I.hok
theorem Inv.kept {t':Nat} (I:Inv X pins σ H s) (k:∀ b u,s.heap.get? b=some u->h'.get? b=some u) (ht:0<t':=by first|exact Nat.succ_pos _|exact L2.Inv.tk (by assumption)|exact L2.Inv.tk ‹L2.Inv _ _ _ _ _› | assumption|omega):Inv X pins σ H { s with heap:=h',toks:=t' }:=I.un (Un.kept k) (I.hok.kept k)
theorem Inv.laid {a:Addr} {o:HO} {t':Nat} (I:Inv X pins σ H s) (k:∀ b u,s.heap.get? b=some u->h'.get? b=some u) (hp:s.heap.objs.size<=a) (new:xU X.prog X.w (xL H a o) h' a o) (ht:0<t':=by first|exact Nat.succ_pos _|exact L2.Inv.tk (by assumption)|exact L2.Inv.tk ‹L2.Inv _ _ _ _ _› | assumption|omega) :
  Inv X pins σ (xL H a o) { s with heap:=h',toks:=t' }:=I.un (Un.laid k hp (I.hok.fresh hp)) (I.hok.laid k hp new)
theorem Inv.write {x e:Addr} {o:HO} {t':Nat} (I:Inv X pins σ H s) (mu:Mut (H x)) (he:e=x\/H e=some (.own x)) (k:∀ b u,b≠e->s.heap.get? b=some u->h'.get? b=some u) (heo:∃ u,h'.get? e=some u)
  (new:xU X.prog X.w (xL H x o) h' x o) (ht:0<t':=by first|exact Nat.succ_pos _|exact L2.Inv.tk (by assumption)|exact L2.Inv.tk ‹L2.Inv _ _ _ _ _› | assumption|omega):Inv X pins σ (xL H x o) { s with heap:=h',toks:=t' }:=I.un (Un.write mu he k heo) (I.hok.write mu he k heo new)
theorem Inv.pins_of {pins':List (Addr×Obj)} (I:Inv X pins σ H s) (h:∀ p∈pins',s.heap.get? p.1=some p.2/\H p.1=none/\p.1≠X.env.locals/\p.1∉X.fs/\∀ v,p.2.data≠.cell v):Inv X pins' σ H s :=
 ⟨I.ok,I.os,I.bare,I.base,I.loc,I.cell,I.free,I.freeC,fun p hp=>(List.mem_append.mp hp).elim (fun z=>I.pin p (List.mem_append_left _ z)) (h p),I.hok,I.len,I.tk⟩
theorem zbL {N:List Str} (hN:N.Nodup) {i j:Nat} {x:Str} (a:N[i]?=some x) (b:N[j]?=some x):i=j:=by
 obtain ⟨h1,e1⟩:=List.getElem?_eq_some_iff.mp a;obtain ⟨h2,e2⟩:=List.getElem?_eq_some_iff.mp b;exact (List.getElem_inj hN).mp (e1.trans e2.symm)
theorem bH {M:Model} {A:Around} {E:Value->Shared->Prop} {i:Nat} {x:Str} {v:V} {u:Value} {Q:Unit->Shared->Prop} (I:Inv X pins σ H s) (hN:X.N.Nodup) (hi:X.N[i]?=some x) (hx:Loc X.env.scope x) (r:zA v u)
  (h:∀ s',Inv X pins (σ.set i (some v)) H s'->(∃ a,Heap.SameBut a s.heap s'.heap/\(a=X.env.locals\/X.env.cells.lookup x=some a))->Q () s') (hf:X.fn x=true\/X.env.scope.names.lookup x=some .local:=by first|exact .inl rfl|exact .inr rfl|assumption):wpAny M A (storeName X.env x u) Q E s:=by
 obtain ⟨m,hn,hl⟩:=id I.loc;have hcls:(X.env.scope.kind==.class || (X.env.scope.kind==.module&&X.env.locals != X.env.globals))=false:=by rw [I.ok.kind];rfl
 have hiσ:i<σ.length:=by rw [I.len];exact (List.getElem?_eq_some_iff.mp hi).1
 have cne:=I.cne
 have tracked:∀ {a:Addr} {h':Heap},(∃ o,s.heap.get? a=some o/\H a=none)->Heap.SameBut a s.heap h'->sR X.prog X.w H h':=fun {a h'} ha hs b ob e=>by
  obtain ⟨_,_,hfree⟩:=ha;refine (I.hok b ob e).stay (fun c w' hc q=>(hs.2 c ?_).trans q) (fun _ q=>q) fun _ _ q=>q;rintro rfl;rcases hc with rfl|hc
  .rw [hfree] at e;cases e
  .rw [hfree] at hc;cases hc
 rcases hx with hk|hk
 .refine wpAny_storeName_local hk hn (fun h' hn' hs=>?_) hcls;obtain ⟨oL,_,_,hoL,_⟩:=id hn;refine h _ ⟨I.ok,I.os,I.bare,⟨fun b o e n hb hx=>?_,fun b o e n hb hx=>?_,I.base.free,fun b o e hx=>?_,I.base.tups,I.base.frzs,I.base.tbls⟩,⟨_,hn',fun j y v' e1 e2 e3=>?_⟩,fun y c e=>?_,I.free,I.freeC,fun p hp=>?_,tracked ⟨oL,hoL,I.free⟩ hs,by simpa using I.len,Nat.succ_pos _⟩ ⟨_,hs,.inl rfl⟩
  .exact (hs.2 b (Nat.ne_of_lt (Nat.lt_of_lt_of_le (Heap.lt_size e) I.ok.above))).trans (I.base.keep b o e n hb hx)
  .obtain ⟨sl,e1⟩:=I.base.slot b o e n hb hx;exact ⟨sl,(hs.2 b (Nat.ne_of_lt (Nat.lt_of_lt_of_le (Heap.lt_size e) I.ok.above))).trans e1⟩
  .obtain ⟨o',e1⟩:=I.base.there b o e hx;exact ⟨o',(hs.2 b (Nat.ne_of_lt (Nat.lt_of_lt_of_le (Heap.lt_size e) I.ok.above))).trans e1⟩
  .by_cases hj:j=i
   .subst hj;rw [hi] at e1;cases e1;rw [List.getElem?_set_self hiσ] at e2;cases e2;exact ⟨u,r,.inl ⟨hk,by simp⟩⟩
   .rw [List.getElem?_set_ne (Ne.symm hj)] at e2;obtain ⟨u',r',q⟩:=hl j y v' e1 e2 e3;refine ⟨u',r',?_⟩;rcases q with ⟨k,e⟩|⟨k,c,e,z⟩
    .refine .inl ⟨k,?_⟩;have:y≠x:=fun e=>hj (zbL hN e1 (e▸hi));simp [this,e]
    .exact .inr ⟨k,c,e,z.sameBut hs (cne y c e)⟩
  .obtain ⟨w',z⟩:=I.cell y c e;exact ⟨w',z.sameBut hs (cne y c e)⟩
  .obtain ⟨e,n,ne,nf,d⟩:=I.pin p hp;exact ⟨(hs.2 p.1 ne).trans e,n,ne,nf,d⟩
 .have hfn:X.fn x=true:=by
   rcases hf with z|z
   .exact z
   .rw [z] at hk;cases hk
  obtain ⟨c,hc⟩:=I.ok.has x (.inl hk);obtain ⟨w',z⟩:=I.cell x c hc;refine wpAny_storeName_cell I.ok.kind hk hc z (fun h' hc' hs=>?_);obtain ⟨oc,hoc,hocd⟩:=id z;refine h { s with heap:=h' } ⟨I.ok,I.os,I.bare,⟨fun b o e n hb hx=>?_,fun b o e n hb hx=>?_,I.base.free,fun b o e hx=>?_,I.base.tups,I.base.frzs,I.base.tbls⟩,⟨m,hn.sameBut hs (Ne.symm (cne x c hc)),fun j y v' e1 e2 e3=>?_⟩,fun y c' e=>?_,I.free,I.freeC,fun p hp=>?_,tracked ⟨oc,hoc,I.freeC x c hc⟩ hs,by simpa using I.len,I.tk⟩ ⟨c,hs,.inr hc⟩
  .exact (hs.2 b (Nat.ne_of_lt (Nat.lt_of_lt_of_le (Heap.lt_size e) (I.ok.cab x c hfn hc)))).trans (I.base.keep b o e n hb hx)
  .obtain ⟨sl,e1⟩:=I.base.slot b o e n hb hx;exact ⟨sl,(hs.2 b (Nat.ne_of_lt (Nat.lt_of_lt_of_le (Heap.lt_size e) (I.ok.cab x c hfn hc)))).trans e1⟩
  .obtain ⟨o',e1⟩:=I.base.there b o e hx;exact ⟨o',(hs.2 b (Nat.ne_of_lt (Nat.lt_of_lt_of_le (Heap.lt_size e) (I.ok.cab x c hfn hc)))).trans e1⟩
  .by_cases hj:j=i
   .subst hj;rw [hi] at e1;cases e1;rw [List.getElem?_set_self hiσ] at e2;cases e2;exact ⟨u,r,.inr ⟨.inl hk,c,hc,hc'⟩⟩
   .rw [List.getElem?_set_ne (Ne.symm hj)] at e2;obtain ⟨u',r',q⟩:=hl j y v' e1 e2 e3;refine ⟨u',r',?_⟩;rcases q with q|⟨k,c',e,z'⟩
    .exact .inl q
    .refine .inr ⟨k,c',e,z'.sameBut hs ?_⟩;rintro rfl;exact hj (zbL hN e1 (I.ok.inj _ _ _ e hc▸hi))
  .by_cases hcc:c'=c
   .subst hcc;exact ⟨_,hc'⟩
   .obtain ⟨w2,z2⟩:=I.cell y c' e;exact ⟨w2,z2.sameBut hs hcc⟩
  .obtain ⟨e,n,ne,nf,d⟩:=I.pin p hp;refine ⟨(hs.2 p.1 ?_).trans e,n,ne,nf,d⟩;intro q;rw [q,hoc] at e;have q':oc=p.2:=Option.some.inj e;exact d w' (by rw [← q'];exact hocd)
theorem zbA {M:Model} {A:Around} {E:Value->Shared->Prop} {i:Nat} {x:Str} {v:V} {u:Value} {Q:Unit->Shared->Prop} (I:Inv X pins σ H s) (hN:X.N.Nodup) (hi:X.N[i]?=some x) (hx:Loc X.env.scope x) (r:zA v u)
  (h:∀ s',Inv X pins (σ.set i (some v)) H s'->Q () s') (hf:X.fn x=true\/X.env.scope.names.lookup x=some .local:=by first|exact .inl rfl|exact .inr rfl|assumption):wpAny M A (storeName X.env x u) Q E s :=
 bH I hN hi hx r (fun s' I' _=>h s' I') hf
theorem Inv.call' {s':Shared} {ch:List Addr} (I:Inv X pins σ H s) (ho:s'.os=s.os) (u:Un (frs X.stack) ch H H' s.heap s'.heap) (hok:sR X.prog X.w H' s'.heap) (hg:AllBare s'.gens)
  (hch:∀ b∈ch,(b∈X.ex\/X.s₀.heap.objs.size<=b)/\b≠X.env.locals/\(∀ x c,X.env.cells.lookup x=some c->c≠b)/\∀ p∈X.pn++pins,p.1≠b) (ht:0<s'.toks):Inv X pins σ H' s':=by
 obtain ⟨h',g',d',t',o'⟩:=s';have e:o'=s.os:=ho;subst e;exact I.call (g':=g') (t':=t') (d':=d') u hok hg hch
end
abbrev XK:=Value->Option Addr->Hp->Prop
abbrev St:=List (Option V)
abbrev VK:=V->Hp->Prop
abbrev TE:=St->Hp->VK->Prop
abbrev TT:=St->Hp->(Bool->Hp->Prop)->Prop
abbrev TA:=St->Hp->(List V->Hp->Prop)->Prop
structure Ends where
 nx:St->Hp->Prop
 rt:VK
 bk:St->Hp->Prop:=fun _ _=>False
 ct:St->Hp->Prop:=fun _ _=>False
abbrev TS:=Ends->St->Hp->Prop
def EP (X:Cx) (pins:List (Addr×Obj)) (σ:St) (Q:VK) (u:Value) (s':Shared):Prop:=∃ v H',Inv X pins σ H' s'/\zA v u/\Q v H'
def TP (X:Cx) (pins:List (Addr×Obj)) (σ:St) (Q:Bool->Hp->Prop) (b:Bool) (s':Shared):Prop:=∃ H',Inv X pins σ H' s'/\Q b H'
def AP (X:Cx) (pins:List (Addr×Obj)) (σ:St) (Q:List V->Hp->Prop) (us:List Value) (s':Shared):Prop:=∃ vs H',Inv X pins σ H' s'/\zE vs us/\Q vs H'
def SP (X:Cx) (pins:List (Addr×Obj)) (D:Ends) (f:Flow) (s':Shared):Prop :=
 match f with
 | .next=>∃ σ' H',Inv X pins σ' H' s'/\D.nx σ' H'
 | .brk=>∃ σ' H',Inv X pins σ' H' s'/\D.bk σ' H'
 | .cont=>∃ σ' H',Inv X pins σ' H' s'/\D.ct σ' H'
 | .ret u=>∃ v σ' H',Inv X pins σ' H' s'/\zA v u/\D.rt v H'
def PE (X:Cx) (e:Expr) (t:TE):Prop :=
 ∀ (pins:List (Addr×Obj)) (s:Shared) (σ:St) (H:Hp) (Q:VK),Inv X pins σ H s->t σ H Q->wpAny (model X.prog X.w) X.A (eval e X.env) (EP X pins σ Q) X.xe s
def PT (X:Cx) (e:Expr) (t:TT):Prop :=
 ∀ (pins:List (Addr×Obj)) (s:Shared) (σ:St) (H:Hp) (Q:Bool->Hp->Prop),Inv X pins σ H s->t σ H Q->wpAny (model X.prog X.w) X.A (isTrue e X.env (eval e X.env)) (TP X pins σ Q) X.xe s
def PW (X:Cx) (e:Expr) (t:TT):Prop :=
 ∀ (whole:Sem Value) (pins:List (Addr×Obj)) (s:Shared) (σ:St) (H:Hp) (Q:Bool->Hp->Prop),Inv X pins σ H s->t σ H Q->wpAny (model X.prog X.w) X.A (isTrue e X.env whole) (TP X pins σ Q) X.xe s
theorem PW.pt {X:Cx} {e:Expr} {t:TT} (h:PW X e t):PT X e t:=h _
def PA (X:Cx) (es:List Expr) (t:TA):Prop :=
 ∀ (pos:Pos) (pins:List (Addr×Obj)) (s:Shared) (σ:St) (H:Hp) (Q:List V->Hp->Prop),Inv X pins σ H s->t σ H Q->wpAny (model X.prog X.w) X.A (spliced (backTo pos (starEach es X.env))) (AP X pins σ Q) X.xe s
def PS (X:Cx) (st:Stmt) (t:TS):Prop :=
 ∀ (pins:List (Addr×Obj)) (s:Shared) (σ:St) (H:Hp) (D:Ends),Inv X pins σ H s->t D σ H->wpAny (model X.prog X.w) X.A (exec st X.env) (SP X pins D) X.xe s
def PSs (X:Cx) (st:List Stmt) (t:TS):Prop :=
 ∀ (pins:List (Addr×Obj)) (s:Shared) (σ:St) (H:Hp) (D:Ends),Inv X pins σ H s->t D σ H->wpAny (model X.prog X.w) X.A (execs st X.env) (SP X pins D) X.xe s
theorem yG {α:Type} {t:Sem α} {Q Q':α->Shared->Prop} {M:Model} {A:Around} {E:Value->Shared->Prop} {s:Shared} (h:wpAny M A t Q E s) (hQ:∀ a s,Q a s->Q' a s):wpAny M A t Q' E s:=wpAny_mono h hQ fun _ _ x=>x
end L2
namespace L2
open PySem PySem.Spec PyProof.Rows
section
variable {X : Cx}
theorem bin {a b:Expr} {ta tb:TE} (ha:PE X a ta) (hb:PE X b tb) {pins:List (Addr×Obj)} {s:Shared} {σ:St} {H:Hp} {R:V->V->Hp->Prop} (I:Inv X pins σ H s) (h:ta σ H fun x H1=>tb σ H1 fun y H2=>R x y H2)
  {α:Type} {Q:α->Shared->Prop} {f:Value->Value->Sem α}
  (hf:∀ v u s2 x y H2,Inv X pins σ H2 s2->zA x v->zA y u->R x y H2->wpAny (model X.prog X.w) X.A (f v u) Q X.xe s2) :
  wpAny (model X.prog X.w) X.A (eval a X.env) (fun v s₁=>wpAny (model X.prog X.w) X.A (eval b X.env) (fun u s₂=>wpAny (model X.prog X.w) X.A (f v u) Q X.xe s₂) X.xe s₁) X.xe s:=by
 refine yG (ha pins s σ H _ I h) fun v s1 ⟨x,H1,I1,r1,q1⟩=>?_;refine yG (hb pins s1 σ H1 _ I1 q1) fun u s2 ⟨y,H2,I2,r2,q2⟩=>?_;exact hf v u s2 x y H2 I2 r1 r2 q2
def tVar (i:Nat):TE:=fun σ H Q=>∃ v,σ[i]?=some (some v)/\Q v H
def tC (v:V):TE:=fun _ H Q=>Q v H
theorem zjx {i:Nat} {x:Str} {pos:Pos} (hN:X.N[i]?=some x) (hv:Vis X.env.scope x) (hd:(x==("__debug__" : Str))=false:=by decide) (hcd:(x==("__classdict__" : Str))=false:=by decide):PE X (.Name x pos) (tVar i):=by
 intro pins s σ H Q I h;obtain ⟨v,e,h⟩:=h;obtain ⟨m,hn,hl⟩:=I.loc;obtain ⟨u,r,l⟩:=hl i x v hN e hv;have fin:EP X pins σ Q u s:=⟨v,H,I,r,h⟩;rcases l with ⟨hk,hm⟩|⟨hk,c,hc,hcell⟩
 .exact wpAny_Name (wpAny_loadName_local I.ok.kind hk hn hm fin) hd
 .rcases hk with hk|hk
  .exact wpAny_Name (wpAny_loadName_cell I.ok.kind hk hc hcell fin) hd
  .exact wpAny_Name (wpAny_loadName_free I.ok.kind hk hc hcell fin hcd) hd
theorem zf9 {i j pos}:PE X (.Constant (.int i) j pos) (tC (.int i)):=fun _ _ _ H _ I h=>wpAny_Constant_int ⟨.int i,H,I.tok _,⟨_,rfl⟩,h⟩
theorem pe_bl {b j pos}:PE X (.Constant (.bool b) j pos) (tC (.bl b)):=fun _ _ _ H _ I h=>Constant_bool ⟨.bl b,H,I,rfl,h⟩
theorem zjD {j pos}:PE X (.Constant .none j pos) (tC .non):=fun _ _ _ H _ I h=>Constant_none ⟨.non,H,I,rfl,h⟩
theorem zf7 {x j pos}:PE X (.Constant (.str x) j pos) (tC (.str x)):=fun _ _ _ H _ I h=>Calls.Constant_str ⟨.str x,H,I.tok _,⟨_,rfl⟩,h⟩
def Gl (X:Cx) (x:Str):Prop:=X.env.kindOf x=some .globalImplicit
theorem zbc {E:Value->Shared->Prop} {pins:List (Addr×Obj)} {s:Shared} {σ:St} {H:Hp} {x:Str} {u:Value} {pos:Pos} {Q:Value->Shared->Prop} (I:Inv X pins σ H s) (hg:Gl X x) (hm:X.mg x=some u) (h:Q u s)
  (hd:(x==("__debug__" : Str))=false:=by decide):wpAny (model X.prog X.w) X.A (eval (.Name x pos) X.env) Q E s :=
 Calls.Name_function_global I.ok.kind hg (Calls.loadGlobal_global (by rw [I.ok.glob];exact I.mod.glob.keeps I.bk) hm h) hd
theorem tL {E:Value->Shared->Prop} {pins:List (Addr×Obj)} {s:Shared} {σ:St} {H:Hp} {x:Str} {u:Value} {pos:Pos} {Q:Value->Shared->Prop} (I:Inv X pins σ H s) (hg:Gl X x) (hm:X.mg x=none) (hv:bootBuiltins x=some u) (h:Q u s)
  (hn:x ≠ "__name__" := by decide) (hd:(x==("__debug__" : Str))=false:=by decide):wpAny (model X.prog X.w) X.A (eval (.Name x pos) X.env) Q E s:=by
 obtain ⟨mb,h1,h2⟩:=I.mod.blt;exact Calls.Name_function_global I.ok.kind hg (Calls.loadGlobal_builtin (by rw [I.ok.glob];exact I.mod.glob.keeps I.bk) hm (by rw [I.ok.blt];exact h1.keeps I.bk) ((h2 x hn).trans hv) h) hd
theorem zhk {x:Str} {v:V} {u:Value} {pos:Pos} (hg:Gl X x) (hm:X.mg x=some u) (r:zA v u) (hd:(x==("__debug__" : Str))=false:=by decide):PE X (.Name x pos) (tC v) :=
 fun _ _ _ H _ I h=>zbc I hg hm ⟨v,H,I,r,h⟩ hd
theorem zho {x:Str} {v:V} {u:Value} {pos:Pos} (hg:Gl X x) (hm:X.mg x=none) (hv:bootBuiltins x=some u) (r:zA v u) (hn:x ≠ "__name__" := by decide) (hd:(x==("__debug__" : Str))=false:=by decide):PE X (.Name x pos) (tC v) :=
 fun _ _ _ H _ I h=>tL I hg hm hv ⟨v,H,I,r,h⟩ hn hd
variable {a b : Expr} {ta tb : TE} {pos : Pos}
variable {tA tB' : TT} {rest : List Expr}
def tAnd (t u:TT):TT:=fun σ H Q=>t σ H fun c H1=>if c=true then u σ H1 Q else Q false H1
def tOr (t u:TT):TT:=fun σ H Q=>t σ H fun c H1=>if c=true then Q true H1 else u σ H1 Q
def tNot (t:TT):TT:=fun σ H Q=>t σ H fun c H1=>Q (!c) H1
theorem zg7 (ha:PT X a tA):PW X (.BoolOp .And [a] pos) tA:=by
 intro wh pins s σ H Q I h;refine isTrue_and (yG (ha pins s σ H Q I h) fun c s1 e=>?_)
 cases c with
 |true=>exact isTrue_and_nil e
 |false=>exact e
theorem zjn (ha:PT X a tA):PW X (.BoolOp .Or [a] pos) tA:=by
 intro wh pins s σ H Q I h;refine isTrue_or (yG (ha pins s σ H Q I h) fun c s1 e=>?_)
 cases c with
 |false=>exact isTrue_or_nil e
 |true=>exact e
theorem zf3 (ha:PT X a tA) (hb:PW X (.BoolOp .And (b::rest) pos) tB'):PW X (.BoolOp .And (a::b::rest) pos) (tAnd tA tB'):=by
 intro wh pins s σ H Q I h;refine isTrue_and (yG (ha pins s σ H _ I h) fun c s1 ⟨H1,I1,q1⟩=>?_)
 cases c with
 |true=>exact hb wh pins s1 σ H1 Q I1 q1
 |false=>exact ⟨H1,I1,q1⟩
theorem zjo (ha:PT X a tA) (hb:PW X (.BoolOp .Or (b::rest) pos) tB'):PW X (.BoolOp .Or (a::b::rest) pos) (tOr tA tB'):=by
 intro wh pins s σ H Q I h;refine isTrue_or (yG (ha pins s σ H _ I h) fun c s1 ⟨H1,I1,q1⟩=>?_)
 cases c with
 |true=>exact ⟨H1,I1,q1⟩
 |false=>exact hb wh pins s1 σ H1 Q I1 q1
theorem zjp (ha:PT X a tA):PT X (.UnaryOp .Not a pos) (tNot tA):=by
 intro pins s σ H Q I h;exact isTrue_not (ha pins s σ H (fun c H1=>Q (!c) H1) I h)
def ziX (ta tb:TE):TE:=fun σ H Q=>ta σ H fun x H1=>∃ c,x=.bl c/\if c=true then tb σ H1 Q else Q (.bl false) H1
def tOrV (ta tb:TE):TE:=fun σ H Q=>ta σ H fun x H1=>∃ c,x=.bl c/\if c=true then Q (.bl true) H1 else tb σ H1 Q
def tNotV (ta:TE):TE:=fun σ H Q=>ta σ H fun x H1=>∃ c,x=.bl c/\Q (.bl (!c)) H1
theorem zf8 {op} {t:TE} (h:PE X a t):PE X (.BoolOp op [a] pos) t:=fun pins s σ H Q I hw=>BoolOp_one (h pins s σ H Q I hw)
theorem zga (ha:PE X a ta) (hb:PE X (.BoolOp .And (b::rest) pos) tb):PE X (.BoolOp .And (a::b::rest) pos) (ziX ta tb):=by
 intro pins s σ H Q I h;refine BoolOp_and (yG (ha pins s σ H _ I h) fun v s1 ⟨x,H1,I1,r1,q1⟩=>?_);obtain ⟨c,rfl,q1⟩:=q1;cases r1;refine wpAny_truthy_bool ?_
 cases c with
 |true=>exact hb pins s1 σ H1 Q I1 q1
 |false=>exact ⟨.bl false,H1,I1,rfl,q1⟩
theorem zjB (ha:PE X a ta) (hb:PE X (.BoolOp .Or (b::rest) pos) tb):PE X (.BoolOp .Or (a::b::rest) pos) (tOrV ta tb):=by
 intro pins s σ H Q I h;refine BoolOp_or (yG (ha pins s σ H _ I h) fun v s1 ⟨x,H1,I1,r1,q1⟩=>?_);obtain ⟨c,rfl,q1⟩:=q1;cases r1;refine wpAny_truthy_bool ?_
 cases c with
 |false=>exact hb pins s1 σ H1 Q I1 q1
 |true=>exact ⟨.bl true,H1,I1,rfl,q1⟩
theorem zjC (ha:PE X a ta):PE X (.UnaryOp .Not a pos) (tNotV ta):=by
 intro pins s σ H Q I h;refine UnaryOp_ (yG (ha pins s σ H _ I h) fun v s1 ⟨x,H1,I1,r1,q1⟩=>?_);obtain ⟨c,rfl,q1⟩:=q1;cases r1;exact not_of (wpAny_truthy_bool ⟨.bl (!c),H1,I1,rfl,q1⟩)
def tIf (t:TT) (ta tb:TE):TE:=fun σ H Q=>t σ H fun c H1=>if c=true then ta σ H1 Q else tb σ H1 Q
theorem ze4 {c:Expr} (hc:PT X c tA) (ha:PE X a ta) (hb:PE X b tb):PE X (.IfExp c a b pos) (tIf tA ta tb):=by
 intro pins s σ H Q I h;refine wpAny_IfExp (yG (hc pins s σ H _ I h) fun d s1 ⟨H1,I1,q1⟩=>?_)
 cases d with
 |true=>exact ha pins s1 σ H1 Q I1 q1
 |false=>exact hb pins s1 σ H1 Q I1 q1
end
end L2
namespace L2
open PySem PySem.Spec PyProof.Rows
def nE (K:PySem.W.Frag) (H:Hp) (a:Addr) (xs:List V):Prop :=
 Rd H a (.lst xs) \/
  ∃ (o:Obj) (its:Array Value) (n:Nat),K.lookup a=some o/\o.cls=.type "list" /\ o.dict=none/\o.data=.seq its n/\its.size<=sizeLine/\zE xs its.toList
def rM (K:PySem.W.Frag) (H:Hp) (a:Addr) (xs:List V):Prop :=
 Rd H a (.tup xs) \/
  ∃ (o:Obj) (its:Array Value) (n:Nat),K.lookup a=some o/\o.cls=.type "tuple" /\ o.data=.seq its n/\its.size<=sizeLine/\zE xs its.toList
def absV:Value->Option V
 | .none=>some .non
 | .bool b=>some (.bl b)
 | .int i _=>some (.int i)
 | .str x _=>some (.str x)
 | .bytes b _=>some (.byt b)
 | .float b _=>some (.flt b)
 | .ref a=>some (.ref a)
 | .type n=>some (.ty n)
 |_=>none
theorem zA.abs {x:V} {u:Value} (r:zA x u):absV u=some x:=by
 cases x with
 |non=>cases r;rfl
 |bl _=>cases r;rfl
 |int _=>obtain ⟨t,rfl⟩:=r;rfl
 |str _=>obtain ⟨t,rfl⟩:=r;rfl
 |byt _=>obtain ⟨t,rfl⟩:=r;rfl
 |flt _=>obtain ⟨t,rfl⟩:=r;rfl
 |ref _=>cases r;rfl
 |ty _=>cases r;rfl
theorem zA.inj {x y:V} {u:Value} (r:zA x u) (q:zA y u):x=y:=Option.some.inj (r.abs.symm.trans q.abs)
theorem zE.inj:∀ {xs ys:List V} {us:List Value},zE xs us->zE ys us->xs=ys
 |_,_,_,.nil,.nil=>rfl
 |_,_,_,.cons r t,.cons r' t'=>by rw [r.inj r',zE.inj t t']
section
variable {X : Cx} {pins : List (Addr × Obj)} {σ : St} {H : Hp} {s : Shared} {a : Addr} {xs ys : List V}
theorem nE.of {K:PySem.W.Frag} (h:H a=some (.lst xs)):nE K H a xs:=.inl (.inl h)
theorem rM.of {K:PySem.W.Frag} (h:H a=some (.tup xs)):rM K H a xs:=.inl (.inl h)
theorem Inv.list (I:Inv X pins σ H s) (h:nE X.K H a xs):∃ its:List Value,zE xs its/\PlainL s.heap a its.toArray/\xs.length<=sizeLine:=by
 rcases h with h|⟨o,its,n,hk,hc,hd,hs,hz,r⟩
 .obtain ⟨z,its,n,r,e⟩:=h.ok I.hok;exact ⟨its,r,⟨_,n,e,rfl,rfl,rfl⟩,z⟩
 .refine ⟨its.toList,r,⟨o,n,I.kIn a o hk,hc,hd,by simpa using hs⟩,?_⟩;have e:=r.length;simp only [Array.length_toList] at e;omega
theorem Inv.tuple (I:Inv X pins σ H s) (h:rM X.K H a xs):∃ its:List Value,zE xs its/\IsTup s.heap a its.toArray/\xs.length<=sizeLine:=by
 rcases h with h|⟨o,its,n,hk,hc,hs,hz,r⟩
 .obtain ⟨z,its,r,p⟩:=h.ok I.hok;exact ⟨its,r,p,z⟩
 .refine ⟨its.toList,r,⟨o,I.kIn a o hk,hc,n,by simpa using hs⟩,?_⟩;have e:=r.length;simp only [Array.length_toList] at e;omega
theorem Inv.list_inj (I:Inv X pins σ H s) (h:nE X.K H a xs) (h':nE X.K H a ys):xs=ys:=by
 obtain ⟨its,r,⟨o,n,e,_,_,d⟩,_⟩:=I.list h;obtain ⟨its',r',⟨o',n',e',_,_,d'⟩,_⟩:=I.list h';rw [e] at e';cases e';rw [d] at d'
 injection d' with d1 _
 have:its=its':=by simpa using congrArg Array.toList d1
 subst this;exact r.inj r'
theorem Inv.tuple_inj (I:Inv X pins σ H s) (h:rM X.K H a xs) (h':rM X.K H a ys):xs=ys:=by
 obtain ⟨its,r,⟨o,e,_,n,d⟩,_⟩:=I.tuple h;obtain ⟨its',r',⟨o',e',_,n',d'⟩,_⟩:=I.tuple h';rw [e] at e';cases e';rw [d] at d'
 injection d' with d1 _
 have:its=its':=by simpa using congrArg Array.toList d1
 subst this;exact r.inj r'
end
abbrev Cx.wish (X:Cx) (E:Value->Shared->Prop):Cx:={ X with xe:=E }
abbrev Cx.nox (X:Cx):Cx:=X.wish fun _ _=>False
theorem Cx.Ok.wish {X:Cx} (ok:X.Ok) (E:Value->Shared->Prop):(X.wish E).Ok :=
 ⟨ok.mod,ok.kind,ok.glob,ok.blt,ok.above,ok.inj,ok.has,ok.cab,ok.hd,ok.frames,ok.stk,ok.exf,ok.bs,ok.bsz,ok.noex,ok.exfs,ok.funs,ok.frf⟩
theorem Cx.Ok.unwish {X:Cx} {E:Value->Shared->Prop} (ok:(X.wish E).Ok):X.Ok :=
 ⟨ok.mod,ok.kind,ok.glob,ok.blt,ok.above,ok.inj,ok.has,ok.cab,ok.hd,ok.frames,ok.stk,ok.exf,ok.bs,ok.bsz,ok.noex,ok.exfs,ok.funs,ok.frf⟩
section
variable {X : Cx} {pins : List (Addr × Obj)} {σ : St} {H : Hp} {s : Shared} {E : Value → Shared → Prop}
theorem Inv.wish (I:Inv X pins σ H s) (E:Value->Shared->Prop):Inv (X.wish E) pins σ H s:=⟨I.ok.wish E,I.os,I.bare,I.base,I.loc,I.cell,I.free,I.freeC,I.pin,I.hok,I.len,I.tk⟩
theorem Inv.unwish (I:Inv (X.wish E) pins σ H s):Inv X pins σ H s:=⟨I.ok.unwish,I.os,I.bare,I.base,I.loc,I.cell,I.free,I.freeC,I.pin,I.hok,I.len,I.tk⟩
theorem SP.unwish {D:Ends} {f:Flow} {s':Shared} (h:SP (X.wish E) pins D f s'):SP X pins D f s':=by
 cases f with
 |next=>obtain ⟨σ',H',I,q⟩:=h;exact ⟨σ',H',I.unwish,q⟩
 |brk=>obtain ⟨σ',H',I,q⟩:=h;exact ⟨σ',H',I.unwish,q⟩
 |cont=>obtain ⟨σ',H',I,q⟩:=h;exact ⟨σ',H',I.unwish,q⟩
 |ret u=>obtain ⟨v,σ',H',I,r,q⟩:=h;exact ⟨v,σ',H',I.unwish,r,q⟩
theorem PSs.nox {st:List Stmt} {t:TS} (h:PSs X.nox st t):PSs X st t:=fun pins s σ H D I hw =>
 wpAny_mono (h pins s σ H D (I.wish _) hw) (fun _ _ q=>q.unwish) fun _ _ z=>False.elim z
end
section
variable {X : Cx} {st : Stmt} {rest : List Stmt} {t u : TS} {e : Expr} {te : TE} {pos : Pos}
def ziU:TS:=fun D σ H=>D.nx σ H
def tSeq (t u:TS):TS:=fun D σ H=>t { D with nx:=u D } σ H
theorem zhc:PSs X [] ziU:=fun _ _ σ H _ I h=>wpAny_execs_nil ⟨σ,H,I,h⟩
theorem zeT (h1:PS X st t) (h2:PSs X rest u):PSs X (st::rest) (tSeq t u):=by
 intro pins s σ H D I h;refine wpAny_execs_cons (yG (h1 pins s σ H { D with nx:=u D } I h) fun f s1 q=>?_)
 cases f with
 |next =>
  obtain ⟨σ',H',I',q⟩:=q;exact h2 pins s1 σ' H' D I' q
 |ret v=>exact q
 |brk=>exact q
 |cont=>exact q
def ziW:TS:=fun D σ H=>D.bk σ H
def tCont:TS:=fun D σ H=>D.ct σ H
theorem zhe:PS X (.Pass pos) ziU:=fun _ _ σ H _ I h=>wpAny_Pass ⟨σ,H,I,h⟩
theorem zeX:PS X (.Break pos) ziW:=fun _ _ σ H _ I h=>wpAny_Break ⟨σ,H,I,h⟩
theorem za3:PS X (.Continue pos) tCont:=fun _ _ σ H _ I h=>wpAny_Continue ⟨σ,H,I,h⟩
theorem Inv.quiet {pins:List (Addr×Obj)} {σ:St} {H:Hp} {s:Shared} (I:Inv X pins σ H s):interactive X.env=false:=by simp [interactive,I.ok.kind]
def tDrop (te:TE):TS:=fun D σ H=>te σ H fun _ H1=>D.nx σ H1
theorem zhf (he:PE X e te) (hs:swapsWith e none pos.line X.env=pure false:=by rfl):PS X (.Expr e pos) (tDrop te):=by
 intro pins s σ H D I h;exact wpAny_Expr_any (yG (he pins s σ H _ I h) fun v s1 ⟨x,H1,I1,r1,q1⟩=>⟨σ,H1,I1,q1⟩) I.quiet hs
def tRet (te:TE):TS:=fun D σ H=>te σ H D.rt
theorem zjr (he:PE X e te):PS X (.Return (some e) pos) (tRet te):=by
 intro pins s σ H D I h;exact wpAny_Return_some (yG (he pins s σ H _ I h) fun v s1 ⟨x,H1,I1,r1,q1⟩=>⟨x,σ,H1,I1,r1,q1⟩)
def tRetN:TS:=fun D _ H=>D.rt .non H
theorem zhd:PS X (.Return none pos) tRetN:=fun _ _ σ H _ I h=>wpAny_Return_none ⟨.non,σ,H,I,rfl,h⟩
def tIfS (c:TT) (t u:TS):TS:=fun D σ H=>c σ H fun b H1=>if b=true then t D σ H1 else u D σ H1
theorem ps_if {c:Expr} {a b:List Stmt} {tc:TT} (hc:PT X c tc) (ha:PSs X a t) (hb:PSs X b u):PS X (.If c a b pos) (tIfS tc t u):=by
 intro pins s σ H D I h;refine wpAny_If (yG (hc pins s σ H _ I h) fun d s1 ⟨H1,I1,q1⟩=>?_)
 cases d with
 |true=>exact ha pins s1 σ H1 D I1 q1
 |false=>exact hb pins s1 σ H1 D I1 q1
def ziV:TS:=fun _ _ _=>False
theorem zeW:PS X st ziV:=fun _ _ _ _ _ _ h=>h.elim
end
abbrev TG:=V->St->Hp->(St->Hp->Prop)->Prop
abbrev TGs:=List V->St->Hp->(St->Hp->Prop)->Prop
def PG (X:Cx) (target:Expr) (t:TG):Prop :=
 ∀ (pins:List (Addr×Obj)) (s:Shared) (σ:St) (H:Hp) (v:V) (u:Value) (Q:St->Hp->Prop),Inv X pins σ H s->zA v u->t v σ H Q ->
  wpAny (model X.prog X.w) X.A (assign target X.env u) (fun _ s'=>∃ σ' H',Inv X pins σ' H' s'/\Q σ' H') X.xe s
def PGs (X:Cx) (ts:List Expr) (t:TGs):Prop :=
 ∀ (pins:List (Addr×Obj)) (s:Shared) (σ:St) (H:Hp) (vs:List V) (us:List Value) (Q:St->Hp->Prop),Inv X pins σ H s->zE vs us->t vs σ H Q ->
  wpAny (model X.prog X.w) X.A (assignInOrder ((assignEach ts X.env).map (·.2)) us) (fun _ s'=>∃ σ' H',Inv X pins σ' H' s'/\Q σ' H') X.xe s
abbrev TSet:=V->V->V->Hp->(Hp->Prop)->Prop
def PSet (X:Cx) (t:TSet):Prop :=
 ∀ (pins:List (Addr×Obj)) (s:Shared) (σ:St) (H:Hp) (o i v:V) (ov iv u:Value) (Q:Hp->Prop),Inv X pins σ H s->zA o ov->zA i iv->zA v u->t o i v H Q ->
  wpAny (model X.prog X.w) X.A (setItem ov iv u) (fun _ s'=>∃ H',Inv X pins σ H' s'/\Q H') X.xe s
section
variable {X : Cx} {pos : Pos}
def zfA (i:Nat):TG:=fun v σ H Q=>Q (σ.set i (some v)) H
theorem za4 {i:Nat} {x:Str} (hN:X.N.Nodup) (hi:X.N[i]?=some x) (hx:Loc X.env.scope x) (hf:X.fn x=true\/X.env.scope.names.lookup x=some .local:=by first|exact .inl rfl|exact .inr rfl|assumption):PG X (.Name x pos) (zfA i):=by
 intro pins s σ H v u Q I r h;exact wpAny_assign_Name (zbA I hN hi hx r (fun s' I'=>⟨_,H,I',h⟩) hf)
def gNil:TGs:=fun vs σ H Q=>vs=[]/\Q σ H
def gCons (t:TG) (u:TGs):TGs:=fun vs σ H Q=>∃ v r,vs=v::r/\t v σ H fun σ' H'=>u r σ' H' Q
theorem zdb:PGs X [] gNil:=by
 intro pins s σ H vs us Q I r h;obtain ⟨e,h⟩:=h;subst e;cases r;exact assignInOrder_nil ⟨σ,H,I,h⟩
theorem fL {e:Expr} {es:List Expr} {t:TG} {u:TGs} (h1:PG X e t) (h2:PGs X es u)
  (hs:(assignEach (e::es) X.env).map (·.2)=assign e X.env::(assignEach es X.env).map (·.2):=by rfl):PGs X (e::es) (gCons t u):=by
 intro pins s σ H vs us Q I r h;obtain ⟨v,vr,e1,h⟩:=h;subst e1
 cases r with
 |cons r rr =>
  rw [hs];refine assignInOrder_cons (yG (h1 pins s σ H _ _ _ I r h) fun _ s1 ⟨σ1,H1,I1,q1⟩=>?_);exact h2 pins s1 σ1 H1 _ _ Q I1 rr q1
def gTup (K:PySem.W.Frag) (n:Nat) (t:TGs):TG:=fun v σ H Q=>∃ a xs,v=.ref a/\rM K H a xs/\xs.length=n/\t xs σ H Q
theorem zf6 {es:List Expr} {k:Nat} {t:TGs} {n:Nat} (hc:X.calm=true) (h:PGs X es t)
  (hn:(assignEach es X.env).length=n:=by rfl) (hst:(assignEach es X.env).findIdx? (·.1)=none:=by rfl):PG X (.Tuple es k pos) (gTup X.K n t):=by
 intro pins s σ H v u Q I r hw;obtain ⟨a,xs,e1,hq,hl,hw⟩:=hw;subst e1;cases r;obtain ⟨its,rv,ht,hz⟩:=I.tuple hq;refine assign_Tuple_tuple (I.ok.hd hc) ht (by simp [hn,← hl,rv.length]) hst fun h' hx=>?_;have I1:Inv X pins σ H { s with heap:=h' }:=I.kept (t':=s.toks) fun b o e=>hx b o (Nat.ne_of_lt (Heap.lt_size e)) e;exact h pins _ σ H xs _ Q I1 (by simpa using rv) hw
def tAsg (te:TE) (g:TG):TS:=fun D σ H=>te σ H fun x H1=>g x σ H1 D.nx
theorem zf5 {tg e:Expr} {te:TE} {g:TG} (he:PE X e te) (hg:PG X tg g) (hs:swapsWithSole [tg] e pos.line X.env=pure false:=by rfl) (hw:swappedStores [tg] e X.env=pure none:=by rfl)
  (h1:(assignEach [tg] X.env).map (·.2)=[assign tg X.env]:=by rfl):PS X (.Assign [tg] e pos) (tAsg te g):=by
 intro pins s σ H D I h;refine wpAny_Assign_stores (yG (he pins s σ H _ I h) fun v s1 ⟨x,H1,I1,r1,q1⟩=>?_) hs hw;rw [h1];exact yG (hg pins s1 σ H1 x v _ I1 r1 q1) fun _ s2 q=>q
theorem zf4 {i:Nat} {x:Str} {e:Expr} {te:TE} {pos':Pos} (hN:X.N.Nodup) (hi:X.N[i]?=some x) (hx:Loc X.env.scope x) (he:PE X e te) (hs:swapsWith e (some (.Name x pos')) pos.line X.env=pure false:=by rfl) (hf:X.fn x=true\/X.env.scope.names.lookup x=some .local:=by first|exact .inl rfl|exact .inr rfl|assumption) :
  PS X (.Assign [.Name x pos'] e pos) (tAsg te (zfA i)):=by
 intro pins s σ H D I h;refine wpAny_Assign_Name (yG (he pins s σ H _ I h) fun v s1 ⟨y,H1,I1,r1,q1⟩=>?_) hs;exact zbA I1 hN hi hx r1 (fun s2 I2=>⟨_,H1,I2,q1⟩) hf
end
section
variable {X : Cx} {pos : Pos}
def ziT (c:TT) (tb:TS):TS:=fun D σ H=>∃ W:Nat->St->Hp->Prop,(∃ m,W m σ H)/\∀ m σ H,W m σ H ->
 c σ H fun b H1=>if b=true then ∃ N:St->Hp->Prop,(∀ σ' H',N σ' H'->∃ m',m' < m/\W m' σ' H')/\tb { D with nx:=N,ct:=N,bk:=D.nx } σ H1 else D.nx σ H1
theorem zeU {c:Expr} {body:List Stmt} {tc:TT} {tb:TS} (hp:PassesOwn (model X.prog X.w) X.A X.env X.xe) (hc:PT X c tc) (hb:PSs X body tb):PS X (.While c body [] pos) (ziT tc tb):=by
 intro pins s σ H D I h;obtain ⟨W,⟨m0,w0⟩,turn⟩:=h;refine wpAny_While (codeAny_whileLoop (fun n s'=>∃ σ' H',Inv X pins σ' H' s'/\W n σ' H') ?_ m0 ⟨σ,H,I,w0⟩);rintro n s1 ⟨σ1,H1,I1,w1⟩;refine wpAny_passesOwn hp (yG (hc pins s1 σ1 H1 _ I1 (turn n σ1 H1 w1)) fun b s2 ⟨H2,I2,q2⟩=>?_)
 cases b with
 |true =>
  obtain ⟨N,hN,q2⟩:=q2;rw [if_pos rfl];refine wpAny_passesOwn hp (yG (hb pins s2 σ1 H2 _ I2 q2) fun f s3 q3=>?_)
  cases f with
  |next =>
   obtain ⟨σ3,H3,I3,n3⟩:=q3;obtain ⟨m',hm,w3⟩:=hN σ3 H3 n3;exact ⟨m',hm,σ3,H3,I3,w3⟩
  |cont =>
   obtain ⟨σ3,H3,I3,n3⟩:=q3;obtain ⟨m',hm,w3⟩:=hN σ3 H3 n3;exact ⟨m',hm,σ3,H3,I3,w3⟩
  |brk=>exact q3
  |ret v=>exact q3
 |false =>
  rw [if_neg zzN];exact wpAny_execs_nil ⟨σ1,H2,I2,q2⟩
end
structure It where
 go:Nat->Hp->Prop
 yld:Nat->Hp->V->Hp->Prop
 stop:Nat->Hp->Prop
def vR (X:Cx) (pins:List (Addr×Obj)) (H:Hp) (b:Addr):Prop :=
 H b=none/\b≠X.env.locals/\b∉X.fs/\(b∈X.ex\/X.s₀.heap.objs.size<=b)/\(∀ x c,X.env.cells.lookup x=some c->c≠b)/\∀ p∈X.pn++pins,p.1≠b
theorem Inv.fpOk {X:Cx} {pins:List (Addr×Obj)} {σ:St} {H H':Hp} {s:Shared} {b:Addr} (I:Inv X pins σ H s) (hb:s.heap.objs.size<=b) (hn:H' b=none):vR X pins H' b:=by
 refine ⟨hn,Nat.ne_of_gt (Nat.lt_of_lt_of_le I.lt hb),I.nofs hb,.inr (Nat.le_trans I.sz hb),fun x c e z=>?_,fun p hp z=>?_⟩
 .obtain ⟨v,q⟩:=I.cell x c e;exact absurd (Nat.lt_of_lt_of_le q.lt (by rw [z];exact hb)) (Nat.lt_irrefl _)
 .exact absurd (Nat.lt_of_lt_of_le (Heap.lt_size (I.pin p hp).1) (by rw [z];exact hb)) (Nat.lt_irrefl _)
structure Turn (P:Program) (w:World) (K:PySem.W.Frag) (tg:Expr) (J:It) (fp:List Addr) (it:Addr) (tn:Nat->Heap->Prop):Prop where
 mem:it∈fp
 obj:∀ i h,tn i h->∀ b∈fp,∃ o,h.get? b=some o/\∀ v,o.data≠.cell v
 keep:∀ i h h',tn i h->(∀ b∈fp,∀ o,h.get? b=some o->h'.get? b=some o)->tn i h'
 item:∀ (X:Cx),X.prog=P->X.w=w->X.K=K->X.calm=true->∀ (i:Nat) (pins:List (Addr×Obj)) (s:Shared) (σ:St) (H:Hp) (E:Value->Shared->Prop),Inv X pins σ H s->(∀ b∈fp,vR X pins H b)->tn i s.heap->J.go i H ->
  wpAny (model P w) X.A (pyNext (.ref it)) (fun r s1=>∃ u,r=some u /\
   wpAny (model P w) X.A (letOwnedTupleGo tg (.ref it) u) (fun _ s2=>∃ x H',Inv X pins σ H' s2/\zA x u/\J.yld i H x H'/\tn (i+1) s2.heap/\∀ b∈fp,H' b=none) E s1) E s
 done:∀ (X:Cx),X.prog=P->X.w=w->X.K=K->X.calm=true->∀ (i:Nat) (pins:List (Addr×Obj)) (s:Shared) (σ:St) (H:Hp) (E:Value->Shared->Prop),Inv X pins σ H s->(∀ b∈fp,vR X pins H b)->tn i s.heap->J.stop i H ->
  wpAny (model P w) X.A (pyNext (.ref it)) (fun r s1=>r=none/\Inv X pins σ H s1) E s
 self:∀ (A:Around) (i:Nat) (s:Shared) (Q:Value->Shared->Prop) (E:Value->Shared->Prop),tn i s.heap->Q (.ref it) s->wpAny (model P w) A (pyIter (.ref it)) Q E s
abbrev TI:=St->Hp->(It->Hp->Prop)->Prop
def PIE (X:Cx) (pins:List (Addr×Obj)) (σ:St) (tg:Expr) (R:It->Hp->Prop) (itv:Value) (s2:Shared):Prop :=
 ∃ (it:Addr) (fp:List Addr) (tn:Nat->Heap->Prop) (J:It) (H':Hp),itv=.ref it/\Inv X pins σ H' s2/\Turn X.prog X.w X.K tg J fp it tn/\tn 0 s2.heap/\(∀ b∈fp,vR X pins H' b)/\R J H'
def PI (X:Cx) (tg iter:Expr) (wi:TI):Prop :=
 ∀ (pins:List (Addr×Obj)) (s:Shared) (σ:St) (H:Hp) (R:It->Hp->Prop),Inv X pins σ H s->wi σ H R ->
  wpAny (model X.prog X.w) X.A (eval iter X.env) (fun v s1=>wpAny (model X.prog X.w) X.A (pyIter v) (PIE X pins σ tg R) X.xe s1) X.xe s
theorem zdK {M:Model} {A:Around} {E:Value->Shared->Prop} {s:Shared} {tg:Expr} {it:Addr} {u:Value} {o:Obj} {n:String} {vs:Array Value} {Q:Unit->Shared->Prop} (ho:s.heap.get? it=some o) (hc:o.cls=.type n) (hd:o.data=.fields vs)
    (hn:["enumerate", "zip", "dict_itemiterator", "dict_reverseitemiterator", "odict_iterator", "itertools.zip_longest", "itertools.pairwise"].contains n=false) (hQ:Q () s):wpAny M A (letOwnedTupleGo tg (.ref it) u) Q E s:=by
  unfold letOwnedTupleGo
  cases tg<;>first
    |exact wpAny_pure hQ
    | (cases u<;>first
        |exact wpAny_pure hQ
        | (refine wpAny_bind (wpAny_load ho ?_)
           rw [hc,hd];show wpAny M A (if (["enumerate", "zip", "dict_itemiterator", "dict_reverseitemiterator", "odict_iterator", "itertools.zip_longest", "itertools.pairwise"].contains n&&vs[0]?==some (rawInt _))=true then _ else _) Q E s;rw [if_neg (by intro h;rw [hn,Bool.false_and] at h;cases h)];exact wpAny_pure hQ))
def Itl (K:PySem.W.Frag) (a:Addr):It :=
 ⟨fun i H=>∃ xs x,nE K H a xs/\xs[i]?=some x,fun i H x H'=>H'=H/\∀ xs,nE K H a xs->xs[i]?=some x,fun i H=>∃ xs,nE K H a xs/\xs.length<=i⟩
def Itt (K:PySem.W.Frag) (a:Addr):It :=
 ⟨fun i H=>∃ xs x,rM K H a xs/\xs[i]?=some x,fun i H x H'=>H'=H/\∀ xs,rM K H a xs->xs[i]?=some x,fun i H=>∃ xs,rM K H a xs/\xs.length<=i⟩
def Itr (lo:Int) (n:Nat):It:=⟨fun i _=>i<n,fun i H x H'=>H'=H/\x=.int (lo+i),fun i _=>n<=i⟩
theorem zcL {P:Program} {w:World} {K:PySem.W.Frag} {tg:Expr} (a it:Addr):Turn P w K tg (Itl K a) [it] it (fun i h=>h.IsListIter it a i) where
 mem:=by simp
 obj:=fun i h st b hb=>by
  have e:b=it:=by simpa using hb
  subst e;obtain ⟨o,e,c,d⟩:=st;exact ⟨o,e,fun v z=>by rw [d] at z;cases z⟩
 keep:=fun i h h' st k=>st.at fun o e=>k it (by simp) o e
 item:=by
  intro X hP hw hK hc i pins s σ H E I hf st hg;subst hP hw hK;obtain ⟨xs,x,hq,hx⟩:=hg;obtain ⟨its,rv,p,hz⟩:=I.list hq;obtain ⟨u,hu,ru⟩:=rv.get hx;obtain ⟨f0,f1,f2,f3,f4,f5⟩:=hf it (by simp);refine wpAny_pyNext_list_item st p.isList (x:=u) (by simpa using hu) fun h' st' sb=>?_;have I1:Inv X pins σ H { s with heap:=h' }:=I.turned (t':=s.toks) (fun b o hb e=>(sb.2 b hb).trans e) f0 f1 f3 f4 f5;obtain ⟨o,e,c,d⟩:=id st';exact ⟨u,rfl,zdK (s:={ s with heap:=h' }) e c d (by decide) ⟨x,H,I1,ru,⟨rfl,fun ys hy=>by rw [I.list_inj hy hq];exact hx⟩,st',fun b hb=>(hf b hb).1⟩⟩
 done:=by
  intro X hP hw hK hc i pins s σ H E I hf st hg;subst hP hw hK;obtain ⟨xs,hq,hx⟩:=hg;obtain ⟨its,rv,p,hz⟩:=I.list hq;obtain ⟨f0,f1,f2,f3,f4,f5⟩:=hf it (by simp);have hl:=rv.length;exact wpAny_pyNext_list_end (I.ok.hd hc) st p.isList (by simp;omega) fun h' eb=>⟨rfl,I.turned (t':=s.toks) (fun b o hb e=>eb b o hb e) f0 f1 f3 f4 f5⟩
 self:=fun _ _ _ _ _ st h=>wpAny_pyIter_listiter st h
theorem zcc {P:Program} {w:World} {K:PySem.W.Frag} {tg:Expr} (a it:Addr):Turn P w K tg (Itt K a) [it] it (fun i h=>h.IsTupleIter it a i) where
 mem:=by simp
 obj:=fun i h st b hb=>by
  have e:b=it:=by simpa using hb
  subst e;obtain ⟨o,e,c,d⟩:=st;exact ⟨o,e,fun v z=>by rw [d] at z;cases z⟩
 keep:=fun i h h' st k=>st.at fun o e=>k it (by simp) o e
 item:=by
  intro X hP hw hK hc i pins s σ H E I hf st hg;subst hP hw hK;obtain ⟨xs,x,hq,hx⟩:=hg;obtain ⟨its,rv,p,hz⟩:=I.tuple hq;obtain ⟨u,hu,ru⟩:=rv.get hx;obtain ⟨f0,f1,f2,f3,f4,f5⟩:=hf it (by simp);refine wpAny_pyNext_tuple_item st (show s.heap.IsTuple a its.toArray from p) (x:=u) (by simpa using hu) fun h' st' sb=>?_;have I1:Inv X pins σ H { s with heap:=h' }:=I.turned (t':=s.toks) (fun b o hb e=>(sb.2 b hb).trans e) f0 f1 f3 f4 f5;obtain ⟨o,e,c,d⟩:=id st';exact ⟨u,rfl,zdK (s:={ s with heap:=h' }) e c d (by decide) ⟨x,H,I1,ru,⟨rfl,fun ys hy=>by rw [I.tuple_inj hy hq];exact hx⟩,st',fun b hb=>(hf b hb).1⟩⟩
 done:=by
  intro X hP hw hK hc i pins s σ H E I hf st hg;subst hP hw hK;obtain ⟨xs,hq,hx⟩:=hg;obtain ⟨its,rv,p,hz⟩:=I.tuple hq;obtain ⟨f0,f1,f2,f3,f4,f5⟩:=hf it (by simp);have hl:=rv.length;exact wpAny_pyNext_tuple_end (I.ok.hd hc) st (show s.heap.IsTuple a its.toArray from p) (by simp;omega) fun h' eb=>⟨rfl,I.turned (t':=s.toks) (fun b o hb e=>eb b o hb e) f0 f1 f3 f4 f5⟩
 self:=fun _ _ _ _ _ st h=>wpAny_pyIter_tupleiter st h
theorem zcd {P:Program} {w:World} {K:PySem.W.Frag} {tg:Expr} (it:Addr) (lo:Int) (n:Nat):Turn P w K tg (Itr lo n) [it] it (fun i h=>IsRangeIter h it (lo+(i:Nat) * 1) ((n:Int)-(i:Nat)) 1) where
 mem:=by simp
 obj:=fun i h st b hb=>by
  have e:b=it:=by simpa using hb
  subst e
  exact ⟨_,st,fun v z=>by
   have z':Data.fields _=Data.cell v:=z;cases z'⟩
 keep:=fun i h h' st k=>k it (by simp) _ st
 item:=by
  intro X hP hw hK hc i pins s σ H E I hf st hg;subst hP hw hK;obtain ⟨f0,f1,f2,f3,f4,f5⟩:=hf it (by simp);have W:=Walks.range (prog:=X.prog) (w:=X.w) (I.ok.hd hc) it lo 1 n;refine wB I.tk (W.item i s _ _ hg st fun v h' tk hv st' kk h0=>?_);obtain ⟨t,rfl⟩:=hv;have I1:Inv X pins σ H { s with heap:=h',toks:=tk }:=I.turned (fun b o hb e=>kk b o (by simpa using hb) e) f0 f1 f3 f4 f5;refine ⟨_,rfl,zdK (s:={ s with heap:=h',toks:=tk }) (n := "range_iterator") st' rfl rfl (by decide) ⟨.int (lo+i),H,I1,⟨t,?_⟩,⟨rfl,rfl⟩,st',fun b hb=>(hf b hb).1⟩⟩;rw [Int.mul_one]
 done:=by
  intro X hP hw hK hc i pins s σ H E I hf st hg;subst hP hw hK;obtain ⟨f0,f1,f2,f3,f4,f5⟩:=hf it (by simp);exact wpAny_pyNext_range_end (I.ok.hd hc) st (by have:n<=i:=hg;omega) fun h' eb=>⟨rfl,I.turned (t':=s.toks) (fun b o hb e=>eb b o hb e) f0 f1 f3 f4 f5⟩
 self:=fun _ _ _ _ _ st h=>wpAny_pyIter_rangeiter st h
end L2
namespace L2
open PySem PySem.Spec PyProof.Rows
section
variable {X : Cx} {tg : Expr}
theorem zeQ {pins:List (Addr×Obj)} {σ:St} {H:Hp} {s:Shared} {R:It->Hp->Prop} {E:Value->Shared->Prop} {lo hi:Int} {t u v:Tok} {tk:Nat} (I:Inv X pins σ H s) (h0:0<tk) (h1:-(2 ^ 62)<=lo) (h2:lo<2 ^ 62) (h3:-(2 ^ 62)<=hi) (h4:hi<2 ^ 62)
  (q:R (Itr lo (hi-lo).toNat) H):wpAny (model X.prog X.w) X.A (pyIter (.ref s.heap.objs.size)) (PIE X pins σ tg R) E { s with heap:=s.heap.push { cls:=.type "range", data:=.fields #[.int lo t,.int hi u,.int 1 v] },toks:=tk }:=by
 refine wpAny_pyIter_range (IsRange.new ..) (small_one h1 h2 h3 h4) ?_;have I1:Inv X pins σ H { s with heap:=s.heap.push { cls:=.type "range", data:=.fields #[.int lo t,.int hi u,.int 1 v] },toks:=tk }:=I.kept fun b o e=>Heap.get?_push_of_some _ e
 refine ⟨(s.heap.push { cls:=.type "range", data:=.fields #[.int lo t,.int hi u,.int 1 v] }).objs.size,[(s.heap.push { cls:=.type "range", data:=.fields #[.int lo t,.int hi u,.int 1 v] }).objs.size],_,_,H,rfl,
  I1.kept (t':=tk) fun b o e=>Heap.get?_push_of_some _ e,zcd _ lo (hi-lo).toNat,?_,fun b hb=>?_,q⟩
 .have e1:lo+((0:Nat):Int) * 1=lo:=by simp
  have e2:(((hi-lo).toNat:Nat):Int)-((0:Nat):Int)=Builtin.Range.rangeSize lo hi 1:=by rw [rangeSize_one];split<;>omega
  show IsRangeIter _ _ (lo+((0:Nat):Int) * 1) ((((hi-lo).toNat:Nat):Int)-((0:Nat):Int)) 1;rw [e1,e2];exact Heap.get?_push_size _ rfl
 .have e:b=(s.heap.push { cls:=.type "range", data:=.fields #[.int lo t,.int hi u,.int 1 v] }).objs.size:=by simpa using hb
  subst e;exact I1.fpOk (zzR _) (I1.hok.fresh (zzR _))
def tFor (wi:TI) (g:TG) (tb:TS):TS:=fun D σ H=>wi σ H fun J H1=>∃ W:Nat->Nat->St->Hp->Prop,(∃ m,W 0 m σ H1)/\∀ i m σ H,W i m σ H ->
 (J.stop i H/\D.nx σ H)\/(J.go i H/\∃ N:St->Hp->Prop,(∀ σ' H',N σ' H'->∃ m',m' < m/\W (i+1) m' σ' H')/\∀ x H',J.yld i H x H'->g x σ H' fun σ2 H2=>tb { D with nx:=N,ct:=N,bk:=D.nx } σ2 H2)
def nZ (fp:List Addr) (h:Heap):List (Addr×Obj):=fp.filterMap fun b=>(h.get? b).map fun o=>(b,o)
theorem vD {fp:List Addr} {h:Heap} {b:Addr} {o:Obj} (hb:b∈fp) (e:h.get? b=some o):(b,o)∈nZ fp h:=List.mem_filterMap.mpr ⟨b,hb,by rw [e];rfl⟩
theorem zdh {fp:List Addr} {h:Heap} {p:Addr×Obj} (hp:p∈nZ fp h):p.1∈fp/\h.get? p.1=some p.2:=by
 obtain ⟨b,hb,e⟩:=List.mem_filterMap.mp hp
 cases q:h.get? b with
 |none=>rw [q] at e;cases e
 |some o =>
  rw [q] at e;have e':(b,o)=p:=Option.some.inj e;subst e';exact ⟨hb,q⟩
theorem Inv.pinned {pins:List (Addr×Obj)} {σ:St} {H:Hp} {s:Shared} {fp:List Addr} (I:Inv X pins σ H s) (hf:∀ b∈fp,vR X pins H b) (ho:∀ b∈fp,∃ o,s.heap.get? b=some o/\∀ v,o.data≠.cell v):Inv X (pins++nZ fp s.heap) σ H s :=
 I.pins_of fun p hp=>(List.mem_append.mp hp).elim (fun z=>I.pin p (List.mem_append_right _ z)) fun z=>by
  obtain ⟨hb,e⟩:=zdh z;obtain ⟨f0,f1,f2,_⟩:=hf p.1 hb;obtain ⟨o,e',d⟩:=ho p.1 hb;rw [e] at e';cases e';exact ⟨e,f0,f1,f2,d⟩
theorem Inv.unpinned {pins pl:List (Addr×Obj)} {σ:St} {H:Hp} {s:Shared} (I:Inv X (pins++pl) σ H s):Inv X pins σ H s:=I.pins_of fun p hp=>I.pin p (List.mem_append_right _ (List.mem_append_left _ hp))
theorem zjs {iter:Expr} {body:List Stmt} {wi:TI} {g:TG} {tb:TS} {pos:Pos} (hp:PassesOwn (model X.prog X.w) X.A X.env X.xe) (hc:X.calm=true) (hi:PI X tg iter wi) (hg:PG X tg g) (hb:PSs X body tb)
  (hs:∀ x,foldedSetIterable iter X.env x=pure x:=by intro _;rfl):PS X (.For tg iter body [] pos) (tFor wi g tb):=by
 intro pins s σ H D I h;refine wpAny_For (yG (hi pins s σ H _ I h) fun v s1 h1=>yG h1 fun itv s2 h2=>?_) hs;obtain ⟨it,fp,tn,J,H2,e,I2,T,st2,f2,W,⟨m0,w0⟩,turn⟩:=h2;subst e;have stat:∀ {H':Hp},(∀ b∈fp,H' b=none)->∀ b∈fp,vR X pins H' b:=fun hn b hb=>⟨hn b hb,(f2 b hb).2⟩;refine codeAny_forLoop_any (fun n s'=>∃ i σ' H',Inv X pins σ' H' s'/\tn i s'.heap/\(∀ b∈fp,H' b=none)/\W i n σ' H') ?_ m0 ⟨0,σ,H2,I2,st2,fun b hb=>(f2 b hb).1,w0⟩;rintro n s3 ⟨i,σ3,H3,I3,st3,fr3,w3⟩;rcases turn i n σ3 H3 w3 with ⟨stop,qn⟩|⟨go,N,hN,step⟩
 .refine wpAny_passesOwn hp (yG (T.done X rfl rfl rfl hc i pins s3 σ3 H3 X.xe I3 (stat fr3) st3 stop) fun r s4 ⟨hr,I4⟩=>?_);subst hr;exact wpAny_execs_nil ⟨σ3,H3,I4,qn⟩
 .refine wpAny_passesOwn hp (yG (T.item X rfl rfl rfl hc i pins s3 σ3 H3 X.xe I3 (stat fr3) st3 go) fun r s4 ⟨u,hr,h4⟩=>?_);subst hr;refine wpAny_passesOwn hp (yG h4 fun _ s5 ⟨x,H5,I5,r5,y5,st5,fr5⟩=>?_);have I5':=I5.pinned (stat fr5) (T.obj _ _ st5);refine wpAny_passesOwn hp (yG (hg _ s5 σ3 H5 x u _ I5' r5 (step x H5 y5)) fun _ s6 ⟨σ6,H6,I6,q6⟩=>?_);refine wpAny_passesOwn hp (yG (hb _ s6 σ6 H6 _ I6 q6) fun f s7 q7=>?_)
  have again:∀ {σ7:St} {H7:Hp},Inv X (pins++nZ fp s5.heap) σ7 H7 s7->N σ7 H7->∃ m,m<n/\∃ i σ' H',Inv X pins σ' H' s7/\tn i s7.heap/\(∀ b∈fp,H' b=none)/\W i m σ' H':=fun {σ7 H7} I7 n7=>by
   obtain ⟨m',hm,w7⟩:=hN σ7 H7 n7;refine ⟨m',hm,i+1,σ7,H7,I7.unpinned,T.keep _ _ _ st5 fun b hb o e=>(I7.pin (b,o) (List.mem_append_right _ (List.mem_append_right _ (vD hb e)))).1,fun b hb=>?_,w7⟩;obtain ⟨o,e,d⟩:=T.obj _ _ st5 b hb;exact (I7.pin (b,o) (List.mem_append_right _ (List.mem_append_right _ (vD hb e)))).2.1
  cases f with
  |next=>obtain ⟨σ7,H7,I7,n7⟩:=q7;exact again I7 n7
  |cont=>obtain ⟨σ7,H7,I7,n7⟩:=q7;exact again I7 n7
  |brk=>obtain ⟨σ7,H7,I7,q7⟩:=q7;exact ⟨σ7,H7,I7.unpinned,q7⟩
  |ret v=>obtain ⟨x7,σ7,H7,I7,r7,q7⟩:=q7;exact ⟨x7,σ7,H7,I7.unpinned,r7,q7⟩
end
end L2
namespace L2
open PySem PySem.Spec PyProof.Rows
abbrev R2:=V->V->Hp->VK->Prop
def vS (X:Cx) (f:Value->Value->Sem Value) (r:R2):Prop :=
 ∀ (pins:List (Addr×Obj)) (s:Shared) (σ:St) (H:Hp) (x y:V) (v u:Value) (Q:VK),Inv X pins σ H s->zA x v->zA y u->r x y H Q ->
  wpAny (model X.prog X.w) X.A (f v u) (EP X pins σ Q) X.xe s
def UnR (X:Cx) (f:Value->Sem Value) (r:V->Hp->VK->Prop):Prop :=
 ∀ (pins:List (Addr×Obj)) (s:Shared) (σ:St) (H:Hp) (x:V) (v:Value) (Q:VK),Inv X pins σ H s->zA x v->r x H Q ->
  wpAny (model X.prog X.w) X.A (f v) (EP X pins σ Q) X.xe s
def qO (X:Cx) (f:Value) (r:List V->Hp->VK->Prop):Prop :=
 ∀ (pins:List (Addr×Obj)) (s:Shared) (σ:St) (H:Hp) (xs:List V) (us:List Value) (Q:VK),Inv X pins σ H s->zE xs us->r xs H Q ->
  wpAny (model X.prog X.w) X.A (call f us) (EP X pins σ Q) X.xe s
def TruR (X:Cx) (r:V->Hp->(Bool->Hp->Prop)->Prop):Prop :=
 ∀ (pins:List (Addr×Obj)) (s:Shared) (σ:St) (H:Hp) (x:V) (v:Value) (Q:Bool->Hp->Prop),Inv X pins σ H s->zA x v->r x H Q ->
  wpAny (model X.prog X.w) X.A (truthy v) (TP X pins σ Q) X.xe s
def tOp (r:R2) (ta tb:TE):TE:=fun σ H Q=>ta σ H fun x H1=>tb σ H1 fun y H2=>r x y H2 Q
def tUn (r:V->Hp->VK->Prop) (ta:TE):TE:=fun σ H Q=>ta σ H fun x H1=>r x H1 Q
def rI (C:Int->Int->Prop) (g:Int->Int->V):R2:=fun x y H Q=>∃ i j,x=.int i/\y=.int j/\C i j/\Q (g i j) H
def rI0 (g:Int->Int->V):R2:=fun x y H Q=>∃ i j,x=.int i/\y=.int j/\Q (g i j) H
def rU (g:Int->V):V->Hp->VK->Prop:=fun x H Q=>∃ i,x=.int i/\Q (g i) H
section
variable {X : Cx} {a b c : Expr} {ta tb tc : TE} {pos : Pos}
theorem binT (ha:PE X a ta) (hb:PE X b tb) {pins:List (Addr×Obj)} {s:Shared} {σ:St} {H:Hp} {R:V->V->Hp->Prop} (I:Inv X pins σ H s)
  (h:ta σ H fun x H1=>tb σ H1 fun y H2=>R x y H2) {Q:Value->Shared->Prop} {f:Value->Value->Sem Value}
  (hf:∀ v u s2 x y H2,Inv X pins σ H2 s2->zA x v->zA y u->R x y H2->wpAny (model X.prog X.w) X.A (f v u) Q X.xe s2) :
  wpAny (model X.prog X.w) X.A (eval a X.env) (fun v s₁=>wpAny (model X.prog X.w) X.A (eval b X.env) (fun u s₂=>wpAny (model X.prog X.w) X.A (f v u) Q X.xe s₂) X.xe s₁) X.xe s:=by
 refine yG (ha pins s σ H _ I h) fun v s1 ⟨x,H1,I1,r1,q1⟩=>?_;refine yG (hb pins s1 σ H1 _ I1 q1) fun u s2 ⟨y,H2,I2,r2,q2⟩=>?_;exact hf v u s2 x y H2 I2 r1 r2 q2
theorem pe_op {op:Operator} {r:R2} (ho:vS X (binaryOp op) r) (ha:PE X a ta) (hb:PE X b tb):PE X (.BinOp a op b pos) (tOp r ta tb):=by
 intro pins s σ H Q I h;exact wpAny_BinOp (binT ha hb I h fun v u s2 x y H2 I2 rx ry q=>ho pins s2 σ H2 x y v u Q I2 rx ry q)
theorem zjy {op:UnaryOp} {r:V->Hp->VK->Prop} (ho:UnR X (unaryOp op) r) (ha:PE X a ta):PE X (.UnaryOp op a pos) (tUn r ta):=by
 intro pins s σ H Q I h;exact UnaryOp_ (yG (ha pins s σ H _ I h) fun v s1 ⟨x,H1,I1,r1,q1⟩=>ho pins s1 σ H1 x v Q I1 r1 q1)
theorem opI {f:Value->Value->Sem Value} {C:Int->Int->Prop} {g:Int->Int->Int}
  (rule:∀ (i j:Int) (t u:Tok) (s:Shared) (Q:Value->Shared->Prop) (E:Value->Shared->Prop),C i j->Q (.int (g i j) s.toks) { s with toks:=s.toks+1 }->wpAny (model X.prog X.w) X.A (f (.int i t) (.int j u)) Q E s) :
  vS X f (rI C fun i j=>.int (g i j)):=by
 intro pins s σ H x y v u Q I rx ry h;obtain ⟨i,j,rfl,rfl,hc,q⟩:=h;obtain ⟨t,rfl⟩:=rx;obtain ⟨t',rfl⟩:=ry;exact rule i j t t' s _ _ hc ⟨.int (g i j),H,I.tok _,⟨_,rfl⟩,q⟩
theorem opI0 {f:Value->Value->Sem Value} {g:Int->Int->Int}
  (rule:∀ (i j:Int) (t u:Tok) (s:Shared) (Q:Value->Shared->Prop) (E:Value->Shared->Prop),Q (.int (g i j) s.toks) { s with toks:=s.toks+1 }->wpAny (model X.prog X.w) X.A (f (.int i t) (.int j u)) Q E s) :
  vS X f (rI0 fun i j=>.int (g i j)):=by
 intro pins s σ H x y v u Q I rx ry h;obtain ⟨i,j,rfl,rfl,q⟩:=h;obtain ⟨t,rfl⟩:=rx;obtain ⟨t',rfl⟩:=ry;exact rule i j t t' s _ _ ⟨.int (g i j),H,I.tok _,⟨_,rfl⟩,q⟩
theorem opB0 {f:Value->Value->Sem Value} {g:Int->Int->Bool}
  (rule:∀ (i j:Int) (t u:Tok) (s:Shared) (Q:Value->Shared->Prop) (E:Value->Shared->Prop),Q (.bool (g i j)) s->wpAny (model X.prog X.w) X.A (f (.int i t) (.int j u)) Q E s) :
  vS X f (rI0 fun i j=>.bl (g i j)):=by
 intro pins s σ H x y v u Q I rx ry h;obtain ⟨i,j,rfl,rfl,q⟩:=h;obtain ⟨t,rfl⟩:=rx;obtain ⟨t',rfl⟩:=ry;exact rule i j t t' s _ _ ⟨.bl (g i j),H,I,rfl,q⟩
def CDiv (i j:Int):Prop:=0<j/\j<1073741824
def CPow (i j:Int):Prop:=0<=j/\j<=1000000/\i.natAbs<2 ^ 64
def CMul (i j:Int):Prop:=(-(2 ^ 64)<i/\i<2 ^ 64)\/(-(2 ^ 64)<j/\j<2 ^ 64)
theorem CMul.ok {i j:Int} (h:CMul i j):IntMulOk i j:=by
 rcases h with ⟨h1,h2⟩|⟨h1,h2⟩
 .exact .of_left (intBits_le_64 h1 h2)
 .exact .of_right (intBits_le_64 h1 h2)
theorem zjO:vS X (binaryOp .Add) (rI0 fun i j=>.int (i+j)):=opI0 fun _ _ _ _ _ _ _ q=>add_int q
theorem zjI:vS X (binaryOp .Sub) (rI0 fun i j=>.int (i-j)):=opI0 fun _ _ _ _ _ _ _ q=>sub_int q
theorem zjL:vS X (binaryOp .Mult) (rI CMul fun i j=>.int (i * j)):=opI fun _ _ _ _ _ _ _ hc q=>mul_int q hc.ok
theorem zhs:vS X (binaryOp .FloorDiv) (rI CDiv fun i j=>.int (i / j)):=opI fun i j _ _ _ _ _ hc q=>by
 have h1:(0:Int)<j:=hc.1;have h2:j<1073741824:=hc.2;exact floordiv_int (by omega) (by rw [Int.fdiv_eq_ediv_of_nonneg i (by omega)];exact q) (.inl (PyProof.noPylong_small (by omega)))
theorem zjM:vS X (binaryOp .Mod) (rI (fun _ j=>0<j) fun i j=>.int (i % j)):=opI fun i j _ _ _ _ _ hc q=>by
 have h1:(0:Int)<j:=hc;exact mod_int' (by omega) (by rw [Int.fmod_eq_emod_of_nonneg i (by omega)];exact q)
theorem zjK:vS X (binaryOp .Pow) (rI CPow fun i j=>.int (i ^ j.toNat)):=opI fun _ _ _ _ _ _ _ hc q=>pow_int_small hc.1 hc.2.1 hc.2.2 q
theorem unI {f:Value->Sem Value} {g:Int->Int}
  (rule:∀ (i:Int) (t:Tok) (s:Shared) (Q:Value->Shared->Prop) (E:Value->Shared->Prop),Q (.int (g i) s.toks) { s with toks:=s.toks+1 }->wpAny (model X.prog X.w) X.A (f (.int i t)) Q E s) :
  UnR X f (rU fun i=>.int (g i)):=by
 intro pins s σ H x v Q I rx h;obtain ⟨i,rfl,q⟩:=h;obtain ⟨t,rfl⟩:=rx;exact rule i t s _ _ ⟨.int (g i),H,I.tok _,⟨_,rfl⟩,q⟩
theorem zfR:UnR X (unaryOp .USub) (rU fun i=>.int (-i)):=unI fun _ _ _ _ _ q=>neg_int q
end
section
variable {X : Cx} {a b c : Expr} {ta tb tc : TE} {pos : Pos}
theorem zkO {pins:List (Addr×Obj)} {σ:St} {H:Hp} {s:Shared} {Q:VK} {k k':Bool} (I:Inv X pins σ H s) (q:Q (.bl k) H) (e:k=k'):EP X pins σ Q (.bool k') s:=by
 subst e;exact ⟨.bl k,H,I,rfl,q⟩
theorem op_lt:vS X (compareOp .Lt) (rI0 fun i j=>.bl (decide (i<j))):=opB0 fun _ _ _ _ _ _ _ q=>lt_int q
theorem op_le:vS X (compareOp .LtE) (rI0 fun i j=>.bl (decide (i<=j))):=opB0 fun _ _ _ _ _ _ _ q=>le_int q
theorem op_gt:vS X (compareOp .Gt) (rI0 fun i j=>.bl (decide (j<i))):=opB0 fun _ _ _ _ _ _ _ q=>gt_int q
theorem op_ge:vS X (compareOp .GtE) (rI0 fun i j=>.bl (decide (j<=i))):=opB0 fun _ _ _ _ _ _ _ q=>ge_int q
theorem zdg:vS X (compareOp .In) (fun x y H Q=>∃ i j,x=.str i/\y=.str j/\Q (.bl (!(Builtin.Str.occurrences j i 0 j.length 1).isEmpty)) H):=by
 intro pins s σ H x y v u Q I rx ry h;obtain ⟨i,j,rfl,rfl,q⟩:=h;obtain ⟨t,rfl⟩:=rx;obtain ⟨t',rfl⟩:=ry;exact in_str (zkO I q rfl)
theorem zhm {op:CmpOp} {r:R2} (ho:vS X (compareOp op) r) (ha:PE X a ta) (hb:PE X b tb) (hm:behindInMarks op b=false):PE X (.Compare a [op] [b] pos) (tOp r ta tb):=by
 intro pins s σ H Q I h;exact wpAny_Compare1 (binT ha hb I h fun v u s2 x y H2 I2 rx ry q=>ho pins s2 σ H2 x y v u Q I2 rx ry q) hm
def zgN (t:TE):TT:=fun σ H Q=>t σ H fun x H'=>∃ k,x=.bl k/\Q k H'
theorem zhb {op:CmpOp} {r:R2} (ho:vS X (compareOp op) r) (ha:PE X a ta) (hb:PE X b tb) (hm:behindInMarks op b=false):PT X (.Compare a [op] [b] pos) (zgN (tOp r ta tb)):=by
 intro pins s σ H Q I h
 refine wpAny_isTrue_Compare1 (yG (ha pins s σ H _ I h) fun v s1 ⟨x,H1,I1,r1,q1⟩=>yG (hb pins s1 σ H1 _ I1 q1) fun u s2 ⟨y,H2,I2,r2,q2⟩ =>
  yG (ho pins s2 σ H2 x y v u _ I2 r1 r2 q2) fun c s3 ⟨z,H3,I3,r3,k,e,q3⟩=>?_) hm
 subst e;cases r3;exact wpAny_truthy_bool ⟨H3,I3,q3⟩
def zcQ (r r':R2) (ta tb tc:TE):TE:=fun σ H Q=>ta σ H fun x H1=>tb σ H1 fun y H2=>r x y H2 fun z H3=>∃ k,z=.bl k /\
 (if k=true then tc σ H3 fun w' H4=>r' y w' H4 Q else Q (.bl false) H3)
theorem ze5 {op op':CmpOp} {r r':R2} (ho:vS X (compareOp op) r) (ho':vS X (compareOp op') r') (ha:PE X a ta) (hb:PE X b tb) (hc:PE X c tc)
  (hm:lastMarks [op,op'] [b,c]=false:=by with_unfolding_all rfl):PE X (.Compare a [op,op'] [b,c] pos) (zcQ r r' ta tb tc):=by
 intro pins s σ H Q I h
 refine Compare_chain (yG (ha pins s σ H _ I h) fun v s1 ⟨x,H1,I1,r1,q1⟩=>chain_link (yG (hb pins s1 σ H1 _ I1 q1) fun u s2 ⟨y,H2,I2,r2,q2⟩ =>
  yG (ho pins s2 σ H2 x y v u _ I2 r1 r2 q2) fun d s3 ⟨z,H3,I3,r3,k,e,q3⟩=>?_)) hm
 subst e;cases r3;refine wpAny_truthy_bool ?_
 cases k with
 |false=>exact ite_ff ⟨.bl false,H3,I3,rfl,q3⟩
 |true=>exact ite_tt (chain_last (yG (hc pins s3 σ H3 _ I3 q3) fun w' s4 ⟨z',H4,I4,r4,q4⟩=>ho' pins s4 σ H4 y z' u w' Q I4 r2 r4 q4))
theorem zeS {op op':CmpOp} {r r':R2} (ho:vS X (compareOp op) r) (ho':vS X (compareOp op') r') (ha:PE X a ta) (hb:PE X b tb) (hc:PE X c tc)
  (hm:lastMarks [op,op'] [b,c]=false:=by with_unfolding_all rfl):PT X (.Compare a [op,op'] [b,c] pos) (zgN (zcQ r r' ta tb tc)):=by
 intro pins s σ H Q I h
 refine isTrue_chain (yG (ha pins s σ H _ I h) fun v s1 ⟨x,H1,I1,r1,q1⟩=>test_link (yG (hb pins s1 σ H1 _ I1 q1) fun u s2 ⟨y,H2,I2,r2,q2⟩ =>
  yG (ho pins s2 σ H2 x y v u _ I2 r1 r2 q2) fun d s3 ⟨z,H3,I3,r3,k,e,q3⟩=>?_)) hm
 subst e;cases r3;refine wpAny_truthy_bool ?_
 cases k with
 |false =>
  obtain ⟨k',e',q'⟩:=q3;cases e';exact ite_ff ⟨H3,I3,q'⟩
 |true =>
  refine ite_tt (test_last (yG (hc pins s3 σ H3 _ I3 q3) fun w' s4 ⟨z',H4,I4,r4,q4⟩=>yG (ho' pins s4 σ H4 y z' u w' _ I4 r2 r4 q4) fun d' s5 ⟨z2,H5,I5,r5,k2,e2,q5⟩=>?_));subst e2;cases r5;exact wpAny_truthy_bool ⟨H5,I5,q5⟩
def TruV (K:PySem.W.Frag) (x:V) (H:Hp) (k:Bool):Prop :=
 match x with
 | .non=>k=false
 | .bl b=>k=b
 | .int i=>k=(i != 0)
 | .str y=>y.length<=sizeLine/\k=((y.length:Int) != 0)
 | .byt y=>y.size<=sizeLine/\k=((y.size:Int) != 0)
 | .ref p=>(∃ xs,nE K H p xs/\k=!xs.isEmpty)\/(∃ xs,rM K H p xs/\k=!xs.isEmpty)\/∃ kvs,H p=some (.dK kvs)/\k=!kvs.isEmpty
 |_=>False
theorem zcr {κ:Type} {kvs:List (κ×V)} {vs:List (κ×Value)} (r:KV kvs vs):(!vs.isEmpty)=!kvs.isEmpty:=by
 cases r<;>rfl
theorem dD {xs:List V} {its:List Value} (r:zE xs its):(!its.toArray.isEmpty)=!xs.isEmpty:=by
 cases r<;>simp
theorem rS:(sizeLine:Nat)<2 ^ 63:=by rw [sizeLine_eq];decide
theorem ziK:TruR X (fun x H Q=>∃ k,TruV X.K x H k/\Q k H):=by
 intro pins s σ H x v Q I rx h;obtain ⟨k,e,q⟩:=h;have hl:=rS;have hs:sizeLine=16777216:=sizeLine_eq
 cases x with
 |non =>
  cases rx;have e':k=false:=e;subst e';exact truthy_none ⟨H,I,q⟩
 |bl b =>
  cases rx;have e':k=b:=e;subst e';exact wpAny_truthy_bool ⟨H,I,q⟩
 |int i =>
  obtain ⟨t,rfl⟩:=rx;have e':k=(i != 0):=e;subst e';exact PySem.P.truthy_int ⟨H,I,q⟩
 |str y =>
  obtain ⟨t,rfl⟩:=rx;obtain ⟨hy,e'⟩:y.length<=sizeLine/\k=((y.length:Int) != 0):=e;subst e';exact PySem.P.truthy_str (by omega) ⟨H,I.tok _,q⟩
 |byt y =>
  obtain ⟨t,rfl⟩:=rx;obtain ⟨hy,e'⟩:y.size<=sizeLine/\k=((y.size:Int) != 0):=e;subst e';exact PySem.W.truthy_bytes (by omega) ⟨H,I.tok _,q⟩
 |ref p =>
  cases rx;have e':(∃ xs,nE X.K H p xs/\k=!xs.isEmpty)\/(∃ xs,rM X.K H p xs/\k=!xs.isEmpty)\/∃ kvs,H p=some (.dK kvs)/\k=!kvs.isEmpty:=e;rcases e' with ⟨xs,hx,e'⟩|⟨xs,hx,e'⟩|⟨kvs,hx,e'⟩
  .subst e';obtain ⟨its,r,pl,hz⟩:=I.list hx;have hlen:=r.length;exact wpAny_truthy_list pl.isList (by simp only [zzS];omega) ⟨H,I.tok _,by rw [dD r];exact q⟩
  .subst e';obtain ⟨its,r,pl,hz⟩:=I.tuple hx;have hlen:=r.length;exact truthy_tuple pl (by simp only [zzS];omega) ⟨H,I.tok _,by rw [dD r];exact q⟩
  .subst e';obtain ⟨hz,hS,vs,r,m⟩:kvs.length<=sizeLine/\(p==sysModules)=false/\∃ vs,KV kvs vs/\s.heap.DictOf (xR X.prog X.w) p vs:=I.hok p _ hx;have hlen:kvs.length=vs.length:=Paired.length r;exact wpAny_truthy_dict hS m (by omega) ⟨H,I.tok _,by rw [zcr r];exact q⟩
 |_=>exact (show False from e).elim
theorem zeR (ha:PE X a ta) (he:∀ whole,isTrue a X.env whole=(do let v ← whole;standAt a.pos;holding [v] (truthy v))) :
  PT X a (fun σ H Q=>ta σ H fun x H'=>∃ k,TruV X.K x H' k/\Q k H'):=by
 intro pins s σ H Q I h;exact isTrue_plain (yG (ha pins s σ H _ I h) fun v s1 ⟨x,H1,I1,r1,q1⟩=>ziK pins s1 σ H1 x v Q I1 r1 q1) (he _)
theorem zcg:vS X (binaryOp .Add) (fun x y H Q=>∃ i j,x=.str i/\y=.str j/\i.length+j.length<=sizeLine/\Q (.str (i++j)) H):=by
 intro pins s σ H x y v u Q I rx ry h;obtain ⟨i,j,rfl,rfl,hz,q⟩:=h;obtain ⟨t,rfl⟩:=rx;obtain ⟨t',rfl⟩:=ry;exact wB I.tk (add_str (fun t' tk h0=>⟨.str (i++j),H,I.tok _ h0,⟨_,rfl⟩,q⟩) hz)
theorem qD {x:V} {us:List Value} (r:zE [x] us):∃ u,us=[u]/\zA x u:=by
 cases r with
 |cons r1 r2=>cases r2;exact ⟨_,rfl,r1⟩
theorem zes {x y:V} {us:List Value} (r:zE [x,y] us):∃ u w',us=[u,w']/\zA x u/\zA y w':=by
 cases r with
 |cons r1 r2 =>
  cases r2 with
  |cons r3 r4=>cases r4;exact ⟨_,_,rfl,r1,r3⟩
theorem zec (hc:X.calm=true):qO X (.builtin "max") (fun xs H Q=>∃ i j,xs=[.int i,.int j]/\Q (.int (if j > i then j else i)) H):=by
 intro pins s σ H xs us Q I r h;obtain ⟨i,j,rfl,q⟩:=h;obtain ⟨u,w',rfl,⟨t,rfl⟩,⟨t',rfl⟩⟩:=zes r;refine wB I.tk (max_two_ints (I.ok.hd hc) fun h' tk k h0=>⟨_,H,I.kept k h0,?_,q⟩)
 by_cases hj:j > i
 .rw [if_pos hj,if_pos hj];exact ⟨_,rfl⟩
 .rw [if_neg hj,if_neg hj];exact ⟨_,rfl⟩
theorem zaK:qO X (.type "int") (fun xs H Q=>(∃ i,xs=[.int i]/\Q (.int i) H)\/∃ k,xs=[.bl k]/\Q (.int (if k then 1 else 0)) H):=by
 intro pins s σ H xs us Q I r h;rcases h with ⟨i,rfl,q⟩|⟨k,rfl,q⟩
 .obtain ⟨u,rfl,t,rfl⟩:=qD r;exact call_int_int ⟨.int i,H,I,⟨_,rfl⟩,q⟩
 .obtain ⟨u,rfl,r1⟩:=qD r;cases r1;exact call_int_bool ⟨.int (if k then 1 else 0),H,I.tok _,⟨_,rfl⟩,q⟩
end
end L2
namespace L2
open PySem PySem.Spec PyProof.Rows
structure ObjM (h:Heap) (x dx C:Addr) (mA:Str->Option Value):Prop where
 obj:h.get? x=some (PySem.W.instObj C dx)
 ns:h.Ns1 dx mA
 ne:dx≠x
theorem zdr {h:Heap} {dx:Addr} {mA:Str->Option Value} (n:h.Ns1 dx mA):∃ od,h.get? dx=some od/\∀ name,PySem.W.lookIn name od=some (mA name):=by
 obtain ⟨o,es,ep,ho,hd,hk,_,hm⟩:=n;refine ⟨o,ho,fun name=>?_⟩;have e:=hm name;unfold nsFind findBy at e;rw [← Array.find?_toList] at e;unfold PySem.W.lookIn;rw [hd];dsimp only
 split
 .rename_i y q;rw [q] at e;exact congrArg some e
 .rename_i q;rw [q] at e
  have a:es.toList.any (·.refKey)=false:=by
   rw [List.any_eq_false];intro y hy;obtain ⟨z,t,hkey⟩:=hk y (Array.mem_toList_iff.mp hy);simp [DictEntry.refKey,hkey]
  have a':¬ es.toList.any (·.refKey)=true:=by rw [a];exact zzN
  rw [if_neg a'];exact congrArg some e
theorem ObjM.look {h:Heap} {x dx C:Addr} {mA:Str->Option Value} (I:ObjM h x dx C mA):∃ od,PySem.W.InstAt h x (PySem.W.instObj C dx) C (some od)/\∀ name,PySem.W.lookIn name od=some (mA name) :=
 let ⟨od,ho,hl⟩:=zdr I.ns
 ⟨od,⟨I.obj,rfl,rfl,ho⟩,hl⟩
section
variable {prog : Program} {w : World} {A : Around} {E : Value → Shared → Prop} {s : Shared} {K : PySem.W.Frag} {x dx C f : Addr} {mA : Str → Option Value} {name : Str} {v : Value}
theorem zhX {expr:Bool} {Q:Value->Shared->Prop} (X:K.In s.heap) (I:ObjM s.heap x dx C mA) (hg:PySem.W.plainGet K C name=true) (hh:PySem.W.hasDictIn K C=true)
  (ha:PySem.W.findIn K (.ref C) name=some none) (hv:mA name=some v) (hv':PySem.W.handedIn v=true) (h:Q v { s with toks:=s.toks+1 }) :
  wpAny (model prog w) A (getAttr (.ref x) name expr) Q E s:=by
 obtain ⟨od,J,hl⟩:=I.look;exact PySem.W.get_value X J (PySem.W.plainGet_of hg).1 (PySem.W.findObj_own hh ha rfl (by rw [hl,hv])) hv' h
theorem zgU {ns:List Str} {Q:Unit->Shared->Prop} (X:K.In s.heap) (I:ObjM s.heap x dx C mA)
  (hs:PySem.W.findIn K (.ref C) "__setattr__" = some (some (.builtin "object.__setattr__"))) (hp:PySem.W.plainOver K C=true) (ht:PySem.W.takerIn K C name=some none) (hh:PySem.W.hasDictIn K C=true)
  (hw:PySem.Within mA ns) (hsz:ns.length<=sizeLine)
  (h:∀ h',ObjM h' x dx C (fun y=>if y=name then some v else mA y)->Heap.SameBut dx s.heap h'->Q () { s with heap:=h',toks:=s.toks+2 }) :
  wpAny (model prog w) A (setAttr (.ref x) name v) Q E s:=by
 obtain ⟨od,J,hl⟩:=I.look;refine PySem.W.set_plain X J hs (PySem.W.osa_open (s:={ s with toks:=s.toks+1 }) (r:=none) X J hp ht fun b=>?_);obtain ⟨cd,hc,hd'⟩:=PySem.W.any_some hh;have hx:s.heap.get? x=some ⟨.ref C,some dx,.plain,#[]⟩:=I.obj;refine wpAny_bind (wpAny_pure (wpAny_bind (wpAny_bind (wpAny_loadPart hx (wpAny_bind (PySem.W.Looks.here (s:={ s with toks:=s.toks+1 }) (PySem.W.looks_clsIn X hc) ?_))))));rw [hd'];refine wpAny_pure (a:=some dx) (wpAny_bind (wpAny_pure (wpAny_bind ?_)));refine wpAny_nsSet1 (s:={ s with toks:=s.toks+1 }) I.ns fun h' hn2 hs2=>?_;obtain ⟨oD,esD,epD,hoD,hdD,hcD⟩:=hn2.count (PySem.Within.cons name v hw);refine wpAny_bind (wpAny_lookBehind hoD (by rw [hdD];exact pastItsLine_dict (Nat.le_trans hcD (by rw [List.length_cons];omega))) ?_);exact wpAny_pure (h _ ⟨(hs2.2 _ (Ne.symm I.ne)).trans I.obj,hn2,I.ne⟩ hs2)
end
def vK (f:Str) (v:V):List (Str×V)->List (Str×V)
 | []=>[(f,v)]
 | (g,x)::r=>if g=f then (g,v)::r else (g,x)::vK f v r
theorem mM (f g:Str) (v:V):∀ fs:List (Str×V),(vK f v fs).lookup g=if g=f then some v else fs.lookup g
 | []=>by
  show List.lookup g [(f,v)]=_
  by_cases h:g=f
  .have hb:(g==f)=true:=beq_iff_eq.mpr h;simp only [List.lookup,hb,if_pos h]
  .have hb:(g==f)=false:=beq_eq_false_iff_ne.mpr h;simp only [List.lookup,hb,if_neg h]
 | (k,x)::r=>by
  have ih:=mM f g v r;rw [show vK f v ((k,x)::r)=(if k=f then (k,v)::r else (k,x)::vK f v r) from rfl]
  by_cases hk:k=f
  .rw [if_pos hk]
   by_cases h:g=k
   .have hb:(g==k)=true:=beq_iff_eq.mpr h;simp only [List.lookup,hb,if_pos (h.trans hk)]
   .have hb:(g==k)=false:=beq_eq_false_iff_ne.mpr h;simp only [List.lookup,hb,if_neg (fun e:g=f=>h (e.trans hk.symm))]
  .rw [if_neg hk]
   by_cases h:g=k
   .have hb:(g==k)=true:=beq_iff_eq.mpr h;simp only [List.lookup,hb,if_neg (fun e:g=f=>hk (h.symm.trans e))]
   .have hb:(g==k)=false:=beq_eq_false_iff_ne.mpr h;simp only [List.lookup,hb];exact ih
theorem nI (f:Str) (v:V):∀ fs:List (Str×V),f∈(vK f v fs).map (·.1)/\∀ g,g∈fs.map (·.1)->g∈(vK f v fs).map (·.1)
 | []=>⟨by simp [vK],fun g h=>by simp at h⟩
 | (k,x)::r=>by
  obtain ⟨i1,i2⟩:=nI f v r;rw [show vK f v ((k,x)::r)=(if k=f then (k,v)::r else (k,x)::vK f v r) from rfl]
  by_cases hk:k=f
  .rw [if_pos hk];subst hk;exact ⟨by simp,fun g h=>by simpa using h⟩
  .rw [if_neg hk];refine ⟨?_,fun g h=>?_⟩
   .rw [zzU];exact List.mem_cons_of_mem _ i1
   .rw [zzU] at h ⊢;rcases List.mem_cons.mp h with e|e
    .exact List.mem_cons.mpr (.inl e)
    .exact List.mem_cons_of_mem _ (i2 g e)
theorem mL (f:Str) (v:V):∀ fs:List (Str×V),(vK f v fs).length<=fs.length+1
 | []=>by simp [vK]
 | (k,x)::r=>by
  have ih:=mL f v r;rw [show vK f v ((k,x)::r)=(if k=f then (k,v)::r else (k,x)::vK f v r) from rfl]
  by_cases hk:k=f
  .rw [if_pos hk,List.length_cons,List.length_cons];omega
  .rw [if_neg hk,List.length_cons,List.length_cons];omega
theorem nC.some_of {v:V} {o:Option Value} (r:nC (some v) o):∃ u,o=some u/\zA v u:=by
 cases o with
 |none=>exact (show False from r).elim
 |some u=>exact ⟨u,rfl,r⟩
theorem zdH {v:V} {u:Value} (r:zA v u):PySem.W.handedIn u=true:=by
 cases v with
 |non=>cases (show u=Value.none from r);rfl
 |bl b=>cases (show u=Value.bool b from r);rfl
 |int i=>obtain ⟨t,e⟩:=(show ∃ t,u=Value.int i t from r);cases e;rfl
 |str x=>obtain ⟨t,e⟩:=(show ∃ t,u=Value.str x t from r);cases e;rfl
 |byt b=>obtain ⟨t,e⟩:=(show ∃ t,u=Value.bytes b t from r);cases e;rfl
 |flt b=>obtain ⟨t,e⟩:=(show ∃ t,u=Value.float b t from r);cases e;rfl
 |ref a=>cases (show u=Value.ref a from r);rfl
 |ty n=>cases (show u=Value.type n from r);rfl
section
variable {P : Program} {w : World} {H H' : Hp} {h h' : Heap} {a C dx : Addr} {fs fs' : List (Str × V)}
theorem zbf (hok:sR P w H h) (e:H a=some (.ins C dx fs)):∃ mA,ObjM h a dx C mA/\(∀ f,nC (fs.lookup f) (mA f))/\PySem.Within mA (fs.map (·.1))/\fs.length<=1000/\H dx=some (.own a):=by
 obtain ⟨d,z,ne,ob,mA,n,r,q⟩:=(show xU P w H h a (.ins C dx fs) from hok a _ e);exact ⟨mA,⟨ob,n,ne⟩,r,q,z,d⟩
end
structure Cls (K:PySem.W.Frag) (C:Addr):Prop where
 pg:PySem.W.plainGet K C Str.empty=true
 hd:PySem.W.hasDictIn K C=true
 po:PySem.W.plainOver K C=true
 sa:PySem.W.findIn K (.ref C) "__setattr__" = some (some (.builtin "object.__setattr__"))
theorem Cls.get {K:PySem.W.Frag} {C:Addr} (c:Cls K C) (f:Str):PySem.W.plainGet K C f=true:=c.pg
def tF (K:PySem.W.Frag) (C:Addr) (f:Str):Prop:=PySem.W.findIn K (.ref C) f=some none
theorem tF.taker {K:PySem.W.Frag} {C:Addr} {f:Str} (n:tF K C f):PySem.W.takerIn K C f=some none:=by
 unfold PySem.W.takerIn;rw [show PySem.W.findIn K (.ref C) f=some none from n];rfl
section
variable {X : Cx} {pins : List (Addr × Obj)} {σ : St} {H : Hp} {s : Shared} {a C dx : Addr} {fs : List (Str × V)} {f : Str} {v : V} {A : Around} {E : Value → Shared → Prop}
theorem zct {b:Bool} {Q:Value->Shared->Prop} (I:Inv X pins σ H s) (e:H a=some (.ins C dx fs)) (c:Cls X.K C) (n:tF X.K C f) (l:fs.lookup f=some v)
  (h:∀ u s',Inv X pins σ H s'->zA v u->Q u s'):wpAny (model X.prog X.w) A (getAttr (.ref a) f b) Q E s:=by
 obtain ⟨mA,O,r,_,_,_⟩:=zbf I.hok e;obtain ⟨u,hu,ru⟩:=nC.some_of (v:=v) (o:=mA f) (by rw [← l];exact r f);exact zhX I.kIn O (c.get f) c.hd n hu (zdH ru) (h u _ (I.tok _) ru)
theorem zce {y:V} {u:Value} {Q:Unit->Shared->Prop} (I:Inv X pins σ H s) (e:H a=some (.ins C dx fs)) (c:Cls X.K C) (n:tF X.K C f) (hl:fs.length<1000) (ry:zA y u)
  (h:∀ s',Inv X pins σ (xL H a (.ins C dx (vK f y fs))) s'->Q () s'):wpAny (model X.prog X.w) A (setAttr (.ref a) f u) Q E s:=by
 obtain ⟨mA,O,r,wi,_,ho⟩:=zbf I.hok e;have hz:(fs.map (·.1)).length<=sizeLine:=by rw [zzM,sizeLine_eq];omega
 refine zgU I.kIn O c.sa c.po n.taker c.hd wi hz fun h' O' sb=>h _ ?_;have hd:∃ o,h'.get? dx=some o:=let ⟨o,_,_,e',_⟩:=O'.ns;⟨o,e'⟩;refine I.write (x:=a) (e:=dx) (by rw [e];exact True.intro) (.inr ho) (fun b q hb z=>(sb.2 b hb).trans z) hd ?_;refine ⟨by rw [zB O.ne];exact ho,?_,O.ne,O'.obj,_,O'.ns,fun g=>?_,fun g hg=>?_⟩
 .have:=mL f y fs;omega
 .show nC ((vK f y fs).lookup g) (if g=f then some u else mA g);rw [mM]
  by_cases q:g=f
  .rw [if_pos q,if_pos q];exact ry
  .rw [if_neg q,if_neg q];exact r g
 .by_cases q:g=f
  .rw [q];exact (nI f y fs).1
  .refine (nI f y fs).2 g (wi g fun z=>hg ?_);show (if g=f then some u else mA g)=none;rw [if_neg q];exact z
theorem ziv {prog:Program} {w:World} {env:Env} {e:Expr} {f:Str} {pos:Pos} {s:Shared} {Q:Value->Shared->Prop} (hb:attributeBase e f env (eval e env)=eval e env)
  (h:wpAny (model prog w) A (eval e env) (fun o s₁=>wpAny (model prog w) A (getAttr o f true) Q E s₁) E s):wpAny (model prog w) A (eval (.Attribute e f pos) env) Q E s :=
 Attribute_any_ h (by rw [arm_eval_Attribute,hb])
end
def tFld (K:PySem.W.Frag) (ta:TE) (f:Str):TE:=fun σ H Q=>ta σ H fun x H1=>∃ a C dx fs v,x=.ref a/\H1 a=some (.ins C dx fs)/\Cls K C/\tF K C f/\fs.lookup f=some v/\Q v H1
def sFld (K:PySem.W.Frag) (ta tv:TE) (f:Str):TS:=fun D σ H=>tv σ H fun y H1=>ta σ H1 fun x H2=>∃ a C dx fs,x=.ref a/\H2 a=some (.ins C dx fs)/\Cls K C/\tF K C f/\fs.length<1000 /\
 D.nx σ (xL H2 a (.ins C dx (vK f y fs)))
section
variable {X : Cx} {o e value : Expr} {f : Str} {pos pos' tpos : Pos} {ta tv : TE}
theorem zjF (he:PE X e ta) (hb:attributeBase e f X.env (eval e X.env)=eval e X.env):PE X (.Attribute e f pos) (tFld X.K ta f):=by
 intro pins s σ H Q I h;refine ziv hb (yG (he pins s σ H _ I h) fun u s1 ⟨x,H1,I1,rx,a,C,dx,fs,v,ex,ea,c,n,l,q⟩=>?_);subst ex;obtain rfl:u=Value.ref a:=rx;exact zct I1 ea c n l fun u' s2 I2 ru=>⟨v,H1,I2,ru,q⟩
theorem zjt (ha:PE X o ta) (hv:PE X value tv) (hs:swapsWith value (some (.Attribute o f pos')) pos.line X.env=pure false):PS X (.Assign [.Attribute o f pos'] value pos) (sFld X.K ta tv f):=by
 intro pins s σ H D I h;refine plainObj_wpAny_Assign_Attribute (yG (hv pins s σ H _ I h) fun u s1 ⟨y,H1,I1,ry,q⟩=>yG (ha pins s1 σ H1 _ I1 q) fun ov s2 ⟨x,H2,I2,rx,a,C,dx,fs,ex,ea,c,n,l,q2⟩=>?_) hs;subst ex;obtain rfl:ov=Value.ref a:=rx;exact zce I2 ea c n l ry fun s3 I3=>⟨σ,_,I3,q2⟩
end
section
variable {X : Cx} {pins : List (Addr × Obj)} {σ : St} {H : Hp} {s : Shared} {A : Around} {E : Value → Shared → Prop} {Q : Value → Shared → Prop} {c : Value} {b : Bool}
inductive TyOf (K:PySem.W.Frag) (H:Hp):V->Value->Prop where
 |non:TyOf K H .non (.type "NoneType")
 |bl (x:Bool):TyOf K H (.bl x) (.type "bool")
 |int (i:Int):TyOf K H (.int i) (.type "int")
 |str (x:Str):TyOf K H (.str x) (.type "str")
 |flt (x:UInt64):TyOf K H (.flt x) (.type "float")
 |lst {a:Addr} {xs:List V} (e:H a=some (.lst xs)):TyOf K H (.ref a) (.type "list")
 |frz {a:Addr} {o:Obj} {xs:List V} (e:H a=some (.frz o (.lst xs))):TyOf K H (.ref a) (.type "list")
 |tup {a:Addr} {xs:List V} (e:H a=some (.tup xs)):TyOf K H (.ref a) (.type "tuple")
 |dK {a:Addr} {kvs:List (yC×V)} (e:H a=some (.dK kvs)):TyOf K H (.ref a) (.type "dict")
 |dT {a:Addr} {kvs:List (List yC×V)} (e:H a=some (.dT kvs)):TyOf K H (.ref a) (.type "dict")
 |ins {a C dx:Addr} {fs:List (Str×V)} (e:H a=some (.ins C dx fs)) (cl:Cls K C) (ha:PySem.W.findIn K (.ref C) "__class__" = some (some (.builtin "object.__class__")))
   (hn:PySem.W.specialIn K (.builtin "object.__class__") "__get__" = some (some (.builtin "getset_descriptor.__get__"))) (htk:PySem.W.takesIn K (.builtin "object.__class__")=some true)
   (hm:PySem.W.mroIn K C (.type "object")=some true):TyOf K H (.ref a) (.ref C)
theorem vV {x:V} {u t:Value} (I:Inv X pins σ H s) (rx:zA x u) (ty:TyOf X.K H x t) (e:PySem.W.kitOne X.K t c=some b) (h:∀ tk,Q (.bool b) { s with toks:=tk }) :
  wpAny (model X.prog X.w) A (call (.builtin "isinstance") [u,c]) Q E s:=by
 cases ty with
 |non=>cases (show u=Value.none from rx);exact PySem.W.kia_one PySem.W.kitx_none I.kIn True.intro e (fun z=>nomatch z) h
 |bl y=>cases (show u=Value.bool y from rx);exact PySem.W.kia_one PySem.W.kitx_bool I.kIn True.intro e (fun z=>nomatch z) h
 |int i=>obtain ⟨t,q⟩:=(show ∃ t,u=Value.int i t from rx);cases q;exact PySem.W.kia_one PySem.W.kitx_int I.kIn True.intro e (fun z=>nomatch z) h
 |str y=>obtain ⟨t,q⟩:=(show ∃ t,u=Value.str y t from rx);cases q;exact PySem.W.kia_one PySem.W.kitx_str I.kIn True.intro e (fun z=>nomatch z) h
 |flt y=>obtain ⟨t,q⟩:=(show ∃ t,u=Value.float y t from rx);cases q;exact PySem.W.kia_one PySem.W.kitx_float I.kIn True.intro e (fun z=>nomatch z) h
 | @lst a xs ea =>
  cases (show u=Value.ref a from rx);obtain ⟨_,_,n,_,h1⟩:=(show xU X.prog X.w H s.heap a (.lst xs) from I.hok a _ ea);exact PySem.W.kia_one PySem.W.kitx_list I.kIn ⟨_,h1,rfl⟩ e (fun z=>nomatch z) h
 | @frz a ob xs ea =>
  cases (show u=Value.ref a from rx);obtain ⟨_,_,_,n,_,h1⟩:=(show xU X.prog X.w H s.heap a (.frz ob (.lst xs)) from I.hok a _ ea);exact PySem.W.kia_one PySem.W.kitx_list I.kIn ⟨_,h1,rfl⟩ e (fun z=>nomatch z) h
 | @tup a xs ea =>
  cases (show u=Value.ref a from rx);obtain ⟨_,_,_,p⟩:=(show xU X.prog X.w H s.heap a (.tup xs) from I.hok a _ ea);obtain ⟨o,h1,h2,_⟩:=p;exact PySem.W.kia_one PySem.W.kitx_tuple I.kIn ⟨o,h1,h2⟩ e (fun z=>nomatch z) h
 | @dK a kvs ea =>
  cases (show u=Value.ref a from rx);obtain ⟨_,_,vs,_,p⟩:=(show xU X.prog X.w H s.heap a (.dK kvs) from I.hok a _ ea);obtain ⟨o,es,ep,h1,h2,_⟩:=p;exact PySem.W.kia_one PySem.W.kitx_dict I.kIn ⟨o,h1,h2.1⟩ e (fun z=>nomatch z) h
 | @dT a kvs ea =>
  cases (show u=Value.ref a from rx);obtain ⟨_,_,xs,_,o,es,ep,h1,h2,_⟩:=(show xU X.prog X.w H s.heap a (.dT kvs) from I.hok a _ ea);exact PySem.W.kia_one PySem.W.kitx_dict I.kIn ⟨o,h1,h2.1⟩ e (fun z=>nomatch z) h
 | @ins a C dx fs ea cl ha hn htk hm =>
  cases (show u=Value.ref a from rx);obtain ⟨mA,O,_⟩:=zbf I.hok ea;obtain ⟨od,J,_⟩:=O.look;exact PySem.W.kia_one (PySem.W.kitx_own (cl.get _) cl.hd ha hn htk hm) I.kIn J e (fun z=>nomatch z) h
end
end L2
namespace L2
open PySem PySem.Spec PyProof.Rows
structure Room (k:Nat) (A:Around):Prop where
 gd:A.guards=some []
 hd:A.handled=none
 dp:A.depth+3 * k+5<recursionLimit
 un:A.units+16 * k+200<cLine
theorem Room.mono {j k:Nat} {A:Around} (r:Room k A) (h:j<=k):Room j A:=⟨r.gd,r.hd,by have:=r.dp;omega,by have:=r.un;omega⟩
theorem Room.deeper {k:Nat} {A:Around} (r:Room (k+1) A) (env:Env):Room k (A.deeper env) :=
 ⟨r.gd,r.hd,by have:=r.dp;show A.depth+1+3 * k+5<_;omega,by have:=r.un;show A.units+3+16 * k+200<_;omega⟩
theorem Room.depth {k:Nat} {A:Around} (r:Room k A):A.depth<recursionLimit:=by have:=r.dp;omega
def tNil:TA:=fun _ H Q=>Q [] H
def tCons (ta:TE) (tr:TA):TA:=fun σ H Q=>ta σ H fun x H1=>tr σ H1 fun xs H2=>Q (x::xs) H2
section
variable {X : Cx} {e : Expr} {es : List Expr} {te : TE} {t : TA} {pos : Pos}
theorem zgc:PA X [] tNil:=fun _ _ _ _ H Q I h=>Calls.spliced_nil ⟨[],H,I,.nil,h⟩
theorem zdd (ha:PE X e te) (hr:PA X es t) (hs:starEach (e::es) X.env=(false,eval e X.env)::starEach es X.env:=by rfl):PA X (e::es) (tCons te t):=by
 intro pos pins s σ H Q I h;rw [hs];show wpAny _ _ (spliced ((false,eval e X.env)::backTo pos (starEach es X.env))) _ _ s;refine Calls.spliced_cons (yG (ha pins s σ H _ I h) fun u s1 ⟨x,H1,I1,r1,q1⟩=>?_);exact yG (hr pos pins s1 σ H1 _ I1 q1) fun us s2 ⟨xs,H2,I2,r2,q2⟩=>⟨x::xs,H2,I2,.cons r1 r2,q2⟩
def tTup (t:TA):TE:=fun σ H Q=>t σ H fun xs H1=>xs.length<=sizeLine/\∀ p,H1 p=none->Q (.ref p) (xL H1 p (.tup xs))
def tLst (t:TA):TE:=fun σ H Q=>t σ H fun xs H1=>xs.length<=sizeLine/\∀ p,H1 p=none->Q (.ref p) (xL H1 p (.lst xs))
theorem zjz {x1} (h:PA X es t):PE X (.Tuple es x1 pos) (tTup t):=by
 intro pins s σ H Q I hq;refine wpAny_Tuple_spliced (yG (h pos pins s σ H _ I hq) fun us s1 ⟨xs,H1,I1,r,z,q⟩=>⟨by rw [← r.length];exact z,?_⟩);have hf:H1 s1.heap.objs.size=none:=I1.hok.fresh (zzR _);refine ⟨.ref s1.heap.objs.size,xL H1 s1.heap.objs.size (.tup xs),I1.laid (t':=s1.toks) (fun b u e=>Heap.get?_push_of_some _ e) (zzR _) ?_,rfl,q _ hf⟩;exact ⟨z,us,r,⟨_,Heap.get?_push_size _ rfl,rfl,_,rfl⟩⟩
theorem zjE (h:PA X es t):PE X (.List es pos) (tLst t):=by
 intro pins s σ H Q I hq;refine wpAny_List_spliced (yG (h pos pins s σ H _ I hq) fun us s1 ⟨xs,H1,I1,r,z,q⟩=>⟨by rw [← r.length];exact z,?_⟩);have hf:H1 s1.heap.objs.size=none:=I1.hok.fresh (zzR _);refine ⟨.ref s1.heap.objs.size,xL H1 s1.heap.objs.size (.lst xs),I1.laid (t':=s1.toks) (fun b u e=>Heap.get?_push_of_some _ e) (zzR _) ?_,rfl,q _ hf⟩;exact ⟨z,us,0,r,Heap.get?_push_size _ rfl⟩
end
abbrev Sp:=List V->Hp->VK->XK->Prop
abbrev CXT:=List Env->Hp->Shared->XK->Value->Shared->Prop
structure Env0 (P:Program) (w:World) (K:PySem.W.Frag) (mg:Str->Option Value) (base:Heap) (A:Around) (outer:List Env) (s:Shared) (H:Hp):Prop where
 frames:A.frames=some outer
 mod:Mod K mg base
 bs:∀ b o,base.get? b=some o->s.heap.get? b=some o/\H b=none
 bsz:base.objs.size<=s.heap.objs.size
 funs:s.heap.FunFrames base outer
 frf:∀ b∈frs outer,H b=none
 hok:sR P w H s.heap
 bare:AllBare s.gens
 tk:0<s.toks
def CE (outer:List Env) (P:Program) (w:World) (H:Hp) (s:Shared) (Q:VK) (u:Value) (s':Shared):Prop :=
 ∃ v H',s'.os=s.os/\0<s'.toks/\AllBare s'.gens/\Un (frs outer) [] H H' s.heap s'.heap/\sR P w H' s'.heap/\zA v u/\Q v H'
def CR (CX:CXT) (outer:List Env) (P:Program) (w:World) (H:Hp) (s:Shared) (Q:VK) (E:XK) (r:Result) (s':Shared):Prop :=
 match r with
 | .ok (.ret u)=>CE outer P w H s Q u s'
 | .ok _=>False
 | .error e=>CX outer H s E e s'
structure FnOk (P:Program) (w:World) (K:PySem.W.Frag) (mg:Str->Option Value) (base:Heap) (CX:CXT) (k:Nat) (f:Addr) (fd:FuncData) (ps:List Str) (sp:Sp):Prop where
 len:∀ vs H Q E,sp vs H Q E->vs.length=ps.length
 run:∀ (A:Around) (outer:List Env) (s:Shared) (H:Hp) (args:Args) (us:List Value) (vs:List V) (Q:VK) (E:XK),Room k A->Env0 P w K mg base A outer s H->BindsTo s fd args (ps.zip us)->zE vs us->sp vs H Q E ->
  codeAny (model P w) A (.call (.ref f) args) (CR CX outer P w H s Q E) s
 one:∀ (x:Str),ps=[x]->fd.scope.names.lookup x=some .local->∀ (A:Around) (outer:List Env) (s:Shared) (H:Hp) (args:Args) (us:List Value) (vs:List V) (Q:VK) (E:XK),Room k A->Env0 P w K mg base A outer { s with toks:=1 } H->BindsTo s fd args (ps.zip us)->zE vs us->sp vs H Q E ->
  codeAny (model P w) A (.call (.ref f) args) (CR CX outer P w H s Q E) s
theorem FnOk.mono {P:Program} {w:World} {K:PySem.W.Frag} {mg:Str->Option Value} {base:Heap} {CX:CXT} {j k:Nat} {f:Addr} {fd:FuncData} {ps:List Str} {sp:Sp} (F:FnOk P w K mg base CX j f fd ps sp) (h:j<=k) :
  FnOk P w K mg base CX k f fd ps sp:=⟨F.len,fun A outer s H args us vs Q E hr=>F.run A outer s H args us vs Q E (hr.mono h),fun x e l A outer s H args us vs Q E hr=>F.one x e l A outer s H args us vs Q E (hr.mono h)⟩
section
variable {X : Cx} {pins : List (Addr × Obj)} {σ : St} {H : Hp} {s s' : Shared}
theorem Inv.env0 (I:Inv X pins σ H s):Env0 X.prog X.w X.K X.mg X.base X.A X.stack s H :=
 ⟨I.ok.frames,I.ok.mod,I.bs,Nat.le_trans I.ok.bsz I.sz,I.stack,I.stkFree,I.hok,I.bare,I.tk⟩
theorem Inv.after {Q:VK} {u:Value} (I:Inv X pins σ H s) (h:CE X.stack X.prog X.w H s Q u s'):EP X pins σ Q u s':=by
 obtain ⟨v,H',os,tk,bare,un,hok,r,q⟩:=h;obtain ⟨hh,g,d,t,os'⟩:=s';obtain rfl:os'=s.os:=os;exact ⟨v,H',I.call (h':=hh) (g':=g) (d':=d) (t':=t) (ch:=[]) un hok bare (fun b z=>absurd z (by simp)) tk,r,q⟩
end
def zgP (sp:Sp) (dvs:List V) (E:XK) (t:TA):TE:=fun σ H Q=>t σ H fun vs H1=>sp (vs++dvs) H1 Q E
def uM (K:PySem.W.Frag) (fd:FuncData) (ps:List Str) (ds:List Value):Prop :=
 ∀ (s:Shared) (us:List Value),K.In s.heap->(us++ds).length=ps.length->BindsTo s fd ⟨us,[]⟩ (ps.zip (us++ds))
theorem uM.all {K:PySem.W.Frag} {fd:FuncData} {ps:List Str} (h:∀ us:List Value,us.length=ps.length->bindArgs fd ⟨us,[]⟩=pure (ps.zip us)):uM K fd ps []:=fun s us _ hl=>by
 rw [List.append_nil] at hl ⊢;exact .of_eq (h us hl)
def zb9 (CX:CXT) (X:Cx) (E:XK):Prop:=∀ (pins:List (Addr×Obj)) (σ:St) (H:Hp) (s:Shared) (e:Value) (s':Shared),Inv X pins σ H s->CX X.stack H s E e s'->X.xe e s'
section
variable {X : Cx} {CX : CXT} {k : Nat} {f C : Addr} {fd : FuncData} {ps : List Str} {sp : Sp} {dvs : List V} {ds : List Value} {E : XK} {x m : Str} {p pos apos : Pos} {e o : Expr} {es : List Expr} {ta : TE} {t : TA}
theorem zc5 {pins:List (Addr×Obj)} {σ:St} {H:Hp} {s:Shared} {Q:VK} {us:List Value} {vs:List V} (F:FnOk X.prog X.w X.K X.mg X.base CX k f fd ps sp) (hr:Room k X.A) (hb:uM X.K fd ps ds) (hd:zE dvs ds) (hx:zb9 CX X E)
  (I:Inv X pins σ H s) (r:zE vs us) (h:sp (vs++dvs) H Q E):wpAny (model X.prog X.w) X.A (call (.ref f) us) (EP X pins σ Q) X.xe s:=by
 have r2:zE (vs++dvs) (us++ds):=r.append hd;have hl:(us++ds).length=ps.length:=by rw [← r2.length];exact F.len _ _ _ _ h
 refine wpAny_call (codeAny_mono (F.run X.A X.stack s H ⟨us,[]⟩ (us++ds) (vs++dvs) Q E hr I.env0 (hb s us I.kIn hl) r2 h) fun r s' hq=>?_)
 cases r with
 |error e=>exact hx pins σ H s e s' I hq
 |ok fl =>
  cases fl with
  |ret u=>exact I.after hq
  |next=>exact False.elim hq
  |brk=>exact False.elim hq
  |cont=>exact False.elim hq
theorem zhn (F:FnOk X.prog X.w X.K X.mg X.base CX k f fd ps sp) (hr:Room k X.A) (hg:Gl X x) (hm:X.mg x=some (.ref f)) (hk:PySem.W.keepIn X.K (.ref f)=true) (hb:uM X.K fd ps ds) (hd:zE dvs ds) (hx:zb9 CX X E)
  (ha:PA X (e::es) t) (hdb:(x==("__debug__" : Str))=false:=by decide) (he:starEach (e::es) X.env=(false,eval e X.env)::starEach es X.env:=by rfl) (hpl:(backTo pos (starEach es X.env)).any (·.1)=false:=by rfl) :
  PE X (.Call (.Name x p) (e::es) [] pos) (zgP sp dvs E t):=by
 intro pins s σ H Q I h;refine wpAny_Call_Name_kw (zbc I hg hm ?_ hdb);refine PySem.W.callWith_K (h₀:=X.base) I.ok.mod.kin hk (yG (ha pos pins s σ H _ I h) fun us s1 ⟨vs,H1,I1,r,q⟩=>⟨I1.kIn,?_⟩) he hpl;exact zc5 F hr hb hd hx I1 r q
theorem ze7 (F:FnOk X.prog X.w X.K X.mg X.base CX k f fd ps sp) (hr:Room k X.A) (hg:Gl X x) (hm:X.mg x=some (.ref f)) (hk:PySem.W.keepIn X.K (.ref f)=true) (hb:uM X.K fd ps ds) (hd:zE dvs ds) (hx:zb9 CX X E)
  (hdb:(x==("__debug__" : Str))=false:=by decide):PE X (.Call (.Name x p) [] [] pos) (zgP sp dvs E tNil):=by
 intro pins s σ H Q I h;refine wpAny_Call_Name_kw (zbc I hg hm ?_ hdb);exact PySem.W.callWith_K0 I.kIn hk (zc5 (us:=[]) F hr hb hd hx I .nil h)
end
section
variable {X : Cx} {CX : CXT} {k : Nat} {f C : Addr} {fd : FuncData} {ps ks : List Str} {sp : Sp} {E : XK} {x m : Str} {p pos apos kpos : Pos} {e o : Expr} {es : List Expr} {kws : List Keyword} {te ta : TE} {t tk : TA} {nm : Option Str}
variable {g : List Value → List Value → List Value} {gV : List V → List V → List V}
end
structure FnScope (N P:List Str) (sc:Scope):Prop where
 kind:sc.kind=.function
 co:sc.isCoroutine=false
 gen:sc.isGenerator=false
 nd:N.Nodup
 pre:N.take P.length=P
 par:∀ x∈P,sc.names.lookup x=some .local\/sc.names.lookup x=some .cell
 nofree:∀ y∈sc.names,y.2≠.free
theorem zaL {kindOf:Str->Option NameKind} {x:Str}:∀ {binds:List (Str×Value)} {m:Str->Option Value},(∀ v,(x,v)∉binds)->bindL kindOf binds m x=m x
 | [],_,_=>rfl
 | (n,v)::r,m,h=>by
  unfold bindL;rw [zaL fun w hw=>h w (List.mem_cons_of_mem _ hw)]
  split
  .have:x≠n:=by rintro rfl;exact h v zzT
   simp [this]
  .rfl
theorem zaN {kindOf:Str->Option NameKind} {x:Str}:∀ {binds:List (Str×Value)} {m:Str->Option Value},(∀ v,(x,v)∉binds)->bindC kindOf binds m x=m x
 | [],_,_=>rfl
 | (n,v)::r,m,h=>by
  unfold bindC;rw [zaN fun w hw=>h w (List.mem_cons_of_mem _ hw)]
  split
  .rfl
  .have:x≠n:=by rintro rfl;exact h v zzT
   simp [this]
theorem zaM {kindOf:Str->Option NameKind} {x:Str} {v:Value}:∀ {P:List Str} {vs:List Value} {i:Nat} {m:Str->Option Value},P.Nodup->P[i]?=some x->vs[i]?=some v->kindOf x=some .local ->
  bindL kindOf (P.zip vs) m x=some v
 | [],_,_,_,_,h,_,_=>by simp at h
 |_::_,[],_,_,_,_,h,_=>by simp at h
 |p::P,w::vs,0,m,nd,h1,h2,hk=>by
  simp at h1 h2;subst h1;subst h2;show bindL kindOf ((p,w)::P.zip vs) m p=_;unfold bindL;rw [zaL fun v hv=>(List.nodup_cons.mp nd).1 (List.of_mem_zip hv).1,if_pos hk];simp
 |p::P,w::vs,i+1,m,nd,h1,h2,hk=>by
  show bindL kindOf ((p,w)::P.zip vs) m x=_;unfold bindL;exact zaM (i:=i) (List.nodup_cons.mp nd).2 (by simpa using h1) (by simpa using h2) hk
theorem zaO {kindOf:Str->Option NameKind} {x:Str} {v:Value}:∀ {P:List Str} {vs:List Value} {i:Nat} {m:Str->Option Value},P.Nodup->P[i]?=some x->vs[i]?=some v->kindOf x≠some .local ->
  bindC kindOf (P.zip vs) m x=some v
 | [],_,_,_,_,h,_,_=>by simp at h
 |_::_,[],_,_,_,_,h,_=>by simp at h
 |p::P,w::vs,0,m,nd,h1,h2,hk=>by
  simp at h1 h2;subst h1;subst h2;show bindC kindOf ((p,w)::P.zip vs) m p=_;unfold bindC;rw [zaN fun v hv=>(List.nodup_cons.mp nd).1 (List.of_mem_zip hv).1,if_neg hk];simp
 |p::P,w::vs,i+1,m,nd,h1,h2,hk=>by
  show bindC kindOf ((p,w)::P.zip vs) m x=_;unfold bindC;exact zaO (i:=i) (List.nodup_cons.mp nd).2 (by simpa using h1) (by simpa using h2) hk
def start (N:List Str) (vs:List V):St:=vs.map some++List.replicate (N.length-vs.length) none
def cxOf (CX:CXT) (P:Program) (w:World) (K:PySem.W.Frag) (mg:Str->Option Value) (base:Heap) (N:List Str) (qual:Str) (scope:Scope) (f:Addr) (cd:Value) (A:Around) (outer:List Env) (s:Shared) (H:Hp) (E:XK):Cx where
 prog:=P
 w:=w
 K:=K
 mg:=mg
 base:=base
 A:=A.deeper (envOfC qual scope s.heap.objs.size f cd)
 N:=N
 s₀:=s
 H₀:=H
 env:=envOfC qual scope s.heap.objs.size f cd
 outer:=outer
 stack:=envOfC qual scope s.heap.objs.size f cd::outer
 ex:=[]
 calm:=true
 fn:=fun _=>true
 pn:=[]
 xe:=fun e s'=>wpAny (model P w) (A.deeper (envOfC qual scope s.heap.objs.size f cd)) (leaving (envOfC qual scope s.heap.objs.size f cd) e) (fun _ s''=>CX outer H s E e s'') (fun e' s''=>CX outer H s E e' s'') s'
theorem zb7 {sc:Scope} {n:Nat} {x:Str} (h:sc.names.lookup x=some .cell):∃ c,(cellsFrom n sc.names []).lookup x=some c:=by
 have q:=PySem.W.cellsFrom_some sc.names n [] (.inl h);exact Option.isSome_iff_exists.mp q
theorem zdE {CX:CXT} {P:Program} {w:World} {K:PySem.W.Frag} {mg:Str->Option Value} {base:Heap} {N ps:List Str} {qual:Str} {scope:Scope} {f:Addr} {cd:Value} {A:Around} {outer:List Env} {s s1:Shared} {H:Hp} {E:XK} {us:List Value} {vs:List V}
  (S:FnScope N ps scope) (hd:A.handled=none) (e0:Env0 P w K mg base A outer { s with toks:=1 } H) (hl:vs.length=ps.length) (r:zE vs us)
  (x:InCallC s s.heap.objs.size (bindL (envOfC qual scope s.heap.objs.size f cd).kindOf (ps.zip us) fun _=>none) (cellsFrom (s.heap.objs.size+1) scope.names []) (bindC (envOfC qual scope s.heap.objs.size f cd).kindOf (ps.zip us) fun _=>none) s1) (h0:0<s1.toks) :
  Inv (cxOf CX P w K mg base N qual scope f cd A outer s H E) [] (start N vs) H s1:=by
 have hpl:ps.length<=N.length:=by have:=congrArg List.length S.pre;rw [List.length_take] at this;omega
 obtain ⟨h1,tk,rfl,hk⟩:=x.done;have noA:∀ b:Addr,b∉(cxOf CX P w K mg base N qual scope f cd A outer s H E).ex:=fun b z=>absurd (show b∈([]:List Addr) from z) (by simp)
 refine ⟨⟨e0.mod,S.kind,rfl,rfl,zzR _,fun y z c h1 h2=>?_,fun y hy=>?_,fun y c _ h=>?_,fun _=>hd,Around.frames_deeper e0.frames,.inr ⟨rfl,rfl⟩,fun b z=>absurd z (noA b),e0.bs,e0.bsz,fun b _ _=>noA b,fun b z=>absurd z (noA b),e0.funs,e0.frf⟩,
  rfl,e0.bare,Un.kept hk,⟨_,x.toInCall.ns,fun i y v h1 h2 h3=>?_⟩,fun y c h=>⟨_,x.cell y c h⟩,e0.hok.fresh (zzR _),fun y c h=>?_,fun p hp=>absurd (show p∈([]:List (Addr×Obj)) from hp) (by simp),e0.hok.kept hk,?_,h0⟩
 .exact name_of_addr x.apart (PySem.mem_of_lookup h1) (PySem.mem_of_lookup h2)
 .have hy:scope.names.lookup y=some .cell\/scope.names.lookup y=some .free:=hy;rcases hy with hy|hy
  .exact zb7 hy
  .exact absurd rfl (S.nofree _ (PySem.mem_of_lookup hy))
 .exact Nat.le_of_lt (x.above y c (PySem.mem_of_lookup h))
 .have hi:i<vs.length:=by
   unfold start at h2
   by_cases hi:i<vs.length
   .exact hi
   .rw [List.getElem?_append_right (by simpa using hi)] at h2;rw [List.getElem?_replicate] at h2
    split at h2<;>cases h2
  have ha:vs[i]?=some v:=by
   unfold start at h2;rw [List.getElem?_append_left (by simpa using hi),List.getElem?_map] at h2
   cases e:vs[i]? with
   |none=>rw [e] at h2;cases h2
   |some a=>rw [e] at h2;cases h2;rfl
  obtain ⟨u,hu,rv⟩:=r.get ha
  have hp:ps[i]?=some y:=by
   rw [← S.pre,List.getElem?_take_of_lt (by omega)];exact h1
  have ndP:ps.Nodup:=by rw [← S.pre];exact S.nd.sublist (List.take_sublist _ _)
  refine ⟨u,rv,?_⟩;rcases S.par y (List.mem_of_getElem? hp) with k|k
  .exact .inl ⟨k,zaM ndP hp hu k⟩
  .obtain ⟨c,e⟩:=zb7 (n:=s.heap.objs.size+1) k;refine .inr ⟨.inl k,c,e,?_⟩;have q:=x.cell y c e;rw [zaO ndP hp hu (by show scope.names.lookup y≠_;rw [k];decide)] at q;exact q
 .exact e0.hok.fresh (Nat.le_of_lt (x.above y c (PySem.mem_of_lookup h)))
 .unfold start;show _=N.length;rw [zzW,zzM,List.length_replicate];omega
theorem fn_of {CX:CXT} {P:Program} {w:World} {K:PySem.W.Frag} {mg:Str->Option Value} {base:Heap} {k:Nat} {f:Addr} {name qual:Str} {params:Arguments} {body:List Stmt} {scope:Scope} {dV kV doc pm cdv ct oc:Value} {an od:Option Addr}
  {osl:Array (Option Value)} {N ps:List Str} {sp:Sp} (lk:K.lookup f=some ⟨oc,od,.func (PySem.W.fnOf name qual params body scope dV kV doc pm an cdv ct),osl⟩) (hcd:PySem.W.codeIn K cdv qual=true) (S:FnScope N ps scope)
  (len:∀ vs H Q E,sp vs H Q E->vs.length=ps.length)
  (hbody:∀ (A:Around) (outer:List Env) (s:Shared) (H:Hp) (vs:List V) (Q:VK) (E:XK),Room k (A.deeper (envOfC qual scope s.heap.objs.size f cdv))->sp vs H Q E ->
   ∃ t,PSs (cxOf CX P w K mg base N qual scope f cdv A outer s H E) body t/\t { nx:=fun _ H'=>Q .non H',rt:=Q } (start N vs) H) :
  FnOk P w K mg base CX (k+1) f (PySem.W.fnOf name qual params body scope dV kV doc pm an cdv ct) ps sp:=by
 suffices core:∀ (A:Around) (outer:List Env) (s:Shared) (H:Hp) (args:Args) (us:List Value) (vs:List V) (Q:VK) (E:XK),Room (k+1) A->Env0 P w K mg base A outer { s with toks:=1 } H->BindsTo s (PySem.W.fnOf name qual params body scope dV kV doc pm an cdv ct) args (ps.zip us)->zE vs us->sp vs H Q E ->
   (0<s.toks\/∃ x,ps=[x]/\scope.names.lookup x=some .local)->codeAny (model P w) A (.call (.ref f) args) (CR CX outer P w H s Q E) s from
  ⟨len,fun A outer s H args us vs Q E hr e0 hb r hsp=>core A outer s H args us vs Q E hr ⟨e0.frames,e0.mod,e0.bs,e0.bsz,e0.funs,e0.frf,e0.hok,e0.bare,Nat.one_pos⟩ hb r hsp (.inl e0.tk),fun x e l A outer s H args us vs Q E hr e0 hb r hsp=>core A outer s H args us vs Q E hr e0 hb r hsp (.inr ⟨x,e,l⟩)⟩
 intro A outer s H args us vs Q E hr e0 hb r hsp hpos;have hl:=len _ _ _ _ hsp;have KX:K.In s.heap:=e0.mod.kin.keeps fun b o e=>(e0.bs b o e).1;have lim:s.heap.NoLimit:=e0.mod.nolimit.keeps fun b o e=>(e0.bs b o e).1
 have hkind:∀ y∈ps.zip us,scope.names.lookup y.1=some .local\/(scope.names.lookup y.1=some .cell/\((cellsFrom (s.heap.objs.size+1) scope.names []).lookup y.1).isSome=true):=fun ⟨n,v⟩ hy=>by
  rcases S.par n (List.of_mem_zip hy).1 with q|q
  .exact .inl q
  .exact .inr ⟨q,PySem.W.cellsFrom_some _ _ _ (.inl q)⟩
 refine codeAny_call_function hr.depth (KX _ _ lk) rfl S.co S.gen rfl (PySem.W.codeRec_of KX hcd) (hb _ _ _ _ ?_);refine zch S.kind hkind (r.length.symm.trans hl) hpos fun env he s1 x h0=>?_;subst he;refine ⟨lim.keeps x.toInCall.keep,codeAny_func ?_⟩;obtain ⟨t,ht,hq⟩:=hbody A outer s H vs Q E (hr.deeper _) hsp;have I:Inv (cxOf CX P w K mg base N qual scope f cdv A outer s H E) [] (start N vs) H s1:=zdE S hr.hd e0 hl r x h0;refine wpAny_mono (ht [] s1 (start N vs) H _ I hq) (fun fl s' hs=>?_) fun e s' hs=>hs
 have fin:∀ {σ':St} {H':Hp} {v:V} {u:Value},Inv (cxOf CX P w K mg base N qual scope f cdv A outer s H E) [] σ' H' s'->zA v u->Q v H'->CE outer P w H s Q u s' :=
  fun {σ' H' v u} J rv q=>⟨v,H',J.os,J.tk,J.bare,J.base,J.hok,rv,q⟩
 cases fl with
 |ret u =>
  obtain ⟨v,σ',H',J,rv,q⟩:=hs;exact fin J rv q
 |next =>
  obtain ⟨σ',H',J,q⟩:=hs;exact fin (v:=V.non) (u:=Value.none) J rfl q
 |brk =>
  obtain ⟨_,_,_,q⟩:=hs;exact False.elim q
 |cont =>
  obtain ⟨_,_,_,q⟩:=hs;exact False.elim q
end L2
namespace L2
open PySem PySem.Spec PyProof.Rows
section
variable {X : Cx} {x : Str} {p pos : Pos} {e : Expr} {es : List Expr} {t : TA} {id T : String} {r : List V → Hp → VK → Prop}
def tCB (r:List V->Hp->VK->Prop) (t:TA):TE:=fun σ H Q=>t σ H fun vs H1=>r vs H1 Q
theorem ze6 (hc:qO X (.builtin id) r) (hg:Gl X x) (hm:X.mg x=none) (hv:bootBuiltins x=some (.builtin id)) (ha:PA X (e::es) t) (hn:x ≠ "__name__" := by decide) (hdb:(x==("__debug__" : Str))=false:=by decide)
  (he:starEach (e::es) X.env=(false,eval e X.env)::starEach es X.env:=by rfl) (hpl:(backTo pos (starEach es X.env)).any (·.1)=false:=by rfl):PE X (.Call (.Name x p) (e::es) [] pos) (tCB r t):=by
 intro pins s σ H Q I h;refine wpAny_Call_Name_kw (tL I hg hm hv ?_ hn hdb);exact PyProof.Rows.callWith_builtin1 (yG (ha pos pins s σ H _ I h) fun us s1 ⟨vs,H1,I1,r1,q1⟩=>hc pins s1 σ H1 vs us Q I1 r1 q1) he hpl
theorem zdc (hc:qO X (.type T) r) (hg:Gl X x) (hm:X.mg x=none) (hv:bootBuiltins x=some (.type T)) (ha:PA X (e::es) t) (hn:x ≠ "__name__" := by decide) (hdb:(x==("__debug__" : Str))=false:=by decide)
  (he:starEach (e::es) X.env=(false,eval e X.env)::starEach es X.env:=by rfl) (hpl:(backTo pos (starEach es X.env)).any (·.1)=false:=by rfl):PE X (.Call (.Name x p) (e::es) [] pos) (tCB r t):=by
 intro pins s σ H Q I h;refine wpAny_Call_Name_kw (tL I hg hm hv ?_ hn hdb);exact PyProof.Rows.callWith_type1 (yG (ha pos pins s σ H _ I h) fun us s1 ⟨vs,H1,I1,r1,q1⟩=>hc pins s1 σ H1 vs us Q I1 r1 q1) he hpl
end
end L2
namespace HT
open PySem PyProof.Rows
section
open PySem.SeqAt
open PySem.AutoSeq1 (wpAny_loadPart')
open PySem.MeetsSeq PySem.MeetsSeq2 PySem.MeetsSeq3
end
section
variable {prog : Program} {w : World} {A : Around} {E : Value → Shared → Prop} {s : Shared}
theorem zil {t b:Addr} {vs ws:List Value} {Q:Value->Shared->Prop} (ht:IsTup s.heap t vs.toArray) (hb:IsTup s.heap b ws.toArray) (hv:vs≠[])
  (h1:ws=[]->Q (.ref t) s) (h2:ws≠[]->Q (.ref s.heap.objs.size) { s with heap:=s.heap.push { cls:=.type "tuple", data:=.seq (vs++ws).toArray } })
  (hsz:vs.length+ws.length<=sizeLine):wpAny (model prog w) A (binaryOp .Add (.ref t) (.ref b)) Q E s:=by
 obtain ⟨⟨cls,dd,data,sl⟩,ho,hc,n,hd⟩:=id ht;obtain ⟨⟨cls2,dd2,data2,sl2⟩,ho2,hc2,n2,hd2⟩:=id hb;simp only at hc hd hc2 hd2;subst hc hd hc2 hd2;have e:vs.toArray++ws.toArray=(vs++ws).toArray:=by simp
 by_cases hw:ws=[]
 .exact concat_meets ⟨_,ho,rfl⟩ ⟨_,ho2,rfl⟩ noFill_tuple_add seq_tuple_add PySem.F.slot_tuple_add PySem.F.entry_tuple_add (PySem.F.args_tuple_add_2 _ _)
   (tuple_addW1 t b vs.toArray ws.toArray n n2 dd dd2 sl sl2 (by simpa using hv) (by simp [hw])) ⟨ho,ho2,h1 hw⟩
 .refine concat_meets ⟨_,ho,rfl⟩ ⟨_,ho2,rfl⟩ noFill_tuple_add seq_tuple_add PySem.F.slot_tuple_add PySem.F.entry_tuple_add (PySem.F.args_tuple_add_2 _ _)
   (tuple_addW2 t b vs.toArray ws.toArray n n2 dd dd2 sl sl2 (by simpa using hv) (by simpa using hw) (by rw [zzS,zzS];exact hsz)) ⟨ho,ho2,?_⟩
  rw [e];exact h2 hw
def wJ (n d:Nat):Option Int->Nat
 |none=>d
 |some v=>if v<0 then (v+(n:Int)).toNat else min v.toNat n
theorem zje (n d:Nat) (hd:d<=n) (o:Option Int):wJ n d o<=n:=by
 cases o with
 |none=>exact hd
 |some v =>
  show (if v<0 then (v+(n:Int)).toNat else min v.toNat n)<=n
  by_cases hv:v<0
  .rw [if_pos hv];omega
  .rw [if_neg hv];exact Nat.min_le_right _ _
theorem zd7 (v:Int) (n d:Nat):(if v<0 then max (v+(n:Int)) 0 else min v (n:Int))=((wJ n d (some v):Nat):Int):=by
 show (if v<0 then max (v+(n:Int)) 0 else min v (n:Int))=(((if v<0 then (v+(n:Int)).toNat else min v.toNat n):Nat):Int)
 by_cases hv:v<0
 .simp only [if_pos hv];omega
 .simp only [if_neg hv];omega
theorem zcE (lo hi:Option Int) (n:Nat):Builtin.Slice.sliceAdjust lo hi 1 (n:Int)=(((wJ n 0 lo:Nat):Int),((wJ n n hi:Nat):Int)):=by
 have h1:¬ ((1:Int)<0):=by omega
 unfold Builtin.Slice.sliceAdjust;simp only [h1,if_false];refine Prod.ext ?_ ?_
 .cases lo with
  |none=>rfl
  |some v=>exact zd7 v n 0
 .cases hi with
  |none=>rfl
  |some v=>exact zd7 v n n
theorem zcf (i j:Nat):Builtin.Slice.slicePlaces (i:Int) (j:Int) 1=j-i:=by
 unfold Builtin.Slice.slicePlaces;have h1:(1:Int) > 0:=by omega
 simp only [h1,if_true,Int.ediv_one]
 split<;>omega
theorem fY {v:Value} {o:Option Int} {Q:Option Int->Shared->Prop} (p:IsPart v o) (h:Q o s):wpAny (model prog w) A (Builtin.Slice.slicePartIndex v) Q E s:=by
 cases p with
 |none=>exact slicePart_none h
 |int i t=>exact slicePart_int h
theorem kA {sl:Addr} {vl vu:Value} {lo hi:Option Int} {n:Nat} {Q:Int×Int×Nat->Shared->Prop} (hs:s.heap.IsSliceOf sl vl vu .none) (pl:IsPart vl lo) (pu:IsPart vu hi)
  (h:Q (((wJ n 0 lo:Nat):Int),1,wJ n n hi-wJ n 0 lo) s):wpAny (model prog w) A (Builtin.Slice.sliceApplied (.ref sl) (pure (n:Int))) Q E s:=by
 obtain ⟨os,hos,hcs,hds⟩:=id hs;unfold Builtin.Slice.sliceApplied Builtin.Slice.sliceFields;refine wpAny_bind (wpAny_bind (wpAny_field hos hds (x:=vl) rfl (wpAny_bind (wpAny_field hos hds (x:=vu) rfl (wpAny_bind (wpAny_field hos hds (x:=.none) rfl (wpAny_pure ?_)))))));refine wpAny_bind (slicePart_none ?_);show wpAny _ _ (if ((1:Int)==0)=true then _ else _) _ _ s;rw [if_neg (by decide)];refine wpAny_bind (fY pl (wpAny_bind (fY pu (wpAny_bind (wpAny_pure ?_)))));show wpAny _ _ (match Builtin.Slice.sliceAdjust lo hi 1 (n:Int) with|(lo,hi)=>pure (lo,(1:Int),Builtin.Slice.slicePlaces lo hi 1)) _ _ s;rw [zcE lo hi n];show wpAny _ _ (pure (((wJ n 0 lo:Nat):Int),(1:Int),Builtin.Slice.slicePlaces ((wJ n 0 lo:Nat):Int) ((wJ n n hi:Nat):Int) 1)) _ _ s;rw [zcf];exact wpAny_pure h
theorem ze1 (xs:Array Value) (i k:Nat):((List.range k).filterMap fun (m:Nat)=>xs[((i:Int)+(m:Int) * 1).toNat]?).toArray=((xs.toList.drop i).take k).toArray:=by
 have e:(fun (m:Nat)=>xs[((i:Int)+(m:Int) * 1).toNat]?)=fun m=>xs[i+m]?:=by
  funext m
  have:((i:Int)+(m:Int) * 1).toNat=i+m:=by omega
  rw [this]
 rw [e];have:=pick_run xs i k;rw [List.filterMap_map] at this;have e2:((fun x=>xs[x]?) ∘ fun x=>i+x)=fun m=>xs[i+m]?:=rfl;rw [e2] at this;rw [this]
theorem pN {t sl:Addr} {items:Array Value} {vl vu:Value} {lo hi:Option Int} {Q:Value->Shared->Prop} (ht:IsTup s.heap t items) (hs:s.heap.IsSliceOf sl vl vu .none) (pl:IsPart vl lo) (pu:IsPart vu hi)
  (hw:¬ (wJ items.size 0 lo=0/\wJ items.size items.size hi=items.size))
  (h:Q (.ref s.heap.objs.size) { s with heap:=s.heap.push { cls:=.type "tuple", data:=.seq ((items.toList.drop (wJ items.size 0 lo)).take (wJ items.size items.size hi-wJ items.size 0 lo)).toArray } })
  (hsz:items.size<=sizeLine):wpAny (model prog w) A (getItem (.ref t) (.ref sl)) Q E s:=by
 have htake:sizeOk (.seq ((items.toList.drop (wJ items.size 0 lo)).take (wJ items.size items.size hi-wJ items.size 0 lo)).toArray):=by
  show ((items.toList.drop (wJ items.size 0 lo)).take (wJ items.size items.size hi-wJ items.size 0 lo)).toArray.size<=sizeLine;rw [zzS,List.length_take,List.length_drop,Array.length_toList];omega
 have hj:wJ items.size items.size hi<=items.size:=zje _ _ (zzR _) hi;obtain ⟨os,hos,hcs,hds⟩:=id hs;have hTs:s.TypeIs (.ref sl) "slice" := ⟨os,hos,hcs⟩;unfold getItem
 try with_reducible refine wpAny_holding ?_
 first|refine wpAny_bind (wpAny_pure ?_)|skip
 refine wpAny_bind (wpAny_sequenceKey ht.typeIs (by decide) ?_)
 refine wpAny_bind (wpAny_callSpecial?_slot (name:=Str.ofString "__getitem__") ht.typeIs PyProof.Rows.slot_tuple_getitem
  (wpAny_call_entry PyProof.Rows.slot_tuple_getitem ht.typeIs entry_tuple_getitem ?_ (args_tuple_getitem _ _)))
 show wpAny _ _ (Builtin.Tuple.tupleItemsOf (.ref t) >>= _) _ _ s;refine wpAny_bind (tupleItemsOf_ ht ?_);refine wpAny_bind (wpAny_typeOf hTs ?_);rw [if_pos (by decide)];refine wpAny_bind (kA hs pl pu ?_)
 have hno:¬ ((((wJ items.size 0 lo:Nat):Int)==0&&(1:Int)==1&&(wJ items.size items.size hi-wJ items.size 0 lo)==items.size)=true):=by
  intro q;rw [Bool.and_eq_true,Bool.and_eq_true] at q;have q1:((wJ items.size 0 lo:Nat):Int)=0:=eq_of_beq q.1.1;have q2:wJ items.size items.size hi-wJ items.size 0 lo=items.size:=eq_of_beq q.2;exact hw ⟨by omega,by omega⟩
 show wpAny _ _ (if (((wJ items.size 0 lo:Nat):Int)==0&&(1:Int)==1&&(wJ items.size items.size hi-wJ items.size 0 lo)==items.size)=true then _ else _) _ _ s;rw [if_neg hno,ze1]
 first
  |exact wpAny_bind (m:=Builtin.Tuple.tupleExact _) (wpAny_newObj_type (wpAny_pure ⟨_,rfl,wpAny_pure h⟩) htake)
  |exact wpAny_bind (m:=Builtin.Tuple.tupleExact _) (wpAny_newObj_type (wpAny_bind (wpAny_pure (wpAny_pure ⟨_,rfl,wpAny_pure h⟩))) htake)
  |exact wpAny_bind (wpAny_bind (m:=Builtin.Tuple.tupleExact _) (wpAny_newObj_type (wpAny_pure (wpAny_pure ⟨_,rfl,wpAny_pure h⟩)) htake))
  |exact wpAny_bind (wpAny_bind (m:=Builtin.Tuple.tupleExact _) (wpAny_newObj_type (wpAny_pure ⟨_,rfl,wpAny_pure h⟩) htake))
end
end HT
namespace L2
open PySem PySem.Spec PyProof.Rows
abbrev TO:=St->Hp->(Option Int->Hp->Prop)->Prop
def PO (X:Cx) (e:Option Expr) (t:TO):Prop :=
 ∀ (pins:List (Addr×Obj)) (s:Shared) (σ:St) (H:Hp) (Q:Option Int->Hp->Prop),Inv X pins σ H s->t σ H Q ->
  wpAny (model X.prog X.w) X.A (evalPart e X.env) (fun u s'=>∃ o H',Inv X pins σ H' s'/\IsPart u o/\Q o H') X.xe s
def zgO:TO:=fun _ H Q=>Q none H
def tPart (t:TE):TO:=fun σ H Q=>t σ H fun x H1=>∃ i,x=.int i/\Q (some i) H1
section
variable {X : Cx} {e : Expr} {te : TE} {lo hi : Option Expr} {tl th : TO} {pos p2 : Pos}
theorem zhi:PO X none zgO:=by
 intro pins s σ H Q I h;rw [evalPart_none];exact wpAny_pure ⟨none,H,I,.none,h⟩
theorem zhh (h:PE X e te):PO X (some e) (tPart te):=by
 intro pins s σ H Q I hw;rw [evalPart_some];refine yG (h pins s σ H _ I hw) fun u s1 ⟨x,H1,I1,r1,q1⟩=>?_;obtain ⟨i,rfl,q⟩:=q1;obtain ⟨t,rfl⟩:=r1;exact ⟨some i,H1,I1,.int i t,q⟩
def SlR (X:Cx) (r:V->Option Int->Option Int->Hp->VK->Prop):Prop :=
 ∀ (pins:List (Addr×Obj)) (s:Shared) (σ:St) (H:Hp) (x:V) (v vl vu:Value) (lo hi:Option Int) (sl:Addr) (Q:VK),Inv X pins σ H s->zA x v->s.heap.IsSliceOf sl vl vu .none->IsPart vl lo->IsPart vu hi->r x lo hi H Q ->
  ∃ T id,typeLookup (.type T) "__getitem__" = pure (some (.builtin id))/\s.TypeIs v T/\wpAny (model X.prog X.w) X.A (getItem v (.ref sl)) (EP X pins σ Q) X.xe s
def tSl (r:V->Option Int->Option Int->Hp->VK->Prop) (te:TE) (tl th:TO):TE:=fun σ H Q=>te σ H fun x H1=>tl σ H1 fun l H2=>th σ H2 fun u H3=>r x l u H3 Q
theorem ze3 {r:V->Option Int->Option Int->Hp->VK->Prop} (hr:SlR X r) (he:PE X e te) (hl:PO X lo tl) (hu:PO X hi th):PE X (.Subscript e (.Slice lo hi none p2) pos) (tSl r te tl th):=by
 intro pins s σ H Q I h;refine Subscript_ (yG (he pins s σ H _ I h) fun v s1 ⟨x,H1,I1,r1,q1⟩=>?_);refine wpAny_Slice (yG (hl pins s1 σ H1 _ I1 q1) fun vl s2 ⟨l,H2,I2,pl,q2⟩=>yG (hu pins s2 σ H2 _ I2 q2) fun vu s3 ⟨u,H3,I3,pu,q3⟩=>?_);rw [evalPart_none];refine wpAny_pure ?_;have I4:Inv X pins σ H3 { s3 with heap:=s3.heap.push { cls:=.type "slice", data:=.fields #[vl,vu,.none] } }:=I3.kept (t':=s3.toks) fun b ob q=>Heap.get?_push_of_some _ q;obtain ⟨T,id,hT,ht,hg⟩:=hr pins { s3 with heap:=s3.heap.push { cls:=.type "slice", data:=.fields #[vl,vu,.none] } } σ H3 x v vl vu l u s3.heap.objs.size Q I4 r1 (Heap.IsSliceOf.new ..) pl pu q3;show wpAny (model X.prog X.w) X.A (subscriptTail e (.Slice lo hi none p2) v (.ref s3.heap.objs.size)) (EP X pins σ Q) X.xe { s3 with heap:=s3.heap.push { cls:=.type "slice", data:=.fields #[vl,vu,.none] } };exact tail_any (ops:=[.ref s3.heap.objs.size,v]) ht hT hg (by with_unfolding_all rfl)
def cutV (xs:List V) (lo hi:Option Int):List V:=(xs.drop (HT.wJ xs.length 0 lo)).take (HT.wJ xs.length xs.length hi-HT.wJ xs.length 0 lo)
theorem mJ (xs:List V) (lo hi:Option Int):(cutV xs lo hi).length<=xs.length:=by
 unfold cutV;rw [List.length_take,List.length_drop];omega
def rSlT (K:PySem.W.Frag):V->Option Int->Option Int->Hp->VK->Prop:=fun x lo hi H Q=>∃ a xs,x=.ref a/\rM K H a xs /\
 ¬ (HT.wJ xs.length 0 lo=0/\HT.wJ xs.length xs.length hi=xs.length)/\∀ p,H p=none->Q (.ref p) (xL H p (.tup (cutV xs lo hi)))
theorem zi3:SlR X (rSlT X.K):=by
 intro pins s σ H x v vl vu lo hi sl Q I rx hs pl pu h;obtain ⟨a,xs,rfl,hx,hw,q⟩:=h;cases rx;obtain ⟨its,r,ht,hz⟩:=I.tuple hx;have hlen:its.toArray.size=xs.length:=by rw [zzS];exact r.length.symm
 refine ⟨"tuple", _,PyProof.Rows.slot_tuple_getitem.lookup,ht.typeIs,?_⟩;refine HT.pN ht hs pl pu (by rw [hlen];exact hw) ?_ (by rw [hlen];exact hz);rw [hlen];refine ⟨.ref s.heap.objs.size,_,I.laid (t':=s.toks) (o:=.tup (cutV xs lo hi)) (fun b ob q=>Heap.get?_push_of_some _ q) (zzR _) ?_,rfl,q _ (I.hok.fresh (zzR _))⟩;exact ⟨Nat.le_trans (mJ xs lo hi) hz,_,(r.drop (HT.wJ xs.length 0 lo)).take (HT.wJ xs.length xs.length hi-HT.wJ xs.length 0 lo),IsTup.new _ _⟩
def rCatT (K:PySem.W.Frag):R2:=fun x y H Q=>∃ a b xs ys,x=.ref a/\y=.ref b/\rM K H a xs/\rM K H b ys/\xs≠[]/\xs.length+ys.length<=sizeLine /\
 (ys=[]->Q (.ref a) H)/\(ys≠[]->∀ p,H p=none->Q (.ref p) (xL H p (.tup (xs++ys))))
theorem zE.nil_iff {xs:List V} {us:List Value} (r:zE xs us):us=[]↔xs=[]:=by
 cases r with
 |nil=>simp
 |cons _ _=>simp
theorem zht:vS X (binaryOp .Add) (rCatT X.K):=by
 intro pins s σ H x y v u Q I rx ry h;obtain ⟨a,b,xs,ys,rfl,rfl,ha,hb,hx,hz,q1,q2⟩:=h;cases rx;cases ry;obtain ⟨its,r1,p1,_⟩:=I.tuple ha;obtain ⟨its2,r2,p2,_⟩:=I.tuple hb;refine HT.zil p1 p2 (fun z=>hx (r1.nil_iff.mp z)) (fun z=>⟨.ref a,H,I,rfl,q1 (r2.nil_iff.mp z)⟩) (fun z=>?_) (by rw [← r1.length,← r2.length];exact hz);refine ⟨.ref s.heap.objs.size,_,I.laid (t':=s.toks) (o:=.tup (xs++ys)) (fun b ob q=>Heap.get?_push_of_some _ q) (zzR _) ?_,rfl,q2 (fun w=>z (r2.nil_iff.mpr w)) _ (I.hok.fresh (zzR _))⟩;exact ⟨by rw [zzW];exact hz,_,r1.append r2,IsTup.new _ _⟩
end
end L2
namespace L2
open PySem PySem.Spec PyProof.Rows
def dG (n:Nat) (i:Int):Option Nat:=if 0<=i then (if i<n then some i.toNat else none) else if -(n:Int)<=i then some (i+n).toNat else none
def sE {α:Type} (xs:List α) (i:Int):Option α:=(dG xs.length i).bind fun j=>xs[j]?
theorem zdD {n:Nat} {i:Int} {j:Nat} (h:dG n i=some j):seqIndex? i n=some j/\j<n/\-(n:Int)<=i/\i<n:=by
 unfold dG at h
 by_cases h0:0<=i
 .rw [if_pos h0] at h
  by_cases h1:i<n
  .rw [if_pos h1] at h;have e:i.toNat=j:=Option.some.inj h;exact ⟨by rw [seqIndex_of h0 h1,e],by omega,by omega,h1⟩
  .rw [if_neg h1] at h;cases h
 .rw [if_neg h0] at h
  by_cases h1:-(n:Int)<=i
  .rw [if_pos h1] at h;have e:(i+n).toNat=j:=Option.some.inj h;exact ⟨by rw [seqIndex_neg (by omega) h1,e],by omega,h1,by omega⟩
  .rw [if_neg h1] at h;cases h
theorem zbq {α:Type} {xs:List α} {i:Int} {v:α} (h:sE xs i=some v):∃ j,seqIndex? i xs.length=some j/\xs[j]?=some v/\j<xs.length/\-(xs.length:Int)<=i/\i<xs.length:=by
 unfold sE at h
 cases e:dG xs.length i with
 |none=>rw [e] at h;cases h
 |some j =>
  rw [e] at h;obtain ⟨h1,h2,h3,h4⟩:=zdD e;exact ⟨j,h1,h,h2,h3,h4⟩
def zeo (b:Expr):Prop:=∀ o i,subscripted b false o i=operate [o,i] (getItem o i)
def IxR (X:Cx) (r:R2):Prop :=
 ∀ (value slice:Expr) (pins:List (Addr×Obj)) (s:Shared) (σ:St) (H:Hp) (x y:V) (v u:Value) (Q:VK),Inv X pins σ H s->zA x v->zA y u->r x y H Q ->
  subscripted slice false v u=operate [v,u] (getItem v u)->wpAny (model X.prog X.w) X.A (subscriptTail value slice v u) (EP X pins σ Q) X.xe s
def MtR (X:Cx) (id:String) (r:V->List V->Hp->VK->Prop):Prop :=
 ∀ (pins:List (Addr×Obj)) (s:Shared) (σ:St) (H:Hp) (x:V) (xs:List V) (v:Value) (us:List Value) (Q:VK),Inv X pins σ H s->zA x v->zE xs us->r x xs H Q ->
  wpAny (model X.prog X.w) X.A (call (.builtin id) (v::us)) (EP X pins σ Q) X.xe s
section
variable {X : Cx} {a b : Expr} {ta tb : TE} {pos : Pos}
theorem pe_ix {r:R2} (hr:IxR X r) (ha:PE X a ta) (hb:PE X b tb) (hs:zeo b):PE X (.Subscript a b pos) (tOp r ta tb):=by
 intro pins s σ H Q I h;exact Subscript_ (binT ha hb I h fun v u s2 x y H2 I2 rx ry q=>hr a b pins s2 σ H2 x y v u Q I2 rx ry q (hs _ _))
def rIxL (K:PySem.W.Frag):R2:=fun x y H Q=>∃ p xs i v,x=.ref p/\y=.int i/\nE K H p xs/\sE xs i=some v/\Q v H
def rIxT (K:PySem.W.Frag):R2:=fun x y H Q=>∃ p xs i v,x=.ref p/\y=.int i/\rM K H p xs/\sE xs i=some v/\Q v H
def rIxS:R2:=fun x y H Q=>∃ z i c,x=.str z/\y=.int i/\z.length<=sizeLine/\sE z.cps.toList i=some c/\Q (.str ⟨#[c]⟩) H
theorem zhG:IxR X (rIxL X.K):=by
 intro value slice pins s σ H x y v u Q I rx ry h hs;obtain ⟨p,xs,i,z,rfl,rfl,hq,he,q⟩:=h;cases rx;obtain ⟨t,rfl⟩:=ry;obtain ⟨its,r,pl,hz⟩:=I.list hq;obtain ⟨j,h1,h2,h3,h4,h5⟩:=zbq he;obtain ⟨w,ew,rw'⟩:=r.get h2;have hl:=r.length;have hn:=rS;have fin:EP X pins σ Q w s:=⟨z,H,I,rw',q⟩
 by_cases h0:0<=i
 .have hj:i.toNat=j:=by
   rw [seqIndex_of h0 h5] at h1;exact Option.some.inj h1
  exact item_listR pl.isList h0 (by omega) (by rw [hj];simpa using ew) fin hs
 .have hj:(i+(its.toArray.size:Int)).toNat=j:=by
   rw [seqIndex_neg (by omega) h4] at h1;rw [zzS,← hl];exact Option.some.inj h1
  exact subscriptTail_builtinR (x:=w) pl.isList.typeIs slot_list_getitem.lookup
   (wpAny_getItem_list_neg (Q:=fun r s'=>r=w/\EP X pins σ Q r s') pl.isList (by omega) (by rw [zzS]<;>omega) (by omega) (by rw [hj];simpa using ew) ⟨rfl,fin⟩) hs
theorem zkm:IxR X (rIxT X.K):=by
 intro value slice pins s σ H x y v u Q I rx ry h hs;obtain ⟨p,xs,i,z,rfl,rfl,hq,he,q⟩:=h;cases rx;obtain ⟨t,rfl⟩:=ry;obtain ⟨its,r,pl,hz⟩:=I.tuple hq;obtain ⟨j,h1,h2,h3,h4,h5⟩:=zbq he;obtain ⟨w,ew,rw'⟩:=r.get h2;have hl:=r.length;have hn:=rS;have fin:EP X pins σ Q w s:=⟨z,H,I,rw',q⟩
 exact subscriptTail_builtinR (x:=w) pl.typeIs slot_tuple_getitem.lookup
  (getItem_tuple (j:=j) (Q:=fun r s'=>r=w/\EP X pins σ Q r s') pl (by omega) (by omega) (by rw [zzS,← hl];exact h1) (by simpa using ew) ⟨rfl,fin⟩) hs
theorem zkn:IxR X rIxS:=by
 intro value slice pins s σ H x y v u Q I rx ry h hs;obtain ⟨z,i,c,rfl,rfl,hz,he,q⟩:=h;obtain ⟨t,rfl⟩:=rx;obtain ⟨t',rfl⟩:=ry;obtain ⟨j,h1,h2,h3,h4,h5⟩:=zbq he;have hl:z.cps.toList.length=z.length:=by simp [Str.length]
 rw [hl] at h1 h4 h5;have hn:=rS
 exact tail_any (typeIs_str s z t) slot_str_getitem.lookup (getItem_str (c:=c) (by
  have e1:decide (i < -(2 ^ 63:Int))=false:=decide_eq_false (by omega);have e2:decide (i>=2 ^ 63)=false:=decide_eq_false (by omega);rw [e1,e2,Bool.or_false]) (by rw [h1];simpa using h2) ⟨.str ⟨#[c]⟩,H,I.tok _,⟨_,rfl⟩,q⟩) hs
theorem zcj (its:List Value) (n j:Nat) (u:Value):Obj.mapSeq (·.setIfInBounds j u) { cls:=.type "list", data:=.seq its.toArray n }={ cls:=.type "list", data:=.seq (its.set j u).toArray n }:=by
 simp [Obj.mapSeq]
theorem Inv.lst {pins:List (Addr×Obj)} {σ:St} {H:Hp} {s:Shared} {p:Addr} {xs:List V} (I:Inv X pins σ H s) (h:H p=some (.lst xs)) :
  ∃ (its:List Value) (n:Nat),zE xs its/\s.heap.get? p=some { cls:=.type "list", data:=.seq its.toArray n }/\xs.length<=sizeLine:=by
 obtain ⟨z,its,n,r,e⟩:=I.hok p _ h;exact ⟨its,n,r,e,z⟩
theorem Inv.lstUpd {pins:List (Addr×Obj)} {σ:St} {H:Hp} {s:Shared} {p:Addr} {xs ys:List V} {its its':List Value} {n n':Nat} {f:Obj->Obj} (I:Inv X pins σ H s) (h:H p=some (.lst xs))
  (ho:s.heap.get? p=some { cls:=.type "list", data:=.seq its.toArray n }) (hf:f { cls:=.type "list", data:=.seq its.toArray n }={ cls:=.type "list", data:=.seq its'.toArray n' }) (r:zE ys its') (hz:ys.length<=sizeLine) (t:Nat) (ht:0<t:=by first|exact Nat.succ_pos _|exact L2.Inv.tk (by assumption)|exact L2.Inv.tk ‹L2.Inv _ _ _ _ _› | assumption|omega) :
  Inv X pins σ (xL H p (.lst ys)) { s with heap:=s.heap.update p f,toks:=t }:=by
 have e:(s.heap.update p f).get? p=some { cls:=.type "list", data:=.seq its'.toArray n' }:=by
  rw [Heap.get?_update_self f ho (by rw [hf]<;>rfl),hf]
 refine I.write (x:=p) (e:=p) (by rw [h];trivial) (.inl rfl) (fun b u hb q=>(Heap.get?_update_other _ _ (Ne.symm hb)).trans q) ⟨_,e⟩ ?_;exact ⟨hz,its',n',r,e⟩
def rSetL:V->V->V->Hp->(Hp->Prop)->Prop:=fun o i v H Q=>∃ p xs k j,o=.ref p/\i=.int k/\H p=some (.lst xs)/\dG xs.length k=some j/\Q (xL H p (.lst (xs.set j v)))
theorem zeJ:PSet X rSetL:=by
 intro pins s σ H o i v ov iv u Q I ro ri rv h;obtain ⟨p,xs,k,j,rfl,rfl,hp,hj,q⟩:=h;cases ro;obtain ⟨t,rfl⟩:=ri;obtain ⟨its,n,r,ho,hz⟩:=I.lst hp;obtain ⟨h1,h2,h3,h4⟩:=zdD hj;have hl:=r.length;have hn:=rS
 have I':Inv X pins σ (xL H p (.lst (xs.set j v))) { s with heap:=s.heap.update p (Obj.mapSeq (·.setIfInBounds j u)) } :=
  I.lstUpd hp ho (zcj its n j u) (r.set rv j) (by rw [List.length_set];exact hz) s.toks
 by_cases h0:0<=k
 .have hk:k.toNat=j:=by
   rw [seqIndex_of h0 h4] at h1;exact Option.some.inj h1
  exact PySem.W.ki_setAt ho h0 (by omega) (by rw [zzS,← hl];exact h4) (by rw [hk];exact ⟨_,I',q⟩)
 .have hk:(k+(its.toArray.size:Int)).toNat=j:=by
   rw [seqIndex_neg (by omega) h3] at h1;rw [zzS,← hl];exact Option.some.inj h1
  exact PySem.W.ki_setBack ho (by omega) (by rw [zzS,← hl];exact h3) (by omega) (by rw [hk];exact ⟨_,I',q⟩)
theorem zaa (lo hi:Option Int) (n:Nat):(sliceBounds lo hi none n).1=((HT.wJ n 0 lo:Nat):Int)/\(sliceBounds lo hi none n).2.1=((HT.wJ n n hi:Nat):Int)/\(sliceBounds lo hi none n).2.2=1:=by
 refine ⟨?_,?_,rfl⟩
 .cases lo with
  |none=>simp [sliceBounds,HT.wJ]
  |some i =>
   simp only [sliceBounds,HT.wJ,Option.getD_none,show (1:Int) > 0 by decide,if_true]
   by_cases h:i<0
   .simp only [h,if_true]<;>omega
   .simp only [h,if_false]<;>omega
 .cases hi with
  |none=>simp [sliceBounds,HT.wJ]
  |some i =>
   simp only [sliceBounds,HT.wJ,Option.getD_none,show (1:Int) > 0 by decide,if_true]
   by_cases h:i<0
   .simp only [h,if_true]<;>omega
   .simp only [h,if_false]<;>omega
theorem cL (its:List Value) (lo hi:Option Int):slicePick its.toArray lo hi none=((its.drop (HT.wJ its.length 0 lo)).take (HT.wJ its.length its.length hi-HT.wJ its.length 0 lo)).toArray:=by
 obtain ⟨h1,h2,h3⟩:=zaa lo hi its.toArray.size;unfold slicePick;rw [h1,h2,h3];simp only [sliceRange_one,pick_run,zzS]<;>rfl
def rSlL (K:PySem.W.Frag):V->Option Int->Option Int->Hp->VK->Prop:=fun x lo hi H Q=>∃ a xs,x=.ref a/\nE K H a xs/\∀ p,H p=none->Q (.ref p) (xL H p (.lst (cutV xs lo hi)))
theorem zcX:SlR X (rSlL X.K):=by
 intro pins s σ H x v vl vu lo hi sl Q I rx hs pl pu h;obtain ⟨a,xs,rfl,hx,q⟩:=h;cases rx;obtain ⟨its,r,ht,hz⟩:=I.list hx;have hlen:=r.length;refine ⟨"list", _,slot_list_getitem.lookup,ht.isList.typeIs,?_⟩;refine wpAny_getItem_list_slice ht.isList hs pl pu .none (by simp) ?_ (by rw [zzS]<;>omega);rw [cL,← hlen];refine ⟨.ref s.heap.objs.size,_,I.laid (t':=s.toks) (o:=.lst (cutV xs lo hi)) (fun b ob q=>Heap.get?_push_of_some _ q) (zzR _) ?_,rfl,q _ (I.hok.fresh (zzR _))⟩;exact ⟨Nat.le_trans (mJ xs lo hi) hz,_,0,(r.drop (HT.wJ xs.length 0 lo)).take (HT.wJ xs.length xs.length hi-HT.wJ xs.length 0 lo),Heap.get?_push_size _ rfl⟩
theorem zak:vS X (compareOp .NotIn) (fun x y H Q=>∃ i j,x=.str i/\y=.str j/\Q (.bl (!(!(Builtin.Str.occurrences j i 0 j.length 1).isEmpty))) H):=by
 intro pins s σ H x y v u Q I rx ry h;obtain ⟨i,j,rfl,rfl,q⟩:=h;obtain ⟨t,rfl⟩:=rx;obtain ⟨t',rfl⟩:=ry;exact notIn_str ⟨.bl _,H,I,rfl,q⟩
theorem uT:qO X (.builtin "len") (fun xs H Q=>∃ p ys,xs=[.ref p]/\(nE X.K H p ys\/rM X.K H p ys)/\Q (.int ys.length) H):=by
 intro pins s σ H xs us Q I r h;obtain ⟨p,ys,rfl,hq,q⟩:=h;obtain ⟨u,rfl,rx⟩:=qD r;cases rx;have hn:=rS;rcases hq with hq|hq
 .obtain ⟨its,r',pl,hz⟩:=I.list hq;have hlen:=r'.length;exact Calls.call_len_list pl.isList (by simp only [zzS]<;>omega) ⟨.int ys.length,H,I.tok _,⟨s.toks+1,by rw [zzS,hlen]⟩,q⟩
 .obtain ⟨its,r',pl,hz⟩:=I.tuple hq;have hlen:=r'.length;exact len_tuple pl (by simp only [zzS]<;>omega) ⟨.int ys.length,H,I.tok _,⟨s.toks+1,by rw [zzS,hlen]⟩,q⟩
theorem zaJ:qO X (.builtin "len") (fun xs H Q=>∃ z,xs=[.str z]/\z.length<=sizeLine/\Q (.int z.length) H):=by
 intro pins s σ H xs us Q I r h;obtain ⟨z,rfl,hz,q⟩:=h;obtain ⟨u,rfl,t,rfl⟩:=qD r;have hn:=rS;exact len_str (by omega) ⟨.int z.length,H,I.tok _,⟨_,rfl⟩,q⟩
theorem zaI:qO X (.type "list") (fun xs H Q=>∃ p ys,xs=[.ref p]/\(nE X.K H p ys\/rM X.K H p ys)/\∀ l,H l=none->Q (.ref l) (xL H l (.lst ys))):=by
 intro pins s σ H xs us Q I r h;obtain ⟨p,ys,rfl,hq,q⟩:=h;obtain ⟨u,rfl,rx⟩:=qD r;cases rx
 have fin:∀ (its:List Value),zE ys its->ys.length<=sizeLine->∀ (h':Heap) (c':Nat),(∀ b o',s.heap.get? b=some o'->h'.get? b=some o') ->
   h'.get? s.heap.objs.size=some { cls:=.type "list", dict:=none,data:=.seq its.toArray c',slots:=#[] }->EP X pins σ Q (.ref s.heap.objs.size) { s with heap:=h' }:=fun its r' hz h' c' kp e =>
  ⟨.ref s.heap.objs.size,_,I.laid (t':=s.toks) kp (zzR _) (show xU X.prog X.w _ h' _ (.lst ys) from ⟨hz,its,c',r',e⟩),rfl,q _ (I.hok.fresh (zzR _))⟩
 rcases hq with hq|hq
 .obtain ⟨its,r',pl,hz⟩:=I.list hq;have hlen:=r'.length;obtain ⟨o,ho,hc,n,hd⟩:=pl.isList;exact call_list_seq p (.inl rfl) ho hc hd (fun h' c' kp e=>fin its r' hz h' c' kp e) (by simp only [zzS]<;>omega)
 .obtain ⟨its,r',pl,hz⟩:=I.tuple hq;have hlen:=r'.length;obtain ⟨o,ho,hc,n,hd⟩:=pl;exact call_list_seq p (.inr rfl) ho hc hd (fun h' c' kp e=>fin its r' hz h' c' kp e) (by simp only [zzS]<;>omega)
def tyV (K:PySem.W.Frag) (T:String) (x:V) (H:Hp):Prop:=match x with
 | .str _=>T = "str"
 | .int _=>T = "int"
 | .ref p=>(T = "list" /\ ∃ xs,nE K H p xs)\/(T = "tuple" /\ ∃ o,K.lookup p=some o/\o.cls=.type "tuple" /\ o.dict=none) \/
   (T = "dict" /\ ((∃ kvs,H p=some (.dK kvs))\/∃ kvs,H p=some (.dT kvs)))\/(T = "set" /\ ∃ S n,H p=some (.set S n))
 |_=>False
theorem zfT {pins:List (Addr×Obj)} {σ:St} {H:Hp} {s:Shared} {T:String} {x:V} {v:Value} (I:Inv X pins σ H s) (r:zA x v) (ty:tyV X.K T x H) :
  s.TypeIs v T/\∀ a,v=.ref a->∃ ob,s.heap.get? a=some ob/\ob.dict=none:=by
 cases x with
 |str z =>
  obtain ⟨t,rfl⟩:=r;cases (show T = "str" from ty);exact ⟨typeIs_str s z t,fun _ e=>nomatch e⟩
 |int i =>
  obtain ⟨t,rfl⟩:=r;cases (show T = "int" from ty);exact ⟨typeIs_int s i t,fun _ e=>nomatch e⟩
 |ref p =>
  cases r;rcases ty with ⟨rfl,xs,hq⟩|⟨rfl,o,hk,hc,hd⟩|⟨rfl,hk⟩|⟨rfl,S,n,hk⟩
  .obtain ⟨its,_,pl,_⟩:=I.list hq;refine ⟨pl.isList.typeIs,fun a e=>?_⟩;cases e;obtain ⟨o,n,e,c,hd,_⟩:=pl;exact ⟨o,e,hd⟩
  .refine ⟨⟨o,I.kIn p o hk,hc⟩,fun a e=>?_⟩;cases e;exact ⟨o,I.kIn _ o hk,hd⟩
  .have z:∃ o,s.heap.get? p=some o/\o.ExactDict:=by
    rcases hk with ⟨kvs,hk⟩|⟨kvs,hk⟩
    .obtain ⟨_,_,_,_,o,_,_,e,ex,_⟩:=I.hok p _ hk;exact ⟨o,e,ex⟩
    .obtain ⟨_,_,_,_,o,_,_,e,ex,_⟩:=I.hok p _ hk;exact ⟨o,e,ex⟩
   obtain ⟨o,e,ex⟩:=z;refine ⟨⟨o,e,ex.1⟩,fun a e2=>?_⟩;cases e2;exact ⟨o,e,ex.2.1⟩
  .obtain ⟨o,_,_,_,e,ex,_⟩:=I.hok p _ hk;refine ⟨⟨o,e,ex.1⟩,fun a e2=>?_⟩;cases e2;exact ⟨o,e,ex.2.1⟩
 |_=>exact False.elim ty
def tBM0 (K:PySem.W.Frag) (T:String) (r:V->List V->Hp->VK->Prop) (to:TE):TE:=fun σ H Q=>to σ H fun x H1=>tyV K T x H1/\r x [] H1 Q
def tBM (K:PySem.W.Frag) (T:String) (r:V->List V->Hp->VK->Prop) (to:TE) (t:TA):TE:=fun σ H Q=>to σ H fun x H1=>tyV K T x H1/\t σ H1 fun xs H2=>r x xs H2 Q
variable {o e : Expr} {es : List Expr} {to : TE} {t : TA} {name : Str} {apos cpos : Pos} {T id : String} {r : V → List V → Hp → VK → Prop}
theorem zjH (pa:PlainAttrs T) (slot:Slot T name id) (hty:typeOf (.builtin id)=pure (.type "method_descriptor")) (hm:MtR X id r) (ho:PE X o to)
  (hbase:attributeBase o name X.env (eval o X.env)=eval o X.env:=by rfl) (hline:(apos.endLine==cpos.line)=true:=by rfl):PE X (.Call (.Attribute o name apos) [] [] cpos) (tBM0 X.K T r to):=by
 intro pins s σ H Q I h;refine wpAny_Call_method0_late hbase hline (yG (ho pins s σ H _ I h) fun v s1 ⟨x,H1,I1,r1,ty,q1⟩=>?_);obtain ⟨h1,h2⟩:=zfT I1 r1 ty;exact ⟨T,id,pa,slot,hty,h1,h2,Calls.callWith_builtin rfl (PySem.evalArgs_none (hm pins s1 σ H1 x [] v [] Q I1 r1 .nil q1))⟩
theorem pe_bm (pa:PlainAttrs T) (slot:Slot T name id) (hty:typeOf (.builtin id)=pure (.type "method_descriptor")) (hm:MtR X id r) (ho:PE X o to) (ha:PA X (e::es) t)
  (hbase:attributeBase o name X.env (eval o X.env)=eval o X.env:=by rfl)
  (hfew:((backTo cpos (starEach (e::es) X.env)).all (fun x=>!x.1)&&(backToKw cpos (keywordEach [] X.env)).all (fun x=>x.1.isSome)
   && decide ((e::es).length+([]:List Keyword).length+(if ([]:List Keyword).isEmpty then 0 else 1)<30))=true:=by rfl)
  (hline:(apos.endLine==cpos.line)=true:=by rfl) (hs:starEach (e::es) X.env=(false,eval e X.env)::starEach es X.env:=by rfl) (hplain:(backTo cpos (starEach es X.env)).any (·.1)=false:=by rfl) :
  PE X (.Call (.Attribute o name apos) (e::es) [] cpos) (tBM X.K T r to t):=by
 intro pins s σ H Q I h;refine wpAny_Call_method_late hbase hfew hline rfl (yG (ho pins s σ H _ I h) fun v s1 ⟨x,H1,I1,r1,ty,q1⟩=>?_);obtain ⟨h1,h2⟩:=zfT I1 r1 ty;refine ⟨T,id,pa,slot,hty,h1,h2,?_⟩;have hA:=ha cpos pins s1 σ H1 _ I1 q1;rw [hs] at hA ⊢;refine Calls.callWith_builtin (by show (false || (backTo cpos (starEach es X.env)).any (·.1))=false;rw [hplain]<;>rfl) (Calls.evalArgs_plain ?_);exact yG hA fun us s2 ⟨vs,H2,I2,r2,q2⟩=>hm pins s2 σ H2 x vs v us Q I2 r1 r2 q2
/- xs.append(e),list.index on a module's tuple .. are MtR facts of 06m -/
end
end L2
namespace L2
open PySem PySem.Spec PyProof.Rows
def MtM (X:Cx) (id:String) (r:V->List V->Hp->VK->Prop):Prop :=
 ∀ (pins:List (Addr×Obj)) (s:Shared) (σ:St) (H:Hp) (x:V) (xs:List V) (v:Value) (us:List Value) (Q:VK),Inv X pins σ H s->zA x v->zE xs us->r x xs H Q ->
  wpAny (model X.prog X.w) X.A (call (.builtin id) (v::us)) (EP X pins σ Q) X.xe s
theorem zE.one:∀ {x:V} {us:List Value},zE [x] us->∃ u,us=[u]/\zA x u
 |_,_,.cons r .nil=>⟨_,rfl,r⟩
theorem zE.zero:∀ {us:List Value},zE [] us->us=[]
 |_,.nil=>rfl
theorem zE.dropLast {xs:List V} {us:List Value} (h:zE xs us):zE xs.dropLast us.dropLast:=by
 induction h with
 |nil=>exact .nil
 |cons r t ih =>
  cases t with
  |nil=>exact .nil
  |cons q t'=>exact .cons r ih
theorem zE.reverse {xs:List V} {us:List Value} (h:zE xs us):zE xs.reverse us.reverse:=by
 induction h with
 |nil=>exact .nil
 |cons r t ih=>rw [List.reverse_cons,List.reverse_cons];exact zE.append ih (.cons r .nil)
theorem zE.rep {xs:List V} {us:List Value} (h:zE xs us):∀ k:Nat,zE (List.replicate k xs).flatten (List.replicate k us).flatten
 | 0=>.nil
 |k+1=>by
  rw [List.replicate_succ,List.replicate_succ,List.flatten_cons,List.flatten_cons];exact zE.append h (zE.rep h k)
theorem zcw {α:Type} (l:List α):l.eraseIdx (l.length-1)=l.dropLast:=by
 induction l with
 |nil=>rfl
 |cons a r ih =>
  cases r with
  |nil=>rfl
  |cons b r =>
   have e:(a::b::r).length-1=((b::r).length-1)+1:=by
    have h1:(a::b::r).length=r.length+2:=rfl;have h2:(b::r).length=r.length+1:=rfl;omega
   rw [e,List.eraseIdx_cons_succ,ih]
   all_goals rfl
theorem zaB (its:List Value):∀ (k:Nat) (acc:List Value),
  List.foldl (fun x1 x2=>x1++x2) acc.toArray (List.replicate k its.toArray)=(acc++(List.replicate k its).flatten).toArray
 | 0,acc=>by simp
 |k+1,acc=>by
  have e:acc.toArray++its.toArray=(acc++its).toArray:=by simp
  have e2:(acc++its)++(List.replicate k its).flatten=acc++(List.replicate (k+1) its).flatten:=by
   rw [List.replicate_succ,List.flatten_cons,List.append_assoc]
  rw [← e2,← zaB its k (acc++its),← e,List.replicate_succ,List.foldl_cons]
section
variable {X : Cx} {pins : List (Addr × Obj)} {σ : St} {H : Hp} {s : Shared} {l b : Addr} {xs ys zs : List V}
theorem Inv.lset {its its':List Value} {n:Nat} {f:Array Value->Array Value} {t':Nat} (I:Inv X pins σ H s) (hH:H l=some (.lst xs))
  (e:s.heap.get? l=some { cls:=.type "list", data:=.seq its.toArray n }) (hf:f its.toArray=its'.toArray) (hv:zE ys its') (hz:ys.length<=sizeLine) (ht:0<t':=by first|exact Nat.succ_pos _|exact L2.Inv.tk (by assumption)|exact L2.Inv.tk ‹L2.Inv _ _ _ _ _› | assumption|omega) :
  Inv X pins σ (xL H l (.lst ys)) { s with heap:=s.heap.update l (Obj.mapSeq f),toks:=t' }:=by
 have q:=PySem.IsL.update e f;rw [hf] at q;refine I.write (x:=l) (e:=l) (by rw [hH];exact trivial) (.inl rfl) (fun b' u hb hu=>(Heap.get?_update_other s.heap (Obj.mapSeq f) (Ne.symm hb)).trans hu) ⟨_,q⟩ ?_;exact ⟨hz,its',_,hv,q⟩
theorem Inv.lnew {its:List Value} {t':Nat} (I:Inv X pins σ H s) (hv:zE ys its) (hz:ys.length<=sizeLine) (ht:0<t':=by first|exact Nat.succ_pos _|exact L2.Inv.tk (by assumption)|exact L2.Inv.tk ‹L2.Inv _ _ _ _ _› | assumption|omega) :
  Inv X pins σ (xL H s.heap.objs.size (.lst ys)) { s with heap:=s.heap.push { cls:=.type "list", data:=.seq its.toArray },toks:=t' } :=
 I.laid (fun _ _ q=>Heap.get?_push_of_some _ q) (zzR _) ⟨hz,its,0,hv,Heap.get?_push_size _ rfl⟩
theorem Inv.fresh (I:Inv X pins σ H s):H s.heap.objs.size=none:=I.hok.fresh (zzR _)
theorem Inv.lstM (I:Inv X pins σ H s) (hH:H l=some (.lst xs)):xs.length<=sizeLine/\∃ (its:List Value) (n:Nat),zE xs its/\xs.length=its.length/\s.heap.get? l=some { cls:=.type "list", data:=.seq its.toArray n }:=by
 obtain ⟨z,its,n,r,e⟩:=I.hok l _ hH;exact ⟨z,its,n,r,r.length,e⟩
theorem fK {n:Nat} (h:n<=sizeLine):Builtin.List.listTooLong n=false:=by
 unfold Builtin.List.listTooLong;exact decide_eq_false (by omega)
end
section
variable {X : Cx}
def zg6:V->List V->Hp->VK->Prop:=fun x vs H Q=>∃ l xs y,x=.ref l/\vs=[y]/\H l=some (.lst xs)/\xs.length<sizeLine/\Q .non (xL H l (.lst (xs++[y])))
theorem zdm:MtM X "list.append" zg6:=by
 intro pins s σ H x vs v us Q I rx rv h;obtain ⟨l,xs,y,rfl,rfl,hH,hz,q⟩:=h;cases rx;obtain ⟨u,rfl,ru⟩:=rv.one;obtain ⟨z,its,n,r,hl,e⟩:=I.lstM hH;refine call_meets F.slot_list_append ⟨_,e,rfl⟩ F.entry_list_append (F.args_list_append_2 _ _) (PySem.list_append l its.toArray n u (by rw [zzS];omega)) ⟨e,?_⟩;refine ⟨.non,_,I.lset (its':=its++[u]) hH e (by simp) (r.append (.cons ru .nil)) ?_,rfl,q⟩;rw [zzW,List.length_singleton];omega
def rPop:V->List V->Hp->VK->Prop:=fun x vs H Q=>∃ l xs y,x=.ref l/\vs=[]/\H l=some (.lst xs)/\xs[xs.length-1]?=some y/\Q y (xL H l (.lst xs.dropLast))
theorem zjU:MtM X "list.pop" rPop:=by
 intro pins s σ H x vs v us Q I rx rv h;obtain ⟨l,xs,y,rfl,rfl,hH,hy,q⟩:=h;cases rx;have hus:=rv.zero;subst hus;obtain ⟨z,its,n,r,hl,e⟩:=I.lstM hH;obtain ⟨u,hu,ru⟩:=r.get hy
 have hy':its.toArray[its.toArray.size-1]?=some u:=by
  show its.toArray[its.length-1]?=some u;rw [← Array.getElem?_toList,← hl];exact hu
 refine call_meets F.slot_list_pop ⟨_,e,rfl⟩ F.entry_list_pop (F.args_list_pop_1 _) (MeetsSeq.list_pop_last l its.toArray n u hy' (by rw [zzS];omega)) ⟨e,?_⟩;refine ⟨y,_,I.lset (its':=its.dropLast) hH e ?_ r.dropLast ?_,ru,q⟩
 .show its.toArray.eraseIdxIfInBounds (its.toArray.size-1)=its.dropLast.toArray;rw [zzS,List.eraseIdxIfInBounds_toArray,zcw]
 .rw [List.length_dropLast];omega
def rCat:R2:=fun x y H Q=>∃ l b xs zs,x=.ref l/\y=.ref b/\H l=some (.lst xs)/\H b=some (.lst zs)/\xs.length+zs.length<=sizeLine/\∀ p,H p=none->Q (.ref p) (xL H p (.lst (xs++zs)))
theorem zjN:vS X (binaryOp .Add) rCat:=by
 intro pins s σ H x y v u Q I rx ry h;obtain ⟨l,b,xs,zs,rfl,rfl,hH,hB,hz,q⟩:=h;cases rx;cases ry;obtain ⟨z,its,n,r,hl,e⟩:=I.lstM hH;obtain ⟨z2,its2,n2,r2,hl2,e2⟩:=I.lstM hB;refine PySem.P.add_list e e2 ?_ (by rw [zzS,zzS];omega);have ea:its.toArray++its2.toArray=(its++its2).toArray:=by simp
 rw [ea];exact ⟨.ref _,_,I.lnew (t':=s.toks) (r.append r2) (by rw [zzW];omega),rfl,q _ I.fresh⟩
def rRep:R2:=fun x y H Q=>∃ l k xs,x=.ref l/\y=.int k/\H l=some (.lst xs)/\-(2 ^ 63)<=k/\k<2 ^ 63/\xs.length * k.toNat<=sizeLine /\
 ∀ p,H p=none->Q (.ref p) (xL H p (.lst (List.replicate k.toNat xs).flatten))
theorem zhz {α:Type} (xs:List α) (k:Nat):(List.replicate k xs).flatten.length=k * xs.length:=by
 induction k with
 |zero=>simp
 |succ k ih=>rw [List.replicate_succ,List.flatten_cons,zzW,ih,Nat.succ_mul,Nat.add_comm]
theorem zjJ:vS X (binaryOp .Mult) rRep:=by
 intro pins s σ H x y v u Q I rx ry h;obtain ⟨l,k,xs,rfl,rfl,hH,h1,h2,hz,q⟩:=h;cases rx;obtain ⟨t,rfl⟩:=ry;obtain ⟨z,its,n,r,hl,e⟩:=I.lstM hH;have hlen:its.toArray.size * k.toNat<=sizeLine:=by rw [zzS,← hl];exact hz
 have hcap:¬ its.toArray.size * k.toNat > (2 ^ 63-1) / 8:=by
  have:(sizeLine:Nat)<=(2 ^ 63-1) / 8:=by decide
  omega
 have hfit:¬ (!Builtin.List.listFitsIndex k)=true:=by
  rw [fitsIndex_both h1 h2];exact zzN
 have hlong:¬ Builtin.List.listTooLong (its.toArray.size * k.toNat)=true:=by
  rw [fK hlen];exact zzN
 have hnew:List.foldl (fun x1 x2=>x1++x2) #[] (List.replicate (if its.toArray.isEmpty=true then 0 else k.toNat) its.toArray)=(List.replicate k.toNat its).flatten.toArray:=by
  have f0:∀ m:Nat,List.foldl (fun x1 x2=>x1++x2) #[] (List.replicate m its.toArray)=(List.replicate m its).flatten.toArray:=fun m=>by
   have:=zaB its m [];rw [List.nil_append] at this;exact this
  rw [f0]
  cases its with
  |nil=>simp
  |cons a r'=>rw [if_neg (by simp)]
 refine wpAny_binaryOp_repeat_ref (T := "list") (U := "int") (by decide) ⟨_,e,rfl⟩ (fun s'=>typeIs_int s' k t) noFill_list_mul F.fills_int_mul F.slot_int_rmul repeat_list F.slot_int_index.lookup
  (call_meets F.slot_int_rmul (typeIs_int s k t) F.entry_int_rmul (F.args_int_rmul_2 _ _) (int___rmul___int_list k t l its.toArray n)
   ⟨e,rfl,⟨_,e,rfl⟩,call_meets F.slot_list_mul ⟨_,e,rfl⟩ F.entry_list_mul (F.args_list_mul_2 _ _) (AutoListH.list___mul___list_int_3 l its.toArray n k t hfit hcap hlong) ⟨e,?_⟩⟩)
 rw [hnew];exact ⟨.ref _,_,I.lnew (t':=s.toks) (r.rep k.toNat) (by rw [zhz,Nat.mul_comm];exact hz),rfl,q _ I.fresh⟩
end
section
variable {prog : Program} {w : World} {A : Around} {E : Value → Shared → Prop} {s : Shared}
set_option maxRecDepth 100000 in
end
section
variable {X : Cx}
end
end L2
namespace L2
open PySem PySem.Spec PyProof.Rows
section
variable {κ : Type} [DecidableEq κ]
def uL (kvs:List (κ×V)) (k:κ):Option V:=(kvs.find? fun kv=>decide (kv.1=k)).map (·.2)
def uI (kvs:List (κ×V)) (k:κ) (v:V):List (κ×V) :=
 if (kvs.any fun kv=>decide (kv.1=k))=true then kvs.map (fun kv=>if kv.1=k then (kv.1,v) else kv) else kvs++[(k,v)]
theorem gJ {p:κ×V} {r:List (κ×V)} {k:κ} (e:p.1=k):uL (p::r) k=some p.2:=by simp [uL,List.find?_cons,e]
theorem gI {p:κ×V} {r:List (κ×V)} {k:κ} (e:¬ p.1=k):uL (p::r) k=uL r k:=by simp [uL,List.find?_cons,e]
theorem zbu (k:κ):∀ kvs:List (κ×V),(kvs.any fun kv=>decide (kv.1=k))=(uL kvs k).isSome
 | []=>rfl
 |p::r=>by
  rw [List.any_cons]
  by_cases e:p.1=k
  .simp only [gJ e,decide_eq_true e,Bool.true_or,Option.isSome_some]
  .rw [gI e,decide_eq_false e,Bool.false_or];exact zbu k r
theorem tM (kvs:List (κ×V)) (k:κ) (v:V):(uI kvs k v).length<=kvs.length+1:=by
 unfold uI
 split
 .rw [zzM];omega
 .rw [zzW,List.length_cons,List.length_nil];omega
theorem nC.isSome_eq {o:Option V} {u:Option Value} (r:nC o u):o.isSome=u.isSome:=by
 cases o with
 |none=>cases u with
  |none=>rfl
  |some _=>exact (show False from r).elim
 |some _=>cases u with
  |none=>exact (show False from r).elim
  |some _=>rfl
theorem KV.val {kvs:List (κ×V)} {vs:List (κ×Value)} (r:KV kvs vs) (k:κ):nC (uL kvs k) (valueAt vs k):=by
 unfold KV at r
 induction r with
 |nil=>exact True.intro
 | @cons p q ps qs h t ih =>
  obtain ⟨h1,h2⟩:=h
  by_cases e:p.1=k
  .have e':q.1=k:=h1.symm.trans e;have b:valueAt (q::qs) k=some q.2:=by simp [valueAt,List.find?_cons,e']
   rw [gJ e,b];exact h2
  .have e':¬ q.1=k:=fun z=>e (h1.trans z);have b:valueAt (q::qs) k=valueAt qs k:=by simp [valueAt,List.find?_cons,e']
   rw [gI e,b];exact ih
theorem KV.any {kvs:List (κ×V)} {vs:List (κ×Value)} (r:KV kvs vs) (k:κ):(kvs.any fun kv=>decide (kv.1=k))=vs.any fun kv=>decide (kv.1=k):=by
 unfold KV at r
 induction r with
 |nil=>rfl
 |cons h t ih=>rw [List.any_cons,List.any_cons,ih,h.1]
theorem KV.repl {kvs:List (κ×V)} {vs:List (κ×Value)} (r:KV kvs vs) (k:κ) {y:V} {u:Value} (ry:zA y u) :
  KV (kvs.map fun kv=>if kv.1=k then (kv.1,y) else kv) (vs.map fun kv=>if kv.1=k then (kv.1,u) else kv):=by
 unfold KV at r ⊢
 induction r with
 |nil=>exact .nil
 | @cons p q ps qs h t ih =>
  rw [zzU,zzU];refine .cons ?_ ih;obtain ⟨h1,h2⟩:=h
  by_cases e:p.1=k
  .rw [if_pos e,if_pos (h1.symm.trans e)];exact ⟨h1,ry⟩
  .rw [if_neg e,if_neg (fun z=>e (h1.trans z))];exact ⟨h1,h2⟩
theorem KV.put {kvs:List (κ×V)} {vs:List (κ×Value)} (r:KV kvs vs) (k:κ) {y:V} {u:Value} (ry:zA y u):KV (uI kvs k y) (stored vs k u):=by
 unfold uI stored;rw [r.any k]
 by_cases e:(vs.any fun kv=>decide (kv.1=k))=true
 .rw [if_pos e,if_pos e];exact r.repl k ry
 .rw [if_neg e,if_neg e];exact Paired.snoc r ⟨rfl,ry⟩
theorem KV.length {kvs:List (κ×V)} {vs:List (κ×Value)} (r:KV kvs vs):kvs.length=vs.length:=Paired.length r
end
theorem zco {P:Program} {w:World} {k:yC} {u:Value} (r:zA (kV k) u):(xR P w).is k u=true:=by
 cases k with
 |inl i=>obtain ⟨t,e⟩:=(show ∃ t,u=Value.int i t from r);subst e;exact za7 P w i t
 |inr x=>obtain ⟨t,e⟩:=(show ∃ t,u=Value.str x t from r);subst e;exact za6 P w x t
theorem zav {P:Program} {w:World}:∀ {ks:List yC} {us:List Value},zE (ks.map kV) us->ItemsAre (xR P w) ks us
 | [],_,r=>by rw [zzV] at r;cases r;exact .nil
 |k::ks,_,r=>by
  rw [zzU] at r
  cases r with
  |cons h t=>exact .cons (zco h) (zav t)
abbrev KT (H:Hp):List (List yC×V)->List (List yC×Addr×Value)->Prop:=Paired fun p q=>p.1=q.1/\H q.2.1=some (.tup (p.1.map kV))/\zA p.2 q.2.2
theorem KT.val {H:Hp} {kvs:List (List yC×V)} {xs:List (List yC×Addr×Value)} (r:KT H kvs xs) (k:List yC):nC (uL kvs k) ((atKey xs k).map (·.2)):=by
 induction r with
 |nil=>exact True.intro
 | @cons p q ps qs h t ih =>
  obtain ⟨h1,_,h2⟩:=h
  by_cases e:p.1=k
  .have e':q.1=k:=h1.symm.trans e;have b:atKey (q::qs) k=some q.2:=by simp [atKey,List.find?_cons,e']
   rw [gJ e,b];exact h2
  .have e':¬ q.1=k:=fun z=>e (h1.trans z);have b:atKey (q::qs) k=atKey qs k:=by simp [atKey,List.find?_cons,e']
   rw [gI e,b];exact ih
theorem KT.repl {H:Hp} {kvs:List (List yC×V)} {xs:List (List yC×Addr×Value)} (r:KT H kvs xs) (k:List yC) {y:V} {u:Value} (ry:zA y u) :
  KT H (kvs.map fun kv=>if kv.1=k then (kv.1,y) else kv) (xs.map (putAt k u)):=by
 induction r with
 |nil=>exact .nil
 | @cons p q ps qs h t ih =>
  rw [zzU,zzU];refine .cons ?_ ih;obtain ⟨h1,h2,h3⟩:=h;unfold putAt
  by_cases e:p.1=k
  .rw [if_pos e,if_pos (h1.symm.trans e)];exact ⟨h1,h2,ry⟩
  .rw [if_neg e,if_neg (fun z=>e (h1.trans z))];exact ⟨h1,h2,h3⟩
theorem KT.put {H:Hp} {kvs:List (List yC×V)} {xs:List (List yC×Addr×Value)} (r:KT H kvs xs) (k:List yC) {b:Addr} {y:V} {u:Value} (hb:H b=some (.tup (k.map kV))) (ry:zA y u) :
  KT H (uI kvs k y) (storedH xs k b u):=by
 have e:(kvs.any fun kv=>decide (kv.1=k))=(atKey xs k).isSome:=by
  rw [zbu,(r.val k).isSome_eq,Option.isSome_map]
 unfold uI storedH;rw [e]
 by_cases q:(atKey xs k).isSome=true
 .rw [if_pos q,if_pos q];exact r.repl k ry
 .rw [if_neg q,if_neg q];exact Paired.snoc r ⟨rfl,hb,ry⟩
theorem KT.keeps {H H':Hp} {kvs:List (List yC×V)} {xs:List (List yC×Addr×Value)} (r:KT H kvs xs) (ht:∀ b ys,H b=some (.tup ys)->H' b=some (.tup ys)):KT H' kvs xs :=
 Paired.mapP r fun _ _ z=>⟨z.1,ht _ _ z.2.1,z.2.2⟩
section
variable {P : Program} {w : World} {H : Hp} {h : Heap} {a : Addr}
theorem zjk {u:HO} (ok:sR P w H h) (e:Rd H a u):xU P w H h a u:=e.ok ok
theorem cY {kvs:List (yC×V)} (ok:sR P w H h) (e:Rd H a (.dK kvs)):kvs.length<=sizeLine/\(a==sysModules)=false/\∃ vs,KV kvs vs/\h.DictOf (xR P w) a vs :=
 show xU P w H h a (.dK kvs) from zjk ok e
theorem zkU {kvs:List (yC×V)} (ok:sR P w H h) (e:H a=some (.dK kvs)):kvs.length<=sizeLine/\(a==sysModules)=false/\∃ vs,KV kvs vs/\h.DictOf (xR P w) a vs:=cY ok (.inl e)
theorem dJ {ks:List yC} (ok:sR P w H h) (e:H a=some (.tup (ks.map kV))):(tupleKind (xR P w)).is h ks a:=by
 obtain ⟨_,its,r,o,h1,h2,n,h3⟩:=(show xU P w H h a (.tup (ks.map kV)) from ok a _ e);exact ⟨o,its.toArray,n,h1,h2,h3,by simpa using zav r⟩
theorem zd0 {kvs:List (List yC×V)} (ok:sR P w H h) (e:Rd H a (.dT kvs)):kvs.length<=sizeLine/\(a==sysModules)=false /\
  ∃ xs,KT H kvs xs/\h.DictOfH (tupleKind (xR P w)) a xs:=by
 obtain ⟨z,y,xs,r,o,es,ep,h1,h2,h3,h4,h5⟩:=(show xU P w H h a (.dT kvs) from zjk ok e);refine ⟨z,y,xs,r,o,es,ep,h1,h2,h3,h4,fun x hx=>?_,h5⟩
 have all:∀ {l:List (List yC×V)} {m:List (List yC×Addr×Value)},KT H l m->∀ x∈m,(tupleKind (xR P w)).is h x.1 x.2.1:=by
  intro l m q
  induction q with
  |nil=>intro x hx;exact nomatch hx
  | @cons p q ps qs hq t ih =>
   intro x hx;rcases List.mem_cons.mp hx with e|hx
   .subst e;exact dJ ok (by rw [← hq.1];exact hq.2.1)
   .exact ih x hx
 exact all r x hx
theorem dt_of {kvs:List (List yC×V)} (ok:sR P w H h) (e:H a=some (.dT kvs)):kvs.length<=sizeLine/\(a==sysModules)=false /\
  ∃ xs,KT H kvs xs/\h.DictOfH (tupleKind (xR P w)) a xs:=zd0 ok (.inl e)
end
def DGet (H:Hp) (a:Addr) (y:V) (r:Option V):Prop :=
 (∃ kvs k,Rd H a (.dK kvs)/\y=kV k/\r=uL kvs k)\/∃ kvs k b,Rd H a (.dT kvs)/\y=.ref b/\H b=some (.tup (k.map kV))/\r=uL kvs k
def DPut (H:Hp) (a:Addr) (y v:V) (H':Hp):Prop :=
 (∃ kvs k,H a=some (.dK kvs)/\y=kV k/\kvs.length<sizeLine/\H'=xL H a (.dK (uI kvs k v))) \/
 ∃ kvs k b,H a=some (.dT kvs)/\y=.ref b/\H b=some (.tup (k.map kV))/\kvs.length<sizeLine/\H'=xL H a (.dT (uI kvs k v))
section
variable {X : Cx} {pins : List (Addr × Obj)} {σ : St} {H : Hp} {s : Shared} {a : Addr} {y v : V} {u r : Value} {o : Option V} {A : Around} {E : Value → Shared → Prop}
theorem Inv.big (I:Inv X pins σ H s):sysModules<s.heap.objs.size:=by
 have h:mainGlobals<s.heap.objs.size:=(I.mod.glob.keeps I.bk).lt;exact Nat.lt_trans (by decide) h
theorem zd5 {Q:Value->Shared->Prop} (hu:A.units+1<cLine) (I:Inv X pins σ H s) (g:DGet H a y (some v)) (ry:zA y u) (h:∀ w' s',Inv X pins σ H s'->zA v w'->Q w' s') :
  wpAny (model X.prog X.w) A (getItem (.ref a) u) Q E s:=by
 rcases g with ⟨kvs,k,e,ey,l⟩|⟨kvs,k,b,e,ey,eb,l⟩
 .subst ey;obtain ⟨z,hd,vs,rel,dd⟩:=cY I.hok e;obtain ⟨w',hw,rw'⟩:=nC.some_of (v:=v) (o:=valueAt vs k) (by rw [l];exact rel.val k);exact wpAny_getItem_of (zco ry) dd.mapOf hw (h w' _ (I.tok _) rw')
 .subst ey;cases (show u=Value.ref b from ry);obtain ⟨z,hd,xs,rel,dd⟩:=zd0 I.hok e;obtain ⟨w',hw,rw'⟩:=nC.some_of (v:=v) (o:=(atKey xs k).map (·.2)) (by rw [l];exact rel.val k);obtain ⟨p,hp,hp2⟩:=Option.map_eq_some_iff.mp hw;refine wpAny_getItem_heap (tupleKind_room_in1 hu) (dJ I.hok eb) dd hp ?_;rw [hp2];exact h w' _ (I.tok _) rw'
theorem d_in {Q:Value->Shared->Prop} (hu:A.units+1<cLine) (I:Inv X pins σ H s) (g:DGet H a y o) (ry:zA y u) (h:∀ s',Inv X pins σ H s'->Q (.bool o.isSome) s') :
  wpAny (model X.prog X.w) A (compareOp .In u (.ref a)) Q E s:=by
 rcases g with ⟨kvs,k,e,ey,l⟩|⟨kvs,k,b,e,ey,eb,l⟩
 .subst ey;obtain ⟨z,hd,vs,rel,dd⟩:=cY I.hok e;refine wpAny_in_of (zco ry) hd dd.mapOf ?_;rw [← (rel.val k).isSome_eq,← l];exact h _ (I.tok _)
 .subst ey;cases (show u=Value.ref b from ry);obtain ⟨z,hd,xs,rel,dd⟩:=zd0 I.hok e;refine wpAny_in_heap (tupleKind_room_in1 hu) (dJ I.hok eb) hd dd ?_;have q:=(rel.val k).isSome_eq;rw [Option.isSome_map] at q;rw [← q,← l];exact h _ (I.tok _)
theorem zii {Q:Value->Shared->Prop} (hu:A.units+1<cLine) (I:Inv X pins σ H s) (g:DGet H a y o) (ry:zA y u) (h:∀ s',Inv X pins σ H s'->Q (.bool (!o.isSome)) s') :
  wpAny (model X.prog X.w) A (compareOp .NotIn u (.ref a)) Q E s:=by
 rcases g with ⟨kvs,k,e,ey,l⟩|⟨kvs,k,b,e,ey,eb,l⟩
 .subst ey;obtain ⟨z,hd,vs,rel,dd⟩:=cY I.hok e;refine wpAny_notIn_of (zco ry) hd dd.mapOf ?_;rw [← (rel.val k).isSome_eq,← l];exact h _ (I.tok _)
 .subst ey;cases (show u=Value.ref b from ry);obtain ⟨z,hd,xs,rel,dd⟩:=zd0 I.hok e;refine wpAny_notIn_heap (tupleKind_room_in1 hu) (dJ I.hok eb) hd dd ?_;have q:=(rel.val k).isSome_eq;rw [Option.isSome_map] at q;rw [← q,← l];exact h _ (I.tok _)
theorem zbg {h':Heap} {t':Nat} {ob:HO} (I:Inv X pins σ H s) (mu:Mut (H a)) (hs:Heap.SameBut a s.heap h') (he:∃ q,h'.get? a=some q) (new:xU X.prog X.w (xL H a ob) h' a ob) (ht:0<t':=by first|exact Nat.succ_pos _|exact L2.Inv.tk (by assumption)|exact L2.Inv.tk ‹L2.Inv _ _ _ _ _› | assumption|omega) :
  Inv X pins σ (xL H a ob) { s with heap:=h',toks:=t' } :=
 I.write (x:=a) (e:=a) mu (.inl rfl) (fun b q hb z=>(hs.2 b hb).trans z) he new
theorem zgv {P:Program} {w:World} {H':Hp} {h':Heap} {kvs:List (yC×V)} {vs:List (yC×Value)} (z:kvs.length<=sizeLine) (hd:(a==sysModules)=false) (rel:KV kvs vs) (dd:h'.DictOf (xR P w) a vs) :
  xU P w H' h' a (.dK kvs):=⟨z,hd,vs,rel,dd⟩
theorem zd4 {H':Hp} {Q:Unit->Shared->Prop} (hu:A.units+1<cLine) (I:Inv X pins σ H s) (g:DPut H a y v H') (ry:zA y u) (rv:zA v r) (h:∀ s',Inv X pins σ H' s'->Q () s') :
  wpAny (model X.prog X.w) A (setItem (.ref a) u r) Q E s:=by
 rcases g with ⟨kvs,k,e,ey,l,eH⟩|⟨kvs,k,b,e,ey,eb,l,eH⟩
 .subst ey eH;obtain ⟨z,hd,vs,rel,dd⟩:=zkU I.hok e;have hz:vs.length<=sizeLine:=by rw [← rel.length];exact z
  have hl:(uI kvs k v).length<=sizeLine:=by have:=tM kvs k v;omega
  refine wpAny_setItem_pairs (hsz:=hz) (zco ry) dd fun h' dd' hs=>h _ ?_;have he:∃ q,h'.get? a=some q:=let ⟨q,_,_,hq,_⟩:=dd';⟨q,hq⟩;exact zbg I (by rw [e];exact True.intro) hs he (zgv hl hd (rel.put k rv) dd')
 .subst ey eH;cases (show u=Value.ref b from ry);obtain ⟨z,hd,xs,rel,dd⟩:=dt_of I.hok e;have hz:xs.length<=sizeLine:=by rw [← Paired.length rel];exact z
  have hl:(uI kvs k v).length<=sizeLine:=by have:=tM kvs k v;omega
  refine wpAny_setItem_heap (hsz:=hz) (tupleKind_room_in1 hu) (dJ I.hok eb) dd fun h' dd' hs=>h _ ?_;obtain ⟨q,es,ep,hq,h2,h3,h4,_,h5⟩:=dd';refine zbg I (by rw [e];exact True.intro) hs ⟨q,hq⟩ ⟨hl,hd,_,(rel.put k eb rv).keeps fun c ys ec=>?_,q,es,ep,hq,h2,h3,h4,h5⟩;rw [zB (ne_of ec e (fun z=>nomatch z))];exact ec
end
section
variable {X : Cx} {pins : List (Addr × Obj)} {σ : St} {H : Hp} {s : Shared} {a : Addr} {kvs : List (yC × V)} {k : yC} {u : Value} {A : Around} {E : Value → Shared → Prop}
theorem d_len {Q:Value->Shared->Prop} (I:Inv X pins σ H s) (e:Rd H a (.dK kvs)) (h:∀ t s',Inv X pins σ H s'->Q (.int kvs.length t) s'):wpAny (model X.prog X.w) A (call (.builtin "len") [.ref a]) Q E s:=by
 obtain ⟨z,hd,vs,rel,dd⟩:=cY I.hok e;refine call_len_dict hd dd (by rw [← rel.length];rw [sizeLine_eq] at z;omega) ?_;rw [← rel.length];exact h _ _ (I.tok _)
end
section
variable {X : Cx} {o i e value : Expr} {pos pos' tpos : Pos} {td ty tv : TE}
end
theorem zfK {P:Program} {w:World} {H:Hp} (h:Heap) (hb:sysModules<h.objs.size):xU P w H (h.push { cls:=.type "dict", data:=.dict #[] }) h.objs.size (.dK []) :=
 ⟨Nat.zero_le _,beq_eq_false_iff_ne.mpr (Ne.symm (Nat.ne_of_lt hb)),[],.nil,Heap.DictOf.new h⟩
section
variable {X : Cx} {pos : Pos}
end
def zby:List (TE×TE)->St->Hp->(List (V×V)->Hp->Prop)->Prop
 | [],_,H,Q=>Q [] H
 | (tk,tv)::r,σ,H,Q=>tk σ H fun x H1=>tv σ H1 fun y H2=>zby r σ H2 fun ps H3=>Q ((x,y)::ps) H3
abbrev VV:List (V×V)->List (Value×Value)->Prop:=Paired fun p q=>zA p.1 q.1/\zA p.2 q.2
def PPs (X:Cx) (pos:Pos) (keys:List (Option Expr)) (values:List Expr) (trs:List (TE×TE)):Prop :=
 ∀ (pins:List (Addr×Obj)) (s:Shared) (σ:St) (H:Hp) (Q:List (V×V)->Hp->Prop),Inv X pins σ H s->zby trs σ H Q ->
  wpAny (model X.prog X.w) X.A (evalPairs (pairTrees keys values X.env pos)) (fun vs s'=>∃ ps H',Inv X pins σ H' s'/\VV ps vs/\Q ps H') X.xe s
theorem zhg {X:Cx} {pos:Pos}:PPs X pos [] [] []:=fun pins s σ H Q I h=>pairTrees_nil_walk ⟨[],H,I,.nil,h⟩
theorem zeY {X:Cx} {pos:Pos} {k v:Expr} {ks:List (Option Expr)} {vs:List Expr} {tk tv:TE} {trs:List (TE×TE)} (hk:PE X k tk) (hv:PE X v tv) (hr:PPs X pos ks vs trs) :
  PPs X pos (some k::ks) (v::vs) ((tk,tv)::trs):=fun pins s σ H Q I h =>
 pairTrees_cons_walk (yG (hk pins s σ H _ I h) fun u s1 ⟨x,H1,I1,rx,q1⟩=>yG (hv pins s1 σ H1 _ I1 q1) fun w2 s2 ⟨y,H2,I2,ry,q2⟩ =>
  yG (hr pins s2 σ H2 _ I2 q2) fun ws s3 ⟨ps,H3,I3,rel,q3⟩=>⟨(x,y)::ps,H3,I3,.cons ⟨rx,ry⟩ rel,q3⟩)
def nS (kvs wO:List (yC×V)):List (yC×V):=wO.foldl (fun acc kv=>uI acc kv.1 kv.2) kvs
theorem KV.merge:∀ {wO:List (yC×V)} {rs:List (yC×Value)} {kvs:List (yC×V)} {vs:List (yC×Value)},KV wO rs->KV kvs vs->KV (nS kvs wO) (merged vs rs):=by
 intro wO rs kvs vs r;unfold KV at r
 induction r generalizing kvs vs with
 |nil=>intro q;exact q
 | @cons p q ps qs h t ih =>
  intro r0
  have e:KV (uI kvs p.1 p.2) (stored vs q.1 q.2):=by
   have:=r0.put p.1 h.2;rw [← h.1];exact this
  exact ih e
theorem sG:∀ (wO kvs:List (yC×V)),(nS kvs wO).length<=kvs.length+wO.length
 | [],kvs=>by show kvs.length<=kvs.length+0;omega
 |p::r,kvs=>by
  have h1:=sG r (uI kvs p.1 p.2);have h2:=tM kvs p.1 p.2;show (nS (uI kvs p.1 p.2) r).length<=_;rw [List.length_cons];omega
theorem cW {P:Program} {w:World}:∀ {kvs:List (yC×V)} {ws:List (Value×Value)},VV (kvs.map fun kv=>(kV kv.1,kv.2)) ws->∃ rs,Carries (xR P w) ws rs/\KV kvs rs
 | [],_,r=>by rw [zzV] at r;cases r;exact ⟨[],True.intro,.nil⟩
 |p::kvs,_,r=>by
  rw [zzU] at r
  cases r with
  | @cons a b as bs h t =>
   obtain ⟨rs,c,q⟩:=cW (P:=P) (w:=w) t;obtain ⟨b1,b2⟩:=b;exact ⟨(p.1,b2)::rs,⟨zco h.1,rfl,c⟩,.cons ⟨rfl,h.2⟩ q⟩
def tDisp (trs:List (TE×TE)):TE:=fun σ H Q=>∀ p,H p=none->zby trs σ (xL H p (.dK [])) fun ps H2=>H2 p=some (.dK [])/\∃ kvs:List (yC×V),ps=kvs.map (fun kv=>(kV kv.1,kv.2))/\kvs.length<=15/\Q (.ref p) (xL H2 p (.dK (nS [] kvs)))
theorem zhl {X:Cx} {pos:Pos} {keys:List (Option Expr)} {values:List Expr} {trs:List (TE×TE)} (h:PPs X pos keys values trs) (hall:keys.all (·.isSome)=true) (hl:keys.length=values.length) (h0:keys≠[])
  (h15:keys.length<=15):PE X (.Dict keys values pos) (tDisp trs):=by
 intro pins s σ H Q I q;have hn:=I.hok.fresh (zzR s.heap.objs.size);have I1:=I.laid (a:=s.heap.objs.size) (o:=.dK []) (h':=s.heap.push { cls:=.type "dict", data:=.dict #[] }) (t':=s.toks) (fun _ _ q=>Heap.get?_push_of_some _ q) (zzR _) (zfK s.heap I.big);refine wpAny_Dict_walk (knd:=xR X.prog X.w) hall hl h0 h15 (yG (h pins _ σ _ _ I1 (q _ hn)) fun ws s2 ⟨ps,H2,I2,rel,e,kvs,ep,lk,q2⟩=>?_);subst ep;obtain ⟨rs,c,rk⟩:=cW (P:=X.prog) (w:=X.w) rel;obtain ⟨z,hd,vs0,r0,dd⟩:=zkU I2.hok e;cases r0;refine ⟨rs,c,dd,fun h' dd' hs=>⟨.ref s.heap.objs.size,_,?_,rfl,q2⟩⟩
 have hz:(nS [] kvs).length<=sizeLine:=by
  have h1:=sG kvs [];rw [List.length_nil] at h1;rw [sizeLine_eq];omega
 have he:∃ q,h'.get? s.heap.objs.size=some q:=let ⟨q,_,_,hq,_⟩:=dd';⟨q,hq⟩;exact zbg I2 (by rw [e];exact True.intro) hs he (zgv hz hd (rk.merge .nil) dd') (Nat.add_pos_left I2.tk _)
structure M1 (X:Cx) (o:Expr) (m:Str) (apos:Pos) (e:Expr) (cpos:Pos):Prop where
 base:attributeBase o m X.env (eval o X.env)=eval o X.env
 few:((backTo cpos (starEach [e] X.env)).all (fun x=>!x.1)&&(backToKw cpos (keywordEach [] X.env)).all (fun x=>x.1.isSome)
  && decide (([e]:List Expr).length+([]:List Keyword).length+(if ([]:List Keyword).isEmpty then 0 else 1)<30))=true
 line:(apos.endLine==cpos.line)=true
 trees:backTo cpos (starEach [e] X.env)=[(false,eval e X.env)]
structure M2 (X:Cx) (o:Expr) (m:Str) (apos:Pos) (e f:Expr) (cpos:Pos):Prop where
 base:attributeBase o m X.env (eval o X.env)=eval o X.env
 few:((backTo cpos (starEach [e,f] X.env)).all (fun x=>!x.1)&&(backToKw cpos (keywordEach [] X.env)).all (fun x=>x.1.isSome)
  && decide (([e,f]:List Expr).length+([]:List Keyword).length+(if ([]:List Keyword).isEmpty then 0 else 1)<30))=true
 line:(apos.endLine==cpos.line)=true
 trees:backTo cpos (starEach [e,f] X.env)=[(false,eval e X.env),(false,eval f X.env)]
def IsD (H:Hp) (a:Addr):Prop:=(∃ kvs,Rd H a (.dK kvs))\/∃ kvs,Rd H a (.dT kvs)
theorem zkC {X:Cx} {pins:List (Addr×Obj)} {σ:St} {H:Hp} {s:Shared} {a:Addr} (I:Inv X pins σ H s) (d:IsD H a) :
  s.TypeIs (.ref a) "dict" /\ (∀ b,Value.ref a=.ref b->∃ ob,s.heap.get? b=some ob/\ob.dict=none)/\(a==sysModules)=false:=by
 rcases d with ⟨kvs,e⟩|⟨kvs,e⟩
 .obtain ⟨_,hd,vs,_,dd⟩:=cY I.hok e;refine ⟨dd.typeIs,fun b q=>?_,hd⟩;cases q;obtain ⟨ob,_,_,h1,h2,_⟩:=dd;exact ⟨ob,h1,h2.2.1⟩
 .obtain ⟨_,hd,xs,_,dd⟩:=zd0 I.hok e;refine ⟨dd.typeIs,fun b q=>?_,hd⟩;cases q;obtain ⟨ob,_,_,h1,h2,_⟩:=dd;exact ⟨ob,h1,h2.2.1⟩
section
variable {X : Cx} {pins : List (Addr × Obj)} {σ : St} {H : Hp} {s : Shared} {a : Addr} {y d : V} {u r : Value} {o : Option V} {A : Around} {E : Value → Shared → Prop}
end
section
variable {X : Cx} {o e f : Expr} {apos cpos : Pos} {td ty tx : TE}
end
section
variable {X : Cx} {pins : List (Addr × Obj)} {σ : St} {H : Hp} {s : Shared} {a : Addr} {kvs : List (yC × V)} {A : Around} {E : Value → Shared → Prop}
end
section
variable {X : Cx} {pins : List (Addr × Obj)} {σ : St} {H : Hp} {s : Shared} {a : Addr} {y : V} {u : Value} {A : Around} {E : Value → Shared → Prop}
end
end L2
namespace Att
open PySem PySem.W PySem.Calls PyProof.Rows
theorem gX {P:Params} {h:Heap}:∀ (ns:List Int) (vs:List Value),WellAll P h vs (ns.map WData.int)->IntsAre vs ns:=by
 intro ns
 induction ns with
 |nil =>
  intro vs w;rw [zzV] at w;cases w;exact .nil
 |cons n ns ih =>
  intro vs w;rw [zzU] at w
  cases w with
  |cons a b =>
   cases a;exact .cons _ _ (ih _ b)
theorem zc2 {l:OpenLaw} {n:Nat} (hn:l.most=some n) {P:Params} {h:Heap} {args:List WData} {vals:List Value}
  (hpre:l.row.toRowW.claim.pre args=true) (hwl:WellAll P h vals args) :
  ∃ a vs ns,vals=[Value.ref a]/\args=[WData.list (ns.map WData.int)]/\h.get? a=some { cls:=.type "list", data:=.seq vs.toArray }/\IntsAre vs ns/\ns.length<=n:=by
 have hsh:WShape.hasAll [] args [.list .int]=true:=(pre_splitW hpre).1;have hc:l.pre.holds [] { args:=args }=true:=(pre_splitW hpre).2;obtain ⟨d,r,rfl,h1,h2⟩:=hasAllW_cons hsh;obtain rfl:=hasAllW_nil h2;obtain ⟨xs,rfl,h3⟩:=hasW_list h1;obtain ⟨ns,rfl⟩:=items_int h3
 have hlen:ns.length<=n:=by
  unfold OpenLaw.pre at hc
  have h4:(WTm.not (.lt (.lit (.int (n:Int))) (.len (.arg 0)))).holds [] { args:=[.list (ns.map .int)] }=true:=by
   have h4:=(holds_andW hc).1;rw [hn] at h4;exact h4
  have h5:=condW_of h4 (w_not (w_lt w_lit (w_len_list (w_arg rfl))));rw [zzM] at h5;refine Nat.le_of_not_lt fun q=>?_;have q':(n:Int)<((ns.length:Nat):Int):=by omega
  first
   | (rw [decide_eq_true q'] at h5;exact absurd h5 (by decide))
   | (simp at h5;omega)
 cases hwl with
 |cons w1 w2 =>
  cases w2
  cases w1 with
  |list ho hall=>exact ⟨_,_,ns,rfl,rfl,ho,gX ns _ hall,hlen⟩
theorem zda (l:OpenLaw) (args:List WData):l.row.toRowW.claim.post args (.bool true) args=true :=
 postW_of (r:=l.row.toRowW) (X:=(true==true))
  (show WShape.has [] (.bool true) .bool=true by first|rfl|decide|simp [WShape.has,WShape.arms,WShape.armsAll])
  (show (WTm.eq .res (.lit (.bool true))).value [] { args:=args,res:=some (.bool true),after:=args }=some (.bool (true==true)) from w_eq_bool (w_res rfl) w_lit) rfl
theorem attach_call {l:OpenLaw} {n:Nat} {q:Program} {loose:List Str} {XP:(Str->Option Value)->Heap->Prop} {YP:World->Heap->Prop} {d:DefRec}
  (hn:l.most=some n) (hdf:d.params.defaults=[])
  (call:∀ (w:World) (s₀ s₁:Shared) (mg mb:Str->Option Value) (fa:Addr) (o:Obj) (pm cd doc:Value) (a:Addr) (vs:List Value) (ns:List Int),
   Ground q loose [] XP w s₀ mg mb s₁.heap->YP w s₁.heap ->
   s₁.heap.get? fa=some o->o.data=.func (docDef d.name d.params d.body d.scope pm cd doc)->s₁.heap.CodeRec cd d.name->mg d.name=some (.ref fa) ->
   s₁.heap.get? a=some { cls:=.type "list", data:=.seq vs.toArray }->IntsAre vs ns->ns.length<=n->s₁.gens=#[] ->
   codeAny (model l.prog w) callerA (.call (.ref fa) ⟨[.ref a],[]⟩) (fun r s'=>r=.ok (.ret (.bool true))/\OldK s₁.heap s'.heap/\s'.os=s₁.os/\AllBare s'.gens) s₁) :
  WalkO q loose XP YP l.row.toRowW d [] (fun f vs=>PySem.call f vs):=by
 intro w s₀ s₁ mg mb G Y fa o pm cd doc dV kV ho hd hcd hD hmg hg args vals as hpre hlay hrd hwl hlo;obtain rfl:dV=.none:=Dflts.none hD hdf;obtain rfl:kV=.none:=Dflts.noKw hD;obtain ⟨a,vs,ns,rfl,rfl,hobj,hints,hlen⟩:=zc2 hn hpre hwl;refine enter_call (codeAny_mono (call w s₀ s₁ mg mb fa o pm cd doc a vs ns G Y ho (fd_plain hd) hcd hmg hobj hints hlen hg) fun r s' hq=>?_);obtain ⟨rfl,h2,h3,h4⟩:=hq;exact ⟨.inl ⟨.bool true,.bool true,[],rfl,fun _=>rfl,.bool true,zda l _,fun _=>⟨List.Pairwise.nil,fun _ hm=>(nomatch hm)⟩⟩,h2,h3,h4⟩
section
variable {prog : Program} {w : World} {A : Around} {E : Value → Shared → Prop} {s : Shared} {K : Frag}
end
end Att
namespace L2
open PySem PySem.Spec PyProof.Rows
theorem bO:∀ {vs:List Value} {ns:List Int},IntsAre vs ns->zE (ns.map V.int) vs
 |_,_,.nil=>.nil
 |_,_,.cons n t h=>.cons ⟨t,rfl⟩ (bO h)
def Only (H:Hp):Prop:=∀ b,H b=none\/∃ o xs,H b=some (.frz o (.lst xs))
theorem zfh {P:Program} {w:World} {K:PySem.W.Frag} {mg mb:Str->Option Value} {CX:CXT} {k:Nat} {fa a:Addr} {fd:FuncData} {x:Str} {sp:Sp} {s₁:Shared} {vs:List Value} {ns:List Int}
  (KX:K.In s₁.heap) (hns:s₁.heap.Ns mainGlobals mg) (hb:s₁.heap.Ns builtinsNs mb) (hbb:∀ x:Str,x ≠ "__name__" -> mb x=bootBuiltins x) (hlim:s₁.heap.NoLimit) (hg:s₁.gens=#[])
  (ha:s₁.heap.get? a=some { cls:=.type "list", data:=.seq vs.toArray }) (hi:IntsAre vs ns) (hl:ns.length<=sizeLine) (hr:Room k callerA)
  (F:∀ base:Heap,K.In base->base.Ns mainGlobals mg->FnOk P w K mg base CX k fa fd [x] sp) (hbind:∀ (s:Shared) (u:Value),BindsTo s fd ⟨[u],[]⟩ [(x,u)])
  (hsp:∀ H:Hp,Only H->nE K H a (ns.map V.int)->sp [.ref a] H (fun v _=>v=.bl true) fun _ _ _=>False)
  (hCX:∀ H e s',CX [] H s₁ (fun _ _ _=>False) e s'->False) (hx:fd.scope.names.lookup x=some .local) :
  codeAny (model P w) callerA (.call (.ref fa) ⟨[.ref a],[]⟩) (fun r s'=>r=.ok (.ret (.bool true))/\OldK s₁.heap s'.heap/\s'.os=s₁.os/\AllBare s'.gens) s₁:=by
 have rv:=bO hi;have lenV:=hi.length
 have core:∀ H:Hp,Only H->nE K H a (ns.map V.int)->sR P w H s₁.heap->(∀ b,H b≠none->b=a)->(H a≠none->K.lookup a=none) ->
   codeAny (model P w) callerA (.call (.ref fa) ⟨[.ref a],[]⟩) (fun r s'=>r=.ok (.ret (.bool true))/\OldK s₁.heap s'.heap/\s'.os=s₁.os/\AllBare s'.gens) s₁:=by
  intro H hO hS hok hA hK;have base_of:∀ {b:Addr} {o:Obj},s₁.heap.get? b=some o->H b=none->(hidT s₁.heap H).get? b=some o:=fun e n=>zfw e n
  have noA:∀ {b:Addr} {o:Obj} {es:Array DictEntry} {ep:Nat},s₁.heap.get? b=some o->o.data=.dict es ep->H b=none:=fun {b o es ep} e d=>by
   cases q:H b with
   |none=>rfl
   |some u =>
    have e':b=a:=hA b (by rw [q];simp);subst e';rw [ha] at e;cases e;have d':Data.seq vs.toArray _=Data.dict es ep:=d;cases d'
  have nsK:∀ {b:Addr} {m:Str->Option Value},s₁.heap.Ns b m->(hidT s₁.heap H).Ns b m:=fun {b m} ⟨o,es,ep,e,d,r⟩=>⟨o,es,ep,base_of e (noA e d),d,r⟩
  have hKb:K.In (hidT s₁.heap H):=fun b o e=>base_of (KX b o e) (by
   cases q:H b with
   |none=>rfl
   |some u =>
    have e':b=a:=hA b (by rw [q];simp);subst e';rw [hK (by rw [q];simp)] at e;cases e)
  have hM:Mod K mg (hidT s₁.heap H):=⟨hKb,nsK hns,⟨mb,nsK hb,hbb⟩,let ⟨mc,h1,h2⟩:=hlim;⟨mc,nsK h1,h2⟩⟩;have e0:Env0 P w K mg (hidT s₁.heap H) callerA [] { s₁ with toks:=1 } H:=⟨rfl,hM,fun b o e=>zhu e,Nat.le_of_eq (zdF _ _),trivial,fun b hb=>absurd (show b∈([]:List Addr) from hb) (by simp),hok,.of_eq hg,Nat.one_pos⟩;refine codeAny_mono ((F _ hKb (nsK hns)).one x rfl hx callerA [] s₁ H ⟨[.ref a],[]⟩ [.ref a] [.ref a] _ _ hr e0 (hbind s₁ (.ref a)) (.cons rfl .nil) (hsp H hO hS)) fun r s' h=>?_
  cases r with
  |error e=>exact (hCX H e s' h).elim
  |ok fl =>
   cases fl with
   |next=>exact False.elim h
   |brk=>exact False.elim h
   |cont=>exact False.elim h
   |ret u =>
    obtain ⟨v,H',os,_,bare,un,hok',r',q⟩:=h;have q':v=.bl true:=q;subst q';obtain rfl:u=Value.bool true:=r';refine ⟨rfl,OldK.of_keep fun b o e=>?_,os,bare⟩
    cases q:H b with
    |none=>exact un.keep b o e q (by intro z;exact absurd (show b∈([]:List Addr) from z) (by simp)) (by simp)
    |some u =>
     rcases hO b with z|⟨ob,xs,z⟩
     .rw [q] at z;cases z
     .have z2:=un.frzs b ob _ z;obtain ⟨e1,_⟩:=hok b _ z;obtain ⟨e2,_⟩:=hok' b _ z2;rw [e] at e1;cases e1;exact e2
 cases hk:K.lookup a with
 |some o =>
  have e:=KX a o hk;rw [ha] at e;cases e;refine core (fun _=>none) (fun _=>.inl rfl) (.inr ⟨_,vs.toArray,_,hk,rfl,rfl,rfl,by rw [zzS,lenV];exact hl,by simpa using rv⟩) (fun b u z=>by have z':(none:Option HO)=some u:=z;cases z') (fun b z=>absurd rfl z) fun z=>absurd rfl z
 |none =>
  refine core (fun b=>if b=a then some (.frz { cls:=.type "list", data:=.seq vs.toArray } (.lst (ns.map V.int))) else none) (fun b=>?_) (.inl (.inr ⟨{ cls:=.type "list", data:=.seq vs.toArray },if_pos rfl⟩)) (fun b u z=>?_) (fun b z=>?_) fun _=>hk
  .by_cases hb:b=a
   .exact .inr ⟨_,_,if_pos hb⟩
   .exact .inl (if_neg hb)
  .by_cases hb:b=a
   .have z':=(if_pos hb).symm.trans z;cases z';subst hb;exact ⟨ha,by rw [zzM];exact hl,vs,_,rv,ha⟩
   .have z':=(if_neg hb).symm.trans z;cases z'
  .by_cases hb:b=a
   .exact hb
   .exact absurd (if_neg hb) z
end L2
namespace L2
open PySem PySem.Spec PyProof.Rows
abbrev KOf {K:PySem.W.Frag} {h:Heap} (_:K.In h):PySem.W.Frag:=K
theorem walk_of {l:PySem.W.OpenLaw} {n k:Nat} {q:Program} {loose:List Str} {XP:(Str->Option Value)->Heap->Prop} {YP:World->Heap->Prop} {d:DefRec} {K:Params->PySem.W.Frag} {CX:World->CXT} {sp:World->Sp} {x:Str}
  (hn:l.most=some n) (hn2:n<=sizeLine) (hdf:d.params.defaults=[]) (hr:Room k callerA)
  (hY:∀ (w:World) (h:Heap),YP w h->(K w.params).In h)
  (F:∀ (w:World) (mg:Str->Option Value) (fa:Addr) (h:Heap),(K w.params).In h->h.Ns mainGlobals mg->mg d.name=some (.ref fa) ->
   ∃ fd:FuncData,(∀ (s:Shared) (u:Value),BindsTo s fd ⟨[u],[]⟩ [(x,u)])/\fd.scope.names.lookup x=some .local /\
    ∀ base:Heap,(K w.params).In base->base.Ns mainGlobals mg->FnOk l.prog w (K w.params) mg base (CX w) k fa fd [x] (sp w))
  (hsp:∀ (w:World) (H:Hp) (a:Addr) (ns:List Int),ns.length<=n->Only H->nE (K w.params) H a (ns.map V.int)->sp w [.ref a] H (fun v _=>v=.bl true) fun _ _ _=>False)
  (hCX:∀ (w:World) (H:Hp) (s:Shared) (e:Value) (s':Shared),CX w [] H s (fun _ _ _=>False) e s'->False) :
  PySem.W.WalkO q loose XP YP l.row.toRowW d [] (fun f vs=>PySem.call f vs):=by
 refine Att.attach_call hn hdf fun w s₀ s₁ mg mb fa o pm cd doc a vs ns G Y ho hd hcd hmg hobj hints hlen hg=>?_;have KX:=hY w _ Y;obtain ⟨fd,hb,hx,hF⟩:=F w mg fa _ KX G.T.g hmg;exact zfh KX G.T.g G.T.b G.T.builtins G.T.nolimit hg hobj hints (Nat.le_trans hlen hn2) hr hF hb (fun H hO hS=>hsp w H a ns hlen hO hS) (fun H e s'=>hCX w H s₁ e s') hx
end L2
/- THE LAST THEOREM (shape;LID,My.* are yours):
   My.Adr: a structure of the addresses that your layer names (classes,functions);My.Txt K t: a structure (Prop) of the equations over K;
   My.txt_mk:{K} {implicit addresses ..} (e1:nsIn K mainGlobals "law" = some (some (.ref f))) (e2:K.lookup f=some ⟨oc,od,.func (fnOf "law" "law" params body scope dV kV doc pm an cdv ct),sl⟩) (e3:codeIn K cdv "law" = true) ..:∃ t,My.Txt K t
set_option maxRecDepth 100000 in
set_option maxHeartbeats 0 in
theorem PySem.Challenge.cw_LID_holds : PySem.Challenge.rw_LID.Holds := by
 w_on;o_law;k_head;(case hw=>w_witness2)
 k_fill
 refine L2.walk_of (l:=PySem.Challenge.rw_LID) (n:=63) (k:=40) (x := "script") (CX:=fun w=>..) (sp:=fun _=>My.sp_law) rfl (by decide) rfl ⟨rfl,by decide,by decide⟩ (fun w h Y=>PySem.W.kIn_of Y) ?F ?S ?C
 case F =>
  intro w mg fa h KX G hmg
  have T:∃ t,My.Txt (L2.KOf KX) t:=by
   dsimp only [L2.KOf]                          -- K must stand as «<heap const> w.params» for k_is;refine' My.txt_mk ?e1 ?e2 ?e3 ..
   (case e1=>PySem.W.k_is)                    -- in the order: a name -> its address -> its object -> its parts
   (case e2=>PySem.W.k_is)
   ..
  obtain ⟨t,T⟩:=T;have e0:=hmg.symm.trans (PySem.W.mg_of KX G T.law);cases e0                                       -- fa is the law's own address;exact ⟨_,fun s u=>.of_eq rfl,fun base kb nb=>My.law_fn T kb nb⟩     -- if «.of_eq rfl» comes too early: refine' ⟨_,?b,fun base kb nb=>My.law_fn T kb nb⟩;exact fun s u=>.of_eq rfl
 case S=>exact fun w H a ns hl hO hS=>..
 case C=>exact ..
(the tactic k_is has no namespace: write k_is) -/
namespace L2
open PySem PySem.Spec PyProof.Rows
def yZ (s:Stmt):Arguments:=match s with
 | .FunctionDef _ a _ _ _ _ _ _ _ _=>a
 |_=>{ posonlyargs:=[],args:=[],vararg:=none,kwonlyargs:=[],kw_defaults:=[],kwarg:=none,defaults:=[] }
def zQ (s:Stmt):List Stmt:=match s with
 | .FunctionDef _ _ b _ _ _ _ _ _ _=>b
 |_=>[]
def zZ (s:Stmt):Scope:=match s with
 | .FunctionDef _ _ _ _ _ _ sc _ _ _=>sc
 |_=>{ kind:=.function,names:=[],isGenerator:=false,isCoroutine:=false }
abbrev CX0:CXT:=fun _ _ _ _ _ _=>False
abbrev E0:XK:=fun _ _ _=>False
theorem zhp {X:Cx}:zb9 CX0 X E0:=fun _ _ _ _ _ _ _ h=>h.elim
section
variable {P : Program} {w : World} {K : PySem.W.Frag} {mg : Str → Option Value} {base : Heap}
end
section
variable {X : Cx}
end
section
variable {κ : Type} [DecidableEq κ]
end
end L2
namespace L3
open PySem PySem.Spec PyProof.Rows L2
inductive W where
 |non|bl (b:Bool)|int (i:Int)|str (x:Str)|ty (n:String)|ref (a:Addr)|tup (ws:List W)|lsf (ws:List W)
  |exc (C:Addr) (ns:List Str) (ws:List W)|dcf (ks:List Str) (ws:List W)
abbrev yJ:=PySem.W.Frag
def KL (K:yJ) (a:Addr) (xs:List V):Prop:=∃ (o:Obj) (its:Array Value) (n:Nat),K.lookup a=some o/\o.cls=.type "list" /\ o.dict=none/\o.data=.seq its n/\its.size<=sizeLine/\zE xs its.toList
def ziz:List DictEntry->List Str->List V->Prop
 | [],ks,vs=>ks=[]/\vs=[]
 |e::r,ks,vs=>∃ k t v ks' vs',ks=k::ks'/\vs=v::vs'/\e.key=.str k t/\zA v e.val/\ziz r ks' vs'
def KD (K:yJ) (a:Addr) (ks:List Str) (vs:List V):Prop:=∃ (o:Obj) (es:Array DictEntry) (ep:Nat),K.lookup a=some o/\o.ExactDict/\o.data=.dict es ep/\es.size<=sizeLine/\(a==sysModules)=false/\ziz es.toList ks vs
def ExO (a C:Addr) (dx:Option Addr):Heap->Prop:=fun h=>∃ fs,h.get? a=some { cls:=.ref C,dict:=dx,data:=.fields fs }
def ExAt (H:Hp) (a C:Addr) (l:List (Str×V)):Prop:=(H a=some (.ext (ExO a C none))/\l=[])\/∃ dx,H a=some (.ext (ExO a C (some dx)))/\H dx=some (.xd l)
def isX:HO->Prop
 | .ext _=>True
 | .frz _ (.dK _)=>True
 | .xd _=>True
 |_=>False
mutual
def xJ (K:yJ) (H:Hp):W->V->Prop
 | .non,v=>v=.non
 | .bl b,v=>v=.bl b
 | .int i,v=>v=.int i
 | .str x,v=>v=.str x
 | .ty n,v=>v=.ty n
 | .ref a,v=>v=.ref a
 | .tup ws,v=>∃ a vs,v=.ref a/\rM K H a vs/\zF K H ws vs
 | .lsf ws,v=>∃ a vs,v=.ref a/\KL K a vs/\zF K H ws vs
 | .exc C ns ws,v=>∃ a vs,v=.ref a/\ExAt H a C (ns.zip vs)/\zF K H ws vs
 | .dcf ks ws,v=>∃ a vs,v=.ref a/\KD K a ks vs/\zF K H ws vs
def zF (K:yJ) (H:Hp):List W->List V->Prop
 | [],vs=>vs=[]
 |w::ws,vs=>∃ v r,vs=v::r/\xJ K H w v/\zF K H ws r
end
def yI (K:yJ) (H H':Hp):Prop:=(∀ a xs,rM K H a xs->rM K H' a xs)/\∀ a o,isX o->H a=some o->H' a=some o
theorem yI.refl {K:yJ} {H:Hp}:yI K H H:=⟨fun _ _ h=>h,fun _ _ _ h=>h⟩
theorem yI.trans {K:yJ} {H H1 H2:Hp} (a:yI K H H1) (b:yI K H1 H2):yI K H H2:=⟨fun x xs h=>b.1 x xs (a.1 x xs h),fun x o i h=>b.2 x o i (a.2 x o i h)⟩
theorem ExAt.mono {K:yJ} {H H':Hp} (g:yI K H H') {a C:Addr} {l:List (Str×V)} (h:ExAt H a C l):ExAt H' a C l:=by
 rcases h with ⟨h,e⟩|⟨dx,h,h'⟩
 .exact .inl ⟨g.2 _ _ True.intro h,e⟩
 .exact .inr ⟨dx,g.2 _ _ True.intro h,g.2 _ _ True.intro h'⟩
section
variable {K : yJ} {H H' : Hp}
mutual
theorem xJ.mono (g:yI K H H'):∀ {w:W} {v:V},xJ K H w v->xJ K H' w v
 | .non,_,h=>h
 | .bl _,_,h=>h
 | .int _,_,h=>h
 | .str _,_,h=>h
 | .ty _,_,h=>h
 | .ref _,_,h=>h
 | .tup _,_,⟨a,vs,e,s,r⟩=>⟨a,vs,e,g.1 a vs s,zF.mono g r⟩
 | .lsf _,_,⟨a,vs,e,s,r⟩=>⟨a,vs,e,s,zF.mono g r⟩
 | .exc _ _ _,_,⟨a,vs,e,s,r⟩=>⟨a,vs,e,s.mono g,zF.mono g r⟩
 | .dcf _ _,_,⟨a,vs,e,s,r⟩=>⟨a,vs,e,s,zF.mono g r⟩
theorem zF.mono (g:yI K H H'):∀ {ws:List W} {vs:List V},zF K H ws vs->zF K H' ws vs
 | [],_,h=>h
 |_::_,_,⟨v,r,e,h,t⟩=>⟨v,r,e,xJ.mono g h,zF.mono g t⟩
end
theorem zF.length:∀ {ws:List W} {vs:List V},zF K H ws vs->vs.length=ws.length
 | [],_,h=>by rw [show _=[] from h];rfl
 |_::_,_,⟨v,r,e,_,t⟩=>by rw [e,List.length_cons,List.length_cons,zF.length t]
theorem zF.append:∀ {ws:List W} {vs:List V} {ws':List W} {vs':List V},zF K H ws vs->zF K H ws' vs'->zF K H (ws++ws') (vs++vs')
 | [],_,_,_,h,h'=>by rw [show _=[] from h];exact h'
 |_::_,_,_,_,⟨v,r,e,h,t⟩,h'=>by rw [e];exact ⟨v,_,rfl,h,zF.append t h'⟩
theorem zF.get:∀ {ws:List W} {vs:List V} {i:Nat} {w:W},zF K H ws vs->ws[i]?=some w->∃ v,vs[i]?=some v/\xJ K H w v
 | [],_,_,_,_,e=>by simp at e
 |_::_,_,0,_,⟨v,r,e,h,t⟩,q=>by simp at q;subst q;subst e;exact ⟨v,rfl,h⟩
 |_::_,_,i+1,w,⟨v,r,e,h,t⟩,q=>by
  subst e;obtain ⟨u,h1,h2⟩:=zF.get (i:=i) (w:=w) t (by simpa using q);exact ⟨u,by simpa using h1,h2⟩
theorem zF.get':∀ {ws:List W} {vs:List V} {i:Nat} {v:V},zF K H ws vs->vs[i]?=some v->∃ w,ws[i]?=some w/\xJ K H w v
 | [],_,_,_,h,e=>by rw [show _=[] from h] at e;simp at e
 |_::_,_,0,_,⟨v,r,e,h,t⟩,q=>by subst e;simp at q;subst q;exact ⟨_,rfl,h⟩
 |_::_,_,i+1,w,⟨v,r,e,h,t⟩,q=>by
  subst e;obtain ⟨u,h1,h2⟩:=zF.get' (i:=i) (v:=w) t (by simpa using q);exact ⟨u,by simpa using h1,h2⟩
theorem zF.set {w:W} {v:V} (q:xJ K H w v):∀ {ws:List W} {vs:List V} (i:Nat),zF K H ws vs->zF K H (ws.set i w) (vs.set i v)
 | [],_,_,h=>by rw [show _=[] from h];rfl
 |_::_,_,0,⟨_,r,e,_,t⟩=>by rw [e];exact ⟨_,_,rfl,q,t⟩
 |_::_,_,i+1,⟨v,r,e,h,t⟩=>by rw [e];exact ⟨_,_,rfl,h,zF.set q i t⟩
theorem zF.take:∀ {ws:List W} {vs:List V} (n:Nat),zF K H ws vs->zF K H (ws.take n) (vs.take n)
 | [],_,_,h=>by rw [show _=[] from h];simp;rfl
 |_::_,_,0,_=>by simp;rfl
 |_::_,_,n+1,⟨v,r,e,h,t⟩=>by rw [e];exact ⟨_,_,rfl,h,zF.take n t⟩
theorem zF.drop:∀ {ws:List W} {vs:List V} (n:Nat),zF K H ws vs->zF K H (ws.drop n) (vs.drop n)
 | [],_,_,h=>by rw [show _=[] from h];simp;rfl
 |_::_,_,0,h=>h
 |_::_,_,n+1,⟨v,r,e,h,t⟩=>by rw [e];exact zF.drop n t
theorem zF.reverse:∀ {ws:List W} {vs:List V},zF K H ws vs->zF K H ws.reverse vs.reverse
 | [],_,h=>by rw [show _=[] from h];rfl
 |_::_,_,⟨v,r,e,h,t⟩=>by
  rw [e,List.reverse_cons,List.reverse_cons];exact zF.append (zF.reverse t) ⟨v,[],rfl,h,rfl⟩
theorem zF.dropLast {ws:List W} {vs:List V} (h:zF K H ws vs):zF K H ws.dropLast vs.dropLast:=by
 rw [List.dropLast_eq_take,List.dropLast_eq_take,h.length];exact h.take _
end
inductive O where
 |lst (ws:List W)
  |fix (ws:List W)
 |dic (kvs:List (yC×W))
 |ins (C:Addr) (fs:List (Str×W))
  |fzd (kvs:List (yC×W))
def isFz:O->Bool
 | .fzd _=>true
 |_=>false
abbrev Hw:=Addr->Option O
def put (G:Hw) (a:Addr) (o:O):Hw:=fun b=>if b=a then some o else G b
theorem zX {G:Hw} {a:Addr} {o:O}:put G a o a=some o:=by unfold put;rw [if_pos rfl]
theorem yH {G:Hw} {a b:Addr} {o:O} (h:b≠a):put G a o b=G b:=by unfold put;rw [if_neg h]
theorem jP {G:Hw} {a b:Addr} {o:O} (h:G a=some o) (h':G b=none):a≠b:=by
 intro e;subst e;rw [h] at h';cases h'
def yR (K:yJ) (H:Hp) {κ:Type}:List (κ×W)->List (κ×V)->Prop
 | [],l=>l=[]
 |p::r,l=>∃ v t,l=(p.1,v)::t/\xJ K H p.2 v/\yR K H r t
def bP (K:yJ) (H:Hp):O->HO->Prop
 | .lst ws,o=>∃ vs,o=.lst vs/\zF K H ws vs
 | .fix ws,o=>∃ vs ob,(o=.lst vs\/o=.frz ob (.lst vs))/\zF K H ws vs
 | .dic kvs,o=>∃ l,o=.dK l/\yR K H kvs l
 | .ins C fs,o=>∃ dx l,o=.ins C dx l/\yR K H fs l
 | .fzd kvs,o=>∃ ob l,o=.frz ob (.dK l)/\yR K H kvs l
def xS (K:yJ) (H:Hp) (G:Hw):Prop:=∀ a o,G a=some o->∃ u,H a=some u/\bP K H o u
theorem yR.mono {K:yJ} {H H':Hp} (g:yI K H H') {κ:Type}:∀ {l:List (κ×W)} {l':List (κ×V)},yR K H l l'->yR K H' l l'
 | [],_,h=>h
 |_::_,_,⟨v,t,e,h,r⟩=>⟨v,t,e,h.mono g,yR.mono g r⟩
theorem bP.mono {K:yJ} {H H':Hp} (g:yI K H H'):∀ {o:O} {u:HO},bP K H o u->bP K H' o u
 | .lst _,_,⟨vs,e,r⟩=>⟨vs,e,r.mono g⟩
 | .fix _,_,⟨vs,ob,e,r⟩=>⟨vs,ob,e,r.mono g⟩
 | .dic _,_,⟨l,e,r⟩=>⟨l,e,r.mono g⟩
 | .ins _ _,_,⟨dx,l,e,r⟩=>⟨dx,l,e,r.mono g⟩
 | .fzd _,_,⟨ob,l,e,r⟩=>⟨ob,l,e,r.mono g⟩
theorem bP.notX {K:yJ} {H:Hp}:∀ {o:O} {u:HO},isFz o=false->bP K H o u->¬ isX u
 | .lst _,_,_,⟨vs,e,r⟩=>by subst e;exact id
 | .fix _,_,_,⟨vs,ob,e,r⟩=>by rcases e with e|e<;>subst e<;>exact id
 | .dic _,_,_,⟨l,e,r⟩=>by subst e;exact id
 | .ins _ _,_,_,⟨dx,l,e,r⟩=>by subst e;exact id
 | .fzd _,_,m,_=>nomatch m
theorem bP.notTup {K:yJ} {H:Hp}:∀ {o:O} {u:HO},bP K H o u->(∀ xs,u≠.tup xs)/\∀ ob xs,u≠.frz ob (.tup xs)
 | .lst _,_,⟨vs,e,r⟩=>by subst e;exact ⟨(fun _ z=>nomatch z),(fun _ _ z=>nomatch z)⟩
 | .fix _,_,⟨vs,ob,e,r⟩=>by
  rcases e with e|e<;>subst e
  .exact ⟨(fun _ z=>nomatch z),(fun _ _ z=>nomatch z)⟩
  .exact ⟨(fun _ z=>nomatch z),(fun _ _ z=>nomatch z)⟩
 | .dic _,_,⟨l,e,r⟩=>by subst e;exact ⟨(fun _ z=>nomatch z),(fun _ _ z=>nomatch z)⟩
 | .ins _ _,_,⟨dx,l,e,r⟩=>by subst e;exact ⟨(fun _ z=>nomatch z),(fun _ _ z=>nomatch z)⟩
 | .fzd _,_,⟨ob,l,e,r⟩=>by subst e;exact ⟨(fun _ z=>nomatch z),(fun _ _ z=>nomatch z)⟩
section
variable {K : yJ} {H H' : Hp} {G : Hw} {a : Addr}
theorem xS.free (h:xS K H G) (e:H a=none):G a=none:=by
 cases q:G a with
 |none=>rfl
 |some o =>
  obtain ⟨u,e',_⟩:=h a o q;rw [e] at e';cases e'
theorem zbY {u:HO} (h:∀ xs,¬ Rd H a (.tup xs)) (hx:∀ o,isX o->H a≠some o):yI K H (xL H a u):=⟨fun b xs s=>by
 rcases s with s|s
 .have hb:b≠a:=by rintro rfl;exact h xs s
  left
  rcases s with s|⟨o,s⟩
  .exact .inl (by rw [zB hb];exact s)
  .exact .inr ⟨o,by rw [zB hb];exact s⟩
 .exact .inr s,fun b o i s=>by
 have hb:b≠a:=by rintro rfl;exact hx o i s
 rw [zB hb];exact s⟩
theorem xF {u:HO} (h:H a=none):yI K H (xL H a u):=zbY (fun xs s=>by
 rcases s with s|⟨o,s⟩<;>(rw [h] at s;cases s)) (fun o _ s=>by rw [h] at s;cases s)
theorem xS.grow {o:O} {u:HO} (h:xS K H G) (e:G a=some o) (m:isFz o=false:=by rfl):yI K H (xL H a u):=by
 obtain ⟨u',e',r⟩:=h a o e;refine zbY (fun xs s=>?_) (fun o' i s=>?_)
 .rcases s with s|⟨ob,s⟩
  .rw [e'] at s;cases s;exact r.notTup.1 xs rfl
  .rw [e'] at s;cases s;exact r.notTup.2 ob xs rfl
 .rw [e'] at s;cases s;exact r.notX m i
theorem xS.new {o:O} {u:HO} (h:xS K H G) (e:H a=none) (r:bP K (xL H a u) o u):xS K (xL H a u) (put G a o):=fun b ob q=>by
 by_cases hb:b=a
 .subst hb;rw [zX] at q;cases q;exact ⟨u,wY,r⟩
 .rw [yH hb] at q;obtain ⟨u',e',r'⟩:=h b ob q;exact ⟨u',by rw [zB hb];exact e',r'.mono (xF e)⟩
theorem xS.tup {u:HO} (h:xS K H G) (e:H a=none):xS K (xL H a u) G:=fun b ob q=>by
 obtain ⟨u',e',r'⟩:=h b ob q;exact ⟨u',by rw [zB (yN e' e)];exact e',r'.mono (xF e)⟩
theorem xS.chg {o o':O} {u:HO} (h:xS K H G) (e:G a=some o') (r:bP K (xL H a u) o u) (m:isFz o'=false:=by rfl):xS K (xL H a u) (put G a o):=fun b ob q=>by
 by_cases hb:b=a
 .subst hb;rw [zX] at q;cases q;exact ⟨u,wY,r⟩
 .rw [yH hb] at q;obtain ⟨u',e',r'⟩:=h b ob q;exact ⟨u',by rw [zB hb];exact e',r'.mono (h.grow e m)⟩
theorem xS.lst {ws:List W} (h:xS K H G) (e:G a=some (.lst ws)):∃ vs,H a=some (.lst vs)/\zF K H ws vs:=by
 obtain ⟨u,e',vs,rfl,r⟩:=h a _ e;exact ⟨vs,e',r⟩
theorem xS.dic {kvs:List (yC×W)} (h:xS K H G) (e:G a=some (.dic kvs)):∃ l,H a=some (.dK l)/\yR K H kvs l:=by
 obtain ⟨u,e',vs,rfl,r⟩:=h a _ e;exact ⟨vs,e',r⟩
theorem xS.ins {C:Addr} {fs:List (Str×W)} (h:xS K H G) (e:G a=some (.ins C fs)):∃ dx l,H a=some (.ins C dx l)/\yR K H fs l:=by
 obtain ⟨u,e',dx,vs,rfl,r⟩:=h a _ e;exact ⟨dx,vs,e',r⟩
end
def yS (G:Hw) (a:Addr):Option (List W):=match G a with
 |some (.lst ws)=>some ws
 |some (.fix ws)=>some ws
 |_=>none
theorem xS.seq {K:yJ} {H:Hp} {G:Hw} {a:Addr} {ws:List W} (h:xS K H G) (e:yS G a=some ws):∃ vs,nE K H a vs/\zF K H ws vs:=by
 unfold yS at e
 split at e
 .rename_i q;cases e;obtain ⟨vs,e',r⟩:=h.lst q;exact ⟨vs,.of e',r⟩
 .rename_i q;cases e;obtain ⟨u,e',vs,ob,z,r⟩:=h a _ q;refine ⟨vs,?_,r⟩;rcases z with rfl|rfl
  .exact .inl (.inl e')
  .exact .inl (.inr ⟨_,e'⟩)
 .cases e
abbrev jE:=List (Option W)
def yK (K:yJ) (H:Hp) (σ:jE) (τ:L2.St):Prop:=σ.length=τ.length/\∀ (i:Nat) (w:W),σ[i]?=some (some w)->∃ v,τ[i]?=some (some v)/\xJ K H w v
theorem yK.mono {K:yJ} {H H':Hp} (g:yI K H H') {σ:jE} {τ:L2.St} (h:yK K H σ τ):yK K H' σ τ :=
 ⟨h.1,fun i w e=>let ⟨v,e',r⟩:=h.2 i w e;⟨v,e',r.mono g⟩⟩
theorem yK.set {K:yJ} {H:Hp} {σ:jE} {τ:L2.St} {w:W} {v:V} (h:yK K H σ τ) (r:xJ K H w v) (i:Nat):yK K H (σ.set i (some w)) (τ.set i (some v)):=by
 refine ⟨by simp [h.1],fun j w' e=>?_⟩;rw [List.getElem?_set] at e ⊢
 by_cases hj:i=j
 .subst hj;rw [if_pos rfl] at e ⊢
  by_cases hl:i<σ.length
  .rw [if_pos hl] at e;cases e;rw [if_pos (h.1▸hl)];exact ⟨v,rfl,r⟩
  .rw [if_neg hl] at e;cases e
 .rw [if_neg hj] at e ⊢;exact h.2 j w' e
abbrev Q3:=W->Hw->Prop
abbrev E3:=jE->Hw->Q3->Prop
abbrev T3:=jE->Hw->(Bool->Hw->Prop)->Prop
abbrev A3:=jE->Hw->(List W->Hw->Prop)->Prop
structure End3 where
 nx:jE->Hw->Prop
 rt:Q3
 bk:jE->Hw->Prop:=fun _ _=>False
 ct:jE->Hw->Prop:=fun _ _=>False
abbrev S3:=End3->jE->Hw->Prop
section
variable (K : yJ)
def yA (t:E3):TE:=fun τ H Q=>∃ σ G,yK K H σ τ/\xS K H G/\t σ G fun w G'=>∀ v H',yI K H H'->xJ K H' w v->xS K H' G'->Q v H'
def kQ (t:T3):TT:=fun τ H Q=>∃ σ G,yK K H σ τ/\xS K H G/\t σ G fun b G'=>∀ H',yI K H H'->xS K H' G'->Q b H'
def pQ (t:A3):TA:=fun τ H Q=>∃ σ G,yK K H σ τ/\xS K H G/\t σ G fun ws G'=>∀ vs H',yI K H H'->zF K H' ws vs->xS K H' G'->Q vs H'
structure Fine (H:Hp) (D3:End3) (D:Ends):Prop where
 nx:∀ σ G τ H',yI K H H'->yK K H' σ τ->xS K H' G->D3.nx σ G->D.nx τ H'
 bk:∀ σ G τ H',yI K H H'->yK K H' σ τ->xS K H' G->D3.bk σ G->D.bk τ H'
 ct:∀ σ G τ H',yI K H H'->yK K H' σ τ->xS K H' G->D3.ct σ G->D.ct τ H'
 rt:∀ w G v H',yI K H H'->xJ K H' w v->xS K H' G->D3.rt w G->D.rt v H'
def lowS (t:S3):TS:=fun D τ H=>∃ σ G D3,yK K H σ τ/\xS K H G/\Fine K H D3 D/\t D3 σ G
end
theorem Fine.grow {K:yJ} {H H':Hp} {D3:End3} {D:Ends} (f:Fine K H D3 D) (g:yI K H H'):Fine K H' D3 D :=
 ⟨fun σ G τ H2 g2=>f.nx σ G τ H2 (g.trans g2),fun σ G τ H2 g2=>f.bk σ G τ H2 (g.trans g2),fun σ G τ H2 g2=>f.ct σ G τ H2 (g.trans g2),fun w G v H2 g2=>f.rt w G v H2 (g.trans g2)⟩
def jX (t:E3):Prop:=∀ σ G (Q Q':Q3),(∀ w G',Q w G'->Q' w G')->t σ G Q->t σ G Q'
def tE (t:T3):Prop:=∀ σ G (Q Q':Bool->Hw->Prop),(∀ w G',Q w G'->Q' w G')->t σ G Q->t σ G Q'
def uN (t:A3):Prop:=∀ σ G (Q Q':List W->Hw->Prop),(∀ w G',Q w G'->Q' w G')->t σ G Q->t σ G Q'
section
variable {K : yJ} {H : Hp} {σ : jE} {τ : L2.St} {G : Hw}
theorem yE {t:E3} {R:Q3} {S:VK} (m:jX t) (hs:yK K H σ τ) (ha:xS K H G) (h:t σ G R)
  (k:∀ w G1 v H1,yI K H H1->yK K H1 σ τ->xJ K H1 w v->xS K H1 G1->R w G1->S v H1):yA K t τ H S :=
 ⟨σ,G,hs,ha,m σ G _ _ (fun w G' r v H' g rp ab=>k w G' v H' g (hs.mono g) rp ab r) h⟩
theorem cT {t:T3} {R:Bool->Hw->Prop} {S:Bool->Hp->Prop} (m:tE t) (hs:yK K H σ τ) (ha:xS K H G) (h:t σ G R)
  (k:∀ b G1 H1,yI K H H1->yK K H1 σ τ->xS K H1 G1->R b G1->S b H1):kQ K t τ H S :=
 ⟨σ,G,hs,ha,m σ G _ _ (fun w G' r H' g ab=>k w G' H' g (hs.mono g) ab r) h⟩
theorem pG {t:A3} {R:List W->Hw->Prop} {S:List V->Hp->Prop} (m:uN t) (hs:yK K H σ τ) (ha:xS K H G) (h:t σ G R)
  (k:∀ w G1 v H1,yI K H H1->yK K H1 σ τ->zF K H1 w v->xS K H1 G1->R w G1->S v H1):pQ K t τ H S :=
 ⟨σ,G,hs,ha,m σ G _ _ (fun w G' r v H' g rp ab=>k w G' v H' g (hs.mono g) rp ab r) h⟩
end
end L3
namespace L2
section
variable {X : Cx} {e : PySem.Expr} {st : PySem.Stmt} {sts : List PySem.Stmt}
theorem PE.imp {t t':TE} (h:PE X e t) (k:∀ σ H Q,t' σ H Q->t σ H Q):PE X e t':=fun pins s σ H Q I q=>h pins s σ H Q I (k σ H Q q)
theorem PT.imp {t t':TT} (h:PT X e t) (k:∀ σ H Q,t' σ H Q->t σ H Q):PT X e t':=fun pins s σ H Q I q=>h pins s σ H Q I (k σ H Q q)
theorem PW.imp {t t':TT} (h:PW X e t) (k:∀ σ H Q,t' σ H Q->t σ H Q):PW X e t':=fun wh pins s σ H Q I q=>h wh pins s σ H Q I (k σ H Q q)
theorem PA.imp {es:List PySem.Expr} {t t':TA} (h:PA X es t) (k:∀ σ H Q,t' σ H Q->t σ H Q):PA X es t':=fun pos pins s σ H Q I q=>h pos pins s σ H Q I (k σ H Q q)
theorem PS.imp {t t':TS} (h:PS X st t) (k:∀ D σ H,t' D σ H->t D σ H):PS X st t':=fun pins s σ H D I q=>h pins s σ H D I (k D σ H q)
theorem PSs.imp {t t':TS} (h:PSs X sts t) (k:∀ D σ H,t' D σ H->t D σ H):PSs X sts t':=fun pins s σ H D I q=>h pins s σ H D I (k D σ H q)
end
end L2
set_option genInjectivity false
set_option genSizeOfSpec false
namespace L2
open PySem PySem.Spec PyProof.Rows PySem.Calls
def clo (env:Env):List (Str×NameKind)->List (Str×Addr)->List (Str×Addr)
 | [],acc=>acc
 | (n,k)::r,acc=>if (k==NameKind.free)=true then clo env r ((n,(env.cells.lookup n).getD 0)::acc) else clo env r acc
theorem zbj (env:Env):∀ (l:List (Str×NameKind)) (acc:List (Str×Addr)) {x:Str} {c:Addr},(clo env l acc).lookup x=some c ->
  ((∃ k,(x,k)∈l/\k=.free)/\c=(env.cells.lookup x).getD 0)\/acc.lookup x=some c
 | [],acc,x,c,h=>.inr h
 | (n,k)::r,acc,x,c,h=>by
  unfold clo at h
  by_cases hk:(k==NameKind.free)=true
  .rw [if_pos hk] at h;rcases zbj env r _ h with ⟨⟨k',m,e⟩,q⟩|h
   .exact .inl ⟨⟨k',List.mem_cons_of_mem _ m,e⟩,q⟩
   .rw [List.lookup_cons] at h
    by_cases hx:(x==n)=true
    .rw [hx] at h;have e:x=n:=eq_of_beq hx;subst e;exact .inl ⟨⟨k,zzT,eq_of_beq hk⟩,(Option.some.inj h).symm⟩
    .rw [Bool.not_eq_true] at hx;rw [hx] at h;exact .inr h
  .rw [if_neg hk] at h;rcases zbj env r _ h with ⟨⟨k',m,e⟩,q⟩|h
   .exact .inl ⟨⟨k',List.mem_cons_of_mem _ m,e⟩,q⟩
   .exact .inr h
theorem zbl (env:Env):∀ (l:List (Str×NameKind)) (acc:List (Str×Addr)) {x:Str},(∃ c,acc.lookup x=some c)->∃ c,(clo env l acc).lookup x=some c
 | [],acc,x,h=>h
 | (n,k)::r,acc,x,h=>by
  unfold clo
  split
  .refine zbl env r _ ?_;rw [List.lookup_cons];cases x==n
   .exact h
   .exact ⟨_,rfl⟩
  .exact zbl env r _ h
theorem zbk (env:Env):∀ (l:List (Str×NameKind)) (acc:List (Str×Addr)) {x:Str},(x,NameKind.free)∈l->∃ c,(clo env l acc).lookup x=some c
 | (n,k)::r,acc,x,h=>by
  unfold clo;rcases List.mem_cons.mp h with h|h
  .cases h;rw [if_pos (by decide)];refine zbl env r _ ?_;rw [List.lookup_cons,beq_self_eq_true];exact ⟨_,rfl⟩
  .split
   .exact zbk env r _ h
   .exact zbk env r _ h
theorem cX {env:Env} {scope:Scope} (h:∀ x,(x,NameKind.free)∈scope.names->∃ c,env.cells.lookup x=some c):closureFor scope env=pure (clo env scope.names []):=by
 simp only [closureFor]
 have key:∀ (l:List (Str×NameKind)) (acc:List (Str×Addr)),(∀ x,(x,NameKind.free)∈l->∃ c,env.cells.lookup x=some c) ->
   (forIn l acc fun x r=>match x with|(name,kind)=>if (kind==NameKind.free)=true then (do let a ← cellOf env name;pure (ForInStep.yield ((name,a)::r))) else pure (ForInStep.yield r):Sem (List (Str×Addr)))=pure (clo env l acc):=by
  intro l
  induction l with
  |nil=>intro acc _;rfl
  |cons p r ih =>
   intro acc hh;obtain ⟨n,k⟩:=p;rw [List.forIn_cons]
   by_cases hk:(k==NameKind.free)=true
   .have ek:k=.free:=eq_of_beq hk;obtain ⟨c,hc⟩:=hh n (by rw [ek];exact zzT);simp only [hk,if_true];have e1:cellOf env n=pure c:=by unfold cellOf;rw [hc]
    rw [e1];simp only [pure_bind];rw [ih _ fun x hx=>hh x (List.mem_cons_of_mem _ hx)]
    conv=>rhs;unfold clo
    rw [if_pos hk,hc]
    all_goals rfl
   .simp only [hk];rw [if_neg (by simp)];simp only [pure_bind];rw [ih _ fun x hx=>hh x (List.mem_cons_of_mem _ hx)]
    conv=>rhs;unfold clo
    rw [if_neg hk]
 have:=key scope.names [] h;simpa using this
theorem wN {env:Env}:∀ {names:List (Str×NameKind)} {x:Str} {k':NameKind},
  (names.map fun (n,k)=>if (k==NameKind.free&&env.scope.kind==.function&&env.kindOf n==some .cell) then (n,NameKind.cell) else (n,k)).lookup x=some k' ->
  ∃ k,names.lookup x=some k/\(k'=k\/(k=.free/\k'=.cell))
 | [],_,_,h=>by simp at h
 | (n,k)::r,x,k',h=>by
  rw [zzU] at h
  by_cases hc:(k==NameKind.free&&env.scope.kind==.function&&env.kindOf n==some .cell)=true
  .simp only [hc,if_true] at h;rw [List.lookup_cons] at h ⊢
   cases hx:x==n with
   |true =>
    rw [hx] at h;cases h;simp only [Bool.and_eq_true,beq_iff_eq] at hc;exact ⟨k,rfl,.inr ⟨hc.1.1,rfl⟩⟩
   |false=>rw [hx] at h;exact wN h
  .simp only [hc,if_false] at h;rw [if_neg (by simp)] at h;rw [List.lookup_cons] at h ⊢
   cases hx:x==n with
   |true=>rw [hx] at h;cases h;exact ⟨k,rfl,.inl rfl⟩
   |false=>rw [hx] at h;exact wN h
theorem kX {α:Type}:∀ {l:List (Str×α)} {x:Str} {v:α},l.lookup x=some v->(x,v)∈l
 | (n,k)::r,x,v,h=>by
  rw [List.lookup_cons] at h
  cases hx:x==n with
  |true=>rw [hx] at h;cases h;rw [eq_of_beq hx];exact zzT
  |false=>rw [hx] at h;exact List.mem_cons_of_mem _ (kX h)
theorem zbm:∀ (l:List (Str×NameKind)) (n:Nat) (acc:List (Str×Addr)) {x:Str} {c:Addr},(cellsFrom n l acc).lookup x=some c->acc.lookup x=some c\/((x,NameKind.cell)∈l/\n<=c)
 | [],n,acc,x,c,h=>.inl h
 | (y,k)::r,n,acc,x,c,h=>by
  unfold cellsFrom at h
  split at h
  .rename_i hk;rcases zbm r _ _ h with h|⟨h,q⟩
   .rw [List.lookup_cons] at h
    by_cases hx:(x==y)=true
    .rw [hx] at h;cases eq_of_beq hx;cases eq_of_beq hk;exact .inr ⟨zzT,Nat.le_of_eq (Option.some.inj h)⟩
    .rw [Bool.not_eq_true] at hx;rw [hx] at h;exact .inl h
   .exact .inr ⟨List.mem_cons_of_mem _ h,Nat.le_of_succ_le q⟩
  .rcases zbm r _ _ h with h|⟨h,q⟩
   .exact .inl h
   .exact .inr ⟨List.mem_cons_of_mem _ h,q⟩
theorem zb6:∀ (l:List (Str×NameKind)) (n:Nat) (acc:List (Str×Addr)) {x:Str},(∃ c,acc.lookup x=some c)->∃ c,(cellsFrom n l acc).lookup x=some c
 | [],n,acc,x,h=>h
 | (y,k)::r,n,acc,x,h=>by
  unfold cellsFrom
  split
  .refine zb6 r _ _ ?_;rw [List.lookup_cons];cases x==y
   .exact h
   .exact ⟨_,rfl⟩
  .exact zb6 r _ _ h
theorem zd9:∀ (l:List (Str×NameKind)) (n:Nat) (acc:List (Str×Addr)) {x:Str},(x,NameKind.cell)∈l->∃ c,(cellsFrom n l acc).lookup x=some c
 | (y,k)::r,n,acc,x,h=>by
  unfold cellsFrom;rcases List.mem_cons.mp h with h|h
  .cases h;rw [if_pos (by decide)];refine zb6 r _ _ ?_;rw [List.lookup_cons,beq_self_eq_true];exact ⟨_,rfl⟩
  .split
   .exact zd9 r _ _ h
   .exact zd9 r _ _ h
def Inj (n:Nat) (l:List (Str×Addr)):Prop:=(∀ x c,l.lookup x=some c->c<n)/\∀ x y c,l.lookup x=some c->l.lookup y=some c->x=y
theorem zd8:∀ (l:List (Str×NameKind)) (n:Nat) (acc:List (Str×Addr)),Inj n acc->∀ x y c,(cellsFrom n l acc).lookup x=some c->(cellsFrom n l acc).lookup y=some c->x=y
 | [],n,acc,h=>h.2
 | (z,k)::r,n,acc,h=>by
  unfold cellsFrom
  split
  .refine zd8 r (n+1) ((z,n)::acc) ⟨fun x c e=>?_,fun x y c e e'=>?_⟩
   .rw [List.lookup_cons] at e
    cases hx:x==z with
    |true=>rw [hx] at e;cases e;exact Nat.lt_succ_self _
    |false=>rw [hx] at e;exact Nat.lt_succ_of_lt (h.1 x c e)
   .rw [List.lookup_cons] at e e'
    cases hx:x==z with
    |true =>
     rw [hx] at e;cases e
     cases hy:y==z with
     |true=>rw [eq_of_beq hx,eq_of_beq hy]
     |false=>rw [hy] at e';exact absurd (h.1 y _ e') (Nat.lt_irrefl _)
    |false =>
     rw [hx] at e
     cases hy:y==z with
     |true=>rw [hy] at e';cases e';exact absurd (h.1 x _ e) (Nat.lt_irrefl _)
     |false=>rw [hy] at e';exact h.2 x y c e e'
  .exact zd8 r n acc h
theorem zbn:∀ (l:List (Str×NameKind)) (h:Heap) (acc:List (Str×Addr)),(∀ x c,acc.lookup x=some c->∃ v,h.IsCell c v)->∀ x c,(cellsFrom h.objs.size l acc).lookup x=some c->∃ v,(pushCells h l).IsCell c v
 | [],h,acc,k=>k
 | (z,q)::r,h,acc,k=>by
  unfold cellsFrom pushCells
  split
  .have:=zbn r (h.push { cls:=.type "cell", data:=.cell none }) ((z,h.objs.size)::acc) (fun x c e=>by
    rw [List.lookup_cons] at e
    cases hx:x==z with
    |true=>rw [hx] at e;cases e;exact ⟨_,_,Heap.get?_push_size _ rfl,rfl⟩
    |false =>
     rw [hx] at e;obtain ⟨v,o,ho,hd⟩:=k x c e;exact ⟨v,o,Heap.get?_push_of_some _ ho,hd⟩)
   rw [Heap.size_push] at this;exact this
  .exact zbn r h acc k
theorem nfe {M:Model} {A:Around} {E:Value->Shared->Prop} {s:Shared} {sc:Scope} {gl:Addr} {cl:List (Str×Addr)} {qual:Str} {env:Env} {Q:Env->Shared->Prop}
  (hQ:∀ h',h'=pushCells (s.heap.push { cls:=.type "dict", data:=.dict #[] }) sc.names->h'.Ns s.heap.objs.size (fun _=>none)->(∀ b o,s.heap.get? b=some o->h'.get? b=some o) ->
   Q { scope:=sc,locals:=s.heap.objs.size,globals:=gl,cells:=cellsFrom (s.heap.objs.size+1) sc.names cl,qual:=qual,func:=none,code:=env.code,frame:=env.frame,builtins:=env.builtins } { s with heap:=h' }) :
  wpAny M A (newFunctionEnv sc gl cl [] qual none .none (some env)) Q E s:=by
 simp only [newFunctionEnv,Option.isSome_some,if_true];refine wpAny_bind (wpAny_alloc (wpAny_bind (wpAny_layCells _ (fun name kind cells=>by cases hkc:kind==NameKind.cell<;>simp [hkc]) _ _ _ _ ?_)));rw [show ({ s with heap:=s.heap.push { cls:=.type "dict", data:=.dict #[] } }:Shared).heap.objs.size=s.heap.objs.size+1 from Heap.size_push ..];rw [List.forIn_nil];refine wpAny_bind (wpAny_pure (wpAny_pure (hQ _ rfl ((Heap.Ns.new s.heap (.type "dict")).keeps (pushCells_keeps _ _)) fun b o e=>pushCells_keeps _ _ b o (Heap.get?_push_of_some _ e))))
end L2
namespace L2
open PySem PySem.Spec PyProof.Rows PySem.Calls
theorem zaG (elt target iter:Expr) (ifs:List Expr) (scope:Scope) (pos:Pos) (it acc:Value) (env:Env) :
  compTurn (.ListComp elt [⟨target,iter,ifs,0⟩] scope pos) 0 it acc env=(do
   standAt iter.pos
   match ← pyNext it with
   |none=>pure (.done .next)
   |some v =>
    letOwnedTupleGo target it v
    assign target env v
    let mut ok:=true
    for c in ifs do
     if ok then ok ← isTrue c env (eval c env)
    if ok then
     (do let _ ← call (.builtin "list.append") [acc,← eval elt env])
    again (.compLoop (.ListComp elt [⟨target,iter,ifs,0⟩] scope pos) 0 it acc env)):=by rfl
section
variable {prog : Program} {w : World} {A : Around} {R : Result → Shared → Prop} {s : Shared}
theorem zaH {elt target iter:Expr} {ifs:List Expr} {scope:Scope} {pos:Pos} {it acc:Value} {env:Env} (I:Nat->Shared->Prop)
  (turn:∀ n s,I n s->wpAny (model prog w) A (pyNext it) (fun r s₁=>match r with
   |none=>R (.ok .next) s₁
   |some v=>wpAny (model prog w) A (letOwnedTupleGo target it v) (fun _ s₁=>wpAny (model prog w) A (assign target env v) (fun _ s₂ =>
     wpAny (model prog w) A (forIn ifs true fun c r=>if r=true then do let ok ← isTrue c env (eval c env);pure (ForInStep.yield ok) else pure (ForInStep.yield r)) (fun ok s₃ =>
      if ok=true then wpAny (model prog w) A (eval elt env) (fun x s₄ =>
       wpAny (model prog w) A (call (.builtin "list.append") [acc,x]) (fun _ s₅=>∃ m,m<n/\I m s₅) (fun _ _=>False) s₄) (fun _ _=>False) s₃
      else ∃ m,m<n/\I m s₃) (fun _ _=>False) s₂) (fun _ _=>False) s₁) (fun _ _=>False) s₁) (fun _ _=>False) s)
  (n:Nat) (h:I n s) :
  codeAny (model prog w) A (.compLoop (.ListComp elt [⟨target,iter,ifs,0⟩] scope pos) 0 it acc env) R s:=by
 refine codeAny_loop rfl I (fun n s hI=>?_) n h;show wpAny _ A ((compTurn (.ListComp elt [⟨target,iter,ifs,0⟩] scope pos) 0 it acc env).onRaise (fun x=>do noteFrame x env;theTreesLotGoes x)) _ _ s;refine wpAny_noted ?_;rw [zaG];refine wpAny_bind (wpAny_standAt (wpAny_bind (wpAny_mono (turn n s hI) (fun r s₁ h₁=>?_) fun _ _ h'=>h'.elim)))
 cases r with
 |none=>exact wpAny_pure h₁
 |some v =>
  refine wpAny_bind (wpAny_mono h₁ (fun _ s₁ h₁=>?_) fun _ _ h'=>h'.elim);refine wpAny_bind (wpAny_mono h₁ (fun _ s₂ h₂=>wpAny_bind (wpAny_mono h₂ (fun ok s₃ h₃=>?_) fun _ _ h'=>h'.elim)) fun _ _ h'=>h'.elim)
  cases ok with
  |false=>exact wpAny_pure ⟨rfl,h₃⟩
  |true =>
   exact wpAny_bind (wpAny_bind (wpAny_mono h₃ (fun x s₄ h₄=>wpAny_bind (wpAny_mono h₄ (fun _ s₅ h₅=>wpAny_pure (wpAny_pure ⟨rfl,h₅⟩)) fun _ _ h'=>h'.elim)) fun _ _ h'=>h'.elim))
end
structure IsBlock (X:Cx) (N:List Str) (sc:Scope) (X':Cx):Prop where
 prog:X'.prog=X.prog
 w:X'.w=X.w
 K:X'.K=X.K
 mg:X'.mg=X.mg
 base:X'.base=X.base
 A:X'.A=X.A
 calm:X'.calm=X.calm
 N:X'.N=N
 scope:X'.env.scope=relabel sc X.env
 xe:X'.xe=fun _ _=>False
 fn:∀ x,sc.names.lookup x=some .cell->X'.fn x=true
def ocl (X:Cx) (sc:Scope) (C:Addr):List (Str×Addr):=cellsFrom (C+1) sc.names (clo X.env sc.names [])
def uQ (X:Cx) (N:List Str) (sc:Scope) (C:Addr) (s2:Shared) (H2:Hp) (fp:List Addr) (pins:List (Addr×Obj)):Cx where
 prog:=X.prog
 w:=X.w
 K:=X.K
 mg:=X.mg
 base:=X.base
 A:=X.A
 N:=N
 s₀:=s2
 H₀:=H2
 env:=compEnvC sc (ocl X sc C) C X.env
 outer:=X.stack
 stack:=X.stack
 ex:=fp
 fn:=fun x=>sc.names.lookup x==some .cell
 calm:=X.calm
 pn:=X.pn++pins
 xe:=fun _ _=>False
theorem zcB (X:Cx) (N:List Str) (sc:Scope) (C:Addr) (s2:Shared) (H2:Hp) (fp:List Addr) (pins:List (Addr×Obj)):IsBlock X N sc (uQ X N sc C s2 H2 fp pins) :=
 ⟨rfl,rfl,rfl,rfl,rfl,rfl,rfl,rfl,rfl,rfl,fun x h=>by show (sc.names.lookup x==some .cell)=true;rw [h];rfl⟩
structure BlkSc (X:Cx) (sc:Scope):Prop where
 kind:sc.kind=.function
 cells:∀ x,(x,NameKind.cell)∈sc.names->sc.names.lookup x=some .cell
 frees:∀ x,(x,NameKind.free)∈sc.names->sc.names.lookup x=some .free
 free:∀ x,(x,NameKind.free)∈sc.names->X.env.kindOf x=some .cell\/X.env.kindOf x=some .free
 names:∀ y∈sc.names,y.2=.local->sc.names.lookup y.1=some .local
section
variable {X : Cx} {pins : List (Addr × Obj)} {σ : St} {H2 : Hp} {s2 : Shared} {sc : Scope} {N : List Str} {C : Addr} {fp : List Addr}
theorem tH (ok:X.Ok) (B:BlkSc X sc) {x:Str} {c:Addr} (h:(clo X.env sc.names []).lookup x=some c):X.env.cells.lookup x=some c/\sc.names.lookup x=some .free:=by
 rcases zbj _ _ _ h with ⟨⟨k,m,e⟩,q⟩|h
 .subst e;have hf:=B.free x m;obtain ⟨c',hc'⟩:=ok.has x hf;rw [hc'] at q;exact ⟨by rw [hc',q];rfl,B.frees x m⟩
 .simp at h
theorem tW (ok:X.Ok) (B:BlkSc X sc) {x:Str} {c:Addr} (h:(ocl X sc C).lookup x=some c):(X.env.cells.lookup x=some c/\sc.names.lookup x=some .free)\/(sc.names.lookup x=some .cell/\C<c):=by
 rcases zbm _ _ _ h with h|⟨h,q⟩
 .exact .inl (tH ok B h)
 .exact .inr ⟨B.cells x h,q⟩
theorem B_has (B:BlkSc X sc) {x:Str} (h:(relabel sc X.env).names.lookup x=some .cell\/(relabel sc X.env).names.lookup x=some .free):(x,NameKind.free)∈sc.names\/(x,NameKind.cell)∈sc.names:=by
 rcases h with h|h
 .obtain ⟨k,hk,e⟩:=wN h;rcases e with e|⟨e,_⟩
  .subst e;exact .inr (kX hk)
  .subst e;exact .inl (kX hk)
 .obtain ⟨k,hk,e⟩:=wN h;rcases e with e|⟨e,z⟩
  .subst e;exact .inl (kX hk)
  .cases z
theorem zdi {x:Str} (h:(x,NameKind.free)∈sc.names\/(x,NameKind.cell)∈sc.names):∃ c,(ocl X sc C).lookup x=some c:=by
 rcases h with h|h
 .exact zb6 _ _ _ (zbk _ _ _ h)
 .exact zd9 _ _ _ h
theorem zea (I2:Inv X pins σ H2 s2) {x:Str} {c:Addr} (h:X.env.cells.lookup x=some c):c<s2.heap.objs.size:=by
 obtain ⟨v,o,e,_⟩:=I2.cell x c h;exact Heap.lt_size e
theorem cU (I2:Inv X pins σ H2 s2) (B:BlkSc X sc) (f2:∀ b∈fp,vR X pins H2 b) (hfp:∀ b∈fp,b<s2.heap.objs.size) (hC:s2.heap.objs.size<=C):(uQ X N sc C s2 H2 fp pins).Ok where
 mod:=I2.ok.mod
 kind:=B.kind
 glob:=I2.ok.glob
 blt:=I2.ok.blt
 above:=hC
 inj:=zd8 _ _ _ ⟨fun x c h=>Nat.lt_succ_of_lt (Nat.lt_of_lt_of_le (zea I2 (tH I2.ok B h).1) hC),fun x y c hx hy=>I2.ok.inj x y c (tH I2.ok B hx).1 (tH I2.ok B hy).1⟩
 has:=fun x h=>zdi (B_has B h)
 cab:=fun x c h e=>by
  rcases tW I2.ok B e with ⟨_,q⟩|⟨_,q⟩
  .have h:(sc.names.lookup x==some .cell)=true:=h;rw [q] at h;cases h
  .exact Nat.le_trans hC (Nat.le_of_lt q)
 hd:=I2.ok.hd
 frames:=I2.ok.frames
 stk:=.inl rfl
 exf:=fun b hb=>⟨Nat.ne_of_lt (Nat.lt_of_lt_of_le (hfp b hb) hC),fun x c h=>by
  rcases tW I2.ok B h with ⟨q,_⟩|⟨_,q⟩
  .exact (f2 b hb).2.2.2.2.1 x c q
  .exact Nat.ne_of_gt (Nat.lt_trans (Nat.lt_of_lt_of_le (hfp b hb) hC) q)⟩
 bs:=I2.bs
 bsz:=Nat.le_trans I2.ok.bsz I2.sz
 noex:=fun b o e hb=>by
  rcases (f2 b hb).2.2.2.1 with h|h
  .exact I2.ok.noex b o e h
  .exact absurd (Nat.lt_of_lt_of_le (Heap.lt_size e) (Nat.le_trans I2.ok.bsz h)) (Nat.lt_irrefl _)
 exfs:=fun b hb hm=>by
  rcases List.mem_cons.mp (I2.stkSub b hm) with h|h
  .exact (f2 b hb).2.1 h
  .exact (f2 b hb).2.2.1 h
 funs:=I2.stack
 frf:=I2.stkFree
theorem zed {s4:Shared} {τ:St} {m:Str->Option Value} (I2:Inv X pins σ H2 s2) (B:BlkSc X sc) (f2:∀ b∈fp,vR X pins H2 b) (hfp:∀ b∈fp,b<s2.heap.objs.size) (hC:s2.heap.objs.size<=C)
  (ho:s4.os=s2.os) (hg:s4.gens=s2.gens) (keep:∀ b o,s2.heap.get? b=some o->s4.heap.get? b=some o) (hcs:∀ x c,(ocl X sc C).lookup x=some c->∃ v,s4.heap.IsCell c v) (hns:s4.heap.Ns C m) (hl:τ.length=N.length)
  (cap:∀ (i:Nat) (x:Str) (v:V),N[i]?=some x->τ[i]?=some (some v)->Vis (relabel sc X.env) x->sc.names.lookup x=some .free/\∃ j:Nat,X.N[j]?=some x/\σ[j]?=some (some v)) (h4:0<s4.toks) :
  Inv (uQ X N sc C s2 H2 fp pins) [] τ H2 s4:=by
 refine ⟨cU I2 B f2 hfp hC,ho,by rw [hg];exact I2.bare,Un.kept keep,⟨m,hns,fun i x v hN hτ hv=>?_⟩,hcs,I2.hok.fresh hC,fun x c h=>?_,fun p hp=>?_,I2.hok.kept keep,hl,h4⟩
 .obtain ⟨hnl,j,hj,hσ⟩:=cap i x v hN hτ hv;have hmem:=kX hnl;have hf:=B.free x hmem
  have hkind:(relabel sc X.env).names.lookup x=some .cell\/(relabel sc X.env).names.lookup x=some .free:=by
   rcases hv with h|h|h
   .obtain ⟨k,hk,e⟩:=wN h;rw [hnl] at hk;cases hk;rcases e with e|⟨_,e⟩<;>cases e
   .exact .inl h
   .exact .inr h
  obtain ⟨m0,_,hl0⟩:=I2.loc;obtain ⟨u,r,lk⟩:=hl0 j x v hj hσ (hf.elim (fun h=>.inr (.inl h)) fun h=>.inr (.inr h));refine ⟨u,r,.inr ⟨hkind,?_⟩⟩;rcases lk with ⟨hk,_⟩|⟨_,c,hc,hcell⟩
  .rw [hk] at hf;rcases hf with hf|hf<;>cases hf
  .obtain ⟨c',hc'⟩:=zdi (X:=X) (C:=C) (.inl hmem);rcases tW I2.ok B hc' with ⟨e,_⟩|⟨e,_⟩
   .rw [hc] at e;cases e;refine ⟨c,hc',?_⟩;obtain ⟨o,e1,r1⟩:=hcell;exact ⟨o,keep _ _ e1,r1⟩
   .rw [hnl] at e;cases e
 .rcases tW I2.ok B h with ⟨e,_⟩|⟨_,e⟩
  .exact I2.freeC x c e
  .exact I2.hok.fresh (Nat.le_trans hC (Nat.le_of_lt e))
 .have hp':p∈X.pn++pins:=by simpa [uQ] using hp
  obtain ⟨q1,q2,q3,q4,q5⟩:=I2.pin p hp';refine ⟨keep _ _ q1,q2,Nat.ne_of_lt (Nat.lt_of_lt_of_le (Heap.lt_size q1) hC),fun z=>?_,q5⟩;rcases List.mem_cons.mp (I2.stkSub _ z) with h|h
  .exact q3 h
  .exact q4 h
end
theorem sR.adopt {P:Program} {w:World} {H:Hp} {h h':Heap} {a:Addr} {o:HO} (x:sR P w H h) (k:∀ b u v,H b=some v->h.get? b=some u->h'.get? b=some u) (hn:H a=none) (new:xU P w (xL H a o) h' a o):sR P w (xL H a o) h':=fun b u e=>by
 by_cases hb:b=a
 .subst hb;rw [wY] at e;cases e;exact new
 .rw [zB hb] at e;refine (x b u e).stay (fun c v hc q=>?_) (fun c q=>by rw [zB (yN q hn)];exact q) fun c xs q=>by rw [zB (yN q hn)];exact q
  rcases hc with rfl|hc
  .exact k _ _ _ e q
  .exact k _ _ _ hc q
end L2
namespace L2
open PySem PySem.Spec PyProof.Rows PySem.Calls
def PTs (X:Cx) (ifs:List Expr) (t:TT):Prop :=
 ∀ (pins:List (Addr×Obj)) (s:Shared) (σ:St) (H:Hp) (Q:Bool->Hp->Prop),Inv X pins σ H s->t σ H Q ->
  wpAny (model X.prog X.w) X.A (forIn ifs true fun c r=>if r=true then do let ok ← isTrue c X.env (eval c X.env);pure (ForInStep.yield ok) else pure (ForInStep.yield r)) (TP X pins σ Q) X.xe s
theorem zha {X:Cx}:PTs X [] (fun _ H Q=>Q true H):=fun _ _ _ H _ I h=>wpAny_tests_nil ⟨H,I,h⟩
theorem zg9 {X:Cx} {c:Expr} {t:TT} (h:PT X c t):PTs X [c] t:=fun pins s σ H Q I q=>wpAny_tests_one (h pins s σ H Q I q)
def tLCb (J:It) (τ:St) (g:TG) (tc:TT) (te:TE) (Qf:List V->Hp->Prop) (H1:Hp):Prop :=
 ∃ Pv:Nat->Nat->St->List V->Hp->Prop,(∃ m,Pv 0 m τ [] H1)/\∀ i m τ acc H,Pv i m τ acc H ->
  (J.stop i H/\Qf acc H) \/
  (J.go i H/\acc.length<sizeLine/\∀ x H',J.yld i H x H'->g x τ H' fun σ2 H2=>tc σ2 H2 fun b H3=>if b=true then te σ2 H3 fun v H4=>∃ m',m' < m/\Pv (i+1) m' σ2 (acc++[v]) H4 else ∃ m',m' < m/\Pv (i+1) m' σ2 acc H3)
structure Off (X:Cx) (pins:List (Addr×Obj)) (C:Addr):Prop where
 ne:C≠X.env.locals
 ge:X.s₀.heap.objs.size<=C
 cl:∀ x c,X.env.cells.lookup x=some c->c≠C
 pn:∀ p∈X.pn++pins,p.1≠C
theorem Off.turned {X:Cx} {pins:List (Addr×Obj)} {C:Addr} {σ:St} {H:Hp} {s:Shared} {h':Heap} (o:Off X pins C) (I:Inv X pins σ H s) (hn:H C=none) (k:Heap.SameBut C s.heap h'):Inv X pins σ H { s with heap:=h' } :=
 I.turned (t':=s.toks) (fun b u hb e=>k.extBut b u hb e) hn o.ne (.inr o.ge) o.cl o.pn
theorem Inv.off {X:Cx} {pins:List (Addr×Obj)} {σ:St} {H:Hp} {s:Shared} {C:Addr} (I:Inv X pins σ H s) (hC:s.heap.objs.size<=C):Off X pins C :=
 ⟨(Nat.ne_of_lt (Nat.lt_of_lt_of_le I.lt hC)).symm,Nat.le_trans I.sz hC,fun x c h=>by
  obtain ⟨v,o,e,_⟩:=I.cell x c h;exact Nat.ne_of_lt (Nat.lt_of_lt_of_le (Heap.lt_size e) hC),fun p hp=>Nat.ne_of_lt (Nat.lt_of_lt_of_le (Heap.lt_size (I.pin p hp).1) hC)⟩
abbrev vA (its:List Value) (n:Nat):Obj:={ cls:=.type "list", data:=.seq its.toArray n }
set_option maxHeartbeats 8000000 in
theorem zdt {X:Cx} {pins:List (Addr×Obj)} {σ τ:St} {H2:Hp} {s2:Shared} {sc:Scope} {N:List Str} {fp:List Addr} {it:Addr} {tn:Nat->Heap->Prop} {J:It} {tg iter elt:Expr} {ifs:List Expr} {pos:Pos} {g:TG} {tc:TT} {te:TE}
  {Qf:List V->Hp->Prop} {RR:Value->Addr->Result->Shared->Prop} {E:Value->Shared->Prop}
  (hc:X.calm=true) (I2:Inv X pins σ H2 s2) (T:Turn X.prog X.w X.K tg J fp it tn) (t0:tn 0 s2.heap) (f2:∀ b∈fp,vR X pins H2 b) (B:BlkSc X sc) (hl:τ.length=N.length)
  (cap:∀ (i:Nat) (x:Str) (v:V),N[i]?=some x->τ[i]?=some (some v)->Vis (relabel sc X.env) x->sc.names.lookup x=some .free/\∃ j:Nat,X.N[j]?=some x/\σ[j]?=some (some v))
  (hg:∀ X',IsBlock X N sc X'->PG X' tg g) (ht:∀ X',IsBlock X N sc X'->PTs X' ifs tc) (he:∀ X',IsBlock X N sc X'->PE X' elt te)
  (h:tLCb J τ g tc te Qf H2)
  (fin:∀ (D C:Addr) (acc:List V) (H':Hp) (s':Shared) (m:Str->Option Value),D≠C->H' D=none->H' C=none->Off X pins C->Inv X pins σ (xL H' D (.lst acc)) s'->s'.heap.Ns C m->Qf acc H'->RR (.ref D) C (.ok .next) s') :
  wpAny (model X.prog X.w) X.A (newList []) (fun acc s₃=>wpAny (model X.prog X.w) X.A (newFunctionEnv sc X.env.globals (clo X.env sc.names []) [] X.env.qual none .none (some X.env)) (fun cenv s₄ =>
   codeAny (model X.prog X.w) X.A (.compStart (.ListComp elt [⟨tg,iter,ifs,0⟩] sc pos) 0 (.ref it) acc { cenv with scope:=relabel sc X.env }) (RR acc cenv.locals) s₄) E s₃) E s2:=by
 refine wpAny_newObj_type (nfe fun h₁ heq hns₁ hk₁=>?_);dsimp only at heq hns₁ hk₁ ⊢;generalize hH2:s2.heap.push { cls:=.type "list", dict:=none,data:=.seq ([]:List Value).toArray }=G2 at heq hns₁ hk₁ ⊢
 have hcs:∀ x c,(ocl X sc G2.objs.size).lookup x=some c->∃ v,h₁.IsCell c v:=fun x c e=>by
  rw [heq];refine zbn sc.names (G2.push { cls:=.type "dict", data:=.dict #[] }) (clo X.env sc.names []) (fun y d q=>?_) x c (by rw [Heap.size_push];exact e);obtain ⟨v,o,ho,hd⟩:=I2.cell y d (tH I2.ok B q).1;exact ⟨v,o,Heap.get?_push_of_some _ (hH2▸Heap.get?_push_of_some _ ho),hd⟩
 have hC:G2.objs.size=s2.heap.objs.size+1:=by rw [← hH2,Heap.size_push]
 have hDC:s2.heap.objs.size≠G2.objs.size:=by rw [hC];exact Nat.ne_of_lt (Nat.lt_succ_self _)
 have hCle:s2.heap.objs.size<=G2.objs.size:=by rw [hC];exact Nat.le_succ _
 have below:∀ b,b<s2.heap.objs.size->b≠G2.objs.size/\b≠s2.heap.objs.size:=fun b hb=>⟨by rw [hC];exact Nat.ne_of_lt (Nat.lt_succ_of_lt hb),Nat.ne_of_lt hb⟩
 have hfp:∀ b∈fp,b<s2.heap.objs.size:=fun b hb=>by
  obtain ⟨o,e,_⟩:=T.obj _ _ t0 b hb;exact Heap.lt_size e
 have hDf:∀ b∈fp,b≠s2.heap.objs.size:=fun b hb=>(below b (hfp b hb)).2;have hCf:∀ b∈fp,b≠G2.objs.size:=fun b hb=>(below b (hfp b hb)).1;have old:∀ b o,s2.heap.get? b=some o->h₁.get? b=some o:=fun b o e=>hk₁ b o (hH2▸Heap.get?_push_of_some _ e);have hacc:h₁.get? s2.heap.objs.size=some (vA [] 0):=hk₁ _ _ (hH2▸Heap.get?_push_size _ rfl)
 have fresh:∀ a,s2.heap.objs.size<=a->s2.heap.get? a=none:=fun a ha=>by
  cases e:s2.heap.get? a with
  |none=>rfl
  |some o'=>exact absurd (Heap.lt_size e) (Nat.not_lt.mpr ha)
 have hsub:∀ b∈frs X.stack,b<s2.heap.objs.size:=fun b hb=>by
  obtain ⟨_,o,e,_⟩:=I2.stack.mem hb;exact Heap.lt_size e
 obtain ⟨Pv,⟨m0,p0⟩,step⟩:=h;generalize hD:s2.heap.objs.size=D at *;generalize hCe:G2.objs.size=C at *;have hXb:IsBlock X N sc (uQ X N sc C s2 H2 fp pins):=zcB ..;generalize hXd:uQ X N sc C s2 H2 fp pins=X' at hXb
 have J0:Inv X' [] τ H2 { s2 with heap:=h₁ }:=by
  rw [← hXd];exact zed (s4:={ s2 with heap:=h₁ }) I2 B f2 (by rw [hD];exact hfp) (by rw [hD];exact hCle) rfl rfl old hcs hns₁ hl cap I2.tk
 have offD:Off X' [] D:=by
  rw [← hXd];refine ⟨hDC,by show s2.heap.objs.size<=D;rw [hD];exact zzR _,fun x c hx=>?_,fun p hp=>?_⟩
  .rcases tW I2.ok B hx with ⟨q,_⟩|⟨_,q⟩
   .have:=zea I2 q;rw [hD] at this;exact Nat.ne_of_lt this
   .exact Nat.ne_of_gt (Nat.lt_of_le_of_lt hCle q)
  .have hp':p∈X.pn++pins:=by simpa [uQ] using hp
   have:=Heap.lt_size (I2.pin p hp').1;rw [hD] at this;exact Nat.ne_of_lt this
 have offC:Off X pins C:=I2.off (by rw [hD];exact hCle)
 have fpok:∀ {H':Hp} {ob:Obj},(∀ b∈fp,H' b=none)->∀ b∈fp,vR X' [(D,ob)] H' b:=fun {H' ob} hn b hb=>by
  rw [← hXd];refine ⟨hn b hb,hCf b hb,fun z=>(cU (N:=N) I2 B f2 (by rw [hD];exact hfp) (by rw [hD];exact hCle)).exfs b hb z,.inl hb,fun x c hx=>(cU (N:=N) I2 B f2 (by rw [hD];exact hfp) (by rw [hD];exact hCle)).exf b hb |>.2 x c hx,fun p hp=>?_⟩;rcases List.mem_append.mp hp with hp|hp
  .exact (f2 b hb).2.2.2.2.2 p hp
  .rw [zzO hp];exact (hDf b hb).symm
 have Dfs:D∉X'.fs:=by
  rw [← hXd];intro z;exact Nat.lt_irrefl _ (hsub D z)
 have pinD:∀ {H':Hp} {τ':St} {s':Shared} {its:List Value} {n:Nat},Inv X' [] τ' H' s'->H' D=none->s'.heap.get? D=some (vA its n)->Inv X' [(D,vA its n)] τ' H' s':=fun {H' τ' s' its n} I hn e =>
  I.pins_of fun p hp=>by
   rw [zzO hp];exact ⟨e,hn,by rw [← hXd];exact hDC,Dfs,fun v z=>nomatch z⟩
 have loop:∀ s₃:Shared,s₃={ s2 with heap:=h₁ } ->
   codeAny (model X.prog X.w) X.A (.compLoop (.ListComp elt [⟨tg,iter,ifs,0⟩] sc pos) 0 (.ref it) (.ref D) (compEnvC sc (ocl X sc C) C X.env)) (RR (.ref D) C) s₃:=by
  rintro s₃ rfl;have tn0:tn 0 h₁:=T.keep _ _ _ t0 fun b _ o e=>old b o e;have fr0:∀ b∈fp,H2 b=none:=fun b hb=>(f2 b hb).1;have Df0:H2 D=none:=I2.hok.fresh (by rw [hD];exact zzR _);have eX:X'.env=compEnvC sc (ocl X sc C) C X.env:=by rw [← hXd];rfl
  have ep:X'.prog=X.prog:=hXb.prog;have ew:X'.w=X.w:=hXb.w;have eA:X'.A=X.A:=hXb.A;refine zaH (fun k s'=>∃ i τ' acc H' its n,Inv X' [] τ' H' s'/\tn i s'.heap/\(∀ b∈fp,H' b=none)/\H' D=none/\s'.heap.get? D=some (vA its n)/\zE acc its/\acc.length<=sizeLine/\Pv i k τ' acc H') ?_ m0 ⟨0,τ,[],H2,[],0,J0,tn0,fr0,Df0,hacc,.nil,Nat.zero_le _,p0⟩;rintro k s3 ⟨i,τ3,acc,H3,its,n,I3,st3,fr3,D3,o3,v3,lenA,p3⟩;have I3':=pinD I3 D3 o3;rcases step i k τ3 acc H3 p3 with ⟨stop,qf⟩|⟨go,hsz,turn⟩
  .have td:=T.done X' ep ew hXb.K (by rw [hXb.calm];exact hc) i _ s3 τ3 H3 (fun _ _=>False) I3' (fpok fr3) st3 stop;rw [eA] at td;refine yG td fun r s4 ⟨hr,I4⟩=>?_;subst hr;have o4:=(I4.pin (D,vA its n) (List.mem_append_right _ (List.mem_singleton.mpr rfl))).1;obtain ⟨m4,hn4,_⟩:=I4.loc;rw [eX] at hn4;refine fin D C acc H3 s4 m4 hDC D3 ?_ offC ?_ hn4 qf
   .have:=I4.free;rw [eX] at this;exact this
   .have base:Un (frs X.stack) fp H2 H3 s2.heap s4.heap:=by have:=I4.base;rw [← hXd] at this;exact this
    have hb:∀ b o,s2.heap.get? b=some o->b≠D:=fun b o e=>by have:=Heap.lt_size e;rw [hD] at this;exact Nat.ne_of_lt this
    refine I2.call' (ch:=fp) (by have:=I4.os;rw [← hXd] at this;exact this) ⟨base.keep,base.slot,fun b o e n' hx=>?_,base.there,fun b xs e=>?_,fun b o u e=>?_,fun b ps e=>?_⟩ ?_ I4.bare ?_ I4.tk
    .rw [zB (hb b o e)];exact base.free b o e n' hx
    .rw [zB (yN (base.tups b xs e) D3)];exact base.tups b xs e
    .rw [zB (yN (base.frzs b o u e) D3)];exact base.frzs b o u e
    .obtain ⟨mo,e'⟩:=base.tbls b ps e;exact ⟨mo,by rw [zB (yN e' D3)];exact e'⟩
    .have hk:=I4.hok;rw [ep,ew] at hk;exact hk.adopt (fun b u v _ q=>q) D3 ⟨lenA,its,n,v3,o4⟩
    .intro b hb';obtain ⟨q1,q2,q3,q4,q5,q6⟩:=f2 b hb';exact ⟨q4,q2,q5,q6⟩
  .have td:=T.item X' ep ew hXb.K (by rw [hXb.calm];exact hc) i _ s3 τ3 H3 (fun _ _=>False) I3' (fpok fr3) st3 go;rw [eA] at td;refine yG td fun r s4 ⟨u,hr,h4⟩=>?_;subst hr;refine yG h4 fun _ s5 ⟨x,H5,I5,r5,y5,st5,fr5⟩=>?_;have I5':=I5.pinned (fpok fr5) (T.obj _ _ st5);have q1:=hg X' hXb _ s5 τ3 H5 x u _ I5' r5 (turn x H5 y5);rw [ep,ew,eA,eX,hXb.xe] at q1;refine yG q1 fun _ s6 ⟨σ6,H6,I6,q6⟩=>?_;have q2:=ht X' hXb _ s6 σ6 H6 _ I6 q6;rw [ep,ew,eA,eX,hXb.xe] at q2;refine yG q2 fun b s7 ⟨H7,I7,q7⟩=>?_
   have back:∀ {H8:Hp} {s8:Shared},Inv X' ([(D,vA its n)]++nZ fp s5.heap) σ6 H8 s8->Inv X' [] σ6 H8 s8/\tn (i+1) s8.heap/\(∀ b∈fp,H8 b=none)/\H8 D=none/\s8.heap.get? D=some (vA its n):=fun {H8 s8} I8=>by
    have pp:∀ p,p∈[(D,vA its n)]++nZ fp s5.heap->_:=fun p hp=>I8.pin p (List.mem_append_right _ hp);refine ⟨I8.pins_of (pins':=[]) (fun p hp=>nomatch hp),T.keep _ _ _ st5 fun b hb o e=>(pp (b,o) (List.mem_append_right _ (vD hb e))).1,fun b hb=>?_,?_,?_⟩
    .obtain ⟨o,e,d⟩:=T.obj _ _ st5 b hb;exact (pp (b,o) (List.mem_append_right _ (vD hb e))).2.1
    .exact (pp (D,vA its n) (List.mem_append_left _ (List.mem_singleton.mpr rfl))).2.1
    .exact (pp (D,vA its n) (List.mem_append_left _ (List.mem_singleton.mpr rfl))).1
   cases b with
   |false =>
    rw [if_neg (by decide)] at q7;rw [if_neg (by decide)];obtain ⟨m',hm,p'⟩:=q7;obtain ⟨b1,b2,b3,b4,b5⟩:=back I7;exact ⟨m',hm,i+1,σ6,acc,H7,its,n,b1,b2,b3,b4,b5,v3,lenA,p'⟩
   |true =>
    rw [if_pos rfl] at q7;rw [if_pos rfl];have q3:=he X' hXb _ s7 σ6 H7 _ I7 q7;rw [ep,ew,eA,eX,hXb.xe] at q3;refine yG q3 fun y s8 ⟨v,H8,I8,r8,m',hm,p'⟩=>?_;obtain ⟨b1,b2,b3,b4,b5⟩:=back I8;refine append_at (hsz:=by show its.toArray.size<=sizeLine;rw [zzS,← v3.length];exact Nat.le_of_lt hsz) b5 fun h₅ hs₅ hD₅=>?_;refine ⟨m',hm,i+1,σ6,acc++[v],H8,its++[y],n+1,offD.turned b1 b4 hs₅,T.keep _ _ _ b2 fun b hb o e=>hs₅.extBut b o (hDf b hb) e,b3,b4,?_,v3.append (.cons r8 .nil),by rw [zzW];exact hsz,p'⟩;show h₅.get? D=_;rw [hD₅,List.push_toArray]
 exact codeAny_compStart_list (loop _ rfl) (T.self _ 0 _ _ _ (T.keep _ _ _ t0 fun b _ o e=>old b o e) (loop _ rfl))
def tLC (wi:TI) (cap:St->St) (g:TG) (tc:TT) (te:TE):TE:=fun σ H Q=>wi σ H fun J H1=>tLCb J (cap σ) g tc te (fun acc H'=>∀ p,H' p=none->Q (.ref p) (xL H' p (.lst acc))) H1
section
variable {X : Cx} {sc : Scope} {N : List Str} {tg iter elt : Expr} {ifs : List Expr} {pos : Pos} {wi : TI} {g : TG} {tc : TT} {te : TE} {cap : St → St}
def Caps (X:Cx) (sc:Scope) (N:List Str) (cap:St->St):Prop:=∀ σ:St,σ.length=X.N.length->(cap σ).length=N.length /\
 ∀ (i:Nat) (x:Str) (v:V),N[i]?=some x->(cap σ)[i]?=some (some v)->Vis (relabel sc X.env) x->sc.names.lookup x=some .free/\∃ j:Nat,X.N[j]?=some x/\σ[j]?=some (some v)
theorem pe_lc (hc:X.calm=true) (hi:PI X tg iter wi) (B:BlkSc X sc) (hcap:Caps X sc N cap)
  (hg:∀ X',IsBlock X N sc X'->PG X' tg g) (ht:∀ X',IsBlock X N sc X'->PTs X' ifs tc) (he:∀ X',IsBlock X N sc X'->PE X' elt te)
  (hs:∀ x,foldedSetIterable iter X.env x=pure x:=by intro _;rfl):PE X (.ListComp elt [⟨tg,iter,ifs,0⟩] sc pos) (tLC wi cap g tc te):=by
 intro pins s σ H Q I h;rw [eval_ListComp];refine wpAny_comprehension_free (use:=none) rfl hs (cX fun x hx=>I.ok.has x (B.free x hx)) B.kind B.names (yG (hi pins s σ H _ I h) fun v s1 h1=>yG h1 fun itv s2 h2=>?_);obtain ⟨it,fp,tn,J,H2,e,I2,T,st2,f2,q⟩:=h2;subst e;obtain ⟨cl,cc⟩:=hcap σ I.len;refine zdt (RR:=fun acc C=>compPost (model X.prog X.w) X.A X.xe none (EP X pins σ Q) acc C) hc I2 T st2 f2 B cl cc hg ht he q fun D C acc H' s' m hDC hD hC off I' hn qf=>?_;refine ⟨m,hn,fun h' hk=>⟨.ref D,_,off.turned I' (by rw [zB hDC.symm];exact hC) hk,rfl,qf D hD⟩⟩
theorem zeV {i:Nat} {y:Str} {py spos:Pos} (hc:X.calm=true) (hi:PI X tg iter wi) (B:BlkSc X sc) (hcap:Caps X sc N cap)
  (hg:∀ X',IsBlock X N sc X'->PG X' tg g) (ht:∀ X',IsBlock X N sc X'->PTs X' ifs tc) (he:∀ X',IsBlock X N sc X'->PE X' elt te)
  (hN:X.N.Nodup) (hy:X.N[i]?=some y) (hx:Loc X.env.scope y) (hf:X.fn y=true\/X.env.scope.names.lookup y=some .local)
  (hsw:swapsWith (.ListComp elt [⟨tg,iter,ifs,0⟩] sc pos) (some (.Name y py)) spos.line X.env=pure true)
  (hs:∀ x,foldedSetIterable iter X.env x=pure x:=by intro _;rfl):PS X (.Assign [.Name y py] (.ListComp elt [⟨tg,iter,ifs,0⟩] sc pos) spos) (tAsg (tLC wi cap g tc te) (zfA i)):=by
 intro pins s σ H D I h;rw [exec_Assign_Name_used _ _ _ _ hsw];refine wpAny_bind (wpAny_standAt (wpAny_bind ?_));show wpAny _ X.A (do let _ ← comprehension (.ListComp elt [⟨tg,iter,ifs,0⟩] sc pos) sc X.env _ (newList []) false (eval iter X.env) (some (assign (.Name y py) X.env))) _ _ s
 refine wpAny_bind (wpAny_mono (wpAny_comprehension_free (use:=some (assign (.Name y py) X.env)) (Q:=fun _ s'=>SP X pins D .next s') rfl hs (cX fun x hx=>I.ok.has x (B.free x hx)) B.kind B.names
  (yG (hi pins s σ H _ I h) fun v s1 h1=>yG h1 fun itv s2 h2=>?_)) (fun _ s' hq=>wpAny_pure (wpAny_pure hq)) fun _ _ e=>e)
 obtain ⟨it,fp,tn,J,H2,e,I2,T,st2,f2,q⟩:=h2;subst e;obtain ⟨cl,cc⟩:=hcap σ I.len;refine zdt (RR:=fun acc C=>compPost (model X.prog X.w) X.A X.xe (some (assign (.Name y py) X.env)) (fun _ s'=>SP X pins D .next s') acc C) hc I2 T st2 f2 B cl cc hg ht he q fun D' C acc H' s' m hDC hD hC off I' hn qf=>?_;show wpAny _ X.A (assign (.Name y py) X.env (.ref D')) _ _ _;refine wpAny_assign_Name (bH I' hN hy hx (v:=.ref D') rfl (fun s'' I'' hsm=>?_) hf);obtain ⟨a,hsb,ha⟩:=hsm
 have hCa:C≠a:=by
  rcases ha with ha|ha
  .rw [ha];exact off.ne
  .exact (off.cl y a ha).symm
 refine ⟨m,hn.sameBut hsb hCa,fun h' hk=>⟨_,_,off.turned I'' (by rw [zB hDC.symm];exact hC) hk,qf D' hD⟩⟩
end
end L2
namespace L3
open PySem PySem.Spec PyProof.Rows L2 PySem.SeqAt
mutual
def jM:W->W->Bool
 | .non,.non=>true
 | .bl a,.bl b=>a==b
 | .bl a,.int j=>(if a then 1 else 0)==j
 | .int i,.bl b=>i==(if b then 1 else 0)
 | .int i,.int j=>i==j
 | .str x,.str y=>x==y
 | .tup xs,.tup ys=>vU xs ys
 |_,_=>false
def vU:List W->List W->Bool
 | [],[]=>true
 |x::xs,y::ys=>jM x y&&vU xs ys
 |_,_=>false
end
mutual
def pur:W->Bool
 | .ref _=>false
 | .ty _=>false
 | .lsf _=>false
 | .exc _ _ _=>false
 | .dcf _ _=>false
 | .tup ws=>jI ws
 |_=>true
def jI:List W->Bool
 | []=>true
 |w::ws=>pur w&&jI ws
end
mutual
def dep:W->Nat
 | .tup ws=>kC ws+1
 |_=>0
def kC:List W->Nat
 | []=>0
 |w::ws=>max (dep w) (kC ws)
end
theorem wX {w:W} {ws:List W}:jI (w::ws)=true↔pur w=true/\jI ws=true:=by simp [jI]
section
variable {X : Cx} {pins : List (Addr × Obj)} {σ : L2.St} {H : Hp} {s : Shared}
theorem W.ind {P:W->Prop} (non:P .non) (bl:∀ b,P (.bl b)) (int:∀ i,P (.int i)) (str:∀ x,P (.str x)) (ty:∀ n,P (.ty n)) (ref:∀ a,P (.ref a)) (tup:∀ ws,(∀ w∈ws,P w)->P (.tup ws)) (lsf:∀ ws,P (.lsf ws)) (exc:∀ C ns ws,P (.exc C ns ws)) (dcf:∀ ks ws,P (.dcf ks ws)):∀ w:W,P w:=fun w =>
 W.rec (motive_1:=P) (motive_2:=fun ws=>∀ w∈ws,P w) non bl int str ty ref (fun ws h=>tup ws h) (fun ws _=>lsf ws) (fun C ns ws _=>exc C ns ws) (fun ks ws _=>dcf ks ws) (fun _ h=>nomatch h) (fun w ws h hs v hv=>(List.mem_cons.mp hv).elim (fun e=>e▸h) (hs v)) w
theorem zcy:∀ (ws:List W),(∀ w∈ws,pur w=true->jM w w=true)->jI ws=true->vU ws ws=true:=by
 intro ws
 induction ws with
 |nil=>intro _ _;simp [vU]
 |cons w ws ih =>
  intro h hp;have h':=wX.mp hp;simp only [vU,h w zzT h'.1,ih (fun z hz=>h z (List.mem_cons_of_mem _ hz)) h'.2,Bool.and_self]
theorem zfF {w:W}:pur w=true->jM w w=true:=by
 induction w using W.ind with
 |non=>intro _;simp [jM]
 |bl _=>intro _;simp [jM]
 |int _=>intro _;simp [jM]
 |str _=>intro _;simp [jM]
 |ty _=>intro h;cases h
 |lsf _=>intro h;cases h
 |exc _ _ _=>intro h;cases h
 |dcf _ _=>intro h;cases h
 |ref _=>intro h;cases h
 |tup ws ih=>intro h;exact zcy ws ih h
theorem zai (I:Inv X pins σ H s):∀ (xs ys:List W) (vs:List V),(∀ x∈xs,∀ (y:W) (v:V),xJ X.K H x v->xJ X.K H y v->pur x=true->pur y=true->x=y)->zF X.K H xs vs->zF X.K H ys vs->jI xs=true->jI ys=true->xs=ys:=by
 intro xs
 induction xs with
 |nil =>
  intro ys vs _ h h' _ _
  cases ys with
  |nil=>rfl
  |cons y ys=>obtain ⟨_,_,e,_⟩:=h';rw [show _=[] from h] at e;cases e
 |cons x xs ih =>
  intro ys vs hx h h' px py;obtain ⟨v,r,e,q,t⟩:=h;subst e
  cases ys with
  |nil=>cases h'
  |cons y ys =>
   obtain ⟨v',r',e',q',t'⟩:=h';cases e';rw [hx x zzT y v q q' (wX.mp px).1 (wX.mp py).1,ih ys r (fun z hz=>hx z (List.mem_cons_of_mem _ hz)) t t' (wX.mp px).2 (wX.mp py).2]
theorem zc8 (I:Inv X pins σ H s):∀ (x y:W) (v:V),xJ X.K H x v->xJ X.K H y v->pur x=true->pur y=true->x=y:=by
 intro x
 induction x using W.ind with
 |tup xs ih =>
  intro y v h h' hx hy;obtain ⟨a,vs,e,q,r⟩:=h;subst e
  cases y with
  |tup ys =>
   obtain ⟨b,us,e',q',r'⟩:=h';cases e';have:=I.tuple_inj q q';subst this;rw [zai I xs ys vs ih r r' hx hy]
  |ref _=>cases hy
  |ty _=>cases hy
  |lsf _=>cases hy
  |exc _ _ _=>cases hy
  |dcf _ _=>cases hy
  |non=>cases h'
  |bl _=>cases h'
  |int _=>cases h'
  |str _=>cases h'
 |ty _=>intro y v _ _ hx;cases hx
 |lsf _=>intro y v _ _ hx;cases hx
 |exc _ _ _=>intro y v _ _ hx;cases hx
 |dcf _ _=>intro y v _ _ hx;cases hx
 |ref _=>intro y v _ _ hx;cases hx
 |non =>
  intro y v h h' _ hy;cases h
  cases y with
  |tup ys=>obtain ⟨_,_,e,_⟩:=h';cases e
  |ref _=>cases hy
  |ty _=>cases hy
  |lsf _=>cases hy
  |exc _ _ _=>cases hy
  |dcf _ _=>cases hy
  |non=>rfl
  |bl _=>cases h'
  |int _=>cases h'
  |str _=>cases h'
 |bl _ =>
  intro y v h h' _ hy;cases h
  cases y with
  |tup ys=>obtain ⟨_,_,e,_⟩:=h';cases e
  |ref _=>cases hy
  |ty _=>cases hy
  |lsf _=>cases hy
  |exc _ _ _=>cases hy
  |dcf _ _=>cases hy
  |non=>cases h'
  |bl _=>cases h';rfl
  |int _=>cases h'
  |str _=>cases h'
 |int _ =>
  intro y v h h' _ hy;cases h
  cases y with
  |tup ys=>obtain ⟨_,_,e,_⟩:=h';cases e
  |ref _=>cases hy
  |ty _=>cases hy
  |lsf _=>cases hy
  |exc _ _ _=>cases hy
  |dcf _ _=>cases hy
  |non=>cases h'
  |bl _=>cases h'
  |int _=>cases h';rfl
  |str _=>cases h'
 |str _ =>
  intro y v h h' _ hy;cases h
  cases y with
  |tup ys=>obtain ⟨_,_,e,_⟩:=h';cases e
  |ref _=>cases hy
  |ty _=>cases hy
  |lsf _=>cases hy
  |exc _ _ _=>cases hy
  |dcf _ _=>cases hy
  |non=>cases h'
  |bl _=>cases h'
  |int _=>cases h'
  |str _=>cases h';rfl
theorem zeO (I:Inv X pins σ H s) {xs ys:List W} {vs:List V} (h:zF X.K H xs vs) (h':zF X.K H ys vs) (hx:jI xs=true) (hy:jI ys=true):xs=ys :=
 zai I xs ys vs (fun x _=>zc8 I x) h h' hx hy
def sK (xs ys:List W) (j:Nat):Bool:=match xs[j]?,ys[j]? with
 |some x,some y=>jM x y
 |_,_=>false
theorem pK:∀ xs ys:List W,((List.range (min xs.length ys.length)).all (sK xs ys)&&xs.length==ys.length)=vU xs ys
 | [],[]=>rfl
 | [],_::_=>by simp [vU]
 |_::_,[]=>by simp [vU]
 |x::xs,y::ys=>by
  have ih:=pK xs ys;simp only [List.length_cons,Nat.add_min_add_right,vU];rw [List.range_succ_eq_map,List.all_cons,List.all_map];have h0:sK (x::xs) (y::ys) 0=jM x y:=rfl;have h1:(sK (x::xs) (y::ys) ∘ Nat.succ)=sK xs ys:=by funext j;simp [sK]
  rw [h0,h1,← ih,Bool.and_assoc];congr 2;simp
theorem zfE {xs ys:List W} (h:xs.length≠ys.length):vU xs ys=false:=by
 rw [← pK];have:(xs.length==ys.length)=false:=by simpa using h
 rw [this,Bool.and_false]
theorem zdU {xs ys:List W} (h:xs.length=ys.length):(List.range xs.length).all (sK xs ys)=vU xs ys:=by
 rw [← pK,h,Nat.min_self];simp
theorem wE (I:Inv X pins σ H s) {ws:List W} {v:V} {u:Value} (h:xJ X.K H (.tup ws) v) (r:zA v u):∃ a vs its,v=.ref a/\u=.ref a/\rM X.K H a vs/\zF X.K H ws vs/\zE vs its/\s.heap.IsTuple a its.toArray/\ws.length<=sizeLine:=by
 obtain ⟨a,vs,rfl,q,rs⟩:=h;obtain ⟨its,vr,it,hl⟩:=I.tuple q;exact ⟨a,vs,its,rfl,r,q,rs,vr,it,by rw [← rs.length];exact hl⟩
theorem zb2 (I:Inv X pins σ H s):∀ (xs ys:List W) (vs vs':List V) (us us':List Value) (A:Around),(∀ x∈xs,∀ (y:W) (v v':V) (u u':Value) (A:Around),xJ X.K H x v->zA v u->xJ X.K H y v'->zA v' u'->pur x=true->pur y=true->A.units+min (dep x) (dep y)<cLine->EqAt A s u u' (jM x y)) ->
  zF X.K H xs vs->zE vs us->zF X.K H ys vs'->zE vs' us'->jI xs=true->jI ys=true ->
  A.units+min (kC xs) (kC ys)<cLine->∀ (j:Nat) (h1:j<us.length) (h2:j<us'.length),EqAt A s us[j] us'[j] (sK xs ys j):=by
 intro xs
 induction xs with
 |nil=>intro ys vs vs' us us' A _ h r _ _ _ _ _ j h1;rw [show _=[] from h] at r;cases r;exact absurd h1 (Nat.not_lt_zero _)
 |cons x xs ih =>
  intro ys vs vs' us us' A he h r h' r' hx hy hu j h1 h2
  cases ys with
  |nil=>rw [show _=[] from h'] at r';cases r';exact absurd h2 (Nat.not_lt_zero _)
  |cons y ys =>
   obtain ⟨v,t,e,h,hs⟩:=h;obtain ⟨v',t',e',h',hs'⟩:=h';subst e;subst e'
   cases r with
   |cons r rs =>
    cases r' with
    |cons r' rs' =>
     have px:=wX.mp hx;have py:=wX.mp hy;simp only [kC] at hu
     cases j with
     |zero=>exact he x zzT y _ _ _ _ A h r h' r' px.1 py.1 (by omega)
     |succ j=>exact ih ys _ _ _ _ A (fun z hz=>he z (List.mem_cons_of_mem _ hz)) hs rs hs' rs' px.2 py.2 (by omega) j (Nat.lt_of_succ_lt_succ h1) (Nat.lt_of_succ_lt_succ h2)
theorem zgu (I:Inv X pins σ H s):∀ (x y:W) (v v':V) (u u':Value) (A:Around),xJ X.K H x v->zA v u->xJ X.K H y v'->zA v' u'->pur x=true->pur y=true->A.units+min (dep x) (dep y)<cLine->EqAt A s u u' (jM x y):=by
 intro x
 induction x using W.ind with
 |tup xs ih =>
  intro y v v' u u' A h r h' r' hx hy hu;obtain ⟨a,vs,its,rfl,rfl,q,rs,vr,it,_⟩:=wE I h r
  cases y with
  |tup ys =>
   obtain ⟨b,us,its',rfl,rfl,q',rs',vr',it',_⟩:=wE I h' r'
   by_cases e:a=b
   .subst e;have:=I.tuple_inj q q';subst this;have:=zeO I rs rs' hx hy;subst this;rw [show jM (.tup xs) (.tup xs)=true from zfF (w:=.tup xs) hx];exact EqAt.same _
   .show EqAt A s _ _ (vU xs ys);rw [← pK];have l1:its.toArray.size=xs.length:=by rw [zzS,← vr.length,rs.length]
    have l2:its'.toArray.size=ys.length:=by rw [zzS,← vr'.length,rs'.length]
    rw [← l1,← l2];refine EqAt.of_refs e (RcAt.tuples it it' (by simp only [dep] at hu;omega) fun j j1 j2=>?_);exact zb2 I xs ys _ _ _ _ A.in1 ih rs vr rs' vr' hx hy (by simp only [dep] at hu;show A.units+1+_<_;omega) j (by simpa using j1) (by simpa using j2)
  |ref _=>cases hy
  |ty _=>cases hy
  |lsf _=>cases hy
  |exc _ _ _=>cases hy
  |dcf _ _=>cases hy
  |non=>cases h';cases r';exact EqAt.tuple_none it (by omega)
  |bl _=>cases h';cases r';exact EqAt.tuple_bool _ it (by omega)
  |int _=>cases h';obtain ⟨t,rfl⟩:=r';exact EqAt.tuple_int _ _ it (by omega)
  |str _=>cases h';obtain ⟨t,rfl⟩:=r';exact EqAt.tuple_str _ _ it (by omega)
 |ty _=>intro y v v' u u' A _ _ _ _ hx;cases hx
 |lsf _=>intro y v v' u u' A _ _ _ _ hx;cases hx
 |exc _ _ _=>intro y v v' u u' A _ _ _ _ hx;cases hx
 |dcf _ _=>intro y v v' u u' A _ _ _ _ hx;cases hx
 |ref _=>intro y v v' u u' A _ _ _ _ hx;cases hx
 |non =>
  intro y v v' u u' A h r h' r' hx hy hu;cases h;cases r
  cases y with
  |tup ys=>obtain ⟨b,us,its',rfl,rfl,q',rs',vr',it',_⟩:=wE I h' r';exact EqAt.none_tuple it' (by omega)
  |ref _=>cases hy
  |ty _=>cases hy
  |lsf _=>cases hy
  |exc _ _ _=>cases hy
  |dcf _ _=>cases hy
  |non=>cases h';cases r';exact EqAt.same _
  |bl _=>cases h';cases r';exact EqAt.none_bool _
  |int _=>cases h';obtain ⟨t,rfl⟩:=r';exact EqAt.none_int _ _
  |str _=>cases h';obtain ⟨t,rfl⟩:=r';exact EqAt.none_str _ _
 |bl _ =>
  intro y v v' u u' A h r h' r' hx hy hu;cases h;cases r
  cases y with
  |tup ys=>obtain ⟨b,us,its',rfl,rfl,q',rs',vr',it',_⟩:=wE I h' r';exact EqAt.bool_tuple _ it' (by omega)
  |ref _=>cases hy
  |ty _=>cases hy
  |lsf _=>cases hy
  |exc _ _ _=>cases hy
  |dcf _ _=>cases hy
  |non=>cases h';cases r';exact EqAt.bool_none _
  |bl _=>cases h';cases r';exact EqAt.bool_bool _ _
  |int _=>cases h';obtain ⟨t,rfl⟩:=r';exact EqAt.bool_int _ _ _
  |str _=>cases h';obtain ⟨t,rfl⟩:=r';exact EqAt.bool_str _ _ _
 |int _ =>
  intro y v v' u u' A h r h' r' hx hy hu;cases h;obtain ⟨t0,rfl⟩:=r
  cases y with
  |tup ys=>obtain ⟨b,us,its',rfl,rfl,q',rs',vr',it',_⟩:=wE I h' r';exact EqAt.int_tuple _ _ it' (by omega)
  |ref _=>cases hy
  |ty _=>cases hy
  |lsf _=>cases hy
  |exc _ _ _=>cases hy
  |dcf _ _=>cases hy
  |non=>cases h';cases r';exact EqAt.int_none _ _
  |bl _=>cases h';cases r';exact EqAt.int_bool _ _ _
  |int _=>cases h';obtain ⟨t,rfl⟩:=r';exact EqAt.int_int _ _ _ _
  |str _=>cases h';obtain ⟨t,rfl⟩:=r';exact EqAt.int_str _ _ _ _
 |str _ =>
  intro y v v' u u' A h r h' r' hx hy hu;cases h;obtain ⟨t0,rfl⟩:=r
  cases y with
  |tup ys=>obtain ⟨b,us,its',rfl,rfl,q',rs',vr',it',_⟩:=wE I h' r';exact EqAt.str_tuple _ _ it' (by omega)
  |ref _=>cases hy
  |ty _=>cases hy
  |lsf _=>cases hy
  |exc _ _ _=>cases hy
  |dcf _ _=>cases hy
  |non=>cases h';cases r';exact EqAt.str_none _ _
  |bl _=>cases h';cases r';exact EqAt.str_bool _ _ _
  |int _=>cases h';obtain ⟨t,rfl⟩:=r';exact EqAt.str_int _ _ _ _
  |str _=>cases h';obtain ⟨t,rfl⟩:=r';exact EqAt.str_str _ _ _ _
theorem zdX (I:Inv X pins σ H s) {xs ys:List W} {vs vs':List V} {us us':List Value} {A:Around} (h:zF X.K H xs vs) (r:zE vs us) (h':zF X.K H ys vs') (r':zE vs' us') (hx:jI xs=true) (hy:jI ys=true)
  (hu:A.units+min (kC xs) (kC ys)<cLine):∀ (j:Nat) (h1:j<us.length) (h2:j<us'.length),EqAt A s us[j] us'[j] (sK xs ys j) :=
 zb2 I xs ys _ _ _ _ A (fun x _=>zgu I x) h r h' r' hx hy hu
end
section
variable {X : Cx} {pins : List (Addr × Obj)} {σ : L2.St} {H : Hp} {s : Shared}
theorem zjl (I:Inv X pins σ H s) (x y:W) (v v':V) (u u':Value) (A:Around) (h:xJ X.K H x v) (r:zA v u) (h':xJ X.K H y v') (r':zA v' u') (hx:pur x=true) (hy:pur y=true) (hu:A.units+min (dep x) (dep y)<cLine):RcAt A s u u' (jM x y)/\RcNeAt A s u u' (!jM x y):=by
 have h0:A.units<cLine:=by omega
 cases x with
 |ref _=>cases hx
 |ty _=>cases hx
 |lsf _=>cases hx
 |exc _ _ _=>cases hx
 |dcf _ _=>cases hx
 |tup xs =>
  obtain ⟨a,vs,its,rfl,rfl,q,rs,vr,it,_⟩:=wE I h r
  cases y with
  |ref _=>cases hy
  |ty _=>cases hy
  |lsf _=>cases hy
  |exc _ _ _=>cases hy
  |dcf _ _=>cases hy
  |tup ys =>
   obtain ⟨b,us,its',rfl,rfl,q',rs',vr',it',_⟩:=wE I h' r';have l1:its.toArray.size=xs.length:=by rw [zzS,← vr.length,rs.length]
   have l2:its'.toArray.size=ys.length:=by rw [zzS,← vr'.length,rs'.length]
   have key:∀ (j:Nat) (j1:j<its.toArray.size) (j2:j<its'.toArray.size),EqAt A.in1 s its.toArray[j] its'.toArray[j] (sK xs ys j):=fun j j1 j2 =>
    zdX I rs vr rs' vr' hx hy (A:=A.in1) (by simp only [dep] at hu;show A.units+1+_<_;omega) j (by simpa using j1) (by simpa using j2)
   show RcAt A s _ _ (vU xs ys)/\RcNeAt A s _ _ (!vU xs ys);rw [← pK,← l1,← l2];exact ⟨RcAt.tuples it it' h0 key,RcNeAt.tuples it it' h0 key⟩
  |non=>cases h';cases r';exact ⟨RcAt.tuple_none it h0,RcNeAt.tuple_none it h0⟩
  |bl _=>cases h';cases r';exact ⟨RcAt.tuple_bool _ it h0,RcNeAt.tuple_bool _ it h0⟩
  |int _=>cases h';obtain ⟨t,rfl⟩:=r';exact ⟨RcAt.tuple_int _ _ it h0,RcNeAt.tuple_int _ _ it h0⟩
  |str _=>cases h';obtain ⟨t,rfl⟩:=r';exact ⟨RcAt.tuple_str _ _ it h0,RcNeAt.tuple_str _ _ it h0⟩
 |non =>
  cases h;cases r
  cases y with
  |ref _=>cases hy
  |ty _=>cases hy
  |lsf _=>cases hy
  |exc _ _ _=>cases hy
  |dcf _ _=>cases hy
  |tup ys=>obtain ⟨b,us,its',rfl,rfl,q',rs',vr',it',_⟩:=wE I h' r';exact ⟨RcAt.none_tuple it' h0,RcNeAt.none_tuple it' h0⟩
  |non=>cases h';cases r';exact ⟨RcAt.none_none,RcNeAt.none_none⟩
  |bl _=>cases h';cases r';exact ⟨RcAt.none_bool _,RcNeAt.none_bool _⟩
  |int _=>cases h';obtain ⟨t,rfl⟩:=r';exact ⟨RcAt.none_int _ _,RcNeAt.none_int _ _⟩
  |str _=>cases h';obtain ⟨t,rfl⟩:=r';exact ⟨RcAt.none_str _ _,RcNeAt.none_str _ _⟩
 |bl _ =>
  cases h;cases r
  cases y with
  |ref _=>cases hy
  |ty _=>cases hy
  |lsf _=>cases hy
  |exc _ _ _=>cases hy
  |dcf _ _=>cases hy
  |tup ys=>obtain ⟨b,us,its',rfl,rfl,q',rs',vr',it',_⟩:=wE I h' r';exact ⟨RcAt.bool_tuple _ it' h0,RcNeAt.bool_tuple _ it' h0⟩
  |non=>cases h';cases r';exact ⟨RcAt.bool_none _,RcNeAt.bool_none _⟩
  |bl _=>cases h';cases r';exact ⟨RcAt.bool_bool _ _,RcNeAt.bool_bool _ _⟩
  |int _=>cases h';obtain ⟨t,rfl⟩:=r';exact ⟨RcAt.bool_int _ _ _,RcNeAt.bool_int _ _ _⟩
  |str _=>cases h';obtain ⟨t,rfl⟩:=r';exact ⟨RcAt.bool_str _ _ _,RcNeAt.bool_str _ _ _⟩
 |int _ =>
  cases h;obtain ⟨t0,rfl⟩:=r
  cases y with
  |ref _=>cases hy
  |ty _=>cases hy
  |lsf _=>cases hy
  |exc _ _ _=>cases hy
  |dcf _ _=>cases hy
  |tup ys=>obtain ⟨b,us,its',rfl,rfl,q',rs',vr',it',_⟩:=wE I h' r';exact ⟨RcAt.int_tuple _ _ it' h0,RcNeAt.int_tuple _ _ it' h0⟩
  |non=>cases h';cases r';exact ⟨RcAt.int_none _ _,RcNeAt.int_none _ _⟩
  |bl _=>cases h';cases r';exact ⟨RcAt.int_bool _ _ _,RcNeAt.int_bool _ _ _⟩
  |int _=>cases h';obtain ⟨t,rfl⟩:=r';exact ⟨RcAt.int_int _ _ _ _,RcNeAt.int_int _ _ _ _⟩
  |str _=>cases h';obtain ⟨t,rfl⟩:=r';exact ⟨RcAt.int_str _ _ _ _,RcNeAt.int_str _ _ _ _⟩
 |str _ =>
  cases h;obtain ⟨t0,rfl⟩:=r
  cases y with
  |ref _=>cases hy
  |ty _=>cases hy
  |lsf _=>cases hy
  |exc _ _ _=>cases hy
  |dcf _ _=>cases hy
  |tup ys=>obtain ⟨b,us,its',rfl,rfl,q',rs',vr',it',_⟩:=wE I h' r';exact ⟨RcAt.str_tuple _ _ it' h0,RcNeAt.str_tuple _ _ it' h0⟩
  |non=>cases h';cases r';exact ⟨RcAt.str_none _ _,RcNeAt.str_none _ _⟩
  |bl _=>cases h';cases r';exact ⟨RcAt.str_bool _ _ _,RcNeAt.str_bool _ _ _⟩
  |int _=>cases h';obtain ⟨t,rfl⟩:=r';exact ⟨RcAt.str_int _ _ _ _,RcNeAt.str_int _ _ _ _⟩
  |str _=>cases h';obtain ⟨t,rfl⟩:=r';exact ⟨RcAt.str_str _ _ _ _,RcNeAt.str_str _ _ _ _⟩
theorem zbS (I:Inv X pins σ H s) {G:Hw} {p:Addr} {ws:List W} (ab:xS X.K H G) (e:yS G p=some ws):∃ vs its,nE X.K H p vs/\zF X.K H ws vs/\zE vs its/\s.heap.IsList p its.toArray/\PlainL s.heap p its.toArray/\ws.length<=sizeLine:=by
 obtain ⟨vs,q,r⟩:=ab.seq e;obtain ⟨its,vr,pl,hl⟩:=I.list q;exact ⟨vs,its,q,r,vr,(let ⟨o,n,h1,h2,_,h3⟩:=pl;⟨o,h1,h2,n,h3⟩),pl,by rw [← r.length];exact hl⟩
theorem zjm (I:Inv X pins σ H s) {G:Hw} {p q:Addr} {xs ys:List W} {A:Around} (ab:xS X.K H G) (e:yS G p=some xs) (e':yS G q=some ys) (hx:jI xs=true) (hy:jI ys=true) (hu:A.units+1+min (kC xs) (kC ys)<cLine) :
  RcAt A s (.ref p) (.ref q) (vU xs ys)/\RcNeAt A s (.ref p) (.ref q) (!vU xs ys):=by
 obtain ⟨vs,its,_,rs,vr,il,_⟩:=zbS I ab e;obtain ⟨us,its',_,rs',vr',il',_⟩:=zbS I ab e';have h0:A.units<cLine:=by omega
 have l1:its.toArray.size=xs.length:=by rw [zzS,← vr.length,rs.length]
 have l2:its'.toArray.size=ys.length:=by rw [zzS,← vr'.length,rs'.length]
 have key:∀ (j:Nat) (j1:j<its.toArray.size) (j2:j<its'.toArray.size),EqAt A.in1 s its.toArray[j] its'.toArray[j] (sK xs ys j):=fun j j1 j2 =>
  zdX I rs vr rs' vr' hx hy (A:=A.in1) hu j (by simpa using j1) (by simpa using j2)
 by_cases hl:xs.length=ys.length
 .rw [← zdU hl,← l1];exact ⟨RcAt.lists il il' (by omega) h0 key,RcNeAt.lists il il' (by omega) h0 key⟩
 .rw [zfE hl];have:(its.toArray.size != its'.toArray.size)=true:=by simp only [bne_iff_ne];omega
  exact ⟨RcAt.lists_lengths il il' this h0,RcNeAt.lists_lengths il il' this h0⟩
end
end L3
namespace PySem
open Sem (wp)
open Builtin
theorem bM:fillsNumberSlot (.type "tuple") "mul" = pure false :=
 fillsNumberSlot_seq (id := "tuple.__mul__") (r:=some (.builtin "tuple.__rmul__")) F.slot_tuple_mul.lookup (by decide +kernel) F.slot_tuple_rmul.lookup (by decide +kernel)
theorem bN:seqRepeat? (.type "tuple")=pure (some (.builtin "tuple.__mul__")):=by
 unfold seqRepeat?;rw [seqSlot_of (T := "tuple") (name := "__mul__") (id := "tuple.__mul__") F.slot_tuple_mul.lookup (by decide +kernel),seqSlot_of (T := "tuple") (name := "__rmul__") (id := "tuple.__rmul__") F.slot_tuple_rmul.lookup (by decide +kernel)];rfl
theorem zcO (a:Int) (t:Tok) (l:Addr) (items:Array Value) (n:Nat) (dd:Option Addr) (sl:Array (Option Value)) :
  Meets (Builtin.«int.__rmul__» ⟨[.int a t,.ref l],[]⟩) (fun _ R s=>s.heap.get? l=some { cls:=.type "tuple", dict:=dd,data:=.seq items n,slots:=sl }/\R (.ok (.ret Value.notImplemented)) s) :=
 .of_wp fun prog w A R s h=>by obtain ⟨hp,g,d,tk,os⟩:=s;obtain ⟨hl,h⟩:=h;wp_walk;exact ⟨_,rfl,h⟩
theorem ziM (l:Addr) (items:Array Value) (n:Nat) (u:Tok) (dd:Option Addr) (sl:Array (Option Value)) :
  Meets (Builtin.«tuple.__mul__» ⟨[.ref l,.int 1 u],[]⟩) (fun _ R s=>s.heap.get? l=some { cls:=.type "tuple", dict:=dd,data:=.seq items n,slots:=sl }/\R (.ok (.ret (Value.ref l))) s) :=
 .of_wp fun prog w A R s h=>by obtain ⟨hp,g,d,tk,os⟩:=s;obtain ⟨hl,h⟩:=h;wp_walk;exact ⟨_,rfl,h⟩
theorem zgL (l:Addr) (items:Array Value) (n:Nat) (u:Tok) (dd:Option Addr) (sl:Array (Option Value)) (hi:items.isEmpty=false) :
  Meets (Builtin.«tuple.__mul__» ⟨[.ref l,.int 0 u],[]⟩) (fun _ R s=>s.heap.get? l=some { cls:=.type "tuple", dict:=dd,data:=.seq items n,slots:=sl }/\R (.ok (.ret (Value.ref s.heap.objs.size))) { s with heap:=s.heap.push { cls:=.type "tuple", data:=.seq #[] } }) :=
 .of_wp fun prog w A R s h=>by obtain ⟨hp,g,d,tk,os⟩:=s;obtain ⟨hl,h⟩:=h;wp_walk;exact ⟨_,rfl,h⟩
end PySem
namespace L3
open PySem PySem.Spec PyProof.Rows L2
section
variable {X : Cx}
def rRepT (K:yJ):R2:=fun x y H Q=>∃ a k xs,x=.ref a/\y=.int k/\rM K H a xs/\((k=1/\Q (.ref a) H)\/(k=0/\xs≠[]/\∀ p,H p=none->Q (.ref p) (xL H p (.tup []))))
theorem zhq:vS X (binaryOp .Mult) (rRepT X.K):=by
 intro pins s σ H x y v u Q I rx ry h;obtain ⟨a,k,xs,rfl,rfl,ha,h⟩:=h;cases rx;obtain ⟨t,rfl⟩:=ry;obtain ⟨its,r1,p1,_⟩:=I.tuple ha;obtain ⟨⟨cls,dd,data,sl⟩,ho,hc,n,hd⟩:=id p1;simp only at hc hd;subst hc hd;rcases h with ⟨rfl,q⟩|⟨rfl,hx,q⟩
 .exact wpAny_binaryOp_repeat_ref (T := "tuple") (U := "int") (by decide) ⟨_,ho,rfl⟩ (fun s'=>typeIs_int s' 1 t) bM F.fills_int_mul F.slot_int_rmul bN F.slot_int_index.lookup
   (call_meets F.slot_int_rmul (typeIs_int s 1 t) F.entry_int_rmul (F.args_int_rmul_2 _ _) (zcO 1 t a its.toArray n dd sl)
    ⟨ho,rfl,⟨_,ho,rfl⟩,call_meets F.slot_tuple_mul ⟨_,ho,rfl⟩ F.entry_tuple_mul (F.args_tuple_mul_2 _ _) (ziM a its.toArray n t dd sl) ⟨ho,.ref a,H,I,rfl,q⟩⟩)
 .have he:its.toArray.isEmpty=false:=by
   cases its with
   |nil=>exact absurd (r1.nil_iff.mp rfl) hx
   |cons _ _=>rfl
  refine wpAny_binaryOp_repeat_ref (T := "tuple") (U := "int") (by decide) ⟨_,ho,rfl⟩ (fun s'=>typeIs_int s' 0 t) bM F.fills_int_mul F.slot_int_rmul bN F.slot_int_index.lookup
   (call_meets F.slot_int_rmul (typeIs_int s 0 t) F.entry_int_rmul (F.args_int_rmul_2 _ _) (zcO 0 t a its.toArray n dd sl)
    ⟨ho,rfl,⟨_,ho,rfl⟩,call_meets F.slot_tuple_mul ⟨_,ho,rfl⟩ F.entry_tuple_mul (F.args_tuple_mul_2 _ _) (zgL a its.toArray n t dd sl he) ⟨ho,?_⟩⟩)
  refine ⟨.ref s.heap.objs.size,_,I.laid (t':=s.toks) (o:=.tup []) (fun b ob q=>Heap.get?_push_of_some _ q) (zzR _) ?_,rfl,q _ (I.hok.fresh (zzR _))⟩;exact ⟨Nat.zero_le _,[],.nil,IsTup.new _ _⟩
def rRepS:R2:=fun x y H Q=>∃ i k,x=.str i/\y=.int k/\((k=1/\Q (.str i) H)\/(k=0/\Q (.str Str.empty) H))
theorem zhr:vS X (binaryOp .Mult) rRepS:=by
 intro pins s σ H x y v u Q I rx ry h;obtain ⟨i,k,rfl,rfl,h⟩:=h;obtain ⟨t,rfl⟩:=rx;obtain ⟨t2,rfl⟩:=ry;rcases h with ⟨rfl,q⟩|⟨rfl,q⟩
 .refine PySem.P.mul_str (by decide) (fun _ z=>absurd z (by simp)) (fun _ z=>absurd z (by simp)) ?_;rw [if_neg (by decide),if_pos (by simp)];exact ⟨.str i,H,I,⟨t,rfl⟩,q⟩
 .exact PySem.P.mul_str_none (by decide) (by decide) ⟨.str Str.empty,H,I.tok _ (Nat.lt_succ_of_lt I.tk),⟨_,rfl⟩,q⟩
end
end L3
namespace L3
open PySem PySem.Spec PyProof.Rows L2 PySem.SeqAt
abbrev R3:=W->W->Hw->Q3->Prop
def vC (K:yJ) (H:Hp) (Q:VK):Q3:=fun w G'=>∀ v H',yI K H H'->xJ K H' w v->xS K H' G'->Q v H'
def mF (r:R3):Prop:=∀ x y G (Q Q':Q3),(∀ w G',Q w G'->Q' w G')->r x y G Q->r x y G Q'
def nQ (K:yJ) (r:R3):R2:=fun v u H Q=>∃ x y G,xJ K H x v/\xJ K H y u/\xS K H G/\r x y G (vC K H Q)
def jY:Operator->R3
 | .Add=>fun x y G Q=>match x,y with
  | .int i,.int j=>Q (.int (i+j)) G
  | .str a,.str b=>a.length+b.length<=sizeLine/\Q (.str (a++b)) G
  | .tup a,.tup b=>a.length+b.length<=sizeLine/\Q (.tup (a++b)) G
  | .ref p,.ref q=>(match G p,G q with
   |some (.lst xs),some (.lst ys)=>xs.length+ys.length<=sizeLine/\∀ r,G r=none->Q (.ref r) (put G r (.lst (xs++ys)))
   |_,_=>False)
  |_,_=>False
 | .Sub=>fun x y G Q=>match x,y with
  | .int i,.int j=>Q (.int (i-j)) G
  |_,_=>False
 | .Mult=>fun x y G Q=>match x,y with
  | .int i,.int j=>CMul i j/\Q (.int (i * j)) G
  | .tup xs,.int k=>(k=1/\Q (.tup xs) G)\/(k=0/\xs≠[]/\Q (.tup []) G)
  | .str a,.int k=>(k=1/\Q (.str a) G)\/(k=0/\Q (.str Str.empty) G)
  | .ref p,.int k=>(match G p with
   |some (.lst xs)=>(-(2 ^ 63)<=k/\k<2 ^ 63/\xs.length * k.toNat<=sizeLine)/\∀ r,G r=none->Q (.ref r) (put G r (.lst (List.replicate k.toNat xs).flatten))
   |_=>False)
  |_,_=>False
 | .Mod=>fun x y G Q=>match x,y with
  | .int i,.int j=>0<j/\Q (.int (i % j)) G
  |_,_=>False
 | .FloorDiv=>fun x y G Q=>match x,y with
  | .int i,.int j=>CDiv i j/\Q (.int (i / j)) G
  |_,_=>False
 | .Pow=>fun x y G Q=>match x,y with
  | .int i,.int j=>CPow i j/\Q (.int (i ^ j.toNat)) G
  |_,_=>False
 |_=>fun _ _ _ _=>False
theorem zaP:∀ op,mF (jY op):=by
 intro op x y G Q Q' k h
 cases op with
 |Add =>
  cases x with
  |int i=>cases y with
   |int j=>exact k _ _ h
   |_=>exact h.elim
  |str i=>cases y with
   |str j=>exact ⟨h.1,k _ _ h.2⟩
   |_=>exact h.elim
  |tup a=>cases y with
   |tup b=>exact ⟨h.1,k _ _ h.2⟩
   |_=>exact h.elim
  |ref p=>cases y with
   |ref q =>
    simp only [jY] at h ⊢
    split at h
    .exact ⟨h.1,fun r hr=>k _ _ (h.2 r hr)⟩
    .exact h.elim
   |_=>exact h.elim
  |_=>exact h.elim
 |Mult =>
  cases x with
  |int i=>cases y with
   |int j=>exact ⟨h.1,k _ _ h.2⟩
   |_=>exact h.elim
  |tup a=>cases y with
   |int j=>exact h.imp (fun z=>⟨z.1,k _ _ z.2⟩) fun z=>⟨z.1,z.2.1,k _ _ z.2.2⟩
   |_=>exact h.elim
  |str a=>cases y with
   |int j=>exact h.imp (fun z=>⟨z.1,k _ _ z.2⟩) fun z=>⟨z.1,k _ _ z.2⟩
   |_=>exact h.elim
  |ref p=>cases y with
   |int q =>
    simp only [jY] at h ⊢
    split at h
    .exact ⟨h.1,fun r hr=>k _ _ (h.2 r hr)⟩
    .exact h.elim
   |_=>exact h.elim
  |_=>exact h.elim
 |Sub =>
  cases x with
  |int i=>cases y with
   |int j=>exact k _ _ h
   |_=>exact h.elim
  |_=>exact h.elim
 |Mod =>
  cases x with
  |int i=>cases y with
   |int j=>exact ⟨h.1,k _ _ h.2⟩
   |_=>exact h.elim
  |_=>exact h.elim
 |FloorDiv =>
  cases x with
  |int i=>cases y with
   |int j=>exact ⟨h.1,k _ _ h.2⟩
   |_=>exact h.elim
  |_=>exact h.elim
 |Pow =>
  cases x with
  |int i=>cases y with
   |int j=>exact ⟨h.1,k _ _ h.2⟩
   |_=>exact h.elim
  |_=>exact h.elim
 |_=>exact h.elim
section
variable {X : Cx}
theorem zF.nil_iff {K:yJ} {H:Hp} {ws:List W} {vs:List V} (h:zF K H ws vs):vs=[]↔ws=[]:=by
 have:=h.length
 constructor
 .intro e;subst e;exact List.eq_nil_of_length_eq_zero this.symm
 .intro e;subst e;exact List.eq_nil_of_length_eq_zero this
theorem zim {pins:List (Addr×Obj)} {s:Shared} {σ:L2.St} {H:Hp} {a b:Addr} {Q:Value->Shared->Prop} {E:Value->Shared->Prop} {ws:List Value} (ht:IsTup s.heap a #[]) (hb:IsTup s.heap b ws.toArray) (h:Q (.ref b) s) :
  wpAny (model X.prog X.w) X.A (binaryOp .Add (.ref a) (.ref b)) Q E s:=by
 obtain ⟨⟨cls,dd,data,sl⟩,ho,hc,n,hd⟩:=id ht;obtain ⟨⟨cls2,dd2,data2,sl2⟩,ho2,hc2,n2,hd2⟩:=id hb;simp only at hc hd hc2 hd2;subst hc hd hc2 hd2
 exact concat_meets ⟨_,ho,rfl⟩ ⟨_,ho2,rfl⟩ noFill_tuple_add seq_tuple_add PySem.F.slot_tuple_add PySem.F.entry_tuple_add (PySem.F.args_tuple_add_2 _ _)
  (tuple_addW0 a b #[] ws.toArray n n2 dd dd2 sl sl2 rfl) ⟨ho,ho2,h⟩
theorem qL {K:yJ} {H:Hp} {G:Hw} {Q:VK} {ws:List W} {vs:List V} (ab:xS K H G) (r:zF K H ws vs) (h:∀ p,G p=none->vC K H Q (.ref p) (put G p (.lst ws))):∀ p,H p=none->Q (.ref p) (xL H p (.lst vs)):=fun p hp =>
 h p (ab.free hp) _ _ (xF hp) rfl (ab.new hp ⟨vs,rfl,r.mono (xF hp)⟩)
theorem gO {K:yJ} {H:Hp} {G:Hw} {Q:VK} {ws:List W} {vs:List V} (ab:xS K H G) (r:zF K H ws vs) (h:vC K H Q (.tup ws) G):∀ p,H p=none->Q (.ref p) (xL H p (.tup vs)):=fun p hp =>
 h _ _ (xF hp) ⟨p,vs,rfl,.of wY,r.mono (xF hp)⟩ (ab.tup hp)
theorem zF.flat {K:yJ} {H:Hp} {ws:List W} {vs:List V} (h:zF K H ws vs):∀ k:Nat,zF K H (List.replicate k ws).flatten (List.replicate k vs).flatten
 | 0=>rfl
 |k+1=>by rw [List.replicate_succ,List.replicate_succ,List.flatten_cons,List.flatten_cons];exact h.append (zF.flat h k)
theorem zkX (op:Operator):vS X (binaryOp op) (nQ X.K (jY op)):=by
 intro pins s σ H v u a b Q I rv ru h;obtain ⟨x,y,G,rx,ry,ab,h⟩:=h
 cases op with
 |Add =>
  cases x with
  |int i =>
   cases y with
   |int j=>cases rx;cases ry;exact zjO pins s σ H _ _ _ _ Q I rv ru ⟨i,j,rfl,rfl,h _ _ .refl rfl ab⟩
   |_=>exact h.elim
  |str i =>
   cases y with
   |str j=>cases rx;cases ry;exact zcg pins s σ H _ _ _ _ Q I rv ru ⟨i,j,rfl,rfl,h.1,h.2 _ _ .refl rfl ab⟩
   |_=>exact h.elim
  |tup xs =>
   cases y with
   |tup ys =>
    obtain ⟨a1,vs,its,rfl,rfl,q,rs,vr,it,_⟩:=wE I rx rv;obtain ⟨b1,us,its',rfl,rfl,q',rs',vr',it',_⟩:=wE I ry ru
    by_cases e:xs=[]
    .subst e;have e1:vs=[]:=(rs.nil_iff).mpr rfl;subst e1;cases vr;exact zim (pins:=pins) (σ:=σ) (H:=H) it it' ⟨.ref b1,H,I,rfl,h.2 _ _ .refl ⟨b1,us,rfl,q',rs'⟩ ab⟩
    .refine zht pins s σ H (.ref a1) (.ref b1) _ _ Q I rfl rfl ⟨a1,b1,vs,us,rfl,rfl,q,q',fun z=>e (rs.nil_iff.mp z),by rw [rs.length,rs'.length];exact h.1,fun z=>?_,fun _=>?_⟩
     .have:ys=[]:=rs'.nil_iff.mp z;subst this;exact h.2 _ _ .refl ⟨a1,vs,rfl,q,by rw [List.append_nil];exact rs⟩ ab
     .exact gO ab (rs.append rs') h.2
   |_=>exact h.elim
  |ref p =>
   cases y with
   |ref q =>
    cases rx;cases ry;simp only [jY] at h
    split at h
    .rename_i xs ys e1 e2;obtain ⟨vs,q1,r1⟩:=ab.lst e1;obtain ⟨us,q2,r2⟩:=ab.lst e2;exact zjN pins s σ H _ _ _ _ Q I rv ru ⟨p,q,vs,us,rfl,rfl,q1,q2,by rw [r1.length,r2.length];exact h.1,qL ab (r1.append r2) h.2⟩
    .exact h.elim
   |_=>exact h.elim
  |_=>exact h.elim
 |Sub =>
  cases x with
  |int i =>
   cases y with
   |int j=>cases rx;cases ry;exact zjI pins s σ H _ _ _ _ Q I rv ru ⟨i,j,rfl,rfl,h _ _ .refl rfl ab⟩
   |_=>exact h.elim
  |_=>exact h.elim
 |Mult =>
  cases x with
  |int i =>
   cases y with
   |int j=>cases rx;cases ry;exact zjL pins s σ H _ _ _ _ Q I rv ru ⟨i,j,rfl,rfl,h.1,h.2 _ _ .refl rfl ab⟩
   |_=>exact h.elim
  |tup xs =>
   cases y with
   |int k =>
    obtain ⟨a1,vs,its,rfl,rfl,q,rs,vr,it,_⟩:=wE I rx rv;cases ry;refine zhq pins s σ H (.ref a1) (.int k) _ _ Q I rfl ru ⟨a1,k,vs,rfl,rfl,q,?_⟩;rcases h with ⟨e,h⟩|⟨e,hx,h⟩
    .exact .inl ⟨e,h _ _ .refl ⟨a1,vs,rfl,q,rs⟩ ab⟩
    .exact .inr ⟨e,fun z=>hx (rs.nil_iff.mp z),gO ab (ws:=[]) (vs:=[]) rfl h⟩
   |_=>exact h.elim
  |str i =>
   cases y with
   |int k =>
    cases rx;cases ry;exact zhr pins s σ H _ _ _ _ Q I rv ru ⟨i,k,rfl,rfl,h.imp (fun z=>⟨z.1,z.2 _ _ .refl rfl ab⟩) fun z=>⟨z.1,z.2 _ _ .refl rfl ab⟩⟩
   |_=>exact h.elim
  |ref p =>
   cases y with
   |int k =>
    cases rx;cases ry;simp only [jY] at h
    split at h
    .rename_i xs e1;obtain ⟨vs,q1,r1⟩:=ab.lst e1;exact zjJ pins s σ H _ _ _ _ Q I rv ru ⟨p,k,vs,rfl,rfl,q1,h.1.1,h.1.2.1,by rw [r1.length];exact h.1.2.2,qL ab (r1.flat _) h.2⟩
    .exact h.elim
   |_=>exact h.elim
  |_=>exact h.elim
 |Mod =>
  cases x with
  |int i =>
   cases y with
   |int j=>cases rx;cases ry;exact zjM pins s σ H _ _ _ _ Q I rv ru ⟨i,j,rfl,rfl,h.1,h.2 _ _ .refl rfl ab⟩
   |_=>exact h.elim
  |_=>exact h.elim
 |FloorDiv =>
  cases x with
  |int i =>
   cases y with
   |int j=>cases rx;cases ry;exact zhs pins s σ H _ _ _ _ Q I rv ru ⟨i,j,rfl,rfl,h.1,h.2 _ _ .refl rfl ab⟩
   |_=>exact h.elim
  |_=>exact h.elim
 |Pow =>
  cases x with
  |int i =>
   cases y with
   |int j=>cases rx;cases ry;exact zjK pins s σ H _ _ _ _ Q I rv ru ⟨i,j,rfl,rfl,h.1,h.2 _ _ .refl rfl ab⟩
   |_=>exact h.elim
  |_=>exact h.elim
 |_=>exact h.elim
end
theorem dL {k:Str}:∀ {es:List DictEntry} {ks:List Str} {vs:List V},ziz es ks vs->(es.all fun e=>isExactStrKey e.key)=true/\(match (ks.zip vs).lookup k with
  |some v=>∃ u,(es.find? fun e=>e.key.isStr k).map (·.val)=some u/\zA v u
  |none=>(es.find? fun e=>e.key.isStr k).map (·.val)=none)
 | [],ks,vs,h=>by obtain ⟨rfl,rfl⟩:=h;exact ⟨rfl,rfl⟩
 |e::r,ks,vs,h=>by
  obtain ⟨x,t,v,ks',vs',rfl,rfl,hk,hv,hr⟩:=h;have ih:=dL (k:=k) hr;refine ⟨by rw [List.all_cons,hk,ih.1];rfl,?_⟩;rw [List.zip_cons_cons,List.lookup_cons,List.find?_cons,KTD.key_is hk k]
  by_cases hx:k=x
  .subst hx;simp only [beq_self_eq_true,decide_true];exact ⟨e.val,rfl,hv⟩
  .have e1:(k==x)=false:=by simpa using hx
   rw [e1,decide_eq_false hx];exact ih.2
theorem zdA {X:Cx} {pins:List (Addr×Obj)} {σ:L2.St} {H:Hp} {s:Shared} {a:Addr} {ks:List Str} {vs:List V} {k:Str} {tk:Tok} {A:Around} {Q:Option Value->Shared->Prop} {E:Value->Shared->Prop} (I:Inv X pins σ H s) (h:KD X.K a ks vs)
  (q:match (ks.zip vs).lookup k with|some v=>∀ u s',zA v u->Inv X pins σ H s'->Q (some u) s'|none=>∀ s',Inv X pins σ H s'->Q none s'):wpAny (model X.prog X.w) A (dictGet a (.str k tk)) Q E s:=by
 obtain ⟨o,es,ep,l,_,hd,_,_,hr⟩:=h;have ho:=I.kIn _ _ l;obtain ⟨hx,hf⟩:=dL (k:=k) hr;have J:Inv X pins σ H { s with toks:=s.toks+1 }:=I.tok _;unfold dictGet
 try with_reducible refine wpAny_holding ?_
 refine wpAny_bind (wpAny_pyHash_str (wpAny_bind ?_));refine KTD.kt_dictFind_strs (s:={ s with toks:=s.toks+1 }) ho hd (by obtain ⟨es'⟩:=es;simpa using hx) ?_
 have key:Q (findBy (fun k v=>v.isStr k) es k) { s with toks:=s.toks+1 }:=by
  have e:findBy (fun k v=>v.isStr k) es k=(es.toList.find? fun e=>e.key.isStr k).map (·.val):=by obtain ⟨es'⟩:=es;simp [findBy]
  rw [e];revert q hf
  cases (ks.zip vs).lookup k with
  |some v=>intro q hf;obtain ⟨u,e1,r⟩:=hf;rw [e1];exact q u _ r J
  |none=>intro q hf;rw [hf];exact q _ J
 rw [findBy_of_findIdx?] at key;revert key
 cases es.findIdx? fun e=>e.key.isStr k with
 |none=>exact fun key=>wpAny_pure key
 |some i=>exact fun key=>wpAny_bind (wpAny_dictEntries (s:={ s with toks:=s.toks+1 }) ho hd (wpAny_pure key))
theorem zfm {X:Cx} {pins:List (Addr×Obj)} {σ:L2.St} {H:Hp} {s:Shared} {a:Addr} {ks:List Str} {vs:List V} (I:Inv X pins σ H s) (h:KD X.K a ks vs):s.TypeIs (.ref a) "dict" := by
 obtain ⟨o,es,ep,l,hc,_⟩:=h;exact ⟨o,I.kIn _ _ l,hc.1⟩
theorem kM {K:yJ} {H:Hp} {k:Str} {w:W}:∀ {ks:List Str} {ws:List W} {vs:List V},zF K H ws vs->(ks.zip ws).lookup k=some w->∃ v,(ks.zip vs).lookup k=some v/\xJ K H w v
 | [],ws,vs,_,e=>by simp at e
 |x::ks,[],vs,_,e=>by simp at e
 |x::ks,y::ws,vs,r,e=>by
  obtain ⟨v,vs',rfl,rv,rs⟩:=r;rw [List.zip_cons_cons,List.lookup_cons] at e ⊢
  cases hx:(k==x) with
  |true=>rw [hx] at e;cases e;exact ⟨v,rfl,rv⟩
  |false=>rw [hx] at e;exact kM rs e
theorem tN {K:yJ} {H:Hp} {k:Str}:∀ {ks:List Str} {ws:List W} {vs:List V},zF K H ws vs->(ks.zip ws).lookup k=none->(ks.zip vs).lookup k=none
 | [],ws,vs,_,e=>by simp
 |x::ks,[],vs,r,e=>by rw [show vs=[] from r];rfl
 |x::ks,y::ws,vs,r,e=>by
  obtain ⟨v,vs',rfl,rv,rs⟩:=r;rw [List.zip_cons_cons,List.lookup_cons] at e ⊢
  cases hx:(k==x) with
  |true=>rw [hx] at e;cases e
  |false=>rw [hx] at e;exact tN rs e
theorem zgl {X:Cx} {pins:List (Addr×Obj)} {σ:L2.St} {H:Hp} {s:Shared} {a:Addr} {ks:List Str} {vs:List V} {k:Str} {tk:Tok} {A:Around} {Q:Bool->Shared->Prop} {E:Value->Shared->Prop} (I:Inv X pins σ H s) (h:KD X.K a ks vs)
  (q:∀ s',Inv X pins σ H s'->Q ((ks.zip vs).lookup k).isSome s'):wpAny (model X.prog X.w) A (contains (.ref a) (.str k tk)) Q E s:=by
 have hT:=zfm I h;have hd:(a==sysModules)=false:=by obtain ⟨o,es,ep,l,_,_,_,z,_⟩:=h;exact z
 have nn:¬ ((some (Value.builtin "dict.__contains__")==some Value.none)=true):=by rw [beq_builtin_none];simp
 unfold contains;refine wpAny_holding (wpAny_bind (wpAny_specialOf hT PySem.F.slot_dict_contains.lookup ?_));dsimp only;rw [if_neg nn];refine wpAny_bind (wpAny_callSpecialUnlessNone?_slot (name:=Str.ofString "__contains__") hT PySem.F.slot_dict_contains (wpAny_call_entry PySem.F.slot_dict_contains hT PySem.F.entry_dict_contains (show wpAny _ _ (dictGet a (.str k tk) >>= _) _ _ s from wpAny_bind (zdA I h ?_)) (PySem.F.args_dict_contains_2 _ _)));revert q
 cases (ks.zip vs).lookup k with
 |some v=>exact fun q u s' r J=>wpAny_pure ⟨_,rfl,wpAny_truthy_bool (q s' J)⟩
 |none=>exact fun q s' J=>wpAny_bind (wpAny_pendingKey_other hd (wpAny_pure ⟨_,rfl,wpAny_truthy_bool (q s' J)⟩))
def eqG (G:Hw):W->W->Option Bool
 | .ref p,.ref q=>match yS G p,yS G q with
  |some a,some b=>if (jI a&&jI b&&decide (min (kC a) (kC b)<=150))=true then some (vU a b) else none
  |_,_=>none
 |x,y=>if (pur x&&pur y&&decide (min (dep x) (dep y)<=150))=true then some (jM x y) else none
def inR (neg:Bool) (x:W) (ws:List W) (G:Hw) (Q:Q3):Prop:=(pur x=true/\jI ws=true/\min (kC ws) (dep x)<=150)/\Q (.bl (if neg then !ws.any fun w=>jM w x else ws.any fun w=>jM w x)) G
def zhT (neg:Bool) (i j:Str):Bool:=if neg then !(!(Builtin.Str.occurrences j i 0 j.length 1).isEmpty) else !(Builtin.Str.occurrences j i 0 j.length 1).isEmpty
def zcm:W->Option yC
 | .int i=>some (.inl i)
 | .str x=>some (.inr x)
 |_=>none
def hasK {α:Type} (kvs:List (yC×α)) (k:yC):Bool:=kvs.any fun p=>decide (p.1=k)
def pT (neg:Bool):R3:=fun x y G Q=>match y with
 | .tup ws=>inR neg x ws G Q
 | .ref p=>(match G p with
  |some (.lst ws)=>inR neg x ws G Q
  |some (.fix ws)=>inR neg x ws G Q
  |some (.dic kvs)=>(match zcm x with|some k=>Q (.bl (if neg then !hasK kvs k else hasK kvs k)) G|none=>False)
  |_=>False)
 | .str j=>(match x with
  | .str i=>Q (.bl (zhT neg i j)) G
  |_=>False)
 | .dcf ks ws=>(match x with
  | .str k=>Q (.bl (if neg then !((ks.zip ws).lookup k).isSome else ((ks.zip ws).lookup k).isSome)) G
  |_=>False)
 |_=>False
def isR (neg:Bool):R3:=fun x y G Q=>match y with
 | .non=>Q (.bl (if neg then (match x with|.non=>false|_=>true) else (match x with|.non=>true|_=>false))) G
 | .bl b=>Q (.bl (if neg then (match x with|.bl c=>!(c==b)|_=>true) else (match x with|.bl c=>c==b|_=>false))) G
 |_=>False
def sP (p:Int->Int->Bool) (q:Option (Str->Str->Bool):=none):R3:=fun x y G Q=>match x,y with
 | .int i,.int j=>Q (.bl (p i j)) G
 | .str i,.str j=>(match q with
  |some q=>Q (.bl (q i j)) G
  |none=>False)
 |_,_=>False
def ltS (x y:Str):Bool:=decide (x.cps.toList<y.cps.toList)
def leS (x y:Str):Bool:=!decide (y.cps.toList<x.cps.toList)
def leR:R3:=fun x y G Q=>match x,y with
 | .int i,.int j=>Q (.bl (decide (i<=j))) G
 | .str i,.str j=>Q (.bl (leS i j)) G
 |_,_=>False
def yM:CmpOp->R3
 | .Eq=>fun x y G Q=>match eqG G x y with|some b=>Q (.bl b) G|none=>False
 | .NotEq=>fun x y G Q=>match eqG G x y with|some b=>Q (.bl (!b)) G|none=>False
 | .Is=>isR false
 | .IsNot=>isR true
 | .In=>pT false
 | .NotIn=>pT true
 | .Lt=>sP (fun i j=>decide (i<j)) (some ltS)
 | .LtE=>leR
 | .Gt=>sP fun i j=>decide (j<i)
 | .GtE=>sP fun i j=>decide (j<=i)
theorem nY (p:Int->Int->Bool) (q:Option (Str->Str->Bool)):mF (sP p q):=by
 intro x y G Q Q' k h;cases q<;>cases x<;>cases y<;>simp only [sP] at h ⊢<;>first|exact h.elim|exact k _ _ h
theorem zff:mF leR:=by
 intro x y G Q Q' k h;cases x<;>cases y<;>simp only [leR] at h ⊢<;>first|exact h.elim|exact k _ _ h
theorem zan (neg:Bool):mF (pT neg):=by
 intro x y G Q Q' k h;unfold pT at h ⊢
 cases y with
 |tup ws=>exact ⟨h.1,k _ _ h.2⟩
 |ref p =>
  simp only at h ⊢
  split at h
  .exact ⟨h.1,k _ _ h.2⟩
  .exact ⟨h.1,k _ _ h.2⟩
  .split at h
   .exact k _ _ h
   .exact h.elim
  .exact h.elim
 |str j =>
  cases x with
  |str i=>exact k _ _ h
  |_=>exact h.elim
 |dcf ks ws =>
  cases x with
  |str i=>exact k _ _ h
  |_=>exact h.elim
 |_=>exact h.elim
theorem zbW (neg:Bool):mF (isR neg):=by
 intro x y G Q Q' k h;unfold isR at h ⊢
 cases y with
 |non=>exact k _ _ h
 |bl b=>exact k _ _ h
 |_=>exact h.elim
theorem xW:∀ op,mF (yM op):=by
 intro op x y G Q Q' k h
 cases op with
 |Eq =>
  simp only [yM] at h ⊢
  split at h
  .exact k _ _ h
  .exact h.elim
 |NotEq =>
  simp only [yM] at h ⊢
  split at h
  .exact k _ _ h
  .exact h.elim
 |Is=>exact zbW false x y G Q Q' k h
 |IsNot=>exact zbW true x y G Q Q' k h
 |In=>exact zan false x y G Q Q' k h
 |NotIn=>exact zan true x y G Q Q' k h
 |Lt=>exact nY (fun i j=>decide (i<j)) (some ltS) x y G Q Q' k h
 |LtE=>exact zff x y G Q Q' k h
 |Gt=>exact nY (fun i j=>decide (j<i)) none x y G Q Q' k h
 |GtE=>exact nY (fun i j=>decide (j<=i)) none x y G Q Q' k h
section
variable {X : Cx} {pins : List (Addr × Obj)} {σ : L2.St} {H : Hp} {s : Shared}
open Classical in
def eqI (K:yJ) (H:Hp) (x:W) (y:Value):Bool:=if ∃ w v,xJ K H w v/\zA v y/\pur w=true/\jM w x=true then true else false
theorem zdV (I:Inv X pins σ H s) {x w:W} {v:V} {y:Value} (r:xJ X.K H w v) (q:zA v y) (p:pur w=true):eqI X.K H x y=jM w x:=by
 unfold eqI
 cases e:jM w x with
 |true=>rw [if_pos ⟨w,v,r,q,p,e⟩]
 |false =>
  rw [if_neg];rintro ⟨w',v',r',q',p',e'⟩;have:=zA.inj q q';subst this;rw [zc8 I w' w v r' r p' p,e] at e';cases e'
theorem zdW (I:Inv X pins σ H s) {x:W}:∀ {ws:List W} {vs:List V} {us:List Value},zF X.K H ws vs->zE vs us->jI ws=true->us.any (eqI X.K H x)=ws.any fun w=>jM w x:=by
 intro ws
 induction ws with
 |nil=>intro vs us h r _;rw [show _=[] from h] at r;cases r;rfl
 |cons w ws ih =>
  intro vs us h r p;obtain ⟨v,t,e,h,hs⟩:=h;subst e
  cases r with
  |cons r rs =>
   have p':=wX.mp p;rw [List.any_cons,List.any_cons,zdV I h r p'.1,ih hs rs p'.2]
theorem zgr (I:Inv X pins σ H s) {x:W} {vx:V} {ux:Value} {A:Around} (rx:xJ X.K H x vx) (qx:zA vx ux) (px:pur x=true):∀ {ws:List W} {vs:List V} {us:List Value},zF X.K H ws vs->zE vs us->jI ws=true->A.units+min (kC ws) (dep x)<cLine ->
  ∀ y∈us,EqAt A s y ux (eqI X.K H x y):=by
 intro ws
 induction ws with
 |nil=>intro vs us h r _ _ y hy;rw [show _=[] from h] at r;cases r;cases hy
 |cons w ws ih =>
  intro vs us h r p hu y hy;obtain ⟨v,t,e,h,hs⟩:=h;subst e;simp only [kC] at hu
  cases r with
  |cons r rs =>
   have p':=wX.mp p;rcases List.mem_cons.mp hy with e|hy
   .subst e;rw [zdV I h r p'.1];exact zgu I w x v vx _ ux A h r rx qx p'.1 px (by omega)
   .exact ih hs rs p'.2 (by omega) y hy
theorem zbe {M:Model} {A:Around} {E:Value->Shared->Prop} {Q:Value->Shared->Prop} {v:Value} {b:Bool} (hb:∀ p,v≠.builtin p) (h:Q (.bool (v==.bool b)) s):wpAny M A (compareOp .Is v (.bool b)) Q E s:=by
 cases v<;>first|exact wpAny_pure h|exact absurd rfl (hb _)
theorem dE {M:Model} {A:Around} {E:Value->Shared->Prop} {Q:Value->Shared->Prop} {v:Value} {b:Bool} (hb:∀ p,v≠.builtin p) (h:Q (.bool (!(v==.bool b))) s):wpAny M A (compareOp .IsNot v (.bool b)) Q E s:=by
 cases v<;>first|exact wpAny_pure h|exact absurd rfl (hb _)
theorem zf1 {v:V} {u:Value} (r:zA v u):∀ p,u≠.builtin p:=by
 cases v<;>first
  | (obtain ⟨t,e⟩:=r;subst e;intro p z;cases z)
  | (intro p z;subst z;cases r)
theorem zkA (neg:Bool):vS X (compareOp (if neg then .IsNot else .Is)) (nQ X.K (isR neg)):=by
 intro pins s σ H v u a b Q I rv ru h;obtain ⟨x,y,G,rx,ry,ab,h⟩:=h;have fin:∀ k k':Bool,vC X.K H Q (.bl k) G->k=k'->EP X pins σ Q (.bool k') s:=fun k k' q e=>⟨.bl k',H,I,rfl,by rw [← e];exact q _ _ .refl rfl ab⟩
 cases y with
 |non =>
  cases ry;cases ru
  cases neg with
  |false =>
   refine is_none_gen (fin _ _ h ?_)
   cases x<;>first
    | (cases rx;cases rv;rfl)
    | (cases rx;obtain ⟨t,rfl⟩:=rv;rfl)
    | (obtain ⟨_,_,rfl,_⟩:=rx;cases rv;rfl)
  |true =>
   refine isnot_none_gen (fin _ _ h ?_)
   cases x<;>first
    | (cases rx;cases rv;rfl)
    | (cases rx;obtain ⟨t,rfl⟩:=rv;rfl)
    | (obtain ⟨_,_,rfl,_⟩:=rx;cases rv;rfl)
 |bl c =>
  cases ry;cases ru
  cases neg with
  |false =>
   refine zbe (zf1 rv) (fin _ _ h ?_)
   cases x<;>first
    | (cases rx;cases rv;rfl)
    | (cases rx;cases rv;rename_i d;cases c<;>cases d<;>rfl)
    | (cases rx;obtain ⟨t,rfl⟩:=rv;rfl)
    | (obtain ⟨_,_,rfl,_⟩:=rx;cases rv;rfl)
  |true =>
   refine dE (zf1 rv) (fin _ _ h ?_)
   cases x<;>first
    | (cases rx;cases rv;rfl)
    | (cases rx;cases rv;rename_i d;cases c<;>cases d<;>rfl)
    | (cases rx;obtain ⟨t,rfl⟩:=rv;rfl)
    | (obtain ⟨_,_,rfl,_⟩:=rx;cases rv;rfl)
 |_=>exact h.elim
theorem zfk {K:yJ} {H:Hp} {y:W} {v:V} {k:yC} (r:xJ K H y v) (h:zcm y=some k):v=kV k:=by
 cases y<;>cases h<;>exact r
theorem zdG {K:yJ} {H:Hp} {k:yC}:∀ {l:List (yC×W)} {l':List (yC×V)},yR K H l l'->(uL l' k).isSome=hasK l k
 | [],_,h=>by rw [show _=[] from h];rfl
 |p::r,_,⟨v,t,e,h,hr⟩=>by
  have ih:=zdG (k:=k) hr;subst e;unfold uL hasK at ih ⊢;rw [List.find?_cons,List.any_cons]
  cases decide (p.1=k) with
  |true=>rfl
  |false=>exact ih
theorem gL (us:List Value) (e:Value->Bool):us.toArray.any e=us.any e:=by simp
theorem zgh (neg:Bool) (hu:X.A.units+200<cLine):vS X (compareOp (if neg then .NotIn else .In)) (nQ X.K (pT neg)):=by
 intro pins s σ H v u a b Q I rv ru h;obtain ⟨x,y,G,rx,ry,ab,h⟩:=h;have fin:∀ k:Bool,vC X.K H Q (.bl k) G->EP X pins σ Q (.bool k) s:=fun k q=>⟨.bl k,H,I,rfl,q _ _ .refl rfl ab⟩
 have sq:∀ (p:Addr) (ws:List W) (vs:List V) (its:List Value),zF X.K H ws vs->zE vs its->(s.heap.IsTuple p its.toArray\/s.heap.IsList p its.toArray)->inR neg x ws G (vC X.K H Q) ->
   wpAny (model X.prog X.w) X.A (compareOp (if neg then .NotIn else .In) a (.ref p)) (EP X pins σ Q) X.xe s:=fun p ws vs its rs vr ht hin=>by
  obtain ⟨⟨p1,p2,p3⟩,q⟩:=hin;have he:∀ y,y∈its.toArray->EqAt X.A.in1 s y a (eqI X.K H x y):=fun y hy=>zgr I rx rv p1 rs vr p2 (by show X.A.units+1+_<_;omega) y (by simpa using hy);have ea:=zdW I (x:=x) rs vr p2
  cases neg with
  |false =>
   rcases ht with ht|ht
   .exact in_tupleAt _ ht he (by rw [gL,ea];exact fin _ q)
   .exact in_listAt _ ht he (by rw [gL,ea];exact fin _ q)
  |true =>
   rcases ht with ht|ht
   .exact notIn_tupleAt _ ht he (by rw [gL,ea];exact fin _ q)
   .exact notIn_listAt _ ht he (by rw [gL,ea];exact fin _ q)
 cases y with
 |tup ws =>
  obtain ⟨b1,us,its',rfl,rfl,q',rs',vr',it',_⟩:=wE I ry ru;exact sq b1 ws us its' rs' vr' (.inl it') h
 |ref p =>
  cases ry;cases ru
  have lk:∀ ws,yS G p=some ws->inR neg x ws G (vC X.K H Q)->wpAny (model X.prog X.w) X.A (compareOp (if neg then .NotIn else .In) a (.ref p)) (EP X pins σ Q) X.xe s:=fun ws e q=>by
   obtain ⟨vs,its,_,rs,vr,il,_⟩:=zbS I ab e;exact sq p ws vs its rs vr (.inr il) q
  simp only [pT] at h
  split at h
  .rename_i ws e;exact lk ws (by unfold yS;rw [e]) h
  .rename_i ws e;exact lk ws (by unfold yS;rw [e]) h
  .rename_i kvs e
   split at h
   .rename_i kk ek;obtain ⟨l,e1,rk⟩:=ab.dic e;have ev:=zfk rx ek;subst ev;have hs:(uL l kk).isSome=hasK kvs kk:=zdG rk;have dg:DGet H p (kV kk) (uL l kk):=.inl ⟨l,kk,.inl e1,rfl,rfl⟩
    cases neg with
    |false=>exact d_in (by omega) I dg rv fun s' I'=>⟨.bl (uL l kk).isSome,H,I',rfl,by rw [hs];exact h _ H .refl rfl ab⟩
    |true=>exact zii (by omega) I dg rv fun s' I'=>⟨.bl (!(uL l kk).isSome),H,I',rfl,by rw [hs];exact h _ H .refl rfl ab⟩
   .exact h.elim
  .exact h.elim
 |str j =>
  cases x with
  |str i =>
   cases rx;cases ry
   cases neg with
   |false=>exact zdg pins s σ H _ _ _ _ Q I rv ru ⟨i,j,rfl,rfl,h _ _ .refl rfl ab⟩
   |true=>exact zak pins s σ H _ _ _ _ Q I rv ru ⟨i,j,rfl,rfl,h _ _ .refl rfl ab⟩
  |_=>exact h.elim
 |dcf ks ws =>
  cases x with
  |str k =>
   obtain ⟨a1,vs,rfl,kd,rs⟩:=ry;obtain rfl:b=Value.ref a1:=ru;cases rx;obtain ⟨tk,rfl⟩:=rv
   have hs:((ks.zip vs).lookup k).isSome=((ks.zip ws).lookup k).isSome:=by
    cases e:(ks.zip ws).lookup k with
    |none=>rw [tN rs e];rfl
    |some w=>obtain ⟨v,e',_⟩:=kM rs e;rw [e'];rfl
   cases neg with
   |false =>
    show wpAny _ _ (contains (.ref a1) (.str k tk) >>= fun z=>pure (Value.bool z)) _ _ _;exact wpAny_bind (zgl I kd fun s' J=>wpAny_pure ⟨.bl _,H,J,rfl,by rw [hs];exact h _ _ .refl rfl ab⟩)
   |true =>
    show wpAny _ _ (contains (.ref a1) (.str k tk) >>= fun z=>pure (Value.bool (!z))) _ _ _;exact wpAny_bind (zgl I kd fun s' J=>wpAny_pure ⟨.bl _,H,J,rfl,by rw [hs];exact h _ _ .refl rfl ab⟩)
  |_=>exact h.elim
 |_=>exact h.elim
theorem zdf {op:CmpOp} {p:Int->Int->Bool} {f:Option (Str->Str->Bool)} (ho:vS X (compareOp op) (rI0 fun i j=>.bl (p i j)))
  (hq:∀ q,f=some q->∀ (i j:Str) (t t':Tok) (s:Shared) (Q:Value->Shared->Prop),Q (.bool (q i j)) s->wpAny (model X.prog X.w) X.A (compareOp op (.str i t) (.str j t')) Q X.xe s:=by (intro _ z;cases z)):vS X (compareOp op) (nQ X.K (sP p f)):=by
 intro pins s σ H v u a b Q I rv ru h;obtain ⟨x,y,G,rx,ry,ab,h⟩:=h
 cases x with
 |int i =>
  cases y with
  |int j=>cases rx;cases ry;exact ho pins s σ H _ _ _ _ Q I rv ru ⟨i,j,rfl,rfl,h _ _ .refl rfl ab⟩
  |_=>exact h.elim
 |str i =>
  cases y with
  |str j =>
   cases f with
   |none=>exact h.elim
   |some q =>
    cases rx;cases ry;obtain ⟨t,rfl⟩:=rv;obtain ⟨t',rfl⟩:=ru;exact hq q rfl i j t t' s _ ⟨.bl (q i j),H,I,rfl,h _ _ .refl rfl ab⟩
  |_=>exact h.elim
 |_=>exact h.elim
theorem le_ok:vS X (compareOp .LtE) (nQ X.K leR):=by
 intro pins s σ H v u a b Q I rv ru h;obtain ⟨x,y,G,rx,ry,ab,h⟩:=h
 cases x with
 |int i =>
  cases y with
  |int j=>cases rx;cases ry;exact op_le pins s σ H _ _ _ _ Q I rv ru ⟨i,j,rfl,rfl,h _ _ .refl rfl ab⟩
  |_=>exact h.elim
 |str i =>
  cases y with
  |str j =>
   cases rx;cases ry;obtain ⟨t,rfl⟩:=rv;obtain ⟨t',rfl⟩:=ru;exact PySem.P.le_str ⟨.bl (leS i j),H,I,rfl,h _ _ .refl rfl ab⟩
  |_=>exact h.elim
 |_=>exact h.elim
theorem zgt (I:Inv X pins σ H s) (hu:X.A.units+200<cLine) {G:Hw} {x y:W} {v v':V} {u u':Value} {b:Bool} (ab:xS X.K H G) (h:xJ X.K H x v) (r:zA v u) (h':xJ X.K H y v') (r':zA v' u') (e:eqG G x y=some b) :
  RcAt X.A s u u' b/\RcNeAt X.A s u u' (!b):=by
 have gen:∀ (hh:(if (pur x&&pur y&&decide (min (dep x) (dep y)<=150))=true then some (jM x y) else none)=some b),RcAt X.A s u u' b/\RcNeAt X.A s u u' (!b):=fun hh=>by
  split at hh
  .rename_i c;simp only [Bool.and_eq_true,decide_eq_true_eq] at c;cases hh;exact zjl I x y v v' u u' X.A h r h' r' c.1.1 c.1.2 (by omega)
  .cases hh
 cases x with
 |ref p =>
  cases y with
  |ref q =>
   simp only [eqG] at e
   split at e
   .rename_i a1 b1 e1 e2
    split at e
    .rename_i c;simp only [Bool.and_eq_true,decide_eq_true_eq] at c;cases e;cases h;cases h';cases r;cases r';exact zjm I ab e1 e2 c.1.1 c.1.2 (by omega)
    .cases e
   .cases e
  |_=>exact gen e
 |_=>cases y<;>exact gen e
theorem qQ (hu:X.A.units+200<cLine) (op:CmpOp):vS X (compareOp op) (nQ X.K (yM op)):=by
 cases op with
 |Eq =>
  intro pins s σ H v u a b Q I rv ru h;obtain ⟨x,y,G,rx,ry,ab,h⟩:=h;simp only [yM] at h
  split at h
  .rename_i k e;exact (zgt I hu ab rx rv ry ru e).1 _ _ _ _ ⟨.bl k,H,I,rfl,h _ _ .refl rfl ab⟩
  .exact h.elim
 |NotEq =>
  intro pins s σ H v u a b Q I rv ru h;obtain ⟨x,y,G,rx,ry,ab,h⟩:=h;simp only [yM] at h
  split at h
  .rename_i k e;exact (zgt I hu ab rx rv ry ru e).2 _ _ _ _ ⟨.bl (!k),H,I,rfl,h _ _ .refl rfl ab⟩
  .exact h.elim
 |Is=>exact zkA false
 |IsNot=>exact zkA true
 |In=>exact zgh false hu
 |NotIn=>exact zgh true hu
 |Lt=>exact zdf (f:=some ltS) op_lt fun q e i j t t' s Q z=>by cases e;exact lt_str z
 |LtE=>exact le_ok
 |Gt=>exact zdf (f:=none) op_gt
 |GtE=>exact zdf (f:=none) op_ge
end
end L3
namespace L3
open PySem PySem.Spec PyProof.Rows L2 HT
section
variable {prog : Program} {w : World} {A : Around} {E : Value → Shared → Prop} {s : Shared}
theorem zdM {t sl:Addr} {items:Array Value} {vl vu:Value} {lo hi:Option Int} {Q:Value->Shared->Prop} (ht:IsTup s.heap t items) (hs:s.heap.IsSliceOf sl vl vu .none) (pl:IsPart vl lo) (pu:IsPart vu hi)
  (hw:wJ items.size 0 lo=0/\wJ items.size items.size hi=items.size) (h:Q (.ref t) s):wpAny (model prog w) A (getItem (.ref t) (.ref sl)) Q E s:=by
 obtain ⟨os,hos,hcs,hds⟩:=id hs;have hTs:s.TypeIs (.ref sl) "slice" := ⟨os,hos,hcs⟩;unfold getItem
 try with_reducible refine wpAny_holding ?_
 first|refine wpAny_bind (wpAny_pure ?_)|skip
 refine wpAny_bind (wpAny_sequenceKey ht.typeIs (by decide) ?_)
 refine wpAny_bind (wpAny_callSpecial?_slot (name:=Str.ofString "__getitem__") ht.typeIs PyProof.Rows.slot_tuple_getitem
  (wpAny_call_entry PyProof.Rows.slot_tuple_getitem ht.typeIs entry_tuple_getitem ?_ (args_tuple_getitem _ _)))
 show wpAny _ _ (Builtin.Tuple.tupleItemsOf (.ref t) >>= _) _ _ s;refine wpAny_bind (tupleItemsOf_ ht ?_);refine wpAny_bind (wpAny_typeOf hTs ?_);rw [if_pos (by decide)];refine wpAny_bind (kA hs pl pu ?_)
 have yes:(((wJ items.size 0 lo:Nat):Int)==0&&(1:Int)==1&&(wJ items.size items.size hi-wJ items.size 0 lo)==items.size)=true:=by
  rw [hw.1,hw.2];simp
 show wpAny _ _ (if (((wJ items.size 0 lo:Nat):Int)==0&&(1:Int)==1&&(wJ items.size items.size hi-wJ items.size 0 lo)==items.size)=true then _ else _) _ _ s;rw [if_pos yes];refine wpAny_bind (m:=Builtin.Tuple.tupleIsExact (.ref t)) ?_;unfold Builtin.Tuple.tupleIsExact;refine wpAny_bind (wpAny_typeOf ht.typeIs (wpAny_pure ?_));rw [if_pos (by decide)];exact wpAny_bind (wpAny_rule (wpAny_pure ⟨_,rfl,wpAny_pure h⟩))
end
section
variable {X : Cx}
def rSlW (K:yJ):V->Option Int->Option Int->Hp->VK->Prop:=fun x lo hi H Q=>∃ a xs,x=.ref a/\rM K H a xs/\(HT.wJ xs.length 0 lo=0/\HT.wJ xs.length xs.length hi=xs.length)/\Q (.ref a) H
theorem zeH:SlR X (rSlW X.K):=by
 intro pins s σ H x v vl vu lo hi sl Q I rx hs pl pu h;obtain ⟨a,xs,rfl,hx,hw,q⟩:=h;cases rx;obtain ⟨its,r,ht,hz⟩:=I.tuple hx;have hlen:its.toArray.size=xs.length:=by rw [zzS];exact r.length.symm
 exact ⟨"tuple", _,PyProof.Rows.slot_tuple_getitem.lookup,ht.typeIs,zdM ht hs pl pu (by rw [hlen];exact hw) ⟨.ref a,H,I,rfl,q⟩⟩
end
end L3
namespace L3
open PySem PySem.Spec PyProof.Rows L2 PySem.SeqAt
def kR (G:Hw):W->Option Bool
 | .non=>some false
 | .bl b=>some b
 | .int i=>some (i != 0)
 | .str y=>if y.length<=sizeLine then some ((y.length:Int) != 0) else none
 | .tup ws=>some (!ws.isEmpty)
 | .ref p=>match G p with
  |some (.lst ws)=>some (!ws.isEmpty)
  |some (.fix ws)=>some (!ws.isEmpty)
  |some (.dic kvs)=>some (!kvs.isEmpty)
  |_=>none
 |_=>none
theorem zF.empty {K:yJ} {H:Hp} {ws:List W} {vs:List V} (h:zF K H ws vs):vs.isEmpty=ws.isEmpty:=by
 have:=h.length;cases ws<;>cases vs<;>simp_all
theorem yR.length {K:yJ} {H:Hp} {κ:Type}:∀ {l:List (κ×W)} {l':List (κ×V)},yR K H l l'->l'.length=l.length
 | [],_,h=>by rw [show _=[] from h];rfl
 |_::_,_,⟨v,t,e,_,r⟩=>by rw [e,List.length_cons,List.length_cons,yR.length r]
theorem zgJ {K:yJ} {H:Hp} {G:Hw} {w:W} {v:V} {k:Bool} (r:xJ K H w v) (ab:xS K H G) (h:kR G w=some k):TruV K v H k:=by
 cases w with
 |non=>cases r;cases h;rfl
 |bl b=>cases r;cases h;rfl
 |int i=>cases r;cases h;rfl
 |str y =>
  cases r;simp only [kR] at h
  split at h
  .rename_i c;cases h;exact ⟨c,rfl⟩
  .cases h
 |ty n=>cases h
 |lsf n=>cases h
 |exc _ _ _=>cases h
 |dcf _ _=>cases h
 |tup ws =>
  obtain ⟨a,vs,rfl,q,rs⟩:=r;cases h;exact .inr (.inl ⟨vs,q,by rw [rs.empty]⟩)
 |ref p =>
  cases r
  have lk:∀ ws,yS G p=some ws->k=!ws.isEmpty->TruV K (.ref p) H k:=fun ws e q=>by
   obtain ⟨vs,sq,rs⟩:=ab.seq e;exact .inl ⟨vs,sq,by rw [rs.empty];exact q⟩
  simp only [kR] at h
  split at h
  .rename_i ws e;cases h;exact lk ws (by unfold yS;rw [e]) rfl
  .rename_i ws e;cases h;exact lk ws (by unfold yS;rw [e]) rfl
  .rename_i kvs e;cases h;obtain ⟨l,e',rk⟩:=ab.dic e;refine .inr (.inr ⟨l,e',?_⟩);have:=rk.length;cases kvs<;>cases l<;>simp_all
  .cases h
def dget {α:Type} (kvs:List (yC×α)) (k:yC):Option α:=(kvs.find? fun kv=>decide (kv.1=k)).map (·.2)
def bW {α:Type} (kvs:List (yC×α)) (k:yC) (v:α):List (yC×α) :=
 if (kvs.any fun kv=>decide (kv.1=k))=true then kvs.map (fun kv=>if kv.1=k then (kv.1,v) else kv) else kvs++[(k,v)]
theorem yR.get {K:yJ} {H:Hp} {k:yC} {w:W}:∀ {l:List (yC×W)} {l':List (yC×V)},yR K H l l'->dget l k=some w->∃ v,uL l' k=some v/\xJ K H w v
 | [],_,h,e=>by cases e
 |p::r,_,⟨v,t,e,h,hr⟩,q=>by
  subst e;unfold dget at q;rw [List.find?_cons] at q;unfold uL;rw [List.find?_cons]
  by_cases hk:p.1=k
  .simp only [hk,decide_true] at q ⊢;cases q;exact ⟨v,rfl,h⟩
  .simp only [hk,decide_false] at q ⊢;exact yR.get hr q
theorem yR.any {K:yJ} {H:Hp} {k:yC}:∀ {l:List (yC×W)} {l':List (yC×V)},yR K H l l'->(l'.any fun kv=>decide (kv.1=k))=l.any fun kv=>decide (kv.1=k)
 | [],_,h=>by rw [show _=[] from h];rfl
 |p::r,_,⟨v,t,e,h,hr⟩=>by subst e;rw [List.any_cons,List.any_cons,yR.any hr]
theorem yR.app {K:yJ} {H:Hp} {κ:Type}:∀ {l:List (κ×W)} {l':List (κ×V)} {m:List (κ×W)} {m':List (κ×V)},yR K H l l'->yR K H m m'->yR K H (l++m) (l'++m')
 | [],_,_,_,h,h'=>by rw [show _=[] from h];exact h'
 |p::r,_,_,_,⟨v,t,e,h,hr⟩,h'=>by rw [e];exact ⟨v,_,rfl,h,yR.app hr h'⟩
theorem yR.repl {K:yJ} {H:Hp} {k:yC} {w:W} {v:V} (q:xJ K H w v):∀ {l:List (yC×W)} {l':List (yC×V)},yR K H l l' ->
  yR K H (l.map fun kv=>if kv.1=k then (kv.1,w) else kv) (l'.map fun kv=>if kv.1=k then (kv.1,v) else kv)
 | [],_,h=>by rw [show _=[] from h];rfl
 |p::r,_,⟨u,t,e,h,hr⟩=>by
  subst e;rw [zzU,zzU]
  by_cases hk:p.1=k
  .simp only [hk,if_true];exact ⟨v,_,rfl,q,yR.repl q hr⟩
  .simp only [hk,if_false];exact ⟨u,_,rfl,h,yR.repl q hr⟩
theorem yR.put {K:yJ} {H:Hp} {k:yC} {w:W} {v:V} {l:List (yC×W)} {l':List (yC×V)} (h:yR K H l l') (q:xJ K H w v):yR K H (bW l k w) (uI l' k v):=by
 unfold bW uI;rw [h.any]
 split
 .exact yR.repl q h
 .exact h.app ⟨v,[],rfl,q,rfl⟩
theorem zdw {K:yJ} {H:Hp} {y:W} {v:V} {k:yC} (r:xJ K H y v) (h:zcm y=some k):v=kV k:=by
 cases y<;>first|(cases h;cases r;rfl)|cases h
theorem ix_kd {X:Cx} {value slice:PySem.Expr} {pins:List (Addr×Obj)} {s:Shared} {σ:L2.St} {H:Hp} {a:Addr} {u:Value} {ks:List Str} {vs:List V} {k:Str} {v:V} {Q:VK} (I:Inv X pins σ H s) (h:KD X.K a ks vs) (ry:zA (.str k) u) (e:(ks.zip vs).lookup k=some v) (q:Q v H)
  (hs:subscripted slice false (.ref a) u=operate [.ref a,u] (getItem (.ref a) u)):wpAny (model X.prog X.w) X.A (subscriptTail value slice (.ref a) u) (EP X pins σ Q) X.xe s:=by
 have hT:=zfm I h;obtain ⟨tk,rfl⟩:=ry;refine tail_any hT PySem.F.slot_dict_getitem.lookup ?_ hs;unfold getItem
 try with_reducible refine wpAny_holding ?_
 refine wpAny_bind (wpAny_sequenceKey hT (by decide) (wpAny_bind ?_));refine wpAny_callSpecial?_slot (name:=Str.ofString "__getitem__") hT PySem.F.slot_dict_getitem (wpAny_call_entry PySem.F.slot_dict_getitem hT PySem.F.entry_dict_getitem ?_ (PySem.F.args_dict_getitem_2 _ _));show wpAny _ _ (dictGet a (.str k tk) >>= _) _ _ s;refine wpAny_bind (zdA I h ?_);rw [e];exact fun u s' r J=>wpAny_pure ⟨u,rfl,wpAny_pure ⟨v,H,J,r,q⟩⟩
def qU:R3:=fun x y G Q=>match x,y with
 | .tup ws,.int i=>(match sE ws i with|some w=>Q w G|none=>False)
 | .str z,.int i=>z.length<=sizeLine/\(match sE z.cps.toList i with|some c=>Q (.str ⟨#[c]⟩) G|none=>False)
 | .ref p,y=>(match G p with
  |some (.lst ws)=>(match y with|.int i=>(match sE ws i with|some w=>Q w G|none=>False)|_=>False)
  |some (.fix ws)=>(match y with|.int i=>(match sE ws i with|some w=>Q w G|none=>False)|_=>False)
  |some (.dic kvs)=>(match zcm y with|some k=>(match dget kvs k with|some w=>Q w G|none=>False)|none=>False)
  |_=>False)
 | .dcf ks ws,.str k=>(match (ks.zip ws).lookup k with|some w=>Q w G|none=>False)
 |_,_=>False
theorem zek {K:yJ} {H:Hp} {ws:List W} {vs:List V} {i:Int} {w:W} (h:zF K H ws vs) (e:sE ws i=some w):∃ v,sE vs i=some v/\xJ K H w v:=by
 unfold sE at e ⊢;rw [h.length]
 cases q:dG ws.length i with
 |none=>rw [q] at e;cases e
 |some j =>
  rw [q] at e;exact h.get e
theorem zbV:mF qU:=by
 intro x y G Q Q' k h
 cases x with
 |tup ws =>
  cases y<;>simp only [qU] at h ⊢<;>first
   |exact h.elim
   | (split at h<;>first|exact k _ _ h|exact h.elim)
 |str z =>
  cases y<;>simp only [qU] at h ⊢<;>first
   |exact h.elim
   | (refine ⟨h.1,?_⟩;have h:=h.2;split at h<;>first|exact k _ _ h|exact h.elim)
 |ref p =>
  simp only [qU] at h ⊢
  split at h
  .cases y<;>simp only at h ⊢<;>first
    |exact h.elim
    | (split at h<;>first|exact k _ _ h|exact h.elim)
  .cases y<;>simp only at h ⊢<;>first
    |exact h.elim
    | (split at h<;>first|exact k _ _ h|exact h.elim)
  .split at h
   .split at h
    .exact k _ _ h
    .exact h.elim
   .exact h.elim
  .exact h.elim
 |dcf ks ws =>
  cases y<;>simp only [qU] at h ⊢<;>first
   |exact h.elim
   | (split at h<;>first|exact k _ _ h|exact h.elim)
 |_=>exact h.elim
section
variable {X : Cx}
theorem zko (hu:X.A.units+200<cLine) {value slice:PySem.Expr} {pins:List (Addr×Obj)} {s:Shared} {σ:L2.St} {H:Hp} {a:Addr} {u:Value} {y v:V} {Q:VK} (I:Inv X pins σ H s) (g:DGet H a y (some v)) (hd:IsD H a) (ry:zA y u) (q:Q v H)
  (hs:subscripted slice false (.ref a) u=operate [.ref a,u] (getItem (.ref a) u)):wpAny (model X.prog X.w) X.A (subscriptTail value slice (.ref a) u) (EP X pins σ Q) X.xe s:=by
 exact tail_any (zkC I hd).1 PySem.F.slot_dict_getitem.lookup (zd5 (by omega) I g ry fun w' s' I' r'=>⟨v,H,I',r',q⟩) hs
theorem ix_ok (hu:X.A.units+200<cLine):IxR X (nQ X.K qU):=by
 intro value slice pins s σ H v u a b Q I rv ru h hs;obtain ⟨x,y,G,rx,ry,ab,h⟩:=h
 cases x with
 |tup ws =>
  cases y with
  |int i =>
   obtain ⟨a1,vs,rfl,q,rs⟩:=rx;cases ry;simp only [qU] at h
   split at h
   .rename_i w e;obtain ⟨vv,ev,rp⟩:=zek rs e;exact zkm value slice pins s σ H _ _ _ _ Q I rv ru ⟨a1,vs,i,vv,rfl,rfl,q,ev,h _ _ .refl rp ab⟩ hs
   .exact h.elim
  |_=>exact h.elim
 |str z =>
  cases y with
  |int i =>
   cases rx;cases ry;simp only [qU] at h;obtain ⟨hz,h⟩:=h
   split at h
   .rename_i c e;exact zkn value slice pins s σ H _ _ _ _ Q I rv ru ⟨z,i,c,rfl,rfl,hz,e,h _ _ .refl rfl ab⟩ hs
   .exact h.elim
  |_=>exact h.elim
 |ref p =>
  cases rx
  have lk:∀ ws i w,yS G p=some ws->y=.int i->sE ws i=some w->vC X.K H Q w G->wpAny (model X.prog X.w) X.A (subscriptTail value slice a b) (EP X pins σ Q) X.xe s:=fun ws i w e ey ew q=>by
   subst ey;obtain ⟨vs,sq,rs⟩:=ab.seq e;obtain ⟨vv,ev,rp⟩:=zek rs ew;cases ry;exact zhG value slice pins s σ H _ _ _ _ Q I rv ru ⟨p,vs,i,vv,rfl,rfl,sq,ev,q _ _ .refl rp ab⟩ hs
  simp only [qU] at h
  split at h
  .rename_i ws e
   cases y with
   |int i =>
    simp only at h
    split at h
    .rename_i w ew;exact lk ws i w (by unfold yS;rw [e]) rfl ew h
    .exact h.elim
   |_=>exact h.elim
  .rename_i ws e
   cases y with
   |int i =>
    simp only at h
    split at h
    .rename_i w ew;exact lk ws i w (by unfold yS;rw [e]) rfl ew h
    .exact h.elim
   |_=>exact h.elim
  .rename_i kvs e
   split at h
   .rename_i k ek
    split at h
    .rename_i w ew;obtain ⟨l,e',rk⟩:=ab.dic e;obtain ⟨vv,ev,rp⟩:=rk.get ew;have ey:=zdw ry ek;subst ey;obtain rfl:a=Value.ref p:=rv;exact zko hu I (.inl ⟨l,k,.inl e',rfl,ev.symm⟩) (.inl ⟨l,.inl e'⟩) ru (h _ _ .refl rp ab) hs
    .exact h.elim
   .exact h.elim
  .exact h.elim
 |dcf ks ws =>
  cases y with
  |str k =>
   obtain ⟨a1,vs,rfl,kd,rs⟩:=rx;obtain rfl:a=Value.ref a1:=rv;cases (show u=.str k from ry);simp only [qU] at h
   split at h
   .rename_i w e;obtain ⟨vv,ev,rp⟩:=kM rs e;exact ix_kd I kd ru ev (h _ _ .refl rp ab) hs
   .exact h.elim
  |_=>exact h.elim
 |_=>exact h.elim
end
def cut {α:Type} (xs:List α) (lo hi:Option Int):List α:=(xs.drop (HT.wJ xs.length 0 lo)).take (HT.wJ xs.length xs.length hi-HT.wJ xs.length 0 lo)
theorem zbh {K:yJ} {H:Hp} {ws:List W} {vs:List V} (h:zF K H ws vs) (lo hi:Option Int):zF K H (cut ws lo hi) (cutV vs lo hi):=by
 unfold cut cutV;rw [h.length];exact (h.drop _).take _
def slR:W->Option Int->Option Int->Hw->Q3->Prop:=fun x lo hi G Q=>match x with
 | .tup ws=>Q (.tup (cut ws lo hi)) G
 | .ref p=>(match yS G p with|some ws=>∀ r,G r=none->Q (.ref r) (put G r (.lst (cut ws lo hi)))|none=>False)
 | .lsf ws=>∀ r,G r=none->Q (.ref r) (put G r (.lst (cut ws lo hi)))
 | .str x=>x.length<=sizeLine/\Q (.str (Txt.slice x lo hi)) G
 |_=>False
theorem zbC {x:W} {lo hi:Option Int} {G:Hw} {Q Q':Q3} (k:∀ w G',Q w G'->Q' w G') (h:slR x lo hi G Q):slR x lo hi G Q':=by
 cases x with
 |tup ws=>exact k _ _ h
 |ref p =>
  simp only [slR] at h ⊢
  split at h
  .exact fun r hr=>k _ _ (h r hr)
  .exact h.elim
 |lsf ws=>exact fun r hr=>k _ _ (h r hr)
 |str x=>exact ⟨h.1,k _ _ h.2⟩
 |_=>exact h.elim
theorem zi4 {X:Cx} {pins:List (Addr×Obj)} {s:Shared} {σ:L2.St} {H:Hp} {x:Str} {v vl vu:Value} {lo hi:Option Int} {sl:Addr} {Q:VK} (I:Inv X pins σ H s) (rv:zA (.str x) v) (hs:s.heap.IsSliceOf sl vl vu .none)
  (pl:IsPart vl lo) (pu:IsPart vu hi) (hz:x.length<=sizeLine) (q:Q (.str (Txt.slice x lo hi)) H):∃ T id,typeLookup (.type T) "__getitem__" = pure (some (.builtin id))/\s.TypeIs v T/\wpAny (model X.prog X.w) X.A (getItem v (.ref sl)) (EP X pins σ Q) X.xe s:=by
 obtain ⟨t,rfl⟩:=rv;have fin:∀ t' k,0<k->EP X pins σ Q (.str (Txt.slice x lo hi) t') { s with toks:=k }:=fun t' k h0=>⟨.str (Txt.slice x lo hi),H,I.tok _ h0,⟨t',rfl⟩,q⟩;have hz':=Nat.le_trans (Txt.slice_le x lo hi) hz;refine ⟨"str", _,F.slot_str_getitem.lookup,typeIs_str _ _ _,?_⟩;obtain ⟨o,ho,hc,hd⟩:=hs
 cases pl with
 |none =>
  cases pu with
  |none=>exact wB I.tk (wpAny_getItem_str_slice (l:=none) (u:=none) (st:=none) ⟨o,ho,hc,hd⟩ rfl (post_val_or_str ⟨hz',fin⟩))
  |int j tj=>exact wB I.tk (wpAny_getItem_str_slice (l:=none) (u:=some (j,tj)) (st:=none) ⟨o,ho,hc,hd⟩ rfl (post_val_or_str ⟨hz',fin⟩))
 |int i ti =>
  cases pu with
  |none=>exact wB I.tk (wpAny_getItem_str_slice (l:=some (i,ti)) (u:=none) (st:=none) ⟨o,ho,hc,hd⟩ rfl (post_val_or_str ⟨hz',fin⟩))
  |int j tj=>exact wB I.tk (wpAny_getItem_str_slice (l:=some (i,ti)) (u:=some (j,tj)) (st:=none) ⟨o,ho,hc,hd⟩ rfl (post_val_or_str ⟨hz',fin⟩))
def lowSl (K:yJ) (r:W->Option Int->Option Int->Hw->Q3->Prop):V->Option Int->Option Int->Hp->VK->Prop:=fun v lo hi H Q=>∃ x G,xJ K H x v/\xS K H G/\r x lo hi G (vC K H Q)
theorem sl_ok {X:Cx}:SlR X (lowSl X.K slR):=by
 intro pins s σ H v u vl vu lo hi sl Q I rv hs pl pu h;obtain ⟨x,G,rx,ab,h⟩:=h
 cases x with
 |tup ws =>
  obtain ⟨a,vs,rfl,q,rs⟩:=rx
  by_cases hw:HT.wJ vs.length 0 lo=0/\HT.wJ vs.length vs.length hi=vs.length
  .have e:cut ws lo hi=ws:=by
    have hw':=hw;rw [rs.length] at hw';unfold cut;rw [hw'.1,hw'.2,List.drop_zero,Nat.sub_zero,List.take_length]
   have h':vC X.K H Q (.tup (cut ws lo hi)) G:=h;rw [e] at h';exact zeH pins s σ H _ _ vl vu lo hi sl Q I rv hs pl pu ⟨a,vs,rfl,q,hw,h' _ _ .refl ⟨a,vs,rfl,q,rs⟩ ab⟩
  .exact zi3 pins s σ H _ _ vl vu lo hi sl Q I rv hs pl pu ⟨a,vs,rfl,q,hw,gO ab (zbh rs lo hi) h⟩
 |ref p =>
  cases rx;simp only [slR] at h
  split at h
  .rename_i ws e;obtain ⟨vs,sq,rs⟩:=ab.seq e;exact zcX pins s σ H _ _ vl vu lo hi sl Q I rv hs pl pu ⟨p,vs,rfl,sq,qL ab (zbh rs lo hi) h⟩
  .exact h.elim
 |lsf ws =>
  obtain ⟨a,vs,rfl,q,rs⟩:=rx;exact zcX pins s σ H _ _ vl vu lo hi sl Q I rv hs pl pu ⟨a,vs,rfl,.inr q,qL ab (zbh rs lo hi) h⟩
 |str x =>
  cases (show v=.str x from rx);exact zi4 I rv hs pl pu h.1 (h.2 _ _ .refl rfl ab)
 |_=>exact h.elim
def setR:W->W->W->Hw->(Hw->Prop)->Prop:=fun o i v G Q=>match o with
 | .ref p=>(match G p with
  |some (.lst ws)=>(match i with|.int k=>(match dG ws.length k with|some j=>Q (put G p (.lst (ws.set j v)))|none=>False)|_=>False)
  |some (.dic kvs)=>(match zcm i with|some k=>kvs.length<sizeLine/\Q (put G p (.dic (bW kvs k v)))|none=>False)
  |_=>False)
 |_=>False
theorem zc0 {o i v:W} {G:Hw} {Q Q':Hw->Prop} (k:∀ G',Q G'->Q' G') (h:setR o i v G Q):setR o i v G Q':=by
 cases o with
 |ref p =>
  simp only [setR] at h ⊢
  split at h
  .cases i<;>simp only at h ⊢<;>first
    |exact h.elim
    | (split at h<;>first|exact k _ h|exact h.elim)
  .split at h
   .exact ⟨h.1,k _ h.2⟩
   .exact h.elim
  .exact h.elim
 |_=>exact h.elim
def zgi (K:yJ):TSet:=fun o i v H Q=>∃ x y z G,xJ K H x o/\xJ K H y i/\xJ K H z v/\xS K H G/\setR x y z G fun G'=>∀ H',yI K H H'->xS K H' G'->Q H'
theorem zi7 {X:Cx} (hu:X.A.units+200<cLine):PSet X (zgi X.K):=by
 intro pins s σ H o i v ov iv u Q I ro ri rv h;obtain ⟨x,y,z,G,rx,ry,rz,ab,h⟩:=h
 cases x with
 |ref p =>
  cases rx;simp only [setR] at h
  split at h
  .rename_i ws e
   cases y with
   |int k =>
    simp only at h
    split at h
    .rename_i j ej;cases ry;obtain ⟨vs,q1,r1⟩:=ab.lst e;refine zeJ pins s σ H _ _ _ _ _ _ Q I ro ri rv ⟨p,vs,k,j,rfl,rfl,q1,by rw [r1.length];exact ej,?_⟩;have g:=ab.grow (u:=.lst (vs.set j v)) e;exact h _ g (ab.chg e ⟨_,rfl,((r1.mono g).set (rz.mono g) j)⟩)
    .exact h.elim
   |_=>exact h.elim
  .rename_i kvs e
   split at h
   .rename_i k ek;obtain ⟨l,e',rk⟩:=ab.dic e;have ey:=zdw ry ek;subst ey;obtain rfl:ov=Value.ref p:=ro;refine zd4 (by omega) I (.inl ⟨l,k,e',rfl,by rw [rk.length];exact h.1,rfl⟩) ri rv fun s' I'=>⟨_,I',?_⟩;have g:=ab.grow (u:=.dK (uI l k v)) e;exact h.2 _ g (ab.chg e ⟨_,rfl,(rk.mono g).put (rz.mono g)⟩)
   .exact h.elim
  .exact h.elim
 |_=>exact h.elim
end L3
namespace L3
open PySem PySem.Spec PyProof.Rows L2
abbrev XQ:=Str->List (Str×W)->Hw->Prop
def XN:XQ:=fun _ _ _=>False
abbrev vP:=List W->Hw->Q3->XQ->Prop
structure Fn3 where
 nm:Str
 sp:vP
structure Mt3 where
 nm:Str
 T:String
 sp:W->List W->Hw->Q3->Prop
abbrev I3:=jE->Hw->(List W->(Hw->Prop)->Hw->Prop)->Prop
structure It3 where
 nm:Str
 sp:List W->Hw->(List W->(Hw->Prop)->Hw->Prop)->Prop
structure Sx3 where
 m:Scope->Expr->Option (List Expr)
 sp:List W->Hw->Q3->Prop
structure Ix3 where
 m:Scope->Expr->Option (List Expr)
 sp:List W->Hw->(List W->(Hw->Prop)->Hw->Prop)->Prop
structure Ctx3 where
 fn:List Fn3
 gl:List (Str×W)
 mt:List Mt3
 it:List It3
 cl:List (Addr×List Str)
 sx:List Sx3
 ix:List Ix3
set_option genInjectivity false
mutual
inductive IE where
 |var (i:Nat)|con (c:Const)|glb (i:Nat)
 |bin (op:Operator) (a b:IE)|neg (a:IE)|not (a:IE)
 |cmp (op:CmpOp) (a b:IE)|chn (o1 o2:CmpOp) (a b c:IE)
 |and (a b:IE)|or (a b:IE)|ite (c a b:IE)
 |ix (a i:IE)|sl (a:IE) (lo hi:IO)
 |tup (es:IEs)|lst (es:IEs)|dct (ks:List Str) (es:IEs)
 |call (f:Nat) (es:IEs)|mth (m:Nat) (o:IE) (es:IEs)|att (o:IE) (f:Str)
 |lc (tg:ITg) (names:List Str) (caps:List Nat) (it:II) (c:IO) (elt:IE)
 |spc (i:Nat) (es:IEs)|ch3 (o1 o2 o3:CmpOp) (a b c d:IE)
inductive IO where
 |no|yes (e:IE)
inductive IEs where
 |nil|cons (e:IE) (es:IEs)
inductive II where
 |val (e:IE)|blt (i:Nat) (es:IEs)|spc (i:Nat) (es:IEs)
inductive ITg where
 |nm (i:Nat)|tup (ts:ITgs)
inductive ITgs where
 |nil|cons (t:ITg) (ts:ITgs)
end
mutual
inductive IS where
 |asg (i:Nat) (e:IE)|asgT (ts:ITgs) (e:IE)|asgI (o i e:IE)|asgA (o:IE) (f:Str) (e:IE)
 |ex (e:IE)|ret (e:IE)|retN|pass|brk|cnt
 |ite (c:IE) (a b:ISs)|whl (c:IE) (b:ISs)|for (tg:ITg) (it:II) (b:ISs)|dead|asgS (i j:Nat) (e:IE)
inductive ISs where
 |nil|cons (s:IS) (ss:ISs)
end
def zI:Const->Option W
 | .none=>some .non
 | .bool b=>some (.bl b)
 | .int i=>some (.int i)
 | .str x=>some (.str x)
 |_=>none
abbrev G3:=W->jE->Hw->(jE->Hw->Prop)->Prop
abbrev Gs3:=List W->jE->Hw->(jE->Hw->Prop)->Prop
mutual
def zW:ITg->G3
 | .nm i=>fun w σ G Q=>Q (σ.set i (some w)) G
 | .tup ts=>fun w σ G Q=>match w with
  | .tup ws=>zY ts ws σ G Q
  |_=>False
def zY:ITgs->Gs3
 | .nil=>fun ws σ G Q=>match ws with | []=>Q σ G|_=>False
 | .cons t ts=>fun ws σ G Q=>match ws with
  |w::r=>zW t w σ G fun σ' G'=>zY ts r σ' G' Q
  | []=>False
end
def unl (G:Hw) (w:W):W:=match w with
 | .ref p=>(match yS G p with|some ws=>.tup ws|none=>.ref p)
 |w=>w
def capS (k:Nat) (caps:List Nat) (σ:jE):jE:=List.replicate k none++caps.map fun j=>(σ[j]?).join
def sgs (x:Str):List W:=x.cps.toList.map fun c=>.str ⟨#[c]⟩
def kW:yC->W
 | .inl i=>.int i
 | .inr x=>.str x
def zd2 (G:Hw) (p:Addr):Option (List (yC×W)):=match G p with
 |some (.dic kvs)=>some kvs
 |some (.fzd kvs)=>some kvs
 |_=>none
def uO (w:W) (G:Hw) (R:List W->(Hw->Prop)->Hw->Prop):Prop:=match w with
 | .tup ws=>R ws (fun _=>True) G
 | .ref p=>(match yS G p with
  |some ws=>R ws (fun G'=>yS G' p=some ws) G
  |none=>(match zd2 G p with
   |some kvs=>R (kvs.map fun kv=>kW kv.1) (fun G'=>G' p=some (.fzd kvs)) (put G p (.fzd kvs))
   |none=>False))
 | .str x=>R (sgs x) (fun _=>True) G
 |_=>False
def lcR (items:List W) (stab:Hw->Prop) (G1:Hw) (turn:W->Hw->(Option W->Hw->Prop)->Prop) (Q:Q3):Prop :=
 ∃ Pv:Nat->List W->Hw->Prop,Pv 0 [] G1/\(∀ i acc G,Pv i acc G->i<=items.length->stab G/\acc.length<=i)/\items.length<=sizeLine /\
  (∀ i w acc G,items[i]?=some w->Pv i acc G->turn w G fun o G'=>match o with|some x=>Pv (i+1) (acc++[x]) G'|none=>Pv (i+1) acc G') /\
  ∀ acc G,Pv items.length acc G->∀ p,G p=none->Q (.ref p) (put G p (.lst acc))
def zJ (w:W) (G:Hw) (Q:Q3):Prop:=match w with|.int i=>Q (.int (-i)) G|_=>False
def yY (w:W) (Q:Bool->Prop):Prop:=match w with|.bl b=>Q b|_=>False
def zK (w:W) (Q:Int->Prop):Prop:=match w with|.int i=>Q i|_=>False
def tyW (G:Hw):W->String->Prop
 | .str _,T=>T = "str"
 | .ref p,T=>match G p with
  |some (.lst _)=>T = "list"
  |some (.fix _)=>T = "list"
  |some (.dic _)=>T = "dict"
  |_=>False
 |_,_=>False
def attR (cl:List (Addr×List Str)) (f:Str) (w:W) (G:Hw) (Q:Q3):Prop:=match w with
 | .ref p=>(match G p with
  |some (.ins C fs)=>(∃ l,(C,l)∈cl/\f∈l)/\(match fs.lookup f with|some v=>Q v G|none=>False)
  |_=>False)
 |_=>False
def zc9 (f:Str) (v:W):List (Str×W)->List (Str×W)
 | []=>[(f,v)]
 | (g,x)::r=>if g=f then (g,v)::r else (g,x)::zc9 f v r
def satR (cl:List (Addr×List Str)) (f:Str) (o v:W) (G:Hw) (Q:Hw->Prop):Prop:=match o with
 | .ref p=>(match G p with
  |some (.ins C fs)=>(∃ l,(C,l)∈cl/\f∈l)/\fs.length<1000/\Q (put G p (.ins C (zc9 f v fs)))
  |_=>False)
 |_=>False
def zih (ks:List Str) (ws:List W):List (yC×W):=(ks.zip ws).foldl (fun acc kv=>bW acc (.inr kv.1) kv.2) []
structure ET where
 e:E3
 t:T3
def zN (e:E3):T3:=fun σ G Q=>e σ G fun w G1=>match kR G1 w with|some b=>Q b G1|none=>False
def yW (e:E3):T3:=fun σ G Q=>e σ G fun w G1=>yY w fun b=>Q b G1
def zC (e:E3):ET:=⟨e,zN e⟩
def yX (e:E3):ET:=⟨e,yW e⟩
def sB:List E3->A3
 | []=>fun _ G Q=>Q [] G
 |e::es=>fun σ G Q=>e σ G fun x G1=>sB es σ G1 fun xs G2=>Q (x::xs) G2
section
variable (Γ : Ctx3)
mutual
def zH (E:XQ):IE->ET
 | .var i=>zC fun σ G Q=>match σ[i]? with|some (some w)=>Q w G|_=>False
 | .con c=>zC fun σ G Q=>match zI c with|some w=>Q w G|none=>False
 | .glb i=>zC fun σ G Q=>match Γ.gl[i]? with|some p=>Q p.2 G|none=>False
 | .bin op a b=>zC fun σ G Q=>(zH E a).e σ G fun x G1=>(zH E b).e σ G1 fun y G2=>jY op x y G2 Q
 | .neg a=>zC fun σ G Q=>(zH E a).e σ G fun x G1=>zJ x G1 Q
 | .not a=>⟨fun σ G Q=>(zH E a).e σ G fun x G1=>yY x fun b=>Q (.bl (!b)) G1,fun σ G Q=>(zH E a).t σ G fun b G1=>Q (!b) G1⟩
 | .cmp op a b=>yX fun σ G Q=>(zH E a).e σ G fun x G1=>(zH E b).e σ G1 fun y G2=>yM op x y G2 Q
 | .chn o1 o2 a b c=>yX fun σ G Q=>(zH E a).e σ G fun x G1=>(zH E b).e σ G1 fun y G2=>yM o1 x y G2 fun z G3=>yY z fun k =>
   if k=true then (zH E c).e σ G3 fun u G4=>yM o2 y u G4 Q else Q (.bl false) G3
 | .and a b=>⟨fun σ G Q=>(zH E a).e σ G fun x G1=>yY x fun k=>if k=true then (zH E b).e σ G1 Q else Q (.bl false) G1,
   fun σ G Q=>(zH E a).t σ G fun k G1=>if k=true then (zH E b).t σ G1 Q else Q false G1⟩
 | .or a b=>⟨fun σ G Q=>(zH E a).e σ G fun x G1=>yY x fun k=>if k=true then Q (.bl true) G1 else (zH E b).e σ G1 Q,
   fun σ G Q=>(zH E a).t σ G fun k G1=>if k=true then Q true G1 else (zH E b).t σ G1 Q⟩
 | .ite c a b=>⟨fun σ G Q=>(zH E c).t σ G fun k G1=>if k=true then (zH E a).e σ G1 Q else (zH E b).e σ G1 Q,fun _ _ _=>False⟩
 | .ix a i=>zC fun σ G Q=>(zH E a).e σ G fun x G1=>(zH E i).e σ G1 fun y G2=>qU x y G2 Q
 | .sl a lo hi=>zC fun σ G Q=>(zH E a).e σ G fun x G1=>zM E lo σ G1 fun l G2=>zM E hi σ G2 fun u G3=>slR x l u G3 Q
 | .tup es=>zC fun σ G Q=>zV E es σ G fun ws G1=>ws.length<=sizeLine/\Q (.tup ws) G1
 | .lst es=>zC fun σ G Q=>zV E es σ G fun ws G1=>ws.length<=sizeLine/\∀ p,G1 p=none->Q (.ref p) (put G1 p (.lst ws))
 | .dct ks es=>zC fun σ G Q=>∀ p,G p=none->zV E es σ (put G p (.dic [])) fun ws G1=>G1 p=some (.dic [])/\ws.length=ks.length/\Q (.ref p) (put G1 p (.dic (zih ks ws)))
 | .call f es=>zC fun σ G Q=>zV E es σ G fun ws G1=>match Γ.fn[f]? with|some h=>h.sp ws G1 Q E|none=>False
 | .mth m o es=>zC fun σ G Q=>(zH E o).e σ G fun x G1=>match Γ.mt[m]? with|some h=>tyW G1 x h.T/\zV E es σ G1 fun ws G2=>h.sp x ws G2 Q|none=>False
 | .att o f=>zC fun σ G Q=>(zH E o).e σ G fun x G1=>attR Γ.cl f x G1 Q
 | .lc tg names caps it c elt=>zC fun σ G Q=>zS E it σ G fun items stab G1 =>
   lcR items stab G1 (fun w G' K=>zW tg w (capS names.length caps σ) G' fun σ2 G2=>zP c σ2 G2 fun b G3=>if b=true then (zH XN elt).e σ2 G3 fun x G4=>K (some x) G4 else K none G3) Q
 | .spc i es=>zC fun σ G Q=>zV E es σ G fun ws G1=>match Γ.sx[i]? with|some h=>h.sp ws G1 Q|none=>False
 | .ch3 o1 o2 o3 a b c d=>yX fun σ G Q=>(zH E a).e σ G fun x G1=>(zH E b).e σ G1 fun y G2=>yM o1 x y G2 fun z G3=>yY z fun k =>
   if k=true then (zH E c).e σ G3 fun u G4=>yM o2 y u G4 fun z2 G5=>yY z2 fun k2 =>
    if k2=true then (zH E d).e σ G5 fun t G6=>yM o3 u t G6 Q else Q (.bl false) G5
   else Q (.bl false) G3
def zM (E:XQ):IO->jE->Hw->(Option Int->Hw->Prop)->Prop
 | .no=>fun _ G Q=>Q none G
 | .yes e=>fun σ G Q=>(zH E e).e σ G fun x G1=>zK x fun i=>Q (some i) G1
def zP:IO->T3
 | .no=>fun _ G Q=>Q true G
 | .yes e=>(zH XN e).t
def zV (E:XQ):IEs->A3
 | .nil=>fun _ G Q=>Q [] G
 | .cons e es=>fun σ G Q=>(zH E e).e σ G fun x G1=>zV E es σ G1 fun xs G2=>Q (x::xs) G2
def zS (E:XQ):II->I3
 | .val e=>fun σ G R=>(zH E e).e σ G fun w G1=>uO w G1 R
 | .blt i es=>fun σ G R=>zV E es σ G fun ws G1=>match Γ.it[i]? with|some h=>h.sp ws G1 R|none=>False
 | .spc i es=>fun σ G R=>zV E es σ G fun ws G1=>match Γ.ix[i]? with|some h=>h.sp ws G1 R|none=>False
end
def semL:IEs->List E3
 | .nil=>[]
 | .cons e es=>(zH Γ XN e).e::semL es
abbrev zT (E:XQ) (e:IE):E3:=(zH Γ E e).e
abbrev zL (E:XQ) (e:IE):T3:=(zH Γ E e).t
def forR (items:List W) (stab:Hw->Prop) (D:End3) (σ:jE) (G1:Hw) (turn:W->End3->jE->Hw->Prop):Prop :=
 ∃ Pv:Nat->jE->Hw->Prop,Pv 0 σ G1/\(∀ i σ G,Pv i σ G->i<=items.length->stab G) /\
  (∀ i w σ G,items[i]?=some w->Pv i σ G->turn w { D with nx:=Pv (i+1),ct:=Pv (i+1),bk:=D.nx } σ G)/\∀ σ G,Pv items.length σ G->D.nx σ G
mutual
def zO (E:XQ):IS->S3
 | .asg i e=>fun D σ G=>zT Γ E e σ G fun w G1=>D.nx (σ.set i (some w)) G1
 | .asgT ts e=>fun D σ G=>zT Γ E e σ G fun w G1=>zW (.tup ts) (unl G1 w) σ G1 D.nx
 | .asgI o i e=>fun D σ G=>zT Γ E e σ G fun w G1=>zT Γ E o σ G1 fun x G2=>zT Γ E i σ G2 fun y G3=>setR x y w G3 fun G4=>D.nx σ G4
 | .asgA o f e=>fun D σ G=>zT Γ E e σ G fun w G1=>zT Γ E o σ G1 fun x G2=>satR Γ.cl f x w G2 fun G3=>D.nx σ G3
 | .ex e=>fun D σ G=>zT Γ E e σ G fun _ G1=>D.nx σ G1
 | .ret e=>fun D σ G=>zT Γ E e σ G D.rt
 | .retN=>fun D _ G=>D.rt .non G
 | .pass=>fun D σ G=>D.nx σ G
 | .brk=>fun D σ G=>D.bk σ G
 | .cnt=>fun D σ G=>D.ct σ G
 | .ite c a b=>fun D σ G=>zL Γ E c σ G fun k G1=>if k=true then zG E a D σ G1 else zG E b D σ G1
 | .whl c b=>fun D σ G=>∃ Pv:Nat->jE->Hw->Prop,(∃ m,Pv m σ G)/\∀ m σ G,Pv m σ G->zL Γ E c σ G fun k G1 =>
   if k=true then zG E b { D with nx:=fun σ' G'=>∃ m',m' < m/\Pv m' σ' G',ct:=fun σ' G'=>∃ m',m' < m/\Pv m' σ' G',bk:=D.nx } σ G1 else D.nx σ G1
 | .for tg it b=>fun D σ G=>zS Γ E it σ G fun items stab G1=>forR items stab D σ G1 fun w D' σ' G'=>zW tg w σ' G' fun σ2 G2=>zG E b D' σ2 G2
 | .dead=>fun _ _ _=>False
 | .asgS i j e=>fun D σ G=>zT Γ E e σ G fun w G1=>match w with
  | .tup (x::r)=>r.length<=1000/\∀ p,G1 p=none->D.nx ((σ.set i (some x)).set j (some (.ref p))) (put G1 p (.lst r))
  |_=>False
def zG (E:XQ):ISs->S3
 | .nil=>fun D σ G=>D.nx σ G
 | .cons s ss=>fun D σ G=>zO E s { D with nx:=zG E ss D } σ G
end
end
theorem uB (Γ:Ctx3):∀ es:IEs,zV Γ XN es=sB (semL Γ es)
 | .nil=>rfl
 | .cons e es=>by
  show (fun (σ:jE) (G:Hw) (Q:List W->Hw->Prop)=>(zH Γ XN e).e σ G fun x G1=>zV Γ XN es σ G1 fun xs G2=>Q (x::xs) G2)=_;rw [uB Γ es];rfl
structure TabMono (Γ:Ctx3):Prop where
 fn:∀ f∈Γ.fn,∀ ws G (Q Q':Q3) E,(∀ w G',Q w G'->Q' w G')->f.sp ws G Q E->f.sp ws G Q' E
 mt:∀ m∈Γ.mt,∀ x ws G (Q Q':Q3),(∀ w G',Q w G'->Q' w G')->m.sp x ws G Q->m.sp x ws G Q'
 it:∀ m∈Γ.it,∀ ws G (R R':List W->(Hw->Prop)->Hw->Prop),(∀ a b c,R a b c->R' a b c)->m.sp ws G R->m.sp ws G R'
 sx:∀ m∈Γ.sx,∀ ws G (Q Q':Q3),(∀ w G',Q w G'->Q' w G')->m.sp ws G Q->m.sp ws G Q'
 ix:∀ m∈Γ.ix,∀ ws G (R R':List W->(Hw->Prop)->Hw->Prop),(∀ a b c,R a b c->R' a b c)->m.sp ws G R->m.sp ws G R'
def zk6 (t:I3):Prop:=∀ σ G (R R':List W->(Hw->Prop)->Hw->Prop),(∀ a b c,R a b c->R' a b c)->t σ G R->t σ G R'
def zk5 (t:jE->Hw->(Option Int->Hw->Prop)->Prop):Prop:=∀ σ G (Q Q':Option Int->Hw->Prop),(∀ a b,Q a b->Q' a b)->t σ G Q->t σ G Q'
theorem kU {w:W} {Q Q':Bool->Prop} (k:∀ b,Q b->Q' b) (h:yY w Q):yY w Q':=by
 cases w<;>first|exact k _ h|exact h.elim
theorem zay {w:W} {Q Q':Int->Prop} (k:∀ b,Q b->Q' b) (h:zK w Q):zK w Q':=by
 cases w<;>first|exact k _ h|exact h.elim
theorem zdk {w:W} {G:Hw} {Q Q':Q3} (k:∀ w G,Q w G->Q' w G) (h:zJ w G Q):zJ w G Q':=by
 cases w<;>first|exact k _ _ h|exact h.elim
theorem zei {cl:List (Addr×List Str)} {f:Str} {w:W} {G:Hw} {Q Q':Q3} (k:∀ w G,Q w G->Q' w G) (h:attR cl f w G Q):attR cl f w G Q':=by
 cases w with
 |ref p =>
  simp only [attR] at h ⊢
  split at h
  .refine ⟨h.1,?_⟩;have h2:=h.2
   split at h2
   .exact k _ _ h2
   .exact h2.elim
  .exact h.elim
 |_=>exact h.elim
theorem dF {w:W} {G:Hw} {R R':List W->(Hw->Prop)->Hw->Prop} (k:∀ a b c,R a b c->R' a b c) (h:uO w G R):uO w G R':=by
 cases w with
 |tup ws=>exact k _ _ _ h
 |ref p =>
  simp only [uO] at h ⊢
  split at h
  .exact k _ _ _ h
  .split at h
   .exact k _ _ _ h
   .exact h.elim
 |str x=>exact k _ _ _ h
 |_=>exact h.elim
theorem zfg {items:List W} {stab:Hw->Prop} {G1:Hw} {turn:W->Hw->(Option W->Hw->Prop)->Prop} {Q Q':Q3} (k:∀ w G,Q w G->Q' w G) (h:lcR items stab G1 turn Q):lcR items stab G1 turn Q':=by
 obtain ⟨Pv,h0,h1,h2,h3,h4⟩:=h;exact ⟨Pv,h0,h1,h2,h3,fun acc G hp p hn=>k _ _ (h4 acc G hp p hn)⟩
theorem zcN {e:E3} (m:jX e):tE (zN e):=fun σ G Q Q' k h=>m σ G _ _ (fun w G1 q=>by
 split at q
 .exact k _ _ q
 .exact q.elim) h
theorem zfN {e:E3} (m:jX e):tE (yW e):=fun σ G Q Q' k h=>m σ G _ _ (fun w G1 q=>kU (fun b=>k b G1) q) h
theorem xV {e:E3} (m:jX e):jX (zC e).e/\tE (zC e).t:=⟨m,zcN m⟩
theorem dZ {e:E3} (m:jX e):jX (yX e).e/\tE (yX e).t:=⟨m,zfN m⟩
theorem wI {α:Type} {l:List α} {i:Nat} {x:α} (h:l[i]?=some x):x∈l:=List.mem_of_getElem? h
variable {Γ : Ctx3} (g : TabMono Γ)
include g
theorem zbO (e:IE):∀ E,jX (zH Γ E e).e/\tE (zH Γ E e).t:=by
 refine IE.rec (motive_1:=fun e=>∀ E,jX (zH Γ E e).e/\tE (zH Γ E e).t) (motive_2:=fun o=>(∀ E,zk5 (zM Γ E o))/\tE (zP Γ o)) (motive_3:=fun es=>∀ E,uN (zV Γ E es)) (motive_4:=fun it=>∀ E,zk6 (zS Γ E it))
  (motive_5:=fun _=>True) (motive_6:=fun _=>True) ?var ?con ?glb ?bin ?neg ?not ?cmp ?chn ?and ?or ?ite ?ix ?sl ?tup ?lst ?dct ?call ?mth ?att ?lc ?spc ?ch3 ?no ?yes ?nil ?cons ?val ?blt ?ispc ?nm ?tt ?tn ?tc e
 case var =>
  intro i E;refine xV fun σ G Q Q' k h=>?_
  split at h
  .exact k _ _ h
  .exact h.elim
 case con =>
  intro c E;refine xV fun σ G Q Q' k h=>?_
  split at h
  .exact k _ _ h
  .exact h.elim
 case glb =>
  intro i E;refine xV fun σ G Q Q' k h=>?_
  split at h
  .exact k _ _ h
  .exact h.elim
 case bin=>exact fun op a b ha hb E=>xV fun σ G Q Q' k h=>(ha E).1 σ G _ _ (fun x G1 h=>(hb E).1 σ G1 _ _ (fun y G2 h=>zaP op x y G2 _ _ k h) h) h
 case neg=>exact fun a ha E=>xV fun σ G Q Q' k h=>(ha E).1 σ G _ _ (fun x G1 h=>zdk k h) h
 case not=>exact fun a ha E=>⟨fun σ G Q Q' k h=>(ha E).1 σ G _ _ (fun x G1 h=>kU (fun b=>k _ _) h) h,fun σ G Q Q' k h=>(ha E).2 σ G _ _ (fun b G1 h=>k _ _ h) h⟩
 case cmp=>exact fun op a b ha hb E=>dZ fun σ G Q Q' k h=>(ha E).1 σ G _ _ (fun x G1 h=>(hb E).1 σ G1 _ _ (fun y G2 h=>xW op x y G2 _ _ k h) h) h
 case chn =>
  exact fun o1 o2 a b c ha hb hc E=>dZ fun σ G Q Q' k h=>(ha E).1 σ G _ _ (fun x G1 h=>(hb E).1 σ G1 _ _ (fun y G2 h=>xW o1 x y G2 _ _ (fun z G3 h=>kU (fun b h=>by
   split
   .rename_i hb;rw [if_pos hb] at h;exact (hc E).1 σ G3 _ _ (fun u G4 h=>xW o2 y u G4 _ _ k h) h
   .rename_i hb;rw [if_neg hb] at h;exact k _ _ h) h) h) h) h
 case ch3 =>
  exact fun o1 o2 o3 a b c d ha hb hc hd E=>dZ fun σ G Q Q' k h=>(ha E).1 σ G _ _ (fun x G1 h=>(hb E).1 σ G1 _ _ (fun y G2 h=>xW o1 x y G2 _ _ (fun z G3 h=>kU (fun b h=>by
   split
   .rename_i hb;rw [if_pos hb] at h
    exact (hc E).1 σ G3 _ _ (fun u G4 h=>xW o2 y u G4 _ _ (fun z2 G5 h=>kU (fun b2 h=>by
     split
     .rename_i hb2;rw [if_pos hb2] at h;exact (hd E).1 σ G5 _ _ (fun t G6 h=>xW o3 u t G6 _ _ k h) h
     .rename_i hb2;rw [if_neg hb2] at h;exact k _ _ h) h) h) h
   .rename_i hb;rw [if_neg hb] at h;exact k _ _ h) h) h) h) h
 case and =>
  exact fun a b ha hb E=>⟨fun σ G Q Q' k h=>(ha E).1 σ G _ _ (fun x G1 h=>kU (fun c h=>by
   split
   .rename_i hc;rw [if_pos hc] at h;exact (hb E).1 σ G1 _ _ k h
   .rename_i hc;rw [if_neg hc] at h;exact k _ _ h) h) h,fun σ G Q Q' k h=>(ha E).2 σ G _ _ (fun c G1 h=>by
   split
   .rename_i hc;rw [if_pos hc] at h;exact (hb E).2 σ G1 _ _ k h
   .rename_i hc;rw [if_neg hc] at h;exact k _ _ h) h⟩
 case or =>
  exact fun a b ha hb E=>⟨fun σ G Q Q' k h=>(ha E).1 σ G _ _ (fun x G1 h=>kU (fun c h=>by
   split
   .rename_i hc;rw [if_pos hc] at h;exact k _ _ h
   .rename_i hc;rw [if_neg hc] at h;exact (hb E).1 σ G1 _ _ k h) h) h,fun σ G Q Q' k h=>(ha E).2 σ G _ _ (fun c G1 h=>by
   split
   .rename_i hc;rw [if_pos hc] at h;exact k _ _ h
   .rename_i hc;rw [if_neg hc] at h;exact (hb E).2 σ G1 _ _ k h) h⟩
 case ite =>
  exact fun c a b hc ha hb E=>⟨fun σ G Q Q' k h=>(hc E).2 σ G _ _ (fun c G1 h=>by
   split
   .rename_i hc;rw [if_pos hc] at h;exact (ha E).1 σ G1 _ _ k h
   .rename_i hc;rw [if_neg hc] at h;exact (hb E).1 σ G1 _ _ k h) h,fun _ _ _ _ _ h=>h.elim⟩
 case ix=>exact fun a b ha hb E=>xV fun σ G Q Q' k h=>(ha E).1 σ G _ _ (fun x G1 h=>(hb E).1 σ G1 _ _ (fun y G2 h=>zbV x y G2 _ _ k h) h) h
 case sl=>exact fun a lo hi ha hl hh E=>xV fun σ G Q Q' k h=>(ha E).1 σ G _ _ (fun x G1 h=>(hl.1 E) σ G1 _ _ (fun l G2 h=>(hh.1 E) σ G2 _ _ (fun u G3 h=>zbC k h) h) h) h
 case tup=>exact fun es hs E=>xV fun σ G Q Q' k h=>(hs E) σ G _ _ (fun ws G1 h=>⟨h.1,k _ _ h.2⟩) h
 case lst=>exact fun es hs E=>xV fun σ G Q Q' k h=>(hs E) σ G _ _ (fun ws G1 h=>⟨h.1,fun p hp=>k _ _ (h.2 p hp)⟩) h
 case dct=>exact fun ks es hs E=>xV fun σ G Q Q' k h=>fun p hp=>(hs E) σ _ _ _ (fun ws G1 h=>⟨h.1,h.2.1,k _ _ h.2.2⟩) (h p hp)
 case call =>
  exact fun f es hs E=>xV fun σ G Q Q' k h=>(hs E) σ G _ _ (fun ws G1 h=>by
   split at h
   .rename_i f' e;exact g.fn f' (wI e) ws G1 Q Q' E k h
   .exact h.elim) h
 case mth =>
  exact fun m o es ho hs E=>xV fun σ G Q Q' k h=>(ho E).1 σ G _ _ (fun x G1 h=>by
   split at h
   .rename_i m' e;exact ⟨h.1,(hs E) σ G1 _ _ (fun ws G2 h=>g.mt m' (wI e) x ws G2 Q Q' k h) h.2⟩
   .exact h.elim) h
 case att=>exact fun o f ho E=>xV fun σ G Q Q' k h=>(ho E).1 σ G _ _ (fun x G1 h=>zei k h) h
 case lc=>exact fun tg names caps it c elt _ hi hc he E=>xV fun σ G Q Q' k h=>(hi E) σ G _ _ (fun items stab G1 h=>zfg k h) h
 case spc =>
  exact fun i es hs E=>xV fun σ G Q Q' k h=>(hs E) σ G _ _ (fun ws G1 h=>by
   split at h
   .rename_i f' e;exact g.sx f' (wI e) ws G1 Q Q' k h
   .exact h.elim) h
 case ispc =>
  exact fun i es hs E σ G R R' k h=>(hs E) σ G _ _ (fun ws G1 h=>by
   split at h
   .rename_i m' e;exact g.ix m' (wI e) ws G1 R R' k h
   .exact h.elim) h
 case no=>exact ⟨fun E σ G Q Q' k h=>k _ _ h,fun σ G Q Q' k h=>k _ _ h⟩
 case yes=>exact fun e he=>⟨fun E σ G Q Q' k h=>(he E).1 σ G _ _ (fun x G1 h=>zay (fun i=>k _ _) h) h,(he XN).2⟩
 case nil=>exact fun E σ G Q Q' k h=>k _ _ h
 case cons=>exact fun e es he hs E σ G Q Q' k h=>(he E).1 σ G _ _ (fun x G1 h=>(hs E) σ G1 _ _ (fun xs G2 h=>k _ _ h) h) h
 case val=>exact fun e he E σ G R R' k h=>(he E).1 σ G _ _ (fun w G1 h=>dF k h) h
 case blt =>
  exact fun i es hs E σ G R R' k h=>(hs E) σ G _ _ (fun ws G1 h=>by
   split at h
   .rename_i m' e;exact g.it m' (wI e) ws G1 R R' k h
   .exact h.elim) h
 case nm=>exact fun _=>trivial
 case tt=>exact fun _ _=>trivial
 case tn=>trivial
 case tc=>exact fun _ _ _ _=>trivial
theorem zD (E:XQ) (e:IE):jX (zH Γ E e).e:=(zbO g e E).1
theorem pV (E:XQ) (e:IE):tE (zH Γ E e).t:=(zbO g e E).2
theorem kY (E:XQ):∀ es:IEs,uN (zV Γ E es)
 | .nil=>fun σ G Q Q' k h=>k _ _ h
 | .cons e es=>fun σ G Q Q' k h=>zD g E e σ G _ _ (fun x G1 h=>kY E es σ G1 _ _ (fun xs G2 h=>k _ _ h) h) h
theorem zjW (E:XQ):∀ o:IO,zk5 (zM Γ E o)
 | .no=>fun σ G Q Q' k h=>k _ _ h
 | .yes e=>fun σ G Q Q' k h=>zD g E e σ G _ _ (fun x G1 h=>zay (fun i=>k _ _) h) h
theorem monoC:∀ o:IO,tE (zP Γ o)
 | .no=>fun σ G Q Q' k h=>k _ _ h
 | .yes e=>pV g XN e
theorem zjX (E:XQ):∀ it:II,zk6 (zS Γ E it)
 | .val e=>fun σ G R R' k h=>zD g E e σ G _ _ (fun w G1 h=>dF k h) h
 | .blt i es=>fun σ G R R' k h=>kY g E es σ G _ _ (fun ws G1 h=>by
   split at h
   .rename_i m' e;exact g.it m' (wI e) ws G1 R R' k h
   .exact h.elim) h
 | .spc i es=>fun σ G R R' k h=>kY g E es σ G _ _ (fun ws G1 h=>by
   split at h
   .rename_i m' e;exact g.ix m' (wI e) ws G1 R R' k h
   .exact h.elim) h
end L3
namespace L3
open PySem PySem.Spec PyProof.Rows L2
structure MC where
 sc:Scope
 N:List Str
 own:Str->Bool
 fns:List Str
 gls:List Str
 mts:List Str
 its:List Str
 sxm:List (Scope->Expr->Option (List Expr))
 ixm:List (Scope->Expr->Option (List Expr))
def visB (sc:Scope) (x:Str):Bool:=match sc.names.lookup x with
 |some .local=>true
 |some .cell=>true
 |some .free=>true
 |_=>false
def rQ (sc:Scope) (x:Str):Bool:=sc.names.lookup x==some .globalImplicit&&!(x==("__debug__" : Str))&&!(x==("__name__" : Str))
def rB:Expr->Bool
 | .Set ..=>false
 |_=>true
def xH:Expr->Bool
 | .Starred ..=>false
 |_=>true
def gQ:Expr->Bool
 | .Slice ..=>false
 |_=>true
def nX:Expr->Bool
 | .ListComp ..=>false
 | .SetComp ..=>false
 | .DictComp ..=>false
 |_=>true
def mH:Expr->Bool
 | .Call (.Name ..) [] [] _=>false
 |_=>true
def relS (sc out:Scope):Scope:={ sc with names:=sc.names.map fun (n,k)=>if (k==.free&&out.kind==.function&&out.names.lookup n==some .cell) then (n,.cell) else (n,k) }
def blkB (out sc:Scope):Bool:=(sc.kind==.function)&&(sc.names.all fun y=>(!(y.2==.cell) || sc.names.lookup y.1==some .cell)&&(!(y.2==.free) || sc.names.lookup y.1==some .free)) &&
 (sc.names.all fun y=>!(y.2==.free) || out.names.lookup y.1==some .cell || out.names.lookup y.1==some .free) &&
 (sc.names.all fun y=>!(y.2==.local) || sc.names.lookup y.1==some .local)
def fJ:List Str->Bool
 | []=>true
 |x::r=>!r.contains x&&fJ r
def locB (M:MC) (x:Str):Bool:=match M.sc.names.lookup x with
 |some .local=>true
 |some .cell=>M.own x
 |_=>false
mutual
def tgIx:ITg->List Nat
 | .nm i=>[i]
 | .tup ts=>zex ts
def zex:ITgs->List Nat
 | .nil=>[]
 | .cons t ts=>tgIx t++zex ts
end
mutual
def mG (M:MC):ITg->Expr->Bool
 | .nm i,.Name x _=>M.N[i]?==some x&&locB M x
 | .tup ts,.Tuple es _ _=>mGs M ts es
 |_,_=>false
def mGs (M:MC):ITgs->List Expr->Bool
 | .nil,[]=>true
 | .cons t ts,e::es=>xH e&&mG M t e&&mGs M ts es
 |_,_=>false
end
mutual
def mE:IE->MC->Expr->Bool
 | .var i=>fun M e=>match e with
  | .Name x _=>M.N[i]?==some x&&visB M.sc x&&!(x==("__debug__" : Str))&&!(x==("__classdict__" : Str))
  |_=>false
 | .con c=>fun M e=>match e with
  | .Constant d _ _=>decide (c=d)
  |_=>false
 | .glb i=>fun M e=>match e with
  | .Name x _=>M.gls[i]?==some x&&rQ M.sc x
  |_=>false
 | .bin op a b=>fun M e=>match e with
  | .BinOp l o r _=>decide (op=o)&&mE a M l&&mE b M r
  |_=>false
 | .neg a=>fun M e=>match e with
  | .UnaryOp .USub l _=>mE a M l
  |_=>false
 | .not a=>fun M e=>match e with
  | .UnaryOp .Not l _=>mE a M l
  |_=>false
 | .cmp op a b=>fun M e=>match e with
  | .Compare l [o] [r] _=>decide (op=o)&&mE a M l&&mE b M r&&rB r
  |_=>false
 | .chn o1 o2 a b c=>fun M e=>match e with
  | .Compare l [p1,p2] [r,t] _=>decide (o1=p1)&&decide (o2=p2)&&mE a M l&&mE b M r&&mE c M t&&rB t
  |_=>false
 | .ch3 o1 o2 o3 a b c d=>fun M e=>match e with
  | .Compare l [p1,p2,p3] [r,t,u] _=>decide (o1=p1)&&decide (o2=p2)&&decide (o3=p3)&&mE a M l&&mE b M r&&mE c M t&&mE d M u&&rB u
  |_=>false
 | .and a b=>fun M e=>match e with
  | .BoolOp .And [l,r] _=>mE a M l&&mE b M r
  | .BoolOp .And (l::r::q::rest) pos=>mE a M l&&mE b M (.BoolOp .And (r::q::rest) pos)
  |_=>false
 | .or a b=>fun M e=>match e with
  | .BoolOp .Or [l,r] _=>mE a M l&&mE b M r
  | .BoolOp .Or (l::r::q::rest) pos=>mE a M l&&mE b M (.BoolOp .Or (r::q::rest) pos)
  |_=>false
 | .ite c a b=>fun M e=>match e with
  | .IfExp t l r _=>mE c M t&&mE a M l&&mE b M r
  |_=>false
 | .ix a i=>fun M e=>match e with
  | .Subscript l r _=>mE a M l&&mE i M r&&gQ r
  |_=>false
 | .sl a lo hi=>fun M e=>match e with
  | .Subscript l (.Slice x y none _) _=>mE a M l&&mO lo M x&&mO hi M y
  |_=>false
 | .tup es=>fun M e=>match e with
  | .Tuple xs _ _=>mA es M xs
  |_=>false
 | .lst es=>fun M e=>match e with
  | .List xs _=>mA es M xs
  |_=>false
 | .dct ks es=>fun M e=>match e with
  | .Dict keys xs _=>keyB ks keys&&mA es M xs&&decide (keys.length=xs.length)&&decide (keys.length<=15)&&!ks.isEmpty
  |_=>false
 | .call f es=>fun M e=>match e with
  | .Call (.Name x _) xs [] _=>M.fns[f]?==some x&&rQ M.sc x&&mA es M xs
  |_=>false
 | .mth m o es=>fun M e=>match e with
  | .Call (.Attribute l x apos) xs [] cpos=>M.mts[m]?==some x&&mH l&&(apos.endLine==cpos.line)&&decide (xs.length<25)&&mE o M l&&mA es M xs
  |_=>false
 | .att o f=>fun M e=>match e with
  | .Attribute l x _=>x==f&&mH l&&mE o M l
  |_=>false
 | .lc tg names caps it c elt=>fun M e=>match e with
  | .ListComp x [⟨t,ix,ifs,asy⟩] sc _ =>
   let M':MC:={ M with sc:=relS sc M.sc,N:=names++caps.map (fun j=>M.N.getD j Str.empty),own:=fun x=>sc.names.lookup x==some .cell }
   decide (asy=0)&&blkB M.sc sc&&rB ix&&fJ M'.N&&(caps.all fun j=>decide (j<M.N.length)&&(sc.names.lookup (M.N.getD j Str.empty)==some .free)) &&
    mI it M ix&&((tgIx tg).all fun i=>decide (i<names.length))&&mG M' tg t&&mC c M' ifs&&mE elt M' x
  |_=>false
 | .spc i es=>fun M e=>nX e&&(match M.sxm[i]? with
  |some m=>(match m M.sc e with|some xs=>mA es M xs|none=>false)
  |none=>false)
def mO:IO->MC->Option Expr->Bool
 | .no=>fun M e=>match e with|none=>true|_=>false
 | .yes a=>fun M e=>match e with|some x=>mE a M x|_=>false
def mC:IO->MC->List Expr->Bool
 | .no=>fun M e=>match e with | []=>true|_=>false
 | .yes a=>fun M e=>match e with | [x]=>mE a M x|_=>false
def mA:IEs->MC->List Expr->Bool
 | .nil=>fun M e=>match e with | []=>true|_=>false
 | .cons a as=>fun M e=>match e with|x::xs=>xH x&&mE a M x&&mA as M xs|_=>false
def mI:II->MC->Expr->Bool
 | .val a=>fun M e=>mE a M e
 | .blt i es=>fun M e=>match e with
  | .Call (.Name x _) xs [] _=>M.its[i]?==some x&&rQ M.sc x&&mA es M xs
  |_=>false
 | .spc i es=>fun M e=>match M.ixm[i]? with
  |some m=>(match m M.sc e with|some xs=>mA es M xs|none=>false)
  |none=>false
def keyB:List Str->List (Option Expr)->Bool
 | []=>fun e=>match e with | []=>true|_=>false
 |k::ks=>fun e=>match e with|some (.Constant (.str x) _ _)::es=>k==x&&keyB ks es|_=>false
end
def zeA (M:MC) (i j:Nat):Expr->Bool
 | .Tuple [.Name x _,.Starred (.Name y _) _] _ _=>(M.N[i]?==some x&&locB M x)&&(M.N[j]?==some y&&locB M y)
 |_=>false
mutual
def mS:IS->MC->Stmt->Bool
 | .asg i a=>fun M s=>match s with
  | .Assign [.Name x py] e _=>M.N[i]?==some x&&locB M x&&mE a M e
  |_=>false
 | .asgT ts a=>fun M s=>match s with
  | .Assign [.Tuple es _ _] e _=>nX e&&ze8 e&&mGs M ts es&&mE a M e
  |_=>false
 | .asgI o i a=>fun M s=>match s with
  | .Assign [.Subscript l r _] e _=>nX e&&gQ r&&mE o M l&&mE i M r&&mE a M e
  |_=>false
 | .asgA o f a=>fun M s=>match s with
  | .Assign [.Attribute l x _] e _=>x==f&&nX e&&mE o M l&&mE a M e
  |_=>false
 | .ex a=>fun M s=>match s with
  | .Expr e _=>nX e&&mE a M e
  |_=>false
 | .ret a=>fun M s=>match s with
  | .Return (some e) _=>mE a M e
  |_=>false
 | .retN=>fun M s=>match s with|.Return none _=>true|_=>false
 | .pass=>fun M s=>match s with|.Pass _=>true|_=>false
 | .brk=>fun M s=>match s with|.Break _=>true|_=>false
 | .cnt=>fun M s=>match s with|.Continue _=>true|_=>false
 | .ite c a b=>fun M s=>match s with
  | .If t x y _=>mE c M t&&qE a M x&&qE b M y
  |_=>false
 | .whl c b=>fun M s=>match s with
  | .While t x [] _=>mE c M t&&qE b M x
  |_=>false
 | .for tg it b=>fun M s=>match s with
  | .For t x y [] _=>rB x&&mG M tg t&&mI it M x&&qE b M y
  |_=>false
 | .dead=>fun M s=>true
 | .asgS i j a=>fun M s=>match s with
  | .Assign [t] e _=>nX e&&ze8 e&&zeA M i j t&&mE a M e
  |_=>false
def qE:ISs->MC->List Stmt->Bool
 | .nil=>fun M s=>match s with | []=>true|_=>false
 | .cons a as=>fun M s=>match s with|x::xs=>mS a M x&&qE as M xs|_=>false
def ze8:Expr->Bool
 | .Tuple ..=>false
 |_=>true
end
theorem rP {a b:Bool} (h:(a&&b)=true):a=true/\b=true:=(Bool.and_eq_true a b).mp h
theorem bd3 {a b c:Bool} (h:(a&&b&&c)=true):(a=true/\b=true)/\c=true:=⟨rP (rP h).1,(rP h).2⟩
theorem bd4 {a b c d:Bool} (h:(a&&b&&c&&d)=true):((a=true/\b=true)/\c=true)/\d=true:=⟨bd3 (rP h).1,(rP h).2⟩
theorem bd5 {a b c d e:Bool} (h:(a&&b&&c&&d&&e)=true):(((a=true/\b=true)/\c=true)/\d=true)/\e=true:=⟨bd4 (rP h).1,(rP h).2⟩
theorem bd6 {a b c d e f:Bool} (h:(a&&b&&c&&d&&e&&f)=true):((((a=true/\b=true)/\c=true)/\d=true)/\e=true)/\f=true:=⟨bd5 (rP h).1,(rP h).2⟩
theorem bd7 {a b c d e f g:Bool} (h:(a&&b&&c&&d&&e&&f&&g)=true):(((((a=true/\b=true)/\c=true)/\d=true)/\e=true)/\f=true)/\g=true:=⟨bd6 (rP h).1,(rP h).2⟩
theorem bd8 {a b c d e f g k:Bool} (h:(a&&b&&c&&d&&e&&f&&g&&k)=true):((((((a=true/\b=true)/\c=true)/\d=true)/\e=true)/\f=true)/\g=true)/\k=true:=⟨bd7 (rP h).1,(rP h).2⟩
theorem bd9 {a b c d e f g k l:Bool} (h:(a&&b&&c&&d&&e&&f&&g&&k&&l)=true):(((((((a=true/\b=true)/\c=true)/\d=true)/\e=true)/\f=true)/\g=true)/\k=true)/\l=true:=⟨bd8 (rP h).1,(rP h).2⟩
theorem bd10 {a b c d e f g k l m:Bool} (h:(a&&b&&c&&d&&e&&f&&g&&k&&l&&m)=true):((((((((a=true/\b=true)/\c=true)/\d=true)/\e=true)/\f=true)/\g=true)/\k=true)/\l=true)/\m=true:=⟨bd9 (rP h).1,(rP h).2⟩
end L3
namespace L2
open PySem PySem.Spec PyProof.Rows
def Itd (d:Addr) (ob:Obj) (l:List (yC×V)):It where
 go:=fun i H=>H d=some (.frz ob (.dK l))/\i<l.length
 yld:=fun i H x H'=>H'=H/\∃ p,l[i]?=some p/\x=kV p.1
 stop:=fun i H=>H d=some (.frz ob (.dK l))/\l.length<=i
def KiSt (it d:Addr) (ob:Obj) (n i:Nat) (h:Heap):Prop:=∃ ep es,ob.data=.dict es ep/\h.IsKeyIter it d i n ep
section
variable {X : Cx} {pins : List (Addr × Obj)} {σ : St} {H : Hp} {s : Shared} {d : Addr} {ob : Obj} {l : List (yC × V)}
theorem zgk {κ:Type}:∀ {l:List (κ×V)} {vs:List (κ×Value)} {i:Nat} {k:κ} {v:Value},KV l vs->vs[i]?=some (k,v)->∃ x,l[i]?=some (k,x)
 |_,_,i,k,v,.nil,e=>by simp at e
 |p::_,_,0,k,v,.cons r t,e=>by
  simp at e;subst e;obtain ⟨a,b⟩:=p;have h1:a=k:=r.1;exact ⟨b,by simp [h1]⟩
 |_::_,_,i+1,k,v,.cons r t,e=>by
  obtain ⟨x,h⟩:=zgk (i:=i) (k:=k) (v:=v) t (by simpa using e);exact ⟨x,by simpa using h⟩
theorem zgj {κ:Type}:∀ {l:List (κ×V)} {vs:List (κ×Value)},KV l vs->vs.length=l.length
 |_,_,.nil=>rfl
 |_,_,.cons _ t=>by rw [List.length_cons,List.length_cons,zgj t]
theorem zdO (I:Inv X pins σ H s) (e:H d=some (.frz ob (.dK l))) {es:Array DictEntry} {ep:Nat} (hd:ob.data=.dict es ep):∃ vs,KV l vs/\s.heap.DictAt (xR X.prog X.w) d vs ep/\vs.length=l.length:=by
 obtain ⟨hg,_,_,vs,kv,o,es',ep',ho,hc,hdat,r⟩:=(show xU X.prog X.w H s.heap d (.frz ob (.dK l)) from I.hok d _ e);rw [hg] at ho;cases ho;rw [hd] at hdat;cases hdat;exact ⟨vs,kv,⟨ob,es,hg,hc,hd,r⟩,zgj kv⟩
theorem zdy {k:yC} {v:Value} (h:dI k v=true):zA (kV k) v:=by
 rcases xZ h with ⟨i,t,rfl,rfl⟩|⟨x,t,rfl,rfl⟩
 .exact ⟨t,rfl⟩
 .exact ⟨t,rfl⟩
theorem zcM {P:Program} {w:World} {K:PySem.W.Frag} {tg:Expr} (it:Addr):Turn P w K tg (Itd d ob l) [it] it (KiSt it d ob l.length) where
 mem:=by simp
 obj:=fun i h st b hb=>by
  cases zzO hb;obtain ⟨ep,es,_,o,e,c,z⟩:=st;exact ⟨o,e,fun v q=>by rw [z] at q;cases q⟩
 keep:=fun i h h' st k=>by
  obtain ⟨ep,es,hd,st⟩:=st;exact ⟨ep,es,hd,st.at fun o e=>k it (by simp) o e⟩
 item:=by
  intro X e1 e2 e3 hc i pins s σ H E I hf st hg;subst e1;subst e2;subst e3;obtain ⟨ep,es,hd,st⟩:=st;obtain ⟨e,hi⟩:=hg;obtain ⟨vs,kv,da,lv⟩:=zdO I e hd;obtain ⟨f0,f1,f2,f3,f4,f5⟩:=hf it (by simp);obtain ⟨⟨k,v⟩,ek⟩:∃ p,vs[i]?=some p:=⟨vs[i]'(by omega),List.getElem?_eq_getElem _⟩;obtain ⟨x,ex⟩:=zgk kv ek;rw [← lv] at st;refine wpAny_pyNext_dict_item st da ek fun key h' hkey st' sb=>?_;have I1:Inv X pins σ H { s with heap:=h',toks:=s.toks }:=I.turned (fun b o hb q=>(sb.2 b hb).trans q) f0 f1 f3 f4 f5;obtain ⟨o,o1,o2,o3⟩:=id st';refine ⟨key,rfl,zdK (s:={ s with heap:=h' }) o1 o2 o3 (by decide) ⟨kV k,H,I1,zdy hkey,⟨rfl,(k,x),ex,rfl⟩,⟨ep,es,hd,?_⟩,fun b hb=>(hf b hb).1⟩⟩;rw [← lv];exact st'
 done:=by
  intro X e1 e2 e3 hc i pins s σ H E I hf st hg;subst e1;subst e2;subst e3;obtain ⟨ep,es,hd,st⟩:=st;obtain ⟨e,hi⟩:=hg;obtain ⟨vs,kv,da,lv⟩:=zdO I e hd;obtain ⟨f0,f1,f2,f3,f4,f5⟩:=hf it (by simp);rw [← lv] at st;exact wpAny_pyNext_dict_end (I.ok.hd hc) st da (List.getElem?_eq_none (by omega)) fun h' eb=>⟨rfl,I.turned (t':=s.toks) (fun b o hb q=>eb b o hb q) f0 f1 f3 f4 f5⟩
 self:=fun _ _ _ _ _ st h=>by
  obtain ⟨ep,es,hd,st⟩:=st;exact wpAny_pyIter_keyiter st h
theorem zfQ {u:HO} (e:H d=some u):xL H d u=H:=by
 funext b
 unfold xL
 split
 .rename_i h;subst h;exact e.symm
 .rfl
theorem zhZ (I:Inv X pins σ H s) (e:Rd H d (.dK l)):∃ ob,Inv X pins σ (xL H d (.frz ob (.dK l))) s/\(∃ es ep,ob.data=.dict es ep)/\∀ ob',H d=some (.frz ob' (.dK l))->ob'=ob:=by
 rcases e with e|⟨ob,e⟩
 .have q:=I.hok d _ e;obtain ⟨h1,h2,vs,kv,o,es,ep,ho,hc,hdat,r⟩:=id q;have mu:Mut (H d):=by rw [e];exact True.intro
  refine ⟨o,I.un (t':=s.toks) (Un.write mu (.inl rfl) (fun b u _ z=>z) ⟨o,ho⟩) (I.hok.write mu (.inl rfl) (fun b u _ z=>z) ⟨o,ho⟩ ⟨ho,h1,h2,vs,kv,o,es,ep,ho,hc,hdat,r⟩),⟨es,ep,hdat⟩,fun ob' z=>by rw [e] at z;cases z⟩
 .obtain ⟨hg,_,_,vs,kv,o,es,ep,ho,hc,hdat,r⟩:=(show xU X.prog X.w H s.heap d (.frz ob (.dK l)) from I.hok d _ e);rw [hg] at ho;cases ho;exact ⟨ob,by rw [zfQ e];exact I,⟨es,ep,hdat⟩,fun ob' z=>by rw [e] at z;cases z;rfl⟩
theorem zig {tg:Expr} {R:It->Hp->Prop} {E:Value->Shared->Prop} (I:Inv X pins σ H s) (e:Rd H d (.dK l)) (q:∀ ob,(∀ ob',H d=some (.frz ob' (.dK l))->ob'=ob)->R (Itd d ob l) (xL H d (.frz ob (.dK l)))):wpAny (model X.prog X.w) X.A (pyIter (.ref d)) (PIE X pins σ tg R) E s:=by
 have hs:(d==sysModules)=false:=(cY I.hok e).2.1;obtain ⟨ob,J,⟨es,ep,hd⟩,same⟩:=zhZ I e;obtain ⟨vs,kv,da,lv⟩:=zdO J wY hd;refine wpAny_pyIter_dict hs da ?_;refine ⟨s.heap.objs.size,[s.heap.objs.size],_,_,_,rfl,J.kept (t':=s.toks) fun b o e=>Heap.get?_push_of_some _ e,zcM _,⟨ep,es,hd,⟨_,Heap.get?_push_size _ rfl,rfl,by rw [lv];rfl⟩⟩,fun b hb=>?_,q ob same⟩;cases zzO hb;exact J.fpOk (zzR _) (J.hok.fresh (zzR _))
end
end L2
namespace L3
open PySem PySem.Spec PyProof.Rows L2 PySem.SeqAt
structure Par where
 prog:Program
 w:World
 K:yJ
 mg:Str->Option Value
 base:Heap
 A:Around
structure Fits (p:Par) (X:Cx):Prop where
 prog:X.prog=p.prog
 w:X.w=p.w
 K:X.K=p.K
 mg:X.mg=p.mg
 base:X.base=p.base
 A:X.A=p.A
 calm:X.calm=true
 xe:X.xe=fun _ _=>False
structure ItIs (K:yJ) (J:It) (H1:Hp) (ws:List W) (stab:Hw->Prop):Prop where
 go:∀ i H G,yI K H1 H->xS K H G->stab G->i<ws.length->J.go i H
 yld:∀ i H G x H',yI K H1 H->xS K H G->stab G->i<ws.length->J.yld i H x H'->∃ w,ws[i]?=some w/\yI K H H'/\xJ K H' w x/\xS K H' G
 stop:∀ i H G,yI K H1 H->xS K H G->stab G->ws.length<=i->J.stop i H
def lowI (K:yJ) (t:I3):TI:=fun τ H R=>∃ σ G,yK K H σ τ/\xS K H G/\t σ G fun ws stab G1=>∀ J H1,yI K H H1->xS K H1 G1->ItIs K J H1 ws stab->R J H1
def mD (X:Cx):List Expr->List E3->Prop
 | [],[]=>True
 |x::xs,e::es=>jX e/\PE X x (yA X.K e)/\mD X xs es
 |_,_=>False
structure Good (Γ:Ctx3) (p:Par):Prop where
 mono:TabMono Γ
 un:p.A.units+200<cLine
 fn:∀ f∈Γ.fn,∀ X,Fits p X->Gl X f.nm->∀ (args:List Expr) (t:A3) (q pos:Pos),uN t->args.all xH=true->PA X args (pQ X.K t)->(args=[]->∀ σ G Q,t σ G Q->Q [] G)->(f.nm==("__debug__" : Str))=false->f.nm ≠ "__name__" ->
  PE X (.Call (.Name f.nm q) args [] pos) (yA X.K fun σ G Q=>t σ G fun ws G1=>f.sp ws G1 Q XN)
 gl:∀ g∈Γ.gl,∀ X,Fits p X->Gl X g.1->∀ q:Pos,(g.1==("__debug__" : Str))=false->g.1 ≠ "__name__" -> PE X (.Name g.1 q) (yA X.K fun _ G Q=>Q g.2 G)
 mt:∀ m∈Γ.mt,∀ X,Fits p X->∀ (o:Expr) (args:List Expr) (to:E3) (t:A3) (apos cpos:Pos),jX to->uN t->mH o=true->(apos.endLine==cpos.line)=true->args.length<25->args.all xH=true ->
  PE X o (yA X.K to)->PA X args (pQ X.K t)->(args=[]->∀ σ G Q,t σ G Q->Q [] G)->PE X (.Call (.Attribute o m.nm apos) args [] cpos) (yA X.K fun σ G Q=>to σ G fun x G1=>tyW G1 x m.T/\t σ G1 fun ws G2=>m.sp x ws G2 Q)
 it:∀ i∈Γ.it,∀ X,Fits p X->Gl X i.nm->∀ (tg:Expr) (args:List Expr) (t:A3) (q pos:Pos),uN t->args.all xH=true->PA X args (pQ X.K t)->(args=[]->∀ σ G Q,t σ G Q->Q [] G)->(i.nm==("__debug__" : Str))=false->i.nm ≠ "__name__" ->
  PI X tg (.Call (.Name i.nm q) args [] pos) (lowI X.K fun σ G R=>t σ G fun ws G1=>i.sp ws G1 R)
 cl:∀ c∈Γ.cl,Cls p.K c.1/\∀ f∈c.2,tF p.K c.1 f
 sx:∀ k∈Γ.sx,∀ X,Fits p X->∀ (e:Expr) (xs:List Expr) (es:List E3),k.m X.env.scope e=some xs->mD X xs es->xs.all xH=true->PA X xs (pQ X.K (sB es)) ->
  PE X e (yA X.K fun σ G Q=>sB es σ G fun ws G1=>k.sp ws G1 Q)/\(∀ whole,isTrue e X.env whole=(do let v ← whole;standAt e.pos;holding [v] (truthy v)))/\∀ op vs pos,e≠.BoolOp op vs pos
 ix:∀ k∈Γ.ix,∀ X,Fits p X->∀ (tg e:Expr) (xs:List Expr) (es:List E3),k.m X.env.scope e=some xs->mD X xs es->xs.all xH=true->PA X xs (pQ X.K (sB es)) ->
  PI X tg e (lowI X.K fun σ G R=>sB es σ G fun ws G1=>k.sp ws G1 R)
structure Lk (Γ:Ctx3) (M:MC) (p:Par) (X:Cx):Prop where
 fits:Fits p X
 N:X.N=M.N
 sc:X.env.scope=M.sc
 nd:M.N.Nodup
 own:∀ x,M.own x=true->X.fn x=true
 kind:M.sc.kind=.function
 fns:Γ.fn.map (·.nm)=M.fns
 gls:Γ.gl.map (·.1)=M.gls
 mts:Γ.mt.map (·.nm)=M.mts
 its:Γ.it.map (·.nm)=M.its
 sxs:Γ.sx.map (·.m)=M.sxm
 ixs:Γ.ix.map (·.m)=M.ixm
theorem kP {e:Expr} {es:List Expr} {env:Env} (h:xH e=true):starEach (e::es) env=(false,eval e env)::starEach es env:=by
 cases e<;>first|rfl|exact absurd h zzN
theorem kT {o:Expr} {f:Str} {env:Env} {t:Sem Value} (h:mH o=true):attributeBase o f env t=t:=by
 unfold attributeBase
 split
 .exact absurd h zzN
 .rfl
theorem zaC {e:Expr} {env:Env} (h:rB e=true):∀ x,foldedSetIterable e env x=pure x:=fun x=>by
 cases e<;>first|rfl|exact absurd h zzN
theorem vY {op:CmpOp} {e:Expr} (h:rB e=true):behindInMarks op e=false:=by
 cases e<;>first|rfl|exact absurd h zzN
theorem zeZ {e:Expr} (h:gQ e=true):zeo e:=fun o i=>by
 cases e<;>first|rfl|exact absurd h zzN
theorem kB {e:Expr} {t:Option Expr} {n:Nat} {env:Env} (h:nX e=true):swapsWith e t n env=pure false:=by
 cases e<;>first|rfl|exact absurd h zzN
theorem ziH {sc:Scope} {x:Str} (h:visB sc x=true):Vis sc x:=by
 unfold visB at h
 split at h
 .rename_i e;exact .inl e
 .rename_i e;exact .inr (.inl e)
 .rename_i e;exact .inr (.inr e)
 .exact absurd h zzN
theorem zcs {X:Cx} {sc:Scope} {x:Str} (e:X.env.scope=sc) (h:rQ sc x=true):Gl X x/\(x==("__debug__" : Str))=false/\x ≠ "__name__" := by
 unfold rQ at h;simp only [Bool.and_eq_true,Bool.not_eq_true'] at h;refine ⟨?_,h.1.2,fun z=>?_⟩
 .show X.env.scope.names.lookup x=_;rw [e];exact eq_of_beq h.1.1
 .subst z;have:=h.2;simp at this
theorem jF {α:Type} [BEq α] [LawfulBEq α] {a:Option α} {b:α} (h:(a==some b)=true):a=some b:=eq_of_beq h
theorem sU {α β:Type} {f:α->β} {l:List α} {i:Nat} {y:β} (h:(l.map f)[i]?=some y):∃ x,l[i]?=some x/\f x=y:=by
 rw [List.getElem?_map] at h
 cases e:l[i]? with
 |none=>rw [e] at h;cases h
 |some x=>rw [e] at h;exact ⟨x,rfl,Option.some.inj h⟩
section
variable {X : Cx}
theorem zev {K:yJ} {e:E3} (m:jX e) {τ:L2.St} {H:Hp} {Q:Bool->Hp->Prop} (h:kQ K (zN e) τ H Q):yA K e τ H (fun x H'=>∃ k,TruV K x H' k/\Q k H'):=by
 obtain ⟨σ,G,hs,ha,h⟩:=h;refine yE m hs ha h fun w G1 v H1 gr _ rp ab q=>?_
 split at q
 .rename_i b hb;exact ⟨b,zgJ rp ab hb,q H1 gr ab⟩
 .exact q.elim
theorem pt_of {x:Expr} {e:E3} (m:jX e) (h:PE X x (yA X.K e)) (he:∀ whole,isTrue x X.env whole=(do let v ← whole;standAt x.pos;holding [v] (truthy v))):PT X x (kQ X.K (zN e)) :=
 (zeR h he).imp fun σ H Q q=>zev m q
theorem zbp {K:yJ} {e:E3} (m:jX e) {τ:L2.St} {H:Hp} {Q:Bool->Hp->Prop} (h:kQ K (yW e) τ H Q):yA K e τ H (fun x H'=>∃ k,x=.bl k/\Q k H'):=by
 obtain ⟨σ,G,hs,ha,h⟩:=h;refine yE m hs ha h fun w G1 v H1 gr _ rp ab q=>?_
 cases w with
 |bl b=>cases rp;exact ⟨b,rfl,q H1 gr ab⟩
 |_=>exact q.elim
theorem zbJ {K:yJ} {ea eb:E3} {r:R3} (ma:jX ea) (mb:jX eb) (mr:mF r) {τ:L2.St} {H:Hp} {Q:VK} (h:yA K (fun σ G Q=>ea σ G fun x G1=>eb σ G1 fun y G2=>r x y G2 Q) τ H Q) :
  tOp (nQ K r) (yA K ea) (yA K eb) τ H Q:=by
 obtain ⟨σ,G,hs,ha,h⟩:=h;refine yE ma hs ha h fun x G1 v H1 g1 hs1 rx a1 h1=>?_;refine yE mb hs1 a1 h1 fun y G2 u H2 g2 hs2 ry a2 h2=>?_;exact ⟨x,y,G2,rx.mono g2,ry,a2,mr x y G2 _ _ (fun w G' q v' H' g'=>q v' H' ((g1.trans g2).trans g')) h2⟩
def Its (x:Str):It:=⟨fun i _=>i<x.cps.size,fun i H v H'=>H'=H/\∃ c,x.cps[i]?=some c/\v=.str ⟨#[c]⟩,fun i _=>x.cps.size<=i⟩
theorem zet {P:Program} {w:World} {K:yJ} {tg:Expr} (T:String) (hT:T = "str_ascii_iterator" \/ T = "str_iterator") (x:Str) (t:Tok) (it:Addr):Turn P w K tg (Its x) [it] it (fun i h=>h.IsStrIter it T x t i) where
 mem:=by simp
 obj:=fun i h st b hb=>by
  have e:b=it:=by simpa using hb
  subst e;obtain ⟨o,e,c,d⟩:=st;exact ⟨o,e,fun v z=>by rw [d] at z;cases z⟩
 keep:=fun i h h' st k=>let ⟨o,e,r⟩:=st;⟨o,k it (by simp) o e,r⟩
 item:=by
  intro X hP hw hK hc i pins s σ H E I hf st hg;subst hP hw hK;obtain ⟨f0,f1,f2,f3,f4,f5⟩:=hf it (by simp);have hi:i<x.cps.size:=hg;have hx:x.cps[i]?=some x.cps[i]:=by simp [hi]
  have fin:∀ h':Heap,h'.IsStrIter it T x t (i+1)->Heap.SameBut it s.heap h'->∃ u,some (Value.str ⟨#[x.cps[i]]⟩ s.toks)=some u /\
    wpAny (model X.prog X.w) X.A (letOwnedTupleGo tg (.ref it) u) (fun _ s2=>∃ v H',Inv X pins σ H' s2/\zA v u/\(Its x).yld i H v H'/\s2.heap.IsStrIter it T x t (i+1)/\∀ b∈[it],H' b=none) E { s with heap:=h',toks:=s.toks+1 }:=fun h' st' sb=>by
   have I1:Inv X pins σ H { s with heap:=h',toks:=s.toks+1 }:=I.turned (t':=s.toks+1) (fun b o hb e=>(sb.2 b hb).trans e) f0 f1 f3 f4 f5;obtain ⟨o,e,c,d⟩:=id st';exact ⟨_,rfl,zdK (s:={ s with heap:=h',toks:=s.toks+1 }) e c d (by rcases hT with rfl|rfl<;>decide) ⟨.str ⟨#[x.cps[i]]⟩,H,I1,⟨_,rfl⟩,⟨rfl,_,hx,rfl⟩,st',fun b hb=>(hf b hb).1⟩⟩
  rcases hT with rfl|rfl
  .exact wpAny_pyNext_ascii_item st hx fin
  .exact wpAny_pyNext_wide_item st hx fin
 done:=by
  intro X hP hw hK hc i pins s σ H E I hf st hg;subst hP hw hK;obtain ⟨f0,f1,f2,f3,f4,f5⟩:=hf it (by simp);have hx:x.cps[i]?=none:=by have h:x.cps.size<=i:=hg;simp [h]
  rcases hT with rfl|rfl
  .exact wpAny_pyNext_ascii_end (I.ok.hd hc) st hx fun h' eb=>⟨rfl,I.turned (t':=s.toks) (fun b o hb e=>eb b o hb e) f0 f1 f3 f4 f5⟩
  .exact wpAny_pyNext_wide_end (I.ok.hd hc) st hx fun h' eb=>⟨rfl,I.turned (t':=s.toks) (fun b o hb e=>eb b o hb e) f0 f1 f3 f4 f5⟩
 self:=fun _ _ _ _ _ st h=>by
  rcases hT with rfl|rfl
  .exact wpAny_pyIter_striter_ascii st h
  .exact wpAny_pyIter_striter_wide st h
theorem zjv {tg l:Expr} {tl:TE} (hl:PE X l tl):PI X tg l (fun σ H R=>tl σ H fun x H1=>(∃ t,x=.str t/\R (Its t) H1)\/∃ a,x=.ref a/\(((∃ xs,nE X.K H1 a xs)/\R (Itl X.K a) H1)\/((∃ xs,rM X.K H1 a xs)/\R (Itt X.K a) H1)\/∃ l,Rd H1 a (.dK l)/\∀ ob,(∀ ob',H1 a=some (.frz ob' (.dK l))->ob'=ob)->R (Itd a ob l) (xL H1 a (.frz ob (.dK l))))):=by
 intro pins s σ H R I h;refine yG (hl pins s σ H _ I h) fun v s1 ⟨x,H1,I1,r1,q1⟩=>?_;rcases q1 with ⟨tx,e,q⟩|q1
 .subst e;obtain ⟨tk,rfl⟩:=r1
  have fin:∀ T,(T = "str_ascii_iterator" \/ T = "str_iterator")->∀ o:Obj,o.isFreed=false->o.cls=.type T->o.data=.fields #[.str tx tk,.int 0 0]->PIE X pins σ tg R (.ref s1.heap.objs.size) { s1 with heap:=s1.heap.push o }   := fun T hT o hz hc hd=>by
   refine ⟨s1.heap.objs.size,[s1.heap.objs.size],_,_,H1,rfl,I1.kept (t':=s1.toks) fun b o e=>Heap.get?_push_of_some _ e,zet T hT tx tk _,⟨_,Heap.get?_push_size _ hz,hc,hd⟩,fun b hb=>?_,q⟩;have e:b=s1.heap.objs.size:=by simpa using hb
   subst e;exact I1.fpOk (zzR _) (I1.hok.fresh (zzR _))
  cases hasc:tx.cps.all (· < 128)
  .exact wpAny_pyIter_wide hasc (fin _ (.inr rfl) _ rfl rfl rfl)
  .exact wpAny_pyIter_ascii hasc (fin _ (.inl rfl) _ rfl rfl rfl)
 obtain ⟨a,e,q1⟩:=q1;subst e;cases r1;rcases q1 with ⟨⟨xs,hq⟩,q⟩|⟨⟨xs,hq⟩,q⟩|⟨l,hq,q⟩
 rotate_left 2
 .exact zig I1 hq q
 .obtain ⟨its,rv,p,hz⟩:=I1.list hq;refine wpAny_pyIter_list p.isList ?_;refine ⟨s1.heap.objs.size,[s1.heap.objs.size],_,_,H1,rfl,I1.kept (t':=s1.toks) fun b o e=>Heap.get?_push_of_some _ e,zcL a _,⟨_,Heap.get?_push_size _ rfl,rfl,rfl⟩,fun b hb=>?_,q⟩;have e:b=s1.heap.objs.size:=by simpa using hb
  subst e;exact I1.fpOk (zzR _) (I1.hok.fresh (zzR _))
 .obtain ⟨its,rv,p,hz⟩:=I1.tuple hq;refine wpAny_pyIter_tuple (show s1.heap.IsTuple a its.toArray from p) ?_;refine ⟨s1.heap.objs.size,[s1.heap.objs.size],_,_,H1,rfl,I1.kept (t':=s1.toks) fun b o e=>Heap.get?_push_of_some _ e,zcc a _,⟨_,Heap.get?_push_size _ rfl,rfl,rfl⟩,fun b hb=>?_,q⟩;have e:b=s1.heap.objs.size:=by simpa using hb
  subst e;exact I1.fpOk (zzR _) (I1.hok.fresh (zzR _))
theorem zks {K:yJ} {x:Str} {H1:Hp}:ItIs K (Its x) H1 (sgs x) (fun _=>True) where
 go:=fun i H G _ ab st hi=>by
  have h:i<(sgs x).length:=hi;show i<x.cps.size;simpa [sgs] using h
 yld:=fun i H G v H' _ ab st hi y=>by
  obtain ⟨rfl,c,e,rfl⟩:=y;refine ⟨.str ⟨#[c]⟩,?_,.refl,rfl,ab⟩;simp [sgs,e]
 stop:=fun i H G _ ab st hi=>by
  have h:(sgs x).length<=i:=hi;show x.cps.size<=i;simpa [sgs] using h
theorem zku {K:yJ} {a:Addr} {H1:Hp} {ws:List W}:ItIs K (Itl K a) H1 ws (fun G=>yS G a=some ws) where
 go:=fun i H G _ ab st hi=>by
  obtain ⟨vs,sq,rs⟩:=ab.seq st;have hl:=rs.length;obtain ⟨v,e⟩:∃ v,vs[i]?=some v:=⟨vs[i]'(by omega),List.getElem?_eq_getElem _⟩;exact ⟨vs,v,sq,e⟩
 yld:=fun i H G x H' _ ab st hi y=>by
  obtain ⟨vs,sq,rs⟩:=ab.seq st;obtain ⟨e,y⟩:=y;subst e;obtain ⟨w,ew,rp⟩:=rs.get' (y vs sq);exact ⟨w,ew,.refl,rp,ab⟩
 stop:=fun i H G _ ab st hi=>by
  obtain ⟨vs,sq,rs⟩:=ab.seq st;exact ⟨vs,sq,by rw [rs.length];exact hi⟩
theorem zkr {K:yJ} {a:Addr} {H1:Hp} {ws:List W} {vs:List V} (sq:rM K H1 a vs) (rs:zF K H1 ws vs):ItIs K (Itt K a) H1 ws (fun _=>True) where
 go:=fun i H G g ab st hi=>by
  have hl:=rs.length;obtain ⟨v,e⟩:∃ v,vs[i]?=some v:=⟨vs[i]'(by omega),List.getElem?_eq_getElem _⟩;exact ⟨vs,v,g.1 _ _ sq,e⟩
 yld:=fun i H G x H' g ab st hi y=>by
  obtain ⟨e,y⟩:=y;subst e;obtain ⟨w,ew,rp⟩:=(rs.mono g).get' (y vs (g.1 _ _ sq));exact ⟨w,ew,.refl,rp,ab⟩
 stop:=fun i H G g ab st hi=>⟨vs,g.1 _ _ sq,by rw [rs.length];exact hi⟩
theorem xS.rdD {K:yJ} {H:Hp} {G:Hw} {p:Addr} {kvs:List (yC×W)} (ab:xS K H G) (e:zd2 G p=some kvs):∃ l,Rd H p (.dK l)/\yR K H kvs l:=by
 unfold zd2 at e
 split at e
 .rename_i q;cases e;obtain ⟨u,e',l,rfl,r⟩:=ab p _ q;exact ⟨l,.inl e',r⟩
 .rename_i q;cases e;obtain ⟨u,e',ob,l,rfl,r⟩:=ab p _ q;exact ⟨l,.inr ⟨ob,e'⟩,r⟩
 .cases e
theorem xS.freeze {K:yJ} {H:Hp} {G:Hw} {p:Addr} {kvs:List (yC×W)} {l:List (yC×V)} {ob:Obj} (ab:xS K H G) (e:zd2 G p=some kvs) (hl:Rd H p (.dK l)) (rk:yR K H kvs l) :
  (∀ ob',H p=some (.frz ob' (.dK l))->ob'=ob)->yI K H (xL H p (.frz ob (.dK l)))/\xS K (xL H p (.frz ob (.dK l))) (put G p (.fzd kvs)):=by
 intro same;unfold zd2 at e
 split at e
 .rename_i q;cases e;have g:yI K H (xL H p (.frz ob (.dK l))):=ab.grow q;exact ⟨g,ab.chg q ⟨ob,l,rfl,rk.mono g⟩⟩
 .rename_i q;cases e;obtain ⟨u,e',ob2,l2,rfl,r⟩:=ab p _ q
  have hp:H p=some (.frz ob (.dK l)):=by
   rcases hl with h|⟨o,h⟩
   .rw [h] at e';cases e'
   .rw [h,same o h]
  rw [zfQ hp];refine ⟨.refl,fun b o z=>?_⟩
  by_cases hb:b=p
  .subst hb;rw [zX] at z;cases z;exact ⟨_,hp,ob,l,rfl,rk⟩
  .rw [yH hb] at z;exact ab b o z
 .cases e
theorem yR.keyAt {K:yJ} {H:Hp} {κ:Type}:∀ {l:List (κ×W)} {l':List (κ×V)} {i:Nat} {p:κ×V},yR K H l l'->l'[i]?=some p->∃ w,l[i]?=some (p.1,w)
 | [],_,i,p,h,e=>by rw [show _=[] from h] at e;simp at e
 | (k,w)::_,_,0,p,⟨v,t,e,h,r⟩,q=>by subst e;simp at q;subst q;exact ⟨w,rfl⟩
 |_::_,_,i+1,p,⟨v,t,e,h,r⟩,q=>by
  subst e;obtain ⟨w,h1⟩:=yR.keyAt (i:=i) (p:=p) r (by simpa using q);exact ⟨w,by simpa using h1⟩
theorem zkh {K:yJ} {H:Hp} (k:yC):xJ K H (kW k) (kV k):=by
 cases k<;>rfl
theorem zkw {K:yJ} {d:Addr} {ob:Obj} {l:List (yC×V)} {H1:Hp} {kvs:List (yC×W)} (e:H1 d=some (.frz ob (.dK l))) (rk:yR K H1 kvs l):ItIs K (Itd d ob l) H1 (kvs.map fun kv=>kW kv.1) (fun G=>G d=some (.fzd kvs)) where
 go:=fun i H G g ab st hi=>⟨g.2 _ _ True.intro e,by rw [rk.length];simpa using hi⟩
 yld:=fun i H G x H' g ab st hi y=>by
  obtain ⟨e1,p,e2,e3⟩:=y;subst e1;subst e3;obtain ⟨w,ew⟩:=rk.keyAt e2;exact ⟨kW p.1,by rw [List.getElem?_map,ew];rfl,.refl,zkh _,ab⟩
 stop:=fun i H G g ab st hi=>⟨g.2 _ _ True.intro e,by rw [rk.length];simpa using hi⟩
theorem zjw {tg x:Expr} {e:E3} (m:jX e) (h:PE X x (yA X.K e)):PI X tg x (lowI X.K fun σ G R=>e σ G fun w G1=>uO w G1 R):=by
 intro pins s σ H R I q;refine zjv h pins s σ H R I ?_;obtain ⟨σ3,G,hs,ha,q⟩:=q;refine yE m hs ha q fun w G1 v H1 gr hs1 rp ab q=>?_
 cases w with
 |tup ws =>
  obtain ⟨a,vs,rfl,sq,rs⟩:=rp;exact .inr ⟨a,rfl,.inr (.inl ⟨⟨vs,sq⟩,q _ H1 gr ab (zkr sq rs)⟩)⟩
 |ref p =>
  cases rp;simp only [uO] at q
  split at q
  .rename_i ws e;obtain ⟨vs,sq,rs⟩:=ab.seq e;exact .inr ⟨p,rfl,.inl ⟨⟨vs,sq⟩,q _ H1 gr ab zku⟩⟩
  .split at q
   .rename_i kvs e;obtain ⟨l,hl,rk⟩:=ab.rdD e;refine .inr ⟨p,rfl,.inr (.inr ⟨l,hl,fun ob same=>?_⟩)⟩;obtain ⟨g2,a2⟩:=ab.freeze (ob:=ob) e hl rk same;exact q _ _ (gr.trans g2) a2 (zkw (wY) (rk.mono g2))
   .exact q.elim
 |str t =>
  cases rp;exact .inl ⟨t,rfl,q _ H1 gr ab zks⟩
 |_=>exact q.elim
def lowG (K:yJ) (t:G3):TG:=fun v τ H Q=>∃ w σ G,xJ K H w v/\yK K H σ τ/\xS K H G/\t w σ G fun σ' G'=>∀ τ' H',yI K H H'->yK K H' σ' τ'->xS K H' G'->Q τ' H'
def lowGs (K:yJ) (t:Gs3):TGs:=fun vs τ H Q=>∃ ws σ G,zF K H ws vs/\yK K H σ τ/\xS K H G/\t ws σ G fun σ' G'=>∀ τ' H',yI K H H'->yK K H' σ' τ'->xS K H' G'->Q τ' H'
theorem _root_.L2.PG.imp {tg:Expr} {t t':TG} (h:PG X tg t) (k:∀ v σ H Q,t' v σ H Q->t v σ H Q):PG X tg t':=fun pins s σ H v u Q I r q=>h pins s σ H v u Q I r (k v σ H Q q)
theorem _root_.L2.PGs.imp {tg:List Expr} {t t':TGs} (h:PGs X tg t) (k:∀ v σ H Q,t' v σ H Q->t v σ H Q):PGs X tg t':=fun pins s σ H v u Q I r q=>h pins s σ H v u Q I r (k v σ H Q q)
theorem bT {e:Expr} {es:List Expr} {env:Env} (h:xH e=true):assignEach (e::es) env=(false,assign e env)::assignEach es env:=by
 cases e<;>first|rfl|exact absurd h zzN
end
def MonoG (t:G3):Prop:=∀ w σ G (Q Q':jE->Hw->Prop),(∀ a b,Q a b->Q' a b)->t w σ G Q->t w σ G Q'
def zk7 (t:Gs3):Prop:=∀ w σ G (Q Q':jE->Hw->Prop),(∀ a b,Q a b->Q' a b)->t w σ G Q->t w σ G Q'
mutual
theorem mW:∀ t:ITg,MonoG (zW t)
 | .nm i=>fun w σ G Q Q' k h=>k _ _ h
 | .tup ts=>fun w σ G Q Q' k h=>by
  cases w with
  |tup ws=>exact fA ts ws σ G Q Q' k h
  |_=>exact h.elim
theorem fA:∀ ts:ITgs,zk7 (zY ts)
 | .nil=>fun w σ G Q Q' k h=>by
  cases w with
  |nil=>exact k _ _ h
  |cons _ _=>exact h.elim
 | .cons t ts=>fun w σ G Q Q' k h=>by
  cases w with
  |nil=>exact h.elim
  |cons x r=>exact mW t x σ G _ _ (fun σ' G' h=>fA ts r σ' G' Q Q' k h) h
end
theorem zbT {Γ:Ctx3} {M:MC} {p:Par} {X:Cx} (L:Lk Γ M p X) {x:Str} (h:locB M x=true):Loc X.env.scope x/\(X.fn x=true\/X.env.scope.names.lookup x=some .local):=by
 unfold locB at h;rw [L.sc]
 split at h
 .rename_i e;exact ⟨.inl e,.inr e⟩
 .rename_i e;exact ⟨.inr e,.inl (L.own x h)⟩
 .exact absurd h zzN
mutual
theorem sndG {Γ:Ctx3} {M:MC} {p:Par} {X:Cx} (L:Lk Γ M p X):∀ (t:ITg) (x:Expr),mG M t x=true->PG X x (lowG X.K (zW t))
  | .nm i,x,h=>by
   cases x with
   |Name y q =>
    replace h:=rP h;have lo:=zbT L h.2;refine (za4 (i:=i) (L.N▸L.nd) (by rw [L.N];exact jF h.1) lo.1 lo.2).imp fun v σ H Q q=>?_;obtain ⟨w,σ3,G,rp,hs,ab,q⟩:=q;exact q _ _ .refl (hs.set rp i) ab
   |_=>exact absurd h zzN
  | .tup ts,x,h=>by
   cases x with
   |Tuple es k q =>
    skip
    obtain ⟨ps,hn,hst⟩:=zgT L ts es h;refine (zf6 (n:=es.length) L.fits.calm ps hn hst).imp fun v σ H Q q=>?_;obtain ⟨w,σ3,G,rp,hs,ab,q⟩:=q
    cases w with
    |tup ws =>
      obtain ⟨a,vs,rfl,sq,rs⟩:=rp;refine ⟨a,vs,rfl,sq,?_,ws,σ3,G,rs,hs,ab,q⟩;rw [rs.length];exact zfe ts es ws σ3 G _ h q
    |_=>exact q.elim
   |_=>exact absurd h zzN
theorem zgT {Γ:Ctx3} {M:MC} {p:Par} {X:Cx} (L:Lk Γ M p X):∀ (ts:ITgs) (xs:List Expr),mGs M ts xs=true->PGs X xs (lowGs X.K (zY ts))/\(assignEach xs X.env).length=xs.length/\(assignEach xs X.env).findIdx? (·.1)=none
 | .nil,[],_=>⟨(zdb).imp fun vs σ H Q q=>by
   obtain ⟨ws,σ3,G,rs,hs,ab,q⟩:=q
   cases ws with
   |nil=>exact ⟨rs,q _ _ .refl hs ab⟩
   |cons _ _=>exact q.elim,rfl,rfl⟩
 | .cons t ts,x::xs,h=>by
  simp only [mGs,Bool.and_eq_true] at h;obtain ⟨ps,hn,hst⟩:=zgT L ts xs h.2;have es:=bT (es:=xs) (env:=X.env) h.1.1;refine ⟨(fL (sndG L t x h.1.2) ps (by rw [es];rfl)).imp fun vs σ H Q q=>?_,by rw [es,List.length_cons,List.length_cons,hn],?_⟩
  .obtain ⟨ws,σ3,G,rs,hs,ab,q⟩:=q
   cases ws with
   |nil=>exact q.elim
   |cons w r =>
    obtain ⟨v,vr,e,rp,rr⟩:=rs;refine ⟨v,vr,e,w,σ3,G,rp,hs,ab,mW t w σ3 G _ _ (fun σ' G' q τ' H' g' hs' ab'=>?_) q⟩;exact ⟨r,σ',G',rr.mono g',hs',ab',fA ts r σ' G' _ _ (fun σ2 G2 q τ2 H2 g2=>q τ2 H2 (g'.trans g2)) q⟩
  .rw [es,List.findIdx?_cons];simp only [zzB,if_false,hst];rfl
theorem zfe {M:MC}:∀ (ts:ITgs) (xs:List Expr) (ws:List W) (σ:jE) (G:Hw) (Q:jE->Hw->Prop),mGs M ts xs=true->zY ts ws σ G Q->ws.length=xs.length
 | .nil,[],ws,σ,G,Q,_,q=>by
  cases ws with
  |nil=>rfl
  |cons _ _=>exact q.elim
 | .cons t ts,x::xs,ws,σ,G,Q,h,q=>by
  simp only [mGs,Bool.and_eq_true] at h
  cases ws with
  |nil=>exact q.elim
  |cons w r =>
   have:∃ σ' G',zY ts r σ' G' Q:=exG t w σ G _ q;obtain ⟨σ',G',q'⟩:=this;rw [List.length_cons,List.length_cons,zfe ts xs r σ' G' Q h.2 q']
theorem exG:∀ (t:ITg) (w:W) (σ:jE) (G:Hw) (Q:jE->Hw->Prop),zW t w σ G Q->∃ σ' G',Q σ' G'
 | .nm i,w,σ,G,Q,q=>⟨_,_,q⟩
 | .tup ts,w,σ,G,Q,q=>by
  cases w with
  |tup ws=>exact exGs ts ws σ G Q q
  |_=>exact q.elim
theorem exGs:∀ (ts:ITgs) (ws:List W) (σ:jE) (G:Hw) (Q:jE->Hw->Prop),zY ts ws σ G Q->∃ σ' G',Q σ' G'
 | .nil,ws,σ,G,Q,q=>by
  cases ws with
  |nil=>exact ⟨_,_,q⟩
  |cons _ _=>exact q.elim
 | .cons t ts,ws,σ,G,Q,q=>by
  cases ws with
  |nil=>exact q.elim
  |cons w r =>
   obtain ⟨σ',G',q'⟩:=exG t w σ G _ q;exact exGs ts r σ' G' Q q'
end
def lowO (K:yJ) (t:jE->Hw->(Option Int->Hw->Prop)->Prop):TO:=fun τ H Q=>∃ σ G,yK K H σ τ/\xS K H G/\t σ G fun o G'=>∀ H',yI K H H'->xS K H' G'->Q o H'
theorem _root_.L2.PO.imp {X:Cx} {e:Option Expr} {t t':TO} (h:PO X e t) (k:∀ σ H Q,t' σ H Q->t σ H Q):PO X e t':=fun pins s σ H Q I q=>h pins s σ H Q I (k σ H Q q)
theorem _root_.L2.PTs.imp {X:Cx} {e:List Expr} {t t':TT} (h:PTs X e t) (k:∀ σ H Q,t' σ H Q->t σ H Q):PTs X e t':=fun pins s σ H Q I q=>h pins s σ H Q I (k σ H Q q)
theorem _root_.L2.PI.imp {X:Cx} {tg x:Expr} {t t':TI} (h:PI X tg x t) (k:∀ σ H R,t' σ H R->t σ H R):PI X tg x t':=fun pins s σ H R I q=>h pins s σ H R I (k σ H R q)
def capV (k:Nat) (caps:List Nat) (σ:L2.St):L2.St:=List.replicate k none++caps.map fun j=>(σ[j]?).join
theorem zbo {α:Type} {k:Nat} {caps:List Nat} {σ:List (Option α)} {i:Nat} {v:α} (h:(List.replicate k none++caps.map fun j=>(σ[j]?).join)[i]?=some (some v)):k<=i/\∃ j,caps[i-k]?=some j/\σ[j]?=some (some v):=by
 by_cases hi:i<k
 .rw [List.getElem?_append_left (by simpa using hi),List.getElem?_replicate,if_pos hi] at h;cases h
 .rw [List.getElem?_append_right (by simpa using hi),List.length_replicate,List.getElem?_map] at h;refine ⟨by omega,?_⟩
  cases e:caps[i-k]? with
  |none=>rw [e] at h;cases h
  |some j =>
   rw [e] at h;have h':(σ[j]?).join=some v:=Option.some.inj h;refine ⟨j,rfl,?_⟩
   cases q:σ[j]? with
   |none=>rw [q] at h';cases h'
   |some o=>rw [q] at h';exact congrArg some h'
theorem zin {K:yJ} {H:Hp} {σ:jE} {τ:L2.St} (h:yK K H σ τ) (k:Nat) (caps:List Nat):yK K H (capS k caps σ) (capV k caps τ):=by
 refine ⟨by simp [capS,capV],fun i w e=>?_⟩;obtain ⟨hk,j,ej,es⟩:=zbo e;obtain ⟨v,ev,rp⟩:=h.2 j w es;refine ⟨v,?_,rp⟩;unfold capV;rw [List.getElem?_append_right (by simpa using hk),List.length_replicate,List.getElem?_map,ej];simp [ev]
theorem zbK:∀ {l:List Str},fJ l=true->l.Nodup
 | [],_=>List.nodup_nil
 |x::r,h=>by
  simp only [fJ,Bool.and_eq_true,Bool.not_eq_true'] at h;refine List.nodup_cons.mpr ⟨fun hm=>?_,zbK h.2⟩;have:=List.elem_eq_true_of_mem hm;rw [List.contains_eq_mem] at h;simp [hm] at h
theorem zg3 {X:Cx} {sc out:Scope} (e:X.env.scope=out):relabel sc X.env=relS sc out:=by
 unfold relabel relS Env.kindOf;rw [e]
theorem zgx {X:Cx} {sc out:Scope} (e:X.env.scope=out) (h:blkB out sc=true):BlkSc X sc:=by
 unfold blkB at h;simp only [Bool.and_eq_true,List.all_eq_true] at h;obtain ⟨⟨⟨h1,h2⟩,h3⟩,h4⟩:=h;refine ⟨eq_of_beq h1,fun y hy=>?_,fun y hy=>?_,fun x hx=>?_,fun y hy z=>?_⟩
 .simpa using (h2 _ hy).1
 .simpa using (h2 _ hy).2
 .have:=h3 _ hx;simp only [beq_self_eq_true,Bool.not_true,Bool.false_or,Bool.or_eq_true,beq_iff_eq] at this;show X.env.scope.names.lookup x=_\/X.env.scope.names.lookup x=_;rw [e];exact this
 .have:=h4 y hy;rw [z] at this;simpa using this
theorem zeb {X:Cx} {M:MC} {sc:Scope} {names:List Str} {caps:List Nat} (eN:X.N=M.N) (es:X.env.scope=M.sc)
  (h:(caps.all fun j=>decide (j<M.N.length)&&(sc.names.lookup (M.N.getD j Str.empty)==some .free))=true) :
  Caps X sc (names++caps.map (fun j=>M.N.getD j Str.empty)) (capV names.length caps):=by
 intro σ hl;simp only [List.all_eq_true,Bool.and_eq_true,decide_eq_true_eq,Bool.not_eq_true'] at h;refine ⟨by simp [capV],fun i x v hN hσ _=>?_⟩;obtain ⟨hk,j,ej,e⟩:=zbo hσ;rw [List.getElem?_append_right hk,List.getElem?_map,ej] at hN;have hx:M.N.getD j Str.empty=x:=Option.some.inj hN;have hj:=h j (List.mem_of_getElem? ej);refine ⟨?_,j,?_,e⟩
 .rw [← hx];exact eq_of_beq hj.2
 .rw [eN,← hx,List.getD_eq_getElem?_getD,List.getElem?_eq_getElem hj.1];rfl
theorem zj8 {K:yJ} {J:It} {H1:Hp} {items:List W} {stab:Hw->Prop} {G1:Hw} {σ:jE} {τ:L2.St} {tg:ITg} {c:T3} {e:E3} {Q:VK} {H0:Hp} (mc:tE c) (me:jX e) (it:ItIs K J H1 items stab) (ab:xS K H1 G1) (hs:yK K H1 σ τ) (g0:yI K H0 H1)
  (hw:∀ w G' (Q:jE->Hw->Prop),zW tg w σ G' Q->zW tg w σ G' fun σ2 G2=>(σ2.length=σ.length/\∀ (i:Nat) (v:W),σ[i]?=some (some v)->σ2[i]?=some (some v))/\Q σ2 G2)
  (h:lcR items stab G1 (fun w G' K=>zW tg w σ G' fun σ2 G2=>c σ2 G2 fun b G3=>if b=true then e σ2 G3 fun x G4=>K (some x) G4 else K none G3) (vC K H0 Q)) :
  tLCb J τ (lowG K (zW tg)) (kQ K c) (yA K e) (fun acc H'=>∀ p,H' p=none->Q (.ref p) (xL H' p (.lst acc))) H1:=by
 obtain ⟨Pv,p0,pst,hlen,step,fin⟩:=h;refine ⟨fun i m τ acc H=>m+i=items.length/\yI K H1 H/\yK K H σ τ/\∃ ws G,zF K H ws acc/\xS K H G/\Pv i ws G,⟨items.length,rfl,.refl,hs,[],G1,rfl,ab,p0⟩,?_⟩;rintro i m τ acc H ⟨hm,gr,hs,ws,G,rs,a,pv⟩;have hst:=pst i ws G pv (by omega);have hacc:acc.length=ws.length:=rs.length
 by_cases hi:i<items.length
 .refine .inr ⟨it.go i H G gr a hst.1 hi,by omega,fun x H' y=>?_⟩;obtain ⟨w,ew,g1,rp,a1⟩:=it.yld i H G x H' gr a hst.1 hi y;refine ⟨w,σ,G,rp,hs.mono g1,a1,mW tg w σ G _ _ (fun σ2 G2 q τ2 H2 g2 hs2 a2=>?_) (hw w G _ (step i w ws G ew pv))⟩;obtain ⟨⟨wl,wk⟩,q⟩:=q;have back:∀ {τ':L2.St} {H':Hp},yK K H' σ2 τ'->yK K H' σ τ':=fun {τ' H'} r=>⟨by rw [← wl];exact r.1,fun k w e=>r.2 k w (wk k w e)⟩;refine cT mc hs2 a2 q fun b G3 H3 g3 hs3 a3 q3=>?_
  cases b with
  |true =>
   rw [if_pos rfl] at q3 ⊢;refine yE me hs3 a3 q3 fun x G4 v H4 g4 hs4 rx a4 q4=>?_;refine ⟨m-1,by omega,by omega,gr.trans (g1.trans (g2.trans (g3.trans g4))),back hs4,ws++[x],G4,?_,a4,q4⟩;exact (rs.mono (g1.trans (g2.trans (g3.trans g4)))).append ⟨v,[],rfl,rx,rfl⟩
  |false =>
   rw [if_neg (by decide)] at q3 ⊢;exact ⟨m-1,by omega,by omega,gr.trans (g1.trans (g2.trans g3)),back hs3,ws,G3,rs.mono (g1.trans (g2.trans g3)),a3,q3⟩
 .refine .inl ⟨it.stop i H G gr a hst.1 (by omega),fun p hp=>?_⟩;have ei:i=items.length:=by omega
  subst ei;exact fin ws G pv p (a.free hp) _ _ ((g0.trans gr).trans (xF hp)) rfl (a.new hp ⟨acc,rfl,rs.mono (xF hp)⟩)
theorem zc1:∀ (tg:ITg) (w:W) (σ:jE) (G:Hw) (Q:jE->Hw->Prop),zW tg w σ G Q->zW tg w σ G fun σ2 G2=>σ2.length=σ.length/\Q σ2 G2:=by
 intro tg
 refine ITg.rec (motive_1:=fun _=>True) (motive_2:=fun _=>True) (motive_3:=fun _=>True) (motive_4:=fun _=>True) (motive_5:=fun tg=>∀ (w:W) (σ:jE) (G:Hw) (Q:jE->Hw->Prop),zW tg w σ G Q->zW tg w σ G fun σ2 G2=>σ2.length=σ.length/\Q σ2 G2)
  (motive_6:=fun ts=>∀ (ws:List W) (σ:jE) (G:Hw) (Q:jE->Hw->Prop),zY ts ws σ G Q->zY ts ws σ G fun σ2 G2=>σ2.length=σ.length/\Q σ2 G2)
  ?_ ?_ ?_ ?_ ?_ ?_ ?_ ?_ ?_ ?_ ?_ ?_ ?_ ?_ ?_ ?_ ?_ ?_ ?_ ?_ ?_ ?_ ?_ ?_ ?_ ?_ ?_ ?_ ?_ ?nm ?tup ?nil ?cons tg
 case nm=>exact fun i w σ G Q h=>⟨by simp,h⟩
 case tup =>
  intro ts ih w σ G Q h
  cases w with
  |tup ws=>exact ih ws σ G Q h
  |_=>exact h.elim
 case nil =>
  intro ws σ G Q h
  cases ws with
  |nil=>exact ⟨rfl,h⟩
  |cons _ _=>exact h.elim
 case cons =>
  intro t ts ht hts ws σ G Q h
  cases ws with
  |nil=>exact h.elim
  |cons w r =>
   refine mW t w σ G _ _ (fun σ' G' q=>?_) (ht w σ G _ h);exact fA ts r σ' G' _ _ (fun σ2 G2 q2=>⟨q2.1.trans q.1,q2.2⟩) (hts r σ' G' Q q.2)
 all_goals intros;trivial
mutual
theorem zbD:∀ (tg:ITg) (w:W) (σ:jE) (G:Hw) (Q:jE->Hw->Prop),zW tg w σ G Q->zW tg w σ G fun σ2 G2=>(∀ i,i∉tgIx tg->σ2[i]?=σ[i]?)/\Q σ2 G2
 | .nm j,w,σ,G,Q,h=>⟨fun i hi=>by rw [List.getElem?_set_ne];intro z;exact hi (by simp [tgIx,z]),h⟩
 | .tup ts,w,σ,G,Q,h=>by
  cases w with
  |tup ws=>exact bC ts ws σ G Q h
  |_=>exact h.elim
theorem bC:∀ (ts:ITgs) (ws:List W) (σ:jE) (G:Hw) (Q:jE->Hw->Prop),zY ts ws σ G Q->zY ts ws σ G fun σ2 G2=>(∀ i,i∉zex ts->σ2[i]?=σ[i]?)/\Q σ2 G2
 | .nil,ws,σ,G,Q,h=>by
  cases ws with
  |nil=>exact ⟨fun _ _=>rfl,h⟩
  |cons _ _=>exact h.elim
 | .cons t ts,ws,σ,G,Q,h=>by
  cases ws with
  |nil=>exact h.elim
  |cons w r =>
   refine mW t w σ G _ _ (fun σ' G' q=>?_) (zbD t w σ G _ h);refine fA ts r σ' G' _ _ (fun σ2 G2 q2=>⟨fun i hi=>?_,q2.2⟩) (bC ts r σ' G' Q q.2);simp only [zex,List.mem_append,not_or] at hi;rw [q2.1 i hi.2,q.1 i hi.1]
end
theorem zd3 {K:yJ} {H:Hp}:∀ (ks:List Str) {ws:List W} {vs:List V} {a:List (yC×W)} {b:List (yC×V)},zF K H ws vs->yR K H a b ->
  yR K H ((ks.zip ws).foldl (fun acc kv=>bW acc (.inr kv.1) kv.2) a) (((ks.zip vs).map fun kv=>((Sum.inr kv.1:yC),kv.2)).foldl (fun acc kv=>uI acc kv.1 kv.2) b)
 | [],ws,vs,a,b,_,h=>by simpa using h
 |k::ks,[],vs,a,b,hr,h=>by rw [show vs=[] from hr];simpa using h
 |k::ks,w::ws,vs,a,b,hr,h=>by
  obtain ⟨v,r,e,rw',rr⟩:=hr;subst e;simp only [List.zip_cons_cons,List.foldl_cons,zzU];exact zd3 ks rr (h.put rw')
theorem dS {K:yJ} {H:Hp} {f:Str} {w:W}:∀ {l:List (Str×W)} {l':List (Str×V)},yR K H l l'->l.lookup f=some w->∃ v,l'.lookup f=some v/\xJ K H w v
 | [],_,h,e=>by cases e
 |p::r,_,⟨v,t,e,h,hr⟩,q=>by
  subst e;obtain ⟨n,u⟩:=p;rw [List.lookup_cons] at q ⊢
  cases hx:f==n with
  |true=>rw [hx] at q;cases q;exact ⟨v,rfl,h⟩
  |false=>rw [hx] at q;exact dS hr q
theorem zfS {K:yJ} {H:Hp} {G:Hw} {w:W} {v:V} {T:String} (r:xJ K H w v) (ab:xS K H G) (h:tyW G w T):tyV K T v H:=by
 cases w with
 |str x=>cases r;exact h
 |ref p =>
  cases r;simp only [tyW] at h
  split at h
  .rename_i ws e;obtain ⟨vs,q,_⟩:=ab.lst e;exact .inl ⟨h,vs,.of q⟩
  .rename_i ws e;obtain ⟨vs,q,_⟩:=ab.seq (a:=p) (ws:=ws) (by unfold yS;rw [e]);exact .inl ⟨h,vs,q⟩
  .rename_i kvs e;obtain ⟨l,q,_⟩:=ab.dic e;exact .inr (.inr (.inl ⟨h,.inl ⟨l,q⟩⟩))
  .exact h.elim
 |_=>exact h.elim
theorem zhx {l:List Nat} {k:Nat} (h:l.all (fun i=>decide (i<k))=true) {i:Nat} (hi:k<=i):i∉l:=fun hm=>by
 have:=List.all_eq_true.mp h i hm;simp at this;omega
theorem zhO {op:CmpOp} {a b:IE} {M:MC} {l:Expr} {os:List CmpOp} {rs:List Expr} {q:Pos} (h:mE (.cmp op a b) M (.Compare l os rs q)=true):∃ o r,os=[o]/\rs=[r]:=by
 cases os with
 |nil=>exact absurd h zzN
 |cons o os =>
  cases os with
  |cons _ _=>exact absurd h zzN
  |nil =>
   cases rs with
   |nil=>exact absurd h zzN
   |cons r rs =>
    cases rs with
    |cons _ _=>exact absurd h zzN
    |nil=>exact ⟨o,r,rfl,rfl⟩
theorem zhP {o1 o2:CmpOp} {a b c:IE} {M:MC} {l:Expr} {os:List CmpOp} {rs:List Expr} {q:Pos} (h:mE (.chn o1 o2 a b c) M (.Compare l os rs q)=true):∃ p1 p2 r t,os=[p1,p2]/\rs=[r,t]:=by
 cases os with
 |nil=>exact absurd h zzN
 |cons p1 os =>
  cases os with
  |nil=>exact absurd h zzN
  |cons p2 os =>
   cases os with
   |cons _ _=>exact absurd h zzN
   |nil =>
    cases rs with
    |nil=>exact absurd h zzN
    |cons r rs =>
     cases rs with
     |nil=>exact absurd h zzN
     |cons t rs =>
      cases rs with
      |cons _ _=>exact absurd h zzN
      |nil=>exact ⟨p1,p2,r,t,rfl,rfl⟩
theorem zhQ {o1 o2 o3:CmpOp} {a b c d:IE} {M:MC} {l:Expr} {os:List CmpOp} {rs:List Expr} {q:Pos} (h:mE (.ch3 o1 o2 o3 a b c d) M (.Compare l os rs q)=true):∃ p1 p2 p3 r t u,os=[p1,p2,p3]/\rs=[r,t,u]:=by
 match os,rs,h with
 | [p1,p2,p3],[r,t,u],_=>exact ⟨p1,p2,p3,r,t,u,rfl,rfl⟩
section
variable {X : Cx} {a b c d : Expr} {pos : Pos} {ta tb tc td : TE}
def tCh3 (r1 r2 r3:R2) (ta tb tc td:TE):TE:=fun σ H Q=>ta σ H fun x H1=>tb σ H1 fun y H2=>r1 x y H2 fun z H3=>∃ k,z=.bl k /\
 (if k=true then tc σ H3 fun u H4=>r2 y u H4 fun z2 H5=>∃ k2,z2=.bl k2/\(if k2=true then td σ H5 fun t H6=>r3 u t H6 Q else Q (.bl false) H5) else Q (.bl false) H3)
theorem zjG {o1 o2 o3:CmpOp} {r1 r2 r3:R2} (h1:vS X (compareOp o1) r1) (h2:vS X (compareOp o2) r2) (h3:vS X (compareOp o3) r3) (ha:PE X a ta) (hb:PE X b tb) (hc:PE X c tc) (hd:PE X d td)
  (hm:lastMarks [o1,o2,o3] [b,c,d]=false):PE X (.Compare a [o1,o2,o3] [b,c,d] pos) (tCh3 r1 r2 r3 ta tb tc td):=by
 intro pins s σ H Q I h
 refine Compare_chain (yG (ha pins s σ H _ I h) fun v s1 ⟨x,H1,I1,e1,q1⟩=>chain_link (yG (hb pins s1 σ H1 _ I1 q1) fun u s2 ⟨y,H2,I2,e2,q2⟩ =>
  yG (h1 pins s2 σ H2 x y v u _ I2 e1 e2 q2) fun _ s3 ⟨z,H3,I3,e3,k,e,q3⟩=>?_)) hm
 subst e;cases e3;refine wpAny_truthy_bool ?_
 cases k with
 |false=>exact ite_ff ⟨.bl false,H3,I3,rfl,q3⟩
 |true =>
  refine ite_tt (chain_link (yG (hc pins s3 σ H3 _ I3 q3) fun w4 s4 ⟨z4,H4,I4,e4,q4⟩=>yG (h2 pins s4 σ H4 y z4 u w4 _ I4 e2 e4 q4) fun _ s5 ⟨z5,H5,I5,e5,k2,e,q5⟩=>?_));subst e;cases e5;refine wpAny_truthy_bool ?_
  cases k2 with
  |false=>exact ite_ff ⟨.bl false,H5,I5,rfl,q5⟩
  |true=>exact ite_tt (chain_last (yG (hd pins s5 σ H5 _ I5 q5) fun w6 s6 ⟨z6,H6,I6,e6,q6⟩=>h3 pins s6 σ H6 z4 z6 w4 w6 Q I6 e4 e6 q6))
theorem zjq {o1 o2 o3:CmpOp} {r1 r2 r3:R2} (h1:vS X (compareOp o1) r1) (h2:vS X (compareOp o2) r2) (h3:vS X (compareOp o3) r3) (ha:PE X a ta) (hb:PE X b tb) (hc:PE X c tc) (hd:PE X d td)
  (hm:lastMarks [o1,o2,o3] [b,c,d]=false):PT X (.Compare a [o1,o2,o3] [b,c,d] pos) (zgN (tCh3 r1 r2 r3 ta tb tc td)):=by
 intro pins s σ H Q I h
 refine isTrue_chain (yG (ha pins s σ H _ I h) fun v s1 ⟨x,H1,I1,e1,q1⟩=>test_link (yG (hb pins s1 σ H1 _ I1 q1) fun u s2 ⟨y,H2,I2,e2,q2⟩ =>
  yG (h1 pins s2 σ H2 x y v u _ I2 e1 e2 q2) fun _ s3 ⟨z,H3,I3,e3,k,e,q3⟩=>?_)) hm
 subst e;cases e3;refine wpAny_truthy_bool ?_
 cases k with
 |false =>
  obtain ⟨k',e',q'⟩:=q3;cases e';exact ite_ff ⟨H3,I3,q'⟩
 |true =>
  refine ite_tt (test_link (yG (hc pins s3 σ H3 _ I3 q3) fun w4 s4 ⟨z4,H4,I4,e4,q4⟩=>yG (h2 pins s4 σ H4 y z4 u w4 _ I4 e2 e4 q4) fun _ s5 ⟨z5,H5,I5,e5,k2,e,q5⟩=>?_));subst e;cases e5;refine wpAny_truthy_bool ?_
  cases k2 with
  |false =>
   obtain ⟨k',e',q'⟩:=q5;cases e';exact ite_ff ⟨H5,I5,q'⟩
  |true =>
   refine ite_tt (test_last (yG (hd pins s5 σ H5 _ I5 q5) fun w6 s6 ⟨z6,H6,I6,e6,q6⟩=>yG (h3 pins s6 σ H6 z4 z6 w4 w6 _ I6 e4 e6 q6) fun _ s7 ⟨z7,H7,I7,e7,k3,e,q7⟩=>?_));subst e;cases e7;exact wpAny_truthy_bool ⟨H7,I7,q7⟩
end
section
variable {Γ : Ctx3} {p : Par} (g : Good Γ p)
def qW (Γ:Ctx3) (p:Par) (e:IE):Prop:=∀ M X x,Lk Γ M p X->mE e M x=true->PE X x (yA X.K (zH Γ XN e).e)/\PT X x (kQ X.K (zH Γ XN e).t)/\∀ op vs pos,x=.BoolOp op vs pos->PW X x (kQ X.K (zH Γ XN e).t)
def OkO (Γ:Ctx3) (p:Par) (o:IO):Prop:=∀ M X,Lk Γ M p X->(∀ x,mO o M x=true->PO X x (lowO X.K (zM Γ XN o)))/\∀ xs,mC o M xs=true->PTs X xs (kQ X.K (zP Γ o))
def OkA (Γ:Ctx3) (p:Par) (es:IEs):Prop:=∀ M X xs,Lk Γ M p X->mA es M xs=true->PA X xs (pQ X.K (zV Γ XN es))/\xs.all xH=true /\
 (∀ ks keys pos,keyB ks keys=true->keys.length=xs.length->keys.all (·.isSome)=true/\ks.length=keys.length/\∃ trs,PPs X pos keys xs trs/\∀ τ H (Q:List (V×V)->Hp->Prop),
  (∃ σ G,yK X.K H σ τ/\xS X.K H G/\zV Γ XN es σ G fun ws G'=>∀ vs H',yI X.K H H'->zF X.K H' ws vs->xS X.K H' G'->Q ((ks.zip vs).map fun kv=>(V.str kv.1,kv.2)) H')->zby trs τ H Q)/\mD X xs (semL Γ es)
def OkI (Γ:Ctx3) (p:Par) (it:II):Prop:=∀ M X x,Lk Γ M p X->mI it M x=true->∀ tg,PI X tg x (lowI X.K (zS Γ XN it))
theorem jR {M:MC} {X:Cx} {x:Expr} {e:E3} (m:jX e) (h:PE X x (yA X.K e)) (he:∀ whole,isTrue x X.env whole=(do let v ← whole;standAt x.pos;holding [v] (truthy v))) (hb:∀ op vs pos,x≠.BoolOp op vs pos) :
  PE X x (yA X.K (zC e).e)/\PT X x (kQ X.K (zC e).t)/\∀ op vs pos,x=.BoolOp op vs pos->PW X x (kQ X.K (zC e).t) :=
 ⟨h,pt_of m h he,fun op vs pos z=>absurd z (hb op vs pos)⟩
include g
theorem s_var (i:Nat):qW Γ p (.var i):=by
 intro M X x L h
 cases x with
 |Name y q =>
  replace h:=bd4 h;simp only [Bool.not_eq_true'] at h;refine jR (M:=M) (zD g.mono XN (.var i)) ((zjx (i:=i) (by rw [L.N];exact jF h.1.1.1) (by rw [L.sc];exact ziH h.1.1.2) h.1.2 h.2).imp fun τ H Q q=>?_) (fun _=>rfl) (fun _ _ _ z=>nomatch z);obtain ⟨σ,G,hs,ab,q⟩:=q
  split at q
  .rename_i w e;obtain ⟨v,ev,rp⟩:=hs.2 i w e;exact ⟨v,ev,q v H .refl rp ab⟩
  .exact q.elim
 |_=>exact absurd h zzN
theorem s_con (c:Const):qW Γ p (.con c):=by
 intro M X x L h
 cases x with
 |Constant d k q =>
  replace h:=of_decide_eq_true h;subst h;refine jR (M:=M) (zD g.mono XN (.con c)) ?_ (fun _=>rfl) (fun _ _ _ z=>nomatch z)
  cases c with
  |none=>exact zjD.imp fun τ H Q q=>by obtain ⟨σ,G,hs,ab,q⟩:=q;exact q _ H .refl rfl ab
  |bool b=>exact pe_bl.imp fun τ H Q q=>by obtain ⟨σ,G,hs,ab,q⟩:=q;exact q _ H .refl rfl ab
  |int b=>exact zf9.imp fun τ H Q q=>by obtain ⟨σ,G,hs,ab,q⟩:=q;exact q _ H .refl rfl ab
  |str b=>exact zf7.imp fun τ H Q q=>by obtain ⟨σ,G,hs,ab,q⟩:=q;exact q _ H .refl rfl ab
  |_=>exact fun pins s σ H Q I q=>by obtain ⟨σ,G,hs,ab,q⟩:=q;exact q.elim
 |_=>exact absurd h zzN
theorem s_glb (i:Nat):qW Γ p (.glb i):=by
 intro M X x L h
 cases x with
 |Name y q =>
  replace h:=rP h;have gl:=zcs L.sc h.2;have hi:=jF h.1;rw [← L.gls] at hi;obtain ⟨e,ei,rfl⟩:=sU hi;refine jR (M:=M) (zD g.mono XN (.glb i)) ((g.gl e (wI ei) X L.fits gl.1 q gl.2.1 gl.2.2).imp fun τ H Q q=>?_) (fun _=>rfl) (fun _ _ _ z=>nomatch z);obtain ⟨σ,G,hs,ab,q⟩:=q;simp only [ei] at q;exact ⟨σ,G,hs,ab,q⟩
 |_=>exact absurd h zzN
theorem pO {M:MC} {X:Cx} (L:Lk Γ M p X):X.A.units+200<cLine:=by rw [L.fits.A];exact g.un
theorem s_bin (op:Operator) (a b:IE) (ha:qW Γ p a) (hb:qW Γ p b):qW Γ p (.bin op a b):=by
 intro M X x L h
 cases x with
 |BinOp l o r q =>
  replace h:=bd3 h;simp only [decide_eq_true_eq] at h;obtain ⟨⟨rfl,h1⟩,h2⟩:=h;exact jR (M:=M) (zD g.mono XN (.bin op a b)) ((pe_op (zkX op) (ha M X l L h1).1 (hb M X r L h2).1).imp fun τ H Q q=>zbJ (zD g.mono XN a) (zD g.mono XN b) (zaP op) q) (fun _=>rfl) (fun _ _ _ z=>nomatch z)
 |_=>exact absurd h zzN
theorem s_neg (a:IE) (ha:qW Γ p a):qW Γ p (.neg a):=by
 intro M X x L h
 cases x with
 |UnaryOp o l q =>
  cases o with
  |USub =>
   skip
   refine jR (M:=M) (zD g.mono XN (.neg a)) ((zjy zfR (ha M X l L h).1).imp fun τ H Q q=>?_) (fun _=>rfl) (fun _ _ _ z=>nomatch z);obtain ⟨σ,G,hs,ab,q⟩:=q;refine yE (zD g.mono XN a) hs ab q fun w G1 v H1 gr _ rp ab q=>?_
   cases w with
   |int i=>cases rp;exact ⟨i,rfl,q _ H1 gr rfl ab⟩
   |_=>exact q.elim
  |_=>exact absurd h zzN
 |_=>exact absurd h zzN
theorem s_not (a:IE) (ha:qW Γ p a):qW Γ p (.not a):=by
 intro M X x L h
 cases x with
 |UnaryOp o l q =>
  cases o with
  |Not =>
   skip
   refine ⟨(zjC (ha M X l L h).1).imp fun τ H Q q=>?_,(zjp (ha M X l L h).2.1).imp fun τ H Q q=>?_,fun _ _ _ z=>nomatch z⟩
   .obtain ⟨σ,G,hs,ab,q⟩:=q;refine yE (zD g.mono XN a) hs ab q fun w G1 v H1 gr _ rp ab q=>?_
    cases w with
    |bl i=>cases rp;exact ⟨i,rfl,q _ H1 gr rfl ab⟩
    |_=>exact q.elim
   .obtain ⟨σ,G,hs,ab,q⟩:=q;exact cT (pV g.mono XN a) hs ab q fun b G1 H1 gr _ ab q=>q H1 gr ab
  |_=>exact absurd h zzN
 |_=>exact absurd h zzN
theorem s_cmp (op:CmpOp) (a b:IE) (ha:qW Γ p a) (hb:qW Γ p b):qW Γ p (.cmp op a b):=by
 intro M X x L h
 cases x with
 |Compare l os rs q =>
   obtain ⟨o,r,rfl,rfl⟩:=zhO h;replace h:=bd4 h;simp only [decide_eq_true_eq] at h;obtain ⟨⟨⟨rfl,h1⟩,h2⟩,h3⟩:=h;have m:=zD g.mono XN (.cmp op a b)
   refine ⟨(zhm (qQ (pO g L) op) (ha M X l L h1).1 (hb M X r L h2).1 (vY h3)).imp fun τ H Q q=>zbJ (zD g.mono XN a) (zD g.mono XN b) (xW op) q,
    (zhb (qQ (pO g L) op) (ha M X l L h1).1 (hb M X r L h2).1 (vY h3)).imp fun τ H Q q=>zbJ (zD g.mono XN a) (zD g.mono XN b) (xW op) (zbp m q),fun _ _ _ z=>nomatch z⟩
 |_=>exact absurd h zzN
theorem s_chn (o1 o2:CmpOp) (a b c:IE) (ha:qW Γ p a) (hb:qW Γ p b) (hc:qW Γ p c):qW Γ p (.chn o1 o2 a b c):=by
 intro M X x L h
 cases x with
 |Compare l os rs q =>
   obtain ⟨q1,q2,r,t,rfl,rfl⟩:=zhP h;replace h:=bd6 h;simp only [decide_eq_true_eq] at h;obtain ⟨⟨⟨⟨⟨rfl,rfl⟩,h1⟩,h2⟩,h3⟩,h4⟩:=h;have m:=zD g.mono XN (.chn o1 o2 a b c)
   have key:∀ τ H Q,yA X.K (zH Γ XN (.chn o1 o2 a b c)).e τ H Q->zcQ (nQ X.K (yM o1)) (nQ X.K (yM o2)) (yA X.K (zH Γ XN a).e) (yA X.K (zH Γ XN b).e) (yA X.K (zH Γ XN c).e) τ H Q:=fun τ H Q q=>by
    obtain ⟨σ,G,hs,ab,q⟩:=q;refine yE (zD g.mono XN a) hs ab q fun x G1 v H1 g1 hs1 rx a1 q=>?_;refine yE (zD g.mono XN b) hs1 a1 q fun y G2 u H2 g2 hs2 ry a2 q=>?_;refine ⟨x,y,G2,rx.mono g2,ry,a2,xW o1 x y G2 _ _ (fun z G3 q v3 H3 g3 r3 a3=>?_) q⟩
    cases z with
    |bl k =>
     cases r3;refine ⟨k,rfl,?_⟩;have q:if k=true then _ else _:=q
     split
     .rename_i hk;rw [if_pos hk] at q;refine yE (zD g.mono XN c) (hs2.mono g3) a3 q fun w G4 v4 H4 g4 hs4 r4 a4 q=>?_;exact ⟨y,w,G4,(ry.mono g3).mono g4,r4,a4,xW o2 y w G4 _ _ (fun w5 G5 q v5 H5 g5=>q v5 H5 (g1.trans (g2.trans (g3.trans (g4.trans g5))))) q⟩
     .rename_i hk;rw [if_neg hk] at q;exact q _ H3 (g1.trans (g2.trans g3)) rfl a3
    |_=>exact q.elim
   refine ⟨(ze5 (qQ (pO g L) o1) (qQ (pO g L) o2) (ha M X l L h1).1 (hb M X r L h2).1 (hc M X t L h3).1 (vY (op:=o2) h4)).imp key,
    (zeS (qQ (pO g L) o1) (qQ (pO g L) o2) (ha M X l L h1).1 (hb M X r L h2).1 (hc M X t L h3).1 (vY (op:=o2) h4)).imp fun τ H Q q=>key _ _ _ (zbp m q),fun _ _ _ z=>nomatch z⟩
 |_=>exact absurd h zzN
theorem s_ch3 (o1 o2 o3:CmpOp) (a b c d:IE) (ha:qW Γ p a) (hb:qW Γ p b) (hc:qW Γ p c) (hd:qW Γ p d):qW Γ p (.ch3 o1 o2 o3 a b c d):=by
 intro M X x L h
 cases x with
 |Compare l os rs q =>
   obtain ⟨q1,q2,q3,r,t,t2,rfl,rfl⟩:=zhQ h;replace h:=bd8 h;simp only [decide_eq_true_eq] at h;obtain ⟨⟨⟨⟨⟨⟨⟨rfl,rfl⟩,rfl⟩,h1⟩,h2⟩,h3⟩,h4⟩,h5⟩:=h;have m:=zD g.mono XN (.ch3 o1 o2 o3 a b c d)
   have key:∀ τ H Q,yA X.K (zH Γ XN (.ch3 o1 o2 o3 a b c d)).e τ H Q->tCh3 (nQ X.K (yM o1)) (nQ X.K (yM o2)) (nQ X.K (yM o3)) (yA X.K (zH Γ XN a).e) (yA X.K (zH Γ XN b).e) (yA X.K (zH Γ XN c).e) (yA X.K (zH Γ XN d).e) τ H Q:=fun τ H Q q=>by
    obtain ⟨σ,G,hs,ab,q⟩:=q;refine yE (zD g.mono XN a) hs ab q fun x G1 v H1 g1 hs1 rx a1 q=>?_;refine yE (zD g.mono XN b) hs1 a1 q fun y G2 u H2 g2 hs2 ry a2 q=>?_;refine ⟨x,y,G2,rx.mono g2,ry,a2,xW o1 x y G2 _ _ (fun z G3 q v3 H3 g3 r3 a3=>?_) q⟩
    cases z with
    |bl k =>
     cases r3;refine ⟨k,rfl,?_⟩;have q:if k=true then _ else _:=q
     split
     .rename_i hk;rw [if_pos hk] at q;refine yE (zD g.mono XN c) (hs2.mono g3) a3 q fun w G4 v4 H4 g4 hs4 r4 a4 q=>?_;refine ⟨y,w,G4,(ry.mono g3).mono g4,r4,a4,xW o2 y w G4 _ _ (fun z5 G5 q v5 H5 g5 r5 a5=>?_) q⟩
      cases z5 with
      |bl k2 =>
       cases r5;refine ⟨k2,rfl,?_⟩;have q:if k2=true then _ else _:=q
       split
       .rename_i hk2;rw [if_pos hk2] at q;refine yE (zD g.mono XN d) (hs4.mono g5) a5 q fun w6 G6 v6 H6 g6 hs6 r6 a6 q=>?_;exact ⟨w,w6,G6,(r4.mono g5).mono g6,r6,a6,xW o3 w w6 G6 _ _ (fun w7 G7 q v7 H7 g7=>q v7 H7 (g1.trans (g2.trans (g3.trans (g4.trans (g5.trans (g6.trans g7))))))) q⟩
       .rename_i hk2;rw [if_neg hk2] at q;exact q _ H5 (g1.trans (g2.trans (g3.trans (g4.trans g5)))) rfl a5
      |_=>exact q.elim
     .rename_i hk;rw [if_neg hk] at q;exact q _ H3 (g1.trans (g2.trans g3)) rfl a3
    |_=>exact q.elim
   refine ⟨(zjG (qQ (pO g L) o1) (qQ (pO g L) o2) (qQ (pO g L) o3) (ha M X l L h1).1 (hb M X r L h2).1 (hc M X t L h3).1 (hd M X t2 L h4).1 (vY (op:=o3) h5)).imp key,
    (zjq (qQ (pO g L) o1) (qQ (pO g L) o2) (qQ (pO g L) o3) (ha M X l L h1).1 (hb M X r L h2).1 (hc M X t L h3).1 (hd M X t2 L h4).1 (vY (op:=o3) h5)).imp fun τ H Q q=>key _ _ _ (zbp m q),fun _ _ _ z=>nomatch z⟩
 |_=>exact absurd h zzN
theorem s_and (a b:IE) (ha:qW Γ p a) (hb:qW Γ p b):qW Γ p (.and a b):=by
 intro M X x L h
 have e1:∀ τ H Q,yA X.K (zH Γ XN (.and a b)).e τ H Q->ziX (yA X.K (zH Γ XN a).e) (yA X.K (zH Γ XN b).e) τ H Q:=fun τ H Q q=>by
  obtain ⟨σ,G,hs,ab,q⟩:=q;refine yE (zD g.mono XN a) hs ab q fun w G1 v H1 g1 hs1 rx a1 q=>?_
  cases w with
  |bl k =>
   cases rx;refine ⟨k,rfl,?_⟩;have q:if k=true then _ else _:=q
   split
   .rename_i hk;rw [if_pos hk] at q;exact ⟨σ,G1,hs1,a1,zD g.mono XN b σ G1 _ _ (fun w G' q v' H' g'=>q v' H' (g1.trans g')) q⟩
   .rename_i hk;rw [if_neg hk] at q;exact q _ H1 g1 rfl a1
  |_=>exact q.elim
 have e2:∀ τ H Q,kQ X.K (zH Γ XN (.and a b)).t τ H Q->tAnd (kQ X.K (zH Γ XN a).t) (kQ X.K (zH Γ XN b).t) τ H Q:=fun τ H Q q=>by
  obtain ⟨σ,G,hs,ab,q⟩:=q;refine cT (pV g.mono XN a) hs ab q fun k G1 H1 g1 hs1 a1 q=>?_
  split
  .rename_i hk;rw [if_pos hk] at q;exact ⟨σ,G1,hs1,a1,pV g.mono XN b σ G1 _ _ (fun w G' q H' g'=>q H' (g1.trans g')) q⟩
  .rename_i hk;rw [if_neg hk] at q;exact q H1 g1 a1
 cases x with
 |BoolOp o vs q =>
  match o,vs,h with
  | .And,[l,r],h =>
   replace h:=rP h;have A:=ha M X l L h.1;have B:=hb M X r L h.2;have W2:PW X (.BoolOp .And [l,r] q) (kQ X.K (zH Γ XN (.and a b)).t):=(zf3 A.2.1 (zg7 B.2.1)).imp e2;exact ⟨(zga A.1 (zf8 B.1)).imp e1,W2.pt,fun _ _ _ _=>W2⟩
  | .And,l::r::q'::rest,h =>
   replace h:=rP h;have A:=ha M X l L h.1;have B:=hb M X _ L h.2;have W2:PW X (.BoolOp .And (l::r::q'::rest) q) (kQ X.K (zH Γ XN (.and a b)).t):=(zf3 A.2.1 (B.2.2 _ _ _ rfl)).imp e2;exact ⟨(zga A.1 B.1).imp e1,W2.pt,fun _ _ _ _=>W2⟩
 |_=>exact absurd h zzN
theorem s_or (a b:IE) (ha:qW Γ p a) (hb:qW Γ p b):qW Γ p (.or a b):=by
 intro M X x L h
 have e1:∀ τ H Q,yA X.K (zH Γ XN (.or a b)).e τ H Q->tOrV (yA X.K (zH Γ XN a).e) (yA X.K (zH Γ XN b).e) τ H Q:=fun τ H Q q=>by
  obtain ⟨σ,G,hs,ab,q⟩:=q;refine yE (zD g.mono XN a) hs ab q fun w G1 v H1 g1 hs1 rx a1 q=>?_
  cases w with
  |bl k =>
   cases rx;refine ⟨k,rfl,?_⟩;have q:if k=true then _ else _:=q
   split
   .rename_i hk;rw [if_pos hk] at q;exact q _ H1 g1 rfl a1
   .rename_i hk;rw [if_neg hk] at q;exact ⟨σ,G1,hs1,a1,zD g.mono XN b σ G1 _ _ (fun w G' q v' H' g'=>q v' H' (g1.trans g')) q⟩
  |_=>exact q.elim
 have e2:∀ τ H Q,kQ X.K (zH Γ XN (.or a b)).t τ H Q->tOr (kQ X.K (zH Γ XN a).t) (kQ X.K (zH Γ XN b).t) τ H Q:=fun τ H Q q=>by
  obtain ⟨σ,G,hs,ab,q⟩:=q;refine cT (pV g.mono XN a) hs ab q fun k G1 H1 g1 hs1 a1 q=>?_
  split
  .rename_i hk;rw [if_pos hk] at q;exact q H1 g1 a1
  .rename_i hk;rw [if_neg hk] at q;exact ⟨σ,G1,hs1,a1,pV g.mono XN b σ G1 _ _ (fun w G' q H' g'=>q H' (g1.trans g')) q⟩
 cases x with
 |BoolOp o vs q =>
  match o,vs,h with
  | .Or,[l,r],h =>
   replace h:=rP h;have A:=ha M X l L h.1;have B:=hb M X r L h.2;have W2:PW X (.BoolOp .Or [l,r] q) (kQ X.K (zH Γ XN (.or a b)).t):=(zjo A.2.1 (zjn B.2.1)).imp e2;exact ⟨(zjB A.1 (zf8 B.1)).imp e1,W2.pt,fun _ _ _ _=>W2⟩
  | .Or,l::r::q'::rest,h =>
   replace h:=rP h;have A:=ha M X l L h.1;have B:=hb M X _ L h.2;have W2:PW X (.BoolOp .Or (l::r::q'::rest) q) (kQ X.K (zH Γ XN (.or a b)).t):=(zjo A.2.1 (B.2.2 _ _ _ rfl)).imp e2;exact ⟨(zjB A.1 B.1).imp e1,W2.pt,fun _ _ _ _=>W2⟩
 |_=>exact absurd h zzN
theorem s_ite (c a b:IE) (hc:qW Γ p c) (ha:qW Γ p a) (hb:qW Γ p b):qW Γ p (.ite c a b):=by
 intro M X x L h
 cases x with
 |IfExp t l r q =>
  replace h:=bd3 h;refine ⟨(ze4 (hc M X t L h.1.1).2.1 (ha M X l L h.1.2).1 (hb M X r L h.2).1).imp fun τ H Q q=>?_,fun _ _ _ _ _ _ q=>?_,fun _ _ _ z=>nomatch z⟩
  .obtain ⟨σ,G,hs,ab,q⟩:=q;refine cT (pV g.mono XN c) hs ab q fun k G1 H1 g1 hs1 a1 q=>?_
   split
   .rename_i hk;rw [if_pos hk] at q;exact ⟨σ,G1,hs1,a1,zD g.mono XN a σ G1 _ _ (fun w G' q v' H' g'=>q v' H' (g1.trans g')) q⟩
   .rename_i hk;rw [if_neg hk] at q;exact ⟨σ,G1,hs1,a1,zD g.mono XN b σ G1 _ _ (fun w G' q v' H' g'=>q v' H' (g1.trans g')) q⟩
  .obtain ⟨_,_,_,_,z⟩:=q;exact z.elim
 |_=>exact absurd h zzN
theorem s_ix (a i:IE) (ha:qW Γ p a) (hb:qW Γ p i):qW Γ p (.ix a i):=by
 intro M X x L h
 cases x with
 |Subscript l r q =>
  replace h:=bd3 h;exact jR (M:=M) (zD g.mono XN (.ix a i)) ((pe_ix (ix_ok (pO g L)) (ha M X l L h.1.1).1 (hb M X r L h.1.2).1 (zeZ h.2)).imp fun τ H Q q=>zbJ (zD g.mono XN a) (zD g.mono XN i) zbV q) (fun _=>rfl) (fun _ _ _ z=>nomatch z)
 |_=>exact absurd h zzN
theorem s_sl (a:IE) (lo hi:IO) (ha:qW Γ p a) (hl:OkO Γ p lo) (hh:OkO Γ p hi):qW Γ p (.sl a lo hi):=by
  intro M X x L h
  cases x with
  |Subscript l r q =>
    cases r with
    |Slice y z sp q2 =>
     cases sp with
     |none =>
      replace h:=bd3 h;refine jR (M:=M) (zD g.mono XN (.sl a lo hi)) ((ze3 sl_ok (ha M X l L h.1.1).1 ((hl M X L).1 y h.1.2) ((hh M X L).1 z h.2)).imp fun τ H Q q=>?_) (fun _=>rfl) (fun _ _ _ z=>nomatch z);obtain ⟨σ,G,hs,ab,q⟩:=q;refine yE (zD g.mono XN a) hs ab q fun w G1 v H1 g1 hs1 rx a1 q=>?_;refine ⟨σ,G1,hs1,a1,zjW g.mono XN lo σ G1 _ _ (fun o G2 q H2 g2 a2=>?_) q⟩;refine ⟨σ,G2,hs1.mono g2,a2,zjW g.mono XN hi σ G2 _ _ (fun o2 G3 q H3 g3 a3=>?_) q⟩;exact ⟨w,G3,(rx.mono g2).mono g3,a3,zbC (fun w' G' q v' H' g'=>q v' H' (g1.trans (g2.trans (g3.trans g')))) q⟩
     |some _=>exact absurd h zzN
    |_=>exact absurd h zzN
  |_=>exact absurd h zzN
theorem s_tup (es:IEs) (hs:OkA Γ p es):qW Γ p (.tup es):=by
 intro M X x L h
 cases x with
 |Tuple xs k q =>
  skip
  refine jR (M:=M) (zD g.mono XN (.tup es)) ((zjz (hs M X xs L h).1).imp fun τ H Q q=>?_) (fun _=>rfl) (fun _ _ _ z=>nomatch z);obtain ⟨σ,G,hs',ab,q⟩:=q;refine pG (kY g.mono XN es) hs' ab q fun ws G1 vs H1 g1 hs1 rs a1 q=>⟨by rw [rs.length];exact q.1,gO a1 rs fun v' H' g'=>q.2 v' H' (g1.trans g')⟩
 |_=>exact absurd h zzN
theorem s_lst (es:IEs) (hs:OkA Γ p es):qW Γ p (.lst es):=by
 intro M X x L h
 cases x with
 |List xs q =>
  skip
  refine jR (M:=M) (zD g.mono XN (.lst es)) ((zjE (hs M X xs L h).1).imp fun τ H Q q=>?_) (fun _=>rfl) (fun _ _ _ z=>nomatch z);obtain ⟨σ,G,hs',ab,q⟩:=q;refine pG (kY g.mono XN es) hs' ab q fun ws G1 vs H1 g1 hs1 rs a1 q=>⟨by rw [rs.length];exact q.1,qL a1 rs fun r hr v' H' g'=>q.2 r hr v' H' (g1.trans g')⟩
 |_=>exact absurd h zzN
theorem fV {Γ:Ctx3} {M:MC} {es:IEs} {xs:List Expr} (h:mA es M xs=true):xs=[]->∀ σ G Q,zV Γ XN es σ G Q->Q [] G:=by
 rintro rfl σ G Q q
 cases es with
 |nil=>exact q
 |cons _ _=>exact absurd h zzN
theorem zjc (f:Nat) (es:IEs) (hs:OkA Γ p es):qW Γ p (.call f es):=by
  intro M X x L h
  cases x with
  |Call fn xs kw q =>
    cases fn with
    |Name y qy =>
     cases kw with
     |nil =>
      replace h:=bd3 h;have gl:=zcs L.sc h.1.2;have hi:=jF h.1.1;rw [← L.fns] at hi;obtain ⟨e,ei,rfl⟩:=sU hi;have A:=hs M X xs L h.2;refine jR (M:=M) (zD g.mono XN (.call f es)) ((g.fn e (wI ei) X L.fits gl.1 xs (zV Γ XN es) qy q (kY g.mono XN es) A.2.1 A.1 (fV g h.2) gl.2.1 gl.2.2).imp fun τ H Q q=>?_) (fun _=>rfl) (fun _ _ _ z=>nomatch z);obtain ⟨σ,G,hs',ab,q⟩:=q;refine ⟨σ,G,hs',ab,kY g.mono XN es σ G _ _ (fun ws G1 q=>?_) q⟩;simp only [ei] at q;exact q
     |cons _ _=>exact absurd h zzN
    |_=>exact absurd h zzN
  |_=>exact absurd h zzN
theorem s_spc (i:Nat) (es:IEs) (hs:OkA Γ p es):qW Γ p (.spc i es):=by
 intro M X x L h;replace h:=rP h;replace h:=h.2
 split at h
 .rename_i m hm
  split at h
  .rename_i xs hx;rw [← L.sxs] at hm;obtain ⟨k,ek,rfl⟩:=sU hm;have A:=hs M X xs L h;have q:=g.sx k (wI ek) X L.fits x xs (semL Γ es) (by rw [L.sc];exact hx) A.2.2.2 A.2.1 (by rw [← uB];exact A.1);refine jR (M:=M) (zD g.mono XN (.spc i es)) (q.1.imp fun τ H Q q=>?_) q.2.1 q.2.2;obtain ⟨σ,G,hs',ab,q⟩:=q;refine ⟨σ,G,hs',ab,?_⟩;rw [← uB];refine kY g.mono XN es σ G _ _ (fun ws G1 q=>?_) q;simp only [ek] at q;exact q
  .exact absurd h zzN
 .exact absurd h zzN
theorem s_mth (m:Nat) (o:IE) (es:IEs) (ho:qW Γ p o) (hs:OkA Γ p es):qW Γ p (.mth m o es):=by
  intro M X x L h
  cases x with
  |Call fn xs kw q =>
    cases fn with
    |Attribute l y qy =>
     cases kw with
     |nil =>
      replace h:=bd6 h;simp only [decide_eq_true_eq] at h;have hi:=jF h.1.1.1.1.1;rw [← L.mts] at hi;obtain ⟨e,ei,rfl⟩:=sU hi;have A:=hs M X xs L h.2;have B:=ho M X l L h.1.2;refine jR (M:=M) (zD g.mono XN (.mth m o es)) ((g.mt e (wI ei) X L.fits l xs (zH Γ XN o).e (zV Γ XN es) qy q (zD g.mono XN o) (kY g.mono XN es) h.1.1.1.1.2 h.1.1.1.2 h.1.1.2 A.2.1 B.1 A.1 (fV g h.2)).imp fun τ H Q q=>?_) (fun _=>rfl) (fun _ _ _ z=>nomatch z);obtain ⟨σ,G,hs',ab,q⟩:=q;refine ⟨σ,G,hs',ab,zD g.mono XN o σ G _ _ (fun w G1 q=>?_) q⟩;simp only [ei] at q;exact q
     |cons _ _=>exact absurd h zzN
    |_=>exact absurd h zzN
  |_=>exact absurd h zzN
theorem s_att (o:IE) (f:Str) (ho:qW Γ p o):qW Γ p (.att o f):=by
 intro M X x L h
 cases x with
 |Attribute l y q =>
  replace h:=bd3 h;simp only [beq_iff_eq] at h;obtain ⟨⟨rfl,h1⟩,h2⟩:=h;refine jR (M:=M) (zD g.mono XN (.att o y)) ((zjF (ho M X l L h2).1 (kT h1)).imp fun τ H Q q=>?_) (fun _=>rfl) (fun _ _ _ z=>nomatch z);obtain ⟨σ,G,hs,ab,q⟩:=q;refine yE (zD g.mono XN o) hs ab q fun w G1 v H1 g1 hs1 rx a1 q=>?_
  cases w with
  |ref a =>
   cases rx;simp only [attR] at q
   split at q
   .rename_i C fs e;obtain ⟨⟨l,hl,hf⟩,q⟩:=q
    split at q
    .rename_i w' ew;obtain ⟨dx,fs',e',rk⟩:=a1.ins e;obtain ⟨v',ev,rv⟩:=dS rk ew;have c:=g.cl _ hl;exact ⟨a,C,dx,fs',v',rfl,e',by rw [L.fits.K];exact c.1,by rw [L.fits.K];exact c.2 y hf,ev,q _ H1 g1 rv a1⟩
    .exact q.elim
   .exact q.elim
  |_=>exact q.elim
 |_=>exact absurd h zzN
end
section
variable {Γ : Ctx3} {p : Par} (g : Good Γ p)
include g
theorem s_dct (ks:List Str) (es:IEs) (hs:OkA Γ p es):qW Γ p (.dct ks es):=by
 intro M X x L h
 cases x with
 |Dict keys xs q =>
  replace h:=bd5 h;simp only [decide_eq_true_eq,Bool.not_eq_true'] at h;obtain ⟨⟨⟨⟨h1,h2⟩,h3⟩,h4⟩,h5⟩:=h;obtain ⟨all,ek,trs,pp,low⟩:=(hs M X xs L h2).2.2.1 ks keys q h1 h3
  have h0:keys≠[]:=by
   intro z;rw [z] at ek
   cases ks with
   |nil=>cases h5
   |cons _ _=>cases ek
  refine jR (M:=M) (zD g.mono XN (.dct ks es)) ((zhl pp all h3 h0 h4).imp fun τ H Q q=>?_) (fun _=>rfl) (fun _ _ _ z=>nomatch z);intro a ha;obtain ⟨σ,G,hs',ab,q⟩:=q;have gr:yI X.K H (xL H a (.dK [])):=xF ha;refine low τ _ _ ⟨σ,put G a (.dic []),hs'.mono gr,ab.new ha ⟨[],rfl,rfl⟩,kY g.mono XN es σ _ _ _ (fun ws G1 q vs H1 g1 rs a1=>?_) (q a (ab.free ha))⟩;obtain ⟨q1,q2,q3⟩:=q;obtain ⟨l,e,rl⟩:=a1.dic q1
  have el:l=[]:=by
   cases l with
   |nil=>rfl
   |cons _ _=>cases rl
  subst el;refine ⟨e,(ks.zip vs).map (fun kv=>((Sum.inr kv.1:yC),kv.2)),by rw [List.map_map];rfl,?_,?_⟩
  .rw [zzM,List.length_zip];omega
  .have gr2:yI X.K H1 (xL H1 a (.dK (nS [] ((ks.zip vs).map fun kv=>((Sum.inr kv.1:yC),kv.2))))):=a1.grow q1;exact q3 _ _ (gr.trans (g1.trans gr2)) rfl (a1.chg q1 ⟨_,rfl,zd3 ks (rs.mono gr2) rfl⟩)
 |_=>exact absurd h zzN
theorem bA (tg:ITg) (names:List Str) (caps:List Nat) (it:II) (c:IO) (elt:IE) (hi:OkI Γ p it) (hc:OkO Γ p c) (he:qW Γ p elt) {M:MC} {X:Cx} (L:Lk Γ M p X) {x t ix:Expr} {ifs:List Expr} {sc:Scope}
  (h:(blkB M.sc sc&&rB ix&&fJ (names++caps.map (fun j=>M.N.getD j Str.empty))&&(caps.all fun j=>decide (j<M.N.length)&&(sc.names.lookup (M.N.getD j Str.empty)==some .free)) &&
    mI it M ix&&((tgIx tg).all fun i=>decide (i<names.length))&&mG { M with sc:=relS sc M.sc,N:=names++caps.map (fun j=>M.N.getD j Str.empty),own:=fun x=>sc.names.lookup x==some .cell } tg t&&mC c { M with sc:=relS sc M.sc,N:=names++caps.map (fun j=>M.N.getD j Str.empty),own:=fun x=>sc.names.lookup x==some .cell } ifs&&mE elt { M with sc:=relS sc M.sc,N:=names++caps.map (fun j=>M.N.getD j Str.empty),own:=fun x=>sc.names.lookup x==some .cell } x)=true) :
  PI X t ix (lowI X.K (zS Γ XN it))/\BlkSc X sc/\Caps X sc (names++caps.map (fun j=>M.N.getD j Str.empty)) (capV names.length caps) /\
  (∀ X',IsBlock X (names++caps.map (fun j=>M.N.getD j Str.empty)) sc X'->PG X' t (lowG X.K (zW tg)))/\(∀ X',IsBlock X (names++caps.map (fun j=>M.N.getD j Str.empty)) sc X'->PTs X' ifs (kQ X.K (zP Γ c))) /\
  (∀ X',IsBlock X (names++caps.map (fun j=>M.N.getD j Str.empty)) sc X'->PE X' x (yA X.K (zH Γ XN elt).e))/\(∀ y,foldedSetIterable ix X.env y=pure y) /\
  ∀ τ H Q,yA X.K (zH Γ XN (.lc tg names caps it c elt)).e τ H Q->tLC (lowI X.K (zS Γ XN it)) (capV names.length caps) (lowG X.K (zW tg)) (kQ X.K (zP Γ c)) (yA X.K (zH Γ XN elt).e) τ H Q:=by
 simp only [Bool.and_eq_true] at h;obtain ⟨⟨⟨⟨⟨⟨⟨⟨h1,h2⟩,h3⟩,h4⟩,h5⟩,h6⟩,h7⟩,h8⟩,h9⟩:=h
 have lk:∀ X',IsBlock X (names++caps.map (fun j=>M.N.getD j Str.empty)) sc X'->Lk Γ { M with sc:=relS sc M.sc,N:=names++caps.map (fun j=>M.N.getD j Str.empty),own:=fun x=>sc.names.lookup x==some .cell } p X':=fun X' b =>
  ⟨⟨b.prog.trans L.fits.prog,b.w.trans L.fits.w,b.K.trans L.fits.K,b.mg.trans L.fits.mg,b.base.trans L.fits.base,b.A.trans L.fits.A,b.calm.trans L.fits.calm,b.xe⟩,b.N,b.scope.trans (zg3 L.sc),zbK h3,(fun x z=>b.fn x (eq_of_beq z)),(zgx L.sc h1).kind,L.fns,L.gls,L.mts,L.its,L.sxs,L.ixs⟩
 refine ⟨hi M X ix L h5 t,zgx L.sc h1,zeb L.N L.sc h4,fun X' b=>?_,fun X' b=>?_,fun X' b=>?_,zaC h2,fun τ H Q q=>?_⟩
 .rw [← b.K];exact sndG (lk X' b) tg t h7
 .rw [← b.K];exact (hc _ X' (lk X' b)).2 ifs h8
 .rw [← b.K];exact (he _ X' x (lk X' b) h9).1
 .obtain ⟨σ,G,hs,ab,q⟩:=q;refine ⟨σ,G,hs,ab,zjX g.mono XN it σ G _ _ (fun items stab G1 q J H1 g1 a1 ii=>?_) q⟩;refine zj8 (monoC g.mono c) (zD g.mono XN elt) ii a1 (zin (hs.mono g1) names.length caps) g1 (fun w G' Q' z=>?_) q;refine mW tg w _ G' _ _ (fun σ2 G2 z=>⟨⟨z.2.1,fun i v e=>?_⟩,z.2.2⟩) (zbD tg w _ G' _ (zc1 tg w _ G' _ z));have hk:=(zbo e).1;rw [z.1 i (zhx h6 hk)];exact e
theorem s_lc (tg:ITg) (names:List Str) (caps:List Nat) (it:II) (c:IO) (elt:IE) (hi:OkI Γ p it) (hc:OkO Γ p c) (he:qW Γ p elt):qW Γ p (.lc tg names caps it c elt):=by
 intro M X x L h
 cases x with
 |ListComp x gens sc q =>
  match gens,h with
  | [⟨t,ix,ifs,asy⟩],h =>
   have h':=h;replace h:=bd10 h;obtain ⟨⟨⟨⟨⟨⟨⟨⟨⟨h0,h1⟩,h2⟩,h3⟩,h4⟩,h5⟩,h6⟩,h7⟩,h8⟩,h9⟩:=h;replace h0:=of_decide_eq_true h0;subst h0;obtain ⟨c1,c2,c3,c4,c5,c6,c7,c8⟩:=bA g tg names caps it c elt hi hc he L (x:=x) (t:=t) (ix:=ix) (ifs:=ifs) (sc:=sc) (by simp only [Bool.and_eq_true];exact ⟨⟨⟨⟨⟨⟨⟨⟨h1,h2⟩,h3⟩,h4⟩,h5⟩,h6⟩,h7⟩,h8⟩,h9⟩);exact jR (M:=M) (zD g.mono XN (.lc tg names caps it c elt)) ((pe_lc L.fits.calm c1 c2 c3 c4 c5 c6 c7).imp c8) (fun _=>rfl) (fun _ _ _ z=>nomatch z)
 |_=>exact absurd h zzN
theorem s_no:OkO Γ p .no:=by
 intro M X L;refine ⟨fun x h=>?_,fun xs h=>?_⟩
 .cases x with
  |none=>exact zhi.imp fun τ H Q q=>by obtain ⟨σ,G,hs,ab,q⟩:=q;exact q H .refl ab
  |some _=>exact absurd h zzN
 .cases xs with
  |nil=>exact zha.imp fun τ H Q q=>by obtain ⟨σ,G,hs,ab,q⟩:=q;exact q H .refl ab
  |cons _ _=>exact absurd h zzN
theorem zi9 (e:IE) (he:qW Γ p e):OkO Γ p (.yes e):=by
 intro M X L;refine ⟨fun x h=>?_,fun xs h=>?_⟩
 .cases x with
  |none=>exact absurd h zzN
  |some x =>
   skip
   refine (zhh (he M X x L h).1).imp fun τ H Q q=>?_;obtain ⟨σ,G,hs,ab,q⟩:=q;refine yE (zD g.mono XN e) hs ab q fun w G1 v H1 g1 hs1 rx a1 q=>?_
   cases w with
   |int i=>cases rx;exact ⟨i,rfl,q H1 g1 a1⟩
   |_=>exact q.elim
 .match xs,h with
  | [x],h=>exact zg9 (he M X x L (by simpa only [mC] using h)).2.1
theorem zjb:OkA Γ p .nil:=by
 intro M X xs L h
 cases xs with
 |cons _ _=>exact absurd h zzN
 |nil =>
  refine ⟨zgc.imp fun τ H Q q=>by obtain ⟨σ,G,hs,ab,q⟩:=q;exact q [] H .refl rfl ab,rfl,fun ks keys pos hk hl=>?_,trivial⟩
  cases keys with
  |cons _ _=>cases hl
  |nil =>
   cases ks with
   |cons _ _=>cases hk
   |nil =>
    refine ⟨rfl,rfl,[],zhg,fun τ H Q q=>?_⟩;obtain ⟨σ,G,hs,ab,q⟩:=q;exact q [] H .refl rfl ab
theorem zfY (e:IE) (es:IEs) (he:qW Γ p e) (hs:OkA Γ p es):OkA Γ p (.cons e es):=by
  intro M X xs L h
  cases xs with
  |nil=>exact absurd h zzN
  |cons x xs =>
    simp only [mA,Bool.and_eq_true] at h;obtain ⟨⟨h1,h2⟩,h3⟩:=h;have A:=he M X x L h2;have B:=hs M X xs L h3;refine ⟨(zdd A.1 B.1 (kP h1)).imp fun τ H Q q=>?_,by rw [List.all_cons,h1,B.2.1];rfl,fun ks keys pos hk hl=>?_,⟨zD g.mono XN e,A.1,B.2.2.2⟩⟩
    . obtain ⟨σ,G,hs',ab,q⟩:=q
      refine yE (zD g.mono XN e) hs' ab q fun w G1 v H1 g1 hs1 rx a1 q=>?_;refine pG (kY g.mono XN es) hs1 a1 q fun ws G2 vs H2 g2 hs2 rs a2 q=>?_;exact q _ H2 (g1.trans g2) ⟨v,vs,rfl,rx.mono g2,rs⟩ a2
    . cases ks with
      |nil =>
        cases keys with
        |nil=>simp at hl
        |cons _ _=>simp [keyB] at hk
      |cons k ks =>
       cases keys with
       |nil=>cases hk
       |cons ko keys =>
        obtain ⟨y,ky,qy,rfl⟩:∃ y ky qy,ko=some (.Constant (.str y) ky qy):=by
          cases ko with
          |none=>cases hk
          |some ke =>
            cases ke with
            |Constant c ky qy =>
              cases c with
              |str y=>exact ⟨y,ky,qy,rfl⟩
              |_=>cases hk
            |_=>cases hk
        simp only [keyB,Bool.and_eq_true,beq_iff_eq] at hk;obtain ⟨rfl,hk⟩:=hk;obtain ⟨all,ek,trs,pp,low⟩:=B.2.2.1 ks keys pos hk (by simpa using hl);refine ⟨by simpa using all,by simpa using ek,(tC (.str k),yA X.K (zH Γ XN e).e)::trs,zeY zf7 A.1 pp,fun τ H Q q=>?_⟩;obtain ⟨σ,G,hs',ab,q⟩:=q;show yA X.K (zH Γ XN e).e τ H _;refine yE (zD g.mono XN e) hs' ab q fun w G1 v H1 g1 hs1 rx a1 q=>?_;refine low τ H1 _ ⟨σ,G1,hs1,a1,kY g.mono XN es σ G1 _ _ (fun ws G2 q vs H2 g2 rs a2=>?_) q⟩;exact q (v::vs) H2 (g1.trans g2) ⟨v,vs,rfl,rx.mono g2,rs⟩ a2
theorem zja (e:IE) (he:qW Γ p e):OkI Γ p (.val e):=fun M X x L h tg=>zjw (zD g.mono XN e) (he M X x L h).1
theorem zjd (i:Nat) (es:IEs) (hs:OkA Γ p es):OkI Γ p (.blt i es):=by
  intro M X x L h tg
  cases x with
  |Call fn xs kw q =>
    cases fn with
    |Name y qy =>
     cases kw with
     |nil =>
      replace h:=bd3 h;have gl:=zcs L.sc h.1.2;have hi:=jF h.1.1;rw [← L.its] at hi;obtain ⟨e,ei,rfl⟩:=sU hi;have A:=hs M X xs L h.2;refine (g.it e (wI ei) X L.fits gl.1 tg xs (zV Γ XN es) qy q (kY g.mono XN es) A.2.1 A.1 (fV g h.2) gl.2.1 gl.2.2).imp fun τ H R q=>?_;obtain ⟨σ,G,hs',ab,q⟩:=q;refine ⟨σ,G,hs',ab,kY g.mono XN es σ G _ _ (fun ws G1 q=>?_) q⟩;simp only [ei] at q;exact q
     |cons _ _=>exact absurd h zzN
    |_=>exact absurd h zzN
  |_=>exact absurd h zzN
theorem zfX (i:Nat) (es:IEs) (hs:OkA Γ p es):OkI Γ p (.spc i es):=by
 intro M X x L h tg;simp only [mI] at h
 split at h
 .rename_i m hm
  split at h
  .rename_i xs hx;rw [← L.ixs] at hm;obtain ⟨k,ek,rfl⟩:=sU hm;have A:=hs M X xs L h;refine (g.ix k (wI ek) X L.fits tg x xs (semL Γ es) (by rw [L.sc];exact hx) A.2.2.2 A.2.1 (by rw [← uB];exact A.1)).imp fun τ H R q=>?_;obtain ⟨σ,G,hs',ab,q⟩:=q;refine ⟨σ,G,hs',ab,?_⟩;rw [← uB];refine kY g.mono XN es σ G _ _ (fun ws G1 q=>?_) q;simp only [ek] at q;exact q
  .exact absurd h zzN
 .exact absurd h zzN
theorem uD (e:IE):qW Γ p e :=
 IE.rec (motive_1:=qW Γ p) (motive_2:=OkO Γ p) (motive_3:=OkA Γ p) (motive_4:=OkI Γ p) (motive_5:=fun _=>True) (motive_6:=fun _=>True)
  (s_var g) (s_con g) (s_glb g) (s_bin g) (s_neg g) (s_not g) (s_cmp g) (s_chn g) (s_and g) (s_or g) (s_ite g) (s_ix g) (s_sl g) (s_tup g) (s_lst g) (s_dct g) (zjc g) (s_mth g) (s_att g)
  (fun tg names caps it c elt _ hi hc he=>s_lc g tg names caps it c elt hi hc he) (s_spc g) (s_ch3 g) (s_no g) (zi9 g) (zjb g) (zfY g) (zja g) (zjd g) (zfX g) (fun _=>trivial) (fun _ _=>trivial) trivial (fun _ _ _ _=>trivial) e
theorem sndA (es:IEs):OkA Γ p es:=match es with
 | .nil=>zjb g
 | .cons e es=>zfY g e es (uD g e) (sndA es)
theorem sndI (it:II):OkI Γ p it:=match it with
 | .val e=>zja g e (uD g e)
 | .blt i es=>zjd g i es (sndA g es)
 | .spc i es=>zfX g i es (sndA g es)
theorem sndO (o:IO):OkO Γ p o:=match o with
 | .no=>s_no g
 | .yes e=>zi9 g e (uD g e)
end
end L3
namespace L3
open PySem PySem.Spec PyProof.Rows L2
theorem zhS {i:Nat} {a:IE} {M:MC} {x:Stmt} (h:mS (.asg i a) M x=true):∃ y py v q,x=.Assign [.Name y py] v q/\(M.N[i]?==some y)=true/\locB M y=true/\mE a M v=true:=by
 cases x with
 |Assign ts v q =>
  cases ts with
  |nil=>exact absurd h zzN
  |cons t r =>
   cases r with
   |cons _ _=>cases t<;>exact absurd h zzN
   |nil =>
    cases t with
    |Name y py =>
     replace h:=bd3 h;exact ⟨y,py,v,q,rfl,h.1.1,h.1.2,h.2⟩
    |_=>exact absurd h zzN
 |_=>exact absurd h zzN
theorem zfs {ts:ITgs} {a:IE} {M:MC} {x:Stmt} (h:mS (.asgT ts a) M x=true):∃ es k qt v q,x=.Assign [.Tuple es k qt] v q/\nX v=true/\ze8 v=true/\mGs M ts es=true/\mE a M v=true:=by
 cases x with
 |Assign ts v q =>
  cases ts with
  |nil=>exact absurd h zzN
  |cons t r =>
   cases r with
   |cons _ _=>cases t<;>exact absurd h zzN
   |nil =>
    cases t with
    |Tuple es k qt =>
     replace h:=bd4 h;exact ⟨es,k,qt,v,q,rfl,h.1.1.1,h.1.1.2,h.1.2,h.2⟩
    |_=>exact absurd h zzN
 |_=>exact absurd h zzN
theorem zft {i j:Nat} {a:IE} {M:MC} {x:Stmt} (h:mS (.asgS i j a) M x=true):∃ t v q,x=.Assign [t] v q/\nX v=true/\ze8 v=true/\zeA M i j t=true/\mE a M v=true:=by
 cases x with
 |Assign ts v q =>
  cases ts with
  |nil=>exact absurd h zzN
  |cons t r =>
   cases r with
   |cons _ _=>exact absurd h zzN
   |nil =>
    replace h:=bd4 h;exact ⟨t,v,q,rfl,h.1.1.1,h.1.1.2,h.1.2,h.2⟩
 |_=>exact absurd h zzN
theorem zgS {M:MC} {i j:Nat} {t:Expr} (h:zeA M i j t=true):∃ x px y py p2 k q,t=.Tuple [.Name x px,.Starred (.Name y py) p2] k q/\((M.N[i]?==some x)=true/\locB M x=true)/\((M.N[j]?==some y)=true/\locB M y=true):=by
 unfold zeA at h
 split at h
 .exact ⟨_,_,_,_,_,_,_,rfl,rP (rP h).1,rP (rP h).2⟩
 .exact absurd h zzN
theorem zfu {o i a:IE} {M:MC} {x:Stmt} (h:mS (.asgI o i a) M x=true):∃ l r qs v q,x=.Assign [.Subscript l r qs] v q/\nX v=true/\gQ r=true/\mE o M l=true/\mE i M r=true/\mE a M v=true:=by
 cases x with
 |Assign ts v q =>
  cases ts with
  |nil=>exact absurd h zzN
  |cons t r =>
   cases r with
   |cons _ _=>cases t<;>exact absurd h zzN
   |nil =>
    cases t with
    |Subscript l r qs =>
     replace h:=bd5 h;exact ⟨l,r,qs,v,q,rfl,h.1.1.1.1,h.1.1.1.2,h.1.1.2,h.1.2,h.2⟩
    |_=>exact absurd h zzN
 |_=>exact absurd h zzN
theorem zfv {o a:IE} {f:Str} {M:MC} {x:Stmt} (h:mS (.asgA o f a) M x=true):∃ l qs v q,x=.Assign [.Attribute l f qs] v q/\nX v=true/\mE o M l=true/\mE a M v=true:=by
 cases x with
 |Assign ts v q =>
  cases ts with
  |nil=>exact absurd h zzN
  |cons t r =>
   cases r with
   |cons _ _=>cases t<;>exact absurd h zzN
   |nil =>
    cases t with
    |Attribute l y qs =>
     replace h:=bd4 h;simp only [beq_iff_eq] at h;obtain ⟨⟨⟨rfl,h2⟩,h3⟩,h4⟩:=h;exact ⟨l,qs,v,q,rfl,h2,h3,h4⟩
    |_=>exact absurd h zzN
 |_=>exact absurd h zzN
theorem zkD {a:IE} {M:MC} {x:Stmt} (h:mS (.ex a) M x=true):∃ v q,x=.Expr v q/\nX v=true/\mE a M v=true:=by
 cases x with
 |Expr v q =>
  replace h:=rP h;exact ⟨v,q,rfl,h.1,h.2⟩
 |_=>exact absurd h zzN
theorem zhJ {a:IE} {M:MC} {x:Stmt} (h:mS (.ret a) M x=true):∃ v q,x=.Return (some v) q/\mE a M v=true:=by
 cases x with
 |Return v q =>
  cases v with
  |none=>exact absurd h zzN
  |some v=>exact ⟨v,q,rfl,h⟩
 |_=>exact absurd h zzN
theorem zfp {M:MC} {x:Stmt} (h:mS .retN M x=true):∃ q,x=.Return none q:=by
 cases x with
 |Return v q =>
  cases v with
  |none=>exact ⟨q,rfl⟩
  |some v=>exact absurd h zzN
 |_=>exact absurd h zzN
theorem zfq {M:MC} {x:Stmt} (h:mS .pass M x=true):∃ q,x=.Pass q:=by
 cases x with
 |Pass q=>exact ⟨q,rfl⟩
 |_=>exact absurd h zzN
theorem zhR {M:MC} {x:Stmt} (h:mS .brk M x=true):∃ q,x=.Break q:=by
 cases x with
 |Break q=>exact ⟨q,rfl⟩
 |_=>exact absurd h zzN
theorem zhN {M:MC} {x:Stmt} (h:mS .cnt M x=true):∃ q,x=.Continue q:=by
 cases x with
 |Continue q=>exact ⟨q,rfl⟩
 |_=>exact absurd h zzN
theorem zhL {c:IE} {a b:ISs} {M:MC} {x:Stmt} (h:mS (.ite c a b) M x=true):∃ t y z q,x=.If t y z q/\mE c M t=true/\qE a M y=true/\qE b M z=true:=by
 cases x with
 |If t y z q =>
  replace h:=bd3 h;exact ⟨t,y,z,q,rfl,h.1.1,h.1.2,h.2⟩
 |_=>exact absurd h zzN
theorem zhI {c:IE} {b:ISs} {M:MC} {x:Stmt} (h:mS (.whl c b) M x=true):∃ t y q,x=.While t y [] q/\mE c M t=true/\qE b M y=true:=by
 cases x with
 |While t y z q =>
  cases z with
  |nil =>
   replace h:=rP h;exact ⟨t,y,q,rfl,h.1,h.2⟩
  |cons _ _=>exact absurd h zzN
 |_=>exact absurd h zzN
theorem zhM {tg:ITg} {it:II} {b:ISs} {M:MC} {x:Stmt} (h:mS (.for tg it b) M x=true):∃ t y z q,x=.For t y z [] q/\rB y=true/\mG M tg t=true/\mI it M y=true/\qE b M z=true:=by
 cases x with
 |For t y z e q =>
  cases e with
  |nil =>
   replace h:=bd4 h;exact ⟨t,y,z,q,rfl,h.1.1.1,h.1.1.2,h.1.2,h.2⟩
  |cons _ _=>exact absurd h zzN
 |_=>exact absurd h zzN
theorem zhK {M:MC} {x:List Stmt} (h:qE .nil M x=true):x=[]:=by
 cases x with
 |nil=>rfl
 |cons _ _=>exact absurd h zzN
theorem zfr {s:IS} {ss:ISs} {M:MC} {x:List Stmt} (h:qE (.cons s ss) M x=true):∃ y ys,x=y::ys/\mS s M y=true/\qE ss M ys=true:=by
 cases x with
 |nil=>exact absurd h zzN
 |cons y ys =>
  replace h:=rP h;exact ⟨y,ys,rfl,h.1,h.2⟩
end L3
namespace L2
open PySem PySem.Spec PyProof.Rows
theorem alive {P:Program} {w:World} {H:Hp} {h:Heap} {a:Addr} {o:HO} (x:xU P w H h a o):∃ u,h.get? a=some u:=by
 cases o with
 |lst _=>obtain ⟨_,_,_,_,e⟩:=x;exact ⟨_,e⟩
 |tup _=>obtain ⟨_,_,_,u,e,_⟩:=x;exact ⟨u,e⟩
 |dK _=>obtain ⟨_,_,_,_,u,_,_,e,_⟩:=x;exact ⟨u,e⟩
 |dT _=>obtain ⟨_,_,_,_,u,_,_,e,_⟩:=x;exact ⟨u,e⟩
 |set _ _=>obtain ⟨u,_,_,_,e,_⟩:=x;exact ⟨u,e⟩
 |ins _ _ _=>exact ⟨_,x.2.2.2.1⟩
 |own _=>exact x
 |xd _=>obtain ⟨_,⟨u,_,_,e,_⟩,_⟩:=x;exact ⟨u,e⟩
 |rng _ _=>obtain ⟨_,_,_,e⟩:=x;exact ⟨_,e⟩
 |frz _ _=>exact ⟨_,x.1⟩
 |tbl _=>exact ⟨_,x⟩
 |met _ _=>exact ⟨_,x⟩
 |ext _=>exact x.2.1
def zde (h:Heap) (L:Addr):List (Addr×Obj):=(List.range h.objs.size).filterMap fun b=>if b=L then none else (h.get? b).map fun o=>(b,o)
theorem rZ {h:Heap} {L b:Addr} {o:Obj}:(b,o)∈zde h L↔b≠L/\h.get? b=some o:=by
 unfold zde;rw [List.mem_filterMap]
 constructor
 .rintro ⟨c,_,e⟩
  split at e
  .cases e
  .rename_i hc;obtain ⟨o',e1,e2⟩:=Option.map_eq_some_iff.mp e;cases e2;exact ⟨hc,e1⟩
 .rintro ⟨hb,e⟩;exact ⟨b,List.mem_range.mpr (Heap.lt_size e),by rw [if_neg hb,e];rfl⟩
section
variable {X : Cx} {pos : Pos}
def gStar (K:PySem.W.Frag) (t:TGs):TG:=fun v σ H Q=>∃ a x xs,v=.ref a/\rM K H a (x::xs)/\xs.length<=1000/\∀ D,H D=none->t [x,.ref D] σ (xL H D (.lst xs)) Q
theorem zhj {e1 e2:Expr} {k:Nat} {p2:Pos} {t:TGs} (hc:X.calm=true) (h:PGs X [e1,e2] t) (h1:assignEach [e1,.Starred e2 p2] X.env=[(false,assign e1 X.env),(true,assign e2 X.env)])
  (h2:assignEach [e1,e2] X.env=[(false,assign e1 X.env),(false,assign e2 X.env)]):PG X (.Tuple [e1,.Starred e2 p2] k pos) (gStar X.K t):=by
 intro pins s σ H v u Q I r hw;obtain ⟨a,x,xs,e,hq,hl,hw⟩:=hw;subst e;cases r;obtain ⟨its,rv,ht,hz⟩:=I.tuple hq
 cases rv with
 | @cons _ u _ us r0 rs =>
 have hus:us.length=xs.length:=rs.length.symm;obtain ⟨m,hn,_⟩:=id I.loc;have F:Fr (default:Heap) X.env.locals s.heap m:=⟨hn,fun b o e=>(by cases e),Nat.zero_le _⟩
 have N:News (default:Heap) X.env.locals s.heap (zde s.heap X.env.locals):=fun p hp=>by
  obtain ⟨b,o⟩:=p;have:=rZ.mp hp;exact ⟨this.2,this.1,rfl⟩
 rw [assign_Tuple];refine wpAny_bind (wpAny_standAt ?_);unfold unpack;rw [show (assignEach [e1,.Starred e2 p2] X.env).length=2 by rw [h1];rfl,show (assignEach [e1,.Starred e2 p2] X.env).findIdx? (·.1)=some 1 by rw [h1];rfl];refine wpAny_bind (wpAny_holding (wB I.tk (PySem.W.kun_starT (n:=2) (i:=1) (first:=[u]) (mids:=us) (lasts:=[]) F N ht (I.ok.hd hc) (by decide) (by simp) (by simp;omega) (by simp) (by simp) (by simp) fun D h' tk F' N' lt h0=>?_)));have get:∀ b o,b≠X.env.locals->s.heap.get? b=some o->h'.get? b=some o:=fun b o hb e=>(N' (b,o) (List.mem_cons_of_mem _ (rZ.mpr ⟨hb,e⟩))).1;obtain ⟨hD,nD,_⟩:=N' (D,{ cls:=.type "list", data:=.seq us.toArray 0 }) zzT
 have no:s.heap.get? D=none:=by
  cases q:s.heap.get? D with
  |none=>rfl
  |some o=>exact absurd (lt (D,o) (rZ.mpr ⟨nD,q⟩)) (Nat.lt_irrefl _)
 have HD:H D=none:=by
  cases q:H D with
  |none=>rfl
  |some o=>obtain ⟨u',e'⟩:=alive (I.hok D o q);rw [no] at e';cases e'
 have nl:∀ b o,H b=some o->b≠X.env.locals:=fun b o e z=>by rw [z,I.free] at e;cases e
 have ne:∀ b o,H b=some o->b≠D:=fun b o e=>yN e HD
 have hok:sR X.prog X.w (xL H D (.lst xs)) h':=fun b o e=>by
  by_cases hb:b=D
  .subst hb;rw [wY] at e;cases e;exact ⟨by rw [sizeLine_eq];omega,us,0,rs,hD⟩
  .rw [zB hb] at e;refine (I.hok b o e).stay (fun c v hc q=>get c v ?_ q) (fun c q=>by rw [zB (ne c _ q)];exact q) fun c ys q=>by rw [zB (ne c _ q)];exact q
   rcases hc with z|z
   .rw [z];exact nl b o e
   .exact nl c _ z
 have I1:Inv X pins σ (xL H D (.lst xs)) { s with heap:=h',toks:=tk } :=
  I.step (g':=s.gens) (d':=s.drawn) (ch:=[]) (fun _ z=>nomatch z) (fun b o hb _ _ e _=>get b o hb e) (fun b o hb _ _ e _=>⟨o.slots,get b o hb e⟩)
   (fun b o _ e n=>by rw [zB (fun z=>by rw [z,no] at e;cases e)];exact n)
   (fun b o _ e=>by
    by_cases hb:b=X.env.locals
    .obtain ⟨o',_,_,q,_⟩:=F'.ns;exact ⟨o',by rw [hb];exact q⟩
    .exact ⟨o,get b o hb e⟩)
   (fun b ys e=>by rw [zB (ne b _ e)];exact e) (fun b o u e=>by rw [zB (ne b _ e)];exact e) (fun b ps e=>⟨#[],by rw [zB (ne b _ e),e];simp⟩)
   (fun m' hm=>by rw [hm.eq_nsMap,← hn.eq_nsMap];exact F'.ns) hok I.bare
 have:=h pins _ σ _ [x,.ref D] [u,.ref D] Q I1 (.cons r0 (.cons rfl .nil)) (hw D HD);rw [h2] at this;rw [h1];exact this
end
end L2
namespace L2
open PySem PySem.Spec PyProof.Rows
section
variable {prog : Program} {w : World} {A : Around} {E : Value → Shared → Prop} {s : Shared}
theorem zb4 {it l:Addr} {xs:Array Value} (ne:l≠it):∀ (n i:Nat) (s:Shared) (Q:List Value->Shared->Prop),s.heap.IsListIter it l i->s.heap.IsList l xs->i+n<=xs.size ->
  (∀ h',h'.IsListIter it l (i+n)->Heap.SameBut it s.heap h'->Q ((xs.toList.drop i).take n) { s with heap:=h' })->wpAny (model prog w) A (draw (.ref it) n) Q E s
 | 0,i,s,Q,a,_,_,q=>by
  show wpAny _ _ (pure []) Q E s;exact wpAny_pure (by simpa using q s.heap a (Heap.SameBut.refl ..))
 |n+1,i,s,Q,a,b,le,q=>by
  have lt:i<xs.size:=by omega
  show wpAny _ _ (pyNext (.ref it) >>= _) Q E s;refine wpAny_bind (wpAny_pyNext_list_item a b (x:=xs[i]) (by simp [lt]) fun h1 a1 s1=>?_);refine wpAny_bind (wpAny_holding (zb4 ne n (i+1) _ _ a1 (b.extBut s1.extBut ne) (by omega) fun h2 a2 s2=>wpAny_pure ?_));have e:xs.toList.drop i=xs[i]::xs.toList.drop (i+1):=by simp [List.drop_eq_getElem_cons,lt]
  have z:=q h2 (by rw [show i+(n+1)=i+1+n by omega];exact a2) (s1.trans s2);rw [e,List.take_succ_cons] at z;exact z
theorem zcb {l:Addr} {xs:Array Value} {ts:List (Bool×(Value->Sem Unit))} {Q:Unit->Shared->Prop} (hh:A.handled=none) (hl:s.heap.IsList l xs) (hn:ts.length=xs.size) (hs:ts.findIdx? (·.1)=none)
  (h:∀ h',Heap.ExtBut s.heap.objs.size s.heap h'->wpAny (model prog w) A (assignInOrder (ts.map (·.2)) xs.toList) Q E { s with heap:=h' }):wpAny (model prog w) A (unpack (.ref l) ts) Q E s:=by
 have ne:l≠s.heap.objs.size:=by obtain ⟨o,ho,_⟩:=hl;exact Nat.ne_of_lt (Heap.lt_size ho)
 unfold unpack;rw [hn,hs];refine wpAny_bind (wpAny_holding ?_);unfold unpackItems;refine wpAny_bind ?_;unfold notIterableAtAll;refine wpAny_bind (wpAny_specialOf hl.typeIs slot_list_iter.lookup (wpAny_pure ?_));simp only [zzB,if_false];refine wpAny_bind (wpAny_holding (wpAny_pyIter_list hl ?_));refine wpAny_bind (wpAny_holding (zb4 ne xs.size 0 _ _ ⟨_,Heap.get?_push_size _ rfl,rfl,rfl⟩ (hl.push _) (by omega) fun h1 a1 s1=>?_));rw [show List.take xs.size (List.drop 0 xs.toList)=xs.toList by rw [List.drop_zero];exact List.take_of_length_le (by simp),if_neg (by simp)];refine wpAny_bind (wpAny_holding (wpAny_pyNext_list_end hh a1 ((hl.push _).extBut s1.extBut ne) (by simp) fun h2 e2=>?_));simp only [Option.isSome_none,zzB,if_false];exact wpAny_pure (h h2 fun b o hb e=>e2 b o hb (s1.extBut b o hb (Heap.get?_push_of_some _ e)))
end
def gTL (K:PySem.W.Frag) (n:Nat) (t:TGs):TG:=fun v σ H Q=>∃ a xs,v=.ref a/\(rM K H a xs\/nE K H a xs)/\xs.length=n/\t xs σ H Q
theorem pg_tl {X:Cx} {pos:Pos} {es:List Expr} {k:Nat} {t:TGs} {n:Nat} (hc:X.calm=true) (h:PGs X es t) (hn:(assignEach es X.env).length=n) (hst:(assignEach es X.env).findIdx? (·.1)=none):PG X (.Tuple es k pos) (gTL X.K n t):=by
 intro pins s σ H v u Q I r hw;obtain ⟨a,xs,e1,hq,hl,hw⟩:=hw;rcases hq with hq|hq
 .exact zf6 hc h hn hst pins s σ H v u Q I r ⟨a,xs,e1,hq,hl,hw⟩
 .subst e1;cases r;obtain ⟨its,rv,pl,hz⟩:=I.list hq;rw [assign_Tuple];refine wpAny_bind (wpAny_standAt (zcb (I.ok.hd hc) pl.isList (by simp [hn,← hl,rv.length]) hst fun h' hx=>?_));exact h pins _ σ H xs _ Q (I.kept (t':=s.toks) fun b o e=>hx b o (Nat.ne_of_lt (Heap.lt_size e)) e) (by simpa using rv) hw
end L2
namespace L3
open PySem PySem.Spec PyProof.Rows L2 PySem.SeqAt
theorem zbG {K:yJ} {H:Hp} {f:Str} {w:W} {v:V} (q:xJ K H w v):∀ {l:List (Str×W)} {l':List (Str×V)},yR K H l l'->yR K H (zc9 f w l) (vK f v l')
 | [],_,h=>by rw [show _=[] from h];exact ⟨v,[],rfl,q,rfl⟩
 | (n,u)::r,_,⟨x,t,e,h,hr⟩=>by
  subst e;unfold zc9 vK
  by_cases hn:n=f
  .rw [if_pos hn,if_pos hn];exact ⟨v,t,rfl,q,hr⟩
  .rw [if_neg hn,if_neg hn];exact ⟨x,_,rfl,h,zbG q hr⟩
section
variable {Γ : Ctx3} {p : Par} (g : Good Γ p)
def OkS (Γ:Ctx3) (p:Par) (s:IS):Prop:=∀ M X x,Lk Γ M p X->mS s M x=true->PS X x (lowS X.K (zO Γ XN s))
def OkSs (Γ:Ctx3) (p:Par) (s:ISs):Prop:=∀ M X x,Lk Γ M p X->qE s M x=true->PSs X x (lowS X.K (zG Γ XN s))
include g
theorem t_asg (i:Nat) (e:IE):OkS Γ p (.asg i e):=by
 intro M X x L h;obtain ⟨y,py,v,q,rfl,h1,h2,h3⟩:=zhS h
 .
  have lo:=zbT L h2;have hN:=jF h1;rw [← L.N] at hN;have nd:X.N.Nodup:=L.N▸L.nd
  have low:∀ (te:TE),(∀ τ H Q,yA X.K (zH Γ XN e).e τ H Q->te τ H Q)->∀ D τ H,lowS X.K (zO Γ XN (.asg i e)) D τ H->tAsg te (zfA i) D τ H:=fun te k D τ H hq=>by
   obtain ⟨σ,G,D3,hs,ab,f,hq⟩:=hq;refine k _ _ _ ⟨σ,G,hs,ab,zD g.mono XN e σ G _ _ (fun w G' hq v' H' g' rp ab'=>?_) hq⟩;exact f.nx _ G' _ H' g' ((hs.mono g').set rp i) ab' hq
  by_cases hl:nX v=true
  .exact (zf4 (i:=i) nd hN lo.1 (uD g e M X v L h3).1 (kB hl) lo.2).imp (low _ fun _ _ _ z=>z)
  .cases v with
   |ListComp x gens sc qq =>
    cases e with
    |lc tg names caps it c elt =>
     match gens,h3 with
     | [⟨t,ix,ifs,asy⟩],h3 =>
      have h3':=h3;replace h3:=bd10 h3;obtain ⟨⟨⟨⟨⟨⟨⟨⟨⟨z0,z1⟩,z2⟩,z3⟩,z4⟩,z5⟩,z6⟩,z7⟩,z8⟩,z9⟩:=h3;replace z0:=of_decide_eq_true z0;subst z0;have cond:∃ b,swapsWith (.ListComp x [⟨t,ix,ifs,0⟩] sc qq) (some (.Name y py)) q.line X.env=pure b:=⟨_,rfl⟩;obtain ⟨b,hb⟩:=cond
      cases b with
      |false=>exact (zf4 (i:=i) nd hN lo.1 (uD g _ M X _ L h3').1 hb lo.2).imp (low _ fun _ _ _ z=>z)
      |true =>
       obtain ⟨c1,c2,c3,c4,c5,c6,c7,c8⟩:=bA g tg names caps it c elt (sndI g it) (sndO g c) (uD g elt) L (x:=x) (t:=t) (ix:=ix) (ifs:=ifs) (sc:=sc) (by simp only [Bool.and_eq_true];exact ⟨⟨⟨⟨⟨⟨⟨⟨z1,z2⟩,z3⟩,z4⟩,z5⟩,z6⟩,z7⟩,z8⟩,z9⟩);exact (zeV (i:=i) L.fits.calm c1 c2 c3 c4 c5 c6 nd hN lo.1 lo.2 hb c7).imp (low _ c8)
    |_=>exact absurd h3 zzN
   |SetComp _ _ _ _=>cases e<;>exact absurd h3 zzN
   |DictComp _ _ _ _ _=>cases e<;>exact absurd h3 zzN
   |_=>exact absurd rfl hl
theorem sndTL {M:MC} {X:Cx} {ts:ITgs} {es:List Expr} {k:Nat} {q:Pos} (L:Lk Γ M p X) (h:mGs M ts es=true):PG X (.Tuple es k q) (lowG X.K fun w σ G Q=>zW (.tup ts) (unl G w) σ G Q):=by
 obtain ⟨ps,hn,hst⟩:=zgT L ts es h;refine (pg_tl (n:=es.length) L.fits.calm ps hn hst).imp fun v σ H Q q=>?_;obtain ⟨w,σ3,G,rp,hs,ab,q⟩:=q
 cases w with
 |tup ws =>
  obtain ⟨a,vs,rfl,sq,rs⟩:=rp;exact ⟨a,vs,rfl,.inl sq,by rw [rs.length];exact zfe ts es ws σ3 G _ h q,ws,σ3,G,rs,hs,ab,q⟩
 |ref p =>
  cases (show v=.ref p from rp);simp only [unl] at q
  split at q
  .rename_i ws e;obtain ⟨vs,sq,rs⟩:=ab.seq e;exact ⟨p,vs,rfl,.inr sq,by rw [rs.length];exact zfe ts es ws σ3 G _ h q,ws,σ3,G,rs,hs,ab,q⟩
  .exact q.elim
 |_=>exact q.elim
theorem ziP (ts:ITgs) (e:IE):OkS Γ p (.asgT ts e):=by
 intro M X x L h;obtain ⟨es,k,qt,v,q,rfl,h1,h2,h3,h4⟩:=zfs h
 .
  have pg:=sndTL g (k:=k) (q:=qt) L h3;refine (zf5 (uD g e M X v L h4).1 pg (by unfold swapsWithSole;exact kB h1) (by cases v<;>first|rfl|cases h2) rfl).imp fun D τ H hq=>?_;obtain ⟨σ,G,D3,hs,ab,f,hq⟩:=hq;refine ⟨σ,G,hs,ab,zD g.mono XN e σ G _ _ (fun w G' hq v' H' g' rp ab'=>?_) hq⟩;exact ⟨w,σ,G',rp,hs.mono g',ab',mW _ (unl G' w) σ G' _ _ (fun σ2 G2 hq τ2 H2 g2 hs2 a2=>f.nx σ2 G2 τ2 H2 (g'.trans g2) hs2 a2 hq) hq⟩
theorem ziQ (i j:Nat) (e:IE):OkS Γ p (.asgS i j e):=by
 intro M X x L h;obtain ⟨t,v,q,rfl,h1,h2,h3,h4⟩:=zft h;obtain ⟨y,py,z,pz,p2,k,qt,rfl,hi,hj⟩:=zgS h3;have l1:=zbT L hi.2;have l2:=zbT L hj.2;have pg:=zhj (k:=k) (p2:=p2) (pos:=qt) L.fits.calm (fL (za4 (pos:=py) (i:=i) (L.N▸L.nd) (by rw [L.N];exact jF hi.1) l1.1 l1.2) (fL (za4 (pos:=pz) (i:=j) (L.N▸L.nd) (by rw [L.N];exact jF hj.1) l2.1 l2.2) zdb)) rfl rfl;refine (zf5 (uD g e M X v L h4).1 pg (by unfold swapsWithSole;exact kB h1) (by cases v<;>first|rfl|cases h2) rfl).imp fun D τ H hq=>?_;obtain ⟨σ,G,D3,hs,ab,f,hq⟩:=hq;refine yE (zD g.mono XN e) hs ab hq fun w G1 v1 H1 g1 hs1 r1 a1 hq=>?_
 cases w with
 |tup ws =>
  cases ws with
  |nil=>exact hq.elim
  |cons x r =>
   obtain ⟨a,vs,rfl,sq,rs⟩:=r1;obtain ⟨v0,vr,rfl,rx,rr⟩:=rs;refine ⟨a,v0,vr,rfl,sq,by rw [rr.length];exact hq.1,fun p hp=>⟨v0,[.ref p],rfl,.ref p,[],rfl,rfl,?_⟩⟩;have gr:=xF (K:=X.K) (u:=.lst vr) hp;have ab2:xS X.K (xL H1 p (.lst vr)) (put G1 p (.lst r)):=a1.new hp ⟨vr,rfl,rr.mono gr⟩;exact f.nx _ _ _ _ (g1.trans gr) (((hs1.mono gr).set (rx.mono gr) i).set (show xJ X.K _ (.ref p) (.ref p) from rfl) j) ab2 (hq.2 p (a1.free hp))
 |_=>exact hq.elim
theorem ziR (o i e:IE):OkS Γ p (.asgI o i e):=by
 intro M X x L h;obtain ⟨l,r,qs,v,q,rfl,h1,h2,h3,h4,h5⟩:=zfu h
 .
  have pe:=(uD g e M X v L h5).1;have po:=(uD g o M X l L h3).1;have pi:=(uD g i M X r L h4).1;intro pins s τ H D I hq;obtain ⟨σ,G,D3,hs,ab,f,hq⟩:=hq
  have q1:yA X.K (zH Γ XN e).e τ H fun v H1=>yA X.K (zH Γ XN o).e τ H1 fun ov H2=>yA X.K (zH Γ XN i).e τ H2 fun iv H3=>zgi X.K ov iv v H3 fun H4=>D.nx τ H4:=by
   refine yE (zD g.mono XN e) hs ab hq fun w G1 v1 H1 g1 hs1 r1 a1 hq=>?_;refine yE (zD g.mono XN o) hs1 a1 hq fun x G2 v2 H2 g2 hs2 r2 a2 hq=>?_;refine yE (zD g.mono XN i) hs2 a2 hq fun y G3 v3 H3 g3 hs3 r3 a3 hq=>?_;exact ⟨x,y,w,G3,r2.mono g3,r3,(r1.mono g2).mono g3,a3,zc0 (fun G4 hq H4 g4 a4=>f.nx σ G4 τ H4 (g1.trans (g2.trans (g3.trans g4))) (hs3.mono g4) a4 hq) hq⟩
  refine wpAny_Assign_Subscript (yG (pe pins s τ H _ I q1) fun u1 s1 ⟨v1,H1,I1,r1,q1⟩=>yG (po pins s1 τ H1 _ I1 q1) fun u2 s2 ⟨v2,H2,I2,r2,q2⟩=>yG (pi pins s2 τ H2 _ I2 q2) fun u3 s3 ⟨v3,H3,I3,r3,q3⟩=>?_) (kB h1);exact yG (zi7 (pO g L) pins s3 τ H3 v2 v3 v1 u2 u3 u1 _ I3 r2 r3 r1 q3) fun _ s4 ⟨H4,I4,q4⟩=>⟨τ,H4,I4,q4⟩
theorem ziS (o:IE) (f:Str) (e:IE):OkS Γ p (.asgA o f e):=by
 intro M X x L h;obtain ⟨l,qs,v,q,rfl,h2,h3,h4⟩:=zfv h
 .
  refine (zjt (uD g o M X l L h3).1 (uD g e M X v L h4).1 (kB h2)).imp fun D τ H hq=>?_;obtain ⟨σ,G,D3,hs,ab,fi,hq⟩:=hq;refine yE (zD g.mono XN e) hs ab hq fun w G1 v1 H1 g1 hs1 r1 a1 hq=>?_;refine yE (zD g.mono XN o) hs1 a1 hq fun x G2 v2 H2 g2 hs2 r2 a2 hq=>?_
  cases x with
  |ref a =>
   cases r2;simp only [satR] at hq
   split at hq
   .rename_i C fs e2;obtain ⟨⟨l2,hl,hf⟩,hlen,hq⟩:=hq;obtain ⟨dx,fs',e',rk⟩:=a2.ins e2;have c:=g.cl _ hl;refine ⟨a,C,dx,fs',rfl,e',by rw [L.fits.K];exact c.1,by rw [L.fits.K];exact c.2 f hf,by rw [rk.length];exact hlen,?_⟩;have gr:=a2.grow (u:=.ins C dx (vK f v1 fs')) e2;exact fi.nx σ _ τ _ (g1.trans (g2.trans gr)) (hs2.mono gr) (a2.chg (o:=.ins C (zc9 f w fs)) e2 ⟨dx,_,rfl,zbG ((r1.mono g2).mono gr) (rk.mono gr)⟩) hq
   .exact hq.elim
  |_=>exact hq.elim
theorem uF:OkS Γ p .retN/\OkS Γ p .pass/\OkS Γ p .brk/\OkS Γ p .cnt/\OkS Γ p .dead:=by
 refine ⟨fun M X x L h=>?_,fun M X x L h=>?_,fun M X x L h=>?_,fun M X x L h=>?_,fun M X x L h=>?_⟩
 .obtain ⟨q,rfl⟩:=zfp h;exact zhd.imp fun D τ H hq=>by obtain ⟨σ,G,D3,hs,ab,f,hq⟩:=hq;exact f.rt .non G _ H .refl (show xJ X.K H .non .non from rfl) ab hq
 .obtain ⟨q,rfl⟩:=zfq h;exact zhe.imp fun D τ H hq=>by obtain ⟨σ,G,D3,hs,ab,f,hq⟩:=hq;exact f.nx σ G τ H .refl hs ab hq
 .obtain ⟨q,rfl⟩:=zhR h;exact zeX.imp fun D τ H hq=>by obtain ⟨σ,G,D3,hs,ab,f,hq⟩:=hq;exact f.bk σ G τ H .refl hs ab hq
 .obtain ⟨q,rfl⟩:=zhN h;exact za3.imp fun D τ H hq=>by obtain ⟨σ,G,D3,hs,ab,f,hq⟩:=hq;exact f.ct σ G τ H .refl hs ab hq
 .exact zeW.imp fun D τ H hq=>by obtain ⟨σ,G,D3,hs,ab,f,hq⟩:=hq;exact hq.elim
theorem t_ex (e:IE):OkS Γ p (.ex e):=by
 intro M X x L h;obtain ⟨v,q,rfl,hh⟩:=zkD h
 .have h:=hh;refine (zhf (uD g e M X v L h.2).1 (kB h.1)).imp fun D τ H hq=>?_;obtain ⟨σ,G,D3,hs,ab,f,hq⟩:=hq;exact yE (zD g.mono XN e) hs ab hq fun w G1 v1 H1 g1 hs1 r1 a1 hq=>f.nx σ G1 τ H1 g1 hs1 a1 hq
theorem t_ret (e:IE):OkS Γ p (.ret e):=by
 intro M X x L h;obtain ⟨v,q,rfl,hh⟩:=zhJ h
 .have h:=hh;refine (zjr (uD g e M X v L h).1).imp fun D τ H hq=>?_;obtain ⟨σ,G,D3,hs,ab,f,hq⟩:=hq;exact yE (zD g.mono XN e) hs ab hq fun w G1 v1 H1 g1 hs1 r1 a1 hq=>f.rt w G1 v1 H1 g1 r1 a1 hq
theorem t_ite (c:IE) (a b:ISs) (ha:OkSs Γ p a) (hb:OkSs Γ p b):OkS Γ p (.ite c a b):=by
 intro M X x L h;obtain ⟨t,y,z,q,rfl,hh⟩:=zhL h
 .have h:=hh;refine (ps_if (uD g c M X t L h.1).2.1 (ha M X y L h.2.1) (hb M X z L h.2.2)).imp fun D τ H hq=>?_;obtain ⟨σ,G,D3,hs,ab,f,hq⟩:=hq;refine cT (pV g.mono XN c) hs ab hq fun k G1 H1 g1 hs1 a1 hq=>?_
  split
  .rename_i hk;rw [if_pos hk] at hq;exact ⟨σ,G1,D3,hs1,a1,f.grow g1,hq⟩
  .rename_i hk;rw [if_neg hk] at hq;exact ⟨σ,G1,D3,hs1,a1,f.grow g1,hq⟩
theorem t_whl (c:IE) (b:ISs) (hb:OkSs Γ p b):OkS Γ p (.whl c b):=by
 intro M X x L h;obtain ⟨t,y,q,rfl,hh⟩:=zhI h
 .have h:=hh;have hp:PassesOwn (model X.prog X.w) X.A X.env X.xe:=by rw [L.fits.xe];exact PassesOwn.never
  refine (zeU hp (uD g c M X t L h.1).2.1 (hb M X y L h.2)).imp fun D τ H hq=>?_;obtain ⟨σ,G,D3,hs,ab,f,Pv,⟨m0,p0⟩,step⟩:=hq;refine ⟨fun m τ H'=>yI X.K H H'/\∃ σ G,yK X.K H' σ τ/\xS X.K H' G/\Pv m σ G,⟨m0,.refl,σ,G,hs,ab,p0⟩,?_⟩;rintro m τ1 H1 ⟨g1,σ1,G1,hs1,a1,p1⟩;refine cT (pV g.mono XN c) hs1 a1 (step m σ1 G1 p1) fun k G2 H2 g2 hs2 a2 hq=>?_
  split
  .rename_i hk;rw [if_pos hk] at hq;refine ⟨fun τ' H'=>∃ m',m' < m/\yI X.K H H'/\∃ σ G,yK X.K H' σ τ'/\xS X.K H' G/\Pv m' σ G,fun τ' H' z=>z,?_⟩;refine ⟨σ1,G2,_,hs2,a2,⟨?_,?_,?_,?_⟩,hq⟩
   .rintro σ3 G3 τ3 H3 g3 hs3 a3 ⟨m',hm,p'⟩;exact ⟨m',hm,g1.trans (g2.trans g3),σ3,G3,hs3,a3,p'⟩
   .exact fun σ3 G3 τ3 H3 g3 hs3 a3 z=>f.nx σ3 G3 τ3 H3 (g1.trans (g2.trans g3)) hs3 a3 z
   .rintro σ3 G3 τ3 H3 g3 hs3 a3 ⟨m',hm,p'⟩;exact ⟨m',hm,g1.trans (g2.trans g3),σ3,G3,hs3,a3,p'⟩
   .exact fun w G3 v3 H3 g3 r3 a3 z=>f.rt w G3 v3 H3 (g1.trans (g2.trans g3)) r3 a3 z
  .rename_i hk;rw [if_neg hk] at hq;exact f.nx σ1 G2 τ1 H2 (g1.trans g2) hs2 a2 hq
theorem t_for (tg:ITg) (it:II) (b:ISs) (hb:OkSs Γ p b):OkS Γ p (.for tg it b):=by
 intro M X x L h;obtain ⟨t,y,z,q,rfl,h1,h2,h3,h4⟩:=zhM h
 .
  have hp:PassesOwn (model X.prog X.w) X.A X.env X.xe:=by rw [L.fits.xe];exact PassesOwn.never
  refine (zjs hp L.fits.calm (sndI g it M X y L h3 t) (sndG L tg t h2) (hb M X z L h4) (zaC h1)).imp fun D τ H hq=>?_;obtain ⟨σ,G,D3,hs,ab,f,hq⟩:=hq;refine ⟨σ,G,hs,ab,zjX g.mono XN it σ G _ _ (fun items stab G1 hq J H1 g1 a1 ii=>?_) hq⟩;obtain ⟨Pv,p0,pst,step,fin⟩:=hq;refine ⟨fun i m τ H'=>m+i=items.length/\yI X.K H1 H'/\∃ σ G,yK X.K H' σ τ/\xS X.K H' G/\Pv i σ G,⟨items.length,rfl,.refl,σ,G1,hs.mono g1,a1,p0⟩,?_⟩;rintro i m τ2 H2 ⟨hm,g2,σ2,G2,hs2,a2,p2⟩;have st:=pst i σ2 G2 p2 (by omega)
  by_cases hi:i<items.length
  .refine .inr ⟨ii.go i H2 G2 g2 a2 st hi,fun τ' H'=>∃ m',m' < m/\(m'+(i+1)=items.length/\yI X.K H1 H'/\∃ σ G,yK X.K H' σ τ'/\xS X.K H' G/\Pv (i+1) σ G),fun τ' H' z=>z,fun x H' yl=>?_⟩;obtain ⟨w,ew,g3,rp,a3⟩:=ii.yld i H2 G2 x H' g2 a2 st hi yl;refine ⟨w,σ2,G2,rp,hs2.mono g3,a3,mW tg w σ2 G2 _ _ (fun σ4 G4 hq τ4 H4 g4 hs4 a4=>?_) (step i w σ2 G2 ew p2)⟩;refine ⟨σ4,G4,_,hs4,a4,⟨?_,?_,?_,?_⟩,hq⟩
   .exact fun σ5 G5 τ5 H5 g5 hs5 a5 z=>⟨m-1,by omega,by omega,g2.trans (g3.trans (g4.trans g5)),σ5,G5,hs5,a5,z⟩
   .exact fun σ5 G5 τ5 H5 g5 hs5 a5 z=>f.nx σ5 G5 τ5 H5 (g1.trans (g2.trans (g3.trans (g4.trans g5)))) hs5 a5 z
   .exact fun σ5 G5 τ5 H5 g5 hs5 a5 z=>⟨m-1,by omega,by omega,g2.trans (g3.trans (g4.trans g5)),σ5,G5,hs5,a5,z⟩
   .exact fun w5 G5 v5 H5 g5 r5 a5 z=>f.rt w5 G5 v5 H5 (g1.trans (g2.trans (g3.trans (g4.trans g5)))) r5 a5 z
  .have ei:i=items.length:=by omega
   subst ei;exact .inl ⟨ii.stop _ H2 G2 g2 a2 st (zzR _),f.nx σ2 G2 τ2 H2 (g1.trans g2) hs2 a2 (fin σ2 G2 p2)⟩
theorem sndSs (s:ISs):OkSs Γ p s :=
 ISs.rec (motive_1:=OkS Γ p) (motive_2:=OkSs Γ p) (t_asg g) (ziP g) (ziR g) (ziS g) (t_ex g) (t_ret g) (uF g).1 (uF g).2.1 (uF g).2.2.1 (uF g).2.2.2.1
  (fun c a b ha hb=>t_ite g c a b ha hb) (fun c b hb=>t_whl g c b hb) (fun tg it b hb=>t_for g tg it b hb) (uF g).2.2.2.2 (ziQ g)
  (fun M X x L h=>by
   cases zhK h;exact zhc.imp fun D τ H hq=>by obtain ⟨σ,G,D3,hs,ab,f,hq⟩:=hq;exact f.nx σ G τ H .refl hs ab hq)
  (fun s ss hs1 hs2 M X x L h=>by
   obtain ⟨y,ys,rfl,hh⟩:=zfr h
   .have h:=hh;refine (zeT (hs1 M X y L h.1) (hs2 M X ys L h.2)).imp fun D τ H hq=>?_;obtain ⟨σ,G,D3,hs,ab,f,hq⟩:=hq;refine ⟨σ,G,{ D3 with nx:=zG Γ XN ss D3 },hs,ab,⟨?_,f.bk,f.ct,f.rt⟩,hq⟩;exact fun σ2 G2 τ2 H2 g2 hs2 a2 z=>⟨σ2,G2,D3,hs2,a2,f.grow g2,z⟩) s
end
end L3
namespace PySem
open Sem (wp)
section
variable {prog : Program} {w : World} {s : Shared} {A : Around} {E : Value → Shared → Prop}
def itc (b:Bool):String:=if b then "tuple_iterator" else "list_iterator"
def rL (b:Bool) (h:Heap) (i l:Addr) (k:Nat):Prop:=∃ o,h.get? i=some o/\o.cls=.type (itc b)/\o.data=.fields #[.ref l,.int k 0]
def pD (b:Bool) (h:Heap) (l:Addr) (its:Array Value):Prop:=match b with
 |true=>h.IsTuple l its
 |false=>h.IsList l its
theorem rL.at {b:Bool} {h h':Heap} {i l:Addr} {k:Nat} (x:rL b h i l k) (e:∀ o,h.get? i=some o->h'.get? i=some o):rL b h' i l k:=let ⟨o,ho,r⟩:=x;⟨o,e _ ho,r⟩
theorem pD.at {b:Bool} {h h':Heap} {l:Addr} {its:Array Value} (x:pD b h l its) (e:∀ o,h.get? l=some o->h'.get? l=some o):pD b h' l its:=by
 cases b
 .obtain ⟨o,ho,r⟩:=x;exact ⟨o,e _ ho,r⟩
 .obtain ⟨o,ho,r⟩:=x;exact ⟨o,e _ ho,r⟩
theorem rL.eb {b:Bool} {h h':Heap} {i l c:Addr} {k:Nat} (x:rL b h i l k) (e:Heap.ExtBut c h h') (n:i≠c):rL b h' i l k:=x.at fun o q=>e _ o n q
theorem pD.eb {b:Bool} {h h':Heap} {l c:Addr} {its:Array Value} (x:pD b h l its) (e:Heap.ExtBut c h h') (n:l≠c):pD b h' l its:=x.at fun o q=>e _ o n q
theorem vO {b:Bool} {l:Addr} {its:Array Value} {Q:Value->Shared->Prop} (h:pD b s.heap l its)
  (hQ:Q (.ref s.heap.objs.size) { s with heap:=s.heap.push { cls:=.type (itc b),data:=.fields #[.ref l,.int 0 0] } }):wpAny (model prog w) A (pyIter (.ref l)) Q E s:=by
 cases b
 .exact wpAny_pyIter_list h hQ
 .exact wpAny_pyIter_tuple h hQ
abbrev zd1 (it:Addr):Sem Value:=Builtin.SmallTypes.nextOf (.ref it)
theorem zfV {it:Addr} {Q:Value->Shared->Prop} (ty:s.TypeIs (.ref it) "tuple_iterator")
  (h:wpAny (model prog w) A.in1 (Builtin.«tuple_iterator.__next__» ⟨[.ref it],[]⟩) (fun f s'=>∃ v,f=.done (.ret v)/\Q v s') E s) :
  wpAny (model prog w) A (zd1 it) Q E s:=by
 have sl:=F.slot_tuple_iterator_next;apply wpAny_bind;apply wpAny_callSpecial?_slot ty sl;apply wpAny_call_entry sl ty F.entry_tuple_iterator_next _ (F.args_tuple_iterator_next_1 _);exact wpAny_mono h (fun _ _ ⟨v,e,q⟩=>⟨v,e,wpAny_pure q⟩) fun _ _ e=>e
theorem hZ {it t:Addr} {i:Nat} {items} {x:Value} {Q:Value->Shared->Prop} (hit:s.heap.IsTupleIter it t i) (ht:s.heap.IsTuple t items) (hx:items[i]?=some x)
  (hQ:∀ h',h'.IsTupleIter it t (i+1)->Heap.SameBut it s.heap h'->Q x { s with heap:=h' }) :
  wpAny (model prog w) A (zd1 it) Q E s:=by
 apply zfV hit.typeIs;obtain ⟨⟨c,di,da,sl⟩,g1,c1,d1⟩:=hit;obtain ⟨⟨c2,di2,da2,sl2⟩,g2,c2',n2,d2⟩:=ht;cases c1;cases d1;cases d2;obtain ⟨hp,ge,dr,tk,os⟩:=s
 wp_walk using wpAny_loadPart' g2,wpAny_loadPart' g1
 rw [Int.toNat_natCast,hx]
 wp_walk using wpAny_loadPart' g1
 refine ⟨x,rfl,hQ _ ⟨_,Heap.get?_update_self _ g1 rfl,rfl,?_⟩ (.update ..)⟩;exact congrArg (fun z=>Data.fields #[.ref t,z]) rfl
theorem gG {it t:Addr} {i:Nat} {items} {Q:Value->Shared->Prop} (hh:A.handled=none) (hit:s.heap.IsTupleIter it t i) (ht:s.heap.IsTuple t items) (hx:items[i]?=none)
  (hE:∀ g e,Heap.ExtBut it s.heap g->(∃ o,g.get? e=some o/\o.cls=.type "StopIteration")->E (.ref e) { s with heap:=g }) :
  wpAny (model prog w) A (zd1 it) Q E s:=by
 apply zfV hit.typeIs;obtain ⟨⟨c,di,da,sl⟩,g1,c1,d1⟩:=hit;obtain ⟨⟨c2,di2,da2,sl2⟩,g2,c2',n2,d2⟩:=ht;cases c1;cases d1;cases d2;obtain ⟨hp,ge,dr,tk,os⟩:=s;have hh':A.in1.handled=none:=hh
 wp_walk using wpAny_loadPart' g2,wpAny_loadPart' g1
 rw [Int.toNat_natCast,hx]
 wp_walk using wpAny_loadPart' g1
 unfold raiseNew
 wp_walk
 exact hE _ _ (fun b o n z=>Heap.get?_push_of_some _ (Heap.get?_push_of_some _ ((Heap.SameBut.update ..).extBut b o n z))) ⟨_,Heap.get?_push_size _ rfl,rfl⟩
theorem qB {b:Bool} {it l:Addr} {i:Nat} {items:Array Value} {x:Value} {Q:Value->Shared->Prop} (hit:rL b s.heap it l i) (hl:pD b s.heap l items) (hx:items[i]?=some x)
  (hQ:∀ h',rL b h' it l (i+1)->Heap.SameBut it s.heap h'->Q x { s with heap:=h' }):wpAny (model prog w) A (Builtin.SmallTypes.nextOf (.ref it)) Q E s:=by
 cases b
 .exact wpAny_nextOf_list_item hit hl hx hQ
 .exact hZ hit hl hx hQ
theorem rF {b:Bool} {it l:Addr} {i:Nat} {items:Array Value} {Q:Value->Shared->Prop} (hh:A.handled=none) (hit:rL b s.heap it l i) (hl:pD b s.heap l items) (hx:items[i]?=none)
  (hE:∀ h' e,Heap.ExtBut it s.heap h'->(∃ o,h'.get? e=some o/\o.cls=.type "StopIteration")->E (.ref e) { s with heap:=h' }):wpAny (model prog w) A (Builtin.SmallTypes.nextOf (.ref it)) Q E s:=by
 cases b
 .exact wpAny_nextOf_list_end hh hit hl hx hE
 .exact gG hh hit hl hx hE
abbrev IsZ (h:Heap) (z TI TO:Addr) (f0 f1:Value):Prop :=
 h.get? z=some { cls:=.type "zip", dict:=none,data:=.fields #[f0,f1,.bool false,.ref TI,.ref TO],slots:=#[] }
end
abbrev zpH1 (a:Bool) (h:Heap) (l1:Addr):Heap:=h.push { cls:=.type (itc a),data:=.fields #[.ref l1,.int 0 0] }
abbrev zpH2 (a b:Bool) (h:Heap) (l1 l2:Addr):Heap:=(zpH1 a h l1).push { cls:=.type (itc b),data:=.fields #[.ref l2,.int 0 0] }
abbrev zpH3 (a b:Bool) (h:Heap) (l1 l2:Addr):Heap:=(zpH2 a b h l1 l2).push { cls:=.type "tuple", data:=.seq #[.ref h.objs.size,.ref (zpH1 a h l1).objs.size] }
abbrev zpH4 (a b:Bool) (h:Heap) (l1 l2:Addr):Heap:=(zpH3 a b h l1 l2).push { cls:=.type "tuple", data:=.seq #[.none,.none] }
abbrev zpH5 (a b:Bool) (h:Heap) (l1 l2:Addr):Heap:=(zpH4 a b h l1 l2).push { cls:=.type "zip", data:=.fields #[.none,.bool false,.bool false,.ref (zpH2 a b h l1 l2).objs.size,.ref (zpH3 a b h l1 l2).objs.size] }
theorem zao (a b:Bool) (l1 l2:Addr) (xs ys:Array Value) :
  Meets (Builtin.«zip.__new__» ⟨[.type "zip", .ref l1,.ref l2],[]⟩) (fun _ R s=>pD a s.heap l1 xs/\pD b s.heap l2 ys /\
   R (.ok (.ret (.ref (zpH4 a b s.heap l1 l2).objs.size))) { s with heap:=zpH5 a b s.heap l1 l2 }) :=
 .of_wp fun prog w A R st ⟨hl1,hl2,h⟩=>by
  obtain ⟨hp,g,d,tk,os⟩:=st;have hsub:=sub_zip;have hL1:pD a (Shared.heap ⟨hp,g,d,tk,os⟩) l1 xs:=hl1;have hL2:pD b (Shared.heap ⟨hp.push { cls:=.type (itc a),data:=.fields #[.ref l1,.int 0 0] },g,d,tk,os⟩) l2 ys:=hl2.at fun o e=>Heap.get?_push_of_some _ e
  wp_walk using vO hL1,vO hL2
  exact ⟨_,rfl,h⟩
section
variable {prog : Program} {w : World} {s : Shared} {A : Around} {E : Value → Shared → Prop}
theorem zio {a b:Bool} {l1 l2:Addr} {xs ys:Array Value} {Q:Value->Shared->Prop} (hl1:pD a s.heap l1 xs) (hl2:pD b s.heap l2 ys)
  (h:∀ h',IsZ h' (s.heap.objs.size+4) (s.heap.objs.size+2) (s.heap.objs.size+3) .none (.bool false)->IsPair h' (s.heap.objs.size+2) (.ref s.heap.objs.size) (.ref (s.heap.objs.size+1)) ->
   IsPair h' (s.heap.objs.size+3) .none .none->rL a h' s.heap.objs.size l1 0->rL b h' (s.heap.objs.size+1) l2 0->h'.objs.size=s.heap.objs.size+5->(∀ c o,s.heap.get? c=some o->h'.get? c=some o)->Q (.ref (s.heap.objs.size+4)) { s with heap:=h' }):wpAny (model prog w) A (call (.type "zip") [.ref l1,.ref l2]) Q E s:=by
 apply callType_new F.called_zip (by decide) (F.typeCall_zip_2 _ _) (F.newCall_zip_2 _ _) (fun o=>F.args_object_init_3 o _ _) F.entry_zip_new (zao a b l1 l2 xs ys);refine ⟨hl1,hl2,?_⟩;have z1:(zpH1 a s.heap l1).objs.size=s.heap.objs.size+1:=Heap.size_push ..;have z2:(zpH2 a b s.heap l1 l2).objs.size=s.heap.objs.size+2:=by rw [Heap.size_push,z1]
 have z3:(zpH3 a b s.heap l1 l2).objs.size=s.heap.objs.size+3:=by rw [Heap.size_push,z2]
 have z4:(zpH4 a b s.heap l1 l2).objs.size=s.heap.objs.size+4:=by rw [Heap.size_push,z3]
 have z5:(zpH5 a b s.heap l1 l2).objs.size=s.heap.objs.size+5:=by rw [Heap.size_push,z4]
 have g5:(zpH5 a b s.heap l1 l2).get? (zpH4 a b s.heap l1 l2).objs.size=some _:=Heap.get?_push_size _ rfl;have g4:(zpH5 a b s.heap l1 l2).get? (zpH3 a b s.heap l1 l2).objs.size=some _:=Heap.get?_push_of_some _ (Heap.get?_push_size _ rfl);have g3:(zpH5 a b s.heap l1 l2).get? (zpH2 a b s.heap l1 l2).objs.size=some _:=Heap.get?_push_of_some _ (Heap.get?_push_of_some _ (Heap.get?_push_size _ rfl));have g2:(zpH5 a b s.heap l1 l2).get? (zpH1 a s.heap l1).objs.size=some _:=Heap.get?_push_of_some _ (Heap.get?_push_of_some _ (Heap.get?_push_of_some _ (Heap.get?_push_size _ rfl)));have g1:(zpH5 a b s.heap l1 l2).get? s.heap.objs.size=some _:=Heap.get?_push_of_some _ (Heap.get?_push_of_some _ (Heap.get?_push_of_some _ (Heap.get?_push_of_some _ (Heap.get?_push_size _ rfl))));show _/\_;rw [z2,z3,z4] at g5;rw [z1,z2] at g3;rw [z3] at g4;rw [z1] at g2;rw [z4];refine ⟨⟨_,g5,rfl⟩,h _ g5 g3 g4 ⟨_,g1,rfl,rfl⟩ ⟨_,g2,rfl,rfl⟩ z5 fun c o x=>?_⟩
 iterate 5 refine Heap.get?_push_of_some _ ?_
 exact x
end
end PySem
namespace PySem
open Sem (wp)
section
variable {prog : Program} {w : World} {s : Shared} {A : Around} {E : Value → Shared → Prop}
theorem uZ {M:Model} {a:Addr} {Q:Option Obj->Shared->Prop} (h:Q (s.heap.get? a) s):wpAny M A (loadIfAlive a) Q E s:=fun Γ p hΓ=>by
 unfold loadIfAlive;rw [Sem.wp_loadIfAlive];exact wpAny_pure h Γ p hΓ
abbrev zep (z:Addr):Sem Fin:=Builtin.«zip.__next__» ⟨[.ref z],[]⟩
abbrev ziA (Q:Value->Shared->Prop) (f:Fin) (s:Shared):Prop:=∃ v,f=.done (.ret v)/\Q v s
abbrev But4 (z TO i1 i2:Addr) (h h':Heap):Prop:=∀ c o,c≠z->c≠TO->c≠i1->c≠i2->h.get? c=some o->h'.get? c=some o
abbrev zgA (h:Heap) (e:Addr):Prop:=∃ o,h.get? e=some o/\o.cls=.type "StopIteration"
def Stp (p:Prop):Prop:=p
theorem wA {M:Model} {v:Value} {Q:Value->Shared->Prop} (h:Stp (wpAny M A (Builtin.SmallTypes.nextOf v) Q E s)):wpAny M A (Builtin.SmallTypes.nextOf v) Q E s:=h
theorem zbI {z TI TO:Addr} {f0 f1:Value} {Q:Bool->Shared->Prop} (hz:IsZ s.heap z TI TO f0 f1) (hfr:f0=.none\/∃ T:Addr,f0=rawInt T/\s.heap.get? T=none) (h:Q true s) :
  wpAny (model prog w) A (Builtin.SmallTypes.ownedTupleIsFree (.ref z)) Q E s:=by
 obtain ⟨hp,ge,dr,tk,os⟩:=s;obtain rfl|⟨T,rfl,d⟩:=hfr<;>wp_walk using uZ<;>exact h
theorem zbH {z TI TO T:Addr} {f1:Value} {o:Obj} {Q:Bool->Shared->Prop} (hz:IsZ s.heap z TI TO (rawInt T) f1) (hf:f1=.bool false\/f1=.bool true) (hT:s.heap.get? T=some o)
  (h:∀ h',IsZ h' z TI TO (rawInt T) (.bool true)->Heap.SameBut z s.heap h'->Q false { s with heap:=h' }) :
  wpAny (model prog w) A (Builtin.SmallTypes.ownedTupleIsFree (.ref z)) Q E s:=by
 obtain ⟨hp,ge,dr,tk,os⟩:=s;obtain rfl|rfl:=hf<;>wp_walk using uZ
 .exact h _ (Heap.get?_update_self _ hz rfl) (.update ..)
 .exact h _ hz (.refl ..)
theorem zgE {a b:Bool} {z TI TO i1 i2 l1 l2:Addr} {k1 k2:Nat} {xs ys:Array Value} {x y u v f0 f1:Value} {Q:Value->Shared->Prop} (D:ZipApart z TI TO i1 i2 l1 l2)
  (hfr:f0=.none\/∃ T:Addr,f0=rawInt T/\s.heap.get? T=none) (hz:IsZ s.heap z TI TO f0 f1) (hTI:IsPair s.heap TI (.ref i1) (.ref i2)) (hTO:IsPair s.heap TO u v)
  (h1:rL a s.heap i1 l1 k1) (h2i:rL b s.heap i2 l2 k2) (hl1:pD a s.heap l1 xs) (hl2:pD b s.heap l2 ys) (hx:xs[k1]?=some x) (hy:ys[k2]?=some y)
  (hQ:∀ h',IsZ h' z TI TO (rawInt s.heap.objs.size) (.bool false)->IsPair h' TO x y->rL a h' i1 l1 (k1+1)->rL b h' i2 l2 (k2+1)->IsPair h' s.heap.objs.size x y->h'.objs.size=s.heap.objs.size+1 ->
   But4 z TO i1 i2 s.heap h'->Q (.ref s.heap.objs.size) { s with heap:=h' }) :
  wpAny (model prog w) A (zep z) (ziA Q) E s:=by
 wp_walk using wA,zbI hz hfr,wpAny_onRaise
 have b1:=(Heap.SameBut.update (h:=s.heap) (a:=z) (f:=Obj.mapFields fun x=>x.setIfInBounds 0 .ellipsis)).extBut;refine qB (h1.eb b1 D.i1z) (hl1.eb b1 D.l1z) hx fun h2 q1 k2=>?_;have t2:IsPair h2 TO u v:=k2.extBut _ _ D.TOi1 (b1 _ _ D.TOz hTO);have z2:IsZ h2 z TI TO .ellipsis f1:=k2.extBut _ _ D.i1z.symm (Heap.get?_update_self _ hz rfl)
 wp_walk using wA,wpAny_onRaise
 have b3:=(Heap.SameBut.update h2 TO (Obj.mapSeq fun e=>e.setIfInBounds 0 x)).extBut;have c3:∀ c o,c≠z->c≠TO->c≠i1->s.heap.get? c=some o->(h2.update TO (Obj.mapSeq fun e=>e.setIfInBounds 0 x)).get? c=some o:=fun c o n1 n2 n3 e=>b3 _ _ n2 (k2.extBut _ _ n3 (b1 _ _ n1 e));refine qB (h2i.at fun o e=>c3 _ o D.i2z D.TOi2.symm D.i12.symm e) (hl2.at fun o e=>c3 _ o D.l2z D.l2TO D.l2i1 e) hy fun h4 q2 k4=>?_;have t4:IsPair h4 TO x v:=k4.extBut _ _ D.TOi2 (Heap.get?_update_self _ t2 rfl);have z4:IsZ h4 z TI TO .ellipsis f1:=k4.extBut _ _ D.i2z.symm (b3 _ _ D.TOz.symm z2);have n1:=D.TOz
 wp_walk
 have b5:=(Heap.SameBut.update h4 TO (Obj.mapSeq fun e=>e.setIfInBounds (0+1) y)).extBut;have t5:IsPair (h4.update TO (Obj.mapSeq fun e=>e.setIfInBounds (0+1) y)) TO x y:=Heap.get?_update_self _ t4 rfl;have z5:=b5 _ _ n1.symm z4;have m5:(h4.update TO (Obj.mapSeq fun e=>e.setIfInBounds (0+1) y)).objs.size=s.heap.objs.size:=by rw [Heap.size_after_update,k4.1,Heap.size_after_update,k2.1,Heap.size_after_update]
 have c5:∀ c o,c≠z->c≠TO->c≠i1->c≠i2->s.heap.get? c=some o->(h4.update TO (Obj.mapSeq fun e=>e.setIfInBounds (0+1) y)).get? c=some o:=fun c o n1 n2 n3 n4 e=>b5 _ _ n2 (k4.extBut _ _ n4 (c3 _ _ n1 n2 n3 e));have q15:=((q1.eb b3 D.TOi1.symm).eb k4.extBut D.i12).eb b5 D.TOi1.symm;have q25:=q2.eb b5 D.TOi2.symm;generalize h4.update TO (Obj.mapSeq fun e=>e.setIfInBounds (0+1) y)=h5 at *;rw [m5]
 have b6:∀ c o,c≠z->h5.get? c=some o->(((h5.push { cls:=.type "tuple", data:=.seq #[x,y] }).update z (Obj.mapFields fun e=>e.setIfInBounds 0 (rawInt s.heap.objs.size))).update z (Obj.mapFields fun e=>e.setIfInBounds 1 (.bool false))).get? c=some o :=
  fun c o n e=>(Heap.SameBut.update ..).extBut _ _ n ((Heap.SameBut.update ..).extBut _ _ n (Heap.get?_push_of_some _ e))
 refine ⟨_,rfl,hQ _ (Heap.get?_update_self _ (Heap.get?_update_self _ (Heap.get?_push_of_some _ z5) rfl) rfl) (b6 _ _ n1 t5) (q15.at fun o e=>b6 _ o D.i1z e) (q25.at fun o e=>b6 _ o D.i2z e) ?_ ?_ fun c o n1 n2 n3 n4 e=>b6 c o n1 (c5 c o n1 n2 n3 n4 e)⟩
 .have:=Heap.lt_size z5;rw [m5] at this;refine (Heap.SameBut.update ..).extBut _ _ (Nat.ne_of_gt this) ((Heap.SameBut.update ..).extBut _ _ (Nat.ne_of_gt this) ?_);exact m5▸Heap.get?_push_size _ rfl
 .rw [Heap.size_after_update,Heap.size_after_update,Heap.size_push,m5]
theorem zgD {a b:Bool} {z TI TO i1 i2 l1 l2 T:Addr} {k1 k2:Nat} {xs ys:Array Value} {x y u v f1:Value} {oT:Obj} {Q:Value->Shared->Prop} (D:ZipApart z TI TO i1 i2 l1 l2) (hf:f1=.bool false\/f1=.bool true)
  (hz:IsZ s.heap z TI TO (rawInt T) f1) (hT:s.heap.get? T=some oT) (hTI:IsPair s.heap TI (.ref i1) (.ref i2)) (hTO:IsPair s.heap TO u v)
  (h1:rL a s.heap i1 l1 k1) (h2i:rL b s.heap i2 l2 k2) (hl1:pD a s.heap l1 xs) (hl2:pD b s.heap l2 ys) (hx:xs[k1]?=some x) (hy:ys[k2]?=some y)
  (hQ:∀ h',IsZ h' z TI TO (rawInt T) (.bool true)->rL a h' i1 l1 (k1+1)->rL b h' i2 l2 (k2+1)->IsPair h' s.heap.objs.size x y->h'.objs.size=s.heap.objs.size+1 ->
   (∀ c o,c≠z->c≠i1->c≠i2->s.heap.get? c=some o->h'.get? c=some o)->Q (.ref s.heap.objs.size) { s with heap:=h' }) :
  wpAny (model prog w) A (zep z) (ziA Q) E s:=by
 wp_walk using wA,zbH hz hf hT
 intro g z1 j1
 wp_walk using wA
 refine qB (h1.eb j1.extBut D.i1z) (hl1.eb j1.extBut D.l1z) hx fun h2 q1 k2=>?_
 wp_walk using wA
 have c2:∀ c o,c≠z->c≠i1->s.heap.get? c=some o->h2.get? c=some o:=fun c o n1 n2 e=>k2.extBut _ _ n2 (j1.extBut _ _ n1 e);refine qB (h2i.at fun o e=>c2 _ o D.i2z D.i12.symm e) (hl2.at fun o e=>c2 _ o D.l2z D.l2i1 e) hy fun h3 q2 k3=>?_
 wp_walk
 have m:h3.objs.size=s.heap.objs.size:=by rw [k3.1,k2.1,j1.1]
 have p:∀ c o,h3.get? c=some o->(h3.push { cls:=.type "tuple", data:=.seq #[x,y] }).get? c=some o:=fun c o e=>Heap.get?_push_of_some _ e;rw [m];refine ⟨_,rfl,hQ _ (p _ _ (k3.extBut _ _ D.i2z.symm (k2.extBut _ _ D.i1z.symm z1))) ((q1.eb k3.extBut D.i12).at (p _)) (q2.at (p _)) ?_ ?_ fun c o n1 n2 n3 e=>p _ _ (k3.extBut _ _ n3 (c2 _ _ n1 n2 e))⟩
 .exact m▸Heap.get?_push_size _ rfl
 .rw [Heap.size_push,m]
theorem mY {a b:Bool} {z TI TO i1 i2 l1 l2:Addr} {k1 k2:Nat} {xs ys:Array Value} {u v f0 f1:Value} {Q:Fin->Shared->Prop} (hh:A.handled=none) (D:ZipApart z TI TO i1 i2 l1 l2)
  (hfr:f0=.none\/∃ T:Addr,f0=rawInt T/\s.heap.get? T=none) (hz:IsZ s.heap z TI TO f0 f1) (hTI:IsPair s.heap TI (.ref i1) (.ref i2)) (hTO:IsPair s.heap TO u v)
  (h1:rL a s.heap i1 l1 k1) (h2i:rL b s.heap i2 l2 k2) (hl1:pD a s.heap l1 xs) (hl2:pD b s.heap l2 ys) (hend:xs[k1]?=none\/ys[k2]?=none)
  (hE:∀ h' e,But4 z TO i1 i2 s.heap h'->zgA h' e->E (.ref e) { s with heap:=h' }) :
  wpAny (model prog w) A (zep z) Q E s:=by
 wp_walk using wA,zbI hz hfr,wpAny_onRaise
 have b1:=(Heap.SameBut.update (h:=s.heap) (a:=z) (f:=Obj.mapFields fun x=>x.setIfInBounds 0 .ellipsis)).extBut;have z1:IsZ (s.heap.update z (Obj.mapFields fun x=>x.setIfInBounds 0 .ellipsis)) z TI TO .ellipsis f1:=Heap.get?_update_self _ hz rfl
 have fin:∀ (g:Heap) e,IsZ g z TI TO .ellipsis f1->(∃ o,g.get? e=some o/\o.cls=.type "StopIteration") ->
   ∃ o,(g.update z (Obj.mapFields fun x=>x.setIfInBounds 0 .none)).get? e=some o/\o.cls=.type "StopIteration" := by
  rintro g e zg ⟨o,he,ce⟩;refine ⟨o,(Heap.SameBut.update ..).extBut _ _ ?_ he,ce⟩;rintro rfl;cases he.symm.trans zg;simp at ce
 cases hx:xs[k1]? with
 |none =>
  refine rF hh (h1.eb b1 D.i1z) (hl1.eb b1 D.l1z) hx fun g e k he=>?_;have zg:IsZ g z TI TO .ellipsis f1:=k _ _ D.i1z.symm z1
  wp_walk
  exact hE _ e (fun c o n1 _ n3 _ q=>(Heap.SameBut.update ..).extBut _ _ n1 (k _ _ n3 (b1 _ _ n1 q))) (fin _ _ zg he)
 |some x =>
  have hy:=hend.resolve_left (by rw [hx];exact Option.some_ne_none x);refine qB (h1.eb b1 D.i1z) (hl1.eb b1 D.l1z) hx fun h2 q1 k2=>?_;have t2:IsPair h2 TO u v:=k2.extBut _ _ D.TOi1 (b1 _ _ D.TOz hTO);have z2:IsZ h2 z TI TO .ellipsis f1:=k2.extBut _ _ D.i1z.symm z1
  wp_walk using wA,wpAny_onRaise
  have b3:=(Heap.SameBut.update h2 TO (Obj.mapSeq fun e=>e.setIfInBounds 0 x)).extBut;have c3:∀ c o,c≠z->c≠TO->c≠i1->s.heap.get? c=some o->(h2.update TO (Obj.mapSeq fun e=>e.setIfInBounds 0 x)).get? c=some o:=fun c o n1 n2 n3 e=>b3 _ _ n2 (k2.extBut _ _ n3 (b1 _ _ n1 e));refine rF hh (h2i.at fun o e=>c3 _ o D.i2z D.TOi2.symm D.i12.symm e) (hl2.at fun o e=>c3 _ o D.l2z D.l2TO D.l2i1 e) hy fun g e k he=>?_;have zg:IsZ g z TI TO .ellipsis f1:=k _ _ D.i2z.symm (b3 _ _ D.TOz.symm z2)
  wp_walk
  exact hE _ e (fun c o n1 n2 n3 n4 q=>(Heap.SameBut.update ..).extBut _ _ n1 (k _ _ n4 (c3 _ _ n1 n2 n3 q))) (fin _ _ zg he)
theorem zaS {a b:Bool} {z TI TO i1 i2 l1 l2 T:Addr} {k1 k2:Nat} {xs ys:Array Value} {u v f1:Value} {oT:Obj} {Q:Fin->Shared->Prop} (hh:A.handled=none) (D:ZipApart z TI TO i1 i2 l1 l2) (hf:f1=.bool false\/f1=.bool true)
  (hz:IsZ s.heap z TI TO (rawInt T) f1) (hT:s.heap.get? T=some oT) (hTI:IsPair s.heap TI (.ref i1) (.ref i2)) (hTO:IsPair s.heap TO u v)
  (h1:rL a s.heap i1 l1 k1) (h2i:rL b s.heap i2 l2 k2) (hl1:pD a s.heap l1 xs) (hl2:pD b s.heap l2 ys) (hend:xs[k1]?=none\/ys[k2]?=none)
  (hE:∀ h' e,But4 z TO i1 i2 s.heap h'->zgA h' e->E (.ref e) { s with heap:=h' }) :
  wpAny (model prog w) A (zep z) Q E s:=by
 wp_walk using wA,zbH hz hf hT
 intro g z1 j1
 wp_walk using wA
 cases hx:xs[k1]? with
 |none =>
  refine rF hh (h1.eb j1.extBut D.i1z) (hl1.eb j1.extBut D.l1z) hx fun g' e k he=>?_;exact hE _ e (fun c o n1 _ n3 _ q=>k _ _ n3 (j1.extBut _ _ n1 q)) he
 |some x =>
  have hy:=hend.resolve_left (by rw [hx];exact Option.some_ne_none x);refine qB (h1.eb j1.extBut D.i1z) (hl1.eb j1.extBut D.l1z) hx fun h2 q1 k2=>?_
  wp_walk using wA
  have c2:∀ c o,c≠z->c≠i1->s.heap.get? c=some o->h2.get? c=some o:=fun c o n1 n2 e=>k2.extBut _ _ n2 (j1.extBut _ _ n1 e);refine rF hh (h2i.at fun o e=>c2 _ o D.i2z D.i12.symm e) (hl2.at fun o e=>c2 _ o D.l2z D.l2i1 e) hy fun g' e k he=>?_;exact hE _ e (fun c o n1 _ n3 n4 q=>k _ _ n4 (c2 _ _ n1 n3 q)) he
end
end PySem
namespace L2
open PySem PySem.Spec PyProof.Rows
structure TurnL (P:Program) (w:World) (K:PySem.W.Frag) (T:String) (J:It) (fp:List Addr) (it:Addr) (tn:Nat->Heap->Prop):Prop where
 mem:it∈fp
 ty:∀ i h,tn i h->∃ o,h.get? it=some o/\o.cls=.type T
 obj:∀ i h,tn i h->∀ b∈fp,∃ o,h.get? b=some o/\∀ v,o.data≠.cell v
 keep:∀ i h h',tn i h->(∀ b∈fp,∀ o,h.get? b=some o->h'.get? b=some o)->tn i h'
 item:∀ (X:Cx),X.prog=P->X.w=w->X.K=K->X.calm=true->∀ (i:Nat) (pins:List (Addr×Obj)) (s:Shared) (σ:St) (H:Hp) (E:Value->Shared->Prop),Inv X pins σ H s->(∀ b∈fp,vR X pins H b)->tn i s.heap->J.go i H ->
  wpAny (model P w) X.A (pyNext (.ref it)) (fun r s2=>∃ u x H',r=some u/\Inv X pins σ H' s2/\zA x u/\J.yld i H x H'/\tn (i+1) s2.heap/\∀ b∈fp,H' b=none) E s
 done:∀ (X:Cx),X.prog=P->X.w=w->X.K=K->X.calm=true->∀ (i:Nat) (pins:List (Addr×Obj)) (s:Shared) (σ:St) (H:Hp) (E:Value->Shared->Prop),Inv X pins σ H s->(∀ b∈fp,vR X pins H b)->tn i s.heap->J.stop i H ->
  wpAny (model P w) X.A (pyNext (.ref it)) (fun r s1=>r=none/\Inv X pins σ H s1) E s
 self:∀ (A:Around) (i:Nat) (s:Shared) (Q:Value->Shared->Prop) (E:Value->Shared->Prop),tn i s.heap->Q (.ref it) s->wpAny (model P w) A (pyIter (.ref it)) Q E s
 hint:∀ (A:Around) (i:Nat) (s:Shared) (Q:Bool->Shared->Prop) (E:Value->Shared->Prop),tn i s.heap->(∀ b,Q b s)->wpAny (model P w) A (Builtin.List.listLengthHint (.ref it)) Q E s
abbrev Cx.atA (X:Cx) (A:Around):Cx:={ X with A:=A }
theorem Cx.Ok.atA {X:Cx} (ok:X.Ok) {A:Around} (hf:A.frames=X.A.frames) (hh:A.handled=X.A.handled):(X.atA A).Ok :=
 ⟨ok.mod,ok.kind,ok.glob,ok.blt,ok.above,ok.inj,ok.has,ok.cab,fun z=>hh.trans (ok.hd z),hf.trans ok.frames,ok.stk,ok.exf,ok.bs,ok.bsz,ok.noex,ok.exfs,ok.funs,ok.frf⟩
section
variable {X : Cx} {pins : List (Addr × Obj)} {σ : St} {H : Hp} {s : Shared}
theorem Inv.atA (I:Inv X pins σ H s) {A:Around} (hf:A.frames=X.A.frames) (hh:A.handled=X.A.handled):Inv (X.atA A) pins σ H s :=
 ⟨I.ok.atA hf hh,I.os,I.bare,I.base,I.loc,I.cell,I.free,I.freeC,I.pin,I.hok,I.len,I.tk⟩
theorem Inv.unA {A:Around} (hf:A.frames=X.A.frames) (hh:A.handled=X.A.handled) (I:Inv (X.atA A) pins σ H s):Inv X pins σ H s :=
 ⟨Cx.Ok.atA (X:=X.atA A) (A:=X.A) I.ok hf.symm hh.symm,I.os,I.bare,I.base,I.loc,I.cell,I.free,I.freeC,I.pin,I.hok,I.len,I.tk⟩
theorem zfC {P:Program} {w:World} {A:Around} {R:Result->Shared->Prop} (S I:Addr) (res:Value) (Jn:Nat->Shared->Prop)
  (step:∀ k s,Jn k s->wpAny (model P w) A.in1 (pyNext (.ref I)) (fun r s'=>match r with
   |none=>R (.ok (.ret res)) s'
   |some v=>∃ its c,s'.heap.get? S=some (vA its c)/\its.length<sizeLine/\∀ h',Heap.SameBut S s'.heap h'->h'.get? S=some (vA (its++[v]) (c+1))->∃ k',k' < k/\Jn k' { s' with heap:=h' }) (fun e s'=>R (.error e) s') s) :
  ∀ k s,Jn k s->codeAny (model P w) A (.builtin "list.extend.loop" ⟨[.ref S,.ref I,res],[]⟩) R s:=by
 intro k
 induction k using Nat.strongRecOn with
 |_ k ih =>
  intro s j;refine codeAny_builtin F.entry_extend_loop ?_;rw [Around.under_plainId F.plain_extend_loop _];show wpAny _ A.in1 (pyNext (.ref I) >>= _) _ _ s;refine wpAny_bind (yG (step k s j) fun r s' q=>?_)
  cases r with
  |none=>exact wpAny_pure q
  |some v =>
   obtain ⟨its,c,hS,hl,q⟩:=q;show wpAny _ A.in1 (updateSeq S (·.push v) >>= _) _ _ _;refine wpAny_bind ?_;obtain ⟨k',hk,j'⟩:=q _ (Heap.SameBut.update ..) (by exact (Heap.get?_update_self (Obj.mapSeq (·.push v)) hS rfl).trans (by simp [Obj.mapSeq,vA]));exact wpAny_updateSeq hS rfl (wpAny_pure ⟨plainId_quiet F.plain_extend_loop _,ih k' hk _ j'⟩) (by show its.toArray.size<=sizeLine;rw [zzS];omega) (by show (its.toArray.push v).size<=sizeLine+1;rw [Array.size_push,zzS];omega)
theorem Inv.adopt {a:Addr} {o:HO} (I:Inv X pins σ H s) (off:Off X pins a) (hn:H a=none) (new:xU X.prog X.w (xL H a o) s.heap a o):Inv X pins σ (xL H a o) s:=by
 have b:=I.base;have nb:∀ b' ob,X.s₀.heap.get? b'=some ob->b'≠a:=fun b' ob e=>Nat.ne_of_lt (Nat.lt_of_lt_of_le (Heap.lt_size e) off.ge);refine ⟨I.ok,I.os,I.bare,⟨b.keep,b.slot,fun c ob e n hx=>?_,b.there,fun c xs e=>?_,fun c ob u e=>?_,fun c ps e=>?_⟩,I.loc,I.cell,?_,fun x c e=>?_,fun p hp=>?_,I.hok.adopt (fun c u v _ q=>q) hn new,I.len,I.tk⟩
 .rw [zB (nb c ob e)];exact b.free c ob e n hx
 .rw [zB (yN (b.tups c xs e) hn)];exact b.tups c xs e
 .rw [zB (yN (b.frzs c ob u e) hn)];exact b.frzs c ob u e
 .obtain ⟨mo,e'⟩:=b.tbls c ps e;exact ⟨mo,by rw [zB (yN e' hn)];exact e'⟩
 .rw [zB off.ne.symm];exact I.free
 .rw [zB (off.cl x c e)];exact I.freeC x c e
 .obtain ⟨q1,q2,q3⟩:=I.pin p hp;exact ⟨q1,by rw [zB (off.pn p hp)];exact q2,q3⟩
theorem zds (hc:X.calm=true) {T:String} {J:It} {fp:List Addr} {it:Addr} {tn:Nat->Heap->Prop} {Q:VK} (hTl:(Value.type T==Value.type "list")=false) (hTt:(Value.type T==Value.type "tuple")=false)
  (I:Inv X pins σ H s) (Tn:TurnL X.prog X.w X.K T J fp it tn) (t0:tn 0 s.heap) (hf:∀ b∈fp,vR X pins H b) (n:Nat) (hn:n<=sizeLine) (W:Nat->List V->Hp->Prop) (w0:W 0 [] H)
  (wgo:∀ i acc H,i<n->W i acc H->J.go i H/\∀ x H',J.yld i H x H'->W (i+1) (acc++[x]) H') (wst:∀ acc H,W n acc H->J.stop n H/\∀ p,H p=none->Q (.ref p) (xL H p (.lst acc))) :
  wpAny (model X.prog X.w) X.A (call (.type "list") [.ref it]) (EP X pins σ Q) X.xe s:=by
 have hfp:∀ b∈fp,b<s.heap.objs.size:=fun b hb=>by
  obtain ⟨o,e,_⟩:=Tn.obj _ _ t0 b hb;exact Heap.lt_size e
 have hSf:∀ b∈fp,b≠s.heap.objs.size:=fun b hb=>Nat.ne_of_lt (hfp b hb);have hSI:s.heap.objs.size≠it:=(hSf it Tn.mem).symm;have off:Off X pins s.heap.objs.size:=I.off (zzR _);have nfs:s.heap.objs.size∉X.fs:=I.nofs (zzR _);have fr0:∀ b∈fp,H b=none:=fun b hb=>(hf b hb).1;have HS0:H s.heap.objs.size=none:=I.hok.fresh (zzR _)
 have fpok:∀ {H':Hp} {ob:Obj},(∀ b∈fp,H' b=none)->∀ b∈fp,vR X ((s.heap.objs.size,ob)::pins) H' b:=fun {H' ob} hn b hb=>by
  obtain ⟨q1,q2,q3,q4,q5,q6⟩:=hf b hb;refine ⟨hn b hb,q2,q3,q4,q5,fun p hp=>?_⟩;rcases List.mem_append.mp hp with hp|hp
  .exact q6 p (List.mem_append_left _ hp)
  .rcases List.mem_cons.mp hp with rfl|hp
   .exact (hSf b hb).symm
   .exact q6 p (List.mem_append_right _ hp)
 have pinS:∀ {H':Hp} {s':Shared} {its:List Value} {c:Nat},Inv X pins σ H' s'->H' s.heap.objs.size=none->s'.heap.get? s.heap.objs.size=some (vA its c)->Inv X ((s.heap.objs.size,vA its c)::pins) σ H' s':=fun {H' s' its c} I' hn e =>
  I'.pins_of fun p hp=>by
   rcases List.mem_cons.mp hp with rfl|hp
   .exact ⟨e,hn,off.ne,nfs,fun v z=>nomatch z⟩
   .exact I'.pin p (List.mem_append_right _ hp)
 have unpin:∀ {H':Hp} {s':Shared} {ob:Obj},Inv X ((s.heap.objs.size,ob)::pins) σ H' s'->Inv X pins σ H' s':=fun {H' s' ob} I'=>I'.pins_of fun p hp=>I'.pin p (List.mem_append_right _ (List.mem_cons_of_mem _ hp))
 refine callType_codes (Q₁:=fun obj s₁=>obj=.ref s.heap.objs.size/\s₁={ s with heap:=s.heap.push { cls:=.type "list", data:=.seq #[] } }) F.called_list (F.typeCall_list_1 _) F.entry_list_init
  (code_list_new _ ⟨rfl,rfl⟩) fun obj s₁ h₁=>?_
 obtain ⟨rfl,rfl⟩:=h₁;have hS:(s.heap.push { cls:=.type "list", data:=.seq #[] }).get? s.heap.objs.size=some { cls:=.type "list", data:=.seq #[] }:=Heap.get?_push_size _ rfl;refine ⟨⟨_,hS,rfl⟩,F.args_list_init_2 _ _,?_⟩
 have loop:∀ (h':Heap) (c:Nat),h'.get? s.heap.objs.size=some (vA [] c)->(∀ b o,s.heap.get? b=some o->h'.get? b=some o) ->
   codeAny (model X.prog X.w) X.A.in1 (.builtin "list.extend.loop" ⟨[.ref s.heap.objs.size,.ref it,.none],[]⟩) (wants (fun r s₂=>r=.none/\EP X pins σ Q (.ref s.heap.objs.size) s₂) X.xe) { s with heap:=h' }:=by
  intro h' c e0 k0
  refine zfC s.heap.objs.size it .none (fun k s'=>∃ i acc H' its c,k+i=n/\Inv X pins σ H' s'/\tn i s'.heap/\(∀ b∈fp,H' b=none)/\H' s.heap.objs.size=none/\s'.heap.get? s.heap.objs.size=some (vA its c)/\zE acc its/\acc.length<=i/\W i acc H') ?_ n _
   ⟨0,[],H,[],c,by omega,I.kept (t':=s.toks) k0,Tn.keep _ _ _ t0 fun b _ o e=>k0 b o e,fr0,HS0,e0,.nil,zzR _,w0⟩
  rintro k s' ⟨i,acc,H',its,c',hk,I',st,fr,hS',oS,v,la,wi⟩;have Ip:=(pinS I' hS' oS).atA (A:=X.A.in1.in1) rfl rfl
  by_cases hi:i<n
  .obtain ⟨go,yl⟩:=wgo i acc H' hi wi;refine yG (Tn.item (X.atA X.A.in1.in1) rfl rfl rfl hc i _ s' σ H' _ Ip (fpok fr) st go) fun r s2 ⟨u,x,H2,hr,I2,r2,y2,st2,fr2⟩=>?_;subst hr;have I2':=Inv.unA (X:=X) (A:=X.A.in1.in1) rfl rfl I2;have p2:=I2'.pin (s.heap.objs.size,vA its c') (List.mem_append_right _ (zzT ..));refine ⟨its,c',p2.1,by rw [← v.length];omega,fun h'' sb e''=>⟨k-1,by omega,i+1,acc++[x],H2,its++[u],c'+1,by omega,off.turned (unpin I2') p2.2.1 sb,Tn.keep _ _ _ st2 fun b hb o e=>sb.extBut b o (hSf b hb) e,fr2,p2.2.1,e'',v.append (.cons r2 .nil),by rw [zzW];show acc.length+1<=i+1;omega,yl x H2 y2⟩⟩
  .have hin:i=n:=by omega
   subst hin;obtain ⟨yV,fin⟩:=wst acc H' wi;refine yG (Tn.done (X.atA X.A.in1.in1) rfl rfl rfl hc i _ s' σ H' _ Ip (fpok fr) st yV) fun r s2 ⟨hr,I2⟩=>?_;subst hr;have I2':=Inv.unA (X:=X) (A:=X.A.in1.in1) rfl rfl I2;have p2:=I2'.pin (s.heap.objs.size,vA its c') (List.mem_append_right _ (zzT ..));exact ⟨rfl,.ref s.heap.objs.size,xL H' s.heap.objs.size (.lst acc),(unpin I2').adopt off hS' ⟨by omega,its,c',v,p2.1⟩,rfl,fin _ hS'⟩
 show wpAny _ X.A.in1.in1 (do let old ← Builtin.List.listItems (.ref s.heap.objs.size);Builtin.List.listUpdate (.ref s.heap.objs.size) (fun _=>#[]);letGo old.toList.reverse;Builtin.List.listExtendWith (.ref s.heap.objs.size) (.ref it) .none) _ _ _;refine wpAny_bind ?_;unfold Builtin.List.listItems;refine wpAny_bind (wpAny_seqItems hS rfl (wpAny_pure ?_));show wpAny _ X.A.in1.in1 (updateSeq s.heap.objs.size (fun _=>#[]) >>= fun _=>letGo (#[]:Array Value).toList.reverse >>= fun _=>Builtin.List.listExtendWith (.ref s.heap.objs.size) (.ref it) .none) _ _ _;refine wpAny_bind (wpAny_updateSeq hS rfl ?_);have hS₂:=Heap.get?_update_self (Obj.mapSeq (fun _=>(#[]:Array Value))) hS rfl;generalize hh2:(s.heap.push { cls:=.type "list", data:=.seq #[] }).update s.heap.objs.size (Obj.mapSeq (fun _=>(#[]:Array Value)))=h2 at *
 have k2:∀ b o,s.heap.get? b=some o->h2.get? b=some o:=fun b o e=>by
  rw [← hh2,Heap.get?_update_other _ _ (Nat.ne_of_gt (Heap.lt_size e))];exact Heap.get?_push_of_some _ e
 have tn2:tn 0 h2:=Tn.keep _ _ _ t0 fun b _ o e=>k2 b o e;refine wpAny_bind (wpAny_letGo ?_);unfold Builtin.List.listExtendWith;obtain ⟨oI,eI,cI⟩:=Tn.ty _ _ tn2;refine wpAny_bind (wpAny_typeOf (s:={ s with heap:=h2 }) ⟨oI,eI,cI⟩ ?_);have h1:Builtin.List.listSameRef (.ref s.heap.objs.size) (.ref it)=false:=by simp [Builtin.List.listSameRef,hSI]
 rw [if_neg (by rw [h1,hTl,hTt];decide)];refine wpAny_bind (Tn.self _ 0 { s with heap:=h2 } _ _ tn2 ?_);refine wpAny_bind (wpAny_holding (Tn.hint _ 0 { s with heap:=h2 } _ _ tn2 fun room=>?_));dsimp only
 split
 .refine wpAny_bind (wpAny_rule ?_);refine wpAny_bind ?_;show wpAny _ X.A.in1.in1 (updateSeq s.heap.objs.size (·.push .none) >>= fun _=>updateSeq s.heap.objs.size (·.pop)) _ _ _;refine wpAny_bind (wpAny_updateSeq hS₂ rfl ?_);have hS₃:=Heap.get?_update_self (Obj.mapSeq (·.push Value.none)) hS₂ rfl;refine wpAny_updateSeq (hz:=by seq_fits) hS₃ rfl ?_;have hS₄:=Heap.get?_update_self (Obj.mapSeq (·.pop)) hS₃ rfl;refine wpAny_pure ⟨plainId_quiet F.plain_extend_loop _,loop _ _ hS₄ fun b o e=>?_⟩;rw [Heap.get?_update_other _ _ (Nat.ne_of_gt (Heap.lt_size e)),Heap.get?_update_other _ _ (Nat.ne_of_gt (Heap.lt_size e))];exact k2 b o e
 .exact wpAny_pure ⟨plainId_quiet F.plain_extend_loop _,loop _ _ hS₂ k2⟩
end
end L2
namespace L2
open PySem PySem.Spec PyProof.Rows
def gK (b:Bool) (K:PySem.W.Frag) (H:Hp) (a:Addr) (xs:List V):Prop:=match b with
 |true=>rM K H a xs
 |false=>nE K H a xs
theorem Inv.sqB {X:Cx} {pins:List (Addr×Obj)} {σ:St} {H:Hp} {s:Shared} {b:Bool} {a:Addr} {xs:List V} (I:Inv X pins σ H s) (h:gK b X.K H a xs):∃ its:List Value,zE xs its/\pD b s.heap a its.toArray/\xs.length<=sizeLine:=by
 cases b
 .obtain ⟨its,r,p,hz⟩:=I.list h;exact ⟨its,r,p.isList,hz⟩
 .obtain ⟨its,r,p,hz⟩:=I.tuple h;exact ⟨its,r,p,hz⟩
theorem Inv.sqB_inj {X:Cx} {pins:List (Addr×Obj)} {σ:St} {H:Hp} {s:Shared} {b:Bool} {a:Addr} {xs ys:List V} (I:Inv X pins σ H s) (h:gK b X.K H a xs) (h':gK b X.K H a ys):xs=ys:=by
 cases b
 .exact I.list_inj h h'
 .exact I.tuple_inj h h'
theorem Inv.turns {X:Cx} {pins:List (Addr×Obj)} {σ:St} {H:Hp} {s:Shared} {h':Heap} {t':Nat} {fp:List Addr} (I:Inv X pins σ H s) (hf:∀ b∈fp,vR X pins H b) (k:∀ b o,b∉fp->s.heap.get? b=some o->h'.get? b=some o) (ht:0<t':=by first|exact Nat.succ_pos _|exact L2.Inv.tk (by assumption)|exact L2.Inv.tk ‹L2.Inv _ _ _ _ _› | assumption|omega):Inv X pins σ H { s with heap:=h',toks:=t' }:=by
 have nit:∀ b u,H b=some u->b∉fp:=fun b u e z=>by rw [(hf b z).1] at e;cases e
 refine I.step (g':=s.gens) (d':=s.drawn) (ch:=fp) (fun b hb=>?_) (fun b o _ _ hc e _=>k b o hc e) (fun b o _ _ hc e _=>⟨o.slots,k b o hc e⟩) (fun _ _ _ _ n=>n)
  (fun b o hc e=>⟨o,k b o hc e⟩) (fun _ _ e=>e) (fun _ _ _ e=>e) (fun b ps e=>⟨#[],by rw [e];simp⟩) (fun m hm=>?_) (fun b u e=>?_) I.bare
 .obtain ⟨_,q2,q3,q4,q5,q6⟩:=hf b hb;exact ⟨q4,q2,q5,q6⟩
 .obtain ⟨o,es,ep,ho,r⟩:=hm;exact ⟨o,es,ep,k _ o (fun z=>(hf _ z).2.1 rfl) ho,r⟩
 .refine (I.hok b u e).stay (fun c v hc q=>k c v ?_ q) (fun _ q=>q) fun _ _ q=>q;rcases hc with z|z
  .rw [z];exact nit b u e
  .exact nit c _ z
def Itz (a b:Bool) (K:PySem.W.Frag) (l1 l2:Addr):It where
 go:=fun i H=>∃ xs ys x y,gK a K H l1 xs/\gK b K H l2 ys/\xs[i]?=some x/\ys[i]?=some y
 yld:=fun i H v H'=>∃ p x y,v=.ref p/\H p=none/\H'=xL H p (.tup [x,y])/\(∀ xs,gK a K H l1 xs->xs[i]?=some x)/\∀ ys,gK b K H l2 ys->ys[i]?=some y
 stop:=fun i H=>∃ xs ys,gK a K H l1 xs/\gK b K H l2 ys/\(xs[i]?=none\/ys[i]?=none)
def uG (a b:Bool) (z TI TO i1 i2 l1 l2:Addr) (i:Nat) (h:Heap):Prop :=
 ∃ f0 f1,IsZ h z TI TO f0 f1/\(f0=.none\/∃ T:Addr,f0=rawInt T)/\(f1=.bool false\/f1=.bool true)/\IsPair h TI (.ref i1) (.ref i2)/\(∃ u v,IsPair h TO u v)/\rL a h i1 l1 i/\rL b h i2 l2 i
section
variable {a b : Bool} {z TI TO i1 i2 l1 l2 : Addr}
theorem uG.obj {i:Nat} {h:Heap} (x:uG a b z TI TO i1 i2 l1 l2 i h):∀ c∈[z,TI,TO,i1,i2],∃ o,h.get? c=some o/\∀ v,o.data≠.cell v:=by
 obtain ⟨f0,f1,hz,_,_,hTI,⟨u,v,hTO⟩,⟨o1,e1,_,d1⟩,⟨o2,e2,_,d2⟩⟩:=x;intro c hc;simp only [List.mem_cons,List.not_mem_nil,or_false] at hc;rcases hc with rfl|rfl|rfl|rfl|rfl
 .exact ⟨_,hz,fun v z=>nomatch z⟩
 .exact ⟨_,hTI,fun v z=>nomatch z⟩
 .exact ⟨_,hTO,fun v z=>nomatch z⟩
 .exact ⟨_,e1,fun v z=>by rw [d1] at z;cases z⟩
 .exact ⟨_,e2,fun v z=>by rw [d2] at z;cases z⟩
theorem uG.keep {i:Nat} {h h':Heap} (x:uG a b z TI TO i1 i2 l1 l2 i h) (k:∀ c∈[z,TI,TO,i1,i2],∀ o,h.get? c=some o->h'.get? c=some o):uG a b z TI TO i1 i2 l1 l2 i h':=by
 obtain ⟨f0,f1,hz,h0,h1,hTI,⟨u,v,hTO⟩,s1,s2⟩:=x;exact ⟨f0,f1,k z (by simp) _ hz,h0,h1,k TI (by simp) _ hTI,⟨u,v,k TO (by simp) _ hTO⟩,s1.at fun o e=>k i1 (by simp) o e,s2.at fun o e=>k i2 (by simp) o e⟩
variable {X : Cx} {pins : List (Addr × Obj)} {σ : St} {H : Hp} {s : Shared}
theorem zbs (hd:[z,TI,TO,i1,i2].Nodup) (hf:∀ c∈[z,TI,TO,i1,i2],vR X pins H c) {xs ys:List V} (I:Inv X pins σ H s) (h1:gK a X.K H l1 xs) (h2:gK b X.K H l2 ys)
  (n1:l1∉[z,TI,TO,i1,i2]) (n2:l2∉[z,TI,TO,i1,i2]):ZipApart z TI TO i1 i2 l1 l2:=by
 simp only [List.nodup_cons,List.mem_cons,List.not_mem_nil,or_false,not_or,List.nodup_nil,not_false_eq_true,and_true] at hd n1 n2;obtain ⟨⟨a1,a2,a3,a4⟩,⟨b1,b2,b3⟩,⟨c1,c2⟩,d1⟩:=hd;obtain ⟨m1,m2,m3,m4,m5⟩:=n1;obtain ⟨k1,k2,k3,k4,k5⟩:=n2;exact ⟨Ne.symm a1,Ne.symm a2,Ne.symm a3,Ne.symm a4,b1,b2,b3,c1,c2,d1,m1,m3,m4,m5,k1,k3,k4,k5⟩
theorem zgC {E:Value->Shared->Prop} (hh:X.A.handled=none) (hd:[z,TI,TO,i1,i2].Nodup) (n1:l1∉[z,TI,TO,i1,i2]) (n2:l2∉[z,TI,TO,i1,i2]) {i:Nat} (I:Inv X pins σ H s) (hf:∀ c∈[z,TI,TO,i1,i2],vR X pins H c)
  (st:uG a b z TI TO i1 i2 l1 l2 i s.heap) (go:(Itz a b X.K l1 l2).go i H) :
  wpAny (model X.prog X.w) X.A (pyNext (.ref z)) (fun r s2=>∃ u x H',r=some u/\Inv X pins σ H' s2/\zA x u/\(Itz a b X.K l1 l2).yld i H x H'/\uG a b z TI TO i1 i2 l1 l2 (i+1) s2.heap/\(∃ T:Addr,u=.ref T/\T∉[z,TI,TO,i1,i2])/\∀ c∈[z,TI,TO,i1,i2],H' c=none) E s:=by
 obtain ⟨xs,ys,x,y,q1,q2,ex,ey⟩:=go;have D:=zbs hd hf I q1 q2 n1 n2;obtain ⟨itx,vx,sx,_⟩:=I.sqB q1;obtain ⟨ity,vy,sy,_⟩:=I.sqB q2;obtain ⟨ux,eux,rx⟩:=vx.get ex;obtain ⟨uy,euy,ry⟩:=vy.get ey;have hx:itx.toArray[i]?=some ux:=by simpa using eux
 have hy:ity.toArray[i]?=some uy:=by simpa using euy
 obtain ⟨f0,f1,hz,h0,h1,hTI,⟨u,v,hTO⟩,s1,s2⟩:=id st;have hT:s.TypeIs (.ref z) "zip" := ⟨_,hz,rfl⟩
 have lt:∀ c∈[z,TI,TO,i1,i2],c<s.heap.objs.size:=fun c hc=>by
  obtain ⟨o,e,_⟩:=st.obj c hc;exact Heap.lt_size e
 have new:s.heap.objs.size∉[z,TI,TO,i1,i2]:=fun hm=>Nat.lt_irrefl _ (lt _ hm)
 have fin:∀ (h':Heap),uG a b z TI TO i1 i2 l1 l2 (i+1) h'->IsPair h' s.heap.objs.size ux uy->h'.objs.size=s.heap.objs.size+1->(∀ c o,c∉[z,TI,TO,i1,i2]->s.heap.get? c=some o->h'.get? c=some o) ->
   ∃ u x H',(some (Value.ref s.heap.objs.size))=some u/\Inv X pins σ H' { s with heap:=h' }/\zA x u/\(Itz a b X.K l1 l2).yld i H x H'/\uG a b z TI TO i1 i2 l1 l2 (i+1) h'/\(∃ T:Addr,u=.ref T/\T∉[z,TI,TO,i1,i2])/\∀ c∈[z,TI,TO,i1,i2],H' c=none:=by
  intro h' st' pr sz k;have hn:H s.heap.objs.size=none:=I.hok.fresh (zzR _);have I1:Inv X pins σ H { s with heap:=h',toks:=s.toks }:=I.turns hf k;refine ⟨_,.ref s.heap.objs.size,xL H s.heap.objs.size (.tup [x,y]),rfl,?_,rfl,⟨_,x,y,rfl,hn,rfl,fun xs' q'=>by rw [I.sqB_inj q' q1];exact ex,fun ys' q'=>by rw [I.sqB_inj q' q2];exact ey⟩,st',⟨_,rfl,new⟩,fun c hc=>by rw [zB (fun e:c=s.heap.objs.size=>new (e▸hc))];exact (hf c hc).1⟩;exact I1.adopt (I.off (zzR _)) hn ⟨by show 2<=sizeLine;rw [sizeLine_eq];decide,[ux,uy],.cons rx (.cons ry .nil),⟨_,pr,rfl,_,rfl⟩⟩
 unfold pyNext
 have free:(f0=.none\/∃ T:Addr,f0=rawInt T/\s.heap.get? T=none)->wpAny (model X.prog X.w) X.A.in1 (Builtin.«zip.__next__» ⟨[.ref z],[]⟩) (fun fin s'=>∃ v,fin=.done (.ret v)/\∃ u x H',some v=some u/\Inv X pins σ H' s'/\zA x u/\(Itz a b X.K l1 l2).yld i H x H'/\uG a b z TI TO i1 i2 l1 l2 (i+1) s'.heap/\(∃ T:Addr,u=.ref T/\T∉[z,TI,TO,i1,i2])/\∀ c∈[z,TI,TO,i1,i2],H' c=none) (fun _ _=>False) s:=fun hfr=>by
  refine zgE D hfr hz hTI hTO s1 s2 sx sy hx hy fun h' a1 a2 a3 a4 a5 a6 a7=>fin h' ⟨_,_,a1,.inr ⟨_,rfl⟩,.inl rfl,a7 TI _ D.TIz D.TITO D.TIi1 D.TIi2 hTI,⟨_,_,a2⟩,a3,a4⟩ a5 a6 fun c o hc e=>?_;simp only [List.mem_cons,List.not_mem_nil,or_false,not_or] at hc;exact a7 c o hc.1 hc.2.2.1 hc.2.2.2.1 hc.2.2.2.2 e
 have held:∀ (T:Addr) (oT:Obj),f0=rawInt T->s.heap.get? T=some oT->wpAny (model X.prog X.w) X.A.in1 (Builtin.«zip.__next__» ⟨[.ref z],[]⟩) (fun fin s'=>∃ v,fin=.done (.ret v)/\∃ u x H',some v=some u/\Inv X pins σ H' s'/\zA x u/\(Itz a b X.K l1 l2).yld i H x H'/\uG a b z TI TO i1 i2 l1 l2 (i+1) s'.heap/\(∃ T:Addr,u=.ref T/\T∉[z,TI,TO,i1,i2])/\∀ c∈[z,TI,TO,i1,i2],H' c=none) (fun _ _=>False) s:=fun T oT e0 eT=>by
  subst e0;refine zgD D h1 hz eT hTI hTO s1 s2 sx sy hx hy fun h' a1 a3 a4 a5 a6 a7=>fin h' ⟨_,_,a1,.inr ⟨_,rfl⟩,.inr rfl,a7 TI _ D.TIz D.TIi1 D.TIi2 hTI,⟨_,_,a7 TO _ D.TOz D.TOi1 D.TOi2 hTO⟩,a3,a4⟩ a5 a6 fun c o hc e=>?_;simp only [List.mem_cons,List.not_mem_nil,or_false,not_or] at hc;exact a7 c o hc.1 hc.2.2.2.1 hc.2.2.2.2 e
 refine wpAny_bind (wpAny_attempt (wpAny_callSpecial?_slot (name:=Str.ofString "__next__") hT F.slot_zip_next
  (wpAny_call_entry F.slot_zip_next hT F.entry_zip_next ?_ (F.args_zip_next_1 _))))
 have all:wpAny (model X.prog X.w) X.A.in1 (Builtin.«zip.__next__» ⟨[.ref z],[]⟩) (fun fin s'=>∃ v,fin=.done (.ret v)/\∃ u x H',some v=some u/\Inv X pins σ H' s'/\zA x u/\(Itz a b X.K l1 l2).yld i H x H'/\uG a b z TI TO i1 i2 l1 l2 (i+1) s'.heap/\(∃ T:Addr,u=.ref T/\T∉[z,TI,TO,i1,i2])/\∀ c∈[z,TI,TO,i1,i2],H' c=none) (fun _ _=>False) s:=by
  rcases h0 with e0|⟨T,e0⟩
  .exact free (.inl e0)
  .cases eT:s.heap.get? T with
   |none=>exact free (.inr ⟨T,e0,eT⟩)
   |some oT=>exact held T oT e0 eT
 refine wpAny_mono all (fun fin' s' ⟨v',e',q⟩=>⟨v',e',?_⟩) (fun _ _ z=>z.elim);exact wpAny_pure q
theorem zgF {E:Value->Shared->Prop} (hh:X.A.handled=none) (hd:[z,TI,TO,i1,i2].Nodup) (n1:l1∉[z,TI,TO,i1,i2]) (n2:l2∉[z,TI,TO,i1,i2]) {i:Nat} (I:Inv X pins σ H s) (hf:∀ c∈[z,TI,TO,i1,i2],vR X pins H c)
  (st:uG a b z TI TO i1 i2 l1 l2 i s.heap) (stop:(Itz a b X.K l1 l2).stop i H) :
  wpAny (model X.prog X.w) X.A (pyNext (.ref z)) (fun r s1=>r=none/\Inv X pins σ H s1) E s:=by
 obtain ⟨xs,ys,q1,q2,he⟩:=stop;have D:=zbs hd hf I q1 q2 n1 n2;obtain ⟨itx,vx,sx,_⟩:=I.sqB q1;obtain ⟨ity,vy,sy,_⟩:=I.sqB q2
 have hend:itx.toArray[i]?=none\/ity.toArray[i]?=none:=by
  rcases he with e|e
  .left;simpa using vx.none_of e
  .right;simpa using vy.none_of e
 obtain ⟨f0,f1,hz,h0,h1,hTI,⟨u,v,hTO⟩,s1,s2⟩:=id st;have hT:s.TypeIs (.ref z) "zip" := ⟨_,hz,rfl⟩;unfold pyNext
 have fin:∀ (h':Heap) (e:Addr),(∀ c o,c≠z->c≠TO->c≠i1->c≠i2->s.heap.get? c=some o->h'.get? c=some o)->(∃ o,h'.get? e=some o/\o.cls=.type "StopIteration") ->
   wpAny (model X.prog X.w) X.A (do if ← isInstance (.ref e) (.type "StopIteration") then pure none else throw (.ref e)) (fun (r:Option Value) s1=>r=none/\Inv X pins σ H s1) E { s with heap:=h' }:=fun h' e k ⟨o,ho,hc⟩=>by
  refine wpAny_bind (wpAny_isInstance (T := "StopIteration") (b:=true) ⟨o,ho,hc⟩ isSubtype_stop ?_);refine wpAny_pure ⟨rfl,I.turns (t':=s.toks) hf fun c o hc e=>?_⟩;simp only [List.mem_cons,List.not_mem_nil,or_false,not_or] at hc;exact k c o hc.1 hc.2.2.1 hc.2.2.2.1 hc.2.2.2.2 e
 refine wpAny_bind (wpAny_attempt (wpAny_callSpecial?_slot (name:=Str.ofString "__next__") hT F.slot_zip_next
  (wpAny_call_entry F.slot_zip_next hT F.entry_zip_next ?_ (F.args_zip_next_1 _))))
 rcases h0 with e0|⟨T,e0⟩
 .exact mY hh D (.inl e0) hz hTI hTO s1 s2 sx sy hend fun h' e k he=>fin h' e k he
 .cases eT:s.heap.get? T with
  |none=>exact mY hh D (.inr ⟨T,e0,eT⟩) hz hTI hTO s1 s2 sx sy hend fun h' e k he=>fin h' e k he
  |some oT =>
   subst e0;exact zaS hh D h1 hz eT hTI hTO s1 s2 sx sy hend fun h' e k he=>fin h' e k he
theorem zcG {P:Program} {w:World} {A:Around} {i:Nat} {s:Shared} {Q:Value->Shared->Prop} {E:Value->Shared->Prop} (st:uG a b z TI TO i1 i2 l1 l2 i s.heap) (h:Q (.ref z) s):wpAny (model P w) A (pyIter (.ref z)) Q E s:=by
 obtain ⟨f0,f1,hz,_⟩:=st;have hT:s.TypeIs (.ref z) "zip" := ⟨_,hz,rfl⟩;refine wpAny_pyIter_slot hT F.slot_zip_iter (wpAny_call_entry F.slot_zip_iter hT F.entry_zip_iter ?_ (F.args_zip_iter_1 _));show wpAny _ _ (ret (.ref z)) _ _ s;exact wpAny_pure ⟨_,rfl, "zip", _,hT,F.slot_zip_next.lookup,h⟩
end
end L2
namespace L3
open PySem PySem.Spec PyProof.Rows L2
structure Pr where
 prog:Program
 w:World
 K:yJ
 mg:Str->Option Value
 base:Heap
abbrev Pr.at (q:Pr) (A:Around):Par:=⟨q.prog,q.w,q.K,q.mg,q.base,A⟩
def jQ (K:yJ) (sp:vP):Sp:=fun vs H Q E=>∃ ws G,zF K H ws vs/\xS K H G/\sp ws G (vC K H Q) XN
def yT (N:List Str) (ws:List W):jE:=ws.map some++List.replicate (N.length-ws.length) none
theorem zcT {K:yJ} {H:Hp} {N:List Str} {ws:List W} {vs:List V} (r:zF K H ws vs):yK K H (yT N ws) (L2.start N vs):=by
 have hl:=r.length;refine ⟨by simp [yT,L2.start,hl],fun i w e=>?_⟩;unfold yT at e;unfold L2.start
 by_cases hi:i<ws.length
 .rw [List.getElem?_append_left (by simpa using hi),List.getElem?_map] at e
  cases q:ws[i]? with
  |none=>rw [q] at e;cases e
  |some w' =>
   rw [q] at e;obtain rfl:w'=w:=Option.some.inj (Option.some.inj e);obtain ⟨v,ev,rp⟩:=r.get q;refine ⟨v,?_,rp⟩;rw [List.getElem?_append_left (by simp;omega),List.getElem?_map,ev];rfl
 .rw [List.getElem?_append_right (by simp;omega),List.getElem?_replicate] at e
  split at e<;>cases e
structure MOk (Γ:Ctx3) (M:MC) (sc:Scope):Prop where
 sc:M.sc=sc
 own:M.own=fun _=>true
 fns:Γ.fn.map (·.nm)=M.fns
 gls:Γ.gl.map (·.1)=M.gls
 mts:Γ.mt.map (·.nm)=M.mts
 its:Γ.it.map (·.nm)=M.its
 sxs:Γ.sx.map (·.m)=M.sxm
 ixs:Γ.ix.map (·.m)=M.ixm
def FnE (p:Par) (f:Fn3):Prop:=∀ X,Fits p X->Gl X f.nm->∀ (args:List Expr) (t:A3) (q pos:Pos),uN t->args.all xH=true->PA X args (pQ X.K t)->(args=[]->∀ σ G Q,t σ G Q->Q [] G)->(f.nm==("__debug__" : Str))=false->f.nm ≠ "__name__" ->
  PE X (.Call (.Name f.nm q) args [] pos) (yA X.K fun σ G Q=>t σ G fun ws G1=>f.sp ws G1 Q XN)
theorem xO {e:Expr} {es:List Expr} {env:Env} {pos:Pos} (h:(e::es).all xH=true):starEach (e::es) env=(false,eval e env)::starEach es env/\(backTo pos (starEach es env)).any (·.1)=false:=by
 rw [List.all_cons,Bool.and_eq_true] at h;refine ⟨kP h.1,?_⟩;have h2:=h.2
 clear h
 induction es with
 |nil=>rfl
 |cons a r ih =>
  rw [List.all_cons,Bool.and_eq_true] at h2;rw [kP h2.1];show (false || (backTo pos (starEach r env)).any (·.1))=false;rw [ih h2.2];rfl
theorem Fits.eq {p:Par} {X:Cx} (f:Fits p X):p=⟨X.prog,X.w,X.K,X.mg,X.base,X.A⟩:=by
 obtain ⟨e1,e2,e3,e4,e5,e6,_,_⟩:=f;rw [e1,e2,e3,e4,e5,e6]
theorem pa_sp {X:Cx} {args:List Expr} {t:A3} {sp:vP} {dws:List W} {dvs:List V} (m:uN t) (hd:∀ H,zF X.K H dws dvs) (mono:∀ ws G (Q Q':Q3),(∀ w G',Q w G'->Q' w G')->sp ws G Q XN->sp ws G Q' XN) {τ:L2.St} {H:Hp} {Q:VK} {E:XK}
  (h:yA X.K (fun σ G Q=>t σ G fun ws G1=>sp (ws++dws) G1 Q XN) τ H Q):zgP (jQ X.K sp) dvs E (pQ X.K t) τ H Q:=by
 obtain ⟨σ,G,hs,ab,h⟩:=h;refine pG m hs ab h fun ws G1 vs H1 g1 hs1 rs a1 h=>?_;exact ⟨ws++dws,G1,rs.append (hd H1),a1,mono _ _ _ _ (fun w G' z v' H' g'=>z v' H' (g1.trans g')) h⟩
theorem zkN {q:Pr} {k:Nat} {nm:Str} {f:Addr} {fd:FuncData} {ps:List Str} {ds:List Value} {dvs:List V} {dws:List W} {sp:vP} (FO:FnOk q.prog q.w q.K q.mg q.base CX0 k f fd ps (jQ q.K sp)) (hm:q.mg nm=some (.ref f)) (hk:PySem.W.keepIn q.K (.ref f)=true)
  (hb:uM q.K fd ps ds) (hd:∀ H,zF q.K H dws dvs) (hv:zE dvs ds) (mono:∀ ws G (Q Q':Q3),(∀ w G',Q w G'->Q' w G')->sp ws G Q XN->sp ws G Q' XN) {A:Around} (hr:Room k A):FnE (q.at A) ⟨nm,fun ws G Q _=>sp (ws++dws) G Q XN⟩:=by
 intro X fits gl args t qp pos mt hn pa hnil hdb hnm;have e:=fits.eq
 injection e with e1 e2 e3 e4 e5 e6
 subst e6;rw [e1,e2,e3,e4,e5] at FO;rw [e4] at hm;rw [e3] at hk hb hd
 cases args with
 |nil =>
  refine (ze7 (p:=qp) (pos:=pos) FO hr gl hm hk hb hv zhp hdb).imp fun τ H Q h=>?_;obtain ⟨σ,G,hs,ab,h⟩:=h;have h:=hnil rfl _ _ _ h;exact ⟨dws,G,hd H,ab,h⟩
 |cons a r =>
  obtain ⟨s1,s2⟩:=xO (env:=X.env) (pos:=pos) hn;exact (zhn (p:=qp) (pos:=pos) FO hr gl hm hk hb hv zhp pa hdb s1 s2).imp fun τ H Q h=>pa_sp (args:=a::r) mt hd mono h
end L3
namespace L3
open PySem PySem.Spec PyProof.Rows L2 PySem.SeqAt
abbrev RS:=List W->Hw->Q3->Prop
def jN (sp:RS):Prop:=∀ ws G (Q Q':Q3),(∀ w G',Q w G'->Q' w G')->sp ws G Q->sp ws G Q'
def dU (K:yJ) (sp:RS):List V->Hp->VK->Prop:=fun vs H Q=>∃ ws G,zF K H ws vs/\xS K H G/\sp ws G (vC K H Q)
theorem za8 {X:Cx} {t:A3} {sp:RS} (mt:uN t) (mono:jN sp) {τ:L2.St} {H:Hp} {Q:VK} (h:yA X.K (fun σ G Q=>t σ G fun ws G1=>sp ws G1 Q) τ H Q):tCB (dU X.K sp) (pQ X.K t) τ H Q:=by
 obtain ⟨σ,G,hs,ab,h⟩:=h;exact pG mt hs ab h fun ws G1 vs H1 g1 hs1 rs a1 h=>⟨ws,G1,rs,a1,mono _ _ _ _ (fun w G' z v' H' g'=>z v' H' (g1.trans g')) h⟩
theorem zb0 {q:Pr} {A:Around} {nm:Str} {id:String} {sp:RS} (hm:q.mg nm=none) (hv:bootBuiltins nm=some (.builtin id)) (hc:∀ X,Fits (q.at A) X->qO X (.builtin id) (dU X.K sp)) (mono:jN sp) (h0:∀ G Q,¬ sp [] G Q):FnE (q.at A) ⟨nm,fun ws G Q _=>sp ws G Q⟩:=by
 intro X fits gl args t qp pos mt hn pa hnil hdb hnm;have hm':X.mg nm=none:=by rw [fits.mg];exact hm
 cases args with
 |nil=>exact fun pins s σ H Q I h=>absurd (hnil rfl _ _ _ h.choose_spec.choose_spec.2.2) (h0 _ _)
 |cons a r =>
  obtain ⟨s1,s2⟩:=xO (env:=X.env) (pos:=pos) hn;exact (ze6 (p:=qp) (pos:=pos) (hc X fits) gl hm' hv pa hnm hdb s1 s2).imp fun τ H Q h=>za8 mt mono h
theorem zkM {q:Pr} {A:Around} {nm:Str} {T:String} {sp:RS} (hm:q.mg nm=none) (hv:bootBuiltins nm=some (.type T)) (hc:∀ X,Fits (q.at A) X->qO X (.type T) (dU X.K sp)) (mono:jN sp) (h0:∀ G Q,¬ sp [] G Q):FnE (q.at A) ⟨nm,fun ws G Q _=>sp ws G Q⟩:=by
 intro X fits gl args t qp pos mt hn pa hnil hdb hnm;have hm':X.mg nm=none:=by rw [fits.mg];exact hm
 cases args with
 |nil=>exact fun pins s σ H Q I h=>absurd (hnil rfl _ _ _ h.choose_spec.choose_spec.2.2) (h0 _ _)
 |cons a r =>
  obtain ⟨s1,s2⟩:=xO (env:=X.env) (pos:=pos) hn;exact (zdc (p:=qp) (pos:=pos) (hc X fits) gl hm' hv pa hnm hdb s1 s2).imp fun τ H Q h=>za8 mt mono h
abbrev MS:=W->List W->Hw->Q3->Prop
def MtE (p:Par) (m:Mt3):Prop:=∀ X,Fits p X->∀ (o:Expr) (args:List Expr) (to:E3) (t:A3) (apos cpos:Pos),jX to->uN t->mH o=true->(apos.endLine==cpos.line)=true->args.length<25->args.all xH=true ->
  PE X o (yA X.K to)->PA X args (pQ X.K t)->(args=[]->∀ σ G Q,t σ G Q->Q [] G)->PE X (.Call (.Attribute o m.nm apos) args [] cpos) (yA X.K fun σ G Q=>to σ G fun x G1=>tyW G1 x m.T/\t σ G1 fun ws G2=>m.sp x ws G2 Q)
def lowM (K:yJ) (sp:MS):V->List V->Hp->VK->Prop:=fun x vs H Q=>∃ w ws G,xJ K H w x/\zF K H ws vs/\xS K H G/\sp w ws G (vC K H Q)
theorem dC {args:List Expr} {env:Env} {pos:Pos} (h:args.all xH=true):(backTo pos (starEach args env)).all (fun x=>!x.1)=true:=by
 induction args with
 |nil=>rfl
 |cons a r ih =>
  rw [List.all_cons,Bool.and_eq_true] at h;rw [kP h.1];show (true&&(backTo pos (starEach r env)).all (fun x=>!x.1))=true;rw [ih h.2];rfl
theorem nU {p:Par} {nm:Str} {T id:String} {sp:MS} (pa:PlainAttrs T) (slot:Slot T nm id) (hty:typeOf (.builtin id)=pure (.type "method_descriptor")) (hm:∀ X,Fits p X->MtR X id (lowM X.K sp))
  (mono:∀ x ws G (Q Q':Q3),(∀ w G',Q w G'->Q' w G')->sp x ws G Q->sp x ws G Q'):MtE p ⟨nm,T,sp⟩:=by
 intro X fits o args to t apos cpos mo mt ho hline hlen hn po pa' hnil
 cases args with
 |nil =>
  refine (zjH pa slot hty (hm X fits) po (kT ho) hline).imp fun τ H Q h=>?_;obtain ⟨σ,G,hs,ab,h⟩:=h;refine yE mo hs ab h fun w G1 v H1 g1 hs1 rw1 a1 h=>⟨zfS rw1 a1 h.1,w,[],G1,rw1,rfl,a1,mono _ _ _ _ _ (fun w' G' z v' H' g'=>z v' H' (g1.trans g')) (hnil rfl _ _ _ h.2)⟩
 |cons a r =>
  obtain ⟨s1,s2⟩:=xO (env:=X.env) (pos:=cpos) hn;refine (pe_bm pa slot hty (hm X fits) po pa' (kT ho) ?_ hline s1 s2).imp fun τ H Q h=>?_
  .rw [dC hn]
   have:(a::r).length+([]:List Keyword).length+(if ([]:List Keyword).isEmpty then 0 else 1)<30:=by
    show (a::r).length+0+0<30;omega
   rw [decide_eq_true this];rfl
  .obtain ⟨σ,G,hs,ab,h⟩:=h;refine yE mo hs ab h fun w G1 v H1 g1 hs1 rw1 a1 h=>⟨zfS rw1 a1 h.1,?_⟩;exact pG mt hs1 a1 h.2 fun ws G2 vs H2 g2 hs2 rs a2 h=>⟨w,ws,G2,rw1.mono g2,rs,a2,mono _ _ _ _ _ (fun w' G' z v' H' g'=>z v' H' (g1.trans (g2.trans g'))) h⟩
def maxS:RS:=fun ws G Q=>match ws with
 | [.int i,.int j]=>Q (.int (if j > i then j else i)) G
 |_=>False
theorem zaq:jN maxS:=by
 intro ws G Q Q' k h;unfold maxS at h ⊢
 split at h
 .exact k _ _ h
 .exact h.elim
theorem zeP {K:yJ} {H:Hp} {a b:W} {vs:List V} (r:zF K H [a,b] vs):∃ x y,vs=[x,y]/\xJ K H a x/\xJ K H b y:=by
 obtain ⟨x,t,rfl,rx,y,t',rfl,ry,rt⟩:=r;cases (show t'=[] from rt);exact ⟨x,y,rfl,rx,ry⟩
theorem kZ {K:yJ} {H:Hp} {a:W} {vs:List V} (r:zF K H [a] vs):∃ x,vs=[x]/\xJ K H a x:=by
 obtain ⟨x,t,rfl,rx,rt⟩:=r;cases (show t=[] from rt);exact ⟨x,rfl,rx⟩
theorem zjY {X:Cx} (hc:X.calm=true):qO X (.builtin "max") (dU X.K maxS):=by
 intro pins s σ H xs us Q I r h;obtain ⟨ws,G,rs,ab,h⟩:=h;unfold maxS at h
 split at h
 .rename_i i j;obtain ⟨x,y,rfl,rx,ry⟩:=zeP rs;cases (show x=.int i from rx);cases (show y=.int j from ry);exact zec hc pins s σ H _ us Q I r ⟨i,j,rfl,h _ H .refl rfl ab⟩
 .exact h.elim
def bZ (G:Hw):W->Option Nat
 | .str x=>if x.length<=sizeLine then some x.length else none
 | .tup ws=>some ws.length
 | .ref p=>match G p with
  |some (.lst ws)=>some ws.length
  |some (.fix ws)=>some ws.length
  |some (.dic kvs)=>some kvs.length
  |_=>none
 |_=>none
def bY:RS:=fun ws G Q=>match ws with
 | [x]=>(match bZ G x with|some n=>Q (.int n) G|none=>False)
 |_=>False
theorem zat:jN bY:=by
 intro ws G Q Q' k h;unfold bY at h ⊢
 split at h
 .split at h
  .exact k _ _ h
  .exact h.elim
 .exact h.elim
theorem zhA {X:Cx}:qO X (.builtin "len") (fun xs H Q=>∃ a kvs,xs=[V.ref a]/\H a=some (.dK kvs)/\Q (.int kvs.length) H):=by
 intro pins s σ H xs us Q I r h;obtain ⟨a,kvs,rfl,ha,q⟩:=h;obtain ⟨u,rfl,ru⟩:=qD r;cases ru;exact d_len I (.inl ha) fun t s' I'=>⟨.int kvs.length,H,I',⟨t,rfl⟩,q⟩
theorem zj6 {X:Cx}:qO X (.builtin "len") (dU X.K bY):=by
 intro pins s σ H xs us Q I r h;obtain ⟨ws,G,rs,ab,h⟩:=h;unfold bY at h
 split at h
 .rename_i w;obtain ⟨v,rfl,rv⟩:=kZ rs
  split at h
  .rename_i n hn;have q:Q (.int n) H:=h (.int n) H .refl rfl ab
   cases w with
   |str x =>
    cases (show v=.str x from rv);simp only [bZ] at hn
    split at hn
    .rename_i hl;cases hn;exact zaJ pins s σ H _ us Q I r ⟨x,rfl,hl,q⟩
    .cases hn
   |tup ws' =>
    obtain ⟨a,vs,rfl,sq,rr⟩:=rv;simp only [bZ] at hn;cases hn;exact uT pins s σ H _ us Q I r ⟨a,vs,rfl,.inr sq,by rw [rr.length];exact q⟩
   |ref p =>
    cases (show v=.ref p from rv);simp only [bZ] at hn
    split at hn
    .rename_i ws' e;cases hn;obtain ⟨vs,sq,rr⟩:=ab.seq (show yS G p=some ws' by unfold yS;rw [e]);exact uT pins s σ H _ us Q I r ⟨p,vs,rfl,.inl sq,by rw [rr.length];exact q⟩
    .rename_i ws' e;cases hn;obtain ⟨vs,sq,rr⟩:=ab.seq (show yS G p=some ws' by unfold yS;rw [e]);exact uT pins s σ H _ us Q I r ⟨p,vs,rfl,.inl sq,by rw [rr.length];exact q⟩
    .rename_i kvs e;cases hn;obtain ⟨l,e',rl⟩:=ab.dic e;exact zhA pins s σ H _ us Q I r ⟨p,l,rfl,e',by rw [rl.length];exact q⟩
    .cases hn
   |_=>simp [bZ] at hn
  .exact h.elim
 .exact h.elim
def jJ (G:Hw):W->Option (List W)
 | .tup ws=>some ws
 | .ref p=>yS G p
 |_=>none
def lstS:RS:=fun ws G Q=>match ws with
 | [x]=>(match jJ G x with|some xs=>∀ p,G p=none->Q (.ref p) (put G p (.lst xs))|none=>False)
 |_=>False
theorem zar:jN lstS:=by
 intro ws G Q Q' k h;unfold lstS at h ⊢
 split at h
 .split at h
  .exact fun p hp=>k _ _ (h p hp)
  .exact h.elim
 .exact h.elim
theorem zgV {K:yJ} {H:Hp} {G:Hw} {w:W} {v:V} {xs:List W} (ab:xS K H G) (r:xJ K H w v) (e:jJ G w=some xs):∃ a vs b,v=.ref a/\gK b K H a vs/\zF K H xs vs:=by
 cases w with
 |tup ws =>
  obtain ⟨a,vs,rfl,sq,rr⟩:=r;cases e;exact ⟨a,vs,true,rfl,sq,rr⟩
 |ref p =>
  cases (show v=.ref p from r);obtain ⟨vs,sq,rr⟩:=ab.seq e;exact ⟨p,vs,false,rfl,sq,rr⟩
 |_=>cases e
theorem zj0 {X:Cx}:qO X (.type "list") (dU X.K lstS):=by
 intro pins s σ H xs us Q I r h;obtain ⟨ws,G,rs,ab,h⟩:=h;unfold lstS at h
 split at h
 .rename_i w;obtain ⟨v,rfl,rv⟩:=kZ rs
  split at h
  .rename_i ys hy;obtain ⟨a,vs,b,rfl,sq,rr⟩:=zgV ab rv hy;refine zaI pins s σ H _ us Q I r ⟨a,vs,rfl,?_,qL ab rr h⟩;cases b
   .exact .inl sq
   .exact .inr sq
  .exact h.elim
 .exact h.elim
def allS (f:List Bool->Bool):RS:=fun ws G Q=>match ws with
 | [.ref p]=>∃ bs:List Bool,yS G p=some (bs.map .bl)/\Q (.bl (f bs)) G
 |_=>False
theorem zaR (f:List Bool->Bool):jN (allS f):=by
 intro ws G Q Q' k h;unfold allS at h ⊢
 split at h
 .obtain ⟨bs,e,h⟩:=h;exact ⟨bs,e,k _ _ h⟩
 .exact h.elim
theorem cV {K:yJ} {H:Hp}:∀ {bs:List Bool} {vs:List V} {us:List Value},zF K H (bs.map .bl) vs->zE vs us->us=bs.map .bool
 | [],vs,us,r,v=>by cases (show vs=[] from r);cases v;rfl
 |b::bs,vs,us,r,v=>by
  obtain ⟨x,t,rfl,rx,rt⟩:=r;cases (show x=.bl b from rx)
  cases v with
  |cons a c =>
   cases (show _=Value.bool b from a);rw [cV rt c];rfl
theorem zen (bs:List Bool):(List.range bs.length).all (fun i=>(bs[i]?).getD false)=bs.all id:=by
 rw [Bool.eq_iff_iff,List.all_eq_true,List.all_eq_true]
 constructor
 .intro h b hb;obtain ⟨i,hi,rfl⟩:=List.mem_iff_getElem.mp hb;have:=h i (List.mem_range.mpr hi)
  rwa [List.getElem?_eq_getElem hi] at this
 .intro h i hi;have hi:=List.mem_range.mp hi;rw [List.getElem?_eq_getElem hi];exact h _ (List.getElem_mem hi)
theorem zfO {X:Cx} (hc:X.calm=true) {pins:List (Addr×Obj)} {s:Shared} {σ:L2.St} {H:Hp} {G:Hw} {p:Addr} {bs:List Bool} (I:Inv X pins σ H s) (ab:xS X.K H G) (e:yS G p=some (bs.map .bl)) {A:Around} (hh:A.handled=none) {E:Value->Shared->Prop}
  {R:Value->Shared->Prop} (h:∀ (I':Addr) (s₂:Shared),Walks X.prog X.w A I' [I',p] [I'] bs.length (fun i v=>(bs.map Value.bool).toArray[i]?=some v) (fun i h=>h.IsListIter I' p i/\h.IsList p (bs.map Value.bool).toArray)->(s₂.heap.IsListIter I' p 0/\s₂.heap.IsList p (bs.map Value.bool).toArray) ->
   (∀ h' tk,(∀ b o,b∉[I']->s₂.heap.get? b=some o->h'.get? b=some o)->0<tk->Inv X pins σ H { s₂ with heap:=h',toks:=tk })->R (.ref I') s₂):wpAny (model X.prog X.w) A (pyIter (.ref p)) R E s:=by
 obtain ⟨vs,sq,rr⟩:=ab.seq e;obtain ⟨its,rv,pl,hz⟩:=I.list sq;have eits:=cV rr rv;subst eits;have hl:=pl.isList;refine wpAny_pyIter_list hl ?_
 have hne:p≠s.heap.objs.size:=by
  obtain ⟨o,ho,_⟩:=hl;exact Nat.ne_of_lt (Heap.lt_size ho)
 have W:=Walks.list (prog:=X.prog) (w:=X.w) hh s.heap.objs.size p hne (bs.map Value.bool).toArray;have hn:(bs.map Value.bool).toArray.size=bs.length:=by simp
 rw [hn] at W;refine h _ _ W ⟨⟨_,Heap.get?_push_size _ rfl,rfl,rfl⟩,hl.push _⟩ fun h' tk k h0=>I.kept (fun b o e=>k b o (fun hm=>?_) (Heap.get?_push_of_some _ e)) h0;rw [List.mem_singleton] at hm;exact Nat.ne_of_lt (Heap.lt_size e) hm
theorem zeu {P:Program} {w:World} {A:Around} {bs:List Bool}:TruthOf P w A (fun i v=>(bs.map Value.bool).toArray[i]?=some v) (fun i=>(bs[i]?).getD false):=by
 intro i v s Q E h q;have h':(bs[i]?).map Value.bool=some v:=by simpa using h
 cases e:bs[i]? with
 |none=>rw [e] at h';cases h'
 |some b =>
  rw [e] at h';cases h';have q':Q ((bs[i]?).getD false) s:=q;rw [e] at q';exact wpAny_truthy_bool q'
theorem zk3 {X:Cx} (hc:X.calm=true):qO X (.builtin "all") (dU X.K (allS (·.all id))):=by
 intro pins s σ H xs us Q I r h;obtain ⟨ws,G,rs,ab,h⟩:=h;unfold allS at h
 split at h
 .rename_i p;obtain ⟨v,rfl,rv⟩:=kZ rs;cases (show v=.ref p from rv);obtain ⟨bs,e,h⟩:=h;obtain ⟨u,rfl,ru⟩:=qD r;cases ru;refine wB I.tk (call_all_walk (zfO hc I ab e (A:=X.A.in1) (I.ok.hd hc) fun I' s₂ W st k=>⟨I',_,_,_,_,_,_,rfl,W,st,zeu,fun h' tk hk h0=>?_⟩));rw [zen];exact ⟨.bl (bs.all id),H,k h' tk hk h0,rfl,h _ H .refl rfl ab⟩
 .exact h.elim
def tyO (G:Hw):W->Option String
 | .non=>some "NoneType"
 | .bl _=>some "bool"
 | .int _=>some "int"
 | .str _=>some "str"
 | .tup _=>some "tuple"
 | .ref p=>match G p with
  |some (.lst _)=>some "list"
  |some (.fix _)=>some "list"
  |some (.dic _)=>some "dict"
  |_=>none
 |_=>none
def isiS (K:yJ):RS:=fun ws G Q=>match ws with
 | [x,.ty T]=>∃ T' b,tyO G x=some T'/\PySem.W.kitOne K (.type T') (.type T)=some b/\Q (.bl b) G
 |_=>False
theorem zaw (K:yJ):jN (isiS K):=by
 intro ws G Q Q' k h;unfold isiS at h ⊢
 split at h
 .obtain ⟨T',b,e,e',h⟩:=h;exact ⟨T',b,e,e',k _ _ h⟩
 .exact h.elim
theorem zkz {X:Cx}:qO X (.builtin "isinstance") (dU X.K (isiS X.K)):=by
 intro pins s σ H xs us Q I r h;obtain ⟨ws,G,rs,ab,h⟩:=h;unfold isiS at h
 split at h
 .rename_i w T;obtain ⟨v,y,rfl,rv,ry⟩:=zeP rs;cases (show y=.ty T from ry);obtain ⟨u,c,rfl,ru,rc⟩:=zes r;cases (show c=Value.type T from rc);obtain ⟨T',b,ty,e,h⟩:=h;have q:∀ tk,0<tk->EP X pins σ Q (.bool b) { s with toks:=tk }:=fun tk h0=>⟨.bl b,H,I.tok _ h0,rfl,h _ H .refl rfl ab⟩
  cases w with
  |non=>cases ty;cases (show v=.non from rv);exact wB I.tk (vV I ru .non e q)
  |bl x=>cases ty;cases (show v=.bl x from rv);exact wB I.tk (vV I ru (.bl x) e q)
  |int x=>cases ty;cases (show v=.int x from rv);exact wB I.tk (vV I ru (.int x) e q)
  |str x=>cases ty;cases (show v=.str x from rv);exact wB I.tk (vV I ru (.str x) e q)
  |tup ws' =>
   cases ty;obtain ⟨a,vs,rfl,sq,rr⟩:=rv;cases (show u=Value.ref a from ru);obtain ⟨its,_,p,_⟩:=I.tuple sq;obtain ⟨o,h1,h2,_⟩:=p;exact wB I.tk (PySem.W.kia_one PySem.W.kitx_tuple I.kIn ⟨o,h1,h2⟩ e (fun z=>nomatch z) q)
  |ref p =>
   cases (show v=.ref p from rv);cases (show u=Value.ref p from ru);simp only [tyO] at ty
   split at ty
   .rename_i ws' eg;cases ty;obtain ⟨vs,sq,rr⟩:=ab.seq (show yS G p=some ws' by unfold yS;rw [eg]);obtain ⟨its,_,pl,_⟩:=I.list sq;obtain ⟨o,ho,hc,_⟩:=pl.isList;exact wB I.tk (PySem.W.kia_one PySem.W.kitx_list I.kIn ⟨o,ho,hc⟩ e (fun z=>nomatch z) q)
   .rename_i ws' eg;cases ty;obtain ⟨vs,sq,rr⟩:=ab.seq (show yS G p=some ws' by unfold yS;rw [eg]);obtain ⟨its,_,pl,_⟩:=I.list sq;obtain ⟨o,ho,hc,_⟩:=pl.isList;exact wB I.tk (PySem.W.kia_one PySem.W.kitx_list I.kIn ⟨o,ho,hc⟩ e (fun z=>nomatch z) q)
   .rename_i kvs eg;cases ty;obtain ⟨l,e',rl⟩:=ab.dic eg;exact wB I.tk (vV (x:=.ref p) (u:=Value.ref p) I rfl (.dK e') e q)
   .cases ty
  |_=>cases ty
 .exact h.elim
def fM:MS:=fun x ws G Q=>match x,ws with
 | .ref p,[]=>(match G p with
  |some (.lst xs)=>(match xs[xs.length-1]? with|some y=>Q y (put G p (.lst xs.dropLast))|none=>False)
  |_=>False)
 |_,_=>False
theorem zaj:∀ x ws G (Q Q':Q3),(∀ w G',Q w G'->Q' w G')->fM x ws G Q->fM x ws G Q':=by
 intro x ws G Q Q' k h;unfold fM at h ⊢
 split at h
 .split at h
  .split at h
   .exact k _ _ h
   .exact h.elim
  .exact h.elim
 .exact h.elim
theorem zju {X:Cx}:MtR X "list.pop" (lowM X.K fM):=by
 intro pins s σ H x xs v us Q I rx rxs h;obtain ⟨w,ws,G,rw1,rs,ab,h⟩:=h;unfold fM at h
 split at h
 .rename_i p;cases (show x=.ref p from rw1);cases (show xs=[] from rs)
  split at h
  .rename_i ys e
   split at h
   .rename_i y ey;obtain ⟨vs,ev,rr⟩:=ab.lst e;obtain ⟨vy,evy,ry⟩:=rr.get ey;have gr:yI X.K H (xL H p (.lst vs.dropLast)):=ab.grow e;exact zjU pins s σ H _ _ v us Q I rx rxs ⟨p,vs,vy,rfl,rfl,ev,by rw [rr.length];exact evy,h vy _ gr (ry.mono gr) (ab.chg e ⟨_,rfl,rr.dropLast.mono gr⟩)⟩
   .exact h.elim
  .exact h.elim
 .exact h.elim
def cP:MS:=fun x ws G Q=>match x,ws with
 | .ref p,[y]=>(match G p with
  |some (.lst xs)=>xs.length<sizeLine/\Q .non (put G p (.lst (xs++[y])))
  |_=>False)
 |_,_=>False
theorem zaQ:∀ x ws G (Q Q':Q3),(∀ w G',Q w G'->Q' w G')->cP x ws G Q->cP x ws G Q':=by
 intro x ws G Q Q' k h;unfold cP at h ⊢
 split at h
 .split at h
  .exact ⟨h.1,k _ _ h.2⟩
  .exact h.elim
 .exact h.elim
theorem zk2 {X:Cx}:MtR X "list.append" (lowM X.K cP):=by
 intro pins s σ H x xs v us Q I rx rxs h;obtain ⟨w,ws,G,rw1,rs,ab,h⟩:=h;unfold cP at h
 split at h
 .rename_i p y;cases (show x=.ref p from rw1);obtain ⟨vy,rfl,ry⟩:=kZ rs
  split at h
  .rename_i ys e;obtain ⟨vs,ev,rr⟩:=ab.lst e;have gr:yI X.K H (xL H p (.lst (vs++[vy]))):=ab.grow e;exact zdm pins s σ H _ _ v us Q I rx rxs ⟨p,vs,vy,rfl,rfl,ev,by rw [rr.length];exact h.1,h.2 .non _ gr (show xJ X.K _ .non .non from rfl) (ab.chg e ⟨_,rfl,(rr.append (show zF X.K H [y] [vy] from ⟨vy,[],rfl,ry,rfl⟩)).mono gr⟩)⟩
  .exact h.elim
 .exact h.elim
def idxS:MS:=fun x ws G Q=>match x,ws with
 | .ref p,[y]=>∃ xs,yS G p=some xs/\(pur y=true/\jI xs=true/\min (kC xs) (dep y)<=150)/\(xs.any fun w=>jM w y)=true/\Q (.int ((xs.findIdx fun w=>jM w y:Nat):Int)) G
 |_,_=>False
theorem zaz:∀ x ws G (Q Q':Q3),(∀ w G',Q w G'->Q' w G')->idxS x ws G Q->idxS x ws G Q':=by
 intro x ws G Q Q' k h;unfold idxS at h ⊢
 split at h
 .obtain ⟨xs,e,e1,e2,h⟩:=h;exact ⟨xs,e,e1,e2,k _ _ h⟩
 .exact h.elim
theorem zfG {X:Cx} {pins:List (Addr×Obj)} {σ:L2.St} {H:Hp} {s:Shared} (I:Inv X pins σ H s) {x:W}:∀ {ws:List W} {vs:List V} {us:List Value},zF X.K H ws vs->zE vs us->jI ws=true->us.map (eqI X.K H x)=ws.map fun w=>jM w x:=by
 intro ws
 induction ws with
 |nil=>intro vs us h r _;rw [show _=[] from h] at r;cases r;rfl
 |cons w ws ih =>
  intro vs us h r p;obtain ⟨v,t,e,h,hs⟩:=h;subst e
  cases r with
  |cons r rs =>
   have p':=wX.mp p;rw [zzU,zzU,zdV I h r p'.1,ih hs rs p'.2]
theorem tI {α:Type} (f:α->Bool):∀ l:List α,(l.map f).findIdx id=l.findIdx f
 | []=>rfl
 |a::r=>by
  rw [zzU,List.findIdx_cons,List.findIdx_cons,tI f r];rfl
theorem zkG {X:Cx} (hu:X.A.units+200<cLine):MtR X "list.index" (lowM X.K idxS):=by
 intro pins s σ H x xs v us Q I rx rxs h;obtain ⟨w,ws,G,rw1,rs,ab,h⟩:=h;unfold idxS at h
 split at h
 .rename_i p y;cases (show x=.ref p from rw1);cases (show v=Value.ref p from rx);obtain ⟨vy,rfl,ry⟩:=kZ rs;obtain ⟨uy,rfl,ruy⟩:=qD rxs;obtain ⟨ys,e,⟨p1,p2,p3⟩,ha,h⟩:=h;obtain ⟨vs,its,sq,rr,vv,_,pl,hz⟩:=zbS I ab e;obtain ⟨o,n,ho,hc,hd,hdat⟩:=pl;have hm:=zfG I (x:=y) rr vv p2;have lenE:its.length=ys.length:=by rw [← vv.length,rr.length]
  have fe:its.findIdx (eqI X.K H y)=ys.findIdx (fun w=>jM w y):=by rw [← tI,hm,tI]
  have ha':its.any (eqI X.K H y)=true:=by rw [zdW I rr vv p2];exact ha
  have hlt:its.findIdx (eqI X.K H y)<its.length:=by
   rw [List.findIdx_lt_length];exact List.any_eq_true.mp ha'
  obtain ⟨cls,dd,data,sl⟩:=o;simp only at hc hdat;subst hc;subst hdat
  refine call_meets PySem.F.slot_list_index ⟨_,ho,rfl⟩ PySem.F.entry_list_index (PySem.F.args_list_index_2 _ _)
   (list_indexAt p its.toArray n dd sl uy (eqI X.K H y) (its.findIdx (eqI X.K H y)) (by simpa using hlt) (by have:=sizeLine_eq;omega) ?_ ?_) ⟨ho,fun z hz'=>?_,?_⟩
  .simpa using List.findIdx_getElem (w:=hlt)
  .intro m hm' hlt';simpa using List.not_of_lt_findIdx hlt'
  .refine zgr I ry ruy p1 rr vv p2 ?_ z (by simpa using hz');show X.A.units+1+min (kC ys) (dep y)<cLine;omega
  .rw [fe];exact ⟨.int ((ys.findIdx fun w=>jM w y:Nat):Int),H,I.tok _,⟨_,rfl⟩,h _ H .refl rfl ab⟩
 .exact h.elim
def rngI (ws:List W) (G:Hw) (R:List W->(Hw->Prop)->Hw->Prop):Prop:=match ws with
 | [.int j]=>(-(2 ^ 62)<=j/\j<2 ^ 62)/\R ((List.range j.toNat).map fun i=>.int (i:Nat)) (fun _=>True) G
 |_=>False
theorem zkt {K:yJ} {H1:Hp} {n:Nat}:ItIs K (Itr 0 n) H1 ((List.range n).map fun i=>W.int (i:Nat)) (fun _=>True) where
 go:=fun i H G _ ab st hi=>by show i<n;simpa using hi
 yld:=fun i H G x H' _ ab st hi y=>by
  obtain ⟨rfl,rfl⟩:=y;have hi':i<n:=by simpa using hi
  refine ⟨.int (i:Nat),by simp [hi'],.refl,?_,ab⟩;show V.int (0+(i:Int))=V.int (i:Int);rw [Int.zero_add]
 stop:=fun i H G _ ab st hi=>by show n<=i;simpa using hi
def ItE (p:Par) (i:It3):Prop:=∀ X,Fits p X->Gl X i.nm->∀ (tg:Expr) (args:List Expr) (t:A3) (q pos:Pos),uN t->args.all xH=true->PA X args (pQ X.K t)->(args=[]->∀ σ G Q,t σ G Q->Q [] G)->(i.nm==("__debug__" : Str))=false->i.nm ≠ "__name__" ->
  PI X tg (.Call (.Name i.nm q) args [] pos) (lowI X.K fun σ G R=>t σ G fun ws G1=>i.sp ws G1 R)
theorem zky {q:Pr} {A:Around} (hm:q.mg "range" = none):ItE (q.at A) ⟨"range", rngI⟩:=by
 intro X fits gl tg args t qp pos mt hn pa hnil hdb hnm;have hm':X.mg "range" = none:=by rw [fits.mg];exact hm
 intro pins s σ H R I h
 cases args with
 |nil =>
  obtain ⟨σ3,G,hs,ab,h⟩:=h;exact (hnil rfl _ _ _ h).elim
 |cons a r =>
  obtain ⟨s1,s2⟩:=xO (env:=X.env) (pos:=pos) hn;obtain ⟨σ3,G,hs,ab,h⟩:=h
  have h':=pG (S:=fun vs H1=>∃ j:Int,vs=[.int j]/\-(2 ^ 62)<=j/\j<2 ^ 62/\R (Itr 0 j.toNat) H1) mt hs ab h fun ws G1 vs H1 g1 hs1 rs a1 h=>by
   dsimp only at h;unfold rngI at h
   split at h
   .rename_i j;obtain ⟨v,rfl,rv⟩:=kZ rs;cases (show v=.int j from rv);exact ⟨j,rfl,h.1.1,h.1.2,h.2 _ H1 g1 a1 zkt⟩
   .exact h.elim
  refine Call_ (tL I gl hm' boot_range (PyProof.Rows.callWith_type1 (yG (pa pos pins s σ H _ I h') fun us s1 ⟨vs,H1,I1,r1,q1⟩=>?_) s1 s2));obtain ⟨j,e,q1,q2,q⟩:=q1;subst e;obtain ⟨u,rfl,t,rfl⟩:=qD r1;exact call_range_1 (zeQ I1 (Nat.succ_pos _) (by omega) (by omega) q1 q2 (by simpa using q))
def lofM (nm:Str):Scope->Expr->Option (List Expr):=fun sc e=>match e with
 | .Call (.Name o _) [.Call (.Name x _) xs [] _] [] _=>if o==("list" : Str)&&x==nm&&rQ sc o&&rQ sc x&&!xs.isEmpty then some xs else none
 |_=>none
theorem zfc {nm:Str} {sc:Scope} {e:Expr} {xs:List Expr} (h:lofM nm sc e=some xs):∃ qo q pos pos' a r,xs=a::r/\e=.Call (.Name "list" qo) [.Call (.Name nm q) (a::r) [] pos] [] pos'/\rQ sc "list" = true/\rQ sc nm=true:=by
 have no:¬ ((none:Option (List Expr))=some xs):=fun e=>nomatch e
 cases e with
 |Call f args kws pos' =>
  cases f with
  |Name o qo =>
   cases args with
   |nil=>exact absurd h no
   |cons c rest =>
    cases c with
    |Call g ys kw2 pos =>
     cases g with
     |Name x q =>
      cases kw2 with
      |nil =>
       cases rest with
       |nil =>
        cases kws with
        |nil =>
         replace h:(if (o==("list" : Str)&&x==nm&&rQ sc o&&rQ sc x&&!ys.isEmpty)=true then some ys else none)=some xs:=h
         by_cases hb:(o==("list" : Str)&&x==nm&&rQ sc o&&rQ sc x&&!ys.isEmpty)=true
         .rw [if_pos hb] at h;cases h;simp only [Bool.and_eq_true,beq_iff_eq,Bool.not_eq_true',List.isEmpty_eq_false_iff] at hb;obtain ⟨⟨⟨⟨rfl,rfl⟩,h1⟩,h2⟩,h3⟩:=hb
          cases xs with
          |nil=>exact absurd rfl h3
          |cons a r=>exact ⟨qo,q,pos,pos',a,r,rfl,rfl,h1,h2⟩
         .rw [if_neg hb] at h;exact absurd h no
        |cons _ _=>exact absurd h no
       |cons _ _=>exact absurd h no
      |cons _ _=>exact absurd h no
     |_=>exact absurd h no
    |_=>exact absurd h no
  |_=>exact absurd h no
 |_=>exact absurd h no
def SxE (p:Par) (k:Sx3):Prop:=∀ X,Fits p X->∀ (e:Expr) (xs:List Expr) (es:List E3),k.m X.env.scope e=some xs->mD X xs es->xs.all xH=true->PA X xs (pQ X.K (sB es)) ->
  PE X e (yA X.K fun σ G Q=>sB es σ G fun ws G1=>k.sp ws G1 Q)/\(∀ whole,isTrue e X.env whole=(do let v ← whole;standAt e.pos;holding [v] (truthy v)))/\∀ op vs pos,e≠.BoolOp op vs pos
theorem wG {X:Cx}:∀ {xs:List Expr} {es:List E3},mD X xs es->uN (sB es)
 | [],[],_=>fun σ G Q Q' k h=>k _ _ h
 |_::_,_::_,⟨m,_,r⟩=>fun σ G Q Q' k h=>m σ G _ _ (fun x G1 h=>wG r σ G1 _ _ (fun xs G2 h=>k _ _ h) h) h
theorem ziY {q:Pr} {A:Around} {nm:Str} {T:String} {sp:RS} (hl:q.mg "list" = none) (hm:q.mg nm=none) (hv:bootBuiltins nm=some (.type T)) (mono:jN sp)
  (hc:∀ X,Fits (q.at A) X->∀ (pins:List (Addr×Obj)) (s:Shared) (σ:L2.St) (H:Hp) (vs:List V) (us:List Value) (Q:VK),Inv X pins σ H s->zE vs us->dU X.K sp vs H Q ->
   wpAny (model X.prog X.w) X.A (call (.type T) us) (fun v s1=>wpAny (model X.prog X.w) X.A (call (.type "list") [v]) (EP X pins σ Q) X.xe s1) X.xe s):SxE (q.at A) ⟨lofM nm,sp⟩:=by
 intro X fits e xs es he each hn pa;obtain ⟨qo,qq,pos,pos',a,r,rfl,rfl,g1,g2⟩:=zfc he;obtain ⟨gl1,d1,n1⟩:=zcs rfl g1;obtain ⟨gl2,d2,n2⟩:=zcs rfl g2;have hl':X.mg "list" = none:=by rw [fits.mg];exact hl
 have hm':X.mg nm=none:=by rw [fits.mg];exact hm
 refine ⟨fun pins s σ H Q I h=>?_,fun _=>rfl,fun _ _ _ z=>nomatch z⟩;obtain ⟨s1,s2⟩:=xO (env:=X.env) (pos:=pos) hn;have h':=za8 (wG each) mono h;refine wpAny_Call_Name_kw (tL I gl1 hl' boot_list ?_ n1 d1);refine PyProof.Rows.callWith_type1 (e:=.Call (.Name nm qq) (a::r) [] pos) (rest:=[]) ?_ rfl rfl;show wpAny _ _ (spliced ((false,eval (.Call (.Name nm qq) (a::r) [] pos) X.env)::backTo pos' (starEach [] X.env))) _ _ s;refine Calls.spliced_cons (wpAny_Call_Name_kw (tL I gl2 hm' hv (PyProof.Rows.callWith_type1 (yG (pa pos pins s σ H _ I h') fun us s1 ⟨vs,H1,I1,r1,q1⟩=>?_) s1 s2) n2 d2));exact yG (hc X fits pins s1 σ H1 vs us Q I1 r1 q1) fun v s2 z=>Calls.spliced_nil z
theorem zcu (n:Nat):[n+4,n+2,n+3,n,n+1].Nodup:=by
 simp
theorem zb1 (n a:Nat) (h:a<n):a∉[n+4,n+2,n+3,n,n+1]:=by
 simp only [List.mem_cons,List.not_mem_nil,or_false,not_or];omega
theorem zdP (n b:Nat) (h:b∈[n+4,n+2,n+3,n,n+1]):n<=b:=by
 simp only [List.mem_cons,List.not_mem_nil,or_false] at h;omega
def Itv (K:yJ) (a:Addr) (n:Nat):It where
 go:=fun i H=>∃ xs,nE K H a xs/\xs.length=n/\i<n
 yld:=fun i H v H'=>H'=H/\∀ xs,nE K H a xs->xs.length=n->xs[n-1-i]?=some v
 stop:=fun i H=>i=n
theorem zck:typeLookup (.type "list_reverseiterator") "__len__" = pure none:=by rw [typeLookup_type,builtinLookup_eq_fast];kernel_rfl
theorem zfb:typeLookup (.type "list_reverseiterator") "__length_hint__" = pure (some (.builtin "list_reverseiterator.__length_hint__")):=by rw [typeLookup_type,builtinLookup_eq_fast];kernel_rfl
theorem zgY {P:Program} {w:World} {A:Around} {it a:Addr} {i:Int} {s:Shared} {Q:Bool->Shared->Prop} {E:Value->Shared->Prop} (st:s.heap.IsRevIter it a i) (h:∀ b,Q b s):wpAny (model P w) A (Builtin.List.listLengthHint (.ref it)) Q E s:=by
 have hT:=st.typeIs;unfold Builtin.List.listLengthHint;refine wpAny_bind (wpAny_specialOf hT zck ?_);show wpAny _ _ (specialOf (Value.ref it) (Str.ofString "__length_hint__") >>= _) _ _ _;refine wpAny_bind (wpAny_specialOf hT zfb ?_)
 (generalize hid:("list_reverseiterator.__length_hint__" : String)=id0;(fail_if_success (clear hid id0));wp_delta;rw [show splitId id0=some ("list_reverseiterator", "__length_hint__") from by subst hid;decide +kernel];subst hid)
 refine wpAny_bind (wpAny_isInstance (b:=true) hT (by rw [isSubtype_type];kernel_rfl) ?_);exact wpAny_pure (h _)
theorem zeK (P:Program) (w:World) (K:yJ) {it a:Addr} {n:Nat} (hne:a≠it):TurnL P w K "list_reverseiterator" (Itv K a n) [it] it (fun i h=>i<=n/\h.IsRevIter it a ((n:Int)-1-i)) where
 mem:=by simp
 ty:=fun i h ⟨_,o,ho,hc,_⟩=>⟨o,ho,hc⟩
 obj:=fun i h ⟨_,o,ho,hc,hd⟩ b hb=>by
  rw [List.mem_singleton] at hb;subst hb;exact ⟨o,ho,fun v z=>by rw [hd] at z;cases z⟩
 keep:=fun i h h' ⟨hi,x⟩ k=>⟨hi,x.at fun o e=>k it (by simp) o e⟩
 item:=by
  intro X e1 e2 e3 hc i pins s σ H E I hf st go;subst e1;subst e2;subst e3;obtain ⟨hi,st⟩:=st;obtain ⟨xs,sq,ln,hlt⟩:=go;obtain ⟨its,rv,pl,hz⟩:=I.list sq;have hlx:n-1-i<xs.length:=by omega
  obtain ⟨u,eu,ru⟩:=rv.get (List.getElem?_eq_getElem hlx);have e:(n:Int)-1-(i:Int)=((n-1-i:Nat):Int):=by omega
  rw [e] at st;refine wpAny_pyNext_rev_item st pl.isList (x:=u) (by simpa using eu) fun h' st' sb=>?_;have e':((n-1-i:Nat):Int)-1=(n:Int)-1-((i+1:Nat):Int):=by omega
  rw [e'] at st';obtain ⟨f1,f2,f3,f4,f5,f6⟩:=hf it (by simp);refine ⟨u,xs[n-1-i],H,rfl,I.turned (t':=s.toks) (fun b o hb e=>sb.extBut b o hb e) f1 f2 f4 f5 f6,ru,⟨rfl,fun ys sq' _=>by rw [I.list_inj sq' sq];exact List.getElem?_eq_getElem hlx⟩,⟨hlt,st'⟩,fun b hb=>(hf b hb).1⟩
 done:=by
  intro X e1 e2 e3 hc i pins s σ H E I hf st stop;subst e1;subst e2;subst e3;obtain ⟨hi,st⟩:=st;have hin:i=n:=stop;subst hin;have e:(i:Int)-1-(i:Int)=-1:=by omega
  rw [e] at st;obtain ⟨f1,f2,f3,f4,f5,f6⟩:=hf it (by simp);exact wpAny_pyNext_rev_end (I.ok.hd hc) st fun h' k=>⟨rfl,I.turned (t':=s.toks) (fun b o hb e=>k b o hb e) f1 f2 f4 f5 f6⟩
 self:=fun A i s Q E st h=>wpAny_pyIter_revIter st.2 h
 hint:=fun A i s Q E st h=>zgY st.2 h
def revS:RS:=fun ws G Q=>match ws with
 | [.ref p]=>∃ xs,yS G p=some xs/\∀ r,G r=none->Q (.ref r) (put G r (.lst xs.reverse))
 |_=>False
theorem zah:jN revS:=by
 intro ws G Q Q' k h;unfold revS at h ⊢
 split at h
 .obtain ⟨xs,e1,h⟩:=h;exact ⟨xs,e1,fun p hp=>k _ _ (h p hp)⟩
 .exact h.elim
theorem zjj {X:Cx} (hc:X.calm=true) (pins:List (Addr×Obj)) (s:Shared) (σ:L2.St) (H:Hp) (vs:List V) (us:List Value) (Q:VK) (I:Inv X pins σ H s) (r:zE vs us) (h:dU X.K revS vs H Q) :
  wpAny (model X.prog X.w) X.A (call (.type "reversed") us) (fun v s1=>wpAny (model X.prog X.w) X.A (call (.type "list") [v]) (EP X pins σ Q) X.xe s1) X.xe s:=by
 obtain ⟨ws,G,rs,ab,h⟩:=h;unfold revS at h
 split at h
 .rename_i p;obtain ⟨v,rfl,rv⟩:=kZ rs;cases (show v=.ref p from rv);obtain ⟨u,rfl,ru⟩:=qD r;cases (show u=Value.ref p from ru);obtain ⟨xs,e,h⟩:=h;obtain ⟨vs,sq,rr⟩:=ab.seq e;obtain ⟨its,vv,pl,hz⟩:=I.list sq;have hl:=pl.isList
  have hlt:p<s.heap.objs.size:=by
   obtain ⟨o,ho,_⟩:=hl;exact Heap.lt_size ho
  refine call_reversed_list hl ?_;have I1:Inv X pins σ H { s with heap:=s.heap.push (revObj p ((its.toArray.size:Int)-1)),toks:=s.toks }:=I.kept fun b u e=>Heap.get?_push_of_some _ e;have en:its.toArray.size=vs.length:=by rw [zzS,← vv.length]
  refine zds hc (by decide) (by decide) I1 (zeK X.prog X.w X.K (n:=vs.length) (Nat.ne_of_lt hlt)) ⟨Nat.zero_le _,?_⟩ (fun b hb=>?_) vs.length hz
   (fun i acc H'=>H'=H/\acc=vs.reverse.take i) ⟨rfl,by simp⟩ ?_ ?_
  .refine ⟨_,Heap.get?_push_size _ rfl,rfl,?_⟩;show Data.fields #[.ref p,rawInt ((its.toArray.size:Int)-1)]=_;rw [en];simp
  .rw [List.mem_singleton] at hb;subst hb;exact I.fpOk (zzR _) (I.hok.fresh (zzR _))
  .rintro i acc H' hi ⟨rfl,rfl⟩;refine ⟨⟨vs,sq,rfl,hi⟩,?_⟩;rintro v H2 ⟨rfl,e2⟩;refine ⟨rfl,?_⟩;have e2:=e2 vs sq rfl;have hl':i<vs.reverse.length:=by simpa using hi
   rw [List.take_succ_eq_append_getElem hl'];congr 2;have:vs.reverse[i]?=some v:=by rw [List.getElem?_reverse hi];exact e2
   exact (Option.some.inj ((List.getElem?_eq_getElem hl').symm.trans this)).symm
  .rintro acc H' ⟨rfl,rfl⟩;refine ⟨rfl,?_⟩;rw [List.take_of_length_le (by simp)];exact qL ab rr.reverse h
 .exact h.elim
end L3
namespace L3
open PySem PySem.Spec PyProof.Rows L2
def zR (S:List Addr) (G G':Hw):Prop:=∀ a o,a∉S->G a=some o->G' a=some o
theorem zR.refl {S:List Addr} {G:Hw}:zR S G G:=fun _ _ _ h=>h
theorem zR.trans {S:List Addr} {G G1 G2:Hw} (a:zR S G G1) (b:zR S G1 G2):zR S G G2:=fun x o hx h=>b x o hx (a x o hx h)
theorem zR.put {S:List Addr} {G:Hw} {p:Addr} {o:O} (h:p∈S):zR S G (put G p o):=fun x u hx hu=>by
 rw [yH (fun e:x=p=>hx (e▸h))];exact hu
theorem zR.new {S:List Addr} {G:Hw} {p:Addr} {o:O} (h:G p=none):zR S G (L3.put G p o):=fun x u hx hu=>by
 rw [yH (jP hu h)];exact hu
theorem zR.none {S:List Addr} {G G':Hw} {p:Addr} (k:zR S G G') (hp:p∉S) (h:G' p=Option.none):G p=Option.none:=by
 cases e:G p with
 |none=>rfl
 |some o=>rw [k p o hp e] at h;cases h
abbrev kS:yC:=.inr "seed"
abbrev kN:yC:=.inr "number"
abbrev kL:yC:=.inr "left"
def zkV (seed num:Int) (l:Addr):O:=.dic [(kS,.int seed),(kN,.int num),(kL,.ref l)]
structure DealS (G:Hw) (d l:Addr) (seed num:Int) (left:List Int):Prop where
 dic:G d=some (zkV seed num l)
 lst:G l=some (.lst (left.map .int))
 s0:0<=seed
 s1:seed<2147483647
 n0:0<=num
 lf:∀ x∈left,(0:Int)<=x
 len:left.length<=63
 ne:d≠l
def wL (G:Hw) (d l:Addr):Prop:=∃ seed num left,DealS G d l seed num left
theorem dgS {a b c:W}:dget [(kS,a),(kN,b),(kL,c)] kS=some a:=by rfl
theorem dgN {a b c:W}:dget [(kS,a),(kN,b),(kL,c)] kN=some b:=by
 have e1:¬ (kS=kN):=by decide +kernel
 unfold dget;rw [List.find?_cons_of_neg (by simp [e1]),List.find?_cons_of_pos (by simp)];rfl
theorem dgL {a b c:W}:dget [(kS,a),(kN,b),(kL,c)] kL=some c:=by
 have e1:¬ (kS=kL):=by decide +kernel
 have e2:¬ (kN=kL):=by decide +kernel
 unfold dget;rw [List.find?_cons_of_neg (by simp [e1]),List.find?_cons_of_neg (by simp [e2]),List.find?_cons_of_pos (by simp)];rfl
theorem dpN {a b c x:W}:bW [(kS,a),(kN,b),(kL,c)] kN x=[(kS,a),(kN,x),(kL,c)]:=by
 unfold bW;have e1:¬ (kS=kN):=by decide +kernel
 have e2:¬ (kL=kN):=by decide +kernel
 simp [e1,e2]
theorem dpS {a b c x:W}:bW [(kS,a),(kN,b),(kL,c)] kS x=[(kS,x),(kN,b),(kL,c)]:=by
 unfold bW;have e1:¬ (kN=kS):=by decide +kernel
 have e2:¬ (kL=kS):=by decide +kernel
 simp [e1,e2]
def zkZ:ISs:=(.cons (.whl (.and (.cmp .Eq (.ix (.var 0) (.con (.str "number"))) (.con (.int 0))) (.cmp .Gt (.call 1 (.cons (.ix (.var 0) (.con (.str "left"))) .nil)) (.con (.int 0)))) (.cons (.asgI (.var 0) (.con (.str "number")) (.mth 0 (.ix (.var 0) (.con (.str "left"))) .nil))
 .nil))
 (.cons (.asg 2 (.ix (.var 0) (.con (.str "number"))))
 (.cons (.ite (.cmp .Gt (.var 2) (.con (.int 0))) (.cons (.asgI (.var 0) (.con (.str "number")) (.bin .FloorDiv (.var 2) (.var 1)))
 (.cons (.ret (.bin .Mod (.var 2) (.var 1)))
 .nil)) .nil)
 (.cons (.asg 3 (.bin .Mod (.bin .Add (.bin .Mult (.ix (.var 0) (.con (.str "seed"))) (.con (.int 48271))) (.con (.int 7919))) (.con (.int 2147483647))))
 (.cons (.asgI (.var 0) (.con (.str "seed")) (.bin .Mod (.bin .Add (.bin .Mult (.var 3) (.con (.int 40692))) (.con (.int 104729))) (.con (.int 2147483399))))
 (.cons (.asg 4 (.bin .Mod (.bin .Mult (.ix (.var 0) (.con (.str "seed"))) (.ix (.var 0) (.con (.str "seed")))) (.con (.int 2147483563))))
 (.cons (.ret (.bin .Mod (.bin .Add (.bin .Mult (.bin .Mod (.bin .Mult (.var 3) (.var 3)) (.con (.int 2147483629))) (.con (.int 2147483563))) (.var 4)) (.var 1)))
 .nil)))))))
abbrev eLen:Fn3:=⟨"len", fun ws G Q _=>bY ws G Q⟩
abbrev ePop:Mt3:=⟨"pop", "list", fM⟩
theorem DealS.put {G:Hw} {d l:Addr} {seed num:Int} {left:List Int} (D:DealS G d l seed num left) {seed' num':Int} (h1:0<=seed') (h2:seed' < 2147483647) (h3:0<=num'):DealS (put G d (zkV seed' num' l)) d l seed' num' left :=
 ⟨zX,by rw [yH D.ne.symm];exact D.lst,h1,h2,h3,D.lf,D.len,D.ne⟩
theorem zcx {i j:Int}:jM (.int i) (.int j)=decide (i=j):=by
 simp [jM,Bool.beq_eq_decide_eq]
theorem uW {G:Hw} {i j:Int}:eqG G (.int i) (.int j)=some (decide (i=j)):=by
 simp [eqG,pur,dep,zcx]
theorem zfa {left:List Int}:(left.map W.int)[left.length-1]?=(left[left.length-1]?).map W.int:=by simp
theorem modb {a m:Int} (h:0<m):0<=a % m/\a % m<m:=⟨Int.emod_nonneg _ (by omega),Int.emod_lt_of_pos _ h⟩
theorem zaF {d l:Addr} {m:Int} {G G1:Hw} {Q:Q3} {seed num:Int} {left:List Int} (D:DealS G1 d l seed num left) (kp:zR [d,l] G G1) (hm:0<m/\m<1073741824) (few:∀ {a b c:W},[(kS,a),(kN,b),(kL,c)].length<sizeLine)
  (hq:∀ r G',0<=r->r<m->zR [d,l] G G'->wL G' d l->Q (.int r) G'):if decide (0<num)=true then
   CDiv num m/\[(kS,W.int seed),(kN,W.int num),(kL,W.ref l)].length<sizeLine/\0<m/\Q (W.int (num % m)) (put G1 d (O.dic [(kS,W.int seed),(kN,W.int (num / m)),(kL,W.ref l)]))
  else
   CMul seed 48271/\(0:Int)<2147483647/\CMul ((seed * 48271+7919) % 2147483647) 40692/\(0:Int)<2147483399/\[(kS,W.int seed),(kN,W.int num),(kL,W.ref l)].length<sizeLine /\
   CMul (((seed * 48271+7919) % 2147483647 * 40692+104729) % 2147483399) (((seed * 48271+7919) % 2147483647 * 40692+104729) % 2147483399)/\(0:Int)<2147483563 /\
   CMul ((seed * 48271+7919) % 2147483647) ((seed * 48271+7919) % 2147483647)/\(0:Int)<2147483629 /\
   CMul ((seed * 48271+7919) % 2147483647 * ((seed * 48271+7919) % 2147483647) % 2147483629) 2147483563/\0<m /\
   Q (W.int (((seed * 48271+7919) % 2147483647 * ((seed * 48271+7919) % 2147483647) % 2147483629 * 2147483563+((seed * 48271+7919) % 2147483647 * 40692+104729) % 2147483399 * (((seed * 48271+7919) % 2147483647 * 40692+104729) % 2147483399) % 2147483563) % m))
    (put G1 d (O.dic [(kS,W.int (((seed * 48271+7919) % 2147483647 * 40692+104729) % 2147483399)),(kN,W.int num),(kL,W.ref l)])):=by
 split
 .exact ⟨hm,few,hm.1,hq _ _ (modb hm.1).1 (modb hm.1).2 (kp.trans (zR.put (by simp))) ⟨seed,num / m,left,D.put D.s0 D.s1 (Int.ediv_nonneg D.n0 (by omega))⟩⟩
 .have b1:=modb (a:=seed * 48271+7919) (m:=2147483647) (by decide);generalize (seed * 48271+7919) % 2147483647=x at b1 ⊢;have b2:=modb (a:=x * 40692+104729) (m:=2147483399) (by decide);generalize (x * 40692+104729) % 2147483399=y at b2 ⊢;refine ⟨.inr ⟨by decide,by decide⟩,by decide,.inr ⟨by decide,by decide⟩,by decide,few,.inl ⟨by omega,by omega⟩,by decide,.inl ⟨by omega,by omega⟩,by decide,.inr ⟨by decide,by decide⟩,hm.1,?_⟩;exact hq _ _ (modb hm.1).1 (modb hm.1).2 (kp.trans (zR.put (by simp))) ⟨y,num,left,D.put b2.1 (by omega) D.n0⟩
theorem zfJ {Γ:Ctx3} (h1:Γ.fn[1]?=some eLen) (h2:Γ.mt[0]?=some ePop) {d l:Addr} {m:Int} {G:Hw} {Q:Q3} {nx:jE->Hw->Prop} (D:wL G d l) (hm:0<m/\m<1073741824)
  (hq:∀ r G',0<=r->r<m->zR [d,l] G G'->wL G' d l->Q (.int r) G'):zG Γ XN zkZ { nx:=nx,rt:=Q } [some (.ref d),some (.int m),none,none,none] G:=by
 obtain ⟨seed,num,left,D⟩:=D;dsimp only [zkZ,zG,zO,zT,zL,zH,zC,yX,yW,zN,zV,zI,List.getElem?_cons_zero,List.getElem?_cons_succ,List.set_cons_zero,List.set_cons_succ];simp only [h1,h2];refine ⟨fun k σ G'=>σ=[some (.ref d),some (.int m),none,none,none]/\zR [d,l] G G'/\∃ num left,k=left.length/\DealS G' d l seed num left,⟨_,rfl,.refl,num,left,rfl,D⟩,?_⟩;rintro k σ G1 ⟨rfl,kp,num,left,rfl,D⟩;have hd:G1 d=some (.dic [(kS,.int seed),(kN,.int num),(kL,.ref l)]):=D.dic;have hl:G1 l=some (.lst (left.map .int)):=D.lst;have hds:∀ o,(put G1 d o) d=some o:=fun o=>zX;have hdl:∀ o,(put G1 l o) d=some (.dic [(kS,.int seed),(kN,.int num),(kL,.ref l)]):=fun o=>by rw [yH D.ne];exact hd
 have few:∀ {a b c:W},[(kS,a),(kN,b),(kL,c)].length<sizeLine:=by intros;show 3<sizeLine;rw [sizeLine_eq];decide
 simp only [List.getElem?_cons_zero,List.getElem?_cons_succ,List.set_cons_zero,List.set_cons_succ,qU,hd,zcm,dgN,dgL,dgS,yM,uW,yY,bY,bZ,hl,zzM,tyW,fM,sP,zfa,setR,hdl,hds,dpN,dpS,jY]
 by_cases hn:num=0
 .simp only [decide_eq_true hn,if_true]
  by_cases hlen:(0:Int)<(left.length:Int)
  .simp only [decide_eq_true hlen,if_true];have hlast:left.length-1<left.length:=by omega
   rw [List.getElem?_eq_getElem hlast];simp only [Option.map_some];refine ⟨trivial,few,left.dropLast.length,by rw [List.length_dropLast];omega,trivial,?_,left[left.length-1],left.dropLast,rfl,?_⟩
   .exact (kp.trans (zR.put (by simp))).trans (zR.put (by simp))
   .refine ⟨zX,?_,D.s0,D.s1,D.lf _ (List.getElem_mem hlast),fun x hx=>D.lf x (List.dropLast_subset _ hx),by have:=D.len;rw [List.length_dropLast];omega,D.ne⟩;rw [yH D.ne.symm,zX,List.map_dropLast]
  .simp only [decide_eq_false hlen,zzB,if_false];exact zaF D kp hm few hq
 .simp only [decide_eq_false hn,zzB,if_false];exact zaF D kp hm few hq
theorem zbd {items:List W} {stab:Hw->Prop} {G1:Hw} {turn:W->Hw->(Option W->Hw->Prop)->Prop} {Q:Q3} (f:W->Option W) (hs:stab G1) (hl:items.length<=sizeLine) (ht:∀ w∈items,∀ K:Option W->Hw->Prop,K (f w) G1->turn w G1 K)
  (hq:∀ p,G1 p=none->Q (.ref p) (put G1 p (.lst (items.filterMap f)))):lcR items stab G1 turn Q:=by
 refine ⟨fun i acc G=>G=G1/\acc=(items.take i).filterMap f,⟨rfl,by simp⟩,?_,hl,?_,?_⟩
 .rintro i acc G ⟨rfl,rfl⟩ hi;refine ⟨hs,Nat.le_trans (List.length_filterMap_le _ _) ?_⟩;rw [List.length_take];omega
 .rintro i w acc G hi ⟨rfl,rfl⟩;have hlt:i<items.length:=(List.getElem?_eq_some_iff.mp hi).1;have hw:items[i]=w:=(List.getElem?_eq_some_iff.mp hi).2;refine ht w (List.mem_of_getElem? hi) _ ?_;have et:items.take (i+1)=items.take i++[w]:=by rw [List.take_succ_eq_append_getElem hlt,hw]
  cases e:f w with
  |some x=>exact ⟨rfl,by rw [et,List.filterMap_append];simp [e]⟩
  |none=>exact ⟨rfl,by rw [et,List.filterMap_append];simp [e]⟩
 .rintro acc G ⟨rfl,rfl⟩ p hp;rw [List.take_length];exact hq p hp
theorem zd6 {α β:Type} (f:α->β) (xs:List α) (lo hi:Option Int):cut (xs.map f) lo hi=(cut xs lo hi).map f:=by
 unfold cut;rw [zzM,List.map_take,List.map_drop]
theorem zik {α:Type} (xs:List α) (lo hi:Option Int):(cut xs lo hi).length<=xs.length:=by
 unfold cut;rw [List.length_take,List.length_drop];omega
def zk0:ISs:=(.cons (.asg 2 (.lc (.nm 0) ["_law_cell"] [] (.val (.sl (.var 0) (.yes (.var 1)) (.yes (.con (.int 63))))) .no (.call 0 (.cons (.var 0) (.cons (.bin .Sub (.con (.int 0)) (.var 0)) .nil)))))
 (.cons (.asg 3 (.bin .Add (.con (.int 7919)) (.var 1)))
 (.cons (.for (.nm 4) (.val (.var 2)) (.cons (.asg 3 (.bin .Mod (.bin .Add (.bin .Mult (.var 3) (.con (.int 69621))) (.bin .Mod (.var 4) (.con (.int 2147483629)))) (.con (.int 2147483647))))
 .nil))
 (.cons (.ret (.dct ["seed", "number", "left"] (.cons (.var 3) (.cons (.con (.int 0)) (.cons (.spc 0 (.cons (.lc (.nm 0) ["_law_cell"] [] (.val (.var 2)) (.yes (.cmp .GtE (.var 0) (.bin .Pow (.con (.int 10)) (.con (.int 18))))) (.var 0)) .nil)) .nil)))))
 .nil))))
abbrev eMax:Fn3:=⟨"max", fun ws G Q _=>maxS ws G Q⟩
abbrev eRev:Sx3:=⟨lofM "reversed", revS⟩
def gW (x:Int):Int:=if 0-x > x then 0-x else x
theorem ziy (x:Int):0<=gW x:=by unfold gW;split<;>omega
theorem xG {G:Hw} {p:Addr} {ws:List W} (h:G p=some (.lst ws)):yS G p=some ws:=by unfold yS;rw [h]
theorem dct3 {a b c:W}:zih ["seed", "number", "left"] [a,b,c]=[(kS,a),(kN,b),(kL,c)]:=by
 have e1:¬ (kS=kN):=by decide +kernel
 have e2:¬ (kS=kL):=by decide +kernel
 have e3:¬ (kN=kL):=by decide +kernel
 simp [zih,bW,e1,e2,e3]
def zcF (G:Hw) (w:W) (ns:List Int):Prop:=(∃ a,w=.ref a/\yS G a=some (ns.map .int))\/w=.lsf (ns.map .int)
theorem zcF.sl {G:Hw} {w:W} {ns:List Int} (h:zcF G w ns) {lo hi:Option Int} {Q:Q3} (hq:∀ r,G r=none->Q (.ref r) (put G r (.lst (cut (ns.map W.int) lo hi)))):slR w lo hi G Q:=by
 rcases h with ⟨a,rfl,e⟩|rfl
 .simp only [slR,e];exact hq
 .exact hq
theorem zfL {Γ:Ctx3} (h0:Γ.fn[0]?=some eMax) (h2:Γ.sx[0]?=some eRev) {a:W} {base:Int} {ns:List Int} {G:Hw} {Q:Q3} {nx:jE->Hw->Prop} (hs:zcF G a ns) (hl:ns.length<=63) (hb:0<=base/\base<=1000)
  (hq:∀ d l G',G d=none->G l=none->zR [] G G'->wL G' d l->Q (.ref d) G'):zG Γ XN zk0 { nx:=nx,rt:=Q } [some a,some (.int base),none,none,none] G:=by
 dsimp only [zk0,zG,zO,zT,zL,zH,zC,yX,yW,zN,zV,zS,zM,zP,zW,zI,List.getElem?_cons_zero,List.getElem?_cons_succ,zK];simp only [h0,h2,uO];refine hs.sl fun p1 hp1=>?_;dsimp only;have hp1':yS (put G p1 (.lst (cut (ns.map W.int) (some base) (some 63)))) p1=some (cut (ns.map W.int) (some base) (some 63)):=xG zX;rw [hp1'];rw [zd6];generalize ecs:cut ns (some base) (some 63)=cs;have hcl:cs.length<=63:=by rw [← ecs];exact Nat.le_trans (zik _ _ _) hl
 rw [zd6,ecs] at hp1';refine zbd (fun w=>match w with|.int x=>some (.int (gW x))|_=>none) hp1' (by rw [zzM,sizeLine_eq];omega) ?_ ?_
 .intro w hw K hK;obtain ⟨x,hx,rfl⟩:=zzP hw;simp only [capS,List.length_cons,List.length_nil,List.replicate,zzV,List.append_nil,List.set_cons_zero,List.getElem?_cons_zero,jY,maxS,if_true];exact hK
 .intro p2 hp2
  have ef:(cs.map W.int).filterMap (fun w=>match w with|.int x=>some (.int (gW x))|_=>none)=(cs.map gW).map W.int:=by
   rw [List.filterMap_map,List.map_map,← List.filterMap_eq_map];rfl
  rw [ef];generalize eG:put (put G p1 (.lst (cs.map W.int))) p2 (.lst ((cs.map gW).map W.int))=G2;have kp2:zR [] G G2:=by rw [← eG];exact (zR.new hp1).trans (zR.new hp2)
  have g2:G2 p2=some (.lst ((cs.map gW).map W.int)):=by rw [← eG];exact zX
  simp only [List.getElem?_cons_zero,List.getElem?_cons_succ,List.set_cons_zero,List.set_cons_succ,jY,xG g2];refine ⟨fun i σ G'=>G'=G2/\∃ (n:Int) (c:Option W),σ=[some a,some (.int base),some (.ref p2),some (.int n),c]/\0<=n/\n<2147483647,⟨rfl,7919+base,none,rfl,by omega,by omega⟩,?_,?_,?_⟩
  .rintro i σ G' ⟨rfl,_⟩ _;exact xG g2
  .rintro i w σ G' hi ⟨rfl,n,c,rfl,n0,n1⟩;have hw:=List.mem_of_getElem? hi;obtain ⟨x,hx,rfl⟩:=zzP hw;simp only [List.getElem?_cons_zero,List.getElem?_cons_succ,List.set_cons_zero,List.set_cons_succ,jY];exact ⟨.inr ⟨by decide,by decide⟩,by decide,by decide,trivial,_,_,rfl,(modb (by decide)).1,(modb (by decide)).2⟩
  .rintro σ G' ⟨rfl,n,c,rfl,n0,n1⟩;intro d hd;simp only [List.getElem?_cons_zero,List.getElem?_cons_succ];have g3:(put G' d (.dic [])) p2=some (.lst ((cs.map gW).map W.int)):=by rw [yH (jP g2 hd)];exact g2
   simp only [xG g3];refine zbd (fun w=>match w with|.int x=>if (10:Int) ^ 18<=x then some (.int x) else none|_=>none) (xG g3) (by rw [zzM,zzM,sizeLine_eq];omega) ?_ ?_
   .intro w hw K hK;obtain ⟨x,hx,rfl⟩:=zzP hw;simp only [capS,List.length_cons,List.length_nil,List.replicate,zzV,List.append_nil,List.set_cons_zero,List.getElem?_cons_zero,jY,yM,sP,yY];refine ⟨⟨by decide,by decide,by decide⟩,?_⟩;have e18:(10:Int) ^ (18:Int).toNat=10 ^ 18:=rfl;rw [e18]
    by_cases hx:(10:Int) ^ 18<=x
    .rw [decide_eq_true hx,if_pos rfl];simp only [if_pos hx] at hK;exact hK
    .rw [decide_eq_false hx,if_neg zzN];simp only [if_neg hx] at hK;exact hK
   .intro p3 hp3
    have ef:((cs.map gW).map W.int).filterMap (fun w=>match w with|.int x=>if (10:Int) ^ 18<=x then some (.int x) else none|_=>none)=((cs.map gW).filter fun x=>decide ((10:Int) ^ 18<=x)).map W.int:=by
     generalize cs.map gW=ys
     induction ys with
     |nil=>rfl
     |cons y ys ih =>
      rw [zzU,List.filterMap_cons,List.filter_cons]
      by_cases hy:(10:Int) ^ 18<=y
      .simp only [if_pos hy,decide_eq_true hy,if_true,zzU,ih]
      .simp only [if_neg hy,decide_eq_false hy,zzB,if_false,ih]
    rw [ef];generalize efl:(cs.map gW).filter (fun x=>decide ((10:Int) ^ 18<=x))=fl;have flen:fl.length<=63:=by rw [← efl];refine Nat.le_trans (List.length_filter_le _ _) ?_;rw [zzM];exact hcl
    have fnn:∀ x∈fl,(0:Int)<=x:=fun x hx=>by
     rw [← efl] at hx;obtain ⟨y,hy,rfl⟩:=zzP (List.mem_filter.mp hx).1;exact ziy y
    refine ⟨fl.map W.int,xG zX,fun l hl'=>?_⟩
    have ned:d≠l:=fun e=>by
     subst e;rw [yH (jP zX hp3),zX] at hl';cases hl'
    have np3:d≠p3:=jP zX hp3;refine ⟨by rw [yH ned,yH np3,zX],rfl,?_⟩;rw [dct3];refine hq d l _ (kp2.none (by simp) hd) ?_ ?_ ⟨n,0,fl.reverse,zX,?_,n0,n1,by omega,fun x hx=>fnn x (List.mem_reverse.mp hx),by rw [List.length_reverse];exact flen,ned⟩
    .have k3:zR [] G (put (put G' d (.dic [])) p3 (.lst (fl.map W.int))):=(kp2.trans (zR.new hd)).trans (zR.new hp3);exact k3.none (by simp) hl'
    .intro x u hx hu;rw [yH (jP hu (kp2.none (by simp) hd))];exact ((((kp2.trans (zR.new hd)).trans (zR.new hp3)).trans (zR.new hl')) x u hx hu)
    .rw [yH ned.symm,zX,← List.map_reverse]
structure FunD (K:yJ) (x qual:Str) (st:Stmt) (dV:Value) (f:Addr) (fd:FuncData):Prop where
 ex:∃ (oc:Value) (od:Option Addr) (kV doc pm:Value) (an:Option Addr) (cdv ct:Value) (osl:Array (Option Value)),
  fd=PySem.W.fnOf x qual (yZ st) (zQ st) (zZ st) dV kV doc pm an cdv ct/\K.lookup f=some ⟨oc,od,.func fd,osl⟩/\PySem.W.codeIn K cdv qual=true
 kp:PySem.W.keepIn K (.ref f)=true
theorem uU {Γ:Ctx3} {q:Pr} {k:Nat} {M:MC} {x qual:Str} {st:Stmt} {dV:Value} {f:Addr} {fd:FuncData} {ps:List Str} {sp:vP} {body:ISs} (F:FunD q.K x qual st dV f fd) (S:FnScope M.N ps (zZ st)) (g:∀ A,Room k A->Good Γ (q.at A))
  (eM:MOk Γ M (zZ st)) (hm:qE body M (zQ st)=true) (len:∀ ws G Q,sp ws G Q XN->ws.length=ps.length)
  (hb:∀ ws G Q,sp ws G Q XN->zG Γ XN body { nx:=fun _ G'=>Q .non G',rt:=Q } (yT M.N ws) G):FnOk q.prog q.w q.K q.mg q.base CX0 (k+1) f fd ps (jQ q.K sp):=by
 obtain ⟨oc,od,kV,doc,pm,an,cdv,ct,osl,rfl,lk,hcd⟩:=F.ex;refine fn_of lk hcd S (fun vs H Q E h=>?_) fun A outer s H vs Q E hr h=>?_
 .obtain ⟨ws,G,rs,ab,h⟩:=h;rw [rs.length];exact len ws G _ h
 .obtain ⟨ws,G,rs,ab,h⟩:=h;have gg:=g _ hr;refine ⟨lowS q.K (zG Γ XN body),PSs.nox (sndSs gg body M _ (zQ st) ?_ hm),?_⟩
  .exact ⟨⟨rfl,rfl,rfl,rfl,rfl,rfl,rfl,rfl⟩,rfl,eM.sc.symm,S.nd,fun _ _=>rfl,by rw [eM.sc];exact S.kind,eM.fns,eM.gls,eM.mts,eM.its,eM.sxs,eM.ixs⟩
  .refine ⟨yT M.N ws,G,_,zcT rs,ab,⟨?_,?_,?_,?_⟩,hb ws G _ h⟩
   .exact fun σ G' τ H' g' _ a' z=>z .non H' g' (show xJ q.K H' .non .non from rfl) a'
   .exact fun σ G' τ H' g' _ a' z=>z.elim
   .exact fun σ G' τ H' g' _ a' z=>z.elim
   .exact fun w G' v H' g' r' a' z=>z v H' g' r' a'
structure HD (K:yJ) (x qual:Str) (st:Stmt) (dV:Value) (f:Addr):Prop where
 ex:∃ (oc:Value) (od an:Option Addr) (osl:Array (Option Value)) (kV doc pm cdv ct:Value),K.lookup f=some ⟨oc,od,.func (PySem.W.fnOf x qual (yZ st) (zQ st) (zZ st) dV kV doc pm an cdv ct),osl⟩/\PySem.W.codeIn K cdv qual=true
 kp:PySem.W.keepIn K (.ref f)=true
theorem HD.mk' {K:yJ} {x qual:Str} {st:Stmt} {dV:Value} {f:Addr} {oc:Value} {od an:Option Addr} {osl:Array (Option Value)} {kV doc pm cdv ct:Value}
  (l:K.lookup f=some ⟨oc,od,.func (PySem.W.fnOf x qual (yZ st) (zQ st) (zZ st) dV kV doc pm an cdv ct),osl⟩) (c:PySem.W.codeIn K cdv qual=true) (k:PySem.W.keepIn K (.ref f)=true):HD K x qual st dV f:=⟨⟨oc,od,an,osl,kV,doc,pm,cdv,ct,l,c⟩,k⟩
theorem HD.fd {K:yJ} {x qual:Str} {st:Stmt} {dV:Value} {f:Addr} (h:HD K x qual st dV f):∃ fd,FunD K x qual st dV f fd/\∃ kV doc pm an cdv ct,fd=PySem.W.fnOf x qual (yZ st) (zQ st) (zZ st) dV kV doc pm an cdv ct:=by
 obtain ⟨oc,od,an,osl,kV,doc,pm,cdv,ct,l,c⟩:=h.ex;exact ⟨_,⟨⟨oc,od,kV,doc,pm,an,cdv,ct,osl,rfl,l,c⟩,h.kp⟩,kV,doc,pm,an,cdv,ct,rfl⟩
def tB (f:Fn3):Prop:=∀ ws G (Q Q':Q3) E,(∀ w G',Q w G'->Q' w G')->f.sp ws G Q E->f.sp ws G Q' E
def vQ (p:Par) (f:Fn3):Prop:=FnE p f/\tB f
def rO (m:Mt3):Prop:=∀ x ws G (Q Q':Q3),(∀ w G',Q w G'->Q' w G')->m.sp x ws G Q->m.sp x ws G Q'
def rN (m:It3):Prop:=∀ ws G (R R':List W->(Hw->Prop)->Hw->Prop),(∀ a b c,R a b c->R' a b c)->m.sp ws G R->m.sp ws G R'
def GlE (p:Par) (g:Str×W):Prop:=∀ X,Fits p X->Gl X g.1->∀ q:Pos,(g.1==("__debug__" : Str))=false->g.1 ≠ "__name__" -> PE X (.Name g.1 q) (yA X.K fun _ G Q=>Q g.2 G)
theorem zdJ {Γ:Ctx3} {p:Par} (un:p.A.units+200<cLine) (fn:∀ f∈Γ.fn,vQ p f) (gl:∀ g∈Γ.gl,GlE p g) (mt:∀ m∈Γ.mt,MtE p m/\rO m) (it:∀ i∈Γ.it,ItE p i/\rN i)
  (cl:∀ c∈Γ.cl,Cls p.K c.1/\∀ f∈c.2,tF p.K c.1 f) (sx:∀ k∈Γ.sx,SxE p k/\jN k.sp) (ix:Γ.ix=[]):Good Γ p where
 mono:=⟨fun f hf=>(fn f hf).2,fun m hm=>(mt m hm).2,fun i hi=>(it i hi).2,fun k hk=>(sx k hk).2,fun k hk=>by rw [ix] at hk;cases hk⟩
 un:=un
 fn:=fun f hf=>(fn f hf).1
 gl:=gl
 mt:=fun m hm=>(mt m hm).1
 it:=fun i hi=>(it i hi).1
 cl:=cl
 sx:=fun k hk=>(sx k hk).1
 ix:=fun k hk=>by rw [ix] at hk;cases hk
theorem yD {α:Type} {P:α->Prop}:∀ x∈([]:List α),P x:=fun _ h=>nomatch h
theorem zU {α:Type} {P:α->Prop} {a:α} {l:List α} (h:P a) (t:∀ x∈l,P x):∀ x∈a::l,P x:=fun x hx=>by
 rcases List.mem_cons.mp hx with rfl|hx
 .exact h
 .exact t x hx
theorem tJ {α:Type} {P:α->Prop} {a:α} {l:List α} (t:∀ x∈l,P x) (h:P a):∀ x∈l++[a],P x:=fun x hx=>by
 rcases List.mem_append.mp hx with hx|hx
 .exact t x hx
 .rw [zzO hx];exact h
theorem wH {q:Pr} {A:Around} {x:Str} {w:W} {u:Value} {v:V} (hm:q.mg x=some u) (r:zA v u) (rp:∀ H,xJ q.K H w v):GlE (q.at A) (x,w):=by
 intro X fits gl qp hd hn;have hm':X.mg x=some u:=by rw [fits.mg];exact hm
 refine (zhk gl hm' r hd).imp fun τ H Q h=>?_;obtain ⟨σ,G,hs,ab,h⟩:=h;exact h v H .refl (by have:=rp H;rw [fits.K];exact this) ab
theorem zdL {q:Pr} {A:Around} {x:Str} {T:String} (hm:q.mg x=none) (hv:bootBuiltins x=some (.type T)):GlE (q.at A) (x,.ty T):=by
 intro X fits gl qp hd hn;have hm':X.mg x=none:=by rw [fits.mg];exact hm
 refine (zho (v:=.ty T) gl hm' hv rfl hn hd).imp fun τ H Q h=>?_;obtain ⟨σ,G,hs,ab,h⟩:=h;exact h (.ty T) H .refl rfl ab
theorem sW {K:yJ} {a:Addr} {o:Obj} {its:Array Value} {n:Nat} {ws:List W} {vs:List V} (l:K.lookup a=some o) (hc:o.cls=.type "tuple") (hd:o.data=.seq its n) (hz:its.size<=sizeLine) (hv:zE vs its.toList) (hr:∀ H,zF K H ws vs):∀ H,xJ K H (.tup ws) (.ref a) :=
 fun H=>⟨a,vs,rfl,.inr ⟨o,its,n,l,hc,hd,hz,hv⟩,hr H⟩
theorem zc7:rN ⟨"range", rngI⟩:=by
 intro ws G R R' k h;replace h:rngI ws G R:=h;show rngI ws G R';unfold rngI at h ⊢
 split at h
 .exact ⟨h.1,k _ _ _ h.2⟩
 .exact h.elim
def zcV:vP:=fun ws G Q _=>∃ a base ns,ws=[a,.int base]/\zcF G a ns/\ns.length<=63/\(0<=base/\base<=1000)/\∀ d l G',G d=none->G l=none->zR [] G G'->wL G' d l->Q (.ref d) G'
def gA:vP:=fun ws G Q _=>∃ d l m,ws=[.ref d,.int m]/\wL G d l/\(0<m/\m<1073741824)/\∀ r G',0<=r->r<m->zR [d,l] G G'->wL G' d l->Q (.int r) G'
theorem zaV:tB ⟨"_law_deal", zcV⟩:=fun ws G Q Q' E k hh=>by
 obtain ⟨a,b,ns,h1,h2,h3,h4,h⟩:=hh;exact ⟨a,b,ns,h1,h2,h3,h4,fun d l G' a b c e=>k _ _ (h d l G' a b c e)⟩
theorem zaU:tB ⟨"_law_draw", gA⟩:=fun ws G Q Q' E k hh=>by
 obtain ⟨a,b,m,h1,h2,h3,h⟩:=hh;exact ⟨a,b,m,h1,h2,h3,fun d l a b c e=>k _ _ (h d l a b c e)⟩
abbrev zkT:Fn3:=⟨"_law_deal", zcV⟩
abbrev zdZ:Fn3:=⟨"_law_draw", gA⟩
abbrev eAll:Fn3:=⟨"all", fun ws G Q _=>allS (·.all id) ws G Q⟩
abbrev eLst:Fn3:=⟨"list", fun ws G Q _=>lstS ws G Q⟩
abbrev eIsi (K:yJ):Fn3:=⟨"isinstance", fun ws G Q _=>isiS K ws G Q⟩
abbrev eIdx:Mt3:=⟨"index", "list", idxS⟩
abbrev eRng:It3:=⟨"range", rngI⟩
section
variable {q : Pr} {A : Around} {k : Nat}
theorem zh5 (hm:q.mg "max" = none):vQ (q.at A) eMax:=⟨zb0 hm (by decide +kernel) (fun X f=>zjY f.calm) zaq (fun _ _ h=>h),fun ws G Q Q' _ k h=>zaq ws G Q Q' k h⟩
theorem zh7 (hm:q.mg "len" = none):vQ (q.at A) eLen:=⟨zb0 hm (by decide +kernel) (fun X f=>zj6) zat (fun _ _ h=>h),fun ws G Q Q' _ k h=>zat ws G Q Q' k h⟩
theorem zid (hm:q.mg "all" = none):vQ (q.at A) eAll:=⟨zb0 hm (by decide +kernel) (fun X f=>zk3 f.calm) (zaR _) (fun _ _ h=>h),fun ws G Q Q' _ k h=>zaR _ ws G Q Q' k h⟩
theorem zh6 (hm:q.mg "list" = none):vQ (q.at A) eLst:=⟨zkM hm (by decide +kernel) (fun X f=>zj0) zar (fun _ _ h=>h),fun ws G Q Q' _ k h=>zar ws G Q Q' k h⟩
theorem zh8 (hm:q.mg "isinstance" = none):vQ (q.at A) (eIsi q.K):=⟨zb0 (id := "isinstance") hm (by decide +kernel) (fun X f=>by rw [← show X.K=q.K from f.K];exact zkz) (zaw _) (fun _ _ h=>h),fun ws G Q Q' _ k h=>zaw _ ws G Q Q' k h⟩
theorem zh4:MtE (q.at A) ePop/\rO ePop:=⟨nU PySem.F.plainAttrs_list PySem.F.slot_list_pop PySem.F.type_list_pop (fun X f=>zju) zaj,zaj⟩
theorem zia (hu:A.units+200<cLine):MtE (q.at A) eIdx/\rO eIdx:=⟨nU PySem.F.plainAttrs_list PySem.F.slot_list_index PySem.F.type_list_index (fun X f=>zkG (by rw [f.A];exact hu)) zaz,zaz⟩
theorem zh2 (hm:q.mg "range" = none):ItE (q.at A) eRng/\rN eRng:=⟨zky hm,zc7⟩
theorem zh3 (hl:q.mg "list" = none) (hm:q.mg "reversed" = none):SxE (q.at A) eRev/\jN eRev.sp:=⟨ziY hl hm (by decide +kernel) zah (fun X f=>zjj f.calm),zah⟩
end
theorem FnE.imp {p:Par} {nm:Str} {sp sp':vP} (h:FnE p ⟨nm,sp'⟩) (k:∀ ws G Q,sp ws G Q XN->sp' ws G Q XN):FnE p ⟨nm,sp⟩:=by
 intro X fits gl args t qp pos mt hn pa hnil hdb hnm;refine (h X fits gl args t qp pos mt hn pa hnil hdb hnm).imp fun τ H Q z=>?_;obtain ⟨σ,G,hs,ab,z⟩:=z;exact ⟨σ,G,hs,ab,mt σ G _ _ (fun ws G1 z=>k _ _ _ z) z⟩
theorem jG {K:yJ} {x qual:Str} {st:Stmt} {f:Addr} {fd:FuncData} {ps:List Str} (F:FunD K x qual st .none f fd)
  (h:∀ (kV doc pm:Value) (an:Option Addr) (cdv ct:Value) (us:List Value),us.length=ps.length->bindArgs (PySem.W.fnOf x qual (yZ st) (zQ st) (zZ st) .none kV doc pm an cdv ct) ⟨us,[]⟩=pure (ps.zip us)):uM K fd ps []:=by
 obtain ⟨oc,od,kV,doc,pm,an,cdv,ct,osl,rfl,lk,hcd⟩:=F.ex;exact .all (h kV doc pm an cdv ct)
theorem uV {q:Pr} {j k:Nat} {nm:Str} {f:Addr} {fd:FuncData} {ps:List Str} {sp:vP} (FO:FnOk q.prog q.w q.K q.mg q.base CX0 j f fd ps (jQ q.K sp)) (hm:q.mg nm=some (.ref f)) (hk:PySem.W.keepIn q.K (.ref f)=true) (hb:uM q.K fd ps [])
  (mono:tB ⟨nm,sp⟩) {A:Around} (hr:Room k A) (hjk:j<=k):vQ (q.at A) ⟨nm,sp⟩ :=
 ⟨(zkN (dws:=[]) (dvs:=[]) (FO.mono hjk) hm hk hb (fun _=>rfl) .nil (fun ws G Q Q' z h=>mono ws G Q Q' XN z h) hr).imp fun ws G Q h=>by rw [List.append_nil];exact h,mono⟩
def bE:vP:=fun ws G Q _=>∃ a ns,ws=[a]/\zcF G a ns/\ns.length<=63/\∀ G',Q (.bl true) G'
theorem sX {K:yJ} {H:Hp}:∀ ns:List Int,zF K H (ns.map W.int) (ns.map V.int)
 | []=>rfl
 |n::ns=>⟨.int n,_,rfl,rfl,sX ns⟩
theorem zdu {K:yJ} {H:Hp} {a:Addr} {ns:List Int} (hl:ns.length<=63) (hS:nE K H a (ns.map V.int)):jQ K bE [.ref a] H (fun v _=>v=.bl true) fun _ _ _=>False:=by
 rcases hS with hS|hS
 .refine ⟨[.ref a],fun b=>if b=a then some (.fix (ns.map W.int)) else none,⟨_,[],rfl,rfl,rfl⟩,?_,.ref a,ns,rfl,.inl ⟨a,rfl,by simp [yS]⟩,hl,fun G' v H' _ r _=>r⟩;intro b o e;dsimp only at e
  by_cases hb:b=a
  .subst hb;rw [if_pos rfl] at e;cases e;rcases hS with hS|⟨ob,hS⟩
   .exact ⟨_,hS,_,default,.inl rfl,sX ns⟩
   .exact ⟨_,hS,_,ob,.inr rfl,sX ns⟩
  .rw [if_neg hb] at e;cases e
 .exact ⟨[.lsf (ns.map W.int)],fun _=>none,⟨_,[],rfl,⟨a,_,rfl,hS,sX ns⟩,rfl⟩,(fun b o e=>nomatch e),.lsf (ns.map W.int),ns,rfl,.inr rfl,hl,fun G' v H' _ r _=>r⟩
theorem walk3 {l:PySem.W.OpenLaw} {k:Nat} {q:Program} {loose:List Str} {XP:(Str->Option Value)->Heap->Prop} {YP:World->Heap->Prop} {d:DefRec} {K:Params->PySem.W.Frag} (hn:l.most=some 63) (hdf:d.params.defaults=[]) (hr:Room k callerA)
  (hY:∀ (w:World) (h:Heap),YP w h->(K w.params).In h)
  (F:∀ (w:World) (mg:Str->Option Value) (fa:Addr) (h:Heap),(K w.params).In h->h.Ns mainGlobals mg->mg d.name=some (.ref fa) ->
   ∃ fd:FuncData,(∀ (s:Shared) (u:Value),BindsTo s fd ⟨[u],[]⟩ [("_law_script", u)])/\fd.scope.names.lookup ("_law_script" : Str)=some .local/\∀ base:Heap,(K w.params).In base->base.Ns mainGlobals mg->FnOk l.prog w (K w.params) mg base CX0 k fa fd ["_law_script"] (jQ (K w.params) bE)) :
  PySem.W.WalkO q loose XP YP l.row.toRowW d [] (fun f vs=>PySem.call f vs) :=
 L2.walk_of (n:=63) (k:=k) (x := "_law_script") (CX:=fun _=>CX0) (sp:=fun w=>jQ (K w.params) bE) hn (by decide) hdf hr hY F (fun _ _ a ns hl _ hS=>zdu hl hS) fun _ _ _ _ _ z=>z
end L3
namespace L3
open PySem PySem.Spec PyProof.Rows L2 PySem.SeqAt
def zcq:MS:=fun x ws G Q=>match x,ws with
 | .str sep,[.ref p]=>∃ ts:List Str,yS G p=some (ts.map .str)/\JoinOk sep ts=true/\Q (.str (Txt.join sep ts)) G
 |_,_=>False
theorem dH:∀ x ws G (Q Q':Q3),(∀ w G',Q w G'->Q' w G')->zcq x ws G Q->zcq x ws G Q':=by
 intro x ws G Q Q' k h;unfold zcq at h ⊢
 split at h
 .obtain ⟨ts,e,o,h⟩:=h;exact ⟨ts,e,o,k _ _ h⟩
 .exact h.elim
theorem bJ {K:yJ} {H:Hp}:∀ {ts:List Str} {vs:List V} {us:List Value},zF K H (ts.map .str) vs->zE vs us->∃ l:List (Str×Tok),l.map (·.1)=ts/\us=strValues l
 | [],vs,us,r,v=>by cases (show vs=[] from r);cases v;exact ⟨[],rfl,rfl⟩
 |t::ts,vs,us,r,v=>by
  obtain ⟨x,tl,rfl,rx,rt⟩:=r;cases (show x=.str t from rx)
  cases v with
  |cons a c =>
   obtain ⟨tk,rfl⟩:=a;obtain ⟨l,e1,e2⟩:=bJ rt c;exact ⟨(t,tk)::l,by rw [zzU,e1],by rw [e2];rfl⟩
theorem zhE {X:Cx}:MtR X "str.join" (lowM X.K zcq):=by
 intro pins s σ H x xs v us Q I rx rxs h;obtain ⟨w,ws,G,rw1,rs,ab,h⟩:=h;unfold zcq at h
 split at h
 .rename_i sep p;cases (show x=.str sep from rw1);obtain ⟨y,rfl,ry⟩:=kZ rs;cases (show y=.ref p from ry);obtain ⟨u,rfl,ru⟩:=qD rxs;cases (show u=Value.ref p from ru);obtain ⟨t,rfl⟩:=rx;obtain ⟨ts,e,ok,h⟩:=h;obtain ⟨vs,sq,rr⟩:=ab.seq e;obtain ⟨its,vv,pl,hz⟩:=I.list sq;obtain ⟨l,e1,e2⟩:=bJ rr vv;subst e2;exact wB I.tk (SC.join pl.isList e1 ok fun t' k h0=>⟨.str (Txt.join sep ts),H,I.tok _ h0,⟨t',rfl⟩,h _ H .refl rfl ab⟩)
 .exact h.elim
abbrev zcz:Mt3:=⟨"join", "str", zcq⟩
theorem zfH {q:Pr} {A:Around}:MtE (q.at A) zcz/\rO zcz:=⟨nU PySem.F.plainAttrs_str PySem.F.slot_str_join PySem.F.type_str_join (fun X f=>zhE) dH,dH⟩
def intS:RS:=fun ws G Q=>match ws with
 | [.int i]=>Q (.int i) G
 | [.bl b]=>Q (.int (if b then 1 else 0)) G
 |_=>False
theorem zax:jN intS:=by
 intro ws G Q Q' k h;unfold intS at h ⊢
 split at h
 .exact k _ _ h
 .exact k _ _ h
 .exact h.elim
theorem zkE {X:Cx}:qO X (.type "int") (dU X.K intS):=by
 intro pins s σ H xs us Q I r h;obtain ⟨ws,G,rs,ab,h⟩:=h;unfold intS at h
 split at h
 .rename_i i;obtain ⟨v,rfl,rv⟩:=kZ rs;cases (show v=.int i from rv);exact zaK pins s σ H _ us Q I r (.inl ⟨i,rfl,h _ H .refl rfl ab⟩)
 .rename_i b;obtain ⟨v,rfl,rv⟩:=kZ rs;cases (show v=.bl b from rv);exact zaK pins s σ H _ us Q I r (.inr ⟨b,rfl,h _ H .refl rfl ab⟩)
 .exact h.elim
abbrev eInt:Fn3:=⟨"int", fun ws G Q _=>intS ws G Q⟩
theorem zh9 {q:Pr} {A:Around} (hm:q.mg "int" = none):vQ (q.at A) eInt:=⟨zkM hm (by decide +kernel) (fun X f=>zkE) zax (fun _ _ h=>h),fun ws G Q Q' _ k h=>zax ws G Q Q' k h⟩
theorem zf2 {q:Pr} {k:Nat} {M:MC} {nm qual:Str} {st:Stmt} {f:Addr} {fd:FuncData} {ps:List Str} {sp:Nat->vP} {body:ISs} {Γ:Fn3->Ctx3} (F:FunD q.K nm qual st .none f fd) (S:FnScope M.N ps (zZ st))
  (hm:q.mg nm=some (.ref f)) (hb:uM q.K fd ps []) (h0:∀ ws G Q,¬ sp 0 ws G Q XN) (len:∀ n ws G Q,sp n ws G Q XN->ws.length=ps.length) (mono:∀ n,tB ⟨nm,sp n⟩)
  (g:∀ n A,Room k A->vQ (q.at A) ⟨nm,sp n⟩->Good (Γ ⟨nm,sp n⟩) (q.at A)) (eM:∀ n,MOk (Γ ⟨nm,sp n⟩) M (zZ st)) (look:qE body M (zQ st)=true)
  (hbd:∀ n ws G Q,sp (n+1) ws G Q XN->zG (Γ ⟨nm,sp n⟩) XN body { nx:=fun _ G'=>Q .non G',rt:=Q } (yT M.N ws) G):∀ n,FnOk q.prog q.w q.K q.mg q.base CX0 (k+n) f fd ps (jQ q.K (sp n))
 | 0=>⟨fun vs H Q E ⟨ws,G,_,_,h⟩=>absurd h (h0 _ _ _),fun A outer s H args us vs Q E _ _ _ _ ⟨ws,G,_,_,h⟩=>absurd h (h0 _ _ _),fun x _ _ A outer s H args us vs Q E _ _ _ _ ⟨ws,G,_,_,h⟩=>absurd h (h0 _ _ _)⟩
 |n+1=>uU (k:=k+n) F S (fun A hr=>g n A (hr.mono (Nat.le_add_right _ _)) (uV (zf2 F S hm hb h0 len mono g eM look hbd n) hm F.kp hb (mono n) hr (zzR _))) (eM n) look (len (n+1)) (hbd n)
end L3
namespace L2
open PySem PySem.Spec PyProof.Rows
section
variable {a b : Bool} {z TI TO i1 i2 l1 l2 : Addr}
theorem zp_go {P:Program} {w:World} {A:Around} {E:Value->Shared->Prop} {s:Shared} {tg:Expr} {u:Value} {i:Nat} {Q:Unit->Shared->Prop} (hd:[z,TI,TO,i1,i2].Nodup) (st:uG a b z TI TO i1 i2 l1 l2 i s.heap)
  (h:∀ h',uG a b z TI TO i1 i2 l1 l2 i h'->(∀ c o,c≠z->s.heap.get? c=some o->h'.get? c=some o)->Q () { s with heap:=h' }):wpAny (model P w) A (letOwnedTupleGo tg (.ref z) u) Q E s:=by
 have stay:Q () s:=h s.heap st fun _ _ _ e=>e
 have core:wpAny (model P w) A (do
   let (.ref r,.ref t):=(Value.ref z,u)|return
   let o ← load r
   match o.cls,o.data with
   | .type n,.fields vs =>
    if ["enumerate", "zip", "dict_itemiterator", "dict_reverseitemiterator", "odict_iterator", "itertools.zip_longest", "itertools.pairwise"].contains n&&vs[0]?==some (rawInt t) then
     rule "for.unpacks-the-owned-tuple"
     updateField r 0 .none
   |_,_=>pure ()) Q E s:=by
  cases u with
  |ref t =>
   obtain ⟨f0,f1,hz,h0,h1,hTI,⟨p,q,hTO⟩,s1,s2⟩:=st;refine wpAny_bind (wpAny_load hz ?_);dsimp only
   split
   .refine wpAny_bind (wpAny_rule ?_);show wpAny _ _ (setField (.ref z) 0 .none) Q E s;refine wpAny_setField_rec hz (by simp) fun h' hz' hs'=>h h' ⟨.none,f1,hz',.inl rfl,h1,?_,⟨p,q,?_⟩,s1.at ?_,s2.at ?_⟩ fun c o hc e=>(hs'.2 c hc).trans e
    all_goals simp only [List.nodup_cons,List.mem_cons,List.not_mem_nil,or_false,not_or,List.nodup_nil,not_false_eq_true,and_true] at hd
    .exact (hs'.2 _ (Ne.symm hd.1.1)).trans hTI
    .exact (hs'.2 _ (Ne.symm hd.1.2.1)).trans hTO
    .exact fun o e=>(hs'.2 _ (Ne.symm hd.1.2.2.1)).trans e
    .exact fun o e=>(hs'.2 _ (Ne.symm hd.1.2.2.2)).trans e
   .exact wpAny_pure stay
  |_=>exact wpAny_pure stay
 cases tg with
 |Tuple es x p=>exact core
 |List es x=>exact core
 |_=>exact wpAny_pure stay
theorem zgB (P:Program) (w:World) (K:PySem.W.Frag) (tg:Expr) (hd:[z,TI,TO,i1,i2].Nodup) (n1:l1∉[z,TI,TO,i1,i2]) (n2:l2∉[z,TI,TO,i1,i2]):Turn P w K tg (Itz a b K l1 l2) [z,TI,TO,i1,i2] z (uG a b z TI TO i1 i2 l1 l2) where
 mem:=by simp
 obj:=fun i h x=>x.obj
 keep:=fun i h h' x k=>x.keep k
 item:=by
  intro X e1 e2 e3 hc i pins s σ H E I hf st go;subst e1;subst e2;subst e3;refine yG (zgC (I.ok.hd hc) hd n1 n2 I hf st go) fun r s2 ⟨u,x,H',q1,q2,q3,q4,q5,_,q6⟩=>⟨u,q1,zp_go hd q5 fun h' st' k=>⟨x,H',?_,q3,q4,st',q6⟩⟩;refine q2.turns (t':=s2.toks) (fp:=[z]) (fun c hcz=>?_) fun c o hcz e=>k c o (fun z=>hcz (by rw [z];simp)) e;rw [List.mem_singleton] at hcz;subst hcz;obtain ⟨_,f2,f3,f4,f5,f6⟩:=hf c (by simp);exact ⟨q6 c (by simp),f2,f3,f4,f5,f6⟩
 done:=by
  intro X e1 e2 e3 hc i pins s σ H E I hf st stop;subst e1;subst e2;subst e3;exact zgF (I.ok.hd hc) hd n1 n2 I hf st stop
 self:=fun A i s Q E st h=>zcG st h
end
end L2
namespace L3
open PySem PySem.Spec PyProof.Rows L2 PySem.SeqAt
def zipI (ws:List W) (G:Hw) (R:List W->(Hw->Prop)->Hw->Prop):Prop:=match ws with
 | [x,y]=>∃ xs ys,jJ G x=some xs/\jJ G y=some ys/\R (List.zipWith (fun a b=>W.tup [a,b]) xs ys) (fun G'=>jJ G' x=some xs/\jJ G' y=some ys) G
 |_=>False
theorem zcH:rN ⟨"zip", zipI⟩:=by
 intro ws G R R' k h;replace h:zipI ws G R:=h;show zipI ws G R';unfold zipI at h ⊢
 split at h
 .obtain ⟨xs,ys,e1,e2,h⟩:=h;exact ⟨xs,ys,e1,e2,k _ _ _ h⟩
 .exact h.elim
def bU (w:W):Bool:=match w with|.tup _=>true|_=>false
theorem vN {K:yJ} {H1 H:Hp} {G1 G:Hw} {w:W} {a:Addr} {vs:List V} {b:Bool} {xs:List W} (g:yI K H1 H) (ab:xS K H G) (r1:xJ K H1 w (.ref a)) (b1:jJ G1 w=some xs) (sq1:gK b K H1 a vs) (hb:b=bU w) (st:jJ G w=some xs) (rr1:zF K H1 xs vs) :
  ∃ vs',gK b K H a vs'/\zF K H xs vs':=by
 cases w with
 |tup ws =>
  subst hb;exact ⟨vs,g.1 _ _ sq1,rr1.mono g⟩
 |ref p =>
  subst hb;cases (show V.ref a=.ref p from r1);obtain ⟨vs',sq,rr⟩:=ab.seq st;exact ⟨vs',sq,rr⟩
 |_=>cases b1
theorem fX {K:yJ} {H:Hp} {G:Hw} {w:W} {v:V} {xs:List W} (ab:xS K H G) (r:xJ K H w v) (e:jJ G w=some xs):∃ a vs,v=.ref a/\gK (bU w) K H a vs/\zF K H xs vs:=by
 cases w with
 |tup ws =>
  obtain ⟨a,vs,rfl,sq,rr⟩:=r;cases e;exact ⟨a,vs,rfl,sq,rr⟩
 |ref p =>
  cases (show v=.ref p from r);obtain ⟨vs,sq,rr⟩:=ab.seq e;exact ⟨p,vs,rfl,sq,rr⟩
 |_=>cases e
theorem zkq {K:yJ} {H1:Hp} {G1:Hw} {x y:W} {a1 a2:Addr} {vx vy:List V} {xs ys:List W} (rx:xJ K H1 x (.ref a1)) (ry:xJ K H1 y (.ref a2)) (ex:jJ G1 x=some xs) (ey:jJ G1 y=some ys) (sx:gK (bU x) K H1 a1 vx) (sy:gK (bU y) K H1 a2 vy)
  (rrx:zF K H1 xs vx) (rry:zF K H1 ys vy):ItIs K (Itz (bU x) (bU y) K a1 a2) H1 (List.zipWith (fun a b=>W.tup [a,b]) xs ys) (fun G'=>jJ G' x=some xs/\jJ G' y=some ys) where
 go:=fun i H G g ab st hi=>by
  obtain ⟨vx',sx',rx'⟩:=vN g ab rx ex sx rfl st.1 rrx;obtain ⟨vy',sy',ry'⟩:=vN g ab ry ey sy rfl st.2 rry;have h1:=rx'.length;have h2:=ry'.length;rw [List.length_zipWith] at hi;exact ⟨vx',vy',vx'[i]'(by omega),vy'[i]'(by omega),sx',sy',List.getElem?_eq_getElem _,List.getElem?_eq_getElem _⟩
 yld:=fun i H G v H' g ab st hi yl=>by
  obtain ⟨vx',sx',rx'⟩:=vN g ab rx ex sx rfl st.1 rrx;obtain ⟨vy',sy',ry'⟩:=vN g ab ry ey sy rfl st.2 rry;obtain ⟨p,x',y',rfl,hp,rfl,e2,e3⟩:=yl;have e2:=e2 vx' sx';have e3:=e3 vy' sy';obtain ⟨wx,ewx,rpx⟩:=rx'.get' e2;obtain ⟨wy,ewy,rpy⟩:=ry'.get' e3;have gr:yI K H (xL H p (.tup [x',y'])):=xF hp;refine ⟨.tup [wx,wy],?_,gr,⟨p,[x',y'],rfl,.of wY,⟨_,_,rfl,rpx.mono gr,_,_,rfl,rpy.mono gr,rfl⟩⟩,ab.tup hp⟩;rw [List.getElem?_zipWith,ewx,ewy]
 stop:=fun i H G g ab st hi=>by
  obtain ⟨vx',sx',rx'⟩:=vN g ab rx ex sx rfl st.1 rrx;obtain ⟨vy',sy',ry'⟩:=vN g ab ry ey sy rfl st.2 rry;have h1:=rx'.length;have h2:=ry'.length;rw [List.length_zipWith] at hi;refine ⟨vx',vy',sx',sy',?_⟩
  by_cases hl:xs.length<=ys.length
  .left;rw [List.getElem?_eq_none];omega
  .right;rw [List.getElem?_eq_none];omega
theorem zkx {q:Pr} {A:Around} (hm:q.mg "zip" = none):ItE (q.at A) ⟨"zip", zipI⟩:=by
 intro X fits gl tg args t qp pos mt hn pa hnil hdb hnm;have hm':X.mg "zip" = none:=by rw [fits.mg];exact hm
 intro pins s σ H R I h
 cases args with
 |nil =>
  obtain ⟨σ3,G,hs,ab,h⟩:=h;exact (hnil rfl _ _ _ h).elim
 |cons a r =>
  obtain ⟨s1,s2⟩:=xO (env:=X.env) (pos:=pos) hn;obtain ⟨σ3,G,hs,ab,h⟩:=h
  have h':=pG (S:=fun vs H1=>∃ x y a1 a2 vx vy,vs=[.ref a1,.ref a2]/\gK (bU x) X.K H1 a1 vx/\gK (bU y) X.K H1 a2 vy/\R (Itz (bU x) (bU y) X.K a1 a2) H1) mt hs ab h fun ws G1 vs H1 g1 hs1 rs a1 h=>by
   dsimp only at h;unfold zipI at h
   split at h
   .rename_i x y;obtain ⟨v1,v2,rfl,r1,r2⟩:=zeP rs;obtain ⟨xs,ys,ex,ey,h⟩:=h;obtain ⟨p1,vx,rfl,sx,rx⟩:=fX a1 r1 ex;obtain ⟨p2,vy,rfl,sy,ry⟩:=fX a1 r2 ey;exact ⟨x,y,p1,p2,vx,vy,rfl,sx,sy,h _ H1 g1 a1 (zkq r1 r2 ex ey sx sy rx ry)⟩
   .exact h.elim
  refine Call_ (tL I gl hm' (by decide +kernel:bootBuiltins "zip" = some (.type "zip")) (PyProof.Rows.callWith_type1 (yG (pa pos pins s σ H _ I h') fun us s1 ⟨vs,H1,I1,r1,q1⟩=>?_) s1 s2));obtain ⟨x,y,a1,a2,vx,vy,e,sx,sy,q⟩:=q1;subst e;obtain ⟨u1,u2,rfl,ru1,ru2⟩:=zes r1;cases (show u1=Value.ref a1 from ru1);cases (show u2=Value.ref a2 from ru2);obtain ⟨itx,vvx,ssx,hzx⟩:=I1.sqB sx;obtain ⟨ity,vvy,ssy,hzy⟩:=I1.sqB sy
  have lt1:a1<s1.heap.objs.size:=by
   cases hb:bU x<;>rw [hb] at ssx<;>(obtain ⟨o,ho,_⟩:=ssx;exact Heap.lt_size ho)
  have lt2:a2<s1.heap.objs.size:=by
   cases hb:bU y<;>rw [hb] at ssy<;>(obtain ⟨o,ho,_⟩:=ssy;exact Heap.lt_size ho)
  refine zio ssx ssy fun h' z1 z2 z3 z4 z5 z6 z7=>?_;have I2:Inv X pins σ H1 { s1 with heap:=h',toks:=s1.toks }:=I1.kept z7;have hd:=zcu s1.heap.objs.size;have n1:=zb1 _ _ lt1;have n2:=zb1 _ _ lt2;have hf:∀ b∈[s1.heap.objs.size+4,s1.heap.objs.size+2,s1.heap.objs.size+3,s1.heap.objs.size,s1.heap.objs.size+1],vR X pins H1 b:=fun b hb=>I1.fpOk (zdP _ _ hb) (I1.hok.fresh (zdP _ _ hb));have st:uG (bU x) (bU y) (s1.heap.objs.size+4) (s1.heap.objs.size+2) (s1.heap.objs.size+3) s1.heap.objs.size (s1.heap.objs.size+1) a1 a2 0 h':=⟨.none,.bool false,z1,.inl rfl,.inl rfl,z2,⟨_,_,z3⟩,z4,z5⟩;refine zcG st ⟨_,_,_,_,H1,rfl,I2,zgB X.prog X.w X.K tg hd n1 n2,st,hf,q⟩
abbrev eZpi:It3:=⟨"zip", zipI⟩
theorem zh1 {q:Pr} {A:Around} (hm:q.mg "zip" = none):ItE (q.at A) eZpi/\rN eZpi:=⟨zkx hm,zcH⟩
section
variable {n : Nat} {p : Array Nat}
end
theorem dY {α:Type} (d:α) (l:List α):(List.range l.length).map (fun i=>l.getD i d)=l:=by
 apply List.ext_getElem
 .simp
 .intro i h1 h2;simp [h2]
mutual
def ltW:W->W->Option Bool
 | .str x,.str y=>some (decide (x.cps.toList<y.cps.toList))
 | .tup xs,.tup ys=>ltWs xs ys
 |_,_=>none
def ltWs:List W->List W->Option Bool
 | [],[]=>some false
 | [],_::_=>some true
 |_::_,[]=>some false
 |x::xs,y::ys=>if jM x y=true then ltWs xs ys else ltW x y
end
section
variable {X : Cx} {pins : List (Addr × Obj)} {σ : L2.St} {H : Hp} {s : Shared}
end
section
variable {prog : Program} {w : World} {A : Around} {E : Value → Shared → Prop} {s : Shared} {D : Addr} {vs : List Value} {κ : SortKind} {lt : Nat → Nat → Bool}
end
def ltB (x y:W):Bool:=(ltW x y).getD false
section
variable {prog : Program} {w : World} {A : Around} {s : Shared} {b fin v : Bool} {C : Bool → Shared → Prop}
end
section
variable {X : Cx} {pins : List (Addr × Obj)} {σ : L2.St} {H : Hp} {s : Shared}
end
end L3
namespace L3
open PySem PySem.Spec PyProof.Rows L2 PySem.SeqAt AutoSeq1
theorem zdS (l b:Addr) (xs ys:Array Value) (n n2:Nat) (od:Option Addr) (os:Array (Option Value)) (h0:¬(!xs.isEmpty&&Builtin.List.listTooLong (xs.size+ys.size))=true) (h1:xs.size<=sizeLine) (h2:xs.size+ys.size<=sizeLine+1) :
  Meets (Builtin.«list.extend» ⟨[.ref l,.ref b],[]⟩) (fun _ R s=>s.heap.get? l=some { cls:=.type "list", dict:=none,data:=.seq xs n,slots:=#[] }/\s.heap.get? b=some { cls:=.type "tuple", dict:=od,data:=.seq ys n2,slots:=os } /\
   R (.ok (.ret .none)) { s with heap:=s.heap.update l (Obj.mapSeq fun x=>x++ys) }) :=
 .of_wp fun pr wo ar R st h=>by
  obtain ⟨hp,g,d,tk,os'⟩:=st;obtain ⟨hl,hb,h⟩:=h;have f1:=idx_int;have ft:=AutoSeq1.sub_tuple_tuple;have fl:=AutoSeq1.sub_list_list;have fu:=AutoSeq1.sub_tuple_list;have fv:=AutoSeq1.sub_list_tuple;have hz:(xs++ys).size<=sizeLine+1:=by rw [Array.size_append];exact h2
  wp_walk using (wpAny_updateSeq hl rfl (hz:=h1) (_hz':=hz)),wpAny_loadPart' hl,wpAny_loadPart' hb
  exact ⟨_,rfl,h⟩
theorem zcv (l b:Addr) (xs ys:Array Value) (n n2:Nat) (od:Option Addr) (os:Array (Option Value)) (h0:¬(!xs.isEmpty&&Builtin.List.listTooLong (xs.size+ys.size))=true) (h1:xs.size<=sizeLine) (h2:xs.size+ys.size<=sizeLine+1) :
  Meets (Builtin.«list.extend» ⟨[.ref l,.ref b],[]⟩) (fun _ R s=>s.heap.get? l=some { cls:=.type "list", dict:=none,data:=.seq xs n,slots:=#[] }/\s.heap.get? b=some { cls:=.type "list", dict:=od,data:=.seq ys n2,slots:=os } /\
   R (.ok (.ret .none)) { s with heap:=s.heap.update l (Obj.mapSeq fun x=>x++ys) }) :=
 .of_wp fun pr wo ar R st h=>by
  obtain ⟨hp,g,d,tk,os'⟩:=st;obtain ⟨hl,hb,h⟩:=h;have f1:=idx_int;have ft:=AutoSeq1.sub_tuple_tuple;have fl:=AutoSeq1.sub_list_list;have fu:=AutoSeq1.sub_tuple_list;have fv:=AutoSeq1.sub_list_tuple;have hz:(xs++ys).size<=sizeLine+1:=by rw [Array.size_append];exact h2
  wp_walk using (wpAny_updateSeq hl rfl (hz:=h1) (_hz':=hz)),wpAny_loadPart' hl,wpAny_loadPart' hb
  exact ⟨_,rfl,h⟩
def extS:MS:=fun x ws G Q=>match x,ws with
 | .ref p,[.tup ys]=>(match G p with
  |some (.lst xs)=>xs.length+ys.length<=sizeLine/\Q .non (put G p (.lst (xs++ys)))
  |_=>False)
 | .ref p,[.ref q]=>∃ xs ys,G p=some (.lst xs)/\yS G q=some ys/\xs.length+ys.length<=sizeLine/\Q .non (put G p (.lst (xs++ys)))
 |_,_=>False
theorem zaD:∀ x ws G (Q Q':Q3),(∀ w G',Q w G'->Q' w G')->extS x ws G Q->extS x ws G Q':=by
 intro x ws G Q Q' k h;unfold extS at h ⊢
 split at h
 .split at h
  .exact ⟨h.1,k _ _ h.2⟩
  .exact h.elim
 .obtain ⟨xs,ys,e1,e2,h1,h⟩:=h;exact ⟨xs,ys,e1,e2,h1,k _ _ h⟩
 .exact h.elim
theorem zkP {X:Cx}:MtR X "list.extend" (lowM X.K extS):=by
 intro pins s σ H x xs v us Q I rx rxs h;obtain ⟨w,ws,G,rw1,rs,ab,h⟩:=h;unfold extS at h
 split at h
 .rename_i p ys;cases (show x=.ref p from rw1);cases (show v=Value.ref p from rx);obtain ⟨vy,rfl,ry⟩:=kZ rs;obtain ⟨b,vs2,rfl,sq,rr2⟩:=ry;obtain ⟨u,rfl,ru⟩:=qD rxs;cases (show u=Value.ref b from ru)
  split at h
  .rename_i zs e;obtain ⟨vs,ev,rr⟩:=ab.lst e;have gr:yI X.K H (xL H p (.lst (vs++vs2))):=ab.grow e;obtain ⟨z,its,n,r,hl,e1⟩:=I.lstM ev;obtain ⟨its2,r2,pt,hz2⟩:=I.tuple sq;obtain ⟨⟨oc,od,oda,os⟩,ho,hc,n2,hd⟩:=(show s.heap.IsTuple b its2.toArray from pt);simp only at hc hd;subst hc hd;have l1:=rr.length;have l2:=rr2.length;have l3:=r2.length;have hb:=h.1;have hsz:its.toArray.size+its2.toArray.size<=sizeLine:=by rw [zzS,zzS];omega
   have hlong:¬ (!its.toArray.isEmpty&&Builtin.List.listTooLong (its.toArray.size+its2.toArray.size))=true:=by
    rw [fK hsz,Bool.and_false];exact zzN
   refine call_meets F.slot_list_extend ⟨_,e1,rfl⟩ F.entry_list_extend (F.args_list_extend_2 _ _) (zdS p b its.toArray its2.toArray n n2 od os hlong (by rw [zzS];omega) (by omega)) ⟨e1,ho,?_⟩;refine ⟨.non,_,I.lset (its':=its++its2) ev e1 (by simp) (r.append r2) ?_,rfl,h.2 .non _ gr (show xJ X.K _ .non .non from rfl) (ab.chg e ⟨_,rfl,(rr.append rr2).mono gr⟩)⟩;rw [zzW];omega
  .exact h.elim
 .rename_i p q;cases (show x=.ref p from rw1);cases (show v=Value.ref p from rx);obtain ⟨vy,rfl,ry⟩:=kZ rs;cases (show vy=.ref q from ry);obtain ⟨u,rfl,ru⟩:=qD rxs;cases (show u=Value.ref q from ru);obtain ⟨zs,ys,e,e2,hb,h⟩:=h;obtain ⟨vs,ev,rr⟩:=ab.lst e;obtain ⟨vs2,sq,rr2⟩:=ab.seq e2;have gr:yI X.K H (xL H p (.lst (vs++vs2))):=ab.grow e;obtain ⟨z,its,n,r,hl,e1⟩:=I.lstM ev;obtain ⟨its2,r2,pt,hz2⟩:=I.list sq;obtain ⟨⟨oc,od,oda,os⟩,ho,hc,n2,hd⟩:=pt.isList;simp only at hc hd;subst hc hd;have l1:=rr.length;have l2:=rr2.length;have l3:=r2.length;have hsz:its.toArray.size+its2.toArray.size<=sizeLine:=by rw [zzS,zzS];omega
  have hlong:¬ (!its.toArray.isEmpty&&Builtin.List.listTooLong (its.toArray.size+its2.toArray.size))=true:=by
   rw [fK hsz,Bool.and_false];exact zzN
  refine call_meets F.slot_list_extend ⟨_,e1,rfl⟩ F.entry_list_extend (F.args_list_extend_2 _ _) (zcv p q its.toArray its2.toArray n n2 od os hlong (by rw [zzS];omega) (by omega)) ⟨e1,ho,?_⟩;refine ⟨.non,_,I.lset (its':=its++its2) ev e1 (by simp) (r.append r2) ?_,rfl,h .non _ gr (show xJ X.K _ .non .non from rfl) (ab.chg e ⟨_,rfl,(rr.append rr2).mono gr⟩)⟩;rw [zzW];omega
 .exact h.elim
abbrev eExt:Mt3:=⟨"extend", "list", extS⟩
theorem zib {q:Pr} {A:Around}:MtE (q.at A) eExt/\rO eExt:=⟨nU PySem.F.plainAttrs_list PySem.F.slot_list_extend PySem.F.type_list_extend (fun X f=>zkP) zaD,zaD⟩
end L3
namespace L3
open PySem PySem.Spec PyProof.Rows L2 PySem.SeqAt
structure KdS (prog:Program) (w:World) (α:Type) [DecidableEq α] where
 k:_root_.PySem.KeyKind prog w α
 vl:α->Tok->Value
 of:Value->α
 d:α
 is:∀ x t,k.is x (vl x t)=true
 sh:∀ {x v},k.is x v=true->∃ t,v=vl x t
 ofm:∀ x t,of (vl x t)=x
 sc:∀ x t,(vl x t).scannable=true
section
variable {α : Type} [DecidableEq α] {prog : Program} {w : World}
def tx (K:KdS prog w α) (e:Int×Value):α:=K.of e.2
end
section
variable {α : Type} [DecidableEq α] {prog : Program} {w : World} {K : KdS prog w α} {A : Around} {E : Value → Shared → Prop} {s : Shared} {S : Addr} {led : Bool}
end
section
variable {α : Type} [DecidableEq α] {prog : Program} {w : World} {K : KdS prog w α} {A : Around} {R : Result → Shared → Prop} {I : Addr} {fp wr : List Addr} {G : Array GenState → Array GenState → Prop} {n : Nat} {P : Nat → Value → Prop} {St : Nat → Shared → Prop} {S : Addr} {led : Bool}
end
section
variable {prog : Program} {w : World} {s : Shared} {A : Around} {E : Value → Shared → Prop}
end
namespace SI
end SI
section
variable {α : Type} [DecidableEq α] {prog : Program} {w : World} {K : KdS prog w α} {A : Around} {E : Value → Shared → Prop} {s : Shared} {I S : Addr} {first : Value} {i n ep : Nat} {led : Bool} {o : Obj} {es : Array (Int × Value)} {t : SetTable}
end
section
variable {α : Type} [DecidableEq α] {prog : Program} {w : World} {K : KdS prog w α} {A : Around} {I S T : Addr} {ep : Nat} {led : Bool} {o : Obj} {es : Array (Int × Value)} {t : SetTable}
end
section
variable {α : Type} [DecidableEq α] {prog : Program} {w : World} {K : KdS prog w α} {A : Around} {E : Value → Shared → Prop} {s : Shared} {S : Addr} {ep : Nat} {o : Obj} {es : Array (Int × Value)} {t : SetTable}
end
section
variable {α : Type} [DecidableEq α] {prog : Program} {w : World} {K : KdS prog w α} {A : Around} {E : Value → Shared → Prop} {s : Shared} {S : Addr} {ep : Nat} {o : Obj} {es : Array (Int × Value)} {t : SetTable}
end
section
variable {prog : Program} {w : World} {A : Around} {E : Value → Shared → Prop} {s : Shared}
end
section
variable {X : Cx}
theorem bI {K:yJ} {H:Hp}:∀ (ss:List Str),zF K H (ss.map .str) (ss.map .str)
 | []=>rfl
 |x::ss=>⟨.str x,_,rfl,rfl,bI ss⟩
end
end L3
namespace L3
open PySem PySem.Spec PyProof.Rows L2 PySem.SeqAt PySem.Builtin PySem.Builtin.Str
theorem zcU {prog:Program} {w:World} {A:Around} {E:Value->Shared->Prop} {s:Shared} {x y:Str} {t u:Tok} {Q:Value->Shared->Prop} (hy:(y.length==0)=false) (hsz:x.length<=sizeLine)
  (hsz2:(partsBetween x (occurrences x y 0 x.length (x.length+1)) y.length).length<=sizeLine)
  (hq:∀ l k,l.map (·.1)=Txt.split x y->Q (.ref s.heap.objs.size) { s with heap:=s.heap.push { cls:=.type "list", data:=.seq (strValues l).toArray },toks:=k }) :
  wpAny (model prog w) A (call (.builtin "str.split") [.str x t,.str y u]) Q E s:=by
 cases h1:(decide (x.length<y.length) || decide (strKind x<strKind y))
 .cases hf:(occurrences x y 0 x.length (x.length+1)).isEmpty
  .refine call_meets F.slot_str_split (typeIs_str _ _ _) F.entry_str_split (F.args_str_split_2 _ _) (meets_str_split_sep x y t u h1 hy hf hsz hsz2) ?_;show wants Q E _ { s with toks:=_,heap:=s.heap.push { cls:=.type "list", data:=.seq (strsFrom s.toks (partsBetween x (occurrences x y 0 x.length (x.length+1)) y.length)).toArray } };rw [strsFrom_eq];exact hq (numbered s.toks _) _ ((numbered_texts _ _).trans ((if_neg (ne_true_of_eq_false h1)).trans (if_neg (ne_true_of_eq_false hf))).symm)
  .exact call_meets F.slot_str_split (typeIs_str _ _ _) F.entry_str_split (F.args_str_split_2 _ _) (meets_str_split_not_found x y t u h1 hy hf) (hq [(x,t)] s.toks ((if_neg (ne_true_of_eq_false h1)).trans (if_pos hf)).symm)
 .exact call_meets F.slot_str_split (typeIs_str _ _ _) F.entry_str_split (F.args_str_split_2 _ _) (meets_str_split_cannot_occur x y t u h1) (hq [(x,t)] s.toks (if_pos h1).symm)
theorem bG (x y:Str):(Txt.split x y).length<=x.length+2:=by
 unfold Txt.split
 split
 .simp
 .split
  .simp
  .rw [length_partsBetween];have:=StrLaws.occ_length_le x y 0 x.length (x.length+1);omega
def pB:MS:=fun x ws G Q=>match x,ws with
 | .str x,[.str y]=>(y.length==0)=false/\x.length<=1000000/\∀ r,G r=none->Q (.ref r) (put G r (.lst ((Txt.split x y).map .str)))
 |_,_=>False
theorem mX:∀ x ws G (Q Q':Q3),(∀ w G',Q w G'->Q' w G')->pB x ws G Q->pB x ws G Q':=by
 intro x ws G Q Q' k h;unfold pB at h ⊢
 split at h
 .exact ⟨h.1,h.2.1,fun r hr=>k _ _ (h.2.2 r hr)⟩
 .exact h.elim
theorem gD:∀ (l:List (Str×Tok)),zE ((l.map (·.1)).map V.str) (strValues l)
 | []=>.nil
 | (x,t)::l=>.cons ⟨t,rfl⟩ (gD l)
theorem zeB {X:Cx}:MtR X "str.split" (lowM X.K pB):=by
 intro pins s σ H x xs v us Q I rx rxs h;obtain ⟨w,ws,G,rw1,rs,ab,h⟩:=h;unfold pB at h
 split at h
 .rename_i x' y;cases (show x=.str x' from rw1);obtain ⟨z,rfl,rz⟩:=kZ rs;cases (show z=.str y from rz);obtain ⟨u,rfl,ru⟩:=qD rxs;obtain ⟨t',rfl⟩:=ru;obtain ⟨t,rfl⟩:=rx;obtain ⟨hy,hx,h⟩:=h;have hl:=bG x' y;refine wB I.tk (zcU hy (by rw [sizeLine_eq];omega) (by rw [length_partsBetween,sizeLine_eq];have:=StrLaws.occ_length_le x' y 0 x'.length (x'.length+1);omega) fun l k e h0=>?_);have hn:H s.heap.objs.size=none:=I.hok.fresh (zzR _);refine ⟨.ref s.heap.objs.size,_,I.laid (o:=.lst ((Txt.split x' y).map .str)) (fun b ob q=>Heap.get?_push_of_some _ q) (zzR _) ⟨by rw [zzM,sizeLine_eq];omega,strValues l,0,by rw [← e];exact gD l,Heap.get?_push_size _ rfl⟩ h0,rfl,qL ab (bI _) h _ hn⟩
 .exact h.elim
abbrev zb3:Mt3:=⟨"split", "str", pB⟩
theorem zdY {q:Pr} {A:Around}:MtE (q.at A) zb3/\rO zb3:=⟨nU PySem.F.plainAttrs_str PySem.F.slot_str_split PySem.F.type_str_split (fun X f=>zeB) mX,mX⟩
end L3
namespace L2
open PySem
theorem zgG {α:Type} {M:Model} {Γ:Ctx}:∀ (t:Sem α) (p:Pos) (s:Shared),¬ Sem.wp M Γ t (fun _ _ _=>False) (fun _ _ _=>False) p s:=by
 intro t
 induction t with
 |pure a=>intro p s z;rw [Sem.wp] at z;exact z
 |raise e=>intro p s z;rw [Sem.wp] at z;exact z
 |unsupported _=>intro p s z;rw [Sem.wp] at z;exact z
 |finish _=>intro p s z;rw [Sem.wp] at z;exact z
 |register _ _ _=>intro p s z;rw [Sem.wp] at z;exact z
 | «yield» _ _ _ _ _=>intro p s z;rw [Sem.wp] at z;exact z
 |load a part k ih=>intro p s z;rw [Sem.wp] at z;obtain ⟨o,e,z⟩:=z;exact ih o p s z
 |update a part f k ih=>intro p s z;rw [Sem.wp] at z;exact ih () p _ z.2
 |fresh k ih=>intro p s z;rw [Sem.wp] at z;exact ih _ p _ z
 |choose src m k ih=>intro p s z;rw [Sem.wp] at z;exact ih _ p _ z.2
 |genState g k ih=>intro p s z;rw [Sem.wp] at z;obtain ⟨st,e,z⟩:=z;exact ih _ p s z
 |resume g r l k ih=>intro p s z;rw [Sem.wp] at z;obtain ⟨res,s',w,z⟩:=z;exact ih _ p s' z
 |call c hd g l k ih=>intro p s z;rw [Sem.wp] at z;obtain ⟨r,s',w,z⟩:=z;exact ih _ p s' z
 |_=>first|(intro p s z;rw [Sem.wp] at z;exact z.elim)|(rename_i ih;intro p s z;rw [Sem.wp] at z;exact ih _ _ _ z)
theorem cN {α β:Type} {M:Model} {A:Around} {t:Sem α} {s:Shared} (h:wpAny M A t (fun _ _=>False) (fun _ _=>False) s) {u:Sem β} {Q:β->Shared->Prop} {E:Value->Shared->Prop}:wpAny M A u Q E s:=fun Γ p hΓ=>(zgG t p s (h Γ p hΓ)).elim
end L2
namespace L3
open PySem PySem.Spec PyProof.Rows L2 PySem.SeqAt PySem.Builtin PySem.Builtin.Str
theorem za5 {K:yJ} {h:Heap} (X:K.In h) (lim:h.NoLimit) (e:PySem.W.nsIn K cStatics sharingNotToldKey=some none):NoneBooked h:=by
 obtain ⟨mc,hn,_⟩:=lim;exact ⟨mc,hn,PySem.W.ns_none_of X hn e⟩
theorem Inv.lim {X:Cx} {pins:List (Addr×Obj)} {σ:L2.St} {H:Hp} {s:Shared} (I:Inv X pins σ H s):s.heap.NoLimit:=I.ok.mod.nolimit.keeps I.bk
def Ev2 (X:Cx) (e2:Expr) (t2:TE):Prop:=∀ (pins:List (Addr×Obj)) (s:Shared) (σ:L2.St) (H:Hp) (Q:VK) (k:Nat),k<s.toks->Inv X pins σ H s->t2 σ H Q ->
 wpAny (model X.prog X.w) X.A (eval e2 X.env) (fun v s'=>∃ b t' H',v=.str b t'/\k<t'/\Inv X pins σ H' s'/\Q (.str b) H') X.xe s
theorem zh0 {X:Cx} {b:Str} {j:Nat} {p:Pos}:Ev2 X (.Constant (.str b) j p) (fun _ H Q=>Q (.str b) H):=fun pins s σ H Q k hk I h=>Calls.Constant_str ⟨b,s.toks,H,rfl,hk,I.tok _,h⟩
theorem zhw {prog:Program} {w:World} {A:Around} {E:Value->Shared->Prop} {s:Shared} {env:Env} {o:Expr} {nm:Str} {ap cp:Pos} {es:List Expr} {ts:List (Bool×Sem Value)} {Q:Value->Shared->Prop}
  (hb:attributeBase o nm env (eval o env)=eval o env) (hf:methodCallForm (es.length+([]:List Keyword).length) (backTo cp (starEach es env)) (backToKw cp (keywordEach [] env))=true) (hl:(ap.endLine==cp.line)=true) (ht:backTo cp (starEach es env)=ts)
  (h:wpAny (model prog w) A (eval o env) (fun v s1=>MethodOn prog w A nm cp v ts Q E s1\/∃ t:Sem Value,wpAny (model prog w) A t (fun _ _=>False) (fun _ _=>False) s1) E s):wpAny (model prog w) A (eval (.Call (.Attribute o nm ap) es [] cp) env) Q E s:=by
 subst ht;rw [arm_eval_Call,hb];refine wpAny_bind (yG h fun v s1 z=>?_);rcases z with ⟨T,id,a1,a2,a3,a4,a5,a6⟩|⟨t,z⟩
 .have e:methodCallPos true o env ap cp=pure cp:=by unfold methodCallPos;simp [hl]
  refine wpAny_bind (wpAny_standAt ?_);unfold methodCall;rw [hf];exact wpAny_bind (wpAny_holding (getMethod_builtin a4 a1 a2 a3 a5 (wpAny_bind (wpAny_of_eq e a6))))
 .exact cN z
def Dead (X:Cx) (σ:L2.St) (H:Hp):Prop:=∀ (pins:List (Addr×Obj)) (s:Shared),Inv X pins σ H s->∃ t:Sem Value,wpAny (model X.prog X.w) X.A t (fun _ _=>False) (fun _ _=>False) s
def tRep (X:Cx) (a:Str) (to t2:TE):TE:=fun σ H Q=>to σ H fun x H1=>(∃ y,x=.str y/\t2 σ H1 fun z H2=>∃ b,z=.str b/\y.length+(y.length+1) * b.length<=16777216/\Q (.str (Txt.replace y a b)) H2)\/Dead X σ H1
theorem zjA {X:Cx} {o e2:Expr} {a:Str} {j:Nat} {p1 apos cpos:Pos} {to t2:TE} (hb:PySem.W.nsIn X.K cStatics sharingNotToldKey=some none) (ho:PE X o to) (h2:Ev2 X e2 t2) (hn:xH e2=true)
  (hbase:attributeBase o "replace" X.env (eval o X.env)=eval o X.env) (hline:(apos.endLine==cpos.line)=true):PE X (.Call (.Attribute o "replace" apos) [.Constant (.str a) j p1,e2] [] cpos) (tRep X a to t2):=by
 intro pins s σ H Q I h;have hs:=dC (args:=[.Constant (.str a) j p1,e2]) (env:=X.env) (pos:=cpos) (by show (true&&(xH e2&&true))=true;rw [hn];rfl)
 have tr:backTo cpos (starEach [.Constant (.str a) j p1,e2] X.env)=[(false,eval (.Constant (.str a) j p1) X.env),(false,eval e2 X.env)]:=by
  cases e2<;>first|rfl|cases hn
 refine zhw hbase (by unfold methodCallForm;rw [hs];rfl) hline tr (yG (ho pins s σ H _ I h) fun v s1 ⟨x,H1,I1,r1,q1⟩=>?_);refine q1.elim (fun ⟨y,ey,qy⟩=>?_) fun dd=>.inr (dd pins s1 I1);subst ey;obtain ⟨t,rfl⟩:=r1;refine .inl ⟨"str", "str.replace", PySem.F.plainAttrs_str,PySem.F.slot_str_replace,PySem.F.type_str_replace,typeIs_str _ _ _,fun b z=>(nomatch z),?_⟩;refine Calls.callWith_builtin rfl (Calls.evalArgs_plain (Calls.spliced_cons (Calls.Constant_str ?_)));refine Calls.spliced_cons (yG (h2 pins { s1 with toks:=s1.toks+1 } σ H1 _ s1.toks (Nat.lt_succ_self _) (I1.tok _) qy) fun v2 s2 ⟨b,t',H2,e2',lt,I2,b',eb,hl,q2⟩=>Calls.spliced_nil ?_);subst e2';cases eb;have k0:=I1.tk;exact wB I2.tk (SC.replaceA (Nat.ne_of_gt k0) (Nat.ne_of_gt (Nat.lt_trans k0 lt)) (Nat.ne_of_lt lt) hl (fun t' k h0=>⟨.str (Txt.replace y a b),H2,I2.tok _ h0,⟨t',rfl⟩,q2⟩) (za5 I2.kIn (Inv.lim I2) hb))
def uJ (a b:Str):Scope->Expr->Option (List Expr):=fun _ e=>match e with
 | .Call (.Attribute o m apos) [.Constant (.str x) _ _,.Constant (.str y) _ _] [] cpos=>if (m==("replace" : Str)&&x==a&&y==b&&mH o&&apos.endLine==cpos.line)=true then some [o] else none
 |_=>none
theorem zeN {a b:Str} {sc:Scope} {e:Expr} {xs:List Expr} (h:uJ a b sc e=some xs):∃ o apos cpos j p k q,xs=[o]/\e=.Call (.Attribute o "replace" apos) [.Constant (.str a) j p,.Constant (.str b) k q] [] cpos/\mH o=true/\(apos.endLine==cpos.line)=true:=by
 unfold uJ at h
 split at h
 .rename_i o m apos x j p y k q cpos
  by_cases hb:(m==("replace" : Str)&&x==a&&y==b&&mH o&&apos.endLine==cpos.line)=true
  .rw [if_pos hb] at h;cases h;simp only [Bool.and_eq_true,beq_iff_eq] at hb;obtain ⟨⟨⟨⟨rfl,rfl⟩,rfl⟩,h1⟩,h2⟩:=hb;exact ⟨o,apos,cpos,j,p,k,q,rfl,rfl,h1,by rw [h2];exact beq_self_eq_true _⟩
  .rw [if_neg hb] at h;cases h
 .cases h
def rD (a b:Str):RS:=fun ws G Q=>match ws with
 | [.str y]=>y.length+(y.length+1) * b.length<=16777216/\Q (.str (Txt.replace y a b)) G
 |_=>False
theorem vZ {a b:Str}:jN (rD a b):=by
 intro ws G Q Q' k h;unfold rD at h ⊢
 split at h
 .exact ⟨h.1,k _ _ h.2⟩
 .exact h.elim
theorem gF {q:Pr} {A:Around} {a b:Str} (hb:PySem.W.nsIn q.K cStatics sharingNotToldKey=some none):SxE (q.at A) ⟨uJ a b,rD a b⟩:=by
 intro X fits e xs es he each hn pa;obtain ⟨o,apos,cpos,j,p,k,q',rfl,rfl,h1,h2⟩:=zeN (sc:=X.env.scope) he
 cases es with
 |nil=>exact each.elim
 |cons e0 r =>
  obtain ⟨mo,po,er⟩:=each
  cases r with
  |cons _ _=>exact er.elim
  |nil =>
   refine ⟨fun pins s σ H Q I h=>?_,fun _=>rfl,fun _ _ _ z=>nomatch z⟩;refine zjA (by rw [show X.K=q.K from fits.K];exact hb) po zh0 rfl (kT h1) h2 pins s σ H Q I ?_;obtain ⟨σ3,G,hs,ab,h⟩:=h;refine yE mo hs ab h fun w G1 v H1 g1 hs1 rw1 a1 h=>?_;dsimp only [sB] at h;unfold rD at h
   split at h
   .rename_i y e;cases e;cases (show v=.str y from rw1);exact .inl ⟨y,rfl,b,rfl,h.1,h.2 _ H1 g1 rfl a1⟩
   .exact h.elim
def bX:List (Option Str)->List Expr->Option (List Expr)
 | [],[]=>some []
 |some a::ps,.Constant (.str b) _ _::vs=>if a==b then bX ps vs else none
 |none::ps,.FormattedValue v c sp _::vs=>if (c==-1&&sp.isNone)=true then (bX ps vs).map (v::·) else none
 |_,_=>none
def uH:List (Option Str)->List Str->Str
 | [],_=>Str.empty
 |some a::ps,ts=>a++uH ps ts
 |none::ps,t::ts=>t++uH ps ts
 |none::ps,[]=>uH ps []
def fstM (ps:List (Option Str)):Scope->Expr->Option (List Expr):=fun _ e=>match e with
 | .JoinedStr (a::b::r) _=>bX ps (a::b::r)
 |_=>none
theorem zfB {ps:List (Option Str)} {sc:Scope} {e:Expr} {xs:List Expr} (h:fstM ps sc e=some xs):∃ a b r p,e=.JoinedStr (a::b::r) p/\bX ps (a::b::r)=some xs:=by
 unfold fstM at h
 split at h
 .exact ⟨_,_,_,_,rfl,h⟩
 .cases h
def zi8 (env:Env):List Expr->Sem Unit
 | []=>pure ()
 |x::xs=>eval x env >>= fun _=>zi8 env xs
theorem fW {X:Cx} (hx:X.xe=fun _ _=>False):∀ (xs:List Expr) (es:List E3) (pins:List (Addr×Obj)) (s:Shared) (τ:L2.St) (H:Hp) (σ:jE) (G:Hw),mD X xs es->Inv X pins τ H s->yK X.K H σ τ->xS X.K H G->sB es σ G (fun _ _=>False) ->
  wpAny (model X.prog X.w) X.A (zi8 X.env xs) (fun _ _=>False) (fun _ _=>False) s
 | [],[],_,_,_,_,_,_,_,_,_,_,h=>h.elim
 | [],_::_,_,_,_,_,_,_,e,_,_,_,_=>e.elim
 |_::_,[],_,_,_,_,_,_,e,_,_,_,_=>e.elim
 |x::xs,e::es,pins,s,τ,H,σ,G,⟨m,pe,r⟩,I,hs,ab,h=>by
  have w:=pe pins s τ H (fun v H1=>∃ G1,yK X.K H1 σ τ/\xS X.K H1 G1/\sB es σ G1 (fun _ _=>False)) I (yE m hs ab h fun w G1 v H1 g1 hs1 rw1 a1 h=>⟨G1,hs1,a1,wG r σ G1 _ _ (fun _ _ z=>z) h⟩);rw [hx] at w;exact wpAny_bind (yG w fun v s1 ⟨_,H1,I1,_,G1,hs1,a1,h1⟩=>fW hx xs es pins s1 τ H1 σ G1 r I1 hs1 a1 h1)
theorem zem (a b c:Str):a++b++c=a++(b++c):=by
 show (⟨(a.cps++b.cps)++c.cps⟩:Str)=⟨a.cps++(b.cps++c.cps)⟩;rw [Array.append_assoc]
theorem zel (a:Str):a++Str.empty=a:=by
 show (⟨a.cps++#[]⟩:Str)=a;rw [Array.append_empty]
theorem zkS (a:Str):Str.empty++a=a:=by
 show (⟨#[]++a.cps⟩:Str)=a;rw [Array.empty_append]
def FstK (X:Cx) (ps:List (Option Str)) (acc:Str) (H:Hp) (Q:VK) (ws:List W) (G':Hw):Prop:=∃ ts:List Str,ws=ts.map .str/\acc.length+(uH ps ts).length<=1000000/\∀ H',yI X.K H H'->xS X.K H' G'->Q (.str (acc++uH ps ts)) H'
theorem zdN {X:Cx} (hx:X.xe=fun _ _=>False):∀ (ps:List (Option Str)) (vs xs:List Expr) (es:List E3) (acc:Str) (pins:List (Addr×Obj)) (s:Shared) (τ:L2.St) (H:Hp) (σ:jE) (G:Hw) (Q:VK),bX ps vs=some xs->mD X xs es->Inv X pins τ H s->yK X.K H σ τ->xS X.K H G ->
  sB es σ G (FstK X ps acc H Q)->Joins (model X.prog X.w) X.A X.xe (evalEach vs X.env) acc (fun out s1=>out.length<=sizeLine/\EP X pins τ Q (.str out s1.toks) { s1 with toks:=s1.toks+1 }) s:=by
 intro ps
 induction ps with
 |nil =>
  intro vs xs es acc pins s τ H σ G Q hp each I hs ab h
  cases vs with
  |cons _ _=>cases hp
  |nil =>
   cases hp
   cases es with
   |cons _ _=>exact each.elim
   |nil =>
    obtain ⟨ts,e,l,q⟩:=h;have q:=q H .refl ab;dsimp only [uH] at q l;rw [zel] at q;exact ⟨by rw [sizeLine_eq];omega,.str acc,H,I.tok _,⟨_,rfl⟩,q⟩
 |cons p ps ih =>
  intro vs xs es acc pins s τ H σ G Q hp each I hs ab h
  cases p with
  |some a =>
   obtain ⟨j,po,vs',rfl,hq⟩:∃ j po vs',vs=.Constant (.str a) j po::vs'/\bX ps vs'=some xs:=by
    unfold bX at hp
    split at hp
    .rename_i e;cases e
    .rename_i b j po vs' e;cases e
     split at hp
     .rename_i e;cases eq_of_beq e;exact ⟨_,_,_,rfl,hp⟩
     .cases hp
    .rename_i e;cases e
    .cases hp
   show wpAny _ _ (eval (.Constant (.str a) j po) X.env) _ _ s
   by_cases hl:acc.length+a.length<=1000000
   .refine Calls.Constant_str ⟨a,_,rfl,by rw [strLen_append,sizeLine_eq];omega,ih vs' xs es (acc++a) pins _ τ H σ G Q hq each (I.tok _) hs ab (wG each σ G _ _ (fun ws G' z=>?_) h)⟩;obtain ⟨ts,e,l,q⟩:=z;dsimp only [uH] at l q;rw [strLen_append] at l;exact ⟨ts,e,by rw [strLen_append];omega,fun H' g a'=>by rw [zem];exact q H' g a'⟩
   .refine cN (fW hx xs es pins s τ H σ G each I hs ab (wG each σ G _ _ (fun ws G' z=>?_) h));obtain ⟨ts,e,l,q⟩:=z;dsimp only [uH] at l;rw [strLen_append] at l;omega
  |none =>
   obtain ⟨v,po,vs',xs',rfl,rfl,hq⟩:∃ v po vs' xs',vs=.FormattedValue v (-1) none po::vs'/\xs=v::xs'/\bX ps vs'=some xs':=by
    unfold bX at hp
    split at hp
    .rename_i e;cases e
    .rename_i e;cases e
    .rename_i v c sp po vs' e;cases e
     split at hp
     .rename_i e;simp only [Bool.and_eq_true,beq_iff_eq,Option.isNone_iff_eq_none] at e;obtain ⟨rfl,rfl⟩:=e
      cases hq:bX ps vs' with
      |none=>rw [hq] at hp;cases hp
      |some ys=>rw [hq] at hp;cases hp;exact ⟨_,_,_,_,rfl,rfl,hq⟩
     .cases hp
    .cases hp
   cases es with
   |nil=>exact each.elim
   |cons e es =>
    obtain ⟨m,pe,r⟩:=each;show wpAny _ _ (eval (.FormattedValue v (-1) none po) X.env) _ _ s
    refine wpAny_FormattedValue_plain (yG (pe pins s τ H (fun v' H1=>∃ w G1,xJ X.K H1 w v'/\yK X.K H1 σ τ/\xS X.K H1 G1/\yI X.K H H1/\sB es σ G1 fun ws G'=>FstK X (none::ps) acc H Q (w::ws) G') I
     (yE m hs ab h fun w G1 v' H1 g1 hs1 rw1 a1 h=>⟨w,G1,rw1,hs1,a1,g1,h⟩)) fun u s1 ⟨v',H1,I1,ru,w,G1,rw1,hs1,a1,g1,h1⟩=>?_)
    by_cases hw:∃ y,w=.str y/\acc.length+y.length<=1000000
    .obtain ⟨y,rfl,hl⟩:=hw;cases (show v'=.str y from rw1);obtain ⟨t,rfl⟩:=ru;have hy:y.length<=sizeLine:=by rw [sizeLine_eq];omega
     have go:∀ s2,Inv X pins τ H1 s2->Joins (model X.prog X.w) X.A X.xe (evalEach vs' X.env) (acc++y) (fun out s1=>out.length<=sizeLine/\EP X pins τ Q (.str out s1.toks) { s1 with toks:=s1.toks+1 }) s2:=fun s2 I2 =>
      ih vs' xs' es (acc++y) pins s2 τ H1 σ G1 Q hq r I2 hs1 a1 (wG r σ G1 _ _ (fun ws G' z=>by
       obtain ⟨ts,e,l,q⟩:=z
       cases ts with
       |nil=>cases e
       |cons t ts =>
        rw [zzU] at e
        injection e with e1 e2
        cases e1;dsimp only [uH] at l q;rw [strLen_append] at l;exact ⟨ts,e2,by rw [strLen_append];omega,fun H' g a'=>by rw [zem];exact q H' (g1.trans g) a'⟩) h1)
     have hz:(acc++y).length<=sizeLine:=by rw [strLen_append,sizeLine_eq];omega
     exact wpAny_formatField_str ⟨y,_,rfl,hz,go s1 I1⟩ ⟨y,_,rfl,hz,go _ (I1.tok _)⟩ hy
    .refine cN (fW hx xs' es pins s1 τ H1 σ G1 r I1 hs1 a1 (wG r σ G1 _ _ (fun ws G' z=>hw ?_) h1));obtain ⟨ts,e,l,q⟩:=z
     cases ts with
     |nil=>cases e
     |cons t ts =>
      rw [zzU] at e
      injection e with e1 e2
      dsimp only [uH] at l;rw [strLen_append] at l;exact ⟨t,e1,by omega⟩
def fstS (ps:List (Option Str)):RS:=fun ws G Q=>∃ ts:List Str,ws=ts.map .str/\(uH ps ts).length<=1000000/\Q (.str (uH ps ts)) G
theorem zaA {ps:List (Option Str)}:jN (fstS ps):=fun ws G Q Q' k ⟨ts,e,l,h⟩=>⟨ts,e,l,k _ _ h⟩
theorem zfW {q:Pr} {A:Around} {ps:List (Option Str)}:SxE (q.at A) ⟨fstM ps,fstS ps⟩:=by
 intro X fits e xs es he each hn pa;obtain ⟨a,b,r,p,rfl,he⟩:=zfB (sc:=X.env.scope) he;refine ⟨fun pins s τ H Q I h=>?_,fun _=>rfl,fun _ _ _ z=>nomatch z⟩;obtain ⟨σ,G,hs,ab,h⟩:=h;refine wpAny_JoinedStr (zdN fits.xe ps _ xs es Str.empty pins s τ H σ G Q he each I hs ab (wG each σ G _ _ (fun ws G' z=>?_) h));obtain ⟨ts,e,l,q⟩:=z;exact ⟨ts,e,by rw [show Str.empty.length=0 from rfl];omega,fun H' g a'=>by rw [zkS];exact q _ H' g rfl a'⟩
def pE (c:Nat):List Nat->List (List Nat)
 | []=>[[]]
 |k::r=>if k=c then []::pE c r else match pE c r with
  |h::t=>(k::h)::t
  | []=>[[k]]
theorem zgw (c:Nat):∀ l,pE c l≠[]
 | []=>by simp [pE]
 |k::r=>by
  unfold pE
  split
  .simp
  .split<;>simp
theorem pI {c:Nat}:∀ {l:List Nat},c∉l->pE c l=[l]
 | [],_=>rfl
 |k::r,h=>by
  simp only [List.mem_cons,not_or] at h;unfold pE;rw [if_neg (Ne.symm h.1),pI h.2]
theorem zbi {c:Nat}:∀ (a b:List Nat),pE c (a++c::b)=pE c a++pE c b
 | [],b=>by show pE c (c::b)=[[]]++pE c b;rw [pE,if_pos rfl];rfl
 |k::a,b=>by
  show pE c (k::(a++c::b))=pE c (k::a)++pE c b;rw [pE,zbi a b,pE]
  split
  .rfl
  .cases h:pE c a with
   |nil=>exact absurd h (zgw c a)
   |cons x t=>rfl
theorem zb5 {c:Nat}:∀ (ps:List Str),ps≠[]->(∀ p∈ps,c∉p.cps.toList)->pE c (Str.join ⟨#[c]⟩ ps).cps.toList=ps.map (·.cps.toList)
 | [],h,_=>absurd rfl h
 | [p],_,h=>pI (h p zzT)
 |p::q::r,_,h=>by
  have ih:=zb5 (q::r) (by simp) fun a ha=>h a (List.mem_cons_of_mem _ ha);show pE c (p++⟨#[c]⟩++Str.join ⟨#[c]⟩ (q::r)).cps.toList=_;rw [Str.cps_append,Str.cps_append,Array.toList_append,Array.toList_append,List.append_assoc];show pE c (p.cps.toList++c::(Str.join ⟨#[c]⟩ (q::r)).cps.toList)=_;rw [zbi,ih,pI (h p zzT)];rfl
theorem zeC (x:Str) (c:Nat):Txt.split x ⟨#[c]⟩≠[]:=by
 unfold Txt.split
 split
 .simp
 .split
  .simp
  .intro h;have:=congrArg List.length h;rw [length_partsBetween] at this;simp at this
theorem bF (x:Str) (c:Nat):(Txt.split x ⟨#[c]⟩).map (·.cps.toList)=pE c x.cps.toList:=by
 have h:=zb5 (c:=c) (Txt.split x ⟨#[c]⟩) (zeC x c) (StrLaws.split_free x c);rw [StrLaws.join_split] at h;exact h.symm
theorem zcS {a b:Str} (h:a.cps.toList=b.cps.toList):a=b:=Str.ext' (Array.toList_inj.mp h)
theorem zeE (x:Str) (c:Nat):Txt.split x ⟨#[c]⟩=(pE c x.cps.toList).map fun l=>⟨l.toArray⟩:=by
 rw [← bF,List.map_map]
 conv=>lhs;rw [← List.map_id (Txt.split x ⟨#[c]⟩)]
 exact List.map_congr_left fun a _=>by simp
def wd (l:List Nat):List (List Nat):=(pE 32 l).filter fun w=>!w.isEmpty
theorem zfP:wd []=[]:=rfl
theorem jB (a b:List Nat):wd (a++32::b)=wd a++wd b:=by unfold wd;rw [zbi,List.filter_append]
theorem zcJ (b:List Nat):wd (32::b)=wd b:=jB [] b
theorem zgI {l:List Nat} (h:32∉l):wd l=if l.isEmpty then [] else [l]:=by
 unfold wd;rw [pI h];cases l<;>rfl
theorem sZ:∀ (n:Nat) (b:List Nat),wd (List.replicate n 32++b)=wd b
 | 0,_=>rfl
 |n+1,b=>by rw [List.replicate_succ];exact (zcJ _).trans (sZ n b)
theorem ziD:∀ (n:Nat) (a:List Nat),wd (a++List.replicate n 32)=wd a
 | 0,a=>by simp
 |n+1,a=>by rw [List.replicate_succ,jB,show List.replicate n 32=List.replicate n 32++[] by simp,sZ,zfP,List.append_nil]
theorem ziE (n:Nat) (a b:List Nat):wd (a++(List.replicate (n+1) 32++b))=wd a++wd b:=by
 rw [List.replicate_succ];show wd (a++32::(List.replicate n 32++b))=_;rw [jB,sZ]
end L3
namespace L3
open PySem PySem.Spec PyProof.Rows L2 PySem.SeqAt PySem.Builtin PySem.Builtin.Str PySem.StrLaws
inductive Rp (y z:List Nat):List Nat->List Nat->Prop where
 |nil:Rp y z [] []
 |hit {r s:List Nat}:Rp y z r s->Rp y z (y++r) (z++s)
 |skip {k:Nat} {r s:List Nat}:¬ y <+: k::r->Rp y z r s->Rp y z (k::r) (k::s)
theorem Rp.det {y z:List Nat} (hy:y≠[]):∀ {x s s':List Nat},Rp y z x s->Rp y z x s'->s=s':=by
 intro x s s' h
 induction h generalizing s' with
 |nil =>
  intro h';generalize e:([]:List Nat)=x at h'
  cases h' with
  |nil=>rfl
  |hit _=>exact absurd (List.append_eq_nil_iff.mp e.symm).1 hy
  |skip _ _=>cases e
 | @hit r s _ ih =>
  intro h';generalize e:y++r=x at h'
  cases h' with
  |nil=>exact absurd (List.append_eq_nil_iff.mp e).1 hy
  |hit h2=>rw [List.append_cancel_left e] at ih;rw [ih h2]
  |skip n _=>exact absurd ⟨r,e⟩ n
 | @skip k r s n _ ih =>
  intro h';generalize e:k::r=x at h'
  cases h' with
  |nil=>cases e
  |hit h2=>exact absurd ⟨_,e.symm⟩ n
  |skip n2 h2=>cases e;rw [ih h2]
theorem cR (x y:Str) (i:Nat) (hi:i<=x.length):At x y x.length i↔y.cps.toList <+: x.cps.toList.drop i:=by
 unfold At;rw [subAt_eq,beq_iff_eq]
 constructor
 .intro h;exact ⟨_,by rw [← h.2];exact List.take_append_drop _ _⟩
 .rintro ⟨t,e⟩;rw [← e];have l:=congrArg List.length e;rw [zzW,List.length_drop] at l;have ly:y.cps.toList.length=y.length:=by simp [Str.length]
  have lx:x.cps.toList.length=x.length:=by simp [Str.length]
  refine ⟨by omega,?_⟩;rw [← ly,List.take_left]
theorem vW (x:Str):x.cps.toList.length=x.length:=by simp [Str.length]
theorem za2 {y z:List Nat} {x:List Nat} {s:List Nat}:∀ (n a:Nat),a+n<=x.length->(∀ k,a<=k->k<a+n->¬ y <+: x.drop k)->Rp y z (x.drop (a+n)) s->Rp y z (x.drop a) ((x.drop a).take n++s)
 | 0,a,_,_,h=>by simpa using h
 |n+1,a,hl,hn,h=>by
  have ih:=za2 n (a+1) (by omega) (fun k h1 h2=>hn k (by omega) (by omega)) (by rw [show a+1+n=a+(n+1) by omega];exact h);have e:x.drop a=x[a]::x.drop (a+1):=by rw [List.drop_eq_getElem_cons (by omega)]
  rw [e,List.take_succ_cons];refine .skip ?_ ih;rw [← e];exact hn a (zzR _) (by omega)
theorem zfZ {y z:List Nat} (hy:y≠[]) {x:List Nat} {a:Nat} (ha:a<=x.length) (hn:∀ k,a<=k->k<x.length->¬ y <+: x.drop k):Rp y z (x.drop a) (x.drop a):=by
 have:=za2 (z:=z) (s:=[]) (x.length-a) a (by omega) (fun k h1 h2=>hn k h1 (by omega)) (by rw [show a+(x.length-a)=x.length by omega,List.drop_length];exact .nil)
 rwa [List.append_nil,List.take_of_length_le (by rw [List.length_drop];omega)] at this
theorem zbE {x y z:Str} (hy:y.cps.toList≠[]):∀ (cuts:List Nat) (a f:Nat),a<=x.length->ChainG x y x.length a cuts f->(∀ k,f<=k->¬ At x y x.length k)->Rp y.cps.toList z.cps.toList (x.cps.toList.drop a) (Str.join z (partsFrom x y.length a cuts)).cps.toList
 | [],a,f,ha,hc,hn=>by
  have e:f=a:=hc;subst e;show Rp _ _ _ (strSub x f x.length).cps.toList;rw [strSub_toList,← vW x,List.take_of_length_le (by rw [List.length_drop];exact zzR _)];exact zfZ hy (by rw [vW];exact ha) fun k h1 h2 z=>hn k h1 ((cR x y k (by rw [vW] at h2;omega)).mpr z)
 |c::r,a,f,ha,hc,hn=>by
  obtain ⟨h1,h2,h3,h4⟩:=hc;have hcl:c+y.length<=x.length:=h2.1;have ih:=zbE (z:=z) hy r (c+y.length) f hcl h4 hn;obtain ⟨p,q,e⟩:=partsFrom_ne x y.length (c+y.length) r
  have ej:Str.join z (partsFrom x y.length a (c::r))=strSub x a c++z++Str.join z (partsFrom x y.length (c+y.length) r):=by
   show Str.join z (strSub x a c::partsFrom x y.length (c+y.length) r)=_;rw [e];rfl
  rw [ej];simp only [Str.cps_append,Array.toList_append];rw [strSub_toList,List.append_assoc]
  have hit:Rp y.cps.toList z.cps.toList (x.cps.toList.drop c) (z.cps.toList++(Str.join z (partsFrom x y.length (c+y.length) r)).cps.toList):=by
   obtain ⟨t,et⟩:=(cR x y c (by omega)).mp h2
   have:t=x.cps.toList.drop (c+y.length):=by
    rw [← List.drop_drop,← et,← vW y,List.drop_left]
   rw [← et,this];exact .hit ih
  have:=za2 (z:=z.cps.toList) (c-a) a (by rw [vW];omega) (fun k k1 k2 w=>h3 k k1 (by omega) ((cR x y k (by omega)).mpr w)) (by rw [show a+(c-a)=c by omega];exact hit);exact this
theorem zf0 (x y z:Str) (hy:1<=y.length):Rp y.cps.toList z.cps.toList x.cps.toList (Txt.replace x y z).cps.toList:=by
 have hy':y.cps.toList≠[]:=fun e=>by have:=vW y;rw [e] at this;simp at this;omega
 obtain ⟨f,hc,hn⟩:=occ_tight x y hy;unfold Txt.replace;have y0:(y.length==0)=false:=by simp;omega
 rw [y0,Bool.false_and,Bool.or_false]
 split
 .rename_i e;have e:=List.isEmpty_iff.mp e;rw [e] at hc;have ef:f=0:=hc;subst ef;have:=zfZ (z:=z.cps.toList) hy' (x:=x.cps.toList) (a:=0) (Nat.zero_le _) fun k h1 h2 w=>hn k h1 ((cR x y k (by rw [vW] at h2;omega)).mpr w);simpa using this
 .rw [glued_eq_join,partsBetween_eq];have:=zbE (z:=z) hy' _ 0 f (Nat.zero_le _) hc hn;simpa using this
end L3
namespace L3
open PySem PySem.Spec PyProof.Rows L2 HT
section
variable {prog : Program} {w : World} {A : Around} {E : Value → Shared → Prop} {s : Shared}
theorem zgp {f:Nat->Option Value} {g:Nat->Value}:∀ {l:List Nat},(∀ m∈l,f m=some (g m))->l.filterMap f=l.map g
 | [],_=>rfl
 |a::l,h=>by
  rw [List.filterMap_cons_some (h a zzT),zzU,zgp fun m hm=>h m (List.mem_cons_of_mem _ hm)]
theorem zbF (xs:Array Value):((List.range xs.size).filterMap fun (m:Nat)=>xs[(((xs.size:Int)-1)+(m:Int) * (-1)).toNat]?).toArray=xs.toList.reverse.toArray:=by
 congr 1;rw [zgp (g:=fun m=>xs.toList.reverse.getD m Value.none)]
 .have:=dY Value.none xs.toList.reverse;rw [List.length_reverse,Array.length_toList] at this;exact this
 .intro m hm;have hm:m<xs.size:=List.mem_range.mp hm;have e1:(((xs.size:Int)-1)+(m:Int) * (-1)).toNat=xs.size-1-m:=by omega
  have h2:xs.size-1-m<xs.size:=by omega
  rw [e1,Array.getElem?_eq_getElem h2,List.getD_eq_getElem?_getD,List.getElem?_reverse (by simpa using hm)];simp [h2]
theorem zcW {sl:Addr} {n:Nat} {t:Tok} {Q:Int×Int×Nat->Shared->Prop} (hs:s.heap.IsSliceOf sl .none .none (.int (-1) t)) (h:Q ((n:Int)-1,-1,n) s):wpAny (model prog w) A (Builtin.Slice.sliceApplied (.ref sl) (pure (n:Int))) Q E s:=by
 obtain ⟨os,hos,hcs,hds⟩:=id hs;unfold Builtin.Slice.sliceApplied Builtin.Slice.sliceFields;refine wpAny_bind (wpAny_bind (wpAny_field hos hds (x:=.none) rfl (wpAny_bind (wpAny_field hos hds (x:=.none) rfl (wpAny_bind (wpAny_field hos hds (x:=.int (-1) t) rfl (wpAny_pure ?_)))))));refine wpAny_bind (slicePart_int ?_);show wpAny (model prog w) _ (if ((-1:Int)==0)=true then _ else _) _ _ s;rw [if_neg (by decide)];refine wpAny_bind (slicePart_none (wpAny_bind (slicePart_none (wpAny_bind (wpAny_pure ?_)))))
 have e:Builtin.Slice.slicePlaces ((n:Int)-1) (-1) (-1)=n:=by
  unfold Builtin.Slice.slicePlaces;rw [if_neg (by decide),show (-(-1):Int)=1 from rfl,Int.ediv_one]
  split<;>omega
 show wpAny (model prog w) _ (pure ((n:Int)-1,(-1:Int),Builtin.Slice.slicePlaces ((n:Int)-1) (-1) (-1))) _ _ s;rw [e];exact wpAny_pure h
theorem zhW {t sl:Addr} {items:Array Value} {tk:Tok} {Q:Value->Shared->Prop} (ht:IsTup s.heap t items) (hs:s.heap.IsSliceOf sl .none .none (.int (-1) tk)) (hsz:items.size<=sizeLine)
  (h:Q (.ref s.heap.objs.size) { s with heap:=s.heap.push { cls:=.type "tuple", data:=.seq items.toList.reverse.toArray } }):wpAny (model prog w) A (getItem (.ref t) (.ref sl)) Q E s:=by
 obtain ⟨os,hos,hcs,hds⟩:=id hs;have hTs:s.TypeIs (.ref sl) "slice" := ⟨os,hos,hcs⟩
 have hok:sizeOk (.seq items.toList.reverse.toArray):=by
  show items.toList.reverse.toArray.size<=sizeLine;rw [zzS,List.length_reverse,Array.length_toList];exact hsz
 unfold getItem
 try with_reducible refine wpAny_holding ?_
 first|refine wpAny_bind (wpAny_pure ?_)|skip
 refine wpAny_bind (wpAny_sequenceKey ht.typeIs (by decide) ?_);refine wpAny_bind (wpAny_callSpecial?_slot (name:=Str.ofString "__getitem__") ht.typeIs PyProof.Rows.slot_tuple_getitem (wpAny_call_entry PyProof.Rows.slot_tuple_getitem ht.typeIs entry_tuple_getitem ?_ (args_tuple_getitem _ _)));refine wpAny_bind (m:=Builtin.Tuple.tupleItemsOf (.ref t)) (tupleItemsOf_ ht ?_);refine wpAny_bind (wpAny_typeOf hTs ?_);rw [if_pos (by decide)];refine wpAny_bind (zcW hs ?_);dsimp only;rw [if_neg (by simp),zbF]
 first
  |exact wpAny_bind (m:=Builtin.Tuple.tupleExact _) (wpAny_newObj_type (wpAny_pure ⟨_,rfl,wpAny_pure h⟩) hok)
  |exact wpAny_bind (wpAny_bind (m:=Builtin.Tuple.tupleExact _) (wpAny_newObj_type (wpAny_pure ⟨_,rfl,wpAny_pure h⟩) hok))
end
def rvM:Scope->Expr->Option (List Expr):=fun _ e=>match e with
 | .Subscript l (.Slice none none (some (.UnaryOp .USub (.Constant (.int i) _ _) _)) _) _=>if i=1 then some [l] else none
 |_=>none
def rvS:RS:=fun ws G Q=>match ws with
 | [.tup xs]=>Q (.tup xs.reverse) G
 | [.ref p]=>∃ xs,yS G p=some xs/\∀ r,G r=none->Q (.ref r) (put G r (.lst xs.reverse))
 |_=>False
theorem zeL:jN rvS:=by
 intro ws G Q Q' k h;unfold rvS at h ⊢
 split at h
 .exact k _ _ h
 .obtain ⟨xs,e,h⟩:=h;exact ⟨xs,e,fun r hr=>k _ _ (h r hr)⟩
 .exact h.elim
theorem ze0 (xs:Array Value):slicePick xs none none (some (-1))=xs.toList.reverse.toArray:=by
 rw [← zbF];unfold slicePick sliceBounds sliceRange;congr 1;simp only [Option.getD_some,show ¬ ((-1:Int) > 0) by decide,if_false]
 have e:(if (xs.size:Int)-1 > -1 then ((xs.size:Int)-1 - -1 - -1-1) / - -1 else 0).toNat=xs.size:=by
  rw [show (- -1:Int)=1 from rfl,Int.ediv_one]
  split<;>omega
 rw [e,List.filterMap_map];congr 1
 funext m
 show xs[(((xs.size:Int)-1)+(-1) * (m:Int)).toNat]?=_;rw [Int.mul_comm]
theorem zgZ {sc:Scope} {e:Expr} {xs:List Expr} (h:rvM sc e=some xs):∃ l a p1 p3 p2 pos,e=.Subscript l (.Slice none none (some (.UnaryOp .USub (.Constant (.int 1) a p1) p3)) p2) pos/\xs=[l]:=by
 unfold rvM at h
 split at h
 .rename_i l i a p1 p3 p2 pos
  split at h
  .rename_i hb;subst hb;cases h;exact ⟨l,a,p1,p3,p2,pos,rfl,rfl⟩
  .cases h
 .cases h
theorem zE.reverse {vs:List V} {us:List Value} (h:zE vs us):zE vs.reverse us.reverse:=by
 induction h with
 |nil=>exact .nil
 |cons a _ ih=>rw [List.reverse_cons,List.reverse_cons];exact ih.append (.cons a .nil)
theorem sx_rv {q:Pr} {A:Around}:SxE (q.at A) ⟨rvM,rvS⟩:=by
 intro X fits e xs es he each hn pa;obtain ⟨l,k,p1,p3,p2,pos,rfl,rfl⟩:=zgZ (sc:=X.env.scope) he
 match es,each with
 | [t],each =>
  refine ⟨fun pins s σ H Q I h=>?_,fun _=>rfl,fun _ _ _ z=>nomatch z⟩;obtain ⟨σ3,G,hs,ab,h⟩:=h;refine Subscript_ (yG (each.2.1 pins s σ H (fun v H1=>∃ ys vs a G1,v=.ref a/\zF X.K H1 ys vs/\xS X.K H1 G1/\yI X.K H H1/\((rM X.K H1 a vs/\vC X.K H Q (.tup ys.reverse) G1)\/(nE X.K H1 a vs/\∀ r,G1 r=none->vC X.K H Q (.ref r) (put G1 r (.lst ys.reverse))))) I ⟨σ3,G,hs,ab,each.1 σ3 G _ _ (fun w G1 h=>?_) h⟩) fun v s1 ⟨x,H1,I1,r1,q1⟩=>?_)
  .intro v H1 g1 rv a1;have h:rvS [w] G1 (vC X.K H Q):=h;unfold rvS at h
   split at h
   .rename_i ys ew;cases ew;obtain ⟨a,vs,rfl,sq,rr⟩:=rv;exact ⟨ys,vs,a,G1,rfl,rr,a1,g1,.inl ⟨sq,h⟩⟩
   .rename_i p ew;cases ew;obtain ⟨ys,e,h⟩:=h;cases (show v=.ref p from rv);obtain ⟨vs,sq,rr⟩:=a1.seq e;exact ⟨ys,vs,p,G1,rfl,rr,a1,g1,.inr ⟨sq,h⟩⟩
   .exact h.elim
  .obtain ⟨ys,vs,a,G1,rfl,rr,a1,g1,q⟩:=q1;cases (show v=Value.ref a from r1);refine wpAny_Slice ?_;rw [evalPart_none];refine wpAny_pure (wpAny_pure ?_);rw [evalPart_some];refine yG (zjy (pos:=p3) zfR (zf9 (i:=1) (j:=k) (pos:=p1)) pins s1 σ H1 (fun v H2=>v=.int (-1)/\H2=H1) I1 ⟨1,rfl,rfl,rfl⟩) fun u s2 ⟨y,H2,I2,r2,e1,e2⟩=>?_;subst e1 e2;obtain ⟨tk,rfl⟩:=r2;have I3:Inv X pins σ H2 { s2 with heap:=s2.heap.push { cls:=.type "slice", data:=.fields #[.none,.none,.int (-1) tk] } }:=I2.kept (t':=s2.toks) fun b ob q=>Heap.get?_push_of_some _ q;show wpAny (model X.prog X.w) X.A (subscriptTail l (.Slice none none (some (.UnaryOp .USub (.Constant (.int 1) k p1) p3)) p2) (.ref a) (.ref s2.heap.objs.size)) (EP X pins σ Q) X.xe { s2 with heap:=s2.heap.push { cls:=.type "slice", data:=.fields #[.none,.none,.int (-1) tk] } };have hsl:=Heap.IsSliceOf.new s2.heap .none .none (.int (-1) tk);have sz:s2.heap.objs.size<(s2.heap.push { cls:=.type "slice", data:=.fields #[.none,.none,.int (-1) tk] }).objs.size:=by rw [Heap.size_push];exact Nat.lt_succ_self _
   generalize s2.heap.push { cls:=.type "slice", data:=.fields #[.none,.none,.int (-1) tk] }=h0 at I3 hsl sz ⊢;have hn:H2 h0.objs.size=none:=I3.hok.fresh (zzR _);rcases q with ⟨sq,q⟩|⟨sq,q⟩
   .obtain ⟨its,vv,ht,hz⟩:=I3.tuple sq;have hlen:its.toArray.size=vs.length:=by rw [zzS];exact vv.length.symm
    refine tail_any (ops:=[.ref a,.ref s2.heap.objs.size]) ht.typeIs PyProof.Rows.slot_tuple_getitem.lookup (zhW ht hsl (by rw [hlen];exact hz) ?_) (by with_unfolding_all rfl);refine ⟨.ref _,_,I3.laid (t':=s2.toks) (o:=.tup vs.reverse) (fun b ob q=>Heap.get?_push_of_some _ q) (zzR _) ⟨by rw [List.length_reverse];exact hz,its.reverse,vv.reverse,?_⟩,rfl,?_⟩
    .have:=IsTup.new h0 its.reverse.toArray;simpa using this
    .have g2:yI X.K H2 (xL H2 h0.objs.size (.tup vs.reverse)):=xF hn;exact q _ _ (g1.trans g2) ⟨_,_,rfl,rM.of wY,rr.reverse.mono g2⟩ (a1.tup hn)
   .obtain ⟨its,vv,pl,hz⟩:=I3.list sq;have hlen:its.toArray.size=vs.length:=by rw [zzS];exact vv.length.symm
    have ht:=pl.isList;refine tail_any (ops:=[.ref a,.ref s2.heap.objs.size]) ht.typeIs list_getitem_lookup (wpAny_getItem_list_slice ht hsl .none .none (.int (-1) tk) (by simp) ?_ (by rw [hlen];exact hz)) (by with_unfolding_all rfl);rw [ze0];refine ⟨.ref _,_,I3.laid (t':=s2.toks) (o:=.lst vs.reverse) (fun b ob q=>Heap.get?_push_of_some _ q) (zzR _) ⟨by rw [List.length_reverse];exact hz,its.reverse,0,vv.reverse,?_⟩,rfl,?_⟩
    .simpa using Heap.get?_push_size h0 (o:={ cls:=.type "list", data:=.seq its.reverse.toArray }) rfl
    .exact qL (Q:=Q) a1 rr.reverse (fun p hp v' H' g'=>q p hp v' H' (g1.trans g')) _ hn
def hcM (y:Str):Scope->Expr->Option (List Expr):=fun _ e=>match e with
 | .Call (.Name x q) [a] [] _=>if (x==y)=true then some [.Name x q,a] else none
 |_=>none
def hcS (f:Addr) (sp:vP):RS:=fun ws G Q=>match ws with
 | [.ref p,w]=>p=f/\sp [w] G Q XN
 |_=>False
theorem zbX {f:Addr} {sp:vP} (mono:∀ ws G (Q Q':Q3),(∀ w G',Q w G'->Q' w G')->sp ws G Q XN->sp ws G Q' XN):jN (hcS f sp):=by
 intro ws G Q Q' k h;unfold hcS at h ⊢
 split at h
 .exact ⟨h.1,mono _ _ _ _ k h.2⟩
 .exact h.elim
theorem zhU {y:Str} {sc:Scope} {e:Expr} {xs:List Expr} (h:hcM y sc e=some xs):∃ x q a pos,e=.Call (.Name x q) [a] [] pos/\xs=[.Name x q,a]:=by
 unfold hcM at h
 split at h
 .rename_i x q a pos
  split at h
  .cases h;exact ⟨x,q,a,pos,rfl,rfl⟩
  .cases h
 .cases h
theorem ziZ {q:Pr} {k:Nat} {y:Str} {f:Addr} {fd:FuncData} {ps:List Str} {sp:vP} (FO:FnOk q.prog q.w q.K q.mg q.base CX0 k f fd ps (jQ q.K sp)) (hk:PySem.W.keepIn q.K (.ref f)=true) (hb:uM q.K fd ps [])
  (mono:∀ ws G (Q Q':Q3),(∀ w G',Q w G'->Q' w G')->sp ws G Q XN->sp ws G Q' XN) {A:Around} (hr:Room k A):SxE (q.at A) ⟨hcM y,hcS f sp⟩:=by
 intro X fits e xs es he each hn pa;obtain ⟨x,qp,a,pos,rfl,rfl⟩:=zhU (sc:=X.env.scope) he;have e:=fits.eq
 injection e with e1 e2 e3 e4 e5 e6
 subst e6;rw [e1,e2,e3,e4,e5] at FO;rw [e3] at hk hb
 match es,each with
 | [t1,t2],each =>
  refine ⟨fun pins s σ H Q I h=>?_,fun _=>rfl,fun _ _ _ z=>nomatch z⟩;obtain ⟨σ3,G,hs,ab,h⟩:=h;have hn2:([a]:List Expr).all xH=true:=by simpa [xH] using hn
  obtain ⟨s1,s2⟩:=xO (env:=X.env) (pos:=pos) hn2
  have p2:PA X [a] (pQ X.K (sB [t2])):=(zdd each.2.2.2.1 zgc s1).imp fun τ H Q h=>by
   obtain ⟨σ,G,hs,ab,h⟩:=h;refine ⟨σ,G,hs,ab,each.2.2.1 σ G _ _ (fun w G1 h=>?_) h⟩;intro v H1 g1 rv a1;exact h [v] H1 g1 ⟨v,[],rfl,rv,rfl⟩ a1
  refine wpAny_Call_Name_kw (yG (each.2.1 pins s σ H (fun v H1=>∃ w G1,xJ X.K H1 w v/\xS X.K H1 G1/\yI X.K H H1/\t2 σ3 G1 fun u G2=>hcS f sp [w,u] G2 (vC X.K H Q)) I ⟨σ3,G,hs,ab,each.1 σ3 G _ _ (fun w G1 h v H1 g1 rv a1=>⟨w,G1,rv,a1,g1,h⟩) h⟩) fun v s3 ⟨x1,H1,I1,r1,w,G1,rw1,a1,g1,q1⟩=>?_);have hA:=p2 pos pins s3 σ H1 (fun ys H2=>(∃ z,ys=[z]/\v=Value.ref f/\jQ X.K sp [z] H2 Q (fun _ _ _=>False))) I1 ⟨σ3,G1,hs.mono g1,a1,each.2.2.1 σ3 G1 _ _ (fun u G2 hq=>?_) q1⟩
  .rw [s1] at hA ⊢;refine PySem.W.callWith_of (P:=fun h=>X.K.In h/\v=Value.ref f) (by show ((false || (backTo pos (starEach [] X.env)).any (·.1)) || false)=false;rfl) (fun h z=>by rw [z.2];exact PySem.W.keeps_K hk h z.1) (Calls.evalArgs_plain (yG hA fun us s4 ⟨ys,H2,I2,r2,z,ez,ev,q2⟩=>⟨⟨I2.kIn,ev⟩,?_⟩));subst ez;subst ev;exact zc5 (ds:=[]) (dvs:=[]) FO hr hb .nil zhp I2 r2 q2
  .intro ys H2 g2 rs a2;obtain ⟨z,rfl,rz⟩:=kZ rs;unfold hcS at hq
   split at hq
   .rename_i p u' ew;cases ew;obtain ⟨rfl,hq⟩:=hq;cases (show x1=.ref p from rw1);cases (show v=Value.ref p from r1);exact ⟨z,rfl,rfl,[u],G2,rs,a2,mono _ _ _ _ (fun w' G' h v' H' g'=>h v' H' (g1.trans (g2.trans g'))) hq⟩
   .exact hq.elim
end L3
namespace L3
open PySem PySem.Spec PyProof.Rows L2 PySem.SeqAt
def gt2M (d:Str):Scope->Expr->Option (List Expr):=fun sc e=>match e with
 | .Call (.Attribute (.Name x _) y apos) [a,b] [] cpos=>if (x==d&&rQ sc x&&y==("get" : Str)&&(apos.endLine==cpos.line))=true then some [a,b] else none
 |_=>none
def gt2S (ks:List Str) (vs:List W):RS:=fun ws G Q=>match ws with
 | [.str k,w]=>Q (((ks.zip vs).lookup k).getD w) G
 |_=>False
theorem zdI (ks:List Str) (vs:List W):jN (gt2S ks vs):=by
 intro ws G Q Q' k h;unfold gt2S at h ⊢
 split at h
 .exact k _ _ h
 .exact h.elim
theorem zfx {d:Str} {sc:Scope} {e:Expr} {xs:List Expr} (h:gt2M d sc e=some xs):∃ q apos a b cpos,e=.Call (.Attribute (.Name d q) "get" apos) [a,b] [] cpos/\xs=[a,b]/\rQ sc d=true/\(apos.endLine==cpos.line)=true:=by
 unfold gt2M at h
 split at h
 .rename_i x q y apos a b cpos
  split at h
  .rename_i hb;obtain ⟨⟨⟨h1,h2⟩,h3⟩,h4⟩:=bd4 hb;cases eq_of_beq h1;cases eq_of_beq h3;cases h;exact ⟨q,apos,a,b,cpos,rfl,rfl,h2,h4⟩
  .cases h
 .cases h
theorem zkg {X:Cx} {pins:List (Addr×Obj)} {σ:L2.St} {H:Hp} {s:Shared} {a:Addr} {ks:List Str} {vs:List V} {k:Str} {u ud:Value} {d:V} {Q:VK} (I:Inv X pins σ H s) (h:KD X.K a ks vs) (ru:zA (.str k) u) (rd:zA d ud) (q:Q (((ks.zip vs).lookup k).getD d) H) :
  wpAny (model X.prog X.w) X.A (call (.builtin "dict.get") [.ref a,u,ud]) (EP X pins σ Q) X.xe s:=by
 have hT:=zfm I h;have hd:(a==sysModules)=false:=by obtain ⟨o,es,ep,l,_,_,_,z,_⟩:=h;exact z
 obtain ⟨tk,rfl⟩:=ru;refine wpAny_call (codeAny_call_builtin PySem.F.slot_dict_get.plain PySem.F.entry_dict_get (PySem.F.slot_dict_get.check _ _ _ _ _ _ _ _ hT (PySem.F.args_dict_get_3 _ _ _) ?_));show wpAny (model X.prog X.w) _ (dictGet a (.str k tk) >>= _) _ _ s;refine wpAny_bind (zdA I h ?_);revert q
 cases (ks.zip vs).lookup k with
 |some v=>exact fun q u s' r J=>wpAny_pure ⟨v,H,J,r,q⟩
 |none =>
  intro q s' J;show wpAny _ _ (Builtin.Dict.missed a (.str k tk) >>= _) _ _ _;exact wpAny_bind (wpAny_missed_other hd (wpAny_pure ⟨d,H,J,rd,q⟩))
theorem zi0 {q:Pr} {A:Around} {d:Str} {ks:List Str} {vs:List W} (g:GlE (q.at A) (d,.dcf ks vs)):SxE (q.at A) ⟨gt2M d,gt2S ks vs⟩:=by
 intro X fits e xs es he each hn pa;obtain ⟨qp,apos,a,b,cpos,rfl,rfl,hg,hline⟩:=zfx he;obtain ⟨gl,d1,n1⟩:=zcs (X:=X) rfl hg
 match es,each with
 | [t,t'],each =>
  refine ⟨fun pins s σ H Q I h=>?_,fun _=>rfl,fun _ _ _ z=>nomatch z⟩;obtain ⟨σ3,G,hs,ab,h⟩:=h;have po:=g X fits gl qp d1 n1;obtain ⟨s1,s2⟩:=xO (env:=X.env) (pos:=cpos) hn;refine wpAny_Call_method_late (kT rfl) ?_ hline rfl (yG (po pins s σ H (fun v H1=>yI X.K H H1/\xS X.K H1 G/\xJ X.K H1 (.dcf ks vs) v) I ⟨σ3,G,hs,ab,fun v H' gr rp ab'=>⟨gr,ab',rp⟩⟩) fun v s3 ⟨x,H1,I1,r1,g1,a1,p,us,ex,kd,rr⟩=>?_)
  .rw [dC hn];rfl
  .subst ex;cases (show v=Value.ref p from r1);have hT:=zfm I1 kd;refine ⟨"dict", "dict.get", PySem.F.plainAttrs_dict,PySem.F.slot_dict_get,PySem.F.type_dict_get,hT,fun b e=>?_,?_⟩
   .cases e;obtain ⟨o,es,ep,l,hc,_⟩:=kd;exact ⟨o,I1.kIn _ _ l,hc.2.1⟩
   .have hA:=pa cpos pins s3 σ H1 (fun ys H2=>∃ k d,ys=[.str k,d]/\Q (((ks.zip us).lookup k).getD d) H2) I1 ⟨σ3,G,hs.mono g1,a1,?_⟩
    .rw [s1] at hA ⊢;refine Calls.callWith_builtin (by show (false || (backTo cpos (starEach [b] X.env)).any (·.1))=false;rw [s2];rfl) (Calls.evalArgs_plain ?_);refine yG hA fun ws s4 ⟨ys,H2,I2,r2,k,d,e2,q2⟩=>?_;subst e2;obtain ⟨u,ud,rfl,ru,rd⟩:=zes r2;exact zkg I2 kd ru rd q2
    .refine wG each σ3 G _ _ (fun ws G1 h=>?_) h;intro ys H2 g2 rs a2;replace h:gt2S ks vs ws G1 (vC X.K H Q):=h;unfold gt2S at h
     split at h
     .rename_i k w0;obtain ⟨y,yd,rfl,ry,rd⟩:=zeP rs;cases (show y=.str k from ry);refine ⟨k,yd,rfl,?_⟩
      cases hk:(ks.zip vs).lookup k with
      |some w' =>
       obtain ⟨v',e',rv⟩:=kM rr hk;rw [hk] at h;rw [e'];exact h v' H2 (g1.trans g2) (rv.mono g2) a2
      |none =>
       rw [hk] at h;rw [tN rr hk];exact h yd H2 (g1.trans g2) rd a2
     .exact h.elim
section
variable {q : Pr} {k : Nat} {M1 M2 : MC} {n1 n2 q1 q2 : Str} {st1 st2 : Stmt} {f1 f2 : Addr} {fd1 fd2 : FuncData} {ps1 ps2 : List Str} {sp1 sp2 : Nat → vP} {b1 b2 : ISs} {Γ : Fn3 → Ctx3}
theorem zg4 (F1:FunD q.K n1 q1 st1 .none f1 fd1) (S1:FnScope M1.N ps1 (zZ st1)) (hm1:q.mg n1=some (.ref f1)) (hb1:uM q.K fd1 ps1 []) (F2:FunD q.K n2 q2 st2 .none f2 fd2) (S2:FnScope M2.N ps2 (zZ st2)) (hm2:q.mg n2=some (.ref f2)) (hb2:uM q.K fd2 ps2 [])
  (h0:∀ ws G Q,¬ sp2 0 ws G Q XN) (len1:∀ n ws G Q,sp1 n ws G Q XN->ws.length=ps1.length) (len2:∀ n ws G Q,sp2 n ws G Q XN->ws.length=ps2.length) (mono1:∀ n,tB ⟨n1,sp1 n⟩) (mono2:∀ n,tB ⟨n2,sp2 n⟩)
  (g:∀ e A,Room k A->vQ (q.at A) e->Good (Γ e) (q.at A)) (eM1:∀ n,MOk (Γ ⟨n2,sp2 n⟩) M1 (zZ st1)) (eM2:∀ n,MOk (Γ ⟨n1,sp1 n⟩) M2 (zZ st2)) (look1:qE b1 M1 (zQ st1)=true) (look2:qE b2 M2 (zQ st2)=true)
  (hd1:∀ n ws G Q,sp1 n ws G Q XN->zG (Γ ⟨n2,sp2 n⟩) XN b1 { nx:=fun _ G'=>Q .non G',rt:=Q } (yT M1.N ws) G)
  (hd2:∀ n ws G Q,sp2 (n+1) ws G Q XN->zG (Γ ⟨n1,sp1 n⟩) XN b2 { nx:=fun _ G'=>Q .non G',rt:=Q } (yT M2.N ws) G) :
  ∀ n,FnOk q.prog q.w q.K q.mg q.base CX0 (k+2 * n+1) f1 fd1 ps1 (jQ q.K (sp1 n))/\FnOk q.prog q.w q.K q.mg q.base CX0 (k+2 * n) f2 fd2 ps2 (jQ q.K (sp2 n)):=by
 have step:∀ n,FnOk q.prog q.w q.K q.mg q.base CX0 (k+2 * n) f2 fd2 ps2 (jQ q.K (sp2 n))->FnOk q.prog q.w q.K q.mg q.base CX0 (k+2 * n+1) f1 fd1 ps1 (jQ q.K (sp1 n)):=fun n P =>
  uU (k:=k+2 * n) F1 S1 (fun A hr=>g _ A (hr.mono (by omega)) (uV P hm2 F2.kp hb2 (mono2 n) hr (zzR _))) (eM1 n) look1 (len1 n) (hd1 n)
 intro n
 induction n with
 |zero =>
  have P:FnOk q.prog q.w q.K q.mg q.base CX0 (k+2 * 0) f2 fd2 ps2 (jQ q.K (sp2 0)):=⟨fun vs H Q E ⟨ws,G,_,_,h⟩=>absurd h (h0 _ _ _),fun A outer s H args us vs Q E _ _ _ _ ⟨ws,G,_,_,h⟩=>absurd h (h0 _ _ _),fun x _ _ A outer s H args us vs Q E _ _ _ _ ⟨ws,G,_,_,h⟩=>absurd h (h0 _ _ _)⟩;exact ⟨step 0 P,P⟩
 |succ n ih =>
  have P:FnOk q.prog q.w q.K q.mg q.base CX0 (k+2 * (n+1)) f2 fd2 ps2 (jQ q.K (sp2 (n+1))) :=
   uU (k:=k+2 * n+1) F2 S2 (fun A hr=>g _ A (hr.mono (by omega)) (uV ih.1 hm1 F1.kp hb1 (mono1 n) hr (zzR _))) (eM2 n) look2 (len2 (n+1)) (hd2 n)
  exact ⟨step (n+1) P,P⟩
end
end L3
namespace L2
open PySem PySem.Spec PyProof.Rows
section
variable {X : Cx} {tg : Expr}
end
end L2
namespace L3
open PySem PySem.Spec PyProof.Rows L2 PySem.SeqAt
end L3
namespace PySem
open Sem (wp)
section
variable {prog : Program} {w : World} {A : Around} {E : Value → Shared → Prop} {s : Shared}
abbrev mZ (h:Heap) (e it:Addr) (i:Int) (f0 f1 old:Value):Prop :=
 h.get? e=some { cls:=.type "enumerate", dict:=none,data:=.fields #[f0,f1,.ref it,rawInt i,.none,old],slots:=#[] }
def F0 (v:Value):Prop:=v=.none\/∃ T:Addr,v=rawInt T
def F1 (v:Value):Prop:=v=.bool false\/v=.bool true
theorem zif {b:Bool} {e it l:Addr} {k:Nat} {m:Int} {xs:Array Value} {x f0 f1 old:Value} {Q:Value->Shared->Prop} (hne:e≠it) (hle:l≠e) (h0:F0 f0) (h1:F1 f1) (he:mZ s.heap e it m f0 f1 old)
  (hi:rL b s.heap it l k) (hl:pD b s.heap l xs) (hx:xs[k]?=some x)
  (hQ:∀ h' tk t f0' f1' old',0<tk->F0 f0'->F1 f1'->mZ h' e it (m+1) f0' f1' old'->rL b h' it l (k+1)->h'.get? s.heap.objs.size=some { cls:=.type "tuple", data:=.seq #[.int m t,x] }->h'.objs.size=s.heap.objs.size+1 ->
   (∀ c o,c≠e->c≠it->s.heap.get? c=some o->h'.get? c=some o)->Q (.ref s.heap.objs.size) { s with heap:=h',toks:=tk }) :
  wpAny (model prog w) A (Builtin.«enumerate.__next__» ⟨[.ref e],[]⟩) (fun fin z=>∃ v,fin=.done (.ret v)/\Q v z) E s:=by
 obtain ⟨hp,g,d,tk,os⟩:=s;have le:e<hp.objs.size:=Heap.lt_size he;refine wpAny_bind (m:=field (.ref e) 2) (wpAny_field he rfl (x:=.ref it) rfl (wpAny_bind ?_));refine (qB hi hl hx fun g1 i1 s1=>?_);replace s1:Heap.SameBut it hp g1:=s1;have e1:mZ g1 e it m f0 f1 old:=(s1.2 e hne).trans he;show wpAny _ _ (field (.ref e) 3 >>= _) _ _ ⟨g1,g,d,tk,os⟩;refine wpAny_bind (wpAny_field e1 rfl (x:=rawInt m) rfl ?_);show wpAny _ _ (field (.ref e) 4 >>= _) _ _ ⟨g1,g,d,tk,os⟩;refine wpAny_bind (wpAny_field e1 rfl (x:=.none) rfl ?_);show wpAny _ _ (mkInt m >>= _) _ _ ⟨g1,g,d,tk,os⟩;refine wpAny_bind (wpAny_mkInt ?_);show wpAny _ _ (setField (.ref e) 3 (rawInt (m+1)) >>= _) _ _ ⟨g1,g,d,tk+1,os⟩;refine wpAny_bind (wpAny_setField_rec e1 (by simp) fun g2 e2 s2=>?_);replace s2:Heap.SameBut e g1 g2:=s2;replace e2:mZ g2 e it (m+1) f0 f1 old:=e2;show wpAny _ _ (setField (.ref e) 4 .none >>= _) _ _ ⟨g2,g,d,tk+1,os⟩;refine wpAny_bind (wpAny_setField_rec e2 (by simp) fun g3 e3 s3=>?_);replace s3:Heap.SameBut e g2 g3:=s3;replace e3:mZ g3 e it (m+1) f0 f1 old:=e3;show wpAny _ _ (newTuple [.int m tk,x] >>= _) _ _ ⟨g3,g,d,tk+1,os⟩;refine wpAny_bind (wpAny_newTuple ?_);have e4:mZ (g3.push { cls:=.type "tuple", data:=.seq #[.int m tk,x] }) e it (m+1) f0 f1 old:=Heap.get?_push_of_some _ e3;generalize hh:g3.push { cls:=.type "tuple", data:=.seq #[.int m tk,x] }=g4 at e4;have hsz:g3.objs.size=hp.objs.size:=by rw [s3.1,s2.1,s1.1]
 have t4:g4.get? hp.objs.size=some { cls:=.type "tuple", data:=.seq #[.int m tk,x] }:=by rw [← hh,← hsz];exact Heap.get?_push_size _ rfl
 have z4:g4.objs.size=hp.objs.size+1:=by rw [← hh,Heap.size_push,hsz]
 have k4:∀ c o,c≠e->c≠it->hp.get? c=some o->g4.get? c=some o:=fun c o n1 n2 q=>by
  rw [← hh];exact Heap.get?_push_of_some _ (s3.extBut c o n1 (s2.extBut c o n1 (s1.extBut c o n2 q)))
 have i4:rL b g4 it l (k+1):=i1.at fun o q=>by rw [← hh];exact Heap.get?_push_of_some _ (s3.extBut it o hne.symm (s2.extBut it o hne.symm q))
 show wpAny _ _ (Builtin.SmallTypes.ownedTupleIsFree (.ref e) >>= _) _ _ ⟨g4,g,d,tk+1,os⟩;rw [hsz]
 clear hh e3 s3 e2 s2 e1 s1 i1 hsz g3 g2 g1
 have free:wpAny (model prog w) A (do
   rule "enumerate.__next__.owned-tuple-again"
   let old ← field (.ref e) 5
   setField (.ref e) 5 x
   Builtin.SmallTypes.ownedTupleHandOut (.ref e) (.ref hp.objs.size)
   letGo [old] [.ref hp.objs.size]
   ret (.ref hp.objs.size)) (fun fin s'=>∃ v,fin=.done (.ret v)/\Q v s') E ⟨g4,g,d,tk+1,os⟩:=by
  refine wpAny_bind (wpAny_rule ?_);refine wpAny_bind (wpAny_field e4 rfl (x:=old) rfl ?_);refine wpAny_bind (wpAny_setField_rec e4 (by simp) fun g5 e5 s5=>?_);replace s5:Heap.SameBut e g4 g5:=s5;replace e5:mZ g5 e it (m+1) f0 f1 x:=e5;show wpAny _ _ (Builtin.SmallTypes.ownedTupleHandOut (.ref e) (.ref hp.objs.size) >>= _) _ _ ⟨g5,g,d,tk+1,os⟩;refine wpAny_bind ?_;unfold Builtin.SmallTypes.ownedTupleHandOut;refine wpAny_bind (wpAny_setField_rec e5 (by simp) fun g6 e6 s6=>?_);replace s6:Heap.SameBut e g5 g6:=s6;replace e6:mZ g6 e it (m+1) (rawInt hp.objs.size) f1 x:=e6;refine wpAny_setField_rec e6 (by simp) fun g7 e7 s7=>?_;replace s7:Heap.SameBut e g6 g7:=s7;replace e7:mZ g7 e it (m+1) (rawInt hp.objs.size) (.bool false) x:=e7;have up:∀ c o,c≠e->g4.get? c=some o->g7.get? c=some o:=fun c o n q=>s7.extBut c o n (s6.extBut c o n (s5.extBut c o n q));exact wpAny_bind (wpAny_letGo (wpAny_pure ⟨_,rfl,hQ g7 (tk+1) tk _ _ _ (Nat.succ_pos _) (.inr ⟨_,rfl⟩) (.inl rfl) e7 (i4.at fun o q=>up it o hne.symm q) (up _ _ (Nat.ne_of_gt le) t4) (by rw [s7.1,s6.1,s5.1,z4]) fun c o n1 n2 q=>up c o n1 (k4 c o n1 n2 q)⟩))
 refine wpAny_bind ?_;unfold Builtin.SmallTypes.ownedTupleIsFree;refine wpAny_bind (wpAny_field e4 rfl (x:=f0) rfl ?_);rcases h0 with rfl|⟨T,rfl⟩
 .exact wpAny_pure free
 .show wpAny _ _ (loadIfAlive (Int.toNat T) >>= _) _ _ _;refine wpAny_bind (uZ ?_)
  cases hT:g4.get? (Int.toNat T) with
  |none=>exact wpAny_pure free
  |some oT =>
   show wpAny _ _ (field (.ref e) 1 >>= _) _ _ _;refine wpAny_bind (wpAny_field e4 rfl (x:=f1) rfl ?_);rcases h1 with rfl|rfl
   .refine wpAny_bind (wpAny_setField_rec e4 (by simp) fun g5 e5 s5=>?_);replace s5:Heap.SameBut e g4 g5:=s5;replace e5:mZ g5 e it (m+1) (rawInt T) (.bool true) old:=e5;refine wpAny_pure (wpAny_pure ⟨_,rfl,hQ g5 (tk+1) tk _ _ _ (Nat.succ_pos _) (.inr ⟨_,rfl⟩) (.inr rfl) e5 (i4.at fun o q=>s5.extBut it o hne.symm q) (s5.extBut _ _ (Nat.ne_of_gt le) t4) (by rw [s5.1,z4]) fun c o n1 n2 q=>s5.extBut c o n1 (k4 c o n1 n2 q)⟩)
   .exact wpAny_pure (wpAny_pure ⟨_,rfl,hQ g4 (tk+1) tk _ _ _ (Nat.succ_pos _) (.inr ⟨_,rfl⟩) (.inr rfl) e4 i4 t4 z4 k4⟩)
end
end PySem
namespace PySem
open Sem (wp)
abbrev enH (b:Bool) (h:Heap) (l:Addr):Heap:=h.push { cls:=.type (itc b),data:=.fields #[.ref l,.int 0 0] }
theorem zap (b:Bool) (l:Addr) (xs:Array Value) :
  Meets (Builtin.«enumerate.__new__» ⟨[.type "enumerate", .ref l],[]⟩) (fun _ R s=>pD b s.heap l xs /\
   R (.ok (.ret (.ref (enH b s.heap l).objs.size))) { s with heap:=(enH b s.heap l).push { cls:=.type "enumerate", data:=.fields #[.none,.bool false,.ref s.heap.objs.size,rawInt 0,.none,.none] } }) :=
 .of_wp fun prog w A R s h=>by
  obtain ⟨hp,g,d,tk,os⟩:=s;obtain ⟨hl,h⟩:=h;have hsub:=sub_enumerate;have hL:pD b (Shared.heap ⟨hp,g,d,tk,os⟩) l xs:=hl
  wp_walk
  refine wpAny_stack_any fun st=>wpAny_pure ?_
  split
  .rename_i c _ _ _ _ _;cases (c==Value.type "enumerate")<;>(wp_walk using vO hL;exact ⟨_,rfl,h⟩)
  .wp_walk using vO hL
   exact ⟨_,rfl,h⟩
section
variable {prog : Program} {w : World} {A : Around} {E : Value → Shared → Prop} {s : Shared}
theorem ziq {b:Bool} {l:Addr} {xs:Array Value} {Q:Value->Shared->Prop} (hl:pD b s.heap l xs)
  (h:∀ h',mZ h' (s.heap.objs.size+1) s.heap.objs.size 0 .none (.bool false) .none->rL b h' s.heap.objs.size l 0->(∀ c o,s.heap.get? c=some o->h'.get? c=some o)->Q (.ref (s.heap.objs.size+1)) { s with heap:=h' }) :
  wpAny (model prog w) A (call (.type "enumerate") [.ref l]) Q E s:=by
 refine callType_new F.called_enumerate (by decide) (F.typeCall_enumerate_1 _) (F.newCall_enumerate_1 _) (fun obj=>F.args_object_init_2 obj _) F.entry_enumerate_new (zap b l xs) ⟨hl,?_⟩;have hz:(enH b s.heap l).objs.size=s.heap.objs.size+1:=Heap.size_push ..;show _/\_;rw [hz]
 have he:mZ ((enH b s.heap l).push { cls:=.type "enumerate", data:=.fields #[.none,.bool false,.ref s.heap.objs.size,rawInt 0,.none,.none] }) (s.heap.objs.size+1) s.heap.objs.size 0 .none (.bool false) .none:=by
  have:=Heap.get?_push_size (enH b s.heap l) (o:={ cls:=.type "enumerate", data:=.fields #[.none,.bool false,.ref s.heap.objs.size,rawInt 0,.none,.none] }) rfl;rw [hz] at this;exact this
 exact ⟨⟨_,he,rfl⟩,h _ he ⟨_,Heap.get?_push_of_some _ (Heap.get?_push_size _ rfl),rfl,rfl⟩ fun c o x=>Heap.get?_push_of_some _ (Heap.get?_push_of_some _ x)⟩
end
end PySem
namespace L2
open PySem PySem.Spec PyProof.Rows
def Ite (st:Int) (b:Bool) (K:PySem.W.Frag) (l:Addr):It where
 go:=fun i H=>∃ xs x,gK b K H l xs/\xs[i]?=some x
 yld:=fun i H v H'=>∃ p x,v=.ref p/\H p=none/\H'=xL H p (.tup [.int (i+st),x])/\∀ xs,gK b K H l xs->xs[i]?=some x
 stop:=fun i H=>∃ xs,gK b K H l xs/\xs.length<=i
def EnSt (st:Int) (b:Bool) (e it l:Addr) (i:Nat) (h:Heap):Prop:=∃ f0 f1 old,F0 f0/\F1 f1/\mZ h e it (i+st) f0 f1 old/\rL b h it l i
section
variable {sn : Int} {b : Bool} {e it l : Addr}
theorem EnSt.keep {i:Nat} {h h':Heap} (x:EnSt sn b e it l i h) (k:∀ c∈[e,it],∀ o,h.get? c=some o->h'.get? c=some o):EnSt sn b e it l i h':=by
 obtain ⟨f0,f1,old,a0,a1,he,hi⟩:=x;exact ⟨f0,f1,old,a0,a1,k e (by simp) _ he,hi.at fun o q=>k it (by simp) o q⟩
theorem en_go {P:Program} {w:World} {A:Around} {E:Value->Shared->Prop} {s:Shared} {tg:Expr} {u:Value} {i:Nat} {Q:Unit->Shared->Prop} (hne:e≠it) (st:EnSt sn b e it l i s.heap)
  (h:∀ h',EnSt sn b e it l i h'->(∀ c o,c≠e->s.heap.get? c=some o->h'.get? c=some o)->Q () { s with heap:=h' }):wpAny (model P w) A (letOwnedTupleGo tg (.ref e) u) Q E s:=by
 have stay:Q () s:=h s.heap st fun _ _ _ z=>z
 have core:wpAny (model P w) A (do
   let (.ref r,.ref t):=(Value.ref e,u)|return
   let o ← load r
   match o.cls,o.data with
   | .type n,.fields vs =>
    if ["enumerate", "zip", "dict_itemiterator", "dict_reverseitemiterator", "odict_iterator", "itertools.zip_longest", "itertools.pairwise"].contains n&&vs[0]?==some (rawInt t) then
     rule "for.unpacks-the-owned-tuple"
     updateField r 0 .none
   |_,_=>pure ()) Q E s:=by
  cases u with
  |ref t =>
   obtain ⟨f0,f1,old,a0,a1,he,hi⟩:=st;refine wpAny_bind (wpAny_load he ?_);dsimp only
   split
   .refine wpAny_bind (wpAny_rule ?_);show wpAny _ _ (setField (.ref e) 0 .none) Q E s;exact wpAny_setField_rec he (by simp) fun h' he' hs'=>h h' ⟨.none,f1,old,.inl rfl,a1,he',hi.at fun o q=>hs'.extBut it o hne.symm q⟩ fun c o hc q=>hs'.extBut c o hc q
   .exact wpAny_pure stay
  |_=>exact wpAny_pure stay
 cases tg with
 |Tuple es x p=>exact core
 |List es x=>exact core
 |_=>exact wpAny_pure stay
theorem zie (P:Program) (w:World) (K:PySem.W.Frag) (tg:Expr) (hne:e≠it) (n1:l≠e) (n2:l≠it):Turn P w K tg (Ite sn b K l) [e,it] e (EnSt sn b e it l) where
 mem:=by simp
 obj:=fun i h x c hc=>by
  obtain ⟨f0,f1,old,_,_,he,o,q1,q2,q3⟩:=x;simp only [List.mem_cons,List.not_mem_nil,or_false] at hc;rcases hc with rfl|rfl
  .exact ⟨_,he,fun v z=>nomatch z⟩
  .exact ⟨o,q1,fun v z=>by rw [q3] at z;cases z⟩
 keep:=fun i h h' x k=>x.keep k
 item:=by
  intro X e1 e2 e3 hc i pins s σ H E I hf st go;subst e1;subst e2;subst e3;obtain ⟨xs,x,q1,ex⟩:=go;obtain ⟨its,vx,sx,_⟩:=I.sqB q1;obtain ⟨u,eu,ru⟩:=vx.get ex;obtain ⟨f0,f1,old,a0,a1,he,hi⟩:=id st;have hT:s.TypeIs (.ref e) "enumerate" := ⟨_,he,rfl⟩;have le:e<s.heap.objs.size:=Heap.lt_size he;have li:it<s.heap.objs.size:=by obtain ⟨o,ho,_⟩:=hi;exact Heap.lt_size ho
  have hn:H s.heap.objs.size=none:=I.hok.fresh (zzR _);unfold pyNext
  refine wpAny_bind (wpAny_attempt (wpAny_callSpecial?_slot (name:=Str.ofString "__next__") hT F.slot_enumerate_next (wpAny_call_entry F.slot_enumerate_next hT F.entry_enumerate_next
   (zif hne n1 a0 a1 he hi sx (x:=u) (by simpa using eu) fun h' tk t f0' f1' old' h0 b0 b1 he' hi' ht hz k=>wpAny_pure ⟨_,rfl,?_⟩) (F.args_enumerate_next_1 _))))
  refine en_go (sn:=sn) (i:=i+1) (s:={ s with heap:=h',toks:=tk }) hne ⟨f0',f1',old',b0,b1,by rw [show (((i+1:Nat):Int)+sn)=(i:Int)+sn+1 by omega];exact he',hi'⟩ fun h2 st2 k2=>?_
  have J:Inv X pins σ H { s with heap:=h2,toks:=tk }:=I.turns hf fun c o hc q=>by
   simp only [List.mem_cons,List.not_mem_nil,or_false,not_or] at hc;exact k2 c o hc.1 (k c o hc.1 hc.2 q)
  refine ⟨.ref s.heap.objs.size,xL H s.heap.objs.size (.tup [.int (i+sn),x]),?_,rfl,⟨_,x,rfl,hn,rfl,fun ys q'=>by rw [I.sqB_inj q' q1];exact ex⟩,st2,fun c hc=>?_⟩
  .refine J.adopt (I.off (zzR _)) hn ⟨by show 2<=sizeLine;rw [sizeLine_eq];decide,[.int (i+sn) t,u],.cons ⟨t,rfl⟩ (.cons ru .nil),⟨_,k2 _ _ (Nat.ne_of_gt le) ht,rfl,_,rfl⟩⟩
  .have:c≠s.heap.objs.size:=by
    simp only [List.mem_cons,List.not_mem_nil,or_false] at hc;rcases hc with rfl|rfl
    .exact Nat.ne_of_lt le
    .exact Nat.ne_of_lt li
   rw [zB this];exact (hf c hc).1
 done:=by
  intro X e1 e2 e3 hc i pins s σ H E I hf st stop;subst e1;subst e2;subst e3;obtain ⟨xs,q1,hx⟩:=stop;obtain ⟨its,vx,sx,_⟩:=I.sqB q1;obtain ⟨f0,f1,old,a0,a1,he,hi⟩:=id st;have hT:s.TypeIs (.ref e) "enumerate" := ⟨_,he,rfl⟩;have hl:=vx.length;unfold pyNext;refine wpAny_bind (wpAny_attempt (wpAny_callSpecial?_slot (name:=Str.ofString "__next__") hT F.slot_enumerate_next (wpAny_call_entry F.slot_enumerate_next hT F.entry_enumerate_next ?_ (F.args_enumerate_next_1 _))));show wpAny _ _ (field (.ref e) 2 >>= _) _ _ _;refine wpAny_bind (wpAny_field he rfl (x:=.ref it) rfl ?_);refine wpAny_bind (rF (A:=X.A.in1) (I.ok.hd hc) hi sx (by simp;omega) fun h' x k hx'=>?_);obtain ⟨o,ho,hc'⟩:=hx';refine wpAny_bind (wpAny_isInstance (T := "StopIteration") (b:=true) ⟨o,ho,hc'⟩ isSubtype_stop ?_);refine wpAny_pure ⟨rfl,I.turns (t':=s.toks) hf fun c o hc q=>?_⟩;simp only [List.mem_cons,List.not_mem_nil,or_false,not_or] at hc;exact k c o hc.2 q
 self:=fun A i s Q E st h=>by
  obtain ⟨f0,f1,old,a0,a1,he,hi⟩:=st;have hT:s.TypeIs (.ref e) "enumerate" := ⟨_,he,rfl⟩;have body:wpAny (model P w) A.in1 (ret (.ref e)) (fun fin z=>∃ v,fin=.done (.ret v)/\∃ T id,z.TypeIs v T/\typeLookup (.type T) "__next__" = pure (some id)/\Q v z) E s:=wpAny_pure ⟨_,rfl,_,_,hT,F.slot_enumerate_next.lookup,h⟩;exact wpAny_pyIter_slot hT F.slot_enumerate_iter (wpAny_call_entry F.slot_enumerate_iter hT F.entry_enumerate_iter body (F.args_enumerate_iter_1 _))
end
end L2
namespace L3
open PySem PySem.Spec PyProof.Rows L2 PySem.SeqAt
def enW (st:Int) (xs:List W):List W:=(List.range xs.length).map fun i=>W.tup [.int ((i:Nat)+st),xs.getD i .non]
def enI (ws:List W) (G:Hw) (R:List W->(Hw->Prop)->Hw->Prop):Prop:=match ws with
 | [x]=>∃ xs,jJ G x=some xs/\R (enW 0 xs) (fun G'=>jJ G' x=some xs) G
 |_=>False
theorem zfI:rN ⟨"enumerate", enI⟩:=by
 intro ws G R R' k h;replace h:enI ws G R:=h;show enI ws G R';unfold enI at h ⊢
 split at h
 .obtain ⟨xs,e1,h⟩:=h;exact ⟨xs,e1,k _ _ _ h⟩
 .exact h.elim
theorem zkv {sn:Int} {K:yJ} {H1:Hp} {G1:Hw} {x:W} {a:Addr} {vx:List V} {xs:List W} (rx:xJ K H1 x (.ref a)) (ex:jJ G1 x=some xs) (sx:gK (bU x) K H1 a vx) (rr:zF K H1 xs vx) :
  ItIs K (Ite sn (bU x) K a) H1 (enW sn xs) (fun G'=>jJ G' x=some xs) where
 go:=fun i H G g ab st hi=>by
  obtain ⟨vx',sx',rx'⟩:=vN g ab rx ex sx rfl st rr;have h1:=rx'.length;have hi:i<xs.length:=by simpa [enW] using hi
  exact ⟨vx',vx'[i]'(by omega),sx',List.getElem?_eq_getElem _⟩
 yld:=fun i H G v H' g ab st hi yl=>by
  obtain ⟨vx',sx',rx'⟩:=vN g ab rx ex sx rfl st rr;obtain ⟨p,x',rfl,hp,rfl,e2⟩:=yl;obtain ⟨wx,ewx,rpx⟩:=rx'.get' (e2 vx' sx');have hi:i<xs.length:=by simpa [enW] using hi
  have gr:yI K H (xL H p (.tup [.int (i+sn),x'])):=xF hp;refine ⟨.tup [.int (i+sn),wx],?_,gr,⟨p,[.int (i+sn),x'],rfl,.of wY,⟨_,_,rfl,rfl,_,_,rfl,rpx.mono gr,rfl⟩⟩,ab.tup hp⟩;simp [enW,hi];rw [List.getElem?_eq_getElem hi] at ewx;exact Option.some.inj ewx
 stop:=fun i H G g ab st hi=>by
  obtain ⟨vx',sx',rx'⟩:=vN g ab rx ex sx rfl st rr;have h1:=rx'.length;have hi:xs.length<=i:=by simpa [enW] using hi
  exact ⟨vx',sx',by omega⟩
theorem it_en {q:Pr} {A:Around} (hm:q.mg "enumerate" = none):ItE (q.at A) ⟨"enumerate", enI⟩:=by
 intro X fits gl tg args t qp pos mt hn pa hnil hdb hnm;have hm':X.mg "enumerate" = none:=by rw [fits.mg];exact hm
 intro pins s σ H R I h
 cases args with
 |nil =>
  obtain ⟨σ3,G,hs,ab,h⟩:=h;exact (hnil rfl _ _ _ h).elim
 |cons a r =>
  obtain ⟨s1,s2⟩:=xO (env:=X.env) (pos:=pos) hn;obtain ⟨σ3,G,hs,ab,h⟩:=h
  have h':=pG (S:=fun vs H1=>∃ x a1 vx,vs=[.ref a1]/\gK (bU x) X.K H1 a1 vx/\R (Ite 0 (bU x) X.K a1) H1) mt hs ab h fun ws G1 vs H1 g1 hs1 rs a1 h=>by
   dsimp only at h;unfold enI at h
   split at h
   .rename_i x;obtain ⟨v1,rfl,r1⟩:=kZ rs;obtain ⟨xs,ex,h⟩:=h;obtain ⟨p1,vx,rfl,sx,rx⟩:=fX a1 r1 ex;exact ⟨x,p1,vx,rfl,sx,h _ H1 g1 a1 (zkv r1 ex sx rx)⟩
   .exact h.elim
  refine Call_ (tL I gl hm' (by decide +kernel:bootBuiltins "enumerate" = some (.type "enumerate")) (PyProof.Rows.callWith_type1 (yG (pa pos pins s σ H _ I h') fun us s1 ⟨vs,H1,I1,r1,q1⟩=>?_) s1 s2));obtain ⟨x,a1,vx,e,sx,q⟩:=q1;subst e;obtain ⟨u1,rfl,ru1⟩:=qD r1;cases (show u1=Value.ref a1 from ru1);obtain ⟨itx,vvx,ssx,hzx⟩:=I1.sqB sx
  have lt1:a1<s1.heap.objs.size:=by
   cases hb:bU x<;>rw [hb] at ssx<;>(obtain ⟨o,ho,_⟩:=ssx;exact Heap.lt_size ho)
  refine ziq ssx fun h' z1 z2 z3=>?_;have J:Inv X pins σ H1 { s1 with heap:=h',toks:=s1.toks }:=I1.kept z3
  have hf:∀ b∈[s1.heap.objs.size+1,s1.heap.objs.size],vR X pins H1 b:=fun b hb=>by
   have hge:s1.heap.objs.size<=b:=by
    simp only [List.mem_cons,List.not_mem_nil,or_false] at hb;omega
   exact I1.fpOk hge (I1.hok.fresh hge)
  have tu:=zie (sn:=0) (b:=bU x) (e:=s1.heap.objs.size+1) (it:=s1.heap.objs.size) (l:=a1) X.prog X.w X.K tg (Nat.succ_ne_self _) (Nat.ne_of_lt (Nat.lt_succ_of_lt lt1)) (Nat.ne_of_lt lt1);have st:EnSt 0 (bU x) (s1.heap.objs.size+1) s1.heap.objs.size a1 0 h':=⟨.none,.bool false,.none,.inl rfl,.inl rfl,z1,z2⟩;exact tu.self X.A 0 { s1 with heap:=h' } _ _ st ⟨_,_,_,_,H1,rfl,J,tu,st,hf,q⟩
abbrev eEn:It3:=⟨"enumerate", enI⟩
theorem zkQ {q:Pr} {A:Around} (hm:q.mg "enumerate" = none):ItE (q.at A) eEn/\rN eEn:=⟨it_en hm,zfI⟩
end L3
namespace K13
open PySem PySem.Spec L2 L3
def pC (i:Nat):Stmt:=PySem.Challenge.pw_talkcourt_k13_read_loosely.main.body.getD i (.Pass ⟨0,0,0,0⟩)
def gls:List Str:=["LONGEST_NAME", "NO_NAMES", "JOINING", "BINDS_sayread", "TAKES", "MADE", "BINDS_saywrite", "SINGLE_BINDS", "LEAST", "BETWEEN", "str", "tuple", "sides_of", "name_of"]
def mts:List Str:=["pop", "join", "append", "extend", "index", "split"]
def its:List Str:=["range", "zip", "enumerate"]
def sxm:List (Scope->Expr->Option (List Expr)):=[lofM "reversed", rvM,hcM "sides_of", hcM "joined_by", hcM "single_text", uJ " )" ")", uJ "( " "(", uJ ")" " ) ", uJ "(" " ( ", uJ "\n" " ", fstM [some "not ", none],fstM [some "(", none,some ")"],gt2M "BINDS_saywrite"]
def fns:List Str:=(["max", "len", "all", "list", "isinstance", "_law_deal", "_law_draw", "_law_names", "_law_large", "sides_of", "all_within", "joined_text", "show_joined", "name_of", "show_saying", "_law_binds", "_law_at", "_law_text_words", "_law_shown", "put_together"]:List Str)++(["take_left", "begin_side", "go_on", "read_joined", "is_name", "read_word", "words_between_blanks", "words_and_brackets", "read_saying", "int", "_law_wrapped", "_law_joined", "law"]:List Str)
/- fn: 0 max,1 len,2 all,3 list,4 isinstance,5 _law_deal,6 _law_draw,7 _law_names,8 _law_large,9 sides_of,10 all_within,11 joined_text,12 show_joined,13 name_of,14 show_saying,15 _law_binds,16 _law_at,17 _law_text_words,18 _law_shown,19 put_together,20 take_left,21 begin_side,22 go_on,23 read_joined,24 is_name,25 read_word,26 words_between_blanks,27 words_and_brackets,28 read_saying,29 int,30 _law_wrapped,31 _law_joined,32 law -/
abbrev jS:Stmt:=pC 34
def fE:List Str:=["_law_script", "_law_base", "_law_cells", "_law_number", "_law_cell"]
def zcD:ISs:=(.cons (.asg 2 (.lc (.nm 0) ["_law_cell"] [] (.val (.sl (.var 0) (.yes (.var 1)) (.yes (.con (.int 63))))) .no (.call 0 (.cons (.var 0) (.cons (.bin .Sub (.con (.int 0)) (.var 0)) .nil)))))
 (.cons (.asg 3 (.bin .Add (.con (.int 7919)) (.var 1)))
 (.cons (.for (.nm 4) (.val (.var 2)) (.cons (.asg 3 (.bin .Mod (.bin .Add (.bin .Mult (.var 3) (.con (.int 69621))) (.bin .Mod (.var 4) (.con (.int 2147483629)))) (.con (.int 2147483647))))
 .nil))
 (.cons (.ret (.dct ["seed", "number", "left"] (.cons (.var 3) (.cons (.con (.int 0)) (.cons (.spc 0 (.cons (.lc (.nm 0) ["_law_cell"] [] (.val (.var 2)) (.yes (.cmp .GtE (.var 0) (.bin .Pow (.con (.int 10)) (.con (.int 18))))) (.var 0)) .nil)) .nil)))))
 .nil))))
def dW:MC:=⟨zZ jS,fE,(fun _=>true),fns.take 5,gls,mts,its,sxm,[]⟩
theorem zaZ:FnScope fE ["_law_script", "_law_base"] (zZ jS):=⟨rfl,rfl,rfl,by decide +kernel,rfl,by decide +kernel,by decide +kernel⟩
theorem cA:qE zcD dW (zQ jS)=true:=by decide +kernel
abbrev jT:Stmt:=pC 35
def fF:List Str:=["_law_deal_here", "_law_many", "_law_number", "_law_one", "_law_other"]
def zcC:ISs:=(.cons (.whl (.and (.cmp .Eq (.ix (.var 0) (.con (.str "number"))) (.con (.int 0))) (.cmp .Gt (.call 1 (.cons (.ix (.var 0) (.con (.str "left"))) .nil)) (.con (.int 0)))) (.cons (.asgI (.var 0) (.con (.str "number")) (.mth 0 (.ix (.var 0) (.con (.str "left"))) .nil))
 .nil))
 (.cons (.asg 2 (.ix (.var 0) (.con (.str "number"))))
 (.cons (.ite (.cmp .Gt (.var 2) (.con (.int 0))) (.cons (.asgI (.var 0) (.con (.str "number")) (.bin .FloorDiv (.var 2) (.var 1)))
 (.cons (.ret (.bin .Mod (.var 2) (.var 1)))
 .nil)) .nil)
 (.cons (.asg 3 (.bin .Mod (.bin .Add (.bin .Mult (.ix (.var 0) (.con (.str "seed"))) (.con (.int 48271))) (.con (.int 7919))) (.con (.int 2147483647))))
 (.cons (.asgI (.var 0) (.con (.str "seed")) (.bin .Mod (.bin .Add (.bin .Mult (.var 3) (.con (.int 40692))) (.con (.int 104729))) (.con (.int 2147483399))))
 (.cons (.asg 4 (.bin .Mod (.bin .Mult (.ix (.var 0) (.con (.str "seed"))) (.ix (.var 0) (.con (.str "seed")))) (.con (.int 2147483563))))
 (.cons (.ret (.bin .Mod (.bin .Add (.bin .Mult (.bin .Mod (.bin .Mult (.var 3) (.var 3)) (.con (.int 2147483629))) (.con (.int 2147483563))) (.var 4)) (.var 1)))
 .nil)))))))
def dX:MC:=⟨zZ jT,fF,(fun _=>true),fns.take 6,gls,mts,its,sxm,[]⟩
theorem zaY:FnScope fF ["_law_deal_here", "_law_many"] (zZ jT):=⟨rfl,rfl,rfl,by decide +kernel,rfl,by decide +kernel,by decide +kernel⟩
theorem cB:qE zcC dX (zQ jT)=true:=by decide +kernel
abbrev wR:Stmt:=pC 36
def tQ:List Str:=["_law_deal_here", "_law_many", "_law_letters", "_law_names_here", "_law_core", "_law_at_here", "_law_turn", "_law_k", "_law_name"]
def wM:ISs:=(.cons (.asg 2 (.con (.str "abcdefghijklmnopqrstuvwxyz")))
 (.cons (.asg 3 (.lst .nil))
 (.cons (.asg 4 (.mth 1 (.con (.str "")) (.cons (.lc (.nm 0) ["_law_k"] [2,0] (.blt 0 (.cons (.call 6 (.cons (.var 0) (.cons (.con (.int 5)) .nil))) .nil)) .no (.ix (.var 1) (.call 6 (.cons (.var 2) (.cons (.con (.int 26)) .nil))))) .nil)))
 (.cons (.asg 5 (.call 6 (.cons (.var 0) (.cons (.bin .Add (.call 1 (.cons (.var 4) .nil)) (.con (.int 1))) .nil))))
 (.cons (.asg 6 (.call 6 (.cons (.var 0) (.cons (.con (.int 26)) .nil))))
 (.cons (.for (.nm 7) (.blt 0 (.cons (.var 1) .nil)) (.cons (.asg 8 (.bin .Add (.bin .Add (.sl (.var 4) .no (.yes (.var 5))) (.ix (.var 2) (.bin .Mod (.bin .Add (.var 6) (.bin .Mult (.con (.int 7)) (.var 7))) (.con (.int 26))))) (.sl (.var 4) (.yes (.var 5)) .no)))
 (.cons (.ite (.cmp .In (.var 8) (.tup (.cons (.con (.str "and")) (.cons (.con (.str "or")) (.cons (.con (.str "not")) (.cons (.con (.str "then")) .nil)))))) (.cons (.asg 8 (.bin .Add (.var 8) (.con (.str "q"))))
 .nil) .nil)
 (.cons (.ex (.mth 2 (.var 3) (.cons (.var 8) .nil)))
 .nil))))
 (.cons (.ite (.and (.cmp .Gt (.var 1) (.con (.int 1))) (.cmp .Eq (.call 6 (.cons (.var 0) (.cons (.con (.int 2)) .nil))) (.con (.int 1)))) (.cons (.asgI (.var 3) (.con (.int 0)) (.bin .Add (.ix (.var 3) (.con (.int 0))) (.con (.str "z"))))
 .nil) .nil)
 (.cons (.ret (.var 3))
 .nil))))))))
def mQ:MC:=⟨zZ wR,tQ,(fun _=>true),fns.take 7,gls,mts,its,sxm,[]⟩
theorem zae:FnScope tQ ["_law_deal_here", "_law_many"] (zZ wR):=⟨rfl,rfl,rfl,by decide +kernel,rfl,by decide +kernel,by decide +kernel⟩
theorem dO:qE wM mQ (zQ wR)=true:=by decide +kernel
abbrev wQ:Stmt:=pC 37
def tP:List Str:=["_law_deal_here", "_law_names_here", "_law_many", "_law_deep", "_law_way", "_law_left", "_law_one", "_law_sort"]
def xY:ISs:=(.cons (.ite (.or (.cmp .Eq (.var 2) (.con (.int 1))) (.cmp .Eq (.var 3) (.con (.int 0)))) (.cons (.ret (.tup (.cons (.con (.str "say")) (.cons (.ix (.var 1) (.call 6 (.cons (.var 0) (.cons (.call 1 (.cons (.var 1) .nil)) .nil)))) .nil))))
 .nil) .nil)
 (.cons (.asg 4 (.call 6 (.cons (.var 0) (.cons (.con (.int 5)) .nil))))
 (.cons (.ite (.or (.cmp .Eq (.var 2) (.con (.int 2))) (.cmp .Eq (.var 4) (.con (.int 3)))) (.cons (.ret (.tup (.cons (.con (.str "not")) (.cons (.call 8 (.cons (.var 0) (.cons (.var 1) (.cons (.bin .Sub (.var 2) (.con (.int 1))) (.cons (.bin .Sub (.var 3) (.con (.int 1))) .nil))))) .nil))))
 .nil) .nil)
 (.cons (.asg 5 (.bin .Add (.con (.int 1)) (.call 6 (.cons (.var 0) (.cons (.bin .Sub (.var 2) (.con (.int 2))) .nil)))))
 (.cons (.ite (.cmp .Eq (.var 4) (.con (.int 4))) (.cons (.asg 5 (.bin .FloorDiv (.bin .Sub (.var 2) (.con (.int 1))) (.con (.int 2))))
 .nil) .nil)
 (.cons (.asg 6 (.call 8 (.cons (.var 0) (.cons (.var 1) (.cons (.var 5) (.cons (.bin .Sub (.var 3) (.con (.int 1))) .nil))))))
 (.cons (.asg 7 (.ix (.lst (.cons (.con (.str "and")) (.cons (.con (.str "or")) (.cons (.con (.str "if")) .nil)))) (.call 6 (.cons (.var 0) (.cons (.con (.int 3)) .nil)))))
 (.cons (.ret (.tup (.cons (.var 7) (.cons (.var 6) (.cons (.call 8 (.cons (.var 0) (.cons (.var 1) (.cons (.bin .Sub (.bin .Sub (.var 2) (.con (.int 1))) (.var 5)) (.cons (.bin .Sub (.var 3) (.con (.int 1))) .nil))))) .nil)))))
 .nil))))))))
def mP:MC:=⟨zZ wQ,tP,(fun _=>true),fns.take 9,gls,mts,its,sxm,[]⟩
theorem zaf:FnScope tP ["_law_deal_here", "_law_names_here", "_law_many", "_law_deep"] (zZ wQ):=⟨rfl,rfl,rfl,by decide +kernel,rfl,by decide +kernel,by decide +kernel⟩
theorem dN:qE xY mP (zQ wQ)=true:=by decide +kernel
abbrev xX:Stmt:=pC 11
def sV:List Str:=["saying"]
def vT:ISs:=(.cons (.ret (.ite (.cmp .Eq (.ix (.var 0) (.con (.int 0))) (.con (.str "say"))) (.tup .nil) (.sl (.var 0) (.yes (.con (.int 1))) .no)))
 .nil)
def zam:MC:=⟨zZ xX,sV,(fun _=>true),fns.take 9,gls,mts,its,sxm,[]⟩
theorem fU:FnScope sV ["saying"] (zZ xX):=⟨rfl,rfl,rfl,by decide +kernel,rfl,by decide +kernel,by decide +kernel⟩
theorem zas:qE vT zam (zQ xX)=true:=by decide +kernel
abbrev wT:Stmt:=pC 4
def tT:List Str:=["whole", "sides_of", "found", "waiting", "thing"]
def kK:ISs:=(.cons (.asg 2 (.lst .nil))
 (.cons (.asg 3 (.lst (.cons (.var 0) .nil)))
 (.cons (.whl (.var 3) (.cons (.asg 4 (.mth 0 (.var 3) .nil))
 (.cons (.ex (.mth 2 (.var 2) (.cons (.var 4) .nil)))
 (.cons (.ex (.mth 3 (.var 3) (.cons (.spc 1 (.cons (.spc 2 (.cons (.var 1) (.cons (.var 4) .nil))) .nil)) .nil)))
 .nil))))
 (.cons (.ret (.var 2))
 .nil))))
def mT:MC:=⟨zZ wT,tT,(fun _=>true),fns.take 10,gls,mts,its,sxm,[]⟩
theorem zac:FnScope tT ["whole", "sides_of"] (zZ wT):=⟨rfl,rfl,rfl,by decide +kernel,rfl,by decide +kernel,by decide +kernel⟩
theorem dQ:qE kK mT (zQ wT)=true:=by decide +kernel
abbrev xA:Stmt:=pC 32
def vF:List Str:=["word", "sides", "texts", "written", "side", "least", "text"]
def qG:ISs:=(.cons (.asg 3 (.lst .nil))
 (.cons (.for (.tup (.cons (.nm 4) (.cons (.nm 5) .nil))) (.blt 1 (.cons (.var 1) (.cons (.ix (.glb 8) (.var 0)) .nil))) (.cons (.asg 6 (.mth 0 (.var 2) .nil))
 (.cons (.ex (.mth 2 (.var 3) (.cons (.ite (.cmp .Lt (.spc 12 (.cons (.ix (.var 4) (.con (.int 0))) (.cons (.glb 7) .nil))) (.var 5)) (.spc 11 (.cons (.var 6) .nil)) (.var 6)) .nil)))
 .nil)))
 (.cons (.ite (.cmp .Eq (.var 0) (.con (.str "not"))) (.cons (.ret (.spc 10 (.cons (.ix (.var 3) (.con (.int 0))) .nil)))
 .nil) .nil)
 (.cons (.ret (.mth 1 (.ix (.glb 9) (.var 0)) (.cons (.var 3) .nil)))
 .nil))))
def pU:MC:=⟨zZ xA,vF,(fun _=>true),fns.take 11,gls,mts,its,sxm,[]⟩
theorem cF:FnScope vF ["word", "sides", "texts"] (zZ xA):=⟨rfl,rfl,rfl,by decide +kernel,rfl,by decide +kernel,by decide +kernel⟩
theorem hG:qE qG pU (zQ xA)=true:=by decide +kernel
abbrev xD:Stmt:=pC 31
def vI:List Str:=["whole", "joined_by", "single_text", "texts", "part", "sides"]
def qJ:ISs:=(.cons (.asg 3 (.lst .nil))
 (.cons (.for (.nm 4) (.val (.spc 1 (.cons (.call 10 (.cons (.var 0) (.cons (.var 1) .nil))) .nil))) (.cons (.asg 5 (.spc 3 (.cons (.var 1) (.cons (.var 4) .nil))))
 (.cons (.ex (.mth 2 (.var 3) (.cons (.ite (.var 5) (.call 11 (.cons (.ix (.var 4) (.con (.int 0))) (.cons (.var 5) (.cons (.var 3) .nil)))) (.spc 4 (.cons (.var 2) (.cons (.var 4) .nil)))) .nil)))
 .nil)))
 (.cons (.ret (.ix (.var 3) (.con (.int 0))))
 .nil)))
def pY:MC:=⟨zZ xD,vI,(fun _=>true),fns.take 12,gls,mts,its,sxm,[]⟩
theorem cJ:FnScope vI ["whole", "joined_by", "single_text"] (zZ xD):=⟨rfl,rfl,rfl,by decide +kernel,rfl,by decide +kernel,by decide +kernel⟩
theorem hV:qE qJ pY (zQ xD)=true:=by decide +kernel
abbrev xI:Stmt:=pC 30
def rA:List Str:=["saying"]
def tG:ISs:=(.cons (.ret (.ix (.var 0) (.con (.int 1))))
 .nil)
def zbP:MC:=⟨zZ xI,rA,(fun _=>true),fns.take 13,gls,mts,its,sxm,[]⟩
theorem bB:FnScope rA ["saying"] (zZ xI):=⟨rfl,rfl,rfl,by decide +kernel,rfl,by decide +kernel,by decide +kernel⟩
theorem za9:qE tG zbP (zQ xI)=true:=by decide +kernel
abbrev xE:Stmt:=pC 29
def vJ:List Str:=["saying"]
def qK:ISs:=(.cons (.ret (.call 12 (.cons (.var 0) (.cons (.glb 12) (.cons (.glb 13) .nil)))))
 .nil)
def pZ:MC:=⟨zZ xE,vJ,(fun _=>true),fns.take 14,gls,mts,its,sxm,[]⟩
theorem cK:FnScope vJ ["saying"] (zZ xE):=⟨rfl,rfl,rfl,by decide +kernel,rfl,by decide +kernel,by decide +kernel⟩
theorem hX:qE qK pZ (zQ xE)=true:=by decide +kernel
abbrev wP:Stmt:=pC 38
def tO:List Str:=["_law_saying"]
def kI:ISs:=(.cons (.ret (.mth 4 (.lst (.cons (.con (.str "if")) (.cons (.con (.str "or")) (.cons (.con (.str "and")) (.cons (.con (.str "not")) (.cons (.con (.str "say")) .nil)))))) (.cons (.ix (.var 0) (.con (.int 0))) .nil)))
 .nil)
def mN:MC:=⟨zZ wP,tO,(fun _=>true),fns.take 15,gls,mts,its,sxm,[]⟩
theorem zag:FnScope tO ["_law_saying"] (zZ wP):=⟨rfl,rfl,rfl,by decide +kernel,rfl,by decide +kernel,by decide +kernel⟩
theorem dM:qE kI mN (zQ wP)=true:=by decide +kernel
abbrev qV:Stmt:=pC 39
def fD:List Str:=["_law_saying", "_law_least", "_law_words"]
def pF:ISs:=(.cons (.asg 2 (.call 16 (.cons (.var 0) .nil)))
 (.cons (.ite (.cmp .Lt (.call 15 (.cons (.var 0) .nil)) (.var 1)) (.cons (.ret (.bin .Add (.bin .Add (.lst (.cons (.con (.str "(")) .nil)) (.var 2)) (.lst (.cons (.con (.str ")")) .nil))))
 .nil) .nil)
 (.cons (.ret (.var 2))
 .nil)))
def zbR:MC:=⟨zZ qV,fD,(fun _=>true),fns.take 16++(["_law_text_words"]:List Str),gls,mts,its,sxm,[]⟩
theorem zc4:FnScope fD ["_law_saying", "_law_least"] (zZ qV):=⟨rfl,rfl,rfl,by decide +kernel,rfl,by decide +kernel,by decide +kernel⟩
theorem zbb:qE pF zbR (zQ qV)=true:=by decide +kernel
abbrev yL:Stmt:=pC 40
def qY:List Str:=["_law_saying", "_law_binds_here"]
def wF:ISs:=(.cons (.ite (.cmp .Eq (.ix (.var 0) (.con (.int 0))) (.con (.str "say"))) (.cons (.ret (.lst (.cons (.ix (.var 0) (.con (.int 1))) .nil)))
 .nil) .nil)
 (.cons (.asg 1 (.call 15 (.cons (.var 0) .nil)))
 (.cons (.ite (.cmp .Eq (.ix (.var 0) (.con (.int 0))) (.con (.str "not"))) (.cons (.ret (.bin .Add (.lst (.cons (.con (.str "not")) .nil)) (.call 16 (.cons (.ix (.var 0) (.con (.int 1))) (.cons (.con (.int 3)) .nil)))))
 .nil) .nil)
 (.cons (.ite (.cmp .Eq (.ix (.var 0) (.con (.int 0))) (.con (.str "if"))) (.cons (.ret (.bin .Add (.bin .Add (.call 16 (.cons (.ix (.var 0) (.con (.int 1))) (.cons (.con (.int 1)) .nil))) (.lst (.cons (.con (.str "then")) .nil))) (.call 16 (.cons (.ix (.var 0) (.con (.int 2))) (.cons (.con (.int 0)) .nil)))))
 .nil) .nil)
 (.cons (.ret (.bin .Add (.bin .Add (.call 16 (.cons (.ix (.var 0) (.con (.int 1))) (.cons (.var 1) .nil))) (.lst (.cons (.ix (.var 0) (.con (.int 0))) .nil))) (.call 16 (.cons (.ix (.var 0) (.con (.int 2))) (.cons (.bin .Add (.var 1) (.con (.int 1))) .nil)))))
 .nil)))))
def vX:MC:=⟨zZ yL,qY,(fun _=>true),fns.take 16++(["_law_at"]:List Str),gls,mts,its,sxm,[]⟩
theorem rE:FnScope qY ["_law_saying"] (zZ yL):=⟨rfl,rfl,rfl,by decide +kernel,rfl,by decide +kernel,by decide +kernel⟩
theorem sO:qE wF vX (zQ yL)=true:=by decide +kernel
abbrev wS:Stmt:=pC 42
def tR:List Str:=["_law_saying"]
def kJ:ISs:=(.cons (.ret (.spc 5 (.cons (.spc 6 (.cons (.mth 1 (.con (.str " ")) (.cons (.call 17 (.cons (.var 0) .nil)) .nil)) .nil)) .nil)))
 .nil)
def mR:MC:=⟨zZ wS,tR,(fun _=>true),fns.take 18,gls,mts,its,sxm,[]⟩
theorem zad:FnScope tR ["_law_saying"] (zZ wS):=⟨rfl,rfl,rfl,by decide +kernel,rfl,by decide +kernel,by decide +kernel⟩
theorem dP:qE kJ mR (zQ wS)=true:=by decide +kernel
abbrev xQ:Stmt:=pC 23
def kH:List Str:=["word", "done", "last"]
def qX:ISs:=(.cons (.asg 2 (.mth 0 (.var 1) .nil))
 (.cons (.ite (.cmp .Eq (.var 0) (.con (.str "not"))) (.cons (.ex (.mth 2 (.var 1) (.cons (.tup (.cons (.con (.str "not")) (.cons (.var 2) .nil))) .nil)))
 .nil) (.cons (.ex (.mth 2 (.var 1) (.cons (.tup (.cons (.ix (.glb 5) (.var 0)) (.cons (.mth 0 (.var 1) .nil) (.cons (.var 2) .nil)))) .nil)))
 .nil))
 .nil))
def sI:MC:=⟨zZ xQ,kH,(fun _=>true),fns.take 19,gls,mts,its,sxm,[]⟩
theorem fT:FnScope kH ["word", "done"] (zZ xQ):=⟨rfl,rfl,rfl,by decide +kernel,rfl,by decide +kernel,by decide +kernel⟩
theorem nP:qE qX sI (zQ xQ)=true:=by decide +kernel
abbrev jV:Stmt:=pC 22
def rX:List Str:=["least", "done", "waiting"]
def uS:ISs:=(.cons (.whl (.and (.var 2) (.cmp .GtE (.ix (.glb 3) (.ix (.var 2) (.neg (.con (.int 1))))) (.var 0))) (.cons (.ex (.call 19 (.cons (.mth 0 (.var 2) .nil) (.cons (.var 1) .nil))))
 .nil))
 .nil)
def fC:MC:=⟨zZ jV,rX,(fun _=>true),fns.take 20,gls,mts,its,sxm,[]⟩
theorem zaW:FnScope rX ["least", "done", "waiting"] (zZ jV):=⟨rfl,rfl,rfl,by decide +kernel,rfl,by decide +kernel,by decide +kernel⟩
theorem cD:qE uS fC (zQ jV)=true:=by decide +kernel
abbrev wU:Stmt:=pC 20
def tU:List Str:=["thing", "done", "waiting"]
def jO:ISs:=(.cons (.ite (.call 4 (.cons (.var 0) (.cons (.glb 11) .nil))) (.cons (.ex (.mth 2 (.var 1) (.cons (.var 0) .nil)))
 (.cons (.ret (.con (.bool false)))
 .nil)) .nil)
 (.cons (.ite (.cmp .NotIn (.var 0) (.tup (.cons (.con (.str "not")) (.cons (.con (.str "(")) .nil)))) (.cons .dead
 .nil) .nil)
 (.cons (.ex (.mth 2 (.var 2) (.cons (.var 0) .nil)))
 (.cons (.ret (.con (.bool true)))
 .nil))))
def mU:MC:=⟨zZ wU,tU,(fun _=>true),fns.take 21,gls,mts,its,sxm,[]⟩
theorem zab:FnScope tU ["thing", "done", "waiting"] (zZ wU):=⟨rfl,rfl,rfl,by decide +kernel,rfl,by decide +kernel,by decide +kernel⟩
theorem dR:qE jO mU (zQ wU)=true:=by decide +kernel
abbrev sC:Stmt:=pC 21
def zdj:List Str:=["thing", "done", "waiting"]
def zb8:ISs:=(.cons (.ite (.or (.call 4 (.cons (.var 0) (.cons (.glb 11) .nil))) (.cmp .NotIn (.var 0) (.glb 4))) (.cons .dead
 .nil) .nil)
 (.cons (.ex (.call 20 (.cons (.ix (.glb 4) (.var 0)) (.cons (.var 1) (.cons (.var 2) .nil)))))
 (.cons (.ite (.cmp .NotEq (.var 0) (.con (.str ")"))) (.cons (.ex (.mth 2 (.var 2) (.cons (.var 0) .nil)))
 (.cons (.ret (.con (.bool true)))
 .nil)) .nil)
 (.cons (.ite (.not (.var 2)) (.cons .dead
 .nil) .nil)
 (.cons (.ex (.mth 0 (.var 2) .nil))
 (.cons (.ret (.con (.bool false)))
 .nil))))))
def zgg:MC:=⟨zZ sC,zdj,(fun _=>true),fns.take 22,gls,mts,its,sxm,[]⟩
theorem zgW:FnScope zdj ["thing", "done", "waiting"] (zZ sC):=⟨rfl,rfl,rfl,by decide +kernel,rfl,by decide +kernel,by decide +kernel⟩
theorem zdq:qE zb8 zgg (zQ sC)=true:=by decide +kernel
abbrev xB:Stmt:=pC 19
def vG:List Str:=["things", "done", "waiting", "lacking", "thing"]
def qH:ISs:=(.cons (.asg 1 (.lst .nil))
 (.cons (.asg 2 (.lst .nil))
 (.cons (.asg 3 (.con (.bool true)))
 (.cons (.for (.nm 4) (.val (.var 0)) (.cons (.ite (.var 3) (.cons (.asg 3 (.call 21 (.cons (.var 4) (.cons (.var 1) (.cons (.var 2) .nil)))))
 .nil) (.cons (.asg 3 (.call 22 (.cons (.var 4) (.cons (.var 1) (.cons (.var 2) .nil)))))
 .nil))
 .nil))
 (.cons (.ite (.var 3) (.cons .dead
 .nil) .nil)
 (.cons (.ex (.call 20 (.cons (.con (.int 1)) (.cons (.var 1) (.cons (.var 2) .nil)))))
 (.cons (.ite (.var 2) (.cons .dead
 .nil) .nil)
 (.cons (.ret (.ix (.var 1) (.con (.int 0))))
 .nil))))))))
def pW:MC:=⟨zZ xB,vG,(fun _=>true),fns.take 23,gls,mts,its,sxm,[]⟩
theorem cG:FnScope vG ["things"] (zZ xB):=⟨rfl,rfl,rfl,by decide +kernel,rfl,by decide +kernel,by decide +kernel⟩
theorem hJ:qE qH pW (zQ xB)=true:=by decide +kernel
abbrev qA:Stmt:=pC 10
def fI:List Str:=["thing"]
def pH:ISs:=(.cons (.ite (.or (.not (.call 4 (.cons (.var 0) (.cons (.glb 10) .nil)))) (.not (.chn .LtE .LtE (.con (.int 1)) (.call 1 (.cons (.var 0) .nil)) (.glb 0)))) (.cons (.ret (.con (.bool false)))
 .nil) .nil)
 (.cons (.ret (.and (.cmp .NotIn (.var 0) (.glb 1)) (.call 2 (.cons (.lc (.nm 0) ["sign"] [] (.val (.var 0)) .no (.chn .LtE .LtE (.con (.str "a")) (.var 0) (.con (.str "z")))) .nil))))
 .nil))
def zbQ:MC:=⟨zZ qA,fI,(fun _=>true),fns.take 24,gls,mts,its,sxm,[]⟩
theorem zc3:FnScope fI ["thing"] (zZ qA):=⟨rfl,rfl,rfl,by decide +kernel,rfl,by decide +kernel,by decide +kernel⟩
theorem zba:qE pH zbQ (zQ qA)=true:=by decide +kernel
abbrev jU:Stmt:=pC 18
def rW:List Str:=["word"]
def uR:ISs:=(.cons (.ite (.cmp .In (.var 0) (.glb 2)) (.cons (.ret (.var 0))
 .nil) .nil)
 (.cons (.ite (.not (.call 24 (.cons (.var 0) .nil))) (.cons .dead
 .nil) .nil)
 (.cons (.ret (.tup (.cons (.con (.str "say")) (.cons (.var 0) .nil))))
 .nil)))
def fB:MC:=⟨zZ jU,rW,(fun _=>true),fns.take 25,gls,mts,its,sxm,[]⟩
theorem zaX:FnScope rW ["word"] (zZ jU):=⟨rfl,rfl,rfl,by decide +kernel,rfl,by decide +kernel,by decide +kernel⟩
theorem cC:qE uR fB (zQ jU)=true:=by decide +kernel
abbrev yU:Stmt:=pC 5
def xT:List Str:=["row"]
def jC:ISs:=(.cons (.ret (.lc (.nm 0) ["word"] [] (.val (.mth 5 (.var 0) (.cons (.con (.str " ")) .nil))) (.yes (.var 0)) (.var 0)))
 .nil)
def jD:MC:=⟨zZ yU,xT,(fun _=>true),fns.take 26,gls,mts,its,sxm,[]⟩
theorem vM:FnScope xT ["row"] (zZ yU):=⟨rfl,rfl,rfl,by decide +kernel,rfl,by decide +kernel,by decide +kernel⟩
theorem kD:qE jC jD (zQ yU)=true:=by decide +kernel
abbrev yQ:Stmt:=pC 6
def wC:List Str:=["row"]
def xK:ISs:=(.cons (.ret (.call 26 (.cons (.spc 7 (.cons (.spc 8 (.cons (.var 0) .nil)) .nil)) .nil)))
 .nil)
def qP:MC:=⟨zZ yQ,wC,(fun _=>true),fns.take 27,gls,mts,its,sxm,[]⟩
theorem uA:FnScope wC ["row"] (zZ yQ):=⟨rfl,rfl,rfl,by decide +kernel,rfl,by decide +kernel,by decide +kernel⟩
theorem vB:qE xK qP (zQ yQ)=true:=by decide +kernel
abbrev xC:Stmt:=pC 17
def vH:List Str:=["text"]
def qI:ISs:=(.cons (.ite (.not (.call 4 (.cons (.var 0) (.cons (.glb 10) .nil)))) (.cons .dead
 .nil) .nil)
 (.cons (.ret (.call 23 (.cons (.lc (.nm 0) ["word"] [] (.val (.call 27 (.cons (.spc 9 (.cons (.var 0) .nil)) .nil))) .no (.call 25 (.cons (.var 0) .nil))) .nil)))
 .nil))
def pX:MC:=⟨zZ xC,vH,(fun _=>true),fns.take 28,gls,mts,its,sxm,[]⟩
theorem cH:FnScope vH ["text"] (zZ xC):=⟨rfl,rfl,rfl,by decide +kernel,rfl,by decide +kernel,by decide +kernel⟩
theorem hU:qE qI pX (zQ xC)=true:=by decide +kernel
abbrev xP:Stmt:=pC 43
def kF:List Str:=["_law_deal_here", "_law_saying", "_law_least", "_law_left", "_law_words", "_law_binds_here", "_law_one", "_law_other"]
def yF:ISs:=(.cons (.asg 4 (.lst (.cons (.ix (.var 1) (.con (.int 1))) .nil)))
 (.cons (.asg 5 (.call 15 (.cons (.var 1) .nil)))
 (.cons (.ite (.cmp .Eq (.ix (.var 1) (.con (.int 0))) (.con (.str "not"))) (.cons (.asg 4 (.bin .Add (.lst (.cons (.con (.str "not")) .nil)) (.call 30 (.cons (.var 0) (.cons (.ix (.var 1) (.con (.int 1))) (.cons (.con (.int 3)) (.cons (.var 3) .nil)))))))
 .nil) (.cons (.ite (.cmp .NotEq (.ix (.var 1) (.con (.int 0))) (.con (.str "say"))) (.cons (.asg 6 (.call 30 (.cons (.var 0) (.cons (.ix (.var 1) (.con (.int 1))) (.cons (.bin .Add (.var 5) (.call 29 (.cons (.cmp .Eq (.ix (.var 1) (.con (.int 0))) (.con (.str "if"))) .nil))) (.cons (.var 3) .nil))))))
 (.cons (.asg 7 (.call 30 (.cons (.var 0) (.cons (.ix (.var 1) (.con (.int 2))) (.cons (.bin .Add (.var 5) (.call 29 (.cons (.cmp .NotEq (.ix (.var 1) (.con (.int 0))) (.con (.str "if"))) .nil))) (.cons (.var 3) .nil))))))
 (.cons (.asg 4 (.bin .Add (.bin .Add (.var 6) (.lst (.cons (.ix (.lst (.cons (.ix (.var 1) (.con (.int 0))) (.cons (.con (.str "then")) .nil))) (.call 29 (.cons (.cmp .Eq (.ix (.var 1) (.con (.int 0))) (.con (.str "if"))) .nil))) .nil))) (.var 7)))
 .nil))) .nil)
 .nil))
 (.cons (.ite (.cmp .Lt (.var 5) (.var 2)) (.cons (.asg 4 (.bin .Add (.bin .Add (.lst (.cons (.con (.str "(")) .nil)) (.var 4)) (.lst (.cons (.con (.str ")")) .nil))))
 .nil) .nil)
 (.cons (.ite (.and (.cmp .Gt (.ix (.var 3) (.con (.int 0))) (.con (.int 0))) (.cmp .Eq (.call 6 (.cons (.var 0) (.cons (.con (.int 3)) .nil))) (.con (.int 0)))) (.cons (.asgI (.var 3) (.con (.int 0)) (.bin .Sub (.ix (.var 3) (.con (.int 0))) (.con (.int 1))))
 (.cons (.asg 4 (.bin .Add (.bin .Add (.lst (.cons (.con (.str "(")) .nil)) (.var 4)) (.lst (.cons (.con (.str ")")) .nil))))
 .nil)) .nil)
 (.cons (.ret (.var 4))
 .nil))))))
def sH:MC:=⟨zZ xP,kF,(fun _=>true),fns.take 31,gls,mts,its,sxm,[]⟩
theorem fS:FnScope kF ["_law_deal_here", "_law_saying", "_law_least", "_law_left"] (zZ xP):=⟨rfl,rfl,rfl,by decide +kernel,rfl,by decide +kernel,by decide +kernel⟩
theorem nO:qE yF sH (zQ xP)=true:=by decide +kernel
abbrev wZ:Stmt:=pC 41
def vE:List Str:=["_law_words", "_law_gaps", "_law_text", "_law_k", "_law_word", "_law_gap"]
def qF:ISs:=(.cons (.asg 2 (.con (.str "")))
 (.cons (.for (.tup (.cons (.nm 3) (.cons (.nm 4) .nil))) (.blt 2 (.cons (.var 0) .nil)) (.cons (.asg 5 (.ix (.var 1) (.bin .Mod (.var 3) (.call 1 (.cons (.var 1) .nil)))))
 (.cons (.ite (.and (.cmp .Gt (.var 3) (.con (.int 0))) (.and (.cmp .Eq (.var 5) (.con (.str ""))) (.and (.cmp .NotIn (.var 4) (.con (.str "()"))) (.cmp .NotIn (.ix (.var 0) (.bin .Sub (.var 3) (.con (.int 1)))) (.con (.str "()")))))) (.cons (.asg 5 (.con (.str " ")))
 .nil) .nil)
 (.cons (.asg 2 (.bin .Add (.bin .Add (.var 2) (.bin .Mult (.var 5) (.call 29 (.cons (.cmp .Gt (.var 3) (.con (.int 0))) .nil)))) (.var 4)))
 .nil))))
 (.cons (.ret (.var 2))
 .nil)))
def pS:MC:=⟨zZ wZ,vE,(fun _=>true),fns.take 31,gls,mts,its,sxm,[]⟩
theorem cE:FnScope vE ["_law_words", "_law_gaps"] (zZ wZ):=⟨rfl,rfl,rfl,by decide +kernel,rfl,by decide +kernel,by decide +kernel⟩
theorem gY:qE qF pS (zQ wZ)=true:=by decide +kernel
abbrev slaw:Stmt:=pC 44
def nlaw:List Str:=["_law_script", "_law_deal_here", "_law_names_here", "_law_saying", "_law_words", "_law_gaps", "_law_ahead", "_law_text", "_law_found"]
def blaw:ISs:=(.cons (.asg 1 (.call 5 (.cons (.var 0) (.cons (.con (.int 0)) .nil))))
 (.cons (.asg 2 (.call 7 (.cons (.var 1) (.cons (.bin .Add (.con (.int 1)) (.call 6 (.cons (.var 1) (.cons (.con (.int 4)) .nil)))) .nil))))
 (.cons (.ite (.cmp .Eq (.call 6 (.cons (.var 1) (.cons (.con (.int 2)) .nil))) (.con (.int 1))) (.cons (.ex (.mth 2 (.var 2) (.cons (.ix (.lst (.cons (.con (.str "nota")) (.cons (.con (.str "orb")) (.cons (.con (.str "band")) (.cons (.con (.str "theny")) (.cons (.con (.str "anot")) (.cons (.con (.str "andor")) (.cons (.con (.str "thenor")) (.cons (.con (.str "notnot")) .nil))))))))) (.call 6 (.cons (.var 1) (.cons (.con (.int 8)) .nil)))) .nil)))
 .nil) .nil)
 (.cons (.asg 3 (.call 8 (.cons (.var 1) (.cons (.var 2) (.cons (.bin .Add (.con (.int 1)) (.call 6 (.cons (.var 1) (.cons (.con (.int 20)) .nil)))) (.cons (.con (.int 10)) .nil))))))
 (.cons (.asg 4 (.call 30 (.cons (.var 1) (.cons (.var 3) (.cons (.con (.int 0)) (.cons (.lst (.cons (.call 6 (.cons (.var 1) (.cons (.con (.int 7)) .nil))) .nil)) .nil))))))
 (.cons (.asg 5 (.lc (.nm 0) ["_law_k"] [1] (.blt 0 (.cons (.con (.int 7)) .nil)) .no (.ix (.lst (.cons (.con (.str "")) (.cons (.con (.str " ")) (.cons (.con (.str "  ")) (.cons (.con (.str "\n")) (.cons (.con (.str " \n ")) .nil)))))) (.call 6 (.cons (.var 1) (.cons (.con (.int 5)) .nil))))))
 (.cons (.asg 6 (.ix (.lst (.cons (.con (.str "")) (.cons (.con (.str " ")) (.cons (.con (.str "\n")) (.cons (.con (.str "  \n")) .nil))))) (.call 6 (.cons (.var 1) (.cons (.con (.int 4)) .nil)))))
 (.cons (.asg 7 (.bin .Add (.bin .Add (.var 6) (.call 31 (.cons (.var 4) (.cons (.var 5) .nil)))) (.ix (.lst (.cons (.con (.str "")) (.cons (.con (.str " ")) (.cons (.con (.str "\n\n")) .nil)))) (.call 6 (.cons (.var 1) (.cons (.con (.int 3)) .nil))))))
 (.cons (.asg 8 (.call 28 (.cons (.var 7) .nil)))
 (.cons (.ret (.and (.cmp .Eq (.var 8) (.var 3)) (.and (.cmp .Eq (.call 14 (.cons (.var 8) .nil)) (.call 18 (.cons (.var 3) .nil))) (.cmp .Eq (.call 28 (.cons (.call 14 (.cons (.var 8) .nil)) .nil)) (.var 3)))))
 .nil))))))))))
def mlaw:MC:=⟨zZ slaw,nlaw,(fun _=>true),fns.take 32,gls,mts,its,sxm,[]⟩
theorem sclaw:FnScope nlaw ["_law_script"] (zZ slaw):=⟨rfl,rfl,rfl,by decide +kernel,rfl,by decide +kernel,by decide +kernel⟩
theorem zhy:qE blaw mlaw (zQ slaw)=true:=by decide +kernel
end K13
namespace K13
open PySem PySem.Spec PyProof.Rows L2 L3
open PySem.W (nsIn keepIn codeIn mg_of findIn mg_none_of fnOf)
def noN:List Str:=["and", "or", "not", "then"]
def ltB (c:Nat):Bool:=decide (97<=c)&&decide (c<=122)
def xN (x:Str):Bool:=x.cps.toList.all ltB
def gP (x:Str):Bool:=decide (1<=x.length)&&decide (x.length<=6)&&!noN.contains x&&xN x
inductive Sy where
 |say (x:Str)|neg (a:Sy)|two (k:Nat) (a b:Sy)
def kw:Nat->Str
 | 0 => "and"
 | 1 => "or"
 |_ => "if"
def Sy.w:Sy->W
 | .say x=>.tup [.str "say", .str x]
 | .neg a=>.tup [.str "not", a.w]
 | .two k a b=>.tup [.str (kw k),a.w,b.w]
def Sy.size:Sy->Nat
 | .say _=>1
 | .neg a=>a.size+1
 | .two _ a b=>a.size+b.size+1
def Sy.deep:Sy->Nat
 | .say _=>0
 | .neg a=>a.deep+1
 | .two _ a b=>max a.deep b.deep+1
def Sy.ok:Sy->Prop
 | .say x=>gP x=true
 | .neg a=>a.ok
 | .two _ a b=>a.ok/\b.ok
def bd:Sy->Nat
 | .say _=>5
 | .neg _=>4
 | .two 0 _ _=>3
 | .two 1 _ _=>2
 | .two _ _ _=>1
def lA:Nat->Nat
 | 0=>3
 |_=>2
def lB:Nat->Nat
 | 0=>4
 | 1=>3
 |_=>1
inductive Tk where
 |nm (x:Str)|lp|rp|nt|op (k:Nat)
def jw:Nat->Str
 | 0 => "and"
 | 1 => "or"
 |_ => "then"
def Tk.s:Tk->Str
 | .nm x=>x
 | .lp => "("
 | .rp => ")"
 | .nt => "not"
 | .op k=>jw k
def br (n:Nat) (a:Sy) (l:List Tk):List Tk:=if bd a<n then .lp::(l++[.rp]) else l
def tw:Sy->List Tk
 | .say x=>[.nm x]
 | .neg a=>.nt::br 4 a (tw a)
 | .two k a b=>br (lA k) a (tw a)++.op k::br (lB k) b (tw b)
def bin:Tk->Nat
 | .nt=>4
 | .op 0=>3
 | .op 1=>2
 | .op _=>1
 |_=>0
def pt:Tk->List Sy->List Sy
 | .nt,a::D=>.neg a::D
 | .op k,b::a::D=>.two k a b::D
 |_,D=>D
def tl (m:Nat):List Sy->List Tk->List Sy×List Tk
 |D,[]=>(D,[])
 |D,w::V=>if m<=bin w then tl m (pt w D) V else (D,w::V)
abbrev St:=List Sy×List Tk×Bool
def step:St->Tk->St
 | (D,V,true),.nm x=>(.say x::D,V,false)
 | (D,V,true),t=>(D,t::V,true)
 | (D,V,false),.op k=>((tl (lA k) D V).1,.op k::(tl (lA k) D V).2,true)
 | (D,V,false),_=>((tl 1 D V).1,(tl 1 D V).2.drop 1,false)
def run (s:St) (l:List Tk):St:=l.foldl step s
theorem za1 (s:St) (a b:List Tk):run s (a++b)=run (run s a) b:=List.foldl_append
def Low (n:Nat) (V:List Tk):Prop:=match V with
 | []=>True
 |w::_=>bin w<n
def need:Sy->Nat
 | .two k _ _=>lA k
 |_=>5
theorem zbw {m:Nat} {D:List Sy} {V:List Tk} (h:Low m V):tl m D V=(D,V):=by
 cases V with
 |nil=>rfl
 |cons w V =>
  unfold tl;rw [if_neg (Nat.not_le.mpr h)]
theorem zal {k:Nat} {a:Sy} (h:¬ bd a<lA k):lA k<=need a:=by
 cases a with
 |say x=>match k with|0=>show 3<=5;decide|k+1=>show 2<=5;decide
 |neg a=>match k with|0=>show 3<=5;decide|k+1=>show 2<=5;decide
 |two j a b=>match k,j,h with
  | 0,0,_=>show 3<=3;decide
  | 0,1,h=>exact absurd (by show 2<3;decide) h
  | 0,j+2,h=>exact absurd (by show 1<3;decide) h
  |k+1,0,_=>show 2<=3;decide
  |k+1,1,_=>show 2<=2;decide
  |k+1,j+2,_=>show 2<=2;decide
theorem fH {k:Nat} {b:Sy} (h:¬ bd b<lB k):bin (.op k)<need b:=by
 cases b with
 |say x=>match k with|0=>show 3<5;decide|1=>show 2<5;decide|k+2=>show 1<5;decide
 |neg a=>match k with|0=>show 3<5;decide|1=>show 2<5;decide|k+2=>show 1<5;decide
 |two j a b=>match k,j,h with
  | 0,0,h=>exact absurd (by show 3<4;decide) h
  | 0,1,h=>exact absurd (by show 2<4;decide) h
  | 0,j+2,h=>exact absurd (by show 1<4;decide) h
  | 1,0,_=>show 2<3;decide
  | 1,1,h=>exact absurd (by show 2<3;decide) h
  | 1,j+2,h=>exact absurd (by show 1<3;decide) h
  |k+2,0,_=>show 1<3;decide
  |k+2,1,_=>show 1<2;decide
  |k+2,j+2,_=>show 1<2;decide
theorem zbN {a:Sy} (h:¬ bd a<4):need a=5:=by
 cases a with
 |say x=>rfl
 |neg a=>rfl
 |two j a b=>match j,h with
  | 0,h=>exact absurd (by show 3<4;decide) h
  | 1,h=>exact absurd (by show 2<4;decide) h
  |j+2,h=>exact absurd (by show 1<4;decide) h
theorem ze9 (t:Sy):2<=need t:=by
 cases t with
 |say x=>show 2<=5;decide
 |neg a=>show 2<=5;decide
 |two k a b=>match k with|0=>show 2<=3;decide|k+1=>show 2<=2;decide
theorem Low.mono {m n:Nat} {V:List Tk} (h:Low m V) (hm:m<=n):Low n V:=by
 cases V with
 |nil=>trivial
 |cons w V=>exact Nat.lt_of_lt_of_le h hm
def Rd (D:List Sy) (V:List Tk) (t:Sy) (n:Nat) (s:St):Prop:=∃ D' V',s=(D',V',false)/\∀ m,1<=m->m<=n->tl m D' V'=tl m (t::D) V
theorem nF (a b:Str):(a++b).cps.toList=a.cps.toList++b.cps.toList:=by rw [Str.cps_append,Array.toList_append]
theorem tY {a b:Nat} {z u u' v v':List Nat} (h:Rp [a,b] z u u') (h2:Rp [a,b] z v v'):(u.getLast?≠some a\/v.head?≠some b)->Rp [a,b] z (u++v) (u'++v'):=by
 induction h with
 |nil=>intro _;exact h2
 | @hit r s _ ih =>
  intro hb;rw [List.append_assoc,List.append_assoc];refine .hit (ih ?_)
  cases r with
  |nil=>left;simp
  |cons x r =>
   rcases hb with hb|hb
   .left;simpa using hb
   .right;exact hb
 | @skip k r s n _ ih =>
  intro hb
  cases r with
  |nil =>
   refine .skip ?_ (ih (.inl (by simp)));rintro ⟨t,e⟩;rcases hb with hb|hb
   .injection e with e1 e2
    exact hb (by rw [e1];rfl)
   .injection e with e1 e2
    exact hb (by have e2:[b]++t=v:=e2;rw [← e2];rfl)
  |cons x r =>
   refine .skip ?_ (ih (by
    rcases hb with hb|hb
    .left;simpa using hb
    .right;exact hb))
   rintro ⟨t,e⟩
   injection e with e1 e2
   injection e2 with e2 e3
   exact n ⟨r,by rw [e1,e2];rfl⟩
theorem pA {a b:Nat} {z:List Nat}:∀ {u:List Nat},a∉u->Rp [a,b] z u u
 | [],_=>.nil
 |k::r,h=>by
  simp only [List.mem_cons,not_or] at h;refine .skip ?_ (pA h.2);rintro ⟨t,e⟩
  injection e with e1 _
  exact h.1 e1
theorem zc6 {a b:Nat} {z:List Nat}:∀ {u:List Nat},b∉u->Rp [a,b] z u u
 | [],_=>.nil
 |k::r,h=>by
  simp only [List.mem_cons,not_or] at h;refine .skip ?_ (zc6 h.2);rintro ⟨t,e⟩
  injection e with _ e2
  exact h.2 (by rw [← e2];exact zzT)
theorem fR {c:Nat} {z:List Nat}:∀ x:List Nat,Rp [c] z x (x.flatMap fun k=>if k=c then z else [k])
 | []=>.nil
 |k::r=>by
  rw [List.flatMap_cons]
  by_cases h:k=c
  .subst h;rw [if_pos rfl];exact .hit (fR r)
  .rw [if_neg h];refine .skip ?_ (fR r);rintro ⟨t,e⟩
   injection e with e1 _
   exact h e1.symm
theorem fQ {x y z:Str} {s:List Nat} (hy:1<=y.length) (h:Rp y.cps.toList z.cps.toList x.cps.toList s):(Txt.replace x y z).cps.toList=s :=
 Rp.det (fun e=>by have:=vW y;rw [e] at this;simp at this;omega) (zf0 x y z hy) h
def bw:Nat->Str
 | 0 => " and "
 | 1 => " or "
 |_ => " then "
def bS (n:Nat) (a:Sy) (s:Str):Str:=if bd a<n then "(" ++ s ++ ")" else s
def sh:Sy->Str
 | .say x=>x
 | .neg a => "not " ++ bS 4 a (sh a)
 | .two k a b=>bS (lA k) a (sh a)++bw k++bS (lB k) b (sh b)
def c (t:Tk):List Nat:=t.s.cps.toList
def jn:List (List Nat)->List Nat
 | []=>[]
 | [p]=>p
 |p::q::r=>p++32::jn (q::r)
theorem nH:∀ (a b:List (List Nat)),a≠[]->b≠[]->jn (a++b)=jn a++32::jn b
 | [],_,h,_=>absurd rfl h
 | [p],b,_,hb=>by
  cases b with
  |nil=>exact absurd rfl hb
  |cons q r=>rfl
 |p::q::r,b,_,hb=>by
  have ih:=nH (q::r) b (by simp) hb;show p++32::jn ((q::r)++b)=(p++32::jn (q::r))++32::jn b;rw [ih];simp
theorem jn_is:∀ ts:List Str,(Txt.join " " ts).cps.toList=jn (ts.map (·.cps.toList)):=by
 intro ts;unfold Txt.join;rw [StrLaws.glued_eq_join]
 induction ts with
 |nil=>rfl
 |cons p r ih =>
  cases r with
  |nil=>rfl
  |cons q r =>
   show (p ++ " " ++ Str.join " " (q::r)).cps.toList=_;rw [nF,nF,ih];have:(" " : Str).cps.toList=[32]:=by decide +kernel
   rw [this];simp [jn]
def b1 (n:Nat) (a:Sy) (l:List Nat):List Nat:=if bd a<n then 40::(l++[32,41]) else l
def b2 (n:Nat) (a:Sy) (l:List Nat):List Nat:=if bd a<n then 40::(l++[41]) else l
def jc (k:Nat):List Nat:=(jw k).cps.toList
def nc:List Nat:=[110,111,116]
def s1:Sy->List Nat
 | .say x=>x.cps.toList
 | .neg a=>nc++32::b1 4 a (s1 a)
 | .two k a b=>b1 (lA k) a (s1 a)++32::(jc k++32::b1 (lB k) b (s1 b))
def s2:Sy->List Nat
 | .say x=>x.cps.toList
 | .neg a=>nc++32::b2 4 a (s2 a)
 | .two k a b=>b2 (lA k) a (s2 a)++32::(jc k++32::b2 (lB k) b (s2 b))
theorem zis {n:Nat} {a:Sy} {s:Str}:(bS n a s).cps.toList=b2 n a s.cps.toList:=by
 unfold bS b2
 split
 .rw [nF,nF,show ("(" : Str).cps.toList=[40] by decide +kernel,show (")" : Str).cps.toList=[41] by decide +kernel];simp
 .rfl
theorem bw_is (k:Nat):(bw k).cps.toList=32::(jc k++[32]):=by
 match k with
 | 0=>decide +kernel
 | 1=>decide +kernel
 |k+2=>show (" then " : Str).cps.toList=32::(("then" : Str).cps.toList++[32]);decide +kernel
theorem zcZ:∀ t:Sy,(sh t).cps.toList=s2 t
 | .say x=>rfl
 | .neg a=>by
  show ("not " ++ bS 4 a (sh a)).cps.toList=_;rw [nF,zis,zcZ a,show ("not " : Str).cps.toList=[110,111,116,32] by decide +kernel];rfl
 | .two k a b=>by
  show (bS (lA k) a (sh a)++bw k++bS (lB k) b (sh b)).cps.toList=_;rw [nF,nF,zis,zis,zcZ a,zcZ b,bw_is];simp [s2]
theorem jH {x:Str} (h:gP x=true):x.cps.toList≠[]/\∀ k∈x.cps.toList,97<=k:=by
 simp only [gP,xN,ltB,Bool.and_eq_true,decide_eq_true_eq,List.all_eq_true] at h;refine ⟨fun e=>?_,fun k hk=>(h.2 k hk).1⟩;have:=vW x;rw [e] at this;have h1:=h.1.1.1;simp at this;omega
theorem rR (k:Nat):jc k≠[]/\∀ j∈jc k,97<=j:=by
 match k with
 | 0=>decide +kernel
 | 1=>decide +kernel
 |k+2=>show (("then" : Str).cps.toList≠[]/\∀ j∈("then" : Str).cps.toList,97<=j);decide +kernel
structure Fine (l:List Nat):Prop where
 h1:l.head?≠some 32
 h2:l.head?≠some 41
 e1:l.getLast?≠some 40
 e2:l.getLast?≠some 32
theorem pL {l:List Nat} (hn:l≠[]) (h:∀ k∈l,97<=k):Fine l:=by
 refine ⟨fun e=>?_,fun e=>?_,fun e=>?_,fun e=>?_⟩
 .have:=h 32 (List.mem_of_head? e);omega
 .have:=h 41 (List.mem_of_head? e);omega
 .have:=h 40 (List.mem_of_getLast? e);omega
 .have:=h 32 (List.mem_of_getLast? e);omega
theorem pM {u v w:List Nat} (hu:u≠[]) (hw:w≠[]) (a:Fine u) (b:Fine w):Fine (u++v++w):=by
 obtain ⟨x,u',rfl⟩:=List.exists_cons_of_ne_nil hu
 have gl:(x::u'++v++w).getLast?=w.getLast?:=by
  rw [List.getLast?_append]
  cases e:w.getLast? with
  |none=>exact absurd (List.getLast?_eq_none_iff.mp e) hw
  |some _=>rfl
 exact ⟨a.h1,a.h2,by rw [gl];exact b.e1,by rw [gl];exact b.e2⟩
theorem zdQ {l:List Nat}:Fine (40::(l++[32,41]))/\Fine (40::(l++[41])):=by
 constructor<;>refine ⟨by simp,by simp,?_,?_⟩<;>simp [List.getLast?_cons,List.getLast?_append]
theorem zit {n:Nat} {a:Sy} {l:List Nat} (h:l≠[]):b1 n a l≠[]:=by unfold b1;split<;>simp [h]
theorem sS {n:Nat} {a:Sy} {l:List Nat} (h:Fine l):Fine (b1 n a l):=by
 unfold b1
 split
 .exact zdQ.1
 .exact h
theorem qN:∀ t:Sy,t.ok->s1 t≠[]/\Fine (s1 t)
 | .say x,h=>⟨(jH h).1,pL (jH h).1 (jH h).2⟩
 | .neg a,h=>by
  have ia:=qN a h;refine ⟨by simp [s1,nc],?_⟩;have:=pM (u:=nc) (v:=[32]) (by simp [nc]) (zit (n:=4) (a:=a) ia.1) (pL (by simp [nc]) (by simp [nc])) (sS (n:=4) (a:=a) ia.2);simpa [s1] using this
 | .two k a b,h=>by
  have ia:=qN a h.1;have ib:=qN b h.2;refine ⟨by simp [s1],?_⟩;have:=pM (v:=32::(jc k++[32])) (zit (n:=lA k) (a:=a) ia.1) (zit (n:=lB k) (a:=b) ib.1) (sS (n:=lA k) (a:=a) ia.2) (sS (n:=lB k) (a:=b) ib.2);simpa [s1] using this
def b0 (n:Nat) (a:Sy) (l:List Nat):List Nat:=if bd a<n then 40::(32::(l++[32,41])) else l
def s0:Sy->List Nat
 | .say x=>x.cps.toList
 | .neg a=>nc++32::b0 4 a (s0 a)
 | .two k a b=>b0 (lA k) a (s0 a)++32::(jc k++32::b0 (lB k) b (s0 b))
theorem ziJ:∀ t:Sy,tw t≠[]
 | .say x=>by simp [tw]
 | .neg a=>by simp [tw]
 | .two k a b=>by simp [tw]
theorem zir {n:Nat} {a:Sy}:br n a (tw a)≠[]:=by unfold br;split;simp;exact ziJ a
theorem c_lp:c .lp=[40]:=by show ("(" : Str).cps.toList=_;decide +kernel
theorem c_rp:c .rp=[41]:=by show (")" : Str).cps.toList=_;decide +kernel
theorem c_nt:c .nt=nc:=by show ("not" : Str).cps.toList=_;decide +kernel
theorem zhF {n:Nat} {a:Sy} {l:List Nat} (h:jn ((tw a).map c)=l):jn ((br n a (tw a)).map c)=b0 n a l:=by
 unfold br b0
 split
 .have hm:(tw a).map c≠[]:=by simpa using ziJ a
  rw [zzU,List.map_append,show c .lp::((tw a).map c++[Tk.rp].map c)=[c .lp]++((tw a).map c++[c .rp]) from rfl,nH _ _ (by simp) (by simp),nH _ _ hm (by simp),h,c_lp,c_rp];simp [jn]
 .exact h
theorem zfo:∀ t:Sy,jn ((tw t).map c)=s0 t
 | .say x=>rfl
 | .neg a=>by
  have hb:(br 4 a (tw a)).map c≠[]:=by simpa using zir (n:=4) (a:=a)
  show jn ([c .nt]++(br 4 a (tw a)).map c)=_;rw [nH _ _ (by simp) hb,zhF (zfo a),c_nt];rfl
 | .two k a b=>by
  have ha:(br (lA k) a (tw a)).map c≠[]:=by simpa using zir (n:=lA k) (a:=a)
  have hb:(br (lB k) b (tw b)).map c≠[]:=by simpa using zir (n:=lB k) (a:=b)
  show jn ((br (lA k) a (tw a)++.op k::br (lB k) b (tw b)).map c)=_;rw [List.map_append,zzU,show c (.op k)::(br (lB k) b (tw b)).map c=[c (.op k)]++(br (lB k) b (tw b)).map c from rfl,nH _ _ ha (by simp),nH _ _ (by simp) hb,zhF (zfo a),zhF (zfo b)];rfl
theorem ziu {n:Nat} {a:Sy} {l:List Nat} (h:l≠[]):b0 n a l≠[]:=by unfold b0;split<;>simp [h]
theorem gM {n:Nat} {a:Sy} {l:List Nat} (h:Fine l):Fine (b0 n a l):=by
 unfold b0
 split
 .have:=(zdQ (l:=32::(l++[32]))).2;simpa using this
 .exact h
theorem vL:∀ t:Sy,t.ok->s0 t≠[]/\Fine (s0 t)
 | .say x,h=>⟨(jH h).1,pL (jH h).1 (jH h).2⟩
 | .neg a,h=>by
  have ia:=vL a h;refine ⟨by simp [s0,nc],?_⟩;have:=pM (u:=nc) (v:=[32]) (by simp [nc]) (ziu (n:=4) (a:=a) ia.1) (pL (by simp [nc]) (by simp [nc])) (gM (n:=4) (a:=a) ia.2);simpa [s0] using this
 | .two k a b,h=>by
  have ia:=vL a h.1;have ib:=vL b h.2;refine ⟨by simp [s0],?_⟩;have:=pM (v:=32::(jc k++[32])) (ziu (n:=lA k) (a:=a) ia.1) (ziu (n:=lB k) (a:=b) ib.1) (gM (n:=lA k) (a:=a) ia.2) (gM (n:=lB k) (a:=b) ib.2);simpa [s0] using this
theorem rT {k:Nat} (hk:k<97) {l:List Nat} (h:∀ j∈l,97<=j):k∉l:=fun m=>by have:=h k m;omega
theorem zg1 {n:Nat} {a:Sy} (f:Fine (s0 a)) (h:Rp [40,32] [40] (s0 a) (s1 a)):Rp [40,32] [40] (b0 n a (s0 a)) (b1 n a (s1 a)):=by
 unfold b0 b1
 split
 .exact .hit (y:=[40,32]) (z:=[40]) (tY h (pA (by simp)) (.inl f.e1))
 .exact h
theorem rpA:∀ t:Sy,t.ok->Rp [40,32] [40] (s0 t) (s1 t)
 | .say x,h=>pA (rT (by decide) (jH h).2)
 | .neg a,h=>by
  have:=tY (u:=nc++[32]) (u':=nc++[32]) (pA (z:=[40]) (by simp [nc])) (zg1 (n:=4) (vL a h).2 (rpA a h)) (.inl (by simp [nc]));simpa [s0,s1] using this
 | .two k a b,h=>by
  have hk:40∉jc k:=rT (by decide) (rR k).2;have m:=tY (u:=32::(jc k++[32])) (u':=32::(jc k++[32])) (pA (z:=[40]) (by simp [hk])) (zg1 (n:=lB k) (vL b h.2).2 (rpA b h.2)) (.inl (by simp [List.getLast?_cons,List.getLast?_append]));have:=tY (zg1 (n:=lA k) (vL a h.1).2 (rpA a h.1)) m (.inl (gM (n:=lA k) (a:=a) (vL a h.1).2).e1);simpa [s0,s1] using this
theorem zg0 {n:Nat} {a:Sy} (f:Fine (s1 a)) (h:Rp [32,41] [41] (s1 a) (s2 a)):Rp [32,41] [41] (b1 n a (s1 a)) (b2 n a (s2 a)):=by
 unfold b1 b2
 split
 .refine .skip ?_ (tY h (.hit (y:=[32,41]) (z:=[41]) .nil) (.inl f.e2));rintro ⟨t,e⟩
  injection e with e1 _
  cases e1
 .exact h
theorem rpB:∀ t:Sy,t.ok->Rp [32,41] [41] (s1 t) (s2 t)
 | .say x,h=>pA (rT (by decide) (jH h).2)
 | .neg a,h=>by
  have:=tY (u:=nc++[32]) (u':=nc++[32]) (zc6 (z:=[41]) (by simp [nc])) (zg0 (n:=4) (qN a h).2 (rpB a h)) (.inr (sS (n:=4) (a:=a) (qN a h).2).h2);simpa [s1,s2] using this
 | .two k a b,h=>by
  have hk:41∉jc k:=rT (by decide) (rR k).2;have m:=tY (u:=32::(jc k++[32])) (u':=32::(jc k++[32])) (zc6 (z:=[41]) (by simp [hk])) (zg0 (n:=lB k) (qN b h.2).2 (rpB b h.2)) (.inr (sS (n:=lB k) (a:=b) (qN b h.2).2).h2);have:=tY (zg0 (n:=lA k) (qN a h.1).2 (rpB a h.1)) m (.inl (sS (n:=lA k) (a:=a) (qN a h.1).2).e2);simpa [s1,s2] using this
theorem shown (t:Sy) (h:t.ok):Txt.replace (Txt.replace (Txt.join " " ((tw t).map Tk.s)) "( " "(") " )" ")" = sh t:=by
 apply zcS;rw [zcZ];refine fQ (by decide +kernel) ?_;rw [fQ (s:=s1 t) (by decide +kernel) ?_]
 .have e1:(" )" : Str).cps.toList=[32,41]:=by decide +kernel
  have e2:(")" : Str).cps.toList=[41]:=by decide +kernel
  rw [e1,e2];exact rpB t h
 .have e1:("( " : Str).cps.toList=[40,32]:=by decide +kernel
  have e2:("(" : Str).cps.toList=[40]:=by decide +kernel
  rw [e1,e2,jn_is,List.map_map];show Rp _ _ (jn ((tw t).map c)) _;rw [zfo];exact rpA t h
def ex1 (k:Nat):List Nat:=if k=40 then [32,40,32] else [k]
def ex2 (k:Nat):List Nat:=if k=41 then [32,41,32] else [k]
def ex (l:List Nat):List Nat:=(l.flatMap ex1).flatMap ex2
theorem qR (a b:List Nat):ex (a++b)=ex a++ex b:=by simp [ex]
theorem dB:∀ {l:List Nat},(∀ k∈l,97<=k)->ex l=l
 | [],_=>rfl
 |k::l,h=>by
  have hk:=h k zzT;have e:ex [k]=[k]:=by simp [ex,ex1,ex2,show k≠40 by omega,show k≠41 by omega]
  have:=qR [k] l;rw [show k::l=[k]++l from rfl,this,e,dB fun j hj=>h j (List.mem_cons_of_mem _ hj)]
theorem zfD (l:List Nat):ex (32::l)=32::ex l:=by rw [show (32::l:List Nat)=[32]++l from rfl,qR];rfl
theorem zbt {l:List Nat} (hn:l≠[]) (h:∀ k∈l,97<=k):wd l=[l]:=by
 rw [zgI (rT (by decide) h)]
 cases l with
 |nil=>exact absurd rfl hn
 |cons _ _=>rfl
theorem wd_b {n:Nat} {a:Sy} {l:List Nat} {ws:List (List Nat)} (h:wd (ex l)=(tw a).map c):wd (ex (b2 n a l))=(br n a (tw a)).map c:=by
 unfold b2 br
 split
 .have e:ex (40::(l++[41]))=[]++32::([40]++32::(ex l++32::([41]++32::[]))):=by
   rw [show (40::(l++[41]):List Nat)=[40]++(l++[41]) from rfl,qR,qR];rfl
  rw [e,jB,jB,jB,jB,h,show wd [40]=[[40]] from rfl,show wd [41]=[[41]] from rfl,show wd []=[] from rfl,zzU,List.map_append,c_lp,zzU,c_rp];rfl
 .exact h
theorem zeq:∀ t:Sy,t.ok->wd (ex (s2 t))=(tw t).map c
 | .say x,h=>by
  show wd (ex x.cps.toList)=[x.cps.toList];rw [dB (jH h).2,zbt (jH h).1 (jH h).2]
 | .neg a,h=>by
  show wd (ex (nc++32::b2 4 a (s2 a)))=c .nt::(br 4 a (tw a)).map c;rw [qR,zfD,jB,wd_b (ws:=[]) (zeq a h),dB (by simp [nc]),zbt (by simp [nc]) (by simp [nc]),c_nt];rfl
 | .two k a b,h=>by
  show wd (ex (b2 (lA k) a (s2 a)++32::(jc k++32::b2 (lB k) b (s2 b))))=(br (lA k) a (tw a)++.op k::br (lB k) b (tw b)).map c;rw [qR,zfD,qR,zfD,jB,jB,wd_b (ws:=[]) (zeq a h.1),wd_b (ws:=[]) (zeq b h.2),dB (rR k).2,zbt (rR k).1 (rR k).2,List.map_append];rfl
theorem zgX:∀ t:Sy,t.ok->10∉s2 t:=by
 have hb:∀ (n:Nat) (a:Sy) (l:List Nat),10∉l->10∉b2 n a l:=fun n a l h=>by
  unfold b2
  split
  .simp [h]
  .exact h
 intro t
 induction t with
 |say x=>exact fun h=>rT (by decide) (jH h).2
 |neg a ih=>intro h;have:=hb 4 a _ (ih h);simp [s2,nc,this]
 |two k a b ia ib =>
  intro h;have h1:=hb (lA k) a _ (ia h.1);have h2:=hb (lB k) b _ (ib h.2);have h3:10∉jc k:=rT (by decide) (rR k).2;simp [s2,h1,h2,h3]
def opn (x:Str):Str:=Txt.replace (Txt.replace x "(" " ( ") ")" " ) "
theorem zge (x:Str):(Txt.replace x "(" " ( ").cps.toList=x.cps.toList.flatMap ex1:=by
 refine fQ (by decide +kernel) ?_;rw [show ("(" : Str).cps.toList=[40] by decide +kernel,show (" ( " : Str).cps.toList=[32,40,32] by decide +kernel];exact fR _
theorem zgd (x:Str):(opn x).cps.toList=ex x.cps.toList:=by
 unfold opn ex;rw [← zge];refine fQ (by decide +kernel) ?_;rw [show (")" : Str).cps.toList=[41] by decide +kernel,show (" ) " : Str).cps.toList=[32,41,32] by decide +kernel];exact fR _
def mkS (l:List Nat):Str:=⟨l.toArray⟩
def wdS (x:Str):List Str:=(wd x.cps.toList).map mkS
theorem zdT:∀ l:List Nat,(l.flatMap ex1).length<=3 * l.length
 | []=>zzR _
 |k::l=>by
  have:=zdT l;have h:(ex1 k).length<=3:=by unfold ex1;split<;>simp
  rw [List.flatMap_cons,zzW,List.length_cons];omega
theorem zgq:∀ l:List Nat,(ex l).length<=3 * l.length
 | []=>zzR _
 |k::l=>by
  have:=zgq l
  have h:(ex [k]).length<=3:=by
   unfold ex
   by_cases h1:k=40
   .subst h1;decide
   .by_cases h2:k=41
    .subst h2;decide
    .simp [ex1,ex2,h1,h2]
  rw [show k::l=[k]++l from rfl,qR,zzW,zzW,List.length_singleton];omega
theorem uC:∀ t:Sy,t.ok->(sh t).length<=12 * t.size
 | .say x,h=>by
  have h:gP x=true:=h;simp only [gP,Bool.and_eq_true,decide_eq_true_eq] at h;show x.length<=12 * 1;omega
 | .neg a,h=>by
  have:=uC a h
  have e:(bS 4 a (sh a)).length<=(sh a).length+2:=by
   unfold bS;split
   .rw [Str.length_append,Str.length_append,show ("(" : Str).length=1 by decide +kernel,show (")" : Str).length=1 by decide +kernel];omega
   .omega
  show ("not " ++ bS 4 a (sh a)).length<=12 * (a.size+1);rw [Str.length_append,show ("not " : Str).length=4 by decide +kernel];omega
 | .two k a b,h=>by
  have ha:=uC a h.1;have hb:=uC b h.2
  have e:∀ (n:Nat) (a:Sy) (s:Str),(bS n a s).length<=s.length+2:=by
   intro n a s;unfold bS;split
   .rw [Str.length_append,Str.length_append,show ("(" : Str).length=1 by decide +kernel,show (")" : Str).length=1 by decide +kernel];omega
   .omega
  have h1:=e (lA k) a (sh a);have h2:=e (lB k) b (sh b)
  have h3:(bw k).length<=6:=by
   match k with
   | 0=>decide +kernel
   | 1=>decide +kernel
   |k+2=>show (" then " : Str).length<=6;decide +kernel
  show (bS (lA k) a (sh a)++bw k++bS (lB k) b (sh b)).length<=12 * (a.size+b.size+1);rw [Str.length_append,Str.length_append];omega
theorem sD:∀ t:Sy,(tw t).length<=5 * t.size
 | .say x=>by show 1<=5;decide
 | .neg a=>by
  have:=sD a;have e:(br 4 a (tw a)).length<=(tw a).length+2:=by unfold br;split<;>simp
  show (br 4 a (tw a)).length+1<=5 * (a.size+1);omega
 | .two k a b=>by
  have ha:=sD a;have hb:=sD b;have e:∀ (n:Nat) (a:Sy),(br n a (tw a)).length<=(tw a).length+2:=by intro n a;unfold br;split<;>simp
  have h1:=e (lA k) a;have h2:=e (lB k) b;show (br (lA k) a (tw a)++.op k::br (lB k) b (tw b)).length<=5 * (a.size+b.size+1);rw [zzW,List.length_cons];omega
theorem Sy.pos:∀ t:Sy,1<=t.size
 | .say _=>zzR _
 | .neg _=>Nat.le_add_left _ _
 | .two _ _ _=>Nat.le_add_left _ _
theorem Sy.pur:∀ t:Sy,L3.pur t.w=true
 | .say _=>by simp [Sy.w,L3.pur,jI]
 | .neg a=>by simp [Sy.w,L3.pur,jI,Sy.pur a]
 | .two _ a b=>by simp [Sy.w,L3.pur,jI,Sy.pur a,Sy.pur b]
theorem Sy.dep:∀ t:Sy,L3.dep t.w<=t.size
 | .say _=>by simp [Sy.w,L3.dep,kC,Sy.size]
 | .neg a=>by have:=Sy.dep a;simp only [Sy.w,L3.dep,kC,Sy.size];omega
 | .two _ a b=>by have:=Sy.dep a;have:=Sy.dep b;simp only [Sy.w,L3.dep,kC,Sy.size];omega
theorem nK (k:Nat):((kw k:Str) == "say")=false/\(("say" : Str)==kw k)=false/\((kw k:Str) == "not")=false/\(("not" : Str)==kw k)=false:=by
 unfold kw
 split<;>exact ⟨by decide +kernel,by decide +kernel,by decide +kernel,by decide +kernel⟩
def yB:Sy->List Sy
 | .say _=>[]
 | .neg a=>[a]
 | .two _ a b=>[a,b]
def pre:Sy->List Sy
 | .say x=>[.say x]
 | .neg a=>.neg a::pre a
 | .two k a b=>.two k a b::(pre a++pre b)
def wD (ts:List Sy):List Sy:=ts.flatMap pre
theorem fO (t:Sy):pre t=t::wD (yB t):=by cases t<;>simp [pre,yB,wD]
theorem qM:∀ t:Sy,(pre t).length=t.size
 | .say _=>rfl
 | .neg a=>by simp [pre,Sy.size,qM a]
 | .two _ a b=>by simp [pre,Sy.size,qM a,qM b]
theorem fN:∀ t:Sy,t.ok->∀ p∈pre t,p.size<=t.size/\p.ok
 | .say x,o,p,h=>by
  rw [zzO h];exact ⟨zzR _,o⟩
 | .neg a,o,p,h=>by
  rcases List.mem_cons.mp h with rfl|h
  .exact ⟨zzR _,o⟩
  .have:=fN a o p h;exact ⟨Nat.le_trans this.1 (Nat.le_succ _),this.2⟩
 | .two _ a b,o,p,h=>by
  rcases List.mem_cons.mp h with rfl|h
  .exact ⟨zzR _,o⟩
  .rcases List.mem_append.mp h with h|h
   .have:=fN a o.1 p h;exact ⟨by simp only [Sy.size];omega,this.2⟩
   .have:=fN b o.2 p h;exact ⟨by simp only [Sy.size];omega,this.2⟩
theorem tX (a b:List Sy):wD (a++b)=wD a++wD b:=by simp [wD]
theorem rC (a:Sy):wD [a]=pre a:=by simp [wD]
theorem qZ (t:Sy) (r:List Sy):wD (t::r)=t::wD (yB t++r):=by
 rw [tX,← List.cons_append,← fO];simp [wD]
theorem suf:∀ (i:Nat) (ts:List Sy),∃ ts',(wD ts).drop i=wD ts'
 | 0,ts=>⟨ts,rfl⟩
 |i+1,[]=>⟨[],by simp [wD]⟩
 |i+1,t::r=>by
  obtain ⟨ts',e⟩:=suf i (yB t++r);exact ⟨ts',by rw [qZ,List.drop_succ_cons,e]⟩
theorem fP:∀ {a b:List Sy},wD a=wD b->a=b
 | [],[],_=>rfl
 | [],t::r,h=>by rw [qZ] at h;cases h
 |t::r,[],h=>by rw [qZ] at h;cases h
 |t::r,t'::r',h=>by
  have h1:=h;rw [qZ,qZ] at h1
  injection h1 with h1 _
  subst h1;have h2:pre t++wD r=pre t++wD r':=by simpa [wD] using h
  rw [fP (List.append_cancel_left h2)]
theorem zez {t x:Sy} {i:Nat} {ts:List Sy} (h:(pre t).drop i=x::wD ts):∃ r,ts=yB x++r:=by
 obtain ⟨ts',e⟩:=suf i [t];rw [rC,h] at e
 cases ts' with
 |nil=>cases e
 |cons y r =>
  rw [qZ] at e
  injection e with e1 e2
  subst e1;exact ⟨r,fP e2⟩
def qC (ts:List Sy):Nat:=(wD ts).length
theorem gE (a b:List Sy):qC (a++b)=qC a+qC b:=by simp [qC,tX]
theorem rJ:∀ ts:List Sy,ts.length<=qC ts
 | []=>Nat.zero_le _
 |t::ts=>by
  have h1:=t.pos;have h2:=rJ ts;have e:qC (t::ts)=(pre t).length+qC ts:=by simp [qC,wD]
  rw [e,qM,List.length_cons];omega
theorem zcR (t:Sy):qC (yB t)+1=t.size:=by
 have:=qM t;rw [fO] at this;simpa [qC] using this
def isW:Tk->Bool
 | .nt=>true
 | .op _=>true
 | .lp=>true
 |_=>false
def ops:List Tk->Nat
 | []=>0
 | .op _::V=>ops V+1
 |_::V=>ops V
structure Wf (D:List Sy) (V:List Tk) (n:Nat):Prop where
 len:D.length=ops V+n
 all:∀ w∈V,isW w=true
theorem zgM {m:Nat} (hm:1<=m):∀ {V:List Tk} {D:List Sy},Wf D V 1->Wf (tl m D V).1 (tl m D V).2 1
 | [],D,h=>h
 |w::V,D,h=>by
  unfold tl
  split
  .rename_i hb;refine zgM hm ⟨?_,fun x hx=>h.all x (List.mem_cons_of_mem _ hx)⟩;have hl:=h.len;have hw:=h.all w zzT
   match w,hw,hb,hl with
   | .nt,_,_,hl =>
    cases D with
    |nil=>simp [ops] at hl
    |cons a D=>simpa [ops,pt] using hl
   | .op k,_,_,hl =>
    match D,hl with
    | [],hl=>simp [ops] at hl
    | [a],hl=>simp [ops] at hl
    |b::a::D,hl=>simp only [ops,List.length_cons] at hl;simp only [pt,List.length_cons];omega
   | .lp,_,hb,_=>have hb:m<=0:=hb;omega
  .exact h
theorem zbx {m:Nat}:∀ (V:List Tk) (D:List Sy),(tl m D V).1.length<=D.length/\(tl m D V).2.length<=V.length
 | [],D=>⟨zzR _,zzR _⟩
 |w::V,D=>by
  unfold tl
  split
  .have ih:=zbx (m:=m) V (pt w D);have hp:(pt w D).length<=D.length:=by unfold pt;split<;>simp
   exact ⟨Nat.le_trans ih.1 hp,by rw [List.length_cons];omega⟩
  .exact ⟨zzR _,zzR _⟩
def Good:St->Tk->Prop
 | (_,_,true),.nm x=>gP x=true
 | (_,_,true),.nt=>True
 | (_,_,true),.lp=>True
 | (_,_,true),_=>False
 | (_,_,false),.op _=>True
 | (D,V,false),.rp=>(tl 1 D V).2≠[]
 | (_,_,false),_=>False
def tD:St->List Tk->Prop
 |_,[]=>True
 |s,t::l=>Good s t/\tD (step s t) l
theorem sT:∀ (a:List Tk) (s:St) (b:List Tk),tD s (a++b)↔tD s a/\tD (run s a) b
 | [],s,b=>⟨fun h=>⟨trivial,h⟩,fun h=>h.2⟩
 |t::a,s,b=>by
  show (Good s t/\tD (step s t) (a++b))↔(Good s t/\tD (step s t) a)/\tD (run (step s t) a) b;rw [sT a];exact ⟨fun h=>⟨⟨h.1,h.2.1⟩,h.2.2⟩,fun h=>⟨h.1.1,h.1.2,h.2⟩⟩
theorem zkY (a:Sy):1<=bd a:=by
 cases a with
 |say x=>show 1<=5;decide
 |neg a=>show 1<=4;decide
 |two k a b=>match k with|0=>show 1<=3;decide|1=>show 1<=2;decide|k+2=>show 1<=1;decide
def WfS:St->Prop
 | (D,V,l)=>Wf D V (if l=true then 0 else 1)
theorem zbU (k:Nat):1<=lA k:=by match k with|0=>decide|k+1=>show 1<=2;decide
theorem ziN {m:Nat}:∀ (V:List Tk) (D:List Sy),Low m (tl m D V).2
 | [],D=>trivial
 |w::V,D=>by
  unfold tl
  split
  .exact ziN V _
  .rename_i hb;exact Nat.not_le.mp hb
theorem zgH {s:St} {t:Tk} (h:WfS s) (g:Good s t):WfS (step s t):=by
 obtain ⟨D,V,l⟩:=s
 cases l with
 |true =>
  have h:Wf D V 0:=h
  match t,g with
  | .nm x,_=>exact ⟨by have:=h.len;show D.length+1=ops V+1;omega,h.all⟩
  | .nt,_=>exact ⟨h.len,fun w hw=>by rcases List.mem_cons.mp hw with rfl|hw;rfl;exact h.all w hw⟩
  | .lp,_=>exact ⟨h.len,fun w hw=>by rcases List.mem_cons.mp hw with rfl|hw;rfl;exact h.all w hw⟩
 |false =>
  have h:Wf D V 1:=h
  match t,g with
  | .op k,_ =>
   have:=zgM (zbU k) h;exact ⟨this.len,fun w hw=>by rcases List.mem_cons.mp hw with rfl|hw;rfl;exact this.all w hw⟩
  | .rp,g =>
   have hw:=zgM (zzR 1) h;have g:(tl 1 D V).2≠[]:=g;show Wf (tl 1 D V).1 ((tl 1 D V).2.drop 1) 1;have low:Low 1 (tl 1 D V).2:=ziN V D;generalize tl 1 D V=r at hw g low;obtain ⟨D',V'⟩:=r
   cases V' with
   |nil=>exact absurd rfl g
   |cons w V' =>
    have hi:=hw.all w zzT;refine ⟨?_,fun x hx=>hw.all x (List.mem_cons_of_mem _ hx)⟩
    match w,hi,low,hw.len with
    | .lp,_,_,e=>exact e
    | .nt,_,low,_=>exact absurd (show (4:Nat)<1 from low) (by decide)
    | .op 0,_,low,_=>exact absurd (show (3:Nat)<1 from low) (by decide)
    | .op 1,_,low,_=>exact absurd (show (2:Nat)<1 from low) (by decide)
    | .op (k+2),_,low,_=>exact absurd (show (1:Nat)<1 from low) (by decide)
def LenS (s:St) (n:Nat):Prop:=s.1.length<=n/\s.2.1.length<=n
theorem zfd {s:St} {t:Tk} {n:Nat} (h:LenS s n):LenS (step s t) (n+1):=by
 obtain ⟨D,V,l⟩:=s;have h1:D.length<=n:=h.1;have h2:V.length<=n:=h.2;have tA:=fun k=>zbx (m:=lA k) V D;have t1:=zbx (m:=1) V D
 have q1:∀ t:Tk,(step (D,V,true) t).1.length<=n+1/\(step (D,V,true) t).2.1.length<=n+1:=by
  intro t;cases t<;>simp only [step,List.length_cons]<;>omega
 have q2:∀ t:Tk,(step (D,V,false) t).1.length<=n+1/\(step (D,V,false) t).2.1.length<=n+1:=by
  intro t
  cases t with
  |op k=>have:=tA k;simp only [step,List.length_cons];omega
  |_=>simp only [step,List.length_drop];omega
 cases l with
 |true=>exact q1 t
 |false=>exact q2 t
inductive Tn:Sy->Bool->List Tk->Prop where
 |say {x:Str}:Tn (.say x) false [.nm x]
 |neg {a:Sy} {b:Bool} {ts:List Tk}:Tn a b ts->(b=false->¬ bd a<4)->Tn (.neg a) false (.nt::ts)
 |two {k:Nat} {a c:Sy} {b1 b2:Bool} {ts us:List Tk}:Tn a b1 ts->(b1=false->¬ bd a<lA k)->Tn c b2 us->(b2=false->¬ bd c<lB k)->Tn (.two k a c) false (ts++.op k::us)
 |par {t:Sy} {b:Bool} {ts:List Tk}:Tn t b ts->Tn t true (.lp::(ts++[.rp]))
def bb (b:Bool) (t:Sy):Nat:=if b=true then 5 else bd t
theorem zeg (b:Bool) (t:Sy):1<=bb b t:=by unfold bb;split;decide;exact zkY t
theorem zdo {t:Sy} {V:List Tk}:Low (need t) (.lp::V):=show bin .lp<need t from Nat.lt_of_lt_of_le (by decide) (ze9 t)
theorem zg5 {t:Sy} {b:Bool} {ts:List Tk} (h:Tn t b ts):∀ (D:List Sy) (V:List Tk),(b=false->Low (need t) V)->Rd D V t (bb b t) (run (D,V,true) ts):=by
 induction h with
 | @say x=>intro D V _;exact ⟨.say x::D,V,rfl,fun m _ _=>rfl⟩
 | @neg a b ts _ hn ih =>
  intro D V _;obtain ⟨D',V',e,p⟩:=ih D (.nt::V) fun z=>by rw [zbN (hn z)];show 4<5;decide
  refine ⟨D',V',e,fun m h1 h2=>?_⟩;have h2:m<=4:=h2
  have hm:m<=bb b a:=by
   unfold bb
   cases b with
   |true=>rw [if_pos rfl];omega
   |false=>rw [if_neg zzN];have:=hn rfl;omega
  rw [p m h1 hm];show tl m (a::D) (.nt::V)=_;rw [tl,if_pos (show m<=bin .nt from h2)];rfl
 | @two k a c b1 b2 ts us _ h1 _ h2 ia ic =>
  intro D V hl;have hl:Low (lA k) V:=hl rfl;obtain ⟨D1,V1,e1,p1⟩:=ia D V fun z=>hl.mono (zal (h1 z));rw [za1,e1];have kA5:lA k<=5:=by match k with|0=>decide|k+1=>show 2<=5;decide
  have q:=p1 (lA k) (zbU k) (by
   unfold bb
   cases b1 with
   |true=>rw [if_pos rfl];omega
   |false=>rw [if_neg zzN];have:=h1 rfl;omega)
  rw [zbw hl] at q;show Rd D V (.two k a c) _ (run ((tl (lA k) D1 V1).1,.op k::(tl (lA k) D1 V1).2,true) us);rw [q];obtain ⟨D2,V2,e2,p2⟩:=ic (a::D) (.op k::V) fun z=>fH (h2 z);refine ⟨D2,V2,e2,fun m h1' h2'=>?_⟩
  have hb:bd (.two k a c)=bin (.op k)/\bin (.op k)<=lB k/\bin (.op k)<=5:=by
   match k with
   | 0=>exact ⟨rfl,by show 3<=4;decide,by show 3<=5;decide⟩
   | 1=>exact ⟨rfl,by show 2<=3;decide,by show 2<=5;decide⟩
   |k+2=>exact ⟨rfl,by show 1<=1;decide,by show 1<=5;decide⟩
  have h2':m<=bd (.two k a c):=h2'
  have hm:m<=bb b2 c:=by
   unfold bb
   cases b2 with
   |true=>rw [if_pos rfl];omega
   |false=>rw [if_neg zzN];have:=h2 rfl;omega
  rw [p2 m h1' hm];show tl m (c::a::D) (.op k::V)=_;rw [tl,if_pos (by omega)];rfl
 | @par t b ts _ ih =>
  intro D V _;obtain ⟨D',V',e,p⟩:=ih D (.lp::V) fun _=>zdo;show Rd D V t 5 (run (step (D,V,true) .lp) (ts++[.rp]));rw [za1];show Rd D V t 5 (step (run (D,.lp::V,true) ts) .rp);rw [e];have q:=p 1 (zzR _) (zeg b t);have ql:tl 1 (t::D) (.lp::V)=(t::D,.lp::V):=zbw (show bin .lp<1 by decide);rw [ql] at q;show Rd D V t 5 ((tl 1 D' V').1,(tl 1 D' V').2.drop 1,false);rw [q];exact ⟨t::D,V,rfl,fun m _ _=>rfl⟩
theorem zfy {t:Sy} {b:Bool} {ts:List Tk} (h:Tn t b ts):t.ok->∀ (D:List Sy) (V:List Tk),(b=false->Low (need t) V)->tD (D,V,true) ts:=by
 induction h with
 |say=>intro ok D V _;exact ⟨ok,trivial⟩
 | @neg a b ts _ hn ih =>
  intro ok D V _;exact ⟨trivial,ih ok D (.nt::V) fun z=>by rw [zbN (hn z)];show 4<5;decide⟩
 | @two k a c b1 b2 ts us ta h1 _ h2 ia ic =>
  intro ok D V hl;have hl:Low (lA k) V:=hl rfl;have la:b1=false->Low (need a) V:=fun z=>hl.mono (zal (h1 z));refine (sT _ _ _).mpr ⟨ia ok.1 D V la,?_⟩;obtain ⟨D1,V1,e1,p1⟩:=zg5 ta D V la;rw [e1];have kA5:lA k<=5:=by match k with|0=>decide|k+1=>show 2<=5;decide
  have q:=p1 (lA k) (zbU k) (by
   unfold bb
   cases b1 with
   |true=>rw [if_pos rfl];omega
   |false=>rw [if_neg zzN];have:=h1 rfl;omega)
  rw [zbw hl] at q;refine ⟨trivial,?_⟩;show tD ((tl (lA k) D1 V1).1,.op k::(tl (lA k) D1 V1).2,true) us;rw [q];exact ic ok.2 (a::D) (.op k::V) fun z=>fH (h2 z)
 | @par t b ts tt ih =>
  intro ok D V _;refine ⟨trivial,(sT _ _ _).mpr ⟨ih ok D (.lp::V) fun _=>zdo,?_⟩⟩;obtain ⟨D',V',e,p⟩:=zg5 tt D (.lp::V) fun _=>zdo;show tD (run (D,.lp::V,true) ts) [.rp];rw [e];refine ⟨?_,trivial⟩;have q:=p 1 (zzR _) (zeg b t);have ql:tl 1 (t::D) (.lp::V)=(t::D,.lp::V):=zbw (show bin .lp<1 by decide);rw [ql] at q;show (tl 1 D' V').2≠[];rw [q];simp
theorem tn_tw:∀ t:Sy,Tn t false (tw t):=by
 have hb:∀ (n:Nat) (a:Sy),Tn a false (tw a)->∃ b,Tn a b (br n a (tw a))/\(b=false->¬ bd a<n):=fun n a h=>by
  unfold br
  by_cases hc:bd a<n
  .rw [if_pos hc];exact ⟨true,.par h,fun z=>nomatch z⟩
  .rw [if_neg hc];exact ⟨false,h,fun _=>hc⟩
 intro t
 induction t with
 |say x=>exact .say
 |neg a ih=>obtain ⟨b,h1,h2⟩:=hb 4 a ih;exact .neg h1 h2
 |two k a c ia ic =>
  obtain ⟨b1,h1,h2⟩:=hb (lA k) a ia;obtain ⟨b2,h3,h4⟩:=hb (lB k) c ic;exact .two h1 h2 h3 h4
theorem tn_rd {t:Sy} {b:Bool} {ts:List Tk} (h:Tn t b ts):∃ D V,run ([],[],true) ts=(D,V,false)/\tl 1 D V=([t],[]):=by
 obtain ⟨D,V,e,p⟩:=zg5 h [] [] fun _=>trivial;exact ⟨D,V,e,p 1 (zzR _) (zeg b t)⟩
theorem zew {t:Sy} {b:Bool} {ts:List Tk} (h:Tn t b ts) (ok:t.ok):tD ([],[],true) ts:=zfy h ok [] [] fun _=>trivial
def nl (l:List Nat):List Nat:=l.map fun k=>if k=10 then 32 else k
def isG (l:List Nat):Prop:=∀ k∈l,k=32\/k=10
def isB (t:Tk):Bool:=match t with|.lp=>true|.rp=>true|_=>false
structure Jn (l:List Nat) (ts:List Tk):Prop where
 wd:wd (ex (nl l))=ts.map c
 end_:(∃ t,ts.getLast?=some t/\isB t=true)\/l=[]->∃ a,ex (nl l)=a++[32]\/ex (nl l)=[]
theorem zbM (a b:List Nat):nl (a++b)=nl a++nl b:=by simp [nl]
theorem zbZ:∀ {g:List Nat},isG g->ex (nl g)=List.replicate g.length 32
 | [],_=>rfl
 |k::g,h=>by
  have hk:=h k zzT;have ih:=zbZ fun j hj=>h j (List.mem_cons_of_mem _ hj)
  have e:nl (k::g)=32::nl g:=by
   show (if k=10 then 32 else k)::nl g=_;rcases hk with rfl|rfl
   .rfl
   .rfl
  rw [e,zfD,ih];rfl
def tkK:Tk->Prop
 | .nm x=>gP x=true
 |_=>True
theorem zcA {t:Tk} (h:tkK t) (n:isB t=false):c t≠[]/\∀ k∈c t,97<=k:=by
 cases t with
 |nm x=>exact jH h
 |lp=>cases n
 |rp=>cases n
 |nt=>rw [c_nt];simp [nc]
 |op k=>exact rR k
theorem zjR {l:List Nat} (h:∀ k∈l,97<=k):nl l=l:=by
 induction l with
 |nil=>rfl
 |cons k l ih =>
  have hk:=h k zzT;show (if k=10 then 32 else k)::nl l=_;rw [if_neg (by omega),ih fun j hj=>h j (List.mem_cons_of_mem _ hj)]
theorem zgK {t:Tk} (h:isB t=true):ex (nl (c t))=32::(c t++32::[]):=by
 cases t with
 |lp=>rw [c_lp];rfl
 |rp=>rw [c_rp];rfl
 |_=>cases h
theorem zbv {t:Tk} (h:tkK t):wd (ex (nl (c t)))=[c t]:=by
 cases hb:isB t with
 |false=>rw [zjR (zcA h hb).2,dB (zcA h hb).2,zbt (zcA h hb).1 (zcA h hb).2]
 |true =>
  cases t with
  |lp=>rw [c_lp];rfl
  |rp=>rw [c_rp];rfl
  |_=>cases hb
theorem zkl:Jn [] []:=⟨rfl,fun _=>⟨[],.inr rfl⟩⟩
theorem zdC {l g:List Nat} {ts:List Tk} {k:Tk} (j:Jn l ts) (hk:tkK k) (hg:isG g) (h:g≠[]\/isB k=true\/(∃ t,ts.getLast?=some t/\isB t=true)\/l=[]):Jn (l++g++c k) (ts++[k]):=by
 have e:ex (nl (l++g++c k))=ex (nl l)++(List.replicate g.length 32++ex (nl (c k))):=by
  rw [zbM,zbM,qR,qR,zbZ hg,List.append_assoc]
 refine ⟨?_,fun h2=>?_⟩
 .rw [e,List.map_append,← j.wd]
  cases g with
  |cons x g=>rw [List.length_cons,ziE,zbv hk];rfl
  |nil =>
   rw [List.length_nil,List.replicate_zero,List.nil_append];rcases h with h|h|h
   .exact absurd rfl h
   .have w:=zbv hk;rw [zgK h,zcJ] at w;rw [zgK h,jB,w];rfl
   .obtain ⟨a,ha|ha⟩:=j.end_ h
    .rw [ha,List.append_assoc];show wd (a++32::ex (nl (c k)))=wd (a++32::[])++_;rw [jB,jB,zbv hk,zfP,List.append_nil];rfl
    .rw [ha,List.nil_append,zbv hk];rfl
 .have hb:isB k=true:=by
   rcases h2 with ⟨t,ht,hb⟩|h2
   .rw [List.getLast?_append] at ht;simp at ht;rw [ht];exact hb
   .have:=(List.append_eq_nil_iff.mp h2).2
    cases hb:isB k with
    |true=>rfl
    |false=>exact absurd this (zcA hk hb).1
  refine ⟨ex (nl l)++(List.replicate g.length 32++(32::c k)),.inl ?_⟩;rw [e,zgK hb];simp
theorem zkk {l a b:List Nat} {ts:List Tk} (j:Jn l ts) (ha:isG a) (hb:isG b):wd (ex (nl (a++l++b)))=ts.map c:=by
 rw [zbM,zbM,qR,qR,zbZ ha,zbZ hb,ziD,sZ,j.wd]
theorem ziL {t:Sy} {b:Bool} {ts:List Tk} (h:Tn t b ts):t.ok->∀ k∈ts,tkK k:=by
 induction h with
 |say=>intro ok k hk;rw [zzO hk];exact ok
 |neg _ _ ih =>
  intro ok k hk;rcases List.mem_cons.mp hk with rfl|hk
  .trivial
  .exact ih ok k hk
 |two _ _ _ _ ia ic =>
  intro ok k hk;rcases List.mem_append.mp hk with hk|hk
  .exact ia ok.1 k hk
  .rcases List.mem_cons.mp hk with rfl|hk
   .trivial
   .exact ic ok.2 k hk
 |par _ ih =>
  intro ok k hk;rcases List.mem_cons.mp hk with rfl|hk
  .trivial
  .rcases List.mem_append.mp hk with hk|hk
   .exact ih ok k hk
   .rw [zzO hk];trivial
theorem zjT (x:Str):(Txt.replace x "\n" " ").cps.toList=nl x.cps.toList:=by
 refine fQ (by decide +kernel) ?_;rw [show ("\n" : Str).cps.toList=[10] by decide +kernel,show (" " : Str).cps.toList=[32] by decide +kernel];have:=fR (c:=10) (z:=[32]) x.cps.toList
 have e:∀ l:List Nat,(l.flatMap fun k=>if k=10 then [32] else [k])=nl l:=by
  intro l
  induction l with
  |nil=>rfl
  |cons k l ih =>
   rw [List.flatMap_cons,ih];show _=(if k=10 then 32 else k)::nl l
   by_cases h:k=10
   .rw [if_pos h,if_pos h];rfl
   .rw [if_neg h,if_neg h];rfl
 rw [e] at this;exact this
theorem zjS (x:Str):(Txt.replace x "\n" " ").length=x.length:=by
 rw [← vW,zjT,← vW x];simp [nl]
theorem ziC {x:Str} {ts:List Tk} (h:wd (ex (nl x.cps.toList))=ts.map c):wdS (opn (Txt.replace x "\n" " "))=ts.map Tk.s:=by
 unfold wdS;rw [zgd,zjT,h,List.map_map];congr 1
theorem zjQ:∀ {l:List Nat},10∉l->nl l=l
 | [],_=>rfl
 |k::l,h=>by
  simp only [List.mem_cons,not_or] at h;show (if k=10 then 32 else k)::nl l=_;rw [if_neg (Ne.symm h.1),zjQ h.2]
theorem zi6 (t:Sy) (h:t.ok):wd (ex (nl (sh t).cps.toList))=(tw t).map c:=by
 rw [zcZ,zjQ (zgX t h),zeq t h]
theorem in_b {k:Tk} (h:tkK k):zhT true k.s "()" = !isB k:=by
 cases hb:isB k with
 |true =>
  cases k with
  |lp=>decide +kernel
  |rp=>decide +kernel
  |_=>cases hb
 |false =>
  have hl:=zcA h hb;unfold zhT;rw [if_pos rfl];rcases PySem.StrLaws.occ_head ("()" : Str) k.s 1 (zzR 1) with ⟨e,_⟩|⟨i,r,_,ha,_⟩
  .rw [e];rfl
  .exfalso;have hi:i<=("()" : Str).length:=by have:=ha.1;omega
   obtain ⟨t,e⟩:=(cR ("()" : Str) k.s i hi).mp ha;obtain ⟨y,l,ec⟩:=List.exists_cons_of_ne_nil hl.1;have hy:=hl.2 y (by rw [ec];exact zzT);have hm:y∈("()" : Str).cps.toList:=List.mem_of_mem_drop (i:=i) (by rw [← e,show k.s.cps.toList=c k from rfl,ec];exact zzT);have:∀ z∈("()" : Str).cps.toList,z<97:=by decide +kernel
   have:=this y hm;omega
abbrev dA:Mt3:=⟨"append", "list", cP⟩
theorem zic {q:Pr} {A:Around}:MtE (q.at A) dA/\rO dA:=⟨nU PySem.F.plainAttrs_list PySem.F.slot_list_append PySem.F.type_list_append (fun X f=>zk2) zaQ,zaQ⟩
def tv:Tk->W
 | .nm x=>.tup [.str "say", .str x]
 |t=>.str t.s
def Lw (D:List Sy):O:=.lst ((D.map Sy.w).reverse)
def Lk (V:List Tk):O:=.lst ((V.map fun t=>W.str t.s).reverse)
def xM (l:List Tk):List W:=l.map fun t=>W.str t.s
def bK:List Str:=["if", "or", "and", "not"]
def bV:List W:=[.int 1,.int 2,.int 3,.int 4]
def lK:List Str:=["not", "and", "or", "if"]
def lV:List W:=[.tup [.int 4],.tup [.int 3,.int 4],.tup [.int 2,.int 3],.tup [.int 2,.int 1]]
def wK:List Str:=["and", "or", "if"]
def wV:List W:=[.str " and ", .str " or ", .str " then "]
def jL:List W:=[.str "(", .str ")", .str "not", .str "and", .str "or", .str "then"]
def rK:List Str:=["(", "then", "or", "and", "not"]
def rV:List W:=[.int 0,.int 1,.int 2,.int 3,.int 4]
def tK:List Str:=["then", "or", "and", ")"]
def tV:List W:=[.int 2,.int 2,.int 3,.int 1]
def mK:List Str:=["then", "or", "and"]
def mV:List W:=[.str "if", .str "or", .str "and"]
def mB:Sy->Str
 | .say _ => "say"
 | .neg _ => "not"
 | .two k _ _=>kw k
def Fr (ws:List W) (G:Hw) (Q:Q3):Prop:=∀ r G',zR [] G G'->G r=none->G' r=some (.lst ws)->Q (.ref r) G'
theorem Fr.mono {ws:List W} {G:Hw} {Q Q':Q3} (k:∀ w G',Q w G'->Q' w G') (h:Fr ws G Q):Fr ws G Q':=fun r G' a b c=>k _ _ (h r G' a b c)
theorem Fr.keep {ws:List W} {G G1:Hw} {Q:Q3} (h:Fr ws G Q) (k:zR [] G G1):Fr ws G1 Q:=fun r G' a b c=>h r G' (k.trans a) (k.none (by simp) b) c
def K0 (w:W) (G:Hw) (Q:Q3):Prop:=∀ G',zR [] G G'->Q w G'
def gR:vP:=fun ws G Q _=>∃ (d l:Addr) (m:Int),ws=[.ref d,.int m]/\wL G d l/\1<=m/\m<=4/\∀ (r:Addr) (xs:List Str) G',xs≠[]->xs.length<=4->(∀ x∈xs,gP x=true)->r∉[d,l]->G' r=some (.lst (xs.map .str))->zR [d,l] G G'->wL G' d l->Q (.ref r) G'
def wW (n:Nat):vP:=fun ws G Q _=>∃ (d l r:Addr) (m e:Int) (xs:List Str),ws=[.ref d,.ref r,.int m,.int e]/\wL G d l/\r∉[d,l]/\G r=some (.lst (xs.map .str))/\xs≠[]/\xs.length<=5/\(∀ x∈xs,gP x=true)/\1<=m/\m<=40/\0<=e/\e<n /\
 ∀ (t:Sy) G',t.ok->(t.size:Int)<=m->(t.deep:Int)<=e->zR [d,l] G G'->wL G' d l->Q t.w G'
def jW:vP:=fun ws G Q _=>∃ t:Sy,ws=[t.w]/\Q (.tup ((yB t).map Sy.w)) G
def rH (sA:Addr):vP:=fun ws G Q _=>∃ t:Sy,ws=[t.w,.ref sA]/\t.size<=40/\Fr ((pre t).map Sy.w) G Q
def spJt:vP:=fun ws G Q _=>∃ (t:Sy) (p:Addr) (ini:List W),ws=[.str (mB t),.tup ((yB t).map Sy.w),.ref p]/\t.ok/\t.size<=40/\yB t≠[]/\ini.length<=100/\G p=some (.lst (ini++((yB t).map fun s=>W.str (sh s)).reverse))/\∀ G',zR [p] G G'->G' p=some (.lst ini)->Q (.str (sh t)) G'
def gT (sA nA:Addr):vP:=fun ws G Q _=>∃ t:Sy,ws=[t.w,.ref sA,.ref nA]/\t.ok/\t.size<=40/\K0 (.str (sh t)) G Q
def jZ:vP:=fun ws G Q _=>∃ x:Str,ws=[(Sy.say x).w]/\Q (.str x) G
def zbB:vP:=fun ws G Q _=>∃ t:Sy,ws=[t.w]/\t.ok/\t.size<=40/\K0 (.str (sh t)) G Q
def sY:vP:=fun ws G Q _=>∃ t:Sy,ws=[t.w]/\K0 (.int ((bd t:Int)-1)) G Q
def fZ (n:Nat):vP:=fun ws G Q _=>∃ (t:Sy) (k:Nat),ws=[t.w,.int ((k:Int)-1)]/\t.size<=40/\t.deep<n/\Fr (xM (br k t (tw t))) G Q
def gC (n:Nat):vP:=fun ws G Q _=>∃ t:Sy,ws=[t.w]/\t.size<=40/\t.deep<n/\Fr (xM (tw t)) G Q
def gU:vP:=fun ws G Q _=>∃ t:Sy,ws=[t.w]/\t.ok/\t.size<=40/\t.deep<21/\K0 (.str (sh t)) G Q
def zeF:vP:=fun ws G Q _=>∃ (w:Tk) (D:List Sy) (p:Addr),ws=[.str w.s,.ref p]/\G p=some (Lw D)/\D.length<=500/\((w=.nt/\1<=D.length)\/∃ k,w=.op k/\2<=D.length)/\∀ G',zR [p] G G'->G' p=some (Lw (pt w D))->Q .non G'
def gB:vP:=fun ws G Q _=>∃ (m:Nat) (D:List Sy) (V:List Tk) (p r:Addr),ws=[.int m,.ref p,.ref r]/\1<=m/\p≠r/\G p=some (Lw D)/\G r=some (Lk V)/\Wf D V 1/\D.length<=400/\V.length<=400/\∀ G',zR [p,r] G G'->G' p=some (Lw (tl m D V).1)->G' r=some (Lk (tl m D V).2)->Q .non G'
def uE (l:Bool):vP:=fun ws G Q _=>∃ (t:Tk) (D:List Sy) (V:List Tk) (p r:Addr),ws=[tv t,.ref p,.ref r]/\p≠r/\G p=some (Lw D)/\G r=some (Lk V)/\Good (D,V,l) t/\WfS (D,V,l)/\D.length<=300/\V.length<=300 /\
 ∀ G',zR [p,r] G G'->G' p=some (Lw (step (D,V,l) t).1)->G' r=some (Lk (step (D,V,l) t).2.1)->Q (.bl (step (D,V,l) t).2.2) G'
def spRJ:vP:=fun ws G Q _=>∃ (t:Sy) (b:Bool) (tk:List Tk) (q:Addr),ws=[.ref q]/\t.ok/\Tn t b tk/\tk.length<=300/\G q=some (.lst (tk.map tv))/\K0 t.w G Q
def zeG:vP:=fun ws G Q _=>∃ x:Str,ws=[.str x]/\gP x=true/\K0 (.bl true) G Q
def tkOk:Tk->Prop
 | .nm x=>gP x=true
 |_=>True
def spRW:vP:=fun ws G Q _=>∃ k:Tk,ws=[.str k.s]/\tkOk k/\K0 (tv k) G Q
def spWB:vP:=fun ws G Q _=>∃ x:Str,ws=[.str x]/\x.length<=20000/\Fr ((wdS x).map .str) G Q
def spWA:vP:=fun ws G Q _=>∃ x:Str,ws=[.str x]/\x.length<=6000/\Fr ((wdS (opn x)).map .str) G Q
def spRS:vP:=fun ws G Q _=>∃ (t:Sy) (b:Bool) (tk:List Tk) (x:Str),ws=[.str x]/\t.ok/\Tn t b tk/\tk.length<=300/\x.length<=5000/\wd (ex (nl x.cps.toList))=tk.map c/\K0 t.w G Q
def sQ (n:Nat):vP:=fun ws G Q _=>∃ (d l e:Addr) (t:Sy) (k:Nat) (v:Int),ws=[.ref d,t.w,.int ((k:Int)-1),.ref e]/\wL G d l/\e∉[d,l]/\G e=some (.lst [.int v])/\0<=v/\v<=6/\t.ok/\t.size<=20/\t.deep<n /\
 ∀ (b:Bool) (tk:List Tk) (r:Addr) (u:Int) G',Tn t b tk->(b=false->¬ bd t<k)->(tk.length:Int)+2 * u<=3 * t.size+2 * v->0<=u->u<=v->G r=none->G' r=some (.lst (xM tk))->zR [d,l,e] G G'->wL G' d l->G' e=some (.lst [.int u])->Q (.ref r) G'
def spJo:vP:=fun ws G Q _=>∃ (p q:Addr) (tk:List Tk) (gs:List Str),ws=[.ref p,.ref q]/\G p=some (.lst (xM tk))/\G q=some (.lst (gs.map .str))/\tk.length<=200/\(∀ k∈tk,tkK k)/\gs≠[]/\gs.length<=10/\(∀ g∈gs,isG g.cps.toList/\g.length<=3)/\∀ (x:Str) G',Jn x.cps.toList tk->x.length<=10 * tk.length->zR [] G G'->Q (.str x) G'
section
variable (K : yJ) (sA nA : Addr)
def fnL:List Fn3:=[eMax,eLen,eAll,eLst,eIsi K,zkT,zdZ,⟨"_law_names", gR⟩,⟨"_law_large", wW 21⟩,⟨"sides_of", jW⟩,⟨"all_within", rH sA⟩,⟨"joined_text", spJt⟩,⟨"show_joined", gT sA nA⟩,⟨"name_of", jZ⟩,⟨"show_saying", zbB⟩,⟨"_law_binds", sY⟩,⟨"_law_at", fZ 21⟩,⟨"_law_text_words", gC 21⟩,⟨"_law_shown", gU⟩,⟨"put_together", zeF⟩,
 ⟨"take_left", gB⟩,⟨"begin_side", uE true⟩,⟨"go_on", uE false⟩,⟨"read_joined", spRJ⟩,⟨"is_name", zeG⟩,⟨"read_word", spRW⟩,⟨"words_between_blanks", spWB⟩,⟨"words_and_brackets", spWA⟩,⟨"read_saying", spRS⟩,eInt,⟨"_law_wrapped", sQ 11⟩,⟨"_law_joined", spJo⟩]
def GamL (l:List Fn3):Ctx3:=⟨l,[("LONGEST_NAME", .int 6),("NO_NAMES", .tup (noN.map .str)),("JOINING", .tup jL),("BINDS_sayread", .dcf rK rV),("TAKES", .dcf tK tV),("MADE", .dcf mK mV),("BINDS_saywrite", .dcf bK bV),("SINGLE_BINDS", .int 5),("LEAST", .dcf lK lV),("BETWEEN", .dcf wK wV),("str", .ty "str"),("tuple", .ty "tuple"),("sides_of", .ref sA),("name_of", .ref nA)],
 [ePop,zcz,dA,eExt,eIdx,zb3],[eRng,eZpi,eEn],[],
 [eRev,⟨rvM,rvS⟩,⟨hcM "sides_of", hcS sA jW⟩,⟨hcM "joined_by", hcS sA jW⟩,⟨hcM "single_text", hcS nA jZ⟩,⟨uJ " )" ")", rD " )" ")"⟩,⟨uJ "( " "(", rD "( " "("⟩,⟨uJ ")" " ) ", rD ")" " ) "⟩,⟨uJ "(" " ( ", rD "(" " ( "⟩,⟨uJ "\n" " ", rD "\n" " "⟩,⟨fstM [some "not ", none],fstS [some "not ", none]⟩,⟨fstM [some "(", none,some ")"],fstS [some "(", none,some ")"]⟩,⟨gt2M "BINDS_saywrite", gt2S bK bV⟩],[]⟩
def yP (n:Nat):Ctx3:=GamL sA nA ((fnL K sA nA).take n)
def jK (n:Nat) (e:Fn3):Ctx3:=GamL sA nA ((fnL K sA nA).take n++[e])
end
theorem qS {a:W} {l:List W}:sE (a::l) 0=some a:=by
 unfold sE;have:dG (a::l).length 0=some 0:=by simp [dG]
 rw [this];rfl
theorem cQ {a b:W} {l:List W}:sE (a::b::l) 1=some b:=by
 unfold sE;have:dG (a::b::l).length 1=some 1:=by simp [dG];omega
 rw [this];rfl
theorem sz (n:Nat) (h:n<=100000):n<=sizeLine:=by rw [sizeLine_eq];omega
theorem gZ {α:Type} {a:α} {l:List α}:(a::l)[0]?=some a:=rfl
theorem gS {α:Type} {a:α} {l:List α} {i:Nat}:(a::l)[i+1]?=l[i]?:=rfl
theorem tZ {α:Type} {a b:α} {l:List α}:(a::l).set 0 b=b::l:=rfl
theorem tS {α:Type} {a b:α} {l:List α} {i:Nat}:(a::l).set (i+1) b=a::l.set i b:=rfl
theorem yV {Γ:Ctx3} {E:XQ} {s:IS} {ss:ISs} {D:End3} {σ:jE} {G:Hw} (h:zO Γ E s { D with nx:=zG Γ E ss D } σ G):zG Γ E (.cons s ss) D σ G:=h
theorem stn {Γ:Ctx3} {E:XQ} {D:End3} {σ:jE} {G:Hw} (h:D.nx σ G):zG Γ E .nil D σ G:=h
theorem tyL {G:Hw} {o:Addr} {l:List W} (e:G o=some (.lst l)):tyW G (.ref o) "list" := by simp only [tyW,e]
theorem bR {G:Hw} {o:Addr} {l:List W} {y:W} {Q:Q3} (e:G o=some (.lst l)) (hl:l.length<1000) (h:Q .non (put G o (.lst (l++[y])))):cP (.ref o) [y] G Q:=by
 simp only [cP,e];exact ⟨by rw [sizeLine_eq];omega,h⟩
theorem ixL {G:Hw} {t:Addr} {xs:List W} {i:Int} {Q:Q3} (e:yS G t=some xs) (h:match sE xs i with|some w=>Q w G|none=>False):qU (.ref t) (.int i) G Q:=by
 unfold yS at e
 split at e
 .rename_i q;cases e;simp only [qU,q];exact h
 .rename_i q;cases e;simp only [qU,q];exact h
 .cases e
theorem kE {G:Hw} {t:Addr} {xs:List W} (e:G t=some (.lst xs)):yS G t=some xs:=by unfold yS;rw [e]
theorem seqL {G:Hw} {t:Addr} {xs:List W} (e:G t=some (.lst xs)):jJ G (.ref t)=some xs:=by simp only [jJ,kE e]
theorem nG {S:List Addr} {G G':Hw} {d l:Addr} (k:zR S G G') (hd:d∉S) (hl:l∉S) (D:wL G d l):wL G' d l:=by
 obtain ⟨x,y,z,D⟩:=D;exact ⟨x,y,z,k _ _ hd D.dic,k _ _ hl D.lst,D.s0,D.s1,D.n0,D.lf,D.len,D.ne⟩
theorem qT {G:Hw} {d l p:Addr} {o:O} (h:G p=none) (D:wL G d l):wL (put G p o) d l:=nG (S:=[]) (zR.new h) (by simp) (by simp) D
theorem sF {G G':Hw} {d l:Addr} (k:zR [] G G') (D:wL G d l):wL G' d l:=nG k (by simp) (by simp) D
theorem zcn {S:List Addr} {G G':Hw} (k:zR [] G G'):zR S G G':=fun a u _ e=>k a u (by simp) e
theorem k0 {G G':Hw} (k:zR [] G G') {p:Addr} {o:O} (h:G p=some o):G' p=some o:=k _ _ (by simp) h
theorem nV {G:Hw} {p r:Addr} {o u:O} (hr:G r=none) (h:G p=some o):put G r u p=some o:=k0 (zR.new hr) h
theorem jP {G:Hw} {a p:Addr} {o:O} (e:G a=some o) (h:G p=none):a≠p:=fun z=>by rw [z,h] at e;cases e
theorem rY {G:Hw} {d l p:Addr} (D:wL G d l) (h:G p=none):p∉[d,l]:=by
 obtain ⟨_,_,_,D⟩:=D;simp only [List.mem_cons,List.not_mem_nil,or_false,not_or];exact ⟨fun e=>(by rw [e,D.dic] at h;cases h),fun e=>(by rw [e,D.lst] at h;cases h)⟩
theorem uX {S:List Addr} {G G':Hw} {p:Addr} {o:O} (k:zR S G G') (h:G p=none):zR S G (put G' p o):=fun a u ha e=>by
 rw [yH (jP e h)];exact k a u ha e
theorem pJ {G:Hw} {d l p:Addr} {o:O} (h:p∉[d,l]) (D:wL G d l):wL (put G p o) d l:=by
 simp only [List.mem_cons,List.not_mem_nil,or_false,not_or] at h;exact nG (S:=[p]) (zR.put (by simp)) (by simpa using Ne.symm h.1) (by simpa using Ne.symm h.2) D
theorem addS {a b:Str} {G:Hw} {Q:Q3} (h:a.length+b.length<=100000) (q:Q (.str (a++b)) G):jY .Add (.str a) (.str b) G Q:=⟨sz _ h,q⟩
theorem at_2 {a b c:W} {l:List W}:sE (a::b::c::l) 2=some c:=by
 unfold sE;have:dG (a::b::c::l).length 2=some 2:=by simp [dG];omega
 rw [this];rfl
theorem zgy {l:List W} {i:Int} (h0:0<=i) (h1:i<l.length):∃ w,w∈l/\sE l i=some w:=by
 have hi:i.toNat<l.length:=by omega
 refine ⟨l[i.toNat],List.getElem_mem hi,?_⟩;unfold sE dG;rw [if_pos h0,if_pos h1];exact List.getElem?_eq_getElem hi
def uK:ISs->ISs
 | .cons _ ss=>ss
 | .nil=>.nil
theorem yO {G:Hw} {a b:Str}:eqG G (.str a) (.str b)=some (a==b):=by simp [eqG,pur,dep,jM]
theorem bQ {G:Hw} {p q:Addr} {xs ys:List W} {Q:Q3} (hp:G p=some (.lst xs)) (hq:G q=some (.lst ys)) (hl:xs.length+ys.length<=100000) (h:∀ r,G r=none->Q (.ref r) (put G r (.lst (xs++ys)))):jY .Add (.ref p) (.ref q) G Q:=by
 simp only [jY,hp,hq];exact ⟨sz _ hl,h⟩
section
variable {K : yJ} {sA nA : Addr}
theorem fnAt {n:Nat} (i:Nat) (hi:i<n) {e:Fn3} (h:(fnL K sA nA)[i]?=some e):(yP K sA nA n).fn[i]?=some e:=by
 show ((fnL K sA nA).take n)[i]?=_;rw [List.getElem?_take_of_lt hi];exact h
theorem sM {n m:Nat} (i:Nat) (hn:m<=n) {e:Fn3} (h:(fnL K sA nA)[i]?=some e) (hi:i<m:=by decide):(yP K sA nA n).fn[i]?=some e:=fnAt i (Nat.lt_of_lt_of_le hi hn) h
end
abbrev abc:Str := "abcdefghijklmnopqrstuvwxyz"
theorem zbr:abc.cps.toList.length=26:=by decide +kernel
theorem zk4:∀ c∈abc.cps.toList,ltB c=true:=by decide +kernel
theorem uP {a b:Str}:xN (a++b)=(xN a&&xN b):=by
 unfold xN;rw [Str.cps_append,Array.toList_append,List.all_append]
theorem zkp {i:Int} {G:Hw} {Q:Q3} (h0:0<=i) (h1:i<26) (h:∀ x:Str,x.length=1->xN x=true->Q (.str x) G):qU (.str abc) (.int i) G Q:=by
 have hi:i.toNat<abc.cps.toList.length:=by rw [zbr];omega
 have e:sE abc.cps.toList i=some abc.cps.toList[i.toNat]:=by
  unfold sE dG;rw [if_pos h0,zbr,if_pos (show i<((26:Nat):Int) from h1)];exact List.getElem?_eq_getElem hi
 simp only [qU,e];refine ⟨?_,h _ rfl ?_⟩
 .have:abc.length=26:=by rw [← zbr];rfl
  rw [this];exact sz _ (by decide)
 .show [abc.cps.toList[i.toNat]].all ltB=true;rw [List.all_cons,zk4 _ (List.getElem_mem hi)];rfl
theorem zcP {x:Str} {j:Int} (h0:0<=j) (h1:j<=x.length):(Txt.slice x none (some j)).cps.toList=x.cps.toList.take j.toNat:=by
 have e:Txt.slice x none (some j)=StrLaws.sliceText x none (some j):=rfl;rw [e,StrLaws.sliceText_to ⟨h0,by rw [Array.length_toList];exact h1⟩];simp
theorem zaE {x:Str} {j:Int} (h0:0<=j) (h1:j<=x.length):(Txt.slice x (some j) none).cps.toList=x.cps.toList.drop j.toNat:=by
 have e:Txt.slice x (some j) none=StrLaws.sliceText x (some j) none:=rfl;rw [e,StrLaws.sliceText_from ⟨h0,by rw [Array.length_toList];exact h1⟩];have h2:j<=(x.cps.toList.length:Int):=by rw [Array.length_toList];exact h1
 show (((x.cps.toList.drop j.toNat).take _).toArray).toList=_;rw [List.toList_toArray];exact List.take_of_length_le (by rw [List.length_drop];omega)
theorem uY (x:Str):x.cps.toList.length=x.length:=by rw [Array.length_toList];rfl
theorem zij {x:Str} {j:Int} {G:Hw} {Q:Q3} (h0:0<=j) (h1:j<=x.length) (hx:x.length<=1000) (a:xN x=true) (q:∀ y:Str,y.length<=j.toNat->xN y=true->Q (.str y) G):slR (.str x) none (some j) G Q:=by
 refine ⟨sz _ (by omega),q _ ?_ ?_⟩
 .rw [← uY,zcP h0 h1,List.length_take];omega
 .unfold xN;rw [zcP h0 h1,List.all_eq_true];exact fun c hc=>List.all_eq_true.mp a c (List.mem_of_mem_take hc)
theorem zfM {x:Str} {j:Int} {G:Hw} {Q:Q3} (h0:0<=j) (h1:j<=x.length) (hx:x.length<=1000) (a:xN x=true) (q:∀ y:Str,y.length<=x.length-j.toNat->xN y=true->Q (.str y) G):slR (.str x) (some j) none G Q:=by
 refine ⟨sz _ (by omega),q _ ?_ ?_⟩
 .rw [← uY,zaE h0 h1,List.length_drop,uY];omega
 .unfold xN;rw [zaE h0 h1,List.all_eq_true];exact fun c hc=>List.all_eq_true.mp a c (List.mem_of_mem_drop hc)
theorem zjZ:xN "" = true:=by decide +kernel
theorem zdB:∀ {ts:List Str},(∀ x∈ts,xN x=true)->xN (Str.join "" ts)=true
 | [],_=>by decide +kernel
 | [x],h=>h x zzT
 |x::y::r,h=>by
  show xN (x ++ "" ++ Str.join "" (y::r))=true;rw [uP,uP,h x zzT,zjZ,zdB fun z hz=>h z (List.mem_cons_of_mem _ hz)];rfl
theorem zfn {ts:List Str} (h:∀ x∈ts,x.length<=1) (g:∀ x∈ts,xN x=true) (hn:ts.length<=4):JoinOk "" ts=true/\(Txt.join "" ts).length<=4/\xN (Txt.join "" ts)=true:=by
 have e:("" : Str).length=0:=by decide +kernel
 refine ⟨?_,?_,?_⟩
 .unfold JoinOk;rw [StrLaws.joinFits h (by rw [e];omega)];rfl
 .have h1:=StrLaws.join_length_le "" ts;have h2:=StrLaws.sumLen_le ts h;rw [e] at h1;rw [show Txt.join "" ts=Str.join "" ts from StrLaws.glued_eq_join "" ts];refine Nat.le_trans h1 ?_;omega
 .rw [show Txt.join "" ts=Str.join "" ts from StrLaws.glued_eq_join "" ts];exact zdB g
theorem zhv {x:Str} (h1:1<=x.length) (h6:x.length<=6) (a:xN x=true) (n:x∉noN):gP x=true:=by
 unfold gP;rw [decide_eq_true h1,decide_eq_true h6,a,show noN.contains x=false by simpa using n];rfl
theorem no_q {x:Str} (h:x∈noN):x ++ "q" ∉ noN:=by
 revert h;have:∀ y∈noN,y ++ "q" ∉ noN:=by decide +kernel
 exact this x
theorem zjP {x:Str} (h:x∈noN):x.length<=4:=by
 have:∀ y∈noN,y.length<=4:=by decide +kernel
 exact this x h
theorem no_z {x:Str}:x ++ "z" ∉ noN:=fun h=>by
 have l:∀ y∈noN,y.cps.toList.getLast?≠some 122:=by decide +kernel
 refine l _ h ?_;rw [Str.cps_append,Array.toList_append,show ("z" : Str).cps.toList=[122] by decide +kernel];simp
theorem zgz {x:Str}:((noN.map W.str).any fun w=>jM w (.str x))=noN.contains x:=by
 rw [List.any_map,List.contains_eq_any_beq];congr 1
 funext y
 simp only [Function.comp,jM];exact Bool.beq_comm
section
variable {K : yJ} {sA nA : Addr}
theorem zdl {n:Nat} (hn:7<=n) {ws:List W} {G:Hw} {Q:Q3} (h:gR ws G Q XN):zG (yP K sA nA n) XN wM { nx:=fun _ G'=>Q .non G',rt:=Q } (yT tQ ws) G:=by
 obtain ⟨d,l,m,rfl,D,m1,m4,h⟩:=h;have e1:(yP K sA nA n).fn[1]?=some eLen:=sM 1 hn rfl;have e6:(yP K sA nA n).fn[6]?=some zdZ:=sM 6 hn rfl;have t1:(yP K sA nA n).mt[1]?=some zcz:=rfl;have t2:(yP K sA nA n).mt[2]?=some dA:=rfl;have i0:(yP K sA nA n).it[0]?=some eRng:=rfl;have z0:=sz 0 (by decide);have z4:=sz 4 (by decide);have q1:("q" : Str).length=1:=by decide +kernel
 have q2:xN "q" = true:=by decide +kernel
 have w1:("z" : Str).length=1:=by decide +kernel
 have w2:xN "z" = true:=by decide +kernel
 show zG (yP K sA nA n) XN wM { nx:=fun _ G'=>Q .non G',rt:=Q } [some (.ref d),some (.int m),none,none,none,none,none,none,none] G
 have go:∀ (G1:Hw) (p:Addr) (core:Str),core.length<=4->xN core=true->G p=none->p∉[d,l]->zR [d,l] G G1->wL G1 d l->G1 p=some (.lst []) ->
   zG (yP K sA nA n) XN (uK (uK (uK wM))) { nx:=fun _ G'=>Q .non G',rt:=Q } [some (.ref d),some (.int m),some (.str abc),some (.ref p),some (.str core),none,none,none,none] G1:=by
  intro G1 p core hc hg hpn hp k1 D1 gp;simp only [wM,uK];refine yV ?_
  ((try dsimp only [zO,zT,zL,zH,zC,yX,yW,zN,zV,zM,zW,zY,zS,zP,zI,zK,yY,zJ,gZ,gS,tZ,tS]);try simp only [e1,e6,bY,bZ,sz _ (show core.length<=100000 by omega),if_true,jY])
  refine ⟨d,l,core.length+1,rfl,D1,⟨by omega,by omega⟩,fun at' G2 a0 a1 k2 D2=>?_⟩;have gp2:=k2 _ _ hp gp;refine yV ?_
  ((try dsimp only [zO,zT,zL,zH,zC,yX,yW,zN,zV,zM,zW,zY,zS,zP,zI,zK,yY,zJ,gZ,gS,tZ,tS]);try simp only [e6])
  refine ⟨d,l,26,rfl,D2,by decide,fun tn G3 tn0 tn1 k3 D3=>?_⟩;have gp3:=k3 _ _ hp gp2;have kG:=(k1.trans k2).trans k3;refine yV ?_
  ((try dsimp only [zO,zT,zL,zH,zC,yX,yW,zN,zV,zM,zW,zY,zS,zP,zI,zK,yY,zJ,gZ,gS,tZ,tS]);try simp only [zS,i0])
  refine ⟨⟨by omega,by omega⟩,?_⟩;have len:((List.range m.toNat).map fun i:Nat=>W.int (i:Int)).length=m.toNat:=by simp
  refine ⟨fun i σ G'=>∃ (xs:List Str) (v7 v8:Option W),σ=[some (.ref d),some (.int m),some (.str abc),some (.ref p),some (.str core),some (.int at'),some (.int tn),v7,v8]/\G' p=some (.lst (xs.map .str))/\xs.length=i/\(∀ x∈xs,gP x=true/\x.length<=5/\xN x=true)/\zR [d,l] G G'/\wL G' d l,
   ⟨[],none,none,rfl,gp3,rfl,by simp,kG,D3⟩,fun _ _ _ _ _=>trivial,?_,?_⟩
  .rintro i w σ G' hw ⟨xs,v7,v8,rfl,gx,hl,hs,kp,D'⟩;rw [List.getElem?_map] at hw;obtain ⟨i',hi',rfl⟩:=Option.map_eq_some_iff.mp hw;have him:i<m.toNat:=by have:=(List.getElem?_eq_some_iff.mp hi').1;simpa using this
   have hii:i'=i:=by
    have:=(List.getElem?_eq_some_iff.mp hi').2;rw [List.getElem_range] at this;exact this.symm
   subst hii;have him:i' < 4:=by omega
   refine yV ?_
   (try dsimp only [zO,zT,zL,zH,zC,yX,yW,zN,zV,zM,zW,zY,zS,zP,zI,zK,yY,zJ,gZ,gS,tZ,tS])
   refine zij a0 (by omega) (by omega) hg fun y1 h1 s1=>?_;refine ⟨.inl ⟨by omega,by omega⟩,by decide,?_⟩;refine zkp (Int.emod_nonneg _ (by decide)) (Int.emod_lt_of_pos _ (by decide)) fun y2 h2 s2=>?_;refine addS (by omega) (zfM a0 (by omega) (by omega) hg fun y3 h3 s3=>addS (by rw [Str.length_append];omega) ?_);have hlen:((y1++y2)++y3).length<=5:=by rw [Str.length_append,Str.length_append];omega
   have hlen1:1<=((y1++y2)++y3).length:=by rw [Str.length_append,Str.length_append];omega
   have hsg:xN ((y1++y2)++y3)=true:=by rw [uP,uP,s1,s2,s3];rfl
   generalize (y1++y2)++y3=nm at hlen hlen1 hsg ⊢;refine yV ?_
   ((try dsimp only [zO,zT,zL,zH,zC,yX,yW,zN,zV,zM,zW,zY,zS,zP,zI,zK,yY,zJ,gZ,gS,tZ,tS]);try simp only [yM,pT,L3.inR,zzB,if_false,zzC,zzL,zzA,Nat.reduceAdd,z4,true_and])
   refine ⟨⟨by simp [pur],by simp [jI,pur],by simp [kC,dep]⟩,?_⟩
   have app:∀ x:Str,gP x=true->x.length<=5->xN x=true->tyW G' (.ref p) "list" /\ cP (.ref p) [.str x] G' (fun _ G1=>∃ (xs':List Str) (v7 v8:Option W),[some (W.ref d),some (.int m),some (.str abc),some (.ref p),some (.str core),some (.int at'),some (.int tn),some (.int i'),some (.str x)]=[some (.ref d),some (.int m),some (.str abc),some (.ref p),some (.str core),some (.int at'),some (.int tn),v7,v8]/\G1 p=some (.lst (xs'.map .str))/\xs'.length=i'+1/\(∀ x∈xs',gP x=true/\x.length<=5/\xN x=true)/\zR [d,l] G G1/\wL G1 d l):=by
    intro x hx hx5 hxs;refine ⟨tyL gx,bR gx (by rw [zzM];omega) ⟨xs++[x],_,_,rfl,by rw [zX];simp,by simp [hl],fun y hy=>?_,uX kp hpn,pJ hp D'⟩⟩;rcases List.mem_append.mp hy with hy|hy
    .exact hs y hy
    .rw [zzO hy];exact ⟨hx,hx5,hxs⟩
   have en:([W.str "and", .str "or", .str "not", .str "then"].any fun w=>jM w (.str nm))=noN.contains nm:=zgz;rw [en]
   by_cases hno:nm∈noN
   .rw [if_pos (by simpa using hno)];refine yV ?_
    (try dsimp only [zO,zT,zL,zH,zC,yX,yW,zN,zV,zM,zW,zY,zS,zP,zI,zK,yY,zJ,gZ,gS,tZ,tS])
    refine addS (by omega) ?_;refine stn ?_;refine yV ?_
    ((try dsimp only [zO,zT,zL,zH,zC,yX,yW,zN,zV,zM,zW,zY,zS,zP,zI,zK,yY,zJ,gZ,gS,tZ,tS]);try simp only [t2])
    have:=zjP hno;exact app _ (zhv (by rw [Str.length_append];omega) (by rw [Str.length_append];omega) (by rw [uP,hsg,q2];rfl) (no_q hno)) (by rw [Str.length_append];omega) (by rw [uP,hsg,q2];rfl)
   .rw [if_neg (by simpa using hno)];refine stn ?_;refine yV ?_
    ((try dsimp only [zO,zT,zL,zH,zC,yX,yW,zN,zV,zM,zW,zY,zS,zP,zI,zK,yY,zJ,gZ,gS,tZ,tS]);try simp only [t2])
    exact app _ (zhv hlen1 (by omega) hsg hno) hlen hsg
  .rintro σ G' ⟨xs,v7,v8,rfl,gx,hl,hs,kp,D'⟩;rw [len] at hl
   obtain ⟨x,r,rfl⟩:∃ x r,xs=x::r:=by
    cases xs with
    |nil=>simp at hl;omega
    |cons x r=>exact ⟨x,r,rfl⟩
   have hlr:r.length+1=m.toNat:=by simpa using hl
   have fin:∀ (ys:List Str) (G2:Hw),ys.length=m.toNat->(∀ y∈ys,gP y=true)->zR [d,l] G G2->wL G2 d l->G2 p=some (.lst (ys.map .str))->∀ v7 v8:Option W,zG (yP K sA nA n) XN (.cons (.ret (.var 3)) .nil) { nx:=fun _ G'=>Q .non G',rt:=Q } [some (.ref d),some (.int m),some (.str abc),some (.ref p),some (.str core),some (.int at'),some (.int tn),v7,v8] G2:=by
    intro ys G2 hy hs2 k4 D4 g4 v7 v8;refine yV ?_
    (try dsimp only [zO,zT,zL,zH,zC,yX,yW,zN,zV,zM,zW,zY,zS,zP,zI,zK,yY,zJ,gZ,gS,tZ,tS])
    refine h p ys G2 ?_ (by omega) hs2 hp g4 k4 D4;rintro rfl;simp at hy;omega
   refine yV ?_
   ((try dsimp only [zO,zT,zL,zH,zC,yX,yW,zN,zV,zM,zW,zY,zS,zP,zI,zK,yY,zJ,gZ,gS,tZ,tS]);try simp only [yM,sP])
   by_cases hm:1<m
   .rw [if_pos (by simpa using hm)]
    ((try dsimp only [zO,zT,zL,zH,zC,yX,yW,zN,zV,zM,zW,zY,zS,zP,zI,zK,yY,zJ,gZ,gS,tZ,tS]);try simp only [e6])
    refine ⟨d,l,2,rfl,D',by decide,fun b G4 b0 b1 k4 D4=>?_⟩;have gx4:=k4 _ _ hp gx;simp only [uW]
    by_cases hb:b=1
    .rw [decide_eq_true hb,if_pos rfl];refine yV ?_
     (try dsimp only [zO,zT,zL,zH,zC,yX,yW,zN,zV,zM,zW,zY,zS,zP,zI,zK,yY,zJ,gZ,gS,tZ,tS])
     refine ixL (xG gx4) ?_;rw [zzU,qS];have hx:=hs x (by simp);refine addS (by omega) ?_;rw [zzU] at gx4;simp only [setR,gx4];have e0:dG (W.str x::r.map W.str).length 0=some 0:=by simp [dG]
     rw [e0];refine stn ?_;refine fin ((x ++ "z")::r) _ (by simpa using hlr) (fun y hy=>?_) (uX (kp.trans k4) hpn) (pJ hp D4) (by rw [zX];rfl) v7 v8;rcases List.mem_cons.mp hy with rfl|hy
     .exact zhv (by rw [Str.length_append];omega) (by rw [Str.length_append];omega) (by rw [uP,hx.2.2,w2];rfl) no_z
     .exact (hs y (List.mem_cons_of_mem _ hy)).1
    .rw [decide_eq_false hb,if_neg zzN];refine stn ?_;exact fin (x::r) _ hl (fun y hy=>(hs y hy).1) (kp.trans k4) D4 gx4 v7 v8
   .rw [if_neg (by simpa using hm),if_neg zzN];refine stn ?_;exact fin (x::r) _ hl (fun y hy=>(hs y hy).1) kp D' gx v7 v8
 simp only [wM,uK] at go;simp only [wM];refine yV ?_
 (try dsimp only [zO,zT,zL,zH,zC,yX,yW,zN,zV,zM,zW,zY,zS,zP,zI,zK,yY,zJ,gZ,gS,tZ,tS])
 refine yV ?_
 ((try dsimp only [zO,zT,zL,zH,zC,yX,yW,zN,zV,zM,zW,zY,zS,zP,zI,zK,yY,zJ,gZ,gS,tZ,tS]);try simp only [List.length_nil,z0,true_and])
 intro p hp;have hpd:=rY D hp;have D1:=qT (o:=.lst []) hp D;have k1:zR [d,l] G (put G p (.lst [])):=zR.new hp;have gp:(put G p (.lst [])) p=some (.lst []):=zX;generalize put G p (.lst [])=G1 at D1 k1 gp ⊢;refine yV ?_
 ((try dsimp only [zO,zT,zL,zH,zC,yX,yW,zN,zV,zM,zW,zY,zS,zP,zI,zK,yY,zJ,gZ,gS,tZ,tS]);try simp only [t1,e6,zS,zP,i0])
 refine ⟨rfl,d,l,5,rfl,D1,by decide,fun j G2 j0 j5 k2 D2=>?_⟩;have gp2:=k2 _ _ hpd gp;refine ⟨⟨by omega,by omega⟩,?_⟩;have len:((List.range j.toNat).map fun i:Nat=>W.int (i:Int)).length=j.toNat:=by simp
 refine ⟨fun i acc G'=>∃ ts:List Str,acc=ts.map .str/\ts.length=i/\(∀ x∈ts,x.length<=1/\xN x=true)/\zR [d,l] G2 G'/\wL G' d l,⟨[],rfl,rfl,by simp,zR.refl,D2⟩,?_,by rw [len];exact sz _ (by omega),?_,?_⟩
 .rintro i acc G' ⟨ts,rfl,rfl,_,_,_⟩ _;exact ⟨trivial,by simp⟩
 .rintro i w acc G' hw ⟨ts,rfl,hl,hs,kp,D'⟩;simp only [capS,List.length_cons,List.length_nil,List.replicate,zzU,zzV,List.cons_append,List.nil_append,List.append_nil]
  ((try dsimp only [zO,zT,zL,zH,zC,yX,yW,zN,zV,zM,zW,zY,zS,zP,zI,zK,yY,zJ,gZ,gS,tZ,tS]);try simp only [Option.join_some,if_true,e6])
  refine ⟨d,l,26,rfl,D',by decide,fun r G'' r0 r1 kp' D''=>zkp r0 r1 fun x hx sx=>?_⟩;refine ⟨ts++[x],by simp,by simp [hl],fun y hy=>?_,kp.trans kp',D''⟩;rcases List.mem_append.mp hy with hy|hy
  .exact hs y hy
  .rw [zzO hy,hx];exact ⟨zzR _,sx⟩
 .rintro acc G' ⟨ts,rfl,hl,hs,kp,D'⟩ r hr;have hl4:ts.length<=4:=by rw [hl,len];omega
  obtain ⟨jo,jl,js⟩:=zfn (fun x hx=>(hs x hx).1) (fun x hx=>(hs x hx).2) hl4;refine ⟨ts,xG zX,jo,?_⟩;have k3:zR [d,l] G' (put G' r (.lst (ts.map .str))):=zR.new hr;exact go _ p _ jl js hp hpd (((k1.trans k2).trans kp).trans k3) (qT hr D') (k3 _ _ hpd (kp _ _ hpd gp2))
end
theorem zi1 {xs:List Str} {i:Int} (h0:0<=i) (h1:i<xs.length):∃ x∈xs,sE (xs.map W.str) i=some (.str x):=by
 obtain ⟨w,hw,e⟩:=zgy (l:=xs.map W.str) h0 (by rw [zzM];exact h1);obtain ⟨x,hx,rfl⟩:=zzP hw;exact ⟨x,hx,e⟩
section
variable {K : yJ} {sA nA : Addr}
theorem zdv {n:Nat} {ws:List W} {G:Hw} {Q:Q3} (h:wW (n+1) ws G Q XN):zG (jK K sA nA 8 ⟨"_law_large", wW n⟩) XN xY { nx:=fun _ G'=>Q .non G',rt:=Q } (yT tP ws) G:=by
 obtain ⟨d,l,r,m,e,xs,rfl,D,hr,gr,hx,hxl,hnm,m1,m40,e0,en,h⟩:=h;have e1:(jK K sA nA 8 ⟨"_law_large", wW n⟩).fn[1]?=some eLen:=rfl;have e6:(jK K sA nA 8 ⟨"_law_large", wW n⟩).fn[6]?=some zdZ:=rfl;have e8:(jK K sA nA 8 ⟨"_law_large", wW n⟩).fn[8]?=some ⟨"_law_large", wW n⟩:=rfl;have z2:=sz 2 (by decide);have z3:=sz 3 (by decide);have x0:0<xs.length:=List.length_pos_iff.mpr hx;show zG (jK K sA nA 8 ⟨"_law_large", wW n⟩) XN xY { nx:=fun _ G'=>Q .non G',rt:=Q } [some (.ref d),some (.ref r),some (.int m),some (.int e),none,none,none,none] G;simp only [xY];refine yV ?_
 ((try dsimp only [zO,zT,zL,zH,zC,yX,yW,zN,zV,zM,zW,zY,zS,zP,zI,zK,yY,zJ,gZ,gS,tZ,tS]);try simp only [yM,uW])
 have say:zG (jK K sA nA 8 ⟨"_law_large", wW n⟩) XN (.cons (.ret (.tup (.cons (.con (.str "say")) (.cons (.ix (.var 1) (.call 6 (.cons (.var 0) (.cons (.call 1 (.cons (.var 1) .nil)) .nil)))) .nil)))) .nil) { nx:=fun _ G'=>Q .non G',rt:=Q } [some (.ref d),some (.ref r),some (.int m),some (.int e),none,none,none,none] G:=by
  refine yV ?_
  ((try dsimp only [zO,zT,zL,zH,zC,yX,yW,zN,zV,zM,zW,zY,zS,zP,zI,zK,yY,zJ,gZ,gS,tZ,tS]);try simp only [e1,e6,bY,bZ,gr,zzM])
  refine ⟨d,l,xs.length,rfl,D,⟨by omega,by omega⟩,fun i G1 i0 i1 kp D1=>?_⟩;obtain ⟨x,hxm,ex⟩:=zi1 i0 i1;refine ixL (xG (kp _ _ hr gr)) ?_;rw [ex];exact ⟨z2,h (.say x) G1 (hnm x hxm) (by show ((1:Nat):Int)<=m;omega) (by show ((0:Nat):Int)<=e;omega) kp D1⟩
 by_cases hm1:m=1
 .rw [decide_eq_true hm1,if_pos rfl,if_pos trivial];exact say
 rw [decide_eq_false hm1,if_neg zzN]
 by_cases he0:e=0
 .rw [decide_eq_true he0,if_pos rfl];exact say
 rw [decide_eq_false he0,if_neg zzN];refine stn ?_;refine yV ?_
 ((try dsimp only [zO,zT,zL,zH,zC,yX,yW,zN,zV,zM,zW,zY,zS,zP,zI,zK,yY,zJ,gZ,gS,tZ,tS]);try simp only [e6])
 refine ⟨d,l,5,rfl,D,by decide,fun way G1 w0 w1 kp1 D1=>?_⟩;have gr1:=kp1 _ _ hr gr;refine yV ?_
 ((try dsimp only [zO,zT,zL,zH,zC,yX,yW,zN,zV,zM,zW,zY,zS,zP,zI,zK,yY,zJ,gZ,gS,tZ,tS]);try simp only [yM,uW])
 have hnot:zG (jK K sA nA 8 ⟨"_law_large", wW n⟩) XN (.cons (.ret (.tup (.cons (.con (.str "not")) (.cons (.call 8 (.cons (.var 0) (.cons (.var 1) (.cons (.bin .Sub (.var 2) (.con (.int 1))) (.cons (.bin .Sub (.var 3) (.con (.int 1))) .nil))))) .nil)))) .nil) { nx:=fun _ G'=>Q .non G',rt:=Q } [some (.ref d),some (.ref r),some (.int m),some (.int e),some (.int way),none,none,none] G1:=by
  refine yV ?_
  ((try dsimp only [zO,zT,zL,zH,zC,yX,yW,zN,zV,zM,zW,zY,zS,zP,zI,zK,yY,zJ,gZ,gS,tZ,tS]);try simp only [jY,e8])
  refine ⟨d,l,r,m-1,e-1,xs,rfl,D1,hr,gr1,hx,hxl,hnm,by omega,by omega,by omega,by omega,fun t G2 ht hs hd kp2 D2=>⟨z2,h (.neg t) G2 ht ?_ ?_ (kp1.trans kp2) D2⟩⟩
  .show ((t.size+1:Nat):Int)<=m;omega
  .show ((t.deep+1:Nat):Int)<=e;omega
 by_cases hm2:m=2
 .rw [decide_eq_true hm2,if_pos rfl,if_pos trivial];exact hnot
 rw [decide_eq_false hm2,if_neg zzN]
 by_cases hw:way=3
 .rw [decide_eq_true hw,if_pos rfl];exact hnot
 rw [decide_eq_false hw,if_neg zzN];refine stn ?_;refine yV ?_
 ((try dsimp only [zO,zT,zL,zH,zC,yX,yW,zN,zV,zM,zW,zY,zS,zP,zI,zK,yY,zJ,gZ,gS,tZ,tS]);try simp only [e6,jY])
 refine ⟨d,l,m-2,rfl,D1,⟨by omega,by omega⟩,fun i G2 i0 i1 kp2 D2=>?_⟩;have gr2:=kp2 _ _ hr gr1;refine yV ?_
 ((try dsimp only [zO,zT,zL,zH,zC,yX,yW,zN,zV,zM,zW,zY,zS,zP,zI,zK,yY,zJ,gZ,gS,tZ,tS]);try simp only [yM,uW])
 have rest:∀ f:Int,1<=f->f<=m-2->zG (jK K sA nA 8 ⟨"_law_large", wW n⟩) XN (uK (uK (uK (uK (uK xY))))) { nx:=fun _ G'=>Q .non G',rt:=Q } [some (.ref d),some (.ref r),some (.int m),some (.int e),some (.int way),some (.int f),none,none] G2:=by
  intro f f1 f2;simp only [xY,uK];refine yV ?_
  ((try dsimp only [zO,zT,zL,zH,zC,yX,yW,zN,zV,zM,zW,zY,zS,zP,zI,zK,yY,zJ,gZ,gS,tZ,tS]);try simp only [jY,e8])
  refine ⟨d,l,r,f,e-1,xs,rfl,D2,hr,gr2,hx,hxl,hnm,by omega,by omega,by omega,by omega,fun a G3 oa sa da kp3 D3=>?_⟩;have gr3:=kp3 _ _ hr gr2;refine yV ?_
  ((try dsimp only [zO,zT,zL,zH,zC,yX,yW,zN,zV,zM,zW,zY,zS,zP,zI,zK,yY,zJ,gZ,gS,tZ,tS]);try simp only [e6,zzC,zzL,zzA,Nat.reduceAdd,z3,true_and])
  intro p hp;have D4:=qT (o:=.lst [.str "and", .str "or", .str "if"]) hp D3;have k4:zR [d,l] G3 (put G3 p (.lst [.str "and", .str "or", .str "if"])):=zR.new hp;have gp:(put G3 p (.lst [.str "and", .str "or", .str "if"])) p=some (.lst [.str "and", .str "or", .str "if"]):=zX;have gr4:=k4 _ _ hr gr3;have hpd:=rY D3 hp;generalize put G3 p (.lst [.str "and", .str "or", .str "if"])=G4 at D4 k4 gp gr4 ⊢;refine ⟨d,l,3,rfl,D4,by decide,fun k G5 k0 k3 kp5 D5=>?_⟩;have gr5:=kp5 _ _ hr gr4;have gp5:=kp5 _ _ hpd gp;have kp':=(((kp1.trans kp2).trans kp3).trans k4).trans kp5;refine ixL (xG gp5) ?_
  have fin:∀ j:Nat,zG (jK K sA nA 8 ⟨"_law_large", wW n⟩) XN (uK (uK (uK (uK (uK (uK (uK xY))))))) { nx:=fun _ G'=>Q .non G',rt:=Q } [some (.ref d),some (.ref r),some (.int m),some (.int e),some (.int way),some (.int f),some a.w,some (.str (kw j))] G5:=by
   intro j;simp only [xY,uK];refine yV ?_
   ((try dsimp only [zO,zT,zL,zH,zC,yX,yW,zN,zV,zM,zW,zY,zS,zP,zI,zK,yY,zJ,gZ,gS,tZ,tS]);try simp only [jY,e8])
   refine ⟨d,l,r,m-1-f,e-1,xs,rfl,D5,hr,gr5,hx,hxl,hnm,by omega,by omega,by omega,by omega,fun b G6 ob sb db kp6 D6=>⟨z3,h (.two j a b) G6 ⟨oa,ob⟩ ?_ ?_ (kp'.trans kp6) D6⟩⟩
   .show ((a.size+b.size+1:Nat):Int)<=m;omega
   .show ((max a.deep b.deep+1:Nat):Int)<=e;omega
  simp only [xY,uK] at fin;have hc:k=0\/k=1\/k=2:=by omega
  rcases hc with rfl|rfl|rfl
  .rw [qS];exact fin 0
  .rw [cQ];exact fin 1
  .rw [at_2];exact fin 2
 simp only [xY,uK] at rest
 by_cases h4:way=4
 .rw [decide_eq_true h4,if_pos rfl];refine yV ?_
  ((try dsimp only [zO,zT,zL,zH,zC,yX,yW,zN,zV,zM,zW,zY,zS,zP,zI,zK,yY,zJ,gZ,gS,tZ,tS]);try simp only [jY])
  refine ⟨⟨by decide,by decide⟩,?_⟩;exact rest _ (by show 1<=(m-1) / 2;omega) (by show (m-1) / 2<=m-2;omega)
 .rw [decide_eq_false h4,if_neg zzN];refine stn ?_;exact rest _ (by omega) (by omega)
end
theorem zkW {x:W} {r:List W}:cut (x::r) (some 1) none=r:=by
 have e1:HT.wJ (x::r).length 0 (some 1)=1:=by
  simp [HT.wJ]
 have e2:HT.wJ (x::r).length (x::r).length none=r.length+1:=by
  simp [HT.wJ]
 unfold cut;rw [e1,e2];simp
section
variable {K : yJ} {sA nA : Addr}
theorem bD {Γ:Ctx3} {ws:List W} {G:Hw} {Q:Q3} (h:jW ws G Q XN):zG Γ XN vT { nx:=fun _ G'=>Q .non G',rt:=Q } (yT sV ws) G:=by
 obtain ⟨t,rfl,h⟩:=h;have z0:=sz 0 (by decide);show zG Γ XN vT { nx:=fun _ G'=>Q .non G',rt:=Q } [some t.w] G;simp only [vT];refine yV ?_
 cases t with
 |say x =>
  ((try dsimp only [zO,zT,zL,zH,zC,yX,yW,zN,zV,zM,zW,zY,zS,zP,zI,zK,yY,zJ,gZ,gS,tZ,tS]);try simp only [Sy.w,qU,qS,yM,yO,List.length_nil,z0,true_and,beq_self_eq_true,if_true])
  exact h
 |neg a =>
  have e:(("not" : Str) == "say")=false:=by decide +kernel
  ((try dsimp only [zO,zT,zL,zH,zC,yX,yW,zN,zV,zM,zW,zY,zS,zP,zI,zK,yY,zJ,gZ,gS,tZ,tS]);try simp only [Sy.w,qU,qS,yM,yO,e,zzB,if_false,slR,zkW])
  exact h
 |two k a b =>
  ((try dsimp only [zO,zT,zL,zH,zC,yX,yW,zN,zV,zM,zW,zY,zS,zP,zI,zK,yY,zJ,gZ,gS,tZ,tS]);try simp only [Sy.w,qU,qS,yM,yO,(nK k).1,zzB,if_false,slR,zkW])
  exact h
theorem zca {n:Nat} {ws:List W} {G:Hw} {Q:Q3} (h:rH sA ws G Q XN):zG (yP K sA nA n) XN kK { nx:=fun _ G'=>Q .non G',rt:=Q } (yT tT ws) G:=by
 obtain ⟨t,rfl,ts,h⟩:=h;have t0:(yP K sA nA n).mt[0]?=some ePop:=rfl;have t2:(yP K sA nA n).mt[2]?=some dA:=rfl;have t3:(yP K sA nA n).mt[3]?=some eExt:=rfl;have s1:(yP K sA nA n).sx[1]?=some ⟨rvM,rvS⟩:=rfl;have s3:(yP K sA nA n).sx[2]?=some ⟨hcM "sides_of", hcS sA jW⟩:=rfl;have z0:=sz 0 (by decide);have z1:=sz 1 (by decide);show zG (yP K sA nA n) XN kK { nx:=fun _ G'=>Q .non G',rt:=Q } [some t.w,some (.ref sA),none,none,none] G;simp only [kK];refine yV ?_
 ((try dsimp only [zO,zT,zL,zH,zC,yX,yW,zN,zV,zM,zW,zY,zS,zP,zI,zK,yY,zJ,gZ,gS,tZ,tS]);try simp only [List.length_nil,z0,true_and])
 intro pf hf;have kf:zR [] G (put G pf (.lst [])):=zR.new hf;have gf:(put G pf (.lst [])) pf=some (.lst []):=zX;generalize put G pf (.lst [])=G1 at kf gf ⊢;refine yV ?_
 ((try dsimp only [zO,zT,zL,zH,zC,yX,yW,zN,zV,zM,zW,zY,zS,zP,zI,zK,yY,zJ,gZ,gS,tZ,tS]);try simp only [zzC,zzL,zzA,z1,true_and])
 intro pw hw;have kw':zR [] G1 (put G1 pw (.lst [t.w])):=zR.new hw;have gw:(put G1 pw (.lst [t.w])) pw=some (.lst [t.w]):=zX;have gf:=kw' _ _ (by simp) gf;have ne:pf≠pw:=fun e=>by rw [e,gw] at gf;cases gf
 have hw0:G pw=none:=kf.none (by simp) hw;have k2:zR [] G (put G1 pw (.lst [t.w])):=kf.trans kw';generalize put G1 pw (.lst [t.w])=G2 at k2 gw gf ⊢;refine yV ?_;refine ⟨fun m σ G'=>∃ (fs st:List Sy) (v:Option W),σ=[some t.w,some (.ref sA),some (.ref pf),some (.ref pw),v]/\G' pf=some (.lst (fs.map Sy.w))/\G' pw=some (.lst (st.map Sy.w))/\zR [] G G'/\fs++wD st.reverse=pre t/\qC st=m,⟨_,[],[t],none,rfl,gf,gw,k2,by simp [wD],rfl⟩,?_⟩;rintro m σ G' ⟨fs,st,v,rfl,gf',gw',kp,hp,rfl⟩
 have hln:fs.length+qC st=t.size:=by
  have:=congrArg List.length hp;rw [zzW,qM] at this
  have e:(wD st.reverse).length=qC st:=by
   clear this hp gw' gf'
   induction st with
   |nil=>rfl
   |cons a st ih =>
    rw [List.reverse_cons,tX,zzW,ih,rC];simp [qC,wD];omega
  omega
 ((try dsimp only [zO,zT,zL,zH,zC,yX,yW,zN,zV,zM,zW,zY,zS,zP,zI,zK,yY,zJ,gZ,gS,tZ,tS]);try simp only [kR,gw'])
 by_cases hst:st=[]
 .subst hst;simp only [zzV,List.isEmpty_nil,Bool.not_true,zzB,if_false];refine yV ?_
  (try dsimp only [zO,zT,zL,zH,zC,yX,yW,zN,zV,zM,zW,zY,zS,zP,zI,zK,yY,zJ,gZ,gS,tZ,tS])
  have e:fs=pre t:=by simpa [wD] using hp
  rw [e] at gf';exact h pf G' kp hf gf'
 .obtain ⟨ini,x,rfl⟩:∃ ini x,st=ini++[x]:=⟨st.dropLast,st.getLast hst,(List.dropLast_concat_getLast hst).symm⟩;have he:((ini++[x]).map Sy.w).isEmpty=false:=by simp
  simp only [he,Bool.not_false,if_true];rw [List.map_append,zzU,zzV] at gw';have hgx:(ini.map Sy.w++[x.w])[(ini.map Sy.w++[x.w]).length-1]?=some x.w:=by simp
  rw [gE,show qC [x]=x.size by simp [qC,wD,qM]] at hln;have l1:=rJ ini;have l2:=zcR x;have l3:=rJ (yB x);refine yV ?_
  ((try dsimp only [zO,zT,zL,zH,zC,yX,yW,zN,zV,zM,zW,zY,zS,zP,zI,zK,yY,zJ,gZ,gS,tZ,tS]);try simp only [t0])
  refine ⟨tyL gw',?_⟩;simp only [fM,gw',hgx,List.dropLast_concat];have k3:zR [] G (put G' pw (.lst (ini.map Sy.w))):=uX kp hw0;have gw3:(put G' pw (.lst (ini.map Sy.w))) pw=some (.lst (ini.map Sy.w)):=zX;have gf3:(put G' pw (.lst (ini.map Sy.w))) pf=some (.lst (fs.map Sy.w)):=by rw [yH ne];exact gf'
  generalize put G' pw (.lst (ini.map Sy.w))=G3 at k3 gw3 gf3 ⊢;refine yV ?_
  ((try dsimp only [zO,zT,zL,zH,zC,yX,yW,zN,zV,zM,zW,zY,zS,zP,zI,zK,yY,zJ,gZ,gS,tZ,tS]);try simp only [t2])
  refine ⟨tyL gf3,bR gf3 (by rw [zzM];omega) ?_⟩;have k4:zR [] G (put G3 pf (.lst (fs.map Sy.w++[x.w]))):=uX k3 hf;have gf4:(put G3 pf (.lst (fs.map Sy.w++[x.w]))) pf=some (.lst (fs.map Sy.w++[x.w])):=zX;have gw4:(put G3 pf (.lst (fs.map Sy.w++[x.w]))) pw=some (.lst (ini.map Sy.w)):=by rw [yH (Ne.symm ne)];exact gw3
  generalize put G3 pf (.lst (fs.map Sy.w++[x.w]))=G4 at k4 gf4 gw4 ⊢;refine yV ?_
  ((try dsimp only [zO,zT,zL,zH,zC,yX,yW,zN,zV,zM,zW,zY,zS,zP,zI,zK,yY,zJ,gZ,gS,tZ,tS]);try simp only [t3,s1,s3])
  refine ⟨tyL gw4,?_⟩;refine ⟨rfl,x,rfl,?_⟩;simp only [rvS,extS,gw4];refine ⟨sz _ (by rw [zzM,List.length_reverse,zzM];omega),?_⟩;refine stn ?_;refine ⟨qC (ini++(yB x).reverse),?_,fs++[x],ini++(yB x).reverse,_,rfl,?_,?_,uX k4 hw0,?_,rfl⟩
  .have e:qC (yB x).reverse=qC (yB x):=by cases x<;>simp [yB,qC,wD]<;>omega
   rw [gE,gE,e,show qC [x]=x.size by simp [qC,wD,qM]];omega
  .rw [yH ne,gf4];simp
  .rw [zX,List.map_append,List.map_reverse]
  .rw [← hp,List.reverse_append,List.reverse_reverse,List.reverse_append,List.reverse_singleton,tX,tX,rC,fO x];simp
end
theorem ix0 {t:Sy} {G:Hw} {Q:Q3} (h:Q (.str (mB t)) G):qU t.w (.int 0) G Q:=by
 cases t<;>(simp only [Sy.w,qU,qS];exact h)
def bL:List W:=[.str "if", .str "or", .str "and", .str "not", .str "say"]
theorem zkF (t:Sy):(bL.any fun w=>jM w (.str (mB t)))=true/\((bL.findIdx fun w=>jM w (.str (mB t)):Nat):Int)=(bd t:Int)-1:=by
 cases t with
 |say x=>exact ⟨by show (bL.any fun w=>jM w (.str "say"))=true;decide +kernel,by show ((bL.findIdx fun w=>jM w (.str "say"):Nat):Int)=4;decide +kernel⟩
 |neg a=>exact ⟨by show (bL.any fun w=>jM w (.str "not"))=true;decide +kernel,by show ((bL.findIdx fun w=>jM w (.str "not"):Nat):Int)=3;decide +kernel⟩
 |two k a b=>match k with
  | 0=>exact ⟨by show (bL.any fun w=>jM w (.str "and"))=true;decide +kernel,by show ((bL.findIdx fun w=>jM w (.str "and"):Nat):Int)=2;decide +kernel⟩
  | 1=>exact ⟨by show (bL.any fun w=>jM w (.str "or"))=true;decide +kernel,by show ((bL.findIdx fun w=>jM w (.str "or"):Nat):Int)=1;decide +kernel⟩
  |k+2=>exact ⟨by show (bL.any fun w=>jM w (.str "if"))=true;decide +kernel,by show ((bL.findIdx fun w=>jM w (.str "if"):Nat):Int)=0;decide +kernel⟩
theorem zkL (t:Sy):((bK.zip bV).lookup (mB t)).getD (.int 5)=.int (bd t):=by
 cases t with
 |say x=>show ((bK.zip bV).lookup ("say" : Str)).getD (.int 5)=.int 5;rfl
 |neg a=>show ((bK.zip bV).lookup ("not" : Str)).getD (.int 5)=.int 4;rfl
 |two k a b=>match k with
  | 0=>show ((bK.zip bV).lookup ("and" : Str)).getD (.int 5)=.int 3;rfl
  | 1=>show ((bK.zip bV).lookup ("or" : Str)).getD (.int 5)=.int 2;rfl
  |k+2=>show ((bK.zip bV).lookup ("if" : Str)).getD (.int 5)=.int 1;rfl
def ls:Sy->List Nat
 | .say _=>[]
 | .neg _=>[4]
 | .two k _ _=>[lA k,lB k]
theorem zkJ {t:Sy} (h:yB t≠[]):(lK.zip lV).lookup (mB t)=some (.tup ((ls t).map fun n:Nat=>W.int n)):=by
 cases t with
 |say x=>exact absurd rfl h
 |neg a=>show (lK.zip lV).lookup ("not" : Str)=some (.tup [.int 4]);rfl
 |two k a b=>match k with
  | 0=>show (lK.zip lV).lookup ("and" : Str)=some (.tup [.int 3,.int 4]);rfl
  | 1=>show (lK.zip lV).lookup ("or" : Str)=some (.tup [.int 2,.int 3]);rfl
  |k+2=>show (lK.zip lV).lookup ("if" : Str)=some (.tup [.int 2,.int 1]);rfl
theorem zkK (k:Nat):(wK.zip wV).lookup (kw k)=some (.str (bw k)):=by
 match k with
 | 0=>show (wK.zip wV).lookup ("and" : Str)=some (.str " and ");rfl
 | 1=>show (wK.zip wV).lookup ("or" : Str)=some (.str " or ");rfl
 |k+2=>show (wK.zip wV).lookup ("if" : Str)=some (.str " then ");rfl
def wr (t:Sy):List Str:=List.zipWith (fun n s=>bS n s (sh s)) (ls t) (yB t)
theorem zeh (n:Nat) (a:Sy) (s:Str):(bS n a s).length<=s.length+2:=by
 unfold bS;split
 .rw [Str.length_append,Str.length_append,show ("(" : Str).length=1 by decide +kernel,show (")" : Str).length=1 by decide +kernel];omega
 .omega
theorem zfl {S:List Addr} {G G' G'':Hw} {p:Addr} (k:zR S G G') (k2:zR [p] G' G'') (h:G p=none):zR S G G'':=fun a u ha e=>k2 a u (by
 simp only [List.mem_cons,List.not_mem_nil,or_false];exact jP e h) (k a u ha e)
theorem zhD {t:Sy} (h:t.ok):∀ s∈yB t,s.ok/\s.size<t.size/\s.deep<t.deep:=by
 cases t with
 |say x=>simp [yB]
 |neg a=>intro s hs;rw [zzO hs];exact ⟨h,by simp only [Sy.size];omega,by simp only [Sy.deep];omega⟩
 |two k a b =>
  intro s hs;simp only [yB,List.mem_cons,List.not_mem_nil,or_false] at hs;rcases hs with rfl|rfl
  .exact ⟨h.1,by simp only [Sy.size];omega,by simp only [Sy.deep];omega⟩
  .exact ⟨h.2,by simp only [Sy.size];omega,by simp only [Sy.deep];omega⟩
theorem zfj (t:Sy):(yB t).length<=2:=by cases t<;>simp [yB]
theorem zj1 (t:Sy):(ls t).length=(yB t).length:=by cases t<;>simp [yB,ls]
theorem l_p:("(" : Str).length=1:=by decide +kernel
theorem l_q:(")" : Str).length=1:=by decide +kernel
theorem l_not:("not " : Str).length=4:=by decide +kernel
theorem l_0:Str.empty.length=0:=rfl
theorem zkj {sep:Str} {ts:List Str} {n:Nat} (h:∀ y∈ts,y.length<=n) (hz:ts.length * n+ts.length * sep.length<=16777216):JoinOk sep ts=true:=by
 unfold JoinOk;rw [StrLaws.joinFits h hz];rfl
section
variable {K : yJ} {sA nA : Addr}
theorem fG {Γ:Ctx3} {ws:List W} {G:Hw} {Q:Q3} (h:jZ ws G Q XN):zG Γ XN tG { nx:=fun _ G'=>Q .non G',rt:=Q } (yT rA ws) G:=by
 obtain ⟨x,rfl,h⟩:=h;show zG Γ XN tG { nx:=fun _ G'=>Q .non G',rt:=Q } [some (Sy.say x).w] G;simp only [tG];refine yV ?_
 ((try dsimp only [zO,zT,zL,zH,zC,yX,yW,zN,zV,zM,zW,zY,zS,zP,zI,zK,yY,zJ,gZ,gS,tZ,tS]);try simp only [Sy.w,qU,cQ])
 exact h
theorem zeI {n:Nat} (hn:13<=n) {ws:List W} {G:Hw} {Q:Q3} (h:zbB ws G Q XN):zG (yP K sA nA n) XN qK { nx:=fun _ G'=>Q .non G',rt:=Q } (yT vJ ws) G:=by
 obtain ⟨t,rfl,ok,ts,h⟩:=h;have e12:(yP K sA nA n).fn[12]?=some ⟨"show_joined", gT sA nA⟩:=sM 12 hn rfl;have g12:(yP K sA nA n).gl[12]?=some (("sides_of" : Str),W.ref sA):=rfl;have g13:(yP K sA nA n).gl[13]?=some (("name_of" : Str),W.ref nA):=rfl;show zG (yP K sA nA n) XN qK { nx:=fun _ G'=>Q .non G',rt:=Q } [some t.w] G;simp only [qK];refine yV ?_
 ((try dsimp only [zO,zT,zL,zH,zC,yX,yW,zN,zV,zM,zW,zY,zS,zP,zI,zK,yY,zJ,gZ,gS,tZ,tS]);try simp only [e12,g12,g13])
 exact ⟨t,rfl,ok,ts,h⟩
theorem zee {n:Nat} {ws:List W} {G:Hw} {Q:Q3} (h:sY ws G Q XN):zG (yP K sA nA n) XN kI { nx:=fun _ G'=>Q .non G',rt:=Q } (yT tO ws) G:=by
 obtain ⟨t,rfl,h⟩:=h;have t4:(yP K sA nA n).mt[4]?=some eIdx:=rfl;have z5:=sz 5 (by decide);show zG (yP K sA nA n) XN kI { nx:=fun _ G'=>Q .non G',rt:=Q } [some t.w] G;simp only [kI];refine yV ?_
 ((try dsimp only [zO,zT,zL,zH,zC,yX,yW,zN,zV,zM,zW,zY,zS,zP,zI,zK,yY,zJ,gZ,gS,tZ,tS]);try simp only [t4,zzC,zzL,zzA,Nat.reduceAdd,z5,true_and])
 intro p hp;refine ⟨tyL zX,ix0 ?_⟩;have i:=zkF t;refine ⟨bL,kE zX,⟨by simp [pur],by simp [bL,jI,pur],Nat.le_trans (Nat.min_le_right _ _) (by simp [dep])⟩,i.1,?_⟩;rw [i.2];exact h _ (zR.new hp)
theorem zk1 {n:Nat} {ws:List W} {G:Hw} {Q:Q3} (h:fZ n ws G Q XN):zG (jK K sA nA 16 ⟨"_law_text_words", gC n⟩) XN pF { nx:=fun _ G'=>Q .non G',rt:=Q } (yT fD ws) G:=by
 obtain ⟨t,k,rfl,ts,td,h⟩:=h;have e16:(jK K sA nA 16 ⟨"_law_text_words", gC n⟩).fn[16]?=some ⟨"_law_text_words", gC n⟩:=rfl;have e15:(jK K sA nA 16 ⟨"_law_text_words", gC n⟩).fn[15]?=some ⟨"_law_binds", sY⟩:=rfl;have z1:=sz 1 (by decide);have hl:=sD t;show zG (jK K sA nA 16 ⟨"_law_text_words", gC n⟩) XN pF { nx:=fun _ G'=>Q .non G',rt:=Q } [some t.w,some (.int ((k:Int)-1)),none] G;simp only [pF];refine yV ?_
 ((try dsimp only [zO,zT,zL,zH,zC,yX,yW,zN,zV,zM,zW,zY,zS,zP,zI,zK,yY,zJ,gZ,gS,tZ,tS]);try simp only [e16])
 refine ⟨t,rfl,ts,td,fun r G1 k1 hr gr=>?_⟩;refine yV ?_
 ((try dsimp only [zO,zT,zL,zH,zC,yX,yW,zN,zV,zM,zW,zY,zS,zP,zI,zK,yY,zJ,gZ,gS,tZ,tS]);try simp only [e15,yM,sP])
 refine ⟨t,rfl,fun G2 k2=>?_⟩;have gr2:=k0 k2 gr;have c:decide ((bd t:Int)-1<(k:Int)-1)=decide (bd t<k):=decide_eq_decide.mpr (by omega);simp only [c];unfold br at h
 by_cases hb:bd t<k
 .rw [if_pos hb] at h;rw [decide_eq_true hb,if_pos rfl];refine yV ?_
  ((try dsimp only [zO,zT,zL,zH,zC,yX,yW,zN,zV,zM,zW,zY,zS,zP,zI,zK,yY,zJ,gZ,gS,tZ,tS]);try simp only [zzC,zzL,zzA,Nat.reduceAdd,z1,true_and])
  intro p1 hp1;have gr3:=nV (u:=.lst [.str "("]) hp1 gr2;refine bQ zX gr3 (by simp [xM];omega) fun p2 hp2=>?_;intro p3 hp3;refine bQ (nV hp3 zX) zX (by simp [xM];omega) fun p4 hp4=>?_;have kk:=((((k1.trans k2).trans (zR.new hp1)).trans (zR.new hp2)).trans (zR.new (o:=.lst [.str ")"]) hp3));refine h p4 _ (kk.trans (zR.new hp4)) (kk.none (by simp) hp4) ?_;rw [zX];simp [xM,Tk.s]
 .rw [if_neg hb] at h;rw [decide_eq_false hb,if_neg zzN];refine stn (yV ?_)
  (try dsimp only [zO,zT,zL,zH,zC,yX,yW,zN,zV,zM,zW,zY,zS,zP,zI,zK,yY,zJ,gZ,gS,tZ,tS])
  exact h r G2 (k1.trans k2) hr gr2
theorem zfi (k:Nat):((kw k:Str) == "if")=decide (2<=k):=by
 match k with
 | 0=>decide +kernel
 | 1=>decide +kernel
 |k+2=>show (("if" : Str) == "if")=_;simp
theorem ziI {n:Nat} {ws:List W} {G:Hw} {Q:Q3} (h:gC (n+1) ws G Q XN):zG (jK K sA nA 16 ⟨"_law_at", fZ n⟩) XN wF { nx:=fun _ G'=>Q .non G',rt:=Q } (yT qY ws) G:=by
 obtain ⟨t,rfl,ts,td,h⟩:=h;have e16:(jK K sA nA 16 ⟨"_law_at", fZ n⟩).fn[16]?=some ⟨"_law_at", fZ n⟩:=rfl;have e15:(jK K sA nA 16 ⟨"_law_at", fZ n⟩).fn[15]?=some ⟨"_law_binds", sY⟩:=rfl;have z1:=sz 1 (by decide);show zG (jK K sA nA 16 ⟨"_law_at", fZ n⟩) XN wF { nx:=fun _ G'=>Q .non G',rt:=Q } [some t.w,none] G;simp only [wF];refine yV ?_
 have hb:∀ (m:Nat) (a:Sy),(br m a (tw a)).length<=5 * a.size+2:=fun m a=>by
  have:=sD a;unfold br;split
  .simp;omega
  .omega
 cases t with
 |say x =>
  ((try dsimp only [zO,zT,zL,zH,zC,yX,yW,zN,zV,zM,zW,zY,zS,zP,zI,zK,yY,zJ,gZ,gS,tZ,tS]);try simp only [Sy.w,qU,qS,yM,yO,beq_self_eq_true,if_true])
  refine yV ?_
  ((try dsimp only [zO,zT,zL,zH,zC,yX,yW,zN,zV,zM,zW,zY,zS,zP,zI,zK,yY,zJ,gZ,gS,tZ,tS]);try simp only [Sy.w,qU,cQ,zzC,zzL,zzA,Nat.reduceAdd,z1,true_and])
  intro p hp;exact h p _ (zR.new hp) hp zX
 |neg a =>
  have e:(("not" : Str) == "say")=false:=by decide +kernel
  simp only [Sy.size,Sy.deep] at ts td
  ((try dsimp only [zO,zT,zL,zH,zC,yX,yW,zN,zV,zM,zW,zY,zS,zP,zI,zK,yY,zJ,gZ,gS,tZ,tS]);try simp only [Sy.w,qU,qS,yM,yO,e,zzB,if_false])
  refine stn (yV ?_)
  ((try dsimp only [zO,zT,zL,zH,zC,yX,yW,zN,zV,zM,zW,zY,zS,zP,zI,zK,yY,zJ,gZ,gS,tZ,tS]);try simp only [e15])
  refine ⟨.neg a,rfl,fun G1 k1=>?_⟩;refine yV ?_
  ((try dsimp only [zO,zT,zL,zH,zC,yX,yW,zN,zV,zM,zW,zY,zS,zP,zI,zK,yY,zJ,gZ,gS,tZ,tS]);try simp only [qU,qS,yM,yO,beq_self_eq_true,if_true])
  refine yV ?_
  ((try dsimp only [zO,zT,zL,zH,zC,yX,yW,zN,zV,zM,zW,zY,zS,zP,zI,zK,yY,zJ,gZ,gS,tZ,tS]);try simp only [e16,qU,cQ,zzC,zzL,zzA,Nat.reduceAdd,z1,true_and])
  intro p hp;refine ⟨a,4,rfl,by omega,by omega,fun r G2 k2 hr gr=>?_⟩;have:=hb 4 a;refine bQ (k0 k2 zX) gr (by simp [xM];omega) fun q hq=>?_;have kk:=((k1.trans (zR.new hp)).trans k2);refine h q _ (kk.trans (zR.new hq)) (kk.none (by simp) hq) ?_;rw [zX];rfl
 |two k a b =>
  simp only [Sy.size,Sy.deep] at ts td;have l1:=hb (lA k) a;have l2:=hb (lB k) b
  ((try dsimp only [zO,zT,zL,zH,zC,yX,yW,zN,zV,zM,zW,zY,zS,zP,zI,zK,yY,zJ,gZ,gS,tZ,tS]);try simp only [Sy.w,qU,qS,yM,yO,(nK k).1,zzB,if_false])
  refine stn (yV ?_)
  ((try dsimp only [zO,zT,zL,zH,zC,yX,yW,zN,zV,zM,zW,zY,zS,zP,zI,zK,yY,zJ,gZ,gS,tZ,tS]);try simp only [e15])
  refine ⟨.two k a b,rfl,fun G1 k1=>?_⟩;refine yV ?_
  ((try dsimp only [zO,zT,zL,zH,zC,yX,yW,zN,zV,zM,zW,zY,zS,zP,zI,zK,yY,zJ,gZ,gS,tZ,tS]);try simp only [qU,qS,yM,yO,(nK k).2.2.1,zzB,if_false])
  refine stn (yV ?_)
  ((try dsimp only [zO,zT,zL,zH,zC,yX,yW,zN,zV,zM,zW,zY,zS,zP,zI,zK,yY,zJ,gZ,gS,tZ,tS]);try simp only [qU,qS,yM,yO,zfi])
  have fin:∀ (G2 G4:Hw) (r p:Addr) (x:Str),x=jw k->zR [] G G2->G r=none->G2 r=some (.lst (xM (br (lA k) a (tw a))))->G2 p=none->∀ Q':Q3,(∀ w G',Q w G'->Q' w G') ->
    jY .Add (.ref r) (.ref p) (put G2 p (.lst [.str x])) fun w G'=>fZ n [b.w,.int ((lB k:Int)-1)] G' (fun w' G''=>jY .Add w w' G'' Q') XN:=by
   rintro G2 G4 r p x rfl k2 hr gr hp Q' hQ;refine bQ (nV hp gr) zX (by simp [xM];omega) fun q hq=>?_;refine ⟨b,lB k,rfl,by omega,by omega,fun r2 G5 k5 hr2 gr2=>?_⟩;refine bQ (k0 k5 zX) gr2 (by simp [xM];omega) fun q2 hq2=>hQ _ _ ?_;have kk:=((k2.trans (zR.new hp)).trans (zR.new hq)).trans k5;refine h q2 _ (kk.trans (zR.new hq2)) (kk.none (by simp) hq2) ?_;rw [zX];simp [xM,tw,Tk.s]
  by_cases hk:2<=k
  .rw [decide_eq_true hk,if_pos rfl];obtain ⟨j,rfl⟩:∃ j,k=j+2:=⟨k-2,by omega⟩;refine yV ?_
   ((try dsimp only [zO,zT,zL,zH,zC,yX,yW,zN,zV,zM,zW,zY,zS,zP,zI,zK,yY,zJ,gZ,gS,tZ,tS]);try simp only [e16,qU,cQ,at_2,zzC,zzL,zzA,Nat.reduceAdd,z1,true_and])
   refine ⟨a,2,rfl,by omega,by omega,fun r G2 k2 hr gr=>?_⟩;intro p hp;exact fin G2 G2 r p _ rfl (k1.trans k2) (k1.none (by simp) hr) gr hp _ (fun _ _ x=>x)
  .rw [decide_eq_false hk,if_neg zzN];refine stn (yV ?_);have c:(k=0\/k=1):=by omega
   ((try dsimp only [zO,zT,zL,zH,zC,yX,yW,zN,zV,zM,zW,zY,zS,zP,zI,zK,yY,zJ,gZ,gS,tZ,tS]);try simp only [e16,qU,qS,cQ,at_2,zzC,zzL,zzA,Nat.reduceAdd,z1,true_and,jY])
   rcases c with rfl|rfl
   .refine ⟨a,3,rfl,by omega,by omega,fun r G2 k2 hr gr=>?_⟩;intro p hp;exact fin G2 G2 r p _ rfl (k1.trans k2) (k1.none (by simp) hr) gr hp _ (fun _ _ x=>x)
   .refine ⟨a,2,rfl,by omega,by omega,fun r G2 k2 hr gr=>?_⟩;intro p hp;exact fin G2 G2 r p _ rfl (k1.trans k2) (k1.none (by simp) hr) gr hp _ (fun _ _ x=>x)
end
theorem zjh {y z u v:List Nat} (hl:z.length<=y.length) (h:Rp y z u v):v.length<=u.length:=by
 induction h with
 |nil=>exact zzR _
 |hit _ ih=>rw [zzW,zzW];omega
 |skip _ _ ih=>rw [List.length_cons,List.length_cons];omega
theorem zg2 {x y z:Str} (hy:1<=y.length) (hl:z.length<=y.length):(Txt.replace x y z).length<=x.length:=by
 have:=zjh (by rw [vW,vW];exact hl) (zf0 x y z hy)
 rwa [vW,vW] at this
theorem zfU {t:Tk} (h:tkOk t):t.s.length<=6:=by
 cases t with
 |nm x =>
  have h:gP x=true:=h;simp only [gP,Bool.and_eq_true,decide_eq_true_eq] at h;exact h.1.1.2
 |lp=>show ("(" : Str).length<=6;decide +kernel
 |rp=>show (")" : Str).length<=6;decide +kernel
 |nt=>show ("not" : Str).length<=6;decide +kernel
 |op k=>match k with
  | 0=>show ("and" : Str).length<=6;decide +kernel
  | 1=>show ("or" : Str).length<=6;decide +kernel
  |k+2=>show ("then" : Str).length<=6;decide +kernel
theorem tw_ok:∀ t:Sy,t.ok->∀ k∈tw t,tkOk k:=by
 have hb:∀ (n:Nat) (a:Sy),(∀ k∈tw a,tkOk k)->∀ k∈br n a (tw a),tkOk k:=fun n a h k hk=>by
  unfold br at hk
  split at hk
  .rcases List.mem_cons.mp hk with rfl|hk
   .trivial
   .rcases List.mem_append.mp hk with hk|hk
    .exact h k hk
    .rw [zzO hk];trivial
  .exact h k hk
 intro t
 induction t with
 |say x=>intro h k hk;rw [zzO hk];exact h
 |neg a ih =>
  intro h k hk;rcases List.mem_cons.mp hk with rfl|hk
  .trivial
  .exact hb 4 a (ih h) k hk
 |two j a b ia ib =>
  intro h k hk;rcases List.mem_append.mp hk with hk|hk
  .exact hb _ a (ia h.1) k hk
  .rcases List.mem_cons.mp hk with rfl|hk
   .trivial
   .exact hb _ b (ib h.2) k hk
theorem cZ {α:Type} {l:List α} {i:Nat} {x:α} (h:l[i]?=some x):l.drop i=x::l.drop (i+1):=by
 have hi:=(List.getElem?_eq_some_iff.mp h).1;rw [List.drop_eq_getElem_cons hi,(List.getElem?_eq_some_iff.mp h).2]
section
variable {K : yJ} {sA nA : Addr}
theorem zcY {n:Nat} (hn:18<=n) {ws:List W} {G:Hw} {Q:Q3} (h:gU ws G Q XN):zG (yP K sA nA n) XN kJ { nx:=fun _ G'=>Q .non G',rt:=Q } (yT tR ws) G:=by
 obtain ⟨t,rfl,ok,ts,td,h⟩:=h;have e17:(yP K sA nA n).fn[17]?=some ⟨"_law_text_words", gC 21⟩:=sM 17 hn rfl;have t1:(yP K sA nA n).mt[1]?=some zcz:=rfl;have x5:(yP K sA nA n).sx[5]?=some ⟨uJ " )" ")", rD " )" ")"⟩:=rfl;have x6:(yP K sA nA n).sx[6]?=some ⟨uJ "( " "(", rD "( " "("⟩:=rfl;show zG (yP K sA nA n) XN kJ { nx:=fun _ G'=>Q .non G',rt:=Q } [some t.w] G;simp only [kJ];refine yV ?_
 ((try dsimp only [zO,zT,zL,zH,zC,yX,yW,zN,zV,zM,zW,zY,zS,zP,zI,zK,yY,zJ,gZ,gS,tZ,tS]);try simp only [x5,x6,t1,e17])
 refine ⟨rfl,t,rfl,ts,td,fun r G1 k1 hr gr=>?_⟩;have hl:=sD t;have l1:(" " : Str).length=1:=by decide +kernel
 have hy:∀ y∈(tw t).map Tk.s,y.length<=6:=fun y hy=>by
  obtain ⟨k,hk,rfl⟩:=zzP hy;exact zfU (tw_ok t ok k hk)
 refine ⟨(tw t).map Tk.s,by rw [kE gr,List.map_map];rfl,zkj hy (by rw [l1,zzM];omega),?_⟩
 have hj:(Txt.join " " ((tw t).map Tk.s)).length<=2000:=by
  have h1:=StrLaws.join_length_le " " ((tw t).map Tk.s);have h2:=StrLaws.sumLen_le _ hy;rw [l1] at h1;rw [show Txt.join " " ((tw t).map Tk.s)=Str.join " " ((tw t).map Tk.s) from StrLaws.glued_eq_join " " _];rw [zzM] at h1 h2;omega
 have hr:=zg2 (x:=Txt.join " " ((tw t).map Tk.s)) (y := "( ") (z := "(") (by decide +kernel) (by decide +kernel);refine ⟨by rw [l_p];omega,?_⟩;refine ⟨by rw [l_q];omega,?_⟩;rw [shown t ok];exact h G1 k1
theorem zki {n:Nat} {ws:List W} {G:Hw} {Q:Q3} (h:spJt ws G Q XN):zG (yP K sA nA n) XN qG { nx:=fun _ G'=>Q .non G',rt:=Q } (yT vF ws) G:=by
 obtain ⟨t,p,ini,rfl,ok,ts,hk,li,gp,h⟩:=h;have t0:(yP K sA nA n).mt[0]?=some ePop:=rfl;have t1:(yP K sA nA n).mt[1]?=some zcz:=rfl;have t2:(yP K sA nA n).mt[2]?=some dA:=rfl;have i1:(yP K sA nA n).it[1]?=some eZpi:=rfl;have g3:(yP K sA nA n).gl[7]?=some (("SINGLE_BINDS" : Str),W.int 5):=rfl;have g4:(yP K sA nA n).gl[8]?=some (("LEAST" : Str),W.dcf lK lV):=rfl;have g5:(yP K sA nA n).gl[9]?=some (("BETWEEN" : Str),W.dcf wK wV):=rfl;have x10:(yP K sA nA n).sx[10]?=some ⟨fstM [some "not ", none],fstS [some "not ", none]⟩:=rfl;have x11:(yP K sA nA n).sx[11]?=some ⟨fstM [some "(", none,some ")"],fstS [some "(", none,some ")"]⟩:=rfl;have x12:(yP K sA nA n).sx[12]?=some ⟨gt2M "BINDS_saywrite", gt2S bK bV⟩:=rfl;have z0:=sz 0 (by decide);show zG (yP K sA nA n) XN qG { nx:=fun _ G'=>Q .non G',rt:=Q } [some (.str (mB t)),some (.tup ((yB t).map Sy.w)),some (.ref p),none,none,none,none] G;simp only [qG];refine yV ?_
 ((try dsimp only [zO,zT,zL,zH,zC,yX,yW,zN,zV,zM,zW,zY,zS,zP,zI,zK,yY,zJ,gZ,gS,tZ,tS]);try simp only [List.length_nil,z0,true_and])
 intro q hq;have qp:q≠p:=fun e=>by rw [e,gp] at hq;cases hq
 have k1:zR [p] G (put G q (.lst [])):=zR.new hq;have gq:(put G q (.lst [])) q=some (.lst []):=zX;have gp1:=nV (u:=.lst []) hq gp;generalize put G q (.lst [])=G1 at k1 gq gp1 ⊢;refine yV ?_
 ((try dsimp only [zO,zT,zL,zH,zC,yX,yW,zN,zV,zM,zW,zY,zS,zP,zI,zK,yY,zJ,gZ,gS,tZ,tS]);try simp only [i1,g4,qU,zkJ hk])
 refine ⟨(yB t).map Sy.w,(ls t).map fun n:Nat=>W.int n,rfl,rfl,?_⟩;have kl:=zfj t;have ll:=zj1 t;have len:(List.zipWith (fun a b=>W.tup [a,b]) ((yB t).map Sy.w) ((ls t).map fun n:Nat=>W.int n)).length=(yB t).length:=by rw [List.length_zipWith,zzM,zzM,ll,Nat.min_self]
 have hkk:=zhD ok;refine ⟨fun i σ G'=>∃ v4 v5 v6:Option W,σ=[some (.str (mB t)),some (.tup ((yB t).map Sy.w)),some (.ref p),some (.ref q),v4,v5,v6]/\G' q=some (.lst (((wr t).take i).map W.str))/\G' p=some (.lst (ini++(((yB t).drop i).map fun s=>W.str (sh s)).reverse))/\zR [p] G G',⟨none,none,none,rfl,gq,gp1,k1⟩,fun _ _ _ _ _=>⟨rfl,rfl⟩,?_,?_⟩
 .rintro i w σ G' hw ⟨v4,v5,v6,rfl,gq',gp',kp⟩;rw [List.getElem?_zipWith,List.getElem?_map,List.getElem?_map] at hw
  cases ek:(yB t)[i]? with
  |none=>rw [ek] at hw;simp at hw
  |some s =>
   cases el:(ls t)[i]? with
   |none=>rw [ek,el] at hw;simp at hw
   |some m =>
    rw [ek,el] at hw;have hw:W.tup [s.w,.int m]=w:=by simpa using hw
    subst hw;have es:(wr t)[i]?=some (bS m s (sh s)):=by unfold wr;rw [List.getElem?_zipWith,ek,el]
    have et:((wr t).take (i+1)).map W.str=((wr t).take i).map W.str++[.str (bS m s (sh s))]:=by
     have hi:=(List.getElem?_eq_some_iff.mp es).1;rw [List.take_succ_eq_append_getElem hi,(List.getElem?_eq_some_iff.mp es).2,List.map_append];rfl
    have hi:i<(yB t).length:=(List.getElem?_eq_some_iff.mp ek).1;have hs:=hkk s (List.mem_of_getElem? ek);have sl:=uC s hs.1;rw [cZ ek,zzU,List.reverse_cons,← List.append_assoc] at gp';generalize hrest:ini++(((yB t).drop (i+1)).map fun s=>W.str (sh s)).reverse=rest at gp';have hgx:(rest++[W.str (sh s)])[(rest++[W.str (sh s)]).length-1]?=some (.str (sh s)):=by simp
    ((try dsimp only [zO,zT,zL,zH,zC,yX,yW,zN,zV,zM,zW,zY,zS,zP,zI,zK,yY,zJ,gZ,gS,tZ,tS]);try simp only [zzC,zzL,zzA,Nat.reduceAdd])
    refine yV ?_
    ((try dsimp only [zO,zT,zL,zH,zC,yX,yW,zN,zV,zM,zW,zY,zS,zP,zI,zK,yY,zJ,gZ,gS,tZ,tS]);try simp only [t0])
    refine ⟨tyL gp',?_⟩;simp only [fM,gp',hgx,List.dropLast_concat];have gq2:(put G' p (.lst rest)) q=some (.lst (((wr t).take i).map W.str)):=by rw [yH qp];exact gq'
    have gp2:(put G' p (.lst rest)) p=some (.lst rest):=zX;have kp2:zR [p] G (put G' p (.lst rest)):=kp.trans (zR.put (by simp));generalize put G' p (.lst rest)=G2 at gq2 gp2 kp2 ⊢;have wl:((wr t).take i).length<=i:=by rw [List.length_take];omega
    refine yV ?_
    ((try dsimp only [zO,zT,zL,zH,zC,yX,yW,zN,zV,zM,zW,zY,zS,zP,zI,zK,yY,zJ,gZ,gS,tZ,tS]);try simp only [t2])
    refine ⟨tyL gq2,ix0 ?_⟩
    ((try dsimp only [zO,zT,zL,zH,zC,yX,yW,zN,zV,zM,zW,zY,zS,zP,zI,zK,yY,zJ,gZ,gS,tZ,tS]);try simp only [g3,x12,gt2S,zkL,yM,sP])
    have fin:cP (.ref q) [.str (bS m s (sh s))] G2 fun _ G3=>∃ v4 v5 v6:Option W,[some (W.str (mB t)),some (.tup ((yB t).map Sy.w)),some (.ref p),some (.ref q),some s.w,some (.int m),some (.str (sh s))]=[some (.str (mB t)),some (.tup ((yB t).map Sy.w)),some (.ref p),some (.ref q),v4,v5,v6]/\G3 q=some (.lst (((wr t).take (i+1)).map W.str))/\G3 p=some (.lst rest)/\zR [p] G G3 :=
     bR gq2 (by rw [zzM];omega) ⟨_,_,_,rfl,by rw [zX,et],by rw [yH (Ne.symm qp)];exact gp2,uX kp2 hq⟩
    rw [← hrest] at fin;have c:decide ((bd s:Int)<(m:Int))=decide (bd s<m):=decide_eq_decide.mpr (by omega);simp only [c]
    by_cases hb:bd s<m
    .rw [decide_eq_true hb,if_pos rfl]
     ((try dsimp only [zO,zT,zL,zH,zC,yX,yW,zN,zV,zM,zW,zY,zS,zP,zI,zK,yY,zJ,gZ,gS,tZ,tS]);try simp only [x11])
     refine ⟨[sh s],rfl,?_,?_⟩
     .simp only [uH,strLen_append,l_p,l_q,l_0];omega
     .have e:uH [some "(", none,some ")"] [sh s]=bS m s (sh s):=by
       unfold bS;rw [if_pos hb];simp only [uH,zel,zem]
      rw [e];exact fin
    .rw [decide_eq_false hb,if_neg zzN];have e:bS m s (sh s)=sh s:=by unfold bS;rw [if_neg hb]
     rw [e] at fin;exact fin
 .rintro σ G' ⟨v4,v5,v6,rfl,gq',gp',kp⟩;rw [len] at gq' gp';have hwl:(wr t).length=(yB t).length:=by unfold wr;rw [List.length_zipWith,ll,Nat.min_self]
  rw [List.take_of_length_le (by omega)] at gq';rw [List.drop_length,zzV,List.reverse_nil,List.append_nil] at gp';have fin:=h G' kp gp';refine yV ?_
  cases t with
  |say x=>exact absurd rfl hk
  |neg a =>
   have hs:=hkk a (by simp [yB]);have sl:=uC a hs.1;have bl:=zeh 4 a (sh a)
   ((try dsimp only [zO,zT,zL,zH,zC,yX,yW,zN,zV,zM,zW,zY,zS,zP,zI,zK,yY,zJ,gZ,gS,tZ,tS]);try simp only [mB,yM,yO,beq_self_eq_true,if_true])
   refine yV ?_
   ((try dsimp only [zO,zT,zL,zH,zC,yX,yW,zN,zV,zM,zW,zY,zS,zP,zI,zK,yY,zJ,gZ,gS,tZ,tS]);try simp only [x10])
   refine ixL (kE gq') ?_;simp only [wr,ls,yB,List.zipWith_cons_cons,List.zipWith_nil_right,zzU,zzV,qS];refine ⟨[bS 4 a (sh a)],rfl,?_,?_⟩
   .simp only [uH,strLen_append,l_not,l_0];omega
   .have e:uH [some "not ", none] [bS 4 a (sh a)]=sh (.neg a):=by simp only [uH,zel];rfl
    rw [e];exact fin
  |two k a b =>
   have ha:=hkk a (by simp [yB]);have hb:=hkk b (by simp [yB]);have sa:=uC a ha.1;have sb:=uC b hb.1;have ba:=zeh (lA k) a (sh a);have bb:=zeh (lB k) b (sh b)
   ((try dsimp only [zO,zT,zL,zH,zC,yX,yW,zN,zV,zM,zW,zY,zS,zP,zI,zK,yY,zJ,gZ,gS,tZ,tS]);try simp only [mB,yM,yO,(nK k).2.2.1,zzB,if_false])
   refine stn (yV ?_)
   ((try dsimp only [zO,zT,zL,zH,zC,yX,yW,zN,zV,zM,zW,zY,zS,zP,zI,zK,yY,zJ,gZ,gS,tZ,tS]);try simp only [t1,g5,qU,zkK])
   have hbw:(bw k).length<=6:=by
    match k with
    | 0=>decide +kernel
    | 1=>decide +kernel
    |k+2=>show (" then " : Str).length<=6;decide +kernel
   refine ⟨rfl,[bS (lA k) a (sh a),bS (lB k) b (sh b)],kE gq',zkj (n:=1000) ?_ ?_,?_⟩
   .intro y hy;simp only [List.mem_cons,List.not_mem_nil,or_false] at hy;rcases hy with rfl|rfl<;>omega
   .show 2 * 1000+2 * _<=_;omega
   .have e:Txt.join (bw k) [bS (lA k) a (sh a),bS (lB k) b (sh b)]=sh (.two k a b):=StrLaws.glued_eq_join (bw k) _;rw [e];exact fin
theorem zi5 {n:Nat} (hn:12<=n) {ws:List W} {G:Hw} {Q:Q3} (h:gT sA nA ws G Q XN):zG (yP K sA nA n) XN qJ { nx:=fun _ G'=>Q .non G',rt:=Q } (yT vI ws) G:=by
 obtain ⟨t,rfl,ok,ts,h⟩:=h;have e10:(yP K sA nA n).fn[10]?=some ⟨"all_within", rH sA⟩:=sM 10 hn rfl;have e11:(yP K sA nA n).fn[11]?=some ⟨"joined_text", spJt⟩:=sM 11 hn rfl;have t2:(yP K sA nA n).mt[2]?=some dA:=rfl;have x1:(yP K sA nA n).sx[1]?=some ⟨rvM,rvS⟩:=rfl;have x3:(yP K sA nA n).sx[3]?=some ⟨hcM "joined_by", hcS sA jW⟩:=rfl;have x4:(yP K sA nA n).sx[4]?=some ⟨hcM "single_text", hcS nA jZ⟩:=rfl;have z0:=sz 0 (by decide);show zG (yP K sA nA n) XN qJ { nx:=fun _ G'=>Q .non G',rt:=Q } [some t.w,some (.ref sA),some (.ref nA),none,none,none] G;simp only [qJ];refine yV ?_
 ((try dsimp only [zO,zT,zL,zH,zC,yX,yW,zN,zV,zM,zW,zY,zS,zP,zI,zK,yY,zJ,gZ,gS,tZ,tS]);try simp only [List.length_nil,z0,true_and])
 intro p hp;have k1:zR [] G (put G p (.lst [])):=zR.new hp;have gp:(put G p (.lst [])) p=some (.lst []):=zX;generalize put G p (.lst [])=G1 at k1 gp ⊢;refine yV ?_
 ((try dsimp only [zO,zT,zL,zH,zC,yX,yW,zN,zV,zM,zW,zY,zS,zP,zI,zK,yY,zJ,gZ,gS,tZ,tS]);try simp only [e10,x1])
 refine ⟨t,rfl,ts,fun r G2 k2 hr gr=>?_⟩;refine ⟨_,kE gr,fun r2 hr2=>?_⟩;have gp2:=nV (u:=.lst ((pre t).map Sy.w).reverse) hr2 (k0 k2 gp);have kk:zR [] G (put G2 r2 (.lst ((pre t).map Sy.w).reverse)):=(k1.trans k2).trans (zR.new hr2);have g2:(put G2 r2 (.lst ((pre t).map Sy.w).reverse)) r2=some (.lst ((pre t).map Sy.w).reverse):=zX;have rp:r2≠p:=fun e=>by rw [e,k0 k2 gp] at hr2;cases hr2
 generalize put G2 r2 (.lst ((pre t).map Sy.w).reverse)=G3 at gp2 kk g2 ⊢;simp only [uO,kE g2];have pl:=qM t;refine ⟨fun i σ G'=>∃ (fs:List Sy) (v4 v5:Option W),σ=[some t.w,some (.ref sA),some (.ref nA),some (.ref p),v4,v5]/\(pre t).drop (t.size-i)=wD fs/\G' p=some (.lst ((fs.map fun s=>W.str (sh s)).reverse))/\G' r2=some (.lst ((pre t).map Sy.w).reverse)/\zR [] G G',⟨[],none,none,rfl,by rw [Nat.sub_zero,← pl,List.drop_length];rfl,gp2,g2,kk⟩,?_,?_,?_⟩
 .rintro i σ G' ⟨fs,v4,v5,rfl,_,_,g,_⟩ _;exact kE g
 .rintro i w σ G' hw ⟨fs,v4,v5,rfl,hd,gp',g2',kp⟩
  have hi:i<t.size:=by
   have:=(List.getElem?_eq_some_iff.mp hw).1;rw [List.length_reverse,zzM,pl] at this;exact this
  rw [List.getElem?_reverse (by rw [zzM,pl];exact hi),zzM,pl,List.getElem?_map] at hw;obtain ⟨x,hx,rfl⟩:=Option.map_eq_some_iff.mp hw;have hx':(pre t)[t.size-(i+1)]?=some x:=by rw [← hx];congr 1;omega
  have hdx:=cZ hx';rw [show t.size-(i+1)+1=t.size-i by omega,hd] at hdx;obtain ⟨r',rfl⟩:=zez hdx;have okx:=(fN t ok x (List.mem_of_getElem? hx')).2;have szx:=(fN t ok x (List.mem_of_getElem? hx')).1
  have hlen:(yB x++r').length<=40:=by
   have h1:=rJ (yB x++r');have h2:qC (yB x++r')=((pre t).drop (t.size-i)).length:=by rw [hd];rfl
   rw [List.length_drop,pl] at h2;omega
  rw [zzW] at hlen;have hnew:(pre t).drop (t.size-(i+1))=wD (x::r'):=by rw [hdx,qZ]
  have fin:∀ (v:Option W) (G4:Hw),zR [p] G' G4->G4 p=some (.lst (r'.map fun s=>W.str (sh s)).reverse)->cP (.ref p) [.str (sh x)] G4 fun _ G5=>∃ (fs:List Sy) (v4 v5:Option W),[some t.w,some (.ref sA),some (.ref nA),some (.ref p),some x.w,v]=[some t.w,some (.ref sA),some (.ref nA),some (.ref p),v4,v5]/\(pre t).drop (t.size-(i+1))=wD fs/\G5 p=some (.lst ((fs.map fun s=>W.str (sh s)).reverse))/\G5 r2=some (.lst ((pre t).map Sy.w).reverse)/\zR [] G G5:=by
   intro v G4 k4 g4;refine bR g4 (by rw [List.length_reverse,zzM];omega) ⟨x::r',_,_,rfl,hnew,by rw [zX,zzU,List.reverse_cons],?_,?_⟩
   .rw [yH rp];exact k4 _ _ (by simpa using rp) g2'
   .exact uX (zfl kp k4 hp) hp
  refine yV ?_
  ((try dsimp only [zO,zT,zL,zH,zC,yX,yW,zN,zV,zM,zW,zY,zS,zP,zI,zK,yY,zJ,gZ,gS,tZ,tS]);try simp only [x3])
  refine ⟨rfl,x,rfl,?_⟩;refine yV ?_
  ((try dsimp only [zO,zT,zL,zH,zC,yX,yW,zN,zV,zM,zW,zY,zS,zP,zI,zK,yY,zJ,gZ,gS,tZ,tS]);try simp only [t2,kR])
  refine ⟨tyL gp',?_⟩
  by_cases hkx:yB x=[]
  .rw [hkx]
   cases x with
   |say y =>
    simp only [zzV,List.isEmpty_nil,Bool.not_true,zzB,if_false]
    ((try dsimp only [zO,zT,zL,zH,zC,yX,yW,zN,zV,zM,zW,zY,zS,zP,zI,zK,yY,zJ,gZ,gS,tZ,tS]);try simp only [x4])
    refine ⟨rfl,y,rfl,?_⟩;exact fin _ G' zR.refl (by simpa [yB] using gp')
   |neg a=>simp [yB] at hkx
   |two k a b=>simp [yB] at hkx
  .have he:((yB x).map Sy.w).isEmpty=false:=by
    cases hh:yB x with
    |nil=>exact absurd hh hkx
    |cons _ _=>rfl
   simp only [he,Bool.not_false,if_true];refine ix0 ?_
   ((try dsimp only [zO,zT,zL,zH,zC,yX,yW,zN,zV,zM,zW,zY,zS,zP,zI,zK,yY,zJ,gZ,gS,tZ,tS]);try simp only [e11])
   refine ⟨x,p,(r'.map fun s=>W.str (sh s)).reverse,rfl,okx,by omega,hkx,by rw [List.length_reverse,zzM];omega,by rw [gp',List.map_append,List.reverse_append],fun G4 k4 g4=>?_⟩;exact fin _ G4 k4 g4
 .rintro σ G' ⟨fs,v4,v5,rfl,hd,gp',g2',kp⟩;rw [List.length_reverse,zzM,pl,Nat.sub_self,List.drop_zero] at hd;have:fs=[t]:=fP (by rw [← hd,rC]);subst this;refine yV ?_
  (try dsimp only [zO,zT,zL,zH,zC,yX,yW,zN,zV,zM,zW,zY,zS,zP,zI,zK,yY,zJ,gZ,gS,tZ,tS])
  refine ixL (kE gp') ?_;simp only [zzU,zzV,List.reverse_cons,List.reverse_nil,List.nil_append,qS];exact h G' kp
end
theorem pR (a:Sy) (D:List Sy):Lw (a::D)=.lst ((D.map Sy.w).reverse++[a.w]):=by simp [Lw]
theorem pP (w:Tk) (V:List Tk):Lk (w::V)=.lst ((V.map fun t=>W.str t.s).reverse++[.str w.s]):=by simp [Lk]
theorem ziw {l:List W} {a:W}:sE (l++[a]) (-1)=some a:=by
 unfold sE;have:dG (l++[a]).length (-1)=some l.length:=by simp [dG];omega
 rw [this];simp
theorem popL {G:Hw} {o:Addr} {l:List W} {y:W} {Q:Q3} (e:G o=some (.lst (l++[y]))) (h:Q y (put G o (.lst l))):fM (.ref o) [] G Q:=by
 have hg:(l++[y])[(l++[y]).length-1]?=some y:=by simp
 simp only [fM,e,hg,List.dropLast_concat];exact h
theorem zgm (k:Nat):((jw k:Str) == "not")=false/\((jw k:Str) == ")")=false:=by
 match k with
 | 0=>exact ⟨by decide +kernel,by decide +kernel⟩
 | 1=>exact ⟨by decide +kernel,by decide +kernel⟩
 |k+2=>exact ⟨by show (("then" : Str) == "not")=false;decide +kernel,by show (("then" : Str) == ")")=false;decide +kernel⟩
theorem zfz (k:Nat):(mK.zip mV).lookup (jw k)=some (.str (kw k)):=by
 match k with
 | 0=>show (mK.zip mV).lookup ("and" : Str)=some (.str "and");rfl
 | 1=>show (mK.zip mV).lookup ("or" : Str)=some (.str "or");rfl
 |k+2=>show (mK.zip mV).lookup ("then" : Str)=some (.str "if");rfl
theorem zgn (k:Nat):(tK.zip tV).lookup (jw k)=some (.int (lA k)):=by
 match k with
 | 0=>show (tK.zip tV).lookup ("and" : Str)=some (.int 3);rfl
 | 1=>show (tK.zip tV).lookup ("or" : Str)=some (.int 2);rfl
 |k+2=>show (tK.zip tV).lookup ("then" : Str)=some (.int 2);rfl
theorem zgo:(tK.zip tV).lookup (Tk.s .rp)=some (.int 1):=by show (tK.zip tV).lookup (")" : Str)=some (.int 1);rfl
theorem zhY {w:Tk} (h:isW w=true):(rK.zip rV).lookup w.s=some (.int (bin w)):=by
 match w,h with
 | .nt,_=>show (rK.zip rV).lookup ("not" : Str)=some (.int 4);rfl
 | .lp,_=>show (rK.zip rV).lookup ("(" : Str)=some (.int 0);rfl
 | .op 0,_=>show (rK.zip rV).lookup ("and" : Str)=some (.int 3);rfl
 | .op 1,_=>show (rK.zip rV).lookup ("or" : Str)=some (.int 2);rfl
 | .op (k+2),_=>show (rK.zip rV).lookup ("then" : Str)=some (.int 1);rfl
theorem pt_wf {w:Tk} {V:List Tk} {D:List Sy} (h:Wf D (w::V) 1) (hb:1<=bin w):Wf (pt w D) V 1/\((w=.nt/\1<=D.length)\/∃ k,w=.op k/\2<=D.length)/\(pt w D).length<=D.length:=by
 have hl:=h.len;have hw:=h.all w zzT;have ha:∀ x∈V,isW x=true:=fun x hx=>h.all x (List.mem_cons_of_mem _ hx)
 match w,hw,hb,hl with
 | .nt,_,_,hl =>
  cases D with
  |nil=>simp [ops] at hl
  |cons a D=>exact ⟨⟨by simpa [ops,pt] using hl,ha⟩,.inl ⟨rfl,by simp⟩,by simp [pt]⟩
 | .op k,_,_,hl =>
  match D,hl with
  | [],hl=>simp [ops] at hl
  | [a],hl=>simp [ops] at hl
  |b::a::D,hl=>exact ⟨⟨by simp only [ops,List.length_cons] at hl;simp only [pt,List.length_cons];omega,ha⟩,.inr ⟨k,rfl,by simp⟩,by simp [pt]⟩
 | .lp,_,hb,_=>exact absurd (show (1:Nat)<=0 from hb) (by decide)
theorem isi1 {K:yJ} {x:W} {T' T:String} {b:Bool} {G:Hw} {Q:Q3} (h1:tyO G x=some T') (h2:PySem.W.kitOne K (.type T') (.type T)=some b) (h:Q (.bl b) G):isiS K [x,.ty T] G Q:=⟨T',b,h1,h2,h⟩
section
variable {K : yJ} {sA nA : Addr}
theorem zg8 {n:Nat} {ws:List W} {G:Hw} {Q:Q3} (h:zeF ws G Q XN):zG (yP K sA nA n) XN qX { nx:=fun _ G'=>Q .non G',rt:=Q } (yT kH ws) G:=by
 obtain ⟨w,D,p,rfl,gp,ld,hc,h⟩:=h;have t0:(yP K sA nA n).mt[0]?=some ePop:=rfl;have t2:(yP K sA nA n).mt[2]?=some dA:=rfl;have g9:(yP K sA nA n).gl[5]?=some (("MADE" : Str),W.dcf mK mV):=rfl;have z2:=sz 2 (by decide);have z3:=sz 3 (by decide);show zG (yP K sA nA n) XN qX { nx:=fun _ G'=>Q .non G',rt:=Q } [some (.str w.s),some (.ref p),none] G;simp only [qX];rcases hc with ⟨rfl,h1⟩|⟨k,rfl,h1⟩
 .obtain ⟨a,D',rfl⟩:∃ a D',D=a::D':=by
   cases D with
   |nil=>simp at h1
   |cons a D'=>exact ⟨a,D',rfl⟩
  rw [List.length_cons] at ld;rw [pR] at gp;refine yV ?_
  ((try dsimp only [zO,zT,zL,zH,zC,yX,yW,zN,zV,zM,zW,zY,zS,zP,zI,zK,yY,zJ,gZ,gS,tZ,tS]);try simp only [t0])
  refine ⟨tyL gp,popL gp ?_⟩;refine yV ?_;have e:((Tk.nt).s==("not" : Str))=true:=by show (("not" : Str) == "not")=true;decide +kernel
  ((try dsimp only [zO,zT,zL,zH,zC,yX,yW,zN,zV,zM,zW,zY,zS,zP,zI,zK,yY,zJ,gZ,gS,tZ,tS]);try simp only [yM,yO,e,if_true])
  refine yV ?_
  ((try dsimp only [zO,zT,zL,zH,zC,yX,yW,zN,zV,zM,zW,zY,zS,zP,zI,zK,yY,zJ,gZ,gS,tZ,tS]);try simp only [t2,zzC,zzL,zzA,Nat.reduceAdd,z2,true_and])
  refine ⟨tyL zX,bR zX (by rw [List.length_reverse,zzM];omega) ?_⟩;refine h _ ((zR.put (by simp)).trans (zR.put (by simp))) ?_;rw [zX];show _=some (Lw (.neg a::D'));rw [pR];rfl
 .obtain ⟨b,a,D',rfl⟩:∃ b a D',D=b::a::D':=by
   match D,h1 with
   | [],h1=>simp at h1
   | [_],h1=>simp at h1
   |b::a::D',_=>exact ⟨b,a,D',rfl⟩
  rw [List.length_cons,List.length_cons] at ld;rw [pR] at gp;refine yV ?_
  ((try dsimp only [zO,zT,zL,zH,zC,yX,yW,zN,zV,zM,zW,zY,zS,zP,zI,zK,yY,zJ,gZ,gS,tZ,tS]);try simp only [t0])
  refine ⟨tyL gp,popL gp ?_⟩;refine yV ?_
  ((try dsimp only [zO,zT,zL,zH,zC,yX,yW,zN,zV,zM,zW,zY,zS,zP,zI,zK,yY,zJ,gZ,gS,tZ,tS]);try simp only [yM,yO,Tk.s,(zgm k).1,zzB,if_false])
  refine yV ?_;have gp1:(put G p (.lst ((a::D').map Sy.w).reverse)) p=some (.lst ((D'.map Sy.w).reverse++[a.w])):=by rw [zX,zzU,List.reverse_cons]
  ((try dsimp only [zO,zT,zL,zH,zC,yX,yW,zN,zV,zM,zW,zY,zS,zP,zI,zK,yY,zJ,gZ,gS,tZ,tS]);try simp only [t0,t2,g9,qU,zfz,zzC,zzL,zzA,Nat.reduceAdd,z3,true_and])
  refine ⟨tyL gp1,?_⟩;refine ⟨tyL gp1,popL gp1 ?_⟩;refine bR zX (by rw [List.length_reverse,zzM];omega) ?_;refine h _ (((zR.put (by simp)).trans (zR.put (by simp))).trans (zR.put (by simp))) ?_;rw [zX];show _=some (Lw (.two k a b::D'));rw [pR];rfl
theorem zey {n:Nat} (hn:20<=n) {ws:List W} {G:Hw} {Q:Q3} (h:gB ws G Q XN):zG (yP K sA nA n) XN uS { nx:=fun _ G'=>Q .non G',rt:=Q } (yT rX ws) G:=by
 obtain ⟨m,D,V,p,r,rfl,hm,pr,gp,gr,wf,ld,lv,h⟩:=h;have e19:(yP K sA nA n).fn[19]?=some ⟨"put_together", zeF⟩:=sM 19 hn rfl;have t0:(yP K sA nA n).mt[0]?=some ePop:=rfl;have g7:(yP K sA nA n).gl[3]?=some (("BINDS_sayread" : Str),W.dcf rK rV):=rfl;show zG (yP K sA nA n) XN uS { nx:=fun _ G'=>Q .non G',rt:=Q } [some (.int m),some (.ref p),some (.ref r)] G;simp only [uS];refine yV ?_;refine ⟨fun j σ G'=>∃ (D':List Sy) (V':List Tk),σ=[some (.int m),some (.ref p),some (.ref r)]/\G' p=some (Lw D')/\G' r=some (Lk V')/\zR [p,r] G G'/\tl m D' V'=tl m D V/\Wf D' V' 1/\D'.length<=400/\V'.length=j,⟨_,D,V,rfl,gp,gr,zR.refl,rfl,wf,ld,rfl⟩,?_⟩;rintro j σ G' ⟨D',V',rfl,gp',gr',kp,et,wf',ld',rfl⟩
 cases V' with
 |nil =>
  have gr':G' r=some (.lst []):=gr'
  ((try dsimp only [zO,zT,zL,zH,zC,yX,yW,zN,zV,zM,zW,zY,zS,zP,zI,zK,yY,zJ,gZ,gS,tZ,tS]);try simp only [kR,gr',List.isEmpty_nil,Bool.not_true,zzB,if_false])
  refine stn ?_;have e:tl m D' []=(D',[]):=rfl;rw [e] at et;exact h G' kp (by rw [← et];exact gp') (by rw [← et];exact gr')
 |cons w V2 =>
  have hw:=wf'.all w zzT;rw [pP] at gr';have he:((V2.map fun t=>W.str t.s).reverse++[W.str w.s]).isEmpty=false:=by simp
  ((try dsimp only [zO,zT,zL,zH,zC,yX,yW,zN,zV,zM,zW,zY,zS,zP,zI,zK,yY,zJ,gZ,gS,tZ,tS]);try simp only [kR,gr',he,Bool.not_false,if_true,qU,ziw,g7,zhY hw,yM,sP])
  have c:decide ((bin w:Int)>=(m:Int))=decide (m<=bin w):=decide_eq_decide.mpr (by omega);simp only [c]
  by_cases hb:m<=bin w
  .rw [decide_eq_true hb,if_pos rfl];have pw:=pt_wf wf' (by omega);refine yV ?_
   ((try dsimp only [zO,zT,zL,zH,zC,yX,yW,zN,zV,zM,zW,zY,zS,zP,zI,zK,yY,zJ,gZ,gS,tZ,tS]);try simp only [e19,t0])
   refine ⟨tyL gr',popL gr' ?_⟩;have gp2:(put G' r (.lst (V2.map fun t=>W.str t.s).reverse)) p=some (Lw D'):=by rw [yH pr];exact gp'
   have k2:zR [p,r] G (put G' r (.lst (V2.map fun t=>W.str t.s).reverse)):=kp.trans (zR.put (by simp));have gr2:(put G' r (.lst (V2.map fun t=>W.str t.s).reverse)) r=some (Lk V2):=zX;generalize put G' r (.lst (V2.map fun t=>W.str t.s).reverse)=G2 at gp2 k2 gr2 ⊢;refine ⟨w,D',p,rfl,gp2,by omega,pw.2.1,fun G3 k3 g3=>?_⟩;refine stn ?_;refine ⟨V2.length,by simp,pt w D',V2,rfl,g3,k3 _ _ (by simpa using Ne.symm pr) gr2,k2.trans (fun a u ha e=>k3 a u (fun hz=>ha (by rw [zzO hz];simp)) e),?_,pw.1,by omega,rfl⟩;rw [← et,show tl m D' (w::V2)=tl m (pt w D') V2 by rw [tl,if_pos hb]]
  .rw [decide_eq_false hb,if_neg zzN];refine stn ?_;have e:tl m D' (w::V2)=(D',w::V2):=by rw [tl,if_neg hb]
   rw [e] at et;exact h G' kp (by rw [← et];exact gp') (by rw [← et];show _=some (Lk (w::V2));rw [pP];exact gr')
theorem stk (K:yJ) (sA nA:Addr) (n:Nat) {D:End3} {σ:jE} {G:Hw} (h:D.nx σ G):zG (yP K sA nA n) XN .nil D σ G:=h
theorem zef {n:Nat} (hn:5<=n) {ws:List W} {G:Hw} {Q:Q3} (h:uE true ws G Q XN):zG (yP K sA nA n) XN jO { nx:=fun _ G'=>Q .non G',rt:=Q } (yT tU ws) G:=by
 obtain ⟨t,D,V,p,r,rfl,pr,gp,gr,gd,wf,ld,lv,h⟩:=h;have e4:(yP K sA nA n).fn[4]?=some (eIsi K):=sM 4 hn rfl;have t2:(yP K sA nA n).mt[2]?=some dA:=rfl;have g11:(yP K sA nA n).gl[11]?=some (("tuple" : Str),W.ty "tuple"):=rfl;have z2:=sz 2 (by decide);show zG (yP K sA nA n) XN jO { nx:=fun _ G'=>Q .non G',rt:=Q } [some (tv t),some (.ref p),some (.ref r)] G;simp only [jO]
 have wait:∀ t:Tk,t=.nt\/t=.lp->(∀ G',zR [p,r] G G'->G' p=some (Lw D)->G' r=some (Lk (t::V))->Q (.bl true) G')->zG (yP K sA nA n) XN jO { nx:=fun _ G'=>Q .non G',rt:=Q } [some (.str t.s),some (.ref p),some (.ref r)] G:=by
  intro t ht h;simp only [jO];refine yV ?_
  ((try dsimp only [zO,zT,zL,zH,zC,yX,yW,zN,zV,zM,zW,zY,zS,zP,zI,zK,yY,zJ,gZ,gS,tZ,tS]);try simp only [e4,g11])
  refine isi1 (T' := "str") rfl (by rfl) ?_;simp only [kR,zzB,if_false];refine stk K sA nA n (yV ?_);have em:([W.str "not", .str "("].any fun w=>jM w (.str t.s))=true:=by rcases ht with rfl|rfl<;>decide +kernel
  ((try dsimp only [zO,zT,zL,zH,zC,yX,yW,zN,zV,zM,zW,zY,zS,zP,zI,zK,yY,zJ,gZ,gS,tZ,tS]);try simp only [yM,pT,L3.inR,if_true,zzC,zzL,zzA,Nat.reduceAdd,z2,true_and])
  refine ⟨⟨by simp [pur],by simp [jI,pur],by simp [kC,dep]⟩,?_⟩;rw [em];simp only [Bool.not_true,zzB,if_false];refine stk K sA nA n (yV ?_)
  ((try dsimp only [zO,zT,zL,zH,zC,yX,yW,zN,zV,zM,zW,zY,zS,zP,zI,zK,yY,zJ,gZ,gS,tZ,tS]);try simp only [t2])
  refine ⟨tyL gr,bR gr (by rw [List.length_reverse,zzM];omega) ?_⟩;refine yV ?_
  (try dsimp only [zO,zT,zL,zH,zC,yX,yW,zN,zV,zM,zW,zY,zS,zP,zI,zK,yY,zJ,gZ,gS,tZ,tS])
  exact h _ (zR.put (by simp)) (by rw [yH pr];exact gp) (by rw [zX,pP])
 match t,gd,h with
 | .nm x,gd,h =>
  refine yV ?_
  ((try dsimp only [zO,zT,zL,zH,zC,yX,yW,zN,zV,zM,zW,zY,zS,zP,zI,zK,yY,zJ,gZ,gS,tZ,tS]);try simp only [e4,g11])
  refine isi1 (T' := "tuple") rfl (by rfl) ?_;simp only [kR,if_true];refine yV ?_
  ((try dsimp only [zO,zT,zL,zH,zC,yX,yW,zN,zV,zM,zW,zY,zS,zP,zI,zK,yY,zJ,gZ,gS,tZ,tS]);try simp only [t2])
  refine ⟨tyL gp,bR gp (by rw [List.length_reverse,zzM];omega) ?_⟩;refine yV ?_
  (try dsimp only [zO,zT,zL,zH,zC,yX,yW,zN,zV,zM,zW,zY,zS,zP,zI,zK,yY,zJ,gZ,gS,tZ,tS])
  refine h _ (zR.put (by simp)) ?_ (by rw [yH (Ne.symm pr)];exact gr);rw [zX];show _=some (Lw (.say x::D));rw [pR];rfl
 | .nt,_,h=>exact wait .nt (.inl rfl) h
 | .lp,_,h=>exact wait .lp (.inr rfl) h
theorem zkI {n:Nat} (hn:21<=n) {ws:List W} {G:Hw} {Q:Q3} (h:uE false ws G Q XN):zG (yP K sA nA n) XN zb8 { nx:=fun _ G'=>Q .non G',rt:=Q } (yT zdj ws) G:=by
 obtain ⟨t,D,V,p,r,rfl,pr,gp,gr,gd,wf,ld,lv,h⟩:=h;have e4:(yP K sA nA n).fn[4]?=some (eIsi K):=sM 4 hn rfl;have e20:(yP K sA nA n).fn[20]?=some ⟨"take_left", gB⟩:=sM 20 hn rfl;have t0:(yP K sA nA n).mt[0]?=some ePop:=rfl;have t2:(yP K sA nA n).mt[2]?=some dA:=rfl;have g8:(yP K sA nA n).gl[4]?=some (("TAKES" : Str),W.dcf tK tV):=rfl;have g11:(yP K sA nA n).gl[11]?=some (("tuple" : Str),W.ty "tuple"):=rfl;have wf:Wf D V 1:=wf;show zG (yP K sA nA n) XN zb8 { nx:=fun _ G'=>Q .non G',rt:=Q } [some (tv t),some (.ref p),some (.ref r)] G;simp only [zb8]
 match t,gd,h with
 | .op k,gd,h =>
  show zG (yP K sA nA n) XN _ { nx:=fun _ G'=>Q .non G',rt:=Q } [some (.str (jw k)),some (.ref p),some (.ref r)] G;have tlk:=zbx (m:=lA k) V D;refine yV ?_
  ((try dsimp only [zO,zT,zL,zH,zC,yX,yW,zN,zV,zM,zW,zY,zS,zP,zI,zK,yY,zJ,gZ,gS,tZ,tS]);try simp only [e4,g11])
  refine isi1 (T' := "str") rfl (by rfl) ?_;simp only [kR,zzB,if_false,g8,yM,pT,zgn,Option.isSome_some,Bool.not_true,if_true];refine stk K sA nA n (yV ?_)
  ((try dsimp only [zO,zT,zL,zH,zC,yX,yW,zN,zV,zM,zW,zY,zS,zP,zI,zK,yY,zJ,gZ,gS,tZ,tS]);try simp only [e20,g8,qU,zgn])
  refine ⟨lA k,D,V,p,r,rfl,zbU k,pr,gp,gr,wf,by omega,by omega,fun G1 k1 gp1 gr1=>?_⟩;refine yV ?_
  ((try dsimp only [zO,zT,zL,zH,zC,yX,yW,zN,zV,zM,zW,zY,zS,zP,zI,zK,yY,zJ,gZ,gS,tZ,tS]);try simp only [yM,yO,(zgm k).2,Bool.not_false,if_true])
  refine yV ?_
  ((try dsimp only [zO,zT,zL,zH,zC,yX,yW,zN,zV,zM,zW,zY,zS,zP,zI,zK,yY,zJ,gZ,gS,tZ,tS]);try simp only [t2])
  refine ⟨tyL gr1,bR gr1 (by rw [List.length_reverse,zzM];omega) ?_⟩;refine yV ?_
  (try dsimp only [zO,zT,zL,zH,zC,yX,yW,zN,zV,zM,zW,zY,zS,zP,zI,zK,yY,zJ,gZ,gS,tZ,tS])
  refine h _ (k1.trans (zR.put (by simp))) (by rw [yH pr];exact gp1) ?_;rw [zX];show _=some (Lk (.op k::(tl (lA k) D V).2));rw [pP];rfl
 | .rp,gd,h =>
  have gd:(tl 1 D V).2≠[]:=gd;show zG (yP K sA nA n) XN _ { nx:=fun _ G'=>Q .non G',rt:=Q } [some (.str (Tk.s .rp)),some (.ref p),some (.ref r)] G;refine yV ?_
  ((try dsimp only [zO,zT,zL,zH,zC,yX,yW,zN,zV,zM,zW,zY,zS,zP,zI,zK,yY,zJ,gZ,gS,tZ,tS]);try simp only [e4,g11])
  refine isi1 (T' := "str") rfl (by rfl) ?_;simp only [kR,zzB,if_false,g8,yM,pT,zgo,Option.isSome_some,Bool.not_true,if_true];refine stk K sA nA n (yV ?_)
  ((try dsimp only [zO,zT,zL,zH,zC,yX,yW,zN,zV,zM,zW,zY,zS,zP,zI,zK,yY,zJ,gZ,gS,tZ,tS]);try simp only [e20,g8,qU,zgo])
  refine ⟨1,D,V,p,r,rfl,zzR _,pr,gp,gr,wf,by omega,by omega,fun G1 k1 gp1 gr1=>?_⟩;replace h:∀ G',zR [p,r] G G'->G' p=some (Lw (tl 1 D V).1)->G' r=some (Lk ((tl 1 D V).2.drop 1))->Q (.bl false) G':=h;generalize tl 1 D V=u at gd gp1 gr1 h;obtain ⟨D',V'⟩:=u
  cases V' with
  |nil=>exact absurd rfl gd
  |cons w V' =>
   have gr1:G1 r=some (Lk (w::V')):=gr1;rw [pP] at gr1;have e:((Tk.s .rp)==(")" : Str))=true:=by show ((")" : Str) == ")")=true;decide +kernel
   have he:((V'.map fun t=>W.str t.s).reverse++[W.str w.s]).isEmpty=false:=by simp
   refine yV ?_
   ((try dsimp only [zO,zT,zL,zH,zC,yX,yW,zN,zV,zM,zW,zY,zS,zP,zI,zK,yY,zJ,gZ,gS,tZ,tS]);try simp only [yM,yO,e,Bool.not_true,zzB,if_false])
   refine stk K sA nA n (yV ?_)
   ((try dsimp only [zO,zT,zL,zH,zC,yX,yW,zN,zV,zM,zW,zY,zS,zP,zI,zK,yY,zJ,gZ,gS,tZ,tS]);try simp only [kR,gr1,he,Bool.not_false,Bool.not_true,zzB,if_false])
   refine stk K sA nA n (yV ?_)
   ((try dsimp only [zO,zT,zL,zH,zC,yX,yW,zN,zV,zM,zW,zY,zS,zP,zI,zK,yY,zJ,gZ,gS,tZ,tS]);try simp only [t0])
   refine ⟨tyL gr1,popL gr1 ?_⟩;refine yV ?_
   (try dsimp only [zO,zT,zL,zH,zC,yX,yW,zN,zV,zM,zW,zY,zS,zP,zI,zK,yY,zJ,gZ,gS,tZ,tS])
   exact h _ (k1.trans (zR.put (by simp))) (by rw [yH pr];exact gp1) zX
end
theorem zj9 {items:List W} {stab:Hw->Prop} {G:Hw} {turn:W->Hw->(Option W->Hw->Prop)->Prop} {Q:Q3} (g:Nat->Option W) (hl:items.length<=100000) (st:∀ G',zR [] G G'->stab G')
  (step:∀ i w G' (k:Option W->Hw->Prop),items[i]?=some w->zR [] G G'->(∀ G'',zR [] G G''->k (g i) G'')->turn w G' k)
  (fin:∀ G' r,zR [] G G'->G' r=none->Q (.ref r) (put G' r (.lst ((List.range items.length).filterMap g)))):lcR items stab G turn Q:=by
 refine ⟨fun i acc G'=>zR [] G G'/\acc=(List.range i).filterMap g,⟨zR.refl,rfl⟩,?_,sz _ hl,?_,?_⟩
 .rintro i acc G' ⟨k,rfl⟩ _;exact ⟨st G' k,Nat.le_trans (List.length_filterMap_le _ _) (Nat.le_of_eq List.length_range)⟩
 .rintro i w acc G' hw ⟨k,rfl⟩;refine step i w G' _ hw k fun G'' k'=>?_
  have e:(List.range (i+1)).filterMap g=(List.range i).filterMap g++(g i).toList:=by
   rw [List.range_succ,List.filterMap_append];cases h:g i<;>simp [h]
  cases hg:g i with
  |some x=>exact ⟨k',by rw [e,hg];rfl⟩
  |none=>exact ⟨k',by rw [e,hg];simp⟩
 .rintro acc G' ⟨k,rfl⟩ r hr;exact fin G' r k hr
theorem zdR {α:Type} (c:α->W) (f:α->Bool):∀ l:List α,l.filterMap (fun x=>if f x=true then some (c x) else none)=(l.filter f).map c
 | []=>rfl
 |x::l=>by
  have ih:=zdR c f l;rw [List.filterMap_cons,List.filter_cons]
  by_cases h:f x=true
  .rw [if_pos h,if_pos h,zzU,← ih]
  .rw [if_neg h,if_neg h,← ih]
theorem zka {α:Type} {items:List W} {stab:Hw->Prop} {G:Hw} {turn:W->Hw->(Option W->Hw->Prop)->Prop} {Q:Q3} (l:List α) (c:α->W) (f:α->Bool) (hi:items=l.map c) (hl:l.length<=100000) (st:∀ G',zR [] G G'->stab G')
  (step:∀ x∈l,∀ G' (k:Option W->Hw->Prop),zR [] G G'->(∀ G'',zR [] G G''->k (if f x=true then some (c x) else none) G'')->turn (c x) G' k)
  (fin:∀ G' r,zR [] G G'->G' r=none->Q (.ref r) (put G' r (.lst ((l.filter f).map c)))):lcR items stab G turn Q:=by
 subst hi
 have e:(List.range (l.map c).length).filterMap (fun i=>(l[i]?).bind fun x=>if f x=true then some (c x) else none)=(l.filter f).map c:=by
  rw [zzM,← zdR];have h:=List.filterMap_getElem?_range_length l
  conv=>rhs;rw [← h]
  rw [List.filterMap_filterMap]
 refine zj9 (fun i=>(l[i]?).bind fun x=>if f x=true then some (c x) else none) (by rw [zzM];exact hl) st (fun i w G' k hw kp hk=>?_) (fun G' r kp hr=>by rw [e];exact fin G' r kp hr);rw [List.getElem?_map] at hw;obtain ⟨x,hx,rfl⟩:=Option.map_eq_some_iff.mp hw;rw [hx] at hk;exact step x (List.mem_of_getElem? hx) G' k kp hk
theorem gN {c:Nat}:∀ {l p:List Nat},p∈pE c l->p.length<=l.length
 | [],p,h=>by simp [pE] at h;subst h;exact zzR _
 |x::r,p,h=>by
  unfold pE at h
  split at h
  .rcases List.mem_cons.mp h with rfl|h
   .exact Nat.zero_le _
   .exact Nat.le_succ_of_le (gN h)
  .split at h
   .rename_i a t e;rcases List.mem_cons.mp h with rfl|h
    .exact Nat.succ_le_succ (gN (by rw [e];exact zzT))
    .exact Nat.le_succ_of_le (gN (by rw [e];exact List.mem_cons_of_mem _ h))
   .rename_i e;exact absurd e (zgw c r)
theorem zi2:(" " : Str)=⟨#[32]⟩:=by decide +kernel
theorem zeD {x w:Str} {c:Nat} (h:w∈Txt.split x ⟨#[c]⟩):w.length<=x.length:=by
 have:=List.mem_map_of_mem (f:=fun s:Str=>s.cps.toList) h;rw [bF] at this;have:=gN this;simpa [Str.length] using this
theorem ziF (x:Str):(Txt.split x " ").filter (fun w=>(w.length:Int) != 0)=wdS x:=by
 rw [zi2,zeE,wdS,wd,List.filter_map];show List.map mkS _=_;congr 1;apply List.filter_congr;intro l _;show ((l.toArray.size:Int) != 0)=!l.isEmpty;cases l<;>simp
 omega
theorem zj7 {α:Type} {items:List W} {stab:Hw->Prop} {G:Hw} {turn:W->Hw->(Option W->Hw->Prop)->Prop} {Q:Q3} (l:List α) (c d:α->W) (hi:items=l.map c) (hl:l.length<=100000) (st:∀ G',zR [] G G'->stab G')
  (step:∀ x∈l,∀ G' (k:Option W->Hw->Prop),zR [] G G'->(∀ G'',zR [] G G''->k (some (d x)) G'')->turn (c x) G' k)
  (fin:∀ G' r,zR [] G G'->G' r=none->Q (.ref r) (put G' r (.lst (l.map d)))):lcR items stab G turn Q:=by
 subst hi
 have e:(List.range (l.map c).length).filterMap (fun i=>(l[i]?).map d)=l.map d:=by
  rw [zzM];have h:=List.filterMap_getElem?_range_length l
  conv=>rhs;rw [← h]
  rw [List.map_filterMap]
 refine zj9 (fun i=>(l[i]?).map d) (by rw [zzM];exact hl) st (fun i w G' k hw kp hk=>?_) (fun G' r kp hr=>by rw [e];exact fin G' r kp hr);rw [List.getElem?_map] at hw;obtain ⟨x,hx,rfl⟩:=Option.map_eq_some_iff.mp hw;rw [hx] at hk;exact step x (List.mem_of_getElem? hx) G' k kp hk
theorem le_a (c:Nat):leS "a" ⟨#[c]⟩=decide (97<=c):=by
 unfold leS;show (!decide ([c]<("a" : Str).cps.toList))=_;rw [show ("a" : Str).cps.toList=[97] by decide +kernel,StrLaws.lt_cons_cons]
 by_cases h:c<97
 .simp [h]
 .simp [h,Nat.le_of_not_lt h]
theorem le_z (c:Nat):leS ⟨#[c]⟩ "z" = decide (c<=122):=by
 unfold leS;show (!decide (("z" : Str).cps.toList<[c]))=_;rw [show ("z" : Str).cps.toList=[122] by decide +kernel,StrLaws.lt_cons_cons]
 by_cases h:122<c
 .simp [h]
 .simp [h,Nat.le_of_not_lt h]
theorem zau {S:List Addr} {G G' G'':Hw} {p r:Addr} (k:zR S G G') (k2:zR [p,r] G' G'') (h:G p=none) (h2:G r=none):zR S G G'':=fun a u ha e=>k2 a u (by
 simp only [List.mem_cons,List.not_mem_nil,or_false,not_or];exact ⟨jP e h,jP e h2⟩) (k a u ha e)
theorem zeM (s:St) (l:List Tk) (t:Tk):run s (l++[t])=step (run s l) t:=by rw [za1];rfl
section
variable {K : yJ} {sA nA : Addr}
theorem zcI {n:Nat} {ws:List W} {G:Hw} {Q:Q3} (h:spWB ws G Q XN):zG (yP K sA nA n) XN jC { nx:=fun _ G'=>Q .non G',rt:=Q } (yT xT ws) G:=by
 obtain ⟨x,rfl,hx,h⟩:=h;have m3:(yP K sA nA n).mt[5]?=some zb3:=rfl;refine yV ?_
 ((try dsimp only [zO,zT,zL,zH,zC,yX,yW,zN,zV,zM,zW,zY,zS,zP,zI,zK,yY,zJ,gZ,gS,tZ,tS]);try simp only [yT,xT,zzU,zzV,List.length_cons,List.length_nil,List.cons_append,List.nil_append,List.getElem?_cons_zero,List.getElem?_cons_succ,m3])
 refine ⟨rfl,by decide +kernel,by omega,fun r hr=>?_⟩;simp only [uO,kE zX];have hl:=bG x " ";refine zka (Txt.split x " ") W.str (fun w=>(w.length:Int) != 0) rfl (by omega) (fun G' k=>kE (k0 k zX)) (fun w hw G' k kp hk=>?_) (fun G' q kp hq=>?_)
 .have lw:w.length<=sizeLine:=sz _ (Nat.le_trans (zeD (by rw [zi2] at hw;exact hw)) (by omega));show (match kR G' (.str w) with|some b=>if b=true then k (some (.str w)) G' else k none G'|none=>False);have hk:=hk G' kp;simp only [kR,lw,if_true]
  by_cases e:((w.length:Int) != 0)=true
  .rw [if_pos e] at hk ⊢;exact hk
  .rw [if_neg e] at hk ⊢;exact hk
 .rw [ziF];exact h q _ (((zR.new hr).trans kp).trans (zR.new hq)) (zR.none ((zR.new hr).trans kp) (by simp) hq) zX
theorem ziG {n:Nat} (hn:27<=n) {ws:List W} {G:Hw} {Q:Q3} (h:spWA ws G Q XN):zG (yP K sA nA n) XN xK { nx:=fun _ G'=>Q .non G',rt:=Q } (yT wC ws) G:=by
 obtain ⟨x,rfl,hx,h⟩:=h;have e26:(yP K sA nA n).fn[26]?=some ⟨"words_between_blanks", spWB⟩:=sM 26 hn rfl;have x7:(yP K sA nA n).sx[7]?=some ⟨uJ ")" " ) ", rD ")" " ) "⟩:=rfl;have x8:(yP K sA nA n).sx[8]?=some ⟨uJ "(" " ( ", rD "(" " ( "⟩:=rfl;show zG (yP K sA nA n) XN xK { nx:=fun _ G'=>Q .non G',rt:=Q } [some (.str x)] G;simp only [xK];refine yV ?_
 ((try dsimp only [zO,zT,zL,zH,zC,yX,yW,zN,zV,zM,zW,zY,zS,zP,zI,zK,yY,zJ,gZ,gS,tZ,tS]);try simp only [e26,x7,x8])
 have l1:(" ( " : Str).length=3:=by decide +kernel
 have l2:(" ) " : Str).length=3:=by decide +kernel
 have h1:(Txt.replace x "(" " ( ").length<=3 * x.length:=by
  rw [← vW,zge,← vW x];exact zdT _
 have h2:(opn x).length<=3 * x.length:=by
  rw [← vW,zgd,← vW x];exact zgq _
 refine ⟨by rw [l1];omega,?_⟩;refine ⟨by rw [l2];omega,?_⟩;exact ⟨opn x,rfl,by omega,h⟩
theorem zhH {n:Nat} (hn:5<=n) {ws:List W} {G:Hw} {Q:Q3} (h:zeG ws G Q XN):zG (yP K sA nA n) XN pH { nx:=fun _ G'=>Q .non G',rt:=Q } (yT fI ws) G:=by
 obtain ⟨x,rfl,nm,h⟩:=h;have e1:(yP K sA nA n).fn[1]?=some eLen:=sM 1 hn rfl;have e2:(yP K sA nA n).fn[2]?=some eAll:=sM 2 hn rfl;have e4:(yP K sA nA n).fn[4]?=some (eIsi K):=sM 4 hn rfl;have g0:(yP K sA nA n).gl[0]?=some (("LONGEST_NAME" : Str),W.int 6):=rfl;have g1:(yP K sA nA n).gl[1]?=some (("NO_NAMES" : Str),W.tup (noN.map .str)):=rfl;have g10:(yP K sA nA n).gl[10]?=some (("str" : Str),W.ty "str"):=rfl;have nm':=nm;simp only [gP,Bool.and_eq_true,decide_eq_true_eq,Bool.not_eq_true'] at nm';obtain ⟨⟨⟨h1,h6⟩,hno⟩,hal⟩:=nm';show zG (yP K sA nA n) XN pH { nx:=fun _ G'=>Q .non G',rt:=Q } [some (.str x)] G;simp only [pH];refine yV ?_
 ((try dsimp only [zO,zT,zL,zH,zC,yX,yW,zN,zV,zM,zW,zY,zS,zP,zI,zK,yY,zJ,gZ,gS,tZ,tS]);try simp only [e4,g10])
 refine isi1 (T' := "str") rfl (by rfl) ?_;simp only [kR,Bool.not_true,zzB,if_false,yM,leR,e1,g0,bY,bZ,sz _ (show x.length<=100000 by omega),if_true];have c1:decide ((1:Int)<=(x.length:Int))=true:=decide_eq_true (by omega);have c2:decide ((x.length:Int)<=6)=true:=decide_eq_true (by omega);simp only [c1,c2,if_true,Bool.not_true,zzB,if_false];refine stk K sA nA n (yV ?_)
 ((try dsimp only [zO,zT,zL,zH,zC,yX,yW,zN,zV,zM,zW,zY,zS,zP,zI,zK,yY,zJ,gZ,gS,tZ,tS]);try simp only [yM,pT,L3.inR,g1,e2,if_true])
 refine ⟨⟨by simp [pur],by decide,Nat.le_trans (Nat.min_le_right _ _) (by simp [dep])⟩,?_⟩;rw [zgz];simp only [hno,Bool.not_false,if_true,uO];refine zbd (fun w=>match w with|.str y=>some (.bl (leS "a" y&&leS y "z"))|_=>none) trivial (by simp only [sgs,zzM,uY];exact sz _ (by omega)) ?_ ?_
 .intro w hw K' hK;obtain ⟨c,_,rfl⟩:=zzP hw;simp only [capS,List.length_cons,List.length_nil,List.replicate,zzV,List.append_nil]
  ((try dsimp only [zO,zT,zL,zH,zC,yX,yW,zN,zV,zM,zW,zY,zS,zP,zI,zK,yY,zJ,gZ,gS,tZ,tS]);try simp only [yM,leR,if_true])
  replace hK:K' (some (.bl (leS "a" ⟨#[c]⟩&&leS ⟨#[c]⟩ "z"))) G:=hK;revert hK;cases leS "a" ⟨#[c]⟩<;>simp
 .intro p hp;refine ⟨x.cps.toList.map ltB,?_,?_⟩
  .rw [xG zX];congr 1;unfold sgs;rw [List.filterMap_map,List.map_map];rw [← List.filterMap_eq_map];congr 1
   funext c
   simp only [Function.comp,le_a,le_z,ltB]
  .have e:(x.cps.toList.map ltB).all id=true:=by rw [List.all_map];exact hal
   dsimp only;rw [e];exact h _ (zR.new hp)
theorem in_j (k:Tk) (h:tkOk k):(jL.any fun w=>jM w (.str k.s))=(match k with|.nm _=>false|_=>true):=by
 cases k with
 |nm x =>
  have h:gP x=true:=h;have hl:=(jH h).2;simp only [gP,Bool.and_eq_true,Bool.not_eq_true'] at h;have hno:x∉noN:=by simpa using h.1.2
  have q:∀ y∈(["(", ")", "not", "and", "or", "then"]:List Str),(y==x)=false:=by
   intro y hy;rw [beq_eq_false_iff_ne];rintro rfl;have h2:∀ z∈(["(", ")", "not", "and", "or", "then"]:List Str),z∈noN\/∃ c∈z.cps.toList,c<97:=by decide +kernel
   rcases h2 y hy with h2|⟨c,hc,h3⟩
   .exact hno h2
   .have:=hl c hc;omega
  show (jL.any fun w=>jM w (.str x))=false;have ej:jL=(["(", ")", "not", "and", "or", "then"]:List Str).map W.str:=rfl;rw [ej,List.any_map,List.any_eq_false];intro y hy;simp only [Function.comp,jM];rw [q y hy]
  decide
 |lp=>show (jL.any fun w=>jM w (.str "("))=true;decide +kernel
 |rp=>show (jL.any fun w=>jM w (.str ")"))=true;decide +kernel
 |nt=>show (jL.any fun w=>jM w (.str "not"))=true;decide +kernel
 |op k=>match k with
  | 0=>show (jL.any fun w=>jM w (.str "and"))=true;decide +kernel
  | 1=>show (jL.any fun w=>jM w (.str "or"))=true;decide +kernel
  |k+2=>show (jL.any fun w=>jM w (.str "then"))=true;decide +kernel
theorem zjf {n:Nat} (hn:25<=n) {ws:List W} {G:Hw} {Q:Q3} (h:spRW ws G Q XN):zG (yP K sA nA n) XN uR { nx:=fun _ G'=>Q .non G',rt:=Q } (yT rW ws) G:=by
 obtain ⟨k,rfl,ok,h⟩:=h;have e24:(yP K sA nA n).fn[24]?=some ⟨"is_name", zeG⟩:=sM 24 hn rfl;have g6:(yP K sA nA n).gl[2]?=some (("JOINING" : Str),W.tup jL):=rfl;have z2:=sz 2 (by decide);show zG (yP K sA nA n) XN uR { nx:=fun _ G'=>Q .non G',rt:=Q } [some (.str k.s)] G;simp only [uR];refine yV ?_
 ((try dsimp only [zO,zT,zL,zH,zC,yX,yW,zN,zV,zM,zW,zY,zS,zP,zI,zK,yY,zJ,gZ,gS,tZ,tS]);try simp only [g6,yM,pT,L3.inR,zzB,if_false])
 refine ⟨⟨by simp [pur],by decide,Nat.le_trans (Nat.min_le_right _ _) (by simp [dep])⟩,?_⟩;rw [in_j k ok]
 cases k with
 |nm x =>
  rw [if_neg zzN];refine stk K sA nA n (yV ?_)
  ((try dsimp only [zO,zT,zL,zH,zC,yX,yW,zN,zV,zM,zW,zY,zS,zP,zI,zK,yY,zJ,gZ,gS,tZ,tS]);try simp only [e24])
  refine ⟨x,rfl,ok,fun G1 k1=>?_⟩;simp only [kR,Bool.not_true,zzB,if_false];refine stk K sA nA n (yV ?_)
  ((try dsimp only [zO,zT,zL,zH,zC,yX,yW,zN,zV,zM,zW,zY,zS,zP,zI,zK,yY,zJ,gZ,gS,tZ,tS]);try simp only [zzC,zzL,zzA,Nat.reduceAdd,z2,true_and])
  exact h G1 k1
 |lp=>rw [if_pos rfl];refine yV ?_;(try dsimp only [zO,zT,zL,zH,zC,yX,yW,zN,zV,zM,zW,zY,zS,zP,zI,zK,yY,zJ,gZ,gS,tZ,tS]);exact h G zR.refl
 |rp=>rw [if_pos rfl];refine yV ?_;(try dsimp only [zO,zT,zL,zH,zC,yX,yW,zN,zV,zM,zW,zY,zS,zP,zI,zK,yY,zJ,gZ,gS,tZ,tS]);exact h G zR.refl
 |nt=>rw [if_pos rfl];refine yV ?_;(try dsimp only [zO,zT,zL,zH,zC,yX,yW,zN,zV,zM,zW,zY,zS,zP,zI,zK,yY,zJ,gZ,gS,tZ,tS]);exact h G zR.refl
 |op j=>rw [if_pos rfl];refine yV ?_;(try dsimp only [zO,zT,zL,zH,zC,yX,yW,zN,zV,zM,zW,zY,zS,zP,zI,zK,yY,zJ,gZ,gS,tZ,tS]);exact h G zR.refl
theorem zji {n:Nat} (hn:23<=n) {ws:List W} {G:Hw} {Q:Q3} (h:spRJ ws G Q XN):zG (yP K sA nA n) XN qH { nx:=fun _ G'=>Q .non G',rt:=Q } (yT vG ws) G:=by
 obtain ⟨t,b,tk,q,rfl,ok,tn,tl',gq,h⟩:=h;have e20:(yP K sA nA n).fn[20]?=some ⟨"take_left", gB⟩:=sM 20 hn rfl;have e21:(yP K sA nA n).fn[21]?=some ⟨"begin_side", uE true⟩:=sM 21 hn rfl;have e22:(yP K sA nA n).fn[22]?=some ⟨"go_on", uE false⟩:=sM 22 hn rfl;have z0:=sz 0 (by decide);show zG (yP K sA nA n) XN qH { nx:=fun _ G'=>Q .non G',rt:=Q } [some (.ref q),none,none,none,none] G;simp only [qH];refine yV ?_
 ((try dsimp only [zO,zT,zL,zH,zC,yX,yW,zN,zV,zM,zW,zY,zS,zP,zI,zK,yY,zJ,gZ,gS,tZ,tS]);try simp only [List.length_nil,z0,true_and])
 intro p hp;have gq1:=nV (u:=.lst []) hp gq;have k1:zR [] G (put G p (.lst [])):=zR.new hp;have gp1:(put G p (.lst [])) p=some (.lst []):=zX;generalize put G p (.lst [])=G1 at gq1 k1 gp1 ⊢;refine yV ?_
 ((try dsimp only [zO,zT,zL,zH,zC,yX,yW,zN,zV,zM,zW,zY,zS,zP,zI,zK,yY,zJ,gZ,gS,tZ,tS]);try simp only [List.length_nil,z0,true_and])
 intro r hr;have gq2:=nV (u:=.lst []) hr gq1;have gp2:=nV (u:=.lst []) hr gp1;have hr0:=k1.none (by simp) hr;have pr:p≠r:=fun e=>by rw [← e,gp1] at hr;cases hr
 have pq:q≠p:=jP gq hp;have rq:q≠r:=jP gq hr0;have k2:zR [] G (put G1 r (.lst [])):=k1.trans (zR.new hr);have gr2:(put G1 r (.lst [])) r=some (.lst []):=zX;generalize put G1 r (.lst [])=G2 at gq2 gp2 k2 gr2 ⊢;refine yV ?_
 (try dsimp only [zO,zT,zL,zH,zC,yX,yW,zN,zV,zM,zW,zY,zS,zP,zI,zK,yY,zJ,gZ,gS,tZ,tS])
 refine yV ?_
 ((try dsimp only [zO,zT,zL,zH,zC,yX,yW,zN,zV,zM,zW,zY,zS,zP,zI,zK,yY,zJ,gZ,gS,tZ,tS]);try simp only [uO,kE gq2])
 refine ⟨fun i σ G'=>∃ v:Option W,σ=[some (.ref q),some (.ref p),some (.ref r),some (.bl (run ([],[],true) (tk.take i)).2.2),v]/\G' q=some (.lst (tk.map tv))/\G' p=some (Lw (run ([],[],true) (tk.take i)).1)/\G' r=some (Lk (run ([],[],true) (tk.take i)).2.1)/\zR [] G G'/\WfS (run ([],[],true) (tk.take i))/\LenS (run ([],[],true) (tk.take i)) i,⟨none,rfl,gq2,gp2,gr2,k2,⟨rfl,by simp [run]⟩,⟨by simp [run],by simp [run]⟩⟩,?_,?_,?_⟩
 .rintro i σ G' ⟨v,rfl,g,_⟩ _;exact kE g
 .rintro i w σ G' hw ⟨v,rfl,gq',gp',gr',kp,wf,ln⟩;rw [List.getElem?_map] at hw;obtain ⟨x,hx,rfl⟩:=Option.map_eq_some_iff.mp hw;have hi:=(List.getElem?_eq_some_iff.mp hx).1;have et:tk.take (i+1)=tk.take i++[x]:=by rw [List.take_succ_eq_append_getElem hi,(List.getElem?_eq_some_iff.mp hx).2]
  have gd:Good (run ([],[],true) (tk.take i)) x:=by
   have g:=zew tn ok;rw [← List.take_append_drop i tk,cZ hx] at g;exact ((sT _ _ _).mp g).2.1
  simp only [et,zeM];have wf2:=zgH wf gd;have ln2:=zfd (t:=x) ln;generalize run ([],[],true) (tk.take i)=s at *;obtain ⟨D,V,l⟩:=s;have l1:D.length<=i:=ln.1;have l2:V.length<=i:=ln.2
  have fin:∀ G3,zR [p,r] G' G3->G3 p=some (Lw (step (D,V,l) x).1)->G3 r=some (Lk (step (D,V,l) x).2.1)->∃ v:Option W,[some (W.ref q),some (.ref p),some (.ref r),some (.bl (step (D,V,l) x).2.2),some (tv x)]=[some (.ref q),some (.ref p),some (.ref r),some (.bl (step (D,V,l) x).2.2),v]/\G3 q=some (.lst (tk.map tv))/\G3 p=some (Lw (step (D,V,l) x).1)/\G3 r=some (Lk (step (D,V,l) x).2.1)/\zR [] G G3/\WfS (step (D,V,l) x)/\LenS (step (D,V,l) x) (i+1) :=
   fun G3 k3 g3 h3=>⟨_,rfl,k3 _ _ (by simp only [List.mem_cons,List.not_mem_nil,or_false,not_or];exact ⟨pq,rq⟩) gq',g3,h3,zau kp k3 hp hr0,wf2,ln2⟩
  refine yV ?_
  cases l with
  |true =>
   ((try dsimp only [zO,zT,zL,zH,zC,yX,yW,zN,zV,zM,zW,zY,zS,zP,zI,zK,yY,zJ,gZ,gS,tZ,tS]);try simp only [kR,if_true])
   refine yV ?_
   ((try dsimp only [zO,zT,zL,zH,zC,yX,yW,zN,zV,zM,zW,zY,zS,zP,zI,zK,yY,zJ,gZ,gS,tZ,tS]);try simp only [e21])
   exact ⟨x,D,V,p,r,rfl,pr,gp',gr',gd,wf,by omega,by omega,fun G3 k3 g3 h3=>fin G3 k3 g3 h3⟩
  |false =>
   ((try dsimp only [zO,zT,zL,zH,zC,yX,yW,zN,zV,zM,zW,zY,zS,zP,zI,zK,yY,zJ,gZ,gS,tZ,tS]);try simp only [kR,zzB,if_false])
   refine yV ?_
   ((try dsimp only [zO,zT,zL,zH,zC,yX,yW,zN,zV,zM,zW,zY,zS,zP,zI,zK,yY,zJ,gZ,gS,tZ,tS]);try simp only [e22])
   exact ⟨x,D,V,p,r,rfl,pr,gp',gr',gd,wf,by omega,by omega,fun G3 k3 g3 h3=>fin G3 k3 g3 h3⟩
 .rintro σ G' ⟨v,rfl,gq',gp',gr',kp,wf,ln⟩;rw [zzM,List.take_length] at *;obtain ⟨D,V,e,et⟩:=tn_rd tn;rw [e] at wf ln gp' gr' ⊢;have l1:D.length<=tk.length:=ln.1;have l2:V.length<=tk.length:=ln.2;refine yV ?_
  ((try dsimp only [zO,zT,zL,zH,zC,yX,yW,zN,zV,zM,zW,zY,zS,zP,zI,zK,yY,zJ,gZ,gS,tZ,tS]);try simp only [kR,zzB,if_false])
  refine stk K sA nA n (yV ?_)
  ((try dsimp only [zO,zT,zL,zH,zC,yX,yW,zN,zV,zM,zW,zY,zS,zP,zI,zK,yY,zJ,gZ,gS,tZ,tS]);try simp only [e20])
  refine ⟨1,D,V,p,r,rfl,zzR _,pr,gp',gr',wf,by omega,by omega,fun G3 k3 g3 h3=>?_⟩;rw [et] at g3 h3;have g3:G3 p=some (.lst [t.w]):=g3;have h3:G3 r=some (.lst []):=h3;refine yV ?_
  ((try dsimp only [zO,zT,zL,zH,zC,yX,yW,zN,zV,zM,zW,zY,zS,zP,zI,zK,yY,zJ,gZ,gS,tZ,tS]);try simp only [kR,h3,List.isEmpty_nil,Bool.not_true,zzB,if_false])
  refine stk K sA nA n (yV ?_)
  (try dsimp only [zO,zT,zL,zH,zC,yX,yW,zN,zV,zM,zW,zY,zS,zP,zI,zK,yY,zJ,gZ,gS,tZ,tS])
  refine ixL (kE g3) ?_;rw [qS];exact h G3 (zau kp k3 hp hr0)
theorem ziO {k:Tk} (h:tkK k):tkOk k:=by cases k<;>exact h
theorem zjg {n:Nat} (hn:28<=n) {ws:List W} {G:Hw} {Q:Q3} (h:spRS ws G Q XN):zG (yP K sA nA n) XN qI { nx:=fun _ G'=>Q .non G',rt:=Q } (yT vH ws) G:=by
 obtain ⟨t,b,tk,x,rfl,ok,tn,tl',sl,hw,h⟩:=h;have e4:(yP K sA nA n).fn[4]?=some (eIsi K):=sM 4 hn rfl;have e23:(yP K sA nA n).fn[23]?=some ⟨"read_joined", spRJ⟩:=sM 23 hn rfl;have e25:(yP K sA nA n).fn[25]?=some ⟨"read_word", spRW⟩:=sM 25 hn rfl;have e27:(yP K sA nA n).fn[27]?=some ⟨"words_and_brackets", spWA⟩:=sM 27 hn rfl;have g10:(yP K sA nA n).gl[10]?=some (("str" : Str),W.ty "str"):=rfl;have x9:(yP K sA nA n).sx[9]?=some ⟨uJ "\n" " ", rD "\n" " "⟩:=rfl;show zG (yP K sA nA n) XN qI { nx:=fun _ G'=>Q .non G',rt:=Q } [some (.str x)] G;simp only [qI];refine yV ?_
 ((try dsimp only [zO,zT,zL,zH,zC,yX,yW,zN,zV,zM,zW,zY,zS,zP,zI,zK,yY,zJ,gZ,gS,tZ,tS]);try simp only [e4,g10])
 refine isi1 (T' := "str") rfl (by rfl) ?_;simp only [kR,Bool.not_true,zzB,if_false];refine stk K sA nA n (yV ?_)
 ((try dsimp only [zO,zT,zL,zH,zC,yX,yW,zN,zV,zM,zW,zY,zS,zP,zI,zK,yY,zJ,gZ,gS,tZ,tS]);try simp only [e23,e27,x9])
 refine ⟨by rw [show (" " : Str).length=1 by decide +kernel];omega,?_⟩;refine ⟨_,rfl,by rw [zjS];omega,fun r G1 k1 hr gr=>?_⟩;rw [ziC hw,List.map_map] at gr;simp only [uO,kE gr];refine zj7 tk (W.str ∘ Tk.s) tv rfl (by omega) (fun G' k=>kE (k0 k gr)) (fun x hx G' k kp hk=>?_) (fun G' q kp hq=>?_)
 .simp only [capS,List.length_cons,List.length_nil,List.replicate,zzV,List.append_nil]
  ((try dsimp only [zO,zT,zL,zH,zC,yX,yW,zN,zV,zM,zW,zY,zS,zP,zI,zK,yY,zJ,gZ,gS,tZ,tS]);try simp only [e25,Function.comp])
  exact ⟨x,rfl,ziO (ziL tn ok x hx),fun G2 k2=>hk G2 (kp.trans k2)⟩
 .exact ⟨t,b,tk,q,rfl,ok,tn,tl',zX,fun G2 k2=>h G2 (((k1.trans kp).trans (zR.new hq)).trans k2)⟩
end
theorem zkB:isG (" " : Str).cps.toList:=by
 intro k hk;rw [show (" " : Str).cps.toList=[32] by decide +kernel] at hk;exact .inl (zzO hk)
theorem zgR {x:Str} (h:x.length=0):x.cps.toList=[]:=List.eq_nil_of_length_eq_zero (by rw [vW];exact h)
theorem zkR {g:Str}:(g==("" : Str))=decide (g.cps.toList=[]):=by
 by_cases h:g.cps.toList=[]
 .rw [decide_eq_true h,beq_iff_eq];exact zcS (by rw [h];decide +kernel)
 .rw [decide_eq_false h,beq_eq_false_iff_ne];rintro rfl;exact h (by decide +kernel)
theorem getl {α:Type} {l:List α} {i:Nat} {x:α} (h:l[i]?=some x):(l.take (i+1)).getLast?=some x:=by
 have hi:=(List.getElem?_eq_some_iff.mp h).1;rw [List.take_succ_eq_append_getElem hi,(List.getElem?_eq_some_iff.mp h).2];simp
section
variable {K : yJ} {sA nA : Addr}
theorem zcp {n:Nat} (hn:31<=n) {ws:List W} {G:Hw} {Q:Q3} (h:spJo ws G Q XN):zG (yP K sA nA n) XN qF { nx:=fun _ G'=>Q .non G',rt:=Q } (yT vE ws) G:=by
 obtain ⟨p,q,tk,gs,rfl,gp,gq,hl,hk,gne,gl,hg,h⟩:=h;have e1:(yP K sA nA n).fn[1]?=some eLen:=sM 1 hn rfl;have e29:(yP K sA nA n).fn[29]?=some eInt:=sM 29 hn rfl;have i2:(yP K sA nA n).it[2]?=some eEn:=rfl;show zG (yP K sA nA n) XN qF { nx:=fun _ G'=>Q .non G',rt:=Q } [some (.ref p),some (.ref q),none,none,none,none] G;simp only [qF];refine yV ?_
 (try dsimp only [zO,zT,zL,zH,zC,yX,yW,zN,zV,zM,zW,zY,zS,zP,zI,zK,yY,zJ,gZ,gS,tZ,tS])
 refine yV ?_
 ((try dsimp only [zO,zT,zL,zH,zC,yX,yW,zN,zV,zM,zW,zY,zS,zP,zI,zK,yY,zJ,gZ,gS,tZ,tS]);try simp only [i2])
 refine ⟨xM tk,seqL gp,?_⟩;have gpos:0<gs.length:=List.length_pos_iff.mpr gne;refine ⟨fun i σ G'=>∃ (x:Str) (v3 v4 v5:Option W),σ=[some (.ref p),some (.ref q),some (.str x),v3,v4,v5]/\G=G'/\Jn x.cps.toList (tk.take i)/\x.length<=10 * i,⟨"", none,none,none,rfl,rfl,by simpa [show ("" : Str).cps.toList=[] by decide +kernel] using zkl,by decide +kernel⟩,?_,?_,?_⟩
 .rintro i σ G' ⟨x,v3,v4,v5,rfl,rfl,_⟩ _;exact seqL gp
 .rintro i w σ G' hw ⟨x,v3,v4,v5,rfl,rfl,jn,xl⟩
  have hi:i<tk.length:=by
   have:=(List.getElem?_eq_some_iff.mp hw).1;simpa [enW,xM] using this
  have hki:tk[i]?=some tk[i]:=List.getElem?_eq_getElem hi
  have hwe:w=.tup [.int (i:Int),.str tk[i].s]:=by
   have e2:(enW 0 (xM tk))[i]?=some (.tup [.int ((i:Nat)+(0:Int)),(xM tk).getD i .non]):=by
    unfold enW;rw [List.getElem?_map,List.getElem?_range (by simpa [xM] using hi)];rfl
   rw [e2] at hw;have e3:(xM tk).getD i .non=.str tk[i].s:=by simp [xM,List.getD,hi]
   rw [e3,Int.add_zero] at hw;exact (Option.some.inj hw).symm
  subst hwe;generalize tk[i]=k at hki;have okk:=hk k (List.mem_of_getElem? hki)
  have et:tk.take (i+1)=tk.take i++[k]:=by
   have hi:=(List.getElem?_eq_some_iff.mp hki).1;rw [List.take_succ_eq_append_getElem hi,(List.getElem?_eq_some_iff.mp hki).2]
  have kl:k.s.length<=6:=zfU (ziO okk)
  ((try dsimp only [zO,zT,zL,zH,zC,yX,yW,zN,zV,zM,zW,zY,zS,zP,zI,zK,yY,zJ,gZ,gS,tZ,tS]);try simp only [zzC,zzL,zzA,Nat.reduceAdd])
  refine yV ?_
  ((try dsimp only [zO,zT,zL,zH,zC,yX,yW,zN,zV,zM,zW,zY,zS,zP,zI,zK,yY,zJ,gZ,gS,tZ,tS]);try simp only [e1,bY,bZ,gq,jY,zzM])
  refine ⟨by omega,?_⟩;have m0:0<=(i:Int) % (gs.length:Int):=Int.emod_nonneg _ (by omega);have m1:(i:Int) % (gs.length:Int)<gs.length:=Int.emod_lt_of_pos _ (by omega);obtain ⟨w,hwm,ew⟩:=zgy (l:=gs.map W.str) m0 (by rw [zzM];exact m1);obtain ⟨g,hgm,rfl⟩:=zzP hwm;obtain ⟨gg,g3⟩:=hg g hgm;refine ixL (kE gq) ?_;rw [ew]
  have fin:∀ (g:Str),isG g.cps.toList->g.length<=3->(i=0\/g.cps.toList≠[]\/isB k=true\/∃ t,(tk.take i).getLast?=some t/\isB t=true)->zG (yP K sA nA n) XN (.cons (.asg 2 (.bin .Add (.bin .Add (.var 2) (.bin .Mult (.var 5) (.call 29 (.cons (.cmp .Gt (.var 3) (.con (.int 0))) .nil)))) (.var 4))) .nil)
    { nx:=fun σ G'=>∃ (x:Str) (v3 v4 v5:Option W),σ=[some (.ref p),some (.ref q),some (.str x),v3,v4,v5]/\G=G'/\Jn x.cps.toList (tk.take (i+1))/\x.length<=10 * (i+1),rt:=Q }
    [some (.ref p),some (.ref q),some (.str x),some (.int (i:Int)),some (.str k.s),some (.str g)] G:=by
   intro g gg g3 hc;refine yV ?_
   ((try dsimp only [zO,zT,zL,zH,zC,yX,yW,zN,zV,zM,zW,zY,zS,zP,zI,zK,yY,zJ,gZ,gS,tZ,tS]);try simp only [yM,sP,e29,intS,jY])
   by_cases h0:i=0
   .subst h0;have c0:decide ((0:Int)<((0:Nat):Int))=false:=by decide
    refine .inr ⟨if_neg (by rw [show (decide ((0:Int)<((0:Nat):Int)))=false from c0];decide),?_⟩;have x0:x.length=0:=by omega
    refine ⟨sz _ (by rw [l_0];omega),sz _ (by rw [Str.length_append,l_0];omega),_,_,_,_,rfl,rfl,?_,by rw [Str.length_append,Str.length_append,l_0];omega⟩;rw [et,nF,nF];exact zdC jn okk (g:=Str.empty.cps.toList) (fun k hk=>nomatch hk) (.inr (.inr (.inr (zgR x0))))
   .have c1:decide ((0:Int)<(i:Int))=true:=decide_eq_true (by omega);refine .inl ⟨if_pos c1,?_⟩;refine ⟨sz _ (by omega),sz _ (by rw [Str.length_append];omega),_,_,_,_,rfl,rfl,?_,by rw [Str.length_append,Str.length_append];omega⟩;rw [et,nF,nF];refine zdC jn okk gg ?_;rcases hc with hc|hc|hc|hc
    .exact absurd hc h0
    .exact .inl hc
    .exact .inr (.inl hc)
    .exact .inr (.inr (.inl hc))
  refine yV ?_
  ((try dsimp only [zO,zT,zL,zH,zC,yX,yW,zN,zV,zM,zW,zY,zS,zP,zI,zK,yY,zJ,gZ,gS,tZ,tS]);try simp only [yM,sP])
  by_cases h0:i=0
  .have c0:decide ((0:Int)<(i:Int))=false:=decide_eq_false (by omega);simp only [c0,zzB,if_false];exact fin g gg g3 (.inl h0)
  .have c1:decide ((0:Int)<(i:Int))=true:=decide_eq_true (by omega);simp only [c1,if_true,yO,zkR]
   by_cases hge:g.cps.toList=[]
   .simp only [decide_eq_true hge,if_true,pT,in_b okk]
    cases hb:isB k with
    |true =>
     simp only [Bool.not_true,zzB,if_false];exact fin g gg g3 (.inr (.inr (.inl hb)))
    |false =>
     simp only [Bool.not_false,if_true];have hi1:i-1<tk.length:=by omega
     have hk1:tk[i-1]?=some tk[i-1]:=List.getElem?_eq_getElem hi1;generalize tk[i-1]=k1 at hk1
     have e5:sE (xM tk) ((i:Int)-1)=some (.str k1.s):=by
      unfold sE dG;have hl2:(xM tk).length=tk.length:=by simp [xM]
      rw [if_pos (by omega),if_pos (by rw [hl2];omega)];show (xM tk)[((i:Int)-1).toNat]?=_;rw [show ((i:Int)-1).toNat=i-1 by omega];simp [xM,hk1]
     simp only [jY];refine ixL (kE gp) ?_;rw [e5];simp only [pT,in_b (hk k1 (List.mem_of_getElem? hk1))]
     cases hb1:isB k1 with
     |true =>
      simp only [Bool.not_true,zzB,if_false];refine fin g gg g3 (.inr (.inr (.inr ⟨k1,?_,hb1⟩)));have:=getl hk1
      rwa [show i-1+1=i by omega] at this
     |false =>
      simp only [Bool.not_false,if_true];refine yV ?_
      (try dsimp only [zO,zT,zL,zH,zC,yX,yW,zN,zV,zM,zW,zY,zS,zP,zI,zK,yY,zJ,gZ,gS,tZ,tS])
      exact fin " " zkB (by decide +kernel) (.inr (.inl (by decide +kernel)))
   .simp only [decide_eq_false hge,zzB,if_false];exact fin g gg g3 (.inr (.inl hge))
 .rintro σ G' ⟨x,v3,v4,v5,rfl,rfl,jn,xl⟩;have hlen:(enW 0 (xM tk)).length=tk.length:=by simp [enW,xM]
  rw [hlen] at jn xl;rw [List.take_length] at jn;refine yV ?_
  (try dsimp only [zO,zT,zL,zH,zC,yX,yW,zN,zV,zM,zW,zY,zS,zP,zI,zK,yY,zJ,gZ,gS,tZ,tS])
  exact h x G jn xl zR.refl
end
section
variable {K : yJ} {sA nA : Addr}
theorem zgb {Γ:Ctx3} {G:Hw} {r:Addr} {tk:List Tk} {a0 a1 a2 a3 a5 a6 a7:Option W} {D:End3} (gr:G r=some (.lst (xM tk))) (hl:tk.length<=300) (h:∀ p G',zR [] G G'->G p=none->G' p=some (.lst (xM (.lp::(tk++[.rp]))))->D.nx [a0,a1,a2,a3,some (.ref p),a5,a6,a7] G') :
  zO Γ XN (.asg 4 (.bin .Add (.bin .Add (.lst (.cons (.con (.str "(")) .nil)) (.var 4)) (.lst (.cons (.con (.str ")")) .nil)))) D [a0,a1,a2,a3,some (.ref r),a5,a6,a7] G:=by
 have z1:=sz 1 (by decide)
 ((try dsimp only [zO,zT,zL,zH,zC,yX,yW,zN,zV,zM,zW,zY,zS,zP,zI,zK,yY,zJ,gZ,gS,tZ,tS]);try simp only [zzC,zzL,zzA,Nat.reduceAdd,z1,true_and])
 intro p1 hp1;refine bQ zX (nV hp1 gr) (by simp [xM];omega) fun p2 hp2=>?_;intro p3 hp3;refine bQ (nV hp3 zX) zX (by simp [xM];omega) fun p4 hp4=>?_;have kk:=((zR.new (S:=[]) (o:=.lst [.str "("]) hp1).trans (zR.new hp2)).trans (zR.new (o:=.lst [.str ")"]) hp3);refine h p4 _ (kk.trans (zR.new hp4)) (kk.none (by simp) hp4) ?_;rw [zX];simp [xM,Tk.s]
theorem cM (K:yJ) (sA nA:Addr) (f:Fn3) {D:End3} {σ:jE} {G:Hw} (h:D.nx σ G):zG (jK K sA nA 30 f) XN .nil D σ G:=h
theorem ziB {k:Nat} {f:Fn3} {t:Sy} {d l e:Addr} {v:Int} {G:Hw} {Q:Q3} (v6:v<=6) (ts:t.size<=20) (he:e∉[d,l]) (D:wL G d l) (ge0:G e=some (.lst [.int v]))
  (h:∀ (b:Bool) (tk:List Tk) (r:Addr) (u:Int) G',Tn t b tk->(b=false->¬ bd t<k)->(tk.length:Int)+2 * u<=3 * t.size+2 * v->0<=u->u<=v->G r=none->G' r=some (.lst (xM tk))->zR [d,l,e] G G'->wL G' d l->G' e=some (.lst [.int u])->Q (.ref r) G')
  {G1:Hw} {tk:List Tk} {r:Addr} {u:Int} {a6 a7:Option W} (tn:Tn t false tk) (hl:(tk.length:Int)+2 * u+2<=3 * t.size+2 * v) (u0:0<=u) (uv:u<=v) (hr:G r=none) (gr:G1 r=some (.lst (xM tk))) (k1:zR [d,l,e] G G1) (D1:wL G1 d l) (ge:G1 e=some (.lst [.int u])) :
  zG (jK K sA nA 30 f) XN (uK (uK (uK yF))) { nx:=fun _ G'=>Q .non G',rt:=Q } [some (.ref d),some t.w,some (.int ((k:Int)-1)),some (.ref e),some (.ref r),some (.int ((bd t:Int)-1)),a6,a7] G1:=by
 have e6:(jK K sA nA 30 f).fn[6]?=some zdZ:=rfl;simp only [yF,uK]
 have sub:∀ {A B:Hw},zR [d,l] A B->zR [d,l,e] A B:=fun k a u ha x=>k a u (fun z=>ha (by
  simp only [List.mem_cons,List.not_mem_nil,or_false] at z ⊢;rcases z with z|z
  .exact .inl z
  .exact .inr (.inl z))) x
 have two:∀ (b:Bool) (tk:List Tk) (r:Addr) G2,Tn t b tk->(b=false->¬ bd t<k)->(tk.length:Int)+2 * u<=3 * t.size+2 * v->G r=none->G2 r=some (.lst (xM tk))->zR [d,l,e] G G2->wL G2 d l->G2 e=some (.lst [.int u]) ->
   zG (jK K sA nA 30 f) XN (uK (uK (uK (uK yF)))) { nx:=fun _ G'=>Q .non G',rt:=Q } [some (.ref d),some t.w,some (.int ((k:Int)-1)),some (.ref e),some (.ref r),some (.int ((bd t:Int)-1)),a6,a7] G2:=by
  intro b tk r G2 tn hb hl hr gr k2 D2 ge;have rd:=rY D hr;have re:r≠e:=Ne.symm (jP ge0 hr);simp only [yF,uK];refine yV ?_
  (try dsimp only [zO,zT,zL,zH,zC,yX,yW,zN,zV,zM,zW,zY,zS,zP,zI,zK,yY,zJ,gZ,gS,tZ,tS])
  refine ixL (kE ge) ?_;rw [qS]
  ((try dsimp only [zO,zT,zL,zH,zC,yX,yW,zN,zV,zM,zW,zY,zS,zP,zI,zK,yY,zJ,gZ,gS,tZ,tS]);try simp only [yM,sP])
  by_cases hu:0<u
  .rw [if_pos (by simpa using hu)];simp only [e6];refine ⟨d,l,3,rfl,D2,by decide,fun m G3 m0 m1 k3 D3=>?_⟩;have gr3:=k3 _ _ rd gr;have ge3:=k3 _ _ he ge;simp only [uW]
   by_cases hm:m=0
   .rw [decide_eq_true hm,if_pos rfl];refine yV ?_
    (try dsimp only [zO,zT,zL,zH,zC,yX,yW,zN,zV,zM,zW,zY,zS,zP,zI,zK,yY,zJ,gZ,gS,tZ,tS])
    refine ixL (kE ge3) ?_;rw [qS];simp only [jY,setR,ge3];have e0:dG [W.int u].length 0=some 0:=by simp [dG]
    rw [e0];refine yV ?_;have gr4:(put G3 e (.lst [.int (u-1)])) r=some (.lst (xM tk)):=by rw [yH re];exact gr3
    have ge4:(put G3 e (.lst [.int (u-1)])) e=some (.lst [.int (u-1)]):=zX;have D4:=pJ (o:=.lst [.int (u-1)]) he D3;have k4:zR [d,l,e] G (put G3 e (.lst [.int (u-1)])):=(k2.trans (sub k3)).trans (zR.put (by simp));refine zgb gr4 (by omega) fun p G5 k5 hp gp=>?_;refine cM K sA nA f (yV ?_)
    (try dsimp only [zO,zT,zL,zH,zC,yX,yW,zN,zV,zM,zW,zY,zS,zP,zI,zK,yY,zJ,gZ,gS,tZ,tS])
    exact h true _ p (u-1) G5 (.par tn) (fun z=>nomatch z) (by simp only [List.length_cons,zzW,List.length_nil];omega) (by omega) (by omega) (k4.none (by
     have:=jP ge4 hp;obtain ⟨_,_,_,DD⟩:=D4;have h1:=jP DD.dic hp;have h2:=jP DD.lst hp;simp only [List.mem_cons,List.not_mem_nil,or_false,not_or];exact ⟨Ne.symm h1,Ne.symm h2,Ne.symm this⟩) hp) gp (k4.trans (zcn k5)) (sF k5 D4) (k0 k5 ge4)
   .rw [decide_eq_false hm,if_neg zzN];refine cM K sA nA f (yV ?_)
    (try dsimp only [zO,zT,zL,zH,zC,yX,yW,zN,zV,zM,zW,zY,zS,zP,zI,zK,yY,zJ,gZ,gS,tZ,tS])
    exact h b tk r u G3 tn hb hl u0 uv hr gr3 (k2.trans (sub k3)) D3 ge3
  .rw [if_neg (by simpa using hu),if_neg zzN];refine cM K sA nA f (yV ?_)
   (try dsimp only [zO,zT,zL,zH,zC,yX,yW,zN,zV,zM,zW,zY,zS,zP,zI,zK,yY,zJ,gZ,gS,tZ,tS])
   exact h b tk r u G2 tn hb hl u0 uv hr gr k2 D2 ge
 simp only [yF,uK] at two;refine yV ?_
 ((try dsimp only [zO,zT,zL,zH,zC,yX,yW,zN,zV,zM,zW,zY,zS,zP,zI,zK,yY,zJ,gZ,gS,tZ,tS]);try simp only [yM,sP])
 have c:decide ((bd t:Int)-1<(k:Int)-1)=decide (bd t<k):=decide_eq_decide.mpr (by omega)
 by_cases hb:bd t<k
 .rw [if_pos (c.trans (decide_eq_true hb))];refine yV ?_;refine zgb gr (by omega) fun p G2 k2 hp gp=>?_;refine cM K sA nA f ?_
  exact two true _ p G2 (.par tn) (fun z=>nomatch z) (by simp only [List.length_cons,zzW,List.length_nil];omega) (k1.none (by
   have:=jP ge hp;obtain ⟨_,_,_,DD⟩:=D1;have h1:=jP DD.dic hp;have h2:=jP DD.lst hp;simp only [List.mem_cons,List.not_mem_nil,or_false,not_or];exact ⟨Ne.symm h1,Ne.symm h2,Ne.symm this⟩) hp) gp (k1.trans (zcn k2)) (sF k2 D1) (k0 k2 ge)
 .rw [if_neg (fun z=>hb (of_decide_eq_true (c.symm.trans z)))];refine cM K sA nA f ?_;exact two false tk r G1 tn (fun _=>hb) (by omega) hr gr k1 D1 ge
end
theorem fr3 {G:Hw} {d l e r:Addr} {o:O} (D:wL G d l) (ge:G e=some o) (hr:G r=none):r∉[d,l,e]:=by
 have h:=rY D hr;have h2:=jP ge hr;simp only [List.mem_cons,List.not_mem_nil,or_false,not_or] at h ⊢;exact ⟨h.1,h.2,Ne.symm h2⟩
theorem lA_is (k:Nat) (a c:Sy):(bd (.two k a c):Int)-1+(if ((kw k:Str) == "if")=true then 1 else 0)=(lA k:Int)-1:=by
 rw [zfi]
 match k with
 | 0=>rfl
 | 1=>rfl
 |k+2=>rw [if_pos (by simp)];rfl
theorem lB_is (k:Nat) (a c:Sy):(bd (.two k a c):Int)-1+(if (!((kw k:Str) == "if"))=true then 1 else 0)=(lB k:Int)-1:=by
 rw [zfi]
 match k with
 | 0=>rfl
 | 1=>rfl
 |k+2=>rw [if_neg (by simp)];rfl
theorem jw_at (k:Nat):sE [W.str (kw k),.str "then"] (if ((kw k:Str) == "if")=true then 1 else 0)=some (.str (jw k)):=by
 rw [zfi]
 match k with
 | 0=>rfl
 | 1=>rfl
 |k+2=>rw [if_pos (by simp)];rfl
section
variable {K : yJ} {sA nA : Addr}
theorem zaT {n:Nat} {ws:List W} {G:Hw} {Q:Q3} (h:sQ (n+1) ws G Q XN):zG (jK K sA nA 30 ⟨"_law_wrapped", sQ n⟩) XN yF { nx:=fun _ G'=>Q .non G',rt:=Q } (yT kF ws) G:=by
 obtain ⟨d,l,e,t,k,v,rfl,D,he,ge,v0,v6,ok,ts,td,h⟩:=h;have e15:(jK K sA nA 30 ⟨"_law_wrapped", sQ n⟩).fn[15]?=some ⟨"_law_binds", sY⟩:=rfl;have e29:(jK K sA nA 30 ⟨"_law_wrapped", sQ n⟩).fn[29]?=some eInt:=rfl;have e30:(jK K sA nA 30 ⟨"_law_wrapped", sQ n⟩).fn[30]?=some ⟨"_law_wrapped", sQ n⟩:=rfl;have z1:=sz 1 (by decide);have z2:=sz 2 (by decide);have we:=fun {G1:Hw} {tk:List Tk} {r:Addr} {u:Int} {a6 a7:Option W}=>ziB (K:=K) (sA:=sA) (nA:=nA) (f:=⟨"_law_wrapped", sQ n⟩) v6 ts he D ge h (G1:=G1) (tk:=tk) (r:=r) (u:=u) (a6:=a6) (a7:=a7);show zG (jK K sA nA 30 ⟨"_law_wrapped", sQ n⟩) XN yF { nx:=fun _ G'=>Q .non G',rt:=Q } [some (.ref d),some t.w,some (.int ((k:Int)-1)),some (.ref e),none,none,none,none] G;simp only [yF,uK] at we ⊢;refine yV ?_
 cases t with
 |say x =>
  ((try dsimp only [zO,zT,zL,zH,zC,yX,yW,zN,zV,zM,zW,zY,zS,zP,zI,zK,yY,zJ,gZ,gS,tZ,tS]);try simp only [Sy.w,qU,cQ,zzC,zzL,zzA,Nat.reduceAdd,z1,true_and])
  intro p hp;refine yV ?_
  ((try dsimp only [zO,zT,zL,zH,zC,yX,yW,zN,zV,zM,zW,zY,zS,zP,zI,zK,yY,zJ,gZ,gS,tZ,tS]);try simp only [e15])
  refine ⟨.say x,rfl,fun G1 k1=>?_⟩;have e1:(("say" : Str) == "not")=false:=by decide +kernel
  refine yV ?_
  ((try dsimp only [zO,zT,zL,zH,zC,yX,yW,zN,zV,zM,zW,zY,zS,zP,zI,zK,yY,zJ,gZ,gS,tZ,tS]);try simp only [qU,qS,yM,yO,e1,zzB,if_false])
  refine yV ?_
  ((try dsimp only [zO,zT,zL,zH,zC,yX,yW,zN,zV,zM,zW,zY,zS,zP,zI,zK,yY,zJ,gZ,gS,tZ,tS]);try simp only [qU,qS,yM,yO,beq_self_eq_true,Bool.not_true,zzB,if_false])
  have kk:zR [] G G1:=(zR.new hp).trans k1;refine cM K sA nA ⟨"_law_wrapped", sQ n⟩ (cM K sA nA ⟨"_law_wrapped", sQ n⟩ ?_);exact we (tk:=[.nm x]) .say (by show ((1:Nat):Int)+2 * v+2<=3 * ((1:Nat):Int)+2 * v;omega) v0 (Int.le_refl _) hp (k0 k1 zX) (zcn kk) (sF kk D) (k0 kk ge)
 |neg a =>
  have ts:a.size+1<=20:=ts;have td:a.deep+1<n+1:=td
  ((try dsimp only [zO,zT,zL,zH,zC,yX,yW,zN,zV,zM,zW,zY,zS,zP,zI,zK,yY,zJ,gZ,gS,tZ,tS]);try simp only [Sy.w,qU,cQ,zzC,zzL,zzA,Nat.reduceAdd,z1,true_and])
  intro p hp;refine yV ?_
  ((try dsimp only [zO,zT,zL,zH,zC,yX,yW,zN,zV,zM,zW,zY,zS,zP,zI,zK,yY,zJ,gZ,gS,tZ,tS]);try simp only [e15])
  refine ⟨.neg a,rfl,fun G1 k1=>?_⟩;have kk:zR [] G G1:=(zR.new hp).trans k1;refine yV ?_
  ((try dsimp only [zO,zT,zL,zH,zC,yX,yW,zN,zV,zM,zW,zY,zS,zP,zI,zK,yY,zJ,gZ,gS,tZ,tS]);try simp only [qU,qS,yM,yO,beq_self_eq_true,if_true])
  refine yV ?_
  ((try dsimp only [zO,zT,zL,zH,zC,yX,yW,zN,zV,zM,zW,zY,zS,zP,zI,zK,yY,zJ,gZ,gS,tZ,tS]);try simp only [e30,qU,cQ,zzC,zzL,zzA,Nat.reduceAdd,z1,true_and])
  intro q hq;have k2:zR [] G (put G1 q (.lst [.str "not"])):=kk.trans (zR.new hq);refine ⟨d,l,e,a,4,v,rfl,sF k2 D,he,k0 k2 ge,v0,v6,ok,by omega,by omega,fun b tk r u G3 tn hb hl u0 uv hr gr k3 D3 g3=>?_⟩;have gq:G3 q=some (.lst [.str "not"]):=k3 _ _ (fr3 (sF kk D) (k0 kk ge) hq) zX;refine bQ gq gr (by simp [xM];omega) fun r2 hr2=>?_;have k4:zR [d,l,e] G G3:=(zcn k2).trans k3;refine cM K sA nA ⟨"_law_wrapped", sQ n⟩ ?_;refine we (tk:=.nt::tk) (.neg tn hb) (by show ((tk.length+1:Nat):Int)+2 * u+2<=3 * ((a.size+1:Nat):Int)+2 * v;omega) u0 uv (k4.none (fr3 D3 g3 hr2) hr2) ?_ (k4.trans (zR.new hr2)) (qT hr2 D3) (nV hr2 g3);rw [zX];rfl
 |two j a c =>
  have ts:a.size+c.size+1<=20:=ts;have td:max a.deep c.deep+1<n+1:=td
  ((try dsimp only [zO,zT,zL,zH,zC,yX,yW,zN,zV,zM,zW,zY,zS,zP,zI,zK,yY,zJ,gZ,gS,tZ,tS]);try simp only [Sy.w,qU,cQ,zzC,zzL,zzA,Nat.reduceAdd,z1,true_and])
  intro p hp;refine yV ?_
  ((try dsimp only [zO,zT,zL,zH,zC,yX,yW,zN,zV,zM,zW,zY,zS,zP,zI,zK,yY,zJ,gZ,gS,tZ,tS]);try simp only [e15])
  refine ⟨.two j a c,rfl,fun G1 k1=>?_⟩;have kk:zR [] G G1:=(zR.new hp).trans k1;refine yV ?_
  ((try dsimp only [zO,zT,zL,zH,zC,yX,yW,zN,zV,zM,zW,zY,zS,zP,zI,zK,yY,zJ,gZ,gS,tZ,tS]);try simp only [qU,qS,yM,yO,(nK j).2.2.1,zzB,if_false])
  refine yV ?_
  ((try dsimp only [zO,zT,zL,zH,zC,yX,yW,zN,zV,zM,zW,zY,zS,zP,zI,zK,yY,zJ,gZ,gS,tZ,tS]);try simp only [qU,qS,yM,yO,(nK j).1,Bool.not_false,if_true])
  refine yV ?_
  ((try dsimp only [zO,zT,zL,zH,zC,yX,yW,zN,zV,zM,zW,zY,zS,zP,zI,zK,yY,zJ,gZ,gS,tZ,tS]);try simp only [e30,e29,qU,qS,cQ,yM,yO,intS,jY,lA_is])
  refine ⟨d,l,e,a,lA j,v,rfl,sF kk D,he,k0 kk ge,v0,v6,ok.1,by omega,by omega,fun b1 tk1 r1 u1 G3 tn1 hb1 hl1 u10 u1v hr1 gr1 k3 D3 g3=>?_⟩;refine yV ?_
  ((try dsimp only [zO,zT,zL,zH,zC,yX,yW,zN,zV,zM,zW,zY,zS,zP,zI,zK,yY,zJ,gZ,gS,tZ,tS]);try simp only [e30,e29,qU,qS,at_2,yM,yO,intS,jY,lB_is])
  have u16:u1<=6:=by omega
  refine ⟨d,l,e,c,lB j,u1,rfl,D3,he,g3,u10,u16,ok.2,by omega,by omega,fun b2 tk2 r2 u2 G4 tn2 hb2 hl2 u20 u2v hr2 gr2 k4 D4 g4=>?_⟩;have gr1':=k4 _ _ (fr3 (sF kk D) (k0 kk ge) hr1) gr1;have k5:zR [d,l,e] G G4:=((zcn kk).trans k3).trans k4;refine yV ?_
  ((try dsimp only [zO,zT,zL,zH,zC,yX,yW,zN,zV,zM,zW,zY,zS,zP,zI,zK,yY,zJ,gZ,gS,tZ,tS]);try simp only [e29,qU,qS,yM,yO,intS,zzC,zzL,zzA,Nat.reduceAdd,z1,z2,true_and])
  intro q1 hq1;rw [zX];simp only [jw_at];intro q2 hq2;have n1:zR [] G4 (put (put G4 q1 (.lst [.str (kw j),.str "then"])) q2 (.lst [.str (jw j)])):=(zR.new hq1).trans (zR.new hq2);refine bQ (k0 n1 gr1') zX (by simp [xM];omega) fun q3 hq3=>?_;have n2:=n1.trans (zR.new (o:=.lst (xM tk1++[.str (jw j)])) hq3);refine bQ zX (k0 n2 gr2) (by simp [xM];omega) fun q4 hq4=>?_;have k6:zR [d,l,e] G _:=k5.trans (zcn n2);refine cM K sA nA ⟨"_law_wrapped", sQ n⟩ (cM K sA nA ⟨"_law_wrapped", sQ n⟩ ?_)
  refine we (tk:=tk1++.op j::tk2) (.two tn1 hb1 tn2 hb2) (by
   show (((tk1++.op j::tk2).length:Nat):Int)+2 * u2+2<=3 * ((a.size+c.size+1:Nat):Int)+2 * v;rw [zzW,List.length_cons];omega) u20 (by omega) (k6.none (fr3 (sF n2 D4) (k0 n2 g4) hq4) hq4) ?_ (k6.trans (zR.new hq4)) (qT hq4 (sF n2 D4)) (nV hq4 (k0 n2 g4))
  rw [zX];simp [xM,Tk.s]
end
structure Fc (G:Hw) (d l:Addr) (fs:List (Addr×O)):Prop where
 dl:wL G d l
 ob:∀ f∈fs,G f.1=some f.2/\f.1∉[d,l]
section
variable {G G' : Hw} {d l : Addr} {fs : List (Addr × O)}
theorem Fc.draw (F:Fc G d l fs) (k:zR [d,l] G G') (D:wL G' d l):Fc G' d l fs:=⟨D,fun f hf=>⟨k _ _ (F.ob f hf).2 (F.ob f hf).1,(F.ob f hf).2⟩⟩
theorem Fc.keep (F:Fc G d l fs) (k:zR [] G G'):Fc G' d l fs:=⟨sF k F.dl,fun f hf=>⟨k0 k (F.ob f hf).1,(F.ob f hf).2⟩⟩
theorem Fc.new {p:Addr} {o:O} (F:Fc G d l fs) (h:G p=none):Fc (put G p o) d l ((p,o)::fs):=⟨qT h F.dl,fun f hf=>by
 rcases List.mem_cons.mp hf with rfl|hf
 .exact ⟨zX,rY F.dl h⟩
 .exact ⟨nV h (F.ob f hf).1,(F.ob f hf).2⟩⟩
theorem Fc.chg {p:Addr} {o o':O} (F:Fc G d l ((p,o)::fs)) (ne:∀ f∈fs,f.1≠p):Fc (put G p o') d l ((p,o')::fs):=⟨pJ (F.ob _ zzT).2 F.dl,fun f hf=>by
 rcases List.mem_cons.mp hf with rfl|hf
 .exact ⟨zX,(F.ob _ zzT).2⟩
 .rw [yH (ne f hf)];exact F.ob f (List.mem_cons_of_mem _ hf)⟩
theorem Fc.sub {gs:List (Addr×O)} (F:Fc G d l fs) (h:∀ f∈gs,f∈fs):Fc G d l gs:=⟨F.dl,fun f hf=>F.ob f (h f hf)⟩
theorem Fc.at {p:Addr} {o:O} (F:Fc G d l fs) (h:(p,o)∈fs):G p=some o:=(F.ob _ h).1
theorem getI {lits:List Str} {r:Int} (h0:0<=r) (h1:r<lits.length):∃ x∈lits,sE (lits.map W.str) r=some (.str x):=by
 have hi:r.toNat<lits.length:=by omega
 refine ⟨lits[r.toNat],List.getElem_mem hi,?_⟩;unfold sE dG;rw [if_pos h0,zzM,if_pos h1];simp [hi]
theorem pickV {lits:List Str} {r:Addr} {m:Int} {Q:Q3} (F:Fc G d l fs) (hr:(r,O.lst (lits.map .str))∈fs) (hm:m=lits.length) (h0:0<m) (h9:m<10) (q:∀ x∈lits,∀ G',Fc G' d l fs->Q (.str x) G') :
  gA [.ref d,.int m] G (fun y G2=>qU (.ref r) y G2 Q) XN:=by
 refine ⟨d,l,m,rfl,F.dl,by omega,fun i G2 i0 i1 k D=>?_⟩;have F2:=F.draw k D;obtain ⟨x,hx,e⟩:=getI (lits:=lits) i0 (by omega);refine ixL (kE (F2.at hr)) ?_;rw [e];exact q x hx G2 F2
theorem ze2 {lits:List Str} {m:Int} {Q:Q3} (F:Fc G d l fs) (hm:m=lits.length) (h0:0<m) (h9:m<10) (q:∀ x∈lits,∀ G',Fc G' d l fs->Q (.str x) G') :
  (lits.map W.str).length<=sizeLine/\∀ r,G r=none->gA [.ref d,.int m] (put G r (.lst (lits.map .str))) (fun y G2=>qU (.ref r) y G2 Q) XN :=
 ⟨sz _ (by rw [zzM];omega),fun r hr=>pickV (F.new hr) zzT hm h0 h9 fun x hx G' F'=>q x hx G' (F'.sub fun f hf=>List.mem_cons_of_mem _ hf)⟩
end
theorem Sy.eqr:∀ t:Sy,jM t.w t.w=true
 | .say _=>by simp [Sy.w,jM,vU]
 | .neg a=>by simp [Sy.w,jM,vU,Sy.eqr a]
 | .two _ a b=>by simp [Sy.w,jM,vU,Sy.eqr a,Sy.eqr b]
theorem zgs {G:Hw} {t:Sy} (h:t.size<=40):eqG G t.w t.w=some true:=by
 have:=t.dep;have hd:min (dep t.w) (dep t.w)<=150:=by rw [Nat.min_self];omega
 have hp:=t.pur;have he:=t.eqr;obtain ⟨l,e⟩:∃ l,t.w=.tup l:=by cases t<;>exact ⟨_,rfl⟩
 rw [e] at hp he hd ⊢;show (if (L3.pur (.tup l)&&L3.pur (.tup l)&&decide (min (dep (.tup l)) (dep (.tup l))<=150))=true then some (jM (.tup l) (.tup l)) else none)=some true;rw [hp,he,decide_eq_true hd];rfl
abbrev zj2:List Str:=["nota", "orb", "band", "theny", "anot", "andor", "thenor", "notnot"]
abbrev zj3:List Str:=["", " ", "  ", "\n", " \n "]
abbrev zj4:List Str:=["", " ", "\n", "  \n"]
abbrev zj5:List Str:=["", " ", "\n\n"]
instance (l:List Nat):Decidable (isG l):=by unfold isG;infer_instance
theorem l5:∀ g∈zj3,isG g.cps.toList/\g.length<=3:=by decide +kernel
theorem l4:∀ g∈zj4,isG g.cps.toList/\g.length<=3:=by decide +kernel
theorem l3:∀ g∈zj5,isG g.cps.toList/\g.length<=3:=by decide +kernel
section
variable {K : yJ} {sA nA : Addr}
theorem zhB {n:Nat} (hn:32<=n) {a:W} {ns:List Int} {G:Hw} {Q:Q3} {nx:jE->Hw->Prop} (hs:zcF G a ns) (hl:ns.length<=63) (hq:∀ G',Q (.bl true) G') :
  zG (yP K sA nA n) XN blaw { nx:=nx,rt:=Q } [some a,none,none,none,none,none,none,none,none] G:=by
 have e5:(yP K sA nA n).fn[5]?=some zkT:=sM 5 hn rfl;have e6:(yP K sA nA n).fn[6]?=some zdZ:=sM 6 hn rfl;have e7:(yP K sA nA n).fn[7]?=some ⟨"_law_names", gR⟩:=sM 7 hn rfl;have e8:(yP K sA nA n).fn[8]?=some ⟨"_law_large", wW 21⟩:=sM 8 hn rfl;have e14:(yP K sA nA n).fn[14]?=some ⟨"show_saying", zbB⟩:=sM 14 hn rfl;have e18:(yP K sA nA n).fn[18]?=some ⟨"_law_shown", gU⟩:=sM 18 hn rfl;have e28:(yP K sA nA n).fn[28]?=some ⟨"read_saying", spRS⟩:=sM 28 hn rfl;have e30:(yP K sA nA n).fn[30]?=some ⟨"_law_wrapped", sQ 11⟩:=sM 30 hn rfl;have e31:(yP K sA nA n).fn[31]?=some ⟨"_law_joined", spJo⟩:=sM 31 hn rfl;have t2:(yP K sA nA n).mt[2]?=some dA:=rfl;have i0:(yP K sA nA n).it[0]?=some eRng:=rfl;have z1:=sz 1 (by decide);simp only [blaw];refine yV ?_
 ((try dsimp only [zO,zT,zL,zH,zC,yX,yW,zN,zV,zM,zW,zY,zS,zP,zI,zK,yY,zJ,gZ,gS,tZ,tS]);try simp only [e5])
 refine ⟨a,0,ns,rfl,hs,hl,by decide,fun d l G1 _ _ _ D1=>?_⟩;refine yV ?_
 ((try dsimp only [zO,zT,zL,zH,zC,yX,yW,zN,zV,zM,zW,zY,zS,zP,zI,zK,yY,zJ,gZ,gS,tZ,tS]);try simp only [e6,e7,jY])
 refine ⟨d,l,4,rfl,D1,by decide,fun j G2 j0 j4 k2 D2=>?_⟩;refine ⟨d,l,1+j,rfl,D2,by omega,by omega,fun r xs G3 hne hxl hxs hr gr k3 D3=>?_⟩
 have rest:∀ (G4:Hw) (ys:List Str),ys≠[]->ys.length<=5->(∀ x∈ys,gP x=true)->G4 r=some (.lst (ys.map .str))->wL G4 d l ->
   zG (yP K sA nA n) XN (uK (uK (uK blaw))) { nx:=nx,rt:=Q } [some a,some (.ref d),some (.ref r),none,none,none,none,none,none] G4:=by
  intro G4 ys yne yl yok g4 D4;simp only [blaw,uK];refine yV ?_
  ((try dsimp only [zO,zT,zL,zH,zC,yX,yW,zN,zV,zM,zW,zY,zS,zP,zI,zK,yY,zJ,gZ,gS,tZ,tS]);try simp only [e6,e8,jY])
  refine ⟨d,l,20,rfl,D4,by decide,fun m G5 m0 m1 k5 D5=>?_⟩;refine ⟨d,l,r,1+m,10,ys,rfl,D5,hr,k5 _ _ hr g4,yne,yl,yok,by omega,by omega,by decide,by decide,fun t G6 ok ts td k6 D6=>?_⟩;have ts:t.size<=20:=by omega
  have td:t.deep<11:=by omega
  refine yV ?_
  ((try dsimp only [zO,zT,zL,zH,zC,yX,yW,zN,zV,zM,zW,zY,zS,zP,zI,zK,yY,zJ,gZ,gS,tZ,tS]);try simp only [e6,e30,zzC,zzL,zzA,Nat.reduceAdd,z1,true_and])
  refine ⟨d,l,7,rfl,D6,by decide,fun v G7 v0 v7 k7 D7=>?_⟩;intro e he;refine ⟨d,l,e,t,1,v,rfl,qT he D7,rY D7 he,zX,v0,by omega,ok,ts,td,fun b tk w u G8 tn _ hl8 u0 uv hw gw k8 D8 _=>?_⟩;have wd:=rY (qT (o:=.lst [.int v]) he D7) hw;have F8:Fc G8 d l [(w,.lst (xM tk))]:=⟨D8,fun f hf=>by rw [zzO hf];exact ⟨gw,wd⟩⟩;have tkl:tk.length<=72:=by omega
  have okk:=ziL tn ok
  clear gw k8 D8 hw
  refine yV ?_
  ((try dsimp only [zO,zT,zL,zH,zC,yX,yW,zN,zV,zM,zW,zY,zS,zP,zI,zK,yY,zJ,gZ,gS,tZ,tS]);try simp only [e6,zS,zP,i0])
  refine ⟨⟨by decide,by decide⟩,?_⟩;refine ⟨fun i acc G'=>∃ gs:List Str,acc=gs.map .str/\gs.length=i/\(∀ g∈gs,isG g.cps.toList/\g.length<=3)/\Fc G' d l [(w,.lst (xM tk))],⟨[],rfl,rfl,by simp,F8⟩,?_,sz _ (by decide),?_,?_⟩
  .rintro i acc G' ⟨gs,rfl,rfl,_,_⟩ _;exact ⟨trivial,by simp⟩
  .rintro i x acc G' hx ⟨gs,rfl,hl',hg,F⟩;simp only [capS,List.length_cons,List.length_nil,List.replicate,zzU,zzV,List.cons_append,List.nil_append,List.append_nil]
   ((try dsimp only [zO,zT,zL,zH,zC,yX,yW,zN,zV,zM,zW,zY,zS,zP,zI,zK,yY,zJ,gZ,gS,tZ,tS]);try simp only [Option.join_some,if_true,e6])
   refine ze2 (lits:=zj3) F rfl (by decide) (by decide) fun g hgm G5 F5=>?_;refine ⟨gs++[g],by simp,by simp [hl'],fun y hy=>?_,F5⟩;rcases List.mem_append.mp hy with hy|hy
   .exact hg y hy
   .rw [zzO hy];exact l5 g hgm
  .rintro acc G' ⟨gs,rfl,hl',hg,F⟩ q hq0;have hl':gs.length=7:=hl';have F9:=F.new (o:=.lst (gs.map .str)) hq0;generalize put G' q (.lst (gs.map .str))=G9 at F9;refine yV ?_
   ((try dsimp only [zO,zT,zL,zH,zC,yX,yW,zN,zV,zM,zW,zY,zS,zP,zI,zK,yY,zJ,gZ,gS,tZ,tS]);try simp only [e6])
   refine ze2 (lits:=zj4) F9 rfl (by decide) (by decide) fun ah ham G10 F10=>?_;have la:=l4 ah ham;refine yV ?_
   ((try dsimp only [zO,zT,zL,zH,zC,yX,yW,zN,zV,zM,zW,zY,zS,zP,zI,zK,yY,zJ,gZ,gS,tZ,tS]);try simp only [e31,e6])
   refine ⟨w,q,tk,gs,rfl,F10.at (by simp),F10.at zzT,by omega,okk,(fun z=>by rw [z] at hl';simp at hl'),by omega,hg,fun x G11 jn xl k11=>?_⟩;have F11:=F10.keep k11;refine addS (by omega) ?_;refine ze2 (lits:=zj5) F11 rfl (by decide) (by decide) fun be hbm G12 F12=>?_;have lb:=l3 be hbm;refine addS (by rw [Str.length_append];omega) ?_;have lx:(ah++x++be).length<=5000:=by rw [Str.length_append,Str.length_append];omega
   have wx:L3.wd (ex (nl (ah++x++be).cps.toList))=tk.map c:=by rw [nF,nF];exact zkk jn la.1 lb.1
   have sl:=uC t ok;have tl2:=sD t;refine yV ?_
   ((try dsimp only [zO,zT,zL,zH,zC,yX,yW,zN,zV,zM,zW,zY,zS,zP,zI,zK,yY,zJ,gZ,gS,tZ,tS]);try simp only [e28])
   refine ⟨t,b,tk,_,rfl,ok,tn,by omega,lx,wx,fun G13 k13=>?_⟩;refine yV ?_
   ((try dsimp only [zO,zT,zL,zH,zC,yX,yW,zN,zV,zM,zW,zY,zS,zP,zI,zK,yY,zJ,gZ,gS,tZ,tS]);try simp only [yM,zgs (show t.size<=40 by omega),if_true,e14])
   refine ⟨t,rfl,ok,by omega,fun G14 k14=>?_⟩;simp only [e18];refine ⟨t,rfl,ok,by omega,by omega,fun G15 k15=>?_⟩;simp only [yO,beq_self_eq_true,if_true,e14];refine ⟨t,rfl,ok,by omega,fun G16 k16=>?_⟩;simp only [e28];refine ⟨t,false,tw t,sh t,rfl,ok,tn_tw t,by omega,by omega,zi6 t ok,fun G17 k17=>?_⟩;simp only [zgs (show t.size<=40 by omega)];exact hq G17
 simp only [blaw,uK] at rest;refine yV ?_
 ((try dsimp only [zO,zT,zL,zH,zC,yX,yW,zN,zV,zM,zW,zY,zS,zP,zI,zK,yY,zJ,gZ,gS,tZ,tS]);try simp only [e6])
 refine ⟨d,l,2,rfl,D3,by decide,fun b G4 b0 b1 k4 D4=>?_⟩;have g4:=k4 _ _ hr gr;simp only [yM,uW]
 by_cases hb:b=1
 .rw [decide_eq_true hb,if_pos rfl];refine yV ?_
  ((try dsimp only [zO,zT,zL,zH,zC,yX,yW,zN,zV,zM,zW,zY,zS,zP,zI,zK,yY,zJ,gZ,gS,tZ,tS]);try simp only [t2,e6])
  have F:Fc G4 d l [(r,.lst (xs.map .str))]:=⟨D4,fun f hf=>by rw [zzO hf];exact ⟨g4,hr⟩⟩;refine ⟨tyL g4,?_⟩;refine ze2 (lits:=zj2) F rfl (by decide) (by decide) fun x hx G5 F5=>?_;have g5:=F5.at zzT;refine bR g5 (by rw [zzM];omega) ?_;refine rest _ (xs++[x]) (by simp) (by simp;omega) (fun y hy=>?_) (by rw [zX,List.map_append];rfl) (pJ hr F5.dl);rcases List.mem_append.mp hy with hy|hy
  .exact hxs y hy
  .rw [zzO hy];have:∀ z∈zj2,gP z=true:=by decide +kernel
   exact this x hx
 .rw [decide_eq_false hb,if_neg zzN];exact rest G4 xs hne (by omega) hxs g4 D4
end
structure Txt (K:yJ) (mg:Str->Option Value) (sA nA oA jA hB hL hW hR hT hM:Addr):Prop where
 deal:∃ f,mg "_law_deal" = some (.ref f)/\HD K "_law_deal" "_law_deal" jS .none f
 draw:∃ f,mg "_law_draw" = some (.ref f)/\HD K "_law_draw" "_law_draw" jT .none f
 names:∃ f,mg "_law_names" = some (.ref f)/\HD K "_law_names" "_law_names" wR .none f
 large:∃ f,mg "_law_large" = some (.ref f)/\HD K "_law_large" "_law_large" wQ .none f
 sides:∃ f,mg "sides_of" = some (.ref f)/\HD K "sides_of" "sides_of" xX .none f
 within:∃ f,mg "all_within" = some (.ref f)/\HD K "all_within" "all_within" wT .none f
 jt:∃ f,mg "joined_text" = some (.ref f)/\HD K "joined_text" "joined_text" xA .none f
 sj:∃ f,mg "show_joined" = some (.ref f)/\HD K "show_joined" "show_joined" xD .none f
 nameof:∃ f,mg "name_of" = some (.ref f)/\HD K "name_of" "name_of" xI .none f
 show_:∃ f,mg "show_saying" = some (.ref f)/\HD K "show_saying" "show_saying" xE .none f
 binds:∃ f,mg "_law_binds" = some (.ref f)/\HD K "_law_binds" "_law_binds" wP .none f
 lat:∃ f,mg "_law_at" = some (.ref f)/\HD K "_law_at" "_law_at" qV .none f
 ltw:∃ f,mg "_law_text_words" = some (.ref f)/\HD K "_law_text_words" "_law_text_words" yL .none f
 shown:∃ f,mg "_law_shown" = some (.ref f)/\HD K "_law_shown" "_law_shown" wS .none f
 put_:∃ f,mg "put_together" = some (.ref f)/\HD K "put_together" "put_together" xQ .none f
 take_:∃ f,mg "take_left" = some (.ref f)/\HD K "take_left" "take_left" jV .none f
 begin_:∃ f,mg "begin_side" = some (.ref f)/\HD K "begin_side" "begin_side" wU .none f
 go_:∃ f,mg "go_on" = some (.ref f)/\HD K "go_on" "go_on" sC .none f
 rj:∃ f,mg "read_joined" = some (.ref f)/\HD K "read_joined" "read_joined" xB .none f
 isn:∃ f,mg "is_name" = some (.ref f)/\HD K "is_name" "is_name" qA .none f
 rw_:∃ f,mg "read_word" = some (.ref f)/\HD K "read_word" "read_word" jU .none f
 wb:∃ f,mg "words_between_blanks" = some (.ref f)/\HD K "words_between_blanks" "words_between_blanks" yU .none f
 wa:∃ f,mg "words_and_brackets" = some (.ref f)/\HD K "words_and_brackets" "words_and_brackets" yQ .none f
 rs:∃ f,mg "read_saying" = some (.ref f)/\HD K "read_saying" "read_saying" xC .none f
 wrp:∃ f,mg "_law_wrapped" = some (.ref f)/\HD K "_law_wrapped" "_law_wrapped" xP .none f
 jo:∃ f,mg "_law_joined" = some (.ref f)/\HD K "_law_joined" "_law_joined" wZ .none f
 max:mg "max" = none
 len:mg "len" = none
 all:mg "all" = none
 list:mg "list" = none
 isi:mg "isinstance" = none
 range:mg "range" = none
 zip:mg "zip" = none
 rev:mg "reversed" = none
 str:mg "str" = none
 tup:mg "tuple" = none
 int:mg "int" = none
 enu:mg "enumerate" = none
 mgLo:∃ t,mg "LONGEST_NAME" = some (.int 6 t)
 mgSi:∃ t,mg "SINGLE_BINDS" = some (.int 5 t)
 mgS:mg "sides_of" = some (.ref sA)
 hdS:HD K "sides_of" "sides_of" xX .none sA
 mgO:mg "name_of" = some (.ref nA)
 hdO:HD K "name_of" "name_of" xI .none nA
 nb:nsIn K cStatics sharingNotToldKey=some none
 mgB:mg "BINDS_saywrite" = some (.ref hB)
 rpB:∀ H,xJ K H (.dcf bK bV) (.ref hB)
 mgL:mg "LEAST" = some (.ref hL)
 rpL:∀ H,xJ K H (.dcf lK lV) (.ref hL)
 mgW:mg "BETWEEN" = some (.ref hW)
 rpW:∀ H,xJ K H (.dcf wK wV) (.ref hW)
 mgR:mg "BINDS_sayread" = some (.ref hR)
 rpR:∀ H,xJ K H (.dcf rK rV) (.ref hR)
 mgT:mg "TAKES" = some (.ref hT)
 rpT:∀ H,xJ K H (.dcf tK tV) (.ref hT)
 mgM:mg "MADE" = some (.ref hM)
 rpM:∀ H,xJ K H (.dcf mK mV) (.ref hM)
 mgN:mg "NO_NAMES" = some (.ref oA)
 rpN:∀ H,xJ K H (.tup (noN.map .str)) (.ref oA)
 mgJ:mg "JOINING" = some (.ref jA)
 rpJ:∀ H,xJ K H (.tup (jL)) (.ref jA)
def rk (n:Nat):Nat:=2 * n+2+(if 9<=n then 21 else 0)+(if 17<=n then 43 else 0)+(if 31<=n then 11 else 0)
section
variable {q : Pr} {sA nA oA jA hB hL hW hR hT hM : Addr}
def Pn (q:Pr) (sA nA:Addr) (n:Nat):Prop:=∀ A,Room (rk n) A->∀ f∈(fnL q.K sA nA).take n,vQ (q.at A) f
def Gam0:Ctx3:=⟨[],[],[],[],[],[],[]⟩
def zdn:MC:=⟨zZ xX,sV,(fun _=>true),[],[],[],[],[],[]⟩
theorem zcl:qE vT zdn (zQ xX)=true:=by decide +kernel
def zgf:MC:=⟨zZ xI,rA,(fun _=>true),[],[],[],[],[],[]⟩
theorem zdp:qE tG zgf (zQ xI)=true:=by decide +kernel
theorem us1' {P:List Value->Prop} (h:∀ a,P [a]) (us:List Value) (e:us.length=1):P us:=by
 cases us with
 |nil=>cases e
 |cons a l=>cases l with
  |nil=>exact h a
  |cons b l=>cases e
theorem rG:∀ ws G (Q Q':Q3),(∀ w G',Q w G'->Q' w G')->jW ws G Q XN->jW ws G Q' XN:=fun ws G Q Q' k h=>by
 obtain ⟨t,h1,h⟩:=h;exact ⟨t,h1,k _ _ h⟩
theorem sL:∀ ws G (Q Q':Q3),(∀ w G',Q w G'->Q' w G')->jZ ws G Q XN->jZ ws G Q' XN:=fun ws G Q Q' k h=>by
 obtain ⟨t,h1,h⟩:=h;exact ⟨t,h1,k _ _ h⟩
theorem zkH {A:Around} (hr:Room 0 A):L3.Good Gam0 (q.at A):=zdJ (Γ:=Gam0) (p:=q.at A) (by have:=hr.un;show A.units+200<cLine;omega) yD yD yD yD yD yD rfl
theorem zbz (T:Txt q.K q.mg sA nA oA jA hB hL hW hR hT hM) {A:Around} (hr:Room 1 A) {y:Str}:SxE (q.at A) ⟨hcM y,hcS sA jW⟩/\jN (hcS sA jW):=by
 obtain ⟨fd,F,_⟩:=T.hdS.fd;have FO:=uU (k:=0) (sp:=jW) (M:=zdn) F fU (fun A hr=>zkH hr) ⟨rfl,rfl,rfl,rfl,rfl,rfl,rfl,rfl⟩ zcl (fun ws G Q h=>by obtain ⟨t,rfl,_⟩:=h;rfl) (fun ws G Q h=>bD h);exact ⟨ziZ FO F.kp (jG F fun _ _ _ _ _ _=>us1' fun _=>rfl) rG hr,zbX rG⟩
theorem zgQ (T:Txt q.K q.mg sA nA oA jA hB hL hW hR hT hM) {A:Around} (hr:Room 1 A) {y:Str}:SxE (q.at A) ⟨hcM y,hcS nA jZ⟩/\jN (hcS nA jZ):=by
 obtain ⟨fd,F,_⟩:=T.hdO.fd;have FO:=uU (k:=0) (sp:=jZ) (M:=zgf) F bB (fun A hr=>zkH hr) ⟨rfl,rfl,rfl,rfl,rfl,rfl,rfl,rfl⟩ zdp (fun ws G Q h=>by obtain ⟨t,rfl,_⟩:=h;rfl) (fun ws G Q h=>fG h);exact ⟨ziZ FO F.kp (jG F fun _ _ _ _ _ _=>us1' fun _=>rfl) sL hr,zbX sL⟩
theorem zhV (T:Txt q.K q.mg sA nA oA jA hB hL hW hR hT hM) {l:List Fn3} {A:Around} (hu:A.units+200<cLine) (hr1:Room 1 A) (h:∀ f∈l,vQ (q.at A) f):L3.Good (GamL sA nA l) (q.at A) :=
 zdJ (Γ:=GamL sA nA l) hu h
  (zU (wH T.mgLo.choose_spec (v:=.int 6) ⟨_,rfl⟩ fun _=>rfl) (zU (wH T.mgN (v:=.ref oA) rfl T.rpN) (zU (wH T.mgJ (v:=.ref jA) rfl T.rpJ) (zU (wH T.mgR (v:=.ref hR) rfl T.rpR) (zU (wH T.mgT (v:=.ref hT) rfl T.rpT) (zU (wH T.mgM (v:=.ref hM) rfl T.rpM) (zU (wH T.mgB (v:=.ref hB) rfl T.rpB) (zU (wH T.mgSi.choose_spec (v:=.int 5) ⟨_,rfl⟩ fun _=>rfl) (zU (wH T.mgL (v:=.ref hL) rfl T.rpL) (zU (wH T.mgW (v:=.ref hW) rfl T.rpW) (zU (zdL T.str (by decide +kernel)) (zU (zdL T.tup (by decide +kernel)) (zU (wH T.mgS (v:=.ref sA) rfl fun _=>rfl) (zU (wH T.mgO (v:=.ref nA) rfl fun _=>rfl) yD))))))))))))))
  (zU zh4 (zU zfH (zU zic (zU zib (zU (zia hu) (zU zdY yD))))))
  (zU (zh2 T.range) (zU (zh1 T.zip) (zU (zkQ T.enu) yD)))
  yD
  (zU (zh3 T.list T.rev) (zU ⟨sx_rv,zeL⟩ (zU (zbz T hr1) (zU (zbz T hr1) (zU (zgQ T hr1) (zU ⟨gF T.nb,vZ⟩ (zU ⟨gF T.nb,vZ⟩ (zU ⟨gF T.nb,vZ⟩ (zU ⟨gF T.nb,vZ⟩ (zU ⟨gF T.nb,vZ⟩ (zU ⟨zfW,zaA⟩ (zU ⟨zfW,zaA⟩ (zU ⟨zi0 (wH T.mgB (v:=.ref hB) rfl T.rpB),zdI _ _⟩ yD))))))))))))) rfl
theorem gH {k:Nat} {A:Around} (hr:Room k A):A.units+200<cLine:=by have:=hr.un;omega
theorem good (T:Txt q.K q.mg sA nA oA jA hB hL hW hR hT hM) {n:Nat} (h:Pn q sA nA n):∀ A,Room (rk n) A->L3.Good (yP q.K sA nA n) (q.at A):=fun A hr=>zhV T (gH hr) (hr.mono (by unfold rk;omega)) (h A hr)
theorem next {n:Nat} {e:Fn3} (h:Pn q sA nA n) (hk:rk n<=rk (n+1)) (he:(fnL q.K sA nA).take (n+1)=(fnL q.K sA nA).take n++[e]) (hx:∀ A,Room (rk (n+1)) A->vQ (q.at A) e):Pn q sA nA (n+1):=fun A hr=>by
 rw [he];exact tJ (h A (hr.mono hk)) (hx A hr)
theorem p5 (T:Txt q.K q.mg sA nA oA jA hB hL hW hR hT hM):Pn q sA nA 5:=fun A hr=>zU (zh5 T.max) (zU (zh7 T.len) (zU (zid T.all) (zU (zh6 T.list) (zU (zh8 T.isi) yD))))
theorem wO {n:Nat} {nm qual:Str} {st:Stmt} {f:Addr} {M:MC} {ps:List Str} {sp:vP} {body:ISs} (T:Txt q.K q.mg sA nA oA jA hB hL hW hR hT hM) (h:Pn q sA nA n) (hk:rk n+1<=rk (n+1)) (hm:q.mg nm=some (.ref f)) (hd:HD q.K nm qual st .none f) (S:FnScope M.N ps (zZ st)) (eM:MOk (yP q.K sA nA n) M (zZ st)) (look:qE body M (zQ st)=true)
  (len:∀ ws G Q,sp ws G Q XN->ws.length=ps.length) (hb:∀ ws G Q,sp ws G Q XN->zG (yP q.K sA nA n) XN body { nx:=fun _ G'=>Q .non G',rt:=Q } (yT M.N ws) G) (mono:tB ⟨nm,sp⟩)
  (hbind:∀ (kV doc pm:Value) (an:Option Addr) (cdv ct:Value) (us:List Value),us.length=ps.length->bindArgs (fnOf nm qual (yZ st) (zQ st) (zZ st) .none kV doc pm an cdv ct) ⟨us,[]⟩=pure (ps.zip us))
  (he:(fnL q.K sA nA).take (n+1)=(fnL q.K sA nA).take n++[⟨nm,sp⟩]):Pn q sA nA (n+1):=by
 obtain ⟨fd,F,_⟩:=hd.fd;have FO:=uU F S (good T h) eM look len hb;exact next h (by omega) he fun A hr=>uV FO hm F.kp (jG F hbind) mono hr hk
theorem zjV {n N:Nat} {nm qual:Str} {st:Stmt} {f:Addr} {M:MC} {ps:List Str} {sp:Nat->vP} {body:ISs} (T:Txt q.K q.mg sA nA oA jA hB hL hW hR hT hM) (h:Pn q sA nA n) (hk:rk n+N<=rk (n+1)) (hm:q.mg nm=some (.ref f)) (hd:HD q.K nm qual st .none f) (S:FnScope M.N ps (zZ st)) (eM:∀ j,MOk (jK q.K sA nA n ⟨nm,sp j⟩) M (zZ st)) (look:qE body M (zQ st)=true)
  (h0:∀ ws G Q,¬ sp 0 ws G Q XN) (len:∀ j ws G Q,sp j ws G Q XN->ws.length=ps.length) (hb:∀ j ws G Q,sp (j+1) ws G Q XN->zG (jK q.K sA nA n ⟨nm,sp j⟩) XN body { nx:=fun _ G'=>Q .non G',rt:=Q } (yT M.N ws) G) (mono:∀ j,tB ⟨nm,sp j⟩)
  (hbind:∀ (kV doc pm:Value) (an:Option Addr) (cdv ct:Value) (us:List Value),us.length=ps.length->bindArgs (fnOf nm qual (yZ st) (zQ st) (zZ st) .none kV doc pm an cdv ct) ⟨us,[]⟩=pure (ps.zip us))
  (he:(fnL q.K sA nA).take (n+1)=(fnL q.K sA nA).take n++[⟨nm,sp N⟩]):Pn q sA nA (n+1):=by
 obtain ⟨fd,F,_⟩:=hd.fd;have FO:=zf2 (k:=rk n) (Γ:=fun e=>jK q.K sA nA n e) F S hm (jG F hbind) h0 len mono (fun j A hr hx=>zhV T (gH hr) (hr.mono (by unfold rk;omega)) (tJ (h A hr) hx)) eM look hb N;exact next h (by omega) he fun A hr=>uV FO hm F.kp (jG F hbind) (mono N) hr hk
theorem usS {P:List Value->Prop} {n:Nat} (h:∀ a l,l.length=n->P (a::l)) (us:List Value) (e:us.length=n+1):P us:=by
 cases us with
 |nil=>exact absurd e (Nat.succ_ne_zero n).symm
 |cons a l=>exact h a l (Nat.succ.inj e)
theorem us0 {P:List Value->Prop} (h:P []) (us:List Value) (e:us.length=0):P us:=by
 cases us with
 |nil=>exact h
 |cons a l=>exact absurd e (Nat.succ_ne_zero _)
theorem us1 {P:List Value->Prop} (h:∀ a0,P [a0]):∀ us:List Value,us.length=1->P us:=usS (P:=fun l=>P (l)) (fun a0=>us0 (P:=fun l=>P (a0::l)) (h a0))
theorem us2 {P:List Value->Prop} (h:∀ a0 a1,P [a0,a1]):∀ us:List Value,us.length=2->P us:=usS (P:=fun l=>P (l)) (fun a0=>usS (P:=fun l=>P (a0::l)) (fun a1=>us0 (P:=fun l=>P (a0::a1::l)) (h a0 a1)))
theorem us3 {P:List Value->Prop} (h:∀ a0 a1 a2,P [a0,a1,a2]):∀ us:List Value,us.length=3->P us:=usS (P:=fun l=>P (l)) (fun a0=>usS (P:=fun l=>P (a0::l)) (fun a1=>usS (P:=fun l=>P (a0::a1::l)) (fun a2=>us0 (P:=fun l=>P (a0::a1::a2::l)) (h a0 a1 a2))))
theorem us4 {P:List Value->Prop} (h:∀ a0 a1 a2 a3,P [a0,a1,a2,a3]):∀ us:List Value,us.length=4->P us:=usS (P:=fun l=>P (l)) (fun a0=>usS (P:=fun l=>P (a0::l)) (fun a1=>usS (P:=fun l=>P (a0::a1::l)) (fun a2=>usS (P:=fun l=>P (a0::a1::a2::l)) (fun a3=>us0 (P:=fun l=>P (a0::a1::a2::a3::l)) (h a0 a1 a2 a3)))))
theorem p6 (T:Txt q.K q.mg sA nA oA jA hB hL hW hR hT hM):Pn q sA nA 6:=by
 obtain ⟨f,hm,hd⟩:=T.deal
 exact wO (sp:=zcV) (M:=dW) T (p5 T) (by decide) hm hd zaZ ⟨rfl,rfl,rfl,rfl,rfl,rfl,rfl,rfl⟩ cA
  (fun ws G Q h=>by obtain ⟨a,b,ns,rfl,_⟩:=h;rfl) (fun ws G Q ⟨a,b,ns,e,h1,h2,h3,h4⟩=>by subst e;exact zfL rfl rfl h1 h2 h3 h4) (zaV) (fun _ _ _ _ _ _=>us2 (fun _ _=>rfl)) rfl
theorem p7 (T:Txt q.K q.mg sA nA oA jA hB hL hW hR hT hM):Pn q sA nA 7:=by
 obtain ⟨f,hm,hd⟩:=T.draw
 exact wO (sp:=gA) (M:=dX) T (p6 T) (by decide) hm hd zaY ⟨rfl,rfl,rfl,rfl,rfl,rfl,rfl,rfl⟩ cB
  (fun ws G Q h=>by obtain ⟨a,b,m,rfl,_⟩:=h;rfl) (fun ws G Q ⟨a,b,m,e,h1,h2,h3⟩=>by subst e;exact zfJ rfl rfl h1 h2 h3) (zaU) (fun _ _ _ _ _ _=>us2 (fun _ _=>rfl)) rfl
theorem p8 (T:Txt q.K q.mg sA nA oA jA hB hL hW hR hT hM):Pn q sA nA 8:=by
 obtain ⟨f,hm,hd⟩:=T.names
 exact wO (sp:=gR) (M:=mQ) T (p7 T) (by decide) hm hd zae ⟨rfl,rfl,rfl,rfl,rfl,rfl,rfl,rfl⟩ dO
  (fun ws G Q h=>by obtain ⟨d,l,m,rfl,_⟩:=h;rfl) (fun ws G Q h=>zdl (by decide) h) (fun ws G Q Q' E k hh=>by
   obtain ⟨d,l,m,h1,h2,h3,h4,h⟩:=hh;exact ⟨d,l,m,h1,h2,h3,h4,fun r xs G' a b c d e f g=>k _ _ (h r xs G' a b c d e f g)⟩) (fun _ _ _ _ _ _=>us2 (fun _ _=>rfl)) rfl
theorem p9 (T:Txt q.K q.mg sA nA oA jA hB hL hW hR hT hM):Pn q sA nA 9:=by
 obtain ⟨f,hm,hd⟩:=T.large
 exact zjV (N:=21) (sp:=wW) (M:=mP) T (p8 T) (by decide) hm hd zaf (fun j=>⟨rfl,rfl,rfl,rfl,rfl,rfl,rfl,rfl⟩) dN
  (fun ws G Q hh=>by
   obtain ⟨d,l,r,m,e,xs,_,_,_,_,_,_,_,_,_,h1,h2,_⟩:=hh;omega) (fun j ws G Q h=>by obtain ⟨d,l,r,m,e,xs,rfl,_⟩:=h;rfl) (fun j ws G Q h=>zdv h) (fun j ws G Q Q' E k hh=>by
   obtain ⟨d,l,r,m,e,xs,h1,h2,h3,h4,h5,h6,h7,h8,h9,h10,h11,h⟩:=hh;exact ⟨d,l,r,m,e,xs,h1,h2,h3,h4,h5,h6,h7,h8,h9,h10,h11,fun t G' a b c d e=>k _ _ (h t G' a b c d e)⟩) (fun _ _ _ _ _ _=>us4 fun _ _ _ _=>rfl) rfl
theorem p10 (T:Txt q.K q.mg sA nA oA jA hB hL hW hR hT hM):Pn q sA nA 10:=by
 obtain ⟨f,hm,hd⟩:=T.sides
 exact wO (sp:=jW) (M:=zam) T (p9 T) (by decide) hm hd fU ⟨rfl,rfl,rfl,rfl,rfl,rfl,rfl,rfl⟩ zas
  (fun ws G Q h=>by obtain ⟨t,rfl,_⟩:=h;rfl) (fun ws G Q h=>bD h) (fun ws G Q Q' E k hh=>by
   obtain ⟨t,h1,h⟩:=hh;exact ⟨t,h1,k _ _ h⟩) (fun _ _ _ _ _ _=>us1 (fun _=>rfl)) rfl
theorem p11 (T:Txt q.K q.mg sA nA oA jA hB hL hW hR hT hM):Pn q sA nA 11:=by
 obtain ⟨f,hm,hd⟩:=T.within
 exact wO (sp:=rH sA) (M:=mT) T (p10 T) (by decide) hm hd zac ⟨rfl,rfl,rfl,rfl,rfl,rfl,rfl,rfl⟩ dQ
  (fun ws G Q h=>by obtain ⟨t,rfl,_⟩:=h;rfl) (fun ws G Q h=>zca h) (fun ws G Q Q' E k hh=>by
   obtain ⟨t,h1,h2,h⟩:=hh;exact ⟨t,h1,h2,h.mono k⟩) (fun _ _ _ _ _ _=>us2 (fun _ _=>rfl)) rfl
theorem p12 (T:Txt q.K q.mg sA nA oA jA hB hL hW hR hT hM):Pn q sA nA 12:=by
 obtain ⟨f,hm,hd⟩:=T.jt
 exact wO (sp:=spJt) (M:=pU) T (p11 T) (by decide) hm hd cF ⟨rfl,rfl,rfl,rfl,rfl,rfl,rfl,rfl⟩ hG
  (fun ws G Q h=>by obtain ⟨t,p,ini,rfl,_⟩:=h;rfl) (fun ws G Q h=>zki h) (fun ws G Q Q' E k hh=>by
   obtain ⟨t,p,ini,h1,h2,h3,h4,h5,h6,h⟩:=hh;exact ⟨t,p,ini,h1,h2,h3,h4,h5,h6,fun G' a b=>k _ _ (h G' a b)⟩) (fun _ _ _ _ _ _=>us3 (fun _ _ _=>rfl)) rfl
theorem p13 (T:Txt q.K q.mg sA nA oA jA hB hL hW hR hT hM):Pn q sA nA 13:=by
 obtain ⟨f,hm,hd⟩:=T.sj
 exact wO (sp:=gT sA nA) (M:=pY) T (p12 T) (by decide) hm hd cJ ⟨rfl,rfl,rfl,rfl,rfl,rfl,rfl,rfl⟩ hV
  (fun ws G Q h=>by obtain ⟨t,rfl,_⟩:=h;rfl) (fun ws G Q h=>zi5 (by decide) h) (fun ws G Q Q' E k hh=>by
   obtain ⟨t,h1,h2,h3,h⟩:=hh;exact ⟨t,h1,h2,h3,fun G' y=>k _ _ (h G' y)⟩) (fun _ _ _ _ _ _=>us3 (fun _ _ _=>rfl)) rfl
theorem p14 (T:Txt q.K q.mg sA nA oA jA hB hL hW hR hT hM):Pn q sA nA 14:=by
 obtain ⟨f,hm,hd⟩:=T.nameof
 exact wO (sp:=jZ) (M:=zbP) T (p13 T) (by decide) hm hd bB ⟨rfl,rfl,rfl,rfl,rfl,rfl,rfl,rfl⟩ za9
  (fun ws G Q h=>by obtain ⟨t,rfl,_⟩:=h;rfl) (fun ws G Q h=>fG h) (fun ws G Q Q' E k hh=>by
   obtain ⟨t,h1,h⟩:=hh;exact ⟨t,h1,k _ _ h⟩) (fun _ _ _ _ _ _=>us1 (fun _=>rfl)) rfl
theorem p15 (T:Txt q.K q.mg sA nA oA jA hB hL hW hR hT hM):Pn q sA nA 15:=by
 obtain ⟨f,hm,hd⟩:=T.show_
 exact wO (sp:=zbB) (M:=pZ) T (p14 T) (by decide) hm hd cK ⟨rfl,rfl,rfl,rfl,rfl,rfl,rfl,rfl⟩ hX
  (fun ws G Q h=>by obtain ⟨t,rfl,_⟩:=h;rfl) (fun ws G Q h=>zeI (by decide) h) (fun ws G Q Q' E k hh=>by
   obtain ⟨t,h1,h2,h3,h⟩:=hh;exact ⟨t,h1,h2,h3,fun G' y=>k _ _ (h G' y)⟩) (fun _ _ _ _ _ _=>us1 (fun _=>rfl)) rfl
theorem p16 (T:Txt q.K q.mg sA nA oA jA hB hL hW hR hT hM):Pn q sA nA 16:=by
 obtain ⟨f,hm,hd⟩:=T.binds
 exact wO (sp:=sY) (M:=mN) T (p15 T) (by decide) hm hd zag ⟨rfl,rfl,rfl,rfl,rfl,rfl,rfl,rfl⟩ dM
  (fun ws G Q h=>by obtain ⟨t,rfl,_⟩:=h;rfl) (fun ws G Q h=>zee h) (fun ws G Q Q' E k hh=>by
   obtain ⟨t,h1,h⟩:=hh;exact ⟨t,h1,fun G' y=>k _ _ (h G' y)⟩) (fun _ _ _ _ _ _=>us1 (fun _=>rfl)) rfl
theorem zej (j:Nat):tB ⟨"_law_at", fZ j⟩:=fun ws G Q Q' E k hh=>by
 obtain ⟨t,n,h1,h2,h3,h⟩:=hh;exact ⟨t,n,h1,h2,h3,h.mono k⟩
theorem zcK (j:Nat):tB ⟨"_law_text_words", gC j⟩:=fun ws G Q Q' E k hh=>by
 obtain ⟨t,h1,h2,h3,h⟩:=hh;exact ⟨t,h1,h2,h3,h.mono k⟩
theorem mutR (T:Txt q.K q.mg sA nA oA jA hB hL hW hR hT hM) {f1 f2:Addr} {fd1 fd2:FuncData} (hm1:q.mg "_law_at" = some (.ref f1)) (F1:FunD q.K "_law_at" "_law_at" qV .none f1 fd1) (hm2:q.mg "_law_text_words" = some (.ref f2)) (F2:FunD q.K "_law_text_words" "_law_text_words" yL .none f2 fd2) :
  FnOk q.prog q.w q.K q.mg q.base CX0 (rk 16+2 * 21+1) f1 fd1 ["_law_saying", "_law_least"] (jQ q.K (fZ 21))/\FnOk q.prog q.w q.K q.mg q.base CX0 (rk 16+2 * 21) f2 fd2 ["_law_saying"] (jQ q.K (gC 21)) :=
 zg4 (k:=rk 16) (M1:=zbR) (M2:=vX) (sp1:=fZ) (sp2:=gC) (Γ:=fun e=>jK q.K sA nA 16 e) F1 zc4 hm1 (jG F1 fun _ _ _ _ _ _=>us2 fun _ _=>rfl) F2 rE hm2 (jG F2 fun _ _ _ _ _ _=>us1 fun _=>rfl)
  (fun ws G Q hh=>by obtain ⟨t,_,_,h1,_⟩:=hh;omega) (fun j ws G Q h=>by obtain ⟨t,k,rfl,_⟩:=h;rfl) (fun j ws G Q h=>by obtain ⟨t,rfl,_⟩:=h;rfl) zej zcK
  (fun e A hr hx=>zhV T (gH hr) (hr.mono (by unfold rk;omega)) (tJ (p16 T A hr) hx)) (fun j=>⟨rfl,rfl,rfl,rfl,rfl,rfl,rfl,rfl⟩) (fun j=>⟨rfl,rfl,rfl,rfl,rfl,rfl,rfl,rfl⟩) zbb sO (fun j ws G Q h=>zk1 h) (fun j ws G Q h=>ziI h) 21
theorem p17 (T:Txt q.K q.mg sA nA oA jA hB hL hW hR hT hM):Pn q sA nA 17:=by
 obtain ⟨f1,hm1,hd1⟩:=T.lat;obtain ⟨f2,hm2,hd2⟩:=T.ltw;obtain ⟨fd1,F1,_⟩:=hd1.fd;obtain ⟨fd2,F2,_⟩:=hd2.fd;exact next (p16 T) (by decide) rfl fun A hr=>uV (mutR T hm1 F1 hm2 F2).1 hm1 F1.kp (jG F1 fun _ _ _ _ _ _=>us2 fun _ _=>rfl) (zej 21) hr (by decide)
theorem p18 (T:Txt q.K q.mg sA nA oA jA hB hL hW hR hT hM):Pn q sA nA 18:=by
 obtain ⟨f1,hm1,hd1⟩:=T.lat;obtain ⟨f2,hm2,hd2⟩:=T.ltw;obtain ⟨fd1,F1,_⟩:=hd1.fd;obtain ⟨fd2,F2,_⟩:=hd2.fd;exact next (p17 T) (by decide) rfl fun A hr=>uV (mutR T hm1 F1 hm2 F2).2 hm2 F2.kp (jG F2 fun _ _ _ _ _ _=>us1 fun _=>rfl) (zcK 21) hr (by decide)
theorem p19 (T:Txt q.K q.mg sA nA oA jA hB hL hW hR hT hM):Pn q sA nA 19:=by
 obtain ⟨f,hm,hd⟩:=T.shown
 exact wO (sp:=gU) (M:=mR) T (p18 T) (by decide) hm hd zad ⟨rfl,rfl,rfl,rfl,rfl,rfl,rfl,rfl⟩ dP
  (fun ws G Q h=>by obtain ⟨t,rfl,_⟩:=h;rfl) (fun ws G Q h=>zcY (by decide) h) (fun ws G Q Q' E k hh=>by
   obtain ⟨t,h1,h2,h3,h4,h⟩:=hh;exact ⟨t,h1,h2,h3,h4,fun G' y=>k _ _ (h G' y)⟩) (fun _ _ _ _ _ _=>us1 (fun _=>rfl)) rfl
theorem p20 (T:Txt q.K q.mg sA nA oA jA hB hL hW hR hT hM):Pn q sA nA 20:=by
 obtain ⟨f,hm,hd⟩:=T.put_
 exact wO (sp:=zeF) (M:=sI) T (p19 T) (by decide) hm hd fT ⟨rfl,rfl,rfl,rfl,rfl,rfl,rfl,rfl⟩ nP
  (fun ws G Q h=>by obtain ⟨w,D,p,rfl,_⟩:=h;rfl) (fun ws G Q h=>zg8 h) (fun ws G Q Q' E k hh=>by
   obtain ⟨w,D,p,h1,h2,h3,h4,h⟩:=hh;exact ⟨w,D,p,h1,h2,h3,h4,fun G' a b=>k _ _ (h G' a b)⟩) (fun _ _ _ _ _ _=>us2 (fun _ _=>rfl)) rfl
theorem p21 (T:Txt q.K q.mg sA nA oA jA hB hL hW hR hT hM):Pn q sA nA 21:=by
 obtain ⟨f,hm,hd⟩:=T.take_
 exact wO (sp:=gB) (M:=fC) T (p20 T) (by decide) hm hd zaW ⟨rfl,rfl,rfl,rfl,rfl,rfl,rfl,rfl⟩ cD
  (fun ws G Q h=>by obtain ⟨m,D,V,p,r,rfl,_⟩:=h;rfl) (fun ws G Q h=>zey (by decide) h) (fun ws G Q Q' E k hh=>by
   obtain ⟨m,D,V,p,r,h1,h2,h3,h4,h5,h6,h7,h8,h⟩:=hh;exact ⟨m,D,V,p,r,h1,h2,h3,h4,h5,h6,h7,h8,fun G' a b c=>k _ _ (h G' a b c)⟩) (fun _ _ _ _ _ _=>us3 (fun _ _ _=>rfl)) rfl
theorem p22 (T:Txt q.K q.mg sA nA oA jA hB hL hW hR hT hM):Pn q sA nA 22:=by
 obtain ⟨f,hm,hd⟩:=T.begin_
 exact wO (sp:=uE true) (M:=mU) T (p21 T) (by decide) hm hd zab ⟨rfl,rfl,rfl,rfl,rfl,rfl,rfl,rfl⟩ dR
  (fun ws G Q h=>by obtain ⟨t,D,V,p,r,rfl,_⟩:=h;rfl) (fun ws G Q h=>zef (by decide) h) (fun ws G Q Q' E k hh=>by
   obtain ⟨t,D,V,p,r,h1,h2,h3,h4,h5,h6,h7,h8,h⟩:=hh;exact ⟨t,D,V,p,r,h1,h2,h3,h4,h5,h6,h7,h8,fun G' a b c=>k _ _ (h G' a b c)⟩) (fun _ _ _ _ _ _=>us3 (fun _ _ _=>rfl)) rfl
theorem p23 (T:Txt q.K q.mg sA nA oA jA hB hL hW hR hT hM):Pn q sA nA 23:=by
 obtain ⟨f,hm,hd⟩:=T.go_
 exact wO (sp:=uE false) (M:=zgg) T (p22 T) (by decide) hm hd zgW ⟨rfl,rfl,rfl,rfl,rfl,rfl,rfl,rfl⟩ zdq
  (fun ws G Q h=>by obtain ⟨t,D,V,p,r,rfl,_⟩:=h;rfl) (fun ws G Q h=>zkI (by decide) h) (fun ws G Q Q' E k hh=>by
   obtain ⟨t,D,V,p,r,h1,h2,h3,h4,h5,h6,h7,h8,h⟩:=hh;exact ⟨t,D,V,p,r,h1,h2,h3,h4,h5,h6,h7,h8,fun G' a b c=>k _ _ (h G' a b c)⟩) (fun _ _ _ _ _ _=>us3 (fun _ _ _=>rfl)) rfl
theorem p24 (T:Txt q.K q.mg sA nA oA jA hB hL hW hR hT hM):Pn q sA nA 24:=by
 obtain ⟨f,hm,hd⟩:=T.rj
 exact wO (sp:=spRJ) (M:=pW) T (p23 T) (by decide) hm hd cG ⟨rfl,rfl,rfl,rfl,rfl,rfl,rfl,rfl⟩ hJ
  (fun ws G Q h=>by obtain ⟨t,b,tk,q,rfl,_⟩:=h;rfl) (fun ws G Q h=>zji (by decide) h) (fun ws G Q Q' E k hh=>by
   obtain ⟨t,b,tk,q,h1,h2,h3,h4,h5,h⟩:=hh;exact ⟨t,b,tk,q,h1,h2,h3,h4,h5,fun G' y=>k _ _ (h G' y)⟩) (fun _ _ _ _ _ _=>us1 (fun _=>rfl)) rfl
theorem p25 (T:Txt q.K q.mg sA nA oA jA hB hL hW hR hT hM):Pn q sA nA 25:=by
 obtain ⟨f,hm,hd⟩:=T.isn
 exact wO (sp:=zeG) (M:=zbQ) T (p24 T) (by decide) hm hd zc3 ⟨rfl,rfl,rfl,rfl,rfl,rfl,rfl,rfl⟩ zba
  (fun ws G Q h=>by obtain ⟨x,rfl,_⟩:=h;rfl) (fun ws G Q h=>zhH (by decide) h) (fun ws G Q Q' E k hh=>by
   obtain ⟨x,h1,h2,h⟩:=hh;exact ⟨x,h1,h2,fun G' y=>k _ _ (h G' y)⟩) (fun _ _ _ _ _ _=>us1 (fun _=>rfl)) rfl
theorem p26 (T:Txt q.K q.mg sA nA oA jA hB hL hW hR hT hM):Pn q sA nA 26:=by
 obtain ⟨f,hm,hd⟩:=T.rw_
 exact wO (sp:=spRW) (M:=fB) T (p25 T) (by decide) hm hd zaX ⟨rfl,rfl,rfl,rfl,rfl,rfl,rfl,rfl⟩ cC
  (fun ws G Q h=>by obtain ⟨x,rfl,_⟩:=h;rfl) (fun ws G Q h=>zjf (by decide) h) (fun ws G Q Q' E k hh=>by
   obtain ⟨x,h1,h2,h⟩:=hh;exact ⟨x,h1,h2,fun G' y=>k _ _ (h G' y)⟩) (fun _ _ _ _ _ _=>us1 (fun _=>rfl)) rfl
theorem p27 (T:Txt q.K q.mg sA nA oA jA hB hL hW hR hT hM):Pn q sA nA 27:=by
 obtain ⟨f,hm,hd⟩:=T.wb
 exact wO (sp:=spWB) (M:=jD) T (p26 T) (by decide) hm hd vM ⟨rfl,rfl,rfl,rfl,rfl,rfl,rfl,rfl⟩ kD
  (fun ws G Q h=>by obtain ⟨x,rfl,_⟩:=h;rfl) (fun ws G Q h=>zcI h) (fun ws G Q Q' E k hh=>by
   obtain ⟨t,h1,h2,h⟩:=hh;exact ⟨t,h1,h2,h.mono k⟩) (fun _ _ _ _ _ _=>us1 (fun _=>rfl)) rfl
theorem p28 (T:Txt q.K q.mg sA nA oA jA hB hL hW hR hT hM):Pn q sA nA 28:=by
 obtain ⟨f,hm,hd⟩:=T.wa
 exact wO (sp:=spWA) (M:=qP) T (p27 T) (by decide) hm hd uA ⟨rfl,rfl,rfl,rfl,rfl,rfl,rfl,rfl⟩ vB
  (fun ws G Q h=>by obtain ⟨x,rfl,_⟩:=h;rfl) (fun ws G Q h=>ziG (by decide) h) (fun ws G Q Q' E k hh=>by
   obtain ⟨t,h1,h2,h⟩:=hh;exact ⟨t,h1,h2,h.mono k⟩) (fun _ _ _ _ _ _=>us1 (fun _=>rfl)) rfl
theorem p29 (T:Txt q.K q.mg sA nA oA jA hB hL hW hR hT hM):Pn q sA nA 29:=by
 obtain ⟨f,hm,hd⟩:=T.rs
 exact wO (sp:=spRS) (M:=pX) T (p28 T) (by decide) hm hd cH ⟨rfl,rfl,rfl,rfl,rfl,rfl,rfl,rfl⟩ hU
  (fun ws G Q h=>by obtain ⟨t,b,tk,x,rfl,_⟩:=h;rfl) (fun ws G Q h=>zjg (by decide) h) (fun ws G Q Q' E k hh=>by
   obtain ⟨t,b,tk,x,h1,h2,h3,h4,h5,h6,h⟩:=hh;exact ⟨t,b,tk,x,h1,h2,h3,h4,h5,h6,fun G' y=>k _ _ (h G' y)⟩) (fun _ _ _ _ _ _=>us1 (fun _=>rfl)) rfl
theorem p30 (T:Txt q.K q.mg sA nA oA jA hB hL hW hR hT hM):Pn q sA nA 30:=by
 exact next (p29 T) (by decide) rfl fun A hr=>zh9 T.int
theorem p31 (T:Txt q.K q.mg sA nA oA jA hB hL hW hR hT hM):Pn q sA nA 31:=by
 obtain ⟨f,hm,hd⟩:=T.wrp
 exact zjV (N:=11) (sp:=sQ) (M:=sH) T (p30 T) (by decide) hm hd fS (fun j=>⟨rfl,rfl,rfl,rfl,rfl,rfl,rfl,rfl⟩) nO
  (fun ws G Q hh=>by
   obtain ⟨d,l,e,t,k,v,_,_,_,_,_,_,_,_,h1,_⟩:=hh;omega) (fun j ws G Q h=>by obtain ⟨d,l,e,t,k,v,rfl,_⟩:=h;rfl) (fun j ws G Q h=>zaT h) (fun j ws G Q Q' E k hh=>by
   obtain ⟨d,l,e,t,m,v,h1,h2,h3,h4,h5,h6,h7,h8,h9,h⟩:=hh;exact ⟨d,l,e,t,m,v,h1,h2,h3,h4,h5,h6,h7,h8,h9,fun b tk r u G' a1 a2 a3 a4 a5 a6 a7 a8 a9 a10=>k _ _ (h b tk r u G' a1 a2 a3 a4 a5 a6 a7 a8 a9 a10)⟩) (fun _ _ _ _ _ _=>us4 fun _ _ _ _=>rfl) rfl
theorem p32 (T:Txt q.K q.mg sA nA oA jA hB hL hW hR hT hM):Pn q sA nA 32:=by
 obtain ⟨f,hm,hd⟩:=T.jo
 exact wO (sp:=spJo) (M:=pS) T (p31 T) (by decide) hm hd cE ⟨rfl,rfl,rfl,rfl,rfl,rfl,rfl,rfl⟩ gY
  (fun ws G Q h=>by obtain ⟨p,q,tk,gs,rfl,_⟩:=h;rfl) (fun ws G Q h=>zcp (by decide) h) (fun ws G Q Q' E k hh=>by
   obtain ⟨p,q,tk,gs,h1,h2,h3,h4,h5,h6,h7,h8,h⟩:=hh;exact ⟨p,q,tk,gs,h1,h2,h3,h4,h5,h6,h7,h8,fun x G' a b c=>k _ _ (h x G' a b c)⟩) (fun _ _ _ _ _ _=>us2 (fun _ _=>rfl)) rfl
theorem zhC:(zZ slaw).names.lookup ("_law_script" : Str)=some .local:=by decide +kernel
theorem zkb {P:Program} {w:World} {K:yJ} {mg:Str->Option Value} (T:Txt K mg sA nA oA jA hB hL hW hR hT hM) {f:Addr} (hd:HD K "law" "law" slaw .none f):∃ fd:FuncData,(∀ (s:Shared) (u:Value),BindsTo s fd ⟨[u],[]⟩ [("_law_script", u)])/\fd.scope.names.lookup ("_law_script" : Str)=some .local/\∀ base:Heap,FnOk P w K mg base CX0 142 f fd ["_law_script"] (jQ K bE):=by
 obtain ⟨fd,F,kV,doc,pm,an,cdv,ct,e⟩:=hd.fd;refine ⟨fd,fun s u=>by subst e;exact .of_eq rfl,by subst e;exact zhC,fun base=>uU (q:=⟨P,w,K,mg,base⟩) (k:=141) (sp:=bE) (M:=mlaw) F sclaw (good (q:=⟨P,w,K,mg,base⟩) T (p32 T)) ⟨rfl,rfl,rfl,rfl,rfl,rfl,rfl,rfl⟩ zhy (fun ws G Q h=>by obtain ⟨a,ns,rfl,_⟩:=h;rfl) fun ws G Q h=>?_⟩;obtain ⟨a,ns,rfl,hs,hl,h⟩:=h;exact zhB (by decide) hs hl h
end
theorem all_mk {l:PySem.W.OpenLaw} {w:World} {K:yJ} {h:Heap} {mg:Str->Option Value} {fa sA nA oA jA hB hL hW hR hT hM f1 f2 f3 f4 f5 f6 f7 f8 f9 f10 f11 f12 f13 f14 f15 f16 f17 f18 f19 f20 f21 f22 f23 f24 f25 f26 f27:Addr} (X:K.In h) (G:h.Ns mainGlobals mg) (hfa:mg "law" = some (.ref fa))
  {od1 an1 od2 an2 od3 an3 od4 an4 od5 an5 od6 an6 od7 an7 od8 an8 od9 an9 od10 an10 od11 an11 od12 an12 od13 an13 od14 an14 od15 an15 od16 an16 od17 an17 od18 an18 od19 an19 od20 an20 od21 an21 od22 an22 od23 an23 od24 an24 od25 an25 od26 an26 od27 an27:Option Addr} {sl1 sl2 sl3 sl4 sl5 sl6 sl7 sl8 sl9 sl10 sl11 sl12 sl13 sl14 sl15 sl16 sl17 sl18 sl19 sl20 sl21 sl22 sl23 sl24 sl25 sl26 sl27:Array (Option Value)} {oc1 kV1 dc1 pm1 cd1 ct1 oc2 kV2 dc2 pm2 cd2 ct2 oc3 kV3 dc3 pm3 cd3 ct3 oc4 kV4 dc4 pm4 cd4 ct4 oc5 kV5 dc5 pm5 cd5 ct5 oc6 kV6 dc6 pm6 cd6 ct6 oc7 kV7 dc7 pm7 cd7 ct7 oc8 kV8 dc8 pm8 cd8 ct8 oc9 kV9 dc9 pm9 cd9 ct9 oc10 kV10 dc10 pm10 cd10 ct10 oc11 kV11 dc11 pm11 cd11 ct11 oc12 kV12 dc12 pm12 cd12 ct12 oc13 kV13 dc13 pm13 cd13 ct13 oc14 kV14 dc14 pm14 cd14 ct14 oc15 kV15 dc15 pm15 cd15 ct15 oc16 kV16 dc16 pm16 cd16 ct16 oc17 kV17 dc17 pm17 cd17 ct17 oc18 kV18 dc18 pm18 cd18 ct18 oc19 kV19 dc19 pm19 cd19 ct19 oc20 kV20 dc20 pm20 cd20 ct20 oc21 kV21 dc21 pm21 cd21 ct21 oc22 kV22 dc22 pm22 cd22 ct22 oc23 kV23 dc23 pm23 cd23 ct23 oc24 kV24 dc24 pm24 cd24 ct24 oc25 kV25 dc25 pm25 cd25 ct25 oc26 kV26 dc26 pm26 cd26 ct26 oc27 kV27 dc27 pm27 cd27 ct27:Value} {t1 t2 t3 t4:Addr} {odS anS odO anO ot1 ot2 ot3 ot4 oN oJ:Option Addr} {slS slO st1 st2 st3 st4 sN sJ:Array (Option Value)} {ocS kVS dcS pmS cdS ctS ocO kVO dcO pmO cdO ctO:Value} {nB nL nW nR nT nM nt1 nt2 nt3 nt4 nN nJ:Nat} {tLo tSi kB0 kB1 kB2 kB3 vB0 vB1 vB2 vB3 kL0 kL1 kL2 kL3 kW0 kW1 kW2 vW0 vW1 vW2 kR0 kR1 kR2 kR3 kR4 vR0 vR1 vR2 vR3 vR4 kT0 kT1 kT2 kT3 vT0 vT1 vT2 vT3 kM0 kM1 kM2 vM0 vM1 vM2 it10 it20 it21 it30 it31 it40 it41 vN0 vN1 vN2 vN3 vJ0 vJ1 vJ2 vJ3 vJ4 vJ5:Tok} {hB0 hB1 hB2 hB3 hL0 hL1 hL2 hL3 hW0 hW1 hW2 hR0 hR1 hR2 hR3 hR4 hT0 hT1 hT2 hT3 hM0 hM1 hM2:Int}
  (a1:nsIn K mainGlobals "_law_deal" = some (some (.ref f1))) (l1:K.lookup f1=some ⟨oc1,od1,.func (fnOf "_law_deal" "_law_deal" (yZ jS) (zQ jS) (zZ jS) .none kV1 dc1 pm1 an1 cd1 ct1),sl1⟩) (c1:codeIn K cd1 "_law_deal" = true) (k1:keepIn K (.ref f1)=true)
  (a2:nsIn K mainGlobals "_law_draw" = some (some (.ref f2))) (l2:K.lookup f2=some ⟨oc2,od2,.func (fnOf "_law_draw" "_law_draw" (yZ jT) (zQ jT) (zZ jT) .none kV2 dc2 pm2 an2 cd2 ct2),sl2⟩) (c2:codeIn K cd2 "_law_draw" = true) (k2:keepIn K (.ref f2)=true)
  (a3:nsIn K mainGlobals "_law_names" = some (some (.ref f3))) (l3:K.lookup f3=some ⟨oc3,od3,.func (fnOf "_law_names" "_law_names" (yZ wR) (zQ wR) (zZ wR) .none kV3 dc3 pm3 an3 cd3 ct3),sl3⟩) (c3:codeIn K cd3 "_law_names" = true) (k3:keepIn K (.ref f3)=true)
  (a4:nsIn K mainGlobals "_law_large" = some (some (.ref f4))) (l4:K.lookup f4=some ⟨oc4,od4,.func (fnOf "_law_large" "_law_large" (yZ wQ) (zQ wQ) (zZ wQ) .none kV4 dc4 pm4 an4 cd4 ct4),sl4⟩) (c4:codeIn K cd4 "_law_large" = true) (k4:keepIn K (.ref f4)=true)
  (a5:nsIn K mainGlobals "sides_of" = some (some (.ref f5))) (l5:K.lookup f5=some ⟨oc5,od5,.func (fnOf "sides_of" "sides_of" (yZ xX) (zQ xX) (zZ xX) .none kV5 dc5 pm5 an5 cd5 ct5),sl5⟩) (c5:codeIn K cd5 "sides_of" = true) (k5:keepIn K (.ref f5)=true)
  (a6:nsIn K mainGlobals "all_within" = some (some (.ref f6))) (l6:K.lookup f6=some ⟨oc6,od6,.func (fnOf "all_within" "all_within" (yZ wT) (zQ wT) (zZ wT) .none kV6 dc6 pm6 an6 cd6 ct6),sl6⟩) (c6:codeIn K cd6 "all_within" = true) (k6:keepIn K (.ref f6)=true)
  (a7:nsIn K mainGlobals "joined_text" = some (some (.ref f7))) (l7:K.lookup f7=some ⟨oc7,od7,.func (fnOf "joined_text" "joined_text" (yZ xA) (zQ xA) (zZ xA) .none kV7 dc7 pm7 an7 cd7 ct7),sl7⟩) (c7:codeIn K cd7 "joined_text" = true) (k7:keepIn K (.ref f7)=true)
  (a8:nsIn K mainGlobals "show_joined" = some (some (.ref f8))) (l8:K.lookup f8=some ⟨oc8,od8,.func (fnOf "show_joined" "show_joined" (yZ xD) (zQ xD) (zZ xD) .none kV8 dc8 pm8 an8 cd8 ct8),sl8⟩) (c8:codeIn K cd8 "show_joined" = true) (k8:keepIn K (.ref f8)=true)
  (a9:nsIn K mainGlobals "name_of" = some (some (.ref f9))) (l9:K.lookup f9=some ⟨oc9,od9,.func (fnOf "name_of" "name_of" (yZ xI) (zQ xI) (zZ xI) .none kV9 dc9 pm9 an9 cd9 ct9),sl9⟩) (c9:codeIn K cd9 "name_of" = true) (k9:keepIn K (.ref f9)=true)
  (a10:nsIn K mainGlobals "show_saying" = some (some (.ref f10))) (l10:K.lookup f10=some ⟨oc10,od10,.func (fnOf "show_saying" "show_saying" (yZ xE) (zQ xE) (zZ xE) .none kV10 dc10 pm10 an10 cd10 ct10),sl10⟩) (c10:codeIn K cd10 "show_saying" = true) (k10:keepIn K (.ref f10)=true)
  (a11:nsIn K mainGlobals "_law_binds" = some (some (.ref f11))) (l11:K.lookup f11=some ⟨oc11,od11,.func (fnOf "_law_binds" "_law_binds" (yZ wP) (zQ wP) (zZ wP) .none kV11 dc11 pm11 an11 cd11 ct11),sl11⟩) (c11:codeIn K cd11 "_law_binds" = true) (k11:keepIn K (.ref f11)=true)
  (a12:nsIn K mainGlobals "_law_at" = some (some (.ref f12))) (l12:K.lookup f12=some ⟨oc12,od12,.func (fnOf "_law_at" "_law_at" (yZ qV) (zQ qV) (zZ qV) .none kV12 dc12 pm12 an12 cd12 ct12),sl12⟩) (c12:codeIn K cd12 "_law_at" = true) (k12:keepIn K (.ref f12)=true)
  (a13:nsIn K mainGlobals "_law_text_words" = some (some (.ref f13))) (l13:K.lookup f13=some ⟨oc13,od13,.func (fnOf "_law_text_words" "_law_text_words" (yZ yL) (zQ yL) (zZ yL) .none kV13 dc13 pm13 an13 cd13 ct13),sl13⟩) (c13:codeIn K cd13 "_law_text_words" = true) (k13:keepIn K (.ref f13)=true)
  (a14:nsIn K mainGlobals "_law_shown" = some (some (.ref f14))) (l14:K.lookup f14=some ⟨oc14,od14,.func (fnOf "_law_shown" "_law_shown" (yZ wS) (zQ wS) (zZ wS) .none kV14 dc14 pm14 an14 cd14 ct14),sl14⟩) (c14:codeIn K cd14 "_law_shown" = true) (k14:keepIn K (.ref f14)=true)
  (a15:nsIn K mainGlobals "put_together" = some (some (.ref f15))) (l15:K.lookup f15=some ⟨oc15,od15,.func (fnOf "put_together" "put_together" (yZ xQ) (zQ xQ) (zZ xQ) .none kV15 dc15 pm15 an15 cd15 ct15),sl15⟩) (c15:codeIn K cd15 "put_together" = true) (k15:keepIn K (.ref f15)=true)
  (a16:nsIn K mainGlobals "take_left" = some (some (.ref f16))) (l16:K.lookup f16=some ⟨oc16,od16,.func (fnOf "take_left" "take_left" (yZ jV) (zQ jV) (zZ jV) .none kV16 dc16 pm16 an16 cd16 ct16),sl16⟩) (c16:codeIn K cd16 "take_left" = true) (k16:keepIn K (.ref f16)=true)
  (a17:nsIn K mainGlobals "begin_side" = some (some (.ref f17))) (l17:K.lookup f17=some ⟨oc17,od17,.func (fnOf "begin_side" "begin_side" (yZ wU) (zQ wU) (zZ wU) .none kV17 dc17 pm17 an17 cd17 ct17),sl17⟩) (c17:codeIn K cd17 "begin_side" = true) (k17:keepIn K (.ref f17)=true)
  (a18:nsIn K mainGlobals "go_on" = some (some (.ref f18))) (l18:K.lookup f18=some ⟨oc18,od18,.func (fnOf "go_on" "go_on" (yZ sC) (zQ sC) (zZ sC) .none kV18 dc18 pm18 an18 cd18 ct18),sl18⟩) (c18:codeIn K cd18 "go_on" = true) (k18:keepIn K (.ref f18)=true)
  (a19:nsIn K mainGlobals "read_joined" = some (some (.ref f19))) (l19:K.lookup f19=some ⟨oc19,od19,.func (fnOf "read_joined" "read_joined" (yZ xB) (zQ xB) (zZ xB) .none kV19 dc19 pm19 an19 cd19 ct19),sl19⟩) (c19:codeIn K cd19 "read_joined" = true) (k19:keepIn K (.ref f19)=true)
  (a20:nsIn K mainGlobals "is_name" = some (some (.ref f20))) (l20:K.lookup f20=some ⟨oc20,od20,.func (fnOf "is_name" "is_name" (yZ qA) (zQ qA) (zZ qA) .none kV20 dc20 pm20 an20 cd20 ct20),sl20⟩) (c20:codeIn K cd20 "is_name" = true) (k20:keepIn K (.ref f20)=true)
  (a21:nsIn K mainGlobals "read_word" = some (some (.ref f21))) (l21:K.lookup f21=some ⟨oc21,od21,.func (fnOf "read_word" "read_word" (yZ jU) (zQ jU) (zZ jU) .none kV21 dc21 pm21 an21 cd21 ct21),sl21⟩) (c21:codeIn K cd21 "read_word" = true) (k21:keepIn K (.ref f21)=true)
  (a22:nsIn K mainGlobals "words_between_blanks" = some (some (.ref f22))) (l22:K.lookup f22=some ⟨oc22,od22,.func (fnOf "words_between_blanks" "words_between_blanks" (yZ yU) (zQ yU) (zZ yU) .none kV22 dc22 pm22 an22 cd22 ct22),sl22⟩) (c22:codeIn K cd22 "words_between_blanks" = true) (k22:keepIn K (.ref f22)=true)
  (a23:nsIn K mainGlobals "words_and_brackets" = some (some (.ref f23))) (l23:K.lookup f23=some ⟨oc23,od23,.func (fnOf "words_and_brackets" "words_and_brackets" (yZ yQ) (zQ yQ) (zZ yQ) .none kV23 dc23 pm23 an23 cd23 ct23),sl23⟩) (c23:codeIn K cd23 "words_and_brackets" = true) (k23:keepIn K (.ref f23)=true)
  (a24:nsIn K mainGlobals "read_saying" = some (some (.ref f24))) (l24:K.lookup f24=some ⟨oc24,od24,.func (fnOf "read_saying" "read_saying" (yZ xC) (zQ xC) (zZ xC) .none kV24 dc24 pm24 an24 cd24 ct24),sl24⟩) (c24:codeIn K cd24 "read_saying" = true) (k24:keepIn K (.ref f24)=true)
  (a25:nsIn K mainGlobals "_law_wrapped" = some (some (.ref f25))) (l25:K.lookup f25=some ⟨oc25,od25,.func (fnOf "_law_wrapped" "_law_wrapped" (yZ xP) (zQ xP) (zZ xP) .none kV25 dc25 pm25 an25 cd25 ct25),sl25⟩) (c25:codeIn K cd25 "_law_wrapped" = true) (k25:keepIn K (.ref f25)=true)
  (a26:nsIn K mainGlobals "_law_joined" = some (some (.ref f26))) (l26:K.lookup f26=some ⟨oc26,od26,.func (fnOf "_law_joined" "_law_joined" (yZ wZ) (zQ wZ) (zZ wZ) .none kV26 dc26 pm26 an26 cd26 ct26),sl26⟩) (c26:codeIn K cd26 "_law_joined" = true) (k26:keepIn K (.ref f26)=true)
  (a27:nsIn K mainGlobals "law" = some (some (.ref f27))) (l27:K.lookup f27=some ⟨oc27,od27,.func (fnOf "law" "law" (yZ slaw) (zQ slaw) (zZ slaw) .none kV27 dc27 pm27 an27 cd27 ct27),sl27⟩) (c27:codeIn K cd27 "law" = true) (k27:keepIn K (.ref f27)=true)
  (z0:nsIn K mainGlobals "max" = some none)
  (z1:nsIn K mainGlobals "len" = some none)
  (z2:nsIn K mainGlobals "all" = some none)
  (z3:nsIn K mainGlobals "list" = some none)
  (z4:nsIn K mainGlobals "isinstance" = some none)
  (z5:nsIn K mainGlobals "range" = some none)
  (z6:nsIn K mainGlobals "zip" = some none)
  (z7:nsIn K mainGlobals "reversed" = some none)
  (z8:nsIn K mainGlobals "str" = some none)
  (z9:nsIn K mainGlobals "tuple" = some none)
  (z10:nsIn K mainGlobals "int" = some none)
  (z11:nsIn K mainGlobals "enumerate" = some none)
  (aLo:nsIn K mainGlobals "LONGEST_NAME" = some (some (.int 6 tLo)))
  (aSi:nsIn K mainGlobals "SINGLE_BINDS" = some (some (.int 5 tSi)))
  (nb:nsIn K cStatics sharingNotToldKey=some none)
  (aS:nsIn K mainGlobals "sides_of" = some (some (.ref sA)))
  (lS:K.lookup sA=some ⟨ocS,odS,.func (fnOf "sides_of" "sides_of" (yZ xX) (zQ xX) (zZ xX) .none kVS dcS pmS anS cdS ctS),slS⟩)
  (cS:codeIn K cdS "sides_of" = true)
  (kS:keepIn K (.ref sA)=true)
  (aO:nsIn K mainGlobals "name_of" = some (some (.ref nA)))
  (lO:K.lookup nA=some ⟨ocO,odO,.func (fnOf "name_of" "name_of" (yZ xI) (zQ xI) (zZ xI) .none kVO dcO pmO anO cdO ctO),slO⟩)
  (cO:codeIn K cdO "name_of" = true)
  (kO:keepIn K (.ref nA)=true)
  (aB:nsIn K mainGlobals "BINDS_saywrite" = some (some (.ref hB)))
  (lB:K.lookup hB=some ⟨.type "dict", none,.dict #[⟨hB0,.str "if" kB0,.int 1 vB0⟩,⟨hB1,.str "or" kB1,.int 2 vB1⟩,⟨hB2,.str "and" kB2,.int 3 vB2⟩,⟨hB3,.str "not" kB3,.int 4 vB3⟩] nB,#[]⟩)
  (hwB:(hB==sysModules)=false)
  (aL:nsIn K mainGlobals "LEAST" = some (some (.ref hL)))
  (lL:K.lookup hL=some ⟨.type "dict", none,.dict #[⟨hL0,.str "not" kL0,.ref t1⟩,⟨hL1,.str "and" kL1,.ref t2⟩,⟨hL2,.str "or" kL2,.ref t3⟩,⟨hL3,.str "if" kL3,.ref t4⟩] nL,#[]⟩)
  (hwL:(hL==sysModules)=false)
  (aW:nsIn K mainGlobals "BETWEEN" = some (some (.ref hW)))
  (lW:K.lookup hW=some ⟨.type "dict", none,.dict #[⟨hW0,.str "and" kW0,.str " and " vW0⟩,⟨hW1,.str "or" kW1,.str " or " vW1⟩,⟨hW2,.str "if" kW2,.str " then " vW2⟩] nW,#[]⟩)
  (hwW:(hW==sysModules)=false)
  (aR:nsIn K mainGlobals "BINDS_sayread" = some (some (.ref hR)))
  (lR:K.lookup hR=some ⟨.type "dict", none,.dict #[⟨hR0,.str "(" kR0,.int 0 vR0⟩,⟨hR1,.str "then" kR1,.int 1 vR1⟩,⟨hR2,.str "or" kR2,.int 2 vR2⟩,⟨hR3,.str "and" kR3,.int 3 vR3⟩,⟨hR4,.str "not" kR4,.int 4 vR4⟩] nR,#[]⟩)
  (hwR:(hR==sysModules)=false)
  (aT:nsIn K mainGlobals "TAKES" = some (some (.ref hT)))
  (lT:K.lookup hT=some ⟨.type "dict", none,.dict #[⟨hT0,.str "then" kT0,.int 2 vT0⟩,⟨hT1,.str "or" kT1,.int 2 vT1⟩,⟨hT2,.str "and" kT2,.int 3 vT2⟩,⟨hT3,.str ")" kT3,.int 1 vT3⟩] nT,#[]⟩)
  (hwT:(hT==sysModules)=false)
  (aM:nsIn K mainGlobals "MADE" = some (some (.ref hM)))
  (lM:K.lookup hM=some ⟨.type "dict", none,.dict #[⟨hM0,.str "then" kM0,.str "if" vM0⟩,⟨hM1,.str "or" kM1,.str "or" vM1⟩,⟨hM2,.str "and" kM2,.str "and" vM2⟩] nM,#[]⟩)
  (hwM:(hM==sysModules)=false)
  (lt1:K.lookup t1=some ⟨.type "tuple", ot1,.seq #[.int 4 it10] nt1,st1⟩)
  (lt2:K.lookup t2=some ⟨.type "tuple", ot2,.seq #[.int 3 it20,.int 4 it21] nt2,st2⟩)
  (lt3:K.lookup t3=some ⟨.type "tuple", ot3,.seq #[.int 2 it30,.int 3 it31] nt3,st3⟩)
  (lt4:K.lookup t4=some ⟨.type "tuple", ot4,.seq #[.int 2 it40,.int 1 it41] nt4,st4⟩)
  (aN:nsIn K mainGlobals "NO_NAMES" = some (some (.ref oA)))
  (lN:K.lookup oA=some ⟨.type "tuple", oN,.seq #[.str "and" vN0,.str "or" vN1,.str "not" vN2,.str "then" vN3] nN,sN⟩)
  (aJ:nsIn K mainGlobals "JOINING" = some (some (.ref jA)))
  (lJ:K.lookup jA=some ⟨.type "tuple", oJ,.seq #[.str "(" vJ0,.str ")" vJ1,.str "not" vJ2,.str "and" vJ3,.str "or" vJ4,.str "then" vJ5] nJ,sJ⟩) :
  ∃ fd:FuncData,(∀ (s:Shared) (u:Value),BindsTo s fd ⟨[u],[]⟩ [("_law_script", u)])/\fd.scope.names.lookup ("_law_script" : Str)=some .local/\∀ base:Heap,K.In base->base.Ns mainGlobals mg->FnOk l.prog w K mg base CX0 142 fa fd ["_law_script"] (jQ K bE):=by
 have e:=hfa.symm.trans (mg_of X G a27);cases e;have sz0:∀ k:Nat,k<=9->k<=sizeLine:=fun k hk=>by rw [sizeLine_eq];omega
 have rt1:∀ H,xJ K H (.tup [.int 4]) (.ref t1):=sW (vs:=[.int 4]) lt1 rfl rfl (sz0 1 (by decide)) (.cons ⟨_,rfl⟩ .nil) fun H=>⟨_,_,rfl,rfl,rfl⟩;have rt2:∀ H,xJ K H (.tup [.int 3,.int 4]) (.ref t2):=sW (vs:=[.int 3,.int 4]) lt2 rfl rfl (sz0 2 (by decide)) (.cons ⟨_,rfl⟩ (.cons ⟨_,rfl⟩ .nil)) fun H=>⟨_,_,rfl,rfl,⟨_,_,rfl,rfl,rfl⟩⟩;have rt3:∀ H,xJ K H (.tup [.int 2,.int 3]) (.ref t3):=sW (vs:=[.int 2,.int 3]) lt3 rfl rfl (sz0 2 (by decide)) (.cons ⟨_,rfl⟩ (.cons ⟨_,rfl⟩ .nil)) fun H=>⟨_,_,rfl,rfl,⟨_,_,rfl,rfl,rfl⟩⟩;have rt4:∀ H,xJ K H (.tup [.int 2,.int 1]) (.ref t4):=sW (vs:=[.int 2,.int 1]) lt4 rfl rfl (sz0 2 (by decide)) (.cons ⟨_,rfl⟩ (.cons ⟨_,rfl⟩ .nil)) fun H=>⟨_,_,rfl,rfl,⟨_,_,rfl,rfl,rfl⟩⟩
 have T:Txt K mg sA nA oA jA hB hL hW hR hT hM:={
  deal:=⟨f1,mg_of X G a1,HD.mk' l1 c1 k1⟩
  draw:=⟨f2,mg_of X G a2,HD.mk' l2 c2 k2⟩
  names:=⟨f3,mg_of X G a3,HD.mk' l3 c3 k3⟩
  large:=⟨f4,mg_of X G a4,HD.mk' l4 c4 k4⟩
  sides:=⟨f5,mg_of X G a5,HD.mk' l5 c5 k5⟩
  within:=⟨f6,mg_of X G a6,HD.mk' l6 c6 k6⟩
  jt:=⟨f7,mg_of X G a7,HD.mk' l7 c7 k7⟩
  sj:=⟨f8,mg_of X G a8,HD.mk' l8 c8 k8⟩
  nameof:=⟨f9,mg_of X G a9,HD.mk' l9 c9 k9⟩
  show_:=⟨f10,mg_of X G a10,HD.mk' l10 c10 k10⟩
  binds:=⟨f11,mg_of X G a11,HD.mk' l11 c11 k11⟩
  lat:=⟨f12,mg_of X G a12,HD.mk' l12 c12 k12⟩
  ltw:=⟨f13,mg_of X G a13,HD.mk' l13 c13 k13⟩
  shown:=⟨f14,mg_of X G a14,HD.mk' l14 c14 k14⟩
  put_:=⟨f15,mg_of X G a15,HD.mk' l15 c15 k15⟩
  take_:=⟨f16,mg_of X G a16,HD.mk' l16 c16 k16⟩
  begin_:=⟨f17,mg_of X G a17,HD.mk' l17 c17 k17⟩
  go_:=⟨f18,mg_of X G a18,HD.mk' l18 c18 k18⟩
  rj:=⟨f19,mg_of X G a19,HD.mk' l19 c19 k19⟩
  isn:=⟨f20,mg_of X G a20,HD.mk' l20 c20 k20⟩
  rw_:=⟨f21,mg_of X G a21,HD.mk' l21 c21 k21⟩
  wb:=⟨f22,mg_of X G a22,HD.mk' l22 c22 k22⟩
  wa:=⟨f23,mg_of X G a23,HD.mk' l23 c23 k23⟩
  rs:=⟨f24,mg_of X G a24,HD.mk' l24 c24 k24⟩
  wrp:=⟨f25,mg_of X G a25,HD.mk' l25 c25 k25⟩
  jo:=⟨f26,mg_of X G a26,HD.mk' l26 c26 k26⟩
  max:=mg_none_of X G z0
  len:=mg_none_of X G z1
  all:=mg_none_of X G z2
  list:=mg_none_of X G z3
  isi:=mg_none_of X G z4
  range:=mg_none_of X G z5
  zip:=mg_none_of X G z6
  rev:=mg_none_of X G z7
  str:=mg_none_of X G z8
  tup:=mg_none_of X G z9
  int:=mg_none_of X G z10
  enu:=mg_none_of X G z11
  mgLo:=⟨tLo,mg_of X G aLo⟩
  mgSi:=⟨tSi,mg_of X G aSi⟩
  mgS:=mg_of X G aS
  hdS:=HD.mk' lS cS kS
  mgO:=mg_of X G aO
  hdO:=HD.mk' lO cO kO
  nb:=nb
  mgB:=mg_of X G aB
  rpB:=fun H=>⟨hB,[.int 1,.int 2,.int 3,.int 4],rfl,⟨_,_,_,lB,⟨rfl,rfl,rfl⟩,rfl,sz0 4 (by decide),hwB,⟨"if", kB0,.int 1,_,_,rfl,rfl,rfl,⟨_,rfl⟩,⟨"or", kB1,.int 2,_,_,rfl,rfl,rfl,⟨_,rfl⟩,⟨"and", kB2,.int 3,_,_,rfl,rfl,rfl,⟨_,rfl⟩,⟨"not", kB3,.int 4,_,_,rfl,rfl,rfl,⟨_,rfl⟩,⟨rfl,rfl⟩⟩⟩⟩⟩⟩,⟨_,_,rfl,rfl,⟨_,_,rfl,rfl,⟨_,_,rfl,rfl,⟨_,_,rfl,rfl,rfl⟩⟩⟩⟩⟩
  mgL:=mg_of X G aL
  rpL:=fun H=>⟨hL,[.ref t1,.ref t2,.ref t3,.ref t4],rfl,⟨_,_,_,lL,⟨rfl,rfl,rfl⟩,rfl,sz0 4 (by decide),hwL,⟨"not", kL0,.ref t1,_,_,rfl,rfl,rfl,rfl,⟨"and", kL1,.ref t2,_,_,rfl,rfl,rfl,rfl,⟨"or", kL2,.ref t3,_,_,rfl,rfl,rfl,rfl,⟨"if", kL3,.ref t4,_,_,rfl,rfl,rfl,rfl,⟨rfl,rfl⟩⟩⟩⟩⟩⟩,⟨_,_,rfl,rt1 H,⟨_,_,rfl,rt2 H,⟨_,_,rfl,rt3 H,⟨_,_,rfl,rt4 H,rfl⟩⟩⟩⟩⟩
  mgW:=mg_of X G aW
  rpW:=fun H=>⟨hW,[.str " and ", .str " or ", .str " then "],rfl,⟨_,_,_,lW,⟨rfl,rfl,rfl⟩,rfl,sz0 3 (by decide),hwW,⟨"and", kW0,.str " and ", _,_,rfl,rfl,rfl,⟨_,rfl⟩,⟨"or", kW1,.str " or ", _,_,rfl,rfl,rfl,⟨_,rfl⟩,⟨"if", kW2,.str " then ", _,_,rfl,rfl,rfl,⟨_,rfl⟩,⟨rfl,rfl⟩⟩⟩⟩⟩,⟨_,_,rfl,rfl,⟨_,_,rfl,rfl,⟨_,_,rfl,rfl,rfl⟩⟩⟩⟩
  mgR:=mg_of X G aR
  rpR:=fun H=>⟨hR,[.int 0,.int 1,.int 2,.int 3,.int 4],rfl,⟨_,_,_,lR,⟨rfl,rfl,rfl⟩,rfl,sz0 5 (by decide),hwR,⟨"(", kR0,.int 0,_,_,rfl,rfl,rfl,⟨_,rfl⟩,⟨"then", kR1,.int 1,_,_,rfl,rfl,rfl,⟨_,rfl⟩,⟨"or", kR2,.int 2,_,_,rfl,rfl,rfl,⟨_,rfl⟩,⟨"and", kR3,.int 3,_,_,rfl,rfl,rfl,⟨_,rfl⟩,⟨"not", kR4,.int 4,_,_,rfl,rfl,rfl,⟨_,rfl⟩,⟨rfl,rfl⟩⟩⟩⟩⟩⟩⟩,⟨_,_,rfl,rfl,⟨_,_,rfl,rfl,⟨_,_,rfl,rfl,⟨_,_,rfl,rfl,⟨_,_,rfl,rfl,rfl⟩⟩⟩⟩⟩⟩
  mgT:=mg_of X G aT
  rpT:=fun H=>⟨hT,[.int 2,.int 2,.int 3,.int 1],rfl,⟨_,_,_,lT,⟨rfl,rfl,rfl⟩,rfl,sz0 4 (by decide),hwT,⟨"then", kT0,.int 2,_,_,rfl,rfl,rfl,⟨_,rfl⟩,⟨"or", kT1,.int 2,_,_,rfl,rfl,rfl,⟨_,rfl⟩,⟨"and", kT2,.int 3,_,_,rfl,rfl,rfl,⟨_,rfl⟩,⟨")", kT3,.int 1,_,_,rfl,rfl,rfl,⟨_,rfl⟩,⟨rfl,rfl⟩⟩⟩⟩⟩⟩,⟨_,_,rfl,rfl,⟨_,_,rfl,rfl,⟨_,_,rfl,rfl,⟨_,_,rfl,rfl,rfl⟩⟩⟩⟩⟩
  mgM:=mg_of X G aM
  rpM:=fun H=>⟨hM,[.str "if", .str "or", .str "and"],rfl,⟨_,_,_,lM,⟨rfl,rfl,rfl⟩,rfl,sz0 3 (by decide),hwM,⟨"then", kM0,.str "if", _,_,rfl,rfl,rfl,⟨_,rfl⟩,⟨"or", kM1,.str "or", _,_,rfl,rfl,rfl,⟨_,rfl⟩,⟨"and", kM2,.str "and", _,_,rfl,rfl,rfl,⟨_,rfl⟩,⟨rfl,rfl⟩⟩⟩⟩⟩,⟨_,_,rfl,rfl,⟨_,_,rfl,rfl,⟨_,_,rfl,rfl,rfl⟩⟩⟩⟩
  mgN:=mg_of X G aN
  rpN:=sW (vs:=[.str "and", .str "or", .str "not", .str "then"]) lN rfl rfl (sz0 4 (by decide)) (.cons ⟨_,rfl⟩ (.cons ⟨_,rfl⟩ (.cons ⟨_,rfl⟩ (.cons ⟨_,rfl⟩ .nil)))) fun H=>⟨_,_,rfl,rfl,⟨_,_,rfl,rfl,⟨_,_,rfl,rfl,⟨_,_,rfl,rfl,rfl⟩⟩⟩⟩
  mgJ:=mg_of X G aJ
  rpJ:=sW (vs:=[.str "(", .str ")", .str "not", .str "and", .str "or", .str "then"]) lJ rfl rfl (sz0 6 (by decide)) (.cons ⟨_,rfl⟩ (.cons ⟨_,rfl⟩ (.cons ⟨_,rfl⟩ (.cons ⟨_,rfl⟩ (.cons ⟨_,rfl⟩ (.cons ⟨_,rfl⟩ .nil)))))) fun H=>⟨_,_,rfl,rfl,⟨_,_,rfl,rfl,⟨_,_,rfl,rfl,⟨_,_,rfl,rfl,⟨_,_,rfl,rfl,⟨_,_,rfl,rfl,rfl⟩⟩⟩⟩⟩⟩ }
 obtain ⟨fd,hb,hx,hF⟩:=zkb (P:=l.prog) (w:=w) T (HD.mk' l27 c27 k27);exact ⟨fd,hb,hx,fun base _ _=>hF base⟩
end K13
namespace PySem.W.Fast
def tw16151452570615924001:=0
def tw739586511802224477:=0
def tw5852113399239496668:=0
def tw7058193843752228934:=0
def tw15238228639406756455:=0
def tw17251181565412597140:=0
def tw10246054312344333598:=0
def tw11659256115699249783:=0
def tw10577938878325732601:=0
def tw16820973875372597548:=0
def tw17273485536117430341:=0
def tw5671090199621701226:=0
def tw900370708383855793:=0
def tw16312281173135629337:=0
def tw17600920497435072763:=0
def tw5761882068094534505:=0
def tw3884305296943332123:=0
def tw10915576963223347211:=0
def tw13770641100931873261:=0
def tw13818749406404823375:=0
def tw599054087981924593:=0
def tw14211517117763435646:=0
def tw15436132591730518415:=0
def tw9085037619335748887:=0
def tw17496629394993166862:=0
def tw14016941603155762113:=0
def tw1988986768497924892:=0
def tw17334118971973867916:=0
def tw7561653283809752573:=0
def tw2870364490878193547:=0
def tw374943902783690994:=0
def tw17599881439519188012:=0
def tw7585639256910660085:=0
def tw1055778355661637738:=0
def tw13151805853778798953:=0
def tw3089823093956288850:=0
def tw13075756271200691057:=0
def tw4486364567849136772:=0
def tw3964679203620431375:=0
def tw8141173159373481691:=0
def tw7664721722490177414:=0
def tw10043242819357401673:=0
def tw14673773378305989711:=0
def tw2151464160734781562:=0
def tw15354306848242590585:=0
def tw4440374658426367464:=0
def tw3052011252741177722:=0
def tw8093833332186742284:=0
def tw4415385041593083076:=0
def tw13521999691040121837:=0
def tw39634603090832263:=0
def tw11102920724844975003:=0
def tw535164121905246105:=0
def tw12993879356046889579:=0
def tw5317280030617769556:=0
def tw13913934372895478270:=0
def tw12551109612710147560:=0
def tw1345725511106121255:=0
def tw18439529544932641021:=0
def tw6248856798258323971:=0
def tw15534534893772105381:=0
def tw14660265161882828562:=0
def tw14815076484478302278:=0
def tw1930645024260288844:=0
def tw11785740005722527186:=0
def tw16657852611899837711:=0
def tw6247583516997964790:=0
def tw10049335116948783765:=0
def tw17826015557066727291:=0
def tw5326084374395594968:=0
def tw8908564392777537272:=0
def tw8374650276786076452:=0
def tw471107918181793869:=0
def tw2645297392742006719:=0
def tw6910525731139764946:=0
def tw17147225918031367852:=0
def tw12792772300446951192:=0
def tw6391520328157279941:=0
def tw9599965527458787609:=0
def tw15093117203111693751:=0
def tw17462978657171477052:=0
def tw687743044845488872:=0
def tw4857706226095415842:=0
def tw13401771234072234918:=0
def tw13096784686743263773:=0
def tw9484524238553010114:=0
def tw17830749662304465101:=0
def tw13502938502235985152:=0
def tw17301499489247921720:=0
def tw16410991713878749806:=0
def tw1264842864463632:=0
def tw18324689591523433713:=0
def tw17920042818049964864:=0
def tw2466951960663055762:=0
def tw8109242164435164063:=0
def tw8732936696134404801:=0
def tw8573683828777430067:=0
def tw7726277673171567320:=0
def tw17323936251942043236:=0
def tw8991020943739559230:=0
def tw9437640140967735836:=0
def tw6542200547494940663:=0
def tw424890178485347259:=0
def tw11985396957995141697:=0
def tw6349528297800608420:=0
def tw15078018319975444055:=0
def tw5061469116418582462:=0
def tw1986152387508205713:=0
def tw13712191694678698853:=0
def tw5448476400177144934:=0
def tw2339360735825885881:=0
def tw2784383315348824824:=0
def tw3456407510981978554:=0
def tw18339778807867303838:=0
def tw17172026952444547524:=0
def tw17950611736815095412:=0
def tw6979500425050503236:=0
def tw12312406884797145486:=0
def tw15928694357221478213:=0
def tw4278967318318608085:=0
def tw4089569042920998366:=0
def tw1197858775822238174:=0
def tw5678390888572793483:=0
def tw10966852455499994094:=0
def tw9706949250524895342:=0
def tw8215233255423767027:=0
def tw16420934154729569069:=0
def tw16963052172377600052:=0
def tw7290011467006586097:=0
def tw11172399527074607731:=0
def tw11466293178171740391:=0
def tw9065072532934902323:=0
def tw17269380883140905961:=0
def tw8695341851697648340:=0
def tw4901043733521531747:=0
def tw9997111980769059902:=0
def tw16440340684781757281:=0
def tw10269122531556374305:=0
def tw12877028136106433446:=0
def tw10532106784085729452:=0
def tw10977709713148097579:=0
def tw7982366083587833681:=0
def tw2432685091323389681:=0
def tw16904226652062092728:=0
def tw18136384218365602964:=0
def tw5544505922920884781:=0
def tw9944017377832706799:=0
def tw8345074286624533692:=0
def tw5404870146352593871:=0
def tw15938054810262380091:=0
def tw11774215873236874657:=0
def tw17431209310045327641:=0
def tw3773524774010916578:=0
def tw3434964077881333327:=0
def tw2195036151349517930:=0
def tw11191868429734827763:=0
def tw5364460741481986989:=0
def tw16417254192452998791:=0
def tw15987446205664549123:=0
def tw9851159975495777702:=0
def tw8865389029083424869:=0
def tw8773434344413667316:=0
def tw8673591424521831468:=0
def tw8366678757928959490:=0
def tw7812664191520150354:=0
def tw7371278808957646933:=0
def tw73229219286269904:=0
def tw7217348304128591330:=0
def tw6892349243215434122:=0
def tw6720802998057421173:=0
def tw6082032943724546565:=0
def tw5225178702862005013:=0
def tw5127189166419840628:=0
def tw5103989852955606517:=0
def tw4868753824664462335:=0
def tw4110275234518395492:=0
def tw3589703270863687775:=0
def tw3347436147203130541:=0
def tw3184657449898540303:=0
def tw2967512890495057027:=0
def tw2698816669814149075:=0
def tw2357366572380845717:=0
def tw1850892120266315313:=0
def tw1801484330932080337:=0
def tw179921431469776012:=0
def tw17751907761914680845:=0
def tw17729850323346356722:=0
def tw17279364040186133016:=0
def tw16644465440502051145:=0
def tw16380367650549621747:=0
def tw15836427031635376687:=0
def tw15748571403908494693:=0
def tw15234820138978980226:=0
def tw15091469571752442167:=0
def tw15074008032154022999:=0
def tw14995709901627562997:=0
def tw14698936533429587767:=0
def tw12992507610453095824:=0
def tw12966299008369857984:=0
def tw12956413419765352402:=0
def tw12701655917748635417:=0
def tw12551997446713710851:=0
def tw1232049511643116870:=0
def tw12142367957629253395:=0
def tw11854564049322249196:=0
def tw11631884922992431628:=0
def tw11542622028300342627:=0
def tw11265166893477708823:=0
def tw10970268318172552470:=0
def tw10932092579907948975:=0
end PySem.W.Fast
open PySem PySem.W PyProof.Rows
set_option maxRecDepth 100000 in
set_option maxHeartbeats 0 in
theorem PySem.Challenge.cw_talkcourt_k13_read_loosely_holds : PySem.Challenge.rw_talkcourt_k13_read_loosely.Holds := by
 w_on;o_law;k_head;(case hw=>w_witness2)
 k_fill
 refine L3.walk3 (l:=PySem.Challenge.rw_talkcourt_k13_read_loosely) (k:=142) rfl rfl ⟨rfl,rfl,by decide,by decide⟩ (fun w h Y=>PySem.W.kIn_of Y) ?F
 case F =>
  intro w mg fa h KX G hmg;refine' K13.all_mk KX G hmg ?a1 ?l1 ?c1 ?k1 ?a2 ?l2 ?c2 ?k2 ?a3 ?l3 ?c3 ?k3 ?a4 ?l4 ?c4 ?k4 ?a5 ?l5 ?c5 ?k5 ?a6 ?l6 ?c6 ?k6 ?a7 ?l7 ?c7 ?k7 ?a8 ?l8 ?c8 ?k8 ?a9 ?l9 ?c9 ?k9 ?a10 ?l10 ?c10 ?k10 ?a11 ?l11 ?c11 ?k11 ?a12 ?l12 ?c12 ?k12 ?a13 ?l13 ?c13 ?k13 ?a14 ?l14 ?c14 ?k14 ?a15 ?l15 ?c15 ?k15 ?a16 ?l16 ?c16 ?k16 ?a17 ?l17 ?c17 ?k17 ?a18 ?l18 ?c18 ?k18 ?a19 ?l19 ?c19 ?k19 ?a20 ?l20 ?c20 ?k20 ?a21 ?l21 ?c21 ?k21 ?a22 ?l22 ?c22 ?k22 ?a23 ?l23 ?c23 ?k23 ?a24 ?l24 ?c24 ?k24 ?a25 ?l25 ?c25 ?k25 ?a26 ?l26 ?c26 ?k26 ?a27 ?l27 ?c27 ?k27 ?z0 ?z1 ?z2 ?z3 ?z4 ?z5 ?z6 ?z7 ?z8 ?z9 ?z10 ?z11 ?aLo ?aSi ?nb ?aS ?lS ?cS ?kS ?aO ?lO ?cO ?kO ?aB ?lB ?hwB ?aL ?lL ?hwL ?aW ?lW ?hwW ?aR ?lR ?hwR ?aT ?lT ?hwT ?aM ?lM ?hwM ?lt1 ?lt2 ?lt3 ?lt4 ?aN ?lN ?aJ ?lJ
  case a1|l1|c1|k1|a2|l2|c2|k2|a3|l3|c3|k3|a4|l4|c4|k4|a5|l5|c5|k5|a6|l6|c6|k6|a7|l7|c7|k7|a8|l8|c8|k8|a9|l9|c9|k9|a10|l10|c10|k10|a11|l11|c11|k11|a12|l12|c12|k12|a13|l13|c13|k13|a14|l14|c14|k14|a15|l15|c15|k15|a16|l16|c16|k16|a17|l17|c17|k17|a18|l18|c18|k18|a19|l19|c19|k19|a20|l20|c20|k20|a21|l21|c21|k21|a22|l22|c22|k22|a23|l23|c23|k23|a24|l24|c24|k24|a25|l25|c25|k25|a26|l26|c26|k26|a27|l27|c27|k27|z0|z1|z2|z3|z4|z5|z6|z7|z8|z9|z10|z11|aLo|aSi|nb|aS|lS|cS|kS|aO|lO|cO|kO|aB|lB|aL|lL|aW|lW|aR|lR|aT|lT|aM|lM|lt1|lt2|lt3|lt4|aN|lN|aJ|lJ=>k_is
  case hwB=>first|k_is|decide|rfl
  case hwL=>first|k_is|decide|rfl
  case hwW=>first|k_is|decide|rfl
  case hwR=>first|k_is|decide|rfl
  case hwT=>first|k_is|decide|rfl
  case hwM=>first|k_is|decide|rfl
