import PyProof.Rows.All
import Wide.All
import OpenK.AllK
import Wide.FinOn
import Lean
import PyProof.EqAt
import PyProof.EqKinds
import PyProof.TupleCall
import PySem.Challenge.RW_talkcourt_k15_whole_any_saying_and_its_t
set_option Elab.async false
set_option linter.all false
set_option maxRecDepth 100000
set_option maxHeartbeats 8000000
theorem zzN:¬ (false=true):=Bool.false_ne_true
theorem zzB:(false=true)=False:=Bool.false_eq_true
theorem zzC {α:Type _} {a:α} {l:List α}:(a::l).length=l.length+1:=rfl
theorem zzL {α:Type _}:([]:List α).length=0:=rfl
theorem zzA (n:Nat):0+n=n:=Nat.zero_add n
theorem zzM {α β:Type _} {l:List α} {f:α->β}:(l.map f).length=l.length:=List.length_map f
theorem zzP {α β:Type _} {b:β} {l:List α} {f:α->β} (h:b∈l.map f):∃ a,a∈l/\f a=b:=List.mem_map.mp h
theorem zzS {α:Type _} {l:List α}:l.toArray.size=l.length:=List.size_toArray
theorem zzR (n:Nat):n<=n:=Nat.le_refl n
theorem zzO {α:Type _} {a b:α} (h:a∈[b]):a=b:=List.mem_singleton.mp h
theorem zzT {α:Type _} {a:α} {l:List α}:a∈a::l:=List.mem_cons_self
theorem zzU {α β:Type _} {a:α} {l:List α} {f:α->β}:(a::l).map f=f a::l.map f:=rfl
theorem zzV {α β:Type _} {f:α->β}:([]:List α).map f=[]:=rfl
theorem zzW {α:Type _} {l l':List α}:(l++l').length=l.length+l'.length:=List.length_append
noncomputable section
namespace L2
open PySem
theorem zaI {M:Model} {Γ:Ctx} {p:Pos} {t:Sem Fin} {fs:List Frame} {s s':Shared} {e:End} (h:Runs M Γ p t fs s e s'):s.toks<=s'.toks:=by
 induction h<;>(try simp only [Shared.setGen] at *)<;>omega
theorem zes {M:Model} {Γ:Ctx} {p:Pos} {g:Nat} {r:Resume} {s s':Shared} {res:GenResult} (h:Wakes M Γ p g r s res s'):s.toks<=s'.toks:=by
 unfold Wakes at h
 split at h
 .exact h.elim
 .split at h
  .obtain ⟨e,s1,h,_,_,rfl⟩:=h;have:=zaI h;exact this
  .rw [h.2];exact zzR _
  .rw [h.2];exact zzR _
 .obtain ⟨e,s1,h,_,_,rfl⟩:=h;have:=zaI h;exact this
 .rw [h.2];exact zzR _
 .rw [h.2];exact zzR _
theorem wp_up {α:Type} {M:Model} {Γ:Ctx} {n:Nat}:∀ (t:Sem α) (Q:α->Pos->Shared->Prop) (E:Value->Pos->Shared->Prop) (p:Pos) (s:Shared),n<=s.toks ->
  Sem.wp M Γ t (fun a p' s'=>n<=s'.toks->Q a p' s') (fun e p' s'=>n<=s'.toks->E e p' s') p s->Sem.wp M Γ t Q E p s:=by
 intro t
 induction t with
 |pure a=>intro Q E p s h z;rw [Sem.wp] at z ⊢;exact z h
 |raise e=>intro Q E p s h z;rw [Sem.wp] at z ⊢;exact z h
 |unsupported _=>intro Q E p s h z;rw [Sem.wp] at z;exact z.elim
 |finish _=>intro Q E p s h z;rw [Sem.wp] at z;exact z.elim
 |register _ _ _=>intro Q E p s h z;rw [Sem.wp] at z;exact z.elim
 | «yield» _ _ _ _ _=>intro Q E p s h z;rw [Sem.wp] at z;exact z.elim
 |load a part k ih=>intro Q E p s h z;rw [Sem.wp] at z ⊢;obtain ⟨o,e,z⟩:=z;exact ⟨o,e,ih o Q E p s h z⟩
 |update a part f k ih=>intro Q E p s h z;rw [Sem.wp] at z ⊢;exact ⟨z.1,ih () Q E p _ h z.2⟩
 |fresh k ih=>intro Q E p s h z;rw [Sem.wp] at z ⊢;exact ih _ Q E p _ (Nat.le_succ_of_le h) z
 |choose src m k ih=>intro Q E p s h z;rw [Sem.wp] at z ⊢;exact ⟨z.1,ih _ Q E p _ h z.2⟩
 |genState g k ih=>intro Q E p s h z;rw [Sem.wp] at z ⊢;obtain ⟨st,e,z⟩:=z;exact ⟨st,e,ih _ Q E p s h z⟩
 |resume g r l k ih=>intro Q E p s h z;rw [Sem.wp] at z ⊢;obtain ⟨res,s',w,z⟩:=z;exact ⟨res,s',w,ih _ Q E p s' (Nat.le_trans h (zes w)) z⟩
 |call c hd g l k ih=>intro Q E p s h z;rw [Sem.wp] at z ⊢;obtain ⟨r,s',w,z⟩:=z;exact ⟨r,s',w,ih _ Q E p s' (Nat.le_trans h (zaI w)) z⟩
 |_=>first|(intro Q E p s h z;rw [Sem.wp] at z;exact z.elim)|(rename_i ih;intro Q E p s h z;rw [Sem.wp] at z ⊢;exact ih _ Q E _ _ h z)
theorem wH {α:Type} {M:Model} {A:Around} {t:Sem α} {Q:α->Shared->Prop} {E:Value->Shared->Prop} {s:Shared} (h:0<s.toks) (w:wpAny M A t (fun a s'=>0<s'.toks->Q a s') E s):wpAny M A t Q E s:=fun Γ p hΓ =>
 wp_up (n:=1) t _ _ p s h (Sem.wp_mono M Γ t (post':=fun a _ s'=>1<=s'.toks->Q a s') (exc':=fun e _ s'=>1<=s'.toks->E e s') (fun _ _ _ z=>z) (fun _ _ _ z _=>z) p s (w Γ p hΓ))
theorem zcg {M:Model} {A:Around} {E:Value->Shared->Prop} {s:Shared} {scope:Scope} {gl:Addr} {x:Str} {u:Value} {qual:Str} {fn:Option Addr} {code:Value} {bl:Addr} {Q:Env->Shared->Prop}
  (hk:scope.kind=.function) (hx:scope.names.lookup x=some .local)
  (hQ:∀ env,env=newEnv scope s.heap.objs.size gl (cellsFrom (s.heap.objs.size+1) scope.names []) qual fn code none bl ->
   ∀ s',InCallC s env.locals (bindL env.kindOf [(x,u)] fun _=>none) env.cells (bindC env.kindOf [(x,u)] fun _=>none) s'->0<s'.toks->Q env s') :
  wpAny M A (newFunctionEnv scope gl [] [(x,u)] qual fn code none bl) Q E s:=by
 simp only [newFunctionEnv,Option.isSome_none,zzB,if_false];refine wpAny_bind (wpAny_alloc (wpAny_bind (wpAny_layCells _ (fun name kind cells=>by cases h:kind==NameKind.cell<;>simp [h]) _ _ _ _ ?_)));have ok:=cellsFrom_ok scope.names (s.heap.push { cls:=.type "frame", data:=.dict #[] }) (s.heap.objs.size+1) [] ⟨fun _ _ z=>(nomatch z),List.Pairwise.nil⟩ (by rw [Heap.size_push];exact zzR _);rw [Heap.size_push] at ok;rw [show ({ s with heap:=s.heap.push { cls:=.type "frame", data:=.dict #[] } }:Shared).heap.objs.size=s.heap.objs.size+1 from Heap.size_push ..];have ns:=(Heap.Ns.new s.heap (.type "frame")).keeps (pushCells_keeps scope.names (s.heap.push { cls:=.type "frame", data:=.dict #[] }));rw [List.forIn_cons];refine wpAny_bind (wpAny_bind (wpAny_bind (wpAny_storeName_local (env:=newEnv scope s.heap.objs.size gl (cellsFrom (s.heap.objs.size+1) scope.names []) qual fn code none bl) hx ns (fun h' hn' hs'=>wpAny_pure ?_) (by show (scope.kind==ScopeKind.class || (scope.kind==ScopeKind.module&&(s.heap.objs.size != gl)))=false;rw [hk];rfl))));show wpAny M A (forIn [] _ _) _ _ _;rw [List.forIn_nil];refine wpAny_pure (wpAny_pure (hQ _ rfl _ ⟨⟨⟨h',_,rfl⟩,?_,fun b o e=>?_,zzR _⟩,fun n c hc=>?_,ok.apart,fun n c hm=>(ok.empty n c hm).2⟩ (Nat.succ_pos _)))
 .have e:(newEnv scope s.heap.objs.size gl (cellsFrom (s.heap.objs.size+1) scope.names []) qual fn code none bl).kindOf x=some .local:=hx;unfold bindL bindL;rw [if_pos e];exact hn'
 .exact (hs'.2 b (Nat.ne_of_lt (Heap.lt_size e))).trans (pushCells_keeps _ _ b o (Heap.get?_push_of_some _ e))
 .have e:(newEnv scope s.heap.objs.size gl (cellsFrom (s.heap.objs.size+1) scope.names []) qual fn code none bl).kindOf x=some .local:=hx;unfold bindC bindC;rw [if_pos e];have q:=ok.empty n c (mem_of_lookup hc);exact q.1.sameBut hs' (Nat.ne_of_gt q.2)
theorem zcf {M:Model} {A:Around} {E:Value->Shared->Prop} {s:Shared} {scope:Scope} {gl:Addr} {ps:List Str} {us:List Value} {qual:Str} {fn:Option Addr} {code:Value} {bl:Addr} {Q:Env->Shared->Prop}
  (hk:scope.kind=.function) (hkind:∀ x∈ps.zip us,scope.names.lookup x.1=some .local\/(scope.names.lookup x.1=some .cell/\((cellsFrom (s.heap.objs.size+1) scope.names []).lookup x.1).isSome=true))
  (hl:us.length=ps.length) (hp:0<s.toks\/∃ x,ps=[x]/\scope.names.lookup x=some .local)
  (hQ:∀ env,env=newEnv scope s.heap.objs.size gl (cellsFrom (s.heap.objs.size+1) scope.names []) qual fn code none bl ->
   ∀ s',InCallC s env.locals (bindL env.kindOf (ps.zip us) fun _=>none) env.cells (bindC env.kindOf (ps.zip us) fun _=>none) s'->0<s'.toks->Q env s') :
  wpAny M A (newFunctionEnv scope gl [] (ps.zip us) qual fn code none bl) Q E s:=by
 rcases hp with hp|⟨x,rfl,hx⟩
 .exact wH hp (wpAny_newFunctionEnv_cells hk hkind hQ)
 .cases us with
  |nil=>cases hl
  |cons u r =>
   cases r with
   |nil=>exact zcg hk hx hQ
   |cons _ _=>cases hl
end L2
namespace L2
open PySem PySem.Spec PyProof.Rows
abbrev yD:=Sum Int Str
def fD:yD->Value->Bool
 | .inl k,v=>Value.isInt k v
 | .inr x,v=>Value.isStrOf x v
def keyH (w:World):yD->Int
 | .inl k=>hashInt k
 | .inr x=>hashStr w x
theorem yA:∀ {k:yD} {v:Value},fD k v=true->(∃ i t,k=Sum.inl i/\v=Value.int i t)\/(∃ x t,k=Sum.inr x/\v=Value.str x t)
 | .inl i,v,h=>by
  obtain ⟨t,e⟩:=Value.isInt_shape (k:=i) (v:=v) h;exact .inl ⟨i,t,rfl,e⟩
 | .inr x,v,h=>by
  obtain ⟨t,e⟩:=Value.isStrOf_shape (x:=x) (v:=v) h;exact .inr ⟨x,t,rfl,e⟩
theorem zdD (i:Int) (t:Tok):fD (.inl i) (.int i t)=true:=by simp [fD,Value.isInt]
theorem zdB (x:Str) (t:Tok):fD (.inr x) (.str x t)=true:=by simp [fD,Value.isStrOf]
theorem zj6 (a b:Int):decide ((Sum.inl a:yD)=Sum.inl b)=(a==b):=by
 by_cases e:a=b
 .subst e;simp
 .have h:¬ (Sum.inl a:yD)=Sum.inl b:=fun q=>e (Sum.inl.inj q);rw [decide_eq_false h];exact (beq_eq_false_iff_ne.mpr e).symm
theorem zj2 (a b:Str):decide ((Sum.inr a:yD)=Sum.inr b)=decide (a=b):=by
 by_cases e:a=b
 .subst e;simp
 .have h:¬ (Sum.inr a:yD)=Sum.inr b:=fun q=>e (Sum.inr.inj q);rw [decide_eq_false h,decide_eq_false e]
theorem zj5 (a:Int) (b:Str):decide ((Sum.inl a:yD)=Sum.inr b)=false:=decide_eq_false (fun q=>nomatch q)
theorem zj3 (a:Str) (b:Int):decide ((Sum.inr a:yD)=Sum.inl b)=false:=decide_eq_false (fun q=>nomatch q)
def xP (prog:Program) (w:World):PySem.KeyKind prog w yD where
 is:=fD
 hash:=keyH w
 inj:=fun v a b ha hb=>by
  rcases yA ha with ⟨i,t,rfl,rfl⟩|⟨x,t,rfl,rfl⟩
  .rcases yA hb with ⟨j,u,rfl,e⟩|⟨y,u,rfl,e⟩
   .injection e with e1 _;rw [e1]
   .exact nomatch e
  .rcases yA hb with ⟨j,u,rfl,e⟩|⟨y,u,rfl,e⟩
   .exact nomatch e
   .injection e with e1 _;rw [e1]
 byValue:=fun k v h=>by
  rcases yA h with ⟨i,t,rfl,rfl⟩|⟨x,t,rfl,rfl⟩<;>rfl
 pyHash:=fun hv h=>by
  rcases yA hv with ⟨i,t,rfl,rfl⟩|⟨x,t,rfl,rfl⟩
  .exact wpAny_pyHash_int h
  .exact wpAny_pyHash_str h
 eqBool:=fun hu hv h=>by
  rcases yA hu with ⟨i,t,rfl,rfl⟩|⟨x,t,rfl,rfl⟩
  .rcases yA hv with ⟨j,u,rfl,rfl⟩|⟨y,u,rfl,rfl⟩
   .rw [zj6] at h;exact wpAny_eqBool_int h
   .rw [zj5] at h;exact SeqAt.EqAt.int_str i t y u _ _ _ _ h
  .rcases yA hv with ⟨j,u,rfl,rfl⟩|⟨y,u,rfl,rfl⟩
   .rw [zj3] at h;exact SeqAt.EqAt.str_int x t j u _ _ _ _ h
   .rw [zj2] at h;exact wpAny_eqBool_str h
 «strs»:=fun k x t v h=>by
  rcases yA h with ⟨i,u,rfl,e⟩|⟨y,u,rfl,e⟩
  .exact nomatch e
  .injection e with e1 _
   subst e1;cases v<;>rfl
theorem zaP (prog:Program) (w:World) (i:Int) (t:Tok):(xP prog w).is (.inl i) (.int i t)=true:=zdD i t
theorem zaO (prog:Program) (w:World) (x:Str) (t:Tok):(xP prog w).is (.inr x) (.str x t)=true:=zdB x t
end L2
namespace L2
open PySem PySem.Spec PyProof.Rows
inductive V where
 |non|bl (b:Bool)|int (i:Int)|str (x:Str)|byt (b:Array UInt8)|flt (b:UInt64)|ref (a:Addr)|ty (n:String)
 deriving DecidableEq
def zD:V->Value->Prop
 | .non,u=>u=Value.none
 | .bl b,u=>u=Value.bool b
 | .int i,u=>∃ t,u=Value.int i t
 | .str x,u=>∃ t,u=Value.str x t
 | .byt b,u=>∃ t,u=Value.bytes b t
 | .flt b,u=>∃ t,u=Value.float b t
 | .ref a,u=>u=Value.ref a
 | .ty n,u=>u=Value.type n
abbrev zE:List V->List Value->Prop:=Paired zD
theorem zE.length {xs:List V} {us:List Value} (r:zE xs us):xs.length=us.length:=Paired.length r
theorem zE.get:∀ {xs:List V} {us:List Value} {i:Nat} {x:V},zE xs us->xs[i]?=some x->∃ u,us[i]?=some u/\zD x u
 |_,_,_,_,.nil,e=>by simp at e
 |_,_,0,_,.cons r _,e=>by simp at e;subst e;exact ⟨_,rfl,r⟩
 |_,_,i+1,x,.cons _ t,e=>by
  obtain ⟨u,h1,h2⟩:=zE.get (i:=i) (x:=x) t (by simpa using e);exact ⟨u,by simpa using h1,h2⟩
theorem zE.set {x:V} {u:Value} (r:zD x u):∀ {xs:List V} {us:List Value} (i:Nat),zE xs us->zE (xs.set i x) (us.set i u)
 |_,_,_,.nil=>.nil
 |_,_,0,.cons _ t=>.cons r t
 |_,_,i+1,.cons q t=>.cons q (zE.set r i t)
theorem zE.append:∀ {xs ys:List V} {us ws:List Value},zE xs us->zE ys ws->zE (xs++ys) (us++ws)
 |_,_,_,_,.nil,s=>s
 |_,_,_,_,.cons r t,s=>.cons r (zE.append t s)
theorem zE.take:∀ {xs:List V} {us:List Value} (n:Nat),zE xs us->zE (xs.take n) (us.take n)
 |_,_,0,_=>.nil
 |_,_,_+1,.nil=>.nil
 |_,_,n+1,.cons r t=>.cons r (zE.take n t)
theorem zE.drop:∀ {xs:List V} {us:List Value} (n:Nat),zE xs us->zE (xs.drop n) (us.drop n)
 |_,_,0,r=>r
 |_,_,_+1,.nil=>.nil
 |_,_,n+1,.cons _ t=>zE.drop n t
theorem zE.none_of:∀ {xs:List V} {us:List Value} {i:Nat},zE xs us->xs[i]?=none->us[i]?=none:=fun {xs us i} r e=>by
 have h1:=r.length;have h2:xs.length<=i:=List.getElem?_eq_none_iff.mp e;exact List.getElem?_eq_none_iff.mpr (by omega)
def pL:Option V->Option Value->Prop
 |some v,some u=>zD v u
 |none,none=>True
 |_,_=>False
def KV {κ:Type}:List (κ×V)->List (κ×Value)->Prop:=Paired fun (p:κ×V) (q:κ×Value)=>p.1=q.1/\zD p.2 q.2
def kV:yD->V
 | .inl i=>.int i
 | .inr x=>.str x
inductive HO where
  |lst (xs:List V)
  |tup (xs:List V)
  |dK (kvs:List (yD×V))|dT (kvs:List (List yD×V))
  |set (S:Int->Bool) (n:Nat)
  |ins (C dx:Addr) (fs:List (Str×V))
  |own (x:Addr)
  |xd (fs:List (Str×V))
  |met (f x:Addr)
  |rng (lo hi:Int)
  |frz (o:Obj) (u:HO)
  |tbl (ps:Array Value)
  |ext (φ:Heap->Prop)
abbrev Hp:=Addr->Option HO
def xI (H:Hp) (a:Addr) (o:HO):Hp:=fun b=>if b=a then some o else H b
theorem wW {H:Hp} {a:Addr} {o:HO}:xI H a o a=some o:=by unfold xI;rw [if_pos rfl]
theorem zB {H:Hp} {a b:Addr} {o:HO} (h:b≠a):xI H a o b=H b:=by unfold xI;rw [if_neg h]
theorem ne_of {H:Hp} {a b:Addr} {o u:HO} (h:H a=some o) (h':H b=some u) (d:o≠u):a≠b:=by
 intro e;subst e;rw [h] at h';exact d (Option.some.inj h')
theorem yN {H:Hp} {a b:Addr} {o:HO} (h:H a=some o) (h':H b=none):a≠b:=by
 intro e;subst e;rw [h] at h';cases h'
section
variable (P : Program) (w : World)
def xU (H:Hp) (h:Heap) (a:Addr):HO->Prop
 | .lst xs=>xs.length<=sizeLine/\∃ (its:List Value) (n:Nat),zE xs its/\h.get? a=some { cls:=.type "list", data:=.seq its.toArray n }
 | .tup xs=>xs.length<=sizeLine/\∃ its:List Value,zE xs its/\IsTup h a its.toArray
 | .dK kvs=>kvs.length<=sizeLine/\(a==sysModules)=false/\∃ vs,KV kvs vs/\h.DictOf (xP P w) a vs
 | .dT kvs=>kvs.length<=sizeLine/\(a==sysModules)=false/\∃ xs:List (List yD×Addr×Value),
   Paired (fun (p:List yD×V) (q:List yD×Addr×Value)=>p.1=q.1/\H q.2.1=some (.tup (p.1.map kV))/\zD p.2 q.2.2) kvs xs /\
   ∃ o es ep,h.get? a=some o/\o.ExactDict/\o.data=.dict es ep/\es.toList=xs.map (entryOfKey (tupleKind (xP P w)))/\(xs.map (·.1)).Nodup
 | .set S n=>h.SetOf (intKind P w) a S n
 | .ins C dx fs=>H dx=some (.own a)/\fs.length<=1000/\dx≠a/\h.get? a=some (PySem.W.instObj C dx) /\
   ∃ mA,h.Ns1 dx mA/\(∀ f,pL (fs.lookup f) (mA f))/\PySem.Within mA (fs.map (·.1))
 | .own _=>∃ o,h.get? a=some o
 | .xd fs=>∃ mA,h.Ns1 a mA/\∀ f,pL (fs.lookup f) (mA f)
 | .rng lo hi=>∃ t u v,h.get? a=some { cls:=.type "range", data:=.fields #[.int lo t,.int hi u,.int 1 v] }
 | .frz o u=>h.get? a=some o/\xU H h a u
 | .tbl ps=>h.get? a=some { cls:=.none,data:=.fields ps }
 | .met f x=>h.get? a=some (PySem.W.methodObj (.ref f) (.ref x))
 | .ext φ=>φ h/\(∃ o,h.get? a=some o)/\∀ h1 h2:Heap,φ h1->(∀ o,h1.get? a=some o->h2.get? a=some o)->φ h2
def tL (H:Hp) (h:Heap):Prop:=∀ a o,H a=some o->xU P w H h a o
end
section
variable {P : Program} {w : World} {H H' : Hp} {h h' : Heap} {a : Addr} {o : HO}
theorem xU.lt (x:xU P w H h a o):a<h.objs.size:=by
 cases o with
 |lst xs=>obtain ⟨_,_,_,_,e⟩:=x;exact Heap.lt_size e
 |tup xs=>obtain ⟨_,_,_,p⟩:=x;exact p.lt
 |dK kvs=>obtain ⟨_,_,_,_,o,_,_,e,_⟩:=x;exact Heap.lt_size e
 |dT kvs=>obtain ⟨_,_,_,_,o,_,_,e,_⟩:=x;exact Heap.lt_size e
 |set S n=>obtain ⟨o,_,_,_,e,_⟩:=x;exact Heap.lt_size e
 |ins C dx fs=>obtain ⟨_,_,_,e,_⟩:=x;exact Heap.lt_size e
 |own y=>obtain ⟨_,e⟩:=x;exact Heap.lt_size e
 |xd fs=>obtain ⟨_,⟨_,_,_,e,_⟩,_⟩:=x;exact Heap.lt_size e
 |rng lo hi=>obtain ⟨_,_,_,e⟩:=x;exact Heap.lt_size e
 |frz ob u=>obtain ⟨e,_⟩:=x;exact Heap.lt_size e
 |tbl ps=>exact Heap.lt_size (show h.get? a=some _ from x)
 |met f y=>exact Heap.lt_size (show h.get? a=some _ from x)
 |ext φ=>obtain ⟨_,⟨_,e⟩,_⟩:=x;exact Heap.lt_size e
theorem Paired.mapP {α β:Type} {F G:α->β->Prop}:∀ {l₁:List α} {l₂:List β},Paired F l₁ l₂->(∀ a b,F a b->G a b)->Paired G l₁ l₂
 |_,_,.nil,_=>.nil
 |_,_,.cons r t,f=>.cons (f _ _ r) (Paired.mapP t f)
theorem xU.stay (x:xU P w H h a o) (k:∀ b u,(b=a\/H b=some (.own a))->h.get? b=some u->h'.get? b=some u)
  (ho:∀ b,H b=some (.own a)->H' b=some (.own a)) (ht:∀ b xs,H b=some (.tup xs)->H' b=some (.tup xs)):xU P w H' h' a o:=by
 induction o with
 |lst xs=>obtain ⟨z,its,n,r,e⟩:=x;exact ⟨z,its,n,r,k _ _ (.inl rfl) e⟩
 |tup xs=>obtain ⟨z,its,r,ob,e,c⟩:=x;exact ⟨z,its,r,ob,k _ _ (.inl rfl) e,c⟩
 |dK kvs=>obtain ⟨z,y,vs,r,ob,es,ep,e,c⟩:=x;exact ⟨z,y,vs,r,ob,es,ep,k _ _ (.inl rfl) e,c⟩
 |dT kvs =>
  obtain ⟨z,y,xs,r,ob,es,ep,e,c⟩:=x;exact ⟨z,y,xs,Paired.mapP r fun p q z=>⟨z.1,ht _ _ z.2.1,z.2.2⟩,ob,es,ep,k _ _ (.inl rfl) e,c⟩
 |set S n=>obtain ⟨ob,es,ep,t,e,c⟩:=x;exact ⟨ob,es,ep,t,k _ _ (.inl rfl) e,c⟩
 |ins C dx fs =>
  obtain ⟨d,z,ne,e,mA,⟨od,es,ep,e2,c⟩,r⟩:=x;exact ⟨ho _ d,z,ne,k _ _ (.inl rfl) e,mA,⟨od,es,ep,k _ _ (.inr d) e2,c⟩,r⟩
 |own y=>obtain ⟨ob,e⟩:=x;exact ⟨ob,k _ _ (.inl rfl) e⟩
 |xd fs=>obtain ⟨mA,⟨od,es,ep,e,c⟩,r⟩:=x;exact ⟨mA,⟨od,es,ep,k _ _ (.inl rfl) e,c⟩,r⟩
 |rng lo hi=>obtain ⟨t,u,v,e⟩:=x;exact ⟨t,u,v,k _ _ (.inl rfl) e⟩
 |frz ob u ih=>obtain ⟨e,q⟩:=x;exact ⟨k _ _ (.inl rfl) e,ih q⟩
 |tbl ps =>
  have e:h.get? a=some { cls:=.none,data:=.fields ps }:=x;show h'.get? a=some { cls:=.none,data:=.fields ps };exact k a _ (.inl rfl) e
 |met f y =>
  have e:h.get? a=some (PySem.W.methodObj (.ref f) (.ref y)):=x;show h'.get? a=some (PySem.W.methodObj (.ref f) (.ref y));exact k a _ (.inl rfl) e
 |ext φ=>obtain ⟨p,⟨o,e⟩,st⟩:=x;exact ⟨st _ _ p fun o q=>k _ _ (.inl rfl) q,⟨o,k _ _ (.inl rfl) e⟩,st⟩
theorem tL.lt (x:tL P w H h) (e:H a=some o):a<h.objs.size:=(x a o e).lt
theorem tL.fresh (x:tL P w H h) (e:h.objs.size<=a):H a=none:=by
 cases q:H a with
 |none=>rfl
 |some u=>exact absurd (Nat.lt_of_lt_of_le (x.lt q) e) (Nat.lt_irrefl _)
theorem tL.kept (x:tL P w H h) (k:∀ b u,h.get? b=some u->h'.get? b=some u):tL P w H h':=fun a o e =>
 (x a o e).stay (fun b u _ q=>k b u q) (fun _ q=>q) fun _ _ q=>q
theorem tL.laid (x:tL P w H h) (k:∀ b u,h.get? b=some u->h'.get? b=some u) (hp:h.objs.size<=a) (new:xU P w (xI H a o) h' a o):tL P w (xI H a o) h':=fun b u e=>by
 have hn:=x.fresh hp
 by_cases hb:b=a
 .subst hb;rw [wW] at e;cases e;exact new
 .rw [zB hb] at e;exact (x b u e).stay (fun c v _ q=>k c v q) (fun c q=>by rw [zB (yN q hn)];exact q) fun c xs q=>by rw [zB (yN q hn)];exact q
end
def Rd (H:Hp) (a:Addr) (u:HO):Prop:=H a=some u\/∃ o,H a=some (.frz o u)
theorem Rd.ok {P:Program} {w:World} {H:Hp} {h:Heap} {a:Addr} {u:HO} (r:Rd H a u) (x:tL P w H h):xU P w H h a u:=by
 rcases r with r|⟨o,r⟩
 .exact x a u r
 .obtain ⟨_,q⟩:=x a _ r;exact q
def Mut:Option HO->Prop
 |some (.lst _)=>True
 |some (.dK _)=>True
 |some (.dT _)=>True
 |some (.set _ _)=>True
 |some (.ins _ _ _)=>True
 |some (.ext _)=>True
 |_=>False
section
variable {P : Program} {w : World} {H : Hp} {h h' : Heap} {x e : Addr} {o' : HO}
theorem tL.write (ok:tL P w H h) (mu:Mut (H x)) (he:e=x\/H e=some (.own x)) (k:∀ b u,b≠e->h.get? b=some u->h'.get? b=some u) (heo:∃ u,h'.get? e=some u)
  (new:xU P w (xI H x o') h' x o'):tL P w (xI H x o') h':=fun b u q=>by
 have nown:∀ c y,H c=some (.own y)->c≠x:=fun c y r z=>by subst z;rw [r] at mu;exact mu
 have ntup:∀ c xs,H c=some (.tup xs)->c≠x:=fun c xs r z=>by subst z;rw [r] at mu;exact mu
 by_cases hb:b=x
 .subst hb;rw [wW] at q;cases q;exact new
 .rw [zB hb] at q
  by_cases hbe:b=e
  .have q':H b=some (.own x):=by
    rcases he with z|z
    .exact absurd (hbe.trans z) hb
    .rw [hbe];exact z
   rw [q] at q';cases q';obtain ⟨v,hv⟩:=heo;exact ⟨v,by rw [hbe];exact hv⟩
  .refine (ok b u q).stay (fun c v hc r=>k c v ?_ r) (fun c r=>by rw [zB (nown c b r)];exact r) fun c xs r=>by rw [zB (ntup c xs r)];exact r
   rcases hc with rfl|hc
   .exact hbe
   .rintro rfl;rcases he with z|z
    .exact nown c b hc z
    .rw [hc] at z;cases z;exact hb rfl
end
structure Un (fs ex:List Addr) (H H':Hp) (h h':Heap):Prop where
 keep:∀ b o,h.get? b=some o->H b=none->b∉fs->b∉ex->h'.get? b=some o
 slot:∀ b o,h.get? b=some o->H b=none->b∈fs->b∉ex->∃ sl,h'.get? b=some { o with slots:=sl }
 free:∀ b o,h.get? b=some o->H b=none->b∉ex->H' b=none
 there:∀ b o,h.get? b=some o->b∉ex->∃ o',h'.get? b=some o'
 tups:∀ b xs,H b=some (.tup xs)->H' b=some (.tup xs)
 frzs:∀ b o u,H b=some (.frz o u)->H' b=some (.frz o u)
 tbls:∀ b ps,H b=some (.tbl ps)->∃ wQ,H' b=some (.tbl (ps++wQ))
section
variable {fs fs' ex ex' : List Addr} {H H1 H2 : Hp} {h h1 h2 h' : Heap} {a x e : Addr} {o : HO}
theorem Un.any (u:Un fs ex H H1 h h1) {b:Addr} {ob:Obj} (q:h.get? b=some ob) (n:H b=none) (hx:b∉ex):∃ sl,h1.get? b=some { ob with slots:=sl }:=by
 by_cases hb:b∈fs
 .exact u.slot b ob q n hb hx
 .exact ⟨ob.slots,u.keep b ob q n hb hx⟩
theorem Un.kept (k:∀ b u,h.get? b=some u->h'.get? b=some u):Un fs ex H H h h' :=
 ⟨fun b ob q _ _ _=>k b ob q,fun b ob q _ _ _=>⟨ob.slots,k b ob q⟩,fun _ _ _ n _=>n,fun b ob q _=>⟨ob,k b ob q⟩,fun _ _ q=>q,fun _ _ _ q=>q,fun _ ps q=>⟨#[],by rw [q];simp⟩⟩
theorem Un.refl:Un fs ex H H h h:=Un.kept fun _ _ q=>q
theorem Un.laid (k:∀ b u,h.get? b=some u->h'.get? b=some u) (hp:h.objs.size<=a) (hn:H a=none):Un fs ex H (xI H a o) h h' where
 keep:=fun b u q _ _ _=>k b u q
 slot:=fun b u q _ _ _=>⟨u.slots,k b u q⟩
 free:=fun b u q n _=>by rw [zB (Nat.ne_of_lt (Nat.lt_of_lt_of_le (Heap.lt_size q) hp))];exact n
 there:=fun b u q _=>⟨u,k b u q⟩
 tups:=fun b xs q=>by rw [zB (yN q hn)];exact q
 frzs:=fun b u xs q=>by rw [zB (yN q hn)];exact q
 tbls:=fun b ps q=>⟨#[],by rw [zB (yN q hn),q];simp⟩
theorem Un.write (mu:Mut (H x)) (he:e=x\/H e=some (.own x)) (k:∀ b u,b≠e->h.get? b=some u->h'.get? b=some u) (heo:∃ u,h'.get? e=some u):Un fs ex H (xI H x o) h h':=by
 have hx:∀ b,H b=none->b≠x:=fun b n z=>by subst z;rw [n] at mu;exact mu
 have hb:∀ b,H b=none->b≠e:=fun b n z=>by
  subst z;rcases he with r|r
  .exact hx b n r
  .rw [n] at r;cases r
 have hm:∀ b u,H b=some u->¬ Mut (some u)->b≠x:=fun b u q nm z=>by subst z;rw [q] at mu;exact nm mu
 refine ⟨fun b u q n _ _=>k b u (hb b n) q,fun b u q n _ _=>⟨u.slots,k b u (hb b n) q⟩,fun b u q n _=>by rw [zB (hx b n)];exact n,fun b u q _=>?_,
  fun b xs q=>by rw [zB (hm b _ q fun z=>z)];exact q,fun b u xs q=>by rw [zB (hm b _ q fun z=>z)];exact q,fun b ps q=>⟨#[],by rw [zB (hm b _ q fun z=>z),q];simp⟩⟩
 by_cases hbe:b=e
 .subst hbe;exact heo
 .exact ⟨u,k b u hbe q⟩
end
def trk (h:Heap) (H:Hp):List Addr:=(List.range h.objs.size).filter fun a=>(H a).isSome
def hidT (h:Heap) (H:Hp):Heap:=PySem.W.hideAll h (trk h H)
theorem zdI (h:Heap) (H:Hp):(hidT h H).objs.size=h.objs.size:=PySem.W.hideAll_size _ _
theorem zfC {h:Heap} {H:Hp} {b:Addr} {o:Obj} (e:h.get? b=some o) (n:H b=none):(hidT h H).get? b=some o :=
 PySem.W.hideAll_get _ e fun hm=>by
  have q:(H b).isSome=true:=(List.mem_filter.mp hm).2;rw [n] at q;simp at q
theorem zhw {h:Heap} {H:Hp} {b:Addr} {o:Obj} (e:(hidT h H).get? b=some o):h.get? b=some o/\H b=none:=by
 have e':h.get? b=some o:=PySem.W.of_hideAll (trk h H) e;refine ⟨e',?_⟩
 cases q:H b with
 |none=>rfl
 |some x =>
  have hm:b∈trk h H:=List.mem_filter.mpr ⟨List.mem_range.mpr (Heap.lt_size e'),by simp [q]⟩;have z:(hidT h H).get? b=none:=PySem.W.hideAll_none (trk h H) hm;rw [z] at e;cases e
def ziu (g h:Heap) (L:Addr):List (Addr×Obj):=(List.range h.objs.size).filterMap fun a=>if a=L\/(g.get? a).isSome=true then none else (h.get? a).map fun o=>(a,o)
def rest (g h:Heap) (L d:Addr):List (Addr×Obj):=(ziu g h L).filter fun p=>decide (p.1≠d)
end L2
namespace L2
open PySem PySem.Spec PyProof.Rows
structure Mod (K:PySem.W.Frag) (mg:Str->Option Value) (base:Heap):Prop where
 kin:K.In base
 glob:base.Ns mainGlobals mg
 blt:∃ mb,base.Ns builtinsNs mb/\∀ x:Str,x ≠ "__name__" -> mb x=bootBuiltins x
 nolimit:base.NoLimit
structure Cx where
 prog:Program
 w:World
 K:PySem.W.Frag
 mg:Str->Option Value
 base:Heap
 A:Around
 N:List Str
 s₀:Shared
 H₀:Hp
 env:Env
 outer:List Env
 stack:List Env
 ex:List Addr
 fn:Str->Bool
 calm:Bool
 pn:List (Addr×Obj)
 xe:Value->Shared->Prop
def frs (l:List Env):List Addr:=l.filterMap (·.frame)
abbrev Cx.fs (X:Cx):List Addr:=frs X.outer
def Vis (sc:Scope) (x:Str):Prop:=sc.names.lookup x=some .local\/sc.names.lookup x=some .cell\/sc.names.lookup x=some .free
def Loc (sc:Scope) (x:Str):Prop:=sc.names.lookup x=some .local\/sc.names.lookup x=some .cell
def Look (env:Env) (h:Heap) (m:Str->Option Value) (x:Str) (u:Value):Prop :=
 (env.kindOf x=some .local/\m x=some u)\/((env.kindOf x=some .cell\/env.kindOf x=some .free)/\∃ c,env.cells.lookup x=some c/\h.IsCell c (some u))
structure Cx.Ok (X:Cx):Prop where
 mod:Mod X.K X.mg X.base
 kind:X.env.scope.kind=.function
 glob:X.env.globals=mainGlobals
 blt:X.env.builtins=builtinsNs
 above:X.s₀.heap.objs.size<=X.env.locals
 inj:∀ x y c,X.env.cells.lookup x=some c->X.env.cells.lookup y=some c->x=y
 has:∀ x,(X.env.kindOf x=some .cell\/X.env.kindOf x=some .free)->∃ c,X.env.cells.lookup x=some c
 cab:∀ x c,X.fn x=true->X.env.cells.lookup x=some c->X.s₀.heap.objs.size<=c
 hd:X.calm=true->X.A.handled=none
 frames:X.A.frames=some X.stack
 stk:X.stack=X.outer\/(X.stack=X.env::X.outer/\X.env.frame=some X.env.locals)
 exf:∀ b∈X.ex,b≠X.env.locals/\∀ x c,X.env.cells.lookup x=some c->c≠b
 bs:∀ b o,X.base.get? b=some o->X.s₀.heap.get? b=some o/\X.H₀ b=none
 bsz:X.base.objs.size<=X.s₀.heap.objs.size
 noex:∀ b o,X.base.get? b=some o->b∉X.ex
 exfs:∀ b∈X.ex,b∉X.fs
 funs:X.s₀.heap.FunFrames X.base X.outer
 frf:∀ b∈X.fs,X.H₀ b=none
structure Inv (X:Cx) (pins:List (Addr×Obj)) (σ:List (Option V)) (H:Hp) (s:Shared):Prop where
 ok:X.Ok
 os:s.os=X.s₀.os
 bare:AllBare s.gens
 base:Un X.fs X.ex X.H₀ H X.s₀.heap s.heap
 loc:∃ m,s.heap.Ns X.env.locals m/\∀ (i:Nat) (x:Str) (v:V),X.N[i]?=some x->σ[i]?=some (some v)->Vis X.env.scope x->∃ u,zD v u/\Look X.env s.heap m x u
 cell:∀ x c,X.env.cells.lookup x=some c->∃ v,s.heap.IsCell c v
 free:H X.env.locals=none
 freeC:∀ x c,X.env.cells.lookup x=some c->H c=none
 pin:∀ p∈X.pn++pins,s.heap.get? p.1=some p.2/\H p.1=none/\p.1≠X.env.locals/\p.1∉X.fs/\∀ v,p.2.data≠.cell v
 hok:tL X.prog X.w H s.heap
 len:σ.length=X.N.length
 tk:0<s.toks
section
variable {X : Cx} {pins : List (Addr × Obj)} {σ : List (Option V)} {H H' : Hp} {s : Shared} {h' : Heap}
theorem Cx.Ok.nofr (ok:X.Ok) {b:Addr} {o:Obj} (e:X.base.get? b=some o):b∉X.fs:=fun hb=>by
 have:=(ok.funs.mem hb).1;rw [e] at this;cases this
theorem Inv.bs (I:Inv X pins σ H s):∀ b o,X.base.get? b=some o->s.heap.get? b=some o/\H b=none:=fun b o e =>
 ⟨I.base.keep b o (I.ok.bs b o e).1 (I.ok.bs b o e).2 (I.ok.nofr e) (I.ok.noex b o e),I.base.free b o (I.ok.bs b o e).1 (I.ok.bs b o e).2 (I.ok.noex b o e)⟩
theorem Inv.bk (I:Inv X pins σ H s):∀ b o,X.base.get? b=some o->s.heap.get? b=some o:=fun b o e=>(I.bs b o e).1
theorem Inv.mod (I:Inv X pins σ H s):Mod X.K X.mg X.base:=I.ok.mod
theorem Inv.kIn (I:Inv X pins σ H s):X.K.In s.heap:=I.ok.mod.kin.keeps I.bk
theorem Inv.lt (I:Inv X pins σ H s):X.env.locals<s.heap.objs.size:=let ⟨_,hn,_⟩:=I.loc;hn.lt
theorem Inv.sz (I:Inv X pins σ H s):X.s₀.heap.objs.size<=s.heap.objs.size:=Nat.le_trans I.ok.above (Nat.le_of_lt I.lt)
theorem Inv.nofs (I:Inv X pins σ H s) {a:Addr} (h:s.heap.objs.size<=a):a∉X.fs:=fun hb=>by
 obtain ⟨_,o,ho,_⟩:=I.ok.funs.mem hb;exact absurd (Nat.lt_of_lt_of_le (Heap.lt_size ho) (Nat.le_trans I.sz h)) (Nat.lt_irrefl _)
theorem Inv.cne (I:Inv X pins σ H s):∀ x c,X.env.cells.lookup x=some c->c≠X.env.locals:=fun x c e z=>by
 obtain ⟨v,o,ho,hd⟩:=I.cell x c e;obtain ⟨m,⟨o',es,ep,ho',hd',_⟩,_⟩:=I.loc;rw [z,ho'] at ho;cases ho;rw [hd'] at hd;cases hd
theorem Inv.funs (I:Inv X pins σ H s):s.heap.FunFrames X.base X.outer:=by
 have all:∀ (l:List Env),(∀ b∈frs l,b∈X.fs)->X.s₀.heap.FunFrames X.base l->s.heap.FunFrames X.base l:=by
  intro l
  induction l with
  |nil=>intro _ _;trivial
  |cons env r ih =>
   intro hs hl;obtain ⟨hk,⟨L,o,hf,hn,ho,hd⟩,hr⟩:=hl;have hL:L∈X.fs:=hs L (by unfold frs;rw [List.filterMap_cons,hf];exact zzT);obtain ⟨sl,e⟩:=I.base.slot L o ho (I.ok.frf L hL) hL fun z=>I.ok.exfs L z hL;exact ⟨hk,⟨L,_,hf,hn,e,hd⟩,ih (fun b hb=>hs b (by unfold frs;rw [List.filterMap_cons,hf];exact List.mem_cons_of_mem _ hb)) hr⟩
 exact all X.outer (fun _ hb=>hb) I.ok.funs
theorem Inv.stack (I:Inv X pins σ H s):s.heap.FunFrames X.base X.stack:=by
 rcases I.ok.stk with e|⟨e,hf⟩
 .rw [e];exact I.funs
 .rw [e];obtain ⟨m,hn,_⟩:=I.loc;refine .cons (by rw [I.ok.kind];decide) hf hn ?_ I.funs;exact Heap.get?_none_of_le (Nat.le_trans I.ok.bsz I.ok.above)
theorem Inv.stkSub (I:Inv X pins σ H s):∀ b∈frs X.stack,b∈X.env.locals::X.fs:=fun b hb=>by
 rcases I.ok.stk with e|⟨e,hf⟩
 .rw [e] at hb;exact List.mem_cons_of_mem _ hb
 .rw [e] at hb;unfold frs at hb;rw [List.filterMap_cons,hf] at hb;exact hb
theorem Inv.stkFree (I:Inv X pins σ H s):∀ b∈frs X.stack,H b=none:=fun b hb=>by
 rcases List.mem_cons.mp (I.stkSub b hb) with e|hb
 .rw [e];exact I.free
 .obtain ⟨_,o,ho,_⟩:=I.ok.funs.mem hb;exact I.base.free b o ho (I.ok.frf b hb) fun z=>I.ok.exfs b z hb
theorem Inv.step {g':Array GenState} {t':Nat} {d':Drawn} {ch:List Addr} (I:Inv X pins σ H s)
  (hch:∀ b∈ch,(b∈X.ex\/X.s₀.heap.objs.size<=b)/\b≠X.env.locals/\(∀ x c,X.env.cells.lookup x=some c->c≠b)/\∀ p∈X.pn++pins,p.1≠b)
  (keep:∀ b o,b≠X.env.locals->b∉X.fs->b∉ch->s.heap.get? b=some o->H b=none->h'.get? b=some o)
  (slot:∀ b o,b≠X.env.locals->b∈X.fs->b∉ch->s.heap.get? b=some o->H b=none->∃ sl,h'.get? b=some { o with slots:=sl }) (free:∀ b o,b∉ch->s.heap.get? b=some o->H b=none->H' b=none)
  (there:∀ b o,b∉ch->s.heap.get? b=some o->∃ o',h'.get? b=some o')
  (tups:∀ b xs,H b=some (.tup xs)->H' b=some (.tup xs)) (frzs:∀ b o u,H b=some (.frz o u)->H' b=some (.frz o u)) (tbls:∀ b ps,H b=some (.tbl ps)->∃ wQ,H' b=some (.tbl (ps++wQ)))
  (ns:∀ m,s.heap.Ns X.env.locals m->h'.Ns X.env.locals m) (hok:tL X.prog X.w H' h') (hg:AllBare g') (ht:0<t':=by first|exact Nat.succ_pos _|exact L2.Inv.tk (by assumption)|exact L2.Inv.tk ‹L2.Inv _ _ _ _ _› | assumption|omega) :
  Inv X pins σ H' { s with heap:=h',gens:=g',drawn:=d',toks:=t' }:=by
 have neL:∀ b o,X.s₀.heap.get? b=some o->b≠X.env.locals:=fun b o e=>Nat.ne_of_lt (Nat.lt_of_lt_of_le (Heap.lt_size e) I.ok.above)
 have neC:∀ b o,X.s₀.heap.get? b=some o->b∉X.ex->b∉ch:=fun b o e hx hb=>by
  rcases (hch b hb).1 with z|z
  .exact hx z
  .exact absurd (Nat.lt_of_lt_of_le (Heap.lt_size e) z) (Nat.lt_irrefl _)
 have cellK:∀ x c,X.env.cells.lookup x=some c->∀ v,s.heap.IsCell c v->h'.IsCell c v:=fun x c e v ⟨o,ho,hd⟩=>by
  have nch:c∉ch:=fun z=>(hch c z).2.2.1 x c e rfl
  by_cases hc:c∈X.fs
  .obtain ⟨sl,q⟩:=slot c o (I.cne x c e) hc nch ho (I.freeC x c e);exact ⟨_,q,hd⟩
  .exact ⟨o,keep c o (I.cne x c e) hc nch ho (I.freeC x c e),hd⟩
 refine ⟨I.ok,I.os,hg,⟨fun b o e n hb hx=>?_,fun b o e n hb hx=>?_,fun b o e n hx=>?_,fun b o e hx=>?_,fun b xs e=>tups b xs (I.base.tups b xs e),fun b o xs e=>frzs b o xs (I.base.frzs b o xs e),fun b ps e=>?_⟩,?_,fun x c e=>?_,?_,fun x c e=>?_,fun p hp=>?_,hok,I.len,ht⟩
 .exact keep b o (neL b o e) hb (neC b o e hx) (I.base.keep b o e n hb hx) (I.base.free b o e n hx)
 .obtain ⟨sl,e1⟩:=I.base.slot b o e n hb hx;obtain ⟨sl',e2⟩:=slot b _ (neL b o e) hb (neC b o e hx) e1 (I.base.free b o e n hx);exact ⟨sl',e2⟩
 .obtain ⟨o',e1⟩:=I.base.there b o e hx;exact free b o' (neC b o e hx) e1 (I.base.free b o e n hx)
 .obtain ⟨o',e1⟩:=I.base.there b o e hx;exact there b o' (neC b o e hx) e1
 .obtain ⟨m1,e1⟩:=I.base.tbls b ps e;obtain ⟨m2,e2⟩:=tbls b _ e1;exact ⟨m1++m2,by rw [e2,Array.append_assoc]⟩
 .obtain ⟨m,hn,hl⟩:=I.loc;refine ⟨m,ns m hn,fun i x v e1 e2 e3=>?_⟩;obtain ⟨u,r,l⟩:=hl i x v e1 e2 e3;refine ⟨u,r,?_⟩;rcases l with l|⟨k,c,e,z⟩
  .exact .inl l
  .exact .inr ⟨k,c,e,cellK x c e _ z⟩
 .obtain ⟨v,z⟩:=I.cell x c e;exact ⟨v,cellK x c e v z⟩
 .obtain ⟨m,⟨o,_,_,ho,_⟩,_⟩:=I.loc;exact free _ o (fun z=>(hch _ z).2.1 rfl) ho I.free
 .obtain ⟨v,o,ho,hd⟩:=I.cell x c e;exact free c o (fun z=>(hch c z).2.2.1 x c e rfl) ho (I.freeC x c e)
 .obtain ⟨e,n,ne,nf,d⟩:=I.pin p hp;have nch:p.1∉ch:=fun z=>(hch p.1 z).2.2.2 p hp rfl;exact ⟨keep p.1 p.2 ne nf nch e n,free p.1 p.2 nch e n,ne,nf,d⟩
theorem Inv.un {t':Nat} (I:Inv X pins σ H s) (u:Un X.fs [] H H' s.heap h') (hok:tL X.prog X.w H' h') (ht:0<t':=by first|exact Nat.succ_pos _|exact L2.Inv.tk (by assumption)|exact L2.Inv.tk ‹L2.Inv _ _ _ _ _› | assumption|omega):Inv X pins σ H' { s with heap:=h',toks:=t' }:=by
 obtain ⟨m,⟨o,es,ep,ho,r⟩,_⟩:=id I.loc;obtain ⟨sl,hL⟩:=u.any ho I.free (by simp)
 exact I.step (g':=s.gens) (d':=s.drawn) (ch:=[]) (fun _ z=>nomatch z) (fun b o _ hb _ e n=>u.keep b o e n hb (by simp)) (fun b o _ hb _ e n=>u.slot b o e n hb (by simp)) (fun b o _ e n=>u.free b o e n (by simp)) (fun b o _ e=>u.there b o e (by simp)) u.tups u.frzs u.tbls (fun m' hm=>by
  obtain ⟨o',es',ep',ho',r'⟩:=hm;rw [ho] at ho';cases ho';exact ⟨_,es',ep',hL,r'⟩) hok I.bare
theorem Inv.call {g':Array GenState} {t':Nat} {d':Drawn} {ch:List Addr} (I:Inv X pins σ H s) (u:Un (frs X.stack) ch H H' s.heap h') (hok:tL X.prog X.w H' h') (hg:AllBare g')
  (hch:∀ b∈ch,(b∈X.ex\/X.s₀.heap.objs.size<=b)/\b≠X.env.locals/\(∀ x c,X.env.cells.lookup x=some c->c≠b)/\∀ p∈X.pn++pins,p.1≠b) (ht:0<t':=by first|exact Nat.succ_pos _|exact L2.Inv.tk (by assumption)|exact L2.Inv.tk ‹L2.Inv _ _ _ _ _› | assumption|omega) :
  Inv X pins σ H' { s with heap:=h',gens:=g',drawn:=d',toks:=t' }:=by
 obtain ⟨m,⟨o,es,ep,ho,r⟩,_⟩:=id I.loc;obtain ⟨sl,hL⟩:=u.any ho I.free fun z=>(hch _ z).2.1 rfl
 exact I.step (ch:=ch) hch (fun b o hL hb hc e n=>u.keep b o e n (fun z=>(List.mem_cons.mp (I.stkSub b z)).elim hL hb) hc) (fun b o _ _ hc e n=>u.any e n hc) (fun b o hc e n=>u.free b o e n hc) (fun b o hc e=>u.there b o e hc) u.tups u.frzs u.tbls (fun m' hm=>by
  obtain ⟨o',es',ep',ho',r'⟩:=hm;rw [ho] at ho';cases ho';exact ⟨_,es',ep',hL,r'⟩) hok hg
theorem Inv.turned {t':Nat} {it:Addr} (I:Inv X pins σ H s) (k:∀ b o,b≠it->s.heap.get? b=some o->h'.get? b=some o) (hn:H it=none) (hL:it≠X.env.locals)
  (h1:it∈X.ex\/X.s₀.heap.objs.size<=it) (h2:∀ x c,X.env.cells.lookup x=some c->c≠it) (h3:∀ p∈X.pn++pins,p.1≠it) (ht:0<t':=by first|exact Nat.succ_pos _|exact L2.Inv.tk (by assumption)|exact L2.Inv.tk ‹L2.Inv _ _ _ _ _› | assumption|omega):Inv X pins σ H { s with heap:=h',toks:=t' }:=by
 have nit:∀ b u,H b=some u->b≠it:=fun b u e z=>by rw [z,hn] at e;cases e
 refine I.step (g':=s.gens) (d':=s.drawn) (ch:=[it]) (fun b hb=>?_) (fun b o _ _ hc e _=>k b o (fun z=>hc (by simp [z])) e) (fun b o _ _ hc e _=>⟨o.slots,k b o (fun z=>hc (by simp [z])) e⟩) (fun _ _ _ _ n=>n)
  (fun b o hc e=>⟨o,k b o (fun z=>hc (by simp [z])) e⟩) (fun _ _ e=>e) (fun _ _ _ e=>e) (fun b ps e=>⟨#[],by rw [e];simp⟩) (fun m hm=>?_) (fun b u e=>?_) I.bare
 .have e:b=it:=by simpa using hb
  subst e;exact ⟨h1,hL,h2,h3⟩
 .obtain ⟨o,es,ep,ho,r⟩:=hm;exact ⟨o,es,ep,k _ o (Ne.symm hL) ho,r⟩
 .refine (I.hok b u e).stay (fun c v hc q=>k c v ?_ q) (fun _ q=>q) fun _ _ q=>q;rcases hc with z|z
  .rw [z];exact nit b u e
  .exact nit c _ z
theorem Inv.tok (I:Inv X pins σ H s) (t:Nat) (ht:0<t:=by first|exact Nat.succ_pos _|exact L2.Inv.tk (by assumption)|exact L2.Inv.tk ‹L2.Inv _ _ _ _ _› | assumption|omega):Inv X pins σ H { s with toks:=t }:=I.un (h':=s.heap) (t':=t) Un.refl I.hok
theorem Inv.kept {t':Nat} (I:Inv X pins σ H s) (k:∀ b u,s.heap.get? b=some u->h'.get? b=some u) (ht:0<t':=by first|exact Nat.succ_pos _|exact L2.Inv.tk (by assumption)|exact L2.Inv.tk ‹L2.Inv _ _ _ _ _› | assumption|omega):Inv X pins σ H { s with heap:=h',toks:=t' }:=I.un (Un.kept k) (I.hok.kept k)
theorem Inv.laid {a:Addr} {o:HO} {t':Nat} (I:Inv X pins σ H s) (k:∀ b u,s.heap.get? b=some u->h'.get? b=some u) (hp:s.heap.objs.size<=a) (new:xU X.prog X.w (xI H a o) h' a o) (ht:0<t':=by first|exact Nat.succ_pos _|exact L2.Inv.tk (by assumption)|exact L2.Inv.tk ‹L2.Inv _ _ _ _ _› | assumption|omega) :
  Inv X pins σ (xI H a o) { s with heap:=h',toks:=t' }:=I.un (Un.laid k hp (I.hok.fresh hp)) (I.hok.laid k hp new)
theorem Inv.write {x e:Addr} {o:HO} {t':Nat} (I:Inv X pins σ H s) (mu:Mut (H x)) (he:e=x\/H e=some (.own x)) (k:∀ b u,b≠e->s.heap.get? b=some u->h'.get? b=some u) (heo:∃ u,h'.get? e=some u)
  (new:xU X.prog X.w (xI H x o) h' x o) (ht:0<t':=by first|exact Nat.succ_pos _|exact L2.Inv.tk (by assumption)|exact L2.Inv.tk ‹L2.Inv _ _ _ _ _› | assumption|omega):Inv X pins σ (xI H x o) { s with heap:=h',toks:=t' }:=I.un (Un.write mu he k heo) (I.hok.write mu he k heo new)
theorem Inv.pins_of {pins':List (Addr×Obj)} (I:Inv X pins σ H s) (h:∀ p∈pins',s.heap.get? p.1=some p.2/\H p.1=none/\p.1≠X.env.locals/\p.1∉X.fs/\∀ v,p.2.data≠.cell v):Inv X pins' σ H s :=
 ⟨I.ok,I.os,I.bare,I.base,I.loc,I.cell,I.free,I.freeC,fun p hp=>(List.mem_append.mp hp).elim (fun z=>I.pin p (List.mem_append_left _ z)) (h p),I.hok,I.len,I.tk⟩
theorem zbA {N:List Str} (hN:N.Nodup) {i j:Nat} {x:Str} (a:N[i]?=some x) (b:N[j]?=some x):i=j:=by
 obtain ⟨h1,e1⟩:=List.getElem?_eq_some_iff.mp a;obtain ⟨h2,e2⟩:=List.getElem?_eq_some_iff.mp b;exact (List.getElem_inj hN).mp (e1.trans e2.symm)
theorem cC {M:Model} {A:Around} {E:Value->Shared->Prop} {i:Nat} {x:Str} {v:V} {u:Value} {Q:Unit->Shared->Prop} (I:Inv X pins σ H s) (hN:X.N.Nodup) (hi:X.N[i]?=some x) (hx:Loc X.env.scope x) (r:zD v u)
  (h:∀ s',Inv X pins (σ.set i (some v)) H s'->(∃ a,Heap.SameBut a s.heap s'.heap/\(a=X.env.locals\/X.env.cells.lookup x=some a))->Q () s') (hf:X.fn x=true\/X.env.scope.names.lookup x=some .local:=by first|exact .inl rfl|exact .inr rfl|assumption):wpAny M A (storeName X.env x u) Q E s:=by
 obtain ⟨m,hn,hl⟩:=id I.loc;have hcls:(X.env.scope.kind==.class || (X.env.scope.kind==.module&&X.env.locals != X.env.globals))=false:=by rw [I.ok.kind];rfl
 have hiσ:i<σ.length:=by rw [I.len];exact (List.getElem?_eq_some_iff.mp hi).1
 have cne:=I.cne
 have tracked:∀ {a:Addr} {h':Heap},(∃ o,s.heap.get? a=some o/\H a=none)->Heap.SameBut a s.heap h'->tL X.prog X.w H h':=fun {a h'} ha hs b ob e=>by
  obtain ⟨_,_,hfree⟩:=ha;refine (I.hok b ob e).stay (fun c w' hc q=>(hs.2 c ?_).trans q) (fun _ q=>q) fun _ _ q=>q;rintro rfl;rcases hc with rfl|hc
  .rw [hfree] at e;cases e
  .rw [hfree] at hc;cases hc
 rcases hx with hk|hk
 .refine wpAny_storeName_local hk hn (fun h' hn' hs=>?_) hcls;obtain ⟨oL,_,_,hoL,_⟩:=id hn;refine h _ ⟨I.ok,I.os,I.bare,⟨fun b o e n hb hx=>?_,fun b o e n hb hx=>?_,I.base.free,fun b o e hx=>?_,I.base.tups,I.base.frzs,I.base.tbls⟩,⟨_,hn',fun j y v' e1 e2 e3=>?_⟩,fun y c e=>?_,I.free,I.freeC,fun p hp=>?_,tracked ⟨oL,hoL,I.free⟩ hs,by simpa using I.len,Nat.succ_pos _⟩ ⟨_,hs,.inl rfl⟩
  .exact (hs.2 b (Nat.ne_of_lt (Nat.lt_of_lt_of_le (Heap.lt_size e) I.ok.above))).trans (I.base.keep b o e n hb hx)
  .obtain ⟨sl,e1⟩:=I.base.slot b o e n hb hx;exact ⟨sl,(hs.2 b (Nat.ne_of_lt (Nat.lt_of_lt_of_le (Heap.lt_size e) I.ok.above))).trans e1⟩
  .obtain ⟨o',e1⟩:=I.base.there b o e hx;exact ⟨o',(hs.2 b (Nat.ne_of_lt (Nat.lt_of_lt_of_le (Heap.lt_size e) I.ok.above))).trans e1⟩
  .by_cases hj:j=i
   .subst hj;rw [hi] at e1;cases e1;rw [List.getElem?_set_self hiσ] at e2;cases e2;exact ⟨u,r,.inl ⟨hk,by simp⟩⟩
   .rw [List.getElem?_set_ne (Ne.symm hj)] at e2;obtain ⟨u',r',q⟩:=hl j y v' e1 e2 e3;refine ⟨u',r',?_⟩;rcases q with ⟨k,e⟩|⟨k,c,e,z⟩
    .refine .inl ⟨k,?_⟩;have:y≠x:=fun e=>hj (zbA hN e1 (e▸hi));simp [this,e]
    .exact .inr ⟨k,c,e,z.sameBut hs (cne y c e)⟩
  .obtain ⟨w',z⟩:=I.cell y c e;exact ⟨w',z.sameBut hs (cne y c e)⟩
  .obtain ⟨e,n,ne,nf,d⟩:=I.pin p hp;exact ⟨(hs.2 p.1 ne).trans e,n,ne,nf,d⟩
 .have hfn:X.fn x=true:=by
   rcases hf with z|z
   .exact z
   .rw [z] at hk;cases hk
  obtain ⟨c,hc⟩:=I.ok.has x (.inl hk);obtain ⟨w',z⟩:=I.cell x c hc;refine wpAny_storeName_cell I.ok.kind hk hc z (fun h' hc' hs=>?_);obtain ⟨oc,hoc,hocd⟩:=id z;refine h { s with heap:=h' } ⟨I.ok,I.os,I.bare,⟨fun b o e n hb hx=>?_,fun b o e n hb hx=>?_,I.base.free,fun b o e hx=>?_,I.base.tups,I.base.frzs,I.base.tbls⟩,⟨m,hn.sameBut hs (Ne.symm (cne x c hc)),fun j y v' e1 e2 e3=>?_⟩,fun y c' e=>?_,I.free,I.freeC,fun p hp=>?_,tracked ⟨oc,hoc,I.freeC x c hc⟩ hs,by simpa using I.len,I.tk⟩ ⟨c,hs,.inr hc⟩
  .exact (hs.2 b (Nat.ne_of_lt (Nat.lt_of_lt_of_le (Heap.lt_size e) (I.ok.cab x c hfn hc)))).trans (I.base.keep b o e n hb hx)
  .obtain ⟨sl,e1⟩:=I.base.slot b o e n hb hx;exact ⟨sl,(hs.2 b (Nat.ne_of_lt (Nat.lt_of_lt_of_le (Heap.lt_size e) (I.ok.cab x c hfn hc)))).trans e1⟩
  .obtain ⟨o',e1⟩:=I.base.there b o e hx;exact ⟨o',(hs.2 b (Nat.ne_of_lt (Nat.lt_of_lt_of_le (Heap.lt_size e) (I.ok.cab x c hfn hc)))).trans e1⟩
  .by_cases hj:j=i
   .subst hj;rw [hi] at e1;cases e1;rw [List.getElem?_set_self hiσ] at e2;cases e2;exact ⟨u,r,.inr ⟨.inl hk,c,hc,hc'⟩⟩
   .rw [List.getElem?_set_ne (Ne.symm hj)] at e2;obtain ⟨u',r',q⟩:=hl j y v' e1 e2 e3;refine ⟨u',r',?_⟩;rcases q with q|⟨k,c',e,z'⟩
    .exact .inl q
    .refine .inr ⟨k,c',e,z'.sameBut hs ?_⟩;rintro rfl;exact hj (zbA hN e1 (I.ok.inj _ _ _ e hc▸hi))
  .by_cases hcc:c'=c
   .subst hcc;exact ⟨_,hc'⟩
   .obtain ⟨w2,z2⟩:=I.cell y c' e;exact ⟨w2,z2.sameBut hs hcc⟩
  .obtain ⟨e,n,ne,nf,d⟩:=I.pin p hp;refine ⟨(hs.2 p.1 ?_).trans e,n,ne,nf,d⟩;intro q;rw [q,hoc] at e;have q':oc=p.2:=Option.some.inj e;exact d w' (by rw [← q'];exact hocd)
theorem zbk {M:Model} {A:Around} {E:Value->Shared->Prop} {i:Nat} {x:Str} {v:V} {u:Value} {Q:Unit->Shared->Prop} (I:Inv X pins σ H s) (hN:X.N.Nodup) (hi:X.N[i]?=some x) (hx:Loc X.env.scope x) (r:zD v u)
  (h:∀ s',Inv X pins (σ.set i (some v)) H s'->Q () s') (hf:X.fn x=true\/X.env.scope.names.lookup x=some .local:=by first|exact .inl rfl|exact .inr rfl|assumption):wpAny M A (storeName X.env x u) Q E s :=
 cC I hN hi hx r (fun s' I' _=>h s' I') hf
theorem Inv.call' {s':Shared} {ch:List Addr} (I:Inv X pins σ H s) (ho:s'.os=s.os) (u:Un (frs X.stack) ch H H' s.heap s'.heap) (hok:tL X.prog X.w H' s'.heap) (hg:AllBare s'.gens)
  (hch:∀ b∈ch,(b∈X.ex\/X.s₀.heap.objs.size<=b)/\b≠X.env.locals/\(∀ x c,X.env.cells.lookup x=some c->c≠b)/\∀ p∈X.pn++pins,p.1≠b) (ht:0<s'.toks):Inv X pins σ H' s':=by
 obtain ⟨h',g',d',t',o'⟩:=s';have e:o'=s.os:=ho;subst e;exact I.call (g':=g') (t':=t') (d':=d') u hok hg hch
end
abbrev XK:=Value->Option Addr->Hp->Prop
abbrev St:=List (Option V)
abbrev VK:=V->Hp->Prop
abbrev TE:=St->Hp->VK->Prop
abbrev TT:=St->Hp->(Bool->Hp->Prop)->Prop
abbrev TA:=St->Hp->(List V->Hp->Prop)->Prop
structure Ends where
 nx:St->Hp->Prop
 rt:VK
 bk:St->Hp->Prop:=fun _ _=>False
 ct:St->Hp->Prop:=fun _ _=>False
abbrev TS:=Ends->St->Hp->Prop
def EP (X:Cx) (pins:List (Addr×Obj)) (σ:St) (Q:VK) (u:Value) (s':Shared):Prop:=∃ v H',Inv X pins σ H' s'/\zD v u/\Q v H'
def TP (X:Cx) (pins:List (Addr×Obj)) (σ:St) (Q:Bool->Hp->Prop) (b:Bool) (s':Shared):Prop:=∃ H',Inv X pins σ H' s'/\Q b H'
def AP (X:Cx) (pins:List (Addr×Obj)) (σ:St) (Q:List V->Hp->Prop) (us:List Value) (s':Shared):Prop:=∃ vs H',Inv X pins σ H' s'/\zE vs us/\Q vs H'
def SP (X:Cx) (pins:List (Addr×Obj)) (D:Ends) (f:Flow) (s':Shared):Prop :=
 match f with
 | .next=>∃ σ' H',Inv X pins σ' H' s'/\D.nx σ' H'
 | .brk=>∃ σ' H',Inv X pins σ' H' s'/\D.bk σ' H'
 | .cont=>∃ σ' H',Inv X pins σ' H' s'/\D.ct σ' H'
 | .ret u=>∃ v σ' H',Inv X pins σ' H' s'/\zD v u/\D.rt v H'
def PE (X:Cx) (e:Expr) (t:TE):Prop :=
 ∀ (pins:List (Addr×Obj)) (s:Shared) (σ:St) (H:Hp) (Q:VK),Inv X pins σ H s->t σ H Q->wpAny (model X.prog X.w) X.A (eval e X.env) (EP X pins σ Q) X.xe s
def PT (X:Cx) (e:Expr) (t:TT):Prop :=
 ∀ (pins:List (Addr×Obj)) (s:Shared) (σ:St) (H:Hp) (Q:Bool->Hp->Prop),Inv X pins σ H s->t σ H Q->wpAny (model X.prog X.w) X.A (isTrue e X.env (eval e X.env)) (TP X pins σ Q) X.xe s
def PW (X:Cx) (e:Expr) (t:TT):Prop :=
 ∀ (whole:Sem Value) (pins:List (Addr×Obj)) (s:Shared) (σ:St) (H:Hp) (Q:Bool->Hp->Prop),Inv X pins σ H s->t σ H Q->wpAny (model X.prog X.w) X.A (isTrue e X.env whole) (TP X pins σ Q) X.xe s
theorem PW.pt {X:Cx} {e:Expr} {t:TT} (h:PW X e t):PT X e t:=h _
def PA (X:Cx) (es:List Expr) (t:TA):Prop :=
 ∀ (pos:Pos) (pins:List (Addr×Obj)) (s:Shared) (σ:St) (H:Hp) (Q:List V->Hp->Prop),Inv X pins σ H s->t σ H Q->wpAny (model X.prog X.w) X.A (spliced (backTo pos (starEach es X.env))) (AP X pins σ Q) X.xe s
def PS (X:Cx) (st:Stmt) (t:TS):Prop :=
 ∀ (pins:List (Addr×Obj)) (s:Shared) (σ:St) (H:Hp) (D:Ends),Inv X pins σ H s->t D σ H->wpAny (model X.prog X.w) X.A (exec st X.env) (SP X pins D) X.xe s
def PSs (X:Cx) (st:List Stmt) (t:TS):Prop :=
 ∀ (pins:List (Addr×Obj)) (s:Shared) (σ:St) (H:Hp) (D:Ends),Inv X pins σ H s->t D σ H->wpAny (model X.prog X.w) X.A (execs st X.env) (SP X pins D) X.xe s
theorem yH {α:Type} {t:Sem α} {Q Q':α->Shared->Prop} {M:Model} {A:Around} {E:Value->Shared->Prop} {s:Shared} (h:wpAny M A t Q E s) (hQ:∀ a s,Q a s->Q' a s):wpAny M A t Q' E s:=wpAny_mono h hQ fun _ _ x=>x
end L2
namespace L2
open PySem PySem.Spec PyProof.Rows
section
variable {X : Cx}
theorem bin {a b:Expr} {ta tb:TE} (ha:PE X a ta) (hb:PE X b tb) {pins:List (Addr×Obj)} {s:Shared} {σ:St} {H:Hp} {R:V->V->Hp->Prop} (I:Inv X pins σ H s) (h:ta σ H fun x H1=>tb σ H1 fun y H2=>R x y H2)
  {α:Type} {Q:α->Shared->Prop} {f:Value->Value->Sem α}
  (hf:∀ v u s2 x y H2,Inv X pins σ H2 s2->zD x v->zD y u->R x y H2->wpAny (model X.prog X.w) X.A (f v u) Q X.xe s2) :
  wpAny (model X.prog X.w) X.A (eval a X.env) (fun v s₁=>wpAny (model X.prog X.w) X.A (eval b X.env) (fun u s₂=>wpAny (model X.prog X.w) X.A (f v u) Q X.xe s₂) X.xe s₁) X.xe s:=by
 refine yH (ha pins s σ H _ I h) fun v s1 ⟨x,H1,I1,r1,q1⟩=>?_;refine yH (hb pins s1 σ H1 _ I1 q1) fun u s2 ⟨y,H2,I2,r2,q2⟩=>?_;exact hf v u s2 x y H2 I2 r1 r2 q2
def tVar (i:Nat):TE:=fun σ H Q=>∃ v,σ[i]?=some (some v)/\Q v H
def tC (v:V):TE:=fun _ H Q=>Q v H
theorem zjs {i:Nat} {x:Str} {pos:Pos} (hN:X.N[i]?=some x) (hv:Vis X.env.scope x) (hd:(x==("__debug__" : Str))=false:=by decide) (hcd:(x==("__classdict__" : Str))=false:=by decide):PE X (.Name x pos) (tVar i):=by
 intro pins s σ H Q I h;obtain ⟨v,e,h⟩:=h;obtain ⟨m,hn,hl⟩:=I.loc;obtain ⟨u,r,l⟩:=hl i x v hN e hv;have fin:EP X pins σ Q u s:=⟨v,H,I,r,h⟩;rcases l with ⟨hk,hm⟩|⟨hk,c,hc,hcell⟩
 .exact wpAny_Name (wpAny_loadName_local I.ok.kind hk hn hm fin) hd
 .rcases hk with hk|hk
  .exact wpAny_Name (wpAny_loadName_cell I.ok.kind hk hc hcell fin) hd
  .exact wpAny_Name (wpAny_loadName_free I.ok.kind hk hc hcell fin hcd) hd
theorem zgg {i j pos}:PE X (.Constant (.int i) j pos) (tC (.int i)):=fun _ _ _ H _ I h=>wpAny_Constant_int ⟨.int i,H,I.tok _,⟨_,rfl⟩,h⟩
theorem pe_bl {b j pos}:PE X (.Constant (.bool b) j pos) (tC (.bl b)):=fun _ _ _ H _ I h=>Constant_bool ⟨.bl b,H,I,rfl,h⟩
theorem zjy {j pos}:PE X (.Constant .none j pos) (tC .non):=fun _ _ _ H _ I h=>Constant_none ⟨.non,H,I,rfl,h⟩
theorem zge {x j pos}:PE X (.Constant (.str x) j pos) (tC (.str x)):=fun _ _ _ H _ I h=>Calls.Constant_str ⟨.str x,H,I.tok _,⟨_,rfl⟩,h⟩
def Gl (X:Cx) (x:Str):Prop:=X.env.kindOf x=some .globalImplicit
theorem zaU {E:Value->Shared->Prop} {pins:List (Addr×Obj)} {s:Shared} {σ:St} {H:Hp} {x:Str} {u:Value} {pos:Pos} {Q:Value->Shared->Prop} (I:Inv X pins σ H s) (hg:Gl X x) (hm:X.mg x=some u) (h:Q u s)
  (hd:(x==("__debug__" : Str))=false:=by decide):wpAny (model X.prog X.w) X.A (eval (.Name x pos) X.env) Q E s :=
 Calls.Name_function_global I.ok.kind hg (Calls.loadGlobal_global (by rw [I.ok.glob];exact I.mod.glob.keeps I.bk) hm h) hd
theorem sR {E:Value->Shared->Prop} {pins:List (Addr×Obj)} {s:Shared} {σ:St} {H:Hp} {x:Str} {u:Value} {pos:Pos} {Q:Value->Shared->Prop} (I:Inv X pins σ H s) (hg:Gl X x) (hm:X.mg x=none) (hv:bootBuiltins x=some u) (h:Q u s)
  (hn:x ≠ "__name__" := by decide) (hd:(x==("__debug__" : Str))=false:=by decide):wpAny (model X.prog X.w) X.A (eval (.Name x pos) X.env) Q E s:=by
 obtain ⟨mb,h1,h2⟩:=I.mod.blt;exact Calls.Name_function_global I.ok.kind hg (Calls.loadGlobal_builtin (by rw [I.ok.glob];exact I.mod.glob.keeps I.bk) hm (by rw [I.ok.blt];exact h1.keeps I.bk) ((h2 x hn).trans hv) h) hd
theorem zhm {x:Str} {v:V} {u:Value} {pos:Pos} (hg:Gl X x) (hm:X.mg x=some u) (r:zD v u) (hd:(x==("__debug__" : Str))=false:=by decide):PE X (.Name x pos) (tC v) :=
 fun _ _ _ H _ I h=>zaU I hg hm ⟨v,H,I,r,h⟩ hd
theorem zhq {x:Str} {v:V} {u:Value} {pos:Pos} (hg:Gl X x) (hm:X.mg x=none) (hv:bootBuiltins x=some u) (r:zD v u) (hn:x ≠ "__name__" := by decide) (hd:(x==("__debug__" : Str))=false:=by decide):PE X (.Name x pos) (tC v) :=
 fun _ _ _ H _ I h=>sR I hg hm hv ⟨v,H,I,r,h⟩ hn hd
variable {a b : Expr} {ta tb : TE} {pos : Pos}
variable {tA tB' : TT} {rest : List Expr}
def tAnd (t u:TT):TT:=fun σ H Q=>t σ H fun c H1=>if c=true then u σ H1 Q else Q false H1
def tOr (t u:TT):TT:=fun σ H Q=>t σ H fun c H1=>if c=true then Q true H1 else u σ H1 Q
def tNot (t:TT):TT:=fun σ H Q=>t σ H fun c H1=>Q (!c) H1
theorem zg8 (ha:PT X a tA):PW X (.BoolOp .And [a] pos) tA:=by
 intro wh pins s σ H Q I h;refine isTrue_and (yH (ha pins s σ H Q I h) fun c s1 e=>?_)
 cases c with
 |true=>exact isTrue_and_nil e
 |false=>exact e
theorem zji (ha:PT X a tA):PW X (.BoolOp .Or [a] pos) tA:=by
 intro wh pins s σ H Q I h;refine isTrue_or (yH (ha pins s σ H Q I h) fun c s1 e=>?_)
 cases c with
 |false=>exact isTrue_or_nil e
 |true=>exact e
theorem zga (ha:PT X a tA) (hb:PW X (.BoolOp .And (b::rest) pos) tB'):PW X (.BoolOp .And (a::b::rest) pos) (tAnd tA tB'):=by
 intro wh pins s σ H Q I h;refine isTrue_and (yH (ha pins s σ H _ I h) fun c s1 ⟨H1,I1,q1⟩=>?_)
 cases c with
 |true=>exact hb wh pins s1 σ H1 Q I1 q1
 |false=>exact ⟨H1,I1,q1⟩
theorem zjj (ha:PT X a tA) (hb:PW X (.BoolOp .Or (b::rest) pos) tB'):PW X (.BoolOp .Or (a::b::rest) pos) (tOr tA tB'):=by
 intro wh pins s σ H Q I h;refine isTrue_or (yH (ha pins s σ H _ I h) fun c s1 ⟨H1,I1,q1⟩=>?_)
 cases c with
 |true=>exact ⟨H1,I1,q1⟩
 |false=>exact hb wh pins s1 σ H1 Q I1 q1
theorem zjk (ha:PT X a tA):PT X (.UnaryOp .Not a pos) (tNot tA):=by
 intro pins s σ H Q I h;exact isTrue_not (ha pins s σ H (fun c H1=>Q (!c) H1) I h)
def ziS (ta tb:TE):TE:=fun σ H Q=>ta σ H fun x H1=>∃ c,x=.bl c/\if c=true then tb σ H1 Q else Q (.bl false) H1
def tOrV (ta tb:TE):TE:=fun σ H Q=>ta σ H fun x H1=>∃ c,x=.bl c/\if c=true then Q (.bl true) H1 else tb σ H1 Q
def tNotV (ta:TE):TE:=fun σ H Q=>ta σ H fun x H1=>∃ c,x=.bl c/\Q (.bl (!c)) H1
theorem zgf {op} {t:TE} (h:PE X a t):PE X (.BoolOp op [a] pos) t:=fun pins s σ H Q I hw=>BoolOp_one (h pins s σ H Q I hw)
theorem zgh (ha:PE X a ta) (hb:PE X (.BoolOp .And (b::rest) pos) tb):PE X (.BoolOp .And (a::b::rest) pos) (ziS ta tb):=by
 intro pins s σ H Q I h;refine BoolOp_and (yH (ha pins s σ H _ I h) fun v s1 ⟨x,H1,I1,r1,q1⟩=>?_);obtain ⟨c,rfl,q1⟩:=q1;cases r1;refine wpAny_truthy_bool ?_
 cases c with
 |true=>exact hb pins s1 σ H1 Q I1 q1
 |false=>exact ⟨.bl false,H1,I1,rfl,q1⟩
theorem zjw (ha:PE X a ta) (hb:PE X (.BoolOp .Or (b::rest) pos) tb):PE X (.BoolOp .Or (a::b::rest) pos) (tOrV ta tb):=by
 intro pins s σ H Q I h;refine BoolOp_or (yH (ha pins s σ H _ I h) fun v s1 ⟨x,H1,I1,r1,q1⟩=>?_);obtain ⟨c,rfl,q1⟩:=q1;cases r1;refine wpAny_truthy_bool ?_
 cases c with
 |false=>exact hb pins s1 σ H1 Q I1 q1
 |true=>exact ⟨.bl true,H1,I1,rfl,q1⟩
theorem zjx (ha:PE X a ta):PE X (.UnaryOp .Not a pos) (tNotV ta):=by
 intro pins s σ H Q I h;refine UnaryOp_ (yH (ha pins s σ H _ I h) fun v s1 ⟨x,H1,I1,r1,q1⟩=>?_);obtain ⟨c,rfl,q1⟩:=q1;cases r1;exact not_of (wpAny_truthy_bool ⟨.bl (!c),H1,I1,rfl,q1⟩)
def tIf (t:TT) (ta tb:TE):TE:=fun σ H Q=>t σ H fun c H1=>if c=true then ta σ H1 Q else tb σ H1 Q
theorem ze9 {c:Expr} (hc:PT X c tA) (ha:PE X a ta) (hb:PE X b tb):PE X (.IfExp c a b pos) (tIf tA ta tb):=by
 intro pins s σ H Q I h;refine wpAny_IfExp (yH (hc pins s σ H _ I h) fun d s1 ⟨H1,I1,q1⟩=>?_)
 cases d with
 |true=>exact ha pins s1 σ H1 Q I1 q1
 |false=>exact hb pins s1 σ H1 Q I1 q1
end
end L2
namespace L2
open PySem PySem.Spec PyProof.Rows
def pM (K:PySem.W.Frag) (H:Hp) (a:Addr) (xs:List V):Prop :=
 Rd H a (.lst xs) \/
  ∃ (o:Obj) (its:Array Value) (n:Nat),K.lookup a=some o/\o.cls=.type "list" /\ o.dict=none/\o.data=.seq its n/\its.size<=sizeLine/\zE xs its.toList
def sO (K:PySem.W.Frag) (H:Hp) (a:Addr) (xs:List V):Prop :=
 Rd H a (.tup xs) \/
  ∃ (o:Obj) (its:Array Value) (n:Nat),K.lookup a=some o/\o.cls=.type "tuple" /\ o.data=.seq its n/\its.size<=sizeLine/\zE xs its.toList
def absV:Value->Option V
 | .none=>some .non
 | .bool b=>some (.bl b)
 | .int i _=>some (.int i)
 | .str x _=>some (.str x)
 | .bytes b _=>some (.byt b)
 | .float b _=>some (.flt b)
 | .ref a=>some (.ref a)
 | .type n=>some (.ty n)
 |_=>none
theorem zD.abs {x:V} {u:Value} (r:zD x u):absV u=some x:=by
 cases x with
 |non=>cases r;rfl
 |bl _=>cases r;rfl
 |int _=>obtain ⟨t,rfl⟩:=r;rfl
 |str _=>obtain ⟨t,rfl⟩:=r;rfl
 |byt _=>obtain ⟨t,rfl⟩:=r;rfl
 |flt _=>obtain ⟨t,rfl⟩:=r;rfl
 |ref _=>cases r;rfl
 |ty _=>cases r;rfl
theorem zD.inj {x y:V} {u:Value} (r:zD x u) (q:zD y u):x=y:=Option.some.inj (r.abs.symm.trans q.abs)
theorem zE.inj:∀ {xs ys:List V} {us:List Value},zE xs us->zE ys us->xs=ys
 |_,_,_,.nil,.nil=>rfl
 |_,_,_,.cons r t,.cons r' t'=>by rw [r.inj r',zE.inj t t']
section
variable {X : Cx} {pins : List (Addr × Obj)} {σ : St} {H : Hp} {s : Shared} {a : Addr} {xs ys : List V}
theorem pM.of {K:PySem.W.Frag} (h:H a=some (.lst xs)):pM K H a xs:=.inl (.inl h)
theorem sO.of {K:PySem.W.Frag} (h:H a=some (.tup xs)):sO K H a xs:=.inl (.inl h)
theorem Inv.list (I:Inv X pins σ H s) (h:pM X.K H a xs):∃ its:List Value,zE xs its/\PlainL s.heap a its.toArray/\xs.length<=sizeLine:=by
 rcases h with h|⟨o,its,n,hk,hc,hd,hs,hz,r⟩
 .obtain ⟨z,its,n,r,e⟩:=h.ok I.hok;exact ⟨its,r,⟨_,n,e,rfl,rfl,rfl⟩,z⟩
 .refine ⟨its.toList,r,⟨o,n,I.kIn a o hk,hc,hd,by simpa using hs⟩,?_⟩;have e:=r.length;simp only [Array.length_toList] at e;omega
theorem Inv.tuple (I:Inv X pins σ H s) (h:sO X.K H a xs):∃ its:List Value,zE xs its/\IsTup s.heap a its.toArray/\xs.length<=sizeLine:=by
 rcases h with h|⟨o,its,n,hk,hc,hs,hz,r⟩
 .obtain ⟨z,its,r,p⟩:=h.ok I.hok;exact ⟨its,r,p,z⟩
 .refine ⟨its.toList,r,⟨o,I.kIn a o hk,hc,n,by simpa using hs⟩,?_⟩;have e:=r.length;simp only [Array.length_toList] at e;omega
theorem Inv.list_inj (I:Inv X pins σ H s) (h:pM X.K H a xs) (h':pM X.K H a ys):xs=ys:=by
 obtain ⟨its,r,⟨o,n,e,_,_,d⟩,_⟩:=I.list h;obtain ⟨its',r',⟨o',n',e',_,_,d'⟩,_⟩:=I.list h';rw [e] at e';cases e';rw [d] at d'
 injection d' with d1 _
 have:its=its':=by simpa using congrArg Array.toList d1
 subst this;exact r.inj r'
theorem Inv.tuple_inj (I:Inv X pins σ H s) (h:sO X.K H a xs) (h':sO X.K H a ys):xs=ys:=by
 obtain ⟨its,r,⟨o,e,_,n,d⟩,_⟩:=I.tuple h;obtain ⟨its',r',⟨o',e',_,n',d'⟩,_⟩:=I.tuple h';rw [e] at e';cases e';rw [d] at d'
 injection d' with d1 _
 have:its=its':=by simpa using congrArg Array.toList d1
 subst this;exact r.inj r'
end
abbrev Cx.wish (X:Cx) (E:Value->Shared->Prop):Cx:={ X with xe:=E }
abbrev Cx.nox (X:Cx):Cx:=X.wish fun _ _=>False
theorem Cx.Ok.wish {X:Cx} (ok:X.Ok) (E:Value->Shared->Prop):(X.wish E).Ok :=
 ⟨ok.mod,ok.kind,ok.glob,ok.blt,ok.above,ok.inj,ok.has,ok.cab,ok.hd,ok.frames,ok.stk,ok.exf,ok.bs,ok.bsz,ok.noex,ok.exfs,ok.funs,ok.frf⟩
theorem Cx.Ok.unwish {X:Cx} {E:Value->Shared->Prop} (ok:(X.wish E).Ok):X.Ok :=
 ⟨ok.mod,ok.kind,ok.glob,ok.blt,ok.above,ok.inj,ok.has,ok.cab,ok.hd,ok.frames,ok.stk,ok.exf,ok.bs,ok.bsz,ok.noex,ok.exfs,ok.funs,ok.frf⟩
section
variable {X : Cx} {pins : List (Addr × Obj)} {σ : St} {H : Hp} {s : Shared} {E : Value → Shared → Prop}
theorem Inv.wish (I:Inv X pins σ H s) (E:Value->Shared->Prop):Inv (X.wish E) pins σ H s:=⟨I.ok.wish E,I.os,I.bare,I.base,I.loc,I.cell,I.free,I.freeC,I.pin,I.hok,I.len,I.tk⟩
theorem Inv.unwish (I:Inv (X.wish E) pins σ H s):Inv X pins σ H s:=⟨I.ok.unwish,I.os,I.bare,I.base,I.loc,I.cell,I.free,I.freeC,I.pin,I.hok,I.len,I.tk⟩
theorem SP.unwish {D:Ends} {f:Flow} {s':Shared} (h:SP (X.wish E) pins D f s'):SP X pins D f s':=by
 cases f with
 |next=>obtain ⟨σ',H',I,q⟩:=h;exact ⟨σ',H',I.unwish,q⟩
 |brk=>obtain ⟨σ',H',I,q⟩:=h;exact ⟨σ',H',I.unwish,q⟩
 |cont=>obtain ⟨σ',H',I,q⟩:=h;exact ⟨σ',H',I.unwish,q⟩
 |ret u=>obtain ⟨v,σ',H',I,r,q⟩:=h;exact ⟨v,σ',H',I.unwish,r,q⟩
theorem PSs.nox {st:List Stmt} {t:TS} (h:PSs X.nox st t):PSs X st t:=fun pins s σ H D I hw =>
 wpAny_mono (h pins s σ H D (I.wish _) hw) (fun _ _ q=>q.unwish) fun _ _ z=>False.elim z
end
section
variable {X : Cx} {st : Stmt} {rest : List Stmt} {t u : TS} {e : Expr} {te : TE} {pos : Pos}
def ziP:TS:=fun D σ H=>D.nx σ H
def tSeq (t u:TS):TS:=fun D σ H=>t { D with nx:=u D } σ H
theorem zhd:PSs X [] ziP:=fun _ _ σ H _ I h=>wpAny_execs_nil ⟨σ,H,I,h⟩
theorem zeZ (h1:PS X st t) (h2:PSs X rest u):PSs X (st::rest) (tSeq t u):=by
 intro pins s σ H D I h;refine wpAny_execs_cons (yH (h1 pins s σ H { D with nx:=u D } I h) fun f s1 q=>?_)
 cases f with
 |next =>
  obtain ⟨σ',H',I',q⟩:=q;exact h2 pins s1 σ' H' D I' q
 |ret v=>exact q
 |brk=>exact q
 |cont=>exact q
def ziR:TS:=fun D σ H=>D.bk σ H
def tCont:TS:=fun D σ H=>D.ct σ H
theorem zhf:PS X (.Pass pos) ziP:=fun _ _ σ H _ I h=>wpAny_Pass ⟨σ,H,I,h⟩
theorem ze3:PS X (.Break pos) ziR:=fun _ _ σ H _ I h=>wpAny_Break ⟨σ,H,I,h⟩
theorem zaL:PS X (.Continue pos) tCont:=fun _ _ σ H _ I h=>wpAny_Continue ⟨σ,H,I,h⟩
theorem Inv.quiet {pins:List (Addr×Obj)} {σ:St} {H:Hp} {s:Shared} (I:Inv X pins σ H s):interactive X.env=false:=by simp [interactive,I.ok.kind]
def tDrop (te:TE):TS:=fun D σ H=>te σ H fun _ H1=>D.nx σ H1
theorem zhg (he:PE X e te) (hs:swapsWith e none pos.line X.env=pure false:=by rfl):PS X (.Expr e pos) (tDrop te):=by
 intro pins s σ H D I h;exact wpAny_Expr_any (yH (he pins s σ H _ I h) fun v s1 ⟨x,H1,I1,r1,q1⟩=>⟨σ,H1,I1,q1⟩) I.quiet hs
def tRet (te:TE):TS:=fun D σ H=>te σ H D.rt
theorem zjm (he:PE X e te):PS X (.Return (some e) pos) (tRet te):=by
 intro pins s σ H D I h;exact wpAny_Return_some (yH (he pins s σ H _ I h) fun v s1 ⟨x,H1,I1,r1,q1⟩=>⟨x,σ,H1,I1,r1,q1⟩)
def tRetN:TS:=fun D _ H=>D.rt .non H
theorem zhe:PS X (.Return none pos) tRetN:=fun _ _ σ H _ I h=>wpAny_Return_none ⟨.non,σ,H,I,rfl,h⟩
def tIfS (c:TT) (t u:TS):TS:=fun D σ H=>c σ H fun b H1=>if b=true then t D σ H1 else u D σ H1
theorem ps_if {c:Expr} {a b:List Stmt} {tc:TT} (hc:PT X c tc) (ha:PSs X a t) (hb:PSs X b u):PS X (.If c a b pos) (tIfS tc t u):=by
 intro pins s σ H D I h;refine wpAny_If (yH (hc pins s σ H _ I h) fun d s1 ⟨H1,I1,q1⟩=>?_)
 cases d with
 |true=>exact ha pins s1 σ H1 D I1 q1
 |false=>exact hb pins s1 σ H1 D I1 q1
def ziQ:TS:=fun _ _ _=>False
theorem ze2:PS X st ziQ:=fun _ _ _ _ _ _ h=>h.elim
end
abbrev TG:=V->St->Hp->(St->Hp->Prop)->Prop
abbrev TGs:=List V->St->Hp->(St->Hp->Prop)->Prop
def PG (X:Cx) (target:Expr) (t:TG):Prop :=
 ∀ (pins:List (Addr×Obj)) (s:Shared) (σ:St) (H:Hp) (v:V) (u:Value) (Q:St->Hp->Prop),Inv X pins σ H s->zD v u->t v σ H Q ->
  wpAny (model X.prog X.w) X.A (assign target X.env u) (fun _ s'=>∃ σ' H',Inv X pins σ' H' s'/\Q σ' H') X.xe s
def PGs (X:Cx) (ts:List Expr) (t:TGs):Prop :=
 ∀ (pins:List (Addr×Obj)) (s:Shared) (σ:St) (H:Hp) (vs:List V) (us:List Value) (Q:St->Hp->Prop),Inv X pins σ H s->zE vs us->t vs σ H Q ->
  wpAny (model X.prog X.w) X.A (assignInOrder ((assignEach ts X.env).map (·.2)) us) (fun _ s'=>∃ σ' H',Inv X pins σ' H' s'/\Q σ' H') X.xe s
abbrev TSet:=V->V->V->Hp->(Hp->Prop)->Prop
def PSet (X:Cx) (t:TSet):Prop :=
 ∀ (pins:List (Addr×Obj)) (s:Shared) (σ:St) (H:Hp) (o i v:V) (ov iv u:Value) (Q:Hp->Prop),Inv X pins σ H s->zD o ov->zD i iv->zD v u->t o i v H Q ->
  wpAny (model X.prog X.w) X.A (setItem ov iv u) (fun _ s'=>∃ H',Inv X pins σ H' s'/\Q H') X.xe s
section
variable {X : Cx} {pos : Pos}
def zfF (i:Nat):TG:=fun v σ H Q=>Q (σ.set i (some v)) H
theorem zaM {i:Nat} {x:Str} (hN:X.N.Nodup) (hi:X.N[i]?=some x) (hx:Loc X.env.scope x) (hf:X.fn x=true\/X.env.scope.names.lookup x=some .local:=by first|exact .inl rfl|exact .inr rfl|assumption):PG X (.Name x pos) (zfF i):=by
 intro pins s σ H v u Q I r h;exact wpAny_assign_Name (zbk I hN hi hx r (fun s' I'=>⟨_,H,I',h⟩) hf)
def gNil:TGs:=fun vs σ H Q=>vs=[]/\Q σ H
def gCons (t:TG) (u:TGs):TGs:=fun vs σ H Q=>∃ v r,vs=v::r/\t v σ H fun σ' H'=>u r σ' H' Q
theorem zc9:PGs X [] gNil:=by
 intro pins s σ H vs us Q I r h;obtain ⟨e,h⟩:=h;subst e;cases r;exact assignInOrder_nil ⟨σ,H,I,h⟩
theorem gB {e:Expr} {es:List Expr} {t:TG} {u:TGs} (h1:PG X e t) (h2:PGs X es u)
  (hs:(assignEach (e::es) X.env).map (·.2)=assign e X.env::(assignEach es X.env).map (·.2):=by rfl):PGs X (e::es) (gCons t u):=by
 intro pins s σ H vs us Q I r h;obtain ⟨v,vr,e1,h⟩:=h;subst e1
 cases r with
 |cons r rr =>
  rw [hs];refine assignInOrder_cons (yH (h1 pins s σ H _ _ _ I r h) fun _ s1 ⟨σ1,H1,I1,q1⟩=>?_);exact h2 pins s1 σ1 H1 _ _ Q I1 rr q1
def gTup (K:PySem.W.Frag) (n:Nat) (t:TGs):TG:=fun v σ H Q=>∃ a xs,v=.ref a/\sO K H a xs/\xs.length=n/\t xs σ H Q
theorem zgd {es:List Expr} {k:Nat} {t:TGs} {n:Nat} (hc:X.calm=true) (h:PGs X es t)
  (hn:(assignEach es X.env).length=n:=by rfl) (hst:(assignEach es X.env).findIdx? (·.1)=none:=by rfl):PG X (.Tuple es k pos) (gTup X.K n t):=by
 intro pins s σ H v u Q I r hw;obtain ⟨a,xs,e1,hq,hl,hw⟩:=hw;subst e1;cases r;obtain ⟨its,rv,ht,hz⟩:=I.tuple hq;refine assign_Tuple_tuple (I.ok.hd hc) ht (by simp [hn,← hl,rv.length]) hst fun h' hx=>?_;have I1:Inv X pins σ H { s with heap:=h' }:=I.kept (t':=s.toks) fun b o e=>hx b o (Nat.ne_of_lt (Heap.lt_size e)) e;exact h pins _ σ H xs _ Q I1 (by simpa using rv) hw
def tAsg (te:TE) (g:TG):TS:=fun D σ H=>te σ H fun x H1=>g x σ H1 D.nx
theorem zgc {tg e:Expr} {te:TE} {g:TG} (he:PE X e te) (hg:PG X tg g) (hs:swapsWithSole [tg] e pos.line X.env=pure false:=by rfl) (hw:swappedStores [tg] e X.env=pure none:=by rfl)
  (h1:(assignEach [tg] X.env).map (·.2)=[assign tg X.env]:=by rfl):PS X (.Assign [tg] e pos) (tAsg te g):=by
 intro pins s σ H D I h;refine wpAny_Assign_stores (yH (he pins s σ H _ I h) fun v s1 ⟨x,H1,I1,r1,q1⟩=>?_) hs hw;rw [h1];exact yH (hg pins s1 σ H1 x v _ I1 r1 q1) fun _ s2 q=>q
theorem zgb {i:Nat} {x:Str} {e:Expr} {te:TE} {pos':Pos} (hN:X.N.Nodup) (hi:X.N[i]?=some x) (hx:Loc X.env.scope x) (he:PE X e te) (hs:swapsWith e (some (.Name x pos')) pos.line X.env=pure false:=by rfl) (hf:X.fn x=true\/X.env.scope.names.lookup x=some .local:=by first|exact .inl rfl|exact .inr rfl|assumption) :
  PS X (.Assign [.Name x pos'] e pos) (tAsg te (zfF i)):=by
 intro pins s σ H D I h;refine wpAny_Assign_Name (yH (he pins s σ H _ I h) fun v s1 ⟨y,H1,I1,r1,q1⟩=>?_) hs;exact zbk I1 hN hi hx r1 (fun s2 I2=>⟨_,H1,I2,q1⟩) hf
end
section
variable {X : Cx} {pos : Pos}
def ziO (c:TT) (tb:TS):TS:=fun D σ H=>∃ W:Nat->St->Hp->Prop,(∃ m,W m σ H)/\∀ m σ H,W m σ H ->
 c σ H fun b H1=>if b=true then ∃ N:St->Hp->Prop,(∀ σ' H',N σ' H'->∃ m',m' < m/\W m' σ' H')/\tb { D with nx:=N,ct:=N,bk:=D.nx } σ H1 else D.nx σ H1
theorem ze0 {c:Expr} {body:List Stmt} {tc:TT} {tb:TS} (hp:PassesOwn (model X.prog X.w) X.A X.env X.xe) (hc:PT X c tc) (hb:PSs X body tb):PS X (.While c body [] pos) (ziO tc tb):=by
 intro pins s σ H D I h;obtain ⟨W,⟨m0,w0⟩,turn⟩:=h;refine wpAny_While (codeAny_whileLoop (fun n s'=>∃ σ' H',Inv X pins σ' H' s'/\W n σ' H') ?_ m0 ⟨σ,H,I,w0⟩);rintro n s1 ⟨σ1,H1,I1,w1⟩;refine wpAny_passesOwn hp (yH (hc pins s1 σ1 H1 _ I1 (turn n σ1 H1 w1)) fun b s2 ⟨H2,I2,q2⟩=>?_)
 cases b with
 |true =>
  obtain ⟨N,hN,q2⟩:=q2;rw [if_pos rfl];refine wpAny_passesOwn hp (yH (hb pins s2 σ1 H2 _ I2 q2) fun f s3 q3=>?_)
  cases f with
  |next =>
   obtain ⟨σ3,H3,I3,n3⟩:=q3;obtain ⟨m',hm,w3⟩:=hN σ3 H3 n3;exact ⟨m',hm,σ3,H3,I3,w3⟩
  |cont =>
   obtain ⟨σ3,H3,I3,n3⟩:=q3;obtain ⟨m',hm,w3⟩:=hN σ3 H3 n3;exact ⟨m',hm,σ3,H3,I3,w3⟩
  |brk=>exact q3
  |ret v=>exact q3
 |false =>
  rw [if_neg zzN];exact wpAny_execs_nil ⟨σ1,H2,I2,q2⟩
end
structure It where
 go:Nat->Hp->Prop
 yld:Nat->Hp->V->Hp->Prop
 stop:Nat->Hp->Prop
def vD (X:Cx) (pins:List (Addr×Obj)) (H:Hp) (b:Addr):Prop :=
 H b=none/\b≠X.env.locals/\b∉X.fs/\(b∈X.ex\/X.s₀.heap.objs.size<=b)/\(∀ x c,X.env.cells.lookup x=some c->c≠b)/\∀ p∈X.pn++pins,p.1≠b
theorem Inv.fpOk {X:Cx} {pins:List (Addr×Obj)} {σ:St} {H H':Hp} {s:Shared} {b:Addr} (I:Inv X pins σ H s) (hb:s.heap.objs.size<=b) (hn:H' b=none):vD X pins H' b:=by
 refine ⟨hn,Nat.ne_of_gt (Nat.lt_of_lt_of_le I.lt hb),I.nofs hb,.inr (Nat.le_trans I.sz hb),fun x c e z=>?_,fun p hp z=>?_⟩
 .obtain ⟨v,q⟩:=I.cell x c e;exact absurd (Nat.lt_of_lt_of_le q.lt (by rw [z];exact hb)) (Nat.lt_irrefl _)
 .exact absurd (Nat.lt_of_lt_of_le (Heap.lt_size (I.pin p hp).1) (by rw [z];exact hb)) (Nat.lt_irrefl _)
structure Turn (P:Program) (w:World) (K:PySem.W.Frag) (tg:Expr) (J:It) (fp:List Addr) (it:Addr) (tn:Nat->Heap->Prop):Prop where
 mem:it∈fp
 obj:∀ i h,tn i h->∀ b∈fp,∃ o,h.get? b=some o/\∀ v,o.data≠.cell v
 keep:∀ i h h',tn i h->(∀ b∈fp,∀ o,h.get? b=some o->h'.get? b=some o)->tn i h'
 item:∀ (X:Cx),X.prog=P->X.w=w->X.K=K->X.calm=true->∀ (i:Nat) (pins:List (Addr×Obj)) (s:Shared) (σ:St) (H:Hp) (E:Value->Shared->Prop),Inv X pins σ H s->(∀ b∈fp,vD X pins H b)->tn i s.heap->J.go i H ->
  wpAny (model P w) X.A (pyNext (.ref it)) (fun r s1=>∃ u,r=some u /\
   wpAny (model P w) X.A (letOwnedTupleGo tg (.ref it) u) (fun _ s2=>∃ x H',Inv X pins σ H' s2/\zD x u/\J.yld i H x H'/\tn (i+1) s2.heap/\∀ b∈fp,H' b=none) E s1) E s
 done:∀ (X:Cx),X.prog=P->X.w=w->X.K=K->X.calm=true->∀ (i:Nat) (pins:List (Addr×Obj)) (s:Shared) (σ:St) (H:Hp) (E:Value->Shared->Prop),Inv X pins σ H s->(∀ b∈fp,vD X pins H b)->tn i s.heap->J.stop i H ->
  wpAny (model P w) X.A (pyNext (.ref it)) (fun r s1=>r=none/\Inv X pins σ H s1) E s
 self:∀ (A:Around) (i:Nat) (s:Shared) (Q:Value->Shared->Prop) (E:Value->Shared->Prop),tn i s.heap->Q (.ref it) s->wpAny (model P w) A (pyIter (.ref it)) Q E s
abbrev TI:=St->Hp->(It->Hp->Prop)->Prop
def PIE (X:Cx) (pins:List (Addr×Obj)) (σ:St) (tg:Expr) (R:It->Hp->Prop) (itv:Value) (s2:Shared):Prop :=
 ∃ (it:Addr) (fp:List Addr) (tn:Nat->Heap->Prop) (J:It) (H':Hp),itv=.ref it/\Inv X pins σ H' s2/\Turn X.prog X.w X.K tg J fp it tn/\tn 0 s2.heap/\(∀ b∈fp,vD X pins H' b)/\R J H'
def PI (X:Cx) (tg iter:Expr) (wi:TI):Prop :=
 ∀ (pins:List (Addr×Obj)) (s:Shared) (σ:St) (H:Hp) (R:It->Hp->Prop),Inv X pins σ H s->wi σ H R ->
  wpAny (model X.prog X.w) X.A (eval iter X.env) (fun v s1=>wpAny (model X.prog X.w) X.A (pyIter v) (PIE X pins σ tg R) X.xe s1) X.xe s
theorem zdN {M:Model} {A:Around} {E:Value->Shared->Prop} {s:Shared} {tg:Expr} {it:Addr} {u:Value} {o:Obj} {n:String} {vs:Array Value} {Q:Unit->Shared->Prop} (ho:s.heap.get? it=some o) (hc:o.cls=.type n) (hd:o.data=.fields vs)
    (hn:["enumerate", "zip", "dict_itemiterator", "dict_reverseitemiterator", "odict_iterator", "itertools.zip_longest", "itertools.pairwise"].contains n=false) (hQ:Q () s):wpAny M A (letOwnedTupleGo tg (.ref it) u) Q E s:=by
  unfold letOwnedTupleGo
  cases tg<;>first
    |exact wpAny_pure hQ
    | (cases u<;>first
        |exact wpAny_pure hQ
        | (refine wpAny_bind (wpAny_load ho ?_)
           rw [hc,hd];show wpAny M A (if (["enumerate", "zip", "dict_itemiterator", "dict_reverseitemiterator", "odict_iterator", "itertools.zip_longest", "itertools.pairwise"].contains n&&vs[0]?==some (rawInt _))=true then _ else _) Q E s;rw [if_neg (by intro h;rw [hn,Bool.false_and] at h;cases h)];exact wpAny_pure hQ))
def Itl (K:PySem.W.Frag) (a:Addr):It :=
 ⟨fun i H=>∃ xs x,pM K H a xs/\xs[i]?=some x,fun i H x H'=>H'=H/\∀ xs,pM K H a xs->xs[i]?=some x,fun i H=>∃ xs,pM K H a xs/\xs.length<=i⟩
def Itt (K:PySem.W.Frag) (a:Addr):It :=
 ⟨fun i H=>∃ xs x,sO K H a xs/\xs[i]?=some x,fun i H x H'=>H'=H/\∀ xs,sO K H a xs->xs[i]?=some x,fun i H=>∃ xs,sO K H a xs/\xs.length<=i⟩
def Itr (lo:Int) (n:Nat):It:=⟨fun i _=>i<n,fun i H x H'=>H'=H/\x=.int (lo+i),fun i _=>n<=i⟩
theorem zcD {P:Program} {w:World} {K:PySem.W.Frag} {tg:Expr} (a it:Addr):Turn P w K tg (Itl K a) [it] it (fun i h=>h.IsListIter it a i) where
 mem:=by simp
 obj:=fun i h st b hb=>by
  have e:b=it:=by simpa using hb
  subst e;obtain ⟨o,e,c,d⟩:=st;exact ⟨o,e,fun v z=>by rw [d] at z;cases z⟩
 keep:=fun i h h' st k=>st.at fun o e=>k it (by simp) o e
 item:=by
  intro X hP hw hK hc i pins s σ H E I hf st hg;subst hP hw hK;obtain ⟨xs,x,hq,hx⟩:=hg;obtain ⟨its,rv,p,hz⟩:=I.list hq;obtain ⟨u,hu,ru⟩:=rv.get hx;obtain ⟨f0,f1,f2,f3,f4,f5⟩:=hf it (by simp);refine wpAny_pyNext_list_item st p.isList (x:=u) (by simpa using hu) fun h' st' sb=>?_;have I1:Inv X pins σ H { s with heap:=h' }:=I.turned (t':=s.toks) (fun b o hb e=>(sb.2 b hb).trans e) f0 f1 f3 f4 f5;obtain ⟨o,e,c,d⟩:=id st';exact ⟨u,rfl,zdN (s:={ s with heap:=h' }) e c d (by decide) ⟨x,H,I1,ru,⟨rfl,fun ys hy=>by rw [I.list_inj hy hq];exact hx⟩,st',fun b hb=>(hf b hb).1⟩⟩
 done:=by
  intro X hP hw hK hc i pins s σ H E I hf st hg;subst hP hw hK;obtain ⟨xs,hq,hx⟩:=hg;obtain ⟨its,rv,p,hz⟩:=I.list hq;obtain ⟨f0,f1,f2,f3,f4,f5⟩:=hf it (by simp);have hl:=rv.length;exact wpAny_pyNext_list_end (I.ok.hd hc) st p.isList (by simp;omega) fun h' eb=>⟨rfl,I.turned (t':=s.toks) (fun b o hb e=>eb b o hb e) f0 f1 f3 f4 f5⟩
 self:=fun _ _ _ _ _ st h=>wpAny_pyIter_listiter st h
theorem zb5 {P:Program} {w:World} {K:PySem.W.Frag} {tg:Expr} (a it:Addr):Turn P w K tg (Itt K a) [it] it (fun i h=>h.IsTupleIter it a i) where
 mem:=by simp
 obj:=fun i h st b hb=>by
  have e:b=it:=by simpa using hb
  subst e;obtain ⟨o,e,c,d⟩:=st;exact ⟨o,e,fun v z=>by rw [d] at z;cases z⟩
 keep:=fun i h h' st k=>st.at fun o e=>k it (by simp) o e
 item:=by
  intro X hP hw hK hc i pins s σ H E I hf st hg;subst hP hw hK;obtain ⟨xs,x,hq,hx⟩:=hg;obtain ⟨its,rv,p,hz⟩:=I.tuple hq;obtain ⟨u,hu,ru⟩:=rv.get hx;obtain ⟨f0,f1,f2,f3,f4,f5⟩:=hf it (by simp);refine wpAny_pyNext_tuple_item st (show s.heap.IsTuple a its.toArray from p) (x:=u) (by simpa using hu) fun h' st' sb=>?_;have I1:Inv X pins σ H { s with heap:=h' }:=I.turned (t':=s.toks) (fun b o hb e=>(sb.2 b hb).trans e) f0 f1 f3 f4 f5;obtain ⟨o,e,c,d⟩:=id st';exact ⟨u,rfl,zdN (s:={ s with heap:=h' }) e c d (by decide) ⟨x,H,I1,ru,⟨rfl,fun ys hy=>by rw [I.tuple_inj hy hq];exact hx⟩,st',fun b hb=>(hf b hb).1⟩⟩
 done:=by
  intro X hP hw hK hc i pins s σ H E I hf st hg;subst hP hw hK;obtain ⟨xs,hq,hx⟩:=hg;obtain ⟨its,rv,p,hz⟩:=I.tuple hq;obtain ⟨f0,f1,f2,f3,f4,f5⟩:=hf it (by simp);have hl:=rv.length;exact wpAny_pyNext_tuple_end (I.ok.hd hc) st (show s.heap.IsTuple a its.toArray from p) (by simp;omega) fun h' eb=>⟨rfl,I.turned (t':=s.toks) (fun b o hb e=>eb b o hb e) f0 f1 f3 f4 f5⟩
 self:=fun _ _ _ _ _ st h=>wpAny_pyIter_tupleiter st h
theorem zb6 {P:Program} {w:World} {K:PySem.W.Frag} {tg:Expr} (it:Addr) (lo:Int) (n:Nat):Turn P w K tg (Itr lo n) [it] it (fun i h=>IsRangeIter h it (lo+(i:Nat) * 1) ((n:Int)-(i:Nat)) 1) where
 mem:=by simp
 obj:=fun i h st b hb=>by
  have e:b=it:=by simpa using hb
  subst e
  exact ⟨_,st,fun v z=>by
   have z':Data.fields _=Data.cell v:=z;cases z'⟩
 keep:=fun i h h' st k=>k it (by simp) _ st
 item:=by
  intro X hP hw hK hc i pins s σ H E I hf st hg;subst hP hw hK;obtain ⟨f0,f1,f2,f3,f4,f5⟩:=hf it (by simp);have W:=Walks.range (prog:=X.prog) (w:=X.w) (I.ok.hd hc) it lo 1 n;refine wH I.tk (W.item i s _ _ hg st fun v h' tk hv st' kk h0=>?_);obtain ⟨t,rfl⟩:=hv;have I1:Inv X pins σ H { s with heap:=h',toks:=tk }:=I.turned (fun b o hb e=>kk b o (by simpa using hb) e) f0 f1 f3 f4 f5;refine ⟨_,rfl,zdN (s:={ s with heap:=h',toks:=tk }) (n := "range_iterator") st' rfl rfl (by decide) ⟨.int (lo+i),H,I1,⟨t,?_⟩,⟨rfl,rfl⟩,st',fun b hb=>(hf b hb).1⟩⟩;rw [Int.mul_one]
 done:=by
  intro X hP hw hK hc i pins s σ H E I hf st hg;subst hP hw hK;obtain ⟨f0,f1,f2,f3,f4,f5⟩:=hf it (by simp);exact wpAny_pyNext_range_end (I.ok.hd hc) st (by have:n<=i:=hg;omega) fun h' eb=>⟨rfl,I.turned (t':=s.toks) (fun b o hb e=>eb b o hb e) f0 f1 f3 f4 f5⟩
 self:=fun _ _ _ _ _ st h=>wpAny_pyIter_rangeiter st h
end L2
namespace L2
open PySem PySem.Spec PyProof.Rows
section
variable {X : Cx} {tg : Expr}
theorem zeW {pins:List (Addr×Obj)} {σ:St} {H:Hp} {s:Shared} {R:It->Hp->Prop} {E:Value->Shared->Prop} {lo hi:Int} {t u v:Tok} {tk:Nat} (I:Inv X pins σ H s) (h0:0<tk) (h1:-(2 ^ 62)<=lo) (h2:lo<2 ^ 62) (h3:-(2 ^ 62)<=hi) (h4:hi<2 ^ 62)
  (q:R (Itr lo (hi-lo).toNat) H):wpAny (model X.prog X.w) X.A (pyIter (.ref s.heap.objs.size)) (PIE X pins σ tg R) E { s with heap:=s.heap.push { cls:=.type "range", data:=.fields #[.int lo t,.int hi u,.int 1 v] },toks:=tk }:=by
 refine wpAny_pyIter_range (IsRange.new ..) (small_one h1 h2 h3 h4) ?_;have I1:Inv X pins σ H { s with heap:=s.heap.push { cls:=.type "range", data:=.fields #[.int lo t,.int hi u,.int 1 v] },toks:=tk }:=I.kept fun b o e=>Heap.get?_push_of_some _ e
 refine ⟨(s.heap.push { cls:=.type "range", data:=.fields #[.int lo t,.int hi u,.int 1 v] }).objs.size,[(s.heap.push { cls:=.type "range", data:=.fields #[.int lo t,.int hi u,.int 1 v] }).objs.size],_,_,H,rfl,
  I1.kept (t':=tk) fun b o e=>Heap.get?_push_of_some _ e,zb6 _ lo (hi-lo).toNat,?_,fun b hb=>?_,q⟩
 .have e1:lo+((0:Nat):Int) * 1=lo:=by simp
  have e2:(((hi-lo).toNat:Nat):Int)-((0:Nat):Int)=Builtin.Range.rangeSize lo hi 1:=by rw [rangeSize_one];split<;>omega
  show IsRangeIter _ _ (lo+((0:Nat):Int) * 1) ((((hi-lo).toNat:Nat):Int)-((0:Nat):Int)) 1;rw [e1,e2];exact Heap.get?_push_size _ rfl
 .have e:b=(s.heap.push { cls:=.type "range", data:=.fields #[.int lo t,.int hi u,.int 1 v] }).objs.size:=by simpa using hb
  subst e;exact I1.fpOk (zzR _) (I1.hok.fresh (zzR _))
def tFor (wi:TI) (g:TG) (tb:TS):TS:=fun D σ H=>wi σ H fun J H1=>∃ W:Nat->Nat->St->Hp->Prop,(∃ m,W 0 m σ H1)/\∀ i m σ H,W i m σ H ->
 (J.stop i H/\D.nx σ H)\/(J.go i H/\∃ N:St->Hp->Prop,(∀ σ' H',N σ' H'->∃ m',m' < m/\W (i+1) m' σ' H')/\∀ x H',J.yld i H x H'->g x σ H' fun σ2 H2=>tb { D with nx:=N,ct:=N,bk:=D.nx } σ2 H2)
def pZ (fp:List Addr) (h:Heap):List (Addr×Obj):=fp.filterMap fun b=>(h.get? b).map fun o=>(b,o)
theorem vO {fp:List Addr} {h:Heap} {b:Addr} {o:Obj} (hb:b∈fp) (e:h.get? b=some o):(b,o)∈pZ fp h:=List.mem_filterMap.mpr ⟨b,hb,by rw [e];rfl⟩
theorem zdi {fp:List Addr} {h:Heap} {p:Addr×Obj} (hp:p∈pZ fp h):p.1∈fp/\h.get? p.1=some p.2:=by
 obtain ⟨b,hb,e⟩:=List.mem_filterMap.mp hp
 cases q:h.get? b with
 |none=>rw [q] at e;cases e
 |some o =>
  rw [q] at e;have e':(b,o)=p:=Option.some.inj e;subst e';exact ⟨hb,q⟩
theorem Inv.pinned {pins:List (Addr×Obj)} {σ:St} {H:Hp} {s:Shared} {fp:List Addr} (I:Inv X pins σ H s) (hf:∀ b∈fp,vD X pins H b) (ho:∀ b∈fp,∃ o,s.heap.get? b=some o/\∀ v,o.data≠.cell v):Inv X (pins++pZ fp s.heap) σ H s :=
 I.pins_of fun p hp=>(List.mem_append.mp hp).elim (fun z=>I.pin p (List.mem_append_right _ z)) fun z=>by
  obtain ⟨hb,e⟩:=zdi z;obtain ⟨f0,f1,f2,_⟩:=hf p.1 hb;obtain ⟨o,e',d⟩:=ho p.1 hb;rw [e] at e';cases e';exact ⟨e,f0,f1,f2,d⟩
theorem Inv.unpinned {pins pl:List (Addr×Obj)} {σ:St} {H:Hp} {s:Shared} (I:Inv X (pins++pl) σ H s):Inv X pins σ H s:=I.pins_of fun p hp=>I.pin p (List.mem_append_right _ (List.mem_append_left _ hp))
theorem zjn {iter:Expr} {body:List Stmt} {wi:TI} {g:TG} {tb:TS} {pos:Pos} (hp:PassesOwn (model X.prog X.w) X.A X.env X.xe) (hc:X.calm=true) (hi:PI X tg iter wi) (hg:PG X tg g) (hb:PSs X body tb)
  (hs:∀ x,foldedSetIterable iter X.env x=pure x:=by intro _;rfl):PS X (.For tg iter body [] pos) (tFor wi g tb):=by
 intro pins s σ H D I h;refine wpAny_For (yH (hi pins s σ H _ I h) fun v s1 h1=>yH h1 fun itv s2 h2=>?_) hs;obtain ⟨it,fp,tn,J,H2,e,I2,T,st2,f2,W,⟨m0,w0⟩,turn⟩:=h2;subst e;have stat:∀ {H':Hp},(∀ b∈fp,H' b=none)->∀ b∈fp,vD X pins H' b:=fun hn b hb=>⟨hn b hb,(f2 b hb).2⟩;refine codeAny_forLoop_any (fun n s'=>∃ i σ' H',Inv X pins σ' H' s'/\tn i s'.heap/\(∀ b∈fp,H' b=none)/\W i n σ' H') ?_ m0 ⟨0,σ,H2,I2,st2,fun b hb=>(f2 b hb).1,w0⟩;rintro n s3 ⟨i,σ3,H3,I3,st3,fr3,w3⟩;rcases turn i n σ3 H3 w3 with ⟨stop,qn⟩|⟨go,N,hN,step⟩
 .refine wpAny_passesOwn hp (yH (T.done X rfl rfl rfl hc i pins s3 σ3 H3 X.xe I3 (stat fr3) st3 stop) fun r s4 ⟨hr,I4⟩=>?_);subst hr;exact wpAny_execs_nil ⟨σ3,H3,I4,qn⟩
 .refine wpAny_passesOwn hp (yH (T.item X rfl rfl rfl hc i pins s3 σ3 H3 X.xe I3 (stat fr3) st3 go) fun r s4 ⟨u,hr,h4⟩=>?_);subst hr;refine wpAny_passesOwn hp (yH h4 fun _ s5 ⟨x,H5,I5,r5,y5,st5,fr5⟩=>?_);have I5':=I5.pinned (stat fr5) (T.obj _ _ st5);refine wpAny_passesOwn hp (yH (hg _ s5 σ3 H5 x u _ I5' r5 (step x H5 y5)) fun _ s6 ⟨σ6,H6,I6,q6⟩=>?_);refine wpAny_passesOwn hp (yH (hb _ s6 σ6 H6 _ I6 q6) fun f s7 q7=>?_)
  have again:∀ {σ7:St} {H7:Hp},Inv X (pins++pZ fp s5.heap) σ7 H7 s7->N σ7 H7->∃ m,m<n/\∃ i σ' H',Inv X pins σ' H' s7/\tn i s7.heap/\(∀ b∈fp,H' b=none)/\W i m σ' H':=fun {σ7 H7} I7 n7=>by
   obtain ⟨m',hm,w7⟩:=hN σ7 H7 n7;refine ⟨m',hm,i+1,σ7,H7,I7.unpinned,T.keep _ _ _ st5 fun b hb o e=>(I7.pin (b,o) (List.mem_append_right _ (List.mem_append_right _ (vO hb e)))).1,fun b hb=>?_,w7⟩;obtain ⟨o,e,d⟩:=T.obj _ _ st5 b hb;exact (I7.pin (b,o) (List.mem_append_right _ (List.mem_append_right _ (vO hb e)))).2.1
  cases f with
  |next=>obtain ⟨σ7,H7,I7,n7⟩:=q7;exact again I7 n7
  |cont=>obtain ⟨σ7,H7,I7,n7⟩:=q7;exact again I7 n7
  |brk=>obtain ⟨σ7,H7,I7,q7⟩:=q7;exact ⟨σ7,H7,I7.unpinned,q7⟩
  |ret v=>obtain ⟨x7,σ7,H7,I7,r7,q7⟩:=q7;exact ⟨x7,σ7,H7,I7.unpinned,r7,q7⟩
end
end L2
namespace L2
open PySem PySem.Spec PyProof.Rows
abbrev R2:=V->V->Hp->VK->Prop
def kB (X:Cx) (f:Value->Value->Sem Value) (r:R2):Prop :=
 ∀ (pins:List (Addr×Obj)) (s:Shared) (σ:St) (H:Hp) (x y:V) (v u:Value) (Q:VK),Inv X pins σ H s->zD x v->zD y u->r x y H Q ->
  wpAny (model X.prog X.w) X.A (f v u) (EP X pins σ Q) X.xe s
def UnR (X:Cx) (f:Value->Sem Value) (r:V->Hp->VK->Prop):Prop :=
 ∀ (pins:List (Addr×Obj)) (s:Shared) (σ:St) (H:Hp) (x:V) (v:Value) (Q:VK),Inv X pins σ H s->zD x v->r x H Q ->
  wpAny (model X.prog X.w) X.A (f v) (EP X pins σ Q) X.xe s
def jB (X:Cx) (f:Value) (r:List V->Hp->VK->Prop):Prop :=
 ∀ (pins:List (Addr×Obj)) (s:Shared) (σ:St) (H:Hp) (xs:List V) (us:List Value) (Q:VK),Inv X pins σ H s->zE xs us->r xs H Q ->
  wpAny (model X.prog X.w) X.A (call f us) (EP X pins σ Q) X.xe s
def TruR (X:Cx) (r:V->Hp->(Bool->Hp->Prop)->Prop):Prop :=
 ∀ (pins:List (Addr×Obj)) (s:Shared) (σ:St) (H:Hp) (x:V) (v:Value) (Q:Bool->Hp->Prop),Inv X pins σ H s->zD x v->r x H Q ->
  wpAny (model X.prog X.w) X.A (truthy v) (TP X pins σ Q) X.xe s
def tOp (r:R2) (ta tb:TE):TE:=fun σ H Q=>ta σ H fun x H1=>tb σ H1 fun y H2=>r x y H2 Q
def tUn (r:V->Hp->VK->Prop) (ta:TE):TE:=fun σ H Q=>ta σ H fun x H1=>r x H1 Q
def rI (C:Int->Int->Prop) (g:Int->Int->V):R2:=fun x y H Q=>∃ i j,x=.int i/\y=.int j/\C i j/\Q (g i j) H
def rI0 (g:Int->Int->V):R2:=fun x y H Q=>∃ i j,x=.int i/\y=.int j/\Q (g i j) H
def rU (g:Int->V):V->Hp->VK->Prop:=fun x H Q=>∃ i,x=.int i/\Q (g i) H
section
variable {X : Cx} {a b c : Expr} {ta tb tc : TE} {pos : Pos}
theorem binT (ha:PE X a ta) (hb:PE X b tb) {pins:List (Addr×Obj)} {s:Shared} {σ:St} {H:Hp} {R:V->V->Hp->Prop} (I:Inv X pins σ H s)
  (h:ta σ H fun x H1=>tb σ H1 fun y H2=>R x y H2) {Q:Value->Shared->Prop} {f:Value->Value->Sem Value}
  (hf:∀ v u s2 x y H2,Inv X pins σ H2 s2->zD x v->zD y u->R x y H2->wpAny (model X.prog X.w) X.A (f v u) Q X.xe s2) :
  wpAny (model X.prog X.w) X.A (eval a X.env) (fun v s₁=>wpAny (model X.prog X.w) X.A (eval b X.env) (fun u s₂=>wpAny (model X.prog X.w) X.A (f v u) Q X.xe s₂) X.xe s₁) X.xe s:=by
 refine yH (ha pins s σ H _ I h) fun v s1 ⟨x,H1,I1,r1,q1⟩=>?_;refine yH (hb pins s1 σ H1 _ I1 q1) fun u s2 ⟨y,H2,I2,r2,q2⟩=>?_;exact hf v u s2 x y H2 I2 r1 r2 q2
theorem pe_op {op:Operator} {r:R2} (ho:kB X (binaryOp op) r) (ha:PE X a ta) (hb:PE X b tb):PE X (.BinOp a op b pos) (tOp r ta tb):=by
 intro pins s σ H Q I h;exact wpAny_BinOp (binT ha hb I h fun v u s2 x y H2 I2 rx ry q=>ho pins s2 σ H2 x y v u Q I2 rx ry q)
theorem zjt {op:UnaryOp} {r:V->Hp->VK->Prop} (ho:UnR X (unaryOp op) r) (ha:PE X a ta):PE X (.UnaryOp op a pos) (tUn r ta):=by
 intro pins s σ H Q I h;exact UnaryOp_ (yH (ha pins s σ H _ I h) fun v s1 ⟨x,H1,I1,r1,q1⟩=>ho pins s1 σ H1 x v Q I1 r1 q1)
theorem opI {f:Value->Value->Sem Value} {C:Int->Int->Prop} {g:Int->Int->Int}
  (rule:∀ (i j:Int) (t u:Tok) (s:Shared) (Q:Value->Shared->Prop) (E:Value->Shared->Prop),C i j->Q (.int (g i j) s.toks) { s with toks:=s.toks+1 }->wpAny (model X.prog X.w) X.A (f (.int i t) (.int j u)) Q E s) :
  kB X f (rI C fun i j=>.int (g i j)):=by
 intro pins s σ H x y v u Q I rx ry h;obtain ⟨i,j,rfl,rfl,hc,q⟩:=h;obtain ⟨t,rfl⟩:=rx;obtain ⟨t',rfl⟩:=ry;exact rule i j t t' s _ _ hc ⟨.int (g i j),H,I.tok _,⟨_,rfl⟩,q⟩
theorem opI0 {f:Value->Value->Sem Value} {g:Int->Int->Int}
  (rule:∀ (i j:Int) (t u:Tok) (s:Shared) (Q:Value->Shared->Prop) (E:Value->Shared->Prop),Q (.int (g i j) s.toks) { s with toks:=s.toks+1 }->wpAny (model X.prog X.w) X.A (f (.int i t) (.int j u)) Q E s) :
  kB X f (rI0 fun i j=>.int (g i j)):=by
 intro pins s σ H x y v u Q I rx ry h;obtain ⟨i,j,rfl,rfl,q⟩:=h;obtain ⟨t,rfl⟩:=rx;obtain ⟨t',rfl⟩:=ry;exact rule i j t t' s _ _ ⟨.int (g i j),H,I.tok _,⟨_,rfl⟩,q⟩
theorem opB0 {f:Value->Value->Sem Value} {g:Int->Int->Bool}
  (rule:∀ (i j:Int) (t u:Tok) (s:Shared) (Q:Value->Shared->Prop) (E:Value->Shared->Prop),Q (.bool (g i j)) s->wpAny (model X.prog X.w) X.A (f (.int i t) (.int j u)) Q E s) :
  kB X f (rI0 fun i j=>.bl (g i j)):=by
 intro pins s σ H x y v u Q I rx ry h;obtain ⟨i,j,rfl,rfl,q⟩:=h;obtain ⟨t,rfl⟩:=rx;obtain ⟨t',rfl⟩:=ry;exact rule i j t t' s _ _ ⟨.bl (g i j),H,I,rfl,q⟩
def CDiv (i j:Int):Prop:=0<j/\j<1073741824
def CPow (i j:Int):Prop:=0<=j/\j<=1000000/\i.natAbs<2 ^ 64
def CMul (i j:Int):Prop:=(-(2 ^ 64)<i/\i<2 ^ 64)\/(-(2 ^ 64)<j/\j<2 ^ 64)
theorem CMul.ok {i j:Int} (h:CMul i j):IntMulOk i j:=by
 rcases h with ⟨h1,h2⟩|⟨h1,h2⟩
 .exact .of_left (intBits_le_64 h1 h2)
 .exact .of_right (intBits_le_64 h1 h2)
theorem zjJ:kB X (binaryOp .Add) (rI0 fun i j=>.int (i+j)):=opI0 fun _ _ _ _ _ _ _ q=>add_int q
theorem zjD:kB X (binaryOp .Sub) (rI0 fun i j=>.int (i-j)):=opI0 fun _ _ _ _ _ _ _ q=>sub_int q
theorem zjG:kB X (binaryOp .Mult) (rI CMul fun i j=>.int (i * j)):=opI fun _ _ _ _ _ _ _ hc q=>mul_int q hc.ok
theorem zhu:kB X (binaryOp .FloorDiv) (rI CDiv fun i j=>.int (i / j)):=opI fun i j _ _ _ _ _ hc q=>by
 have h1:(0:Int)<j:=hc.1;have h2:j<1073741824:=hc.2;exact floordiv_int (by omega) (by rw [Int.fdiv_eq_ediv_of_nonneg i (by omega)];exact q) (.inl (PyProof.noPylong_small (by omega)))
theorem zjH:kB X (binaryOp .Mod) (rI (fun _ j=>0<j) fun i j=>.int (i % j)):=opI fun i j _ _ _ _ _ hc q=>by
 have h1:(0:Int)<j:=hc;exact mod_int' (by omega) (by rw [Int.fmod_eq_emod_of_nonneg i (by omega)];exact q)
theorem zjF:kB X (binaryOp .Pow) (rI CPow fun i j=>.int (i ^ j.toNat)):=opI fun _ _ _ _ _ _ _ hc q=>pow_int_small hc.1 hc.2.1 hc.2.2 q
theorem unI {f:Value->Sem Value} {g:Int->Int}
  (rule:∀ (i:Int) (t:Tok) (s:Shared) (Q:Value->Shared->Prop) (E:Value->Shared->Prop),Q (.int (g i) s.toks) { s with toks:=s.toks+1 }->wpAny (model X.prog X.w) X.A (f (.int i t)) Q E s) :
  UnR X f (rU fun i=>.int (g i)):=by
 intro pins s σ H x v Q I rx h;obtain ⟨i,rfl,q⟩:=h;obtain ⟨t,rfl⟩:=rx;exact rule i t s _ _ ⟨.int (g i),H,I.tok _,⟨_,rfl⟩,q⟩
theorem zfY:UnR X (unaryOp .USub) (rU fun i=>.int (-i)):=unI fun _ _ _ _ _ q=>neg_int q
end
section
variable {X : Cx} {a b c : Expr} {ta tb tc : TE} {pos : Pos}
theorem zkx {pins:List (Addr×Obj)} {σ:St} {H:Hp} {s:Shared} {Q:VK} {k k':Bool} (I:Inv X pins σ H s) (q:Q (.bl k) H) (e:k=k'):EP X pins σ Q (.bool k') s:=by
 subst e;exact ⟨.bl k,H,I,rfl,q⟩
theorem op_lt:kB X (compareOp .Lt) (rI0 fun i j=>.bl (decide (i<j))):=opB0 fun _ _ _ _ _ _ _ q=>lt_int q
theorem op_le:kB X (compareOp .LtE) (rI0 fun i j=>.bl (decide (i<=j))):=opB0 fun _ _ _ _ _ _ _ q=>le_int q
theorem op_gt:kB X (compareOp .Gt) (rI0 fun i j=>.bl (decide (j<i))):=opB0 fun _ _ _ _ _ _ _ q=>gt_int q
theorem op_ge:kB X (compareOp .GtE) (rI0 fun i j=>.bl (decide (j<=i))):=opB0 fun _ _ _ _ _ _ _ q=>ge_int q
theorem zdh:kB X (compareOp .In) (fun x y H Q=>∃ i j,x=.str i/\y=.str j/\Q (.bl (!(Builtin.Str.occurrences j i 0 j.length 1).isEmpty)) H):=by
 intro pins s σ H x y v u Q I rx ry h;obtain ⟨i,j,rfl,rfl,q⟩:=h;obtain ⟨t,rfl⟩:=rx;obtain ⟨t',rfl⟩:=ry;exact in_str (zkx I q rfl)
theorem zho {op:CmpOp} {r:R2} (ho:kB X (compareOp op) r) (ha:PE X a ta) (hb:PE X b tb) (hm:behindInMarks op b=false):PE X (.Compare a [op] [b] pos) (tOp r ta tb):=by
 intro pins s σ H Q I h;exact wpAny_Compare1 (binT ha hb I h fun v u s2 x y H2 I2 rx ry q=>ho pins s2 σ H2 x y v u Q I2 rx ry q) hm
def zgS (t:TE):TT:=fun σ H Q=>t σ H fun x H'=>∃ k,x=.bl k/\Q k H'
theorem zhc {op:CmpOp} {r:R2} (ho:kB X (compareOp op) r) (ha:PE X a ta) (hb:PE X b tb) (hm:behindInMarks op b=false):PT X (.Compare a [op] [b] pos) (zgS (tOp r ta tb)):=by
 intro pins s σ H Q I h
 refine wpAny_isTrue_Compare1 (yH (ha pins s σ H _ I h) fun v s1 ⟨x,H1,I1,r1,q1⟩=>yH (hb pins s1 σ H1 _ I1 q1) fun u s2 ⟨y,H2,I2,r2,q2⟩ =>
  yH (ho pins s2 σ H2 x y v u _ I2 r1 r2 q2) fun c s3 ⟨z,H3,I3,r3,k,e,q3⟩=>?_) hm
 subst e;cases r3;exact wpAny_truthy_bool ⟨H3,I3,q3⟩
def zcJ (r r':R2) (ta tb tc:TE):TE:=fun σ H Q=>ta σ H fun x H1=>tb σ H1 fun y H2=>r x y H2 fun z H3=>∃ k,z=.bl k /\
 (if k=true then tc σ H3 fun w' H4=>r' y w' H4 Q else Q (.bl false) H3)
theorem zfa {op op':CmpOp} {r r':R2} (ho:kB X (compareOp op) r) (ho':kB X (compareOp op') r') (ha:PE X a ta) (hb:PE X b tb) (hc:PE X c tc)
  (hm:lastMarks [op,op'] [b,c]=false:=by with_unfolding_all rfl):PE X (.Compare a [op,op'] [b,c] pos) (zcJ r r' ta tb tc):=by
 intro pins s σ H Q I h
 refine Compare_chain (yH (ha pins s σ H _ I h) fun v s1 ⟨x,H1,I1,r1,q1⟩=>chain_link (yH (hb pins s1 σ H1 _ I1 q1) fun u s2 ⟨y,H2,I2,r2,q2⟩ =>
  yH (ho pins s2 σ H2 x y v u _ I2 r1 r2 q2) fun d s3 ⟨z,H3,I3,r3,k,e,q3⟩=>?_)) hm
 subst e;cases r3;refine wpAny_truthy_bool ?_
 cases k with
 |false=>exact ite_ff ⟨.bl false,H3,I3,rfl,q3⟩
 |true=>exact ite_tt (chain_last (yH (hc pins s3 σ H3 _ I3 q3) fun w' s4 ⟨z',H4,I4,r4,q4⟩=>ho' pins s4 σ H4 y z' u w' Q I4 r2 r4 q4))
theorem zeY {op op':CmpOp} {r r':R2} (ho:kB X (compareOp op) r) (ho':kB X (compareOp op') r') (ha:PE X a ta) (hb:PE X b tb) (hc:PE X c tc)
  (hm:lastMarks [op,op'] [b,c]=false:=by with_unfolding_all rfl):PT X (.Compare a [op,op'] [b,c] pos) (zgS (zcJ r r' ta tb tc)):=by
 intro pins s σ H Q I h
 refine isTrue_chain (yH (ha pins s σ H _ I h) fun v s1 ⟨x,H1,I1,r1,q1⟩=>test_link (yH (hb pins s1 σ H1 _ I1 q1) fun u s2 ⟨y,H2,I2,r2,q2⟩ =>
  yH (ho pins s2 σ H2 x y v u _ I2 r1 r2 q2) fun d s3 ⟨z,H3,I3,r3,k,e,q3⟩=>?_)) hm
 subst e;cases r3;refine wpAny_truthy_bool ?_
 cases k with
 |false =>
  obtain ⟨k',e',q'⟩:=q3;cases e';exact ite_ff ⟨H3,I3,q'⟩
 |true =>
  refine ite_tt (test_last (yH (hc pins s3 σ H3 _ I3 q3) fun w' s4 ⟨z',H4,I4,r4,q4⟩=>yH (ho' pins s4 σ H4 y z' u w' _ I4 r2 r4 q4) fun d' s5 ⟨z2,H5,I5,r5,k2,e2,q5⟩=>?_));subst e2;cases r5;exact wpAny_truthy_bool ⟨H5,I5,q5⟩
def TruV (K:PySem.W.Frag) (x:V) (H:Hp) (k:Bool):Prop :=
 match x with
 | .non=>k=false
 | .bl b=>k=b
 | .int i=>k=(i != 0)
 | .str y=>y.length<=sizeLine/\k=((y.length:Int) != 0)
 | .byt y=>y.size<=sizeLine/\k=((y.size:Int) != 0)
 | .ref p=>(∃ xs,pM K H p xs/\k=!xs.isEmpty)\/(∃ xs,sO K H p xs/\k=!xs.isEmpty)\/∃ kvs,H p=some (.dK kvs)/\k=!kvs.isEmpty
 |_=>False
theorem zck {κ:Type} {kvs:List (κ×V)} {vs:List (κ×Value)} (r:KV kvs vs):(!vs.isEmpty)=!kvs.isEmpty:=by
 cases r<;>rfl
theorem dY {xs:List V} {its:List Value} (r:zE xs its):(!its.toArray.isEmpty)=!xs.isEmpty:=by
 cases r<;>simp
theorem sS:(sizeLine:Nat)<2 ^ 63:=by rw [sizeLine_eq];decide
theorem ziG:TruR X (fun x H Q=>∃ k,TruV X.K x H k/\Q k H):=by
 intro pins s σ H x v Q I rx h;obtain ⟨k,e,q⟩:=h;have hl:=sS;have hs:sizeLine=16777216:=sizeLine_eq
 cases x with
 |non =>
  cases rx;have e':k=false:=e;subst e';exact truthy_none ⟨H,I,q⟩
 |bl b =>
  cases rx;have e':k=b:=e;subst e';exact wpAny_truthy_bool ⟨H,I,q⟩
 |int i =>
  obtain ⟨t,rfl⟩:=rx;have e':k=(i != 0):=e;subst e';exact PySem.P.truthy_int ⟨H,I,q⟩
 |str y =>
  obtain ⟨t,rfl⟩:=rx;obtain ⟨hy,e'⟩:y.length<=sizeLine/\k=((y.length:Int) != 0):=e;subst e';exact PySem.P.truthy_str (by omega) ⟨H,I.tok _,q⟩
 |byt y =>
  obtain ⟨t,rfl⟩:=rx;obtain ⟨hy,e'⟩:y.size<=sizeLine/\k=((y.size:Int) != 0):=e;subst e';exact PySem.W.truthy_bytes (by omega) ⟨H,I.tok _,q⟩
 |ref p =>
  cases rx;have e':(∃ xs,pM X.K H p xs/\k=!xs.isEmpty)\/(∃ xs,sO X.K H p xs/\k=!xs.isEmpty)\/∃ kvs,H p=some (.dK kvs)/\k=!kvs.isEmpty:=e;rcases e' with ⟨xs,hx,e'⟩|⟨xs,hx,e'⟩|⟨kvs,hx,e'⟩
  .subst e';obtain ⟨its,r,pl,hz⟩:=I.list hx;have hlen:=r.length;exact wpAny_truthy_list pl.isList (by simp only [zzS];omega) ⟨H,I.tok _,by rw [dY r];exact q⟩
  .subst e';obtain ⟨its,r,pl,hz⟩:=I.tuple hx;have hlen:=r.length;exact truthy_tuple pl (by simp only [zzS];omega) ⟨H,I.tok _,by rw [dY r];exact q⟩
  .subst e';obtain ⟨hz,hS,vs,r,m⟩:kvs.length<=sizeLine/\(p==sysModules)=false/\∃ vs,KV kvs vs/\s.heap.DictOf (xP X.prog X.w) p vs:=I.hok p _ hx;have hlen:kvs.length=vs.length:=Paired.length r;exact wpAny_truthy_dict hS m (by omega) ⟨H,I.tok _,by rw [zck r];exact q⟩
 |_=>exact (show False from e).elim
theorem zeX (ha:PE X a ta) (he:∀ whole,isTrue a X.env whole=(do let v ← whole;standAt a.pos;holding [v] (truthy v))) :
  PT X a (fun σ H Q=>ta σ H fun x H'=>∃ k,TruV X.K x H' k/\Q k H'):=by
 intro pins s σ H Q I h;exact isTrue_plain (yH (ha pins s σ H _ I h) fun v s1 ⟨x,H1,I1,r1,q1⟩=>ziG pins s1 σ H1 x v Q I1 r1 q1) (he _)
theorem zce:kB X (binaryOp .Add) (fun x y H Q=>∃ i j,x=.str i/\y=.str j/\i.length+j.length<=sizeLine/\Q (.str (i++j)) H):=by
 intro pins s σ H x y v u Q I rx ry h;obtain ⟨i,j,rfl,rfl,hz,q⟩:=h;obtain ⟨t,rfl⟩:=rx;obtain ⟨t',rfl⟩:=ry;exact wH I.tk (add_str (fun t' tk h0=>⟨.str (i++j),H,I.tok _ h0,⟨_,rfl⟩,q⟩) hz)
theorem kM {x:V} {us:List Value} (r:zE [x] us):∃ u,us=[u]/\zD x u:=by
 cases r with
 |cons r1 r2=>cases r2;exact ⟨_,rfl,r1⟩
theorem zet {x y:V} {us:List Value} (r:zE [x,y] us):∃ u w',us=[u,w']/\zD x u/\zD y w':=by
 cases r with
 |cons r1 r2 =>
  cases r2 with
  |cons r3 r4=>cases r4;exact ⟨_,_,rfl,r1,r3⟩
theorem zee (hc:X.calm=true):jB X (.builtin "max") (fun xs H Q=>∃ i j,xs=[.int i,.int j]/\Q (.int (if j > i then j else i)) H):=by
 intro pins s σ H xs us Q I r h;obtain ⟨i,j,rfl,q⟩:=h;obtain ⟨u,w',rfl,⟨t,rfl⟩,⟨t',rfl⟩⟩:=zet r;refine wH I.tk (max_two_ints (I.ok.hd hc) fun h' tk k h0=>⟨_,H,I.kept k h0,?_,q⟩)
 by_cases hj:j > i
 .rw [if_pos hj,if_pos hj];exact ⟨_,rfl⟩
 .rw [if_neg hj,if_neg hj];exact ⟨_,rfl⟩
end
end L2
namespace L2
open PySem PySem.Spec PyProof.Rows
structure ObjM (h:Heap) (x dx C:Addr) (mA:Str->Option Value):Prop where
 obj:h.get? x=some (PySem.W.instObj C dx)
 ns:h.Ns1 dx mA
 ne:dx≠x
theorem zds {h:Heap} {dx:Addr} {mA:Str->Option Value} (n:h.Ns1 dx mA):∃ od,h.get? dx=some od/\∀ name,PySem.W.lookIn name od=some (mA name):=by
 obtain ⟨o,es,ep,ho,hd,hk,_,hm⟩:=n;refine ⟨o,ho,fun name=>?_⟩;have e:=hm name;unfold nsFind findBy at e;rw [← Array.find?_toList] at e;unfold PySem.W.lookIn;rw [hd];dsimp only
 split
 .rename_i y q;rw [q] at e;exact congrArg some e
 .rename_i q;rw [q] at e
  have a:es.toList.any (·.refKey)=false:=by
   rw [List.any_eq_false];intro y hy;obtain ⟨z,t,hkey⟩:=hk y (Array.mem_toList_iff.mp hy);simp [DictEntry.refKey,hkey]
  have a':¬ es.toList.any (·.refKey)=true:=by rw [a];exact zzN
  rw [if_neg a'];exact congrArg some e
theorem ObjM.look {h:Heap} {x dx C:Addr} {mA:Str->Option Value} (I:ObjM h x dx C mA):∃ od,PySem.W.InstAt h x (PySem.W.instObj C dx) C (some od)/\∀ name,PySem.W.lookIn name od=some (mA name) :=
 let ⟨od,ho,hl⟩:=zds I.ns
 ⟨od,⟨I.obj,rfl,rfl,ho⟩,hl⟩
section
variable {prog : Program} {w : World} {A : Around} {E : Value → Shared → Prop} {s : Shared} {K : PySem.W.Frag} {x dx C f : Addr} {mA : Str → Option Value} {name : Str} {v : Value}
theorem zhY {expr:Bool} {Q:Value->Shared->Prop} (X:K.In s.heap) (I:ObjM s.heap x dx C mA) (hg:PySem.W.plainGet K C name=true) (hh:PySem.W.hasDictIn K C=true)
  (ha:PySem.W.findIn K (.ref C) name=some none) (hv:mA name=some v) (hv':PySem.W.handedIn v=true) (h:Q v { s with toks:=s.toks+1 }) :
  wpAny (model prog w) A (getAttr (.ref x) name expr) Q E s:=by
 obtain ⟨od,J,hl⟩:=I.look;exact PySem.W.get_value X J (PySem.W.plainGet_of hg).1 (PySem.W.findObj_own hh ha rfl (by rw [hl,hv])) hv' h
theorem zgZ {ns:List Str} {Q:Unit->Shared->Prop} (X:K.In s.heap) (I:ObjM s.heap x dx C mA)
  (hs:PySem.W.findIn K (.ref C) "__setattr__" = some (some (.builtin "object.__setattr__"))) (hp:PySem.W.plainOver K C=true) (ht:PySem.W.takerIn K C name=some none) (hh:PySem.W.hasDictIn K C=true)
  (hw:PySem.Within mA ns) (hsz:ns.length<=sizeLine)
  (h:∀ h',ObjM h' x dx C (fun y=>if y=name then some v else mA y)->Heap.SameBut dx s.heap h'->Q () { s with heap:=h',toks:=s.toks+2 }) :
  wpAny (model prog w) A (setAttr (.ref x) name v) Q E s:=by
 obtain ⟨od,J,hl⟩:=I.look;refine PySem.W.set_plain X J hs (PySem.W.osa_open (s:={ s with toks:=s.toks+1 }) (r:=none) X J hp ht fun b=>?_);obtain ⟨cd,hc,hd'⟩:=PySem.W.any_some hh;have hx:s.heap.get? x=some ⟨.ref C,some dx,.plain,#[]⟩:=I.obj;refine wpAny_bind (wpAny_pure (wpAny_bind (wpAny_bind (wpAny_loadPart hx (wpAny_bind (PySem.W.Looks.here (s:={ s with toks:=s.toks+1 }) (PySem.W.looks_clsIn X hc) ?_))))));rw [hd'];refine wpAny_pure (a:=some dx) (wpAny_bind (wpAny_pure (wpAny_bind ?_)));refine wpAny_nsSet1 (s:={ s with toks:=s.toks+1 }) I.ns fun h' hn2 hs2=>?_;obtain ⟨oD,esD,epD,hoD,hdD,hcD⟩:=hn2.count (PySem.Within.cons name v hw);refine wpAny_bind (wpAny_lookBehind hoD (by rw [hdD];exact pastItsLine_dict (Nat.le_trans hcD (by rw [List.length_cons];omega))) ?_);exact wpAny_pure (h _ ⟨(hs2.2 _ (Ne.symm I.ne)).trans I.obj,hn2,I.ne⟩ hs2)
end
def vX (f:Str) (v:V):List (Str×V)->List (Str×V)
 | []=>[(f,v)]
 | (g,x)::r=>if g=f then (g,v)::r else (g,x)::vX f v r
theorem pC (f g:Str) (v:V):∀ fs:List (Str×V),(vX f v fs).lookup g=if g=f then some v else fs.lookup g
 | []=>by
  show List.lookup g [(f,v)]=_
  by_cases h:g=f
  .have hb:(g==f)=true:=beq_iff_eq.mpr h;simp only [List.lookup,hb,if_pos h]
  .have hb:(g==f)=false:=beq_eq_false_iff_ne.mpr h;simp only [List.lookup,hb,if_neg h]
 | (k,x)::r=>by
  have ih:=pC f g v r;rw [show vX f v ((k,x)::r)=(if k=f then (k,v)::r else (k,x)::vX f v r) from rfl]
  by_cases hk:k=f
  .rw [if_pos hk]
   by_cases h:g=k
   .have hb:(g==k)=true:=beq_iff_eq.mpr h;simp only [List.lookup,hb,if_pos (h.trans hk)]
   .have hb:(g==k)=false:=beq_eq_false_iff_ne.mpr h;simp only [List.lookup,hb,if_neg (fun e:g=f=>h (e.trans hk.symm))]
  .rw [if_neg hk]
   by_cases h:g=k
   .have hb:(g==k)=true:=beq_iff_eq.mpr h;simp only [List.lookup,hb,if_neg (fun e:g=f=>hk (h.symm.trans e))]
   .have hb:(g==k)=false:=beq_eq_false_iff_ne.mpr h;simp only [List.lookup,hb];exact ih
theorem pO (f:Str) (v:V):∀ fs:List (Str×V),f∈(vX f v fs).map (·.1)/\∀ g,g∈fs.map (·.1)->g∈(vX f v fs).map (·.1)
 | []=>⟨by simp [vX],fun g h=>by simp at h⟩
 | (k,x)::r=>by
  obtain ⟨i1,i2⟩:=pO f v r;rw [show vX f v ((k,x)::r)=(if k=f then (k,v)::r else (k,x)::vX f v r) from rfl]
  by_cases hk:k=f
  .rw [if_pos hk];subst hk;exact ⟨by simp,fun g h=>by simpa using h⟩
  .rw [if_neg hk];refine ⟨?_,fun g h=>?_⟩
   .rw [zzU];exact List.mem_cons_of_mem _ i1
   .rw [zzU] at h ⊢;rcases List.mem_cons.mp h with e|e
    .exact List.mem_cons.mpr (.inl e)
    .exact List.mem_cons_of_mem _ (i2 g e)
theorem pB (f:Str) (v:V):∀ fs:List (Str×V),(vX f v fs).length<=fs.length+1
 | []=>by simp [vX]
 | (k,x)::r=>by
  have ih:=pB f v r;rw [show vX f v ((k,x)::r)=(if k=f then (k,v)::r else (k,x)::vX f v r) from rfl]
  by_cases hk:k=f
  .rw [if_pos hk,List.length_cons,List.length_cons];omega
  .rw [if_neg hk,List.length_cons,List.length_cons];omega
theorem pL.some_of {v:V} {o:Option Value} (r:pL (some v) o):∃ u,o=some u/\zD v u:=by
 cases o with
 |none=>exact (show False from r).elim
 |some u=>exact ⟨u,rfl,r⟩
theorem zdK {v:V} {u:Value} (r:zD v u):PySem.W.handedIn u=true:=by
 cases v with
 |non=>cases (show u=Value.none from r);rfl
 |bl b=>cases (show u=Value.bool b from r);rfl
 |int i=>obtain ⟨t,e⟩:=(show ∃ t,u=Value.int i t from r);cases e;rfl
 |str x=>obtain ⟨t,e⟩:=(show ∃ t,u=Value.str x t from r);cases e;rfl
 |byt b=>obtain ⟨t,e⟩:=(show ∃ t,u=Value.bytes b t from r);cases e;rfl
 |flt b=>obtain ⟨t,e⟩:=(show ∃ t,u=Value.float b t from r);cases e;rfl
 |ref a=>cases (show u=Value.ref a from r);rfl
 |ty n=>cases (show u=Value.type n from r);rfl
section
variable {P : Program} {w : World} {H H' : Hp} {h h' : Heap} {a C dx : Addr} {fs fs' : List (Str × V)}
theorem zaX (hok:tL P w H h) (e:H a=some (.ins C dx fs)):∃ mA,ObjM h a dx C mA/\(∀ f,pL (fs.lookup f) (mA f))/\PySem.Within mA (fs.map (·.1))/\fs.length<=1000/\H dx=some (.own a):=by
 obtain ⟨d,z,ne,ob,mA,n,r,q⟩:=(show xU P w H h a (.ins C dx fs) from hok a _ e);exact ⟨mA,⟨ob,n,ne⟩,r,q,z,d⟩
end
structure Cls (K:PySem.W.Frag) (C:Addr):Prop where
 pg:PySem.W.plainGet K C Str.empty=true
 hd:PySem.W.hasDictIn K C=true
 po:PySem.W.plainOver K C=true
 sa:PySem.W.findIn K (.ref C) "__setattr__" = some (some (.builtin "object.__setattr__"))
theorem Cls.get {K:PySem.W.Frag} {C:Addr} (c:Cls K C) (f:Str):PySem.W.plainGet K C f=true:=c.pg
def tY (K:PySem.W.Frag) (C:Addr) (f:Str):Prop:=PySem.W.findIn K (.ref C) f=some none
theorem tY.taker {K:PySem.W.Frag} {C:Addr} {f:Str} (n:tY K C f):PySem.W.takerIn K C f=some none:=by
 unfold PySem.W.takerIn;rw [show PySem.W.findIn K (.ref C) f=some none from n];rfl
section
variable {X : Cx} {pins : List (Addr × Obj)} {σ : St} {H : Hp} {s : Shared} {a C dx : Addr} {fs : List (Str × V)} {f : Str} {v : V} {A : Around} {E : Value → Shared → Prop}
theorem zcm {b:Bool} {Q:Value->Shared->Prop} (I:Inv X pins σ H s) (e:H a=some (.ins C dx fs)) (c:Cls X.K C) (n:tY X.K C f) (l:fs.lookup f=some v)
  (h:∀ u s',Inv X pins σ H s'->zD v u->Q u s'):wpAny (model X.prog X.w) A (getAttr (.ref a) f b) Q E s:=by
 obtain ⟨mA,O,r,_,_,_⟩:=zaX I.hok e;obtain ⟨u,hu,ru⟩:=pL.some_of (v:=v) (o:=mA f) (by rw [← l];exact r f);exact zhY I.kIn O (c.get f) c.hd n hu (zdK ru) (h u _ (I.tok _) ru)
theorem zcb {y:V} {u:Value} {Q:Unit->Shared->Prop} (I:Inv X pins σ H s) (e:H a=some (.ins C dx fs)) (c:Cls X.K C) (n:tY X.K C f) (hl:fs.length<1000) (ry:zD y u)
  (h:∀ s',Inv X pins σ (xI H a (.ins C dx (vX f y fs))) s'->Q () s'):wpAny (model X.prog X.w) A (setAttr (.ref a) f u) Q E s:=by
 obtain ⟨mA,O,r,wi,_,ho⟩:=zaX I.hok e;have hz:(fs.map (·.1)).length<=sizeLine:=by rw [zzM,sizeLine_eq];omega
 refine zgZ I.kIn O c.sa c.po n.taker c.hd wi hz fun h' O' sb=>h _ ?_;have hd:∃ o,h'.get? dx=some o:=let ⟨o,_,_,e',_⟩:=O'.ns;⟨o,e'⟩;refine I.write (x:=a) (e:=dx) (by rw [e];exact True.intro) (.inr ho) (fun b q hb z=>(sb.2 b hb).trans z) hd ?_;refine ⟨by rw [zB O.ne];exact ho,?_,O.ne,O'.obj,_,O'.ns,fun g=>?_,fun g hg=>?_⟩
 .have:=pB f y fs;omega
 .show pL ((vX f y fs).lookup g) (if g=f then some u else mA g);rw [pC]
  by_cases q:g=f
  .rw [if_pos q,if_pos q];exact ry
  .rw [if_neg q,if_neg q];exact r g
 .by_cases q:g=f
  .rw [q];exact (pO f y fs).1
  .refine (pO f y fs).2 g (wi g fun z=>hg ?_);show (if g=f then some u else mA g)=none;rw [if_neg q];exact z
theorem zis {prog:Program} {w:World} {env:Env} {e:Expr} {f:Str} {pos:Pos} {s:Shared} {Q:Value->Shared->Prop} (hb:attributeBase e f env (eval e env)=eval e env)
  (h:wpAny (model prog w) A (eval e env) (fun o s₁=>wpAny (model prog w) A (getAttr o f true) Q E s₁) E s):wpAny (model prog w) A (eval (.Attribute e f pos) env) Q E s :=
 Attribute_any_ h (by rw [arm_eval_Attribute,hb])
end
def tFld (K:PySem.W.Frag) (ta:TE) (f:Str):TE:=fun σ H Q=>ta σ H fun x H1=>∃ a C dx fs v,x=.ref a/\H1 a=some (.ins C dx fs)/\Cls K C/\tY K C f/\fs.lookup f=some v/\Q v H1
def sFld (K:PySem.W.Frag) (ta tv:TE) (f:Str):TS:=fun D σ H=>tv σ H fun y H1=>ta σ H1 fun x H2=>∃ a C dx fs,x=.ref a/\H2 a=some (.ins C dx fs)/\Cls K C/\tY K C f/\fs.length<1000 /\
 D.nx σ (xI H2 a (.ins C dx (vX f y fs)))
section
variable {X : Cx} {o e value : Expr} {f : Str} {pos pos' tpos : Pos} {ta tv : TE}
theorem zjA (he:PE X e ta) (hb:attributeBase e f X.env (eval e X.env)=eval e X.env):PE X (.Attribute e f pos) (tFld X.K ta f):=by
 intro pins s σ H Q I h;refine zis hb (yH (he pins s σ H _ I h) fun u s1 ⟨x,H1,I1,rx,a,C,dx,fs,v,ex,ea,c,n,l,q⟩=>?_);subst ex;obtain rfl:u=Value.ref a:=rx;exact zcm I1 ea c n l fun u' s2 I2 ru=>⟨v,H1,I2,ru,q⟩
theorem zjo (ha:PE X o ta) (hv:PE X value tv) (hs:swapsWith value (some (.Attribute o f pos')) pos.line X.env=pure false):PS X (.Assign [.Attribute o f pos'] value pos) (sFld X.K ta tv f):=by
 intro pins s σ H D I h;refine plainObj_wpAny_Assign_Attribute (yH (hv pins s σ H _ I h) fun u s1 ⟨y,H1,I1,ry,q⟩=>yH (ha pins s1 σ H1 _ I1 q) fun ov s2 ⟨x,H2,I2,rx,a,C,dx,fs,ex,ea,c,n,l,q2⟩=>?_) hs;subst ex;obtain rfl:ov=Value.ref a:=rx;exact zcb I2 ea c n l ry fun s3 I3=>⟨σ,_,I3,q2⟩
end
section
variable {X : Cx} {pins : List (Addr × Obj)} {σ : St} {H : Hp} {s : Shared} {A : Around} {E : Value → Shared → Prop} {Q : Value → Shared → Prop} {c : Value} {b : Bool}
inductive TyOf (K:PySem.W.Frag) (H:Hp):V->Value->Prop where
 |non:TyOf K H .non (.type "NoneType")
 |bl (x:Bool):TyOf K H (.bl x) (.type "bool")
 |int (i:Int):TyOf K H (.int i) (.type "int")
 |str (x:Str):TyOf K H (.str x) (.type "str")
 |flt (x:UInt64):TyOf K H (.flt x) (.type "float")
 |lst {a:Addr} {xs:List V} (e:H a=some (.lst xs)):TyOf K H (.ref a) (.type "list")
 |frz {a:Addr} {o:Obj} {xs:List V} (e:H a=some (.frz o (.lst xs))):TyOf K H (.ref a) (.type "list")
 |tup {a:Addr} {xs:List V} (e:H a=some (.tup xs)):TyOf K H (.ref a) (.type "tuple")
 |dK {a:Addr} {kvs:List (yD×V)} (e:H a=some (.dK kvs)):TyOf K H (.ref a) (.type "dict")
 |dT {a:Addr} {kvs:List (List yD×V)} (e:H a=some (.dT kvs)):TyOf K H (.ref a) (.type "dict")
 |ins {a C dx:Addr} {fs:List (Str×V)} (e:H a=some (.ins C dx fs)) (cl:Cls K C) (ha:PySem.W.findIn K (.ref C) "__class__" = some (some (.builtin "object.__class__")))
   (hn:PySem.W.specialIn K (.builtin "object.__class__") "__get__" = some (some (.builtin "getset_descriptor.__get__"))) (htk:PySem.W.takesIn K (.builtin "object.__class__")=some true)
   (hm:PySem.W.mroIn K C (.type "object")=some true):TyOf K H (.ref a) (.ref C)
theorem kD {x:V} {u t:Value} (I:Inv X pins σ H s) (rx:zD x u) (ty:TyOf X.K H x t) (e:PySem.W.kitOne X.K t c=some b) (h:∀ tk,Q (.bool b) { s with toks:=tk }) :
  wpAny (model X.prog X.w) A (call (.builtin "isinstance") [u,c]) Q E s:=by
 cases ty with
 |non=>cases (show u=Value.none from rx);exact PySem.W.kia_one PySem.W.kitx_none I.kIn True.intro e (fun z=>nomatch z) h
 |bl y=>cases (show u=Value.bool y from rx);exact PySem.W.kia_one PySem.W.kitx_bool I.kIn True.intro e (fun z=>nomatch z) h
 |int i=>obtain ⟨t,q⟩:=(show ∃ t,u=Value.int i t from rx);cases q;exact PySem.W.kia_one PySem.W.kitx_int I.kIn True.intro e (fun z=>nomatch z) h
 |str y=>obtain ⟨t,q⟩:=(show ∃ t,u=Value.str y t from rx);cases q;exact PySem.W.kia_one PySem.W.kitx_str I.kIn True.intro e (fun z=>nomatch z) h
 |flt y=>obtain ⟨t,q⟩:=(show ∃ t,u=Value.float y t from rx);cases q;exact PySem.W.kia_one PySem.W.kitx_float I.kIn True.intro e (fun z=>nomatch z) h
 | @lst a xs ea =>
  cases (show u=Value.ref a from rx);obtain ⟨_,_,n,_,h1⟩:=(show xU X.prog X.w H s.heap a (.lst xs) from I.hok a _ ea);exact PySem.W.kia_one PySem.W.kitx_list I.kIn ⟨_,h1,rfl⟩ e (fun z=>nomatch z) h
 | @frz a ob xs ea =>
  cases (show u=Value.ref a from rx);obtain ⟨_,_,_,n,_,h1⟩:=(show xU X.prog X.w H s.heap a (.frz ob (.lst xs)) from I.hok a _ ea);exact PySem.W.kia_one PySem.W.kitx_list I.kIn ⟨_,h1,rfl⟩ e (fun z=>nomatch z) h
 | @tup a xs ea =>
  cases (show u=Value.ref a from rx);obtain ⟨_,_,_,p⟩:=(show xU X.prog X.w H s.heap a (.tup xs) from I.hok a _ ea);obtain ⟨o,h1,h2,_⟩:=p;exact PySem.W.kia_one PySem.W.kitx_tuple I.kIn ⟨o,h1,h2⟩ e (fun z=>nomatch z) h
 | @dK a kvs ea =>
  cases (show u=Value.ref a from rx);obtain ⟨_,_,vs,_,p⟩:=(show xU X.prog X.w H s.heap a (.dK kvs) from I.hok a _ ea);obtain ⟨o,es,ep,h1,h2,_⟩:=p;exact PySem.W.kia_one PySem.W.kitx_dict I.kIn ⟨o,h1,h2.1⟩ e (fun z=>nomatch z) h
 | @dT a kvs ea =>
  cases (show u=Value.ref a from rx);obtain ⟨_,_,xs,_,o,es,ep,h1,h2,_⟩:=(show xU X.prog X.w H s.heap a (.dT kvs) from I.hok a _ ea);exact PySem.W.kia_one PySem.W.kitx_dict I.kIn ⟨o,h1,h2.1⟩ e (fun z=>nomatch z) h
 | @ins a C dx fs ea cl ha hn htk hm =>
  cases (show u=Value.ref a from rx);obtain ⟨mA,O,_⟩:=zaX I.hok ea;obtain ⟨od,J,_⟩:=O.look;exact PySem.W.kia_one (PySem.W.kitx_own (cl.get _) cl.hd ha hn htk hm) I.kIn J e (fun z=>nomatch z) h
end
end L2
namespace L2
open PySem PySem.Spec PyProof.Rows
structure Room (k:Nat) (A:Around):Prop where
 gd:A.guards=some []
 hd:A.handled=none
 dp:A.depth+3 * k+5<recursionLimit
 un:A.units+16 * k+200<cLine
theorem Room.mono {j k:Nat} {A:Around} (r:Room k A) (h:j<=k):Room j A:=⟨r.gd,r.hd,by have:=r.dp;omega,by have:=r.un;omega⟩
theorem Room.deeper {k:Nat} {A:Around} (r:Room (k+1) A) (env:Env):Room k (A.deeper env) :=
 ⟨r.gd,r.hd,by have:=r.dp;show A.depth+1+3 * k+5<_;omega,by have:=r.un;show A.units+3+16 * k+200<_;omega⟩
theorem Room.depth {k:Nat} {A:Around} (r:Room k A):A.depth<recursionLimit:=by have:=r.dp;omega
def tNil:TA:=fun _ H Q=>Q [] H
def tCons (ta:TE) (tr:TA):TA:=fun σ H Q=>ta σ H fun x H1=>tr σ H1 fun xs H2=>Q (x::xs) H2
section
variable {X : Cx} {e : Expr} {es : List Expr} {te : TE} {t : TA} {pos : Pos}
theorem zgi:PA X [] tNil:=fun _ _ _ _ H Q I h=>Calls.spliced_nil ⟨[],H,I,.nil,h⟩
theorem zdc (ha:PE X e te) (hr:PA X es t) (hs:starEach (e::es) X.env=(false,eval e X.env)::starEach es X.env:=by rfl):PA X (e::es) (tCons te t):=by
 intro pos pins s σ H Q I h;rw [hs];show wpAny _ _ (spliced ((false,eval e X.env)::backTo pos (starEach es X.env))) _ _ s;refine Calls.spliced_cons (yH (ha pins s σ H _ I h) fun u s1 ⟨x,H1,I1,r1,q1⟩=>?_);exact yH (hr pos pins s1 σ H1 _ I1 q1) fun us s2 ⟨xs,H2,I2,r2,q2⟩=>⟨x::xs,H2,I2,.cons r1 r2,q2⟩
def tTup (t:TA):TE:=fun σ H Q=>t σ H fun xs H1=>xs.length<=sizeLine/\∀ p,H1 p=none->Q (.ref p) (xI H1 p (.tup xs))
def tLst (t:TA):TE:=fun σ H Q=>t σ H fun xs H1=>xs.length<=sizeLine/\∀ p,H1 p=none->Q (.ref p) (xI H1 p (.lst xs))
theorem zju {x1} (h:PA X es t):PE X (.Tuple es x1 pos) (tTup t):=by
 intro pins s σ H Q I hq;refine wpAny_Tuple_spliced (yH (h pos pins s σ H _ I hq) fun us s1 ⟨xs,H1,I1,r,z,q⟩=>⟨by rw [← r.length];exact z,?_⟩);have hf:H1 s1.heap.objs.size=none:=I1.hok.fresh (zzR _);refine ⟨.ref s1.heap.objs.size,xI H1 s1.heap.objs.size (.tup xs),I1.laid (t':=s1.toks) (fun b u e=>Heap.get?_push_of_some _ e) (zzR _) ?_,rfl,q _ hf⟩;exact ⟨z,us,r,⟨_,Heap.get?_push_size _ rfl,rfl,_,rfl⟩⟩
theorem zjz (h:PA X es t):PE X (.List es pos) (tLst t):=by
 intro pins s σ H Q I hq;refine wpAny_List_spliced (yH (h pos pins s σ H _ I hq) fun us s1 ⟨xs,H1,I1,r,z,q⟩=>⟨by rw [← r.length];exact z,?_⟩);have hf:H1 s1.heap.objs.size=none:=I1.hok.fresh (zzR _);refine ⟨.ref s1.heap.objs.size,xI H1 s1.heap.objs.size (.lst xs),I1.laid (t':=s1.toks) (fun b u e=>Heap.get?_push_of_some _ e) (zzR _) ?_,rfl,q _ hf⟩;exact ⟨z,us,0,r,Heap.get?_push_size _ rfl⟩
end
abbrev Sp:=List V->Hp->VK->XK->Prop
abbrev CXT:=List Env->Hp->Shared->XK->Value->Shared->Prop
structure Env0 (P:Program) (w:World) (K:PySem.W.Frag) (mg:Str->Option Value) (base:Heap) (A:Around) (outer:List Env) (s:Shared) (H:Hp):Prop where
 frames:A.frames=some outer
 mod:Mod K mg base
 bs:∀ b o,base.get? b=some o->s.heap.get? b=some o/\H b=none
 bsz:base.objs.size<=s.heap.objs.size
 funs:s.heap.FunFrames base outer
 frf:∀ b∈frs outer,H b=none
 hok:tL P w H s.heap
 bare:AllBare s.gens
 tk:0<s.toks
def CE (outer:List Env) (P:Program) (w:World) (H:Hp) (s:Shared) (Q:VK) (u:Value) (s':Shared):Prop :=
 ∃ v H',s'.os=s.os/\0<s'.toks/\AllBare s'.gens/\Un (frs outer) [] H H' s.heap s'.heap/\tL P w H' s'.heap/\zD v u/\Q v H'
def CR (CX:CXT) (outer:List Env) (P:Program) (w:World) (H:Hp) (s:Shared) (Q:VK) (E:XK) (r:Result) (s':Shared):Prop :=
 match r with
 | .ok (.ret u)=>CE outer P w H s Q u s'
 | .ok _=>False
 | .error e=>CX outer H s E e s'
structure FnOk (P:Program) (w:World) (K:PySem.W.Frag) (mg:Str->Option Value) (base:Heap) (CX:CXT) (k:Nat) (f:Addr) (fd:FuncData) (ps:List Str) (sp:Sp):Prop where
 len:∀ vs H Q E,sp vs H Q E->vs.length=ps.length
 run:∀ (A:Around) (outer:List Env) (s:Shared) (H:Hp) (args:Args) (us:List Value) (vs:List V) (Q:VK) (E:XK),Room k A->Env0 P w K mg base A outer s H->BindsTo s fd args (ps.zip us)->zE vs us->sp vs H Q E ->
  codeAny (model P w) A (.call (.ref f) args) (CR CX outer P w H s Q E) s
 one:∀ (x:Str),ps=[x]->fd.scope.names.lookup x=some .local->∀ (A:Around) (outer:List Env) (s:Shared) (H:Hp) (args:Args) (us:List Value) (vs:List V) (Q:VK) (E:XK),Room k A->Env0 P w K mg base A outer { s with toks:=1 } H->BindsTo s fd args (ps.zip us)->zE vs us->sp vs H Q E ->
  codeAny (model P w) A (.call (.ref f) args) (CR CX outer P w H s Q E) s
theorem FnOk.mono {P:Program} {w:World} {K:PySem.W.Frag} {mg:Str->Option Value} {base:Heap} {CX:CXT} {j k:Nat} {f:Addr} {fd:FuncData} {ps:List Str} {sp:Sp} (F:FnOk P w K mg base CX j f fd ps sp) (h:j<=k) :
  FnOk P w K mg base CX k f fd ps sp:=⟨F.len,fun A outer s H args us vs Q E hr=>F.run A outer s H args us vs Q E (hr.mono h),fun x e l A outer s H args us vs Q E hr=>F.one x e l A outer s H args us vs Q E (hr.mono h)⟩
section
variable {X : Cx} {pins : List (Addr × Obj)} {σ : St} {H : Hp} {s s' : Shared}
theorem Inv.env0 (I:Inv X pins σ H s):Env0 X.prog X.w X.K X.mg X.base X.A X.stack s H :=
 ⟨I.ok.frames,I.ok.mod,I.bs,Nat.le_trans I.ok.bsz I.sz,I.stack,I.stkFree,I.hok,I.bare,I.tk⟩
theorem Inv.after {Q:VK} {u:Value} (I:Inv X pins σ H s) (h:CE X.stack X.prog X.w H s Q u s'):EP X pins σ Q u s':=by
 obtain ⟨v,H',os,tk,bare,un,hok,r,q⟩:=h;obtain ⟨hh,g,d,t,os'⟩:=s';obtain rfl:os'=s.os:=os;exact ⟨v,H',I.call (h':=hh) (g':=g) (d':=d) (t':=t) (ch:=[]) un hok bare (fun b z=>absurd z (by simp)) tk,r,q⟩
end
def zgU (sp:Sp) (dvs:List V) (E:XK) (t:TA):TE:=fun σ H Q=>t σ H fun vs H1=>sp (vs++dvs) H1 Q E
def tD (K:PySem.W.Frag) (fd:FuncData) (ps:List Str) (ds:List Value):Prop :=
 ∀ (s:Shared) (us:List Value),K.In s.heap->(us++ds).length=ps.length->BindsTo s fd ⟨us,[]⟩ (ps.zip (us++ds))
theorem tD.all {K:PySem.W.Frag} {fd:FuncData} {ps:List Str} (h:∀ us:List Value,us.length=ps.length->bindArgs fd ⟨us,[]⟩=pure (ps.zip us)):tD K fd ps []:=fun s us _ hl=>by
 rw [List.append_nil] at hl ⊢;exact .of_eq (h us hl)
def zb1 (CX:CXT) (X:Cx) (E:XK):Prop:=∀ (pins:List (Addr×Obj)) (σ:St) (H:Hp) (s:Shared) (e:Value) (s':Shared),Inv X pins σ H s->CX X.stack H s E e s'->X.xe e s'
section
variable {X : Cx} {CX : CXT} {k : Nat} {f C : Addr} {fd : FuncData} {ps : List Str} {sp : Sp} {dvs : List V} {ds : List Value} {E : XK} {x m : Str} {p pos apos : Pos} {e o : Expr} {es : List Expr} {ta : TE} {t : TA}
theorem zc1 {pins:List (Addr×Obj)} {σ:St} {H:Hp} {s:Shared} {Q:VK} {us:List Value} {vs:List V} (F:FnOk X.prog X.w X.K X.mg X.base CX k f fd ps sp) (hr:Room k X.A) (hb:tD X.K fd ps ds) (hd:zE dvs ds) (hx:zb1 CX X E)
  (I:Inv X pins σ H s) (r:zE vs us) (h:sp (vs++dvs) H Q E):wpAny (model X.prog X.w) X.A (call (.ref f) us) (EP X pins σ Q) X.xe s:=by
 have r2:zE (vs++dvs) (us++ds):=r.append hd;have hl:(us++ds).length=ps.length:=by rw [← r2.length];exact F.len _ _ _ _ h
 refine wpAny_call (codeAny_mono (F.run X.A X.stack s H ⟨us,[]⟩ (us++ds) (vs++dvs) Q E hr I.env0 (hb s us I.kIn hl) r2 h) fun r s' hq=>?_)
 cases r with
 |error e=>exact hx pins σ H s e s' I hq
 |ok fl =>
  cases fl with
  |ret u=>exact I.after hq
  |next=>exact False.elim hq
  |brk=>exact False.elim hq
  |cont=>exact False.elim hq
theorem zhp (F:FnOk X.prog X.w X.K X.mg X.base CX k f fd ps sp) (hr:Room k X.A) (hg:Gl X x) (hm:X.mg x=some (.ref f)) (hk:PySem.W.keepIn X.K (.ref f)=true) (hb:tD X.K fd ps ds) (hd:zE dvs ds) (hx:zb1 CX X E)
  (ha:PA X (e::es) t) (hdb:(x==("__debug__" : Str))=false:=by decide) (he:starEach (e::es) X.env=(false,eval e X.env)::starEach es X.env:=by rfl) (hpl:(backTo pos (starEach es X.env)).any (·.1)=false:=by rfl) :
  PE X (.Call (.Name x p) (e::es) [] pos) (zgU sp dvs E t):=by
 intro pins s σ H Q I h;refine wpAny_Call_Name_kw (zaU I hg hm ?_ hdb);refine PySem.W.callWith_K (h₀:=X.base) I.ok.mod.kin hk (yH (ha pos pins s σ H _ I h) fun us s1 ⟨vs,H1,I1,r,q⟩=>⟨I1.kIn,?_⟩) he hpl;exact zc1 F hr hb hd hx I1 r q
theorem zfc (F:FnOk X.prog X.w X.K X.mg X.base CX k f fd ps sp) (hr:Room k X.A) (hg:Gl X x) (hm:X.mg x=some (.ref f)) (hk:PySem.W.keepIn X.K (.ref f)=true) (hb:tD X.K fd ps ds) (hd:zE dvs ds) (hx:zb1 CX X E)
  (hdb:(x==("__debug__" : Str))=false:=by decide):PE X (.Call (.Name x p) [] [] pos) (zgU sp dvs E tNil):=by
 intro pins s σ H Q I h;refine wpAny_Call_Name_kw (zaU I hg hm ?_ hdb);exact PySem.W.callWith_K0 I.kIn hk (zc1 (us:=[]) F hr hb hd hx I .nil h)
end
section
variable {X : Cx} {CX : CXT} {k : Nat} {f C : Addr} {fd : FuncData} {ps ks : List Str} {sp : Sp} {E : XK} {x m : Str} {p pos apos kpos : Pos} {e o : Expr} {es : List Expr} {kws : List Keyword} {te ta : TE} {t tk : TA} {nm : Option Str}
variable {g : List Value → List Value → List Value} {gV : List V → List V → List V}
end
structure FnScope (N P:List Str) (sc:Scope):Prop where
 kind:sc.kind=.function
 co:sc.isCoroutine=false
 gen:sc.isGenerator=false
 nd:N.Nodup
 pre:N.take P.length=P
 par:∀ x∈P,sc.names.lookup x=some .local\/sc.names.lookup x=some .cell
 nofree:∀ y∈sc.names,y.2≠.free
theorem zat {kindOf:Str->Option NameKind} {x:Str}:∀ {binds:List (Str×Value)} {m:Str->Option Value},(∀ v,(x,v)∉binds)->bindL kindOf binds m x=m x
 | [],_,_=>rfl
 | (n,v)::r,m,h=>by
  unfold bindL;rw [zat fun w hw=>h w (List.mem_cons_of_mem _ hw)]
  split
  .have:x≠n:=by rintro rfl;exact h v zzT
   simp [this]
  .rfl
theorem zav {kindOf:Str->Option NameKind} {x:Str}:∀ {binds:List (Str×Value)} {m:Str->Option Value},(∀ v,(x,v)∉binds)->bindC kindOf binds m x=m x
 | [],_,_=>rfl
 | (n,v)::r,m,h=>by
  unfold bindC;rw [zav fun w hw=>h w (List.mem_cons_of_mem _ hw)]
  split
  .rfl
  .have:x≠n:=by rintro rfl;exact h v zzT
   simp [this]
theorem zau {kindOf:Str->Option NameKind} {x:Str} {v:Value}:∀ {P:List Str} {vs:List Value} {i:Nat} {m:Str->Option Value},P.Nodup->P[i]?=some x->vs[i]?=some v->kindOf x=some .local ->
  bindL kindOf (P.zip vs) m x=some v
 | [],_,_,_,_,h,_,_=>by simp at h
 |_::_,[],_,_,_,_,h,_=>by simp at h
 |p::P,w::vs,0,m,nd,h1,h2,hk=>by
  simp at h1 h2;subst h1;subst h2;show bindL kindOf ((p,w)::P.zip vs) m p=_;unfold bindL;rw [zat fun v hv=>(List.nodup_cons.mp nd).1 (List.of_mem_zip hv).1,if_pos hk];simp
 |p::P,w::vs,i+1,m,nd,h1,h2,hk=>by
  show bindL kindOf ((p,w)::P.zip vs) m x=_;unfold bindL;exact zau (i:=i) (List.nodup_cons.mp nd).2 (by simpa using h1) (by simpa using h2) hk
theorem zaw {kindOf:Str->Option NameKind} {x:Str} {v:Value}:∀ {P:List Str} {vs:List Value} {i:Nat} {m:Str->Option Value},P.Nodup->P[i]?=some x->vs[i]?=some v->kindOf x≠some .local ->
  bindC kindOf (P.zip vs) m x=some v
 | [],_,_,_,_,h,_,_=>by simp at h
 |_::_,[],_,_,_,_,h,_=>by simp at h
 |p::P,w::vs,0,m,nd,h1,h2,hk=>by
  simp at h1 h2;subst h1;subst h2;show bindC kindOf ((p,w)::P.zip vs) m p=_;unfold bindC;rw [zav fun v hv=>(List.nodup_cons.mp nd).1 (List.of_mem_zip hv).1,if_neg hk];simp
 |p::P,w::vs,i+1,m,nd,h1,h2,hk=>by
  show bindC kindOf ((p,w)::P.zip vs) m x=_;unfold bindC;exact zaw (i:=i) (List.nodup_cons.mp nd).2 (by simpa using h1) (by simpa using h2) hk
def start (N:List Str) (vs:List V):St:=vs.map some++List.replicate (N.length-vs.length) none
def cxOf (CX:CXT) (P:Program) (w:World) (K:PySem.W.Frag) (mg:Str->Option Value) (base:Heap) (N:List Str) (qual:Str) (scope:Scope) (f:Addr) (cd:Value) (A:Around) (outer:List Env) (s:Shared) (H:Hp) (E:XK):Cx where
 prog:=P
 w:=w
 K:=K
 mg:=mg
 base:=base
 A:=A.deeper (envOfC qual scope s.heap.objs.size f cd)
 N:=N
 s₀:=s
 H₀:=H
 env:=envOfC qual scope s.heap.objs.size f cd
 outer:=outer
 stack:=envOfC qual scope s.heap.objs.size f cd::outer
 ex:=[]
 calm:=true
 fn:=fun _=>true
 pn:=[]
 xe:=fun e s'=>wpAny (model P w) (A.deeper (envOfC qual scope s.heap.objs.size f cd)) (leaving (envOfC qual scope s.heap.objs.size f cd) e) (fun _ s''=>CX outer H s E e s'') (fun e' s''=>CX outer H s E e' s'') s'
theorem zbX {sc:Scope} {n:Nat} {x:Str} (h:sc.names.lookup x=some .cell):∃ c,(cellsFrom n sc.names []).lookup x=some c:=by
 have q:=PySem.W.cellsFrom_some sc.names n [] (.inl h);exact Option.isSome_iff_exists.mp q
theorem zdH {CX:CXT} {P:Program} {w:World} {K:PySem.W.Frag} {mg:Str->Option Value} {base:Heap} {N ps:List Str} {qual:Str} {scope:Scope} {f:Addr} {cd:Value} {A:Around} {outer:List Env} {s s1:Shared} {H:Hp} {E:XK} {us:List Value} {vs:List V}
  (S:FnScope N ps scope) (hd:A.handled=none) (e0:Env0 P w K mg base A outer { s with toks:=1 } H) (hl:vs.length=ps.length) (r:zE vs us)
  (x:InCallC s s.heap.objs.size (bindL (envOfC qual scope s.heap.objs.size f cd).kindOf (ps.zip us) fun _=>none) (cellsFrom (s.heap.objs.size+1) scope.names []) (bindC (envOfC qual scope s.heap.objs.size f cd).kindOf (ps.zip us) fun _=>none) s1) (h0:0<s1.toks) :
  Inv (cxOf CX P w K mg base N qual scope f cd A outer s H E) [] (start N vs) H s1:=by
 have hpl:ps.length<=N.length:=by have:=congrArg List.length S.pre;rw [List.length_take] at this;omega
 obtain ⟨h1,tk,rfl,hk⟩:=x.done;have noA:∀ b:Addr,b∉(cxOf CX P w K mg base N qual scope f cd A outer s H E).ex:=fun b z=>absurd (show b∈([]:List Addr) from z) (by simp)
 refine ⟨⟨e0.mod,S.kind,rfl,rfl,zzR _,fun y z c h1 h2=>?_,fun y hy=>?_,fun y c _ h=>?_,fun _=>hd,Around.frames_deeper e0.frames,.inr ⟨rfl,rfl⟩,fun b z=>absurd z (noA b),e0.bs,e0.bsz,fun b _ _=>noA b,fun b z=>absurd z (noA b),e0.funs,e0.frf⟩,
  rfl,e0.bare,Un.kept hk,⟨_,x.toInCall.ns,fun i y v h1 h2 h3=>?_⟩,fun y c h=>⟨_,x.cell y c h⟩,e0.hok.fresh (zzR _),fun y c h=>?_,fun p hp=>absurd (show p∈([]:List (Addr×Obj)) from hp) (by simp),e0.hok.kept hk,?_,h0⟩
 .exact name_of_addr x.apart (PySem.mem_of_lookup h1) (PySem.mem_of_lookup h2)
 .have hy:scope.names.lookup y=some .cell\/scope.names.lookup y=some .free:=hy;rcases hy with hy|hy
  .exact zbX hy
  .exact absurd rfl (S.nofree _ (PySem.mem_of_lookup hy))
 .exact Nat.le_of_lt (x.above y c (PySem.mem_of_lookup h))
 .have hi:i<vs.length:=by
   unfold start at h2
   by_cases hi:i<vs.length
   .exact hi
   .rw [List.getElem?_append_right (by simpa using hi)] at h2;rw [List.getElem?_replicate] at h2
    split at h2<;>cases h2
  have ha:vs[i]?=some v:=by
   unfold start at h2;rw [List.getElem?_append_left (by simpa using hi),List.getElem?_map] at h2
   cases e:vs[i]? with
   |none=>rw [e] at h2;cases h2
   |some a=>rw [e] at h2;cases h2;rfl
  obtain ⟨u,hu,rv⟩:=r.get ha
  have hp:ps[i]?=some y:=by
   rw [← S.pre,List.getElem?_take_of_lt (by omega)];exact h1
  have ndP:ps.Nodup:=by rw [← S.pre];exact S.nd.sublist (List.take_sublist _ _)
  refine ⟨u,rv,?_⟩;rcases S.par y (List.mem_of_getElem? hp) with k|k
  .exact .inl ⟨k,zau ndP hp hu k⟩
  .obtain ⟨c,e⟩:=zbX (n:=s.heap.objs.size+1) k;refine .inr ⟨.inl k,c,e,?_⟩;have q:=x.cell y c e;rw [zaw ndP hp hu (by show scope.names.lookup y≠_;rw [k];decide)] at q;exact q
 .exact e0.hok.fresh (Nat.le_of_lt (x.above y c (PySem.mem_of_lookup h)))
 .unfold start;show _=N.length;rw [zzW,zzM,List.length_replicate];omega
theorem fn_of {CX:CXT} {P:Program} {w:World} {K:PySem.W.Frag} {mg:Str->Option Value} {base:Heap} {k:Nat} {f:Addr} {name qual:Str} {params:Arguments} {body:List Stmt} {scope:Scope} {dV kV doc pm cdv ct oc:Value} {an od:Option Addr}
  {osl:Array (Option Value)} {N ps:List Str} {sp:Sp} (lk:K.lookup f=some ⟨oc,od,.func (PySem.W.fnOf name qual params body scope dV kV doc pm an cdv ct),osl⟩) (hcd:PySem.W.codeIn K cdv qual=true) (S:FnScope N ps scope)
  (len:∀ vs H Q E,sp vs H Q E->vs.length=ps.length)
  (hbody:∀ (A:Around) (outer:List Env) (s:Shared) (H:Hp) (vs:List V) (Q:VK) (E:XK),Room k (A.deeper (envOfC qual scope s.heap.objs.size f cdv))->sp vs H Q E ->
   ∃ t,PSs (cxOf CX P w K mg base N qual scope f cdv A outer s H E) body t/\t { nx:=fun _ H'=>Q .non H',rt:=Q } (start N vs) H) :
  FnOk P w K mg base CX (k+1) f (PySem.W.fnOf name qual params body scope dV kV doc pm an cdv ct) ps sp:=by
 suffices core:∀ (A:Around) (outer:List Env) (s:Shared) (H:Hp) (args:Args) (us:List Value) (vs:List V) (Q:VK) (E:XK),Room (k+1) A->Env0 P w K mg base A outer { s with toks:=1 } H->BindsTo s (PySem.W.fnOf name qual params body scope dV kV doc pm an cdv ct) args (ps.zip us)->zE vs us->sp vs H Q E ->
   (0<s.toks\/∃ x,ps=[x]/\scope.names.lookup x=some .local)->codeAny (model P w) A (.call (.ref f) args) (CR CX outer P w H s Q E) s from
  ⟨len,fun A outer s H args us vs Q E hr e0 hb r hsp=>core A outer s H args us vs Q E hr ⟨e0.frames,e0.mod,e0.bs,e0.bsz,e0.funs,e0.frf,e0.hok,e0.bare,Nat.one_pos⟩ hb r hsp (.inl e0.tk),fun x e l A outer s H args us vs Q E hr e0 hb r hsp=>core A outer s H args us vs Q E hr e0 hb r hsp (.inr ⟨x,e,l⟩)⟩
 intro A outer s H args us vs Q E hr e0 hb r hsp hpos;have hl:=len _ _ _ _ hsp;have KX:K.In s.heap:=e0.mod.kin.keeps fun b o e=>(e0.bs b o e).1;have lim:s.heap.NoLimit:=e0.mod.nolimit.keeps fun b o e=>(e0.bs b o e).1
 have hkind:∀ y∈ps.zip us,scope.names.lookup y.1=some .local\/(scope.names.lookup y.1=some .cell/\((cellsFrom (s.heap.objs.size+1) scope.names []).lookup y.1).isSome=true):=fun ⟨n,v⟩ hy=>by
  rcases S.par n (List.of_mem_zip hy).1 with q|q
  .exact .inl q
  .exact .inr ⟨q,PySem.W.cellsFrom_some _ _ _ (.inl q)⟩
 refine codeAny_call_function hr.depth (KX _ _ lk) rfl S.co S.gen rfl (PySem.W.codeRec_of KX hcd) (hb _ _ _ _ ?_);refine zcf S.kind hkind (r.length.symm.trans hl) hpos fun env he s1 x h0=>?_;subst he;refine ⟨lim.keeps x.toInCall.keep,codeAny_func ?_⟩;obtain ⟨t,ht,hq⟩:=hbody A outer s H vs Q E (hr.deeper _) hsp;have I:Inv (cxOf CX P w K mg base N qual scope f cdv A outer s H E) [] (start N vs) H s1:=zdH S hr.hd e0 hl r x h0;refine wpAny_mono (ht [] s1 (start N vs) H _ I hq) (fun fl s' hs=>?_) fun e s' hs=>hs
 have fin:∀ {σ':St} {H':Hp} {v:V} {u:Value},Inv (cxOf CX P w K mg base N qual scope f cdv A outer s H E) [] σ' H' s'->zD v u->Q v H'->CE outer P w H s Q u s' :=
  fun {σ' H' v u} J rv q=>⟨v,H',J.os,J.tk,J.bare,J.base,J.hok,rv,q⟩
 cases fl with
 |ret u =>
  obtain ⟨v,σ',H',J,rv,q⟩:=hs;exact fin J rv q
 |next =>
  obtain ⟨σ',H',J,q⟩:=hs;exact fin (v:=V.non) (u:=Value.none) J rfl q
 |brk =>
  obtain ⟨_,_,_,q⟩:=hs;exact False.elim q
 |cont =>
  obtain ⟨_,_,_,q⟩:=hs;exact False.elim q
end L2
namespace L2
open PySem PySem.Spec PyProof.Rows
section
variable {X : Cx} {x : Str} {p pos : Pos} {e : Expr} {es : List Expr} {t : TA} {id T : String} {r : List V → Hp → VK → Prop}
def tCB (r:List V->Hp->VK->Prop) (t:TA):TE:=fun σ H Q=>t σ H fun vs H1=>r vs H1 Q
theorem zfb (hc:jB X (.builtin id) r) (hg:Gl X x) (hm:X.mg x=none) (hv:bootBuiltins x=some (.builtin id)) (ha:PA X (e::es) t) (hn:x ≠ "__name__" := by decide) (hdb:(x==("__debug__" : Str))=false:=by decide)
  (he:starEach (e::es) X.env=(false,eval e X.env)::starEach es X.env:=by rfl) (hpl:(backTo pos (starEach es X.env)).any (·.1)=false:=by rfl):PE X (.Call (.Name x p) (e::es) [] pos) (tCB r t):=by
 intro pins s σ H Q I h;refine wpAny_Call_Name_kw (sR I hg hm hv ?_ hn hdb);exact PyProof.Rows.callWith_builtin1 (yH (ha pos pins s σ H _ I h) fun us s1 ⟨vs,H1,I1,r1,q1⟩=>hc pins s1 σ H1 vs us Q I1 r1 q1) he hpl
theorem zda (hc:jB X (.type T) r) (hg:Gl X x) (hm:X.mg x=none) (hv:bootBuiltins x=some (.type T)) (ha:PA X (e::es) t) (hn:x ≠ "__name__" := by decide) (hdb:(x==("__debug__" : Str))=false:=by decide)
  (he:starEach (e::es) X.env=(false,eval e X.env)::starEach es X.env:=by rfl) (hpl:(backTo pos (starEach es X.env)).any (·.1)=false:=by rfl):PE X (.Call (.Name x p) (e::es) [] pos) (tCB r t):=by
 intro pins s σ H Q I h;refine wpAny_Call_Name_kw (sR I hg hm hv ?_ hn hdb);exact PyProof.Rows.callWith_type1 (yH (ha pos pins s σ H _ I h) fun us s1 ⟨vs,H1,I1,r1,q1⟩=>hc pins s1 σ H1 vs us Q I1 r1 q1) he hpl
end
end L2
namespace HT
open PySem PyProof.Rows
section
open PySem.SeqAt
open PySem.AutoSeq1 (wpAny_loadPart')
open PySem.MeetsSeq PySem.MeetsSeq2 PySem.MeetsSeq3
end
section
variable {prog : Program} {w : World} {A : Around} {E : Value → Shared → Prop} {s : Shared}
theorem zim {t b:Addr} {vs ws:List Value} {Q:Value->Shared->Prop} (ht:IsTup s.heap t vs.toArray) (hb:IsTup s.heap b ws.toArray) (hv:vs≠[])
  (h1:ws=[]->Q (.ref t) s) (h2:ws≠[]->Q (.ref s.heap.objs.size) { s with heap:=s.heap.push { cls:=.type "tuple", data:=.seq (vs++ws).toArray } })
  (hsz:vs.length+ws.length<=sizeLine):wpAny (model prog w) A (binaryOp .Add (.ref t) (.ref b)) Q E s:=by
 obtain ⟨⟨cls,dd,data,sl⟩,ho,hc,n,hd⟩:=id ht;obtain ⟨⟨cls2,dd2,data2,sl2⟩,ho2,hc2,n2,hd2⟩:=id hb;simp only at hc hd hc2 hd2;subst hc hd hc2 hd2;have e:vs.toArray++ws.toArray=(vs++ws).toArray:=by simp
 by_cases hw:ws=[]
 .exact concat_meets ⟨_,ho,rfl⟩ ⟨_,ho2,rfl⟩ noFill_tuple_add seq_tuple_add PySem.F.slot_tuple_add PySem.F.entry_tuple_add (PySem.F.args_tuple_add_2 _ _)
   (tuple_addW1 t b vs.toArray ws.toArray n n2 dd dd2 sl sl2 (by simpa using hv) (by simp [hw])) ⟨ho,ho2,h1 hw⟩
 .refine concat_meets ⟨_,ho,rfl⟩ ⟨_,ho2,rfl⟩ noFill_tuple_add seq_tuple_add PySem.F.slot_tuple_add PySem.F.entry_tuple_add (PySem.F.args_tuple_add_2 _ _)
   (tuple_addW2 t b vs.toArray ws.toArray n n2 dd dd2 sl sl2 (by simpa using hv) (by simpa using hw) (by rw [zzS,zzS];exact hsz)) ⟨ho,ho2,?_⟩
  rw [e];exact h2 hw
def wN (n d:Nat):Option Int->Nat
 |none=>d
 |some v=>if v<0 then (v+(n:Int)).toNat else min v.toNat n
theorem zi9 (n d:Nat) (hd:d<=n) (o:Option Int):wN n d o<=n:=by
 cases o with
 |none=>exact hd
 |some v =>
  show (if v<0 then (v+(n:Int)).toNat else min v.toNat n)<=n
  by_cases hv:v<0
  .rw [if_pos hv];omega
  .rw [if_neg hv];exact Nat.min_le_right _ _
theorem zd9 (v:Int) (n d:Nat):(if v<0 then max (v+(n:Int)) 0 else min v (n:Int))=((wN n d (some v):Nat):Int):=by
 show (if v<0 then max (v+(n:Int)) 0 else min v (n:Int))=(((if v<0 then (v+(n:Int)).toNat else min v.toNat n):Nat):Int)
 by_cases hv:v<0
 .simp only [if_pos hv];omega
 .simp only [if_neg hv];omega
theorem zcv (lo hi:Option Int) (n:Nat):Builtin.Slice.sliceAdjust lo hi 1 (n:Int)=(((wN n 0 lo:Nat):Int),((wN n n hi:Nat):Int)):=by
 have h1:¬ ((1:Int)<0):=by omega
 unfold Builtin.Slice.sliceAdjust;simp only [h1,if_false];refine Prod.ext ?_ ?_
 .cases lo with
  |none=>rfl
  |some v=>exact zd9 v n 0
 .cases hi with
  |none=>rfl
  |some v=>exact zd9 v n n
theorem zcd (i j:Nat):Builtin.Slice.slicePlaces (i:Int) (j:Int) 1=j-i:=by
 unfold Builtin.Slice.slicePlaces;have h1:(1:Int) > 0:=by omega
 simp only [h1,if_true,Int.ediv_one]
 split<;>omega
theorem gM {v:Value} {o:Option Int} {Q:Option Int->Shared->Prop} (p:IsPart v o) (h:Q o s):wpAny (model prog w) A (Builtin.Slice.slicePartIndex v) Q E s:=by
 cases p with
 |none=>exact slicePart_none h
 |int i t=>exact slicePart_int h
theorem kJ {sl:Addr} {vl vu:Value} {lo hi:Option Int} {n:Nat} {Q:Int×Int×Nat->Shared->Prop} (hs:s.heap.IsSliceOf sl vl vu .none) (pl:IsPart vl lo) (pu:IsPart vu hi)
  (h:Q (((wN n 0 lo:Nat):Int),1,wN n n hi-wN n 0 lo) s):wpAny (model prog w) A (Builtin.Slice.sliceApplied (.ref sl) (pure (n:Int))) Q E s:=by
 obtain ⟨os,hos,hcs,hds⟩:=id hs;unfold Builtin.Slice.sliceApplied Builtin.Slice.sliceFields;refine wpAny_bind (wpAny_bind (wpAny_field hos hds (x:=vl) rfl (wpAny_bind (wpAny_field hos hds (x:=vu) rfl (wpAny_bind (wpAny_field hos hds (x:=.none) rfl (wpAny_pure ?_)))))));refine wpAny_bind (slicePart_none ?_);show wpAny _ _ (if ((1:Int)==0)=true then _ else _) _ _ s;rw [if_neg (by decide)];refine wpAny_bind (gM pl (wpAny_bind (gM pu (wpAny_bind (wpAny_pure ?_)))));show wpAny _ _ (match Builtin.Slice.sliceAdjust lo hi 1 (n:Int) with|(lo,hi)=>pure (lo,(1:Int),Builtin.Slice.slicePlaces lo hi 1)) _ _ s;rw [zcv lo hi n];show wpAny _ _ (pure (((wN n 0 lo:Nat):Int),(1:Int),Builtin.Slice.slicePlaces ((wN n 0 lo:Nat):Int) ((wN n n hi:Nat):Int) 1)) _ _ s;rw [zcd];exact wpAny_pure h
theorem ze7 (xs:Array Value) (i k:Nat):((List.range k).filterMap fun (m:Nat)=>xs[((i:Int)+(m:Int) * 1).toNat]?).toArray=((xs.toList.drop i).take k).toArray:=by
 have e:(fun (m:Nat)=>xs[((i:Int)+(m:Int) * 1).toNat]?)=fun m=>xs[i+m]?:=by
  funext m
  have:((i:Int)+(m:Int) * 1).toNat=i+m:=by omega
  rw [this]
 rw [e];have:=pick_run xs i k;rw [List.filterMap_map] at this;have e2:((fun x=>xs[x]?) ∘ fun x=>i+x)=fun m=>xs[i+m]?:=rfl;rw [e2] at this;rw [this]
theorem rN {t sl:Addr} {items:Array Value} {vl vu:Value} {lo hi:Option Int} {Q:Value->Shared->Prop} (ht:IsTup s.heap t items) (hs:s.heap.IsSliceOf sl vl vu .none) (pl:IsPart vl lo) (pu:IsPart vu hi)
  (hw:¬ (wN items.size 0 lo=0/\wN items.size items.size hi=items.size))
  (h:Q (.ref s.heap.objs.size) { s with heap:=s.heap.push { cls:=.type "tuple", data:=.seq ((items.toList.drop (wN items.size 0 lo)).take (wN items.size items.size hi-wN items.size 0 lo)).toArray } })
  (hsz:items.size<=sizeLine):wpAny (model prog w) A (getItem (.ref t) (.ref sl)) Q E s:=by
 have htake:sizeOk (.seq ((items.toList.drop (wN items.size 0 lo)).take (wN items.size items.size hi-wN items.size 0 lo)).toArray):=by
  show ((items.toList.drop (wN items.size 0 lo)).take (wN items.size items.size hi-wN items.size 0 lo)).toArray.size<=sizeLine;rw [zzS,List.length_take,List.length_drop,Array.length_toList];omega
 have hj:wN items.size items.size hi<=items.size:=zi9 _ _ (zzR _) hi;obtain ⟨os,hos,hcs,hds⟩:=id hs;have hTs:s.TypeIs (.ref sl) "slice" := ⟨os,hos,hcs⟩;unfold getItem
 try with_reducible refine wpAny_holding ?_
 first|refine wpAny_bind (wpAny_pure ?_)|skip
 refine wpAny_bind (wpAny_sequenceKey ht.typeIs (by decide) ?_)
 refine wpAny_bind (wpAny_callSpecial?_slot (name:=Str.ofString "__getitem__") ht.typeIs PyProof.Rows.slot_tuple_getitem
  (wpAny_call_entry PyProof.Rows.slot_tuple_getitem ht.typeIs entry_tuple_getitem ?_ (args_tuple_getitem _ _)))
 show wpAny _ _ (Builtin.Tuple.tupleItemsOf (.ref t) >>= _) _ _ s;refine wpAny_bind (tupleItemsOf_ ht ?_);refine wpAny_bind (wpAny_typeOf hTs ?_);rw [if_pos (by decide)];refine wpAny_bind (kJ hs pl pu ?_)
 have hno:¬ ((((wN items.size 0 lo:Nat):Int)==0&&(1:Int)==1&&(wN items.size items.size hi-wN items.size 0 lo)==items.size)=true):=by
  intro q;rw [Bool.and_eq_true,Bool.and_eq_true] at q;have q1:((wN items.size 0 lo:Nat):Int)=0:=eq_of_beq q.1.1;have q2:wN items.size items.size hi-wN items.size 0 lo=items.size:=eq_of_beq q.2;exact hw ⟨by omega,by omega⟩
 show wpAny _ _ (if (((wN items.size 0 lo:Nat):Int)==0&&(1:Int)==1&&(wN items.size items.size hi-wN items.size 0 lo)==items.size)=true then _ else _) _ _ s;rw [if_neg hno,ze7]
 first
  |exact wpAny_bind (m:=Builtin.Tuple.tupleExact _) (wpAny_newObj_type (wpAny_pure ⟨_,rfl,wpAny_pure h⟩) htake)
  |exact wpAny_bind (m:=Builtin.Tuple.tupleExact _) (wpAny_newObj_type (wpAny_bind (wpAny_pure (wpAny_pure ⟨_,rfl,wpAny_pure h⟩))) htake)
  |exact wpAny_bind (wpAny_bind (m:=Builtin.Tuple.tupleExact _) (wpAny_newObj_type (wpAny_pure (wpAny_pure ⟨_,rfl,wpAny_pure h⟩)) htake))
  |exact wpAny_bind (wpAny_bind (m:=Builtin.Tuple.tupleExact _) (wpAny_newObj_type (wpAny_pure ⟨_,rfl,wpAny_pure h⟩) htake))
end
end HT
namespace L2
open PySem PySem.Spec PyProof.Rows
abbrev TO:=St->Hp->(Option Int->Hp->Prop)->Prop
def PO (X:Cx) (e:Option Expr) (t:TO):Prop :=
 ∀ (pins:List (Addr×Obj)) (s:Shared) (σ:St) (H:Hp) (Q:Option Int->Hp->Prop),Inv X pins σ H s->t σ H Q ->
  wpAny (model X.prog X.w) X.A (evalPart e X.env) (fun u s'=>∃ o H',Inv X pins σ H' s'/\IsPart u o/\Q o H') X.xe s
def zgT:TO:=fun _ H Q=>Q none H
def tPart (t:TE):TO:=fun σ H Q=>t σ H fun x H1=>∃ i,x=.int i/\Q (some i) H1
section
variable {X : Cx} {e : Expr} {te : TE} {lo hi : Option Expr} {tl th : TO} {pos p2 : Pos}
theorem zhk:PO X none zgT:=by
 intro pins s σ H Q I h;rw [evalPart_none];exact wpAny_pure ⟨none,H,I,.none,h⟩
theorem zhj (h:PE X e te):PO X (some e) (tPart te):=by
 intro pins s σ H Q I hw;rw [evalPart_some];refine yH (h pins s σ H _ I hw) fun u s1 ⟨x,H1,I1,r1,q1⟩=>?_;obtain ⟨i,rfl,q⟩:=q1;obtain ⟨t,rfl⟩:=r1;exact ⟨some i,H1,I1,.int i t,q⟩
def SlR (X:Cx) (r:V->Option Int->Option Int->Hp->VK->Prop):Prop :=
 ∀ (pins:List (Addr×Obj)) (s:Shared) (σ:St) (H:Hp) (x:V) (v vl vu:Value) (lo hi:Option Int) (sl:Addr) (Q:VK),Inv X pins σ H s->zD x v->s.heap.IsSliceOf sl vl vu .none->IsPart vl lo->IsPart vu hi->r x lo hi H Q ->
  ∃ T id,typeLookup (.type T) "__getitem__" = pure (some (.builtin id))/\s.TypeIs v T/\wpAny (model X.prog X.w) X.A (getItem v (.ref sl)) (EP X pins σ Q) X.xe s
def tSl (r:V->Option Int->Option Int->Hp->VK->Prop) (te:TE) (tl th:TO):TE:=fun σ H Q=>te σ H fun x H1=>tl σ H1 fun l H2=>th σ H2 fun u H3=>r x l u H3 Q
theorem ze8 {r:V->Option Int->Option Int->Hp->VK->Prop} (hr:SlR X r) (he:PE X e te) (hl:PO X lo tl) (hu:PO X hi th):PE X (.Subscript e (.Slice lo hi none p2) pos) (tSl r te tl th):=by
 intro pins s σ H Q I h;refine Subscript_ (yH (he pins s σ H _ I h) fun v s1 ⟨x,H1,I1,r1,q1⟩=>?_);refine wpAny_Slice (yH (hl pins s1 σ H1 _ I1 q1) fun vl s2 ⟨l,H2,I2,pl,q2⟩=>yH (hu pins s2 σ H2 _ I2 q2) fun vu s3 ⟨u,H3,I3,pu,q3⟩=>?_);rw [evalPart_none];refine wpAny_pure ?_;have I4:Inv X pins σ H3 { s3 with heap:=s3.heap.push { cls:=.type "slice", data:=.fields #[vl,vu,.none] } }:=I3.kept (t':=s3.toks) fun b ob q=>Heap.get?_push_of_some _ q;obtain ⟨T,id,hT,ht,hg⟩:=hr pins { s3 with heap:=s3.heap.push { cls:=.type "slice", data:=.fields #[vl,vu,.none] } } σ H3 x v vl vu l u s3.heap.objs.size Q I4 r1 (Heap.IsSliceOf.new ..) pl pu q3;show wpAny (model X.prog X.w) X.A (subscriptTail e (.Slice lo hi none p2) v (.ref s3.heap.objs.size)) (EP X pins σ Q) X.xe { s3 with heap:=s3.heap.push { cls:=.type "slice", data:=.fields #[vl,vu,.none] } };exact tail_any (ops:=[.ref s3.heap.objs.size,v]) ht hT hg (by with_unfolding_all rfl)
def cutV (xs:List V) (lo hi:Option Int):List V:=(xs.drop (HT.wN xs.length 0 lo)).take (HT.wN xs.length xs.length hi-HT.wN xs.length 0 lo)
theorem nY (xs:List V) (lo hi:Option Int):(cutV xs lo hi).length<=xs.length:=by
 unfold cutV;rw [List.length_take,List.length_drop];omega
def rSlT (K:PySem.W.Frag):V->Option Int->Option Int->Hp->VK->Prop:=fun x lo hi H Q=>∃ a xs,x=.ref a/\sO K H a xs /\
 ¬ (HT.wN xs.length 0 lo=0/\HT.wN xs.length xs.length hi=xs.length)/\∀ p,H p=none->Q (.ref p) (xI H p (.tup (cutV xs lo hi)))
theorem ziY:SlR X (rSlT X.K):=by
 intro pins s σ H x v vl vu lo hi sl Q I rx hs pl pu h;obtain ⟨a,xs,rfl,hx,hw,q⟩:=h;cases rx;obtain ⟨its,r,ht,hz⟩:=I.tuple hx;have hlen:its.toArray.size=xs.length:=by rw [zzS];exact r.length.symm
 refine ⟨"tuple", _,PyProof.Rows.slot_tuple_getitem.lookup,ht.typeIs,?_⟩;refine HT.rN ht hs pl pu (by rw [hlen];exact hw) ?_ (by rw [hlen];exact hz);rw [hlen];refine ⟨.ref s.heap.objs.size,_,I.laid (t':=s.toks) (o:=.tup (cutV xs lo hi)) (fun b ob q=>Heap.get?_push_of_some _ q) (zzR _) ?_,rfl,q _ (I.hok.fresh (zzR _))⟩;exact ⟨Nat.le_trans (nY xs lo hi) hz,_,(r.drop (HT.wN xs.length 0 lo)).take (HT.wN xs.length xs.length hi-HT.wN xs.length 0 lo),IsTup.new _ _⟩
def rCatT (K:PySem.W.Frag):R2:=fun x y H Q=>∃ a b xs ys,x=.ref a/\y=.ref b/\sO K H a xs/\sO K H b ys/\xs≠[]/\xs.length+ys.length<=sizeLine /\
 (ys=[]->Q (.ref a) H)/\(ys≠[]->∀ p,H p=none->Q (.ref p) (xI H p (.tup (xs++ys))))
theorem zE.nil_iff {xs:List V} {us:List Value} (r:zE xs us):us=[]↔xs=[]:=by
 cases r with
 |nil=>simp
 |cons _ _=>simp
theorem zhv:kB X (binaryOp .Add) (rCatT X.K):=by
 intro pins s σ H x y v u Q I rx ry h;obtain ⟨a,b,xs,ys,rfl,rfl,ha,hb,hx,hz,q1,q2⟩:=h;cases rx;cases ry;obtain ⟨its,r1,p1,_⟩:=I.tuple ha;obtain ⟨its2,r2,p2,_⟩:=I.tuple hb;refine HT.zim p1 p2 (fun z=>hx (r1.nil_iff.mp z)) (fun z=>⟨.ref a,H,I,rfl,q1 (r2.nil_iff.mp z)⟩) (fun z=>?_) (by rw [← r1.length,← r2.length];exact hz);refine ⟨.ref s.heap.objs.size,_,I.laid (t':=s.toks) (o:=.tup (xs++ys)) (fun b ob q=>Heap.get?_push_of_some _ q) (zzR _) ?_,rfl,q2 (fun w=>z (r2.nil_iff.mpr w)) _ (I.hok.fresh (zzR _))⟩;exact ⟨by rw [zzW];exact hz,_,r1.append r2,IsTup.new _ _⟩
end
end L2
namespace L2
open PySem PySem.Spec PyProof.Rows
def cN (n:Nat) (i:Int):Option Nat:=if 0<=i then (if i<n then some i.toNat else none) else if -(n:Int)<=i then some (i+n).toNat else none
def tE {α:Type} (xs:List α) (i:Int):Option α:=(cN xs.length i).bind fun j=>xs[j]?
theorem zdG {n:Nat} {i:Int} {j:Nat} (h:cN n i=some j):seqIndex? i n=some j/\j<n/\-(n:Int)<=i/\i<n:=by
 unfold cN at h
 by_cases h0:0<=i
 .rw [if_pos h0] at h
  by_cases h1:i<n
  .rw [if_pos h1] at h;have e:i.toNat=j:=Option.some.inj h;exact ⟨by rw [seqIndex_of h0 h1,e],by omega,by omega,h1⟩
  .rw [if_neg h1] at h;cases h
 .rw [if_neg h0] at h
  by_cases h1:-(n:Int)<=i
  .rw [if_pos h1] at h;have e:(i+n).toNat=j:=Option.some.inj h;exact ⟨by rw [seqIndex_neg (by omega) h1,e],by omega,h1,by omega⟩
  .rw [if_neg h1] at h;cases h
theorem za9 {α:Type} {xs:List α} {i:Int} {v:α} (h:tE xs i=some v):∃ j,seqIndex? i xs.length=some j/\xs[j]?=some v/\j<xs.length/\-(xs.length:Int)<=i/\i<xs.length:=by
 unfold tE at h
 cases e:cN xs.length i with
 |none=>rw [e] at h;cases h
 |some j =>
  rw [e] at h;obtain ⟨h1,h2,h3,h4⟩:=zdG e;exact ⟨j,h1,h,h2,h3,h4⟩
def zeq (b:Expr):Prop:=∀ o i,subscripted b false o i=operate [o,i] (getItem o i)
def IxR (X:Cx) (r:R2):Prop :=
 ∀ (value slice:Expr) (pins:List (Addr×Obj)) (s:Shared) (σ:St) (H:Hp) (x y:V) (v u:Value) (Q:VK),Inv X pins σ H s->zD x v->zD y u->r x y H Q ->
  subscripted slice false v u=operate [v,u] (getItem v u)->wpAny (model X.prog X.w) X.A (subscriptTail value slice v u) (EP X pins σ Q) X.xe s
def MtR (X:Cx) (id:String) (r:V->List V->Hp->VK->Prop):Prop :=
 ∀ (pins:List (Addr×Obj)) (s:Shared) (σ:St) (H:Hp) (x:V) (xs:List V) (v:Value) (us:List Value) (Q:VK),Inv X pins σ H s->zD x v->zE xs us->r x xs H Q ->
  wpAny (model X.prog X.w) X.A (call (.builtin id) (v::us)) (EP X pins σ Q) X.xe s
section
variable {X : Cx} {a b : Expr} {ta tb : TE} {pos : Pos}
theorem pe_ix {r:R2} (hr:IxR X r) (ha:PE X a ta) (hb:PE X b tb) (hs:zeq b):PE X (.Subscript a b pos) (tOp r ta tb):=by
 intro pins s σ H Q I h;exact Subscript_ (binT ha hb I h fun v u s2 x y H2 I2 rx ry q=>hr a b pins s2 σ H2 x y v u Q I2 rx ry q (hs _ _))
def rIxL (K:PySem.W.Frag):R2:=fun x y H Q=>∃ p xs i v,x=.ref p/\y=.int i/\pM K H p xs/\tE xs i=some v/\Q v H
def rIxT (K:PySem.W.Frag):R2:=fun x y H Q=>∃ p xs i v,x=.ref p/\y=.int i/\sO K H p xs/\tE xs i=some v/\Q v H
def rIxS:R2:=fun x y H Q=>∃ z i c,x=.str z/\y=.int i/\z.length<=sizeLine/\tE z.cps.toList i=some c/\Q (.str ⟨#[c]⟩) H
theorem zhJ:IxR X (rIxL X.K):=by
 intro value slice pins s σ H x y v u Q I rx ry h hs;obtain ⟨p,xs,i,z,rfl,rfl,hq,he,q⟩:=h;cases rx;obtain ⟨t,rfl⟩:=ry;obtain ⟨its,r,pl,hz⟩:=I.list hq;obtain ⟨j,h1,h2,h3,h4,h5⟩:=za9 he;obtain ⟨w,ew,rw'⟩:=r.get h2;have hl:=r.length;have hn:=sS;have fin:EP X pins σ Q w s:=⟨z,H,I,rw',q⟩
 by_cases h0:0<=i
 .have hj:i.toNat=j:=by
   rw [seqIndex_of h0 h5] at h1;exact Option.some.inj h1
  exact item_listR pl.isList h0 (by omega) (by rw [hj];simpa using ew) fin hs
 .have hj:(i+(its.toArray.size:Int)).toNat=j:=by
   rw [seqIndex_neg (by omega) h4] at h1;rw [zzS,← hl];exact Option.some.inj h1
  exact subscriptTail_builtinR (x:=w) pl.isList.typeIs slot_list_getitem.lookup
   (wpAny_getItem_list_neg (Q:=fun r s'=>r=w/\EP X pins σ Q r s') pl.isList (by omega) (by rw [zzS]<;>omega) (by omega) (by rw [hj];simpa using ew) ⟨rfl,fin⟩) hs
theorem zka:IxR X (rIxT X.K):=by
 intro value slice pins s σ H x y v u Q I rx ry h hs;obtain ⟨p,xs,i,z,rfl,rfl,hq,he,q⟩:=h;cases rx;obtain ⟨t,rfl⟩:=ry;obtain ⟨its,r,pl,hz⟩:=I.tuple hq;obtain ⟨j,h1,h2,h3,h4,h5⟩:=za9 he;obtain ⟨w,ew,rw'⟩:=r.get h2;have hl:=r.length;have hn:=sS;have fin:EP X pins σ Q w s:=⟨z,H,I,rw',q⟩
 exact subscriptTail_builtinR (x:=w) pl.typeIs slot_tuple_getitem.lookup
  (getItem_tuple (j:=j) (Q:=fun r s'=>r=w/\EP X pins σ Q r s') pl (by omega) (by omega) (by rw [zzS,← hl];exact h1) (by simpa using ew) ⟨rfl,fin⟩) hs
theorem zkb:IxR X rIxS:=by
 intro value slice pins s σ H x y v u Q I rx ry h hs;obtain ⟨z,i,c,rfl,rfl,hz,he,q⟩:=h;obtain ⟨t,rfl⟩:=rx;obtain ⟨t',rfl⟩:=ry;obtain ⟨j,h1,h2,h3,h4,h5⟩:=za9 he;have hl:z.cps.toList.length=z.length:=by simp [Str.length]
 rw [hl] at h1 h4 h5;have hn:=sS
 exact tail_any (typeIs_str s z t) slot_str_getitem.lookup (getItem_str (c:=c) (by
  have e1:decide (i < -(2 ^ 63:Int))=false:=decide_eq_false (by omega);have e2:decide (i>=2 ^ 63)=false:=decide_eq_false (by omega);rw [e1,e2,Bool.or_false]) (by rw [h1];simpa using h2) ⟨.str ⟨#[c]⟩,H,I.tok _,⟨_,rfl⟩,q⟩) hs
theorem zch (its:List Value) (n j:Nat) (u:Value):Obj.mapSeq (·.setIfInBounds j u) { cls:=.type "list", data:=.seq its.toArray n }={ cls:=.type "list", data:=.seq (its.set j u).toArray n }:=by
 simp [Obj.mapSeq]
theorem Inv.lst {pins:List (Addr×Obj)} {σ:St} {H:Hp} {s:Shared} {p:Addr} {xs:List V} (I:Inv X pins σ H s) (h:H p=some (.lst xs)) :
  ∃ (its:List Value) (n:Nat),zE xs its/\s.heap.get? p=some { cls:=.type "list", data:=.seq its.toArray n }/\xs.length<=sizeLine:=by
 obtain ⟨z,its,n,r,e⟩:=I.hok p _ h;exact ⟨its,n,r,e,z⟩
theorem Inv.lstUpd {pins:List (Addr×Obj)} {σ:St} {H:Hp} {s:Shared} {p:Addr} {xs ys:List V} {its its':List Value} {n n':Nat} {f:Obj->Obj} (I:Inv X pins σ H s) (h:H p=some (.lst xs))
  (ho:s.heap.get? p=some { cls:=.type "list", data:=.seq its.toArray n }) (hf:f { cls:=.type "list", data:=.seq its.toArray n }={ cls:=.type "list", data:=.seq its'.toArray n' }) (r:zE ys its') (hz:ys.length<=sizeLine) (t:Nat) (ht:0<t:=by first|exact Nat.succ_pos _|exact L2.Inv.tk (by assumption)|exact L2.Inv.tk ‹L2.Inv _ _ _ _ _› | assumption|omega) :
  Inv X pins σ (xI H p (.lst ys)) { s with heap:=s.heap.update p f,toks:=t }:=by
 have e:(s.heap.update p f).get? p=some { cls:=.type "list", data:=.seq its'.toArray n' }:=by
  rw [Heap.get?_update_self f ho (by rw [hf]<;>rfl),hf]
 refine I.write (x:=p) (e:=p) (by rw [h];trivial) (.inl rfl) (fun b u hb q=>(Heap.get?_update_other _ _ (Ne.symm hb)).trans q) ⟨_,e⟩ ?_;exact ⟨hz,its',n',r,e⟩
def rSetL:V->V->V->Hp->(Hp->Prop)->Prop:=fun o i v H Q=>∃ p xs k j,o=.ref p/\i=.int k/\H p=some (.lst xs)/\cN xs.length k=some j/\Q (xI H p (.lst (xs.set j v)))
theorem zeP:PSet X rSetL:=by
 intro pins s σ H o i v ov iv u Q I ro ri rv h;obtain ⟨p,xs,k,j,rfl,rfl,hp,hj,q⟩:=h;cases ro;obtain ⟨t,rfl⟩:=ri;obtain ⟨its,n,r,ho,hz⟩:=I.lst hp;obtain ⟨h1,h2,h3,h4⟩:=zdG hj;have hl:=r.length;have hn:=sS
 have I':Inv X pins σ (xI H p (.lst (xs.set j v))) { s with heap:=s.heap.update p (Obj.mapSeq (·.setIfInBounds j u)) } :=
  I.lstUpd hp ho (zch its n j u) (r.set rv j) (by rw [List.length_set];exact hz) s.toks
 by_cases h0:0<=k
 .have hk:k.toNat=j:=by
   rw [seqIndex_of h0 h4] at h1;exact Option.some.inj h1
  exact PySem.W.ki_setAt ho h0 (by omega) (by rw [zzS,← hl];exact h4) (by rw [hk];exact ⟨_,I',q⟩)
 .have hk:(k+(its.toArray.size:Int)).toNat=j:=by
   rw [seqIndex_neg (by omega) h3] at h1;rw [zzS,← hl];exact Option.some.inj h1
  exact PySem.W.ki_setBack ho (by omega) (by rw [zzS,← hl];exact h3) (by omega) (by rw [hk];exact ⟨_,I',q⟩)
theorem zaa (lo hi:Option Int) (n:Nat):(sliceBounds lo hi none n).1=((HT.wN n 0 lo:Nat):Int)/\(sliceBounds lo hi none n).2.1=((HT.wN n n hi:Nat):Int)/\(sliceBounds lo hi none n).2.2=1:=by
 refine ⟨?_,?_,rfl⟩
 .cases lo with
  |none=>simp [sliceBounds,HT.wN]
  |some i =>
   simp only [sliceBounds,HT.wN,Option.getD_none,show (1:Int) > 0 by decide,if_true]
   by_cases h:i<0
   .simp only [h,if_true]<;>omega
   .simp only [h,if_false]<;>omega
 .cases hi with
  |none=>simp [sliceBounds,HT.wN]
  |some i =>
   simp only [sliceBounds,HT.wN,Option.getD_none,show (1:Int) > 0 by decide,if_true]
   by_cases h:i<0
   .simp only [h,if_true]<;>omega
   .simp only [h,if_false]<;>omega
theorem dD (its:List Value) (lo hi:Option Int):slicePick its.toArray lo hi none=((its.drop (HT.wN its.length 0 lo)).take (HT.wN its.length its.length hi-HT.wN its.length 0 lo)).toArray:=by
 obtain ⟨h1,h2,h3⟩:=zaa lo hi its.toArray.size;unfold slicePick;rw [h1,h2,h3];simp only [sliceRange_one,pick_run,zzS]<;>rfl
def rSlL (K:PySem.W.Frag):V->Option Int->Option Int->Hp->VK->Prop:=fun x lo hi H Q=>∃ a xs,x=.ref a/\pM K H a xs/\∀ p,H p=none->Q (.ref p) (xI H p (.lst (cutV xs lo hi)))
theorem zcW:SlR X (rSlL X.K):=by
 intro pins s σ H x v vl vu lo hi sl Q I rx hs pl pu h;obtain ⟨a,xs,rfl,hx,q⟩:=h;cases rx;obtain ⟨its,r,ht,hz⟩:=I.list hx;have hlen:=r.length;refine ⟨"list", _,slot_list_getitem.lookup,ht.isList.typeIs,?_⟩;refine wpAny_getItem_list_slice ht.isList hs pl pu .none (by simp) ?_ (by rw [zzS]<;>omega);rw [dD,← hlen];refine ⟨.ref s.heap.objs.size,_,I.laid (t':=s.toks) (o:=.lst (cutV xs lo hi)) (fun b ob q=>Heap.get?_push_of_some _ q) (zzR _) ?_,rfl,q _ (I.hok.fresh (zzR _))⟩;exact ⟨Nat.le_trans (nY xs lo hi) hz,_,0,(r.drop (HT.wN xs.length 0 lo)).take (HT.wN xs.length xs.length hi-HT.wN xs.length 0 lo),Heap.get?_push_size _ rfl⟩
theorem zaf:kB X (compareOp .NotIn) (fun x y H Q=>∃ i j,x=.str i/\y=.str j/\Q (.bl (!(!(Builtin.Str.occurrences j i 0 j.length 1).isEmpty))) H):=by
 intro pins s σ H x y v u Q I rx ry h;obtain ⟨i,j,rfl,rfl,q⟩:=h;obtain ⟨t,rfl⟩:=rx;obtain ⟨t',rfl⟩:=ry;exact notIn_str ⟨.bl _,H,I,rfl,q⟩
theorem vJ:jB X (.builtin "len") (fun xs H Q=>∃ p ys,xs=[.ref p]/\(pM X.K H p ys\/sO X.K H p ys)/\Q (.int ys.length) H):=by
 intro pins s σ H xs us Q I r h;obtain ⟨p,ys,rfl,hq,q⟩:=h;obtain ⟨u,rfl,rx⟩:=kM r;cases rx;have hn:=sS;rcases hq with hq|hq
 .obtain ⟨its,r',pl,hz⟩:=I.list hq;have hlen:=r'.length;exact Calls.call_len_list pl.isList (by simp only [zzS]<;>omega) ⟨.int ys.length,H,I.tok _,⟨s.toks+1,by rw [zzS,hlen]⟩,q⟩
 .obtain ⟨its,r',pl,hz⟩:=I.tuple hq;have hlen:=r'.length;exact len_tuple pl (by simp only [zzS]<;>omega) ⟨.int ys.length,H,I.tok _,⟨s.toks+1,by rw [zzS,hlen]⟩,q⟩
theorem zas:jB X (.builtin "len") (fun xs H Q=>∃ z,xs=[.str z]/\z.length<=sizeLine/\Q (.int z.length) H):=by
 intro pins s σ H xs us Q I r h;obtain ⟨z,rfl,hz,q⟩:=h;obtain ⟨u,rfl,t,rfl⟩:=kM r;have hn:=sS;exact len_str (by omega) ⟨.int z.length,H,I.tok _,⟨_,rfl⟩,q⟩
theorem zar:jB X (.type "list") (fun xs H Q=>∃ p ys,xs=[.ref p]/\(pM X.K H p ys\/sO X.K H p ys)/\∀ l,H l=none->Q (.ref l) (xI H l (.lst ys))):=by
 intro pins s σ H xs us Q I r h;obtain ⟨p,ys,rfl,hq,q⟩:=h;obtain ⟨u,rfl,rx⟩:=kM r;cases rx
 have fin:∀ (its:List Value),zE ys its->ys.length<=sizeLine->∀ (h':Heap) (c':Nat),(∀ b o',s.heap.get? b=some o'->h'.get? b=some o') ->
   h'.get? s.heap.objs.size=some { cls:=.type "list", dict:=none,data:=.seq its.toArray c',slots:=#[] }->EP X pins σ Q (.ref s.heap.objs.size) { s with heap:=h' }:=fun its r' hz h' c' kp e =>
  ⟨.ref s.heap.objs.size,_,I.laid (t':=s.toks) kp (zzR _) (show xU X.prog X.w _ h' _ (.lst ys) from ⟨hz,its,c',r',e⟩),rfl,q _ (I.hok.fresh (zzR _))⟩
 rcases hq with hq|hq
 .obtain ⟨its,r',pl,hz⟩:=I.list hq;have hlen:=r'.length;obtain ⟨o,ho,hc,n,hd⟩:=pl.isList;exact call_list_seq p (.inl rfl) ho hc hd (fun h' c' kp e=>fin its r' hz h' c' kp e) (by simp only [zzS]<;>omega)
 .obtain ⟨its,r',pl,hz⟩:=I.tuple hq;have hlen:=r'.length;obtain ⟨o,ho,hc,n,hd⟩:=pl;exact call_list_seq p (.inr rfl) ho hc hd (fun h' c' kp e=>fin its r' hz h' c' kp e) (by simp only [zzS]<;>omega)
def tyV (K:PySem.W.Frag) (T:String) (x:V) (H:Hp):Prop:=match x with
 | .str _=>T = "str"
 | .int _=>T = "int"
 | .ref p=>(T = "list" /\ ∃ xs,pM K H p xs)\/(T = "tuple" /\ ∃ o,K.lookup p=some o/\o.cls=.type "tuple" /\ o.dict=none) \/
   (T = "dict" /\ ((∃ kvs,H p=some (.dK kvs))\/∃ kvs,H p=some (.dT kvs)))\/(T = "set" /\ ∃ S n,H p=some (.set S n))
 |_=>False
theorem zf0 {pins:List (Addr×Obj)} {σ:St} {H:Hp} {s:Shared} {T:String} {x:V} {v:Value} (I:Inv X pins σ H s) (r:zD x v) (ty:tyV X.K T x H) :
  s.TypeIs v T/\∀ a,v=.ref a->∃ ob,s.heap.get? a=some ob/\ob.dict=none:=by
 cases x with
 |str z =>
  obtain ⟨t,rfl⟩:=r;cases (show T = "str" from ty);exact ⟨typeIs_str s z t,fun _ e=>nomatch e⟩
 |int i =>
  obtain ⟨t,rfl⟩:=r;cases (show T = "int" from ty);exact ⟨typeIs_int s i t,fun _ e=>nomatch e⟩
 |ref p =>
  cases r;rcases ty with ⟨rfl,xs,hq⟩|⟨rfl,o,hk,hc,hd⟩|⟨rfl,hk⟩|⟨rfl,S,n,hk⟩
  .obtain ⟨its,_,pl,_⟩:=I.list hq;refine ⟨pl.isList.typeIs,fun a e=>?_⟩;cases e;obtain ⟨o,n,e,c,hd,_⟩:=pl;exact ⟨o,e,hd⟩
  .refine ⟨⟨o,I.kIn p o hk,hc⟩,fun a e=>?_⟩;cases e;exact ⟨o,I.kIn _ o hk,hd⟩
  .have z:∃ o,s.heap.get? p=some o/\o.ExactDict:=by
    rcases hk with ⟨kvs,hk⟩|⟨kvs,hk⟩
    .obtain ⟨_,_,_,_,o,_,_,e,ex,_⟩:=I.hok p _ hk;exact ⟨o,e,ex⟩
    .obtain ⟨_,_,_,_,o,_,_,e,ex,_⟩:=I.hok p _ hk;exact ⟨o,e,ex⟩
   obtain ⟨o,e,ex⟩:=z;refine ⟨⟨o,e,ex.1⟩,fun a e2=>?_⟩;cases e2;exact ⟨o,e,ex.2.1⟩
  .obtain ⟨o,_,_,_,e,ex,_⟩:=I.hok p _ hk;refine ⟨⟨o,e,ex.1⟩,fun a e2=>?_⟩;cases e2;exact ⟨o,e,ex.2.1⟩
 |_=>exact False.elim ty
def tBM0 (K:PySem.W.Frag) (T:String) (r:V->List V->Hp->VK->Prop) (to:TE):TE:=fun σ H Q=>to σ H fun x H1=>tyV K T x H1/\r x [] H1 Q
def tBM (K:PySem.W.Frag) (T:String) (r:V->List V->Hp->VK->Prop) (to:TE) (t:TA):TE:=fun σ H Q=>to σ H fun x H1=>tyV K T x H1/\t σ H1 fun xs H2=>r x xs H2 Q
variable {o e : Expr} {es : List Expr} {to : TE} {t : TA} {name : Str} {apos cpos : Pos} {T id : String} {r : V → List V → Hp → VK → Prop}
theorem zjC (pa:PlainAttrs T) (slot:Slot T name id) (hty:typeOf (.builtin id)=pure (.type "method_descriptor")) (hm:MtR X id r) (ho:PE X o to)
  (hbase:attributeBase o name X.env (eval o X.env)=eval o X.env:=by rfl) (hline:(apos.endLine==cpos.line)=true:=by rfl):PE X (.Call (.Attribute o name apos) [] [] cpos) (tBM0 X.K T r to):=by
 intro pins s σ H Q I h;refine wpAny_Call_method0_late hbase hline (yH (ho pins s σ H _ I h) fun v s1 ⟨x,H1,I1,r1,ty,q1⟩=>?_);obtain ⟨h1,h2⟩:=zf0 I1 r1 ty;exact ⟨T,id,pa,slot,hty,h1,h2,Calls.callWith_builtin rfl (PySem.evalArgs_none (hm pins s1 σ H1 x [] v [] Q I1 r1 .nil q1))⟩
theorem pe_bm (pa:PlainAttrs T) (slot:Slot T name id) (hty:typeOf (.builtin id)=pure (.type "method_descriptor")) (hm:MtR X id r) (ho:PE X o to) (ha:PA X (e::es) t)
  (hbase:attributeBase o name X.env (eval o X.env)=eval o X.env:=by rfl)
  (hfew:((backTo cpos (starEach (e::es) X.env)).all (fun x=>!x.1)&&(backToKw cpos (keywordEach [] X.env)).all (fun x=>x.1.isSome)
   && decide ((e::es).length+([]:List Keyword).length+(if ([]:List Keyword).isEmpty then 0 else 1)<30))=true:=by rfl)
  (hline:(apos.endLine==cpos.line)=true:=by rfl) (hs:starEach (e::es) X.env=(false,eval e X.env)::starEach es X.env:=by rfl) (hplain:(backTo cpos (starEach es X.env)).any (·.1)=false:=by rfl) :
  PE X (.Call (.Attribute o name apos) (e::es) [] cpos) (tBM X.K T r to t):=by
 intro pins s σ H Q I h;refine wpAny_Call_method_late hbase hfew hline rfl (yH (ho pins s σ H _ I h) fun v s1 ⟨x,H1,I1,r1,ty,q1⟩=>?_);obtain ⟨h1,h2⟩:=zf0 I1 r1 ty;refine ⟨T,id,pa,slot,hty,h1,h2,?_⟩;have hA:=ha cpos pins s1 σ H1 _ I1 q1;rw [hs] at hA ⊢;refine Calls.callWith_builtin (by show (false || (backTo cpos (starEach es X.env)).any (·.1))=false;rw [hplain]<;>rfl) (Calls.evalArgs_plain ?_);exact yH hA fun us s2 ⟨vs,H2,I2,r2,q2⟩=>hm pins s2 σ H2 x vs v us Q I2 r1 r2 q2
/- xs.append(e),list.index on a module's tuple .. are MtR facts of 06m -/
end
end L2
namespace L2
open PySem PySem.Spec PyProof.Rows
def MtM (X:Cx) (id:String) (r:V->List V->Hp->VK->Prop):Prop :=
 ∀ (pins:List (Addr×Obj)) (s:Shared) (σ:St) (H:Hp) (x:V) (xs:List V) (v:Value) (us:List Value) (Q:VK),Inv X pins σ H s->zD x v->zE xs us->r x xs H Q ->
  wpAny (model X.prog X.w) X.A (call (.builtin id) (v::us)) (EP X pins σ Q) X.xe s
theorem zE.one:∀ {x:V} {us:List Value},zE [x] us->∃ u,us=[u]/\zD x u
 |_,_,.cons r .nil=>⟨_,rfl,r⟩
theorem zE.zero:∀ {us:List Value},zE [] us->us=[]
 |_,.nil=>rfl
theorem zE.dropLast {xs:List V} {us:List Value} (h:zE xs us):zE xs.dropLast us.dropLast:=by
 induction h with
 |nil=>exact .nil
 |cons r t ih =>
  cases t with
  |nil=>exact .nil
  |cons q t'=>exact .cons r ih
theorem zE.reverse {xs:List V} {us:List Value} (h:zE xs us):zE xs.reverse us.reverse:=by
 induction h with
 |nil=>exact .nil
 |cons r t ih=>rw [List.reverse_cons,List.reverse_cons];exact zE.append ih (.cons r .nil)
theorem zE.rep {xs:List V} {us:List Value} (h:zE xs us):∀ k:Nat,zE (List.replicate k xs).flatten (List.replicate k us).flatten
 | 0=>.nil
 |k+1=>by
  rw [List.replicate_succ,List.replicate_succ,List.flatten_cons,List.flatten_cons];exact zE.append h (zE.rep h k)
theorem zcp {α:Type} (l:List α):l.eraseIdx (l.length-1)=l.dropLast:=by
 induction l with
 |nil=>rfl
 |cons a r ih =>
  cases r with
  |nil=>rfl
  |cons b r =>
   have e:(a::b::r).length-1=((b::r).length-1)+1:=by
    have h1:(a::b::r).length=r.length+2:=rfl;have h2:(b::r).length=r.length+1:=rfl;omega
   rw [e,List.eraseIdx_cons_succ,ih]
   all_goals rfl
theorem zak (its:List Value):∀ (k:Nat) (acc:List Value),
  List.foldl (fun x1 x2=>x1++x2) acc.toArray (List.replicate k its.toArray)=(acc++(List.replicate k its).flatten).toArray
 | 0,acc=>by simp
 |k+1,acc=>by
  have e:acc.toArray++its.toArray=(acc++its).toArray:=by simp
  have e2:(acc++its)++(List.replicate k its).flatten=acc++(List.replicate (k+1) its).flatten:=by
   rw [List.replicate_succ,List.flatten_cons,List.append_assoc]
  rw [← e2,← zak its k (acc++its),← e,List.replicate_succ,List.foldl_cons]
section
variable {X : Cx} {pins : List (Addr × Obj)} {σ : St} {H : Hp} {s : Shared} {l b : Addr} {xs ys zs : List V}
theorem Inv.lset {its its':List Value} {n:Nat} {f:Array Value->Array Value} {t':Nat} (I:Inv X pins σ H s) (hH:H l=some (.lst xs))
  (e:s.heap.get? l=some { cls:=.type "list", data:=.seq its.toArray n }) (hf:f its.toArray=its'.toArray) (hv:zE ys its') (hz:ys.length<=sizeLine) (ht:0<t':=by first|exact Nat.succ_pos _|exact L2.Inv.tk (by assumption)|exact L2.Inv.tk ‹L2.Inv _ _ _ _ _› | assumption|omega) :
  Inv X pins σ (xI H l (.lst ys)) { s with heap:=s.heap.update l (Obj.mapSeq f),toks:=t' }:=by
 have q:=PySem.IsL.update e f;rw [hf] at q;refine I.write (x:=l) (e:=l) (by rw [hH];exact trivial) (.inl rfl) (fun b' u hb hu=>(Heap.get?_update_other s.heap (Obj.mapSeq f) (Ne.symm hb)).trans hu) ⟨_,q⟩ ?_;exact ⟨hz,its',_,hv,q⟩
theorem Inv.lnew {its:List Value} {t':Nat} (I:Inv X pins σ H s) (hv:zE ys its) (hz:ys.length<=sizeLine) (ht:0<t':=by first|exact Nat.succ_pos _|exact L2.Inv.tk (by assumption)|exact L2.Inv.tk ‹L2.Inv _ _ _ _ _› | assumption|omega) :
  Inv X pins σ (xI H s.heap.objs.size (.lst ys)) { s with heap:=s.heap.push { cls:=.type "list", data:=.seq its.toArray },toks:=t' } :=
 I.laid (fun _ _ q=>Heap.get?_push_of_some _ q) (zzR _) ⟨hz,its,0,hv,Heap.get?_push_size _ rfl⟩
theorem Inv.fresh (I:Inv X pins σ H s):H s.heap.objs.size=none:=I.hok.fresh (zzR _)
theorem Inv.lstM (I:Inv X pins σ H s) (hH:H l=some (.lst xs)):xs.length<=sizeLine/\∃ (its:List Value) (n:Nat),zE xs its/\xs.length=its.length/\s.heap.get? l=some { cls:=.type "list", data:=.seq its.toArray n }:=by
 obtain ⟨z,its,n,r,e⟩:=I.hok l _ hH;exact ⟨z,its,n,r,r.length,e⟩
theorem gA {n:Nat} (h:n<=sizeLine):Builtin.List.listTooLong n=false:=by
 unfold Builtin.List.listTooLong;exact decide_eq_false (by omega)
end
section
variable {X : Cx}
def zg7:V->List V->Hp->VK->Prop:=fun x vs H Q=>∃ l xs y,x=.ref l/\vs=[y]/\H l=some (.lst xs)/\xs.length<sizeLine/\Q .non (xI H l (.lst (xs++[y])))
theorem zdn:MtM X "list.append" zg7:=by
 intro pins s σ H x vs v us Q I rx rv h;obtain ⟨l,xs,y,rfl,rfl,hH,hz,q⟩:=h;cases rx;obtain ⟨u,rfl,ru⟩:=rv.one;obtain ⟨z,its,n,r,hl,e⟩:=I.lstM hH;refine call_meets F.slot_list_append ⟨_,e,rfl⟩ F.entry_list_append (F.args_list_append_2 _ _) (PySem.list_append l its.toArray n u (by rw [zzS];omega)) ⟨e,?_⟩;refine ⟨.non,_,I.lset (its':=its++[u]) hH e (by simp) (r.append (.cons ru .nil)) ?_,rfl,q⟩;rw [zzW,List.length_singleton];omega
def rPop:V->List V->Hp->VK->Prop:=fun x vs H Q=>∃ l xs y,x=.ref l/\vs=[]/\H l=some (.lst xs)/\xs[xs.length-1]?=some y/\Q y (xI H l (.lst xs.dropLast))
theorem zjM:MtM X "list.pop" rPop:=by
 intro pins s σ H x vs v us Q I rx rv h;obtain ⟨l,xs,y,rfl,rfl,hH,hy,q⟩:=h;cases rx;have hus:=rv.zero;subst hus;obtain ⟨z,its,n,r,hl,e⟩:=I.lstM hH;obtain ⟨u,hu,ru⟩:=r.get hy
 have hy':its.toArray[its.toArray.size-1]?=some u:=by
  show its.toArray[its.length-1]?=some u;rw [← Array.getElem?_toList,← hl];exact hu
 refine call_meets F.slot_list_pop ⟨_,e,rfl⟩ F.entry_list_pop (F.args_list_pop_1 _) (MeetsSeq.list_pop_last l its.toArray n u hy' (by rw [zzS];omega)) ⟨e,?_⟩;refine ⟨y,_,I.lset (its':=its.dropLast) hH e ?_ r.dropLast ?_,ru,q⟩
 .show its.toArray.eraseIdxIfInBounds (its.toArray.size-1)=its.dropLast.toArray;rw [zzS,List.eraseIdxIfInBounds_toArray,zcp]
 .rw [List.length_dropLast];omega
def rCat:R2:=fun x y H Q=>∃ l b xs zs,x=.ref l/\y=.ref b/\H l=some (.lst xs)/\H b=some (.lst zs)/\xs.length+zs.length<=sizeLine/\∀ p,H p=none->Q (.ref p) (xI H p (.lst (xs++zs)))
theorem zjI:kB X (binaryOp .Add) rCat:=by
 intro pins s σ H x y v u Q I rx ry h;obtain ⟨l,b,xs,zs,rfl,rfl,hH,hB,hz,q⟩:=h;cases rx;cases ry;obtain ⟨z,its,n,r,hl,e⟩:=I.lstM hH;obtain ⟨z2,its2,n2,r2,hl2,e2⟩:=I.lstM hB;refine PySem.P.add_list e e2 ?_ (by rw [zzS,zzS];omega);have ea:its.toArray++its2.toArray=(its++its2).toArray:=by simp
 rw [ea];exact ⟨.ref _,_,I.lnew (t':=s.toks) (r.append r2) (by rw [zzW];omega),rfl,q _ I.fresh⟩
def rRep:R2:=fun x y H Q=>∃ l k xs,x=.ref l/\y=.int k/\H l=some (.lst xs)/\-(2 ^ 63)<=k/\k<2 ^ 63/\xs.length * k.toNat<=sizeLine /\
 ∀ p,H p=none->Q (.ref p) (xI H p (.lst (List.replicate k.toNat xs).flatten))
theorem zhD {α:Type} (xs:List α) (k:Nat):(List.replicate k xs).flatten.length=k * xs.length:=by
 induction k with
 |zero=>simp
 |succ k ih=>rw [List.replicate_succ,List.flatten_cons,zzW,ih,Nat.succ_mul,Nat.add_comm]
theorem zjE:kB X (binaryOp .Mult) rRep:=by
 intro pins s σ H x y v u Q I rx ry h;obtain ⟨l,k,xs,rfl,rfl,hH,h1,h2,hz,q⟩:=h;cases rx;obtain ⟨t,rfl⟩:=ry;obtain ⟨z,its,n,r,hl,e⟩:=I.lstM hH;have hlen:its.toArray.size * k.toNat<=sizeLine:=by rw [zzS,← hl];exact hz
 have hcap:¬ its.toArray.size * k.toNat > (2 ^ 63-1) / 8:=by
  have:(sizeLine:Nat)<=(2 ^ 63-1) / 8:=by decide
  omega
 have hfit:¬ (!Builtin.List.listFitsIndex k)=true:=by
  rw [fitsIndex_both h1 h2];exact zzN
 have hlong:¬ Builtin.List.listTooLong (its.toArray.size * k.toNat)=true:=by
  rw [gA hlen];exact zzN
 have hnew:List.foldl (fun x1 x2=>x1++x2) #[] (List.replicate (if its.toArray.isEmpty=true then 0 else k.toNat) its.toArray)=(List.replicate k.toNat its).flatten.toArray:=by
  have f0:∀ m:Nat,List.foldl (fun x1 x2=>x1++x2) #[] (List.replicate m its.toArray)=(List.replicate m its).flatten.toArray:=fun m=>by
   have:=zak its m [];rw [List.nil_append] at this;exact this
  rw [f0]
  cases its with
  |nil=>simp
  |cons a r'=>rw [if_neg (by simp)]
 refine wpAny_binaryOp_repeat_ref (T := "list") (U := "int") (by decide) ⟨_,e,rfl⟩ (fun s'=>typeIs_int s' k t) noFill_list_mul F.fills_int_mul F.slot_int_rmul repeat_list F.slot_int_index.lookup
  (call_meets F.slot_int_rmul (typeIs_int s k t) F.entry_int_rmul (F.args_int_rmul_2 _ _) (int___rmul___int_list k t l its.toArray n)
   ⟨e,rfl,⟨_,e,rfl⟩,call_meets F.slot_list_mul ⟨_,e,rfl⟩ F.entry_list_mul (F.args_list_mul_2 _ _) (AutoListH.list___mul___list_int_3 l its.toArray n k t hfit hcap hlong) ⟨e,?_⟩⟩)
 rw [hnew];exact ⟨.ref _,_,I.lnew (t':=s.toks) (r.rep k.toNat) (by rw [zhD,Nat.mul_comm];exact hz),rfl,q _ I.fresh⟩
end
section
variable {prog : Program} {w : World} {A : Around} {E : Value → Shared → Prop} {s : Shared}
set_option maxRecDepth 100000 in
end
section
variable {X : Cx}
end
end L2
namespace L2
open PySem PySem.Spec PyProof.Rows
section
variable {κ : Type} [DecidableEq κ]
def uY (kvs:List (κ×V)) (k:κ):Option V:=(kvs.find? fun kv=>decide (kv.1=k)).map (·.2)
def uX (kvs:List (κ×V)) (k:κ) (v:V):List (κ×V) :=
 if (kvs.any fun kv=>decide (kv.1=k))=true then kvs.map (fun kv=>if kv.1=k then (kv.1,v) else kv) else kvs++[(k,v)]
theorem hG {p:κ×V} {r:List (κ×V)} {k:κ} (e:p.1=k):uY (p::r) k=some p.2:=by simp [uY,List.find?_cons,e]
theorem gY {p:κ×V} {r:List (κ×V)} {k:κ} (e:¬ p.1=k):uY (p::r) k=uY r k:=by simp [uY,List.find?_cons,e]
theorem zbc (k:κ):∀ kvs:List (κ×V),(kvs.any fun kv=>decide (kv.1=k))=(uY kvs k).isSome
 | []=>rfl
 |p::r=>by
  rw [List.any_cons]
  by_cases e:p.1=k
  .simp only [hG e,decide_eq_true e,Bool.true_or,Option.isSome_some]
  .rw [gY e,decide_eq_false e,Bool.false_or];exact zbc k r
theorem uF (kvs:List (κ×V)) (k:κ) (v:V):(uX kvs k v).length<=kvs.length+1:=by
 unfold uX
 split
 .rw [zzM];omega
 .rw [zzW,List.length_cons,List.length_nil];omega
theorem pL.isSome_eq {o:Option V} {u:Option Value} (r:pL o u):o.isSome=u.isSome:=by
 cases o with
 |none=>cases u with
  |none=>rfl
  |some _=>exact (show False from r).elim
 |some _=>cases u with
  |none=>exact (show False from r).elim
  |some _=>rfl
theorem KV.val {kvs:List (κ×V)} {vs:List (κ×Value)} (r:KV kvs vs) (k:κ):pL (uY kvs k) (valueAt vs k):=by
 unfold KV at r
 induction r with
 |nil=>exact True.intro
 | @cons p q ps qs h t ih =>
  obtain ⟨h1,h2⟩:=h
  by_cases e:p.1=k
  .have e':q.1=k:=h1.symm.trans e;have b:valueAt (q::qs) k=some q.2:=by simp [valueAt,List.find?_cons,e']
   rw [hG e,b];exact h2
  .have e':¬ q.1=k:=fun z=>e (h1.trans z);have b:valueAt (q::qs) k=valueAt qs k:=by simp [valueAt,List.find?_cons,e']
   rw [gY e,b];exact ih
theorem KV.any {kvs:List (κ×V)} {vs:List (κ×Value)} (r:KV kvs vs) (k:κ):(kvs.any fun kv=>decide (kv.1=k))=vs.any fun kv=>decide (kv.1=k):=by
 unfold KV at r
 induction r with
 |nil=>rfl
 |cons h t ih=>rw [List.any_cons,List.any_cons,ih,h.1]
theorem KV.repl {kvs:List (κ×V)} {vs:List (κ×Value)} (r:KV kvs vs) (k:κ) {y:V} {u:Value} (ry:zD y u) :
  KV (kvs.map fun kv=>if kv.1=k then (kv.1,y) else kv) (vs.map fun kv=>if kv.1=k then (kv.1,u) else kv):=by
 unfold KV at r ⊢
 induction r with
 |nil=>exact .nil
 | @cons p q ps qs h t ih =>
  rw [zzU,zzU];refine .cons ?_ ih;obtain ⟨h1,h2⟩:=h
  by_cases e:p.1=k
  .rw [if_pos e,if_pos (h1.symm.trans e)];exact ⟨h1,ry⟩
  .rw [if_neg e,if_neg (fun z=>e (h1.trans z))];exact ⟨h1,h2⟩
theorem KV.put {kvs:List (κ×V)} {vs:List (κ×Value)} (r:KV kvs vs) (k:κ) {y:V} {u:Value} (ry:zD y u):KV (uX kvs k y) (stored vs k u):=by
 unfold uX stored;rw [r.any k]
 by_cases e:(vs.any fun kv=>decide (kv.1=k))=true
 .rw [if_pos e,if_pos e];exact r.repl k ry
 .rw [if_neg e,if_neg e];exact Paired.snoc r ⟨rfl,ry⟩
theorem KV.length {kvs:List (κ×V)} {vs:List (κ×Value)} (r:KV kvs vs):kvs.length=vs.length:=Paired.length r
end
theorem bE {P:Program} {w:World} {k:yD} {u:Value} (r:zD (kV k) u):(xP P w).is k u=true:=by
 cases k with
 |inl i=>obtain ⟨t,e⟩:=(show ∃ t,u=Value.int i t from r);subst e;exact zaP P w i t
 |inr x=>obtain ⟨t,e⟩:=(show ∃ t,u=Value.str x t from r);subst e;exact zaO P w x t
theorem bC {P:Program} {w:World}:∀ {ks:List yD} {us:List Value},zE (ks.map kV) us->ItemsAre (xP P w) ks us
 | [],_,r=>by rw [zzV] at r;cases r;exact .nil
 |k::ks,_,r=>by
  rw [zzU] at r
  cases r with
  |cons h t=>exact .cons (bE h) (bC t)
abbrev KT (H:Hp):List (List yD×V)->List (List yD×Addr×Value)->Prop:=Paired fun p q=>p.1=q.1/\H q.2.1=some (.tup (p.1.map kV))/\zD p.2 q.2.2
theorem KT.val {H:Hp} {kvs:List (List yD×V)} {xs:List (List yD×Addr×Value)} (r:KT H kvs xs) (k:List yD):pL (uY kvs k) ((atKey xs k).map (·.2)):=by
 induction r with
 |nil=>exact True.intro
 | @cons p q ps qs h t ih =>
  obtain ⟨h1,_,h2⟩:=h
  by_cases e:p.1=k
  .have e':q.1=k:=h1.symm.trans e;have b:atKey (q::qs) k=some q.2:=by simp [atKey,List.find?_cons,e']
   rw [hG e,b];exact h2
  .have e':¬ q.1=k:=fun z=>e (h1.trans z);have b:atKey (q::qs) k=atKey qs k:=by simp [atKey,List.find?_cons,e']
   rw [gY e,b];exact ih
theorem KT.repl {H:Hp} {kvs:List (List yD×V)} {xs:List (List yD×Addr×Value)} (r:KT H kvs xs) (k:List yD) {y:V} {u:Value} (ry:zD y u) :
  KT H (kvs.map fun kv=>if kv.1=k then (kv.1,y) else kv) (xs.map (putAt k u)):=by
 induction r with
 |nil=>exact .nil
 | @cons p q ps qs h t ih =>
  rw [zzU,zzU];refine .cons ?_ ih;obtain ⟨h1,h2,h3⟩:=h;unfold putAt
  by_cases e:p.1=k
  .rw [if_pos e,if_pos (h1.symm.trans e)];exact ⟨h1,h2,ry⟩
  .rw [if_neg e,if_neg (fun z=>e (h1.trans z))];exact ⟨h1,h2,h3⟩
theorem KT.put {H:Hp} {kvs:List (List yD×V)} {xs:List (List yD×Addr×Value)} (r:KT H kvs xs) (k:List yD) {b:Addr} {y:V} {u:Value} (hb:H b=some (.tup (k.map kV))) (ry:zD y u) :
  KT H (uX kvs k y) (storedH xs k b u):=by
 have e:(kvs.any fun kv=>decide (kv.1=k))=(atKey xs k).isSome:=by
  rw [zbc,(r.val k).isSome_eq,Option.isSome_map]
 unfold uX storedH;rw [e]
 by_cases q:(atKey xs k).isSome=true
 .rw [if_pos q,if_pos q];exact r.repl k ry
 .rw [if_neg q,if_neg q];exact Paired.snoc r ⟨rfl,hb,ry⟩
theorem KT.keeps {H H':Hp} {kvs:List (List yD×V)} {xs:List (List yD×Addr×Value)} (r:KT H kvs xs) (ht:∀ b ys,H b=some (.tup ys)->H' b=some (.tup ys)):KT H' kvs xs :=
 Paired.mapP r fun _ _ z=>⟨z.1,ht _ _ z.2.1,z.2.2⟩
section
variable {P : Program} {w : World} {H : Hp} {h : Heap} {a : Addr}
theorem zjf {u:HO} (ok:tL P w H h) (e:Rd H a u):xU P w H h a u:=e.ok ok
theorem dR {kvs:List (yD×V)} (ok:tL P w H h) (e:Rd H a (.dK kvs)):kvs.length<=sizeLine/\(a==sysModules)=false/\∃ vs,KV kvs vs/\h.DictOf (xP P w) a vs :=
 show xU P w H h a (.dK kvs) from zjf ok e
theorem zkC {kvs:List (yD×V)} (ok:tL P w H h) (e:H a=some (.dK kvs)):kvs.length<=sizeLine/\(a==sysModules)=false/\∃ vs,KV kvs vs/\h.DictOf (xP P w) a vs:=dR ok (.inl e)
theorem fE {ks:List yD} (ok:tL P w H h) (e:H a=some (.tup (ks.map kV))):(tupleKind (xP P w)).is h ks a:=by
 obtain ⟨_,its,r,o,h1,h2,n,h3⟩:=(show xU P w H h a (.tup (ks.map kV)) from ok a _ e);exact ⟨o,its.toArray,n,h1,h2,h3,by simpa using bC r⟩
theorem zd2 {kvs:List (List yD×V)} (ok:tL P w H h) (e:Rd H a (.dT kvs)):kvs.length<=sizeLine/\(a==sysModules)=false /\
  ∃ xs,KT H kvs xs/\h.DictOfH (tupleKind (xP P w)) a xs:=by
 obtain ⟨z,y,xs,r,o,es,ep,h1,h2,h3,h4,h5⟩:=(show xU P w H h a (.dT kvs) from zjf ok e);refine ⟨z,y,xs,r,o,es,ep,h1,h2,h3,h4,fun x hx=>?_,h5⟩
 have all:∀ {l:List (List yD×V)} {m:List (List yD×Addr×Value)},KT H l m->∀ x∈m,(tupleKind (xP P w)).is h x.1 x.2.1:=by
  intro l m q
  induction q with
  |nil=>intro x hx;exact nomatch hx
  | @cons p q ps qs hq t ih =>
   intro x hx;rcases List.mem_cons.mp hx with e|hx
   .subst e;exact fE ok (by rw [← hq.1];exact hq.2.1)
   .exact ih x hx
 exact all r x hx
theorem dt_of {kvs:List (List yD×V)} (ok:tL P w H h) (e:H a=some (.dT kvs)):kvs.length<=sizeLine/\(a==sysModules)=false /\
  ∃ xs,KT H kvs xs/\h.DictOfH (tupleKind (xP P w)) a xs:=zd2 ok (.inl e)
end
def DGet (H:Hp) (a:Addr) (y:V) (r:Option V):Prop :=
 (∃ kvs k,Rd H a (.dK kvs)/\y=kV k/\r=uY kvs k)\/∃ kvs k b,Rd H a (.dT kvs)/\y=.ref b/\H b=some (.tup (k.map kV))/\r=uY kvs k
def DPut (H:Hp) (a:Addr) (y v:V) (H':Hp):Prop :=
 (∃ kvs k,H a=some (.dK kvs)/\y=kV k/\kvs.length<sizeLine/\H'=xI H a (.dK (uX kvs k v))) \/
 ∃ kvs k b,H a=some (.dT kvs)/\y=.ref b/\H b=some (.tup (k.map kV))/\kvs.length<sizeLine/\H'=xI H a (.dT (uX kvs k v))
section
variable {X : Cx} {pins : List (Addr × Obj)} {σ : St} {H : Hp} {s : Shared} {a : Addr} {y v : V} {u r : Value} {o : Option V} {A : Around} {E : Value → Shared → Prop}
theorem Inv.big (I:Inv X pins σ H s):sysModules<s.heap.objs.size:=by
 have h:mainGlobals<s.heap.objs.size:=(I.mod.glob.keeps I.bk).lt;exact Nat.lt_trans (by decide) h
theorem zd7 {Q:Value->Shared->Prop} (hu:A.units+1<cLine) (I:Inv X pins σ H s) (g:DGet H a y (some v)) (ry:zD y u) (h:∀ w' s',Inv X pins σ H s'->zD v w'->Q w' s') :
  wpAny (model X.prog X.w) A (getItem (.ref a) u) Q E s:=by
 rcases g with ⟨kvs,k,e,ey,l⟩|⟨kvs,k,b,e,ey,eb,l⟩
 .subst ey;obtain ⟨z,hd,vs,rel,dd⟩:=dR I.hok e;obtain ⟨w',hw,rw'⟩:=pL.some_of (v:=v) (o:=valueAt vs k) (by rw [l];exact rel.val k);exact wpAny_getItem_of (bE ry) dd.mapOf hw (h w' _ (I.tok _) rw')
 .subst ey;cases (show u=Value.ref b from ry);obtain ⟨z,hd,xs,rel,dd⟩:=zd2 I.hok e;obtain ⟨w',hw,rw'⟩:=pL.some_of (v:=v) (o:=(atKey xs k).map (·.2)) (by rw [l];exact rel.val k);obtain ⟨p,hp,hp2⟩:=Option.map_eq_some_iff.mp hw;refine wpAny_getItem_heap (tupleKind_room_in1 hu) (fE I.hok eb) dd hp ?_;rw [hp2];exact h w' _ (I.tok _) rw'
theorem d_in {Q:Value->Shared->Prop} (hu:A.units+1<cLine) (I:Inv X pins σ H s) (g:DGet H a y o) (ry:zD y u) (h:∀ s',Inv X pins σ H s'->Q (.bool o.isSome) s') :
  wpAny (model X.prog X.w) A (compareOp .In u (.ref a)) Q E s:=by
 rcases g with ⟨kvs,k,e,ey,l⟩|⟨kvs,k,b,e,ey,eb,l⟩
 .subst ey;obtain ⟨z,hd,vs,rel,dd⟩:=dR I.hok e;refine wpAny_in_of (bE ry) hd dd.mapOf ?_;rw [← (rel.val k).isSome_eq,← l];exact h _ (I.tok _)
 .subst ey;cases (show u=Value.ref b from ry);obtain ⟨z,hd,xs,rel,dd⟩:=zd2 I.hok e;refine wpAny_in_heap (tupleKind_room_in1 hu) (fE I.hok eb) hd dd ?_;have q:=(rel.val k).isSome_eq;rw [Option.isSome_map] at q;rw [← q,← l];exact h _ (I.tok _)
theorem zij {Q:Value->Shared->Prop} (hu:A.units+1<cLine) (I:Inv X pins σ H s) (g:DGet H a y o) (ry:zD y u) (h:∀ s',Inv X pins σ H s'->Q (.bool (!o.isSome)) s') :
  wpAny (model X.prog X.w) A (compareOp .NotIn u (.ref a)) Q E s:=by
 rcases g with ⟨kvs,k,e,ey,l⟩|⟨kvs,k,b,e,ey,eb,l⟩
 .subst ey;obtain ⟨z,hd,vs,rel,dd⟩:=dR I.hok e;refine wpAny_notIn_of (bE ry) hd dd.mapOf ?_;rw [← (rel.val k).isSome_eq,← l];exact h _ (I.tok _)
 .subst ey;cases (show u=Value.ref b from ry);obtain ⟨z,hd,xs,rel,dd⟩:=zd2 I.hok e;refine wpAny_notIn_heap (tupleKind_room_in1 hu) (fE I.hok eb) hd dd ?_;have q:=(rel.val k).isSome_eq;rw [Option.isSome_map] at q;rw [← q,← l];exact h _ (I.tok _)
theorem zaZ {h':Heap} {t':Nat} {ob:HO} (I:Inv X pins σ H s) (mu:Mut (H a)) (hs:Heap.SameBut a s.heap h') (he:∃ q,h'.get? a=some q) (new:xU X.prog X.w (xI H a ob) h' a ob) (ht:0<t':=by first|exact Nat.succ_pos _|exact L2.Inv.tk (by assumption)|exact L2.Inv.tk ‹L2.Inv _ _ _ _ _› | assumption|omega) :
  Inv X pins σ (xI H a ob) { s with heap:=h',toks:=t' } :=
 I.write (x:=a) (e:=a) mu (.inl rfl) (fun b q hb z=>(hs.2 b hb).trans z) he new
theorem zgC {P:Program} {w:World} {H':Hp} {h':Heap} {kvs:List (yD×V)} {vs:List (yD×Value)} (z:kvs.length<=sizeLine) (hd:(a==sysModules)=false) (rel:KV kvs vs) (dd:h'.DictOf (xP P w) a vs) :
  xU P w H' h' a (.dK kvs):=⟨z,hd,vs,rel,dd⟩
theorem zd6 {H':Hp} {Q:Unit->Shared->Prop} (hu:A.units+1<cLine) (I:Inv X pins σ H s) (g:DPut H a y v H') (ry:zD y u) (rv:zD v r) (h:∀ s',Inv X pins σ H' s'->Q () s') :
  wpAny (model X.prog X.w) A (setItem (.ref a) u r) Q E s:=by
 rcases g with ⟨kvs,k,e,ey,l,eH⟩|⟨kvs,k,b,e,ey,eb,l,eH⟩
 .subst ey eH;obtain ⟨z,hd,vs,rel,dd⟩:=zkC I.hok e;have hz:vs.length<=sizeLine:=by rw [← rel.length];exact z
  have hl:(uX kvs k v).length<=sizeLine:=by have:=uF kvs k v;omega
  refine wpAny_setItem_pairs (hsz:=hz) (bE ry) dd fun h' dd' hs=>h _ ?_;have he:∃ q,h'.get? a=some q:=let ⟨q,_,_,hq,_⟩:=dd';⟨q,hq⟩;exact zaZ I (by rw [e];exact True.intro) hs he (zgC hl hd (rel.put k rv) dd')
 .subst ey eH;cases (show u=Value.ref b from ry);obtain ⟨z,hd,xs,rel,dd⟩:=dt_of I.hok e;have hz:xs.length<=sizeLine:=by rw [← Paired.length rel];exact z
  have hl:(uX kvs k v).length<=sizeLine:=by have:=uF kvs k v;omega
  refine wpAny_setItem_heap (hsz:=hz) (tupleKind_room_in1 hu) (fE I.hok eb) dd fun h' dd' hs=>h _ ?_;obtain ⟨q,es,ep,hq,h2,h3,h4,_,h5⟩:=dd';refine zaZ I (by rw [e];exact True.intro) hs ⟨q,hq⟩ ⟨hl,hd,_,(rel.put k eb rv).keeps fun c ys ec=>?_,q,es,ep,hq,h2,h3,h4,h5⟩;rw [zB (ne_of ec e (fun z=>nomatch z))];exact ec
end
section
variable {X : Cx} {pins : List (Addr × Obj)} {σ : St} {H : Hp} {s : Shared} {a : Addr} {kvs : List (yD × V)} {k : yD} {u : Value} {A : Around} {E : Value → Shared → Prop}
theorem d_len {Q:Value->Shared->Prop} (I:Inv X pins σ H s) (e:Rd H a (.dK kvs)) (h:∀ t s',Inv X pins σ H s'->Q (.int kvs.length t) s'):wpAny (model X.prog X.w) A (call (.builtin "len") [.ref a]) Q E s:=by
 obtain ⟨z,hd,vs,rel,dd⟩:=dR I.hok e;refine call_len_dict hd dd (by rw [← rel.length];rw [sizeLine_eq] at z;omega) ?_;rw [← rel.length];exact h _ _ (I.tok _)
end
section
variable {X : Cx} {o i e value : Expr} {pos pos' tpos : Pos} {td ty tv : TE}
end
theorem zfN {P:Program} {w:World} {H:Hp} (h:Heap) (hb:sysModules<h.objs.size):xU P w H (h.push { cls:=.type "dict", data:=.dict #[] }) h.objs.size (.dK []) :=
 ⟨Nat.zero_le _,beq_eq_false_iff_ne.mpr (Ne.symm (Nat.ne_of_lt hb)),[],.nil,Heap.DictOf.new h⟩
section
variable {X : Cx} {pos : Pos}
end
def zbh:List (TE×TE)->St->Hp->(List (V×V)->Hp->Prop)->Prop
 | [],_,H,Q=>Q [] H
 | (tk,tv)::r,σ,H,Q=>tk σ H fun x H1=>tv σ H1 fun y H2=>zbh r σ H2 fun ps H3=>Q ((x,y)::ps) H3
abbrev VV:List (V×V)->List (Value×Value)->Prop:=Paired fun p q=>zD p.1 q.1/\zD p.2 q.2
def PPs (X:Cx) (pos:Pos) (keys:List (Option Expr)) (values:List Expr) (trs:List (TE×TE)):Prop :=
 ∀ (pins:List (Addr×Obj)) (s:Shared) (σ:St) (H:Hp) (Q:List (V×V)->Hp->Prop),Inv X pins σ H s->zbh trs σ H Q ->
  wpAny (model X.prog X.w) X.A (evalPairs (pairTrees keys values X.env pos)) (fun vs s'=>∃ ps H',Inv X pins σ H' s'/\VV ps vs/\Q ps H') X.xe s
theorem zhh {X:Cx} {pos:Pos}:PPs X pos [] [] []:=fun pins s σ H Q I h=>pairTrees_nil_walk ⟨[],H,I,.nil,h⟩
theorem ze4 {X:Cx} {pos:Pos} {k v:Expr} {ks:List (Option Expr)} {vs:List Expr} {tk tv:TE} {trs:List (TE×TE)} (hk:PE X k tk) (hv:PE X v tv) (hr:PPs X pos ks vs trs) :
  PPs X pos (some k::ks) (v::vs) ((tk,tv)::trs):=fun pins s σ H Q I h =>
 pairTrees_cons_walk (yH (hk pins s σ H _ I h) fun u s1 ⟨x,H1,I1,rx,q1⟩=>yH (hv pins s1 σ H1 _ I1 q1) fun w2 s2 ⟨y,H2,I2,ry,q2⟩ =>
  yH (hr pins s2 σ H2 _ I2 q2) fun ws s3 ⟨ps,H3,I3,rel,q3⟩=>⟨(x,y)::ps,H3,I3,.cons ⟨rx,ry⟩ rel,q3⟩)
def pT (kvs wQ:List (yD×V)):List (yD×V):=wQ.foldl (fun acc kv=>uX acc kv.1 kv.2) kvs
theorem KV.merge:∀ {wQ:List (yD×V)} {rs:List (yD×Value)} {kvs:List (yD×V)} {vs:List (yD×Value)},KV wQ rs->KV kvs vs->KV (pT kvs wQ) (merged vs rs):=by
 intro wQ rs kvs vs r;unfold KV at r
 induction r generalizing kvs vs with
 |nil=>intro q;exact q
 | @cons p q ps qs h t ih =>
  intro r0
  have e:KV (uX kvs p.1 p.2) (stored vs q.1 q.2):=by
   have:=r0.put p.1 h.2;rw [← h.1];exact this
  exact ih e
theorem tF:∀ (wQ kvs:List (yD×V)),(pT kvs wQ).length<=kvs.length+wQ.length
 | [],kvs=>by show kvs.length<=kvs.length+0;omega
 |p::r,kvs=>by
  have h1:=tF r (uX kvs p.1 p.2);have h2:=uF kvs p.1 p.2;show (pT (uX kvs p.1 p.2) r).length<=_;rw [List.length_cons];omega
theorem dP {P:Program} {w:World}:∀ {kvs:List (yD×V)} {ws:List (Value×Value)},VV (kvs.map fun kv=>(kV kv.1,kv.2)) ws->∃ rs,Carries (xP P w) ws rs/\KV kvs rs
 | [],_,r=>by rw [zzV] at r;cases r;exact ⟨[],True.intro,.nil⟩
 |p::kvs,_,r=>by
  rw [zzU] at r
  cases r with
  | @cons a b as bs h t =>
   obtain ⟨rs,c,q⟩:=dP (P:=P) (w:=w) t;obtain ⟨b1,b2⟩:=b;exact ⟨(p.1,b2)::rs,⟨bE h.1,rfl,c⟩,.cons ⟨rfl,h.2⟩ q⟩
def tDisp (trs:List (TE×TE)):TE:=fun σ H Q=>∀ p,H p=none->zbh trs σ (xI H p (.dK [])) fun ps H2=>H2 p=some (.dK [])/\∃ kvs:List (yD×V),ps=kvs.map (fun kv=>(kV kv.1,kv.2))/\kvs.length<=15/\Q (.ref p) (xI H2 p (.dK (pT [] kvs)))
theorem zhn {X:Cx} {pos:Pos} {keys:List (Option Expr)} {values:List Expr} {trs:List (TE×TE)} (h:PPs X pos keys values trs) (hall:keys.all (·.isSome)=true) (hl:keys.length=values.length) (h0:keys≠[])
  (h15:keys.length<=15):PE X (.Dict keys values pos) (tDisp trs):=by
 intro pins s σ H Q I q;have hn:=I.hok.fresh (zzR s.heap.objs.size);have I1:=I.laid (a:=s.heap.objs.size) (o:=.dK []) (h':=s.heap.push { cls:=.type "dict", data:=.dict #[] }) (t':=s.toks) (fun _ _ q=>Heap.get?_push_of_some _ q) (zzR _) (zfN s.heap I.big);refine wpAny_Dict_walk (knd:=xP X.prog X.w) hall hl h0 h15 (yH (h pins _ σ _ _ I1 (q _ hn)) fun ws s2 ⟨ps,H2,I2,rel,e,kvs,ep,lk,q2⟩=>?_);subst ep;obtain ⟨rs,c,rk⟩:=dP (P:=X.prog) (w:=X.w) rel;obtain ⟨z,hd,vs0,r0,dd⟩:=zkC I2.hok e;cases r0;refine ⟨rs,c,dd,fun h' dd' hs=>⟨.ref s.heap.objs.size,_,?_,rfl,q2⟩⟩
 have hz:(pT [] kvs).length<=sizeLine:=by
  have h1:=tF kvs [];rw [List.length_nil] at h1;rw [sizeLine_eq];omega
 have he:∃ q,h'.get? s.heap.objs.size=some q:=let ⟨q,_,_,hq,_⟩:=dd';⟨q,hq⟩;exact zaZ I2 (by rw [e];exact True.intro) hs he (zgC hz hd (rk.merge .nil) dd') (Nat.add_pos_left I2.tk _)
def IsD (H:Hp) (a:Addr):Prop:=(∃ kvs,Rd H a (.dK kvs))\/∃ kvs,Rd H a (.dT kvs)
theorem zko {X:Cx} {pins:List (Addr×Obj)} {σ:St} {H:Hp} {s:Shared} {a:Addr} (I:Inv X pins σ H s) (d:IsD H a) :
  s.TypeIs (.ref a) "dict" /\ (∀ b,Value.ref a=.ref b->∃ ob,s.heap.get? b=some ob/\ob.dict=none)/\(a==sysModules)=false:=by
 rcases d with ⟨kvs,e⟩|⟨kvs,e⟩
 .obtain ⟨_,hd,vs,_,dd⟩:=dR I.hok e;refine ⟨dd.typeIs,fun b q=>?_,hd⟩;cases q;obtain ⟨ob,_,_,h1,h2,_⟩:=dd;exact ⟨ob,h1,h2.2.1⟩
 .obtain ⟨_,hd,xs,_,dd⟩:=zd2 I.hok e;refine ⟨dd.typeIs,fun b q=>?_,hd⟩;cases q;obtain ⟨ob,_,_,h1,h2,_⟩:=dd;exact ⟨ob,h1,h2.2.1⟩
section
variable {X : Cx} {pins : List (Addr × Obj)} {σ : St} {H : Hp} {s : Shared} {a : Addr} {y d : V} {u r : Value} {o : Option V} {A : Around} {E : Value → Shared → Prop}
end
section
variable {X : Cx} {o e f : Expr} {apos cpos : Pos} {td ty tx : TE}
end
section
variable {X : Cx} {pins : List (Addr × Obj)} {σ : St} {H : Hp} {s : Shared} {a : Addr} {kvs : List (yD × V)} {A : Around} {E : Value → Shared → Prop}
end
section
variable {X : Cx} {pins : List (Addr × Obj)} {σ : St} {H : Hp} {s : Shared} {a : Addr} {y : V} {u : Value} {A : Around} {E : Value → Shared → Prop}
end
end L2
namespace Att
open PySem PySem.W PySem.Calls PyProof.Rows
theorem mT {P:Params} {h:Heap}:∀ (ns:List Int) (vs:List Value),WellAll P h vs (ns.map WData.int)->IntsAre vs ns:=by
 intro ns
 induction ns with
 |nil =>
  intro vs w;rw [zzV] at w;cases w;exact .nil
 |cons n ns ih =>
  intro vs w;rw [zzU] at w
  cases w with
  |cons a b =>
   cases a;exact .cons _ _ (ih _ b)
theorem zcZ {l:OpenLaw} {n:Nat} (hn:l.most=some n) {P:Params} {h:Heap} {args:List WData} {vals:List Value}
  (hpre:l.row.toRowW.claim.pre args=true) (hwl:WellAll P h vals args) :
  ∃ a vs ns,vals=[Value.ref a]/\args=[WData.list (ns.map WData.int)]/\h.get? a=some { cls:=.type "list", data:=.seq vs.toArray }/\IntsAre vs ns/\ns.length<=n:=by
 have hsh:WShape.hasAll [] args [.list .int]=true:=(pre_splitW hpre).1;have hc:l.pre.holds [] { args:=args }=true:=(pre_splitW hpre).2;obtain ⟨d,r,rfl,h1,h2⟩:=hasAllW_cons hsh;obtain rfl:=hasAllW_nil h2;obtain ⟨xs,rfl,h3⟩:=hasW_list h1;obtain ⟨ns,rfl⟩:=items_int h3
 have hlen:ns.length<=n:=by
  unfold OpenLaw.pre at hc
  have h4:(WTm.not (.lt (.lit (.int (n:Int))) (.len (.arg 0)))).holds [] { args:=[.list (ns.map .int)] }=true:=by
   have h4:=(holds_andW hc).1;rw [hn] at h4;exact h4
  have h5:=condW_of h4 (w_not (w_lt w_lit (w_len_list (w_arg rfl))));rw [zzM] at h5;refine Nat.le_of_not_lt fun q=>?_;have q':(n:Int)<((ns.length:Nat):Int):=by omega
  first
   | (rw [decide_eq_true q'] at h5;exact absurd h5 (by decide))
   | (simp at h5;omega)
 cases hwl with
 |cons w1 w2 =>
  cases w2
  cases w1 with
  |list ho hall=>exact ⟨_,_,ns,rfl,rfl,ho,mT ns _ hall,hlen⟩
theorem zc8 (l:OpenLaw) (args:List WData):l.row.toRowW.claim.post args (.bool true) args=true :=
 postW_of (r:=l.row.toRowW) (X:=(true==true))
  (show WShape.has [] (.bool true) .bool=true by first|rfl|decide|simp [WShape.has,WShape.arms,WShape.armsAll])
  (show (WTm.eq .res (.lit (.bool true))).value [] { args:=args,res:=some (.bool true),after:=args }=some (.bool (true==true)) from w_eq_bool (w_res rfl) w_lit) rfl
theorem attach_call {l:OpenLaw} {n:Nat} {q:Program} {loose:List Str} {XP:(Str->Option Value)->Heap->Prop} {YP:World->Heap->Prop} {d:DefRec}
  (hn:l.most=some n) (hdf:d.params.defaults=[])
  (call:∀ (w:World) (s₀ s₁:Shared) (mg mb:Str->Option Value) (fa:Addr) (o:Obj) (pm cd doc:Value) (a:Addr) (vs:List Value) (ns:List Int),
   Ground q loose [] XP w s₀ mg mb s₁.heap->YP w s₁.heap ->
   s₁.heap.get? fa=some o->o.data=.func (docDef d.name d.params d.body d.scope pm cd doc)->s₁.heap.CodeRec cd d.name->mg d.name=some (.ref fa) ->
   s₁.heap.get? a=some { cls:=.type "list", data:=.seq vs.toArray }->IntsAre vs ns->ns.length<=n->s₁.gens=#[] ->
   codeAny (model l.prog w) callerA (.call (.ref fa) ⟨[.ref a],[]⟩) (fun r s'=>r=.ok (.ret (.bool true))/\OldK s₁.heap s'.heap/\s'.os=s₁.os/\AllBare s'.gens) s₁) :
  WalkO q loose XP YP l.row.toRowW d [] (fun f vs=>PySem.call f vs):=by
 intro w s₀ s₁ mg mb G Y fa o pm cd doc dV kV ho hd hcd hD hmg hg args vals as hpre hlay hrd hwl hlo;obtain rfl:dV=.none:=Dflts.none hD hdf;obtain rfl:kV=.none:=Dflts.noKw hD;obtain ⟨a,vs,ns,rfl,rfl,hobj,hints,hlen⟩:=zcZ hn hpre hwl;refine enter_call (codeAny_mono (call w s₀ s₁ mg mb fa o pm cd doc a vs ns G Y ho (fd_plain hd) hcd hmg hobj hints hlen hg) fun r s' hq=>?_);obtain ⟨rfl,h2,h3,h4⟩:=hq;exact ⟨.inl ⟨.bool true,.bool true,[],rfl,fun _=>rfl,.bool true,zc8 l _,fun _=>⟨List.Pairwise.nil,fun _ hm=>(nomatch hm)⟩⟩,h2,h3,h4⟩
section
variable {prog : Program} {w : World} {A : Around} {E : Value → Shared → Prop} {s : Shared} {K : Frag}
end
end Att
namespace L2
open PySem PySem.Spec PyProof.Rows
theorem cG:∀ {vs:List Value} {ns:List Int},IntsAre vs ns->zE (ns.map V.int) vs
 |_,_,.nil=>.nil
 |_,_,.cons n t h=>.cons ⟨t,rfl⟩ (cG h)
def Only (H:Hp):Prop:=∀ b,H b=none\/∃ o xs,H b=some (.frz o (.lst xs))
theorem zfp {P:Program} {w:World} {K:PySem.W.Frag} {mg mb:Str->Option Value} {CX:CXT} {k:Nat} {fa a:Addr} {fd:FuncData} {x:Str} {sp:Sp} {s₁:Shared} {vs:List Value} {ns:List Int}
  (KX:K.In s₁.heap) (hns:s₁.heap.Ns mainGlobals mg) (hb:s₁.heap.Ns builtinsNs mb) (hbb:∀ x:Str,x ≠ "__name__" -> mb x=bootBuiltins x) (hlim:s₁.heap.NoLimit) (hg:s₁.gens=#[])
  (ha:s₁.heap.get? a=some { cls:=.type "list", data:=.seq vs.toArray }) (hi:IntsAre vs ns) (hl:ns.length<=sizeLine) (hr:Room k callerA)
  (F:∀ base:Heap,K.In base->base.Ns mainGlobals mg->FnOk P w K mg base CX k fa fd [x] sp) (hbind:∀ (s:Shared) (u:Value),BindsTo s fd ⟨[u],[]⟩ [(x,u)])
  (hsp:∀ H:Hp,Only H->pM K H a (ns.map V.int)->sp [.ref a] H (fun v _=>v=.bl true) fun _ _ _=>False)
  (hCX:∀ H e s',CX [] H s₁ (fun _ _ _=>False) e s'->False) (hx:fd.scope.names.lookup x=some .local) :
  codeAny (model P w) callerA (.call (.ref fa) ⟨[.ref a],[]⟩) (fun r s'=>r=.ok (.ret (.bool true))/\OldK s₁.heap s'.heap/\s'.os=s₁.os/\AllBare s'.gens) s₁:=by
 have rv:=cG hi;have lenV:=hi.length
 have core:∀ H:Hp,Only H->pM K H a (ns.map V.int)->tL P w H s₁.heap->(∀ b,H b≠none->b=a)->(H a≠none->K.lookup a=none) ->
   codeAny (model P w) callerA (.call (.ref fa) ⟨[.ref a],[]⟩) (fun r s'=>r=.ok (.ret (.bool true))/\OldK s₁.heap s'.heap/\s'.os=s₁.os/\AllBare s'.gens) s₁:=by
  intro H hO hS hok hA hK;have base_of:∀ {b:Addr} {o:Obj},s₁.heap.get? b=some o->H b=none->(hidT s₁.heap H).get? b=some o:=fun e n=>zfC e n
  have noA:∀ {b:Addr} {o:Obj} {es:Array DictEntry} {ep:Nat},s₁.heap.get? b=some o->o.data=.dict es ep->H b=none:=fun {b o es ep} e d=>by
   cases q:H b with
   |none=>rfl
   |some u =>
    have e':b=a:=hA b (by rw [q];simp);subst e';rw [ha] at e;cases e;have d':Data.seq vs.toArray _=Data.dict es ep:=d;cases d'
  have nsK:∀ {b:Addr} {m:Str->Option Value},s₁.heap.Ns b m->(hidT s₁.heap H).Ns b m:=fun {b m} ⟨o,es,ep,e,d,r⟩=>⟨o,es,ep,base_of e (noA e d),d,r⟩
  have hKb:K.In (hidT s₁.heap H):=fun b o e=>base_of (KX b o e) (by
   cases q:H b with
   |none=>rfl
   |some u =>
    have e':b=a:=hA b (by rw [q];simp);subst e';rw [hK (by rw [q];simp)] at e;cases e)
  have hM:Mod K mg (hidT s₁.heap H):=⟨hKb,nsK hns,⟨mb,nsK hb,hbb⟩,let ⟨mc,h1,h2⟩:=hlim;⟨mc,nsK h1,h2⟩⟩;have e0:Env0 P w K mg (hidT s₁.heap H) callerA [] { s₁ with toks:=1 } H:=⟨rfl,hM,fun b o e=>zhw e,Nat.le_of_eq (zdI _ _),trivial,fun b hb=>absurd (show b∈([]:List Addr) from hb) (by simp),hok,.of_eq hg,Nat.one_pos⟩;refine codeAny_mono ((F _ hKb (nsK hns)).one x rfl hx callerA [] s₁ H ⟨[.ref a],[]⟩ [.ref a] [.ref a] _ _ hr e0 (hbind s₁ (.ref a)) (.cons rfl .nil) (hsp H hO hS)) fun r s' h=>?_
  cases r with
  |error e=>exact (hCX H e s' h).elim
  |ok fl =>
   cases fl with
   |next=>exact False.elim h
   |brk=>exact False.elim h
   |cont=>exact False.elim h
   |ret u =>
    obtain ⟨v,H',os,_,bare,un,hok',r',q⟩:=h;have q':v=.bl true:=q;subst q';obtain rfl:u=Value.bool true:=r';refine ⟨rfl,OldK.of_keep fun b o e=>?_,os,bare⟩
    cases q:H b with
    |none=>exact un.keep b o e q (by intro z;exact absurd (show b∈([]:List Addr) from z) (by simp)) (by simp)
    |some u =>
     rcases hO b with z|⟨ob,xs,z⟩
     .rw [q] at z;cases z
     .have z2:=un.frzs b ob _ z;obtain ⟨e1,_⟩:=hok b _ z;obtain ⟨e2,_⟩:=hok' b _ z2;rw [e] at e1;cases e1;exact e2
 cases hk:K.lookup a with
 |some o =>
  have e:=KX a o hk;rw [ha] at e;cases e;refine core (fun _=>none) (fun _=>.inl rfl) (.inr ⟨_,vs.toArray,_,hk,rfl,rfl,rfl,by rw [zzS,lenV];exact hl,by simpa using rv⟩) (fun b u z=>by have z':(none:Option HO)=some u:=z;cases z') (fun b z=>absurd rfl z) fun z=>absurd rfl z
 |none =>
  refine core (fun b=>if b=a then some (.frz { cls:=.type "list", data:=.seq vs.toArray } (.lst (ns.map V.int))) else none) (fun b=>?_) (.inl (.inr ⟨{ cls:=.type "list", data:=.seq vs.toArray },if_pos rfl⟩)) (fun b u z=>?_) (fun b z=>?_) fun _=>hk
  .by_cases hb:b=a
   .exact .inr ⟨_,_,if_pos hb⟩
   .exact .inl (if_neg hb)
  .by_cases hb:b=a
   .have z':=(if_pos hb).symm.trans z;cases z';subst hb;exact ⟨ha,by rw [zzM];exact hl,vs,_,rv,ha⟩
   .have z':=(if_neg hb).symm.trans z;cases z'
  .by_cases hb:b=a
   .exact hb
   .exact absurd (if_neg hb) z
end L2
namespace L2
open PySem PySem.Spec PyProof.Rows
abbrev KOf {K:PySem.W.Frag} {h:Heap} (_:K.In h):PySem.W.Frag:=K
theorem walk_of {l:PySem.W.OpenLaw} {n k:Nat} {q:Program} {loose:List Str} {XP:(Str->Option Value)->Heap->Prop} {YP:World->Heap->Prop} {d:DefRec} {K:Params->PySem.W.Frag} {CX:World->CXT} {sp:World->Sp} {x:Str}
  (hn:l.most=some n) (hn2:n<=sizeLine) (hdf:d.params.defaults=[]) (hr:Room k callerA)
  (hY:∀ (w:World) (h:Heap),YP w h->(K w.params).In h)
  (F:∀ (w:World) (mg:Str->Option Value) (fa:Addr) (h:Heap),(K w.params).In h->h.Ns mainGlobals mg->mg d.name=some (.ref fa) ->
   ∃ fd:FuncData,(∀ (s:Shared) (u:Value),BindsTo s fd ⟨[u],[]⟩ [(x,u)])/\fd.scope.names.lookup x=some .local /\
    ∀ base:Heap,(K w.params).In base->base.Ns mainGlobals mg->FnOk l.prog w (K w.params) mg base (CX w) k fa fd [x] (sp w))
  (hsp:∀ (w:World) (H:Hp) (a:Addr) (ns:List Int),ns.length<=n->Only H->pM (K w.params) H a (ns.map V.int)->sp w [.ref a] H (fun v _=>v=.bl true) fun _ _ _=>False)
  (hCX:∀ (w:World) (H:Hp) (s:Shared) (e:Value) (s':Shared),CX w [] H s (fun _ _ _=>False) e s'->False) :
  PySem.W.WalkO q loose XP YP l.row.toRowW d [] (fun f vs=>PySem.call f vs):=by
 refine Att.attach_call hn hdf fun w s₀ s₁ mg mb fa o pm cd doc a vs ns G Y ho hd hcd hmg hobj hints hlen hg=>?_;have KX:=hY w _ Y;obtain ⟨fd,hb,hx,hF⟩:=F w mg fa _ KX G.T.g hmg;exact zfp KX G.T.g G.T.b G.T.builtins G.T.nolimit hg hobj hints (Nat.le_trans hlen hn2) hr hF hb (fun H hO hS=>hsp w H a ns hlen hO hS) (fun H e s'=>hCX w H s₁ e s') hx
end L2
/- THE LAST THEOREM (shape;LID,My.* are yours):
   My.Adr: a structure of the addresses that your layer names (classes,functions);My.Txt K t: a structure (Prop) of the equations over K;
   My.txt_mk:{K} {implicit addresses ..} (e1:nsIn K mainGlobals "law" = some (some (.ref f))) (e2:K.lookup f=some ⟨oc,od,.func (fnOf "law" "law" params body scope dV kV doc pm an cdv ct),sl⟩) (e3:codeIn K cdv "law" = true) ..:∃ t,My.Txt K t
set_option maxRecDepth 100000 in
set_option maxHeartbeats 0 in
theorem PySem.Challenge.cw_LID_holds : PySem.Challenge.rw_LID.Holds := by
 w_on;o_law;k_head;(case hw=>w_witness2)
 k_fill
 refine L2.walk_of (l:=PySem.Challenge.rw_LID) (n:=63) (k:=40) (x := "script") (CX:=fun w=>..) (sp:=fun _=>My.sp_law) rfl (by decide) rfl ⟨rfl,by decide,by decide⟩ (fun w h Y=>PySem.W.kIn_of Y) ?F ?S ?C
 case F =>
  intro w mg fa h KX G hmg
  have T:∃ t,My.Txt (L2.KOf KX) t:=by
   dsimp only [L2.KOf]                          -- K must stand as «<heap const> w.params» for k_is;refine' My.txt_mk ?e1 ?e2 ?e3 ..
   (case e1=>PySem.W.k_is)                    -- in the order: a name -> its address -> its object -> its parts
   (case e2=>PySem.W.k_is)
   ..
  obtain ⟨t,T⟩:=T;have e0:=hmg.symm.trans (PySem.W.mg_of KX G T.law);cases e0                                       -- fa is the law's own address;exact ⟨_,fun s u=>.of_eq rfl,fun base kb nb=>My.law_fn T kb nb⟩     -- if «.of_eq rfl» comes too early: refine' ⟨_,?b,fun base kb nb=>My.law_fn T kb nb⟩;exact fun s u=>.of_eq rfl
 case S=>exact fun w H a ns hl hO hS=>..
 case C=>exact ..
(the tactic k_is has no namespace: write k_is) -/
namespace L2
open PySem PySem.Spec PyProof.Rows
def zA (s:Stmt):Arguments:=match s with
 | .FunctionDef _ a _ _ _ _ _ _ _ _=>a
 |_=>{ posonlyargs:=[],args:=[],vararg:=none,kwonlyargs:=[],kw_defaults:=[],kwarg:=none,defaults:=[] }
def zT (s:Stmt):List Stmt:=match s with
 | .FunctionDef _ _ b _ _ _ _ _ _ _=>b
 |_=>[]
def zZ (s:Stmt):Scope:=match s with
 | .FunctionDef _ _ _ _ _ _ sc _ _ _=>sc
 |_=>{ kind:=.function,names:=[],isGenerator:=false,isCoroutine:=false }
abbrev CX0:CXT:=fun _ _ _ _ _ _=>False
abbrev E0:XK:=fun _ _ _=>False
theorem zhr {X:Cx}:zb1 CX0 X E0:=fun _ _ _ _ _ _ _ h=>h.elim
section
variable {P : Program} {w : World} {K : PySem.W.Frag} {mg : Str → Option Value} {base : Heap}
end
section
variable {X : Cx}
end
section
variable {κ : Type} [DecidableEq κ]
end
end L2
namespace L3
open PySem PySem.Spec PyProof.Rows L2
inductive W where
 |non|bl (b:Bool)|int (i:Int)|str (x:Str)|ty (n:String)|ref (a:Addr)|tup (ws:List W)|lsf (ws:List W)
  |exc (C:Addr) (ns:List Str) (ws:List W)|dcf (ks:List Str) (ws:List W)
abbrev yL:=PySem.W.Frag
def KL (K:yL) (a:Addr) (xs:List V):Prop:=∃ (o:Obj) (its:Array Value) (n:Nat),K.lookup a=some o/\o.cls=.type "list" /\ o.dict=none/\o.data=.seq its n/\its.size<=sizeLine/\zE xs its.toList
def ziy:List DictEntry->List Str->List V->Prop
 | [],ks,vs=>ks=[]/\vs=[]
 |e::r,ks,vs=>∃ k t v ks' vs',ks=k::ks'/\vs=v::vs'/\e.key=.str k t/\zD v e.val/\ziy r ks' vs'
def KD (K:yL) (a:Addr) (ks:List Str) (vs:List V):Prop:=∃ (o:Obj) (es:Array DictEntry) (ep:Nat),K.lookup a=some o/\o.ExactDict/\o.data=.dict es ep/\es.size<=sizeLine/\(a==sysModules)=false/\ziy es.toList ks vs
def ExO (a C:Addr) (dx:Option Addr):Heap->Prop:=fun h=>∃ fs,h.get? a=some { cls:=.ref C,dict:=dx,data:=.fields fs }
def ExAt (H:Hp) (a C:Addr) (l:List (Str×V)):Prop:=(H a=some (.ext (ExO a C none))/\l=[])\/∃ dx,H a=some (.ext (ExO a C (some dx)))/\H dx=some (.xd l)
def isX:HO->Prop
 | .ext _=>True
 | .frz _ (.dK _)=>True
 | .xd _=>True
 |_=>False
mutual
def xN (K:yL) (H:Hp):W->V->Prop
 | .non,v=>v=.non
 | .bl b,v=>v=.bl b
 | .int i,v=>v=.int i
 | .str x,v=>v=.str x
 | .ty n,v=>v=.ty n
 | .ref a,v=>v=.ref a
 | .tup ws,v=>∃ a vs,v=.ref a/\sO K H a vs/\zF K H ws vs
 | .lsf ws,v=>∃ a vs,v=.ref a/\KL K a vs/\zF K H ws vs
 | .exc C ns ws,v=>∃ a vs,v=.ref a/\ExAt H a C (ns.zip vs)/\zF K H ws vs
 | .dcf ks ws,v=>∃ a vs,v=.ref a/\KD K a ks vs/\zF K H ws vs
def zF (K:yL) (H:Hp):List W->List V->Prop
 | [],vs=>vs=[]
 |w::ws,vs=>∃ v r,vs=v::r/\xN K H w v/\zF K H ws r
end
def yJ (K:yL) (H H':Hp):Prop:=(∀ a xs,sO K H a xs->sO K H' a xs)/\∀ a o,isX o->H a=some o->H' a=some o
theorem yJ.refl {K:yL} {H:Hp}:yJ K H H:=⟨fun _ _ h=>h,fun _ _ _ h=>h⟩
theorem yJ.trans {K:yL} {H H1 H2:Hp} (a:yJ K H H1) (b:yJ K H1 H2):yJ K H H2:=⟨fun x xs h=>b.1 x xs (a.1 x xs h),fun x o i h=>b.2 x o i (a.2 x o i h)⟩
theorem ExAt.mono {K:yL} {H H':Hp} (g:yJ K H H') {a C:Addr} {l:List (Str×V)} (h:ExAt H a C l):ExAt H' a C l:=by
 rcases h with ⟨h,e⟩|⟨dx,h,h'⟩
 .exact .inl ⟨g.2 _ _ True.intro h,e⟩
 .exact .inr ⟨dx,g.2 _ _ True.intro h,g.2 _ _ True.intro h'⟩
section
variable {K : yL} {H H' : Hp}
mutual
theorem xN.mono (g:yJ K H H'):∀ {w:W} {v:V},xN K H w v->xN K H' w v
 | .non,_,h=>h
 | .bl _,_,h=>h
 | .int _,_,h=>h
 | .str _,_,h=>h
 | .ty _,_,h=>h
 | .ref _,_,h=>h
 | .tup _,_,⟨a,vs,e,s,r⟩=>⟨a,vs,e,g.1 a vs s,zF.mono g r⟩
 | .lsf _,_,⟨a,vs,e,s,r⟩=>⟨a,vs,e,s,zF.mono g r⟩
 | .exc _ _ _,_,⟨a,vs,e,s,r⟩=>⟨a,vs,e,s.mono g,zF.mono g r⟩
 | .dcf _ _,_,⟨a,vs,e,s,r⟩=>⟨a,vs,e,s,zF.mono g r⟩
theorem zF.mono (g:yJ K H H'):∀ {ws:List W} {vs:List V},zF K H ws vs->zF K H' ws vs
 | [],_,h=>h
 |_::_,_,⟨v,r,e,h,t⟩=>⟨v,r,e,xN.mono g h,zF.mono g t⟩
end
theorem zF.length:∀ {ws:List W} {vs:List V},zF K H ws vs->vs.length=ws.length
 | [],_,h=>by rw [show _=[] from h];rfl
 |_::_,_,⟨v,r,e,_,t⟩=>by rw [e,List.length_cons,List.length_cons,zF.length t]
theorem zF.append:∀ {ws:List W} {vs:List V} {ws':List W} {vs':List V},zF K H ws vs->zF K H ws' vs'->zF K H (ws++ws') (vs++vs')
 | [],_,_,_,h,h'=>by rw [show _=[] from h];exact h'
 |_::_,_,_,_,⟨v,r,e,h,t⟩,h'=>by rw [e];exact ⟨v,_,rfl,h,zF.append t h'⟩
theorem zF.get:∀ {ws:List W} {vs:List V} {i:Nat} {w:W},zF K H ws vs->ws[i]?=some w->∃ v,vs[i]?=some v/\xN K H w v
 | [],_,_,_,_,e=>by simp at e
 |_::_,_,0,_,⟨v,r,e,h,t⟩,q=>by simp at q;subst q;subst e;exact ⟨v,rfl,h⟩
 |_::_,_,i+1,w,⟨v,r,e,h,t⟩,q=>by
  subst e;obtain ⟨u,h1,h2⟩:=zF.get (i:=i) (w:=w) t (by simpa using q);exact ⟨u,by simpa using h1,h2⟩
theorem zF.get':∀ {ws:List W} {vs:List V} {i:Nat} {v:V},zF K H ws vs->vs[i]?=some v->∃ w,ws[i]?=some w/\xN K H w v
 | [],_,_,_,h,e=>by rw [show _=[] from h] at e;simp at e
 |_::_,_,0,_,⟨v,r,e,h,t⟩,q=>by subst e;simp at q;subst q;exact ⟨_,rfl,h⟩
 |_::_,_,i+1,w,⟨v,r,e,h,t⟩,q=>by
  subst e;obtain ⟨u,h1,h2⟩:=zF.get' (i:=i) (v:=w) t (by simpa using q);exact ⟨u,by simpa using h1,h2⟩
theorem zF.set {w:W} {v:V} (q:xN K H w v):∀ {ws:List W} {vs:List V} (i:Nat),zF K H ws vs->zF K H (ws.set i w) (vs.set i v)
 | [],_,_,h=>by rw [show _=[] from h];rfl
 |_::_,_,0,⟨_,r,e,_,t⟩=>by rw [e];exact ⟨_,_,rfl,q,t⟩
 |_::_,_,i+1,⟨v,r,e,h,t⟩=>by rw [e];exact ⟨_,_,rfl,h,zF.set q i t⟩
theorem zF.take:∀ {ws:List W} {vs:List V} (n:Nat),zF K H ws vs->zF K H (ws.take n) (vs.take n)
 | [],_,_,h=>by rw [show _=[] from h];simp;rfl
 |_::_,_,0,_=>by simp;rfl
 |_::_,_,n+1,⟨v,r,e,h,t⟩=>by rw [e];exact ⟨_,_,rfl,h,zF.take n t⟩
theorem zF.drop:∀ {ws:List W} {vs:List V} (n:Nat),zF K H ws vs->zF K H (ws.drop n) (vs.drop n)
 | [],_,_,h=>by rw [show _=[] from h];simp;rfl
 |_::_,_,0,h=>h
 |_::_,_,n+1,⟨v,r,e,h,t⟩=>by rw [e];exact zF.drop n t
theorem zF.reverse:∀ {ws:List W} {vs:List V},zF K H ws vs->zF K H ws.reverse vs.reverse
 | [],_,h=>by rw [show _=[] from h];rfl
 |_::_,_,⟨v,r,e,h,t⟩=>by
  rw [e,List.reverse_cons,List.reverse_cons];exact zF.append (zF.reverse t) ⟨v,[],rfl,h,rfl⟩
theorem zF.dropLast {ws:List W} {vs:List V} (h:zF K H ws vs):zF K H ws.dropLast vs.dropLast:=by
 rw [List.dropLast_eq_take,List.dropLast_eq_take,h.length];exact h.take _
end
inductive O where
 |lst (ws:List W)
  |fix (ws:List W)
 |dic (kvs:List (yD×W))
 |ins (C:Addr) (fs:List (Str×W))
  |fzd (kvs:List (yD×W))
def isFz:O->Bool
 | .fzd _=>true
 |_=>false
abbrev Hw:=Addr->Option O
def put (G:Hw) (a:Addr) (o:O):Hw:=fun b=>if b=a then some o else G b
theorem zX {G:Hw} {a:Addr} {o:O}:put G a o a=some o:=by unfold put;rw [if_pos rfl]
theorem yK {G:Hw} {a b:Addr} {o:O} (h:b≠a):put G a o b=G b:=by unfold put;rw [if_neg h]
theorem vB {G:Hw} {a b:Addr} {o:O} (h:G a=some o) (h':G b=none):a≠b:=by
 intro e;subst e;rw [h] at h';cases h'
def yS (K:yL) (H:Hp) {κ:Type}:List (κ×W)->List (κ×V)->Prop
 | [],l=>l=[]
 |p::r,l=>∃ v t,l=(p.1,v)::t/\xN K H p.2 v/\yS K H r t
def cJ (K:yL) (H:Hp):O->HO->Prop
 | .lst ws,o=>∃ vs,o=.lst vs/\zF K H ws vs
 | .fix ws,o=>∃ vs ob,(o=.lst vs\/o=.frz ob (.lst vs))/\zF K H ws vs
 | .dic kvs,o=>∃ l,o=.dK l/\yS K H kvs l
 | .ins C fs,o=>∃ dx l,o=.ins C dx l/\yS K H fs l
 | .fzd kvs,o=>∃ ob l,o=.frz ob (.dK l)/\yS K H kvs l
def xR (K:yL) (H:Hp) (G:Hw):Prop:=∀ a o,G a=some o->∃ u,H a=some u/\cJ K H o u
theorem yS.mono {K:yL} {H H':Hp} (g:yJ K H H') {κ:Type}:∀ {l:List (κ×W)} {l':List (κ×V)},yS K H l l'->yS K H' l l'
 | [],_,h=>h
 |_::_,_,⟨v,t,e,h,r⟩=>⟨v,t,e,h.mono g,yS.mono g r⟩
theorem cJ.mono {K:yL} {H H':Hp} (g:yJ K H H'):∀ {o:O} {u:HO},cJ K H o u->cJ K H' o u
 | .lst _,_,⟨vs,e,r⟩=>⟨vs,e,r.mono g⟩
 | .fix _,_,⟨vs,ob,e,r⟩=>⟨vs,ob,e,r.mono g⟩
 | .dic _,_,⟨l,e,r⟩=>⟨l,e,r.mono g⟩
 | .ins _ _,_,⟨dx,l,e,r⟩=>⟨dx,l,e,r.mono g⟩
 | .fzd _,_,⟨ob,l,e,r⟩=>⟨ob,l,e,r.mono g⟩
theorem cJ.notX {K:yL} {H:Hp}:∀ {o:O} {u:HO},isFz o=false->cJ K H o u->¬ isX u
 | .lst _,_,_,⟨vs,e,r⟩=>by subst e;exact id
 | .fix _,_,_,⟨vs,ob,e,r⟩=>by rcases e with e|e<;>subst e<;>exact id
 | .dic _,_,_,⟨l,e,r⟩=>by subst e;exact id
 | .ins _ _,_,_,⟨dx,l,e,r⟩=>by subst e;exact id
 | .fzd _,_,m,_=>nomatch m
theorem cJ.notTup {K:yL} {H:Hp}:∀ {o:O} {u:HO},cJ K H o u->(∀ xs,u≠.tup xs)/\∀ ob xs,u≠.frz ob (.tup xs)
 | .lst _,_,⟨vs,e,r⟩=>by subst e;exact ⟨(fun _ z=>nomatch z),(fun _ _ z=>nomatch z)⟩
 | .fix _,_,⟨vs,ob,e,r⟩=>by
  rcases e with e|e<;>subst e
  .exact ⟨(fun _ z=>nomatch z),(fun _ _ z=>nomatch z)⟩
  .exact ⟨(fun _ z=>nomatch z),(fun _ _ z=>nomatch z)⟩
 | .dic _,_,⟨l,e,r⟩=>by subst e;exact ⟨(fun _ z=>nomatch z),(fun _ _ z=>nomatch z)⟩
 | .ins _ _,_,⟨dx,l,e,r⟩=>by subst e;exact ⟨(fun _ z=>nomatch z),(fun _ _ z=>nomatch z)⟩
 | .fzd _,_,⟨ob,l,e,r⟩=>by subst e;exact ⟨(fun _ z=>nomatch z),(fun _ _ z=>nomatch z)⟩
section
variable {K : yL} {H H' : Hp} {G : Hw} {a : Addr}
theorem xR.free (h:xR K H G) (e:H a=none):G a=none:=by
 cases q:G a with
 |none=>rfl
 |some o =>
  obtain ⟨u,e',_⟩:=h a o q;rw [e] at e';cases e'
theorem zbL {u:HO} (h:∀ xs,¬ Rd H a (.tup xs)) (hx:∀ o,isX o->H a≠some o):yJ K H (xI H a u):=⟨fun b xs s=>by
 rcases s with s|s
 .have hb:b≠a:=by rintro rfl;exact h xs s
  left
  rcases s with s|⟨o,s⟩
  .exact .inl (by rw [zB hb];exact s)
  .exact .inr ⟨o,by rw [zB hb];exact s⟩
 .exact .inr s,fun b o i s=>by
 have hb:b≠a:=by rintro rfl;exact hx o i s
 rw [zB hb];exact s⟩
theorem wZ {u:HO} (h:H a=none):yJ K H (xI H a u):=zbL (fun xs s=>by
 rcases s with s|⟨o,s⟩<;>(rw [h] at s;cases s)) (fun o _ s=>by rw [h] at s;cases s)
theorem xR.grow {o:O} {u:HO} (h:xR K H G) (e:G a=some o) (m:isFz o=false:=by rfl):yJ K H (xI H a u):=by
 obtain ⟨u',e',r⟩:=h a o e;refine zbL (fun xs s=>?_) (fun o' i s=>?_)
 .rcases s with s|⟨ob,s⟩
  .rw [e'] at s;cases s;exact r.notTup.1 xs rfl
  .rw [e'] at s;cases s;exact r.notTup.2 ob xs rfl
 .rw [e'] at s;cases s;exact r.notX m i
theorem xR.new {o:O} {u:HO} (h:xR K H G) (e:H a=none) (r:cJ K (xI H a u) o u):xR K (xI H a u) (put G a o):=fun b ob q=>by
 by_cases hb:b=a
 .subst hb;rw [zX] at q;cases q;exact ⟨u,wW,r⟩
 .rw [yK hb] at q;obtain ⟨u',e',r'⟩:=h b ob q;exact ⟨u',by rw [zB hb];exact e',r'.mono (wZ e)⟩
theorem xR.tup {u:HO} (h:xR K H G) (e:H a=none):xR K (xI H a u) G:=fun b ob q=>by
 obtain ⟨u',e',r'⟩:=h b ob q;exact ⟨u',by rw [zB (yN e' e)];exact e',r'.mono (wZ e)⟩
theorem xR.chg {o o':O} {u:HO} (h:xR K H G) (e:G a=some o') (r:cJ K (xI H a u) o u) (m:isFz o'=false:=by rfl):xR K (xI H a u) (put G a o):=fun b ob q=>by
 by_cases hb:b=a
 .subst hb;rw [zX] at q;cases q;exact ⟨u,wW,r⟩
 .rw [yK hb] at q;obtain ⟨u',e',r'⟩:=h b ob q;exact ⟨u',by rw [zB hb];exact e',r'.mono (h.grow e m)⟩
theorem xR.lst {ws:List W} (h:xR K H G) (e:G a=some (.lst ws)):∃ vs,H a=some (.lst vs)/\zF K H ws vs:=by
 obtain ⟨u,e',vs,rfl,r⟩:=h a _ e;exact ⟨vs,e',r⟩
theorem xR.dic {kvs:List (yD×W)} (h:xR K H G) (e:G a=some (.dic kvs)):∃ l,H a=some (.dK l)/\yS K H kvs l:=by
 obtain ⟨u,e',vs,rfl,r⟩:=h a _ e;exact ⟨vs,e',r⟩
theorem xR.ins {C:Addr} {fs:List (Str×W)} (h:xR K H G) (e:G a=some (.ins C fs)):∃ dx l,H a=some (.ins C dx l)/\yS K H fs l:=by
 obtain ⟨u,e',dx,vs,rfl,r⟩:=h a _ e;exact ⟨dx,vs,e',r⟩
end
def yU (G:Hw) (a:Addr):Option (List W):=match G a with
 |some (.lst ws)=>some ws
 |some (.fix ws)=>some ws
 |_=>none
theorem xR.seq {K:yL} {H:Hp} {G:Hw} {a:Addr} {ws:List W} (h:xR K H G) (e:yU G a=some ws):∃ vs,pM K H a vs/\zF K H ws vs:=by
 unfold yU at e
 split at e
 .rename_i q;cases e;obtain ⟨vs,e',r⟩:=h.lst q;exact ⟨vs,.of e',r⟩
 .rename_i q;cases e;obtain ⟨u,e',vs,ob,z,r⟩:=h a _ q;refine ⟨vs,?_,r⟩;rcases z with rfl|rfl
  .exact .inl (.inl e')
  .exact .inl (.inr ⟨_,e'⟩)
 .cases e
abbrev jM:=List (Option W)
def yM (K:yL) (H:Hp) (σ:jM) (τ:L2.St):Prop:=σ.length=τ.length/\∀ (i:Nat) (w:W),σ[i]?=some (some w)->∃ v,τ[i]?=some (some v)/\xN K H w v
theorem yM.mono {K:yL} {H H':Hp} (g:yJ K H H') {σ:jM} {τ:L2.St} (h:yM K H σ τ):yM K H' σ τ :=
 ⟨h.1,fun i w e=>let ⟨v,e',r⟩:=h.2 i w e;⟨v,e',r.mono g⟩⟩
theorem yM.set {K:yL} {H:Hp} {σ:jM} {τ:L2.St} {w:W} {v:V} (h:yM K H σ τ) (r:xN K H w v) (i:Nat):yM K H (σ.set i (some w)) (τ.set i (some v)):=by
 refine ⟨by simp [h.1],fun j w' e=>?_⟩;rw [List.getElem?_set] at e ⊢
 by_cases hj:i=j
 .subst hj;rw [if_pos rfl] at e ⊢
  by_cases hl:i<σ.length
  .rw [if_pos hl] at e;cases e;rw [if_pos (h.1▸hl)];exact ⟨v,rfl,r⟩
  .rw [if_neg hl] at e;cases e
 .rw [if_neg hj] at e ⊢;exact h.2 j w' e
abbrev Q3:=W->Hw->Prop
abbrev E3:=jM->Hw->Q3->Prop
abbrev T3:=jM->Hw->(Bool->Hw->Prop)->Prop
abbrev A3:=jM->Hw->(List W->Hw->Prop)->Prop
structure End3 where
 nx:jM->Hw->Prop
 rt:Q3
 bk:jM->Hw->Prop:=fun _ _=>False
 ct:jM->Hw->Prop:=fun _ _=>False
abbrev S3:=End3->jM->Hw->Prop
section
variable (K : yL)
def yB (t:E3):TE:=fun τ H Q=>∃ σ G,yM K H σ τ/\xR K H G/\t σ G fun w G'=>∀ v H',yJ K H H'->xN K H' w v->xR K H' G'->Q v H'
def qE (t:T3):TT:=fun τ H Q=>∃ σ G,yM K H σ τ/\xR K H G/\t σ G fun b G'=>∀ H',yJ K H H'->xR K H' G'->Q b H'
def rS (t:A3):TA:=fun τ H Q=>∃ σ G,yM K H σ τ/\xR K H G/\t σ G fun ws G'=>∀ vs H',yJ K H H'->zF K H' ws vs->xR K H' G'->Q vs H'
structure Fine (H:Hp) (D3:End3) (D:Ends):Prop where
 nx:∀ σ G τ H',yJ K H H'->yM K H' σ τ->xR K H' G->D3.nx σ G->D.nx τ H'
 bk:∀ σ G τ H',yJ K H H'->yM K H' σ τ->xR K H' G->D3.bk σ G->D.bk τ H'
 ct:∀ σ G τ H',yJ K H H'->yM K H' σ τ->xR K H' G->D3.ct σ G->D.ct τ H'
 rt:∀ w G v H',yJ K H H'->xN K H' w v->xR K H' G->D3.rt w G->D.rt v H'
def lowS (t:S3):TS:=fun D τ H=>∃ σ G D3,yM K H σ τ/\xR K H G/\Fine K H D3 D/\t D3 σ G
end
theorem Fine.grow {K:yL} {H H':Hp} {D3:End3} {D:Ends} (f:Fine K H D3 D) (g:yJ K H H'):Fine K H' D3 D :=
 ⟨fun σ G τ H2 g2=>f.nx σ G τ H2 (g.trans g2),fun σ G τ H2 g2=>f.bk σ G τ H2 (g.trans g2),fun σ G τ H2 g2=>f.ct σ G τ H2 (g.trans g2),fun w G v H2 g2=>f.rt w G v H2 (g.trans g2)⟩
def wA (t:E3):Prop:=∀ σ G (Q Q':Q3),(∀ w G',Q w G'->Q' w G')->t σ G Q->t σ G Q'
def tX (t:T3):Prop:=∀ σ G (Q Q':Bool->Hw->Prop),(∀ w G',Q w G'->Q' w G')->t σ G Q->t σ G Q'
def vA (t:A3):Prop:=∀ σ G (Q Q':List W->Hw->Prop),(∀ w G',Q w G'->Q' w G')->t σ G Q->t σ G Q'
section
variable {K : yL} {H : Hp} {σ : jM} {τ : L2.St} {G : Hw}
theorem yF {t:E3} {R:Q3} {S:VK} (m:wA t) (hs:yM K H σ τ) (ha:xR K H G) (h:t σ G R)
  (k:∀ w G1 v H1,yJ K H H1->yM K H1 σ τ->xN K H1 w v->xR K H1 G1->R w G1->S v H1):yB K t τ H S :=
 ⟨σ,G,hs,ha,m σ G _ _ (fun w G' r v H' g rp ab=>k w G' v H' g (hs.mono g) rp ab r) h⟩
theorem dM {t:T3} {R:Bool->Hw->Prop} {S:Bool->Hp->Prop} (m:tX t) (hs:yM K H σ τ) (ha:xR K H G) (h:t σ G R)
  (k:∀ b G1 H1,yJ K H H1->yM K H1 σ τ->xR K H1 G1->R b G1->S b H1):qE K t τ H S :=
 ⟨σ,G,hs,ha,m σ G _ _ (fun w G' r H' g ab=>k w G' H' g (hs.mono g) ab r) h⟩
theorem nX {t:A3} {R:List W->Hw->Prop} {S:List V->Hp->Prop} (m:vA t) (hs:yM K H σ τ) (ha:xR K H G) (h:t σ G R)
  (k:∀ w G1 v H1,yJ K H H1->yM K H1 σ τ->zF K H1 w v->xR K H1 G1->R w G1->S v H1):rS K t τ H S :=
 ⟨σ,G,hs,ha,m σ G _ _ (fun w G' r v H' g rp ab=>k w G' v H' g (hs.mono g) rp ab r) h⟩
end
end L3
namespace L2
section
variable {X : Cx} {e : PySem.Expr} {st : PySem.Stmt} {sts : List PySem.Stmt}
theorem PE.imp {t t':TE} (h:PE X e t) (k:∀ σ H Q,t' σ H Q->t σ H Q):PE X e t':=fun pins s σ H Q I q=>h pins s σ H Q I (k σ H Q q)
theorem PT.imp {t t':TT} (h:PT X e t) (k:∀ σ H Q,t' σ H Q->t σ H Q):PT X e t':=fun pins s σ H Q I q=>h pins s σ H Q I (k σ H Q q)
theorem PW.imp {t t':TT} (h:PW X e t) (k:∀ σ H Q,t' σ H Q->t σ H Q):PW X e t':=fun wh pins s σ H Q I q=>h wh pins s σ H Q I (k σ H Q q)
theorem PA.imp {es:List PySem.Expr} {t t':TA} (h:PA X es t) (k:∀ σ H Q,t' σ H Q->t σ H Q):PA X es t':=fun pos pins s σ H Q I q=>h pos pins s σ H Q I (k σ H Q q)
theorem PS.imp {t t':TS} (h:PS X st t) (k:∀ D σ H,t' D σ H->t D σ H):PS X st t':=fun pins s σ H D I q=>h pins s σ H D I (k D σ H q)
theorem PSs.imp {t t':TS} (h:PSs X sts t) (k:∀ D σ H,t' D σ H->t D σ H):PSs X sts t':=fun pins s σ H D I q=>h pins s σ H D I (k D σ H q)
end
end L2
set_option genInjectivity false
set_option genSizeOfSpec false
namespace L2
open PySem PySem.Spec PyProof.Rows PySem.Calls
def clo (env:Env):List (Str×NameKind)->List (Str×Addr)->List (Str×Addr)
 | [],acc=>acc
 | (n,k)::r,acc=>if (k==NameKind.free)=true then clo env r ((n,(env.cells.lookup n).getD 0)::acc) else clo env r acc
theorem za2 (env:Env):∀ (l:List (Str×NameKind)) (acc:List (Str×Addr)) {x:Str} {c:Addr},(clo env l acc).lookup x=some c ->
  ((∃ k,(x,k)∈l/\k=.free)/\c=(env.cells.lookup x).getD 0)\/acc.lookup x=some c
 | [],acc,x,c,h=>.inr h
 | (n,k)::r,acc,x,c,h=>by
  unfold clo at h
  by_cases hk:(k==NameKind.free)=true
  .rw [if_pos hk] at h;rcases za2 env r _ h with ⟨⟨k',m,e⟩,q⟩|h
   .exact .inl ⟨⟨k',List.mem_cons_of_mem _ m,e⟩,q⟩
   .rw [List.lookup_cons] at h
    by_cases hx:(x==n)=true
    .rw [hx] at h;have e:x=n:=eq_of_beq hx;subst e;exact .inl ⟨⟨k,zzT,eq_of_beq hk⟩,(Option.some.inj h).symm⟩
    .rw [Bool.not_eq_true] at hx;rw [hx] at h;exact .inr h
  .rw [if_neg hk] at h;rcases za2 env r _ h with ⟨⟨k',m,e⟩,q⟩|h
   .exact .inl ⟨⟨k',List.mem_cons_of_mem _ m,e⟩,q⟩
   .exact .inr h
theorem za4 (env:Env):∀ (l:List (Str×NameKind)) (acc:List (Str×Addr)) {x:Str},(∃ c,acc.lookup x=some c)->∃ c,(clo env l acc).lookup x=some c
 | [],acc,x,h=>h
 | (n,k)::r,acc,x,h=>by
  unfold clo
  split
  .refine za4 env r _ ?_;rw [List.lookup_cons];cases x==n
   .exact h
   .exact ⟨_,rfl⟩
  .exact za4 env r _ h
theorem za3 (env:Env):∀ (l:List (Str×NameKind)) (acc:List (Str×Addr)) {x:Str},(x,NameKind.free)∈l->∃ c,(clo env l acc).lookup x=some c
 | (n,k)::r,acc,x,h=>by
  unfold clo;rcases List.mem_cons.mp h with h|h
  .cases h;rw [if_pos (by decide)];refine za4 env r _ ?_;rw [List.lookup_cons,beq_self_eq_true];exact ⟨_,rfl⟩
  .split
   .exact za3 env r _ h
   .exact za3 env r _ h
theorem dQ {env:Env} {scope:Scope} (h:∀ x,(x,NameKind.free)∈scope.names->∃ c,env.cells.lookup x=some c):closureFor scope env=pure (clo env scope.names []):=by
 simp only [closureFor]
 have key:∀ (l:List (Str×NameKind)) (acc:List (Str×Addr)),(∀ x,(x,NameKind.free)∈l->∃ c,env.cells.lookup x=some c) ->
   (forIn l acc fun x r=>match x with|(name,kind)=>if (kind==NameKind.free)=true then (do let a ← cellOf env name;pure (ForInStep.yield ((name,a)::r))) else pure (ForInStep.yield r):Sem (List (Str×Addr)))=pure (clo env l acc):=by
  intro l
  induction l with
  |nil=>intro acc _;rfl
  |cons p r ih =>
   intro acc hh;obtain ⟨n,k⟩:=p;rw [List.forIn_cons]
   by_cases hk:(k==NameKind.free)=true
   .have ek:k=.free:=eq_of_beq hk;obtain ⟨c,hc⟩:=hh n (by rw [ek];exact zzT);simp only [hk,if_true];have e1:cellOf env n=pure c:=by unfold cellOf;rw [hc]
    rw [e1];simp only [pure_bind];rw [ih _ fun x hx=>hh x (List.mem_cons_of_mem _ hx)]
    conv=>rhs;unfold clo
    rw [if_pos hk,hc]
    all_goals rfl
   .simp only [hk];rw [if_neg (by simp)];simp only [pure_bind];rw [ih _ fun x hx=>hh x (List.mem_cons_of_mem _ hx)]
    conv=>rhs;unfold clo
    rw [if_neg hk]
 have:=key scope.names [] h;simpa using this
theorem wP {env:Env}:∀ {names:List (Str×NameKind)} {x:Str} {k':NameKind},
  (names.map fun (n,k)=>if (k==NameKind.free&&env.scope.kind==.function&&env.kindOf n==some .cell) then (n,NameKind.cell) else (n,k)).lookup x=some k' ->
  ∃ k,names.lookup x=some k/\(k'=k\/(k=.free/\k'=.cell))
 | [],_,_,h=>by simp at h
 | (n,k)::r,x,k',h=>by
  rw [zzU] at h
  by_cases hc:(k==NameKind.free&&env.scope.kind==.function&&env.kindOf n==some .cell)=true
  .simp only [hc,if_true] at h;rw [List.lookup_cons] at h ⊢
   cases hx:x==n with
   |true =>
    rw [hx] at h;cases h;simp only [Bool.and_eq_true,beq_iff_eq] at hc;exact ⟨k,rfl,.inr ⟨hc.1.1,rfl⟩⟩
   |false=>rw [hx] at h;exact wP h
  .simp only [hc,if_false] at h;rw [if_neg (by simp)] at h;rw [List.lookup_cons] at h ⊢
   cases hx:x==n with
   |true=>rw [hx] at h;cases h;exact ⟨k,rfl,.inl rfl⟩
   |false=>rw [hx] at h;exact wP h
theorem qH {α:Type}:∀ {l:List (Str×α)} {x:Str} {v:α},l.lookup x=some v->(x,v)∈l
 | (n,k)::r,x,v,h=>by
  rw [List.lookup_cons] at h
  cases hx:x==n with
  |true=>rw [hx] at h;cases h;rw [eq_of_beq hx];exact zzT
  |false=>rw [hx] at h;exact List.mem_cons_of_mem _ (qH h)
theorem za5:∀ (l:List (Str×NameKind)) (n:Nat) (acc:List (Str×Addr)) {x:Str} {c:Addr},(cellsFrom n l acc).lookup x=some c->acc.lookup x=some c\/((x,NameKind.cell)∈l/\n<=c)
 | [],n,acc,x,c,h=>.inl h
 | (y,k)::r,n,acc,x,c,h=>by
  unfold cellsFrom at h
  split at h
  .rename_i hk;rcases za5 r _ _ h with h|⟨h,q⟩
   .rw [List.lookup_cons] at h
    by_cases hx:(x==y)=true
    .rw [hx] at h;cases eq_of_beq hx;cases eq_of_beq hk;exact .inr ⟨zzT,Nat.le_of_eq (Option.some.inj h)⟩
    .rw [Bool.not_eq_true] at hx;rw [hx] at h;exact .inl h
   .exact .inr ⟨List.mem_cons_of_mem _ h,Nat.le_of_succ_le q⟩
  .rcases za5 r _ _ h with h|⟨h,q⟩
   .exact .inl h
   .exact .inr ⟨List.mem_cons_of_mem _ h,q⟩
theorem zbW:∀ (l:List (Str×NameKind)) (n:Nat) (acc:List (Str×Addr)) {x:Str},(∃ c,acc.lookup x=some c)->∃ c,(cellsFrom n l acc).lookup x=some c
 | [],n,acc,x,h=>h
 | (y,k)::r,n,acc,x,h=>by
  unfold cellsFrom
  split
  .refine zbW r _ _ ?_;rw [List.lookup_cons];cases x==y
   .exact h
   .exact ⟨_,rfl⟩
  .exact zbW r _ _ h
theorem zeb:∀ (l:List (Str×NameKind)) (n:Nat) (acc:List (Str×Addr)) {x:Str},(x,NameKind.cell)∈l->∃ c,(cellsFrom n l acc).lookup x=some c
 | (y,k)::r,n,acc,x,h=>by
  unfold cellsFrom;rcases List.mem_cons.mp h with h|h
  .cases h;rw [if_pos (by decide)];refine zbW r _ _ ?_;rw [List.lookup_cons,beq_self_eq_true];exact ⟨_,rfl⟩
  .split
   .exact zeb r _ _ h
   .exact zeb r _ _ h
def Inj (n:Nat) (l:List (Str×Addr)):Prop:=(∀ x c,l.lookup x=some c->c<n)/\∀ x y c,l.lookup x=some c->l.lookup y=some c->x=y
theorem zea:∀ (l:List (Str×NameKind)) (n:Nat) (acc:List (Str×Addr)),Inj n acc->∀ x y c,(cellsFrom n l acc).lookup x=some c->(cellsFrom n l acc).lookup y=some c->x=y
 | [],n,acc,h=>h.2
 | (z,k)::r,n,acc,h=>by
  unfold cellsFrom
  split
  .refine zea r (n+1) ((z,n)::acc) ⟨fun x c e=>?_,fun x y c e e'=>?_⟩
   .rw [List.lookup_cons] at e
    cases hx:x==z with
    |true=>rw [hx] at e;cases e;exact Nat.lt_succ_self _
    |false=>rw [hx] at e;exact Nat.lt_succ_of_lt (h.1 x c e)
   .rw [List.lookup_cons] at e e'
    cases hx:x==z with
    |true =>
     rw [hx] at e;cases e
     cases hy:y==z with
     |true=>rw [eq_of_beq hx,eq_of_beq hy]
     |false=>rw [hy] at e';exact absurd (h.1 y _ e') (Nat.lt_irrefl _)
    |false =>
     rw [hx] at e
     cases hy:y==z with
     |true=>rw [hy] at e';cases e';exact absurd (h.1 x _ e) (Nat.lt_irrefl _)
     |false=>rw [hy] at e';exact h.2 x y c e e'
  .exact zea r n acc h
theorem za6:∀ (l:List (Str×NameKind)) (h:Heap) (acc:List (Str×Addr)),(∀ x c,acc.lookup x=some c->∃ v,h.IsCell c v)->∀ x c,(cellsFrom h.objs.size l acc).lookup x=some c->∃ v,(pushCells h l).IsCell c v
 | [],h,acc,k=>k
 | (z,q)::r,h,acc,k=>by
  unfold cellsFrom pushCells
  split
  .have:=za6 r (h.push { cls:=.type "cell", data:=.cell none }) ((z,h.objs.size)::acc) (fun x c e=>by
    rw [List.lookup_cons] at e
    cases hx:x==z with
    |true=>rw [hx] at e;cases e;exact ⟨_,_,Heap.get?_push_size _ rfl,rfl⟩
    |false =>
     rw [hx] at e;obtain ⟨v,o,ho,hd⟩:=k x c e;exact ⟨v,o,Heap.get?_push_of_some _ ho,hd⟩)
   rw [Heap.size_push] at this;exact this
  .exact za6 r h acc k
theorem nfe {M:Model} {A:Around} {E:Value->Shared->Prop} {s:Shared} {sc:Scope} {gl:Addr} {cl:List (Str×Addr)} {qual:Str} {env:Env} {Q:Env->Shared->Prop}
  (hQ:∀ h',h'=pushCells (s.heap.push { cls:=.type "dict", data:=.dict #[] }) sc.names->h'.Ns s.heap.objs.size (fun _=>none)->(∀ b o,s.heap.get? b=some o->h'.get? b=some o) ->
   Q { scope:=sc,locals:=s.heap.objs.size,globals:=gl,cells:=cellsFrom (s.heap.objs.size+1) sc.names cl,qual:=qual,func:=none,code:=env.code,frame:=env.frame,builtins:=env.builtins } { s with heap:=h' }) :
  wpAny M A (newFunctionEnv sc gl cl [] qual none .none (some env)) Q E s:=by
 simp only [newFunctionEnv,Option.isSome_some,if_true];refine wpAny_bind (wpAny_alloc (wpAny_bind (wpAny_layCells _ (fun name kind cells=>by cases hkc:kind==NameKind.cell<;>simp [hkc]) _ _ _ _ ?_)));rw [show ({ s with heap:=s.heap.push { cls:=.type "dict", data:=.dict #[] } }:Shared).heap.objs.size=s.heap.objs.size+1 from Heap.size_push ..];rw [List.forIn_nil];refine wpAny_bind (wpAny_pure (wpAny_pure (hQ _ rfl ((Heap.Ns.new s.heap (.type "dict")).keeps (pushCells_keeps _ _)) fun b o e=>pushCells_keeps _ _ b o (Heap.get?_push_of_some _ e))))
end L2
namespace L2
open PySem PySem.Spec PyProof.Rows PySem.Calls
theorem zap (elt target iter:Expr) (ifs:List Expr) (scope:Scope) (pos:Pos) (it acc:Value) (env:Env) :
  compTurn (.ListComp elt [⟨target,iter,ifs,0⟩] scope pos) 0 it acc env=(do
   standAt iter.pos
   match ← pyNext it with
   |none=>pure (.done .next)
   |some v =>
    letOwnedTupleGo target it v
    assign target env v
    let mut ok:=true
    for c in ifs do
     if ok then ok ← isTrue c env (eval c env)
    if ok then
     (do let _ ← call (.builtin "list.append") [acc,← eval elt env])
    again (.compLoop (.ListComp elt [⟨target,iter,ifs,0⟩] scope pos) 0 it acc env)):=by rfl
section
variable {prog : Program} {w : World} {A : Around} {R : Result → Shared → Prop} {s : Shared}
theorem zaq {elt target iter:Expr} {ifs:List Expr} {scope:Scope} {pos:Pos} {it acc:Value} {env:Env} (I:Nat->Shared->Prop)
  (turn:∀ n s,I n s->wpAny (model prog w) A (pyNext it) (fun r s₁=>match r with
   |none=>R (.ok .next) s₁
   |some v=>wpAny (model prog w) A (letOwnedTupleGo target it v) (fun _ s₁=>wpAny (model prog w) A (assign target env v) (fun _ s₂ =>
     wpAny (model prog w) A (forIn ifs true fun c r=>if r=true then do let ok ← isTrue c env (eval c env);pure (ForInStep.yield ok) else pure (ForInStep.yield r)) (fun ok s₃ =>
      if ok=true then wpAny (model prog w) A (eval elt env) (fun x s₄ =>
       wpAny (model prog w) A (call (.builtin "list.append") [acc,x]) (fun _ s₅=>∃ m,m<n/\I m s₅) (fun _ _=>False) s₄) (fun _ _=>False) s₃
      else ∃ m,m<n/\I m s₃) (fun _ _=>False) s₂) (fun _ _=>False) s₁) (fun _ _=>False) s₁) (fun _ _=>False) s)
  (n:Nat) (h:I n s) :
  codeAny (model prog w) A (.compLoop (.ListComp elt [⟨target,iter,ifs,0⟩] scope pos) 0 it acc env) R s:=by
 refine codeAny_loop rfl I (fun n s hI=>?_) n h;show wpAny _ A ((compTurn (.ListComp elt [⟨target,iter,ifs,0⟩] scope pos) 0 it acc env).onRaise (fun x=>do noteFrame x env;theTreesLotGoes x)) _ _ s;refine wpAny_noted ?_;rw [zap];refine wpAny_bind (wpAny_standAt (wpAny_bind (wpAny_mono (turn n s hI) (fun r s₁ h₁=>?_) fun _ _ h'=>h'.elim)))
 cases r with
 |none=>exact wpAny_pure h₁
 |some v =>
  refine wpAny_bind (wpAny_mono h₁ (fun _ s₁ h₁=>?_) fun _ _ h'=>h'.elim);refine wpAny_bind (wpAny_mono h₁ (fun _ s₂ h₂=>wpAny_bind (wpAny_mono h₂ (fun ok s₃ h₃=>?_) fun _ _ h'=>h'.elim)) fun _ _ h'=>h'.elim)
  cases ok with
  |false=>exact wpAny_pure ⟨rfl,h₃⟩
  |true =>
   exact wpAny_bind (wpAny_bind (wpAny_mono h₃ (fun x s₄ h₄=>wpAny_bind (wpAny_mono h₄ (fun _ s₅ h₅=>wpAny_pure (wpAny_pure ⟨rfl,h₅⟩)) fun _ _ h'=>h'.elim)) fun _ _ h'=>h'.elim))
end
structure IsBlock (X:Cx) (N:List Str) (sc:Scope) (X':Cx):Prop where
 prog:X'.prog=X.prog
 w:X'.w=X.w
 K:X'.K=X.K
 mg:X'.mg=X.mg
 base:X'.base=X.base
 A:X'.A=X.A
 calm:X'.calm=X.calm
 N:X'.N=N
 scope:X'.env.scope=relabel sc X.env
 xe:X'.xe=fun _ _=>False
 fn:∀ x,sc.names.lookup x=some .cell->X'.fn x=true
def ocl (X:Cx) (sc:Scope) (C:Addr):List (Str×Addr):=cellsFrom (C+1) sc.names (clo X.env sc.names [])
def vG (X:Cx) (N:List Str) (sc:Scope) (C:Addr) (s2:Shared) (H2:Hp) (fp:List Addr) (pins:List (Addr×Obj)):Cx where
 prog:=X.prog
 w:=X.w
 K:=X.K
 mg:=X.mg
 base:=X.base
 A:=X.A
 N:=N
 s₀:=s2
 H₀:=H2
 env:=compEnvC sc (ocl X sc C) C X.env
 outer:=X.stack
 stack:=X.stack
 ex:=fp
 fn:=fun x=>sc.names.lookup x==some .cell
 calm:=X.calm
 pn:=X.pn++pins
 xe:=fun _ _=>False
theorem zcs (X:Cx) (N:List Str) (sc:Scope) (C:Addr) (s2:Shared) (H2:Hp) (fp:List Addr) (pins:List (Addr×Obj)):IsBlock X N sc (vG X N sc C s2 H2 fp pins) :=
 ⟨rfl,rfl,rfl,rfl,rfl,rfl,rfl,rfl,rfl,rfl,fun x h=>by show (sc.names.lookup x==some .cell)=true;rw [h];rfl⟩
structure BlkSc (X:Cx) (sc:Scope):Prop where
 kind:sc.kind=.function
 cells:∀ x,(x,NameKind.cell)∈sc.names->sc.names.lookup x=some .cell
 frees:∀ x,(x,NameKind.free)∈sc.names->sc.names.lookup x=some .free
 free:∀ x,(x,NameKind.free)∈sc.names->X.env.kindOf x=some .cell\/X.env.kindOf x=some .free
 names:∀ y∈sc.names,y.2=.local->sc.names.lookup y.1=some .local
section
variable {X : Cx} {pins : List (Addr × Obj)} {σ : St} {H2 : Hp} {s2 : Shared} {sc : Scope} {N : List Str} {C : Addr} {fp : List Addr}
theorem uC (ok:X.Ok) (B:BlkSc X sc) {x:Str} {c:Addr} (h:(clo X.env sc.names []).lookup x=some c):X.env.cells.lookup x=some c/\sc.names.lookup x=some .free:=by
 rcases za2 _ _ _ h with ⟨⟨k,m,e⟩,q⟩|h
 .subst e;have hf:=B.free x m;obtain ⟨c',hc'⟩:=ok.has x hf;rw [hc'] at q;exact ⟨by rw [hc',q];rfl,B.frees x m⟩
 .simp at h
theorem uL (ok:X.Ok) (B:BlkSc X sc) {x:Str} {c:Addr} (h:(ocl X sc C).lookup x=some c):(X.env.cells.lookup x=some c/\sc.names.lookup x=some .free)\/(sc.names.lookup x=some .cell/\C<c):=by
 rcases za5 _ _ _ h with h|⟨h,q⟩
 .exact .inl (uC ok B h)
 .exact .inr ⟨B.cells x h,q⟩
theorem B_has (B:BlkSc X sc) {x:Str} (h:(relabel sc X.env).names.lookup x=some .cell\/(relabel sc X.env).names.lookup x=some .free):(x,NameKind.free)∈sc.names\/(x,NameKind.cell)∈sc.names:=by
 rcases h with h|h
 .obtain ⟨k,hk,e⟩:=wP h;rcases e with e|⟨e,_⟩
  .subst e;exact .inr (qH hk)
  .subst e;exact .inl (qH hk)
 .obtain ⟨k,hk,e⟩:=wP h;rcases e with e|⟨e,z⟩
  .subst e;exact .inl (qH hk)
  .cases z
theorem zdj {x:Str} (h:(x,NameKind.free)∈sc.names\/(x,NameKind.cell)∈sc.names):∃ c,(ocl X sc C).lookup x=some c:=by
 rcases h with h|h
 .exact zbW _ _ _ (za3 _ _ _ h)
 .exact zeb _ _ _ h
theorem zec (I2:Inv X pins σ H2 s2) {x:Str} {c:Addr} (h:X.env.cells.lookup x=some c):c<s2.heap.objs.size:=by
 obtain ⟨v,o,e,_⟩:=I2.cell x c h;exact Heap.lt_size e
theorem dN (I2:Inv X pins σ H2 s2) (B:BlkSc X sc) (f2:∀ b∈fp,vD X pins H2 b) (hfp:∀ b∈fp,b<s2.heap.objs.size) (hC:s2.heap.objs.size<=C):(vG X N sc C s2 H2 fp pins).Ok where
 mod:=I2.ok.mod
 kind:=B.kind
 glob:=I2.ok.glob
 blt:=I2.ok.blt
 above:=hC
 inj:=zea _ _ _ ⟨fun x c h=>Nat.lt_succ_of_lt (Nat.lt_of_lt_of_le (zec I2 (uC I2.ok B h).1) hC),fun x y c hx hy=>I2.ok.inj x y c (uC I2.ok B hx).1 (uC I2.ok B hy).1⟩
 has:=fun x h=>zdj (B_has B h)
 cab:=fun x c h e=>by
  rcases uL I2.ok B e with ⟨_,q⟩|⟨_,q⟩
  .have h:(sc.names.lookup x==some .cell)=true:=h;rw [q] at h;cases h
  .exact Nat.le_trans hC (Nat.le_of_lt q)
 hd:=I2.ok.hd
 frames:=I2.ok.frames
 stk:=.inl rfl
 exf:=fun b hb=>⟨Nat.ne_of_lt (Nat.lt_of_lt_of_le (hfp b hb) hC),fun x c h=>by
  rcases uL I2.ok B h with ⟨q,_⟩|⟨_,q⟩
  .exact (f2 b hb).2.2.2.2.1 x c q
  .exact Nat.ne_of_gt (Nat.lt_trans (Nat.lt_of_lt_of_le (hfp b hb) hC) q)⟩
 bs:=I2.bs
 bsz:=Nat.le_trans I2.ok.bsz I2.sz
 noex:=fun b o e hb=>by
  rcases (f2 b hb).2.2.2.1 with h|h
  .exact I2.ok.noex b o e h
  .exact absurd (Nat.lt_of_lt_of_le (Heap.lt_size e) (Nat.le_trans I2.ok.bsz h)) (Nat.lt_irrefl _)
 exfs:=fun b hb hm=>by
  rcases List.mem_cons.mp (I2.stkSub b hm) with h|h
  .exact (f2 b hb).2.1 h
  .exact (f2 b hb).2.2.1 h
 funs:=I2.stack
 frf:=I2.stkFree
theorem zef {s4:Shared} {τ:St} {m:Str->Option Value} (I2:Inv X pins σ H2 s2) (B:BlkSc X sc) (f2:∀ b∈fp,vD X pins H2 b) (hfp:∀ b∈fp,b<s2.heap.objs.size) (hC:s2.heap.objs.size<=C)
  (ho:s4.os=s2.os) (hg:s4.gens=s2.gens) (keep:∀ b o,s2.heap.get? b=some o->s4.heap.get? b=some o) (hcs:∀ x c,(ocl X sc C).lookup x=some c->∃ v,s4.heap.IsCell c v) (hns:s4.heap.Ns C m) (hl:τ.length=N.length)
  (cap:∀ (i:Nat) (x:Str) (v:V),N[i]?=some x->τ[i]?=some (some v)->Vis (relabel sc X.env) x->sc.names.lookup x=some .free/\∃ j:Nat,X.N[j]?=some x/\σ[j]?=some (some v)) (h4:0<s4.toks) :
  Inv (vG X N sc C s2 H2 fp pins) [] τ H2 s4:=by
 refine ⟨dN I2 B f2 hfp hC,ho,by rw [hg];exact I2.bare,Un.kept keep,⟨m,hns,fun i x v hN hτ hv=>?_⟩,hcs,I2.hok.fresh hC,fun x c h=>?_,fun p hp=>?_,I2.hok.kept keep,hl,h4⟩
 .obtain ⟨hnl,j,hj,hσ⟩:=cap i x v hN hτ hv;have hmem:=qH hnl;have hf:=B.free x hmem
  have hkind:(relabel sc X.env).names.lookup x=some .cell\/(relabel sc X.env).names.lookup x=some .free:=by
   rcases hv with h|h|h
   .obtain ⟨k,hk,e⟩:=wP h;rw [hnl] at hk;cases hk;rcases e with e|⟨_,e⟩<;>cases e
   .exact .inl h
   .exact .inr h
  obtain ⟨m0,_,hl0⟩:=I2.loc;obtain ⟨u,r,lk⟩:=hl0 j x v hj hσ (hf.elim (fun h=>.inr (.inl h)) fun h=>.inr (.inr h));refine ⟨u,r,.inr ⟨hkind,?_⟩⟩;rcases lk with ⟨hk,_⟩|⟨_,c,hc,hcell⟩
  .rw [hk] at hf;rcases hf with hf|hf<;>cases hf
  .obtain ⟨c',hc'⟩:=zdj (X:=X) (C:=C) (.inl hmem);rcases uL I2.ok B hc' with ⟨e,_⟩|⟨e,_⟩
   .rw [hc] at e;cases e;refine ⟨c,hc',?_⟩;obtain ⟨o,e1,r1⟩:=hcell;exact ⟨o,keep _ _ e1,r1⟩
   .rw [hnl] at e;cases e
 .rcases uL I2.ok B h with ⟨e,_⟩|⟨_,e⟩
  .exact I2.freeC x c e
  .exact I2.hok.fresh (Nat.le_trans hC (Nat.le_of_lt e))
 .have hp':p∈X.pn++pins:=by simpa [vG] using hp
  obtain ⟨q1,q2,q3,q4,q5⟩:=I2.pin p hp';refine ⟨keep _ _ q1,q2,Nat.ne_of_lt (Nat.lt_of_lt_of_le (Heap.lt_size q1) hC),fun z=>?_,q5⟩;rcases List.mem_cons.mp (I2.stkSub _ z) with h|h
  .exact q3 h
  .exact q4 h
end
theorem tL.adopt {P:Program} {w:World} {H:Hp} {h h':Heap} {a:Addr} {o:HO} (x:tL P w H h) (k:∀ b u v,H b=some v->h.get? b=some u->h'.get? b=some u) (hn:H a=none) (new:xU P w (xI H a o) h' a o):tL P w (xI H a o) h':=fun b u e=>by
 by_cases hb:b=a
 .subst hb;rw [wW] at e;cases e;exact new
 .rw [zB hb] at e;refine (x b u e).stay (fun c v hc q=>?_) (fun c q=>by rw [zB (yN q hn)];exact q) fun c xs q=>by rw [zB (yN q hn)];exact q
  rcases hc with rfl|hc
  .exact k _ _ _ e q
  .exact k _ _ _ hc q
end L2
namespace L2
open PySem PySem.Spec PyProof.Rows PySem.Calls
def PTs (X:Cx) (ifs:List Expr) (t:TT):Prop :=
 ∀ (pins:List (Addr×Obj)) (s:Shared) (σ:St) (H:Hp) (Q:Bool->Hp->Prop),Inv X pins σ H s->t σ H Q ->
  wpAny (model X.prog X.w) X.A (forIn ifs true fun c r=>if r=true then do let ok ← isTrue c X.env (eval c X.env);pure (ForInStep.yield ok) else pure (ForInStep.yield r)) (TP X pins σ Q) X.xe s
theorem zhb {X:Cx}:PTs X [] (fun _ H Q=>Q true H):=fun _ _ _ H _ I h=>wpAny_tests_nil ⟨H,I,h⟩
theorem zha {X:Cx} {c:Expr} {t:TT} (h:PT X c t):PTs X [c] t:=fun pins s σ H Q I q=>wpAny_tests_one (h pins s σ H Q I q)
def tLCb (J:It) (τ:St) (g:TG) (tc:TT) (te:TE) (Qf:List V->Hp->Prop) (H1:Hp):Prop :=
 ∃ Pv:Nat->Nat->St->List V->Hp->Prop,(∃ m,Pv 0 m τ [] H1)/\∀ i m τ acc H,Pv i m τ acc H ->
  (J.stop i H/\Qf acc H) \/
  (J.go i H/\acc.length<sizeLine/\∀ x H',J.yld i H x H'->g x τ H' fun σ2 H2=>tc σ2 H2 fun b H3=>if b=true then te σ2 H3 fun v H4=>∃ m',m' < m/\Pv (i+1) m' σ2 (acc++[v]) H4 else ∃ m',m' < m/\Pv (i+1) m' σ2 acc H3)
structure Off (X:Cx) (pins:List (Addr×Obj)) (C:Addr):Prop where
 ne:C≠X.env.locals
 ge:X.s₀.heap.objs.size<=C
 cl:∀ x c,X.env.cells.lookup x=some c->c≠C
 pn:∀ p∈X.pn++pins,p.1≠C
theorem Off.turned {X:Cx} {pins:List (Addr×Obj)} {C:Addr} {σ:St} {H:Hp} {s:Shared} {h':Heap} (o:Off X pins C) (I:Inv X pins σ H s) (hn:H C=none) (k:Heap.SameBut C s.heap h'):Inv X pins σ H { s with heap:=h' } :=
 I.turned (t':=s.toks) (fun b u hb e=>k.extBut b u hb e) hn o.ne (.inr o.ge) o.cl o.pn
theorem Inv.off {X:Cx} {pins:List (Addr×Obj)} {σ:St} {H:Hp} {s:Shared} {C:Addr} (I:Inv X pins σ H s) (hC:s.heap.objs.size<=C):Off X pins C :=
 ⟨(Nat.ne_of_lt (Nat.lt_of_lt_of_le I.lt hC)).symm,Nat.le_trans I.sz hC,fun x c h=>by
  obtain ⟨v,o,e,_⟩:=I.cell x c h;exact Nat.ne_of_lt (Nat.lt_of_lt_of_le (Heap.lt_size e) hC),fun p hp=>Nat.ne_of_lt (Nat.lt_of_lt_of_le (Heap.lt_size (I.pin p hp).1) hC)⟩
abbrev vL (its:List Value) (n:Nat):Obj:={ cls:=.type "list", data:=.seq its.toArray n }
set_option maxHeartbeats 8000000 in
theorem zdu {X:Cx} {pins:List (Addr×Obj)} {σ τ:St} {H2:Hp} {s2:Shared} {sc:Scope} {N:List Str} {fp:List Addr} {it:Addr} {tn:Nat->Heap->Prop} {J:It} {tg iter elt:Expr} {ifs:List Expr} {pos:Pos} {g:TG} {tc:TT} {te:TE}
  {Qf:List V->Hp->Prop} {RR:Value->Addr->Result->Shared->Prop} {E:Value->Shared->Prop}
  (hc:X.calm=true) (I2:Inv X pins σ H2 s2) (T:Turn X.prog X.w X.K tg J fp it tn) (t0:tn 0 s2.heap) (f2:∀ b∈fp,vD X pins H2 b) (B:BlkSc X sc) (hl:τ.length=N.length)
  (cap:∀ (i:Nat) (x:Str) (v:V),N[i]?=some x->τ[i]?=some (some v)->Vis (relabel sc X.env) x->sc.names.lookup x=some .free/\∃ j:Nat,X.N[j]?=some x/\σ[j]?=some (some v))
  (hg:∀ X',IsBlock X N sc X'->PG X' tg g) (ht:∀ X',IsBlock X N sc X'->PTs X' ifs tc) (he:∀ X',IsBlock X N sc X'->PE X' elt te)
  (h:tLCb J τ g tc te Qf H2)
  (fin:∀ (D C:Addr) (acc:List V) (H':Hp) (s':Shared) (m:Str->Option Value),D≠C->H' D=none->H' C=none->Off X pins C->Inv X pins σ (xI H' D (.lst acc)) s'->s'.heap.Ns C m->Qf acc H'->RR (.ref D) C (.ok .next) s') :
  wpAny (model X.prog X.w) X.A (newList []) (fun acc s₃=>wpAny (model X.prog X.w) X.A (newFunctionEnv sc X.env.globals (clo X.env sc.names []) [] X.env.qual none .none (some X.env)) (fun cenv s₄ =>
   codeAny (model X.prog X.w) X.A (.compStart (.ListComp elt [⟨tg,iter,ifs,0⟩] sc pos) 0 (.ref it) acc { cenv with scope:=relabel sc X.env }) (RR acc cenv.locals) s₄) E s₃) E s2:=by
 refine wpAny_newObj_type (nfe fun h₁ heq hns₁ hk₁=>?_);dsimp only at heq hns₁ hk₁ ⊢;generalize hH2:s2.heap.push { cls:=.type "list", dict:=none,data:=.seq ([]:List Value).toArray }=G2 at heq hns₁ hk₁ ⊢
 have hcs:∀ x c,(ocl X sc G2.objs.size).lookup x=some c->∃ v,h₁.IsCell c v:=fun x c e=>by
  rw [heq];refine za6 sc.names (G2.push { cls:=.type "dict", data:=.dict #[] }) (clo X.env sc.names []) (fun y d q=>?_) x c (by rw [Heap.size_push];exact e);obtain ⟨v,o,ho,hd⟩:=I2.cell y d (uC I2.ok B q).1;exact ⟨v,o,Heap.get?_push_of_some _ (hH2▸Heap.get?_push_of_some _ ho),hd⟩
 have hC:G2.objs.size=s2.heap.objs.size+1:=by rw [← hH2,Heap.size_push]
 have hDC:s2.heap.objs.size≠G2.objs.size:=by rw [hC];exact Nat.ne_of_lt (Nat.lt_succ_self _)
 have hCle:s2.heap.objs.size<=G2.objs.size:=by rw [hC];exact Nat.le_succ _
 have below:∀ b,b<s2.heap.objs.size->b≠G2.objs.size/\b≠s2.heap.objs.size:=fun b hb=>⟨by rw [hC];exact Nat.ne_of_lt (Nat.lt_succ_of_lt hb),Nat.ne_of_lt hb⟩
 have hfp:∀ b∈fp,b<s2.heap.objs.size:=fun b hb=>by
  obtain ⟨o,e,_⟩:=T.obj _ _ t0 b hb;exact Heap.lt_size e
 have hDf:∀ b∈fp,b≠s2.heap.objs.size:=fun b hb=>(below b (hfp b hb)).2;have hCf:∀ b∈fp,b≠G2.objs.size:=fun b hb=>(below b (hfp b hb)).1;have old:∀ b o,s2.heap.get? b=some o->h₁.get? b=some o:=fun b o e=>hk₁ b o (hH2▸Heap.get?_push_of_some _ e);have hacc:h₁.get? s2.heap.objs.size=some (vL [] 0):=hk₁ _ _ (hH2▸Heap.get?_push_size _ rfl)
 have fresh:∀ a,s2.heap.objs.size<=a->s2.heap.get? a=none:=fun a ha=>by
  cases e:s2.heap.get? a with
  |none=>rfl
  |some o'=>exact absurd (Heap.lt_size e) (Nat.not_lt.mpr ha)
 have hsub:∀ b∈frs X.stack,b<s2.heap.objs.size:=fun b hb=>by
  obtain ⟨_,o,e,_⟩:=I2.stack.mem hb;exact Heap.lt_size e
 obtain ⟨Pv,⟨m0,p0⟩,step⟩:=h;generalize hD:s2.heap.objs.size=D at *;generalize hCe:G2.objs.size=C at *;have hXb:IsBlock X N sc (vG X N sc C s2 H2 fp pins):=zcs ..;generalize hXd:vG X N sc C s2 H2 fp pins=X' at hXb
 have J0:Inv X' [] τ H2 { s2 with heap:=h₁ }:=by
  rw [← hXd];exact zef (s4:={ s2 with heap:=h₁ }) I2 B f2 (by rw [hD];exact hfp) (by rw [hD];exact hCle) rfl rfl old hcs hns₁ hl cap I2.tk
 have offD:Off X' [] D:=by
  rw [← hXd];refine ⟨hDC,by show s2.heap.objs.size<=D;rw [hD];exact zzR _,fun x c hx=>?_,fun p hp=>?_⟩
  .rcases uL I2.ok B hx with ⟨q,_⟩|⟨_,q⟩
   .have:=zec I2 q;rw [hD] at this;exact Nat.ne_of_lt this
   .exact Nat.ne_of_gt (Nat.lt_of_le_of_lt hCle q)
  .have hp':p∈X.pn++pins:=by simpa [vG] using hp
   have:=Heap.lt_size (I2.pin p hp').1;rw [hD] at this;exact Nat.ne_of_lt this
 have offC:Off X pins C:=I2.off (by rw [hD];exact hCle)
 have fpok:∀ {H':Hp} {ob:Obj},(∀ b∈fp,H' b=none)->∀ b∈fp,vD X' [(D,ob)] H' b:=fun {H' ob} hn b hb=>by
  rw [← hXd];refine ⟨hn b hb,hCf b hb,fun z=>(dN (N:=N) I2 B f2 (by rw [hD];exact hfp) (by rw [hD];exact hCle)).exfs b hb z,.inl hb,fun x c hx=>(dN (N:=N) I2 B f2 (by rw [hD];exact hfp) (by rw [hD];exact hCle)).exf b hb |>.2 x c hx,fun p hp=>?_⟩;rcases List.mem_append.mp hp with hp|hp
  .exact (f2 b hb).2.2.2.2.2 p hp
  .rw [zzO hp];exact (hDf b hb).symm
 have Dfs:D∉X'.fs:=by
  rw [← hXd];intro z;exact Nat.lt_irrefl _ (hsub D z)
 have pinD:∀ {H':Hp} {τ':St} {s':Shared} {its:List Value} {n:Nat},Inv X' [] τ' H' s'->H' D=none->s'.heap.get? D=some (vL its n)->Inv X' [(D,vL its n)] τ' H' s':=fun {H' τ' s' its n} I hn e =>
  I.pins_of fun p hp=>by
   rw [zzO hp];exact ⟨e,hn,by rw [← hXd];exact hDC,Dfs,fun v z=>nomatch z⟩
 have loop:∀ s₃:Shared,s₃={ s2 with heap:=h₁ } ->
   codeAny (model X.prog X.w) X.A (.compLoop (.ListComp elt [⟨tg,iter,ifs,0⟩] sc pos) 0 (.ref it) (.ref D) (compEnvC sc (ocl X sc C) C X.env)) (RR (.ref D) C) s₃:=by
  rintro s₃ rfl;have tn0:tn 0 h₁:=T.keep _ _ _ t0 fun b _ o e=>old b o e;have fr0:∀ b∈fp,H2 b=none:=fun b hb=>(f2 b hb).1;have Df0:H2 D=none:=I2.hok.fresh (by rw [hD];exact zzR _);have eX:X'.env=compEnvC sc (ocl X sc C) C X.env:=by rw [← hXd];rfl
  have ep:X'.prog=X.prog:=hXb.prog;have ew:X'.w=X.w:=hXb.w;have eA:X'.A=X.A:=hXb.A;refine zaq (fun k s'=>∃ i τ' acc H' its n,Inv X' [] τ' H' s'/\tn i s'.heap/\(∀ b∈fp,H' b=none)/\H' D=none/\s'.heap.get? D=some (vL its n)/\zE acc its/\acc.length<=sizeLine/\Pv i k τ' acc H') ?_ m0 ⟨0,τ,[],H2,[],0,J0,tn0,fr0,Df0,hacc,.nil,Nat.zero_le _,p0⟩;rintro k s3 ⟨i,τ3,acc,H3,its,n,I3,st3,fr3,D3,o3,v3,lenA,p3⟩;have I3':=pinD I3 D3 o3;rcases step i k τ3 acc H3 p3 with ⟨stop,qf⟩|⟨go,hsz,turn⟩
  .have td:=T.done X' ep ew hXb.K (by rw [hXb.calm];exact hc) i _ s3 τ3 H3 (fun _ _=>False) I3' (fpok fr3) st3 stop;rw [eA] at td;refine yH td fun r s4 ⟨hr,I4⟩=>?_;subst hr;have o4:=(I4.pin (D,vL its n) (List.mem_append_right _ (List.mem_singleton.mpr rfl))).1;obtain ⟨m4,hn4,_⟩:=I4.loc;rw [eX] at hn4;refine fin D C acc H3 s4 m4 hDC D3 ?_ offC ?_ hn4 qf
   .have:=I4.free;rw [eX] at this;exact this
   .have base:Un (frs X.stack) fp H2 H3 s2.heap s4.heap:=by have:=I4.base;rw [← hXd] at this;exact this
    have hb:∀ b o,s2.heap.get? b=some o->b≠D:=fun b o e=>by have:=Heap.lt_size e;rw [hD] at this;exact Nat.ne_of_lt this
    refine I2.call' (ch:=fp) (by have:=I4.os;rw [← hXd] at this;exact this) ⟨base.keep,base.slot,fun b o e n' hx=>?_,base.there,fun b xs e=>?_,fun b o u e=>?_,fun b ps e=>?_⟩ ?_ I4.bare ?_ I4.tk
    .rw [zB (hb b o e)];exact base.free b o e n' hx
    .rw [zB (yN (base.tups b xs e) D3)];exact base.tups b xs e
    .rw [zB (yN (base.frzs b o u e) D3)];exact base.frzs b o u e
    .obtain ⟨mo,e'⟩:=base.tbls b ps e;exact ⟨mo,by rw [zB (yN e' D3)];exact e'⟩
    .have hk:=I4.hok;rw [ep,ew] at hk;exact hk.adopt (fun b u v _ q=>q) D3 ⟨lenA,its,n,v3,o4⟩
    .intro b hb';obtain ⟨q1,q2,q3,q4,q5,q6⟩:=f2 b hb';exact ⟨q4,q2,q5,q6⟩
  .have td:=T.item X' ep ew hXb.K (by rw [hXb.calm];exact hc) i _ s3 τ3 H3 (fun _ _=>False) I3' (fpok fr3) st3 go;rw [eA] at td;refine yH td fun r s4 ⟨u,hr,h4⟩=>?_;subst hr;refine yH h4 fun _ s5 ⟨x,H5,I5,r5,y5,st5,fr5⟩=>?_;have I5':=I5.pinned (fpok fr5) (T.obj _ _ st5);have q1:=hg X' hXb _ s5 τ3 H5 x u _ I5' r5 (turn x H5 y5);rw [ep,ew,eA,eX,hXb.xe] at q1;refine yH q1 fun _ s6 ⟨σ6,H6,I6,q6⟩=>?_;have q2:=ht X' hXb _ s6 σ6 H6 _ I6 q6;rw [ep,ew,eA,eX,hXb.xe] at q2;refine yH q2 fun b s7 ⟨H7,I7,q7⟩=>?_
   have back:∀ {H8:Hp} {s8:Shared},Inv X' ([(D,vL its n)]++pZ fp s5.heap) σ6 H8 s8->Inv X' [] σ6 H8 s8/\tn (i+1) s8.heap/\(∀ b∈fp,H8 b=none)/\H8 D=none/\s8.heap.get? D=some (vL its n):=fun {H8 s8} I8=>by
    have pp:∀ p,p∈[(D,vL its n)]++pZ fp s5.heap->_:=fun p hp=>I8.pin p (List.mem_append_right _ hp);refine ⟨I8.pins_of (pins':=[]) (fun p hp=>nomatch hp),T.keep _ _ _ st5 fun b hb o e=>(pp (b,o) (List.mem_append_right _ (vO hb e))).1,fun b hb=>?_,?_,?_⟩
    .obtain ⟨o,e,d⟩:=T.obj _ _ st5 b hb;exact (pp (b,o) (List.mem_append_right _ (vO hb e))).2.1
    .exact (pp (D,vL its n) (List.mem_append_left _ (List.mem_singleton.mpr rfl))).2.1
    .exact (pp (D,vL its n) (List.mem_append_left _ (List.mem_singleton.mpr rfl))).1
   cases b with
   |false =>
    rw [if_neg (by decide)] at q7;rw [if_neg (by decide)];obtain ⟨m',hm,p'⟩:=q7;obtain ⟨b1,b2,b3,b4,b5⟩:=back I7;exact ⟨m',hm,i+1,σ6,acc,H7,its,n,b1,b2,b3,b4,b5,v3,lenA,p'⟩
   |true =>
    rw [if_pos rfl] at q7;rw [if_pos rfl];have q3:=he X' hXb _ s7 σ6 H7 _ I7 q7;rw [ep,ew,eA,eX,hXb.xe] at q3;refine yH q3 fun y s8 ⟨v,H8,I8,r8,m',hm,p'⟩=>?_;obtain ⟨b1,b2,b3,b4,b5⟩:=back I8;refine append_at (hsz:=by show its.toArray.size<=sizeLine;rw [zzS,← v3.length];exact Nat.le_of_lt hsz) b5 fun h₅ hs₅ hD₅=>?_;refine ⟨m',hm,i+1,σ6,acc++[v],H8,its++[y],n+1,offD.turned b1 b4 hs₅,T.keep _ _ _ b2 fun b hb o e=>hs₅.extBut b o (hDf b hb) e,b3,b4,?_,v3.append (.cons r8 .nil),by rw [zzW];exact hsz,p'⟩;show h₅.get? D=_;rw [hD₅,List.push_toArray]
 exact codeAny_compStart_list (loop _ rfl) (T.self _ 0 _ _ _ (T.keep _ _ _ t0 fun b _ o e=>old b o e) (loop _ rfl))
def tLC (wi:TI) (cap:St->St) (g:TG) (tc:TT) (te:TE):TE:=fun σ H Q=>wi σ H fun J H1=>tLCb J (cap σ) g tc te (fun acc H'=>∀ p,H' p=none->Q (.ref p) (xI H' p (.lst acc))) H1
section
variable {X : Cx} {sc : Scope} {N : List Str} {tg iter elt : Expr} {ifs : List Expr} {pos : Pos} {wi : TI} {g : TG} {tc : TT} {te : TE} {cap : St → St}
def Caps (X:Cx) (sc:Scope) (N:List Str) (cap:St->St):Prop:=∀ σ:St,σ.length=X.N.length->(cap σ).length=N.length /\
 ∀ (i:Nat) (x:Str) (v:V),N[i]?=some x->(cap σ)[i]?=some (some v)->Vis (relabel sc X.env) x->sc.names.lookup x=some .free/\∃ j:Nat,X.N[j]?=some x/\σ[j]?=some (some v)
theorem pe_lc (hc:X.calm=true) (hi:PI X tg iter wi) (B:BlkSc X sc) (hcap:Caps X sc N cap)
  (hg:∀ X',IsBlock X N sc X'->PG X' tg g) (ht:∀ X',IsBlock X N sc X'->PTs X' ifs tc) (he:∀ X',IsBlock X N sc X'->PE X' elt te)
  (hs:∀ x,foldedSetIterable iter X.env x=pure x:=by intro _;rfl):PE X (.ListComp elt [⟨tg,iter,ifs,0⟩] sc pos) (tLC wi cap g tc te):=by
 intro pins s σ H Q I h;rw [eval_ListComp];refine wpAny_comprehension_free (use:=none) rfl hs (dQ fun x hx=>I.ok.has x (B.free x hx)) B.kind B.names (yH (hi pins s σ H _ I h) fun v s1 h1=>yH h1 fun itv s2 h2=>?_);obtain ⟨it,fp,tn,J,H2,e,I2,T,st2,f2,q⟩:=h2;subst e;obtain ⟨cl,cc⟩:=hcap σ I.len;refine zdu (RR:=fun acc C=>compPost (model X.prog X.w) X.A X.xe none (EP X pins σ Q) acc C) hc I2 T st2 f2 B cl cc hg ht he q fun D C acc H' s' m hDC hD hC off I' hn qf=>?_;refine ⟨m,hn,fun h' hk=>⟨.ref D,_,off.turned I' (by rw [zB hDC.symm];exact hC) hk,rfl,qf D hD⟩⟩
theorem ze1 {i:Nat} {y:Str} {py spos:Pos} (hc:X.calm=true) (hi:PI X tg iter wi) (B:BlkSc X sc) (hcap:Caps X sc N cap)
  (hg:∀ X',IsBlock X N sc X'->PG X' tg g) (ht:∀ X',IsBlock X N sc X'->PTs X' ifs tc) (he:∀ X',IsBlock X N sc X'->PE X' elt te)
  (hN:X.N.Nodup) (hy:X.N[i]?=some y) (hx:Loc X.env.scope y) (hf:X.fn y=true\/X.env.scope.names.lookup y=some .local)
  (hsw:swapsWith (.ListComp elt [⟨tg,iter,ifs,0⟩] sc pos) (some (.Name y py)) spos.line X.env=pure true)
  (hs:∀ x,foldedSetIterable iter X.env x=pure x:=by intro _;rfl):PS X (.Assign [.Name y py] (.ListComp elt [⟨tg,iter,ifs,0⟩] sc pos) spos) (tAsg (tLC wi cap g tc te) (zfF i)):=by
 intro pins s σ H D I h;rw [exec_Assign_Name_used _ _ _ _ hsw];refine wpAny_bind (wpAny_standAt (wpAny_bind ?_));show wpAny _ X.A (do let _ ← comprehension (.ListComp elt [⟨tg,iter,ifs,0⟩] sc pos) sc X.env _ (newList []) false (eval iter X.env) (some (assign (.Name y py) X.env))) _ _ s
 refine wpAny_bind (wpAny_mono (wpAny_comprehension_free (use:=some (assign (.Name y py) X.env)) (Q:=fun _ s'=>SP X pins D .next s') rfl hs (dQ fun x hx=>I.ok.has x (B.free x hx)) B.kind B.names
  (yH (hi pins s σ H _ I h) fun v s1 h1=>yH h1 fun itv s2 h2=>?_)) (fun _ s' hq=>wpAny_pure (wpAny_pure hq)) fun _ _ e=>e)
 obtain ⟨it,fp,tn,J,H2,e,I2,T,st2,f2,q⟩:=h2;subst e;obtain ⟨cl,cc⟩:=hcap σ I.len;refine zdu (RR:=fun acc C=>compPost (model X.prog X.w) X.A X.xe (some (assign (.Name y py) X.env)) (fun _ s'=>SP X pins D .next s') acc C) hc I2 T st2 f2 B cl cc hg ht he q fun D' C acc H' s' m hDC hD hC off I' hn qf=>?_;show wpAny _ X.A (assign (.Name y py) X.env (.ref D')) _ _ _;refine wpAny_assign_Name (cC I' hN hy hx (v:=.ref D') rfl (fun s'' I'' hsm=>?_) hf);obtain ⟨a,hsb,ha⟩:=hsm
 have hCa:C≠a:=by
  rcases ha with ha|ha
  .rw [ha];exact off.ne
  .exact (off.cl y a ha).symm
 refine ⟨m,hn.sameBut hsb hCa,fun h' hk=>⟨_,_,off.turned I'' (by rw [zB hDC.symm];exact hC) hk,qf D' hD⟩⟩
end
end L2
namespace L3
open PySem PySem.Spec PyProof.Rows L2 PySem.SeqAt
mutual
def wY:W->W->Bool
 | .non,.non=>true
 | .bl a,.bl b=>a==b
 | .bl a,.int j=>(if a then 1 else 0)==j
 | .int i,.bl b=>i==(if b then 1 else 0)
 | .int i,.int j=>i==j
 | .str x,.str y=>x==y
 | .tup xs,.tup ys=>wJ xs ys
 |_,_=>false
def wJ:List W->List W->Bool
 | [],[]=>true
 |x::xs,y::ys=>wY x y&&wJ xs ys
 |_,_=>false
end
mutual
def pur:W->Bool
 | .ref _=>false
 | .ty _=>false
 | .lsf _=>false
 | .exc _ _ _=>false
 | .dcf _ _=>false
 | .tup ws=>wF ws
 |_=>true
def wF:List W->Bool
 | []=>true
 |w::ws=>pur w&&wF ws
end
mutual
def dep:W->Nat
 | .tup ws=>jN ws+1
 |_=>0
def jN:List W->Nat
 | []=>0
 |w::ws=>max (dep w) (jN ws)
end
theorem xQ {w:W} {ws:List W}:wF (w::ws)=true↔pur w=true/\wF ws=true:=by simp [wF]
section
variable {X : Cx} {pins : List (Addr × Obj)} {σ : L2.St} {H : Hp} {s : Shared}
theorem W.ind {P:W->Prop} (non:P .non) (bl:∀ b,P (.bl b)) (int:∀ i,P (.int i)) (str:∀ x,P (.str x)) (ty:∀ n,P (.ty n)) (ref:∀ a,P (.ref a)) (tup:∀ ws,(∀ w∈ws,P w)->P (.tup ws)) (lsf:∀ ws,P (.lsf ws)) (exc:∀ C ns ws,P (.exc C ns ws)) (dcf:∀ ks ws,P (.dcf ks ws)):∀ w:W,P w:=fun w =>
 W.rec (motive_1:=P) (motive_2:=fun ws=>∀ w∈ws,P w) non bl int str ty ref (fun ws h=>tup ws h) (fun ws _=>lsf ws) (fun C ns ws _=>exc C ns ws) (fun ks ws _=>dcf ks ws) (fun _ h=>nomatch h) (fun w ws h hs v hv=>(List.mem_cons.mp hv).elim (fun e=>e▸h) (hs v)) w
theorem gF {ws:List W} (h:wF ws=true):∀ w∈ws,pur w=true:=by
 induction ws with
 |nil=>intro w hw;cases hw
 |cons x xs ih =>
  intro w hw;have h':=xQ.mp h;rcases List.mem_cons.mp hw with e|hw
  .rw [e];exact h'.1
  .exact ih h'.2 w hw
theorem zcr:∀ (ws:List W),(∀ w∈ws,pur w=true->wY w w=true)->wF ws=true->wJ ws ws=true:=by
 intro ws
 induction ws with
 |nil=>intro _ _;simp [wJ]
 |cons w ws ih =>
  intro h hp;have h':=xQ.mp hp;simp only [wJ,h w zzT h'.1,ih (fun z hz=>h z (List.mem_cons_of_mem _ hz)) h'.2,Bool.and_self]
theorem zfJ {w:W}:pur w=true->wY w w=true:=by
 induction w using W.ind with
 |non=>intro _;simp [wY]
 |bl _=>intro _;simp [wY]
 |int _=>intro _;simp [wY]
 |str _=>intro _;simp [wY]
 |ty _=>intro h;cases h
 |lsf _=>intro h;cases h
 |exc _ _ _=>intro h;cases h
 |dcf _ _=>intro h;cases h
 |ref _=>intro h;cases h
 |tup ws ih=>intro h;exact zcr ws ih h
theorem bQ (I:Inv X pins σ H s):∀ (xs ys:List W) (vs:List V),(∀ x∈xs,∀ (y:W) (v:V),xN X.K H x v->xN X.K H y v->pur x=true->pur y=true->x=y)->zF X.K H xs vs->zF X.K H ys vs->wF xs=true->wF ys=true->xs=ys:=by
 intro xs
 induction xs with
 |nil =>
  intro ys vs _ h h' _ _
  cases ys with
  |nil=>rfl
  |cons y ys=>obtain ⟨_,_,e,_⟩:=h';rw [show _=[] from h] at e;cases e
 |cons x xs ih =>
  intro ys vs hx h h' px py;obtain ⟨v,r,e,q,t⟩:=h;subst e
  cases ys with
  |nil=>cases h'
  |cons y ys =>
   obtain ⟨v',r',e',q',t'⟩:=h';cases e';rw [hx x zzT y v q q' (xQ.mp px).1 (xQ.mp py).1,ih ys r (fun z hz=>hx z (List.mem_cons_of_mem _ hz)) t t' (xQ.mp px).2 (xQ.mp py).2]
theorem zc5 (I:Inv X pins σ H s):∀ (x y:W) (v:V),xN X.K H x v->xN X.K H y v->pur x=true->pur y=true->x=y:=by
 intro x
 induction x using W.ind with
 |tup xs ih =>
  intro y v h h' hx hy;obtain ⟨a,vs,e,q,r⟩:=h;subst e
  cases y with
  |tup ys =>
   obtain ⟨b,us,e',q',r'⟩:=h';cases e';have:=I.tuple_inj q q';subst this;rw [bQ I xs ys vs ih r r' hx hy]
  |ref _=>cases hy
  |ty _=>cases hy
  |lsf _=>cases hy
  |exc _ _ _=>cases hy
  |dcf _ _=>cases hy
  |non=>cases h'
  |bl _=>cases h'
  |int _=>cases h'
  |str _=>cases h'
 |ty _=>intro y v _ _ hx;cases hx
 |lsf _=>intro y v _ _ hx;cases hx
 |exc _ _ _=>intro y v _ _ hx;cases hx
 |dcf _ _=>intro y v _ _ hx;cases hx
 |ref _=>intro y v _ _ hx;cases hx
 |non =>
  intro y v h h' _ hy;cases h
  cases y with
  |tup ys=>obtain ⟨_,_,e,_⟩:=h';cases e
  |ref _=>cases hy
  |ty _=>cases hy
  |lsf _=>cases hy
  |exc _ _ _=>cases hy
  |dcf _ _=>cases hy
  |non=>rfl
  |bl _=>cases h'
  |int _=>cases h'
  |str _=>cases h'
 |bl _ =>
  intro y v h h' _ hy;cases h
  cases y with
  |tup ys=>obtain ⟨_,_,e,_⟩:=h';cases e
  |ref _=>cases hy
  |ty _=>cases hy
  |lsf _=>cases hy
  |exc _ _ _=>cases hy
  |dcf _ _=>cases hy
  |non=>cases h'
  |bl _=>cases h';rfl
  |int _=>cases h'
  |str _=>cases h'
 |int _ =>
  intro y v h h' _ hy;cases h
  cases y with
  |tup ys=>obtain ⟨_,_,e,_⟩:=h';cases e
  |ref _=>cases hy
  |ty _=>cases hy
  |lsf _=>cases hy
  |exc _ _ _=>cases hy
  |dcf _ _=>cases hy
  |non=>cases h'
  |bl _=>cases h'
  |int _=>cases h';rfl
  |str _=>cases h'
 |str _ =>
  intro y v h h' _ hy;cases h
  cases y with
  |tup ys=>obtain ⟨_,_,e,_⟩:=h';cases e
  |ref _=>cases hy
  |ty _=>cases hy
  |lsf _=>cases hy
  |exc _ _ _=>cases hy
  |dcf _ _=>cases hy
  |non=>cases h'
  |bl _=>cases h'
  |int _=>cases h'
  |str _=>cases h';rfl
theorem zeU (I:Inv X pins σ H s) {xs ys:List W} {vs:List V} (h:zF X.K H xs vs) (h':zF X.K H ys vs) (hx:wF xs=true) (hy:wF ys=true):xs=ys :=
 bQ I xs ys vs (fun x _=>zc5 I x) h h' hx hy
def tI (xs ys:List W) (j:Nat):Bool:=match xs[j]?,ys[j]? with
 |some x,some y=>wY x y
 |_,_=>false
theorem rM:∀ xs ys:List W,((List.range (min xs.length ys.length)).all (tI xs ys)&&xs.length==ys.length)=wJ xs ys
 | [],[]=>rfl
 | [],_::_=>by simp [wJ]
 |_::_,[]=>by simp [wJ]
 |x::xs,y::ys=>by
  have ih:=rM xs ys;simp only [List.length_cons,Nat.add_min_add_right,wJ];rw [List.range_succ_eq_map,List.all_cons,List.all_map];have h0:tI (x::xs) (y::ys) 0=wY x y:=rfl;have h1:(tI (x::xs) (y::ys) ∘ Nat.succ)=tI xs ys:=by funext j;simp [tI]
  rw [h0,h1,← ih,Bool.and_assoc];congr 2;simp
theorem zfI {xs ys:List W} (h:xs.length≠ys.length):wJ xs ys=false:=by
 rw [← rM];have:(xs.length==ys.length)=false:=by simpa using h
 rw [this,Bool.and_false]
theorem zdW {xs ys:List W} (h:xs.length=ys.length):(List.range xs.length).all (tI xs ys)=wJ xs ys:=by
 rw [← rM,h,Nat.min_self];simp
theorem xW (I:Inv X pins σ H s) {ws:List W} {v:V} {u:Value} (h:xN X.K H (.tup ws) v) (r:zD v u):∃ a vs its,v=.ref a/\u=.ref a/\sO X.K H a vs/\zF X.K H ws vs/\zE vs its/\s.heap.IsTuple a its.toArray/\ws.length<=sizeLine:=by
 obtain ⟨a,vs,rfl,q,rs⟩:=h;obtain ⟨its,vr,it,hl⟩:=I.tuple q;exact ⟨a,vs,its,rfl,r,q,rs,vr,it,by rw [← rs.length];exact hl⟩
theorem zbQ (I:Inv X pins σ H s):∀ (xs ys:List W) (vs vs':List V) (us us':List Value) (A:Around),(∀ x∈xs,∀ (y:W) (v v':V) (u u':Value) (A:Around),xN X.K H x v->zD v u->xN X.K H y v'->zD v' u'->pur x=true->pur y=true->A.units+min (dep x) (dep y)<cLine->EqAt A s u u' (wY x y)) ->
  zF X.K H xs vs->zE vs us->zF X.K H ys vs'->zE vs' us'->wF xs=true->wF ys=true ->
  A.units+min (jN xs) (jN ys)<cLine->∀ (j:Nat) (h1:j<us.length) (h2:j<us'.length),EqAt A s us[j] us'[j] (tI xs ys j):=by
 intro xs
 induction xs with
 |nil=>intro ys vs vs' us us' A _ h r _ _ _ _ _ j h1;rw [show _=[] from h] at r;cases r;exact absurd h1 (Nat.not_lt_zero _)
 |cons x xs ih =>
  intro ys vs vs' us us' A he h r h' r' hx hy hu j h1 h2
  cases ys with
  |nil=>rw [show _=[] from h'] at r';cases r';exact absurd h2 (Nat.not_lt_zero _)
  |cons y ys =>
   obtain ⟨v,t,e,h,hs⟩:=h;obtain ⟨v',t',e',h',hs'⟩:=h';subst e;subst e'
   cases r with
   |cons r rs =>
    cases r' with
    |cons r' rs' =>
     have px:=xQ.mp hx;have py:=xQ.mp hy;simp only [jN] at hu
     cases j with
     |zero=>exact he x zzT y _ _ _ _ A h r h' r' px.1 py.1 (by omega)
     |succ j=>exact ih ys _ _ _ _ A (fun z hz=>he z (List.mem_cons_of_mem _ hz)) hs rs hs' rs' px.2 py.2 (by omega) j (Nat.lt_of_succ_lt_succ h1) (Nat.lt_of_succ_lt_succ h2)
theorem zdY (I:Inv X pins σ H s):∀ (x y:W) (v v':V) (u u':Value) (A:Around),xN X.K H x v->zD v u->xN X.K H y v'->zD v' u'->pur x=true->pur y=true->A.units+min (dep x) (dep y)<cLine->EqAt A s u u' (wY x y):=by
 intro x
 induction x using W.ind with
 |tup xs ih =>
  intro y v v' u u' A h r h' r' hx hy hu;obtain ⟨a,vs,its,rfl,rfl,q,rs,vr,it,_⟩:=xW I h r
  cases y with
  |tup ys =>
   obtain ⟨b,us,its',rfl,rfl,q',rs',vr',it',_⟩:=xW I h' r'
   by_cases e:a=b
   .subst e;have:=I.tuple_inj q q';subst this;have:=zeU I rs rs' hx hy;subst this;rw [show wY (.tup xs) (.tup xs)=true from zfJ (w:=.tup xs) hx];exact EqAt.same _
   .show EqAt A s _ _ (wJ xs ys);rw [← rM];have l1:its.toArray.size=xs.length:=by rw [zzS,← vr.length,rs.length]
    have l2:its'.toArray.size=ys.length:=by rw [zzS,← vr'.length,rs'.length]
    rw [← l1,← l2];refine EqAt.of_refs e (RcAt.tuples it it' (by simp only [dep] at hu;omega) fun j j1 j2=>?_);exact zbQ I xs ys _ _ _ _ A.in1 ih rs vr rs' vr' hx hy (by simp only [dep] at hu;show A.units+1+_<_;omega) j (by simpa using j1) (by simpa using j2)
  |ref _=>cases hy
  |ty _=>cases hy
  |lsf _=>cases hy
  |exc _ _ _=>cases hy
  |dcf _ _=>cases hy
  |non=>cases h';cases r';exact EqAt.tuple_none it (by omega)
  |bl _=>cases h';cases r';exact EqAt.tuple_bool _ it (by omega)
  |int _=>cases h';obtain ⟨t,rfl⟩:=r';exact EqAt.tuple_int _ _ it (by omega)
  |str _=>cases h';obtain ⟨t,rfl⟩:=r';exact EqAt.tuple_str _ _ it (by omega)
 |ty _=>intro y v v' u u' A _ _ _ _ hx;cases hx
 |lsf _=>intro y v v' u u' A _ _ _ _ hx;cases hx
 |exc _ _ _=>intro y v v' u u' A _ _ _ _ hx;cases hx
 |dcf _ _=>intro y v v' u u' A _ _ _ _ hx;cases hx
 |ref _=>intro y v v' u u' A _ _ _ _ hx;cases hx
 |non =>
  intro y v v' u u' A h r h' r' hx hy hu;cases h;cases r
  cases y with
  |tup ys=>obtain ⟨b,us,its',rfl,rfl,q',rs',vr',it',_⟩:=xW I h' r';exact EqAt.none_tuple it' (by omega)
  |ref _=>cases hy
  |ty _=>cases hy
  |lsf _=>cases hy
  |exc _ _ _=>cases hy
  |dcf _ _=>cases hy
  |non=>cases h';cases r';exact EqAt.same _
  |bl _=>cases h';cases r';exact EqAt.none_bool _
  |int _=>cases h';obtain ⟨t,rfl⟩:=r';exact EqAt.none_int _ _
  |str _=>cases h';obtain ⟨t,rfl⟩:=r';exact EqAt.none_str _ _
 |bl _ =>
  intro y v v' u u' A h r h' r' hx hy hu;cases h;cases r
  cases y with
  |tup ys=>obtain ⟨b,us,its',rfl,rfl,q',rs',vr',it',_⟩:=xW I h' r';exact EqAt.bool_tuple _ it' (by omega)
  |ref _=>cases hy
  |ty _=>cases hy
  |lsf _=>cases hy
  |exc _ _ _=>cases hy
  |dcf _ _=>cases hy
  |non=>cases h';cases r';exact EqAt.bool_none _
  |bl _=>cases h';cases r';exact EqAt.bool_bool _ _
  |int _=>cases h';obtain ⟨t,rfl⟩:=r';exact EqAt.bool_int _ _ _
  |str _=>cases h';obtain ⟨t,rfl⟩:=r';exact EqAt.bool_str _ _ _
 |int _ =>
  intro y v v' u u' A h r h' r' hx hy hu;cases h;obtain ⟨t0,rfl⟩:=r
  cases y with
  |tup ys=>obtain ⟨b,us,its',rfl,rfl,q',rs',vr',it',_⟩:=xW I h' r';exact EqAt.int_tuple _ _ it' (by omega)
  |ref _=>cases hy
  |ty _=>cases hy
  |lsf _=>cases hy
  |exc _ _ _=>cases hy
  |dcf _ _=>cases hy
  |non=>cases h';cases r';exact EqAt.int_none _ _
  |bl _=>cases h';cases r';exact EqAt.int_bool _ _ _
  |int _=>cases h';obtain ⟨t,rfl⟩:=r';exact EqAt.int_int _ _ _ _
  |str _=>cases h';obtain ⟨t,rfl⟩:=r';exact EqAt.int_str _ _ _ _
 |str _ =>
  intro y v v' u u' A h r h' r' hx hy hu;cases h;obtain ⟨t0,rfl⟩:=r
  cases y with
  |tup ys=>obtain ⟨b,us,its',rfl,rfl,q',rs',vr',it',_⟩:=xW I h' r';exact EqAt.str_tuple _ _ it' (by omega)
  |ref _=>cases hy
  |ty _=>cases hy
  |lsf _=>cases hy
  |exc _ _ _=>cases hy
  |dcf _ _=>cases hy
  |non=>cases h';cases r';exact EqAt.str_none _ _
  |bl _=>cases h';cases r';exact EqAt.str_bool _ _ _
  |int _=>cases h';obtain ⟨t,rfl⟩:=r';exact EqAt.str_int _ _ _ _
  |str _=>cases h';obtain ⟨t,rfl⟩:=r';exact EqAt.str_str _ _ _ _
theorem zdX (I:Inv X pins σ H s) {xs ys:List W} {vs vs':List V} {us us':List Value} {A:Around} (h:zF X.K H xs vs) (r:zE vs us) (h':zF X.K H ys vs') (r':zE vs' us') (hx:wF xs=true) (hy:wF ys=true)
  (hu:A.units+min (jN xs) (jN ys)<cLine):∀ (j:Nat) (h1:j<us.length) (h2:j<us'.length),EqAt A s us[j] us'[j] (tI xs ys j) :=
 zbQ I xs ys _ _ _ _ A (fun x _=>zdY I x) h r h' r' hx hy hu
end
section
variable {X : Cx} {pins : List (Addr × Obj)} {σ : L2.St} {H : Hp} {s : Shared}
theorem zjg (I:Inv X pins σ H s) (x y:W) (v v':V) (u u':Value) (A:Around) (h:xN X.K H x v) (r:zD v u) (h':xN X.K H y v') (r':zD v' u') (hx:pur x=true) (hy:pur y=true) (hu:A.units+min (dep x) (dep y)<cLine):RcAt A s u u' (wY x y)/\RcNeAt A s u u' (!wY x y):=by
 have h0:A.units<cLine:=by omega
 cases x with
 |ref _=>cases hx
 |ty _=>cases hx
 |lsf _=>cases hx
 |exc _ _ _=>cases hx
 |dcf _ _=>cases hx
 |tup xs =>
  obtain ⟨a,vs,its,rfl,rfl,q,rs,vr,it,_⟩:=xW I h r
  cases y with
  |ref _=>cases hy
  |ty _=>cases hy
  |lsf _=>cases hy
  |exc _ _ _=>cases hy
  |dcf _ _=>cases hy
  |tup ys =>
   obtain ⟨b,us,its',rfl,rfl,q',rs',vr',it',_⟩:=xW I h' r';have l1:its.toArray.size=xs.length:=by rw [zzS,← vr.length,rs.length]
   have l2:its'.toArray.size=ys.length:=by rw [zzS,← vr'.length,rs'.length]
   have key:∀ (j:Nat) (j1:j<its.toArray.size) (j2:j<its'.toArray.size),EqAt A.in1 s its.toArray[j] its'.toArray[j] (tI xs ys j):=fun j j1 j2 =>
    zdX I rs vr rs' vr' hx hy (A:=A.in1) (by simp only [dep] at hu;show A.units+1+_<_;omega) j (by simpa using j1) (by simpa using j2)
   show RcAt A s _ _ (wJ xs ys)/\RcNeAt A s _ _ (!wJ xs ys);rw [← rM,← l1,← l2];exact ⟨RcAt.tuples it it' h0 key,RcNeAt.tuples it it' h0 key⟩
  |non=>cases h';cases r';exact ⟨RcAt.tuple_none it h0,RcNeAt.tuple_none it h0⟩
  |bl _=>cases h';cases r';exact ⟨RcAt.tuple_bool _ it h0,RcNeAt.tuple_bool _ it h0⟩
  |int _=>cases h';obtain ⟨t,rfl⟩:=r';exact ⟨RcAt.tuple_int _ _ it h0,RcNeAt.tuple_int _ _ it h0⟩
  |str _=>cases h';obtain ⟨t,rfl⟩:=r';exact ⟨RcAt.tuple_str _ _ it h0,RcNeAt.tuple_str _ _ it h0⟩
 |non =>
  cases h;cases r
  cases y with
  |ref _=>cases hy
  |ty _=>cases hy
  |lsf _=>cases hy
  |exc _ _ _=>cases hy
  |dcf _ _=>cases hy
  |tup ys=>obtain ⟨b,us,its',rfl,rfl,q',rs',vr',it',_⟩:=xW I h' r';exact ⟨RcAt.none_tuple it' h0,RcNeAt.none_tuple it' h0⟩
  |non=>cases h';cases r';exact ⟨RcAt.none_none,RcNeAt.none_none⟩
  |bl _=>cases h';cases r';exact ⟨RcAt.none_bool _,RcNeAt.none_bool _⟩
  |int _=>cases h';obtain ⟨t,rfl⟩:=r';exact ⟨RcAt.none_int _ _,RcNeAt.none_int _ _⟩
  |str _=>cases h';obtain ⟨t,rfl⟩:=r';exact ⟨RcAt.none_str _ _,RcNeAt.none_str _ _⟩
 |bl _ =>
  cases h;cases r
  cases y with
  |ref _=>cases hy
  |ty _=>cases hy
  |lsf _=>cases hy
  |exc _ _ _=>cases hy
  |dcf _ _=>cases hy
  |tup ys=>obtain ⟨b,us,its',rfl,rfl,q',rs',vr',it',_⟩:=xW I h' r';exact ⟨RcAt.bool_tuple _ it' h0,RcNeAt.bool_tuple _ it' h0⟩
  |non=>cases h';cases r';exact ⟨RcAt.bool_none _,RcNeAt.bool_none _⟩
  |bl _=>cases h';cases r';exact ⟨RcAt.bool_bool _ _,RcNeAt.bool_bool _ _⟩
  |int _=>cases h';obtain ⟨t,rfl⟩:=r';exact ⟨RcAt.bool_int _ _ _,RcNeAt.bool_int _ _ _⟩
  |str _=>cases h';obtain ⟨t,rfl⟩:=r';exact ⟨RcAt.bool_str _ _ _,RcNeAt.bool_str _ _ _⟩
 |int _ =>
  cases h;obtain ⟨t0,rfl⟩:=r
  cases y with
  |ref _=>cases hy
  |ty _=>cases hy
  |lsf _=>cases hy
  |exc _ _ _=>cases hy
  |dcf _ _=>cases hy
  |tup ys=>obtain ⟨b,us,its',rfl,rfl,q',rs',vr',it',_⟩:=xW I h' r';exact ⟨RcAt.int_tuple _ _ it' h0,RcNeAt.int_tuple _ _ it' h0⟩
  |non=>cases h';cases r';exact ⟨RcAt.int_none _ _,RcNeAt.int_none _ _⟩
  |bl _=>cases h';cases r';exact ⟨RcAt.int_bool _ _ _,RcNeAt.int_bool _ _ _⟩
  |int _=>cases h';obtain ⟨t,rfl⟩:=r';exact ⟨RcAt.int_int _ _ _ _,RcNeAt.int_int _ _ _ _⟩
  |str _=>cases h';obtain ⟨t,rfl⟩:=r';exact ⟨RcAt.int_str _ _ _ _,RcNeAt.int_str _ _ _ _⟩
 |str _ =>
  cases h;obtain ⟨t0,rfl⟩:=r
  cases y with
  |ref _=>cases hy
  |ty _=>cases hy
  |lsf _=>cases hy
  |exc _ _ _=>cases hy
  |dcf _ _=>cases hy
  |tup ys=>obtain ⟨b,us,its',rfl,rfl,q',rs',vr',it',_⟩:=xW I h' r';exact ⟨RcAt.str_tuple _ _ it' h0,RcNeAt.str_tuple _ _ it' h0⟩
  |non=>cases h';cases r';exact ⟨RcAt.str_none _ _,RcNeAt.str_none _ _⟩
  |bl _=>cases h';cases r';exact ⟨RcAt.str_bool _ _ _,RcNeAt.str_bool _ _ _⟩
  |int _=>cases h';obtain ⟨t,rfl⟩:=r';exact ⟨RcAt.str_int _ _ _ _,RcNeAt.str_int _ _ _ _⟩
  |str _=>cases h';obtain ⟨t,rfl⟩:=r';exact ⟨RcAt.str_str _ _ _ _,RcNeAt.str_str _ _ _ _⟩
theorem zdp (I:Inv X pins σ H s) {G:Hw} {p:Addr} {ws:List W} (ab:xR X.K H G) (e:yU G p=some ws):∃ vs its,pM X.K H p vs/\zF X.K H ws vs/\zE vs its/\s.heap.IsList p its.toArray/\PlainL s.heap p its.toArray/\ws.length<=sizeLine:=by
 obtain ⟨vs,q,r⟩:=ab.seq e;obtain ⟨its,vr,pl,hl⟩:=I.list q;exact ⟨vs,its,q,r,vr,(let ⟨o,n,h1,h2,_,h3⟩:=pl;⟨o,h1,h2,n,h3⟩),pl,by rw [← r.length];exact hl⟩
theorem zjh (I:Inv X pins σ H s) {G:Hw} {p q:Addr} {xs ys:List W} {A:Around} (ab:xR X.K H G) (e:yU G p=some xs) (e':yU G q=some ys) (hx:wF xs=true) (hy:wF ys=true) (hu:A.units+1+min (jN xs) (jN ys)<cLine) :
  RcAt A s (.ref p) (.ref q) (wJ xs ys)/\RcNeAt A s (.ref p) (.ref q) (!wJ xs ys):=by
 obtain ⟨vs,its,_,rs,vr,il,_⟩:=zdp I ab e;obtain ⟨us,its',_,rs',vr',il',_⟩:=zdp I ab e';have h0:A.units<cLine:=by omega
 have l1:its.toArray.size=xs.length:=by rw [zzS,← vr.length,rs.length]
 have l2:its'.toArray.size=ys.length:=by rw [zzS,← vr'.length,rs'.length]
 have key:∀ (j:Nat) (j1:j<its.toArray.size) (j2:j<its'.toArray.size),EqAt A.in1 s its.toArray[j] its'.toArray[j] (tI xs ys j):=fun j j1 j2 =>
  zdX I rs vr rs' vr' hx hy (A:=A.in1) hu j (by simpa using j1) (by simpa using j2)
 by_cases hl:xs.length=ys.length
 .rw [← zdW hl,← l1];exact ⟨RcAt.lists il il' (by omega) h0 key,RcNeAt.lists il il' (by omega) h0 key⟩
 .rw [zfI hl];have:(its.toArray.size != its'.toArray.size)=true:=by simp only [bne_iff_ne];omega
  exact ⟨RcAt.lists_lengths il il' this h0,RcNeAt.lists_lengths il il' this h0⟩
end
end L3
namespace PySem
open Sem (wp)
open Builtin
theorem cE:fillsNumberSlot (.type "tuple") "mul" = pure false :=
 fillsNumberSlot_seq (id := "tuple.__mul__") (r:=some (.builtin "tuple.__rmul__")) F.slot_tuple_mul.lookup (by decide +kernel) F.slot_tuple_rmul.lookup (by decide +kernel)
theorem cF:seqRepeat? (.type "tuple")=pure (some (.builtin "tuple.__mul__")):=by
 unfold seqRepeat?;rw [seqSlot_of (T := "tuple") (name := "__mul__") (id := "tuple.__mul__") F.slot_tuple_mul.lookup (by decide +kernel),seqSlot_of (T := "tuple") (name := "__rmul__") (id := "tuple.__rmul__") F.slot_tuple_rmul.lookup (by decide +kernel)];rfl
theorem zcG (a:Int) (t:Tok) (l:Addr) (items:Array Value) (n:Nat) (dd:Option Addr) (sl:Array (Option Value)) :
  Meets (Builtin.«int.__rmul__» ⟨[.int a t,.ref l],[]⟩) (fun _ R s=>s.heap.get? l=some { cls:=.type "tuple", dict:=dd,data:=.seq items n,slots:=sl }/\R (.ok (.ret Value.notImplemented)) s) :=
 .of_wp fun prog w A R s h=>by obtain ⟨hp,g,d,tk,os⟩:=s;obtain ⟨hl,h⟩:=h;wp_walk;exact ⟨_,rfl,h⟩
theorem ziH (l:Addr) (items:Array Value) (n:Nat) (u:Tok) (dd:Option Addr) (sl:Array (Option Value)) :
  Meets (Builtin.«tuple.__mul__» ⟨[.ref l,.int 1 u],[]⟩) (fun _ R s=>s.heap.get? l=some { cls:=.type "tuple", dict:=dd,data:=.seq items n,slots:=sl }/\R (.ok (.ret (Value.ref l))) s) :=
 .of_wp fun prog w A R s h=>by obtain ⟨hp,g,d,tk,os⟩:=s;obtain ⟨hl,h⟩:=h;wp_walk;exact ⟨_,rfl,h⟩
theorem zgQ (l:Addr) (items:Array Value) (n:Nat) (u:Tok) (dd:Option Addr) (sl:Array (Option Value)) (hi:items.isEmpty=false) :
  Meets (Builtin.«tuple.__mul__» ⟨[.ref l,.int 0 u],[]⟩) (fun _ R s=>s.heap.get? l=some { cls:=.type "tuple", dict:=dd,data:=.seq items n,slots:=sl }/\R (.ok (.ret (Value.ref s.heap.objs.size))) { s with heap:=s.heap.push { cls:=.type "tuple", data:=.seq #[] } }) :=
 .of_wp fun prog w A R s h=>by obtain ⟨hp,g,d,tk,os⟩:=s;obtain ⟨hl,h⟩:=h;wp_walk;exact ⟨_,rfl,h⟩
end PySem
namespace L3
open PySem PySem.Spec PyProof.Rows L2
section
variable {X : Cx}
def rRepT (K:yL):R2:=fun x y H Q=>∃ a k xs,x=.ref a/\y=.int k/\sO K H a xs/\((k=1/\Q (.ref a) H)\/(k=0/\xs≠[]/\∀ p,H p=none->Q (.ref p) (xI H p (.tup []))))
theorem zhs:kB X (binaryOp .Mult) (rRepT X.K):=by
 intro pins s σ H x y v u Q I rx ry h;obtain ⟨a,k,xs,rfl,rfl,ha,h⟩:=h;cases rx;obtain ⟨t,rfl⟩:=ry;obtain ⟨its,r1,p1,_⟩:=I.tuple ha;obtain ⟨⟨cls,dd,data,sl⟩,ho,hc,n,hd⟩:=id p1;simp only at hc hd;subst hc hd;rcases h with ⟨rfl,q⟩|⟨rfl,hx,q⟩
 .exact wpAny_binaryOp_repeat_ref (T := "tuple") (U := "int") (by decide) ⟨_,ho,rfl⟩ (fun s'=>typeIs_int s' 1 t) cE F.fills_int_mul F.slot_int_rmul cF F.slot_int_index.lookup
   (call_meets F.slot_int_rmul (typeIs_int s 1 t) F.entry_int_rmul (F.args_int_rmul_2 _ _) (zcG 1 t a its.toArray n dd sl)
    ⟨ho,rfl,⟨_,ho,rfl⟩,call_meets F.slot_tuple_mul ⟨_,ho,rfl⟩ F.entry_tuple_mul (F.args_tuple_mul_2 _ _) (ziH a its.toArray n t dd sl) ⟨ho,.ref a,H,I,rfl,q⟩⟩)
 .have he:its.toArray.isEmpty=false:=by
   cases its with
   |nil=>exact absurd (r1.nil_iff.mp rfl) hx
   |cons _ _=>rfl
  refine wpAny_binaryOp_repeat_ref (T := "tuple") (U := "int") (by decide) ⟨_,ho,rfl⟩ (fun s'=>typeIs_int s' 0 t) cE F.fills_int_mul F.slot_int_rmul cF F.slot_int_index.lookup
   (call_meets F.slot_int_rmul (typeIs_int s 0 t) F.entry_int_rmul (F.args_int_rmul_2 _ _) (zcG 0 t a its.toArray n dd sl)
    ⟨ho,rfl,⟨_,ho,rfl⟩,call_meets F.slot_tuple_mul ⟨_,ho,rfl⟩ F.entry_tuple_mul (F.args_tuple_mul_2 _ _) (zgQ a its.toArray n t dd sl he) ⟨ho,?_⟩⟩)
  refine ⟨.ref s.heap.objs.size,_,I.laid (t':=s.toks) (o:=.tup []) (fun b ob q=>Heap.get?_push_of_some _ q) (zzR _) ?_,rfl,q _ (I.hok.fresh (zzR _))⟩;exact ⟨Nat.zero_le _,[],.nil,IsTup.new _ _⟩
def rRepS:R2:=fun x y H Q=>∃ i k,x=.str i/\y=.int k/\((k=1/\Q (.str i) H)\/(k=0/\Q (.str Str.empty) H))
theorem zht:kB X (binaryOp .Mult) rRepS:=by
 intro pins s σ H x y v u Q I rx ry h;obtain ⟨i,k,rfl,rfl,h⟩:=h;obtain ⟨t,rfl⟩:=rx;obtain ⟨t2,rfl⟩:=ry;rcases h with ⟨rfl,q⟩|⟨rfl,q⟩
 .refine PySem.P.mul_str (by decide) (fun _ z=>absurd z (by simp)) (fun _ z=>absurd z (by simp)) ?_;rw [if_neg (by decide),if_pos (by simp)];exact ⟨.str i,H,I,⟨t,rfl⟩,q⟩
 .exact PySem.P.mul_str_none (by decide) (by decide) ⟨.str Str.empty,H,I.tok _ (Nat.lt_succ_of_lt I.tk),⟨_,rfl⟩,q⟩
end
end L3
namespace L3
open PySem PySem.Spec PyProof.Rows L2 PySem.SeqAt
abbrev R3:=W->W->Hw->Q3->Prop
def kE (K:yL) (H:Hp) (Q:VK):Q3:=fun w G'=>∀ v H',yJ K H H'->xN K H' w v->xR K H' G'->Q v H'
def nU (r:R3):Prop:=∀ x y G (Q Q':Q3),(∀ w G',Q w G'->Q' w G')->r x y G Q->r x y G Q'
def pR (K:yL) (r:R3):R2:=fun v u H Q=>∃ x y G,xN K H x v/\xN K H y u/\xR K H G/\r x y G (kE K H Q)
def jF:Operator->R3
 | .Add=>fun x y G Q=>match x,y with
  | .int i,.int j=>Q (.int (i+j)) G
  | .str a,.str b=>a.length+b.length<=sizeLine/\Q (.str (a++b)) G
  | .tup a,.tup b=>a.length+b.length<=sizeLine/\Q (.tup (a++b)) G
  | .ref p,.ref q=>(match G p,G q with
   |some (.lst xs),some (.lst ys)=>xs.length+ys.length<=sizeLine/\∀ r,G r=none->Q (.ref r) (put G r (.lst (xs++ys)))
   |_,_=>False)
  |_,_=>False
 | .Sub=>fun x y G Q=>match x,y with
  | .int i,.int j=>Q (.int (i-j)) G
  |_,_=>False
 | .Mult=>fun x y G Q=>match x,y with
  | .int i,.int j=>CMul i j/\Q (.int (i * j)) G
  | .tup xs,.int k=>(k=1/\Q (.tup xs) G)\/(k=0/\xs≠[]/\Q (.tup []) G)
  | .str a,.int k=>(k=1/\Q (.str a) G)\/(k=0/\Q (.str Str.empty) G)
  | .ref p,.int k=>(match G p with
   |some (.lst xs)=>(-(2 ^ 63)<=k/\k<2 ^ 63/\xs.length * k.toNat<=sizeLine)/\∀ r,G r=none->Q (.ref r) (put G r (.lst (List.replicate k.toNat xs).flatten))
   |_=>False)
  |_,_=>False
 | .Mod=>fun x y G Q=>match x,y with
  | .int i,.int j=>0<j/\Q (.int (i % j)) G
  |_,_=>False
 | .FloorDiv=>fun x y G Q=>match x,y with
  | .int i,.int j=>CDiv i j/\Q (.int (i / j)) G
  |_,_=>False
 | .Pow=>fun x y G Q=>match x,y with
  | .int i,.int j=>CPow i j/\Q (.int (i ^ j.toNat)) G
  |_,_=>False
 |_=>fun _ _ _ _=>False
theorem zax:∀ op,nU (jF op):=by
 intro op x y G Q Q' k h
 cases op with
 |Add =>
  cases x with
  |int i=>cases y with
   |int j=>exact k _ _ h
   |_=>exact h.elim
  |str i=>cases y with
   |str j=>exact ⟨h.1,k _ _ h.2⟩
   |_=>exact h.elim
  |tup a=>cases y with
   |tup b=>exact ⟨h.1,k _ _ h.2⟩
   |_=>exact h.elim
  |ref p=>cases y with
   |ref q =>
    simp only [jF] at h ⊢
    split at h
    .exact ⟨h.1,fun r hr=>k _ _ (h.2 r hr)⟩
    .exact h.elim
   |_=>exact h.elim
  |_=>exact h.elim
 |Mult =>
  cases x with
  |int i=>cases y with
   |int j=>exact ⟨h.1,k _ _ h.2⟩
   |_=>exact h.elim
  |tup a=>cases y with
   |int j=>exact h.imp (fun z=>⟨z.1,k _ _ z.2⟩) fun z=>⟨z.1,z.2.1,k _ _ z.2.2⟩
   |_=>exact h.elim
  |str a=>cases y with
   |int j=>exact h.imp (fun z=>⟨z.1,k _ _ z.2⟩) fun z=>⟨z.1,k _ _ z.2⟩
   |_=>exact h.elim
  |ref p=>cases y with
   |int q =>
    simp only [jF] at h ⊢
    split at h
    .exact ⟨h.1,fun r hr=>k _ _ (h.2 r hr)⟩
    .exact h.elim
   |_=>exact h.elim
  |_=>exact h.elim
 |Sub =>
  cases x with
  |int i=>cases y with
   |int j=>exact k _ _ h
   |_=>exact h.elim
  |_=>exact h.elim
 |Mod =>
  cases x with
  |int i=>cases y with
   |int j=>exact ⟨h.1,k _ _ h.2⟩
   |_=>exact h.elim
  |_=>exact h.elim
 |FloorDiv =>
  cases x with
  |int i=>cases y with
   |int j=>exact ⟨h.1,k _ _ h.2⟩
   |_=>exact h.elim
  |_=>exact h.elim
 |Pow =>
  cases x with
  |int i=>cases y with
   |int j=>exact ⟨h.1,k _ _ h.2⟩
   |_=>exact h.elim
  |_=>exact h.elim
 |_=>exact h.elim
section
variable {X : Cx}
theorem zF.nil_iff {K:yL} {H:Hp} {ws:List W} {vs:List V} (h:zF K H ws vs):vs=[]↔ws=[]:=by
 have:=h.length
 constructor
 .intro e;subst e;exact List.eq_nil_of_length_eq_zero this.symm
 .intro e;subst e;exact List.eq_nil_of_length_eq_zero this
theorem zin {pins:List (Addr×Obj)} {s:Shared} {σ:L2.St} {H:Hp} {a b:Addr} {Q:Value->Shared->Prop} {E:Value->Shared->Prop} {ws:List Value} (ht:IsTup s.heap a #[]) (hb:IsTup s.heap b ws.toArray) (h:Q (.ref b) s) :
  wpAny (model X.prog X.w) X.A (binaryOp .Add (.ref a) (.ref b)) Q E s:=by
 obtain ⟨⟨cls,dd,data,sl⟩,ho,hc,n,hd⟩:=id ht;obtain ⟨⟨cls2,dd2,data2,sl2⟩,ho2,hc2,n2,hd2⟩:=id hb;simp only at hc hd hc2 hd2;subst hc hd hc2 hd2
 exact concat_meets ⟨_,ho,rfl⟩ ⟨_,ho2,rfl⟩ noFill_tuple_add seq_tuple_add PySem.F.slot_tuple_add PySem.F.entry_tuple_add (PySem.F.args_tuple_add_2 _ _)
  (tuple_addW0 a b #[] ws.toArray n n2 dd dd2 sl sl2 rfl) ⟨ho,ho2,h⟩
theorem jQ {K:yL} {H:Hp} {G:Hw} {Q:VK} {ws:List W} {vs:List V} (ab:xR K H G) (r:zF K H ws vs) (h:∀ p,G p=none->kE K H Q (.ref p) (put G p (.lst ws))):∀ p,H p=none->Q (.ref p) (xI H p (.lst vs)):=fun p hp =>
 h p (ab.free hp) _ _ (wZ hp) rfl (ab.new hp ⟨vs,rfl,r.mono (wZ hp)⟩)
theorem mB {K:yL} {H:Hp} {G:Hw} {Q:VK} {ws:List W} {vs:List V} (ab:xR K H G) (r:zF K H ws vs) (h:kE K H Q (.tup ws) G):∀ p,H p=none->Q (.ref p) (xI H p (.tup vs)):=fun p hp =>
 h _ _ (wZ hp) ⟨p,vs,rfl,.of wW,r.mono (wZ hp)⟩ (ab.tup hp)
theorem zF.flat {K:yL} {H:Hp} {ws:List W} {vs:List V} (h:zF K H ws vs):∀ k:Nat,zF K H (List.replicate k ws).flatten (List.replicate k vs).flatten
 | 0=>rfl
 |k+1=>by rw [List.replicate_succ,List.replicate_succ,List.flatten_cons,List.flatten_cons];exact h.append (zF.flat h k)
theorem zkG (op:Operator):kB X (binaryOp op) (pR X.K (jF op)):=by
 intro pins s σ H v u a b Q I rv ru h;obtain ⟨x,y,G,rx,ry,ab,h⟩:=h
 cases op with
 |Add =>
  cases x with
  |int i =>
   cases y with
   |int j=>cases rx;cases ry;exact zjJ pins s σ H _ _ _ _ Q I rv ru ⟨i,j,rfl,rfl,h _ _ .refl rfl ab⟩
   |_=>exact h.elim
  |str i =>
   cases y with
   |str j=>cases rx;cases ry;exact zce pins s σ H _ _ _ _ Q I rv ru ⟨i,j,rfl,rfl,h.1,h.2 _ _ .refl rfl ab⟩
   |_=>exact h.elim
  |tup xs =>
   cases y with
   |tup ys =>
    obtain ⟨a1,vs,its,rfl,rfl,q,rs,vr,it,_⟩:=xW I rx rv;obtain ⟨b1,us,its',rfl,rfl,q',rs',vr',it',_⟩:=xW I ry ru
    by_cases e:xs=[]
    .subst e;have e1:vs=[]:=(rs.nil_iff).mpr rfl;subst e1;cases vr;exact zin (pins:=pins) (σ:=σ) (H:=H) it it' ⟨.ref b1,H,I,rfl,h.2 _ _ .refl ⟨b1,us,rfl,q',rs'⟩ ab⟩
    .refine zhv pins s σ H (.ref a1) (.ref b1) _ _ Q I rfl rfl ⟨a1,b1,vs,us,rfl,rfl,q,q',fun z=>e (rs.nil_iff.mp z),by rw [rs.length,rs'.length];exact h.1,fun z=>?_,fun _=>?_⟩
     .have:ys=[]:=rs'.nil_iff.mp z;subst this;exact h.2 _ _ .refl ⟨a1,vs,rfl,q,by rw [List.append_nil];exact rs⟩ ab
     .exact mB ab (rs.append rs') h.2
   |_=>exact h.elim
  |ref p =>
   cases y with
   |ref q =>
    cases rx;cases ry;simp only [jF] at h
    split at h
    .rename_i xs ys e1 e2;obtain ⟨vs,q1,r1⟩:=ab.lst e1;obtain ⟨us,q2,r2⟩:=ab.lst e2;exact zjI pins s σ H _ _ _ _ Q I rv ru ⟨p,q,vs,us,rfl,rfl,q1,q2,by rw [r1.length,r2.length];exact h.1,jQ ab (r1.append r2) h.2⟩
    .exact h.elim
   |_=>exact h.elim
  |_=>exact h.elim
 |Sub =>
  cases x with
  |int i =>
   cases y with
   |int j=>cases rx;cases ry;exact zjD pins s σ H _ _ _ _ Q I rv ru ⟨i,j,rfl,rfl,h _ _ .refl rfl ab⟩
   |_=>exact h.elim
  |_=>exact h.elim
 |Mult =>
  cases x with
  |int i =>
   cases y with
   |int j=>cases rx;cases ry;exact zjG pins s σ H _ _ _ _ Q I rv ru ⟨i,j,rfl,rfl,h.1,h.2 _ _ .refl rfl ab⟩
   |_=>exact h.elim
  |tup xs =>
   cases y with
   |int k =>
    obtain ⟨a1,vs,its,rfl,rfl,q,rs,vr,it,_⟩:=xW I rx rv;cases ry;refine zhs pins s σ H (.ref a1) (.int k) _ _ Q I rfl ru ⟨a1,k,vs,rfl,rfl,q,?_⟩;rcases h with ⟨e,h⟩|⟨e,hx,h⟩
    .exact .inl ⟨e,h _ _ .refl ⟨a1,vs,rfl,q,rs⟩ ab⟩
    .exact .inr ⟨e,fun z=>hx (rs.nil_iff.mp z),mB ab (ws:=[]) (vs:=[]) rfl h⟩
   |_=>exact h.elim
  |str i =>
   cases y with
   |int k =>
    cases rx;cases ry;exact zht pins s σ H _ _ _ _ Q I rv ru ⟨i,k,rfl,rfl,h.imp (fun z=>⟨z.1,z.2 _ _ .refl rfl ab⟩) fun z=>⟨z.1,z.2 _ _ .refl rfl ab⟩⟩
   |_=>exact h.elim
  |ref p =>
   cases y with
   |int k =>
    cases rx;cases ry;simp only [jF] at h
    split at h
    .rename_i xs e1;obtain ⟨vs,q1,r1⟩:=ab.lst e1;exact zjE pins s σ H _ _ _ _ Q I rv ru ⟨p,k,vs,rfl,rfl,q1,h.1.1,h.1.2.1,by rw [r1.length];exact h.1.2.2,jQ ab (r1.flat _) h.2⟩
    .exact h.elim
   |_=>exact h.elim
  |_=>exact h.elim
 |Mod =>
  cases x with
  |int i =>
   cases y with
   |int j=>cases rx;cases ry;exact zjH pins s σ H _ _ _ _ Q I rv ru ⟨i,j,rfl,rfl,h.1,h.2 _ _ .refl rfl ab⟩
   |_=>exact h.elim
  |_=>exact h.elim
 |FloorDiv =>
  cases x with
  |int i =>
   cases y with
   |int j=>cases rx;cases ry;exact zhu pins s σ H _ _ _ _ Q I rv ru ⟨i,j,rfl,rfl,h.1,h.2 _ _ .refl rfl ab⟩
   |_=>exact h.elim
  |_=>exact h.elim
 |Pow =>
  cases x with
  |int i =>
   cases y with
   |int j=>cases rx;cases ry;exact zjF pins s σ H _ _ _ _ Q I rv ru ⟨i,j,rfl,rfl,h.1,h.2 _ _ .refl rfl ab⟩
   |_=>exact h.elim
  |_=>exact h.elim
 |_=>exact h.elim
end
theorem fF {k:Str}:∀ {es:List DictEntry} {ks:List Str} {vs:List V},ziy es ks vs->(es.all fun e=>isExactStrKey e.key)=true/\(match (ks.zip vs).lookup k with
  |some v=>∃ u,(es.find? fun e=>e.key.isStr k).map (·.val)=some u/\zD v u
  |none=>(es.find? fun e=>e.key.isStr k).map (·.val)=none)
 | [],ks,vs,h=>by obtain ⟨rfl,rfl⟩:=h;exact ⟨rfl,rfl⟩
 |e::r,ks,vs,h=>by
  obtain ⟨x,t,v,ks',vs',rfl,rfl,hk,hv,hr⟩:=h;have ih:=fF (k:=k) hr;refine ⟨by rw [List.all_cons,hk,ih.1];rfl,?_⟩;rw [List.zip_cons_cons,List.lookup_cons,List.find?_cons,KTD.key_is hk k]
  by_cases hx:k=x
  .subst hx;simp only [beq_self_eq_true,decide_true];exact ⟨e.val,rfl,hv⟩
  .have e1:(k==x)=false:=by simpa using hx
   rw [e1,decide_eq_false hx];exact ih.2
theorem zdE {X:Cx} {pins:List (Addr×Obj)} {σ:L2.St} {H:Hp} {s:Shared} {a:Addr} {ks:List Str} {vs:List V} {k:Str} {tk:Tok} {A:Around} {Q:Option Value->Shared->Prop} {E:Value->Shared->Prop} (I:Inv X pins σ H s) (h:KD X.K a ks vs)
  (q:match (ks.zip vs).lookup k with|some v=>∀ u s',zD v u->Inv X pins σ H s'->Q (some u) s'|none=>∀ s',Inv X pins σ H s'->Q none s'):wpAny (model X.prog X.w) A (dictGet a (.str k tk)) Q E s:=by
 obtain ⟨o,es,ep,l,_,hd,_,_,hr⟩:=h;have ho:=I.kIn _ _ l;obtain ⟨hx,hf⟩:=fF (k:=k) hr;have J:Inv X pins σ H { s with toks:=s.toks+1 }:=I.tok _;unfold dictGet
 try with_reducible refine wpAny_holding ?_
 refine wpAny_bind (wpAny_pyHash_str (wpAny_bind ?_));refine KTD.kt_dictFind_strs (s:={ s with toks:=s.toks+1 }) ho hd (by obtain ⟨es'⟩:=es;simpa using hx) ?_
 have key:Q (findBy (fun k v=>v.isStr k) es k) { s with toks:=s.toks+1 }:=by
  have e:findBy (fun k v=>v.isStr k) es k=(es.toList.find? fun e=>e.key.isStr k).map (·.val):=by obtain ⟨es'⟩:=es;simp [findBy]
  rw [e];revert q hf
  cases (ks.zip vs).lookup k with
  |some v=>intro q hf;obtain ⟨u,e1,r⟩:=hf;rw [e1];exact q u _ r J
  |none=>intro q hf;rw [hf];exact q _ J
 rw [findBy_of_findIdx?] at key;revert key
 cases es.findIdx? fun e=>e.key.isStr k with
 |none=>exact fun key=>wpAny_pure key
 |some i=>exact fun key=>wpAny_bind (wpAny_dictEntries (s:={ s with toks:=s.toks+1 }) ho hd (wpAny_pure key))
theorem zft {X:Cx} {pins:List (Addr×Obj)} {σ:L2.St} {H:Hp} {s:Shared} {a:Addr} {ks:List Str} {vs:List V} (I:Inv X pins σ H s) (h:KD X.K a ks vs):s.TypeIs (.ref a) "dict" := by
 obtain ⟨o,es,ep,l,hc,_⟩:=h;exact ⟨o,I.kIn _ _ l,hc.1⟩
theorem qA {K:yL} {H:Hp} {k:Str} {w:W}:∀ {ks:List Str} {ws:List W} {vs:List V},zF K H ws vs->(ks.zip ws).lookup k=some w->∃ v,(ks.zip vs).lookup k=some v/\xN K H w v
 | [],ws,vs,_,e=>by simp at e
 |x::ks,[],vs,_,e=>by simp at e
 |x::ks,y::ws,vs,r,e=>by
  obtain ⟨v,vs',rfl,rv,rs⟩:=r;rw [List.zip_cons_cons,List.lookup_cons] at e ⊢
  cases hx:(k==x) with
  |true=>rw [hx] at e;cases e;exact ⟨v,rfl,rv⟩
  |false=>rw [hx] at e;exact qA rs e
theorem uG {K:yL} {H:Hp} {k:Str}:∀ {ks:List Str} {ws:List W} {vs:List V},zF K H ws vs->(ks.zip ws).lookup k=none->(ks.zip vs).lookup k=none
 | [],ws,vs,_,e=>by simp
 |x::ks,[],vs,r,e=>by rw [show vs=[] from r];rfl
 |x::ks,y::ws,vs,r,e=>by
  obtain ⟨v,vs',rfl,rv,rs⟩:=r;rw [List.zip_cons_cons,List.lookup_cons] at e ⊢
  cases hx:(k==x) with
  |true=>rw [hx] at e;cases e
  |false=>rw [hx] at e;exact uG rs e
theorem zgt {X:Cx} {pins:List (Addr×Obj)} {σ:L2.St} {H:Hp} {s:Shared} {a:Addr} {ks:List Str} {vs:List V} {k:Str} {tk:Tok} {A:Around} {Q:Bool->Shared->Prop} {E:Value->Shared->Prop} (I:Inv X pins σ H s) (h:KD X.K a ks vs)
  (q:∀ s',Inv X pins σ H s'->Q ((ks.zip vs).lookup k).isSome s'):wpAny (model X.prog X.w) A (contains (.ref a) (.str k tk)) Q E s:=by
 have hT:=zft I h;have hd:(a==sysModules)=false:=by obtain ⟨o,es,ep,l,_,_,_,z,_⟩:=h;exact z
 have nn:¬ ((some (Value.builtin "dict.__contains__")==some Value.none)=true):=by rw [beq_builtin_none];simp
 unfold contains;refine wpAny_holding (wpAny_bind (wpAny_specialOf hT PySem.F.slot_dict_contains.lookup ?_));dsimp only;rw [if_neg nn];refine wpAny_bind (wpAny_callSpecialUnlessNone?_slot (name:=Str.ofString "__contains__") hT PySem.F.slot_dict_contains (wpAny_call_entry PySem.F.slot_dict_contains hT PySem.F.entry_dict_contains (show wpAny _ _ (dictGet a (.str k tk) >>= _) _ _ s from wpAny_bind (zdE I h ?_)) (PySem.F.args_dict_contains_2 _ _)));revert q
 cases (ks.zip vs).lookup k with
 |some v=>exact fun q u s' r J=>wpAny_pure ⟨_,rfl,wpAny_truthy_bool (q s' J)⟩
 |none=>exact fun q s' J=>wpAny_bind (wpAny_pendingKey_other hd (wpAny_pure ⟨_,rfl,wpAny_truthy_bool (q s' J)⟩))
def eqG (G:Hw):W->W->Option Bool
 | .ref p,.ref q=>match yU G p,yU G q with
  |some a,some b=>if (wF a&&wF b&&decide (min (jN a) (jN b)<=150))=true then some (wJ a b) else none
  |_,_=>none
 |x,y=>if (pur x&&pur y&&decide (min (dep x) (dep y)<=150))=true then some (wY x y) else none
def inR (neg:Bool) (x:W) (ws:List W) (G:Hw) (Q:Q3):Prop:=(pur x=true/\wF ws=true/\min (jN ws) (dep x)<=150)/\Q (.bl (if neg then !ws.any fun w=>wY w x else ws.any fun w=>wY w x)) G
def inStr (neg:Bool) (i j:Str):Bool:=if neg then !(!(Builtin.Str.occurrences j i 0 j.length 1).isEmpty) else !(Builtin.Str.occurrences j i 0 j.length 1).isEmpty
def bG:W->Option yD
 | .int i=>some (.inl i)
 | .str x=>some (.inr x)
 |_=>none
def hasK {α:Type} (kvs:List (yD×α)) (k:yD):Bool:=kvs.any fun p=>decide (p.1=k)
def nI (neg:Bool):R3:=fun x y G Q=>match y with
 | .tup ws=>inR neg x ws G Q
 | .ref p=>(match G p with
  |some (.lst ws)=>inR neg x ws G Q
  |some (.fix ws)=>inR neg x ws G Q
  |some (.dic kvs)=>(match bG x with|some k=>Q (.bl (if neg then !hasK kvs k else hasK kvs k)) G|none=>False)
  |_=>False)
 | .str j=>(match x with
  | .str i=>Q (.bl (inStr neg i j)) G
  |_=>False)
 | .dcf ks ws=>(match x with
  | .str k=>Q (.bl (if neg then !((ks.zip ws).lookup k).isSome else ((ks.zip ws).lookup k).isSome)) G
  |_=>False)
 |_=>False
def isR (neg:Bool):R3:=fun x y G Q=>match y with
 | .non=>Q (.bl (if neg then (match x with|.non=>false|_=>true) else (match x with|.non=>true|_=>false))) G
 | .bl b=>Q (.bl (if neg then (match x with|.bl c=>!(c==b)|_=>true) else (match x with|.bl c=>c==b|_=>false))) G
 |_=>False
def nK (p:Int->Int->Bool) (q:Option (Str->Str->Bool):=none):R3:=fun x y G Q=>match x,y with
 | .int i,.int j=>Q (.bl (p i j)) G
 | .str i,.str j=>(match q with
  |some q=>Q (.bl (q i j)) G
  |none=>False)
 |_,_=>False
def ltS (x y:Str):Bool:=decide (x.cps.toList<y.cps.toList)
def leS (x y:Str):Bool:=!decide (y.cps.toList<x.cps.toList)
def leR:R3:=fun x y G Q=>match x,y with
 | .int i,.int j=>Q (.bl (decide (i<=j))) G
 | .str i,.str j=>Q (.bl (leS i j)) G
 |_,_=>False
def yI:CmpOp->R3
 | .Eq=>fun x y G Q=>match eqG G x y with|some b=>Q (.bl b) G|none=>False
 | .NotEq=>fun x y G Q=>match eqG G x y with|some b=>Q (.bl (!b)) G|none=>False
 | .Is=>isR false
 | .IsNot=>isR true
 | .In=>nI false
 | .NotIn=>nI true
 | .Lt=>nK (fun i j=>decide (i<j)) (some ltS)
 | .LtE=>leR
 | .Gt=>nK fun i j=>decide (j<i)
 | .GtE=>nK fun i j=>decide (j<=i)
theorem pY (p:Int->Int->Bool) (q:Option (Str->Str->Bool)):nU (nK p q):=by
 intro x y G Q Q' k h;cases q<;>cases x<;>cases y<;>simp only [nK] at h ⊢<;>first|exact h.elim|exact k _ _ h
theorem zfn:nU leR:=by
 intro x y G Q Q' k h;cases x<;>cases y<;>simp only [leR] at h ⊢<;>first|exact h.elim|exact k _ _ h
theorem bL (neg:Bool):nU (nI neg):=by
 intro x y G Q Q' k h;unfold nI at h ⊢
 cases y with
 |tup ws=>exact ⟨h.1,k _ _ h.2⟩
 |ref p =>
  simp only at h ⊢
  split at h
  .exact ⟨h.1,k _ _ h.2⟩
  .exact ⟨h.1,k _ _ h.2⟩
  .split at h
   .exact k _ _ h
   .exact h.elim
  .exact h.elim
 |str j =>
  cases x with
  |str i=>exact k _ _ h
  |_=>exact h.elim
 |dcf ks ws =>
  cases x with
  |str i=>exact k _ _ h
  |_=>exact h.elim
 |_=>exact h.elim
theorem zbI (neg:Bool):nU (isR neg):=by
 intro x y G Q Q' k h;unfold isR at h ⊢
 cases y with
 |non=>exact k _ _ h
 |bl b=>exact k _ _ h
 |_=>exact h.elim
theorem xX:∀ op,nU (yI op):=by
 intro op x y G Q Q' k h
 cases op with
 |Eq =>
  simp only [yI] at h ⊢
  split at h
  .exact k _ _ h
  .exact h.elim
 |NotEq =>
  simp only [yI] at h ⊢
  split at h
  .exact k _ _ h
  .exact h.elim
 |Is=>exact zbI false x y G Q Q' k h
 |IsNot=>exact zbI true x y G Q Q' k h
 |In=>exact bL false x y G Q Q' k h
 |NotIn=>exact bL true x y G Q Q' k h
 |Lt=>exact pY (fun i j=>decide (i<j)) (some ltS) x y G Q Q' k h
 |LtE=>exact zfn x y G Q Q' k h
 |Gt=>exact pY (fun i j=>decide (j<i)) none x y G Q Q' k h
 |GtE=>exact pY (fun i j=>decide (j<=i)) none x y G Q Q' k h
section
variable {X : Cx} {pins : List (Addr × Obj)} {σ : L2.St} {H : Hp} {s : Shared}
open Classical in
def eqI (K:yL) (H:Hp) (x:W) (y:Value):Bool:=if ∃ w v,xN K H w v/\zD v y/\pur w=true/\wY w x=true then true else false
theorem zgz (I:Inv X pins σ H s) {x w:W} {v:V} {y:Value} (r:xN X.K H w v) (q:zD v y) (p:pur w=true):eqI X.K H x y=wY w x:=by
 unfold eqI
 cases e:wY w x with
 |true=>rw [if_pos ⟨w,v,r,q,p,e⟩]
 |false =>
  rw [if_neg];rintro ⟨w',v',r',q',p',e'⟩;have:=zD.inj q q';subst this;rw [zc5 I w' w v r' r p' p,e] at e';cases e'
theorem zh4 (I:Inv X pins σ H s) {x:W}:∀ {ws:List W} {vs:List V} {us:List Value},zF X.K H ws vs->zE vs us->wF ws=true->us.any (eqI X.K H x)=ws.any fun w=>wY w x:=by
 intro ws
 induction ws with
 |nil=>intro vs us h r _;rw [show _=[] from h] at r;cases r;rfl
 |cons w ws ih =>
  intro vs us h r p;obtain ⟨v,t,e,h,hs⟩:=h;subst e
  cases r with
  |cons r rs =>
   have p':=xQ.mp p;rw [List.any_cons,List.any_cons,zgz I h r p'.1,ih hs rs p'.2]
theorem zbT {w:W}:∀ {ws:List W},w∈ws->dep w<=jN ws:=by
 intro ws
 induction ws with
 |nil=>intro h;cases h
 |cons x xs ih =>
  intro h;simp only [jN];rcases List.mem_cons.mp h with e|h
  .rw [e];exact Nat.le_max_left _ _
  .exact Nat.le_trans (ih h) (Nat.le_max_right _ _)
theorem zkz (I:Inv X pins σ H s) {x:W} {vx:V} {ux:Value} {A:Around} (rx:xN X.K H x vx) (qx:zD vx ux) (px:pur x=true):∀ {ws:List W} {vs:List V} {us:List Value},zF X.K H ws vs->zE vs us->wF ws=true->A.units+min (jN ws) (dep x)<cLine ->
  ∀ y∈us,EqAt A s y ux (eqI X.K H x y):=by
 intro ws
 induction ws with
 |nil=>intro vs us h r _ _ y hy;rw [show _=[] from h] at r;cases r;cases hy
 |cons w ws ih =>
  intro vs us h r p hu y hy;obtain ⟨v,t,e,h,hs⟩:=h;subst e;simp only [jN] at hu
  cases r with
  |cons r rs =>
   have p':=xQ.mp p;rcases List.mem_cons.mp hy with e|hy
   .subst e;rw [zgz I h r p'.1];exact zdY I w x v vx _ ux A h r rx qx p'.1 px (by omega)
   .exact ih hs rs p'.2 (by omega) y hy
theorem zaW {M:Model} {A:Around} {E:Value->Shared->Prop} {Q:Value->Shared->Prop} {v:Value} {b:Bool} (hb:∀ p,v≠.builtin p) (h:Q (.bool (v==.bool b)) s):wpAny M A (compareOp .Is v (.bool b)) Q E s:=by
 cases v<;>first|exact wpAny_pure h|exact absurd rfl (hb _)
theorem dZ {M:Model} {A:Around} {E:Value->Shared->Prop} {Q:Value->Shared->Prop} {v:Value} {b:Bool} (hb:∀ p,v≠.builtin p) (h:Q (.bool (!(v==.bool b))) s):wpAny M A (compareOp .IsNot v (.bool b)) Q E s:=by
 cases v<;>first|exact wpAny_pure h|exact absurd rfl (hb _)
theorem zf8 {v:V} {u:Value} (r:zD v u):∀ p,u≠.builtin p:=by
 cases v<;>first
  | (obtain ⟨t,e⟩:=r;subst e;intro p z;cases z)
  | (intro p z;subst z;cases r)
theorem zkn (neg:Bool):kB X (compareOp (if neg then .IsNot else .Is)) (pR X.K (isR neg)):=by
 intro pins s σ H v u a b Q I rv ru h;obtain ⟨x,y,G,rx,ry,ab,h⟩:=h;have fin:∀ k k':Bool,kE X.K H Q (.bl k) G->k=k'->EP X pins σ Q (.bool k') s:=fun k k' q e=>⟨.bl k',H,I,rfl,by rw [← e];exact q _ _ .refl rfl ab⟩
 cases y with
 |non =>
  cases ry;cases ru
  cases neg with
  |false =>
   refine is_none_gen (fin _ _ h ?_)
   cases x<;>first
    | (cases rx;cases rv;rfl)
    | (cases rx;obtain ⟨t,rfl⟩:=rv;rfl)
    | (obtain ⟨_,_,rfl,_⟩:=rx;cases rv;rfl)
  |true =>
   refine isnot_none_gen (fin _ _ h ?_)
   cases x<;>first
    | (cases rx;cases rv;rfl)
    | (cases rx;obtain ⟨t,rfl⟩:=rv;rfl)
    | (obtain ⟨_,_,rfl,_⟩:=rx;cases rv;rfl)
 |bl c =>
  cases ry;cases ru
  cases neg with
  |false =>
   refine zaW (zf8 rv) (fin _ _ h ?_)
   cases x<;>first
    | (cases rx;cases rv;rfl)
    | (cases rx;cases rv;rename_i d;cases c<;>cases d<;>rfl)
    | (cases rx;obtain ⟨t,rfl⟩:=rv;rfl)
    | (obtain ⟨_,_,rfl,_⟩:=rx;cases rv;rfl)
  |true =>
   refine dZ (zf8 rv) (fin _ _ h ?_)
   cases x<;>first
    | (cases rx;cases rv;rfl)
    | (cases rx;cases rv;rename_i d;cases c<;>cases d<;>rfl)
    | (cases rx;obtain ⟨t,rfl⟩:=rv;rfl)
    | (obtain ⟨_,_,rfl,_⟩:=rx;cases rv;rfl)
 |_=>exact h.elim
theorem zfr {K:yL} {H:Hp} {y:W} {v:V} {k:yD} (r:xN K H y v) (h:bG y=some k):v=kV k:=by
 cases y<;>cases h<;>exact r
theorem zdJ {K:yL} {H:Hp} {k:yD}:∀ {l:List (yD×W)} {l':List (yD×V)},yS K H l l'->(uY l' k).isSome=hasK l k
 | [],_,h=>by rw [show _=[] from h];rfl
 |p::r,_,⟨v,t,e,h,hr⟩=>by
  have ih:=zdJ (k:=k) hr;subst e;unfold uY hasK at ih ⊢;rw [List.find?_cons,List.any_cons]
  cases decide (p.1=k) with
  |true=>rfl
  |false=>exact ih
theorem hU (us:List Value) (e:Value->Bool):us.toArray.any e=us.any e:=by simp
theorem zgm (neg:Bool) (hu:X.A.units+200<cLine):kB X (compareOp (if neg then .NotIn else .In)) (pR X.K (nI neg)):=by
 intro pins s σ H v u a b Q I rv ru h;obtain ⟨x,y,G,rx,ry,ab,h⟩:=h;have fin:∀ k:Bool,kE X.K H Q (.bl k) G->EP X pins σ Q (.bool k) s:=fun k q=>⟨.bl k,H,I,rfl,q _ _ .refl rfl ab⟩
 have sq:∀ (p:Addr) (ws:List W) (vs:List V) (its:List Value),zF X.K H ws vs->zE vs its->(s.heap.IsTuple p its.toArray\/s.heap.IsList p its.toArray)->inR neg x ws G (kE X.K H Q) ->
   wpAny (model X.prog X.w) X.A (compareOp (if neg then .NotIn else .In) a (.ref p)) (EP X pins σ Q) X.xe s:=fun p ws vs its rs vr ht hin=>by
  obtain ⟨⟨p1,p2,p3⟩,q⟩:=hin;have he:∀ y,y∈its.toArray->EqAt X.A.in1 s y a (eqI X.K H x y):=fun y hy=>zkz I rx rv p1 rs vr p2 (by show X.A.units+1+_<_;omega) y (by simpa using hy);have ea:=zh4 I (x:=x) rs vr p2
  cases neg with
  |false =>
   rcases ht with ht|ht
   .exact in_tupleAt _ ht he (by rw [hU,ea];exact fin _ q)
   .exact in_listAt _ ht he (by rw [hU,ea];exact fin _ q)
  |true =>
   rcases ht with ht|ht
   .exact notIn_tupleAt _ ht he (by rw [hU,ea];exact fin _ q)
   .exact notIn_listAt _ ht he (by rw [hU,ea];exact fin _ q)
 cases y with
 |tup ws =>
  obtain ⟨b1,us,its',rfl,rfl,q',rs',vr',it',_⟩:=xW I ry ru;exact sq b1 ws us its' rs' vr' (.inl it') h
 |ref p =>
  cases ry;cases ru
  have lk:∀ ws,yU G p=some ws->inR neg x ws G (kE X.K H Q)->wpAny (model X.prog X.w) X.A (compareOp (if neg then .NotIn else .In) a (.ref p)) (EP X pins σ Q) X.xe s:=fun ws e q=>by
   obtain ⟨vs,its,_,rs,vr,il,_⟩:=zdp I ab e;exact sq p ws vs its rs vr (.inr il) q
  simp only [nI] at h
  split at h
  .rename_i ws e;exact lk ws (by unfold yU;rw [e]) h
  .rename_i ws e;exact lk ws (by unfold yU;rw [e]) h
  .rename_i kvs e
   split at h
   .rename_i kk ek;obtain ⟨l,e1,rk⟩:=ab.dic e;have ev:=zfr rx ek;subst ev;have hs:(uY l kk).isSome=hasK kvs kk:=zdJ rk;have dg:DGet H p (kV kk) (uY l kk):=.inl ⟨l,kk,.inl e1,rfl,rfl⟩
    cases neg with
    |false=>exact d_in (by omega) I dg rv fun s' I'=>⟨.bl (uY l kk).isSome,H,I',rfl,by rw [hs];exact h _ H .refl rfl ab⟩
    |true=>exact zij (by omega) I dg rv fun s' I'=>⟨.bl (!(uY l kk).isSome),H,I',rfl,by rw [hs];exact h _ H .refl rfl ab⟩
   .exact h.elim
  .exact h.elim
 |str j =>
  cases x with
  |str i =>
   cases rx;cases ry
   cases neg with
   |false=>exact zdh pins s σ H _ _ _ _ Q I rv ru ⟨i,j,rfl,rfl,h _ _ .refl rfl ab⟩
   |true=>exact zaf pins s σ H _ _ _ _ Q I rv ru ⟨i,j,rfl,rfl,h _ _ .refl rfl ab⟩
  |_=>exact h.elim
 |dcf ks ws =>
  cases x with
  |str k =>
   obtain ⟨a1,vs,rfl,kd,rs⟩:=ry;obtain rfl:b=Value.ref a1:=ru;cases rx;obtain ⟨tk,rfl⟩:=rv
   have hs:((ks.zip vs).lookup k).isSome=((ks.zip ws).lookup k).isSome:=by
    cases e:(ks.zip ws).lookup k with
    |none=>rw [uG rs e];rfl
    |some w=>obtain ⟨v,e',_⟩:=qA rs e;rw [e'];rfl
   cases neg with
   |false =>
    show wpAny _ _ (contains (.ref a1) (.str k tk) >>= fun z=>pure (Value.bool z)) _ _ _;exact wpAny_bind (zgt I kd fun s' J=>wpAny_pure ⟨.bl _,H,J,rfl,by rw [hs];exact h _ _ .refl rfl ab⟩)
   |true =>
    show wpAny _ _ (contains (.ref a1) (.str k tk) >>= fun z=>pure (Value.bool (!z))) _ _ _;exact wpAny_bind (zgt I kd fun s' J=>wpAny_pure ⟨.bl _,H,J,rfl,by rw [hs];exact h _ _ .refl rfl ab⟩)
  |_=>exact h.elim
 |_=>exact h.elim
theorem zdf {op:CmpOp} {p:Int->Int->Bool} {f:Option (Str->Str->Bool)} (ho:kB X (compareOp op) (rI0 fun i j=>.bl (p i j)))
  (hq:∀ q,f=some q->∀ (i j:Str) (t t':Tok) (s:Shared) (Q:Value->Shared->Prop),Q (.bool (q i j)) s->wpAny (model X.prog X.w) X.A (compareOp op (.str i t) (.str j t')) Q X.xe s:=by (intro _ z;cases z)):kB X (compareOp op) (pR X.K (nK p f)):=by
 intro pins s σ H v u a b Q I rv ru h;obtain ⟨x,y,G,rx,ry,ab,h⟩:=h
 cases x with
 |int i =>
  cases y with
  |int j=>cases rx;cases ry;exact ho pins s σ H _ _ _ _ Q I rv ru ⟨i,j,rfl,rfl,h _ _ .refl rfl ab⟩
  |_=>exact h.elim
 |str i =>
  cases y with
  |str j =>
   cases f with
   |none=>exact h.elim
   |some q =>
    cases rx;cases ry;obtain ⟨t,rfl⟩:=rv;obtain ⟨t',rfl⟩:=ru;exact hq q rfl i j t t' s _ ⟨.bl (q i j),H,I,rfl,h _ _ .refl rfl ab⟩
  |_=>exact h.elim
 |_=>exact h.elim
theorem le_ok:kB X (compareOp .LtE) (pR X.K leR):=by
 intro pins s σ H v u a b Q I rv ru h;obtain ⟨x,y,G,rx,ry,ab,h⟩:=h
 cases x with
 |int i =>
  cases y with
  |int j=>cases rx;cases ry;exact op_le pins s σ H _ _ _ _ Q I rv ru ⟨i,j,rfl,rfl,h _ _ .refl rfl ab⟩
  |_=>exact h.elim
 |str i =>
  cases y with
  |str j =>
   cases rx;cases ry;obtain ⟨t,rfl⟩:=rv;obtain ⟨t',rfl⟩:=ru;exact PySem.P.le_str ⟨.bl (leS i j),H,I,rfl,h _ _ .refl rfl ab⟩
  |_=>exact h.elim
 |_=>exact h.elim
theorem zgB (I:Inv X pins σ H s) (hu:X.A.units+200<cLine) {G:Hw} {x y:W} {v v':V} {u u':Value} {b:Bool} (ab:xR X.K H G) (h:xN X.K H x v) (r:zD v u) (h':xN X.K H y v') (r':zD v' u') (e:eqG G x y=some b) :
  RcAt X.A s u u' b/\RcNeAt X.A s u u' (!b):=by
 have gen:∀ (hh:(if (pur x&&pur y&&decide (min (dep x) (dep y)<=150))=true then some (wY x y) else none)=some b),RcAt X.A s u u' b/\RcNeAt X.A s u u' (!b):=fun hh=>by
  split at hh
  .rename_i c;simp only [Bool.and_eq_true,decide_eq_true_eq] at c;cases hh;exact zjg I x y v v' u u' X.A h r h' r' c.1.1 c.1.2 (by omega)
  .cases hh
 cases x with
 |ref p =>
  cases y with
  |ref q =>
   simp only [eqG] at e
   split at e
   .rename_i a1 b1 e1 e2
    split at e
    .rename_i c;simp only [Bool.and_eq_true,decide_eq_true_eq] at c;cases e;cases h;cases h';cases r;cases r';exact zjh I ab e1 e2 c.1.1 c.1.2 (by omega)
    .cases e
   .cases e
  |_=>exact gen e
 |_=>cases y<;>exact gen e
theorem qY (hu:X.A.units+200<cLine) (op:CmpOp):kB X (compareOp op) (pR X.K (yI op)):=by
 cases op with
 |Eq =>
  intro pins s σ H v u a b Q I rv ru h;obtain ⟨x,y,G,rx,ry,ab,h⟩:=h;simp only [yI] at h
  split at h
  .rename_i k e;exact (zgB I hu ab rx rv ry ru e).1 _ _ _ _ ⟨.bl k,H,I,rfl,h _ _ .refl rfl ab⟩
  .exact h.elim
 |NotEq =>
  intro pins s σ H v u a b Q I rv ru h;obtain ⟨x,y,G,rx,ry,ab,h⟩:=h;simp only [yI] at h
  split at h
  .rename_i k e;exact (zgB I hu ab rx rv ry ru e).2 _ _ _ _ ⟨.bl (!k),H,I,rfl,h _ _ .refl rfl ab⟩
  .exact h.elim
 |Is=>exact zkn false
 |IsNot=>exact zkn true
 |In=>exact zgm false hu
 |NotIn=>exact zgm true hu
 |Lt=>exact zdf (f:=some ltS) op_lt fun q e i j t t' s Q z=>by cases e;exact lt_str z
 |LtE=>exact le_ok
 |Gt=>exact zdf (f:=none) op_gt
 |GtE=>exact zdf (f:=none) op_ge
end
end L3
namespace L3
open PySem PySem.Spec PyProof.Rows L2 HT
section
variable {prog : Program} {w : World} {A : Around} {E : Value → Shared → Prop} {s : Shared}
theorem zdP {t sl:Addr} {items:Array Value} {vl vu:Value} {lo hi:Option Int} {Q:Value->Shared->Prop} (ht:IsTup s.heap t items) (hs:s.heap.IsSliceOf sl vl vu .none) (pl:IsPart vl lo) (pu:IsPart vu hi)
  (hw:wN items.size 0 lo=0/\wN items.size items.size hi=items.size) (h:Q (.ref t) s):wpAny (model prog w) A (getItem (.ref t) (.ref sl)) Q E s:=by
 obtain ⟨os,hos,hcs,hds⟩:=id hs;have hTs:s.TypeIs (.ref sl) "slice" := ⟨os,hos,hcs⟩;unfold getItem
 try with_reducible refine wpAny_holding ?_
 first|refine wpAny_bind (wpAny_pure ?_)|skip
 refine wpAny_bind (wpAny_sequenceKey ht.typeIs (by decide) ?_)
 refine wpAny_bind (wpAny_callSpecial?_slot (name:=Str.ofString "__getitem__") ht.typeIs PyProof.Rows.slot_tuple_getitem
  (wpAny_call_entry PyProof.Rows.slot_tuple_getitem ht.typeIs entry_tuple_getitem ?_ (args_tuple_getitem _ _)))
 show wpAny _ _ (Builtin.Tuple.tupleItemsOf (.ref t) >>= _) _ _ s;refine wpAny_bind (tupleItemsOf_ ht ?_);refine wpAny_bind (wpAny_typeOf hTs ?_);rw [if_pos (by decide)];refine wpAny_bind (kJ hs pl pu ?_)
 have yes:(((wN items.size 0 lo:Nat):Int)==0&&(1:Int)==1&&(wN items.size items.size hi-wN items.size 0 lo)==items.size)=true:=by
  rw [hw.1,hw.2];simp
 show wpAny _ _ (if (((wN items.size 0 lo:Nat):Int)==0&&(1:Int)==1&&(wN items.size items.size hi-wN items.size 0 lo)==items.size)=true then _ else _) _ _ s;rw [if_pos yes];refine wpAny_bind (m:=Builtin.Tuple.tupleIsExact (.ref t)) ?_;unfold Builtin.Tuple.tupleIsExact;refine wpAny_bind (wpAny_typeOf ht.typeIs (wpAny_pure ?_));rw [if_pos (by decide)];exact wpAny_bind (wpAny_rule (wpAny_pure ⟨_,rfl,wpAny_pure h⟩))
end
section
variable {X : Cx}
def rSlW (K:yL):V->Option Int->Option Int->Hp->VK->Prop:=fun x lo hi H Q=>∃ a xs,x=.ref a/\sO K H a xs/\(HT.wN xs.length 0 lo=0/\HT.wN xs.length xs.length hi=xs.length)/\Q (.ref a) H
theorem zeN:SlR X (rSlW X.K):=by
 intro pins s σ H x v vl vu lo hi sl Q I rx hs pl pu h;obtain ⟨a,xs,rfl,hx,hw,q⟩:=h;cases rx;obtain ⟨its,r,ht,hz⟩:=I.tuple hx;have hlen:its.toArray.size=xs.length:=by rw [zzS];exact r.length.symm
 exact ⟨"tuple", _,PyProof.Rows.slot_tuple_getitem.lookup,ht.typeIs,zdP ht hs pl pu (by rw [hlen];exact hw) ⟨.ref a,H,I,rfl,q⟩⟩
end
end L3
namespace L3
open PySem PySem.Spec PyProof.Rows L2 PySem.SeqAt
def qO (G:Hw):W->Option Bool
 | .non=>some false
 | .bl b=>some b
 | .int i=>some (i != 0)
 | .str y=>if y.length<=sizeLine then some ((y.length:Int) != 0) else none
 | .tup ws=>some (!ws.isEmpty)
 | .ref p=>match G p with
  |some (.lst ws)=>some (!ws.isEmpty)
  |some (.fix ws)=>some (!ws.isEmpty)
  |some (.dic kvs)=>some (!kvs.isEmpty)
  |_=>none
 |_=>none
theorem zF.empty {K:yL} {H:Hp} {ws:List W} {vs:List V} (h:zF K H ws vs):vs.isEmpty=ws.isEmpty:=by
 have:=h.length;cases ws<;>cases vs<;>simp_all
theorem yS.length {K:yL} {H:Hp} {κ:Type}:∀ {l:List (κ×W)} {l':List (κ×V)},yS K H l l'->l'.length=l.length
 | [],_,h=>by rw [show _=[] from h];rfl
 |_::_,_,⟨v,t,e,_,r⟩=>by rw [e,List.length_cons,List.length_cons,yS.length r]
theorem zgP {K:yL} {H:Hp} {G:Hw} {w:W} {v:V} {k:Bool} (r:xN K H w v) (ab:xR K H G) (h:qO G w=some k):TruV K v H k:=by
 cases w with
 |non=>cases r;cases h;rfl
 |bl b=>cases r;cases h;rfl
 |int i=>cases r;cases h;rfl
 |str y =>
  cases r;simp only [qO] at h
  split at h
  .rename_i c;cases h;exact ⟨c,rfl⟩
  .cases h
 |ty n=>cases h
 |lsf n=>cases h
 |exc _ _ _=>cases h
 |dcf _ _=>cases h
 |tup ws =>
  obtain ⟨a,vs,rfl,q,rs⟩:=r;cases h;exact .inr (.inl ⟨vs,q,by rw [rs.empty]⟩)
 |ref p =>
  cases r
  have lk:∀ ws,yU G p=some ws->k=!ws.isEmpty->TruV K (.ref p) H k:=fun ws e q=>by
   obtain ⟨vs,sq,rs⟩:=ab.seq e;exact .inl ⟨vs,sq,by rw [rs.empty];exact q⟩
  simp only [qO] at h
  split at h
  .rename_i ws e;cases h;exact lk ws (by unfold yU;rw [e]) rfl
  .rename_i ws e;cases h;exact lk ws (by unfold yU;rw [e]) rfl
  .rename_i kvs e;cases h;obtain ⟨l,e',rk⟩:=ab.dic e;refine .inr (.inr ⟨l,e',?_⟩);have:=rk.length;cases kvs<;>cases l<;>simp_all
  .cases h
def dget {α:Type} (kvs:List (yD×α)) (k:yD):Option α:=(kvs.find? fun kv=>decide (kv.1=k)).map (·.2)
def cL {α:Type} (kvs:List (yD×α)) (k:yD) (v:α):List (yD×α) :=
 if (kvs.any fun kv=>decide (kv.1=k))=true then kvs.map (fun kv=>if kv.1=k then (kv.1,v) else kv) else kvs++[(k,v)]
theorem yS.get {K:yL} {H:Hp} {k:yD} {w:W}:∀ {l:List (yD×W)} {l':List (yD×V)},yS K H l l'->dget l k=some w->∃ v,uY l' k=some v/\xN K H w v
 | [],_,h,e=>by cases e
 |p::r,_,⟨v,t,e,h,hr⟩,q=>by
  subst e;unfold dget at q;rw [List.find?_cons] at q;unfold uY;rw [List.find?_cons]
  by_cases hk:p.1=k
  .simp only [hk,decide_true] at q ⊢;cases q;exact ⟨v,rfl,h⟩
  .simp only [hk,decide_false] at q ⊢;exact yS.get hr q
theorem yS.any {K:yL} {H:Hp} {k:yD}:∀ {l:List (yD×W)} {l':List (yD×V)},yS K H l l'->(l'.any fun kv=>decide (kv.1=k))=l.any fun kv=>decide (kv.1=k)
 | [],_,h=>by rw [show _=[] from h];rfl
 |p::r,_,⟨v,t,e,h,hr⟩=>by subst e;rw [List.any_cons,List.any_cons,yS.any hr]
theorem yS.app {K:yL} {H:Hp} {κ:Type}:∀ {l:List (κ×W)} {l':List (κ×V)} {m:List (κ×W)} {m':List (κ×V)},yS K H l l'->yS K H m m'->yS K H (l++m) (l'++m')
 | [],_,_,_,h,h'=>by rw [show _=[] from h];exact h'
 |p::r,_,_,_,⟨v,t,e,h,hr⟩,h'=>by rw [e];exact ⟨v,_,rfl,h,yS.app hr h'⟩
theorem yS.repl {K:yL} {H:Hp} {k:yD} {w:W} {v:V} (q:xN K H w v):∀ {l:List (yD×W)} {l':List (yD×V)},yS K H l l' ->
  yS K H (l.map fun kv=>if kv.1=k then (kv.1,w) else kv) (l'.map fun kv=>if kv.1=k then (kv.1,v) else kv)
 | [],_,h=>by rw [show _=[] from h];rfl
 |p::r,_,⟨u,t,e,h,hr⟩=>by
  subst e;rw [zzU,zzU]
  by_cases hk:p.1=k
  .simp only [hk,if_true];exact ⟨v,_,rfl,q,yS.repl q hr⟩
  .simp only [hk,if_false];exact ⟨u,_,rfl,h,yS.repl q hr⟩
theorem yS.put {K:yL} {H:Hp} {k:yD} {w:W} {v:V} {l:List (yD×W)} {l':List (yD×V)} (h:yS K H l l') (q:xN K H w v):yS K H (cL l k w) (uX l' k v):=by
 unfold cL uX;rw [h.any]
 split
 .exact yS.repl q h
 .exact h.app ⟨v,[],rfl,q,rfl⟩
theorem zdA {K:yL} {H:Hp} {y:W} {v:V} {k:yD} (r:xN K H y v) (h:bG y=some k):v=kV k:=by
 cases y<;>first|(cases h;cases r;rfl)|cases h
theorem ix_kd {X:Cx} {value slice:PySem.Expr} {pins:List (Addr×Obj)} {s:Shared} {σ:L2.St} {H:Hp} {a:Addr} {u:Value} {ks:List Str} {vs:List V} {k:Str} {v:V} {Q:VK} (I:Inv X pins σ H s) (h:KD X.K a ks vs) (ry:zD (.str k) u) (e:(ks.zip vs).lookup k=some v) (q:Q v H)
  (hs:subscripted slice false (.ref a) u=operate [.ref a,u] (getItem (.ref a) u)):wpAny (model X.prog X.w) X.A (subscriptTail value slice (.ref a) u) (EP X pins σ Q) X.xe s:=by
 have hT:=zft I h;obtain ⟨tk,rfl⟩:=ry;refine tail_any hT PySem.F.slot_dict_getitem.lookup ?_ hs;unfold getItem
 try with_reducible refine wpAny_holding ?_
 refine wpAny_bind (wpAny_sequenceKey hT (by decide) (wpAny_bind ?_));refine wpAny_callSpecial?_slot (name:=Str.ofString "__getitem__") hT PySem.F.slot_dict_getitem (wpAny_call_entry PySem.F.slot_dict_getitem hT PySem.F.entry_dict_getitem ?_ (PySem.F.args_dict_getitem_2 _ _));show wpAny _ _ (dictGet a (.str k tk) >>= _) _ _ s;refine wpAny_bind (zdE I h ?_);rw [e];exact fun u s' r J=>wpAny_pure ⟨u,rfl,wpAny_pure ⟨v,H,J,r,q⟩⟩
def kY:R3:=fun x y G Q=>match x,y with
 | .tup ws,.int i=>(match tE ws i with|some w=>Q w G|none=>False)
 | .str z,.int i=>z.length<=sizeLine/\(match tE z.cps.toList i with|some c=>Q (.str ⟨#[c]⟩) G|none=>False)
 | .ref p,y=>(match G p with
  |some (.lst ws)=>(match y with|.int i=>(match tE ws i with|some w=>Q w G|none=>False)|_=>False)
  |some (.fix ws)=>(match y with|.int i=>(match tE ws i with|some w=>Q w G|none=>False)|_=>False)
  |some (.dic kvs)=>(match bG y with|some k=>(match dget kvs k with|some w=>Q w G|none=>False)|none=>False)
  |_=>False)
 | .dcf ks ws,.str k=>(match (ks.zip ws).lookup k with|some w=>Q w G|none=>False)
 |_,_=>False
theorem zel {K:yL} {H:Hp} {ws:List W} {vs:List V} {i:Int} {w:W} (h:zF K H ws vs) (e:tE ws i=some w):∃ v,tE vs i=some v/\xN K H w v:=by
 unfold tE at e ⊢;rw [h.length]
 cases q:cN ws.length i with
 |none=>rw [q] at e;cases e
 |some j =>
  rw [q] at e;exact h.get e
theorem zbH:nU kY:=by
 intro x y G Q Q' k h
 cases x with
 |tup ws =>
  cases y<;>simp only [kY] at h ⊢<;>first
   |exact h.elim
   | (split at h<;>first|exact k _ _ h|exact h.elim)
 |str z =>
  cases y<;>simp only [kY] at h ⊢<;>first
   |exact h.elim
   | (refine ⟨h.1,?_⟩;have h:=h.2;split at h<;>first|exact k _ _ h|exact h.elim)
 |ref p =>
  simp only [kY] at h ⊢
  split at h
  .cases y<;>simp only at h ⊢<;>first
    |exact h.elim
    | (split at h<;>first|exact k _ _ h|exact h.elim)
  .cases y<;>simp only at h ⊢<;>first
    |exact h.elim
    | (split at h<;>first|exact k _ _ h|exact h.elim)
  .split at h
   .split at h
    .exact k _ _ h
    .exact h.elim
   .exact h.elim
  .exact h.elim
 |dcf ks ws =>
  cases y<;>simp only [kY] at h ⊢<;>first
   |exact h.elim
   | (split at h<;>first|exact k _ _ h|exact h.elim)
 |_=>exact h.elim
section
variable {X : Cx}
theorem zkc (hu:X.A.units+200<cLine) {value slice:PySem.Expr} {pins:List (Addr×Obj)} {s:Shared} {σ:L2.St} {H:Hp} {a:Addr} {u:Value} {y v:V} {Q:VK} (I:Inv X pins σ H s) (g:DGet H a y (some v)) (hd:IsD H a) (ry:zD y u) (q:Q v H)
  (hs:subscripted slice false (.ref a) u=operate [.ref a,u] (getItem (.ref a) u)):wpAny (model X.prog X.w) X.A (subscriptTail value slice (.ref a) u) (EP X pins σ Q) X.xe s:=by
 exact tail_any (zko I hd).1 PySem.F.slot_dict_getitem.lookup (zd7 (by omega) I g ry fun w' s' I' r'=>⟨v,H,I',r',q⟩) hs
theorem ix_ok (hu:X.A.units+200<cLine):IxR X (pR X.K kY):=by
 intro value slice pins s σ H v u a b Q I rv ru h hs;obtain ⟨x,y,G,rx,ry,ab,h⟩:=h
 cases x with
 |tup ws =>
  cases y with
  |int i =>
   obtain ⟨a1,vs,rfl,q,rs⟩:=rx;cases ry;simp only [kY] at h
   split at h
   .rename_i w e;obtain ⟨vv,ev,rp⟩:=zel rs e;exact zka value slice pins s σ H _ _ _ _ Q I rv ru ⟨a1,vs,i,vv,rfl,rfl,q,ev,h _ _ .refl rp ab⟩ hs
   .exact h.elim
  |_=>exact h.elim
 |str z =>
  cases y with
  |int i =>
   cases rx;cases ry;simp only [kY] at h;obtain ⟨hz,h⟩:=h
   split at h
   .rename_i c e;exact zkb value slice pins s σ H _ _ _ _ Q I rv ru ⟨z,i,c,rfl,rfl,hz,e,h _ _ .refl rfl ab⟩ hs
   .exact h.elim
  |_=>exact h.elim
 |ref p =>
  cases rx
  have lk:∀ ws i w,yU G p=some ws->y=.int i->tE ws i=some w->kE X.K H Q w G->wpAny (model X.prog X.w) X.A (subscriptTail value slice a b) (EP X pins σ Q) X.xe s:=fun ws i w e ey ew q=>by
   subst ey;obtain ⟨vs,sq,rs⟩:=ab.seq e;obtain ⟨vv,ev,rp⟩:=zel rs ew;cases ry;exact zhJ value slice pins s σ H _ _ _ _ Q I rv ru ⟨p,vs,i,vv,rfl,rfl,sq,ev,q _ _ .refl rp ab⟩ hs
  simp only [kY] at h
  split at h
  .rename_i ws e
   cases y with
   |int i =>
    simp only at h
    split at h
    .rename_i w ew;exact lk ws i w (by unfold yU;rw [e]) rfl ew h
    .exact h.elim
   |_=>exact h.elim
  .rename_i ws e
   cases y with
   |int i =>
    simp only at h
    split at h
    .rename_i w ew;exact lk ws i w (by unfold yU;rw [e]) rfl ew h
    .exact h.elim
   |_=>exact h.elim
  .rename_i kvs e
   split at h
   .rename_i k ek
    split at h
    .rename_i w ew;obtain ⟨l,e',rk⟩:=ab.dic e;obtain ⟨vv,ev,rp⟩:=rk.get ew;have ey:=zdA ry ek;subst ey;obtain rfl:a=Value.ref p:=rv;exact zkc hu I (.inl ⟨l,k,.inl e',rfl,ev.symm⟩) (.inl ⟨l,.inl e'⟩) ru (h _ _ .refl rp ab) hs
    .exact h.elim
   .exact h.elim
  .exact h.elim
 |dcf ks ws =>
  cases y with
  |str k =>
   obtain ⟨a1,vs,rfl,kd,rs⟩:=rx;obtain rfl:a=Value.ref a1:=rv;cases (show u=.str k from ry);simp only [kY] at h
   split at h
   .rename_i w e;obtain ⟨vv,ev,rp⟩:=qA rs e;exact ix_kd I kd ru ev (h _ _ .refl rp ab) hs
   .exact h.elim
  |_=>exact h.elim
 |_=>exact h.elim
end
def mQ {α:Type} (xs:List α) (lo hi:Option Int):List α:=(xs.drop (HT.wN xs.length 0 lo)).take (HT.wN xs.length xs.length hi-HT.wN xs.length 0 lo)
theorem za0 {K:yL} {H:Hp} {ws:List W} {vs:List V} (h:zF K H ws vs) (lo hi:Option Int):zF K H (mQ ws lo hi) (cutV vs lo hi):=by
 unfold mQ cutV;rw [h.length];exact (h.drop _).take _
def slR:W->Option Int->Option Int->Hw->Q3->Prop:=fun x lo hi G Q=>match x with
 | .tup ws=>Q (.tup (mQ ws lo hi)) G
 | .ref p=>(match yU G p with|some ws=>∀ r,G r=none->Q (.ref r) (put G r (.lst (mQ ws lo hi)))|none=>False)
 | .lsf ws=>∀ r,G r=none->Q (.ref r) (put G r (.lst (mQ ws lo hi)))
 | .str x=>x.length<=sizeLine/\Q (.str (Txt.slice x lo hi)) G
 |_=>False
theorem zbn {x:W} {lo hi:Option Int} {G:Hw} {Q Q':Q3} (k:∀ w G',Q w G'->Q' w G') (h:slR x lo hi G Q):slR x lo hi G Q':=by
 cases x with
 |tup ws=>exact k _ _ h
 |ref p =>
  simp only [slR] at h ⊢
  split at h
  .exact fun r hr=>k _ _ (h r hr)
  .exact h.elim
 |lsf ws=>exact fun r hr=>k _ _ (h r hr)
 |str x=>exact ⟨h.1,k _ _ h.2⟩
 |_=>exact h.elim
theorem ziZ {X:Cx} {pins:List (Addr×Obj)} {s:Shared} {σ:L2.St} {H:Hp} {x:Str} {v vl vu:Value} {lo hi:Option Int} {sl:Addr} {Q:VK} (I:Inv X pins σ H s) (rv:zD (.str x) v) (hs:s.heap.IsSliceOf sl vl vu .none)
  (pl:IsPart vl lo) (pu:IsPart vu hi) (hz:x.length<=sizeLine) (q:Q (.str (Txt.slice x lo hi)) H):∃ T id,typeLookup (.type T) "__getitem__" = pure (some (.builtin id))/\s.TypeIs v T/\wpAny (model X.prog X.w) X.A (getItem v (.ref sl)) (EP X pins σ Q) X.xe s:=by
 obtain ⟨t,rfl⟩:=rv;have fin:∀ t' k,0<k->EP X pins σ Q (.str (Txt.slice x lo hi) t') { s with toks:=k }:=fun t' k h0=>⟨.str (Txt.slice x lo hi),H,I.tok _ h0,⟨t',rfl⟩,q⟩;have hz':=Nat.le_trans (Txt.slice_le x lo hi) hz;refine ⟨"str", _,F.slot_str_getitem.lookup,typeIs_str _ _ _,?_⟩;obtain ⟨o,ho,hc,hd⟩:=hs
 cases pl with
 |none =>
  cases pu with
  |none=>exact wH I.tk (wpAny_getItem_str_slice (l:=none) (u:=none) (st:=none) ⟨o,ho,hc,hd⟩ rfl (post_val_or_str ⟨hz',fin⟩))
  |int j tj=>exact wH I.tk (wpAny_getItem_str_slice (l:=none) (u:=some (j,tj)) (st:=none) ⟨o,ho,hc,hd⟩ rfl (post_val_or_str ⟨hz',fin⟩))
 |int i ti =>
  cases pu with
  |none=>exact wH I.tk (wpAny_getItem_str_slice (l:=some (i,ti)) (u:=none) (st:=none) ⟨o,ho,hc,hd⟩ rfl (post_val_or_str ⟨hz',fin⟩))
  |int j tj=>exact wH I.tk (wpAny_getItem_str_slice (l:=some (i,ti)) (u:=some (j,tj)) (st:=none) ⟨o,ho,hc,hd⟩ rfl (post_val_or_str ⟨hz',fin⟩))
def lowSl (K:yL) (r:W->Option Int->Option Int->Hw->Q3->Prop):V->Option Int->Option Int->Hp->VK->Prop:=fun v lo hi H Q=>∃ x G,xN K H x v/\xR K H G/\r x lo hi G (kE K H Q)
theorem sl_ok {X:Cx}:SlR X (lowSl X.K slR):=by
 intro pins s σ H v u vl vu lo hi sl Q I rv hs pl pu h;obtain ⟨x,G,rx,ab,h⟩:=h
 cases x with
 |tup ws =>
  obtain ⟨a,vs,rfl,q,rs⟩:=rx
  by_cases hw:HT.wN vs.length 0 lo=0/\HT.wN vs.length vs.length hi=vs.length
  .have e:mQ ws lo hi=ws:=by
    have hw':=hw;rw [rs.length] at hw';unfold mQ;rw [hw'.1,hw'.2,List.drop_zero,Nat.sub_zero,List.take_length]
   have h':kE X.K H Q (.tup (mQ ws lo hi)) G:=h;rw [e] at h';exact zeN pins s σ H _ _ vl vu lo hi sl Q I rv hs pl pu ⟨a,vs,rfl,q,hw,h' _ _ .refl ⟨a,vs,rfl,q,rs⟩ ab⟩
  .exact ziY pins s σ H _ _ vl vu lo hi sl Q I rv hs pl pu ⟨a,vs,rfl,q,hw,mB ab (za0 rs lo hi) h⟩
 |ref p =>
  cases rx;simp only [slR] at h
  split at h
  .rename_i ws e;obtain ⟨vs,sq,rs⟩:=ab.seq e;exact zcW pins s σ H _ _ vl vu lo hi sl Q I rv hs pl pu ⟨p,vs,rfl,sq,jQ ab (za0 rs lo hi) h⟩
  .exact h.elim
 |lsf ws =>
  obtain ⟨a,vs,rfl,q,rs⟩:=rx;exact zcW pins s σ H _ _ vl vu lo hi sl Q I rv hs pl pu ⟨a,vs,rfl,.inr q,jQ ab (za0 rs lo hi) h⟩
 |str x =>
  cases (show v=.str x from rx);exact ziZ I rv hs pl pu h.1 (h.2 _ _ .refl rfl ab)
 |_=>exact h.elim
def setR:W->W->W->Hw->(Hw->Prop)->Prop:=fun o i v G Q=>match o with
 | .ref p=>(match G p with
  |some (.lst ws)=>(match i with|.int k=>(match cN ws.length k with|some j=>Q (put G p (.lst (ws.set j v)))|none=>False)|_=>False)
  |some (.dic kvs)=>(match bG i with|some k=>kvs.length<sizeLine/\Q (put G p (.dic (cL kvs k v)))|none=>False)
  |_=>False)
 |_=>False
theorem zcX {o i v:W} {G:Hw} {Q Q':Hw->Prop} (k:∀ G',Q G'->Q' G') (h:setR o i v G Q):setR o i v G Q':=by
 cases o with
 |ref p =>
  simp only [setR] at h ⊢
  split at h
  .cases i<;>simp only at h ⊢<;>first
    |exact h.elim
    | (split at h<;>first|exact k _ h|exact h.elim)
  .split at h
   .exact ⟨h.1,k _ h.2⟩
   .exact h.elim
  .exact h.elim
 |_=>exact h.elim
def zgo (K:yL):TSet:=fun o i v H Q=>∃ x y z G,xN K H x o/\xN K H y i/\xN K H z v/\xR K H G/\setR x y z G fun G'=>∀ H',yJ K H H'->xR K H' G'->Q H'
theorem zi2 {X:Cx} (hu:X.A.units+200<cLine):PSet X (zgo X.K):=by
 intro pins s σ H o i v ov iv u Q I ro ri rv h;obtain ⟨x,y,z,G,rx,ry,rz,ab,h⟩:=h
 cases x with
 |ref p =>
  cases rx;simp only [setR] at h
  split at h
  .rename_i ws e
   cases y with
   |int k =>
    simp only at h
    split at h
    .rename_i j ej;cases ry;obtain ⟨vs,q1,r1⟩:=ab.lst e;refine zeP pins s σ H _ _ _ _ _ _ Q I ro ri rv ⟨p,vs,k,j,rfl,rfl,q1,by rw [r1.length];exact ej,?_⟩;have g:=ab.grow (u:=.lst (vs.set j v)) e;exact h _ g (ab.chg e ⟨_,rfl,((r1.mono g).set (rz.mono g) j)⟩)
    .exact h.elim
   |_=>exact h.elim
  .rename_i kvs e
   split at h
   .rename_i k ek;obtain ⟨l,e',rk⟩:=ab.dic e;have ey:=zdA ry ek;subst ey;obtain rfl:ov=Value.ref p:=ro;refine zd6 (by omega) I (.inl ⟨l,k,e',rfl,by rw [rk.length];exact h.1,rfl⟩) ri rv fun s' I'=>⟨_,I',?_⟩;have g:=ab.grow (u:=.dK (uX l k v)) e;exact h.2 _ g (ab.chg e ⟨_,rfl,(rk.mono g).put (rz.mono g)⟩)
   .exact h.elim
  .exact h.elim
 |_=>exact h.elim
end L3
namespace L3
open PySem PySem.Spec PyProof.Rows L2
abbrev XQ:=Str->List (Str×W)->Hw->Prop
def XN:XQ:=fun _ _ _=>False
abbrev uU:=List W->Hw->Q3->XQ->Prop
structure Fn3 where
 nm:Str
 sp:uU
structure Mt3 where
 nm:Str
 T:String
 sp:W->List W->Hw->Q3->Prop
abbrev I3:=jM->Hw->(List W->(Hw->Prop)->Hw->Prop)->Prop
structure It3 where
 nm:Str
 sp:List W->Hw->(List W->(Hw->Prop)->Hw->Prop)->Prop
structure Sx3 where
 m:Scope->Expr->Option (List Expr)
 sp:List W->Hw->Q3->Prop
structure Ix3 where
 m:Scope->Expr->Option (List Expr)
 sp:List W->Hw->(List W->(Hw->Prop)->Hw->Prop)->Prop
structure Ctx3 where
 fn:List Fn3
 gl:List (Str×W)
 mt:List Mt3
 it:List It3
 cl:List (Addr×List Str)
 sx:List Sx3
 ix:List Ix3
set_option genInjectivity false
mutual
inductive IE where
 |var (i:Nat)|con (c:Const)|glb (i:Nat)
 |bin (op:Operator) (a b:IE)|neg (a:IE)|not (a:IE)
 |cmp (op:CmpOp) (a b:IE)|chn (o1 o2:CmpOp) (a b c:IE)
 |and (a b:IE)|or (a b:IE)|ite (c a b:IE)
 |ix (a i:IE)|sl (a:IE) (lo hi:IO)
 |tup (es:IEs)|lst (es:IEs)|dct (ks:List Str) (es:IEs)
 |call (f:Nat) (es:IEs)|mth (m:Nat) (o:IE) (es:IEs)|att (o:IE) (f:Str)
 |lc (tg:ITg) (names:List Str) (caps:List Nat) (it:II) (c:IO) (elt:IE)
 |spc (i:Nat) (es:IEs)|ch3 (o1 o2 o3:CmpOp) (a b c d:IE)
inductive IO where
 |no|yes (e:IE)
inductive IEs where
 |nil|cons (e:IE) (es:IEs)
inductive II where
 |val (e:IE)|blt (i:Nat) (es:IEs)|spc (i:Nat) (es:IEs)
inductive ITg where
 |nm (i:Nat)|tup (ts:ITgs)
inductive ITgs where
 |nil|cons (t:ITg) (ts:ITgs)
end
mutual
inductive IS where
 |asg (i:Nat) (e:IE)|asgT (ts:ITgs) (e:IE)|asgI (o i e:IE)|asgA (o:IE) (f:Str) (e:IE)
 |ex (e:IE)|ret (e:IE)|retN|pass|brk|cnt
 |ite (c:IE) (a b:ISs)|whl (c:IE) (b:ISs)|for (tg:ITg) (it:II) (b:ISs)|dead|asgS (i j:Nat) (e:IE)
inductive ISs where
 |nil|cons (s:IS) (ss:ISs)
end
def zJ:Const->Option W
 | .none=>some .non
 | .bool b=>some (.bl b)
 | .int i=>some (.int i)
 | .str x=>some (.str x)
 |_=>none
abbrev G3:=W->jM->Hw->(jM->Hw->Prop)->Prop
abbrev Gs3:=List W->jM->Hw->(jM->Hw->Prop)->Prop
mutual
def zW:ITg->G3
 | .nm i=>fun w σ G Q=>Q (σ.set i (some w)) G
 | .tup ts=>fun w σ G Q=>match w with
  | .tup ws=>zY ts ws σ G Q
  |_=>False
def zY:ITgs->Gs3
 | .nil=>fun ws σ G Q=>match ws with | []=>Q σ G|_=>False
 | .cons t ts=>fun ws σ G Q=>match ws with
  |w::r=>zW t w σ G fun σ' G'=>zY ts r σ' G' Q
  | []=>False
end
def unl (G:Hw) (w:W):W:=match w with
 | .ref p=>(match yU G p with|some ws=>.tup ws|none=>.ref p)
 |w=>w
def capS (k:Nat) (caps:List Nat) (σ:jM):jM:=List.replicate k none++caps.map fun j=>(σ[j]?).join
def sgs (x:Str):List W:=x.cps.toList.map fun c=>.str ⟨#[c]⟩
def kW:yD->W
 | .inl i=>.int i
 | .inr x=>.str x
def zd4 (G:Hw) (p:Addr):Option (List (yD×W)):=match G p with
 |some (.dic kvs)=>some kvs
 |some (.fzd kvs)=>some kvs
 |_=>none
def kX (w:W) (G:Hw) (R:List W->(Hw->Prop)->Hw->Prop):Prop:=match w with
 | .tup ws=>R ws (fun _=>True) G
 | .ref p=>(match yU G p with
  |some ws=>R ws (fun G'=>yU G' p=some ws) G
  |none=>(match zd4 G p with
   |some kvs=>R (kvs.map fun kv=>kW kv.1) (fun G'=>G' p=some (.fzd kvs)) (put G p (.fzd kvs))
   |none=>False))
 | .str x=>R (sgs x) (fun _=>True) G
 |_=>False
def lcR (items:List W) (stab:Hw->Prop) (G1:Hw) (turn:W->Hw->(Option W->Hw->Prop)->Prop) (Q:Q3):Prop :=
 ∃ Pv:Nat->List W->Hw->Prop,Pv 0 [] G1/\(∀ i acc G,Pv i acc G->i<=items.length->stab G/\acc.length<=i)/\items.length<=sizeLine /\
  (∀ i w acc G,items[i]?=some w->Pv i acc G->turn w G fun o G'=>match o with|some x=>Pv (i+1) (acc++[x]) G'|none=>Pv (i+1) acc G') /\
  ∀ acc G,Pv items.length acc G->∀ p,G p=none->Q (.ref p) (put G p (.lst acc))
def zK (w:W) (G:Hw) (Q:Q3):Prop:=match w with|.int i=>Q (.int (-i)) G|_=>False
def yX (w:W) (Q:Bool->Prop):Prop:=match w with|.bl b=>Q b|_=>False
def zL (w:W) (Q:Int->Prop):Prop:=match w with|.int i=>Q i|_=>False
def tyW (G:Hw):W->String->Prop
 | .str _,T=>T = "str"
 | .ref p,T=>match G p with
  |some (.lst _)=>T = "list"
  |some (.fix _)=>T = "list"
  |some (.dic _)=>T = "dict"
  |_=>False
 |_,_=>False
def attR (cl:List (Addr×List Str)) (f:Str) (w:W) (G:Hw) (Q:Q3):Prop:=match w with
 | .ref p=>(match G p with
  |some (.ins C fs)=>(∃ l,(C,l)∈cl/\f∈l)/\(match fs.lookup f with|some v=>Q v G|none=>False)
  |_=>False)
 |_=>False
def zc7 (f:Str) (v:W):List (Str×W)->List (Str×W)
 | []=>[(f,v)]
 | (g,x)::r=>if g=f then (g,v)::r else (g,x)::zc7 f v r
def satR (cl:List (Addr×List Str)) (f:Str) (o v:W) (G:Hw) (Q:Hw->Prop):Prop:=match o with
 | .ref p=>(match G p with
  |some (.ins C fs)=>(∃ l,(C,l)∈cl/\f∈l)/\fs.length<1000/\Q (put G p (.ins C (zc7 f v fs)))
  |_=>False)
 |_=>False
def zii (ks:List Str) (ws:List W):List (yD×W):=(ks.zip ws).foldl (fun acc kv=>cL acc (.inr kv.1) kv.2) []
structure ET where
 e:E3
 t:T3
def zP (e:E3):T3:=fun σ G Q=>e σ G fun w G1=>match qO G1 w with|some b=>Q b G1|none=>False
def yV (e:E3):T3:=fun σ G Q=>e σ G fun w G1=>yX w fun b=>Q b G1
def yZ (e:E3):ET:=⟨e,zP e⟩
def yW (e:E3):ET:=⟨e,yV e⟩
def sY:List E3->A3
 | []=>fun _ G Q=>Q [] G
 |e::es=>fun σ G Q=>e σ G fun x G1=>sY es σ G1 fun xs G2=>Q (x::xs) G2
section
variable (Γ : Ctx3)
mutual
def zG (E:XQ):IE->ET
 | .var i=>yZ fun σ G Q=>match σ[i]? with|some (some w)=>Q w G|_=>False
 | .con c=>yZ fun σ G Q=>match zJ c with|some w=>Q w G|none=>False
 | .glb i=>yZ fun σ G Q=>match Γ.gl[i]? with|some p=>Q p.2 G|none=>False
 | .bin op a b=>yZ fun σ G Q=>(zG E a).e σ G fun x G1=>(zG E b).e σ G1 fun y G2=>jF op x y G2 Q
 | .neg a=>yZ fun σ G Q=>(zG E a).e σ G fun x G1=>zK x G1 Q
 | .not a=>⟨fun σ G Q=>(zG E a).e σ G fun x G1=>yX x fun b=>Q (.bl (!b)) G1,fun σ G Q=>(zG E a).t σ G fun b G1=>Q (!b) G1⟩
 | .cmp op a b=>yW fun σ G Q=>(zG E a).e σ G fun x G1=>(zG E b).e σ G1 fun y G2=>yI op x y G2 Q
 | .chn o1 o2 a b c=>yW fun σ G Q=>(zG E a).e σ G fun x G1=>(zG E b).e σ G1 fun y G2=>yI o1 x y G2 fun z G3=>yX z fun k =>
   if k=true then (zG E c).e σ G3 fun u G4=>yI o2 y u G4 Q else Q (.bl false) G3
 | .and a b=>⟨fun σ G Q=>(zG E a).e σ G fun x G1=>yX x fun k=>if k=true then (zG E b).e σ G1 Q else Q (.bl false) G1,
   fun σ G Q=>(zG E a).t σ G fun k G1=>if k=true then (zG E b).t σ G1 Q else Q false G1⟩
 | .or a b=>⟨fun σ G Q=>(zG E a).e σ G fun x G1=>yX x fun k=>if k=true then Q (.bl true) G1 else (zG E b).e σ G1 Q,
   fun σ G Q=>(zG E a).t σ G fun k G1=>if k=true then Q true G1 else (zG E b).t σ G1 Q⟩
 | .ite c a b=>⟨fun σ G Q=>(zG E c).t σ G fun k G1=>if k=true then (zG E a).e σ G1 Q else (zG E b).e σ G1 Q,fun _ _ _=>False⟩
 | .ix a i=>yZ fun σ G Q=>(zG E a).e σ G fun x G1=>(zG E i).e σ G1 fun y G2=>kY x y G2 Q
 | .sl a lo hi=>yZ fun σ G Q=>(zG E a).e σ G fun x G1=>zN E lo σ G1 fun l G2=>zN E hi σ G2 fun u G3=>slR x l u G3 Q
 | .tup es=>yZ fun σ G Q=>zV E es σ G fun ws G1=>ws.length<=sizeLine/\Q (.tup ws) G1
 | .lst es=>yZ fun σ G Q=>zV E es σ G fun ws G1=>ws.length<=sizeLine/\∀ p,G1 p=none->Q (.ref p) (put G1 p (.lst ws))
 | .dct ks es=>yZ fun σ G Q=>∀ p,G p=none->zV E es σ (put G p (.dic [])) fun ws G1=>G1 p=some (.dic [])/\ws.length=ks.length/\Q (.ref p) (put G1 p (.dic (zii ks ws)))
 | .call f es=>yZ fun σ G Q=>zV E es σ G fun ws G1=>match Γ.fn[f]? with|some h=>h.sp ws G1 Q E|none=>False
 | .mth m o es=>yZ fun σ G Q=>(zG E o).e σ G fun x G1=>match Γ.mt[m]? with|some h=>tyW G1 x h.T/\zV E es σ G1 fun ws G2=>h.sp x ws G2 Q|none=>False
 | .att o f=>yZ fun σ G Q=>(zG E o).e σ G fun x G1=>attR Γ.cl f x G1 Q
 | .lc tg names caps it c elt=>yZ fun σ G Q=>zR E it σ G fun items stab G1 =>
   lcR items stab G1 (fun w G' K=>zW tg w (capS names.length caps σ) G' fun σ2 G2=>zQ c σ2 G2 fun b G3=>if b=true then (zG XN elt).e σ2 G3 fun x G4=>K (some x) G4 else K none G3) Q
 | .spc i es=>yZ fun σ G Q=>zV E es σ G fun ws G1=>match Γ.sx[i]? with|some h=>h.sp ws G1 Q|none=>False
 | .ch3 o1 o2 o3 a b c d=>yW fun σ G Q=>(zG E a).e σ G fun x G1=>(zG E b).e σ G1 fun y G2=>yI o1 x y G2 fun z G3=>yX z fun k =>
   if k=true then (zG E c).e σ G3 fun u G4=>yI o2 y u G4 fun z2 G5=>yX z2 fun k2 =>
    if k2=true then (zG E d).e σ G5 fun t G6=>yI o3 u t G6 Q else Q (.bl false) G5
   else Q (.bl false) G3
def zN (E:XQ):IO->jM->Hw->(Option Int->Hw->Prop)->Prop
 | .no=>fun _ G Q=>Q none G
 | .yes e=>fun σ G Q=>(zG E e).e σ G fun x G1=>zL x fun i=>Q (some i) G1
def zQ:IO->T3
 | .no=>fun _ G Q=>Q true G
 | .yes e=>(zG XN e).t
def zV (E:XQ):IEs->A3
 | .nil=>fun _ G Q=>Q [] G
 | .cons e es=>fun σ G Q=>(zG E e).e σ G fun x G1=>zV E es σ G1 fun xs G2=>Q (x::xs) G2
def zR (E:XQ):II->I3
 | .val e=>fun σ G R=>(zG E e).e σ G fun w G1=>kX w G1 R
 | .blt i es=>fun σ G R=>zV E es σ G fun ws G1=>match Γ.it[i]? with|some h=>h.sp ws G1 R|none=>False
 | .spc i es=>fun σ G R=>zV E es σ G fun ws G1=>match Γ.ix[i]? with|some h=>h.sp ws G1 R|none=>False
end
def semL:IEs->List E3
 | .nil=>[]
 | .cons e es=>(zG Γ XN e).e::semL es
abbrev zS (E:XQ) (e:IE):E3:=(zG Γ E e).e
abbrev zM (E:XQ) (e:IE):T3:=(zG Γ E e).t
def forR (items:List W) (stab:Hw->Prop) (D:End3) (σ:jM) (G1:Hw) (turn:W->End3->jM->Hw->Prop):Prop :=
 ∃ Pv:Nat->jM->Hw->Prop,Pv 0 σ G1/\(∀ i σ G,Pv i σ G->i<=items.length->stab G) /\
  (∀ i w σ G,items[i]?=some w->Pv i σ G->turn w { D with nx:=Pv (i+1),ct:=Pv (i+1),bk:=D.nx } σ G)/\∀ σ G,Pv items.length σ G->D.nx σ G
mutual
def zO (E:XQ):IS->S3
 | .asg i e=>fun D σ G=>zS Γ E e σ G fun w G1=>D.nx (σ.set i (some w)) G1
 | .asgT ts e=>fun D σ G=>zS Γ E e σ G fun w G1=>zW (.tup ts) (unl G1 w) σ G1 D.nx
 | .asgI o i e=>fun D σ G=>zS Γ E e σ G fun w G1=>zS Γ E o σ G1 fun x G2=>zS Γ E i σ G2 fun y G3=>setR x y w G3 fun G4=>D.nx σ G4
 | .asgA o f e=>fun D σ G=>zS Γ E e σ G fun w G1=>zS Γ E o σ G1 fun x G2=>satR Γ.cl f x w G2 fun G3=>D.nx σ G3
 | .ex e=>fun D σ G=>zS Γ E e σ G fun _ G1=>D.nx σ G1
 | .ret e=>fun D σ G=>zS Γ E e σ G D.rt
 | .retN=>fun D _ G=>D.rt .non G
 | .pass=>fun D σ G=>D.nx σ G
 | .brk=>fun D σ G=>D.bk σ G
 | .cnt=>fun D σ G=>D.ct σ G
 | .ite c a b=>fun D σ G=>zM Γ E c σ G fun k G1=>if k=true then zH E a D σ G1 else zH E b D σ G1
 | .whl c b=>fun D σ G=>∃ Pv:Nat->jM->Hw->Prop,(∃ m,Pv m σ G)/\∀ m σ G,Pv m σ G->zM Γ E c σ G fun k G1 =>
   if k=true then zH E b { D with nx:=fun σ' G'=>∃ m',m' < m/\Pv m' σ' G',ct:=fun σ' G'=>∃ m',m' < m/\Pv m' σ' G',bk:=D.nx } σ G1 else D.nx σ G1
 | .for tg it b=>fun D σ G=>zR Γ E it σ G fun items stab G1=>forR items stab D σ G1 fun w D' σ' G'=>zW tg w σ' G' fun σ2 G2=>zH E b D' σ2 G2
 | .dead=>fun _ _ _=>False
 | .asgS i j e=>fun D σ G=>zS Γ E e σ G fun w G1=>match w with
  | .tup (x::r)=>r.length<=1000/\∀ p,G1 p=none->D.nx ((σ.set i (some x)).set j (some (.ref p))) (put G1 p (.lst r))
  |_=>False
def zH (E:XQ):ISs->S3
 | .nil=>fun D σ G=>D.nx σ G
 | .cons s ss=>fun D σ G=>zO E s { D with nx:=zH E ss D } σ G
end
end
theorem uP (Γ:Ctx3):∀ es:IEs,zV Γ XN es=sY (semL Γ es)
 | .nil=>rfl
 | .cons e es=>by
  show (fun (σ:jM) (G:Hw) (Q:List W->Hw->Prop)=>(zG Γ XN e).e σ G fun x G1=>zV Γ XN es σ G1 fun xs G2=>Q (x::xs) G2)=_;rw [uP Γ es];rfl
structure TabMono (Γ:Ctx3):Prop where
 fn:∀ f∈Γ.fn,∀ ws G (Q Q':Q3) E,(∀ w G',Q w G'->Q' w G')->f.sp ws G Q E->f.sp ws G Q' E
 mt:∀ m∈Γ.mt,∀ x ws G (Q Q':Q3),(∀ w G',Q w G'->Q' w G')->m.sp x ws G Q->m.sp x ws G Q'
 it:∀ m∈Γ.it,∀ ws G (R R':List W->(Hw->Prop)->Hw->Prop),(∀ a b c,R a b c->R' a b c)->m.sp ws G R->m.sp ws G R'
 sx:∀ m∈Γ.sx,∀ ws G (Q Q':Q3),(∀ w G',Q w G'->Q' w G')->m.sp ws G Q->m.sp ws G Q'
 ix:∀ m∈Γ.ix,∀ ws G (R R':List W->(Hw->Prop)->Hw->Prop),(∀ a b c,R a b c->R' a b c)->m.sp ws G R->m.sp ws G R'
def zkO (t:I3):Prop:=∀ σ G (R R':List W->(Hw->Prop)->Hw->Prop),(∀ a b c,R a b c->R' a b c)->t σ G R->t σ G R'
def zkN (t:jM->Hw->(Option Int->Hw->Prop)->Prop):Prop:=∀ σ G (Q Q':Option Int->Hw->Prop),(∀ a b,Q a b->Q' a b)->t σ G Q->t σ G Q'
theorem qG {w:W} {Q Q':Bool->Prop} (k:∀ b,Q b->Q' b) (h:yX w Q):yX w Q':=by
 cases w<;>first|exact k _ h|exact h.elim
theorem bA {w:W} {Q Q':Int->Prop} (k:∀ b,Q b->Q' b) (h:zL w Q):zL w Q':=by
 cases w<;>first|exact k _ h|exact h.elim
theorem zdl {w:W} {G:Hw} {Q Q':Q3} (k:∀ w G,Q w G->Q' w G) (h:zK w G Q):zK w G Q':=by
 cases w<;>first|exact k _ _ h|exact h.elim
theorem zek {cl:List (Addr×List Str)} {f:Str} {w:W} {G:Hw} {Q Q':Q3} (k:∀ w G,Q w G->Q' w G) (h:attR cl f w G Q):attR cl f w G Q':=by
 cases w with
 |ref p =>
  simp only [attR] at h ⊢
  split at h
  .refine ⟨h.1,?_⟩;have h2:=h.2
   split at h2
   .exact k _ _ h2
   .exact h2.elim
  .exact h.elim
 |_=>exact h.elim
theorem fA {w:W} {G:Hw} {R R':List W->(Hw->Prop)->Hw->Prop} (k:∀ a b c,R a b c->R' a b c) (h:kX w G R):kX w G R':=by
 cases w with
 |tup ws=>exact k _ _ _ h
 |ref p =>
  simp only [kX] at h ⊢
  split at h
  .exact k _ _ _ h
  .split at h
   .exact k _ _ _ h
   .exact h.elim
 |str x=>exact k _ _ _ h
 |_=>exact h.elim
theorem zfo {items:List W} {stab:Hw->Prop} {G1:Hw} {turn:W->Hw->(Option W->Hw->Prop)->Prop} {Q Q':Q3} (k:∀ w G,Q w G->Q' w G) (h:lcR items stab G1 turn Q):lcR items stab G1 turn Q':=by
 obtain ⟨Pv,h0,h1,h2,h3,h4⟩:=h;exact ⟨Pv,h0,h1,h2,h3,fun acc G hp p hn=>k _ _ (h4 acc G hp p hn)⟩
theorem zcF {e:E3} (m:wA e):tX (zP e):=fun σ G Q Q' k h=>m σ G _ _ (fun w G1 q=>by
 split at q
 .exact k _ _ q
 .exact q.elim) h
theorem zfR {e:E3} (m:wA e):tX (yV e):=fun σ G Q Q' k h=>m σ G _ _ (fun w G1 q=>qG (fun b=>k b G1) q) h
theorem xV {e:E3} (m:wA e):wA (yZ e).e/\tX (yZ e).t:=⟨m,zcF m⟩
theorem fO {e:E3} (m:wA e):wA (yW e).e/\tX (yW e).t:=⟨m,zfR m⟩
theorem wM {α:Type} {l:List α} {i:Nat} {x:α} (h:l[i]?=some x):x∈l:=List.mem_of_getElem? h
variable {Γ : Ctx3} (g : TabMono Γ)
include g
theorem zbD (e:IE):∀ E,wA (zG Γ E e).e/\tX (zG Γ E e).t:=by
 refine IE.rec (motive_1:=fun e=>∀ E,wA (zG Γ E e).e/\tX (zG Γ E e).t) (motive_2:=fun o=>(∀ E,zkN (zN Γ E o))/\tX (zQ Γ o)) (motive_3:=fun es=>∀ E,vA (zV Γ E es)) (motive_4:=fun it=>∀ E,zkO (zR Γ E it))
  (motive_5:=fun _=>True) (motive_6:=fun _=>True) ?var ?con ?glb ?bin ?neg ?not ?cmp ?chn ?and ?or ?ite ?ix ?sl ?tup ?lst ?dct ?call ?mth ?att ?lc ?spc ?ch3 ?no ?yes ?nil ?cons ?val ?blt ?ispc ?nm ?tt ?tn ?tc e
 case var =>
  intro i E;refine xV fun σ G Q Q' k h=>?_
  split at h
  .exact k _ _ h
  .exact h.elim
 case con =>
  intro c E;refine xV fun σ G Q Q' k h=>?_
  split at h
  .exact k _ _ h
  .exact h.elim
 case glb =>
  intro i E;refine xV fun σ G Q Q' k h=>?_
  split at h
  .exact k _ _ h
  .exact h.elim
 case bin=>exact fun op a b ha hb E=>xV fun σ G Q Q' k h=>(ha E).1 σ G _ _ (fun x G1 h=>(hb E).1 σ G1 _ _ (fun y G2 h=>zax op x y G2 _ _ k h) h) h
 case neg=>exact fun a ha E=>xV fun σ G Q Q' k h=>(ha E).1 σ G _ _ (fun x G1 h=>zdl k h) h
 case not=>exact fun a ha E=>⟨fun σ G Q Q' k h=>(ha E).1 σ G _ _ (fun x G1 h=>qG (fun b=>k _ _) h) h,fun σ G Q Q' k h=>(ha E).2 σ G _ _ (fun b G1 h=>k _ _ h) h⟩
 case cmp=>exact fun op a b ha hb E=>fO fun σ G Q Q' k h=>(ha E).1 σ G _ _ (fun x G1 h=>(hb E).1 σ G1 _ _ (fun y G2 h=>xX op x y G2 _ _ k h) h) h
 case chn =>
  exact fun o1 o2 a b c ha hb hc E=>fO fun σ G Q Q' k h=>(ha E).1 σ G _ _ (fun x G1 h=>(hb E).1 σ G1 _ _ (fun y G2 h=>xX o1 x y G2 _ _ (fun z G3 h=>qG (fun b h=>by
   split
   .rename_i hb;rw [if_pos hb] at h;exact (hc E).1 σ G3 _ _ (fun u G4 h=>xX o2 y u G4 _ _ k h) h
   .rename_i hb;rw [if_neg hb] at h;exact k _ _ h) h) h) h) h
 case ch3 =>
  exact fun o1 o2 o3 a b c d ha hb hc hd E=>fO fun σ G Q Q' k h=>(ha E).1 σ G _ _ (fun x G1 h=>(hb E).1 σ G1 _ _ (fun y G2 h=>xX o1 x y G2 _ _ (fun z G3 h=>qG (fun b h=>by
   split
   .rename_i hb;rw [if_pos hb] at h
    exact (hc E).1 σ G3 _ _ (fun u G4 h=>xX o2 y u G4 _ _ (fun z2 G5 h=>qG (fun b2 h=>by
     split
     .rename_i hb2;rw [if_pos hb2] at h;exact (hd E).1 σ G5 _ _ (fun t G6 h=>xX o3 u t G6 _ _ k h) h
     .rename_i hb2;rw [if_neg hb2] at h;exact k _ _ h) h) h) h
   .rename_i hb;rw [if_neg hb] at h;exact k _ _ h) h) h) h) h
 case and =>
  exact fun a b ha hb E=>⟨fun σ G Q Q' k h=>(ha E).1 σ G _ _ (fun x G1 h=>qG (fun c h=>by
   split
   .rename_i hc;rw [if_pos hc] at h;exact (hb E).1 σ G1 _ _ k h
   .rename_i hc;rw [if_neg hc] at h;exact k _ _ h) h) h,fun σ G Q Q' k h=>(ha E).2 σ G _ _ (fun c G1 h=>by
   split
   .rename_i hc;rw [if_pos hc] at h;exact (hb E).2 σ G1 _ _ k h
   .rename_i hc;rw [if_neg hc] at h;exact k _ _ h) h⟩
 case or =>
  exact fun a b ha hb E=>⟨fun σ G Q Q' k h=>(ha E).1 σ G _ _ (fun x G1 h=>qG (fun c h=>by
   split
   .rename_i hc;rw [if_pos hc] at h;exact k _ _ h
   .rename_i hc;rw [if_neg hc] at h;exact (hb E).1 σ G1 _ _ k h) h) h,fun σ G Q Q' k h=>(ha E).2 σ G _ _ (fun c G1 h=>by
   split
   .rename_i hc;rw [if_pos hc] at h;exact k _ _ h
   .rename_i hc;rw [if_neg hc] at h;exact (hb E).2 σ G1 _ _ k h) h⟩
 case ite =>
  exact fun c a b hc ha hb E=>⟨fun σ G Q Q' k h=>(hc E).2 σ G _ _ (fun c G1 h=>by
   split
   .rename_i hc;rw [if_pos hc] at h;exact (ha E).1 σ G1 _ _ k h
   .rename_i hc;rw [if_neg hc] at h;exact (hb E).1 σ G1 _ _ k h) h,fun _ _ _ _ _ h=>h.elim⟩
 case ix=>exact fun a b ha hb E=>xV fun σ G Q Q' k h=>(ha E).1 σ G _ _ (fun x G1 h=>(hb E).1 σ G1 _ _ (fun y G2 h=>zbH x y G2 _ _ k h) h) h
 case sl=>exact fun a lo hi ha hl hh E=>xV fun σ G Q Q' k h=>(ha E).1 σ G _ _ (fun x G1 h=>(hl.1 E) σ G1 _ _ (fun l G2 h=>(hh.1 E) σ G2 _ _ (fun u G3 h=>zbn k h) h) h) h
 case tup=>exact fun es hs E=>xV fun σ G Q Q' k h=>(hs E) σ G _ _ (fun ws G1 h=>⟨h.1,k _ _ h.2⟩) h
 case lst=>exact fun es hs E=>xV fun σ G Q Q' k h=>(hs E) σ G _ _ (fun ws G1 h=>⟨h.1,fun p hp=>k _ _ (h.2 p hp)⟩) h
 case dct=>exact fun ks es hs E=>xV fun σ G Q Q' k h=>fun p hp=>(hs E) σ _ _ _ (fun ws G1 h=>⟨h.1,h.2.1,k _ _ h.2.2⟩) (h p hp)
 case call =>
  exact fun f es hs E=>xV fun σ G Q Q' k h=>(hs E) σ G _ _ (fun ws G1 h=>by
   split at h
   .rename_i f' e;exact g.fn f' (wM e) ws G1 Q Q' E k h
   .exact h.elim) h
 case mth =>
  exact fun m o es ho hs E=>xV fun σ G Q Q' k h=>(ho E).1 σ G _ _ (fun x G1 h=>by
   split at h
   .rename_i m' e;exact ⟨h.1,(hs E) σ G1 _ _ (fun ws G2 h=>g.mt m' (wM e) x ws G2 Q Q' k h) h.2⟩
   .exact h.elim) h
 case att=>exact fun o f ho E=>xV fun σ G Q Q' k h=>(ho E).1 σ G _ _ (fun x G1 h=>zek k h) h
 case lc=>exact fun tg names caps it c elt _ hi hc he E=>xV fun σ G Q Q' k h=>(hi E) σ G _ _ (fun items stab G1 h=>zfo k h) h
 case spc =>
  exact fun i es hs E=>xV fun σ G Q Q' k h=>(hs E) σ G _ _ (fun ws G1 h=>by
   split at h
   .rename_i f' e;exact g.sx f' (wM e) ws G1 Q Q' k h
   .exact h.elim) h
 case ispc =>
  exact fun i es hs E σ G R R' k h=>(hs E) σ G _ _ (fun ws G1 h=>by
   split at h
   .rename_i m' e;exact g.ix m' (wM e) ws G1 R R' k h
   .exact h.elim) h
 case no=>exact ⟨fun E σ G Q Q' k h=>k _ _ h,fun σ G Q Q' k h=>k _ _ h⟩
 case yes=>exact fun e he=>⟨fun E σ G Q Q' k h=>(he E).1 σ G _ _ (fun x G1 h=>bA (fun i=>k _ _) h) h,(he XN).2⟩
 case nil=>exact fun E σ G Q Q' k h=>k _ _ h
 case cons=>exact fun e es he hs E σ G Q Q' k h=>(he E).1 σ G _ _ (fun x G1 h=>(hs E) σ G1 _ _ (fun xs G2 h=>k _ _ h) h) h
 case val=>exact fun e he E σ G R R' k h=>(he E).1 σ G _ _ (fun w G1 h=>fA k h) h
 case blt =>
  exact fun i es hs E σ G R R' k h=>(hs E) σ G _ _ (fun ws G1 h=>by
   split at h
   .rename_i m' e;exact g.it m' (wM e) ws G1 R R' k h
   .exact h.elim) h
 case nm=>exact fun _=>trivial
 case tt=>exact fun _ _=>trivial
 case tn=>trivial
 case tc=>exact fun _ _ _ _=>trivial
theorem zC (E:XQ) (e:IE):wA (zG Γ E e).e:=(zbD g e E).1
theorem rY (E:XQ) (e:IE):tX (zG Γ E e).t:=(zbD g e E).2
theorem qJ (E:XQ):∀ es:IEs,vA (zV Γ E es)
 | .nil=>fun σ G Q Q' k h=>k _ _ h
 | .cons e es=>fun σ G Q Q' k h=>zC g E e σ G _ _ (fun x G1 h=>qJ E es σ G1 _ _ (fun xs G2 h=>k _ _ h) h) h
theorem zjO (E:XQ):∀ o:IO,zkN (zN Γ E o)
 | .no=>fun σ G Q Q' k h=>k _ _ h
 | .yes e=>fun σ G Q Q' k h=>zC g E e σ G _ _ (fun x G1 h=>bA (fun i=>k _ _) h) h
theorem monoC:∀ o:IO,tX (zQ Γ o)
 | .no=>fun σ G Q Q' k h=>k _ _ h
 | .yes e=>rY g XN e
theorem zjP (E:XQ):∀ it:II,zkO (zR Γ E it)
 | .val e=>fun σ G R R' k h=>zC g E e σ G _ _ (fun w G1 h=>fA k h) h
 | .blt i es=>fun σ G R R' k h=>qJ g E es σ G _ _ (fun ws G1 h=>by
   split at h
   .rename_i m' e;exact g.it m' (wM e) ws G1 R R' k h
   .exact h.elim) h
 | .spc i es=>fun σ G R R' k h=>qJ g E es σ G _ _ (fun ws G1 h=>by
   split at h
   .rename_i m' e;exact g.ix m' (wM e) ws G1 R R' k h
   .exact h.elim) h
end L3
namespace L3
open PySem PySem.Spec PyProof.Rows L2
structure MC where
 sc:Scope
 N:List Str
 own:Str->Bool
 fns:List Str
 gls:List Str
 mts:List Str
 its:List Str
 sxm:List (Scope->Expr->Option (List Expr))
 ixm:List (Scope->Expr->Option (List Expr))
def visB (sc:Scope) (x:Str):Bool:=match sc.names.lookup x with
 |some .local=>true
 |some .cell=>true
 |some .free=>true
 |_=>false
def sQ (sc:Scope) (x:Str):Bool:=sc.names.lookup x==some .globalImplicit&&!(x==("__debug__" : Str))&&!(x==("__name__" : Str))
def sG:Expr->Bool
 | .Set ..=>false
 |_=>true
def xJ:Expr->Bool
 | .Starred ..=>false
 |_=>true
def mD:Expr->Bool
 | .Slice ..=>false
 |_=>true
def pW:Expr->Bool
 | .ListComp ..=>false
 | .SetComp ..=>false
 | .DictComp ..=>false
 |_=>true
def nV:Expr->Bool
 | .Call (.Name ..) [] [] _=>false
 |_=>true
def relS (sc out:Scope):Scope:={ sc with names:=sc.names.map fun (n,k)=>if (k==.free&&out.kind==.function&&out.names.lookup n==some .cell) then (n,.cell) else (n,k) }
def blkB (out sc:Scope):Bool:=(sc.kind==.function)&&(sc.names.all fun y=>(!(y.2==.cell) || sc.names.lookup y.1==some .cell)&&(!(y.2==.free) || sc.names.lookup y.1==some .free)) &&
 (sc.names.all fun y=>!(y.2==.free) || out.names.lookup y.1==some .cell || out.names.lookup y.1==some .free) &&
 (sc.names.all fun y=>!(y.2==.local) || sc.names.lookup y.1==some .local)
def fZ:List Str->Bool
 | []=>true
 |x::r=>!r.contains x&&fZ r
def locB (M:MC) (x:Str):Bool:=match M.sc.names.lookup x with
 |some .local=>true
 |some .cell=>M.own x
 |_=>false
mutual
def tgIx:ITg->List Nat
 | .nm i=>[i]
 | .tup ts=>zey ts
def zey:ITgs->List Nat
 | .nil=>[]
 | .cons t ts=>tgIx t++zey ts
end
mutual
def mG (M:MC):ITg->Expr->Bool
 | .nm i,.Name x _=>M.N[i]?==some x&&locB M x
 | .tup ts,.Tuple es _ _=>mGs M ts es
 |_,_=>false
def mGs (M:MC):ITgs->List Expr->Bool
 | .nil,[]=>true
 | .cons t ts,e::es=>xJ e&&mG M t e&&mGs M ts es
 |_,_=>false
end
mutual
def mE:IE->MC->Expr->Bool
 | .var i=>fun M e=>match e with
  | .Name x _=>M.N[i]?==some x&&visB M.sc x&&!(x==("__debug__" : Str))&&!(x==("__classdict__" : Str))
  |_=>false
 | .con c=>fun M e=>match e with
  | .Constant d _ _=>decide (c=d)
  |_=>false
 | .glb i=>fun M e=>match e with
  | .Name x _=>M.gls[i]?==some x&&sQ M.sc x
  |_=>false
 | .bin op a b=>fun M e=>match e with
  | .BinOp l o r _=>decide (op=o)&&mE a M l&&mE b M r
  |_=>false
 | .neg a=>fun M e=>match e with
  | .UnaryOp .USub l _=>mE a M l
  |_=>false
 | .not a=>fun M e=>match e with
  | .UnaryOp .Not l _=>mE a M l
  |_=>false
 | .cmp op a b=>fun M e=>match e with
  | .Compare l [o] [r] _=>decide (op=o)&&mE a M l&&mE b M r&&sG r
  |_=>false
 | .chn o1 o2 a b c=>fun M e=>match e with
  | .Compare l [p1,p2] [r,t] _=>decide (o1=p1)&&decide (o2=p2)&&mE a M l&&mE b M r&&mE c M t&&sG t
  |_=>false
 | .ch3 o1 o2 o3 a b c d=>fun M e=>match e with
  | .Compare l [p1,p2,p3] [r,t,u] _=>decide (o1=p1)&&decide (o2=p2)&&decide (o3=p3)&&mE a M l&&mE b M r&&mE c M t&&mE d M u&&sG u
  |_=>false
 | .and a b=>fun M e=>match e with
  | .BoolOp .And [l,r] _=>mE a M l&&mE b M r
  | .BoolOp .And (l::r::q::rest) pos=>mE a M l&&mE b M (.BoolOp .And (r::q::rest) pos)
  |_=>false
 | .or a b=>fun M e=>match e with
  | .BoolOp .Or [l,r] _=>mE a M l&&mE b M r
  | .BoolOp .Or (l::r::q::rest) pos=>mE a M l&&mE b M (.BoolOp .Or (r::q::rest) pos)
  |_=>false
 | .ite c a b=>fun M e=>match e with
  | .IfExp t l r _=>mE c M t&&mE a M l&&mE b M r
  |_=>false
 | .ix a i=>fun M e=>match e with
  | .Subscript l r _=>mE a M l&&mE i M r&&mD r
  |_=>false
 | .sl a lo hi=>fun M e=>match e with
  | .Subscript l (.Slice x y none _) _=>mE a M l&&mO lo M x&&mO hi M y
  |_=>false
 | .tup es=>fun M e=>match e with
  | .Tuple xs _ _=>mA es M xs
  |_=>false
 | .lst es=>fun M e=>match e with
  | .List xs _=>mA es M xs
  |_=>false
 | .dct ks es=>fun M e=>match e with
  | .Dict keys xs _=>keyB ks keys&&mA es M xs&&decide (keys.length=xs.length)&&decide (keys.length<=15)&&!ks.isEmpty
  |_=>false
 | .call f es=>fun M e=>match e with
  | .Call (.Name x _) xs [] _=>M.fns[f]?==some x&&sQ M.sc x&&mA es M xs
  |_=>false
 | .mth m o es=>fun M e=>match e with
  | .Call (.Attribute l x apos) xs [] cpos=>M.mts[m]?==some x&&nV l&&(apos.endLine==cpos.line)&&decide (xs.length<25)&&mE o M l&&mA es M xs
  |_=>false
 | .att o f=>fun M e=>match e with
  | .Attribute l x _=>x==f&&nV l&&mE o M l
  |_=>false
 | .lc tg names caps it c elt=>fun M e=>match e with
  | .ListComp x [⟨t,ix,ifs,asy⟩] sc _ =>
   let M':MC:={ M with sc:=relS sc M.sc,N:=names++caps.map (fun j=>M.N.getD j Str.empty),own:=fun x=>sc.names.lookup x==some .cell }
   decide (asy=0)&&blkB M.sc sc&&sG ix&&fZ M'.N&&(caps.all fun j=>decide (j<M.N.length)&&(sc.names.lookup (M.N.getD j Str.empty)==some .free)) &&
    mI it M ix&&((tgIx tg).all fun i=>decide (i<names.length))&&mG M' tg t&&mC c M' ifs&&mE elt M' x
  |_=>false
 | .spc i es=>fun M e=>pW e&&(match M.sxm[i]? with
  |some m=>(match m M.sc e with|some xs=>mA es M xs|none=>false)
  |none=>false)
def mO:IO->MC->Option Expr->Bool
 | .no=>fun M e=>match e with|none=>true|_=>false
 | .yes a=>fun M e=>match e with|some x=>mE a M x|_=>false
def mC:IO->MC->List Expr->Bool
 | .no=>fun M e=>match e with | []=>true|_=>false
 | .yes a=>fun M e=>match e with | [x]=>mE a M x|_=>false
def mA:IEs->MC->List Expr->Bool
 | .nil=>fun M e=>match e with | []=>true|_=>false
 | .cons a as=>fun M e=>match e with|x::xs=>xJ x&&mE a M x&&mA as M xs|_=>false
def mI:II->MC->Expr->Bool
 | .val a=>fun M e=>mE a M e
 | .blt i es=>fun M e=>match e with
  | .Call (.Name x _) xs [] _=>M.its[i]?==some x&&sQ M.sc x&&mA es M xs
  |_=>false
 | .spc i es=>fun M e=>match M.ixm[i]? with
  |some m=>(match m M.sc e with|some xs=>mA es M xs|none=>false)
  |none=>false
def keyB:List Str->List (Option Expr)->Bool
 | []=>fun e=>match e with | []=>true|_=>false
 |k::ks=>fun e=>match e with|some (.Constant (.str x) _ _)::es=>k==x&&keyB ks es|_=>false
end
def zeB (M:MC) (i j:Nat):Expr->Bool
 | .Tuple [.Name x _,.Starred (.Name y _) _] _ _=>(M.N[i]?==some x&&locB M x)&&(M.N[j]?==some y&&locB M y)
 |_=>false
mutual
def mS:IS->MC->Stmt->Bool
 | .asg i a=>fun M s=>match s with
  | .Assign [.Name x py] e _=>M.N[i]?==some x&&locB M x&&mE a M e
  |_=>false
 | .asgT ts a=>fun M s=>match s with
  | .Assign [.Tuple es _ _] e _=>pW e&&zfe e&&mGs M ts es&&mE a M e
  |_=>false
 | .asgI o i a=>fun M s=>match s with
  | .Assign [.Subscript l r _] e _=>pW e&&mD r&&mE o M l&&mE i M r&&mE a M e
  |_=>false
 | .asgA o f a=>fun M s=>match s with
  | .Assign [.Attribute l x _] e _=>x==f&&pW e&&mE o M l&&mE a M e
  |_=>false
 | .ex a=>fun M s=>match s with
  | .Expr e _=>pW e&&mE a M e
  |_=>false
 | .ret a=>fun M s=>match s with
  | .Return (some e) _=>mE a M e
  |_=>false
 | .retN=>fun M s=>match s with|.Return none _=>true|_=>false
 | .pass=>fun M s=>match s with|.Pass _=>true|_=>false
 | .brk=>fun M s=>match s with|.Break _=>true|_=>false
 | .cnt=>fun M s=>match s with|.Continue _=>true|_=>false
 | .ite c a b=>fun M s=>match s with
  | .If t x y _=>mE c M t&&qB a M x&&qB b M y
  |_=>false
 | .whl c b=>fun M s=>match s with
  | .While t x [] _=>mE c M t&&qB b M x
  |_=>false
 | .for tg it b=>fun M s=>match s with
  | .For t x y [] _=>sG x&&mG M tg t&&mI it M x&&qB b M y
  |_=>false
 | .dead=>fun M s=>true
 | .asgS i j a=>fun M s=>match s with
  | .Assign [t] e _=>pW e&&zfe e&&zeB M i j t&&mE a M e
  |_=>false
def qB:ISs->MC->List Stmt->Bool
 | .nil=>fun M s=>match s with | []=>true|_=>false
 | .cons a as=>fun M s=>match s with|x::xs=>mS a M x&&qB as M xs|_=>false
def zfe:Expr->Bool
 | .Tuple ..=>false
 |_=>true
end
theorem sP {a b:Bool} (h:(a&&b)=true):a=true/\b=true:=(Bool.and_eq_true a b).mp h
theorem bd3 {a b c:Bool} (h:(a&&b&&c)=true):(a=true/\b=true)/\c=true:=⟨sP (sP h).1,(sP h).2⟩
theorem bd4 {a b c d:Bool} (h:(a&&b&&c&&d)=true):((a=true/\b=true)/\c=true)/\d=true:=⟨bd3 (sP h).1,(sP h).2⟩
theorem bd5 {a b c d e:Bool} (h:(a&&b&&c&&d&&e)=true):(((a=true/\b=true)/\c=true)/\d=true)/\e=true:=⟨bd4 (sP h).1,(sP h).2⟩
theorem bd6 {a b c d e f:Bool} (h:(a&&b&&c&&d&&e&&f)=true):((((a=true/\b=true)/\c=true)/\d=true)/\e=true)/\f=true:=⟨bd5 (sP h).1,(sP h).2⟩
theorem bd7 {a b c d e f g:Bool} (h:(a&&b&&c&&d&&e&&f&&g)=true):(((((a=true/\b=true)/\c=true)/\d=true)/\e=true)/\f=true)/\g=true:=⟨bd6 (sP h).1,(sP h).2⟩
theorem bd8 {a b c d e f g k:Bool} (h:(a&&b&&c&&d&&e&&f&&g&&k)=true):((((((a=true/\b=true)/\c=true)/\d=true)/\e=true)/\f=true)/\g=true)/\k=true:=⟨bd7 (sP h).1,(sP h).2⟩
theorem bd9 {a b c d e f g k l:Bool} (h:(a&&b&&c&&d&&e&&f&&g&&k&&l)=true):(((((((a=true/\b=true)/\c=true)/\d=true)/\e=true)/\f=true)/\g=true)/\k=true)/\l=true:=⟨bd8 (sP h).1,(sP h).2⟩
theorem bd10 {a b c d e f g k l m:Bool} (h:(a&&b&&c&&d&&e&&f&&g&&k&&l&&m)=true):((((((((a=true/\b=true)/\c=true)/\d=true)/\e=true)/\f=true)/\g=true)/\k=true)/\l=true)/\m=true:=⟨bd9 (sP h).1,(sP h).2⟩
end L3
namespace L2
open PySem PySem.Spec PyProof.Rows
def Itd (d:Addr) (ob:Obj) (l:List (yD×V)):It where
 go:=fun i H=>H d=some (.frz ob (.dK l))/\i<l.length
 yld:=fun i H x H'=>H'=H/\∃ p,l[i]?=some p/\x=kV p.1
 stop:=fun i H=>H d=some (.frz ob (.dK l))/\l.length<=i
def KiSt (it d:Addr) (ob:Obj) (n i:Nat) (h:Heap):Prop:=∃ ep es,ob.data=.dict es ep/\h.IsKeyIter it d i n ep
section
variable {X : Cx} {pins : List (Addr × Obj)} {σ : St} {H : Hp} {s : Shared} {d : Addr} {ob : Obj} {l : List (yD × V)}
theorem zgs {κ:Type}:∀ {l:List (κ×V)} {vs:List (κ×Value)} {i:Nat} {k:κ} {v:Value},KV l vs->vs[i]?=some (k,v)->∃ x,l[i]?=some (k,x)
 |_,_,i,k,v,.nil,e=>by simp at e
 |p::_,_,0,k,v,.cons r t,e=>by
  simp at e;subst e;obtain ⟨a,b⟩:=p;have h1:a=k:=r.1;exact ⟨b,by simp [h1]⟩
 |_::_,_,i+1,k,v,.cons r t,e=>by
  obtain ⟨x,h⟩:=zgs (i:=i) (k:=k) (v:=v) t (by simpa using e);exact ⟨x,by simpa using h⟩
theorem zgr {κ:Type}:∀ {l:List (κ×V)} {vs:List (κ×Value)},KV l vs->vs.length=l.length
 |_,_,.nil=>rfl
 |_,_,.cons _ t=>by rw [List.length_cons,List.length_cons,zgr t]
theorem zdR (I:Inv X pins σ H s) (e:H d=some (.frz ob (.dK l))) {es:Array DictEntry} {ep:Nat} (hd:ob.data=.dict es ep):∃ vs,KV l vs/\s.heap.DictAt (xP X.prog X.w) d vs ep/\vs.length=l.length:=by
 obtain ⟨hg,_,_,vs,kv,o,es',ep',ho,hc,hdat,r⟩:=(show xU X.prog X.w H s.heap d (.frz ob (.dK l)) from I.hok d _ e);rw [hg] at ho;cases ho;rw [hd] at hdat;cases hdat;exact ⟨vs,kv,⟨ob,es,hg,hc,hd,r⟩,zgr kv⟩
theorem zdC {k:yD} {v:Value} (h:fD k v=true):zD (kV k) v:=by
 rcases yA h with ⟨i,t,rfl,rfl⟩|⟨x,t,rfl,rfl⟩
 .exact ⟨t,rfl⟩
 .exact ⟨t,rfl⟩
theorem zcE {P:Program} {w:World} {K:PySem.W.Frag} {tg:Expr} (it:Addr):Turn P w K tg (Itd d ob l) [it] it (KiSt it d ob l.length) where
 mem:=by simp
 obj:=fun i h st b hb=>by
  cases zzO hb;obtain ⟨ep,es,_,o,e,c,z⟩:=st;exact ⟨o,e,fun v q=>by rw [z] at q;cases q⟩
 keep:=fun i h h' st k=>by
  obtain ⟨ep,es,hd,st⟩:=st;exact ⟨ep,es,hd,st.at fun o e=>k it (by simp) o e⟩
 item:=by
  intro X e1 e2 e3 hc i pins s σ H E I hf st hg;subst e1;subst e2;subst e3;obtain ⟨ep,es,hd,st⟩:=st;obtain ⟨e,hi⟩:=hg;obtain ⟨vs,kv,da,lv⟩:=zdR I e hd;obtain ⟨f0,f1,f2,f3,f4,f5⟩:=hf it (by simp);obtain ⟨⟨k,v⟩,ek⟩:∃ p,vs[i]?=some p:=⟨vs[i]'(by omega),List.getElem?_eq_getElem _⟩;obtain ⟨x,ex⟩:=zgs kv ek;rw [← lv] at st;refine wpAny_pyNext_dict_item st da ek fun key h' hkey st' sb=>?_;have I1:Inv X pins σ H { s with heap:=h',toks:=s.toks }:=I.turned (fun b o hb q=>(sb.2 b hb).trans q) f0 f1 f3 f4 f5;obtain ⟨o,o1,o2,o3⟩:=id st';refine ⟨key,rfl,zdN (s:={ s with heap:=h' }) o1 o2 o3 (by decide) ⟨kV k,H,I1,zdC hkey,⟨rfl,(k,x),ex,rfl⟩,⟨ep,es,hd,?_⟩,fun b hb=>(hf b hb).1⟩⟩;rw [← lv];exact st'
 done:=by
  intro X e1 e2 e3 hc i pins s σ H E I hf st hg;subst e1;subst e2;subst e3;obtain ⟨ep,es,hd,st⟩:=st;obtain ⟨e,hi⟩:=hg;obtain ⟨vs,kv,da,lv⟩:=zdR I e hd;obtain ⟨f0,f1,f2,f3,f4,f5⟩:=hf it (by simp);rw [← lv] at st;exact wpAny_pyNext_dict_end (I.ok.hd hc) st da (List.getElem?_eq_none (by omega)) fun h' eb=>⟨rfl,I.turned (t':=s.toks) (fun b o hb q=>eb b o hb q) f0 f1 f3 f4 f5⟩
 self:=fun _ _ _ _ _ st h=>by
  obtain ⟨ep,es,hd,st⟩:=st;exact wpAny_pyIter_keyiter st h
theorem zfX {u:HO} (e:H d=some u):xI H d u=H:=by
 funext b
 unfold xI
 split
 .rename_i h;subst h;exact e.symm
 .rfl
theorem zh0 (I:Inv X pins σ H s) (e:Rd H d (.dK l)):∃ ob,Inv X pins σ (xI H d (.frz ob (.dK l))) s/\(∃ es ep,ob.data=.dict es ep)/\∀ ob',H d=some (.frz ob' (.dK l))->ob'=ob:=by
 rcases e with e|⟨ob,e⟩
 .have q:=I.hok d _ e;obtain ⟨h1,h2,vs,kv,o,es,ep,ho,hc,hdat,r⟩:=id q;have mu:Mut (H d):=by rw [e];exact True.intro
  refine ⟨o,I.un (t':=s.toks) (Un.write mu (.inl rfl) (fun b u _ z=>z) ⟨o,ho⟩) (I.hok.write mu (.inl rfl) (fun b u _ z=>z) ⟨o,ho⟩ ⟨ho,h1,h2,vs,kv,o,es,ep,ho,hc,hdat,r⟩),⟨es,ep,hdat⟩,fun ob' z=>by rw [e] at z;cases z⟩
 .obtain ⟨hg,_,_,vs,kv,o,es,ep,ho,hc,hdat,r⟩:=(show xU X.prog X.w H s.heap d (.frz ob (.dK l)) from I.hok d _ e);rw [hg] at ho;cases ho;exact ⟨ob,by rw [zfX e];exact I,⟨es,ep,hdat⟩,fun ob' z=>by rw [e] at z;cases z;rfl⟩
theorem zih {tg:Expr} {R:It->Hp->Prop} {E:Value->Shared->Prop} (I:Inv X pins σ H s) (e:Rd H d (.dK l)) (q:∀ ob,(∀ ob',H d=some (.frz ob' (.dK l))->ob'=ob)->R (Itd d ob l) (xI H d (.frz ob (.dK l)))):wpAny (model X.prog X.w) X.A (pyIter (.ref d)) (PIE X pins σ tg R) E s:=by
 have hs:(d==sysModules)=false:=(dR I.hok e).2.1;obtain ⟨ob,J,⟨es,ep,hd⟩,same⟩:=zh0 I e;obtain ⟨vs,kv,da,lv⟩:=zdR J wW hd;refine wpAny_pyIter_dict hs da ?_;refine ⟨s.heap.objs.size,[s.heap.objs.size],_,_,_,rfl,J.kept (t':=s.toks) fun b o e=>Heap.get?_push_of_some _ e,zcE _,⟨ep,es,hd,⟨_,Heap.get?_push_size _ rfl,rfl,by rw [lv];rfl⟩⟩,fun b hb=>?_,q ob same⟩;cases zzO hb;exact J.fpOk (zzR _) (J.hok.fresh (zzR _))
end
end L2
namespace L3
open PySem PySem.Spec PyProof.Rows L2 PySem.SeqAt
structure Par where
 prog:Program
 w:World
 K:yL
 mg:Str->Option Value
 base:Heap
 A:Around
structure Fits (p:Par) (X:Cx):Prop where
 prog:X.prog=p.prog
 w:X.w=p.w
 K:X.K=p.K
 mg:X.mg=p.mg
 base:X.base=p.base
 A:X.A=p.A
 calm:X.calm=true
 xe:X.xe=fun _ _=>False
structure ItIs (K:yL) (J:It) (H1:Hp) (ws:List W) (stab:Hw->Prop):Prop where
 go:∀ i H G,yJ K H1 H->xR K H G->stab G->i<ws.length->J.go i H
 yld:∀ i H G x H',yJ K H1 H->xR K H G->stab G->i<ws.length->J.yld i H x H'->∃ w,ws[i]?=some w/\yJ K H H'/\xN K H' w x/\xR K H' G
 stop:∀ i H G,yJ K H1 H->xR K H G->stab G->ws.length<=i->J.stop i H
def lowI (K:yL) (t:I3):TI:=fun τ H R=>∃ σ G,yM K H σ τ/\xR K H G/\t σ G fun ws stab G1=>∀ J H1,yJ K H H1->xR K H1 G1->ItIs K J H1 ws stab->R J H1
def nS (X:Cx):List Expr->List E3->Prop
 | [],[]=>True
 |x::xs,e::es=>wA e/\PE X x (yB X.K e)/\nS X xs es
 |_,_=>False
structure Good (Γ:Ctx3) (p:Par):Prop where
 mono:TabMono Γ
 un:p.A.units+200<cLine
 fn:∀ f∈Γ.fn,∀ X,Fits p X->Gl X f.nm->∀ (args:List Expr) (t:A3) (q pos:Pos),vA t->args.all xJ=true->PA X args (rS X.K t)->(args=[]->∀ σ G Q,t σ G Q->Q [] G)->(f.nm==("__debug__" : Str))=false->f.nm ≠ "__name__" ->
  PE X (.Call (.Name f.nm q) args [] pos) (yB X.K fun σ G Q=>t σ G fun ws G1=>f.sp ws G1 Q XN)
 gl:∀ g∈Γ.gl,∀ X,Fits p X->Gl X g.1->∀ q:Pos,(g.1==("__debug__" : Str))=false->g.1 ≠ "__name__" -> PE X (.Name g.1 q) (yB X.K fun _ G Q=>Q g.2 G)
 mt:∀ m∈Γ.mt,∀ X,Fits p X->∀ (o:Expr) (args:List Expr) (to:E3) (t:A3) (apos cpos:Pos),wA to->vA t->nV o=true->(apos.endLine==cpos.line)=true->args.length<25->args.all xJ=true ->
  PE X o (yB X.K to)->PA X args (rS X.K t)->(args=[]->∀ σ G Q,t σ G Q->Q [] G)->PE X (.Call (.Attribute o m.nm apos) args [] cpos) (yB X.K fun σ G Q=>to σ G fun x G1=>tyW G1 x m.T/\t σ G1 fun ws G2=>m.sp x ws G2 Q)
 it:∀ i∈Γ.it,∀ X,Fits p X->Gl X i.nm->∀ (tg:Expr) (args:List Expr) (t:A3) (q pos:Pos),vA t->args.all xJ=true->PA X args (rS X.K t)->(args=[]->∀ σ G Q,t σ G Q->Q [] G)->(i.nm==("__debug__" : Str))=false->i.nm ≠ "__name__" ->
  PI X tg (.Call (.Name i.nm q) args [] pos) (lowI X.K fun σ G R=>t σ G fun ws G1=>i.sp ws G1 R)
 cl:∀ c∈Γ.cl,Cls p.K c.1/\∀ f∈c.2,tY p.K c.1 f
 sx:∀ k∈Γ.sx,∀ X,Fits p X->∀ (e:Expr) (xs:List Expr) (es:List E3),k.m X.env.scope e=some xs->nS X xs es->xs.all xJ=true->PA X xs (rS X.K (sY es)) ->
  PE X e (yB X.K fun σ G Q=>sY es σ G fun ws G1=>k.sp ws G1 Q)/\(∀ whole,isTrue e X.env whole=(do let v ← whole;standAt e.pos;holding [v] (truthy v)))/\∀ op vs pos,e≠.BoolOp op vs pos
 ix:∀ k∈Γ.ix,∀ X,Fits p X->∀ (tg e:Expr) (xs:List Expr) (es:List E3),k.m X.env.scope e=some xs->nS X xs es->xs.all xJ=true->PA X xs (rS X.K (sY es)) ->
  PI X tg e (lowI X.K fun σ G R=>sY es σ G fun ws G1=>k.sp ws G1 R)
structure Lk (Γ:Ctx3) (M:MC) (p:Par) (X:Cx):Prop where
 fits:Fits p X
 N:X.N=M.N
 sc:X.env.scope=M.sc
 nd:M.N.Nodup
 own:∀ x,M.own x=true->X.fn x=true
 kind:M.sc.kind=.function
 fns:Γ.fn.map (·.nm)=M.fns
 gls:Γ.gl.map (·.1)=M.gls
 mts:Γ.mt.map (·.nm)=M.mts
 its:Γ.it.map (·.nm)=M.its
 sxs:Γ.sx.map (·.m)=M.sxm
 ixs:Γ.ix.map (·.m)=M.ixm
theorem qD {e:Expr} {es:List Expr} {env:Env} (h:xJ e=true):starEach (e::es) env=(false,eval e env)::starEach es env:=by
 cases e<;>first|rfl|exact absurd h zzN
theorem qF {o:Expr} {f:Str} {env:Env} {t:Sem Value} (h:nV o=true):attributeBase o f env t=t:=by
 unfold attributeBase
 split
 .exact absurd h zzN
 .rfl
theorem zal {e:Expr} {env:Env} (h:sG e=true):∀ x,foldedSetIterable e env x=pure x:=fun x=>by
 cases e<;>first|rfl|exact absurd h zzN
theorem kF {op:CmpOp} {e:Expr} (h:sG e=true):behindInMarks op e=false:=by
 cases e<;>first|rfl|exact absurd h zzN
theorem ze5 {e:Expr} (h:mD e=true):zeq e:=fun o i=>by
 cases e<;>first|rfl|exact absurd h zzN
theorem kK {e:Expr} {t:Option Expr} {n:Nat} {env:Env} (h:pW e=true):swapsWith e t n env=pure false:=by
 cases e<;>first|rfl|exact absurd h zzN
theorem ziD {sc:Scope} {x:Str} (h:visB sc x=true):Vis sc x:=by
 unfold visB at h
 split at h
 .rename_i e;exact .inl e
 .rename_i e;exact .inr (.inl e)
 .rename_i e;exact .inr (.inr e)
 .exact absurd h zzN
theorem zcl {X:Cx} {sc:Scope} {x:Str} (e:X.env.scope=sc) (h:sQ sc x=true):Gl X x/\(x==("__debug__" : Str))=false/\x ≠ "__name__" := by
 unfold sQ at h;simp only [Bool.and_eq_true,Bool.not_eq_true'] at h;refine ⟨?_,h.1.2,fun z=>?_⟩
 .show X.env.scope.names.lookup x=_;rw [e];exact eq_of_beq h.1.1
 .subst z;have:=h.2;simp at this
theorem jO {α:Type} [BEq α] [LawfulBEq α] {a:Option α} {b:α} (h:(a==some b)=true):a=some b:=eq_of_beq h
theorem tR {α β:Type} {f:α->β} {l:List α} {i:Nat} {y:β} (h:(l.map f)[i]?=some y):∃ x,l[i]?=some x/\f x=y:=by
 rw [List.getElem?_map] at h
 cases e:l[i]? with
 |none=>rw [e] at h;cases h
 |some x=>rw [e] at h;exact ⟨x,rfl,Option.some.inj h⟩
section
variable {X : Cx}
theorem zew {K:yL} {e:E3} (m:wA e) {τ:L2.St} {H:Hp} {Q:Bool->Hp->Prop} (h:qE K (zP e) τ H Q):yB K e τ H (fun x H'=>∃ k,TruV K x H' k/\Q k H'):=by
 obtain ⟨σ,G,hs,ha,h⟩:=h;refine yF m hs ha h fun w G1 v H1 gr _ rp ab q=>?_
 split at q
 .rename_i b hb;exact ⟨b,zgP rp ab hb,q H1 gr ab⟩
 .exact q.elim
theorem pt_of {x:Expr} {e:E3} (m:wA e) (h:PE X x (yB X.K e)) (he:∀ whole,isTrue x X.env whole=(do let v ← whole;standAt x.pos;holding [v] (truthy v))):PT X x (qE X.K (zP e)) :=
 (zeX h he).imp fun σ H Q q=>zew m q
theorem za8 {K:yL} {e:E3} (m:wA e) {τ:L2.St} {H:Hp} {Q:Bool->Hp->Prop} (h:qE K (yV e) τ H Q):yB K e τ H (fun x H'=>∃ k,x=.bl k/\Q k H'):=by
 obtain ⟨σ,G,hs,ha,h⟩:=h;refine yF m hs ha h fun w G1 v H1 gr _ rp ab q=>?_
 cases w with
 |bl b=>cases rp;exact ⟨b,rfl,q H1 gr ab⟩
 |_=>exact q.elim
theorem zbx {K:yL} {ea eb:E3} {r:R3} (ma:wA ea) (mb:wA eb) (mr:nU r) {τ:L2.St} {H:Hp} {Q:VK} (h:yB K (fun σ G Q=>ea σ G fun x G1=>eb σ G1 fun y G2=>r x y G2 Q) τ H Q) :
  tOp (pR K r) (yB K ea) (yB K eb) τ H Q:=by
 obtain ⟨σ,G,hs,ha,h⟩:=h;refine yF ma hs ha h fun x G1 v H1 g1 hs1 rx a1 h1=>?_;refine yF mb hs1 a1 h1 fun y G2 u H2 g2 hs2 ry a2 h2=>?_;exact ⟨x,y,G2,rx.mono g2,ry,a2,mr x y G2 _ _ (fun w G' q v' H' g'=>q v' H' ((g1.trans g2).trans g')) h2⟩
def Its (x:Str):It:=⟨fun i _=>i<x.cps.size,fun i H v H'=>H'=H/\∃ c,x.cps[i]?=some c/\v=.str ⟨#[c]⟩,fun i _=>x.cps.size<=i⟩
theorem zeu {P:Program} {w:World} {K:yL} {tg:Expr} (T:String) (hT:T = "str_ascii_iterator" \/ T = "str_iterator") (x:Str) (t:Tok) (it:Addr):Turn P w K tg (Its x) [it] it (fun i h=>h.IsStrIter it T x t i) where
 mem:=by simp
 obj:=fun i h st b hb=>by
  have e:b=it:=by simpa using hb
  subst e;obtain ⟨o,e,c,d⟩:=st;exact ⟨o,e,fun v z=>by rw [d] at z;cases z⟩
 keep:=fun i h h' st k=>let ⟨o,e,r⟩:=st;⟨o,k it (by simp) o e,r⟩
 item:=by
  intro X hP hw hK hc i pins s σ H E I hf st hg;subst hP hw hK;obtain ⟨f0,f1,f2,f3,f4,f5⟩:=hf it (by simp);have hi:i<x.cps.size:=hg;have hx:x.cps[i]?=some x.cps[i]:=by simp [hi]
  have fin:∀ h':Heap,h'.IsStrIter it T x t (i+1)->Heap.SameBut it s.heap h'->∃ u,some (Value.str ⟨#[x.cps[i]]⟩ s.toks)=some u /\
    wpAny (model X.prog X.w) X.A (letOwnedTupleGo tg (.ref it) u) (fun _ s2=>∃ v H',Inv X pins σ H' s2/\zD v u/\(Its x).yld i H v H'/\s2.heap.IsStrIter it T x t (i+1)/\∀ b∈[it],H' b=none) E { s with heap:=h',toks:=s.toks+1 }:=fun h' st' sb=>by
   have I1:Inv X pins σ H { s with heap:=h',toks:=s.toks+1 }:=I.turned (t':=s.toks+1) (fun b o hb e=>(sb.2 b hb).trans e) f0 f1 f3 f4 f5;obtain ⟨o,e,c,d⟩:=id st';exact ⟨_,rfl,zdN (s:={ s with heap:=h',toks:=s.toks+1 }) e c d (by rcases hT with rfl|rfl<;>decide) ⟨.str ⟨#[x.cps[i]]⟩,H,I1,⟨_,rfl⟩,⟨rfl,_,hx,rfl⟩,st',fun b hb=>(hf b hb).1⟩⟩
  rcases hT with rfl|rfl
  .exact wpAny_pyNext_ascii_item st hx fin
  .exact wpAny_pyNext_wide_item st hx fin
 done:=by
  intro X hP hw hK hc i pins s σ H E I hf st hg;subst hP hw hK;obtain ⟨f0,f1,f2,f3,f4,f5⟩:=hf it (by simp);have hx:x.cps[i]?=none:=by have h:x.cps.size<=i:=hg;simp [h]
  rcases hT with rfl|rfl
  .exact wpAny_pyNext_ascii_end (I.ok.hd hc) st hx fun h' eb=>⟨rfl,I.turned (t':=s.toks) (fun b o hb e=>eb b o hb e) f0 f1 f3 f4 f5⟩
  .exact wpAny_pyNext_wide_end (I.ok.hd hc) st hx fun h' eb=>⟨rfl,I.turned (t':=s.toks) (fun b o hb e=>eb b o hb e) f0 f1 f3 f4 f5⟩
 self:=fun _ _ _ _ _ st h=>by
  rcases hT with rfl|rfl
  .exact wpAny_pyIter_striter_ascii st h
  .exact wpAny_pyIter_striter_wide st h
theorem zjq {tg l:Expr} {tl:TE} (hl:PE X l tl):PI X tg l (fun σ H R=>tl σ H fun x H1=>(∃ t,x=.str t/\R (Its t) H1)\/∃ a,x=.ref a/\(((∃ xs,pM X.K H1 a xs)/\R (Itl X.K a) H1)\/((∃ xs,sO X.K H1 a xs)/\R (Itt X.K a) H1)\/∃ l,Rd H1 a (.dK l)/\∀ ob,(∀ ob',H1 a=some (.frz ob' (.dK l))->ob'=ob)->R (Itd a ob l) (xI H1 a (.frz ob (.dK l))))):=by
 intro pins s σ H R I h;refine yH (hl pins s σ H _ I h) fun v s1 ⟨x,H1,I1,r1,q1⟩=>?_;rcases q1 with ⟨tx,e,q⟩|q1
 .subst e;obtain ⟨tk,rfl⟩:=r1
  have fin:∀ T,(T = "str_ascii_iterator" \/ T = "str_iterator")->∀ o:Obj,o.isFreed=false->o.cls=.type T->o.data=.fields #[.str tx tk,.int 0 0]->PIE X pins σ tg R (.ref s1.heap.objs.size) { s1 with heap:=s1.heap.push o }   := fun T hT o hz hc hd=>by
   refine ⟨s1.heap.objs.size,[s1.heap.objs.size],_,_,H1,rfl,I1.kept (t':=s1.toks) fun b o e=>Heap.get?_push_of_some _ e,zeu T hT tx tk _,⟨_,Heap.get?_push_size _ hz,hc,hd⟩,fun b hb=>?_,q⟩;have e:b=s1.heap.objs.size:=by simpa using hb
   subst e;exact I1.fpOk (zzR _) (I1.hok.fresh (zzR _))
  cases hasc:tx.cps.all (· < 128)
  .exact wpAny_pyIter_wide hasc (fin _ (.inr rfl) _ rfl rfl rfl)
  .exact wpAny_pyIter_ascii hasc (fin _ (.inl rfl) _ rfl rfl rfl)
 obtain ⟨a,e,q1⟩:=q1;subst e;cases r1;rcases q1 with ⟨⟨xs,hq⟩,q⟩|⟨⟨xs,hq⟩,q⟩|⟨l,hq,q⟩
 rotate_left 2
 .exact zih I1 hq q
 .obtain ⟨its,rv,p,hz⟩:=I1.list hq;refine wpAny_pyIter_list p.isList ?_;refine ⟨s1.heap.objs.size,[s1.heap.objs.size],_,_,H1,rfl,I1.kept (t':=s1.toks) fun b o e=>Heap.get?_push_of_some _ e,zcD a _,⟨_,Heap.get?_push_size _ rfl,rfl,rfl⟩,fun b hb=>?_,q⟩;have e:b=s1.heap.objs.size:=by simpa using hb
  subst e;exact I1.fpOk (zzR _) (I1.hok.fresh (zzR _))
 .obtain ⟨its,rv,p,hz⟩:=I1.tuple hq;refine wpAny_pyIter_tuple (show s1.heap.IsTuple a its.toArray from p) ?_;refine ⟨s1.heap.objs.size,[s1.heap.objs.size],_,_,H1,rfl,I1.kept (t':=s1.toks) fun b o e=>Heap.get?_push_of_some _ e,zb5 a _,⟨_,Heap.get?_push_size _ rfl,rfl,rfl⟩,fun b hb=>?_,q⟩;have e:b=s1.heap.objs.size:=by simpa using hb
  subst e;exact I1.fpOk (zzR _) (I1.hok.fresh (zzR _))
theorem zkg {K:yL} {x:Str} {H1:Hp}:ItIs K (Its x) H1 (sgs x) (fun _=>True) where
 go:=fun i H G _ ab st hi=>by
  have h:i<(sgs x).length:=hi;show i<x.cps.size;simpa [sgs] using h
 yld:=fun i H G v H' _ ab st hi y=>by
  obtain ⟨rfl,c,e,rfl⟩:=y;refine ⟨.str ⟨#[c]⟩,?_,.refl,rfl,ab⟩;simp [sgs,e]
 stop:=fun i H G _ ab st hi=>by
  have h:(sgs x).length<=i:=hi;show x.cps.size<=i;simpa [sgs] using h
theorem zki {K:yL} {a:Addr} {H1:Hp} {ws:List W}:ItIs K (Itl K a) H1 ws (fun G=>yU G a=some ws) where
 go:=fun i H G _ ab st hi=>by
  obtain ⟨vs,sq,rs⟩:=ab.seq st;have hl:=rs.length;obtain ⟨v,e⟩:∃ v,vs[i]?=some v:=⟨vs[i]'(by omega),List.getElem?_eq_getElem _⟩;exact ⟨vs,v,sq,e⟩
 yld:=fun i H G x H' _ ab st hi y=>by
  obtain ⟨vs,sq,rs⟩:=ab.seq st;obtain ⟨e,y⟩:=y;subst e;obtain ⟨w,ew,rp⟩:=rs.get' (y vs sq);exact ⟨w,ew,.refl,rp,ab⟩
 stop:=fun i H G _ ab st hi=>by
  obtain ⟨vs,sq,rs⟩:=ab.seq st;exact ⟨vs,sq,by rw [rs.length];exact hi⟩
theorem zkf {K:yL} {a:Addr} {H1:Hp} {ws:List W} {vs:List V} (sq:sO K H1 a vs) (rs:zF K H1 ws vs):ItIs K (Itt K a) H1 ws (fun _=>True) where
 go:=fun i H G g ab st hi=>by
  have hl:=rs.length;obtain ⟨v,e⟩:∃ v,vs[i]?=some v:=⟨vs[i]'(by omega),List.getElem?_eq_getElem _⟩;exact ⟨vs,v,g.1 _ _ sq,e⟩
 yld:=fun i H G x H' g ab st hi y=>by
  obtain ⟨e,y⟩:=y;subst e;obtain ⟨w,ew,rp⟩:=(rs.mono g).get' (y vs (g.1 _ _ sq));exact ⟨w,ew,.refl,rp,ab⟩
 stop:=fun i H G g ab st hi=>⟨vs,g.1 _ _ sq,by rw [rs.length];exact hi⟩
theorem xR.rdD {K:yL} {H:Hp} {G:Hw} {p:Addr} {kvs:List (yD×W)} (ab:xR K H G) (e:zd4 G p=some kvs):∃ l,Rd H p (.dK l)/\yS K H kvs l:=by
 unfold zd4 at e
 split at e
 .rename_i q;cases e;obtain ⟨u,e',l,rfl,r⟩:=ab p _ q;exact ⟨l,.inl e',r⟩
 .rename_i q;cases e;obtain ⟨u,e',ob,l,rfl,r⟩:=ab p _ q;exact ⟨l,.inr ⟨ob,e'⟩,r⟩
 .cases e
theorem xR.freeze {K:yL} {H:Hp} {G:Hw} {p:Addr} {kvs:List (yD×W)} {l:List (yD×V)} {ob:Obj} (ab:xR K H G) (e:zd4 G p=some kvs) (hl:Rd H p (.dK l)) (rk:yS K H kvs l) :
  (∀ ob',H p=some (.frz ob' (.dK l))->ob'=ob)->yJ K H (xI H p (.frz ob (.dK l)))/\xR K (xI H p (.frz ob (.dK l))) (put G p (.fzd kvs)):=by
 intro same;unfold zd4 at e
 split at e
 .rename_i q;cases e;have g:yJ K H (xI H p (.frz ob (.dK l))):=ab.grow q;exact ⟨g,ab.chg q ⟨ob,l,rfl,rk.mono g⟩⟩
 .rename_i q;cases e;obtain ⟨u,e',ob2,l2,rfl,r⟩:=ab p _ q
  have hp:H p=some (.frz ob (.dK l)):=by
   rcases hl with h|⟨o,h⟩
   .rw [h] at e';cases e'
   .rw [h,same o h]
  rw [zfX hp];refine ⟨.refl,fun b o z=>?_⟩
  by_cases hb:b=p
  .subst hb;rw [zX] at z;cases z;exact ⟨_,hp,ob,l,rfl,rk⟩
  .rw [yK hb] at z;exact ab b o z
 .cases e
theorem yS.keyAt {K:yL} {H:Hp} {κ:Type}:∀ {l:List (κ×W)} {l':List (κ×V)} {i:Nat} {p:κ×V},yS K H l l'->l'[i]?=some p->∃ w,l[i]?=some (p.1,w)
 | [],_,i,p,h,e=>by rw [show _=[] from h] at e;simp at e
 | (k,w)::_,_,0,p,⟨v,t,e,h,r⟩,q=>by subst e;simp at q;subst q;exact ⟨w,rfl⟩
 |_::_,_,i+1,p,⟨v,t,e,h,r⟩,q=>by
  subst e;obtain ⟨w,h1⟩:=yS.keyAt (i:=i) (p:=p) r (by simpa using q);exact ⟨w,by simpa using h1⟩
theorem zj8 {K:yL} {H:Hp} (k:yD):xN K H (kW k) (kV k):=by
 cases k<;>rfl
theorem zkj {K:yL} {d:Addr} {ob:Obj} {l:List (yD×V)} {H1:Hp} {kvs:List (yD×W)} (e:H1 d=some (.frz ob (.dK l))) (rk:yS K H1 kvs l):ItIs K (Itd d ob l) H1 (kvs.map fun kv=>kW kv.1) (fun G=>G d=some (.fzd kvs)) where
 go:=fun i H G g ab st hi=>⟨g.2 _ _ True.intro e,by rw [rk.length];simpa using hi⟩
 yld:=fun i H G x H' g ab st hi y=>by
  obtain ⟨e1,p,e2,e3⟩:=y;subst e1;subst e3;obtain ⟨w,ew⟩:=rk.keyAt e2;exact ⟨kW p.1,by rw [List.getElem?_map,ew];rfl,.refl,zj8 _,ab⟩
 stop:=fun i H G g ab st hi=>⟨g.2 _ _ True.intro e,by rw [rk.length];simpa using hi⟩
theorem zjr {tg x:Expr} {e:E3} (m:wA e) (h:PE X x (yB X.K e)):PI X tg x (lowI X.K fun σ G R=>e σ G fun w G1=>kX w G1 R):=by
 intro pins s σ H R I q;refine zjq h pins s σ H R I ?_;obtain ⟨σ3,G,hs,ha,q⟩:=q;refine yF m hs ha q fun w G1 v H1 gr hs1 rp ab q=>?_
 cases w with
 |tup ws =>
  obtain ⟨a,vs,rfl,sq,rs⟩:=rp;exact .inr ⟨a,rfl,.inr (.inl ⟨⟨vs,sq⟩,q _ H1 gr ab (zkf sq rs)⟩)⟩
 |ref p =>
  cases rp;simp only [kX] at q
  split at q
  .rename_i ws e;obtain ⟨vs,sq,rs⟩:=ab.seq e;exact .inr ⟨p,rfl,.inl ⟨⟨vs,sq⟩,q _ H1 gr ab zki⟩⟩
  .split at q
   .rename_i kvs e;obtain ⟨l,hl,rk⟩:=ab.rdD e;refine .inr ⟨p,rfl,.inr (.inr ⟨l,hl,fun ob same=>?_⟩)⟩;obtain ⟨g2,a2⟩:=ab.freeze (ob:=ob) e hl rk same;exact q _ _ (gr.trans g2) a2 (zkj (wW) (rk.mono g2))
   .exact q.elim
 |str t =>
  cases rp;exact .inl ⟨t,rfl,q _ H1 gr ab zkg⟩
 |_=>exact q.elim
def lowG (K:yL) (t:G3):TG:=fun v τ H Q=>∃ w σ G,xN K H w v/\yM K H σ τ/\xR K H G/\t w σ G fun σ' G'=>∀ τ' H',yJ K H H'->yM K H' σ' τ'->xR K H' G'->Q τ' H'
def lowGs (K:yL) (t:Gs3):TGs:=fun vs τ H Q=>∃ ws σ G,zF K H ws vs/\yM K H σ τ/\xR K H G/\t ws σ G fun σ' G'=>∀ τ' H',yJ K H H'->yM K H' σ' τ'->xR K H' G'->Q τ' H'
theorem _root_.L2.PG.imp {tg:Expr} {t t':TG} (h:PG X tg t) (k:∀ v σ H Q,t' v σ H Q->t v σ H Q):PG X tg t':=fun pins s σ H v u Q I r q=>h pins s σ H v u Q I r (k v σ H Q q)
theorem _root_.L2.PGs.imp {tg:List Expr} {t t':TGs} (h:PGs X tg t) (k:∀ v σ H Q,t' v σ H Q->t v σ H Q):PGs X tg t':=fun pins s σ H v u Q I r q=>h pins s σ H v u Q I r (k v σ H Q q)
theorem cK {e:Expr} {es:List Expr} {env:Env} (h:xJ e=true):assignEach (e::es) env=(false,assign e env)::assignEach es env:=by
 cases e<;>first|rfl|exact absurd h zzN
end
def MonoG (t:G3):Prop:=∀ w σ G (Q Q':jM->Hw->Prop),(∀ a b,Q a b->Q' a b)->t w σ G Q->t w σ G Q'
def zkP (t:Gs3):Prop:=∀ w σ G (Q Q':jM->Hw->Prop),(∀ a b,Q a b->Q' a b)->t w σ G Q->t w σ G Q'
mutual
theorem pH:∀ t:ITg,MonoG (zW t)
 | .nm i=>fun w σ G Q Q' k h=>k _ _ h
 | .tup ts=>fun w σ G Q Q' k h=>by
  cases w with
  |tup ws=>exact fP ts ws σ G Q Q' k h
  |_=>exact h.elim
theorem fP:∀ ts:ITgs,zkP (zY ts)
 | .nil=>fun w σ G Q Q' k h=>by
  cases w with
  |nil=>exact k _ _ h
  |cons _ _=>exact h.elim
 | .cons t ts=>fun w σ G Q Q' k h=>by
  cases w with
  |nil=>exact h.elim
  |cons x r=>exact pH t x σ G _ _ (fun σ' G' h=>fP ts r σ' G' Q Q' k h) h
end
theorem zbG {Γ:Ctx3} {M:MC} {p:Par} {X:Cx} (L:Lk Γ M p X) {x:Str} (h:locB M x=true):Loc X.env.scope x/\(X.fn x=true\/X.env.scope.names.lookup x=some .local):=by
 unfold locB at h;rw [L.sc]
 split at h
 .rename_i e;exact ⟨.inl e,.inr e⟩
 .rename_i e;exact ⟨.inr e,.inl (L.own x h)⟩
 .exact absurd h zzN
mutual
theorem sndG {Γ:Ctx3} {M:MC} {p:Par} {X:Cx} (L:Lk Γ M p X):∀ (t:ITg) (x:Expr),mG M t x=true->PG X x (lowG X.K (zW t))
  | .nm i,x,h=>by
   cases x with
   |Name y q =>
    replace h:=sP h;have lo:=zbG L h.2;refine (zaM (i:=i) (L.N▸L.nd) (by rw [L.N];exact jO h.1) lo.1 lo.2).imp fun v σ H Q q=>?_;obtain ⟨w,σ3,G,rp,hs,ab,q⟩:=q;exact q _ _ .refl (hs.set rp i) ab
   |_=>exact absurd h zzN
  | .tup ts,x,h=>by
   cases x with
   |Tuple es k q =>
    skip
    obtain ⟨ps,hn,hst⟩:=zgY L ts es h;refine (zgd (n:=es.length) L.fits.calm ps hn hst).imp fun v σ H Q q=>?_;obtain ⟨w,σ3,G,rp,hs,ab,q⟩:=q
    cases w with
    |tup ws =>
      obtain ⟨a,vs,rfl,sq,rs⟩:=rp;refine ⟨a,vs,rfl,sq,?_,ws,σ3,G,rs,hs,ab,q⟩;rw [rs.length];exact zfm ts es ws σ3 G _ h q
    |_=>exact q.elim
   |_=>exact absurd h zzN
theorem zgY {Γ:Ctx3} {M:MC} {p:Par} {X:Cx} (L:Lk Γ M p X):∀ (ts:ITgs) (xs:List Expr),mGs M ts xs=true->PGs X xs (lowGs X.K (zY ts))/\(assignEach xs X.env).length=xs.length/\(assignEach xs X.env).findIdx? (·.1)=none
 | .nil,[],_=>⟨(zc9).imp fun vs σ H Q q=>by
   obtain ⟨ws,σ3,G,rs,hs,ab,q⟩:=q
   cases ws with
   |nil=>exact ⟨rs,q _ _ .refl hs ab⟩
   |cons _ _=>exact q.elim,rfl,rfl⟩
 | .cons t ts,x::xs,h=>by
  simp only [mGs,Bool.and_eq_true] at h;obtain ⟨ps,hn,hst⟩:=zgY L ts xs h.2;have es:=cK (es:=xs) (env:=X.env) h.1.1;refine ⟨(gB (sndG L t x h.1.2) ps (by rw [es];rfl)).imp fun vs σ H Q q=>?_,by rw [es,List.length_cons,List.length_cons,hn],?_⟩
  .obtain ⟨ws,σ3,G,rs,hs,ab,q⟩:=q
   cases ws with
   |nil=>exact q.elim
   |cons w r =>
    obtain ⟨v,vr,e,rp,rr⟩:=rs;refine ⟨v,vr,e,w,σ3,G,rp,hs,ab,pH t w σ3 G _ _ (fun σ' G' q τ' H' g' hs' ab'=>?_) q⟩;exact ⟨r,σ',G',rr.mono g',hs',ab',fP ts r σ' G' _ _ (fun σ2 G2 q τ2 H2 g2=>q τ2 H2 (g'.trans g2)) q⟩
  .rw [es,List.findIdx?_cons];simp only [zzB,if_false,hst];rfl
theorem zfm {M:MC}:∀ (ts:ITgs) (xs:List Expr) (ws:List W) (σ:jM) (G:Hw) (Q:jM->Hw->Prop),mGs M ts xs=true->zY ts ws σ G Q->ws.length=xs.length
 | .nil,[],ws,σ,G,Q,_,q=>by
  cases ws with
  |nil=>rfl
  |cons _ _=>exact q.elim
 | .cons t ts,x::xs,ws,σ,G,Q,h,q=>by
  simp only [mGs,Bool.and_eq_true] at h
  cases ws with
  |nil=>exact q.elim
  |cons w r =>
   have:∃ σ' G',zY ts r σ' G' Q:=exG t w σ G _ q;obtain ⟨σ',G',q'⟩:=this;rw [List.length_cons,List.length_cons,zfm ts xs r σ' G' Q h.2 q']
theorem exG:∀ (t:ITg) (w:W) (σ:jM) (G:Hw) (Q:jM->Hw->Prop),zW t w σ G Q->∃ σ' G',Q σ' G'
 | .nm i,w,σ,G,Q,q=>⟨_,_,q⟩
 | .tup ts,w,σ,G,Q,q=>by
  cases w with
  |tup ws=>exact exGs ts ws σ G Q q
  |_=>exact q.elim
theorem exGs:∀ (ts:ITgs) (ws:List W) (σ:jM) (G:Hw) (Q:jM->Hw->Prop),zY ts ws σ G Q->∃ σ' G',Q σ' G'
 | .nil,ws,σ,G,Q,q=>by
  cases ws with
  |nil=>exact ⟨_,_,q⟩
  |cons _ _=>exact q.elim
 | .cons t ts,ws,σ,G,Q,q=>by
  cases ws with
  |nil=>exact q.elim
  |cons w r =>
   obtain ⟨σ',G',q'⟩:=exG t w σ G _ q;exact exGs ts r σ' G' Q q'
end
def lowO (K:yL) (t:jM->Hw->(Option Int->Hw->Prop)->Prop):TO:=fun τ H Q=>∃ σ G,yM K H σ τ/\xR K H G/\t σ G fun o G'=>∀ H',yJ K H H'->xR K H' G'->Q o H'
theorem _root_.L2.PO.imp {X:Cx} {e:Option Expr} {t t':TO} (h:PO X e t) (k:∀ σ H Q,t' σ H Q->t σ H Q):PO X e t':=fun pins s σ H Q I q=>h pins s σ H Q I (k σ H Q q)
theorem _root_.L2.PTs.imp {X:Cx} {e:List Expr} {t t':TT} (h:PTs X e t) (k:∀ σ H Q,t' σ H Q->t σ H Q):PTs X e t':=fun pins s σ H Q I q=>h pins s σ H Q I (k σ H Q q)
theorem _root_.L2.PI.imp {X:Cx} {tg x:Expr} {t t':TI} (h:PI X tg x t) (k:∀ σ H R,t' σ H R->t σ H R):PI X tg x t':=fun pins s σ H R I q=>h pins s σ H R I (k σ H R q)
def capV (k:Nat) (caps:List Nat) (σ:L2.St):L2.St:=List.replicate k none++caps.map fun j=>(σ[j]?).join
theorem za7 {α:Type} {k:Nat} {caps:List Nat} {σ:List (Option α)} {i:Nat} {v:α} (h:(List.replicate k none++caps.map fun j=>(σ[j]?).join)[i]?=some (some v)):k<=i/\∃ j,caps[i-k]?=some j/\σ[j]?=some (some v):=by
 by_cases hi:i<k
 .rw [List.getElem?_append_left (by simpa using hi),List.getElem?_replicate,if_pos hi] at h;cases h
 .rw [List.getElem?_append_right (by simpa using hi),List.length_replicate,List.getElem?_map] at h;refine ⟨by omega,?_⟩
  cases e:caps[i-k]? with
  |none=>rw [e] at h;cases h
  |some j =>
   rw [e] at h;have h':(σ[j]?).join=some v:=Option.some.inj h;refine ⟨j,rfl,?_⟩
   cases q:σ[j]? with
   |none=>rw [q] at h';cases h'
   |some o=>rw [q] at h';exact congrArg some h'
theorem zio {K:yL} {H:Hp} {σ:jM} {τ:L2.St} (h:yM K H σ τ) (k:Nat) (caps:List Nat):yM K H (capS k caps σ) (capV k caps τ):=by
 refine ⟨by simp [capS,capV],fun i w e=>?_⟩;obtain ⟨hk,j,ej,es⟩:=za7 e;obtain ⟨v,ev,rp⟩:=h.2 j w es;refine ⟨v,?_,rp⟩;unfold capV;rw [List.getElem?_append_right (by simpa using hk),List.length_replicate,List.getElem?_map,ej];simp [ev]
theorem zbz:∀ {l:List Str},fZ l=true->l.Nodup
 | [],_=>List.nodup_nil
 |x::r,h=>by
  simp only [fZ,Bool.and_eq_true,Bool.not_eq_true'] at h;refine List.nodup_cons.mpr ⟨fun hm=>?_,zbz h.2⟩;have:=List.elem_eq_true_of_mem hm;rw [List.contains_eq_mem] at h;simp [hm] at h
theorem zg6 {X:Cx} {sc out:Scope} (e:X.env.scope=out):relabel sc X.env=relS sc out:=by
 unfold relabel relS Env.kindOf;rw [e]
theorem zgE {X:Cx} {sc out:Scope} (e:X.env.scope=out) (h:blkB out sc=true):BlkSc X sc:=by
 unfold blkB at h;simp only [Bool.and_eq_true,List.all_eq_true] at h;obtain ⟨⟨⟨h1,h2⟩,h3⟩,h4⟩:=h;refine ⟨eq_of_beq h1,fun y hy=>?_,fun y hy=>?_,fun x hx=>?_,fun y hy z=>?_⟩
 .simpa using (h2 _ hy).1
 .simpa using (h2 _ hy).2
 .have:=h3 _ hx;simp only [beq_self_eq_true,Bool.not_true,Bool.false_or,Bool.or_eq_true,beq_iff_eq] at this;show X.env.scope.names.lookup x=_\/X.env.scope.names.lookup x=_;rw [e];exact this
 .have:=h4 y hy;rw [z] at this;simpa using this
theorem zed {X:Cx} {M:MC} {sc:Scope} {names:List Str} {caps:List Nat} (eN:X.N=M.N) (es:X.env.scope=M.sc)
  (h:(caps.all fun j=>decide (j<M.N.length)&&(sc.names.lookup (M.N.getD j Str.empty)==some .free))=true) :
  Caps X sc (names++caps.map (fun j=>M.N.getD j Str.empty)) (capV names.length caps):=by
 intro σ hl;simp only [List.all_eq_true,Bool.and_eq_true,decide_eq_true_eq,Bool.not_eq_true'] at h;refine ⟨by simp [capV],fun i x v hN hσ _=>?_⟩;obtain ⟨hk,j,ej,e⟩:=za7 hσ;rw [List.getElem?_append_right hk,List.getElem?_map,ej] at hN;have hx:M.N.getD j Str.empty=x:=Option.some.inj hN;have hj:=h j (List.mem_of_getElem? ej);refine ⟨?_,j,?_,e⟩
 .rw [← hx];exact eq_of_beq hj.2
 .rw [eN,← hx,List.getD_eq_getElem?_getD,List.getElem?_eq_getElem hj.1];rfl
theorem zjX {K:yL} {J:It} {H1:Hp} {items:List W} {stab:Hw->Prop} {G1:Hw} {σ:jM} {τ:L2.St} {tg:ITg} {c:T3} {e:E3} {Q:VK} {H0:Hp} (mc:tX c) (me:wA e) (it:ItIs K J H1 items stab) (ab:xR K H1 G1) (hs:yM K H1 σ τ) (g0:yJ K H0 H1)
  (hw:∀ w G' (Q:jM->Hw->Prop),zW tg w σ G' Q->zW tg w σ G' fun σ2 G2=>(σ2.length=σ.length/\∀ (i:Nat) (v:W),σ[i]?=some (some v)->σ2[i]?=some (some v))/\Q σ2 G2)
  (h:lcR items stab G1 (fun w G' K=>zW tg w σ G' fun σ2 G2=>c σ2 G2 fun b G3=>if b=true then e σ2 G3 fun x G4=>K (some x) G4 else K none G3) (kE K H0 Q)) :
  tLCb J τ (lowG K (zW tg)) (qE K c) (yB K e) (fun acc H'=>∀ p,H' p=none->Q (.ref p) (xI H' p (.lst acc))) H1:=by
 obtain ⟨Pv,p0,pst,hlen,step,fin⟩:=h;refine ⟨fun i m τ acc H=>m+i=items.length/\yJ K H1 H/\yM K H σ τ/\∃ ws G,zF K H ws acc/\xR K H G/\Pv i ws G,⟨items.length,rfl,.refl,hs,[],G1,rfl,ab,p0⟩,?_⟩;rintro i m τ acc H ⟨hm,gr,hs,ws,G,rs,a,pv⟩;have hst:=pst i ws G pv (by omega);have hacc:acc.length=ws.length:=rs.length
 by_cases hi:i<items.length
 .refine .inr ⟨it.go i H G gr a hst.1 hi,by omega,fun x H' y=>?_⟩;obtain ⟨w,ew,g1,rp,a1⟩:=it.yld i H G x H' gr a hst.1 hi y;refine ⟨w,σ,G,rp,hs.mono g1,a1,pH tg w σ G _ _ (fun σ2 G2 q τ2 H2 g2 hs2 a2=>?_) (hw w G _ (step i w ws G ew pv))⟩;obtain ⟨⟨wl,wk⟩,q⟩:=q;have back:∀ {τ':L2.St} {H':Hp},yM K H' σ2 τ'->yM K H' σ τ':=fun {τ' H'} r=>⟨by rw [← wl];exact r.1,fun k w e=>r.2 k w (wk k w e)⟩;refine dM mc hs2 a2 q fun b G3 H3 g3 hs3 a3 q3=>?_
  cases b with
  |true =>
   rw [if_pos rfl] at q3 ⊢;refine yF me hs3 a3 q3 fun x G4 v H4 g4 hs4 rx a4 q4=>?_;refine ⟨m-1,by omega,by omega,gr.trans (g1.trans (g2.trans (g3.trans g4))),back hs4,ws++[x],G4,?_,a4,q4⟩;exact (rs.mono (g1.trans (g2.trans (g3.trans g4)))).append ⟨v,[],rfl,rx,rfl⟩
  |false =>
   rw [if_neg (by decide)] at q3 ⊢;exact ⟨m-1,by omega,by omega,gr.trans (g1.trans (g2.trans g3)),back hs3,ws,G3,rs.mono (g1.trans (g2.trans g3)),a3,q3⟩
 .refine .inl ⟨it.stop i H G gr a hst.1 (by omega),fun p hp=>?_⟩;have ei:i=items.length:=by omega
  subst ei;exact fin ws G pv p (a.free hp) _ _ ((g0.trans gr).trans (wZ hp)) rfl (a.new hp ⟨acc,rfl,rs.mono (wZ hp)⟩)
theorem zcY:∀ (tg:ITg) (w:W) (σ:jM) (G:Hw) (Q:jM->Hw->Prop),zW tg w σ G Q->zW tg w σ G fun σ2 G2=>σ2.length=σ.length/\Q σ2 G2:=by
 intro tg
 refine ITg.rec (motive_1:=fun _=>True) (motive_2:=fun _=>True) (motive_3:=fun _=>True) (motive_4:=fun _=>True) (motive_5:=fun tg=>∀ (w:W) (σ:jM) (G:Hw) (Q:jM->Hw->Prop),zW tg w σ G Q->zW tg w σ G fun σ2 G2=>σ2.length=σ.length/\Q σ2 G2)
  (motive_6:=fun ts=>∀ (ws:List W) (σ:jM) (G:Hw) (Q:jM->Hw->Prop),zY ts ws σ G Q->zY ts ws σ G fun σ2 G2=>σ2.length=σ.length/\Q σ2 G2)
  ?_ ?_ ?_ ?_ ?_ ?_ ?_ ?_ ?_ ?_ ?_ ?_ ?_ ?_ ?_ ?_ ?_ ?_ ?_ ?_ ?_ ?_ ?_ ?_ ?_ ?_ ?_ ?_ ?_ ?nm ?tup ?nil ?cons tg
 case nm=>exact fun i w σ G Q h=>⟨by simp,h⟩
 case tup =>
  intro ts ih w σ G Q h
  cases w with
  |tup ws=>exact ih ws σ G Q h
  |_=>exact h.elim
 case nil =>
  intro ws σ G Q h
  cases ws with
  |nil=>exact ⟨rfl,h⟩
  |cons _ _=>exact h.elim
 case cons =>
  intro t ts ht hts ws σ G Q h
  cases ws with
  |nil=>exact h.elim
  |cons w r =>
   refine pH t w σ G _ _ (fun σ' G' q=>?_) (ht w σ G _ h);exact fP ts r σ' G' _ _ (fun σ2 G2 q2=>⟨q2.1.trans q.1,q2.2⟩) (hts r σ' G' Q q.2)
 all_goals intros;trivial
mutual
theorem zbo:∀ (tg:ITg) (w:W) (σ:jM) (G:Hw) (Q:jM->Hw->Prop),zW tg w σ G Q->zW tg w σ G fun σ2 G2=>(∀ i,i∉tgIx tg->σ2[i]?=σ[i]?)/\Q σ2 G2
 | .nm j,w,σ,G,Q,h=>⟨fun i hi=>by rw [List.getElem?_set_ne];intro z;exact hi (by simp [tgIx,z]),h⟩
 | .tup ts,w,σ,G,Q,h=>by
  cases w with
  |tup ws=>exact bW ts ws σ G Q h
  |_=>exact h.elim
theorem bW:∀ (ts:ITgs) (ws:List W) (σ:jM) (G:Hw) (Q:jM->Hw->Prop),zY ts ws σ G Q->zY ts ws σ G fun σ2 G2=>(∀ i,i∉zey ts->σ2[i]?=σ[i]?)/\Q σ2 G2
 | .nil,ws,σ,G,Q,h=>by
  cases ws with
  |nil=>exact ⟨fun _ _=>rfl,h⟩
  |cons _ _=>exact h.elim
 | .cons t ts,ws,σ,G,Q,h=>by
  cases ws with
  |nil=>exact h.elim
  |cons w r =>
   refine pH t w σ G _ _ (fun σ' G' q=>?_) (zbo t w σ G _ h);refine fP ts r σ' G' _ _ (fun σ2 G2 q2=>⟨fun i hi=>?_,q2.2⟩) (bW ts r σ' G' Q q.2);simp only [zey,List.mem_append,not_or] at hi;rw [q2.1 i hi.2,q.1 i hi.1]
end
theorem zd5 {K:yL} {H:Hp}:∀ (ks:List Str) {ws:List W} {vs:List V} {a:List (yD×W)} {b:List (yD×V)},zF K H ws vs->yS K H a b ->
  yS K H ((ks.zip ws).foldl (fun acc kv=>cL acc (.inr kv.1) kv.2) a) (((ks.zip vs).map fun kv=>((Sum.inr kv.1:yD),kv.2)).foldl (fun acc kv=>uX acc kv.1 kv.2) b)
 | [],ws,vs,a,b,_,h=>by simpa using h
 |k::ks,[],vs,a,b,hr,h=>by rw [show vs=[] from hr];simpa using h
 |k::ks,w::ws,vs,a,b,hr,h=>by
  obtain ⟨v,r,e,rw',rr⟩:=hr;subst e;simp only [List.zip_cons_cons,List.foldl_cons,zzU];exact zd5 ks rr (h.put rw')
theorem fK {K:yL} {H:Hp} {f:Str} {w:W}:∀ {l:List (Str×W)} {l':List (Str×V)},yS K H l l'->l.lookup f=some w->∃ v,l'.lookup f=some v/\xN K H w v
 | [],_,h,e=>by cases e
 |p::r,_,⟨v,t,e,h,hr⟩,q=>by
  subst e;obtain ⟨n,u⟩:=p;rw [List.lookup_cons] at q ⊢
  cases hx:f==n with
  |true=>rw [hx] at q;cases q;exact ⟨v,rfl,h⟩
  |false=>rw [hx] at q;exact fK hr q
theorem zfZ {K:yL} {H:Hp} {G:Hw} {w:W} {v:V} {T:String} (r:xN K H w v) (ab:xR K H G) (h:tyW G w T):tyV K T v H:=by
 cases w with
 |str x=>cases r;exact h
 |ref p =>
  cases r;simp only [tyW] at h
  split at h
  .rename_i ws e;obtain ⟨vs,q,_⟩:=ab.lst e;exact .inl ⟨h,vs,.of q⟩
  .rename_i ws e;obtain ⟨vs,q,_⟩:=ab.seq (a:=p) (ws:=ws) (by unfold yU;rw [e]);exact .inl ⟨h,vs,q⟩
  .rename_i kvs e;obtain ⟨l,q,_⟩:=ab.dic e;exact .inr (.inr (.inl ⟨h,.inl ⟨l,q⟩⟩))
  .exact h.elim
 |_=>exact h.elim
theorem zhA {l:List Nat} {k:Nat} (h:l.all (fun i=>decide (i<k))=true) {i:Nat} (hi:k<=i):i∉l:=fun hm=>by
 have:=List.all_eq_true.mp h i hm;simp at this;omega
theorem zhR {op:CmpOp} {a b:IE} {M:MC} {l:Expr} {os:List CmpOp} {rs:List Expr} {q:Pos} (h:mE (.cmp op a b) M (.Compare l os rs q)=true):∃ o r,os=[o]/\rs=[r]:=by
 cases os with
 |nil=>exact absurd h zzN
 |cons o os =>
  cases os with
  |cons _ _=>exact absurd h zzN
  |nil =>
   cases rs with
   |nil=>exact absurd h zzN
   |cons r rs =>
    cases rs with
    |cons _ _=>exact absurd h zzN
    |nil=>exact ⟨o,r,rfl,rfl⟩
theorem zhS {o1 o2:CmpOp} {a b c:IE} {M:MC} {l:Expr} {os:List CmpOp} {rs:List Expr} {q:Pos} (h:mE (.chn o1 o2 a b c) M (.Compare l os rs q)=true):∃ p1 p2 r t,os=[p1,p2]/\rs=[r,t]:=by
 cases os with
 |nil=>exact absurd h zzN
 |cons p1 os =>
  cases os with
  |nil=>exact absurd h zzN
  |cons p2 os =>
   cases os with
   |cons _ _=>exact absurd h zzN
   |nil =>
    cases rs with
    |nil=>exact absurd h zzN
    |cons r rs =>
     cases rs with
     |nil=>exact absurd h zzN
     |cons t rs =>
      cases rs with
      |cons _ _=>exact absurd h zzN
      |nil=>exact ⟨p1,p2,r,t,rfl,rfl⟩
theorem zhT {o1 o2 o3:CmpOp} {a b c d:IE} {M:MC} {l:Expr} {os:List CmpOp} {rs:List Expr} {q:Pos} (h:mE (.ch3 o1 o2 o3 a b c d) M (.Compare l os rs q)=true):∃ p1 p2 p3 r t u,os=[p1,p2,p3]/\rs=[r,t,u]:=by
 match os,rs,h with
 | [p1,p2,p3],[r,t,u],_=>exact ⟨p1,p2,p3,r,t,u,rfl,rfl⟩
section
variable {X : Cx} {a b c d : Expr} {pos : Pos} {ta tb tc td : TE}
def tCh3 (r1 r2 r3:R2) (ta tb tc td:TE):TE:=fun σ H Q=>ta σ H fun x H1=>tb σ H1 fun y H2=>r1 x y H2 fun z H3=>∃ k,z=.bl k /\
 (if k=true then tc σ H3 fun u H4=>r2 y u H4 fun z2 H5=>∃ k2,z2=.bl k2/\(if k2=true then td σ H5 fun t H6=>r3 u t H6 Q else Q (.bl false) H5) else Q (.bl false) H3)
theorem zjB {o1 o2 o3:CmpOp} {r1 r2 r3:R2} (h1:kB X (compareOp o1) r1) (h2:kB X (compareOp o2) r2) (h3:kB X (compareOp o3) r3) (ha:PE X a ta) (hb:PE X b tb) (hc:PE X c tc) (hd:PE X d td)
  (hm:lastMarks [o1,o2,o3] [b,c,d]=false):PE X (.Compare a [o1,o2,o3] [b,c,d] pos) (tCh3 r1 r2 r3 ta tb tc td):=by
 intro pins s σ H Q I h
 refine Compare_chain (yH (ha pins s σ H _ I h) fun v s1 ⟨x,H1,I1,e1,q1⟩=>chain_link (yH (hb pins s1 σ H1 _ I1 q1) fun u s2 ⟨y,H2,I2,e2,q2⟩ =>
  yH (h1 pins s2 σ H2 x y v u _ I2 e1 e2 q2) fun _ s3 ⟨z,H3,I3,e3,k,e,q3⟩=>?_)) hm
 subst e;cases e3;refine wpAny_truthy_bool ?_
 cases k with
 |false=>exact ite_ff ⟨.bl false,H3,I3,rfl,q3⟩
 |true =>
  refine ite_tt (chain_link (yH (hc pins s3 σ H3 _ I3 q3) fun w4 s4 ⟨z4,H4,I4,e4,q4⟩=>yH (h2 pins s4 σ H4 y z4 u w4 _ I4 e2 e4 q4) fun _ s5 ⟨z5,H5,I5,e5,k2,e,q5⟩=>?_));subst e;cases e5;refine wpAny_truthy_bool ?_
  cases k2 with
  |false=>exact ite_ff ⟨.bl false,H5,I5,rfl,q5⟩
  |true=>exact ite_tt (chain_last (yH (hd pins s5 σ H5 _ I5 q5) fun w6 s6 ⟨z6,H6,I6,e6,q6⟩=>h3 pins s6 σ H6 z4 z6 w4 w6 Q I6 e4 e6 q6))
theorem zjl {o1 o2 o3:CmpOp} {r1 r2 r3:R2} (h1:kB X (compareOp o1) r1) (h2:kB X (compareOp o2) r2) (h3:kB X (compareOp o3) r3) (ha:PE X a ta) (hb:PE X b tb) (hc:PE X c tc) (hd:PE X d td)
  (hm:lastMarks [o1,o2,o3] [b,c,d]=false):PT X (.Compare a [o1,o2,o3] [b,c,d] pos) (zgS (tCh3 r1 r2 r3 ta tb tc td)):=by
 intro pins s σ H Q I h
 refine isTrue_chain (yH (ha pins s σ H _ I h) fun v s1 ⟨x,H1,I1,e1,q1⟩=>test_link (yH (hb pins s1 σ H1 _ I1 q1) fun u s2 ⟨y,H2,I2,e2,q2⟩ =>
  yH (h1 pins s2 σ H2 x y v u _ I2 e1 e2 q2) fun _ s3 ⟨z,H3,I3,e3,k,e,q3⟩=>?_)) hm
 subst e;cases e3;refine wpAny_truthy_bool ?_
 cases k with
 |false =>
  obtain ⟨k',e',q'⟩:=q3;cases e';exact ite_ff ⟨H3,I3,q'⟩
 |true =>
  refine ite_tt (test_link (yH (hc pins s3 σ H3 _ I3 q3) fun w4 s4 ⟨z4,H4,I4,e4,q4⟩=>yH (h2 pins s4 σ H4 y z4 u w4 _ I4 e2 e4 q4) fun _ s5 ⟨z5,H5,I5,e5,k2,e,q5⟩=>?_));subst e;cases e5;refine wpAny_truthy_bool ?_
  cases k2 with
  |false =>
   obtain ⟨k',e',q'⟩:=q5;cases e';exact ite_ff ⟨H5,I5,q'⟩
  |true =>
   refine ite_tt (test_last (yH (hd pins s5 σ H5 _ I5 q5) fun w6 s6 ⟨z6,H6,I6,e6,q6⟩=>yH (h3 pins s6 σ H6 z4 z6 w4 w6 _ I6 e4 e6 q6) fun _ s7 ⟨z7,H7,I7,e7,k3,e,q7⟩=>?_));subst e;cases e7;exact wpAny_truthy_bool ⟨H7,I7,q7⟩
end
section
variable {Γ : Ctx3} {p : Par} (g : Good Γ p)
def jC (Γ:Ctx3) (p:Par) (e:IE):Prop:=∀ M X x,Lk Γ M p X->mE e M x=true->PE X x (yB X.K (zG Γ XN e).e)/\PT X x (qE X.K (zG Γ XN e).t)/\∀ op vs pos,x=.BoolOp op vs pos->PW X x (qE X.K (zG Γ XN e).t)
def OkO (Γ:Ctx3) (p:Par) (o:IO):Prop:=∀ M X,Lk Γ M p X->(∀ x,mO o M x=true->PO X x (lowO X.K (zN Γ XN o)))/\∀ xs,mC o M xs=true->PTs X xs (qE X.K (zQ Γ o))
def OkA (Γ:Ctx3) (p:Par) (es:IEs):Prop:=∀ M X xs,Lk Γ M p X->mA es M xs=true->PA X xs (rS X.K (zV Γ XN es))/\xs.all xJ=true /\
 (∀ ks keys pos,keyB ks keys=true->keys.length=xs.length->keys.all (·.isSome)=true/\ks.length=keys.length/\∃ trs,PPs X pos keys xs trs/\∀ τ H (Q:List (V×V)->Hp->Prop),
  (∃ σ G,yM X.K H σ τ/\xR X.K H G/\zV Γ XN es σ G fun ws G'=>∀ vs H',yJ X.K H H'->zF X.K H' ws vs->xR X.K H' G'->Q ((ks.zip vs).map fun kv=>(V.str kv.1,kv.2)) H')->zbh trs τ H Q)/\nS X xs (semL Γ es)
def OkI (Γ:Ctx3) (p:Par) (it:II):Prop:=∀ M X x,Lk Γ M p X->mI it M x=true->∀ tg,PI X tg x (lowI X.K (zR Γ XN it))
theorem jS {M:MC} {X:Cx} {x:Expr} {e:E3} (m:wA e) (h:PE X x (yB X.K e)) (he:∀ whole,isTrue x X.env whole=(do let v ← whole;standAt x.pos;holding [v] (truthy v))) (hb:∀ op vs pos,x≠.BoolOp op vs pos) :
  PE X x (yB X.K (yZ e).e)/\PT X x (qE X.K (yZ e).t)/\∀ op vs pos,x=.BoolOp op vs pos->PW X x (qE X.K (yZ e).t) :=
 ⟨h,pt_of m h he,fun op vs pos z=>absurd z (hb op vs pos)⟩
include g
theorem s_var (i:Nat):jC Γ p (.var i):=by
 intro M X x L h
 cases x with
 |Name y q =>
  replace h:=bd4 h;simp only [Bool.not_eq_true'] at h;refine jS (M:=M) (zC g.mono XN (.var i)) ((zjs (i:=i) (by rw [L.N];exact jO h.1.1.1) (by rw [L.sc];exact ziD h.1.1.2) h.1.2 h.2).imp fun τ H Q q=>?_) (fun _=>rfl) (fun _ _ _ z=>nomatch z);obtain ⟨σ,G,hs,ab,q⟩:=q
  split at q
  .rename_i w e;obtain ⟨v,ev,rp⟩:=hs.2 i w e;exact ⟨v,ev,q v H .refl rp ab⟩
  .exact q.elim
 |_=>exact absurd h zzN
theorem s_con (c:Const):jC Γ p (.con c):=by
 intro M X x L h
 cases x with
 |Constant d k q =>
  replace h:=of_decide_eq_true h;subst h;refine jS (M:=M) (zC g.mono XN (.con c)) ?_ (fun _=>rfl) (fun _ _ _ z=>nomatch z)
  cases c with
  |none=>exact zjy.imp fun τ H Q q=>by obtain ⟨σ,G,hs,ab,q⟩:=q;exact q _ H .refl rfl ab
  |bool b=>exact pe_bl.imp fun τ H Q q=>by obtain ⟨σ,G,hs,ab,q⟩:=q;exact q _ H .refl rfl ab
  |int b=>exact zgg.imp fun τ H Q q=>by obtain ⟨σ,G,hs,ab,q⟩:=q;exact q _ H .refl rfl ab
  |str b=>exact zge.imp fun τ H Q q=>by obtain ⟨σ,G,hs,ab,q⟩:=q;exact q _ H .refl rfl ab
  |_=>exact fun pins s σ H Q I q=>by obtain ⟨σ,G,hs,ab,q⟩:=q;exact q.elim
 |_=>exact absurd h zzN
theorem s_glb (i:Nat):jC Γ p (.glb i):=by
 intro M X x L h
 cases x with
 |Name y q =>
  replace h:=sP h;have gl:=zcl L.sc h.2;have hi:=jO h.1;rw [← L.gls] at hi;obtain ⟨e,ei,rfl⟩:=tR hi;refine jS (M:=M) (zC g.mono XN (.glb i)) ((g.gl e (wM ei) X L.fits gl.1 q gl.2.1 gl.2.2).imp fun τ H Q q=>?_) (fun _=>rfl) (fun _ _ _ z=>nomatch z);obtain ⟨σ,G,hs,ab,q⟩:=q;simp only [ei] at q;exact ⟨σ,G,hs,ab,q⟩
 |_=>exact absurd h zzN
theorem rP {M:MC} {X:Cx} (L:Lk Γ M p X):X.A.units+200<cLine:=by rw [L.fits.A];exact g.un
theorem s_bin (op:Operator) (a b:IE) (ha:jC Γ p a) (hb:jC Γ p b):jC Γ p (.bin op a b):=by
 intro M X x L h
 cases x with
 |BinOp l o r q =>
  replace h:=bd3 h;simp only [decide_eq_true_eq] at h;obtain ⟨⟨rfl,h1⟩,h2⟩:=h;exact jS (M:=M) (zC g.mono XN (.bin op a b)) ((pe_op (zkG op) (ha M X l L h1).1 (hb M X r L h2).1).imp fun τ H Q q=>zbx (zC g.mono XN a) (zC g.mono XN b) (zax op) q) (fun _=>rfl) (fun _ _ _ z=>nomatch z)
 |_=>exact absurd h zzN
theorem s_neg (a:IE) (ha:jC Γ p a):jC Γ p (.neg a):=by
 intro M X x L h
 cases x with
 |UnaryOp o l q =>
  cases o with
  |USub =>
   skip
   refine jS (M:=M) (zC g.mono XN (.neg a)) ((zjt zfY (ha M X l L h).1).imp fun τ H Q q=>?_) (fun _=>rfl) (fun _ _ _ z=>nomatch z);obtain ⟨σ,G,hs,ab,q⟩:=q;refine yF (zC g.mono XN a) hs ab q fun w G1 v H1 gr _ rp ab q=>?_
   cases w with
   |int i=>cases rp;exact ⟨i,rfl,q _ H1 gr rfl ab⟩
   |_=>exact q.elim
  |_=>exact absurd h zzN
 |_=>exact absurd h zzN
theorem s_not (a:IE) (ha:jC Γ p a):jC Γ p (.not a):=by
 intro M X x L h
 cases x with
 |UnaryOp o l q =>
  cases o with
  |Not =>
   skip
   refine ⟨(zjx (ha M X l L h).1).imp fun τ H Q q=>?_,(zjk (ha M X l L h).2.1).imp fun τ H Q q=>?_,fun _ _ _ z=>nomatch z⟩
   .obtain ⟨σ,G,hs,ab,q⟩:=q;refine yF (zC g.mono XN a) hs ab q fun w G1 v H1 gr _ rp ab q=>?_
    cases w with
    |bl i=>cases rp;exact ⟨i,rfl,q _ H1 gr rfl ab⟩
    |_=>exact q.elim
   .obtain ⟨σ,G,hs,ab,q⟩:=q;exact dM (rY g.mono XN a) hs ab q fun b G1 H1 gr _ ab q=>q H1 gr ab
  |_=>exact absurd h zzN
 |_=>exact absurd h zzN
theorem s_cmp (op:CmpOp) (a b:IE) (ha:jC Γ p a) (hb:jC Γ p b):jC Γ p (.cmp op a b):=by
 intro M X x L h
 cases x with
 |Compare l os rs q =>
   obtain ⟨o,r,rfl,rfl⟩:=zhR h;replace h:=bd4 h;simp only [decide_eq_true_eq] at h;obtain ⟨⟨⟨rfl,h1⟩,h2⟩,h3⟩:=h;have m:=zC g.mono XN (.cmp op a b)
   refine ⟨(zho (qY (rP g L) op) (ha M X l L h1).1 (hb M X r L h2).1 (kF h3)).imp fun τ H Q q=>zbx (zC g.mono XN a) (zC g.mono XN b) (xX op) q,
    (zhc (qY (rP g L) op) (ha M X l L h1).1 (hb M X r L h2).1 (kF h3)).imp fun τ H Q q=>zbx (zC g.mono XN a) (zC g.mono XN b) (xX op) (za8 m q),fun _ _ _ z=>nomatch z⟩
 |_=>exact absurd h zzN
theorem s_chn (o1 o2:CmpOp) (a b c:IE) (ha:jC Γ p a) (hb:jC Γ p b) (hc:jC Γ p c):jC Γ p (.chn o1 o2 a b c):=by
 intro M X x L h
 cases x with
 |Compare l os rs q =>
   obtain ⟨q1,q2,r,t,rfl,rfl⟩:=zhS h;replace h:=bd6 h;simp only [decide_eq_true_eq] at h;obtain ⟨⟨⟨⟨⟨rfl,rfl⟩,h1⟩,h2⟩,h3⟩,h4⟩:=h;have m:=zC g.mono XN (.chn o1 o2 a b c)
   have key:∀ τ H Q,yB X.K (zG Γ XN (.chn o1 o2 a b c)).e τ H Q->zcJ (pR X.K (yI o1)) (pR X.K (yI o2)) (yB X.K (zG Γ XN a).e) (yB X.K (zG Γ XN b).e) (yB X.K (zG Γ XN c).e) τ H Q:=fun τ H Q q=>by
    obtain ⟨σ,G,hs,ab,q⟩:=q;refine yF (zC g.mono XN a) hs ab q fun x G1 v H1 g1 hs1 rx a1 q=>?_;refine yF (zC g.mono XN b) hs1 a1 q fun y G2 u H2 g2 hs2 ry a2 q=>?_;refine ⟨x,y,G2,rx.mono g2,ry,a2,xX o1 x y G2 _ _ (fun z G3 q v3 H3 g3 r3 a3=>?_) q⟩
    cases z with
    |bl k =>
     cases r3;refine ⟨k,rfl,?_⟩;have q:if k=true then _ else _:=q
     split
     .rename_i hk;rw [if_pos hk] at q;refine yF (zC g.mono XN c) (hs2.mono g3) a3 q fun w G4 v4 H4 g4 hs4 r4 a4 q=>?_;exact ⟨y,w,G4,(ry.mono g3).mono g4,r4,a4,xX o2 y w G4 _ _ (fun w5 G5 q v5 H5 g5=>q v5 H5 (g1.trans (g2.trans (g3.trans (g4.trans g5))))) q⟩
     .rename_i hk;rw [if_neg hk] at q;exact q _ H3 (g1.trans (g2.trans g3)) rfl a3
    |_=>exact q.elim
   refine ⟨(zfa (qY (rP g L) o1) (qY (rP g L) o2) (ha M X l L h1).1 (hb M X r L h2).1 (hc M X t L h3).1 (kF (op:=o2) h4)).imp key,
    (zeY (qY (rP g L) o1) (qY (rP g L) o2) (ha M X l L h1).1 (hb M X r L h2).1 (hc M X t L h3).1 (kF (op:=o2) h4)).imp fun τ H Q q=>key _ _ _ (za8 m q),fun _ _ _ z=>nomatch z⟩
 |_=>exact absurd h zzN
theorem s_ch3 (o1 o2 o3:CmpOp) (a b c d:IE) (ha:jC Γ p a) (hb:jC Γ p b) (hc:jC Γ p c) (hd:jC Γ p d):jC Γ p (.ch3 o1 o2 o3 a b c d):=by
 intro M X x L h
 cases x with
 |Compare l os rs q =>
   obtain ⟨q1,q2,q3,r,t,t2,rfl,rfl⟩:=zhT h;replace h:=bd8 h;simp only [decide_eq_true_eq] at h;obtain ⟨⟨⟨⟨⟨⟨⟨rfl,rfl⟩,rfl⟩,h1⟩,h2⟩,h3⟩,h4⟩,h5⟩:=h;have m:=zC g.mono XN (.ch3 o1 o2 o3 a b c d)
   have key:∀ τ H Q,yB X.K (zG Γ XN (.ch3 o1 o2 o3 a b c d)).e τ H Q->tCh3 (pR X.K (yI o1)) (pR X.K (yI o2)) (pR X.K (yI o3)) (yB X.K (zG Γ XN a).e) (yB X.K (zG Γ XN b).e) (yB X.K (zG Γ XN c).e) (yB X.K (zG Γ XN d).e) τ H Q:=fun τ H Q q=>by
    obtain ⟨σ,G,hs,ab,q⟩:=q;refine yF (zC g.mono XN a) hs ab q fun x G1 v H1 g1 hs1 rx a1 q=>?_;refine yF (zC g.mono XN b) hs1 a1 q fun y G2 u H2 g2 hs2 ry a2 q=>?_;refine ⟨x,y,G2,rx.mono g2,ry,a2,xX o1 x y G2 _ _ (fun z G3 q v3 H3 g3 r3 a3=>?_) q⟩
    cases z with
    |bl k =>
     cases r3;refine ⟨k,rfl,?_⟩;have q:if k=true then _ else _:=q
     split
     .rename_i hk;rw [if_pos hk] at q;refine yF (zC g.mono XN c) (hs2.mono g3) a3 q fun w G4 v4 H4 g4 hs4 r4 a4 q=>?_;refine ⟨y,w,G4,(ry.mono g3).mono g4,r4,a4,xX o2 y w G4 _ _ (fun z5 G5 q v5 H5 g5 r5 a5=>?_) q⟩
      cases z5 with
      |bl k2 =>
       cases r5;refine ⟨k2,rfl,?_⟩;have q:if k2=true then _ else _:=q
       split
       .rename_i hk2;rw [if_pos hk2] at q;refine yF (zC g.mono XN d) (hs4.mono g5) a5 q fun w6 G6 v6 H6 g6 hs6 r6 a6 q=>?_;exact ⟨w,w6,G6,(r4.mono g5).mono g6,r6,a6,xX o3 w w6 G6 _ _ (fun w7 G7 q v7 H7 g7=>q v7 H7 (g1.trans (g2.trans (g3.trans (g4.trans (g5.trans (g6.trans g7))))))) q⟩
       .rename_i hk2;rw [if_neg hk2] at q;exact q _ H5 (g1.trans (g2.trans (g3.trans (g4.trans g5)))) rfl a5
      |_=>exact q.elim
     .rename_i hk;rw [if_neg hk] at q;exact q _ H3 (g1.trans (g2.trans g3)) rfl a3
    |_=>exact q.elim
   refine ⟨(zjB (qY (rP g L) o1) (qY (rP g L) o2) (qY (rP g L) o3) (ha M X l L h1).1 (hb M X r L h2).1 (hc M X t L h3).1 (hd M X t2 L h4).1 (kF (op:=o3) h5)).imp key,
    (zjl (qY (rP g L) o1) (qY (rP g L) o2) (qY (rP g L) o3) (ha M X l L h1).1 (hb M X r L h2).1 (hc M X t L h3).1 (hd M X t2 L h4).1 (kF (op:=o3) h5)).imp fun τ H Q q=>key _ _ _ (za8 m q),fun _ _ _ z=>nomatch z⟩
 |_=>exact absurd h zzN
theorem s_and (a b:IE) (ha:jC Γ p a) (hb:jC Γ p b):jC Γ p (.and a b):=by
 intro M X x L h
 have e1:∀ τ H Q,yB X.K (zG Γ XN (.and a b)).e τ H Q->ziS (yB X.K (zG Γ XN a).e) (yB X.K (zG Γ XN b).e) τ H Q:=fun τ H Q q=>by
  obtain ⟨σ,G,hs,ab,q⟩:=q;refine yF (zC g.mono XN a) hs ab q fun w G1 v H1 g1 hs1 rx a1 q=>?_
  cases w with
  |bl k =>
   cases rx;refine ⟨k,rfl,?_⟩;have q:if k=true then _ else _:=q
   split
   .rename_i hk;rw [if_pos hk] at q;exact ⟨σ,G1,hs1,a1,zC g.mono XN b σ G1 _ _ (fun w G' q v' H' g'=>q v' H' (g1.trans g')) q⟩
   .rename_i hk;rw [if_neg hk] at q;exact q _ H1 g1 rfl a1
  |_=>exact q.elim
 have e2:∀ τ H Q,qE X.K (zG Γ XN (.and a b)).t τ H Q->tAnd (qE X.K (zG Γ XN a).t) (qE X.K (zG Γ XN b).t) τ H Q:=fun τ H Q q=>by
  obtain ⟨σ,G,hs,ab,q⟩:=q;refine dM (rY g.mono XN a) hs ab q fun k G1 H1 g1 hs1 a1 q=>?_
  split
  .rename_i hk;rw [if_pos hk] at q;exact ⟨σ,G1,hs1,a1,rY g.mono XN b σ G1 _ _ (fun w G' q H' g'=>q H' (g1.trans g')) q⟩
  .rename_i hk;rw [if_neg hk] at q;exact q H1 g1 a1
 cases x with
 |BoolOp o vs q =>
  match o,vs,h with
  | .And,[l,r],h =>
   replace h:=sP h;have A:=ha M X l L h.1;have B:=hb M X r L h.2;have W2:PW X (.BoolOp .And [l,r] q) (qE X.K (zG Γ XN (.and a b)).t):=(zga A.2.1 (zg8 B.2.1)).imp e2;exact ⟨(zgh A.1 (zgf B.1)).imp e1,W2.pt,fun _ _ _ _=>W2⟩
  | .And,l::r::q'::rest,h =>
   replace h:=sP h;have A:=ha M X l L h.1;have B:=hb M X _ L h.2;have W2:PW X (.BoolOp .And (l::r::q'::rest) q) (qE X.K (zG Γ XN (.and a b)).t):=(zga A.2.1 (B.2.2 _ _ _ rfl)).imp e2;exact ⟨(zgh A.1 B.1).imp e1,W2.pt,fun _ _ _ _=>W2⟩
 |_=>exact absurd h zzN
theorem s_or (a b:IE) (ha:jC Γ p a) (hb:jC Γ p b):jC Γ p (.or a b):=by
 intro M X x L h
 have e1:∀ τ H Q,yB X.K (zG Γ XN (.or a b)).e τ H Q->tOrV (yB X.K (zG Γ XN a).e) (yB X.K (zG Γ XN b).e) τ H Q:=fun τ H Q q=>by
  obtain ⟨σ,G,hs,ab,q⟩:=q;refine yF (zC g.mono XN a) hs ab q fun w G1 v H1 g1 hs1 rx a1 q=>?_
  cases w with
  |bl k =>
   cases rx;refine ⟨k,rfl,?_⟩;have q:if k=true then _ else _:=q
   split
   .rename_i hk;rw [if_pos hk] at q;exact q _ H1 g1 rfl a1
   .rename_i hk;rw [if_neg hk] at q;exact ⟨σ,G1,hs1,a1,zC g.mono XN b σ G1 _ _ (fun w G' q v' H' g'=>q v' H' (g1.trans g')) q⟩
  |_=>exact q.elim
 have e2:∀ τ H Q,qE X.K (zG Γ XN (.or a b)).t τ H Q->tOr (qE X.K (zG Γ XN a).t) (qE X.K (zG Γ XN b).t) τ H Q:=fun τ H Q q=>by
  obtain ⟨σ,G,hs,ab,q⟩:=q;refine dM (rY g.mono XN a) hs ab q fun k G1 H1 g1 hs1 a1 q=>?_
  split
  .rename_i hk;rw [if_pos hk] at q;exact q H1 g1 a1
  .rename_i hk;rw [if_neg hk] at q;exact ⟨σ,G1,hs1,a1,rY g.mono XN b σ G1 _ _ (fun w G' q H' g'=>q H' (g1.trans g')) q⟩
 cases x with
 |BoolOp o vs q =>
  match o,vs,h with
  | .Or,[l,r],h =>
   replace h:=sP h;have A:=ha M X l L h.1;have B:=hb M X r L h.2;have W2:PW X (.BoolOp .Or [l,r] q) (qE X.K (zG Γ XN (.or a b)).t):=(zjj A.2.1 (zji B.2.1)).imp e2;exact ⟨(zjw A.1 (zgf B.1)).imp e1,W2.pt,fun _ _ _ _=>W2⟩
  | .Or,l::r::q'::rest,h =>
   replace h:=sP h;have A:=ha M X l L h.1;have B:=hb M X _ L h.2;have W2:PW X (.BoolOp .Or (l::r::q'::rest) q) (qE X.K (zG Γ XN (.or a b)).t):=(zjj A.2.1 (B.2.2 _ _ _ rfl)).imp e2;exact ⟨(zjw A.1 B.1).imp e1,W2.pt,fun _ _ _ _=>W2⟩
 |_=>exact absurd h zzN
theorem s_ite (c a b:IE) (hc:jC Γ p c) (ha:jC Γ p a) (hb:jC Γ p b):jC Γ p (.ite c a b):=by
 intro M X x L h
 cases x with
 |IfExp t l r q =>
  replace h:=bd3 h;refine ⟨(ze9 (hc M X t L h.1.1).2.1 (ha M X l L h.1.2).1 (hb M X r L h.2).1).imp fun τ H Q q=>?_,fun _ _ _ _ _ _ q=>?_,fun _ _ _ z=>nomatch z⟩
  .obtain ⟨σ,G,hs,ab,q⟩:=q;refine dM (rY g.mono XN c) hs ab q fun k G1 H1 g1 hs1 a1 q=>?_
   split
   .rename_i hk;rw [if_pos hk] at q;exact ⟨σ,G1,hs1,a1,zC g.mono XN a σ G1 _ _ (fun w G' q v' H' g'=>q v' H' (g1.trans g')) q⟩
   .rename_i hk;rw [if_neg hk] at q;exact ⟨σ,G1,hs1,a1,zC g.mono XN b σ G1 _ _ (fun w G' q v' H' g'=>q v' H' (g1.trans g')) q⟩
  .obtain ⟨_,_,_,_,z⟩:=q;exact z.elim
 |_=>exact absurd h zzN
theorem s_ix (a i:IE) (ha:jC Γ p a) (hb:jC Γ p i):jC Γ p (.ix a i):=by
 intro M X x L h
 cases x with
 |Subscript l r q =>
  replace h:=bd3 h;exact jS (M:=M) (zC g.mono XN (.ix a i)) ((pe_ix (ix_ok (rP g L)) (ha M X l L h.1.1).1 (hb M X r L h.1.2).1 (ze5 h.2)).imp fun τ H Q q=>zbx (zC g.mono XN a) (zC g.mono XN i) zbH q) (fun _=>rfl) (fun _ _ _ z=>nomatch z)
 |_=>exact absurd h zzN
theorem s_sl (a:IE) (lo hi:IO) (ha:jC Γ p a) (hl:OkO Γ p lo) (hh:OkO Γ p hi):jC Γ p (.sl a lo hi):=by
  intro M X x L h
  cases x with
  |Subscript l r q =>
    cases r with
    |Slice y z sp q2 =>
     cases sp with
     |none =>
      replace h:=bd3 h;refine jS (M:=M) (zC g.mono XN (.sl a lo hi)) ((ze8 sl_ok (ha M X l L h.1.1).1 ((hl M X L).1 y h.1.2) ((hh M X L).1 z h.2)).imp fun τ H Q q=>?_) (fun _=>rfl) (fun _ _ _ z=>nomatch z);obtain ⟨σ,G,hs,ab,q⟩:=q;refine yF (zC g.mono XN a) hs ab q fun w G1 v H1 g1 hs1 rx a1 q=>?_;refine ⟨σ,G1,hs1,a1,zjO g.mono XN lo σ G1 _ _ (fun o G2 q H2 g2 a2=>?_) q⟩;refine ⟨σ,G2,hs1.mono g2,a2,zjO g.mono XN hi σ G2 _ _ (fun o2 G3 q H3 g3 a3=>?_) q⟩;exact ⟨w,G3,(rx.mono g2).mono g3,a3,zbn (fun w' G' q v' H' g'=>q v' H' (g1.trans (g2.trans (g3.trans g')))) q⟩
     |some _=>exact absurd h zzN
    |_=>exact absurd h zzN
  |_=>exact absurd h zzN
theorem s_tup (es:IEs) (hs:OkA Γ p es):jC Γ p (.tup es):=by
 intro M X x L h
 cases x with
 |Tuple xs k q =>
  skip
  refine jS (M:=M) (zC g.mono XN (.tup es)) ((zju (hs M X xs L h).1).imp fun τ H Q q=>?_) (fun _=>rfl) (fun _ _ _ z=>nomatch z);obtain ⟨σ,G,hs',ab,q⟩:=q;refine nX (qJ g.mono XN es) hs' ab q fun ws G1 vs H1 g1 hs1 rs a1 q=>⟨by rw [rs.length];exact q.1,mB a1 rs fun v' H' g'=>q.2 v' H' (g1.trans g')⟩
 |_=>exact absurd h zzN
theorem s_lst (es:IEs) (hs:OkA Γ p es):jC Γ p (.lst es):=by
 intro M X x L h
 cases x with
 |List xs q =>
  skip
  refine jS (M:=M) (zC g.mono XN (.lst es)) ((zjz (hs M X xs L h).1).imp fun τ H Q q=>?_) (fun _=>rfl) (fun _ _ _ z=>nomatch z);obtain ⟨σ,G,hs',ab,q⟩:=q;refine nX (qJ g.mono XN es) hs' ab q fun ws G1 vs H1 g1 hs1 rs a1 q=>⟨by rw [rs.length];exact q.1,jQ a1 rs fun r hr v' H' g'=>q.2 r hr v' H' (g1.trans g')⟩
 |_=>exact absurd h zzN
theorem gJ {Γ:Ctx3} {M:MC} {es:IEs} {xs:List Expr} (h:mA es M xs=true):xs=[]->∀ σ G Q,zV Γ XN es σ G Q->Q [] G:=by
 rintro rfl σ G Q q
 cases es with
 |nil=>exact q
 |cons _ _=>exact absurd h zzN
theorem zi7 (f:Nat) (es:IEs) (hs:OkA Γ p es):jC Γ p (.call f es):=by
  intro M X x L h
  cases x with
  |Call fn xs kw q =>
    cases fn with
    |Name y qy =>
     cases kw with
     |nil =>
      replace h:=bd3 h;have gl:=zcl L.sc h.1.2;have hi:=jO h.1.1;rw [← L.fns] at hi;obtain ⟨e,ei,rfl⟩:=tR hi;have A:=hs M X xs L h.2;refine jS (M:=M) (zC g.mono XN (.call f es)) ((g.fn e (wM ei) X L.fits gl.1 xs (zV Γ XN es) qy q (qJ g.mono XN es) A.2.1 A.1 (gJ g h.2) gl.2.1 gl.2.2).imp fun τ H Q q=>?_) (fun _=>rfl) (fun _ _ _ z=>nomatch z);obtain ⟨σ,G,hs',ab,q⟩:=q;refine ⟨σ,G,hs',ab,qJ g.mono XN es σ G _ _ (fun ws G1 q=>?_) q⟩;simp only [ei] at q;exact q
     |cons _ _=>exact absurd h zzN
    |_=>exact absurd h zzN
  |_=>exact absurd h zzN
theorem s_spc (i:Nat) (es:IEs) (hs:OkA Γ p es):jC Γ p (.spc i es):=by
 intro M X x L h;replace h:=sP h;replace h:=h.2
 split at h
 .rename_i m hm
  split at h
  .rename_i xs hx;rw [← L.sxs] at hm;obtain ⟨k,ek,rfl⟩:=tR hm;have A:=hs M X xs L h;have q:=g.sx k (wM ek) X L.fits x xs (semL Γ es) (by rw [L.sc];exact hx) A.2.2.2 A.2.1 (by rw [← uP];exact A.1);refine jS (M:=M) (zC g.mono XN (.spc i es)) (q.1.imp fun τ H Q q=>?_) q.2.1 q.2.2;obtain ⟨σ,G,hs',ab,q⟩:=q;refine ⟨σ,G,hs',ab,?_⟩;rw [← uP];refine qJ g.mono XN es σ G _ _ (fun ws G1 q=>?_) q;simp only [ek] at q;exact q
  .exact absurd h zzN
 .exact absurd h zzN
theorem s_mth (m:Nat) (o:IE) (es:IEs) (ho:jC Γ p o) (hs:OkA Γ p es):jC Γ p (.mth m o es):=by
  intro M X x L h
  cases x with
  |Call fn xs kw q =>
    cases fn with
    |Attribute l y qy =>
     cases kw with
     |nil =>
      replace h:=bd6 h;simp only [decide_eq_true_eq] at h;have hi:=jO h.1.1.1.1.1;rw [← L.mts] at hi;obtain ⟨e,ei,rfl⟩:=tR hi;have A:=hs M X xs L h.2;have B:=ho M X l L h.1.2;refine jS (M:=M) (zC g.mono XN (.mth m o es)) ((g.mt e (wM ei) X L.fits l xs (zG Γ XN o).e (zV Γ XN es) qy q (zC g.mono XN o) (qJ g.mono XN es) h.1.1.1.1.2 h.1.1.1.2 h.1.1.2 A.2.1 B.1 A.1 (gJ g h.2)).imp fun τ H Q q=>?_) (fun _=>rfl) (fun _ _ _ z=>nomatch z);obtain ⟨σ,G,hs',ab,q⟩:=q;refine ⟨σ,G,hs',ab,zC g.mono XN o σ G _ _ (fun w G1 q=>?_) q⟩;simp only [ei] at q;exact q
     |cons _ _=>exact absurd h zzN
    |_=>exact absurd h zzN
  |_=>exact absurd h zzN
theorem s_att (o:IE) (f:Str) (ho:jC Γ p o):jC Γ p (.att o f):=by
 intro M X x L h
 cases x with
 |Attribute l y q =>
  replace h:=bd3 h;simp only [beq_iff_eq] at h;obtain ⟨⟨rfl,h1⟩,h2⟩:=h;refine jS (M:=M) (zC g.mono XN (.att o y)) ((zjA (ho M X l L h2).1 (qF h1)).imp fun τ H Q q=>?_) (fun _=>rfl) (fun _ _ _ z=>nomatch z);obtain ⟨σ,G,hs,ab,q⟩:=q;refine yF (zC g.mono XN o) hs ab q fun w G1 v H1 g1 hs1 rx a1 q=>?_
  cases w with
  |ref a =>
   cases rx;simp only [attR] at q
   split at q
   .rename_i C fs e;obtain ⟨⟨l,hl,hf⟩,q⟩:=q
    split at q
    .rename_i w' ew;obtain ⟨dx,fs',e',rk⟩:=a1.ins e;obtain ⟨v',ev,rv⟩:=fK rk ew;have c:=g.cl _ hl;exact ⟨a,C,dx,fs',v',rfl,e',by rw [L.fits.K];exact c.1,by rw [L.fits.K];exact c.2 y hf,ev,q _ H1 g1 rv a1⟩
    .exact q.elim
   .exact q.elim
  |_=>exact q.elim
 |_=>exact absurd h zzN
end
section
variable {Γ : Ctx3} {p : Par} (g : Good Γ p)
include g
theorem s_dct (ks:List Str) (es:IEs) (hs:OkA Γ p es):jC Γ p (.dct ks es):=by
 intro M X x L h
 cases x with
 |Dict keys xs q =>
  replace h:=bd5 h;simp only [decide_eq_true_eq,Bool.not_eq_true'] at h;obtain ⟨⟨⟨⟨h1,h2⟩,h3⟩,h4⟩,h5⟩:=h;obtain ⟨all,ek,trs,pp,low⟩:=(hs M X xs L h2).2.2.1 ks keys q h1 h3
  have h0:keys≠[]:=by
   intro z;rw [z] at ek
   cases ks with
   |nil=>cases h5
   |cons _ _=>cases ek
  refine jS (M:=M) (zC g.mono XN (.dct ks es)) ((zhn pp all h3 h0 h4).imp fun τ H Q q=>?_) (fun _=>rfl) (fun _ _ _ z=>nomatch z);intro a ha;obtain ⟨σ,G,hs',ab,q⟩:=q;have gr:yJ X.K H (xI H a (.dK [])):=wZ ha;refine low τ _ _ ⟨σ,put G a (.dic []),hs'.mono gr,ab.new ha ⟨[],rfl,rfl⟩,qJ g.mono XN es σ _ _ _ (fun ws G1 q vs H1 g1 rs a1=>?_) (q a (ab.free ha))⟩;obtain ⟨q1,q2,q3⟩:=q;obtain ⟨l,e,rl⟩:=a1.dic q1
  have el:l=[]:=by
   cases l with
   |nil=>rfl
   |cons _ _=>cases rl
  subst el;refine ⟨e,(ks.zip vs).map (fun kv=>((Sum.inr kv.1:yD),kv.2)),by rw [List.map_map];rfl,?_,?_⟩
  .rw [zzM,List.length_zip];omega
  .have gr2:yJ X.K H1 (xI H1 a (.dK (pT [] ((ks.zip vs).map fun kv=>((Sum.inr kv.1:yD),kv.2))))):=a1.grow q1;exact q3 _ _ (gr.trans (g1.trans gr2)) rfl (a1.chg q1 ⟨_,rfl,zd5 ks (rs.mono gr2) rfl⟩)
 |_=>exact absurd h zzN
theorem bT (tg:ITg) (names:List Str) (caps:List Nat) (it:II) (c:IO) (elt:IE) (hi:OkI Γ p it) (hc:OkO Γ p c) (he:jC Γ p elt) {M:MC} {X:Cx} (L:Lk Γ M p X) {x t ix:Expr} {ifs:List Expr} {sc:Scope}
  (h:(blkB M.sc sc&&sG ix&&fZ (names++caps.map (fun j=>M.N.getD j Str.empty))&&(caps.all fun j=>decide (j<M.N.length)&&(sc.names.lookup (M.N.getD j Str.empty)==some .free)) &&
    mI it M ix&&((tgIx tg).all fun i=>decide (i<names.length))&&mG { M with sc:=relS sc M.sc,N:=names++caps.map (fun j=>M.N.getD j Str.empty),own:=fun x=>sc.names.lookup x==some .cell } tg t&&mC c { M with sc:=relS sc M.sc,N:=names++caps.map (fun j=>M.N.getD j Str.empty),own:=fun x=>sc.names.lookup x==some .cell } ifs&&mE elt { M with sc:=relS sc M.sc,N:=names++caps.map (fun j=>M.N.getD j Str.empty),own:=fun x=>sc.names.lookup x==some .cell } x)=true) :
  PI X t ix (lowI X.K (zR Γ XN it))/\BlkSc X sc/\Caps X sc (names++caps.map (fun j=>M.N.getD j Str.empty)) (capV names.length caps) /\
  (∀ X',IsBlock X (names++caps.map (fun j=>M.N.getD j Str.empty)) sc X'->PG X' t (lowG X.K (zW tg)))/\(∀ X',IsBlock X (names++caps.map (fun j=>M.N.getD j Str.empty)) sc X'->PTs X' ifs (qE X.K (zQ Γ c))) /\
  (∀ X',IsBlock X (names++caps.map (fun j=>M.N.getD j Str.empty)) sc X'->PE X' x (yB X.K (zG Γ XN elt).e))/\(∀ y,foldedSetIterable ix X.env y=pure y) /\
  ∀ τ H Q,yB X.K (zG Γ XN (.lc tg names caps it c elt)).e τ H Q->tLC (lowI X.K (zR Γ XN it)) (capV names.length caps) (lowG X.K (zW tg)) (qE X.K (zQ Γ c)) (yB X.K (zG Γ XN elt).e) τ H Q:=by
 simp only [Bool.and_eq_true] at h;obtain ⟨⟨⟨⟨⟨⟨⟨⟨h1,h2⟩,h3⟩,h4⟩,h5⟩,h6⟩,h7⟩,h8⟩,h9⟩:=h
 have lk:∀ X',IsBlock X (names++caps.map (fun j=>M.N.getD j Str.empty)) sc X'->Lk Γ { M with sc:=relS sc M.sc,N:=names++caps.map (fun j=>M.N.getD j Str.empty),own:=fun x=>sc.names.lookup x==some .cell } p X':=fun X' b =>
  ⟨⟨b.prog.trans L.fits.prog,b.w.trans L.fits.w,b.K.trans L.fits.K,b.mg.trans L.fits.mg,b.base.trans L.fits.base,b.A.trans L.fits.A,b.calm.trans L.fits.calm,b.xe⟩,b.N,b.scope.trans (zg6 L.sc),zbz h3,(fun x z=>b.fn x (eq_of_beq z)),(zgE L.sc h1).kind,L.fns,L.gls,L.mts,L.its,L.sxs,L.ixs⟩
 refine ⟨hi M X ix L h5 t,zgE L.sc h1,zed L.N L.sc h4,fun X' b=>?_,fun X' b=>?_,fun X' b=>?_,zal h2,fun τ H Q q=>?_⟩
 .rw [← b.K];exact sndG (lk X' b) tg t h7
 .rw [← b.K];exact (hc _ X' (lk X' b)).2 ifs h8
 .rw [← b.K];exact (he _ X' x (lk X' b) h9).1
 .obtain ⟨σ,G,hs,ab,q⟩:=q;refine ⟨σ,G,hs,ab,zjP g.mono XN it σ G _ _ (fun items stab G1 q J H1 g1 a1 ii=>?_) q⟩;refine zjX (monoC g.mono c) (zC g.mono XN elt) ii a1 (zio (hs.mono g1) names.length caps) g1 (fun w G' Q' z=>?_) q;refine pH tg w _ G' _ _ (fun σ2 G2 z=>⟨⟨z.2.1,fun i v e=>?_⟩,z.2.2⟩) (zbo tg w _ G' _ (zcY tg w _ G' _ z));have hk:=(za7 e).1;rw [z.1 i (zhA h6 hk)];exact e
theorem s_lc (tg:ITg) (names:List Str) (caps:List Nat) (it:II) (c:IO) (elt:IE) (hi:OkI Γ p it) (hc:OkO Γ p c) (he:jC Γ p elt):jC Γ p (.lc tg names caps it c elt):=by
 intro M X x L h
 cases x with
 |ListComp x gens sc q =>
  match gens,h with
  | [⟨t,ix,ifs,asy⟩],h =>
   have h':=h;replace h:=bd10 h;obtain ⟨⟨⟨⟨⟨⟨⟨⟨⟨h0,h1⟩,h2⟩,h3⟩,h4⟩,h5⟩,h6⟩,h7⟩,h8⟩,h9⟩:=h;replace h0:=of_decide_eq_true h0;subst h0;obtain ⟨c1,c2,c3,c4,c5,c6,c7,c8⟩:=bT g tg names caps it c elt hi hc he L (x:=x) (t:=t) (ix:=ix) (ifs:=ifs) (sc:=sc) (by simp only [Bool.and_eq_true];exact ⟨⟨⟨⟨⟨⟨⟨⟨h1,h2⟩,h3⟩,h4⟩,h5⟩,h6⟩,h7⟩,h8⟩,h9⟩);exact jS (M:=M) (zC g.mono XN (.lc tg names caps it c elt)) ((pe_lc L.fits.calm c1 c2 c3 c4 c5 c6 c7).imp c8) (fun _=>rfl) (fun _ _ _ z=>nomatch z)
 |_=>exact absurd h zzN
theorem s_no:OkO Γ p .no:=by
 intro M X L;refine ⟨fun x h=>?_,fun xs h=>?_⟩
 .cases x with
  |none=>exact zhk.imp fun τ H Q q=>by obtain ⟨σ,G,hs,ab,q⟩:=q;exact q H .refl ab
  |some _=>exact absurd h zzN
 .cases xs with
  |nil=>exact zhb.imp fun τ H Q q=>by obtain ⟨σ,G,hs,ab,q⟩:=q;exact q H .refl ab
  |cons _ _=>exact absurd h zzN
theorem zi4 (e:IE) (he:jC Γ p e):OkO Γ p (.yes e):=by
 intro M X L;refine ⟨fun x h=>?_,fun xs h=>?_⟩
 .cases x with
  |none=>exact absurd h zzN
  |some x =>
   skip
   refine (zhj (he M X x L h).1).imp fun τ H Q q=>?_;obtain ⟨σ,G,hs,ab,q⟩:=q;refine yF (zC g.mono XN e) hs ab q fun w G1 v H1 g1 hs1 rx a1 q=>?_
   cases w with
   |int i=>cases rx;exact ⟨i,rfl,q H1 g1 a1⟩
   |_=>exact q.elim
 .match xs,h with
  | [x],h=>exact zha (he M X x L (by simpa only [mC] using h)).2.1
theorem zi6:OkA Γ p .nil:=by
 intro M X xs L h
 cases xs with
 |cons _ _=>exact absurd h zzN
 |nil =>
  refine ⟨zgi.imp fun τ H Q q=>by obtain ⟨σ,G,hs,ab,q⟩:=q;exact q [] H .refl rfl ab,rfl,fun ks keys pos hk hl=>?_,trivial⟩
  cases keys with
  |cons _ _=>cases hl
  |nil =>
   cases ks with
   |cons _ _=>cases hk
   |nil =>
    refine ⟨rfl,rfl,[],zhh,fun τ H Q q=>?_⟩;obtain ⟨σ,G,hs,ab,q⟩:=q;exact q [] H .refl rfl ab
theorem zf5 (e:IE) (es:IEs) (he:jC Γ p e) (hs:OkA Γ p es):OkA Γ p (.cons e es):=by
  intro M X xs L h
  cases xs with
  |nil=>exact absurd h zzN
  |cons x xs =>
    simp only [mA,Bool.and_eq_true] at h;obtain ⟨⟨h1,h2⟩,h3⟩:=h;have A:=he M X x L h2;have B:=hs M X xs L h3;refine ⟨(zdc A.1 B.1 (qD h1)).imp fun τ H Q q=>?_,by rw [List.all_cons,h1,B.2.1];rfl,fun ks keys pos hk hl=>?_,⟨zC g.mono XN e,A.1,B.2.2.2⟩⟩
    . obtain ⟨σ,G,hs',ab,q⟩:=q
      refine yF (zC g.mono XN e) hs' ab q fun w G1 v H1 g1 hs1 rx a1 q=>?_;refine nX (qJ g.mono XN es) hs1 a1 q fun ws G2 vs H2 g2 hs2 rs a2 q=>?_;exact q _ H2 (g1.trans g2) ⟨v,vs,rfl,rx.mono g2,rs⟩ a2
    . cases ks with
      |nil =>
        cases keys with
        |nil=>simp at hl
        |cons _ _=>simp [keyB] at hk
      |cons k ks =>
       cases keys with
       |nil=>cases hk
       |cons ko keys =>
        obtain ⟨y,ky,qy,rfl⟩:∃ y ky qy,ko=some (.Constant (.str y) ky qy):=by
          cases ko with
          |none=>cases hk
          |some ke =>
            cases ke with
            |Constant c ky qy =>
              cases c with
              |str y=>exact ⟨y,ky,qy,rfl⟩
              |_=>cases hk
            |_=>cases hk
        simp only [keyB,Bool.and_eq_true,beq_iff_eq] at hk;obtain ⟨rfl,hk⟩:=hk;obtain ⟨all,ek,trs,pp,low⟩:=B.2.2.1 ks keys pos hk (by simpa using hl);refine ⟨by simpa using all,by simpa using ek,(tC (.str k),yB X.K (zG Γ XN e).e)::trs,ze4 zge A.1 pp,fun τ H Q q=>?_⟩;obtain ⟨σ,G,hs',ab,q⟩:=q;show yB X.K (zG Γ XN e).e τ H _;refine yF (zC g.mono XN e) hs' ab q fun w G1 v H1 g1 hs1 rx a1 q=>?_;refine low τ H1 _ ⟨σ,G1,hs1,a1,qJ g.mono XN es σ G1 _ _ (fun ws G2 q vs H2 g2 rs a2=>?_) q⟩;exact q (v::vs) H2 (g1.trans g2) ⟨v,vs,rfl,rx.mono g2,rs⟩ a2
theorem zi5 (e:IE) (he:jC Γ p e):OkI Γ p (.val e):=fun M X x L h tg=>zjr (zC g.mono XN e) (he M X x L h).1
theorem zi8 (i:Nat) (es:IEs) (hs:OkA Γ p es):OkI Γ p (.blt i es):=by
  intro M X x L h tg
  cases x with
  |Call fn xs kw q =>
    cases fn with
    |Name y qy =>
     cases kw with
     |nil =>
      replace h:=bd3 h;have gl:=zcl L.sc h.1.2;have hi:=jO h.1.1;rw [← L.its] at hi;obtain ⟨e,ei,rfl⟩:=tR hi;have A:=hs M X xs L h.2;refine (g.it e (wM ei) X L.fits gl.1 tg xs (zV Γ XN es) qy q (qJ g.mono XN es) A.2.1 A.1 (gJ g h.2) gl.2.1 gl.2.2).imp fun τ H R q=>?_;obtain ⟨σ,G,hs',ab,q⟩:=q;refine ⟨σ,G,hs',ab,qJ g.mono XN es σ G _ _ (fun ws G1 q=>?_) q⟩;simp only [ei] at q;exact q
     |cons _ _=>exact absurd h zzN
    |_=>exact absurd h zzN
  |_=>exact absurd h zzN
theorem zf4 (i:Nat) (es:IEs) (hs:OkA Γ p es):OkI Γ p (.spc i es):=by
 intro M X x L h tg;simp only [mI] at h
 split at h
 .rename_i m hm
  split at h
  .rename_i xs hx;rw [← L.ixs] at hm;obtain ⟨k,ek,rfl⟩:=tR hm;have A:=hs M X xs L h;refine (g.ix k (wM ek) X L.fits tg x xs (semL Γ es) (by rw [L.sc];exact hx) A.2.2.2 A.2.1 (by rw [← uP];exact A.1)).imp fun τ H R q=>?_;obtain ⟨σ,G,hs',ab,q⟩:=q;refine ⟨σ,G,hs',ab,?_⟩;rw [← uP];refine qJ g.mono XN es σ G _ _ (fun ws G1 q=>?_) q;simp only [ek] at q;exact q
  .exact absurd h zzN
 .exact absurd h zzN
theorem uQ (e:IE):jC Γ p e :=
 IE.rec (motive_1:=jC Γ p) (motive_2:=OkO Γ p) (motive_3:=OkA Γ p) (motive_4:=OkI Γ p) (motive_5:=fun _=>True) (motive_6:=fun _=>True)
  (s_var g) (s_con g) (s_glb g) (s_bin g) (s_neg g) (s_not g) (s_cmp g) (s_chn g) (s_and g) (s_or g) (s_ite g) (s_ix g) (s_sl g) (s_tup g) (s_lst g) (s_dct g) (zi7 g) (s_mth g) (s_att g)
  (fun tg names caps it c elt _ hi hc he=>s_lc g tg names caps it c elt hi hc he) (s_spc g) (s_ch3 g) (s_no g) (zi4 g) (zi6 g) (zf5 g) (zi5 g) (zi8 g) (zf4 g) (fun _=>trivial) (fun _ _=>trivial) trivial (fun _ _ _ _=>trivial) e
theorem sndA (es:IEs):OkA Γ p es:=match es with
 | .nil=>zi6 g
 | .cons e es=>zf5 g e es (uQ g e) (sndA es)
theorem sndI (it:II):OkI Γ p it:=match it with
 | .val e=>zi5 g e (uQ g e)
 | .blt i es=>zi8 g i es (sndA g es)
 | .spc i es=>zf4 g i es (sndA g es)
theorem sndO (o:IO):OkO Γ p o:=match o with
 | .no=>s_no g
 | .yes e=>zi4 g e (uQ g e)
end
end L3
namespace L3
open PySem PySem.Spec PyProof.Rows L2
theorem zhV {i:Nat} {a:IE} {M:MC} {x:Stmt} (h:mS (.asg i a) M x=true):∃ y py v q,x=.Assign [.Name y py] v q/\(M.N[i]?==some y)=true/\locB M y=true/\mE a M v=true:=by
 cases x with
 |Assign ts v q =>
  cases ts with
  |nil=>exact absurd h zzN
  |cons t r =>
   cases r with
   |cons _ _=>cases t<;>exact absurd h zzN
   |nil =>
    cases t with
    |Name y py =>
     replace h:=bd3 h;exact ⟨y,py,v,q,rfl,h.1.1,h.1.2,h.2⟩
    |_=>exact absurd h zzN
 |_=>exact absurd h zzN
theorem zfy {ts:ITgs} {a:IE} {M:MC} {x:Stmt} (h:mS (.asgT ts a) M x=true):∃ es k qt v q,x=.Assign [.Tuple es k qt] v q/\pW v=true/\zfe v=true/\mGs M ts es=true/\mE a M v=true:=by
 cases x with
 |Assign ts v q =>
  cases ts with
  |nil=>exact absurd h zzN
  |cons t r =>
   cases r with
   |cons _ _=>cases t<;>exact absurd h zzN
   |nil =>
    cases t with
    |Tuple es k qt =>
     replace h:=bd4 h;exact ⟨es,k,qt,v,q,rfl,h.1.1.1,h.1.1.2,h.1.2,h.2⟩
    |_=>exact absurd h zzN
 |_=>exact absurd h zzN
theorem zfz {i j:Nat} {a:IE} {M:MC} {x:Stmt} (h:mS (.asgS i j a) M x=true):∃ t v q,x=.Assign [t] v q/\pW v=true/\zfe v=true/\zeB M i j t=true/\mE a M v=true:=by
 cases x with
 |Assign ts v q =>
  cases ts with
  |nil=>exact absurd h zzN
  |cons t r =>
   cases r with
   |cons _ _=>exact absurd h zzN
   |nil =>
    replace h:=bd4 h;exact ⟨t,v,q,rfl,h.1.1.1,h.1.1.2,h.1.2,h.2⟩
 |_=>exact absurd h zzN
theorem zgX {M:MC} {i j:Nat} {t:Expr} (h:zeB M i j t=true):∃ x px y py p2 k q,t=.Tuple [.Name x px,.Starred (.Name y py) p2] k q/\((M.N[i]?==some x)=true/\locB M x=true)/\((M.N[j]?==some y)=true/\locB M y=true):=by
 unfold zeB at h
 split at h
 .exact ⟨_,_,_,_,_,_,_,rfl,sP (sP h).1,sP (sP h).2⟩
 .exact absurd h zzN
theorem zfA {o i a:IE} {M:MC} {x:Stmt} (h:mS (.asgI o i a) M x=true):∃ l r qs v q,x=.Assign [.Subscript l r qs] v q/\pW v=true/\mD r=true/\mE o M l=true/\mE i M r=true/\mE a M v=true:=by
 cases x with
 |Assign ts v q =>
  cases ts with
  |nil=>exact absurd h zzN
  |cons t r =>
   cases r with
   |cons _ _=>cases t<;>exact absurd h zzN
   |nil =>
    cases t with
    |Subscript l r qs =>
     replace h:=bd5 h;exact ⟨l,r,qs,v,q,rfl,h.1.1.1.1,h.1.1.1.2,h.1.1.2,h.1.2,h.2⟩
    |_=>exact absurd h zzN
 |_=>exact absurd h zzN
theorem zfB {o a:IE} {f:Str} {M:MC} {x:Stmt} (h:mS (.asgA o f a) M x=true):∃ l qs v q,x=.Assign [.Attribute l f qs] v q/\pW v=true/\mE o M l=true/\mE a M v=true:=by
 cases x with
 |Assign ts v q =>
  cases ts with
  |nil=>exact absurd h zzN
  |cons t r =>
   cases r with
   |cons _ _=>cases t<;>exact absurd h zzN
   |nil =>
    cases t with
    |Attribute l y qs =>
     replace h:=bd4 h;simp only [beq_iff_eq] at h;obtain ⟨⟨⟨rfl,h2⟩,h3⟩,h4⟩:=h;exact ⟨l,qs,v,q,rfl,h2,h3,h4⟩
    |_=>exact absurd h zzN
 |_=>exact absurd h zzN
theorem zkp {a:IE} {M:MC} {x:Stmt} (h:mS (.ex a) M x=true):∃ v q,x=.Expr v q/\pW v=true/\mE a M v=true:=by
 cases x with
 |Expr v q =>
  replace h:=sP h;exact ⟨v,q,rfl,h.1,h.2⟩
 |_=>exact absurd h zzN
theorem zhM {a:IE} {M:MC} {x:Stmt} (h:mS (.ret a) M x=true):∃ v q,x=.Return (some v) q/\mE a M v=true:=by
 cases x with
 |Return v q =>
  cases v with
  |none=>exact absurd h zzN
  |some v=>exact ⟨v,q,rfl,h⟩
 |_=>exact absurd h zzN
theorem zfv {M:MC} {x:Stmt} (h:mS .retN M x=true):∃ q,x=.Return none q:=by
 cases x with
 |Return v q =>
  cases v with
  |none=>exact ⟨q,rfl⟩
  |some v=>exact absurd h zzN
 |_=>exact absurd h zzN
theorem zfw {M:MC} {x:Stmt} (h:mS .pass M x=true):∃ q,x=.Pass q:=by
 cases x with
 |Pass q=>exact ⟨q,rfl⟩
 |_=>exact absurd h zzN
theorem zhU {M:MC} {x:Stmt} (h:mS .brk M x=true):∃ q,x=.Break q:=by
 cases x with
 |Break q=>exact ⟨q,rfl⟩
 |_=>exact absurd h zzN
theorem zhQ {M:MC} {x:Stmt} (h:mS .cnt M x=true):∃ q,x=.Continue q:=by
 cases x with
 |Continue q=>exact ⟨q,rfl⟩
 |_=>exact absurd h zzN
theorem zhO {c:IE} {a b:ISs} {M:MC} {x:Stmt} (h:mS (.ite c a b) M x=true):∃ t y z q,x=.If t y z q/\mE c M t=true/\qB a M y=true/\qB b M z=true:=by
 cases x with
 |If t y z q =>
  replace h:=bd3 h;exact ⟨t,y,z,q,rfl,h.1.1,h.1.2,h.2⟩
 |_=>exact absurd h zzN
theorem zhL {c:IE} {b:ISs} {M:MC} {x:Stmt} (h:mS (.whl c b) M x=true):∃ t y q,x=.While t y [] q/\mE c M t=true/\qB b M y=true:=by
 cases x with
 |While t y z q =>
  cases z with
  |nil =>
   replace h:=sP h;exact ⟨t,y,q,rfl,h.1,h.2⟩
  |cons _ _=>exact absurd h zzN
 |_=>exact absurd h zzN
theorem zhP {tg:ITg} {it:II} {b:ISs} {M:MC} {x:Stmt} (h:mS (.for tg it b) M x=true):∃ t y z q,x=.For t y z [] q/\sG y=true/\mG M tg t=true/\mI it M y=true/\qB b M z=true:=by
 cases x with
 |For t y z e q =>
  cases e with
  |nil =>
   replace h:=bd4 h;exact ⟨t,y,z,q,rfl,h.1.1.1,h.1.1.2,h.1.2,h.2⟩
  |cons _ _=>exact absurd h zzN
 |_=>exact absurd h zzN
theorem zhN {M:MC} {x:List Stmt} (h:qB .nil M x=true):x=[]:=by
 cases x with
 |nil=>rfl
 |cons _ _=>exact absurd h zzN
theorem zfx {s:IS} {ss:ISs} {M:MC} {x:List Stmt} (h:qB (.cons s ss) M x=true):∃ y ys,x=y::ys/\mS s M y=true/\qB ss M ys=true:=by
 cases x with
 |nil=>exact absurd h zzN
 |cons y ys =>
  replace h:=sP h;exact ⟨y,ys,rfl,h.1,h.2⟩
end L3
namespace L2
open PySem PySem.Spec PyProof.Rows
theorem alive {P:Program} {w:World} {H:Hp} {h:Heap} {a:Addr} {o:HO} (x:xU P w H h a o):∃ u,h.get? a=some u:=by
 cases o with
 |lst _=>obtain ⟨_,_,_,_,e⟩:=x;exact ⟨_,e⟩
 |tup _=>obtain ⟨_,_,_,u,e,_⟩:=x;exact ⟨u,e⟩
 |dK _=>obtain ⟨_,_,_,_,u,_,_,e,_⟩:=x;exact ⟨u,e⟩
 |dT _=>obtain ⟨_,_,_,_,u,_,_,e,_⟩:=x;exact ⟨u,e⟩
 |set _ _=>obtain ⟨u,_,_,_,e,_⟩:=x;exact ⟨u,e⟩
 |ins _ _ _=>exact ⟨_,x.2.2.2.1⟩
 |own _=>exact x
 |xd _=>obtain ⟨_,⟨u,_,_,e,_⟩,_⟩:=x;exact ⟨u,e⟩
 |rng _ _=>obtain ⟨_,_,_,e⟩:=x;exact ⟨_,e⟩
 |frz _ _=>exact ⟨_,x.1⟩
 |tbl _=>exact ⟨_,x⟩
 |met _ _=>exact ⟨_,x⟩
 |ext _=>exact x.2.1
def zde (h:Heap) (L:Addr):List (Addr×Obj):=(List.range h.objs.size).filterMap fun b=>if b=L then none else (h.get? b).map fun o=>(b,o)
theorem sX {h:Heap} {L b:Addr} {o:Obj}:(b,o)∈zde h L↔b≠L/\h.get? b=some o:=by
 unfold zde;rw [List.mem_filterMap]
 constructor
 .rintro ⟨c,_,e⟩
  split at e
  .cases e
  .rename_i hc;obtain ⟨o',e1,e2⟩:=Option.map_eq_some_iff.mp e;cases e2;exact ⟨hc,e1⟩
 .rintro ⟨hb,e⟩;exact ⟨b,List.mem_range.mpr (Heap.lt_size e),by rw [if_neg hb,e];rfl⟩
section
variable {X : Cx} {pos : Pos}
def gStar (K:PySem.W.Frag) (t:TGs):TG:=fun v σ H Q=>∃ a x xs,v=.ref a/\sO K H a (x::xs)/\xs.length<=1000/\∀ D,H D=none->t [x,.ref D] σ (xI H D (.lst xs)) Q
theorem zhl {e1 e2:Expr} {k:Nat} {p2:Pos} {t:TGs} (hc:X.calm=true) (h:PGs X [e1,e2] t) (h1:assignEach [e1,.Starred e2 p2] X.env=[(false,assign e1 X.env),(true,assign e2 X.env)])
  (h2:assignEach [e1,e2] X.env=[(false,assign e1 X.env),(false,assign e2 X.env)]):PG X (.Tuple [e1,.Starred e2 p2] k pos) (gStar X.K t):=by
 intro pins s σ H v u Q I r hw;obtain ⟨a,x,xs,e,hq,hl,hw⟩:=hw;subst e;cases r;obtain ⟨its,rv,ht,hz⟩:=I.tuple hq
 cases rv with
 | @cons _ u _ us r0 rs =>
 have hus:us.length=xs.length:=rs.length.symm;obtain ⟨m,hn,_⟩:=id I.loc;have F:Fr (default:Heap) X.env.locals s.heap m:=⟨hn,fun b o e=>(by cases e),Nat.zero_le _⟩
 have N:News (default:Heap) X.env.locals s.heap (zde s.heap X.env.locals):=fun p hp=>by
  obtain ⟨b,o⟩:=p;have:=sX.mp hp;exact ⟨this.2,this.1,rfl⟩
 rw [assign_Tuple];refine wpAny_bind (wpAny_standAt ?_);unfold unpack;rw [show (assignEach [e1,.Starred e2 p2] X.env).length=2 by rw [h1];rfl,show (assignEach [e1,.Starred e2 p2] X.env).findIdx? (·.1)=some 1 by rw [h1];rfl];refine wpAny_bind (wpAny_holding (wH I.tk (PySem.W.kun_starT (n:=2) (i:=1) (first:=[u]) (mids:=us) (lasts:=[]) F N ht (I.ok.hd hc) (by decide) (by simp) (by simp;omega) (by simp) (by simp) (by simp) fun D h' tk F' N' lt h0=>?_)));have get:∀ b o,b≠X.env.locals->s.heap.get? b=some o->h'.get? b=some o:=fun b o hb e=>(N' (b,o) (List.mem_cons_of_mem _ (sX.mpr ⟨hb,e⟩))).1;obtain ⟨hD,nD,_⟩:=N' (D,{ cls:=.type "list", data:=.seq us.toArray 0 }) zzT
 have no:s.heap.get? D=none:=by
  cases q:s.heap.get? D with
  |none=>rfl
  |some o=>exact absurd (lt (D,o) (sX.mpr ⟨nD,q⟩)) (Nat.lt_irrefl _)
 have HD:H D=none:=by
  cases q:H D with
  |none=>rfl
  |some o=>obtain ⟨u',e'⟩:=alive (I.hok D o q);rw [no] at e';cases e'
 have nl:∀ b o,H b=some o->b≠X.env.locals:=fun b o e z=>by rw [z,I.free] at e;cases e
 have ne:∀ b o,H b=some o->b≠D:=fun b o e=>yN e HD
 have hok:tL X.prog X.w (xI H D (.lst xs)) h':=fun b o e=>by
  by_cases hb:b=D
  .subst hb;rw [wW] at e;cases e;exact ⟨by rw [sizeLine_eq];omega,us,0,rs,hD⟩
  .rw [zB hb] at e;refine (I.hok b o e).stay (fun c v hc q=>get c v ?_ q) (fun c q=>by rw [zB (ne c _ q)];exact q) fun c ys q=>by rw [zB (ne c _ q)];exact q
   rcases hc with z|z
   .rw [z];exact nl b o e
   .exact nl c _ z
 have I1:Inv X pins σ (xI H D (.lst xs)) { s with heap:=h',toks:=tk } :=
  I.step (g':=s.gens) (d':=s.drawn) (ch:=[]) (fun _ z=>nomatch z) (fun b o hb _ _ e _=>get b o hb e) (fun b o hb _ _ e _=>⟨o.slots,get b o hb e⟩)
   (fun b o _ e n=>by rw [zB (fun z=>by rw [z,no] at e;cases e)];exact n)
   (fun b o _ e=>by
    by_cases hb:b=X.env.locals
    .obtain ⟨o',_,_,q,_⟩:=F'.ns;exact ⟨o',by rw [hb];exact q⟩
    .exact ⟨o,get b o hb e⟩)
   (fun b ys e=>by rw [zB (ne b _ e)];exact e) (fun b o u e=>by rw [zB (ne b _ e)];exact e) (fun b ps e=>⟨#[],by rw [zB (ne b _ e),e];simp⟩)
   (fun m' hm=>by rw [hm.eq_nsMap,← hn.eq_nsMap];exact F'.ns) hok I.bare
 have:=h pins _ σ _ [x,.ref D] [u,.ref D] Q I1 (.cons r0 (.cons rfl .nil)) (hw D HD);rw [h2] at this;rw [h1];exact this
end
end L2
namespace L2
open PySem PySem.Spec PyProof.Rows
section
variable {prog : Program} {w : World} {A : Around} {E : Value → Shared → Prop} {s : Shared}
theorem zbS {it l:Addr} {xs:Array Value} (ne:l≠it):∀ (n i:Nat) (s:Shared) (Q:List Value->Shared->Prop),s.heap.IsListIter it l i->s.heap.IsList l xs->i+n<=xs.size ->
  (∀ h',h'.IsListIter it l (i+n)->Heap.SameBut it s.heap h'->Q ((xs.toList.drop i).take n) { s with heap:=h' })->wpAny (model prog w) A (draw (.ref it) n) Q E s
 | 0,i,s,Q,a,_,_,q=>by
  show wpAny _ _ (pure []) Q E s;exact wpAny_pure (by simpa using q s.heap a (Heap.SameBut.refl ..))
 |n+1,i,s,Q,a,b,le,q=>by
  have lt:i<xs.size:=by omega
  show wpAny _ _ (pyNext (.ref it) >>= _) Q E s;refine wpAny_bind (wpAny_pyNext_list_item a b (x:=xs[i]) (by simp [lt]) fun h1 a1 s1=>?_);refine wpAny_bind (wpAny_holding (zbS ne n (i+1) _ _ a1 (b.extBut s1.extBut ne) (by omega) fun h2 a2 s2=>wpAny_pure ?_));have e:xs.toList.drop i=xs[i]::xs.toList.drop (i+1):=by simp [List.drop_eq_getElem_cons,lt]
  have z:=q h2 (by rw [show i+(n+1)=i+1+n by omega];exact a2) (s1.trans s2);rw [e,List.take_succ_cons] at z;exact z
theorem zb3 {l:Addr} {xs:Array Value} {ts:List (Bool×(Value->Sem Unit))} {Q:Unit->Shared->Prop} (hh:A.handled=none) (hl:s.heap.IsList l xs) (hn:ts.length=xs.size) (hs:ts.findIdx? (·.1)=none)
  (h:∀ h',Heap.ExtBut s.heap.objs.size s.heap h'->wpAny (model prog w) A (assignInOrder (ts.map (·.2)) xs.toList) Q E { s with heap:=h' }):wpAny (model prog w) A (unpack (.ref l) ts) Q E s:=by
 have ne:l≠s.heap.objs.size:=by obtain ⟨o,ho,_⟩:=hl;exact Nat.ne_of_lt (Heap.lt_size ho)
 unfold unpack;rw [hn,hs];refine wpAny_bind (wpAny_holding ?_);unfold unpackItems;refine wpAny_bind ?_;unfold notIterableAtAll;refine wpAny_bind (wpAny_specialOf hl.typeIs slot_list_iter.lookup (wpAny_pure ?_));simp only [zzB,if_false];refine wpAny_bind (wpAny_holding (wpAny_pyIter_list hl ?_));refine wpAny_bind (wpAny_holding (zbS ne xs.size 0 _ _ ⟨_,Heap.get?_push_size _ rfl,rfl,rfl⟩ (hl.push _) (by omega) fun h1 a1 s1=>?_));rw [show List.take xs.size (List.drop 0 xs.toList)=xs.toList by rw [List.drop_zero];exact List.take_of_length_le (by simp),if_neg (by simp)];refine wpAny_bind (wpAny_holding (wpAny_pyNext_list_end hh a1 ((hl.push _).extBut s1.extBut ne) (by simp) fun h2 e2=>?_));simp only [Option.isSome_none,zzB,if_false];exact wpAny_pure (h h2 fun b o hb e=>e2 b o hb (s1.extBut b o hb (Heap.get?_push_of_some _ e)))
end
def gTL (K:PySem.W.Frag) (n:Nat) (t:TGs):TG:=fun v σ H Q=>∃ a xs,v=.ref a/\(sO K H a xs\/pM K H a xs)/\xs.length=n/\t xs σ H Q
theorem pg_tl {X:Cx} {pos:Pos} {es:List Expr} {k:Nat} {t:TGs} {n:Nat} (hc:X.calm=true) (h:PGs X es t) (hn:(assignEach es X.env).length=n) (hst:(assignEach es X.env).findIdx? (·.1)=none):PG X (.Tuple es k pos) (gTL X.K n t):=by
 intro pins s σ H v u Q I r hw;obtain ⟨a,xs,e1,hq,hl,hw⟩:=hw;rcases hq with hq|hq
 .exact zgd hc h hn hst pins s σ H v u Q I r ⟨a,xs,e1,hq,hl,hw⟩
 .subst e1;cases r;obtain ⟨its,rv,pl,hz⟩:=I.list hq;rw [assign_Tuple];refine wpAny_bind (wpAny_standAt (zb3 (I.ok.hd hc) pl.isList (by simp [hn,← hl,rv.length]) hst fun h' hx=>?_));exact h pins _ σ H xs _ Q (I.kept (t':=s.toks) fun b o e=>hx b o (Nat.ne_of_lt (Heap.lt_size e)) e) (by simpa using rv) hw
end L2
namespace L3
open PySem PySem.Spec PyProof.Rows L2 PySem.SeqAt
theorem zbs {K:yL} {H:Hp} {f:Str} {w:W} {v:V} (q:xN K H w v):∀ {l:List (Str×W)} {l':List (Str×V)},yS K H l l'->yS K H (zc7 f w l) (vX f v l')
 | [],_,h=>by rw [show _=[] from h];exact ⟨v,[],rfl,q,rfl⟩
 | (n,u)::r,_,⟨x,t,e,h,hr⟩=>by
  subst e;unfold zc7 vX
  by_cases hn:n=f
  .rw [if_pos hn,if_pos hn];exact ⟨v,t,rfl,q,hr⟩
  .rw [if_neg hn,if_neg hn];exact ⟨x,_,rfl,h,zbs q hr⟩
section
variable {Γ : Ctx3} {p : Par} (g : Good Γ p)
def OkS (Γ:Ctx3) (p:Par) (s:IS):Prop:=∀ M X x,Lk Γ M p X->mS s M x=true->PS X x (lowS X.K (zO Γ XN s))
def OkSs (Γ:Ctx3) (p:Par) (s:ISs):Prop:=∀ M X x,Lk Γ M p X->qB s M x=true->PSs X x (lowS X.K (zH Γ XN s))
include g
theorem t_asg (i:Nat) (e:IE):OkS Γ p (.asg i e):=by
 intro M X x L h;obtain ⟨y,py,v,q,rfl,h1,h2,h3⟩:=zhV h
 .
  have lo:=zbG L h2;have hN:=jO h1;rw [← L.N] at hN;have nd:X.N.Nodup:=L.N▸L.nd
  have low:∀ (te:TE),(∀ τ H Q,yB X.K (zG Γ XN e).e τ H Q->te τ H Q)->∀ D τ H,lowS X.K (zO Γ XN (.asg i e)) D τ H->tAsg te (zfF i) D τ H:=fun te k D τ H hq=>by
   obtain ⟨σ,G,D3,hs,ab,f,hq⟩:=hq;refine k _ _ _ ⟨σ,G,hs,ab,zC g.mono XN e σ G _ _ (fun w G' hq v' H' g' rp ab'=>?_) hq⟩;exact f.nx _ G' _ H' g' ((hs.mono g').set rp i) ab' hq
  by_cases hl:pW v=true
  .exact (zgb (i:=i) nd hN lo.1 (uQ g e M X v L h3).1 (kK hl) lo.2).imp (low _ fun _ _ _ z=>z)
  .cases v with
   |ListComp x gens sc qq =>
    cases e with
    |lc tg names caps it c elt =>
     match gens,h3 with
     | [⟨t,ix,ifs,asy⟩],h3 =>
      have h3':=h3;replace h3:=bd10 h3;obtain ⟨⟨⟨⟨⟨⟨⟨⟨⟨z0,z1⟩,z2⟩,z3⟩,z4⟩,z5⟩,z6⟩,z7⟩,z8⟩,z9⟩:=h3;replace z0:=of_decide_eq_true z0;subst z0;have cond:∃ b,swapsWith (.ListComp x [⟨t,ix,ifs,0⟩] sc qq) (some (.Name y py)) q.line X.env=pure b:=⟨_,rfl⟩;obtain ⟨b,hb⟩:=cond
      cases b with
      |false=>exact (zgb (i:=i) nd hN lo.1 (uQ g _ M X _ L h3').1 hb lo.2).imp (low _ fun _ _ _ z=>z)
      |true =>
       obtain ⟨c1,c2,c3,c4,c5,c6,c7,c8⟩:=bT g tg names caps it c elt (sndI g it) (sndO g c) (uQ g elt) L (x:=x) (t:=t) (ix:=ix) (ifs:=ifs) (sc:=sc) (by simp only [Bool.and_eq_true];exact ⟨⟨⟨⟨⟨⟨⟨⟨z1,z2⟩,z3⟩,z4⟩,z5⟩,z6⟩,z7⟩,z8⟩,z9⟩);exact (ze1 (i:=i) L.fits.calm c1 c2 c3 c4 c5 c6 nd hN lo.1 lo.2 hb c7).imp (low _ c8)
    |_=>exact absurd h3 zzN
   |SetComp _ _ _ _=>cases e<;>exact absurd h3 zzN
   |DictComp _ _ _ _ _=>cases e<;>exact absurd h3 zzN
   |_=>exact absurd rfl hl
theorem sndTL {M:MC} {X:Cx} {ts:ITgs} {es:List Expr} {k:Nat} {q:Pos} (L:Lk Γ M p X) (h:mGs M ts es=true):PG X (.Tuple es k q) (lowG X.K fun w σ G Q=>zW (.tup ts) (unl G w) σ G Q):=by
 obtain ⟨ps,hn,hst⟩:=zgY L ts es h;refine (pg_tl (n:=es.length) L.fits.calm ps hn hst).imp fun v σ H Q q=>?_;obtain ⟨w,σ3,G,rp,hs,ab,q⟩:=q
 cases w with
 |tup ws =>
  obtain ⟨a,vs,rfl,sq,rs⟩:=rp;exact ⟨a,vs,rfl,.inl sq,by rw [rs.length];exact zfm ts es ws σ3 G _ h q,ws,σ3,G,rs,hs,ab,q⟩
 |ref p =>
  cases (show v=.ref p from rp);simp only [unl] at q
  split at q
  .rename_i ws e;obtain ⟨vs,sq,rs⟩:=ab.seq e;exact ⟨p,vs,rfl,.inr sq,by rw [rs.length];exact zfm ts es ws σ3 G _ h q,ws,σ3,G,rs,hs,ab,q⟩
  .exact q.elim
 |_=>exact q.elim
theorem ziK (ts:ITgs) (e:IE):OkS Γ p (.asgT ts e):=by
 intro M X x L h;obtain ⟨es,k,qt,v,q,rfl,h1,h2,h3,h4⟩:=zfy h
 .
  have pg:=sndTL g (k:=k) (q:=qt) L h3;refine (zgc (uQ g e M X v L h4).1 pg (by unfold swapsWithSole;exact kK h1) (by cases v<;>first|rfl|cases h2) rfl).imp fun D τ H hq=>?_;obtain ⟨σ,G,D3,hs,ab,f,hq⟩:=hq;refine ⟨σ,G,hs,ab,zC g.mono XN e σ G _ _ (fun w G' hq v' H' g' rp ab'=>?_) hq⟩;exact ⟨w,σ,G',rp,hs.mono g',ab',pH _ (unl G' w) σ G' _ _ (fun σ2 G2 hq τ2 H2 g2 hs2 a2=>f.nx σ2 G2 τ2 H2 (g'.trans g2) hs2 a2 hq) hq⟩
theorem ziL (i j:Nat) (e:IE):OkS Γ p (.asgS i j e):=by
 intro M X x L h;obtain ⟨t,v,q,rfl,h1,h2,h3,h4⟩:=zfz h;obtain ⟨y,py,z,pz,p2,k,qt,rfl,hi,hj⟩:=zgX h3;have l1:=zbG L hi.2;have l2:=zbG L hj.2;have pg:=zhl (k:=k) (p2:=p2) (pos:=qt) L.fits.calm (gB (zaM (pos:=py) (i:=i) (L.N▸L.nd) (by rw [L.N];exact jO hi.1) l1.1 l1.2) (gB (zaM (pos:=pz) (i:=j) (L.N▸L.nd) (by rw [L.N];exact jO hj.1) l2.1 l2.2) zc9)) rfl rfl;refine (zgc (uQ g e M X v L h4).1 pg (by unfold swapsWithSole;exact kK h1) (by cases v<;>first|rfl|cases h2) rfl).imp fun D τ H hq=>?_;obtain ⟨σ,G,D3,hs,ab,f,hq⟩:=hq;refine yF (zC g.mono XN e) hs ab hq fun w G1 v1 H1 g1 hs1 r1 a1 hq=>?_
 cases w with
 |tup ws =>
  cases ws with
  |nil=>exact hq.elim
  |cons x r =>
   obtain ⟨a,vs,rfl,sq,rs⟩:=r1;obtain ⟨v0,vr,rfl,rx,rr⟩:=rs;refine ⟨a,v0,vr,rfl,sq,by rw [rr.length];exact hq.1,fun p hp=>⟨v0,[.ref p],rfl,.ref p,[],rfl,rfl,?_⟩⟩;have gr:=wZ (K:=X.K) (u:=.lst vr) hp;have ab2:xR X.K (xI H1 p (.lst vr)) (put G1 p (.lst r)):=a1.new hp ⟨vr,rfl,rr.mono gr⟩;exact f.nx _ _ _ _ (g1.trans gr) (((hs1.mono gr).set (rx.mono gr) i).set (show xN X.K _ (.ref p) (.ref p) from rfl) j) ab2 (hq.2 p (a1.free hp))
 |_=>exact hq.elim
theorem ziM (o i e:IE):OkS Γ p (.asgI o i e):=by
 intro M X x L h;obtain ⟨l,r,qs,v,q,rfl,h1,h2,h3,h4,h5⟩:=zfA h
 .
  have pe:=(uQ g e M X v L h5).1;have po:=(uQ g o M X l L h3).1;have pi:=(uQ g i M X r L h4).1;intro pins s τ H D I hq;obtain ⟨σ,G,D3,hs,ab,f,hq⟩:=hq
  have q1:yB X.K (zG Γ XN e).e τ H fun v H1=>yB X.K (zG Γ XN o).e τ H1 fun ov H2=>yB X.K (zG Γ XN i).e τ H2 fun iv H3=>zgo X.K ov iv v H3 fun H4=>D.nx τ H4:=by
   refine yF (zC g.mono XN e) hs ab hq fun w G1 v1 H1 g1 hs1 r1 a1 hq=>?_;refine yF (zC g.mono XN o) hs1 a1 hq fun x G2 v2 H2 g2 hs2 r2 a2 hq=>?_;refine yF (zC g.mono XN i) hs2 a2 hq fun y G3 v3 H3 g3 hs3 r3 a3 hq=>?_;exact ⟨x,y,w,G3,r2.mono g3,r3,(r1.mono g2).mono g3,a3,zcX (fun G4 hq H4 g4 a4=>f.nx σ G4 τ H4 (g1.trans (g2.trans (g3.trans g4))) (hs3.mono g4) a4 hq) hq⟩
  refine wpAny_Assign_Subscript (yH (pe pins s τ H _ I q1) fun u1 s1 ⟨v1,H1,I1,r1,q1⟩=>yH (po pins s1 τ H1 _ I1 q1) fun u2 s2 ⟨v2,H2,I2,r2,q2⟩=>yH (pi pins s2 τ H2 _ I2 q2) fun u3 s3 ⟨v3,H3,I3,r3,q3⟩=>?_) (kK h1);exact yH (zi2 (rP g L) pins s3 τ H3 v2 v3 v1 u2 u3 u1 _ I3 r2 r3 r1 q3) fun _ s4 ⟨H4,I4,q4⟩=>⟨τ,H4,I4,q4⟩
theorem ziN (o:IE) (f:Str) (e:IE):OkS Γ p (.asgA o f e):=by
 intro M X x L h;obtain ⟨l,qs,v,q,rfl,h2,h3,h4⟩:=zfB h
 .
  refine (zjo (uQ g o M X l L h3).1 (uQ g e M X v L h4).1 (kK h2)).imp fun D τ H hq=>?_;obtain ⟨σ,G,D3,hs,ab,fi,hq⟩:=hq;refine yF (zC g.mono XN e) hs ab hq fun w G1 v1 H1 g1 hs1 r1 a1 hq=>?_;refine yF (zC g.mono XN o) hs1 a1 hq fun x G2 v2 H2 g2 hs2 r2 a2 hq=>?_
  cases x with
  |ref a =>
   cases r2;simp only [satR] at hq
   split at hq
   .rename_i C fs e2;obtain ⟨⟨l2,hl,hf⟩,hlen,hq⟩:=hq;obtain ⟨dx,fs',e',rk⟩:=a2.ins e2;have c:=g.cl _ hl;refine ⟨a,C,dx,fs',rfl,e',by rw [L.fits.K];exact c.1,by rw [L.fits.K];exact c.2 f hf,by rw [rk.length];exact hlen,?_⟩;have gr:=a2.grow (u:=.ins C dx (vX f v1 fs')) e2;exact fi.nx σ _ τ _ (g1.trans (g2.trans gr)) (hs2.mono gr) (a2.chg (o:=.ins C (zc7 f w fs)) e2 ⟨dx,_,rfl,zbs ((r1.mono g2).mono gr) (rk.mono gr)⟩) hq
   .exact hq.elim
  |_=>exact hq.elim
theorem uT:OkS Γ p .retN/\OkS Γ p .pass/\OkS Γ p .brk/\OkS Γ p .cnt/\OkS Γ p .dead:=by
 refine ⟨fun M X x L h=>?_,fun M X x L h=>?_,fun M X x L h=>?_,fun M X x L h=>?_,fun M X x L h=>?_⟩
 .obtain ⟨q,rfl⟩:=zfv h;exact zhe.imp fun D τ H hq=>by obtain ⟨σ,G,D3,hs,ab,f,hq⟩:=hq;exact f.rt .non G _ H .refl (show xN X.K H .non .non from rfl) ab hq
 .obtain ⟨q,rfl⟩:=zfw h;exact zhf.imp fun D τ H hq=>by obtain ⟨σ,G,D3,hs,ab,f,hq⟩:=hq;exact f.nx σ G τ H .refl hs ab hq
 .obtain ⟨q,rfl⟩:=zhU h;exact ze3.imp fun D τ H hq=>by obtain ⟨σ,G,D3,hs,ab,f,hq⟩:=hq;exact f.bk σ G τ H .refl hs ab hq
 .obtain ⟨q,rfl⟩:=zhQ h;exact zaL.imp fun D τ H hq=>by obtain ⟨σ,G,D3,hs,ab,f,hq⟩:=hq;exact f.ct σ G τ H .refl hs ab hq
 .exact ze2.imp fun D τ H hq=>by obtain ⟨σ,G,D3,hs,ab,f,hq⟩:=hq;exact hq.elim
theorem t_ex (e:IE):OkS Γ p (.ex e):=by
 intro M X x L h;obtain ⟨v,q,rfl,hh⟩:=zkp h
 .have h:=hh;refine (zhg (uQ g e M X v L h.2).1 (kK h.1)).imp fun D τ H hq=>?_;obtain ⟨σ,G,D3,hs,ab,f,hq⟩:=hq;exact yF (zC g.mono XN e) hs ab hq fun w G1 v1 H1 g1 hs1 r1 a1 hq=>f.nx σ G1 τ H1 g1 hs1 a1 hq
theorem t_ret (e:IE):OkS Γ p (.ret e):=by
 intro M X x L h;obtain ⟨v,q,rfl,hh⟩:=zhM h
 .have h:=hh;refine (zjm (uQ g e M X v L h).1).imp fun D τ H hq=>?_;obtain ⟨σ,G,D3,hs,ab,f,hq⟩:=hq;exact yF (zC g.mono XN e) hs ab hq fun w G1 v1 H1 g1 hs1 r1 a1 hq=>f.rt w G1 v1 H1 g1 r1 a1 hq
theorem t_ite (c:IE) (a b:ISs) (ha:OkSs Γ p a) (hb:OkSs Γ p b):OkS Γ p (.ite c a b):=by
 intro M X x L h;obtain ⟨t,y,z,q,rfl,hh⟩:=zhO h
 .have h:=hh;refine (ps_if (uQ g c M X t L h.1).2.1 (ha M X y L h.2.1) (hb M X z L h.2.2)).imp fun D τ H hq=>?_;obtain ⟨σ,G,D3,hs,ab,f,hq⟩:=hq;refine dM (rY g.mono XN c) hs ab hq fun k G1 H1 g1 hs1 a1 hq=>?_
  split
  .rename_i hk;rw [if_pos hk] at hq;exact ⟨σ,G1,D3,hs1,a1,f.grow g1,hq⟩
  .rename_i hk;rw [if_neg hk] at hq;exact ⟨σ,G1,D3,hs1,a1,f.grow g1,hq⟩
theorem t_whl (c:IE) (b:ISs) (hb:OkSs Γ p b):OkS Γ p (.whl c b):=by
 intro M X x L h;obtain ⟨t,y,q,rfl,hh⟩:=zhL h
 .have h:=hh;have hp:PassesOwn (model X.prog X.w) X.A X.env X.xe:=by rw [L.fits.xe];exact PassesOwn.never
  refine (ze0 hp (uQ g c M X t L h.1).2.1 (hb M X y L h.2)).imp fun D τ H hq=>?_;obtain ⟨σ,G,D3,hs,ab,f,Pv,⟨m0,p0⟩,step⟩:=hq;refine ⟨fun m τ H'=>yJ X.K H H'/\∃ σ G,yM X.K H' σ τ/\xR X.K H' G/\Pv m σ G,⟨m0,.refl,σ,G,hs,ab,p0⟩,?_⟩;rintro m τ1 H1 ⟨g1,σ1,G1,hs1,a1,p1⟩;refine dM (rY g.mono XN c) hs1 a1 (step m σ1 G1 p1) fun k G2 H2 g2 hs2 a2 hq=>?_
  split
  .rename_i hk;rw [if_pos hk] at hq;refine ⟨fun τ' H'=>∃ m',m' < m/\yJ X.K H H'/\∃ σ G,yM X.K H' σ τ'/\xR X.K H' G/\Pv m' σ G,fun τ' H' z=>z,?_⟩;refine ⟨σ1,G2,_,hs2,a2,⟨?_,?_,?_,?_⟩,hq⟩
   .rintro σ3 G3 τ3 H3 g3 hs3 a3 ⟨m',hm,p'⟩;exact ⟨m',hm,g1.trans (g2.trans g3),σ3,G3,hs3,a3,p'⟩
   .exact fun σ3 G3 τ3 H3 g3 hs3 a3 z=>f.nx σ3 G3 τ3 H3 (g1.trans (g2.trans g3)) hs3 a3 z
   .rintro σ3 G3 τ3 H3 g3 hs3 a3 ⟨m',hm,p'⟩;exact ⟨m',hm,g1.trans (g2.trans g3),σ3,G3,hs3,a3,p'⟩
   .exact fun w G3 v3 H3 g3 r3 a3 z=>f.rt w G3 v3 H3 (g1.trans (g2.trans g3)) r3 a3 z
  .rename_i hk;rw [if_neg hk] at hq;exact f.nx σ1 G2 τ1 H2 (g1.trans g2) hs2 a2 hq
theorem t_for (tg:ITg) (it:II) (b:ISs) (hb:OkSs Γ p b):OkS Γ p (.for tg it b):=by
 intro M X x L h;obtain ⟨t,y,z,q,rfl,h1,h2,h3,h4⟩:=zhP h
 .
  have hp:PassesOwn (model X.prog X.w) X.A X.env X.xe:=by rw [L.fits.xe];exact PassesOwn.never
  refine (zjn hp L.fits.calm (sndI g it M X y L h3 t) (sndG L tg t h2) (hb M X z L h4) (zal h1)).imp fun D τ H hq=>?_;obtain ⟨σ,G,D3,hs,ab,f,hq⟩:=hq;refine ⟨σ,G,hs,ab,zjP g.mono XN it σ G _ _ (fun items stab G1 hq J H1 g1 a1 ii=>?_) hq⟩;obtain ⟨Pv,p0,pst,step,fin⟩:=hq;refine ⟨fun i m τ H'=>m+i=items.length/\yJ X.K H1 H'/\∃ σ G,yM X.K H' σ τ/\xR X.K H' G/\Pv i σ G,⟨items.length,rfl,.refl,σ,G1,hs.mono g1,a1,p0⟩,?_⟩;rintro i m τ2 H2 ⟨hm,g2,σ2,G2,hs2,a2,p2⟩;have st:=pst i σ2 G2 p2 (by omega)
  by_cases hi:i<items.length
  .refine .inr ⟨ii.go i H2 G2 g2 a2 st hi,fun τ' H'=>∃ m',m' < m/\(m'+(i+1)=items.length/\yJ X.K H1 H'/\∃ σ G,yM X.K H' σ τ'/\xR X.K H' G/\Pv (i+1) σ G),fun τ' H' z=>z,fun x H' yl=>?_⟩;obtain ⟨w,ew,g3,rp,a3⟩:=ii.yld i H2 G2 x H' g2 a2 st hi yl;refine ⟨w,σ2,G2,rp,hs2.mono g3,a3,pH tg w σ2 G2 _ _ (fun σ4 G4 hq τ4 H4 g4 hs4 a4=>?_) (step i w σ2 G2 ew p2)⟩;refine ⟨σ4,G4,_,hs4,a4,⟨?_,?_,?_,?_⟩,hq⟩
   .exact fun σ5 G5 τ5 H5 g5 hs5 a5 z=>⟨m-1,by omega,by omega,g2.trans (g3.trans (g4.trans g5)),σ5,G5,hs5,a5,z⟩
   .exact fun σ5 G5 τ5 H5 g5 hs5 a5 z=>f.nx σ5 G5 τ5 H5 (g1.trans (g2.trans (g3.trans (g4.trans g5)))) hs5 a5 z
   .exact fun σ5 G5 τ5 H5 g5 hs5 a5 z=>⟨m-1,by omega,by omega,g2.trans (g3.trans (g4.trans g5)),σ5,G5,hs5,a5,z⟩
   .exact fun w5 G5 v5 H5 g5 r5 a5 z=>f.rt w5 G5 v5 H5 (g1.trans (g2.trans (g3.trans (g4.trans g5)))) r5 a5 z
  .have ei:i=items.length:=by omega
   subst ei;exact .inl ⟨ii.stop _ H2 G2 g2 a2 st (zzR _),f.nx σ2 G2 τ2 H2 (g1.trans g2) hs2 a2 (fin σ2 G2 p2)⟩
theorem sndSs (s:ISs):OkSs Γ p s :=
 ISs.rec (motive_1:=OkS Γ p) (motive_2:=OkSs Γ p) (t_asg g) (ziK g) (ziM g) (ziN g) (t_ex g) (t_ret g) (uT g).1 (uT g).2.1 (uT g).2.2.1 (uT g).2.2.2.1
  (fun c a b ha hb=>t_ite g c a b ha hb) (fun c b hb=>t_whl g c b hb) (fun tg it b hb=>t_for g tg it b hb) (uT g).2.2.2.2 (ziL g)
  (fun M X x L h=>by
   cases zhN h;exact zhd.imp fun D τ H hq=>by obtain ⟨σ,G,D3,hs,ab,f,hq⟩:=hq;exact f.nx σ G τ H .refl hs ab hq)
  (fun s ss hs1 hs2 M X x L h=>by
   obtain ⟨y,ys,rfl,hh⟩:=zfx h
   .have h:=hh;refine (zeZ (hs1 M X y L h.1) (hs2 M X ys L h.2)).imp fun D τ H hq=>?_;obtain ⟨σ,G,D3,hs,ab,f,hq⟩:=hq;refine ⟨σ,G,{ D3 with nx:=zH Γ XN ss D3 },hs,ab,⟨?_,f.bk,f.ct,f.rt⟩,hq⟩;exact fun σ2 G2 τ2 H2 g2 hs2 a2 z=>⟨σ2,G2,D3,hs2,a2,f.grow g2,z⟩) s
end
end L3
namespace PySem
open Sem (wp)
section
variable {prog : Program} {w : World} {s : Shared} {A : Around} {E : Value → Shared → Prop}
def itc (b:Bool):String:=if b then "tuple_iterator" else "list_iterator"
def mM (b:Bool) (h:Heap) (i l:Addr) (k:Nat):Prop:=∃ o,h.get? i=some o/\o.cls=.type (itc b)/\o.data=.fields #[.ref l,.int k 0]
def hJ (b:Bool) (h:Heap) (l:Addr) (its:Array Value):Prop:=match b with
 |true=>h.IsTuple l its
 |false=>h.IsList l its
theorem mM.at {b:Bool} {h h':Heap} {i l:Addr} {k:Nat} (x:mM b h i l k) (e:∀ o,h.get? i=some o->h'.get? i=some o):mM b h' i l k:=let ⟨o,ho,r⟩:=x;⟨o,e _ ho,r⟩
theorem hJ.at {b:Bool} {h h':Heap} {l:Addr} {its:Array Value} (x:hJ b h l its) (e:∀ o,h.get? l=some o->h'.get? l=some o):hJ b h' l its:=by
 cases b
 .obtain ⟨o,ho,r⟩:=x;exact ⟨o,e _ ho,r⟩
 .obtain ⟨o,ho,r⟩:=x;exact ⟨o,e _ ho,r⟩
theorem mM.eb {b:Bool} {h h':Heap} {i l c:Addr} {k:Nat} (x:mM b h i l k) (e:Heap.ExtBut c h h') (n:i≠c):mM b h' i l k:=x.at fun o q=>e _ o n q
theorem hJ.eb {b:Bool} {h h':Heap} {l c:Addr} {its:Array Value} (x:hJ b h l its) (e:Heap.ExtBut c h h') (n:l≠c):hJ b h' l its:=x.at fun o q=>e _ o n q
theorem gL {b:Bool} {l:Addr} {its:Array Value} {Q:Value->Shared->Prop} (h:hJ b s.heap l its)
  (hQ:Q (.ref s.heap.objs.size) { s with heap:=s.heap.push { cls:=.type (itc b),data:=.fields #[.ref l,.int 0 0] } }):wpAny (model prog w) A (pyIter (.ref l)) Q E s:=by
 cases b
 .exact wpAny_pyIter_list h hQ
 .exact wpAny_pyIter_tuple h hQ
abbrev zd3 (it:Addr):Sem Value:=Builtin.SmallTypes.nextOf (.ref it)
theorem zf2 {it:Addr} {Q:Value->Shared->Prop} (ty:s.TypeIs (.ref it) "tuple_iterator")
  (h:wpAny (model prog w) A.in1 (Builtin.«tuple_iterator.__next__» ⟨[.ref it],[]⟩) (fun f s'=>∃ v,f=.done (.ret v)/\Q v s') E s) :
  wpAny (model prog w) A (zd3 it) Q E s:=by
 have sl:=F.slot_tuple_iterator_next;apply wpAny_bind;apply wpAny_callSpecial?_slot ty sl;apply wpAny_call_entry sl ty F.entry_tuple_iterator_next _ (F.args_tuple_iterator_next_1 _);exact wpAny_mono h (fun _ _ ⟨v,e,q⟩=>⟨v,e,wpAny_pure q⟩) fun _ _ e=>e
theorem nQ {it t:Addr} {i:Nat} {items} {x:Value} {Q:Value->Shared->Prop} (hit:s.heap.IsTupleIter it t i) (ht:s.heap.IsTuple t items) (hx:items[i]?=some x)
  (hQ:∀ h',h'.IsTupleIter it t (i+1)->Heap.SameBut it s.heap h'->Q x { s with heap:=h' }) :
  wpAny (model prog w) A (zd3 it) Q E s:=by
 apply zf2 hit.typeIs;obtain ⟨⟨c,di,da,sl⟩,g1,c1,d1⟩:=hit;obtain ⟨⟨c2,di2,da2,sl2⟩,g2,c2',n2,d2⟩:=ht;cases c1;cases d1;cases d2;obtain ⟨hp,ge,dr,tk,os⟩:=s
 wp_walk using wpAny_loadPart' g2,wpAny_loadPart' g1
 rw [Int.toNat_natCast,hx]
 wp_walk using wpAny_loadPart' g1
 refine ⟨x,rfl,hQ _ ⟨_,Heap.get?_update_self _ g1 rfl,rfl,?_⟩ (.update ..)⟩;exact congrArg (fun z=>Data.fields #[.ref t,z]) rfl
theorem gW {it t:Addr} {i:Nat} {items} {Q:Value->Shared->Prop} (hh:A.handled=none) (hit:s.heap.IsTupleIter it t i) (ht:s.heap.IsTuple t items) (hx:items[i]?=none)
  (hE:∀ g e,Heap.ExtBut it s.heap g->(∃ o,g.get? e=some o/\o.cls=.type "StopIteration")->E (.ref e) { s with heap:=g }) :
  wpAny (model prog w) A (zd3 it) Q E s:=by
 apply zf2 hit.typeIs;obtain ⟨⟨c,di,da,sl⟩,g1,c1,d1⟩:=hit;obtain ⟨⟨c2,di2,da2,sl2⟩,g2,c2',n2,d2⟩:=ht;cases c1;cases d1;cases d2;obtain ⟨hp,ge,dr,tk,os⟩:=s;have hh':A.in1.handled=none:=hh
 wp_walk using wpAny_loadPart' g2,wpAny_loadPart' g1
 rw [Int.toNat_natCast,hx]
 wp_walk using wpAny_loadPart' g1
 unfold raiseNew
 wp_walk
 exact hE _ _ (fun b o n z=>Heap.get?_push_of_some _ (Heap.get?_push_of_some _ ((Heap.SameBut.update ..).extBut b o n z))) ⟨_,Heap.get?_push_size _ rfl,rfl⟩
theorem kI {b:Bool} {it l:Addr} {i:Nat} {items:Array Value} {x:Value} {Q:Value->Shared->Prop} (hit:mM b s.heap it l i) (hl:hJ b s.heap l items) (hx:items[i]?=some x)
  (hQ:∀ h',mM b h' it l (i+1)->Heap.SameBut it s.heap h'->Q x { s with heap:=h' }):wpAny (model prog w) A (Builtin.SmallTypes.nextOf (.ref it)) Q E s:=by
 cases b
 .exact wpAny_nextOf_list_item hit hl hx hQ
 .exact nQ hit hl hx hQ
theorem mF {b:Bool} {it l:Addr} {i:Nat} {items:Array Value} {Q:Value->Shared->Prop} (hh:A.handled=none) (hit:mM b s.heap it l i) (hl:hJ b s.heap l items) (hx:items[i]?=none)
  (hE:∀ h' e,Heap.ExtBut it s.heap h'->(∃ o,h'.get? e=some o/\o.cls=.type "StopIteration")->E (.ref e) { s with heap:=h' }):wpAny (model prog w) A (Builtin.SmallTypes.nextOf (.ref it)) Q E s:=by
 cases b
 .exact wpAny_nextOf_list_end hh hit hl hx hE
 .exact gW hh hit hl hx hE
abbrev IsZ (h:Heap) (z TI TO:Addr) (f0 f1:Value):Prop :=
 h.get? z=some { cls:=.type "zip", dict:=none,data:=.fields #[f0,f1,.bool false,.ref TI,.ref TO],slots:=#[] }
end
abbrev zpH1 (a:Bool) (h:Heap) (l1:Addr):Heap:=h.push { cls:=.type (itc a),data:=.fields #[.ref l1,.int 0 0] }
abbrev zpH2 (a b:Bool) (h:Heap) (l1 l2:Addr):Heap:=(zpH1 a h l1).push { cls:=.type (itc b),data:=.fields #[.ref l2,.int 0 0] }
abbrev zpH3 (a b:Bool) (h:Heap) (l1 l2:Addr):Heap:=(zpH2 a b h l1 l2).push { cls:=.type "tuple", data:=.seq #[.ref h.objs.size,.ref (zpH1 a h l1).objs.size] }
abbrev zpH4 (a b:Bool) (h:Heap) (l1 l2:Addr):Heap:=(zpH3 a b h l1 l2).push { cls:=.type "tuple", data:=.seq #[.none,.none] }
abbrev zpH5 (a b:Bool) (h:Heap) (l1 l2:Addr):Heap:=(zpH4 a b h l1 l2).push { cls:=.type "zip", data:=.fields #[.none,.bool false,.bool false,.ref (zpH2 a b h l1 l2).objs.size,.ref (zpH3 a b h l1 l2).objs.size] }
theorem zag (a b:Bool) (l1 l2:Addr) (xs ys:Array Value) :
  Meets (Builtin.«zip.__new__» ⟨[.type "zip", .ref l1,.ref l2],[]⟩) (fun _ R s=>hJ a s.heap l1 xs/\hJ b s.heap l2 ys /\
   R (.ok (.ret (.ref (zpH4 a b s.heap l1 l2).objs.size))) { s with heap:=zpH5 a b s.heap l1 l2 }) :=
 .of_wp fun prog w A R st ⟨hl1,hl2,h⟩=>by
  obtain ⟨hp,g,d,tk,os⟩:=st;have hsub:=sub_zip;have hL1:hJ a (Shared.heap ⟨hp,g,d,tk,os⟩) l1 xs:=hl1;have hL2:hJ b (Shared.heap ⟨hp.push { cls:=.type (itc a),data:=.fields #[.ref l1,.int 0 0] },g,d,tk,os⟩) l2 ys:=hl2.at fun o e=>Heap.get?_push_of_some _ e
  wp_walk using gL hL1,gL hL2
  exact ⟨_,rfl,h⟩
section
variable {prog : Program} {w : World} {s : Shared} {A : Around} {E : Value → Shared → Prop}
theorem ziq {a b:Bool} {l1 l2:Addr} {xs ys:Array Value} {Q:Value->Shared->Prop} (hl1:hJ a s.heap l1 xs) (hl2:hJ b s.heap l2 ys)
  (h:∀ h',IsZ h' (s.heap.objs.size+4) (s.heap.objs.size+2) (s.heap.objs.size+3) .none (.bool false)->IsPair h' (s.heap.objs.size+2) (.ref s.heap.objs.size) (.ref (s.heap.objs.size+1)) ->
   IsPair h' (s.heap.objs.size+3) .none .none->mM a h' s.heap.objs.size l1 0->mM b h' (s.heap.objs.size+1) l2 0->h'.objs.size=s.heap.objs.size+5->(∀ c o,s.heap.get? c=some o->h'.get? c=some o)->Q (.ref (s.heap.objs.size+4)) { s with heap:=h' }):wpAny (model prog w) A (call (.type "zip") [.ref l1,.ref l2]) Q E s:=by
 apply callType_new F.called_zip (by decide) (F.typeCall_zip_2 _ _) (F.newCall_zip_2 _ _) (fun o=>F.args_object_init_3 o _ _) F.entry_zip_new (zag a b l1 l2 xs ys);refine ⟨hl1,hl2,?_⟩;have z1:(zpH1 a s.heap l1).objs.size=s.heap.objs.size+1:=Heap.size_push ..;have z2:(zpH2 a b s.heap l1 l2).objs.size=s.heap.objs.size+2:=by rw [Heap.size_push,z1]
 have z3:(zpH3 a b s.heap l1 l2).objs.size=s.heap.objs.size+3:=by rw [Heap.size_push,z2]
 have z4:(zpH4 a b s.heap l1 l2).objs.size=s.heap.objs.size+4:=by rw [Heap.size_push,z3]
 have z5:(zpH5 a b s.heap l1 l2).objs.size=s.heap.objs.size+5:=by rw [Heap.size_push,z4]
 have g5:(zpH5 a b s.heap l1 l2).get? (zpH4 a b s.heap l1 l2).objs.size=some _:=Heap.get?_push_size _ rfl;have g4:(zpH5 a b s.heap l1 l2).get? (zpH3 a b s.heap l1 l2).objs.size=some _:=Heap.get?_push_of_some _ (Heap.get?_push_size _ rfl);have g3:(zpH5 a b s.heap l1 l2).get? (zpH2 a b s.heap l1 l2).objs.size=some _:=Heap.get?_push_of_some _ (Heap.get?_push_of_some _ (Heap.get?_push_size _ rfl));have g2:(zpH5 a b s.heap l1 l2).get? (zpH1 a s.heap l1).objs.size=some _:=Heap.get?_push_of_some _ (Heap.get?_push_of_some _ (Heap.get?_push_of_some _ (Heap.get?_push_size _ rfl)));have g1:(zpH5 a b s.heap l1 l2).get? s.heap.objs.size=some _:=Heap.get?_push_of_some _ (Heap.get?_push_of_some _ (Heap.get?_push_of_some _ (Heap.get?_push_of_some _ (Heap.get?_push_size _ rfl))));show _/\_;rw [z2,z3,z4] at g5;rw [z1,z2] at g3;rw [z3] at g4;rw [z1] at g2;rw [z4];refine ⟨⟨_,g5,rfl⟩,h _ g5 g3 g4 ⟨_,g1,rfl,rfl⟩ ⟨_,g2,rfl,rfl⟩ z5 fun c o x=>?_⟩
 iterate 5 refine Heap.get?_push_of_some _ ?_
 exact x
end
end PySem
namespace PySem
open Sem (wp)
section
variable {prog : Program} {w : World} {s : Shared} {A : Around} {E : Value → Shared → Prop}
theorem rR {M:Model} {a:Addr} {Q:Option Obj->Shared->Prop} (h:Q (s.heap.get? a) s):wpAny M A (loadIfAlive a) Q E s:=fun Γ p hΓ=>by
 unfold loadIfAlive;rw [Sem.wp_loadIfAlive];exact wpAny_pure h Γ p hΓ
abbrev zer (z:Addr):Sem Fin:=Builtin.«zip.__next__» ⟨[.ref z],[]⟩
abbrev ziz (Q:Value->Shared->Prop) (f:Fin) (s:Shared):Prop:=∃ v,f=.done (.ret v)/\Q v s
abbrev But4 (z TO i1 i2:Addr) (h h':Heap):Prop:=∀ c o,c≠z->c≠TO->c≠i1->c≠i2->h.get? c=some o->h'.get? c=some o
abbrev zgG (h:Heap) (e:Addr):Prop:=∃ o,h.get? e=some o/\o.cls=.type "StopIteration"
def Stp (p:Prop):Prop:=p
theorem wC {M:Model} {v:Value} {Q:Value->Shared->Prop} (h:Stp (wpAny M A (Builtin.SmallTypes.nextOf v) Q E s)):wpAny M A (Builtin.SmallTypes.nextOf v) Q E s:=h
theorem zbw {z TI TO:Addr} {f0 f1:Value} {Q:Bool->Shared->Prop} (hz:IsZ s.heap z TI TO f0 f1) (hfr:f0=.none\/∃ T:Addr,f0=rawInt T/\s.heap.get? T=none) (h:Q true s) :
  wpAny (model prog w) A (Builtin.SmallTypes.ownedTupleIsFree (.ref z)) Q E s:=by
 obtain ⟨hp,ge,dr,tk,os⟩:=s;obtain rfl|⟨T,rfl,d⟩:=hfr<;>wp_walk using rR<;>exact h
theorem zbv {z TI TO T:Addr} {f1:Value} {o:Obj} {Q:Bool->Shared->Prop} (hz:IsZ s.heap z TI TO (rawInt T) f1) (hf:f1=.bool false\/f1=.bool true) (hT:s.heap.get? T=some o)
  (h:∀ h',IsZ h' z TI TO (rawInt T) (.bool true)->Heap.SameBut z s.heap h'->Q false { s with heap:=h' }) :
  wpAny (model prog w) A (Builtin.SmallTypes.ownedTupleIsFree (.ref z)) Q E s:=by
 obtain ⟨hp,ge,dr,tk,os⟩:=s;obtain rfl|rfl:=hf<;>wp_walk using rR
 .exact h _ (Heap.get?_update_self _ hz rfl) (.update ..)
 .exact h _ hz (.refl ..)
theorem zgK {a b:Bool} {z TI TO i1 i2 l1 l2:Addr} {k1 k2:Nat} {xs ys:Array Value} {x y u v f0 f1:Value} {Q:Value->Shared->Prop} (D:ZipApart z TI TO i1 i2 l1 l2)
  (hfr:f0=.none\/∃ T:Addr,f0=rawInt T/\s.heap.get? T=none) (hz:IsZ s.heap z TI TO f0 f1) (hTI:IsPair s.heap TI (.ref i1) (.ref i2)) (hTO:IsPair s.heap TO u v)
  (h1:mM a s.heap i1 l1 k1) (h2i:mM b s.heap i2 l2 k2) (hl1:hJ a s.heap l1 xs) (hl2:hJ b s.heap l2 ys) (hx:xs[k1]?=some x) (hy:ys[k2]?=some y)
  (hQ:∀ h',IsZ h' z TI TO (rawInt s.heap.objs.size) (.bool false)->IsPair h' TO x y->mM a h' i1 l1 (k1+1)->mM b h' i2 l2 (k2+1)->IsPair h' s.heap.objs.size x y->h'.objs.size=s.heap.objs.size+1 ->
   But4 z TO i1 i2 s.heap h'->Q (.ref s.heap.objs.size) { s with heap:=h' }) :
  wpAny (model prog w) A (zer z) (ziz Q) E s:=by
 wp_walk using wC,zbw hz hfr,wpAny_onRaise
 have b1:=(Heap.SameBut.update (h:=s.heap) (a:=z) (f:=Obj.mapFields fun x=>x.setIfInBounds 0 .ellipsis)).extBut;refine kI (h1.eb b1 D.i1z) (hl1.eb b1 D.l1z) hx fun h2 q1 k2=>?_;have t2:IsPair h2 TO u v:=k2.extBut _ _ D.TOi1 (b1 _ _ D.TOz hTO);have z2:IsZ h2 z TI TO .ellipsis f1:=k2.extBut _ _ D.i1z.symm (Heap.get?_update_self _ hz rfl)
 wp_walk using wC,wpAny_onRaise
 have b3:=(Heap.SameBut.update h2 TO (Obj.mapSeq fun e=>e.setIfInBounds 0 x)).extBut;have c3:∀ c o,c≠z->c≠TO->c≠i1->s.heap.get? c=some o->(h2.update TO (Obj.mapSeq fun e=>e.setIfInBounds 0 x)).get? c=some o:=fun c o n1 n2 n3 e=>b3 _ _ n2 (k2.extBut _ _ n3 (b1 _ _ n1 e));refine kI (h2i.at fun o e=>c3 _ o D.i2z D.TOi2.symm D.i12.symm e) (hl2.at fun o e=>c3 _ o D.l2z D.l2TO D.l2i1 e) hy fun h4 q2 k4=>?_;have t4:IsPair h4 TO x v:=k4.extBut _ _ D.TOi2 (Heap.get?_update_self _ t2 rfl);have z4:IsZ h4 z TI TO .ellipsis f1:=k4.extBut _ _ D.i2z.symm (b3 _ _ D.TOz.symm z2);have n1:=D.TOz
 wp_walk
 have b5:=(Heap.SameBut.update h4 TO (Obj.mapSeq fun e=>e.setIfInBounds (0+1) y)).extBut;have t5:IsPair (h4.update TO (Obj.mapSeq fun e=>e.setIfInBounds (0+1) y)) TO x y:=Heap.get?_update_self _ t4 rfl;have z5:=b5 _ _ n1.symm z4;have m5:(h4.update TO (Obj.mapSeq fun e=>e.setIfInBounds (0+1) y)).objs.size=s.heap.objs.size:=by rw [Heap.size_after_update,k4.1,Heap.size_after_update,k2.1,Heap.size_after_update]
 have c5:∀ c o,c≠z->c≠TO->c≠i1->c≠i2->s.heap.get? c=some o->(h4.update TO (Obj.mapSeq fun e=>e.setIfInBounds (0+1) y)).get? c=some o:=fun c o n1 n2 n3 n4 e=>b5 _ _ n2 (k4.extBut _ _ n4 (c3 _ _ n1 n2 n3 e));have q15:=((q1.eb b3 D.TOi1.symm).eb k4.extBut D.i12).eb b5 D.TOi1.symm;have q25:=q2.eb b5 D.TOi2.symm;generalize h4.update TO (Obj.mapSeq fun e=>e.setIfInBounds (0+1) y)=h5 at *;rw [m5]
 have b6:∀ c o,c≠z->h5.get? c=some o->(((h5.push { cls:=.type "tuple", data:=.seq #[x,y] }).update z (Obj.mapFields fun e=>e.setIfInBounds 0 (rawInt s.heap.objs.size))).update z (Obj.mapFields fun e=>e.setIfInBounds 1 (.bool false))).get? c=some o :=
  fun c o n e=>(Heap.SameBut.update ..).extBut _ _ n ((Heap.SameBut.update ..).extBut _ _ n (Heap.get?_push_of_some _ e))
 refine ⟨_,rfl,hQ _ (Heap.get?_update_self _ (Heap.get?_update_self _ (Heap.get?_push_of_some _ z5) rfl) rfl) (b6 _ _ n1 t5) (q15.at fun o e=>b6 _ o D.i1z e) (q25.at fun o e=>b6 _ o D.i2z e) ?_ ?_ fun c o n1 n2 n3 n4 e=>b6 c o n1 (c5 c o n1 n2 n3 n4 e)⟩
 .have:=Heap.lt_size z5;rw [m5] at this;refine (Heap.SameBut.update ..).extBut _ _ (Nat.ne_of_gt this) ((Heap.SameBut.update ..).extBut _ _ (Nat.ne_of_gt this) ?_);exact m5▸Heap.get?_push_size _ rfl
 .rw [Heap.size_after_update,Heap.size_after_update,Heap.size_push,m5]
theorem zgJ {a b:Bool} {z TI TO i1 i2 l1 l2 T:Addr} {k1 k2:Nat} {xs ys:Array Value} {x y u v f1:Value} {oT:Obj} {Q:Value->Shared->Prop} (D:ZipApart z TI TO i1 i2 l1 l2) (hf:f1=.bool false\/f1=.bool true)
  (hz:IsZ s.heap z TI TO (rawInt T) f1) (hT:s.heap.get? T=some oT) (hTI:IsPair s.heap TI (.ref i1) (.ref i2)) (hTO:IsPair s.heap TO u v)
  (h1:mM a s.heap i1 l1 k1) (h2i:mM b s.heap i2 l2 k2) (hl1:hJ a s.heap l1 xs) (hl2:hJ b s.heap l2 ys) (hx:xs[k1]?=some x) (hy:ys[k2]?=some y)
  (hQ:∀ h',IsZ h' z TI TO (rawInt T) (.bool true)->mM a h' i1 l1 (k1+1)->mM b h' i2 l2 (k2+1)->IsPair h' s.heap.objs.size x y->h'.objs.size=s.heap.objs.size+1 ->
   (∀ c o,c≠z->c≠i1->c≠i2->s.heap.get? c=some o->h'.get? c=some o)->Q (.ref s.heap.objs.size) { s with heap:=h' }) :
  wpAny (model prog w) A (zer z) (ziz Q) E s:=by
 wp_walk using wC,zbv hz hf hT
 intro g z1 j1
 wp_walk using wC
 refine kI (h1.eb j1.extBut D.i1z) (hl1.eb j1.extBut D.l1z) hx fun h2 q1 k2=>?_
 wp_walk using wC
 have c2:∀ c o,c≠z->c≠i1->s.heap.get? c=some o->h2.get? c=some o:=fun c o n1 n2 e=>k2.extBut _ _ n2 (j1.extBut _ _ n1 e);refine kI (h2i.at fun o e=>c2 _ o D.i2z D.i12.symm e) (hl2.at fun o e=>c2 _ o D.l2z D.l2i1 e) hy fun h3 q2 k3=>?_
 wp_walk
 have m:h3.objs.size=s.heap.objs.size:=by rw [k3.1,k2.1,j1.1]
 have p:∀ c o,h3.get? c=some o->(h3.push { cls:=.type "tuple", data:=.seq #[x,y] }).get? c=some o:=fun c o e=>Heap.get?_push_of_some _ e;rw [m];refine ⟨_,rfl,hQ _ (p _ _ (k3.extBut _ _ D.i2z.symm (k2.extBut _ _ D.i1z.symm z1))) ((q1.eb k3.extBut D.i12).at (p _)) (q2.at (p _)) ?_ ?_ fun c o n1 n2 n3 e=>p _ _ (k3.extBut _ _ n3 (c2 _ _ n1 n2 e))⟩
 .exact m▸Heap.get?_push_size _ rfl
 .rw [Heap.size_push,m]
theorem pJ {a b:Bool} {z TI TO i1 i2 l1 l2:Addr} {k1 k2:Nat} {xs ys:Array Value} {u v f0 f1:Value} {Q:Fin->Shared->Prop} (hh:A.handled=none) (D:ZipApart z TI TO i1 i2 l1 l2)
  (hfr:f0=.none\/∃ T:Addr,f0=rawInt T/\s.heap.get? T=none) (hz:IsZ s.heap z TI TO f0 f1) (hTI:IsPair s.heap TI (.ref i1) (.ref i2)) (hTO:IsPair s.heap TO u v)
  (h1:mM a s.heap i1 l1 k1) (h2i:mM b s.heap i2 l2 k2) (hl1:hJ a s.heap l1 xs) (hl2:hJ b s.heap l2 ys) (hend:xs[k1]?=none\/ys[k2]?=none)
  (hE:∀ h' e,But4 z TO i1 i2 s.heap h'->zgG h' e->E (.ref e) { s with heap:=h' }) :
  wpAny (model prog w) A (zer z) Q E s:=by
 wp_walk using wC,zbw hz hfr,wpAny_onRaise
 have b1:=(Heap.SameBut.update (h:=s.heap) (a:=z) (f:=Obj.mapFields fun x=>x.setIfInBounds 0 .ellipsis)).extBut;have z1:IsZ (s.heap.update z (Obj.mapFields fun x=>x.setIfInBounds 0 .ellipsis)) z TI TO .ellipsis f1:=Heap.get?_update_self _ hz rfl
 have fin:∀ (g:Heap) e,IsZ g z TI TO .ellipsis f1->(∃ o,g.get? e=some o/\o.cls=.type "StopIteration") ->
   ∃ o,(g.update z (Obj.mapFields fun x=>x.setIfInBounds 0 .none)).get? e=some o/\o.cls=.type "StopIteration" := by
  rintro g e zg ⟨o,he,ce⟩;refine ⟨o,(Heap.SameBut.update ..).extBut _ _ ?_ he,ce⟩;rintro rfl;cases he.symm.trans zg;simp at ce
 cases hx:xs[k1]? with
 |none =>
  refine mF hh (h1.eb b1 D.i1z) (hl1.eb b1 D.l1z) hx fun g e k he=>?_;have zg:IsZ g z TI TO .ellipsis f1:=k _ _ D.i1z.symm z1
  wp_walk
  exact hE _ e (fun c o n1 _ n3 _ q=>(Heap.SameBut.update ..).extBut _ _ n1 (k _ _ n3 (b1 _ _ n1 q))) (fin _ _ zg he)
 |some x =>
  have hy:=hend.resolve_left (by rw [hx];exact Option.some_ne_none x);refine kI (h1.eb b1 D.i1z) (hl1.eb b1 D.l1z) hx fun h2 q1 k2=>?_;have t2:IsPair h2 TO u v:=k2.extBut _ _ D.TOi1 (b1 _ _ D.TOz hTO);have z2:IsZ h2 z TI TO .ellipsis f1:=k2.extBut _ _ D.i1z.symm z1
  wp_walk using wC,wpAny_onRaise
  have b3:=(Heap.SameBut.update h2 TO (Obj.mapSeq fun e=>e.setIfInBounds 0 x)).extBut;have c3:∀ c o,c≠z->c≠TO->c≠i1->s.heap.get? c=some o->(h2.update TO (Obj.mapSeq fun e=>e.setIfInBounds 0 x)).get? c=some o:=fun c o n1 n2 n3 e=>b3 _ _ n2 (k2.extBut _ _ n3 (b1 _ _ n1 e));refine mF hh (h2i.at fun o e=>c3 _ o D.i2z D.TOi2.symm D.i12.symm e) (hl2.at fun o e=>c3 _ o D.l2z D.l2TO D.l2i1 e) hy fun g e k he=>?_;have zg:IsZ g z TI TO .ellipsis f1:=k _ _ D.i2z.symm (b3 _ _ D.TOz.symm z2)
  wp_walk
  exact hE _ e (fun c o n1 n2 n3 n4 q=>(Heap.SameBut.update ..).extBut _ _ n1 (k _ _ n4 (c3 _ _ n1 n2 n3 q))) (fin _ _ zg he)
theorem zaA {a b:Bool} {z TI TO i1 i2 l1 l2 T:Addr} {k1 k2:Nat} {xs ys:Array Value} {u v f1:Value} {oT:Obj} {Q:Fin->Shared->Prop} (hh:A.handled=none) (D:ZipApart z TI TO i1 i2 l1 l2) (hf:f1=.bool false\/f1=.bool true)
  (hz:IsZ s.heap z TI TO (rawInt T) f1) (hT:s.heap.get? T=some oT) (hTI:IsPair s.heap TI (.ref i1) (.ref i2)) (hTO:IsPair s.heap TO u v)
  (h1:mM a s.heap i1 l1 k1) (h2i:mM b s.heap i2 l2 k2) (hl1:hJ a s.heap l1 xs) (hl2:hJ b s.heap l2 ys) (hend:xs[k1]?=none\/ys[k2]?=none)
  (hE:∀ h' e,But4 z TO i1 i2 s.heap h'->zgG h' e->E (.ref e) { s with heap:=h' }) :
  wpAny (model prog w) A (zer z) Q E s:=by
 wp_walk using wC,zbv hz hf hT
 intro g z1 j1
 wp_walk using wC
 cases hx:xs[k1]? with
 |none =>
  refine mF hh (h1.eb j1.extBut D.i1z) (hl1.eb j1.extBut D.l1z) hx fun g' e k he=>?_;exact hE _ e (fun c o n1 _ n3 _ q=>k _ _ n3 (j1.extBut _ _ n1 q)) he
 |some x =>
  have hy:=hend.resolve_left (by rw [hx];exact Option.some_ne_none x);refine kI (h1.eb j1.extBut D.i1z) (hl1.eb j1.extBut D.l1z) hx fun h2 q1 k2=>?_
  wp_walk using wC
  have c2:∀ c o,c≠z->c≠i1->s.heap.get? c=some o->h2.get? c=some o:=fun c o n1 n2 e=>k2.extBut _ _ n2 (j1.extBut _ _ n1 e);refine mF hh (h2i.at fun o e=>c2 _ o D.i2z D.i12.symm e) (hl2.at fun o e=>c2 _ o D.l2z D.l2i1 e) hy fun g' e k he=>?_;exact hE _ e (fun c o n1 _ n3 n4 q=>k _ _ n4 (c2 _ _ n1 n3 q)) he
end
end PySem
namespace L2
open PySem PySem.Spec PyProof.Rows
structure TurnL (P:Program) (w:World) (K:PySem.W.Frag) (T:String) (J:It) (fp:List Addr) (it:Addr) (tn:Nat->Heap->Prop):Prop where
 mem:it∈fp
 ty:∀ i h,tn i h->∃ o,h.get? it=some o/\o.cls=.type T
 obj:∀ i h,tn i h->∀ b∈fp,∃ o,h.get? b=some o/\∀ v,o.data≠.cell v
 keep:∀ i h h',tn i h->(∀ b∈fp,∀ o,h.get? b=some o->h'.get? b=some o)->tn i h'
 item:∀ (X:Cx),X.prog=P->X.w=w->X.K=K->X.calm=true->∀ (i:Nat) (pins:List (Addr×Obj)) (s:Shared) (σ:St) (H:Hp) (E:Value->Shared->Prop),Inv X pins σ H s->(∀ b∈fp,vD X pins H b)->tn i s.heap->J.go i H ->
  wpAny (model P w) X.A (pyNext (.ref it)) (fun r s2=>∃ u x H',r=some u/\Inv X pins σ H' s2/\zD x u/\J.yld i H x H'/\tn (i+1) s2.heap/\∀ b∈fp,H' b=none) E s
 done:∀ (X:Cx),X.prog=P->X.w=w->X.K=K->X.calm=true->∀ (i:Nat) (pins:List (Addr×Obj)) (s:Shared) (σ:St) (H:Hp) (E:Value->Shared->Prop),Inv X pins σ H s->(∀ b∈fp,vD X pins H b)->tn i s.heap->J.stop i H ->
  wpAny (model P w) X.A (pyNext (.ref it)) (fun r s1=>r=none/\Inv X pins σ H s1) E s
 self:∀ (A:Around) (i:Nat) (s:Shared) (Q:Value->Shared->Prop) (E:Value->Shared->Prop),tn i s.heap->Q (.ref it) s->wpAny (model P w) A (pyIter (.ref it)) Q E s
 hint:∀ (A:Around) (i:Nat) (s:Shared) (Q:Bool->Shared->Prop) (E:Value->Shared->Prop),tn i s.heap->(∀ b,Q b s)->wpAny (model P w) A (Builtin.List.listLengthHint (.ref it)) Q E s
abbrev Cx.atA (X:Cx) (A:Around):Cx:={ X with A:=A }
theorem Cx.Ok.atA {X:Cx} (ok:X.Ok) {A:Around} (hf:A.frames=X.A.frames) (hh:A.handled=X.A.handled):(X.atA A).Ok :=
 ⟨ok.mod,ok.kind,ok.glob,ok.blt,ok.above,ok.inj,ok.has,ok.cab,fun z=>hh.trans (ok.hd z),hf.trans ok.frames,ok.stk,ok.exf,ok.bs,ok.bsz,ok.noex,ok.exfs,ok.funs,ok.frf⟩
section
variable {X : Cx} {pins : List (Addr × Obj)} {σ : St} {H : Hp} {s : Shared}
theorem Inv.atA (I:Inv X pins σ H s) {A:Around} (hf:A.frames=X.A.frames) (hh:A.handled=X.A.handled):Inv (X.atA A) pins σ H s :=
 ⟨I.ok.atA hf hh,I.os,I.bare,I.base,I.loc,I.cell,I.free,I.freeC,I.pin,I.hok,I.len,I.tk⟩
theorem Inv.unA {A:Around} (hf:A.frames=X.A.frames) (hh:A.handled=X.A.handled) (I:Inv (X.atA A) pins σ H s):Inv X pins σ H s :=
 ⟨Cx.Ok.atA (X:=X.atA A) (A:=X.A) I.ok hf.symm hh.symm,I.os,I.bare,I.base,I.loc,I.cell,I.free,I.freeC,I.pin,I.hok,I.len,I.tk⟩
theorem zfH {P:Program} {w:World} {A:Around} {R:Result->Shared->Prop} (S I:Addr) (res:Value) (Jn:Nat->Shared->Prop)
  (step:∀ k s,Jn k s->wpAny (model P w) A.in1 (pyNext (.ref I)) (fun r s'=>match r with
   |none=>R (.ok (.ret res)) s'
   |some v=>∃ its c,s'.heap.get? S=some (vL its c)/\its.length<sizeLine/\∀ h',Heap.SameBut S s'.heap h'->h'.get? S=some (vL (its++[v]) (c+1))->∃ k',k' < k/\Jn k' { s' with heap:=h' }) (fun e s'=>R (.error e) s') s) :
  ∀ k s,Jn k s->codeAny (model P w) A (.builtin "list.extend.loop" ⟨[.ref S,.ref I,res],[]⟩) R s:=by
 intro k
 induction k using Nat.strongRecOn with
 |_ k ih =>
  intro s j;refine codeAny_builtin F.entry_extend_loop ?_;rw [Around.under_plainId F.plain_extend_loop _];show wpAny _ A.in1 (pyNext (.ref I) >>= _) _ _ s;refine wpAny_bind (yH (step k s j) fun r s' q=>?_)
  cases r with
  |none=>exact wpAny_pure q
  |some v =>
   obtain ⟨its,c,hS,hl,q⟩:=q;show wpAny _ A.in1 (updateSeq S (·.push v) >>= _) _ _ _;refine wpAny_bind ?_;obtain ⟨k',hk,j'⟩:=q _ (Heap.SameBut.update ..) (by exact (Heap.get?_update_self (Obj.mapSeq (·.push v)) hS rfl).trans (by simp [Obj.mapSeq,vL]));exact wpAny_updateSeq hS rfl (wpAny_pure ⟨plainId_quiet F.plain_extend_loop _,ih k' hk _ j'⟩) (by show its.toArray.size<=sizeLine;rw [zzS];omega) (by show (its.toArray.push v).size<=sizeLine+1;rw [Array.size_push,zzS];omega)
theorem Inv.adopt {a:Addr} {o:HO} (I:Inv X pins σ H s) (off:Off X pins a) (hn:H a=none) (new:xU X.prog X.w (xI H a o) s.heap a o):Inv X pins σ (xI H a o) s:=by
 have b:=I.base;have nb:∀ b' ob,X.s₀.heap.get? b'=some ob->b'≠a:=fun b' ob e=>Nat.ne_of_lt (Nat.lt_of_lt_of_le (Heap.lt_size e) off.ge);refine ⟨I.ok,I.os,I.bare,⟨b.keep,b.slot,fun c ob e n hx=>?_,b.there,fun c xs e=>?_,fun c ob u e=>?_,fun c ps e=>?_⟩,I.loc,I.cell,?_,fun x c e=>?_,fun p hp=>?_,I.hok.adopt (fun c u v _ q=>q) hn new,I.len,I.tk⟩
 .rw [zB (nb c ob e)];exact b.free c ob e n hx
 .rw [zB (yN (b.tups c xs e) hn)];exact b.tups c xs e
 .rw [zB (yN (b.frzs c ob u e) hn)];exact b.frzs c ob u e
 .obtain ⟨mo,e'⟩:=b.tbls c ps e;exact ⟨mo,by rw [zB (yN e' hn)];exact e'⟩
 .rw [zB off.ne.symm];exact I.free
 .rw [zB (off.cl x c e)];exact I.freeC x c e
 .obtain ⟨q1,q2,q3⟩:=I.pin p hp;exact ⟨q1,by rw [zB (off.pn p hp)];exact q2,q3⟩
theorem zdt (hc:X.calm=true) {T:String} {J:It} {fp:List Addr} {it:Addr} {tn:Nat->Heap->Prop} {Q:VK} (hTl:(Value.type T==Value.type "list")=false) (hTt:(Value.type T==Value.type "tuple")=false)
  (I:Inv X pins σ H s) (Tn:TurnL X.prog X.w X.K T J fp it tn) (t0:tn 0 s.heap) (hf:∀ b∈fp,vD X pins H b) (n:Nat) (hn:n<=sizeLine) (W:Nat->List V->Hp->Prop) (w0:W 0 [] H)
  (wgo:∀ i acc H,i<n->W i acc H->J.go i H/\∀ x H',J.yld i H x H'->W (i+1) (acc++[x]) H') (wst:∀ acc H,W n acc H->J.stop n H/\∀ p,H p=none->Q (.ref p) (xI H p (.lst acc))) :
  wpAny (model X.prog X.w) X.A (call (.type "list") [.ref it]) (EP X pins σ Q) X.xe s:=by
 have hfp:∀ b∈fp,b<s.heap.objs.size:=fun b hb=>by
  obtain ⟨o,e,_⟩:=Tn.obj _ _ t0 b hb;exact Heap.lt_size e
 have hSf:∀ b∈fp,b≠s.heap.objs.size:=fun b hb=>Nat.ne_of_lt (hfp b hb);have hSI:s.heap.objs.size≠it:=(hSf it Tn.mem).symm;have off:Off X pins s.heap.objs.size:=I.off (zzR _);have nfs:s.heap.objs.size∉X.fs:=I.nofs (zzR _);have fr0:∀ b∈fp,H b=none:=fun b hb=>(hf b hb).1;have HS0:H s.heap.objs.size=none:=I.hok.fresh (zzR _)
 have fpok:∀ {H':Hp} {ob:Obj},(∀ b∈fp,H' b=none)->∀ b∈fp,vD X ((s.heap.objs.size,ob)::pins) H' b:=fun {H' ob} hn b hb=>by
  obtain ⟨q1,q2,q3,q4,q5,q6⟩:=hf b hb;refine ⟨hn b hb,q2,q3,q4,q5,fun p hp=>?_⟩;rcases List.mem_append.mp hp with hp|hp
  .exact q6 p (List.mem_append_left _ hp)
  .rcases List.mem_cons.mp hp with rfl|hp
   .exact (hSf b hb).symm
   .exact q6 p (List.mem_append_right _ hp)
 have pinS:∀ {H':Hp} {s':Shared} {its:List Value} {c:Nat},Inv X pins σ H' s'->H' s.heap.objs.size=none->s'.heap.get? s.heap.objs.size=some (vL its c)->Inv X ((s.heap.objs.size,vL its c)::pins) σ H' s':=fun {H' s' its c} I' hn e =>
  I'.pins_of fun p hp=>by
   rcases List.mem_cons.mp hp with rfl|hp
   .exact ⟨e,hn,off.ne,nfs,fun v z=>nomatch z⟩
   .exact I'.pin p (List.mem_append_right _ hp)
 have unpin:∀ {H':Hp} {s':Shared} {ob:Obj},Inv X ((s.heap.objs.size,ob)::pins) σ H' s'->Inv X pins σ H' s':=fun {H' s' ob} I'=>I'.pins_of fun p hp=>I'.pin p (List.mem_append_right _ (List.mem_cons_of_mem _ hp))
 refine callType_codes (Q₁:=fun obj s₁=>obj=.ref s.heap.objs.size/\s₁={ s with heap:=s.heap.push { cls:=.type "list", data:=.seq #[] } }) F.called_list (F.typeCall_list_1 _) F.entry_list_init
  (code_list_new _ ⟨rfl,rfl⟩) fun obj s₁ h₁=>?_
 obtain ⟨rfl,rfl⟩:=h₁;have hS:(s.heap.push { cls:=.type "list", data:=.seq #[] }).get? s.heap.objs.size=some { cls:=.type "list", data:=.seq #[] }:=Heap.get?_push_size _ rfl;refine ⟨⟨_,hS,rfl⟩,F.args_list_init_2 _ _,?_⟩
 have loop:∀ (h':Heap) (c:Nat),h'.get? s.heap.objs.size=some (vL [] c)->(∀ b o,s.heap.get? b=some o->h'.get? b=some o) ->
   codeAny (model X.prog X.w) X.A.in1 (.builtin "list.extend.loop" ⟨[.ref s.heap.objs.size,.ref it,.none],[]⟩) (wants (fun r s₂=>r=.none/\EP X pins σ Q (.ref s.heap.objs.size) s₂) X.xe) { s with heap:=h' }:=by
  intro h' c e0 k0
  refine zfH s.heap.objs.size it .none (fun k s'=>∃ i acc H' its c,k+i=n/\Inv X pins σ H' s'/\tn i s'.heap/\(∀ b∈fp,H' b=none)/\H' s.heap.objs.size=none/\s'.heap.get? s.heap.objs.size=some (vL its c)/\zE acc its/\acc.length<=i/\W i acc H') ?_ n _
   ⟨0,[],H,[],c,by omega,I.kept (t':=s.toks) k0,Tn.keep _ _ _ t0 fun b _ o e=>k0 b o e,fr0,HS0,e0,.nil,zzR _,w0⟩
  rintro k s' ⟨i,acc,H',its,c',hk,I',st,fr,hS',oS,v,la,wi⟩;have Ip:=(pinS I' hS' oS).atA (A:=X.A.in1.in1) rfl rfl
  by_cases hi:i<n
  .obtain ⟨go,yl⟩:=wgo i acc H' hi wi;refine yH (Tn.item (X.atA X.A.in1.in1) rfl rfl rfl hc i _ s' σ H' _ Ip (fpok fr) st go) fun r s2 ⟨u,x,H2,hr,I2,r2,y2,st2,fr2⟩=>?_;subst hr;have I2':=Inv.unA (X:=X) (A:=X.A.in1.in1) rfl rfl I2;have p2:=I2'.pin (s.heap.objs.size,vL its c') (List.mem_append_right _ (zzT ..));refine ⟨its,c',p2.1,by rw [← v.length];omega,fun h'' sb e''=>⟨k-1,by omega,i+1,acc++[x],H2,its++[u],c'+1,by omega,off.turned (unpin I2') p2.2.1 sb,Tn.keep _ _ _ st2 fun b hb o e=>sb.extBut b o (hSf b hb) e,fr2,p2.2.1,e'',v.append (.cons r2 .nil),by rw [zzW];show acc.length+1<=i+1;omega,yl x H2 y2⟩⟩
  .have hin:i=n:=by omega
   subst hin;obtain ⟨yQ,fin⟩:=wst acc H' wi;refine yH (Tn.done (X.atA X.A.in1.in1) rfl rfl rfl hc i _ s' σ H' _ Ip (fpok fr) st yQ) fun r s2 ⟨hr,I2⟩=>?_;subst hr;have I2':=Inv.unA (X:=X) (A:=X.A.in1.in1) rfl rfl I2;have p2:=I2'.pin (s.heap.objs.size,vL its c') (List.mem_append_right _ (zzT ..));exact ⟨rfl,.ref s.heap.objs.size,xI H' s.heap.objs.size (.lst acc),(unpin I2').adopt off hS' ⟨by omega,its,c',v,p2.1⟩,rfl,fin _ hS'⟩
 show wpAny _ X.A.in1.in1 (do let old ← Builtin.List.listItems (.ref s.heap.objs.size);Builtin.List.listUpdate (.ref s.heap.objs.size) (fun _=>#[]);letGo old.toList.reverse;Builtin.List.listExtendWith (.ref s.heap.objs.size) (.ref it) .none) _ _ _;refine wpAny_bind ?_;unfold Builtin.List.listItems;refine wpAny_bind (wpAny_seqItems hS rfl (wpAny_pure ?_));show wpAny _ X.A.in1.in1 (updateSeq s.heap.objs.size (fun _=>#[]) >>= fun _=>letGo (#[]:Array Value).toList.reverse >>= fun _=>Builtin.List.listExtendWith (.ref s.heap.objs.size) (.ref it) .none) _ _ _;refine wpAny_bind (wpAny_updateSeq hS rfl ?_);have hS₂:=Heap.get?_update_self (Obj.mapSeq (fun _=>(#[]:Array Value))) hS rfl;generalize hh2:(s.heap.push { cls:=.type "list", data:=.seq #[] }).update s.heap.objs.size (Obj.mapSeq (fun _=>(#[]:Array Value)))=h2 at *
 have k2:∀ b o,s.heap.get? b=some o->h2.get? b=some o:=fun b o e=>by
  rw [← hh2,Heap.get?_update_other _ _ (Nat.ne_of_gt (Heap.lt_size e))];exact Heap.get?_push_of_some _ e
 have tn2:tn 0 h2:=Tn.keep _ _ _ t0 fun b _ o e=>k2 b o e;refine wpAny_bind (wpAny_letGo ?_);unfold Builtin.List.listExtendWith;obtain ⟨oI,eI,cI⟩:=Tn.ty _ _ tn2;refine wpAny_bind (wpAny_typeOf (s:={ s with heap:=h2 }) ⟨oI,eI,cI⟩ ?_);have h1:Builtin.List.listSameRef (.ref s.heap.objs.size) (.ref it)=false:=by simp [Builtin.List.listSameRef,hSI]
 rw [if_neg (by rw [h1,hTl,hTt];decide)];refine wpAny_bind (Tn.self _ 0 { s with heap:=h2 } _ _ tn2 ?_);refine wpAny_bind (wpAny_holding (Tn.hint _ 0 { s with heap:=h2 } _ _ tn2 fun room=>?_));dsimp only
 split
 .refine wpAny_bind (wpAny_rule ?_);refine wpAny_bind ?_;show wpAny _ X.A.in1.in1 (updateSeq s.heap.objs.size (·.push .none) >>= fun _=>updateSeq s.heap.objs.size (·.pop)) _ _ _;refine wpAny_bind (wpAny_updateSeq hS₂ rfl ?_);have hS₃:=Heap.get?_update_self (Obj.mapSeq (·.push Value.none)) hS₂ rfl;refine wpAny_updateSeq (hz:=by seq_fits) hS₃ rfl ?_;have hS₄:=Heap.get?_update_self (Obj.mapSeq (·.pop)) hS₃ rfl;refine wpAny_pure ⟨plainId_quiet F.plain_extend_loop _,loop _ _ hS₄ fun b o e=>?_⟩;rw [Heap.get?_update_other _ _ (Nat.ne_of_gt (Heap.lt_size e)),Heap.get?_update_other _ _ (Nat.ne_of_gt (Heap.lt_size e))];exact k2 b o e
 .exact wpAny_pure ⟨plainId_quiet F.plain_extend_loop _,loop _ _ hS₂ k2⟩
end
end L2
namespace L2
open PySem PySem.Spec PyProof.Rows
def SqB (b:Bool) (K:PySem.W.Frag) (H:Hp) (a:Addr) (xs:List V):Prop:=match b with
 |true=>sO K H a xs
 |false=>pM K H a xs
theorem Inv.sqB {X:Cx} {pins:List (Addr×Obj)} {σ:St} {H:Hp} {s:Shared} {b:Bool} {a:Addr} {xs:List V} (I:Inv X pins σ H s) (h:SqB b X.K H a xs):∃ its:List Value,zE xs its/\hJ b s.heap a its.toArray/\xs.length<=sizeLine:=by
 cases b
 .obtain ⟨its,r,p,hz⟩:=I.list h;exact ⟨its,r,p.isList,hz⟩
 .obtain ⟨its,r,p,hz⟩:=I.tuple h;exact ⟨its,r,p,hz⟩
theorem Inv.sqB_inj {X:Cx} {pins:List (Addr×Obj)} {σ:St} {H:Hp} {s:Shared} {b:Bool} {a:Addr} {xs ys:List V} (I:Inv X pins σ H s) (h:SqB b X.K H a xs) (h':SqB b X.K H a ys):xs=ys:=by
 cases b
 .exact I.list_inj h h'
 .exact I.tuple_inj h h'
theorem Inv.turns {X:Cx} {pins:List (Addr×Obj)} {σ:St} {H:Hp} {s:Shared} {h':Heap} {t':Nat} {fp:List Addr} (I:Inv X pins σ H s) (hf:∀ b∈fp,vD X pins H b) (k:∀ b o,b∉fp->s.heap.get? b=some o->h'.get? b=some o) (ht:0<t':=by first|exact Nat.succ_pos _|exact L2.Inv.tk (by assumption)|exact L2.Inv.tk ‹L2.Inv _ _ _ _ _› | assumption|omega):Inv X pins σ H { s with heap:=h',toks:=t' }:=by
 have nit:∀ b u,H b=some u->b∉fp:=fun b u e z=>by rw [(hf b z).1] at e;cases e
 refine I.step (g':=s.gens) (d':=s.drawn) (ch:=fp) (fun b hb=>?_) (fun b o _ _ hc e _=>k b o hc e) (fun b o _ _ hc e _=>⟨o.slots,k b o hc e⟩) (fun _ _ _ _ n=>n)
  (fun b o hc e=>⟨o,k b o hc e⟩) (fun _ _ e=>e) (fun _ _ _ e=>e) (fun b ps e=>⟨#[],by rw [e];simp⟩) (fun m hm=>?_) (fun b u e=>?_) I.bare
 .obtain ⟨_,q2,q3,q4,q5,q6⟩:=hf b hb;exact ⟨q4,q2,q5,q6⟩
 .obtain ⟨o,es,ep,ho,r⟩:=hm;exact ⟨o,es,ep,k _ o (fun z=>(hf _ z).2.1 rfl) ho,r⟩
 .refine (I.hok b u e).stay (fun c v hc q=>k c v ?_ q) (fun _ q=>q) fun _ _ q=>q;rcases hc with z|z
  .rw [z];exact nit b u e
  .exact nit c _ z
def Itz (a b:Bool) (K:PySem.W.Frag) (l1 l2:Addr):It where
 go:=fun i H=>∃ xs ys x y,SqB a K H l1 xs/\SqB b K H l2 ys/\xs[i]?=some x/\ys[i]?=some y
 yld:=fun i H v H'=>∃ p x y,v=.ref p/\H p=none/\H'=xI H p (.tup [x,y])/\(∀ xs,SqB a K H l1 xs->xs[i]?=some x)/\∀ ys,SqB b K H l2 ys->ys[i]?=some y
 stop:=fun i H=>∃ xs ys,SqB a K H l1 xs/\SqB b K H l2 ys/\(xs[i]?=none\/ys[i]?=none)
def uV (a b:Bool) (z TI TO i1 i2 l1 l2:Addr) (i:Nat) (h:Heap):Prop :=
 ∃ f0 f1,IsZ h z TI TO f0 f1/\(f0=.none\/∃ T:Addr,f0=rawInt T)/\(f1=.bool false\/f1=.bool true)/\IsPair h TI (.ref i1) (.ref i2)/\(∃ u v,IsPair h TO u v)/\mM a h i1 l1 i/\mM b h i2 l2 i
section
variable {a b : Bool} {z TI TO i1 i2 l1 l2 : Addr}
theorem uV.obj {i:Nat} {h:Heap} (x:uV a b z TI TO i1 i2 l1 l2 i h):∀ c∈[z,TI,TO,i1,i2],∃ o,h.get? c=some o/\∀ v,o.data≠.cell v:=by
 obtain ⟨f0,f1,hz,_,_,hTI,⟨u,v,hTO⟩,⟨o1,e1,_,d1⟩,⟨o2,e2,_,d2⟩⟩:=x;intro c hc;simp only [List.mem_cons,List.not_mem_nil,or_false] at hc;rcases hc with rfl|rfl|rfl|rfl|rfl
 .exact ⟨_,hz,fun v z=>nomatch z⟩
 .exact ⟨_,hTI,fun v z=>nomatch z⟩
 .exact ⟨_,hTO,fun v z=>nomatch z⟩
 .exact ⟨_,e1,fun v z=>by rw [d1] at z;cases z⟩
 .exact ⟨_,e2,fun v z=>by rw [d2] at z;cases z⟩
theorem uV.keep {i:Nat} {h h':Heap} (x:uV a b z TI TO i1 i2 l1 l2 i h) (k:∀ c∈[z,TI,TO,i1,i2],∀ o,h.get? c=some o->h'.get? c=some o):uV a b z TI TO i1 i2 l1 l2 i h':=by
 obtain ⟨f0,f1,hz,h0,h1,hTI,⟨u,v,hTO⟩,s1,s2⟩:=x;exact ⟨f0,f1,k z (by simp) _ hz,h0,h1,k TI (by simp) _ hTI,⟨u,v,k TO (by simp) _ hTO⟩,s1.at fun o e=>k i1 (by simp) o e,s2.at fun o e=>k i2 (by simp) o e⟩
variable {X : Cx} {pins : List (Addr × Obj)} {σ : St} {H : Hp} {s : Shared}
theorem zbb (hd:[z,TI,TO,i1,i2].Nodup) (hf:∀ c∈[z,TI,TO,i1,i2],vD X pins H c) {xs ys:List V} (I:Inv X pins σ H s) (h1:SqB a X.K H l1 xs) (h2:SqB b X.K H l2 ys)
  (n1:l1∉[z,TI,TO,i1,i2]) (n2:l2∉[z,TI,TO,i1,i2]):ZipApart z TI TO i1 i2 l1 l2:=by
 simp only [List.nodup_cons,List.mem_cons,List.not_mem_nil,or_false,not_or,List.nodup_nil,not_false_eq_true,and_true] at hd n1 n2;obtain ⟨⟨a1,a2,a3,a4⟩,⟨b1,b2,b3⟩,⟨c1,c2⟩,d1⟩:=hd;obtain ⟨m1,m2,m3,m4,m5⟩:=n1;obtain ⟨k1,k2,k3,k4,k5⟩:=n2;exact ⟨Ne.symm a1,Ne.symm a2,Ne.symm a3,Ne.symm a4,b1,b2,b3,c1,c2,d1,m1,m3,m4,m5,k1,k3,k4,k5⟩
theorem zgI {E:Value->Shared->Prop} (hh:X.A.handled=none) (hd:[z,TI,TO,i1,i2].Nodup) (n1:l1∉[z,TI,TO,i1,i2]) (n2:l2∉[z,TI,TO,i1,i2]) {i:Nat} (I:Inv X pins σ H s) (hf:∀ c∈[z,TI,TO,i1,i2],vD X pins H c)
  (st:uV a b z TI TO i1 i2 l1 l2 i s.heap) (go:(Itz a b X.K l1 l2).go i H) :
  wpAny (model X.prog X.w) X.A (pyNext (.ref z)) (fun r s2=>∃ u x H',r=some u/\Inv X pins σ H' s2/\zD x u/\(Itz a b X.K l1 l2).yld i H x H'/\uV a b z TI TO i1 i2 l1 l2 (i+1) s2.heap/\(∃ T:Addr,u=.ref T/\T∉[z,TI,TO,i1,i2])/\∀ c∈[z,TI,TO,i1,i2],H' c=none) E s:=by
 obtain ⟨xs,ys,x,y,q1,q2,ex,ey⟩:=go;have D:=zbb hd hf I q1 q2 n1 n2;obtain ⟨itx,vx,sx,_⟩:=I.sqB q1;obtain ⟨ity,vy,sy,_⟩:=I.sqB q2;obtain ⟨ux,eux,rx⟩:=vx.get ex;obtain ⟨uy,euy,ry⟩:=vy.get ey;have hx:itx.toArray[i]?=some ux:=by simpa using eux
 have hy:ity.toArray[i]?=some uy:=by simpa using euy
 obtain ⟨f0,f1,hz,h0,h1,hTI,⟨u,v,hTO⟩,s1,s2⟩:=id st;have hT:s.TypeIs (.ref z) "zip" := ⟨_,hz,rfl⟩
 have lt:∀ c∈[z,TI,TO,i1,i2],c<s.heap.objs.size:=fun c hc=>by
  obtain ⟨o,e,_⟩:=st.obj c hc;exact Heap.lt_size e
 have new:s.heap.objs.size∉[z,TI,TO,i1,i2]:=fun hm=>Nat.lt_irrefl _ (lt _ hm)
 have fin:∀ (h':Heap),uV a b z TI TO i1 i2 l1 l2 (i+1) h'->IsPair h' s.heap.objs.size ux uy->h'.objs.size=s.heap.objs.size+1->(∀ c o,c∉[z,TI,TO,i1,i2]->s.heap.get? c=some o->h'.get? c=some o) ->
   ∃ u x H',(some (Value.ref s.heap.objs.size))=some u/\Inv X pins σ H' { s with heap:=h' }/\zD x u/\(Itz a b X.K l1 l2).yld i H x H'/\uV a b z TI TO i1 i2 l1 l2 (i+1) h'/\(∃ T:Addr,u=.ref T/\T∉[z,TI,TO,i1,i2])/\∀ c∈[z,TI,TO,i1,i2],H' c=none:=by
  intro h' st' pr sz k;have hn:H s.heap.objs.size=none:=I.hok.fresh (zzR _);have I1:Inv X pins σ H { s with heap:=h',toks:=s.toks }:=I.turns hf k;refine ⟨_,.ref s.heap.objs.size,xI H s.heap.objs.size (.tup [x,y]),rfl,?_,rfl,⟨_,x,y,rfl,hn,rfl,fun xs' q'=>by rw [I.sqB_inj q' q1];exact ex,fun ys' q'=>by rw [I.sqB_inj q' q2];exact ey⟩,st',⟨_,rfl,new⟩,fun c hc=>by rw [zB (fun e:c=s.heap.objs.size=>new (e▸hc))];exact (hf c hc).1⟩;exact I1.adopt (I.off (zzR _)) hn ⟨by show 2<=sizeLine;rw [sizeLine_eq];decide,[ux,uy],.cons rx (.cons ry .nil),⟨_,pr,rfl,_,rfl⟩⟩
 unfold pyNext
 have free:(f0=.none\/∃ T:Addr,f0=rawInt T/\s.heap.get? T=none)->wpAny (model X.prog X.w) X.A.in1 (Builtin.«zip.__next__» ⟨[.ref z],[]⟩) (fun fin s'=>∃ v,fin=.done (.ret v)/\∃ u x H',some v=some u/\Inv X pins σ H' s'/\zD x u/\(Itz a b X.K l1 l2).yld i H x H'/\uV a b z TI TO i1 i2 l1 l2 (i+1) s'.heap/\(∃ T:Addr,u=.ref T/\T∉[z,TI,TO,i1,i2])/\∀ c∈[z,TI,TO,i1,i2],H' c=none) (fun _ _=>False) s:=fun hfr=>by
  refine zgK D hfr hz hTI hTO s1 s2 sx sy hx hy fun h' a1 a2 a3 a4 a5 a6 a7=>fin h' ⟨_,_,a1,.inr ⟨_,rfl⟩,.inl rfl,a7 TI _ D.TIz D.TITO D.TIi1 D.TIi2 hTI,⟨_,_,a2⟩,a3,a4⟩ a5 a6 fun c o hc e=>?_;simp only [List.mem_cons,List.not_mem_nil,or_false,not_or] at hc;exact a7 c o hc.1 hc.2.2.1 hc.2.2.2.1 hc.2.2.2.2 e
 have held:∀ (T:Addr) (oT:Obj),f0=rawInt T->s.heap.get? T=some oT->wpAny (model X.prog X.w) X.A.in1 (Builtin.«zip.__next__» ⟨[.ref z],[]⟩) (fun fin s'=>∃ v,fin=.done (.ret v)/\∃ u x H',some v=some u/\Inv X pins σ H' s'/\zD x u/\(Itz a b X.K l1 l2).yld i H x H'/\uV a b z TI TO i1 i2 l1 l2 (i+1) s'.heap/\(∃ T:Addr,u=.ref T/\T∉[z,TI,TO,i1,i2])/\∀ c∈[z,TI,TO,i1,i2],H' c=none) (fun _ _=>False) s:=fun T oT e0 eT=>by
  subst e0;refine zgJ D h1 hz eT hTI hTO s1 s2 sx sy hx hy fun h' a1 a3 a4 a5 a6 a7=>fin h' ⟨_,_,a1,.inr ⟨_,rfl⟩,.inr rfl,a7 TI _ D.TIz D.TIi1 D.TIi2 hTI,⟨_,_,a7 TO _ D.TOz D.TOi1 D.TOi2 hTO⟩,a3,a4⟩ a5 a6 fun c o hc e=>?_;simp only [List.mem_cons,List.not_mem_nil,or_false,not_or] at hc;exact a7 c o hc.1 hc.2.2.2.1 hc.2.2.2.2 e
 refine wpAny_bind (wpAny_attempt (wpAny_callSpecial?_slot (name:=Str.ofString "__next__") hT F.slot_zip_next
  (wpAny_call_entry F.slot_zip_next hT F.entry_zip_next ?_ (F.args_zip_next_1 _))))
 have all:wpAny (model X.prog X.w) X.A.in1 (Builtin.«zip.__next__» ⟨[.ref z],[]⟩) (fun fin s'=>∃ v,fin=.done (.ret v)/\∃ u x H',some v=some u/\Inv X pins σ H' s'/\zD x u/\(Itz a b X.K l1 l2).yld i H x H'/\uV a b z TI TO i1 i2 l1 l2 (i+1) s'.heap/\(∃ T:Addr,u=.ref T/\T∉[z,TI,TO,i1,i2])/\∀ c∈[z,TI,TO,i1,i2],H' c=none) (fun _ _=>False) s:=by
  rcases h0 with e0|⟨T,e0⟩
  .exact free (.inl e0)
  .cases eT:s.heap.get? T with
   |none=>exact free (.inr ⟨T,e0,eT⟩)
   |some oT=>exact held T oT e0 eT
 refine wpAny_mono all (fun fin' s' ⟨v',e',q⟩=>⟨v',e',?_⟩) (fun _ _ z=>z.elim);exact wpAny_pure q
theorem zgL {E:Value->Shared->Prop} (hh:X.A.handled=none) (hd:[z,TI,TO,i1,i2].Nodup) (n1:l1∉[z,TI,TO,i1,i2]) (n2:l2∉[z,TI,TO,i1,i2]) {i:Nat} (I:Inv X pins σ H s) (hf:∀ c∈[z,TI,TO,i1,i2],vD X pins H c)
  (st:uV a b z TI TO i1 i2 l1 l2 i s.heap) (stop:(Itz a b X.K l1 l2).stop i H) :
  wpAny (model X.prog X.w) X.A (pyNext (.ref z)) (fun r s1=>r=none/\Inv X pins σ H s1) E s:=by
 obtain ⟨xs,ys,q1,q2,he⟩:=stop;have D:=zbb hd hf I q1 q2 n1 n2;obtain ⟨itx,vx,sx,_⟩:=I.sqB q1;obtain ⟨ity,vy,sy,_⟩:=I.sqB q2
 have hend:itx.toArray[i]?=none\/ity.toArray[i]?=none:=by
  rcases he with e|e
  .left;simpa using vx.none_of e
  .right;simpa using vy.none_of e
 obtain ⟨f0,f1,hz,h0,h1,hTI,⟨u,v,hTO⟩,s1,s2⟩:=id st;have hT:s.TypeIs (.ref z) "zip" := ⟨_,hz,rfl⟩;unfold pyNext
 have fin:∀ (h':Heap) (e:Addr),(∀ c o,c≠z->c≠TO->c≠i1->c≠i2->s.heap.get? c=some o->h'.get? c=some o)->(∃ o,h'.get? e=some o/\o.cls=.type "StopIteration") ->
   wpAny (model X.prog X.w) X.A (do if ← isInstance (.ref e) (.type "StopIteration") then pure none else throw (.ref e)) (fun (r:Option Value) s1=>r=none/\Inv X pins σ H s1) E { s with heap:=h' }:=fun h' e k ⟨o,ho,hc⟩=>by
  refine wpAny_bind (wpAny_isInstance (T := "StopIteration") (b:=true) ⟨o,ho,hc⟩ isSubtype_stop ?_);refine wpAny_pure ⟨rfl,I.turns (t':=s.toks) hf fun c o hc e=>?_⟩;simp only [List.mem_cons,List.not_mem_nil,or_false,not_or] at hc;exact k c o hc.1 hc.2.2.1 hc.2.2.2.1 hc.2.2.2.2 e
 refine wpAny_bind (wpAny_attempt (wpAny_callSpecial?_slot (name:=Str.ofString "__next__") hT F.slot_zip_next
  (wpAny_call_entry F.slot_zip_next hT F.entry_zip_next ?_ (F.args_zip_next_1 _))))
 rcases h0 with e0|⟨T,e0⟩
 .exact pJ hh D (.inl e0) hz hTI hTO s1 s2 sx sy hend fun h' e k he=>fin h' e k he
 .cases eT:s.heap.get? T with
  |none=>exact pJ hh D (.inr ⟨T,e0,eT⟩) hz hTI hTO s1 s2 sx sy hend fun h' e k he=>fin h' e k he
  |some oT =>
   subst e0;exact zaA hh D h1 hz eT hTI hTO s1 s2 sx sy hend fun h' e k he=>fin h' e k he
theorem zcy {P:Program} {w:World} {A:Around} {i:Nat} {s:Shared} {Q:Value->Shared->Prop} {E:Value->Shared->Prop} (st:uV a b z TI TO i1 i2 l1 l2 i s.heap) (h:Q (.ref z) s):wpAny (model P w) A (pyIter (.ref z)) Q E s:=by
 obtain ⟨f0,f1,hz,_⟩:=st;have hT:s.TypeIs (.ref z) "zip" := ⟨_,hz,rfl⟩;refine wpAny_pyIter_slot hT F.slot_zip_iter (wpAny_call_entry F.slot_zip_iter hT F.entry_zip_iter ?_ (F.args_zip_iter_1 _));show wpAny _ _ (ret (.ref z)) _ _ s;exact wpAny_pure ⟨_,rfl, "zip", _,hT,F.slot_zip_next.lookup,h⟩
end
end L2
namespace L3
open PySem PySem.Spec PyProof.Rows L2
structure Pr where
 prog:Program
 w:World
 K:yL
 mg:Str->Option Value
 base:Heap
abbrev Pr.at (q:Pr) (A:Around):Par:=⟨q.prog,q.w,q.K,q.mg,q.base,A⟩
def vC (K:yL) (sp:uU):Sp:=fun vs H Q E=>∃ ws G,zF K H ws vs/\xR K H G/\sp ws G (kE K H Q) XN
def yO (N:List Str) (ws:List W):jM:=ws.map some++List.replicate (N.length-ws.length) none
theorem zcM {K:yL} {H:Hp} {N:List Str} {ws:List W} {vs:List V} (r:zF K H ws vs):yM K H (yO N ws) (L2.start N vs):=by
 have hl:=r.length;refine ⟨by simp [yO,L2.start,hl],fun i w e=>?_⟩;unfold yO at e;unfold L2.start
 by_cases hi:i<ws.length
 .rw [List.getElem?_append_left (by simpa using hi),List.getElem?_map] at e
  cases q:ws[i]? with
  |none=>rw [q] at e;cases e
  |some w' =>
   rw [q] at e;obtain rfl:w'=w:=Option.some.inj (Option.some.inj e);obtain ⟨v,ev,rp⟩:=r.get q;refine ⟨v,?_,rp⟩;rw [List.getElem?_append_left (by simp;omega),List.getElem?_map,ev];rfl
 .rw [List.getElem?_append_right (by simp;omega),List.getElem?_replicate] at e
  split at e<;>cases e
structure MOk (Γ:Ctx3) (M:MC) (sc:Scope):Prop where
 sc:M.sc=sc
 own:M.own=fun _=>true
 fns:Γ.fn.map (·.nm)=M.fns
 gls:Γ.gl.map (·.1)=M.gls
 mts:Γ.mt.map (·.nm)=M.mts
 its:Γ.it.map (·.nm)=M.its
 sxs:Γ.sx.map (·.m)=M.sxm
 ixs:Γ.ix.map (·.m)=M.ixm
def FnE (p:Par) (f:Fn3):Prop:=∀ X,Fits p X->Gl X f.nm->∀ (args:List Expr) (t:A3) (q pos:Pos),vA t->args.all xJ=true->PA X args (rS X.K t)->(args=[]->∀ σ G Q,t σ G Q->Q [] G)->(f.nm==("__debug__" : Str))=false->f.nm ≠ "__name__" ->
  PE X (.Call (.Name f.nm q) args [] pos) (yB X.K fun σ G Q=>t σ G fun ws G1=>f.sp ws G1 Q XN)
theorem xA {e:Expr} {es:List Expr} {env:Env} {pos:Pos} (h:(e::es).all xJ=true):starEach (e::es) env=(false,eval e env)::starEach es env/\(backTo pos (starEach es env)).any (·.1)=false:=by
 rw [List.all_cons,Bool.and_eq_true] at h;refine ⟨qD h.1,?_⟩;have h2:=h.2
 clear h
 induction es with
 |nil=>rfl
 |cons a r ih =>
  rw [List.all_cons,Bool.and_eq_true] at h2;rw [qD h2.1];show (false || (backTo pos (starEach r env)).any (·.1))=false;rw [ih h2.2];rfl
theorem Fits.eq {p:Par} {X:Cx} (f:Fits p X):p=⟨X.prog,X.w,X.K,X.mg,X.base,X.A⟩:=by
 obtain ⟨e1,e2,e3,e4,e5,e6,_,_⟩:=f;rw [e1,e2,e3,e4,e5,e6]
theorem pa_sp {X:Cx} {args:List Expr} {t:A3} {sp:uU} {dws:List W} {dvs:List V} (m:vA t) (hd:∀ H,zF X.K H dws dvs) (mono:∀ ws G (Q Q':Q3),(∀ w G',Q w G'->Q' w G')->sp ws G Q XN->sp ws G Q' XN) {τ:L2.St} {H:Hp} {Q:VK} {E:XK}
  (h:yB X.K (fun σ G Q=>t σ G fun ws G1=>sp (ws++dws) G1 Q XN) τ H Q):zgU (vC X.K sp) dvs E (rS X.K t) τ H Q:=by
 obtain ⟨σ,G,hs,ab,h⟩:=h;refine nX m hs ab h fun ws G1 vs H1 g1 hs1 rs a1 h=>?_;exact ⟨ws++dws,G1,rs.append (hd H1),a1,mono _ _ _ _ (fun w G' z v' H' g'=>z v' H' (g1.trans g')) h⟩
theorem zkw {q:Pr} {k:Nat} {nm:Str} {f:Addr} {fd:FuncData} {ps:List Str} {ds:List Value} {dvs:List V} {dws:List W} {sp:uU} (FO:FnOk q.prog q.w q.K q.mg q.base CX0 k f fd ps (vC q.K sp)) (hm:q.mg nm=some (.ref f)) (hk:PySem.W.keepIn q.K (.ref f)=true)
  (hb:tD q.K fd ps ds) (hd:∀ H,zF q.K H dws dvs) (hv:zE dvs ds) (mono:∀ ws G (Q Q':Q3),(∀ w G',Q w G'->Q' w G')->sp ws G Q XN->sp ws G Q' XN) {A:Around} (hr:Room k A):FnE (q.at A) ⟨nm,fun ws G Q _=>sp (ws++dws) G Q XN⟩:=by
 intro X fits gl args t qp pos mt hn pa hnil hdb hnm;have e:=fits.eq
 injection e with e1 e2 e3 e4 e5 e6
 subst e6;rw [e1,e2,e3,e4,e5] at FO;rw [e4] at hm;rw [e3] at hk hb hd
 cases args with
 |nil =>
  refine (zfc (p:=qp) (pos:=pos) FO hr gl hm hk hb hv zhr hdb).imp fun τ H Q h=>?_;obtain ⟨σ,G,hs,ab,h⟩:=h;have h:=hnil rfl _ _ _ h;exact ⟨dws,G,hd H,ab,h⟩
 |cons a r =>
  obtain ⟨s1,s2⟩:=xA (env:=X.env) (pos:=pos) hn;exact (zhp (p:=qp) (pos:=pos) FO hr gl hm hk hb hv zhr pa hdb s1 s2).imp fun τ H Q h=>pa_sp (args:=a::r) mt hd mono h
end L3
namespace L3
open PySem PySem.Spec PyProof.Rows L2 PySem.SeqAt
abbrev RS:=List W->Hw->Q3->Prop
def wG (sp:RS):Prop:=∀ ws G (Q Q':Q3),(∀ w G',Q w G'->Q' w G')->sp ws G Q->sp ws G Q'
def pS (K:yL) (sp:RS):List V->Hp->VK->Prop:=fun vs H Q=>∃ ws G,zF K H ws vs/\xR K H G/\sp ws G (kE K H Q)
theorem zaR {X:Cx} {t:A3} {sp:RS} (mt:vA t) (mono:wG sp) {τ:L2.St} {H:Hp} {Q:VK} (h:yB X.K (fun σ G Q=>t σ G fun ws G1=>sp ws G1 Q) τ H Q):tCB (pS X.K sp) (rS X.K t) τ H Q:=by
 obtain ⟨σ,G,hs,ab,h⟩:=h;exact nX mt hs ab h fun ws G1 vs H1 g1 hs1 rs a1 h=>⟨ws,G1,rs,a1,mono _ _ _ _ (fun w G' z v' H' g'=>z v' H' (g1.trans g')) h⟩
theorem dX {q:Pr} {A:Around} {nm:Str} {id:String} {sp:RS} (hm:q.mg nm=none) (hv:bootBuiltins nm=some (.builtin id)) (hc:∀ X,Fits (q.at A) X->jB X (.builtin id) (pS X.K sp)) (mono:wG sp) (h0:∀ G Q,¬ sp [] G Q):FnE (q.at A) ⟨nm,fun ws G Q _=>sp ws G Q⟩:=by
 intro X fits gl args t qp pos mt hn pa hnil hdb hnm;have hm':X.mg nm=none:=by rw [fits.mg];exact hm
 cases args with
 |nil=>exact fun pins s σ H Q I h=>absurd (hnil rfl _ _ _ h.choose_spec.choose_spec.2.2) (h0 _ _)
 |cons a r =>
  obtain ⟨s1,s2⟩:=xA (env:=X.env) (pos:=pos) hn;exact (zfb (p:=qp) (pos:=pos) (hc X fits) gl hm' hv pa hnm hdb s1 s2).imp fun τ H Q h=>zaR mt mono h
theorem fn_ty {q:Pr} {A:Around} {nm:Str} {T:String} {sp:RS} (hm:q.mg nm=none) (hv:bootBuiltins nm=some (.type T)) (hc:∀ X,Fits (q.at A) X->jB X (.type T) (pS X.K sp)) (mono:wG sp) (h0:∀ G Q,¬ sp [] G Q):FnE (q.at A) ⟨nm,fun ws G Q _=>sp ws G Q⟩:=by
 intro X fits gl args t qp pos mt hn pa hnil hdb hnm;have hm':X.mg nm=none:=by rw [fits.mg];exact hm
 cases args with
 |nil=>exact fun pins s σ H Q I h=>absurd (hnil rfl _ _ _ h.choose_spec.choose_spec.2.2) (h0 _ _)
 |cons a r =>
  obtain ⟨s1,s2⟩:=xA (env:=X.env) (pos:=pos) hn;exact (zda (p:=qp) (pos:=pos) (hc X fits) gl hm' hv pa hnm hdb s1 s2).imp fun τ H Q h=>zaR mt mono h
abbrev MS:=W->List W->Hw->Q3->Prop
def MtE (p:Par) (m:Mt3):Prop:=∀ X,Fits p X->∀ (o:Expr) (args:List Expr) (to:E3) (t:A3) (apos cpos:Pos),wA to->vA t->nV o=true->(apos.endLine==cpos.line)=true->args.length<25->args.all xJ=true ->
  PE X o (yB X.K to)->PA X args (rS X.K t)->(args=[]->∀ σ G Q,t σ G Q->Q [] G)->PE X (.Call (.Attribute o m.nm apos) args [] cpos) (yB X.K fun σ G Q=>to σ G fun x G1=>tyW G1 x m.T/\t σ G1 fun ws G2=>m.sp x ws G2 Q)
def lowM (K:yL) (sp:MS):V->List V->Hp->VK->Prop:=fun x vs H Q=>∃ w ws G,xN K H w x/\zF K H ws vs/\xR K H G/\sp w ws G (kE K H Q)
theorem dW {args:List Expr} {env:Env} {pos:Pos} (h:args.all xJ=true):(backTo pos (starEach args env)).all (fun x=>!x.1)=true:=by
 induction args with
 |nil=>rfl
 |cons a r ih =>
  rw [List.all_cons,Bool.and_eq_true] at h;rw [qD h.1];show (true&&(backTo pos (starEach r env)).all (fun x=>!x.1))=true;rw [ih h.2];rfl
theorem fR {p:Par} {nm:Str} {T id:String} {sp:MS} (pa:PlainAttrs T) (slot:Slot T nm id) (hty:typeOf (.builtin id)=pure (.type "method_descriptor")) (hm:∀ X,Fits p X->MtR X id (lowM X.K sp))
  (mono:∀ x ws G (Q Q':Q3),(∀ w G',Q w G'->Q' w G')->sp x ws G Q->sp x ws G Q'):MtE p ⟨nm,T,sp⟩:=by
 intro X fits o args to t apos cpos mo mt ho hline hlen hn po pa' hnil
 cases args with
 |nil =>
  refine (zjC pa slot hty (hm X fits) po (qF ho) hline).imp fun τ H Q h=>?_;obtain ⟨σ,G,hs,ab,h⟩:=h;refine yF mo hs ab h fun w G1 v H1 g1 hs1 rw1 a1 h=>⟨zfZ rw1 a1 h.1,w,[],G1,rw1,rfl,a1,mono _ _ _ _ _ (fun w' G' z v' H' g'=>z v' H' (g1.trans g')) (hnil rfl _ _ _ h.2)⟩
 |cons a r =>
  obtain ⟨s1,s2⟩:=xA (env:=X.env) (pos:=cpos) hn;refine (pe_bm pa slot hty (hm X fits) po pa' (qF ho) ?_ hline s1 s2).imp fun τ H Q h=>?_
  .rw [dW hn]
   have:(a::r).length+([]:List Keyword).length+(if ([]:List Keyword).isEmpty then 0 else 1)<30:=by
    show (a::r).length+0+0<30;omega
   rw [decide_eq_true this];rfl
  .obtain ⟨σ,G,hs,ab,h⟩:=h;refine yF mo hs ab h fun w G1 v H1 g1 hs1 rw1 a1 h=>⟨zfZ rw1 a1 h.1,?_⟩;exact nX mt hs1 a1 h.2 fun ws G2 vs H2 g2 hs2 rs a2 h=>⟨w,ws,G2,rw1.mono g2,rs,a2,mono _ _ _ _ _ (fun w' G' z v' H' g'=>z v' H' (g1.trans (g2.trans g'))) h⟩
def maxS:RS:=fun ws G Q=>match ws with
 | [.int i,.int j]=>Q (.int (if j > i then j else i)) G
 |_=>False
theorem bJ:wG maxS:=by
 intro ws G Q Q' k h;unfold maxS at h ⊢
 split at h
 .exact k _ _ h
 .exact h.elim
theorem zeV {K:yL} {H:Hp} {a b:W} {vs:List V} (r:zF K H [a,b] vs):∃ x y,vs=[x,y]/\xN K H a x/\xN K H b y:=by
 obtain ⟨x,t,rfl,rx,y,t',rfl,ry,rt⟩:=r;cases (show t'=[] from rt);exact ⟨x,y,rfl,rx,ry⟩
theorem kH {K:yL} {H:Hp} {a:W} {vs:List V} (r:zF K H [a] vs):∃ x,vs=[x]/\xN K H a x:=by
 obtain ⟨x,t,rfl,rx,rt⟩:=r;cases (show t=[] from rt);exact ⟨x,rfl,rx⟩
theorem zjQ {X:Cx} (hc:X.calm=true):jB X (.builtin "max") (pS X.K maxS):=by
 intro pins s σ H xs us Q I r h;obtain ⟨ws,G,rs,ab,h⟩:=h;unfold maxS at h
 split at h
 .rename_i i j;obtain ⟨x,y,rfl,rx,ry⟩:=zeV rs;cases (show x=.int i from rx);cases (show y=.int j from ry);exact zee hc pins s σ H _ us Q I r ⟨i,j,rfl,h _ H .refl rfl ab⟩
 .exact h.elim
def mW (G:Hw):W->Option Nat
 | .str x=>if x.length<=sizeLine then some x.length else none
 | .tup ws=>some ws.length
 | .ref p=>match G p with
  |some (.lst ws)=>some ws.length
  |some (.fix ws)=>some ws.length
  |some (.dic kvs)=>some kvs.length
  |_=>none
 |_=>none
def mU:RS:=fun ws G Q=>match ws with
 | [x]=>(match mW G x with|some n=>Q (.int n) G|none=>False)
 |_=>False
theorem bH:wG mU:=by
 intro ws G Q Q' k h;unfold mU at h ⊢
 split at h
 .split at h
  .exact k _ _ h
  .exact h.elim
 .exact h.elim
theorem zhE {X:Cx}:jB X (.builtin "len") (fun xs H Q=>∃ a kvs,xs=[V.ref a]/\H a=some (.dK kvs)/\Q (.int kvs.length) H):=by
 intro pins s σ H xs us Q I r h;obtain ⟨a,kvs,rfl,ha,q⟩:=h;obtain ⟨u,rfl,ru⟩:=kM r;cases ru;exact d_len I (.inl ha) fun t s' I'=>⟨.int kvs.length,H,I',⟨t,rfl⟩,q⟩
theorem zjV {X:Cx}:jB X (.builtin "len") (pS X.K mU):=by
 intro pins s σ H xs us Q I r h;obtain ⟨ws,G,rs,ab,h⟩:=h;unfold mU at h
 split at h
 .rename_i w;obtain ⟨v,rfl,rv⟩:=kH rs
  split at h
  .rename_i n hn;have q:Q (.int n) H:=h (.int n) H .refl rfl ab
   cases w with
   |str x =>
    cases (show v=.str x from rv);simp only [mW] at hn
    split at hn
    .rename_i hl;cases hn;exact zas pins s σ H _ us Q I r ⟨x,rfl,hl,q⟩
    .cases hn
   |tup ws' =>
    obtain ⟨a,vs,rfl,sq,rr⟩:=rv;simp only [mW] at hn;cases hn;exact vJ pins s σ H _ us Q I r ⟨a,vs,rfl,.inr sq,by rw [rr.length];exact q⟩
   |ref p =>
    cases (show v=.ref p from rv);simp only [mW] at hn
    split at hn
    .rename_i ws' e;cases hn;obtain ⟨vs,sq,rr⟩:=ab.seq (show yU G p=some ws' by unfold yU;rw [e]);exact vJ pins s σ H _ us Q I r ⟨p,vs,rfl,.inl sq,by rw [rr.length];exact q⟩
    .rename_i ws' e;cases hn;obtain ⟨vs,sq,rr⟩:=ab.seq (show yU G p=some ws' by unfold yU;rw [e]);exact vJ pins s σ H _ us Q I r ⟨p,vs,rfl,.inl sq,by rw [rr.length];exact q⟩
    .rename_i kvs e;cases hn;obtain ⟨l,e',rl⟩:=ab.dic e;exact zhE pins s σ H _ us Q I r ⟨p,l,rfl,e',by rw [rl.length];exact q⟩
    .cases hn
   |_=>simp [mW] at hn
  .exact h.elim
 .exact h.elim
def qK (G:Hw):W->Option (List W)
 | .tup ws=>some ws
 | .ref p=>yU G p
 |_=>none
def lstS:RS:=fun ws G Q=>match ws with
 | [x]=>(match qK G x with|some xs=>∀ p,G p=none->Q (.ref p) (put G p (.lst xs))|none=>False)
 |_=>False
theorem bI:wG lstS:=by
 intro ws G Q Q' k h;unfold lstS at h ⊢
 split at h
 .split at h
  .exact fun p hp=>k _ _ (h p hp)
  .exact h.elim
 .exact h.elim
theorem zg0 {K:yL} {H:Hp} {G:Hw} {w:W} {v:V} {xs:List W} (ab:xR K H G) (r:xN K H w v) (e:qK G w=some xs):∃ a vs b,v=.ref a/\SqB b K H a vs/\zF K H xs vs:=by
 cases w with
 |tup ws =>
  obtain ⟨a,vs,rfl,sq,rr⟩:=r;cases e;exact ⟨a,vs,true,rfl,sq,rr⟩
 |ref p =>
  cases (show v=.ref p from r);obtain ⟨vs,sq,rr⟩:=ab.seq e;exact ⟨p,vs,false,rfl,sq,rr⟩
 |_=>cases e
theorem zjS {X:Cx}:jB X (.type "list") (pS X.K lstS):=by
 intro pins s σ H xs us Q I r h;obtain ⟨ws,G,rs,ab,h⟩:=h;unfold lstS at h
 split at h
 .rename_i w;obtain ⟨v,rfl,rv⟩:=kH rs
  split at h
  .rename_i ys hy;obtain ⟨a,vs,b,rfl,sq,rr⟩:=zg0 ab rv hy;refine zar pins s σ H _ us Q I r ⟨a,vs,rfl,?_,jQ ab rr h⟩;cases b
   .exact .inl sq
   .exact .inr sq
  .exact h.elim
 .exact h.elim
def allS (f:List Bool->Bool):RS:=fun ws G Q=>match ws with
 | [.ref p]=>∃ bs:List Bool,yU G p=some (bs.map .bl)/\Q (.bl (f bs)) G
 |_=>False
theorem zaz (f:List Bool->Bool):wG (allS f):=by
 intro ws G Q Q' k h;unfold allS at h ⊢
 split at h
 .obtain ⟨bs,e,h⟩:=h;exact ⟨bs,e,k _ _ h⟩
 .exact h.elim
theorem dO {K:yL} {H:Hp}:∀ {bs:List Bool} {vs:List V} {us:List Value},zF K H (bs.map .bl) vs->zE vs us->us=bs.map .bool
 | [],vs,us,r,v=>by cases (show vs=[] from r);cases v;rfl
 |b::bs,vs,us,r,v=>by
  obtain ⟨x,t,rfl,rx,rt⟩:=r;cases (show x=.bl b from rx)
  cases v with
  |cons a c =>
   cases (show _=Value.bool b from a);rw [dO rt c];rfl
theorem zep (bs:List Bool):(List.range bs.length).all (fun i=>(bs[i]?).getD false)=bs.all id:=by
 rw [Bool.eq_iff_iff,List.all_eq_true,List.all_eq_true]
 constructor
 .intro h b hb;obtain ⟨i,hi,rfl⟩:=List.mem_iff_getElem.mp hb;have:=h i (List.mem_range.mpr hi)
  rwa [List.getElem?_eq_getElem hi] at this
 .intro h i hi;have hi:=List.mem_range.mp hi;rw [List.getElem?_eq_getElem hi];exact h _ (List.getElem_mem hi)
theorem zfT {X:Cx} (hc:X.calm=true) {pins:List (Addr×Obj)} {s:Shared} {σ:L2.St} {H:Hp} {G:Hw} {p:Addr} {bs:List Bool} (I:Inv X pins σ H s) (ab:xR X.K H G) (e:yU G p=some (bs.map .bl)) {A:Around} (hh:A.handled=none) {E:Value->Shared->Prop}
  {R:Value->Shared->Prop} (h:∀ (I':Addr) (s₂:Shared),Walks X.prog X.w A I' [I',p] [I'] bs.length (fun i v=>(bs.map Value.bool).toArray[i]?=some v) (fun i h=>h.IsListIter I' p i/\h.IsList p (bs.map Value.bool).toArray)->(s₂.heap.IsListIter I' p 0/\s₂.heap.IsList p (bs.map Value.bool).toArray) ->
   (∀ h' tk,(∀ b o,b∉[I']->s₂.heap.get? b=some o->h'.get? b=some o)->0<tk->Inv X pins σ H { s₂ with heap:=h',toks:=tk })->R (.ref I') s₂):wpAny (model X.prog X.w) A (pyIter (.ref p)) R E s:=by
 obtain ⟨vs,sq,rr⟩:=ab.seq e;obtain ⟨its,rv,pl,hz⟩:=I.list sq;have eits:=dO rr rv;subst eits;have hl:=pl.isList;refine wpAny_pyIter_list hl ?_
 have hne:p≠s.heap.objs.size:=by
  obtain ⟨o,ho,_⟩:=hl;exact Nat.ne_of_lt (Heap.lt_size ho)
 have W:=Walks.list (prog:=X.prog) (w:=X.w) hh s.heap.objs.size p hne (bs.map Value.bool).toArray;have hn:(bs.map Value.bool).toArray.size=bs.length:=by simp
 rw [hn] at W;refine h _ _ W ⟨⟨_,Heap.get?_push_size _ rfl,rfl,rfl⟩,hl.push _⟩ fun h' tk k h0=>I.kept (fun b o e=>k b o (fun hm=>?_) (Heap.get?_push_of_some _ e)) h0;rw [List.mem_singleton] at hm;exact Nat.ne_of_lt (Heap.lt_size e) hm
theorem zev {P:Program} {w:World} {A:Around} {bs:List Bool}:TruthOf P w A (fun i v=>(bs.map Value.bool).toArray[i]?=some v) (fun i=>(bs[i]?).getD false):=by
 intro i v s Q E h q;have h':(bs[i]?).map Value.bool=some v:=by simpa using h
 cases e:bs[i]? with
 |none=>rw [e] at h';cases h'
 |some b =>
  rw [e] at h';cases h';have q':Q ((bs[i]?).getD false) s:=q;rw [e] at q';exact wpAny_truthy_bool q'
theorem zkL {X:Cx} (hc:X.calm=true):jB X (.builtin "all") (pS X.K (allS (·.all id))):=by
 intro pins s σ H xs us Q I r h;obtain ⟨ws,G,rs,ab,h⟩:=h;unfold allS at h
 split at h
 .rename_i p;obtain ⟨v,rfl,rv⟩:=kH rs;cases (show v=.ref p from rv);obtain ⟨bs,e,h⟩:=h;obtain ⟨u,rfl,ru⟩:=kM r;cases ru;refine wH I.tk (call_all_walk (zfT hc I ab e (A:=X.A.in1) (I.ok.hd hc) fun I' s₂ W st k=>⟨I',_,_,_,_,_,_,rfl,W,st,zev,fun h' tk hk h0=>?_⟩));rw [zep];exact ⟨.bl (bs.all id),H,k h' tk hk h0,rfl,h _ H .refl rfl ab⟩
 .exact h.elim
def tyO (G:Hw):W->Option String
 | .non=>some "NoneType"
 | .bl _=>some "bool"
 | .int _=>some "int"
 | .str _=>some "str"
 | .tup _=>some "tuple"
 | .ref p=>match G p with
  |some (.lst _)=>some "list"
  |some (.fix _)=>some "list"
  |some (.dic _)=>some "dict"
  |_=>none
 |_=>none
def isiS (K:yL):RS:=fun ws G Q=>match ws with
 | [x,.ty T]=>∃ T' b,tyO G x=some T'/\PySem.W.kitOne K (.type T') (.type T)=some b/\Q (.bl b) G
 |_=>False
theorem bB (K:yL):wG (isiS K):=by
 intro ws G Q Q' k h;unfold isiS at h ⊢
 split at h
 .obtain ⟨T',b,e,e',h⟩:=h;exact ⟨T',b,e,e',k _ _ h⟩
 .exact h.elim
theorem zkm {X:Cx}:jB X (.builtin "isinstance") (pS X.K (isiS X.K)):=by
 intro pins s σ H xs us Q I r h;obtain ⟨ws,G,rs,ab,h⟩:=h;unfold isiS at h
 split at h
 .rename_i w T;obtain ⟨v,y,rfl,rv,ry⟩:=zeV rs;cases (show y=.ty T from ry);obtain ⟨u,c,rfl,ru,rc⟩:=zet r;cases (show c=Value.type T from rc);obtain ⟨T',b,ty,e,h⟩:=h;have q:∀ tk,0<tk->EP X pins σ Q (.bool b) { s with toks:=tk }:=fun tk h0=>⟨.bl b,H,I.tok _ h0,rfl,h _ H .refl rfl ab⟩
  cases w with
  |non=>cases ty;cases (show v=.non from rv);exact wH I.tk (kD I ru .non e q)
  |bl x=>cases ty;cases (show v=.bl x from rv);exact wH I.tk (kD I ru (.bl x) e q)
  |int x=>cases ty;cases (show v=.int x from rv);exact wH I.tk (kD I ru (.int x) e q)
  |str x=>cases ty;cases (show v=.str x from rv);exact wH I.tk (kD I ru (.str x) e q)
  |tup ws' =>
   cases ty;obtain ⟨a,vs,rfl,sq,rr⟩:=rv;cases (show u=Value.ref a from ru);obtain ⟨its,_,p,_⟩:=I.tuple sq;obtain ⟨o,h1,h2,_⟩:=p;exact wH I.tk (PySem.W.kia_one PySem.W.kitx_tuple I.kIn ⟨o,h1,h2⟩ e (fun z=>nomatch z) q)
  |ref p =>
   cases (show v=.ref p from rv);cases (show u=Value.ref p from ru);simp only [tyO] at ty
   split at ty
   .rename_i ws' eg;cases ty;obtain ⟨vs,sq,rr⟩:=ab.seq (show yU G p=some ws' by unfold yU;rw [eg]);obtain ⟨its,_,pl,_⟩:=I.list sq;obtain ⟨o,ho,hc,_⟩:=pl.isList;exact wH I.tk (PySem.W.kia_one PySem.W.kitx_list I.kIn ⟨o,ho,hc⟩ e (fun z=>nomatch z) q)
   .rename_i ws' eg;cases ty;obtain ⟨vs,sq,rr⟩:=ab.seq (show yU G p=some ws' by unfold yU;rw [eg]);obtain ⟨its,_,pl,_⟩:=I.list sq;obtain ⟨o,ho,hc,_⟩:=pl.isList;exact wH I.tk (PySem.W.kia_one PySem.W.kitx_list I.kIn ⟨o,ho,hc⟩ e (fun z=>nomatch z) q)
   .rename_i kvs eg;cases ty;obtain ⟨l,e',rl⟩:=ab.dic eg;exact wH I.tk (kD (x:=.ref p) (u:=Value.ref p) I rfl (.dK e') e q)
   .cases ty
  |_=>cases ty
 .exact h.elim
def gD:MS:=fun x ws G Q=>match x,ws with
 | .ref p,[]=>(match G p with
  |some (.lst xs)=>(match xs[xs.length-1]? with|some y=>Q y (put G p (.lst xs.dropLast))|none=>False)
  |_=>False)
 |_,_=>False
theorem bP:∀ x ws G (Q Q':Q3),(∀ w G',Q w G'->Q' w G')->gD x ws G Q->gD x ws G Q':=by
 intro x ws G Q Q' k h;unfold gD at h ⊢
 split at h
 .split at h
  .split at h
   .exact k _ _ h
   .exact h.elim
  .exact h.elim
 .exact h.elim
theorem zjp {X:Cx}:MtR X "list.pop" (lowM X.K gD):=by
 intro pins s σ H x xs v us Q I rx rxs h;obtain ⟨w,ws,G,rw1,rs,ab,h⟩:=h;unfold gD at h
 split at h
 .rename_i p;cases (show x=.ref p from rw1);cases (show xs=[] from rs)
  split at h
  .rename_i ys e
   split at h
   .rename_i y ey;obtain ⟨vs,ev,rr⟩:=ab.lst e;obtain ⟨vy,evy,ry⟩:=rr.get ey;have gr:yJ X.K H (xI H p (.lst vs.dropLast)):=ab.grow e;exact zjM pins s σ H _ _ v us Q I rx rxs ⟨p,vs,vy,rfl,rfl,ev,by rw [rr.length];exact evy,h vy _ gr (ry.mono gr) (ab.chg e ⟨_,rfl,rr.dropLast.mono gr⟩)⟩
   .exact h.elim
  .exact h.elim
 .exact h.elim
def dL:MS:=fun x ws G Q=>match x,ws with
 | .ref p,[y]=>(match G p with
  |some (.lst xs)=>xs.length<sizeLine/\Q .non (put G p (.lst (xs++[y])))
  |_=>False)
 |_,_=>False
theorem zay:∀ x ws G (Q Q':Q3),(∀ w G',Q w G'->Q' w G')->dL x ws G Q->dL x ws G Q':=by
 intro x ws G Q Q' k h;unfold dL at h ⊢
 split at h
 .split at h
  .exact ⟨h.1,k _ _ h.2⟩
  .exact h.elim
 .exact h.elim
theorem zkK {X:Cx}:MtR X "list.append" (lowM X.K dL):=by
 intro pins s σ H x xs v us Q I rx rxs h;obtain ⟨w,ws,G,rw1,rs,ab,h⟩:=h;unfold dL at h
 split at h
 .rename_i p y;cases (show x=.ref p from rw1);obtain ⟨vy,rfl,ry⟩:=kH rs
  split at h
  .rename_i ys e;obtain ⟨vs,ev,rr⟩:=ab.lst e;have gr:yJ X.K H (xI H p (.lst (vs++[vy]))):=ab.grow e;exact zdn pins s σ H _ _ v us Q I rx rxs ⟨p,vs,vy,rfl,rfl,ev,by rw [rr.length];exact h.1,h.2 .non _ gr (show xN X.K _ .non .non from rfl) (ab.chg e ⟨_,rfl,(rr.append (show zF X.K H [y] [vy] from ⟨vy,[],rfl,ry,rfl⟩)).mono gr⟩)⟩
  .exact h.elim
 .exact h.elim
def rngI (ws:List W) (G:Hw) (R:List W->(Hw->Prop)->Hw->Prop):Prop:=match ws with
 | [.int j]=>(-(2 ^ 62)<=j/\j<2 ^ 62)/\R ((List.range j.toNat).map fun i=>.int (i:Nat)) (fun _=>True) G
 |_=>False
theorem zkh {K:yL} {H1:Hp} {n:Nat}:ItIs K (Itr 0 n) H1 ((List.range n).map fun i=>W.int (i:Nat)) (fun _=>True) where
 go:=fun i H G _ ab st hi=>by show i<n;simpa using hi
 yld:=fun i H G x H' _ ab st hi y=>by
  obtain ⟨rfl,rfl⟩:=y;have hi':i<n:=by simpa using hi
  refine ⟨.int (i:Nat),by simp [hi'],.refl,?_,ab⟩;show V.int (0+(i:Int))=V.int (i:Int);rw [Int.zero_add]
 stop:=fun i H G _ ab st hi=>by show n<=i;simpa using hi
def ItE (p:Par) (i:It3):Prop:=∀ X,Fits p X->Gl X i.nm->∀ (tg:Expr) (args:List Expr) (t:A3) (q pos:Pos),vA t->args.all xJ=true->PA X args (rS X.K t)->(args=[]->∀ σ G Q,t σ G Q->Q [] G)->(i.nm==("__debug__" : Str))=false->i.nm ≠ "__name__" ->
  PI X tg (.Call (.Name i.nm q) args [] pos) (lowI X.K fun σ G R=>t σ G fun ws G1=>i.sp ws G1 R)
theorem zkl {q:Pr} {A:Around} (hm:q.mg "range" = none):ItE (q.at A) ⟨"range", rngI⟩:=by
 intro X fits gl tg args t qp pos mt hn pa hnil hdb hnm;have hm':X.mg "range" = none:=by rw [fits.mg];exact hm
 intro pins s σ H R I h
 cases args with
 |nil =>
  obtain ⟨σ3,G,hs,ab,h⟩:=h;exact (hnil rfl _ _ _ h).elim
 |cons a r =>
  obtain ⟨s1,s2⟩:=xA (env:=X.env) (pos:=pos) hn;obtain ⟨σ3,G,hs,ab,h⟩:=h
  have h':=nX (S:=fun vs H1=>∃ j:Int,vs=[.int j]/\-(2 ^ 62)<=j/\j<2 ^ 62/\R (Itr 0 j.toNat) H1) mt hs ab h fun ws G1 vs H1 g1 hs1 rs a1 h=>by
   dsimp only at h;unfold rngI at h
   split at h
   .rename_i j;obtain ⟨v,rfl,rv⟩:=kH rs;cases (show v=.int j from rv);exact ⟨j,rfl,h.1.1,h.1.2,h.2 _ H1 g1 a1 zkh⟩
   .exact h.elim
  refine Call_ (sR I gl hm' boot_range (PyProof.Rows.callWith_type1 (yH (pa pos pins s σ H _ I h') fun us s1 ⟨vs,H1,I1,r1,q1⟩=>?_) s1 s2));obtain ⟨j,e,q1,q2,q⟩:=q1;subst e;obtain ⟨u,rfl,t,rfl⟩:=kM r1;exact call_range_1 (zeW I1 (Nat.succ_pos _) (by omega) (by omega) q1 q2 (by simpa using q))
def lofM (nm:Str):Scope->Expr->Option (List Expr):=fun sc e=>match e with
 | .Call (.Name o _) [.Call (.Name x _) xs [] _] [] _=>if o==("list" : Str)&&x==nm&&sQ sc o&&sQ sc x&&!xs.isEmpty then some xs else none
 |_=>none
theorem zfk {nm:Str} {sc:Scope} {e:Expr} {xs:List Expr} (h:lofM nm sc e=some xs):∃ qo q pos pos' a r,xs=a::r/\e=.Call (.Name "list" qo) [.Call (.Name nm q) (a::r) [] pos] [] pos'/\sQ sc "list" = true/\sQ sc nm=true:=by
 have no:¬ ((none:Option (List Expr))=some xs):=fun e=>nomatch e
 cases e with
 |Call f args kws pos' =>
  cases f with
  |Name o qo =>
   cases args with
   |nil=>exact absurd h no
   |cons c rest =>
    cases c with
    |Call g ys kw2 pos =>
     cases g with
     |Name x q =>
      cases kw2 with
      |nil =>
       cases rest with
       |nil =>
        cases kws with
        |nil =>
         replace h:(if (o==("list" : Str)&&x==nm&&sQ sc o&&sQ sc x&&!ys.isEmpty)=true then some ys else none)=some xs:=h
         by_cases hb:(o==("list" : Str)&&x==nm&&sQ sc o&&sQ sc x&&!ys.isEmpty)=true
         .rw [if_pos hb] at h;cases h;simp only [Bool.and_eq_true,beq_iff_eq,Bool.not_eq_true',List.isEmpty_eq_false_iff] at hb;obtain ⟨⟨⟨⟨rfl,rfl⟩,h1⟩,h2⟩,h3⟩:=hb
          cases xs with
          |nil=>exact absurd rfl h3
          |cons a r=>exact ⟨qo,q,pos,pos',a,r,rfl,rfl,h1,h2⟩
         .rw [if_neg hb] at h;exact absurd h no
        |cons _ _=>exact absurd h no
       |cons _ _=>exact absurd h no
      |cons _ _=>exact absurd h no
     |_=>exact absurd h no
    |_=>exact absurd h no
  |_=>exact absurd h no
 |_=>exact absurd h no
def SxE (p:Par) (k:Sx3):Prop:=∀ X,Fits p X->∀ (e:Expr) (xs:List Expr) (es:List E3),k.m X.env.scope e=some xs->nS X xs es->xs.all xJ=true->PA X xs (rS X.K (sY es)) ->
  PE X e (yB X.K fun σ G Q=>sY es σ G fun ws G1=>k.sp ws G1 Q)/\(∀ whole,isTrue e X.env whole=(do let v ← whole;standAt e.pos;holding [v] (truthy v)))/\∀ op vs pos,e≠.BoolOp op vs pos
theorem wI {X:Cx}:∀ {xs:List Expr} {es:List E3},nS X xs es->vA (sY es)
 | [],[],_=>fun σ G Q Q' k h=>k _ _ h
 |_::_,_::_,⟨m,_,r⟩=>fun σ G Q Q' k h=>m σ G _ _ (fun x G1 h=>wI r σ G1 _ _ (fun xs G2 h=>k _ _ h) h) h
theorem ziT {q:Pr} {A:Around} {nm:Str} {T:String} {sp:RS} (hl:q.mg "list" = none) (hm:q.mg nm=none) (hv:bootBuiltins nm=some (.type T)) (mono:wG sp)
  (hc:∀ X,Fits (q.at A) X->∀ (pins:List (Addr×Obj)) (s:Shared) (σ:L2.St) (H:Hp) (vs:List V) (us:List Value) (Q:VK),Inv X pins σ H s->zE vs us->pS X.K sp vs H Q ->
   wpAny (model X.prog X.w) X.A (call (.type T) us) (fun v s1=>wpAny (model X.prog X.w) X.A (call (.type "list") [v]) (EP X pins σ Q) X.xe s1) X.xe s):SxE (q.at A) ⟨lofM nm,sp⟩:=by
 intro X fits e xs es he each hn pa;obtain ⟨qo,qq,pos,pos',a,r,rfl,rfl,g1,g2⟩:=zfk he;obtain ⟨gl1,d1,n1⟩:=zcl rfl g1;obtain ⟨gl2,d2,n2⟩:=zcl rfl g2;have hl':X.mg "list" = none:=by rw [fits.mg];exact hl
 have hm':X.mg nm=none:=by rw [fits.mg];exact hm
 refine ⟨fun pins s σ H Q I h=>?_,fun _=>rfl,fun _ _ _ z=>nomatch z⟩;obtain ⟨s1,s2⟩:=xA (env:=X.env) (pos:=pos) hn;have h':=zaR (wI each) mono h;refine wpAny_Call_Name_kw (sR I gl1 hl' boot_list ?_ n1 d1);refine PyProof.Rows.callWith_type1 (e:=.Call (.Name nm qq) (a::r) [] pos) (rest:=[]) ?_ rfl rfl;show wpAny _ _ (spliced ((false,eval (.Call (.Name nm qq) (a::r) [] pos) X.env)::backTo pos' (starEach [] X.env))) _ _ s;refine Calls.spliced_cons (wpAny_Call_Name_kw (sR I gl2 hm' hv (PyProof.Rows.callWith_type1 (yH (pa pos pins s σ H _ I h') fun us s1 ⟨vs,H1,I1,r1,q1⟩=>?_) s1 s2) n2 d2));exact yH (hc X fits pins s1 σ H1 vs us Q I1 r1 q1) fun v s2 z=>Calls.spliced_nil z
theorem zcn (n:Nat):[n+4,n+2,n+3,n,n+1].Nodup:=by
 simp
theorem zbM (n a:Nat) (h:a<n):a∉[n+4,n+2,n+3,n,n+1]:=by
 simp only [List.mem_cons,List.not_mem_nil,or_false,not_or];omega
theorem zdS (n b:Nat) (h:b∈[n+4,n+2,n+3,n,n+1]):n<=b:=by
 simp only [List.mem_cons,List.not_mem_nil,or_false] at h;omega
def Itv (K:yL) (a:Addr) (n:Nat):It where
 go:=fun i H=>∃ xs,pM K H a xs/\xs.length=n/\i<n
 yld:=fun i H v H'=>H'=H/\∀ xs,pM K H a xs->xs.length=n->xs[n-1-i]?=some v
 stop:=fun i H=>i=n
theorem zci:typeLookup (.type "list_reverseiterator") "__len__" = pure none:=by rw [typeLookup_type,builtinLookup_eq_fast];kernel_rfl
theorem zfj:typeLookup (.type "list_reverseiterator") "__length_hint__" = pure (some (.builtin "list_reverseiterator.__length_hint__")):=by rw [typeLookup_type,builtinLookup_eq_fast];kernel_rfl
theorem zg3 {P:Program} {w:World} {A:Around} {it a:Addr} {i:Int} {s:Shared} {Q:Bool->Shared->Prop} {E:Value->Shared->Prop} (st:s.heap.IsRevIter it a i) (h:∀ b,Q b s):wpAny (model P w) A (Builtin.List.listLengthHint (.ref it)) Q E s:=by
 have hT:=st.typeIs;unfold Builtin.List.listLengthHint;refine wpAny_bind (wpAny_specialOf hT zci ?_);show wpAny _ _ (specialOf (Value.ref it) (Str.ofString "__length_hint__") >>= _) _ _ _;refine wpAny_bind (wpAny_specialOf hT zfj ?_)
 (generalize hid:("list_reverseiterator.__length_hint__" : String)=id0;(fail_if_success (clear hid id0));wp_delta;rw [show splitId id0=some ("list_reverseiterator", "__length_hint__") from by subst hid;decide +kernel];subst hid)
 refine wpAny_bind (wpAny_isInstance (b:=true) hT (by rw [isSubtype_type];kernel_rfl) ?_);exact wpAny_pure (h _)
theorem zeQ (P:Program) (w:World) (K:yL) {it a:Addr} {n:Nat} (hne:a≠it):TurnL P w K "list_reverseiterator" (Itv K a n) [it] it (fun i h=>i<=n/\h.IsRevIter it a ((n:Int)-1-i)) where
 mem:=by simp
 ty:=fun i h ⟨_,o,ho,hc,_⟩=>⟨o,ho,hc⟩
 obj:=fun i h ⟨_,o,ho,hc,hd⟩ b hb=>by
  rw [List.mem_singleton] at hb;subst hb;exact ⟨o,ho,fun v z=>by rw [hd] at z;cases z⟩
 keep:=fun i h h' ⟨hi,x⟩ k=>⟨hi,x.at fun o e=>k it (by simp) o e⟩
 item:=by
  intro X e1 e2 e3 hc i pins s σ H E I hf st go;subst e1;subst e2;subst e3;obtain ⟨hi,st⟩:=st;obtain ⟨xs,sq,ln,hlt⟩:=go;obtain ⟨its,rv,pl,hz⟩:=I.list sq;have hlx:n-1-i<xs.length:=by omega
  obtain ⟨u,eu,ru⟩:=rv.get (List.getElem?_eq_getElem hlx);have e:(n:Int)-1-(i:Int)=((n-1-i:Nat):Int):=by omega
  rw [e] at st;refine wpAny_pyNext_rev_item st pl.isList (x:=u) (by simpa using eu) fun h' st' sb=>?_;have e':((n-1-i:Nat):Int)-1=(n:Int)-1-((i+1:Nat):Int):=by omega
  rw [e'] at st';obtain ⟨f1,f2,f3,f4,f5,f6⟩:=hf it (by simp);refine ⟨u,xs[n-1-i],H,rfl,I.turned (t':=s.toks) (fun b o hb e=>sb.extBut b o hb e) f1 f2 f4 f5 f6,ru,⟨rfl,fun ys sq' _=>by rw [I.list_inj sq' sq];exact List.getElem?_eq_getElem hlx⟩,⟨hlt,st'⟩,fun b hb=>(hf b hb).1⟩
 done:=by
  intro X e1 e2 e3 hc i pins s σ H E I hf st stop;subst e1;subst e2;subst e3;obtain ⟨hi,st⟩:=st;have hin:i=n:=stop;subst hin;have e:(i:Int)-1-(i:Int)=-1:=by omega
  rw [e] at st;obtain ⟨f1,f2,f3,f4,f5,f6⟩:=hf it (by simp);exact wpAny_pyNext_rev_end (I.ok.hd hc) st fun h' k=>⟨rfl,I.turned (t':=s.toks) (fun b o hb e=>k b o hb e) f1 f2 f4 f5 f6⟩
 self:=fun A i s Q E st h=>wpAny_pyIter_revIter st.2 h
 hint:=fun A i s Q E st h=>zg3 st.2 h
def revS:RS:=fun ws G Q=>match ws with
 | [.ref p]=>∃ xs,yU G p=some xs/\∀ r,G r=none->Q (.ref r) (put G r (.lst xs.reverse))
 |_=>False
theorem bR:wG revS:=by
 intro ws G Q Q' k h;unfold revS at h ⊢
 split at h
 .obtain ⟨xs,e1,h⟩:=h;exact ⟨xs,e1,fun p hp=>k _ _ (h p hp)⟩
 .exact h.elim
theorem zjd {X:Cx} (hc:X.calm=true) (pins:List (Addr×Obj)) (s:Shared) (σ:L2.St) (H:Hp) (vs:List V) (us:List Value) (Q:VK) (I:Inv X pins σ H s) (r:zE vs us) (h:pS X.K revS vs H Q) :
  wpAny (model X.prog X.w) X.A (call (.type "reversed") us) (fun v s1=>wpAny (model X.prog X.w) X.A (call (.type "list") [v]) (EP X pins σ Q) X.xe s1) X.xe s:=by
 obtain ⟨ws,G,rs,ab,h⟩:=h;unfold revS at h
 split at h
 .rename_i p;obtain ⟨v,rfl,rv⟩:=kH rs;cases (show v=.ref p from rv);obtain ⟨u,rfl,ru⟩:=kM r;cases (show u=Value.ref p from ru);obtain ⟨xs,e,h⟩:=h;obtain ⟨vs,sq,rr⟩:=ab.seq e;obtain ⟨its,vv,pl,hz⟩:=I.list sq;have hl:=pl.isList
  have hlt:p<s.heap.objs.size:=by
   obtain ⟨o,ho,_⟩:=hl;exact Heap.lt_size ho
  refine call_reversed_list hl ?_;have I1:Inv X pins σ H { s with heap:=s.heap.push (revObj p ((its.toArray.size:Int)-1)),toks:=s.toks }:=I.kept fun b u e=>Heap.get?_push_of_some _ e;have en:its.toArray.size=vs.length:=by rw [zzS,← vv.length]
  refine zdt hc (by decide) (by decide) I1 (zeQ X.prog X.w X.K (n:=vs.length) (Nat.ne_of_lt hlt)) ⟨Nat.zero_le _,?_⟩ (fun b hb=>?_) vs.length hz
   (fun i acc H'=>H'=H/\acc=vs.reverse.take i) ⟨rfl,by simp⟩ ?_ ?_
  .refine ⟨_,Heap.get?_push_size _ rfl,rfl,?_⟩;show Data.fields #[.ref p,rawInt ((its.toArray.size:Int)-1)]=_;rw [en];simp
  .rw [List.mem_singleton] at hb;subst hb;exact I.fpOk (zzR _) (I.hok.fresh (zzR _))
  .rintro i acc H' hi ⟨rfl,rfl⟩;refine ⟨⟨vs,sq,rfl,hi⟩,?_⟩;rintro v H2 ⟨rfl,e2⟩;refine ⟨rfl,?_⟩;have e2:=e2 vs sq rfl;have hl':i<vs.reverse.length:=by simpa using hi
   rw [List.take_succ_eq_append_getElem hl'];congr 2;have:vs.reverse[i]?=some v:=by rw [List.getElem?_reverse hi];exact e2
   exact (Option.some.inj ((List.getElem?_eq_getElem hl').symm.trans this)).symm
  .rintro acc H' ⟨rfl,rfl⟩;refine ⟨rfl,?_⟩;rw [List.take_of_length_le (by simp)];exact jQ ab rr.reverse h
 .exact h.elim
end L3
namespace L3
open PySem PySem.Spec PyProof.Rows L2
def zI (S:List Addr) (G G':Hw):Prop:=∀ a o,a∉S->G a=some o->G' a=some o
theorem zI.refl {S:List Addr} {G:Hw}:zI S G G:=fun _ _ _ h=>h
theorem zI.trans {S:List Addr} {G G1 G2:Hw} (a:zI S G G1) (b:zI S G1 G2):zI S G G2:=fun x o hx h=>b x o hx (a x o hx h)
theorem zI.put {S:List Addr} {G:Hw} {p:Addr} {o:O} (h:p∈S):zI S G (put G p o):=fun x u hx hu=>by
 rw [yK (fun e:x=p=>hx (e▸h))];exact hu
theorem zI.new {S:List Addr} {G:Hw} {p:Addr} {o:O} (h:G p=none):zI S G (L3.put G p o):=fun x u hx hu=>by
 rw [yK (vB hu h)];exact hu
theorem zI.none {S:List Addr} {G G':Hw} {p:Addr} (k:zI S G G') (hp:p∉S) (h:G' p=Option.none):G p=Option.none:=by
 cases e:G p with
 |none=>rfl
 |some o=>rw [k p o hp e] at h;cases h
abbrev kS:yD:=.inr "seed"
abbrev kN:yD:=.inr "number"
abbrev kL:yD:=.inr "left"
def zkD (seed num:Int) (l:Addr):O:=.dic [(kS,.int seed),(kN,.int num),(kL,.ref l)]
structure DealS (G:Hw) (d l:Addr) (seed num:Int) (left:List Int):Prop where
 dic:G d=some (zkD seed num l)
 lst:G l=some (.lst (left.map .int))
 s0:0<=seed
 s1:seed<2147483647
 n0:0<=num
 lf:∀ x∈left,(0:Int)<=x
 len:left.length<=63
 ne:d≠l
def jZ (G:Hw) (d l:Addr):Prop:=∃ seed num left,DealS G d l seed num left
theorem dgS {a b c:W}:dget [(kS,a),(kN,b),(kL,c)] kS=some a:=by rfl
theorem dgN {a b c:W}:dget [(kS,a),(kN,b),(kL,c)] kN=some b:=by
 have e1:¬ (kS=kN):=by decide +kernel
 unfold dget;rw [List.find?_cons_of_neg (by simp [e1]),List.find?_cons_of_pos (by simp)];rfl
theorem dgL {a b c:W}:dget [(kS,a),(kN,b),(kL,c)] kL=some c:=by
 have e1:¬ (kS=kL):=by decide +kernel
 have e2:¬ (kN=kL):=by decide +kernel
 unfold dget;rw [List.find?_cons_of_neg (by simp [e1]),List.find?_cons_of_neg (by simp [e2]),List.find?_cons_of_pos (by simp)];rfl
theorem dpN {a b c x:W}:cL [(kS,a),(kN,b),(kL,c)] kN x=[(kS,a),(kN,x),(kL,c)]:=by
 unfold cL;have e1:¬ (kS=kN):=by decide +kernel
 have e2:¬ (kL=kN):=by decide +kernel
 simp [e1,e2]
theorem dpS {a b c x:W}:cL [(kS,a),(kN,b),(kL,c)] kS x=[(kS,x),(kN,b),(kL,c)]:=by
 unfold cL;have e1:¬ (kN=kS):=by decide +kernel
 have e2:¬ (kL=kS):=by decide +kernel
 simp [e1,e2]
def zkH:ISs:=(.cons (.whl (.and (.cmp .Eq (.ix (.var 0) (.con (.str "number"))) (.con (.int 0))) (.cmp .Gt (.call 1 (.cons (.ix (.var 0) (.con (.str "left"))) .nil)) (.con (.int 0)))) (.cons (.asgI (.var 0) (.con (.str "number")) (.mth 0 (.ix (.var 0) (.con (.str "left"))) .nil))
 .nil))
 (.cons (.asg 2 (.ix (.var 0) (.con (.str "number"))))
 (.cons (.ite (.cmp .Gt (.var 2) (.con (.int 0))) (.cons (.asgI (.var 0) (.con (.str "number")) (.bin .FloorDiv (.var 2) (.var 1)))
 (.cons (.ret (.bin .Mod (.var 2) (.var 1)))
 .nil)) .nil)
 (.cons (.asg 3 (.bin .Mod (.bin .Add (.bin .Mult (.ix (.var 0) (.con (.str "seed"))) (.con (.int 48271))) (.con (.int 7919))) (.con (.int 2147483647))))
 (.cons (.asgI (.var 0) (.con (.str "seed")) (.bin .Mod (.bin .Add (.bin .Mult (.var 3) (.con (.int 40692))) (.con (.int 104729))) (.con (.int 2147483399))))
 (.cons (.asg 4 (.bin .Mod (.bin .Mult (.ix (.var 0) (.con (.str "seed"))) (.ix (.var 0) (.con (.str "seed")))) (.con (.int 2147483563))))
 (.cons (.ret (.bin .Mod (.bin .Add (.bin .Mult (.bin .Mod (.bin .Mult (.var 3) (.var 3)) (.con (.int 2147483629))) (.con (.int 2147483563))) (.var 4)) (.var 1)))
 .nil)))))))
abbrev eLen:Fn3:=⟨"len", fun ws G Q _=>mU ws G Q⟩
abbrev ePop:Mt3:=⟨"pop", "list", gD⟩
theorem DealS.put {G:Hw} {d l:Addr} {seed num:Int} {left:List Int} (D:DealS G d l seed num left) {seed' num':Int} (h1:0<=seed') (h2:seed' < 2147483647) (h3:0<=num'):DealS (put G d (zkD seed' num' l)) d l seed' num' left :=
 ⟨zX,by rw [yK D.ne.symm];exact D.lst,h1,h2,h3,D.lf,D.len,D.ne⟩
theorem zcq {i j:Int}:wY (.int i) (.int j)=decide (i=j):=by
 simp [wY,Bool.beq_eq_decide_eq]
theorem jP {G:Hw} {i j:Int}:eqG G (.int i) (.int j)=some (decide (i=j)):=by
 simp [eqG,pur,dep,zcq]
theorem zfg {left:List Int}:(left.map W.int)[left.length-1]?=(left[left.length-1]?).map W.int:=by simp
theorem modb {a m:Int} (h:0<m):0<=a % m/\a % m<m:=⟨Int.emod_nonneg _ (by omega),Int.emod_lt_of_pos _ h⟩
theorem zao {d l:Addr} {m:Int} {G G1:Hw} {Q:Q3} {seed num:Int} {left:List Int} (D:DealS G1 d l seed num left) (kp:zI [d,l] G G1) (hm:0<m/\m<1073741824) (few:∀ {a b c:W},[(kS,a),(kN,b),(kL,c)].length<sizeLine)
  (hq:∀ r G',0<=r->r<m->zI [d,l] G G'->jZ G' d l->Q (.int r) G'):if decide (0<num)=true then
   CDiv num m/\[(kS,W.int seed),(kN,W.int num),(kL,W.ref l)].length<sizeLine/\0<m/\Q (W.int (num % m)) (put G1 d (O.dic [(kS,W.int seed),(kN,W.int (num / m)),(kL,W.ref l)]))
  else
   CMul seed 48271/\(0:Int)<2147483647/\CMul ((seed * 48271+7919) % 2147483647) 40692/\(0:Int)<2147483399/\[(kS,W.int seed),(kN,W.int num),(kL,W.ref l)].length<sizeLine /\
   CMul (((seed * 48271+7919) % 2147483647 * 40692+104729) % 2147483399) (((seed * 48271+7919) % 2147483647 * 40692+104729) % 2147483399)/\(0:Int)<2147483563 /\
   CMul ((seed * 48271+7919) % 2147483647) ((seed * 48271+7919) % 2147483647)/\(0:Int)<2147483629 /\
   CMul ((seed * 48271+7919) % 2147483647 * ((seed * 48271+7919) % 2147483647) % 2147483629) 2147483563/\0<m /\
   Q (W.int (((seed * 48271+7919) % 2147483647 * ((seed * 48271+7919) % 2147483647) % 2147483629 * 2147483563+((seed * 48271+7919) % 2147483647 * 40692+104729) % 2147483399 * (((seed * 48271+7919) % 2147483647 * 40692+104729) % 2147483399) % 2147483563) % m))
    (put G1 d (O.dic [(kS,W.int (((seed * 48271+7919) % 2147483647 * 40692+104729) % 2147483399)),(kN,W.int num),(kL,W.ref l)])):=by
 split
 .exact ⟨hm,few,hm.1,hq _ _ (modb hm.1).1 (modb hm.1).2 (kp.trans (zI.put (by simp))) ⟨seed,num / m,left,D.put D.s0 D.s1 (Int.ediv_nonneg D.n0 (by omega))⟩⟩
 .have b1:=modb (a:=seed * 48271+7919) (m:=2147483647) (by decide);generalize (seed * 48271+7919) % 2147483647=x at b1 ⊢;have b2:=modb (a:=x * 40692+104729) (m:=2147483399) (by decide);generalize (x * 40692+104729) % 2147483399=y at b2 ⊢;refine ⟨.inr ⟨by decide,by decide⟩,by decide,.inr ⟨by decide,by decide⟩,by decide,few,.inl ⟨by omega,by omega⟩,by decide,.inl ⟨by omega,by omega⟩,by decide,.inr ⟨by decide,by decide⟩,hm.1,?_⟩;exact hq _ _ (modb hm.1).1 (modb hm.1).2 (kp.trans (zI.put (by simp))) ⟨y,num,left,D.put b2.1 (by omega) D.n0⟩
theorem zfM {Γ:Ctx3} (h1:Γ.fn[1]?=some eLen) (h2:Γ.mt[0]?=some ePop) {d l:Addr} {m:Int} {G:Hw} {Q:Q3} {nx:jM->Hw->Prop} (D:jZ G d l) (hm:0<m/\m<1073741824)
  (hq:∀ r G',0<=r->r<m->zI [d,l] G G'->jZ G' d l->Q (.int r) G'):zH Γ XN zkH { nx:=nx,rt:=Q } [some (.ref d),some (.int m),none,none,none] G:=by
 obtain ⟨seed,num,left,D⟩:=D;dsimp only [zkH,zH,zO,zS,zM,zG,yZ,yW,yV,zP,zV,zJ,List.getElem?_cons_zero,List.getElem?_cons_succ,List.set_cons_zero,List.set_cons_succ];simp only [h1,h2];refine ⟨fun k σ G'=>σ=[some (.ref d),some (.int m),none,none,none]/\zI [d,l] G G'/\∃ num left,k=left.length/\DealS G' d l seed num left,⟨_,rfl,.refl,num,left,rfl,D⟩,?_⟩;rintro k σ G1 ⟨rfl,kp,num,left,rfl,D⟩;have hd:G1 d=some (.dic [(kS,.int seed),(kN,.int num),(kL,.ref l)]):=D.dic;have hl:G1 l=some (.lst (left.map .int)):=D.lst;have hds:∀ o,(put G1 d o) d=some o:=fun o=>zX;have hdl:∀ o,(put G1 l o) d=some (.dic [(kS,.int seed),(kN,.int num),(kL,.ref l)]):=fun o=>by rw [yK D.ne];exact hd
 have few:∀ {a b c:W},[(kS,a),(kN,b),(kL,c)].length<sizeLine:=by intros;show 3<sizeLine;rw [sizeLine_eq];decide
 simp only [List.getElem?_cons_zero,List.getElem?_cons_succ,List.set_cons_zero,List.set_cons_succ,kY,hd,bG,dgN,dgL,dgS,yI,jP,yX,mU,mW,hl,zzM,tyW,gD,nK,zfg,setR,hdl,hds,dpN,dpS,jF]
 by_cases hn:num=0
 .simp only [decide_eq_true hn,if_true]
  by_cases hlen:(0:Int)<(left.length:Int)
  .simp only [decide_eq_true hlen,if_true];have hlast:left.length-1<left.length:=by omega
   rw [List.getElem?_eq_getElem hlast];simp only [Option.map_some];refine ⟨trivial,few,left.dropLast.length,by rw [List.length_dropLast];omega,trivial,?_,left[left.length-1],left.dropLast,rfl,?_⟩
   .exact (kp.trans (zI.put (by simp))).trans (zI.put (by simp))
   .refine ⟨zX,?_,D.s0,D.s1,D.lf _ (List.getElem_mem hlast),fun x hx=>D.lf x (List.dropLast_subset _ hx),by have:=D.len;rw [List.length_dropLast];omega,D.ne⟩;rw [yK D.ne.symm,zX,List.map_dropLast]
  .simp only [decide_eq_false hlen,zzB,if_false];exact zao D kp hm few hq
 .simp only [decide_eq_false hn,zzB,if_false];exact zao D kp hm few hq
theorem zaV {items:List W} {stab:Hw->Prop} {G1:Hw} {turn:W->Hw->(Option W->Hw->Prop)->Prop} {Q:Q3} (f:W->Option W) (hs:stab G1) (hl:items.length<=sizeLine) (ht:∀ w∈items,∀ K:Option W->Hw->Prop,K (f w) G1->turn w G1 K)
  (hq:∀ p,G1 p=none->Q (.ref p) (put G1 p (.lst (items.filterMap f)))):lcR items stab G1 turn Q:=by
 refine ⟨fun i acc G=>G=G1/\acc=(items.take i).filterMap f,⟨rfl,by simp⟩,?_,hl,?_,?_⟩
 .rintro i acc G ⟨rfl,rfl⟩ hi;refine ⟨hs,Nat.le_trans (List.length_filterMap_le _ _) ?_⟩;rw [List.length_take];omega
 .rintro i w acc G hi ⟨rfl,rfl⟩;have hlt:i<items.length:=(List.getElem?_eq_some_iff.mp hi).1;have hw:items[i]=w:=(List.getElem?_eq_some_iff.mp hi).2;refine ht w (List.mem_of_getElem? hi) _ ?_;have et:items.take (i+1)=items.take i++[w]:=by rw [List.take_succ_eq_append_getElem hlt,hw]
  cases e:f w with
  |some x=>exact ⟨rfl,by rw [et,List.filterMap_append];simp [e]⟩
  |none=>exact ⟨rfl,by rw [et,List.filterMap_append];simp [e]⟩
 .rintro acc G ⟨rfl,rfl⟩ p hp;rw [List.take_length];exact hq p hp
theorem zd8 {α β:Type} (f:α->β) (xs:List α) (lo hi:Option Int):mQ (xs.map f) lo hi=(mQ xs lo hi).map f:=by
 unfold mQ;rw [zzM,List.map_take,List.map_drop]
theorem zil {α:Type} (xs:List α) (lo hi:Option Int):(mQ xs lo hi).length<=xs.length:=by
 unfold mQ;rw [List.length_take,List.length_drop];omega
def zkI:ISs:=(.cons (.asg 2 (.lc (.nm 0) ["_law_cell"] [] (.val (.sl (.var 0) (.yes (.var 1)) (.yes (.con (.int 63))))) .no (.call 0 (.cons (.var 0) (.cons (.bin .Sub (.con (.int 0)) (.var 0)) .nil)))))
 (.cons (.asg 3 (.bin .Add (.con (.int 7919)) (.var 1)))
 (.cons (.for (.nm 4) (.val (.var 2)) (.cons (.asg 3 (.bin .Mod (.bin .Add (.bin .Mult (.var 3) (.con (.int 69621))) (.bin .Mod (.var 4) (.con (.int 2147483629)))) (.con (.int 2147483647))))
 .nil))
 (.cons (.ret (.dct ["seed", "number", "left"] (.cons (.var 3) (.cons (.con (.int 0)) (.cons (.spc 0 (.cons (.lc (.nm 0) ["_law_cell"] [] (.val (.var 2)) (.yes (.cmp .GtE (.var 0) (.bin .Pow (.con (.int 10)) (.con (.int 18))))) (.var 0)) .nil)) .nil)))))
 .nil))))
abbrev eMax:Fn3:=⟨"max", fun ws G Q _=>maxS ws G Q⟩
abbrev eRev:Sx3:=⟨lofM "reversed", revS⟩
def mN (x:Int):Int:=if 0-x > x then 0-x else x
theorem zix (x:Int):0<=mN x:=by unfold mN;split<;>omega
theorem yG {G:Hw} {p:Addr} {ws:List W} (h:G p=some (.lst ws)):yU G p=some ws:=by unfold yU;rw [h]
theorem dct3 {a b c:W}:zii ["seed", "number", "left"] [a,b,c]=[(kS,a),(kN,b),(kL,c)]:=by
 have e1:¬ (kS=kN):=by decide +kernel
 have e2:¬ (kS=kL):=by decide +kernel
 have e3:¬ (kN=kL):=by decide +kernel
 simp [zii,cL,e1,e2,e3]
def zcx (G:Hw) (w:W) (ns:List Int):Prop:=(∃ a,w=.ref a/\yU G a=some (ns.map .int))\/w=.lsf (ns.map .int)
theorem zcx.sl {G:Hw} {w:W} {ns:List Int} (h:zcx G w ns) {lo hi:Option Int} {Q:Q3} (hq:∀ r,G r=none->Q (.ref r) (put G r (.lst (mQ (ns.map W.int) lo hi)))):slR w lo hi G Q:=by
 rcases h with ⟨a,rfl,e⟩|rfl
 .simp only [slR,e];exact hq
 .exact hq
theorem zfO {Γ:Ctx3} (h0:Γ.fn[0]?=some eMax) (h2:Γ.sx[0]?=some eRev) {a:W} {base:Int} {ns:List Int} {G:Hw} {Q:Q3} {nx:jM->Hw->Prop} (hs:zcx G a ns) (hl:ns.length<=63) (hb:0<=base/\base<=1000)
  (hq:∀ d l G',G d=none->G l=none->zI [] G G'->jZ G' d l->Q (.ref d) G'):zH Γ XN zkI { nx:=nx,rt:=Q } [some a,some (.int base),none,none,none] G:=by
 dsimp only [zkI,zH,zO,zS,zM,zG,yZ,yW,yV,zP,zV,zR,zN,zQ,zW,zJ,List.getElem?_cons_zero,List.getElem?_cons_succ,zL];simp only [h0,h2,kX];refine hs.sl fun p1 hp1=>?_;dsimp only;have hp1':yU (put G p1 (.lst (mQ (ns.map W.int) (some base) (some 63)))) p1=some (mQ (ns.map W.int) (some base) (some 63)):=yG zX;rw [hp1'];rw [zd8];generalize ecs:mQ ns (some base) (some 63)=cs;have hcl:cs.length<=63:=by rw [← ecs];exact Nat.le_trans (zil _ _ _) hl
 rw [zd8,ecs] at hp1';refine zaV (fun w=>match w with|.int x=>some (.int (mN x))|_=>none) hp1' (by rw [zzM,sizeLine_eq];omega) ?_ ?_
 .intro w hw K hK;obtain ⟨x,hx,rfl⟩:=zzP hw;simp only [capS,List.length_cons,List.length_nil,List.replicate,zzV,List.append_nil,List.set_cons_zero,List.getElem?_cons_zero,jF,maxS,if_true];exact hK
 .intro p2 hp2
  have ef:(cs.map W.int).filterMap (fun w=>match w with|.int x=>some (.int (mN x))|_=>none)=(cs.map mN).map W.int:=by
   rw [List.filterMap_map,List.map_map,← List.filterMap_eq_map];rfl
  rw [ef];generalize eG:put (put G p1 (.lst (cs.map W.int))) p2 (.lst ((cs.map mN).map W.int))=G2;have kp2:zI [] G G2:=by rw [← eG];exact (zI.new hp1).trans (zI.new hp2)
  have g2:G2 p2=some (.lst ((cs.map mN).map W.int)):=by rw [← eG];exact zX
  simp only [List.getElem?_cons_zero,List.getElem?_cons_succ,List.set_cons_zero,List.set_cons_succ,jF,yG g2];refine ⟨fun i σ G'=>G'=G2/\∃ (n:Int) (c:Option W),σ=[some a,some (.int base),some (.ref p2),some (.int n),c]/\0<=n/\n<2147483647,⟨rfl,7919+base,none,rfl,by omega,by omega⟩,?_,?_,?_⟩
  .rintro i σ G' ⟨rfl,_⟩ _;exact yG g2
  .rintro i w σ G' hi ⟨rfl,n,c,rfl,n0,n1⟩;have hw:=List.mem_of_getElem? hi;obtain ⟨x,hx,rfl⟩:=zzP hw;simp only [List.getElem?_cons_zero,List.getElem?_cons_succ,List.set_cons_zero,List.set_cons_succ,jF];exact ⟨.inr ⟨by decide,by decide⟩,by decide,by decide,trivial,_,_,rfl,(modb (by decide)).1,(modb (by decide)).2⟩
  .rintro σ G' ⟨rfl,n,c,rfl,n0,n1⟩;intro d hd;simp only [List.getElem?_cons_zero,List.getElem?_cons_succ];have g3:(put G' d (.dic [])) p2=some (.lst ((cs.map mN).map W.int)):=by rw [yK (vB g2 hd)];exact g2
   simp only [yG g3];refine zaV (fun w=>match w with|.int x=>if (10:Int) ^ 18<=x then some (.int x) else none|_=>none) (yG g3) (by rw [zzM,zzM,sizeLine_eq];omega) ?_ ?_
   .intro w hw K hK;obtain ⟨x,hx,rfl⟩:=zzP hw;simp only [capS,List.length_cons,List.length_nil,List.replicate,zzV,List.append_nil,List.set_cons_zero,List.getElem?_cons_zero,jF,yI,nK,yX];refine ⟨⟨by decide,by decide,by decide⟩,?_⟩;have e18:(10:Int) ^ (18:Int).toNat=10 ^ 18:=rfl;rw [e18]
    by_cases hx:(10:Int) ^ 18<=x
    .rw [decide_eq_true hx,if_pos rfl];simp only [if_pos hx] at hK;exact hK
    .rw [decide_eq_false hx,if_neg zzN];simp only [if_neg hx] at hK;exact hK
   .intro p3 hp3
    have ef:((cs.map mN).map W.int).filterMap (fun w=>match w with|.int x=>if (10:Int) ^ 18<=x then some (.int x) else none|_=>none)=((cs.map mN).filter fun x=>decide ((10:Int) ^ 18<=x)).map W.int:=by
     generalize cs.map mN=ys
     induction ys with
     |nil=>rfl
     |cons y ys ih =>
      rw [zzU,List.filterMap_cons,List.filter_cons]
      by_cases hy:(10:Int) ^ 18<=y
      .simp only [if_pos hy,decide_eq_true hy,if_true,zzU,ih]
      .simp only [if_neg hy,decide_eq_false hy,zzB,if_false,ih]
    rw [ef];generalize efl:(cs.map mN).filter (fun x=>decide ((10:Int) ^ 18<=x))=fl;have flen:fl.length<=63:=by rw [← efl];refine Nat.le_trans (List.length_filter_le _ _) ?_;rw [zzM];exact hcl
    have fnn:∀ x∈fl,(0:Int)<=x:=fun x hx=>by
     rw [← efl] at hx;obtain ⟨y,hy,rfl⟩:=zzP (List.mem_filter.mp hx).1;exact zix y
    refine ⟨fl.map W.int,yG zX,fun l hl'=>?_⟩
    have ned:d≠l:=fun e=>by
     subst e;rw [yK (vB zX hp3),zX] at hl';cases hl'
    have np3:d≠p3:=vB zX hp3;refine ⟨by rw [yK ned,yK np3,zX],rfl,?_⟩;rw [dct3];refine hq d l _ (kp2.none (by simp) hd) ?_ ?_ ⟨n,0,fl.reverse,zX,?_,n0,n1,by omega,fun x hx=>fnn x (List.mem_reverse.mp hx),by rw [List.length_reverse];exact flen,ned⟩
    .have k3:zI [] G (put (put G' d (.dic [])) p3 (.lst (fl.map W.int))):=(kp2.trans (zI.new hd)).trans (zI.new hp3);exact k3.none (by simp) hl'
    .intro x u hx hu;rw [yK (vB hu (kp2.none (by simp) hd))];exact ((((kp2.trans (zI.new hd)).trans (zI.new hp3)).trans (zI.new hl')) x u hx hu)
    .rw [yK ned.symm,zX,← List.map_reverse]
structure FunD (K:yL) (x qual:Str) (st:Stmt) (dV:Value) (f:Addr) (fd:FuncData):Prop where
 ex:∃ (oc:Value) (od:Option Addr) (kV doc pm:Value) (an:Option Addr) (cdv ct:Value) (osl:Array (Option Value)),
  fd=PySem.W.fnOf x qual (zA st) (zT st) (zZ st) dV kV doc pm an cdv ct/\K.lookup f=some ⟨oc,od,.func fd,osl⟩/\PySem.W.codeIn K cdv qual=true
 kp:PySem.W.keepIn K (.ref f)=true
theorem rL {Γ:Ctx3} {q:Pr} {k:Nat} {M:MC} {x qual:Str} {st:Stmt} {dV:Value} {f:Addr} {fd:FuncData} {ps:List Str} {sp:uU} {body:ISs} (F:FunD q.K x qual st dV f fd) (S:FnScope M.N ps (zZ st)) (g:∀ A,Room k A->Good Γ (q.at A))
  (eM:MOk Γ M (zZ st)) (hm:qB body M (zT st)=true) (len:∀ ws G Q,sp ws G Q XN->ws.length=ps.length)
  (hb:∀ ws G Q,sp ws G Q XN->zH Γ XN body { nx:=fun _ G'=>Q .non G',rt:=Q } (yO M.N ws) G):FnOk q.prog q.w q.K q.mg q.base CX0 (k+1) f fd ps (vC q.K sp):=by
 obtain ⟨oc,od,kV,doc,pm,an,cdv,ct,osl,rfl,lk,hcd⟩:=F.ex;refine fn_of lk hcd S (fun vs H Q E h=>?_) fun A outer s H vs Q E hr h=>?_
 .obtain ⟨ws,G,rs,ab,h⟩:=h;rw [rs.length];exact len ws G _ h
 .obtain ⟨ws,G,rs,ab,h⟩:=h;have gg:=g _ hr;refine ⟨lowS q.K (zH Γ XN body),PSs.nox (sndSs gg body M _ (zT st) ?_ hm),?_⟩
  .exact ⟨⟨rfl,rfl,rfl,rfl,rfl,rfl,rfl,rfl⟩,rfl,eM.sc.symm,S.nd,fun _ _=>rfl,by rw [eM.sc];exact S.kind,eM.fns,eM.gls,eM.mts,eM.its,eM.sxs,eM.ixs⟩
  .refine ⟨yO M.N ws,G,_,zcM rs,ab,⟨?_,?_,?_,?_⟩,hb ws G _ h⟩
   .exact fun σ G' τ H' g' _ a' z=>z .non H' g' (show xN q.K H' .non .non from rfl) a'
   .exact fun σ G' τ H' g' _ a' z=>z.elim
   .exact fun σ G' τ H' g' _ a' z=>z.elim
   .exact fun w G' v H' g' r' a' z=>z v H' g' r' a'
structure HD (K:yL) (x qual:Str) (st:Stmt) (dV:Value) (f:Addr):Prop where
 ex:∃ (oc:Value) (od an:Option Addr) (osl:Array (Option Value)) (kV doc pm cdv ct:Value),K.lookup f=some ⟨oc,od,.func (PySem.W.fnOf x qual (zA st) (zT st) (zZ st) dV kV doc pm an cdv ct),osl⟩/\PySem.W.codeIn K cdv qual=true
 kp:PySem.W.keepIn K (.ref f)=true
theorem HD.mk' {K:yL} {x qual:Str} {st:Stmt} {dV:Value} {f:Addr} {oc:Value} {od an:Option Addr} {osl:Array (Option Value)} {kV doc pm cdv ct:Value}
  (l:K.lookup f=some ⟨oc,od,.func (PySem.W.fnOf x qual (zA st) (zT st) (zZ st) dV kV doc pm an cdv ct),osl⟩) (c:PySem.W.codeIn K cdv qual=true) (k:PySem.W.keepIn K (.ref f)=true):HD K x qual st dV f:=⟨⟨oc,od,an,osl,kV,doc,pm,cdv,ct,l,c⟩,k⟩
theorem HD.fd {K:yL} {x qual:Str} {st:Stmt} {dV:Value} {f:Addr} (h:HD K x qual st dV f):∃ fd,FunD K x qual st dV f fd/\∃ kV doc pm an cdv ct,fd=PySem.W.fnOf x qual (zA st) (zT st) (zZ st) dV kV doc pm an cdv ct:=by
 obtain ⟨oc,od,an,osl,kV,doc,pm,cdv,ct,l,c⟩:=h.ex;exact ⟨_,⟨⟨oc,od,kV,doc,pm,an,cdv,ct,osl,rfl,l,c⟩,h.kp⟩,kV,doc,pm,an,cdv,ct,rfl⟩
def dG (f:Fn3):Prop:=∀ ws G (Q Q':Q3) E,(∀ w G',Q w G'->Q' w G')->f.sp ws G Q E->f.sp ws G Q' E
def uZ (p:Par) (f:Fn3):Prop:=FnE p f/\dG f
def pK (m:Mt3):Prop:=∀ x ws G (Q Q':Q3),(∀ w G',Q w G'->Q' w G')->m.sp x ws G Q->m.sp x ws G Q'
def dH (m:It3):Prop:=∀ ws G (R R':List W->(Hw->Prop)->Hw->Prop),(∀ a b c,R a b c->R' a b c)->m.sp ws G R->m.sp ws G R'
def GlE (p:Par) (g:Str×W):Prop:=∀ X,Fits p X->Gl X g.1->∀ q:Pos,(g.1==("__debug__" : Str))=false->g.1 ≠ "__name__" -> PE X (.Name g.1 q) (yB X.K fun _ G Q=>Q g.2 G)
theorem zdM {Γ:Ctx3} {p:Par} (un:p.A.units+200<cLine) (fn:∀ f∈Γ.fn,uZ p f) (gl:∀ g∈Γ.gl,GlE p g) (mt:∀ m∈Γ.mt,MtE p m/\pK m) (it:∀ i∈Γ.it,ItE p i/\dH i)
  (cl:∀ c∈Γ.cl,Cls p.K c.1/\∀ f∈c.2,tY p.K c.1 f) (sx:∀ k∈Γ.sx,SxE p k/\wG k.sp) (ix:Γ.ix=[]):Good Γ p where
 mono:=⟨fun f hf=>(fn f hf).2,fun m hm=>(mt m hm).2,fun i hi=>(it i hi).2,fun k hk=>(sx k hk).2,fun k hk=>by rw [ix] at hk;cases hk⟩
 un:=un
 fn:=fun f hf=>(fn f hf).1
 gl:=gl
 mt:=fun m hm=>(mt m hm).1
 it:=fun i hi=>(it i hi).1
 cl:=cl
 sx:=fun k hk=>(sx k hk).1
 ix:=fun k hk=>by rw [ix] at hk;cases hk
theorem yE {α:Type} {P:α->Prop}:∀ x∈([]:List α),P x:=fun _ h=>nomatch h
theorem zU {α:Type} {P:α->Prop} {a:α} {l:List α} (h:P a) (t:∀ x∈l,P x):∀ x∈a::l,P x:=fun x hx=>by
 rcases List.mem_cons.mp hx with rfl|hx
 .exact h
 .exact t x hx
theorem pA {α:Type} {P:α->Prop} {a:α} {l:List α} (t:∀ x∈l,P x) (h:P a):∀ x∈l++[a],P x:=fun x hx=>by
 rcases List.mem_append.mp hx with hx|hx
 .exact t x hx
 .rw [zzO hx];exact h
theorem wL {q:Pr} {A:Around} {x:Str} {w:W} {u:Value} {v:V} (hm:q.mg x=some u) (r:zD v u) (rp:∀ H,xN q.K H w v):GlE (q.at A) (x,w):=by
 intro X fits gl qp hd hn;have hm':X.mg x=some u:=by rw [fits.mg];exact hm
 refine (zhm gl hm' r hd).imp fun τ H Q h=>?_;obtain ⟨σ,G,hs,ab,h⟩:=h;exact h v H .refl (by have:=rp H;rw [fits.K];exact this) ab
theorem zdO {q:Pr} {A:Around} {x:Str} {T:String} (hm:q.mg x=none) (hv:bootBuiltins x=some (.type T)):GlE (q.at A) (x,.ty T):=by
 intro X fits gl qp hd hn;have hm':X.mg x=none:=by rw [fits.mg];exact hm
 refine (zhq (v:=.ty T) gl hm' hv rfl hn hd).imp fun τ H Q h=>?_;obtain ⟨σ,G,hs,ab,h⟩:=h;exact h (.ty T) H .refl rfl ab
theorem tU {K:yL} {a:Addr} {o:Obj} {its:Array Value} {n:Nat} {ws:List W} {vs:List V} (l:K.lookup a=some o) (hc:o.cls=.type "tuple") (hd:o.data=.seq its n) (hz:its.size<=sizeLine) (hv:zE vs its.toList) (hr:∀ H,zF K H ws vs):∀ H,xN K H (.tup ws) (.ref a) :=
 fun H=>⟨a,vs,rfl,.inr ⟨o,its,n,l,hc,hd,hz,hv⟩,hr H⟩
theorem zc3:dH ⟨"range", rngI⟩:=by
 intro ws G R R' k h;replace h:rngI ws G R:=h;show rngI ws G R';unfold rngI at h ⊢
 split at h
 .exact ⟨h.1,k _ _ _ h.2⟩
 .exact h.elim
def zcO:uU:=fun ws G Q _=>∃ a base ns,ws=[a,.int base]/\zcx G a ns/\ns.length<=63/\(0<=base/\base<=1000)/\∀ d l G',G d=none->G l=none->zI [] G G'->jZ G' d l->Q (.ref d) G'
def gO:uU:=fun ws G Q _=>∃ d l m,ws=[.ref d,.int m]/\jZ G d l/\(0<m/\m<1073741824)/\∀ r G',0<=r->r<m->zI [d,l] G G'->jZ G' d l->Q (.int r) G'
theorem zaC:dG ⟨"_law_deal", zcO⟩:=fun ws G Q Q' E k hh=>by
 obtain ⟨a,b,ns,h1,h2,h3,h4,h⟩:=hh;exact ⟨a,b,ns,h1,h2,h3,h4,fun d l G' a b c e=>k _ _ (h d l G' a b c e)⟩
theorem zaB:dG ⟨"_law_draw", gO⟩:=fun ws G Q Q' E k hh=>by
 obtain ⟨a,b,m,h1,h2,h3,h⟩:=hh;exact ⟨a,b,m,h1,h2,h3,fun d l a b c e=>k _ _ (h d l a b c e)⟩
abbrev zkB:Fn3:=⟨"_law_deal", zcO⟩
abbrev zd1:Fn3:=⟨"_law_draw", gO⟩
abbrev eAll:Fn3:=⟨"all", fun ws G Q _=>allS (·.all id) ws G Q⟩
abbrev eLst:Fn3:=⟨"list", fun ws G Q _=>lstS ws G Q⟩
abbrev eIsi (K:yL):Fn3:=⟨"isinstance", fun ws G Q _=>isiS K ws G Q⟩
abbrev eRng:It3:=⟨"range", rngI⟩
section
variable {q : Pr} {A : Around} {k : Nat}
theorem zh9 (hm:q.mg "max" = none):uZ (q.at A) eMax:=⟨dX hm (by decide +kernel) (fun X f=>zjQ f.calm) bJ (fun _ _ h=>h),fun ws G Q Q' _ k h=>bJ ws G Q Q' k h⟩
theorem zib (hm:q.mg "len" = none):uZ (q.at A) eLen:=⟨dX hm (by decide +kernel) (fun X f=>zjV) bH (fun _ _ h=>h),fun ws G Q Q' _ k h=>bH ws G Q Q' k h⟩
theorem zif (hm:q.mg "all" = none):uZ (q.at A) eAll:=⟨dX hm (by decide +kernel) (fun X f=>zkL f.calm) (zaz _) (fun _ _ h=>h),fun ws G Q Q' _ k h=>zaz _ ws G Q Q' k h⟩
theorem zia (hm:q.mg "list" = none):uZ (q.at A) eLst:=⟨fn_ty hm (by decide +kernel) (fun X f=>zjS) bI (fun _ _ h=>h),fun ws G Q Q' _ k h=>bI ws G Q Q' k h⟩
theorem zic (hm:q.mg "isinstance" = none):uZ (q.at A) (eIsi q.K):=⟨dX (id := "isinstance") hm (by decide +kernel) (fun X f=>by rw [← show X.K=q.K from f.K];exact zkm) (bB _) (fun _ _ h=>h),fun ws G Q Q' _ k h=>bB _ ws G Q Q' k h⟩
theorem zh8:MtE (q.at A) ePop/\pK ePop:=⟨fR PySem.F.plainAttrs_list PySem.F.slot_list_pop PySem.F.type_list_pop (fun X f=>zjp) bP,bP⟩
theorem zh6 (hm:q.mg "range" = none):ItE (q.at A) eRng/\dH eRng:=⟨zkl hm,zc3⟩
theorem zh7 (hl:q.mg "list" = none) (hm:q.mg "reversed" = none):SxE (q.at A) eRev/\wG eRev.sp:=⟨ziT hl hm (by decide +kernel) bR (fun X f=>zjd f.calm),bR⟩
end
theorem FnE.imp {p:Par} {nm:Str} {sp sp':uU} (h:FnE p ⟨nm,sp'⟩) (k:∀ ws G Q,sp ws G Q XN->sp' ws G Q XN):FnE p ⟨nm,sp⟩:=by
 intro X fits gl args t qp pos mt hn pa hnil hdb hnm;refine (h X fits gl args t qp pos mt hn pa hnil hdb hnm).imp fun τ H Q z=>?_;obtain ⟨σ,G,hs,ab,z⟩:=z;exact ⟨σ,G,hs,ab,mt σ G _ _ (fun ws G1 z=>k _ _ _ z) z⟩
theorem uA {K:yL} {x qual:Str} {st:Stmt} {f:Addr} {fd:FuncData} {ps:List Str} (F:FunD K x qual st .none f fd)
  (h:∀ (kV doc pm:Value) (an:Option Addr) (cdv ct:Value) (us:List Value),us.length=ps.length->bindArgs (PySem.W.fnOf x qual (zA st) (zT st) (zZ st) .none kV doc pm an cdv ct) ⟨us,[]⟩=pure (ps.zip us)):tD K fd ps []:=by
 obtain ⟨oc,od,kV,doc,pm,an,cdv,ct,osl,rfl,lk,hcd⟩:=F.ex;exact .all (h kV doc pm an cdv ct)
theorem zaY {q:Pr} {j k:Nat} {nm:Str} {f:Addr} {fd:FuncData} {ps:List Str} {sp:uU} (FO:FnOk q.prog q.w q.K q.mg q.base CX0 j f fd ps (vC q.K sp)) (hm:q.mg nm=some (.ref f)) (hk:PySem.W.keepIn q.K (.ref f)=true) (hb:tD q.K fd ps [])
  (mono:dG ⟨nm,sp⟩) {A:Around} (hr:Room k A) (hjk:j<=k):uZ (q.at A) ⟨nm,sp⟩ :=
 ⟨(zkw (dws:=[]) (dvs:=[]) (FO.mono hjk) hm hk hb (fun _=>rfl) .nil (fun ws G Q Q' z h=>mono ws G Q Q' XN z h) hr).imp fun ws G Q h=>by rw [List.append_nil];exact h,mono⟩
def bZ:uU:=fun ws G Q _=>∃ a ns,ws=[a]/\zcx G a ns/\ns.length<=63/\∀ G',Q (.bl true) G'
theorem tW {K:yL} {H:Hp}:∀ ns:List Int,zF K H (ns.map W.int) (ns.map V.int)
 | []=>rfl
 |n::ns=>⟨.int n,_,rfl,rfl,tW ns⟩
theorem zdv {K:yL} {H:Hp} {a:Addr} {ns:List Int} (hl:ns.length<=63) (hS:pM K H a (ns.map V.int)):vC K bZ [.ref a] H (fun v _=>v=.bl true) fun _ _ _=>False:=by
 rcases hS with hS|hS
 .refine ⟨[.ref a],fun b=>if b=a then some (.fix (ns.map W.int)) else none,⟨_,[],rfl,rfl,rfl⟩,?_,.ref a,ns,rfl,.inl ⟨a,rfl,by simp [yU]⟩,hl,fun G' v H' _ r _=>r⟩;intro b o e;dsimp only at e
  by_cases hb:b=a
  .subst hb;rw [if_pos rfl] at e;cases e;rcases hS with hS|⟨ob,hS⟩
   .exact ⟨_,hS,_,default,.inl rfl,tW ns⟩
   .exact ⟨_,hS,_,ob,.inr rfl,tW ns⟩
  .rw [if_neg hb] at e;cases e
 .exact ⟨[.lsf (ns.map W.int)],fun _=>none,⟨_,[],rfl,⟨a,_,rfl,hS,tW ns⟩,rfl⟩,(fun b o e=>nomatch e),.lsf (ns.map W.int),ns,rfl,.inr rfl,hl,fun G' v H' _ r _=>r⟩
theorem walk3 {l:PySem.W.OpenLaw} {k:Nat} {q:Program} {loose:List Str} {XP:(Str->Option Value)->Heap->Prop} {YP:World->Heap->Prop} {d:DefRec} {K:Params->PySem.W.Frag} (hn:l.most=some 63) (hdf:d.params.defaults=[]) (hr:Room k callerA)
  (hY:∀ (w:World) (h:Heap),YP w h->(K w.params).In h)
  (F:∀ (w:World) (mg:Str->Option Value) (fa:Addr) (h:Heap),(K w.params).In h->h.Ns mainGlobals mg->mg d.name=some (.ref fa) ->
   ∃ fd:FuncData,(∀ (s:Shared) (u:Value),BindsTo s fd ⟨[u],[]⟩ [("_law_script", u)])/\fd.scope.names.lookup ("_law_script" : Str)=some .local/\∀ base:Heap,(K w.params).In base->base.Ns mainGlobals mg->FnOk l.prog w (K w.params) mg base CX0 k fa fd ["_law_script"] (vC (K w.params) bZ)) :
  PySem.W.WalkO q loose XP YP l.row.toRowW d [] (fun f vs=>PySem.call f vs) :=
 L2.walk_of (n:=63) (k:=k) (x := "_law_script") (CX:=fun _=>CX0) (sp:=fun w=>vC (K w.params) bZ) hn (by decide) hdf hr hY F (fun _ _ a ns hl _ hS=>zdv hl hS) fun _ _ _ _ _ z=>z
end L3
namespace L3
open PySem PySem.Spec PyProof.Rows L2 PySem.SeqAt
def bD:MS:=fun x ws G Q=>match x,ws with
 | .str sep,[.ref p]=>∃ ts:List Str,yU G p=some (ts.map .str)/\JoinOk sep ts=true/\Q (.str (Txt.join sep ts)) G
 |_,_=>False
theorem fC:∀ x ws G (Q Q':Q3),(∀ w G',Q w G'->Q' w G')->bD x ws G Q->bD x ws G Q':=by
 intro x ws G Q Q' k h;unfold bD at h ⊢
 split at h
 .obtain ⟨ts,e,o,h⟩:=h;exact ⟨ts,e,o,k _ _ h⟩
 .exact h.elim
theorem cD {K:yL} {H:Hp}:∀ {ts:List Str} {vs:List V} {us:List Value},zF K H (ts.map .str) vs->zE vs us->∃ l:List (Str×Tok),l.map (·.1)=ts/\us=strValues l
 | [],vs,us,r,v=>by cases (show vs=[] from r);cases v;exact ⟨[],rfl,rfl⟩
 |t::ts,vs,us,r,v=>by
  obtain ⟨x,tl,rfl,rx,rt⟩:=r;cases (show x=.str t from rx)
  cases v with
  |cons a c =>
   obtain ⟨tk,rfl⟩:=a;obtain ⟨l,e1,e2⟩:=cD rt c;exact ⟨(t,tk)::l,by rw [zzU,e1],by rw [e2];rfl⟩
theorem zhI {X:Cx}:MtR X "str.join" (lowM X.K bD):=by
 intro pins s σ H x xs v us Q I rx rxs h;obtain ⟨w,ws,G,rw1,rs,ab,h⟩:=h;unfold bD at h
 split at h
 .rename_i sep p;cases (show x=.str sep from rw1);obtain ⟨y,rfl,ry⟩:=kH rs;cases (show y=.ref p from ry);obtain ⟨u,rfl,ru⟩:=kM rxs;cases (show u=Value.ref p from ru);obtain ⟨t,rfl⟩:=rx;obtain ⟨ts,e,ok,h⟩:=h;obtain ⟨vs,sq,rr⟩:=ab.seq e;obtain ⟨its,vv,pl,hz⟩:=I.list sq;obtain ⟨l,e1,e2⟩:=cD rr vv;subst e2;exact wH I.tk (SC.join pl.isList e1 ok fun t' k h0=>⟨.str (Txt.join sep ts),H,I.tok _ h0,⟨t',rfl⟩,h _ H .refl rfl ab⟩)
 .exact h.elim
abbrev zd0:Mt3:=⟨"join", "str", bD⟩
theorem zfL {q:Pr} {A:Around}:MtE (q.at A) zd0/\pK zd0:=⟨fR PySem.F.plainAttrs_str PySem.F.slot_str_join PySem.F.type_str_join (fun X f=>zhI) fC,fC⟩
theorem zf9 {q:Pr} {k:Nat} {M:MC} {nm qual:Str} {st:Stmt} {f:Addr} {fd:FuncData} {ps:List Str} {sp:Nat->uU} {body:ISs} {Γ:Fn3->Ctx3} (F:FunD q.K nm qual st .none f fd) (S:FnScope M.N ps (zZ st))
  (hm:q.mg nm=some (.ref f)) (hb:tD q.K fd ps []) (h0:∀ ws G Q,¬ sp 0 ws G Q XN) (len:∀ n ws G Q,sp n ws G Q XN->ws.length=ps.length) (mono:∀ n,dG ⟨nm,sp n⟩)
  (g:∀ n A,Room k A->uZ (q.at A) ⟨nm,sp n⟩->Good (Γ ⟨nm,sp n⟩) (q.at A)) (eM:∀ n,MOk (Γ ⟨nm,sp n⟩) M (zZ st)) (look:qB body M (zT st)=true)
  (hbd:∀ n ws G Q,sp (n+1) ws G Q XN->zH (Γ ⟨nm,sp n⟩) XN body { nx:=fun _ G'=>Q .non G',rt:=Q } (yO M.N ws) G):∀ n,FnOk q.prog q.w q.K q.mg q.base CX0 (k+n) f fd ps (vC q.K (sp n))
 | 0=>⟨fun vs H Q E ⟨ws,G,_,_,h⟩=>absurd h (h0 _ _ _),fun A outer s H args us vs Q E _ _ _ _ ⟨ws,G,_,_,h⟩=>absurd h (h0 _ _ _),fun x _ _ A outer s H args us vs Q E _ _ _ _ ⟨ws,G,_,_,h⟩=>absurd h (h0 _ _ _)⟩
 |n+1=>rL (k:=k+n) F S (fun A hr=>g n A (hr.mono (Nat.le_add_right _ _)) (zaY (zf9 F S hm hb h0 len mono g eM look hbd n) hm F.kp hb (mono n) hr (zzR _))) (eM n) look (len (n+1)) (hbd n)
end L3
namespace L2
open PySem PySem.Spec PyProof.Rows
section
variable {a b : Bool} {z TI TO i1 i2 l1 l2 : Addr}
theorem zp_go {P:Program} {w:World} {A:Around} {E:Value->Shared->Prop} {s:Shared} {tg:Expr} {u:Value} {i:Nat} {Q:Unit->Shared->Prop} (hd:[z,TI,TO,i1,i2].Nodup) (st:uV a b z TI TO i1 i2 l1 l2 i s.heap)
  (h:∀ h',uV a b z TI TO i1 i2 l1 l2 i h'->(∀ c o,c≠z->s.heap.get? c=some o->h'.get? c=some o)->Q () { s with heap:=h' }):wpAny (model P w) A (letOwnedTupleGo tg (.ref z) u) Q E s:=by
 have stay:Q () s:=h s.heap st fun _ _ _ e=>e
 have core:wpAny (model P w) A (do
   let (.ref r,.ref t):=(Value.ref z,u)|return
   let o ← load r
   match o.cls,o.data with
   | .type n,.fields vs =>
    if ["enumerate", "zip", "dict_itemiterator", "dict_reverseitemiterator", "odict_iterator", "itertools.zip_longest", "itertools.pairwise"].contains n&&vs[0]?==some (rawInt t) then
     rule "for.unpacks-the-owned-tuple"
     updateField r 0 .none
   |_,_=>pure ()) Q E s:=by
  cases u with
  |ref t =>
   obtain ⟨f0,f1,hz,h0,h1,hTI,⟨p,q,hTO⟩,s1,s2⟩:=st;refine wpAny_bind (wpAny_load hz ?_);dsimp only
   split
   .refine wpAny_bind (wpAny_rule ?_);show wpAny _ _ (setField (.ref z) 0 .none) Q E s;refine wpAny_setField_rec hz (by simp) fun h' hz' hs'=>h h' ⟨.none,f1,hz',.inl rfl,h1,?_,⟨p,q,?_⟩,s1.at ?_,s2.at ?_⟩ fun c o hc e=>(hs'.2 c hc).trans e
    all_goals simp only [List.nodup_cons,List.mem_cons,List.not_mem_nil,or_false,not_or,List.nodup_nil,not_false_eq_true,and_true] at hd
    .exact (hs'.2 _ (Ne.symm hd.1.1)).trans hTI
    .exact (hs'.2 _ (Ne.symm hd.1.2.1)).trans hTO
    .exact fun o e=>(hs'.2 _ (Ne.symm hd.1.2.2.1)).trans e
    .exact fun o e=>(hs'.2 _ (Ne.symm hd.1.2.2.2)).trans e
   .exact wpAny_pure stay
  |_=>exact wpAny_pure stay
 cases tg with
 |Tuple es x p=>exact core
 |List es x=>exact core
 |_=>exact wpAny_pure stay
theorem zgH (P:Program) (w:World) (K:PySem.W.Frag) (tg:Expr) (hd:[z,TI,TO,i1,i2].Nodup) (n1:l1∉[z,TI,TO,i1,i2]) (n2:l2∉[z,TI,TO,i1,i2]):Turn P w K tg (Itz a b K l1 l2) [z,TI,TO,i1,i2] z (uV a b z TI TO i1 i2 l1 l2) where
 mem:=by simp
 obj:=fun i h x=>x.obj
 keep:=fun i h h' x k=>x.keep k
 item:=by
  intro X e1 e2 e3 hc i pins s σ H E I hf st go;subst e1;subst e2;subst e3;refine yH (zgI (I.ok.hd hc) hd n1 n2 I hf st go) fun r s2 ⟨u,x,H',q1,q2,q3,q4,q5,_,q6⟩=>⟨u,q1,zp_go hd q5 fun h' st' k=>⟨x,H',?_,q3,q4,st',q6⟩⟩;refine q2.turns (t':=s2.toks) (fp:=[z]) (fun c hcz=>?_) fun c o hcz e=>k c o (fun z=>hcz (by rw [z];simp)) e;rw [List.mem_singleton] at hcz;subst hcz;obtain ⟨_,f2,f3,f4,f5,f6⟩:=hf c (by simp);exact ⟨q6 c (by simp),f2,f3,f4,f5,f6⟩
 done:=by
  intro X e1 e2 e3 hc i pins s σ H E I hf st stop;subst e1;subst e2;subst e3;exact zgL (I.ok.hd hc) hd n1 n2 I hf st stop
 self:=fun A i s Q E st h=>zcy st h
end
end L2
namespace L3
open PySem PySem.Spec PyProof.Rows L2 PySem.SeqAt
def zipI (ws:List W) (G:Hw) (R:List W->(Hw->Prop)->Hw->Prop):Prop:=match ws with
 | [x,y]=>∃ xs ys,qK G x=some xs/\qK G y=some ys/\R (List.zipWith (fun a b=>W.tup [a,b]) xs ys) (fun G'=>qK G' x=some xs/\qK G' y=some ys) G
 |_=>False
theorem zcz:dH ⟨"zip", zipI⟩:=by
 intro ws G R R' k h;replace h:zipI ws G R:=h;show zipI ws G R';unfold zipI at h ⊢
 split at h
 .obtain ⟨xs,ys,e1,e2,h⟩:=h;exact ⟨xs,ys,e1,e2,k _ _ _ h⟩
 .exact h.elim
def bOf (w:W):Bool:=match w with|.tup _=>true|_=>false
theorem rC {K:yL} {H1 H:Hp} {G1 G:Hw} {w:W} {a:Addr} {vs:List V} {b:Bool} {xs:List W} (g:yJ K H1 H) (ab:xR K H G) (r1:xN K H1 w (.ref a)) (b1:qK G1 w=some xs) (sq1:SqB b K H1 a vs) (hb:b=bOf w) (st:qK G w=some xs) (rr1:zF K H1 xs vs) :
  ∃ vs',SqB b K H a vs'/\zF K H xs vs':=by
 cases w with
 |tup ws =>
  subst hb;exact ⟨vs,g.1 _ _ sq1,rr1.mono g⟩
 |ref p =>
  subst hb;cases (show V.ref a=.ref p from r1);obtain ⟨vs',sq,rr⟩:=ab.seq st;exact ⟨vs',sq,rr⟩
 |_=>cases b1
theorem sK {K:yL} {H:Hp} {G:Hw} {w:W} {v:V} {xs:List W} (ab:xR K H G) (r:xN K H w v) (e:qK G w=some xs):∃ a vs,v=.ref a/\SqB (bOf w) K H a vs/\zF K H xs vs:=by
 cases w with
 |tup ws =>
  obtain ⟨a,vs,rfl,sq,rr⟩:=r;cases e;exact ⟨a,vs,rfl,sq,rr⟩
 |ref p =>
  cases (show v=.ref p from r);obtain ⟨vs,sq,rr⟩:=ab.seq e;exact ⟨p,vs,rfl,sq,rr⟩
 |_=>cases e
theorem zke {K:yL} {H1:Hp} {G1:Hw} {x y:W} {a1 a2:Addr} {vx vy:List V} {xs ys:List W} (rx:xN K H1 x (.ref a1)) (ry:xN K H1 y (.ref a2)) (ex:qK G1 x=some xs) (ey:qK G1 y=some ys) (sx:SqB (bOf x) K H1 a1 vx) (sy:SqB (bOf y) K H1 a2 vy)
  (rrx:zF K H1 xs vx) (rry:zF K H1 ys vy):ItIs K (Itz (bOf x) (bOf y) K a1 a2) H1 (List.zipWith (fun a b=>W.tup [a,b]) xs ys) (fun G'=>qK G' x=some xs/\qK G' y=some ys) where
 go:=fun i H G g ab st hi=>by
  obtain ⟨vx',sx',rx'⟩:=rC g ab rx ex sx rfl st.1 rrx;obtain ⟨vy',sy',ry'⟩:=rC g ab ry ey sy rfl st.2 rry;have h1:=rx'.length;have h2:=ry'.length;rw [List.length_zipWith] at hi;exact ⟨vx',vy',vx'[i]'(by omega),vy'[i]'(by omega),sx',sy',List.getElem?_eq_getElem _,List.getElem?_eq_getElem _⟩
 yld:=fun i H G v H' g ab st hi yl=>by
  obtain ⟨vx',sx',rx'⟩:=rC g ab rx ex sx rfl st.1 rrx;obtain ⟨vy',sy',ry'⟩:=rC g ab ry ey sy rfl st.2 rry;obtain ⟨p,x',y',rfl,hp,rfl,e2,e3⟩:=yl;have e2:=e2 vx' sx';have e3:=e3 vy' sy';obtain ⟨wx,ewx,rpx⟩:=rx'.get' e2;obtain ⟨wy,ewy,rpy⟩:=ry'.get' e3;have gr:yJ K H (xI H p (.tup [x',y'])):=wZ hp;refine ⟨.tup [wx,wy],?_,gr,⟨p,[x',y'],rfl,.of wW,⟨_,_,rfl,rpx.mono gr,_,_,rfl,rpy.mono gr,rfl⟩⟩,ab.tup hp⟩;rw [List.getElem?_zipWith,ewx,ewy]
 stop:=fun i H G g ab st hi=>by
  obtain ⟨vx',sx',rx'⟩:=rC g ab rx ex sx rfl st.1 rrx;obtain ⟨vy',sy',ry'⟩:=rC g ab ry ey sy rfl st.2 rry;have h1:=rx'.length;have h2:=ry'.length;rw [List.length_zipWith] at hi;refine ⟨vx',vy',sx',sy',?_⟩
  by_cases hl:xs.length<=ys.length
  .left;rw [List.getElem?_eq_none];omega
  .right;rw [List.getElem?_eq_none];omega
theorem zkk {q:Pr} {A:Around} (hm:q.mg "zip" = none):ItE (q.at A) ⟨"zip", zipI⟩:=by
 intro X fits gl tg args t qp pos mt hn pa hnil hdb hnm;have hm':X.mg "zip" = none:=by rw [fits.mg];exact hm
 intro pins s σ H R I h
 cases args with
 |nil =>
  obtain ⟨σ3,G,hs,ab,h⟩:=h;exact (hnil rfl _ _ _ h).elim
 |cons a r =>
  obtain ⟨s1,s2⟩:=xA (env:=X.env) (pos:=pos) hn;obtain ⟨σ3,G,hs,ab,h⟩:=h
  have h':=nX (S:=fun vs H1=>∃ x y a1 a2 vx vy,vs=[.ref a1,.ref a2]/\SqB (bOf x) X.K H1 a1 vx/\SqB (bOf y) X.K H1 a2 vy/\R (Itz (bOf x) (bOf y) X.K a1 a2) H1) mt hs ab h fun ws G1 vs H1 g1 hs1 rs a1 h=>by
   dsimp only at h;unfold zipI at h
   split at h
   .rename_i x y;obtain ⟨v1,v2,rfl,r1,r2⟩:=zeV rs;obtain ⟨xs,ys,ex,ey,h⟩:=h;obtain ⟨p1,vx,rfl,sx,rx⟩:=sK a1 r1 ex;obtain ⟨p2,vy,rfl,sy,ry⟩:=sK a1 r2 ey;exact ⟨x,y,p1,p2,vx,vy,rfl,sx,sy,h _ H1 g1 a1 (zke r1 r2 ex ey sx sy rx ry)⟩
   .exact h.elim
  refine Call_ (sR I gl hm' (by decide +kernel:bootBuiltins "zip" = some (.type "zip")) (PyProof.Rows.callWith_type1 (yH (pa pos pins s σ H _ I h') fun us s1 ⟨vs,H1,I1,r1,q1⟩=>?_) s1 s2));obtain ⟨x,y,a1,a2,vx,vy,e,sx,sy,q⟩:=q1;subst e;obtain ⟨u1,u2,rfl,ru1,ru2⟩:=zet r1;cases (show u1=Value.ref a1 from ru1);cases (show u2=Value.ref a2 from ru2);obtain ⟨itx,vvx,ssx,hzx⟩:=I1.sqB sx;obtain ⟨ity,vvy,ssy,hzy⟩:=I1.sqB sy
  have lt1:a1<s1.heap.objs.size:=by
   cases hb:bOf x<;>rw [hb] at ssx<;>(obtain ⟨o,ho,_⟩:=ssx;exact Heap.lt_size ho)
  have lt2:a2<s1.heap.objs.size:=by
   cases hb:bOf y<;>rw [hb] at ssy<;>(obtain ⟨o,ho,_⟩:=ssy;exact Heap.lt_size ho)
  refine ziq ssx ssy fun h' z1 z2 z3 z4 z5 z6 z7=>?_;have I2:Inv X pins σ H1 { s1 with heap:=h',toks:=s1.toks }:=I1.kept z7;have hd:=zcn s1.heap.objs.size;have n1:=zbM _ _ lt1;have n2:=zbM _ _ lt2;have hf:∀ b∈[s1.heap.objs.size+4,s1.heap.objs.size+2,s1.heap.objs.size+3,s1.heap.objs.size,s1.heap.objs.size+1],vD X pins H1 b:=fun b hb=>I1.fpOk (zdS _ _ hb) (I1.hok.fresh (zdS _ _ hb));have st:uV (bOf x) (bOf y) (s1.heap.objs.size+4) (s1.heap.objs.size+2) (s1.heap.objs.size+3) s1.heap.objs.size (s1.heap.objs.size+1) a1 a2 0 h':=⟨.none,.bool false,z1,.inl rfl,.inl rfl,z2,⟨_,_,z3⟩,z4,z5⟩;refine zcy st ⟨_,_,_,_,H1,rfl,I2,zgH X.prog X.w X.K tg hd n1 n2,st,hf,q⟩
abbrev eZpi:It3:=⟨"zip", zipI⟩
theorem zh5 {q:Pr} {A:Around} (hm:q.mg "zip" = none):ItE (q.at A) eZpi/\dH eZpi:=⟨zkk hm,zcz⟩
def dF {α:Type} (n:Nat) (R:α->Prop):PySem.W.KasT α->Prop
 | .ret a=>R a
 | .ask i j k=>i<n/\j<n/\∀ b,dF n R (k b)
theorem dF.bnd {α β:Type} {n:Nat} {R:α->Prop} {R':β->Prop} {f:α->PySem.W.KasT β} (hf:∀ a,R a->dF n R' (f a)):∀ {t:PySem.W.KasT α},dF n R t->dF n R' (t.bind f)
 | .ret a,h=>hf a h
 | .ask i j k,h=>⟨h.1,h.2.1,fun b=>dF.bnd hf (h.2.2 b)⟩
def krun {α:Type} (lt:Nat->Nat->Bool):PySem.W.KasT α->α
 | .ret a=>a
 | .ask i j k=>krun lt (k (lt i j))
theorem zdy {α:Type} {n:Nat} {R:α->Prop} (lt:Nat->Nat->Bool):∀ {t:PySem.W.KasT α},dF n R t->R (krun lt t)
 | .ret a,h=>h
 | .ask i j k,h=>by
  show R (krun lt (k (lt i j)));exact zdy lt (h.2.2 (lt i j))
theorem zgq {α:Type} {n:Nat} {R:α->Prop} {lt:Nat->Nat->Bool} {cmp:Nat->Nat->(Bool->Shared->Prop)->Shared->Prop} {Q:α->Shared->Prop} {s:Shared} (hc:∀ i j C,i<n->j<n->C (lt i j) s->cmp i j C s) :
  ∀ {t:PySem.W.KasT α},dF n R t->Q (krun lt t) s->t.kasWp cmp Q s
 | .ret a,_,h=>h
 | .ask i j k,o,h=>hc i j _ o.1 o.2.1 (zgq hc (o.2.2 _) h)
def Pm (n:Nat) (p:Array Nat):Prop:=p.Perm (List.toArray (List.range n))
theorem Pm.lt {n:Nat} {p:Array Nat} (h:Pm n p) (hn:0<n) (i:Nat):p.getD i 0<n:=by
 by_cases hi:i<p.size
 .have e:p.getD i 0=p[i]:=by simp [Array.getD,hi]
  rw [e];have hm:p[i]∈p.toList:=by simp
  have:=(Array.perm_iff_toList_perm.mp h).mem_iff.mp hm;simpa using this
 .have e:p.getD i 0=0:=by simp [Array.getD,hi]
  rw [e];exact hn
theorem Pm.rev {n:Nat} {p:Array Nat} (h:Pm n p) (i j:Nat):Pm n (PySem.W.kas_rev p i j):=(mirror_perm p i j _).trans h
section
variable {n : Nat} {p : Array Nat}
theorem zem (hn:0<n) (h:Pm n p):∀ f m,dF n (fun _=>True) (PySem.W.kas_asc p f m)
 | 0,m=>True.intro
 |f+1,m=>⟨h.lt hn _,h.lt hn _,fun b=>by
  cases b
  .exact zem hn h f (m+1)
  .exact True.intro⟩
theorem hZ (hn:0<n):∀ f (p:Array Nat) m q,Pm n p->dF n (fun r=>Pm n r.1) (PySem.W.kas_desc f p m q)
 | 0,p,m,q,h=>h
 |f+1,p,m,q,h=>⟨h.lt hn _,h.lt hn _,fun b=>by
  cases b
  .refine ⟨h.lt hn _,h.lt hn _,fun d=>?_⟩;cases d
   .exact hZ hn f p _ _ h
   .exact h
  .simp only [if_true]
   split
   .exact hZ hn f _ _ _ (h.rev _ _)
   .exact hZ hn f p _ _ h⟩
theorem zbg (hn:0<n) (h:Pm n p) (m r:Nat):dF n (fun x=>Pm n x.2) (PySem.W.kas_tail3 m r p):=by
 refine dF.bnd (fun a _=>?_) (zem hn (h.rev _ _) _ _);exact h.rev _ _
theorem nZ (hn:0<n) (h:Pm n p) (m r:Nat):dF n (fun x=>Pm n x.2) (PySem.W.kas_descPart m r p):=by
 refine dF.bnd (fun a ha=>?_) (hZ hn _ _ _ _ h)
 split
 .exact zbg hn (ha.rev _ _) _ _
 .exact zbg hn ha _ _
theorem zfQ (hn:0<n) (h:Pm n p) (r:Nat):dF n (fun x=>Pm n x.2) (PySem.W.kas_count r p):=by
 refine dF.bnd (fun a _=>?_) (zem hn h _ _)
 split
 .exact h
 .split
  .refine ⟨h.lt hn _,h.lt hn _,fun b=>?_⟩;cases b
   .exact nZ hn (h.rev _ _) _ _
   .exact h
  .exact nZ hn h _ _
theorem gC (hn:0<n) (h:Pm n p) (k:Nat):∀ f l r,dF n (fun _=>True) (PySem.W.kas_place p k f l r)
 | 0,l,r=>True.intro
 |f+1,l,r=>by
  show dF n _ (if l>=r then _ else _)
  split
  .exact True.intro
  .refine ⟨h.lt hn _,h.lt hn _,fun b=>?_⟩;cases b
   .exact gC hn h k f _ _
   .exact gC hn h k f _ _
theorem zeg (hn:0<n):∀ f (p:Array Nat) k,Pm n p->dF n (Pm n) (PySem.W.kas_bin f p k)
 | 0,p,k,h=>h
 |f+1,p,k,h=>dF.bnd (fun l _=>zeg hn f _ _ ((bubble_perm p k _).trans h)) (gC hn h k k 0 k)
theorem zcS (hn:0<n):dF n (Pm n) (PySem.W.kas_sort n):=by
 refine dF.bnd (fun r hr=>?_) (zfQ hn (Array.Perm.refl _) n)
 split
 .exact zeg hn _ _ _ hr
 .exact hr
end
def srtP (n:Nat) (lt:Nat->Nat->Bool):List Nat:=if n<2 then List.range n else (krun lt (PySem.W.kas_sort n)).toList
theorem rE (n:Nat) (lt:Nat->Nat->Bool):(srtP n lt).Perm (List.range n):=by
 unfold srtP
 split
 .exact List.Perm.refl _
 .exact Array.perm_iff_toList_perm.mp (zdy lt (zcS (by omega)))
theorem qI {α:Type} (d:α) (l:List α):(List.range l.length).map (fun i=>l.getD i d)=l:=by
 apply List.ext_getElem
 .simp
 .intro i h1 h2;simp [h2]
def LtAt (A:Around) (s:Shared) (y x:Value) (b:Bool):Prop :=
 ∀ (prog:Program) (w:World) (E:Value->Shared->Prop) (Q:Value->Shared->Prop),Q (.bool b) s->wpAny (model prog w) A (richCompare .Lt y x) Q E s
def Lx (A:Around) (s:Shared) (fin:Bool):List (Value×Value)->Bool->Prop
 | [],v=>v=fin
 | (p,q)::r,v=>∃ e:Bool,EqAt A s p q e/\if e=true then Lx A s fin r v else LtAt A s p q v
theorem zb7 (l b:Addr) (xs ys:Array Value) (n m:Nat) (d1 d2:Option Addr) (s1 s2:Array (Option Value)) (v:Bool) :
  Meets (Builtin.«tuple.__lt__» ⟨[.ref l,.ref b],[]⟩) (fun A R s=>s.heap.get? l=some { cls:=.type "tuple", dict:=d1,data:=.seq xs n,slots:=s1 }/\s.heap.get? b=some { cls:=.type "tuple", dict:=d2,data:=.seq ys m,slots:=s2 } /\
    Lx A.in1 s (decide (xs.size<ys.size)) (xs.toList.zip ys.toList) v/\R (.ok (.ret (.bool v))) s) :=
 .of_wp fun prog w A R s h=>by
  obtain ⟨hp,g,d,tk,os⟩:=s;obtain ⟨hl,hb,he,h⟩:=h;have f2:=AutoSeq1.sub_tuple_tuple
  wp_walk using wpAny_loadPart' hl,wpAny_loadPart' hb,wpAny_forIn_list _ (fun rest b s'=>b.1=none/\s'=⟨hp,g,d,tk,os⟩/\Lx A.in1 ⟨hp,g,d,tk,os⟩ (decide (xs.size<ys.size)) rest v) _
  case turn =>
   rintro ⟨y,x⟩ rest b s' ⟨hb',rfl,e,he,hr⟩;refine wpAny_bind (he prog w _ _ ?_)
   cases e with
   |true =>
    wp_walk
    exact ⟨rfl,rfl,by simpa using hr⟩
   |false =>
    have hr:LtAt A.in1 ⟨hp,g,d,tk,os⟩ y x v:=by simpa using hr
    have hr':∀ (E:Value->Shared->Prop) (Q:Value->Shared->Prop),Q (.bool v) ⟨hp,g,d,tk,os⟩->wpAny (model prog w) A.in1 (richCompare .Lt y x) Q E ⟨hp,g,d,tk,os⟩:=hr prog w
    repeat (first|with_reducible refine hr' _ _ ?_|wp_step)
    exact ⟨_,rfl,h⟩
  case fin =>
   rintro ⟨b1,b2⟩ s' ⟨hb',rfl,hz⟩;simp only at hb';subst hb';have hz:v=decide (xs.size<ys.size):=hz;subst hz
   wp_walk
   exact ⟨_,rfl,by simpa [Builtin.Tuple.tupleCompareSizes] using h⟩
  case h=>exact ⟨rfl,rfl,he⟩
mutual
def ltW:W->W->Option Bool
 | .str x,.str y=>some (decide (x.cps.toList<y.cps.toList))
 | .tup xs,.tup ys=>nH xs ys
 |_,_=>none
def nH:List W->List W->Option Bool
 | [],[]=>some false
 | [],_::_=>some true
 |_::_,[]=>some false
 |x::xs,y::ys=>if wY x y=true then nH xs ys else ltW x y
end
section
variable {X : Cx} {pins : List (Addr × Obj)} {σ : L2.St} {H : Hp} {s : Shared}
def LtOk (X:Cx) (H:Hp) (s:Shared) (x:W):Prop:=∀ (y:W) (v v':V) (u u':Value) (A:Around) (b:Bool),xN X.K H x v->zD v u->xN X.K H y v'->zD v' u'->pur x=true->pur y=true->A.units+min (dep x) (dep y)<cLine->ltW x y=some b->LtAt A s u u' b
theorem zfh (I:Inv X pins σ H s):∀ (xs ys:List W) (vs vs':List V) (us us':List Value) (A:Around) (b:Bool),(∀ x∈xs,LtOk X H s x)->zF X.K H xs vs->zE vs us->zF X.K H ys vs'->zE vs' us'->wF xs=true->wF ys=true ->
  A.units+min (jN xs) (jN ys)<cLine->nH xs ys=some b->Lx A s (decide (us.length<us'.length)) (us.zip us') b
 | [],[],vs,vs',us,us',A,b,_,h,r,h',r',_,_,_,e=>by
  rw [show _=[] from h] at r;cases r;rw [show _=[] from h'] at r';cases r';cases e;rfl
 | [],y::ys,vs,vs',us,us',A,b,_,h,r,h',r',_,_,_,e=>by
  rw [show _=[] from h] at r;cases r;have l1:=h'.length;have l2:=r'.length;cases e;show true=decide (0<us'.length);rw [← l2,l1];rfl
 |x::xs,[],vs,vs',us,us',A,b,_,h,r,h',r',_,_,_,e=>by
  rw [show _=[] from h'] at r';cases r';cases e;rw [List.zip_nil_right];show false=decide (us.length<0);rfl
 |x::xs,y::ys,vs,vs',us,us',A,b,ok,h,r,h',r',px,py,hu,e=>by
  obtain ⟨v,t,e1,h,hs⟩:=h;obtain ⟨v',t',e2,h',hs'⟩:=h';subst e1;subst e2
  cases r with
  |cons r rs =>
   cases r' with
   |cons r' rs' =>
    have px:=xQ.mp px;have py:=xQ.mp py;simp only [jN] at hu;rw [List.zip_cons_cons];refine ⟨wY x y,zdY I x y _ _ _ _ A h r h' r' px.1 py.1 (by omega),?_⟩;simp only [nH] at e
    cases q:wY x y with
    |true =>
     rw [q,if_pos rfl] at e;rw [if_pos rfl];have:=zfh I xs ys _ _ _ _ A b (fun z hz=>ok z (List.mem_cons_of_mem _ hz)) hs rs hs' rs' px.2 py.2 (by omega) e;simpa using this
    |false =>
     rw [q,if_neg zzN] at e;rw [if_neg zzN];exact ok x zzT y _ _ _ _ A b h r h' r' px.1 py.1 (by omega) e
theorem zgn (I:Inv X pins σ H s):∀ x:W,LtOk X H s x:=by
 intro x
 induction x using W.ind with
 |tup xs ih =>
  intro y v v' u u' A b h r h' r' hx hy hu e;obtain ⟨a,vs,its,rfl,rfl,q,rs,vr,it,_⟩:=xW I h r
  cases y with
  |tup ys =>
   obtain ⟨c,us,its',rfl,rfl,q',rs',vr',it',_⟩:=xW I h' r';obtain ⟨⟨cls,dd,data,sl⟩,ho,hc,n,hd⟩:=it;obtain ⟨⟨cls2,dd2,data2,sl2⟩,ho2,hc2,n2,hd2⟩:=it';simp only at hc hd hc2 hd2;subst hc hd hc2 hd2;simp only [dep] at hu;intro prog w E Q hq;refine richCompare_meets_room (op:=.Lt) ⟨_,ho,rfl⟩ ⟨_,ho2,rfl⟩ F.slot_tuple_lt F.entry_tuple_lt (F.args_tuple_lt_2 _ _) (zb7 a c its.toArray its'.toArray n n2 dd dd2 sl sl2 b) ⟨ho,ho2,?_,show Value.bool b≠Value.notImplemented/\Q (.bool b) s from ⟨(fun x=>nomatch x),hq⟩⟩ (by omega);have:=zfh I xs ys _ _ _ _ A.in1 b ih rs vr rs' vr' hx hy (by show A.units+1+_<_;omega) e;simpa using this
  |_=>cases e
 |str x =>
  intro y v v' u u' A b h r h' r' hx hy hu e;cases (show v=.str x from h);obtain ⟨t,rfl⟩:=r
  cases y with
  |str z =>
   cases (show v'=.str z from h');obtain ⟨t',rfl⟩:=r';cases e;exact fun prog w E Q hq=>PyProof.Rows.lt_str hq
  |_=>cases e
 |_=>intro y v v' u u' A b _ _ _ _ _ _ _ e;cases e
end
section
variable {prog : Program} {w : World} {A : Around} {E : Value → Shared → Prop} {s : Shared} {D : Addr} {vs : List Value} {κ : SortKind} {lt : Nat → Nat → Bool}
def But (D:Addr) (h h':Heap):Prop:=∀ b o,b≠D->h.get? b=some o->h'.get? b=some o
def tH (vs:List Value) (lt:Nat->Nat->Bool):List Value:=(srtP vs.length lt).map fun i=>vs.getD i Value.none
theorem zdd (vs:List Value) (lt:Nat->Nat->Bool):(tH vs lt).length=vs.length:=by
 unfold tH;rw [zzM,(rE _ _).length_eq,List.length_range]
structure Asks (prog:Program) (w:World) (A:Around) (s:Shared) (D:Addr) (vs:List Value) (κ:SortKind) (lt:Nat->Nat->Bool):Prop where
 kind:∀ (h':Heap) (C:SortKind->Shared->Prop),2<=vs.length->But D s.heap h'->C κ { s with heap:=h' }->wpAny (model prog w) A (keyKind' vs.toArray) C (fun _ _=>False) { s with heap:=h' }
 ask:∀ (h':Heap) (i j:Nat) (C:Bool->Shared->Prop),But D s.heap h'->i<vs.length->j<vs.length->C (lt i j) { s with heap:=h' }->PySem.W.kas_ask prog w A κ vs i j C { s with heap:=h' }
theorem zfi {n:Nat} {P:PySem.Fin->Shared->Prop} (ho:s.heap.get? D=some (seqObj "list" vs.toArray n)) (h64:vs.length<64) (q:Asks prog w A s D vs κ lt)
  (h:∀ h' m,But D s.heap h'->h'.get? D=some (seqObj "list" (tH vs lt).toArray m)->P (.done (.ret .none)) { s with heap:=h' }):wpAny (model prog w) A (Builtin.«list.sort» ⟨[.ref D],[]⟩) P E s:=by
 have hD:D<s.heap.objs.size:=Heap.lt_size ho;have big:(64:Nat)<=sizeLine:=by rw [sizeLine_eq];decide
 have sz:vs.toArray.size=vs.length:=List.size_toArray;obtain ⟨e1,ho1⟩:∃ e1,(s.heap.update D (Obj.mapSeq fun _=>(#[]:Array Value))).get? D=some (seqObj "list" #[] e1):=⟨_,get?_update_seq ho fun _=>#[]⟩;rw [list_sort_plain];refine wpAny_bind (listItems_at ho rfl (wpAny_bind (listUpdate_at ho rfl (wpAny_bind (seqEpoch_at ho1 rfl ?_)) (by rw [sz];omega) (Nat.zero_le _))));refine wpAny_bind (wpAny_newTuple (wpAny_bind (wpAny_newList (wpAny_holding ?_) (Nat.zero_le _))) (by show vs.length<=_;omega));generalize hh:((s.heap.update D (Obj.mapSeq fun _=>(#[]:Array Value))).push { cls:=.type "tuple", data:=.seq vs.toArray.toList.toArray }).push { cls:=.type "list", data:=.seq ([]:List Value).toArray }=h6
 have k6:But D s.heap h6:=fun b o hb e=>by
  rw [← hh];exact Heap.get?_push_of_some _ (Heap.get?_push_of_some _ ((Heap.get?_update_other _ _ (Ne.symm hb)).trans e))
 have hD6:h6.get? D=some (seqObj "list" #[] e1):=by rw [← hh];exact Heap.get?_push_of_some _ (Heap.get?_push_of_some _ ho1)
 have fin:∀ (st:SortSt),failedOf st=none->(arrOf st).map (·.2)=(tH vs lt).toArray->wpAny (model prog w) A (do
   let touched:=(← seqEpoch D) != e1
   Builtin.List.listUpdate (.ref D) fun _=>(arrOf st).map (·.2)
   if let some e:=failedOf st then rule "list.sort.comparison-raised"; throw e
   if touched then rule "list.sort.modified"; raiseError "ValueError" "list modified during sort"
   ret .none) P E { s with heap:=h6 }:=fun st hf hout=>by
  refine wpAny_bind (seqEpoch_at hD6 rfl (wpAny_bind (listUpdate_at hD6 rfl ?_ (Nat.zero_le _) (by rw [hout,zzS,zdd];omega))));rw [hf,hout];simp only [bne_self_eq_false,zzB,if_false];refine wpAny_pure (h _ _ (fun b o hb e=>(Heap.get?_update_other _ _ (Ne.symm hb)).trans (k6 b o hb e)) (get?_update_seq hD6 _))
 dsimp only
 by_cases h2:vs.toArray.size<2
 .rw [if_pos h2,if_pos h2];refine wpAny_bind (wpAny_pure ?_);rw [StateT.run_pure];refine wpAny_bind (wpAny_pure (fin _ rfl ?_));have hlt:vs.length<2:=by omega
  unfold tH srtP;rw [if_pos hlt,qI];show ((vs.toArray.zip vs.toArray).map (·.2))=vs.toArray;apply Array.toList_inj.mp;simp only [Array.toList_map,Array.toList_zip];exact List.map_snd_zip (zzR _)
 .rw [if_neg h2,if_neg h2];have h2':2<=vs.length:=by omega
  refine wpAny_bind (wpAny_mono (q.kind h6 _ h2' k6 ?_) (fun _ _ z=>z) fun _ _ z=>z.elim)
  refine wpAny_bind (wpAny_mono (PySem.W.kat_run (Q:=fun st' s'=>s'={ s with heap:=h6 }/\failedOf st'=none/\(arrOf st').map (·.2)=(tH vs lt).toArray)
   (G:=fun p s'=>s'={ s with heap:=h6 }/\p=krun lt (PySem.W.kas_sort vs.length)) rfl h2' h64 (fun p st' s' _ har hf hg=>⟨hg.1,hf,?_⟩) ?_) (fun r s' z=>?_) fun _ _ z=>z)
  .rw [PySem.W.kat_snds rfl har,hg.2];unfold tH srtP;rw [if_neg (by omega)]
  .exact zgq (lt:=lt) (fun i j C hi hj hc=>q.ask h6 i j C k6 hi hj hc) (zcS (by omega)) ⟨rfl,rfl⟩
  .obtain ⟨⟨⟩,st'⟩:=r;obtain ⟨rfl,hf,hout⟩:=z;exact fin st' hf hout
def zcw (h h':Heap):Prop:=∀ b o,h.get? b=some o->h'.get? b=some o
theorem zcQ {l:Addr} {o:Obj} {T:String} {n:Nat} {Q:Value->Shared->Prop} (hT:T = "list" \/ T = "tuple") (ho:s.heap.get? l=some o) (hc:o.cls=.type T) (hd:o.data=.seq vs.toArray n) (h64:vs.length<64)
  (kind:∀ (h':Heap) (C:SortKind->Shared->Prop),2<=vs.length->zcw s.heap h'->C κ { s with heap:=h' }->wpAny (model prog w) A.in1.in1 (keyKind' vs.toArray) C (fun _ _=>False) { s with heap:=h' })
  (ask:∀ (h':Heap) (i j:Nat) (C:Bool->Shared->Prop),zcw s.heap h'->i<vs.length->j<vs.length->C (lt i j) { s with heap:=h' }->PySem.W.kas_ask prog w A.in1.in1 κ vs i j C { s with heap:=h' })
  (h:∀ (h1 h':Heap) (m:Nat),zcw s.heap h1->zcw h1 h'->h'.get? h1.objs.size=some (seqObj "list" (tH vs lt).toArray m)->Q (.ref h1.objs.size) { s with heap:=h' }) :
  wpAny (model prog w) A (call (.builtin "sorted") [.ref l]) Q E s:=by
 have big:(64:Nat)<=sizeLine:=by rw [sizeLine_eq];decide
 refine Calls.call_function_entry kind_sorted plain_sorted entry_sorted (args_sorted1 _) ?_;unfold Builtin.«sorted»;refine wpAny_bind (m:=checkCount "sorted" 1 1 _) (wpAny_pure (wpAny_bind (wpAny_collect_seq l hT ho hc hd (fun h1 k1=>?_) (by rw [zzS];omega))));refine wpAny_bind (wpAny_newList ?_ (by show vs.length<=_;omega));have hL:(h1.push (seqObj "list" vs.toArray 0)).get? h1.objs.size=some (seqObj "list" vs.toArray 0):=Heap.get?_push_size _ rfl;have up:∀ h',But h1.objs.size (h1.push (seqObj "list" vs.toArray 0)) h'->zcw h1 h':=fun h' k b o e=>k b o (Nat.ne_of_lt (Heap.lt_size e)) (Heap.get?_push_of_some _ e);show wpAny _ _ _ _ _ { s with heap:=h1.push (seqObj "list" vs.toArray 0) };refine wpAny_bind (wpAny_holding (wpAny_call_entry slot_list_sort ⟨_,hL,rfl⟩ entry_list_sort (zfi (κ:=κ) (lt:=lt) hL h64 ⟨fun h' C h2 k c=>?_,fun h' i j C k hi hj c=>?_⟩ fun h' m k hm=>⟨_,rfl,?_⟩) (args_list_sort _)))
 .exact kind h' C h2 (fun b o e=>up h' k b o (k1 b o e)) c
 .exact ask h' i j C (fun b o e=>up h' k b o (k1 b o e)) hi hj c
 .exact wpAny_pure ⟨_,rfl,h h1 h' m k1 (up h' k) hm⟩
end
def ltB (x y:W):Bool:=(ltW x y).getD false
def srt (ws:List W):List W:=(srtP ws.length fun i j=>ltB (ws.getD i .non) (ws.getD j .non)).map fun i=>ws.getD i .non
theorem gQ (ws:List W):(srt ws).Perm ws:=by
 have:=(rE ws.length fun i j=>ltB (ws.getD i .non) (ws.getD j .non)).map fun i=>ws.getD i .non
 rwa [qI] at this
def hdT:W->Option String
 | .tup (.str _::_)=>some "str"
 | .tup (.tup _::_)=>some "tuple"
 |_=>none
structure Srtb (ws:List W):Prop where
 pure:wF ws=true
 lt:∀ x∈ws,∀ y∈ws,(ltW x y).isSome=true
 few:ws.length<64
 deep:jN ws<60
 hd:∃ T,∀ x∈ws,hdT x=some T
def zcU:RS:=fun ws G Q=>match ws with
 | [x]=>∃ xs,qK G x=some xs/\Srtb xs/\∀ r,G r=none->Q (.ref r) (put G r (.lst (srt xs)))
 |_=>False
theorem zca:wG zcU:=by
 intro ws G Q Q' k h;unfold zcU at h ⊢
 split at h
 .obtain ⟨xs,e1,e2,h⟩:=h;exact ⟨xs,e1,e2,fun p hp=>k _ _ (h p hp)⟩
 .exact h.elim
section
variable {prog : Program} {w : World} {A : Around} {s : Shared} {b fin v : Bool} {C : Bool → Shared → Prop}
theorem zdz:∀ (l:List (Value×Value)) (i:Nat),(b&&i==0)=false->Lx A s fin l v->C v s->PySem.W.KatLex prog w A b fin C l i s
 | [],i,_,h,c=>by cases (show v=fin from h);exact c
 | (p,q)::r,i,hb,⟨e,he,hr⟩,c=>by
  refine PySem.W.kat_cons (he prog w _ _ ?_)
  cases e with
  |true =>
   rw [if_pos rfl] at hr;refine PySem.W.kat_yes (zdz r (i+1) ?_ hr c);cases b<;>simp
  |false =>
   rw [if_neg zzN] at hr;refine PySem.W.kat_no ?_;rw [hb];exact PySem.W.kat_one p q (hr prog w _ _ c)
end
section
variable {X : Cx} {pins : List (Addr × Obj)} {σ : L2.St} {H : Hp} {s : Shared}
theorem zj4 {prog:Program} {w:World} (I:Inv X pins σ H s) {T:String} {x y:W} {vx vy:V} {ux uy:Value} {A:Around} {v:Bool} {C:Bool->Shared->Prop} (hx:hdT x=some T) (hy:hdT y=some T) (rx:xN X.K H x vx) (ru:zD vx ux) (ry:xN X.K H y vy) (ru':zD vy uy)
  (px:pur x=true) (py:pur y=true) (hu:A.units+min (dep x) (dep y)<cLine) (e:ltW x y=some v) (c:C v s):wpAny (model prog w) A (keyLt' (tuples' (Value.type T != Value.type "tuple")) ux uy) C (fun _ _=>False) s:=by
 have tu:∀ z,hdT z=some T->∃ zs,z=.tup zs:=fun z hz=>by
  unfold hdT at hz
  split at hz
  .exact ⟨_,rfl⟩
  .exact ⟨_,rfl⟩
  .cases hz
 obtain ⟨xs,rfl⟩:=tu x hx;obtain ⟨ys,rfl⟩:=tu y hy;obtain ⟨a,vs,its,rfl,rfl,q,rs,vr,it,_⟩:=xW I rx ru;obtain ⟨c',vs',its',rfl,rfl,q',rs',vr',it',_⟩:=xW I ry ru';obtain ⟨o,ho,hc,n,hd⟩:=it;obtain ⟨o2,ho2,hc2,n2,hd2⟩:=it';simp only [dep] at hu;refine PySem.W.kat_lt ho hd ho2 hd2 ?_;simp only [zzS];have main:=zfh I xs ys _ _ _ _ A v (fun z _=>zgn I z) rs vr rs' vr' px py (by omega) e
 cases hb:(Value.type T != Value.type "tuple") with
 |false=>exact zdz _ 0 rfl main c
 |true =>
  have hT:T = "str" := by
   unfold hdT at hx
   split at hx
   .cases hx;rfl
   .cases hx;cases hb
   .cases hx
  subst hT
  cases xs with
  |nil=>cases hx
  |cons x0 xs =>
   cases ys with
   |nil=>cases hy
   |cons y0 ys =>
    cases x0 with
    |str t =>
     cases y0 with
     |str z =>
      obtain ⟨v1,r1,rfl,h1,rs⟩:=rs;obtain ⟨v2,r2,rfl,h2,rs'⟩:=rs';cases (show v1=.str t from h1);cases (show v2=.str z from h2)
      cases vr with
      |cons k1 vr =>
       cases vr' with
       |cons k2 vr' =>
        obtain ⟨t1,rfl⟩:=k1;obtain ⟨t2,rfl⟩:=k2;replace e:(if (t==z)=true then nH xs ys else some (decide (t.cps.toList<z.cps.toList)))=some v:=e;simp only [pur,wF,Bool.true_and] at px py;simp only [jN,dep,Nat.zero_max] at hu;rw [List.zip_cons_cons];refine PySem.W.kat_cons (EqAt.str_str t t1 z t2 prog w _ _ ?_)
        cases q:(t==z) with
        |true =>
         rw [q,if_pos rfl] at e;refine PySem.W.kat_yes (zdz _ 1 rfl ?_ c);have:=zfh I xs ys _ _ _ _ A v (fun z _=>zgn I z) rs vr rs' vr' px py (by omega) e;simpa using this
        |false =>
         rw [q,if_neg zzN] at e;cases e;refine PySem.W.kat_no ?_;exact oneLt_str c
     |_=>exact absurd hy (by simp [hdT])
    |_=>exact absurd hx (by simp [hdT])
theorem zbJ (I:Inv X pins σ H s) {M:Model} {T:String}:∀ {ws:List W} {vs:List V} {us:List Value},(∀ x∈ws,hdT x=some T)->zF X.K H ws vs->zE vs us->∃ fs,PySem.W.KatTups s.heap us fs/\(∀ v∈fs,PySem.W.Looks M s.heap (typeOf v) (.type T))/\fs.length=us.length
 | [],vs,us,_,r,k=>by
  cases (show vs=[] from r);cases k;exact ⟨[],True.intro,(fun _ h=>nomatch h),rfl⟩
 |x::ws,vs,us,hT,r,k=>by
  obtain ⟨v,t,rfl,rx,rt⟩:=r
  cases k with
  |cons k ks =>
   obtain ⟨fs,h1,h2,h3⟩:=zbJ I (fun y hy=>hT y (List.mem_cons_of_mem _ hy)) rt ks;have hx:=hT x zzT;unfold hdT at hx
   split at hx
   .rename_i z zs;cases hx;obtain ⟨a,vs',its,rfl,rfl,q,rs,vr,it,_⟩:=xW I rx k;obtain ⟨v1,r1,rfl,g1,_⟩:=rs;cases (show v1=.str z from g1)
    cases vr with
    |cons k1 vr =>
     obtain ⟨t1,rfl⟩:=k1;obtain ⟨o,ho,hc,n,hd⟩:=it;refine ⟨.str z t1::fs,.cons ho hc hd rfl h1,fun v hv=>?_,by rw [List.length_cons,List.length_cons,h3]⟩;rcases List.mem_cons.mp hv with rfl|hv
     .exact PySem.W.Looks.of_pure rfl
     .exact h2 v hv
   .rename_i z zs;cases hx;obtain ⟨a,vs',its,rfl,rfl,q,rs,vr,it,_⟩:=xW I rx k;obtain ⟨v1,r1,rfl,g1,_⟩:=rs
    cases vr with
    |cons k1 vr =>
     obtain ⟨a2,vs2,its2,rfl,rfl,q2,rs2,vr2,it2,_⟩:=xW I g1 k1;obtain ⟨o,ho,hc,n,hd⟩:=it;obtain ⟨o2,ho2,hc2,_⟩:=it2;refine ⟨.ref a2::fs,.cons ho hc hd rfl h1,fun v hv=>?_,by rw [List.length_cons,List.length_cons,h3]⟩;rcases List.mem_cons.mp hv with rfl|hv
     .exact PySem.W.kitAt_ty M _ ⟨o2,ho2,hc2⟩
     .exact h2 v hv
   .cases hx
theorem zcP (hu:X.A.units+200<cLine):jB X (.builtin "sorted") (pS X.K zcU):=by
 intro pins s σ H xs us Q I r h;obtain ⟨ws,G,rs,ab,h⟩:=h;unfold zcU at h
 split at h
 .rename_i x;obtain ⟨v,rfl,rv⟩:=kH rs;obtain ⟨xs,ex,sb,h⟩:=h;obtain ⟨a,vs,rfl,sq,rr⟩:=sK ab rv ex;obtain ⟨u,rfl,ru⟩:=kM r;cases (show u=Value.ref a from ru);obtain ⟨its,vv,ss,hz⟩:=I.sqB sq
  obtain ⟨T',o,n,hT,ho,hc,hd⟩:∃ (T':String) (o:Obj) (n:Nat),(T' = "list" \/ T' = "tuple")/\s.heap.get? a=some o/\o.cls=.type T'/\o.data=.seq its.toArray n:=by
   cases hb:bOf x<;>rw [hb] at ss
   .obtain ⟨o,ho,hc,n,hd⟩:=ss;exact ⟨"list", o,n,.inl rfl,ho,hc,hd⟩
   .obtain ⟨o,ho,hc,n,hd⟩:=ss;exact ⟨"tuple", o,n,.inr rfl,ho,hc,hd⟩
  have l1:its.length=xs.length:=by rw [← vv.length,rr.length]
  have l2:vs.length=xs.length:=rr.length;obtain ⟨T,hT'⟩:=sb.hd;have I':∀ h',zcw s.heap h'->Inv X pins σ H { s with heap:=h',toks:=s.toks }:=fun h' k=>I.kept k;refine zcQ (κ:=tuples' (Value.type T != Value.type "tuple")) (lt:=fun i j=>ltB (xs.getD i .non) (xs.getD j .non)) hT ho hc hd (by rw [l1];exact sb.few) (fun h' C h2 k c=>?_) (fun h' i j C k hi hj c=>?_) fun h1 h' m k1 k' hm=>?_
  .obtain ⟨fs,g1,g2,g3⟩:=zbJ (M:=model X.prog X.w) (I' h' k) hT' rr vv;exact PySem.W.kat_kind g1 (by omega) g2 (by simp) c
  .have hi':i<xs.length:=by omega
   have hj':j<xs.length:=by omega
   obtain ⟨vi,evi,ri⟩:=rr.get (List.getElem?_eq_getElem hi');obtain ⟨vj,evj,rj⟩:=rr.get (List.getElem?_eq_getElem hj');obtain ⟨ui,eui,si⟩:=vv.get evi;obtain ⟨uj,euj,sj⟩:=vv.get evj;have mi:=List.getElem_mem hi';have mj:=List.getElem_mem hj';obtain ⟨b,eb⟩:=Option.isSome_iff_exists.mp (sb.lt _ mi _ mj);have e1:its.getD i Value.none=ui:=by simp [List.getD,eui]
   have e2:its.getD j Value.none=uj:=by simp [List.getD,euj]
   have e3:ltB (xs.getD i .non) (xs.getD j .non)=b:=by simp [List.getD,List.getElem?_eq_getElem hi',List.getElem?_eq_getElem hj',ltB,eb]
   unfold PySem.W.kas_ask;rw [e1,e2];rw [e3] at c;have d1:=zbT mi;have:=sb.deep;refine zj4 (I' h' k) (hT' _ mi) (hT' _ mj) ri si rj sj (gF sb.pure _ mi) (gF sb.pure _ mj) ?_ eb c;show X.A.units+1+1+_<_;omega
  .have I1:Inv X pins σ H { s with heap:=h1,toks:=s.toks }:=I' h1 k1;have I2:Inv X pins σ H { s with heap:=h',toks:=s.toks }:=I' h' fun b o e=>k' b o (k1 b o e);have hn:H h1.objs.size=none:=I1.hok.fresh (zzR _);have pm:=rE xs.length fun i j=>ltB (xs.getD i .non) (xs.getD j .non);have lt:∀ i∈srtP xs.length (fun i j=>ltB (xs.getD i .non) (xs.getD j .non)),i<xs.length:=fun i hi=>List.mem_range.mp (pm.mem_iff.mp hi);have eo:tH its (fun i j=>ltB (xs.getD i .non) (xs.getD j .non))=(srtP xs.length fun i j=>ltB (xs.getD i .non) (xs.getD j .non)).map fun i=>its.getD i Value.none:=by unfold tH;rw [l1]
   rw [eo] at hm
   have both:∀ l:List Nat,(∀ i∈l,i<xs.length)->zF X.K H (l.map fun i=>xs.getD i .non) (l.map fun i=>vs.getD i .non)/\zE (l.map fun i=>vs.getD i .non) (l.map fun i=>its.getD i Value.none):=by
    intro l
    induction l with
    |nil=>exact fun _=>⟨rfl,.nil⟩
    |cons i l ih =>
     intro hl;obtain ⟨g1,g2⟩:=ih fun j hj=>hl j (List.mem_cons_of_mem _ hj);have hi:=hl i zzT;obtain ⟨vi,evi,ri⟩:=rr.get (List.getElem?_eq_getElem hi);obtain ⟨ui,eui,si⟩:=vv.get evi;have e0:xs.getD i .non=xs[i]:=by simp [List.getD,List.getElem?_eq_getElem hi]
     have e1:vs.getD i .non=vi:=by simp [List.getD,evi]
     have e2:its.getD i Value.none=ui:=by simp [List.getD,eui]
     rw [zzU,zzU,zzU,e0,e1,e2];exact ⟨⟨vi,_,rfl,ri,g1⟩,.cons si g2⟩
   obtain ⟨g1,g2⟩:=both _ lt;refine ⟨.ref h1.objs.size,_,I2.adopt (o:=.lst _) (I1.off (zzR _)) hn ⟨?_,_,m,g2,hm⟩,rfl,jQ ab g1 h _ hn⟩;rw [zzM,pm.length_eq,List.length_range,← l2];exact hz
 .exact h.elim
end
end L3
namespace L3
open PySem PySem.Spec PyProof.Rows L2 PySem.SeqAt AutoSeq1
theorem zdU (l b:Addr) (xs ys:Array Value) (n n2:Nat) (od:Option Addr) (os:Array (Option Value)) (h0:¬(!xs.isEmpty&&Builtin.List.listTooLong (xs.size+ys.size))=true) (h1:xs.size<=sizeLine) (h2:xs.size+ys.size<=sizeLine+1) :
  Meets (Builtin.«list.extend» ⟨[.ref l,.ref b],[]⟩) (fun _ R s=>s.heap.get? l=some { cls:=.type "list", dict:=none,data:=.seq xs n,slots:=#[] }/\s.heap.get? b=some { cls:=.type "tuple", dict:=od,data:=.seq ys n2,slots:=os } /\
   R (.ok (.ret .none)) { s with heap:=s.heap.update l (Obj.mapSeq fun x=>x++ys) }) :=
 .of_wp fun pr wo ar R st h=>by
  obtain ⟨hp,g,d,tk,os'⟩:=st;obtain ⟨hl,hb,h⟩:=h;have f1:=idx_int;have ft:=AutoSeq1.sub_tuple_tuple;have fl:=AutoSeq1.sub_list_list;have fu:=AutoSeq1.sub_tuple_list;have fv:=AutoSeq1.sub_list_tuple;have hz:(xs++ys).size<=sizeLine+1:=by rw [Array.size_append];exact h2
  wp_walk using (wpAny_updateSeq hl rfl (hz:=h1) (_hz':=hz)),wpAny_loadPart' hl,wpAny_loadPart' hb
  exact ⟨_,rfl,h⟩
theorem zco (l b:Addr) (xs ys:Array Value) (n n2:Nat) (od:Option Addr) (os:Array (Option Value)) (h0:¬(!xs.isEmpty&&Builtin.List.listTooLong (xs.size+ys.size))=true) (h1:xs.size<=sizeLine) (h2:xs.size+ys.size<=sizeLine+1) :
  Meets (Builtin.«list.extend» ⟨[.ref l,.ref b],[]⟩) (fun _ R s=>s.heap.get? l=some { cls:=.type "list", dict:=none,data:=.seq xs n,slots:=#[] }/\s.heap.get? b=some { cls:=.type "list", dict:=od,data:=.seq ys n2,slots:=os } /\
   R (.ok (.ret .none)) { s with heap:=s.heap.update l (Obj.mapSeq fun x=>x++ys) }) :=
 .of_wp fun pr wo ar R st h=>by
  obtain ⟨hp,g,d,tk,os'⟩:=st;obtain ⟨hl,hb,h⟩:=h;have f1:=idx_int;have ft:=AutoSeq1.sub_tuple_tuple;have fl:=AutoSeq1.sub_list_list;have fu:=AutoSeq1.sub_tuple_list;have fv:=AutoSeq1.sub_list_tuple;have hz:(xs++ys).size<=sizeLine+1:=by rw [Array.size_append];exact h2
  wp_walk using (wpAny_updateSeq hl rfl (hz:=h1) (_hz':=hz)),wpAny_loadPart' hl,wpAny_loadPart' hb
  exact ⟨_,rfl,h⟩
def extS:MS:=fun x ws G Q=>match x,ws with
 | .ref p,[.tup ys]=>(match G p with
  |some (.lst xs)=>xs.length+ys.length<=sizeLine/\Q .non (put G p (.lst (xs++ys)))
  |_=>False)
 | .ref p,[.ref q]=>∃ xs ys,G p=some (.lst xs)/\yU G q=some ys/\xs.length+ys.length<=sizeLine/\Q .non (put G p (.lst (xs++ys)))
 |_,_=>False
theorem zam:∀ x ws G (Q Q':Q3),(∀ w G',Q w G'->Q' w G')->extS x ws G Q->extS x ws G Q':=by
 intro x ws G Q Q' k h;unfold extS at h ⊢
 split at h
 .split at h
  .exact ⟨h.1,k _ _ h.2⟩
  .exact h.elim
 .obtain ⟨xs,ys,e1,e2,h1,h⟩:=h;exact ⟨xs,ys,e1,e2,h1,k _ _ h⟩
 .exact h.elim
theorem zky {X:Cx}:MtR X "list.extend" (lowM X.K extS):=by
 intro pins s σ H x xs v us Q I rx rxs h;obtain ⟨w,ws,G,rw1,rs,ab,h⟩:=h;unfold extS at h
 split at h
 .rename_i p ys;cases (show x=.ref p from rw1);cases (show v=Value.ref p from rx);obtain ⟨vy,rfl,ry⟩:=kH rs;obtain ⟨b,vs2,rfl,sq,rr2⟩:=ry;obtain ⟨u,rfl,ru⟩:=kM rxs;cases (show u=Value.ref b from ru)
  split at h
  .rename_i zs e;obtain ⟨vs,ev,rr⟩:=ab.lst e;have gr:yJ X.K H (xI H p (.lst (vs++vs2))):=ab.grow e;obtain ⟨z,its,n,r,hl,e1⟩:=I.lstM ev;obtain ⟨its2,r2,pt,hz2⟩:=I.tuple sq;obtain ⟨⟨oc,od,oda,os⟩,ho,hc,n2,hd⟩:=(show s.heap.IsTuple b its2.toArray from pt);simp only at hc hd;subst hc hd;have l1:=rr.length;have l2:=rr2.length;have l3:=r2.length;have hb:=h.1;have hsz:its.toArray.size+its2.toArray.size<=sizeLine:=by rw [zzS,zzS];omega
   have hlong:¬ (!its.toArray.isEmpty&&Builtin.List.listTooLong (its.toArray.size+its2.toArray.size))=true:=by
    rw [gA hsz,Bool.and_false];exact zzN
   refine call_meets F.slot_list_extend ⟨_,e1,rfl⟩ F.entry_list_extend (F.args_list_extend_2 _ _) (zdU p b its.toArray its2.toArray n n2 od os hlong (by rw [zzS];omega) (by omega)) ⟨e1,ho,?_⟩;refine ⟨.non,_,I.lset (its':=its++its2) ev e1 (by simp) (r.append r2) ?_,rfl,h.2 .non _ gr (show xN X.K _ .non .non from rfl) (ab.chg e ⟨_,rfl,(rr.append rr2).mono gr⟩)⟩;rw [zzW];omega
  .exact h.elim
 .rename_i p q;cases (show x=.ref p from rw1);cases (show v=Value.ref p from rx);obtain ⟨vy,rfl,ry⟩:=kH rs;cases (show vy=.ref q from ry);obtain ⟨u,rfl,ru⟩:=kM rxs;cases (show u=Value.ref q from ru);obtain ⟨zs,ys,e,e2,hb,h⟩:=h;obtain ⟨vs,ev,rr⟩:=ab.lst e;obtain ⟨vs2,sq,rr2⟩:=ab.seq e2;have gr:yJ X.K H (xI H p (.lst (vs++vs2))):=ab.grow e;obtain ⟨z,its,n,r,hl,e1⟩:=I.lstM ev;obtain ⟨its2,r2,pt,hz2⟩:=I.list sq;obtain ⟨⟨oc,od,oda,os⟩,ho,hc,n2,hd⟩:=pt.isList;simp only at hc hd;subst hc hd;have l1:=rr.length;have l2:=rr2.length;have l3:=r2.length;have hsz:its.toArray.size+its2.toArray.size<=sizeLine:=by rw [zzS,zzS];omega
  have hlong:¬ (!its.toArray.isEmpty&&Builtin.List.listTooLong (its.toArray.size+its2.toArray.size))=true:=by
   rw [gA hsz,Bool.and_false];exact zzN
  refine call_meets F.slot_list_extend ⟨_,e1,rfl⟩ F.entry_list_extend (F.args_list_extend_2 _ _) (zco p q its.toArray its2.toArray n n2 od os hlong (by rw [zzS];omega) (by omega)) ⟨e1,ho,?_⟩;refine ⟨.non,_,I.lset (its':=its++its2) ev e1 (by simp) (r.append r2) ?_,rfl,h .non _ gr (show xN X.K _ .non .non from rfl) (ab.chg e ⟨_,rfl,(rr.append rr2).mono gr⟩)⟩;rw [zzW];omega
 .exact h.elim
abbrev eExt:Mt3:=⟨"extend", "list", extS⟩
theorem zid {q:Pr} {A:Around}:MtE (q.at A) eExt/\pK eExt:=⟨fR PySem.F.plainAttrs_list PySem.F.slot_list_extend PySem.F.type_list_extend (fun X f=>zky) zam,zam⟩
end L3
namespace L3
open PySem PySem.Spec PyProof.Rows L2 PySem.SeqAt
structure KdS (prog:Program) (w:World) (α:Type) [DecidableEq α] where
 k:_root_.PySem.KeyKind prog w α
 vl:α->Tok->Value
 of:Value->α
 d:α
 is:∀ x t,k.is x (vl x t)=true
 sh:∀ {x v},k.is x v=true->∃ t,v=vl x t
 ofm:∀ x t,of (vl x t)=x
 sc:∀ x t,(vl x t).scannable=true
section
variable {α : Type} [DecidableEq α] {prog : Program} {w : World}
def tx (K:KdS prog w α) (e:Int×Value):α:=K.of e.2
end
section
variable {α : Type} [DecidableEq α] {prog : Program} {w : World} {K : KdS prog w α} {A : Around} {E : Value → Shared → Prop} {s : Shared} {S : Addr} {led : Bool}
end
section
variable {α : Type} [DecidableEq α] {prog : Program} {w : World} {K : KdS prog w α} {A : Around} {R : Result → Shared → Prop} {I : Addr} {fp wr : List Addr} {G : Array GenState → Array GenState → Prop} {n : Nat} {P : Nat → Value → Prop} {St : Nat → Shared → Prop} {S : Addr} {led : Bool}
end
section
variable {prog : Program} {w : World} {s : Shared} {A : Around} {E : Value → Shared → Prop}
theorem zbj {vs:List Value} {ss:List Str} (h:StrsAre vs ss):vs.length=ss.length:=by
 induction h with
 |nil=>rfl
 |cons _ _ _ ih=>exact congrArg (·+1) ih
end
namespace SI
end SI
section
variable {α : Type} [DecidableEq α] {prog : Program} {w : World} {K : KdS prog w α} {A : Around} {E : Value → Shared → Prop} {s : Shared} {I S : Addr} {first : Value} {i n ep : Nat} {led : Bool} {o : Obj} {es : Array (Int × Value)} {t : SetTable}
end
section
variable {α : Type} [DecidableEq α] {prog : Program} {w : World} {K : KdS prog w α} {A : Around} {I S T : Addr} {ep : Nat} {led : Bool} {o : Obj} {es : Array (Int × Value)} {t : SetTable}
end
section
variable {α : Type} [DecidableEq α] {prog : Program} {w : World} {K : KdS prog w α} {A : Around} {E : Value → Shared → Prop} {s : Shared} {S : Addr} {ep : Nat} {o : Obj} {es : Array (Int × Value)} {t : SetTable}
end
section
variable {α : Type} [DecidableEq α] {prog : Program} {w : World} {K : KdS prog w α} {A : Around} {E : Value → Shared → Prop} {s : Shared} {S : Addr} {ep : Nat} {o : Obj} {es : Array (Int × Value)} {t : SetTable}
structure Went (s s':Shared):Prop where
 kp:∀ b o,s.heap.get? b=some o->s'.heap.get? b=some o
 gens:s'.gens=s.gens
 os:s'.os=s.os
end
section
variable {prog : Program} {w : World} {A : Around} {E : Value → Shared → Prop} {s : Shared}
theorem Went.trans {s1 s2:Shared} (a:Went s s1) (b:Went s1 s2):Went s s2:=⟨fun x o e=>b.kp x o (a.kp x o e),b.gens.trans a.gens,b.os.trans a.os⟩
theorem zcR {D:Addr} {vs:List Value} {ss:List Str} {n:Nat} {P:PySem.Fin->Shared->Prop} (ho:s.heap.get? D=some (seqObj "list" vs.toArray n)) (hS:StrsAre vs ss) (h64:vs.length<64)
  (h:∀ h' vs' ss' m,But D s.heap h'->h'.get? D=some (seqObj "list" vs'.toArray m)->StrsAre vs' ss'->ss'.Perm ss->sortedS ss'=true->P (.done (.ret .none)) { s with heap:=h' }):wpAny (model prog w) A (Builtin.«list.sort» ⟨[.ref D],[]⟩) P E s:=by
 refine list_sort_treeK strKind_oneLt ho hS.keysOf (fun v₁ v₂ rest e=>keyKind_strs (by rw [← e];exact hS)) h64 fun st' hp hs=>?_;obtain ⟨ss',h1,h2,h3⟩:=sorted_out_str hS hp hs;obtain ⟨m,hm⟩:=sortedHeap_at (out:=(arrOf st').map (·.2)) ho;exact h _ _ ss' m (fun b o hb e=>(sortedHeap_old hb (Heap.lt_size e)).trans e) hm h1 h2 h3
theorem zb8 {v:Value} {ss:List Str} {Q:Value->Shared->Prop} (h64:ss.length<64)
  (hc:∀ (Q':List Value->Shared->Prop) (E':Value->Shared->Prop),(∀ s' vs ys,StrsAre vs ys->ys.Perm ss->Went s s'->Q' vs s')->wpAny (model prog w) A.in1 (collect v) Q' E' s)
  (h:∀ s1 s' vs' ss' m,Went s s1->Went s1 s'->s'.heap.get? s1.heap.objs.size=some (seqObj "list" vs'.toArray m)->StrsAre vs' ss'->ss'.Perm ss->sortedS ss'=true->Q (.ref s1.heap.objs.size) s'):wpAny (model prog w) A (call (.builtin "sorted") [v]) Q E s:=by
 refine Calls.call_function_entry kind_sorted plain_sorted entry_sorted (args_sorted1 _) ?_;unfold Builtin.«sorted»;refine wpAny_bind (m:=checkCount "sorted" 1 1 _) (wpAny_pure (wpAny_bind (hc _ _ fun s1 vs ys hv hp wt=>?_)));have hl:vs.length<64:=by rw [zbj hv,hp.length_eq];exact h64
 refine wpAny_bind (wpAny_newList ?_ (by rw [sizeLine_eq];omega));have hL:(s1.heap.push (seqObj "list" vs.toArray 0)).get? s1.heap.objs.size=some (seqObj "list" vs.toArray 0):=Heap.get?_push_size _ rfl;show wpAny (model prog w) _ _ _ _ { s1 with heap:=s1.heap.push (seqObj "list" vs.toArray 0) };refine wpAny_bind (wpAny_holding (wpAny_call_entry slot_list_sort ⟨_,hL,rfl⟩ entry_list_sort (zcR hL hv hl fun h' vs' ss' m kb hm hv' hp' hs'=>⟨_,rfl,?_⟩) (args_list_sort _)));refine wpAny_pure ⟨_,rfl,h s1 { s1 with heap:=h' } vs' ss' m wt ⟨fun b o e=>kb b o (Nat.ne_of_lt (Heap.lt_size e)) (Heap.get?_push_of_some _ e),rfl,rfl⟩ hm hv' (hp'.trans hp) hs'⟩
end
section
variable {X : Cx}
theorem Went.inv {pins:List (Addr×Obj)} {σ:L2.St} {H:Hp} {s s':Shared} (I:Inv X pins σ H s) (wt:Went s s') {t:Nat} (ht:0<t):Inv X pins σ H { s' with toks:=t }:=by
 have J:=I.call (g':=s.gens) (d':=s'.drawn) (t':=t) (ch:=[]) (Un.kept wt.kp) (I.hok.kept wt.kp) I.bare (fun _ z=>nomatch z) ht;obtain ⟨h',g',d',t',o'⟩:=s';obtain rfl:g'=s.gens:=wt.gens;obtain rfl:o'=s.os:=wt.os;exact J
theorem rF {K:yL} {H:Hp}:∀ (ss:List Str),zF K H (ss.map .str) (ss.map .str)
 | []=>rfl
 |x::ss=>⟨.str x,_,rfl,rfl,rF ss⟩
theorem gR:∀ {vs:List Value} {ss:List Str},StrsAre vs ss->zE (ss.map V.str) vs
 |_,_,.nil=>.nil
 |_,_,.cons x t h=>.cons ⟨t,rfl⟩ (gR h)
theorem cH {K:yL} {H:Hp}:∀ {ss:List Str} {vs:List V} {us:List Value},zF K H (ss.map .str) vs->zE vs us->StrsAre us ss
 | [],vs,us,r,v=>by cases (show vs=[] from r);cases v;exact .nil
 |x::ss,vs,us,r,v=>by
  obtain ⟨y,tl,rfl,ry,rt⟩:=r;cases (show y=.str x from ry)
  cases v with
  |cons a c =>
   obtain ⟨tk,rfl⟩:=a;exact .cons x tk (cH rt c)
theorem zff {pins:List (Addr×Obj)} {σ:L2.St} {H:Hp} {s s1 s':Shared} {G:Hw} {vs:List Value} {ss:List Str} {m:Nat} {Q:VK} (I:Inv X pins σ H s) (ab:xR X.K H G) (w1:Went s s1) (w2:Went s1 s') (hg:s'.heap.get? s1.heap.objs.size=some (seqObj "list" vs.toArray m)) (hv:StrsAre vs ss) (hl:ss.length<64)
  (h:∀ r,G r=none->kE X.K H Q (.ref r) (put G r (.lst (ss.map .str)))) (h0:0<s'.toks):EP X pins σ Q (.ref s1.heap.objs.size) s':=by
 have I1:=w1.inv I Nat.one_pos;have I2:Inv X pins σ H s':=(w1.trans w2).inv I h0;have hn:H s1.heap.objs.size=none:=I1.hok.fresh (zzR _);refine ⟨.ref s1.heap.objs.size,_,I2.adopt (o:=.lst (ss.map .str)) (I1.off (zzR _)) hn ⟨?_,vs,m,gR hv,hg⟩,rfl,jQ ab (rF ss) h _ hn⟩;rw [zzM,sizeLine_eq];omega
def zcT:RS:=fun ws G Q=>match ws with
 | [x]=>∃ ts:List Str,qK G x=some (ts.map .str)/\ts.length<64/\∀ ts':List Str,ts'.Perm ts->sortedS ts'=true->∀ r,G r=none->Q (.ref r) (put G r (.lst (ts'.map .str)))
 |_=>False
theorem zb9:wG zcT:=by
 intro ws G Q Q' k h;unfold zcT at h ⊢
 split at h
 .obtain ⟨ts,e,l,h⟩:=h;exact ⟨ts,e,l,fun ts' a b r hr=>k _ _ (h ts' a b r hr)⟩
 .exact h.elim
theorem zeK:jB X (.builtin "sorted") (pS X.K zcT):=by
 intro pins s σ H xs us Q I r h;obtain ⟨ws,G,rs,ab,h⟩:=h;unfold zcT at h
 split at h
 .rename_i x;obtain ⟨v,rfl,rv⟩:=kH rs;obtain ⟨ts,ex,hl,h⟩:=h;obtain ⟨a,vs,rfl,sq,rr⟩:=sK ab rv ex;obtain ⟨u,rfl,ru⟩:=kM r;cases (show u=Value.ref a from ru);obtain ⟨its,vv,ss,hz⟩:=I.sqB sq
  obtain ⟨T',o,n,hT,ho,hc,hd⟩:∃ (T':String) (o:Obj) (n:Nat),(T' = "list" \/ T' = "tuple")/\s.heap.get? a=some o/\o.cls=.type T'/\o.data=.seq its.toArray n:=by
   cases hb:bOf x<;>rw [hb] at ss
   .obtain ⟨o,ho,hc,n,hd⟩:=ss;exact ⟨"list", o,n,.inl rfl,ho,hc,hd⟩
   .obtain ⟨o,ho,hc,n,hd⟩:=ss;exact ⟨"tuple", o,n,.inr rfl,ho,hc,hd⟩
  have hS:=cH rr vv;have hl2:its.length=ts.length:=zbj hS;refine wH I.tk (zb8 hl (fun Q' E' q=>wpAny_collect_seq a hT ho hc hd (fun h' k=>q { s with heap:=h' } its ts hS (.refl _) ⟨k,rfl,rfl⟩) (by rw [zzS,sizeLine_eq];omega)) fun s1 s' vs' ss' m w1 w2 hg hv hp hs h0=>?_);exact zff I ab w1 w2 hg hv (by rw [hp.length_eq];exact hl) (h ss' hp hs) h0
 .exact h.elim
def zeM:RS:=fun ws G Q=>zcU ws G Q\/zcT ws G Q
theorem gN:wG zeM:=fun ws G Q Q' k h=>h.imp (zca ws G Q Q' k) (zb9 ws G Q Q' k)
theorem zeL (hu:X.A.units+200<cLine):jB X (.builtin "sorted") (pS X.K zeM):=by
 intro pins s σ H xs us Q I r h;obtain ⟨ws,G,rs,ab,h⟩:=h;rcases h with h|h
 .exact zcP hu pins s σ H xs us Q I r ⟨ws,G,rs,ab,h⟩
 .exact zeK pins s σ H xs us Q I r ⟨ws,G,rs,ab,h⟩
abbrev zig:Fn3:=⟨"sorted", fun ws G Q _=>zeM ws G Q⟩
theorem zfK {q:Pr} {A:Around} (hu:A.units+200<cLine) (hm:q.mg "sorted" = none):uZ (q.at A) zig:=⟨dX (id := "sorted") hm (by decide +kernel) (fun X f=>zeL (by rw [f.A];exact hu)) gN (fun _ _ h=>h.elim id id),fun ws G Q Q' _ k h=>gN ws G Q Q' k h⟩
end
end L3
namespace L3
open PySem PySem.Spec PyProof.Rows L2 PySem.SeqAt PySem.Builtin PySem.Builtin.Str
theorem zcN {prog:Program} {w:World} {A:Around} {E:Value->Shared->Prop} {s:Shared} {x y:Str} {t u:Tok} {Q:Value->Shared->Prop} (hy:(y.length==0)=false) (hsz:x.length<=sizeLine)
  (hsz2:(partsBetween x (occurrences x y 0 x.length (x.length+1)) y.length).length<=sizeLine)
  (hq:∀ l k,l.map (·.1)=Txt.split x y->Q (.ref s.heap.objs.size) { s with heap:=s.heap.push { cls:=.type "list", data:=.seq (strValues l).toArray },toks:=k }) :
  wpAny (model prog w) A (call (.builtin "str.split") [.str x t,.str y u]) Q E s:=by
 cases h1:(decide (x.length<y.length) || decide (strKind x<strKind y))
 .cases hf:(occurrences x y 0 x.length (x.length+1)).isEmpty
  .refine call_meets F.slot_str_split (typeIs_str _ _ _) F.entry_str_split (F.args_str_split_2 _ _) (meets_str_split_sep x y t u h1 hy hf hsz hsz2) ?_;show wants Q E _ { s with toks:=_,heap:=s.heap.push { cls:=.type "list", data:=.seq (strsFrom s.toks (partsBetween x (occurrences x y 0 x.length (x.length+1)) y.length)).toArray } };rw [strsFrom_eq];exact hq (numbered s.toks _) _ ((numbered_texts _ _).trans ((if_neg (ne_true_of_eq_false h1)).trans (if_neg (ne_true_of_eq_false hf))).symm)
  .exact call_meets F.slot_str_split (typeIs_str _ _ _) F.entry_str_split (F.args_str_split_2 _ _) (meets_str_split_not_found x y t u h1 hy hf) (hq [(x,t)] s.toks ((if_neg (ne_true_of_eq_false h1)).trans (if_pos hf)).symm)
 .exact call_meets F.slot_str_split (typeIs_str _ _ _) F.entry_str_split (F.args_str_split_2 _ _) (meets_str_split_cannot_occur x y t u h1) (hq [(x,t)] s.toks (if_pos h1).symm)
theorem cB (x y:Str):(Txt.split x y).length<=x.length+2:=by
 unfold Txt.split
 split
 .simp
 .split
  .simp
  .rw [length_partsBetween];have:=StrLaws.occ_length_le x y 0 x.length (x.length+1);omega
def rD:MS:=fun x ws G Q=>match x,ws with
 | .str x,[.str y]=>(y.length==0)=false/\x.length<=1000000/\∀ r,G r=none->Q (.ref r) (put G r (.lst ((Txt.split x y).map .str)))
 |_,_=>False
theorem pI:∀ x ws G (Q Q':Q3),(∀ w G',Q w G'->Q' w G')->rD x ws G Q->rD x ws G Q':=by
 intro x ws G Q Q' k h;unfold rD at h ⊢
 split at h
 .exact ⟨h.1,h.2.1,fun r hr=>k _ _ (h.2.2 r hr)⟩
 .exact h.elim
theorem gT:∀ (l:List (Str×Tok)),zE ((l.map (·.1)).map V.str) (strValues l)
 | []=>.nil
 | (x,t)::l=>.cons ⟨t,rfl⟩ (gT l)
theorem zeD {X:Cx}:MtR X "str.split" (lowM X.K rD):=by
 intro pins s σ H x xs v us Q I rx rxs h;obtain ⟨w,ws,G,rw1,rs,ab,h⟩:=h;unfold rD at h
 split at h
 .rename_i x' y;cases (show x=.str x' from rw1);obtain ⟨z,rfl,rz⟩:=kH rs;cases (show z=.str y from rz);obtain ⟨u,rfl,ru⟩:=kM rxs;obtain ⟨t',rfl⟩:=ru;obtain ⟨t,rfl⟩:=rx;obtain ⟨hy,hx,h⟩:=h;have hl:=cB x' y;refine wH I.tk (zcN hy (by rw [sizeLine_eq];omega) (by rw [length_partsBetween,sizeLine_eq];have:=StrLaws.occ_length_le x' y 0 x'.length (x'.length+1);omega) fun l k e h0=>?_);have hn:H s.heap.objs.size=none:=I.hok.fresh (zzR _);refine ⟨.ref s.heap.objs.size,_,I.laid (o:=.lst ((Txt.split x' y).map .str)) (fun b ob q=>Heap.get?_push_of_some _ q) (zzR _) ⟨by rw [zzM,sizeLine_eq];omega,strValues l,0,by rw [← e];exact gT l,Heap.get?_push_size _ rfl⟩ h0,rfl,jQ ab (rF _) h _ hn⟩
 .exact h.elim
abbrev zbR:Mt3:=⟨"split", "str", rD⟩
theorem zdZ {q:Pr} {A:Around}:MtE (q.at A) zbR/\pK zbR:=⟨fR PySem.F.plainAttrs_str PySem.F.slot_str_split PySem.F.type_str_split (fun X f=>zeD) pI,pI⟩
end L3
namespace L2
open PySem
theorem zgM {α:Type} {M:Model} {Γ:Ctx}:∀ (t:Sem α) (p:Pos) (s:Shared),¬ Sem.wp M Γ t (fun _ _ _=>False) (fun _ _ _=>False) p s:=by
 intro t
 induction t with
 |pure a=>intro p s z;rw [Sem.wp] at z;exact z
 |raise e=>intro p s z;rw [Sem.wp] at z;exact z
 |unsupported _=>intro p s z;rw [Sem.wp] at z;exact z
 |finish _=>intro p s z;rw [Sem.wp] at z;exact z
 |register _ _ _=>intro p s z;rw [Sem.wp] at z;exact z
 | «yield» _ _ _ _ _=>intro p s z;rw [Sem.wp] at z;exact z
 |load a part k ih=>intro p s z;rw [Sem.wp] at z;obtain ⟨o,e,z⟩:=z;exact ih o p s z
 |update a part f k ih=>intro p s z;rw [Sem.wp] at z;exact ih () p _ z.2
 |fresh k ih=>intro p s z;rw [Sem.wp] at z;exact ih _ p _ z
 |choose src m k ih=>intro p s z;rw [Sem.wp] at z;exact ih _ p _ z.2
 |genState g k ih=>intro p s z;rw [Sem.wp] at z;obtain ⟨st,e,z⟩:=z;exact ih _ p s z
 |resume g r l k ih=>intro p s z;rw [Sem.wp] at z;obtain ⟨res,s',w,z⟩:=z;exact ih _ p s' z
 |call c hd g l k ih=>intro p s z;rw [Sem.wp] at z;obtain ⟨r,s',w,z⟩:=z;exact ih _ p s' z
 |_=>first|(intro p s z;rw [Sem.wp] at z;exact z.elim)|(rename_i ih;intro p s z;rw [Sem.wp] at z;exact ih _ _ _ z)
theorem dI {α β:Type} {M:Model} {A:Around} {t:Sem α} {s:Shared} (h:wpAny M A t (fun _ _=>False) (fun _ _=>False) s) {u:Sem β} {Q:β->Shared->Prop} {E:Value->Shared->Prop}:wpAny M A u Q E s:=fun Γ p hΓ=>(zgM t p s (h Γ p hΓ)).elim
end L2
namespace L3
open PySem PySem.Spec PyProof.Rows L2 PySem.SeqAt PySem.Builtin PySem.Builtin.Str
theorem zaN {K:yL} {h:Heap} (X:K.In h) (lim:h.NoLimit) (e:PySem.W.nsIn K cStatics sharingNotToldKey=some none):NoneBooked h:=by
 obtain ⟨mc,hn,_⟩:=lim;exact ⟨mc,hn,PySem.W.ns_none_of X hn e⟩
theorem Inv.lim {X:Cx} {pins:List (Addr×Obj)} {σ:L2.St} {H:Hp} {s:Shared} (I:Inv X pins σ H s):s.heap.NoLimit:=I.ok.mod.nolimit.keeps I.bk
def Ev2 (X:Cx) (e2:Expr) (t2:TE):Prop:=∀ (pins:List (Addr×Obj)) (s:Shared) (σ:L2.St) (H:Hp) (Q:VK) (k:Nat),k<s.toks->Inv X pins σ H s->t2 σ H Q ->
 wpAny (model X.prog X.w) X.A (eval e2 X.env) (fun v s'=>∃ b t' H',v=.str b t'/\k<t'/\Inv X pins σ H' s'/\Q (.str b) H') X.xe s
theorem zh3 {X:Cx} {b:Str} {j:Nat} {p:Pos}:Ev2 X (.Constant (.str b) j p) (fun _ H Q=>Q (.str b) H):=fun pins s σ H Q k hk I h=>Calls.Constant_str ⟨b,s.toks,H,rfl,hk,I.tok _,h⟩
theorem zhz {prog:Program} {w:World} {A:Around} {E:Value->Shared->Prop} {s:Shared} {env:Env} {o:Expr} {nm:Str} {ap cp:Pos} {es:List Expr} {ts:List (Bool×Sem Value)} {Q:Value->Shared->Prop}
  (hb:attributeBase o nm env (eval o env)=eval o env) (hf:methodCallForm (es.length+([]:List Keyword).length) (backTo cp (starEach es env)) (backToKw cp (keywordEach [] env))=true) (hl:(ap.endLine==cp.line)=true) (ht:backTo cp (starEach es env)=ts)
  (h:wpAny (model prog w) A (eval o env) (fun v s1=>MethodOn prog w A nm cp v ts Q E s1\/∃ t:Sem Value,wpAny (model prog w) A t (fun _ _=>False) (fun _ _=>False) s1) E s):wpAny (model prog w) A (eval (.Call (.Attribute o nm ap) es [] cp) env) Q E s:=by
 subst ht;rw [arm_eval_Call,hb];refine wpAny_bind (yH h fun v s1 z=>?_);rcases z with ⟨T,id,a1,a2,a3,a4,a5,a6⟩|⟨t,z⟩
 .have e:methodCallPos true o env ap cp=pure cp:=by unfold methodCallPos;simp [hl]
  refine wpAny_bind (wpAny_standAt ?_);unfold methodCall;rw [hf];exact wpAny_bind (wpAny_holding (getMethod_builtin a4 a1 a2 a3 a5 (wpAny_bind (wpAny_of_eq e a6))))
 .exact dI z
def Dead (X:Cx) (σ:L2.St) (H:Hp):Prop:=∀ (pins:List (Addr×Obj)) (s:Shared),Inv X pins σ H s->∃ t:Sem Value,wpAny (model X.prog X.w) X.A t (fun _ _=>False) (fun _ _=>False) s
def tRep (X:Cx) (a:Str) (to t2:TE):TE:=fun σ H Q=>to σ H fun x H1=>(∃ y,x=.str y/\t2 σ H1 fun z H2=>∃ b,z=.str b/\y.length+(y.length+1) * b.length<=16777216/\Q (.str (Txt.replace y a b)) H2)\/Dead X σ H1
theorem zjv {X:Cx} {o e2:Expr} {a:Str} {j:Nat} {p1 apos cpos:Pos} {to t2:TE} (hb:PySem.W.nsIn X.K cStatics sharingNotToldKey=some none) (ho:PE X o to) (h2:Ev2 X e2 t2) (hn:xJ e2=true)
  (hbase:attributeBase o "replace" X.env (eval o X.env)=eval o X.env) (hline:(apos.endLine==cpos.line)=true):PE X (.Call (.Attribute o "replace" apos) [.Constant (.str a) j p1,e2] [] cpos) (tRep X a to t2):=by
 intro pins s σ H Q I h;have hs:=dW (args:=[.Constant (.str a) j p1,e2]) (env:=X.env) (pos:=cpos) (by show (true&&(xJ e2&&true))=true;rw [hn];rfl)
 have tr:backTo cpos (starEach [.Constant (.str a) j p1,e2] X.env)=[(false,eval (.Constant (.str a) j p1) X.env),(false,eval e2 X.env)]:=by
  cases e2<;>first|rfl|cases hn
 refine zhz hbase (by unfold methodCallForm;rw [hs];rfl) hline tr (yH (ho pins s σ H _ I h) fun v s1 ⟨x,H1,I1,r1,q1⟩=>?_);refine q1.elim (fun ⟨y,ey,qy⟩=>?_) fun dd=>.inr (dd pins s1 I1);subst ey;obtain ⟨t,rfl⟩:=r1;refine .inl ⟨"str", "str.replace", PySem.F.plainAttrs_str,PySem.F.slot_str_replace,PySem.F.type_str_replace,typeIs_str _ _ _,fun b z=>(nomatch z),?_⟩;refine Calls.callWith_builtin rfl (Calls.evalArgs_plain (Calls.spliced_cons (Calls.Constant_str ?_)));refine Calls.spliced_cons (yH (h2 pins { s1 with toks:=s1.toks+1 } σ H1 _ s1.toks (Nat.lt_succ_self _) (I1.tok _) qy) fun v2 s2 ⟨b,t',H2,e2',lt,I2,b',eb,hl,q2⟩=>Calls.spliced_nil ?_);subst e2';cases eb;have k0:=I1.tk;exact wH I2.tk (SC.replaceA (Nat.ne_of_gt k0) (Nat.ne_of_gt (Nat.lt_trans k0 lt)) (Nat.ne_of_lt lt) hl (fun t' k h0=>⟨.str (Txt.replace y a b),H2,I2.tok _ h0,⟨t',rfl⟩,q2⟩) (zaN I2.kIn (Inv.lim I2) hb))
def nO (a b:Str):Scope->Expr->Option (List Expr):=fun _ e=>match e with
 | .Call (.Attribute o m apos) [.Constant (.str x) _ _,.Constant (.str y) _ _] [] cpos=>if (m==("replace" : Str)&&x==a&&y==b&&nV o&&apos.endLine==cpos.line)=true then some [o] else none
 |_=>none
theorem zeT {a b:Str} {sc:Scope} {e:Expr} {xs:List Expr} (h:nO a b sc e=some xs):∃ o apos cpos j p k q,xs=[o]/\e=.Call (.Attribute o "replace" apos) [.Constant (.str a) j p,.Constant (.str b) k q] [] cpos/\nV o=true/\(apos.endLine==cpos.line)=true:=by
 unfold nO at h
 split at h
 .rename_i o m apos x j p y k q cpos
  by_cases hb:(m==("replace" : Str)&&x==a&&y==b&&nV o&&apos.endLine==cpos.line)=true
  .rw [if_pos hb] at h;cases h;simp only [Bool.and_eq_true,beq_iff_eq] at hb;obtain ⟨⟨⟨⟨rfl,rfl⟩,rfl⟩,h1⟩,h2⟩:=hb;exact ⟨o,apos,cpos,j,p,k,q,rfl,rfl,h1,by rw [h2];exact beq_self_eq_true _⟩
  .rw [if_neg hb] at h;cases h
 .cases h
def cV (a b:Str):RS:=fun ws G Q=>match ws with
 | [.str y]=>y.length+(y.length+1) * b.length<=16777216/\Q (.str (Txt.replace y a b)) G
 |_=>False
theorem rB {a b:Str}:wG (cV a b):=by
 intro ws G Q Q' k h;unfold cV at h ⊢
 split at h
 .exact ⟨h.1,k _ _ h.2⟩
 .exact h.elim
theorem zcK {q:Pr} {A:Around} {a b:Str} (hb:PySem.W.nsIn q.K cStatics sharingNotToldKey=some none):SxE (q.at A) ⟨nO a b,cV a b⟩:=by
 intro X fits e xs es he each hn pa;obtain ⟨o,apos,cpos,j,p,k,q',rfl,rfl,h1,h2⟩:=zeT (sc:=X.env.scope) he
 cases es with
 |nil=>exact each.elim
 |cons e0 r =>
  obtain ⟨mo,po,er⟩:=each
  cases r with
  |cons _ _=>exact er.elim
  |nil =>
   refine ⟨fun pins s σ H Q I h=>?_,fun _=>rfl,fun _ _ _ z=>nomatch z⟩;refine zjv (by rw [show X.K=q.K from fits.K];exact hb) po zh3 rfl (qF h1) h2 pins s σ H Q I ?_;obtain ⟨σ3,G,hs,ab,h⟩:=h;refine yF mo hs ab h fun w G1 v H1 g1 hs1 rw1 a1 h=>?_;dsimp only [sY] at h;unfold cV at h
   split at h
   .rename_i y e;cases e;cases (show v=.str y from rw1);exact .inl ⟨y,rfl,b,rfl,h.1,h.2 _ H1 g1 rfl a1⟩
   .exact h.elim
def cM:List (Option Str)->List Expr->Option (List Expr)
 | [],[]=>some []
 |some a::ps,.Constant (.str b) _ _::vs=>if a==b then cM ps vs else none
 |none::ps,.FormattedValue v c sp _::vs=>if (c==-1&&sp.isNone)=true then (cM ps vs).map (v::·) else none
 |_,_=>none
def uW:List (Option Str)->List Str->Str
 | [],_=>Str.empty
 |some a::ps,ts=>a++uW ps ts
 |none::ps,t::ts=>t++uW ps ts
 |none::ps,[]=>uW ps []
def fstM (ps:List (Option Str)):Scope->Expr->Option (List Expr):=fun _ e=>match e with
 | .JoinedStr (a::b::r) _=>cM ps (a::b::r)
 |_=>none
theorem zfG {ps:List (Option Str)} {sc:Scope} {e:Expr} {xs:List Expr} (h:fstM ps sc e=some xs):∃ a b r p,e=.JoinedStr (a::b::r) p/\cM ps (a::b::r)=some xs:=by
 unfold fstM at h
 split at h
 .exact ⟨_,_,_,_,rfl,h⟩
 .cases h
def zi3 (env:Env):List Expr->Sem Unit
 | []=>pure ()
 |x::xs=>eval x env >>= fun _=>zi3 env xs
theorem gK {X:Cx} (hx:X.xe=fun _ _=>False):∀ (xs:List Expr) (es:List E3) (pins:List (Addr×Obj)) (s:Shared) (τ:L2.St) (H:Hp) (σ:jM) (G:Hw),nS X xs es->Inv X pins τ H s->yM X.K H σ τ->xR X.K H G->sY es σ G (fun _ _=>False) ->
  wpAny (model X.prog X.w) X.A (zi3 X.env xs) (fun _ _=>False) (fun _ _=>False) s
 | [],[],_,_,_,_,_,_,_,_,_,_,h=>h.elim
 | [],_::_,_,_,_,_,_,_,e,_,_,_,_=>e.elim
 |_::_,[],_,_,_,_,_,_,e,_,_,_,_=>e.elim
 |x::xs,e::es,pins,s,τ,H,σ,G,⟨m,pe,r⟩,I,hs,ab,h=>by
  have w:=pe pins s τ H (fun v H1=>∃ G1,yM X.K H1 σ τ/\xR X.K H1 G1/\sY es σ G1 (fun _ _=>False)) I (yF m hs ab h fun w G1 v H1 g1 hs1 rw1 a1 h=>⟨G1,hs1,a1,wI r σ G1 _ _ (fun _ _ z=>z) h⟩);rw [hx] at w;exact wpAny_bind (yH w fun v s1 ⟨_,H1,I1,_,G1,hs1,a1,h1⟩=>gK hx xs es pins s1 τ H1 σ G1 r I1 hs1 a1 h1)
theorem zeo (a b c:Str):a++b++c=a++(b++c):=by
 show (⟨(a.cps++b.cps)++c.cps⟩:Str)=⟨a.cps++(b.cps++c.cps)⟩;rw [Array.append_assoc]
theorem zen (a:Str):a++Str.empty=a:=by
 show (⟨a.cps++#[]⟩:Str)=a;rw [Array.append_empty]
theorem zkA (a:Str):Str.empty++a=a:=by
 show (⟨#[]++a.cps⟩:Str)=a;rw [Array.empty_append]
def FstK (X:Cx) (ps:List (Option Str)) (acc:Str) (H:Hp) (Q:VK) (ws:List W) (G':Hw):Prop:=∃ ts:List Str,ws=ts.map .str/\acc.length+(uW ps ts).length<=1000000/\∀ H',yJ X.K H H'->xR X.K H' G'->Q (.str (acc++uW ps ts)) H'
theorem zdQ {X:Cx} (hx:X.xe=fun _ _=>False):∀ (ps:List (Option Str)) (vs xs:List Expr) (es:List E3) (acc:Str) (pins:List (Addr×Obj)) (s:Shared) (τ:L2.St) (H:Hp) (σ:jM) (G:Hw) (Q:VK),cM ps vs=some xs->nS X xs es->Inv X pins τ H s->yM X.K H σ τ->xR X.K H G ->
  sY es σ G (FstK X ps acc H Q)->Joins (model X.prog X.w) X.A X.xe (evalEach vs X.env) acc (fun out s1=>out.length<=sizeLine/\EP X pins τ Q (.str out s1.toks) { s1 with toks:=s1.toks+1 }) s:=by
 intro ps
 induction ps with
 |nil =>
  intro vs xs es acc pins s τ H σ G Q hp each I hs ab h
  cases vs with
  |cons _ _=>cases hp
  |nil =>
   cases hp
   cases es with
   |cons _ _=>exact each.elim
   |nil =>
    obtain ⟨ts,e,l,q⟩:=h;have q:=q H .refl ab;dsimp only [uW] at q l;rw [zen] at q;exact ⟨by rw [sizeLine_eq];omega,.str acc,H,I.tok _,⟨_,rfl⟩,q⟩
 |cons p ps ih =>
  intro vs xs es acc pins s τ H σ G Q hp each I hs ab h
  cases p with
  |some a =>
   obtain ⟨j,po,vs',rfl,hq⟩:∃ j po vs',vs=.Constant (.str a) j po::vs'/\cM ps vs'=some xs:=by
    unfold cM at hp
    split at hp
    .rename_i e;cases e
    .rename_i b j po vs' e;cases e
     split at hp
     .rename_i e;cases eq_of_beq e;exact ⟨_,_,_,rfl,hp⟩
     .cases hp
    .rename_i e;cases e
    .cases hp
   show wpAny _ _ (eval (.Constant (.str a) j po) X.env) _ _ s
   by_cases hl:acc.length+a.length<=1000000
   .refine Calls.Constant_str ⟨a,_,rfl,by rw [strLen_append,sizeLine_eq];omega,ih vs' xs es (acc++a) pins _ τ H σ G Q hq each (I.tok _) hs ab (wI each σ G _ _ (fun ws G' z=>?_) h)⟩;obtain ⟨ts,e,l,q⟩:=z;dsimp only [uW] at l q;rw [strLen_append] at l;exact ⟨ts,e,by rw [strLen_append];omega,fun H' g a'=>by rw [zeo];exact q H' g a'⟩
   .refine dI (gK hx xs es pins s τ H σ G each I hs ab (wI each σ G _ _ (fun ws G' z=>?_) h));obtain ⟨ts,e,l,q⟩:=z;dsimp only [uW] at l;rw [strLen_append] at l;omega
  |none =>
   obtain ⟨v,po,vs',xs',rfl,rfl,hq⟩:∃ v po vs' xs',vs=.FormattedValue v (-1) none po::vs'/\xs=v::xs'/\cM ps vs'=some xs':=by
    unfold cM at hp
    split at hp
    .rename_i e;cases e
    .rename_i e;cases e
    .rename_i v c sp po vs' e;cases e
     split at hp
     .rename_i e;simp only [Bool.and_eq_true,beq_iff_eq,Option.isNone_iff_eq_none] at e;obtain ⟨rfl,rfl⟩:=e
      cases hq:cM ps vs' with
      |none=>rw [hq] at hp;cases hp
      |some ys=>rw [hq] at hp;cases hp;exact ⟨_,_,_,_,rfl,rfl,hq⟩
     .cases hp
    .cases hp
   cases es with
   |nil=>exact each.elim
   |cons e es =>
    obtain ⟨m,pe,r⟩:=each;show wpAny _ _ (eval (.FormattedValue v (-1) none po) X.env) _ _ s
    refine wpAny_FormattedValue_plain (yH (pe pins s τ H (fun v' H1=>∃ w G1,xN X.K H1 w v'/\yM X.K H1 σ τ/\xR X.K H1 G1/\yJ X.K H H1/\sY es σ G1 fun ws G'=>FstK X (none::ps) acc H Q (w::ws) G') I
     (yF m hs ab h fun w G1 v' H1 g1 hs1 rw1 a1 h=>⟨w,G1,rw1,hs1,a1,g1,h⟩)) fun u s1 ⟨v',H1,I1,ru,w,G1,rw1,hs1,a1,g1,h1⟩=>?_)
    by_cases hw:∃ y,w=.str y/\acc.length+y.length<=1000000
    .obtain ⟨y,rfl,hl⟩:=hw;cases (show v'=.str y from rw1);obtain ⟨t,rfl⟩:=ru;have hy:y.length<=sizeLine:=by rw [sizeLine_eq];omega
     have go:∀ s2,Inv X pins τ H1 s2->Joins (model X.prog X.w) X.A X.xe (evalEach vs' X.env) (acc++y) (fun out s1=>out.length<=sizeLine/\EP X pins τ Q (.str out s1.toks) { s1 with toks:=s1.toks+1 }) s2:=fun s2 I2 =>
      ih vs' xs' es (acc++y) pins s2 τ H1 σ G1 Q hq r I2 hs1 a1 (wI r σ G1 _ _ (fun ws G' z=>by
       obtain ⟨ts,e,l,q⟩:=z
       cases ts with
       |nil=>cases e
       |cons t ts =>
        rw [zzU] at e
        injection e with e1 e2
        cases e1;dsimp only [uW] at l q;rw [strLen_append] at l;exact ⟨ts,e2,by rw [strLen_append];omega,fun H' g a'=>by rw [zeo];exact q H' (g1.trans g) a'⟩) h1)
     have hz:(acc++y).length<=sizeLine:=by rw [strLen_append,sizeLine_eq];omega
     exact wpAny_formatField_str ⟨y,_,rfl,hz,go s1 I1⟩ ⟨y,_,rfl,hz,go _ (I1.tok _)⟩ hy
    .refine dI (gK hx xs' es pins s1 τ H1 σ G1 r I1 hs1 a1 (wI r σ G1 _ _ (fun ws G' z=>hw ?_) h1));obtain ⟨ts,e,l,q⟩:=z
     cases ts with
     |nil=>cases e
     |cons t ts =>
      rw [zzU] at e
      injection e with e1 e2
      dsimp only [uW] at l;rw [strLen_append] at l;exact ⟨t,e1,by omega⟩
def fstS (ps:List (Option Str)):RS:=fun ws G Q=>∃ ts:List Str,ws=ts.map .str/\(uW ps ts).length<=1000000/\Q (.str (uW ps ts)) G
theorem zaj {ps:List (Option Str)}:wG (fstS ps):=fun ws G Q Q' k ⟨ts,e,l,h⟩=>⟨ts,e,l,k _ _ h⟩
theorem zf3 {q:Pr} {A:Around} {ps:List (Option Str)}:SxE (q.at A) ⟨fstM ps,fstS ps⟩:=by
 intro X fits e xs es he each hn pa;obtain ⟨a,b,r,p,rfl,he⟩:=zfG (sc:=X.env.scope) he;refine ⟨fun pins s τ H Q I h=>?_,fun _=>rfl,fun _ _ _ z=>nomatch z⟩;obtain ⟨σ,G,hs,ab,h⟩:=h;refine wpAny_JoinedStr (zdQ fits.xe ps _ xs es Str.empty pins s τ H σ G Q he each I hs ab (wI each σ G _ _ (fun ws G' z=>?_) h));obtain ⟨ts,e,l,q⟩:=z;exact ⟨ts,e,by rw [show Str.empty.length=0 from rfl];omega,fun H' g a'=>by rw [zkA];exact q _ H' g rfl a'⟩
def rG (c:Nat):List Nat->List (List Nat)
 | []=>[[]]
 |k::r=>if k=c then []::rG c r else match rG c r with
  |h::t=>(k::h)::t
  | []=>[[k]]
theorem zgD (c:Nat):∀ l,rG c l≠[]
 | []=>by simp [rG]
 |k::r=>by
  unfold rG
  split
  .simp
  .split<;>simp
theorem rJ {c:Nat}:∀ {l:List Nat},c∉l->rG c l=[l]
 | [],_=>rfl
 |k::r,h=>by
  simp only [List.mem_cons,not_or] at h;unfold rG;rw [if_neg (Ne.symm h.1),rJ h.2]
theorem za1 {c:Nat}:∀ (a b:List Nat),rG c (a++c::b)=rG c a++rG c b
 | [],b=>by show rG c (c::b)=[[]]++rG c b;rw [rG,if_pos rfl];rfl
 |k::a,b=>by
  show rG c (k::(a++c::b))=rG c (k::a)++rG c b;rw [rG,za1 a b,rG]
  split
  .rfl
  .cases h:rG c a with
   |nil=>exact absurd h (zgD c a)
   |cons x t=>rfl
theorem zbV {c:Nat}:∀ (ps:List Str),ps≠[]->(∀ p∈ps,c∉p.cps.toList)->rG c (Str.join ⟨#[c]⟩ ps).cps.toList=ps.map (·.cps.toList)
 | [],h,_=>absurd rfl h
 | [p],_,h=>rJ (h p zzT)
 |p::q::r,_,h=>by
  have ih:=zbV (q::r) (by simp) fun a ha=>h a (List.mem_cons_of_mem _ ha);show rG c (p++⟨#[c]⟩++Str.join ⟨#[c]⟩ (q::r)).cps.toList=_;rw [Str.cps_append,Str.cps_append,Array.toList_append,Array.toList_append,List.append_assoc];show rG c (p.cps.toList++c::(Str.join ⟨#[c]⟩ (q::r)).cps.toList)=_;rw [za1,ih,rJ (h p zzT)];rfl
theorem zeE (x:Str) (c:Nat):Txt.split x ⟨#[c]⟩≠[]:=by
 unfold Txt.split
 split
 .simp
 .split
  .simp
  .intro h;have:=congrArg List.length h;rw [length_partsBetween] at this;simp at this
theorem cA (x:Str) (c:Nat):(Txt.split x ⟨#[c]⟩).map (·.cps.toList)=rG c x.cps.toList:=by
 have h:=zbV (c:=c) (Txt.split x ⟨#[c]⟩) (zeE x c) (StrLaws.split_free x c);rw [StrLaws.join_split] at h;exact h.symm
theorem zgW {a b:Str} (h:a.cps.toList=b.cps.toList):a=b:=Str.ext' (Array.toList_inj.mp h)
theorem zeG (x:Str) (c:Nat):Txt.split x ⟨#[c]⟩=(rG c x.cps.toList).map fun l=>⟨l.toArray⟩:=by
 rw [← cA,List.map_map]
 conv=>lhs;rw [← List.map_id (Txt.split x ⟨#[c]⟩)]
 exact List.map_congr_left fun a _=>by simp
def wd (l:List Nat):List (List Nat):=(rG 32 l).filter fun w=>!w.isEmpty
theorem tB (a b:List Nat):wd (a++32::b)=wd a++wd b:=by unfold wd;rw [za1,List.filter_append]
theorem zgO {l:List Nat} (h:32∉l):wd l=if l.isEmpty then [] else [l]:=by
 unfold wd;rw [rJ h];cases l<;>rfl
end L3
namespace L3
open PySem PySem.Spec PyProof.Rows L2 PySem.SeqAt PySem.Builtin PySem.Builtin.Str PySem.StrLaws
inductive Rp (y z:List Nat):List Nat->List Nat->Prop where
 |nil:Rp y z [] []
 |hit {r s:List Nat}:Rp y z r s->Rp y z (y++r) (z++s)
 |skip {k:Nat} {r s:List Nat}:¬ y <+: k::r->Rp y z r s->Rp y z (k::r) (k::s)
theorem Rp.det {y z:List Nat} (hy:y≠[]):∀ {x s s':List Nat},Rp y z x s->Rp y z x s'->s=s':=by
 intro x s s' h
 induction h generalizing s' with
 |nil =>
  intro h';generalize e:([]:List Nat)=x at h'
  cases h' with
  |nil=>rfl
  |hit _=>exact absurd (List.append_eq_nil_iff.mp e.symm).1 hy
  |skip _ _=>cases e
 | @hit r s _ ih =>
  intro h';generalize e:y++r=x at h'
  cases h' with
  |nil=>exact absurd (List.append_eq_nil_iff.mp e).1 hy
  |hit h2=>rw [List.append_cancel_left e] at ih;rw [ih h2]
  |skip n _=>exact absurd ⟨r,e⟩ n
 | @skip k r s n _ ih =>
  intro h';generalize e:k::r=x at h'
  cases h' with
  |nil=>cases e
  |hit h2=>exact absurd ⟨_,e.symm⟩ n
  |skip n2 h2=>cases e;rw [ih h2]
theorem zb0 (x y:Str) (i:Nat) (hi:i<=x.length):At x y x.length i↔y.cps.toList <+: x.cps.toList.drop i:=by
 unfold At;rw [subAt_eq,beq_iff_eq]
 constructor
 .intro h;exact ⟨_,by rw [← h.2];exact List.take_append_drop _ _⟩
 .rintro ⟨t,e⟩;rw [← e];have l:=congrArg List.length e;rw [zzW,List.length_drop] at l;have ly:y.cps.toList.length=y.length:=by simp [Str.length]
  have lx:x.cps.toList.length=x.length:=by simp [Str.length]
  refine ⟨by omega,?_⟩;rw [← ly,List.take_left]
theorem pP (x:Str):x.cps.toList.length=x.length:=by simp [Str.length]
theorem zaK {y z:List Nat} {x:List Nat} {s:List Nat}:∀ (n a:Nat),a+n<=x.length->(∀ k,a<=k->k<a+n->¬ y <+: x.drop k)->Rp y z (x.drop (a+n)) s->Rp y z (x.drop a) ((x.drop a).take n++s)
 | 0,a,_,_,h=>by simpa using h
 |n+1,a,hl,hn,h=>by
  have ih:=zaK n (a+1) (by omega) (fun k h1 h2=>hn k (by omega) (by omega)) (by rw [show a+1+n=a+(n+1) by omega];exact h);have e:x.drop a=x[a]::x.drop (a+1):=by rw [List.drop_eq_getElem_cons (by omega)]
  rw [e,List.take_succ_cons];refine .skip ?_ ih;rw [← e];exact hn a (zzR _) (by omega)
theorem zf7 {y z:List Nat} (hy:y≠[]) {x:List Nat} {a:Nat} (ha:a<=x.length) (hn:∀ k,a<=k->k<x.length->¬ y <+: x.drop k):Rp y z (x.drop a) (x.drop a):=by
 have:=zaK (z:=z) (s:=[]) (x.length-a) a (by omega) (fun k h1 h2=>hn k h1 (by omega)) (by rw [show a+(x.length-a)=x.length by omega,List.drop_length];exact .nil)
 rwa [List.append_nil,List.take_of_length_le (by rw [List.length_drop];omega)] at this
theorem zbp {x y z:Str} (hy:y.cps.toList≠[]):∀ (cuts:List Nat) (a f:Nat),a<=x.length->ChainG x y x.length a cuts f->(∀ k,f<=k->¬ At x y x.length k)->Rp y.cps.toList z.cps.toList (x.cps.toList.drop a) (Str.join z (partsFrom x y.length a cuts)).cps.toList
 | [],a,f,ha,hc,hn=>by
  have e:f=a:=hc;subst e;show Rp _ _ _ (strSub x f x.length).cps.toList;rw [strSub_toList,← pP x,List.take_of_length_le (by rw [List.length_drop];exact zzR _)];exact zf7 hy (by rw [pP];exact ha) fun k h1 h2 z=>hn k h1 ((zb0 x y k (by rw [pP] at h2;omega)).mpr z)
 |c::r,a,f,ha,hc,hn=>by
  obtain ⟨h1,h2,h3,h4⟩:=hc;have hcl:c+y.length<=x.length:=h2.1;have ih:=zbp (z:=z) hy r (c+y.length) f hcl h4 hn;obtain ⟨p,q,e⟩:=partsFrom_ne x y.length (c+y.length) r
  have ej:Str.join z (partsFrom x y.length a (c::r))=strSub x a c++z++Str.join z (partsFrom x y.length (c+y.length) r):=by
   show Str.join z (strSub x a c::partsFrom x y.length (c+y.length) r)=_;rw [e];rfl
  rw [ej];simp only [Str.cps_append,Array.toList_append];rw [strSub_toList,List.append_assoc]
  have hit:Rp y.cps.toList z.cps.toList (x.cps.toList.drop c) (z.cps.toList++(Str.join z (partsFrom x y.length (c+y.length) r)).cps.toList):=by
   obtain ⟨t,et⟩:=(zb0 x y c (by omega)).mp h2
   have:t=x.cps.toList.drop (c+y.length):=by
    rw [← List.drop_drop,← et,← pP y,List.drop_left]
   rw [← et,this];exact .hit ih
  have:=zaK (z:=z.cps.toList) (c-a) a (by rw [pP];omega) (fun k k1 k2 w=>h3 k k1 (by omega) ((zb0 x y k (by omega)).mpr w)) (by rw [show a+(c-a)=c by omega];exact hit);exact this
theorem zje (x y z:Str) (hy:1<=y.length):Rp y.cps.toList z.cps.toList x.cps.toList (Txt.replace x y z).cps.toList:=by
 have hy':y.cps.toList≠[]:=fun e=>by have:=pP y;rw [e] at this;simp at this;omega
 obtain ⟨f,hc,hn⟩:=occ_tight x y hy;unfold Txt.replace;have y0:(y.length==0)=false:=by simp;omega
 rw [y0,Bool.false_and,Bool.or_false]
 split
 .rename_i e;have e:=List.isEmpty_iff.mp e;rw [e] at hc;have ef:f=0:=hc;subst ef;have:=zf7 (z:=z.cps.toList) hy' (x:=x.cps.toList) (a:=0) (Nat.zero_le _) fun k h1 h2 w=>hn k h1 ((zb0 x y k (by rw [pP] at h2;omega)).mpr w);simpa using this
 .rw [glued_eq_join,partsBetween_eq];have:=zbp (z:=z) hy' _ 0 f (Nat.zero_le _) hc hn;simpa using this
end L3
namespace L3
open PySem PySem.Spec PyProof.Rows L2 HT
section
variable {prog : Program} {w : World} {A : Around} {E : Value → Shared → Prop} {s : Shared}
theorem zgx {f:Nat->Option Value} {g:Nat->Value}:∀ {l:List Nat},(∀ m∈l,f m=some (g m))->l.filterMap f=l.map g
 | [],_=>rfl
 |a::l,h=>by
  rw [List.filterMap_cons_some (h a zzT),zzU,zgx fun m hm=>h m (List.mem_cons_of_mem _ hm)]
theorem zbr (xs:Array Value):((List.range xs.size).filterMap fun (m:Nat)=>xs[(((xs.size:Int)-1)+(m:Int) * (-1)).toNat]?).toArray=xs.toList.reverse.toArray:=by
 congr 1;rw [zgx (g:=fun m=>xs.toList.reverse.getD m Value.none)]
 .have:=qI Value.none xs.toList.reverse;rw [List.length_reverse,Array.length_toList] at this;exact this
 .intro m hm;have hm:m<xs.size:=List.mem_range.mp hm;have e1:(((xs.size:Int)-1)+(m:Int) * (-1)).toNat=xs.size-1-m:=by omega
  have h2:xs.size-1-m<xs.size:=by omega
  rw [e1,Array.getElem?_eq_getElem h2,List.getD_eq_getElem?_getD,List.getElem?_reverse (by simpa using hm)];simp [h2]
theorem zcV {sl:Addr} {n:Nat} {t:Tok} {Q:Int×Int×Nat->Shared->Prop} (hs:s.heap.IsSliceOf sl .none .none (.int (-1) t)) (h:Q ((n:Int)-1,-1,n) s):wpAny (model prog w) A (Builtin.Slice.sliceApplied (.ref sl) (pure (n:Int))) Q E s:=by
 obtain ⟨os,hos,hcs,hds⟩:=id hs;unfold Builtin.Slice.sliceApplied Builtin.Slice.sliceFields;refine wpAny_bind (wpAny_bind (wpAny_field hos hds (x:=.none) rfl (wpAny_bind (wpAny_field hos hds (x:=.none) rfl (wpAny_bind (wpAny_field hos hds (x:=.int (-1) t) rfl (wpAny_pure ?_)))))));refine wpAny_bind (slicePart_int ?_);show wpAny (model prog w) _ (if ((-1:Int)==0)=true then _ else _) _ _ s;rw [if_neg (by decide)];refine wpAny_bind (slicePart_none (wpAny_bind (slicePart_none (wpAny_bind (wpAny_pure ?_)))))
 have e:Builtin.Slice.slicePlaces ((n:Int)-1) (-1) (-1)=n:=by
  unfold Builtin.Slice.slicePlaces;rw [if_neg (by decide),show (-(-1):Int)=1 from rfl,Int.ediv_one]
  split<;>omega
 show wpAny (model prog w) _ (pure ((n:Int)-1,(-1:Int),Builtin.Slice.slicePlaces ((n:Int)-1) (-1) (-1))) _ _ s;rw [e];exact wpAny_pure h
theorem zhX {t sl:Addr} {items:Array Value} {tk:Tok} {Q:Value->Shared->Prop} (ht:IsTup s.heap t items) (hs:s.heap.IsSliceOf sl .none .none (.int (-1) tk)) (hsz:items.size<=sizeLine)
  (h:Q (.ref s.heap.objs.size) { s with heap:=s.heap.push { cls:=.type "tuple", data:=.seq items.toList.reverse.toArray } }):wpAny (model prog w) A (getItem (.ref t) (.ref sl)) Q E s:=by
 obtain ⟨os,hos,hcs,hds⟩:=id hs;have hTs:s.TypeIs (.ref sl) "slice" := ⟨os,hos,hcs⟩
 have hok:sizeOk (.seq items.toList.reverse.toArray):=by
  show items.toList.reverse.toArray.size<=sizeLine;rw [zzS,List.length_reverse,Array.length_toList];exact hsz
 unfold getItem
 try with_reducible refine wpAny_holding ?_
 first|refine wpAny_bind (wpAny_pure ?_)|skip
 refine wpAny_bind (wpAny_sequenceKey ht.typeIs (by decide) ?_);refine wpAny_bind (wpAny_callSpecial?_slot (name:=Str.ofString "__getitem__") ht.typeIs PyProof.Rows.slot_tuple_getitem (wpAny_call_entry PyProof.Rows.slot_tuple_getitem ht.typeIs entry_tuple_getitem ?_ (args_tuple_getitem _ _)));refine wpAny_bind (m:=Builtin.Tuple.tupleItemsOf (.ref t)) (tupleItemsOf_ ht ?_);refine wpAny_bind (wpAny_typeOf hTs ?_);rw [if_pos (by decide)];refine wpAny_bind (zcV hs ?_);dsimp only;rw [if_neg (by simp),zbr]
 first
  |exact wpAny_bind (m:=Builtin.Tuple.tupleExact _) (wpAny_newObj_type (wpAny_pure ⟨_,rfl,wpAny_pure h⟩) hok)
  |exact wpAny_bind (wpAny_bind (m:=Builtin.Tuple.tupleExact _) (wpAny_newObj_type (wpAny_pure ⟨_,rfl,wpAny_pure h⟩) hok))
end
def rvM:Scope->Expr->Option (List Expr):=fun _ e=>match e with
 | .Subscript l (.Slice none none (some (.UnaryOp .USub (.Constant (.int i) _ _) _)) _) _=>if i=1 then some [l] else none
 |_=>none
def rvS:RS:=fun ws G Q=>match ws with
 | [.tup xs]=>Q (.tup xs.reverse) G
 | [.ref p]=>∃ xs,yU G p=some xs/\∀ r,G r=none->Q (.ref r) (put G r (.lst xs.reverse))
 |_=>False
theorem zeR:wG rvS:=by
 intro ws G Q Q' k h;unfold rvS at h ⊢
 split at h
 .exact k _ _ h
 .obtain ⟨xs,e,h⟩:=h;exact ⟨xs,e,fun r hr=>k _ _ (h r hr)⟩
 .exact h.elim
theorem ze6 (xs:Array Value):slicePick xs none none (some (-1))=xs.toList.reverse.toArray:=by
 rw [← zbr];unfold slicePick sliceBounds sliceRange;congr 1;simp only [Option.getD_some,show ¬ ((-1:Int) > 0) by decide,if_false]
 have e:(if (xs.size:Int)-1 > -1 then ((xs.size:Int)-1 - -1 - -1-1) / - -1 else 0).toNat=xs.size:=by
  rw [show (- -1:Int)=1 from rfl,Int.ediv_one]
  split<;>omega
 rw [e,List.filterMap_map];congr 1
 funext m
 show xs[(((xs.size:Int)-1)+(-1) * (m:Int)).toNat]?=_;rw [Int.mul_comm]
theorem zg4 {sc:Scope} {e:Expr} {xs:List Expr} (h:rvM sc e=some xs):∃ l a p1 p3 p2 pos,e=.Subscript l (.Slice none none (some (.UnaryOp .USub (.Constant (.int 1) a p1) p3)) p2) pos/\xs=[l]:=by
 unfold rvM at h
 split at h
 .rename_i l i a p1 p3 p2 pos
  split at h
  .rename_i hb;subst hb;cases h;exact ⟨l,a,p1,p3,p2,pos,rfl,rfl⟩
  .cases h
 .cases h
theorem zE.reverse {vs:List V} {us:List Value} (h:zE vs us):zE vs.reverse us.reverse:=by
 induction h with
 |nil=>exact .nil
 |cons a _ ih=>rw [List.reverse_cons,List.reverse_cons];exact ih.append (.cons a .nil)
theorem sx_rv {q:Pr} {A:Around}:SxE (q.at A) ⟨rvM,rvS⟩:=by
 intro X fits e xs es he each hn pa;obtain ⟨l,k,p1,p3,p2,pos,rfl,rfl⟩:=zg4 (sc:=X.env.scope) he
 match es,each with
 | [t],each =>
  refine ⟨fun pins s σ H Q I h=>?_,fun _=>rfl,fun _ _ _ z=>nomatch z⟩;obtain ⟨σ3,G,hs,ab,h⟩:=h;refine Subscript_ (yH (each.2.1 pins s σ H (fun v H1=>∃ ys vs a G1,v=.ref a/\zF X.K H1 ys vs/\xR X.K H1 G1/\yJ X.K H H1/\((sO X.K H1 a vs/\kE X.K H Q (.tup ys.reverse) G1)\/(pM X.K H1 a vs/\∀ r,G1 r=none->kE X.K H Q (.ref r) (put G1 r (.lst ys.reverse))))) I ⟨σ3,G,hs,ab,each.1 σ3 G _ _ (fun w G1 h=>?_) h⟩) fun v s1 ⟨x,H1,I1,r1,q1⟩=>?_)
  .intro v H1 g1 rv a1;have h:rvS [w] G1 (kE X.K H Q):=h;unfold rvS at h
   split at h
   .rename_i ys ew;cases ew;obtain ⟨a,vs,rfl,sq,rr⟩:=rv;exact ⟨ys,vs,a,G1,rfl,rr,a1,g1,.inl ⟨sq,h⟩⟩
   .rename_i p ew;cases ew;obtain ⟨ys,e,h⟩:=h;cases (show v=.ref p from rv);obtain ⟨vs,sq,rr⟩:=a1.seq e;exact ⟨ys,vs,p,G1,rfl,rr,a1,g1,.inr ⟨sq,h⟩⟩
   .exact h.elim
  .obtain ⟨ys,vs,a,G1,rfl,rr,a1,g1,q⟩:=q1;cases (show v=Value.ref a from r1);refine wpAny_Slice ?_;rw [evalPart_none];refine wpAny_pure (wpAny_pure ?_);rw [evalPart_some];refine yH (zjt (pos:=p3) zfY (zgg (i:=1) (j:=k) (pos:=p1)) pins s1 σ H1 (fun v H2=>v=.int (-1)/\H2=H1) I1 ⟨1,rfl,rfl,rfl⟩) fun u s2 ⟨y,H2,I2,r2,e1,e2⟩=>?_;subst e1 e2;obtain ⟨tk,rfl⟩:=r2;have I3:Inv X pins σ H2 { s2 with heap:=s2.heap.push { cls:=.type "slice", data:=.fields #[.none,.none,.int (-1) tk] } }:=I2.kept (t':=s2.toks) fun b ob q=>Heap.get?_push_of_some _ q;show wpAny (model X.prog X.w) X.A (subscriptTail l (.Slice none none (some (.UnaryOp .USub (.Constant (.int 1) k p1) p3)) p2) (.ref a) (.ref s2.heap.objs.size)) (EP X pins σ Q) X.xe { s2 with heap:=s2.heap.push { cls:=.type "slice", data:=.fields #[.none,.none,.int (-1) tk] } };have hsl:=Heap.IsSliceOf.new s2.heap .none .none (.int (-1) tk);have sz:s2.heap.objs.size<(s2.heap.push { cls:=.type "slice", data:=.fields #[.none,.none,.int (-1) tk] }).objs.size:=by rw [Heap.size_push];exact Nat.lt_succ_self _
   generalize s2.heap.push { cls:=.type "slice", data:=.fields #[.none,.none,.int (-1) tk] }=h0 at I3 hsl sz ⊢;have hn:H2 h0.objs.size=none:=I3.hok.fresh (zzR _);rcases q with ⟨sq,q⟩|⟨sq,q⟩
   .obtain ⟨its,vv,ht,hz⟩:=I3.tuple sq;have hlen:its.toArray.size=vs.length:=by rw [zzS];exact vv.length.symm
    refine tail_any (ops:=[.ref a,.ref s2.heap.objs.size]) ht.typeIs PyProof.Rows.slot_tuple_getitem.lookup (zhX ht hsl (by rw [hlen];exact hz) ?_) (by with_unfolding_all rfl);refine ⟨.ref _,_,I3.laid (t':=s2.toks) (o:=.tup vs.reverse) (fun b ob q=>Heap.get?_push_of_some _ q) (zzR _) ⟨by rw [List.length_reverse];exact hz,its.reverse,vv.reverse,?_⟩,rfl,?_⟩
    .have:=IsTup.new h0 its.reverse.toArray;simpa using this
    .have g2:yJ X.K H2 (xI H2 h0.objs.size (.tup vs.reverse)):=wZ hn;exact q _ _ (g1.trans g2) ⟨_,_,rfl,sO.of wW,rr.reverse.mono g2⟩ (a1.tup hn)
   .obtain ⟨its,vv,pl,hz⟩:=I3.list sq;have hlen:its.toArray.size=vs.length:=by rw [zzS];exact vv.length.symm
    have ht:=pl.isList;refine tail_any (ops:=[.ref a,.ref s2.heap.objs.size]) ht.typeIs list_getitem_lookup (wpAny_getItem_list_slice ht hsl .none .none (.int (-1) tk) (by simp) ?_ (by rw [hlen];exact hz)) (by with_unfolding_all rfl);rw [ze6];refine ⟨.ref _,_,I3.laid (t':=s2.toks) (o:=.lst vs.reverse) (fun b ob q=>Heap.get?_push_of_some _ q) (zzR _) ⟨by rw [List.length_reverse];exact hz,its.reverse,0,vv.reverse,?_⟩,rfl,?_⟩
    .simpa using Heap.get?_push_size h0 (o:={ cls:=.type "list", data:=.seq its.reverse.toArray }) rfl
    .exact jQ (Q:=Q) a1 rr.reverse (fun p hp v' H' g'=>q p hp v' H' (g1.trans g')) _ hn
def hcM (y:Str):Scope->Expr->Option (List Expr):=fun _ e=>match e with
 | .Call (.Name x q) [a] [] _=>if (x==y)=true then some [.Name x q,a] else none
 |_=>none
def hcS (f:Addr) (sp:uU):RS:=fun ws G Q=>match ws with
 | [.ref p,w]=>p=f/\sp [w] G Q XN
 |_=>False
theorem zbK {f:Addr} {sp:uU} (mono:∀ ws G (Q Q':Q3),(∀ w G',Q w G'->Q' w G')->sp ws G Q XN->sp ws G Q' XN):wG (hcS f sp):=by
 intro ws G Q Q' k h;unfold hcS at h ⊢
 split at h
 .exact ⟨h.1,mono _ _ _ _ k h.2⟩
 .exact h.elim
theorem zhW {y:Str} {sc:Scope} {e:Expr} {xs:List Expr} (h:hcM y sc e=some xs):∃ x q a pos,e=.Call (.Name x q) [a] [] pos/\xs=[.Name x q,a]:=by
 unfold hcM at h
 split at h
 .rename_i x q a pos
  split at h
  .cases h;exact ⟨x,q,a,pos,rfl,rfl⟩
  .cases h
 .cases h
theorem ziU {q:Pr} {k:Nat} {y:Str} {f:Addr} {fd:FuncData} {ps:List Str} {sp:uU} (FO:FnOk q.prog q.w q.K q.mg q.base CX0 k f fd ps (vC q.K sp)) (hk:PySem.W.keepIn q.K (.ref f)=true) (hb:tD q.K fd ps [])
  (mono:∀ ws G (Q Q':Q3),(∀ w G',Q w G'->Q' w G')->sp ws G Q XN->sp ws G Q' XN) {A:Around} (hr:Room k A):SxE (q.at A) ⟨hcM y,hcS f sp⟩:=by
 intro X fits e xs es he each hn pa;obtain ⟨x,qp,a,pos,rfl,rfl⟩:=zhW (sc:=X.env.scope) he;have e:=fits.eq
 injection e with e1 e2 e3 e4 e5 e6
 subst e6;rw [e1,e2,e3,e4,e5] at FO;rw [e3] at hk hb
 match es,each with
 | [t1,t2],each =>
  refine ⟨fun pins s σ H Q I h=>?_,fun _=>rfl,fun _ _ _ z=>nomatch z⟩;obtain ⟨σ3,G,hs,ab,h⟩:=h;have hn2:([a]:List Expr).all xJ=true:=by simpa [xJ] using hn
  obtain ⟨s1,s2⟩:=xA (env:=X.env) (pos:=pos) hn2
  have p2:PA X [a] (rS X.K (sY [t2])):=(zdc each.2.2.2.1 zgi s1).imp fun τ H Q h=>by
   obtain ⟨σ,G,hs,ab,h⟩:=h;refine ⟨σ,G,hs,ab,each.2.2.1 σ G _ _ (fun w G1 h=>?_) h⟩;intro v H1 g1 rv a1;exact h [v] H1 g1 ⟨v,[],rfl,rv,rfl⟩ a1
  refine wpAny_Call_Name_kw (yH (each.2.1 pins s σ H (fun v H1=>∃ w G1,xN X.K H1 w v/\xR X.K H1 G1/\yJ X.K H H1/\t2 σ3 G1 fun u G2=>hcS f sp [w,u] G2 (kE X.K H Q)) I ⟨σ3,G,hs,ab,each.1 σ3 G _ _ (fun w G1 h v H1 g1 rv a1=>⟨w,G1,rv,a1,g1,h⟩) h⟩) fun v s3 ⟨x1,H1,I1,r1,w,G1,rw1,a1,g1,q1⟩=>?_);have hA:=p2 pos pins s3 σ H1 (fun ys H2=>(∃ z,ys=[z]/\v=Value.ref f/\vC X.K sp [z] H2 Q (fun _ _ _=>False))) I1 ⟨σ3,G1,hs.mono g1,a1,each.2.2.1 σ3 G1 _ _ (fun u G2 hq=>?_) q1⟩
  .rw [s1] at hA ⊢;refine PySem.W.callWith_of (P:=fun h=>X.K.In h/\v=Value.ref f) (by show ((false || (backTo pos (starEach [] X.env)).any (·.1)) || false)=false;rfl) (fun h z=>by rw [z.2];exact PySem.W.keeps_K hk h z.1) (Calls.evalArgs_plain (yH hA fun us s4 ⟨ys,H2,I2,r2,z,ez,ev,q2⟩=>⟨⟨I2.kIn,ev⟩,?_⟩));subst ez;subst ev;exact zc1 (ds:=[]) (dvs:=[]) FO hr hb .nil zhr I2 r2 q2
  .intro ys H2 g2 rs a2;obtain ⟨z,rfl,rz⟩:=kH rs;unfold hcS at hq
   split at hq
   .rename_i p u' ew;cases ew;obtain ⟨rfl,hq⟩:=hq;cases (show x1=.ref p from rw1);cases (show v=Value.ref p from r1);exact ⟨z,rfl,rfl,[u],G2,rs,a2,mono _ _ _ _ (fun w' G' h v' H' g'=>h v' H' (g1.trans (g2.trans g'))) hq⟩
   .exact hq.elim
end L3
namespace L3
open PySem PySem.Spec PyProof.Rows L2 PySem.SeqAt
def gt2M (d:Str):Scope->Expr->Option (List Expr):=fun sc e=>match e with
 | .Call (.Attribute (.Name x _) y apos) [a,b] [] cpos=>if (x==d&&sQ sc x&&y==("get" : Str)&&(apos.endLine==cpos.line))=true then some [a,b] else none
 |_=>none
def gt2S (ks:List Str) (vs:List W):RS:=fun ws G Q=>match ws with
 | [.str k,w]=>Q (((ks.zip vs).lookup k).getD w) G
 |_=>False
theorem zdL (ks:List Str) (vs:List W):wG (gt2S ks vs):=by
 intro ws G Q Q' k h;unfold gt2S at h ⊢
 split at h
 .exact k _ _ h
 .exact h.elim
theorem zfD {d:Str} {sc:Scope} {e:Expr} {xs:List Expr} (h:gt2M d sc e=some xs):∃ q apos a b cpos,e=.Call (.Attribute (.Name d q) "get" apos) [a,b] [] cpos/\xs=[a,b]/\sQ sc d=true/\(apos.endLine==cpos.line)=true:=by
 unfold gt2M at h
 split at h
 .rename_i x q y apos a b cpos
  split at h
  .rename_i hb;obtain ⟨⟨⟨h1,h2⟩,h3⟩,h4⟩:=bd4 hb;cases eq_of_beq h1;cases eq_of_beq h3;cases h;exact ⟨q,apos,a,b,cpos,rfl,rfl,h2,h4⟩
  .cases h
 .cases h
theorem zj7 {X:Cx} {pins:List (Addr×Obj)} {σ:L2.St} {H:Hp} {s:Shared} {a:Addr} {ks:List Str} {vs:List V} {k:Str} {u ud:Value} {d:V} {Q:VK} (I:Inv X pins σ H s) (h:KD X.K a ks vs) (ru:zD (.str k) u) (rd:zD d ud) (q:Q (((ks.zip vs).lookup k).getD d) H) :
  wpAny (model X.prog X.w) X.A (call (.builtin "dict.get") [.ref a,u,ud]) (EP X pins σ Q) X.xe s:=by
 have hT:=zft I h;have hd:(a==sysModules)=false:=by obtain ⟨o,es,ep,l,_,_,_,z,_⟩:=h;exact z
 obtain ⟨tk,rfl⟩:=ru;refine wpAny_call (codeAny_call_builtin PySem.F.slot_dict_get.plain PySem.F.entry_dict_get (PySem.F.slot_dict_get.check _ _ _ _ _ _ _ _ hT (PySem.F.args_dict_get_3 _ _ _) ?_));show wpAny (model X.prog X.w) _ (dictGet a (.str k tk) >>= _) _ _ s;refine wpAny_bind (zdE I h ?_);revert q
 cases (ks.zip vs).lookup k with
 |some v=>exact fun q u s' r J=>wpAny_pure ⟨v,H,J,r,q⟩
 |none =>
  intro q s' J;show wpAny _ _ (Builtin.Dict.missed a (.str k tk) >>= _) _ _ _;exact wpAny_bind (wpAny_missed_other hd (wpAny_pure ⟨d,H,J,rd,q⟩))
theorem ziV {q:Pr} {A:Around} {d:Str} {ks:List Str} {vs:List W} (g:GlE (q.at A) (d,.dcf ks vs)):SxE (q.at A) ⟨gt2M d,gt2S ks vs⟩:=by
 intro X fits e xs es he each hn pa;obtain ⟨qp,apos,a,b,cpos,rfl,rfl,hg,hline⟩:=zfD he;obtain ⟨gl,d1,n1⟩:=zcl (X:=X) rfl hg
 match es,each with
 | [t,t'],each =>
  refine ⟨fun pins s σ H Q I h=>?_,fun _=>rfl,fun _ _ _ z=>nomatch z⟩;obtain ⟨σ3,G,hs,ab,h⟩:=h;have po:=g X fits gl qp d1 n1;obtain ⟨s1,s2⟩:=xA (env:=X.env) (pos:=cpos) hn;refine wpAny_Call_method_late (qF rfl) ?_ hline rfl (yH (po pins s σ H (fun v H1=>yJ X.K H H1/\xR X.K H1 G/\xN X.K H1 (.dcf ks vs) v) I ⟨σ3,G,hs,ab,fun v H' gr rp ab'=>⟨gr,ab',rp⟩⟩) fun v s3 ⟨x,H1,I1,r1,g1,a1,p,us,ex,kd,rr⟩=>?_)
  .rw [dW hn];rfl
  .subst ex;cases (show v=Value.ref p from r1);have hT:=zft I1 kd;refine ⟨"dict", "dict.get", PySem.F.plainAttrs_dict,PySem.F.slot_dict_get,PySem.F.type_dict_get,hT,fun b e=>?_,?_⟩
   .cases e;obtain ⟨o,es,ep,l,hc,_⟩:=kd;exact ⟨o,I1.kIn _ _ l,hc.2.1⟩
   .have hA:=pa cpos pins s3 σ H1 (fun ys H2=>∃ k d,ys=[.str k,d]/\Q (((ks.zip us).lookup k).getD d) H2) I1 ⟨σ3,G,hs.mono g1,a1,?_⟩
    .rw [s1] at hA ⊢;refine Calls.callWith_builtin (by show (false || (backTo cpos (starEach [b] X.env)).any (·.1))=false;rw [s2];rfl) (Calls.evalArgs_plain ?_);refine yH hA fun ws s4 ⟨ys,H2,I2,r2,k,d,e2,q2⟩=>?_;subst e2;obtain ⟨u,ud,rfl,ru,rd⟩:=zet r2;exact zj7 I2 kd ru rd q2
    .refine wI each σ3 G _ _ (fun ws G1 h=>?_) h;intro ys H2 g2 rs a2;replace h:gt2S ks vs ws G1 (kE X.K H Q):=h;unfold gt2S at h
     split at h
     .rename_i k w0;obtain ⟨y,yd,rfl,ry,rd⟩:=zeV rs;cases (show y=.str k from ry);refine ⟨k,yd,rfl,?_⟩
      cases hk:(ks.zip vs).lookup k with
      |some w' =>
       obtain ⟨v',e',rv⟩:=qA rr hk;rw [hk] at h;rw [e'];exact h v' H2 (g1.trans g2) (rv.mono g2) a2
      |none =>
       rw [hk] at h;rw [uG rr hk];exact h yd H2 (g1.trans g2) rd a2
     .exact h.elim
end L3
namespace L2
open PySem PySem.Spec PyProof.Rows
section
variable {X : Cx} {tg : Expr}
end
end L2
namespace L3
open PySem PySem.Spec PyProof.Rows L2 PySem.SeqAt
end L3
namespace K15
open PySem PySem.Spec L2 L3
def nP (i:Nat):Stmt:=PySem.Challenge.pw_talkcourt_k15_whole_any_saying_and_its_t.main.body.getD i (.Pass ⟨0,0,0,0⟩)
def gls:List Str:=["LONGEST_NAME", "NO_NAMES", "BINDS_saywrite", "SINGLE_BINDS", "LEAST", "BETWEEN", "JOINING", "BINDS_sayread", "TAKES", "MADE", "str", "tuple", "sides_of", "name_of"]
def mts:List Str:=["pop", "join", "append", "extend", "split"]
def its:List Str:=["range", "zip"]
def sxm:List (Scope->Expr->Option (List Expr)):=[lofM "reversed", rvM,hcM "sides_of", hcM "joined_by", hcM "single_text", nO ")" " ) ", nO "(" " ( ", nO "\n" " ", fstM [some "not ", none],fstM [some "(", none,some ")"],gt2M "BINDS_saywrite"]
def fns:List Str:=(["max", "len", "all", "list", "isinstance", "_law_deal", "_law_draw", "_law_names", "_law_large", "sides_of", "all_within", "joined_text", "show_joined", "name_of", "show_saying", "put_together", "take_left", "begin_side", "go_on", "read_joined"]:List Str)++(["is_name", "read_word", "words_between_blanks", "words_and_brackets", "read_saying", "sorted", "sorted_once", "all_parts", "parts_of", "_law_turned", "law"]:List Str)
/- fn: 0 max,1 len,2 all,3 list,4 isinstance,5 _law_deal,6 _law_draw,7 _law_names,8 _law_large,9 sides_of,10 all_within,11 joined_text,12 show_joined,13 name_of,14 show_saying,15 put_together,16 take_left,17 begin_side,18 go_on,19 read_joined,20 is_name,21 read_word,22 words_between_blanks,23 words_and_brackets,24 read_saying,25 sorted,26 sorted_once,27 all_parts,28 parts_of,29 _law_turned,30 law -/
abbrev jT:Stmt:=nP 37
def fT:List Str:=["_law_script", "_law_base", "_law_cells", "_law_number", "_law_cell"]
def zcu:ISs:=(.cons (.asg 2 (.lc (.nm 0) ["_law_cell"] [] (.val (.sl (.var 0) (.yes (.var 1)) (.yes (.con (.int 63))))) .no (.call 0 (.cons (.var 0) (.cons (.bin .Sub (.con (.int 0)) (.var 0)) .nil)))))
 (.cons (.asg 3 (.bin .Add (.con (.int 7919)) (.var 1)))
 (.cons (.for (.nm 4) (.val (.var 2)) (.cons (.asg 3 (.bin .Mod (.bin .Add (.bin .Mult (.var 3) (.con (.int 69621))) (.bin .Mod (.var 4) (.con (.int 2147483629)))) (.con (.int 2147483647))))
 .nil))
 (.cons (.ret (.dct ["seed", "number", "left"] (.cons (.var 3) (.cons (.con (.int 0)) (.cons (.spc 0 (.cons (.lc (.nm 0) ["_law_cell"] [] (.val (.var 2)) (.yes (.cmp .GtE (.var 0) (.bin .Pow (.con (.int 10)) (.con (.int 18))))) (.var 0)) .nil)) .nil)))))
 .nil))))
def fL:MC:=⟨zZ jT,fT,(fun _=>true),fns.take 5,gls,mts,its,sxm,[]⟩
theorem zaH:FnScope fT ["_law_script", "_law_base"] (zZ jT):=⟨rfl,rfl,rfl,by decide +kernel,rfl,by decide +kernel,by decide +kernel⟩
theorem cP:qB zcu fL (zT jT)=true:=by decide +kernel
abbrev jU:Stmt:=nP 38
def fU:List Str:=["_law_deal_here", "_law_many", "_law_number", "_law_one", "_law_other"]
def zct:ISs:=(.cons (.whl (.and (.cmp .Eq (.ix (.var 0) (.con (.str "number"))) (.con (.int 0))) (.cmp .Gt (.call 1 (.cons (.ix (.var 0) (.con (.str "left"))) .nil)) (.con (.int 0)))) (.cons (.asgI (.var 0) (.con (.str "number")) (.mth 0 (.ix (.var 0) (.con (.str "left"))) .nil))
 .nil))
 (.cons (.asg 2 (.ix (.var 0) (.con (.str "number"))))
 (.cons (.ite (.cmp .Gt (.var 2) (.con (.int 0))) (.cons (.asgI (.var 0) (.con (.str "number")) (.bin .FloorDiv (.var 2) (.var 1)))
 (.cons (.ret (.bin .Mod (.var 2) (.var 1)))
 .nil)) .nil)
 (.cons (.asg 3 (.bin .Mod (.bin .Add (.bin .Mult (.ix (.var 0) (.con (.str "seed"))) (.con (.int 48271))) (.con (.int 7919))) (.con (.int 2147483647))))
 (.cons (.asgI (.var 0) (.con (.str "seed")) (.bin .Mod (.bin .Add (.bin .Mult (.var 3) (.con (.int 40692))) (.con (.int 104729))) (.con (.int 2147483399))))
 (.cons (.asg 4 (.bin .Mod (.bin .Mult (.ix (.var 0) (.con (.str "seed"))) (.ix (.var 0) (.con (.str "seed")))) (.con (.int 2147483563))))
 (.cons (.ret (.bin .Mod (.bin .Add (.bin .Mult (.bin .Mod (.bin .Mult (.var 3) (.var 3)) (.con (.int 2147483629))) (.con (.int 2147483563))) (.var 4)) (.var 1)))
 .nil)))))))
def fM:MC:=⟨zZ jU,fU,(fun _=>true),fns.take 6,gls,mts,its,sxm,[]⟩
theorem zaG:FnScope fU ["_law_deal_here", "_law_many"] (zZ jU):=⟨rfl,rfl,rfl,by decide +kernel,rfl,by decide +kernel,by decide +kernel⟩
theorem cQ:qB zct fM (zT jU)=true:=by decide +kernel
abbrev wS:Stmt:=nP 39
def uI:List Str:=["_law_deal_here", "_law_many", "_law_letters", "_law_names_here", "_law_core", "_law_at", "_law_turn", "_law_k", "_law_name"]
def wO:ISs:=(.cons (.asg 2 (.con (.str "abcdefghijklmnopqrstuvwxyz")))
 (.cons (.asg 3 (.lst .nil))
 (.cons (.asg 4 (.mth 1 (.con (.str "")) (.cons (.lc (.nm 0) ["_law_k"] [2,0] (.blt 0 (.cons (.call 6 (.cons (.var 0) (.cons (.con (.int 5)) .nil))) .nil)) .no (.ix (.var 1) (.call 6 (.cons (.var 2) (.cons (.con (.int 26)) .nil))))) .nil)))
 (.cons (.asg 5 (.call 6 (.cons (.var 0) (.cons (.bin .Add (.call 1 (.cons (.var 4) .nil)) (.con (.int 1))) .nil))))
 (.cons (.asg 6 (.call 6 (.cons (.var 0) (.cons (.con (.int 26)) .nil))))
 (.cons (.for (.nm 7) (.blt 0 (.cons (.var 1) .nil)) (.cons (.asg 8 (.bin .Add (.bin .Add (.sl (.var 4) .no (.yes (.var 5))) (.ix (.var 2) (.bin .Mod (.bin .Add (.var 6) (.bin .Mult (.con (.int 7)) (.var 7))) (.con (.int 26))))) (.sl (.var 4) (.yes (.var 5)) .no)))
 (.cons (.ite (.cmp .In (.var 8) (.tup (.cons (.con (.str "and")) (.cons (.con (.str "or")) (.cons (.con (.str "not")) (.cons (.con (.str "then")) .nil)))))) (.cons (.asg 8 (.bin .Add (.var 8) (.con (.str "q"))))
 .nil) .nil)
 (.cons (.ex (.mth 2 (.var 3) (.cons (.var 8) .nil)))
 .nil))))
 (.cons (.ite (.and (.cmp .Gt (.var 1) (.con (.int 1))) (.cmp .Eq (.call 6 (.cons (.var 0) (.cons (.con (.int 2)) .nil))) (.con (.int 1)))) (.cons (.asgI (.var 3) (.con (.int 0)) (.bin .Add (.ix (.var 3) (.con (.int 0))) (.con (.str "z"))))
 .nil) .nil)
 (.cons (.ret (.var 3))
 .nil))))))))
def pE:MC:=⟨zZ wS,uI,(fun _=>true),fns.take 7,gls,mts,its,sxm,[]⟩
theorem zad:FnScope uI ["_law_deal_here", "_law_many"] (zZ wS):=⟨rfl,rfl,rfl,by decide +kernel,rfl,by decide +kernel,by decide +kernel⟩
theorem fH:qB wO pE (zT wS)=true:=by decide +kernel
abbrev wR:Stmt:=nP 40
def uH:List Str:=["_law_deal_here", "_law_names_here", "_law_many", "_law_deep", "_law_way", "_law_left", "_law_one", "_law_sort"]
def xZ:ISs:=(.cons (.ite (.or (.cmp .Eq (.var 2) (.con (.int 1))) (.cmp .Eq (.var 3) (.con (.int 0)))) (.cons (.ret (.tup (.cons (.con (.str "say")) (.cons (.ix (.var 1) (.call 6 (.cons (.var 0) (.cons (.call 1 (.cons (.var 1) .nil)) .nil)))) .nil))))
 .nil) .nil)
 (.cons (.asg 4 (.call 6 (.cons (.var 0) (.cons (.con (.int 5)) .nil))))
 (.cons (.ite (.or (.cmp .Eq (.var 2) (.con (.int 2))) (.cmp .Eq (.var 4) (.con (.int 3)))) (.cons (.ret (.tup (.cons (.con (.str "not")) (.cons (.call 8 (.cons (.var 0) (.cons (.var 1) (.cons (.bin .Sub (.var 2) (.con (.int 1))) (.cons (.bin .Sub (.var 3) (.con (.int 1))) .nil))))) .nil))))
 .nil) .nil)
 (.cons (.asg 5 (.bin .Add (.con (.int 1)) (.call 6 (.cons (.var 0) (.cons (.bin .Sub (.var 2) (.con (.int 2))) .nil)))))
 (.cons (.ite (.cmp .Eq (.var 4) (.con (.int 4))) (.cons (.asg 5 (.bin .FloorDiv (.bin .Sub (.var 2) (.con (.int 1))) (.con (.int 2))))
 .nil) .nil)
 (.cons (.asg 6 (.call 8 (.cons (.var 0) (.cons (.var 1) (.cons (.var 5) (.cons (.bin .Sub (.var 3) (.con (.int 1))) .nil))))))
 (.cons (.asg 7 (.ix (.lst (.cons (.con (.str "and")) (.cons (.con (.str "or")) (.cons (.con (.str "if")) .nil)))) (.call 6 (.cons (.var 0) (.cons (.con (.int 3)) .nil)))))
 (.cons (.ret (.tup (.cons (.var 7) (.cons (.var 6) (.cons (.call 8 (.cons (.var 0) (.cons (.var 1) (.cons (.bin .Sub (.bin .Sub (.var 2) (.con (.int 1))) (.var 5)) (.cons (.bin .Sub (.var 3) (.con (.int 1))) .nil))))) .nil)))))
 .nil))))))))
def pD:MC:=⟨zZ wR,uH,(fun _=>true),fns.take 9,gls,mts,its,sxm,[]⟩
theorem zae:FnScope uH ["_law_deal_here", "_law_names_here", "_law_many", "_law_deep"] (zZ wR):=⟨rfl,rfl,rfl,by decide +kernel,rfl,by decide +kernel,by decide +kernel⟩
theorem fG:qB xZ pD (zT wR)=true:=by decide +kernel
abbrev xY:Stmt:=nP 12
def tT:List Str:=["saying"]
def kC:ISs:=(.cons (.ret (.ite (.cmp .Eq (.ix (.var 0) (.con (.int 0))) (.con (.str "say"))) (.tup .nil) (.sl (.var 0) (.yes (.con (.int 1))) .no)))
 .nil)
def bN:MC:=⟨zZ xY,tT,(fun _=>true),fns.take 9,gls,mts,its,sxm,[]⟩
theorem gI:FnScope tT ["saying"] (zZ xY):=⟨rfl,rfl,rfl,by decide +kernel,rfl,by decide +kernel,by decide +kernel⟩
theorem zah:qB kC bN (zT xY)=true:=by decide +kernel
abbrev wT:Stmt:=nP 5
def uJ:List Str:=["whole", "sides_of", "found", "waiting", "thing"]
def kU:ISs:=(.cons (.asg 2 (.lst .nil))
 (.cons (.asg 3 (.lst (.cons (.var 0) .nil)))
 (.cons (.whl (.var 3) (.cons (.asg 4 (.mth 0 (.var 3) .nil))
 (.cons (.ex (.mth 2 (.var 2) (.cons (.var 4) .nil)))
 (.cons (.ex (.mth 3 (.var 3) (.cons (.spc 1 (.cons (.spc 2 (.cons (.var 1) (.cons (.var 4) .nil))) .nil)) .nil)))
 .nil))))
 (.cons (.ret (.var 2))
 .nil))))
def pF:MC:=⟨zZ wT,uJ,(fun _=>true),fns.take 10,gls,mts,its,sxm,[]⟩
theorem zac:FnScope uJ ["whole", "sides_of"] (zZ wT):=⟨rfl,rfl,rfl,by decide +kernel,rfl,by decide +kernel,by decide +kernel⟩
theorem fI:qB kU pF (zT wT)=true:=by decide +kernel
abbrev xC:Stmt:=nP 23
def vQ:List Str:=["word", "sides", "texts", "written", "side", "least", "text"]
def qP:ISs:=(.cons (.asg 3 (.lst .nil))
 (.cons (.for (.tup (.cons (.nm 4) (.cons (.nm 5) .nil))) (.blt 1 (.cons (.var 1) (.cons (.ix (.glb 4) (.var 0)) .nil))) (.cons (.asg 6 (.mth 0 (.var 2) .nil))
 (.cons (.ex (.mth 2 (.var 3) (.cons (.ite (.cmp .Lt (.spc 10 (.cons (.ix (.var 4) (.con (.int 0))) (.cons (.glb 3) .nil))) (.var 5)) (.spc 9 (.cons (.var 6) .nil)) (.var 6)) .nil)))
 .nil)))
 (.cons (.ite (.cmp .Eq (.var 0) (.con (.str "not"))) (.cons (.ret (.spc 8 (.cons (.ix (.var 3) (.con (.int 0))) .nil)))
 .nil) .nil)
 (.cons (.ret (.mth 1 (.ix (.glb 5) (.var 0)) (.cons (.var 3) .nil)))
 .nil))))
def rX:MC:=⟨zZ xC,vQ,(fun _=>true),fns.take 11,gls,mts,its,sxm,[]⟩
theorem cX:FnScope vQ ["word", "sides", "texts"] (zZ xC):=⟨rfl,rfl,rfl,by decide +kernel,rfl,by decide +kernel,by decide +kernel⟩
theorem mY:qB qP rX (zT xC)=true:=by decide +kernel
abbrev xF:Stmt:=nP 22
def vU:List Str:=["whole", "joined_by", "single_text", "texts", "part", "sides"]
def qS:ISs:=(.cons (.asg 3 (.lst .nil))
 (.cons (.for (.nm 4) (.val (.spc 1 (.cons (.call 10 (.cons (.var 0) (.cons (.var 1) .nil))) .nil))) (.cons (.asg 5 (.spc 3 (.cons (.var 1) (.cons (.var 4) .nil))))
 (.cons (.ex (.mth 2 (.var 3) (.cons (.ite (.var 5) (.call 11 (.cons (.ix (.var 4) (.con (.int 0))) (.cons (.var 5) (.cons (.var 3) .nil)))) (.spc 4 (.cons (.var 2) (.cons (.var 4) .nil)))) .nil)))
 .nil)))
 (.cons (.ret (.ix (.var 3) (.con (.int 0))))
 .nil)))
def sC:MC:=⟨zZ xF,vU,(fun _=>true),fns.take 12,gls,mts,its,sxm,[]⟩
theorem dA:FnScope vU ["whole", "joined_by", "single_text"] (zZ xF):=⟨rfl,rfl,rfl,by decide +kernel,rfl,by decide +kernel,by decide +kernel⟩
theorem nE:qB qS sC (zT xF)=true:=by decide +kernel
abbrev xK:Stmt:=nP 21
def sF:List Str:=["saying"]
def uB:ISs:=(.cons (.ret (.ix (.var 0) (.con (.int 1))))
 .nil)
def zbE:MC:=⟨zZ xK,sF,(fun _=>true),fns.take 13,gls,mts,its,sxm,[]⟩
theorem bU:FnScope sF ["saying"] (zZ xK):=⟨rfl,rfl,rfl,by decide +kernel,rfl,by decide +kernel,by decide +kernel⟩
theorem zaS:qB uB zbE (zT xK)=true:=by decide +kernel
abbrev xG:Stmt:=nP 20
def vV:List Str:=["saying"]
def qT:ISs:=(.cons (.ret (.call 12 (.cons (.var 0) (.cons (.glb 12) (.cons (.glb 13) .nil)))))
 .nil)
def sD:MC:=⟨zZ xG,vV,(fun _=>true),fns.take 14,gls,mts,its,sxm,[]⟩
theorem dB:FnScope vV ["saying"] (zZ xG):=⟨rfl,rfl,rfl,by decide +kernel,rfl,by decide +kernel,by decide +kernel⟩
theorem nF:qB qT sD (zT xG)=true:=by decide +kernel
abbrev xO:Stmt:=nP 35
def kT:List Str:=["word", "done", "last"]
def jD:ISs:=(.cons (.asg 2 (.mth 0 (.var 1) .nil))
 (.cons (.ite (.cmp .Eq (.var 0) (.con (.str "not"))) (.cons (.ex (.mth 2 (.var 1) (.cons (.tup (.cons (.con (.str "not")) (.cons (.var 2) .nil))) .nil)))
 .nil) (.cons (.ex (.mth 2 (.var 1) (.cons (.tup (.cons (.ix (.glb 9) (.var 0)) (.cons (.mth 0 (.var 1) .nil) (.cons (.var 2) .nil)))) .nil)))
 .nil))
 .nil))
def tG:MC:=⟨zZ xO,kT,(fun _=>true),fns.take 15,gls,mts,its,sxm,[]⟩
theorem gH:FnScope kT ["word", "done"] (zZ xO):=⟨rfl,rfl,rfl,by decide +kernel,rfl,by decide +kernel,by decide +kernel⟩
theorem pQ:qB jD tG (zT xO)=true:=by decide +kernel
abbrev jX:Stmt:=nP 34
def sW:List Str:=["least", "done", "waiting"]
def vI:ISs:=(.cons (.whl (.and (.var 2) (.cmp .GtE (.ix (.glb 7) (.ix (.var 2) (.neg (.con (.int 1))))) (.var 0))) (.cons (.ex (.call 15 (.cons (.mth 0 (.var 2) .nil) (.cons (.var 1) .nil))))
 .nil))
 .nil)
def fS:MC:=⟨zZ jX,sW,(fun _=>true),fns.take 16,gls,mts,its,sxm,[]⟩
theorem zaD:FnScope sW ["least", "done", "waiting"] (zZ jX):=⟨rfl,rfl,rfl,by decide +kernel,rfl,by decide +kernel,by decide +kernel⟩
theorem cU:qB vI fS (zT jX)=true:=by decide +kernel
abbrev wU:Stmt:=nP 32
def uK:List Str:=["thing", "done", "waiting"]
def jR:ISs:=(.cons (.ite (.call 4 (.cons (.var 0) (.cons (.glb 11) .nil))) (.cons (.ex (.mth 2 (.var 1) (.cons (.var 0) .nil)))
 (.cons (.ret (.con (.bool false)))
 .nil)) .nil)
 (.cons (.ite (.cmp .NotIn (.var 0) (.tup (.cons (.con (.str "not")) (.cons (.con (.str "(")) .nil)))) (.cons .dead
 .nil) .nil)
 (.cons (.ex (.mth 2 (.var 2) (.cons (.var 0) .nil)))
 (.cons (.ret (.con (.bool true)))
 .nil))))
def pG:MC:=⟨zZ wU,uK,(fun _=>true),fns.take 17,gls,mts,its,sxm,[]⟩
theorem zab:FnScope uK ["thing", "done", "waiting"] (zZ wU):=⟨rfl,rfl,rfl,by decide +kernel,rfl,by decide +kernel,by decide +kernel⟩
theorem fJ:qB jR pG (zT wU)=true:=by decide +kernel
abbrev sZ:Stmt:=nP 33
def zdk:List Str:=["thing", "done", "waiting"]
def zbY:ISs:=(.cons (.ite (.or (.call 4 (.cons (.var 0) (.cons (.glb 11) .nil))) (.cmp .NotIn (.var 0) (.glb 8))) (.cons .dead
 .nil) .nil)
 (.cons (.ex (.call 16 (.cons (.ix (.glb 8) (.var 0)) (.cons (.var 1) (.cons (.var 2) .nil)))))
 (.cons (.ite (.cmp .NotEq (.var 0) (.con (.str ")"))) (.cons (.ex (.mth 2 (.var 2) (.cons (.var 0) .nil)))
 (.cons (.ret (.con (.bool true)))
 .nil)) .nil)
 (.cons (.ite (.not (.var 2)) (.cons .dead
 .nil) .nil)
 (.cons (.ex (.mth 0 (.var 2) .nil))
 (.cons (.ret (.con (.bool false)))
 .nil))))))
def zgl:MC:=⟨zZ sZ,zdk,(fun _=>true),fns.take 18,gls,mts,its,sxm,[]⟩
theorem zg1:FnScope zdk ["thing", "done", "waiting"] (zZ sZ):=⟨rfl,rfl,rfl,by decide +kernel,rfl,by decide +kernel,by decide +kernel⟩
theorem zdr:qB zbY zgl (zT sZ)=true:=by decide +kernel
abbrev xD:Stmt:=nP 31
def vS:List Str:=["things", "done", "waiting", "lacking", "thing"]
def qQ:ISs:=(.cons (.asg 1 (.lst .nil))
 (.cons (.asg 2 (.lst .nil))
 (.cons (.asg 3 (.con (.bool true)))
 (.cons (.for (.nm 4) (.val (.var 0)) (.cons (.ite (.var 3) (.cons (.asg 3 (.call 17 (.cons (.var 4) (.cons (.var 1) (.cons (.var 2) .nil)))))
 .nil) (.cons (.asg 3 (.call 18 (.cons (.var 4) (.cons (.var 1) (.cons (.var 2) .nil)))))
 .nil))
 .nil))
 (.cons (.ite (.var 3) (.cons .dead
 .nil) .nil)
 (.cons (.ex (.call 16 (.cons (.con (.int 1)) (.cons (.var 1) (.cons (.var 2) .nil)))))
 (.cons (.ite (.var 2) (.cons .dead
 .nil) .nil)
 (.cons (.ret (.ix (.var 1) (.con (.int 0))))
 .nil))))))))
def rZ:MC:=⟨zZ xD,vS,(fun _=>true),fns.take 19,gls,mts,its,sxm,[]⟩
theorem cY:FnScope vS ["things"] (zZ xD):=⟨rfl,rfl,rfl,by decide +kernel,rfl,by decide +kernel,by decide +kernel⟩
theorem mZ:qB qQ rZ (zT xD)=true:=by decide +kernel
abbrev qM:Stmt:=nP 11
def fX:List Str:=["thing"]
def rH:ISs:=(.cons (.ite (.or (.not (.call 4 (.cons (.var 0) (.cons (.glb 10) .nil)))) (.not (.chn .LtE .LtE (.con (.int 1)) (.call 1 (.cons (.var 0) .nil)) (.glb 0)))) (.cons (.ret (.con (.bool false)))
 .nil) .nil)
 (.cons (.ret (.and (.cmp .NotIn (.var 0) (.glb 1)) (.call 2 (.cons (.lc (.nm 0) ["sign"] [] (.val (.var 0)) .no (.chn .LtE .LtE (.con (.str "a")) (.var 0) (.con (.str "z")))) .nil))))
 .nil))
def zbF:MC:=⟨zZ qM,fX,(fun _=>true),fns.take 20,gls,mts,its,sxm,[]⟩
theorem zc0:FnScope fX ["thing"] (zZ qM):=⟨rfl,rfl,rfl,by decide +kernel,rfl,by decide +kernel,by decide +kernel⟩
theorem zaT:qB rH zbF (zT qM)=true:=by decide +kernel
abbrev jW:Stmt:=nP 30
def sV:List Str:=["word"]
def vH:ISs:=(.cons (.ite (.cmp .In (.var 0) (.glb 6)) (.cons (.ret (.var 0))
 .nil) .nil)
 (.cons (.ite (.not (.call 20 (.cons (.var 0) .nil))) (.cons .dead
 .nil) .nil)
 (.cons (.ret (.tup (.cons (.con (.str "say")) (.cons (.var 0) .nil))))
 .nil)))
def fQ:MC:=⟨zZ jW,sV,(fun _=>true),fns.take 21,gls,mts,its,sxm,[]⟩
theorem zaE:FnScope sV ["word"] (zZ jW):=⟨rfl,rfl,rfl,by decide +kernel,rfl,by decide +kernel,by decide +kernel⟩
theorem cT:qB vH fQ (zT jW)=true:=by decide +kernel
abbrev yT:Stmt:=nP 6
def xT:List Str:=["row"]
def jJ:ISs:=(.cons (.ret (.lc (.nm 0) ["word"] [] (.val (.mth 4 (.var 0) (.cons (.con (.str " ")) .nil))) (.yes (.var 0)) (.var 0)))
 .nil)
def jK:MC:=⟨zZ yT,xT,(fun _=>true),fns.take 22,gls,mts,its,sxm,[]⟩
theorem vY:FnScope xT ["row"] (zZ yT):=⟨rfl,rfl,rfl,by decide +kernel,rfl,by decide +kernel,by decide +kernel⟩
theorem kR:qB jJ jK (zT yT)=true:=by decide +kernel
abbrev yR:Stmt:=nP 7
def wD:List Str:=["row"]
def xL:ISs:=(.cons (.ret (.call 22 (.cons (.spc 5 (.cons (.spc 6 (.cons (.var 0) .nil)) .nil)) .nil)))
 .nil)
def qX:MC:=⟨zZ yR,wD,(fun _=>true),fns.take 23,gls,mts,its,sxm,[]⟩
theorem uO:FnScope wD ["row"] (zZ yR):=⟨rfl,rfl,rfl,by decide +kernel,rfl,by decide +kernel,by decide +kernel⟩
theorem vM:qB xL qX (zT yR)=true:=by decide +kernel
abbrev xE:Stmt:=nP 29
def vT:List Str:=["text"]
def qR:ISs:=(.cons (.ite (.not (.call 4 (.cons (.var 0) (.cons (.glb 10) .nil)))) (.cons .dead
 .nil) .nil)
 (.cons (.ret (.call 19 (.cons (.lc (.nm 0) ["word"] [] (.val (.call 23 (.cons (.spc 7 (.cons (.var 0) .nil)) .nil))) .no (.call 21 (.cons (.var 0) .nil))) .nil)))
 .nil))
def sB:MC:=⟨zZ xE,vT,(fun _=>true),fns.take 24,gls,mts,its,sxm,[]⟩
theorem cZ:FnScope vT ["text"] (zZ xE):=⟨rfl,rfl,rfl,by decide +kernel,rfl,by decide +kernel,by decide +kernel⟩
theorem nC:qB qR sB (zT xE)=true:=by decide +kernel
abbrev xH:Stmt:=nP 4
def vW:List Str:=["things", "once", "thing"]
def qU:ISs:=(.cons (.asg 1 (.lst .nil))
 (.cons (.for (.nm 2) (.val (.call 25 (.cons (.var 0) .nil))) (.cons (.ite (.or (.not (.var 1)) (.cmp .NotEq (.ix (.var 1) (.neg (.con (.int 1)))) (.var 2))) (.cons (.ex (.mth 2 (.var 1) (.cons (.var 2) .nil)))
 .nil) .nil)
 .nil))
 (.cons (.ret (.var 1))
 .nil)))
def sE:MC:=⟨zZ xH,vW,(fun _=>true),fns.take 26,gls,mts,its,sxm,[]⟩
theorem dC:FnScope vW ["things"] (zZ xH):=⟨rfl,rfl,rfl,by decide +kernel,rfl,by decide +kernel,by decide +kernel⟩
theorem nG:qB qU sE (zT xH)=true:=by decide +kernel
abbrev jV:Stmt:=nP 13
def sT:List Str:=["saying"]
def vF:ISs:=(.cons (.ret (.call 10 (.cons (.var 0) (.cons (.glb 12) .nil))))
 .nil)
def fN:MC:=⟨zZ jV,sT,(fun _=>true),fns.take 27,gls,mts,its,sxm,[]⟩
theorem zaF:FnScope sT ["saying"] (zZ jV):=⟨rfl,rfl,rfl,by decide +kernel,rfl,by decide +kernel,by decide +kernel⟩
theorem cR:qB vF fN (zT jV)=true:=by decide +kernel
abbrev jI:Stmt:=nP 14
def pX:List Str:=["saying"]
def tN:ISs:=(.cons (.ret (.call 26 (.cons (.call 27 (.cons (.var 0) .nil)) .nil)))
 .nil)
def bM:MC:=⟨zZ jI,pX,(fun _=>true),fns.take 28,gls,mts,its,sxm,[]⟩
theorem zcc:FnScope pX ["saying"] (zZ jI):=⟨rfl,rfl,rfl,by decide +kernel,rfl,by decide +kernel,by decide +kernel⟩
theorem zai:qB tN bM (zT jI)=true:=by decide +kernel
abbrev xB:Stmt:=nP 41
def vP:List Str:=["_law_deal_here", "_law_saying", "_law_at"]
def yY:ISs:=(.cons (.ite (.cmp .Eq (.ix (.var 1) (.con (.int 0))) (.con (.str "say"))) (.cons (.ret (.tup (.cons (.con (.str "say")) (.cons (.ix (.var 1) (.con (.int 1))) .nil))))
 .nil) .nil)
 (.cons (.ite (.and (.cmp .Eq (.call 6 (.cons (.var 0) (.cons (.con (.int 3)) .nil))) (.con (.int 0))) (.cmp .NotEq (.ix (.var 1) (.con (.int 0))) (.con (.str "not")))) (.cons (.ret (.tup (.cons (.ix (.var 1) (.con (.int 0))) (.cons (.ix (.var 1) (.con (.int 2))) (.cons (.ix (.var 1) (.con (.int 1))) .nil)))))
 .nil) .nil)
 (.cons (.ite (.and (.cmp .Eq (.call 6 (.cons (.var 0) (.cons (.con (.int 3)) .nil))) (.con (.int 0))) (.cmp .NotEq (.ix (.var 1) (.con (.int 0))) (.con (.str "not")))) (.cons (.ret (.tup (.cons (.ix (.lst (.cons (.con (.str "and")) (.cons (.con (.str "or")) (.cons (.con (.str "if")) .nil)))) (.call 6 (.cons (.var 0) (.cons (.con (.int 3)) .nil)))) (.cons (.ix (.var 1) (.con (.int 1))) (.cons (.ix (.var 1) (.con (.int 2))) .nil)))))
 .nil) .nil)
 (.cons (.asg 2 (.bin .Add (.con (.int 1)) (.call 6 (.cons (.var 0) (.cons (.bin .Sub (.call 1 (.cons (.var 1) .nil)) (.con (.int 1))) .nil)))))
 (.cons (.ret (.bin .Add (.bin .Add (.sl (.var 1) .no (.yes (.var 2))) (.tup (.cons (.call 29 (.cons (.var 0) (.cons (.ix (.var 1) (.var 2)) .nil))) .nil))) (.sl (.var 1) (.yes (.bin .Add (.var 2) (.con (.int 1)))) .no)))
 .nil)))))
def rW:MC:=⟨zZ xB,vP,(fun _=>true),fns.take 30,gls,mts,its,sxm,[]⟩
theorem cW:FnScope vP ["_law_deal_here", "_law_saying"] (zZ xB):=⟨rfl,rfl,rfl,by decide +kernel,rfl,by decide +kernel,by decide +kernel⟩
theorem mX:qB yY rW (zT xB)=true:=by decide +kernel
abbrev slaw:Stmt:=nP 42
def nlaw:List Str:=["_law_script", "_law_deal_here", "_law_names_here", "_law_one", "_law_other", "_law_texts", "_law_part"]
def blaw:ISs:=(.cons (.asg 1 (.call 5 (.cons (.var 0) (.cons (.con (.int 0)) .nil))))
 (.cons (.asg 2 (.call 7 (.cons (.var 1) (.cons (.bin .Add (.con (.int 1)) (.call 6 (.cons (.var 1) (.cons (.con (.int 4)) .nil)))) .nil))))
 (.cons (.ite (.cmp .Eq (.call 6 (.cons (.var 1) (.cons (.con (.int 2)) .nil))) (.con (.int 1))) (.cons (.ex (.mth 2 (.var 2) (.cons (.ix (.lst (.cons (.con (.str "nota")) (.cons (.con (.str "orb")) (.cons (.con (.str "band")) (.cons (.con (.str "theny")) (.cons (.con (.str "anot")) (.cons (.con (.str "andor")) (.cons (.con (.str "thenor")) (.cons (.con (.str "notnot")) .nil))))))))) (.call 6 (.cons (.var 1) (.cons (.con (.int 8)) .nil)))) .nil)))
 .nil) .nil)
 (.cons (.asg 3 (.call 8 (.cons (.var 1) (.cons (.var 2) (.cons (.bin .Add (.con (.int 1)) (.call 6 (.cons (.var 1) (.cons (.con (.int 40)) .nil)))) (.cons (.con (.int 20)) .nil))))))
 (.cons (.asg 4 (.call 29 (.cons (.var 1) (.cons (.var 3) .nil))))
 (.cons (.ite (.cmp .Eq (.call 6 (.cons (.var 1) (.cons (.con (.int 2)) .nil))) (.con (.int 0))) (.cons (.asg 4 (.call 8 (.cons (.var 1) (.cons (.var 2) (.cons (.bin .Add (.con (.int 1)) (.call 6 (.cons (.var 1) (.cons (.con (.int 40)) .nil)))) (.cons (.con (.int 20)) .nil))))))
 .nil) .nil)
 (.cons (.asg 5 (.lst (.cons (.call 14 (.cons (.var 3) .nil)) (.cons (.call 14 (.cons (.var 4) .nil)) .nil))))
 (.cons (.ite (.or (.cmp .NotEq (.call 24 (.cons (.ix (.var 5) (.con (.int 0))) .nil)) (.var 3)) (.or (.cmp .NotEq (.call 24 (.cons (.ix (.var 5) (.con (.int 1))) .nil)) (.var 4)) (.cmp .GtE (.call 1 (.cons (.ix (.var 5) (.con (.int 0))) .nil)) (.con (.int 6000))))) (.cons (.ret (.con (.bool false)))
 .nil) .nil)
 (.cons (.ite (.cmp .NotEq (.cmp .Eq (.ix (.var 5) (.con (.int 0))) (.ix (.var 5) (.con (.int 1)))) (.cmp .Eq (.var 3) (.var 4))) (.cons (.ret (.con (.bool false)))
 .nil) .nil)
 (.cons (.for (.nm 6) (.val (.call 28 (.cons (.var 3) .nil))) (.cons (.ite (.or (.cmp .NotEq (.call 24 (.cons (.call 14 (.cons (.var 6) .nil)) .nil)) (.var 6)) (.cmp .NotEq (.call 24 (.cons (.bin .Add (.bin .Add (.con (.str "(")) (.call 14 (.cons (.var 6) .nil))) (.con (.str ")"))) .nil)) (.var 6))) (.cons (.ret (.con (.bool false)))
 .nil) .nil)
 .nil))
 (.cons (.ret (.cmp .Eq (.call 14 (.cons (.call 24 (.cons (.ix (.var 5) (.con (.int 1))) .nil)) .nil)) (.ix (.var 5) (.con (.int 1)))))
 .nil)))))))))))
def mlaw:MC:=⟨zZ slaw,nlaw,(fun _=>true),fns.take 30,gls,mts,its,sxm,[]⟩
theorem sclaw:FnScope nlaw ["_law_script"] (zZ slaw):=⟨rfl,rfl,rfl,by decide +kernel,rfl,by decide +kernel,by decide +kernel⟩
theorem zhC:qB blaw mlaw (zT slaw)=true:=by decide +kernel
end K15
namespace K15
open PySem PySem.Spec PyProof.Rows L2 L3
open PySem.W (nsIn keepIn codeIn mg_of findIn mg_none_of fnOf)
def bO:List Str:=["and", "or", "not", "then"]
def ltB (c:Nat):Bool:=decide (97<=c)&&decide (c<=122)
def xM (x:Str):Bool:=x.cps.toList.all ltB
def sU (x:Str):Bool:=decide (1<=x.length)&&decide (x.length<=6)&&!bO.contains x&&xM x
inductive Sy where
 |say (x:Str)|neg (a:Sy)|two (k:Nat) (a b:Sy)
def kw:Nat->Str
 | 0 => "and"
 | 1 => "or"
 |_ => "if"
def Sy.w:Sy->W
 | .say x=>.tup [.str "say", .str x]
 | .neg a=>.tup [.str "not", a.w]
 | .two k a b=>.tup [.str (kw k),a.w,b.w]
def Sy.size:Sy->Nat
 | .say _=>1
 | .neg a=>a.size+1
 | .two _ a b=>a.size+b.size+1
def Sy.deep:Sy->Nat
 | .say _=>0
 | .neg a=>a.deep+1
 | .two _ a b=>max a.deep b.deep+1
def Sy.ok:Sy->Prop
 | .say x=>sU x=true
 | .neg a=>a.ok
 | .two _ a b=>a.ok/\b.ok
def bd:Sy->Nat
 | .say _=>5
 | .neg _=>4
 | .two 0 _ _=>3
 | .two 1 _ _=>2
 | .two _ _ _=>1
def lA:Nat->Nat
 | 0=>3
 |_=>2
def lB:Nat->Nat
 | 0=>4
 | 1=>3
 |_=>1
inductive Tk where
 |nm (x:Str)|lp|rp|nt|op (k:Nat)
def jw:Nat->Str
 | 0 => "and"
 | 1 => "or"
 |_ => "then"
def Tk.s:Tk->Str
 | .nm x=>x
 | .lp => "("
 | .rp => ")"
 | .nt => "not"
 | .op k=>jw k
def br (n:Nat) (a:Sy) (l:List Tk):List Tk:=if bd a<n then .lp::(l++[.rp]) else l
def tw:Sy->List Tk
 | .say x=>[.nm x]
 | .neg a=>.nt::br 4 a (tw a)
 | .two k a b=>br (lA k) a (tw a)++.op k::br (lB k) b (tw b)
def bin:Tk->Nat
 | .nt=>4
 | .op 0=>3
 | .op 1=>2
 | .op _=>1
 |_=>0
def pt:Tk->List Sy->List Sy
 | .nt,a::D=>.neg a::D
 | .op k,b::a::D=>.two k a b::D
 |_,D=>D
def tl (m:Nat):List Sy->List Tk->List Sy×List Tk
 |D,[]=>(D,[])
 |D,w::V=>if m<=bin w then tl m (pt w D) V else (D,w::V)
abbrev St:=List Sy×List Tk×Bool
def step:St->Tk->St
 | (D,V,true),.nm x=>(.say x::D,V,false)
 | (D,V,true),t=>(D,t::V,true)
 | (D,V,false),.op k=>((tl (lA k) D V).1,.op k::(tl (lA k) D V).2,true)
 | (D,V,false),_=>((tl 1 D V).1,(tl 1 D V).2.drop 1,false)
def run (s:St) (l:List Tk):St:=l.foldl step s
theorem zaJ (s:St) (a b:List Tk):run s (a++b)=run (run s a) b:=List.foldl_append
def Low (n:Nat) (V:List Tk):Prop:=match V with
 | []=>True
 |w::_=>bin w<n
def pU:Sy->Nat
 | .two k _ _=>lA k
 |_=>5
theorem zbe {m:Nat} {D:List Sy} {V:List Tk} (h:Low m V):tl m D V=(D,V):=by
 cases V with
 |nil=>rfl
 |cons w V =>
  unfold tl;rw [if_neg (Nat.not_le.mpr h)]
theorem pV {k:Nat} {a:Sy} (h:¬ bd a<lA k):lA k<=pU a:=by
 cases a with
 |say x=>match k with|0=>show 3<=5;decide|k+1=>show 2<=5;decide
 |neg a=>match k with|0=>show 3<=5;decide|k+1=>show 2<=5;decide
 |two j a b=>match k,j,h with
  | 0,0,_=>show 3<=3;decide
  | 0,1,h=>exact absurd (by show 2<3;decide) h
  | 0,j+2,h=>exact absurd (by show 1<3;decide) h
  |k+1,0,_=>show 2<=3;decide
  |k+1,1,_=>show 2<=2;decide
  |k+1,j+2,_=>show 2<=2;decide
theorem fW {k:Nat} {b:Sy} (h:¬ bd b<lB k):bin (.op k)<pU b:=by
 cases b with
 |say x=>match k with|0=>show 3<5;decide|1=>show 2<5;decide|k+2=>show 1<5;decide
 |neg a=>match k with|0=>show 3<5;decide|1=>show 2<5;decide|k+2=>show 1<5;decide
 |two j a b=>match k,j,h with
  | 0,0,h=>exact absurd (by show 3<4;decide) h
  | 0,1,h=>exact absurd (by show 2<4;decide) h
  | 0,j+2,h=>exact absurd (by show 1<4;decide) h
  | 1,0,_=>show 2<3;decide
  | 1,1,h=>exact absurd (by show 2<3;decide) h
  | 1,j+2,h=>exact absurd (by show 1<3;decide) h
  |k+2,0,_=>show 1<3;decide
  |k+2,1,_=>show 1<2;decide
  |k+2,j+2,_=>show 1<2;decide
theorem zbC {a:Sy} (h:¬ bd a<4):pU a=5:=by
 cases a with
 |say x=>rfl
 |neg a=>rfl
 |two j a b=>match j,h with
  | 0,h=>exact absurd (by show 3<4;decide) h
  | 1,h=>exact absurd (by show 2<4;decide) h
  |j+2,h=>exact absurd (by show 1<4;decide) h
theorem zbB (t:Sy):2<=pU t:=by
 cases t with
 |say x=>show 2<=5;decide
 |neg a=>show 2<=5;decide
 |two k a b=>match k with|0=>show 2<=3;decide|k+1=>show 2<=2;decide
theorem Low.mono {m n:Nat} {V:List Tk} (h:Low m V) (hm:m<=n):Low n V:=by
 cases V with
 |nil=>trivial
 |cons w V=>exact Nat.lt_of_lt_of_le h hm
def Rd (D:List Sy) (V:List Tk) (t:Sy) (n:Nat) (s:St):Prop:=∃ D' V',s=(D',V',false)/\∀ m,1<=m->m<=n->tl m D' V'=tl m (t::D) V
theorem zc6 {D:List Sy} {V:List Tk} {a:Sy} {n:Nat} (ih:∀ D V,Low (pU a) V->Rd D V a (bd a) (run (D,V,true) (tw a))) (hlow:¬ bd a<n->Low (pU a) V) :
  Rd D V a (if bd a<n then 5 else bd a) (run (D,V,true) (br n a (tw a))):=by
 unfold br
 by_cases h:bd a<n
 .rw [if_pos h,if_pos h];obtain ⟨D',V',e,p⟩:=ih D (.lp::V) (show bin .lp<pU a from Nat.lt_of_lt_of_le (by decide) (zbB a));show Rd D V a 5 (run (step (D,V,true) .lp) (tw a++[.rp]));rw [zaJ];show Rd D V a 5 (step (run (D,.lp::V,true) (tw a)) .rp);rw [e]
  have b1:1<=bd a:=by
   cases a with
   |say x=>show 1<=5;decide
   |neg a=>show 1<=4;decide
   |two k a b=>match k with|0=>show 1<=3;decide|1=>show 1<=2;decide|k+2=>show 1<=1;decide
  have q:=p 1 (zzR _) b1;have ql:tl 1 (a::D) (.lp::V)=(a::D,.lp::V):=zbe (show bin .lp<1 by decide);rw [ql] at q;show Rd D V a 5 ((tl 1 D' V').1,(tl 1 D' V').2.drop 1,false);rw [q];exact ⟨a::D,V,rfl,fun m _ _=>rfl⟩
 .rw [if_neg h,if_neg h];exact ih D V (hlow h)
theorem uN:∀ (t:Sy) (D:List Sy) (V:List Tk),Low (pU t) V->Rd D V t (bd t) (run (D,V,true) (tw t))
 | .say x,D,V,_=>⟨.say x::D,V,rfl,fun m _ _=>rfl⟩
 | .neg a,D,V,_=>by
  have ih:=zc6 (D:=D) (V:=.nt::V) (a:=a) (n:=4) (fun D V h=>uN a D V h) fun z=>by rw [zbC z];show 4<5;decide
  obtain ⟨D',V',e,p⟩:=ih;refine ⟨D',V',e,fun m h1 h2=>?_⟩;have h2:m<=4:=h2;rw [p m h1 (by split<;>omega)];show tl m (a::D) (.nt::V)=_;rw [tl,if_pos (show m<=bin .nt from h2)];rfl
 | .two k a b,D,V,hl=>by
  have hl:Low (lA k) V:=hl;have ia:=zc6 (D:=D) (V:=V) (a:=a) (n:=lA k) (fun D V h=>uN a D V h) fun z=>hl.mono (pV z);obtain ⟨D1,V1,e1,p1⟩:=ia;show Rd D V (.two k a b) _ (run (D,V,true) (br (lA k) a (tw a)++.op k::br (lB k) b (tw b)));rw [zaJ,e1];have kA:1<=lA k:=by match k with|0=>decide|k+1=>show 1<=2;decide
  have kA5:lA k<=5:=by match k with|0=>decide|k+1=>show 2<=5;decide
  have q:=p1 (lA k) kA (by split<;>omega);rw [zbe hl] at q;show Rd D V (.two k a b) _ (run ((tl (lA k) D1 V1).1,.op k::(tl (lA k) D1 V1).2,true) (br (lB k) b (tw b)));rw [q];have ib:=zc6 (D:=a::D) (V:=.op k::V) (a:=b) (n:=lB k) (fun D V h=>uN b D V h) fun z=>fW z;obtain ⟨D2,V2,e2,p2⟩:=ib;refine ⟨D2,V2,e2,fun m h1 h2=>?_⟩
  have hb:bd (.two k a b)=bin (.op k)/\bin (.op k)<=lB k/\bin (.op k)<=5:=by
   match k with
   | 0=>exact ⟨rfl,by show 3<=4;decide,by show 3<=5;decide⟩
   | 1=>exact ⟨rfl,by show 2<=3;decide,by show 2<=5;decide⟩
   |k+2=>exact ⟨rfl,by show 1<=1;decide,by show 1<=5;decide⟩
  rw [p2 m h1 (by split<;>omega)];show tl m (b::a::D) (.op k::V)=_;rw [tl,if_pos (by omega)];rfl
theorem cpsA (a b:Str):(a++b).cps.toList=a.cps.toList++b.cps.toList:=by rw [Str.cps_append,Array.toList_append]
theorem zbq {a b:Nat} {z u u' v v':List Nat} (h:Rp [a,b] z u u') (h2:Rp [a,b] z v v'):(u.getLast?≠some a\/v.head?≠some b)->Rp [a,b] z (u++v) (u'++v'):=by
 induction h with
 |nil=>intro _;exact h2
 | @hit r s _ ih =>
  intro hb;rw [List.append_assoc,List.append_assoc];refine .hit (ih ?_)
  cases r with
  |nil=>left;simp
  |cons x r =>
   rcases hb with hb|hb
   .left;simpa using hb
   .right;exact hb
 | @skip k r s n _ ih =>
  intro hb
  cases r with
  |nil =>
   refine .skip ?_ (ih (.inl (by simp)));rintro ⟨t,e⟩;rcases hb with hb|hb
   .injection e with e1 e2
    exact hb (by rw [e1];rfl)
   .injection e with e1 e2
    exact hb (by have e2:[b]++t=v:=e2;rw [← e2];rfl)
  |cons x r =>
   refine .skip ?_ (ih (by
    rcases hb with hb|hb
    .left;simpa using hb
    .right;exact hb))
   rintro ⟨t,e⟩
   injection e with e1 e2
   injection e2 with e2 e3
   exact n ⟨r,by rw [e1,e2];rfl⟩
theorem zf6 {a b:Nat} {z:List Nat}:∀ {u:List Nat},a∉u->Rp [a,b] z u u
 | [],_=>.nil
 |k::r,h=>by
  simp only [List.mem_cons,not_or] at h;refine .skip ?_ (zf6 h.2);rintro ⟨t,e⟩
  injection e with e1 _
  exact h.1 e1
theorem zc2 {a b:Nat} {z:List Nat}:∀ {u:List Nat},b∉u->Rp [a,b] z u u
 | [],_=>.nil
 |k::r,h=>by
  simp only [List.mem_cons,not_or] at h;refine .skip ?_ (zc2 h.2);rintro ⟨t,e⟩
  injection e with _ e2
  exact h.2 (by rw [← e2];exact zzT)
theorem gG {c:Nat} {z:List Nat}:∀ x:List Nat,Rp [c] z x (x.flatMap fun k=>if k=c then z else [k])
 | []=>.nil
 |k::r=>by
  rw [List.flatMap_cons]
  by_cases h:k=c
  .subst h;rw [if_pos rfl];exact .hit (gG r)
  .rw [if_neg h];refine .skip ?_ (gG r);rintro ⟨t,e⟩
   injection e with e1 _
   exact h e1.symm
theorem zc4 {x y z:Str} {s:List Nat} (hy:1<=y.length) (h:Rp y.cps.toList z.cps.toList x.cps.toList s):(Txt.replace x y z).cps.toList=s :=
 Rp.det (fun e=>by have:=pP y;rw [e] at this;simp at this;omega) (zje x y z hy) h
def bw:Nat->Str
 | 0 => " and "
 | 1 => " or "
 |_ => " then "
def bS (n:Nat) (a:Sy) (s:Str):Str:=if bd a<n then "(" ++ s ++ ")" else s
def sh:Sy->Str
 | .say x=>x
 | .neg a => "not " ++ bS 4 a (sh a)
 | .two k a b=>bS (lA k) a (sh a)++bw k++bS (lB k) b (sh b)
def c (t:Tk):List Nat:=t.s.cps.toList
def b1 (n:Nat) (a:Sy) (l:List Nat):List Nat:=if bd a<n then 40::(l++[32,41]) else l
def b2 (n:Nat) (a:Sy) (l:List Nat):List Nat:=if bd a<n then 40::(l++[41]) else l
def jc (k:Nat):List Nat:=(jw k).cps.toList
def nc:List Nat:=[110,111,116]
def s1:Sy->List Nat
 | .say x=>x.cps.toList
 | .neg a=>nc++32::b1 4 a (s1 a)
 | .two k a b=>b1 (lA k) a (s1 a)++32::(jc k++32::b1 (lB k) b (s1 b))
def s2:Sy->List Nat
 | .say x=>x.cps.toList
 | .neg a=>nc++32::b2 4 a (s2 a)
 | .two k a b=>b2 (lA k) a (s2 a)++32::(jc k++32::b2 (lB k) b (s2 b))
theorem zej {n:Nat} {a:Sy} {s:Str}:(bS n a s).cps.toList=b2 n a s.cps.toList:=by
 unfold bS b2
 split
 .rw [cpsA,cpsA,show ("(" : Str).cps.toList=[40] by decide +kernel,show (")" : Str).cps.toList=[41] by decide +kernel];simp
 .rfl
theorem bw_is (k:Nat):(bw k).cps.toList=32::(jc k++[32]):=by
 match k with
 | 0=>decide +kernel
 | 1=>decide +kernel
 |k+2=>show (" then " : Str).cps.toList=32::(("then" : Str).cps.toList++[32]);decide +kernel
theorem bX:∀ t:Sy,(sh t).cps.toList=s2 t
 | .say x=>rfl
 | .neg a=>by
  show ("not " ++ bS 4 a (sh a)).cps.toList=_;rw [cpsA,zej,bX a,show ("not " : Str).cps.toList=[110,111,116,32] by decide +kernel];rfl
 | .two k a b=>by
  show (bS (lA k) a (sh a)++bw k++bS (lB k) b (sh b)).cps.toList=_;rw [cpsA,cpsA,zej,zej,bX a,bX b,bw_is];simp [s2]
theorem vR {x:Str} (h:sU x=true):x.cps.toList≠[]/\∀ k∈x.cps.toList,97<=k:=by
 simp only [sU,xM,ltB,Bool.and_eq_true,decide_eq_true_eq,List.all_eq_true] at h;refine ⟨fun e=>?_,fun k hk=>(h.2 k hk).1⟩;have:=pP x;rw [e] at this;have h1:=h.1.1.1;simp at this;omega
theorem fB (k:Nat):jc k≠[]/\∀ j∈jc k,97<=j:=by
 match k with
 | 0=>decide +kernel
 | 1=>decide +kernel
 |k+2=>show (("then" : Str).cps.toList≠[]/\∀ j∈("then" : Str).cps.toList,97<=j);decide +kernel
structure Fine (l:List Nat):Prop where
 h1:l.head?≠some 32
 h2:l.head?≠some 41
 e1:l.getLast?≠some 40
 e2:l.getLast?≠some 32
theorem zbO {l:List Nat} (hn:l≠[]) (h:∀ k∈l,97<=k):Fine l:=by
 refine ⟨fun e=>?_,fun e=>?_,fun e=>?_,fun e=>?_⟩
 .have:=h 32 (List.mem_of_head? e);omega
 .have:=h 41 (List.mem_of_head? e);omega
 .have:=h 40 (List.mem_of_getLast? e);omega
 .have:=h 32 (List.mem_of_getLast? e);omega
theorem zbN {u v w:List Nat} (hu:u≠[]) (hw:w≠[]) (a:Fine u) (b:Fine w):Fine (u++v++w):=by
 obtain ⟨x,u',rfl⟩:=List.exists_cons_of_ne_nil hu
 have gl:(x::u'++v++w).getLast?=w.getLast?:=by
  rw [List.getLast?_append]
  cases e:w.getLast? with
  |none=>exact absurd (List.getLast?_eq_none_iff.mp e) hw
  |some _=>rfl
 exact ⟨a.h1,a.h2,by rw [gl];exact b.e1,by rw [gl];exact b.e2⟩
theorem zh1 {l:List Nat}:Fine (40::(l++[32,41]))/\Fine (40::(l++[41])):=by
 constructor<;>refine ⟨by simp,by simp,?_,?_⟩<;>simp [List.getLast?_cons,List.getLast?_append]
theorem zir {n:Nat} {a:Sy} {l:List Nat} (h:l≠[]):b1 n a l≠[]:=by unfold b1;split<;>simp [h]
theorem tM {n:Nat} {a:Sy} {l:List Nat} (h:Fine l):Fine (b1 n a l):=by
 unfold b1
 split
 .exact zh1.1
 .exact h
theorem qW:∀ t:Sy,t.ok->s1 t≠[]/\Fine (s1 t)
 | .say x,h=>⟨(vR h).1,zbO (vR h).1 (vR h).2⟩
 | .neg a,h=>by
  have ia:=qW a h;refine ⟨by simp [s1,nc],?_⟩;have:=zbN (u:=nc) (v:=[32]) (by simp [nc]) (zir (n:=4) (a:=a) ia.1) (zbO (by simp [nc]) (by simp [nc])) (tM (n:=4) (a:=a) ia.2);simpa [s1] using this
 | .two k a b,h=>by
  have ia:=qW a h.1;have ib:=qW b h.2;refine ⟨by simp [s1],?_⟩;have:=zbN (v:=32::(jc k++[32])) (zir (n:=lA k) (a:=a) ia.1) (zir (n:=lB k) (a:=b) ib.1) (tM (n:=lA k) (a:=a) ia.2) (tM (n:=lB k) (a:=b) ib.2);simpa [s1] using this
def b0 (n:Nat) (a:Sy) (l:List Nat):List Nat:=if bd a<n then 40::(32::(l++[32,41])) else l
def s0:Sy->List Nat
 | .say x=>x.cps.toList
 | .neg a=>nc++32::b0 4 a (s0 a)
 | .two k a b=>b0 (lA k) a (s0 a)++32::(jc k++32::b0 (lB k) b (s0 b))
theorem c_lp:c .lp=[40]:=by show ("(" : Str).cps.toList=_;decide +kernel
theorem c_rp:c .rp=[41]:=by show (")" : Str).cps.toList=_;decide +kernel
theorem c_nt:c .nt=nc:=by show ("not" : Str).cps.toList=_;decide +kernel
theorem fY {k:Nat} (hk:k<97) {l:List Nat} (h:∀ j∈l,97<=j):k∉l:=fun m=>by have:=h k m;omega
theorem zg5 {n:Nat} {a:Sy} (f:Fine (s1 a)) (h:Rp [32,41] [41] (s1 a) (s2 a)):Rp [32,41] [41] (b1 n a (s1 a)) (b2 n a (s2 a)):=by
 unfold b1 b2
 split
 .refine .skip ?_ (zbq h (.hit (y:=[32,41]) (z:=[41]) .nil) (.inl f.e2));rintro ⟨t,e⟩
  injection e with e1 _
  cases e1
 .exact h
theorem rpB:∀ t:Sy,t.ok->Rp [32,41] [41] (s1 t) (s2 t)
 | .say x,h=>zf6 (fY (by decide) (vR h).2)
 | .neg a,h=>by
  have:=zbq (u:=nc++[32]) (u':=nc++[32]) (zc2 (z:=[41]) (by simp [nc])) (zg5 (n:=4) (qW a h).2 (rpB a h)) (.inr (tM (n:=4) (a:=a) (qW a h).2).h2);simpa [s1,s2] using this
 | .two k a b,h=>by
  have hk:41∉jc k:=fY (by decide) (fB k).2;have m:=zbq (u:=32::(jc k++[32])) (u':=32::(jc k++[32])) (zc2 (z:=[41]) (by simp [hk])) (zg5 (n:=lB k) (qW b h.2).2 (rpB b h.2)) (.inr (tM (n:=lB k) (a:=b) (qW b h.2).2).h2);have:=zbq (zg5 (n:=lA k) (qW a h.1).2 (rpB a h.1)) m (.inl (tM (n:=lA k) (a:=a) (qW a h.1).2).e2);simpa [s1,s2] using this
def ex1 (k:Nat):List Nat:=if k=40 then [32,40,32] else [k]
def ex2 (k:Nat):List Nat:=if k=41 then [32,41,32] else [k]
def ex (l:List Nat):List Nat:=(l.flatMap ex1).flatMap ex2
theorem uE (a b:List Nat):ex (a++b)=ex a++ex b:=by simp [ex]
theorem zbP:∀ {l:List Nat},(∀ k∈l,97<=k)->ex l=l
 | [],_=>rfl
 |k::l,h=>by
  have hk:=h k zzT;have e:ex [k]=[k]:=by simp [ex,ex1,ex2,show k≠40 by omega,show k≠41 by omega]
  have:=uE [k] l;rw [show k::l=[k]++l from rfl,this,e,zbP fun j hj=>h j (List.mem_cons_of_mem _ hj)]
theorem zh2 (l:List Nat):ex (32::l)=32::ex l:=by rw [show (32::l:List Nat)=[32]++l from rfl,uE];rfl
theorem zcC {l:List Nat} (hn:l≠[]) (h:∀ k∈l,97<=k):wd l=[l]:=by
 rw [zgO (fY (by decide) h)]
 cases l with
 |nil=>exact absurd rfl hn
 |cons _ _=>rfl
theorem wd_b {n:Nat} {a:Sy} {l:List Nat} {ws:List (List Nat)} (h:wd (ex l)=(tw a).map c):wd (ex (b2 n a l))=(br n a (tw a)).map c:=by
 unfold b2 br
 split
 .have e:ex (40::(l++[41]))=[]++32::([40]++32::(ex l++32::([41]++32::[]))):=by
   rw [show (40::(l++[41]):List Nat)=[40]++(l++[41]) from rfl,uE,uE];rfl
  rw [e,tB,tB,tB,tB,h,show wd [40]=[[40]] from rfl,show wd [41]=[[41]] from rfl,show wd []=[] from rfl,zzU,List.map_append,c_lp,zzU,c_rp];rfl
 .exact h
theorem zcB:∀ t:Sy,t.ok->wd (ex (s2 t))=(tw t).map c
 | .say x,h=>by
  show wd (ex x.cps.toList)=[x.cps.toList];rw [zbP (vR h).2,zcC (vR h).1 (vR h).2]
 | .neg a,h=>by
  show wd (ex (nc++32::b2 4 a (s2 a)))=c .nt::(br 4 a (tw a)).map c;rw [uE,zh2,tB,wd_b (ws:=[]) (zcB a h),zbP (by simp [nc]),zcC (by simp [nc]) (by simp [nc]),c_nt];rfl
 | .two k a b,h=>by
  show wd (ex (b2 (lA k) a (s2 a)++32::(jc k++32::b2 (lB k) b (s2 b))))=(br (lA k) a (tw a)++.op k::br (lB k) b (tw b)).map c;rw [uE,zh2,uE,zh2,tB,tB,wd_b (ws:=[]) (zcB a h.1),wd_b (ws:=[]) (zcB b h.2),zbP (fB k).2,zcC (fB k).1 (fB k).2,List.map_append];rfl
theorem zg2:∀ t:Sy,t.ok->10∉s2 t:=by
 have hb:∀ (n:Nat) (a:Sy) (l:List Nat),10∉l->10∉b2 n a l:=fun n a l h=>by
  unfold b2
  split
  .simp [h]
  .exact h
 intro t
 induction t with
 |say x=>exact fun h=>fY (by decide) (vR h).2
 |neg a ih=>intro h;have:=hb 4 a _ (ih h);simp [s2,nc,this]
 |two k a b ia ib =>
  intro h;have h1:=hb (lA k) a _ (ia h.1);have h2:=hb (lB k) b _ (ib h.2);have h3:10∉jc k:=fY (by decide) (fB k).2;simp [s2,h1,h2,h3]
theorem rp_id {c:Nat} {z:List Nat} {l:List Nat} (h:c∉l):Rp [c] z l l:=by
 have:=gG (c:=c) (z:=z) l
 have e:(l.flatMap fun k=>if k=c then z else [k])=l:=by
  clear this
  induction l with
  |nil=>rfl
  |cons k l ih =>
   simp only [List.mem_cons,not_or] at h;rw [List.flatMap_cons,if_neg (Ne.symm h.1),ih h.2];rfl
 rwa [e] at this
def opn (x:Str):Str:=Txt.replace (Txt.replace x "(" " ( ") ")" " ) "
theorem zgj (x:Str):(Txt.replace x "(" " ( ").cps.toList=x.cps.toList.flatMap ex1:=by
 refine zc4 (by decide +kernel) ?_;rw [show ("(" : Str).cps.toList=[40] by decide +kernel,show (" ( " : Str).cps.toList=[32,40,32] by decide +kernel];exact gG _
theorem zdg (x:Str):(opn x).cps.toList=ex x.cps.toList:=by
 unfold opn ex;rw [← zgj];refine zc4 (by decide +kernel) ?_;rw [show (")" : Str).cps.toList=[41] by decide +kernel,show (" ) " : Str).cps.toList=[32,41,32] by decide +kernel];exact gG _
def mkS (l:List Nat):Str:=⟨l.toArray⟩
def wdS (x:Str):List Str:=(wd x.cps.toList).map mkS
theorem zfW (t:Sy) (h:t.ok):wdS (opn (sh t))=(tw t).map Tk.s:=by
 unfold wdS;rw [zdg,bX,zcB t h,List.map_map];congr 1
theorem zdV:∀ l:List Nat,(l.flatMap ex1).length<=3 * l.length
 | []=>zzR _
 |k::l=>by
  have:=zdV l;have h:(ex1 k).length<=3:=by unfold ex1;split<;>simp
  rw [List.flatMap_cons,zzW,List.length_cons];omega
theorem zgy:∀ l:List Nat,(ex l).length<=3 * l.length
 | []=>zzR _
 |k::l=>by
  have:=zgy l
  have h:(ex [k]).length<=3:=by
   unfold ex
   by_cases h1:k=40
   .subst h1;decide
   .by_cases h2:k=41
    .subst h2;decide
    .simp [ex1,ex2,h1,h2]
  rw [show k::l=[k]++l from rfl,uE,zzW,zzW,List.length_singleton];omega
theorem qL:∀ t:Sy,t.ok->(sh t).length<=12 * t.size
 | .say x,h=>by
  have h:sU x=true:=h;simp only [sU,Bool.and_eq_true,decide_eq_true_eq] at h;show x.length<=12 * 1;omega
 | .neg a,h=>by
  have:=qL a h
  have e:(bS 4 a (sh a)).length<=(sh a).length+2:=by
   unfold bS;split
   .rw [Str.length_append,Str.length_append,show ("(" : Str).length=1 by decide +kernel,show (")" : Str).length=1 by decide +kernel];omega
   .omega
  show ("not " ++ bS 4 a (sh a)).length<=12 * (a.size+1);rw [Str.length_append,show ("not " : Str).length=4 by decide +kernel];omega
 | .two k a b,h=>by
  have ha:=qL a h.1;have hb:=qL b h.2
  have e:∀ (n:Nat) (a:Sy) (s:Str),(bS n a s).length<=s.length+2:=by
   intro n a s;unfold bS;split
   .rw [Str.length_append,Str.length_append,show ("(" : Str).length=1 by decide +kernel,show (")" : Str).length=1 by decide +kernel];omega
   .omega
  have h1:=e (lA k) a (sh a);have h2:=e (lB k) b (sh b)
  have h3:(bw k).length<=6:=by
   match k with
   | 0=>decide +kernel
   | 1=>decide +kernel
   |k+2=>show (" then " : Str).length<=6;decide +kernel
  show (bS (lA k) a (sh a)++bw k++bS (lB k) b (sh b)).length<=12 * (a.size+b.size+1);rw [Str.length_append,Str.length_append];omega
theorem zbd:∀ t:Sy,(tw t).length<=5 * t.size
 | .say x=>by show 1<=5;decide
 | .neg a=>by
  have:=zbd a;have e:(br 4 a (tw a)).length<=(tw a).length+2:=by unfold br;split<;>simp
  show (br 4 a (tw a)).length+1<=5 * (a.size+1);omega
 | .two k a b=>by
  have ha:=zbd a;have hb:=zbd b;have e:∀ (n:Nat) (a:Sy),(br n a (tw a)).length<=(tw a).length+2:=by intro n a;unfold br;split<;>simp
  have h1:=e (lA k) a;have h2:=e (lB k) b;show (br (lA k) a (tw a)++.op k::br (lB k) b (tw b)).length<=5 * (a.size+b.size+1);rw [zzW,List.length_cons];omega
theorem Sy.pos:∀ t:Sy,1<=t.size
 | .say _=>zzR _
 | .neg _=>Nat.le_add_left _ _
 | .two _ _ _=>Nat.le_add_left _ _
theorem Sy.pur:∀ t:Sy,L3.pur t.w=true
 | .say _=>by simp [Sy.w,L3.pur,wF]
 | .neg a=>by simp [Sy.w,L3.pur,wF,Sy.pur a]
 | .two _ a b=>by simp [Sy.w,L3.pur,wF,Sy.pur a,Sy.pur b]
theorem Sy.dep:∀ t:Sy,L3.dep t.w<=t.size
 | .say _=>by simp [Sy.w,L3.dep,jN,Sy.size]
 | .neg a=>by have:=Sy.dep a;simp only [Sy.w,L3.dep,jN,Sy.size];omega
 | .two _ a b=>by have:=Sy.dep a;have:=Sy.dep b;simp only [Sy.w,L3.dep,jN,Sy.size];omega
theorem jG (k:Nat):((kw k:Str) == "say")=false/\(("say" : Str)==kw k)=false/\((kw k:Str) == "not")=false/\(("not" : Str)==kw k)=false:=by
 unfold kw
 split<;>exact ⟨by decide +kernel,by decide +kernel,by decide +kernel,by decide +kernel⟩
def yC:Sy->List Sy
 | .say _=>[]
 | .neg a=>[a]
 | .two _ a b=>[a,b]
def pre:Sy->List Sy
 | .say x=>[.say x]
 | .neg a=>.neg a::pre a
 | .two k a b=>.two k a b::(pre a++pre b)
def wE (ts:List Sy):List Sy:=ts.flatMap pre
theorem sH (t:Sy):pre t=t::wE (yC t):=by cases t<;>simp [pre,yC,wE]
theorem jE:∀ t:Sy,(pre t).length=t.size
 | .say _=>rfl
 | .neg a=>by simp [pre,Sy.size,jE a]
 | .two _ a b=>by simp [pre,Sy.size,jE a,jE b]
theorem rA:∀ t:Sy,t.ok->∀ p∈pre t,p.size<=t.size/\p.ok
 | .say x,o,p,h=>by
  rw [zzO h];exact ⟨zzR _,o⟩
 | .neg a,o,p,h=>by
  rcases List.mem_cons.mp h with rfl|h
  .exact ⟨zzR _,o⟩
  .have:=rA a o p h;exact ⟨Nat.le_trans this.1 (Nat.le_succ _),this.2⟩
 | .two _ a b,o,p,h=>by
  rcases List.mem_cons.mp h with rfl|h
  .exact ⟨zzR _,o⟩
  .rcases List.mem_append.mp h with h|h
   .have:=rA a o.1 p h;exact ⟨by simp only [Sy.size];omega,this.2⟩
   .have:=rA b o.2 p h;exact ⟨by simp only [Sy.size];omega,this.2⟩
theorem uM (a b:List Sy):wE (a++b)=wE a++wE b:=by simp [wE]
theorem sI (a:Sy):wE [a]=pre a:=by simp [wE]
theorem jH (t:Sy) (r:List Sy):wE (t::r)=t::wE (yC t++r):=by
 rw [uM,← List.cons_append,← sH];simp [wE]
theorem suf:∀ (i:Nat) (ts:List Sy),∃ ts',(wE ts).drop i=wE ts'
 | 0,ts=>⟨ts,rfl⟩
 |i+1,[]=>⟨[],by simp [wE]⟩
 |i+1,t::r=>by
  obtain ⟨ts',e⟩:=suf i (yC t++r);exact ⟨ts',by rw [jH,List.drop_succ_cons,e]⟩
theorem gE:∀ {a b:List Sy},wE a=wE b->a=b
 | [],[],_=>rfl
 | [],t::r,h=>by rw [jH] at h;cases h
 |t::r,[],h=>by rw [jH] at h;cases h
 |t::r,t'::r',h=>by
  have h1:=h;rw [jH,jH] at h1
  injection h1 with h1 _
  subst h1;have h2:pre t++wE r=pre t++wE r':=by simpa [wE] using h
  rw [gE (List.append_cancel_left h2)]
theorem zeA {t x:Sy} {i:Nat} {ts:List Sy} (h:(pre t).drop i=x::wE ts):∃ r,ts=yC x++r:=by
 obtain ⟨ts',e⟩:=suf i [t];rw [sI,h] at e
 cases ts' with
 |nil=>cases e
 |cons y r =>
  rw [jH] at e
  injection e with e1 e2
  subst e1;exact ⟨r,gE e2⟩
def qN (ts:List Sy):Nat:=(wE ts).length
theorem gU (a b:List Sy):qN (a++b)=qN a+qN b:=by simp [qN,uM]
theorem sM:∀ ts:List Sy,ts.length<=qN ts
 | []=>Nat.zero_le _
 |t::ts=>by
  have h1:=t.pos;have h2:=sM ts;have e:qN (t::ts)=(pre t).length+qN ts:=by simp [qN,wE]
  rw [e,jE,List.length_cons];omega
theorem zcL (t:Sy):qN (yC t)+1=t.size:=by
 have:=jE t;rw [sH] at this;simpa [qN] using this
def isW:Tk->Bool
 | .nt=>true
 | .op _=>true
 | .lp=>true
 |_=>false
def ops:List Tk->Nat
 | []=>0
 | .op _::V=>ops V+1
 |_::V=>ops V
structure Wf (D:List Sy) (V:List Tk) (n:Nat):Prop where
 len:D.length=ops V+n
 all:∀ w∈V,isW w=true
theorem zgR {m:Nat} (hm:1<=m):∀ {V:List Tk} {D:List Sy},Wf D V 1->Wf (tl m D V).1 (tl m D V).2 1
 | [],D,h=>h
 |w::V,D,h=>by
  unfold tl
  split
  .rename_i hb;refine zgR hm ⟨?_,fun x hx=>h.all x (List.mem_cons_of_mem _ hx)⟩;have hl:=h.len;have hw:=h.all w zzT
   match w,hw,hb,hl with
   | .nt,_,_,hl =>
    cases D with
    |nil=>simp [ops] at hl
    |cons a D=>simpa [ops,pt] using hl
   | .op k,_,_,hl =>
    match D,hl with
    | [],hl=>simp [ops] at hl
    | [a],hl=>simp [ops] at hl
    |b::a::D,hl=>simp only [ops,List.length_cons] at hl;simp only [pt,List.length_cons];omega
   | .lp,_,hb,_=>have hb:m<=0:=hb;omega
  .exact h
theorem zbf {m:Nat}:∀ (V:List Tk) (D:List Sy),(tl m D V).1.length<=D.length/\(tl m D V).2.length<=V.length
 | [],D=>⟨zzR _,zzR _⟩
 |w::V,D=>by
  unfold tl
  split
  .have ih:=zbf (m:=m) V (pt w D);have hp:(pt w D).length<=D.length:=by unfold pt;split<;>simp
   exact ⟨Nat.le_trans ih.1 hp,by rw [List.length_cons];omega⟩
  .exact ⟨zzR _,zzR _⟩
def Good:St->Tk->Prop
 | (_,_,true),.nm x=>sU x=true
 | (_,_,true),.nt=>True
 | (_,_,true),.lp=>True
 | (_,_,true),_=>False
 | (_,_,false),.op _=>True
 | (D,V,false),.rp=>(tl 1 D V).2≠[]
 | (_,_,false),_=>False
def vZ:St->List Tk->Prop
 |_,[]=>True
 |s,t::l=>Good s t/\vZ (step s t) l
theorem tQ:∀ (a:List Tk) (s:St) (b:List Tk),vZ s (a++b)↔vZ s a/\vZ (run s a) b
 | [],s,b=>⟨fun h=>⟨trivial,h⟩,fun h=>h.2⟩
 |t::a,s,b=>by
  show (Good s t/\vZ (step s t) (a++b))↔(Good s t/\vZ (step s t) a)/\vZ (run (step s t) a) b;rw [tQ a];exact ⟨fun h=>⟨⟨h.1,h.2.1⟩,h.2.2⟩,fun h=>⟨h.1.1,h.1.2,h.2⟩⟩
theorem zbZ (a:Sy):1<=bd a:=by
 cases a with
 |say x=>show 1<=5;decide
 |neg a=>show 1<=4;decide
 |two k a b=>match k with|0=>show 1<=3;decide|1=>show 1<=2;decide|k+2=>show 1<=1;decide
theorem rO {D:List Sy} {V:List Tk} {a:Sy} {n:Nat} (ih:∀ D V,Low (pU a) V->vZ (D,V,true) (tw a)) (hlow:¬ bd a<n->Low (pU a) V):vZ (D,V,true) (br n a (tw a)):=by
 unfold br
 by_cases h:bd a<n
 .rw [if_pos h];have hl:Low (pU a) (.lp::V):=show bin .lp<pU a from Nat.lt_of_lt_of_le (by decide) (zbB a)
  refine ⟨trivial,(tQ _ _ _).mpr ⟨ih D (.lp::V) hl,?_⟩⟩;obtain ⟨D',V',e,p⟩:=uN a D (.lp::V) hl;show vZ (run (D,.lp::V,true) (tw a)) [.rp];rw [e];refine ⟨?_,trivial⟩;have q:=p 1 (zzR _) (zbZ a);have ql:tl 1 (a::D) (.lp::V)=(a::D,.lp::V):=zbe (show bin .lp<1 by decide);rw [ql] at q;show (tl 1 D' V').2≠[];rw [q];simp
 .rw [if_neg h];exact ih D V (hlow h)
theorem tP:∀ (t:Sy),t.ok->∀ (D:List Sy) (V:List Tk),Low (pU t) V->vZ (D,V,true) (tw t)
 | .say x,h,D,V,_=>⟨h,trivial⟩
 | .neg a,h,D,V,_=>⟨trivial,rO (D:=D) (V:=.nt::V) (a:=a) (n:=4) (fun D V l=>tP a h D V l) fun z=>by rw [zbC z];show 4<5;decide⟩
 | .two k a b,h,D,V,hl=>by
  have hl:Low (lA k) V:=hl;refine (tQ _ _ _).mpr ⟨rO (n:=lA k) (fun D V l=>tP a h.1 D V l) fun z=>hl.mono (pV z),?_⟩;obtain ⟨D1,V1,e1,p1⟩:=zc6 (D:=D) (V:=V) (a:=a) (n:=lA k) (fun D V h=>uN a D V h) fun z=>hl.mono (pV z);rw [e1];have kA:1<=lA k:=by match k with|0=>decide|k+1=>show 1<=2;decide
  have kA5:lA k<=5:=by match k with|0=>decide|k+1=>show 2<=5;decide
  have q:=p1 (lA k) kA (by split<;>omega);rw [zbe hl] at q;refine ⟨trivial,?_⟩;show vZ ((tl (lA k) D1 V1).1,.op k::(tl (lA k) D1 V1).2,true) (br (lB k) b (tw b));rw [q];exact rO (fun D V l=>tP b h.2 D V l) fun z=>fW z
def WfS:St->Prop
 | (D,V,l)=>Wf D V (if l=true then 0 else 1)
theorem zgp (k:Nat):1<=lA k:=by match k with|0=>decide|k+1=>show 1<=2;decide
theorem ziI {m:Nat}:∀ (V:List Tk) (D:List Sy),Low m (tl m D V).2
 | [],D=>trivial
 |w::V,D=>by
  unfold tl
  split
  .exact ziI V _
  .rename_i hb;exact Nat.not_le.mp hb
theorem zgN {s:St} {t:Tk} (h:WfS s) (g:Good s t):WfS (step s t):=by
 obtain ⟨D,V,l⟩:=s
 cases l with
 |true =>
  have h:Wf D V 0:=h
  match t,g with
  | .nm x,_=>exact ⟨by have:=h.len;show D.length+1=ops V+1;omega,h.all⟩
  | .nt,_=>exact ⟨h.len,fun w hw=>by rcases List.mem_cons.mp hw with rfl|hw;rfl;exact h.all w hw⟩
  | .lp,_=>exact ⟨h.len,fun w hw=>by rcases List.mem_cons.mp hw with rfl|hw;rfl;exact h.all w hw⟩
 |false =>
  have h:Wf D V 1:=h
  match t,g with
  | .op k,_ =>
   have:=zgR (zgp k) h;exact ⟨this.len,fun w hw=>by rcases List.mem_cons.mp hw with rfl|hw;rfl;exact this.all w hw⟩
  | .rp,g =>
   have hw:=zgR (zzR 1) h;have g:(tl 1 D V).2≠[]:=g;show Wf (tl 1 D V).1 ((tl 1 D V).2.drop 1) 1;have low:Low 1 (tl 1 D V).2:=ziI V D;generalize tl 1 D V=r at hw g low;obtain ⟨D',V'⟩:=r
   cases V' with
   |nil=>exact absurd rfl g
   |cons w V' =>
    have hi:=hw.all w zzT;refine ⟨?_,fun x hx=>hw.all x (List.mem_cons_of_mem _ hx)⟩
    match w,hi,low,hw.len with
    | .lp,_,_,e=>exact e
    | .nt,_,low,_=>exact absurd (show (4:Nat)<1 from low) (by decide)
    | .op 0,_,low,_=>exact absurd (show (3:Nat)<1 from low) (by decide)
    | .op 1,_,low,_=>exact absurd (show (2:Nat)<1 from low) (by decide)
    | .op (k+2),_,low,_=>exact absurd (show (1:Nat)<1 from low) (by decide)
def LenS (s:St) (n:Nat):Prop:=s.1.length<=n/\s.2.1.length<=n
theorem zfl {s:St} {t:Tk} {n:Nat} (h:LenS s n):LenS (step s t) (n+1):=by
 obtain ⟨D,V,l⟩:=s;have h1:D.length<=n:=h.1;have h2:V.length<=n:=h.2;have tA:=fun k=>zbf (m:=lA k) V D;have t1:=zbf (m:=1) V D
 have q1:∀ t:Tk,(step (D,V,true) t).1.length<=n+1/\(step (D,V,true) t).2.1.length<=n+1:=by
  intro t;cases t<;>simp only [step,List.length_cons]<;>omega
 have q2:∀ t:Tk,(step (D,V,false) t).1.length<=n+1/\(step (D,V,false) t).2.1.length<=n+1:=by
  intro t
  cases t with
  |op k=>have:=tA k;simp only [step,List.length_cons];omega
  |_=>simp only [step,List.length_drop];omega
 cases l with
 |true=>exact q1 t
 |false=>exact q2 t
theorem ltS1 {a b:W} (h:(ltW a b).isSome=true):(nH [a] [b]).isSome=true:=by
 simp only [nH]
 split
 .rfl
 .exact h
theorem ltS2 {a b c d:W} (h:(ltW a b).isSome=true) (h':(ltW c d).isSome=true):(nH [a,c] [b,d]).isSome=true:=by
 rw [nH]
 split
 .exact ltS1 h'
 .exact h
theorem zaQ {x:Str} {l l':List W} (h:(nH l l').isSome=true):(ltW (.tup (.str x::l)) (.tup (.str x::l'))).isSome=true:=by
 rw [ltW,nH,if_pos (by simp [wY])];exact h
theorem vN {x y:Str} {l l':List W} (h:(x==y)=false):(ltW (.tup (.str x::l)) (.tup (.str y::l'))).isSome=true:=by
 rw [ltW,nH,if_neg (by simp [wY,h]),ltW];rfl
theorem Sy.lt:∀ a b:Sy,(ltW a.w b.w).isSome=true
 | .say x,.say y=>zaQ (ltS1 (by rw [ltW];rfl))
 | .neg a,.neg b=>zaQ (ltS1 (Sy.lt a b))
 | .two k a c,.two j b d=>by
  cases h:((kw k:Str)==kw j) with
  |true =>
   simp only [Sy.w];rw [eq_of_beq h];exact zaQ (ltS2 (Sy.lt a b) (Sy.lt c d))
  |false=>exact vN h
 | .say _,.neg _=>vN (by decide +kernel)
 | .say _,.two k _ _=>vN (jG k).2.1
 | .neg _,.say _=>vN (by decide +kernel)
 | .neg _,.two k _ _=>vN (jG k).2.2.2
 | .two k _ _,.say _=>vN (jG k).1
 | .two k _ _,.neg _=>vN (jG k).2.2.1
theorem Sy.hd (t:Sy):hdT t.w=some "str" := by cases t<;>rfl
theorem zbt:∀ ts:List Sy,wF (ts.map Sy.w)=true
 | []=>rfl
 |t::ts=>by simp [wF,t.pur,zbt ts]
theorem zbU {n:Nat}:∀ ts:List Sy,(∀ t∈ts,t.size<=n)->jN (ts.map Sy.w)<=n
 | [],_=>Nat.zero_le _
 |t::ts,h=>by
  have h1:=Sy.dep t;have h2:=h t zzT;have h3:=zbU ts fun x hx=>h x (List.mem_cons_of_mem _ hx);simp only [zzU,jN];omega
theorem srtb {ts:List Sy} (hn:ts.length<64) (hs:∀ t∈ts,t.size<=59):Srtb (ts.map Sy.w) where
 pure:=zbt ts
 lt:=fun x hx y hy=>by
  obtain ⟨a,_,rfl⟩:=zzP hx;obtain ⟨b,_,rfl⟩:=zzP hy;exact Sy.lt a b
 few:=by simpa using hn
 deep:=Nat.lt_of_le_of_lt (zbU ts hs) (by omega)
 hd:=⟨"str", fun x hx=>by obtain ⟨a,_,rfl⟩:=zzP hx;exact a.hd⟩
def tq (m:Nat) (t:Sy):List Tk:=br m t (tw t)
def tx (m:Nat) (t:Sy):Str:=bS m t (sh t)
theorem zf1 (m:Nat) (t:Sy):(tq m t).length<=5 * t.size+2:=by
 have:=zbd t;unfold tq br;split
 .simp;omega
 .omega
theorem ziE (m:Nat) (t:Sy) (h:t.ok):(tx m t).length<=12 * t.size+2:=by
 have:=qL t h;unfold tx bS;split
 .rw [Str.length_append,Str.length_append,show ("(" : Str).length=1 by decide +kernel,show (")" : Str).length=1 by decide +kernel];omega
 .omega
theorem tx0 (t:Sy):tx 0 t=sh t:=by unfold tx bS;rw [if_neg (Nat.not_lt_zero _)]
theorem bd_le (t:Sy):bd t<=5:=by
 cases t with
 |say x=>show 5<=5;decide
 |neg a=>show 4<=5;decide
 |two k a b=>match k with|0=>show 3<=5;decide|1=>show 2<=5;decide|k+2=>show 1<=5;decide
theorem tx6 (t:Sy):tx 6 t = "(" ++ sh t ++ ")" := by unfold tx bS;rw [if_pos (by have:=bd_le t;omega)]
theorem ziA (m:Nat) (t:Sy) (h:t.ok):wdS (opn (tx m t))=(tq m t).map Tk.s:=by
 unfold wdS tx;rw [zdg,zej,bX,wd_b (ws:=[]) (zcB t h),List.map_map];congr 1
theorem tx_nl (m:Nat) (t:Sy) (h:t.ok):Txt.replace (tx m t) "\n" " " = tx m t:=by
 apply zgW;refine zc4 (by decide +kernel) ?_;unfold tx;rw [show ("\n" : Str).cps.toList=[10] by decide +kernel,zej,bX];refine rp_id ?_;have:=zg2 t h;unfold b2
 split
 .simp [this]
 .exact this
theorem zex (m:Nat) (t:Sy) (h:t.ok):vZ ([],[],true) (tq m t):=rO (fun D V l=>tP t h D V l) fun _=>trivial
theorem tq_rd (m:Nat) (t:Sy):∃ D V,run ([],[],true) (tq m t)=(D,V,false)/\tl 1 D V=([t],[]):=by
 obtain ⟨D,V,e,p⟩:=zc6 (D:=[]) (V:=[]) (a:=t) (n:=m) (fun D V h=>uN t D V h) fun _=>trivial;exact ⟨D,V,e,p 1 (zzR _) (by split;decide;exact zbZ t)⟩
def Sy.nk:Sy->Prop
 | .say _=>True
 | .neg a=>a.nk
 | .two k a b=>k<=2/\a.nk/\b.nk
def tkN:Tk->Prop
 | .nm x=>sU x=true
 | .op k=>k<=2
 |_=>True
theorem tw_n:∀ t:Sy,t.ok->t.nk->∀ k∈tw t,tkN k:=by
 have hb:∀ (n:Nat) (a:Sy),(∀ k∈tw a,tkN k)->∀ k∈br n a (tw a),tkN k:=fun n a h k hk=>by
  unfold br at hk
  split at hk
  .rcases List.mem_cons.mp hk with rfl|hk
   .trivial
   .rcases List.mem_append.mp hk with hk|hk
    .exact h k hk
    .rw [zzO hk];trivial
  .exact h k hk
 intro t
 induction t with
 |say x=>intro h _ k hk;rw [zzO hk];exact h
 |neg a ih =>
  intro h n k hk;rcases List.mem_cons.mp hk with rfl|hk
  .trivial
  .exact hb 4 a (ih h n) k hk
 |two j a b ia ib =>
  intro h n k hk;rcases List.mem_append.mp hk with hk|hk
  .exact hb _ a (ia h.1 n.2.1) k hk
  .rcases List.mem_cons.mp hk with rfl|hk
   .exact n.1
   .exact hb _ b (ib h.2 n.2.2) k hk
def tkI:Tk->Nat
 | .nm _=>0
 | .lp=>1
 | .rp=>2
 | .nt=>3
 | .op k=>4+k
theorem zcH {t:Tk} (h:tkN t) (n:tkI t≠0):sU t.s=false/\(t=.lp\/t=.rp\/t=.nt\/t=.op 0\/t=.op 1\/t=.op 2):=by
 cases t with
 |nm x=>exact absurd rfl n
 |lp=>exact ⟨by show sU "(" = false;decide +kernel,.inl rfl⟩
 |rp=>exact ⟨by show sU ")" = false;decide +kernel,.inr (.inl rfl)⟩
 |nt=>exact ⟨by show sU "not" = false;decide +kernel,.inr (.inr (.inl rfl))⟩
 |op k =>
  have h:k<=2:=h;have c:k=0\/k=1\/k=2:=by omega
  rcases c with rfl|rfl|rfl
  .exact ⟨by show sU "and" = false;decide +kernel,by simp⟩
  .exact ⟨by show sU "or" = false;decide +kernel,by simp⟩
  .exact ⟨by show sU "then" = false;decide +kernel,by simp⟩
theorem ziJ {a b:Tk} (ha:tkN a) (hb:tkN b) (e:a.s=b.s):a=b:=by
 by_cases ia:tkI a=0
 .cases a with
  |nm x =>
   by_cases ib:tkI b=0
   .cases b with
    |nm y=>exact congrArg Tk.nm e
    |op k=>simp [tkI] at ib
    |_=>cases ib
   .have:=(zcH hb ib).1;rw [← e] at this;have ha:sU x=true:=ha;rw [show Tk.s (.nm x)=x from rfl,ha] at this;cases this
  |op k=>simp [tkI] at ia
  |_=>cases ia
 .have h1:=zcH ha ia
  by_cases ib:tkI b=0
  .cases b with
   |nm y =>
    have hb:sU y=true:=hb;have:=h1.1;rw [e,show Tk.s (.nm y)=y from rfl,hb] at this;cases this
   |op k=>simp [tkI] at ib
   |_=>cases ib
  .have h2:=zcH hb ib
   have D:∀ x∈([.lp,.rp,.nt,.op 0,.op 1,.op 2]:List Tk),∀ y∈([.lp,.rp,.nt,.op 0,.op 1,.op 2]:List Tk),x.s=y.s->tkI x=tkI y:=by
    simp only [List.mem_cons,List.not_mem_nil,or_false];rintro x (rfl|rfl|rfl|rfl|rfl|rfl) y (rfl|rfl|rfl|rfl|rfl|rfl)<;>decide +kernel
   have d:=D a (by simpa using h1.2) b (by simpa using h2.2) e;rcases h1.2 with rfl|rfl|rfl|rfl|rfl|rfl<;>rcases h2.2 with rfl|rfl|rfl|rfl|rfl|rfl<;>first|rfl|exact absurd d (by decide)
theorem zhB {l:List Tk}:∀ {l':List Tk},(∀ k∈l,tkN k)->(∀ k∈l',tkN k)->l.map Tk.s=l'.map Tk.s->l=l':=by
 induction l with
 |nil=>intro l' _ _ e;cases l' with|nil=>rfl|cons _ _=>cases e
 |cons a l ih =>
  intro l' h h' e
  cases l' with
  |nil=>cases e
  |cons b l' =>
   injection e with e1 e2
   rw [ziJ (h a zzT) (h' b zzT) e1,ih (fun k hk=>h k (List.mem_cons_of_mem _ hk)) (fun k hk=>h' k (List.mem_cons_of_mem _ hk)) e2]
theorem zi1 {s t:Sy} (hs:s.ok) (ns:s.nk) (ht:t.ok) (nt:t.nk) (e:sh s=sh t):s=t:=by
 have h1:=zfW s hs;have h2:=zfW t ht;rw [e,h2] at h1;have h3:=zhB (tw_n t ht nt) (tw_n s hs ns) h1;obtain ⟨D,V,e1,p1⟩:=uN s [] [] trivial;obtain ⟨D',V',e2,p2⟩:=uN t [] [] trivial;rw [h3,e1] at e2;cases e2;have q1:=p1 1 (zzR _) (zbZ s);have q2:=p2 1 (zzR _) (zbZ t);rw [q1] at q2;have q2:(([s],[]):List Sy×List Tk)=([t],[]):=q2;cases q2;rfl
theorem Sy.eqr:∀ t:Sy,wY t.w t.w=true
 | .say _=>by simp [Sy.w,wY,wJ]
 | .neg a=>by simp [Sy.w,wY,wJ,Sy.eqr a]
 | .two _ a b=>by simp [Sy.w,wY,wJ,Sy.eqr a,Sy.eqr b]
theorem zj1 {j k:Nat} (hj:j<=2) (hk:k<=2) (e:(kw j:Str)=kw k):j=k:=by
 have D:∀ j:Fin 3,∀ k:Fin 3,(kw j.1:Str)=kw k.1->j=k:=by decide +kernel
 have:=D ⟨j,by omega⟩ ⟨k,by omega⟩ e;exact congrArg Fin.val this
theorem Sy.eqi:∀ {s t:Sy},s.nk->t.nk->wY s.w t.w=true->s=t:=by
 intro s
 induction s with
 |say x =>
  intro t _ _ h
  cases t with
  |say y=>simp [Sy.w,wY,wJ] at h;rw [h]
  |neg b=>exfalso;revert h;rw [Sy.w,Sy.w,wY,wJ,wY,show (("say" : Str) == "not")=false by decide +kernel,Bool.false_and];decide
  |two k b d=>exfalso;revert h;rw [Sy.w,Sy.w,wY,wJ,wY,(jG k).2.1,Bool.false_and];decide
 |neg a ih =>
  intro t hs ht h
  cases t with
  |say y=>exfalso;revert h;rw [Sy.w,Sy.w,wY,wJ,wY,show (("not" : Str) == "say")=false by decide +kernel,Bool.false_and];decide
  |neg b =>
   rw [Sy.w,Sy.w,wY,wJ,wJ,wJ,Bool.and_true,Bool.and_eq_true] at h;rw [ih (t:=b) hs ht h.2]
  |two k b d=>exfalso;revert h;rw [Sy.w,Sy.w,wY,wJ,wY,(jG k).2.2.2,Bool.false_and];decide
 |two j a c ia ic =>
  intro t hs ht h
  cases t with
  |say y=>exfalso;revert h;rw [Sy.w,Sy.w,wY,wJ,wY,(jG j).1,Bool.false_and];decide
  |neg b=>exfalso;revert h;rw [Sy.w,Sy.w,wY,wJ,wY,(jG j).2.2.1,Bool.false_and];decide
  |two k b d =>
   rw [Sy.w,Sy.w,wY,wJ,wJ,wJ,wJ,Bool.and_true,Bool.and_eq_true,Bool.and_eq_true,wY] at h;rw [zj1 hs.1 ht.1 (eq_of_beq h.1),ia hs.2.1 ht.2.1 h.2.1,ic hs.2.2 ht.2.2 h.2.2]
theorem sh_eq {s t:Sy} (hs:s.ok) (ns:s.nk) (ht:t.ok) (nt:t.nk):(sh s==sh t)=wY s.w t.w:=by
 cases h:wY s.w t.w with
 |true=>rw [Sy.eqi ns nt h];exact beq_self_eq_true _
 |false =>
  rw [beq_eq_false_iff_ne];intro e;rw [zi1 hs ns ht nt e,Sy.eqr] at h;cases h
def ddr (p:W):List W->List W
 | []=>[]
 |y::r=>if wY p y=true then ddr p r else y::ddr y r
def dd:List W->List W
 | []=>[]
 |x::r=>x::ddr x r
def SO (xs ys:List W):Prop:=(Srtb xs/\ys=srt xs)\/∃ ts ts':List Str,xs=ts.map .str/\ts'.Perm ts/\sortedS ts'=true/\ys=ts'.map .str
def SOk (xs:List W):Prop:=Srtb xs\/∃ ts:List Str,xs=ts.map .str/\ts.length<64
theorem zkE {ys:List W}:∀ y∈dd ys,y∈ys:=by
 have key:∀ (l:List W) (p:W),∀ y∈ddr p l,y∈l:=by
  intro l
  induction l with
  |nil=>intro p y hy;cases hy
  |cons a l ih =>
   intro p y hy;rw [ddr] at hy
   split at hy
   .exact List.mem_cons_of_mem _ (ih p y hy)
   .rcases List.mem_cons.mp hy with rfl|hy
    .exact zzT
    .exact List.mem_cons_of_mem _ (ih a y hy)
 cases ys with
 |nil=>intro y hy;cases hy
 |cons x r =>
  intro y hy;rcases List.mem_cons.mp hy with rfl|hy
  .exact zzT
  .exact List.mem_cons_of_mem _ (key r x y hy)
abbrev mR:Mt3:=⟨"append", "list", dL⟩
theorem zie {q:Pr} {A:Around}:MtE (q.at A) mR/\pK mR:=⟨fR PySem.F.plainAttrs_list PySem.F.slot_list_append PySem.F.type_list_append (fun X f=>zkK) zay,zay⟩
def tv:Tk->W
 | .nm x=>.tup [.str "say", .str x]
 |t=>.str t.s
def Lw (D:List Sy):O:=.lst ((D.map Sy.w).reverse)
def Lk (V:List Tk):O:=.lst ((V.map fun t=>W.str t.s).reverse)
def bK:List Str:=["if", "or", "and", "not"]
def bV:List W:=[.int 1,.int 2,.int 3,.int 4]
def lK:List Str:=["not", "and", "or", "if"]
def lV:List W:=[.tup [.int 4],.tup [.int 3,.int 4],.tup [.int 2,.int 3],.tup [.int 2,.int 1]]
def wK:List Str:=["and", "or", "if"]
def wV:List W:=[.str " and ", .str " or ", .str " then "]
def jL:List W:=[.str "(", .str ")", .str "not", .str "and", .str "or", .str "then"]
def rK:List Str:=["(", "then", "or", "and", "not"]
def rV:List W:=[.int 0,.int 1,.int 2,.int 3,.int 4]
def tK:List Str:=["then", "or", "and", ")"]
def tV:List W:=[.int 2,.int 2,.int 3,.int 1]
def mK:List Str:=["then", "or", "and"]
def mV:List W:=[.str "if", .str "or", .str "and"]
def dE:Sy->Str
 | .say _ => "say"
 | .neg _ => "not"
 | .two k _ _=>kw k
def Fr (ws:List W) (G:Hw) (Q:Q3):Prop:=∀ r G',zI [] G G'->G r=none->G' r=some (.lst ws)->Q (.ref r) G'
theorem Fr.mono {ws:List W} {G:Hw} {Q Q':Q3} (k:∀ w G',Q w G'->Q' w G') (h:Fr ws G Q):Fr ws G Q':=fun r G' a b c=>k _ _ (h r G' a b c)
theorem Fr.keep {ws:List W} {G G1:Hw} {Q:Q3} (h:Fr ws G Q) (k:zI [] G G1):Fr ws G1 Q:=fun r G' a b c=>h r G' (k.trans a) (k.none (by simp) b) c
def K0 (w:W) (G:Hw) (Q:Q3):Prop:=∀ G',zI [] G G'->Q w G'
def mH:uU:=fun ws G Q _=>∃ (d l:Addr) (m:Int),ws=[.ref d,.int m]/\jZ G d l/\1<=m/\m<=4/\∀ (r:Addr) (xs:List Str) G',xs≠[]->xs.length<=4->(∀ x∈xs,sU x=true)->r∉[d,l]->G' r=some (.lst (xs.map .str))->zI [d,l] G G'->jZ G' d l->Q (.ref r) G'
def wX (n:Nat):uU:=fun ws G Q _=>∃ (d l r:Addr) (m e:Int) (xs:List Str),ws=[.ref d,.ref r,.int m,.int e]/\jZ G d l/\r∉[d,l]/\G r=some (.lst (xs.map .str))/\xs≠[]/\xs.length<=5/\(∀ x∈xs,sU x=true)/\1<=m/\m<=40/\0<=e/\e<n /\
 ∀ (t:Sy) G',t.ok->t.nk->(t.size:Int)<=m->(t.deep:Int)<=e->zI [d,l] G G'->jZ G' d l->Q t.w G'
def jY:uU:=fun ws G Q _=>∃ t:Sy,ws=[t.w]/\Q (.tup ((yC t).map Sy.w)) G
def uS (sA:Addr):uU:=fun ws G Q _=>∃ t:Sy,ws=[t.w,.ref sA]/\t.size<=40/\Fr ((pre t).map Sy.w) G Q
def spJt:uU:=fun ws G Q _=>∃ (t:Sy) (p:Addr) (ini:List W),ws=[.str (dE t),.tup ((yC t).map Sy.w),.ref p]/\t.ok/\t.size<=40/\yC t≠[]/\ini.length<=100/\G p=some (.lst (ini++((yC t).map fun s=>W.str (sh s)).reverse))/\∀ G',zI [p] G G'->G' p=some (.lst ini)->Q (.str (sh t)) G'
def mL (sA nA:Addr):uU:=fun ws G Q _=>∃ t:Sy,ws=[t.w,.ref sA,.ref nA]/\t.ok/\t.size<=40/\K0 (.str (sh t)) G Q
def wB:uU:=fun ws G Q _=>∃ x:Str,ws=[(Sy.say x).w]/\Q (.str x) G
def zbl:uU:=fun ws G Q _=>∃ t:Sy,ws=[t.w]/\t.ok/\t.size<=40/\K0 (.str (sh t)) G Q
def zeH:uU:=fun ws G Q _=>∃ (w:Tk) (D:List Sy) (p:Addr),ws=[.str w.s,.ref p]/\G p=some (Lw D)/\D.length<=500/\((w=.nt/\1<=D.length)\/∃ k,w=.op k/\2<=D.length)/\∀ G',zI [p] G G'->G' p=some (Lw (pt w D))->Q .non G'
def gP:uU:=fun ws G Q _=>∃ (m:Nat) (D:List Sy) (V:List Tk) (p r:Addr),ws=[.int m,.ref p,.ref r]/\1<=m/\p≠r/\G p=some (Lw D)/\G r=some (Lk V)/\Wf D V 1/\D.length<=400/\V.length<=400/\∀ G',zI [p,r] G G'->G' p=some (Lw (tl m D V).1)->G' r=some (Lk (tl m D V).2)->Q .non G'
def uR (l:Bool):uU:=fun ws G Q _=>∃ (t:Tk) (D:List Sy) (V:List Tk) (p r:Addr),ws=[tv t,.ref p,.ref r]/\p≠r/\G p=some (Lw D)/\G r=some (Lk V)/\Good (D,V,l) t/\WfS (D,V,l)/\D.length<=300/\V.length<=300 /\
 ∀ G',zI [p,r] G G'->G' p=some (Lw (step (D,V,l) t).1)->G' r=some (Lk (step (D,V,l) t).2.1)->Q (.bl (step (D,V,l) t).2.2) G'
def spRJ:uU:=fun ws G Q _=>∃ (t:Sy) (m:Nat) (q:Addr),ws=[.ref q]/\t.ok/\t.size<=40/\G q=some (.lst ((tq m t).map tv))/\K0 t.w G Q
def zeJ:uU:=fun ws G Q _=>∃ x:Str,ws=[.str x]/\sU x=true/\K0 (.bl true) G Q
def tkOk:Tk->Prop
 | .nm x=>sU x=true
 |_=>True
def spRW:uU:=fun ws G Q _=>∃ k:Tk,ws=[.str k.s]/\tkOk k/\K0 (tv k) G Q
def spWB:uU:=fun ws G Q _=>∃ x:Str,ws=[.str x]/\x.length<=2000/\Fr ((wdS x).map .str) G Q
def spWA:uU:=fun ws G Q _=>∃ x:Str,ws=[.str x]/\x.length<=600/\Fr ((wdS (opn x)).map .str) G Q
def spRS:uU:=fun ws G Q _=>∃ (t:Sy) (m:Nat),ws=[.str (tx m t)]/\t.ok/\t.size<=40/\K0 t.w G Q
def zbm:uU:=fun ws G Q _=>∃ (p:Addr) (xs:List W),ws=[.ref p]/\yU G p=some xs/\SOk xs/\∀ ys,SO xs ys->Fr (dd ys) G Q
def mJ:uU:=fun ws G Q _=>∃ t:Sy,ws=[t.w]/\t.size<=40/\Fr ((pre t).map Sy.w) G Q
def zeI:uU:=fun ws G Q _=>∃ t:Sy,ws=[t.w]/\t.size<=40/\Fr (dd (srt ((pre t).map Sy.w))) G Q
def qC (n:Nat):uU:=fun ws G Q _=>∃ (d l:Addr) (t:Sy),ws=[.ref d,t.w]/\jZ G d l/\t.ok/\t.nk/\t.deep<n/\∀ (s:Sy) G',s.ok->s.nk->s.size=t.size->zI [d,l] G G'->jZ G' d l->Q s.w G'
section
variable (K : yL) (sA nA : Addr)
def fnL:List Fn3:=[eMax,eLen,eAll,eLst,eIsi K,zkB,zd1,⟨"_law_names", mH⟩,⟨"_law_large", wX 21⟩,⟨"sides_of", jY⟩,⟨"all_within", uS sA⟩,⟨"joined_text", spJt⟩,⟨"show_joined", mL sA nA⟩,⟨"name_of", wB⟩,⟨"show_saying", zbl⟩,⟨"put_together", zeH⟩,
 ⟨"take_left", gP⟩,⟨"begin_side", uR true⟩,⟨"go_on", uR false⟩,⟨"read_joined", spRJ⟩,⟨"is_name", zeJ⟩,⟨"read_word", spRW⟩,⟨"words_between_blanks", spWB⟩,⟨"words_and_brackets", spWA⟩,⟨"read_saying", spRS⟩,zig,⟨"sorted_once", zbm⟩,⟨"all_parts", mJ⟩,⟨"parts_of", zeI⟩,⟨"_law_turned", qC 21⟩]
def GamL (l:List Fn3):Ctx3:=⟨l,[("LONGEST_NAME", .int 6),("NO_NAMES", .tup (bO.map .str)),("BINDS_saywrite", .dcf bK bV),("SINGLE_BINDS", .int 5),("LEAST", .dcf lK lV),("BETWEEN", .dcf wK wV),("JOINING", .tup jL),("BINDS_sayread", .dcf rK rV),("TAKES", .dcf tK tV),("MADE", .dcf mK mV),("str", .ty "str"),("tuple", .ty "tuple"),("sides_of", .ref sA),("name_of", .ref nA)],
 [ePop,zd0,mR,eExt,zbR],[eRng,eZpi],[],
 [eRev,⟨rvM,rvS⟩,⟨hcM "sides_of", hcS sA jY⟩,⟨hcM "joined_by", hcS sA jY⟩,⟨hcM "single_text", hcS nA wB⟩,⟨nO ")" " ) ", cV ")" " ) "⟩,⟨nO "(" " ( ", cV "(" " ( "⟩,⟨nO "\n" " ", cV "\n" " "⟩,⟨fstM [some "not ", none],fstS [some "not ", none]⟩,⟨fstM [some "(", none,some ")"],fstS [some "(", none,some ")"]⟩,⟨gt2M "BINDS_saywrite", gt2S bK bV⟩],[]⟩
def yP (n:Nat):Ctx3:=GamL sA nA ((fnL K sA nA).take n)
def kP (n:Nat) (e:Fn3):Ctx3:=GamL sA nA ((fnL K sA nA).take n++[e])
end
theorem kQ {a:W} {l:List W}:tE (a::l) 0=some a:=by
 unfold tE;have:cN (a::l).length 0=some 0:=by simp [cN]
 rw [this];rfl
theorem mP {a b:W} {l:List W}:tE (a::b::l) 1=some b:=by
 unfold tE;have:cN (a::b::l).length 1=some 1:=by simp [cN];omega
 rw [this];rfl
theorem sz (n:Nat) (h:n<=3000):n<=sizeLine:=by rw [sizeLine_eq];omega
theorem gZ {α:Type} {a:α} {l:List α}:(a::l)[0]?=some a:=rfl
theorem gS {α:Type} {a:α} {l:List α} {i:Nat}:(a::l)[i+1]?=l[i]?:=rfl
theorem tZ {α:Type} {a b:α} {l:List α}:(a::l).set 0 b=b::l:=rfl
theorem tS {α:Type} {a b:α} {l:List α} {i:Nat}:(a::l).set (i+1) b=a::l.set i b:=rfl
theorem yQ {Γ:Ctx3} {E:XQ} {s:IS} {ss:ISs} {D:End3} {σ:jM} {G:Hw} (h:zO Γ E s { D with nx:=zH Γ E ss D } σ G):zH Γ E (.cons s ss) D σ G:=h
theorem stn {Γ:Ctx3} {E:XQ} {D:End3} {σ:jM} {G:Hw} (h:D.nx σ G):zH Γ E .nil D σ G:=h
theorem tyL {G:Hw} {o:Addr} {l:List W} (e:G o=some (.lst l)):tyW G (.ref o) "list" := by simp only [tyW,e]
theorem dJ {G:Hw} {o:Addr} {l:List W} {y:W} {Q:Q3} (e:G o=some (.lst l)) (hl:l.length<1000) (h:Q .non (put G o (.lst (l++[y])))):dL (.ref o) [y] G Q:=by
 simp only [dL,e];exact ⟨by rw [sizeLine_eq];omega,h⟩
theorem ixL {G:Hw} {t:Addr} {xs:List W} {i:Int} {Q:Q3} (e:yU G t=some xs) (h:match tE xs i with|some w=>Q w G|none=>False):kY (.ref t) (.int i) G Q:=by
 unfold yU at e
 split at e
 .rename_i q;cases e;simp only [kY,q];exact h
 .rename_i q;cases e;simp only [kY,q];exact h
 .cases e
theorem qV {G:Hw} {t:Addr} {xs:List W} (e:G t=some (.lst xs)):yU G t=some xs:=by unfold yU;rw [e]
theorem pN {S:List Addr} {G G':Hw} {d l:Addr} (k:zI S G G') (hd:d∉S) (hl:l∉S) (D:jZ G d l):jZ G' d l:=by
 obtain ⟨x,y,z,D⟩:=D;exact ⟨x,y,z,k _ _ hd D.dic,k _ _ hl D.lst,D.s0,D.s1,D.n0,D.lf,D.len,D.ne⟩
theorem uD {G:Hw} {d l p:Addr} {o:O} (h:G p=none) (D:jZ G d l):jZ (put G p o) d l:=pN (S:=[]) (zI.new h) (by simp) (by simp) D
theorem deal0 {G G':Hw} {d l:Addr} (k:zI [] G G') (D:jZ G d l):jZ G' d l:=pN k (by simp) (by simp) D
theorem k0 {G G':Hw} (k:zI [] G G') {p:Addr} {o:O} (h:G p=some o):G' p=some o:=k _ _ (by simp) h
theorem newO {G:Hw} {p r:Addr} {o u:O} (hr:G r=none) (h:G p=some o):put G r u p=some o:=k0 (zI.new hr) h
theorem vB {G:Hw} {a p:Addr} {o:O} (e:G a=some o) (h:G p=none):a≠p:=fun z=>by rw [z,h] at e;cases e
theorem zby {G:Hw} {d l p:Addr} (D:jZ G d l) (h:G p=none):p∉[d,l]:=by
 obtain ⟨_,_,_,D⟩:=D;simp only [List.mem_cons,List.not_mem_nil,or_false,not_or];exact ⟨fun e=>(by rw [e,D.dic] at h;cases h),fun e=>(by rw [e,D.lst] at h;cases h)⟩
theorem kZ {S:List Addr} {G G':Hw} {p:Addr} {o:O} (k:zI S G G') (h:G p=none):zI S G (put G' p o):=fun a u ha e=>by
 rw [yK (vB e h)];exact k a u ha e
theorem hX {G:Hw} {d l p:Addr} {o:O} (h:p∉[d,l]) (D:jZ G d l):jZ (put G p o) d l:=by
 simp only [List.mem_cons,List.not_mem_nil,or_false,not_or] at h;exact pN (S:=[p]) (zI.put (by simp)) (by simpa using Ne.symm h.1) (by simpa using Ne.symm h.2) D
theorem addS {a b:Str} {G:Hw} {Q:Q3} (h:a.length+b.length<=3000) (q:Q (.str (a++b)) G):jF .Add (.str a) (.str b) G Q:=⟨sz _ h,q⟩
theorem at_2 {a b c:W} {l:List W}:tE (a::b::c::l) 2=some c:=by
 unfold tE;have:cN (a::b::c::l).length 2=some 2:=by simp [cN];omega
 rw [this];rfl
theorem zkJ {l:List W} {i:Int} (h0:0<=i) (h1:i<l.length):∃ w,w∈l/\tE l i=some w:=by
 have hi:i.toNat<l.length:=by omega
 refine ⟨l[i.toNat],List.getElem_mem hi,?_⟩;unfold tE cN;rw [if_pos h0,if_pos h1];exact List.getElem?_eq_getElem hi
def qZ:ISs->ISs
 | .cons _ ss=>ss
 | .nil=>.nil
theorem xS {G:Hw} {a b:Str}:eqG G (.str a) (.str b)=some (a==b):=by simp [eqG,pur,dep,wY]
section
variable {K : yL} {sA nA : Addr}
theorem fnAt {n:Nat} (i:Nat) (hi:i<n) {e:Fn3} (h:(fnL K sA nA)[i]?=some e):(yP K sA nA n).fn[i]?=some e:=by
 show ((fnL K sA nA).take n)[i]?=_;rw [List.getElem?_take_of_lt hi];exact h
theorem tO {n m:Nat} (i:Nat) (hn:m<=n) {e:Fn3} (h:(fnL K sA nA)[i]?=some e) (hi:i<m:=by decide):(yP K sA nA n).fn[i]?=some e:=fnAt i (Nat.lt_of_lt_of_le hi hn) h
end
abbrev abc:Str := "abcdefghijklmnopqrstuvwxyz"
theorem zba:abc.cps.toList.length=26:=by decide +kernel
theorem zkM:∀ c∈abc.cps.toList,ltB c=true:=by decide +kernel
theorem vE {a b:Str}:xM (a++b)=(xM a&&xM b):=by
 unfold xM;rw [Str.cps_append,Array.toList_append,List.all_append]
theorem zkd {i:Int} {G:Hw} {Q:Q3} (h0:0<=i) (h1:i<26) (h:∀ x:Str,x.length=1->xM x=true->Q (.str x) G):kY (.str abc) (.int i) G Q:=by
 have hi:i.toNat<abc.cps.toList.length:=by rw [zba];omega
 have e:tE abc.cps.toList i=some abc.cps.toList[i.toNat]:=by
  unfold tE cN;rw [if_pos h0,zba,if_pos (show i<((26:Nat):Int) from h1)];exact List.getElem?_eq_getElem hi
 simp only [kY,e];refine ⟨?_,h _ rfl ?_⟩
 .have:abc.length=26:=by rw [← zba];rfl
  rw [this];exact sz _ (by decide)
 .show [abc.cps.toList[i.toNat]].all ltB=true;rw [List.all_cons,zkM _ (List.getElem_mem hi)];rfl
theorem zcI {x:Str} {j:Int} (h0:0<=j) (h1:j<=x.length):(Txt.slice x none (some j)).cps.toList=x.cps.toList.take j.toNat:=by
 have e:Txt.slice x none (some j)=StrLaws.sliceText x none (some j):=rfl;rw [e,StrLaws.sliceText_to ⟨h0,by rw [Array.length_toList];exact h1⟩];simp
theorem zan {x:Str} {j:Int} (h0:0<=j) (h1:j<=x.length):(Txt.slice x (some j) none).cps.toList=x.cps.toList.drop j.toNat:=by
 have e:Txt.slice x (some j) none=StrLaws.sliceText x (some j) none:=rfl;rw [e,StrLaws.sliceText_from ⟨h0,by rw [Array.length_toList];exact h1⟩];have h2:j<=(x.cps.toList.length:Int):=by rw [Array.length_toList];exact h1
 show (((x.cps.toList.drop j.toNat).take _).toArray).toList=_;rw [List.toList_toArray];exact List.take_of_length_le (by rw [List.length_drop];omega)
theorem vK (x:Str):x.cps.toList.length=x.length:=by rw [Array.length_toList];rfl
theorem zik {x:Str} {j:Int} {G:Hw} {Q:Q3} (h0:0<=j) (h1:j<=x.length) (hx:x.length<=1000) (a:xM x=true) (q:∀ y:Str,y.length<=j.toNat->xM y=true->Q (.str y) G):slR (.str x) none (some j) G Q:=by
 refine ⟨sz _ (by omega),q _ ?_ ?_⟩
 .rw [← vK,zcI h0 h1,List.length_take];omega
 .unfold xM;rw [zcI h0 h1,List.all_eq_true];exact fun c hc=>List.all_eq_true.mp a c (List.mem_of_mem_take hc)
theorem zfP {x:Str} {j:Int} {G:Hw} {Q:Q3} (h0:0<=j) (h1:j<=x.length) (hx:x.length<=1000) (a:xM x=true) (q:∀ y:Str,y.length<=x.length-j.toNat->xM y=true->Q (.str y) G):slR (.str x) (some j) none G Q:=by
 refine ⟨sz _ (by omega),q _ ?_ ?_⟩
 .rw [← vK,zan h0 h1,List.length_drop,vK];omega
 .unfold xM;rw [zan h0 h1,List.all_eq_true];exact fun c hc=>List.all_eq_true.mp a c (List.mem_of_mem_drop hc)
theorem zjR:xM "" = true:=by decide +kernel
theorem zdF:∀ {ts:List Str},(∀ x∈ts,xM x=true)->xM (Str.join "" ts)=true
 | [],_=>by decide +kernel
 | [x],h=>h x zzT
 |x::y::r,h=>by
  show xM (x ++ "" ++ Str.join "" (y::r))=true;rw [vE,vE,h x zzT,zjR,zdF fun z hz=>h z (List.mem_cons_of_mem _ hz)];rfl
theorem zfu {ts:List Str} (h:∀ x∈ts,x.length<=1) (g:∀ x∈ts,xM x=true) (hn:ts.length<=4):JoinOk "" ts=true/\(Txt.join "" ts).length<=4/\xM (Txt.join "" ts)=true:=by
 have e:("" : Str).length=0:=by decide +kernel
 refine ⟨?_,?_,?_⟩
 .unfold JoinOk;rw [StrLaws.joinFits h (by rw [e];omega)];rfl
 .have h1:=StrLaws.join_length_le "" ts;have h2:=StrLaws.sumLen_le ts h;rw [e] at h1;rw [show Txt.join "" ts=Str.join "" ts from StrLaws.glued_eq_join "" ts];refine Nat.le_trans h1 ?_;omega
 .rw [show Txt.join "" ts=Str.join "" ts from StrLaws.glued_eq_join "" ts];exact zdF g
theorem zhy {x:Str} (h1:1<=x.length) (h6:x.length<=6) (a:xM x=true) (n:x∉bO):sU x=true:=by
 unfold sU;rw [decide_eq_true h1,decide_eq_true h6,a,show bO.contains x=false by simpa using n];rfl
theorem no_q {x:Str} (h:x∈bO):x ++ "q" ∉ bO:=by
 revert h;have:∀ y∈bO,y ++ "q" ∉ bO:=by decide +kernel
 exact this x
theorem zjL {x:Str} (h:x∈bO):x.length<=4:=by
 have:∀ y∈bO,y.length<=4:=by decide +kernel
 exact this x h
theorem no_z {x:Str}:x ++ "z" ∉ bO:=fun h=>by
 have l:∀ y∈bO,y.cps.toList.getLast?≠some 122:=by decide +kernel
 refine l _ h ?_;rw [Str.cps_append,Array.toList_append,show ("z" : Str).cps.toList=[122] by decide +kernel];simp
theorem zgF {x:Str}:((bO.map W.str).any fun w=>wY w (.str x))=bO.contains x:=by
 rw [List.any_map,List.contains_eq_any_beq];congr 1
 funext y
 simp only [Function.comp,wY];exact Bool.beq_comm
section
variable {K : yL} {sA nA : Addr}
theorem zdm {n:Nat} (hn:7<=n) {ws:List W} {G:Hw} {Q:Q3} (h:mH ws G Q XN):zH (yP K sA nA n) XN wO { nx:=fun _ G'=>Q .non G',rt:=Q } (yO uI ws) G:=by
 obtain ⟨d,l,m,rfl,D,m1,m4,h⟩:=h;have e1:(yP K sA nA n).fn[1]?=some eLen:=tO 1 hn rfl;have e6:(yP K sA nA n).fn[6]?=some zd1:=tO 6 hn rfl;have t1:(yP K sA nA n).mt[1]?=some zd0:=rfl;have t2:(yP K sA nA n).mt[2]?=some mR:=rfl;have i0:(yP K sA nA n).it[0]?=some eRng:=rfl;have z0:=sz 0 (by decide);have z4:=sz 4 (by decide);have q1:("q" : Str).length=1:=by decide +kernel
 have q2:xM "q" = true:=by decide +kernel
 have w1:("z" : Str).length=1:=by decide +kernel
 have w2:xM "z" = true:=by decide +kernel
 show zH (yP K sA nA n) XN wO { nx:=fun _ G'=>Q .non G',rt:=Q } [some (.ref d),some (.int m),none,none,none,none,none,none,none] G
 have go:∀ (G1:Hw) (p:Addr) (core:Str),core.length<=4->xM core=true->G p=none->p∉[d,l]->zI [d,l] G G1->jZ G1 d l->G1 p=some (.lst []) ->
   zH (yP K sA nA n) XN (qZ (qZ (qZ wO))) { nx:=fun _ G'=>Q .non G',rt:=Q } [some (.ref d),some (.int m),some (.str abc),some (.ref p),some (.str core),none,none,none,none] G1:=by
  intro G1 p core hc hg hpn hp k1 D1 gp;simp only [wO,qZ];refine yQ ?_
  ((try dsimp only [zO,zS,zM,zG,yZ,yW,yV,zP,zV,zN,zW,zY,zR,zQ,zJ,zL,yX,zK,gZ,gS,tZ,tS]);try simp only [e1,e6,mU,mW,sz _ (show core.length<=3000 by omega),if_true,jF])
  refine ⟨d,l,core.length+1,rfl,D1,⟨by omega,by omega⟩,fun at' G2 a0 a1 k2 D2=>?_⟩;have gp2:=k2 _ _ hp gp;refine yQ ?_
  ((try dsimp only [zO,zS,zM,zG,yZ,yW,yV,zP,zV,zN,zW,zY,zR,zQ,zJ,zL,yX,zK,gZ,gS,tZ,tS]);try simp only [e6])
  refine ⟨d,l,26,rfl,D2,by decide,fun tn G3 tn0 tn1 k3 D3=>?_⟩;have gp3:=k3 _ _ hp gp2;have kG:=(k1.trans k2).trans k3;refine yQ ?_
  ((try dsimp only [zO,zS,zM,zG,yZ,yW,yV,zP,zV,zN,zW,zY,zR,zQ,zJ,zL,yX,zK,gZ,gS,tZ,tS]);try simp only [zR,i0])
  refine ⟨⟨by omega,by omega⟩,?_⟩;have len:((List.range m.toNat).map fun i:Nat=>W.int (i:Int)).length=m.toNat:=by simp
  refine ⟨fun i σ G'=>∃ (xs:List Str) (v7 v8:Option W),σ=[some (.ref d),some (.int m),some (.str abc),some (.ref p),some (.str core),some (.int at'),some (.int tn),v7,v8]/\G' p=some (.lst (xs.map .str))/\xs.length=i/\(∀ x∈xs,sU x=true/\x.length<=5/\xM x=true)/\zI [d,l] G G'/\jZ G' d l,
   ⟨[],none,none,rfl,gp3,rfl,by simp,kG,D3⟩,fun _ _ _ _ _=>trivial,?_,?_⟩
  .rintro i w σ G' hw ⟨xs,v7,v8,rfl,gx,hl,hs,kp,D'⟩;rw [List.getElem?_map] at hw;obtain ⟨i',hi',rfl⟩:=Option.map_eq_some_iff.mp hw;have him:i<m.toNat:=by have:=(List.getElem?_eq_some_iff.mp hi').1;simpa using this
   have hii:i'=i:=by
    have:=(List.getElem?_eq_some_iff.mp hi').2;rw [List.getElem_range] at this;exact this.symm
   subst hii;have him:i' < 4:=by omega
   refine yQ ?_
   (try dsimp only [zO,zS,zM,zG,yZ,yW,yV,zP,zV,zN,zW,zY,zR,zQ,zJ,zL,yX,zK,gZ,gS,tZ,tS])
   refine zik a0 (by omega) (by omega) hg fun y1 h1 s1=>?_;refine ⟨.inl ⟨by omega,by omega⟩,by decide,?_⟩;refine zkd (Int.emod_nonneg _ (by decide)) (Int.emod_lt_of_pos _ (by decide)) fun y2 h2 s2=>?_;refine addS (by omega) (zfP a0 (by omega) (by omega) hg fun y3 h3 s3=>addS (by rw [Str.length_append];omega) ?_);have hlen:((y1++y2)++y3).length<=5:=by rw [Str.length_append,Str.length_append];omega
   have hlen1:1<=((y1++y2)++y3).length:=by rw [Str.length_append,Str.length_append];omega
   have hsg:xM ((y1++y2)++y3)=true:=by rw [vE,vE,s1,s2,s3];rfl
   generalize (y1++y2)++y3=nm at hlen hlen1 hsg ⊢;refine yQ ?_
   ((try dsimp only [zO,zS,zM,zG,yZ,yW,yV,zP,zV,zN,zW,zY,zR,zQ,zJ,zL,yX,zK,gZ,gS,tZ,tS]);try simp only [yI,nI,L3.inR,zzB,if_false,zzC,zzL,zzA,Nat.reduceAdd,z4,true_and])
   refine ⟨⟨by simp [pur],by simp [wF,pur],by simp [jN,dep]⟩,?_⟩
   have app:∀ x:Str,sU x=true->x.length<=5->xM x=true->tyW G' (.ref p) "list" /\ dL (.ref p) [.str x] G' (fun _ G1=>∃ (xs':List Str) (v7 v8:Option W),[some (W.ref d),some (.int m),some (.str abc),some (.ref p),some (.str core),some (.int at'),some (.int tn),some (.int i'),some (.str x)]=[some (.ref d),some (.int m),some (.str abc),some (.ref p),some (.str core),some (.int at'),some (.int tn),v7,v8]/\G1 p=some (.lst (xs'.map .str))/\xs'.length=i'+1/\(∀ x∈xs',sU x=true/\x.length<=5/\xM x=true)/\zI [d,l] G G1/\jZ G1 d l):=by
    intro x hx hx5 hxs;refine ⟨tyL gx,dJ gx (by rw [zzM];omega) ⟨xs++[x],_,_,rfl,by rw [zX];simp,by simp [hl],fun y hy=>?_,kZ kp hpn,hX hp D'⟩⟩;rcases List.mem_append.mp hy with hy|hy
    .exact hs y hy
    .rw [zzO hy];exact ⟨hx,hx5,hxs⟩
   have en:([W.str "and", .str "or", .str "not", .str "then"].any fun w=>wY w (.str nm))=bO.contains nm:=zgF;rw [en]
   by_cases hno:nm∈bO
   .rw [if_pos (by simpa using hno)];refine yQ ?_
    (try dsimp only [zO,zS,zM,zG,yZ,yW,yV,zP,zV,zN,zW,zY,zR,zQ,zJ,zL,yX,zK,gZ,gS,tZ,tS])
    refine addS (by omega) ?_;refine stn ?_;refine yQ ?_
    ((try dsimp only [zO,zS,zM,zG,yZ,yW,yV,zP,zV,zN,zW,zY,zR,zQ,zJ,zL,yX,zK,gZ,gS,tZ,tS]);try simp only [t2])
    have:=zjL hno;exact app _ (zhy (by rw [Str.length_append];omega) (by rw [Str.length_append];omega) (by rw [vE,hsg,q2];rfl) (no_q hno)) (by rw [Str.length_append];omega) (by rw [vE,hsg,q2];rfl)
   .rw [if_neg (by simpa using hno)];refine stn ?_;refine yQ ?_
    ((try dsimp only [zO,zS,zM,zG,yZ,yW,yV,zP,zV,zN,zW,zY,zR,zQ,zJ,zL,yX,zK,gZ,gS,tZ,tS]);try simp only [t2])
    exact app _ (zhy hlen1 (by omega) hsg hno) hlen hsg
  .rintro σ G' ⟨xs,v7,v8,rfl,gx,hl,hs,kp,D'⟩;rw [len] at hl
   obtain ⟨x,r,rfl⟩:∃ x r,xs=x::r:=by
    cases xs with
    |nil=>simp at hl;omega
    |cons x r=>exact ⟨x,r,rfl⟩
   have hlr:r.length+1=m.toNat:=by simpa using hl
   have fin:∀ (ys:List Str) (G2:Hw),ys.length=m.toNat->(∀ y∈ys,sU y=true)->zI [d,l] G G2->jZ G2 d l->G2 p=some (.lst (ys.map .str))->∀ v7 v8:Option W,zH (yP K sA nA n) XN (.cons (.ret (.var 3)) .nil) { nx:=fun _ G'=>Q .non G',rt:=Q } [some (.ref d),some (.int m),some (.str abc),some (.ref p),some (.str core),some (.int at'),some (.int tn),v7,v8] G2:=by
    intro ys G2 hy hs2 k4 D4 g4 v7 v8;refine yQ ?_
    (try dsimp only [zO,zS,zM,zG,yZ,yW,yV,zP,zV,zN,zW,zY,zR,zQ,zJ,zL,yX,zK,gZ,gS,tZ,tS])
    refine h p ys G2 ?_ (by omega) hs2 hp g4 k4 D4;rintro rfl;simp at hy;omega
   refine yQ ?_
   ((try dsimp only [zO,zS,zM,zG,yZ,yW,yV,zP,zV,zN,zW,zY,zR,zQ,zJ,zL,yX,zK,gZ,gS,tZ,tS]);try simp only [yI,nK])
   by_cases hm:1<m
   .rw [if_pos (by simpa using hm)]
    ((try dsimp only [zO,zS,zM,zG,yZ,yW,yV,zP,zV,zN,zW,zY,zR,zQ,zJ,zL,yX,zK,gZ,gS,tZ,tS]);try simp only [e6])
    refine ⟨d,l,2,rfl,D',by decide,fun b G4 b0 b1 k4 D4=>?_⟩;have gx4:=k4 _ _ hp gx;simp only [jP]
    by_cases hb:b=1
    .rw [decide_eq_true hb,if_pos rfl];refine yQ ?_
     (try dsimp only [zO,zS,zM,zG,yZ,yW,yV,zP,zV,zN,zW,zY,zR,zQ,zJ,zL,yX,zK,gZ,gS,tZ,tS])
     refine ixL (yG gx4) ?_;rw [zzU,kQ];have hx:=hs x (by simp);refine addS (by omega) ?_;rw [zzU] at gx4;simp only [setR,gx4];have e0:cN (W.str x::r.map W.str).length 0=some 0:=by simp [cN]
     rw [e0];refine stn ?_;refine fin ((x ++ "z")::r) _ (by simpa using hlr) (fun y hy=>?_) (kZ (kp.trans k4) hpn) (hX hp D4) (by rw [zX];rfl) v7 v8;rcases List.mem_cons.mp hy with rfl|hy
     .exact zhy (by rw [Str.length_append];omega) (by rw [Str.length_append];omega) (by rw [vE,hx.2.2,w2];rfl) no_z
     .exact (hs y (List.mem_cons_of_mem _ hy)).1
    .rw [decide_eq_false hb,if_neg zzN];refine stn ?_;exact fin (x::r) _ hl (fun y hy=>(hs y hy).1) (kp.trans k4) D4 gx4 v7 v8
   .rw [if_neg (by simpa using hm),if_neg zzN];refine stn ?_;exact fin (x::r) _ hl (fun y hy=>(hs y hy).1) kp D' gx v7 v8
 simp only [wO,qZ] at go;simp only [wO];refine yQ ?_
 (try dsimp only [zO,zS,zM,zG,yZ,yW,yV,zP,zV,zN,zW,zY,zR,zQ,zJ,zL,yX,zK,gZ,gS,tZ,tS])
 refine yQ ?_
 ((try dsimp only [zO,zS,zM,zG,yZ,yW,yV,zP,zV,zN,zW,zY,zR,zQ,zJ,zL,yX,zK,gZ,gS,tZ,tS]);try simp only [List.length_nil,z0,true_and])
 intro p hp;have hpd:=zby D hp;have D1:=uD (o:=.lst []) hp D;have k1:zI [d,l] G (put G p (.lst [])):=zI.new hp;have gp:(put G p (.lst [])) p=some (.lst []):=zX;generalize put G p (.lst [])=G1 at D1 k1 gp ⊢;refine yQ ?_
 ((try dsimp only [zO,zS,zM,zG,yZ,yW,yV,zP,zV,zN,zW,zY,zR,zQ,zJ,zL,yX,zK,gZ,gS,tZ,tS]);try simp only [t1,e6,zR,zQ,i0])
 refine ⟨rfl,d,l,5,rfl,D1,by decide,fun j G2 j0 j5 k2 D2=>?_⟩;have gp2:=k2 _ _ hpd gp;refine ⟨⟨by omega,by omega⟩,?_⟩;have len:((List.range j.toNat).map fun i:Nat=>W.int (i:Int)).length=j.toNat:=by simp
 refine ⟨fun i acc G'=>∃ ts:List Str,acc=ts.map .str/\ts.length=i/\(∀ x∈ts,x.length<=1/\xM x=true)/\zI [d,l] G2 G'/\jZ G' d l,⟨[],rfl,rfl,by simp,zI.refl,D2⟩,?_,by rw [len];exact sz _ (by omega),?_,?_⟩
 .rintro i acc G' ⟨ts,rfl,rfl,_,_,_⟩ _;exact ⟨trivial,by simp⟩
 .rintro i w acc G' hw ⟨ts,rfl,hl,hs,kp,D'⟩;simp only [capS,List.length_cons,List.length_nil,List.replicate,zzU,zzV,List.cons_append,List.nil_append,List.append_nil]
  ((try dsimp only [zO,zS,zM,zG,yZ,yW,yV,zP,zV,zN,zW,zY,zR,zQ,zJ,zL,yX,zK,gZ,gS,tZ,tS]);try simp only [Option.join_some,if_true,e6])
  refine ⟨d,l,26,rfl,D',by decide,fun r G'' r0 r1 kp' D''=>zkd r0 r1 fun x hx sx=>?_⟩;refine ⟨ts++[x],by simp,by simp [hl],fun y hy=>?_,kp.trans kp',D''⟩;rcases List.mem_append.mp hy with hy|hy
  .exact hs y hy
  .rw [zzO hy,hx];exact ⟨zzR _,sx⟩
 .rintro acc G' ⟨ts,rfl,hl,hs,kp,D'⟩ r hr;have hl4:ts.length<=4:=by rw [hl,len];omega
  obtain ⟨jo,jl,js⟩:=zfu (fun x hx=>(hs x hx).1) (fun x hx=>(hs x hx).2) hl4;refine ⟨ts,yG zX,jo,?_⟩;have k3:zI [d,l] G' (put G' r (.lst (ts.map .str))):=zI.new hr;exact go _ p _ jl js hp hpd (((k1.trans k2).trans kp).trans k3) (uD hr D') (k3 _ _ hpd (kp _ _ hpd gp2))
end
theorem ziW {xs:List Str} {i:Int} (h0:0<=i) (h1:i<xs.length):∃ x∈xs,tE (xs.map W.str) i=some (.str x):=by
 obtain ⟨w,hw,e⟩:=zkJ (l:=xs.map W.str) h0 (by rw [zzM];exact h1);obtain ⟨x,hx,rfl⟩:=zzP hw;exact ⟨x,hx,e⟩
section
variable {K : yL} {sA nA : Addr}
theorem zdx {n:Nat} {ws:List W} {G:Hw} {Q:Q3} (h:wX (n+1) ws G Q XN):zH (kP K sA nA 8 ⟨"_law_large", wX n⟩) XN xZ { nx:=fun _ G'=>Q .non G',rt:=Q } (yO uH ws) G:=by
 obtain ⟨d,l,r,m,e,xs,rfl,D,hr,gr,hx,hxl,hnm,m1,m40,e0,en,h⟩:=h;have e1:(kP K sA nA 8 ⟨"_law_large", wX n⟩).fn[1]?=some eLen:=rfl;have e6:(kP K sA nA 8 ⟨"_law_large", wX n⟩).fn[6]?=some zd1:=rfl;have e8:(kP K sA nA 8 ⟨"_law_large", wX n⟩).fn[8]?=some ⟨"_law_large", wX n⟩:=rfl;have z2:=sz 2 (by decide);have z3:=sz 3 (by decide);have x0:0<xs.length:=List.length_pos_iff.mpr hx;show zH (kP K sA nA 8 ⟨"_law_large", wX n⟩) XN xZ { nx:=fun _ G'=>Q .non G',rt:=Q } [some (.ref d),some (.ref r),some (.int m),some (.int e),none,none,none,none] G;simp only [xZ];refine yQ ?_
 ((try dsimp only [zO,zS,zM,zG,yZ,yW,yV,zP,zV,zN,zW,zY,zR,zQ,zJ,zL,yX,zK,gZ,gS,tZ,tS]);try simp only [yI,jP])
 have say:zH (kP K sA nA 8 ⟨"_law_large", wX n⟩) XN (.cons (.ret (.tup (.cons (.con (.str "say")) (.cons (.ix (.var 1) (.call 6 (.cons (.var 0) (.cons (.call 1 (.cons (.var 1) .nil)) .nil)))) .nil)))) .nil) { nx:=fun _ G'=>Q .non G',rt:=Q } [some (.ref d),some (.ref r),some (.int m),some (.int e),none,none,none,none] G:=by
  refine yQ ?_
  ((try dsimp only [zO,zS,zM,zG,yZ,yW,yV,zP,zV,zN,zW,zY,zR,zQ,zJ,zL,yX,zK,gZ,gS,tZ,tS]);try simp only [e1,e6,mU,mW,gr,zzM])
  refine ⟨d,l,xs.length,rfl,D,⟨by omega,by omega⟩,fun i G1 i0 i1 kp D1=>?_⟩;obtain ⟨x,hxm,ex⟩:=ziW i0 i1;refine ixL (yG (kp _ _ hr gr)) ?_;rw [ex];exact ⟨z2,h (.say x) G1 (hnm x hxm) trivial (by show ((1:Nat):Int)<=m;omega) (by show ((0:Nat):Int)<=e;omega) kp D1⟩
 by_cases hm1:m=1
 .rw [decide_eq_true hm1,if_pos rfl,if_pos trivial];exact say
 rw [decide_eq_false hm1,if_neg zzN]
 by_cases he0:e=0
 .rw [decide_eq_true he0,if_pos rfl];exact say
 rw [decide_eq_false he0,if_neg zzN];refine stn ?_;refine yQ ?_
 ((try dsimp only [zO,zS,zM,zG,yZ,yW,yV,zP,zV,zN,zW,zY,zR,zQ,zJ,zL,yX,zK,gZ,gS,tZ,tS]);try simp only [e6])
 refine ⟨d,l,5,rfl,D,by decide,fun way G1 w0 w1 kp1 D1=>?_⟩;have gr1:=kp1 _ _ hr gr;refine yQ ?_
 ((try dsimp only [zO,zS,zM,zG,yZ,yW,yV,zP,zV,zN,zW,zY,zR,zQ,zJ,zL,yX,zK,gZ,gS,tZ,tS]);try simp only [yI,jP])
 have hnot:zH (kP K sA nA 8 ⟨"_law_large", wX n⟩) XN (.cons (.ret (.tup (.cons (.con (.str "not")) (.cons (.call 8 (.cons (.var 0) (.cons (.var 1) (.cons (.bin .Sub (.var 2) (.con (.int 1))) (.cons (.bin .Sub (.var 3) (.con (.int 1))) .nil))))) .nil)))) .nil) { nx:=fun _ G'=>Q .non G',rt:=Q } [some (.ref d),some (.ref r),some (.int m),some (.int e),some (.int way),none,none,none] G1:=by
  refine yQ ?_
  ((try dsimp only [zO,zS,zM,zG,yZ,yW,yV,zP,zV,zN,zW,zY,zR,zQ,zJ,zL,yX,zK,gZ,gS,tZ,tS]);try simp only [jF,e8])
  refine ⟨d,l,r,m-1,e-1,xs,rfl,D1,hr,gr1,hx,hxl,hnm,by omega,by omega,by omega,by omega,fun t G2 ht hk hs hd kp2 D2=>⟨z2,h (.neg t) G2 ht hk ?_ ?_ (kp1.trans kp2) D2⟩⟩
  .show ((t.size+1:Nat):Int)<=m;omega
  .show ((t.deep+1:Nat):Int)<=e;omega
 by_cases hm2:m=2
 .rw [decide_eq_true hm2,if_pos rfl,if_pos trivial];exact hnot
 rw [decide_eq_false hm2,if_neg zzN]
 by_cases hw:way=3
 .rw [decide_eq_true hw,if_pos rfl];exact hnot
 rw [decide_eq_false hw,if_neg zzN];refine stn ?_;refine yQ ?_
 ((try dsimp only [zO,zS,zM,zG,yZ,yW,yV,zP,zV,zN,zW,zY,zR,zQ,zJ,zL,yX,zK,gZ,gS,tZ,tS]);try simp only [e6,jF])
 refine ⟨d,l,m-2,rfl,D1,⟨by omega,by omega⟩,fun i G2 i0 i1 kp2 D2=>?_⟩;have gr2:=kp2 _ _ hr gr1;refine yQ ?_
 ((try dsimp only [zO,zS,zM,zG,yZ,yW,yV,zP,zV,zN,zW,zY,zR,zQ,zJ,zL,yX,zK,gZ,gS,tZ,tS]);try simp only [yI,jP])
 have rest:∀ f:Int,1<=f->f<=m-2->zH (kP K sA nA 8 ⟨"_law_large", wX n⟩) XN (qZ (qZ (qZ (qZ (qZ xZ))))) { nx:=fun _ G'=>Q .non G',rt:=Q } [some (.ref d),some (.ref r),some (.int m),some (.int e),some (.int way),some (.int f),none,none] G2:=by
  intro f f1 f2;simp only [xZ,qZ];refine yQ ?_
  ((try dsimp only [zO,zS,zM,zG,yZ,yW,yV,zP,zV,zN,zW,zY,zR,zQ,zJ,zL,yX,zK,gZ,gS,tZ,tS]);try simp only [jF,e8])
  refine ⟨d,l,r,f,e-1,xs,rfl,D2,hr,gr2,hx,hxl,hnm,by omega,by omega,by omega,by omega,fun a G3 oa na sa da kp3 D3=>?_⟩;have gr3:=kp3 _ _ hr gr2;refine yQ ?_
  ((try dsimp only [zO,zS,zM,zG,yZ,yW,yV,zP,zV,zN,zW,zY,zR,zQ,zJ,zL,yX,zK,gZ,gS,tZ,tS]);try simp only [e6,zzC,zzL,zzA,Nat.reduceAdd,z3,true_and])
  intro p hp;have D4:=uD (o:=.lst [.str "and", .str "or", .str "if"]) hp D3;have k4:zI [d,l] G3 (put G3 p (.lst [.str "and", .str "or", .str "if"])):=zI.new hp;have gp:(put G3 p (.lst [.str "and", .str "or", .str "if"])) p=some (.lst [.str "and", .str "or", .str "if"]):=zX;have gr4:=k4 _ _ hr gr3;have hpd:=zby D3 hp;generalize put G3 p (.lst [.str "and", .str "or", .str "if"])=G4 at D4 k4 gp gr4 ⊢;refine ⟨d,l,3,rfl,D4,by decide,fun k G5 k0 k3 kp5 D5=>?_⟩;have gr5:=kp5 _ _ hr gr4;have gp5:=kp5 _ _ hpd gp;have kp':=(((kp1.trans kp2).trans kp3).trans k4).trans kp5;refine ixL (yG gp5) ?_
  have fin:∀ j:Nat,j<=2->zH (kP K sA nA 8 ⟨"_law_large", wX n⟩) XN (qZ (qZ (qZ (qZ (qZ (qZ (qZ xZ))))))) { nx:=fun _ G'=>Q .non G',rt:=Q } [some (.ref d),some (.ref r),some (.int m),some (.int e),some (.int way),some (.int f),some a.w,some (.str (kw j))] G5:=by
   intro j hj;simp only [xZ,qZ];refine yQ ?_
   ((try dsimp only [zO,zS,zM,zG,yZ,yW,yV,zP,zV,zN,zW,zY,zR,zQ,zJ,zL,yX,zK,gZ,gS,tZ,tS]);try simp only [jF,e8])
   refine ⟨d,l,r,m-1-f,e-1,xs,rfl,D5,hr,gr5,hx,hxl,hnm,by omega,by omega,by omega,by omega,fun b G6 ob nb sb db kp6 D6=>⟨z3,h (.two j a b) G6 ⟨oa,ob⟩ ⟨hj,na,nb⟩ ?_ ?_ (kp'.trans kp6) D6⟩⟩
   .show ((a.size+b.size+1:Nat):Int)<=m;omega
   .show ((max a.deep b.deep+1:Nat):Int)<=e;omega
  simp only [xZ,qZ] at fin;have hc:k=0\/k=1\/k=2:=by omega
  rcases hc with rfl|rfl|rfl
  .rw [kQ];exact fin 0 (by decide)
  .rw [mP];exact fin 1 (by decide)
  .rw [at_2];exact fin 2 (by decide)
 simp only [xZ,qZ] at rest
 by_cases h4:way=4
 .rw [decide_eq_true h4,if_pos rfl];refine yQ ?_
  ((try dsimp only [zO,zS,zM,zG,yZ,yW,yV,zP,zV,zN,zW,zY,zR,zQ,zJ,zL,yX,zK,gZ,gS,tZ,tS]);try simp only [jF])
  refine ⟨⟨by decide,by decide⟩,?_⟩;exact rest _ (by show 1<=(m-1) / 2;omega) (by show (m-1) / 2<=m-2;omega)
 .rw [decide_eq_false h4,if_neg zzN];refine stn ?_;exact rest _ (by omega) (by omega)
end
theorem zkF {x:W} {r:List W}:mQ (x::r) (some 1) none=r:=by
 have e1:HT.wN (x::r).length 0 (some 1)=1:=by
  simp [HT.wN]
 have e2:HT.wN (x::r).length (x::r).length none=r.length+1:=by
  simp [HT.wN]
 unfold mQ;rw [e1,e2];simp
section
variable {K : yL} {sA nA : Addr}
theorem bY {Γ:Ctx3} {ws:List W} {G:Hw} {Q:Q3} (h:jY ws G Q XN):zH Γ XN kC { nx:=fun _ G'=>Q .non G',rt:=Q } (yO tT ws) G:=by
 obtain ⟨t,rfl,h⟩:=h;have z0:=sz 0 (by decide);show zH Γ XN kC { nx:=fun _ G'=>Q .non G',rt:=Q } [some t.w] G;simp only [kC];refine yQ ?_
 cases t with
 |say x =>
  ((try dsimp only [zO,zS,zM,zG,yZ,yW,yV,zP,zV,zN,zW,zY,zR,zQ,zJ,zL,yX,zK,gZ,gS,tZ,tS]);try simp only [Sy.w,kY,kQ,yI,xS,List.length_nil,z0,true_and,beq_self_eq_true,if_true])
  exact h
 |neg a =>
  have e:(("not" : Str) == "say")=false:=by decide +kernel
  ((try dsimp only [zO,zS,zM,zG,yZ,yW,yV,zP,zV,zN,zW,zY,zR,zQ,zJ,zL,yX,zK,gZ,gS,tZ,tS]);try simp only [Sy.w,kY,kQ,yI,xS,e,zzB,if_false,slR,zkF])
  exact h
 |two k a b =>
  ((try dsimp only [zO,zS,zM,zG,yZ,yW,yV,zP,zV,zN,zW,zY,zR,zQ,zJ,zL,yX,zK,gZ,gS,tZ,tS]);try simp only [Sy.w,kY,kQ,yI,xS,(jG k).1,zzB,if_false,slR,zkF])
  exact h
theorem zb2 {n:Nat} {ws:List W} {G:Hw} {Q:Q3} (h:uS sA ws G Q XN):zH (yP K sA nA n) XN kU { nx:=fun _ G'=>Q .non G',rt:=Q } (yO uJ ws) G:=by
 obtain ⟨t,rfl,ts,h⟩:=h;have t0:(yP K sA nA n).mt[0]?=some ePop:=rfl;have t2:(yP K sA nA n).mt[2]?=some mR:=rfl;have t3:(yP K sA nA n).mt[3]?=some eExt:=rfl;have s1:(yP K sA nA n).sx[1]?=some ⟨rvM,rvS⟩:=rfl;have s3:(yP K sA nA n).sx[2]?=some ⟨hcM "sides_of", hcS sA jY⟩:=rfl;have z0:=sz 0 (by decide);have z1:=sz 1 (by decide);show zH (yP K sA nA n) XN kU { nx:=fun _ G'=>Q .non G',rt:=Q } [some t.w,some (.ref sA),none,none,none] G;simp only [kU];refine yQ ?_
 ((try dsimp only [zO,zS,zM,zG,yZ,yW,yV,zP,zV,zN,zW,zY,zR,zQ,zJ,zL,yX,zK,gZ,gS,tZ,tS]);try simp only [List.length_nil,z0,true_and])
 intro pf hf;have kf:zI [] G (put G pf (.lst [])):=zI.new hf;have gf:(put G pf (.lst [])) pf=some (.lst []):=zX;generalize put G pf (.lst [])=G1 at kf gf ⊢;refine yQ ?_
 ((try dsimp only [zO,zS,zM,zG,yZ,yW,yV,zP,zV,zN,zW,zY,zR,zQ,zJ,zL,yX,zK,gZ,gS,tZ,tS]);try simp only [zzC,zzL,zzA,z1,true_and])
 intro pw hw;have kw':zI [] G1 (put G1 pw (.lst [t.w])):=zI.new hw;have gw:(put G1 pw (.lst [t.w])) pw=some (.lst [t.w]):=zX;have gf:=kw' _ _ (by simp) gf;have ne:pf≠pw:=fun e=>by rw [e,gw] at gf;cases gf
 have hw0:G pw=none:=kf.none (by simp) hw;have k2:zI [] G (put G1 pw (.lst [t.w])):=kf.trans kw';generalize put G1 pw (.lst [t.w])=G2 at k2 gw gf ⊢;refine yQ ?_;refine ⟨fun m σ G'=>∃ (fs st:List Sy) (v:Option W),σ=[some t.w,some (.ref sA),some (.ref pf),some (.ref pw),v]/\G' pf=some (.lst (fs.map Sy.w))/\G' pw=some (.lst (st.map Sy.w))/\zI [] G G'/\fs++wE st.reverse=pre t/\qN st=m,⟨_,[],[t],none,rfl,gf,gw,k2,by simp [wE],rfl⟩,?_⟩;rintro m σ G' ⟨fs,st,v,rfl,gf',gw',kp,hp,rfl⟩
 have hln:fs.length+qN st=t.size:=by
  have:=congrArg List.length hp;rw [zzW,jE] at this
  have e:(wE st.reverse).length=qN st:=by
   clear this hp gw' gf'
   induction st with
   |nil=>rfl
   |cons a st ih =>
    rw [List.reverse_cons,uM,zzW,ih,sI];simp [qN,wE];omega
  omega
 ((try dsimp only [zO,zS,zM,zG,yZ,yW,yV,zP,zV,zN,zW,zY,zR,zQ,zJ,zL,yX,zK,gZ,gS,tZ,tS]);try simp only [qO,gw'])
 by_cases hst:st=[]
 .subst hst;simp only [zzV,List.isEmpty_nil,Bool.not_true,zzB,if_false];refine yQ ?_
  (try dsimp only [zO,zS,zM,zG,yZ,yW,yV,zP,zV,zN,zW,zY,zR,zQ,zJ,zL,yX,zK,gZ,gS,tZ,tS])
  have e:fs=pre t:=by simpa [wE] using hp
  rw [e] at gf';exact h pf G' kp hf gf'
 .obtain ⟨ini,x,rfl⟩:∃ ini x,st=ini++[x]:=⟨st.dropLast,st.getLast hst,(List.dropLast_concat_getLast hst).symm⟩;have he:((ini++[x]).map Sy.w).isEmpty=false:=by simp
  simp only [he,Bool.not_false,if_true];rw [List.map_append,zzU,zzV] at gw';have hgx:(ini.map Sy.w++[x.w])[(ini.map Sy.w++[x.w]).length-1]?=some x.w:=by simp
  rw [gU,show qN [x]=x.size by simp [qN,wE,jE]] at hln;have l1:=sM ini;have l2:=zcL x;have l3:=sM (yC x);refine yQ ?_
  ((try dsimp only [zO,zS,zM,zG,yZ,yW,yV,zP,zV,zN,zW,zY,zR,zQ,zJ,zL,yX,zK,gZ,gS,tZ,tS]);try simp only [t0])
  refine ⟨tyL gw',?_⟩;simp only [gD,gw',hgx,List.dropLast_concat];have k3:zI [] G (put G' pw (.lst (ini.map Sy.w))):=kZ kp hw0;have gw3:(put G' pw (.lst (ini.map Sy.w))) pw=some (.lst (ini.map Sy.w)):=zX;have gf3:(put G' pw (.lst (ini.map Sy.w))) pf=some (.lst (fs.map Sy.w)):=by rw [yK ne];exact gf'
  generalize put G' pw (.lst (ini.map Sy.w))=G3 at k3 gw3 gf3 ⊢;refine yQ ?_
  ((try dsimp only [zO,zS,zM,zG,yZ,yW,yV,zP,zV,zN,zW,zY,zR,zQ,zJ,zL,yX,zK,gZ,gS,tZ,tS]);try simp only [t2])
  refine ⟨tyL gf3,dJ gf3 (by rw [zzM];omega) ?_⟩;have k4:zI [] G (put G3 pf (.lst (fs.map Sy.w++[x.w]))):=kZ k3 hf;have gf4:(put G3 pf (.lst (fs.map Sy.w++[x.w]))) pf=some (.lst (fs.map Sy.w++[x.w])):=zX;have gw4:(put G3 pf (.lst (fs.map Sy.w++[x.w]))) pw=some (.lst (ini.map Sy.w)):=by rw [yK (Ne.symm ne)];exact gw3
  generalize put G3 pf (.lst (fs.map Sy.w++[x.w]))=G4 at k4 gf4 gw4 ⊢;refine yQ ?_
  ((try dsimp only [zO,zS,zM,zG,yZ,yW,yV,zP,zV,zN,zW,zY,zR,zQ,zJ,zL,yX,zK,gZ,gS,tZ,tS]);try simp only [t3,s1,s3])
  refine ⟨tyL gw4,?_⟩;refine ⟨rfl,x,rfl,?_⟩;simp only [rvS,extS,gw4];refine ⟨sz _ (by rw [zzM,List.length_reverse,zzM];omega),?_⟩;refine stn ?_;refine ⟨qN (ini++(yC x).reverse),?_,fs++[x],ini++(yC x).reverse,_,rfl,?_,?_,kZ k4 hw0,?_,rfl⟩
  .have e:qN (yC x).reverse=qN (yC x):=by cases x<;>simp [yC,qN,wE]<;>omega
   rw [gU,gU,e,show qN [x]=x.size by simp [qN,wE,jE]];omega
  .rw [yK ne,gf4];simp
  .rw [zX,List.map_append,List.map_reverse]
  .rw [← hp,List.reverse_append,List.reverse_reverse,List.reverse_append,List.reverse_singleton,uM,uM,sI,sH x];simp
end
theorem ix0 {t:Sy} {G:Hw} {Q:Q3} (h:Q (.str (dE t)) G):kY t.w (.int 0) G Q:=by
 cases t<;>(simp only [Sy.w,kY,kQ];exact h)
theorem zkv (t:Sy):((bK.zip bV).lookup (dE t)).getD (.int 5)=.int (bd t):=by
 cases t with
 |say x=>show ((bK.zip bV).lookup ("say" : Str)).getD (.int 5)=.int 5;rfl
 |neg a=>show ((bK.zip bV).lookup ("not" : Str)).getD (.int 5)=.int 4;rfl
 |two k a b=>match k with
  | 0=>show ((bK.zip bV).lookup ("and" : Str)).getD (.int 5)=.int 3;rfl
  | 1=>show ((bK.zip bV).lookup ("or" : Str)).getD (.int 5)=.int 2;rfl
  |k+2=>show ((bK.zip bV).lookup ("if" : Str)).getD (.int 5)=.int 1;rfl
def ls:Sy->List Nat
 | .say _=>[]
 | .neg _=>[4]
 | .two k _ _=>[lA k,lB k]
theorem zkt {t:Sy} (h:yC t≠[]):(lK.zip lV).lookup (dE t)=some (.tup ((ls t).map fun n:Nat=>W.int n)):=by
 cases t with
 |say x=>exact absurd rfl h
 |neg a=>show (lK.zip lV).lookup ("not" : Str)=some (.tup [.int 4]);rfl
 |two k a b=>match k with
  | 0=>show (lK.zip lV).lookup ("and" : Str)=some (.tup [.int 3,.int 4]);rfl
  | 1=>show (lK.zip lV).lookup ("or" : Str)=some (.tup [.int 2,.int 3]);rfl
  |k+2=>show (lK.zip lV).lookup ("if" : Str)=some (.tup [.int 2,.int 1]);rfl
theorem zku (k:Nat):(wK.zip wV).lookup (kw k)=some (.str (bw k)):=by
 match k with
 | 0=>show (wK.zip wV).lookup ("and" : Str)=some (.str " and ");rfl
 | 1=>show (wK.zip wV).lookup ("or" : Str)=some (.str " or ");rfl
 |k+2=>show (wK.zip wV).lookup ("if" : Str)=some (.str " then ");rfl
def wr (t:Sy):List Str:=List.zipWith (fun n s=>bS n s (sh s)) (ls t) (yC t)
theorem zei (n:Nat) (a:Sy) (s:Str):(bS n a s).length<=s.length+2:=by
 unfold bS;split
 .rw [Str.length_append,Str.length_append,show ("(" : Str).length=1 by decide +kernel,show (")" : Str).length=1 by decide +kernel];omega
 .omega
theorem zfs {S:List Addr} {G G' G'':Hw} {p:Addr} (k:zI S G G') (k2:zI [p] G' G'') (h:G p=none):zI S G G'':=fun a u ha e=>k2 a u (by
 simp only [List.mem_cons,List.not_mem_nil,or_false];exact vB e h) (k a u ha e)
theorem zhH {t:Sy} (h:t.ok):∀ s∈yC t,s.ok/\s.size<t.size/\s.deep<t.deep:=by
 cases t with
 |say x=>simp [yC]
 |neg a=>intro s hs;rw [zzO hs];exact ⟨h,by simp only [Sy.size];omega,by simp only [Sy.deep];omega⟩
 |two k a b =>
  intro s hs;simp only [yC,List.mem_cons,List.not_mem_nil,or_false] at hs;rcases hs with rfl|rfl
  .exact ⟨h.1,by simp only [Sy.size];omega,by simp only [Sy.deep];omega⟩
  .exact ⟨h.2,by simp only [Sy.size];omega,by simp only [Sy.deep];omega⟩
theorem zfq (t:Sy):(yC t).length<=2:=by cases t<;>simp [yC]
theorem zjT (t:Sy):(ls t).length=(yC t).length:=by cases t<;>simp [yC,ls]
theorem l_p:("(" : Str).length=1:=by decide +kernel
theorem l_q:(")" : Str).length=1:=by decide +kernel
theorem l_not:("not " : Str).length=4:=by decide +kernel
theorem l_0:Str.empty.length=0:=rfl
theorem joinB {sep:Str} {ts:List Str} {n:Nat} (h:∀ y∈ts,y.length<=n) (hz:ts.length * n+ts.length * sep.length<=16777216):JoinOk sep ts=true:=by
 unfold JoinOk;rw [StrLaws.joinFits h hz];rfl
section
variable {K : yL} {sA nA : Addr}
theorem fV {Γ:Ctx3} {ws:List W} {G:Hw} {Q:Q3} (h:wB ws G Q XN):zH Γ XN uB { nx:=fun _ G'=>Q .non G',rt:=Q } (yO sF ws) G:=by
 obtain ⟨x,rfl,h⟩:=h;show zH Γ XN uB { nx:=fun _ G'=>Q .non G',rt:=Q } [some (Sy.say x).w] G;simp only [uB];refine yQ ?_
 ((try dsimp only [zO,zS,zM,zG,yZ,yW,yV,zP,zV,zN,zW,zY,zR,zQ,zJ,zL,yX,zK,gZ,gS,tZ,tS]);try simp only [Sy.w,kY,mP])
 exact h
theorem zeO {n:Nat} (hn:13<=n) {ws:List W} {G:Hw} {Q:Q3} (h:zbl ws G Q XN):zH (yP K sA nA n) XN qT { nx:=fun _ G'=>Q .non G',rt:=Q } (yO vV ws) G:=by
 obtain ⟨t,rfl,ok,ts,h⟩:=h;have e12:(yP K sA nA n).fn[12]?=some ⟨"show_joined", mL sA nA⟩:=tO 12 hn rfl;have g12:(yP K sA nA n).gl[12]?=some (("sides_of" : Str),W.ref sA):=rfl;have g13:(yP K sA nA n).gl[13]?=some (("name_of" : Str),W.ref nA):=rfl;show zH (yP K sA nA n) XN qT { nx:=fun _ G'=>Q .non G',rt:=Q } [some t.w] G;simp only [qT];refine yQ ?_
 ((try dsimp only [zO,zS,zM,zG,yZ,yW,yV,zP,zV,zN,zW,zY,zR,zQ,zJ,zL,yX,zK,gZ,gS,tZ,tS]);try simp only [e12,g12,g13])
 exact ⟨t,rfl,ok,ts,h⟩
end
theorem ziF:∀ t:Sy,t.ok->∀ k∈tw t,tkOk k:=by
 have hb:∀ (n:Nat) (a:Sy),(∀ k∈tw a,tkOk k)->∀ k∈br n a (tw a),tkOk k:=fun n a h k hk=>by
  unfold br at hk
  split at hk
  .rcases List.mem_cons.mp hk with rfl|hk
   .trivial
   .rcases List.mem_append.mp hk with hk|hk
    .exact h k hk
    .rw [zzO hk];trivial
  .exact h k hk
 intro t
 induction t with
 |say x=>intro h k hk;rw [zzO hk];exact h
 |neg a ih =>
  intro h k hk;rcases List.mem_cons.mp hk with rfl|hk
  .trivial
  .exact hb 4 a (ih h) k hk
 |two j a b ia ib =>
  intro h k hk;rcases List.mem_append.mp hk with hk|hk
  .exact hb _ a (ia h.1) k hk
  .rcases List.mem_cons.mp hk with rfl|hk
   .trivial
   .exact hb _ b (ib h.2) k hk
theorem dS {α:Type} {l:List α} {i:Nat} {x:α} (h:l[i]?=some x):l.drop i=x::l.drop (i+1):=by
 have hi:=(List.getElem?_eq_some_iff.mp h).1;rw [List.drop_eq_getElem_cons hi,(List.getElem?_eq_some_iff.mp h).2]
section
variable {K : yL} {sA nA : Addr}
theorem zj9 {n:Nat} {ws:List W} {G:Hw} {Q:Q3} (h:spJt ws G Q XN):zH (yP K sA nA n) XN qP { nx:=fun _ G'=>Q .non G',rt:=Q } (yO vQ ws) G:=by
 obtain ⟨t,p,ini,rfl,ok,ts,hk,li,gp,h⟩:=h;have t0:(yP K sA nA n).mt[0]?=some ePop:=rfl;have t1:(yP K sA nA n).mt[1]?=some zd0:=rfl;have t2:(yP K sA nA n).mt[2]?=some mR:=rfl;have i1:(yP K sA nA n).it[1]?=some eZpi:=rfl;have g3:(yP K sA nA n).gl[3]?=some (("SINGLE_BINDS" : Str),W.int 5):=rfl;have g4:(yP K sA nA n).gl[4]?=some (("LEAST" : Str),W.dcf lK lV):=rfl;have g5:(yP K sA nA n).gl[5]?=some (("BETWEEN" : Str),W.dcf wK wV):=rfl;have x10:(yP K sA nA n).sx[8]?=some ⟨fstM [some "not ", none],fstS [some "not ", none]⟩:=rfl;have x11:(yP K sA nA n).sx[9]?=some ⟨fstM [some "(", none,some ")"],fstS [some "(", none,some ")"]⟩:=rfl;have x12:(yP K sA nA n).sx[10]?=some ⟨gt2M "BINDS_saywrite", gt2S bK bV⟩:=rfl;have z0:=sz 0 (by decide);show zH (yP K sA nA n) XN qP { nx:=fun _ G'=>Q .non G',rt:=Q } [some (.str (dE t)),some (.tup ((yC t).map Sy.w)),some (.ref p),none,none,none,none] G;simp only [qP];refine yQ ?_
 ((try dsimp only [zO,zS,zM,zG,yZ,yW,yV,zP,zV,zN,zW,zY,zR,zQ,zJ,zL,yX,zK,gZ,gS,tZ,tS]);try simp only [List.length_nil,z0,true_and])
 intro q hq;have qp:q≠p:=fun e=>by rw [e,gp] at hq;cases hq
 have k1:zI [p] G (put G q (.lst [])):=zI.new hq;have gq:(put G q (.lst [])) q=some (.lst []):=zX;have gp1:=newO (u:=.lst []) hq gp;generalize put G q (.lst [])=G1 at k1 gq gp1 ⊢;refine yQ ?_
 ((try dsimp only [zO,zS,zM,zG,yZ,yW,yV,zP,zV,zN,zW,zY,zR,zQ,zJ,zL,yX,zK,gZ,gS,tZ,tS]);try simp only [i1,g4,kY,zkt hk])
 refine ⟨(yC t).map Sy.w,(ls t).map fun n:Nat=>W.int n,rfl,rfl,?_⟩;have kl:=zfq t;have ll:=zjT t;have len:(List.zipWith (fun a b=>W.tup [a,b]) ((yC t).map Sy.w) ((ls t).map fun n:Nat=>W.int n)).length=(yC t).length:=by rw [List.length_zipWith,zzM,zzM,ll,Nat.min_self]
 have hkk:=zhH ok;refine ⟨fun i σ G'=>∃ v4 v5 v6:Option W,σ=[some (.str (dE t)),some (.tup ((yC t).map Sy.w)),some (.ref p),some (.ref q),v4,v5,v6]/\G' q=some (.lst (((wr t).take i).map W.str))/\G' p=some (.lst (ini++(((yC t).drop i).map fun s=>W.str (sh s)).reverse))/\zI [p] G G',⟨none,none,none,rfl,gq,gp1,k1⟩,fun _ _ _ _ _=>⟨rfl,rfl⟩,?_,?_⟩
 .rintro i w σ G' hw ⟨v4,v5,v6,rfl,gq',gp',kp⟩;rw [List.getElem?_zipWith,List.getElem?_map,List.getElem?_map] at hw
  cases ek:(yC t)[i]? with
  |none=>rw [ek] at hw;simp at hw
  |some s =>
   cases el:(ls t)[i]? with
   |none=>rw [ek,el] at hw;simp at hw
   |some m =>
    rw [ek,el] at hw;have hw:W.tup [s.w,.int m]=w:=by simpa using hw
    subst hw;have es:(wr t)[i]?=some (bS m s (sh s)):=by unfold wr;rw [List.getElem?_zipWith,ek,el]
    have et:((wr t).take (i+1)).map W.str=((wr t).take i).map W.str++[.str (bS m s (sh s))]:=by
     have hi:=(List.getElem?_eq_some_iff.mp es).1;rw [List.take_succ_eq_append_getElem hi,(List.getElem?_eq_some_iff.mp es).2,List.map_append];rfl
    have hi:i<(yC t).length:=(List.getElem?_eq_some_iff.mp ek).1;have hs:=hkk s (List.mem_of_getElem? ek);have sl:=qL s hs.1;rw [dS ek,zzU,List.reverse_cons,← List.append_assoc] at gp';generalize hrest:ini++(((yC t).drop (i+1)).map fun s=>W.str (sh s)).reverse=rest at gp';have hgx:(rest++[W.str (sh s)])[(rest++[W.str (sh s)]).length-1]?=some (.str (sh s)):=by simp
    ((try dsimp only [zO,zS,zM,zG,yZ,yW,yV,zP,zV,zN,zW,zY,zR,zQ,zJ,zL,yX,zK,gZ,gS,tZ,tS]);try simp only [zzC,zzL,zzA,Nat.reduceAdd])
    refine yQ ?_
    ((try dsimp only [zO,zS,zM,zG,yZ,yW,yV,zP,zV,zN,zW,zY,zR,zQ,zJ,zL,yX,zK,gZ,gS,tZ,tS]);try simp only [t0])
    refine ⟨tyL gp',?_⟩;simp only [gD,gp',hgx,List.dropLast_concat];have gq2:(put G' p (.lst rest)) q=some (.lst (((wr t).take i).map W.str)):=by rw [yK qp];exact gq'
    have gp2:(put G' p (.lst rest)) p=some (.lst rest):=zX;have kp2:zI [p] G (put G' p (.lst rest)):=kp.trans (zI.put (by simp));generalize put G' p (.lst rest)=G2 at gq2 gp2 kp2 ⊢;have wl:((wr t).take i).length<=i:=by rw [List.length_take];omega
    refine yQ ?_
    ((try dsimp only [zO,zS,zM,zG,yZ,yW,yV,zP,zV,zN,zW,zY,zR,zQ,zJ,zL,yX,zK,gZ,gS,tZ,tS]);try simp only [t2])
    refine ⟨tyL gq2,ix0 ?_⟩
    ((try dsimp only [zO,zS,zM,zG,yZ,yW,yV,zP,zV,zN,zW,zY,zR,zQ,zJ,zL,yX,zK,gZ,gS,tZ,tS]);try simp only [g3,x12,gt2S,zkv,yI,nK])
    have fin:dL (.ref q) [.str (bS m s (sh s))] G2 fun _ G3=>∃ v4 v5 v6:Option W,[some (W.str (dE t)),some (.tup ((yC t).map Sy.w)),some (.ref p),some (.ref q),some s.w,some (.int m),some (.str (sh s))]=[some (.str (dE t)),some (.tup ((yC t).map Sy.w)),some (.ref p),some (.ref q),v4,v5,v6]/\G3 q=some (.lst (((wr t).take (i+1)).map W.str))/\G3 p=some (.lst rest)/\zI [p] G G3 :=
     dJ gq2 (by rw [zzM];omega) ⟨_,_,_,rfl,by rw [zX,et],by rw [yK (Ne.symm qp)];exact gp2,kZ kp2 hq⟩
    rw [← hrest] at fin;have c:decide ((bd s:Int)<(m:Int))=decide (bd s<m):=decide_eq_decide.mpr (by omega);simp only [c]
    by_cases hb:bd s<m
    .rw [decide_eq_true hb,if_pos rfl]
     ((try dsimp only [zO,zS,zM,zG,yZ,yW,yV,zP,zV,zN,zW,zY,zR,zQ,zJ,zL,yX,zK,gZ,gS,tZ,tS]);try simp only [x11])
     refine ⟨[sh s],rfl,?_,?_⟩
     .simp only [uW,strLen_append,l_p,l_q,l_0];omega
     .have e:uW [some "(", none,some ")"] [sh s]=bS m s (sh s):=by
       unfold bS;rw [if_pos hb];simp only [uW,zen,zeo]
      rw [e];exact fin
    .rw [decide_eq_false hb,if_neg zzN];have e:bS m s (sh s)=sh s:=by unfold bS;rw [if_neg hb]
     rw [e] at fin;exact fin
 .rintro σ G' ⟨v4,v5,v6,rfl,gq',gp',kp⟩;rw [len] at gq' gp';have hwl:(wr t).length=(yC t).length:=by unfold wr;rw [List.length_zipWith,ll,Nat.min_self]
  rw [List.take_of_length_le (by omega)] at gq';rw [List.drop_length,zzV,List.reverse_nil,List.append_nil] at gp';have fin:=h G' kp gp';refine yQ ?_
  cases t with
  |say x=>exact absurd rfl hk
  |neg a =>
   have hs:=hkk a (by simp [yC]);have sl:=qL a hs.1;have bl:=zei 4 a (sh a)
   ((try dsimp only [zO,zS,zM,zG,yZ,yW,yV,zP,zV,zN,zW,zY,zR,zQ,zJ,zL,yX,zK,gZ,gS,tZ,tS]);try simp only [dE,yI,xS,beq_self_eq_true,if_true])
   refine yQ ?_
   ((try dsimp only [zO,zS,zM,zG,yZ,yW,yV,zP,zV,zN,zW,zY,zR,zQ,zJ,zL,yX,zK,gZ,gS,tZ,tS]);try simp only [x10])
   refine ixL (qV gq') ?_;simp only [wr,ls,yC,List.zipWith_cons_cons,List.zipWith_nil_right,zzU,zzV,kQ];refine ⟨[bS 4 a (sh a)],rfl,?_,?_⟩
   .simp only [uW,strLen_append,l_not,l_0];omega
   .have e:uW [some "not ", none] [bS 4 a (sh a)]=sh (.neg a):=by simp only [uW,zen];rfl
    rw [e];exact fin
  |two k a b =>
   have ha:=hkk a (by simp [yC]);have hb:=hkk b (by simp [yC]);have sa:=qL a ha.1;have sb:=qL b hb.1;have ba:=zei (lA k) a (sh a);have bb:=zei (lB k) b (sh b)
   ((try dsimp only [zO,zS,zM,zG,yZ,yW,yV,zP,zV,zN,zW,zY,zR,zQ,zJ,zL,yX,zK,gZ,gS,tZ,tS]);try simp only [dE,yI,xS,(jG k).2.2.1,zzB,if_false])
   refine stn (yQ ?_)
   ((try dsimp only [zO,zS,zM,zG,yZ,yW,yV,zP,zV,zN,zW,zY,zR,zQ,zJ,zL,yX,zK,gZ,gS,tZ,tS]);try simp only [t1,g5,kY,zku])
   have hbw:(bw k).length<=6:=by
    match k with
    | 0=>decide +kernel
    | 1=>decide +kernel
    |k+2=>show (" then " : Str).length<=6;decide +kernel
   refine ⟨rfl,[bS (lA k) a (sh a),bS (lB k) b (sh b)],qV gq',joinB (n:=1000) ?_ ?_,?_⟩
   .intro y hy;simp only [List.mem_cons,List.not_mem_nil,or_false] at hy;rcases hy with rfl|rfl<;>omega
   .show 2 * 1000+2 * _<=_;omega
   .have e:Txt.join (bw k) [bS (lA k) a (sh a),bS (lB k) b (sh b)]=sh (.two k a b):=StrLaws.glued_eq_join (bw k) _;rw [e];exact fin
theorem zi0 {n:Nat} (hn:12<=n) {ws:List W} {G:Hw} {Q:Q3} (h:mL sA nA ws G Q XN):zH (yP K sA nA n) XN qS { nx:=fun _ G'=>Q .non G',rt:=Q } (yO vU ws) G:=by
 obtain ⟨t,rfl,ok,ts,h⟩:=h;have e10:(yP K sA nA n).fn[10]?=some ⟨"all_within", uS sA⟩:=tO 10 hn rfl;have e11:(yP K sA nA n).fn[11]?=some ⟨"joined_text", spJt⟩:=tO 11 hn rfl;have t2:(yP K sA nA n).mt[2]?=some mR:=rfl;have x1:(yP K sA nA n).sx[1]?=some ⟨rvM,rvS⟩:=rfl;have x3:(yP K sA nA n).sx[3]?=some ⟨hcM "joined_by", hcS sA jY⟩:=rfl;have x4:(yP K sA nA n).sx[4]?=some ⟨hcM "single_text", hcS nA wB⟩:=rfl;have z0:=sz 0 (by decide);show zH (yP K sA nA n) XN qS { nx:=fun _ G'=>Q .non G',rt:=Q } [some t.w,some (.ref sA),some (.ref nA),none,none,none] G;simp only [qS];refine yQ ?_
 ((try dsimp only [zO,zS,zM,zG,yZ,yW,yV,zP,zV,zN,zW,zY,zR,zQ,zJ,zL,yX,zK,gZ,gS,tZ,tS]);try simp only [List.length_nil,z0,true_and])
 intro p hp;have k1:zI [] G (put G p (.lst [])):=zI.new hp;have gp:(put G p (.lst [])) p=some (.lst []):=zX;generalize put G p (.lst [])=G1 at k1 gp ⊢;refine yQ ?_
 ((try dsimp only [zO,zS,zM,zG,yZ,yW,yV,zP,zV,zN,zW,zY,zR,zQ,zJ,zL,yX,zK,gZ,gS,tZ,tS]);try simp only [e10,x1])
 refine ⟨t,rfl,ts,fun r G2 k2 hr gr=>?_⟩;refine ⟨_,qV gr,fun r2 hr2=>?_⟩;have gp2:=newO (u:=.lst ((pre t).map Sy.w).reverse) hr2 (k0 k2 gp);have kk:zI [] G (put G2 r2 (.lst ((pre t).map Sy.w).reverse)):=(k1.trans k2).trans (zI.new hr2);have g2:(put G2 r2 (.lst ((pre t).map Sy.w).reverse)) r2=some (.lst ((pre t).map Sy.w).reverse):=zX;have rp:r2≠p:=fun e=>by rw [e,k0 k2 gp] at hr2;cases hr2
 generalize put G2 r2 (.lst ((pre t).map Sy.w).reverse)=G3 at gp2 kk g2 ⊢;simp only [kX,qV g2];have pl:=jE t;refine ⟨fun i σ G'=>∃ (fs:List Sy) (v4 v5:Option W),σ=[some t.w,some (.ref sA),some (.ref nA),some (.ref p),v4,v5]/\(pre t).drop (t.size-i)=wE fs/\G' p=some (.lst ((fs.map fun s=>W.str (sh s)).reverse))/\G' r2=some (.lst ((pre t).map Sy.w).reverse)/\zI [] G G',⟨[],none,none,rfl,by rw [Nat.sub_zero,← pl,List.drop_length];rfl,gp2,g2,kk⟩,?_,?_,?_⟩
 .rintro i σ G' ⟨fs,v4,v5,rfl,_,_,g,_⟩ _;exact qV g
 .rintro i w σ G' hw ⟨fs,v4,v5,rfl,hd,gp',g2',kp⟩
  have hi:i<t.size:=by
   have:=(List.getElem?_eq_some_iff.mp hw).1;rw [List.length_reverse,zzM,pl] at this;exact this
  rw [List.getElem?_reverse (by rw [zzM,pl];exact hi),zzM,pl,List.getElem?_map] at hw;obtain ⟨x,hx,rfl⟩:=Option.map_eq_some_iff.mp hw;have hx':(pre t)[t.size-(i+1)]?=some x:=by rw [← hx];congr 1;omega
  have hdx:=dS hx';rw [show t.size-(i+1)+1=t.size-i by omega,hd] at hdx;obtain ⟨r',rfl⟩:=zeA hdx;have okx:=(rA t ok x (List.mem_of_getElem? hx')).2;have szx:=(rA t ok x (List.mem_of_getElem? hx')).1
  have hlen:(yC x++r').length<=40:=by
   have h1:=sM (yC x++r');have h2:qN (yC x++r')=((pre t).drop (t.size-i)).length:=by rw [hd];rfl
   rw [List.length_drop,pl] at h2;omega
  rw [zzW] at hlen;have hnew:(pre t).drop (t.size-(i+1))=wE (x::r'):=by rw [hdx,jH]
  have fin:∀ (v:Option W) (G4:Hw),zI [p] G' G4->G4 p=some (.lst (r'.map fun s=>W.str (sh s)).reverse)->dL (.ref p) [.str (sh x)] G4 fun _ G5=>∃ (fs:List Sy) (v4 v5:Option W),[some t.w,some (.ref sA),some (.ref nA),some (.ref p),some x.w,v]=[some t.w,some (.ref sA),some (.ref nA),some (.ref p),v4,v5]/\(pre t).drop (t.size-(i+1))=wE fs/\G5 p=some (.lst ((fs.map fun s=>W.str (sh s)).reverse))/\G5 r2=some (.lst ((pre t).map Sy.w).reverse)/\zI [] G G5:=by
   intro v G4 k4 g4;refine dJ g4 (by rw [List.length_reverse,zzM];omega) ⟨x::r',_,_,rfl,hnew,by rw [zX,zzU,List.reverse_cons],?_,?_⟩
   .rw [yK rp];exact k4 _ _ (by simpa using rp) g2'
   .exact kZ (zfs kp k4 hp) hp
  refine yQ ?_
  ((try dsimp only [zO,zS,zM,zG,yZ,yW,yV,zP,zV,zN,zW,zY,zR,zQ,zJ,zL,yX,zK,gZ,gS,tZ,tS]);try simp only [x3])
  refine ⟨rfl,x,rfl,?_⟩;refine yQ ?_
  ((try dsimp only [zO,zS,zM,zG,yZ,yW,yV,zP,zV,zN,zW,zY,zR,zQ,zJ,zL,yX,zK,gZ,gS,tZ,tS]);try simp only [t2,qO])
  refine ⟨tyL gp',?_⟩
  by_cases hkx:yC x=[]
  .rw [hkx]
   cases x with
   |say y =>
    simp only [zzV,List.isEmpty_nil,Bool.not_true,zzB,if_false]
    ((try dsimp only [zO,zS,zM,zG,yZ,yW,yV,zP,zV,zN,zW,zY,zR,zQ,zJ,zL,yX,zK,gZ,gS,tZ,tS]);try simp only [x4])
    refine ⟨rfl,y,rfl,?_⟩;exact fin _ G' zI.refl (by simpa [yC] using gp')
   |neg a=>simp [yC] at hkx
   |two k a b=>simp [yC] at hkx
  .have he:((yC x).map Sy.w).isEmpty=false:=by
    cases hh:yC x with
    |nil=>exact absurd hh hkx
    |cons _ _=>rfl
   simp only [he,Bool.not_false,if_true];refine ix0 ?_
   ((try dsimp only [zO,zS,zM,zG,yZ,yW,yV,zP,zV,zN,zW,zY,zR,zQ,zJ,zL,yX,zK,gZ,gS,tZ,tS]);try simp only [e11])
   refine ⟨x,p,(r'.map fun s=>W.str (sh s)).reverse,rfl,okx,by omega,hkx,by rw [List.length_reverse,zzM];omega,by rw [gp',List.map_append,List.reverse_append],fun G4 k4 g4=>?_⟩;exact fin _ G4 k4 g4
 .rintro σ G' ⟨fs,v4,v5,rfl,hd,gp',g2',kp⟩;rw [List.length_reverse,zzM,pl,Nat.sub_self,List.drop_zero] at hd;have:fs=[t]:=gE (by rw [← hd,sI]);subst this;refine yQ ?_
  (try dsimp only [zO,zS,zM,zG,yZ,yW,yV,zP,zV,zN,zW,zY,zR,zQ,zJ,zL,yX,zK,gZ,gS,tZ,tS])
  refine ixL (qV gp') ?_;simp only [zzU,zzV,List.reverse_cons,List.reverse_nil,List.nil_append,kQ];exact h G' kp
end
theorem rT (a:Sy) (D:List Sy):Lw (a::D)=.lst ((D.map Sy.w).reverse++[a.w]):=by simp [Lw]
theorem rQ (w:Tk) (V:List Tk):Lk (w::V)=.lst ((V.map fun t=>W.str t.s).reverse++[.str w.s]):=by simp [Lk]
theorem zit {l:List W} {a:W}:tE (l++[a]) (-1)=some a:=by
 unfold tE;have:cN (l++[a]).length (-1)=some l.length:=by simp [cN];omega
 rw [this];simp
theorem popL {G:Hw} {o:Addr} {l:List W} {y:W} {Q:Q3} (e:G o=some (.lst (l++[y]))) (h:Q y (put G o (.lst l))):gD (.ref o) [] G Q:=by
 have hg:(l++[y])[(l++[y]).length-1]?=some y:=by simp
 simp only [gD,e,hg,List.dropLast_concat];exact h
theorem zgu (k:Nat):((jw k:Str) == "not")=false/\((jw k:Str) == ")")=false:=by
 match k with
 | 0=>exact ⟨by decide +kernel,by decide +kernel⟩
 | 1=>exact ⟨by decide +kernel,by decide +kernel⟩
 |k+2=>exact ⟨by show (("then" : Str) == "not")=false;decide +kernel,by show (("then" : Str) == ")")=false;decide +kernel⟩
theorem zfE (k:Nat):(mK.zip mV).lookup (jw k)=some (.str (kw k)):=by
 match k with
 | 0=>show (mK.zip mV).lookup ("and" : Str)=some (.str "and");rfl
 | 1=>show (mK.zip mV).lookup ("or" : Str)=some (.str "or");rfl
 |k+2=>show (mK.zip mV).lookup ("then" : Str)=some (.str "if");rfl
theorem zgv (k:Nat):(tK.zip tV).lookup (jw k)=some (.int (lA k)):=by
 match k with
 | 0=>show (tK.zip tV).lookup ("and" : Str)=some (.int 3);rfl
 | 1=>show (tK.zip tV).lookup ("or" : Str)=some (.int 2);rfl
 |k+2=>show (tK.zip tV).lookup ("then" : Str)=some (.int 2);rfl
theorem zgw:(tK.zip tV).lookup (Tk.s .rp)=some (.int 1):=by show (tK.zip tV).lookup (")" : Str)=some (.int 1);rfl
theorem zhZ {w:Tk} (h:isW w=true):(rK.zip rV).lookup w.s=some (.int (bin w)):=by
 match w,h with
 | .nt,_=>show (rK.zip rV).lookup ("not" : Str)=some (.int 4);rfl
 | .lp,_=>show (rK.zip rV).lookup ("(" : Str)=some (.int 0);rfl
 | .op 0,_=>show (rK.zip rV).lookup ("and" : Str)=some (.int 3);rfl
 | .op 1,_=>show (rK.zip rV).lookup ("or" : Str)=some (.int 2);rfl
 | .op (k+2),_=>show (rK.zip rV).lookup ("then" : Str)=some (.int 1);rfl
theorem pt_wf {w:Tk} {V:List Tk} {D:List Sy} (h:Wf D (w::V) 1) (hb:1<=bin w):Wf (pt w D) V 1/\((w=.nt/\1<=D.length)\/∃ k,w=.op k/\2<=D.length)/\(pt w D).length<=D.length:=by
 have hl:=h.len;have hw:=h.all w zzT;have ha:∀ x∈V,isW x=true:=fun x hx=>h.all x (List.mem_cons_of_mem _ hx)
 match w,hw,hb,hl with
 | .nt,_,_,hl =>
  cases D with
  |nil=>simp [ops] at hl
  |cons a D=>exact ⟨⟨by simpa [ops,pt] using hl,ha⟩,.inl ⟨rfl,by simp⟩,by simp [pt]⟩
 | .op k,_,_,hl =>
  match D,hl with
  | [],hl=>simp [ops] at hl
  | [a],hl=>simp [ops] at hl
  |b::a::D,hl=>exact ⟨⟨by simp only [ops,List.length_cons] at hl;simp only [pt,List.length_cons];omega,ha⟩,.inr ⟨k,rfl,by simp⟩,by simp [pt]⟩
 | .lp,_,hb,_=>exact absurd (show (1:Nat)<=0 from hb) (by decide)
theorem isi1 {K:yL} {x:W} {T' T:String} {b:Bool} {G:Hw} {Q:Q3} (h1:tyO G x=some T') (h2:PySem.W.kitOne K (.type T') (.type T)=some b) (h:Q (.bl b) G):isiS K [x,.ty T] G Q:=⟨T',b,h1,h2,h⟩
section
variable {K : yL} {sA nA : Addr}
theorem zg9 {n:Nat} {ws:List W} {G:Hw} {Q:Q3} (h:zeH ws G Q XN):zH (yP K sA nA n) XN jD { nx:=fun _ G'=>Q .non G',rt:=Q } (yO kT ws) G:=by
 obtain ⟨w,D,p,rfl,gp,ld,hc,h⟩:=h;have t0:(yP K sA nA n).mt[0]?=some ePop:=rfl;have t2:(yP K sA nA n).mt[2]?=some mR:=rfl;have g9:(yP K sA nA n).gl[9]?=some (("MADE" : Str),W.dcf mK mV):=rfl;have z2:=sz 2 (by decide);have z3:=sz 3 (by decide);show zH (yP K sA nA n) XN jD { nx:=fun _ G'=>Q .non G',rt:=Q } [some (.str w.s),some (.ref p),none] G;simp only [jD];rcases hc with ⟨rfl,h1⟩|⟨k,rfl,h1⟩
 .obtain ⟨a,D',rfl⟩:∃ a D',D=a::D':=by
   cases D with
   |nil=>simp at h1
   |cons a D'=>exact ⟨a,D',rfl⟩
  rw [List.length_cons] at ld;rw [rT] at gp;refine yQ ?_
  ((try dsimp only [zO,zS,zM,zG,yZ,yW,yV,zP,zV,zN,zW,zY,zR,zQ,zJ,zL,yX,zK,gZ,gS,tZ,tS]);try simp only [t0])
  refine ⟨tyL gp,popL gp ?_⟩;refine yQ ?_;have e:((Tk.nt).s==("not" : Str))=true:=by show (("not" : Str) == "not")=true;decide +kernel
  ((try dsimp only [zO,zS,zM,zG,yZ,yW,yV,zP,zV,zN,zW,zY,zR,zQ,zJ,zL,yX,zK,gZ,gS,tZ,tS]);try simp only [yI,xS,e,if_true])
  refine yQ ?_
  ((try dsimp only [zO,zS,zM,zG,yZ,yW,yV,zP,zV,zN,zW,zY,zR,zQ,zJ,zL,yX,zK,gZ,gS,tZ,tS]);try simp only [t2,zzC,zzL,zzA,Nat.reduceAdd,z2,true_and])
  refine ⟨tyL zX,dJ zX (by rw [List.length_reverse,zzM];omega) ?_⟩;refine h _ ((zI.put (by simp)).trans (zI.put (by simp))) ?_;rw [zX];show _=some (Lw (.neg a::D'));rw [rT];rfl
 .obtain ⟨b,a,D',rfl⟩:∃ b a D',D=b::a::D':=by
   match D,h1 with
   | [],h1=>simp at h1
   | [_],h1=>simp at h1
   |b::a::D',_=>exact ⟨b,a,D',rfl⟩
  rw [List.length_cons,List.length_cons] at ld;rw [rT] at gp;refine yQ ?_
  ((try dsimp only [zO,zS,zM,zG,yZ,yW,yV,zP,zV,zN,zW,zY,zR,zQ,zJ,zL,yX,zK,gZ,gS,tZ,tS]);try simp only [t0])
  refine ⟨tyL gp,popL gp ?_⟩;refine yQ ?_
  ((try dsimp only [zO,zS,zM,zG,yZ,yW,yV,zP,zV,zN,zW,zY,zR,zQ,zJ,zL,yX,zK,gZ,gS,tZ,tS]);try simp only [yI,xS,Tk.s,(zgu k).1,zzB,if_false])
  refine yQ ?_;have gp1:(put G p (.lst ((a::D').map Sy.w).reverse)) p=some (.lst ((D'.map Sy.w).reverse++[a.w])):=by rw [zX,zzU,List.reverse_cons]
  ((try dsimp only [zO,zS,zM,zG,yZ,yW,yV,zP,zV,zN,zW,zY,zR,zQ,zJ,zL,yX,zK,gZ,gS,tZ,tS]);try simp only [t0,t2,g9,kY,zfE,zzC,zzL,zzA,Nat.reduceAdd,z3,true_and])
  refine ⟨tyL gp1,?_⟩;refine ⟨tyL gp1,popL gp1 ?_⟩;refine dJ zX (by rw [List.length_reverse,zzM];omega) ?_;refine h _ (((zI.put (by simp)).trans (zI.put (by simp))).trans (zI.put (by simp))) ?_;rw [zX];show _=some (Lw (.two k a b::D'));rw [rT];rfl
theorem zez {n:Nat} (hn:16<=n) {ws:List W} {G:Hw} {Q:Q3} (h:gP ws G Q XN):zH (yP K sA nA n) XN vI { nx:=fun _ G'=>Q .non G',rt:=Q } (yO sW ws) G:=by
 obtain ⟨m,D,V,p,r,rfl,hm,pr,gp,gr,wf,ld,lv,h⟩:=h;have e19:(yP K sA nA n).fn[15]?=some ⟨"put_together", zeH⟩:=tO 15 hn rfl;have t0:(yP K sA nA n).mt[0]?=some ePop:=rfl;have g7:(yP K sA nA n).gl[7]?=some (("BINDS_sayread" : Str),W.dcf rK rV):=rfl;show zH (yP K sA nA n) XN vI { nx:=fun _ G'=>Q .non G',rt:=Q } [some (.int m),some (.ref p),some (.ref r)] G;simp only [vI];refine yQ ?_;refine ⟨fun j σ G'=>∃ (D':List Sy) (V':List Tk),σ=[some (.int m),some (.ref p),some (.ref r)]/\G' p=some (Lw D')/\G' r=some (Lk V')/\zI [p,r] G G'/\tl m D' V'=tl m D V/\Wf D' V' 1/\D'.length<=400/\V'.length=j,⟨_,D,V,rfl,gp,gr,zI.refl,rfl,wf,ld,rfl⟩,?_⟩;rintro j σ G' ⟨D',V',rfl,gp',gr',kp,et,wf',ld',rfl⟩
 cases V' with
 |nil =>
  have gr':G' r=some (.lst []):=gr'
  ((try dsimp only [zO,zS,zM,zG,yZ,yW,yV,zP,zV,zN,zW,zY,zR,zQ,zJ,zL,yX,zK,gZ,gS,tZ,tS]);try simp only [qO,gr',List.isEmpty_nil,Bool.not_true,zzB,if_false])
  refine stn ?_;have e:tl m D' []=(D',[]):=rfl;rw [e] at et;exact h G' kp (by rw [← et];exact gp') (by rw [← et];exact gr')
 |cons w V2 =>
  have hw:=wf'.all w zzT;rw [rQ] at gr';have he:((V2.map fun t=>W.str t.s).reverse++[W.str w.s]).isEmpty=false:=by simp
  ((try dsimp only [zO,zS,zM,zG,yZ,yW,yV,zP,zV,zN,zW,zY,zR,zQ,zJ,zL,yX,zK,gZ,gS,tZ,tS]);try simp only [qO,gr',he,Bool.not_false,if_true,kY,zit,g7,zhZ hw,yI,nK])
  have c:decide ((bin w:Int)>=(m:Int))=decide (m<=bin w):=decide_eq_decide.mpr (by omega);simp only [c]
  by_cases hb:m<=bin w
  .rw [decide_eq_true hb,if_pos rfl];have pw:=pt_wf wf' (by omega);refine yQ ?_
   ((try dsimp only [zO,zS,zM,zG,yZ,yW,yV,zP,zV,zN,zW,zY,zR,zQ,zJ,zL,yX,zK,gZ,gS,tZ,tS]);try simp only [e19,t0])
   refine ⟨tyL gr',popL gr' ?_⟩;have gp2:(put G' r (.lst (V2.map fun t=>W.str t.s).reverse)) p=some (Lw D'):=by rw [yK pr];exact gp'
   have k2:zI [p,r] G (put G' r (.lst (V2.map fun t=>W.str t.s).reverse)):=kp.trans (zI.put (by simp));have gr2:(put G' r (.lst (V2.map fun t=>W.str t.s).reverse)) r=some (Lk V2):=zX;generalize put G' r (.lst (V2.map fun t=>W.str t.s).reverse)=G2 at gp2 k2 gr2 ⊢;refine ⟨w,D',p,rfl,gp2,by omega,pw.2.1,fun G3 k3 g3=>?_⟩;refine stn ?_;refine ⟨V2.length,by simp,pt w D',V2,rfl,g3,k3 _ _ (by simpa using Ne.symm pr) gr2,k2.trans (fun a u ha e=>k3 a u (fun hz=>ha (by rw [zzO hz];simp)) e),?_,pw.1,by omega,rfl⟩;rw [← et,show tl m D' (w::V2)=tl m (pt w D') V2 by rw [tl,if_pos hb]]
  .rw [decide_eq_false hb,if_neg zzN];refine stn ?_;have e:tl m D' (w::V2)=(D',w::V2):=by rw [tl,if_neg hb]
   rw [e] at et;exact h G' kp (by rw [← et];exact gp') (by rw [← et];show _=some (Lk (w::V2));rw [rQ];exact gr')
theorem stk (K:yL) (sA nA:Addr) (n:Nat) {D:End3} {σ:jM} {G:Hw} (h:D.nx σ G):zH (yP K sA nA n) XN .nil D σ G:=h
theorem zeh {n:Nat} (hn:5<=n) {ws:List W} {G:Hw} {Q:Q3} (h:uR true ws G Q XN):zH (yP K sA nA n) XN jR { nx:=fun _ G'=>Q .non G',rt:=Q } (yO uK ws) G:=by
 obtain ⟨t,D,V,p,r,rfl,pr,gp,gr,gd,wf,ld,lv,h⟩:=h;have e4:(yP K sA nA n).fn[4]?=some (eIsi K):=tO 4 hn rfl;have t2:(yP K sA nA n).mt[2]?=some mR:=rfl;have g11:(yP K sA nA n).gl[11]?=some (("tuple" : Str),W.ty "tuple"):=rfl;have z2:=sz 2 (by decide);show zH (yP K sA nA n) XN jR { nx:=fun _ G'=>Q .non G',rt:=Q } [some (tv t),some (.ref p),some (.ref r)] G;simp only [jR]
 have wait:∀ t:Tk,t=.nt\/t=.lp->(∀ G',zI [p,r] G G'->G' p=some (Lw D)->G' r=some (Lk (t::V))->Q (.bl true) G')->zH (yP K sA nA n) XN jR { nx:=fun _ G'=>Q .non G',rt:=Q } [some (.str t.s),some (.ref p),some (.ref r)] G:=by
  intro t ht h;simp only [jR];refine yQ ?_
  ((try dsimp only [zO,zS,zM,zG,yZ,yW,yV,zP,zV,zN,zW,zY,zR,zQ,zJ,zL,yX,zK,gZ,gS,tZ,tS]);try simp only [e4,g11])
  refine isi1 (T' := "str") rfl (by rfl) ?_;simp only [qO,zzB,if_false];refine stk K sA nA n (yQ ?_);have em:([W.str "not", .str "("].any fun w=>wY w (.str t.s))=true:=by rcases ht with rfl|rfl<;>decide +kernel
  ((try dsimp only [zO,zS,zM,zG,yZ,yW,yV,zP,zV,zN,zW,zY,zR,zQ,zJ,zL,yX,zK,gZ,gS,tZ,tS]);try simp only [yI,nI,L3.inR,if_true,zzC,zzL,zzA,Nat.reduceAdd,z2,true_and])
  refine ⟨⟨by simp [pur],by simp [wF,pur],by simp [jN,dep]⟩,?_⟩;rw [em];simp only [Bool.not_true,zzB,if_false];refine stk K sA nA n (yQ ?_)
  ((try dsimp only [zO,zS,zM,zG,yZ,yW,yV,zP,zV,zN,zW,zY,zR,zQ,zJ,zL,yX,zK,gZ,gS,tZ,tS]);try simp only [t2])
  refine ⟨tyL gr,dJ gr (by rw [List.length_reverse,zzM];omega) ?_⟩;refine yQ ?_
  (try dsimp only [zO,zS,zM,zG,yZ,yW,yV,zP,zV,zN,zW,zY,zR,zQ,zJ,zL,yX,zK,gZ,gS,tZ,tS])
  exact h _ (zI.put (by simp)) (by rw [yK pr];exact gp) (by rw [zX,rQ])
 match t,gd,h with
 | .nm x,gd,h =>
  refine yQ ?_
  ((try dsimp only [zO,zS,zM,zG,yZ,yW,yV,zP,zV,zN,zW,zY,zR,zQ,zJ,zL,yX,zK,gZ,gS,tZ,tS]);try simp only [e4,g11])
  refine isi1 (T' := "tuple") rfl (by rfl) ?_;simp only [qO,if_true];refine yQ ?_
  ((try dsimp only [zO,zS,zM,zG,yZ,yW,yV,zP,zV,zN,zW,zY,zR,zQ,zJ,zL,yX,zK,gZ,gS,tZ,tS]);try simp only [t2])
  refine ⟨tyL gp,dJ gp (by rw [List.length_reverse,zzM];omega) ?_⟩;refine yQ ?_
  (try dsimp only [zO,zS,zM,zG,yZ,yW,yV,zP,zV,zN,zW,zY,zR,zQ,zJ,zL,yX,zK,gZ,gS,tZ,tS])
  refine h _ (zI.put (by simp)) ?_ (by rw [yK (Ne.symm pr)];exact gr);rw [zX];show _=some (Lw (.say x::D));rw [rT];rfl
 | .nt,_,h=>exact wait .nt (.inl rfl) h
 | .lp,_,h=>exact wait .lp (.inr rfl) h
theorem zks {n:Nat} (hn:17<=n) {ws:List W} {G:Hw} {Q:Q3} (h:uR false ws G Q XN):zH (yP K sA nA n) XN zbY { nx:=fun _ G'=>Q .non G',rt:=Q } (yO zdk ws) G:=by
 obtain ⟨t,D,V,p,r,rfl,pr,gp,gr,gd,wf,ld,lv,h⟩:=h;have e4:(yP K sA nA n).fn[4]?=some (eIsi K):=tO 4 hn rfl;have e20:(yP K sA nA n).fn[16]?=some ⟨"take_left", gP⟩:=tO 16 hn rfl;have t0:(yP K sA nA n).mt[0]?=some ePop:=rfl;have t2:(yP K sA nA n).mt[2]?=some mR:=rfl;have g8:(yP K sA nA n).gl[8]?=some (("TAKES" : Str),W.dcf tK tV):=rfl;have g11:(yP K sA nA n).gl[11]?=some (("tuple" : Str),W.ty "tuple"):=rfl;have wf:Wf D V 1:=wf;show zH (yP K sA nA n) XN zbY { nx:=fun _ G'=>Q .non G',rt:=Q } [some (tv t),some (.ref p),some (.ref r)] G;simp only [zbY]
 match t,gd,h with
 | .op k,gd,h =>
  show zH (yP K sA nA n) XN _ { nx:=fun _ G'=>Q .non G',rt:=Q } [some (.str (jw k)),some (.ref p),some (.ref r)] G;have tlk:=zbf (m:=lA k) V D;refine yQ ?_
  ((try dsimp only [zO,zS,zM,zG,yZ,yW,yV,zP,zV,zN,zW,zY,zR,zQ,zJ,zL,yX,zK,gZ,gS,tZ,tS]);try simp only [e4,g11])
  refine isi1 (T' := "str") rfl (by rfl) ?_;simp only [qO,zzB,if_false,g8,yI,nI,zgv,Option.isSome_some,Bool.not_true,if_true];refine stk K sA nA n (yQ ?_)
  ((try dsimp only [zO,zS,zM,zG,yZ,yW,yV,zP,zV,zN,zW,zY,zR,zQ,zJ,zL,yX,zK,gZ,gS,tZ,tS]);try simp only [e20,g8,kY,zgv])
  refine ⟨lA k,D,V,p,r,rfl,zgp k,pr,gp,gr,wf,by omega,by omega,fun G1 k1 gp1 gr1=>?_⟩;refine yQ ?_
  ((try dsimp only [zO,zS,zM,zG,yZ,yW,yV,zP,zV,zN,zW,zY,zR,zQ,zJ,zL,yX,zK,gZ,gS,tZ,tS]);try simp only [yI,xS,(zgu k).2,Bool.not_false,if_true])
  refine yQ ?_
  ((try dsimp only [zO,zS,zM,zG,yZ,yW,yV,zP,zV,zN,zW,zY,zR,zQ,zJ,zL,yX,zK,gZ,gS,tZ,tS]);try simp only [t2])
  refine ⟨tyL gr1,dJ gr1 (by rw [List.length_reverse,zzM];omega) ?_⟩;refine yQ ?_
  (try dsimp only [zO,zS,zM,zG,yZ,yW,yV,zP,zV,zN,zW,zY,zR,zQ,zJ,zL,yX,zK,gZ,gS,tZ,tS])
  refine h _ (k1.trans (zI.put (by simp))) (by rw [yK pr];exact gp1) ?_;rw [zX];show _=some (Lk (.op k::(tl (lA k) D V).2));rw [rQ];rfl
 | .rp,gd,h =>
  have gd:(tl 1 D V).2≠[]:=gd;show zH (yP K sA nA n) XN _ { nx:=fun _ G'=>Q .non G',rt:=Q } [some (.str (Tk.s .rp)),some (.ref p),some (.ref r)] G;refine yQ ?_
  ((try dsimp only [zO,zS,zM,zG,yZ,yW,yV,zP,zV,zN,zW,zY,zR,zQ,zJ,zL,yX,zK,gZ,gS,tZ,tS]);try simp only [e4,g11])
  refine isi1 (T' := "str") rfl (by rfl) ?_;simp only [qO,zzB,if_false,g8,yI,nI,zgw,Option.isSome_some,Bool.not_true,if_true];refine stk K sA nA n (yQ ?_)
  ((try dsimp only [zO,zS,zM,zG,yZ,yW,yV,zP,zV,zN,zW,zY,zR,zQ,zJ,zL,yX,zK,gZ,gS,tZ,tS]);try simp only [e20,g8,kY,zgw])
  refine ⟨1,D,V,p,r,rfl,zzR _,pr,gp,gr,wf,by omega,by omega,fun G1 k1 gp1 gr1=>?_⟩;replace h:∀ G',zI [p,r] G G'->G' p=some (Lw (tl 1 D V).1)->G' r=some (Lk ((tl 1 D V).2.drop 1))->Q (.bl false) G':=h;generalize tl 1 D V=u at gd gp1 gr1 h;obtain ⟨D',V'⟩:=u
  cases V' with
  |nil=>exact absurd rfl gd
  |cons w V' =>
   have gr1:G1 r=some (Lk (w::V')):=gr1;rw [rQ] at gr1;have e:((Tk.s .rp)==(")" : Str))=true:=by show ((")" : Str) == ")")=true;decide +kernel
   have he:((V'.map fun t=>W.str t.s).reverse++[W.str w.s]).isEmpty=false:=by simp
   refine yQ ?_
   ((try dsimp only [zO,zS,zM,zG,yZ,yW,yV,zP,zV,zN,zW,zY,zR,zQ,zJ,zL,yX,zK,gZ,gS,tZ,tS]);try simp only [yI,xS,e,Bool.not_true,zzB,if_false])
   refine stk K sA nA n (yQ ?_)
   ((try dsimp only [zO,zS,zM,zG,yZ,yW,yV,zP,zV,zN,zW,zY,zR,zQ,zJ,zL,yX,zK,gZ,gS,tZ,tS]);try simp only [qO,gr1,he,Bool.not_false,Bool.not_true,zzB,if_false])
   refine stk K sA nA n (yQ ?_)
   ((try dsimp only [zO,zS,zM,zG,yZ,yW,yV,zP,zV,zN,zW,zY,zR,zQ,zJ,zL,yX,zK,gZ,gS,tZ,tS]);try simp only [t0])
   refine ⟨tyL gr1,popL gr1 ?_⟩;refine yQ ?_
   (try dsimp only [zO,zS,zM,zG,yZ,yW,yV,zP,zV,zN,zW,zY,zR,zQ,zJ,zL,yX,zK,gZ,gS,tZ,tS])
   exact h _ (k1.trans (zI.put (by simp))) (by rw [yK pr];exact gp1) zX
end
theorem zjY {items:List W} {stab:Hw->Prop} {G:Hw} {turn:W->Hw->(Option W->Hw->Prop)->Prop} {Q:Q3} (g:Nat->Option W) (hl:items.length<=3000) (st:∀ G',zI [] G G'->stab G')
  (step:∀ i w G' (k:Option W->Hw->Prop),items[i]?=some w->zI [] G G'->(∀ G'',zI [] G G''->k (g i) G'')->turn w G' k)
  (fin:∀ G' r,zI [] G G'->G' r=none->Q (.ref r) (put G' r (.lst ((List.range items.length).filterMap g)))):lcR items stab G turn Q:=by
 refine ⟨fun i acc G'=>zI [] G G'/\acc=(List.range i).filterMap g,⟨zI.refl,rfl⟩,?_,sz _ hl,?_,?_⟩
 .rintro i acc G' ⟨k,rfl⟩ _;exact ⟨st G' k,Nat.le_trans (List.length_filterMap_le _ _) (Nat.le_of_eq List.length_range)⟩
 .rintro i w acc G' hw ⟨k,rfl⟩;refine step i w G' _ hw k fun G'' k'=>?_
  have e:(List.range (i+1)).filterMap g=(List.range i).filterMap g++(g i).toList:=by
   rw [List.range_succ,List.filterMap_append];cases h:g i<;>simp [h]
  cases hg:g i with
  |some x=>exact ⟨k',by rw [e,hg];rfl⟩
  |none=>exact ⟨k',by rw [e,hg];simp⟩
 .rintro acc G' ⟨k,rfl⟩ r hr;exact fin G' r k hr
theorem zdT {α:Type} (c:α->W) (f:α->Bool):∀ l:List α,l.filterMap (fun x=>if f x=true then some (c x) else none)=(l.filter f).map c
 | []=>rfl
 |x::l=>by
  have ih:=zdT c f l;rw [List.filterMap_cons,List.filter_cons]
  by_cases h:f x=true
  .rw [if_pos h,if_pos h,zzU,← ih]
  .rw [if_neg h,if_neg h,← ih]
theorem zjZ {α:Type} {items:List W} {stab:Hw->Prop} {G:Hw} {turn:W->Hw->(Option W->Hw->Prop)->Prop} {Q:Q3} (l:List α) (c:α->W) (f:α->Bool) (hi:items=l.map c) (hl:l.length<=3000) (st:∀ G',zI [] G G'->stab G')
  (step:∀ x∈l,∀ G' (k:Option W->Hw->Prop),zI [] G G'->(∀ G'',zI [] G G''->k (if f x=true then some (c x) else none) G'')->turn (c x) G' k)
  (fin:∀ G' r,zI [] G G'->G' r=none->Q (.ref r) (put G' r (.lst ((l.filter f).map c)))):lcR items stab G turn Q:=by
 subst hi
 have e:(List.range (l.map c).length).filterMap (fun i=>(l[i]?).bind fun x=>if f x=true then some (c x) else none)=(l.filter f).map c:=by
  rw [zzM,← zdT];have h:=List.filterMap_getElem?_range_length l
  conv=>rhs;rw [← h]
  rw [List.filterMap_filterMap]
 refine zjY (fun i=>(l[i]?).bind fun x=>if f x=true then some (c x) else none) (by rw [zzM];exact hl) st (fun i w G' k hw kp hk=>?_) (fun G' r kp hr=>by rw [e];exact fin G' r kp hr);rw [List.getElem?_map] at hw;obtain ⟨x,hx,rfl⟩:=Option.map_eq_some_iff.mp hw;rw [hx] at hk;exact step x (List.mem_of_getElem? hx) G' k kp hk
theorem hV {c:Nat}:∀ {l p:List Nat},p∈rG c l->p.length<=l.length
 | [],p,h=>by simp [rG] at h;subst h;exact zzR _
 |x::r,p,h=>by
  unfold rG at h
  split at h
  .rcases List.mem_cons.mp h with rfl|h
   .exact Nat.zero_le _
   .exact Nat.le_succ_of_le (hV h)
  .split at h
   .rename_i a t e;rcases List.mem_cons.mp h with rfl|h
    .exact Nat.succ_le_succ (hV (by rw [e];exact zzT))
    .exact Nat.le_succ_of_le (hV (by rw [e];exact List.mem_cons_of_mem _ h))
   .rename_i e;exact absurd e (zgD c r)
theorem ziX:(" " : Str)=⟨#[32]⟩:=by decide +kernel
theorem zeF {x w:Str} {c:Nat} (h:w∈Txt.split x ⟨#[c]⟩):w.length<=x.length:=by
 have:=List.mem_map_of_mem (f:=fun s:Str=>s.cps.toList) h;rw [cA] at this;have:=hV this;simpa [Str.length] using this
theorem ziB (x:Str):(Txt.split x " ").filter (fun w=>(w.length:Int) != 0)=wdS x:=by
 rw [ziX,zeG,wdS,wd,List.filter_map];show List.map mkS _=_;congr 1;apply List.filter_congr;intro l _;show ((l.toArray.size:Int) != 0)=!l.isEmpty;cases l<;>simp
 omega
theorem zjW {α:Type} {items:List W} {stab:Hw->Prop} {G:Hw} {turn:W->Hw->(Option W->Hw->Prop)->Prop} {Q:Q3} (l:List α) (c d:α->W) (hi:items=l.map c) (hl:l.length<=3000) (st:∀ G',zI [] G G'->stab G')
  (step:∀ x∈l,∀ G' (k:Option W->Hw->Prop),zI [] G G'->(∀ G'',zI [] G G''->k (some (d x)) G'')->turn (c x) G' k)
  (fin:∀ G' r,zI [] G G'->G' r=none->Q (.ref r) (put G' r (.lst (l.map d)))):lcR items stab G turn Q:=by
 subst hi
 have e:(List.range (l.map c).length).filterMap (fun i=>(l[i]?).map d)=l.map d:=by
  rw [zzM];have h:=List.filterMap_getElem?_range_length l
  conv=>rhs;rw [← h]
  rw [List.map_filterMap]
 refine zjY (fun i=>(l[i]?).map d) (by rw [zzM];exact hl) st (fun i w G' k hw kp hk=>?_) (fun G' r kp hr=>by rw [e];exact fin G' r kp hr);rw [List.getElem?_map] at hw;obtain ⟨x,hx,rfl⟩:=Option.map_eq_some_iff.mp hw;rw [hx] at hk;exact step x (List.mem_of_getElem? hx) G' k kp hk
theorem le_a (c:Nat):leS "a" ⟨#[c]⟩=decide (97<=c):=by
 unfold leS;show (!decide ([c]<("a" : Str).cps.toList))=_;rw [show ("a" : Str).cps.toList=[97] by decide +kernel,StrLaws.lt_cons_cons]
 by_cases h:c<97
 .simp [h]
 .simp [h,Nat.le_of_not_lt h]
theorem le_z (c:Nat):leS ⟨#[c]⟩ "z" = decide (c<=122):=by
 unfold leS;show (!decide (("z" : Str).cps.toList<[c]))=_;rw [show ("z" : Str).cps.toList=[122] by decide +kernel,StrLaws.lt_cons_cons]
 by_cases h:122<c
 .simp [h]
 .simp [h,Nat.le_of_not_lt h]
theorem bF {S:List Addr} {G G' G'':Hw} {p r:Addr} (k:zI S G G') (k2:zI [p,r] G' G'') (h:G p=none) (h2:G r=none):zI S G G'':=fun a u ha e=>k2 a u (by
 simp only [List.mem_cons,List.not_mem_nil,or_false,not_or];exact ⟨vB e h,vB e h2⟩) (k a u ha e)
theorem zeS (s:St) (l:List Tk) (t:Tk):run s (l++[t])=step (run s l) t:=by rw [zaJ];rfl
section
variable {K : yL} {sA nA : Addr}
theorem zcA {n:Nat} {ws:List W} {G:Hw} {Q:Q3} (h:spWB ws G Q XN):zH (yP K sA nA n) XN jJ { nx:=fun _ G'=>Q .non G',rt:=Q } (yO xT ws) G:=by
 obtain ⟨x,rfl,hx,h⟩:=h;have m3:(yP K sA nA n).mt[4]?=some zbR:=rfl;refine yQ ?_
 ((try dsimp only [zO,zS,zM,zG,yZ,yW,yV,zP,zV,zN,zW,zY,zR,zQ,zJ,zL,yX,zK,gZ,gS,tZ,tS]);try simp only [yO,xT,zzU,zzV,List.length_cons,List.length_nil,List.cons_append,List.nil_append,List.getElem?_cons_zero,List.getElem?_cons_succ,m3])
 refine ⟨rfl,by decide +kernel,by omega,fun r hr=>?_⟩;simp only [kX,qV zX];have hl:=cB x " ";refine zjZ (Txt.split x " ") W.str (fun w=>(w.length:Int) != 0) rfl (by omega) (fun G' k=>qV (k0 k zX)) (fun w hw G' k kp hk=>?_) (fun G' q kp hq=>?_)
 .have lw:w.length<=sizeLine:=sz _ (Nat.le_trans (zeF (by rw [ziX] at hw;exact hw)) (by omega));show (match qO G' (.str w) with|some b=>if b=true then k (some (.str w)) G' else k none G'|none=>False);have hk:=hk G' kp;simp only [qO,lw,if_true]
  by_cases e:((w.length:Int) != 0)=true
  .rw [if_pos e] at hk ⊢;exact hk
  .rw [if_neg e] at hk ⊢;exact hk
 .rw [ziB];exact h q _ (((zI.new hr).trans kp).trans (zI.new hq)) (zI.none ((zI.new hr).trans kp) (by simp) hq) zX
theorem ziC {n:Nat} (hn:23<=n) {ws:List W} {G:Hw} {Q:Q3} (h:spWA ws G Q XN):zH (yP K sA nA n) XN xL { nx:=fun _ G'=>Q .non G',rt:=Q } (yO wD ws) G:=by
 obtain ⟨x,rfl,hx,h⟩:=h;have e26:(yP K sA nA n).fn[22]?=some ⟨"words_between_blanks", spWB⟩:=tO 22 hn rfl;have x7:(yP K sA nA n).sx[5]?=some ⟨nO ")" " ) ", cV ")" " ) "⟩:=rfl;have x8:(yP K sA nA n).sx[6]?=some ⟨nO "(" " ( ", cV "(" " ( "⟩:=rfl;show zH (yP K sA nA n) XN xL { nx:=fun _ G'=>Q .non G',rt:=Q } [some (.str x)] G;simp only [xL];refine yQ ?_
 ((try dsimp only [zO,zS,zM,zG,yZ,yW,yV,zP,zV,zN,zW,zY,zR,zQ,zJ,zL,yX,zK,gZ,gS,tZ,tS]);try simp only [e26,x7,x8])
 have l1:(" ( " : Str).length=3:=by decide +kernel
 have l2:(" ) " : Str).length=3:=by decide +kernel
 have h1:(Txt.replace x "(" " ( ").length<=3 * x.length:=by
  rw [← pP,zgj,← pP x];exact zdV _
 have h2:(opn x).length<=3 * x.length:=by
  rw [← pP,zdg,← pP x];exact zgy _
 refine ⟨by rw [l1];omega,?_⟩;refine ⟨by rw [l2];omega,?_⟩;exact ⟨opn x,rfl,by omega,h⟩
theorem zhK {n:Nat} (hn:5<=n) {ws:List W} {G:Hw} {Q:Q3} (h:zeJ ws G Q XN):zH (yP K sA nA n) XN rH { nx:=fun _ G'=>Q .non G',rt:=Q } (yO fX ws) G:=by
 obtain ⟨x,rfl,nm,h⟩:=h;have e1:(yP K sA nA n).fn[1]?=some eLen:=tO 1 hn rfl;have e2:(yP K sA nA n).fn[2]?=some eAll:=tO 2 hn rfl;have e4:(yP K sA nA n).fn[4]?=some (eIsi K):=tO 4 hn rfl;have g0:(yP K sA nA n).gl[0]?=some (("LONGEST_NAME" : Str),W.int 6):=rfl;have g1:(yP K sA nA n).gl[1]?=some (("NO_NAMES" : Str),W.tup (bO.map .str)):=rfl;have g10:(yP K sA nA n).gl[10]?=some (("str" : Str),W.ty "str"):=rfl;have nm':=nm;simp only [sU,Bool.and_eq_true,decide_eq_true_eq,Bool.not_eq_true'] at nm';obtain ⟨⟨⟨h1,h6⟩,hno⟩,hal⟩:=nm';show zH (yP K sA nA n) XN rH { nx:=fun _ G'=>Q .non G',rt:=Q } [some (.str x)] G;simp only [rH];refine yQ ?_
 ((try dsimp only [zO,zS,zM,zG,yZ,yW,yV,zP,zV,zN,zW,zY,zR,zQ,zJ,zL,yX,zK,gZ,gS,tZ,tS]);try simp only [e4,g10])
 refine isi1 (T' := "str") rfl (by rfl) ?_;simp only [qO,Bool.not_true,zzB,if_false,yI,leR,e1,g0,mU,mW,sz _ (show x.length<=3000 by omega),if_true];have c1:decide ((1:Int)<=(x.length:Int))=true:=decide_eq_true (by omega);have c2:decide ((x.length:Int)<=6)=true:=decide_eq_true (by omega);simp only [c1,c2,if_true,Bool.not_true,zzB,if_false];refine stk K sA nA n (yQ ?_)
 ((try dsimp only [zO,zS,zM,zG,yZ,yW,yV,zP,zV,zN,zW,zY,zR,zQ,zJ,zL,yX,zK,gZ,gS,tZ,tS]);try simp only [yI,nI,L3.inR,g1,e2,if_true])
 refine ⟨⟨by simp [pur],by decide,Nat.le_trans (Nat.min_le_right _ _) (by simp [dep])⟩,?_⟩;rw [zgF];simp only [hno,Bool.not_false,if_true,kX];refine zaV (fun w=>match w with|.str y=>some (.bl (leS "a" y&&leS y "z"))|_=>none) trivial (by simp only [sgs,zzM,vK];exact sz _ (by omega)) ?_ ?_
 .intro w hw K' hK;obtain ⟨c,_,rfl⟩:=zzP hw;simp only [capS,List.length_cons,List.length_nil,List.replicate,zzV,List.append_nil]
  ((try dsimp only [zO,zS,zM,zG,yZ,yW,yV,zP,zV,zN,zW,zY,zR,zQ,zJ,zL,yX,zK,gZ,gS,tZ,tS]);try simp only [yI,leR,if_true])
  replace hK:K' (some (.bl (leS "a" ⟨#[c]⟩&&leS ⟨#[c]⟩ "z"))) G:=hK;revert hK;cases leS "a" ⟨#[c]⟩<;>simp
 .intro p hp;refine ⟨x.cps.toList.map ltB,?_,?_⟩
  .rw [yG zX];congr 1;unfold sgs;rw [List.filterMap_map,List.map_map];rw [← List.filterMap_eq_map];congr 1
   funext c
   simp only [Function.comp,le_a,le_z,ltB]
  .have e:(x.cps.toList.map ltB).all id=true:=by rw [List.all_map];exact hal
   dsimp only;rw [e];exact h _ (zI.new hp)
theorem in_j (k:Tk) (h:tkOk k):(jL.any fun w=>wY w (.str k.s))=(match k with|.nm _=>false|_=>true):=by
 cases k with
 |nm x =>
  have h:sU x=true:=h;have hl:=(vR h).2;simp only [sU,Bool.and_eq_true,Bool.not_eq_true'] at h;have hno:x∉bO:=by simpa using h.1.2
  have q:∀ y∈(["(", ")", "not", "and", "or", "then"]:List Str),(y==x)=false:=by
   intro y hy;rw [beq_eq_false_iff_ne];rintro rfl;have h2:∀ z∈(["(", ")", "not", "and", "or", "then"]:List Str),z∈bO\/∃ c∈z.cps.toList,c<97:=by decide +kernel
   rcases h2 y hy with h2|⟨c,hc,h3⟩
   .exact hno h2
   .have:=hl c hc;omega
  show (jL.any fun w=>wY w (.str x))=false;have ej:jL=(["(", ")", "not", "and", "or", "then"]:List Str).map W.str:=rfl;rw [ej,List.any_map,List.any_eq_false];intro y hy;simp only [Function.comp,wY];rw [q y hy]
  decide
 |lp=>show (jL.any fun w=>wY w (.str "("))=true;decide +kernel
 |rp=>show (jL.any fun w=>wY w (.str ")"))=true;decide +kernel
 |nt=>show (jL.any fun w=>wY w (.str "not"))=true;decide +kernel
 |op k=>match k with
  | 0=>show (jL.any fun w=>wY w (.str "and"))=true;decide +kernel
  | 1=>show (jL.any fun w=>wY w (.str "or"))=true;decide +kernel
  |k+2=>show (jL.any fun w=>wY w (.str "then"))=true;decide +kernel
theorem zja {n:Nat} (hn:21<=n) {ws:List W} {G:Hw} {Q:Q3} (h:spRW ws G Q XN):zH (yP K sA nA n) XN vH { nx:=fun _ G'=>Q .non G',rt:=Q } (yO sV ws) G:=by
 obtain ⟨k,rfl,ok,h⟩:=h;have e24:(yP K sA nA n).fn[20]?=some ⟨"is_name", zeJ⟩:=tO 20 hn rfl;have g6:(yP K sA nA n).gl[6]?=some (("JOINING" : Str),W.tup jL):=rfl;have z2:=sz 2 (by decide);show zH (yP K sA nA n) XN vH { nx:=fun _ G'=>Q .non G',rt:=Q } [some (.str k.s)] G;simp only [vH];refine yQ ?_
 ((try dsimp only [zO,zS,zM,zG,yZ,yW,yV,zP,zV,zN,zW,zY,zR,zQ,zJ,zL,yX,zK,gZ,gS,tZ,tS]);try simp only [g6,yI,nI,L3.inR,zzB,if_false])
 refine ⟨⟨by simp [pur],by decide,Nat.le_trans (Nat.min_le_right _ _) (by simp [dep])⟩,?_⟩;rw [in_j k ok]
 cases k with
 |nm x =>
  rw [if_neg zzN];refine stk K sA nA n (yQ ?_)
  ((try dsimp only [zO,zS,zM,zG,yZ,yW,yV,zP,zV,zN,zW,zY,zR,zQ,zJ,zL,yX,zK,gZ,gS,tZ,tS]);try simp only [e24])
  refine ⟨x,rfl,ok,fun G1 k1=>?_⟩;simp only [qO,Bool.not_true,zzB,if_false];refine stk K sA nA n (yQ ?_)
  ((try dsimp only [zO,zS,zM,zG,yZ,yW,yV,zP,zV,zN,zW,zY,zR,zQ,zJ,zL,yX,zK,gZ,gS,tZ,tS]);try simp only [zzC,zzL,zzA,Nat.reduceAdd,z2,true_and])
  exact h G1 k1
 |lp=>rw [if_pos rfl];refine yQ ?_;(try dsimp only [zO,zS,zM,zG,yZ,yW,yV,zP,zV,zN,zW,zY,zR,zQ,zJ,zL,yX,zK,gZ,gS,tZ,tS]);exact h G zI.refl
 |rp=>rw [if_pos rfl];refine yQ ?_;(try dsimp only [zO,zS,zM,zG,yZ,yW,yV,zP,zV,zN,zW,zY,zR,zQ,zJ,zL,yX,zK,gZ,gS,tZ,tS]);exact h G zI.refl
 |nt=>rw [if_pos rfl];refine yQ ?_;(try dsimp only [zO,zS,zM,zG,yZ,yW,yV,zP,zV,zN,zW,zY,zR,zQ,zJ,zL,yX,zK,gZ,gS,tZ,tS]);exact h G zI.refl
 |op j=>rw [if_pos rfl];refine yQ ?_;(try dsimp only [zO,zS,zM,zG,yZ,yW,yV,zP,zV,zN,zW,zY,zR,zQ,zJ,zL,yX,zK,gZ,gS,tZ,tS]);exact h G zI.refl
theorem zjc {n:Nat} (hn:19<=n) {ws:List W} {G:Hw} {Q:Q3} (h:spRJ ws G Q XN):zH (yP K sA nA n) XN qQ { nx:=fun _ G'=>Q .non G',rt:=Q } (yO vS ws) G:=by
 obtain ⟨t,m,q,rfl,ok,ts,gq,h⟩:=h;have e20:(yP K sA nA n).fn[16]?=some ⟨"take_left", gP⟩:=tO 16 hn rfl;have e21:(yP K sA nA n).fn[17]?=some ⟨"begin_side", uR true⟩:=tO 17 hn rfl;have e22:(yP K sA nA n).fn[18]?=some ⟨"go_on", uR false⟩:=tO 18 hn rfl;have z0:=sz 0 (by decide);have tl':=zf1 m t;show zH (yP K sA nA n) XN qQ { nx:=fun _ G'=>Q .non G',rt:=Q } [some (.ref q),none,none,none,none] G;simp only [qQ];refine yQ ?_
 ((try dsimp only [zO,zS,zM,zG,yZ,yW,yV,zP,zV,zN,zW,zY,zR,zQ,zJ,zL,yX,zK,gZ,gS,tZ,tS]);try simp only [List.length_nil,z0,true_and])
 intro p hp;have gq1:=newO (u:=.lst []) hp gq;have k1:zI [] G (put G p (.lst [])):=zI.new hp;have gp1:(put G p (.lst [])) p=some (.lst []):=zX;generalize put G p (.lst [])=G1 at gq1 k1 gp1 ⊢;refine yQ ?_
 ((try dsimp only [zO,zS,zM,zG,yZ,yW,yV,zP,zV,zN,zW,zY,zR,zQ,zJ,zL,yX,zK,gZ,gS,tZ,tS]);try simp only [List.length_nil,z0,true_and])
 intro r hr;have gq2:=newO (u:=.lst []) hr gq1;have gp2:=newO (u:=.lst []) hr gp1;have hr0:=k1.none (by simp) hr;have pr:p≠r:=fun e=>by rw [← e,gp1] at hr;cases hr
 have pq:q≠p:=vB gq hp;have rq:q≠r:=vB gq hr0;have k2:zI [] G (put G1 r (.lst [])):=k1.trans (zI.new hr);have gr2:(put G1 r (.lst [])) r=some (.lst []):=zX;generalize put G1 r (.lst [])=G2 at gq2 gp2 k2 gr2 ⊢;refine yQ ?_
 (try dsimp only [zO,zS,zM,zG,yZ,yW,yV,zP,zV,zN,zW,zY,zR,zQ,zJ,zL,yX,zK,gZ,gS,tZ,tS])
 refine yQ ?_
 ((try dsimp only [zO,zS,zM,zG,yZ,yW,yV,zP,zV,zN,zW,zY,zR,zQ,zJ,zL,yX,zK,gZ,gS,tZ,tS]);try simp only [kX,qV gq2])
 refine ⟨fun i σ G'=>∃ v:Option W,σ=[some (.ref q),some (.ref p),some (.ref r),some (.bl (run ([],[],true) ((tq m t).take i)).2.2),v]/\G' q=some (.lst ((tq m t).map tv))/\G' p=some (Lw (run ([],[],true) ((tq m t).take i)).1)/\G' r=some (Lk (run ([],[],true) ((tq m t).take i)).2.1)/\zI [] G G'/\WfS (run ([],[],true) ((tq m t).take i))/\LenS (run ([],[],true) ((tq m t).take i)) i,⟨none,rfl,gq2,gp2,gr2,k2,⟨rfl,by simp [run]⟩,⟨by simp [run],by simp [run]⟩⟩,?_,?_,?_⟩
 .rintro i σ G' ⟨v,rfl,g,_⟩ _;exact qV g
 .rintro i w σ G' hw ⟨v,rfl,gq',gp',gr',kp,wf,ln⟩;rw [List.getElem?_map] at hw;obtain ⟨x,hx,rfl⟩:=Option.map_eq_some_iff.mp hw;have hi:=(List.getElem?_eq_some_iff.mp hx).1;have et:(tq m t).take (i+1)=(tq m t).take i++[x]:=by rw [List.take_succ_eq_append_getElem hi,(List.getElem?_eq_some_iff.mp hx).2]
  have gd:Good (run ([],[],true) ((tq m t).take i)) x:=by
   have g:=zex m t ok;rw [← List.take_append_drop i (tq m t),dS hx] at g;exact ((tQ _ _ _).mp g).2.1
  simp only [et,zeS];have wf2:=zgN wf gd;have ln2:=zfl (t:=x) ln;generalize run ([],[],true) ((tq m t).take i)=s at *;obtain ⟨D,V,l⟩:=s;have l1:D.length<=i:=ln.1;have l2:V.length<=i:=ln.2
  have fin:∀ G3,zI [p,r] G' G3->G3 p=some (Lw (step (D,V,l) x).1)->G3 r=some (Lk (step (D,V,l) x).2.1)->∃ v:Option W,[some (W.ref q),some (.ref p),some (.ref r),some (.bl (step (D,V,l) x).2.2),some (tv x)]=[some (.ref q),some (.ref p),some (.ref r),some (.bl (step (D,V,l) x).2.2),v]/\G3 q=some (.lst ((tq m t).map tv))/\G3 p=some (Lw (step (D,V,l) x).1)/\G3 r=some (Lk (step (D,V,l) x).2.1)/\zI [] G G3/\WfS (step (D,V,l) x)/\LenS (step (D,V,l) x) (i+1) :=
   fun G3 k3 g3 h3=>⟨_,rfl,k3 _ _ (by simp only [List.mem_cons,List.not_mem_nil,or_false,not_or];exact ⟨pq,rq⟩) gq',g3,h3,bF kp k3 hp hr0,wf2,ln2⟩
  refine yQ ?_
  cases l with
  |true =>
   ((try dsimp only [zO,zS,zM,zG,yZ,yW,yV,zP,zV,zN,zW,zY,zR,zQ,zJ,zL,yX,zK,gZ,gS,tZ,tS]);try simp only [qO,if_true])
   refine yQ ?_
   ((try dsimp only [zO,zS,zM,zG,yZ,yW,yV,zP,zV,zN,zW,zY,zR,zQ,zJ,zL,yX,zK,gZ,gS,tZ,tS]);try simp only [e21])
   exact ⟨x,D,V,p,r,rfl,pr,gp',gr',gd,wf,by omega,by omega,fun G3 k3 g3 h3=>fin G3 k3 g3 h3⟩
  |false =>
   ((try dsimp only [zO,zS,zM,zG,yZ,yW,yV,zP,zV,zN,zW,zY,zR,zQ,zJ,zL,yX,zK,gZ,gS,tZ,tS]);try simp only [qO,zzB,if_false])
   refine yQ ?_
   ((try dsimp only [zO,zS,zM,zG,yZ,yW,yV,zP,zV,zN,zW,zY,zR,zQ,zJ,zL,yX,zK,gZ,gS,tZ,tS]);try simp only [e22])
   exact ⟨x,D,V,p,r,rfl,pr,gp',gr',gd,wf,by omega,by omega,fun G3 k3 g3 h3=>fin G3 k3 g3 h3⟩
 .rintro σ G' ⟨v,rfl,gq',gp',gr',kp,wf,ln⟩;rw [zzM,List.take_length] at *;obtain ⟨D,V,e,et⟩:=tq_rd m t;rw [e] at wf ln gp' gr' ⊢;have l1:D.length<=(tq m t).length:=ln.1;have l2:V.length<=(tq m t).length:=ln.2;refine yQ ?_
  ((try dsimp only [zO,zS,zM,zG,yZ,yW,yV,zP,zV,zN,zW,zY,zR,zQ,zJ,zL,yX,zK,gZ,gS,tZ,tS]);try simp only [qO,zzB,if_false])
  refine stk K sA nA n (yQ ?_)
  ((try dsimp only [zO,zS,zM,zG,yZ,yW,yV,zP,zV,zN,zW,zY,zR,zQ,zJ,zL,yX,zK,gZ,gS,tZ,tS]);try simp only [e20])
  refine ⟨1,D,V,p,r,rfl,zzR _,pr,gp',gr',wf,by omega,by omega,fun G3 k3 g3 h3=>?_⟩;rw [et] at g3 h3;have g3:G3 p=some (.lst [t.w]):=g3;have h3:G3 r=some (.lst []):=h3;refine yQ ?_
  ((try dsimp only [zO,zS,zM,zG,yZ,yW,yV,zP,zV,zN,zW,zY,zR,zQ,zJ,zL,yX,zK,gZ,gS,tZ,tS]);try simp only [qO,h3,List.isEmpty_nil,Bool.not_true,zzB,if_false])
  refine stk K sA nA n (yQ ?_)
  (try dsimp only [zO,zS,zM,zG,yZ,yW,yV,zP,zV,zN,zW,zY,zR,zQ,zJ,zL,yX,zK,gZ,gS,tZ,tS])
  refine ixL (qV g3) ?_;rw [kQ];exact h G3 (bF kp k3 hp hr0)
theorem tq_ok (m:Nat) (t:Sy) (h:t.ok):∀ k∈tq m t,tkOk k:=fun k hk=>by
 unfold tq br at hk
 split at hk
 .rcases List.mem_cons.mp hk with rfl|hk
  .trivial
  .rcases List.mem_append.mp hk with hk|hk
   .exact ziF t h k hk
   .rw [zzO hk];trivial
 .exact ziF t h k hk
theorem zjb {n:Nat} (hn:24<=n) {ws:List W} {G:Hw} {Q:Q3} (h:spRS ws G Q XN):zH (yP K sA nA n) XN qR { nx:=fun _ G'=>Q .non G',rt:=Q } (yO vT ws) G:=by
 obtain ⟨t,m,rfl,ok,ts,h⟩:=h;have e4:(yP K sA nA n).fn[4]?=some (eIsi K):=tO 4 hn rfl;have e23:(yP K sA nA n).fn[19]?=some ⟨"read_joined", spRJ⟩:=tO 19 hn rfl;have e25:(yP K sA nA n).fn[21]?=some ⟨"read_word", spRW⟩:=tO 21 hn rfl;have e27:(yP K sA nA n).fn[23]?=some ⟨"words_and_brackets", spWA⟩:=tO 23 hn rfl;have g10:(yP K sA nA n).gl[10]?=some (("str" : Str),W.ty "str"):=rfl;have x9:(yP K sA nA n).sx[7]?=some ⟨nO "\n" " ", cV "\n" " "⟩:=rfl;have sl:=ziE m t ok;have tl':=zf1 m t;show zH (yP K sA nA n) XN qR { nx:=fun _ G'=>Q .non G',rt:=Q } [some (.str (tx m t))] G;simp only [qR];refine yQ ?_
 ((try dsimp only [zO,zS,zM,zG,yZ,yW,yV,zP,zV,zN,zW,zY,zR,zQ,zJ,zL,yX,zK,gZ,gS,tZ,tS]);try simp only [e4,g10])
 refine isi1 (T' := "str") rfl (by rfl) ?_;simp only [qO,Bool.not_true,zzB,if_false];refine stk K sA nA n (yQ ?_)
 ((try dsimp only [zO,zS,zM,zG,yZ,yW,yV,zP,zV,zN,zW,zY,zR,zQ,zJ,zL,yX,zK,gZ,gS,tZ,tS]);try simp only [e23,e27,x9])
 refine ⟨by rw [show (" " : Str).length=1 by decide +kernel];omega,?_⟩;rw [tx_nl m t ok];refine ⟨tx m t,rfl,by omega,fun r G1 k1 hr gr=>?_⟩;rw [ziA m t ok,List.map_map] at gr;simp only [kX,qV gr];refine zjW (tq m t) (W.str ∘ Tk.s) tv rfl (by omega) (fun G' k=>qV (k0 k gr)) (fun x hx G' k kp hk=>?_) (fun G' q kp hq=>?_)
 .simp only [capS,List.length_cons,List.length_nil,List.replicate,zzV,List.append_nil]
  ((try dsimp only [zO,zS,zM,zG,yZ,yW,yV,zP,zV,zN,zW,zY,zR,zQ,zJ,zL,yX,zK,gZ,gS,tZ,tS]);try simp only [e25,Function.comp])
  exact ⟨x,rfl,tq_ok m t ok x hx,fun G2 k2=>hk G2 (kp.trans k2)⟩
 .exact ⟨t,m,q,rfl,ok,ts,zX,fun G2 k2=>h G2 (((k1.trans kp).trans (zI.new hq)).trans k2)⟩
end
theorem zbu:∀ t:Sy,∀ p∈pre t,p.size<=t.size
 | .say x,p,h=>by rw [zzO h];exact zzR _
 | .neg a,p,h=>by
  rcases List.mem_cons.mp h with rfl|h
  .exact zzR _
  .have:=zbu a p h;simp only [Sy.size];omega
 | .two _ a b,p,h=>by
  rcases List.mem_cons.mp h with rfl|h
  .exact zzR _
  .simp only [Sy.size];rcases List.mem_append.mp h with h|h
   .have:=zbu a p h;omega
   .have:=zbu b p h;omega
structure PD (ys:List W):Prop where
 h:∀ y∈ys,pur y=true/\dep y<=100
 len:ys.length<64
theorem so_pd {xs ys:List W} (h:SOk xs) (so:SO xs ys):PD ys:=by
 rcases so with ⟨sb,rfl⟩|⟨ts,ts',rfl,hp,_,rfl⟩
 .refine ⟨fun y hy=>?_,by rw [(gQ xs).length_eq];exact sb.few⟩;have hy:=(gQ xs).mem_iff.mp hy;exact ⟨gF sb.pure _ hy,by have:=zbT hy;have:=sb.deep;omega⟩
 .refine ⟨fun y hy=>?_,?_⟩
  .obtain ⟨x,_,rfl⟩:=zzP hy;exact ⟨by simp [pur],by simp [dep]⟩
  .rw [zzM,hp.length_eq];rcases h with sb|⟨us,e,hl⟩
   .have:=sb.few;rwa [zzM] at this
   .have:=congrArg List.length e;rw [zzM,zzM] at this;omega
theorem zgA {G:Hw} {x y:W} (hx:pur x=true/\dep x<=100) (hy:pur y=true/\dep y<=100) (h:∀ p,x≠.ref p):eqG G x y=some (wY x y):=by
 have c:(pur x&&pur y&&decide (min (dep x) (dep y)<=150))=true:=by
  rw [hx.1,hy.1];simp;omega
 cases x with
 |ref p=>exact absurd rfl (h p)
 |_=>cases y<;>simp only [eqG]<;>rw [if_pos c]
theorem zjK {x:W} (h:pur x=true):∀ p,x≠.ref p:=fun p e=>by rw [e] at h;simp [pur] at h
theorem zfS {l:List W} {q:W} (h:l.getLast?=some q):tE l (-1)=some q:=by
 have hl:l≠[]:=fun e=>by rw [e] at h;cases h
 have h1:0<l.length:=List.length_pos_iff.mpr hl;unfold tE cN;rw [if_neg (by decide),if_pos (by omega)];show l[((-1:Int)+(l.length:Int)).toNat]?=some q;rw [show ((-1:Int)+(l.length:Int)).toNat=l.length-1 by omega,← List.getLast?_eq_getElem?];exact h
section
variable {K : yL} {sA nA : Addr}
theorem zeC {G:Hw} {p:Addr} {xs:List W} {Q:Q3} (e:yU G p=some xs) (ok:SOk xs) (h:∀ ys,SO xs ys->∀ r,G r=none->Q (.ref r) (put G r (.lst ys))):zeM [.ref p] G Q:=by
 rcases ok with sb|⟨ts,rfl,hl⟩
 .exact .inl ⟨xs,e,sb,h _ (.inl ⟨sb,rfl⟩)⟩
 .exact .inr ⟨ts,e,hl,fun ts' hp hs r hr=>h _ (.inr ⟨ts,ts',rfl,hp,hs,rfl⟩) r hr⟩
def Acc (ys acc:List W) (i:Nat):Prop:=(i=0/\acc=[])\/∃ q,acc.getLast?=some q/\q∈ys/\acc++ddr q (ys.drop i)=dd ys/\acc.length<=i
theorem ziv {ys:List W} {w:W} (hw:ys[0]?=some w):Acc ys [w] 1:=by
 cases ys with
 |nil=>cases hw
 |cons y r =>
  cases hw;exact .inr ⟨w,rfl,zzT,rfl,zzR _⟩
theorem zfU {ys acc:List W} {q w:W} {i:Nat} (h1:acc.getLast?=some q) (h2:q∈ys) (h3:acc++ddr q (ys.drop i)=dd ys) (h4:acc.length<=i) (hw:ys[i]?=some w) (e:wY q w=true):Acc ys acc (i+1):=by
 have hi:=(List.getElem?_eq_some_iff.mp hw).1;have ew:=(List.getElem?_eq_some_iff.mp hw).2;rw [List.drop_eq_getElem_cons hi,ew,ddr,if_pos e] at h3;exact .inr ⟨q,h1,h2,h3,by omega⟩
theorem zfV {ys acc:List W} {q w:W} {i:Nat} (h1:acc.getLast?=some q) (h3:acc++ddr q (ys.drop i)=dd ys) (h4:acc.length<=i) (hw:ys[i]?=some w) (e:wY q w=false):Acc ys (acc++[w]) (i+1):=by
 have hi:=(List.getElem?_eq_some_iff.mp hw).1;have ew:=(List.getElem?_eq_some_iff.mp hw).2;rw [List.drop_eq_getElem_cons hi,ew,ddr,if_neg (by rw [e];exact zzN)] at h3;exact .inr ⟨w,by simp,List.mem_of_getElem? hw,by rw [List.append_assoc];exact h3,by rw [zzW];simp;omega⟩
theorem ziw {ys acc:List W} (h:Acc ys acc ys.length):acc=dd ys:=by
 rcases h with ⟨e,rfl⟩|⟨q,_,_,h,_⟩
 .rw [List.length_eq_zero_iff.mp e];rfl
 .rw [List.drop_length,ddr,List.append_nil] at h;exact h
theorem zfd {n:Nat} (hn:26<=n) {ws:List W} {G:Hw} {Q:Q3} (h:zbm ws G Q XN):zH (yP K sA nA n) XN qU { nx:=fun _ G'=>Q .non G',rt:=Q } (yO vW ws) G:=by
 obtain ⟨p,xs,rfl,ex,ok,h⟩:=h;have e4:(yP K sA nA n).fn[25]?=some zig:=tO 25 hn rfl;have t2:(yP K sA nA n).mt[2]?=some mR:=rfl;have z0:=sz 0 (by decide);show zH (yP K sA nA n) XN qU { nx:=fun _ G'=>Q .non G',rt:=Q } [some (.ref p),none,none] G;simp only [qU];refine yQ ?_
 ((try dsimp only [zO,zS,zM,zG,yZ,yW,yV,zP,zV,zN,zW,zY,zR,zQ,zJ,zL,yX,zK,gZ,gS,tZ,tS]);try simp only [List.length_nil,z0,true_and])
 intro po ho;have k1:zI [] G (put G po (.lst [])):=zI.new ho;have g1:(put G po (.lst [])) po=some (.lst []):=zX
 have ex1:yU (put G po (.lst [])) p=some xs:=by
  unfold yU at ex ⊢;have:p≠po:=fun e=>by rw [e,ho] at ex;cases ex
  rw [yK this];exact ex
 generalize put G po (.lst [])=G1 at k1 g1 ex1 ⊢;refine yQ ?_
 ((try dsimp only [zO,zS,zM,zG,yZ,yW,yV,zP,zV,zN,zW,zY,zR,zQ,zJ,zL,yX,zK,gZ,gS,tZ,tS]);try simp only [zR,e4])
 refine zeC ex1 ok fun ys so r hr=>?_;have pd:=so_pd ok so;have k2:zI [] G1 (put G1 r (.lst ys)):=zI.new hr;have gr:(put G1 r (.lst ys)) r=some (.lst ys):=zX;have g2:=k2 _ _ (by simp) g1;have nr:r≠po:=fun e=>by rw [e,g1] at hr;cases hr
 have hrG:G r=none:=k1.none (by simp) hr;have kk:=k1.trans k2;generalize put G1 r (.lst ys)=G2 at k2 gr g2 kk ⊢;simp only [kX,yG gr];refine ⟨fun i σ G'=>∃ (acc:List W) (v:Option W),σ=[some (.ref p),some (.ref po),v]/\G' po=some (.lst acc)/\G' r=some (.lst ys)/\zI [] G G'/\Acc ys acc i,⟨[],none,rfl,g2,gr,kk,.inl ⟨rfl,rfl⟩⟩,fun i σ G' z _=>by obtain ⟨_,_,_,_,z,_⟩:=z;exact yG z,?_,?_⟩
 .rintro i w σ G' hw ⟨acc,v,rfl,gp,gr',kp,ac⟩;have hwm:=List.mem_of_getElem? hw;have hi:=(List.getElem?_eq_some_iff.mp hw).1;have hlen:=pd.len;refine yQ ?_
  ((try dsimp only [zO,zS,zM,zG,yZ,yW,yV,zP,zV,zN,zW,zY,zR,zQ,zJ,zL,yX,zK,gZ,gS,tZ,tS]);try simp only [qO,gp])
  have app:acc.length<1000->Acc ys (acc++[w]) (i+1)->∀ D:End3,(∀ σ G',(∃ (acc:List W) (v:Option W),σ=[some (.ref p),some (.ref po),v]/\G' po=some (.lst acc)/\G' r=some (.lst ys)/\zI [] G G'/\Acc ys acc (i+1))->D.nx σ G')->zH (yP K sA nA n) XN (.cons (.ex (.mth 2 (.var 1) (.cons (.var 2) .nil))) .nil) D [some (.ref p),some (.ref po),some w] G':=by
   intro hl ha D hD;refine yQ ?_
   ((try dsimp only [zO,zS,zM,zG,yZ,yW,yV,zP,zV,zN,zW,zY,zR,zQ,zJ,zL,yX,zK,gZ,gS,tZ,tS]);try simp only [t2])
   refine ⟨tyL gp,dJ gp hl ?_⟩;refine stn ?_;exact hD _ _ ⟨acc++[w],_,rfl,zX,by rw [yK nr];exact gr',kZ kp ho,ha⟩
  rcases ac with ⟨rfl,rfl⟩|⟨q,q1,q2,q3,q4⟩
  .simp only [List.isEmpty_nil,Bool.not_true,Bool.not_false,if_true];exact app (by simp) (ziv hw) _ fun σ G' z=>z
  .have he:acc.isEmpty=false:=by cases acc with|nil=>cases q1|cons _ _=>rfl
   simp only [he,Bool.not_false,Bool.not_true,zzB,if_false];refine ixL (yG gp) ?_;rw [zfS q1];simp only [yI,zgA (pd.h q q2) (pd.h w hwm) (zjK (pd.h q q2).1)]
   cases hq:wY q w with
   |true =>
    simp only [Bool.not_true,zzB,if_false];refine stk K sA nA n ?_;refine stk K sA nA n ?_;exact ⟨acc,_,rfl,gp,gr',kp,zfU q1 q2 q3 q4 hw hq⟩
   |false =>
    simp only [Bool.not_false,if_true];exact app (by omega) (zfV q1 q3 q4 hw hq) _ fun σ G' z=>z
 .rintro σ G' ⟨acc,v,rfl,gp,gr',kp,ac⟩;refine yQ ?_
  (try dsimp only [zO,zS,zM,zG,yZ,yW,yV,zP,zV,zN,zW,zY,zR,zQ,zJ,zL,yX,zK,gZ,gS,tZ,tS])
  rw [ziw ac] at gp;exact h ys so po G' kp ho gp
theorem so_sy {t:Sy} (h:t.size<=40):Srtb ((pre t).map Sy.w):=srtb (by rw [jE];omega) fun p hp=>by have:=zbu t p hp;omega
theorem zhx {t:Sy} {ts:List Str}:(pre t).map Sy.w≠ts.map .str:=fun e=>by
 rw [sH] at e
 cases ts with
 |nil=>cases e
 |cons x r =>
  have:=(List.cons.inj e).1;cases t<;>cases this
theorem zdb {n:Nat} (hn:11<=n) {ws:List W} {G:Hw} {Q:Q3} (h:mJ ws G Q XN):zH (yP K sA nA n) XN vF { nx:=fun _ G'=>Q .non G',rt:=Q } (yO sT ws) G:=by
 obtain ⟨t,rfl,ts,h⟩:=h;have e11:(yP K sA nA n).fn[10]?=some ⟨"all_within", uS sA⟩:=tO 10 hn rfl;have g3:(yP K sA nA n).gl[12]?=some (("sides_of" : Str),.ref sA):=rfl;show zH (yP K sA nA n) XN vF { nx:=fun _ G'=>Q .non G',rt:=Q } [some t.w] G;simp only [vF];refine yQ ?_
 ((try dsimp only [zO,zS,zM,zG,yZ,yW,yV,zP,zV,zN,zW,zY,zR,zQ,zJ,zL,yX,zK,gZ,gS,tZ,tS]);try simp only [e11,g3])
 exact ⟨t,rfl,ts,h⟩
theorem zhi {n:Nat} (hn:28<=n) {ws:List W} {G:Hw} {Q:Q3} (h:zeI ws G Q XN):zH (yP K sA nA n) XN tN { nx:=fun _ G'=>Q .non G',rt:=Q } (yO pX ws) G:=by
 obtain ⟨t,rfl,ts,h⟩:=h;have e12:(yP K sA nA n).fn[27]?=some ⟨"all_parts", mJ⟩:=tO 27 hn rfl;have e14:(yP K sA nA n).fn[26]?=some ⟨"sorted_once", zbm⟩:=tO 26 hn rfl;show zH (yP K sA nA n) XN tN { nx:=fun _ G'=>Q .non G',rt:=Q } [some t.w] G;simp only [tN];refine yQ ?_
 ((try dsimp only [zO,zS,zM,zG,yZ,yW,yV,zP,zV,zN,zW,zY,zR,zQ,zJ,zL,yX,zK,gZ,gS,tZ,tS]);try simp only [e12,e14])
 refine ⟨t,rfl,ts,fun r G' k hr gr=>⟨r,_,rfl,yG gr,.inl (so_sy ts),fun ys so=>?_⟩⟩;rcases so with ⟨_,rfl⟩|⟨us,us',e,_⟩
 .exact h.keep k
 .exact absurd e zhx
theorem kw_nk {k:Nat} (h:k<=2) (k':Int) (h0:0<=k') (h1:k' < 3):∃ j:Nat,j<=2/\tE [W.str "and", .str "or", .str "if"] k'=some (.str (kw j)):=by
 have hc:k'=0\/k'=1\/k'=2:=by omega
 rcases hc with rfl|rfl|rfl
 .exact ⟨0,by decide,kQ⟩
 .exact ⟨1,by decide,mP⟩
 .exact ⟨2,by decide,at_2⟩
theorem zb4 {n:Nat} {ws:List W} {G:Hw} {Q:Q3} (h:qC (n+1) ws G Q XN):zH (kP K sA nA 29 ⟨"_law_turned", qC n⟩) XN yY { nx:=fun _ G'=>Q .non G',rt:=Q } (yO vP ws) G:=by
 obtain ⟨d,l,t,rfl,D,ok,nk,td,h⟩:=h;have e1:(kP K sA nA 29 ⟨"_law_turned", qC n⟩).fn[1]?=some eLen:=rfl;have e6:(kP K sA nA 29 ⟨"_law_turned", qC n⟩).fn[6]?=some zd1:=rfl;have e29:(kP K sA nA 29 ⟨"_law_turned", qC n⟩).fn[29]?=some ⟨"_law_turned", qC n⟩:=rfl;have z1:=sz 1 (by decide);have z2:=sz 2 (by decide);have z3:=sz 3 (by decide);show zH (kP K sA nA 29 ⟨"_law_turned", qC n⟩) XN yY { nx:=fun _ G'=>Q .non G',rt:=Q } [some (.ref d),some t.w,none] G;simp only [yY];refine yQ ?_
 cases t with
 |say x =>
  ((try dsimp only [zO,zS,zM,zG,yZ,yW,yV,zP,zV,zN,zW,zY,zR,zQ,zJ,zL,yX,zK,gZ,gS,tZ,tS]);try simp only [Sy.w,kY,kQ,yI,xS,beq_self_eq_true,if_true])
  refine yQ ?_
  ((try dsimp only [zO,zS,zM,zG,yZ,yW,yV,zP,zV,zN,zW,zY,zR,zQ,zJ,zL,yX,zK,gZ,gS,tZ,tS]);try simp only [kY,mP,zzC,zzL,zzA,Nat.reduceAdd,z2,true_and])
  exact h (.say x) G ok nk rfl zI.refl D
 |neg a =>
  have e:(("not" : Str) == "say")=false:=by decide +kernel
  have td:a.deep+1<n+1:=td
  ((try dsimp only [zO,zS,zM,zG,yZ,yW,yV,zP,zV,zN,zW,zY,zR,zQ,zJ,zL,yX,zK,gZ,gS,tZ,tS]);try simp only [Sy.w,kY,kQ,yI,xS,e,zzB,if_false])
  have fin:∀ G2,zI [d,l] G G2->jZ G2 d l->zH (kP K sA nA 29 ⟨"_law_turned", qC n⟩) XN (qZ (qZ (qZ yY))) { nx:=fun _ G'=>Q .non G',rt:=Q } [some (.ref d),some (.tup [.str "not", a.w]),none] G2:=by
   intro G2 k2 D2;simp only [yY,qZ];refine yQ ?_
   ((try dsimp only [zO,zS,zM,zG,yZ,yW,yV,zP,zV,zN,zW,zY,zR,zQ,zJ,zL,yX,zK,gZ,gS,tZ,tS]);try simp only [e1,e6,mU,mW,jF,zzC,zzL,zzA,Nat.reduceAdd])
   refine ⟨d,l,1,rfl,D2,by decide,fun b G3 b0 b1 k3 D3=>?_⟩;have hb:b=0:=by omega
   subst hb;refine yQ ?_
   ((try dsimp only [zO,zS,zM,zG,yZ,yW,yV,zP,zV,zN,zW,zY,zR,zQ,zJ,zL,yX,zK,gZ,gS,tZ,tS]);try simp only [e29,slR,kY,mP,jF,show (1:Int)+0=1 from rfl,show (1:Int)+1=2 from rfl])
   refine ⟨d,l,a,rfl,D3,ok,nk,by omega,fun s G4 sk sn ss k4 D4=>?_⟩;have c1:mQ [W.str "not", a.w] none (some 1)=[.str "not"]:=rfl;have c2:mQ [W.str "not", a.w] (some 2) none=[]:=rfl;simp only [c1,c2,zzC,zzL,zzA,Nat.add_zero,Nat.reduceAdd,List.cons_append,List.nil_append,List.append_nil,z1,z2,true_and];exact h (.neg s) G4 sk sn (by show s.size+1=a.size+1;rw [ss]) ((k2.trans k3).trans k4) D4
  simp only [yY,qZ] at fin;refine stn (yQ ?_)
  ((try dsimp only [zO,zS,zM,zG,yZ,yW,yV,zP,zV,zN,zW,zY,zR,zQ,zJ,zL,yX,zK,gZ,gS,tZ,tS]);try simp only [e6])
  refine ⟨d,l,3,rfl,D,by decide,fun b G1 b0 b1 k1 D1=>?_⟩;simp only [yI,jP]
  have two:zH (kP K sA nA 29 ⟨"_law_turned", qC n⟩) XN (qZ (qZ yY)) { nx:=fun _ G'=>Q .non G',rt:=Q } [some (.ref d),some (.tup [.str "not", a.w]),none] G1:=by
   simp only [yY,qZ];refine yQ ?_
   ((try dsimp only [zO,zS,zM,zG,yZ,yW,yV,zP,zV,zN,zW,zY,zR,zQ,zJ,zL,yX,zK,gZ,gS,tZ,tS]);try simp only [e6])
   refine ⟨d,l,3,rfl,D1,by decide,fun b G2 b0 b1 k2 D2=>?_⟩;simp only [yI,jP]
   by_cases hb:b=0
   .rw [decide_eq_true hb,if_pos rfl];simp only [kY,kQ,xS,beq_self_eq_true,Bool.not_true,zzB,if_false];exact fin G2 (k1.trans k2) D2
   .rw [decide_eq_false hb,if_neg zzN,if_neg zzN];exact fin G2 (k1.trans k2) D2
  simp only [yY,qZ] at two
  by_cases hb:b=0
  .rw [decide_eq_true hb,if_pos rfl];simp only [kY,kQ,xS,beq_self_eq_true,Bool.not_true,zzB,if_false];exact two
  .rw [decide_eq_false hb,if_neg zzN,if_neg zzN];exact two
 |two k a c =>
  have td:max a.deep c.deep+1<n+1:=td;obtain ⟨oa,oc⟩:=ok;obtain ⟨nk,na,nc⟩:=nk
  ((try dsimp only [zO,zS,zM,zG,yZ,yW,yV,zP,zV,zN,zW,zY,zR,zQ,zJ,zL,yX,zK,gZ,gS,tZ,tS]);try simp only [Sy.w,kY,kQ,yI,xS,(jG k).1,zzB,if_false])
  have fin:∀ G2,zI [d,l] G G2->jZ G2 d l->zH (kP K sA nA 29 ⟨"_law_turned", qC n⟩) XN (qZ (qZ (qZ yY))) { nx:=fun _ G'=>Q .non G',rt:=Q } [some (.ref d),some (.tup [.str (kw k),a.w,c.w]),none] G2:=by
   intro G2 k2 D2;simp only [yY,qZ];refine yQ ?_
   ((try dsimp only [zO,zS,zM,zG,yZ,yW,yV,zP,zV,zN,zW,zY,zR,zQ,zJ,zL,yX,zK,gZ,gS,tZ,tS]);try simp only [e1,e6,mU,mW,jF,zzC,zzL,zzA,Nat.reduceAdd])
   refine ⟨d,l,2,rfl,D2,by decide,fun b G3 b0 b1 k3 D3=>?_⟩;have hb:b=0\/b=1:=by omega
   rcases hb with rfl|rfl
   .refine yQ ?_
    ((try dsimp only [zO,zS,zM,zG,yZ,yW,yV,zP,zV,zN,zW,zY,zR,zQ,zJ,zL,yX,zK,gZ,gS,tZ,tS]);try simp only [e29,slR,kY,mP,jF,show (1:Int)+0=1 from rfl,show (1:Int)+1=2 from rfl])
    refine ⟨d,l,a,rfl,D3,oa,na,by omega,fun s G4 sk sn ss k4 D4=>?_⟩;have c1:mQ [W.str (kw k),a.w,c.w] none (some 1)=[.str (kw k)]:=rfl;have c2:mQ [W.str (kw k),a.w,c.w] (some 2) none=[c.w]:=rfl;simp only [c1,c2,zzC,zzL,zzA,Nat.add_zero,Nat.reduceAdd,List.cons_append,List.nil_append,List.append_nil,z1,z2,z3,true_and];exact h (.two k s c) G4 ⟨sk,oc⟩ ⟨nk,sn,nc⟩ (by show s.size+c.size+1=a.size+c.size+1;rw [ss]) ((k2.trans k3).trans k4) D4
   .refine yQ ?_
    ((try dsimp only [zO,zS,zM,zG,yZ,yW,yV,zP,zV,zN,zW,zY,zR,zQ,zJ,zL,yX,zK,gZ,gS,tZ,tS]);try simp only [e29,slR,kY,at_2,jF,show (1:Int)+1=2 from rfl,show (2:Int)+1=3 from rfl])
    refine ⟨d,l,c,rfl,D3,oc,nc,by omega,fun s G4 sk sn ss k4 D4=>?_⟩;have c1:mQ [W.str (kw k),a.w,c.w] none (some 2)=[.str (kw k),a.w]:=rfl;have c2:mQ [W.str (kw k),a.w,c.w] (some 3) none=[]:=rfl;simp only [c1,c2,zzC,zzL,zzA,Nat.add_zero,Nat.reduceAdd,List.cons_append,List.nil_append,List.append_nil,z1,z2,z3,true_and];exact h (.two k a s) G4 ⟨oa,sk⟩ ⟨nk,na,sn⟩ (by show a.size+s.size+1=a.size+c.size+1;rw [ss]) ((k2.trans k3).trans k4) D4
  simp only [yY,qZ] at fin;refine stn (yQ ?_)
  ((try dsimp only [zO,zS,zM,zG,yZ,yW,yV,zP,zV,zN,zW,zY,zR,zQ,zJ,zL,yX,zK,gZ,gS,tZ,tS]);try simp only [e6])
  refine ⟨d,l,3,rfl,D,by decide,fun b G1 b0 b1 k1 D1=>?_⟩;simp only [yI,jP]
  by_cases hb:b=0
  .rw [decide_eq_true hb,if_pos rfl];simp only [kY,kQ,xS,(jG k).2.2.1,Bool.not_false,if_true];refine yQ ?_
   ((try dsimp only [zO,zS,zM,zG,yZ,yW,yV,zP,zV,zN,zW,zY,zR,zQ,zJ,zL,yX,zK,gZ,gS,tZ,tS]);try simp only [kY,kQ,mP,at_2,zzC,zzL,zzA,Nat.reduceAdd,z3,true_and])
   exact h (.two k c a) G1 ⟨oc,oa⟩ ⟨nk,nc,na⟩ (by show c.size+a.size+1=a.size+c.size+1;omega) k1 D1
  .rw [decide_eq_false hb,if_neg zzN,if_neg zzN]
   have two:zH (kP K sA nA 29 ⟨"_law_turned", qC n⟩) XN (qZ (qZ yY)) { nx:=fun _ G'=>Q .non G',rt:=Q } [some (.ref d),some (.tup [.str (kw k),a.w,c.w]),none] G1:=by
    simp only [yY,qZ];refine yQ ?_
    ((try dsimp only [zO,zS,zM,zG,yZ,yW,yV,zP,zV,zN,zW,zY,zR,zQ,zJ,zL,yX,zK,gZ,gS,tZ,tS]);try simp only [e6])
    refine ⟨d,l,3,rfl,D1,by decide,fun b G2 b0 b1 k2 D2=>?_⟩;simp only [yI,jP]
    by_cases hb:b=0
    .rw [decide_eq_true hb,if_pos rfl];simp only [kY,kQ,xS,(jG k).2.2.1,Bool.not_false,if_true];refine yQ ?_
     ((try dsimp only [zO,zS,zM,zG,yZ,yW,yV,zP,zV,zN,zW,zY,zR,zQ,zJ,zL,yX,zK,gZ,gS,tZ,tS]);try simp only [e6,zzC,zzL,zzA,Nat.reduceAdd,z3,true_and])
     intro p hp;refine ⟨d,l,3,rfl,uD hp D2,by decide,fun m G3 m0 m1 k3 D3=>?_⟩;refine ixL (qV (k3 _ _ (zby D2 hp) zX)) ?_;obtain ⟨j,hj,ej⟩:=kw_nk nk m m0 m1;rw [ej]
     ((try dsimp only [zO,zS,zM,zG,yZ,yW,yV,zP,zV,zN,zW,zY,zR,zQ,zJ,zL,yX,zK,gZ,gS,tZ,tS]);try simp only [kY,mP,at_2,zzC,zzL,zzA,Nat.reduceAdd,z3,true_and])
     exact h (.two j a c) G3 ⟨oa,oc⟩ ⟨hj,na,nc⟩ rfl (((k1.trans k2).trans (zI.new hp)).trans k3) D3
    .rw [decide_eq_false hb,if_neg zzN,if_neg zzN];exact fin G2 (k1.trans k2) D2
   simp only [yY,qZ] at two;exact two
end
structure Fc (G:Hw) (d l:Addr) (fs:List (Addr×O)):Prop where
 dl:jZ G d l
 ob:∀ f∈fs,G f.1=some f.2/\f.1∉[d,l]
section
variable {G G' : Hw} {d l : Addr} {fs : List (Addr × O)}
theorem Fc.draw (F:Fc G d l fs) (k:zI [d,l] G G') (D:jZ G' d l):Fc G' d l fs:=⟨D,fun f hf=>⟨k _ _ (F.ob f hf).2 (F.ob f hf).1,(F.ob f hf).2⟩⟩
theorem Fc.keep (F:Fc G d l fs) (k:zI [] G G'):Fc G' d l fs:=⟨deal0 k F.dl,fun f hf=>⟨k0 k (F.ob f hf).1,(F.ob f hf).2⟩⟩
theorem Fc.new {p:Addr} {o:O} (F:Fc G d l fs) (h:G p=none):Fc (put G p o) d l ((p,o)::fs):=⟨uD h F.dl,fun f hf=>by
 rcases List.mem_cons.mp hf with rfl|hf
 .exact ⟨zX,zby F.dl h⟩
 .exact ⟨newO h (F.ob f hf).1,(F.ob f hf).2⟩⟩
theorem Fc.chg {p:Addr} {o o':O} (F:Fc G d l ((p,o)::fs)) (ne:∀ f∈fs,f.1≠p):Fc (put G p o') d l ((p,o')::fs):=⟨hX (F.ob _ zzT).2 F.dl,fun f hf=>by
 rcases List.mem_cons.mp hf with rfl|hf
 .exact ⟨zX,(F.ob _ zzT).2⟩
 .rw [yK (ne f hf)];exact F.ob f (List.mem_cons_of_mem _ hf)⟩
theorem Fc.sub {gs:List (Addr×O)} (F:Fc G d l fs) (h:∀ f∈gs,f∈fs):Fc G d l gs:=⟨F.dl,fun f hf=>F.ob f (h f hf)⟩
theorem Fc.at {p:Addr} {o:O} (F:Fc G d l fs) (h:(p,o)∈fs):G p=some o:=(F.ob _ h).1
theorem getI {lits:List Str} {r:Int} (h0:0<=r) (h1:r<lits.length):∃ x∈lits,tE (lits.map W.str) r=some (.str x):=by
 have hi:r.toNat<lits.length:=by omega
 refine ⟨lits[r.toNat],List.getElem_mem hi,?_⟩;unfold tE cN;rw [if_pos h0,zzM,if_pos h1];simp [hi]
theorem pickV {lits:List Str} {r:Addr} {m:Int} {Q:Q3} (F:Fc G d l fs) (hr:(r,O.lst (lits.map .str))∈fs) (hm:m=lits.length) (h0:0<m) (h9:m<10) (q:∀ x∈lits,∀ G',Fc G' d l fs->Q (.str x) G') :
  gO [.ref d,.int m] G (fun y G2=>kY (.ref r) y G2 Q) XN:=by
 refine ⟨d,l,m,rfl,F.dl,by omega,fun i G2 i0 i1 k D=>?_⟩;have F2:=F.draw k D;obtain ⟨x,hx,e⟩:=getI (lits:=lits) i0 (by omega);refine ixL (qV (F2.at hr)) ?_;rw [e];exact q x hx G2 F2
theorem pickL {lits:List Str} {m:Int} {Q:Q3} (F:Fc G d l fs) (hm:m=lits.length) (h0:0<m) (h9:m<10) (q:∀ x∈lits,∀ G',Fc G' d l fs->Q (.str x) G') :
  (lits.map W.str).length<=sizeLine/\∀ r,G r=none->gO [.ref d,.int m] (put G r (.lst (lits.map .str))) (fun y G2=>kY (.ref r) y G2 Q) XN :=
 ⟨sz _ (by rw [zzM];omega),fun r hr=>pickV (F.new hr) zzT hm h0 h9 fun x hx G' F'=>q x hx G' (F'.sub fun f hf=>List.mem_cons_of_mem _ hf)⟩
end
abbrev zjU:List Str:=["nota", "orb", "band", "theny", "anot", "andor", "thenor", "notnot"]
theorem dU {G:Hw} {s t:Sy} (hs:s.size<=40) (ht:t.size<=40):eqG G s.w t.w=some (wY s.w t.w) :=
 zgA ⟨s.pur,by have:=s.dep;omega⟩ ⟨t.pur,by have:=t.dep;omega⟩ (zjK s.pur)
section
variable {K : yL} {sA nA : Addr}
theorem zdw {n:Nat} (hn:30<=n) {a v1 v2:Option W} {G:Hw} {Q:Q3} {nx:jM->Hw->Prop} {s t:Sy} (ot:t.ok) (nt:t.nk) (zt:t.size<=40) (os:s.ok) (ns:s.nk) (zs:s.size<=40) (hq:∀ G',Q (.bl true) G') :
  zH (yP K sA nA n) XN (qZ (qZ (qZ (qZ (qZ (qZ blaw)))))) { nx:=nx,rt:=Q } [a,v1,v2,some t.w,some s.w,none,none] G:=by
 have e1:(yP K sA nA n).fn[1]?=some eLen:=tO 1 hn rfl;have e14:(yP K sA nA n).fn[14]?=some ⟨"show_saying", zbl⟩:=tO 14 hn rfl;have e24:(yP K sA nA n).fn[24]?=some ⟨"read_saying", spRS⟩:=tO 24 hn rfl;have e28:(yP K sA nA n).fn[28]?=some ⟨"parts_of", zeI⟩:=tO 28 hn rfl;have z2:=sz 2 (by decide);have lt:=qL t ot;have ls:=qL s os;simp only [blaw,qZ];refine yQ ?_
 ((try dsimp only [zO,zS,zM,zG,yZ,yW,yV,zP,zV,zN,zW,zY,zR,zQ,zJ,zL,yX,zK,gZ,gS,tZ,tS]);try simp only [e14])
 refine ⟨t,rfl,ot,zt,fun G1 k1=>?_⟩;refine ⟨s,rfl,os,zs,fun G2 k2=>?_⟩
 ((try dsimp only [zO,zS,zM,zG,yZ,yW,yV,zP,zV,zN,zW,zY,zR,zQ,zJ,zL,yX,zK,gZ,gS,tZ,tS]);try simp only [zzC,zzL,zzA,Nat.reduceAdd,z2,true_and])
 intro p hp;have gp:(put G2 p (.lst [.str (sh t),.str (sh s)])) p=some (.lst [.str (sh t),.str (sh s)]):=zX;generalize put G2 p (.lst [.str (sh t),.str (sh s)])=G3 at gp ⊢;refine yQ ?_
 ((try dsimp only [zO,zS,zM,zG,yZ,yW,yV,zP,zV,zN,zW,zY,zR,zQ,zJ,zL,yX,zK,gZ,gS,tZ,tS]);try simp only [e24])
 refine ixL (qV gp) ?_;rw [kQ];refine ⟨t,0,by rw [tx0],ot,zt,fun G4 k4=>?_⟩;have gp:=k0 k4 gp;simp only [yI,dU zt zt,Sy.eqr,Bool.not_true,zzB,if_false];refine ixL (qV gp) ?_;rw [mP];refine ⟨s,0,by rw [tx0],os,zs,fun G5 k5=>?_⟩;have gp:=k0 k5 gp;simp only [dU zs zs,Sy.eqr,Bool.not_true,zzB,if_false,e1];refine ixL (qV gp) ?_;rw [kQ];simp only [mU,mW,sz _ (show (sh t).length<=3000 by omega),if_true,nK];have c6:decide (((sh t).length:Int)>=6000)=false:=decide_eq_false (by omega);simp only [c6,zzB,if_false];refine stk K sA nA n (yQ ?_)
 (try dsimp only [zO,zS,zM,zG,yZ,yW,yV,zP,zV,zN,zW,zY,zR,zQ,zJ,zL,yX,zK,gZ,gS,tZ,tS])
 refine ixL (qV gp) ?_;rw [kQ];refine ixL (qV gp) ?_;rw [mP];simp only [yI,xS,dU zt zs,sh_eq ot nt os ns];have eb:eqG G5 (W.bl (wY t.w s.w)) (W.bl (wY t.w s.w))=some true:=by simp [eqG,pur,dep,wY]
 simp only [eb,Bool.not_true,zzB,if_false];refine stk K sA nA n (yQ ?_)
 ((try dsimp only [zO,zS,zM,zG,yZ,yW,yV,zP,zV,zN,zW,zY,zR,zQ,zJ,zL,yX,zK,gZ,gS,tZ,tS]);try simp only [e28])
 refine ⟨t,rfl,zt,fun r G6 k6 hr gr=>?_⟩;have gp:=k0 k6 gp;simp only [kX,qV gr];refine ⟨fun i σ G'=>∃ v:Option W,σ=[a,v1,v2,some t.w,some s.w,some (.ref p),v]/\G' r=some (.lst (dd (srt ((pre t).map Sy.w))))/\G' p=some (.lst [.str (sh t),.str (sh s)]),⟨none,rfl,gr,gp⟩,?_,?_,?_⟩
 .rintro i σ G' ⟨v,rfl,g,_⟩ _;exact qV g
 .rintro i w σ G' hw ⟨v,rfl,gr',gp'⟩;have hm:=(gQ _).mem_iff.mp (zkE w (List.mem_of_getElem? hw));obtain ⟨x,hx,rfl⟩:=zzP hm;have px:=rA t ot x hx;have xz:x.size<=40:=by omega
  have lx:=qL x px.2;refine yQ ?_
  ((try dsimp only [zO,zS,zM,zG,yZ,yW,yV,zP,zV,zN,zW,zY,zR,zQ,zJ,zL,yX,zK,gZ,gS,tZ,tS]);try simp only [e14,e24])
  refine ⟨x,rfl,px.2,xz,fun G7 k7=>?_⟩;refine ⟨x,0,by rw [tx0],px.2,xz,fun G8 k8=>?_⟩;simp only [yI,dU xz xz,Sy.eqr,Bool.not_true,zzB,if_false,e14];refine ⟨x,rfl,px.2,xz,fun G9 k9=>?_⟩;refine addS (by rw [l_p];omega) ?_;refine addS (by rw [Str.length_append,l_p,l_q];omega) ?_;refine ⟨x,6,by rw [tx6],px.2,xz,fun G10 k10=>?_⟩;simp only [dU xz xz,Sy.eqr,Bool.not_true,zzB,if_false];have kk:=((k7.trans k8).trans k9).trans k10;refine stk K sA nA n (stk K sA nA n ?_);exact ⟨_,rfl,k0 kk gr',k0 kk gp'⟩
 .rintro σ G' ⟨v,rfl,gr',gp'⟩;refine yQ ?_
  ((try dsimp only [zO,zS,zM,zG,yZ,yW,yV,zP,zV,zN,zW,zY,zR,zQ,zJ,zL,yX,zK,gZ,gS,tZ,tS]);try simp only [e14,e24])
  refine ixL (qV gp') ?_;rw [mP];refine ⟨s,0,by rw [tx0],os,zs,fun G7 k7=>?_⟩;refine ⟨s,rfl,os,zs,fun G8 k8=>?_⟩;refine ixL (qV (k0 (k7.trans k8) gp')) ?_;rw [mP];simp only [yI,xS,beq_self_eq_true];exact hq G8
theorem zhF {n:Nat} (hn:30<=n) {a:W} {ns:List Int} {G:Hw} {Q:Q3} {nx:jM->Hw->Prop} (hs:zcx G a ns) (hl:ns.length<=63) (hq:∀ G',Q (.bl true) G') :
  zH (yP K sA nA n) XN blaw { nx:=nx,rt:=Q } [some a,none,none,none,none,none,none] G:=by
 have e5:(yP K sA nA n).fn[5]?=some zkB:=tO 5 hn rfl;have e6:(yP K sA nA n).fn[6]?=some zd1:=tO 6 hn rfl;have e7:(yP K sA nA n).fn[7]?=some ⟨"_law_names", mH⟩:=tO 7 hn rfl;have e8:(yP K sA nA n).fn[8]?=some ⟨"_law_large", wX 21⟩:=tO 8 hn rfl;have e29:(yP K sA nA n).fn[29]?=some ⟨"_law_turned", qC 21⟩:=tO 29 hn rfl;have t2:(yP K sA nA n).mt[2]?=some mR:=rfl;simp only [blaw];refine yQ ?_
 ((try dsimp only [zO,zS,zM,zG,yZ,yW,yV,zP,zV,zN,zW,zY,zR,zQ,zJ,zL,yX,zK,gZ,gS,tZ,tS]);try simp only [e5])
 refine ⟨a,0,ns,rfl,hs,hl,by decide,fun d l G1 _ _ _ D1=>?_⟩;refine yQ ?_
 ((try dsimp only [zO,zS,zM,zG,yZ,yW,yV,zP,zV,zN,zW,zY,zR,zQ,zJ,zL,yX,zK,gZ,gS,tZ,tS]);try simp only [e6,e7,jF])
 refine ⟨d,l,4,rfl,D1,by decide,fun j G2 j0 j4 k2 D2=>?_⟩;refine ⟨d,l,1+j,rfl,D2,by omega,by omega,fun r xs G3 hne hxl hxs hr gr k3 D3=>?_⟩
 have rest:∀ (G4:Hw) (ys:List Str),ys≠[]->ys.length<=5->(∀ x∈ys,sU x=true)->G4 r=some (.lst (ys.map .str))->jZ G4 d l ->
   zH (yP K sA nA n) XN (qZ (qZ (qZ blaw))) { nx:=nx,rt:=Q } [some a,some (.ref d),some (.ref r),none,none,none,none] G4:=by
  intro G4 ys yne yl yok g4 D4;simp only [blaw,qZ];refine yQ ?_
  ((try dsimp only [zO,zS,zM,zG,yZ,yW,yV,zP,zV,zN,zW,zY,zR,zQ,zJ,zL,yX,zK,gZ,gS,tZ,tS]);try simp only [e6,e8,jF])
  refine ⟨d,l,40,rfl,D4,by decide,fun m G5 m0 m1 k5 D5=>?_⟩;have g5:=k5 _ _ hr g4;refine ⟨d,l,r,1+m,20,ys,rfl,D5,hr,g5,yne,yl,yok,by omega,by omega,by decide,by decide,fun t G6 ok nk ts td k6 D6=>?_⟩;have g6:=k6 _ _ hr g5;have ts:t.size<=40:=by omega
  have td:t.deep<21:=by omega
  refine yQ ?_
  ((try dsimp only [zO,zS,zM,zG,yZ,yW,yV,zP,zV,zN,zW,zY,zR,zQ,zJ,zL,yX,zK,gZ,gS,tZ,tS]);try simp only [e29])
  refine ⟨d,l,t,rfl,D6,ok,nk,td,fun s G7 sk sn ss k7 D7=>?_⟩;have g7:=k7 _ _ hr g6;have zs:s.size<=40:=by omega
  refine yQ ?_
  ((try dsimp only [zO,zS,zM,zG,yZ,yW,yV,zP,zV,zN,zW,zY,zR,zQ,zJ,zL,yX,zK,gZ,gS,tZ,tS]);try simp only [e6])
  refine ⟨d,l,2,rfl,D7,by decide,fun b G8 b0 b1 k8 D8=>?_⟩;have g8:=k8 _ _ hr g7;simp only [yI,jP]
  by_cases hb:b=0
  .rw [decide_eq_true hb,if_pos rfl];refine yQ ?_
   ((try dsimp only [zO,zS,zM,zG,yZ,yW,yV,zP,zV,zN,zW,zY,zR,zQ,zJ,zL,yX,zK,gZ,gS,tZ,tS]);try simp only [e6,e8,jF])
   refine ⟨d,l,40,rfl,D8,by decide,fun m' G9 m0' m1' k9 D9=>?_⟩;refine ⟨d,l,r,1+m',20,ys,rfl,D9,hr,k9 _ _ hr g8,yne,yl,yok,by omega,by omega,by decide,by decide,fun s G10 sk sn zs _ k10 D10=>?_⟩;refine stk K sA nA n ?_;exact zdw hn ok nk ts sk sn (by omega) hq
  .rw [decide_eq_false hb,if_neg zzN];refine stk K sA nA n ?_;exact zdw hn ok nk ts sk sn zs hq
 simp only [blaw,qZ] at rest;refine yQ ?_
 ((try dsimp only [zO,zS,zM,zG,yZ,yW,yV,zP,zV,zN,zW,zY,zR,zQ,zJ,zL,yX,zK,gZ,gS,tZ,tS]);try simp only [e6])
 refine ⟨d,l,2,rfl,D3,by decide,fun b G4 b0 b1 k4 D4=>?_⟩;have g4:=k4 _ _ hr gr;simp only [yI,jP]
 by_cases hb:b=1
 .rw [decide_eq_true hb,if_pos rfl];refine yQ ?_
  ((try dsimp only [zO,zS,zM,zG,yZ,yW,yV,zP,zV,zN,zW,zY,zR,zQ,zJ,zL,yX,zK,gZ,gS,tZ,tS]);try simp only [t2,e6])
  have F:Fc G4 d l [(r,.lst (xs.map .str))]:=⟨D4,fun f hf=>by rw [zzO hf];exact ⟨g4,hr⟩⟩;refine ⟨tyL g4,?_⟩;refine pickL (lits:=zjU) F rfl (by decide) (by decide) fun x hx G5 F5=>?_;have g5:=F5.at zzT;refine dJ g5 (by rw [zzM];omega) ?_;refine rest _ (xs++[x]) (by simp) (by simp;omega) (fun y hy=>?_) (by rw [zX,List.map_append];rfl) (hX hr F5.dl);rcases List.mem_append.mp hy with hy|hy
  .exact hxs y hy
  .rw [zzO hy];have:∀ z∈zjU,sU z=true:=by decide +kernel
   exact this x hx
 .rw [decide_eq_false hb,if_neg zzN];exact rest G4 xs hne (by omega) hxs g4 D4
end
structure Txt (K:yL) (mg:Str->Option Value) (sA nA oA jA hB hL hW hR hT hM:Addr):Prop where
 deal:∃ f,mg "_law_deal" = some (.ref f)/\HD K "_law_deal" "_law_deal" jT .none f
 draw:∃ f,mg "_law_draw" = some (.ref f)/\HD K "_law_draw" "_law_draw" jU .none f
 names:∃ f,mg "_law_names" = some (.ref f)/\HD K "_law_names" "_law_names" wS .none f
 large:∃ f,mg "_law_large" = some (.ref f)/\HD K "_law_large" "_law_large" wR .none f
 sides:∃ f,mg "sides_of" = some (.ref f)/\HD K "sides_of" "sides_of" xY .none f
 within:∃ f,mg "all_within" = some (.ref f)/\HD K "all_within" "all_within" wT .none f
 jt:∃ f,mg "joined_text" = some (.ref f)/\HD K "joined_text" "joined_text" xC .none f
 sj:∃ f,mg "show_joined" = some (.ref f)/\HD K "show_joined" "show_joined" xF .none f
 nameof:∃ f,mg "name_of" = some (.ref f)/\HD K "name_of" "name_of" xK .none f
 show_:∃ f,mg "show_saying" = some (.ref f)/\HD K "show_saying" "show_saying" xG .none f
 put_:∃ f,mg "put_together" = some (.ref f)/\HD K "put_together" "put_together" xO .none f
 take_:∃ f,mg "take_left" = some (.ref f)/\HD K "take_left" "take_left" jX .none f
 begin_:∃ f,mg "begin_side" = some (.ref f)/\HD K "begin_side" "begin_side" wU .none f
 go_:∃ f,mg "go_on" = some (.ref f)/\HD K "go_on" "go_on" sZ .none f
 rj:∃ f,mg "read_joined" = some (.ref f)/\HD K "read_joined" "read_joined" xD .none f
 isn:∃ f,mg "is_name" = some (.ref f)/\HD K "is_name" "is_name" qM .none f
 rw_:∃ f,mg "read_word" = some (.ref f)/\HD K "read_word" "read_word" jW .none f
 wb:∃ f,mg "words_between_blanks" = some (.ref f)/\HD K "words_between_blanks" "words_between_blanks" yT .none f
 wa:∃ f,mg "words_and_brackets" = some (.ref f)/\HD K "words_and_brackets" "words_and_brackets" yR .none f
 rs:∃ f,mg "read_saying" = some (.ref f)/\HD K "read_saying" "read_saying" xE .none f
 once:∃ f,mg "sorted_once" = some (.ref f)/\HD K "sorted_once" "sorted_once" xH .none f
 parts:∃ f,mg "all_parts" = some (.ref f)/\HD K "all_parts" "all_parts" jV .none f
 pof:∃ f,mg "parts_of" = some (.ref f)/\HD K "parts_of" "parts_of" jI .none f
 tur:∃ f,mg "_law_turned" = some (.ref f)/\HD K "_law_turned" "_law_turned" xB .none f
 max:mg "max" = none
 len:mg "len" = none
 all:mg "all" = none
 list:mg "list" = none
 isi:mg "isinstance" = none
 range:mg "range" = none
 zip:mg "zip" = none
 rev:mg "reversed" = none
 str:mg "str" = none
 tup:mg "tuple" = none
 srt:mg "sorted" = none
 mgLo:∃ t,mg "LONGEST_NAME" = some (.int 6 t)
 mgSi:∃ t,mg "SINGLE_BINDS" = some (.int 5 t)
 mgS:mg "sides_of" = some (.ref sA)
 hdS:HD K "sides_of" "sides_of" xY .none sA
 mgO:mg "name_of" = some (.ref nA)
 hdO:HD K "name_of" "name_of" xK .none nA
 nb:nsIn K cStatics sharingNotToldKey=some none
 mgB:mg "BINDS_saywrite" = some (.ref hB)
 rpB:∀ H,xN K H (.dcf bK bV) (.ref hB)
 mgL:mg "LEAST" = some (.ref hL)
 rpL:∀ H,xN K H (.dcf lK lV) (.ref hL)
 mgW:mg "BETWEEN" = some (.ref hW)
 rpW:∀ H,xN K H (.dcf wK wV) (.ref hW)
 mgR:mg "BINDS_sayread" = some (.ref hR)
 rpR:∀ H,xN K H (.dcf rK rV) (.ref hR)
 mgT:mg "TAKES" = some (.ref hT)
 rpT:∀ H,xN K H (.dcf tK tV) (.ref hT)
 mgM:mg "MADE" = some (.ref hM)
 rpM:∀ H,xN K H (.dcf mK mV) (.ref hM)
 mgN:mg "NO_NAMES" = some (.ref oA)
 rpN:∀ H,xN K H (.tup (bO.map .str)) (.ref oA)
 mgJ:mg "JOINING" = some (.ref jA)
 rpJ:∀ H,xN K H (.tup (jL)) (.ref jA)
def rk (n:Nat):Nat:=2 * n+2+(if 9<=n then 21 else 0)+(if 30<=n then 21 else 0)
section
variable {q : Pr} {sA nA oA jA hB hL hW hR hT hM : Addr}
def Pn (q:Pr) (sA nA:Addr) (n:Nat):Prop:=∀ A,Room (rk n) A->∀ f∈(fnL q.K sA nA).take n,uZ (q.at A) f
def Gam0:Ctx3:=⟨[],[],[],[],[],[],[]⟩
def zdo:MC:=⟨zZ xY,tT,(fun _=>true),[],[],[],[],[],[]⟩
theorem zcj:qB kC zdo (zT xY)=true:=by decide +kernel
def zgk:MC:=⟨zZ xK,sF,(fun _=>true),[],[],[],[],[],[]⟩
theorem zdq:qB uB zgk (zT xK)=true:=by decide +kernel
theorem us1' {P:List Value->Prop} (h:∀ a,P [a]) (us:List Value) (e:us.length=1):P us:=by
 cases us with
 |nil=>cases e
 |cons a l=>cases l with
  |nil=>exact h a
  |cons b l=>cases e
theorem sL:∀ ws G (Q Q':Q3),(∀ w G',Q w G'->Q' w G')->jY ws G Q XN->jY ws G Q' XN:=fun ws G Q Q' k h=>by
 obtain ⟨t,h1,h⟩:=h;exact ⟨t,h1,k _ _ h⟩
theorem tJ:∀ ws G (Q Q':Q3),(∀ w G',Q w G'->Q' w G')->wB ws G Q XN->wB ws G Q' XN:=fun ws G Q Q' k h=>by
 obtain ⟨t,h1,h⟩:=h;exact ⟨t,h1,k _ _ h⟩
theorem zkr {A:Around} (hr:Room 0 A):L3.Good Gam0 (q.at A):=zdM (Γ:=Gam0) (p:=q.at A) (by have:=hr.un;show A.units+200<cLine;omega) yE yE yE yE yE yE rfl
theorem zbi (T:Txt q.K q.mg sA nA oA jA hB hL hW hR hT hM) {A:Around} (hr:Room 1 A) {y:Str}:SxE (q.at A) ⟨hcM y,hcS sA jY⟩/\wG (hcS sA jY):=by
 obtain ⟨fd,F,_⟩:=T.hdS.fd;have FO:=rL (k:=0) (sp:=jY) (M:=zdo) F gI (fun A hr=>zkr hr) ⟨rfl,rfl,rfl,rfl,rfl,rfl,rfl,rfl⟩ zcj (fun ws G Q h=>by obtain ⟨t,rfl,_⟩:=h;rfl) (fun ws G Q h=>bY h);exact ⟨ziU FO F.kp (uA F fun _ _ _ _ _ _=>us1' fun _=>rfl) sL hr,zbK sL⟩
theorem zgV (T:Txt q.K q.mg sA nA oA jA hB hL hW hR hT hM) {A:Around} (hr:Room 1 A) {y:Str}:SxE (q.at A) ⟨hcM y,hcS nA wB⟩/\wG (hcS nA wB):=by
 obtain ⟨fd,F,_⟩:=T.hdO.fd;have FO:=rL (k:=0) (sp:=wB) (M:=zgk) F bU (fun A hr=>zkr hr) ⟨rfl,rfl,rfl,rfl,rfl,rfl,rfl,rfl⟩ zdq (fun ws G Q h=>by obtain ⟨t,rfl,_⟩:=h;rfl) (fun ws G Q h=>fV h);exact ⟨ziU FO F.kp (uA F fun _ _ _ _ _ _=>us1' fun _=>rfl) tJ hr,zbK tJ⟩
theorem zkq (T:Txt q.K q.mg sA nA oA jA hB hL hW hR hT hM) {l:List Fn3} {A:Around} (hu:A.units+200<cLine) (hr1:Room 1 A) (h:∀ f∈l,uZ (q.at A) f):L3.Good (GamL sA nA l) (q.at A) :=
 zdM (Γ:=GamL sA nA l) hu h
  (zU (wL T.mgLo.choose_spec (v:=.int 6) ⟨_,rfl⟩ fun _=>rfl) (zU (wL T.mgN (v:=.ref oA) rfl T.rpN) (zU (wL T.mgB (v:=.ref hB) rfl T.rpB) (zU (wL T.mgSi.choose_spec (v:=.int 5) ⟨_,rfl⟩ fun _=>rfl) (zU (wL T.mgL (v:=.ref hL) rfl T.rpL) (zU (wL T.mgW (v:=.ref hW) rfl T.rpW) (zU (wL T.mgJ (v:=.ref jA) rfl T.rpJ) (zU (wL T.mgR (v:=.ref hR) rfl T.rpR) (zU (wL T.mgT (v:=.ref hT) rfl T.rpT) (zU (wL T.mgM (v:=.ref hM) rfl T.rpM) (zU (zdO T.str (by decide +kernel)) (zU (zdO T.tup (by decide +kernel)) (zU (wL T.mgS (v:=.ref sA) rfl fun _=>rfl) (zU (wL T.mgO (v:=.ref nA) rfl fun _=>rfl) yE))))))))))))))
  (zU zh8 (zU zfL (zU zie (zU zid (zU zdZ yE)))))
  (zU (zh6 T.range) (zU (zh5 T.zip) yE))
  yE
  (zU (zh7 T.list T.rev) (zU ⟨sx_rv,zeR⟩ (zU (zbi T hr1) (zU (zbi T hr1) (zU (zgV T hr1) (zU ⟨zcK T.nb,rB⟩ (zU ⟨zcK T.nb,rB⟩ (zU ⟨zcK T.nb,rB⟩ (zU ⟨zf3,zaj⟩ (zU ⟨zf3,zaj⟩ (zU ⟨ziV (wL T.mgB (v:=.ref hB) rfl T.rpB),zdL _ _⟩ yE))))))))))) rfl
theorem gX {k:Nat} {A:Around} (hr:Room k A):A.units+200<cLine:=by have:=hr.un;omega
theorem good (T:Txt q.K q.mg sA nA oA jA hB hL hW hR hT hM) {n:Nat} (h:Pn q sA nA n):∀ A,Room (rk n) A->L3.Good (yP q.K sA nA n) (q.at A):=fun A hr=>zkq T (gX hr) (hr.mono (by unfold rk;omega)) (h A hr)
theorem next {n:Nat} {e:Fn3} (h:Pn q sA nA n) (hk:rk n<=rk (n+1)) (he:(fnL q.K sA nA).take (n+1)=(fnL q.K sA nA).take n++[e]) (hx:∀ A,Room (rk (n+1)) A->uZ (q.at A) e):Pn q sA nA (n+1):=fun A hr=>by
 rw [he];exact pA (h A (hr.mono hk)) (hx A hr)
theorem p5 (T:Txt q.K q.mg sA nA oA jA hB hL hW hR hT hM):Pn q sA nA 5:=fun A hr=>zU (zh9 T.max) (zU (zib T.len) (zU (zif T.all) (zU (zia T.list) (zU (zic T.isi) yE))))
theorem wQ {n:Nat} {nm qual:Str} {st:Stmt} {f:Addr} {M:MC} {ps:List Str} {sp:uU} {body:ISs} (T:Txt q.K q.mg sA nA oA jA hB hL hW hR hT hM) (h:Pn q sA nA n) (hk:rk n+1<=rk (n+1)) (hm:q.mg nm=some (.ref f)) (hd:HD q.K nm qual st .none f) (S:FnScope M.N ps (zZ st)) (eM:MOk (yP q.K sA nA n) M (zZ st)) (look:qB body M (zT st)=true)
  (len:∀ ws G Q,sp ws G Q XN->ws.length=ps.length) (hb:∀ ws G Q,sp ws G Q XN->zH (yP q.K sA nA n) XN body { nx:=fun _ G'=>Q .non G',rt:=Q } (yO M.N ws) G) (mono:dG ⟨nm,sp⟩)
  (hbind:∀ (kV doc pm:Value) (an:Option Addr) (cdv ct:Value) (us:List Value),us.length=ps.length->bindArgs (fnOf nm qual (zA st) (zT st) (zZ st) .none kV doc pm an cdv ct) ⟨us,[]⟩=pure (ps.zip us))
  (he:(fnL q.K sA nA).take (n+1)=(fnL q.K sA nA).take n++[⟨nm,sp⟩]):Pn q sA nA (n+1):=by
 obtain ⟨fd,F,_⟩:=hd.fd;have FO:=rL F S (good T h) eM look len hb;exact next h (by omega) he fun A hr=>zaY FO hm F.kp (uA F hbind) mono hr hk
theorem zjN {n N:Nat} {nm qual:Str} {st:Stmt} {f:Addr} {M:MC} {ps:List Str} {sp:Nat->uU} {body:ISs} (T:Txt q.K q.mg sA nA oA jA hB hL hW hR hT hM) (h:Pn q sA nA n) (hk:rk n+N<=rk (n+1)) (hm:q.mg nm=some (.ref f)) (hd:HD q.K nm qual st .none f) (S:FnScope M.N ps (zZ st)) (eM:∀ j,MOk (kP q.K sA nA n ⟨nm,sp j⟩) M (zZ st)) (look:qB body M (zT st)=true)
  (h0:∀ ws G Q,¬ sp 0 ws G Q XN) (len:∀ j ws G Q,sp j ws G Q XN->ws.length=ps.length) (hb:∀ j ws G Q,sp (j+1) ws G Q XN->zH (kP q.K sA nA n ⟨nm,sp j⟩) XN body { nx:=fun _ G'=>Q .non G',rt:=Q } (yO M.N ws) G) (mono:∀ j,dG ⟨nm,sp j⟩)
  (hbind:∀ (kV doc pm:Value) (an:Option Addr) (cdv ct:Value) (us:List Value),us.length=ps.length->bindArgs (fnOf nm qual (zA st) (zT st) (zZ st) .none kV doc pm an cdv ct) ⟨us,[]⟩=pure (ps.zip us))
  (he:(fnL q.K sA nA).take (n+1)=(fnL q.K sA nA).take n++[⟨nm,sp N⟩]):Pn q sA nA (n+1):=by
 obtain ⟨fd,F,_⟩:=hd.fd;have FO:=zf9 (k:=rk n) (Γ:=fun e=>kP q.K sA nA n e) F S hm (uA F hbind) h0 len mono (fun j A hr hx=>zkq T (gX hr) (hr.mono (by unfold rk;omega)) (pA (h A hr) hx)) eM look hb N;exact next h (by omega) he fun A hr=>zaY FO hm F.kp (uA F hbind) (mono N) hr hk
theorem usS {P:List Value->Prop} {n:Nat} (h:∀ a l,l.length=n->P (a::l)) (us:List Value) (e:us.length=n+1):P us:=by
 cases us with
 |nil=>exact absurd e (Nat.succ_ne_zero n).symm
 |cons a l=>exact h a l (Nat.succ.inj e)
theorem us0 {P:List Value->Prop} (h:P []) (us:List Value) (e:us.length=0):P us:=by
 cases us with
 |nil=>exact h
 |cons a l=>exact absurd e (Nat.succ_ne_zero _)
theorem us1 {P:List Value->Prop} (h:∀ a0,P [a0]):∀ us:List Value,us.length=1->P us:=usS (P:=fun l=>P (l)) (fun a0=>us0 (P:=fun l=>P (a0::l)) (h a0))
theorem us2 {P:List Value->Prop} (h:∀ a0 a1,P [a0,a1]):∀ us:List Value,us.length=2->P us:=usS (P:=fun l=>P (l)) (fun a0=>usS (P:=fun l=>P (a0::l)) (fun a1=>us0 (P:=fun l=>P (a0::a1::l)) (h a0 a1)))
theorem us3 {P:List Value->Prop} (h:∀ a0 a1 a2,P [a0,a1,a2]):∀ us:List Value,us.length=3->P us:=usS (P:=fun l=>P (l)) (fun a0=>usS (P:=fun l=>P (a0::l)) (fun a1=>usS (P:=fun l=>P (a0::a1::l)) (fun a2=>us0 (P:=fun l=>P (a0::a1::a2::l)) (h a0 a1 a2))))
theorem us4 {P:List Value->Prop} (h:∀ a0 a1 a2 a3,P [a0,a1,a2,a3]):∀ us:List Value,us.length=4->P us:=usS (P:=fun l=>P (l)) (fun a0=>usS (P:=fun l=>P (a0::l)) (fun a1=>usS (P:=fun l=>P (a0::a1::l)) (fun a2=>usS (P:=fun l=>P (a0::a1::a2::l)) (fun a3=>us0 (P:=fun l=>P (a0::a1::a2::a3::l)) (h a0 a1 a2 a3)))))
theorem p6 (T:Txt q.K q.mg sA nA oA jA hB hL hW hR hT hM):Pn q sA nA 6:=by
 obtain ⟨f,hm,hd⟩:=T.deal
 exact wQ (sp:=zcO) (M:=fL) T (p5 T) (by decide) hm hd zaH ⟨rfl,rfl,rfl,rfl,rfl,rfl,rfl,rfl⟩ cP
  (fun ws G Q h=>by obtain ⟨a,b,ns,rfl,_⟩:=h;rfl) (fun ws G Q ⟨a,b,ns,e,h1,h2,h3,h4⟩=>by subst e;exact zfO rfl rfl h1 h2 h3 h4) (zaC) (fun _ _ _ _ _ _=>us2 (fun _ _=>rfl)) rfl
theorem p7 (T:Txt q.K q.mg sA nA oA jA hB hL hW hR hT hM):Pn q sA nA 7:=by
 obtain ⟨f,hm,hd⟩:=T.draw
 exact wQ (sp:=gO) (M:=fM) T (p6 T) (by decide) hm hd zaG ⟨rfl,rfl,rfl,rfl,rfl,rfl,rfl,rfl⟩ cQ
  (fun ws G Q h=>by obtain ⟨a,b,m,rfl,_⟩:=h;rfl) (fun ws G Q ⟨a,b,m,e,h1,h2,h3⟩=>by subst e;exact zfM rfl rfl h1 h2 h3) (zaB) (fun _ _ _ _ _ _=>us2 (fun _ _=>rfl)) rfl
theorem p8 (T:Txt q.K q.mg sA nA oA jA hB hL hW hR hT hM):Pn q sA nA 8:=by
 obtain ⟨f,hm,hd⟩:=T.names
 exact wQ (sp:=mH) (M:=pE) T (p7 T) (by decide) hm hd zad ⟨rfl,rfl,rfl,rfl,rfl,rfl,rfl,rfl⟩ fH
  (fun ws G Q h=>by obtain ⟨d,l,m,rfl,_⟩:=h;rfl) (fun ws G Q h=>zdm (by decide) h) (fun ws G Q Q' E k hh=>by
   obtain ⟨d,l,m,h1,h2,h3,h4,h⟩:=hh;exact ⟨d,l,m,h1,h2,h3,h4,fun r xs G' a b c d e f g=>k _ _ (h r xs G' a b c d e f g)⟩) (fun _ _ _ _ _ _=>us2 (fun _ _=>rfl)) rfl
theorem p9 (T:Txt q.K q.mg sA nA oA jA hB hL hW hR hT hM):Pn q sA nA 9:=by
 obtain ⟨f,hm,hd⟩:=T.large
 exact zjN (N:=21) (sp:=wX) (M:=pD) T (p8 T) (by decide) hm hd zae (fun j=>⟨rfl,rfl,rfl,rfl,rfl,rfl,rfl,rfl⟩) fG
  (fun ws G Q hh=>by
   obtain ⟨d,l,r,m,e,xs,_,_,_,_,_,_,_,_,_,h1,h2,_⟩:=hh;omega) (fun j ws G Q h=>by obtain ⟨d,l,r,m,e,xs,rfl,_⟩:=h;rfl) (fun j ws G Q h=>zdx h) (fun j ws G Q Q' E k hh=>by
   obtain ⟨d,l,r,m,e,xs,h1,h2,h3,h4,h5,h6,h7,h8,h9,h10,h11,h⟩:=hh;exact ⟨d,l,r,m,e,xs,h1,h2,h3,h4,h5,h6,h7,h8,h9,h10,h11,fun t G' a b c d e f=>k _ _ (h t G' a b c d e f)⟩) (fun _ _ _ _ _ _=>us4 fun _ _ _ _=>rfl) rfl
theorem p10 (T:Txt q.K q.mg sA nA oA jA hB hL hW hR hT hM):Pn q sA nA 10:=by
 obtain ⟨f,hm,hd⟩:=T.sides
 exact wQ (sp:=jY) (M:=bN) T (p9 T) (by decide) hm hd gI ⟨rfl,rfl,rfl,rfl,rfl,rfl,rfl,rfl⟩ zah
  (fun ws G Q h=>by obtain ⟨t,rfl,_⟩:=h;rfl) (fun ws G Q h=>bY h) (fun ws G Q Q' E k hh=>by
   obtain ⟨t,h1,h⟩:=hh;exact ⟨t,h1,k _ _ h⟩) (fun _ _ _ _ _ _=>us1 (fun _=>rfl)) rfl
theorem p11 (T:Txt q.K q.mg sA nA oA jA hB hL hW hR hT hM):Pn q sA nA 11:=by
 obtain ⟨f,hm,hd⟩:=T.within
 exact wQ (sp:=uS sA) (M:=pF) T (p10 T) (by decide) hm hd zac ⟨rfl,rfl,rfl,rfl,rfl,rfl,rfl,rfl⟩ fI
  (fun ws G Q h=>by obtain ⟨t,rfl,_⟩:=h;rfl) (fun ws G Q h=>zb2 h) (fun ws G Q Q' E k hh=>by
   obtain ⟨t,h1,h2,h⟩:=hh;exact ⟨t,h1,h2,h.mono k⟩) (fun _ _ _ _ _ _=>us2 (fun _ _=>rfl)) rfl
theorem p12 (T:Txt q.K q.mg sA nA oA jA hB hL hW hR hT hM):Pn q sA nA 12:=by
 obtain ⟨f,hm,hd⟩:=T.jt
 exact wQ (sp:=spJt) (M:=rX) T (p11 T) (by decide) hm hd cX ⟨rfl,rfl,rfl,rfl,rfl,rfl,rfl,rfl⟩ mY
  (fun ws G Q h=>by obtain ⟨t,p,ini,rfl,_⟩:=h;rfl) (fun ws G Q h=>zj9 h) (fun ws G Q Q' E k hh=>by
   obtain ⟨t,p,ini,h1,h2,h3,h4,h5,h6,h⟩:=hh;exact ⟨t,p,ini,h1,h2,h3,h4,h5,h6,fun G' a b=>k _ _ (h G' a b)⟩) (fun _ _ _ _ _ _=>us3 (fun _ _ _=>rfl)) rfl
theorem p13 (T:Txt q.K q.mg sA nA oA jA hB hL hW hR hT hM):Pn q sA nA 13:=by
 obtain ⟨f,hm,hd⟩:=T.sj
 exact wQ (sp:=mL sA nA) (M:=sC) T (p12 T) (by decide) hm hd dA ⟨rfl,rfl,rfl,rfl,rfl,rfl,rfl,rfl⟩ nE
  (fun ws G Q h=>by obtain ⟨t,rfl,_⟩:=h;rfl) (fun ws G Q h=>zi0 (by decide) h) (fun ws G Q Q' E k hh=>by
   obtain ⟨t,h1,h2,h3,h⟩:=hh;exact ⟨t,h1,h2,h3,fun G' y=>k _ _ (h G' y)⟩) (fun _ _ _ _ _ _=>us3 (fun _ _ _=>rfl)) rfl
theorem p14 (T:Txt q.K q.mg sA nA oA jA hB hL hW hR hT hM):Pn q sA nA 14:=by
 obtain ⟨f,hm,hd⟩:=T.nameof
 exact wQ (sp:=wB) (M:=zbE) T (p13 T) (by decide) hm hd bU ⟨rfl,rfl,rfl,rfl,rfl,rfl,rfl,rfl⟩ zaS
  (fun ws G Q h=>by obtain ⟨t,rfl,_⟩:=h;rfl) (fun ws G Q h=>fV h) (fun ws G Q Q' E k hh=>by
   obtain ⟨t,h1,h⟩:=hh;exact ⟨t,h1,k _ _ h⟩) (fun _ _ _ _ _ _=>us1 (fun _=>rfl)) rfl
theorem p15 (T:Txt q.K q.mg sA nA oA jA hB hL hW hR hT hM):Pn q sA nA 15:=by
 obtain ⟨f,hm,hd⟩:=T.show_
 exact wQ (sp:=zbl) (M:=sD) T (p14 T) (by decide) hm hd dB ⟨rfl,rfl,rfl,rfl,rfl,rfl,rfl,rfl⟩ nF
  (fun ws G Q h=>by obtain ⟨t,rfl,_⟩:=h;rfl) (fun ws G Q h=>zeO (by decide) h) (fun ws G Q Q' E k hh=>by
   obtain ⟨t,h1,h2,h3,h⟩:=hh;exact ⟨t,h1,h2,h3,fun G' y=>k _ _ (h G' y)⟩) (fun _ _ _ _ _ _=>us1 (fun _=>rfl)) rfl
theorem p16 (T:Txt q.K q.mg sA nA oA jA hB hL hW hR hT hM):Pn q sA nA 16:=by
 obtain ⟨f,hm,hd⟩:=T.put_
 exact wQ (sp:=zeH) (M:=tG) T (p15 T) (by decide) hm hd gH ⟨rfl,rfl,rfl,rfl,rfl,rfl,rfl,rfl⟩ pQ
  (fun ws G Q h=>by obtain ⟨w,D,p,rfl,_⟩:=h;rfl) (fun ws G Q h=>zg9 h) (fun ws G Q Q' E k hh=>by
   obtain ⟨w,D,p,h1,h2,h3,h4,h⟩:=hh;exact ⟨w,D,p,h1,h2,h3,h4,fun G' a b=>k _ _ (h G' a b)⟩) (fun _ _ _ _ _ _=>us2 (fun _ _=>rfl)) rfl
theorem p17 (T:Txt q.K q.mg sA nA oA jA hB hL hW hR hT hM):Pn q sA nA 17:=by
 obtain ⟨f,hm,hd⟩:=T.take_
 exact wQ (sp:=gP) (M:=fS) T (p16 T) (by decide) hm hd zaD ⟨rfl,rfl,rfl,rfl,rfl,rfl,rfl,rfl⟩ cU
  (fun ws G Q h=>by obtain ⟨m,D,V,p,r,rfl,_⟩:=h;rfl) (fun ws G Q h=>zez (by decide) h) (fun ws G Q Q' E k hh=>by
   obtain ⟨m,D,V,p,r,h1,h2,h3,h4,h5,h6,h7,h8,h⟩:=hh;exact ⟨m,D,V,p,r,h1,h2,h3,h4,h5,h6,h7,h8,fun G' a b c=>k _ _ (h G' a b c)⟩) (fun _ _ _ _ _ _=>us3 (fun _ _ _=>rfl)) rfl
theorem p18 (T:Txt q.K q.mg sA nA oA jA hB hL hW hR hT hM):Pn q sA nA 18:=by
 obtain ⟨f,hm,hd⟩:=T.begin_
 exact wQ (sp:=uR true) (M:=pG) T (p17 T) (by decide) hm hd zab ⟨rfl,rfl,rfl,rfl,rfl,rfl,rfl,rfl⟩ fJ
  (fun ws G Q h=>by obtain ⟨t,D,V,p,r,rfl,_⟩:=h;rfl) (fun ws G Q h=>zeh (by decide) h) (fun ws G Q Q' E k hh=>by
   obtain ⟨t,D,V,p,r,h1,h2,h3,h4,h5,h6,h7,h8,h⟩:=hh;exact ⟨t,D,V,p,r,h1,h2,h3,h4,h5,h6,h7,h8,fun G' a b c=>k _ _ (h G' a b c)⟩) (fun _ _ _ _ _ _=>us3 (fun _ _ _=>rfl)) rfl
theorem p19 (T:Txt q.K q.mg sA nA oA jA hB hL hW hR hT hM):Pn q sA nA 19:=by
 obtain ⟨f,hm,hd⟩:=T.go_
 exact wQ (sp:=uR false) (M:=zgl) T (p18 T) (by decide) hm hd zg1 ⟨rfl,rfl,rfl,rfl,rfl,rfl,rfl,rfl⟩ zdr
  (fun ws G Q h=>by obtain ⟨t,D,V,p,r,rfl,_⟩:=h;rfl) (fun ws G Q h=>zks (by decide) h) (fun ws G Q Q' E k hh=>by
   obtain ⟨t,D,V,p,r,h1,h2,h3,h4,h5,h6,h7,h8,h⟩:=hh;exact ⟨t,D,V,p,r,h1,h2,h3,h4,h5,h6,h7,h8,fun G' a b c=>k _ _ (h G' a b c)⟩) (fun _ _ _ _ _ _=>us3 (fun _ _ _=>rfl)) rfl
theorem p20 (T:Txt q.K q.mg sA nA oA jA hB hL hW hR hT hM):Pn q sA nA 20:=by
 obtain ⟨f,hm,hd⟩:=T.rj
 exact wQ (sp:=spRJ) (M:=rZ) T (p19 T) (by decide) hm hd cY ⟨rfl,rfl,rfl,rfl,rfl,rfl,rfl,rfl⟩ mZ
  (fun ws G Q h=>by obtain ⟨t,m,q,rfl,_⟩:=h;rfl) (fun ws G Q h=>zjc (by decide) h) (fun ws G Q Q' E k hh=>by
   obtain ⟨t,m,q,h1,h2,h3,h4,h⟩:=hh;exact ⟨t,m,q,h1,h2,h3,h4,fun G' y=>k _ _ (h G' y)⟩) (fun _ _ _ _ _ _=>us1 (fun _=>rfl)) rfl
theorem p21 (T:Txt q.K q.mg sA nA oA jA hB hL hW hR hT hM):Pn q sA nA 21:=by
 obtain ⟨f,hm,hd⟩:=T.isn
 exact wQ (sp:=zeJ) (M:=zbF) T (p20 T) (by decide) hm hd zc0 ⟨rfl,rfl,rfl,rfl,rfl,rfl,rfl,rfl⟩ zaT
  (fun ws G Q h=>by obtain ⟨x,rfl,_⟩:=h;rfl) (fun ws G Q h=>zhK (by decide) h) (fun ws G Q Q' E k hh=>by
   obtain ⟨x,h1,h2,h⟩:=hh;exact ⟨x,h1,h2,fun G' y=>k _ _ (h G' y)⟩) (fun _ _ _ _ _ _=>us1 (fun _=>rfl)) rfl
theorem p22 (T:Txt q.K q.mg sA nA oA jA hB hL hW hR hT hM):Pn q sA nA 22:=by
 obtain ⟨f,hm,hd⟩:=T.rw_
 exact wQ (sp:=spRW) (M:=fQ) T (p21 T) (by decide) hm hd zaE ⟨rfl,rfl,rfl,rfl,rfl,rfl,rfl,rfl⟩ cT
  (fun ws G Q h=>by obtain ⟨x,rfl,_⟩:=h;rfl) (fun ws G Q h=>zja (by decide) h) (fun ws G Q Q' E k hh=>by
   obtain ⟨x,h1,h2,h⟩:=hh;exact ⟨x,h1,h2,fun G' y=>k _ _ (h G' y)⟩) (fun _ _ _ _ _ _=>us1 (fun _=>rfl)) rfl
theorem p23 (T:Txt q.K q.mg sA nA oA jA hB hL hW hR hT hM):Pn q sA nA 23:=by
 obtain ⟨f,hm,hd⟩:=T.wb
 exact wQ (sp:=spWB) (M:=jK) T (p22 T) (by decide) hm hd vY ⟨rfl,rfl,rfl,rfl,rfl,rfl,rfl,rfl⟩ kR
  (fun ws G Q h=>by obtain ⟨x,rfl,_⟩:=h;rfl) (fun ws G Q h=>zcA h) (fun ws G Q Q' E k hh=>by
   obtain ⟨t,h1,h2,h⟩:=hh;exact ⟨t,h1,h2,h.mono k⟩) (fun _ _ _ _ _ _=>us1 (fun _=>rfl)) rfl
theorem p24 (T:Txt q.K q.mg sA nA oA jA hB hL hW hR hT hM):Pn q sA nA 24:=by
 obtain ⟨f,hm,hd⟩:=T.wa
 exact wQ (sp:=spWA) (M:=qX) T (p23 T) (by decide) hm hd uO ⟨rfl,rfl,rfl,rfl,rfl,rfl,rfl,rfl⟩ vM
  (fun ws G Q h=>by obtain ⟨x,rfl,_⟩:=h;rfl) (fun ws G Q h=>ziC (by decide) h) (fun ws G Q Q' E k hh=>by
   obtain ⟨t,h1,h2,h⟩:=hh;exact ⟨t,h1,h2,h.mono k⟩) (fun _ _ _ _ _ _=>us1 (fun _=>rfl)) rfl
theorem p25 (T:Txt q.K q.mg sA nA oA jA hB hL hW hR hT hM):Pn q sA nA 25:=by
 obtain ⟨f,hm,hd⟩:=T.rs
 exact wQ (sp:=spRS) (M:=sB) T (p24 T) (by decide) hm hd cZ ⟨rfl,rfl,rfl,rfl,rfl,rfl,rfl,rfl⟩ nC
  (fun ws G Q h=>by obtain ⟨t,m,rfl,_⟩:=h;rfl) (fun ws G Q h=>zjb (by decide) h) (fun ws G Q Q' E k hh=>by
   obtain ⟨t,m,h1,h2,h3,h⟩:=hh;exact ⟨t,m,h1,h2,h3,fun G' y=>k _ _ (h G' y)⟩) (fun _ _ _ _ _ _=>us1 (fun _=>rfl)) rfl
theorem p26 (T:Txt q.K q.mg sA nA oA jA hB hL hW hR hT hM):Pn q sA nA 26:=by
 exact next (p25 T) (by decide) rfl fun A hr=>zfK (gX hr) T.srt
theorem p27 (T:Txt q.K q.mg sA nA oA jA hB hL hW hR hT hM):Pn q sA nA 27:=by
 obtain ⟨f,hm,hd⟩:=T.once
 exact wQ (sp:=zbm) (M:=sE) T (p26 T) (by decide) hm hd dC ⟨rfl,rfl,rfl,rfl,rfl,rfl,rfl,rfl⟩ nG
  (fun ws G Q h=>by obtain ⟨p,xs,rfl,_⟩:=h;rfl) (fun ws G Q h=>zfd (by decide) h) (fun ws G Q Q' E k hh=>by
   obtain ⟨p,xs,h1,h2,h3,h⟩:=hh;exact ⟨p,xs,h1,h2,h3,fun ys so=>(h ys so).mono k⟩) (fun _ _ _ _ _ _=>us1 (fun _=>rfl)) rfl
theorem p28 (T:Txt q.K q.mg sA nA oA jA hB hL hW hR hT hM):Pn q sA nA 28:=by
 obtain ⟨f,hm,hd⟩:=T.parts
 exact wQ (sp:=mJ) (M:=fN) T (p27 T) (by decide) hm hd zaF ⟨rfl,rfl,rfl,rfl,rfl,rfl,rfl,rfl⟩ cR
  (fun ws G Q h=>by obtain ⟨t,rfl,_⟩:=h;rfl) (fun ws G Q h=>zdb (by decide) h) (fun ws G Q Q' E k hh=>by
   obtain ⟨t,h1,h2,h⟩:=hh;exact ⟨t,h1,h2,h.mono k⟩) (fun _ _ _ _ _ _=>us1 (fun _=>rfl)) rfl
theorem p29 (T:Txt q.K q.mg sA nA oA jA hB hL hW hR hT hM):Pn q sA nA 29:=by
 obtain ⟨f,hm,hd⟩:=T.pof
 exact wQ (sp:=zeI) (M:=bM) T (p28 T) (by decide) hm hd zcc ⟨rfl,rfl,rfl,rfl,rfl,rfl,rfl,rfl⟩ zai
  (fun ws G Q h=>by obtain ⟨t,rfl,_⟩:=h;rfl) (fun ws G Q h=>zhi (by decide) h) (fun ws G Q Q' E k hh=>by
   obtain ⟨t,h1,h2,h⟩:=hh;exact ⟨t,h1,h2,h.mono k⟩) (fun _ _ _ _ _ _=>us1 (fun _=>rfl)) rfl
theorem p30 (T:Txt q.K q.mg sA nA oA jA hB hL hW hR hT hM):Pn q sA nA 30:=by
 obtain ⟨f,hm,hd⟩:=T.tur
 exact zjN (N:=21) (sp:=qC) (M:=rW) T (p29 T) (by decide) hm hd cW (fun j=>⟨rfl,rfl,rfl,rfl,rfl,rfl,rfl,rfl⟩) mX
  (fun ws G Q hh=>by
   obtain ⟨d,l,t,_,_,_,_,h1,_⟩:=hh;omega) (fun j ws G Q h=>by obtain ⟨d,l,t,rfl,_⟩:=h;rfl) (fun j ws G Q h=>zb4 h) (fun j ws G Q Q' E k hh=>by
   obtain ⟨d,l,t,h1,h2,h3,h4,h5,h⟩:=hh;exact ⟨d,l,t,h1,h2,h3,h4,h5,fun s G' a b c d e=>k _ _ (h s G' a b c d e)⟩) (fun _ _ _ _ _ _=>us2 fun _ _=>rfl) rfl
theorem zhG:(zZ slaw).names.lookup ("_law_script" : Str)=some .local:=by decide +kernel
theorem zj0 {P:Program} {w:World} {K:yL} {mg:Str->Option Value} (T:Txt K mg sA nA oA jA hB hL hW hR hT hM) {f:Addr} (hd:HD K "law" "law" slaw .none f):∃ fd:FuncData,(∀ (s:Shared) (u:Value),BindsTo s fd ⟨[u],[]⟩ [("_law_script", u)])/\fd.scope.names.lookup ("_law_script" : Str)=some .local/\∀ base:Heap,FnOk P w K mg base CX0 105 f fd ["_law_script"] (vC K bZ):=by
 obtain ⟨fd,F,kV,doc,pm,an,cdv,ct,e⟩:=hd.fd;refine ⟨fd,fun s u=>by subst e;exact .of_eq rfl,by subst e;exact zhG,fun base=>rL (q:=⟨P,w,K,mg,base⟩) (k:=104) (sp:=bZ) (M:=mlaw) F sclaw (good (q:=⟨P,w,K,mg,base⟩) T (p30 T)) ⟨rfl,rfl,rfl,rfl,rfl,rfl,rfl,rfl⟩ zhC (fun ws G Q h=>by obtain ⟨a,ns,rfl,_⟩:=h;rfl) fun ws G Q h=>?_⟩;obtain ⟨a,ns,rfl,hs,hl,h⟩:=h;exact zhF (by decide) hs hl h
end
theorem all_mk {l:PySem.W.OpenLaw} {w:World} {K:yL} {h:Heap} {mg:Str->Option Value} {fa sA nA oA jA hB hL hW hR hT hM f1 f2 f3 f4 f5 f6 f7 f8 f9 f10 f11 f12 f13 f14 f15 f16 f17 f18 f19 f20 f21 f22 f23 f24 f25:Addr} (X:K.In h) (G:h.Ns mainGlobals mg) (hfa:mg "law" = some (.ref fa))
  {od1 an1 od2 an2 od3 an3 od4 an4 od5 an5 od6 an6 od7 an7 od8 an8 od9 an9 od10 an10 od11 an11 od12 an12 od13 an13 od14 an14 od15 an15 od16 an16 od17 an17 od18 an18 od19 an19 od20 an20 od21 an21 od22 an22 od23 an23 od24 an24 od25 an25:Option Addr} {sl1 sl2 sl3 sl4 sl5 sl6 sl7 sl8 sl9 sl10 sl11 sl12 sl13 sl14 sl15 sl16 sl17 sl18 sl19 sl20 sl21 sl22 sl23 sl24 sl25:Array (Option Value)} {oc1 kV1 dc1 pm1 cd1 ct1 oc2 kV2 dc2 pm2 cd2 ct2 oc3 kV3 dc3 pm3 cd3 ct3 oc4 kV4 dc4 pm4 cd4 ct4 oc5 kV5 dc5 pm5 cd5 ct5 oc6 kV6 dc6 pm6 cd6 ct6 oc7 kV7 dc7 pm7 cd7 ct7 oc8 kV8 dc8 pm8 cd8 ct8 oc9 kV9 dc9 pm9 cd9 ct9 oc10 kV10 dc10 pm10 cd10 ct10 oc11 kV11 dc11 pm11 cd11 ct11 oc12 kV12 dc12 pm12 cd12 ct12 oc13 kV13 dc13 pm13 cd13 ct13 oc14 kV14 dc14 pm14 cd14 ct14 oc15 kV15 dc15 pm15 cd15 ct15 oc16 kV16 dc16 pm16 cd16 ct16 oc17 kV17 dc17 pm17 cd17 ct17 oc18 kV18 dc18 pm18 cd18 ct18 oc19 kV19 dc19 pm19 cd19 ct19 oc20 kV20 dc20 pm20 cd20 ct20 oc21 kV21 dc21 pm21 cd21 ct21 oc22 kV22 dc22 pm22 cd22 ct22 oc23 kV23 dc23 pm23 cd23 ct23 oc24 kV24 dc24 pm24 cd24 ct24 oc25 kV25 dc25 pm25 cd25 ct25:Value} {t1 t2 t3 t4:Addr} {odS anS odO anO ot1 ot2 ot3 ot4 oN oJ:Option Addr} {slS slO st1 st2 st3 st4 sN sJ:Array (Option Value)} {ocS kVS dcS pmS cdS ctS ocO kVO dcO pmO cdO ctO:Value} {nB nL nW nR nT nM nt1 nt2 nt3 nt4 nN nJ:Nat} {tLo tSi kB0 kB1 kB2 kB3 vB0 vB1 vB2 vB3 kL0 kL1 kL2 kL3 kW0 kW1 kW2 vW0 vW1 vW2 kR0 kR1 kR2 kR3 kR4 vR0 vR1 vR2 vR3 vR4 kT0 kT1 kT2 kT3 vT0 vT1 vT2 vT3 kM0 kM1 kM2 vM0 vM1 vM2 it10 it20 it21 it30 it31 it40 it41 vN0 vN1 vN2 vN3 vJ0 vJ1 vJ2 vJ3 vJ4 vJ5:Tok} {hB0 hB1 hB2 hB3 hL0 hL1 hL2 hL3 hW0 hW1 hW2 hR0 hR1 hR2 hR3 hR4 hT0 hT1 hT2 hT3 hM0 hM1 hM2:Int}
  (a1:nsIn K mainGlobals "_law_deal" = some (some (.ref f1))) (l1:K.lookup f1=some ⟨oc1,od1,.func (fnOf "_law_deal" "_law_deal" (zA jT) (zT jT) (zZ jT) .none kV1 dc1 pm1 an1 cd1 ct1),sl1⟩) (c1:codeIn K cd1 "_law_deal" = true) (k1:keepIn K (.ref f1)=true)
  (a2:nsIn K mainGlobals "_law_draw" = some (some (.ref f2))) (l2:K.lookup f2=some ⟨oc2,od2,.func (fnOf "_law_draw" "_law_draw" (zA jU) (zT jU) (zZ jU) .none kV2 dc2 pm2 an2 cd2 ct2),sl2⟩) (c2:codeIn K cd2 "_law_draw" = true) (k2:keepIn K (.ref f2)=true)
  (a3:nsIn K mainGlobals "_law_names" = some (some (.ref f3))) (l3:K.lookup f3=some ⟨oc3,od3,.func (fnOf "_law_names" "_law_names" (zA wS) (zT wS) (zZ wS) .none kV3 dc3 pm3 an3 cd3 ct3),sl3⟩) (c3:codeIn K cd3 "_law_names" = true) (k3:keepIn K (.ref f3)=true)
  (a4:nsIn K mainGlobals "_law_large" = some (some (.ref f4))) (l4:K.lookup f4=some ⟨oc4,od4,.func (fnOf "_law_large" "_law_large" (zA wR) (zT wR) (zZ wR) .none kV4 dc4 pm4 an4 cd4 ct4),sl4⟩) (c4:codeIn K cd4 "_law_large" = true) (k4:keepIn K (.ref f4)=true)
  (a5:nsIn K mainGlobals "sides_of" = some (some (.ref f5))) (l5:K.lookup f5=some ⟨oc5,od5,.func (fnOf "sides_of" "sides_of" (zA xY) (zT xY) (zZ xY) .none kV5 dc5 pm5 an5 cd5 ct5),sl5⟩) (c5:codeIn K cd5 "sides_of" = true) (k5:keepIn K (.ref f5)=true)
  (a6:nsIn K mainGlobals "all_within" = some (some (.ref f6))) (l6:K.lookup f6=some ⟨oc6,od6,.func (fnOf "all_within" "all_within" (zA wT) (zT wT) (zZ wT) .none kV6 dc6 pm6 an6 cd6 ct6),sl6⟩) (c6:codeIn K cd6 "all_within" = true) (k6:keepIn K (.ref f6)=true)
  (a7:nsIn K mainGlobals "joined_text" = some (some (.ref f7))) (l7:K.lookup f7=some ⟨oc7,od7,.func (fnOf "joined_text" "joined_text" (zA xC) (zT xC) (zZ xC) .none kV7 dc7 pm7 an7 cd7 ct7),sl7⟩) (c7:codeIn K cd7 "joined_text" = true) (k7:keepIn K (.ref f7)=true)
  (a8:nsIn K mainGlobals "show_joined" = some (some (.ref f8))) (l8:K.lookup f8=some ⟨oc8,od8,.func (fnOf "show_joined" "show_joined" (zA xF) (zT xF) (zZ xF) .none kV8 dc8 pm8 an8 cd8 ct8),sl8⟩) (c8:codeIn K cd8 "show_joined" = true) (k8:keepIn K (.ref f8)=true)
  (a9:nsIn K mainGlobals "name_of" = some (some (.ref f9))) (l9:K.lookup f9=some ⟨oc9,od9,.func (fnOf "name_of" "name_of" (zA xK) (zT xK) (zZ xK) .none kV9 dc9 pm9 an9 cd9 ct9),sl9⟩) (c9:codeIn K cd9 "name_of" = true) (k9:keepIn K (.ref f9)=true)
  (a10:nsIn K mainGlobals "show_saying" = some (some (.ref f10))) (l10:K.lookup f10=some ⟨oc10,od10,.func (fnOf "show_saying" "show_saying" (zA xG) (zT xG) (zZ xG) .none kV10 dc10 pm10 an10 cd10 ct10),sl10⟩) (c10:codeIn K cd10 "show_saying" = true) (k10:keepIn K (.ref f10)=true)
  (a11:nsIn K mainGlobals "put_together" = some (some (.ref f11))) (l11:K.lookup f11=some ⟨oc11,od11,.func (fnOf "put_together" "put_together" (zA xO) (zT xO) (zZ xO) .none kV11 dc11 pm11 an11 cd11 ct11),sl11⟩) (c11:codeIn K cd11 "put_together" = true) (k11:keepIn K (.ref f11)=true)
  (a12:nsIn K mainGlobals "take_left" = some (some (.ref f12))) (l12:K.lookup f12=some ⟨oc12,od12,.func (fnOf "take_left" "take_left" (zA jX) (zT jX) (zZ jX) .none kV12 dc12 pm12 an12 cd12 ct12),sl12⟩) (c12:codeIn K cd12 "take_left" = true) (k12:keepIn K (.ref f12)=true)
  (a13:nsIn K mainGlobals "begin_side" = some (some (.ref f13))) (l13:K.lookup f13=some ⟨oc13,od13,.func (fnOf "begin_side" "begin_side" (zA wU) (zT wU) (zZ wU) .none kV13 dc13 pm13 an13 cd13 ct13),sl13⟩) (c13:codeIn K cd13 "begin_side" = true) (k13:keepIn K (.ref f13)=true)
  (a14:nsIn K mainGlobals "go_on" = some (some (.ref f14))) (l14:K.lookup f14=some ⟨oc14,od14,.func (fnOf "go_on" "go_on" (zA sZ) (zT sZ) (zZ sZ) .none kV14 dc14 pm14 an14 cd14 ct14),sl14⟩) (c14:codeIn K cd14 "go_on" = true) (k14:keepIn K (.ref f14)=true)
  (a15:nsIn K mainGlobals "read_joined" = some (some (.ref f15))) (l15:K.lookup f15=some ⟨oc15,od15,.func (fnOf "read_joined" "read_joined" (zA xD) (zT xD) (zZ xD) .none kV15 dc15 pm15 an15 cd15 ct15),sl15⟩) (c15:codeIn K cd15 "read_joined" = true) (k15:keepIn K (.ref f15)=true)
  (a16:nsIn K mainGlobals "is_name" = some (some (.ref f16))) (l16:K.lookup f16=some ⟨oc16,od16,.func (fnOf "is_name" "is_name" (zA qM) (zT qM) (zZ qM) .none kV16 dc16 pm16 an16 cd16 ct16),sl16⟩) (c16:codeIn K cd16 "is_name" = true) (k16:keepIn K (.ref f16)=true)
  (a17:nsIn K mainGlobals "read_word" = some (some (.ref f17))) (l17:K.lookup f17=some ⟨oc17,od17,.func (fnOf "read_word" "read_word" (zA jW) (zT jW) (zZ jW) .none kV17 dc17 pm17 an17 cd17 ct17),sl17⟩) (c17:codeIn K cd17 "read_word" = true) (k17:keepIn K (.ref f17)=true)
  (a18:nsIn K mainGlobals "words_between_blanks" = some (some (.ref f18))) (l18:K.lookup f18=some ⟨oc18,od18,.func (fnOf "words_between_blanks" "words_between_blanks" (zA yT) (zT yT) (zZ yT) .none kV18 dc18 pm18 an18 cd18 ct18),sl18⟩) (c18:codeIn K cd18 "words_between_blanks" = true) (k18:keepIn K (.ref f18)=true)
  (a19:nsIn K mainGlobals "words_and_brackets" = some (some (.ref f19))) (l19:K.lookup f19=some ⟨oc19,od19,.func (fnOf "words_and_brackets" "words_and_brackets" (zA yR) (zT yR) (zZ yR) .none kV19 dc19 pm19 an19 cd19 ct19),sl19⟩) (c19:codeIn K cd19 "words_and_brackets" = true) (k19:keepIn K (.ref f19)=true)
  (a20:nsIn K mainGlobals "read_saying" = some (some (.ref f20))) (l20:K.lookup f20=some ⟨oc20,od20,.func (fnOf "read_saying" "read_saying" (zA xE) (zT xE) (zZ xE) .none kV20 dc20 pm20 an20 cd20 ct20),sl20⟩) (c20:codeIn K cd20 "read_saying" = true) (k20:keepIn K (.ref f20)=true)
  (a21:nsIn K mainGlobals "sorted_once" = some (some (.ref f21))) (l21:K.lookup f21=some ⟨oc21,od21,.func (fnOf "sorted_once" "sorted_once" (zA xH) (zT xH) (zZ xH) .none kV21 dc21 pm21 an21 cd21 ct21),sl21⟩) (c21:codeIn K cd21 "sorted_once" = true) (k21:keepIn K (.ref f21)=true)
  (a22:nsIn K mainGlobals "all_parts" = some (some (.ref f22))) (l22:K.lookup f22=some ⟨oc22,od22,.func (fnOf "all_parts" "all_parts" (zA jV) (zT jV) (zZ jV) .none kV22 dc22 pm22 an22 cd22 ct22),sl22⟩) (c22:codeIn K cd22 "all_parts" = true) (k22:keepIn K (.ref f22)=true)
  (a23:nsIn K mainGlobals "parts_of" = some (some (.ref f23))) (l23:K.lookup f23=some ⟨oc23,od23,.func (fnOf "parts_of" "parts_of" (zA jI) (zT jI) (zZ jI) .none kV23 dc23 pm23 an23 cd23 ct23),sl23⟩) (c23:codeIn K cd23 "parts_of" = true) (k23:keepIn K (.ref f23)=true)
  (a24:nsIn K mainGlobals "_law_turned" = some (some (.ref f24))) (l24:K.lookup f24=some ⟨oc24,od24,.func (fnOf "_law_turned" "_law_turned" (zA xB) (zT xB) (zZ xB) .none kV24 dc24 pm24 an24 cd24 ct24),sl24⟩) (c24:codeIn K cd24 "_law_turned" = true) (k24:keepIn K (.ref f24)=true)
  (a25:nsIn K mainGlobals "law" = some (some (.ref f25))) (l25:K.lookup f25=some ⟨oc25,od25,.func (fnOf "law" "law" (zA slaw) (zT slaw) (zZ slaw) .none kV25 dc25 pm25 an25 cd25 ct25),sl25⟩) (c25:codeIn K cd25 "law" = true) (k25:keepIn K (.ref f25)=true)
  (z0:nsIn K mainGlobals "max" = some none)
  (z1:nsIn K mainGlobals "len" = some none)
  (z2:nsIn K mainGlobals "all" = some none)
  (z3:nsIn K mainGlobals "list" = some none)
  (z4:nsIn K mainGlobals "isinstance" = some none)
  (z5:nsIn K mainGlobals "range" = some none)
  (z6:nsIn K mainGlobals "zip" = some none)
  (z7:nsIn K mainGlobals "reversed" = some none)
  (z8:nsIn K mainGlobals "str" = some none)
  (z9:nsIn K mainGlobals "tuple" = some none)
  (z10:nsIn K mainGlobals "sorted" = some none)
  (aLo:nsIn K mainGlobals "LONGEST_NAME" = some (some (.int 6 tLo)))
  (aSi:nsIn K mainGlobals "SINGLE_BINDS" = some (some (.int 5 tSi)))
  (nb:nsIn K cStatics sharingNotToldKey=some none)
  (aS:nsIn K mainGlobals "sides_of" = some (some (.ref sA)))
  (lS:K.lookup sA=some ⟨ocS,odS,.func (fnOf "sides_of" "sides_of" (zA xY) (zT xY) (zZ xY) .none kVS dcS pmS anS cdS ctS),slS⟩)
  (cS:codeIn K cdS "sides_of" = true)
  (kS:keepIn K (.ref sA)=true)
  (aO:nsIn K mainGlobals "name_of" = some (some (.ref nA)))
  (lO:K.lookup nA=some ⟨ocO,odO,.func (fnOf "name_of" "name_of" (zA xK) (zT xK) (zZ xK) .none kVO dcO pmO anO cdO ctO),slO⟩)
  (cO:codeIn K cdO "name_of" = true)
  (kO:keepIn K (.ref nA)=true)
  (aB:nsIn K mainGlobals "BINDS_saywrite" = some (some (.ref hB)))
  (lB:K.lookup hB=some ⟨.type "dict", none,.dict #[⟨hB0,.str "if" kB0,.int 1 vB0⟩,⟨hB1,.str "or" kB1,.int 2 vB1⟩,⟨hB2,.str "and" kB2,.int 3 vB2⟩,⟨hB3,.str "not" kB3,.int 4 vB3⟩] nB,#[]⟩)
  (hwB:(hB==sysModules)=false)
  (aL:nsIn K mainGlobals "LEAST" = some (some (.ref hL)))
  (lL:K.lookup hL=some ⟨.type "dict", none,.dict #[⟨hL0,.str "not" kL0,.ref t1⟩,⟨hL1,.str "and" kL1,.ref t2⟩,⟨hL2,.str "or" kL2,.ref t3⟩,⟨hL3,.str "if" kL3,.ref t4⟩] nL,#[]⟩)
  (hwL:(hL==sysModules)=false)
  (aW:nsIn K mainGlobals "BETWEEN" = some (some (.ref hW)))
  (lW:K.lookup hW=some ⟨.type "dict", none,.dict #[⟨hW0,.str "and" kW0,.str " and " vW0⟩,⟨hW1,.str "or" kW1,.str " or " vW1⟩,⟨hW2,.str "if" kW2,.str " then " vW2⟩] nW,#[]⟩)
  (hwW:(hW==sysModules)=false)
  (aR:nsIn K mainGlobals "BINDS_sayread" = some (some (.ref hR)))
  (lR:K.lookup hR=some ⟨.type "dict", none,.dict #[⟨hR0,.str "(" kR0,.int 0 vR0⟩,⟨hR1,.str "then" kR1,.int 1 vR1⟩,⟨hR2,.str "or" kR2,.int 2 vR2⟩,⟨hR3,.str "and" kR3,.int 3 vR3⟩,⟨hR4,.str "not" kR4,.int 4 vR4⟩] nR,#[]⟩)
  (hwR:(hR==sysModules)=false)
  (aT:nsIn K mainGlobals "TAKES" = some (some (.ref hT)))
  (lT:K.lookup hT=some ⟨.type "dict", none,.dict #[⟨hT0,.str "then" kT0,.int 2 vT0⟩,⟨hT1,.str "or" kT1,.int 2 vT1⟩,⟨hT2,.str "and" kT2,.int 3 vT2⟩,⟨hT3,.str ")" kT3,.int 1 vT3⟩] nT,#[]⟩)
  (hwT:(hT==sysModules)=false)
  (aM:nsIn K mainGlobals "MADE" = some (some (.ref hM)))
  (lM:K.lookup hM=some ⟨.type "dict", none,.dict #[⟨hM0,.str "then" kM0,.str "if" vM0⟩,⟨hM1,.str "or" kM1,.str "or" vM1⟩,⟨hM2,.str "and" kM2,.str "and" vM2⟩] nM,#[]⟩)
  (hwM:(hM==sysModules)=false)
  (lt1:K.lookup t1=some ⟨.type "tuple", ot1,.seq #[.int 4 it10] nt1,st1⟩)
  (lt2:K.lookup t2=some ⟨.type "tuple", ot2,.seq #[.int 3 it20,.int 4 it21] nt2,st2⟩)
  (lt3:K.lookup t3=some ⟨.type "tuple", ot3,.seq #[.int 2 it30,.int 3 it31] nt3,st3⟩)
  (lt4:K.lookup t4=some ⟨.type "tuple", ot4,.seq #[.int 2 it40,.int 1 it41] nt4,st4⟩)
  (aN:nsIn K mainGlobals "NO_NAMES" = some (some (.ref oA)))
  (lN:K.lookup oA=some ⟨.type "tuple", oN,.seq #[.str "and" vN0,.str "or" vN1,.str "not" vN2,.str "then" vN3] nN,sN⟩)
  (aJ:nsIn K mainGlobals "JOINING" = some (some (.ref jA)))
  (lJ:K.lookup jA=some ⟨.type "tuple", oJ,.seq #[.str "(" vJ0,.str ")" vJ1,.str "not" vJ2,.str "and" vJ3,.str "or" vJ4,.str "then" vJ5] nJ,sJ⟩) :
  ∃ fd:FuncData,(∀ (s:Shared) (u:Value),BindsTo s fd ⟨[u],[]⟩ [("_law_script", u)])/\fd.scope.names.lookup ("_law_script" : Str)=some .local/\∀ base:Heap,K.In base->base.Ns mainGlobals mg->FnOk l.prog w K mg base CX0 105 fa fd ["_law_script"] (vC K bZ):=by
 have e:=hfa.symm.trans (mg_of X G a25);cases e;have sz0:∀ k:Nat,k<=9->k<=sizeLine:=fun k hk=>by rw [sizeLine_eq];omega
 have rt1:∀ H,xN K H (.tup [.int 4]) (.ref t1):=tU (vs:=[.int 4]) lt1 rfl rfl (sz0 1 (by decide)) (.cons ⟨_,rfl⟩ .nil) fun H=>⟨_,_,rfl,rfl,rfl⟩;have rt2:∀ H,xN K H (.tup [.int 3,.int 4]) (.ref t2):=tU (vs:=[.int 3,.int 4]) lt2 rfl rfl (sz0 2 (by decide)) (.cons ⟨_,rfl⟩ (.cons ⟨_,rfl⟩ .nil)) fun H=>⟨_,_,rfl,rfl,⟨_,_,rfl,rfl,rfl⟩⟩;have rt3:∀ H,xN K H (.tup [.int 2,.int 3]) (.ref t3):=tU (vs:=[.int 2,.int 3]) lt3 rfl rfl (sz0 2 (by decide)) (.cons ⟨_,rfl⟩ (.cons ⟨_,rfl⟩ .nil)) fun H=>⟨_,_,rfl,rfl,⟨_,_,rfl,rfl,rfl⟩⟩;have rt4:∀ H,xN K H (.tup [.int 2,.int 1]) (.ref t4):=tU (vs:=[.int 2,.int 1]) lt4 rfl rfl (sz0 2 (by decide)) (.cons ⟨_,rfl⟩ (.cons ⟨_,rfl⟩ .nil)) fun H=>⟨_,_,rfl,rfl,⟨_,_,rfl,rfl,rfl⟩⟩
 have T:Txt K mg sA nA oA jA hB hL hW hR hT hM:={
  deal:=⟨f1,mg_of X G a1,HD.mk' l1 c1 k1⟩
  draw:=⟨f2,mg_of X G a2,HD.mk' l2 c2 k2⟩
  names:=⟨f3,mg_of X G a3,HD.mk' l3 c3 k3⟩
  large:=⟨f4,mg_of X G a4,HD.mk' l4 c4 k4⟩
  sides:=⟨f5,mg_of X G a5,HD.mk' l5 c5 k5⟩
  within:=⟨f6,mg_of X G a6,HD.mk' l6 c6 k6⟩
  jt:=⟨f7,mg_of X G a7,HD.mk' l7 c7 k7⟩
  sj:=⟨f8,mg_of X G a8,HD.mk' l8 c8 k8⟩
  nameof:=⟨f9,mg_of X G a9,HD.mk' l9 c9 k9⟩
  show_:=⟨f10,mg_of X G a10,HD.mk' l10 c10 k10⟩
  put_:=⟨f11,mg_of X G a11,HD.mk' l11 c11 k11⟩
  take_:=⟨f12,mg_of X G a12,HD.mk' l12 c12 k12⟩
  begin_:=⟨f13,mg_of X G a13,HD.mk' l13 c13 k13⟩
  go_:=⟨f14,mg_of X G a14,HD.mk' l14 c14 k14⟩
  rj:=⟨f15,mg_of X G a15,HD.mk' l15 c15 k15⟩
  isn:=⟨f16,mg_of X G a16,HD.mk' l16 c16 k16⟩
  rw_:=⟨f17,mg_of X G a17,HD.mk' l17 c17 k17⟩
  wb:=⟨f18,mg_of X G a18,HD.mk' l18 c18 k18⟩
  wa:=⟨f19,mg_of X G a19,HD.mk' l19 c19 k19⟩
  rs:=⟨f20,mg_of X G a20,HD.mk' l20 c20 k20⟩
  once:=⟨f21,mg_of X G a21,HD.mk' l21 c21 k21⟩
  parts:=⟨f22,mg_of X G a22,HD.mk' l22 c22 k22⟩
  pof:=⟨f23,mg_of X G a23,HD.mk' l23 c23 k23⟩
  tur:=⟨f24,mg_of X G a24,HD.mk' l24 c24 k24⟩
  max:=mg_none_of X G z0
  len:=mg_none_of X G z1
  all:=mg_none_of X G z2
  list:=mg_none_of X G z3
  isi:=mg_none_of X G z4
  range:=mg_none_of X G z5
  zip:=mg_none_of X G z6
  rev:=mg_none_of X G z7
  str:=mg_none_of X G z8
  tup:=mg_none_of X G z9
  srt:=mg_none_of X G z10
  mgLo:=⟨tLo,mg_of X G aLo⟩
  mgSi:=⟨tSi,mg_of X G aSi⟩
  mgS:=mg_of X G aS
  hdS:=HD.mk' lS cS kS
  mgO:=mg_of X G aO
  hdO:=HD.mk' lO cO kO
  nb:=nb
  mgB:=mg_of X G aB
  rpB:=fun H=>⟨hB,[.int 1,.int 2,.int 3,.int 4],rfl,⟨_,_,_,lB,⟨rfl,rfl,rfl⟩,rfl,sz0 4 (by decide),hwB,⟨"if", kB0,.int 1,_,_,rfl,rfl,rfl,⟨_,rfl⟩,⟨"or", kB1,.int 2,_,_,rfl,rfl,rfl,⟨_,rfl⟩,⟨"and", kB2,.int 3,_,_,rfl,rfl,rfl,⟨_,rfl⟩,⟨"not", kB3,.int 4,_,_,rfl,rfl,rfl,⟨_,rfl⟩,⟨rfl,rfl⟩⟩⟩⟩⟩⟩,⟨_,_,rfl,rfl,⟨_,_,rfl,rfl,⟨_,_,rfl,rfl,⟨_,_,rfl,rfl,rfl⟩⟩⟩⟩⟩
  mgL:=mg_of X G aL
  rpL:=fun H=>⟨hL,[.ref t1,.ref t2,.ref t3,.ref t4],rfl,⟨_,_,_,lL,⟨rfl,rfl,rfl⟩,rfl,sz0 4 (by decide),hwL,⟨"not", kL0,.ref t1,_,_,rfl,rfl,rfl,rfl,⟨"and", kL1,.ref t2,_,_,rfl,rfl,rfl,rfl,⟨"or", kL2,.ref t3,_,_,rfl,rfl,rfl,rfl,⟨"if", kL3,.ref t4,_,_,rfl,rfl,rfl,rfl,⟨rfl,rfl⟩⟩⟩⟩⟩⟩,⟨_,_,rfl,rt1 H,⟨_,_,rfl,rt2 H,⟨_,_,rfl,rt3 H,⟨_,_,rfl,rt4 H,rfl⟩⟩⟩⟩⟩
  mgW:=mg_of X G aW
  rpW:=fun H=>⟨hW,[.str " and ", .str " or ", .str " then "],rfl,⟨_,_,_,lW,⟨rfl,rfl,rfl⟩,rfl,sz0 3 (by decide),hwW,⟨"and", kW0,.str " and ", _,_,rfl,rfl,rfl,⟨_,rfl⟩,⟨"or", kW1,.str " or ", _,_,rfl,rfl,rfl,⟨_,rfl⟩,⟨"if", kW2,.str " then ", _,_,rfl,rfl,rfl,⟨_,rfl⟩,⟨rfl,rfl⟩⟩⟩⟩⟩,⟨_,_,rfl,rfl,⟨_,_,rfl,rfl,⟨_,_,rfl,rfl,rfl⟩⟩⟩⟩
  mgR:=mg_of X G aR
  rpR:=fun H=>⟨hR,[.int 0,.int 1,.int 2,.int 3,.int 4],rfl,⟨_,_,_,lR,⟨rfl,rfl,rfl⟩,rfl,sz0 5 (by decide),hwR,⟨"(", kR0,.int 0,_,_,rfl,rfl,rfl,⟨_,rfl⟩,⟨"then", kR1,.int 1,_,_,rfl,rfl,rfl,⟨_,rfl⟩,⟨"or", kR2,.int 2,_,_,rfl,rfl,rfl,⟨_,rfl⟩,⟨"and", kR3,.int 3,_,_,rfl,rfl,rfl,⟨_,rfl⟩,⟨"not", kR4,.int 4,_,_,rfl,rfl,rfl,⟨_,rfl⟩,⟨rfl,rfl⟩⟩⟩⟩⟩⟩⟩,⟨_,_,rfl,rfl,⟨_,_,rfl,rfl,⟨_,_,rfl,rfl,⟨_,_,rfl,rfl,⟨_,_,rfl,rfl,rfl⟩⟩⟩⟩⟩⟩
  mgT:=mg_of X G aT
  rpT:=fun H=>⟨hT,[.int 2,.int 2,.int 3,.int 1],rfl,⟨_,_,_,lT,⟨rfl,rfl,rfl⟩,rfl,sz0 4 (by decide),hwT,⟨"then", kT0,.int 2,_,_,rfl,rfl,rfl,⟨_,rfl⟩,⟨"or", kT1,.int 2,_,_,rfl,rfl,rfl,⟨_,rfl⟩,⟨"and", kT2,.int 3,_,_,rfl,rfl,rfl,⟨_,rfl⟩,⟨")", kT3,.int 1,_,_,rfl,rfl,rfl,⟨_,rfl⟩,⟨rfl,rfl⟩⟩⟩⟩⟩⟩,⟨_,_,rfl,rfl,⟨_,_,rfl,rfl,⟨_,_,rfl,rfl,⟨_,_,rfl,rfl,rfl⟩⟩⟩⟩⟩
  mgM:=mg_of X G aM
  rpM:=fun H=>⟨hM,[.str "if", .str "or", .str "and"],rfl,⟨_,_,_,lM,⟨rfl,rfl,rfl⟩,rfl,sz0 3 (by decide),hwM,⟨"then", kM0,.str "if", _,_,rfl,rfl,rfl,⟨_,rfl⟩,⟨"or", kM1,.str "or", _,_,rfl,rfl,rfl,⟨_,rfl⟩,⟨"and", kM2,.str "and", _,_,rfl,rfl,rfl,⟨_,rfl⟩,⟨rfl,rfl⟩⟩⟩⟩⟩,⟨_,_,rfl,rfl,⟨_,_,rfl,rfl,⟨_,_,rfl,rfl,rfl⟩⟩⟩⟩
  mgN:=mg_of X G aN
  rpN:=tU (vs:=[.str "and", .str "or", .str "not", .str "then"]) lN rfl rfl (sz0 4 (by decide)) (.cons ⟨_,rfl⟩ (.cons ⟨_,rfl⟩ (.cons ⟨_,rfl⟩ (.cons ⟨_,rfl⟩ .nil)))) fun H=>⟨_,_,rfl,rfl,⟨_,_,rfl,rfl,⟨_,_,rfl,rfl,⟨_,_,rfl,rfl,rfl⟩⟩⟩⟩
  mgJ:=mg_of X G aJ
  rpJ:=tU (vs:=[.str "(", .str ")", .str "not", .str "and", .str "or", .str "then"]) lJ rfl rfl (sz0 6 (by decide)) (.cons ⟨_,rfl⟩ (.cons ⟨_,rfl⟩ (.cons ⟨_,rfl⟩ (.cons ⟨_,rfl⟩ (.cons ⟨_,rfl⟩ (.cons ⟨_,rfl⟩ .nil)))))) fun H=>⟨_,_,rfl,rfl,⟨_,_,rfl,rfl,⟨_,_,rfl,rfl,⟨_,_,rfl,rfl,⟨_,_,rfl,rfl,⟨_,_,rfl,rfl,rfl⟩⟩⟩⟩⟩⟩ }
 obtain ⟨fd,hb,hx,hF⟩:=zj0 (P:=l.prog) (w:=w) T (HD.mk' l25 c25 k25);exact ⟨fd,hb,hx,fun base _ _=>hF base⟩
end K15
namespace PySem.W.Fast
def tw4766358148107894864:=0
def tw14866163463531813154:=0
def tw5341834734414247989:=0
def tw17003843397520728186:=0
def tw14114893274560110427:=0
def tw14818489571480941885:=0
def tw3621238092291810631:=0
def tw10552602978086992479:=0
def tw637247576286719147:=0
def tw10155134347176706144:=0
def tw6822045408072544955:=0
def tw16101523946943593573:=0
def tw16576152725738427290:=0
def tw2836801414687759300:=0
def tw8087846199483707361:=0
def tw6038478825476211751:=0
def tw3047683232268348022:=0
def tw8858620314973262620:=0
def tw8475904503332646026:=0
def tw193420269229227382:=0
def tw12285684103194875118:=0
def tw9587881890493684594:=0
def tw4434628943693625720:=0
def tw3654600926188820453:=0
def tw2217049997213241556:=0
def tw6443174981469613683:=0
def tw14386165317993859525:=0
def tw910239123312897056:=0
def tw5694806707888722153:=0
def tw6841120091995324086:=0
def tw5488030893838828604:=0
def tw4305197161866983767:=0
def tw3410666867574361299:=0
def tw2505188561223986143:=0
def tw5790733248403835353:=0
def tw14509770498689244421:=0
def tw8212624759745386224:=0
def tw5518788606382112458:=0
def tw14083175974337634123:=0
def tw12519745423069129022:=0
def tw9744031054805052214:=0
def tw9112838131704364334:=0
def tw4452031235821149311:=0
def tw14341077492769362359:=0
def tw9832273355422238668:=0
def tw11528165894069681306:=0
def tw5641448124217136295:=0
def tw5879414321515073138:=0
def tw4041992963867998441:=0
def tw3410728075687770613:=0
def tw10103403188346365652:=0
def tw13355039810965768172:=0
def tw512254967339059325:=0
def tw5338611437359575148:=0
def tw8463952521132970974:=0
def tw2098547532241951251:=0
def tw15878421077890993722:=0
def tw4676567904616855240:=0
def tw11790183092319005903:=0
def tw681474575148106614:=0
def tw1626040814931897171:=0
def tw13387039704070529069:=0
def tw17902437141805197344:=0
def tw10952613251324645682:=0
def tw10758186997388112717:=0
def tw17067630993008070180:=0
def tw11955877572772348262:=0
def tw9160361998745018117:=0
def tw12516317758133414551:=0
def tw5404041849757588029:=0
def tw17496827087594892246:=0
def tw7531804390941638227:=0
def tw14326593529553756049:=0
def tw16540080000536955490:=0
def tw3719287759678282252:=0
def tw1330880875364982933:=0
def tw6271870474453351401:=0
def tw9070898500964605347:=0
def tw1502037397618247405:=0
def tw15545863384714144383:=0
def tw5203530393689728799:=0
def tw6478137488914727611:=0
def tw14379764355753549861:=0
def tw337583519977662265:=0
def tw8145856932665370126:=0
def tw5865530478172896443:=0
def tw581225185480211469:=0
def tw12331452938562970995:=0
def tw4507903710508462945:=0
def tw18434275335466393528:=0
def tw17901440223683726320:=0
def tw9631881870744027769:=0
def tw12118990927837219736:=0
def tw16038873492506324641:=0
def tw15255563262456525984:=0
def tw1530971470870016985:=0
def tw8459984971598450297:=0
def tw7229471623354751459:=0
def tw3557958139142969006:=0
def tw9107757792898532038:=0
def tw1691145918130119480:=0
def tw13352826731946933042:=0
def tw9189550980779724800:=0
def tw3916461313063866636:=0
def tw10709368131243659365:=0
def tw16875424596420056361:=0
def tw1657478429802109896:=0
def tw12688727499357774669:=0
def tw15442287224209694519:=0
def tw17152136565254137571:=0
def tw8066525825746246830:=0
def tw3608877813532572177:=0
def tw2348011357563512167:=0
def tw9049667664080890218:=0
def tw10940502938922331527:=0
def tw4713852633929374087:=0
def tw14300017385146628200:=0
def tw5508905931017717271:=0
def tw8364557551583823256:=0
def tw17254260848384741779:=0
def tw1053434958284539194:=0
def tw6659509922839341521:=0
def tw4775305500321349076:=0
def tw11234253192759970969:=0
def tw7917943610605933610:=0
def tw14916297901051763432:=0
def tw8020292712382113890:=0
def tw17234737895568291069:=0
def tw6250780519824764963:=0
def tw10870548090860764944:=0
def tw10273419909390279248:=0
def tw17618510880519764442:=0
def tw8101378992165818766:=0
def tw6598899055002590149:=0
def tw4696237757166192285:=0
def tw2204310424898410528:=0
def tw16570903551311391:=0
def tw8005810490590566585:=0
def tw8488330263049181081:=0
def tw2191398272191273494:=0
def tw17284981677571537685:=0
def tw13613754627904965878:=0
def tw13616585055271855082:=0
def tw12440210267270115536:=0
def tw3387367408488097176:=0
def tw16884630047400639246:=0
def tw1586028499133478914:=0
def tw10450418197330463986:=0
def tw7603210842278914757:=0
def tw14188455724644574212:=0
def tw9765532480083589122:=0
def tw14757120511885633758:=0
def tw956865286805931780:=0
def tw9055447647482180902:=0
def tw8499582579910907660:=0
def tw8199999477073141507:=0
def tw810418791755441028:=0
def tw7767786843595840851:=0
def tw7151719612563343005:=0
def tw7143354031018456117:=0
def tw6858651105115618190:=0
def tw675854468746249383:=0
def tw6725264424017915772:=0
def tw5992480244391975580:=0
def tw5991561626125944039:=0
def tw4829123739548676325:=0
def tw4215312513116803068:=0
def tw3443638702404308691:=0
def tw3136331218608329349:=0
def tw3104954955099168711:=0
def tw3032663072027686979:=0
def tw2943416533810452509:=0
def tw2633104422079908978:=0
def tw2615389573721790564:=0
def tw2505328192612268671:=0
def tw231954832898803903:=0
def tw1950422696987735131:=0
def tw17942504529670494277:=0
def tw17870036595187767917:=0
def tw17582129279436159733:=0
def tw17025810676978789508:=0
def tw16524028259400855938:=0
def tw16295935524932129312:=0
def tw16157369171865517187:=0
def tw16045194827555501379:=0
def tw1573678300302840246:=0
def tw1570565116575857104:=0
def tw15543208746477356615:=0
def tw1528337918620612755:=0
def tw14989876794300517450:=0
def tw14458241233211728589:=0
def tw14309952559244355748:=0
def tw14139713244267662859:=0
def tw13964362003485827566:=0
def tw13873321869543248000:=0
def tw13307977320454652675:=0
def tw13285668505413232025:=0
def tw12599690774319163452:=0
def tw11534095016127283718:=0
def tw11490148305395448815:=0
def tw10964479032366487058:=0
def tw10708753287043647438:=0
end PySem.W.Fast
open PySem PySem.W PyProof.Rows
set_option maxRecDepth 100000 in
set_option maxHeartbeats 0 in
theorem PySem.Challenge.cw_talkcourt_k15_whole_any_saying_and_its_t_holds : PySem.Challenge.rw_talkcourt_k15_whole_any_saying_and_its_t.Holds := by
 w_on;o_law;k_head;(case hw=>w_witness2)
 k_fill
 refine L3.walk3 (l:=PySem.Challenge.rw_talkcourt_k15_whole_any_saying_and_its_t) (k:=105) rfl rfl ⟨rfl,rfl,by decide,by decide⟩ (fun w h Y=>PySem.W.kIn_of Y) ?F
 case F =>
  intro w mg fa h KX G hmg;refine' K15.all_mk KX G hmg ?a1 ?l1 ?c1 ?k1 ?a2 ?l2 ?c2 ?k2 ?a3 ?l3 ?c3 ?k3 ?a4 ?l4 ?c4 ?k4 ?a5 ?l5 ?c5 ?k5 ?a6 ?l6 ?c6 ?k6 ?a7 ?l7 ?c7 ?k7 ?a8 ?l8 ?c8 ?k8 ?a9 ?l9 ?c9 ?k9 ?a10 ?l10 ?c10 ?k10 ?a11 ?l11 ?c11 ?k11 ?a12 ?l12 ?c12 ?k12 ?a13 ?l13 ?c13 ?k13 ?a14 ?l14 ?c14 ?k14 ?a15 ?l15 ?c15 ?k15 ?a16 ?l16 ?c16 ?k16 ?a17 ?l17 ?c17 ?k17 ?a18 ?l18 ?c18 ?k18 ?a19 ?l19 ?c19 ?k19 ?a20 ?l20 ?c20 ?k20 ?a21 ?l21 ?c21 ?k21 ?a22 ?l22 ?c22 ?k22 ?a23 ?l23 ?c23 ?k23 ?a24 ?l24 ?c24 ?k24 ?a25 ?l25 ?c25 ?k25 ?z0 ?z1 ?z2 ?z3 ?z4 ?z5 ?z6 ?z7 ?z8 ?z9 ?z10 ?aLo ?aSi ?nb ?aS ?lS ?cS ?kS ?aO ?lO ?cO ?kO ?aB ?lB ?hwB ?aL ?lL ?hwL ?aW ?lW ?hwW ?aR ?lR ?hwR ?aT ?lT ?hwT ?aM ?lM ?hwM ?lt1 ?lt2 ?lt3 ?lt4 ?aN ?lN ?aJ ?lJ
  case a1|l1|c1|k1|a2|l2|c2|k2|a3|l3|c3|k3|a4|l4|c4|k4|a5|l5|c5|k5|a6|l6|c6|k6|a7|l7|c7|k7|a8|l8|c8|k8|a9|l9|c9|k9|a10|l10|c10|k10|a11|l11|c11|k11|a12|l12|c12|k12|a13|l13|c13|k13|a14|l14|c14|k14|a15|l15|c15|k15|a16|l16|c16|k16|a17|l17|c17|k17|a18|l18|c18|k18|a19|l19|c19|k19|a20|l20|c20|k20|a21|l21|c21|k21|a22|l22|c22|k22|a23|l23|c23|k23|a24|l24|c24|k24|a25|l25|c25|k25|z0|z1|z2|z3|z4|z5|z6|z7|z8|z9|z10|aLo|aSi|nb|aS|lS|cS|kS|aO|lO|cO|kO|aB|lB|aL|lL|aW|lW|aR|lR|aT|lT|aM|lM|lt1|lt2|lt3|lt4|aN|lN|aJ|lJ=>k_is
  case hwB=>first|k_is|decide|rfl
  case hwL=>first|k_is|decide|rfl
  case hwW=>first|k_is|decide|rfl
  case hwR=>first|k_is|decide|rfl
  case hwT=>first|k_is|decide|rfl
  case hwM=>first|k_is|decide|rfl
