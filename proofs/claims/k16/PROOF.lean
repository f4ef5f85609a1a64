import PyProof.Rows.All
import Wide.All
import OpenK.AllK
import Wide.FinOn
import Lean
import PyProof.EqAt
import PyProof.EqKinds
import PyProof.TupleCall
import PySem.Challenge.RW_talkcourt_k16_books_read
set_option Elab.async false
set_option linter.all false
set_option maxRecDepth 100000
set_option maxHeartbeats 8000000
theorem zzN:¬ (false=true):=Bool.false_ne_true
theorem zzB:(false=true)=False:=Bool.false_eq_true
theorem zzC {α:Type _} {a:α} {l:List α}:(a::l).length=l.length+1:=rfl
theorem zzL {α:Type _}:([]:List α).length=0:=rfl
theorem zzA (n:Nat):0+n=n:=Nat.zero_add n
theorem zzM {α β:Type _} {l:List α} {f:α->β}:(l.map f).length=l.length:=List.length_map f
theorem zzP {α β:Type _} {b:β} {l:List α} {f:α->β} (h:b∈l.map f):∃ a,a∈l/\f a=b:=List.mem_map.mp h
theorem zzS {α:Type _} {l:List α}:l.toArray.size=l.length:=List.size_toArray
theorem zzR (n:Nat):n<=n:=Nat.le_refl n
theorem zzO {α:Type _} {a b:α} (h:a∈[b]):a=b:=List.mem_singleton.mp h
theorem zzT {α:Type _} {a:α} {l:List α}:a∈a::l:=List.mem_cons_self
theorem zzU {α β:Type _} {a:α} {l:List α} {f:α->β}:(a::l).map f=f a::l.map f:=rfl
theorem zzV {α β:Type _} {f:α->β}:([]:List α).map f=[]:=rfl
theorem zzW {α:Type _} {l l':List α}:(l++l').length=l.length+l'.length:=List.length_append
noncomputable section
namespace L2
open PySem
theorem mF {M:Model} {Γ:Ctx} {p:Pos} {t:Sem Fin} {fs:List Frame} {s s':Shared} {e:End} (h:Runs M Γ p t fs s e s'):s.toks<=s'.toks:=by
 induction h<;>(try simp only [Shared.setGen] at *)<;>omega
theorem zbu {M:Model} {Γ:Ctx} {p:Pos} {g:Nat} {r:Resume} {s s':Shared} {res:GenResult} (h:Wakes M Γ p g r s res s'):s.toks<=s'.toks:=by
 unfold Wakes at h
 split at h
 .exact h.elim
 .split at h
  .obtain ⟨e,s1,h,_,_,rfl⟩:=h;have:=mF h;exact this
  .rw [h.2];exact zzR _
  .rw [h.2];exact zzR _
 .obtain ⟨e,s1,h,_,_,rfl⟩:=h;have:=mF h;exact this
 .rw [h.2];exact zzR _
 .rw [h.2];exact zzR _
theorem wp_up {α:Type} {M:Model} {Γ:Ctx} {n:Nat}:∀ (t:Sem α) (Q:α->Pos->Shared->Prop) (E:Value->Pos->Shared->Prop) (p:Pos) (s:Shared),n<=s.toks ->
  Sem.wp M Γ t (fun a p' s'=>n<=s'.toks->Q a p' s') (fun e p' s'=>n<=s'.toks->E e p' s') p s->Sem.wp M Γ t Q E p s:=by
 intro t
 induction t with
 |pure a=>intro Q E p s h z;rw [Sem.wp] at z ⊢;exact z h
 |raise e=>intro Q E p s h z;rw [Sem.wp] at z ⊢;exact z h
 |unsupported _=>intro Q E p s h z;rw [Sem.wp] at z;exact z.elim
 |finish _=>intro Q E p s h z;rw [Sem.wp] at z;exact z.elim
 |register _ _ _=>intro Q E p s h z;rw [Sem.wp] at z;exact z.elim
 | «yield» _ _ _ _ _=>intro Q E p s h z;rw [Sem.wp] at z;exact z.elim
 |load a part k ih=>intro Q E p s h z;rw [Sem.wp] at z ⊢;obtain ⟨o,e,z⟩:=z;exact ⟨o,e,ih o Q E p s h z⟩
 |update a part f k ih=>intro Q E p s h z;rw [Sem.wp] at z ⊢;exact ⟨z.1,ih () Q E p _ h z.2⟩
 |fresh k ih=>intro Q E p s h z;rw [Sem.wp] at z ⊢;exact ih _ Q E p _ (Nat.le_succ_of_le h) z
 |choose src m k ih=>intro Q E p s h z;rw [Sem.wp] at z ⊢;exact ⟨z.1,ih _ Q E p _ h z.2⟩
 |genState g k ih=>intro Q E p s h z;rw [Sem.wp] at z ⊢;obtain ⟨st,e,z⟩:=z;exact ⟨st,e,ih _ Q E p s h z⟩
 |resume g r l k ih=>intro Q E p s h z;rw [Sem.wp] at z ⊢;obtain ⟨res,s',w,z⟩:=z;exact ⟨res,s',w,ih _ Q E p s' (Nat.le_trans h (zbu w)) z⟩
 |call c hd g l k ih=>intro Q E p s h z;rw [Sem.wp] at z ⊢;obtain ⟨r,s',w,z⟩:=z;exact ⟨r,s',w,ih _ Q E p s' (Nat.le_trans h (mF w)) z⟩
 |_=>first|(intro Q E p s h z;rw [Sem.wp] at z;exact z.elim)|(rename_i ih;intro Q E p s h z;rw [Sem.wp] at z ⊢;exact ih _ Q E _ _ h z)
theorem wI {α:Type} {M:Model} {A:Around} {t:Sem α} {Q:α->Shared->Prop} {E:Value->Shared->Prop} {s:Shared} (h:0<s.toks) (w:wpAny M A t (fun a s'=>0<s'.toks->Q a s') E s):wpAny M A t Q E s:=fun Γ p hΓ =>
 wp_up (n:=1) t _ _ p s h (Sem.wp_mono M Γ t (post':=fun a _ s'=>1<=s'.toks->Q a s') (exc':=fun e _ s'=>1<=s'.toks->E e s') (fun _ _ _ z=>z) (fun _ _ _ z _=>z) p s (w Γ p hΓ))
theorem bN {M:Model} {A:Around} {E:Value->Shared->Prop} {s:Shared} {scope:Scope} {gl:Addr} {x:Str} {u:Value} {qual:Str} {fn:Option Addr} {code:Value} {bl:Addr} {Q:Env->Shared->Prop}
  (hk:scope.kind=.function) (hx:scope.names.lookup x=some .local)
  (hQ:∀ env,env=newEnv scope s.heap.objs.size gl (cellsFrom (s.heap.objs.size+1) scope.names []) qual fn code none bl ->
   ∀ s',InCallC s env.locals (bindL env.kindOf [(x,u)] fun _=>none) env.cells (bindC env.kindOf [(x,u)] fun _=>none) s'->0<s'.toks->Q env s') :
  wpAny M A (newFunctionEnv scope gl [] [(x,u)] qual fn code none bl) Q E s:=by
 simp only [newFunctionEnv,Option.isSome_none,zzB,if_false];refine wpAny_bind (wpAny_alloc (wpAny_bind (wpAny_layCells _ (fun name kind cells=>by cases h:kind==NameKind.cell<;>simp [h]) _ _ _ _ ?_)));have ok:=cellsFrom_ok scope.names (s.heap.push { cls:=.type "frame", data:=.dict #[] }) (s.heap.objs.size+1) [] ⟨fun _ _ z=>(nomatch z),List.Pairwise.nil⟩ (by rw [Heap.size_push];exact zzR _);rw [Heap.size_push] at ok;rw [show ({ s with heap:=s.heap.push { cls:=.type "frame", data:=.dict #[] } }:Shared).heap.objs.size=s.heap.objs.size+1 from Heap.size_push ..];have ns:=(Heap.Ns.new s.heap (.type "frame")).keeps (pushCells_keeps scope.names (s.heap.push { cls:=.type "frame", data:=.dict #[] }));rw [List.forIn_cons];refine wpAny_bind (wpAny_bind (wpAny_bind (wpAny_storeName_local (env:=newEnv scope s.heap.objs.size gl (cellsFrom (s.heap.objs.size+1) scope.names []) qual fn code none bl) hx ns (fun h' hn' hs'=>wpAny_pure ?_) (by show (scope.kind==ScopeKind.class || (scope.kind==ScopeKind.module&&(s.heap.objs.size != gl)))=false;rw [hk];rfl))));show wpAny M A (forIn [] _ _) _ _ _;rw [List.forIn_nil];refine wpAny_pure (wpAny_pure (hQ _ rfl _ ⟨⟨⟨h',_,rfl⟩,?_,fun b o e=>?_,zzR _⟩,fun n c hc=>?_,ok.apart,fun n c hm=>(ok.empty n c hm).2⟩ (Nat.succ_pos _)))
 .have e:(newEnv scope s.heap.objs.size gl (cellsFrom (s.heap.objs.size+1) scope.names []) qual fn code none bl).kindOf x=some .local:=hx;unfold bindL bindL;rw [if_pos e];exact hn'
 .exact (hs'.2 b (Nat.ne_of_lt (Heap.lt_size e))).trans (pushCells_keeps _ _ b o (Heap.get?_push_of_some _ e))
 .have e:(newEnv scope s.heap.objs.size gl (cellsFrom (s.heap.objs.size+1) scope.names []) qual fn code none bl).kindOf x=some .local:=hx;unfold bindC bindC;rw [if_pos e];have q:=ok.empty n c (mem_of_lookup hc);exact q.1.sameBut hs' (Nat.ne_of_gt q.2)
theorem bO {M:Model} {A:Around} {E:Value->Shared->Prop} {s:Shared} {scope:Scope} {gl:Addr} {ps:List Str} {us:List Value} {qual:Str} {fn:Option Addr} {code:Value} {bl:Addr} {Q:Env->Shared->Prop}
  (hk:scope.kind=.function) (hkind:∀ x∈ps.zip us,scope.names.lookup x.1=some .local\/(scope.names.lookup x.1=some .cell/\((cellsFrom (s.heap.objs.size+1) scope.names []).lookup x.1).isSome=true))
  (hl:us.length=ps.length) (hp:0<s.toks\/∃ x,ps=[x]/\scope.names.lookup x=some .local)
  (hQ:∀ env,env=newEnv scope s.heap.objs.size gl (cellsFrom (s.heap.objs.size+1) scope.names []) qual fn code none bl ->
   ∀ s',InCallC s env.locals (bindL env.kindOf (ps.zip us) fun _=>none) env.cells (bindC env.kindOf (ps.zip us) fun _=>none) s'->0<s'.toks->Q env s') :
  wpAny M A (newFunctionEnv scope gl [] (ps.zip us) qual fn code none bl) Q E s:=by
 rcases hp with hp|⟨x,rfl,hx⟩
 .exact wI hp (wpAny_newFunctionEnv_cells hk hkind hQ)
 .cases us with
  |nil=>cases hl
  |cons u r =>
   cases r with
   |nil=>exact bN hk hx hQ
   |cons _ _=>cases hl
end L2
namespace L2
open PySem PySem.Spec PyProof.Rows
abbrev yW:=Sum Int Str
def rW:yW->Value->Bool
 | .inl k,v=>Value.isInt k v
 | .inr x,v=>Value.isStrOf x v
def keyH (w:World):yW->Int
 | .inl k=>hashInt k
 | .inr x=>hashStr w x
theorem yL:∀ {k:yW} {v:Value},rW k v=true->(∃ i t,k=Sum.inl i/\v=Value.int i t)\/(∃ x t,k=Sum.inr x/\v=Value.str x t)
 | .inl i,v,h=>by
  obtain ⟨t,e⟩:=Value.isInt_shape (k:=i) (v:=v) h;exact .inl ⟨i,t,rfl,e⟩
 | .inr x,v,h=>by
  obtain ⟨t,e⟩:=Value.isStrOf_shape (x:=x) (v:=v) h;exact .inr ⟨x,t,rfl,e⟩
theorem zaR (i:Int) (t:Tok):rW (.inl i) (.int i t)=true:=by simp [rW,Value.isInt]
theorem zaP (x:Str) (t:Tok):rW (.inr x) (.str x t)=true:=by simp [rW,Value.isStrOf]
theorem zgI (a b:Int):decide ((Sum.inl a:yW)=Sum.inl b)=(a==b):=by
 by_cases e:a=b
 .subst e;simp
 .have h:¬ (Sum.inl a:yW)=Sum.inl b:=fun q=>e (Sum.inl.inj q);rw [decide_eq_false h];exact (beq_eq_false_iff_ne.mpr e).symm
theorem zgF (a b:Str):decide ((Sum.inr a:yW)=Sum.inr b)=decide (a=b):=by
 by_cases e:a=b
 .subst e;simp
 .have h:¬ (Sum.inr a:yW)=Sum.inr b:=fun q=>e (Sum.inr.inj q);rw [decide_eq_false h,decide_eq_false e]
theorem zgH (a:Int) (b:Str):decide ((Sum.inl a:yW)=Sum.inr b)=false:=decide_eq_false (fun q=>nomatch q)
theorem zgG (a:Str) (b:Int):decide ((Sum.inr a:yW)=Sum.inl b)=false:=decide_eq_false (fun q=>nomatch q)
def yE (prog:Program) (w:World):PySem.KeyKind prog w yW where
 is:=rW
 hash:=keyH w
 inj:=fun v a b ha hb=>by
  rcases yL ha with ⟨i,t,rfl,rfl⟩|⟨x,t,rfl,rfl⟩
  .rcases yL hb with ⟨j,u,rfl,e⟩|⟨y,u,rfl,e⟩
   .injection e with e1 _;rw [e1]
   .exact nomatch e
  .rcases yL hb with ⟨j,u,rfl,e⟩|⟨y,u,rfl,e⟩
   .exact nomatch e
   .injection e with e1 _;rw [e1]
 byValue:=fun k v h=>by
  rcases yL h with ⟨i,t,rfl,rfl⟩|⟨x,t,rfl,rfl⟩<;>rfl
 pyHash:=fun hv h=>by
  rcases yL hv with ⟨i,t,rfl,rfl⟩|⟨x,t,rfl,rfl⟩
  .exact wpAny_pyHash_int h
  .exact wpAny_pyHash_str h
 eqBool:=fun hu hv h=>by
  rcases yL hu with ⟨i,t,rfl,rfl⟩|⟨x,t,rfl,rfl⟩
  .rcases yL hv with ⟨j,u,rfl,rfl⟩|⟨y,u,rfl,rfl⟩
   .rw [zgI] at h;exact wpAny_eqBool_int h
   .rw [zgH] at h;exact SeqAt.EqAt.int_str i t y u _ _ _ _ h
  .rcases yL hv with ⟨j,u,rfl,rfl⟩|⟨y,u,rfl,rfl⟩
   .rw [zgG] at h;exact SeqAt.EqAt.str_int x t j u _ _ _ _ h
   .rw [zgF] at h;exact wpAny_eqBool_str h
 «strs»:=fun k x t v h=>by
  rcases yL h with ⟨i,u,rfl,e⟩|⟨y,u,rfl,e⟩
  .exact nomatch e
  .injection e with e1 _
   subst e1;cases v<;>rfl
theorem dI (prog:Program) (w:World) (i:Int) (t:Tok):(yE prog w).is (.inl i) (.int i t)=true:=zaR i t
theorem dJ (prog:Program) (w:World) (x:Str) (t:Tok):(yE prog w).is (.inr x) (.str x t)=true:=zaP x t
end L2
namespace L2
open PySem PySem.Spec PyProof.Rows
inductive V where
 |non|bl (b:Bool)|int (i:Int)|str (x:Str)|byt (b:Array UInt8)|flt (b:UInt64)|ref (a:Addr)|ty (n:String)
 deriving DecidableEq
def zR:V->Value->Prop
 | .non,u=>u=Value.none
 | .bl b,u=>u=Value.bool b
 | .int i,u=>∃ t,u=Value.int i t
 | .str x,u=>∃ t,u=Value.str x t
 | .byt b,u=>∃ t,u=Value.bytes b t
 | .flt b,u=>∃ t,u=Value.float b t
 | .ref a,u=>u=Value.ref a
 | .ty n,u=>u=Value.type n
abbrev zV:List V->List Value->Prop:=Paired zR
theorem zV.length {xs:List V} {us:List Value} (r:zV xs us):xs.length=us.length:=Paired.length r
theorem zV.get:∀ {xs:List V} {us:List Value} {i:Nat} {x:V},zV xs us->xs[i]?=some x->∃ u,us[i]?=some u/\zR x u
 |_,_,_,_,.nil,e=>by simp at e
 |_,_,0,_,.cons r _,e=>by simp at e;subst e;exact ⟨_,rfl,r⟩
 |_,_,i+1,x,.cons _ t,e=>by
  obtain ⟨u,h1,h2⟩:=zV.get (i:=i) (x:=x) t (by simpa using e);exact ⟨u,by simpa using h1,h2⟩
theorem zV.set {x:V} {u:Value} (r:zR x u):∀ {xs:List V} {us:List Value} (i:Nat),zV xs us->zV (xs.set i x) (us.set i u)
 |_,_,_,.nil=>.nil
 |_,_,0,.cons _ t=>.cons r t
 |_,_,i+1,.cons q t=>.cons q (zV.set r i t)
theorem zV.append:∀ {xs ys:List V} {us ws:List Value},zV xs us->zV ys ws->zV (xs++ys) (us++ws)
 |_,_,_,_,.nil,s=>s
 |_,_,_,_,.cons r t,s=>.cons r (zV.append t s)
theorem zV.take:∀ {xs:List V} {us:List Value} (n:Nat),zV xs us->zV (xs.take n) (us.take n)
 |_,_,0,_=>.nil
 |_,_,_+1,.nil=>.nil
 |_,_,n+1,.cons r t=>.cons r (zV.take n t)
theorem zV.drop:∀ {xs:List V} {us:List Value} (n:Nat),zV xs us->zV (xs.drop n) (us.drop n)
 |_,_,0,r=>r
 |_,_,_+1,.nil=>.nil
 |_,_,n+1,.cons _ t=>zV.drop n t
theorem zV.none_of:∀ {xs:List V} {us:List Value} {i:Nat},zV xs us->xs[i]?=none->us[i]?=none:=fun {xs us i} r e=>by
 have h1:=r.length;have h2:xs.length<=i:=List.getElem?_eq_none_iff.mp e;exact List.getElem?_eq_none_iff.mpr (by omega)
def uJ:Option V->Option Value->Prop
 |some v,some u=>zR v u
 |none,none=>True
 |_,_=>False
def KV {κ:Type}:List (κ×V)->List (κ×Value)->Prop:=Paired fun (p:κ×V) (q:κ×Value)=>p.1=q.1/\zR p.2 q.2
def kV:yW->V
 | .inl i=>.int i
 | .inr x=>.str x
inductive HO where
  |lst (xs:List V)
  |tup (xs:List V)
  |dK (kvs:List (yW×V))|dT (kvs:List (List yW×V))
  |set (S:Int->Bool) (n:Nat)
  |ins (C dx:Addr) (fs:List (Str×V))
  |own (x:Addr)
  |xd (fs:List (Str×V))
  |met (f x:Addr)
  |rng (lo hi:Int)
  |frz (o:Obj) (u:HO)
  |tbl (ps:Array Value)
  |ext (φ:Heap->Prop)
abbrev Hp:=Addr->Option HO
def yN (H:Hp) (a:Addr) (o:HO):Hp:=fun b=>if b=a then some o else H b
theorem xZ {H:Hp} {a:Addr} {o:HO}:yN H a o a=some o:=by unfold yN;rw [if_pos rfl]
theorem zU {H:Hp} {a b:Addr} {o:HO} (h:b≠a):yN H a o b=H b:=by unfold yN;rw [if_neg h]
theorem ne_of {H:Hp} {a b:Addr} {o u:HO} (h:H a=some o) (h':H b=some u) (d:o≠u):a≠b:=by
 intro e;subst e;rw [h] at h';exact d (Option.some.inj h')
theorem zH {H:Hp} {a b:Addr} {o:HO} (h:H a=some o) (h':H b=none):a≠b:=by
 intro e;subst e;rw [h] at h';cases h'
section
variable (P : Program) (w : World)
def yK (H:Hp) (h:Heap) (a:Addr):HO->Prop
 | .lst xs=>xs.length<=sizeLine/\∃ (its:List Value) (n:Nat),zV xs its/\h.get? a=some { cls:=.type "list", data:=.seq its.toArray n }
 | .tup xs=>xs.length<=sizeLine/\∃ its:List Value,zV xs its/\IsTup h a its.toArray
 | .dK kvs=>kvs.length<=sizeLine/\(a==sysModules)=false/\∃ vs,KV kvs vs/\h.DictOf (yE P w) a vs
 | .dT kvs=>kvs.length<=sizeLine/\(a==sysModules)=false/\∃ xs:List (List yW×Addr×Value),
   Paired (fun (p:List yW×V) (q:List yW×Addr×Value)=>p.1=q.1/\H q.2.1=some (.tup (p.1.map kV))/\zR p.2 q.2.2) kvs xs /\
   ∃ o es ep,h.get? a=some o/\o.ExactDict/\o.data=.dict es ep/\es.toList=xs.map (entryOfKey (tupleKind (yE P w)))/\(xs.map (·.1)).Nodup
 | .set S n=>h.SetOf (intKind P w) a S n
 | .ins C dx fs=>H dx=some (.own a)/\fs.length<=1000/\dx≠a/\h.get? a=some (PySem.W.instObj C dx) /\
   ∃ mA,h.Ns1 dx mA/\(∀ f,uJ (fs.lookup f) (mA f))/\PySem.Within mA (fs.map (·.1))
 | .own _=>∃ o,h.get? a=some o
 | .xd fs=>∃ mA,h.Ns1 a mA/\∀ f,uJ (fs.lookup f) (mA f)
 | .rng lo hi=>∃ t u v,h.get? a=some { cls:=.type "range", data:=.fields #[.int lo t,.int hi u,.int 1 v] }
 | .frz o u=>h.get? a=some o/\yK H h a u
 | .tbl ps=>h.get? a=some { cls:=.none,data:=.fields ps }
 | .met f x=>h.get? a=some (PySem.W.methodObj (.ref f) (.ref x))
 | .ext φ=>φ h/\(∃ o,h.get? a=some o)/\∀ h1 h2:Heap,φ h1->(∀ o,h1.get? a=some o->h2.get? a=some o)->φ h2
def kR (H:Hp) (h:Heap):Prop:=∀ a o,H a=some o->yK P w H h a o
end
section
variable {P : Program} {w : World} {H H' : Hp} {h h' : Heap} {a : Addr} {o : HO}
theorem yK.lt (x:yK P w H h a o):a<h.objs.size:=by
 cases o with
 |lst xs=>obtain ⟨_,_,_,_,e⟩:=x;exact Heap.lt_size e
 |tup xs=>obtain ⟨_,_,_,p⟩:=x;exact p.lt
 |dK kvs=>obtain ⟨_,_,_,_,o,_,_,e,_⟩:=x;exact Heap.lt_size e
 |dT kvs=>obtain ⟨_,_,_,_,o,_,_,e,_⟩:=x;exact Heap.lt_size e
 |set S n=>obtain ⟨o,_,_,_,e,_⟩:=x;exact Heap.lt_size e
 |ins C dx fs=>obtain ⟨_,_,_,e,_⟩:=x;exact Heap.lt_size e
 |own y=>obtain ⟨_,e⟩:=x;exact Heap.lt_size e
 |xd fs=>obtain ⟨_,⟨_,_,_,e,_⟩,_⟩:=x;exact Heap.lt_size e
 |rng lo hi=>obtain ⟨_,_,_,e⟩:=x;exact Heap.lt_size e
 |frz ob u=>obtain ⟨e,_⟩:=x;exact Heap.lt_size e
 |tbl ps=>exact Heap.lt_size (show h.get? a=some _ from x)
 |met f y=>exact Heap.lt_size (show h.get? a=some _ from x)
 |ext φ=>obtain ⟨_,⟨_,e⟩,_⟩:=x;exact Heap.lt_size e
theorem Paired.mapP {α β:Type} {F G:α->β->Prop}:∀ {l₁:List α} {l₂:List β},Paired F l₁ l₂->(∀ a b,F a b->G a b)->Paired G l₁ l₂
 |_,_,.nil,_=>.nil
 |_,_,.cons r t,f=>.cons (f _ _ r) (Paired.mapP t f)
theorem yK.stay (x:yK P w H h a o) (k:∀ b u,(b=a\/H b=some (.own a))->h.get? b=some u->h'.get? b=some u)
  (ho:∀ b,H b=some (.own a)->H' b=some (.own a)) (ht:∀ b xs,H b=some (.tup xs)->H' b=some (.tup xs)):yK P w H' h' a o:=by
 induction o with
 |lst xs=>obtain ⟨z,its,n,r,e⟩:=x;exact ⟨z,its,n,r,k _ _ (.inl rfl) e⟩
 |tup xs=>obtain ⟨z,its,r,ob,e,c⟩:=x;exact ⟨z,its,r,ob,k _ _ (.inl rfl) e,c⟩
 |dK kvs=>obtain ⟨z,y,vs,r,ob,es,ep,e,c⟩:=x;exact ⟨z,y,vs,r,ob,es,ep,k _ _ (.inl rfl) e,c⟩
 |dT kvs =>
  obtain ⟨z,y,xs,r,ob,es,ep,e,c⟩:=x;exact ⟨z,y,xs,Paired.mapP r fun p q z=>⟨z.1,ht _ _ z.2.1,z.2.2⟩,ob,es,ep,k _ _ (.inl rfl) e,c⟩
 |set S n=>obtain ⟨ob,es,ep,t,e,c⟩:=x;exact ⟨ob,es,ep,t,k _ _ (.inl rfl) e,c⟩
 |ins C dx fs =>
  obtain ⟨d,z,ne,e,mA,⟨od,es,ep,e2,c⟩,r⟩:=x;exact ⟨ho _ d,z,ne,k _ _ (.inl rfl) e,mA,⟨od,es,ep,k _ _ (.inr d) e2,c⟩,r⟩
 |own y=>obtain ⟨ob,e⟩:=x;exact ⟨ob,k _ _ (.inl rfl) e⟩
 |xd fs=>obtain ⟨mA,⟨od,es,ep,e,c⟩,r⟩:=x;exact ⟨mA,⟨od,es,ep,k _ _ (.inl rfl) e,c⟩,r⟩
 |rng lo hi=>obtain ⟨t,u,v,e⟩:=x;exact ⟨t,u,v,k _ _ (.inl rfl) e⟩
 |frz ob u ih=>obtain ⟨e,q⟩:=x;exact ⟨k _ _ (.inl rfl) e,ih q⟩
 |tbl ps =>
  have e:h.get? a=some { cls:=.none,data:=.fields ps }:=x;show h'.get? a=some { cls:=.none,data:=.fields ps };exact k a _ (.inl rfl) e
 |met f y =>
  have e:h.get? a=some (PySem.W.methodObj (.ref f) (.ref y)):=x;show h'.get? a=some (PySem.W.methodObj (.ref f) (.ref y));exact k a _ (.inl rfl) e
 |ext φ=>obtain ⟨p,⟨o,e⟩,st⟩:=x;exact ⟨st _ _ p fun o q=>k _ _ (.inl rfl) q,⟨o,k _ _ (.inl rfl) e⟩,st⟩
theorem kR.lt (x:kR P w H h) (e:H a=some o):a<h.objs.size:=(x a o e).lt
theorem kR.fresh (x:kR P w H h) (e:h.objs.size<=a):H a=none:=by
 cases q:H a with
 |none=>rfl
 |some u=>exact absurd (Nat.lt_of_lt_of_le (x.lt q) e) (Nat.lt_irrefl _)
theorem kR.kept (x:kR P w H h) (k:∀ b u,h.get? b=some u->h'.get? b=some u):kR P w H h':=fun a o e =>
 (x a o e).stay (fun b u _ q=>k b u q) (fun _ q=>q) fun _ _ q=>q
theorem kR.laid (x:kR P w H h) (k:∀ b u,h.get? b=some u->h'.get? b=some u) (hp:h.objs.size<=a) (new:yK P w (yN H a o) h' a o):kR P w (yN H a o) h':=fun b u e=>by
 have hn:=x.fresh hp
 by_cases hb:b=a
 .subst hb;rw [xZ] at e;cases e;exact new
 .rw [zU hb] at e;exact (x b u e).stay (fun c v _ q=>k c v q) (fun c q=>by rw [zU (zH q hn)];exact q) fun c xs q=>by rw [zU (zH q hn)];exact q
end
def Rd (H:Hp) (a:Addr) (u:HO):Prop:=H a=some u\/∃ o,H a=some (.frz o u)
theorem Rd.ok {P:Program} {w:World} {H:Hp} {h:Heap} {a:Addr} {u:HO} (r:Rd H a u) (x:kR P w H h):yK P w H h a u:=by
 rcases r with r|⟨o,r⟩
 .exact x a u r
 .obtain ⟨_,q⟩:=x a _ r;exact q
def Mut:Option HO->Prop
 |some (.lst _)=>True
 |some (.dK _)=>True
 |some (.dT _)=>True
 |some (.set _ _)=>True
 |some (.ins _ _ _)=>True
 |some (.ext _)=>True
 |_=>False
section
variable {P : Program} {w : World} {H : Hp} {h h' : Heap} {x e : Addr} {o' : HO}
theorem kR.write (ok:kR P w H h) (mu:Mut (H x)) (he:e=x\/H e=some (.own x)) (k:∀ b u,b≠e->h.get? b=some u->h'.get? b=some u) (heo:∃ u,h'.get? e=some u)
  (new:yK P w (yN H x o') h' x o'):kR P w (yN H x o') h':=fun b u q=>by
 have nown:∀ c y,H c=some (.own y)->c≠x:=fun c y r z=>by subst z;rw [r] at mu;exact mu
 have ntup:∀ c xs,H c=some (.tup xs)->c≠x:=fun c xs r z=>by subst z;rw [r] at mu;exact mu
 by_cases hb:b=x
 .subst hb;rw [xZ] at q;cases q;exact new
 .rw [zU hb] at q
  by_cases hbe:b=e
  .have q':H b=some (.own x):=by
    rcases he with z|z
    .exact absurd (hbe.trans z) hb
    .rw [hbe];exact z
   rw [q] at q';cases q';obtain ⟨v,hv⟩:=heo;exact ⟨v,by rw [hbe];exact hv⟩
  .refine (ok b u q).stay (fun c v hc r=>k c v ?_ r) (fun c r=>by rw [zU (nown c b r)];exact r) fun c xs r=>by rw [zU (ntup c xs r)];exact r
   rcases hc with rfl|hc
   .exact hbe
   .rintro rfl;rcases he with z|z
    .exact nown c b hc z
    .rw [hc] at z;cases z;exact hb rfl
end
structure Un (fs ex:List Addr) (H H':Hp) (h h':Heap):Prop where
 keep:∀ b o,h.get? b=some o->H b=none->b∉fs->b∉ex->h'.get? b=some o
 slot:∀ b o,h.get? b=some o->H b=none->b∈fs->b∉ex->∃ sl,h'.get? b=some { o with slots:=sl }
 free:∀ b o,h.get? b=some o->H b=none->b∉ex->H' b=none
 there:∀ b o,h.get? b=some o->b∉ex->∃ o',h'.get? b=some o'
 tups:∀ b xs,H b=some (.tup xs)->H' b=some (.tup xs)
 frzs:∀ b o u,H b=some (.frz o u)->H' b=some (.frz o u)
 tbls:∀ b ps,H b=some (.tbl ps)->∃ wF,H' b=some (.tbl (ps++wF))
section
variable {fs fs' ex ex' : List Addr} {H H1 H2 : Hp} {h h1 h2 h' : Heap} {a x e : Addr} {o : HO}
theorem Un.any (u:Un fs ex H H1 h h1) {b:Addr} {ob:Obj} (q:h.get? b=some ob) (n:H b=none) (hx:b∉ex):∃ sl,h1.get? b=some { ob with slots:=sl }:=by
 by_cases hb:b∈fs
 .exact u.slot b ob q n hb hx
 .exact ⟨ob.slots,u.keep b ob q n hb hx⟩
theorem Un.kept (k:∀ b u,h.get? b=some u->h'.get? b=some u):Un fs ex H H h h' :=
 ⟨fun b ob q _ _ _=>k b ob q,fun b ob q _ _ _=>⟨ob.slots,k b ob q⟩,fun _ _ _ n _=>n,fun b ob q _=>⟨ob,k b ob q⟩,fun _ _ q=>q,fun _ _ _ q=>q,fun _ ps q=>⟨#[],by rw [q];simp⟩⟩
theorem Un.refl:Un fs ex H H h h:=Un.kept fun _ _ q=>q
theorem Un.laid (k:∀ b u,h.get? b=some u->h'.get? b=some u) (hp:h.objs.size<=a) (hn:H a=none):Un fs ex H (yN H a o) h h' where
 keep:=fun b u q _ _ _=>k b u q
 slot:=fun b u q _ _ _=>⟨u.slots,k b u q⟩
 free:=fun b u q n _=>by rw [zU (Nat.ne_of_lt (Nat.lt_of_lt_of_le (Heap.lt_size q) hp))];exact n
 there:=fun b u q _=>⟨u,k b u q⟩
 tups:=fun b xs q=>by rw [zU (zH q hn)];exact q
 frzs:=fun b u xs q=>by rw [zU (zH q hn)];exact q
 tbls:=fun b ps q=>⟨#[],by rw [zU (zH q hn),q];simp⟩
theorem Un.write (mu:Mut (H x)) (he:e=x\/H e=some (.own x)) (k:∀ b u,b≠e->h.get? b=some u->h'.get? b=some u) (heo:∃ u,h'.get? e=some u):Un fs ex H (yN H x o) h h':=by
 have hx:∀ b,H b=none->b≠x:=fun b n z=>by subst z;rw [n] at mu;exact mu
 have hb:∀ b,H b=none->b≠e:=fun b n z=>by
  subst z;rcases he with r|r
  .exact hx b n r
  .rw [n] at r;cases r
 have hm:∀ b u,H b=some u->¬ Mut (some u)->b≠x:=fun b u q nm z=>by subst z;rw [q] at mu;exact nm mu
 refine ⟨fun b u q n _ _=>k b u (hb b n) q,fun b u q n _ _=>⟨u.slots,k b u (hb b n) q⟩,fun b u q n _=>by rw [zU (hx b n)];exact n,fun b u q _=>?_,
  fun b xs q=>by rw [zU (hm b _ q fun z=>z)];exact q,fun b u xs q=>by rw [zU (hm b _ q fun z=>z)];exact q,fun b ps q=>⟨#[],by rw [zU (hm b _ q fun z=>z),q];simp⟩⟩
 by_cases hbe:b=e
 .subst hbe;exact heo
 .exact ⟨u,k b u hbe q⟩
end
def trk (h:Heap) (H:Hp):List Addr:=(List.range h.objs.size).filter fun a=>(H a).isSome
def gW (h:Heap) (H:Hp):Heap:=PySem.W.hideAll h (trk h H)
theorem zaW (h:Heap) (H:Hp):(gW h H).objs.size=h.objs.size:=PySem.W.hideAll_size _ _
theorem zcA {h:Heap} {H:Hp} {b:Addr} {o:Obj} (e:h.get? b=some o) (n:H b=none):(gW h H).get? b=some o :=
 PySem.W.hideAll_get _ e fun hm=>by
  have q:(H b).isSome=true:=(List.mem_filter.mp hm).2;rw [n] at q;simp at q
theorem zef {h:Heap} {H:Hp} {b:Addr} {o:Obj} (e:(gW h H).get? b=some o):h.get? b=some o/\H b=none:=by
 have e':h.get? b=some o:=PySem.W.of_hideAll (trk h H) e;refine ⟨e',?_⟩
 cases q:H b with
 |none=>rfl
 |some x =>
  have hm:b∈trk h H:=List.mem_filter.mpr ⟨List.mem_range.mpr (Heap.lt_size e'),by simp [q]⟩;have z:(gW h H).get? b=none:=PySem.W.hideAll_none (trk h H) hm;rw [z] at e;cases e
def zfd (g h:Heap) (L:Addr):List (Addr×Obj):=(List.range h.objs.size).filterMap fun a=>if a=L\/(g.get? a).isSome=true then none else (h.get? a).map fun o=>(a,o)
def rest (g h:Heap) (L d:Addr):List (Addr×Obj):=(zfd g h L).filter fun p=>decide (p.1≠d)
end L2
namespace L2
open PySem PySem.Spec PyProof.Rows
structure Mod (K:PySem.W.Frag) (mg:Str->Option Value) (base:Heap):Prop where
 kin:K.In base
 glob:base.Ns mainGlobals mg
 blt:∃ mb,base.Ns builtinsNs mb/\∀ x:Str,x ≠ "__name__" -> mb x=bootBuiltins x
 nolimit:base.NoLimit
structure Cx where
 prog:Program
 w:World
 K:PySem.W.Frag
 mg:Str->Option Value
 base:Heap
 A:Around
 N:List Str
 s₀:Shared
 H₀:Hp
 env:Env
 outer:List Env
 stack:List Env
 ex:List Addr
 fn:Str->Bool
 calm:Bool
 pn:List (Addr×Obj)
 xe:Value->Shared->Prop
def frs (l:List Env):List Addr:=l.filterMap (·.frame)
abbrev Cx.fs (X:Cx):List Addr:=frs X.outer
def Vis (sc:Scope) (x:Str):Prop:=sc.names.lookup x=some .local\/sc.names.lookup x=some .cell\/sc.names.lookup x=some .free
def Loc (sc:Scope) (x:Str):Prop:=sc.names.lookup x=some .local\/sc.names.lookup x=some .cell
def Look (env:Env) (h:Heap) (m:Str->Option Value) (x:Str) (u:Value):Prop :=
 (env.kindOf x=some .local/\m x=some u)\/((env.kindOf x=some .cell\/env.kindOf x=some .free)/\∃ c,env.cells.lookup x=some c/\h.IsCell c (some u))
structure Cx.Ok (X:Cx):Prop where
 mod:Mod X.K X.mg X.base
 kind:X.env.scope.kind=.function
 glob:X.env.globals=mainGlobals
 blt:X.env.builtins=builtinsNs
 above:X.s₀.heap.objs.size<=X.env.locals
 inj:∀ x y c,X.env.cells.lookup x=some c->X.env.cells.lookup y=some c->x=y
 has:∀ x,(X.env.kindOf x=some .cell\/X.env.kindOf x=some .free)->∃ c,X.env.cells.lookup x=some c
 cab:∀ x c,X.fn x=true->X.env.cells.lookup x=some c->X.s₀.heap.objs.size<=c
 hd:X.calm=true->X.A.handled=none
 frames:X.A.frames=some X.stack
 stk:X.stack=X.outer\/(X.stack=X.env::X.outer/\X.env.frame=some X.env.locals)
 exf:∀ b∈X.ex,b≠X.env.locals/\∀ x c,X.env.cells.lookup x=some c->c≠b
 bs:∀ b o,X.base.get? b=some o->X.s₀.heap.get? b=some o/\X.H₀ b=none
 bsz:X.base.objs.size<=X.s₀.heap.objs.size
 noex:∀ b o,X.base.get? b=some o->b∉X.ex
 exfs:∀ b∈X.ex,b∉X.fs
 funs:X.s₀.heap.FunFrames X.base X.outer
 frf:∀ b∈X.fs,X.H₀ b=none
structure Inv (X:Cx) (pins:List (Addr×Obj)) (σ:List (Option V)) (H:Hp) (s:Shared):Prop where
 ok:X.Ok
 os:s.os=X.s₀.os
 bare:AllBare s.gens
 base:Un X.fs X.ex X.H₀ H X.s₀.heap s.heap
 loc:∃ m,s.heap.Ns X.env.locals m/\∀ (i:Nat) (x:Str) (v:V),X.N[i]?=some x->σ[i]?=some (some v)->Vis X.env.scope x->∃ u,zR v u/\Look X.env s.heap m x u
 cell:∀ x c,X.env.cells.lookup x=some c->∃ v,s.heap.IsCell c v
 free:H X.env.locals=none
 freeC:∀ x c,X.env.cells.lookup x=some c->H c=none
 pin:∀ p∈X.pn++pins,s.heap.get? p.1=some p.2/\H p.1=none/\p.1≠X.env.locals/\p.1∉X.fs/\∀ v,p.2.data≠.cell v
 hok:kR X.prog X.w H s.heap
 len:σ.length=X.N.length
 tk:0<s.toks
section
variable {X : Cx} {pins : List (Addr × Obj)} {σ : List (Option V)} {H H' : Hp} {s : Shared} {h' : Heap}
theorem Cx.Ok.nofr (ok:X.Ok) {b:Addr} {o:Obj} (e:X.base.get? b=some o):b∉X.fs:=fun hb=>by
 have:=(ok.funs.mem hb).1;rw [e] at this;cases this
theorem Inv.bs (I:Inv X pins σ H s):∀ b o,X.base.get? b=some o->s.heap.get? b=some o/\H b=none:=fun b o e =>
 ⟨I.base.keep b o (I.ok.bs b o e).1 (I.ok.bs b o e).2 (I.ok.nofr e) (I.ok.noex b o e),I.base.free b o (I.ok.bs b o e).1 (I.ok.bs b o e).2 (I.ok.noex b o e)⟩
theorem Inv.bk (I:Inv X pins σ H s):∀ b o,X.base.get? b=some o->s.heap.get? b=some o:=fun b o e=>(I.bs b o e).1
theorem Inv.mod (I:Inv X pins σ H s):Mod X.K X.mg X.base:=I.ok.mod
theorem Inv.kIn (I:Inv X pins σ H s):X.K.In s.heap:=I.ok.mod.kin.keeps I.bk
theorem Inv.lt (I:Inv X pins σ H s):X.env.locals<s.heap.objs.size:=let ⟨_,hn,_⟩:=I.loc;hn.lt
theorem Inv.sz (I:Inv X pins σ H s):X.s₀.heap.objs.size<=s.heap.objs.size:=Nat.le_trans I.ok.above (Nat.le_of_lt I.lt)
theorem Inv.nofs (I:Inv X pins σ H s) {a:Addr} (h:s.heap.objs.size<=a):a∉X.fs:=fun hb=>by
 obtain ⟨_,o,ho,_⟩:=I.ok.funs.mem hb;exact absurd (Nat.lt_of_lt_of_le (Heap.lt_size ho) (Nat.le_trans I.sz h)) (Nat.lt_irrefl _)
theorem Inv.cne (I:Inv X pins σ H s):∀ x c,X.env.cells.lookup x=some c->c≠X.env.locals:=fun x c e z=>by
 obtain ⟨v,o,ho,hd⟩:=I.cell x c e;obtain ⟨m,⟨o',es,ep,ho',hd',_⟩,_⟩:=I.loc;rw [z,ho'] at ho;cases ho;rw [hd'] at hd;cases hd
theorem Inv.funs (I:Inv X pins σ H s):s.heap.FunFrames X.base X.outer:=by
 have all:∀ (l:List Env),(∀ b∈frs l,b∈X.fs)->X.s₀.heap.FunFrames X.base l->s.heap.FunFrames X.base l:=by
  intro l
  induction l with
  |nil=>intro _ _;trivial
  |cons env r ih =>
   intro hs hl;obtain ⟨hk,⟨L,o,hf,hn,ho,hd⟩,hr⟩:=hl;have hL:L∈X.fs:=hs L (by unfold frs;rw [List.filterMap_cons,hf];exact zzT);obtain ⟨sl,e⟩:=I.base.slot L o ho (I.ok.frf L hL) hL fun z=>I.ok.exfs L z hL;exact ⟨hk,⟨L,_,hf,hn,e,hd⟩,ih (fun b hb=>hs b (by unfold frs;rw [List.filterMap_cons,hf];exact List.mem_cons_of_mem _ hb)) hr⟩
 exact all X.outer (fun _ hb=>hb) I.ok.funs
theorem Inv.stack (I:Inv X pins σ H s):s.heap.FunFrames X.base X.stack:=by
 rcases I.ok.stk with e|⟨e,hf⟩
 .rw [e];exact I.funs
 .rw [e];obtain ⟨m,hn,_⟩:=I.loc;refine .cons (by rw [I.ok.kind];decide) hf hn ?_ I.funs;exact Heap.get?_none_of_le (Nat.le_trans I.ok.bsz I.ok.above)
theorem Inv.stkSub (I:Inv X pins σ H s):∀ b∈frs X.stack,b∈X.env.locals::X.fs:=fun b hb=>by
 rcases I.ok.stk with e|⟨e,hf⟩
 .rw [e] at hb;exact List.mem_cons_of_mem _ hb
 .rw [e] at hb;unfold frs at hb;rw [List.filterMap_cons,hf] at hb;exact hb
theorem Inv.stkFree (I:Inv X pins σ H s):∀ b∈frs X.stack,H b=none:=fun b hb=>by
 rcases List.mem_cons.mp (I.stkSub b hb) with e|hb
 .rw [e];exact I.free
 .obtain ⟨_,o,ho,_⟩:=I.ok.funs.mem hb;exact I.base.free b o ho (I.ok.frf b hb) fun z=>I.ok.exfs b z hb
theorem Inv.step {g':Array GenState} {t':Nat} {d':Drawn} {ch:List Addr} (I:Inv X pins σ H s)
  (hch:∀ b∈ch,(b∈X.ex\/X.s₀.heap.objs.size<=b)/\b≠X.env.locals/\(∀ x c,X.env.cells.lookup x=some c->c≠b)/\∀ p∈X.pn++pins,p.1≠b)
  (keep:∀ b o,b≠X.env.locals->b∉X.fs->b∉ch->s.heap.get? b=some o->H b=none->h'.get? b=some o)
  (slot:∀ b o,b≠X.env.locals->b∈X.fs->b∉ch->s.heap.get? b=some o->H b=none->∃ sl,h'.get? b=some { o with slots:=sl }) (free:∀ b o,b∉ch->s.heap.get? b=some o->H b=none->H' b=none)
  (there:∀ b o,b∉ch->s.heap.get? b=some o->∃ o',h'.get? b=some o')
  (tups:∀ b xs,H b=some (.tup xs)->H' b=some (.tup xs)) (frzs:∀ b o u,H b=some (.frz o u)->H' b=some (.frz o u)) (tbls:∀ b ps,H b=some (.tbl ps)->∃ wF,H' b=some (.tbl (ps++wF)))
  (ns:∀ m,s.heap.Ns X.env.locals m->h'.Ns X.env.locals m) (hok:kR X.prog X.w H' h') (hg:AllBare g') (ht:0<t':=by first|exact Nat.succ_pos _|exact L2.Inv.tk (by assumption)|exact L2.Inv.tk ‹L2.Inv _ _ _ _ _› | assumption|omega) :
  Inv X pins σ H' { s with heap:=h',gens:=g',drawn:=d',toks:=t' }:=by
 have neL:∀ b o,X.s₀.heap.get? b=some o->b≠X.env.locals:=fun b o e=>Nat.ne_of_lt (Nat.lt_of_lt_of_le (Heap.lt_size e) I.ok.above)
 have neC:∀ b o,X.s₀.heap.get? b=some o->b∉X.ex->b∉ch:=fun b o e hx hb=>by
  rcases (hch b hb).1 with z|z
  .exact hx z
  .exact absurd (Nat.lt_of_lt_of_le (Heap.lt_size e) z) (Nat.lt_irrefl _)
 have cellK:∀ x c,X.env.cells.lookup x=some c->∀ v,s.heap.IsCell c v->h'.IsCell c v:=fun x c e v ⟨o,ho,hd⟩=>by
  have nch:c∉ch:=fun z=>(hch c z).2.2.1 x c e rfl
  by_cases hc:c∈X.fs
  .obtain ⟨sl,q⟩:=slot c o (I.cne x c e) hc nch ho (I.freeC x c e);exact ⟨_,q,hd⟩
  .exact ⟨o,keep c o (I.cne x c e) hc nch ho (I.freeC x c e),hd⟩
 refine ⟨I.ok,I.os,hg,⟨fun b o e n hb hx=>?_,fun b o e n hb hx=>?_,fun b o e n hx=>?_,fun b o e hx=>?_,fun b xs e=>tups b xs (I.base.tups b xs e),fun b o xs e=>frzs b o xs (I.base.frzs b o xs e),fun b ps e=>?_⟩,?_,fun x c e=>?_,?_,fun x c e=>?_,fun p hp=>?_,hok,I.len,ht⟩
 .exact keep b o (neL b o e) hb (neC b o e hx) (I.base.keep b o e n hb hx) (I.base.free b o e n hx)
 .obtain ⟨sl,e1⟩:=I.base.slot b o e n hb hx;obtain ⟨sl',e2⟩:=slot b _ (neL b o e) hb (neC b o e hx) e1 (I.base.free b o e n hx);exact ⟨sl',e2⟩
 .obtain ⟨o',e1⟩:=I.base.there b o e hx;exact free b o' (neC b o e hx) e1 (I.base.free b o e n hx)
 .obtain ⟨o',e1⟩:=I.base.there b o e hx;exact there b o' (neC b o e hx) e1
 .obtain ⟨m1,e1⟩:=I.base.tbls b ps e;obtain ⟨m2,e2⟩:=tbls b _ e1;exact ⟨m1++m2,by rw [e2,Array.append_assoc]⟩
 .obtain ⟨m,hn,hl⟩:=I.loc;refine ⟨m,ns m hn,fun i x v e1 e2 e3=>?_⟩;obtain ⟨u,r,l⟩:=hl i x v e1 e2 e3;refine ⟨u,r,?_⟩;rcases l with l|⟨k,c,e,z⟩
  .exact .inl l
  .exact .inr ⟨k,c,e,cellK x c e _ z⟩
 .obtain ⟨v,z⟩:=I.cell x c e;exact ⟨v,cellK x c e v z⟩
 .obtain ⟨m,⟨o,_,_,ho,_⟩,_⟩:=I.loc;exact free _ o (fun z=>(hch _ z).2.1 rfl) ho I.free
 .obtain ⟨v,o,ho,hd⟩:=I.cell x c e;exact free c o (fun z=>(hch c z).2.2.1 x c e rfl) ho (I.freeC x c e)
 .obtain ⟨e,n,ne,nf,d⟩:=I.pin p hp;have nch:p.1∉ch:=fun z=>(hch p.1 z).2.2.2 p hp rfl;exact ⟨keep p.1 p.2 ne nf nch e n,free p.1 p.2 nch e n,ne,nf,d⟩
theorem Inv.un {t':Nat} (I:Inv X pins σ H s) (u:Un X.fs [] H H' s.heap h') (hok:kR X.prog X.w H' h') (ht:0<t':=by first|exact Nat.succ_pos _|exact L2.Inv.tk (by assumption)|exact L2.Inv.tk ‹L2.Inv _ _ _ _ _› | assumption|omega):Inv X pins σ H' { s with heap:=h',toks:=t' }:=by
 obtain ⟨m,⟨o,es,ep,ho,r⟩,_⟩:=id I.loc;obtain ⟨sl,hL⟩:=u.any ho I.free (by simp)
 exact I.step (g':=s.gens) (d':=s.drawn) (ch:=[]) (fun _ z=>nomatch z) (fun b o _ hb _ e n=>u.keep b o e n hb (by simp)) (fun b o _ hb _ e n=>u.slot b o e n hb (by simp)) (fun b o _ e n=>u.free b o e n (by simp)) (fun b o _ e=>u.there b o e (by simp)) u.tups u.frzs u.tbls (fun m' hm=>by
  obtain ⟨o',es',ep',ho',r'⟩:=hm;rw [ho] at ho';cases ho';exact ⟨_,es',ep',hL,r'⟩) hok I.bare
theorem Inv.call {g':Array GenState} {t':Nat} {d':Drawn} {ch:List Addr} (I:Inv X pins σ H s) (u:Un (frs X.stack) ch H H' s.heap h') (hok:kR X.prog X.w H' h') (hg:AllBare g')
  (hch:∀ b∈ch,(b∈X.ex\/X.s₀.heap.objs.size<=b)/\b≠X.env.locals/\(∀ x c,X.env.cells.lookup x=some c->c≠b)/\∀ p∈X.pn++pins,p.1≠b) (ht:0<t':=by first|exact Nat.succ_pos _|exact L2.Inv.tk (by assumption)|exact L2.Inv.tk ‹L2.Inv _ _ _ _ _› | assumption|omega) :
  Inv X pins σ H' { s with heap:=h',gens:=g',drawn:=d',toks:=t' }:=by
 obtain ⟨m,⟨o,es,ep,ho,r⟩,_⟩:=id I.loc;obtain ⟨sl,hL⟩:=u.any ho I.free fun z=>(hch _ z).2.1 rfl
 exact I.step (ch:=ch) hch (fun b o hL hb hc e n=>u.keep b o e n (fun z=>(List.mem_cons.mp (I.stkSub b z)).elim hL hb) hc) (fun b o _ _ hc e n=>u.any e n hc) (fun b o hc e n=>u.free b o e n hc) (fun b o hc e=>u.there b o e hc) u.tups u.frzs u.tbls (fun m' hm=>by
  obtain ⟨o',es',ep',ho',r'⟩:=hm;rw [ho] at ho';cases ho';exact ⟨_,es',ep',hL,r'⟩) hok hg
theorem Inv.turned {t':Nat} {it:Addr} (I:Inv X pins σ H s) (k:∀ b o,b≠it->s.heap.get? b=some o->h'.get? b=some o) (hn:H it=none) (hL:it≠X.env.locals)
  (h1:it∈X.ex\/X.s₀.heap.objs.size<=it) (h2:∀ x c,X.env.cells.lookup x=some c->c≠it) (h3:∀ p∈X.pn++pins,p.1≠it) (ht:0<t':=by first|exact Nat.succ_pos _|exact L2.Inv.tk (by assumption)|exact L2.Inv.tk ‹L2.Inv _ _ _ _ _› | assumption|omega):Inv X pins σ H { s with heap:=h',toks:=t' }:=by
 have nit:∀ b u,H b=some u->b≠it:=fun b u e z=>by rw [z,hn] at e;cases e
 refine I.step (g':=s.gens) (d':=s.drawn) (ch:=[it]) (fun b hb=>?_) (fun b o _ _ hc e _=>k b o (fun z=>hc (by simp [z])) e) (fun b o _ _ hc e _=>⟨o.slots,k b o (fun z=>hc (by simp [z])) e⟩) (fun _ _ _ _ n=>n)
  (fun b o hc e=>⟨o,k b o (fun z=>hc (by simp [z])) e⟩) (fun _ _ e=>e) (fun _ _ _ e=>e) (fun b ps e=>⟨#[],by rw [e];simp⟩) (fun m hm=>?_) (fun b u e=>?_) I.bare
 .have e:b=it:=by simpa using hb
  subst e;exact ⟨h1,hL,h2,h3⟩
 .obtain ⟨o,es,ep,ho,r⟩:=hm;exact ⟨o,es,ep,k _ o (Ne.symm hL) ho,r⟩
 .refine (I.hok b u e).stay (fun c v hc q=>k c v ?_ q) (fun _ q=>q) fun _ _ q=>q;rcases hc with z|z
  .rw [z];exact nit b u e
  .exact nit c _ z
theorem Inv.tok (I:Inv X pins σ H s) (t:Nat) (ht:0<t:=by first|exact Nat.succ_pos _|exact L2.Inv.tk (by assumption)|exact L2.Inv.tk ‹L2.Inv _ _ _ _ _› | assumption|omega):Inv X pins σ H { s with toks:=t }:=I.un (h':=s.heap) (t':=t) Un.refl I.hok
theorem Inv.kept {t':Nat} (I:Inv X pins σ H s) (k:∀ b u,s.heap.get? b=some u->h'.get? b=some u) (ht:0<t':=by first|exact Nat.succ_pos _|exact L2.Inv.tk (by assumption)|exact L2.Inv.tk ‹L2.Inv _ _ _ _ _› | assumption|omega):Inv X pins σ H { s with heap:=h',toks:=t' }:=I.un (Un.kept k) (I.hok.kept k)
theorem Inv.laid {a:Addr} {o:HO} {t':Nat} (I:Inv X pins σ H s) (k:∀ b u,s.heap.get? b=some u->h'.get? b=some u) (hp:s.heap.objs.size<=a) (new:yK X.prog X.w (yN H a o) h' a o) (ht:0<t':=by first|exact Nat.succ_pos _|exact L2.Inv.tk (by assumption)|exact L2.Inv.tk ‹L2.Inv _ _ _ _ _› | assumption|omega) :
  Inv X pins σ (yN H a o) { s with heap:=h',toks:=t' }:=I.un (Un.laid k hp (I.hok.fresh hp)) (I.hok.laid k hp new)
theorem Inv.write {x e:Addr} {o:HO} {t':Nat} (I:Inv X pins σ H s) (mu:Mut (H x)) (he:e=x\/H e=some (.own x)) (k:∀ b u,b≠e->s.heap.get? b=some u->h'.get? b=some u) (heo:∃ u,h'.get? e=some u)
  (new:yK X.prog X.w (yN H x o) h' x o) (ht:0<t':=by first|exact Nat.succ_pos _|exact L2.Inv.tk (by assumption)|exact L2.Inv.tk ‹L2.Inv _ _ _ _ _› | assumption|omega):Inv X pins σ (yN H x o) { s with heap:=h',toks:=t' }:=I.un (Un.write mu he k heo) (I.hok.write mu he k heo new)
theorem Inv.pins_of {pins':List (Addr×Obj)} (I:Inv X pins σ H s) (h:∀ p∈pins',s.heap.get? p.1=some p.2/\H p.1=none/\p.1≠X.env.locals/\p.1∉X.fs/\∀ v,p.2.data≠.cell v):Inv X pins' σ H s :=
 ⟨I.ok,I.os,I.bare,I.base,I.loc,I.cell,I.free,I.freeC,fun p hp=>(List.mem_append.mp hp).elim (fun z=>I.pin p (List.mem_append_left _ z)) (h p),I.hok,I.len,I.tk⟩
theorem dO {N:List Str} (hN:N.Nodup) {i j:Nat} {x:Str} (a:N[i]?=some x) (b:N[j]?=some x):i=j:=by
 obtain ⟨h1,e1⟩:=List.getElem?_eq_some_iff.mp a;obtain ⟨h2,e2⟩:=List.getElem?_eq_some_iff.mp b;exact (List.getElem_inj hN).mp (e1.trans e2.symm)
theorem pG {M:Model} {A:Around} {E:Value->Shared->Prop} {i:Nat} {x:Str} {v:V} {u:Value} {Q:Unit->Shared->Prop} (I:Inv X pins σ H s) (hN:X.N.Nodup) (hi:X.N[i]?=some x) (hx:Loc X.env.scope x) (r:zR v u)
  (h:∀ s',Inv X pins (σ.set i (some v)) H s'->(∃ a,Heap.SameBut a s.heap s'.heap/\(a=X.env.locals\/X.env.cells.lookup x=some a))->Q () s') (hf:X.fn x=true\/X.env.scope.names.lookup x=some .local:=by first|exact .inl rfl|exact .inr rfl|assumption):wpAny M A (storeName X.env x u) Q E s:=by
 obtain ⟨m,hn,hl⟩:=id I.loc;have hcls:(X.env.scope.kind==.class || (X.env.scope.kind==.module&&X.env.locals != X.env.globals))=false:=by rw [I.ok.kind];rfl
 have hiσ:i<σ.length:=by rw [I.len];exact (List.getElem?_eq_some_iff.mp hi).1
 have cne:=I.cne
 have tracked:∀ {a:Addr} {h':Heap},(∃ o,s.heap.get? a=some o/\H a=none)->Heap.SameBut a s.heap h'->kR X.prog X.w H h':=fun {a h'} ha hs b ob e=>by
  obtain ⟨_,_,hfree⟩:=ha;refine (I.hok b ob e).stay (fun c w' hc q=>(hs.2 c ?_).trans q) (fun _ q=>q) fun _ _ q=>q;rintro rfl;rcases hc with rfl|hc
  .rw [hfree] at e;cases e
  .rw [hfree] at hc;cases hc
 rcases hx with hk|hk
 .refine wpAny_storeName_local hk hn (fun h' hn' hs=>?_) hcls;obtain ⟨oL,_,_,hoL,_⟩:=id hn;refine h _ ⟨I.ok,I.os,I.bare,⟨fun b o e n hb hx=>?_,fun b o e n hb hx=>?_,I.base.free,fun b o e hx=>?_,I.base.tups,I.base.frzs,I.base.tbls⟩,⟨_,hn',fun j y v' e1 e2 e3=>?_⟩,fun y c e=>?_,I.free,I.freeC,fun p hp=>?_,tracked ⟨oL,hoL,I.free⟩ hs,by simpa using I.len,Nat.succ_pos _⟩ ⟨_,hs,.inl rfl⟩
  .exact (hs.2 b (Nat.ne_of_lt (Nat.lt_of_lt_of_le (Heap.lt_size e) I.ok.above))).trans (I.base.keep b o e n hb hx)
  .obtain ⟨sl,e1⟩:=I.base.slot b o e n hb hx;exact ⟨sl,(hs.2 b (Nat.ne_of_lt (Nat.lt_of_lt_of_le (Heap.lt_size e) I.ok.above))).trans e1⟩
  .obtain ⟨o',e1⟩:=I.base.there b o e hx;exact ⟨o',(hs.2 b (Nat.ne_of_lt (Nat.lt_of_lt_of_le (Heap.lt_size e) I.ok.above))).trans e1⟩
  .by_cases hj:j=i
   .subst hj;rw [hi] at e1;cases e1;rw [List.getElem?_set_self hiσ] at e2;cases e2;exact ⟨u,r,.inl ⟨hk,by simp⟩⟩
   .rw [List.getElem?_set_ne (Ne.symm hj)] at e2;obtain ⟨u',r',q⟩:=hl j y v' e1 e2 e3;refine ⟨u',r',?_⟩;rcases q with ⟨k,e⟩|⟨k,c,e,z⟩
    .refine .inl ⟨k,?_⟩;have:y≠x:=fun e=>hj (dO hN e1 (e▸hi));simp [this,e]
    .exact .inr ⟨k,c,e,z.sameBut hs (cne y c e)⟩
  .obtain ⟨w',z⟩:=I.cell y c e;exact ⟨w',z.sameBut hs (cne y c e)⟩
  .obtain ⟨e,n,ne,nf,d⟩:=I.pin p hp;exact ⟨(hs.2 p.1 ne).trans e,n,ne,nf,d⟩
 .have hfn:X.fn x=true:=by
   rcases hf with z|z
   .exact z
   .rw [z] at hk;cases hk
  obtain ⟨c,hc⟩:=I.ok.has x (.inl hk);obtain ⟨w',z⟩:=I.cell x c hc;refine wpAny_storeName_cell I.ok.kind hk hc z (fun h' hc' hs=>?_);obtain ⟨oc,hoc,hocd⟩:=id z;refine h { s with heap:=h' } ⟨I.ok,I.os,I.bare,⟨fun b o e n hb hx=>?_,fun b o e n hb hx=>?_,I.base.free,fun b o e hx=>?_,I.base.tups,I.base.frzs,I.base.tbls⟩,⟨m,hn.sameBut hs (Ne.symm (cne x c hc)),fun j y v' e1 e2 e3=>?_⟩,fun y c' e=>?_,I.free,I.freeC,fun p hp=>?_,tracked ⟨oc,hoc,I.freeC x c hc⟩ hs,by simpa using I.len,I.tk⟩ ⟨c,hs,.inr hc⟩
  .exact (hs.2 b (Nat.ne_of_lt (Nat.lt_of_lt_of_le (Heap.lt_size e) (I.ok.cab x c hfn hc)))).trans (I.base.keep b o e n hb hx)
  .obtain ⟨sl,e1⟩:=I.base.slot b o e n hb hx;exact ⟨sl,(hs.2 b (Nat.ne_of_lt (Nat.lt_of_lt_of_le (Heap.lt_size e) (I.ok.cab x c hfn hc)))).trans e1⟩
  .obtain ⟨o',e1⟩:=I.base.there b o e hx;exact ⟨o',(hs.2 b (Nat.ne_of_lt (Nat.lt_of_lt_of_le (Heap.lt_size e) (I.ok.cab x c hfn hc)))).trans e1⟩
  .by_cases hj:j=i
   .subst hj;rw [hi] at e1;cases e1;rw [List.getElem?_set_self hiσ] at e2;cases e2;exact ⟨u,r,.inr ⟨.inl hk,c,hc,hc'⟩⟩
   .rw [List.getElem?_set_ne (Ne.symm hj)] at e2;obtain ⟨u',r',q⟩:=hl j y v' e1 e2 e3;refine ⟨u',r',?_⟩;rcases q with q|⟨k,c',e,z'⟩
    .exact .inl q
    .refine .inr ⟨k,c',e,z'.sameBut hs ?_⟩;rintro rfl;exact hj (dO hN e1 (I.ok.inj _ _ _ e hc▸hi))
  .by_cases hcc:c'=c
   .subst hcc;exact ⟨_,hc'⟩
   .obtain ⟨w2,z2⟩:=I.cell y c' e;exact ⟨w2,z2.sameBut hs hcc⟩
  .obtain ⟨e,n,ne,nf,d⟩:=I.pin p hp;refine ⟨(hs.2 p.1 ?_).trans e,n,ne,nf,d⟩;intro q;rw [q,hoc] at e;have q':oc=p.2:=Option.some.inj e;exact d w' (by rw [← q'];exact hocd)
theorem fS {M:Model} {A:Around} {E:Value->Shared->Prop} {i:Nat} {x:Str} {v:V} {u:Value} {Q:Unit->Shared->Prop} (I:Inv X pins σ H s) (hN:X.N.Nodup) (hi:X.N[i]?=some x) (hx:Loc X.env.scope x) (r:zR v u)
  (h:∀ s',Inv X pins (σ.set i (some v)) H s'->Q () s') (hf:X.fn x=true\/X.env.scope.names.lookup x=some .local:=by first|exact .inl rfl|exact .inr rfl|assumption):wpAny M A (storeName X.env x u) Q E s :=
 pG I hN hi hx r (fun s' I' _=>h s' I') hf
theorem Inv.call' {s':Shared} {ch:List Addr} (I:Inv X pins σ H s) (ho:s'.os=s.os) (u:Un (frs X.stack) ch H H' s.heap s'.heap) (hok:kR X.prog X.w H' s'.heap) (hg:AllBare s'.gens)
  (hch:∀ b∈ch,(b∈X.ex\/X.s₀.heap.objs.size<=b)/\b≠X.env.locals/\(∀ x c,X.env.cells.lookup x=some c->c≠b)/\∀ p∈X.pn++pins,p.1≠b) (ht:0<s'.toks):Inv X pins σ H' s':=by
 obtain ⟨h',g',d',t',o'⟩:=s';have e:o'=s.os:=ho;subst e;exact I.call (g':=g') (t':=t') (d':=d') u hok hg hch
end
abbrev XK:=Value->Option Addr->Hp->Prop
abbrev St:=List (Option V)
abbrev VK:=V->Hp->Prop
abbrev TE:=St->Hp->VK->Prop
abbrev TT:=St->Hp->(Bool->Hp->Prop)->Prop
abbrev TA:=St->Hp->(List V->Hp->Prop)->Prop
structure Ends where
 nx:St->Hp->Prop
 rt:VK
 bk:St->Hp->Prop:=fun _ _=>False
 ct:St->Hp->Prop:=fun _ _=>False
abbrev TS:=Ends->St->Hp->Prop
def EP (X:Cx) (pins:List (Addr×Obj)) (σ:St) (Q:VK) (u:Value) (s':Shared):Prop:=∃ v H',Inv X pins σ H' s'/\zR v u/\Q v H'
def TP (X:Cx) (pins:List (Addr×Obj)) (σ:St) (Q:Bool->Hp->Prop) (b:Bool) (s':Shared):Prop:=∃ H',Inv X pins σ H' s'/\Q b H'
def AP (X:Cx) (pins:List (Addr×Obj)) (σ:St) (Q:List V->Hp->Prop) (us:List Value) (s':Shared):Prop:=∃ vs H',Inv X pins σ H' s'/\zV vs us/\Q vs H'
def SP (X:Cx) (pins:List (Addr×Obj)) (D:Ends) (f:Flow) (s':Shared):Prop :=
 match f with
 | .next=>∃ σ' H',Inv X pins σ' H' s'/\D.nx σ' H'
 | .brk=>∃ σ' H',Inv X pins σ' H' s'/\D.bk σ' H'
 | .cont=>∃ σ' H',Inv X pins σ' H' s'/\D.ct σ' H'
 | .ret u=>∃ v σ' H',Inv X pins σ' H' s'/\zR v u/\D.rt v H'
def PE (X:Cx) (e:Expr) (t:TE):Prop :=
 ∀ (pins:List (Addr×Obj)) (s:Shared) (σ:St) (H:Hp) (Q:VK),Inv X pins σ H s->t σ H Q->wpAny (model X.prog X.w) X.A (eval e X.env) (EP X pins σ Q) X.xe s
def PT (X:Cx) (e:Expr) (t:TT):Prop :=
 ∀ (pins:List (Addr×Obj)) (s:Shared) (σ:St) (H:Hp) (Q:Bool->Hp->Prop),Inv X pins σ H s->t σ H Q->wpAny (model X.prog X.w) X.A (isTrue e X.env (eval e X.env)) (TP X pins σ Q) X.xe s
def PW (X:Cx) (e:Expr) (t:TT):Prop :=
 ∀ (whole:Sem Value) (pins:List (Addr×Obj)) (s:Shared) (σ:St) (H:Hp) (Q:Bool->Hp->Prop),Inv X pins σ H s->t σ H Q->wpAny (model X.prog X.w) X.A (isTrue e X.env whole) (TP X pins σ Q) X.xe s
theorem PW.pt {X:Cx} {e:Expr} {t:TT} (h:PW X e t):PT X e t:=h _
def PA (X:Cx) (es:List Expr) (t:TA):Prop :=
 ∀ (pos:Pos) (pins:List (Addr×Obj)) (s:Shared) (σ:St) (H:Hp) (Q:List V->Hp->Prop),Inv X pins σ H s->t σ H Q->wpAny (model X.prog X.w) X.A (spliced (backTo pos (starEach es X.env))) (AP X pins σ Q) X.xe s
def PS (X:Cx) (st:Stmt) (t:TS):Prop :=
 ∀ (pins:List (Addr×Obj)) (s:Shared) (σ:St) (H:Hp) (D:Ends),Inv X pins σ H s->t D σ H->wpAny (model X.prog X.w) X.A (exec st X.env) (SP X pins D) X.xe s
def cK (X:Cx) (st:List Stmt) (t:TS):Prop :=
 ∀ (pins:List (Addr×Obj)) (s:Shared) (σ:St) (H:Hp) (D:Ends),Inv X pins σ H s->t D σ H->wpAny (model X.prog X.w) X.A (execs st X.env) (SP X pins D) X.xe s
theorem yU {α:Type} {t:Sem α} {Q Q':α->Shared->Prop} {M:Model} {A:Around} {E:Value->Shared->Prop} {s:Shared} (h:wpAny M A t Q E s) (hQ:∀ a s,Q a s->Q' a s):wpAny M A t Q' E s:=wpAny_mono h hQ fun _ _ x=>x
end L2
namespace L2
open PySem PySem.Spec PyProof.Rows
section
variable {X : Cx}
theorem bin {a b:Expr} {ta tb:TE} (ha:PE X a ta) (hb:PE X b tb) {pins:List (Addr×Obj)} {s:Shared} {σ:St} {H:Hp} {R:V->V->Hp->Prop} (I:Inv X pins σ H s) (h:ta σ H fun x H1=>tb σ H1 fun y H2=>R x y H2)
  {α:Type} {Q:α->Shared->Prop} {f:Value->Value->Sem α}
  (hf:∀ v u s2 x y H2,Inv X pins σ H2 s2->zR x v->zR y u->R x y H2->wpAny (model X.prog X.w) X.A (f v u) Q X.xe s2) :
  wpAny (model X.prog X.w) X.A (eval a X.env) (fun v s₁=>wpAny (model X.prog X.w) X.A (eval b X.env) (fun u s₂=>wpAny (model X.prog X.w) X.A (f v u) Q X.xe s₂) X.xe s₁) X.xe s:=by
 refine yU (ha pins s σ H _ I h) fun v s1 ⟨x,H1,I1,r1,q1⟩=>?_;refine yU (hb pins s1 σ H1 _ I1 q1) fun u s2 ⟨y,H2,I2,r2,q2⟩=>?_;exact hf v u s2 x y H2 I2 r1 r2 q2
def tVar (i:Nat):TE:=fun σ H Q=>∃ v,σ[i]?=some (some v)/\Q v H
def tC (v:V):TE:=fun _ H Q=>Q v H
theorem zf6 {i:Nat} {x:Str} {pos:Pos} (hN:X.N[i]?=some x) (hv:Vis X.env.scope x) (hd:(x==("__debug__" : Str))=false:=by decide) (hcd:(x==("__classdict__" : Str))=false:=by decide):PE X (.Name x pos) (tVar i):=by
 intro pins s σ H Q I h;obtain ⟨v,e,h⟩:=h;obtain ⟨m,hn,hl⟩:=I.loc;obtain ⟨u,r,l⟩:=hl i x v hN e hv;have fin:EP X pins σ Q u s:=⟨v,H,I,r,h⟩;rcases l with ⟨hk,hm⟩|⟨hk,c,hc,hcell⟩
 .exact wpAny_Name (wpAny_loadName_local I.ok.kind hk hn hm fin) hd
 .rcases hk with hk|hk
  .exact wpAny_Name (wpAny_loadName_cell I.ok.kind hk hc hcell fin) hd
  .exact wpAny_Name (wpAny_loadName_free I.ok.kind hk hc hcell fin hcd) hd
theorem zgd {i j pos}:PE X (.Constant (.int i) j pos) (tC (.int i)):=fun _ _ _ H _ I h=>wpAny_Constant_int ⟨.int i,H,I.tok _,⟨_,rfl⟩,h⟩
theorem pe_bl {b j pos}:PE X (.Constant (.bool b) j pos) (tC (.bl b)):=fun _ _ _ H _ I h=>Constant_bool ⟨.bl b,H,I,rfl,h⟩
theorem zgb {j pos}:PE X (.Constant .none j pos) (tC .non):=fun _ _ _ H _ I h=>Constant_none ⟨.non,H,I,rfl,h⟩
theorem zdb {x j pos}:PE X (.Constant (.str x) j pos) (tC (.str x)):=fun _ _ _ H _ I h=>Calls.Constant_str ⟨.str x,H,I.tok _,⟨_,rfl⟩,h⟩
def Gl (X:Cx) (x:Str):Prop:=X.env.kindOf x=some .globalImplicit
theorem vI {E:Value->Shared->Prop} {pins:List (Addr×Obj)} {s:Shared} {σ:St} {H:Hp} {x:Str} {u:Value} {pos:Pos} {Q:Value->Shared->Prop} (I:Inv X pins σ H s) (hg:Gl X x) (hm:X.mg x=some u) (h:Q u s)
  (hd:(x==("__debug__" : Str))=false:=by decide):wpAny (model X.prog X.w) X.A (eval (.Name x pos) X.env) Q E s :=
 Calls.Name_function_global I.ok.kind hg (Calls.loadGlobal_global (by rw [I.ok.glob];exact I.mod.glob.keeps I.bk) hm h) hd
theorem vY {E:Value->Shared->Prop} {pins:List (Addr×Obj)} {s:Shared} {σ:St} {H:Hp} {x:Str} {u:Value} {pos:Pos} {Q:Value->Shared->Prop} (I:Inv X pins σ H s) (hg:Gl X x) (hm:X.mg x=none) (hv:bootBuiltins x=some u) (h:Q u s)
  (hn:x ≠ "__name__" := by decide) (hd:(x==("__debug__" : Str))=false:=by decide):wpAny (model X.prog X.w) X.A (eval (.Name x pos) X.env) Q E s:=by
 obtain ⟨mb,h1,h2⟩:=I.mod.blt;exact Calls.Name_function_global I.ok.kind hg (Calls.loadGlobal_builtin (by rw [I.ok.glob];exact I.mod.glob.keeps I.bk) hm (by rw [I.ok.blt];exact h1.keeps I.bk) ((h2 x hn).trans hv) h) hd
theorem zd5 {x:Str} {v:V} {u:Value} {pos:Pos} (hg:Gl X x) (hm:X.mg x=some u) (r:zR v u) (hd:(x==("__debug__" : Str))=false:=by decide):PE X (.Name x pos) (tC v) :=
 fun _ _ _ H _ I h=>vI I hg hm ⟨v,H,I,r,h⟩ hd
theorem zd9 {x:Str} {v:V} {u:Value} {pos:Pos} (hg:Gl X x) (hm:X.mg x=none) (hv:bootBuiltins x=some u) (r:zR v u) (hn:x ≠ "__name__" := by decide) (hd:(x==("__debug__" : Str))=false:=by decide):PE X (.Name x pos) (tC v) :=
 fun _ _ _ H _ I h=>vY I hg hm hv ⟨v,H,I,r,h⟩ hn hd
variable {a b : Expr} {ta tb : TE} {pos : Pos}
variable {tA tB' : TT} {rest : List Expr}
def tAnd (t u:TT):TT:=fun σ H Q=>t σ H fun c H1=>if c=true then u σ H1 Q else Q false H1
def tOr (t u:TT):TT:=fun σ H Q=>t σ H fun c H1=>if c=true then Q true H1 else u σ H1 Q
def tNot (t:TT):TT:=fun σ H Q=>t σ H fun c H1=>Q (!c) H1
theorem zdR (ha:PT X a tA):PW X (.BoolOp .And [a] pos) tA:=by
 intro wh pins s σ H Q I h;refine isTrue_and (yU (ha pins s σ H Q I h) fun c s1 e=>?_)
 cases c with
 |true=>exact isTrue_and_nil e
 |false=>exact e
theorem zfW (ha:PT X a tA):PW X (.BoolOp .Or [a] pos) tA:=by
 intro wh pins s σ H Q I h;refine isTrue_or (yU (ha pins s σ H Q I h) fun c s1 e=>?_)
 cases c with
 |false=>exact isTrue_or_nil e
 |true=>exact e
theorem zc6 (ha:PT X a tA) (hb:PW X (.BoolOp .And (b::rest) pos) tB'):PW X (.BoolOp .And (a::b::rest) pos) (tAnd tA tB'):=by
 intro wh pins s σ H Q I h;refine isTrue_and (yU (ha pins s σ H _ I h) fun c s1 ⟨H1,I1,q1⟩=>?_)
 cases c with
 |true=>exact hb wh pins s1 σ H1 Q I1 q1
 |false=>exact ⟨H1,I1,q1⟩
theorem zfX (ha:PT X a tA) (hb:PW X (.BoolOp .Or (b::rest) pos) tB'):PW X (.BoolOp .Or (a::b::rest) pos) (tOr tA tB'):=by
 intro wh pins s σ H Q I h;refine isTrue_or (yU (ha pins s σ H _ I h) fun c s1 ⟨H1,I1,q1⟩=>?_)
 cases c with
 |true=>exact ⟨H1,I1,q1⟩
 |false=>exact hb wh pins s1 σ H1 Q I1 q1
theorem zfY (ha:PT X a tA):PT X (.UnaryOp .Not a pos) (tNot tA):=by
 intro pins s σ H Q I h;exact isTrue_not (ha pins s σ H (fun c H1=>Q (!c) H1) I h)
def zfC (ta tb:TE):TE:=fun σ H Q=>ta σ H fun x H1=>∃ c,x=.bl c/\if c=true then tb σ H1 Q else Q (.bl false) H1
def tOrV (ta tb:TE):TE:=fun σ H Q=>ta σ H fun x H1=>∃ c,x=.bl c/\if c=true then Q (.bl true) H1 else tb σ H1 Q
def tNotV (ta:TE):TE:=fun σ H Q=>ta σ H fun x H1=>∃ c,x=.bl c/\Q (.bl (!c)) H1
theorem zdc {op} {t:TE} (h:PE X a t):PE X (.BoolOp op [a] pos) t:=fun pins s σ H Q I hw=>BoolOp_one (h pins s σ H Q I hw)
theorem zdd (ha:PE X a ta) (hb:PE X (.BoolOp .And (b::rest) pos) tb):PE X (.BoolOp .And (a::b::rest) pos) (zfC ta tb):=by
 intro pins s σ H Q I h;refine BoolOp_and (yU (ha pins s σ H _ I h) fun v s1 ⟨x,H1,I1,r1,q1⟩=>?_);obtain ⟨c,rfl,q1⟩:=q1;cases r1;refine wpAny_truthy_bool ?_
 cases c with
 |true=>exact hb pins s1 σ H1 Q I1 q1
 |false=>exact ⟨.bl false,H1,I1,rfl,q1⟩
theorem zf9 (ha:PE X a ta) (hb:PE X (.BoolOp .Or (b::rest) pos) tb):PE X (.BoolOp .Or (a::b::rest) pos) (tOrV ta tb):=by
 intro pins s σ H Q I h;refine BoolOp_or (yU (ha pins s σ H _ I h) fun v s1 ⟨x,H1,I1,r1,q1⟩=>?_);obtain ⟨c,rfl,q1⟩:=q1;cases r1;refine wpAny_truthy_bool ?_
 cases c with
 |false=>exact hb pins s1 σ H1 Q I1 q1
 |true=>exact ⟨.bl true,H1,I1,rfl,q1⟩
theorem zga (ha:PE X a ta):PE X (.UnaryOp .Not a pos) (tNotV ta):=by
 intro pins s σ H Q I h;refine UnaryOp_ (yU (ha pins s σ H _ I h) fun v s1 ⟨x,H1,I1,r1,q1⟩=>?_);obtain ⟨c,rfl,q1⟩:=q1;cases r1;exact not_of (wpAny_truthy_bool ⟨.bl (!c),H1,I1,rfl,q1⟩)
def tIf (t:TT) (ta tb:TE):TE:=fun σ H Q=>t σ H fun c H1=>if c=true then ta σ H1 Q else tb σ H1 Q
theorem zb7 {c:Expr} (hc:PT X c tA) (ha:PE X a ta) (hb:PE X b tb):PE X (.IfExp c a b pos) (tIf tA ta tb):=by
 intro pins s σ H Q I h;refine wpAny_IfExp (yU (hc pins s σ H _ I h) fun d s1 ⟨H1,I1,q1⟩=>?_)
 cases d with
 |true=>exact ha pins s1 σ H1 Q I1 q1
 |false=>exact hb pins s1 σ H1 Q I1 q1
end
end L2
namespace L2
open PySem PySem.Spec PyProof.Rows
def tW (K:PySem.W.Frag) (H:Hp) (a:Addr) (xs:List V):Prop :=
 Rd H a (.lst xs) \/
  ∃ (o:Obj) (its:Array Value) (n:Nat),K.lookup a=some o/\o.cls=.type "list" /\ o.dict=none/\o.data=.seq its n/\its.size<=sizeLine/\zV xs its.toList
def uW (K:PySem.W.Frag) (H:Hp) (a:Addr) (xs:List V):Prop :=
 Rd H a (.tup xs) \/
  ∃ (o:Obj) (its:Array Value) (n:Nat),K.lookup a=some o/\o.cls=.type "tuple" /\ o.data=.seq its n/\its.size<=sizeLine/\zV xs its.toList
def absV:Value->Option V
 | .none=>some .non
 | .bool b=>some (.bl b)
 | .int i _=>some (.int i)
 | .str x _=>some (.str x)
 | .bytes b _=>some (.byt b)
 | .float b _=>some (.flt b)
 | .ref a=>some (.ref a)
 | .type n=>some (.ty n)
 |_=>none
theorem zR.abs {x:V} {u:Value} (r:zR x u):absV u=some x:=by
 cases x with
 |non=>cases r;rfl
 |bl _=>cases r;rfl
 |int _=>obtain ⟨t,rfl⟩:=r;rfl
 |str _=>obtain ⟨t,rfl⟩:=r;rfl
 |byt _=>obtain ⟨t,rfl⟩:=r;rfl
 |flt _=>obtain ⟨t,rfl⟩:=r;rfl
 |ref _=>cases r;rfl
 |ty _=>cases r;rfl
theorem zR.inj {x y:V} {u:Value} (r:zR x u) (q:zR y u):x=y:=Option.some.inj (r.abs.symm.trans q.abs)
theorem zV.inj:∀ {xs ys:List V} {us:List Value},zV xs us->zV ys us->xs=ys
 |_,_,_,.nil,.nil=>rfl
 |_,_,_,.cons r t,.cons r' t'=>by rw [r.inj r',zV.inj t t']
section
variable {X : Cx} {pins : List (Addr × Obj)} {σ : St} {H : Hp} {s : Shared} {a : Addr} {xs ys : List V}
theorem tW.of {K:PySem.W.Frag} (h:H a=some (.lst xs)):tW K H a xs:=.inl (.inl h)
theorem uW.of {K:PySem.W.Frag} (h:H a=some (.tup xs)):uW K H a xs:=.inl (.inl h)
theorem Inv.list (I:Inv X pins σ H s) (h:tW X.K H a xs):∃ its:List Value,zV xs its/\PlainL s.heap a its.toArray/\xs.length<=sizeLine:=by
 rcases h with h|⟨o,its,n,hk,hc,hd,hs,hz,r⟩
 .obtain ⟨z,its,n,r,e⟩:=h.ok I.hok;exact ⟨its,r,⟨_,n,e,rfl,rfl,rfl⟩,z⟩
 .refine ⟨its.toList,r,⟨o,n,I.kIn a o hk,hc,hd,by simpa using hs⟩,?_⟩;have e:=r.length;simp only [Array.length_toList] at e;omega
theorem Inv.tuple (I:Inv X pins σ H s) (h:uW X.K H a xs):∃ its:List Value,zV xs its/\IsTup s.heap a its.toArray/\xs.length<=sizeLine:=by
 rcases h with h|⟨o,its,n,hk,hc,hs,hz,r⟩
 .obtain ⟨z,its,r,p⟩:=h.ok I.hok;exact ⟨its,r,p,z⟩
 .refine ⟨its.toList,r,⟨o,I.kIn a o hk,hc,n,by simpa using hs⟩,?_⟩;have e:=r.length;simp only [Array.length_toList] at e;omega
theorem Inv.list_inj (I:Inv X pins σ H s) (h:tW X.K H a xs) (h':tW X.K H a ys):xs=ys:=by
 obtain ⟨its,r,⟨o,n,e,_,_,d⟩,_⟩:=I.list h;obtain ⟨its',r',⟨o',n',e',_,_,d'⟩,_⟩:=I.list h';rw [e] at e';cases e';rw [d] at d'
 injection d' with d1 _
 have:its=its':=by simpa using congrArg Array.toList d1
 subst this;exact r.inj r'
theorem Inv.tuple_inj (I:Inv X pins σ H s) (h:uW X.K H a xs) (h':uW X.K H a ys):xs=ys:=by
 obtain ⟨its,r,⟨o,e,_,n,d⟩,_⟩:=I.tuple h;obtain ⟨its',r',⟨o',e',_,n',d'⟩,_⟩:=I.tuple h';rw [e] at e';cases e';rw [d] at d'
 injection d' with d1 _
 have:its=its':=by simpa using congrArg Array.toList d1
 subst this;exact r.inj r'
end
abbrev Cx.wish (X:Cx) (E:Value->Shared->Prop):Cx:={ X with xe:=E }
abbrev Cx.nox (X:Cx):Cx:=X.wish fun _ _=>False
theorem Cx.Ok.wish {X:Cx} (ok:X.Ok) (E:Value->Shared->Prop):(X.wish E).Ok :=
 ⟨ok.mod,ok.kind,ok.glob,ok.blt,ok.above,ok.inj,ok.has,ok.cab,ok.hd,ok.frames,ok.stk,ok.exf,ok.bs,ok.bsz,ok.noex,ok.exfs,ok.funs,ok.frf⟩
theorem Cx.Ok.unwish {X:Cx} {E:Value->Shared->Prop} (ok:(X.wish E).Ok):X.Ok :=
 ⟨ok.mod,ok.kind,ok.glob,ok.blt,ok.above,ok.inj,ok.has,ok.cab,ok.hd,ok.frames,ok.stk,ok.exf,ok.bs,ok.bsz,ok.noex,ok.exfs,ok.funs,ok.frf⟩
section
variable {X : Cx} {pins : List (Addr × Obj)} {σ : St} {H : Hp} {s : Shared} {E : Value → Shared → Prop}
theorem Inv.wish (I:Inv X pins σ H s) (E:Value->Shared->Prop):Inv (X.wish E) pins σ H s:=⟨I.ok.wish E,I.os,I.bare,I.base,I.loc,I.cell,I.free,I.freeC,I.pin,I.hok,I.len,I.tk⟩
theorem Inv.unwish (I:Inv (X.wish E) pins σ H s):Inv X pins σ H s:=⟨I.ok.unwish,I.os,I.bare,I.base,I.loc,I.cell,I.free,I.freeC,I.pin,I.hok,I.len,I.tk⟩
theorem SP.unwish {D:Ends} {f:Flow} {s':Shared} (h:SP (X.wish E) pins D f s'):SP X pins D f s':=by
 cases f with
 |next=>obtain ⟨σ',H',I,q⟩:=h;exact ⟨σ',H',I.unwish,q⟩
 |brk=>obtain ⟨σ',H',I,q⟩:=h;exact ⟨σ',H',I.unwish,q⟩
 |cont=>obtain ⟨σ',H',I,q⟩:=h;exact ⟨σ',H',I.unwish,q⟩
 |ret u=>obtain ⟨v,σ',H',I,r,q⟩:=h;exact ⟨v,σ',H',I.unwish,r,q⟩
theorem cK.nox {st:List Stmt} {t:TS} (h:cK X.nox st t):cK X st t:=fun pins s σ H D I hw =>
 wpAny_mono (h pins s σ H D (I.wish _) hw) (fun _ _ q=>q.unwish) fun _ _ z=>False.elim z
end
section
variable {X : Cx} {st : Stmt} {rest : List Stmt} {t u : TS} {e : Expr} {te : TE} {pos : Pos}
def zfx:TS:=fun D σ H=>D.nx σ H
def tSeq (t u:TS):TS:=fun D σ H=>t { D with nx:=u D } σ H
theorem zdV:cK X [] zfx:=fun _ _ σ H _ I h=>wpAny_execs_nil ⟨σ,H,I,h⟩
theorem zbY (h1:PS X st t) (h2:cK X rest u):cK X (st::rest) (tSeq t u):=by
 intro pins s σ H D I h;refine wpAny_execs_cons (yU (h1 pins s σ H { D with nx:=u D } I h) fun f s1 q=>?_)
 cases f with
 |next =>
  obtain ⟨σ',H',I',q⟩:=q;exact h2 pins s1 σ' H' D I' q
 |ret v=>exact q
 |brk=>exact q
 |cont=>exact q
def zfB:TS:=fun D σ H=>D.bk σ H
def tCont:TS:=fun D σ H=>D.ct σ H
theorem zdX:PS X (.Pass pos) zfx:=fun _ _ σ H _ I h=>wpAny_Pass ⟨σ,H,I,h⟩
theorem zb2:PS X (.Break pos) zfB:=fun _ _ σ H _ I h=>wpAny_Break ⟨σ,H,I,h⟩
theorem dX:PS X (.Continue pos) tCont:=fun _ _ σ H _ I h=>wpAny_Continue ⟨σ,H,I,h⟩
theorem Inv.quiet {pins:List (Addr×Obj)} {σ:St} {H:Hp} {s:Shared} (I:Inv X pins σ H s):interactive X.env=false:=by simp [interactive,I.ok.kind]
def tDrop (te:TE):TS:=fun D σ H=>te σ H fun _ H1=>D.nx σ H1
theorem zdY (he:PE X e te) (hs:swapsWith e none pos.line X.env=pure false:=by rfl):PS X (.Expr e pos) (tDrop te):=by
 intro pins s σ H D I h;exact wpAny_Expr_any (yU (he pins s σ H _ I h) fun v s1 ⟨x,H1,I1,r1,q1⟩=>⟨σ,H1,I1,q1⟩) I.quiet hs
def tRet (te:TE):TS:=fun D σ H=>te σ H D.rt
theorem zf0 (he:PE X e te):PS X (.Return (some e) pos) (tRet te):=by
 intro pins s σ H D I h;exact wpAny_Return_some (yU (he pins s σ H _ I h) fun v s1 ⟨x,H1,I1,r1,q1⟩=>⟨x,σ,H1,I1,r1,q1⟩)
def tRetN:TS:=fun D _ H=>D.rt .non H
theorem zdW:PS X (.Return none pos) tRetN:=fun _ _ σ H _ I h=>wpAny_Return_none ⟨.non,σ,H,I,rfl,h⟩
def tIfS (c:TT) (t u:TS):TS:=fun D σ H=>c σ H fun b H1=>if b=true then t D σ H1 else u D σ H1
theorem ps_if {c:Expr} {a b:List Stmt} {tc:TT} (hc:PT X c tc) (ha:cK X a t) (hb:cK X b u):PS X (.If c a b pos) (tIfS tc t u):=by
 intro pins s σ H D I h;refine wpAny_If (yU (hc pins s σ H _ I h) fun d s1 ⟨H1,I1,q1⟩=>?_)
 cases d with
 |true=>exact ha pins s1 σ H1 D I1 q1
 |false=>exact hb pins s1 σ H1 D I1 q1
def zfy:TS:=fun _ _ _=>False
theorem zb1:PS X st zfy:=fun _ _ _ _ _ _ h=>h.elim
end
abbrev TG:=V->St->Hp->(St->Hp->Prop)->Prop
abbrev TGs:=List V->St->Hp->(St->Hp->Prop)->Prop
def PG (X:Cx) (target:Expr) (t:TG):Prop :=
 ∀ (pins:List (Addr×Obj)) (s:Shared) (σ:St) (H:Hp) (v:V) (u:Value) (Q:St->Hp->Prop),Inv X pins σ H s->zR v u->t v σ H Q ->
  wpAny (model X.prog X.w) X.A (assign target X.env u) (fun _ s'=>∃ σ' H',Inv X pins σ' H' s'/\Q σ' H') X.xe s
def PGs (X:Cx) (ts:List Expr) (t:TGs):Prop :=
 ∀ (pins:List (Addr×Obj)) (s:Shared) (σ:St) (H:Hp) (vs:List V) (us:List Value) (Q:St->Hp->Prop),Inv X pins σ H s->zV vs us->t vs σ H Q ->
  wpAny (model X.prog X.w) X.A (assignInOrder ((assignEach ts X.env).map (·.2)) us) (fun _ s'=>∃ σ' H',Inv X pins σ' H' s'/\Q σ' H') X.xe s
abbrev TSet:=V->V->V->Hp->(Hp->Prop)->Prop
def PSet (X:Cx) (t:TSet):Prop :=
 ∀ (pins:List (Addr×Obj)) (s:Shared) (σ:St) (H:Hp) (o i v:V) (ov iv u:Value) (Q:Hp->Prop),Inv X pins σ H s->zR o ov->zR i iv->zR v u->t o i v H Q ->
  wpAny (model X.prog X.w) X.A (setItem ov iv u) (fun _ s'=>∃ H',Inv X pins σ H' s'/\Q H') X.xe s
section
variable {X : Cx} {pos : Pos}
def zcC (i:Nat):TG:=fun v σ H Q=>Q (σ.set i (some v)) H
theorem mB {i:Nat} {x:Str} (hN:X.N.Nodup) (hi:X.N[i]?=some x) (hx:Loc X.env.scope x) (hf:X.fn x=true\/X.env.scope.names.lookup x=some .local:=by first|exact .inl rfl|exact .inr rfl|assumption):PG X (.Name x pos) (zcC i):=by
 intro pins s σ H v u Q I r h;exact wpAny_assign_Name (fS I hN hi hx r (fun s' I'=>⟨_,H,I',h⟩) hf)
def gNil:TGs:=fun vs σ H Q=>vs=[]/\Q σ H
def gCons (t:TG) (u:TGs):TGs:=fun vs σ H Q=>∃ v r,vs=v::r/\t v σ H fun σ' H'=>u r σ' H' Q
theorem zaA:PGs X [] gNil:=by
 intro pins s σ H vs us Q I r h;obtain ⟨e,h⟩:=h;subst e;cases r;exact assignInOrder_nil ⟨σ,H,I,h⟩
theorem sP {e:Expr} {es:List Expr} {t:TG} {u:TGs} (h1:PG X e t) (h2:PGs X es u)
  (hs:(assignEach (e::es) X.env).map (·.2)=assign e X.env::(assignEach es X.env).map (·.2):=by rfl):PGs X (e::es) (gCons t u):=by
 intro pins s σ H vs us Q I r h;obtain ⟨v,vr,e1,h⟩:=h;subst e1
 cases r with
 |cons r rr =>
  rw [hs];refine assignInOrder_cons (yU (h1 pins s σ H _ _ _ I r h) fun _ s1 ⟨σ1,H1,I1,q1⟩=>?_);exact h2 pins s1 σ1 H1 _ _ Q I1 rr q1
def gTup (K:PySem.W.Frag) (n:Nat) (t:TGs):TG:=fun v σ H Q=>∃ a xs,v=.ref a/\uW K H a xs/\xs.length=n/\t xs σ H Q
theorem zda {es:List Expr} {k:Nat} {t:TGs} {n:Nat} (hc:X.calm=true) (h:PGs X es t)
  (hn:(assignEach es X.env).length=n:=by rfl) (hst:(assignEach es X.env).findIdx? (·.1)=none:=by rfl):PG X (.Tuple es k pos) (gTup X.K n t):=by
 intro pins s σ H v u Q I r hw;obtain ⟨a,xs,e1,hq,hl,hw⟩:=hw;subst e1;cases r;obtain ⟨its,rv,ht,hz⟩:=I.tuple hq;refine assign_Tuple_tuple (I.ok.hd hc) ht (by simp [hn,← hl,rv.length]) hst fun h' hx=>?_;have I1:Inv X pins σ H { s with heap:=h' }:=I.kept (t':=s.toks) fun b o e=>hx b o (Nat.ne_of_lt (Heap.lt_size e)) e;exact h pins _ σ H xs _ Q I1 (by simpa using rv) hw
def tAsg (te:TE) (g:TG):TS:=fun D σ H=>te σ H fun x H1=>g x σ H1 D.nx
theorem zc8 {tg e:Expr} {te:TE} {g:TG} (he:PE X e te) (hg:PG X tg g) (hs:swapsWithSole [tg] e pos.line X.env=pure false:=by rfl) (hw:swappedStores [tg] e X.env=pure none:=by rfl)
  (h1:(assignEach [tg] X.env).map (·.2)=[assign tg X.env]:=by rfl):PS X (.Assign [tg] e pos) (tAsg te g):=by
 intro pins s σ H D I h;refine wpAny_Assign_stores (yU (he pins s σ H _ I h) fun v s1 ⟨x,H1,I1,r1,q1⟩=>?_) hs hw;rw [h1];exact yU (hg pins s1 σ H1 x v _ I1 r1 q1) fun _ s2 q=>q
theorem zc7 {i:Nat} {x:Str} {e:Expr} {te:TE} {pos':Pos} (hN:X.N.Nodup) (hi:X.N[i]?=some x) (hx:Loc X.env.scope x) (he:PE X e te) (hs:swapsWith e (some (.Name x pos')) pos.line X.env=pure false:=by rfl) (hf:X.fn x=true\/X.env.scope.names.lookup x=some .local:=by first|exact .inl rfl|exact .inr rfl|assumption) :
  PS X (.Assign [.Name x pos'] e pos) (tAsg te (zcC i)):=by
 intro pins s σ H D I h;refine wpAny_Assign_Name (yU (he pins s σ H _ I h) fun v s1 ⟨y,H1,I1,r1,q1⟩=>?_) hs;exact fS I1 hN hi hx r1 (fun s2 I2=>⟨_,H1,I2,q1⟩) hf
end
section
variable {X : Cx} {pos : Pos}
def zfw (c:TT) (tb:TS):TS:=fun D σ H=>∃ W:Nat->St->Hp->Prop,(∃ m,W m σ H)/\∀ m σ H,W m σ H ->
 c σ H fun b H1=>if b=true then ∃ N:St->Hp->Prop,(∀ σ' H',N σ' H'->∃ m',m' < m/\W m' σ' H')/\tb { D with nx:=N,ct:=N,bk:=D.nx } σ H1 else D.nx σ H1
theorem zbZ {c:Expr} {body:List Stmt} {tc:TT} {tb:TS} (hp:PassesOwn (model X.prog X.w) X.A X.env X.xe) (hc:PT X c tc) (hb:cK X body tb):PS X (.While c body [] pos) (zfw tc tb):=by
 intro pins s σ H D I h;obtain ⟨W,⟨m0,w0⟩,turn⟩:=h;refine wpAny_While (codeAny_whileLoop (fun n s'=>∃ σ' H',Inv X pins σ' H' s'/\W n σ' H') ?_ m0 ⟨σ,H,I,w0⟩);rintro n s1 ⟨σ1,H1,I1,w1⟩;refine wpAny_passesOwn hp (yU (hc pins s1 σ1 H1 _ I1 (turn n σ1 H1 w1)) fun b s2 ⟨H2,I2,q2⟩=>?_)
 cases b with
 |true =>
  obtain ⟨N,hN,q2⟩:=q2;rw [if_pos rfl];refine wpAny_passesOwn hp (yU (hb pins s2 σ1 H2 _ I2 q2) fun f s3 q3=>?_)
  cases f with
  |next =>
   obtain ⟨σ3,H3,I3,n3⟩:=q3;obtain ⟨m',hm,w3⟩:=hN σ3 H3 n3;exact ⟨m',hm,σ3,H3,I3,w3⟩
  |cont =>
   obtain ⟨σ3,H3,I3,n3⟩:=q3;obtain ⟨m',hm,w3⟩:=hN σ3 H3 n3;exact ⟨m',hm,σ3,H3,I3,w3⟩
  |brk=>exact q3
  |ret v=>exact q3
 |false =>
  rw [if_neg zzN];exact wpAny_execs_nil ⟨σ1,H2,I2,q2⟩
end
structure It where
 go:Nat->Hp->Prop
 yld:Nat->Hp->V->Hp->Prop
 stop:Nat->Hp->Prop
def jK (X:Cx) (pins:List (Addr×Obj)) (H:Hp) (b:Addr):Prop :=
 H b=none/\b≠X.env.locals/\b∉X.fs/\(b∈X.ex\/X.s₀.heap.objs.size<=b)/\(∀ x c,X.env.cells.lookup x=some c->c≠b)/\∀ p∈X.pn++pins,p.1≠b
theorem Inv.fpOk {X:Cx} {pins:List (Addr×Obj)} {σ:St} {H H':Hp} {s:Shared} {b:Addr} (I:Inv X pins σ H s) (hb:s.heap.objs.size<=b) (hn:H' b=none):jK X pins H' b:=by
 refine ⟨hn,Nat.ne_of_gt (Nat.lt_of_lt_of_le I.lt hb),I.nofs hb,.inr (Nat.le_trans I.sz hb),fun x c e z=>?_,fun p hp z=>?_⟩
 .obtain ⟨v,q⟩:=I.cell x c e;exact absurd (Nat.lt_of_lt_of_le q.lt (by rw [z];exact hb)) (Nat.lt_irrefl _)
 .exact absurd (Nat.lt_of_lt_of_le (Heap.lt_size (I.pin p hp).1) (by rw [z];exact hb)) (Nat.lt_irrefl _)
structure Turn (P:Program) (w:World) (K:PySem.W.Frag) (tg:Expr) (J:It) (fp:List Addr) (it:Addr) (tn:Nat->Heap->Prop):Prop where
 mem:it∈fp
 obj:∀ i h,tn i h->∀ b∈fp,∃ o,h.get? b=some o/\∀ v,o.data≠.cell v
 keep:∀ i h h',tn i h->(∀ b∈fp,∀ o,h.get? b=some o->h'.get? b=some o)->tn i h'
 item:∀ (X:Cx),X.prog=P->X.w=w->X.K=K->X.calm=true->∀ (i:Nat) (pins:List (Addr×Obj)) (s:Shared) (σ:St) (H:Hp) (E:Value->Shared->Prop),Inv X pins σ H s->(∀ b∈fp,jK X pins H b)->tn i s.heap->J.go i H ->
  wpAny (model P w) X.A (pyNext (.ref it)) (fun r s1=>∃ u,r=some u /\
   wpAny (model P w) X.A (letOwnedTupleGo tg (.ref it) u) (fun _ s2=>∃ x H',Inv X pins σ H' s2/\zR x u/\J.yld i H x H'/\tn (i+1) s2.heap/\∀ b∈fp,H' b=none) E s1) E s
 done:∀ (X:Cx),X.prog=P->X.w=w->X.K=K->X.calm=true->∀ (i:Nat) (pins:List (Addr×Obj)) (s:Shared) (σ:St) (H:Hp) (E:Value->Shared->Prop),Inv X pins σ H s->(∀ b∈fp,jK X pins H b)->tn i s.heap->J.stop i H ->
  wpAny (model P w) X.A (pyNext (.ref it)) (fun r s1=>r=none/\Inv X pins σ H s1) E s
 self:∀ (A:Around) (i:Nat) (s:Shared) (Q:Value->Shared->Prop) (E:Value->Shared->Prop),tn i s.heap->Q (.ref it) s->wpAny (model P w) A (pyIter (.ref it)) Q E s
abbrev TI:=St->Hp->(It->Hp->Prop)->Prop
def PIE (X:Cx) (pins:List (Addr×Obj)) (σ:St) (tg:Expr) (R:It->Hp->Prop) (itv:Value) (s2:Shared):Prop :=
 ∃ (it:Addr) (fp:List Addr) (tn:Nat->Heap->Prop) (J:It) (H':Hp),itv=.ref it/\Inv X pins σ H' s2/\Turn X.prog X.w X.K tg J fp it tn/\tn 0 s2.heap/\(∀ b∈fp,jK X pins H' b)/\R J H'
def PI (X:Cx) (tg iter:Expr) (wi:TI):Prop :=
 ∀ (pins:List (Addr×Obj)) (s:Shared) (σ:St) (H:Hp) (R:It->Hp->Prop),Inv X pins σ H s->wi σ H R ->
  wpAny (model X.prog X.w) X.A (eval iter X.env) (fun v s1=>wpAny (model X.prog X.w) X.A (pyIter v) (PIE X pins σ tg R) X.xe s1) X.xe s
theorem zcB {M:Model} {A:Around} {E:Value->Shared->Prop} {s:Shared} {tg:Expr} {it:Addr} {u:Value} {o:Obj} {n:String} {vs:Array Value} {Q:Unit->Shared->Prop} (ho:s.heap.get? it=some o) (hc:o.cls=.type n) (hd:o.data=.fields vs)
    (hn:["enumerate", "zip", "dict_itemiterator", "dict_reverseitemiterator", "odict_iterator", "itertools.zip_longest", "itertools.pairwise"].contains n=false) (hQ:Q () s):wpAny M A (letOwnedTupleGo tg (.ref it) u) Q E s:=by
  unfold letOwnedTupleGo
  cases tg<;>first
    |exact wpAny_pure hQ
    | (cases u<;>first
        |exact wpAny_pure hQ
        | (refine wpAny_bind (wpAny_load ho ?_)
           rw [hc,hd];show wpAny M A (if (["enumerate", "zip", "dict_itemiterator", "dict_reverseitemiterator", "odict_iterator", "itertools.zip_longest", "itertools.pairwise"].contains n&&vs[0]?==some (rawInt _))=true then _ else _) Q E s;rw [if_neg (by intro h;rw [hn,Bool.false_and] at h;cases h)];exact wpAny_pure hQ))
def Itl (K:PySem.W.Frag) (a:Addr):It :=
 ⟨fun i H=>∃ xs x,tW K H a xs/\xs[i]?=some x,fun i H x H'=>H'=H/\∀ xs,tW K H a xs->xs[i]?=some x,fun i H=>∃ xs,tW K H a xs/\xs.length<=i⟩
def Itt (K:PySem.W.Frag) (a:Addr):It :=
 ⟨fun i H=>∃ xs x,uW K H a xs/\xs[i]?=some x,fun i H x H'=>H'=H/\∀ xs,uW K H a xs->xs[i]?=some x,fun i H=>∃ xs,uW K H a xs/\xs.length<=i⟩
theorem zak {P:Program} {w:World} {K:PySem.W.Frag} {tg:Expr} (a it:Addr):Turn P w K tg (Itl K a) [it] it (fun i h=>h.IsListIter it a i) where
 mem:=by simp
 obj:=fun i h st b hb=>by
  have e:b=it:=by simpa using hb
  subst e;obtain ⟨o,e,c,d⟩:=st;exact ⟨o,e,fun v z=>by rw [d] at z;cases z⟩
 keep:=fun i h h' st k=>st.at fun o e=>k it (by simp) o e
 item:=by
  intro X hP hw hK hc i pins s σ H E I hf st hg;subst hP hw hK;obtain ⟨xs,x,hq,hx⟩:=hg;obtain ⟨its,rv,p,hz⟩:=I.list hq;obtain ⟨u,hu,ru⟩:=rv.get hx;obtain ⟨f0,f1,f2,f3,f4,f5⟩:=hf it (by simp);refine wpAny_pyNext_list_item st p.isList (x:=u) (by simpa using hu) fun h' st' sb=>?_;have I1:Inv X pins σ H { s with heap:=h' }:=I.turned (t':=s.toks) (fun b o hb e=>(sb.2 b hb).trans e) f0 f1 f3 f4 f5;obtain ⟨o,e,c,d⟩:=id st';exact ⟨u,rfl,zcB (s:={ s with heap:=h' }) e c d (by decide) ⟨x,H,I1,ru,⟨rfl,fun ys hy=>by rw [I.list_inj hy hq];exact hx⟩,st',fun b hb=>(hf b hb).1⟩⟩
 done:=by
  intro X hP hw hK hc i pins s σ H E I hf st hg;subst hP hw hK;obtain ⟨xs,hq,hx⟩:=hg;obtain ⟨its,rv,p,hz⟩:=I.list hq;obtain ⟨f0,f1,f2,f3,f4,f5⟩:=hf it (by simp);have hl:=rv.length;exact wpAny_pyNext_list_end (I.ok.hd hc) st p.isList (by simp;omega) fun h' eb=>⟨rfl,I.turned (t':=s.toks) (fun b o hb e=>eb b o hb e) f0 f1 f3 f4 f5⟩
 self:=fun _ _ _ _ _ st h=>wpAny_pyIter_listiter st h
theorem cB {P:Program} {w:World} {K:PySem.W.Frag} {tg:Expr} (a it:Addr):Turn P w K tg (Itt K a) [it] it (fun i h=>h.IsTupleIter it a i) where
 mem:=by simp
 obj:=fun i h st b hb=>by
  have e:b=it:=by simpa using hb
  subst e;obtain ⟨o,e,c,d⟩:=st;exact ⟨o,e,fun v z=>by rw [d] at z;cases z⟩
 keep:=fun i h h' st k=>st.at fun o e=>k it (by simp) o e
 item:=by
  intro X hP hw hK hc i pins s σ H E I hf st hg;subst hP hw hK;obtain ⟨xs,x,hq,hx⟩:=hg;obtain ⟨its,rv,p,hz⟩:=I.tuple hq;obtain ⟨u,hu,ru⟩:=rv.get hx;obtain ⟨f0,f1,f2,f3,f4,f5⟩:=hf it (by simp);refine wpAny_pyNext_tuple_item st (show s.heap.IsTuple a its.toArray from p) (x:=u) (by simpa using hu) fun h' st' sb=>?_;have I1:Inv X pins σ H { s with heap:=h' }:=I.turned (t':=s.toks) (fun b o hb e=>(sb.2 b hb).trans e) f0 f1 f3 f4 f5;obtain ⟨o,e,c,d⟩:=id st';exact ⟨u,rfl,zcB (s:={ s with heap:=h' }) e c d (by decide) ⟨x,H,I1,ru,⟨rfl,fun ys hy=>by rw [I.tuple_inj hy hq];exact hx⟩,st',fun b hb=>(hf b hb).1⟩⟩
 done:=by
  intro X hP hw hK hc i pins s σ H E I hf st hg;subst hP hw hK;obtain ⟨xs,hq,hx⟩:=hg;obtain ⟨its,rv,p,hz⟩:=I.tuple hq;obtain ⟨f0,f1,f2,f3,f4,f5⟩:=hf it (by simp);have hl:=rv.length;exact wpAny_pyNext_tuple_end (I.ok.hd hc) st (show s.heap.IsTuple a its.toArray from p) (by simp;omega) fun h' eb=>⟨rfl,I.turned (t':=s.toks) (fun b o hb e=>eb b o hb e) f0 f1 f3 f4 f5⟩
 self:=fun _ _ _ _ _ st h=>wpAny_pyIter_tupleiter st h
end L2
namespace L2
open PySem PySem.Spec PyProof.Rows
section
variable {X : Cx} {tg : Expr}
def tFor (wi:TI) (g:TG) (tb:TS):TS:=fun D σ H=>wi σ H fun J H1=>∃ W:Nat->Nat->St->Hp->Prop,(∃ m,W 0 m σ H1)/\∀ i m σ H,W i m σ H ->
 (J.stop i H/\D.nx σ H)\/(J.go i H/\∃ N:St->Hp->Prop,(∀ σ' H',N σ' H'->∃ m',m' < m/\W (i+1) m' σ' H')/\∀ x H',J.yld i H x H'->g x σ H' fun σ2 H2=>tb { D with nx:=N,ct:=N,bk:=D.nx } σ2 H2)
def uS (fp:List Addr) (h:Heap):List (Addr×Obj):=fp.filterMap fun b=>(h.get? b).map fun o=>(b,o)
theorem wD {fp:List Addr} {h:Heap} {b:Addr} {o:Obj} (hb:b∈fp) (e:h.get? b=some o):(b,o)∈uS fp h:=List.mem_filterMap.mpr ⟨b,hb,by rw [e];rfl⟩
theorem zaE {fp:List Addr} {h:Heap} {p:Addr×Obj} (hp:p∈uS fp h):p.1∈fp/\h.get? p.1=some p.2:=by
 obtain ⟨b,hb,e⟩:=List.mem_filterMap.mp hp
 cases q:h.get? b with
 |none=>rw [q] at e;cases e
 |some o =>
  rw [q] at e;have e':(b,o)=p:=Option.some.inj e;subst e';exact ⟨hb,q⟩
theorem Inv.pinned {pins:List (Addr×Obj)} {σ:St} {H:Hp} {s:Shared} {fp:List Addr} (I:Inv X pins σ H s) (hf:∀ b∈fp,jK X pins H b) (ho:∀ b∈fp,∃ o,s.heap.get? b=some o/\∀ v,o.data≠.cell v):Inv X (pins++uS fp s.heap) σ H s :=
 I.pins_of fun p hp=>(List.mem_append.mp hp).elim (fun z=>I.pin p (List.mem_append_right _ z)) fun z=>by
  obtain ⟨hb,e⟩:=zaE z;obtain ⟨f0,f1,f2,_⟩:=hf p.1 hb;obtain ⟨o,e',d⟩:=ho p.1 hb;rw [e] at e';cases e';exact ⟨e,f0,f1,f2,d⟩
theorem Inv.unpinned {pins pl:List (Addr×Obj)} {σ:St} {H:Hp} {s:Shared} (I:Inv X (pins++pl) σ H s):Inv X pins σ H s:=I.pins_of fun p hp=>I.pin p (List.mem_append_right _ (List.mem_append_left _ hp))
theorem zf1 {iter:Expr} {body:List Stmt} {wi:TI} {g:TG} {tb:TS} {pos:Pos} (hp:PassesOwn (model X.prog X.w) X.A X.env X.xe) (hc:X.calm=true) (hi:PI X tg iter wi) (hg:PG X tg g) (hb:cK X body tb)
  (hs:∀ x,foldedSetIterable iter X.env x=pure x:=by intro _;rfl):PS X (.For tg iter body [] pos) (tFor wi g tb):=by
 intro pins s σ H D I h;refine wpAny_For (yU (hi pins s σ H _ I h) fun v s1 h1=>yU h1 fun itv s2 h2=>?_) hs;obtain ⟨it,fp,tn,J,H2,e,I2,T,st2,f2,W,⟨m0,w0⟩,turn⟩:=h2;subst e;have stat:∀ {H':Hp},(∀ b∈fp,H' b=none)->∀ b∈fp,jK X pins H' b:=fun hn b hb=>⟨hn b hb,(f2 b hb).2⟩;refine codeAny_forLoop_any (fun n s'=>∃ i σ' H',Inv X pins σ' H' s'/\tn i s'.heap/\(∀ b∈fp,H' b=none)/\W i n σ' H') ?_ m0 ⟨0,σ,H2,I2,st2,fun b hb=>(f2 b hb).1,w0⟩;rintro n s3 ⟨i,σ3,H3,I3,st3,fr3,w3⟩;rcases turn i n σ3 H3 w3 with ⟨stop,qn⟩|⟨go,N,hN,step⟩
 .refine wpAny_passesOwn hp (yU (T.done X rfl rfl rfl hc i pins s3 σ3 H3 X.xe I3 (stat fr3) st3 stop) fun r s4 ⟨hr,I4⟩=>?_);subst hr;exact wpAny_execs_nil ⟨σ3,H3,I4,qn⟩
 .refine wpAny_passesOwn hp (yU (T.item X rfl rfl rfl hc i pins s3 σ3 H3 X.xe I3 (stat fr3) st3 go) fun r s4 ⟨u,hr,h4⟩=>?_);subst hr;refine wpAny_passesOwn hp (yU h4 fun _ s5 ⟨x,H5,I5,r5,y5,st5,fr5⟩=>?_);have I5':=I5.pinned (stat fr5) (T.obj _ _ st5);refine wpAny_passesOwn hp (yU (hg _ s5 σ3 H5 x u _ I5' r5 (step x H5 y5)) fun _ s6 ⟨σ6,H6,I6,q6⟩=>?_);refine wpAny_passesOwn hp (yU (hb _ s6 σ6 H6 _ I6 q6) fun f s7 q7=>?_)
  have again:∀ {σ7:St} {H7:Hp},Inv X (pins++uS fp s5.heap) σ7 H7 s7->N σ7 H7->∃ m,m<n/\∃ i σ' H',Inv X pins σ' H' s7/\tn i s7.heap/\(∀ b∈fp,H' b=none)/\W i m σ' H':=fun {σ7 H7} I7 n7=>by
   obtain ⟨m',hm,w7⟩:=hN σ7 H7 n7;refine ⟨m',hm,i+1,σ7,H7,I7.unpinned,T.keep _ _ _ st5 fun b hb o e=>(I7.pin (b,o) (List.mem_append_right _ (List.mem_append_right _ (wD hb e)))).1,fun b hb=>?_,w7⟩;obtain ⟨o,e,d⟩:=T.obj _ _ st5 b hb;exact (I7.pin (b,o) (List.mem_append_right _ (List.mem_append_right _ (wD hb e)))).2.1
  cases f with
  |next=>obtain ⟨σ7,H7,I7,n7⟩:=q7;exact again I7 n7
  |cont=>obtain ⟨σ7,H7,I7,n7⟩:=q7;exact again I7 n7
  |brk=>obtain ⟨σ7,H7,I7,q7⟩:=q7;exact ⟨σ7,H7,I7.unpinned,q7⟩
  |ret v=>obtain ⟨x7,σ7,H7,I7,r7,q7⟩:=q7;exact ⟨x7,σ7,H7,I7.unpinned,r7,q7⟩
end
end L2
namespace L2
open PySem PySem.Spec PyProof.Rows
abbrev R2:=V->V->Hp->VK->Prop
def jL (X:Cx) (f:Value->Value->Sem Value) (r:R2):Prop :=
 ∀ (pins:List (Addr×Obj)) (s:Shared) (σ:St) (H:Hp) (x y:V) (v u:Value) (Q:VK),Inv X pins σ H s->zR x v->zR y u->r x y H Q ->
  wpAny (model X.prog X.w) X.A (f v u) (EP X pins σ Q) X.xe s
def UnR (X:Cx) (f:Value->Sem Value) (r:V->Hp->VK->Prop):Prop :=
 ∀ (pins:List (Addr×Obj)) (s:Shared) (σ:St) (H:Hp) (x:V) (v:Value) (Q:VK),Inv X pins σ H s->zR x v->r x H Q ->
  wpAny (model X.prog X.w) X.A (f v) (EP X pins σ Q) X.xe s
def wN (X:Cx) (f:Value) (r:List V->Hp->VK->Prop):Prop :=
 ∀ (pins:List (Addr×Obj)) (s:Shared) (σ:St) (H:Hp) (xs:List V) (us:List Value) (Q:VK),Inv X pins σ H s->zV xs us->r xs H Q ->
  wpAny (model X.prog X.w) X.A (call f us) (EP X pins σ Q) X.xe s
def TruR (X:Cx) (r:V->Hp->(Bool->Hp->Prop)->Prop):Prop :=
 ∀ (pins:List (Addr×Obj)) (s:Shared) (σ:St) (H:Hp) (x:V) (v:Value) (Q:Bool->Hp->Prop),Inv X pins σ H s->zR x v->r x H Q ->
  wpAny (model X.prog X.w) X.A (truthy v) (TP X pins σ Q) X.xe s
def tOp (r:R2) (ta tb:TE):TE:=fun σ H Q=>ta σ H fun x H1=>tb σ H1 fun y H2=>r x y H2 Q
def tUn (r:V->Hp->VK->Prop) (ta:TE):TE:=fun σ H Q=>ta σ H fun x H1=>r x H1 Q
def rI (C:Int->Int->Prop) (g:Int->Int->V):R2:=fun x y H Q=>∃ i j,x=.int i/\y=.int j/\C i j/\Q (g i j) H
def rI0 (g:Int->Int->V):R2:=fun x y H Q=>∃ i j,x=.int i/\y=.int j/\Q (g i j) H
def rU (g:Int->V):V->Hp->VK->Prop:=fun x H Q=>∃ i,x=.int i/\Q (g i) H
section
variable {X : Cx} {a b c : Expr} {ta tb tc : TE} {pos : Pos}
theorem binT (ha:PE X a ta) (hb:PE X b tb) {pins:List (Addr×Obj)} {s:Shared} {σ:St} {H:Hp} {R:V->V->Hp->Prop} (I:Inv X pins σ H s)
  (h:ta σ H fun x H1=>tb σ H1 fun y H2=>R x y H2) {Q:Value->Shared->Prop} {f:Value->Value->Sem Value}
  (hf:∀ v u s2 x y H2,Inv X pins σ H2 s2->zR x v->zR y u->R x y H2->wpAny (model X.prog X.w) X.A (f v u) Q X.xe s2) :
  wpAny (model X.prog X.w) X.A (eval a X.env) (fun v s₁=>wpAny (model X.prog X.w) X.A (eval b X.env) (fun u s₂=>wpAny (model X.prog X.w) X.A (f v u) Q X.xe s₂) X.xe s₁) X.xe s:=by
 refine yU (ha pins s σ H _ I h) fun v s1 ⟨x,H1,I1,r1,q1⟩=>?_;refine yU (hb pins s1 σ H1 _ I1 q1) fun u s2 ⟨y,H2,I2,r2,q2⟩=>?_;exact hf v u s2 x y H2 I2 r1 r2 q2
theorem pe_op {op:Operator} {r:R2} (ho:jL X (binaryOp op) r) (ha:PE X a ta) (hb:PE X b tb):PE X (.BinOp a op b pos) (tOp r ta tb):=by
 intro pins s σ H Q I h;exact wpAny_BinOp (binT ha hb I h fun v u s2 x y H2 I2 rx ry q=>ho pins s2 σ H2 x y v u Q I2 rx ry q)
theorem pe_un {op:UnaryOp} {r:V->Hp->VK->Prop} (ho:UnR X (unaryOp op) r) (ha:PE X a ta):PE X (.UnaryOp op a pos) (tUn r ta):=by
 intro pins s σ H Q I h;exact UnaryOp_ (yU (ha pins s σ H _ I h) fun v s1 ⟨x,H1,I1,r1,q1⟩=>ho pins s1 σ H1 x v Q I1 r1 q1)
theorem opI {f:Value->Value->Sem Value} {C:Int->Int->Prop} {g:Int->Int->Int}
  (rule:∀ (i j:Int) (t u:Tok) (s:Shared) (Q:Value->Shared->Prop) (E:Value->Shared->Prop),C i j->Q (.int (g i j) s.toks) { s with toks:=s.toks+1 }->wpAny (model X.prog X.w) X.A (f (.int i t) (.int j u)) Q E s) :
  jL X f (rI C fun i j=>.int (g i j)):=by
 intro pins s σ H x y v u Q I rx ry h;obtain ⟨i,j,rfl,rfl,hc,q⟩:=h;obtain ⟨t,rfl⟩:=rx;obtain ⟨t',rfl⟩:=ry;exact rule i j t t' s _ _ hc ⟨.int (g i j),H,I.tok _,⟨_,rfl⟩,q⟩
theorem opI0 {f:Value->Value->Sem Value} {g:Int->Int->Int}
  (rule:∀ (i j:Int) (t u:Tok) (s:Shared) (Q:Value->Shared->Prop) (E:Value->Shared->Prop),Q (.int (g i j) s.toks) { s with toks:=s.toks+1 }->wpAny (model X.prog X.w) X.A (f (.int i t) (.int j u)) Q E s) :
  jL X f (rI0 fun i j=>.int (g i j)):=by
 intro pins s σ H x y v u Q I rx ry h;obtain ⟨i,j,rfl,rfl,q⟩:=h;obtain ⟨t,rfl⟩:=rx;obtain ⟨t',rfl⟩:=ry;exact rule i j t t' s _ _ ⟨.int (g i j),H,I.tok _,⟨_,rfl⟩,q⟩
theorem opB0 {f:Value->Value->Sem Value} {g:Int->Int->Bool}
  (rule:∀ (i j:Int) (t u:Tok) (s:Shared) (Q:Value->Shared->Prop) (E:Value->Shared->Prop),Q (.bool (g i j)) s->wpAny (model X.prog X.w) X.A (f (.int i t) (.int j u)) Q E s) :
  jL X f (rI0 fun i j=>.bl (g i j)):=by
 intro pins s σ H x y v u Q I rx ry h;obtain ⟨i,j,rfl,rfl,q⟩:=h;obtain ⟨t,rfl⟩:=rx;obtain ⟨t',rfl⟩:=ry;exact rule i j t t' s _ _ ⟨.bl (g i j),H,I,rfl,q⟩
def CDiv (i j:Int):Prop:=0<j/\j<1073741824
def CPow (i j:Int):Prop:=0<=j/\j<=1000000/\i.natAbs<2 ^ 64
def gA (i j:Int):Prop:=(-(2 ^ 64)<i/\i<2 ^ 64)\/(-(2 ^ 64)<j/\j<2 ^ 64)
theorem gA.ok {i j:Int} (h:gA i j):IntMulOk i j:=by
 rcases h with ⟨h1,h2⟩|⟨h1,h2⟩
 .exact .of_left (intBits_le_64 h1 h2)
 .exact .of_right (intBits_le_64 h1 h2)
theorem zgo:jL X (binaryOp .Add) (rI0 fun i j=>.int (i+j)):=opI0 fun _ _ _ _ _ _ _ q=>add_int q
theorem zgi:jL X (binaryOp .Sub) (rI0 fun i j=>.int (i-j)):=opI0 fun _ _ _ _ _ _ _ q=>sub_int q
theorem zgl:jL X (binaryOp .Mult) (rI gA fun i j=>.int (i * j)):=opI fun _ _ _ _ _ _ _ hc q=>mul_int q hc.ok
theorem zed:jL X (binaryOp .FloorDiv) (rI CDiv fun i j=>.int (i / j)):=opI fun i j _ _ _ _ _ hc q=>by
 have h1:(0:Int)<j:=hc.1;have h2:j<1073741824:=hc.2;exact floordiv_int (by omega) (by rw [Int.fdiv_eq_ediv_of_nonneg i (by omega)];exact q) (.inl (PyProof.noPylong_small (by omega)))
theorem zgm:jL X (binaryOp .Mod) (rI (fun _ j=>0<j) fun i j=>.int (i % j)):=opI fun i j _ _ _ _ _ hc q=>by
 have h1:(0:Int)<j:=hc;exact mod_int' (by omega) (by rw [Int.fmod_eq_emod_of_nonneg i (by omega)];exact q)
theorem zgk:jL X (binaryOp .Pow) (rI CPow fun i j=>.int (i ^ j.toNat)):=opI fun _ _ _ _ _ _ _ hc q=>pow_int_small hc.1 hc.2.1 hc.2.2 q
theorem unI {f:Value->Sem Value} {g:Int->Int}
  (rule:∀ (i:Int) (t:Tok) (s:Shared) (Q:Value->Shared->Prop) (E:Value->Shared->Prop),Q (.int (g i) s.toks) { s with toks:=s.toks+1 }->wpAny (model X.prog X.w) X.A (f (.int i t)) Q E s) :
  UnR X f (rU fun i=>.int (g i)):=by
 intro pins s σ H x v Q I rx h;obtain ⟨i,rfl,q⟩:=h;obtain ⟨t,rfl⟩:=rx;exact rule i t s _ _ ⟨.int (g i),H,I.tok _,⟨_,rfl⟩,q⟩
theorem zfo:UnR X (unaryOp .USub) (rU fun i=>.int (-i)):=unI fun _ _ _ _ _ q=>neg_int q
end
section
variable {X : Cx} {a b c : Expr} {ta tb tc : TE} {pos : Pos}
theorem zg5 {pins:List (Addr×Obj)} {σ:St} {H:Hp} {s:Shared} {Q:VK} {k k':Bool} (I:Inv X pins σ H s) (q:Q (.bl k) H) (e:k=k'):EP X pins σ Q (.bool k') s:=by
 subst e;exact ⟨.bl k,H,I,rfl,q⟩
theorem op_lt:jL X (compareOp .Lt) (rI0 fun i j=>.bl (decide (i<j))):=opB0 fun _ _ _ _ _ _ _ q=>lt_int q
theorem op_le:jL X (compareOp .LtE) (rI0 fun i j=>.bl (decide (i<=j))):=opB0 fun _ _ _ _ _ _ _ q=>le_int q
theorem op_gt:jL X (compareOp .Gt) (rI0 fun i j=>.bl (decide (j<i))):=opB0 fun _ _ _ _ _ _ _ q=>gt_int q
theorem op_ge:jL X (compareOp .GtE) (rI0 fun i j=>.bl (decide (j<=i))):=opB0 fun _ _ _ _ _ _ _ q=>ge_int q
theorem zaC:jL X (compareOp .In) (fun x y H Q=>∃ i j,x=.str i/\y=.str j/\Q (.bl (!(Builtin.Str.occurrences j i 0 j.length 1).isEmpty)) H):=by
 intro pins s σ H x y v u Q I rx ry h;obtain ⟨i,j,rfl,rfl,q⟩:=h;obtain ⟨t,rfl⟩:=rx;obtain ⟨t',rfl⟩:=ry;exact in_str (zg5 I q rfl)
theorem zd7 {op:CmpOp} {r:R2} (ho:jL X (compareOp op) r) (ha:PE X a ta) (hb:PE X b tb) (hm:behindInMarks op b=false):PE X (.Compare a [op] [b] pos) (tOp r ta tb):=by
 intro pins s σ H Q I h;exact wpAny_Compare1 (binT ha hb I h fun v u s2 x y H2 I2 rx ry q=>ho pins s2 σ H2 x y v u Q I2 rx ry q) hm
def zdD (t:TE):TT:=fun σ H Q=>t σ H fun x H'=>∃ k,x=.bl k/\Q k H'
theorem zdU {op:CmpOp} {r:R2} (ho:jL X (compareOp op) r) (ha:PE X a ta) (hb:PE X b tb) (hm:behindInMarks op b=false):PT X (.Compare a [op] [b] pos) (zdD (tOp r ta tb)):=by
 intro pins s σ H Q I h
 refine wpAny_isTrue_Compare1 (yU (ha pins s σ H _ I h) fun v s1 ⟨x,H1,I1,r1,q1⟩=>yU (hb pins s1 σ H1 _ I1 q1) fun u s2 ⟨y,H2,I2,r2,q2⟩ =>
  yU (ho pins s2 σ H2 x y v u _ I2 r1 r2 q2) fun c s3 ⟨z,H3,I3,r3,k,e,q3⟩=>?_) hm
 subst e;cases r3;exact wpAny_truthy_bool ⟨H3,I3,q3⟩
def cA (r r':R2) (ta tb tc:TE):TE:=fun σ H Q=>ta σ H fun x H1=>tb σ H1 fun y H2=>r x y H2 fun z H3=>∃ k,z=.bl k /\
 (if k=true then tc σ H3 fun w' H4=>r' y w' H4 Q else Q (.bl false) H3)
theorem zb9 {op op':CmpOp} {r r':R2} (ho:jL X (compareOp op) r) (ho':jL X (compareOp op') r') (ha:PE X a ta) (hb:PE X b tb) (hc:PE X c tc)
  (hm:lastMarks [op,op'] [b,c]=false:=by with_unfolding_all rfl):PE X (.Compare a [op,op'] [b,c] pos) (cA r r' ta tb tc):=by
 intro pins s σ H Q I h
 refine Compare_chain (yU (ha pins s σ H _ I h) fun v s1 ⟨x,H1,I1,r1,q1⟩=>chain_link (yU (hb pins s1 σ H1 _ I1 q1) fun u s2 ⟨y,H2,I2,r2,q2⟩ =>
  yU (ho pins s2 σ H2 x y v u _ I2 r1 r2 q2) fun d s3 ⟨z,H3,I3,r3,k,e,q3⟩=>?_)) hm
 subst e;cases r3;refine wpAny_truthy_bool ?_
 cases k with
 |false=>exact ite_ff ⟨.bl false,H3,I3,rfl,q3⟩
 |true=>exact ite_tt (chain_last (yU (hc pins s3 σ H3 _ I3 q3) fun w' s4 ⟨z',H4,I4,r4,q4⟩=>ho' pins s4 σ H4 y z' u w' Q I4 r2 r4 q4))
theorem zbX {op op':CmpOp} {r r':R2} (ho:jL X (compareOp op) r) (ho':jL X (compareOp op') r') (ha:PE X a ta) (hb:PE X b tb) (hc:PE X c tc)
  (hm:lastMarks [op,op'] [b,c]=false:=by with_unfolding_all rfl):PT X (.Compare a [op,op'] [b,c] pos) (zdD (cA r r' ta tb tc)):=by
 intro pins s σ H Q I h
 refine isTrue_chain (yU (ha pins s σ H _ I h) fun v s1 ⟨x,H1,I1,r1,q1⟩=>test_link (yU (hb pins s1 σ H1 _ I1 q1) fun u s2 ⟨y,H2,I2,r2,q2⟩ =>
  yU (ho pins s2 σ H2 x y v u _ I2 r1 r2 q2) fun d s3 ⟨z,H3,I3,r3,k,e,q3⟩=>?_)) hm
 subst e;cases r3;refine wpAny_truthy_bool ?_
 cases k with
 |false =>
  obtain ⟨k',e',q'⟩:=q3;cases e';exact ite_ff ⟨H3,I3,q'⟩
 |true =>
  refine ite_tt (test_last (yU (hc pins s3 σ H3 _ I3 q3) fun w' s4 ⟨z',H4,I4,r4,q4⟩=>yU (ho' pins s4 σ H4 y z' u w' _ I4 r2 r4 q4) fun d' s5 ⟨z2,H5,I5,r5,k2,e2,q5⟩=>?_));subst e2;cases r5;exact wpAny_truthy_bool ⟨H5,I5,q5⟩
def TruV (K:PySem.W.Frag) (x:V) (H:Hp) (k:Bool):Prop :=
 match x with
 | .non=>k=false
 | .bl b=>k=b
 | .int i=>k=(i != 0)
 | .str y=>y.length<=sizeLine/\k=((y.length:Int) != 0)
 | .byt y=>y.size<=sizeLine/\k=((y.size:Int) != 0)
 | .ref p=>(∃ xs,tW K H p xs/\k=!xs.isEmpty)\/(∃ xs,uW K H p xs/\k=!xs.isEmpty)\/∃ kvs,H p=some (.dK kvs)/\k=!kvs.isEmpty
 |_=>False
theorem bG {κ:Type} {kvs:List (κ×V)} {vs:List (κ×Value)} (r:KV kvs vs):(!vs.isEmpty)=!kvs.isEmpty:=by
 cases r<;>rfl
theorem rR {xs:List V} {its:List Value} (r:zV xs its):(!its.toArray.isEmpty)=!xs.isEmpty:=by
 cases r<;>simp
theorem vZ:(sizeLine:Nat)<2 ^ 63:=by rw [sizeLine_eq];decide
theorem zfp:TruR X (fun x H Q=>∃ k,TruV X.K x H k/\Q k H):=by
 intro pins s σ H x v Q I rx h;obtain ⟨k,e,q⟩:=h;have hl:=vZ;have hs:sizeLine=16777216:=sizeLine_eq
 cases x with
 |non =>
  cases rx;have e':k=false:=e;subst e';exact truthy_none ⟨H,I,q⟩
 |bl b =>
  cases rx;have e':k=b:=e;subst e';exact wpAny_truthy_bool ⟨H,I,q⟩
 |int i =>
  obtain ⟨t,rfl⟩:=rx;have e':k=(i != 0):=e;subst e';exact PySem.P.truthy_int ⟨H,I,q⟩
 |str y =>
  obtain ⟨t,rfl⟩:=rx;obtain ⟨hy,e'⟩:y.length<=sizeLine/\k=((y.length:Int) != 0):=e;subst e';exact PySem.P.truthy_str (by omega) ⟨H,I.tok _,q⟩
 |byt y =>
  obtain ⟨t,rfl⟩:=rx;obtain ⟨hy,e'⟩:y.size<=sizeLine/\k=((y.size:Int) != 0):=e;subst e';exact PySem.W.truthy_bytes (by omega) ⟨H,I.tok _,q⟩
 |ref p =>
  cases rx;have e':(∃ xs,tW X.K H p xs/\k=!xs.isEmpty)\/(∃ xs,uW X.K H p xs/\k=!xs.isEmpty)\/∃ kvs,H p=some (.dK kvs)/\k=!kvs.isEmpty:=e;rcases e' with ⟨xs,hx,e'⟩|⟨xs,hx,e'⟩|⟨kvs,hx,e'⟩
  .subst e';obtain ⟨its,r,pl,hz⟩:=I.list hx;have hlen:=r.length;exact wpAny_truthy_list pl.isList (by simp only [zzS];omega) ⟨H,I.tok _,by rw [rR r];exact q⟩
  .subst e';obtain ⟨its,r,pl,hz⟩:=I.tuple hx;have hlen:=r.length;exact truthy_tuple pl (by simp only [zzS];omega) ⟨H,I.tok _,by rw [rR r];exact q⟩
  .subst e';obtain ⟨hz,hS,vs,r,m⟩:kvs.length<=sizeLine/\(p==sysModules)=false/\∃ vs,KV kvs vs/\s.heap.DictOf (yE X.prog X.w) p vs:=I.hok p _ hx;have hlen:kvs.length=vs.length:=Paired.length r;exact wpAny_truthy_dict hS m (by omega) ⟨H,I.tok _,by rw [bG r];exact q⟩
 |_=>exact (show False from e).elim
theorem zbW (ha:PE X a ta) (he:∀ whole,isTrue a X.env whole=(do let v ← whole;standAt a.pos;holding [v] (truthy v))) :
  PT X a (fun σ H Q=>ta σ H fun x H'=>∃ k,TruV X.K x H' k/\Q k H'):=by
 intro pins s σ H Q I h;exact isTrue_plain (yU (ha pins s σ H _ I h) fun v s1 ⟨x,H1,I1,r1,q1⟩=>zfp pins s1 σ H1 x v Q I1 r1 q1) (he _)
theorem bP:jL X (binaryOp .Add) (fun x y H Q=>∃ i j,x=.str i/\y=.str j/\i.length+j.length<=sizeLine/\Q (.str (i++j)) H):=by
 intro pins s σ H x y v u Q I rx ry h;obtain ⟨i,j,rfl,rfl,hz,q⟩:=h;obtain ⟨t,rfl⟩:=rx;obtain ⟨t',rfl⟩:=ry;exact wI I.tk (add_str (fun t' tk h0=>⟨.str (i++j),H,I.tok _ h0,⟨_,rfl⟩,q⟩) hz)
theorem kK {x:V} {us:List Value} (r:zV [x] us):∃ u,us=[u]/\zR x u:=by
 cases r with
 |cons r1 r2=>cases r2;exact ⟨_,rfl,r1⟩
theorem fV {x y:V} {us:List Value} (r:zV [x,y] us):∃ u w',us=[u,w']/\zR x u/\zR y w':=by
 cases r with
 |cons r1 r2 =>
  cases r2 with
  |cons r3 r4=>cases r4;exact ⟨_,_,rfl,r1,r3⟩
theorem zbk (hc:X.calm=true):wN X (.builtin "max") (fun xs H Q=>∃ i j,xs=[.int i,.int j]/\Q (.int (if j > i then j else i)) H):=by
 intro pins s σ H xs us Q I r h;obtain ⟨i,j,rfl,q⟩:=h;obtain ⟨u,w',rfl,⟨t,rfl⟩,⟨t',rfl⟩⟩:=fV r;refine wI I.tk (max_two_ints (I.ok.hd hc) fun h' tk k h0=>⟨_,H,I.kept k h0,?_,q⟩)
 by_cases hj:j > i
 .rw [if_pos hj,if_pos hj];exact ⟨_,rfl⟩
 .rw [if_neg hj,if_neg hj];exact ⟨_,rfl⟩
end
end L2
namespace L2
open PySem PySem.Spec PyProof.Rows
structure ObjM (h:Heap) (x dx C:Addr) (mA:Str->Option Value):Prop where
 obj:h.get? x=some (PySem.W.instObj C dx)
 ns:h.Ns1 dx mA
 ne:dx≠x
theorem zaJ {h:Heap} {dx:Addr} {mA:Str->Option Value} (n:h.Ns1 dx mA):∃ od,h.get? dx=some od/\∀ name,PySem.W.lookIn name od=some (mA name):=by
 obtain ⟨o,es,ep,ho,hd,hk,_,hm⟩:=n;refine ⟨o,ho,fun name=>?_⟩;have e:=hm name;unfold nsFind findBy at e;rw [← Array.find?_toList] at e;unfold PySem.W.lookIn;rw [hd];dsimp only
 split
 .rename_i y q;rw [q] at e;exact congrArg some e
 .rename_i q;rw [q] at e
  have a:es.toList.any (·.refKey)=false:=by
   rw [List.any_eq_false];intro y hy;obtain ⟨z,t,hkey⟩:=hk y (Array.mem_toList_iff.mp hy);simp [DictEntry.refKey,hkey]
  have a':¬ es.toList.any (·.refKey)=true:=by rw [a];exact zzN
  rw [if_neg a'];exact congrArg some e
theorem ObjM.look {h:Heap} {x dx C:Addr} {mA:Str->Option Value} (I:ObjM h x dx C mA):∃ od,PySem.W.InstAt h x (PySem.W.instObj C dx) C (some od)/\∀ name,PySem.W.lookIn name od=some (mA name) :=
 let ⟨od,ho,hl⟩:=zaJ I.ns
 ⟨od,⟨I.obj,rfl,rfl,ho⟩,hl⟩
section
variable {prog : Program} {w : World} {A : Around} {E : Value → Shared → Prop} {s : Shared} {K : PySem.W.Frag} {x dx C f : Addr} {mA : Str → Option Value} {name : Str} {v : Value}
theorem zeH {expr:Bool} {Q:Value->Shared->Prop} (X:K.In s.heap) (I:ObjM s.heap x dx C mA) (hg:PySem.W.plainGet K C name=true) (hh:PySem.W.hasDictIn K C=true)
  (ha:PySem.W.findIn K (.ref C) name=some none) (hv:mA name=some v) (hv':PySem.W.handedIn v=true) (h:Q v { s with toks:=s.toks+1 }) :
  wpAny (model prog w) A (getAttr (.ref x) name expr) Q E s:=by
 obtain ⟨od,J,hl⟩:=I.look;exact PySem.W.get_value X J (PySem.W.plainGet_of hg).1 (PySem.W.findObj_own hh ha rfl (by rw [hl,hv])) hv' h
theorem zdM {ns:List Str} {Q:Unit->Shared->Prop} (X:K.In s.heap) (I:ObjM s.heap x dx C mA)
  (hs:PySem.W.findIn K (.ref C) "__setattr__" = some (some (.builtin "object.__setattr__"))) (hp:PySem.W.plainOver K C=true) (ht:PySem.W.takerIn K C name=some none) (hh:PySem.W.hasDictIn K C=true)
  (hw:PySem.Within mA ns) (hsz:ns.length<=sizeLine)
  (h:∀ h',ObjM h' x dx C (fun y=>if y=name then some v else mA y)->Heap.SameBut dx s.heap h'->Q () { s with heap:=h',toks:=s.toks+2 }) :
  wpAny (model prog w) A (setAttr (.ref x) name v) Q E s:=by
 obtain ⟨od,J,hl⟩:=I.look;refine PySem.W.set_plain X J hs (PySem.W.osa_open (s:={ s with toks:=s.toks+1 }) (r:=none) X J hp ht fun b=>?_);obtain ⟨cd,hc,hd'⟩:=PySem.W.any_some hh;have hx:s.heap.get? x=some ⟨.ref C,some dx,.plain,#[]⟩:=I.obj;refine wpAny_bind (wpAny_pure (wpAny_bind (wpAny_bind (wpAny_loadPart hx (wpAny_bind (PySem.W.Looks.here (s:={ s with toks:=s.toks+1 }) (PySem.W.looks_clsIn X hc) ?_))))));rw [hd'];refine wpAny_pure (a:=some dx) (wpAny_bind (wpAny_pure (wpAny_bind ?_)));refine wpAny_nsSet1 (s:={ s with toks:=s.toks+1 }) I.ns fun h' hn2 hs2=>?_;obtain ⟨oD,esD,epD,hoD,hdD,hcD⟩:=hn2.count (PySem.Within.cons name v hw);refine wpAny_bind (wpAny_lookBehind hoD (by rw [hdD];exact pastItsLine_dict (Nat.le_trans hcD (by rw [List.length_cons];omega))) ?_);exact wpAny_pure (h _ ⟨(hs2.2 _ (Ne.symm I.ne)).trans I.obj,hn2,I.ne⟩ hs2)
theorem zch {R:Result->Shared->Prop} {vs:List Value} {kw:List (Str×Value)} (X:K.In s.heap) (hm:PySem.W.makesIn K C=true)
  (hi:PySem.W.findIn K (.ref C) "__init__" = some (some (.ref f))) (hf:PySem.W.typeIn K (.ref f)=some (.type "function"))
  (h:codeAny (model prog w) (A.under (.builtin "type.__call__" ⟨.ref C::vs,kw⟩)) (.call (.ref f) ⟨.ref (s.heap.objs.size+1)::vs,kw⟩) (PySem.W.InitBack (s.heap.objs.size+1) R)
   { s with heap:=(s.heap.push PySem.W.emptyDict).push (PySem.W.instObj C s.heap.objs.size) }) :
  codeAny (model prog w) A (.call (.ref C) ⟨vs,kw⟩) R s:=by
 obtain ⟨hh,g,d,t,os⟩:=s;exact PySem.W.make_core (PySem.W.makes_of X hm) (PySem.W.looks_findIn X hi) (fun self=>PySem.W.bind_fn X self hf) (.inl rfl) h
end
def jG (f:Str) (v:V):List (Str×V)->List (Str×V)
 | []=>[(f,v)]
 | (g,x)::r=>if g=f then (g,v)::r else (g,x)::jG f v r
theorem uD (f g:Str) (v:V):∀ fs:List (Str×V),(jG f v fs).lookup g=if g=f then some v else fs.lookup g
 | []=>by
  show List.lookup g [(f,v)]=_
  by_cases h:g=f
  .have hb:(g==f)=true:=beq_iff_eq.mpr h;simp only [List.lookup,hb,if_pos h]
  .have hb:(g==f)=false:=beq_eq_false_iff_ne.mpr h;simp only [List.lookup,hb,if_neg h]
 | (k,x)::r=>by
  have ih:=uD f g v r;rw [show jG f v ((k,x)::r)=(if k=f then (k,v)::r else (k,x)::jG f v r) from rfl]
  by_cases hk:k=f
  .rw [if_pos hk]
   by_cases h:g=k
   .have hb:(g==k)=true:=beq_iff_eq.mpr h;simp only [List.lookup,hb,if_pos (h.trans hk)]
   .have hb:(g==k)=false:=beq_eq_false_iff_ne.mpr h;simp only [List.lookup,hb,if_neg (fun e:g=f=>h (e.trans hk.symm))]
  .rw [if_neg hk]
   by_cases h:g=k
   .have hb:(g==k)=true:=beq_iff_eq.mpr h;simp only [List.lookup,hb,if_neg (fun e:g=f=>hk (h.symm.trans e))]
   .have hb:(g==k)=false:=beq_eq_false_iff_ne.mpr h;simp only [List.lookup,hb];exact ih
theorem uM (f:Str) (v:V):∀ fs:List (Str×V),f∈(jG f v fs).map (·.1)/\∀ g,g∈fs.map (·.1)->g∈(jG f v fs).map (·.1)
 | []=>⟨by simp [jG],fun g h=>by simp at h⟩
 | (k,x)::r=>by
  obtain ⟨i1,i2⟩:=uM f v r;rw [show jG f v ((k,x)::r)=(if k=f then (k,v)::r else (k,x)::jG f v r) from rfl]
  by_cases hk:k=f
  .rw [if_pos hk];subst hk;exact ⟨by simp,fun g h=>by simpa using h⟩
  .rw [if_neg hk];refine ⟨?_,fun g h=>?_⟩
   .rw [zzU];exact List.mem_cons_of_mem _ i1
   .rw [zzU] at h ⊢;rcases List.mem_cons.mp h with e|e
    .exact List.mem_cons.mpr (.inl e)
    .exact List.mem_cons_of_mem _ (i2 g e)
theorem uB (f:Str) (v:V):∀ fs:List (Str×V),(jG f v fs).length<=fs.length+1
 | []=>by simp [jG]
 | (k,x)::r=>by
  have ih:=uB f v r;rw [show jG f v ((k,x)::r)=(if k=f then (k,v)::r else (k,x)::jG f v r) from rfl]
  by_cases hk:k=f
  .rw [if_pos hk,List.length_cons,List.length_cons];omega
  .rw [if_neg hk,List.length_cons,List.length_cons];omega
theorem uJ.some_of {v:V} {o:Option Value} (r:uJ (some v) o):∃ u,o=some u/\zR v u:=by
 cases o with
 |none=>exact (show False from r).elim
 |some u=>exact ⟨u,rfl,r⟩
theorem zaY {v:V} {u:Value} (r:zR v u):PySem.W.handedIn u=true:=by
 cases v with
 |non=>cases (show u=Value.none from r);rfl
 |bl b=>cases (show u=Value.bool b from r);rfl
 |int i=>obtain ⟨t,e⟩:=(show ∃ t,u=Value.int i t from r);cases e;rfl
 |str x=>obtain ⟨t,e⟩:=(show ∃ t,u=Value.str x t from r);cases e;rfl
 |byt b=>obtain ⟨t,e⟩:=(show ∃ t,u=Value.bytes b t from r);cases e;rfl
 |flt b=>obtain ⟨t,e⟩:=(show ∃ t,u=Value.float b t from r);cases e;rfl
 |ref a=>cases (show u=Value.ref a from r);rfl
 |ty n=>cases (show u=Value.type n from r);rfl
section
variable {P : Program} {w : World} {H H' : Hp} {h h' : Heap} {a C dx : Addr} {fs fs' : List (Str × V)}
theorem gX (hok:kR P w H h) (e:H a=some (.ins C dx fs)):∃ mA,ObjM h a dx C mA/\(∀ f,uJ (fs.lookup f) (mA f))/\PySem.Within mA (fs.map (·.1))/\fs.length<=1000/\H dx=some (.own a):=by
 obtain ⟨d,z,ne,ob,mA,n,r,q⟩:=(show yK P w H h a (.ins C dx fs) from hok a _ e);exact ⟨mA,⟨ob,n,ne⟩,r,q,z,d⟩
end
structure Cls (K:PySem.W.Frag) (C:Addr):Prop where
 pg:PySem.W.plainGet K C Str.empty=true
 hd:PySem.W.hasDictIn K C=true
 po:PySem.W.plainOver K C=true
 sa:PySem.W.findIn K (.ref C) "__setattr__" = some (some (.builtin "object.__setattr__"))
theorem Cls.get {K:PySem.W.Frag} {C:Addr} (c:Cls K C) (f:Str):PySem.W.plainGet K C f=true:=c.pg
def qS (K:PySem.W.Frag) (C:Addr) (f:Str):Prop:=PySem.W.findIn K (.ref C) f=some none
theorem qS.taker {K:PySem.W.Frag} {C:Addr} {f:Str} (n:qS K C f):PySem.W.takerIn K C f=some none:=by
 unfold PySem.W.takerIn;rw [show PySem.W.findIn K (.ref C) f=some none from n];rfl
section
variable {X : Cx} {pins : List (Addr × Obj)} {σ : St} {H : Hp} {s : Shared} {a C dx : Addr} {fs : List (Str × V)} {f : Str} {v : V} {A : Around} {E : Value → Shared → Prop}
theorem bE {b:Bool} {Q:Value->Shared->Prop} (I:Inv X pins σ H s) (e:H a=some (.ins C dx fs)) (c:Cls X.K C) (n:qS X.K C f) (l:fs.lookup f=some v)
  (h:∀ u s',Inv X pins σ H s'->zR v u->Q u s'):wpAny (model X.prog X.w) A (getAttr (.ref a) f b) Q E s:=by
 obtain ⟨mA,O,r,_,_,_⟩:=gX I.hok e;obtain ⟨u,hu,ru⟩:=uJ.some_of (v:=v) (o:=mA f) (by rw [← l];exact r f);exact zeH I.kIn O (c.get f) c.hd n hu (zaY ru) (h u _ (I.tok _) ru)
theorem bY {y:V} {u:Value} {Q:Unit->Shared->Prop} (I:Inv X pins σ H s) (e:H a=some (.ins C dx fs)) (c:Cls X.K C) (n:qS X.K C f) (hl:fs.length<1000) (ry:zR y u)
  (h:∀ s',Inv X pins σ (yN H a (.ins C dx (jG f y fs))) s'->Q () s'):wpAny (model X.prog X.w) A (setAttr (.ref a) f u) Q E s:=by
 obtain ⟨mA,O,r,wi,_,ho⟩:=gX I.hok e;have hz:(fs.map (·.1)).length<=sizeLine:=by rw [zzM,sizeLine_eq];omega
 refine zdM I.kIn O c.sa c.po n.taker c.hd wi hz fun h' O' sb=>h _ ?_;have hd:∃ o,h'.get? dx=some o:=let ⟨o,_,_,e',_⟩:=O'.ns;⟨o,e'⟩;refine I.write (x:=a) (e:=dx) (by rw [e];exact True.intro) (.inr ho) (fun b q hb z=>(sb.2 b hb).trans z) hd ?_;refine ⟨by rw [zU O.ne];exact ho,?_,O.ne,O'.obj,_,O'.ns,fun g=>?_,fun g hg=>?_⟩
 .have:=uB f y fs;omega
 .show uJ ((jG f y fs).lookup g) (if g=f then some u else mA g);rw [uD]
  by_cases q:g=f
  .rw [if_pos q,if_pos q];exact ry
  .rw [if_neg q,if_neg q];exact r g
 .by_cases q:g=f
  .rw [q];exact (uM f y fs).1
  .refine (uM f y fs).2 g (wi g fun z=>hg ?_);show (if g=f then some u else mA g)=none;rw [if_neg q];exact z
theorem Inv.made (I:Inv X pins σ H s):Inv X pins σ (yN (yN H s.heap.objs.size (.own (s.heap.objs.size+1))) (s.heap.objs.size+1) (.ins C s.heap.objs.size []))
  { s with heap:=(s.heap.push PySem.W.emptyDict).push (PySem.W.instObj C s.heap.objs.size) }:=by
 have e1:(s.heap.push PySem.W.emptyDict).get? s.heap.objs.size=some PySem.W.emptyDict:=Heap.get?_push_size s.heap rfl
 have e2:((s.heap.push PySem.W.emptyDict).push (PySem.W.instObj C s.heap.objs.size)).get? (s.heap.objs.size+1)=some (PySem.W.instObj C s.heap.objs.size):=by
  have:=Heap.get?_push_size (s.heap.push PySem.W.emptyDict) (o:=PySem.W.instObj C s.heap.objs.size) rfl
  rwa [Heap.size_push] at this
 have e3:(s.heap.push PySem.W.emptyDict).Ns s.heap.objs.size (fun _=>none):=⟨PySem.W.emptyDict,#[],_,e1,rfl,(fun e he=>absurd he (by simp)),fun _=>rfl⟩;have I1:=I.laid (a:=s.heap.objs.size) (o:=.own (s.heap.objs.size+1)) (h':=s.heap.push PySem.W.emptyDict) (t':=s.toks) (fun b u q=>Heap.get?_push_of_some _ q) (zzR _) ⟨_,e1⟩;refine I1.laid (a:=s.heap.objs.size+1) (o:=.ins C s.heap.objs.size []) (t':=s.toks) (fun b u q=>Heap.get?_push_of_some _ q) (Nat.le_of_eq (Heap.size_push _ _)) ?_;have ne:s.heap.objs.size≠s.heap.objs.size+1:=Nat.ne_of_lt (Nat.lt_succ_self _);refine ⟨by rw [zU ne,xZ],Nat.zero_le _,ne,e2,fun _=>none,(Heap.Ns1.of_empty e3).at fun o q=>Heap.get?_push_of_some _ q,fun _=>True.intro,fun y hy=>absurd rfl hy⟩
theorem zfc {prog:Program} {w:World} {env:Env} {e:Expr} {f:Str} {pos:Pos} {s:Shared} {Q:Value->Shared->Prop} (hb:attributeBase e f env (eval e env)=eval e env)
  (h:wpAny (model prog w) A (eval e env) (fun o s₁=>wpAny (model prog w) A (getAttr o f true) Q E s₁) E s):wpAny (model prog w) A (eval (.Attribute e f pos) env) Q E s :=
 Attribute_any_ h (by rw [arm_eval_Attribute,hb])
end
def tFld (K:PySem.W.Frag) (ta:TE) (f:Str):TE:=fun σ H Q=>ta σ H fun x H1=>∃ a C dx fs v,x=.ref a/\H1 a=some (.ins C dx fs)/\Cls K C/\qS K C f/\fs.lookup f=some v/\Q v H1
def sFld (K:PySem.W.Frag) (ta tv:TE) (f:Str):TS:=fun D σ H=>tv σ H fun y H1=>ta σ H1 fun x H2=>∃ a C dx fs,x=.ref a/\H2 a=some (.ins C dx fs)/\Cls K C/\qS K C f/\fs.length<1000 /\
 D.nx σ (yN H2 a (.ins C dx (jG f y fs)))
section
variable {X : Cx} {o e value : Expr} {f : Str} {pos pos' tpos : Pos} {ta tv : TE}
theorem zge (he:PE X e ta) (hb:attributeBase e f X.env (eval e X.env)=eval e X.env):PE X (.Attribute e f pos) (tFld X.K ta f):=by
 intro pins s σ H Q I h;refine zfc hb (yU (he pins s σ H _ I h) fun u s1 ⟨x,H1,I1,rx,a,C,dx,fs,v,ex,ea,c,n,l,q⟩=>?_);subst ex;obtain rfl:u=Value.ref a:=rx;exact bE I1 ea c n l fun u' s2 I2 ru=>⟨v,H1,I2,ru,q⟩
theorem zf2 (ha:PE X o ta) (hv:PE X value tv) (hs:swapsWith value (some (.Attribute o f pos')) pos.line X.env=pure false):PS X (.Assign [.Attribute o f pos'] value pos) (sFld X.K ta tv f):=by
 intro pins s σ H D I h;refine plainObj_wpAny_Assign_Attribute (yU (hv pins s σ H _ I h) fun u s1 ⟨y,H1,I1,ry,q⟩=>yU (ha pins s1 σ H1 _ I1 q) fun ov s2 ⟨x,H2,I2,rx,a,C,dx,fs,ex,ea,c,n,l,q2⟩=>?_) hs;subst ex;obtain rfl:ov=Value.ref a:=rx;exact bY I2 ea c n l ry fun s3 I3=>⟨σ,_,I3,q2⟩
end
section
variable {X : Cx} {pins : List (Addr × Obj)} {σ : St} {H : Hp} {s : Shared} {A : Around} {E : Value → Shared → Prop} {Q : Value → Shared → Prop} {c : Value} {b : Bool}
inductive TyOf (K:PySem.W.Frag) (H:Hp):V->Value->Prop where
 |non:TyOf K H .non (.type "NoneType")
 |bl (x:Bool):TyOf K H (.bl x) (.type "bool")
 |int (i:Int):TyOf K H (.int i) (.type "int")
 |str (x:Str):TyOf K H (.str x) (.type "str")
 |flt (x:UInt64):TyOf K H (.flt x) (.type "float")
 |lst {a:Addr} {xs:List V} (e:H a=some (.lst xs)):TyOf K H (.ref a) (.type "list")
 |frz {a:Addr} {o:Obj} {xs:List V} (e:H a=some (.frz o (.lst xs))):TyOf K H (.ref a) (.type "list")
 |tup {a:Addr} {xs:List V} (e:H a=some (.tup xs)):TyOf K H (.ref a) (.type "tuple")
 |dK {a:Addr} {kvs:List (yW×V)} (e:H a=some (.dK kvs)):TyOf K H (.ref a) (.type "dict")
 |dT {a:Addr} {kvs:List (List yW×V)} (e:H a=some (.dT kvs)):TyOf K H (.ref a) (.type "dict")
 |ins {a C dx:Addr} {fs:List (Str×V)} (e:H a=some (.ins C dx fs)) (cl:Cls K C) (ha:PySem.W.findIn K (.ref C) "__class__" = some (some (.builtin "object.__class__")))
   (hn:PySem.W.specialIn K (.builtin "object.__class__") "__get__" = some (some (.builtin "getset_descriptor.__get__"))) (htk:PySem.W.takesIn K (.builtin "object.__class__")=some true)
   (hm:PySem.W.mroIn K C (.type "object")=some true):TyOf K H (.ref a) (.ref C)
theorem zaU {x:V} {u t:Value} (I:Inv X pins σ H s) (rx:zR x u) (ty:TyOf X.K H x t) (e:PySem.W.kitOne X.K t c=some b) (h:∀ tk,Q (.bool b) { s with toks:=tk }) :
  wpAny (model X.prog X.w) A (call (.builtin "isinstance") [u,c]) Q E s:=by
 cases ty with
 |non=>cases (show u=Value.none from rx);exact PySem.W.kia_one PySem.W.kitx_none I.kIn True.intro e (fun z=>nomatch z) h
 |bl y=>cases (show u=Value.bool y from rx);exact PySem.W.kia_one PySem.W.kitx_bool I.kIn True.intro e (fun z=>nomatch z) h
 |int i=>obtain ⟨t,q⟩:=(show ∃ t,u=Value.int i t from rx);cases q;exact PySem.W.kia_one PySem.W.kitx_int I.kIn True.intro e (fun z=>nomatch z) h
 |str y=>obtain ⟨t,q⟩:=(show ∃ t,u=Value.str y t from rx);cases q;exact PySem.W.kia_one PySem.W.kitx_str I.kIn True.intro e (fun z=>nomatch z) h
 |flt y=>obtain ⟨t,q⟩:=(show ∃ t,u=Value.float y t from rx);cases q;exact PySem.W.kia_one PySem.W.kitx_float I.kIn True.intro e (fun z=>nomatch z) h
 | @lst a xs ea =>
  cases (show u=Value.ref a from rx);obtain ⟨_,_,n,_,h1⟩:=(show yK X.prog X.w H s.heap a (.lst xs) from I.hok a _ ea);exact PySem.W.kia_one PySem.W.kitx_list I.kIn ⟨_,h1,rfl⟩ e (fun z=>nomatch z) h
 | @frz a ob xs ea =>
  cases (show u=Value.ref a from rx);obtain ⟨_,_,_,n,_,h1⟩:=(show yK X.prog X.w H s.heap a (.frz ob (.lst xs)) from I.hok a _ ea);exact PySem.W.kia_one PySem.W.kitx_list I.kIn ⟨_,h1,rfl⟩ e (fun z=>nomatch z) h
 | @tup a xs ea =>
  cases (show u=Value.ref a from rx);obtain ⟨_,_,_,p⟩:=(show yK X.prog X.w H s.heap a (.tup xs) from I.hok a _ ea);obtain ⟨o,h1,h2,_⟩:=p;exact PySem.W.kia_one PySem.W.kitx_tuple I.kIn ⟨o,h1,h2⟩ e (fun z=>nomatch z) h
 | @dK a kvs ea =>
  cases (show u=Value.ref a from rx);obtain ⟨_,_,vs,_,p⟩:=(show yK X.prog X.w H s.heap a (.dK kvs) from I.hok a _ ea);obtain ⟨o,es,ep,h1,h2,_⟩:=p;exact PySem.W.kia_one PySem.W.kitx_dict I.kIn ⟨o,h1,h2.1⟩ e (fun z=>nomatch z) h
 | @dT a kvs ea =>
  cases (show u=Value.ref a from rx);obtain ⟨_,_,xs,_,o,es,ep,h1,h2,_⟩:=(show yK X.prog X.w H s.heap a (.dT kvs) from I.hok a _ ea);exact PySem.W.kia_one PySem.W.kitx_dict I.kIn ⟨o,h1,h2.1⟩ e (fun z=>nomatch z) h
 | @ins a C dx fs ea cl ha hn htk hm =>
  cases (show u=Value.ref a from rx);obtain ⟨mA,O,_⟩:=gX I.hok ea;obtain ⟨od,J,_⟩:=O.look;exact PySem.W.kia_one (PySem.W.kitx_own (cl.get _) cl.hd ha hn htk hm) I.kIn J e (fun z=>nomatch z) h
end
end L2
namespace L2
open PySem PySem.Spec PyProof.Rows
structure Room (k:Nat) (A:Around):Prop where
 gd:A.guards=some []
 hd:A.handled=none
 dp:A.depth+3 * k+5<recursionLimit
 un:A.units+16 * k+200<cLine
theorem Room.mono {j k:Nat} {A:Around} (r:Room k A) (h:j<=k):Room j A:=⟨r.gd,r.hd,by have:=r.dp;omega,by have:=r.un;omega⟩
theorem Room.deeper {k:Nat} {A:Around} (r:Room (k+1) A) (env:Env):Room k (A.deeper env) :=
 ⟨r.gd,r.hd,by have:=r.dp;show A.depth+1+3 * k+5<_;omega,by have:=r.un;show A.units+3+16 * k+200<_;omega⟩
theorem bJ {A:Around} {C:Addr} {us:List Value} {kw:List (Str×Value)}:(A.under (.builtin "type.__call__" ⟨.ref C::us,kw⟩)).depth=A.depth+1:=by
 first|rfl|simp [Around.under,Code.weight,Code.isCreation,Code.isGuard,Code.isCaller,Code.frames,Code.isFrame,guardIds]
theorem bK {A:Around} {C:Addr} {us:List Value} {kw:List (Str×Value)}:(A.under (.builtin "type.__call__" ⟨.ref C::us,kw⟩)).units=A.units+1:=by
 first|rfl|simp [Around.under,Code.cUnits,Code.frames,Code.isFrame]
theorem zei {A:Around} {C:Addr} {us:List Value} {kw:List (Str×Value)}:(A.under (.builtin "type.__call__" ⟨.ref C::us,kw⟩)).guards=A.guards:=by
 first|rfl|simp [Around.under,Code.guards,Code.isGuard,guardIds,pushGuards]
theorem Room.make {k:Nat} {A:Around} (r:Room (k+1) A) (C:Addr) (us:List Value) (kw:List (Str×Value)):Room k (A.under (.builtin "type.__call__" ⟨.ref C::us,kw⟩)) :=
 ⟨(zei).trans r.gd,r.hd,by have:=r.dp;rw [bJ];omega,by have:=r.un;rw [bK];omega⟩
theorem Room.depth {k:Nat} {A:Around} (r:Room k A):A.depth<recursionLimit:=by have:=r.dp;omega
def tNil:TA:=fun _ H Q=>Q [] H
def tCons (ta:TE) (tr:TA):TA:=fun σ H Q=>ta σ H fun x H1=>tr σ H1 fun xs H2=>Q (x::xs) H2
section
variable {X : Cx} {e : Expr} {es : List Expr} {te : TE} {t : TA} {pos : Pos}
theorem zgh:PA X [] tNil:=fun _ _ _ _ H Q I h=>Calls.spliced_nil ⟨[],H,I,.nil,h⟩
theorem zea (ha:PE X e te) (hr:PA X es t) (hs:starEach (e::es) X.env=(false,eval e X.env)::starEach es X.env:=by rfl):PA X (e::es) (tCons te t):=by
 intro pos pins s σ H Q I h;rw [hs];show wpAny _ _ (spliced ((false,eval e X.env)::backTo pos (starEach es X.env))) _ _ s;refine Calls.spliced_cons (yU (ha pins s σ H _ I h) fun u s1 ⟨x,H1,I1,r1,q1⟩=>?_);exact yU (hr pos pins s1 σ H1 _ I1 q1) fun us s2 ⟨xs,H2,I2,r2,q2⟩=>⟨x::xs,H2,I2,.cons r1 r2,q2⟩
def tTup (t:TA):TE:=fun σ H Q=>t σ H fun xs H1=>xs.length<=sizeLine/\∀ p,H1 p=none->Q (.ref p) (yN H1 p (.tup xs))
def tLst (t:TA):TE:=fun σ H Q=>t σ H fun xs H1=>xs.length<=sizeLine/\∀ p,H1 p=none->Q (.ref p) (yN H1 p (.lst xs))
theorem zf7 {x1} (h:PA X es t):PE X (.Tuple es x1 pos) (tTup t):=by
 intro pins s σ H Q I hq;refine wpAny_Tuple_spliced (yU (h pos pins s σ H _ I hq) fun us s1 ⟨xs,H1,I1,r,z,q⟩=>⟨by rw [← r.length];exact z,?_⟩);have hf:H1 s1.heap.objs.size=none:=I1.hok.fresh (zzR _);refine ⟨.ref s1.heap.objs.size,yN H1 s1.heap.objs.size (.tup xs),I1.laid (t':=s1.toks) (fun b u e=>Heap.get?_push_of_some _ e) (zzR _) ?_,rfl,q _ hf⟩;exact ⟨z,us,r,⟨_,Heap.get?_push_size _ rfl,rfl,_,rfl⟩⟩
theorem zgc (h:PA X es t):PE X (.List es pos) (tLst t):=by
 intro pins s σ H Q I hq;refine wpAny_List_spliced (yU (h pos pins s σ H _ I hq) fun us s1 ⟨xs,H1,I1,r,z,q⟩=>⟨by rw [← r.length];exact z,?_⟩);have hf:H1 s1.heap.objs.size=none:=I1.hok.fresh (zzR _);refine ⟨.ref s1.heap.objs.size,yN H1 s1.heap.objs.size (.lst xs),I1.laid (t':=s1.toks) (fun b u e=>Heap.get?_push_of_some _ e) (zzR _) ?_,rfl,q _ hf⟩;exact ⟨z,us,0,r,Heap.get?_push_size _ rfl⟩
end
abbrev Sp:=List V->Hp->VK->XK->Prop
abbrev CXT:=List Env->Hp->Shared->XK->Value->Shared->Prop
structure Env0 (P:Program) (w:World) (K:PySem.W.Frag) (mg:Str->Option Value) (base:Heap) (A:Around) (outer:List Env) (s:Shared) (H:Hp):Prop where
 frames:A.frames=some outer
 mod:Mod K mg base
 bs:∀ b o,base.get? b=some o->s.heap.get? b=some o/\H b=none
 bsz:base.objs.size<=s.heap.objs.size
 funs:s.heap.FunFrames base outer
 frf:∀ b∈frs outer,H b=none
 hok:kR P w H s.heap
 bare:AllBare s.gens
 tk:0<s.toks
def CE (outer:List Env) (P:Program) (w:World) (H:Hp) (s:Shared) (Q:VK) (u:Value) (s':Shared):Prop :=
 ∃ v H',s'.os=s.os/\0<s'.toks/\AllBare s'.gens/\Un (frs outer) [] H H' s.heap s'.heap/\kR P w H' s'.heap/\zR v u/\Q v H'
def CR (CX:CXT) (outer:List Env) (P:Program) (w:World) (H:Hp) (s:Shared) (Q:VK) (E:XK) (r:Result) (s':Shared):Prop :=
 match r with
 | .ok (.ret u)=>CE outer P w H s Q u s'
 | .ok _=>False
 | .error e=>CX outer H s E e s'
structure FnOk (P:Program) (w:World) (K:PySem.W.Frag) (mg:Str->Option Value) (base:Heap) (CX:CXT) (k:Nat) (f:Addr) (fd:FuncData) (ps:List Str) (sp:Sp):Prop where
 len:∀ vs H Q E,sp vs H Q E->vs.length=ps.length
 run:∀ (A:Around) (outer:List Env) (s:Shared) (H:Hp) (args:Args) (us:List Value) (vs:List V) (Q:VK) (E:XK),Room k A->Env0 P w K mg base A outer s H->BindsTo s fd args (ps.zip us)->zV vs us->sp vs H Q E ->
  codeAny (model P w) A (.call (.ref f) args) (CR CX outer P w H s Q E) s
 one:∀ (x:Str),ps=[x]->fd.scope.names.lookup x=some .local->∀ (A:Around) (outer:List Env) (s:Shared) (H:Hp) (args:Args) (us:List Value) (vs:List V) (Q:VK) (E:XK),Room k A->Env0 P w K mg base A outer { s with toks:=1 } H->BindsTo s fd args (ps.zip us)->zV vs us->sp vs H Q E ->
  codeAny (model P w) A (.call (.ref f) args) (CR CX outer P w H s Q E) s
theorem FnOk.mono {P:Program} {w:World} {K:PySem.W.Frag} {mg:Str->Option Value} {base:Heap} {CX:CXT} {j k:Nat} {f:Addr} {fd:FuncData} {ps:List Str} {sp:Sp} (F:FnOk P w K mg base CX j f fd ps sp) (h:j<=k) :
  FnOk P w K mg base CX k f fd ps sp:=⟨F.len,fun A outer s H args us vs Q E hr=>F.run A outer s H args us vs Q E (hr.mono h),fun x e l A outer s H args us vs Q E hr=>F.one x e l A outer s H args us vs Q E (hr.mono h)⟩
theorem Env0.make {P:Program} {w:World} {K:PySem.W.Frag} {mg:Str->Option Value} {base:Heap} {A:Around} {outer:List Env} {s:Shared} {H:Hp} (e:Env0 P w K mg base A outer s H) (C:Addr) (us:List Value) (kw:List (Str×Value)) :
  Env0 P w K mg base (A.under (.builtin "type.__call__" ⟨.ref C::us,kw⟩)) outer s H:=⟨by first|exact e.frames|(simpa [Around.under,Code.envs,Code.isFrame,pushEnvs] using e.frames),e.mod,e.bs,e.bsz,e.funs,e.frf,e.hok,e.bare,e.tk⟩
section
variable {X : Cx} {pins : List (Addr × Obj)} {σ : St} {H : Hp} {s s' : Shared}
theorem Inv.env0 (I:Inv X pins σ H s):Env0 X.prog X.w X.K X.mg X.base X.A X.stack s H :=
 ⟨I.ok.frames,I.ok.mod,I.bs,Nat.le_trans I.ok.bsz I.sz,I.stack,I.stkFree,I.hok,I.bare,I.tk⟩
theorem Inv.after {Q:VK} {u:Value} (I:Inv X pins σ H s) (h:CE X.stack X.prog X.w H s Q u s'):EP X pins σ Q u s':=by
 obtain ⟨v,H',os,tk,bare,un,hok,r,q⟩:=h;obtain ⟨hh,g,d,t,os'⟩:=s';obtain rfl:os'=s.os:=os;exact ⟨v,H',I.call (h':=hh) (g':=g) (d':=d) (t':=t) (ch:=[]) un hok bare (fun b z=>absurd z (by simp)) tk,r,q⟩
end
def zdF (sp:Sp) (dvs:List V) (E:XK) (t:TA):TE:=fun σ H Q=>t σ H fun vs H1=>sp (vs++dvs) H1 Q E
def zfz (C:Addr) (sp:Sp) (dvs:List V) (E:XK) (t:TA):TE:=fun σ H Q=>t σ H fun vs H1=>∀ x dx,H1 x=none->H1 dx=none->dx≠x ->
 sp (.ref x::(vs++dvs)) (yN (yN H1 dx (.own x)) x (.ins C dx [])) (fun v H2=>v=.non/\Q (.ref x) H2) E
def jZ (K:PySem.W.Frag) (fd:FuncData) (ps:List Str) (ds:List Value):Prop :=
 ∀ (s:Shared) (us:List Value),K.In s.heap->(us++ds).length=ps.length->BindsTo s fd ⟨us,[]⟩ (ps.zip (us++ds))
theorem jZ.all {K:PySem.W.Frag} {fd:FuncData} {ps:List Str} (h:∀ us:List Value,us.length=ps.length->bindArgs fd ⟨us,[]⟩=pure (ps.zip us)):jZ K fd ps []:=fun s us _ hl=>by
 rw [List.append_nil] at hl ⊢;exact .of_eq (h us hl)
def vR (CX:CXT) (X:Cx) (E:XK):Prop:=∀ (pins:List (Addr×Obj)) (σ:St) (H:Hp) (s:Shared) (e:Value) (s':Shared),Inv X pins σ H s->CX X.stack H s E e s'->X.xe e s'
section
variable {X : Cx} {CX : CXT} {k : Nat} {f C : Addr} {fd : FuncData} {ps : List Str} {sp : Sp} {dvs : List V} {ds : List Value} {E : XK} {x m : Str} {p pos apos : Pos} {e o : Expr} {es : List Expr} {ta : TE} {t : TA}
theorem zc4 {pins:List (Addr×Obj)} {σ:St} {H:Hp} {s:Shared} {Q:VK} {us:List Value} {vs:List V} (F:FnOk X.prog X.w X.K X.mg X.base CX k f fd ps sp) (hr:Room k X.A) (hb:jZ X.K fd ps ds) (hd:zV dvs ds) (hx:vR CX X E)
  (I:Inv X pins σ H s) (r:zV vs us) (h:sp (vs++dvs) H Q E):wpAny (model X.prog X.w) X.A (call (.ref f) us) (EP X pins σ Q) X.xe s:=by
 have r2:zV (vs++dvs) (us++ds):=r.append hd;have hl:(us++ds).length=ps.length:=by rw [← r2.length];exact F.len _ _ _ _ h
 refine wpAny_call (codeAny_mono (F.run X.A X.stack s H ⟨us,[]⟩ (us++ds) (vs++dvs) Q E hr I.env0 (hb s us I.kIn hl) r2 h) fun r s' hq=>?_)
 cases r with
 |error e=>exact hx pins σ H s e s' I hq
 |ok fl =>
  cases fl with
  |ret u=>exact I.after hq
  |next=>exact False.elim hq
  |brk=>exact False.elim hq
  |cont=>exact False.elim hq
theorem zd8 (F:FnOk X.prog X.w X.K X.mg X.base CX k f fd ps sp) (hr:Room k X.A) (hg:Gl X x) (hm:X.mg x=some (.ref f)) (hk:PySem.W.keepIn X.K (.ref f)=true) (hb:jZ X.K fd ps ds) (hd:zV dvs ds) (hx:vR CX X E)
  (ha:PA X (e::es) t) (hdb:(x==("__debug__" : Str))=false:=by decide) (he:starEach (e::es) X.env=(false,eval e X.env)::starEach es X.env:=by rfl) (hpl:(backTo pos (starEach es X.env)).any (·.1)=false:=by rfl) :
  PE X (.Call (.Name x p) (e::es) [] pos) (zdF sp dvs E t):=by
 intro pins s σ H Q I h;refine wpAny_Call_Name_kw (vI I hg hm ?_ hdb);refine PySem.W.callWith_K (h₀:=X.base) I.ok.mod.kin hk (yU (ha pos pins s σ H _ I h) fun us s1 ⟨vs,H1,I1,r,q⟩=>⟨I1.kIn,?_⟩) he hpl;exact zc4 F hr hb hd hx I1 r q
theorem zcb (F:FnOk X.prog X.w X.K X.mg X.base CX k f fd ps sp) (hr:Room k X.A) (hg:Gl X x) (hm:X.mg x=some (.ref f)) (hk:PySem.W.keepIn X.K (.ref f)=true) (hb:jZ X.K fd ps ds) (hd:zV dvs ds) (hx:vR CX X E)
  (hdb:(x==("__debug__" : Str))=false:=by decide):PE X (.Call (.Name x p) [] [] pos) (zdF sp dvs E tNil):=by
 intro pins s σ H Q I h;refine wpAny_Call_Name_kw (vI I hg hm ?_ hdb);exact PySem.W.callWith_K0 I.kIn hk (zc4 (us:=[]) F hr hb hd hx I .nil h)
structure Mk (K:PySem.W.Frag) (C f:Addr):Prop where
 makes:PySem.W.makesIn K C=true
 init:PySem.W.findIn K (.ref C) "__init__" = some (some (.ref f))
 fn:PySem.W.isFn K (.ref f)=true
 kp:PySem.W.keepIn K (.ref C)=true
theorem fB {pins:List (Addr×Obj)} {σ:St} {H:Hp} {s:Shared} {Q:VK} {us:List Value} {vs:List V} (M:Mk X.K C f) (F:FnOk X.prog X.w X.K X.mg X.base CX k f fd ps sp) (hr:Room (k+1) X.A) (hb:jZ X.K fd ps ds) (hd:zV dvs ds)
  (hx:vR CX X E) (I:Inv X pins σ H s) (r:zV vs us)
  (h:∀ x dx,H x=none->H dx=none->dx≠x->sp (.ref x::(vs++dvs)) (yN (yN H dx (.own x)) x (.ins C dx [])) (fun v H2=>v=.non/\Q (.ref x) H2) E) :
  wpAny (model X.prog X.w) X.A (call (.ref C) us) (EP X pins σ Q) X.xe s:=by
 have hq:=h (s.heap.objs.size+1) s.heap.objs.size (I.hok.fresh (Nat.le_succ _)) (I.hok.fresh (zzR _)) (Nat.ne_of_lt (Nat.lt_succ_self _));have I2:=Inv.made (C:=C) I;have r2:zV (V.ref (s.heap.objs.size+1)::(vs++dvs)) (Value.ref (s.heap.objs.size+1)::(us++ds)):=.cons rfl (r.append hd)
 have hl:(Value.ref (s.heap.objs.size+1)::us++ds).length=ps.length:=by
  have e:=r2.length;rw [F.len _ _ _ _ hq] at e;exact e.symm
 refine wpAny_call (zch (f:=f) I.kIn M.makes M.init (beq_iff_eq.mp M.fn) (codeAny_mono (F.run _ X.stack _ _ ⟨Value.ref (s.heap.objs.size+1)::us,[]⟩ (Value.ref (s.heap.objs.size+1)::(us++ds)) _ _ E (hr.make C us [])
  (I2.env0.make C us []) (hb _ (Value.ref (s.heap.objs.size+1)::us) I2.kIn hl) r2 hq) fun r s' hq'=>?_))
 cases r with
 |error e=>exact hx pins σ _ _ e s' I2 hq'
 |ok fl =>
  cases fl with
  |ret u =>
   obtain ⟨v,H',I3,rv,ev,q3⟩:=I2.after hq';subst ev;exact ⟨rv,⟨V.ref (s.heap.objs.size+1),H',I3,rfl,q3⟩⟩
  |next=>exact False.elim hq'
  |brk=>exact False.elim hq'
  |cont=>exact False.elim hq'
theorem zd4 (M:Mk X.K C f) (F:FnOk X.prog X.w X.K X.mg X.base CX k f fd ps sp) (hr:Room (k+1) X.A) (hg:Gl X x) (hm:X.mg x=some (.ref C)) (hb:jZ X.K fd ps ds) (hd:zV dvs ds) (hx:vR CX X E)
  (ha:PA X (e::es) t) (hdb:(x==("__debug__" : Str))=false:=by decide) (he:starEach (e::es) X.env=(false,eval e X.env)::starEach es X.env:=by rfl) (hpl:(backTo pos (starEach es X.env)).any (·.1)=false:=by rfl) :
  PE X (.Call (.Name x p) (e::es) [] pos) (zfz C sp dvs E t):=by
 intro pins s σ H Q I h;refine wpAny_Call_Name_kw (vI I hg hm ?_ hdb);refine PySem.W.callWith_K (h₀:=X.base) I.ok.mod.kin M.kp (yU (ha pos pins s σ H _ I h) fun us s1 ⟨vs,H1,I1,r,q⟩=>⟨I1.kIn,?_⟩) he hpl;exact fB M F hr hb hd hx I1 r q
theorem zb6 (M:Mk X.K C f) (F:FnOk X.prog X.w X.K X.mg X.base CX k f fd ps sp) (hr:Room (k+1) X.A) (hg:Gl X x) (hm:X.mg x=some (.ref C)) (hb:jZ X.K fd ps ds) (hd:zV dvs ds) (hx:vR CX X E)
  (hdb:(x==("__debug__" : Str))=false:=by decide):PE X (.Call (.Name x p) [] [] pos) (zfz C sp dvs E tNil):=by
 intro pins s σ H Q I h;refine wpAny_Call_Name_kw (vI I hg hm ?_ hdb);exact PySem.W.callWith_K0 I.kIn M.kp (fB (us:=[]) M F hr hb hd hx I .nil h)
end
section
variable {X : Cx} {CX : CXT} {k : Nat} {f C : Addr} {fd : FuncData} {ps ks : List Str} {sp : Sp} {E : XK} {x m : Str} {p pos apos kpos : Pos} {e o : Expr} {es : List Expr} {kws : List Keyword} {te ta : TE} {t tk : TA} {nm : Option Str}
variable {g : List Value → List Value → List Value} {gV : List V → List V → List V}
end
structure FnScope (N P:List Str) (sc:Scope):Prop where
 kind:sc.kind=.function
 co:sc.isCoroutine=false
 gen:sc.isGenerator=false
 nd:N.Nodup
 pre:N.take P.length=P
 par:∀ x∈P,sc.names.lookup x=some .local\/sc.names.lookup x=some .cell
 nofree:∀ y∈sc.names,y.2≠.free
theorem nC {kindOf:Str->Option NameKind} {x:Str}:∀ {binds:List (Str×Value)} {m:Str->Option Value},(∀ v,(x,v)∉binds)->bindL kindOf binds m x=m x
 | [],_,_=>rfl
 | (n,v)::r,m,h=>by
  unfold bindL;rw [nC fun w hw=>h w (List.mem_cons_of_mem _ hw)]
  split
  .have:x≠n:=by rintro rfl;exact h v zzT
   simp [this]
  .rfl
theorem nA {kindOf:Str->Option NameKind} {x:Str}:∀ {binds:List (Str×Value)} {m:Str->Option Value},(∀ v,(x,v)∉binds)->bindC kindOf binds m x=m x
 | [],_,_=>rfl
 | (n,v)::r,m,h=>by
  unfold bindC;rw [nA fun w hw=>h w (List.mem_cons_of_mem _ hw)]
  split
  .rfl
  .have:x≠n:=by rintro rfl;exact h v zzT
   simp [this]
theorem nB {kindOf:Str->Option NameKind} {x:Str} {v:Value}:∀ {P:List Str} {vs:List Value} {i:Nat} {m:Str->Option Value},P.Nodup->P[i]?=some x->vs[i]?=some v->kindOf x=some .local ->
  bindL kindOf (P.zip vs) m x=some v
 | [],_,_,_,_,h,_,_=>by simp at h
 |_::_,[],_,_,_,_,h,_=>by simp at h
 |p::P,w::vs,0,m,nd,h1,h2,hk=>by
  simp at h1 h2;subst h1;subst h2;show bindL kindOf ((p,w)::P.zip vs) m p=_;unfold bindL;rw [nC fun v hv=>(List.nodup_cons.mp nd).1 (List.of_mem_zip hv).1,if_pos hk];simp
 |p::P,w::vs,i+1,m,nd,h1,h2,hk=>by
  show bindL kindOf ((p,w)::P.zip vs) m x=_;unfold bindL;exact nB (i:=i) (List.nodup_cons.mp nd).2 (by simpa using h1) (by simpa using h2) hk
theorem mZ {kindOf:Str->Option NameKind} {x:Str} {v:Value}:∀ {P:List Str} {vs:List Value} {i:Nat} {m:Str->Option Value},P.Nodup->P[i]?=some x->vs[i]?=some v->kindOf x≠some .local ->
  bindC kindOf (P.zip vs) m x=some v
 | [],_,_,_,_,h,_,_=>by simp at h
 |_::_,[],_,_,_,_,h,_=>by simp at h
 |p::P,w::vs,0,m,nd,h1,h2,hk=>by
  simp at h1 h2;subst h1;subst h2;show bindC kindOf ((p,w)::P.zip vs) m p=_;unfold bindC;rw [nA fun v hv=>(List.nodup_cons.mp nd).1 (List.of_mem_zip hv).1,if_neg hk];simp
 |p::P,w::vs,i+1,m,nd,h1,h2,hk=>by
  show bindC kindOf ((p,w)::P.zip vs) m x=_;unfold bindC;exact mZ (i:=i) (List.nodup_cons.mp nd).2 (by simpa using h1) (by simpa using h2) hk
def start (N:List Str) (vs:List V):St:=vs.map some++List.replicate (N.length-vs.length) none
def cxOf (CX:CXT) (P:Program) (w:World) (K:PySem.W.Frag) (mg:Str->Option Value) (base:Heap) (N:List Str) (qual:Str) (scope:Scope) (f:Addr) (cd:Value) (A:Around) (outer:List Env) (s:Shared) (H:Hp) (E:XK):Cx where
 prog:=P
 w:=w
 K:=K
 mg:=mg
 base:=base
 A:=A.deeper (envOfC qual scope s.heap.objs.size f cd)
 N:=N
 s₀:=s
 H₀:=H
 env:=envOfC qual scope s.heap.objs.size f cd
 outer:=outer
 stack:=envOfC qual scope s.heap.objs.size f cd::outer
 ex:=[]
 calm:=true
 fn:=fun _=>true
 pn:=[]
 xe:=fun e s'=>wpAny (model P w) (A.deeper (envOfC qual scope s.heap.objs.size f cd)) (leaving (envOfC qual scope s.heap.objs.size f cd) e) (fun _ s''=>CX outer H s E e s'') (fun e' s''=>CX outer H s E e' s'') s'
theorem cP {sc:Scope} {n:Nat} {x:Str} (h:sc.names.lookup x=some .cell):∃ c,(cellsFrom n sc.names []).lookup x=some c:=by
 have q:=PySem.W.cellsFrom_some sc.names n [] (.inl h);exact Option.isSome_iff_exists.mp q
theorem zaV {CX:CXT} {P:Program} {w:World} {K:PySem.W.Frag} {mg:Str->Option Value} {base:Heap} {N ps:List Str} {qual:Str} {scope:Scope} {f:Addr} {cd:Value} {A:Around} {outer:List Env} {s s1:Shared} {H:Hp} {E:XK} {us:List Value} {vs:List V}
  (S:FnScope N ps scope) (hd:A.handled=none) (e0:Env0 P w K mg base A outer { s with toks:=1 } H) (hl:vs.length=ps.length) (r:zV vs us)
  (x:InCallC s s.heap.objs.size (bindL (envOfC qual scope s.heap.objs.size f cd).kindOf (ps.zip us) fun _=>none) (cellsFrom (s.heap.objs.size+1) scope.names []) (bindC (envOfC qual scope s.heap.objs.size f cd).kindOf (ps.zip us) fun _=>none) s1) (h0:0<s1.toks) :
  Inv (cxOf CX P w K mg base N qual scope f cd A outer s H E) [] (start N vs) H s1:=by
 have hpl:ps.length<=N.length:=by have:=congrArg List.length S.pre;rw [List.length_take] at this;omega
 obtain ⟨h1,tk,rfl,hk⟩:=x.done;have noA:∀ b:Addr,b∉(cxOf CX P w K mg base N qual scope f cd A outer s H E).ex:=fun b z=>absurd (show b∈([]:List Addr) from z) (by simp)
 refine ⟨⟨e0.mod,S.kind,rfl,rfl,zzR _,fun y z c h1 h2=>?_,fun y hy=>?_,fun y c _ h=>?_,fun _=>hd,Around.frames_deeper e0.frames,.inr ⟨rfl,rfl⟩,fun b z=>absurd z (noA b),e0.bs,e0.bsz,fun b _ _=>noA b,fun b z=>absurd z (noA b),e0.funs,e0.frf⟩,
  rfl,e0.bare,Un.kept hk,⟨_,x.toInCall.ns,fun i y v h1 h2 h3=>?_⟩,fun y c h=>⟨_,x.cell y c h⟩,e0.hok.fresh (zzR _),fun y c h=>?_,fun p hp=>absurd (show p∈([]:List (Addr×Obj)) from hp) (by simp),e0.hok.kept hk,?_,h0⟩
 .exact name_of_addr x.apart (PySem.mem_of_lookup h1) (PySem.mem_of_lookup h2)
 .have hy:scope.names.lookup y=some .cell\/scope.names.lookup y=some .free:=hy;rcases hy with hy|hy
  .exact cP hy
  .exact absurd rfl (S.nofree _ (PySem.mem_of_lookup hy))
 .exact Nat.le_of_lt (x.above y c (PySem.mem_of_lookup h))
 .have hi:i<vs.length:=by
   unfold start at h2
   by_cases hi:i<vs.length
   .exact hi
   .rw [List.getElem?_append_right (by simpa using hi)] at h2;rw [List.getElem?_replicate] at h2
    split at h2<;>cases h2
  have ha:vs[i]?=some v:=by
   unfold start at h2;rw [List.getElem?_append_left (by simpa using hi),List.getElem?_map] at h2
   cases e:vs[i]? with
   |none=>rw [e] at h2;cases h2
   |some a=>rw [e] at h2;cases h2;rfl
  obtain ⟨u,hu,rv⟩:=r.get ha
  have hp:ps[i]?=some y:=by
   rw [← S.pre,List.getElem?_take_of_lt (by omega)];exact h1
  have ndP:ps.Nodup:=by rw [← S.pre];exact S.nd.sublist (List.take_sublist _ _)
  refine ⟨u,rv,?_⟩;rcases S.par y (List.mem_of_getElem? hp) with k|k
  .exact .inl ⟨k,nB ndP hp hu k⟩
  .obtain ⟨c,e⟩:=cP (n:=s.heap.objs.size+1) k;refine .inr ⟨.inl k,c,e,?_⟩;have q:=x.cell y c e;rw [mZ ndP hp hu (by show scope.names.lookup y≠_;rw [k];decide)] at q;exact q
 .exact e0.hok.fresh (Nat.le_of_lt (x.above y c (PySem.mem_of_lookup h)))
 .unfold start;show _=N.length;rw [zzW,zzM,List.length_replicate];omega
theorem fn_of {CX:CXT} {P:Program} {w:World} {K:PySem.W.Frag} {mg:Str->Option Value} {base:Heap} {k:Nat} {f:Addr} {name qual:Str} {params:Arguments} {body:List Stmt} {scope:Scope} {dV kV doc pm cdv ct oc:Value} {an od:Option Addr}
  {osl:Array (Option Value)} {N ps:List Str} {sp:Sp} (lk:K.lookup f=some ⟨oc,od,.func (PySem.W.fnOf name qual params body scope dV kV doc pm an cdv ct),osl⟩) (hcd:PySem.W.codeIn K cdv qual=true) (S:FnScope N ps scope)
  (len:∀ vs H Q E,sp vs H Q E->vs.length=ps.length)
  (hbody:∀ (A:Around) (outer:List Env) (s:Shared) (H:Hp) (vs:List V) (Q:VK) (E:XK),Room k (A.deeper (envOfC qual scope s.heap.objs.size f cdv))->sp vs H Q E ->
   ∃ t,cK (cxOf CX P w K mg base N qual scope f cdv A outer s H E) body t/\t { nx:=fun _ H'=>Q .non H',rt:=Q } (start N vs) H) :
  FnOk P w K mg base CX (k+1) f (PySem.W.fnOf name qual params body scope dV kV doc pm an cdv ct) ps sp:=by
 suffices core:∀ (A:Around) (outer:List Env) (s:Shared) (H:Hp) (args:Args) (us:List Value) (vs:List V) (Q:VK) (E:XK),Room (k+1) A->Env0 P w K mg base A outer { s with toks:=1 } H->BindsTo s (PySem.W.fnOf name qual params body scope dV kV doc pm an cdv ct) args (ps.zip us)->zV vs us->sp vs H Q E ->
   (0<s.toks\/∃ x,ps=[x]/\scope.names.lookup x=some .local)->codeAny (model P w) A (.call (.ref f) args) (CR CX outer P w H s Q E) s from
  ⟨len,fun A outer s H args us vs Q E hr e0 hb r hsp=>core A outer s H args us vs Q E hr ⟨e0.frames,e0.mod,e0.bs,e0.bsz,e0.funs,e0.frf,e0.hok,e0.bare,Nat.one_pos⟩ hb r hsp (.inl e0.tk),fun x e l A outer s H args us vs Q E hr e0 hb r hsp=>core A outer s H args us vs Q E hr e0 hb r hsp (.inr ⟨x,e,l⟩)⟩
 intro A outer s H args us vs Q E hr e0 hb r hsp hpos;have hl:=len _ _ _ _ hsp;have KX:K.In s.heap:=e0.mod.kin.keeps fun b o e=>(e0.bs b o e).1;have lim:s.heap.NoLimit:=e0.mod.nolimit.keeps fun b o e=>(e0.bs b o e).1
 have hkind:∀ y∈ps.zip us,scope.names.lookup y.1=some .local\/(scope.names.lookup y.1=some .cell/\((cellsFrom (s.heap.objs.size+1) scope.names []).lookup y.1).isSome=true):=fun ⟨n,v⟩ hy=>by
  rcases S.par n (List.of_mem_zip hy).1 with q|q
  .exact .inl q
  .exact .inr ⟨q,PySem.W.cellsFrom_some _ _ _ (.inl q)⟩
 refine codeAny_call_function hr.depth (KX _ _ lk) rfl S.co S.gen rfl (PySem.W.codeRec_of KX hcd) (hb _ _ _ _ ?_);refine bO S.kind hkind (r.length.symm.trans hl) hpos fun env he s1 x h0=>?_;subst he;refine ⟨lim.keeps x.toInCall.keep,codeAny_func ?_⟩;obtain ⟨t,ht,hq⟩:=hbody A outer s H vs Q E (hr.deeper _) hsp;have I:Inv (cxOf CX P w K mg base N qual scope f cdv A outer s H E) [] (start N vs) H s1:=zaV S hr.hd e0 hl r x h0;refine wpAny_mono (ht [] s1 (start N vs) H _ I hq) (fun fl s' hs=>?_) fun e s' hs=>hs
 have fin:∀ {σ':St} {H':Hp} {v:V} {u:Value},Inv (cxOf CX P w K mg base N qual scope f cdv A outer s H E) [] σ' H' s'->zR v u->Q v H'->CE outer P w H s Q u s' :=
  fun {σ' H' v u} J rv q=>⟨v,H',J.os,J.tk,J.bare,J.base,J.hok,rv,q⟩
 cases fl with
 |ret u =>
  obtain ⟨v,σ',H',J,rv,q⟩:=hs;exact fin J rv q
 |next =>
  obtain ⟨σ',H',J,q⟩:=hs;exact fin (v:=V.non) (u:=Value.none) J rfl q
 |brk =>
  obtain ⟨_,_,_,q⟩:=hs;exact False.elim q
 |cont =>
  obtain ⟨_,_,_,q⟩:=hs;exact False.elim q
end L2
namespace L2
open PySem PySem.Spec PyProof.Rows
section
variable {X : Cx} {x : Str} {p pos : Pos} {e : Expr} {es : List Expr} {t : TA} {id T : String} {r : List V → Hp → VK → Prop}
def tCB (r:List V->Hp->VK->Prop) (t:TA):TE:=fun σ H Q=>t σ H fun vs H1=>r vs H1 Q
theorem zca (hc:wN X (.builtin id) r) (hg:Gl X x) (hm:X.mg x=none) (hv:bootBuiltins x=some (.builtin id)) (ha:PA X (e::es) t) (hn:x ≠ "__name__" := by decide) (hdb:(x==("__debug__" : Str))=false:=by decide)
  (he:starEach (e::es) X.env=(false,eval e X.env)::starEach es X.env:=by rfl) (hpl:(backTo pos (starEach es X.env)).any (·.1)=false:=by rfl):PE X (.Call (.Name x p) (e::es) [] pos) (tCB r t):=by
 intro pins s σ H Q I h;refine wpAny_Call_Name_kw (vY I hg hm hv ?_ hn hdb);exact PyProof.Rows.callWith_builtin1 (yU (ha pos pins s σ H _ I h) fun us s1 ⟨vs,H1,I1,r1,q1⟩=>hc pins s1 σ H1 vs us Q I1 r1 q1) he hpl
theorem zaB (hc:wN X (.type T) r) (hg:Gl X x) (hm:X.mg x=none) (hv:bootBuiltins x=some (.type T)) (ha:PA X (e::es) t) (hn:x ≠ "__name__" := by decide) (hdb:(x==("__debug__" : Str))=false:=by decide)
  (he:starEach (e::es) X.env=(false,eval e X.env)::starEach es X.env:=by rfl) (hpl:(backTo pos (starEach es X.env)).any (·.1)=false:=by rfl):PE X (.Call (.Name x p) (e::es) [] pos) (tCB r t):=by
 intro pins s σ H Q I h;refine wpAny_Call_Name_kw (vY I hg hm hv ?_ hn hdb);exact PyProof.Rows.callWith_type1 (yU (ha pos pins s σ H _ I h) fun us s1 ⟨vs,H1,I1,r1,q1⟩=>hc pins s1 σ H1 vs us Q I1 r1 q1) he hpl
end
end L2
namespace HT
open PySem PyProof.Rows
section
open PySem.SeqAt
open PySem.AutoSeq1 (wpAny_loadPart')
open PySem.MeetsSeq PySem.MeetsSeq2 PySem.MeetsSeq3
end
section
variable {prog : Program} {w : World} {A : Around} {E : Value → Shared → Prop} {s : Shared}
theorem ze7 {t b:Addr} {vs ws:List Value} {Q:Value->Shared->Prop} (ht:IsTup s.heap t vs.toArray) (hb:IsTup s.heap b ws.toArray) (hv:vs≠[])
  (h1:ws=[]->Q (.ref t) s) (h2:ws≠[]->Q (.ref s.heap.objs.size) { s with heap:=s.heap.push { cls:=.type "tuple", data:=.seq (vs++ws).toArray } })
  (hsz:vs.length+ws.length<=sizeLine):wpAny (model prog w) A (binaryOp .Add (.ref t) (.ref b)) Q E s:=by
 obtain ⟨⟨cls,dd,data,sl⟩,ho,hc,n,hd⟩:=id ht;obtain ⟨⟨cls2,dd2,data2,sl2⟩,ho2,hc2,n2,hd2⟩:=id hb;simp only at hc hd hc2 hd2;subst hc hd hc2 hd2;have e:vs.toArray++ws.toArray=(vs++ws).toArray:=by simp
 by_cases hw:ws=[]
 .exact concat_meets ⟨_,ho,rfl⟩ ⟨_,ho2,rfl⟩ noFill_tuple_add seq_tuple_add PySem.F.slot_tuple_add PySem.F.entry_tuple_add (PySem.F.args_tuple_add_2 _ _)
   (tuple_addW1 t b vs.toArray ws.toArray n n2 dd dd2 sl sl2 (by simpa using hv) (by simp [hw])) ⟨ho,ho2,h1 hw⟩
 .refine concat_meets ⟨_,ho,rfl⟩ ⟨_,ho2,rfl⟩ noFill_tuple_add seq_tuple_add PySem.F.slot_tuple_add PySem.F.entry_tuple_add (PySem.F.args_tuple_add_2 _ _)
   (tuple_addW2 t b vs.toArray ws.toArray n n2 dd dd2 sl sl2 (by simpa using hv) (by simpa using hw) (by rw [zzS,zzS];exact hsz)) ⟨ho,ho2,?_⟩
  rw [e];exact h2 hw
def xP (n d:Nat):Option Int->Nat
 |none=>d
 |some v=>if v<0 then (v+(n:Int)).toNat else min v.toNat n
theorem zfP (n d:Nat) (hd:d<=n) (o:Option Int):xP n d o<=n:=by
 cases o with
 |none=>exact hd
 |some v =>
  show (if v<0 then (v+(n:Int)).toNat else min v.toNat n)<=n
  by_cases hv:v<0
  .rw [if_pos hv];omega
  .rw [if_neg hv];exact Nat.min_le_right _ _
theorem zbf (v:Int) (n d:Nat):(if v<0 then max (v+(n:Int)) 0 else min v (n:Int))=((xP n d (some v):Nat):Int):=by
 show (if v<0 then max (v+(n:Int)) 0 else min v (n:Int))=(((if v<0 then (v+(n:Int)).toNat else min v.toNat n):Nat):Int)
 by_cases hv:v<0
 .simp only [if_pos hv];omega
 .simp only [if_neg hv];omega
theorem zag (lo hi:Option Int) (n:Nat):Builtin.Slice.sliceAdjust lo hi 1 (n:Int)=(((xP n 0 lo:Nat):Int),((xP n n hi:Nat):Int)):=by
 have h1:¬ ((1:Int)<0):=by omega
 unfold Builtin.Slice.sliceAdjust;simp only [h1,if_false];refine Prod.ext ?_ ?_
 .cases lo with
  |none=>rfl
  |some v=>exact zbf v n 0
 .cases hi with
  |none=>rfl
  |some v=>exact zbf v n n
theorem bS (i j:Nat):Builtin.Slice.slicePlaces (i:Int) (j:Int) 1=j-i:=by
 unfold Builtin.Slice.slicePlaces;have h1:(1:Int) > 0:=by omega
 simp only [h1,if_true,Int.ediv_one]
 split<;>omega
theorem sV {v:Value} {o:Option Int} {Q:Option Int->Shared->Prop} (p:IsPart v o) (h:Q o s):wpAny (model prog w) A (Builtin.Slice.slicePartIndex v) Q E s:=by
 cases p with
 |none=>exact slicePart_none h
 |int i t=>exact slicePart_int h
theorem jP {sl:Addr} {vl vu:Value} {lo hi:Option Int} {n:Nat} {Q:Int×Int×Nat->Shared->Prop} (hs:s.heap.IsSliceOf sl vl vu .none) (pl:IsPart vl lo) (pu:IsPart vu hi)
  (h:Q (((xP n 0 lo:Nat):Int),1,xP n n hi-xP n 0 lo) s):wpAny (model prog w) A (Builtin.Slice.sliceApplied (.ref sl) (pure (n:Int))) Q E s:=by
 obtain ⟨os,hos,hcs,hds⟩:=id hs;unfold Builtin.Slice.sliceApplied Builtin.Slice.sliceFields;refine wpAny_bind (wpAny_bind (wpAny_field hos hds (x:=vl) rfl (wpAny_bind (wpAny_field hos hds (x:=vu) rfl (wpAny_bind (wpAny_field hos hds (x:=.none) rfl (wpAny_pure ?_)))))));refine wpAny_bind (slicePart_none ?_);show wpAny _ _ (if ((1:Int)==0)=true then _ else _) _ _ s;rw [if_neg (by decide)];refine wpAny_bind (sV pl (wpAny_bind (sV pu (wpAny_bind (wpAny_pure ?_)))));show wpAny _ _ (match Builtin.Slice.sliceAdjust lo hi 1 (n:Int) with|(lo,hi)=>pure (lo,(1:Int),Builtin.Slice.slicePlaces lo hi 1)) _ _ s;rw [zag lo hi n];show wpAny _ _ (pure (((xP n 0 lo:Nat):Int),(1:Int),Builtin.Slice.slicePlaces ((xP n 0 lo:Nat):Int) ((xP n n hi:Nat):Int) 1)) _ _ s;rw [bS];exact wpAny_pure h
theorem zb4 (xs:Array Value) (i k:Nat):((List.range k).filterMap fun (m:Nat)=>xs[((i:Int)+(m:Int) * 1).toNat]?).toArray=((xs.toList.drop i).take k).toArray:=by
 have e:(fun (m:Nat)=>xs[((i:Int)+(m:Int) * 1).toNat]?)=fun m=>xs[i+m]?:=by
  funext m
  have:((i:Int)+(m:Int) * 1).toNat=i+m:=by omega
  rw [this]
 rw [e];have:=pick_run xs i k;rw [List.filterMap_map] at this;have e2:((fun x=>xs[x]?) ∘ fun x=>i+x)=fun m=>xs[i+m]?:=rfl;rw [e2] at this;rw [this]
theorem vG {t sl:Addr} {items:Array Value} {vl vu:Value} {lo hi:Option Int} {Q:Value->Shared->Prop} (ht:IsTup s.heap t items) (hs:s.heap.IsSliceOf sl vl vu .none) (pl:IsPart vl lo) (pu:IsPart vu hi)
  (hw:¬ (xP items.size 0 lo=0/\xP items.size items.size hi=items.size))
  (h:Q (.ref s.heap.objs.size) { s with heap:=s.heap.push { cls:=.type "tuple", data:=.seq ((items.toList.drop (xP items.size 0 lo)).take (xP items.size items.size hi-xP items.size 0 lo)).toArray } })
  (hsz:items.size<=sizeLine):wpAny (model prog w) A (getItem (.ref t) (.ref sl)) Q E s:=by
 have htake:sizeOk (.seq ((items.toList.drop (xP items.size 0 lo)).take (xP items.size items.size hi-xP items.size 0 lo)).toArray):=by
  show ((items.toList.drop (xP items.size 0 lo)).take (xP items.size items.size hi-xP items.size 0 lo)).toArray.size<=sizeLine;rw [zzS,List.length_take,List.length_drop,Array.length_toList];omega
 have hj:xP items.size items.size hi<=items.size:=zfP _ _ (zzR _) hi;obtain ⟨os,hos,hcs,hds⟩:=id hs;have hTs:s.TypeIs (.ref sl) "slice" := ⟨os,hos,hcs⟩;unfold getItem
 try with_reducible refine wpAny_holding ?_
 first|refine wpAny_bind (wpAny_pure ?_)|skip
 refine wpAny_bind (wpAny_sequenceKey ht.typeIs (by decide) ?_)
 refine wpAny_bind (wpAny_callSpecial?_slot (name:=Str.ofString "__getitem__") ht.typeIs PyProof.Rows.slot_tuple_getitem
  (wpAny_call_entry PyProof.Rows.slot_tuple_getitem ht.typeIs entry_tuple_getitem ?_ (args_tuple_getitem _ _)))
 show wpAny _ _ (Builtin.Tuple.tupleItemsOf (.ref t) >>= _) _ _ s;refine wpAny_bind (tupleItemsOf_ ht ?_);refine wpAny_bind (wpAny_typeOf hTs ?_);rw [if_pos (by decide)];refine wpAny_bind (jP hs pl pu ?_)
 have hno:¬ ((((xP items.size 0 lo:Nat):Int)==0&&(1:Int)==1&&(xP items.size items.size hi-xP items.size 0 lo)==items.size)=true):=by
  intro q;rw [Bool.and_eq_true,Bool.and_eq_true] at q;have q1:((xP items.size 0 lo:Nat):Int)=0:=eq_of_beq q.1.1;have q2:xP items.size items.size hi-xP items.size 0 lo=items.size:=eq_of_beq q.2;exact hw ⟨by omega,by omega⟩
 show wpAny _ _ (if (((xP items.size 0 lo:Nat):Int)==0&&(1:Int)==1&&(xP items.size items.size hi-xP items.size 0 lo)==items.size)=true then _ else _) _ _ s;rw [if_neg hno,zb4]
 first
  |exact wpAny_bind (m:=Builtin.Tuple.tupleExact _) (wpAny_newObj_type (wpAny_pure ⟨_,rfl,wpAny_pure h⟩) htake)
  |exact wpAny_bind (m:=Builtin.Tuple.tupleExact _) (wpAny_newObj_type (wpAny_bind (wpAny_pure (wpAny_pure ⟨_,rfl,wpAny_pure h⟩))) htake)
  |exact wpAny_bind (wpAny_bind (m:=Builtin.Tuple.tupleExact _) (wpAny_newObj_type (wpAny_pure (wpAny_pure ⟨_,rfl,wpAny_pure h⟩)) htake))
  |exact wpAny_bind (wpAny_bind (m:=Builtin.Tuple.tupleExact _) (wpAny_newObj_type (wpAny_pure ⟨_,rfl,wpAny_pure h⟩) htake))
end
end HT
namespace L2
open PySem PySem.Spec PyProof.Rows
abbrev TO:=St->Hp->(Option Int->Hp->Prop)->Prop
def PO (X:Cx) (e:Option Expr) (t:TO):Prop :=
 ∀ (pins:List (Addr×Obj)) (s:Shared) (σ:St) (H:Hp) (Q:Option Int->Hp->Prop),Inv X pins σ H s->t σ H Q ->
  wpAny (model X.prog X.w) X.A (evalPart e X.env) (fun u s'=>∃ o H',Inv X pins σ H' s'/\IsPart u o/\Q o H') X.xe s
def zdE:TO:=fun _ H Q=>Q none H
def tPart (t:TE):TO:=fun σ H Q=>t σ H fun x H1=>∃ i,x=.int i/\Q (some i) H1
section
variable {X : Cx} {e : Expr} {te : TE} {lo hi : Option Expr} {tl th : TO} {pos p2 : Pos}
theorem zd2:PO X none zdE:=by
 intro pins s σ H Q I h;rw [evalPart_none];exact wpAny_pure ⟨none,H,I,.none,h⟩
theorem zd1 (h:PE X e te):PO X (some e) (tPart te):=by
 intro pins s σ H Q I hw;rw [evalPart_some];refine yU (h pins s σ H _ I hw) fun u s1 ⟨x,H1,I1,r1,q1⟩=>?_;obtain ⟨i,rfl,q⟩:=q1;obtain ⟨t,rfl⟩:=r1;exact ⟨some i,H1,I1,.int i t,q⟩
def SlR (X:Cx) (r:V->Option Int->Option Int->Hp->VK->Prop):Prop :=
 ∀ (pins:List (Addr×Obj)) (s:Shared) (σ:St) (H:Hp) (x:V) (v vl vu:Value) (lo hi:Option Int) (sl:Addr) (Q:VK),Inv X pins σ H s->zR x v->s.heap.IsSliceOf sl vl vu .none->IsPart vl lo->IsPart vu hi->r x lo hi H Q ->
  ∃ T id,typeLookup (.type T) "__getitem__" = pure (some (.builtin id))/\s.TypeIs v T/\wpAny (model X.prog X.w) X.A (getItem v (.ref sl)) (EP X pins σ Q) X.xe s
def tSl (r:V->Option Int->Option Int->Hp->VK->Prop) (te:TE) (tl th:TO):TE:=fun σ H Q=>te σ H fun x H1=>tl σ H1 fun l H2=>th σ H2 fun u H3=>r x l u H3 Q
theorem zb5 {r:V->Option Int->Option Int->Hp->VK->Prop} (hr:SlR X r) (he:PE X e te) (hl:PO X lo tl) (hu:PO X hi th):PE X (.Subscript e (.Slice lo hi none p2) pos) (tSl r te tl th):=by
 intro pins s σ H Q I h;refine Subscript_ (yU (he pins s σ H _ I h) fun v s1 ⟨x,H1,I1,r1,q1⟩=>?_);refine wpAny_Slice (yU (hl pins s1 σ H1 _ I1 q1) fun vl s2 ⟨l,H2,I2,pl,q2⟩=>yU (hu pins s2 σ H2 _ I2 q2) fun vu s3 ⟨u,H3,I3,pu,q3⟩=>?_);rw [evalPart_none];refine wpAny_pure ?_;have I4:Inv X pins σ H3 { s3 with heap:=s3.heap.push { cls:=.type "slice", data:=.fields #[vl,vu,.none] } }:=I3.kept (t':=s3.toks) fun b ob q=>Heap.get?_push_of_some _ q;obtain ⟨T,id,hT,ht,hg⟩:=hr pins { s3 with heap:=s3.heap.push { cls:=.type "slice", data:=.fields #[vl,vu,.none] } } σ H3 x v vl vu l u s3.heap.objs.size Q I4 r1 (Heap.IsSliceOf.new ..) pl pu q3;show wpAny (model X.prog X.w) X.A (subscriptTail e (.Slice lo hi none p2) v (.ref s3.heap.objs.size)) (EP X pins σ Q) X.xe { s3 with heap:=s3.heap.push { cls:=.type "slice", data:=.fields #[vl,vu,.none] } };exact tail_any (ops:=[.ref s3.heap.objs.size,v]) ht hT hg (by with_unfolding_all rfl)
def cQ (xs:List V) (lo hi:Option Int):List V:=(xs.drop (HT.xP xs.length 0 lo)).take (HT.xP xs.length xs.length hi-HT.xP xs.length 0 lo)
theorem tY (xs:List V) (lo hi:Option Int):(cQ xs lo hi).length<=xs.length:=by
 unfold cQ;rw [List.length_take,List.length_drop];omega
def rSlT (K:PySem.W.Frag):V->Option Int->Option Int->Hp->VK->Prop:=fun x lo hi H Q=>∃ a xs,x=.ref a/\uW K H a xs /\
 ¬ (HT.xP xs.length 0 lo=0/\HT.xP xs.length xs.length hi=xs.length)/\∀ p,H p=none->Q (.ref p) (yN H p (.tup (cQ xs lo hi)))
theorem zfF:SlR X (rSlT X.K):=by
 intro pins s σ H x v vl vu lo hi sl Q I rx hs pl pu h;obtain ⟨a,xs,rfl,hx,hw,q⟩:=h;cases rx;obtain ⟨its,r,ht,hz⟩:=I.tuple hx;have hlen:its.toArray.size=xs.length:=by rw [zzS];exact r.length.symm
 refine ⟨"tuple", _,PyProof.Rows.slot_tuple_getitem.lookup,ht.typeIs,?_⟩;refine HT.vG ht hs pl pu (by rw [hlen];exact hw) ?_ (by rw [hlen];exact hz);rw [hlen];refine ⟨.ref s.heap.objs.size,_,I.laid (t':=s.toks) (o:=.tup (cQ xs lo hi)) (fun b ob q=>Heap.get?_push_of_some _ q) (zzR _) ?_,rfl,q _ (I.hok.fresh (zzR _))⟩;exact ⟨Nat.le_trans (tY xs lo hi) hz,_,(r.drop (HT.xP xs.length 0 lo)).take (HT.xP xs.length xs.length hi-HT.xP xs.length 0 lo),IsTup.new _ _⟩
def rCatT (K:PySem.W.Frag):R2:=fun x y H Q=>∃ a b xs ys,x=.ref a/\y=.ref b/\uW K H a xs/\uW K H b ys/\xs≠[]/\xs.length+ys.length<=sizeLine /\
 (ys=[]->Q (.ref a) H)/\(ys≠[]->∀ p,H p=none->Q (.ref p) (yN H p (.tup (xs++ys))))
theorem zV.nil_iff {xs:List V} {us:List Value} (r:zV xs us):us=[]↔xs=[]:=by
 cases r with
 |nil=>simp
 |cons _ _=>simp
theorem zee:jL X (binaryOp .Add) (rCatT X.K):=by
 intro pins s σ H x y v u Q I rx ry h;obtain ⟨a,b,xs,ys,rfl,rfl,ha,hb,hx,hz,q1,q2⟩:=h;cases rx;cases ry;obtain ⟨its,r1,p1,_⟩:=I.tuple ha;obtain ⟨its2,r2,p2,_⟩:=I.tuple hb;refine HT.ze7 p1 p2 (fun z=>hx (r1.nil_iff.mp z)) (fun z=>⟨.ref a,H,I,rfl,q1 (r2.nil_iff.mp z)⟩) (fun z=>?_) (by rw [← r1.length,← r2.length];exact hz);refine ⟨.ref s.heap.objs.size,_,I.laid (t':=s.toks) (o:=.tup (xs++ys)) (fun b ob q=>Heap.get?_push_of_some _ q) (zzR _) ?_,rfl,q2 (fun w=>z (r2.nil_iff.mpr w)) _ (I.hok.fresh (zzR _))⟩;exact ⟨by rw [zzW];exact hz,_,r1.append r2,IsTup.new _ _⟩
end
end L2
namespace L2
open PySem PySem.Spec PyProof.Rows
def ixN (n:Nat) (i:Int):Option Nat:=if 0<=i then (if i<n then some i.toNat else none) else if -(n:Int)<=i then some (i+n).toNat else none
def rC {α:Type} (xs:List α) (i:Int):Option α:=(ixN xs.length i).bind fun j=>xs[j]?
theorem zaS {n:Nat} {i:Int} {j:Nat} (h:ixN n i=some j):seqIndex? i n=some j/\j<n/\-(n:Int)<=i/\i<n:=by
 unfold ixN at h
 by_cases h0:0<=i
 .rw [if_pos h0] at h
  by_cases h1:i<n
  .rw [if_pos h1] at h;have e:i.toNat=j:=Option.some.inj h;exact ⟨by rw [seqIndex_of h0 h1,e],by omega,by omega,h1⟩
  .rw [if_neg h1] at h;cases h
 .rw [if_neg h0] at h
  by_cases h1:-(n:Int)<=i
  .rw [if_pos h1] at h;have e:(i+n).toNat=j:=Option.some.inj h;exact ⟨by rw [seqIndex_neg (by omega) h1,e],by omega,h1,by omega⟩
  .rw [if_neg h1] at h;cases h
theorem gD {α:Type} {xs:List α} {i:Int} {v:α} (h:rC xs i=some v):∃ j,seqIndex? i xs.length=some j/\xs[j]?=some v/\j<xs.length/\-(xs.length:Int)<=i/\i<xs.length:=by
 unfold rC at h
 cases e:ixN xs.length i with
 |none=>rw [e] at h;cases h
 |some j =>
  rw [e] at h;obtain ⟨h1,h2,h3,h4⟩:=zaS e;exact ⟨j,h1,h,h2,h3,h4⟩
def gC (b:Expr):Prop:=∀ o i,subscripted b false o i=operate [o,i] (getItem o i)
def IxR (X:Cx) (r:R2):Prop :=
 ∀ (value slice:Expr) (pins:List (Addr×Obj)) (s:Shared) (σ:St) (H:Hp) (x y:V) (v u:Value) (Q:VK),Inv X pins σ H s->zR x v->zR y u->r x y H Q ->
  subscripted slice false v u=operate [v,u] (getItem v u)->wpAny (model X.prog X.w) X.A (subscriptTail value slice v u) (EP X pins σ Q) X.xe s
def MtR (X:Cx) (id:String) (r:V->List V->Hp->VK->Prop):Prop :=
 ∀ (pins:List (Addr×Obj)) (s:Shared) (σ:St) (H:Hp) (x:V) (xs:List V) (v:Value) (us:List Value) (Q:VK),Inv X pins σ H s->zR x v->zV xs us->r x xs H Q ->
  wpAny (model X.prog X.w) X.A (call (.builtin id) (v::us)) (EP X pins σ Q) X.xe s
section
variable {X : Cx} {a b : Expr} {ta tb : TE} {pos : Pos}
theorem pe_ix {r:R2} (hr:IxR X r) (ha:PE X a ta) (hb:PE X b tb) (hs:gC b):PE X (.Subscript a b pos) (tOp r ta tb):=by
 intro pins s σ H Q I h;exact Subscript_ (binT ha hb I h fun v u s2 x y H2 I2 rx ry q=>hr a b pins s2 σ H2 x y v u Q I2 rx ry q (hs _ _))
def rIxL (K:PySem.W.Frag):R2:=fun x y H Q=>∃ p xs i v,x=.ref p/\y=.int i/\tW K H p xs/\rC xs i=some v/\Q v H
def rIxT (K:PySem.W.Frag):R2:=fun x y H Q=>∃ p xs i v,x=.ref p/\y=.int i/\uW K H p xs/\rC xs i=some v/\Q v H
def rIxS:R2:=fun x y H Q=>∃ z i c,x=.str z/\y=.int i/\z.length<=sizeLine/\rC z.cps.toList i=some c/\Q (.str ⟨#[c]⟩) H
theorem zer:IxR X (rIxL X.K):=by
 intro value slice pins s σ H x y v u Q I rx ry h hs;obtain ⟨p,xs,i,z,rfl,rfl,hq,he,q⟩:=h;cases rx;obtain ⟨t,rfl⟩:=ry;obtain ⟨its,r,pl,hz⟩:=I.list hq;obtain ⟨j,h1,h2,h3,h4,h5⟩:=gD he;obtain ⟨w,ew,rw'⟩:=r.get h2;have hl:=r.length;have hn:=vZ;have fin:EP X pins σ Q w s:=⟨z,H,I,rw',q⟩
 by_cases h0:0<=i
 .have hj:i.toNat=j:=by
   rw [seqIndex_of h0 h5] at h1;exact Option.some.inj h1
  exact item_listR pl.isList h0 (by omega) (by rw [hj];simpa using ew) fin hs
 .have hj:(i+(its.toArray.size:Int)).toNat=j:=by
   rw [seqIndex_neg (by omega) h4] at h1;rw [zzS,← hl];exact Option.some.inj h1
  exact subscriptTail_builtinR (x:=w) pl.isList.typeIs slot_list_getitem.lookup
   (wpAny_getItem_list_neg (Q:=fun r s'=>r=w/\EP X pins σ Q r s') pl.isList (by omega) (by rw [zzS]<;>omega) (by omega) (by rw [hj];simpa using ew) ⟨rfl,fin⟩) hs
theorem zgN:IxR X (rIxT X.K):=by
 intro value slice pins s σ H x y v u Q I rx ry h hs;obtain ⟨p,xs,i,z,rfl,rfl,hq,he,q⟩:=h;cases rx;obtain ⟨t,rfl⟩:=ry;obtain ⟨its,r,pl,hz⟩:=I.tuple hq;obtain ⟨j,h1,h2,h3,h4,h5⟩:=gD he;obtain ⟨w,ew,rw'⟩:=r.get h2;have hl:=r.length;have hn:=vZ;have fin:EP X pins σ Q w s:=⟨z,H,I,rw',q⟩
 exact subscriptTail_builtinR (x:=w) pl.typeIs slot_tuple_getitem.lookup
  (getItem_tuple (j:=j) (Q:=fun r s'=>r=w/\EP X pins σ Q r s') pl (by omega) (by omega) (by rw [zzS,← hl];exact h1) (by simpa using ew) ⟨rfl,fin⟩) hs
theorem zgO:IxR X rIxS:=by
 intro value slice pins s σ H x y v u Q I rx ry h hs;obtain ⟨z,i,c,rfl,rfl,hz,he,q⟩:=h;obtain ⟨t,rfl⟩:=rx;obtain ⟨t',rfl⟩:=ry;obtain ⟨j,h1,h2,h3,h4,h5⟩:=gD he;have hl:z.cps.toList.length=z.length:=by simp [Str.length]
 rw [hl] at h1 h4 h5;have hn:=vZ
 exact tail_any (typeIs_str s z t) slot_str_getitem.lookup (getItem_str (c:=c) (by
  have e1:decide (i < -(2 ^ 63:Int))=false:=decide_eq_false (by omega);have e2:decide (i>=2 ^ 63)=false:=decide_eq_false (by omega);rw [e1,e2,Bool.or_false]) (by rw [h1];simpa using h2) ⟨.str ⟨#[c]⟩,H,I.tok _,⟨_,rfl⟩,q⟩) hs
theorem bL (its:List Value) (n j:Nat) (u:Value):Obj.mapSeq (·.setIfInBounds j u) { cls:=.type "list", data:=.seq its.toArray n }={ cls:=.type "list", data:=.seq (its.set j u).toArray n }:=by
 simp [Obj.mapSeq]
theorem Inv.lst {pins:List (Addr×Obj)} {σ:St} {H:Hp} {s:Shared} {p:Addr} {xs:List V} (I:Inv X pins σ H s) (h:H p=some (.lst xs)) :
  ∃ (its:List Value) (n:Nat),zV xs its/\s.heap.get? p=some { cls:=.type "list", data:=.seq its.toArray n }/\xs.length<=sizeLine:=by
 obtain ⟨z,its,n,r,e⟩:=I.hok p _ h;exact ⟨its,n,r,e,z⟩
theorem Inv.lstUpd {pins:List (Addr×Obj)} {σ:St} {H:Hp} {s:Shared} {p:Addr} {xs ys:List V} {its its':List Value} {n n':Nat} {f:Obj->Obj} (I:Inv X pins σ H s) (h:H p=some (.lst xs))
  (ho:s.heap.get? p=some { cls:=.type "list", data:=.seq its.toArray n }) (hf:f { cls:=.type "list", data:=.seq its.toArray n }={ cls:=.type "list", data:=.seq its'.toArray n' }) (r:zV ys its') (hz:ys.length<=sizeLine) (t:Nat) (ht:0<t:=by first|exact Nat.succ_pos _|exact L2.Inv.tk (by assumption)|exact L2.Inv.tk ‹L2.Inv _ _ _ _ _› | assumption|omega) :
  Inv X pins σ (yN H p (.lst ys)) { s with heap:=s.heap.update p f,toks:=t }:=by
 have e:(s.heap.update p f).get? p=some { cls:=.type "list", data:=.seq its'.toArray n' }:=by
  rw [Heap.get?_update_self f ho (by rw [hf]<;>rfl),hf]
 refine I.write (x:=p) (e:=p) (by rw [h];trivial) (.inl rfl) (fun b u hb q=>(Heap.get?_update_other _ _ (Ne.symm hb)).trans q) ⟨_,e⟩ ?_;exact ⟨hz,its',n',r,e⟩
def rSetL:V->V->V->Hp->(Hp->Prop)->Prop:=fun o i v H Q=>∃ p xs k j,o=.ref p/\i=.int k/\H p=some (.lst xs)/\ixN xs.length k=some j/\Q (yN H p (.lst (xs.set j v)))
theorem zbL:PSet X rSetL:=by
 intro pins s σ H o i v ov iv u Q I ro ri rv h;obtain ⟨p,xs,k,j,rfl,rfl,hp,hj,q⟩:=h;cases ro;obtain ⟨t,rfl⟩:=ri;obtain ⟨its,n,r,ho,hz⟩:=I.lst hp;obtain ⟨h1,h2,h3,h4⟩:=zaS hj;have hl:=r.length;have hn:=vZ
 have I':Inv X pins σ (yN H p (.lst (xs.set j v))) { s with heap:=s.heap.update p (Obj.mapSeq (·.setIfInBounds j u)) } :=
  I.lstUpd hp ho (bL its n j u) (r.set rv j) (by rw [List.length_set];exact hz) s.toks
 by_cases h0:0<=k
 .have hk:k.toNat=j:=by
   rw [seqIndex_of h0 h4] at h1;exact Option.some.inj h1
  exact PySem.W.ki_setAt ho h0 (by omega) (by rw [zzS,← hl];exact h4) (by rw [hk];exact ⟨_,I',q⟩)
 .have hk:(k+(its.toArray.size:Int)).toNat=j:=by
   rw [seqIndex_neg (by omega) h3] at h1;rw [zzS,← hl];exact Option.some.inj h1
  exact PySem.W.ki_setBack ho (by omega) (by rw [zzS,← hl];exact h3) (by omega) (by rw [hk];exact ⟨_,I',q⟩)
theorem mH (lo hi:Option Int) (n:Nat):(sliceBounds lo hi none n).1=((HT.xP n 0 lo:Nat):Int)/\(sliceBounds lo hi none n).2.1=((HT.xP n n hi:Nat):Int)/\(sliceBounds lo hi none n).2.2=1:=by
 refine ⟨?_,?_,rfl⟩
 .cases lo with
  |none=>simp [sliceBounds,HT.xP]
  |some i =>
   simp only [sliceBounds,HT.xP,Option.getD_none,show (1:Int) > 0 by decide,if_true]
   by_cases h:i<0
   .simp only [h,if_true]<;>omega
   .simp only [h,if_false]<;>omega
 .cases hi with
  |none=>simp [sliceBounds,HT.xP]
  |some i =>
   simp only [sliceBounds,HT.xP,Option.getD_none,show (1:Int) > 0 by decide,if_true]
   by_cases h:i<0
   .simp only [h,if_true]<;>omega
   .simp only [h,if_false]<;>omega
theorem pZ (its:List Value) (lo hi:Option Int):slicePick its.toArray lo hi none=((its.drop (HT.xP its.length 0 lo)).take (HT.xP its.length its.length hi-HT.xP its.length 0 lo)).toArray:=by
 obtain ⟨h1,h2,h3⟩:=mH lo hi its.toArray.size;unfold slicePick;rw [h1,h2,h3];simp only [sliceRange_one,pick_run,zzS]<;>rfl
def rSlL (K:PySem.W.Frag):V->Option Int->Option Int->Hp->VK->Prop:=fun x lo hi H Q=>∃ a xs,x=.ref a/\tW K H a xs/\∀ p,H p=none->Q (.ref p) (yN H p (.lst (cQ xs lo hi)))
theorem zar:SlR X (rSlL X.K):=by
 intro pins s σ H x v vl vu lo hi sl Q I rx hs pl pu h;obtain ⟨a,xs,rfl,hx,q⟩:=h;cases rx;obtain ⟨its,r,ht,hz⟩:=I.list hx;have hlen:=r.length;refine ⟨"list", _,slot_list_getitem.lookup,ht.isList.typeIs,?_⟩;refine wpAny_getItem_list_slice ht.isList hs pl pu .none (by simp) ?_ (by rw [zzS]<;>omega);rw [pZ,← hlen];refine ⟨.ref s.heap.objs.size,_,I.laid (t':=s.toks) (o:=.lst (cQ xs lo hi)) (fun b ob q=>Heap.get?_push_of_some _ q) (zzR _) ?_,rfl,q _ (I.hok.fresh (zzR _))⟩;exact ⟨Nat.le_trans (tY xs lo hi) hz,_,0,(r.drop (HT.xP xs.length 0 lo)).take (HT.xP xs.length xs.length hi-HT.xP xs.length 0 lo),Heap.get?_push_size _ rfl⟩
theorem hX:jL X (compareOp .NotIn) (fun x y H Q=>∃ i j,x=.str i/\y=.str j/\Q (.bl (!(!(Builtin.Str.occurrences j i 0 j.length 1).isEmpty))) H):=by
 intro pins s σ H x y v u Q I rx ry h;obtain ⟨i,j,rfl,rfl,q⟩:=h;obtain ⟨t,rfl⟩:=rx;obtain ⟨t',rfl⟩:=ry;exact notIn_str ⟨.bl _,H,I,rfl,q⟩
theorem qW:wN X (.builtin "len") (fun xs H Q=>∃ p ys,xs=[.ref p]/\(tW X.K H p ys\/uW X.K H p ys)/\Q (.int ys.length) H):=by
 intro pins s σ H xs us Q I r h;obtain ⟨p,ys,rfl,hq,q⟩:=h;obtain ⟨u,rfl,rx⟩:=kK r;cases rx;have hn:=vZ;rcases hq with hq|hq
 .obtain ⟨its,r',pl,hz⟩:=I.list hq;have hlen:=r'.length;exact Calls.call_len_list pl.isList (by simp only [zzS]<;>omega) ⟨.int ys.length,H,I.tok _,⟨s.toks+1,by rw [zzS,hlen]⟩,q⟩
 .obtain ⟨its,r',pl,hz⟩:=I.tuple hq;have hlen:=r'.length;exact len_tuple pl (by simp only [zzS]<;>omega) ⟨.int ys.length,H,I.tok _,⟨s.toks+1,by rw [zzS,hlen]⟩,q⟩
theorem gG:wN X (.builtin "len") (fun xs H Q=>∃ z,xs=[.str z]/\z.length<=sizeLine/\Q (.int z.length) H):=by
 intro pins s σ H xs us Q I r h;obtain ⟨z,rfl,hz,q⟩:=h;obtain ⟨u,rfl,t,rfl⟩:=kK r;have hn:=vZ;exact len_str (by omega) ⟨.int z.length,H,I.tok _,⟨_,rfl⟩,q⟩
theorem gH:wN X (.type "list") (fun xs H Q=>∃ p ys,xs=[.ref p]/\(tW X.K H p ys\/uW X.K H p ys)/\∀ l,H l=none->Q (.ref l) (yN H l (.lst ys))):=by
 intro pins s σ H xs us Q I r h;obtain ⟨p,ys,rfl,hq,q⟩:=h;obtain ⟨u,rfl,rx⟩:=kK r;cases rx
 have fin:∀ (its:List Value),zV ys its->ys.length<=sizeLine->∀ (h':Heap) (c':Nat),(∀ b o',s.heap.get? b=some o'->h'.get? b=some o') ->
   h'.get? s.heap.objs.size=some { cls:=.type "list", dict:=none,data:=.seq its.toArray c',slots:=#[] }->EP X pins σ Q (.ref s.heap.objs.size) { s with heap:=h' }:=fun its r' hz h' c' kp e =>
  ⟨.ref s.heap.objs.size,_,I.laid (t':=s.toks) kp (zzR _) (show yK X.prog X.w _ h' _ (.lst ys) from ⟨hz,its,c',r',e⟩),rfl,q _ (I.hok.fresh (zzR _))⟩
 rcases hq with hq|hq
 .obtain ⟨its,r',pl,hz⟩:=I.list hq;have hlen:=r'.length;obtain ⟨o,ho,hc,n,hd⟩:=pl.isList;exact call_list_seq p (.inl rfl) ho hc hd (fun h' c' kp e=>fin its r' hz h' c' kp e) (by simp only [zzS]<;>omega)
 .obtain ⟨its,r',pl,hz⟩:=I.tuple hq;have hlen:=r'.length;obtain ⟨o,ho,hc,n,hd⟩:=pl;exact call_list_seq p (.inr rfl) ho hc hd (fun h' c' kp e=>fin its r' hz h' c' kp e) (by simp only [zzS]<;>omega)
def tyV (K:PySem.W.Frag) (T:String) (x:V) (H:Hp):Prop:=match x with
 | .str _=>T = "str"
 | .int _=>T = "int"
 | .ref p=>(T = "list" /\ ∃ xs,tW K H p xs)\/(T = "tuple" /\ ∃ o,K.lookup p=some o/\o.cls=.type "tuple" /\ o.dict=none) \/
   (T = "dict" /\ ((∃ kvs,H p=some (.dK kvs))\/∃ kvs,H p=some (.dT kvs)))\/(T = "set" /\ ∃ S n,H p=some (.set S n))
 |_=>False
theorem zc0 {pins:List (Addr×Obj)} {σ:St} {H:Hp} {s:Shared} {T:String} {x:V} {v:Value} (I:Inv X pins σ H s) (r:zR x v) (ty:tyV X.K T x H) :
  s.TypeIs v T/\∀ a,v=.ref a->∃ ob,s.heap.get? a=some ob/\ob.dict=none:=by
 cases x with
 |str z =>
  obtain ⟨t,rfl⟩:=r;cases (show T = "str" from ty);exact ⟨typeIs_str s z t,fun _ e=>nomatch e⟩
 |int i =>
  obtain ⟨t,rfl⟩:=r;cases (show T = "int" from ty);exact ⟨typeIs_int s i t,fun _ e=>nomatch e⟩
 |ref p =>
  cases r;rcases ty with ⟨rfl,xs,hq⟩|⟨rfl,o,hk,hc,hd⟩|⟨rfl,hk⟩|⟨rfl,S,n,hk⟩
  .obtain ⟨its,_,pl,_⟩:=I.list hq;refine ⟨pl.isList.typeIs,fun a e=>?_⟩;cases e;obtain ⟨o,n,e,c,hd,_⟩:=pl;exact ⟨o,e,hd⟩
  .refine ⟨⟨o,I.kIn p o hk,hc⟩,fun a e=>?_⟩;cases e;exact ⟨o,I.kIn _ o hk,hd⟩
  .have z:∃ o,s.heap.get? p=some o/\o.ExactDict:=by
    rcases hk with ⟨kvs,hk⟩|⟨kvs,hk⟩
    .obtain ⟨_,_,_,_,o,_,_,e,ex,_⟩:=I.hok p _ hk;exact ⟨o,e,ex⟩
    .obtain ⟨_,_,_,_,o,_,_,e,ex,_⟩:=I.hok p _ hk;exact ⟨o,e,ex⟩
   obtain ⟨o,e,ex⟩:=z;refine ⟨⟨o,e,ex.1⟩,fun a e2=>?_⟩;cases e2;exact ⟨o,e,ex.2.1⟩
  .obtain ⟨o,_,_,_,e,ex,_⟩:=I.hok p _ hk;refine ⟨⟨o,e,ex.1⟩,fun a e2=>?_⟩;cases e2;exact ⟨o,e,ex.2.1⟩
 |_=>exact False.elim ty
def tBM0 (K:PySem.W.Frag) (T:String) (r:V->List V->Hp->VK->Prop) (to:TE):TE:=fun σ H Q=>to σ H fun x H1=>tyV K T x H1/\r x [] H1 Q
def tBM (K:PySem.W.Frag) (T:String) (r:V->List V->Hp->VK->Prop) (to:TE) (t:TA):TE:=fun σ H Q=>to σ H fun x H1=>tyV K T x H1/\t σ H1 fun xs H2=>r x xs H2 Q
variable {o e : Expr} {es : List Expr} {to : TE} {t : TA} {name : Str} {apos cpos : Pos} {T id : String} {r : V → List V → Hp → VK → Prop}
theorem zgg (pa:PlainAttrs T) (slot:Slot T name id) (hty:typeOf (.builtin id)=pure (.type "method_descriptor")) (hm:MtR X id r) (ho:PE X o to)
  (hbase:attributeBase o name X.env (eval o X.env)=eval o X.env:=by rfl) (hline:(apos.endLine==cpos.line)=true:=by rfl):PE X (.Call (.Attribute o name apos) [] [] cpos) (tBM0 X.K T r to):=by
 intro pins s σ H Q I h;refine wpAny_Call_method0_late hbase hline (yU (ho pins s σ H _ I h) fun v s1 ⟨x,H1,I1,r1,ty,q1⟩=>?_);obtain ⟨h1,h2⟩:=zc0 I1 r1 ty;exact ⟨T,id,pa,slot,hty,h1,h2,Calls.callWith_builtin rfl (PySem.evalArgs_none (hm pins s1 σ H1 x [] v [] Q I1 r1 .nil q1))⟩
theorem pe_bm (pa:PlainAttrs T) (slot:Slot T name id) (hty:typeOf (.builtin id)=pure (.type "method_descriptor")) (hm:MtR X id r) (ho:PE X o to) (ha:PA X (e::es) t)
  (hbase:attributeBase o name X.env (eval o X.env)=eval o X.env:=by rfl)
  (hfew:((backTo cpos (starEach (e::es) X.env)).all (fun x=>!x.1)&&(backToKw cpos (keywordEach [] X.env)).all (fun x=>x.1.isSome)
   && decide ((e::es).length+([]:List Keyword).length+(if ([]:List Keyword).isEmpty then 0 else 1)<30))=true:=by rfl)
  (hline:(apos.endLine==cpos.line)=true:=by rfl) (hs:starEach (e::es) X.env=(false,eval e X.env)::starEach es X.env:=by rfl) (hplain:(backTo cpos (starEach es X.env)).any (·.1)=false:=by rfl) :
  PE X (.Call (.Attribute o name apos) (e::es) [] cpos) (tBM X.K T r to t):=by
 intro pins s σ H Q I h;refine wpAny_Call_method_late hbase hfew hline rfl (yU (ho pins s σ H _ I h) fun v s1 ⟨x,H1,I1,r1,ty,q1⟩=>?_);obtain ⟨h1,h2⟩:=zc0 I1 r1 ty;refine ⟨T,id,pa,slot,hty,h1,h2,?_⟩;have hA:=ha cpos pins s1 σ H1 _ I1 q1;rw [hs] at hA ⊢;refine Calls.callWith_builtin (by show (false || (backTo cpos (starEach es X.env)).any (·.1))=false;rw [hplain]<;>rfl) (Calls.evalArgs_plain ?_);exact yU hA fun us s2 ⟨vs,H2,I2,r2,q2⟩=>hm pins s2 σ H2 x vs v us Q I2 r1 r2 q2
/- xs.append(e),list.index on a module's tuple .. are MtR facts of 06m -/
end
end L2
namespace L2
open PySem PySem.Spec PyProof.Rows
def MtM (X:Cx) (id:String) (r:V->List V->Hp->VK->Prop):Prop :=
 ∀ (pins:List (Addr×Obj)) (s:Shared) (σ:St) (H:Hp) (x:V) (xs:List V) (v:Value) (us:List Value) (Q:VK),Inv X pins σ H s->zR x v->zV xs us->r x xs H Q ->
  wpAny (model X.prog X.w) X.A (call (.builtin id) (v::us)) (EP X pins σ Q) X.xe s
theorem zV.one:∀ {x:V} {us:List Value},zV [x] us->∃ u,us=[u]/\zR x u
 |_,_,.cons r .nil=>⟨_,rfl,r⟩
theorem zV.zero:∀ {us:List Value},zV [] us->us=[]
 |_,.nil=>rfl
theorem zV.dropLast {xs:List V} {us:List Value} (h:zV xs us):zV xs.dropLast us.dropLast:=by
 induction h with
 |nil=>exact .nil
 |cons r t ih =>
  cases t with
  |nil=>exact .nil
  |cons q t'=>exact .cons r ih
theorem zV.eraseIdx:∀ {xs:List V} {us:List Value} (i:Nat),zV xs us->zV (xs.eraseIdx i) (us.eraseIdx i)
 |_,_,_,.nil=>.nil
 |_,_,0,.cons _ t=>t
 |_,_,i+1,.cons r t=>.cons r (zV.eraseIdx i t)
theorem zV.rep {xs:List V} {us:List Value} (h:zV xs us):∀ k:Nat,zV (List.replicate k xs).flatten (List.replicate k us).flatten
 | 0=>.nil
 |k+1=>by
  rw [List.replicate_succ,List.replicate_succ,List.flatten_cons,List.flatten_cons];exact zV.append h (zV.rep h k)
theorem zaa {α:Type} (l:List α):l.eraseIdx (l.length-1)=l.dropLast:=by
 induction l with
 |nil=>rfl
 |cons a r ih =>
  cases r with
  |nil=>rfl
  |cons b r =>
   have e:(a::b::r).length-1=((b::r).length-1)+1:=by
    have h1:(a::b::r).length=r.length+2:=rfl;have h2:(b::r).length=r.length+1:=rfl;omega
   rw [e,List.eraseIdx_cons_succ,ih]
   all_goals rfl
theorem nS {α:Type}:∀ (l:List α) (i:Nat),(l.eraseIdx i).length<=l.length
 | [],_=>zzR _
 |_::_,0=>Nat.le_succ _
 |_::r,i+1=>Nat.succ_le_succ (nS r i)
theorem nI (its:List Value):∀ (k:Nat) (acc:List Value),
  List.foldl (fun x1 x2=>x1++x2) acc.toArray (List.replicate k its.toArray)=(acc++(List.replicate k its).flatten).toArray
 | 0,acc=>by simp
 |k+1,acc=>by
  have e:acc.toArray++its.toArray=(acc++its).toArray:=by simp
  have e2:(acc++its)++(List.replicate k its).flatten=acc++(List.replicate (k+1) its).flatten:=by
   rw [List.replicate_succ,List.flatten_cons,List.append_assoc]
  rw [← e2,← nI its k (acc++its),← e,List.replicate_succ,List.foldl_cons]
section
variable {X : Cx} {pins : List (Addr × Obj)} {σ : St} {H : Hp} {s : Shared} {l b : Addr} {xs ys zs : List V}
theorem Inv.lset {its its':List Value} {n:Nat} {f:Array Value->Array Value} {t':Nat} (I:Inv X pins σ H s) (hH:H l=some (.lst xs))
  (e:s.heap.get? l=some { cls:=.type "list", data:=.seq its.toArray n }) (hf:f its.toArray=its'.toArray) (hv:zV ys its') (hz:ys.length<=sizeLine) (ht:0<t':=by first|exact Nat.succ_pos _|exact L2.Inv.tk (by assumption)|exact L2.Inv.tk ‹L2.Inv _ _ _ _ _› | assumption|omega) :
  Inv X pins σ (yN H l (.lst ys)) { s with heap:=s.heap.update l (Obj.mapSeq f),toks:=t' }:=by
 have q:=PySem.IsL.update e f;rw [hf] at q;refine I.write (x:=l) (e:=l) (by rw [hH];exact trivial) (.inl rfl) (fun b' u hb hu=>(Heap.get?_update_other s.heap (Obj.mapSeq f) (Ne.symm hb)).trans hu) ⟨_,q⟩ ?_;exact ⟨hz,its',_,hv,q⟩
theorem Inv.lnew {its:List Value} {t':Nat} (I:Inv X pins σ H s) (hv:zV ys its) (hz:ys.length<=sizeLine) (ht:0<t':=by first|exact Nat.succ_pos _|exact L2.Inv.tk (by assumption)|exact L2.Inv.tk ‹L2.Inv _ _ _ _ _› | assumption|omega) :
  Inv X pins σ (yN H s.heap.objs.size (.lst ys)) { s with heap:=s.heap.push { cls:=.type "list", data:=.seq its.toArray },toks:=t' } :=
 I.laid (fun _ _ q=>Heap.get?_push_of_some _ q) (zzR _) ⟨hz,its,0,hv,Heap.get?_push_size _ rfl⟩
theorem Inv.fresh (I:Inv X pins σ H s):H s.heap.objs.size=none:=I.hok.fresh (zzR _)
theorem Inv.lstM (I:Inv X pins σ H s) (hH:H l=some (.lst xs)):xs.length<=sizeLine/\∃ (its:List Value) (n:Nat),zV xs its/\xs.length=its.length/\s.heap.get? l=some { cls:=.type "list", data:=.seq its.toArray n }:=by
 obtain ⟨z,its,n,r,e⟩:=I.hok l _ hH;exact ⟨z,its,n,r,r.length,e⟩
theorem zcd {n:Nat} (h:n<=sizeLine):Builtin.List.listTooLong n=false:=by
 unfold Builtin.List.listTooLong;exact decide_eq_false (by omega)
end
section
variable {X : Cx}
def zdQ:V->List V->Hp->VK->Prop:=fun x vs H Q=>∃ l xs y,x=.ref l/\vs=[y]/\H l=some (.lst xs)/\xs.length<sizeLine/\Q .non (yN H l (.lst (xs++[y])))
theorem zaH:MtM X "list.append" zdQ:=by
 intro pins s σ H x vs v us Q I rx rv h;obtain ⟨l,xs,y,rfl,rfl,hH,hz,q⟩:=h;cases rx;obtain ⟨u,rfl,ru⟩:=rv.one;obtain ⟨z,its,n,r,hl,e⟩:=I.lstM hH;refine call_meets F.slot_list_append ⟨_,e,rfl⟩ F.entry_list_append (F.args_list_append_2 _ _) (PySem.list_append l its.toArray n u (by rw [zzS];omega)) ⟨e,?_⟩;refine ⟨.non,_,I.lset (its':=its++[u]) hH e (by simp) (r.append (.cons ru .nil)) ?_,rfl,q⟩;rw [zzW,List.length_singleton];omega
def rPop:V->List V->Hp->VK->Prop:=fun x vs H Q=>∃ l xs y,x=.ref l/\vs=[]/\H l=some (.lst xs)/\xs[xs.length-1]?=some y/\Q y (yN H l (.lst xs.dropLast))
theorem zgt:MtM X "list.pop" rPop:=by
 intro pins s σ H x vs v us Q I rx rv h;obtain ⟨l,xs,y,rfl,rfl,hH,hy,q⟩:=h;cases rx;have hus:=rv.zero;subst hus;obtain ⟨z,its,n,r,hl,e⟩:=I.lstM hH;obtain ⟨u,hu,ru⟩:=r.get hy
 have hy':its.toArray[its.toArray.size-1]?=some u:=by
  show its.toArray[its.length-1]?=some u;rw [← Array.getElem?_toList,← hl];exact hu
 refine call_meets F.slot_list_pop ⟨_,e,rfl⟩ F.entry_list_pop (F.args_list_pop_1 _) (MeetsSeq.list_pop_last l its.toArray n u hy' (by rw [zzS];omega)) ⟨e,?_⟩;refine ⟨y,_,I.lset (its':=its.dropLast) hH e ?_ r.dropLast ?_,ru,q⟩
 .show its.toArray.eraseIdxIfInBounds (its.toArray.size-1)=its.dropLast.toArray;rw [zzS,List.eraseIdxIfInBounds_toArray,zaa]
 .rw [List.length_dropLast];omega
def zfV:V->List V->Hp->VK->Prop:=fun x vs H Q=>∃ l xs i k y,x=.ref l/\vs=[.int i]/\H l=some (.lst xs)/\-(2 ^ 63)<=i/\i<2 ^ 63/\seqIndex? i xs.length=some k/\xs[k]?=some y/\Q y (yN H l (.lst (xs.eraseIdx k)))
theorem zcf:MtM X "list.pop" zfV:=by
 intro pins s σ H x vs v us Q I rx rv h;obtain ⟨l,xs,i,k,y,rfl,rfl,hH,h1,h2,hk,hy,q⟩:=h;cases rx;obtain ⟨u,rfl,ru⟩:=rv.one;obtain ⟨t,rfl⟩:=ru;obtain ⟨z,its,n,r,hl,e⟩:=I.lstM hH;obtain ⟨w,hw,rw'⟩:=r.get hy
 refine call_meets F.slot_list_pop ⟨_,e,rfl⟩ F.entry_list_pop (F.args_list_pop_2 _ _)
  (MeetsSeq.list_pop_at l its.toArray n i t k w (fitsIndex_both h1 h2) (by rw [zzS,← hl];exact hk) (by rw [← Array.getElem?_toList];exact hw) (by rw [zzS];omega)) ⟨e,?_⟩
 refine ⟨y,_,I.lset (its':=its.eraseIdx k) hH e ?_ (r.eraseIdx k) ?_,rw',q⟩
 .show its.toArray.eraseIdxIfInBounds k=(its.eraseIdx k).toArray;rw [List.eraseIdxIfInBounds_toArray]
 .have:=nS xs k;omega
def rCat:R2:=fun x y H Q=>∃ l b xs zs,x=.ref l/\y=.ref b/\H l=some (.lst xs)/\H b=some (.lst zs)/\xs.length+zs.length<=sizeLine/\∀ p,H p=none->Q (.ref p) (yN H p (.lst (xs++zs)))
theorem zgn:jL X (binaryOp .Add) rCat:=by
 intro pins s σ H x y v u Q I rx ry h;obtain ⟨l,b,xs,zs,rfl,rfl,hH,hB,hz,q⟩:=h;cases rx;cases ry;obtain ⟨z,its,n,r,hl,e⟩:=I.lstM hH;obtain ⟨z2,its2,n2,r2,hl2,e2⟩:=I.lstM hB;refine PySem.P.add_list e e2 ?_ (by rw [zzS,zzS];omega);have ea:its.toArray++its2.toArray=(its++its2).toArray:=by simp
 rw [ea];exact ⟨.ref _,_,I.lnew (t':=s.toks) (r.append r2) (by rw [zzW];omega),rfl,q _ I.fresh⟩
def rRep:R2:=fun x y H Q=>∃ l k xs,x=.ref l/\y=.int k/\H l=some (.lst xs)/\-(2 ^ 63)<=k/\k<2 ^ 63/\xs.length * k.toNat<=sizeLine /\
 ∀ p,H p=none->Q (.ref p) (yN H p (.lst (List.replicate k.toNat xs).flatten))
theorem zek {α:Type} (xs:List α) (k:Nat):(List.replicate k xs).flatten.length=k * xs.length:=by
 induction k with
 |zero=>simp
 |succ k ih=>rw [List.replicate_succ,List.flatten_cons,zzW,ih,Nat.succ_mul,Nat.add_comm]
theorem zgj:jL X (binaryOp .Mult) rRep:=by
 intro pins s σ H x y v u Q I rx ry h;obtain ⟨l,k,xs,rfl,rfl,hH,h1,h2,hz,q⟩:=h;cases rx;obtain ⟨t,rfl⟩:=ry;obtain ⟨z,its,n,r,hl,e⟩:=I.lstM hH;have hlen:its.toArray.size * k.toNat<=sizeLine:=by rw [zzS,← hl];exact hz
 have hcap:¬ its.toArray.size * k.toNat > (2 ^ 63-1) / 8:=by
  have:(sizeLine:Nat)<=(2 ^ 63-1) / 8:=by decide
  omega
 have hfit:¬ (!Builtin.List.listFitsIndex k)=true:=by
  rw [fitsIndex_both h1 h2];exact zzN
 have hlong:¬ Builtin.List.listTooLong (its.toArray.size * k.toNat)=true:=by
  rw [zcd hlen];exact zzN
 have hnew:List.foldl (fun x1 x2=>x1++x2) #[] (List.replicate (if its.toArray.isEmpty=true then 0 else k.toNat) its.toArray)=(List.replicate k.toNat its).flatten.toArray:=by
  have f0:∀ m:Nat,List.foldl (fun x1 x2=>x1++x2) #[] (List.replicate m its.toArray)=(List.replicate m its).flatten.toArray:=fun m=>by
   have:=nI its m [];rw [List.nil_append] at this;exact this
  rw [f0]
  cases its with
  |nil=>simp
  |cons a r'=>rw [if_neg (by simp)]
 refine wpAny_binaryOp_repeat_ref (T := "list") (U := "int") (by decide) ⟨_,e,rfl⟩ (fun s'=>typeIs_int s' k t) noFill_list_mul F.fills_int_mul F.slot_int_rmul repeat_list F.slot_int_index.lookup
  (call_meets F.slot_int_rmul (typeIs_int s k t) F.entry_int_rmul (F.args_int_rmul_2 _ _) (int___rmul___int_list k t l its.toArray n)
   ⟨e,rfl,⟨_,e,rfl⟩,call_meets F.slot_list_mul ⟨_,e,rfl⟩ F.entry_list_mul (F.args_list_mul_2 _ _) (AutoListH.list___mul___list_int_3 l its.toArray n k t hfit hcap hlong) ⟨e,?_⟩⟩)
 rw [hnew];exact ⟨.ref _,_,I.lnew (t':=s.toks) (r.rep k.toNat) (by rw [zek,Nat.mul_comm];exact hz),rfl,q _ I.fresh⟩
end
section
variable {prog : Program} {w : World} {A : Around} {E : Value → Shared → Prop} {s : Shared}
set_option maxRecDepth 100000 in
end
section
variable {X : Cx}
end
end L2
namespace L2
open PySem PySem.Spec PyProof.Rows
section
variable {κ : Type} [DecidableEq κ]
def qP (kvs:List (κ×V)) (k:κ):Option V:=(kvs.find? fun kv=>decide (kv.1=k)).map (·.2)
def qO (kvs:List (κ×V)) (k:κ) (v:V):List (κ×V) :=
 if (kvs.any fun kv=>decide (kv.1=k))=true then kvs.map (fun kv=>if kv.1=k then (kv.1,v) else kv) else kvs++[(k,v)]
theorem tE {p:κ×V} {r:List (κ×V)} {k:κ} (e:p.1=k):qP (p::r) k=some p.2:=by simp [qP,List.find?_cons,e]
theorem tB {p:κ×V} {r:List (κ×V)} {k:κ} (e:¬ p.1=k):qP (p::r) k=qP r k:=by simp [qP,List.find?_cons,e]
theorem fU (k:κ):∀ kvs:List (κ×V),(kvs.any fun kv=>decide (kv.1=k))=(qP kvs k).isSome
 | []=>rfl
 |p::r=>by
  rw [List.any_cons]
  by_cases e:p.1=k
  .simp only [tE e,decide_eq_true e,Bool.true_or,Option.isSome_some]
  .rw [tB e,decide_eq_false e,Bool.false_or];exact fU k r
theorem qE (kvs:List (κ×V)) (k:κ) (v:V):(qO kvs k v).length<=kvs.length+1:=by
 unfold qO
 split
 .rw [zzM];omega
 .rw [zzW,List.length_cons,List.length_nil];omega
theorem uJ.isSome_eq {o:Option V} {u:Option Value} (r:uJ o u):o.isSome=u.isSome:=by
 cases o with
 |none=>cases u with
  |none=>rfl
  |some _=>exact (show False from r).elim
 |some _=>cases u with
  |none=>exact (show False from r).elim
  |some _=>rfl
theorem KV.val {kvs:List (κ×V)} {vs:List (κ×Value)} (r:KV kvs vs) (k:κ):uJ (qP kvs k) (valueAt vs k):=by
 unfold KV at r
 induction r with
 |nil=>exact True.intro
 | @cons p q ps qs h t ih =>
  obtain ⟨h1,h2⟩:=h
  by_cases e:p.1=k
  .have e':q.1=k:=h1.symm.trans e;have b:valueAt (q::qs) k=some q.2:=by simp [valueAt,List.find?_cons,e']
   rw [tE e,b];exact h2
  .have e':¬ q.1=k:=fun z=>e (h1.trans z);have b:valueAt (q::qs) k=valueAt qs k:=by simp [valueAt,List.find?_cons,e']
   rw [tB e,b];exact ih
theorem KV.any {kvs:List (κ×V)} {vs:List (κ×Value)} (r:KV kvs vs) (k:κ):(kvs.any fun kv=>decide (kv.1=k))=vs.any fun kv=>decide (kv.1=k):=by
 unfold KV at r
 induction r with
 |nil=>rfl
 |cons h t ih=>rw [List.any_cons,List.any_cons,ih,h.1]
theorem KV.repl {kvs:List (κ×V)} {vs:List (κ×Value)} (r:KV kvs vs) (k:κ) {y:V} {u:Value} (ry:zR y u) :
  KV (kvs.map fun kv=>if kv.1=k then (kv.1,y) else kv) (vs.map fun kv=>if kv.1=k then (kv.1,u) else kv):=by
 unfold KV at r ⊢
 induction r with
 |nil=>exact .nil
 | @cons p q ps qs h t ih =>
  rw [zzU,zzU];refine .cons ?_ ih;obtain ⟨h1,h2⟩:=h
  by_cases e:p.1=k
  .rw [if_pos e,if_pos (h1.symm.trans e)];exact ⟨h1,ry⟩
  .rw [if_neg e,if_neg (fun z=>e (h1.trans z))];exact ⟨h1,h2⟩
theorem KV.put {kvs:List (κ×V)} {vs:List (κ×Value)} (r:KV kvs vs) (k:κ) {y:V} {u:Value} (ry:zR y u):KV (qO kvs k y) (stored vs k u):=by
 unfold qO stored;rw [r.any k]
 by_cases e:(vs.any fun kv=>decide (kv.1=k))=true
 .rw [if_pos e,if_pos e];exact r.repl k ry
 .rw [if_neg e,if_neg e];exact Paired.snoc r ⟨rfl,ry⟩
theorem KV.length {kvs:List (κ×V)} {vs:List (κ×Value)} (r:KV kvs vs):kvs.length=vs.length:=Paired.length r
end
theorem nO {P:Program} {w:World} {k:yW} {u:Value} (r:zR (kV k) u):(yE P w).is k u=true:=by
 cases k with
 |inl i=>obtain ⟨t,e⟩:=(show ∃ t,u=Value.int i t from r);subst e;exact dI P w i t
 |inr x=>obtain ⟨t,e⟩:=(show ∃ t,u=Value.str x t from r);subst e;exact dJ P w x t
theorem nM {P:Program} {w:World}:∀ {ks:List yW} {us:List Value},zV (ks.map kV) us->ItemsAre (yE P w) ks us
 | [],_,r=>by rw [zzV] at r;cases r;exact .nil
 |k::ks,_,r=>by
  rw [zzU] at r
  cases r with
  |cons h t=>exact .cons (nO h) (nM t)
abbrev KT (H:Hp):List (List yW×V)->List (List yW×Addr×Value)->Prop:=Paired fun p q=>p.1=q.1/\H q.2.1=some (.tup (p.1.map kV))/\zR p.2 q.2.2
theorem KT.val {H:Hp} {kvs:List (List yW×V)} {xs:List (List yW×Addr×Value)} (r:KT H kvs xs) (k:List yW):uJ (qP kvs k) ((atKey xs k).map (·.2)):=by
 induction r with
 |nil=>exact True.intro
 | @cons p q ps qs h t ih =>
  obtain ⟨h1,_,h2⟩:=h
  by_cases e:p.1=k
  .have e':q.1=k:=h1.symm.trans e;have b:atKey (q::qs) k=some q.2:=by simp [atKey,List.find?_cons,e']
   rw [tE e,b];exact h2
  .have e':¬ q.1=k:=fun z=>e (h1.trans z);have b:atKey (q::qs) k=atKey qs k:=by simp [atKey,List.find?_cons,e']
   rw [tB e,b];exact ih
theorem KT.repl {H:Hp} {kvs:List (List yW×V)} {xs:List (List yW×Addr×Value)} (r:KT H kvs xs) (k:List yW) {y:V} {u:Value} (ry:zR y u) :
  KT H (kvs.map fun kv=>if kv.1=k then (kv.1,y) else kv) (xs.map (putAt k u)):=by
 induction r with
 |nil=>exact .nil
 | @cons p q ps qs h t ih =>
  rw [zzU,zzU];refine .cons ?_ ih;obtain ⟨h1,h2,h3⟩:=h;unfold putAt
  by_cases e:p.1=k
  .rw [if_pos e,if_pos (h1.symm.trans e)];exact ⟨h1,h2,ry⟩
  .rw [if_neg e,if_neg (fun z=>e (h1.trans z))];exact ⟨h1,h2,h3⟩
theorem KT.put {H:Hp} {kvs:List (List yW×V)} {xs:List (List yW×Addr×Value)} (r:KT H kvs xs) (k:List yW) {b:Addr} {y:V} {u:Value} (hb:H b=some (.tup (k.map kV))) (ry:zR y u) :
  KT H (qO kvs k y) (storedH xs k b u):=by
 have e:(kvs.any fun kv=>decide (kv.1=k))=(atKey xs k).isSome:=by
  rw [fU,(r.val k).isSome_eq,Option.isSome_map]
 unfold qO storedH;rw [e]
 by_cases q:(atKey xs k).isSome=true
 .rw [if_pos q,if_pos q];exact r.repl k ry
 .rw [if_neg q,if_neg q];exact Paired.snoc r ⟨rfl,hb,ry⟩
theorem KT.keeps {H H':Hp} {kvs:List (List yW×V)} {xs:List (List yW×Addr×Value)} (r:KT H kvs xs) (ht:∀ b ys,H b=some (.tup ys)->H' b=some (.tup ys)):KT H' kvs xs :=
 Paired.mapP r fun _ _ z=>⟨z.1,ht _ _ z.2.1,z.2.2⟩
section
variable {P : Program} {w : World} {H : Hp} {h : Heap} {a : Addr}
theorem zfS {u:HO} (ok:kR P w H h) (e:Rd H a u):yK P w H h a u:=e.ok ok
theorem rO {kvs:List (yW×V)} (ok:kR P w H h) (e:Rd H a (.dK kvs)):kvs.length<=sizeLine/\(a==sysModules)=false/\∃ vs,KV kvs vs/\h.DictOf (yE P w) a vs :=
 show yK P w H h a (.dK kvs) from zfS ok e
theorem zhc {kvs:List (yW×V)} (ok:kR P w H h) (e:H a=some (.dK kvs)):kvs.length<=sizeLine/\(a==sysModules)=false/\∃ vs,KV kvs vs/\h.DictOf (yE P w) a vs:=rO ok (.inl e)
theorem rX {ks:List yW} (ok:kR P w H h) (e:H a=some (.tup (ks.map kV))):(tupleKind (yE P w)).is h ks a:=by
 obtain ⟨_,its,r,o,h1,h2,n,h3⟩:=(show yK P w H h a (.tup (ks.map kV)) from ok a _ e);exact ⟨o,its.toArray,n,h1,h2,h3,by simpa using nM r⟩
theorem cV {kvs:List (List yW×V)} (ok:kR P w H h) (e:Rd H a (.dT kvs)):kvs.length<=sizeLine/\(a==sysModules)=false /\
  ∃ xs,KT H kvs xs/\h.DictOfH (tupleKind (yE P w)) a xs:=by
 obtain ⟨z,y,xs,r,o,es,ep,h1,h2,h3,h4,h5⟩:=(show yK P w H h a (.dT kvs) from zfS ok e);refine ⟨z,y,xs,r,o,es,ep,h1,h2,h3,h4,fun x hx=>?_,h5⟩
 have all:∀ {l:List (List yW×V)} {m:List (List yW×Addr×Value)},KT H l m->∀ x∈m,(tupleKind (yE P w)).is h x.1 x.2.1:=by
  intro l m q
  induction q with
  |nil=>intro x hx;exact nomatch hx
  | @cons p q ps qs hq t ih =>
   intro x hx;rcases List.mem_cons.mp hx with e|hx
   .subst e;exact rX ok (by rw [← hq.1];exact hq.2.1)
   .exact ih x hx
 exact all r x hx
theorem dt_of {kvs:List (List yW×V)} (ok:kR P w H h) (e:H a=some (.dT kvs)):kvs.length<=sizeLine/\(a==sysModules)=false /\
  ∃ xs,KT H kvs xs/\h.DictOfH (tupleKind (yE P w)) a xs:=cV ok (.inl e)
end
def DGet (H:Hp) (a:Addr) (y:V) (r:Option V):Prop :=
 (∃ kvs k,Rd H a (.dK kvs)/\y=kV k/\r=qP kvs k)\/∃ kvs k b,Rd H a (.dT kvs)/\y=.ref b/\H b=some (.tup (k.map kV))/\r=qP kvs k
def DPut (H:Hp) (a:Addr) (y v:V) (H':Hp):Prop :=
 (∃ kvs k,H a=some (.dK kvs)/\y=kV k/\kvs.length<sizeLine/\H'=yN H a (.dK (qO kvs k v))) \/
 ∃ kvs k b,H a=some (.dT kvs)/\y=.ref b/\H b=some (.tup (k.map kV))/\kvs.length<sizeLine/\H'=yN H a (.dT (qO kvs k v))
section
variable {X : Cx} {pins : List (Addr × Obj)} {σ : St} {H : Hp} {s : Shared} {a : Addr} {y v : V} {u r : Value} {o : Option V} {A : Around} {E : Value → Shared → Prop}
theorem Inv.big (I:Inv X pins σ H s):sysModules<s.heap.objs.size:=by
 have h:mainGlobals<s.heap.objs.size:=(I.mod.glob.keeps I.bk).lt;exact Nat.lt_trans (by decide) h
theorem zbc {Q:Value->Shared->Prop} (hu:A.units+1<cLine) (I:Inv X pins σ H s) (g:DGet H a y (some v)) (ry:zR y u) (h:∀ w' s',Inv X pins σ H s'->zR v w'->Q w' s') :
  wpAny (model X.prog X.w) A (getItem (.ref a) u) Q E s:=by
 rcases g with ⟨kvs,k,e,ey,l⟩|⟨kvs,k,b,e,ey,eb,l⟩
 .subst ey;obtain ⟨z,hd,vs,rel,dd⟩:=rO I.hok e;obtain ⟨w',hw,rw'⟩:=uJ.some_of (v:=v) (o:=valueAt vs k) (by rw [l];exact rel.val k);exact wpAny_getItem_of (nO ry) dd.mapOf hw (h w' _ (I.tok _) rw')
 .subst ey;cases (show u=Value.ref b from ry);obtain ⟨z,hd,xs,rel,dd⟩:=cV I.hok e;obtain ⟨w',hw,rw'⟩:=uJ.some_of (v:=v) (o:=(atKey xs k).map (·.2)) (by rw [l];exact rel.val k);obtain ⟨p,hp,hp2⟩:=Option.map_eq_some_iff.mp hw;refine wpAny_getItem_heap (tupleKind_room_in1 hu) (rX I.hok eb) dd hp ?_;rw [hp2];exact h w' _ (I.tok _) rw'
theorem d_in {Q:Value->Shared->Prop} (hu:A.units+1<cLine) (I:Inv X pins σ H s) (g:DGet H a y o) (ry:zR y u) (h:∀ s',Inv X pins σ H s'->Q (.bool o.isSome) s') :
  wpAny (model X.prog X.w) A (compareOp .In u (.ref a)) Q E s:=by
 rcases g with ⟨kvs,k,e,ey,l⟩|⟨kvs,k,b,e,ey,eb,l⟩
 .subst ey;obtain ⟨z,hd,vs,rel,dd⟩:=rO I.hok e;refine wpAny_in_of (nO ry) hd dd.mapOf ?_;rw [← (rel.val k).isSome_eq,← l];exact h _ (I.tok _)
 .subst ey;cases (show u=Value.ref b from ry);obtain ⟨z,hd,xs,rel,dd⟩:=cV I.hok e;refine wpAny_in_heap (tupleKind_room_in1 hu) (rX I.hok eb) hd dd ?_;have q:=(rel.val k).isSome_eq;rw [Option.isSome_map] at q;rw [← q,← l];exact h _ (I.tok _)
theorem ze5 {Q:Value->Shared->Prop} (hu:A.units+1<cLine) (I:Inv X pins σ H s) (g:DGet H a y o) (ry:zR y u) (h:∀ s',Inv X pins σ H s'->Q (.bool (!o.isSome)) s') :
  wpAny (model X.prog X.w) A (compareOp .NotIn u (.ref a)) Q E s:=by
 rcases g with ⟨kvs,k,e,ey,l⟩|⟨kvs,k,b,e,ey,eb,l⟩
 .subst ey;obtain ⟨z,hd,vs,rel,dd⟩:=rO I.hok e;refine wpAny_notIn_of (nO ry) hd dd.mapOf ?_;rw [← (rel.val k).isSome_eq,← l];exact h _ (I.tok _)
 .subst ey;cases (show u=Value.ref b from ry);obtain ⟨z,hd,xs,rel,dd⟩:=cV I.hok e;refine wpAny_notIn_heap (tupleKind_room_in1 hu) (rX I.hok eb) hd dd ?_;have q:=(rel.val k).isSome_eq;rw [Option.isSome_map] at q;rw [← q,← l];exact h _ (I.tok _)
theorem gT {h':Heap} {t':Nat} {ob:HO} (I:Inv X pins σ H s) (mu:Mut (H a)) (hs:Heap.SameBut a s.heap h') (he:∃ q,h'.get? a=some q) (new:yK X.prog X.w (yN H a ob) h' a ob) (ht:0<t':=by first|exact Nat.succ_pos _|exact L2.Inv.tk (by assumption)|exact L2.Inv.tk ‹L2.Inv _ _ _ _ _› | assumption|omega) :
  Inv X pins σ (yN H a ob) { s with heap:=h',toks:=t' } :=
 I.write (x:=a) (e:=a) mu (.inl rfl) (fun b q hb z=>(hs.2 b hb).trans z) he new
theorem zdq {P:Program} {w:World} {H':Hp} {h':Heap} {kvs:List (yW×V)} {vs:List (yW×Value)} (z:kvs.length<=sizeLine) (hd:(a==sysModules)=false) (rel:KV kvs vs) (dd:h'.DictOf (yE P w) a vs) :
  yK P w H' h' a (.dK kvs):=⟨z,hd,vs,rel,dd⟩
theorem zbb {H':Hp} {Q:Unit->Shared->Prop} (hu:A.units+1<cLine) (I:Inv X pins σ H s) (g:DPut H a y v H') (ry:zR y u) (rv:zR v r) (h:∀ s',Inv X pins σ H' s'->Q () s') :
  wpAny (model X.prog X.w) A (setItem (.ref a) u r) Q E s:=by
 rcases g with ⟨kvs,k,e,ey,l,eH⟩|⟨kvs,k,b,e,ey,eb,l,eH⟩
 .subst ey eH;obtain ⟨z,hd,vs,rel,dd⟩:=zhc I.hok e;have hz:vs.length<=sizeLine:=by rw [← rel.length];exact z
  have hl:(qO kvs k v).length<=sizeLine:=by have:=qE kvs k v;omega
  refine wpAny_setItem_pairs (hsz:=hz) (nO ry) dd fun h' dd' hs=>h _ ?_;have he:∃ q,h'.get? a=some q:=let ⟨q,_,_,hq,_⟩:=dd';⟨q,hq⟩;exact gT I (by rw [e];exact True.intro) hs he (zdq hl hd (rel.put k rv) dd')
 .subst ey eH;cases (show u=Value.ref b from ry);obtain ⟨z,hd,xs,rel,dd⟩:=dt_of I.hok e;have hz:xs.length<=sizeLine:=by rw [← Paired.length rel];exact z
  have hl:(qO kvs k v).length<=sizeLine:=by have:=qE kvs k v;omega
  refine wpAny_setItem_heap (hsz:=hz) (tupleKind_room_in1 hu) (rX I.hok eb) dd fun h' dd' hs=>h _ ?_;obtain ⟨q,es,ep,hq,h2,h3,h4,_,h5⟩:=dd';refine gT I (by rw [e];exact True.intro) hs ⟨q,hq⟩ ⟨hl,hd,_,(rel.put k eb rv).keeps fun c ys ec=>?_,q,es,ep,hq,h2,h3,h4,h5⟩;rw [zU (ne_of ec e (fun z=>nomatch z))];exact ec
end
section
variable {X : Cx} {pins : List (Addr × Obj)} {σ : St} {H : Hp} {s : Shared} {a : Addr} {kvs : List (yW × V)} {k : yW} {u : Value} {A : Around} {E : Value → Shared → Prop}
theorem d_len {Q:Value->Shared->Prop} (I:Inv X pins σ H s) (e:Rd H a (.dK kvs)) (h:∀ t s',Inv X pins σ H s'->Q (.int kvs.length t) s'):wpAny (model X.prog X.w) A (call (.builtin "len") [.ref a]) Q E s:=by
 obtain ⟨z,hd,vs,rel,dd⟩:=rO I.hok e;refine call_len_dict hd dd (by rw [← rel.length];rw [sizeLine_eq] at z;omega) ?_;rw [← rel.length];exact h _ _ (I.tok _)
end
section
variable {X : Cx} {o i e value : Expr} {pos pos' tpos : Pos} {td ty tv : TE}
end
theorem cT {P:Program} {w:World} {H:Hp} (h:Heap) (hb:sysModules<h.objs.size):yK P w H (h.push { cls:=.type "dict", data:=.dict #[] }) h.objs.size (.dK []) :=
 ⟨Nat.zero_le _,beq_eq_false_iff_ne.mpr (Ne.symm (Nat.ne_of_lt hb)),[],.nil,Heap.DictOf.new h⟩
def zfA:TE:=fun _ H Q=>∀ p,H p=none->Q (.ref p) (yN H p (.dK []))
section
variable {X : Cx} {pos : Pos}
theorem zb8:PE X (.Dict [] [] pos) zfA:=fun pins s σ H Q I h =>
 wpAny_Dict_empty ⟨.ref s.heap.objs.size,_,I.laid (a:=s.heap.objs.size) (o:=.dK []) (t':=s.toks) (fun _ _ q=>Heap.get?_push_of_some _ q) (zzR _) (cT s.heap I.big),rfl,h _ (I.hok.fresh (zzR _))⟩
end
def mT:List (TE×TE)->St->Hp->(List (V×V)->Hp->Prop)->Prop
 | [],_,H,Q=>Q [] H
 | (tk,tv)::r,σ,H,Q=>tk σ H fun x H1=>tv σ H1 fun y H2=>mT r σ H2 fun ps H3=>Q ((x,y)::ps) H3
abbrev VV:List (V×V)->List (Value×Value)->Prop:=Paired fun p q=>zR p.1 q.1/\zR p.2 q.2
def PPs (X:Cx) (pos:Pos) (keys:List (Option Expr)) (values:List Expr) (trs:List (TE×TE)):Prop :=
 ∀ (pins:List (Addr×Obj)) (s:Shared) (σ:St) (H:Hp) (Q:List (V×V)->Hp->Prop),Inv X pins σ H s->mT trs σ H Q ->
  wpAny (model X.prog X.w) X.A (evalPairs (pairTrees keys values X.env pos)) (fun vs s'=>∃ ps H',Inv X pins σ H' s'/\VV ps vs/\Q ps H') X.xe s
theorem zdZ {X:Cx} {pos:Pos}:PPs X pos [] [] []:=fun pins s σ H Q I h=>pairTrees_nil_walk ⟨[],H,I,.nil,h⟩
theorem zb3 {X:Cx} {pos:Pos} {k v:Expr} {ks:List (Option Expr)} {vs:List Expr} {tk tv:TE} {trs:List (TE×TE)} (hk:PE X k tk) (hv:PE X v tv) (hr:PPs X pos ks vs trs) :
  PPs X pos (some k::ks) (v::vs) ((tk,tv)::trs):=fun pins s σ H Q I h =>
 pairTrees_cons_walk (yU (hk pins s σ H _ I h) fun u s1 ⟨x,H1,I1,rx,q1⟩=>yU (hv pins s1 σ H1 _ I1 q1) fun w2 s2 ⟨y,H2,I2,ry,q2⟩ =>
  yU (hr pins s2 σ H2 _ I2 q2) fun ws s3 ⟨ps,H3,I3,rel,q3⟩=>⟨(x,y)::ps,H3,I3,.cons ⟨rx,ry⟩ rel,q3⟩)
def uP (kvs wF:List (yW×V)):List (yW×V):=wF.foldl (fun acc kv=>qO acc kv.1 kv.2) kvs
theorem KV.merge:∀ {wF:List (yW×V)} {rs:List (yW×Value)} {kvs:List (yW×V)} {vs:List (yW×Value)},KV wF rs->KV kvs vs->KV (uP kvs wF) (merged vs rs):=by
 intro wF rs kvs vs r;unfold KV at r
 induction r generalizing kvs vs with
 |nil=>intro q;exact q
 | @cons p q ps qs h t ih =>
  intro r0
  have e:KV (qO kvs p.1 p.2) (stored vs q.1 q.2):=by
   have:=r0.put p.1 h.2;rw [← h.1];exact this
  exact ih e
theorem kG:∀ (wF kvs:List (yW×V)),(uP kvs wF).length<=kvs.length+wF.length
 | [],kvs=>by show kvs.length<=kvs.length+0;omega
 |p::r,kvs=>by
  have h1:=kG r (qO kvs p.1 p.2);have h2:=qE kvs p.1 p.2;show (uP (qO kvs p.1 p.2) r).length<=_;rw [List.length_cons];omega
theorem rK {P:Program} {w:World}:∀ {kvs:List (yW×V)} {ws:List (Value×Value)},VV (kvs.map fun kv=>(kV kv.1,kv.2)) ws->∃ rs,Carries (yE P w) ws rs/\KV kvs rs
 | [],_,r=>by rw [zzV] at r;cases r;exact ⟨[],True.intro,.nil⟩
 |p::kvs,_,r=>by
  rw [zzU] at r
  cases r with
  | @cons a b as bs h t =>
   obtain ⟨rs,c,q⟩:=rK (P:=P) (w:=w) t;obtain ⟨b1,b2⟩:=b;exact ⟨(p.1,b2)::rs,⟨nO h.1,rfl,c⟩,.cons ⟨rfl,h.2⟩ q⟩
def tDisp (trs:List (TE×TE)):TE:=fun σ H Q=>∀ p,H p=none->mT trs σ (yN H p (.dK [])) fun ps H2=>H2 p=some (.dK [])/\∃ kvs:List (yW×V),ps=kvs.map (fun kv=>(kV kv.1,kv.2))/\kvs.length<=15/\Q (.ref p) (yN H2 p (.dK (uP [] kvs)))
theorem zd6 {X:Cx} {pos:Pos} {keys:List (Option Expr)} {values:List Expr} {trs:List (TE×TE)} (h:PPs X pos keys values trs) (hall:keys.all (·.isSome)=true) (hl:keys.length=values.length) (h0:keys≠[])
  (h15:keys.length<=15):PE X (.Dict keys values pos) (tDisp trs):=by
 intro pins s σ H Q I q;have hn:=I.hok.fresh (zzR s.heap.objs.size);have I1:=I.laid (a:=s.heap.objs.size) (o:=.dK []) (h':=s.heap.push { cls:=.type "dict", data:=.dict #[] }) (t':=s.toks) (fun _ _ q=>Heap.get?_push_of_some _ q) (zzR _) (cT s.heap I.big);refine wpAny_Dict_walk (knd:=yE X.prog X.w) hall hl h0 h15 (yU (h pins _ σ _ _ I1 (q _ hn)) fun ws s2 ⟨ps,H2,I2,rel,e,kvs,ep,lk,q2⟩=>?_);subst ep;obtain ⟨rs,c,rk⟩:=rK (P:=X.prog) (w:=X.w) rel;obtain ⟨z,hd,vs0,r0,dd⟩:=zhc I2.hok e;cases r0;refine ⟨rs,c,dd,fun h' dd' hs=>⟨.ref s.heap.objs.size,_,?_,rfl,q2⟩⟩
 have hz:(uP [] kvs).length<=sizeLine:=by
  have h1:=kG kvs [];rw [List.length_nil] at h1;rw [sizeLine_eq];omega
 have he:∃ q,h'.get? s.heap.objs.size=some q:=let ⟨q,_,_,hq,_⟩:=dd';⟨q,hq⟩;exact gT I2 (by rw [e];exact True.intro) hs he (zdq hz hd (rk.merge .nil) dd') (Nat.add_pos_left I2.tk _)
def IsD (H:Hp) (a:Addr):Prop:=(∃ kvs,Rd H a (.dK kvs))\/∃ kvs,Rd H a (.dT kvs)
theorem zg1 {X:Cx} {pins:List (Addr×Obj)} {σ:St} {H:Hp} {s:Shared} {a:Addr} (I:Inv X pins σ H s) (d:IsD H a) :
  s.TypeIs (.ref a) "dict" /\ (∀ b,Value.ref a=.ref b->∃ ob,s.heap.get? b=some ob/\ob.dict=none)/\(a==sysModules)=false:=by
 rcases d with ⟨kvs,e⟩|⟨kvs,e⟩
 .obtain ⟨_,hd,vs,_,dd⟩:=rO I.hok e;refine ⟨dd.typeIs,fun b q=>?_,hd⟩;cases q;obtain ⟨ob,_,_,h1,h2,_⟩:=dd;exact ⟨ob,h1,h2.2.1⟩
 .obtain ⟨_,hd,xs,_,dd⟩:=cV I.hok e;refine ⟨dd.typeIs,fun b q=>?_,hd⟩;cases q;obtain ⟨ob,_,_,h1,h2,_⟩:=dd;exact ⟨ob,h1,h2.2.1⟩
section
variable {X : Cx} {pins : List (Addr × Obj)} {σ : St} {H : Hp} {s : Shared} {a : Addr} {y d : V} {u r : Value} {o : Option V} {A : Around} {E : Value → Shared → Prop}
end
section
variable {X : Cx} {o e f : Expr} {apos cpos : Pos} {td ty tx : TE}
end
section
variable {X : Cx} {pins : List (Addr × Obj)} {σ : St} {H : Hp} {s : Shared} {a : Addr} {kvs : List (yW × V)} {A : Around} {E : Value → Shared → Prop}
end
section
variable {X : Cx} {pins : List (Addr × Obj)} {σ : St} {H : Hp} {s : Shared} {a : Addr} {y : V} {u : Value} {A : Around} {E : Value → Shared → Prop}
end
end L2
namespace Att
open PySem PySem.W PySem.Calls PyProof.Rows
theorem tP {P:Params} {h:Heap}:∀ (ns:List Int) (vs:List Value),WellAll P h vs (ns.map WData.int)->IntsAre vs ns:=by
 intro ns
 induction ns with
 |nil =>
  intro vs w;rw [zzV] at w;cases w;exact .nil
 |cons n ns ih =>
  intro vs w;rw [zzU] at w
  cases w with
  |cons a b =>
   cases a;exact .cons _ _ (ih _ b)
theorem zau {l:OpenLaw} {n:Nat} (hn:l.most=some n) {P:Params} {h:Heap} {args:List WData} {vals:List Value}
  (hpre:l.row.toRowW.claim.pre args=true) (hwl:WellAll P h vals args) :
  ∃ a vs ns,vals=[Value.ref a]/\args=[WData.list (ns.map WData.int)]/\h.get? a=some { cls:=.type "list", data:=.seq vs.toArray }/\IntsAre vs ns/\ns.length<=n:=by
 have hsh:WShape.hasAll [] args [.list .int]=true:=(pre_splitW hpre).1;have hc:l.pre.holds [] { args:=args }=true:=(pre_splitW hpre).2;obtain ⟨d,r,rfl,h1,h2⟩:=hasAllW_cons hsh;obtain rfl:=hasAllW_nil h2;obtain ⟨xs,rfl,h3⟩:=hasW_list h1;obtain ⟨ns,rfl⟩:=items_int h3
 have hlen:ns.length<=n:=by
  unfold OpenLaw.pre at hc
  have h4:(WTm.not (.lt (.lit (.int (n:Int))) (.len (.arg 0)))).holds [] { args:=[.list (ns.map .int)] }=true:=by
   have h4:=(holds_andW hc).1;rw [hn] at h4;exact h4
  have h5:=condW_of h4 (w_not (w_lt w_lit (w_len_list (w_arg rfl))));rw [zzM] at h5;refine Nat.le_of_not_lt fun q=>?_;have q':(n:Int)<((ns.length:Nat):Int):=by omega
  first
   | (rw [decide_eq_true q'] at h5;exact absurd h5 (by decide))
   | (simp at h5;omega)
 cases hwl with
 |cons w1 w2 =>
  cases w2
  cases w1 with
  |list ho hall=>exact ⟨_,_,ns,rfl,rfl,ho,tP ns _ hall,hlen⟩
theorem zay (l:OpenLaw) (args:List WData):l.row.toRowW.claim.post args (.bool true) args=true :=
 postW_of (r:=l.row.toRowW) (X:=(true==true))
  (show WShape.has [] (.bool true) .bool=true by first|rfl|decide|simp [WShape.has,WShape.arms,WShape.armsAll])
  (show (WTm.eq .res (.lit (.bool true))).value [] { args:=args,res:=some (.bool true),after:=args }=some (.bool (true==true)) from w_eq_bool (w_res rfl) w_lit) rfl
theorem attach_call {l:OpenLaw} {n:Nat} {q:Program} {loose:List Str} {XP:(Str->Option Value)->Heap->Prop} {YP:World->Heap->Prop} {d:DefRec}
  (hn:l.most=some n) (hdf:d.params.defaults=[])
  (call:∀ (w:World) (s₀ s₁:Shared) (mg mb:Str->Option Value) (fa:Addr) (o:Obj) (pm cd doc:Value) (a:Addr) (vs:List Value) (ns:List Int),
   Ground q loose [] XP w s₀ mg mb s₁.heap->YP w s₁.heap ->
   s₁.heap.get? fa=some o->o.data=.func (docDef d.name d.params d.body d.scope pm cd doc)->s₁.heap.CodeRec cd d.name->mg d.name=some (.ref fa) ->
   s₁.heap.get? a=some { cls:=.type "list", data:=.seq vs.toArray }->IntsAre vs ns->ns.length<=n->s₁.gens=#[] ->
   codeAny (model l.prog w) callerA (.call (.ref fa) ⟨[.ref a],[]⟩) (fun r s'=>r=.ok (.ret (.bool true))/\OldK s₁.heap s'.heap/\s'.os=s₁.os/\AllBare s'.gens) s₁) :
  WalkO q loose XP YP l.row.toRowW d [] (fun f vs=>PySem.call f vs):=by
 intro w s₀ s₁ mg mb G Y fa o pm cd doc dV kV ho hd hcd hD hmg hg args vals as hpre hlay hrd hwl hlo;obtain rfl:dV=.none:=Dflts.none hD hdf;obtain rfl:kV=.none:=Dflts.noKw hD;obtain ⟨a,vs,ns,rfl,rfl,hobj,hints,hlen⟩:=zau hn hpre hwl;refine enter_call (codeAny_mono (call w s₀ s₁ mg mb fa o pm cd doc a vs ns G Y ho (fd_plain hd) hcd hmg hobj hints hlen hg) fun r s' hq=>?_);obtain ⟨rfl,h2,h3,h4⟩:=hq;exact ⟨.inl ⟨.bool true,.bool true,[],rfl,fun _=>rfl,.bool true,zay l _,fun _=>⟨List.Pairwise.nil,fun _ hm=>(nomatch hm)⟩⟩,h2,h3,h4⟩
section
variable {prog : Program} {w : World} {A : Around} {E : Value → Shared → Prop} {s : Shared} {K : Frag}
end
end Att
namespace L2
open PySem PySem.Spec PyProof.Rows
theorem kZ:∀ {vs:List Value} {ns:List Int},IntsAre vs ns->zV (ns.map V.int) vs
 |_,_,.nil=>.nil
 |_,_,.cons n t h=>.cons ⟨t,rfl⟩ (kZ h)
def Only (H:Hp):Prop:=∀ b,H b=none\/∃ o xs,H b=some (.frz o (.lst xs))
theorem zcp {P:Program} {w:World} {K:PySem.W.Frag} {mg mb:Str->Option Value} {CX:CXT} {k:Nat} {fa a:Addr} {fd:FuncData} {x:Str} {sp:Sp} {s₁:Shared} {vs:List Value} {ns:List Int}
  (KX:K.In s₁.heap) (hns:s₁.heap.Ns mainGlobals mg) (hb:s₁.heap.Ns builtinsNs mb) (hbb:∀ x:Str,x ≠ "__name__" -> mb x=bootBuiltins x) (hlim:s₁.heap.NoLimit) (hg:s₁.gens=#[])
  (ha:s₁.heap.get? a=some { cls:=.type "list", data:=.seq vs.toArray }) (hi:IntsAre vs ns) (hl:ns.length<=sizeLine) (hr:Room k callerA)
  (F:∀ base:Heap,K.In base->base.Ns mainGlobals mg->FnOk P w K mg base CX k fa fd [x] sp) (hbind:∀ (s:Shared) (u:Value),BindsTo s fd ⟨[u],[]⟩ [(x,u)])
  (hsp:∀ H:Hp,Only H->tW K H a (ns.map V.int)->sp [.ref a] H (fun v _=>v=.bl true) fun _ _ _=>False)
  (hCX:∀ H e s',CX [] H s₁ (fun _ _ _=>False) e s'->False) (hx:fd.scope.names.lookup x=some .local) :
  codeAny (model P w) callerA (.call (.ref fa) ⟨[.ref a],[]⟩) (fun r s'=>r=.ok (.ret (.bool true))/\OldK s₁.heap s'.heap/\s'.os=s₁.os/\AllBare s'.gens) s₁:=by
 have rv:=kZ hi;have lenV:=hi.length
 have core:∀ H:Hp,Only H->tW K H a (ns.map V.int)->kR P w H s₁.heap->(∀ b,H b≠none->b=a)->(H a≠none->K.lookup a=none) ->
   codeAny (model P w) callerA (.call (.ref fa) ⟨[.ref a],[]⟩) (fun r s'=>r=.ok (.ret (.bool true))/\OldK s₁.heap s'.heap/\s'.os=s₁.os/\AllBare s'.gens) s₁:=by
  intro H hO hS hok hA hK;have base_of:∀ {b:Addr} {o:Obj},s₁.heap.get? b=some o->H b=none->(gW s₁.heap H).get? b=some o:=fun e n=>zcA e n
  have noA:∀ {b:Addr} {o:Obj} {es:Array DictEntry} {ep:Nat},s₁.heap.get? b=some o->o.data=.dict es ep->H b=none:=fun {b o es ep} e d=>by
   cases q:H b with
   |none=>rfl
   |some u =>
    have e':b=a:=hA b (by rw [q];simp);subst e';rw [ha] at e;cases e;have d':Data.seq vs.toArray _=Data.dict es ep:=d;cases d'
  have nsK:∀ {b:Addr} {m:Str->Option Value},s₁.heap.Ns b m->(gW s₁.heap H).Ns b m:=fun {b m} ⟨o,es,ep,e,d,r⟩=>⟨o,es,ep,base_of e (noA e d),d,r⟩
  have hKb:K.In (gW s₁.heap H):=fun b o e=>base_of (KX b o e) (by
   cases q:H b with
   |none=>rfl
   |some u =>
    have e':b=a:=hA b (by rw [q];simp);subst e';rw [hK (by rw [q];simp)] at e;cases e)
  have hM:Mod K mg (gW s₁.heap H):=⟨hKb,nsK hns,⟨mb,nsK hb,hbb⟩,let ⟨mc,h1,h2⟩:=hlim;⟨mc,nsK h1,h2⟩⟩;have e0:Env0 P w K mg (gW s₁.heap H) callerA [] { s₁ with toks:=1 } H:=⟨rfl,hM,fun b o e=>zef e,Nat.le_of_eq (zaW _ _),trivial,fun b hb=>absurd (show b∈([]:List Addr) from hb) (by simp),hok,.of_eq hg,Nat.one_pos⟩;refine codeAny_mono ((F _ hKb (nsK hns)).one x rfl hx callerA [] s₁ H ⟨[.ref a],[]⟩ [.ref a] [.ref a] _ _ hr e0 (hbind s₁ (.ref a)) (.cons rfl .nil) (hsp H hO hS)) fun r s' h=>?_
  cases r with
  |error e=>exact (hCX H e s' h).elim
  |ok fl =>
   cases fl with
   |next=>exact False.elim h
   |brk=>exact False.elim h
   |cont=>exact False.elim h
   |ret u =>
    obtain ⟨v,H',os,_,bare,un,hok',r',q⟩:=h;have q':v=.bl true:=q;subst q';obtain rfl:u=Value.bool true:=r';refine ⟨rfl,OldK.of_keep fun b o e=>?_,os,bare⟩
    cases q:H b with
    |none=>exact un.keep b o e q (by intro z;exact absurd (show b∈([]:List Addr) from z) (by simp)) (by simp)
    |some u =>
     rcases hO b with z|⟨ob,xs,z⟩
     .rw [q] at z;cases z
     .have z2:=un.frzs b ob _ z;obtain ⟨e1,_⟩:=hok b _ z;obtain ⟨e2,_⟩:=hok' b _ z2;rw [e] at e1;cases e1;exact e2
 cases hk:K.lookup a with
 |some o =>
  have e:=KX a o hk;rw [ha] at e;cases e;refine core (fun _=>none) (fun _=>.inl rfl) (.inr ⟨_,vs.toArray,_,hk,rfl,rfl,rfl,by rw [zzS,lenV];exact hl,by simpa using rv⟩) (fun b u z=>by have z':(none:Option HO)=some u:=z;cases z') (fun b z=>absurd rfl z) fun z=>absurd rfl z
 |none =>
  refine core (fun b=>if b=a then some (.frz { cls:=.type "list", data:=.seq vs.toArray } (.lst (ns.map V.int))) else none) (fun b=>?_) (.inl (.inr ⟨{ cls:=.type "list", data:=.seq vs.toArray },if_pos rfl⟩)) (fun b u z=>?_) (fun b z=>?_) fun _=>hk
  .by_cases hb:b=a
   .exact .inr ⟨_,_,if_pos hb⟩
   .exact .inl (if_neg hb)
  .by_cases hb:b=a
   .have z':=(if_pos hb).symm.trans z;cases z';subst hb;exact ⟨ha,by rw [zzM];exact hl,vs,_,rv,ha⟩
   .have z':=(if_neg hb).symm.trans z;cases z'
  .by_cases hb:b=a
   .exact hb
   .exact absurd (if_neg hb) z
end L2
namespace L2
open PySem PySem.Spec PyProof.Rows
abbrev KOf {K:PySem.W.Frag} {h:Heap} (_:K.In h):PySem.W.Frag:=K
theorem walk_of {l:PySem.W.OpenLaw} {n k:Nat} {q:Program} {loose:List Str} {XP:(Str->Option Value)->Heap->Prop} {YP:World->Heap->Prop} {d:DefRec} {K:Params->PySem.W.Frag} {CX:World->CXT} {sp:World->Sp} {x:Str}
  (hn:l.most=some n) (hn2:n<=sizeLine) (hdf:d.params.defaults=[]) (hr:Room k callerA)
  (hY:∀ (w:World) (h:Heap),YP w h->(K w.params).In h)
  (F:∀ (w:World) (mg:Str->Option Value) (fa:Addr) (h:Heap),(K w.params).In h->h.Ns mainGlobals mg->mg d.name=some (.ref fa) ->
   ∃ fd:FuncData,(∀ (s:Shared) (u:Value),BindsTo s fd ⟨[u],[]⟩ [(x,u)])/\fd.scope.names.lookup x=some .local /\
    ∀ base:Heap,(K w.params).In base->base.Ns mainGlobals mg->FnOk l.prog w (K w.params) mg base (CX w) k fa fd [x] (sp w))
  (hsp:∀ (w:World) (H:Hp) (a:Addr) (ns:List Int),ns.length<=n->Only H->tW (K w.params) H a (ns.map V.int)->sp w [.ref a] H (fun v _=>v=.bl true) fun _ _ _=>False)
  (hCX:∀ (w:World) (H:Hp) (s:Shared) (e:Value) (s':Shared),CX w [] H s (fun _ _ _=>False) e s'->False) :
  PySem.W.WalkO q loose XP YP l.row.toRowW d [] (fun f vs=>PySem.call f vs):=by
 refine Att.attach_call hn hdf fun w s₀ s₁ mg mb fa o pm cd doc a vs ns G Y ho hd hcd hmg hobj hints hlen hg=>?_;have KX:=hY w _ Y;obtain ⟨fd,hb,hx,hF⟩:=F w mg fa _ KX G.T.g hmg;exact zcp KX G.T.g G.T.b G.T.builtins G.T.nolimit hg hobj hints (Nat.le_trans hlen hn2) hr hF hb (fun H hO hS=>hsp w H a ns hlen hO hS) (fun H e s'=>hCX w H s₁ e s') hx
end L2
/- THE LAST THEOREM (shape;LID,My.* are yours):
   My.Adr: a structure of the addresses that your layer names (classes,functions);My.Txt K t: a structure (Prop) of the equations over K;
   My.txt_mk:{K} {implicit addresses ..} (e1:nsIn K mainGlobals "law" = some (some (.ref f))) (e2:K.lookup f=some ⟨oc,od,.func (fnOf "law" "law" params body scope dV kV doc pm an cdv ct),sl⟩) (e3:codeIn K cdv "law" = true) ..:∃ t,My.Txt K t
set_option maxRecDepth 100000 in
set_option maxHeartbeats 0 in
theorem PySem.Challenge.cw_LID_holds : PySem.Challenge.rw_LID.Holds := by
 w_on;o_law;k_head;(case hw=>w_witness2)
 k_fill
 refine L2.walk_of (l:=PySem.Challenge.rw_LID) (n:=63) (k:=40) (x := "script") (CX:=fun w=>..) (sp:=fun _=>My.sp_law) rfl (by decide) rfl ⟨rfl,by decide,by decide⟩ (fun w h Y=>PySem.W.kIn_of Y) ?F ?S ?C
 case F =>
  intro w mg fa h KX G hmg
  have T:∃ t,My.Txt (L2.KOf KX) t:=by
   dsimp only [L2.KOf]                          -- K must stand as «<heap const> w.params» for k_is;refine' My.txt_mk ?e1 ?e2 ?e3 ..
   (case e1=>PySem.W.k_is)                    -- in the order: a name -> its address -> its object -> its parts
   (case e2=>PySem.W.k_is)
   ..
  obtain ⟨t,T⟩:=T;have e0:=hmg.symm.trans (PySem.W.mg_of KX G T.law);cases e0                                       -- fa is the law's own address;exact ⟨_,fun s u=>.of_eq rfl,fun base kb nb=>My.law_fn T kb nb⟩     -- if «.of_eq rfl» comes too early: refine' ⟨_,?b,fun base kb nb=>My.law_fn T kb nb⟩;exact fun s u=>.of_eq rfl
 case S=>exact fun w H a ns hl hO hS=>..
 case C=>exact ..
(the tactic k_is has no namespace: write k_is) -/
namespace L2
open PySem PySem.Spec PyProof.Rows
def zeD (s:Stmt) (j:Nat):Stmt:=match s with
 | .ClassDef _ _ _ body _ _ _ _ _ _ _=>body.getD j (.Pass ⟨0,0,0,0⟩)
 |_=>.Pass ⟨0,0,0,0⟩
def yO (s:Stmt):Arguments:=match s with
 | .FunctionDef _ a _ _ _ _ _ _ _ _=>a
 |_=>{ posonlyargs:=[],args:=[],vararg:=none,kwonlyargs:=[],kw_defaults:=[],kwarg:=none,defaults:=[] }
def zQ (s:Stmt):List Stmt:=match s with
 | .FunctionDef _ _ b _ _ _ _ _ _ _=>b
 |_=>[]
def zZ (s:Stmt):Scope:=match s with
 | .FunctionDef _ _ _ _ _ _ sc _ _ _=>sc
 |_=>{ kind:=.function,names:=[],isGenerator:=false,isCoroutine:=false }
abbrev CX0:CXT:=fun _ _ _ _ _ _=>False
abbrev E0:XK:=fun _ _ _=>False
theorem zcc {X:Cx}:vR CX0 X E0:=fun _ _ _ _ _ _ _ h=>h.elim
section
variable {P : Program} {w : World} {K : PySem.W.Frag} {mg : Str → Option Value} {base : Heap}
end
section
variable {X : Cx}
end
section
variable {κ : Type} [DecidableEq κ]
end
end L2
namespace L3
open PySem PySem.Spec PyProof.Rows L2
inductive W where
 |non|bl (b:Bool)|int (i:Int)|str (x:Str)|ty (n:String)|ref (a:Addr)|tup (ws:List W)|lsf (ws:List W)
  |exc (C:Addr) (ns:List Str) (ws:List W)|dcf (ks:List Str) (ws:List W)
abbrev zE:=PySem.W.Frag
def KL (K:zE) (a:Addr) (xs:List V):Prop:=∃ (o:Obj) (its:Array Value) (n:Nat),K.lookup a=some o/\o.cls=.type "list" /\ o.dict=none/\o.data=.seq its n/\its.size<=sizeLine/\zV xs its.toList
def zcX:List DictEntry->List Str->List V->Prop
 | [],ks,vs=>ks=[]/\vs=[]
 |e::r,ks,vs=>∃ k t v ks' vs',ks=k::ks'/\vs=v::vs'/\e.key=.str k t/\zR v e.val/\zcX r ks' vs'
def KD (K:zE) (a:Addr) (ks:List Str) (vs:List V):Prop:=∃ (o:Obj) (es:Array DictEntry) (ep:Nat),K.lookup a=some o/\o.ExactDict/\o.data=.dict es ep/\es.size<=sizeLine/\(a==sysModules)=false/\zcX es.toList ks vs
def ExO (a C:Addr) (dx:Option Addr):Heap->Prop:=fun h=>∃ fs,h.get? a=some { cls:=.ref C,dict:=dx,data:=.fields fs }
def ExAt (H:Hp) (a C:Addr) (l:List (Str×V)):Prop:=(H a=some (.ext (ExO a C none))/\l=[])\/∃ dx,H a=some (.ext (ExO a C (some dx)))/\H dx=some (.xd l)
def isX:HO->Prop
 | .ext _=>True
 | .frz _ (.dK _)=>True
 | .xd _=>True
 |_=>False
mutual
def yA (K:zE) (H:Hp):W->V->Prop
 | .non,v=>v=.non
 | .bl b,v=>v=.bl b
 | .int i,v=>v=.int i
 | .str x,v=>v=.str x
 | .ty n,v=>v=.ty n
 | .ref a,v=>v=.ref a
 | .tup ws,v=>∃ a vs,v=.ref a/\uW K H a vs/\zX K H ws vs
 | .lsf ws,v=>∃ a vs,v=.ref a/\KL K a vs/\zX K H ws vs
 | .exc C ns ws,v=>∃ a vs,v=.ref a/\ExAt H a C (ns.zip vs)/\zX K H ws vs
 | .dcf ks ws,v=>∃ a vs,v=.ref a/\KD K a ks vs/\zX K H ws vs
def zX (K:zE) (H:Hp):List W->List V->Prop
 | [],vs=>vs=[]
 |w::ws,vs=>∃ v r,vs=v::r/\yA K H w v/\zX K H ws r
end
def zB (K:zE) (H H':Hp):Prop:=(∀ a xs,uW K H a xs->uW K H' a xs)/\∀ a o,isX o->H a=some o->H' a=some o
theorem zB.refl {K:zE} {H:Hp}:zB K H H:=⟨fun _ _ h=>h,fun _ _ _ h=>h⟩
theorem zB.trans {K:zE} {H H1 H2:Hp} (a:zB K H H1) (b:zB K H1 H2):zB K H H2:=⟨fun x xs h=>b.1 x xs (a.1 x xs h),fun x o i h=>b.2 x o i (a.2 x o i h)⟩
theorem ExAt.mono {K:zE} {H H':Hp} (g:zB K H H') {a C:Addr} {l:List (Str×V)} (h:ExAt H a C l):ExAt H' a C l:=by
 rcases h with ⟨h,e⟩|⟨dx,h,h'⟩
 .exact .inl ⟨g.2 _ _ True.intro h,e⟩
 .exact .inr ⟨dx,g.2 _ _ True.intro h,g.2 _ _ True.intro h'⟩
section
variable {K : zE} {H H' : Hp}
mutual
theorem yA.mono (g:zB K H H'):∀ {w:W} {v:V},yA K H w v->yA K H' w v
 | .non,_,h=>h
 | .bl _,_,h=>h
 | .int _,_,h=>h
 | .str _,_,h=>h
 | .ty _,_,h=>h
 | .ref _,_,h=>h
 | .tup _,_,⟨a,vs,e,s,r⟩=>⟨a,vs,e,g.1 a vs s,zX.mono g r⟩
 | .lsf _,_,⟨a,vs,e,s,r⟩=>⟨a,vs,e,s,zX.mono g r⟩
 | .exc _ _ _,_,⟨a,vs,e,s,r⟩=>⟨a,vs,e,s.mono g,zX.mono g r⟩
 | .dcf _ _,_,⟨a,vs,e,s,r⟩=>⟨a,vs,e,s,zX.mono g r⟩
theorem zX.mono (g:zB K H H'):∀ {ws:List W} {vs:List V},zX K H ws vs->zX K H' ws vs
 | [],_,h=>h
 |_::_,_,⟨v,r,e,h,t⟩=>⟨v,r,e,yA.mono g h,zX.mono g t⟩
end
theorem zX.length:∀ {ws:List W} {vs:List V},zX K H ws vs->vs.length=ws.length
 | [],_,h=>by rw [show _=[] from h];rfl
 |_::_,_,⟨v,r,e,_,t⟩=>by rw [e,List.length_cons,List.length_cons,zX.length t]
theorem zX.append:∀ {ws:List W} {vs:List V} {ws':List W} {vs':List V},zX K H ws vs->zX K H ws' vs'->zX K H (ws++ws') (vs++vs')
 | [],_,_,_,h,h'=>by rw [show _=[] from h];exact h'
 |_::_,_,_,_,⟨v,r,e,h,t⟩,h'=>by rw [e];exact ⟨v,_,rfl,h,zX.append t h'⟩
theorem zX.get:∀ {ws:List W} {vs:List V} {i:Nat} {w:W},zX K H ws vs->ws[i]?=some w->∃ v,vs[i]?=some v/\yA K H w v
 | [],_,_,_,_,e=>by simp at e
 |_::_,_,0,_,⟨v,r,e,h,t⟩,q=>by simp at q;subst q;subst e;exact ⟨v,rfl,h⟩
 |_::_,_,i+1,w,⟨v,r,e,h,t⟩,q=>by
  subst e;obtain ⟨u,h1,h2⟩:=zX.get (i:=i) (w:=w) t (by simpa using q);exact ⟨u,by simpa using h1,h2⟩
theorem zX.get':∀ {ws:List W} {vs:List V} {i:Nat} {v:V},zX K H ws vs->vs[i]?=some v->∃ w,ws[i]?=some w/\yA K H w v
 | [],_,_,_,h,e=>by rw [show _=[] from h] at e;simp at e
 |_::_,_,0,_,⟨v,r,e,h,t⟩,q=>by subst e;simp at q;subst q;exact ⟨_,rfl,h⟩
 |_::_,_,i+1,w,⟨v,r,e,h,t⟩,q=>by
  subst e;obtain ⟨u,h1,h2⟩:=zX.get' (i:=i) (v:=w) t (by simpa using q);exact ⟨u,by simpa using h1,h2⟩
theorem zX.set {w:W} {v:V} (q:yA K H w v):∀ {ws:List W} {vs:List V} (i:Nat),zX K H ws vs->zX K H (ws.set i w) (vs.set i v)
 | [],_,_,h=>by rw [show _=[] from h];rfl
 |_::_,_,0,⟨_,r,e,_,t⟩=>by rw [e];exact ⟨_,_,rfl,q,t⟩
 |_::_,_,i+1,⟨v,r,e,h,t⟩=>by rw [e];exact ⟨_,_,rfl,h,zX.set q i t⟩
theorem zX.take:∀ {ws:List W} {vs:List V} (n:Nat),zX K H ws vs->zX K H (ws.take n) (vs.take n)
 | [],_,_,h=>by rw [show _=[] from h];simp;rfl
 |_::_,_,0,_=>by simp;rfl
 |_::_,_,n+1,⟨v,r,e,h,t⟩=>by rw [e];exact ⟨_,_,rfl,h,zX.take n t⟩
theorem zX.drop:∀ {ws:List W} {vs:List V} (n:Nat),zX K H ws vs->zX K H (ws.drop n) (vs.drop n)
 | [],_,_,h=>by rw [show _=[] from h];simp;rfl
 |_::_,_,0,h=>h
 |_::_,_,n+1,⟨v,r,e,h,t⟩=>by rw [e];exact zX.drop n t
theorem zX.reverse:∀ {ws:List W} {vs:List V},zX K H ws vs->zX K H ws.reverse vs.reverse
 | [],_,h=>by rw [show _=[] from h];rfl
 |_::_,_,⟨v,r,e,h,t⟩=>by
  rw [e,List.reverse_cons,List.reverse_cons];exact zX.append (zX.reverse t) ⟨v,[],rfl,h,rfl⟩
theorem zX.dropLast {ws:List W} {vs:List V} (h:zX K H ws vs):zX K H ws.dropLast vs.dropLast:=by
 rw [List.dropLast_eq_take,List.dropLast_eq_take,h.length];exact h.take _
end
inductive O where
 |lst (ws:List W)
  |fix (ws:List W)
 |dic (kvs:List (yW×W))
 |ins (C:Addr) (fs:List (Str×W))
  |fzd (kvs:List (yW×W))
def isFz:O->Bool
 | .fzd _=>true
 |_=>false
abbrev Hw:=Addr->Option O
def put (G:Hw) (a:Addr) (o:O):Hw:=fun b=>if b=a then some o else G b
theorem zW {G:Hw} {a:Addr} {o:O}:put G a o a=some o:=by unfold put;rw [if_pos rfl]
theorem yD {G:Hw} {a b:Addr} {o:O} (h:b≠a):put G a o b=G b:=by unfold put;rw [if_neg h]
theorem mD {G:Hw} {a:Addr} {o u:O}:put (put G a o) a u=put G a u:=by
 funext b;unfold put;split<;>rfl
theorem qD {G:Hw} {a b:Addr} {o:O} (h:G a=some o) (h':G b=none):a≠b:=by
 intro e;subst e;rw [h] at h';cases h'
def zK (K:zE) (H:Hp) {κ:Type}:List (κ×W)->List (κ×V)->Prop
 | [],l=>l=[]
 |p::r,l=>∃ v t,l=(p.1,v)::t/\yA K H p.2 v/\zK K H r t
def pL (K:zE) (H:Hp):O->HO->Prop
 | .lst ws,o=>∃ vs,o=.lst vs/\zX K H ws vs
 | .fix ws,o=>∃ vs ob,(o=.lst vs\/o=.frz ob (.lst vs))/\zX K H ws vs
 | .dic kvs,o=>∃ l,o=.dK l/\zK K H kvs l
 | .ins C fs,o=>∃ dx l,o=.ins C dx l/\zK K H fs l
 | .fzd kvs,o=>∃ ob l,o=.frz ob (.dK l)/\zK K H kvs l
def yF (K:zE) (H:Hp) (G:Hw):Prop:=∀ a o,G a=some o->∃ u,H a=some u/\pL K H o u
theorem zK.mono {K:zE} {H H':Hp} (g:zB K H H') {κ:Type}:∀ {l:List (κ×W)} {l':List (κ×V)},zK K H l l'->zK K H' l l'
 | [],_,h=>h
 |_::_,_,⟨v,t,e,h,r⟩=>⟨v,t,e,h.mono g,zK.mono g r⟩
theorem pL.mono {K:zE} {H H':Hp} (g:zB K H H'):∀ {o:O} {u:HO},pL K H o u->pL K H' o u
 | .lst _,_,⟨vs,e,r⟩=>⟨vs,e,r.mono g⟩
 | .fix _,_,⟨vs,ob,e,r⟩=>⟨vs,ob,e,r.mono g⟩
 | .dic _,_,⟨l,e,r⟩=>⟨l,e,r.mono g⟩
 | .ins _ _,_,⟨dx,l,e,r⟩=>⟨dx,l,e,r.mono g⟩
 | .fzd _,_,⟨ob,l,e,r⟩=>⟨ob,l,e,r.mono g⟩
theorem pL.notX {K:zE} {H:Hp}:∀ {o:O} {u:HO},isFz o=false->pL K H o u->¬ isX u
 | .lst _,_,_,⟨vs,e,r⟩=>by subst e;exact id
 | .fix _,_,_,⟨vs,ob,e,r⟩=>by rcases e with e|e<;>subst e<;>exact id
 | .dic _,_,_,⟨l,e,r⟩=>by subst e;exact id
 | .ins _ _,_,_,⟨dx,l,e,r⟩=>by subst e;exact id
 | .fzd _,_,m,_=>nomatch m
theorem pL.notTup {K:zE} {H:Hp}:∀ {o:O} {u:HO},pL K H o u->(∀ xs,u≠.tup xs)/\∀ ob xs,u≠.frz ob (.tup xs)
 | .lst _,_,⟨vs,e,r⟩=>by subst e;exact ⟨(fun _ z=>nomatch z),(fun _ _ z=>nomatch z)⟩
 | .fix _,_,⟨vs,ob,e,r⟩=>by
  rcases e with e|e<;>subst e
  .exact ⟨(fun _ z=>nomatch z),(fun _ _ z=>nomatch z)⟩
  .exact ⟨(fun _ z=>nomatch z),(fun _ _ z=>nomatch z)⟩
 | .dic _,_,⟨l,e,r⟩=>by subst e;exact ⟨(fun _ z=>nomatch z),(fun _ _ z=>nomatch z)⟩
 | .ins _ _,_,⟨dx,l,e,r⟩=>by subst e;exact ⟨(fun _ z=>nomatch z),(fun _ _ z=>nomatch z)⟩
 | .fzd _,_,⟨ob,l,e,r⟩=>by subst e;exact ⟨(fun _ z=>nomatch z),(fun _ _ z=>nomatch z)⟩
section
variable {K : zE} {H H' : Hp} {G : Hw} {a : Addr}
theorem yF.free (h:yF K H G) (e:H a=none):G a=none:=by
 cases q:G a with
 |none=>rfl
 |some o =>
  obtain ⟨u,e',_⟩:=h a o q;rw [e] at e';cases e'
theorem dB {u:HO} (h:∀ xs,¬ Rd H a (.tup xs)) (hx:∀ o,isX o->H a≠some o):zB K H (yN H a u):=⟨fun b xs s=>by
 rcases s with s|s
 .have hb:b≠a:=by rintro rfl;exact h xs s
  left
  rcases s with s|⟨o,s⟩
  .exact .inl (by rw [zU hb];exact s)
  .exact .inr ⟨o,by rw [zU hb];exact s⟩
 .exact .inr s,fun b o i s=>by
 have hb:b≠a:=by rintro rfl;exact hx o i s
 rw [zU hb];exact s⟩
theorem yH {u:HO} (h:H a=none):zB K H (yN H a u):=dB (fun xs s=>by
 rcases s with s|⟨o,s⟩<;>(rw [h] at s;cases s)) (fun o _ s=>by rw [h] at s;cases s)
theorem yF.grow {o:O} {u:HO} (h:yF K H G) (e:G a=some o) (m:isFz o=false:=by rfl):zB K H (yN H a u):=by
 obtain ⟨u',e',r⟩:=h a o e;refine dB (fun xs s=>?_) (fun o' i s=>?_)
 .rcases s with s|⟨ob,s⟩
  .rw [e'] at s;cases s;exact r.notTup.1 xs rfl
  .rw [e'] at s;cases s;exact r.notTup.2 ob xs rfl
 .rw [e'] at s;cases s;exact r.notX m i
theorem yF.new {o:O} {u:HO} (h:yF K H G) (e:H a=none) (r:pL K (yN H a u) o u):yF K (yN H a u) (put G a o):=fun b ob q=>by
 by_cases hb:b=a
 .subst hb;rw [zW] at q;cases q;exact ⟨u,xZ,r⟩
 .rw [yD hb] at q;obtain ⟨u',e',r'⟩:=h b ob q;exact ⟨u',by rw [zU hb];exact e',r'.mono (yH e)⟩
theorem yF.tup {u:HO} (h:yF K H G) (e:H a=none):yF K (yN H a u) G:=fun b ob q=>by
 obtain ⟨u',e',r'⟩:=h b ob q;exact ⟨u',by rw [zU (zH e' e)];exact e',r'.mono (yH e)⟩
theorem yF.chg {o o':O} {u:HO} (h:yF K H G) (e:G a=some o') (r:pL K (yN H a u) o u) (m:isFz o'=false:=by rfl):yF K (yN H a u) (put G a o):=fun b ob q=>by
 by_cases hb:b=a
 .subst hb;rw [zW] at q;cases q;exact ⟨u,xZ,r⟩
 .rw [yD hb] at q;obtain ⟨u',e',r'⟩:=h b ob q;exact ⟨u',by rw [zU hb];exact e',r'.mono (h.grow e m)⟩
theorem yF.lst {ws:List W} (h:yF K H G) (e:G a=some (.lst ws)):∃ vs,H a=some (.lst vs)/\zX K H ws vs:=by
 obtain ⟨u,e',vs,rfl,r⟩:=h a _ e;exact ⟨vs,e',r⟩
theorem yF.dic {kvs:List (yW×W)} (h:yF K H G) (e:G a=some (.dic kvs)):∃ l,H a=some (.dK l)/\zK K H kvs l:=by
 obtain ⟨u,e',vs,rfl,r⟩:=h a _ e;exact ⟨vs,e',r⟩
theorem yF.ins {C:Addr} {fs:List (Str×W)} (h:yF K H G) (e:G a=some (.ins C fs)):∃ dx l,H a=some (.ins C dx l)/\zK K H fs l:=by
 obtain ⟨u,e',dx,vs,rfl,r⟩:=h a _ e;exact ⟨dx,vs,e',r⟩
end
def zI (G:Hw) (a:Addr):Option (List W):=match G a with
 |some (.lst ws)=>some ws
 |some (.fix ws)=>some ws
 |_=>none
theorem yF.seq {K:zE} {H:Hp} {G:Hw} {a:Addr} {ws:List W} (h:yF K H G) (e:zI G a=some ws):∃ vs,tW K H a vs/\zX K H ws vs:=by
 unfold zI at e
 split at e
 .rename_i q;cases e;obtain ⟨vs,e',r⟩:=h.lst q;exact ⟨vs,.of e',r⟩
 .rename_i q;cases e;obtain ⟨u,e',vs,ob,z,r⟩:=h a _ q;refine ⟨vs,?_,r⟩;rcases z with rfl|rfl
  .exact .inl (.inl e')
  .exact .inl (.inr ⟨_,e'⟩)
 .cases e
abbrev wU:=List (Option W)
def zG (K:zE) (H:Hp) (σ:wU) (τ:L2.St):Prop:=σ.length=τ.length/\∀ (i:Nat) (w:W),σ[i]?=some (some w)->∃ v,τ[i]?=some (some v)/\yA K H w v
theorem zG.mono {K:zE} {H H':Hp} (g:zB K H H') {σ:wU} {τ:L2.St} (h:zG K H σ τ):zG K H' σ τ :=
 ⟨h.1,fun i w e=>let ⟨v,e',r⟩:=h.2 i w e;⟨v,e',r.mono g⟩⟩
theorem zG.set {K:zE} {H:Hp} {σ:wU} {τ:L2.St} {w:W} {v:V} (h:zG K H σ τ) (r:yA K H w v) (i:Nat):zG K H (σ.set i (some w)) (τ.set i (some v)):=by
 refine ⟨by simp [h.1],fun j w' e=>?_⟩;rw [List.getElem?_set] at e ⊢
 by_cases hj:i=j
 .subst hj;rw [if_pos rfl] at e ⊢
  by_cases hl:i<σ.length
  .rw [if_pos hl] at e;cases e;rw [if_pos (h.1▸hl)];exact ⟨v,rfl,r⟩
  .rw [if_neg hl] at e;cases e
 .rw [if_neg hj] at e ⊢;exact h.2 j w' e
abbrev Q3:=W->Hw->Prop
abbrev E3:=wU->Hw->Q3->Prop
abbrev T3:=wU->Hw->(Bool->Hw->Prop)->Prop
abbrev A3:=wU->Hw->(List W->Hw->Prop)->Prop
structure End3 where
 nx:wU->Hw->Prop
 rt:Q3
 bk:wU->Hw->Prop:=fun _ _=>False
 ct:wU->Hw->Prop:=fun _ _=>False
abbrev S3:=End3->wU->Hw->Prop
section
variable (K : zE)
def yM (t:E3):TE:=fun τ H Q=>∃ σ G,zG K H σ τ/\yF K H G/\t σ G fun w G'=>∀ v H',zB K H H'->yA K H' w v->yF K H' G'->Q v H'
def jY (t:T3):TT:=fun τ H Q=>∃ σ G,zG K H σ τ/\yF K H G/\t σ G fun b G'=>∀ H',zB K H H'->yF K H' G'->Q b H'
def vJ (t:A3):TA:=fun τ H Q=>∃ σ G,zG K H σ τ/\yF K H G/\t σ G fun ws G'=>∀ vs H',zB K H H'->zX K H' ws vs->yF K H' G'->Q vs H'
structure Fine (H:Hp) (D3:End3) (D:Ends):Prop where
 nx:∀ σ G τ H',zB K H H'->zG K H' σ τ->yF K H' G->D3.nx σ G->D.nx τ H'
 bk:∀ σ G τ H',zB K H H'->zG K H' σ τ->yF K H' G->D3.bk σ G->D.bk τ H'
 ct:∀ σ G τ H',zB K H H'->zG K H' σ τ->yF K H' G->D3.ct σ G->D.ct τ H'
 rt:∀ w G v H',zB K H H'->yA K H' w v->yF K H' G->D3.rt w G->D.rt v H'
def lowS (t:S3):TS:=fun D τ H=>∃ σ G D3,zG K H σ τ/\yF K H G/\Fine K H D3 D/\t D3 σ G
end
theorem Fine.grow {K:zE} {H H':Hp} {D3:End3} {D:Ends} (f:Fine K H D3 D) (g:zB K H H'):Fine K H' D3 D :=
 ⟨fun σ G τ H2 g2=>f.nx σ G τ H2 (g.trans g2),fun σ G τ H2 g2=>f.bk σ G τ H2 (g.trans g2),fun σ G τ H2 g2=>f.ct σ G τ H2 (g.trans g2),fun w G v H2 g2=>f.rt w G v H2 (g.trans g2)⟩
def xL (t:E3):Prop:=∀ σ G (Q Q':Q3),(∀ w G',Q w G'->Q' w G')->t σ G Q->t σ G Q'
def qB (t:T3):Prop:=∀ σ G (Q Q':Bool->Hw->Prop),(∀ w G',Q w G'->Q' w G')->t σ G Q->t σ G Q'
def qR (t:A3):Prop:=∀ σ G (Q Q':List W->Hw->Prop),(∀ w G',Q w G'->Q' w G')->t σ G Q->t σ G Q'
section
variable {K : zE} {H : Hp} {σ : wU} {τ : L2.St} {G : Hw}
theorem yX {t:E3} {R:Q3} {S:VK} (m:xL t) (hs:zG K H σ τ) (ha:yF K H G) (h:t σ G R)
  (k:∀ w G1 v H1,zB K H H1->zG K H1 σ τ->yA K H1 w v->yF K H1 G1->R w G1->S v H1):yM K t τ H S :=
 ⟨σ,G,hs,ha,m σ G _ _ (fun w G' r v H' g rp ab=>k w G' v H' g (hs.mono g) rp ab r) h⟩
theorem rD {t:T3} {R:Bool->Hw->Prop} {S:Bool->Hp->Prop} (m:qB t) (hs:zG K H σ τ) (ha:yF K H G) (h:t σ G R)
  (k:∀ b G1 H1,zB K H H1->zG K H1 σ τ->yF K H1 G1->R b G1->S b H1):jY K t τ H S :=
 ⟨σ,G,hs,ha,m σ G _ _ (fun w G' r H' g ab=>k w G' H' g (hs.mono g) ab r) h⟩
theorem vA {t:A3} {R:List W->Hw->Prop} {S:List V->Hp->Prop} (m:qR t) (hs:zG K H σ τ) (ha:yF K H G) (h:t σ G R)
  (k:∀ w G1 v H1,zB K H H1->zG K H1 σ τ->zX K H1 w v->yF K H1 G1->R w G1->S v H1):vJ K t τ H S :=
 ⟨σ,G,hs,ha,m σ G _ _ (fun w G' r v H' g rp ab=>k w G' v H' g (hs.mono g) rp ab r) h⟩
end
end L3
namespace L2
section
variable {X : Cx} {e : PySem.Expr} {st : PySem.Stmt} {sts : List PySem.Stmt}
theorem PE.imp {t t':TE} (h:PE X e t) (k:∀ σ H Q,t' σ H Q->t σ H Q):PE X e t':=fun pins s σ H Q I q=>h pins s σ H Q I (k σ H Q q)
theorem PT.imp {t t':TT} (h:PT X e t) (k:∀ σ H Q,t' σ H Q->t σ H Q):PT X e t':=fun pins s σ H Q I q=>h pins s σ H Q I (k σ H Q q)
theorem PW.imp {t t':TT} (h:PW X e t) (k:∀ σ H Q,t' σ H Q->t σ H Q):PW X e t':=fun wh pins s σ H Q I q=>h wh pins s σ H Q I (k σ H Q q)
theorem PA.imp {es:List PySem.Expr} {t t':TA} (h:PA X es t) (k:∀ σ H Q,t' σ H Q->t σ H Q):PA X es t':=fun pos pins s σ H Q I q=>h pos pins s σ H Q I (k σ H Q q)
theorem PS.imp {t t':TS} (h:PS X st t) (k:∀ D σ H,t' D σ H->t D σ H):PS X st t':=fun pins s σ H D I q=>h pins s σ H D I (k D σ H q)
theorem cK.imp {t t':TS} (h:cK X sts t) (k:∀ D σ H,t' D σ H->t D σ H):cK X sts t':=fun pins s σ H D I q=>h pins s σ H D I (k D σ H q)
end
end L2
set_option genInjectivity false
set_option genSizeOfSpec false
namespace L2
open PySem PySem.Spec PyProof.Rows PySem.Calls
def cL (env:Env):List (Str×NameKind)->List (Str×Addr)->List (Str×Addr)
 | [],acc=>acc
 | (n,k)::r,acc=>if (k==NameKind.free)=true then cL env r ((n,(env.cells.lookup n).getD 0)::acc) else cL env r acc
theorem gO (env:Env):∀ (l:List (Str×NameKind)) (acc:List (Str×Addr)) {x:Str} {c:Addr},(cL env l acc).lookup x=some c ->
  ((∃ k,(x,k)∈l/\k=.free)/\c=(env.cells.lookup x).getD 0)\/acc.lookup x=some c
 | [],acc,x,c,h=>.inr h
 | (n,k)::r,acc,x,c,h=>by
  unfold cL at h
  by_cases hk:(k==NameKind.free)=true
  .rw [if_pos hk] at h;rcases gO env r _ h with ⟨⟨k',m,e⟩,q⟩|h
   .exact .inl ⟨⟨k',List.mem_cons_of_mem _ m,e⟩,q⟩
   .rw [List.lookup_cons] at h
    by_cases hx:(x==n)=true
    .rw [hx] at h;have e:x=n:=eq_of_beq hx;subst e;exact .inl ⟨⟨k,zzT,eq_of_beq hk⟩,(Option.some.inj h).symm⟩
    .rw [Bool.not_eq_true] at hx;rw [hx] at h;exact .inr h
  .rw [if_neg hk] at h;rcases gO env r _ h with ⟨⟨k',m,e⟩,q⟩|h
   .exact .inl ⟨⟨k',List.mem_cons_of_mem _ m,e⟩,q⟩
   .exact .inr h
theorem gM (env:Env):∀ (l:List (Str×NameKind)) (acc:List (Str×Addr)) {x:Str},(∃ c,acc.lookup x=some c)->∃ c,(cL env l acc).lookup x=some c
 | [],acc,x,h=>h
 | (n,k)::r,acc,x,h=>by
  unfold cL
  split
  .refine gM env r _ ?_;rw [List.lookup_cons];cases x==n
   .exact h
   .exact ⟨_,rfl⟩
  .exact gM env r _ h
theorem gN (env:Env):∀ (l:List (Str×NameKind)) (acc:List (Str×Addr)) {x:Str},(x,NameKind.free)∈l->∃ c,(cL env l acc).lookup x=some c
 | (n,k)::r,acc,x,h=>by
  unfold cL;rcases List.mem_cons.mp h with h|h
  .cases h;rw [if_pos (by decide)];refine gM env r _ ?_;rw [List.lookup_cons,beq_self_eq_true];exact ⟨_,rfl⟩
  .split
   .exact gN env r _ h
   .exact gN env r _ h
theorem rL {env:Env} {scope:Scope} (h:∀ x,(x,NameKind.free)∈scope.names->∃ c,env.cells.lookup x=some c):closureFor scope env=pure (cL env scope.names []):=by
 simp only [closureFor]
 have key:∀ (l:List (Str×NameKind)) (acc:List (Str×Addr)),(∀ x,(x,NameKind.free)∈l->∃ c,env.cells.lookup x=some c) ->
   (forIn l acc fun x r=>match x with|(name,kind)=>if (kind==NameKind.free)=true then (do let a ← cellOf env name;pure (ForInStep.yield ((name,a)::r))) else pure (ForInStep.yield r):Sem (List (Str×Addr)))=pure (cL env l acc):=by
  intro l
  induction l with
  |nil=>intro acc _;rfl
  |cons p r ih =>
   intro acc hh;obtain ⟨n,k⟩:=p;rw [List.forIn_cons]
   by_cases hk:(k==NameKind.free)=true
   .have ek:k=.free:=eq_of_beq hk;obtain ⟨c,hc⟩:=hh n (by rw [ek];exact zzT);simp only [hk,if_true];have e1:cellOf env n=pure c:=by unfold cellOf;rw [hc]
    rw [e1];simp only [pure_bind];rw [ih _ fun x hx=>hh x (List.mem_cons_of_mem _ hx)]
    conv=>rhs;unfold cL
    rw [if_pos hk,hc]
    all_goals rfl
   .simp only [hk];rw [if_neg (by simp)];simp only [pure_bind];rw [ih _ fun x hx=>hh x (List.mem_cons_of_mem _ hx)]
    conv=>rhs;unfold cL
    rw [if_neg hk]
 have:=key scope.names [] h;simpa using this
theorem xV {env:Env}:∀ {names:List (Str×NameKind)} {x:Str} {k':NameKind},
  (names.map fun (n,k)=>if (k==NameKind.free&&env.scope.kind==.function&&env.kindOf n==some .cell) then (n,NameKind.cell) else (n,k)).lookup x=some k' ->
  ∃ k,names.lookup x=some k/\(k'=k\/(k=.free/\k'=.cell))
 | [],_,_,h=>by simp at h
 | (n,k)::r,x,k',h=>by
  rw [zzU] at h
  by_cases hc:(k==NameKind.free&&env.scope.kind==.function&&env.kindOf n==some .cell)=true
  .simp only [hc,if_true] at h;rw [List.lookup_cons] at h ⊢
   cases hx:x==n with
   |true =>
    rw [hx] at h;cases h;simp only [Bool.and_eq_true,beq_iff_eq] at hc;exact ⟨k,rfl,.inr ⟨hc.1.1,rfl⟩⟩
   |false=>rw [hx] at h;exact xV h
  .simp only [hc,if_false] at h;rw [if_neg (by simp)] at h;rw [List.lookup_cons] at h ⊢
   cases hx:x==n with
   |true=>rw [hx] at h;cases h;exact ⟨k,rfl,.inl rfl⟩
   |false=>rw [hx] at h;exact xV h
theorem wC {α:Type}:∀ {l:List (Str×α)} {x:Str} {v:α},l.lookup x=some v->(x,v)∈l
 | (n,k)::r,x,v,h=>by
  rw [List.lookup_cons] at h
  cases hx:x==n with
  |true=>rw [hx] at h;cases h;rw [eq_of_beq hx];exact zzT
  |false=>rw [hx] at h;exact List.mem_cons_of_mem _ (wC h)
theorem gL:∀ (l:List (Str×NameKind)) (n:Nat) (acc:List (Str×Addr)) {x:Str} {c:Addr},(cellsFrom n l acc).lookup x=some c->acc.lookup x=some c\/((x,NameKind.cell)∈l/\n<=c)
 | [],n,acc,x,c,h=>.inl h
 | (y,k)::r,n,acc,x,c,h=>by
  unfold cellsFrom at h
  split at h
  .rename_i hk;rcases gL r _ _ h with h|⟨h,q⟩
   .rw [List.lookup_cons] at h
    by_cases hx:(x==y)=true
    .rw [hx] at h;cases eq_of_beq hx;cases eq_of_beq hk;exact .inr ⟨zzT,Nat.le_of_eq (Option.some.inj h)⟩
    .rw [Bool.not_eq_true] at hx;rw [hx] at h;exact .inl h
   .exact .inr ⟨List.mem_cons_of_mem _ h,Nat.le_of_succ_le q⟩
  .rcases gL r _ _ h with h|⟨h,q⟩
   .exact .inl h
   .exact .inr ⟨List.mem_cons_of_mem _ h,q⟩
theorem gJ:∀ (l:List (Str×NameKind)) (n:Nat) (acc:List (Str×Addr)) {x:Str},(∃ c,acc.lookup x=some c)->∃ c,(cellsFrom n l acc).lookup x=some c
 | [],n,acc,x,h=>h
 | (y,k)::r,n,acc,x,h=>by
  unfold cellsFrom
  split
  .refine gJ r _ _ ?_;rw [List.lookup_cons];cases x==y
   .exact h
   .exact ⟨_,rfl⟩
  .exact gJ r _ _ h
theorem zbh:∀ (l:List (Str×NameKind)) (n:Nat) (acc:List (Str×Addr)) {x:Str},(x,NameKind.cell)∈l->∃ c,(cellsFrom n l acc).lookup x=some c
 | (y,k)::r,n,acc,x,h=>by
  unfold cellsFrom;rcases List.mem_cons.mp h with h|h
  .cases h;rw [if_pos (by decide)];refine gJ r _ _ ?_;rw [List.lookup_cons,beq_self_eq_true];exact ⟨_,rfl⟩
  .split
   .exact zbh r _ _ h
   .exact zbh r _ _ h
def Inj (n:Nat) (l:List (Str×Addr)):Prop:=(∀ x c,l.lookup x=some c->c<n)/\∀ x y c,l.lookup x=some c->l.lookup y=some c->x=y
theorem zbg:∀ (l:List (Str×NameKind)) (n:Nat) (acc:List (Str×Addr)),Inj n acc->∀ x y c,(cellsFrom n l acc).lookup x=some c->(cellsFrom n l acc).lookup y=some c->x=y
 | [],n,acc,h=>h.2
 | (z,k)::r,n,acc,h=>by
  unfold cellsFrom
  split
  .refine zbg r (n+1) ((z,n)::acc) ⟨fun x c e=>?_,fun x y c e e'=>?_⟩
   .rw [List.lookup_cons] at e
    cases hx:x==z with
    |true=>rw [hx] at e;cases e;exact Nat.lt_succ_self _
    |false=>rw [hx] at e;exact Nat.lt_succ_of_lt (h.1 x c e)
   .rw [List.lookup_cons] at e e'
    cases hx:x==z with
    |true =>
     rw [hx] at e;cases e
     cases hy:y==z with
     |true=>rw [eq_of_beq hx,eq_of_beq hy]
     |false=>rw [hy] at e';exact absurd (h.1 y _ e') (Nat.lt_irrefl _)
    |false =>
     rw [hx] at e
     cases hy:y==z with
     |true=>rw [hy] at e';cases e';exact absurd (h.1 x _ e) (Nat.lt_irrefl _)
     |false=>rw [hy] at e';exact h.2 x y c e e'
  .exact zbg r n acc h
theorem gK:∀ (l:List (Str×NameKind)) (h:Heap) (acc:List (Str×Addr)),(∀ x c,acc.lookup x=some c->∃ v,h.IsCell c v)->∀ x c,(cellsFrom h.objs.size l acc).lookup x=some c->∃ v,(pushCells h l).IsCell c v
 | [],h,acc,k=>k
 | (z,q)::r,h,acc,k=>by
  unfold cellsFrom pushCells
  split
  .have:=gK r (h.push { cls:=.type "cell", data:=.cell none }) ((z,h.objs.size)::acc) (fun x c e=>by
    rw [List.lookup_cons] at e
    cases hx:x==z with
    |true=>rw [hx] at e;cases e;exact ⟨_,_,Heap.get?_push_size _ rfl,rfl⟩
    |false =>
     rw [hx] at e;obtain ⟨v,o,ho,hd⟩:=k x c e;exact ⟨v,o,Heap.get?_push_of_some _ ho,hd⟩)
   rw [Heap.size_push] at this;exact this
  .exact gK r h acc k
theorem nfe {M:Model} {A:Around} {E:Value->Shared->Prop} {s:Shared} {sc:Scope} {gl:Addr} {cl:List (Str×Addr)} {qual:Str} {env:Env} {Q:Env->Shared->Prop}
  (hQ:∀ h',h'=pushCells (s.heap.push { cls:=.type "dict", data:=.dict #[] }) sc.names->h'.Ns s.heap.objs.size (fun _=>none)->(∀ b o,s.heap.get? b=some o->h'.get? b=some o) ->
   Q { scope:=sc,locals:=s.heap.objs.size,globals:=gl,cells:=cellsFrom (s.heap.objs.size+1) sc.names cl,qual:=qual,func:=none,code:=env.code,frame:=env.frame,builtins:=env.builtins } { s with heap:=h' }) :
  wpAny M A (newFunctionEnv sc gl cl [] qual none .none (some env)) Q E s:=by
 simp only [newFunctionEnv,Option.isSome_some,if_true];refine wpAny_bind (wpAny_alloc (wpAny_bind (wpAny_layCells _ (fun name kind cells=>by cases hkc:kind==NameKind.cell<;>simp [hkc]) _ _ _ _ ?_)));rw [show ({ s with heap:=s.heap.push { cls:=.type "dict", data:=.dict #[] } }:Shared).heap.objs.size=s.heap.objs.size+1 from Heap.size_push ..];rw [List.forIn_nil];refine wpAny_bind (wpAny_pure (wpAny_pure (hQ _ rfl ((Heap.Ns.new s.heap (.type "dict")).keeps (pushCells_keeps _ _)) fun b o e=>pushCells_keeps _ _ b o (Heap.get?_push_of_some _ e))))
end L2
namespace L2
open PySem PySem.Spec PyProof.Rows PySem.Calls
theorem gQ (elt target iter:Expr) (ifs:List Expr) (scope:Scope) (pos:Pos) (it acc:Value) (env:Env) :
  compTurn (.ListComp elt [⟨target,iter,ifs,0⟩] scope pos) 0 it acc env=(do
   standAt iter.pos
   match ← pyNext it with
   |none=>pure (.done .next)
   |some v =>
    letOwnedTupleGo target it v
    assign target env v
    let mut ok:=true
    for c in ifs do
     if ok then ok ← isTrue c env (eval c env)
    if ok then
     (do let _ ← call (.builtin "list.append") [acc,← eval elt env])
    again (.compLoop (.ListComp elt [⟨target,iter,ifs,0⟩] scope pos) 0 it acc env)):=by rfl
section
variable {prog : Program} {w : World} {A : Around} {R : Result → Shared → Prop} {s : Shared}
theorem gP {elt target iter:Expr} {ifs:List Expr} {scope:Scope} {pos:Pos} {it acc:Value} {env:Env} (I:Nat->Shared->Prop)
  (turn:∀ n s,I n s->wpAny (model prog w) A (pyNext it) (fun r s₁=>match r with
   |none=>R (.ok .next) s₁
   |some v=>wpAny (model prog w) A (letOwnedTupleGo target it v) (fun _ s₁=>wpAny (model prog w) A (assign target env v) (fun _ s₂ =>
     wpAny (model prog w) A (forIn ifs true fun c r=>if r=true then do let ok ← isTrue c env (eval c env);pure (ForInStep.yield ok) else pure (ForInStep.yield r)) (fun ok s₃ =>
      if ok=true then wpAny (model prog w) A (eval elt env) (fun x s₄ =>
       wpAny (model prog w) A (call (.builtin "list.append") [acc,x]) (fun _ s₅=>∃ m,m<n/\I m s₅) (fun _ _=>False) s₄) (fun _ _=>False) s₃
      else ∃ m,m<n/\I m s₃) (fun _ _=>False) s₂) (fun _ _=>False) s₁) (fun _ _=>False) s₁) (fun _ _=>False) s)
  (n:Nat) (h:I n s) :
  codeAny (model prog w) A (.compLoop (.ListComp elt [⟨target,iter,ifs,0⟩] scope pos) 0 it acc env) R s:=by
 refine codeAny_loop rfl I (fun n s hI=>?_) n h;show wpAny _ A ((compTurn (.ListComp elt [⟨target,iter,ifs,0⟩] scope pos) 0 it acc env).onRaise (fun x=>do noteFrame x env;theTreesLotGoes x)) _ _ s;refine wpAny_noted ?_;rw [gQ];refine wpAny_bind (wpAny_standAt (wpAny_bind (wpAny_mono (turn n s hI) (fun r s₁ h₁=>?_) fun _ _ h'=>h'.elim)))
 cases r with
 |none=>exact wpAny_pure h₁
 |some v =>
  refine wpAny_bind (wpAny_mono h₁ (fun _ s₁ h₁=>?_) fun _ _ h'=>h'.elim);refine wpAny_bind (wpAny_mono h₁ (fun _ s₂ h₂=>wpAny_bind (wpAny_mono h₂ (fun ok s₃ h₃=>?_) fun _ _ h'=>h'.elim)) fun _ _ h'=>h'.elim)
  cases ok with
  |false=>exact wpAny_pure ⟨rfl,h₃⟩
  |true =>
   exact wpAny_bind (wpAny_bind (wpAny_mono h₃ (fun x s₄ h₄=>wpAny_bind (wpAny_mono h₄ (fun _ s₅ h₅=>wpAny_pure (wpAny_pure ⟨rfl,h₅⟩)) fun _ _ h'=>h'.elim)) fun _ _ h'=>h'.elim))
end
structure IsBlock (X:Cx) (N:List Str) (sc:Scope) (X':Cx):Prop where
 prog:X'.prog=X.prog
 w:X'.w=X.w
 K:X'.K=X.K
 mg:X'.mg=X.mg
 base:X'.base=X.base
 A:X'.A=X.A
 calm:X'.calm=X.calm
 N:X'.N=N
 scope:X'.env.scope=relabel sc X.env
 xe:X'.xe=fun _ _=>False
 fn:∀ x,sc.names.lookup x=some .cell->X'.fn x=true
def ocl (X:Cx) (sc:Scope) (C:Addr):List (Str×Addr):=cellsFrom (C+1) sc.names (cL X.env sc.names [])
def qV (X:Cx) (N:List Str) (sc:Scope) (C:Addr) (s2:Shared) (H2:Hp) (fp:List Addr) (pins:List (Addr×Obj)):Cx where
 prog:=X.prog
 w:=X.w
 K:=X.K
 mg:=X.mg
 base:=X.base
 A:=X.A
 N:=N
 s₀:=s2
 H₀:=H2
 env:=compEnvC sc (ocl X sc C) C X.env
 outer:=X.stack
 stack:=X.stack
 ex:=fp
 fn:=fun x=>sc.names.lookup x==some .cell
 calm:=X.calm
 pn:=X.pn++pins
 xe:=fun _ _=>False
theorem zad (X:Cx) (N:List Str) (sc:Scope) (C:Addr) (s2:Shared) (H2:Hp) (fp:List Addr) (pins:List (Addr×Obj)):IsBlock X N sc (qV X N sc C s2 H2 fp pins) :=
 ⟨rfl,rfl,rfl,rfl,rfl,rfl,rfl,rfl,rfl,rfl,fun x h=>by show (sc.names.lookup x==some .cell)=true;rw [h];rfl⟩
structure BlkSc (X:Cx) (sc:Scope):Prop where
 kind:sc.kind=.function
 cells:∀ x,(x,NameKind.cell)∈sc.names->sc.names.lookup x=some .cell
 frees:∀ x,(x,NameKind.free)∈sc.names->sc.names.lookup x=some .free
 free:∀ x,(x,NameKind.free)∈sc.names->X.env.kindOf x=some .cell\/X.env.kindOf x=some .free
 names:∀ y∈sc.names,y.2=.local->sc.names.lookup y.1=some .local
section
variable {X : Cx} {pins : List (Addr × Obj)} {σ : St} {H2 : Hp} {s2 : Shared} {sc : Scope} {N : List Str} {C : Addr} {fp : List Addr}
theorem qC (ok:X.Ok) (B:BlkSc X sc) {x:Str} {c:Addr} (h:(cL X.env sc.names []).lookup x=some c):X.env.cells.lookup x=some c/\sc.names.lookup x=some .free:=by
 rcases gO _ _ _ h with ⟨⟨k,m,e⟩,q⟩|h
 .subst e;have hf:=B.free x m;obtain ⟨c',hc'⟩:=ok.has x hf;rw [hc'] at q;exact ⟨by rw [hc',q];rfl,B.frees x m⟩
 .simp at h
theorem qH (ok:X.Ok) (B:BlkSc X sc) {x:Str} {c:Addr} (h:(ocl X sc C).lookup x=some c):(X.env.cells.lookup x=some c/\sc.names.lookup x=some .free)\/(sc.names.lookup x=some .cell/\C<c):=by
 rcases gL _ _ _ h with h|⟨h,q⟩
 .exact .inl (qC ok B h)
 .exact .inr ⟨B.cells x h,q⟩
theorem B_has (B:BlkSc X sc) {x:Str} (h:(relabel sc X.env).names.lookup x=some .cell\/(relabel sc X.env).names.lookup x=some .free):(x,NameKind.free)∈sc.names\/(x,NameKind.cell)∈sc.names:=by
 rcases h with h|h
 .obtain ⟨k,hk,e⟩:=xV h;rcases e with e|⟨e,_⟩
  .subst e;exact .inr (wC hk)
  .subst e;exact .inl (wC hk)
 .obtain ⟨k,hk,e⟩:=xV h;rcases e with e|⟨e,z⟩
  .subst e;exact .inl (wC hk)
  .cases z
theorem zaF {x:Str} (h:(x,NameKind.free)∈sc.names\/(x,NameKind.cell)∈sc.names):∃ c,(ocl X sc C).lookup x=some c:=by
 rcases h with h|h
 .exact gJ _ _ _ (gN _ _ _ h)
 .exact zbh _ _ _ h
theorem zbi (I2:Inv X pins σ H2 s2) {x:Str} {c:Addr} (h:X.env.cells.lookup x=some c):c<s2.heap.objs.size:=by
 obtain ⟨v,o,e,_⟩:=I2.cell x c h;exact Heap.lt_size e
theorem rE (I2:Inv X pins σ H2 s2) (B:BlkSc X sc) (f2:∀ b∈fp,jK X pins H2 b) (hfp:∀ b∈fp,b<s2.heap.objs.size) (hC:s2.heap.objs.size<=C):(qV X N sc C s2 H2 fp pins).Ok where
 mod:=I2.ok.mod
 kind:=B.kind
 glob:=I2.ok.glob
 blt:=I2.ok.blt
 above:=hC
 inj:=zbg _ _ _ ⟨fun x c h=>Nat.lt_succ_of_lt (Nat.lt_of_lt_of_le (zbi I2 (qC I2.ok B h).1) hC),fun x y c hx hy=>I2.ok.inj x y c (qC I2.ok B hx).1 (qC I2.ok B hy).1⟩
 has:=fun x h=>zaF (B_has B h)
 cab:=fun x c h e=>by
  rcases qH I2.ok B e with ⟨_,q⟩|⟨_,q⟩
  .have h:(sc.names.lookup x==some .cell)=true:=h;rw [q] at h;cases h
  .exact Nat.le_trans hC (Nat.le_of_lt q)
 hd:=I2.ok.hd
 frames:=I2.ok.frames
 stk:=.inl rfl
 exf:=fun b hb=>⟨Nat.ne_of_lt (Nat.lt_of_lt_of_le (hfp b hb) hC),fun x c h=>by
  rcases qH I2.ok B h with ⟨q,_⟩|⟨_,q⟩
  .exact (f2 b hb).2.2.2.2.1 x c q
  .exact Nat.ne_of_gt (Nat.lt_trans (Nat.lt_of_lt_of_le (hfp b hb) hC) q)⟩
 bs:=I2.bs
 bsz:=Nat.le_trans I2.ok.bsz I2.sz
 noex:=fun b o e hb=>by
  rcases (f2 b hb).2.2.2.1 with h|h
  .exact I2.ok.noex b o e h
  .exact absurd (Nat.lt_of_lt_of_le (Heap.lt_size e) (Nat.le_trans I2.ok.bsz h)) (Nat.lt_irrefl _)
 exfs:=fun b hb hm=>by
  rcases List.mem_cons.mp (I2.stkSub b hm) with h|h
  .exact (f2 b hb).2.1 h
  .exact (f2 b hb).2.2.1 h
 funs:=I2.stack
 frf:=I2.stkFree
theorem zbl {s4:Shared} {τ:St} {m:Str->Option Value} (I2:Inv X pins σ H2 s2) (B:BlkSc X sc) (f2:∀ b∈fp,jK X pins H2 b) (hfp:∀ b∈fp,b<s2.heap.objs.size) (hC:s2.heap.objs.size<=C)
  (ho:s4.os=s2.os) (hg:s4.gens=s2.gens) (keep:∀ b o,s2.heap.get? b=some o->s4.heap.get? b=some o) (hcs:∀ x c,(ocl X sc C).lookup x=some c->∃ v,s4.heap.IsCell c v) (hns:s4.heap.Ns C m) (hl:τ.length=N.length)
  (cap:∀ (i:Nat) (x:Str) (v:V),N[i]?=some x->τ[i]?=some (some v)->Vis (relabel sc X.env) x->sc.names.lookup x=some .free/\∃ j:Nat,X.N[j]?=some x/\σ[j]?=some (some v)) (h4:0<s4.toks) :
  Inv (qV X N sc C s2 H2 fp pins) [] τ H2 s4:=by
 refine ⟨rE I2 B f2 hfp hC,ho,by rw [hg];exact I2.bare,Un.kept keep,⟨m,hns,fun i x v hN hτ hv=>?_⟩,hcs,I2.hok.fresh hC,fun x c h=>?_,fun p hp=>?_,I2.hok.kept keep,hl,h4⟩
 .obtain ⟨hnl,j,hj,hσ⟩:=cap i x v hN hτ hv;have hmem:=wC hnl;have hf:=B.free x hmem
  have hkind:(relabel sc X.env).names.lookup x=some .cell\/(relabel sc X.env).names.lookup x=some .free:=by
   rcases hv with h|h|h
   .obtain ⟨k,hk,e⟩:=xV h;rw [hnl] at hk;cases hk;rcases e with e|⟨_,e⟩<;>cases e
   .exact .inl h
   .exact .inr h
  obtain ⟨m0,_,hl0⟩:=I2.loc;obtain ⟨u,r,lk⟩:=hl0 j x v hj hσ (hf.elim (fun h=>.inr (.inl h)) fun h=>.inr (.inr h));refine ⟨u,r,.inr ⟨hkind,?_⟩⟩;rcases lk with ⟨hk,_⟩|⟨_,c,hc,hcell⟩
  .rw [hk] at hf;rcases hf with hf|hf<;>cases hf
  .obtain ⟨c',hc'⟩:=zaF (X:=X) (C:=C) (.inl hmem);rcases qH I2.ok B hc' with ⟨e,_⟩|⟨e,_⟩
   .rw [hc] at e;cases e;refine ⟨c,hc',?_⟩;obtain ⟨o,e1,r1⟩:=hcell;exact ⟨o,keep _ _ e1,r1⟩
   .rw [hnl] at e;cases e
 .rcases qH I2.ok B h with ⟨e,_⟩|⟨_,e⟩
  .exact I2.freeC x c e
  .exact I2.hok.fresh (Nat.le_trans hC (Nat.le_of_lt e))
 .have hp':p∈X.pn++pins:=by simpa [qV] using hp
  obtain ⟨q1,q2,q3,q4,q5⟩:=I2.pin p hp';refine ⟨keep _ _ q1,q2,Nat.ne_of_lt (Nat.lt_of_lt_of_le (Heap.lt_size q1) hC),fun z=>?_,q5⟩;rcases List.mem_cons.mp (I2.stkSub _ z) with h|h
  .exact q3 h
  .exact q4 h
end
theorem kR.adopt {P:Program} {w:World} {H:Hp} {h h':Heap} {a:Addr} {o:HO} (x:kR P w H h) (k:∀ b u v,H b=some v->h.get? b=some u->h'.get? b=some u) (hn:H a=none) (new:yK P w (yN H a o) h' a o):kR P w (yN H a o) h':=fun b u e=>by
 by_cases hb:b=a
 .subst hb;rw [xZ] at e;cases e;exact new
 .rw [zU hb] at e;refine (x b u e).stay (fun c v hc q=>?_) (fun c q=>by rw [zU (zH q hn)];exact q) fun c xs q=>by rw [zU (zH q hn)];exact q
  rcases hc with rfl|hc
  .exact k _ _ _ e q
  .exact k _ _ _ hc q
end L2
namespace L2
open PySem PySem.Spec PyProof.Rows PySem.Calls
def PTs (X:Cx) (ifs:List Expr) (t:TT):Prop :=
 ∀ (pins:List (Addr×Obj)) (s:Shared) (σ:St) (H:Hp) (Q:Bool->Hp->Prop),Inv X pins σ H s->t σ H Q ->
  wpAny (model X.prog X.w) X.A (forIn ifs true fun c r=>if r=true then do let ok ← isTrue c X.env (eval c X.env);pure (ForInStep.yield ok) else pure (ForInStep.yield r)) (TP X pins σ Q) X.xe s
theorem zdT {X:Cx}:PTs X [] (fun _ H Q=>Q true H):=fun _ _ _ H _ I h=>wpAny_tests_nil ⟨H,I,h⟩
theorem zdS {X:Cx} {c:Expr} {t:TT} (h:PT X c t):PTs X [c] t:=fun pins s σ H Q I q=>wpAny_tests_one (h pins s σ H Q I q)
def tLCb (J:It) (τ:St) (g:TG) (tc:TT) (te:TE) (Qf:List V->Hp->Prop) (H1:Hp):Prop :=
 ∃ Pv:Nat->Nat->St->List V->Hp->Prop,(∃ m,Pv 0 m τ [] H1)/\∀ i m τ acc H,Pv i m τ acc H ->
  (J.stop i H/\Qf acc H) \/
  (J.go i H/\acc.length<sizeLine/\∀ x H',J.yld i H x H'->g x τ H' fun σ2 H2=>tc σ2 H2 fun b H3=>if b=true then te σ2 H3 fun v H4=>∃ m',m' < m/\Pv (i+1) m' σ2 (acc++[v]) H4 else ∃ m',m' < m/\Pv (i+1) m' σ2 acc H3)
structure Off (X:Cx) (pins:List (Addr×Obj)) (C:Addr):Prop where
 ne:C≠X.env.locals
 ge:X.s₀.heap.objs.size<=C
 cl:∀ x c,X.env.cells.lookup x=some c->c≠C
 pn:∀ p∈X.pn++pins,p.1≠C
theorem Off.turned {X:Cx} {pins:List (Addr×Obj)} {C:Addr} {σ:St} {H:Hp} {s:Shared} {h':Heap} (o:Off X pins C) (I:Inv X pins σ H s) (hn:H C=none) (k:Heap.SameBut C s.heap h'):Inv X pins σ H { s with heap:=h' } :=
 I.turned (t':=s.toks) (fun b u hb e=>k.extBut b u hb e) hn o.ne (.inr o.ge) o.cl o.pn
theorem Inv.off {X:Cx} {pins:List (Addr×Obj)} {σ:St} {H:Hp} {s:Shared} {C:Addr} (I:Inv X pins σ H s) (hC:s.heap.objs.size<=C):Off X pins C :=
 ⟨(Nat.ne_of_lt (Nat.lt_of_lt_of_le I.lt hC)).symm,Nat.le_trans I.sz hC,fun x c h=>by
  obtain ⟨v,o,e,_⟩:=I.cell x c h;exact Nat.ne_of_lt (Nat.lt_of_lt_of_le (Heap.lt_size e) hC),fun p hp=>Nat.ne_of_lt (Nat.lt_of_lt_of_le (Heap.lt_size (I.pin p hp).1) hC)⟩
abbrev jA (its:List Value) (n:Nat):Obj:={ cls:=.type "list", data:=.seq its.toArray n }
set_option maxHeartbeats 8000000 in
theorem zaM {X:Cx} {pins:List (Addr×Obj)} {σ τ:St} {H2:Hp} {s2:Shared} {sc:Scope} {N:List Str} {fp:List Addr} {it:Addr} {tn:Nat->Heap->Prop} {J:It} {tg iter elt:Expr} {ifs:List Expr} {pos:Pos} {g:TG} {tc:TT} {te:TE}
  {Qf:List V->Hp->Prop} {RR:Value->Addr->Result->Shared->Prop} {E:Value->Shared->Prop}
  (hc:X.calm=true) (I2:Inv X pins σ H2 s2) (T:Turn X.prog X.w X.K tg J fp it tn) (t0:tn 0 s2.heap) (f2:∀ b∈fp,jK X pins H2 b) (B:BlkSc X sc) (hl:τ.length=N.length)
  (cap:∀ (i:Nat) (x:Str) (v:V),N[i]?=some x->τ[i]?=some (some v)->Vis (relabel sc X.env) x->sc.names.lookup x=some .free/\∃ j:Nat,X.N[j]?=some x/\σ[j]?=some (some v))
  (hg:∀ X',IsBlock X N sc X'->PG X' tg g) (ht:∀ X',IsBlock X N sc X'->PTs X' ifs tc) (he:∀ X',IsBlock X N sc X'->PE X' elt te)
  (h:tLCb J τ g tc te Qf H2)
  (fin:∀ (D C:Addr) (acc:List V) (H':Hp) (s':Shared) (m:Str->Option Value),D≠C->H' D=none->H' C=none->Off X pins C->Inv X pins σ (yN H' D (.lst acc)) s'->s'.heap.Ns C m->Qf acc H'->RR (.ref D) C (.ok .next) s') :
  wpAny (model X.prog X.w) X.A (newList []) (fun acc s₃=>wpAny (model X.prog X.w) X.A (newFunctionEnv sc X.env.globals (cL X.env sc.names []) [] X.env.qual none .none (some X.env)) (fun cenv s₄ =>
   codeAny (model X.prog X.w) X.A (.compStart (.ListComp elt [⟨tg,iter,ifs,0⟩] sc pos) 0 (.ref it) acc { cenv with scope:=relabel sc X.env }) (RR acc cenv.locals) s₄) E s₃) E s2:=by
 refine wpAny_newObj_type (nfe fun h₁ heq hns₁ hk₁=>?_);dsimp only at heq hns₁ hk₁ ⊢;generalize hH2:s2.heap.push { cls:=.type "list", dict:=none,data:=.seq ([]:List Value).toArray }=G2 at heq hns₁ hk₁ ⊢
 have hcs:∀ x c,(ocl X sc G2.objs.size).lookup x=some c->∃ v,h₁.IsCell c v:=fun x c e=>by
  rw [heq];refine gK sc.names (G2.push { cls:=.type "dict", data:=.dict #[] }) (cL X.env sc.names []) (fun y d q=>?_) x c (by rw [Heap.size_push];exact e);obtain ⟨v,o,ho,hd⟩:=I2.cell y d (qC I2.ok B q).1;exact ⟨v,o,Heap.get?_push_of_some _ (hH2▸Heap.get?_push_of_some _ ho),hd⟩
 have hC:G2.objs.size=s2.heap.objs.size+1:=by rw [← hH2,Heap.size_push]
 have hDC:s2.heap.objs.size≠G2.objs.size:=by rw [hC];exact Nat.ne_of_lt (Nat.lt_succ_self _)
 have hCle:s2.heap.objs.size<=G2.objs.size:=by rw [hC];exact Nat.le_succ _
 have below:∀ b,b<s2.heap.objs.size->b≠G2.objs.size/\b≠s2.heap.objs.size:=fun b hb=>⟨by rw [hC];exact Nat.ne_of_lt (Nat.lt_succ_of_lt hb),Nat.ne_of_lt hb⟩
 have hfp:∀ b∈fp,b<s2.heap.objs.size:=fun b hb=>by
  obtain ⟨o,e,_⟩:=T.obj _ _ t0 b hb;exact Heap.lt_size e
 have hDf:∀ b∈fp,b≠s2.heap.objs.size:=fun b hb=>(below b (hfp b hb)).2;have hCf:∀ b∈fp,b≠G2.objs.size:=fun b hb=>(below b (hfp b hb)).1;have old:∀ b o,s2.heap.get? b=some o->h₁.get? b=some o:=fun b o e=>hk₁ b o (hH2▸Heap.get?_push_of_some _ e);have hacc:h₁.get? s2.heap.objs.size=some (jA [] 0):=hk₁ _ _ (hH2▸Heap.get?_push_size _ rfl)
 have fresh:∀ a,s2.heap.objs.size<=a->s2.heap.get? a=none:=fun a ha=>by
  cases e:s2.heap.get? a with
  |none=>rfl
  |some o'=>exact absurd (Heap.lt_size e) (Nat.not_lt.mpr ha)
 have hsub:∀ b∈frs X.stack,b<s2.heap.objs.size:=fun b hb=>by
  obtain ⟨_,o,e,_⟩:=I2.stack.mem hb;exact Heap.lt_size e
 obtain ⟨Pv,⟨m0,p0⟩,step⟩:=h;generalize hD:s2.heap.objs.size=D at *;generalize hCe:G2.objs.size=C at *;have hXb:IsBlock X N sc (qV X N sc C s2 H2 fp pins):=zad ..;generalize hXd:qV X N sc C s2 H2 fp pins=X' at hXb
 have J0:Inv X' [] τ H2 { s2 with heap:=h₁ }:=by
  rw [← hXd];exact zbl (s4:={ s2 with heap:=h₁ }) I2 B f2 (by rw [hD];exact hfp) (by rw [hD];exact hCle) rfl rfl old hcs hns₁ hl cap I2.tk
 have offD:Off X' [] D:=by
  rw [← hXd];refine ⟨hDC,by show s2.heap.objs.size<=D;rw [hD];exact zzR _,fun x c hx=>?_,fun p hp=>?_⟩
  .rcases qH I2.ok B hx with ⟨q,_⟩|⟨_,q⟩
   .have:=zbi I2 q;rw [hD] at this;exact Nat.ne_of_lt this
   .exact Nat.ne_of_gt (Nat.lt_of_le_of_lt hCle q)
  .have hp':p∈X.pn++pins:=by simpa [qV] using hp
   have:=Heap.lt_size (I2.pin p hp').1;rw [hD] at this;exact Nat.ne_of_lt this
 have offC:Off X pins C:=I2.off (by rw [hD];exact hCle)
 have fpok:∀ {H':Hp} {ob:Obj},(∀ b∈fp,H' b=none)->∀ b∈fp,jK X' [(D,ob)] H' b:=fun {H' ob} hn b hb=>by
  rw [← hXd];refine ⟨hn b hb,hCf b hb,fun z=>(rE (N:=N) I2 B f2 (by rw [hD];exact hfp) (by rw [hD];exact hCle)).exfs b hb z,.inl hb,fun x c hx=>(rE (N:=N) I2 B f2 (by rw [hD];exact hfp) (by rw [hD];exact hCle)).exf b hb |>.2 x c hx,fun p hp=>?_⟩;rcases List.mem_append.mp hp with hp|hp
  .exact (f2 b hb).2.2.2.2.2 p hp
  .rw [zzO hp];exact (hDf b hb).symm
 have Dfs:D∉X'.fs:=by
  rw [← hXd];intro z;exact Nat.lt_irrefl _ (hsub D z)
 have pinD:∀ {H':Hp} {τ':St} {s':Shared} {its:List Value} {n:Nat},Inv X' [] τ' H' s'->H' D=none->s'.heap.get? D=some (jA its n)->Inv X' [(D,jA its n)] τ' H' s':=fun {H' τ' s' its n} I hn e =>
  I.pins_of fun p hp=>by
   rw [zzO hp];exact ⟨e,hn,by rw [← hXd];exact hDC,Dfs,fun v z=>nomatch z⟩
 have loop:∀ s₃:Shared,s₃={ s2 with heap:=h₁ } ->
   codeAny (model X.prog X.w) X.A (.compLoop (.ListComp elt [⟨tg,iter,ifs,0⟩] sc pos) 0 (.ref it) (.ref D) (compEnvC sc (ocl X sc C) C X.env)) (RR (.ref D) C) s₃:=by
  rintro s₃ rfl;have tn0:tn 0 h₁:=T.keep _ _ _ t0 fun b _ o e=>old b o e;have fr0:∀ b∈fp,H2 b=none:=fun b hb=>(f2 b hb).1;have Df0:H2 D=none:=I2.hok.fresh (by rw [hD];exact zzR _);have eX:X'.env=compEnvC sc (ocl X sc C) C X.env:=by rw [← hXd];rfl
  have ep:X'.prog=X.prog:=hXb.prog;have ew:X'.w=X.w:=hXb.w;have eA:X'.A=X.A:=hXb.A;refine gP (fun k s'=>∃ i τ' acc H' its n,Inv X' [] τ' H' s'/\tn i s'.heap/\(∀ b∈fp,H' b=none)/\H' D=none/\s'.heap.get? D=some (jA its n)/\zV acc its/\acc.length<=sizeLine/\Pv i k τ' acc H') ?_ m0 ⟨0,τ,[],H2,[],0,J0,tn0,fr0,Df0,hacc,.nil,Nat.zero_le _,p0⟩;rintro k s3 ⟨i,τ3,acc,H3,its,n,I3,st3,fr3,D3,o3,v3,lenA,p3⟩;have I3':=pinD I3 D3 o3;rcases step i k τ3 acc H3 p3 with ⟨stop,qf⟩|⟨go,hsz,turn⟩
  .have td:=T.done X' ep ew hXb.K (by rw [hXb.calm];exact hc) i _ s3 τ3 H3 (fun _ _=>False) I3' (fpok fr3) st3 stop;rw [eA] at td;refine yU td fun r s4 ⟨hr,I4⟩=>?_;subst hr;have o4:=(I4.pin (D,jA its n) (List.mem_append_right _ (List.mem_singleton.mpr rfl))).1;obtain ⟨m4,hn4,_⟩:=I4.loc;rw [eX] at hn4;refine fin D C acc H3 s4 m4 hDC D3 ?_ offC ?_ hn4 qf
   .have:=I4.free;rw [eX] at this;exact this
   .have base:Un (frs X.stack) fp H2 H3 s2.heap s4.heap:=by have:=I4.base;rw [← hXd] at this;exact this
    have hb:∀ b o,s2.heap.get? b=some o->b≠D:=fun b o e=>by have:=Heap.lt_size e;rw [hD] at this;exact Nat.ne_of_lt this
    refine I2.call' (ch:=fp) (by have:=I4.os;rw [← hXd] at this;exact this) ⟨base.keep,base.slot,fun b o e n' hx=>?_,base.there,fun b xs e=>?_,fun b o u e=>?_,fun b ps e=>?_⟩ ?_ I4.bare ?_ I4.tk
    .rw [zU (hb b o e)];exact base.free b o e n' hx
    .rw [zU (zH (base.tups b xs e) D3)];exact base.tups b xs e
    .rw [zU (zH (base.frzs b o u e) D3)];exact base.frzs b o u e
    .obtain ⟨mo,e'⟩:=base.tbls b ps e;exact ⟨mo,by rw [zU (zH e' D3)];exact e'⟩
    .have hk:=I4.hok;rw [ep,ew] at hk;exact hk.adopt (fun b u v _ q=>q) D3 ⟨lenA,its,n,v3,o4⟩
    .intro b hb';obtain ⟨q1,q2,q3,q4,q5,q6⟩:=f2 b hb';exact ⟨q4,q2,q5,q6⟩
  .have td:=T.item X' ep ew hXb.K (by rw [hXb.calm];exact hc) i _ s3 τ3 H3 (fun _ _=>False) I3' (fpok fr3) st3 go;rw [eA] at td;refine yU td fun r s4 ⟨u,hr,h4⟩=>?_;subst hr;refine yU h4 fun _ s5 ⟨x,H5,I5,r5,y5,st5,fr5⟩=>?_;have I5':=I5.pinned (fpok fr5) (T.obj _ _ st5);have q1:=hg X' hXb _ s5 τ3 H5 x u _ I5' r5 (turn x H5 y5);rw [ep,ew,eA,eX,hXb.xe] at q1;refine yU q1 fun _ s6 ⟨σ6,H6,I6,q6⟩=>?_;have q2:=ht X' hXb _ s6 σ6 H6 _ I6 q6;rw [ep,ew,eA,eX,hXb.xe] at q2;refine yU q2 fun b s7 ⟨H7,I7,q7⟩=>?_
   have back:∀ {H8:Hp} {s8:Shared},Inv X' ([(D,jA its n)]++uS fp s5.heap) σ6 H8 s8->Inv X' [] σ6 H8 s8/\tn (i+1) s8.heap/\(∀ b∈fp,H8 b=none)/\H8 D=none/\s8.heap.get? D=some (jA its n):=fun {H8 s8} I8=>by
    have pp:∀ p,p∈[(D,jA its n)]++uS fp s5.heap->_:=fun p hp=>I8.pin p (List.mem_append_right _ hp);refine ⟨I8.pins_of (pins':=[]) (fun p hp=>nomatch hp),T.keep _ _ _ st5 fun b hb o e=>(pp (b,o) (List.mem_append_right _ (wD hb e))).1,fun b hb=>?_,?_,?_⟩
    .obtain ⟨o,e,d⟩:=T.obj _ _ st5 b hb;exact (pp (b,o) (List.mem_append_right _ (wD hb e))).2.1
    .exact (pp (D,jA its n) (List.mem_append_left _ (List.mem_singleton.mpr rfl))).2.1
    .exact (pp (D,jA its n) (List.mem_append_left _ (List.mem_singleton.mpr rfl))).1
   cases b with
   |false =>
    rw [if_neg (by decide)] at q7;rw [if_neg (by decide)];obtain ⟨m',hm,p'⟩:=q7;obtain ⟨b1,b2,b3,b4,b5⟩:=back I7;exact ⟨m',hm,i+1,σ6,acc,H7,its,n,b1,b2,b3,b4,b5,v3,lenA,p'⟩
   |true =>
    rw [if_pos rfl] at q7;rw [if_pos rfl];have q3:=he X' hXb _ s7 σ6 H7 _ I7 q7;rw [ep,ew,eA,eX,hXb.xe] at q3;refine yU q3 fun y s8 ⟨v,H8,I8,r8,m',hm,p'⟩=>?_;obtain ⟨b1,b2,b3,b4,b5⟩:=back I8;refine append_at (hsz:=by show its.toArray.size<=sizeLine;rw [zzS,← v3.length];exact Nat.le_of_lt hsz) b5 fun h₅ hs₅ hD₅=>?_;refine ⟨m',hm,i+1,σ6,acc++[v],H8,its++[y],n+1,offD.turned b1 b4 hs₅,T.keep _ _ _ b2 fun b hb o e=>hs₅.extBut b o (hDf b hb) e,b3,b4,?_,v3.append (.cons r8 .nil),by rw [zzW];exact hsz,p'⟩;show h₅.get? D=_;rw [hD₅,List.push_toArray]
 exact codeAny_compStart_list (loop _ rfl) (T.self _ 0 _ _ _ (T.keep _ _ _ t0 fun b _ o e=>old b o e) (loop _ rfl))
def tLC (wi:TI) (cap:St->St) (g:TG) (tc:TT) (te:TE):TE:=fun σ H Q=>wi σ H fun J H1=>tLCb J (cap σ) g tc te (fun acc H'=>∀ p,H' p=none->Q (.ref p) (yN H' p (.lst acc))) H1
section
variable {X : Cx} {sc : Scope} {N : List Str} {tg iter elt : Expr} {ifs : List Expr} {pos : Pos} {wi : TI} {g : TG} {tc : TT} {te : TE} {cap : St → St}
def Caps (X:Cx) (sc:Scope) (N:List Str) (cap:St->St):Prop:=∀ σ:St,σ.length=X.N.length->(cap σ).length=N.length /\
 ∀ (i:Nat) (x:Str) (v:V),N[i]?=some x->(cap σ)[i]?=some (some v)->Vis (relabel sc X.env) x->sc.names.lookup x=some .free/\∃ j:Nat,X.N[j]?=some x/\σ[j]?=some (some v)
theorem pe_lc (hc:X.calm=true) (hi:PI X tg iter wi) (B:BlkSc X sc) (hcap:Caps X sc N cap)
  (hg:∀ X',IsBlock X N sc X'->PG X' tg g) (ht:∀ X',IsBlock X N sc X'->PTs X' ifs tc) (he:∀ X',IsBlock X N sc X'->PE X' elt te)
  (hs:∀ x,foldedSetIterable iter X.env x=pure x:=by intro _;rfl):PE X (.ListComp elt [⟨tg,iter,ifs,0⟩] sc pos) (tLC wi cap g tc te):=by
 intro pins s σ H Q I h;rw [eval_ListComp];refine wpAny_comprehension_free (use:=none) rfl hs (rL fun x hx=>I.ok.has x (B.free x hx)) B.kind B.names (yU (hi pins s σ H _ I h) fun v s1 h1=>yU h1 fun itv s2 h2=>?_);obtain ⟨it,fp,tn,J,H2,e,I2,T,st2,f2,q⟩:=h2;subst e;obtain ⟨cl,cc⟩:=hcap σ I.len;refine zaM (RR:=fun acc C=>compPost (model X.prog X.w) X.A X.xe none (EP X pins σ Q) acc C) hc I2 T st2 f2 B cl cc hg ht he q fun D C acc H' s' m hDC hD hC off I' hn qf=>?_;refine ⟨m,hn,fun h' hk=>⟨.ref D,_,off.turned I' (by rw [zU hDC.symm];exact hC) hk,rfl,qf D hD⟩⟩
theorem zb0 {i:Nat} {y:Str} {py spos:Pos} (hc:X.calm=true) (hi:PI X tg iter wi) (B:BlkSc X sc) (hcap:Caps X sc N cap)
  (hg:∀ X',IsBlock X N sc X'->PG X' tg g) (ht:∀ X',IsBlock X N sc X'->PTs X' ifs tc) (he:∀ X',IsBlock X N sc X'->PE X' elt te)
  (hN:X.N.Nodup) (hy:X.N[i]?=some y) (hx:Loc X.env.scope y) (hf:X.fn y=true\/X.env.scope.names.lookup y=some .local)
  (hsw:swapsWith (.ListComp elt [⟨tg,iter,ifs,0⟩] sc pos) (some (.Name y py)) spos.line X.env=pure true)
  (hs:∀ x,foldedSetIterable iter X.env x=pure x:=by intro _;rfl):PS X (.Assign [.Name y py] (.ListComp elt [⟨tg,iter,ifs,0⟩] sc pos) spos) (tAsg (tLC wi cap g tc te) (zcC i)):=by
 intro pins s σ H D I h;rw [exec_Assign_Name_used _ _ _ _ hsw];refine wpAny_bind (wpAny_standAt (wpAny_bind ?_));show wpAny _ X.A (do let _ ← comprehension (.ListComp elt [⟨tg,iter,ifs,0⟩] sc pos) sc X.env _ (newList []) false (eval iter X.env) (some (assign (.Name y py) X.env))) _ _ s
 refine wpAny_bind (wpAny_mono (wpAny_comprehension_free (use:=some (assign (.Name y py) X.env)) (Q:=fun _ s'=>SP X pins D .next s') rfl hs (rL fun x hx=>I.ok.has x (B.free x hx)) B.kind B.names
  (yU (hi pins s σ H _ I h) fun v s1 h1=>yU h1 fun itv s2 h2=>?_)) (fun _ s' hq=>wpAny_pure (wpAny_pure hq)) fun _ _ e=>e)
 obtain ⟨it,fp,tn,J,H2,e,I2,T,st2,f2,q⟩:=h2;subst e;obtain ⟨cl,cc⟩:=hcap σ I.len;refine zaM (RR:=fun acc C=>compPost (model X.prog X.w) X.A X.xe (some (assign (.Name y py) X.env)) (fun _ s'=>SP X pins D .next s') acc C) hc I2 T st2 f2 B cl cc hg ht he q fun D' C acc H' s' m hDC hD hC off I' hn qf=>?_;show wpAny _ X.A (assign (.Name y py) X.env (.ref D')) _ _ _;refine wpAny_assign_Name (pG I' hN hy hx (v:=.ref D') rfl (fun s'' I'' hsm=>?_) hf);obtain ⟨a,hsb,ha⟩:=hsm
 have hCa:C≠a:=by
  rcases ha with ha|ha
  .rw [ha];exact off.ne
  .exact (off.cl y a ha).symm
 refine ⟨m,hn.sameBut hsb hCa,fun h' hk=>⟨_,_,off.turned I'' (by rw [zU hDC.symm];exact hC) hk,qf D' hD⟩⟩
end
end L2
namespace L3
open PySem PySem.Spec PyProof.Rows L2 PySem.SeqAt
mutual
def vW:W->W->Bool
 | .non,.non=>true
 | .bl a,.bl b=>a==b
 | .bl a,.int j=>(if a then 1 else 0)==j
 | .int i,.bl b=>i==(if b then 1 else 0)
 | .int i,.int j=>i==j
 | .str x,.str y=>x==y
 | .tup xs,.tup ys=>wB xs ys
 |_,_=>false
def wB:List W->List W->Bool
 | [],[]=>true
 |x::xs,y::ys=>vW x y&&wB xs ys
 |_,_=>false
end
mutual
def kD:W->Bool
 | .ref _=>false
 | .ty _=>false
 | .lsf _=>false
 | .exc _ _ _=>false
 | .dcf _ _=>false
 | .tup ws=>wQ ws
 |_=>true
def wQ:List W->Bool
 | []=>true
 |w::ws=>kD w&&wQ ws
end
mutual
def rN:W->Nat
 | .tup ws=>qY ws+1
 |_=>0
def qY:List W->Nat
 | []=>0
 |w::ws=>max (rN w) (qY ws)
end
theorem xT {w:W} {ws:List W}:wQ (w::ws)=true↔kD w=true/\wQ ws=true:=by simp [wQ]
section
variable {X : Cx} {pins : List (Addr × Obj)} {σ : L2.St} {H : Hp} {s : Shared}
theorem W.ind {P:W->Prop} (non:P .non) (bl:∀ b,P (.bl b)) (int:∀ i,P (.int i)) (str:∀ x,P (.str x)) (ty:∀ n,P (.ty n)) (ref:∀ a,P (.ref a)) (tup:∀ ws,(∀ w∈ws,P w)->P (.tup ws)) (lsf:∀ ws,P (.lsf ws)) (exc:∀ C ns ws,P (.exc C ns ws)) (dcf:∀ ks ws,P (.dcf ks ws)):∀ w:W,P w:=fun w =>
 W.rec (motive_1:=P) (motive_2:=fun ws=>∀ w∈ws,P w) non bl int str ty ref (fun ws h=>tup ws h) (fun ws _=>lsf ws) (fun C ns ws _=>exc C ns ws) (fun ks ws _=>dcf ks ws) (fun _ h=>nomatch h) (fun w ws h hs v hv=>(List.mem_cons.mp hv).elim (fun e=>e▸h) (hs v)) w
theorem zac:∀ (ws:List W),(∀ w∈ws,kD w=true->vW w w=true)->wQ ws=true->wB ws ws=true:=by
 intro ws
 induction ws with
 |nil=>intro _ _;simp [wB]
 |cons w ws ih =>
  intro h hp;have h':=xT.mp hp;simp only [wB,h w zzT h'.1,ih (fun z hz=>h z (List.mem_cons_of_mem _ hz)) h'.2,Bool.and_self]
theorem zcH {w:W}:kD w=true->vW w w=true:=by
 induction w using W.ind with
 |non=>intro _;simp [vW]
 |bl _=>intro _;simp [vW]
 |int _=>intro _;simp [vW]
 |str _=>intro _;simp [vW]
 |ty _=>intro h;cases h
 |lsf _=>intro h;cases h
 |exc _ _ _=>intro h;cases h
 |dcf _ _=>intro h;cases h
 |ref _=>intro h;cases h
 |tup ws ih=>intro h;exact zac ws ih h
theorem pA (I:Inv X pins σ H s):∀ (xs ys:List W) (vs:List V),(∀ x∈xs,∀ (y:W) (v:V),yA X.K H x v->yA X.K H y v->kD x=true->kD y=true->x=y)->zX X.K H xs vs->zX X.K H ys vs->wQ xs=true->wQ ys=true->xs=ys:=by
 intro xs
 induction xs with
 |nil =>
  intro ys vs _ h h' _ _
  cases ys with
  |nil=>rfl
  |cons y ys=>obtain ⟨_,_,e,_⟩:=h';rw [show _=[] from h] at e;cases e
 |cons x xs ih =>
  intro ys vs hx h h' px py;obtain ⟨v,r,e,q,t⟩:=h;subst e
  cases ys with
  |nil=>cases h'
  |cons y ys =>
   obtain ⟨v',r',e',q',t'⟩:=h';cases e';rw [hx x zzT y v q q' (xT.mp px).1 (xT.mp py).1,ih ys r (fun z hz=>hx z (List.mem_cons_of_mem _ hz)) t t' (xT.mp px).2 (xT.mp py).2]
theorem zax (I:Inv X pins σ H s):∀ (x y:W) (v:V),yA X.K H x v->yA X.K H y v->kD x=true->kD y=true->x=y:=by
 intro x
 induction x using W.ind with
 |tup xs ih =>
  intro y v h h' hx hy;obtain ⟨a,vs,e,q,r⟩:=h;subst e
  cases y with
  |tup ys =>
   obtain ⟨b,us,e',q',r'⟩:=h';cases e';have:=I.tuple_inj q q';subst this;rw [pA I xs ys vs ih r r' hx hy]
  |ref _=>cases hy
  |ty _=>cases hy
  |lsf _=>cases hy
  |exc _ _ _=>cases hy
  |dcf _ _=>cases hy
  |non=>cases h'
  |bl _=>cases h'
  |int _=>cases h'
  |str _=>cases h'
 |ty _=>intro y v _ _ hx;cases hx
 |lsf _=>intro y v _ _ hx;cases hx
 |exc _ _ _=>intro y v _ _ hx;cases hx
 |dcf _ _=>intro y v _ _ hx;cases hx
 |ref _=>intro y v _ _ hx;cases hx
 |non =>
  intro y v h h' _ hy;cases h
  cases y with
  |tup ys=>obtain ⟨_,_,e,_⟩:=h';cases e
  |ref _=>cases hy
  |ty _=>cases hy
  |lsf _=>cases hy
  |exc _ _ _=>cases hy
  |dcf _ _=>cases hy
  |non=>rfl
  |bl _=>cases h'
  |int _=>cases h'
  |str _=>cases h'
 |bl _ =>
  intro y v h h' _ hy;cases h
  cases y with
  |tup ys=>obtain ⟨_,_,e,_⟩:=h';cases e
  |ref _=>cases hy
  |ty _=>cases hy
  |lsf _=>cases hy
  |exc _ _ _=>cases hy
  |dcf _ _=>cases hy
  |non=>cases h'
  |bl _=>cases h';rfl
  |int _=>cases h'
  |str _=>cases h'
 |int _ =>
  intro y v h h' _ hy;cases h
  cases y with
  |tup ys=>obtain ⟨_,_,e,_⟩:=h';cases e
  |ref _=>cases hy
  |ty _=>cases hy
  |lsf _=>cases hy
  |exc _ _ _=>cases hy
  |dcf _ _=>cases hy
  |non=>cases h'
  |bl _=>cases h'
  |int _=>cases h';rfl
  |str _=>cases h'
 |str _ =>
  intro y v h h' _ hy;cases h
  cases y with
  |tup ys=>obtain ⟨_,_,e,_⟩:=h';cases e
  |ref _=>cases hy
  |ty _=>cases hy
  |lsf _=>cases hy
  |exc _ _ _=>cases hy
  |dcf _ _=>cases hy
  |non=>cases h'
  |bl _=>cases h'
  |int _=>cases h'
  |str _=>cases h';rfl
theorem zbU (I:Inv X pins σ H s) {xs ys:List W} {vs:List V} (h:zX X.K H xs vs) (h':zX X.K H ys vs) (hx:wQ xs=true) (hy:wQ ys=true):xs=ys :=
 pA I xs ys vs (fun x _=>zax I x) h h' hx hy
def kH (xs ys:List W) (j:Nat):Bool:=match xs[j]?,ys[j]? with
 |some x,some y=>vW x y
 |_,_=>false
theorem vF:∀ xs ys:List W,((List.range (min xs.length ys.length)).all (kH xs ys)&&xs.length==ys.length)=wB xs ys
 | [],[]=>rfl
 | [],_::_=>by simp [wB]
 |_::_,[]=>by simp [wB]
 |x::xs,y::ys=>by
  have ih:=vF xs ys;simp only [List.length_cons,Nat.add_min_add_right,wB];rw [List.range_succ_eq_map,List.all_cons,List.all_map];have h0:kH (x::xs) (y::ys) 0=vW x y:=rfl;have h1:(kH (x::xs) (y::ys) ∘ Nat.succ)=kH xs ys:=by funext j;simp [kH]
  rw [h0,h1,← ih,Bool.and_assoc];congr 2;simp
theorem zcG {xs ys:List W} (h:xs.length≠ys.length):wB xs ys=false:=by
 rw [← vF];have:(xs.length==ys.length)=false:=by simpa using h
 rw [this,Bool.and_false]
theorem za5 {xs ys:List W} (h:xs.length=ys.length):(List.range xs.length).all (kH xs ys)=wB xs ys:=by
 rw [← vF,h,Nat.min_self];simp
theorem xN (I:Inv X pins σ H s) {ws:List W} {v:V} {u:Value} (h:yA X.K H (.tup ws) v) (r:zR v u):∃ a vs its,v=.ref a/\u=.ref a/\uW X.K H a vs/\zX X.K H ws vs/\zV vs its/\s.heap.IsTuple a its.toArray/\ws.length<=sizeLine:=by
 obtain ⟨a,vs,rfl,q,rs⟩:=h;obtain ⟨its,vr,it,hl⟩:=I.tuple q;exact ⟨a,vs,its,rfl,r,q,rs,vr,it,by rw [← rs.length];exact hl⟩
theorem cW (I:Inv X pins σ H s):∀ (xs ys:List W) (vs vs':List V) (us us':List Value) (A:Around),(∀ x∈xs,∀ (y:W) (v v':V) (u u':Value) (A:Around),yA X.K H x v->zR v u->yA X.K H y v'->zR v' u'->kD x=true->kD y=true->A.units+min (rN x) (rN y)<cLine->EqAt A s u u' (vW x y)) ->
  zX X.K H xs vs->zV vs us->zX X.K H ys vs'->zV vs' us'->wQ xs=true->wQ ys=true ->
  A.units+min (qY xs) (qY ys)<cLine->∀ (j:Nat) (h1:j<us.length) (h2:j<us'.length),EqAt A s us[j] us'[j] (kH xs ys j):=by
 intro xs
 induction xs with
 |nil=>intro ys vs vs' us us' A _ h r _ _ _ _ _ j h1;rw [show _=[] from h] at r;cases r;exact absurd h1 (Nat.not_lt_zero _)
 |cons x xs ih =>
  intro ys vs vs' us us' A he h r h' r' hx hy hu j h1 h2
  cases ys with
  |nil=>rw [show _=[] from h'] at r';cases r';exact absurd h2 (Nat.not_lt_zero _)
  |cons y ys =>
   obtain ⟨v,t,e,h,hs⟩:=h;obtain ⟨v',t',e',h',hs'⟩:=h';subst e;subst e'
   cases r with
   |cons r rs =>
    cases r' with
    |cons r' rs' =>
     have px:=xT.mp hx;have py:=xT.mp hy;simp only [qY] at hu
     cases j with
     |zero=>exact he x zzT y _ _ _ _ A h r h' r' px.1 py.1 (by omega)
     |succ j=>exact ih ys _ _ _ _ A (fun z hz=>he z (List.mem_cons_of_mem _ hz)) hs rs hs' rs' px.2 py.2 (by omega) j (Nat.lt_of_succ_lt_succ h1) (Nat.lt_of_succ_lt_succ h2)
theorem zdp (I:Inv X pins σ H s):∀ (x y:W) (v v':V) (u u':Value) (A:Around),yA X.K H x v->zR v u->yA X.K H y v'->zR v' u'->kD x=true->kD y=true->A.units+min (rN x) (rN y)<cLine->EqAt A s u u' (vW x y):=by
 intro x
 induction x using W.ind with
 |tup xs ih =>
  intro y v v' u u' A h r h' r' hx hy hu;obtain ⟨a,vs,its,rfl,rfl,q,rs,vr,it,_⟩:=xN I h r
  cases y with
  |tup ys =>
   obtain ⟨b,us,its',rfl,rfl,q',rs',vr',it',_⟩:=xN I h' r'
   by_cases e:a=b
   .subst e;have:=I.tuple_inj q q';subst this;have:=zbU I rs rs' hx hy;subst this;rw [show vW (.tup xs) (.tup xs)=true from zcH (w:=.tup xs) hx];exact EqAt.same _
   .show EqAt A s _ _ (wB xs ys);rw [← vF];have l1:its.toArray.size=xs.length:=by rw [zzS,← vr.length,rs.length]
    have l2:its'.toArray.size=ys.length:=by rw [zzS,← vr'.length,rs'.length]
    rw [← l1,← l2];refine EqAt.of_refs e (RcAt.tuples it it' (by simp only [rN] at hu;omega) fun j j1 j2=>?_);exact cW I xs ys _ _ _ _ A.in1 ih rs vr rs' vr' hx hy (by simp only [rN] at hu;show A.units+1+_<_;omega) j (by simpa using j1) (by simpa using j2)
  |ref _=>cases hy
  |ty _=>cases hy
  |lsf _=>cases hy
  |exc _ _ _=>cases hy
  |dcf _ _=>cases hy
  |non=>cases h';cases r';exact EqAt.tuple_none it (by omega)
  |bl _=>cases h';cases r';exact EqAt.tuple_bool _ it (by omega)
  |int _=>cases h';obtain ⟨t,rfl⟩:=r';exact EqAt.tuple_int _ _ it (by omega)
  |str _=>cases h';obtain ⟨t,rfl⟩:=r';exact EqAt.tuple_str _ _ it (by omega)
 |ty _=>intro y v v' u u' A _ _ _ _ hx;cases hx
 |lsf _=>intro y v v' u u' A _ _ _ _ hx;cases hx
 |exc _ _ _=>intro y v v' u u' A _ _ _ _ hx;cases hx
 |dcf _ _=>intro y v v' u u' A _ _ _ _ hx;cases hx
 |ref _=>intro y v v' u u' A _ _ _ _ hx;cases hx
 |non =>
  intro y v v' u u' A h r h' r' hx hy hu;cases h;cases r
  cases y with
  |tup ys=>obtain ⟨b,us,its',rfl,rfl,q',rs',vr',it',_⟩:=xN I h' r';exact EqAt.none_tuple it' (by omega)
  |ref _=>cases hy
  |ty _=>cases hy
  |lsf _=>cases hy
  |exc _ _ _=>cases hy
  |dcf _ _=>cases hy
  |non=>cases h';cases r';exact EqAt.same _
  |bl _=>cases h';cases r';exact EqAt.none_bool _
  |int _=>cases h';obtain ⟨t,rfl⟩:=r';exact EqAt.none_int _ _
  |str _=>cases h';obtain ⟨t,rfl⟩:=r';exact EqAt.none_str _ _
 |bl _ =>
  intro y v v' u u' A h r h' r' hx hy hu;cases h;cases r
  cases y with
  |tup ys=>obtain ⟨b,us,its',rfl,rfl,q',rs',vr',it',_⟩:=xN I h' r';exact EqAt.bool_tuple _ it' (by omega)
  |ref _=>cases hy
  |ty _=>cases hy
  |lsf _=>cases hy
  |exc _ _ _=>cases hy
  |dcf _ _=>cases hy
  |non=>cases h';cases r';exact EqAt.bool_none _
  |bl _=>cases h';cases r';exact EqAt.bool_bool _ _
  |int _=>cases h';obtain ⟨t,rfl⟩:=r';exact EqAt.bool_int _ _ _
  |str _=>cases h';obtain ⟨t,rfl⟩:=r';exact EqAt.bool_str _ _ _
 |int _ =>
  intro y v v' u u' A h r h' r' hx hy hu;cases h;obtain ⟨t0,rfl⟩:=r
  cases y with
  |tup ys=>obtain ⟨b,us,its',rfl,rfl,q',rs',vr',it',_⟩:=xN I h' r';exact EqAt.int_tuple _ _ it' (by omega)
  |ref _=>cases hy
  |ty _=>cases hy
  |lsf _=>cases hy
  |exc _ _ _=>cases hy
  |dcf _ _=>cases hy
  |non=>cases h';cases r';exact EqAt.int_none _ _
  |bl _=>cases h';cases r';exact EqAt.int_bool _ _ _
  |int _=>cases h';obtain ⟨t,rfl⟩:=r';exact EqAt.int_int _ _ _ _
  |str _=>cases h';obtain ⟨t,rfl⟩:=r';exact EqAt.int_str _ _ _ _
 |str _ =>
  intro y v v' u u' A h r h' r' hx hy hu;cases h;obtain ⟨t0,rfl⟩:=r
  cases y with
  |tup ys=>obtain ⟨b,us,its',rfl,rfl,q',rs',vr',it',_⟩:=xN I h' r';exact EqAt.str_tuple _ _ it' (by omega)
  |ref _=>cases hy
  |ty _=>cases hy
  |lsf _=>cases hy
  |exc _ _ _=>cases hy
  |dcf _ _=>cases hy
  |non=>cases h';cases r';exact EqAt.str_none _ _
  |bl _=>cases h';cases r';exact EqAt.str_bool _ _ _
  |int _=>cases h';obtain ⟨t,rfl⟩:=r';exact EqAt.str_int _ _ _ _
  |str _=>cases h';obtain ⟨t,rfl⟩:=r';exact EqAt.str_str _ _ _ _
theorem za6 (I:Inv X pins σ H s) {xs ys:List W} {vs vs':List V} {us us':List Value} {A:Around} (h:zX X.K H xs vs) (r:zV vs us) (h':zX X.K H ys vs') (r':zV vs' us') (hx:wQ xs=true) (hy:wQ ys=true)
  (hu:A.units+min (qY xs) (qY ys)<cLine):∀ (j:Nat) (h1:j<us.length) (h2:j<us'.length),EqAt A s us[j] us'[j] (kH xs ys j) :=
 cW I xs ys _ _ _ _ A (fun x _=>zdp I x) h r h' r' hx hy hu
end
section
variable {X : Cx} {pins : List (Addr × Obj)} {σ : L2.St} {H : Hp} {s : Shared}
theorem zfT (I:Inv X pins σ H s) (x y:W) (v v':V) (u u':Value) (A:Around) (h:yA X.K H x v) (r:zR v u) (h':yA X.K H y v') (r':zR v' u') (hx:kD x=true) (hy:kD y=true) (hu:A.units+min (rN x) (rN y)<cLine):RcAt A s u u' (vW x y)/\RcNeAt A s u u' (!vW x y):=by
 have h0:A.units<cLine:=by omega
 cases x with
 |ref _=>cases hx
 |ty _=>cases hx
 |lsf _=>cases hx
 |exc _ _ _=>cases hx
 |dcf _ _=>cases hx
 |tup xs =>
  obtain ⟨a,vs,its,rfl,rfl,q,rs,vr,it,_⟩:=xN I h r
  cases y with
  |ref _=>cases hy
  |ty _=>cases hy
  |lsf _=>cases hy
  |exc _ _ _=>cases hy
  |dcf _ _=>cases hy
  |tup ys =>
   obtain ⟨b,us,its',rfl,rfl,q',rs',vr',it',_⟩:=xN I h' r';have l1:its.toArray.size=xs.length:=by rw [zzS,← vr.length,rs.length]
   have l2:its'.toArray.size=ys.length:=by rw [zzS,← vr'.length,rs'.length]
   have key:∀ (j:Nat) (j1:j<its.toArray.size) (j2:j<its'.toArray.size),EqAt A.in1 s its.toArray[j] its'.toArray[j] (kH xs ys j):=fun j j1 j2 =>
    za6 I rs vr rs' vr' hx hy (A:=A.in1) (by simp only [rN] at hu;show A.units+1+_<_;omega) j (by simpa using j1) (by simpa using j2)
   show RcAt A s _ _ (wB xs ys)/\RcNeAt A s _ _ (!wB xs ys);rw [← vF,← l1,← l2];exact ⟨RcAt.tuples it it' h0 key,RcNeAt.tuples it it' h0 key⟩
  |non=>cases h';cases r';exact ⟨RcAt.tuple_none it h0,RcNeAt.tuple_none it h0⟩
  |bl _=>cases h';cases r';exact ⟨RcAt.tuple_bool _ it h0,RcNeAt.tuple_bool _ it h0⟩
  |int _=>cases h';obtain ⟨t,rfl⟩:=r';exact ⟨RcAt.tuple_int _ _ it h0,RcNeAt.tuple_int _ _ it h0⟩
  |str _=>cases h';obtain ⟨t,rfl⟩:=r';exact ⟨RcAt.tuple_str _ _ it h0,RcNeAt.tuple_str _ _ it h0⟩
 |non =>
  cases h;cases r
  cases y with
  |ref _=>cases hy
  |ty _=>cases hy
  |lsf _=>cases hy
  |exc _ _ _=>cases hy
  |dcf _ _=>cases hy
  |tup ys=>obtain ⟨b,us,its',rfl,rfl,q',rs',vr',it',_⟩:=xN I h' r';exact ⟨RcAt.none_tuple it' h0,RcNeAt.none_tuple it' h0⟩
  |non=>cases h';cases r';exact ⟨RcAt.none_none,RcNeAt.none_none⟩
  |bl _=>cases h';cases r';exact ⟨RcAt.none_bool _,RcNeAt.none_bool _⟩
  |int _=>cases h';obtain ⟨t,rfl⟩:=r';exact ⟨RcAt.none_int _ _,RcNeAt.none_int _ _⟩
  |str _=>cases h';obtain ⟨t,rfl⟩:=r';exact ⟨RcAt.none_str _ _,RcNeAt.none_str _ _⟩
 |bl _ =>
  cases h;cases r
  cases y with
  |ref _=>cases hy
  |ty _=>cases hy
  |lsf _=>cases hy
  |exc _ _ _=>cases hy
  |dcf _ _=>cases hy
  |tup ys=>obtain ⟨b,us,its',rfl,rfl,q',rs',vr',it',_⟩:=xN I h' r';exact ⟨RcAt.bool_tuple _ it' h0,RcNeAt.bool_tuple _ it' h0⟩
  |non=>cases h';cases r';exact ⟨RcAt.bool_none _,RcNeAt.bool_none _⟩
  |bl _=>cases h';cases r';exact ⟨RcAt.bool_bool _ _,RcNeAt.bool_bool _ _⟩
  |int _=>cases h';obtain ⟨t,rfl⟩:=r';exact ⟨RcAt.bool_int _ _ _,RcNeAt.bool_int _ _ _⟩
  |str _=>cases h';obtain ⟨t,rfl⟩:=r';exact ⟨RcAt.bool_str _ _ _,RcNeAt.bool_str _ _ _⟩
 |int _ =>
  cases h;obtain ⟨t0,rfl⟩:=r
  cases y with
  |ref _=>cases hy
  |ty _=>cases hy
  |lsf _=>cases hy
  |exc _ _ _=>cases hy
  |dcf _ _=>cases hy
  |tup ys=>obtain ⟨b,us,its',rfl,rfl,q',rs',vr',it',_⟩:=xN I h' r';exact ⟨RcAt.int_tuple _ _ it' h0,RcNeAt.int_tuple _ _ it' h0⟩
  |non=>cases h';cases r';exact ⟨RcAt.int_none _ _,RcNeAt.int_none _ _⟩
  |bl _=>cases h';cases r';exact ⟨RcAt.int_bool _ _ _,RcNeAt.int_bool _ _ _⟩
  |int _=>cases h';obtain ⟨t,rfl⟩:=r';exact ⟨RcAt.int_int _ _ _ _,RcNeAt.int_int _ _ _ _⟩
  |str _=>cases h';obtain ⟨t,rfl⟩:=r';exact ⟨RcAt.int_str _ _ _ _,RcNeAt.int_str _ _ _ _⟩
 |str _ =>
  cases h;obtain ⟨t0,rfl⟩:=r
  cases y with
  |ref _=>cases hy
  |ty _=>cases hy
  |lsf _=>cases hy
  |exc _ _ _=>cases hy
  |dcf _ _=>cases hy
  |tup ys=>obtain ⟨b,us,its',rfl,rfl,q',rs',vr',it',_⟩:=xN I h' r';exact ⟨RcAt.str_tuple _ _ it' h0,RcNeAt.str_tuple _ _ it' h0⟩
  |non=>cases h';cases r';exact ⟨RcAt.str_none _ _,RcNeAt.str_none _ _⟩
  |bl _=>cases h';cases r';exact ⟨RcAt.str_bool _ _ _,RcNeAt.str_bool _ _ _⟩
  |int _=>cases h';obtain ⟨t,rfl⟩:=r';exact ⟨RcAt.str_int _ _ _ _,RcNeAt.str_int _ _ _ _⟩
  |str _=>cases h';obtain ⟨t,rfl⟩:=r';exact ⟨RcAt.str_str _ _ _ _,RcNeAt.str_str _ _ _ _⟩
theorem bI (I:Inv X pins σ H s) {G:Hw} {p:Addr} {ws:List W} (ab:yF X.K H G) (e:zI G p=some ws):∃ vs its,tW X.K H p vs/\zX X.K H ws vs/\zV vs its/\s.heap.IsList p its.toArray/\PlainL s.heap p its.toArray/\ws.length<=sizeLine:=by
 obtain ⟨vs,q,r⟩:=ab.seq e;obtain ⟨its,vr,pl,hl⟩:=I.list q;exact ⟨vs,its,q,r,vr,(let ⟨o,n,h1,h2,_,h3⟩:=pl;⟨o,h1,h2,n,h3⟩),pl,by rw [← r.length];exact hl⟩
theorem zfU (I:Inv X pins σ H s) {G:Hw} {p q:Addr} {xs ys:List W} {A:Around} (ab:yF X.K H G) (e:zI G p=some xs) (e':zI G q=some ys) (hx:wQ xs=true) (hy:wQ ys=true) (hu:A.units+1+min (qY xs) (qY ys)<cLine) :
  RcAt A s (.ref p) (.ref q) (wB xs ys)/\RcNeAt A s (.ref p) (.ref q) (!wB xs ys):=by
 obtain ⟨vs,its,_,rs,vr,il,_⟩:=bI I ab e;obtain ⟨us,its',_,rs',vr',il',_⟩:=bI I ab e';have h0:A.units<cLine:=by omega
 have l1:its.toArray.size=xs.length:=by rw [zzS,← vr.length,rs.length]
 have l2:its'.toArray.size=ys.length:=by rw [zzS,← vr'.length,rs'.length]
 have key:∀ (j:Nat) (j1:j<its.toArray.size) (j2:j<its'.toArray.size),EqAt A.in1 s its.toArray[j] its'.toArray[j] (kH xs ys j):=fun j j1 j2 =>
  za6 I rs vr rs' vr' hx hy (A:=A.in1) hu j (by simpa using j1) (by simpa using j2)
 by_cases hl:xs.length=ys.length
 .rw [← za5 hl,← l1];exact ⟨RcAt.lists il il' (by omega) h0 key,RcNeAt.lists il il' (by omega) h0 key⟩
 .rw [zcG hl];have:(its.toArray.size != its'.toArray.size)=true:=by simp only [bne_iff_ne];omega
  exact ⟨RcAt.lists_lengths il il' this h0,RcNeAt.lists_lengths il il' this h0⟩
end
end L3
namespace PySem
open Sem (wp)
open Builtin
theorem pJ:fillsNumberSlot (.type "tuple") "mul" = pure false :=
 fillsNumberSlot_seq (id := "tuple.__mul__") (r:=some (.builtin "tuple.__rmul__")) F.slot_tuple_mul.lookup (by decide +kernel) F.slot_tuple_rmul.lookup (by decide +kernel)
theorem pK:seqRepeat? (.type "tuple")=pure (some (.builtin "tuple.__mul__")):=by
 unfold seqRepeat?;rw [seqSlot_of (T := "tuple") (name := "__mul__") (id := "tuple.__mul__") F.slot_tuple_mul.lookup (by decide +kernel),seqSlot_of (T := "tuple") (name := "__rmul__") (id := "tuple.__rmul__") F.slot_tuple_rmul.lookup (by decide +kernel)];rfl
theorem zan (a:Int) (t:Tok) (l:Addr) (items:Array Value) (n:Nat) (dd:Option Addr) (sl:Array (Option Value)) :
  Meets (Builtin.«int.__rmul__» ⟨[.int a t,.ref l],[]⟩) (fun _ R s=>s.heap.get? l=some { cls:=.type "tuple", dict:=dd,data:=.seq items n,slots:=sl }/\R (.ok (.ret Value.notImplemented)) s) :=
 .of_wp fun prog w A R s h=>by obtain ⟨hp,g,d,tk,os⟩:=s;obtain ⟨hl,h⟩:=h;wp_walk;exact ⟨_,rfl,h⟩
theorem zfq (l:Addr) (items:Array Value) (n:Nat) (u:Tok) (dd:Option Addr) (sl:Array (Option Value)) :
  Meets (Builtin.«tuple.__mul__» ⟨[.ref l,.int 1 u],[]⟩) (fun _ R s=>s.heap.get? l=some { cls:=.type "tuple", dict:=dd,data:=.seq items n,slots:=sl }/\R (.ok (.ret (Value.ref l))) s) :=
 .of_wp fun prog w A R s h=>by obtain ⟨hp,g,d,tk,os⟩:=s;obtain ⟨hl,h⟩:=h;wp_walk;exact ⟨_,rfl,h⟩
theorem zdC (l:Addr) (items:Array Value) (n:Nat) (u:Tok) (dd:Option Addr) (sl:Array (Option Value)) (hi:items.isEmpty=false) :
  Meets (Builtin.«tuple.__mul__» ⟨[.ref l,.int 0 u],[]⟩) (fun _ R s=>s.heap.get? l=some { cls:=.type "tuple", dict:=dd,data:=.seq items n,slots:=sl }/\R (.ok (.ret (Value.ref s.heap.objs.size))) { s with heap:=s.heap.push { cls:=.type "tuple", data:=.seq #[] } }) :=
 .of_wp fun prog w A R s h=>by obtain ⟨hp,g,d,tk,os⟩:=s;obtain ⟨hl,h⟩:=h;wp_walk;exact ⟨_,rfl,h⟩
end PySem
namespace L3
open PySem PySem.Spec PyProof.Rows L2
section
variable {X : Cx}
def rRepT (K:zE):R2:=fun x y H Q=>∃ a k xs,x=.ref a/\y=.int k/\uW K H a xs/\((k=1/\Q (.ref a) H)\/(k=0/\xs≠[]/\∀ p,H p=none->Q (.ref p) (yN H p (.tup []))))
theorem zeb:jL X (binaryOp .Mult) (rRepT X.K):=by
 intro pins s σ H x y v u Q I rx ry h;obtain ⟨a,k,xs,rfl,rfl,ha,h⟩:=h;cases rx;obtain ⟨t,rfl⟩:=ry;obtain ⟨its,r1,p1,_⟩:=I.tuple ha;obtain ⟨⟨cls,dd,data,sl⟩,ho,hc,n,hd⟩:=id p1;simp only at hc hd;subst hc hd;rcases h with ⟨rfl,q⟩|⟨rfl,hx,q⟩
 .exact wpAny_binaryOp_repeat_ref (T := "tuple") (U := "int") (by decide) ⟨_,ho,rfl⟩ (fun s'=>typeIs_int s' 1 t) pJ F.fills_int_mul F.slot_int_rmul pK F.slot_int_index.lookup
   (call_meets F.slot_int_rmul (typeIs_int s 1 t) F.entry_int_rmul (F.args_int_rmul_2 _ _) (zan 1 t a its.toArray n dd sl)
    ⟨ho,rfl,⟨_,ho,rfl⟩,call_meets F.slot_tuple_mul ⟨_,ho,rfl⟩ F.entry_tuple_mul (F.args_tuple_mul_2 _ _) (zfq a its.toArray n t dd sl) ⟨ho,.ref a,H,I,rfl,q⟩⟩)
 .have he:its.toArray.isEmpty=false:=by
   cases its with
   |nil=>exact absurd (r1.nil_iff.mp rfl) hx
   |cons _ _=>rfl
  refine wpAny_binaryOp_repeat_ref (T := "tuple") (U := "int") (by decide) ⟨_,ho,rfl⟩ (fun s'=>typeIs_int s' 0 t) pJ F.fills_int_mul F.slot_int_rmul pK F.slot_int_index.lookup
   (call_meets F.slot_int_rmul (typeIs_int s 0 t) F.entry_int_rmul (F.args_int_rmul_2 _ _) (zan 0 t a its.toArray n dd sl)
    ⟨ho,rfl,⟨_,ho,rfl⟩,call_meets F.slot_tuple_mul ⟨_,ho,rfl⟩ F.entry_tuple_mul (F.args_tuple_mul_2 _ _) (zdC a its.toArray n t dd sl he) ⟨ho,?_⟩⟩)
  refine ⟨.ref s.heap.objs.size,_,I.laid (t':=s.toks) (o:=.tup []) (fun b ob q=>Heap.get?_push_of_some _ q) (zzR _) ?_,rfl,q _ (I.hok.fresh (zzR _))⟩;exact ⟨Nat.zero_le _,[],.nil,IsTup.new _ _⟩
def rRepS:R2:=fun x y H Q=>∃ i k,x=.str i/\y=.int k/\((k=1/\Q (.str i) H)\/(k=0/\Q (.str Str.empty) H))
theorem zec:jL X (binaryOp .Mult) rRepS:=by
 intro pins s σ H x y v u Q I rx ry h;obtain ⟨i,k,rfl,rfl,h⟩:=h;obtain ⟨t,rfl⟩:=rx;obtain ⟨t2,rfl⟩:=ry;rcases h with ⟨rfl,q⟩|⟨rfl,q⟩
 .refine PySem.P.mul_str (by decide) (fun _ z=>absurd z (by simp)) (fun _ z=>absurd z (by simp)) ?_;rw [if_neg (by decide),if_pos (by simp)];exact ⟨.str i,H,I,⟨t,rfl⟩,q⟩
 .exact PySem.P.mul_str_none (by decide) (by decide) ⟨.str Str.empty,H,I.tok _ (Nat.lt_succ_of_lt I.tk),⟨_,rfl⟩,q⟩
end
end L3
namespace L3
open PySem PySem.Spec PyProof.Rows L2 PySem.SeqAt
abbrev R3:=W->W->Hw->Q3->Prop
def kP (K:zE) (H:Hp) (Q:VK):Q3:=fun w G'=>∀ v H',zB K H H'->yA K H' w v->yF K H' G'->Q v H'
def tU (r:R3):Prop:=∀ x y G (Q Q':Q3),(∀ w G',Q w G'->Q' w G')->r x y G Q->r x y G Q'
def uN (K:zE) (r:R3):R2:=fun v u H Q=>∃ x y G,yA K H x v/\yA K H y u/\yF K H G/\r x y G (kP K H Q)
def qN:Operator->R3
 | .Add=>fun x y G Q=>match x,y with
  | .int i,.int j=>Q (.int (i+j)) G
  | .str a,.str b=>a.length+b.length<=sizeLine/\Q (.str (a++b)) G
  | .tup a,.tup b=>a.length+b.length<=sizeLine/\Q (.tup (a++b)) G
  | .ref p,.ref q=>(match G p,G q with
   |some (.lst xs),some (.lst ys)=>xs.length+ys.length<=sizeLine/\∀ r,G r=none->Q (.ref r) (put G r (.lst (xs++ys)))
   |_,_=>False)
  |_,_=>False
 | .Sub=>fun x y G Q=>match x,y with
  | .int i,.int j=>Q (.int (i-j)) G
  |_,_=>False
 | .Mult=>fun x y G Q=>match x,y with
  | .int i,.int j=>gA i j/\Q (.int (i * j)) G
  | .tup xs,.int k=>(k=1/\Q (.tup xs) G)\/(k=0/\xs≠[]/\Q (.tup []) G)
  | .str a,.int k=>(k=1/\Q (.str a) G)\/(k=0/\Q (.str Str.empty) G)
  | .ref p,.int k=>(match G p with
   |some (.lst xs)=>(-(2 ^ 63)<=k/\k<2 ^ 63/\xs.length * k.toNat<=sizeLine)/\∀ r,G r=none->Q (.ref r) (put G r (.lst (List.replicate k.toNat xs).flatten))
   |_=>False)
  |_,_=>False
 | .Mod=>fun x y G Q=>match x,y with
  | .int i,.int j=>0<j/\Q (.int (i % j)) G
  |_,_=>False
 | .FloorDiv=>fun x y G Q=>match x,y with
  | .int i,.int j=>CDiv i j/\Q (.int (i / j)) G
  |_,_=>False
 | .Pow=>fun x y G Q=>match x,y with
  | .int i,.int j=>CPow i j/\Q (.int (i ^ j.toNat)) G
  |_,_=>False
 |_=>fun _ _ _ _=>False
theorem mY:∀ op,tU (qN op):=by
 intro op x y G Q Q' k h
 cases op with
 |Add =>
  cases x with
  |int i=>cases y with
   |int j=>exact k _ _ h
   |_=>exact h.elim
  |str i=>cases y with
   |str j=>exact ⟨h.1,k _ _ h.2⟩
   |_=>exact h.elim
  |tup a=>cases y with
   |tup b=>exact ⟨h.1,k _ _ h.2⟩
   |_=>exact h.elim
  |ref p=>cases y with
   |ref q =>
    simp only [qN] at h ⊢
    split at h
    .exact ⟨h.1,fun r hr=>k _ _ (h.2 r hr)⟩
    .exact h.elim
   |_=>exact h.elim
  |_=>exact h.elim
 |Mult =>
  cases x with
  |int i=>cases y with
   |int j=>exact ⟨h.1,k _ _ h.2⟩
   |_=>exact h.elim
  |tup a=>cases y with
   |int j=>exact h.imp (fun z=>⟨z.1,k _ _ z.2⟩) fun z=>⟨z.1,z.2.1,k _ _ z.2.2⟩
   |_=>exact h.elim
  |str a=>cases y with
   |int j=>exact h.imp (fun z=>⟨z.1,k _ _ z.2⟩) fun z=>⟨z.1,k _ _ z.2⟩
   |_=>exact h.elim
  |ref p=>cases y with
   |int q =>
    simp only [qN] at h ⊢
    split at h
    .exact ⟨h.1,fun r hr=>k _ _ (h.2 r hr)⟩
    .exact h.elim
   |_=>exact h.elim
  |_=>exact h.elim
 |Sub =>
  cases x with
  |int i=>cases y with
   |int j=>exact k _ _ h
   |_=>exact h.elim
  |_=>exact h.elim
 |Mod =>
  cases x with
  |int i=>cases y with
   |int j=>exact ⟨h.1,k _ _ h.2⟩
   |_=>exact h.elim
  |_=>exact h.elim
 |FloorDiv =>
  cases x with
  |int i=>cases y with
   |int j=>exact ⟨h.1,k _ _ h.2⟩
   |_=>exact h.elim
  |_=>exact h.elim
 |Pow =>
  cases x with
  |int i=>cases y with
   |int j=>exact ⟨h.1,k _ _ h.2⟩
   |_=>exact h.elim
  |_=>exact h.elim
 |_=>exact h.elim
section
variable {X : Cx}
theorem zX.nil_iff {K:zE} {H:Hp} {ws:List W} {vs:List V} (h:zX K H ws vs):vs=[]↔ws=[]:=by
 have:=h.length
 constructor
 .intro e;subst e;exact List.eq_nil_of_length_eq_zero this.symm
 .intro e;subst e;exact List.eq_nil_of_length_eq_zero this
theorem ze8 {pins:List (Addr×Obj)} {s:Shared} {σ:L2.St} {H:Hp} {a b:Addr} {Q:Value->Shared->Prop} {E:Value->Shared->Prop} {ws:List Value} (ht:IsTup s.heap a #[]) (hb:IsTup s.heap b ws.toArray) (h:Q (.ref b) s) :
  wpAny (model X.prog X.w) X.A (binaryOp .Add (.ref a) (.ref b)) Q E s:=by
 obtain ⟨⟨cls,dd,data,sl⟩,ho,hc,n,hd⟩:=id ht;obtain ⟨⟨cls2,dd2,data2,sl2⟩,ho2,hc2,n2,hd2⟩:=id hb;simp only at hc hd hc2 hd2;subst hc hd hc2 hd2
 exact concat_meets ⟨_,ho,rfl⟩ ⟨_,ho2,rfl⟩ noFill_tuple_add seq_tuple_add PySem.F.slot_tuple_add PySem.F.entry_tuple_add (PySem.F.args_tuple_add_2 _ _)
  (tuple_addW0 a b #[] ws.toArray n n2 dd dd2 sl sl2 rfl) ⟨ho,ho2,h⟩
theorem jV {K:zE} {H:Hp} {G:Hw} {Q:VK} {ws:List W} {vs:List V} (ab:yF K H G) (r:zX K H ws vs) (h:∀ p,G p=none->kP K H Q (.ref p) (put G p (.lst ws))):∀ p,H p=none->Q (.ref p) (yN H p (.lst vs)):=fun p hp =>
 h p (ab.free hp) _ _ (yH hp) rfl (ab.new hp ⟨vs,rfl,r.mono (yH hp)⟩)
theorem tK {K:zE} {H:Hp} {G:Hw} {Q:VK} {ws:List W} {vs:List V} (ab:yF K H G) (r:zX K H ws vs) (h:kP K H Q (.tup ws) G):∀ p,H p=none->Q (.ref p) (yN H p (.tup vs)):=fun p hp =>
 h _ _ (yH hp) ⟨p,vs,rfl,.of xZ,r.mono (yH hp)⟩ (ab.tup hp)
theorem zX.flat {K:zE} {H:Hp} {ws:List W} {vs:List V} (h:zX K H ws vs):∀ k:Nat,zX K H (List.replicate k ws).flatten (List.replicate k vs).flatten
 | 0=>rfl
 |k+1=>by rw [List.replicate_succ,List.replicate_succ,List.flatten_cons,List.flatten_cons];exact h.append (zX.flat h k)
theorem zhg (op:Operator):jL X (binaryOp op) (uN X.K (qN op)):=by
 intro pins s σ H v u a b Q I rv ru h;obtain ⟨x,y,G,rx,ry,ab,h⟩:=h
 cases op with
 |Add =>
  cases x with
  |int i =>
   cases y with
   |int j=>cases rx;cases ry;exact zgo pins s σ H _ _ _ _ Q I rv ru ⟨i,j,rfl,rfl,h _ _ .refl rfl ab⟩
   |_=>exact h.elim
  |str i =>
   cases y with
   |str j=>cases rx;cases ry;exact bP pins s σ H _ _ _ _ Q I rv ru ⟨i,j,rfl,rfl,h.1,h.2 _ _ .refl rfl ab⟩
   |_=>exact h.elim
  |tup xs =>
   cases y with
   |tup ys =>
    obtain ⟨a1,vs,its,rfl,rfl,q,rs,vr,it,_⟩:=xN I rx rv;obtain ⟨b1,us,its',rfl,rfl,q',rs',vr',it',_⟩:=xN I ry ru
    by_cases e:xs=[]
    .subst e;have e1:vs=[]:=(rs.nil_iff).mpr rfl;subst e1;cases vr;exact ze8 (pins:=pins) (σ:=σ) (H:=H) it it' ⟨.ref b1,H,I,rfl,h.2 _ _ .refl ⟨b1,us,rfl,q',rs'⟩ ab⟩
    .refine zee pins s σ H (.ref a1) (.ref b1) _ _ Q I rfl rfl ⟨a1,b1,vs,us,rfl,rfl,q,q',fun z=>e (rs.nil_iff.mp z),by rw [rs.length,rs'.length];exact h.1,fun z=>?_,fun _=>?_⟩
     .have:ys=[]:=rs'.nil_iff.mp z;subst this;exact h.2 _ _ .refl ⟨a1,vs,rfl,q,by rw [List.append_nil];exact rs⟩ ab
     .exact tK ab (rs.append rs') h.2
   |_=>exact h.elim
  |ref p =>
   cases y with
   |ref q =>
    cases rx;cases ry;simp only [qN] at h
    split at h
    .rename_i xs ys e1 e2;obtain ⟨vs,q1,r1⟩:=ab.lst e1;obtain ⟨us,q2,r2⟩:=ab.lst e2;exact zgn pins s σ H _ _ _ _ Q I rv ru ⟨p,q,vs,us,rfl,rfl,q1,q2,by rw [r1.length,r2.length];exact h.1,jV ab (r1.append r2) h.2⟩
    .exact h.elim
   |_=>exact h.elim
  |_=>exact h.elim
 |Sub =>
  cases x with
  |int i =>
   cases y with
   |int j=>cases rx;cases ry;exact zgi pins s σ H _ _ _ _ Q I rv ru ⟨i,j,rfl,rfl,h _ _ .refl rfl ab⟩
   |_=>exact h.elim
  |_=>exact h.elim
 |Mult =>
  cases x with
  |int i =>
   cases y with
   |int j=>cases rx;cases ry;exact zgl pins s σ H _ _ _ _ Q I rv ru ⟨i,j,rfl,rfl,h.1,h.2 _ _ .refl rfl ab⟩
   |_=>exact h.elim
  |tup xs =>
   cases y with
   |int k =>
    obtain ⟨a1,vs,its,rfl,rfl,q,rs,vr,it,_⟩:=xN I rx rv;cases ry;refine zeb pins s σ H (.ref a1) (.int k) _ _ Q I rfl ru ⟨a1,k,vs,rfl,rfl,q,?_⟩;rcases h with ⟨e,h⟩|⟨e,hx,h⟩
    .exact .inl ⟨e,h _ _ .refl ⟨a1,vs,rfl,q,rs⟩ ab⟩
    .exact .inr ⟨e,fun z=>hx (rs.nil_iff.mp z),tK ab (ws:=[]) (vs:=[]) rfl h⟩
   |_=>exact h.elim
  |str i =>
   cases y with
   |int k =>
    cases rx;cases ry;exact zec pins s σ H _ _ _ _ Q I rv ru ⟨i,k,rfl,rfl,h.imp (fun z=>⟨z.1,z.2 _ _ .refl rfl ab⟩) fun z=>⟨z.1,z.2 _ _ .refl rfl ab⟩⟩
   |_=>exact h.elim
  |ref p =>
   cases y with
   |int k =>
    cases rx;cases ry;simp only [qN] at h
    split at h
    .rename_i xs e1;obtain ⟨vs,q1,r1⟩:=ab.lst e1;exact zgj pins s σ H _ _ _ _ Q I rv ru ⟨p,k,vs,rfl,rfl,q1,h.1.1,h.1.2.1,by rw [r1.length];exact h.1.2.2,jV ab (r1.flat _) h.2⟩
    .exact h.elim
   |_=>exact h.elim
  |_=>exact h.elim
 |Mod =>
  cases x with
  |int i =>
   cases y with
   |int j=>cases rx;cases ry;exact zgm pins s σ H _ _ _ _ Q I rv ru ⟨i,j,rfl,rfl,h.1,h.2 _ _ .refl rfl ab⟩
   |_=>exact h.elim
  |_=>exact h.elim
 |FloorDiv =>
  cases x with
  |int i =>
   cases y with
   |int j=>cases rx;cases ry;exact zed pins s σ H _ _ _ _ Q I rv ru ⟨i,j,rfl,rfl,h.1,h.2 _ _ .refl rfl ab⟩
   |_=>exact h.elim
  |_=>exact h.elim
 |Pow =>
  cases x with
  |int i =>
   cases y with
   |int j=>cases rx;cases ry;exact zgk pins s σ H _ _ _ _ Q I rv ru ⟨i,j,rfl,rfl,h.1,h.2 _ _ .refl rfl ab⟩
   |_=>exact h.elim
  |_=>exact h.elim
 |_=>exact h.elim
end
theorem rY {k:Str}:∀ {es:List DictEntry} {ks:List Str} {vs:List V},zcX es ks vs->(es.all fun e=>isExactStrKey e.key)=true/\(match (ks.zip vs).lookup k with
  |some v=>∃ u,(es.find? fun e=>e.key.isStr k).map (·.val)=some u/\zR v u
  |none=>(es.find? fun e=>e.key.isStr k).map (·.val)=none)
 | [],ks,vs,h=>by obtain ⟨rfl,rfl⟩:=h;exact ⟨rfl,rfl⟩
 |e::r,ks,vs,h=>by
  obtain ⟨x,t,v,ks',vs',rfl,rfl,hk,hv,hr⟩:=h;have ih:=rY (k:=k) hr;refine ⟨by rw [List.all_cons,hk,ih.1];rfl,?_⟩;rw [List.zip_cons_cons,List.lookup_cons,List.find?_cons,KTD.key_is hk k]
  by_cases hx:k=x
  .subst hx;simp only [beq_self_eq_true,decide_true];exact ⟨e.val,rfl,hv⟩
  .have e1:(k==x)=false:=by simpa using hx
   rw [e1,decide_eq_false hx];exact ih.2
theorem zdl {X:Cx} {pins:List (Addr×Obj)} {σ:L2.St} {H:Hp} {s:Shared} {a:Addr} {ks:List Str} {vs:List V} {k:Str} {tk:Tok} {A:Around} {Q:Option Value->Shared->Prop} {E:Value->Shared->Prop} (I:Inv X pins σ H s) (h:KD X.K a ks vs)
  (q:match (ks.zip vs).lookup k with|some v=>∀ u s',zR v u->Inv X pins σ H s'->Q (some u) s'|none=>∀ s',Inv X pins σ H s'->Q none s'):wpAny (model X.prog X.w) A (dictGet a (.str k tk)) Q E s:=by
 obtain ⟨o,es,ep,l,_,hd,_,_,hr⟩:=h;have ho:=I.kIn _ _ l;obtain ⟨hx,hf⟩:=rY (k:=k) hr;have J:Inv X pins σ H { s with toks:=s.toks+1 }:=I.tok _;unfold dictGet
 try with_reducible refine wpAny_holding ?_
 refine wpAny_bind (wpAny_pyHash_str (wpAny_bind ?_));refine KTD.kt_dictFind_strs (s:={ s with toks:=s.toks+1 }) ho hd (by obtain ⟨es'⟩:=es;simpa using hx) ?_
 have key:Q (findBy (fun k v=>v.isStr k) es k) { s with toks:=s.toks+1 }:=by
  have e:findBy (fun k v=>v.isStr k) es k=(es.toList.find? fun e=>e.key.isStr k).map (·.val):=by obtain ⟨es'⟩:=es;simp [findBy]
  rw [e];revert q hf
  cases (ks.zip vs).lookup k with
  |some v=>intro q hf;obtain ⟨u,e1,r⟩:=hf;rw [e1];exact q u _ r J
  |none=>intro q hf;rw [hf];exact q _ J
 rw [findBy_of_findIdx?] at key;revert key
 cases es.findIdx? fun e=>e.key.isStr k with
 |none=>exact fun key=>wpAny_pure key
 |some i=>exact fun key=>wpAny_bind (wpAny_dictEntries (s:={ s with toks:=s.toks+1 }) ho hd (wpAny_pure key))
theorem zgJ {X:Cx} {pins:List (Addr×Obj)} {σ:L2.St} {H:Hp} {s:Shared} {a:Addr} {ks:List Str} {vs:List V} (I:Inv X pins σ H s) (h:KD X.K a ks vs):s.TypeIs (.ref a) "dict" := by
 obtain ⟨o,es,ep,l,hc,_⟩:=h;exact ⟨o,I.kIn _ _ l,hc.1⟩
theorem qF {K:zE} {H:Hp} {k:Str} {w:W}:∀ {ks:List Str} {ws:List W} {vs:List V},zX K H ws vs->(ks.zip ws).lookup k=some w->∃ v,(ks.zip vs).lookup k=some v/\yA K H w v
 | [],ws,vs,_,e=>by simp at e
 |x::ks,[],vs,_,e=>by simp at e
 |x::ks,y::ws,vs,r,e=>by
  obtain ⟨v,vs',rfl,rv,rs⟩:=r;rw [List.zip_cons_cons,List.lookup_cons] at e ⊢
  cases hx:(k==x) with
  |true=>rw [hx] at e;cases e;exact ⟨v,rfl,rv⟩
  |false=>rw [hx] at e;exact qF rs e
theorem uC {K:zE} {H:Hp} {k:Str}:∀ {ks:List Str} {ws:List W} {vs:List V},zX K H ws vs->(ks.zip ws).lookup k=none->(ks.zip vs).lookup k=none
 | [],ws,vs,_,e=>by simp
 |x::ks,[],vs,r,e=>by rw [show vs=[] from r];rfl
 |x::ks,y::ws,vs,r,e=>by
  obtain ⟨v,vs',rfl,rv,rs⟩:=r;rw [List.zip_cons_cons,List.lookup_cons] at e ⊢
  cases hx:(k==x) with
  |true=>rw [hx] at e;cases e
  |false=>rw [hx] at e;exact uC rs e
theorem zdk {X:Cx} {pins:List (Addr×Obj)} {σ:L2.St} {H:Hp} {s:Shared} {a:Addr} {ks:List Str} {vs:List V} {k:Str} {tk:Tok} {A:Around} {Q:Bool->Shared->Prop} {E:Value->Shared->Prop} (I:Inv X pins σ H s) (h:KD X.K a ks vs)
  (q:∀ s',Inv X pins σ H s'->Q ((ks.zip vs).lookup k).isSome s'):wpAny (model X.prog X.w) A (contains (.ref a) (.str k tk)) Q E s:=by
 have hT:=zgJ I h;have hd:(a==sysModules)=false:=by obtain ⟨o,es,ep,l,_,_,_,z,_⟩:=h;exact z
 have nn:¬ ((some (Value.builtin "dict.__contains__")==some Value.none)=true):=by rw [beq_builtin_none];simp
 unfold contains;refine wpAny_holding (wpAny_bind (wpAny_specialOf hT PySem.F.slot_dict_contains.lookup ?_));dsimp only;rw [if_neg nn];refine wpAny_bind (wpAny_callSpecialUnlessNone?_slot (name:=Str.ofString "__contains__") hT PySem.F.slot_dict_contains (wpAny_call_entry PySem.F.slot_dict_contains hT PySem.F.entry_dict_contains (show wpAny _ _ (dictGet a (.str k tk) >>= _) _ _ s from wpAny_bind (zdl I h ?_)) (PySem.F.args_dict_contains_2 _ _)));revert q
 cases (ks.zip vs).lookup k with
 |some v=>exact fun q u s' r J=>wpAny_pure ⟨_,rfl,wpAny_truthy_bool (q s' J)⟩
 |none=>exact fun q s' J=>wpAny_bind (wpAny_pendingKey_other hd (wpAny_pure ⟨_,rfl,wpAny_truthy_bool (q s' J)⟩))
def eqG (G:Hw):W->W->Option Bool
 | .ref p,.ref q=>match zI G p,zI G q with
  |some a,some b=>if (wQ a&&wQ b&&decide (min (qY a) (qY b)<=150))=true then some (wB a b) else none
  |_,_=>none
 |x,y=>if (kD x&&kD y&&decide (min (rN x) (rN y)<=150))=true then some (vW x y) else none
def inR (neg:Bool) (x:W) (ws:List W) (G:Hw) (Q:Q3):Prop:=(kD x=true/\wQ ws=true/\min (qY ws) (rN x)<=150)/\Q (.bl (if neg then !ws.any fun w=>vW w x else ws.any fun w=>vW w x)) G
def inStr (neg:Bool) (i j:Str):Bool:=if neg then !(!(Builtin.Str.occurrences j i 0 j.length 1).isEmpty) else !(Builtin.Str.occurrences j i 0 j.length 1).isEmpty
def kF:W->Option yW
 | .int i=>some (.inl i)
 | .str x=>some (.inr x)
 |_=>none
def bF {α:Type} (kvs:List (yW×α)) (k:yW):Bool:=kvs.any fun p=>decide (p.1=k)
def sE (neg:Bool):R3:=fun x y G Q=>match y with
 | .tup ws=>inR neg x ws G Q
 | .ref p=>(match G p with
  |some (.lst ws)=>inR neg x ws G Q
  |some (.fix ws)=>inR neg x ws G Q
  |some (.dic kvs)=>(match kF x with|some k=>Q (.bl (if neg then !bF kvs k else bF kvs k)) G|none=>False)
  |_=>False)
 | .str j=>(match x with
  | .str i=>Q (.bl (inStr neg i j)) G
  |_=>False)
 | .dcf ks ws=>(match x with
  | .str k=>Q (.bl (if neg then !((ks.zip ws).lookup k).isSome else ((ks.zip ws).lookup k).isSome)) G
  |_=>False)
 |_=>False
def isR (neg:Bool):R3:=fun x y G Q=>match y with
 | .non=>Q (.bl (if neg then (match x with|.non=>false|_=>true) else (match x with|.non=>true|_=>false))) G
 | .bl b=>Q (.bl (if neg then (match x with|.bl c=>!(c==b)|_=>true) else (match x with|.bl c=>c==b|_=>false))) G
 |_=>False
def hZ (p:Int->Int->Bool) (q:Option (Str->Str->Bool):=none):R3:=fun x y G Q=>match x,y with
 | .int i,.int j=>Q (.bl (p i j)) G
 | .str i,.str j=>(match q with
  |some q=>Q (.bl (q i j)) G
  |none=>False)
 |_,_=>False
def ltS (x y:Str):Bool:=decide (x.cps.toList<y.cps.toList)
def leS (x y:Str):Bool:=!decide (y.cps.toList<x.cps.toList)
def leR:R3:=fun x y G Q=>match x,y with
 | .int i,.int j=>Q (.bl (decide (i<=j))) G
 | .str i,.str j=>Q (.bl (leS i j)) G
 |_,_=>False
def wZ:CmpOp->R3
 | .Eq=>fun x y G Q=>match eqG G x y with|some b=>Q (.bl b) G|none=>False
 | .NotEq=>fun x y G Q=>match eqG G x y with|some b=>Q (.bl (!b)) G|none=>False
 | .Is=>isR false
 | .IsNot=>isR true
 | .In=>sE false
 | .NotIn=>sE true
 | .Lt=>hZ (fun i j=>decide (i<j)) (some ltS)
 | .LtE=>leR
 | .Gt=>hZ fun i j=>decide (j<i)
 | .GtE=>hZ fun i j=>decide (j<=i)
theorem uR (p:Int->Int->Bool) (q:Option (Str->Str->Bool)):tU (hZ p q):=by
 intro x y G Q Q' k h;cases q<;>cases x<;>cases y<;>simp only [hZ] at h ⊢<;>first|exact h.elim|exact k _ _ h
theorem zcn:tU leR:=by
 intro x y G Q Q' k h;cases x<;>cases y<;>simp only [leR] at h ⊢<;>first|exact h.elim|exact k _ _ h
theorem nV (neg:Bool):tU (sE neg):=by
 intro x y G Q Q' k h;unfold sE at h ⊢
 cases y with
 |tup ws=>exact ⟨h.1,k _ _ h.2⟩
 |ref p =>
  simp only at h ⊢
  split at h
  .exact ⟨h.1,k _ _ h.2⟩
  .exact ⟨h.1,k _ _ h.2⟩
  .split at h
   .exact k _ _ h
   .exact h.elim
  .exact h.elim
 |str j =>
  cases x with
  |str i=>exact k _ _ h
  |_=>exact h.elim
 |dcf ks ws =>
  cases x with
  |str i=>exact k _ _ h
  |_=>exact h.elim
 |_=>exact h.elim
theorem dC (neg:Bool):tU (isR neg):=by
 intro x y G Q Q' k h;unfold isR at h ⊢
 cases y with
 |non=>exact k _ _ h
 |bl b=>exact k _ _ h
 |_=>exact h.elim
theorem yJ:∀ op,tU (wZ op):=by
 intro op x y G Q Q' k h
 cases op with
 |Eq =>
  simp only [wZ] at h ⊢
  split at h
  .exact k _ _ h
  .exact h.elim
 |NotEq =>
  simp only [wZ] at h ⊢
  split at h
  .exact k _ _ h
  .exact h.elim
 |Is=>exact dC false x y G Q Q' k h
 |IsNot=>exact dC true x y G Q Q' k h
 |In=>exact nV false x y G Q Q' k h
 |NotIn=>exact nV true x y G Q Q' k h
 |Lt=>exact uR (fun i j=>decide (i<j)) (some ltS) x y G Q Q' k h
 |LtE=>exact zcn x y G Q Q' k h
 |Gt=>exact uR (fun i j=>decide (j<i)) none x y G Q Q' k h
 |GtE=>exact uR (fun i j=>decide (j<=i)) none x y G Q Q' k h
section
variable {X : Cx} {pins : List (Addr × Obj)} {σ : L2.St} {H : Hp} {s : Shared}
open Classical in
def eqI (K:zE) (H:Hp) (x:W) (y:Value):Bool:=if ∃ w v,yA K H w v/\zR v y/\kD w=true/\vW w x=true then true else false
theorem zdn (I:Inv X pins σ H s) {x w:W} {v:V} {y:Value} (r:yA X.K H w v) (q:zR v y) (p:kD w=true):eqI X.K H x y=vW w x:=by
 unfold eqI
 cases e:vW w x with
 |true=>rw [if_pos ⟨w,v,r,q,p,e⟩]
 |false =>
  rw [if_neg];rintro ⟨w',v',r',q',p',e'⟩;have:=zR.inj q q';subst this;rw [zax I w' w v r' r p' p,e] at e';cases e'
theorem zeK (I:Inv X pins σ H s) {x:W}:∀ {ws:List W} {vs:List V} {us:List Value},zX X.K H ws vs->zV vs us->wQ ws=true->us.any (eqI X.K H x)=ws.any fun w=>vW w x:=by
 intro ws
 induction ws with
 |nil=>intro vs us h r _;rw [show _=[] from h] at r;cases r;rfl
 |cons w ws ih =>
  intro vs us h r p;obtain ⟨v,t,e,h,hs⟩:=h;subst e
  cases r with
  |cons r rs =>
   have p':=xT.mp p;rw [List.any_cons,List.any_cons,zdn I h r p'.1,ih hs rs p'.2]
theorem zg7 (I:Inv X pins σ H s) {x:W} {vx:V} {ux:Value} {A:Around} (rx:yA X.K H x vx) (qx:zR vx ux) (px:kD x=true):∀ {ws:List W} {vs:List V} {us:List Value},zX X.K H ws vs->zV vs us->wQ ws=true->A.units+min (qY ws) (rN x)<cLine ->
  ∀ y∈us,EqAt A s y ux (eqI X.K H x y):=by
 intro ws
 induction ws with
 |nil=>intro vs us h r _ _ y hy;rw [show _=[] from h] at r;cases r;cases hy
 |cons w ws ih =>
  intro vs us h r p hu y hy;obtain ⟨v,t,e,h,hs⟩:=h;subst e;simp only [qY] at hu
  cases r with
  |cons r rs =>
   have p':=xT.mp p;rcases List.mem_cons.mp hy with e|hy
   .subst e;rw [zdn I h r p'.1];exact zdp I w x v vx _ ux A h r rx qx p'.1 px (by omega)
   .exact ih hs rs p'.2 (by omega) y hy
theorem dD {M:Model} {A:Around} {E:Value->Shared->Prop} {Q:Value->Shared->Prop} {v:Value} {b:Bool} (hb:∀ p,v≠.builtin p) (h:Q (.bool (v==.bool b)) s):wpAny M A (compareOp .Is v (.bool b)) Q E s:=by
 cases v<;>first|exact wpAny_pure h|exact absurd rfl (hb _)
theorem rS {M:Model} {A:Around} {E:Value->Shared->Prop} {Q:Value->Shared->Prop} {v:Value} {b:Bool} (hb:∀ p,v≠.builtin p) (h:Q (.bool (!(v==.bool b))) s):wpAny M A (compareOp .IsNot v (.bool b)) Q E s:=by
 cases v<;>first|exact wpAny_pure h|exact absurd rfl (hb _)
theorem zc5 {v:V} {u:Value} (r:zR v u):∀ p,u≠.builtin p:=by
 cases v<;>first
  | (obtain ⟨t,e⟩:=r;subst e;intro p z;cases z)
  | (intro p z;subst z;cases r)
theorem zg0 (neg:Bool):jL X (compareOp (if neg then .IsNot else .Is)) (uN X.K (isR neg)):=by
 intro pins s σ H v u a b Q I rv ru h;obtain ⟨x,y,G,rx,ry,ab,h⟩:=h;have fin:∀ k k':Bool,kP X.K H Q (.bl k) G->k=k'->EP X pins σ Q (.bool k') s:=fun k k' q e=>⟨.bl k',H,I,rfl,by rw [← e];exact q _ _ .refl rfl ab⟩
 cases y with
 |non =>
  cases ry;cases ru
  cases neg with
  |false =>
   refine is_none_gen (fin _ _ h ?_)
   cases x<;>first
    | (cases rx;cases rv;rfl)
    | (cases rx;obtain ⟨t,rfl⟩:=rv;rfl)
    | (obtain ⟨_,_,rfl,_⟩:=rx;cases rv;rfl)
  |true =>
   refine isnot_none_gen (fin _ _ h ?_)
   cases x<;>first
    | (cases rx;cases rv;rfl)
    | (cases rx;obtain ⟨t,rfl⟩:=rv;rfl)
    | (obtain ⟨_,_,rfl,_⟩:=rx;cases rv;rfl)
 |bl c =>
  cases ry;cases ru
  cases neg with
  |false =>
   refine dD (zc5 rv) (fin _ _ h ?_)
   cases x<;>first
    | (cases rx;cases rv;rfl)
    | (cases rx;cases rv;rename_i d;cases c<;>cases d<;>rfl)
    | (cases rx;obtain ⟨t,rfl⟩:=rv;rfl)
    | (obtain ⟨_,_,rfl,_⟩:=rx;cases rv;rfl)
  |true =>
   refine rS (zc5 rv) (fin _ _ h ?_)
   cases x<;>first
    | (cases rx;cases rv;rfl)
    | (cases rx;cases rv;rename_i d;cases c<;>cases d<;>rfl)
    | (cases rx;obtain ⟨t,rfl⟩:=rv;rfl)
    | (obtain ⟨_,_,rfl,_⟩:=rx;cases rv;rfl)
 |_=>exact h.elim
theorem zcq {K:zE} {H:Hp} {y:W} {v:V} {k:yW} (r:yA K H y v) (h:kF y=some k):v=kV k:=by
 cases y<;>cases h<;>exact r
theorem zaX {K:zE} {H:Hp} {k:yW}:∀ {l:List (yW×W)} {l':List (yW×V)},zK K H l l'->(qP l' k).isSome=bF l k
 | [],_,h=>by rw [show _=[] from h];rfl
 |p::r,_,⟨v,t,e,h,hr⟩=>by
  have ih:=zaX (k:=k) hr;subst e;unfold qP bF at ih ⊢;rw [List.find?_cons,List.any_cons]
  cases decide (p.1=k) with
  |true=>rfl
  |false=>exact ih
theorem tG (us:List Value) (e:Value->Bool):us.toArray.any e=us.any e:=by simp
theorem zdf (neg:Bool) (hu:X.A.units+200<cLine):jL X (compareOp (if neg then .NotIn else .In)) (uN X.K (sE neg)):=by
 intro pins s σ H v u a b Q I rv ru h;obtain ⟨x,y,G,rx,ry,ab,h⟩:=h;have fin:∀ k:Bool,kP X.K H Q (.bl k) G->EP X pins σ Q (.bool k) s:=fun k q=>⟨.bl k,H,I,rfl,q _ _ .refl rfl ab⟩
 have sq:∀ (p:Addr) (ws:List W) (vs:List V) (its:List Value),zX X.K H ws vs->zV vs its->(s.heap.IsTuple p its.toArray\/s.heap.IsList p its.toArray)->inR neg x ws G (kP X.K H Q) ->
   wpAny (model X.prog X.w) X.A (compareOp (if neg then .NotIn else .In) a (.ref p)) (EP X pins σ Q) X.xe s:=fun p ws vs its rs vr ht hin=>by
  obtain ⟨⟨p1,p2,p3⟩,q⟩:=hin;have he:∀ y,y∈its.toArray->EqAt X.A.in1 s y a (eqI X.K H x y):=fun y hy=>zg7 I rx rv p1 rs vr p2 (by show X.A.units+1+_<_;omega) y (by simpa using hy);have ea:=zeK I (x:=x) rs vr p2
  cases neg with
  |false =>
   rcases ht with ht|ht
   .exact in_tupleAt _ ht he (by rw [tG,ea];exact fin _ q)
   .exact in_listAt _ ht he (by rw [tG,ea];exact fin _ q)
  |true =>
   rcases ht with ht|ht
   .exact notIn_tupleAt _ ht he (by rw [tG,ea];exact fin _ q)
   .exact notIn_listAt _ ht he (by rw [tG,ea];exact fin _ q)
 cases y with
 |tup ws =>
  obtain ⟨b1,us,its',rfl,rfl,q',rs',vr',it',_⟩:=xN I ry ru;exact sq b1 ws us its' rs' vr' (.inl it') h
 |ref p =>
  cases ry;cases ru
  have lk:∀ ws,zI G p=some ws->inR neg x ws G (kP X.K H Q)->wpAny (model X.prog X.w) X.A (compareOp (if neg then .NotIn else .In) a (.ref p)) (EP X pins σ Q) X.xe s:=fun ws e q=>by
   obtain ⟨vs,its,_,rs,vr,il,_⟩:=bI I ab e;exact sq p ws vs its rs vr (.inr il) q
  simp only [sE] at h
  split at h
  .rename_i ws e;exact lk ws (by unfold zI;rw [e]) h
  .rename_i ws e;exact lk ws (by unfold zI;rw [e]) h
  .rename_i kvs e
   split at h
   .rename_i kk ek;obtain ⟨l,e1,rk⟩:=ab.dic e;have ev:=zcq rx ek;subst ev;have hs:(qP l kk).isSome=bF kvs kk:=zaX rk;have dg:DGet H p (kV kk) (qP l kk):=.inl ⟨l,kk,.inl e1,rfl,rfl⟩
    cases neg with
    |false=>exact d_in (by omega) I dg rv fun s' I'=>⟨.bl (qP l kk).isSome,H,I',rfl,by rw [hs];exact h _ H .refl rfl ab⟩
    |true=>exact ze5 (by omega) I dg rv fun s' I'=>⟨.bl (!(qP l kk).isSome),H,I',rfl,by rw [hs];exact h _ H .refl rfl ab⟩
   .exact h.elim
  .exact h.elim
 |str j =>
  cases x with
  |str i =>
   cases rx;cases ry
   cases neg with
   |false=>exact zaC pins s σ H _ _ _ _ Q I rv ru ⟨i,j,rfl,rfl,h _ _ .refl rfl ab⟩
   |true=>exact hX pins s σ H _ _ _ _ Q I rv ru ⟨i,j,rfl,rfl,h _ _ .refl rfl ab⟩
  |_=>exact h.elim
 |dcf ks ws =>
  cases x with
  |str k =>
   obtain ⟨a1,vs,rfl,kd,rs⟩:=ry;obtain rfl:b=Value.ref a1:=ru;cases rx;obtain ⟨tk,rfl⟩:=rv
   have hs:((ks.zip vs).lookup k).isSome=((ks.zip ws).lookup k).isSome:=by
    cases e:(ks.zip ws).lookup k with
    |none=>rw [uC rs e];rfl
    |some w=>obtain ⟨v,e',_⟩:=qF rs e;rw [e'];rfl
   cases neg with
   |false =>
    show wpAny _ _ (contains (.ref a1) (.str k tk) >>= fun z=>pure (Value.bool z)) _ _ _;exact wpAny_bind (zdk I kd fun s' J=>wpAny_pure ⟨.bl _,H,J,rfl,by rw [hs];exact h _ _ .refl rfl ab⟩)
   |true =>
    show wpAny _ _ (contains (.ref a1) (.str k tk) >>= fun z=>pure (Value.bool (!z))) _ _ _;exact wpAny_bind (zdk I kd fun s' J=>wpAny_pure ⟨.bl _,H,J,rfl,by rw [hs];exact h _ _ .refl rfl ab⟩)
  |_=>exact h.elim
 |_=>exact h.elim
theorem bQ {op:CmpOp} {p:Int->Int->Bool} {f:Option (Str->Str->Bool)} (ho:jL X (compareOp op) (rI0 fun i j=>.bl (p i j)))
  (hq:∀ q,f=some q->∀ (i j:Str) (t t':Tok) (s:Shared) (Q:Value->Shared->Prop),Q (.bool (q i j)) s->wpAny (model X.prog X.w) X.A (compareOp op (.str i t) (.str j t')) Q X.xe s:=by (intro _ z;cases z)):jL X (compareOp op) (uN X.K (hZ p f)):=by
 intro pins s σ H v u a b Q I rv ru h;obtain ⟨x,y,G,rx,ry,ab,h⟩:=h
 cases x with
 |int i =>
  cases y with
  |int j=>cases rx;cases ry;exact ho pins s σ H _ _ _ _ Q I rv ru ⟨i,j,rfl,rfl,h _ _ .refl rfl ab⟩
  |_=>exact h.elim
 |str i =>
  cases y with
  |str j =>
   cases f with
   |none=>exact h.elim
   |some q =>
    cases rx;cases ry;obtain ⟨t,rfl⟩:=rv;obtain ⟨t',rfl⟩:=ru;exact hq q rfl i j t t' s _ ⟨.bl (q i j),H,I,rfl,h _ _ .refl rfl ab⟩
  |_=>exact h.elim
 |_=>exact h.elim
theorem le_ok:jL X (compareOp .LtE) (uN X.K leR):=by
 intro pins s σ H v u a b Q I rv ru h;obtain ⟨x,y,G,rx,ry,ab,h⟩:=h
 cases x with
 |int i =>
  cases y with
  |int j=>cases rx;cases ry;exact op_le pins s σ H _ _ _ _ Q I rv ru ⟨i,j,rfl,rfl,h _ _ .refl rfl ab⟩
  |_=>exact h.elim
 |str i =>
  cases y with
  |str j =>
   cases rx;cases ry;obtain ⟨t,rfl⟩:=rv;obtain ⟨t',rfl⟩:=ru;exact PySem.P.le_str ⟨.bl (leS i j),H,I,rfl,h _ _ .refl rfl ab⟩
  |_=>exact h.elim
 |_=>exact h.elim
theorem zdo (I:Inv X pins σ H s) (hu:X.A.units+200<cLine) {G:Hw} {x y:W} {v v':V} {u u':Value} {b:Bool} (ab:yF X.K H G) (h:yA X.K H x v) (r:zR v u) (h':yA X.K H y v') (r':zR v' u') (e:eqG G x y=some b) :
  RcAt X.A s u u' b/\RcNeAt X.A s u u' (!b):=by
 have gen:∀ (hh:(if (kD x&&kD y&&decide (min (rN x) (rN y)<=150))=true then some (vW x y) else none)=some b),RcAt X.A s u u' b/\RcNeAt X.A s u u' (!b):=fun hh=>by
  split at hh
  .rename_i c;simp only [Bool.and_eq_true,decide_eq_true_eq] at c;cases hh;exact zfT I x y v v' u u' X.A h r h' r' c.1.1 c.1.2 (by omega)
  .cases hh
 cases x with
 |ref p =>
  cases y with
  |ref q =>
   simp only [eqG] at e
   split at e
   .rename_i a1 b1 e1 e2
    split at e
    .rename_i c;simp only [Bool.and_eq_true,decide_eq_true_eq] at c;cases e;cases h;cases h';cases r;cases r';exact zfU I ab e1 e2 c.1.1 c.1.2 (by omega)
    .cases e
   .cases e
  |_=>exact gen e
 |_=>cases y<;>exact gen e
theorem wO (hu:X.A.units+200<cLine) (op:CmpOp):jL X (compareOp op) (uN X.K (wZ op)):=by
 cases op with
 |Eq =>
  intro pins s σ H v u a b Q I rv ru h;obtain ⟨x,y,G,rx,ry,ab,h⟩:=h;simp only [wZ] at h
  split at h
  .rename_i k e;exact (zdo I hu ab rx rv ry ru e).1 _ _ _ _ ⟨.bl k,H,I,rfl,h _ _ .refl rfl ab⟩
  .exact h.elim
 |NotEq =>
  intro pins s σ H v u a b Q I rv ru h;obtain ⟨x,y,G,rx,ry,ab,h⟩:=h;simp only [wZ] at h
  split at h
  .rename_i k e;exact (zdo I hu ab rx rv ry ru e).2 _ _ _ _ ⟨.bl (!k),H,I,rfl,h _ _ .refl rfl ab⟩
  .exact h.elim
 |Is=>exact zg0 false
 |IsNot=>exact zg0 true
 |In=>exact zdf false hu
 |NotIn=>exact zdf true hu
 |Lt=>exact bQ (f:=some ltS) op_lt fun q e i j t t' s Q z=>by cases e;exact lt_str z
 |LtE=>exact le_ok
 |Gt=>exact bQ (f:=none) op_gt
 |GtE=>exact bQ (f:=none) op_ge
end
end L3
namespace L3
open PySem PySem.Spec PyProof.Rows L2 HT
section
variable {prog : Program} {w : World} {A : Around} {E : Value → Shared → Prop} {s : Shared}
theorem za0 {t sl:Addr} {items:Array Value} {vl vu:Value} {lo hi:Option Int} {Q:Value->Shared->Prop} (ht:IsTup s.heap t items) (hs:s.heap.IsSliceOf sl vl vu .none) (pl:IsPart vl lo) (pu:IsPart vu hi)
  (hw:xP items.size 0 lo=0/\xP items.size items.size hi=items.size) (h:Q (.ref t) s):wpAny (model prog w) A (getItem (.ref t) (.ref sl)) Q E s:=by
 obtain ⟨os,hos,hcs,hds⟩:=id hs;have hTs:s.TypeIs (.ref sl) "slice" := ⟨os,hos,hcs⟩;unfold getItem
 try with_reducible refine wpAny_holding ?_
 first|refine wpAny_bind (wpAny_pure ?_)|skip
 refine wpAny_bind (wpAny_sequenceKey ht.typeIs (by decide) ?_)
 refine wpAny_bind (wpAny_callSpecial?_slot (name:=Str.ofString "__getitem__") ht.typeIs PyProof.Rows.slot_tuple_getitem
  (wpAny_call_entry PyProof.Rows.slot_tuple_getitem ht.typeIs entry_tuple_getitem ?_ (args_tuple_getitem _ _)))
 show wpAny _ _ (Builtin.Tuple.tupleItemsOf (.ref t) >>= _) _ _ s;refine wpAny_bind (tupleItemsOf_ ht ?_);refine wpAny_bind (wpAny_typeOf hTs ?_);rw [if_pos (by decide)];refine wpAny_bind (jP hs pl pu ?_)
 have yes:(((xP items.size 0 lo:Nat):Int)==0&&(1:Int)==1&&(xP items.size items.size hi-xP items.size 0 lo)==items.size)=true:=by
  rw [hw.1,hw.2];simp
 show wpAny _ _ (if (((xP items.size 0 lo:Nat):Int)==0&&(1:Int)==1&&(xP items.size items.size hi-xP items.size 0 lo)==items.size)=true then _ else _) _ _ s;rw [if_pos yes];refine wpAny_bind (m:=Builtin.Tuple.tupleIsExact (.ref t)) ?_;unfold Builtin.Tuple.tupleIsExact;refine wpAny_bind (wpAny_typeOf ht.typeIs (wpAny_pure ?_));rw [if_pos (by decide)];exact wpAny_bind (wpAny_rule (wpAny_pure ⟨_,rfl,wpAny_pure h⟩))
end
section
variable {X : Cx}
def rSlW (K:zE):V->Option Int->Option Int->Hp->VK->Prop:=fun x lo hi H Q=>∃ a xs,x=.ref a/\uW K H a xs/\(HT.xP xs.length 0 lo=0/\HT.xP xs.length xs.length hi=xs.length)/\Q (.ref a) H
theorem zbH:SlR X (rSlW X.K):=by
 intro pins s σ H x v vl vu lo hi sl Q I rx hs pl pu h;obtain ⟨a,xs,rfl,hx,hw,q⟩:=h;cases rx;obtain ⟨its,r,ht,hz⟩:=I.tuple hx;have hlen:its.toArray.size=xs.length:=by rw [zzS];exact r.length.symm
 exact ⟨"tuple", _,PyProof.Rows.slot_tuple_getitem.lookup,ht.typeIs,za0 ht hs pl pu (by rw [hlen];exact hw) ⟨.ref a,H,I,rfl,q⟩⟩
end
end L3
namespace L3
open PySem PySem.Spec PyProof.Rows L2 PySem.SeqAt
def rA (G:Hw):W->Option Bool
 | .non=>some false
 | .bl b=>some b
 | .int i=>some (i != 0)
 | .str y=>if y.length<=sizeLine then some ((y.length:Int) != 0) else none
 | .tup ws=>some (!ws.isEmpty)
 | .ref p=>match G p with
  |some (.lst ws)=>some (!ws.isEmpty)
  |some (.fix ws)=>some (!ws.isEmpty)
  |some (.dic kvs)=>some (!kvs.isEmpty)
  |_=>none
 |_=>none
theorem zX.empty {K:zE} {H:Hp} {ws:List W} {vs:List V} (h:zX K H ws vs):vs.isEmpty=ws.isEmpty:=by
 have:=h.length;cases ws<;>cases vs<;>simp_all
theorem zK.length {K:zE} {H:Hp} {κ:Type}:∀ {l:List (κ×W)} {l':List (κ×V)},zK K H l l'->l'.length=l.length
 | [],_,h=>by rw [show _=[] from h];rfl
 |_::_,_,⟨v,t,e,_,r⟩=>by rw [e,List.length_cons,List.length_cons,zK.length r]
theorem zdB {K:zE} {H:Hp} {G:Hw} {w:W} {v:V} {k:Bool} (r:yA K H w v) (ab:yF K H G) (h:rA G w=some k):TruV K v H k:=by
 cases w with
 |non=>cases r;cases h;rfl
 |bl b=>cases r;cases h;rfl
 |int i=>cases r;cases h;rfl
 |str y =>
  cases r;simp only [rA] at h
  split at h
  .rename_i c;cases h;exact ⟨c,rfl⟩
  .cases h
 |ty n=>cases h
 |lsf n=>cases h
 |exc _ _ _=>cases h
 |dcf _ _=>cases h
 |tup ws =>
  obtain ⟨a,vs,rfl,q,rs⟩:=r;cases h;exact .inr (.inl ⟨vs,q,by rw [rs.empty]⟩)
 |ref p =>
  cases r
  have lk:∀ ws,zI G p=some ws->k=!ws.isEmpty->TruV K (.ref p) H k:=fun ws e q=>by
   obtain ⟨vs,sq,rs⟩:=ab.seq e;exact .inl ⟨vs,sq,by rw [rs.empty];exact q⟩
  simp only [rA] at h
  split at h
  .rename_i ws e;cases h;exact lk ws (by unfold zI;rw [e]) rfl
  .rename_i ws e;cases h;exact lk ws (by unfold zI;rw [e]) rfl
  .rename_i kvs e;cases h;obtain ⟨l,e',rk⟩:=ab.dic e;refine .inr (.inr ⟨l,e',?_⟩);have:=rk.length;cases kvs<;>cases l<;>simp_all
  .cases h
def vV {α:Type} (kvs:List (yW×α)) (k:yW):Option α:=(kvs.find? fun kv=>decide (kv.1=k)).map (·.2)
def tO {α:Type} (kvs:List (yW×α)) (k:yW) (v:α):List (yW×α) :=
 if (kvs.any fun kv=>decide (kv.1=k))=true then kvs.map (fun kv=>if kv.1=k then (kv.1,v) else kv) else kvs++[(k,v)]
theorem zK.get {K:zE} {H:Hp} {k:yW} {w:W}:∀ {l:List (yW×W)} {l':List (yW×V)},zK K H l l'->vV l k=some w->∃ v,qP l' k=some v/\yA K H w v
 | [],_,h,e=>by cases e
 |p::r,_,⟨v,t,e,h,hr⟩,q=>by
  subst e;unfold vV at q;rw [List.find?_cons] at q;unfold qP;rw [List.find?_cons]
  by_cases hk:p.1=k
  .simp only [hk,decide_true] at q ⊢;cases q;exact ⟨v,rfl,h⟩
  .simp only [hk,decide_false] at q ⊢;exact zK.get hr q
theorem zK.any {K:zE} {H:Hp} {k:yW}:∀ {l:List (yW×W)} {l':List (yW×V)},zK K H l l'->(l'.any fun kv=>decide (kv.1=k))=l.any fun kv=>decide (kv.1=k)
 | [],_,h=>by rw [show _=[] from h];rfl
 |p::r,_,⟨v,t,e,h,hr⟩=>by subst e;rw [List.any_cons,List.any_cons,zK.any hr]
theorem zK.app {K:zE} {H:Hp} {κ:Type}:∀ {l:List (κ×W)} {l':List (κ×V)} {m:List (κ×W)} {m':List (κ×V)},zK K H l l'->zK K H m m'->zK K H (l++m) (l'++m')
 | [],_,_,_,h,h'=>by rw [show _=[] from h];exact h'
 |p::r,_,_,_,⟨v,t,e,h,hr⟩,h'=>by rw [e];exact ⟨v,_,rfl,h,zK.app hr h'⟩
theorem zK.repl {K:zE} {H:Hp} {k:yW} {w:W} {v:V} (q:yA K H w v):∀ {l:List (yW×W)} {l':List (yW×V)},zK K H l l' ->
  zK K H (l.map fun kv=>if kv.1=k then (kv.1,w) else kv) (l'.map fun kv=>if kv.1=k then (kv.1,v) else kv)
 | [],_,h=>by rw [show _=[] from h];rfl
 |p::r,_,⟨u,t,e,h,hr⟩=>by
  subst e;rw [zzU,zzU]
  by_cases hk:p.1=k
  .simp only [hk,if_true];exact ⟨v,_,rfl,q,zK.repl q hr⟩
  .simp only [hk,if_false];exact ⟨u,_,rfl,h,zK.repl q hr⟩
theorem zK.put {K:zE} {H:Hp} {k:yW} {w:W} {v:V} {l:List (yW×W)} {l':List (yW×V)} (h:zK K H l l') (q:yA K H w v):zK K H (tO l k w) (qO l' k v):=by
 unfold tO qO;rw [h.any]
 split
 .exact zK.repl q h
 .exact h.app ⟨v,[],rfl,q,rfl⟩
theorem zaO {K:zE} {H:Hp} {y:W} {v:V} {k:yW} (r:yA K H y v) (h:kF y=some k):v=kV k:=by
 cases y<;>first|(cases h;cases r;rfl)|cases h
theorem ix_kd {X:Cx} {value slice:PySem.Expr} {pins:List (Addr×Obj)} {s:Shared} {σ:L2.St} {H:Hp} {a:Addr} {u:Value} {ks:List Str} {vs:List V} {k:Str} {v:V} {Q:VK} (I:Inv X pins σ H s) (h:KD X.K a ks vs) (ry:zR (.str k) u) (e:(ks.zip vs).lookup k=some v) (q:Q v H)
  (hs:subscripted slice false (.ref a) u=operate [.ref a,u] (getItem (.ref a) u)):wpAny (model X.prog X.w) X.A (subscriptTail value slice (.ref a) u) (EP X pins σ Q) X.xe s:=by
 have hT:=zgJ I h;obtain ⟨tk,rfl⟩:=ry;refine tail_any hT PySem.F.slot_dict_getitem.lookup ?_ hs;unfold getItem
 try with_reducible refine wpAny_holding ?_
 refine wpAny_bind (wpAny_sequenceKey hT (by decide) (wpAny_bind ?_));refine wpAny_callSpecial?_slot (name:=Str.ofString "__getitem__") hT PySem.F.slot_dict_getitem (wpAny_call_entry PySem.F.slot_dict_getitem hT PySem.F.entry_dict_getitem ?_ (PySem.F.args_dict_getitem_2 _ _));show wpAny _ _ (dictGet a (.str k tk) >>= _) _ _ s;refine wpAny_bind (zdl I h ?_);rw [e];exact fun u s' r J=>wpAny_pure ⟨u,rfl,wpAny_pure ⟨v,H,J,r,q⟩⟩
def uX:R3:=fun x y G Q=>match x,y with
 | .tup ws,.int i=>(match rC ws i with|some w=>Q w G|none=>False)
 | .str z,.int i=>z.length<=sizeLine/\(match rC z.cps.toList i with|some c=>Q (.str ⟨#[c]⟩) G|none=>False)
 | .ref p,y=>(match G p with
  |some (.lst ws)=>(match y with|.int i=>(match rC ws i with|some w=>Q w G|none=>False)|_=>False)
  |some (.fix ws)=>(match y with|.int i=>(match rC ws i with|some w=>Q w G|none=>False)|_=>False)
  |some (.dic kvs)=>(match kF y with|some k=>(match vV kvs k with|some w=>Q w G|none=>False)|none=>False)
  |_=>False)
 | .dcf ks ws,.str k=>(match (ks.zip ws).lookup k with|some w=>Q w G|none=>False)
 |_,_=>False
theorem zbp {K:zE} {H:Hp} {ws:List W} {vs:List V} {i:Int} {w:W} (h:zX K H ws vs) (e:rC ws i=some w):∃ v,rC vs i=some v/\yA K H w v:=by
 unfold rC at e ⊢;rw [h.length]
 cases q:ixN ws.length i with
 |none=>rw [q] at e;cases e
 |some j =>
  rw [q] at e;exact h.get e
theorem dE:tU uX:=by
 intro x y G Q Q' k h
 cases x with
 |tup ws =>
  cases y<;>simp only [uX] at h ⊢<;>first
   |exact h.elim
   | (split at h<;>first|exact k _ _ h|exact h.elim)
 |str z =>
  cases y<;>simp only [uX] at h ⊢<;>first
   |exact h.elim
   | (refine ⟨h.1,?_⟩;have h:=h.2;split at h<;>first|exact k _ _ h|exact h.elim)
 |ref p =>
  simp only [uX] at h ⊢
  split at h
  .cases y<;>simp only at h ⊢<;>first
    |exact h.elim
    | (split at h<;>first|exact k _ _ h|exact h.elim)
  .cases y<;>simp only at h ⊢<;>first
    |exact h.elim
    | (split at h<;>first|exact k _ _ h|exact h.elim)
  .split at h
   .split at h
    .exact k _ _ h
    .exact h.elim
   .exact h.elim
  .exact h.elim
 |dcf ks ws =>
  cases y<;>simp only [uX] at h ⊢<;>first
   |exact h.elim
   | (split at h<;>first|exact k _ _ h|exact h.elim)
 |_=>exact h.elim
section
variable {X : Cx}
theorem zgQ (hu:X.A.units+200<cLine) {value slice:PySem.Expr} {pins:List (Addr×Obj)} {s:Shared} {σ:L2.St} {H:Hp} {a:Addr} {u:Value} {y v:V} {Q:VK} (I:Inv X pins σ H s) (g:DGet H a y (some v)) (hd:IsD H a) (ry:zR y u) (q:Q v H)
  (hs:subscripted slice false (.ref a) u=operate [.ref a,u] (getItem (.ref a) u)):wpAny (model X.prog X.w) X.A (subscriptTail value slice (.ref a) u) (EP X pins σ Q) X.xe s:=by
 exact tail_any (zg1 I hd).1 PySem.F.slot_dict_getitem.lookup (zbc (by omega) I g ry fun w' s' I' r'=>⟨v,H,I',r',q⟩) hs
theorem ix_ok (hu:X.A.units+200<cLine):IxR X (uN X.K uX):=by
 intro value slice pins s σ H v u a b Q I rv ru h hs;obtain ⟨x,y,G,rx,ry,ab,h⟩:=h
 cases x with
 |tup ws =>
  cases y with
  |int i =>
   obtain ⟨a1,vs,rfl,q,rs⟩:=rx;cases ry;simp only [uX] at h
   split at h
   .rename_i w e;obtain ⟨vv,ev,rp⟩:=zbp rs e;exact zgN value slice pins s σ H _ _ _ _ Q I rv ru ⟨a1,vs,i,vv,rfl,rfl,q,ev,h _ _ .refl rp ab⟩ hs
   .exact h.elim
  |_=>exact h.elim
 |str z =>
  cases y with
  |int i =>
   cases rx;cases ry;simp only [uX] at h;obtain ⟨hz,h⟩:=h
   split at h
   .rename_i c e;exact zgO value slice pins s σ H _ _ _ _ Q I rv ru ⟨z,i,c,rfl,rfl,hz,e,h _ _ .refl rfl ab⟩ hs
   .exact h.elim
  |_=>exact h.elim
 |ref p =>
  cases rx
  have lk:∀ ws i w,zI G p=some ws->y=.int i->rC ws i=some w->kP X.K H Q w G->wpAny (model X.prog X.w) X.A (subscriptTail value slice a b) (EP X pins σ Q) X.xe s:=fun ws i w e ey ew q=>by
   subst ey;obtain ⟨vs,sq,rs⟩:=ab.seq e;obtain ⟨vv,ev,rp⟩:=zbp rs ew;cases ry;exact zer value slice pins s σ H _ _ _ _ Q I rv ru ⟨p,vs,i,vv,rfl,rfl,sq,ev,q _ _ .refl rp ab⟩ hs
  simp only [uX] at h
  split at h
  .rename_i ws e
   cases y with
   |int i =>
    simp only at h
    split at h
    .rename_i w ew;exact lk ws i w (by unfold zI;rw [e]) rfl ew h
    .exact h.elim
   |_=>exact h.elim
  .rename_i ws e
   cases y with
   |int i =>
    simp only at h
    split at h
    .rename_i w ew;exact lk ws i w (by unfold zI;rw [e]) rfl ew h
    .exact h.elim
   |_=>exact h.elim
  .rename_i kvs e
   split at h
   .rename_i k ek
    split at h
    .rename_i w ew;obtain ⟨l,e',rk⟩:=ab.dic e;obtain ⟨vv,ev,rp⟩:=rk.get ew;have ey:=zaO ry ek;subst ey;obtain rfl:a=Value.ref p:=rv;exact zgQ hu I (.inl ⟨l,k,.inl e',rfl,ev.symm⟩) (.inl ⟨l,.inl e'⟩) ru (h _ _ .refl rp ab) hs
    .exact h.elim
   .exact h.elim
  .exact h.elim
 |dcf ks ws =>
  cases y with
  |str k =>
   obtain ⟨a1,vs,rfl,kd,rs⟩:=rx;obtain rfl:a=Value.ref a1:=rv;cases (show u=.str k from ry);simp only [uX] at h
   split at h
   .rename_i w e;obtain ⟨vv,ev,rp⟩:=qF rs e;exact ix_kd I kd ru ev (h _ _ .refl rp ab) hs
   .exact h.elim
  |_=>exact h.elim
 |_=>exact h.elim
end
def vD {α:Type} (xs:List α) (lo hi:Option Int):List α:=(xs.drop (HT.xP xs.length 0 lo)).take (HT.xP xs.length xs.length hi-HT.xP xs.length 0 lo)
theorem gR {K:zE} {H:Hp} {ws:List W} {vs:List V} (h:zX K H ws vs) (lo hi:Option Int):zX K H (vD ws lo hi) (cQ vs lo hi):=by
 unfold vD cQ;rw [h.length];exact (h.drop _).take _
def slR:W->Option Int->Option Int->Hw->Q3->Prop:=fun x lo hi G Q=>match x with
 | .tup ws=>Q (.tup (vD ws lo hi)) G
 | .ref p=>(match zI G p with|some ws=>∀ r,G r=none->Q (.ref r) (put G r (.lst (vD ws lo hi)))|none=>False)
 | .lsf ws=>∀ r,G r=none->Q (.ref r) (put G r (.lst (vD ws lo hi)))
 | .str x=>x.length<=sizeLine/\Q (.str (Txt.slice x lo hi)) G
 |_=>False
theorem fM {x:W} {lo hi:Option Int} {G:Hw} {Q Q':Q3} (k:∀ w G',Q w G'->Q' w G') (h:slR x lo hi G Q):slR x lo hi G Q':=by
 cases x with
 |tup ws=>exact k _ _ h
 |ref p =>
  simp only [slR] at h ⊢
  split at h
  .exact fun r hr=>k _ _ (h r hr)
  .exact h.elim
 |lsf ws=>exact fun r hr=>k _ _ (h r hr)
 |str x=>exact ⟨h.1,k _ _ h.2⟩
 |_=>exact h.elim
theorem zfG {X:Cx} {pins:List (Addr×Obj)} {s:Shared} {σ:L2.St} {H:Hp} {x:Str} {v vl vu:Value} {lo hi:Option Int} {sl:Addr} {Q:VK} (I:Inv X pins σ H s) (rv:zR (.str x) v) (hs:s.heap.IsSliceOf sl vl vu .none)
  (pl:IsPart vl lo) (pu:IsPart vu hi) (hz:x.length<=sizeLine) (q:Q (.str (Txt.slice x lo hi)) H):∃ T id,typeLookup (.type T) "__getitem__" = pure (some (.builtin id))/\s.TypeIs v T/\wpAny (model X.prog X.w) X.A (getItem v (.ref sl)) (EP X pins σ Q) X.xe s:=by
 obtain ⟨t,rfl⟩:=rv;have fin:∀ t' k,0<k->EP X pins σ Q (.str (Txt.slice x lo hi) t') { s with toks:=k }:=fun t' k h0=>⟨.str (Txt.slice x lo hi),H,I.tok _ h0,⟨t',rfl⟩,q⟩;have hz':=Nat.le_trans (Txt.slice_le x lo hi) hz;refine ⟨"str", _,F.slot_str_getitem.lookup,typeIs_str _ _ _,?_⟩;obtain ⟨o,ho,hc,hd⟩:=hs
 cases pl with
 |none =>
  cases pu with
  |none=>exact wI I.tk (wpAny_getItem_str_slice (l:=none) (u:=none) (st:=none) ⟨o,ho,hc,hd⟩ rfl (post_val_or_str ⟨hz',fin⟩))
  |int j tj=>exact wI I.tk (wpAny_getItem_str_slice (l:=none) (u:=some (j,tj)) (st:=none) ⟨o,ho,hc,hd⟩ rfl (post_val_or_str ⟨hz',fin⟩))
 |int i ti =>
  cases pu with
  |none=>exact wI I.tk (wpAny_getItem_str_slice (l:=some (i,ti)) (u:=none) (st:=none) ⟨o,ho,hc,hd⟩ rfl (post_val_or_str ⟨hz',fin⟩))
  |int j tj=>exact wI I.tk (wpAny_getItem_str_slice (l:=some (i,ti)) (u:=some (j,tj)) (st:=none) ⟨o,ho,hc,hd⟩ rfl (post_val_or_str ⟨hz',fin⟩))
def lowSl (K:zE) (r:W->Option Int->Option Int->Hw->Q3->Prop):V->Option Int->Option Int->Hp->VK->Prop:=fun v lo hi H Q=>∃ x G,yA K H x v/\yF K H G/\r x lo hi G (kP K H Q)
theorem sl_ok {X:Cx}:SlR X (lowSl X.K slR):=by
 intro pins s σ H v u vl vu lo hi sl Q I rv hs pl pu h;obtain ⟨x,G,rx,ab,h⟩:=h
 cases x with
 |tup ws =>
  obtain ⟨a,vs,rfl,q,rs⟩:=rx
  by_cases hw:HT.xP vs.length 0 lo=0/\HT.xP vs.length vs.length hi=vs.length
  .have e:vD ws lo hi=ws:=by
    have hw':=hw;rw [rs.length] at hw';unfold vD;rw [hw'.1,hw'.2,List.drop_zero,Nat.sub_zero,List.take_length]
   have h':kP X.K H Q (.tup (vD ws lo hi)) G:=h;rw [e] at h';exact zbH pins s σ H _ _ vl vu lo hi sl Q I rv hs pl pu ⟨a,vs,rfl,q,hw,h' _ _ .refl ⟨a,vs,rfl,q,rs⟩ ab⟩
  .exact zfF pins s σ H _ _ vl vu lo hi sl Q I rv hs pl pu ⟨a,vs,rfl,q,hw,tK ab (gR rs lo hi) h⟩
 |ref p =>
  cases rx;simp only [slR] at h
  split at h
  .rename_i ws e;obtain ⟨vs,sq,rs⟩:=ab.seq e;exact zar pins s σ H _ _ vl vu lo hi sl Q I rv hs pl pu ⟨p,vs,rfl,sq,jV ab (gR rs lo hi) h⟩
  .exact h.elim
 |lsf ws =>
  obtain ⟨a,vs,rfl,q,rs⟩:=rx;exact zar pins s σ H _ _ vl vu lo hi sl Q I rv hs pl pu ⟨a,vs,rfl,.inr q,jV ab (gR rs lo hi) h⟩
 |str x =>
  cases (show v=.str x from rx);exact zfG I rv hs pl pu h.1 (h.2 _ _ .refl rfl ab)
 |_=>exact h.elim
def fL:W->W->W->Hw->(Hw->Prop)->Prop:=fun o i v G Q=>match o with
 | .ref p=>(match G p with
  |some (.lst ws)=>(match i with|.int k=>(match ixN ws.length k with|some j=>Q (put G p (.lst (ws.set j v)))|none=>False)|_=>False)
  |some (.dic kvs)=>(match kF i with|some k=>kvs.length<sizeLine/\Q (put G p (.dic (tO kvs k v)))|none=>False)
  |_=>False)
 |_=>False
theorem zas {o i v:W} {G:Hw} {Q Q':Hw->Prop} (k:∀ G',Q G'->Q' G') (h:fL o i v G Q):fL o i v G Q':=by
 cases o with
 |ref p =>
  simp only [fL] at h ⊢
  split at h
  .cases i<;>simp only at h ⊢<;>first
    |exact h.elim
    | (split at h<;>first|exact k _ h|exact h.elim)
  .split at h
   .exact ⟨h.1,k _ h.2⟩
   .exact h.elim
  .exact h.elim
 |_=>exact h.elim
def zdh (K:zE):TSet:=fun o i v H Q=>∃ x y z G,yA K H x o/\yA K H y i/\yA K H z v/\yF K H G/\fL x y z G fun G'=>∀ H',zB K H H'->yF K H' G'->Q H'
theorem zfH {X:Cx} (hu:X.A.units+200<cLine):PSet X (zdh X.K):=by
 intro pins s σ H o i v ov iv u Q I ro ri rv h;obtain ⟨x,y,z,G,rx,ry,rz,ab,h⟩:=h
 cases x with
 |ref p =>
  cases rx;simp only [fL] at h
  split at h
  .rename_i ws e
   cases y with
   |int k =>
    simp only at h
    split at h
    .rename_i j ej;cases ry;obtain ⟨vs,q1,r1⟩:=ab.lst e;refine zbL pins s σ H _ _ _ _ _ _ Q I ro ri rv ⟨p,vs,k,j,rfl,rfl,q1,by rw [r1.length];exact ej,?_⟩;have g:=ab.grow (u:=.lst (vs.set j v)) e;exact h _ g (ab.chg e ⟨_,rfl,((r1.mono g).set (rz.mono g) j)⟩)
    .exact h.elim
   |_=>exact h.elim
  .rename_i kvs e
   split at h
   .rename_i k ek;obtain ⟨l,e',rk⟩:=ab.dic e;have ey:=zaO ry ek;subst ey;obtain rfl:ov=Value.ref p:=ro;refine zbb (by omega) I (.inl ⟨l,k,e',rfl,by rw [rk.length];exact h.1,rfl⟩) ri rv fun s' I'=>⟨_,I',?_⟩;have g:=ab.grow (u:=.dK (qO l k v)) e;exact h.2 _ g (ab.chg e ⟨_,rfl,(rk.mono g).put (rz.mono g)⟩)
   .exact h.elim
  .exact h.elim
 |_=>exact h.elim
end L3
namespace L3
open PySem PySem.Spec PyProof.Rows L2
abbrev XQ:=Str->List (Str×W)->Hw->Prop
def XN:XQ:=fun _ _ _=>False
abbrev tV:=List W->Hw->Q3->XQ->Prop
structure Fn3 where
 nm:Str
 sp:tV
structure Mt3 where
 nm:Str
 T:String
 sp:W->List W->Hw->Q3->Prop
abbrev I3:=wU->Hw->(List W->(Hw->Prop)->Hw->Prop)->Prop
structure It3 where
 nm:Str
 sp:List W->Hw->(List W->(Hw->Prop)->Hw->Prop)->Prop
structure Sx3 where
 m:Scope->Expr->Option (List Expr)
 sp:List W->Hw->Q3->Prop
structure Ix3 where
 m:Scope->Expr->Option (List Expr)
 sp:List W->Hw->(List W->(Hw->Prop)->Hw->Prop)->Prop
structure Ctx3 where
 fn:List Fn3
 gl:List (Str×W)
 mt:List Mt3
 it:List It3
 cl:List (Addr×List Str)
 sx:List Sx3
 ix:List Ix3
set_option genInjectivity false
mutual
inductive IE where
 |var (i:Nat)|con (c:Const)|glb (i:Nat)
 |bin (op:Operator) (a b:IE)|neg (a:IE)|not (a:IE)
 |cmp (op:CmpOp) (a b:IE)|chn (o1 o2:CmpOp) (a b c:IE)
 |and (a b:IE)|or (a b:IE)|ite (c a b:IE)
 |ix (a i:IE)|sl (a:IE) (lo hi:IO)
 |tup (es:IEs)|lst (es:IEs)|dct (ks:List Str) (es:IEs)
 |call (f:Nat) (es:IEs)|mth (m:Nat) (o:IE) (es:IEs)|att (o:IE) (f:Str)
 |lc (tg:ITg) (names:List Str) (caps:List Nat) (it:II) (c:IO) (elt:IE)
 |spc (i:Nat) (es:IEs)|ch3 (o1 o2 o3:CmpOp) (a b c d:IE)
inductive IO where
 |no|yes (e:IE)
inductive IEs where
 |nil|cons (e:IE) (es:IEs)
inductive II where
 |val (e:IE)|blt (i:Nat) (es:IEs)|spc (i:Nat) (es:IEs)
inductive ITg where
 |nm (i:Nat)|tup (ts:ITgs)
inductive ITgs where
 |nil|cons (t:ITg) (ts:ITgs)
end
mutual
inductive IS where
 |asg (i:Nat) (e:IE)|asgT (ts:ITgs) (e:IE)|asgI (o i e:IE)|asgA (o:IE) (f:Str) (e:IE)
 |ex (e:IE)|ret (e:IE)|retN|pass|brk|cnt
 |ite (c:IE) (a b:ISs)|whl (c:IE) (b:ISs)|for (tg:ITg) (it:II) (b:ISs)|dead|asgS (i j:Nat) (e:IE)
inductive ISs where
 |nil|cons (s:IS) (ss:ISs)
end
def yS:Const->Option W
 | .none=>some .non
 | .bool b=>some (.bl b)
 | .int i=>some (.int i)
 | .str x=>some (.str x)
 |_=>none
abbrev G3:=W->wU->Hw->(wU->Hw->Prop)->Prop
abbrev Gs3:=List W->wU->Hw->(wU->Hw->Prop)->Prop
mutual
def zM:ITg->G3
 | .nm i=>fun w σ G Q=>Q (σ.set i (some w)) G
 | .tup ts=>fun w σ G Q=>match w with
  | .tup ws=>zS ts ws σ G Q
  |_=>False
def zS:ITgs->Gs3
 | .nil=>fun ws σ G Q=>match ws with | []=>Q σ G|_=>False
 | .cons t ts=>fun ws σ G Q=>match ws with
  |w::r=>zM t w σ G fun σ' G'=>zS ts r σ' G' Q
  | []=>False
end
def unl (G:Hw) (w:W):W:=match w with
 | .ref p=>(match zI G p with|some ws=>.tup ws|none=>.ref p)
 |w=>w
def capS (k:Nat) (caps:List Nat) (σ:wU):wU:=List.replicate k none++caps.map fun j=>(σ[j]?).join
def sgs (x:Str):List W:=x.cps.toList.map fun c=>.str ⟨#[c]⟩
def kW:yW->W
 | .inl i=>.int i
 | .inr x=>.str x
def cS (G:Hw) (p:Addr):Option (List (yW×W)):=match G p with
 |some (.dic kvs)=>some kvs
 |some (.fzd kvs)=>some kvs
 |_=>none
def uA (w:W) (G:Hw) (R:List W->(Hw->Prop)->Hw->Prop):Prop:=match w with
 | .tup ws=>R ws (fun _=>True) G
 | .ref p=>(match zI G p with
  |some ws=>R ws (fun G'=>zI G' p=some ws) G
  |none=>(match cS G p with
   |some kvs=>R (kvs.map fun kv=>kW kv.1) (fun G'=>G' p=some (.fzd kvs)) (put G p (.fzd kvs))
   |none=>False))
 | .str x=>R (sgs x) (fun _=>True) G
 |_=>False
def lcR (items:List W) (stab:Hw->Prop) (G1:Hw) (turn:W->Hw->(Option W->Hw->Prop)->Prop) (Q:Q3):Prop :=
 ∃ Pv:Nat->List W->Hw->Prop,Pv 0 [] G1/\(∀ i acc G,Pv i acc G->i<=items.length->stab G/\acc.length<=i)/\items.length<=sizeLine /\
  (∀ i w acc G,items[i]?=some w->Pv i acc G->turn w G fun o G'=>match o with|some x=>Pv (i+1) (acc++[x]) G'|none=>Pv (i+1) acc G') /\
  ∀ acc G,Pv items.length acc G->∀ p,G p=none->Q (.ref p) (put G p (.lst acc))
def yP (w:W) (G:Hw) (Q:Q3):Prop:=match w with|.int i=>Q (.int (-i)) G|_=>False
def xD (w:W) (Q:Bool->Prop):Prop:=match w with|.bl b=>Q b|_=>False
def yT (w:W) (Q:Int->Prop):Prop:=match w with|.int i=>Q i|_=>False
def tyW (G:Hw):W->String->Prop
 | .str _,T=>T = "str"
 | .ref p,T=>match G p with
  |some (.lst _)=>T = "list"
  |some (.fix _)=>T = "list"
  |some (.dic _)=>T = "dict"
  |_=>False
 |_,_=>False
def pN (cl:List (Addr×List Str)) (f:Str) (w:W) (G:Hw) (Q:Q3):Prop:=match w with
 | .ref p=>(match G p with
  |some (.ins C fs)=>(∃ l,(C,l)∈cl/\f∈l)/\(match fs.lookup f with|some v=>Q v G|none=>False)
  |_=>False)
 |_=>False
def jW (f:Str) (v:W):List (Str×W)->List (Str×W)
 | []=>[(f,v)]
 | (g,x)::r=>if g=f then (g,v)::r else (g,x)::jW f v r
def satR (cl:List (Addr×List Str)) (f:Str) (o v:W) (G:Hw) (Q:Hw->Prop):Prop:=match o with
 | .ref p=>(match G p with
  |some (.ins C fs)=>(∃ l,(C,l)∈cl/\f∈l)/\fs.length<1000/\Q (put G p (.ins C (jW f v fs)))
  |_=>False)
 |_=>False
def ze4 (ks:List Str) (ws:List W):List (yW×W):=(ks.zip ws).foldl (fun acc kv=>tO acc (.inr kv.1) kv.2) []
structure ET where
 e:E3
 t:T3
def yZ (e:E3):T3:=fun σ G Q=>e σ G fun w G1=>match rA G1 w with|some b=>Q b G1|none=>False
def wT (e:E3):T3:=fun σ G Q=>e σ G fun w G1=>xD w fun b=>Q b G1
def xY (e:E3):ET:=⟨e,yZ e⟩
def xC (e:E3):ET:=⟨e,wT e⟩
def kQ:List E3->A3
 | []=>fun _ G Q=>Q [] G
 |e::es=>fun σ G Q=>e σ G fun x G1=>kQ es σ G1 fun xs G2=>Q (x::xs) G2
section
variable (Γ : Ctx3)
mutual
def zL (E:XQ):IE->ET
 | .var i=>xY fun σ G Q=>match σ[i]? with|some (some w)=>Q w G|_=>False
 | .con c=>xY fun σ G Q=>match yS c with|some w=>Q w G|none=>False
 | .glb i=>xY fun σ G Q=>match Γ.gl[i]? with|some p=>Q p.2 G|none=>False
 | .bin op a b=>xY fun σ G Q=>(zL E a).e σ G fun x G1=>(zL E b).e σ G1 fun y G2=>qN op x y G2 Q
 | .neg a=>xY fun σ G Q=>(zL E a).e σ G fun x G1=>yP x G1 Q
 | .not a=>⟨fun σ G Q=>(zL E a).e σ G fun x G1=>xD x fun b=>Q (.bl (!b)) G1,fun σ G Q=>(zL E a).t σ G fun b G1=>Q (!b) G1⟩
 | .cmp op a b=>xC fun σ G Q=>(zL E a).e σ G fun x G1=>(zL E b).e σ G1 fun y G2=>wZ op x y G2 Q
 | .chn o1 o2 a b c=>xC fun σ G Q=>(zL E a).e σ G fun x G1=>(zL E b).e σ G1 fun y G2=>wZ o1 x y G2 fun z G3=>xD z fun k =>
   if k=true then (zL E c).e σ G3 fun u G4=>wZ o2 y u G4 Q else Q (.bl false) G3
 | .and a b=>⟨fun σ G Q=>(zL E a).e σ G fun x G1=>xD x fun k=>if k=true then (zL E b).e σ G1 Q else Q (.bl false) G1,
   fun σ G Q=>(zL E a).t σ G fun k G1=>if k=true then (zL E b).t σ G1 Q else Q false G1⟩
 | .or a b=>⟨fun σ G Q=>(zL E a).e σ G fun x G1=>xD x fun k=>if k=true then Q (.bl true) G1 else (zL E b).e σ G1 Q,
   fun σ G Q=>(zL E a).t σ G fun k G1=>if k=true then Q true G1 else (zL E b).t σ G1 Q⟩
 | .ite c a b=>⟨fun σ G Q=>(zL E c).t σ G fun k G1=>if k=true then (zL E a).e σ G1 Q else (zL E b).e σ G1 Q,fun _ _ _=>False⟩
 | .ix a i=>xY fun σ G Q=>(zL E a).e σ G fun x G1=>(zL E i).e σ G1 fun y G2=>uX x y G2 Q
 | .sl a lo hi=>xY fun σ G Q=>(zL E a).e σ G fun x G1=>yY E lo σ G1 fun l G2=>yY E hi σ G2 fun u G3=>slR x l u G3 Q
 | .tup es=>xY fun σ G Q=>zO E es σ G fun ws G1=>ws.length<=sizeLine/\Q (.tup ws) G1
 | .lst es=>xY fun σ G Q=>zO E es σ G fun ws G1=>ws.length<=sizeLine/\∀ p,G1 p=none->Q (.ref p) (put G1 p (.lst ws))
 | .dct ks es=>xY fun σ G Q=>∀ p,G p=none->zO E es σ (put G p (.dic [])) fun ws G1=>G1 p=some (.dic [])/\ws.length=ks.length/\Q (.ref p) (put G1 p (.dic (ze4 ks ws)))
 | .call f es=>xY fun σ G Q=>zO E es σ G fun ws G1=>match Γ.fn[f]? with|some h=>h.sp ws G1 Q E|none=>False
 | .mth m o es=>xY fun σ G Q=>(zL E o).e σ G fun x G1=>match Γ.mt[m]? with|some h=>tyW G1 x h.T/\zO E es σ G1 fun ws G2=>h.sp x ws G2 Q|none=>False
 | .att o f=>xY fun σ G Q=>(zL E o).e σ G fun x G1=>pN Γ.cl f x G1 Q
 | .lc tg names caps it c elt=>xY fun σ G Q=>zC E it σ G fun items stab G1 =>
   lcR items stab G1 (fun w G' K=>zM tg w (capS names.length caps σ) G' fun σ2 G2=>zA c σ2 G2 fun b G3=>if b=true then (zL XN elt).e σ2 G3 fun x G4=>K (some x) G4 else K none G3) Q
 | .spc i es=>xY fun σ G Q=>zO E es σ G fun ws G1=>match Γ.sx[i]? with|some h=>h.sp ws G1 Q|none=>False
 | .ch3 o1 o2 o3 a b c d=>xC fun σ G Q=>(zL E a).e σ G fun x G1=>(zL E b).e σ G1 fun y G2=>wZ o1 x y G2 fun z G3=>xD z fun k =>
   if k=true then (zL E c).e σ G3 fun u G4=>wZ o2 y u G4 fun z2 G5=>xD z2 fun k2 =>
    if k2=true then (zL E d).e σ G5 fun t G6=>wZ o3 u t G6 Q else Q (.bl false) G5
   else Q (.bl false) G3
def yY (E:XQ):IO->wU->Hw->(Option Int->Hw->Prop)->Prop
 | .no=>fun _ G Q=>Q none G
 | .yes e=>fun σ G Q=>(zL E e).e σ G fun x G1=>yT x fun i=>Q (some i) G1
def zA:IO->T3
 | .no=>fun _ G Q=>Q true G
 | .yes e=>(zL XN e).t
def zO (E:XQ):IEs->A3
 | .nil=>fun _ G Q=>Q [] G
 | .cons e es=>fun σ G Q=>(zL E e).e σ G fun x G1=>zO E es σ G1 fun xs G2=>Q (x::xs) G2
def zC (E:XQ):II->I3
 | .val e=>fun σ G R=>(zL E e).e σ G fun w G1=>uA w G1 R
 | .blt i es=>fun σ G R=>zO E es σ G fun ws G1=>match Γ.it[i]? with|some h=>h.sp ws G1 R|none=>False
 | .spc i es=>fun σ G R=>zO E es σ G fun ws G1=>match Γ.ix[i]? with|some h=>h.sp ws G1 R|none=>False
end
def semL:IEs->List E3
 | .nil=>[]
 | .cons e es=>(zL Γ XN e).e::semL es
abbrev zJ (E:XQ) (e:IE):E3:=(zL Γ E e).e
abbrev zD (E:XQ) (e:IE):T3:=(zL Γ E e).t
def forR (items:List W) (stab:Hw->Prop) (D:End3) (σ:wU) (G1:Hw) (turn:W->End3->wU->Hw->Prop):Prop :=
 ∃ Pv:Nat->wU->Hw->Prop,Pv 0 σ G1/\(∀ i σ G,Pv i σ G->i<=items.length->stab G) /\
  (∀ i w σ G,items[i]?=some w->Pv i σ G->turn w { D with nx:=Pv (i+1),ct:=Pv (i+1),bk:=D.nx } σ G)/\∀ σ G,Pv items.length σ G->D.nx σ G
mutual
def zF (E:XQ):IS->S3
 | .asg i e=>fun D σ G=>zJ Γ E e σ G fun w G1=>D.nx (σ.set i (some w)) G1
 | .asgT ts e=>fun D σ G=>zJ Γ E e σ G fun w G1=>zM (.tup ts) (unl G1 w) σ G1 D.nx
 | .asgI o i e=>fun D σ G=>zJ Γ E e σ G fun w G1=>zJ Γ E o σ G1 fun x G2=>zJ Γ E i σ G2 fun y G3=>fL x y w G3 fun G4=>D.nx σ G4
 | .asgA o f e=>fun D σ G=>zJ Γ E e σ G fun w G1=>zJ Γ E o σ G1 fun x G2=>satR Γ.cl f x w G2 fun G3=>D.nx σ G3
 | .ex e=>fun D σ G=>zJ Γ E e σ G fun _ G1=>D.nx σ G1
 | .ret e=>fun D σ G=>zJ Γ E e σ G D.rt
 | .retN=>fun D _ G=>D.rt .non G
 | .pass=>fun D σ G=>D.nx σ G
 | .brk=>fun D σ G=>D.bk σ G
 | .cnt=>fun D σ G=>D.ct σ G
 | .ite c a b=>fun D σ G=>zD Γ E c σ G fun k G1=>if k=true then yQ E a D σ G1 else yQ E b D σ G1
 | .whl c b=>fun D σ G=>∃ Pv:Nat->wU->Hw->Prop,(∃ m,Pv m σ G)/\∀ m σ G,Pv m σ G->zD Γ E c σ G fun k G1 =>
   if k=true then yQ E b { D with nx:=fun σ' G'=>∃ m',m' < m/\Pv m' σ' G',ct:=fun σ' G'=>∃ m',m' < m/\Pv m' σ' G',bk:=D.nx } σ G1 else D.nx σ G1
 | .for tg it b=>fun D σ G=>zC Γ E it σ G fun items stab G1=>forR items stab D σ G1 fun w D' σ' G'=>zM tg w σ' G' fun σ2 G2=>yQ E b D' σ2 G2
 | .dead=>fun _ _ _=>False
 | .asgS i j e=>fun D σ G=>zJ Γ E e σ G fun w G1=>match w with
  | .tup (x::r)=>r.length<=1000/\∀ p,G1 p=none->D.nx ((σ.set i (some x)).set j (some (.ref p))) (put G1 p (.lst r))
  |_=>False
def yQ (E:XQ):ISs->S3
 | .nil=>fun D σ G=>D.nx σ G
 | .cons s ss=>fun D σ G=>zF E s { D with nx:=yQ E ss D } σ G
end
end
theorem qI (Γ:Ctx3):∀ es:IEs,zO Γ XN es=kQ (semL Γ es)
 | .nil=>rfl
 | .cons e es=>by
  show (fun (σ:wU) (G:Hw) (Q:List W->Hw->Prop)=>(zL Γ XN e).e σ G fun x G1=>zO Γ XN es σ G1 fun xs G2=>Q (x::xs) G2)=_;rw [qI Γ es];rfl
structure TabMono (Γ:Ctx3):Prop where
 fn:∀ f∈Γ.fn,∀ ws G (Q Q':Q3) E,(∀ w G',Q w G'->Q' w G')->f.sp ws G Q E->f.sp ws G Q' E
 mt:∀ m∈Γ.mt,∀ x ws G (Q Q':Q3),(∀ w G',Q w G'->Q' w G')->m.sp x ws G Q->m.sp x ws G Q'
 it:∀ m∈Γ.it,∀ ws G (R R':List W->(Hw->Prop)->Hw->Prop),(∀ a b c,R a b c->R' a b c)->m.sp ws G R->m.sp ws G R'
 sx:∀ m∈Γ.sx,∀ ws G (Q Q':Q3),(∀ w G',Q w G'->Q' w G')->m.sp ws G Q->m.sp ws G Q'
 ix:∀ m∈Γ.ix,∀ ws G (R R':List W->(Hw->Prop)->Hw->Prop),(∀ a b c,R a b c->R' a b c)->m.sp ws G R->m.sp ws G R'
def zho (t:I3):Prop:=∀ σ G (R R':List W->(Hw->Prop)->Hw->Prop),(∀ a b c,R a b c->R' a b c)->t σ G R->t σ G R'
def zhn (t:wU->Hw->(Option Int->Hw->Prop)->Prop):Prop:=∀ σ G (Q Q':Option Int->Hw->Prop),(∀ a b,Q a b->Q' a b)->t σ G Q->t σ G Q'
theorem wA {w:W} {Q Q':Bool->Prop} (k:∀ b,Q b->Q' b) (h:xD w Q):xD w Q':=by
 cases w<;>first|exact k _ h|exact h.elim
theorem nK {w:W} {Q Q':Int->Prop} (k:∀ b,Q b->Q' b) (h:yT w Q):yT w Q':=by
 cases w<;>first|exact k _ h|exact h.elim
theorem zaG {w:W} {G:Hw} {Q Q':Q3} (k:∀ w G,Q w G->Q' w G) (h:yP w G Q):yP w G Q':=by
 cases w<;>first|exact k _ _ h|exact h.elim
theorem zbo {cl:List (Addr×List Str)} {f:Str} {w:W} {G:Hw} {Q Q':Q3} (k:∀ w G,Q w G->Q' w G) (h:pN cl f w G Q):pN cl f w G Q':=by
 cases w with
 |ref p =>
  simp only [pN] at h ⊢
  split at h
  .refine ⟨h.1,?_⟩;have h2:=h.2
   split at h2
   .exact k _ _ h2
   .exact h2.elim
  .exact h.elim
 |_=>exact h.elim
theorem rT {w:W} {G:Hw} {R R':List W->(Hw->Prop)->Hw->Prop} (k:∀ a b c,R a b c->R' a b c) (h:uA w G R):uA w G R':=by
 cases w with
 |tup ws=>exact k _ _ _ h
 |ref p =>
  simp only [uA] at h ⊢
  split at h
  .exact k _ _ _ h
  .split at h
   .exact k _ _ _ h
   .exact h.elim
 |str x=>exact k _ _ _ h
 |_=>exact h.elim
theorem zco {items:List W} {stab:Hw->Prop} {G1:Hw} {turn:W->Hw->(Option W->Hw->Prop)->Prop} {Q Q':Q3} (k:∀ w G,Q w G->Q' w G) (h:lcR items stab G1 turn Q):lcR items stab G1 turn Q':=by
 obtain ⟨Pv,h0,h1,h2,h3,h4⟩:=h;exact ⟨Pv,h0,h1,h2,h3,fun acc G hp p hn=>k _ _ (h4 acc G hp p hn)⟩
theorem zam {e:E3} (m:xL e):qB (yZ e):=fun σ G Q Q' k h=>m σ G _ _ (fun w G1 q=>by
 split at q
 .exact k _ _ q
 .exact q.elim) h
theorem zcU {e:E3} (m:xL e):qB (wT e):=fun σ G Q Q' k h=>m σ G _ _ (fun w G1 q=>wA (fun b=>k b G1) q) h
theorem yI {e:E3} (m:xL e):xL (xY e).e/\qB (xY e).t:=⟨m,zam m⟩
theorem sF {e:E3} (m:xL e):xL (xC e).e/\qB (xC e).t:=⟨m,zcU m⟩
theorem xR {α:Type} {l:List α} {i:Nat} {x:α} (h:l[i]?=some x):x∈l:=List.mem_of_getElem? h
variable {Γ : Ctx3} (g : TabMono Γ)
include g
theorem dM (e:IE):∀ E,xL (zL Γ E e).e/\qB (zL Γ E e).t:=by
 refine IE.rec (motive_1:=fun e=>∀ E,xL (zL Γ E e).e/\qB (zL Γ E e).t) (motive_2:=fun o=>(∀ E,zhn (yY Γ E o))/\qB (zA Γ o)) (motive_3:=fun es=>∀ E,qR (zO Γ E es)) (motive_4:=fun it=>∀ E,zho (zC Γ E it))
  (motive_5:=fun _=>True) (motive_6:=fun _=>True) ?var ?con ?glb ?bin ?neg ?not ?cmp ?chn ?and ?or ?ite ?ix ?sl ?tup ?lst ?dct ?call ?mth ?att ?lc ?spc ?ch3 ?no ?yes ?nil ?cons ?val ?blt ?ispc ?nm ?tt ?tn ?tc e
 case var =>
  intro i E;refine yI fun σ G Q Q' k h=>?_
  split at h
  .exact k _ _ h
  .exact h.elim
 case con =>
  intro c E;refine yI fun σ G Q Q' k h=>?_
  split at h
  .exact k _ _ h
  .exact h.elim
 case glb =>
  intro i E;refine yI fun σ G Q Q' k h=>?_
  split at h
  .exact k _ _ h
  .exact h.elim
 case bin=>exact fun op a b ha hb E=>yI fun σ G Q Q' k h=>(ha E).1 σ G _ _ (fun x G1 h=>(hb E).1 σ G1 _ _ (fun y G2 h=>mY op x y G2 _ _ k h) h) h
 case neg=>exact fun a ha E=>yI fun σ G Q Q' k h=>(ha E).1 σ G _ _ (fun x G1 h=>zaG k h) h
 case not=>exact fun a ha E=>⟨fun σ G Q Q' k h=>(ha E).1 σ G _ _ (fun x G1 h=>wA (fun b=>k _ _) h) h,fun σ G Q Q' k h=>(ha E).2 σ G _ _ (fun b G1 h=>k _ _ h) h⟩
 case cmp=>exact fun op a b ha hb E=>sF fun σ G Q Q' k h=>(ha E).1 σ G _ _ (fun x G1 h=>(hb E).1 σ G1 _ _ (fun y G2 h=>yJ op x y G2 _ _ k h) h) h
 case chn =>
  exact fun o1 o2 a b c ha hb hc E=>sF fun σ G Q Q' k h=>(ha E).1 σ G _ _ (fun x G1 h=>(hb E).1 σ G1 _ _ (fun y G2 h=>yJ o1 x y G2 _ _ (fun z G3 h=>wA (fun b h=>by
   split
   .rename_i hb;rw [if_pos hb] at h;exact (hc E).1 σ G3 _ _ (fun u G4 h=>yJ o2 y u G4 _ _ k h) h
   .rename_i hb;rw [if_neg hb] at h;exact k _ _ h) h) h) h) h
 case ch3 =>
  exact fun o1 o2 o3 a b c d ha hb hc hd E=>sF fun σ G Q Q' k h=>(ha E).1 σ G _ _ (fun x G1 h=>(hb E).1 σ G1 _ _ (fun y G2 h=>yJ o1 x y G2 _ _ (fun z G3 h=>wA (fun b h=>by
   split
   .rename_i hb;rw [if_pos hb] at h
    exact (hc E).1 σ G3 _ _ (fun u G4 h=>yJ o2 y u G4 _ _ (fun z2 G5 h=>wA (fun b2 h=>by
     split
     .rename_i hb2;rw [if_pos hb2] at h;exact (hd E).1 σ G5 _ _ (fun t G6 h=>yJ o3 u t G6 _ _ k h) h
     .rename_i hb2;rw [if_neg hb2] at h;exact k _ _ h) h) h) h
   .rename_i hb;rw [if_neg hb] at h;exact k _ _ h) h) h) h) h
 case and =>
  exact fun a b ha hb E=>⟨fun σ G Q Q' k h=>(ha E).1 σ G _ _ (fun x G1 h=>wA (fun c h=>by
   split
   .rename_i hc;rw [if_pos hc] at h;exact (hb E).1 σ G1 _ _ k h
   .rename_i hc;rw [if_neg hc] at h;exact k _ _ h) h) h,fun σ G Q Q' k h=>(ha E).2 σ G _ _ (fun c G1 h=>by
   split
   .rename_i hc;rw [if_pos hc] at h;exact (hb E).2 σ G1 _ _ k h
   .rename_i hc;rw [if_neg hc] at h;exact k _ _ h) h⟩
 case or =>
  exact fun a b ha hb E=>⟨fun σ G Q Q' k h=>(ha E).1 σ G _ _ (fun x G1 h=>wA (fun c h=>by
   split
   .rename_i hc;rw [if_pos hc] at h;exact k _ _ h
   .rename_i hc;rw [if_neg hc] at h;exact (hb E).1 σ G1 _ _ k h) h) h,fun σ G Q Q' k h=>(ha E).2 σ G _ _ (fun c G1 h=>by
   split
   .rename_i hc;rw [if_pos hc] at h;exact k _ _ h
   .rename_i hc;rw [if_neg hc] at h;exact (hb E).2 σ G1 _ _ k h) h⟩
 case ite =>
  exact fun c a b hc ha hb E=>⟨fun σ G Q Q' k h=>(hc E).2 σ G _ _ (fun c G1 h=>by
   split
   .rename_i hc;rw [if_pos hc] at h;exact (ha E).1 σ G1 _ _ k h
   .rename_i hc;rw [if_neg hc] at h;exact (hb E).1 σ G1 _ _ k h) h,fun _ _ _ _ _ h=>h.elim⟩
 case ix=>exact fun a b ha hb E=>yI fun σ G Q Q' k h=>(ha E).1 σ G _ _ (fun x G1 h=>(hb E).1 σ G1 _ _ (fun y G2 h=>dE x y G2 _ _ k h) h) h
 case sl=>exact fun a lo hi ha hl hh E=>yI fun σ G Q Q' k h=>(ha E).1 σ G _ _ (fun x G1 h=>(hl.1 E) σ G1 _ _ (fun l G2 h=>(hh.1 E) σ G2 _ _ (fun u G3 h=>fM k h) h) h) h
 case tup=>exact fun es hs E=>yI fun σ G Q Q' k h=>(hs E) σ G _ _ (fun ws G1 h=>⟨h.1,k _ _ h.2⟩) h
 case lst=>exact fun es hs E=>yI fun σ G Q Q' k h=>(hs E) σ G _ _ (fun ws G1 h=>⟨h.1,fun p hp=>k _ _ (h.2 p hp)⟩) h
 case dct=>exact fun ks es hs E=>yI fun σ G Q Q' k h=>fun p hp=>(hs E) σ _ _ _ (fun ws G1 h=>⟨h.1,h.2.1,k _ _ h.2.2⟩) (h p hp)
 case call =>
  exact fun f es hs E=>yI fun σ G Q Q' k h=>(hs E) σ G _ _ (fun ws G1 h=>by
   split at h
   .rename_i f' e;exact g.fn f' (xR e) ws G1 Q Q' E k h
   .exact h.elim) h
 case mth =>
  exact fun m o es ho hs E=>yI fun σ G Q Q' k h=>(ho E).1 σ G _ _ (fun x G1 h=>by
   split at h
   .rename_i m' e;exact ⟨h.1,(hs E) σ G1 _ _ (fun ws G2 h=>g.mt m' (xR e) x ws G2 Q Q' k h) h.2⟩
   .exact h.elim) h
 case att=>exact fun o f ho E=>yI fun σ G Q Q' k h=>(ho E).1 σ G _ _ (fun x G1 h=>zbo k h) h
 case lc=>exact fun tg names caps it c elt _ hi hc he E=>yI fun σ G Q Q' k h=>(hi E) σ G _ _ (fun items stab G1 h=>zco k h) h
 case spc =>
  exact fun i es hs E=>yI fun σ G Q Q' k h=>(hs E) σ G _ _ (fun ws G1 h=>by
   split at h
   .rename_i f' e;exact g.sx f' (xR e) ws G1 Q Q' k h
   .exact h.elim) h
 case ispc =>
  exact fun i es hs E σ G R R' k h=>(hs E) σ G _ _ (fun ws G1 h=>by
   split at h
   .rename_i m' e;exact g.ix m' (xR e) ws G1 R R' k h
   .exact h.elim) h
 case no=>exact ⟨fun E σ G Q Q' k h=>k _ _ h,fun σ G Q Q' k h=>k _ _ h⟩
 case yes=>exact fun e he=>⟨fun E σ G Q Q' k h=>(he E).1 σ G _ _ (fun x G1 h=>nK (fun i=>k _ _) h) h,(he XN).2⟩
 case nil=>exact fun E σ G Q Q' k h=>k _ _ h
 case cons=>exact fun e es he hs E σ G Q Q' k h=>(he E).1 σ G _ _ (fun x G1 h=>(hs E) σ G1 _ _ (fun xs G2 h=>k _ _ h) h) h
 case val=>exact fun e he E σ G R R' k h=>(he E).1 σ G _ _ (fun w G1 h=>rT k h) h
 case blt =>
  exact fun i es hs E σ G R R' k h=>(hs E) σ G _ _ (fun ws G1 h=>by
   split at h
   .rename_i m' e;exact g.it m' (xR e) ws G1 R R' k h
   .exact h.elim) h
 case nm=>exact fun _=>trivial
 case tt=>exact fun _ _=>trivial
 case tn=>trivial
 case tc=>exact fun _ _ _ _=>trivial
theorem zT (E:XQ) (e:IE):xL (zL Γ E e).e:=(dM g e E).1
theorem vL (E:XQ) (e:IE):qB (zL Γ E e).t:=(dM g e E).2
theorem wE (E:XQ):∀ es:IEs,qR (zO Γ E es)
 | .nil=>fun σ G Q Q' k h=>k _ _ h
 | .cons e es=>fun σ G Q Q' k h=>zT g E e σ G _ _ (fun x G1 h=>wE E es σ G1 _ _ (fun xs G2 h=>k _ _ h) h) h
theorem zgu (E:XQ):∀ o:IO,zhn (yY Γ E o)
 | .no=>fun σ G Q Q' k h=>k _ _ h
 | .yes e=>fun σ G Q Q' k h=>zT g E e σ G _ _ (fun x G1 h=>nK (fun i=>k _ _) h) h
theorem monoC:∀ o:IO,qB (zA Γ o)
 | .no=>fun σ G Q Q' k h=>k _ _ h
 | .yes e=>vL g XN e
theorem zgv (E:XQ):∀ it:II,zho (zC Γ E it)
 | .val e=>fun σ G R R' k h=>zT g E e σ G _ _ (fun w G1 h=>rT k h) h
 | .blt i es=>fun σ G R R' k h=>wE g E es σ G _ _ (fun ws G1 h=>by
   split at h
   .rename_i m' e;exact g.it m' (xR e) ws G1 R R' k h
   .exact h.elim) h
 | .spc i es=>fun σ G R R' k h=>wE g E es σ G _ _ (fun ws G1 h=>by
   split at h
   .rename_i m' e;exact g.ix m' (xR e) ws G1 R R' k h
   .exact h.elim) h
end L3
namespace L3
open PySem PySem.Spec PyProof.Rows L2
structure MC where
 sc:Scope
 N:List Str
 own:Str->Bool
 fns:List Str
 gls:List Str
 mts:List Str
 its:List Str
 sxm:List (Scope->Expr->Option (List Expr))
 ixm:List (Scope->Expr->Option (List Expr))
def visB (sc:Scope) (x:Str):Bool:=match sc.names.lookup x with
 |some .local=>true
 |some .cell=>true
 |some .free=>true
 |_=>false
def kM (sc:Scope) (x:Str):Bool:=sc.names.lookup x==some .globalImplicit&&!(x==("__debug__" : Str))&&!(x==("__name__" : Str))
def vM:Expr->Bool
 | .Set ..=>false
 |_=>true
def yB:Expr->Bool
 | .Starred ..=>false
 |_=>true
def jD:Expr->Bool
 | .Slice ..=>false
 |_=>true
def uQ:Expr->Bool
 | .ListComp ..=>false
 | .SetComp ..=>false
 | .DictComp ..=>false
 |_=>true
def tX:Expr->Bool
 | .Call (.Name ..) [] [] _=>false
 |_=>true
def bU (sc out:Scope):Scope:={ sc with names:=sc.names.map fun (n,k)=>if (k==.free&&out.kind==.function&&out.names.lookup n==some .cell) then (n,.cell) else (n,k) }
def blkB (out sc:Scope):Bool:=(sc.kind==.function)&&(sc.names.all fun y=>(!(y.2==.cell) || sc.names.lookup y.1==some .cell)&&(!(y.2==.free) || sc.names.lookup y.1==some .free)) &&
 (sc.names.all fun y=>!(y.2==.free) || out.names.lookup y.1==some .cell || out.names.lookup y.1==some .free) &&
 (sc.names.all fun y=>!(y.2==.local) || sc.names.lookup y.1==some .local)
def sO:List Str->Bool
 | []=>true
 |x::r=>!r.contains x&&sO r
def hJ (M:MC) (x:Str):Bool:=match M.sc.names.lookup x with
 |some .local=>true
 |some .cell=>M.own x
 |_=>false
mutual
def tgIx:ITg->List Nat
 | .nm i=>[i]
 | .tup ts=>zbA ts
def zbA:ITgs->List Nat
 | .nil=>[]
 | .cons t ts=>tgIx t++zbA ts
end
mutual
def mG (M:MC):ITg->Expr->Bool
 | .nm i,.Name x _=>M.N[i]?==some x&&hJ M x
 | .tup ts,.Tuple es _ _=>mGs M ts es
 |_,_=>false
def mGs (M:MC):ITgs->List Expr->Bool
 | .nil,[]=>true
 | .cons t ts,e::es=>yB e&&mG M t e&&mGs M ts es
 |_,_=>false
end
mutual
def mE:IE->MC->Expr->Bool
 | .var i=>fun M e=>match e with
  | .Name x _=>M.N[i]?==some x&&visB M.sc x&&!(x==("__debug__" : Str))&&!(x==("__classdict__" : Str))
  |_=>false
 | .con c=>fun M e=>match e with
  | .Constant d _ _=>decide (c=d)
  |_=>false
 | .glb i=>fun M e=>match e with
  | .Name x _=>M.gls[i]?==some x&&kM M.sc x
  |_=>false
 | .bin op a b=>fun M e=>match e with
  | .BinOp l o r _=>decide (op=o)&&mE a M l&&mE b M r
  |_=>false
 | .neg a=>fun M e=>match e with
  | .UnaryOp .USub l _=>mE a M l
  |_=>false
 | .not a=>fun M e=>match e with
  | .UnaryOp .Not l _=>mE a M l
  |_=>false
 | .cmp op a b=>fun M e=>match e with
  | .Compare l [o] [r] _=>decide (op=o)&&mE a M l&&mE b M r&&vM r
  |_=>false
 | .chn o1 o2 a b c=>fun M e=>match e with
  | .Compare l [p1,p2] [r,t] _=>decide (o1=p1)&&decide (o2=p2)&&mE a M l&&mE b M r&&mE c M t&&vM t
  |_=>false
 | .ch3 o1 o2 o3 a b c d=>fun M e=>match e with
  | .Compare l [p1,p2,p3] [r,t,u] _=>decide (o1=p1)&&decide (o2=p2)&&decide (o3=p3)&&mE a M l&&mE b M r&&mE c M t&&mE d M u&&vM u
  |_=>false
 | .and a b=>fun M e=>match e with
  | .BoolOp .And [l,r] _=>mE a M l&&mE b M r
  | .BoolOp .And (l::r::q::rest) pos=>mE a M l&&mE b M (.BoolOp .And (r::q::rest) pos)
  |_=>false
 | .or a b=>fun M e=>match e with
  | .BoolOp .Or [l,r] _=>mE a M l&&mE b M r
  | .BoolOp .Or (l::r::q::rest) pos=>mE a M l&&mE b M (.BoolOp .Or (r::q::rest) pos)
  |_=>false
 | .ite c a b=>fun M e=>match e with
  | .IfExp t l r _=>mE c M t&&mE a M l&&mE b M r
  |_=>false
 | .ix a i=>fun M e=>match e with
  | .Subscript l r _=>mE a M l&&mE i M r&&jD r
  |_=>false
 | .sl a lo hi=>fun M e=>match e with
  | .Subscript l (.Slice x y none _) _=>mE a M l&&mO lo M x&&mO hi M y
  |_=>false
 | .tup es=>fun M e=>match e with
  | .Tuple xs _ _=>mA es M xs
  |_=>false
 | .lst es=>fun M e=>match e with
  | .List xs _=>mA es M xs
  |_=>false
 | .dct ks es=>fun M e=>match e with
  | .Dict keys xs _=>keyB ks keys&&mA es M xs&&decide (keys.length=xs.length)&&decide (keys.length<=15)&&!ks.isEmpty
  |_=>false
 | .call f es=>fun M e=>match e with
  | .Call (.Name x _) xs [] _=>M.fns[f]?==some x&&kM M.sc x&&mA es M xs
  |_=>false
 | .mth m o es=>fun M e=>match e with
  | .Call (.Attribute l x apos) xs [] cpos=>M.mts[m]?==some x&&tX l&&(apos.endLine==cpos.line)&&decide (xs.length<25)&&mE o M l&&mA es M xs
  |_=>false
 | .att o f=>fun M e=>match e with
  | .Attribute l x _=>x==f&&tX l&&mE o M l
  |_=>false
 | .lc tg names caps it c elt=>fun M e=>match e with
  | .ListComp x [⟨t,ix,ifs,asy⟩] sc _ =>
   let M':MC:={ M with sc:=bU sc M.sc,N:=names++caps.map (fun j=>M.N.getD j Str.empty),own:=fun x=>sc.names.lookup x==some .cell }
   decide (asy=0)&&blkB M.sc sc&&vM ix&&sO M'.N&&(caps.all fun j=>decide (j<M.N.length)&&(sc.names.lookup (M.N.getD j Str.empty)==some .free)) &&
    mI it M ix&&((tgIx tg).all fun i=>decide (i<names.length))&&mG M' tg t&&mC c M' ifs&&mE elt M' x
  |_=>false
 | .spc i es=>fun M e=>uQ e&&(match M.sxm[i]? with
  |some m=>(match m M.sc e with|some xs=>mA es M xs|none=>false)
  |none=>false)
def mO:IO->MC->Option Expr->Bool
 | .no=>fun M e=>match e with|none=>true|_=>false
 | .yes a=>fun M e=>match e with|some x=>mE a M x|_=>false
def mC:IO->MC->List Expr->Bool
 | .no=>fun M e=>match e with | []=>true|_=>false
 | .yes a=>fun M e=>match e with | [x]=>mE a M x|_=>false
def mA:IEs->MC->List Expr->Bool
 | .nil=>fun M e=>match e with | []=>true|_=>false
 | .cons a as=>fun M e=>match e with|x::xs=>yB x&&mE a M x&&mA as M xs|_=>false
def mI:II->MC->Expr->Bool
 | .val a=>fun M e=>mE a M e
 | .blt i es=>fun M e=>match e with
  | .Call (.Name x _) xs [] _=>M.its[i]?==some x&&kM M.sc x&&mA es M xs
  |_=>false
 | .spc i es=>fun M e=>match M.ixm[i]? with
  |some m=>(match m M.sc e with|some xs=>mA es M xs|none=>false)
  |none=>false
def keyB:List Str->List (Option Expr)->Bool
 | []=>fun e=>match e with | []=>true|_=>false
 |k::ks=>fun e=>match e with|some (.Constant (.str x) _ _)::es=>k==x&&keyB ks es|_=>false
end
def zbC (M:MC) (i j:Nat):Expr->Bool
 | .Tuple [.Name x _,.Starred (.Name y _) _] _ _=>(M.N[i]?==some x&&hJ M x)&&(M.N[j]?==some y&&hJ M y)
 |_=>false
mutual
def mS:IS->MC->Stmt->Bool
 | .asg i a=>fun M s=>match s with
  | .Assign [.Name x py] e _=>M.N[i]?==some x&&hJ M x&&mE a M e
  |_=>false
 | .asgT ts a=>fun M s=>match s with
  | .Assign [.Tuple es _ _] e _=>uQ e&&zce e&&mGs M ts es&&mE a M e
  |_=>false
 | .asgI o i a=>fun M s=>match s with
  | .Assign [.Subscript l r _] e _=>uQ e&&jD r&&mE o M l&&mE i M r&&mE a M e
  |_=>false
 | .asgA o f a=>fun M s=>match s with
  | .Assign [.Attribute l x _] e _=>x==f&&uQ e&&mE o M l&&mE a M e
  |_=>false
 | .ex a=>fun M s=>match s with
  | .Expr e _=>uQ e&&mE a M e
  |_=>false
 | .ret a=>fun M s=>match s with
  | .Return (some e) _=>mE a M e
  |_=>false
 | .retN=>fun M s=>match s with|.Return none _=>true|_=>false
 | .pass=>fun M s=>match s with|.Pass _=>true|_=>false
 | .brk=>fun M s=>match s with|.Break _=>true|_=>false
 | .cnt=>fun M s=>match s with|.Continue _=>true|_=>false
 | .ite c a b=>fun M s=>match s with
  | .If t x y _=>mE c M t&&uO a M x&&uO b M y
  |_=>false
 | .whl c b=>fun M s=>match s with
  | .While t x [] _=>mE c M t&&uO b M x
  |_=>false
 | .for tg it b=>fun M s=>match s with
  | .For t x y [] _=>vM x&&mG M tg t&&mI it M x&&uO b M y
  |_=>false
 | .dead=>fun M s=>true
 | .asgS i j a=>fun M s=>match s with
  | .Assign [t] e _=>uQ e&&zce e&&zbC M i j t&&mE a M e
  |_=>false
def uO:ISs->MC->List Stmt->Bool
 | .nil=>fun M s=>match s with | []=>true|_=>false
 | .cons a as=>fun M s=>match s with|x::xs=>mS a M x&&uO as M xs|_=>false
def zce:Expr->Bool
 | .Tuple ..=>false
 |_=>true
end
theorem vT {a b:Bool} (h:(a&&b)=true):a=true/\b=true:=(Bool.and_eq_true a b).mp h
theorem bd3 {a b c:Bool} (h:(a&&b&&c)=true):(a=true/\b=true)/\c=true:=⟨vT (vT h).1,(vT h).2⟩
theorem bd4 {a b c d:Bool} (h:(a&&b&&c&&d)=true):((a=true/\b=true)/\c=true)/\d=true:=⟨bd3 (vT h).1,(vT h).2⟩
theorem bd5 {a b c d e:Bool} (h:(a&&b&&c&&d&&e)=true):(((a=true/\b=true)/\c=true)/\d=true)/\e=true:=⟨bd4 (vT h).1,(vT h).2⟩
theorem bd6 {a b c d e f:Bool} (h:(a&&b&&c&&d&&e&&f)=true):((((a=true/\b=true)/\c=true)/\d=true)/\e=true)/\f=true:=⟨bd5 (vT h).1,(vT h).2⟩
theorem bd7 {a b c d e f g:Bool} (h:(a&&b&&c&&d&&e&&f&&g)=true):(((((a=true/\b=true)/\c=true)/\d=true)/\e=true)/\f=true)/\g=true:=⟨bd6 (vT h).1,(vT h).2⟩
theorem bd8 {a b c d e f g k:Bool} (h:(a&&b&&c&&d&&e&&f&&g&&k)=true):((((((a=true/\b=true)/\c=true)/\d=true)/\e=true)/\f=true)/\g=true)/\k=true:=⟨bd7 (vT h).1,(vT h).2⟩
theorem bd9 {a b c d e f g k l:Bool} (h:(a&&b&&c&&d&&e&&f&&g&&k&&l)=true):(((((((a=true/\b=true)/\c=true)/\d=true)/\e=true)/\f=true)/\g=true)/\k=true)/\l=true:=⟨bd8 (vT h).1,(vT h).2⟩
theorem bd10 {a b c d e f g k l m:Bool} (h:(a&&b&&c&&d&&e&&f&&g&&k&&l&&m)=true):((((((((a=true/\b=true)/\c=true)/\d=true)/\e=true)/\f=true)/\g=true)/\k=true)/\l=true)/\m=true:=⟨bd9 (vT h).1,(vT h).2⟩
end L3
namespace L2
open PySem PySem.Spec PyProof.Rows
def Itd (d:Addr) (ob:Obj) (l:List (yW×V)):It where
 go:=fun i H=>H d=some (.frz ob (.dK l))/\i<l.length
 yld:=fun i H x H'=>H'=H/\∃ p,l[i]?=some p/\x=kV p.1
 stop:=fun i H=>H d=some (.frz ob (.dK l))/\l.length<=i
def KiSt (it d:Addr) (ob:Obj) (n i:Nat) (h:Heap):Prop:=∃ ep es,ob.data=.dict es ep/\h.IsKeyIter it d i n ep
section
variable {X : Cx} {pins : List (Addr × Obj)} {σ : St} {H : Hp} {s : Shared} {d : Addr} {ob : Obj} {l : List (yW × V)}
theorem zdj {κ:Type}:∀ {l:List (κ×V)} {vs:List (κ×Value)} {i:Nat} {k:κ} {v:Value},KV l vs->vs[i]?=some (k,v)->∃ x,l[i]?=some (k,x)
 |_,_,i,k,v,.nil,e=>by simp at e
 |p::_,_,0,k,v,.cons r t,e=>by
  simp at e;subst e;obtain ⟨a,b⟩:=p;have h1:a=k:=r.1;exact ⟨b,by simp [h1]⟩
 |_::_,_,i+1,k,v,.cons r t,e=>by
  obtain ⟨x,h⟩:=zdj (i:=i) (k:=k) (v:=v) t (by simpa using e);exact ⟨x,by simpa using h⟩
theorem zdi {κ:Type}:∀ {l:List (κ×V)} {vs:List (κ×Value)},KV l vs->vs.length=l.length
 |_,_,.nil=>rfl
 |_,_,.cons _ t=>by rw [List.length_cons,List.length_cons,zdi t]
theorem bC (I:Inv X pins σ H s) (e:H d=some (.frz ob (.dK l))) {es:Array DictEntry} {ep:Nat} (hd:ob.data=.dict es ep):∃ vs,KV l vs/\s.heap.DictAt (yE X.prog X.w) d vs ep/\vs.length=l.length:=by
 obtain ⟨hg,_,_,vs,kv,o,es',ep',ho,hc,hdat,r⟩:=(show yK X.prog X.w H s.heap d (.frz ob (.dK l)) from I.hok d _ e);rw [hg] at ho;cases ho;rw [hd] at hdat;cases hdat;exact ⟨vs,kv,⟨ob,es,hg,hc,hd,r⟩,zdi kv⟩
theorem zaQ {k:yW} {v:Value} (h:rW k v=true):zR (kV k) v:=by
 rcases yL h with ⟨i,t,rfl,rfl⟩|⟨x,t,rfl,rfl⟩
 .exact ⟨t,rfl⟩
 .exact ⟨t,rfl⟩
theorem zal {P:Program} {w:World} {K:PySem.W.Frag} {tg:Expr} (it:Addr):Turn P w K tg (Itd d ob l) [it] it (KiSt it d ob l.length) where
 mem:=by simp
 obj:=fun i h st b hb=>by
  cases zzO hb;obtain ⟨ep,es,_,o,e,c,z⟩:=st;exact ⟨o,e,fun v q=>by rw [z] at q;cases q⟩
 keep:=fun i h h' st k=>by
  obtain ⟨ep,es,hd,st⟩:=st;exact ⟨ep,es,hd,st.at fun o e=>k it (by simp) o e⟩
 item:=by
  intro X e1 e2 e3 hc i pins s σ H E I hf st hg;subst e1;subst e2;subst e3;obtain ⟨ep,es,hd,st⟩:=st;obtain ⟨e,hi⟩:=hg;obtain ⟨vs,kv,da,lv⟩:=bC I e hd;obtain ⟨f0,f1,f2,f3,f4,f5⟩:=hf it (by simp);obtain ⟨⟨k,v⟩,ek⟩:∃ p,vs[i]?=some p:=⟨vs[i]'(by omega),List.getElem?_eq_getElem _⟩;obtain ⟨x,ex⟩:=zdj kv ek;rw [← lv] at st;refine wpAny_pyNext_dict_item st da ek fun key h' hkey st' sb=>?_;have I1:Inv X pins σ H { s with heap:=h',toks:=s.toks }:=I.turned (fun b o hb q=>(sb.2 b hb).trans q) f0 f1 f3 f4 f5;obtain ⟨o,o1,o2,o3⟩:=id st';refine ⟨key,rfl,zcB (s:={ s with heap:=h' }) o1 o2 o3 (by decide) ⟨kV k,H,I1,zaQ hkey,⟨rfl,(k,x),ex,rfl⟩,⟨ep,es,hd,?_⟩,fun b hb=>(hf b hb).1⟩⟩;rw [← lv];exact st'
 done:=by
  intro X e1 e2 e3 hc i pins s σ H E I hf st hg;subst e1;subst e2;subst e3;obtain ⟨ep,es,hd,st⟩:=st;obtain ⟨e,hi⟩:=hg;obtain ⟨vs,kv,da,lv⟩:=bC I e hd;obtain ⟨f0,f1,f2,f3,f4,f5⟩:=hf it (by simp);rw [← lv] at st;exact wpAny_pyNext_dict_end (I.ok.hd hc) st da (List.getElem?_eq_none (by omega)) fun h' eb=>⟨rfl,I.turned (t':=s.toks) (fun b o hb q=>eb b o hb q) f0 f1 f3 f4 f5⟩
 self:=fun _ _ _ _ _ st h=>by
  obtain ⟨ep,es,hd,st⟩:=st;exact wpAny_pyIter_keyiter st h
theorem zcY {u:HO} (e:H d=some u):yN H d u=H:=by
 funext b
 unfold yN
 split
 .rename_i h;subst h;exact e.symm
 .rfl
theorem zeI (I:Inv X pins σ H s) (e:Rd H d (.dK l)):∃ ob,Inv X pins σ (yN H d (.frz ob (.dK l))) s/\(∃ es ep,ob.data=.dict es ep)/\∀ ob',H d=some (.frz ob' (.dK l))->ob'=ob:=by
 rcases e with e|⟨ob,e⟩
 .have q:=I.hok d _ e;obtain ⟨h1,h2,vs,kv,o,es,ep,ho,hc,hdat,r⟩:=id q;have mu:Mut (H d):=by rw [e];exact True.intro
  refine ⟨o,I.un (t':=s.toks) (Un.write mu (.inl rfl) (fun b u _ z=>z) ⟨o,ho⟩) (I.hok.write mu (.inl rfl) (fun b u _ z=>z) ⟨o,ho⟩ ⟨ho,h1,h2,vs,kv,o,es,ep,ho,hc,hdat,r⟩),⟨es,ep,hdat⟩,fun ob' z=>by rw [e] at z;cases z⟩
 .obtain ⟨hg,_,_,vs,kv,o,es,ep,ho,hc,hdat,r⟩:=(show yK X.prog X.w H s.heap d (.frz ob (.dK l)) from I.hok d _ e);rw [hg] at ho;cases ho;exact ⟨ob,by rw [zcY e];exact I,⟨es,ep,hdat⟩,fun ob' z=>by rw [e] at z;cases z;rfl⟩
theorem ze1 {tg:Expr} {R:It->Hp->Prop} {E:Value->Shared->Prop} (I:Inv X pins σ H s) (e:Rd H d (.dK l)) (q:∀ ob,(∀ ob',H d=some (.frz ob' (.dK l))->ob'=ob)->R (Itd d ob l) (yN H d (.frz ob (.dK l)))):wpAny (model X.prog X.w) X.A (pyIter (.ref d)) (PIE X pins σ tg R) E s:=by
 have hs:(d==sysModules)=false:=(rO I.hok e).2.1;obtain ⟨ob,J,⟨es,ep,hd⟩,same⟩:=zeI I e;obtain ⟨vs,kv,da,lv⟩:=bC J xZ hd;refine wpAny_pyIter_dict hs da ?_;refine ⟨s.heap.objs.size,[s.heap.objs.size],_,_,_,rfl,J.kept (t':=s.toks) fun b o e=>Heap.get?_push_of_some _ e,zal _,⟨ep,es,hd,⟨_,Heap.get?_push_size _ rfl,rfl,by rw [lv];rfl⟩⟩,fun b hb=>?_,q ob same⟩;cases zzO hb;exact J.fpOk (zzR _) (J.hok.fresh (zzR _))
end
end L2
namespace L3
open PySem PySem.Spec PyProof.Rows L2 PySem.SeqAt
structure Par where
 prog:Program
 w:World
 K:zE
 mg:Str->Option Value
 base:Heap
 A:Around
structure Fits (p:Par) (X:Cx):Prop where
 prog:X.prog=p.prog
 w:X.w=p.w
 K:X.K=p.K
 mg:X.mg=p.mg
 base:X.base=p.base
 A:X.A=p.A
 calm:X.calm=true
 xe:X.xe=fun _ _=>False
structure ItIs (K:zE) (J:It) (H1:Hp) (ws:List W) (stab:Hw->Prop):Prop where
 go:∀ i H G,zB K H1 H->yF K H G->stab G->i<ws.length->J.go i H
 yld:∀ i H G x H',zB K H1 H->yF K H G->stab G->i<ws.length->J.yld i H x H'->∃ w,ws[i]?=some w/\zB K H H'/\yA K H' w x/\yF K H' G
 stop:∀ i H G,zB K H1 H->yF K H G->stab G->ws.length<=i->J.stop i H
def dH (K:zE) (t:I3):TI:=fun τ H R=>∃ σ G,zG K H σ τ/\yF K H G/\t σ G fun ws stab G1=>∀ J H1,zB K H H1->yF K H1 G1->ItIs K J H1 ws stab->R J H1
def uZ (X:Cx):List Expr->List E3->Prop
 | [],[]=>True
 |x::xs,e::es=>xL e/\PE X x (yM X.K e)/\uZ X xs es
 |_,_=>False
structure Good (Γ:Ctx3) (p:Par):Prop where
 mono:TabMono Γ
 un:p.A.units+200<cLine
 fn:∀ f∈Γ.fn,∀ X,Fits p X->Gl X f.nm->∀ (args:List Expr) (t:A3) (q pos:Pos),qR t->args.all yB=true->PA X args (vJ X.K t)->(args=[]->∀ σ G Q,t σ G Q->Q [] G)->(f.nm==("__debug__" : Str))=false->f.nm ≠ "__name__" ->
  PE X (.Call (.Name f.nm q) args [] pos) (yM X.K fun σ G Q=>t σ G fun ws G1=>f.sp ws G1 Q XN)
 gl:∀ g∈Γ.gl,∀ X,Fits p X->Gl X g.1->∀ q:Pos,(g.1==("__debug__" : Str))=false->g.1 ≠ "__name__" -> PE X (.Name g.1 q) (yM X.K fun _ G Q=>Q g.2 G)
 mt:∀ m∈Γ.mt,∀ X,Fits p X->∀ (o:Expr) (args:List Expr) (to:E3) (t:A3) (apos cpos:Pos),xL to->qR t->tX o=true->(apos.endLine==cpos.line)=true->args.length<25->args.all yB=true ->
  PE X o (yM X.K to)->PA X args (vJ X.K t)->(args=[]->∀ σ G Q,t σ G Q->Q [] G)->PE X (.Call (.Attribute o m.nm apos) args [] cpos) (yM X.K fun σ G Q=>to σ G fun x G1=>tyW G1 x m.T/\t σ G1 fun ws G2=>m.sp x ws G2 Q)
 it:∀ i∈Γ.it,∀ X,Fits p X->Gl X i.nm->∀ (tg:Expr) (args:List Expr) (t:A3) (q pos:Pos),qR t->args.all yB=true->PA X args (vJ X.K t)->(args=[]->∀ σ G Q,t σ G Q->Q [] G)->(i.nm==("__debug__" : Str))=false->i.nm ≠ "__name__" ->
  PI X tg (.Call (.Name i.nm q) args [] pos) (dH X.K fun σ G R=>t σ G fun ws G1=>i.sp ws G1 R)
 cl:∀ c∈Γ.cl,Cls p.K c.1/\∀ f∈c.2,qS p.K c.1 f
 sx:∀ k∈Γ.sx,∀ X,Fits p X->∀ (e:Expr) (xs:List Expr) (es:List E3),k.m X.env.scope e=some xs->uZ X xs es->xs.all yB=true->PA X xs (vJ X.K (kQ es)) ->
  PE X e (yM X.K fun σ G Q=>kQ es σ G fun ws G1=>k.sp ws G1 Q)/\(∀ whole,isTrue e X.env whole=(do let v ← whole;standAt e.pos;holding [v] (truthy v)))/\∀ op vs pos,e≠.BoolOp op vs pos
 ix:∀ k∈Γ.ix,∀ X,Fits p X->∀ (tg e:Expr) (xs:List Expr) (es:List E3),k.m X.env.scope e=some xs->uZ X xs es->xs.all yB=true->PA X xs (vJ X.K (kQ es)) ->
  PI X tg e (dH X.K fun σ G R=>kQ es σ G fun ws G1=>k.sp ws G1 R)
structure Lk (Γ:Ctx3) (M:MC) (p:Par) (X:Cx):Prop where
 fits:Fits p X
 N:X.N=M.N
 sc:X.env.scope=M.sc
 nd:M.N.Nodup
 own:∀ x,M.own x=true->X.fn x=true
 kind:M.sc.kind=.function
 fns:Γ.fn.map (·.nm)=M.fns
 gls:Γ.gl.map (·.1)=M.gls
 mts:Γ.mt.map (·.nm)=M.mts
 its:Γ.it.map (·.nm)=M.its
 sxs:Γ.sx.map (·.m)=M.sxm
 ixs:Γ.ix.map (·.m)=M.ixm
theorem jX {e:Expr} {es:List Expr} {env:Env} (h:yB e=true):starEach (e::es) env=(false,eval e env)::starEach es env:=by
 cases e<;>first|rfl|exact absurd h zzN
theorem qT {o:Expr} {f:Str} {env:Env} {t:Sem Value} (h:tX o=true):attributeBase o f env t=t:=by
 unfold attributeBase
 split
 .exact absurd h zzN
 .rfl
theorem nG {e:Expr} {env:Env} (h:vM e=true):∀ x,foldedSetIterable e env x=pure x:=fun x=>by
 cases e<;>first|rfl|exact absurd h zzN
theorem jN {op:CmpOp} {e:Expr} (h:vM e=true):behindInMarks op e=false:=by
 cases e<;>first|rfl|exact absurd h zzN
theorem dW {e:Expr} (h:jD e=true):gC e:=fun o i=>by
 cases e<;>first|rfl|exact absurd h zzN
theorem jR {e:Expr} {t:Option Expr} {n:Nat} {env:Env} (h:uQ e=true):swapsWith e t n env=pure false:=by
 cases e<;>first|rfl|exact absurd h zzN
theorem zfn {sc:Scope} {x:Str} (h:visB sc x=true):Vis sc x:=by
 unfold visB at h
 split at h
 .rename_i e;exact .inl e
 .rename_i e;exact .inr (.inl e)
 .rename_i e;exact .inr (.inr e)
 .exact absurd h zzN
theorem nJ {X:Cx} {sc:Scope} {x:Str} (e:X.env.scope=sc) (h:kM sc x=true):Gl X x/\(x==("__debug__" : Str))=false/\x ≠ "__name__" := by
 unfold kM at h;simp only [Bool.and_eq_true,Bool.not_eq_true'] at h;refine ⟨?_,h.1.2,fun z=>?_⟩
 .show X.env.scope.names.lookup x=_;rw [e];exact eq_of_beq h.1.1
 .subst z;have:=h.2;simp at this
theorem wY {α:Type} [BEq α] [LawfulBEq α] {a:Option α} {b:α} (h:(a==some b)=true):a=some b:=eq_of_beq h
theorem kX {α β:Type} {f:α->β} {l:List α} {i:Nat} {y:β} (h:(l.map f)[i]?=some y):∃ x,l[i]?=some x/\f x=y:=by
 rw [List.getElem?_map] at h
 cases e:l[i]? with
 |none=>rw [e] at h;cases h
 |some x=>rw [e] at h;exact ⟨x,rfl,Option.some.inj h⟩
section
variable {X : Cx}
theorem zbz {K:zE} {e:E3} (m:xL e) {τ:L2.St} {H:Hp} {Q:Bool->Hp->Prop} (h:jY K (yZ e) τ H Q):yM K e τ H (fun x H'=>∃ k,TruV K x H' k/\Q k H'):=by
 obtain ⟨σ,G,hs,ha,h⟩:=h;refine yX m hs ha h fun w G1 v H1 gr _ rp ab q=>?_
 split at q
 .rename_i b hb;exact ⟨b,zdB rp ab hb,q H1 gr ab⟩
 .exact q.elim
theorem pt_of {x:Expr} {e:E3} (m:xL e) (h:PE X x (yM X.K e)) (he:∀ whole,isTrue x X.env whole=(do let v ← whole;standAt x.pos;holding [v] (truthy v))):PT X x (jY X.K (yZ e)) :=
 (zbW h he).imp fun σ H Q q=>zbz m q
theorem gE {K:zE} {e:E3} (m:xL e) {τ:L2.St} {H:Hp} {Q:Bool->Hp->Prop} (h:jY K (wT e) τ H Q):yM K e τ H (fun x H'=>∃ k,x=.bl k/\Q k H'):=by
 obtain ⟨σ,G,hs,ha,h⟩:=h;refine yX m hs ha h fun w G1 v H1 gr _ rp ab q=>?_
 cases w with
 |bl b=>cases rp;exact ⟨b,rfl,q H1 gr ab⟩
 |_=>exact q.elim
theorem hW {K:zE} {ea eb:E3} {r:R3} (ma:xL ea) (mb:xL eb) (mr:tU r) {τ:L2.St} {H:Hp} {Q:VK} (h:yM K (fun σ G Q=>ea σ G fun x G1=>eb σ G1 fun y G2=>r x y G2 Q) τ H Q) :
  tOp (uN K r) (yM K ea) (yM K eb) τ H Q:=by
 obtain ⟨σ,G,hs,ha,h⟩:=h;refine yX ma hs ha h fun x G1 v H1 g1 hs1 rx a1 h1=>?_;refine yX mb hs1 a1 h1 fun y G2 u H2 g2 hs2 ry a2 h2=>?_;exact ⟨x,y,G2,rx.mono g2,ry,a2,mr x y G2 _ _ (fun w G' q v' H' g'=>q v' H' ((g1.trans g2).trans g')) h2⟩
def Its (x:Str):It:=⟨fun i _=>i<x.cps.size,fun i H v H'=>H'=H/\∃ c,x.cps[i]?=some c/\v=.str ⟨#[c]⟩,fun i _=>x.cps.size<=i⟩
theorem zbx {P:Program} {w:World} {K:zE} {tg:Expr} (T:String) (hT:T = "str_ascii_iterator" \/ T = "str_iterator") (x:Str) (t:Tok) (it:Addr):Turn P w K tg (Its x) [it] it (fun i h=>h.IsStrIter it T x t i) where
 mem:=by simp
 obj:=fun i h st b hb=>by
  have e:b=it:=by simpa using hb
  subst e;obtain ⟨o,e,c,d⟩:=st;exact ⟨o,e,fun v z=>by rw [d] at z;cases z⟩
 keep:=fun i h h' st k=>let ⟨o,e,r⟩:=st;⟨o,k it (by simp) o e,r⟩
 item:=by
  intro X hP hw hK hc i pins s σ H E I hf st hg;subst hP hw hK;obtain ⟨f0,f1,f2,f3,f4,f5⟩:=hf it (by simp);have hi:i<x.cps.size:=hg;have hx:x.cps[i]?=some x.cps[i]:=by simp [hi]
  have fin:∀ h':Heap,h'.IsStrIter it T x t (i+1)->Heap.SameBut it s.heap h'->∃ u,some (Value.str ⟨#[x.cps[i]]⟩ s.toks)=some u /\
    wpAny (model X.prog X.w) X.A (letOwnedTupleGo tg (.ref it) u) (fun _ s2=>∃ v H',Inv X pins σ H' s2/\zR v u/\(Its x).yld i H v H'/\s2.heap.IsStrIter it T x t (i+1)/\∀ b∈[it],H' b=none) E { s with heap:=h',toks:=s.toks+1 }:=fun h' st' sb=>by
   have I1:Inv X pins σ H { s with heap:=h',toks:=s.toks+1 }:=I.turned (t':=s.toks+1) (fun b o hb e=>(sb.2 b hb).trans e) f0 f1 f3 f4 f5;obtain ⟨o,e,c,d⟩:=id st';exact ⟨_,rfl,zcB (s:={ s with heap:=h',toks:=s.toks+1 }) e c d (by rcases hT with rfl|rfl<;>decide) ⟨.str ⟨#[x.cps[i]]⟩,H,I1,⟨_,rfl⟩,⟨rfl,_,hx,rfl⟩,st',fun b hb=>(hf b hb).1⟩⟩
  rcases hT with rfl|rfl
  .exact wpAny_pyNext_ascii_item st hx fin
  .exact wpAny_pyNext_wide_item st hx fin
 done:=by
  intro X hP hw hK hc i pins s σ H E I hf st hg;subst hP hw hK;obtain ⟨f0,f1,f2,f3,f4,f5⟩:=hf it (by simp);have hx:x.cps[i]?=none:=by have h:x.cps.size<=i:=hg;simp [h]
  rcases hT with rfl|rfl
  .exact wpAny_pyNext_ascii_end (I.ok.hd hc) st hx fun h' eb=>⟨rfl,I.turned (t':=s.toks) (fun b o hb e=>eb b o hb e) f0 f1 f3 f4 f5⟩
  .exact wpAny_pyNext_wide_end (I.ok.hd hc) st hx fun h' eb=>⟨rfl,I.turned (t':=s.toks) (fun b o hb e=>eb b o hb e) f0 f1 f3 f4 f5⟩
 self:=fun _ _ _ _ _ st h=>by
  rcases hT with rfl|rfl
  .exact wpAny_pyIter_striter_ascii st h
  .exact wpAny_pyIter_striter_wide st h
theorem zf4 {tg l:Expr} {tl:TE} (hl:PE X l tl):PI X tg l (fun σ H R=>tl σ H fun x H1=>(∃ t,x=.str t/\R (Its t) H1)\/∃ a,x=.ref a/\(((∃ xs,tW X.K H1 a xs)/\R (Itl X.K a) H1)\/((∃ xs,uW X.K H1 a xs)/\R (Itt X.K a) H1)\/∃ l,Rd H1 a (.dK l)/\∀ ob,(∀ ob',H1 a=some (.frz ob' (.dK l))->ob'=ob)->R (Itd a ob l) (yN H1 a (.frz ob (.dK l))))):=by
 intro pins s σ H R I h;refine yU (hl pins s σ H _ I h) fun v s1 ⟨x,H1,I1,r1,q1⟩=>?_;rcases q1 with ⟨tx,e,q⟩|q1
 .subst e;obtain ⟨tk,rfl⟩:=r1
  have fin:∀ T,(T = "str_ascii_iterator" \/ T = "str_iterator")->∀ o:Obj,o.isFreed=false->o.cls=.type T->o.data=.fields #[.str tx tk,.int 0 0]->PIE X pins σ tg R (.ref s1.heap.objs.size) { s1 with heap:=s1.heap.push o }   := fun T hT o hz hc hd=>by
   refine ⟨s1.heap.objs.size,[s1.heap.objs.size],_,_,H1,rfl,I1.kept (t':=s1.toks) fun b o e=>Heap.get?_push_of_some _ e,zbx T hT tx tk _,⟨_,Heap.get?_push_size _ hz,hc,hd⟩,fun b hb=>?_,q⟩;have e:b=s1.heap.objs.size:=by simpa using hb
   subst e;exact I1.fpOk (zzR _) (I1.hok.fresh (zzR _))
  cases hasc:tx.cps.all (· < 128)
  .exact wpAny_pyIter_wide hasc (fin _ (.inr rfl) _ rfl rfl rfl)
  .exact wpAny_pyIter_ascii hasc (fin _ (.inl rfl) _ rfl rfl rfl)
 obtain ⟨a,e,q1⟩:=q1;subst e;cases r1;rcases q1 with ⟨⟨xs,hq⟩,q⟩|⟨⟨xs,hq⟩,q⟩|⟨l,hq,q⟩
 rotate_left 2
 .exact ze1 I1 hq q
 .obtain ⟨its,rv,p,hz⟩:=I1.list hq;refine wpAny_pyIter_list p.isList ?_;refine ⟨s1.heap.objs.size,[s1.heap.objs.size],_,_,H1,rfl,I1.kept (t':=s1.toks) fun b o e=>Heap.get?_push_of_some _ e,zak a _,⟨_,Heap.get?_push_size _ rfl,rfl,rfl⟩,fun b hb=>?_,q⟩;have e:b=s1.heap.objs.size:=by simpa using hb
  subst e;exact I1.fpOk (zzR _) (I1.hok.fresh (zzR _))
 .obtain ⟨its,rv,p,hz⟩:=I1.tuple hq;refine wpAny_pyIter_tuple (show s1.heap.IsTuple a its.toArray from p) ?_;refine ⟨s1.heap.objs.size,[s1.heap.objs.size],_,_,H1,rfl,I1.kept (t':=s1.toks) fun b o e=>Heap.get?_push_of_some _ e,cB a _,⟨_,Heap.get?_push_size _ rfl,rfl,rfl⟩,fun b hb=>?_,q⟩;have e:b=s1.heap.objs.size:=by simpa using hb
  subst e;exact I1.fpOk (zzR _) (I1.hok.fresh (zzR _))
theorem zgT {K:zE} {x:Str} {H1:Hp}:ItIs K (Its x) H1 (sgs x) (fun _=>True) where
 go:=fun i H G _ ab st hi=>by
  have h:i<(sgs x).length:=hi;show i<x.cps.size;simpa [sgs] using h
 yld:=fun i H G v H' _ ab st hi y=>by
  obtain ⟨rfl,c,e,rfl⟩:=y;refine ⟨.str ⟨#[c]⟩,?_,.refl,rfl,ab⟩;simp [sgs,e]
 stop:=fun i H G _ ab st hi=>by
  have h:(sgs x).length<=i:=hi;show x.cps.size<=i;simpa [sgs] using h
theorem zgU {K:zE} {a:Addr} {H1:Hp} {ws:List W}:ItIs K (Itl K a) H1 ws (fun G=>zI G a=some ws) where
 go:=fun i H G _ ab st hi=>by
  obtain ⟨vs,sq,rs⟩:=ab.seq st;have hl:=rs.length;obtain ⟨v,e⟩:∃ v,vs[i]?=some v:=⟨vs[i]'(by omega),List.getElem?_eq_getElem _⟩;exact ⟨vs,v,sq,e⟩
 yld:=fun i H G x H' _ ab st hi y=>by
  obtain ⟨vs,sq,rs⟩:=ab.seq st;obtain ⟨e,y⟩:=y;subst e;obtain ⟨w,ew,rp⟩:=rs.get' (y vs sq);exact ⟨w,ew,.refl,rp,ab⟩
 stop:=fun i H G _ ab st hi=>by
  obtain ⟨vs,sq,rs⟩:=ab.seq st;exact ⟨vs,sq,by rw [rs.length];exact hi⟩
theorem zgS {K:zE} {a:Addr} {H1:Hp} {ws:List W} {vs:List V} (sq:uW K H1 a vs) (rs:zX K H1 ws vs):ItIs K (Itt K a) H1 ws (fun _=>True) where
 go:=fun i H G g ab st hi=>by
  have hl:=rs.length;obtain ⟨v,e⟩:∃ v,vs[i]?=some v:=⟨vs[i]'(by omega),List.getElem?_eq_getElem _⟩;exact ⟨vs,v,g.1 _ _ sq,e⟩
 yld:=fun i H G x H' g ab st hi y=>by
  obtain ⟨e,y⟩:=y;subst e;obtain ⟨w,ew,rp⟩:=(rs.mono g).get' (y vs (g.1 _ _ sq));exact ⟨w,ew,.refl,rp,ab⟩
 stop:=fun i H G g ab st hi=>⟨vs,g.1 _ _ sq,by rw [rs.length];exact hi⟩
theorem yF.rdD {K:zE} {H:Hp} {G:Hw} {p:Addr} {kvs:List (yW×W)} (ab:yF K H G) (e:cS G p=some kvs):∃ l,Rd H p (.dK l)/\zK K H kvs l:=by
 unfold cS at e
 split at e
 .rename_i q;cases e;obtain ⟨u,e',l,rfl,r⟩:=ab p _ q;exact ⟨l,.inl e',r⟩
 .rename_i q;cases e;obtain ⟨u,e',ob,l,rfl,r⟩:=ab p _ q;exact ⟨l,.inr ⟨ob,e'⟩,r⟩
 .cases e
theorem yF.freeze {K:zE} {H:Hp} {G:Hw} {p:Addr} {kvs:List (yW×W)} {l:List (yW×V)} {ob:Obj} (ab:yF K H G) (e:cS G p=some kvs) (hl:Rd H p (.dK l)) (rk:zK K H kvs l) :
  (∀ ob',H p=some (.frz ob' (.dK l))->ob'=ob)->zB K H (yN H p (.frz ob (.dK l)))/\yF K (yN H p (.frz ob (.dK l))) (put G p (.fzd kvs)):=by
 intro same;unfold cS at e
 split at e
 .rename_i q;cases e;have g:zB K H (yN H p (.frz ob (.dK l))):=ab.grow q;exact ⟨g,ab.chg q ⟨ob,l,rfl,rk.mono g⟩⟩
 .rename_i q;cases e;obtain ⟨u,e',ob2,l2,rfl,r⟩:=ab p _ q
  have hp:H p=some (.frz ob (.dK l)):=by
   rcases hl with h|⟨o,h⟩
   .rw [h] at e';cases e'
   .rw [h,same o h]
  rw [zcY hp];refine ⟨.refl,fun b o z=>?_⟩
  by_cases hb:b=p
  .subst hb;rw [zW] at z;cases z;exact ⟨_,hp,ob,l,rfl,rk⟩
  .rw [yD hb] at z;exact ab b o z
 .cases e
theorem zK.keyAt {K:zE} {H:Hp} {κ:Type}:∀ {l:List (κ×W)} {l':List (κ×V)} {i:Nat} {p:κ×V},zK K H l l'->l'[i]?=some p->∃ w,l[i]?=some (p.1,w)
 | [],_,i,p,h,e=>by rw [show _=[] from h] at e;simp at e
 | (k,w)::_,_,0,p,⟨v,t,e,h,r⟩,q=>by subst e;simp at q;subst q;exact ⟨w,rfl⟩
 |_::_,_,i+1,p,⟨v,t,e,h,r⟩,q=>by
  subst e;obtain ⟨w,h1⟩:=zK.keyAt (i:=i) (p:=p) r (by simpa using q);exact ⟨w,by simpa using h1⟩
theorem zgL {K:zE} {H:Hp} (k:yW):yA K H (kW k) (kV k):=by
 cases k<;>rfl
theorem zgW {K:zE} {d:Addr} {ob:Obj} {l:List (yW×V)} {H1:Hp} {kvs:List (yW×W)} (e:H1 d=some (.frz ob (.dK l))) (rk:zK K H1 kvs l):ItIs K (Itd d ob l) H1 (kvs.map fun kv=>kW kv.1) (fun G=>G d=some (.fzd kvs)) where
 go:=fun i H G g ab st hi=>⟨g.2 _ _ True.intro e,by rw [rk.length];simpa using hi⟩
 yld:=fun i H G x H' g ab st hi y=>by
  obtain ⟨e1,p,e2,e3⟩:=y;subst e1;subst e3;obtain ⟨w,ew⟩:=rk.keyAt e2;exact ⟨kW p.1,by rw [List.getElem?_map,ew];rfl,.refl,zgL _,ab⟩
 stop:=fun i H G g ab st hi=>⟨g.2 _ _ True.intro e,by rw [rk.length];simpa using hi⟩
theorem zf5 {tg x:Expr} {e:E3} (m:xL e) (h:PE X x (yM X.K e)):PI X tg x (dH X.K fun σ G R=>e σ G fun w G1=>uA w G1 R):=by
 intro pins s σ H R I q;refine zf4 h pins s σ H R I ?_;obtain ⟨σ3,G,hs,ha,q⟩:=q;refine yX m hs ha q fun w G1 v H1 gr hs1 rp ab q=>?_
 cases w with
 |tup ws =>
  obtain ⟨a,vs,rfl,sq,rs⟩:=rp;exact .inr ⟨a,rfl,.inr (.inl ⟨⟨vs,sq⟩,q _ H1 gr ab (zgS sq rs)⟩)⟩
 |ref p =>
  cases rp;simp only [uA] at q
  split at q
  .rename_i ws e;obtain ⟨vs,sq,rs⟩:=ab.seq e;exact .inr ⟨p,rfl,.inl ⟨⟨vs,sq⟩,q _ H1 gr ab zgU⟩⟩
  .split at q
   .rename_i kvs e;obtain ⟨l,hl,rk⟩:=ab.rdD e;refine .inr ⟨p,rfl,.inr (.inr ⟨l,hl,fun ob same=>?_⟩)⟩;obtain ⟨g2,a2⟩:=ab.freeze (ob:=ob) e hl rk same;exact q _ _ (gr.trans g2) a2 (zgW (xZ) (rk.mono g2))
   .exact q.elim
 |str t =>
  cases rp;exact .inl ⟨t,rfl,q _ H1 gr ab zgT⟩
 |_=>exact q.elim
def lowG (K:zE) (t:G3):TG:=fun v τ H Q=>∃ w σ G,yA K H w v/\zG K H σ τ/\yF K H G/\t w σ G fun σ' G'=>∀ τ' H',zB K H H'->zG K H' σ' τ'->yF K H' G'->Q τ' H'
def lowGs (K:zE) (t:Gs3):TGs:=fun vs τ H Q=>∃ ws σ G,zX K H ws vs/\zG K H σ τ/\yF K H G/\t ws σ G fun σ' G'=>∀ τ' H',zB K H H'->zG K H' σ' τ'->yF K H' G'->Q τ' H'
theorem _root_.L2.PG.imp {tg:Expr} {t t':TG} (h:PG X tg t) (k:∀ v σ H Q,t' v σ H Q->t v σ H Q):PG X tg t':=fun pins s σ H v u Q I r q=>h pins s σ H v u Q I r (k v σ H Q q)
theorem _root_.L2.PGs.imp {tg:List Expr} {t t':TGs} (h:PGs X tg t) (k:∀ v σ H Q,t' v σ H Q->t v σ H Q):PGs X tg t':=fun pins s σ H v u Q I r q=>h pins s σ H v u Q I r (k v σ H Q q)
theorem pM {e:Expr} {es:List Expr} {env:Env} (h:yB e=true):assignEach (e::es) env=(false,assign e env)::assignEach es env:=by
 cases e<;>first|rfl|exact absurd h zzN
end
def MonoG (t:G3):Prop:=∀ w σ G (Q Q':wU->Hw->Prop),(∀ a b,Q a b->Q' a b)->t w σ G Q->t w σ G Q'
def zhp (t:Gs3):Prop:=∀ w σ G (Q Q':wU->Hw->Prop),(∀ a b,Q a b->Q' a b)->t w σ G Q->t w σ G Q'
mutual
theorem uE:∀ t:ITg,MonoG (zM t)
 | .nm i=>fun w σ G Q Q' k h=>k _ _ h
 | .tup ts=>fun w σ G Q Q' k h=>by
  cases w with
  |tup ws=>exact sH ts ws σ G Q Q' k h
  |_=>exact h.elim
theorem sH:∀ ts:ITgs,zhp (zS ts)
 | .nil=>fun w σ G Q Q' k h=>by
  cases w with
  |nil=>exact k _ _ h
  |cons _ _=>exact h.elim
 | .cons t ts=>fun w σ G Q Q' k h=>by
  cases w with
  |nil=>exact h.elim
  |cons x r=>exact uE t x σ G _ _ (fun σ' G' h=>sH ts r σ' G' Q Q' k h) h
end
theorem hR {Γ:Ctx3} {M:MC} {p:Par} {X:Cx} (L:Lk Γ M p X) {x:Str} (h:hJ M x=true):Loc X.env.scope x/\(X.fn x=true\/X.env.scope.names.lookup x=some .local):=by
 unfold hJ at h;rw [L.sc]
 split at h
 .rename_i e;exact ⟨.inl e,.inr e⟩
 .rename_i e;exact ⟨.inr e,.inl (L.own x h)⟩
 .exact absurd h zzN
mutual
theorem sndG {Γ:Ctx3} {M:MC} {p:Par} {X:Cx} (L:Lk Γ M p X):∀ (t:ITg) (x:Expr),mG M t x=true->PG X x (lowG X.K (zM t))
  | .nm i,x,h=>by
   cases x with
   |Name y q =>
    replace h:=vT h;have lo:=hR L h.2;refine (mB (i:=i) (L.N▸L.nd) (by rw [L.N];exact wY h.1) lo.1 lo.2).imp fun v σ H Q q=>?_;obtain ⟨w,σ3,G,rp,hs,ab,q⟩:=q;exact q _ _ .refl (hs.set rp i) ab
   |_=>exact absurd h zzN
  | .tup ts,x,h=>by
   cases x with
   |Tuple es k q =>
    skip
    obtain ⟨ps,hn,hst⟩:=zdL L ts es h;refine (zda (n:=es.length) L.fits.calm ps hn hst).imp fun v σ H Q q=>?_;obtain ⟨w,σ3,G,rp,hs,ab,q⟩:=q
    cases w with
    |tup ws =>
      obtain ⟨a,vs,rfl,sq,rs⟩:=rp;refine ⟨a,vs,rfl,sq,?_,ws,σ3,G,rs,hs,ab,q⟩;rw [rs.length];exact zcm ts es ws σ3 G _ h q
    |_=>exact q.elim
   |_=>exact absurd h zzN
theorem zdL {Γ:Ctx3} {M:MC} {p:Par} {X:Cx} (L:Lk Γ M p X):∀ (ts:ITgs) (xs:List Expr),mGs M ts xs=true->PGs X xs (lowGs X.K (zS ts))/\(assignEach xs X.env).length=xs.length/\(assignEach xs X.env).findIdx? (·.1)=none
 | .nil,[],_=>⟨(zaA).imp fun vs σ H Q q=>by
   obtain ⟨ws,σ3,G,rs,hs,ab,q⟩:=q
   cases ws with
   |nil=>exact ⟨rs,q _ _ .refl hs ab⟩
   |cons _ _=>exact q.elim,rfl,rfl⟩
 | .cons t ts,x::xs,h=>by
  simp only [mGs,Bool.and_eq_true] at h;obtain ⟨ps,hn,hst⟩:=zdL L ts xs h.2;have es:=pM (es:=xs) (env:=X.env) h.1.1;refine ⟨(sP (sndG L t x h.1.2) ps (by rw [es];rfl)).imp fun vs σ H Q q=>?_,by rw [es,List.length_cons,List.length_cons,hn],?_⟩
  .obtain ⟨ws,σ3,G,rs,hs,ab,q⟩:=q
   cases ws with
   |nil=>exact q.elim
   |cons w r =>
    obtain ⟨v,vr,e,rp,rr⟩:=rs;refine ⟨v,vr,e,w,σ3,G,rp,hs,ab,uE t w σ3 G _ _ (fun σ' G' q τ' H' g' hs' ab'=>?_) q⟩;exact ⟨r,σ',G',rr.mono g',hs',ab',sH ts r σ' G' _ _ (fun σ2 G2 q τ2 H2 g2=>q τ2 H2 (g'.trans g2)) q⟩
  .rw [es,List.findIdx?_cons];simp only [zzB,if_false,hst];rfl
theorem zcm {M:MC}:∀ (ts:ITgs) (xs:List Expr) (ws:List W) (σ:wU) (G:Hw) (Q:wU->Hw->Prop),mGs M ts xs=true->zS ts ws σ G Q->ws.length=xs.length
 | .nil,[],ws,σ,G,Q,_,q=>by
  cases ws with
  |nil=>rfl
  |cons _ _=>exact q.elim
 | .cons t ts,x::xs,ws,σ,G,Q,h,q=>by
  simp only [mGs,Bool.and_eq_true] at h
  cases ws with
  |nil=>exact q.elim
  |cons w r =>
   have:∃ σ' G',zS ts r σ' G' Q:=exG t w σ G _ q;obtain ⟨σ',G',q'⟩:=this;rw [List.length_cons,List.length_cons,zcm ts xs r σ' G' Q h.2 q']
theorem exG:∀ (t:ITg) (w:W) (σ:wU) (G:Hw) (Q:wU->Hw->Prop),zM t w σ G Q->∃ σ' G',Q σ' G'
 | .nm i,w,σ,G,Q,q=>⟨_,_,q⟩
 | .tup ts,w,σ,G,Q,q=>by
  cases w with
  |tup ws=>exact exGs ts ws σ G Q q
  |_=>exact q.elim
theorem exGs:∀ (ts:ITgs) (ws:List W) (σ:wU) (G:Hw) (Q:wU->Hw->Prop),zS ts ws σ G Q->∃ σ' G',Q σ' G'
 | .nil,ws,σ,G,Q,q=>by
  cases ws with
  |nil=>exact ⟨_,_,q⟩
  |cons _ _=>exact q.elim
 | .cons t ts,ws,σ,G,Q,q=>by
  cases ws with
  |nil=>exact q.elim
  |cons w r =>
   obtain ⟨σ',G',q'⟩:=exG t w σ G _ q;exact exGs ts r σ' G' Q q'
end
def lowO (K:zE) (t:wU->Hw->(Option Int->Hw->Prop)->Prop):TO:=fun τ H Q=>∃ σ G,zG K H σ τ/\yF K H G/\t σ G fun o G'=>∀ H',zB K H H'->yF K H' G'->Q o H'
theorem _root_.L2.PO.imp {X:Cx} {e:Option Expr} {t t':TO} (h:PO X e t) (k:∀ σ H Q,t' σ H Q->t σ H Q):PO X e t':=fun pins s σ H Q I q=>h pins s σ H Q I (k σ H Q q)
theorem _root_.L2.PTs.imp {X:Cx} {e:List Expr} {t t':TT} (h:PTs X e t) (k:∀ σ H Q,t' σ H Q->t σ H Q):PTs X e t':=fun pins s σ H Q I q=>h pins s σ H Q I (k σ H Q q)
theorem _root_.L2.PI.imp {X:Cx} {tg x:Expr} {t t':TI} (h:PI X tg x t) (k:∀ σ H R,t' σ H R->t σ H R):PI X tg x t':=fun pins s σ H R I q=>h pins s σ H R I (k σ H R q)
def capV (k:Nat) (caps:List Nat) (σ:L2.St):L2.St:=List.replicate k none++caps.map fun j=>(σ[j]?).join
theorem gI {α:Type} {k:Nat} {caps:List Nat} {σ:List (Option α)} {i:Nat} {v:α} (h:(List.replicate k none++caps.map fun j=>(σ[j]?).join)[i]?=some (some v)):k<=i/\∃ j,caps[i-k]?=some j/\σ[j]?=some (some v):=by
 by_cases hi:i<k
 .rw [List.getElem?_append_left (by simpa using hi),List.getElem?_replicate,if_pos hi] at h;cases h
 .rw [List.getElem?_append_right (by simpa using hi),List.length_replicate,List.getElem?_map] at h;refine ⟨by omega,?_⟩
  cases e:caps[i-k]? with
  |none=>rw [e] at h;cases h
  |some j =>
   rw [e] at h;have h':(σ[j]?).join=some v:=Option.some.inj h;refine ⟨j,rfl,?_⟩
   cases q:σ[j]? with
   |none=>rw [q] at h';cases h'
   |some o=>rw [q] at h';exact congrArg some h'
theorem ze9 {K:zE} {H:Hp} {σ:wU} {τ:L2.St} (h:zG K H σ τ) (k:Nat) (caps:List Nat):zG K H (capS k caps σ) (capV k caps τ):=by
 refine ⟨by simp [capS,capV],fun i w e=>?_⟩;obtain ⟨hk,j,ej,es⟩:=gI e;obtain ⟨v,ev,rp⟩:=h.2 j w es;refine ⟨v,?_,rp⟩;unfold capV;rw [List.getElem?_append_right (by simpa using hk),List.length_replicate,List.getElem?_map,ej];simp [ev]
theorem dP:∀ {l:List Str},sO l=true->l.Nodup
 | [],_=>List.nodup_nil
 |x::r,h=>by
  simp only [sO,Bool.and_eq_true,Bool.not_eq_true'] at h;refine List.nodup_cons.mpr ⟨fun hm=>?_,dP h.2⟩;have:=List.elem_eq_true_of_mem hm;rw [List.contains_eq_mem] at h;simp [hm] at h
theorem zdP {X:Cx} {sc out:Scope} (e:X.env.scope=out):relabel sc X.env=bU sc out:=by
 unfold relabel bU Env.kindOf;rw [e]
theorem zdr {X:Cx} {sc out:Scope} (e:X.env.scope=out) (h:blkB out sc=true):BlkSc X sc:=by
 unfold blkB at h;simp only [Bool.and_eq_true,List.all_eq_true] at h;obtain ⟨⟨⟨h1,h2⟩,h3⟩,h4⟩:=h;refine ⟨eq_of_beq h1,fun y hy=>?_,fun y hy=>?_,fun x hx=>?_,fun y hy z=>?_⟩
 .simpa using (h2 _ hy).1
 .simpa using (h2 _ hy).2
 .have:=h3 _ hx;simp only [beq_self_eq_true,Bool.not_true,Bool.false_or,Bool.or_eq_true,beq_iff_eq] at this;show X.env.scope.names.lookup x=_\/X.env.scope.names.lookup x=_;rw [e];exact this
 .have:=h4 y hy;rw [z] at this;simpa using this
theorem zbj {X:Cx} {M:MC} {sc:Scope} {names:List Str} {caps:List Nat} (eN:X.N=M.N) (es:X.env.scope=M.sc)
  (h:(caps.all fun j=>decide (j<M.N.length)&&(sc.names.lookup (M.N.getD j Str.empty)==some .free))=true) :
  Caps X sc (names++caps.map (fun j=>M.N.getD j Str.empty)) (capV names.length caps):=by
 intro σ hl;simp only [List.all_eq_true,Bool.and_eq_true,decide_eq_true_eq,Bool.not_eq_true'] at h;refine ⟨by simp [capV],fun i x v hN hσ _=>?_⟩;obtain ⟨hk,j,ej,e⟩:=gI hσ;rw [List.getElem?_append_right hk,List.getElem?_map,ej] at hN;have hx:M.N.getD j Str.empty=x:=Option.some.inj hN;have hj:=h j (List.mem_of_getElem? ej);refine ⟨?_,j,?_,e⟩
 .rw [← hx];exact eq_of_beq hj.2
 .rw [eN,← hx,List.getD_eq_getElem?_getD,List.getElem?_eq_getElem hj.1];rfl
theorem zgA {K:zE} {J:It} {H1:Hp} {items:List W} {stab:Hw->Prop} {G1:Hw} {σ:wU} {τ:L2.St} {tg:ITg} {c:T3} {e:E3} {Q:VK} {H0:Hp} (mc:qB c) (me:xL e) (it:ItIs K J H1 items stab) (ab:yF K H1 G1) (hs:zG K H1 σ τ) (g0:zB K H0 H1)
  (hw:∀ w G' (Q:wU->Hw->Prop),zM tg w σ G' Q->zM tg w σ G' fun σ2 G2=>(σ2.length=σ.length/\∀ (i:Nat) (v:W),σ[i]?=some (some v)->σ2[i]?=some (some v))/\Q σ2 G2)
  (h:lcR items stab G1 (fun w G' K=>zM tg w σ G' fun σ2 G2=>c σ2 G2 fun b G3=>if b=true then e σ2 G3 fun x G4=>K (some x) G4 else K none G3) (kP K H0 Q)) :
  tLCb J τ (lowG K (zM tg)) (jY K c) (yM K e) (fun acc H'=>∀ p,H' p=none->Q (.ref p) (yN H' p (.lst acc))) H1:=by
 obtain ⟨Pv,p0,pst,hlen,step,fin⟩:=h;refine ⟨fun i m τ acc H=>m+i=items.length/\zB K H1 H/\zG K H σ τ/\∃ ws G,zX K H ws acc/\yF K H G/\Pv i ws G,⟨items.length,rfl,.refl,hs,[],G1,rfl,ab,p0⟩,?_⟩;rintro i m τ acc H ⟨hm,gr,hs,ws,G,rs,a,pv⟩;have hst:=pst i ws G pv (by omega);have hacc:acc.length=ws.length:=rs.length
 by_cases hi:i<items.length
 .refine .inr ⟨it.go i H G gr a hst.1 hi,by omega,fun x H' y=>?_⟩;obtain ⟨w,ew,g1,rp,a1⟩:=it.yld i H G x H' gr a hst.1 hi y;refine ⟨w,σ,G,rp,hs.mono g1,a1,uE tg w σ G _ _ (fun σ2 G2 q τ2 H2 g2 hs2 a2=>?_) (hw w G _ (step i w ws G ew pv))⟩;obtain ⟨⟨wl,wk⟩,q⟩:=q;have back:∀ {τ':L2.St} {H':Hp},zG K H' σ2 τ'->zG K H' σ τ':=fun {τ' H'} r=>⟨by rw [← wl];exact r.1,fun k w e=>r.2 k w (wk k w e)⟩;refine rD mc hs2 a2 q fun b G3 H3 g3 hs3 a3 q3=>?_
  cases b with
  |true =>
   rw [if_pos rfl] at q3 ⊢;refine yX me hs3 a3 q3 fun x G4 v H4 g4 hs4 rx a4 q4=>?_;refine ⟨m-1,by omega,by omega,gr.trans (g1.trans (g2.trans (g3.trans g4))),back hs4,ws++[x],G4,?_,a4,q4⟩;exact (rs.mono (g1.trans (g2.trans (g3.trans g4)))).append ⟨v,[],rfl,rx,rfl⟩
  |false =>
   rw [if_neg (by decide)] at q3 ⊢;exact ⟨m-1,by omega,by omega,gr.trans (g1.trans (g2.trans g3)),back hs3,ws,G3,rs.mono (g1.trans (g2.trans g3)),a3,q3⟩
 .refine .inl ⟨it.stop i H G gr a hst.1 (by omega),fun p hp=>?_⟩;have ei:i=items.length:=by omega
  subst ei;exact fin ws G pv p (a.free hp) _ _ ((g0.trans gr).trans (yH hp)) rfl (a.new hp ⟨acc,rfl,rs.mono (yH hp)⟩)
theorem zat:∀ (tg:ITg) (w:W) (σ:wU) (G:Hw) (Q:wU->Hw->Prop),zM tg w σ G Q->zM tg w σ G fun σ2 G2=>σ2.length=σ.length/\Q σ2 G2:=by
 intro tg
 refine ITg.rec (motive_1:=fun _=>True) (motive_2:=fun _=>True) (motive_3:=fun _=>True) (motive_4:=fun _=>True) (motive_5:=fun tg=>∀ (w:W) (σ:wU) (G:Hw) (Q:wU->Hw->Prop),zM tg w σ G Q->zM tg w σ G fun σ2 G2=>σ2.length=σ.length/\Q σ2 G2)
  (motive_6:=fun ts=>∀ (ws:List W) (σ:wU) (G:Hw) (Q:wU->Hw->Prop),zS ts ws σ G Q->zS ts ws σ G fun σ2 G2=>σ2.length=σ.length/\Q σ2 G2)
  ?_ ?_ ?_ ?_ ?_ ?_ ?_ ?_ ?_ ?_ ?_ ?_ ?_ ?_ ?_ ?_ ?_ ?_ ?_ ?_ ?_ ?_ ?_ ?_ ?_ ?_ ?_ ?_ ?_ ?nm ?tup ?nil ?cons tg
 case nm=>exact fun i w σ G Q h=>⟨by simp,h⟩
 case tup =>
  intro ts ih w σ G Q h
  cases w with
  |tup ws=>exact ih ws σ G Q h
  |_=>exact h.elim
 case nil =>
  intro ws σ G Q h
  cases ws with
  |nil=>exact ⟨rfl,h⟩
  |cons _ _=>exact h.elim
 case cons =>
  intro t ts ht hts ws σ G Q h
  cases ws with
  |nil=>exact h.elim
  |cons w r =>
   refine uE t w σ G _ _ (fun σ' G' q=>?_) (ht w σ G _ h);exact sH ts r σ' G' _ _ (fun σ2 G2 q2=>⟨q2.1.trans q.1,q2.2⟩) (hts r σ' G' Q q.2)
 all_goals intros;trivial
mutual
theorem fK:∀ (tg:ITg) (w:W) (σ:wU) (G:Hw) (Q:wU->Hw->Prop),zM tg w σ G Q->zM tg w σ G fun σ2 G2=>(∀ i,i∉tgIx tg->σ2[i]?=σ[i]?)/\Q σ2 G2
 | .nm j,w,σ,G,Q,h=>⟨fun i hi=>by rw [List.getElem?_set_ne];intro z;exact hi (by simp [tgIx,z]),h⟩
 | .tup ts,w,σ,G,Q,h=>by
  cases w with
  |tup ws=>exact pD ts ws σ G Q h
  |_=>exact h.elim
theorem pD:∀ (ts:ITgs) (ws:List W) (σ:wU) (G:Hw) (Q:wU->Hw->Prop),zS ts ws σ G Q->zS ts ws σ G fun σ2 G2=>(∀ i,i∉zbA ts->σ2[i]?=σ[i]?)/\Q σ2 G2
 | .nil,ws,σ,G,Q,h=>by
  cases ws with
  |nil=>exact ⟨fun _ _=>rfl,h⟩
  |cons _ _=>exact h.elim
 | .cons t ts,ws,σ,G,Q,h=>by
  cases ws with
  |nil=>exact h.elim
  |cons w r =>
   refine uE t w σ G _ _ (fun σ' G' q=>?_) (fK t w σ G _ h);refine sH ts r σ' G' _ _ (fun σ2 G2 q2=>⟨fun i hi=>?_,q2.2⟩) (pD ts r σ' G' Q q.2);simp only [zbA,List.mem_append,not_or] at hi;rw [q2.1 i hi.2,q.1 i hi.1]
end
theorem zba {K:zE} {H:Hp}:∀ (ks:List Str) {ws:List W} {vs:List V} {a:List (yW×W)} {b:List (yW×V)},zX K H ws vs->zK K H a b ->
  zK K H ((ks.zip ws).foldl (fun acc kv=>tO acc (.inr kv.1) kv.2) a) (((ks.zip vs).map fun kv=>((Sum.inr kv.1:yW),kv.2)).foldl (fun acc kv=>qO acc kv.1 kv.2) b)
 | [],ws,vs,a,b,_,h=>by simpa using h
 |k::ks,[],vs,a,b,hr,h=>by rw [show vs=[] from hr];simpa using h
 |k::ks,w::ws,vs,a,b,hr,h=>by
  obtain ⟨v,r,e,rw',rr⟩:=hr;subst e;simp only [List.zip_cons_cons,List.foldl_cons,zzU];exact zba ks rr (h.put rw')
theorem rZ {K:zE} {H:Hp} {f:Str} {w:W}:∀ {l:List (Str×W)} {l':List (Str×V)},zK K H l l'->l.lookup f=some w->∃ v,l'.lookup f=some v/\yA K H w v
 | [],_,h,e=>by cases e
 |p::r,_,⟨v,t,e,h,hr⟩,q=>by
  subst e;obtain ⟨n,u⟩:=p;rw [List.lookup_cons] at q ⊢
  cases hx:f==n with
  |true=>rw [hx] at q;cases q;exact ⟨v,rfl,h⟩
  |false=>rw [hx] at q;exact rZ hr q
theorem zcZ {K:zE} {H:Hp} {G:Hw} {w:W} {v:V} {T:String} (r:yA K H w v) (ab:yF K H G) (h:tyW G w T):tyV K T v H:=by
 cases w with
 |str x=>cases r;exact h
 |ref p =>
  cases r;simp only [tyW] at h
  split at h
  .rename_i ws e;obtain ⟨vs,q,_⟩:=ab.lst e;exact .inl ⟨h,vs,.of q⟩
  .rename_i ws e;obtain ⟨vs,q,_⟩:=ab.seq (a:=p) (ws:=ws) (by unfold zI;rw [e]);exact .inl ⟨h,vs,q⟩
  .rename_i kvs e;obtain ⟨l,q,_⟩:=ab.dic e;exact .inr (.inr (.inl ⟨h,.inl ⟨l,q⟩⟩))
  .exact h.elim
 |_=>exact h.elim
theorem zeh {l:List Nat} {k:Nat} (h:l.all (fun i=>decide (i<k))=true) {i:Nat} (hi:k<=i):i∉l:=fun hm=>by
 have:=List.all_eq_true.mp h i hm;simp at this;omega
theorem zey {op:CmpOp} {a b:IE} {M:MC} {l:Expr} {os:List CmpOp} {rs:List Expr} {q:Pos} (h:mE (.cmp op a b) M (.Compare l os rs q)=true):∃ o r,os=[o]/\rs=[r]:=by
 cases os with
 |nil=>exact absurd h zzN
 |cons o os =>
  cases os with
  |cons _ _=>exact absurd h zzN
  |nil =>
   cases rs with
   |nil=>exact absurd h zzN
   |cons r rs =>
    cases rs with
    |cons _ _=>exact absurd h zzN
    |nil=>exact ⟨o,r,rfl,rfl⟩
theorem zez {o1 o2:CmpOp} {a b c:IE} {M:MC} {l:Expr} {os:List CmpOp} {rs:List Expr} {q:Pos} (h:mE (.chn o1 o2 a b c) M (.Compare l os rs q)=true):∃ p1 p2 r t,os=[p1,p2]/\rs=[r,t]:=by
 cases os with
 |nil=>exact absurd h zzN
 |cons p1 os =>
  cases os with
  |nil=>exact absurd h zzN
  |cons p2 os =>
   cases os with
   |cons _ _=>exact absurd h zzN
   |nil =>
    cases rs with
    |nil=>exact absurd h zzN
    |cons r rs =>
     cases rs with
     |nil=>exact absurd h zzN
     |cons t rs =>
      cases rs with
      |cons _ _=>exact absurd h zzN
      |nil=>exact ⟨p1,p2,r,t,rfl,rfl⟩
theorem zeA {o1 o2 o3:CmpOp} {a b c d:IE} {M:MC} {l:Expr} {os:List CmpOp} {rs:List Expr} {q:Pos} (h:mE (.ch3 o1 o2 o3 a b c d) M (.Compare l os rs q)=true):∃ p1 p2 p3 r t u,os=[p1,p2,p3]/\rs=[r,t,u]:=by
 match os,rs,h with
 | [p1,p2,p3],[r,t,u],_=>exact ⟨p1,p2,p3,r,t,u,rfl,rfl⟩
section
variable {X : Cx} {a b c d : Expr} {pos : Pos} {ta tb tc td : TE}
def tCh3 (r1 r2 r3:R2) (ta tb tc td:TE):TE:=fun σ H Q=>ta σ H fun x H1=>tb σ H1 fun y H2=>r1 x y H2 fun z H3=>∃ k,z=.bl k /\
 (if k=true then tc σ H3 fun u H4=>r2 y u H4 fun z2 H5=>∃ k2,z2=.bl k2/\(if k2=true then td σ H5 fun t H6=>r3 u t H6 Q else Q (.bl false) H5) else Q (.bl false) H3)
theorem zgf {o1 o2 o3:CmpOp} {r1 r2 r3:R2} (h1:jL X (compareOp o1) r1) (h2:jL X (compareOp o2) r2) (h3:jL X (compareOp o3) r3) (ha:PE X a ta) (hb:PE X b tb) (hc:PE X c tc) (hd:PE X d td)
  (hm:lastMarks [o1,o2,o3] [b,c,d]=false):PE X (.Compare a [o1,o2,o3] [b,c,d] pos) (tCh3 r1 r2 r3 ta tb tc td):=by
 intro pins s σ H Q I h
 refine Compare_chain (yU (ha pins s σ H _ I h) fun v s1 ⟨x,H1,I1,e1,q1⟩=>chain_link (yU (hb pins s1 σ H1 _ I1 q1) fun u s2 ⟨y,H2,I2,e2,q2⟩ =>
  yU (h1 pins s2 σ H2 x y v u _ I2 e1 e2 q2) fun _ s3 ⟨z,H3,I3,e3,k,e,q3⟩=>?_)) hm
 subst e;cases e3;refine wpAny_truthy_bool ?_
 cases k with
 |false=>exact ite_ff ⟨.bl false,H3,I3,rfl,q3⟩
 |true =>
  refine ite_tt (chain_link (yU (hc pins s3 σ H3 _ I3 q3) fun w4 s4 ⟨z4,H4,I4,e4,q4⟩=>yU (h2 pins s4 σ H4 y z4 u w4 _ I4 e2 e4 q4) fun _ s5 ⟨z5,H5,I5,e5,k2,e,q5⟩=>?_));subst e;cases e5;refine wpAny_truthy_bool ?_
  cases k2 with
  |false=>exact ite_ff ⟨.bl false,H5,I5,rfl,q5⟩
  |true=>exact ite_tt (chain_last (yU (hd pins s5 σ H5 _ I5 q5) fun w6 s6 ⟨z6,H6,I6,e6,q6⟩=>h3 pins s6 σ H6 z4 z6 w4 w6 Q I6 e4 e6 q6))
theorem zfZ {o1 o2 o3:CmpOp} {r1 r2 r3:R2} (h1:jL X (compareOp o1) r1) (h2:jL X (compareOp o2) r2) (h3:jL X (compareOp o3) r3) (ha:PE X a ta) (hb:PE X b tb) (hc:PE X c tc) (hd:PE X d td)
  (hm:lastMarks [o1,o2,o3] [b,c,d]=false):PT X (.Compare a [o1,o2,o3] [b,c,d] pos) (zdD (tCh3 r1 r2 r3 ta tb tc td)):=by
 intro pins s σ H Q I h
 refine isTrue_chain (yU (ha pins s σ H _ I h) fun v s1 ⟨x,H1,I1,e1,q1⟩=>test_link (yU (hb pins s1 σ H1 _ I1 q1) fun u s2 ⟨y,H2,I2,e2,q2⟩ =>
  yU (h1 pins s2 σ H2 x y v u _ I2 e1 e2 q2) fun _ s3 ⟨z,H3,I3,e3,k,e,q3⟩=>?_)) hm
 subst e;cases e3;refine wpAny_truthy_bool ?_
 cases k with
 |false =>
  obtain ⟨k',e',q'⟩:=q3;cases e';exact ite_ff ⟨H3,I3,q'⟩
 |true =>
  refine ite_tt (test_link (yU (hc pins s3 σ H3 _ I3 q3) fun w4 s4 ⟨z4,H4,I4,e4,q4⟩=>yU (h2 pins s4 σ H4 y z4 u w4 _ I4 e2 e4 q4) fun _ s5 ⟨z5,H5,I5,e5,k2,e,q5⟩=>?_));subst e;cases e5;refine wpAny_truthy_bool ?_
  cases k2 with
  |false =>
   obtain ⟨k',e',q'⟩:=q5;cases e';exact ite_ff ⟨H5,I5,q'⟩
  |true =>
   refine ite_tt (test_last (yU (hd pins s5 σ H5 _ I5 q5) fun w6 s6 ⟨z6,H6,I6,e6,q6⟩=>yU (h3 pins s6 σ H6 z4 z6 w4 w6 _ I6 e4 e6 q6) fun _ s7 ⟨z7,H7,I7,e7,k3,e,q7⟩=>?_));subst e;cases e7;exact wpAny_truthy_bool ⟨H7,I7,q7⟩
end
section
variable {Γ : Ctx3} {p : Par} (g : Good Γ p)
def wR (Γ:Ctx3) (p:Par) (e:IE):Prop:=∀ M X x,Lk Γ M p X->mE e M x=true->PE X x (yM X.K (zL Γ XN e).e)/\PT X x (jY X.K (zL Γ XN e).t)/\∀ op vs pos,x=.BoolOp op vs pos->PW X x (jY X.K (zL Γ XN e).t)
def OkO (Γ:Ctx3) (p:Par) (o:IO):Prop:=∀ M X,Lk Γ M p X->(∀ x,mO o M x=true->PO X x (lowO X.K (yY Γ XN o)))/\∀ xs,mC o M xs=true->PTs X xs (jY X.K (zA Γ o))
def OkA (Γ:Ctx3) (p:Par) (es:IEs):Prop:=∀ M X xs,Lk Γ M p X->mA es M xs=true->PA X xs (vJ X.K (zO Γ XN es))/\xs.all yB=true /\
 (∀ ks keys pos,keyB ks keys=true->keys.length=xs.length->keys.all (·.isSome)=true/\ks.length=keys.length/\∃ trs,PPs X pos keys xs trs/\∀ τ H (Q:List (V×V)->Hp->Prop),
  (∃ σ G,zG X.K H σ τ/\yF X.K H G/\zO Γ XN es σ G fun ws G'=>∀ vs H',zB X.K H H'->zX X.K H' ws vs->yF X.K H' G'->Q ((ks.zip vs).map fun kv=>(V.str kv.1,kv.2)) H')->mT trs τ H Q)/\uZ X xs (semL Γ es)
def OkI (Γ:Ctx3) (p:Par) (it:II):Prop:=∀ M X x,Lk Γ M p X->mI it M x=true->∀ tg,PI X tg x (dH X.K (zC Γ XN it))
theorem xE {M:MC} {X:Cx} {x:Expr} {e:E3} (m:xL e) (h:PE X x (yM X.K e)) (he:∀ whole,isTrue x X.env whole=(do let v ← whole;standAt x.pos;holding [v] (truthy v))) (hb:∀ op vs pos,x≠.BoolOp op vs pos) :
  PE X x (yM X.K (xY e).e)/\PT X x (jY X.K (xY e).t)/\∀ op vs pos,x=.BoolOp op vs pos->PW X x (jY X.K (xY e).t) :=
 ⟨h,pt_of m h he,fun op vs pos z=>absurd z (hb op vs pos)⟩
include g
theorem s_var (i:Nat):wR Γ p (.var i):=by
 intro M X x L h
 cases x with
 |Name y q =>
  replace h:=bd4 h;simp only [Bool.not_eq_true'] at h;refine xE (M:=M) (zT g.mono XN (.var i)) ((zf6 (i:=i) (by rw [L.N];exact wY h.1.1.1) (by rw [L.sc];exact zfn h.1.1.2) h.1.2 h.2).imp fun τ H Q q=>?_) (fun _=>rfl) (fun _ _ _ z=>nomatch z);obtain ⟨σ,G,hs,ab,q⟩:=q
  split at q
  .rename_i w e;obtain ⟨v,ev,rp⟩:=hs.2 i w e;exact ⟨v,ev,q v H .refl rp ab⟩
  .exact q.elim
 |_=>exact absurd h zzN
theorem s_con (c:Const):wR Γ p (.con c):=by
 intro M X x L h
 cases x with
 |Constant d k q =>
  replace h:=of_decide_eq_true h;subst h;refine xE (M:=M) (zT g.mono XN (.con c)) ?_ (fun _=>rfl) (fun _ _ _ z=>nomatch z)
  cases c with
  |none=>exact zgb.imp fun τ H Q q=>by obtain ⟨σ,G,hs,ab,q⟩:=q;exact q _ H .refl rfl ab
  |bool b=>exact pe_bl.imp fun τ H Q q=>by obtain ⟨σ,G,hs,ab,q⟩:=q;exact q _ H .refl rfl ab
  |int b=>exact zgd.imp fun τ H Q q=>by obtain ⟨σ,G,hs,ab,q⟩:=q;exact q _ H .refl rfl ab
  |str b=>exact zdb.imp fun τ H Q q=>by obtain ⟨σ,G,hs,ab,q⟩:=q;exact q _ H .refl rfl ab
  |_=>exact fun pins s σ H Q I q=>by obtain ⟨σ,G,hs,ab,q⟩:=q;exact q.elim
 |_=>exact absurd h zzN
theorem s_glb (i:Nat):wR Γ p (.glb i):=by
 intro M X x L h
 cases x with
 |Name y q =>
  replace h:=vT h;have gl:=nJ L.sc h.2;have hi:=wY h.1;rw [← L.gls] at hi;obtain ⟨e,ei,rfl⟩:=kX hi;refine xE (M:=M) (zT g.mono XN (.glb i)) ((g.gl e (xR ei) X L.fits gl.1 q gl.2.1 gl.2.2).imp fun τ H Q q=>?_) (fun _=>rfl) (fun _ _ _ z=>nomatch z);obtain ⟨σ,G,hs,ab,q⟩:=q;simp only [ei] at q;exact ⟨σ,G,hs,ab,q⟩
 |_=>exact absurd h zzN
theorem vH {M:MC} {X:Cx} (L:Lk Γ M p X):X.A.units+200<cLine:=by rw [L.fits.A];exact g.un
theorem s_bin (op:Operator) (a b:IE) (ha:wR Γ p a) (hb:wR Γ p b):wR Γ p (.bin op a b):=by
 intro M X x L h
 cases x with
 |BinOp l o r q =>
  replace h:=bd3 h;simp only [decide_eq_true_eq] at h;obtain ⟨⟨rfl,h1⟩,h2⟩:=h;exact xE (M:=M) (zT g.mono XN (.bin op a b)) ((pe_op (zhg op) (ha M X l L h1).1 (hb M X r L h2).1).imp fun τ H Q q=>hW (zT g.mono XN a) (zT g.mono XN b) (mY op) q) (fun _=>rfl) (fun _ _ _ z=>nomatch z)
 |_=>exact absurd h zzN
theorem s_neg (a:IE) (ha:wR Γ p a):wR Γ p (.neg a):=by
 intro M X x L h
 cases x with
 |UnaryOp o l q =>
  cases o with
  |USub =>
   skip
   refine xE (M:=M) (zT g.mono XN (.neg a)) ((pe_un zfo (ha M X l L h).1).imp fun τ H Q q=>?_) (fun _=>rfl) (fun _ _ _ z=>nomatch z);obtain ⟨σ,G,hs,ab,q⟩:=q;refine yX (zT g.mono XN a) hs ab q fun w G1 v H1 gr _ rp ab q=>?_
   cases w with
   |int i=>cases rp;exact ⟨i,rfl,q _ H1 gr rfl ab⟩
   |_=>exact q.elim
  |_=>exact absurd h zzN
 |_=>exact absurd h zzN
theorem s_not (a:IE) (ha:wR Γ p a):wR Γ p (.not a):=by
 intro M X x L h
 cases x with
 |UnaryOp o l q =>
  cases o with
  |Not =>
   skip
   refine ⟨(zga (ha M X l L h).1).imp fun τ H Q q=>?_,(zfY (ha M X l L h).2.1).imp fun τ H Q q=>?_,fun _ _ _ z=>nomatch z⟩
   .obtain ⟨σ,G,hs,ab,q⟩:=q;refine yX (zT g.mono XN a) hs ab q fun w G1 v H1 gr _ rp ab q=>?_
    cases w with
    |bl i=>cases rp;exact ⟨i,rfl,q _ H1 gr rfl ab⟩
    |_=>exact q.elim
   .obtain ⟨σ,G,hs,ab,q⟩:=q;exact rD (vL g.mono XN a) hs ab q fun b G1 H1 gr _ ab q=>q H1 gr ab
  |_=>exact absurd h zzN
 |_=>exact absurd h zzN
theorem s_cmp (op:CmpOp) (a b:IE) (ha:wR Γ p a) (hb:wR Γ p b):wR Γ p (.cmp op a b):=by
 intro M X x L h
 cases x with
 |Compare l os rs q =>
   obtain ⟨o,r,rfl,rfl⟩:=zey h;replace h:=bd4 h;simp only [decide_eq_true_eq] at h;obtain ⟨⟨⟨rfl,h1⟩,h2⟩,h3⟩:=h;have m:=zT g.mono XN (.cmp op a b)
   refine ⟨(zd7 (wO (vH g L) op) (ha M X l L h1).1 (hb M X r L h2).1 (jN h3)).imp fun τ H Q q=>hW (zT g.mono XN a) (zT g.mono XN b) (yJ op) q,
    (zdU (wO (vH g L) op) (ha M X l L h1).1 (hb M X r L h2).1 (jN h3)).imp fun τ H Q q=>hW (zT g.mono XN a) (zT g.mono XN b) (yJ op) (gE m q),fun _ _ _ z=>nomatch z⟩
 |_=>exact absurd h zzN
theorem s_chn (o1 o2:CmpOp) (a b c:IE) (ha:wR Γ p a) (hb:wR Γ p b) (hc:wR Γ p c):wR Γ p (.chn o1 o2 a b c):=by
 intro M X x L h
 cases x with
 |Compare l os rs q =>
   obtain ⟨q1,q2,r,t,rfl,rfl⟩:=zez h;replace h:=bd6 h;simp only [decide_eq_true_eq] at h;obtain ⟨⟨⟨⟨⟨rfl,rfl⟩,h1⟩,h2⟩,h3⟩,h4⟩:=h;have m:=zT g.mono XN (.chn o1 o2 a b c)
   have key:∀ τ H Q,yM X.K (zL Γ XN (.chn o1 o2 a b c)).e τ H Q->cA (uN X.K (wZ o1)) (uN X.K (wZ o2)) (yM X.K (zL Γ XN a).e) (yM X.K (zL Γ XN b).e) (yM X.K (zL Γ XN c).e) τ H Q:=fun τ H Q q=>by
    obtain ⟨σ,G,hs,ab,q⟩:=q;refine yX (zT g.mono XN a) hs ab q fun x G1 v H1 g1 hs1 rx a1 q=>?_;refine yX (zT g.mono XN b) hs1 a1 q fun y G2 u H2 g2 hs2 ry a2 q=>?_;refine ⟨x,y,G2,rx.mono g2,ry,a2,yJ o1 x y G2 _ _ (fun z G3 q v3 H3 g3 r3 a3=>?_) q⟩
    cases z with
    |bl k =>
     cases r3;refine ⟨k,rfl,?_⟩;have q:if k=true then _ else _:=q
     split
     .rename_i hk;rw [if_pos hk] at q;refine yX (zT g.mono XN c) (hs2.mono g3) a3 q fun w G4 v4 H4 g4 hs4 r4 a4 q=>?_;exact ⟨y,w,G4,(ry.mono g3).mono g4,r4,a4,yJ o2 y w G4 _ _ (fun w5 G5 q v5 H5 g5=>q v5 H5 (g1.trans (g2.trans (g3.trans (g4.trans g5))))) q⟩
     .rename_i hk;rw [if_neg hk] at q;exact q _ H3 (g1.trans (g2.trans g3)) rfl a3
    |_=>exact q.elim
   refine ⟨(zb9 (wO (vH g L) o1) (wO (vH g L) o2) (ha M X l L h1).1 (hb M X r L h2).1 (hc M X t L h3).1 (jN (op:=o2) h4)).imp key,
    (zbX (wO (vH g L) o1) (wO (vH g L) o2) (ha M X l L h1).1 (hb M X r L h2).1 (hc M X t L h3).1 (jN (op:=o2) h4)).imp fun τ H Q q=>key _ _ _ (gE m q),fun _ _ _ z=>nomatch z⟩
 |_=>exact absurd h zzN
theorem s_ch3 (o1 o2 o3:CmpOp) (a b c d:IE) (ha:wR Γ p a) (hb:wR Γ p b) (hc:wR Γ p c) (hd:wR Γ p d):wR Γ p (.ch3 o1 o2 o3 a b c d):=by
 intro M X x L h
 cases x with
 |Compare l os rs q =>
   obtain ⟨q1,q2,q3,r,t,t2,rfl,rfl⟩:=zeA h;replace h:=bd8 h;simp only [decide_eq_true_eq] at h;obtain ⟨⟨⟨⟨⟨⟨⟨rfl,rfl⟩,rfl⟩,h1⟩,h2⟩,h3⟩,h4⟩,h5⟩:=h;have m:=zT g.mono XN (.ch3 o1 o2 o3 a b c d)
   have key:∀ τ H Q,yM X.K (zL Γ XN (.ch3 o1 o2 o3 a b c d)).e τ H Q->tCh3 (uN X.K (wZ o1)) (uN X.K (wZ o2)) (uN X.K (wZ o3)) (yM X.K (zL Γ XN a).e) (yM X.K (zL Γ XN b).e) (yM X.K (zL Γ XN c).e) (yM X.K (zL Γ XN d).e) τ H Q:=fun τ H Q q=>by
    obtain ⟨σ,G,hs,ab,q⟩:=q;refine yX (zT g.mono XN a) hs ab q fun x G1 v H1 g1 hs1 rx a1 q=>?_;refine yX (zT g.mono XN b) hs1 a1 q fun y G2 u H2 g2 hs2 ry a2 q=>?_;refine ⟨x,y,G2,rx.mono g2,ry,a2,yJ o1 x y G2 _ _ (fun z G3 q v3 H3 g3 r3 a3=>?_) q⟩
    cases z with
    |bl k =>
     cases r3;refine ⟨k,rfl,?_⟩;have q:if k=true then _ else _:=q
     split
     .rename_i hk;rw [if_pos hk] at q;refine yX (zT g.mono XN c) (hs2.mono g3) a3 q fun w G4 v4 H4 g4 hs4 r4 a4 q=>?_;refine ⟨y,w,G4,(ry.mono g3).mono g4,r4,a4,yJ o2 y w G4 _ _ (fun z5 G5 q v5 H5 g5 r5 a5=>?_) q⟩
      cases z5 with
      |bl k2 =>
       cases r5;refine ⟨k2,rfl,?_⟩;have q:if k2=true then _ else _:=q
       split
       .rename_i hk2;rw [if_pos hk2] at q;refine yX (zT g.mono XN d) (hs4.mono g5) a5 q fun w6 G6 v6 H6 g6 hs6 r6 a6 q=>?_;exact ⟨w,w6,G6,(r4.mono g5).mono g6,r6,a6,yJ o3 w w6 G6 _ _ (fun w7 G7 q v7 H7 g7=>q v7 H7 (g1.trans (g2.trans (g3.trans (g4.trans (g5.trans (g6.trans g7))))))) q⟩
       .rename_i hk2;rw [if_neg hk2] at q;exact q _ H5 (g1.trans (g2.trans (g3.trans (g4.trans g5)))) rfl a5
      |_=>exact q.elim
     .rename_i hk;rw [if_neg hk] at q;exact q _ H3 (g1.trans (g2.trans g3)) rfl a3
    |_=>exact q.elim
   refine ⟨(zgf (wO (vH g L) o1) (wO (vH g L) o2) (wO (vH g L) o3) (ha M X l L h1).1 (hb M X r L h2).1 (hc M X t L h3).1 (hd M X t2 L h4).1 (jN (op:=o3) h5)).imp key,
    (zfZ (wO (vH g L) o1) (wO (vH g L) o2) (wO (vH g L) o3) (ha M X l L h1).1 (hb M X r L h2).1 (hc M X t L h3).1 (hd M X t2 L h4).1 (jN (op:=o3) h5)).imp fun τ H Q q=>key _ _ _ (gE m q),fun _ _ _ z=>nomatch z⟩
 |_=>exact absurd h zzN
theorem s_and (a b:IE) (ha:wR Γ p a) (hb:wR Γ p b):wR Γ p (.and a b):=by
 intro M X x L h
 have e1:∀ τ H Q,yM X.K (zL Γ XN (.and a b)).e τ H Q->zfC (yM X.K (zL Γ XN a).e) (yM X.K (zL Γ XN b).e) τ H Q:=fun τ H Q q=>by
  obtain ⟨σ,G,hs,ab,q⟩:=q;refine yX (zT g.mono XN a) hs ab q fun w G1 v H1 g1 hs1 rx a1 q=>?_
  cases w with
  |bl k =>
   cases rx;refine ⟨k,rfl,?_⟩;have q:if k=true then _ else _:=q
   split
   .rename_i hk;rw [if_pos hk] at q;exact ⟨σ,G1,hs1,a1,zT g.mono XN b σ G1 _ _ (fun w G' q v' H' g'=>q v' H' (g1.trans g')) q⟩
   .rename_i hk;rw [if_neg hk] at q;exact q _ H1 g1 rfl a1
  |_=>exact q.elim
 have e2:∀ τ H Q,jY X.K (zL Γ XN (.and a b)).t τ H Q->tAnd (jY X.K (zL Γ XN a).t) (jY X.K (zL Γ XN b).t) τ H Q:=fun τ H Q q=>by
  obtain ⟨σ,G,hs,ab,q⟩:=q;refine rD (vL g.mono XN a) hs ab q fun k G1 H1 g1 hs1 a1 q=>?_
  split
  .rename_i hk;rw [if_pos hk] at q;exact ⟨σ,G1,hs1,a1,vL g.mono XN b σ G1 _ _ (fun w G' q H' g'=>q H' (g1.trans g')) q⟩
  .rename_i hk;rw [if_neg hk] at q;exact q H1 g1 a1
 cases x with
 |BoolOp o vs q =>
  match o,vs,h with
  | .And,[l,r],h =>
   replace h:=vT h;have A:=ha M X l L h.1;have B:=hb M X r L h.2;have W2:PW X (.BoolOp .And [l,r] q) (jY X.K (zL Γ XN (.and a b)).t):=(zc6 A.2.1 (zdR B.2.1)).imp e2;exact ⟨(zdd A.1 (zdc B.1)).imp e1,W2.pt,fun _ _ _ _=>W2⟩
  | .And,l::r::q'::rest,h =>
   replace h:=vT h;have A:=ha M X l L h.1;have B:=hb M X _ L h.2;have W2:PW X (.BoolOp .And (l::r::q'::rest) q) (jY X.K (zL Γ XN (.and a b)).t):=(zc6 A.2.1 (B.2.2 _ _ _ rfl)).imp e2;exact ⟨(zdd A.1 B.1).imp e1,W2.pt,fun _ _ _ _=>W2⟩
 |_=>exact absurd h zzN
theorem s_or (a b:IE) (ha:wR Γ p a) (hb:wR Γ p b):wR Γ p (.or a b):=by
 intro M X x L h
 have e1:∀ τ H Q,yM X.K (zL Γ XN (.or a b)).e τ H Q->tOrV (yM X.K (zL Γ XN a).e) (yM X.K (zL Γ XN b).e) τ H Q:=fun τ H Q q=>by
  obtain ⟨σ,G,hs,ab,q⟩:=q;refine yX (zT g.mono XN a) hs ab q fun w G1 v H1 g1 hs1 rx a1 q=>?_
  cases w with
  |bl k =>
   cases rx;refine ⟨k,rfl,?_⟩;have q:if k=true then _ else _:=q
   split
   .rename_i hk;rw [if_pos hk] at q;exact q _ H1 g1 rfl a1
   .rename_i hk;rw [if_neg hk] at q;exact ⟨σ,G1,hs1,a1,zT g.mono XN b σ G1 _ _ (fun w G' q v' H' g'=>q v' H' (g1.trans g')) q⟩
  |_=>exact q.elim
 have e2:∀ τ H Q,jY X.K (zL Γ XN (.or a b)).t τ H Q->tOr (jY X.K (zL Γ XN a).t) (jY X.K (zL Γ XN b).t) τ H Q:=fun τ H Q q=>by
  obtain ⟨σ,G,hs,ab,q⟩:=q;refine rD (vL g.mono XN a) hs ab q fun k G1 H1 g1 hs1 a1 q=>?_
  split
  .rename_i hk;rw [if_pos hk] at q;exact q H1 g1 a1
  .rename_i hk;rw [if_neg hk] at q;exact ⟨σ,G1,hs1,a1,vL g.mono XN b σ G1 _ _ (fun w G' q H' g'=>q H' (g1.trans g')) q⟩
 cases x with
 |BoolOp o vs q =>
  match o,vs,h with
  | .Or,[l,r],h =>
   replace h:=vT h;have A:=ha M X l L h.1;have B:=hb M X r L h.2;have W2:PW X (.BoolOp .Or [l,r] q) (jY X.K (zL Γ XN (.or a b)).t):=(zfX A.2.1 (zfW B.2.1)).imp e2;exact ⟨(zf9 A.1 (zdc B.1)).imp e1,W2.pt,fun _ _ _ _=>W2⟩
  | .Or,l::r::q'::rest,h =>
   replace h:=vT h;have A:=ha M X l L h.1;have B:=hb M X _ L h.2;have W2:PW X (.BoolOp .Or (l::r::q'::rest) q) (jY X.K (zL Γ XN (.or a b)).t):=(zfX A.2.1 (B.2.2 _ _ _ rfl)).imp e2;exact ⟨(zf9 A.1 B.1).imp e1,W2.pt,fun _ _ _ _=>W2⟩
 |_=>exact absurd h zzN
theorem s_ite (c a b:IE) (hc:wR Γ p c) (ha:wR Γ p a) (hb:wR Γ p b):wR Γ p (.ite c a b):=by
 intro M X x L h
 cases x with
 |IfExp t l r q =>
  replace h:=bd3 h;refine ⟨(zb7 (hc M X t L h.1.1).2.1 (ha M X l L h.1.2).1 (hb M X r L h.2).1).imp fun τ H Q q=>?_,fun _ _ _ _ _ _ q=>?_,fun _ _ _ z=>nomatch z⟩
  .obtain ⟨σ,G,hs,ab,q⟩:=q;refine rD (vL g.mono XN c) hs ab q fun k G1 H1 g1 hs1 a1 q=>?_
   split
   .rename_i hk;rw [if_pos hk] at q;exact ⟨σ,G1,hs1,a1,zT g.mono XN a σ G1 _ _ (fun w G' q v' H' g'=>q v' H' (g1.trans g')) q⟩
   .rename_i hk;rw [if_neg hk] at q;exact ⟨σ,G1,hs1,a1,zT g.mono XN b σ G1 _ _ (fun w G' q v' H' g'=>q v' H' (g1.trans g')) q⟩
  .obtain ⟨_,_,_,_,z⟩:=q;exact z.elim
 |_=>exact absurd h zzN
theorem s_ix (a i:IE) (ha:wR Γ p a) (hb:wR Γ p i):wR Γ p (.ix a i):=by
 intro M X x L h
 cases x with
 |Subscript l r q =>
  replace h:=bd3 h;exact xE (M:=M) (zT g.mono XN (.ix a i)) ((pe_ix (ix_ok (vH g L)) (ha M X l L h.1.1).1 (hb M X r L h.1.2).1 (dW h.2)).imp fun τ H Q q=>hW (zT g.mono XN a) (zT g.mono XN i) dE q) (fun _=>rfl) (fun _ _ _ z=>nomatch z)
 |_=>exact absurd h zzN
theorem s_sl (a:IE) (lo hi:IO) (ha:wR Γ p a) (hl:OkO Γ p lo) (hh:OkO Γ p hi):wR Γ p (.sl a lo hi):=by
  intro M X x L h
  cases x with
  |Subscript l r q =>
    cases r with
    |Slice y z sp q2 =>
     cases sp with
     |none =>
      replace h:=bd3 h;refine xE (M:=M) (zT g.mono XN (.sl a lo hi)) ((zb5 sl_ok (ha M X l L h.1.1).1 ((hl M X L).1 y h.1.2) ((hh M X L).1 z h.2)).imp fun τ H Q q=>?_) (fun _=>rfl) (fun _ _ _ z=>nomatch z);obtain ⟨σ,G,hs,ab,q⟩:=q;refine yX (zT g.mono XN a) hs ab q fun w G1 v H1 g1 hs1 rx a1 q=>?_;refine ⟨σ,G1,hs1,a1,zgu g.mono XN lo σ G1 _ _ (fun o G2 q H2 g2 a2=>?_) q⟩;refine ⟨σ,G2,hs1.mono g2,a2,zgu g.mono XN hi σ G2 _ _ (fun o2 G3 q H3 g3 a3=>?_) q⟩;exact ⟨w,G3,(rx.mono g2).mono g3,a3,fM (fun w' G' q v' H' g'=>q v' H' (g1.trans (g2.trans (g3.trans g')))) q⟩
     |some _=>exact absurd h zzN
    |_=>exact absurd h zzN
  |_=>exact absurd h zzN
theorem s_tup (es:IEs) (hs:OkA Γ p es):wR Γ p (.tup es):=by
 intro M X x L h
 cases x with
 |Tuple xs k q =>
  skip
  refine xE (M:=M) (zT g.mono XN (.tup es)) ((zf7 (hs M X xs L h).1).imp fun τ H Q q=>?_) (fun _=>rfl) (fun _ _ _ z=>nomatch z);obtain ⟨σ,G,hs',ab,q⟩:=q;refine vA (wE g.mono XN es) hs' ab q fun ws G1 vs H1 g1 hs1 rs a1 q=>⟨by rw [rs.length];exact q.1,tK a1 rs fun v' H' g'=>q.2 v' H' (g1.trans g')⟩
 |_=>exact absurd h zzN
theorem s_lst (es:IEs) (hs:OkA Γ p es):wR Γ p (.lst es):=by
 intro M X x L h
 cases x with
 |List xs q =>
  skip
  refine xE (M:=M) (zT g.mono XN (.lst es)) ((zgc (hs M X xs L h).1).imp fun τ H Q q=>?_) (fun _=>rfl) (fun _ _ _ z=>nomatch z);obtain ⟨σ,G,hs',ab,q⟩:=q;refine vA (wE g.mono XN es) hs' ab q fun ws G1 vs H1 g1 hs1 rs a1 q=>⟨by rw [rs.length];exact q.1,jV a1 rs fun r hr v' H' g'=>q.2 r hr v' H' (g1.trans g')⟩
 |_=>exact absurd h zzN
theorem sR {Γ:Ctx3} {M:MC} {es:IEs} {xs:List Expr} (h:mA es M xs=true):xs=[]->∀ σ G Q,zO Γ XN es σ G Q->Q [] G:=by
 rintro rfl σ G Q q
 cases es with
 |nil=>exact q
 |cons _ _=>exact absurd h zzN
theorem zfN (f:Nat) (es:IEs) (hs:OkA Γ p es):wR Γ p (.call f es):=by
  intro M X x L h
  cases x with
  |Call fn xs kw q =>
    cases fn with
    |Name y qy =>
     cases kw with
     |nil =>
      replace h:=bd3 h;have gl:=nJ L.sc h.1.2;have hi:=wY h.1.1;rw [← L.fns] at hi;obtain ⟨e,ei,rfl⟩:=kX hi;have A:=hs M X xs L h.2;refine xE (M:=M) (zT g.mono XN (.call f es)) ((g.fn e (xR ei) X L.fits gl.1 xs (zO Γ XN es) qy q (wE g.mono XN es) A.2.1 A.1 (sR g h.2) gl.2.1 gl.2.2).imp fun τ H Q q=>?_) (fun _=>rfl) (fun _ _ _ z=>nomatch z);obtain ⟨σ,G,hs',ab,q⟩:=q;refine ⟨σ,G,hs',ab,wE g.mono XN es σ G _ _ (fun ws G1 q=>?_) q⟩;simp only [ei] at q;exact q
     |cons _ _=>exact absurd h zzN
    |_=>exact absurd h zzN
  |_=>exact absurd h zzN
theorem s_spc (i:Nat) (es:IEs) (hs:OkA Γ p es):wR Γ p (.spc i es):=by
 intro M X x L h;replace h:=vT h;replace h:=h.2
 split at h
 .rename_i m hm
  split at h
  .rename_i xs hx;rw [← L.sxs] at hm;obtain ⟨k,ek,rfl⟩:=kX hm;have A:=hs M X xs L h;have q:=g.sx k (xR ek) X L.fits x xs (semL Γ es) (by rw [L.sc];exact hx) A.2.2.2 A.2.1 (by rw [← qI];exact A.1);refine xE (M:=M) (zT g.mono XN (.spc i es)) (q.1.imp fun τ H Q q=>?_) q.2.1 q.2.2;obtain ⟨σ,G,hs',ab,q⟩:=q;refine ⟨σ,G,hs',ab,?_⟩;rw [← qI];refine wE g.mono XN es σ G _ _ (fun ws G1 q=>?_) q;simp only [ek] at q;exact q
  .exact absurd h zzN
 .exact absurd h zzN
theorem s_mth (m:Nat) (o:IE) (es:IEs) (ho:wR Γ p o) (hs:OkA Γ p es):wR Γ p (.mth m o es):=by
  intro M X x L h
  cases x with
  |Call fn xs kw q =>
    cases fn with
    |Attribute l y qy =>
     cases kw with
     |nil =>
      replace h:=bd6 h;simp only [decide_eq_true_eq] at h;have hi:=wY h.1.1.1.1.1;rw [← L.mts] at hi;obtain ⟨e,ei,rfl⟩:=kX hi;have A:=hs M X xs L h.2;have B:=ho M X l L h.1.2;refine xE (M:=M) (zT g.mono XN (.mth m o es)) ((g.mt e (xR ei) X L.fits l xs (zL Γ XN o).e (zO Γ XN es) qy q (zT g.mono XN o) (wE g.mono XN es) h.1.1.1.1.2 h.1.1.1.2 h.1.1.2 A.2.1 B.1 A.1 (sR g h.2)).imp fun τ H Q q=>?_) (fun _=>rfl) (fun _ _ _ z=>nomatch z);obtain ⟨σ,G,hs',ab,q⟩:=q;refine ⟨σ,G,hs',ab,zT g.mono XN o σ G _ _ (fun w G1 q=>?_) q⟩;simp only [ei] at q;exact q
     |cons _ _=>exact absurd h zzN
    |_=>exact absurd h zzN
  |_=>exact absurd h zzN
theorem s_att (o:IE) (f:Str) (ho:wR Γ p o):wR Γ p (.att o f):=by
 intro M X x L h
 cases x with
 |Attribute l y q =>
  replace h:=bd3 h;simp only [beq_iff_eq] at h;obtain ⟨⟨rfl,h1⟩,h2⟩:=h;refine xE (M:=M) (zT g.mono XN (.att o y)) ((zge (ho M X l L h2).1 (qT h1)).imp fun τ H Q q=>?_) (fun _=>rfl) (fun _ _ _ z=>nomatch z);obtain ⟨σ,G,hs,ab,q⟩:=q;refine yX (zT g.mono XN o) hs ab q fun w G1 v H1 g1 hs1 rx a1 q=>?_
  cases w with
  |ref a =>
   cases rx;simp only [pN] at q
   split at q
   .rename_i C fs e;obtain ⟨⟨l,hl,hf⟩,q⟩:=q
    split at q
    .rename_i w' ew;obtain ⟨dx,fs',e',rk⟩:=a1.ins e;obtain ⟨v',ev,rv⟩:=rZ rk ew;have c:=g.cl _ hl;exact ⟨a,C,dx,fs',v',rfl,e',by rw [L.fits.K];exact c.1,by rw [L.fits.K];exact c.2 y hf,ev,q _ H1 g1 rv a1⟩
    .exact q.elim
   .exact q.elim
  |_=>exact q.elim
 |_=>exact absurd h zzN
end
section
variable {Γ : Ctx3} {p : Par} (g : Good Γ p)
include g
theorem s_dct (ks:List Str) (es:IEs) (hs:OkA Γ p es):wR Γ p (.dct ks es):=by
 intro M X x L h
 cases x with
 |Dict keys xs q =>
  replace h:=bd5 h;simp only [decide_eq_true_eq,Bool.not_eq_true'] at h;obtain ⟨⟨⟨⟨h1,h2⟩,h3⟩,h4⟩,h5⟩:=h;obtain ⟨all,ek,trs,pp,low⟩:=(hs M X xs L h2).2.2.1 ks keys q h1 h3
  have h0:keys≠[]:=by
   intro z;rw [z] at ek
   cases ks with
   |nil=>cases h5
   |cons _ _=>cases ek
  refine xE (M:=M) (zT g.mono XN (.dct ks es)) ((zd6 pp all h3 h0 h4).imp fun τ H Q q=>?_) (fun _=>rfl) (fun _ _ _ z=>nomatch z);intro a ha;obtain ⟨σ,G,hs',ab,q⟩:=q;have gr:zB X.K H (yN H a (.dK [])):=yH ha;refine low τ _ _ ⟨σ,put G a (.dic []),hs'.mono gr,ab.new ha ⟨[],rfl,rfl⟩,wE g.mono XN es σ _ _ _ (fun ws G1 q vs H1 g1 rs a1=>?_) (q a (ab.free ha))⟩;obtain ⟨q1,q2,q3⟩:=q;obtain ⟨l,e,rl⟩:=a1.dic q1
  have el:l=[]:=by
   cases l with
   |nil=>rfl
   |cons _ _=>cases rl
  subst el;refine ⟨e,(ks.zip vs).map (fun kv=>((Sum.inr kv.1:yW),kv.2)),by rw [List.map_map];rfl,?_,?_⟩
  .rw [zzM,List.length_zip];omega
  .have gr2:zB X.K H1 (yN H1 a (.dK (uP [] ((ks.zip vs).map fun kv=>((Sum.inr kv.1:yW),kv.2))))):=a1.grow q1;exact q3 _ _ (gr.trans (g1.trans gr2)) rfl (a1.chg q1 ⟨_,rfl,zba ks (rs.mono gr2) rfl⟩)
 |_=>exact absurd h zzN
theorem pC (tg:ITg) (names:List Str) (caps:List Nat) (it:II) (c:IO) (elt:IE) (hi:OkI Γ p it) (hc:OkO Γ p c) (he:wR Γ p elt) {M:MC} {X:Cx} (L:Lk Γ M p X) {x t ix:Expr} {ifs:List Expr} {sc:Scope}
  (h:(blkB M.sc sc&&vM ix&&sO (names++caps.map (fun j=>M.N.getD j Str.empty))&&(caps.all fun j=>decide (j<M.N.length)&&(sc.names.lookup (M.N.getD j Str.empty)==some .free)) &&
    mI it M ix&&((tgIx tg).all fun i=>decide (i<names.length))&&mG { M with sc:=bU sc M.sc,N:=names++caps.map (fun j=>M.N.getD j Str.empty),own:=fun x=>sc.names.lookup x==some .cell } tg t&&mC c { M with sc:=bU sc M.sc,N:=names++caps.map (fun j=>M.N.getD j Str.empty),own:=fun x=>sc.names.lookup x==some .cell } ifs&&mE elt { M with sc:=bU sc M.sc,N:=names++caps.map (fun j=>M.N.getD j Str.empty),own:=fun x=>sc.names.lookup x==some .cell } x)=true) :
  PI X t ix (dH X.K (zC Γ XN it))/\BlkSc X sc/\Caps X sc (names++caps.map (fun j=>M.N.getD j Str.empty)) (capV names.length caps) /\
  (∀ X',IsBlock X (names++caps.map (fun j=>M.N.getD j Str.empty)) sc X'->PG X' t (lowG X.K (zM tg)))/\(∀ X',IsBlock X (names++caps.map (fun j=>M.N.getD j Str.empty)) sc X'->PTs X' ifs (jY X.K (zA Γ c))) /\
  (∀ X',IsBlock X (names++caps.map (fun j=>M.N.getD j Str.empty)) sc X'->PE X' x (yM X.K (zL Γ XN elt).e))/\(∀ y,foldedSetIterable ix X.env y=pure y) /\
  ∀ τ H Q,yM X.K (zL Γ XN (.lc tg names caps it c elt)).e τ H Q->tLC (dH X.K (zC Γ XN it)) (capV names.length caps) (lowG X.K (zM tg)) (jY X.K (zA Γ c)) (yM X.K (zL Γ XN elt).e) τ H Q:=by
 simp only [Bool.and_eq_true] at h;obtain ⟨⟨⟨⟨⟨⟨⟨⟨h1,h2⟩,h3⟩,h4⟩,h5⟩,h6⟩,h7⟩,h8⟩,h9⟩:=h
 have lk:∀ X',IsBlock X (names++caps.map (fun j=>M.N.getD j Str.empty)) sc X'->Lk Γ { M with sc:=bU sc M.sc,N:=names++caps.map (fun j=>M.N.getD j Str.empty),own:=fun x=>sc.names.lookup x==some .cell } p X':=fun X' b =>
  ⟨⟨b.prog.trans L.fits.prog,b.w.trans L.fits.w,b.K.trans L.fits.K,b.mg.trans L.fits.mg,b.base.trans L.fits.base,b.A.trans L.fits.A,b.calm.trans L.fits.calm,b.xe⟩,b.N,b.scope.trans (zdP L.sc),dP h3,(fun x z=>b.fn x (eq_of_beq z)),(zdr L.sc h1).kind,L.fns,L.gls,L.mts,L.its,L.sxs,L.ixs⟩
 refine ⟨hi M X ix L h5 t,zdr L.sc h1,zbj L.N L.sc h4,fun X' b=>?_,fun X' b=>?_,fun X' b=>?_,nG h2,fun τ H Q q=>?_⟩
 .rw [← b.K];exact sndG (lk X' b) tg t h7
 .rw [← b.K];exact (hc _ X' (lk X' b)).2 ifs h8
 .rw [← b.K];exact (he _ X' x (lk X' b) h9).1
 .obtain ⟨σ,G,hs,ab,q⟩:=q;refine ⟨σ,G,hs,ab,zgv g.mono XN it σ G _ _ (fun items stab G1 q J H1 g1 a1 ii=>?_) q⟩;refine zgA (monoC g.mono c) (zT g.mono XN elt) ii a1 (ze9 (hs.mono g1) names.length caps) g1 (fun w G' Q' z=>?_) q;refine uE tg w _ G' _ _ (fun σ2 G2 z=>⟨⟨z.2.1,fun i v e=>?_⟩,z.2.2⟩) (fK tg w _ G' _ (zat tg w _ G' _ z));have hk:=(gI e).1;rw [z.1 i (zeh h6 hk)];exact e
theorem s_lc (tg:ITg) (names:List Str) (caps:List Nat) (it:II) (c:IO) (elt:IE) (hi:OkI Γ p it) (hc:OkO Γ p c) (he:wR Γ p elt):wR Γ p (.lc tg names caps it c elt):=by
 intro M X x L h
 cases x with
 |ListComp x gens sc q =>
  match gens,h with
  | [⟨t,ix,ifs,asy⟩],h =>
   have h':=h;replace h:=bd10 h;obtain ⟨⟨⟨⟨⟨⟨⟨⟨⟨h0,h1⟩,h2⟩,h3⟩,h4⟩,h5⟩,h6⟩,h7⟩,h8⟩,h9⟩:=h;replace h0:=of_decide_eq_true h0;subst h0;obtain ⟨c1,c2,c3,c4,c5,c6,c7,c8⟩:=pC g tg names caps it c elt hi hc he L (x:=x) (t:=t) (ix:=ix) (ifs:=ifs) (sc:=sc) (by simp only [Bool.and_eq_true];exact ⟨⟨⟨⟨⟨⟨⟨⟨h1,h2⟩,h3⟩,h4⟩,h5⟩,h6⟩,h7⟩,h8⟩,h9⟩);exact xE (M:=M) (zT g.mono XN (.lc tg names caps it c elt)) ((pe_lc L.fits.calm c1 c2 c3 c4 c5 c6 c7).imp c8) (fun _=>rfl) (fun _ _ _ z=>nomatch z)
 |_=>exact absurd h zzN
theorem s_no:OkO Γ p .no:=by
 intro M X L;refine ⟨fun x h=>?_,fun xs h=>?_⟩
 .cases x with
  |none=>exact zd2.imp fun τ H Q q=>by obtain ⟨σ,G,hs,ab,q⟩:=q;exact q H .refl ab
  |some _=>exact absurd h zzN
 .cases xs with
  |nil=>exact zdT.imp fun τ H Q q=>by obtain ⟨σ,G,hs,ab,q⟩:=q;exact q H .refl ab
  |cons _ _=>exact absurd h zzN
theorem zfK (e:IE) (he:wR Γ p e):OkO Γ p (.yes e):=by
 intro M X L;refine ⟨fun x h=>?_,fun xs h=>?_⟩
 .cases x with
  |none=>exact absurd h zzN
  |some x =>
   skip
   refine (zd1 (he M X x L h).1).imp fun τ H Q q=>?_;obtain ⟨σ,G,hs,ab,q⟩:=q;refine yX (zT g.mono XN e) hs ab q fun w G1 v H1 g1 hs1 rx a1 q=>?_
   cases w with
   |int i=>cases rx;exact ⟨i,rfl,q H1 g1 a1⟩
   |_=>exact q.elim
 .match xs,h with
  | [x],h=>exact zdS (he M X x L (by simpa only [mC] using h)).2.1
theorem zfM:OkA Γ p .nil:=by
 intro M X xs L h
 cases xs with
 |cons _ _=>exact absurd h zzN
 |nil =>
  refine ⟨zgh.imp fun τ H Q q=>by obtain ⟨σ,G,hs,ab,q⟩:=q;exact q [] H .refl rfl ab,rfl,fun ks keys pos hk hl=>?_,trivial⟩
  cases keys with
  |cons _ _=>cases hl
  |nil =>
   cases ks with
   |cons _ _=>cases hk
   |nil =>
    refine ⟨rfl,rfl,[],zdZ,fun τ H Q q=>?_⟩;obtain ⟨σ,G,hs,ab,q⟩:=q;exact q [] H .refl rfl ab
theorem zc3 (e:IE) (es:IEs) (he:wR Γ p e) (hs:OkA Γ p es):OkA Γ p (.cons e es):=by
  intro M X xs L h
  cases xs with
  |nil=>exact absurd h zzN
  |cons x xs =>
    simp only [mA,Bool.and_eq_true] at h;obtain ⟨⟨h1,h2⟩,h3⟩:=h;have A:=he M X x L h2;have B:=hs M X xs L h3;refine ⟨(zea A.1 B.1 (jX h1)).imp fun τ H Q q=>?_,by rw [List.all_cons,h1,B.2.1];rfl,fun ks keys pos hk hl=>?_,⟨zT g.mono XN e,A.1,B.2.2.2⟩⟩
    . obtain ⟨σ,G,hs',ab,q⟩:=q
      refine yX (zT g.mono XN e) hs' ab q fun w G1 v H1 g1 hs1 rx a1 q=>?_;refine vA (wE g.mono XN es) hs1 a1 q fun ws G2 vs H2 g2 hs2 rs a2 q=>?_;exact q _ H2 (g1.trans g2) ⟨v,vs,rfl,rx.mono g2,rs⟩ a2
    . cases ks with
      |nil =>
        cases keys with
        |nil=>simp at hl
        |cons _ _=>simp [keyB] at hk
      |cons k ks =>
       cases keys with
       |nil=>cases hk
       |cons ko keys =>
        obtain ⟨y,ky,qy,rfl⟩:∃ y ky qy,ko=some (.Constant (.str y) ky qy):=by
          cases ko with
          |none=>cases hk
          |some ke =>
            cases ke with
            |Constant c ky qy =>
              cases c with
              |str y=>exact ⟨y,ky,qy,rfl⟩
              |_=>cases hk
            |_=>cases hk
        simp only [keyB,Bool.and_eq_true,beq_iff_eq] at hk;obtain ⟨rfl,hk⟩:=hk;obtain ⟨all,ek,trs,pp,low⟩:=B.2.2.1 ks keys pos hk (by simpa using hl);refine ⟨by simpa using all,by simpa using ek,(tC (.str k),yM X.K (zL Γ XN e).e)::trs,zb3 zdb A.1 pp,fun τ H Q q=>?_⟩;obtain ⟨σ,G,hs',ab,q⟩:=q;show yM X.K (zL Γ XN e).e τ H _;refine yX (zT g.mono XN e) hs' ab q fun w G1 v H1 g1 hs1 rx a1 q=>?_;refine low τ H1 _ ⟨σ,G1,hs1,a1,wE g.mono XN es σ G1 _ _ (fun ws G2 q vs H2 g2 rs a2=>?_) q⟩;exact q (v::vs) H2 (g1.trans g2) ⟨v,vs,rfl,rx.mono g2,rs⟩ a2
theorem zfL (e:IE) (he:wR Γ p e):OkI Γ p (.val e):=fun M X x L h tg=>zf5 (zT g.mono XN e) (he M X x L h).1
theorem zfO (i:Nat) (es:IEs) (hs:OkA Γ p es):OkI Γ p (.blt i es):=by
  intro M X x L h tg
  cases x with
  |Call fn xs kw q =>
    cases fn with
    |Name y qy =>
     cases kw with
     |nil =>
      replace h:=bd3 h;have gl:=nJ L.sc h.1.2;have hi:=wY h.1.1;rw [← L.its] at hi;obtain ⟨e,ei,rfl⟩:=kX hi;have A:=hs M X xs L h.2;refine (g.it e (xR ei) X L.fits gl.1 tg xs (zO Γ XN es) qy q (wE g.mono XN es) A.2.1 A.1 (sR g h.2) gl.2.1 gl.2.2).imp fun τ H R q=>?_;obtain ⟨σ,G,hs',ab,q⟩:=q;refine ⟨σ,G,hs',ab,wE g.mono XN es σ G _ _ (fun ws G1 q=>?_) q⟩;simp only [ei] at q;exact q
     |cons _ _=>exact absurd h zzN
    |_=>exact absurd h zzN
  |_=>exact absurd h zzN
theorem zc2 (i:Nat) (es:IEs) (hs:OkA Γ p es):OkI Γ p (.spc i es):=by
 intro M X x L h tg;simp only [mI] at h
 split at h
 .rename_i m hm
  split at h
  .rename_i xs hx;rw [← L.ixs] at hm;obtain ⟨k,ek,rfl⟩:=kX hm;have A:=hs M X xs L h;refine (g.ix k (xR ek) X L.fits tg x xs (semL Γ es) (by rw [L.sc];exact hx) A.2.2.2 A.2.1 (by rw [← qI];exact A.1)).imp fun τ H R q=>?_;obtain ⟨σ,G,hs',ab,q⟩:=q;refine ⟨σ,G,hs',ab,?_⟩;rw [← qI];refine wE g.mono XN es σ G _ _ (fun ws G1 q=>?_) q;simp only [ek] at q;exact q
  .exact absurd h zzN
 .exact absurd h zzN
theorem qJ (e:IE):wR Γ p e :=
 IE.rec (motive_1:=wR Γ p) (motive_2:=OkO Γ p) (motive_3:=OkA Γ p) (motive_4:=OkI Γ p) (motive_5:=fun _=>True) (motive_6:=fun _=>True)
  (s_var g) (s_con g) (s_glb g) (s_bin g) (s_neg g) (s_not g) (s_cmp g) (s_chn g) (s_and g) (s_or g) (s_ite g) (s_ix g) (s_sl g) (s_tup g) (s_lst g) (s_dct g) (zfN g) (s_mth g) (s_att g)
  (fun tg names caps it c elt _ hi hc he=>s_lc g tg names caps it c elt hi hc he) (s_spc g) (s_ch3 g) (s_no g) (zfK g) (zfM g) (zc3 g) (zfL g) (zfO g) (zc2 g) (fun _=>trivial) (fun _ _=>trivial) trivial (fun _ _ _ _=>trivial) e
theorem sndA (es:IEs):OkA Γ p es:=match es with
 | .nil=>zfM g
 | .cons e es=>zc3 g e es (qJ g e) (sndA es)
theorem sndI (it:II):OkI Γ p it:=match it with
 | .val e=>zfL g e (qJ g e)
 | .blt i es=>zfO g i es (sndA g es)
 | .spc i es=>zc2 g i es (sndA g es)
theorem sndO (o:IO):OkO Γ p o:=match o with
 | .no=>s_no g
 | .yes e=>zfK g e (qJ g e)
end
end L3
namespace L3
open PySem PySem.Spec PyProof.Rows L2
theorem zeC {i:Nat} {a:IE} {M:MC} {x:Stmt} (h:mS (.asg i a) M x=true):∃ y py v q,x=.Assign [.Name y py] v q/\(M.N[i]?==some y)=true/\hJ M y=true/\mE a M v=true:=by
 cases x with
 |Assign ts v q =>
  cases ts with
  |nil=>exact absurd h zzN
  |cons t r =>
   cases r with
   |cons _ _=>cases t<;>exact absurd h zzN
   |nil =>
    cases t with
    |Name y py =>
     replace h:=bd3 h;exact ⟨y,py,v,q,rfl,h.1.1,h.1.2,h.2⟩
    |_=>exact absurd h zzN
 |_=>exact absurd h zzN
theorem zcv {ts:ITgs} {a:IE} {M:MC} {x:Stmt} (h:mS (.asgT ts a) M x=true):∃ es k qt v q,x=.Assign [.Tuple es k qt] v q/\uQ v=true/\zce v=true/\mGs M ts es=true/\mE a M v=true:=by
 cases x with
 |Assign ts v q =>
  cases ts with
  |nil=>exact absurd h zzN
  |cons t r =>
   cases r with
   |cons _ _=>cases t<;>exact absurd h zzN
   |nil =>
    cases t with
    |Tuple es k qt =>
     replace h:=bd4 h;exact ⟨es,k,qt,v,q,rfl,h.1.1.1,h.1.1.2,h.1.2,h.2⟩
    |_=>exact absurd h zzN
 |_=>exact absurd h zzN
theorem zcw {i j:Nat} {a:IE} {M:MC} {x:Stmt} (h:mS (.asgS i j a) M x=true):∃ t v q,x=.Assign [t] v q/\uQ v=true/\zce v=true/\zbC M i j t=true/\mE a M v=true:=by
 cases x with
 |Assign ts v q =>
  cases ts with
  |nil=>exact absurd h zzN
  |cons t r =>
   cases r with
   |cons _ _=>exact absurd h zzN
   |nil =>
    replace h:=bd4 h;exact ⟨t,v,q,rfl,h.1.1.1,h.1.1.2,h.1.2,h.2⟩
 |_=>exact absurd h zzN
theorem zdG {M:MC} {i j:Nat} {t:Expr} (h:zbC M i j t=true):∃ x px y py p2 k q,t=.Tuple [.Name x px,.Starred (.Name y py) p2] k q/\((M.N[i]?==some x)=true/\hJ M x=true)/\((M.N[j]?==some y)=true/\hJ M y=true):=by
 unfold zbC at h
 split at h
 .exact ⟨_,_,_,_,_,_,_,rfl,vT (vT h).1,vT (vT h).2⟩
 .exact absurd h zzN
theorem zcx {o i a:IE} {M:MC} {x:Stmt} (h:mS (.asgI o i a) M x=true):∃ l r qs v q,x=.Assign [.Subscript l r qs] v q/\uQ v=true/\jD r=true/\mE o M l=true/\mE i M r=true/\mE a M v=true:=by
 cases x with
 |Assign ts v q =>
  cases ts with
  |nil=>exact absurd h zzN
  |cons t r =>
   cases r with
   |cons _ _=>cases t<;>exact absurd h zzN
   |nil =>
    cases t with
    |Subscript l r qs =>
     replace h:=bd5 h;exact ⟨l,r,qs,v,q,rfl,h.1.1.1.1,h.1.1.1.2,h.1.1.2,h.1.2,h.2⟩
    |_=>exact absurd h zzN
 |_=>exact absurd h zzN
theorem zcy {o a:IE} {f:Str} {M:MC} {x:Stmt} (h:mS (.asgA o f a) M x=true):∃ l qs v q,x=.Assign [.Attribute l f qs] v q/\uQ v=true/\mE o M l=true/\mE a M v=true:=by
 cases x with
 |Assign ts v q =>
  cases ts with
  |nil=>exact absurd h zzN
  |cons t r =>
   cases r with
   |cons _ _=>cases t<;>exact absurd h zzN
   |nil =>
    cases t with
    |Attribute l y qs =>
     replace h:=bd4 h;simp only [beq_iff_eq] at h;obtain ⟨⟨⟨rfl,h2⟩,h3⟩,h4⟩:=h;exact ⟨l,qs,v,q,rfl,h2,h3,h4⟩
    |_=>exact absurd h zzN
 |_=>exact absurd h zzN
theorem zg2 {a:IE} {M:MC} {x:Stmt} (h:mS (.ex a) M x=true):∃ v q,x=.Expr v q/\uQ v=true/\mE a M v=true:=by
 cases x with
 |Expr v q =>
  replace h:=vT h;exact ⟨v,q,rfl,h.1,h.2⟩
 |_=>exact absurd h zzN
theorem zet {a:IE} {M:MC} {x:Stmt} (h:mS (.ret a) M x=true):∃ v q,x=.Return (some v) q/\mE a M v=true:=by
 cases x with
 |Return v q =>
  cases v with
  |none=>exact absurd h zzN
  |some v=>exact ⟨v,q,rfl,h⟩
 |_=>exact absurd h zzN
theorem zcs {M:MC} {x:Stmt} (h:mS .retN M x=true):∃ q,x=.Return none q:=by
 cases x with
 |Return v q =>
  cases v with
  |none=>exact ⟨q,rfl⟩
  |some v=>exact absurd h zzN
 |_=>exact absurd h zzN
theorem zct {M:MC} {x:Stmt} (h:mS .pass M x=true):∃ q,x=.Pass q:=by
 cases x with
 |Pass q=>exact ⟨q,rfl⟩
 |_=>exact absurd h zzN
theorem zeB {M:MC} {x:Stmt} (h:mS .brk M x=true):∃ q,x=.Break q:=by
 cases x with
 |Break q=>exact ⟨q,rfl⟩
 |_=>exact absurd h zzN
theorem zex {M:MC} {x:Stmt} (h:mS .cnt M x=true):∃ q,x=.Continue q:=by
 cases x with
 |Continue q=>exact ⟨q,rfl⟩
 |_=>exact absurd h zzN
theorem zev {c:IE} {a b:ISs} {M:MC} {x:Stmt} (h:mS (.ite c a b) M x=true):∃ t y z q,x=.If t y z q/\mE c M t=true/\uO a M y=true/\uO b M z=true:=by
 cases x with
 |If t y z q =>
  replace h:=bd3 h;exact ⟨t,y,z,q,rfl,h.1.1,h.1.2,h.2⟩
 |_=>exact absurd h zzN
theorem zes {c:IE} {b:ISs} {M:MC} {x:Stmt} (h:mS (.whl c b) M x=true):∃ t y q,x=.While t y [] q/\mE c M t=true/\uO b M y=true:=by
 cases x with
 |While t y z q =>
  cases z with
  |nil =>
   replace h:=vT h;exact ⟨t,y,q,rfl,h.1,h.2⟩
  |cons _ _=>exact absurd h zzN
 |_=>exact absurd h zzN
theorem zew {tg:ITg} {it:II} {b:ISs} {M:MC} {x:Stmt} (h:mS (.for tg it b) M x=true):∃ t y z q,x=.For t y z [] q/\vM y=true/\mG M tg t=true/\mI it M y=true/\uO b M z=true:=by
 cases x with
 |For t y z e q =>
  cases e with
  |nil =>
   replace h:=bd4 h;exact ⟨t,y,z,q,rfl,h.1.1.1,h.1.1.2,h.1.2,h.2⟩
  |cons _ _=>exact absurd h zzN
 |_=>exact absurd h zzN
theorem zeu {M:MC} {x:List Stmt} (h:uO .nil M x=true):x=[]:=by
 cases x with
 |nil=>rfl
 |cons _ _=>exact absurd h zzN
theorem zcu {s:IS} {ss:ISs} {M:MC} {x:List Stmt} (h:uO (.cons s ss) M x=true):∃ y ys,x=y::ys/\mS s M y=true/\uO ss M ys=true:=by
 cases x with
 |nil=>exact absurd h zzN
 |cons y ys =>
  replace h:=vT h;exact ⟨y,ys,rfl,h.1,h.2⟩
end L3
namespace L2
open PySem PySem.Spec PyProof.Rows
theorem alive {P:Program} {w:World} {H:Hp} {h:Heap} {a:Addr} {o:HO} (x:yK P w H h a o):∃ u,h.get? a=some u:=by
 cases o with
 |lst _=>obtain ⟨_,_,_,_,e⟩:=x;exact ⟨_,e⟩
 |tup _=>obtain ⟨_,_,_,u,e,_⟩:=x;exact ⟨u,e⟩
 |dK _=>obtain ⟨_,_,_,_,u,_,_,e,_⟩:=x;exact ⟨u,e⟩
 |dT _=>obtain ⟨_,_,_,_,u,_,_,e,_⟩:=x;exact ⟨u,e⟩
 |set _ _=>obtain ⟨u,_,_,_,e,_⟩:=x;exact ⟨u,e⟩
 |ins _ _ _=>exact ⟨_,x.2.2.2.1⟩
 |own _=>exact x
 |xd _=>obtain ⟨_,⟨u,_,_,e,_⟩,_⟩:=x;exact ⟨u,e⟩
 |rng _ _=>obtain ⟨_,_,_,e⟩:=x;exact ⟨_,e⟩
 |frz _ _=>exact ⟨_,x.1⟩
 |tbl _=>exact ⟨_,x⟩
 |met _ _=>exact ⟨_,x⟩
 |ext _=>exact x.2.1
def bR (h:Heap) (L:Addr):List (Addr×Obj):=(List.range h.objs.size).filterMap fun b=>if b=L then none else (h.get? b).map fun o=>(b,o)
theorem kB {h:Heap} {L b:Addr} {o:Obj}:(b,o)∈bR h L↔b≠L/\h.get? b=some o:=by
 unfold bR;rw [List.mem_filterMap]
 constructor
 .rintro ⟨c,_,e⟩
  split at e
  .cases e
  .rename_i hc;obtain ⟨o',e1,e2⟩:=Option.map_eq_some_iff.mp e;cases e2;exact ⟨hc,e1⟩
 .rintro ⟨hb,e⟩;exact ⟨b,List.mem_range.mpr (Heap.lt_size e),by rw [if_neg hb,e];rfl⟩
section
variable {X : Cx} {pos : Pos}
def gStar (K:PySem.W.Frag) (t:TGs):TG:=fun v σ H Q=>∃ a x xs,v=.ref a/\uW K H a (x::xs)/\xs.length<=1000/\∀ D,H D=none->t [x,.ref D] σ (yN H D (.lst xs)) Q
theorem zd3 {e1 e2:Expr} {k:Nat} {p2:Pos} {t:TGs} (hc:X.calm=true) (h:PGs X [e1,e2] t) (h1:assignEach [e1,.Starred e2 p2] X.env=[(false,assign e1 X.env),(true,assign e2 X.env)])
  (h2:assignEach [e1,e2] X.env=[(false,assign e1 X.env),(false,assign e2 X.env)]):PG X (.Tuple [e1,.Starred e2 p2] k pos) (gStar X.K t):=by
 intro pins s σ H v u Q I r hw;obtain ⟨a,x,xs,e,hq,hl,hw⟩:=hw;subst e;cases r;obtain ⟨its,rv,ht,hz⟩:=I.tuple hq
 cases rv with
 | @cons _ u _ us r0 rs =>
 have hus:us.length=xs.length:=rs.length.symm;obtain ⟨m,hn,_⟩:=id I.loc;have F:Fr (default:Heap) X.env.locals s.heap m:=⟨hn,fun b o e=>(by cases e),Nat.zero_le _⟩
 have N:News (default:Heap) X.env.locals s.heap (bR s.heap X.env.locals):=fun p hp=>by
  obtain ⟨b,o⟩:=p;have:=kB.mp hp;exact ⟨this.2,this.1,rfl⟩
 rw [assign_Tuple];refine wpAny_bind (wpAny_standAt ?_);unfold unpack;rw [show (assignEach [e1,.Starred e2 p2] X.env).length=2 by rw [h1];rfl,show (assignEach [e1,.Starred e2 p2] X.env).findIdx? (·.1)=some 1 by rw [h1];rfl];refine wpAny_bind (wpAny_holding (wI I.tk (PySem.W.kun_starT (n:=2) (i:=1) (first:=[u]) (mids:=us) (lasts:=[]) F N ht (I.ok.hd hc) (by decide) (by simp) (by simp;omega) (by simp) (by simp) (by simp) fun D h' tk F' N' lt h0=>?_)));have get:∀ b o,b≠X.env.locals->s.heap.get? b=some o->h'.get? b=some o:=fun b o hb e=>(N' (b,o) (List.mem_cons_of_mem _ (kB.mpr ⟨hb,e⟩))).1;obtain ⟨hD,nD,_⟩:=N' (D,{ cls:=.type "list", data:=.seq us.toArray 0 }) zzT
 have no:s.heap.get? D=none:=by
  cases q:s.heap.get? D with
  |none=>rfl
  |some o=>exact absurd (lt (D,o) (kB.mpr ⟨nD,q⟩)) (Nat.lt_irrefl _)
 have HD:H D=none:=by
  cases q:H D with
  |none=>rfl
  |some o=>obtain ⟨u',e'⟩:=alive (I.hok D o q);rw [no] at e';cases e'
 have nl:∀ b o,H b=some o->b≠X.env.locals:=fun b o e z=>by rw [z,I.free] at e;cases e
 have ne:∀ b o,H b=some o->b≠D:=fun b o e=>zH e HD
 have hok:kR X.prog X.w (yN H D (.lst xs)) h':=fun b o e=>by
  by_cases hb:b=D
  .subst hb;rw [xZ] at e;cases e;exact ⟨by rw [sizeLine_eq];omega,us,0,rs,hD⟩
  .rw [zU hb] at e;refine (I.hok b o e).stay (fun c v hc q=>get c v ?_ q) (fun c q=>by rw [zU (ne c _ q)];exact q) fun c ys q=>by rw [zU (ne c _ q)];exact q
   rcases hc with z|z
   .rw [z];exact nl b o e
   .exact nl c _ z
 have I1:Inv X pins σ (yN H D (.lst xs)) { s with heap:=h',toks:=tk } :=
  I.step (g':=s.gens) (d':=s.drawn) (ch:=[]) (fun _ z=>nomatch z) (fun b o hb _ _ e _=>get b o hb e) (fun b o hb _ _ e _=>⟨o.slots,get b o hb e⟩)
   (fun b o _ e n=>by rw [zU (fun z=>by rw [z,no] at e;cases e)];exact n)
   (fun b o _ e=>by
    by_cases hb:b=X.env.locals
    .obtain ⟨o',_,_,q,_⟩:=F'.ns;exact ⟨o',by rw [hb];exact q⟩
    .exact ⟨o,get b o hb e⟩)
   (fun b ys e=>by rw [zU (ne b _ e)];exact e) (fun b o u e=>by rw [zU (ne b _ e)];exact e) (fun b ps e=>⟨#[],by rw [zU (ne b _ e),e];simp⟩)
   (fun m' hm=>by rw [hm.eq_nsMap,← hn.eq_nsMap];exact F'.ns) hok I.bare
 have:=h pins _ σ _ [x,.ref D] [u,.ref D] Q I1 (.cons r0 (.cons rfl .nil)) (hw D HD);rw [h2] at this;rw [h1];exact this
end
end L2
namespace L2
open PySem PySem.Spec PyProof.Rows
section
variable {prog : Program} {w : World} {A : Around} {E : Value → Shared → Prop} {s : Shared}
theorem cU {it l:Addr} {xs:Array Value} (ne:l≠it):∀ (n i:Nat) (s:Shared) (Q:List Value->Shared->Prop),s.heap.IsListIter it l i->s.heap.IsList l xs->i+n<=xs.size ->
  (∀ h',h'.IsListIter it l (i+n)->Heap.SameBut it s.heap h'->Q ((xs.toList.drop i).take n) { s with heap:=h' })->wpAny (model prog w) A (draw (.ref it) n) Q E s
 | 0,i,s,Q,a,_,_,q=>by
  show wpAny _ _ (pure []) Q E s;exact wpAny_pure (by simpa using q s.heap a (Heap.SameBut.refl ..))
 |n+1,i,s,Q,a,b,le,q=>by
  have lt:i<xs.size:=by omega
  show wpAny _ _ (pyNext (.ref it) >>= _) Q E s;refine wpAny_bind (wpAny_pyNext_list_item a b (x:=xs[i]) (by simp [lt]) fun h1 a1 s1=>?_);refine wpAny_bind (wpAny_holding (cU ne n (i+1) _ _ a1 (b.extBut s1.extBut ne) (by omega) fun h2 a2 s2=>wpAny_pure ?_));have e:xs.toList.drop i=xs[i]::xs.toList.drop (i+1):=by simp [List.drop_eq_getElem_cons,lt]
  have z:=q h2 (by rw [show i+(n+1)=i+1+n by omega];exact a2) (s1.trans s2);rw [e,List.take_succ_cons] at z;exact z
theorem cE {l:Addr} {xs:Array Value} {ts:List (Bool×(Value->Sem Unit))} {Q:Unit->Shared->Prop} (hh:A.handled=none) (hl:s.heap.IsList l xs) (hn:ts.length=xs.size) (hs:ts.findIdx? (·.1)=none)
  (h:∀ h',Heap.ExtBut s.heap.objs.size s.heap h'->wpAny (model prog w) A (assignInOrder (ts.map (·.2)) xs.toList) Q E { s with heap:=h' }):wpAny (model prog w) A (unpack (.ref l) ts) Q E s:=by
 have ne:l≠s.heap.objs.size:=by obtain ⟨o,ho,_⟩:=hl;exact Nat.ne_of_lt (Heap.lt_size ho)
 unfold unpack;rw [hn,hs];refine wpAny_bind (wpAny_holding ?_);unfold unpackItems;refine wpAny_bind ?_;unfold notIterableAtAll;refine wpAny_bind (wpAny_specialOf hl.typeIs slot_list_iter.lookup (wpAny_pure ?_));simp only [zzB,if_false];refine wpAny_bind (wpAny_holding (wpAny_pyIter_list hl ?_));refine wpAny_bind (wpAny_holding (cU ne xs.size 0 _ _ ⟨_,Heap.get?_push_size _ rfl,rfl,rfl⟩ (hl.push _) (by omega) fun h1 a1 s1=>?_));rw [show List.take xs.size (List.drop 0 xs.toList)=xs.toList by rw [List.drop_zero];exact List.take_of_length_le (by simp),if_neg (by simp)];refine wpAny_bind (wpAny_holding (wpAny_pyNext_list_end hh a1 ((hl.push _).extBut s1.extBut ne) (by simp) fun h2 e2=>?_));simp only [Option.isSome_none,zzB,if_false];exact wpAny_pure (h h2 fun b o hb e=>e2 b o hb (s1.extBut b o hb (Heap.get?_push_of_some _ e)))
end
def gTL (K:PySem.W.Frag) (n:Nat) (t:TGs):TG:=fun v σ H Q=>∃ a xs,v=.ref a/\(uW K H a xs\/tW K H a xs)/\xs.length=n/\t xs σ H Q
theorem pg_tl {X:Cx} {pos:Pos} {es:List Expr} {k:Nat} {t:TGs} {n:Nat} (hc:X.calm=true) (h:PGs X es t) (hn:(assignEach es X.env).length=n) (hst:(assignEach es X.env).findIdx? (·.1)=none):PG X (.Tuple es k pos) (gTL X.K n t):=by
 intro pins s σ H v u Q I r hw;obtain ⟨a,xs,e1,hq,hl,hw⟩:=hw;rcases hq with hq|hq
 .exact zda hc h hn hst pins s σ H v u Q I r ⟨a,xs,e1,hq,hl,hw⟩
 .subst e1;cases r;obtain ⟨its,rv,pl,hz⟩:=I.list hq;rw [assign_Tuple];refine wpAny_bind (wpAny_standAt (cE (I.ok.hd hc) pl.isList (by simp [hn,← hl,rv.length]) hst fun h' hx=>?_));exact h pins _ σ H xs _ Q (I.kept (t':=s.toks) fun b o e=>hx b o (Nat.ne_of_lt (Heap.lt_size e)) e) (by simpa using rv) hw
end L2
namespace L3
open PySem PySem.Spec PyProof.Rows L2 PySem.SeqAt
theorem dZ {K:zE} {H:Hp} {f:Str} {w:W} {v:V} (q:yA K H w v):∀ {l:List (Str×W)} {l':List (Str×V)},zK K H l l'->zK K H (jW f w l) (jG f v l')
 | [],_,h=>by rw [show _=[] from h];exact ⟨v,[],rfl,q,rfl⟩
 | (n,u)::r,_,⟨x,t,e,h,hr⟩=>by
  subst e;unfold jW jG
  by_cases hn:n=f
  .rw [if_pos hn,if_pos hn];exact ⟨v,t,rfl,q,hr⟩
  .rw [if_neg hn,if_neg hn];exact ⟨x,_,rfl,h,dZ q hr⟩
section
variable {Γ : Ctx3} {p : Par} (g : Good Γ p)
def cJ (Γ:Ctx3) (p:Par) (s:IS):Prop:=∀ M X x,Lk Γ M p X->mS s M x=true->PS X x (lowS X.K (zF Γ XN s))
def OkSs (Γ:Ctx3) (p:Par) (s:ISs):Prop:=∀ M X x,Lk Γ M p X->uO s M x=true->cK X x (lowS X.K (yQ Γ XN s))
include g
theorem t_asg (i:Nat) (e:IE):cJ Γ p (.asg i e):=by
 intro M X x L h;obtain ⟨y,py,v,q,rfl,h1,h2,h3⟩:=zeC h
 .
  have lo:=hR L h2;have hN:=wY h1;rw [← L.N] at hN;have nd:X.N.Nodup:=L.N▸L.nd
  have low:∀ (te:TE),(∀ τ H Q,yM X.K (zL Γ XN e).e τ H Q->te τ H Q)->∀ D τ H,lowS X.K (zF Γ XN (.asg i e)) D τ H->tAsg te (zcC i) D τ H:=fun te k D τ H hq=>by
   obtain ⟨σ,G,D3,hs,ab,f,hq⟩:=hq;refine k _ _ _ ⟨σ,G,hs,ab,zT g.mono XN e σ G _ _ (fun w G' hq v' H' g' rp ab'=>?_) hq⟩;exact f.nx _ G' _ H' g' ((hs.mono g').set rp i) ab' hq
  by_cases hl:uQ v=true
  .exact (zc7 (i:=i) nd hN lo.1 (qJ g e M X v L h3).1 (jR hl) lo.2).imp (low _ fun _ _ _ z=>z)
  .cases v with
   |ListComp x gens sc qq =>
    cases e with
    |lc tg names caps it c elt =>
     match gens,h3 with
     | [⟨t,ix,ifs,asy⟩],h3 =>
      have h3':=h3;replace h3:=bd10 h3;obtain ⟨⟨⟨⟨⟨⟨⟨⟨⟨z0,z1⟩,z2⟩,z3⟩,z4⟩,z5⟩,z6⟩,z7⟩,z8⟩,z9⟩:=h3;replace z0:=of_decide_eq_true z0;subst z0;have cond:∃ b,swapsWith (.ListComp x [⟨t,ix,ifs,0⟩] sc qq) (some (.Name y py)) q.line X.env=pure b:=⟨_,rfl⟩;obtain ⟨b,hb⟩:=cond
      cases b with
      |false=>exact (zc7 (i:=i) nd hN lo.1 (qJ g _ M X _ L h3').1 hb lo.2).imp (low _ fun _ _ _ z=>z)
      |true =>
       obtain ⟨c1,c2,c3,c4,c5,c6,c7,c8⟩:=pC g tg names caps it c elt (sndI g it) (sndO g c) (qJ g elt) L (x:=x) (t:=t) (ix:=ix) (ifs:=ifs) (sc:=sc) (by simp only [Bool.and_eq_true];exact ⟨⟨⟨⟨⟨⟨⟨⟨z1,z2⟩,z3⟩,z4⟩,z5⟩,z6⟩,z7⟩,z8⟩,z9⟩);exact (zb0 (i:=i) L.fits.calm c1 c2 c3 c4 c5 c6 nd hN lo.1 lo.2 hb c7).imp (low _ c8)
    |_=>exact absurd h3 zzN
   |SetComp _ _ _ _=>cases e<;>exact absurd h3 zzN
   |DictComp _ _ _ _ _=>cases e<;>exact absurd h3 zzN
   |_=>exact absurd rfl hl
theorem sndTL {M:MC} {X:Cx} {ts:ITgs} {es:List Expr} {k:Nat} {q:Pos} (L:Lk Γ M p X) (h:mGs M ts es=true):PG X (.Tuple es k q) (lowG X.K fun w σ G Q=>zM (.tup ts) (unl G w) σ G Q):=by
 obtain ⟨ps,hn,hst⟩:=zdL L ts es h;refine (pg_tl (n:=es.length) L.fits.calm ps hn hst).imp fun v σ H Q q=>?_;obtain ⟨w,σ3,G,rp,hs,ab,q⟩:=q
 cases w with
 |tup ws =>
  obtain ⟨a,vs,rfl,sq,rs⟩:=rp;exact ⟨a,vs,rfl,.inl sq,by rw [rs.length];exact zcm ts es ws σ3 G _ h q,ws,σ3,G,rs,hs,ab,q⟩
 |ref p =>
  cases (show v=.ref p from rp);simp only [unl] at q
  split at q
  .rename_i ws e;obtain ⟨vs,sq,rs⟩:=ab.seq e;exact ⟨p,vs,rfl,.inr sq,by rw [rs.length];exact zcm ts es ws σ3 G _ h q,ws,σ3,G,rs,hs,ab,q⟩
  .exact q.elim
 |_=>exact q.elim
theorem zfs (ts:ITgs) (e:IE):cJ Γ p (.asgT ts e):=by
 intro M X x L h;obtain ⟨es,k,qt,v,q,rfl,h1,h2,h3,h4⟩:=zcv h
 .
  have pg:=sndTL g (k:=k) (q:=qt) L h3;refine (zc8 (qJ g e M X v L h4).1 pg (by unfold swapsWithSole;exact jR h1) (by cases v<;>first|rfl|cases h2) rfl).imp fun D τ H hq=>?_;obtain ⟨σ,G,D3,hs,ab,f,hq⟩:=hq;refine ⟨σ,G,hs,ab,zT g.mono XN e σ G _ _ (fun w G' hq v' H' g' rp ab'=>?_) hq⟩;exact ⟨w,σ,G',rp,hs.mono g',ab',uE _ (unl G' w) σ G' _ _ (fun σ2 G2 hq τ2 H2 g2 hs2 a2=>f.nx σ2 G2 τ2 H2 (g'.trans g2) hs2 a2 hq) hq⟩
theorem zft (i j:Nat) (e:IE):cJ Γ p (.asgS i j e):=by
 intro M X x L h;obtain ⟨t,v,q,rfl,h1,h2,h3,h4⟩:=zcw h;obtain ⟨y,py,z,pz,p2,k,qt,rfl,hi,hj⟩:=zdG h3;have l1:=hR L hi.2;have l2:=hR L hj.2;have pg:=zd3 (k:=k) (p2:=p2) (pos:=qt) L.fits.calm (sP (mB (pos:=py) (i:=i) (L.N▸L.nd) (by rw [L.N];exact wY hi.1) l1.1 l1.2) (sP (mB (pos:=pz) (i:=j) (L.N▸L.nd) (by rw [L.N];exact wY hj.1) l2.1 l2.2) zaA)) rfl rfl;refine (zc8 (qJ g e M X v L h4).1 pg (by unfold swapsWithSole;exact jR h1) (by cases v<;>first|rfl|cases h2) rfl).imp fun D τ H hq=>?_;obtain ⟨σ,G,D3,hs,ab,f,hq⟩:=hq;refine yX (zT g.mono XN e) hs ab hq fun w G1 v1 H1 g1 hs1 r1 a1 hq=>?_
 cases w with
 |tup ws =>
  cases ws with
  |nil=>exact hq.elim
  |cons x r =>
   obtain ⟨a,vs,rfl,sq,rs⟩:=r1;obtain ⟨v0,vr,rfl,rx,rr⟩:=rs;refine ⟨a,v0,vr,rfl,sq,by rw [rr.length];exact hq.1,fun p hp=>⟨v0,[.ref p],rfl,.ref p,[],rfl,rfl,?_⟩⟩;have gr:=yH (K:=X.K) (u:=.lst vr) hp;have ab2:yF X.K (yN H1 p (.lst vr)) (put G1 p (.lst r)):=a1.new hp ⟨vr,rfl,rr.mono gr⟩;exact f.nx _ _ _ _ (g1.trans gr) (((hs1.mono gr).set (rx.mono gr) i).set (show yA X.K _ (.ref p) (.ref p) from rfl) j) ab2 (hq.2 p (a1.free hp))
 |_=>exact hq.elim
theorem zfu (o i e:IE):cJ Γ p (.asgI o i e):=by
 intro M X x L h;obtain ⟨l,r,qs,v,q,rfl,h1,h2,h3,h4,h5⟩:=zcx h
 .
  have pe:=(qJ g e M X v L h5).1;have po:=(qJ g o M X l L h3).1;have pi:=(qJ g i M X r L h4).1;intro pins s τ H D I hq;obtain ⟨σ,G,D3,hs,ab,f,hq⟩:=hq
  have q1:yM X.K (zL Γ XN e).e τ H fun v H1=>yM X.K (zL Γ XN o).e τ H1 fun ov H2=>yM X.K (zL Γ XN i).e τ H2 fun iv H3=>zdh X.K ov iv v H3 fun H4=>D.nx τ H4:=by
   refine yX (zT g.mono XN e) hs ab hq fun w G1 v1 H1 g1 hs1 r1 a1 hq=>?_;refine yX (zT g.mono XN o) hs1 a1 hq fun x G2 v2 H2 g2 hs2 r2 a2 hq=>?_;refine yX (zT g.mono XN i) hs2 a2 hq fun y G3 v3 H3 g3 hs3 r3 a3 hq=>?_;exact ⟨x,y,w,G3,r2.mono g3,r3,(r1.mono g2).mono g3,a3,zas (fun G4 hq H4 g4 a4=>f.nx σ G4 τ H4 (g1.trans (g2.trans (g3.trans g4))) (hs3.mono g4) a4 hq) hq⟩
  refine wpAny_Assign_Subscript (yU (pe pins s τ H _ I q1) fun u1 s1 ⟨v1,H1,I1,r1,q1⟩=>yU (po pins s1 τ H1 _ I1 q1) fun u2 s2 ⟨v2,H2,I2,r2,q2⟩=>yU (pi pins s2 τ H2 _ I2 q2) fun u3 s3 ⟨v3,H3,I3,r3,q3⟩=>?_) (jR h1);exact yU (zfH (vH g L) pins s3 τ H3 v2 v3 v1 u2 u3 u1 _ I3 r2 r3 r1 q3) fun _ s4 ⟨H4,I4,q4⟩=>⟨τ,H4,I4,q4⟩
theorem zfv (o:IE) (f:Str) (e:IE):cJ Γ p (.asgA o f e):=by
 intro M X x L h;obtain ⟨l,qs,v,q,rfl,h2,h3,h4⟩:=zcy h
 .
  refine (zf2 (qJ g o M X l L h3).1 (qJ g e M X v L h4).1 (jR h2)).imp fun D τ H hq=>?_;obtain ⟨σ,G,D3,hs,ab,fi,hq⟩:=hq;refine yX (zT g.mono XN e) hs ab hq fun w G1 v1 H1 g1 hs1 r1 a1 hq=>?_;refine yX (zT g.mono XN o) hs1 a1 hq fun x G2 v2 H2 g2 hs2 r2 a2 hq=>?_
  cases x with
  |ref a =>
   cases r2;simp only [satR] at hq
   split at hq
   .rename_i C fs e2;obtain ⟨⟨l2,hl,hf⟩,hlen,hq⟩:=hq;obtain ⟨dx,fs',e',rk⟩:=a2.ins e2;have c:=g.cl _ hl;refine ⟨a,C,dx,fs',rfl,e',by rw [L.fits.K];exact c.1,by rw [L.fits.K];exact c.2 f hf,by rw [rk.length];exact hlen,?_⟩;have gr:=a2.grow (u:=.ins C dx (jG f v1 fs')) e2;exact fi.nx σ _ τ _ (g1.trans (g2.trans gr)) (hs2.mono gr) (a2.chg (o:=.ins C (jW f w fs)) e2 ⟨dx,_,rfl,dZ ((r1.mono g2).mono gr) (rk.mono gr)⟩) hq
   .exact hq.elim
  |_=>exact hq.elim
theorem qK:cJ Γ p .retN/\cJ Γ p .pass/\cJ Γ p .brk/\cJ Γ p .cnt/\cJ Γ p .dead:=by
 refine ⟨fun M X x L h=>?_,fun M X x L h=>?_,fun M X x L h=>?_,fun M X x L h=>?_,fun M X x L h=>?_⟩
 .obtain ⟨q,rfl⟩:=zcs h;exact zdW.imp fun D τ H hq=>by obtain ⟨σ,G,D3,hs,ab,f,hq⟩:=hq;exact f.rt .non G _ H .refl (show yA X.K H .non .non from rfl) ab hq
 .obtain ⟨q,rfl⟩:=zct h;exact zdX.imp fun D τ H hq=>by obtain ⟨σ,G,D3,hs,ab,f,hq⟩:=hq;exact f.nx σ G τ H .refl hs ab hq
 .obtain ⟨q,rfl⟩:=zeB h;exact zb2.imp fun D τ H hq=>by obtain ⟨σ,G,D3,hs,ab,f,hq⟩:=hq;exact f.bk σ G τ H .refl hs ab hq
 .obtain ⟨q,rfl⟩:=zex h;exact dX.imp fun D τ H hq=>by obtain ⟨σ,G,D3,hs,ab,f,hq⟩:=hq;exact f.ct σ G τ H .refl hs ab hq
 .exact zb1.imp fun D τ H hq=>by obtain ⟨σ,G,D3,hs,ab,f,hq⟩:=hq;exact hq.elim
theorem t_ex (e:IE):cJ Γ p (.ex e):=by
 intro M X x L h;obtain ⟨v,q,rfl,hh⟩:=zg2 h
 .have h:=hh;refine (zdY (qJ g e M X v L h.2).1 (jR h.1)).imp fun D τ H hq=>?_;obtain ⟨σ,G,D3,hs,ab,f,hq⟩:=hq;exact yX (zT g.mono XN e) hs ab hq fun w G1 v1 H1 g1 hs1 r1 a1 hq=>f.nx σ G1 τ H1 g1 hs1 a1 hq
theorem t_ret (e:IE):cJ Γ p (.ret e):=by
 intro M X x L h;obtain ⟨v,q,rfl,hh⟩:=zet h
 .have h:=hh;refine (zf0 (qJ g e M X v L h).1).imp fun D τ H hq=>?_;obtain ⟨σ,G,D3,hs,ab,f,hq⟩:=hq;exact yX (zT g.mono XN e) hs ab hq fun w G1 v1 H1 g1 hs1 r1 a1 hq=>f.rt w G1 v1 H1 g1 r1 a1 hq
theorem t_ite (c:IE) (a b:ISs) (ha:OkSs Γ p a) (hb:OkSs Γ p b):cJ Γ p (.ite c a b):=by
 intro M X x L h;obtain ⟨t,y,z,q,rfl,hh⟩:=zev h
 .have h:=hh;refine (ps_if (qJ g c M X t L h.1).2.1 (ha M X y L h.2.1) (hb M X z L h.2.2)).imp fun D τ H hq=>?_;obtain ⟨σ,G,D3,hs,ab,f,hq⟩:=hq;refine rD (vL g.mono XN c) hs ab hq fun k G1 H1 g1 hs1 a1 hq=>?_
  split
  .rename_i hk;rw [if_pos hk] at hq;exact ⟨σ,G1,D3,hs1,a1,f.grow g1,hq⟩
  .rename_i hk;rw [if_neg hk] at hq;exact ⟨σ,G1,D3,hs1,a1,f.grow g1,hq⟩
theorem t_whl (c:IE) (b:ISs) (hb:OkSs Γ p b):cJ Γ p (.whl c b):=by
 intro M X x L h;obtain ⟨t,y,q,rfl,hh⟩:=zes h
 .have h:=hh;have hp:PassesOwn (model X.prog X.w) X.A X.env X.xe:=by rw [L.fits.xe];exact PassesOwn.never
  refine (zbZ hp (qJ g c M X t L h.1).2.1 (hb M X y L h.2)).imp fun D τ H hq=>?_;obtain ⟨σ,G,D3,hs,ab,f,Pv,⟨m0,p0⟩,step⟩:=hq;refine ⟨fun m τ H'=>zB X.K H H'/\∃ σ G,zG X.K H' σ τ/\yF X.K H' G/\Pv m σ G,⟨m0,.refl,σ,G,hs,ab,p0⟩,?_⟩;rintro m τ1 H1 ⟨g1,σ1,G1,hs1,a1,p1⟩;refine rD (vL g.mono XN c) hs1 a1 (step m σ1 G1 p1) fun k G2 H2 g2 hs2 a2 hq=>?_
  split
  .rename_i hk;rw [if_pos hk] at hq;refine ⟨fun τ' H'=>∃ m',m' < m/\zB X.K H H'/\∃ σ G,zG X.K H' σ τ'/\yF X.K H' G/\Pv m' σ G,fun τ' H' z=>z,?_⟩;refine ⟨σ1,G2,_,hs2,a2,⟨?_,?_,?_,?_⟩,hq⟩
   .rintro σ3 G3 τ3 H3 g3 hs3 a3 ⟨m',hm,p'⟩;exact ⟨m',hm,g1.trans (g2.trans g3),σ3,G3,hs3,a3,p'⟩
   .exact fun σ3 G3 τ3 H3 g3 hs3 a3 z=>f.nx σ3 G3 τ3 H3 (g1.trans (g2.trans g3)) hs3 a3 z
   .rintro σ3 G3 τ3 H3 g3 hs3 a3 ⟨m',hm,p'⟩;exact ⟨m',hm,g1.trans (g2.trans g3),σ3,G3,hs3,a3,p'⟩
   .exact fun w G3 v3 H3 g3 r3 a3 z=>f.rt w G3 v3 H3 (g1.trans (g2.trans g3)) r3 a3 z
  .rename_i hk;rw [if_neg hk] at hq;exact f.nx σ1 G2 τ1 H2 (g1.trans g2) hs2 a2 hq
theorem t_for (tg:ITg) (it:II) (b:ISs) (hb:OkSs Γ p b):cJ Γ p (.for tg it b):=by
 intro M X x L h;obtain ⟨t,y,z,q,rfl,h1,h2,h3,h4⟩:=zew h
 .
  have hp:PassesOwn (model X.prog X.w) X.A X.env X.xe:=by rw [L.fits.xe];exact PassesOwn.never
  refine (zf1 hp L.fits.calm (sndI g it M X y L h3 t) (sndG L tg t h2) (hb M X z L h4) (nG h1)).imp fun D τ H hq=>?_;obtain ⟨σ,G,D3,hs,ab,f,hq⟩:=hq;refine ⟨σ,G,hs,ab,zgv g.mono XN it σ G _ _ (fun items stab G1 hq J H1 g1 a1 ii=>?_) hq⟩;obtain ⟨Pv,p0,pst,step,fin⟩:=hq;refine ⟨fun i m τ H'=>m+i=items.length/\zB X.K H1 H'/\∃ σ G,zG X.K H' σ τ/\yF X.K H' G/\Pv i σ G,⟨items.length,rfl,.refl,σ,G1,hs.mono g1,a1,p0⟩,?_⟩;rintro i m τ2 H2 ⟨hm,g2,σ2,G2,hs2,a2,p2⟩;have st:=pst i σ2 G2 p2 (by omega)
  by_cases hi:i<items.length
  .refine .inr ⟨ii.go i H2 G2 g2 a2 st hi,fun τ' H'=>∃ m',m' < m/\(m'+(i+1)=items.length/\zB X.K H1 H'/\∃ σ G,zG X.K H' σ τ'/\yF X.K H' G/\Pv (i+1) σ G),fun τ' H' z=>z,fun x H' yl=>?_⟩;obtain ⟨w,ew,g3,rp,a3⟩:=ii.yld i H2 G2 x H' g2 a2 st hi yl;refine ⟨w,σ2,G2,rp,hs2.mono g3,a3,uE tg w σ2 G2 _ _ (fun σ4 G4 hq τ4 H4 g4 hs4 a4=>?_) (step i w σ2 G2 ew p2)⟩;refine ⟨σ4,G4,_,hs4,a4,⟨?_,?_,?_,?_⟩,hq⟩
   .exact fun σ5 G5 τ5 H5 g5 hs5 a5 z=>⟨m-1,by omega,by omega,g2.trans (g3.trans (g4.trans g5)),σ5,G5,hs5,a5,z⟩
   .exact fun σ5 G5 τ5 H5 g5 hs5 a5 z=>f.nx σ5 G5 τ5 H5 (g1.trans (g2.trans (g3.trans (g4.trans g5)))) hs5 a5 z
   .exact fun σ5 G5 τ5 H5 g5 hs5 a5 z=>⟨m-1,by omega,by omega,g2.trans (g3.trans (g4.trans g5)),σ5,G5,hs5,a5,z⟩
   .exact fun w5 G5 v5 H5 g5 r5 a5 z=>f.rt w5 G5 v5 H5 (g1.trans (g2.trans (g3.trans (g4.trans g5)))) r5 a5 z
  .have ei:i=items.length:=by omega
   subst ei;exact .inl ⟨ii.stop _ H2 G2 g2 a2 st (zzR _),f.nx σ2 G2 τ2 H2 (g1.trans g2) hs2 a2 (fin σ2 G2 p2)⟩
theorem sndSs (s:ISs):OkSs Γ p s :=
 ISs.rec (motive_1:=cJ Γ p) (motive_2:=OkSs Γ p) (t_asg g) (zfs g) (zfu g) (zfv g) (t_ex g) (t_ret g) (qK g).1 (qK g).2.1 (qK g).2.2.1 (qK g).2.2.2.1
  (fun c a b ha hb=>t_ite g c a b ha hb) (fun c b hb=>t_whl g c b hb) (fun tg it b hb=>t_for g tg it b hb) (qK g).2.2.2.2 (zft g)
  (fun M X x L h=>by
   cases zeu h;exact zdV.imp fun D τ H hq=>by obtain ⟨σ,G,D3,hs,ab,f,hq⟩:=hq;exact f.nx σ G τ H .refl hs ab hq)
  (fun s ss hs1 hs2 M X x L h=>by
   obtain ⟨y,ys,rfl,hh⟩:=zcu h
   .have h:=hh;refine (zbY (hs1 M X y L h.1) (hs2 M X ys L h.2)).imp fun D τ H hq=>?_;obtain ⟨σ,G,D3,hs,ab,f,hq⟩:=hq;refine ⟨σ,G,{ D3 with nx:=yQ Γ XN ss D3 },hs,ab,⟨?_,f.bk,f.ct,f.rt⟩,hq⟩;exact fun σ2 G2 τ2 H2 g2 hs2 a2 z=>⟨σ2,G2,D3,hs2,a2,f.grow g2,z⟩) s
end
end L3
namespace PySem
open Sem (wp)
section
variable {prog : Program} {w : World} {s : Shared} {A : Around} {E : Value → Shared → Prop}
def itc (b:Bool):String:=if b then "tuple_iterator" else "list_iterator"
def vQ (b:Bool) (h:Heap) (i l:Addr) (k:Nat):Prop:=∃ o,h.get? i=some o/\o.cls=.type (itc b)/\o.data=.fields #[.ref l,.int k 0]
def uV (b:Bool) (h:Heap) (l:Addr) (its:Array Value):Prop:=match b with
 |true=>h.IsTuple l its
 |false=>h.IsList l its
theorem vQ.at {b:Bool} {h h':Heap} {i l:Addr} {k:Nat} (x:vQ b h i l k) (e:∀ o,h.get? i=some o->h'.get? i=some o):vQ b h' i l k:=let ⟨o,ho,r⟩:=x;⟨o,e _ ho,r⟩
theorem uV.at {b:Bool} {h h':Heap} {l:Addr} {its:Array Value} (x:uV b h l its) (e:∀ o,h.get? l=some o->h'.get? l=some o):uV b h' l its:=by
 cases b
 .obtain ⟨o,ho,r⟩:=x;exact ⟨o,e _ ho,r⟩
 .obtain ⟨o,ho,r⟩:=x;exact ⟨o,e _ ho,r⟩
theorem vQ.eb {b:Bool} {h h':Heap} {i l c:Addr} {k:Nat} (x:vQ b h i l k) (e:Heap.ExtBut c h h') (n:i≠c):vQ b h' i l k:=x.at fun o q=>e _ o n q
theorem uV.eb {b:Bool} {h h':Heap} {l c:Addr} {its:Array Value} (x:uV b h l its) (e:Heap.ExtBut c h h') (n:l≠c):uV b h' l its:=x.at fun o q=>e _ o n q
theorem jJ {b:Bool} {l:Addr} {its:Array Value} {Q:Value->Shared->Prop} (h:uV b s.heap l its)
  (hQ:Q (.ref s.heap.objs.size) { s with heap:=s.heap.push { cls:=.type (itc b),data:=.fields #[.ref l,.int 0 0] } }):wpAny (model prog w) A (pyIter (.ref l)) Q E s:=by
 cases b
 .exact wpAny_pyIter_list h hQ
 .exact wpAny_pyIter_tuple h hQ
abbrev za9 (it:Addr):Sem Value:=Builtin.SmallTypes.nextOf (.ref it)
theorem zc1 {it:Addr} {Q:Value->Shared->Prop} (ty:s.TypeIs (.ref it) "tuple_iterator")
  (h:wpAny (model prog w) A.in1 (Builtin.«tuple_iterator.__next__» ⟨[.ref it],[]⟩) (fun f s'=>∃ v,f=.done (.ret v)/\Q v s') E s) :
  wpAny (model prog w) A (za9 it) Q E s:=by
 have sl:=F.slot_tuple_iterator_next;apply wpAny_bind;apply wpAny_callSpecial?_slot ty sl;apply wpAny_call_entry sl ty F.entry_tuple_iterator_next _ (F.args_tuple_iterator_next_1 _);exact wpAny_mono h (fun _ _ ⟨v,e,q⟩=>⟨v,e,wpAny_pure q⟩) fun _ _ e=>e
theorem tT {it t:Addr} {i:Nat} {items} {x:Value} {Q:Value->Shared->Prop} (hit:s.heap.IsTupleIter it t i) (ht:s.heap.IsTuple t items) (hx:items[i]?=some x)
  (hQ:∀ h',h'.IsTupleIter it t (i+1)->Heap.SameBut it s.heap h'->Q x { s with heap:=h' }) :
  wpAny (model prog w) A (za9 it) Q E s:=by
 apply zc1 hit.typeIs;obtain ⟨⟨c,di,da,sl⟩,g1,c1,d1⟩:=hit;obtain ⟨⟨c2,di2,da2,sl2⟩,g2,c2',n2,d2⟩:=ht;cases c1;cases d1;cases d2;obtain ⟨hp,ge,dr,tk,os⟩:=s
 wp_walk using wpAny_loadPart' g2,wpAny_loadPart' g1
 rw [Int.toNat_natCast,hx]
 wp_walk using wpAny_loadPart' g1
 refine ⟨x,rfl,hQ _ ⟨_,Heap.get?_update_self _ g1 rfl,rfl,?_⟩ (.update ..)⟩;exact congrArg (fun z=>Data.fields #[.ref t,z]) rfl
theorem sZ {it t:Addr} {i:Nat} {items} {Q:Value->Shared->Prop} (hh:A.handled=none) (hit:s.heap.IsTupleIter it t i) (ht:s.heap.IsTuple t items) (hx:items[i]?=none)
  (hE:∀ g e,Heap.ExtBut it s.heap g->(∃ o,g.get? e=some o/\o.cls=.type "StopIteration")->E (.ref e) { s with heap:=g }) :
  wpAny (model prog w) A (za9 it) Q E s:=by
 apply zc1 hit.typeIs;obtain ⟨⟨c,di,da,sl⟩,g1,c1,d1⟩:=hit;obtain ⟨⟨c2,di2,da2,sl2⟩,g2,c2',n2,d2⟩:=ht;cases c1;cases d1;cases d2;obtain ⟨hp,ge,dr,tk,os⟩:=s;have hh':A.in1.handled=none:=hh
 wp_walk using wpAny_loadPart' g2,wpAny_loadPart' g1
 rw [Int.toNat_natCast,hx]
 wp_walk using wpAny_loadPart' g1
 unfold raiseNew
 wp_walk
 exact hE _ _ (fun b o n z=>Heap.get?_push_of_some _ (Heap.get?_push_of_some _ ((Heap.SameBut.update ..).extBut b o n z))) ⟨_,Heap.get?_push_size _ rfl,rfl⟩
theorem wH {b:Bool} {it l:Addr} {i:Nat} {items:Array Value} {x:Value} {Q:Value->Shared->Prop} (hit:vQ b s.heap it l i) (hl:uV b s.heap l items) (hx:items[i]?=some x)
  (hQ:∀ h',vQ b h' it l (i+1)->Heap.SameBut it s.heap h'->Q x { s with heap:=h' }):wpAny (model prog w) A (Builtin.SmallTypes.nextOf (.ref it)) Q E s:=by
 cases b
 .exact wpAny_nextOf_list_item hit hl hx hQ
 .exact tT hit hl hx hQ
theorem vO {b:Bool} {it l:Addr} {i:Nat} {items:Array Value} {Q:Value->Shared->Prop} (hh:A.handled=none) (hit:vQ b s.heap it l i) (hl:uV b s.heap l items) (hx:items[i]?=none)
  (hE:∀ h' e,Heap.ExtBut it s.heap h'->(∃ o,h'.get? e=some o/\o.cls=.type "StopIteration")->E (.ref e) { s with heap:=h' }):wpAny (model prog w) A (Builtin.SmallTypes.nextOf (.ref it)) Q E s:=by
 cases b
 .exact wpAny_nextOf_list_end hh hit hl hx hE
 .exact sZ hh hit hl hx hE
abbrev fY (h:Heap) (z TI TO:Addr) (f0 f1:Value):Prop :=
 h.get? z=some { cls:=.type "zip", dict:=none,data:=.fields #[f0,f1,.bool false,.ref TI,.ref TO],slots:=#[] }
end
abbrev zpH1 (a:Bool) (h:Heap) (l1:Addr):Heap:=h.push { cls:=.type (itc a),data:=.fields #[.ref l1,.int 0 0] }
abbrev zpH2 (a b:Bool) (h:Heap) (l1 l2:Addr):Heap:=(zpH1 a h l1).push { cls:=.type (itc b),data:=.fields #[.ref l2,.int 0 0] }
abbrev zpH3 (a b:Bool) (h:Heap) (l1 l2:Addr):Heap:=(zpH2 a b h l1 l2).push { cls:=.type "tuple", data:=.seq #[.ref h.objs.size,.ref (zpH1 a h l1).objs.size] }
abbrev zpH4 (a b:Bool) (h:Heap) (l1 l2:Addr):Heap:=(zpH3 a b h l1 l2).push { cls:=.type "tuple", data:=.seq #[.none,.none] }
abbrev cH (a b:Bool) (h:Heap) (l1 l2:Addr):Heap:=(zpH4 a b h l1 l2).push { cls:=.type "zip", data:=.fields #[.none,.bool false,.bool false,.ref (zpH2 a b h l1 l2).objs.size,.ref (zpH3 a b h l1 l2).objs.size] }
theorem hV (a b:Bool) (l1 l2:Addr) (xs ys:Array Value) :
  Meets (Builtin.«zip.__new__» ⟨[.type "zip", .ref l1,.ref l2],[]⟩) (fun _ R s=>uV a s.heap l1 xs/\uV b s.heap l2 ys /\
   R (.ok (.ret (.ref (zpH4 a b s.heap l1 l2).objs.size))) { s with heap:=cH a b s.heap l1 l2 }) :=
 .of_wp fun prog w A R st ⟨hl1,hl2,h⟩=>by
  obtain ⟨hp,g,d,tk,os⟩:=st;have hsub:=sub_zip;have hL1:uV a (Shared.heap ⟨hp,g,d,tk,os⟩) l1 xs:=hl1;have hL2:uV b (Shared.heap ⟨hp.push { cls:=.type (itc a),data:=.fields #[.ref l1,.int 0 0] },g,d,tk,os⟩) l2 ys:=hl2.at fun o e=>Heap.get?_push_of_some _ e
  wp_walk using jJ hL1,jJ hL2
  exact ⟨_,rfl,h⟩
section
variable {prog : Program} {w : World} {s : Shared} {A : Around} {E : Value → Shared → Prop}
theorem zfa {a b:Bool} {l1 l2:Addr} {xs ys:Array Value} {Q:Value->Shared->Prop} (hl1:uV a s.heap l1 xs) (hl2:uV b s.heap l2 ys)
  (h:∀ h',fY h' (s.heap.objs.size+4) (s.heap.objs.size+2) (s.heap.objs.size+3) .none (.bool false)->IsPair h' (s.heap.objs.size+2) (.ref s.heap.objs.size) (.ref (s.heap.objs.size+1)) ->
   IsPair h' (s.heap.objs.size+3) .none .none->vQ a h' s.heap.objs.size l1 0->vQ b h' (s.heap.objs.size+1) l2 0->h'.objs.size=s.heap.objs.size+5->(∀ c o,s.heap.get? c=some o->h'.get? c=some o)->Q (.ref (s.heap.objs.size+4)) { s with heap:=h' }):wpAny (model prog w) A (call (.type "zip") [.ref l1,.ref l2]) Q E s:=by
 apply callType_new F.called_zip (by decide) (F.typeCall_zip_2 _ _) (F.newCall_zip_2 _ _) (fun o=>F.args_object_init_3 o _ _) F.entry_zip_new (hV a b l1 l2 xs ys);refine ⟨hl1,hl2,?_⟩;have z1:(zpH1 a s.heap l1).objs.size=s.heap.objs.size+1:=Heap.size_push ..;have z2:(zpH2 a b s.heap l1 l2).objs.size=s.heap.objs.size+2:=by rw [Heap.size_push,z1]
 have z3:(zpH3 a b s.heap l1 l2).objs.size=s.heap.objs.size+3:=by rw [Heap.size_push,z2]
 have z4:(zpH4 a b s.heap l1 l2).objs.size=s.heap.objs.size+4:=by rw [Heap.size_push,z3]
 have z5:(cH a b s.heap l1 l2).objs.size=s.heap.objs.size+5:=by rw [Heap.size_push,z4]
 have g5:(cH a b s.heap l1 l2).get? (zpH4 a b s.heap l1 l2).objs.size=some _:=Heap.get?_push_size _ rfl;have g4:(cH a b s.heap l1 l2).get? (zpH3 a b s.heap l1 l2).objs.size=some _:=Heap.get?_push_of_some _ (Heap.get?_push_size _ rfl);have g3:(cH a b s.heap l1 l2).get? (zpH2 a b s.heap l1 l2).objs.size=some _:=Heap.get?_push_of_some _ (Heap.get?_push_of_some _ (Heap.get?_push_size _ rfl));have g2:(cH a b s.heap l1 l2).get? (zpH1 a s.heap l1).objs.size=some _:=Heap.get?_push_of_some _ (Heap.get?_push_of_some _ (Heap.get?_push_of_some _ (Heap.get?_push_size _ rfl)));have g1:(cH a b s.heap l1 l2).get? s.heap.objs.size=some _:=Heap.get?_push_of_some _ (Heap.get?_push_of_some _ (Heap.get?_push_of_some _ (Heap.get?_push_of_some _ (Heap.get?_push_size _ rfl))));show _/\_;rw [z2,z3,z4] at g5;rw [z1,z2] at g3;rw [z3] at g4;rw [z1] at g2;rw [z4];refine ⟨⟨_,g5,rfl⟩,h _ g5 g3 g4 ⟨_,g1,rfl,rfl⟩ ⟨_,g2,rfl,rfl⟩ z5 fun c o x=>?_⟩
 iterate 5 refine Heap.get?_push_of_some _ ?_
 exact x
end
end PySem
namespace PySem
open Sem (wp)
section
variable {prog : Program} {w : World} {s : Shared} {A : Around} {E : Value → Shared → Prop}
theorem qZ {M:Model} {a:Addr} {Q:Option Obj->Shared->Prop} (h:Q (s.heap.get? a) s):wpAny M A (loadIfAlive a) Q E s:=fun Γ p hΓ=>by
 unfold loadIfAlive;rw [Sem.wp_loadIfAlive];exact wpAny_pure h Γ p hΓ
abbrev zbt (z:Addr):Sem Fin:=Builtin.«zip.__next__» ⟨[.ref z],[]⟩
abbrev zfg (Q:Value->Shared->Prop) (f:Fin) (s:Shared):Prop:=∃ v,f=.done (.ret v)/\Q v s
abbrev But4 (z TO i1 i2:Addr) (h h':Heap):Prop:=∀ c o,c≠z->c≠TO->c≠i1->c≠i2->h.get? c=some o->h'.get? c=some o
abbrev zdt (h:Heap) (e:Addr):Prop:=∃ o,h.get? e=some o/\o.cls=.type "StopIteration"
def Stp (p:Prop):Prop:=p
theorem xM {M:Model} {v:Value} {Q:Value->Shared->Prop} (h:Stp (wpAny M A (Builtin.SmallTypes.nextOf v) Q E s)):wpAny M A (Builtin.SmallTypes.nextOf v) Q E s:=h
theorem dR {z TI TO:Addr} {f0 f1:Value} {Q:Bool->Shared->Prop} (hz:fY s.heap z TI TO f0 f1) (hfr:f0=.none\/∃ T:Addr,f0=rawInt T/\s.heap.get? T=none) (h:Q true s) :
  wpAny (model prog w) A (Builtin.SmallTypes.ownedTupleIsFree (.ref z)) Q E s:=by
 obtain ⟨hp,ge,dr,tk,os⟩:=s;obtain rfl|⟨T,rfl,d⟩:=hfr<;>wp_walk using qZ<;>exact h
theorem dS {z TI TO T:Addr} {f1:Value} {o:Obj} {Q:Bool->Shared->Prop} (hz:fY s.heap z TI TO (rawInt T) f1) (hf:f1=.bool false\/f1=.bool true) (hT:s.heap.get? T=some o)
  (h:∀ h',fY h' z TI TO (rawInt T) (.bool true)->Heap.SameBut z s.heap h'->Q false { s with heap:=h' }) :
  wpAny (model prog w) A (Builtin.SmallTypes.ownedTupleIsFree (.ref z)) Q E s:=by
 obtain ⟨hp,ge,dr,tk,os⟩:=s;obtain rfl|rfl:=hf<;>wp_walk using qZ
 .exact h _ (Heap.get?_update_self _ hz rfl) (.update ..)
 .exact h _ hz (.refl ..)
theorem zdx {a b:Bool} {z TI TO i1 i2 l1 l2:Addr} {k1 k2:Nat} {xs ys:Array Value} {x y u v f0 f1:Value} {Q:Value->Shared->Prop} (D:ZipApart z TI TO i1 i2 l1 l2)
  (hfr:f0=.none\/∃ T:Addr,f0=rawInt T/\s.heap.get? T=none) (hz:fY s.heap z TI TO f0 f1) (hTI:IsPair s.heap TI (.ref i1) (.ref i2)) (hTO:IsPair s.heap TO u v)
  (h1:vQ a s.heap i1 l1 k1) (h2i:vQ b s.heap i2 l2 k2) (hl1:uV a s.heap l1 xs) (hl2:uV b s.heap l2 ys) (hx:xs[k1]?=some x) (hy:ys[k2]?=some y)
  (hQ:∀ h',fY h' z TI TO (rawInt s.heap.objs.size) (.bool false)->IsPair h' TO x y->vQ a h' i1 l1 (k1+1)->vQ b h' i2 l2 (k2+1)->IsPair h' s.heap.objs.size x y->h'.objs.size=s.heap.objs.size+1 ->
   But4 z TO i1 i2 s.heap h'->Q (.ref s.heap.objs.size) { s with heap:=h' }) :
  wpAny (model prog w) A (zbt z) (zfg Q) E s:=by
 wp_walk using xM,dR hz hfr,wpAny_onRaise
 have b1:=(Heap.SameBut.update (h:=s.heap) (a:=z) (f:=Obj.mapFields fun x=>x.setIfInBounds 0 .ellipsis)).extBut;refine wH (h1.eb b1 D.i1z) (hl1.eb b1 D.l1z) hx fun h2 q1 k2=>?_;have t2:IsPair h2 TO u v:=k2.extBut _ _ D.TOi1 (b1 _ _ D.TOz hTO);have z2:fY h2 z TI TO .ellipsis f1:=k2.extBut _ _ D.i1z.symm (Heap.get?_update_self _ hz rfl)
 wp_walk using xM,wpAny_onRaise
 have b3:=(Heap.SameBut.update h2 TO (Obj.mapSeq fun e=>e.setIfInBounds 0 x)).extBut;have c3:∀ c o,c≠z->c≠TO->c≠i1->s.heap.get? c=some o->(h2.update TO (Obj.mapSeq fun e=>e.setIfInBounds 0 x)).get? c=some o:=fun c o n1 n2 n3 e=>b3 _ _ n2 (k2.extBut _ _ n3 (b1 _ _ n1 e));refine wH (h2i.at fun o e=>c3 _ o D.i2z D.TOi2.symm D.i12.symm e) (hl2.at fun o e=>c3 _ o D.l2z D.l2TO D.l2i1 e) hy fun h4 q2 k4=>?_;have t4:IsPair h4 TO x v:=k4.extBut _ _ D.TOi2 (Heap.get?_update_self _ t2 rfl);have z4:fY h4 z TI TO .ellipsis f1:=k4.extBut _ _ D.i2z.symm (b3 _ _ D.TOz.symm z2);have n1:=D.TOz
 wp_walk
 have b5:=(Heap.SameBut.update h4 TO (Obj.mapSeq fun e=>e.setIfInBounds (0+1) y)).extBut;have t5:IsPair (h4.update TO (Obj.mapSeq fun e=>e.setIfInBounds (0+1) y)) TO x y:=Heap.get?_update_self _ t4 rfl;have z5:=b5 _ _ n1.symm z4;have m5:(h4.update TO (Obj.mapSeq fun e=>e.setIfInBounds (0+1) y)).objs.size=s.heap.objs.size:=by rw [Heap.size_after_update,k4.1,Heap.size_after_update,k2.1,Heap.size_after_update]
 have c5:∀ c o,c≠z->c≠TO->c≠i1->c≠i2->s.heap.get? c=some o->(h4.update TO (Obj.mapSeq fun e=>e.setIfInBounds (0+1) y)).get? c=some o:=fun c o n1 n2 n3 n4 e=>b5 _ _ n2 (k4.extBut _ _ n4 (c3 _ _ n1 n2 n3 e));have q15:=((q1.eb b3 D.TOi1.symm).eb k4.extBut D.i12).eb b5 D.TOi1.symm;have q25:=q2.eb b5 D.TOi2.symm;generalize h4.update TO (Obj.mapSeq fun e=>e.setIfInBounds (0+1) y)=h5 at *;rw [m5]
 have b6:∀ c o,c≠z->h5.get? c=some o->(((h5.push { cls:=.type "tuple", data:=.seq #[x,y] }).update z (Obj.mapFields fun e=>e.setIfInBounds 0 (rawInt s.heap.objs.size))).update z (Obj.mapFields fun e=>e.setIfInBounds 1 (.bool false))).get? c=some o :=
  fun c o n e=>(Heap.SameBut.update ..).extBut _ _ n ((Heap.SameBut.update ..).extBut _ _ n (Heap.get?_push_of_some _ e))
 refine ⟨_,rfl,hQ _ (Heap.get?_update_self _ (Heap.get?_update_self _ (Heap.get?_push_of_some _ z5) rfl) rfl) (b6 _ _ n1 t5) (q15.at fun o e=>b6 _ o D.i1z e) (q25.at fun o e=>b6 _ o D.i2z e) ?_ ?_ fun c o n1 n2 n3 n4 e=>b6 c o n1 (c5 c o n1 n2 n3 n4 e)⟩
 .have:=Heap.lt_size z5;rw [m5] at this;refine (Heap.SameBut.update ..).extBut _ _ (Nat.ne_of_gt this) ((Heap.SameBut.update ..).extBut _ _ (Nat.ne_of_gt this) ?_);exact m5▸Heap.get?_push_size _ rfl
 .rw [Heap.size_after_update,Heap.size_after_update,Heap.size_push,m5]
theorem zdw {a b:Bool} {z TI TO i1 i2 l1 l2 T:Addr} {k1 k2:Nat} {xs ys:Array Value} {x y u v f1:Value} {oT:Obj} {Q:Value->Shared->Prop} (D:ZipApart z TI TO i1 i2 l1 l2) (hf:f1=.bool false\/f1=.bool true)
  (hz:fY s.heap z TI TO (rawInt T) f1) (hT:s.heap.get? T=some oT) (hTI:IsPair s.heap TI (.ref i1) (.ref i2)) (hTO:IsPair s.heap TO u v)
  (h1:vQ a s.heap i1 l1 k1) (h2i:vQ b s.heap i2 l2 k2) (hl1:uV a s.heap l1 xs) (hl2:uV b s.heap l2 ys) (hx:xs[k1]?=some x) (hy:ys[k2]?=some y)
  (hQ:∀ h',fY h' z TI TO (rawInt T) (.bool true)->vQ a h' i1 l1 (k1+1)->vQ b h' i2 l2 (k2+1)->IsPair h' s.heap.objs.size x y->h'.objs.size=s.heap.objs.size+1 ->
   (∀ c o,c≠z->c≠i1->c≠i2->s.heap.get? c=some o->h'.get? c=some o)->Q (.ref s.heap.objs.size) { s with heap:=h' }) :
  wpAny (model prog w) A (zbt z) (zfg Q) E s:=by
 wp_walk using xM,dS hz hf hT
 intro g z1 j1
 wp_walk using xM
 refine wH (h1.eb j1.extBut D.i1z) (hl1.eb j1.extBut D.l1z) hx fun h2 q1 k2=>?_
 wp_walk using xM
 have c2:∀ c o,c≠z->c≠i1->s.heap.get? c=some o->h2.get? c=some o:=fun c o n1 n2 e=>k2.extBut _ _ n2 (j1.extBut _ _ n1 e);refine wH (h2i.at fun o e=>c2 _ o D.i2z D.i12.symm e) (hl2.at fun o e=>c2 _ o D.l2z D.l2i1 e) hy fun h3 q2 k3=>?_
 wp_walk
 have m:h3.objs.size=s.heap.objs.size:=by rw [k3.1,k2.1,j1.1]
 have p:∀ c o,h3.get? c=some o->(h3.push { cls:=.type "tuple", data:=.seq #[x,y] }).get? c=some o:=fun c o e=>Heap.get?_push_of_some _ e;rw [m];refine ⟨_,rfl,hQ _ (p _ _ (k3.extBut _ _ D.i2z.symm (k2.extBut _ _ D.i1z.symm z1))) ((q1.eb k3.extBut D.i12).at (p _)) (q2.at (p _)) ?_ ?_ fun c o n1 n2 n3 e=>p _ _ (k3.extBut _ _ n3 (c2 _ _ n1 n2 e))⟩
 .exact m▸Heap.get?_push_size _ rfl
 .rw [Heap.size_push,m]
theorem uG {a b:Bool} {z TI TO i1 i2 l1 l2:Addr} {k1 k2:Nat} {xs ys:Array Value} {u v f0 f1:Value} {Q:Fin->Shared->Prop} (hh:A.handled=none) (D:ZipApart z TI TO i1 i2 l1 l2)
  (hfr:f0=.none\/∃ T:Addr,f0=rawInt T/\s.heap.get? T=none) (hz:fY s.heap z TI TO f0 f1) (hTI:IsPair s.heap TI (.ref i1) (.ref i2)) (hTO:IsPair s.heap TO u v)
  (h1:vQ a s.heap i1 l1 k1) (h2i:vQ b s.heap i2 l2 k2) (hl1:uV a s.heap l1 xs) (hl2:uV b s.heap l2 ys) (hend:xs[k1]?=none\/ys[k2]?=none)
  (hE:∀ h' e,But4 z TO i1 i2 s.heap h'->zdt h' e->E (.ref e) { s with heap:=h' }) :
  wpAny (model prog w) A (zbt z) Q E s:=by
 wp_walk using xM,dR hz hfr,wpAny_onRaise
 have b1:=(Heap.SameBut.update (h:=s.heap) (a:=z) (f:=Obj.mapFields fun x=>x.setIfInBounds 0 .ellipsis)).extBut;have z1:fY (s.heap.update z (Obj.mapFields fun x=>x.setIfInBounds 0 .ellipsis)) z TI TO .ellipsis f1:=Heap.get?_update_self _ hz rfl
 have fin:∀ (g:Heap) e,fY g z TI TO .ellipsis f1->(∃ o,g.get? e=some o/\o.cls=.type "StopIteration") ->
   ∃ o,(g.update z (Obj.mapFields fun x=>x.setIfInBounds 0 .none)).get? e=some o/\o.cls=.type "StopIteration" := by
  rintro g e zg ⟨o,he,ce⟩;refine ⟨o,(Heap.SameBut.update ..).extBut _ _ ?_ he,ce⟩;rintro rfl;cases he.symm.trans zg;simp at ce
 cases hx:xs[k1]? with
 |none =>
  refine vO hh (h1.eb b1 D.i1z) (hl1.eb b1 D.l1z) hx fun g e k he=>?_;have zg:fY g z TI TO .ellipsis f1:=k _ _ D.i1z.symm z1
  wp_walk
  exact hE _ e (fun c o n1 _ n3 _ q=>(Heap.SameBut.update ..).extBut _ _ n1 (k _ _ n3 (b1 _ _ n1 q))) (fin _ _ zg he)
 |some x =>
  have hy:=hend.resolve_left (by rw [hx];exact Option.some_ne_none x);refine wH (h1.eb b1 D.i1z) (hl1.eb b1 D.l1z) hx fun h2 q1 k2=>?_;have t2:IsPair h2 TO u v:=k2.extBut _ _ D.TOi1 (b1 _ _ D.TOz hTO);have z2:fY h2 z TI TO .ellipsis f1:=k2.extBut _ _ D.i1z.symm z1
  wp_walk using xM,wpAny_onRaise
  have b3:=(Heap.SameBut.update h2 TO (Obj.mapSeq fun e=>e.setIfInBounds 0 x)).extBut;have c3:∀ c o,c≠z->c≠TO->c≠i1->s.heap.get? c=some o->(h2.update TO (Obj.mapSeq fun e=>e.setIfInBounds 0 x)).get? c=some o:=fun c o n1 n2 n3 e=>b3 _ _ n2 (k2.extBut _ _ n3 (b1 _ _ n1 e));refine vO hh (h2i.at fun o e=>c3 _ o D.i2z D.TOi2.symm D.i12.symm e) (hl2.at fun o e=>c3 _ o D.l2z D.l2TO D.l2i1 e) hy fun g e k he=>?_;have zg:fY g z TI TO .ellipsis f1:=k _ _ D.i2z.symm (b3 _ _ D.TOz.symm z2)
  wp_walk
  exact hE _ e (fun c o n1 n2 n3 n4 q=>(Heap.SameBut.update ..).extBut _ _ n1 (k _ _ n4 (c3 _ _ n1 n2 n3 q))) (fin _ _ zg he)
theorem fX {a b:Bool} {z TI TO i1 i2 l1 l2 T:Addr} {k1 k2:Nat} {xs ys:Array Value} {u v f1:Value} {oT:Obj} {Q:Fin->Shared->Prop} (hh:A.handled=none) (D:ZipApart z TI TO i1 i2 l1 l2) (hf:f1=.bool false\/f1=.bool true)
  (hz:fY s.heap z TI TO (rawInt T) f1) (hT:s.heap.get? T=some oT) (hTI:IsPair s.heap TI (.ref i1) (.ref i2)) (hTO:IsPair s.heap TO u v)
  (h1:vQ a s.heap i1 l1 k1) (h2i:vQ b s.heap i2 l2 k2) (hl1:uV a s.heap l1 xs) (hl2:uV b s.heap l2 ys) (hend:xs[k1]?=none\/ys[k2]?=none)
  (hE:∀ h' e,But4 z TO i1 i2 s.heap h'->zdt h' e->E (.ref e) { s with heap:=h' }) :
  wpAny (model prog w) A (zbt z) Q E s:=by
 wp_walk using xM,dS hz hf hT
 intro g z1 j1
 wp_walk using xM
 cases hx:xs[k1]? with
 |none =>
  refine vO hh (h1.eb j1.extBut D.i1z) (hl1.eb j1.extBut D.l1z) hx fun g' e k he=>?_;exact hE _ e (fun c o n1 _ n3 _ q=>k _ _ n3 (j1.extBut _ _ n1 q)) he
 |some x =>
  have hy:=hend.resolve_left (by rw [hx];exact Option.some_ne_none x);refine wH (h1.eb j1.extBut D.i1z) (hl1.eb j1.extBut D.l1z) hx fun h2 q1 k2=>?_
  wp_walk using xM
  have c2:∀ c o,c≠z->c≠i1->s.heap.get? c=some o->h2.get? c=some o:=fun c o n1 n2 e=>k2.extBut _ _ n2 (j1.extBut _ _ n1 e);refine vO hh (h2i.at fun o e=>c2 _ o D.i2z D.i12.symm e) (hl2.at fun o e=>c2 _ o D.l2z D.l2i1 e) hy fun g' e k he=>?_;exact hE _ e (fun c o n1 _ n3 n4 q=>k _ _ n4 (c2 _ _ n1 n3 q)) he
end
end PySem
namespace L2
open PySem PySem.Spec PyProof.Rows
structure TurnL (P:Program) (w:World) (K:PySem.W.Frag) (T:String) (J:It) (fp:List Addr) (it:Addr) (tn:Nat->Heap->Prop):Prop where
 mem:it∈fp
 ty:∀ i h,tn i h->∃ o,h.get? it=some o/\o.cls=.type T
 obj:∀ i h,tn i h->∀ b∈fp,∃ o,h.get? b=some o/\∀ v,o.data≠.cell v
 keep:∀ i h h',tn i h->(∀ b∈fp,∀ o,h.get? b=some o->h'.get? b=some o)->tn i h'
 item:∀ (X:Cx),X.prog=P->X.w=w->X.K=K->X.calm=true->∀ (i:Nat) (pins:List (Addr×Obj)) (s:Shared) (σ:St) (H:Hp) (E:Value->Shared->Prop),Inv X pins σ H s->(∀ b∈fp,jK X pins H b)->tn i s.heap->J.go i H ->
  wpAny (model P w) X.A (pyNext (.ref it)) (fun r s2=>∃ u x H',r=some u/\Inv X pins σ H' s2/\zR x u/\J.yld i H x H'/\tn (i+1) s2.heap/\∀ b∈fp,H' b=none) E s
 done:∀ (X:Cx),X.prog=P->X.w=w->X.K=K->X.calm=true->∀ (i:Nat) (pins:List (Addr×Obj)) (s:Shared) (σ:St) (H:Hp) (E:Value->Shared->Prop),Inv X pins σ H s->(∀ b∈fp,jK X pins H b)->tn i s.heap->J.stop i H ->
  wpAny (model P w) X.A (pyNext (.ref it)) (fun r s1=>r=none/\Inv X pins σ H s1) E s
 self:∀ (A:Around) (i:Nat) (s:Shared) (Q:Value->Shared->Prop) (E:Value->Shared->Prop),tn i s.heap->Q (.ref it) s->wpAny (model P w) A (pyIter (.ref it)) Q E s
 hint:∀ (A:Around) (i:Nat) (s:Shared) (Q:Bool->Shared->Prop) (E:Value->Shared->Prop),tn i s.heap->(∀ b,Q b s)->wpAny (model P w) A (Builtin.List.listLengthHint (.ref it)) Q E s
abbrev Cx.atA (X:Cx) (A:Around):Cx:={ X with A:=A }
theorem Cx.Ok.atA {X:Cx} (ok:X.Ok) {A:Around} (hf:A.frames=X.A.frames) (hh:A.handled=X.A.handled):(X.atA A).Ok :=
 ⟨ok.mod,ok.kind,ok.glob,ok.blt,ok.above,ok.inj,ok.has,ok.cab,fun z=>hh.trans (ok.hd z),hf.trans ok.frames,ok.stk,ok.exf,ok.bs,ok.bsz,ok.noex,ok.exfs,ok.funs,ok.frf⟩
section
variable {X : Cx} {pins : List (Addr × Obj)} {σ : St} {H : Hp} {s : Shared}
theorem Inv.atA (I:Inv X pins σ H s) {A:Around} (hf:A.frames=X.A.frames) (hh:A.handled=X.A.handled):Inv (X.atA A) pins σ H s :=
 ⟨I.ok.atA hf hh,I.os,I.bare,I.base,I.loc,I.cell,I.free,I.freeC,I.pin,I.hok,I.len,I.tk⟩
theorem Inv.unA {A:Around} (hf:A.frames=X.A.frames) (hh:A.handled=X.A.handled) (I:Inv (X.atA A) pins σ H s):Inv X pins σ H s :=
 ⟨Cx.Ok.atA (X:=X.atA A) (A:=X.A) I.ok hf.symm hh.symm,I.os,I.bare,I.base,I.loc,I.cell,I.free,I.freeC,I.pin,I.hok,I.len,I.tk⟩
theorem zcF {P:Program} {w:World} {A:Around} {R:Result->Shared->Prop} (S I:Addr) (res:Value) (Jn:Nat->Shared->Prop)
  (step:∀ k s,Jn k s->wpAny (model P w) A.in1 (pyNext (.ref I)) (fun r s'=>match r with
   |none=>R (.ok (.ret res)) s'
   |some v=>∃ its c,s'.heap.get? S=some (jA its c)/\its.length<sizeLine/\∀ h',Heap.SameBut S s'.heap h'->h'.get? S=some (jA (its++[v]) (c+1))->∃ k',k' < k/\Jn k' { s' with heap:=h' }) (fun e s'=>R (.error e) s') s) :
  ∀ k s,Jn k s->codeAny (model P w) A (.builtin "list.extend.loop" ⟨[.ref S,.ref I,res],[]⟩) R s:=by
 intro k
 induction k using Nat.strongRecOn with
 |_ k ih =>
  intro s j;refine codeAny_builtin F.entry_extend_loop ?_;rw [Around.under_plainId F.plain_extend_loop _];show wpAny _ A.in1 (pyNext (.ref I) >>= _) _ _ s;refine wpAny_bind (yU (step k s j) fun r s' q=>?_)
  cases r with
  |none=>exact wpAny_pure q
  |some v =>
   obtain ⟨its,c,hS,hl,q⟩:=q;show wpAny _ A.in1 (updateSeq S (·.push v) >>= _) _ _ _;refine wpAny_bind ?_;obtain ⟨k',hk,j'⟩:=q _ (Heap.SameBut.update ..) (by exact (Heap.get?_update_self (Obj.mapSeq (·.push v)) hS rfl).trans (by simp [Obj.mapSeq,jA]));exact wpAny_updateSeq hS rfl (wpAny_pure ⟨plainId_quiet F.plain_extend_loop _,ih k' hk _ j'⟩) (by show its.toArray.size<=sizeLine;rw [zzS];omega) (by show (its.toArray.push v).size<=sizeLine+1;rw [Array.size_push,zzS];omega)
theorem Inv.adopt {a:Addr} {o:HO} (I:Inv X pins σ H s) (off:Off X pins a) (hn:H a=none) (new:yK X.prog X.w (yN H a o) s.heap a o):Inv X pins σ (yN H a o) s:=by
 have b:=I.base;have nb:∀ b' ob,X.s₀.heap.get? b'=some ob->b'≠a:=fun b' ob e=>Nat.ne_of_lt (Nat.lt_of_lt_of_le (Heap.lt_size e) off.ge);refine ⟨I.ok,I.os,I.bare,⟨b.keep,b.slot,fun c ob e n hx=>?_,b.there,fun c xs e=>?_,fun c ob u e=>?_,fun c ps e=>?_⟩,I.loc,I.cell,?_,fun x c e=>?_,fun p hp=>?_,I.hok.adopt (fun c u v _ q=>q) hn new,I.len,I.tk⟩
 .rw [zU (nb c ob e)];exact b.free c ob e n hx
 .rw [zU (zH (b.tups c xs e) hn)];exact b.tups c xs e
 .rw [zU (zH (b.frzs c ob u e) hn)];exact b.frzs c ob u e
 .obtain ⟨mo,e'⟩:=b.tbls c ps e;exact ⟨mo,by rw [zU (zH e' hn)];exact e'⟩
 .rw [zU off.ne.symm];exact I.free
 .rw [zU (off.cl x c e)];exact I.freeC x c e
 .obtain ⟨q1,q2,q3⟩:=I.pin p hp;exact ⟨q1,by rw [zU (off.pn p hp)];exact q2,q3⟩
theorem zaK (hc:X.calm=true) {T:String} {J:It} {fp:List Addr} {it:Addr} {tn:Nat->Heap->Prop} {Q:VK} (hTl:(Value.type T==Value.type "list")=false) (hTt:(Value.type T==Value.type "tuple")=false)
  (I:Inv X pins σ H s) (Tn:TurnL X.prog X.w X.K T J fp it tn) (t0:tn 0 s.heap) (hf:∀ b∈fp,jK X pins H b) (n:Nat) (hn:n<=sizeLine) (W:Nat->List V->Hp->Prop) (w0:W 0 [] H)
  (wgo:∀ i acc H,i<n->W i acc H->J.go i H/\∀ x H',J.yld i H x H'->W (i+1) (acc++[x]) H') (wst:∀ acc H,W n acc H->J.stop n H/\∀ p,H p=none->Q (.ref p) (yN H p (.lst acc))) :
  wpAny (model X.prog X.w) X.A (call (.type "list") [.ref it]) (EP X pins σ Q) X.xe s:=by
 have hfp:∀ b∈fp,b<s.heap.objs.size:=fun b hb=>by
  obtain ⟨o,e,_⟩:=Tn.obj _ _ t0 b hb;exact Heap.lt_size e
 have hSf:∀ b∈fp,b≠s.heap.objs.size:=fun b hb=>Nat.ne_of_lt (hfp b hb);have hSI:s.heap.objs.size≠it:=(hSf it Tn.mem).symm;have off:Off X pins s.heap.objs.size:=I.off (zzR _);have nfs:s.heap.objs.size∉X.fs:=I.nofs (zzR _);have fr0:∀ b∈fp,H b=none:=fun b hb=>(hf b hb).1;have HS0:H s.heap.objs.size=none:=I.hok.fresh (zzR _)
 have fpok:∀ {H':Hp} {ob:Obj},(∀ b∈fp,H' b=none)->∀ b∈fp,jK X ((s.heap.objs.size,ob)::pins) H' b:=fun {H' ob} hn b hb=>by
  obtain ⟨q1,q2,q3,q4,q5,q6⟩:=hf b hb;refine ⟨hn b hb,q2,q3,q4,q5,fun p hp=>?_⟩;rcases List.mem_append.mp hp with hp|hp
  .exact q6 p (List.mem_append_left _ hp)
  .rcases List.mem_cons.mp hp with rfl|hp
   .exact (hSf b hb).symm
   .exact q6 p (List.mem_append_right _ hp)
 have pinS:∀ {H':Hp} {s':Shared} {its:List Value} {c:Nat},Inv X pins σ H' s'->H' s.heap.objs.size=none->s'.heap.get? s.heap.objs.size=some (jA its c)->Inv X ((s.heap.objs.size,jA its c)::pins) σ H' s':=fun {H' s' its c} I' hn e =>
  I'.pins_of fun p hp=>by
   rcases List.mem_cons.mp hp with rfl|hp
   .exact ⟨e,hn,off.ne,nfs,fun v z=>nomatch z⟩
   .exact I'.pin p (List.mem_append_right _ hp)
 have unpin:∀ {H':Hp} {s':Shared} {ob:Obj},Inv X ((s.heap.objs.size,ob)::pins) σ H' s'->Inv X pins σ H' s':=fun {H' s' ob} I'=>I'.pins_of fun p hp=>I'.pin p (List.mem_append_right _ (List.mem_cons_of_mem _ hp))
 refine callType_codes (Q₁:=fun obj s₁=>obj=.ref s.heap.objs.size/\s₁={ s with heap:=s.heap.push { cls:=.type "list", data:=.seq #[] } }) F.called_list (F.typeCall_list_1 _) F.entry_list_init
  (code_list_new _ ⟨rfl,rfl⟩) fun obj s₁ h₁=>?_
 obtain ⟨rfl,rfl⟩:=h₁;have hS:(s.heap.push { cls:=.type "list", data:=.seq #[] }).get? s.heap.objs.size=some { cls:=.type "list", data:=.seq #[] }:=Heap.get?_push_size _ rfl;refine ⟨⟨_,hS,rfl⟩,F.args_list_init_2 _ _,?_⟩
 have loop:∀ (h':Heap) (c:Nat),h'.get? s.heap.objs.size=some (jA [] c)->(∀ b o,s.heap.get? b=some o->h'.get? b=some o) ->
   codeAny (model X.prog X.w) X.A.in1 (.builtin "list.extend.loop" ⟨[.ref s.heap.objs.size,.ref it,.none],[]⟩) (wants (fun r s₂=>r=.none/\EP X pins σ Q (.ref s.heap.objs.size) s₂) X.xe) { s with heap:=h' }:=by
  intro h' c e0 k0
  refine zcF s.heap.objs.size it .none (fun k s'=>∃ i acc H' its c,k+i=n/\Inv X pins σ H' s'/\tn i s'.heap/\(∀ b∈fp,H' b=none)/\H' s.heap.objs.size=none/\s'.heap.get? s.heap.objs.size=some (jA its c)/\zV acc its/\acc.length<=i/\W i acc H') ?_ n _
   ⟨0,[],H,[],c,by omega,I.kept (t':=s.toks) k0,Tn.keep _ _ _ t0 fun b _ o e=>k0 b o e,fr0,HS0,e0,.nil,zzR _,w0⟩
  rintro k s' ⟨i,acc,H',its,c',hk,I',st,fr,hS',oS,v,la,wi⟩;have Ip:=(pinS I' hS' oS).atA (A:=X.A.in1.in1) rfl rfl
  by_cases hi:i<n
  .obtain ⟨go,yl⟩:=wgo i acc H' hi wi;refine yU (Tn.item (X.atA X.A.in1.in1) rfl rfl rfl hc i _ s' σ H' _ Ip (fpok fr) st go) fun r s2 ⟨u,x,H2,hr,I2,r2,y2,st2,fr2⟩=>?_;subst hr;have I2':=Inv.unA (X:=X) (A:=X.A.in1.in1) rfl rfl I2;have p2:=I2'.pin (s.heap.objs.size,jA its c') (List.mem_append_right _ (zzT ..));refine ⟨its,c',p2.1,by rw [← v.length];omega,fun h'' sb e''=>⟨k-1,by omega,i+1,acc++[x],H2,its++[u],c'+1,by omega,off.turned (unpin I2') p2.2.1 sb,Tn.keep _ _ _ st2 fun b hb o e=>sb.extBut b o (hSf b hb) e,fr2,p2.2.1,e'',v.append (.cons r2 .nil),by rw [zzW];show acc.length+1<=i+1;omega,yl x H2 y2⟩⟩
  .have hin:i=n:=by omega
   subst hin;obtain ⟨jQ,fin⟩:=wst acc H' wi;refine yU (Tn.done (X.atA X.A.in1.in1) rfl rfl rfl hc i _ s' σ H' _ Ip (fpok fr) st jQ) fun r s2 ⟨hr,I2⟩=>?_;subst hr;have I2':=Inv.unA (X:=X) (A:=X.A.in1.in1) rfl rfl I2;have p2:=I2'.pin (s.heap.objs.size,jA its c') (List.mem_append_right _ (zzT ..));exact ⟨rfl,.ref s.heap.objs.size,yN H' s.heap.objs.size (.lst acc),(unpin I2').adopt off hS' ⟨by omega,its,c',v,p2.1⟩,rfl,fin _ hS'⟩
 show wpAny _ X.A.in1.in1 (do let old ← Builtin.List.listItems (.ref s.heap.objs.size);Builtin.List.listUpdate (.ref s.heap.objs.size) (fun _=>#[]);letGo old.toList.reverse;Builtin.List.listExtendWith (.ref s.heap.objs.size) (.ref it) .none) _ _ _;refine wpAny_bind ?_;unfold Builtin.List.listItems;refine wpAny_bind (wpAny_seqItems hS rfl (wpAny_pure ?_));show wpAny _ X.A.in1.in1 (updateSeq s.heap.objs.size (fun _=>#[]) >>= fun _=>letGo (#[]:Array Value).toList.reverse >>= fun _=>Builtin.List.listExtendWith (.ref s.heap.objs.size) (.ref it) .none) _ _ _;refine wpAny_bind (wpAny_updateSeq hS rfl ?_);have hS₂:=Heap.get?_update_self (Obj.mapSeq (fun _=>(#[]:Array Value))) hS rfl;generalize hh2:(s.heap.push { cls:=.type "list", data:=.seq #[] }).update s.heap.objs.size (Obj.mapSeq (fun _=>(#[]:Array Value)))=h2 at *
 have k2:∀ b o,s.heap.get? b=some o->h2.get? b=some o:=fun b o e=>by
  rw [← hh2,Heap.get?_update_other _ _ (Nat.ne_of_gt (Heap.lt_size e))];exact Heap.get?_push_of_some _ e
 have tn2:tn 0 h2:=Tn.keep _ _ _ t0 fun b _ o e=>k2 b o e;refine wpAny_bind (wpAny_letGo ?_);unfold Builtin.List.listExtendWith;obtain ⟨oI,eI,cI⟩:=Tn.ty _ _ tn2;refine wpAny_bind (wpAny_typeOf (s:={ s with heap:=h2 }) ⟨oI,eI,cI⟩ ?_);have h1:Builtin.List.listSameRef (.ref s.heap.objs.size) (.ref it)=false:=by simp [Builtin.List.listSameRef,hSI]
 rw [if_neg (by rw [h1,hTl,hTt];decide)];refine wpAny_bind (Tn.self _ 0 { s with heap:=h2 } _ _ tn2 ?_);refine wpAny_bind (wpAny_holding (Tn.hint _ 0 { s with heap:=h2 } _ _ tn2 fun room=>?_));dsimp only
 split
 .refine wpAny_bind (wpAny_rule ?_);refine wpAny_bind ?_;show wpAny _ X.A.in1.in1 (updateSeq s.heap.objs.size (·.push .none) >>= fun _=>updateSeq s.heap.objs.size (·.pop)) _ _ _;refine wpAny_bind (wpAny_updateSeq hS₂ rfl ?_);have hS₃:=Heap.get?_update_self (Obj.mapSeq (·.push Value.none)) hS₂ rfl;refine wpAny_updateSeq (hz:=by seq_fits) hS₃ rfl ?_;have hS₄:=Heap.get?_update_self (Obj.mapSeq (·.pop)) hS₃ rfl;refine wpAny_pure ⟨plainId_quiet F.plain_extend_loop _,loop _ _ hS₄ fun b o e=>?_⟩;rw [Heap.get?_update_other _ _ (Nat.ne_of_gt (Heap.lt_size e)),Heap.get?_update_other _ _ (Nat.ne_of_gt (Heap.lt_size e))];exact k2 b o e
 .exact wpAny_pure ⟨plainId_quiet F.plain_extend_loop _,loop _ _ hS₂ k2⟩
end
end L2
namespace L2
open PySem PySem.Spec PyProof.Rows
def tF (b:Bool) (K:PySem.W.Frag) (H:Hp) (a:Addr) (xs:List V):Prop:=match b with
 |true=>uW K H a xs
 |false=>tW K H a xs
theorem Inv.sqB {X:Cx} {pins:List (Addr×Obj)} {σ:St} {H:Hp} {s:Shared} {b:Bool} {a:Addr} {xs:List V} (I:Inv X pins σ H s) (h:tF b X.K H a xs):∃ its:List Value,zV xs its/\uV b s.heap a its.toArray/\xs.length<=sizeLine:=by
 cases b
 .obtain ⟨its,r,p,hz⟩:=I.list h;exact ⟨its,r,p.isList,hz⟩
 .obtain ⟨its,r,p,hz⟩:=I.tuple h;exact ⟨its,r,p,hz⟩
theorem Inv.sqB_inj {X:Cx} {pins:List (Addr×Obj)} {σ:St} {H:Hp} {s:Shared} {b:Bool} {a:Addr} {xs ys:List V} (I:Inv X pins σ H s) (h:tF b X.K H a xs) (h':tF b X.K H a ys):xs=ys:=by
 cases b
 .exact I.list_inj h h'
 .exact I.tuple_inj h h'
theorem Inv.turns {X:Cx} {pins:List (Addr×Obj)} {σ:St} {H:Hp} {s:Shared} {h':Heap} {t':Nat} {fp:List Addr} (I:Inv X pins σ H s) (hf:∀ b∈fp,jK X pins H b) (k:∀ b o,b∉fp->s.heap.get? b=some o->h'.get? b=some o) (ht:0<t':=by first|exact Nat.succ_pos _|exact L2.Inv.tk (by assumption)|exact L2.Inv.tk ‹L2.Inv _ _ _ _ _› | assumption|omega):Inv X pins σ H { s with heap:=h',toks:=t' }:=by
 have nit:∀ b u,H b=some u->b∉fp:=fun b u e z=>by rw [(hf b z).1] at e;cases e
 refine I.step (g':=s.gens) (d':=s.drawn) (ch:=fp) (fun b hb=>?_) (fun b o _ _ hc e _=>k b o hc e) (fun b o _ _ hc e _=>⟨o.slots,k b o hc e⟩) (fun _ _ _ _ n=>n)
  (fun b o hc e=>⟨o,k b o hc e⟩) (fun _ _ e=>e) (fun _ _ _ e=>e) (fun b ps e=>⟨#[],by rw [e];simp⟩) (fun m hm=>?_) (fun b u e=>?_) I.bare
 .obtain ⟨_,q2,q3,q4,q5,q6⟩:=hf b hb;exact ⟨q4,q2,q5,q6⟩
 .obtain ⟨o,es,ep,ho,r⟩:=hm;exact ⟨o,es,ep,k _ o (fun z=>(hf _ z).2.1 rfl) ho,r⟩
 .refine (I.hok b u e).stay (fun c v hc q=>k c v ?_ q) (fun _ q=>q) fun _ _ q=>q;rcases hc with z|z
  .rw [z];exact nit b u e
  .exact nit c _ z
def Itz (a b:Bool) (K:PySem.W.Frag) (l1 l2:Addr):It where
 go:=fun i H=>∃ xs ys x y,tF a K H l1 xs/\tF b K H l2 ys/\xs[i]?=some x/\ys[i]?=some y
 yld:=fun i H v H'=>∃ p x y,v=.ref p/\H p=none/\H'=yN H p (.tup [x,y])/\(∀ xs,tF a K H l1 xs->xs[i]?=some x)/\∀ ys,tF b K H l2 ys->ys[i]?=some y
 stop:=fun i H=>∃ xs ys,tF a K H l1 xs/\tF b K H l2 ys/\(xs[i]?=none\/ys[i]?=none)
def qM (a b:Bool) (z TI TO i1 i2 l1 l2:Addr) (i:Nat) (h:Heap):Prop :=
 ∃ f0 f1,fY h z TI TO f0 f1/\(f0=.none\/∃ T:Addr,f0=rawInt T)/\(f1=.bool false\/f1=.bool true)/\IsPair h TI (.ref i1) (.ref i2)/\(∃ u v,IsPair h TO u v)/\vQ a h i1 l1 i/\vQ b h i2 l2 i
section
variable {a b : Bool} {z TI TO i1 i2 l1 l2 : Addr}
theorem qM.obj {i:Nat} {h:Heap} (x:qM a b z TI TO i1 i2 l1 l2 i h):∀ c∈[z,TI,TO,i1,i2],∃ o,h.get? c=some o/\∀ v,o.data≠.cell v:=by
 obtain ⟨f0,f1,hz,_,_,hTI,⟨u,v,hTO⟩,⟨o1,e1,_,d1⟩,⟨o2,e2,_,d2⟩⟩:=x;intro c hc;simp only [List.mem_cons,List.not_mem_nil,or_false] at hc;rcases hc with rfl|rfl|rfl|rfl|rfl
 .exact ⟨_,hz,fun v z=>nomatch z⟩
 .exact ⟨_,hTI,fun v z=>nomatch z⟩
 .exact ⟨_,hTO,fun v z=>nomatch z⟩
 .exact ⟨_,e1,fun v z=>by rw [d1] at z;cases z⟩
 .exact ⟨_,e2,fun v z=>by rw [d2] at z;cases z⟩
theorem qM.keep {i:Nat} {h h':Heap} (x:qM a b z TI TO i1 i2 l1 l2 i h) (k:∀ c∈[z,TI,TO,i1,i2],∀ o,h.get? c=some o->h'.get? c=some o):qM a b z TI TO i1 i2 l1 l2 i h':=by
 obtain ⟨f0,f1,hz,h0,h1,hTI,⟨u,v,hTO⟩,s1,s2⟩:=x;exact ⟨f0,f1,k z (by simp) _ hz,h0,h1,k TI (by simp) _ hTI,⟨u,v,k TO (by simp) _ hTO⟩,s1.at fun o e=>k i1 (by simp) o e,s2.at fun o e=>k i2 (by simp) o e⟩
variable {X : Cx} {pins : List (Addr × Obj)} {σ : St} {H : Hp} {s : Shared}
theorem fW (hd:[z,TI,TO,i1,i2].Nodup) (hf:∀ c∈[z,TI,TO,i1,i2],jK X pins H c) {xs ys:List V} (I:Inv X pins σ H s) (h1:tF a X.K H l1 xs) (h2:tF b X.K H l2 ys)
  (n1:l1∉[z,TI,TO,i1,i2]) (n2:l2∉[z,TI,TO,i1,i2]):ZipApart z TI TO i1 i2 l1 l2:=by
 simp only [List.nodup_cons,List.mem_cons,List.not_mem_nil,or_false,not_or,List.nodup_nil,not_false_eq_true,and_true] at hd n1 n2;obtain ⟨⟨a1,a2,a3,a4⟩,⟨b1,b2,b3⟩,⟨c1,c2⟩,d1⟩:=hd;obtain ⟨m1,m2,m3,m4,m5⟩:=n1;obtain ⟨k1,k2,k3,k4,k5⟩:=n2;exact ⟨Ne.symm a1,Ne.symm a2,Ne.symm a3,Ne.symm a4,b1,b2,b3,c1,c2,d1,m1,m3,m4,m5,k1,k3,k4,k5⟩
theorem zdv {E:Value->Shared->Prop} (hh:X.A.handled=none) (hd:[z,TI,TO,i1,i2].Nodup) (n1:l1∉[z,TI,TO,i1,i2]) (n2:l2∉[z,TI,TO,i1,i2]) {i:Nat} (I:Inv X pins σ H s) (hf:∀ c∈[z,TI,TO,i1,i2],jK X pins H c)
  (st:qM a b z TI TO i1 i2 l1 l2 i s.heap) (go:(Itz a b X.K l1 l2).go i H) :
  wpAny (model X.prog X.w) X.A (pyNext (.ref z)) (fun r s2=>∃ u x H',r=some u/\Inv X pins σ H' s2/\zR x u/\(Itz a b X.K l1 l2).yld i H x H'/\qM a b z TI TO i1 i2 l1 l2 (i+1) s2.heap/\(∃ T:Addr,u=.ref T/\T∉[z,TI,TO,i1,i2])/\∀ c∈[z,TI,TO,i1,i2],H' c=none) E s:=by
 obtain ⟨xs,ys,x,y,q1,q2,ex,ey⟩:=go;have D:=fW hd hf I q1 q2 n1 n2;obtain ⟨itx,vx,sx,_⟩:=I.sqB q1;obtain ⟨ity,vy,sy,_⟩:=I.sqB q2;obtain ⟨ux,eux,rx⟩:=vx.get ex;obtain ⟨uy,euy,ry⟩:=vy.get ey;have hx:itx.toArray[i]?=some ux:=by simpa using eux
 have hy:ity.toArray[i]?=some uy:=by simpa using euy
 obtain ⟨f0,f1,hz,h0,h1,hTI,⟨u,v,hTO⟩,s1,s2⟩:=id st;have hT:s.TypeIs (.ref z) "zip" := ⟨_,hz,rfl⟩
 have lt:∀ c∈[z,TI,TO,i1,i2],c<s.heap.objs.size:=fun c hc=>by
  obtain ⟨o,e,_⟩:=st.obj c hc;exact Heap.lt_size e
 have new:s.heap.objs.size∉[z,TI,TO,i1,i2]:=fun hm=>Nat.lt_irrefl _ (lt _ hm)
 have fin:∀ (h':Heap),qM a b z TI TO i1 i2 l1 l2 (i+1) h'->IsPair h' s.heap.objs.size ux uy->h'.objs.size=s.heap.objs.size+1->(∀ c o,c∉[z,TI,TO,i1,i2]->s.heap.get? c=some o->h'.get? c=some o) ->
   ∃ u x H',(some (Value.ref s.heap.objs.size))=some u/\Inv X pins σ H' { s with heap:=h' }/\zR x u/\(Itz a b X.K l1 l2).yld i H x H'/\qM a b z TI TO i1 i2 l1 l2 (i+1) h'/\(∃ T:Addr,u=.ref T/\T∉[z,TI,TO,i1,i2])/\∀ c∈[z,TI,TO,i1,i2],H' c=none:=by
  intro h' st' pr sz k;have hn:H s.heap.objs.size=none:=I.hok.fresh (zzR _);have I1:Inv X pins σ H { s with heap:=h',toks:=s.toks }:=I.turns hf k;refine ⟨_,.ref s.heap.objs.size,yN H s.heap.objs.size (.tup [x,y]),rfl,?_,rfl,⟨_,x,y,rfl,hn,rfl,fun xs' q'=>by rw [I.sqB_inj q' q1];exact ex,fun ys' q'=>by rw [I.sqB_inj q' q2];exact ey⟩,st',⟨_,rfl,new⟩,fun c hc=>by rw [zU (fun e:c=s.heap.objs.size=>new (e▸hc))];exact (hf c hc).1⟩;exact I1.adopt (I.off (zzR _)) hn ⟨by show 2<=sizeLine;rw [sizeLine_eq];decide,[ux,uy],.cons rx (.cons ry .nil),⟨_,pr,rfl,_,rfl⟩⟩
 unfold pyNext
 have free:(f0=.none\/∃ T:Addr,f0=rawInt T/\s.heap.get? T=none)->wpAny (model X.prog X.w) X.A.in1 (Builtin.«zip.__next__» ⟨[.ref z],[]⟩) (fun fin s'=>∃ v,fin=.done (.ret v)/\∃ u x H',some v=some u/\Inv X pins σ H' s'/\zR x u/\(Itz a b X.K l1 l2).yld i H x H'/\qM a b z TI TO i1 i2 l1 l2 (i+1) s'.heap/\(∃ T:Addr,u=.ref T/\T∉[z,TI,TO,i1,i2])/\∀ c∈[z,TI,TO,i1,i2],H' c=none) (fun _ _=>False) s:=fun hfr=>by
  refine zdx D hfr hz hTI hTO s1 s2 sx sy hx hy fun h' a1 a2 a3 a4 a5 a6 a7=>fin h' ⟨_,_,a1,.inr ⟨_,rfl⟩,.inl rfl,a7 TI _ D.TIz D.TITO D.TIi1 D.TIi2 hTI,⟨_,_,a2⟩,a3,a4⟩ a5 a6 fun c o hc e=>?_;simp only [List.mem_cons,List.not_mem_nil,or_false,not_or] at hc;exact a7 c o hc.1 hc.2.2.1 hc.2.2.2.1 hc.2.2.2.2 e
 have held:∀ (T:Addr) (oT:Obj),f0=rawInt T->s.heap.get? T=some oT->wpAny (model X.prog X.w) X.A.in1 (Builtin.«zip.__next__» ⟨[.ref z],[]⟩) (fun fin s'=>∃ v,fin=.done (.ret v)/\∃ u x H',some v=some u/\Inv X pins σ H' s'/\zR x u/\(Itz a b X.K l1 l2).yld i H x H'/\qM a b z TI TO i1 i2 l1 l2 (i+1) s'.heap/\(∃ T:Addr,u=.ref T/\T∉[z,TI,TO,i1,i2])/\∀ c∈[z,TI,TO,i1,i2],H' c=none) (fun _ _=>False) s:=fun T oT e0 eT=>by
  subst e0;refine zdw D h1 hz eT hTI hTO s1 s2 sx sy hx hy fun h' a1 a3 a4 a5 a6 a7=>fin h' ⟨_,_,a1,.inr ⟨_,rfl⟩,.inr rfl,a7 TI _ D.TIz D.TIi1 D.TIi2 hTI,⟨_,_,a7 TO _ D.TOz D.TOi1 D.TOi2 hTO⟩,a3,a4⟩ a5 a6 fun c o hc e=>?_;simp only [List.mem_cons,List.not_mem_nil,or_false,not_or] at hc;exact a7 c o hc.1 hc.2.2.2.1 hc.2.2.2.2 e
 refine wpAny_bind (wpAny_attempt (wpAny_callSpecial?_slot (name:=Str.ofString "__next__") hT F.slot_zip_next
  (wpAny_call_entry F.slot_zip_next hT F.entry_zip_next ?_ (F.args_zip_next_1 _))))
 have all:wpAny (model X.prog X.w) X.A.in1 (Builtin.«zip.__next__» ⟨[.ref z],[]⟩) (fun fin s'=>∃ v,fin=.done (.ret v)/\∃ u x H',some v=some u/\Inv X pins σ H' s'/\zR x u/\(Itz a b X.K l1 l2).yld i H x H'/\qM a b z TI TO i1 i2 l1 l2 (i+1) s'.heap/\(∃ T:Addr,u=.ref T/\T∉[z,TI,TO,i1,i2])/\∀ c∈[z,TI,TO,i1,i2],H' c=none) (fun _ _=>False) s:=by
  rcases h0 with e0|⟨T,e0⟩
  .exact free (.inl e0)
  .cases eT:s.heap.get? T with
   |none=>exact free (.inr ⟨T,e0,eT⟩)
   |some oT=>exact held T oT e0 eT
 refine wpAny_mono all (fun fin' s' ⟨v',e',q⟩=>⟨v',e',?_⟩) (fun _ _ z=>z.elim);exact wpAny_pure q
theorem zdy {E:Value->Shared->Prop} (hh:X.A.handled=none) (hd:[z,TI,TO,i1,i2].Nodup) (n1:l1∉[z,TI,TO,i1,i2]) (n2:l2∉[z,TI,TO,i1,i2]) {i:Nat} (I:Inv X pins σ H s) (hf:∀ c∈[z,TI,TO,i1,i2],jK X pins H c)
  (st:qM a b z TI TO i1 i2 l1 l2 i s.heap) (stop:(Itz a b X.K l1 l2).stop i H) :
  wpAny (model X.prog X.w) X.A (pyNext (.ref z)) (fun r s1=>r=none/\Inv X pins σ H s1) E s:=by
 obtain ⟨xs,ys,q1,q2,he⟩:=stop;have D:=fW hd hf I q1 q2 n1 n2;obtain ⟨itx,vx,sx,_⟩:=I.sqB q1;obtain ⟨ity,vy,sy,_⟩:=I.sqB q2
 have hend:itx.toArray[i]?=none\/ity.toArray[i]?=none:=by
  rcases he with e|e
  .left;simpa using vx.none_of e
  .right;simpa using vy.none_of e
 obtain ⟨f0,f1,hz,h0,h1,hTI,⟨u,v,hTO⟩,s1,s2⟩:=id st;have hT:s.TypeIs (.ref z) "zip" := ⟨_,hz,rfl⟩;unfold pyNext
 have fin:∀ (h':Heap) (e:Addr),(∀ c o,c≠z->c≠TO->c≠i1->c≠i2->s.heap.get? c=some o->h'.get? c=some o)->(∃ o,h'.get? e=some o/\o.cls=.type "StopIteration") ->
   wpAny (model X.prog X.w) X.A (do if ← isInstance (.ref e) (.type "StopIteration") then pure none else throw (.ref e)) (fun (r:Option Value) s1=>r=none/\Inv X pins σ H s1) E { s with heap:=h' }:=fun h' e k ⟨o,ho,hc⟩=>by
  refine wpAny_bind (wpAny_isInstance (T := "StopIteration") (b:=true) ⟨o,ho,hc⟩ isSubtype_stop ?_);refine wpAny_pure ⟨rfl,I.turns (t':=s.toks) hf fun c o hc e=>?_⟩;simp only [List.mem_cons,List.not_mem_nil,or_false,not_or] at hc;exact k c o hc.1 hc.2.2.1 hc.2.2.2.1 hc.2.2.2.2 e
 refine wpAny_bind (wpAny_attempt (wpAny_callSpecial?_slot (name:=Str.ofString "__next__") hT F.slot_zip_next
  (wpAny_call_entry F.slot_zip_next hT F.entry_zip_next ?_ (F.args_zip_next_1 _))))
 rcases h0 with e0|⟨T,e0⟩
 .exact uG hh D (.inl e0) hz hTI hTO s1 s2 sx sy hend fun h' e k he=>fin h' e k he
 .cases eT:s.heap.get? T with
  |none=>exact uG hh D (.inr ⟨T,e0,eT⟩) hz hTI hTO s1 s2 sx sy hend fun h' e k he=>fin h' e k he
  |some oT =>
   subst e0;exact fX hh D h1 hz eT hTI hTO s1 s2 sx sy hend fun h' e k he=>fin h' e k he
theorem zah {P:Program} {w:World} {A:Around} {i:Nat} {s:Shared} {Q:Value->Shared->Prop} {E:Value->Shared->Prop} (st:qM a b z TI TO i1 i2 l1 l2 i s.heap) (h:Q (.ref z) s):wpAny (model P w) A (pyIter (.ref z)) Q E s:=by
 obtain ⟨f0,f1,hz,_⟩:=st;have hT:s.TypeIs (.ref z) "zip" := ⟨_,hz,rfl⟩;refine wpAny_pyIter_slot hT F.slot_zip_iter (wpAny_call_entry F.slot_zip_iter hT F.entry_zip_iter ?_ (F.args_zip_iter_1 _));show wpAny _ _ (ret (.ref z)) _ _ s;exact wpAny_pure ⟨_,rfl, "zip", _,hT,F.slot_zip_next.lookup,h⟩
end
end L2
namespace L3
open PySem PySem.Spec PyProof.Rows L2
structure Pr where
 prog:Program
 w:World
 K:zE
 mg:Str->Option Value
 base:Heap
abbrev Pr.at (q:Pr) (A:Around):Par:=⟨q.prog,q.w,q.K,q.mg,q.base,A⟩
def jM (K:zE) (sp:tV):Sp:=fun vs H Q E=>∃ ws G,zX K H ws vs/\yF K H G/\sp ws G (kP K H Q) XN
def yR (N:List Str) (ws:List W):wU:=ws.map some++List.replicate (N.length-ws.length) none
theorem zao {K:zE} {H:Hp} {N:List Str} {ws:List W} {vs:List V} (r:zX K H ws vs):zG K H (yR N ws) (L2.start N vs):=by
 have hl:=r.length;refine ⟨by simp [yR,L2.start,hl],fun i w e=>?_⟩;unfold yR at e;unfold L2.start
 by_cases hi:i<ws.length
 .rw [List.getElem?_append_left (by simpa using hi),List.getElem?_map] at e
  cases q:ws[i]? with
  |none=>rw [q] at e;cases e
  |some w' =>
   rw [q] at e;obtain rfl:w'=w:=Option.some.inj (Option.some.inj e);obtain ⟨v,ev,rp⟩:=r.get q;refine ⟨v,?_,rp⟩;rw [List.getElem?_append_left (by simp;omega),List.getElem?_map,ev];rfl
 .rw [List.getElem?_append_right (by simp;omega),List.getElem?_replicate] at e
  split at e<;>cases e
structure MOk (Γ:Ctx3) (M:MC) (sc:Scope):Prop where
 sc:M.sc=sc
 own:M.own=fun _=>true
 fns:Γ.fn.map (·.nm)=M.fns
 gls:Γ.gl.map (·.1)=M.gls
 mts:Γ.mt.map (·.nm)=M.mts
 its:Γ.it.map (·.nm)=M.its
 sxs:Γ.sx.map (·.m)=M.sxm
 ixs:Γ.ix.map (·.m)=M.ixm
def FnE (p:Par) (f:Fn3):Prop:=∀ X,Fits p X->Gl X f.nm->∀ (args:List Expr) (t:A3) (q pos:Pos),qR t->args.all yB=true->PA X args (vJ X.K t)->(args=[]->∀ σ G Q,t σ G Q->Q [] G)->(f.nm==("__debug__" : Str))=false->f.nm ≠ "__name__" ->
  PE X (.Call (.Name f.nm q) args [] pos) (yM X.K fun σ G Q=>t σ G fun ws G1=>f.sp ws G1 Q XN)
theorem xW {e:Expr} {es:List Expr} {env:Env} {pos:Pos} (h:(e::es).all yB=true):starEach (e::es) env=(false,eval e env)::starEach es env/\(backTo pos (starEach es env)).any (·.1)=false:=by
 rw [List.all_cons,Bool.and_eq_true] at h;refine ⟨jX h.1,?_⟩;have h2:=h.2
 clear h
 induction es with
 |nil=>rfl
 |cons a r ih =>
  rw [List.all_cons,Bool.and_eq_true] at h2;rw [jX h2.1];show (false || (backTo pos (starEach r env)).any (·.1))=false;rw [ih h2.2];rfl
theorem Fits.eq {p:Par} {X:Cx} (f:Fits p X):p=⟨X.prog,X.w,X.K,X.mg,X.base,X.A⟩:=by
 obtain ⟨e1,e2,e3,e4,e5,e6,_,_⟩:=f;rw [e1,e2,e3,e4,e5,e6]
theorem pa_sp {X:Cx} {args:List Expr} {t:A3} {sp:tV} {dws:List W} {dvs:List V} (m:qR t) (hd:∀ H,zX X.K H dws dvs) (mono:∀ ws G (Q Q':Q3),(∀ w G',Q w G'->Q' w G')->sp ws G Q XN->sp ws G Q' XN) {τ:L2.St} {H:Hp} {Q:VK} {E:XK}
  (h:yM X.K (fun σ G Q=>t σ G fun ws G1=>sp (ws++dws) G1 Q XN) τ H Q):zdF (jM X.K sp) dvs E (vJ X.K t) τ H Q:=by
 obtain ⟨σ,G,hs,ab,h⟩:=h;refine vA m hs ab h fun ws G1 vs H1 g1 hs1 rs a1 h=>?_;exact ⟨ws++dws,G1,rs.append (hd H1),a1,mono _ _ _ _ (fun w G' z v' H' g'=>z v' H' (g1.trans g')) h⟩
theorem zg4 {q:Pr} {k:Nat} {nm:Str} {f:Addr} {fd:FuncData} {ps:List Str} {ds:List Value} {dvs:List V} {dws:List W} {sp:tV} (FO:FnOk q.prog q.w q.K q.mg q.base CX0 k f fd ps (jM q.K sp)) (hm:q.mg nm=some (.ref f)) (hk:PySem.W.keepIn q.K (.ref f)=true)
  (hb:jZ q.K fd ps ds) (hd:∀ H,zX q.K H dws dvs) (hv:zV dvs ds) (mono:∀ ws G (Q Q':Q3),(∀ w G',Q w G'->Q' w G')->sp ws G Q XN->sp ws G Q' XN) {A:Around} (hr:Room k A):FnE (q.at A) ⟨nm,fun ws G Q _=>sp (ws++dws) G Q XN⟩:=by
 intro X fits gl args t qp pos mt hn pa hnil hdb hnm;have e:=fits.eq
 injection e with e1 e2 e3 e4 e5 e6
 subst e6;rw [e1,e2,e3,e4,e5] at FO;rw [e4] at hm;rw [e3] at hk hb hd
 cases args with
 |nil =>
  refine (zcb (p:=qp) (pos:=pos) FO hr gl hm hk hb hv zcc hdb).imp fun τ H Q h=>?_;obtain ⟨σ,G,hs,ab,h⟩:=h;have h:=hnil rfl _ _ _ h;exact ⟨dws,G,hd H,ab,h⟩
 |cons a r =>
  obtain ⟨s1,s2⟩:=xW (env:=X.env) (pos:=pos) hn;exact (zd8 (p:=qp) (pos:=pos) FO hr gl hm hk hb hv zcc pa hdb s1 s2).imp fun τ H Q h=>pa_sp (args:=a::r) mt hd mono h
end L3
namespace L3
open PySem PySem.Spec PyProof.Rows L2 PySem.SeqAt
def mkSp (C:Addr) (sp:tV) (dws:List W):tV:=fun ws G Q _=>∀ p,G p=none->sp (.ref p::(ws++dws)) (put G p (.ins C [])) (fun v G2=>v=.non/\Q (.ref p) G2) XN
theorem zdm {q:Pr} {k:Nat} {nm:Str} {C f:Addr} {fd:FuncData} {ps:List Str} {ds:List Value} {dvs:List V} {dws:List W} {sp:tV} (M:Mk q.K C f) (FO:FnOk q.prog q.w q.K q.mg q.base CX0 k f fd ps (jM q.K sp)) (hm:q.mg nm=some (.ref C))
  (hb:jZ q.K fd ps ds) (hd:∀ H,zX q.K H dws dvs) (hv:zV dvs ds) (mono:∀ ws G (Q Q':Q3),(∀ w G',Q w G'->Q' w G')->sp ws G Q XN->sp ws G Q' XN) {A:Around} (hr:Room (k+1) A):FnE (q.at A) ⟨nm,mkSp C sp dws⟩:=by
 intro X fits gl args t qp pos mt hn pa hnil hdb hnm;have e:=fits.eq
 injection e with e1 e2 e3 e4 e5 e6
 subst e6;rw [e1,e2,e3,e4,e5] at FO;rw [e4] at hm;rw [e3] at M hb hd
 have core:∀ (ws:List W) (G1:Hw) (vs:List V) (H H1:Hp) (Q:VK),zB X.K H H1->zX X.K H1 ws vs->yF X.K H1 G1->mkSp C sp dws ws G1 (kP X.K H Q) XN->∀ x dx,H1 x=none->H1 dx=none->dx≠x ->
   jM X.K sp (.ref x::(vs++dvs)) (yN (yN H1 dx (.own x)) x (.ins C dx [])) (fun v H2=>v=.non/\Q (.ref x) H2) E0:=by
  intro ws G1 vs H H1 Q g1 rs a1 h x dx hx hdx hne;have a2:yF X.K (yN H1 dx (.own x)) G1:=a1.tup hdx;have g2:zB X.K H1 (yN H1 dx (.own x)):=yH hdx;have hx2:(yN H1 dx (.own x)) x=none:=by rw [zU hne.symm];exact hx
  have g3:zB X.K (yN H1 dx (.own x)) (yN (yN H1 dx (.own x)) x (.ins C dx [])):=yH hx2;have a3:yF X.K (yN (yN H1 dx (.own x)) x (.ins C dx [])) (put G1 x (.ins C [])):=a2.new hx2 ⟨dx,[],rfl,rfl⟩;refine ⟨.ref x::(ws++dws),put G1 x (.ins C []),⟨_,_,rfl,rfl,(rs.mono (g2.trans g3)).append (hd _)⟩,a3,mono _ _ _ _ (fun w G' z v' H' g' r' a'=>?_) (h x (a1.free hx))⟩;obtain ⟨rfl,z⟩:=z;exact ⟨r',z (.ref x) H' (g1.trans (g2.trans (g3.trans g'))) rfl a'⟩
 cases args with
 |nil =>
  refine (zb6 (p:=qp) (pos:=pos) M FO hr gl hm hb hv zcc hdb).imp fun τ H Q h=>?_;obtain ⟨σ,G,hs,ab,h⟩:=h;exact core [] G [] H H Q .refl rfl ab (hnil rfl _ _ _ h)
 |cons a r =>
  obtain ⟨s1,s2⟩:=xW (env:=X.env) (pos:=pos) hn;refine (zd4 (p:=qp) (pos:=pos) M FO hr gl hm hb hv zcc pa hdb s1 s2).imp fun τ H Q h=>?_;obtain ⟨σ,G,hs,ab,h⟩:=h;exact vA mt hs ab h fun ws G1 vs H1 g1 hs1 rs a1 h=>core ws G1 vs H H1 Q g1 rs a1 h
abbrev RS:=List W->Hw->Q3->Prop
def wP (sp:RS):Prop:=∀ ws G (Q Q':Q3),(∀ w G',Q w G'->Q' w G')->sp ws G Q->sp ws G Q'
def tR (K:zE) (sp:RS):List V->Hp->VK->Prop:=fun vs H Q=>∃ ws G,zX K H ws vs/\yF K H G/\sp ws G (kP K H Q)
theorem hU {X:Cx} {t:A3} {sp:RS} (mt:qR t) (mono:wP sp) {τ:L2.St} {H:Hp} {Q:VK} (h:yM X.K (fun σ G Q=>t σ G fun ws G1=>sp ws G1 Q) τ H Q):tCB (tR X.K sp) (vJ X.K t) τ H Q:=by
 obtain ⟨σ,G,hs,ab,h⟩:=h;exact vA mt hs ab h fun ws G1 vs H1 g1 hs1 rs a1 h=>⟨ws,G1,rs,a1,mono _ _ _ _ (fun w G' z v' H' g'=>z v' H' (g1.trans g')) h⟩
theorem rQ {q:Pr} {A:Around} {nm:Str} {id:String} {sp:RS} (hm:q.mg nm=none) (hv:bootBuiltins nm=some (.builtin id)) (hc:∀ X,Fits (q.at A) X->wN X (.builtin id) (tR X.K sp)) (mono:wP sp) (h0:∀ G Q,¬ sp [] G Q):FnE (q.at A) ⟨nm,fun ws G Q _=>sp ws G Q⟩:=by
 intro X fits gl args t qp pos mt hn pa hnil hdb hnm;have hm':X.mg nm=none:=by rw [fits.mg];exact hm
 cases args with
 |nil=>exact fun pins s σ H Q I h=>absurd (hnil rfl _ _ _ h.choose_spec.choose_spec.2.2) (h0 _ _)
 |cons a r =>
  obtain ⟨s1,s2⟩:=xW (env:=X.env) (pos:=pos) hn;exact (zca (p:=qp) (pos:=pos) (hc X fits) gl hm' hv pa hnm hdb s1 s2).imp fun τ H Q h=>hU mt mono h
theorem fn_ty {q:Pr} {A:Around} {nm:Str} {T:String} {sp:RS} (hm:q.mg nm=none) (hv:bootBuiltins nm=some (.type T)) (hc:∀ X,Fits (q.at A) X->wN X (.type T) (tR X.K sp)) (mono:wP sp) (h0:∀ G Q,¬ sp [] G Q):FnE (q.at A) ⟨nm,fun ws G Q _=>sp ws G Q⟩:=by
 intro X fits gl args t qp pos mt hn pa hnil hdb hnm;have hm':X.mg nm=none:=by rw [fits.mg];exact hm
 cases args with
 |nil=>exact fun pins s σ H Q I h=>absurd (hnil rfl _ _ _ h.choose_spec.choose_spec.2.2) (h0 _ _)
 |cons a r =>
  obtain ⟨s1,s2⟩:=xW (env:=X.env) (pos:=pos) hn;exact (zaB (p:=qp) (pos:=pos) (hc X fits) gl hm' hv pa hnm hdb s1 s2).imp fun τ H Q h=>hU mt mono h
abbrev MS:=W->List W->Hw->Q3->Prop
def MtE (p:Par) (m:Mt3):Prop:=∀ X,Fits p X->∀ (o:Expr) (args:List Expr) (to:E3) (t:A3) (apos cpos:Pos),xL to->qR t->tX o=true->(apos.endLine==cpos.line)=true->args.length<25->args.all yB=true ->
  PE X o (yM X.K to)->PA X args (vJ X.K t)->(args=[]->∀ σ G Q,t σ G Q->Q [] G)->PE X (.Call (.Attribute o m.nm apos) args [] cpos) (yM X.K fun σ G Q=>to σ G fun x G1=>tyW G1 x m.T/\t σ G1 fun ws G2=>m.sp x ws G2 Q)
def lowM (K:zE) (sp:MS):V->List V->Hp->VK->Prop:=fun x vs H Q=>∃ w ws G,yA K H w x/\zX K H ws vs/\yF K H G/\sp w ws G (kP K H Q)
theorem cY {args:List Expr} {env:Env} {pos:Pos} (h:args.all yB=true):(backTo pos (starEach args env)).all (fun x=>!x.1)=true:=by
 induction args with
 |nil=>rfl
 |cons a r ih =>
  rw [List.all_cons,Bool.and_eq_true] at h;rw [jX h.1];show (true&&(backTo pos (starEach r env)).all (fun x=>!x.1))=true;rw [ih h.2];rfl
theorem sL {p:Par} {nm:Str} {T id:String} {sp:MS} (pa:PlainAttrs T) (slot:Slot T nm id) (hty:typeOf (.builtin id)=pure (.type "method_descriptor")) (hm:∀ X,Fits p X->MtR X id (lowM X.K sp))
  (mono:∀ x ws G (Q Q':Q3),(∀ w G',Q w G'->Q' w G')->sp x ws G Q->sp x ws G Q'):MtE p ⟨nm,T,sp⟩:=by
 intro X fits o args to t apos cpos mo mt ho hline hlen hn po pa' hnil
 cases args with
 |nil =>
  refine (zgg pa slot hty (hm X fits) po (qT ho) hline).imp fun τ H Q h=>?_;obtain ⟨σ,G,hs,ab,h⟩:=h;refine yX mo hs ab h fun w G1 v H1 g1 hs1 rw1 a1 h=>⟨zcZ rw1 a1 h.1,w,[],G1,rw1,rfl,a1,mono _ _ _ _ _ (fun w' G' z v' H' g'=>z v' H' (g1.trans g')) (hnil rfl _ _ _ h.2)⟩
 |cons a r =>
  obtain ⟨s1,s2⟩:=xW (env:=X.env) (pos:=cpos) hn;refine (pe_bm pa slot hty (hm X fits) po pa' (qT ho) ?_ hline s1 s2).imp fun τ H Q h=>?_
  .rw [cY hn]
   have:(a::r).length+([]:List Keyword).length+(if ([]:List Keyword).isEmpty then 0 else 1)<30:=by
    show (a::r).length+0+0<30;omega
   rw [decide_eq_true this];rfl
  .obtain ⟨σ,G,hs,ab,h⟩:=h;refine yX mo hs ab h fun w G1 v H1 g1 hs1 rw1 a1 h=>⟨zcZ rw1 a1 h.1,?_⟩;exact vA mt hs1 a1 h.2 fun ws G2 vs H2 g2 hs2 rs a2 h=>⟨w,ws,G2,rw1.mono g2,rs,a2,mono _ _ _ _ _ (fun w' G' z v' H' g'=>z v' H' (g1.trans (g2.trans g'))) h⟩
def maxS:RS:=fun ws G Q=>match ws with
 | [.int i,.int j]=>Q (.int (if j > i then j else i)) G
 |_=>False
theorem nU:wP maxS:=by
 intro ws G Q Q' k h;unfold maxS at h ⊢
 split at h
 .exact k _ _ h
 .exact h.elim
theorem fA {K:zE} {H:Hp} {a b:W} {vs:List V} (r:zX K H [a,b] vs):∃ x y,vs=[x,y]/\yA K H a x/\yA K H b y:=by
 obtain ⟨x,t,rfl,rx,y,t',rfl,ry,rt⟩:=r;cases (show t'=[] from rt);exact ⟨x,y,rfl,rx,ry⟩
theorem kJ {K:zE} {H:Hp} {a:W} {vs:List V} (r:zX K H [a] vs):∃ x,vs=[x]/\yA K H a x:=by
 obtain ⟨x,t,rfl,rx,rt⟩:=r;cases (show t=[] from rt);exact ⟨x,rfl,rx⟩
theorem zgx {X:Cx} (hc:X.calm=true):wN X (.builtin "max") (tR X.K maxS):=by
 intro pins s σ H xs us Q I r h;obtain ⟨ws,G,rs,ab,h⟩:=h;unfold maxS at h
 split at h
 .rename_i i j;obtain ⟨x,y,rfl,rx,ry⟩:=fA rs;cases (show x=.int i from rx);cases (show y=.int j from ry);exact zbk hc pins s σ H _ us Q I r ⟨i,j,rfl,h _ H .refl rfl ab⟩
 .exact h.elim
def hG (G:Hw):W->Option Nat
 | .str x=>if x.length<=sizeLine then some x.length else none
 | .tup ws=>some ws.length
 | .ref p=>match G p with
  |some (.lst ws)=>some ws.length
  |some (.fix ws)=>some ws.length
  |some (.dic kvs)=>some kvs.length
  |_=>none
 |_=>none
def gY:RS:=fun ws G Q=>match ws with
 | [x]=>(match hG G x with|some n=>Q (.int n) G|none=>False)
 |_=>False
theorem nR:wP gY:=by
 intro ws G Q Q' k h;unfold gY at h ⊢
 split at h
 .split at h
  .exact k _ _ h
  .exact h.elim
 .exact h.elim
theorem zem {X:Cx}:wN X (.builtin "len") (fun xs H Q=>∃ a kvs,xs=[V.ref a]/\H a=some (.dK kvs)/\Q (.int kvs.length) H):=by
 intro pins s σ H xs us Q I r h;obtain ⟨a,kvs,rfl,ha,q⟩:=h;obtain ⟨u,rfl,ru⟩:=kK r;cases ru;exact d_len I (.inl ha) fun t s' I'=>⟨.int kvs.length,H,I',⟨t,rfl⟩,q⟩
theorem zgz {X:Cx}:wN X (.builtin "len") (tR X.K gY):=by
 intro pins s σ H xs us Q I r h;obtain ⟨ws,G,rs,ab,h⟩:=h;unfold gY at h
 split at h
 .rename_i w;obtain ⟨v,rfl,rv⟩:=kJ rs
  split at h
  .rename_i n hn;have q:Q (.int n) H:=h (.int n) H .refl rfl ab
   cases w with
   |str x =>
    cases (show v=.str x from rv);simp only [hG] at hn
    split at hn
    .rename_i hl;cases hn;exact gG pins s σ H _ us Q I r ⟨x,rfl,hl,q⟩
    .cases hn
   |tup ws' =>
    obtain ⟨a,vs,rfl,sq,rr⟩:=rv;simp only [hG] at hn;cases hn;exact qW pins s σ H _ us Q I r ⟨a,vs,rfl,.inr sq,by rw [rr.length];exact q⟩
   |ref p =>
    cases (show v=.ref p from rv);simp only [hG] at hn
    split at hn
    .rename_i ws' e;cases hn;obtain ⟨vs,sq,rr⟩:=ab.seq (show zI G p=some ws' by unfold zI;rw [e]);exact qW pins s σ H _ us Q I r ⟨p,vs,rfl,.inl sq,by rw [rr.length];exact q⟩
    .rename_i ws' e;cases hn;obtain ⟨vs,sq,rr⟩:=ab.seq (show zI G p=some ws' by unfold zI;rw [e]);exact qW pins s σ H _ us Q I r ⟨p,vs,rfl,.inl sq,by rw [rr.length];exact q⟩
    .rename_i kvs e;cases hn;obtain ⟨l,e',rl⟩:=ab.dic e;exact zem pins s σ H _ us Q I r ⟨p,l,rfl,e',by rw [rl.length];exact q⟩
    .cases hn
   |_=>simp [hG] at hn
  .exact h.elim
 .exact h.elim
def xB (G:Hw):W->Option (List W)
 | .tup ws=>some ws
 | .ref p=>zI G p
 |_=>none
def lstS:RS:=fun ws G Q=>match ws with
 | [x]=>(match xB G x with|some xs=>∀ p,G p=none->Q (.ref p) (put G p (.lst xs))|none=>False)
 |_=>False
theorem nT:wP lstS:=by
 intro ws G Q Q' k h;unfold lstS at h ⊢
 split at h
 .split at h
  .exact fun p hp=>k _ _ (h p hp)
  .exact h.elim
 .exact h.elim
theorem zdN {K:zE} {H:Hp} {G:Hw} {w:W} {v:V} {xs:List W} (ab:yF K H G) (r:yA K H w v) (e:xB G w=some xs):∃ a vs b,v=.ref a/\tF b K H a vs/\zX K H xs vs:=by
 cases w with
 |tup ws =>
  obtain ⟨a,vs,rfl,sq,rr⟩:=r;cases e;exact ⟨a,vs,true,rfl,sq,rr⟩
 |ref p =>
  cases (show v=.ref p from r);obtain ⟨vs,sq,rr⟩:=ab.seq e;exact ⟨p,vs,false,rfl,sq,rr⟩
 |_=>cases e
theorem zgy {X:Cx}:wN X (.type "list") (tR X.K lstS):=by
 intro pins s σ H xs us Q I r h;obtain ⟨ws,G,rs,ab,h⟩:=h;unfold lstS at h
 split at h
 .rename_i w;obtain ⟨v,rfl,rv⟩:=kJ rs
  split at h
  .rename_i ys hy;obtain ⟨a,vs,b,rfl,sq,rr⟩:=zdN ab rv hy;refine gH pins s σ H _ us Q I r ⟨a,vs,rfl,?_,jV ab rr h⟩;cases b
   .exact .inl sq
   .exact .inr sq
  .exact h.elim
 .exact h.elim
def allS (f:List Bool->Bool):RS:=fun ws G Q=>match ws with
 | [.ref p]=>∃ bs:List Bool,zI G p=some (bs.map .bl)/\Q (.bl (f bs)) G
 |_=>False
theorem mW (f:List Bool->Bool):wP (allS f):=by
 intro ws G Q Q' k h;unfold allS at h ⊢
 split at h
 .obtain ⟨bs,e,h⟩:=h;exact ⟨bs,e,k _ _ h⟩
 .exact h.elim
theorem rG {K:zE} {H:Hp}:∀ {bs:List Bool} {vs:List V} {us:List Value},zX K H (bs.map .bl) vs->zV vs us->us=bs.map .bool
 | [],vs,us,r,v=>by cases (show vs=[] from r);cases v;rfl
 |b::bs,vs,us,r,v=>by
  obtain ⟨x,t,rfl,rx,rt⟩:=r;cases (show x=.bl b from rx)
  cases v with
  |cons a c =>
   cases (show _=Value.bool b from a);rw [rG rt c];rfl
theorem zbr (bs:List Bool):(List.range bs.length).all (fun i=>(bs[i]?).getD false)=bs.all id:=by
 rw [Bool.eq_iff_iff,List.all_eq_true,List.all_eq_true]
 constructor
 .intro h b hb;obtain ⟨i,hi,rfl⟩:=List.mem_iff_getElem.mp hb;have:=h i (List.mem_range.mpr hi)
  rwa [List.getElem?_eq_getElem hi] at this
 .intro h i hi;have hi:=List.mem_range.mp hi;rw [List.getElem?_eq_getElem hi];exact h _ (List.getElem_mem hi)
theorem zcW {X:Cx} (hc:X.calm=true) {pins:List (Addr×Obj)} {s:Shared} {σ:L2.St} {H:Hp} {G:Hw} {p:Addr} {bs:List Bool} (I:Inv X pins σ H s) (ab:yF X.K H G) (e:zI G p=some (bs.map .bl)) {A:Around} (hh:A.handled=none) {E:Value->Shared->Prop}
  {R:Value->Shared->Prop} (h:∀ (I':Addr) (s₂:Shared),Walks X.prog X.w A I' [I',p] [I'] bs.length (fun i v=>(bs.map Value.bool).toArray[i]?=some v) (fun i h=>h.IsListIter I' p i/\h.IsList p (bs.map Value.bool).toArray)->(s₂.heap.IsListIter I' p 0/\s₂.heap.IsList p (bs.map Value.bool).toArray) ->
   (∀ h' tk,(∀ b o,b∉[I']->s₂.heap.get? b=some o->h'.get? b=some o)->0<tk->Inv X pins σ H { s₂ with heap:=h',toks:=tk })->R (.ref I') s₂):wpAny (model X.prog X.w) A (pyIter (.ref p)) R E s:=by
 obtain ⟨vs,sq,rr⟩:=ab.seq e;obtain ⟨its,rv,pl,hz⟩:=I.list sq;have eits:=rG rr rv;subst eits;have hl:=pl.isList;refine wpAny_pyIter_list hl ?_
 have hne:p≠s.heap.objs.size:=by
  obtain ⟨o,ho,_⟩:=hl;exact Nat.ne_of_lt (Heap.lt_size ho)
 have W:=Walks.list (prog:=X.prog) (w:=X.w) hh s.heap.objs.size p hne (bs.map Value.bool).toArray;have hn:(bs.map Value.bool).toArray.size=bs.length:=by simp
 rw [hn] at W;refine h _ _ W ⟨⟨_,Heap.get?_push_size _ rfl,rfl,rfl⟩,hl.push _⟩ fun h' tk k h0=>I.kept (fun b o e=>k b o (fun hm=>?_) (Heap.get?_push_of_some _ e)) h0;rw [List.mem_singleton] at hm;exact Nat.ne_of_lt (Heap.lt_size e) hm
theorem zby {P:Program} {w:World} {A:Around} {bs:List Bool}:TruthOf P w A (fun i v=>(bs.map Value.bool).toArray[i]?=some v) (fun i=>(bs[i]?).getD false):=by
 intro i v s Q E h q;have h':(bs[i]?).map Value.bool=some v:=by simpa using h
 cases e:bs[i]? with
 |none=>rw [e] at h';cases h'
 |some b =>
  rw [e] at h';cases h';have q':Q ((bs[i]?).getD false) s:=q;rw [e] at q';exact wpAny_truthy_bool q'
theorem zhk {X:Cx} (hc:X.calm=true):wN X (.builtin "all") (tR X.K (allS (·.all id))):=by
 intro pins s σ H xs us Q I r h;obtain ⟨ws,G,rs,ab,h⟩:=h;unfold allS at h
 split at h
 .rename_i p;obtain ⟨v,rfl,rv⟩:=kJ rs;cases (show v=.ref p from rv);obtain ⟨bs,e,h⟩:=h;obtain ⟨u,rfl,ru⟩:=kK r;cases ru;refine wI I.tk (call_all_walk (zcW hc I ab e (A:=X.A.in1) (I.ok.hd hc) fun I' s₂ W st k=>⟨I',_,_,_,_,_,_,rfl,W,st,zby,fun h' tk hk h0=>?_⟩));rw [zbr];exact ⟨.bl (bs.all id),H,k h' tk hk h0,rfl,h _ H .refl rfl ab⟩
 .exact h.elim
def tyO (G:Hw):W->Option String
 | .non=>some "NoneType"
 | .bl _=>some "bool"
 | .int _=>some "int"
 | .str _=>some "str"
 | .tup _=>some "tuple"
 | .ref p=>match G p with
  |some (.lst _)=>some "list"
  |some (.fix _)=>some "list"
  |some (.dic _)=>some "dict"
  |_=>none
 |_=>none
def bT:MS:=fun x ws G Q=>match x,ws with
 | .ref p,[]=>(match G p with
  |some (.lst xs)=>(match xs[xs.length-1]? with|some y=>Q y (put G p (.lst xs.dropLast))|none=>False)
  |_=>False)
 |_,_=>False
theorem nZ:∀ x ws G (Q Q':Q3),(∀ w G',Q w G'->Q' w G')->bT x ws G Q->bT x ws G Q':=by
 intro x ws G Q Q' k h;unfold bT at h ⊢
 split at h
 .split at h
  .split at h
   .exact k _ _ h
   .exact h.elim
  .exact h.elim
 .exact h.elim
theorem zf3 {X:Cx}:MtR X "list.pop" (lowM X.K bT):=by
 intro pins s σ H x xs v us Q I rx rxs h;obtain ⟨w,ws,G,rw1,rs,ab,h⟩:=h;unfold bT at h
 split at h
 .rename_i p;cases (show x=.ref p from rw1);cases (show xs=[] from rs)
  split at h
  .rename_i ys e
   split at h
   .rename_i y ey;obtain ⟨vs,ev,rr⟩:=ab.lst e;obtain ⟨vy,evy,ry⟩:=rr.get ey;have gr:zB X.K H (yN H p (.lst vs.dropLast)):=ab.grow e;exact zgt pins s σ H _ _ v us Q I rx rxs ⟨p,vs,vy,rfl,rfl,ev,by rw [rr.length];exact evy,h vy _ gr (ry.mono gr) (ab.chg e ⟨_,rfl,rr.dropLast.mono gr⟩)⟩
   .exact h.elim
  .exact h.elim
 .exact h.elim
def cO:MS:=fun x ws G Q=>match x,ws with
 | .ref p,[y]=>(match G p with
  |some (.lst xs)=>xs.length<sizeLine/\Q .non (put G p (.lst (xs++[y])))
  |_=>False)
 |_,_=>False
theorem mX:∀ x ws G (Q Q':Q3),(∀ w G',Q w G'->Q' w G')->cO x ws G Q->cO x ws G Q':=by
 intro x ws G Q Q' k h;unfold cO at h ⊢
 split at h
 .split at h
  .exact ⟨h.1,k _ _ h.2⟩
  .exact h.elim
 .exact h.elim
theorem zhj {X:Cx}:MtR X "list.append" (lowM X.K cO):=by
 intro pins s σ H x xs v us Q I rx rxs h;obtain ⟨w,ws,G,rw1,rs,ab,h⟩:=h;unfold cO at h
 split at h
 .rename_i p y;cases (show x=.ref p from rw1);obtain ⟨vy,rfl,ry⟩:=kJ rs
  split at h
  .rename_i ys e;obtain ⟨vs,ev,rr⟩:=ab.lst e;have gr:zB X.K H (yN H p (.lst (vs++[vy]))):=ab.grow e;exact zaH pins s σ H _ _ v us Q I rx rxs ⟨p,vs,vy,rfl,rfl,ev,by rw [rr.length];exact h.1,h.2 .non _ gr (show yA X.K _ .non .non from rfl) (ab.chg e ⟨_,rfl,(rr.append (show zX X.K H [y] [vy] from ⟨vy,[],rfl,ry,rfl⟩)).mono gr⟩)⟩
  .exact h.elim
 .exact h.elim
def ItE (p:Par) (i:It3):Prop:=∀ X,Fits p X->Gl X i.nm->∀ (tg:Expr) (args:List Expr) (t:A3) (q pos:Pos),qR t->args.all yB=true->PA X args (vJ X.K t)->(args=[]->∀ σ G Q,t σ G Q->Q [] G)->(i.nm==("__debug__" : Str))=false->i.nm ≠ "__name__" ->
  PI X tg (.Call (.Name i.nm q) args [] pos) (dH X.K fun σ G R=>t σ G fun ws G1=>i.sp ws G1 R)
def lofM (nm:Str):Scope->Expr->Option (List Expr):=fun sc e=>match e with
 | .Call (.Name o _) [.Call (.Name x _) xs [] _] [] _=>if o==("list" : Str)&&x==nm&&kM sc o&&kM sc x&&!xs.isEmpty then some xs else none
 |_=>none
theorem zcl {nm:Str} {sc:Scope} {e:Expr} {xs:List Expr} (h:lofM nm sc e=some xs):∃ qo q pos pos' a r,xs=a::r/\e=.Call (.Name "list" qo) [.Call (.Name nm q) (a::r) [] pos] [] pos'/\kM sc "list" = true/\kM sc nm=true:=by
 have no:¬ ((none:Option (List Expr))=some xs):=fun e=>nomatch e
 cases e with
 |Call f args kws pos' =>
  cases f with
  |Name o qo =>
   cases args with
   |nil=>exact absurd h no
   |cons c rest =>
    cases c with
    |Call g ys kw2 pos =>
     cases g with
     |Name x q =>
      cases kw2 with
      |nil =>
       cases rest with
       |nil =>
        cases kws with
        |nil =>
         replace h:(if (o==("list" : Str)&&x==nm&&kM sc o&&kM sc x&&!ys.isEmpty)=true then some ys else none)=some xs:=h
         by_cases hb:(o==("list" : Str)&&x==nm&&kM sc o&&kM sc x&&!ys.isEmpty)=true
         .rw [if_pos hb] at h;cases h;simp only [Bool.and_eq_true,beq_iff_eq,Bool.not_eq_true',List.isEmpty_eq_false_iff] at hb;obtain ⟨⟨⟨⟨rfl,rfl⟩,h1⟩,h2⟩,h3⟩:=hb
          cases xs with
          |nil=>exact absurd rfl h3
          |cons a r=>exact ⟨qo,q,pos,pos',a,r,rfl,rfl,h1,h2⟩
         .rw [if_neg hb] at h;exact absurd h no
        |cons _ _=>exact absurd h no
       |cons _ _=>exact absurd h no
      |cons _ _=>exact absurd h no
     |_=>exact absurd h no
    |_=>exact absurd h no
  |_=>exact absurd h no
 |_=>exact absurd h no
def SxE (p:Par) (k:Sx3):Prop:=∀ X,Fits p X->∀ (e:Expr) (xs:List Expr) (es:List E3),k.m X.env.scope e=some xs->uZ X xs es->xs.all yB=true->PA X xs (vJ X.K (kQ es)) ->
  PE X e (yM X.K fun σ G Q=>kQ es σ G fun ws G1=>k.sp ws G1 Q)/\(∀ whole,isTrue e X.env whole=(do let v ← whole;standAt e.pos;holding [v] (truthy v)))/\∀ op vs pos,e≠.BoolOp op vs pos
theorem xQ {X:Cx}:∀ {xs:List Expr} {es:List E3},uZ X xs es->qR (kQ es)
 | [],[],_=>fun σ G Q Q' k h=>k _ _ h
 |_::_,_::_,⟨m,_,r⟩=>fun σ G Q Q' k h=>m σ G _ _ (fun x G1 h=>xQ r σ G1 _ _ (fun xs G2 h=>k _ _ h) h) h
theorem zfE {q:Pr} {A:Around} {nm:Str} {T:String} {sp:RS} (hl:q.mg "list" = none) (hm:q.mg nm=none) (hv:bootBuiltins nm=some (.type T)) (mono:wP sp)
  (hc:∀ X,Fits (q.at A) X->∀ (pins:List (Addr×Obj)) (s:Shared) (σ:L2.St) (H:Hp) (vs:List V) (us:List Value) (Q:VK),Inv X pins σ H s->zV vs us->tR X.K sp vs H Q ->
   wpAny (model X.prog X.w) X.A (call (.type T) us) (fun v s1=>wpAny (model X.prog X.w) X.A (call (.type "list") [v]) (EP X pins σ Q) X.xe s1) X.xe s):SxE (q.at A) ⟨lofM nm,sp⟩:=by
 intro X fits e xs es he each hn pa;obtain ⟨qo,qq,pos,pos',a,r,rfl,rfl,g1,g2⟩:=zcl he;obtain ⟨gl1,d1,n1⟩:=nJ rfl g1;obtain ⟨gl2,d2,n2⟩:=nJ rfl g2;have hl':X.mg "list" = none:=by rw [fits.mg];exact hl
 have hm':X.mg nm=none:=by rw [fits.mg];exact hm
 refine ⟨fun pins s σ H Q I h=>?_,fun _=>rfl,fun _ _ _ z=>nomatch z⟩;obtain ⟨s1,s2⟩:=xW (env:=X.env) (pos:=pos) hn;have h':=hU (xQ each) mono h;refine wpAny_Call_Name_kw (vY I gl1 hl' boot_list ?_ n1 d1);refine PyProof.Rows.callWith_type1 (e:=.Call (.Name nm qq) (a::r) [] pos) (rest:=[]) ?_ rfl rfl;show wpAny _ _ (spliced ((false,eval (.Call (.Name nm qq) (a::r) [] pos) X.env)::backTo pos' (starEach [] X.env))) _ _ s;refine Calls.spliced_cons (wpAny_Call_Name_kw (vY I gl2 hm' hv (PyProof.Rows.callWith_type1 (yU (pa pos pins s σ H _ I h') fun us s1 ⟨vs,H1,I1,r1,q1⟩=>?_) s1 s2) n2 d2));exact yU (hc X fits pins s1 σ H1 vs us Q I1 r1 q1) fun v s2 z=>Calls.spliced_nil z
theorem bB (n:Nat):[n+4,n+2,n+3,n,n+1].Nodup:=by
 simp
theorem cZ (n a:Nat) (h:a<n):a∉[n+4,n+2,n+3,n,n+1]:=by
 simp only [List.mem_cons,List.not_mem_nil,or_false,not_or];omega
theorem za2 (n b:Nat) (h:b∈[n+4,n+2,n+3,n,n+1]):n<=b:=by
 simp only [List.mem_cons,List.not_mem_nil,or_false] at h;omega
def Itv (K:zE) (a:Addr) (n:Nat):It where
 go:=fun i H=>∃ xs,tW K H a xs/\xs.length=n/\i<n
 yld:=fun i H v H'=>H'=H/\∀ xs,tW K H a xs->xs.length=n->xs[n-1-i]?=some v
 stop:=fun i H=>i=n
theorem bH:typeLookup (.type "list_reverseiterator") "__len__" = pure none:=by rw [typeLookup_type,builtinLookup_eq_fast];kernel_rfl
theorem zcj:typeLookup (.type "list_reverseiterator") "__length_hint__" = pure (some (.builtin "list_reverseiterator.__length_hint__")):=by rw [typeLookup_type,builtinLookup_eq_fast];kernel_rfl
theorem zdO {P:Program} {w:World} {A:Around} {it a:Addr} {i:Int} {s:Shared} {Q:Bool->Shared->Prop} {E:Value->Shared->Prop} (st:s.heap.IsRevIter it a i) (h:∀ b,Q b s):wpAny (model P w) A (Builtin.List.listLengthHint (.ref it)) Q E s:=by
 have hT:=st.typeIs;unfold Builtin.List.listLengthHint;refine wpAny_bind (wpAny_specialOf hT bH ?_);show wpAny _ _ (specialOf (Value.ref it) (Str.ofString "__length_hint__") >>= _) _ _ _;refine wpAny_bind (wpAny_specialOf hT zcj ?_)
 (generalize hid:("list_reverseiterator.__length_hint__" : String)=id0;(fail_if_success (clear hid id0));wp_delta;rw [show splitId id0=some ("list_reverseiterator", "__length_hint__") from by subst hid;decide +kernel];subst hid)
 refine wpAny_bind (wpAny_isInstance (b:=true) hT (by rw [isSubtype_type];kernel_rfl) ?_);exact wpAny_pure (h _)
theorem zbP (P:Program) (w:World) (K:zE) {it a:Addr} {n:Nat} (hne:a≠it):TurnL P w K "list_reverseiterator" (Itv K a n) [it] it (fun i h=>i<=n/\h.IsRevIter it a ((n:Int)-1-i)) where
 mem:=by simp
 ty:=fun i h ⟨_,o,ho,hc,_⟩=>⟨o,ho,hc⟩
 obj:=fun i h ⟨_,o,ho,hc,hd⟩ b hb=>by
  rw [List.mem_singleton] at hb;subst hb;exact ⟨o,ho,fun v z=>by rw [hd] at z;cases z⟩
 keep:=fun i h h' ⟨hi,x⟩ k=>⟨hi,x.at fun o e=>k it (by simp) o e⟩
 item:=by
  intro X e1 e2 e3 hc i pins s σ H E I hf st go;subst e1;subst e2;subst e3;obtain ⟨hi,st⟩:=st;obtain ⟨xs,sq,ln,hlt⟩:=go;obtain ⟨its,rv,pl,hz⟩:=I.list sq;have hlx:n-1-i<xs.length:=by omega
  obtain ⟨u,eu,ru⟩:=rv.get (List.getElem?_eq_getElem hlx);have e:(n:Int)-1-(i:Int)=((n-1-i:Nat):Int):=by omega
  rw [e] at st;refine wpAny_pyNext_rev_item st pl.isList (x:=u) (by simpa using eu) fun h' st' sb=>?_;have e':((n-1-i:Nat):Int)-1=(n:Int)-1-((i+1:Nat):Int):=by omega
  rw [e'] at st';obtain ⟨f1,f2,f3,f4,f5,f6⟩:=hf it (by simp);refine ⟨u,xs[n-1-i],H,rfl,I.turned (t':=s.toks) (fun b o hb e=>sb.extBut b o hb e) f1 f2 f4 f5 f6,ru,⟨rfl,fun ys sq' _=>by rw [I.list_inj sq' sq];exact List.getElem?_eq_getElem hlx⟩,⟨hlt,st'⟩,fun b hb=>(hf b hb).1⟩
 done:=by
  intro X e1 e2 e3 hc i pins s σ H E I hf st stop;subst e1;subst e2;subst e3;obtain ⟨hi,st⟩:=st;have hin:i=n:=stop;subst hin;have e:(i:Int)-1-(i:Int)=-1:=by omega
  rw [e] at st;obtain ⟨f1,f2,f3,f4,f5,f6⟩:=hf it (by simp);exact wpAny_pyNext_rev_end (I.ok.hd hc) st fun h' k=>⟨rfl,I.turned (t':=s.toks) (fun b o hb e=>k b o hb e) f1 f2 f4 f5 f6⟩
 self:=fun A i s Q E st h=>wpAny_pyIter_revIter st.2 h
 hint:=fun A i s Q E st h=>zdO st.2 h
def revS:RS:=fun ws G Q=>match ws with
 | [.ref p]=>∃ xs,zI G p=some xs/\∀ r,G r=none->Q (.ref r) (put G r (.lst xs.reverse))
 |_=>False
theorem pB:wP revS:=by
 intro ws G Q Q' k h;unfold revS at h ⊢
 split at h
 .obtain ⟨xs,e1,h⟩:=h;exact ⟨xs,e1,fun p hp=>k _ _ (h p hp)⟩
 .exact h.elim
theorem zfR {X:Cx} (hc:X.calm=true) (pins:List (Addr×Obj)) (s:Shared) (σ:L2.St) (H:Hp) (vs:List V) (us:List Value) (Q:VK) (I:Inv X pins σ H s) (r:zV vs us) (h:tR X.K revS vs H Q) :
  wpAny (model X.prog X.w) X.A (call (.type "reversed") us) (fun v s1=>wpAny (model X.prog X.w) X.A (call (.type "list") [v]) (EP X pins σ Q) X.xe s1) X.xe s:=by
 obtain ⟨ws,G,rs,ab,h⟩:=h;unfold revS at h
 split at h
 .rename_i p;obtain ⟨v,rfl,rv⟩:=kJ rs;cases (show v=.ref p from rv);obtain ⟨u,rfl,ru⟩:=kK r;cases (show u=Value.ref p from ru);obtain ⟨xs,e,h⟩:=h;obtain ⟨vs,sq,rr⟩:=ab.seq e;obtain ⟨its,vv,pl,hz⟩:=I.list sq;have hl:=pl.isList
  have hlt:p<s.heap.objs.size:=by
   obtain ⟨o,ho,_⟩:=hl;exact Heap.lt_size ho
  refine call_reversed_list hl ?_;have I1:Inv X pins σ H { s with heap:=s.heap.push (revObj p ((its.toArray.size:Int)-1)),toks:=s.toks }:=I.kept fun b u e=>Heap.get?_push_of_some _ e;have en:its.toArray.size=vs.length:=by rw [zzS,← vv.length]
  refine zaK hc (by decide) (by decide) I1 (zbP X.prog X.w X.K (n:=vs.length) (Nat.ne_of_lt hlt)) ⟨Nat.zero_le _,?_⟩ (fun b hb=>?_) vs.length hz
   (fun i acc H'=>H'=H/\acc=vs.reverse.take i) ⟨rfl,by simp⟩ ?_ ?_
  .refine ⟨_,Heap.get?_push_size _ rfl,rfl,?_⟩;show Data.fields #[.ref p,rawInt ((its.toArray.size:Int)-1)]=_;rw [en];simp
  .rw [List.mem_singleton] at hb;subst hb;exact I.fpOk (zzR _) (I.hok.fresh (zzR _))
  .rintro i acc H' hi ⟨rfl,rfl⟩;refine ⟨⟨vs,sq,rfl,hi⟩,?_⟩;rintro v H2 ⟨rfl,e2⟩;refine ⟨rfl,?_⟩;have e2:=e2 vs sq rfl;have hl':i<vs.reverse.length:=by simpa using hi
   rw [List.take_succ_eq_append_getElem hl'];congr 2;have:vs.reverse[i]?=some v:=by rw [List.getElem?_reverse hi];exact e2
   exact (Option.some.inj ((List.getElem?_eq_getElem hl').symm.trans this)).symm
  .rintro acc H' ⟨rfl,rfl⟩;refine ⟨rfl,?_⟩;rw [List.take_of_length_le (by simp)];exact jV ab rr.reverse h
 .exact h.elim
end L3
namespace L3
open PySem PySem.Spec PyProof.Rows L2
def zN (S:List Addr) (G G':Hw):Prop:=∀ a o,a∉S->G a=some o->G' a=some o
theorem zN.refl {S:List Addr} {G:Hw}:zN S G G:=fun _ _ _ h=>h
theorem zN.trans {S:List Addr} {G G1 G2:Hw} (a:zN S G G1) (b:zN S G1 G2):zN S G G2:=fun x o hx h=>b x o hx (a x o hx h)
theorem zN.put {S:List Addr} {G:Hw} {p:Addr} {o:O} (h:p∈S):zN S G (put G p o):=fun x u hx hu=>by
 rw [yD (fun e:x=p=>hx (e▸h))];exact hu
theorem zN.new {S:List Addr} {G:Hw} {p:Addr} {o:O} (h:G p=none):zN S G (L3.put G p o):=fun x u hx hu=>by
 rw [yD (qD hu h)];exact hu
theorem zN.none {S:List Addr} {G G':Hw} {p:Addr} (k:zN S G G') (hp:p∉S) (h:G' p=Option.none):G p=Option.none:=by
 cases e:G p with
 |none=>rfl
 |some o=>rw [k p o hp e] at h;cases h
abbrev kS:yW:=.inr "seed"
abbrev kN:yW:=.inr "number"
abbrev kL:yW:=.inr "left"
def zhd (seed num:Int) (l:Addr):O:=.dic [(kS,.int seed),(kN,.int num),(kL,.ref l)]
structure DealS (G:Hw) (d l:Addr) (seed num:Int) (left:List Int):Prop where
 dic:G d=some (zhd seed num l)
 lst:G l=some (.lst (left.map .int))
 s0:0<=seed
 s1:seed<2147483647
 n0:0<=num
 lf:∀ x∈left,(0:Int)<=x
 len:left.length<=63
 ne:d≠l
def qL (G:Hw) (d l:Addr):Prop:=∃ seed num left,DealS G d l seed num left
theorem dgS {a b c:W}:vV [(kS,a),(kN,b),(kL,c)] kS=some a:=by rfl
theorem dgN {a b c:W}:vV [(kS,a),(kN,b),(kL,c)] kN=some b:=by
 have e1:¬ (kS=kN):=by decide +kernel
 unfold vV;rw [List.find?_cons_of_neg (by simp [e1]),List.find?_cons_of_pos (by simp)];rfl
theorem dgL {a b c:W}:vV [(kS,a),(kN,b),(kL,c)] kL=some c:=by
 have e1:¬ (kS=kL):=by decide +kernel
 have e2:¬ (kN=kL):=by decide +kernel
 unfold vV;rw [List.find?_cons_of_neg (by simp [e1]),List.find?_cons_of_neg (by simp [e2]),List.find?_cons_of_pos (by simp)];rfl
theorem dpN {a b c x:W}:tO [(kS,a),(kN,b),(kL,c)] kN x=[(kS,a),(kN,x),(kL,c)]:=by
 unfold tO;have e1:¬ (kS=kN):=by decide +kernel
 have e2:¬ (kL=kN):=by decide +kernel
 simp [e1,e2]
theorem dpS {a b c x:W}:tO [(kS,a),(kN,b),(kL,c)] kS x=[(kS,x),(kN,b),(kL,c)]:=by
 unfold tO;have e1:¬ (kN=kS):=by decide +kernel
 have e2:¬ (kL=kS):=by decide +kernel
 simp [e1,e2]
def zhh:ISs:=(.cons (.whl (.and (.cmp .Eq (.ix (.var 0) (.con (.str "number"))) (.con (.int 0))) (.cmp .Gt (.call 1 (.cons (.ix (.var 0) (.con (.str "left"))) .nil)) (.con (.int 0)))) (.cons (.asgI (.var 0) (.con (.str "number")) (.mth 0 (.ix (.var 0) (.con (.str "left"))) .nil))
 .nil))
 (.cons (.asg 2 (.ix (.var 0) (.con (.str "number"))))
 (.cons (.ite (.cmp .Gt (.var 2) (.con (.int 0))) (.cons (.asgI (.var 0) (.con (.str "number")) (.bin .FloorDiv (.var 2) (.var 1)))
 (.cons (.ret (.bin .Mod (.var 2) (.var 1)))
 .nil)) .nil)
 (.cons (.asg 3 (.bin .Mod (.bin .Add (.bin .Mult (.ix (.var 0) (.con (.str "seed"))) (.con (.int 48271))) (.con (.int 7919))) (.con (.int 2147483647))))
 (.cons (.asgI (.var 0) (.con (.str "seed")) (.bin .Mod (.bin .Add (.bin .Mult (.var 3) (.con (.int 40692))) (.con (.int 104729))) (.con (.int 2147483399))))
 (.cons (.asg 4 (.bin .Mod (.bin .Mult (.ix (.var 0) (.con (.str "seed"))) (.ix (.var 0) (.con (.str "seed")))) (.con (.int 2147483563))))
 (.cons (.ret (.bin .Mod (.bin .Add (.bin .Mult (.bin .Mod (.bin .Mult (.var 3) (.var 3)) (.con (.int 2147483629))) (.con (.int 2147483563))) (.var 4)) (.var 1)))
 .nil)))))))
abbrev eLen:Fn3:=⟨"len", fun ws G Q _=>gY ws G Q⟩
abbrev ePop:Mt3:=⟨"pop", "list", bT⟩
theorem DealS.put {G:Hw} {d l:Addr} {seed num:Int} {left:List Int} (D:DealS G d l seed num left) {seed' num':Int} (h1:0<=seed') (h2:seed' < 2147483647) (h3:0<=num'):DealS (put G d (zhd seed' num' l)) d l seed' num' left :=
 ⟨zW,by rw [yD D.ne.symm];exact D.lst,h1,h2,h3,D.lf,D.len,D.ne⟩
theorem zab {i j:Int}:vW (.int i) (.int j)=decide (i=j):=by
 simp [vW,Bool.beq_eq_decide_eq]
theorem zeL {G:Hw} {i j:Int}:eqG G (.int i) (.int j)=some (decide (i=j)):=by
 simp [eqG,kD,rN,zab]
theorem zcg {left:List Int}:(left.map W.int)[left.length-1]?=(left[left.length-1]?).map W.int:=by simp
theorem dL {a m:Int} (h:0<m):0<=a % m/\a % m<m:=⟨Int.emod_nonneg _ (by omega),Int.emod_lt_of_pos _ h⟩
theorem nE {d l:Addr} {m:Int} {G G1:Hw} {Q:Q3} {seed num:Int} {left:List Int} (D:DealS G1 d l seed num left) (kp:zN [d,l] G G1) (hm:0<m/\m<1073741824) (few:∀ {a b c:W},[(kS,a),(kN,b),(kL,c)].length<sizeLine)
  (hq:∀ r G',0<=r->r<m->zN [d,l] G G'->qL G' d l->Q (.int r) G'):if decide (0<num)=true then
   CDiv num m/\[(kS,W.int seed),(kN,W.int num),(kL,W.ref l)].length<sizeLine/\0<m/\Q (W.int (num % m)) (put G1 d (O.dic [(kS,W.int seed),(kN,W.int (num / m)),(kL,W.ref l)]))
  else
   gA seed 48271/\(0:Int)<2147483647/\gA ((seed * 48271+7919) % 2147483647) 40692/\(0:Int)<2147483399/\[(kS,W.int seed),(kN,W.int num),(kL,W.ref l)].length<sizeLine /\
   gA (((seed * 48271+7919) % 2147483647 * 40692+104729) % 2147483399) (((seed * 48271+7919) % 2147483647 * 40692+104729) % 2147483399)/\(0:Int)<2147483563 /\
   gA ((seed * 48271+7919) % 2147483647) ((seed * 48271+7919) % 2147483647)/\(0:Int)<2147483629 /\
   gA ((seed * 48271+7919) % 2147483647 * ((seed * 48271+7919) % 2147483647) % 2147483629) 2147483563/\0<m /\
   Q (W.int (((seed * 48271+7919) % 2147483647 * ((seed * 48271+7919) % 2147483647) % 2147483629 * 2147483563+((seed * 48271+7919) % 2147483647 * 40692+104729) % 2147483399 * (((seed * 48271+7919) % 2147483647 * 40692+104729) % 2147483399) % 2147483563) % m))
    (put G1 d (O.dic [(kS,W.int (((seed * 48271+7919) % 2147483647 * 40692+104729) % 2147483399)),(kN,W.int num),(kL,W.ref l)])):=by
 split
 .exact ⟨hm,few,hm.1,hq _ _ (dL hm.1).1 (dL hm.1).2 (kp.trans (zN.put (by simp))) ⟨seed,num / m,left,D.put D.s0 D.s1 (Int.ediv_nonneg D.n0 (by omega))⟩⟩
 .have b1:=dL (a:=seed * 48271+7919) (m:=2147483647) (by decide);generalize (seed * 48271+7919) % 2147483647=x at b1 ⊢;have b2:=dL (a:=x * 40692+104729) (m:=2147483399) (by decide);generalize (x * 40692+104729) % 2147483399=y at b2 ⊢;refine ⟨.inr ⟨by decide,by decide⟩,by decide,.inr ⟨by decide,by decide⟩,by decide,few,.inl ⟨by omega,by omega⟩,by decide,.inl ⟨by omega,by omega⟩,by decide,.inr ⟨by decide,by decide⟩,hm.1,?_⟩;exact hq _ _ (dL hm.1).1 (dL hm.1).2 (kp.trans (zN.put (by simp))) ⟨y,num,left,D.put b2.1 (by omega) D.n0⟩
theorem zcO {Γ:Ctx3} (h1:Γ.fn[1]?=some eLen) (h2:Γ.mt[0]?=some ePop) {d l:Addr} {m:Int} {G:Hw} {Q:Q3} {nx:wU->Hw->Prop} (D:qL G d l) (hm:0<m/\m<1073741824)
  (hq:∀ r G',0<=r->r<m->zN [d,l] G G'->qL G' d l->Q (.int r) G'):yQ Γ XN zhh { nx:=nx,rt:=Q } [some (.ref d),some (.int m),none,none,none] G:=by
 obtain ⟨seed,num,left,D⟩:=D;dsimp only [zhh,yQ,zF,zJ,zD,zL,xY,xC,wT,yZ,zO,yS,List.getElem?_cons_zero,List.getElem?_cons_succ,List.set_cons_zero,List.set_cons_succ];simp only [h1,h2];refine ⟨fun k σ G'=>σ=[some (.ref d),some (.int m),none,none,none]/\zN [d,l] G G'/\∃ num left,k=left.length/\DealS G' d l seed num left,⟨_,rfl,.refl,num,left,rfl,D⟩,?_⟩;rintro k σ G1 ⟨rfl,kp,num,left,rfl,D⟩;have hd:G1 d=some (.dic [(kS,.int seed),(kN,.int num),(kL,.ref l)]):=D.dic;have hl:G1 l=some (.lst (left.map .int)):=D.lst;have hds:∀ o,(put G1 d o) d=some o:=fun o=>zW;have hdl:∀ o,(put G1 l o) d=some (.dic [(kS,.int seed),(kN,.int num),(kL,.ref l)]):=fun o=>by rw [yD D.ne];exact hd
 have few:∀ {a b c:W},[(kS,a),(kN,b),(kL,c)].length<sizeLine:=by intros;show 3<sizeLine;rw [sizeLine_eq];decide
 simp only [List.getElem?_cons_zero,List.getElem?_cons_succ,List.set_cons_zero,List.set_cons_succ,uX,hd,kF,dgN,dgL,dgS,wZ,zeL,xD,gY,hG,hl,zzM,tyW,bT,hZ,zcg,fL,hdl,hds,dpN,dpS,qN]
 by_cases hn:num=0
 .simp only [decide_eq_true hn,if_true]
  by_cases hlen:(0:Int)<(left.length:Int)
  .simp only [decide_eq_true hlen,if_true];have hlast:left.length-1<left.length:=by omega
   rw [List.getElem?_eq_getElem hlast];simp only [Option.map_some];refine ⟨trivial,few,left.dropLast.length,by rw [List.length_dropLast];omega,trivial,?_,left[left.length-1],left.dropLast,rfl,?_⟩
   .exact (kp.trans (zN.put (by simp))).trans (zN.put (by simp))
   .refine ⟨zW,?_,D.s0,D.s1,D.lf _ (List.getElem_mem hlast),fun x hx=>D.lf x (List.dropLast_subset _ hx),by have:=D.len;rw [List.length_dropLast];omega,D.ne⟩;rw [yD D.ne.symm,zW,List.map_dropLast]
  .simp only [decide_eq_false hlen,zzB,if_false];exact nE D kp hm few hq
 .simp only [decide_eq_false hn,zzB,if_false];exact nE D kp hm few hq
theorem zaL {items:List W} {stab:Hw->Prop} {G1:Hw} {turn:W->Hw->(Option W->Hw->Prop)->Prop} {Q:Q3} (f:W->Option W) (hs:stab G1) (hl:items.length<=sizeLine) (ht:∀ w∈items,∀ K:Option W->Hw->Prop,K (f w) G1->turn w G1 K)
  (hq:∀ p,G1 p=none->Q (.ref p) (put G1 p (.lst (items.filterMap f)))):lcR items stab G1 turn Q:=by
 refine ⟨fun i acc G=>G=G1/\acc=(items.take i).filterMap f,⟨rfl,by simp⟩,?_,hl,?_,?_⟩
 .rintro i acc G ⟨rfl,rfl⟩ hi;refine ⟨hs,Nat.le_trans (List.length_filterMap_le _ _) ?_⟩;rw [List.length_take];omega
 .rintro i w acc G hi ⟨rfl,rfl⟩;have hlt:i<items.length:=(List.getElem?_eq_some_iff.mp hi).1;have hw:items[i]=w:=(List.getElem?_eq_some_iff.mp hi).2;refine ht w (List.mem_of_getElem? hi) _ ?_;have et:items.take (i+1)=items.take i++[w]:=by rw [List.take_succ_eq_append_getElem hlt,hw]
  cases e:f w with
  |some x=>exact ⟨rfl,by rw [et,List.filterMap_append];simp [e]⟩
  |none=>exact ⟨rfl,by rw [et,List.filterMap_append];simp [e]⟩
 .rintro acc G ⟨rfl,rfl⟩ p hp;rw [List.take_length];exact hq p hp
theorem zbd {α β:Type} (f:α->β) (xs:List α) (lo hi:Option Int):vD (xs.map f) lo hi=(vD xs lo hi).map f:=by
 unfold vD;rw [zzM,List.map_take,List.map_drop]
theorem ze6 {α:Type} (xs:List α) (lo hi:Option Int):(vD xs lo hi).length<=xs.length:=by
 unfold vD;rw [List.length_take,List.length_drop];omega
def zhi:ISs:=(.cons (.asg 2 (.lc (.nm 0) ["_law_cell"] [] (.val (.sl (.var 0) (.yes (.var 1)) (.yes (.con (.int 63))))) .no (.call 0 (.cons (.var 0) (.cons (.bin .Sub (.con (.int 0)) (.var 0)) .nil)))))
 (.cons (.asg 3 (.bin .Add (.con (.int 7919)) (.var 1)))
 (.cons (.for (.nm 4) (.val (.var 2)) (.cons (.asg 3 (.bin .Mod (.bin .Add (.bin .Mult (.var 3) (.con (.int 69621))) (.bin .Mod (.var 4) (.con (.int 2147483629)))) (.con (.int 2147483647))))
 .nil))
 (.cons (.ret (.dct ["seed", "number", "left"] (.cons (.var 3) (.cons (.con (.int 0)) (.cons (.spc 0 (.cons (.lc (.nm 0) ["_law_cell"] [] (.val (.var 2)) (.yes (.cmp .GtE (.var 0) (.bin .Pow (.con (.int 10)) (.con (.int 18))))) (.var 0)) .nil)) .nil)))))
 .nil))))
abbrev eMax:Fn3:=⟨"max", fun ws G Q _=>maxS ws G Q⟩
abbrev eRev:Sx3:=⟨lofM "reversed", revS⟩
def tN (x:Int):Int:=if 0-x > x then 0-x else x
theorem zfe (x:Int):0<=tN x:=by unfold tN;split<;>omega
theorem wJ {G:Hw} {p:Addr} {ws:List W} (h:G p=some (.lst ws)):zI G p=some ws:=by unfold zI;rw [h]
theorem dct3 {a b c:W}:ze4 ["seed", "number", "left"] [a,b,c]=[(kS,a),(kN,b),(kL,c)]:=by
 have e1:¬ (kS=kN):=by decide +kernel
 have e2:¬ (kS=kL):=by decide +kernel
 have e3:¬ (kN=kL):=by decide +kernel
 simp [ze4,tO,e1,e2,e3]
def mV (G:Hw) (w:W) (ns:List Int):Prop:=(∃ a,w=.ref a/\zI G a=some (ns.map .int))\/w=.lsf (ns.map .int)
theorem mV.sl {G:Hw} {w:W} {ns:List Int} (h:mV G w ns) {lo hi:Option Int} {Q:Q3} (hq:∀ r,G r=none->Q (.ref r) (put G r (.lst (vD (ns.map W.int) lo hi)))):slR w lo hi G Q:=by
 rcases h with ⟨a,rfl,e⟩|rfl
 .simp only [slR,e];exact hq
 .exact hq
theorem zcQ {Γ:Ctx3} (h0:Γ.fn[0]?=some eMax) (h2:Γ.sx[0]?=some eRev) {a:W} {base:Int} {ns:List Int} {G:Hw} {Q:Q3} {nx:wU->Hw->Prop} (hs:mV G a ns) (hl:ns.length<=63) (hb:0<=base/\base<=1000)
  (hq:∀ d l G',G d=none->G l=none->zN [] G G'->qL G' d l->Q (.ref d) G'):yQ Γ XN zhi { nx:=nx,rt:=Q } [some a,some (.int base),none,none,none] G:=by
 dsimp only [zhi,yQ,zF,zJ,zD,zL,xY,xC,wT,yZ,zO,zC,yY,zA,zM,yS,List.getElem?_cons_zero,List.getElem?_cons_succ,yT];simp only [h0,h2,uA];refine hs.sl fun p1 hp1=>?_;dsimp only;have hp1':zI (put G p1 (.lst (vD (ns.map W.int) (some base) (some 63)))) p1=some (vD (ns.map W.int) (some base) (some 63)):=wJ zW;rw [hp1'];rw [zbd];generalize ecs:vD ns (some base) (some 63)=cs;have hcl:cs.length<=63:=by rw [← ecs];exact Nat.le_trans (ze6 _ _ _) hl
 rw [zbd,ecs] at hp1';refine zaL (fun w=>match w with|.int x=>some (.int (tN x))|_=>none) hp1' (by rw [zzM,sizeLine_eq];omega) ?_ ?_
 .intro w hw K hK;obtain ⟨x,hx,rfl⟩:=zzP hw;simp only [capS,List.length_cons,List.length_nil,List.replicate,zzV,List.append_nil,List.set_cons_zero,List.getElem?_cons_zero,qN,maxS,if_true];exact hK
 .intro p2 hp2
  have ef:(cs.map W.int).filterMap (fun w=>match w with|.int x=>some (.int (tN x))|_=>none)=(cs.map tN).map W.int:=by
   rw [List.filterMap_map,List.map_map,← List.filterMap_eq_map];rfl
  rw [ef];generalize eG:put (put G p1 (.lst (cs.map W.int))) p2 (.lst ((cs.map tN).map W.int))=G2;have kp2:zN [] G G2:=by rw [← eG];exact (zN.new hp1).trans (zN.new hp2)
  have g2:G2 p2=some (.lst ((cs.map tN).map W.int)):=by rw [← eG];exact zW
  simp only [List.getElem?_cons_zero,List.getElem?_cons_succ,List.set_cons_zero,List.set_cons_succ,qN,wJ g2];refine ⟨fun i σ G'=>G'=G2/\∃ (n:Int) (c:Option W),σ=[some a,some (.int base),some (.ref p2),some (.int n),c]/\0<=n/\n<2147483647,⟨rfl,7919+base,none,rfl,by omega,by omega⟩,?_,?_,?_⟩
  .rintro i σ G' ⟨rfl,_⟩ _;exact wJ g2
  .rintro i w σ G' hi ⟨rfl,n,c,rfl,n0,n1⟩;have hw:=List.mem_of_getElem? hi;obtain ⟨x,hx,rfl⟩:=zzP hw;simp only [List.getElem?_cons_zero,List.getElem?_cons_succ,List.set_cons_zero,List.set_cons_succ,qN];exact ⟨.inr ⟨by decide,by decide⟩,by decide,by decide,trivial,_,_,rfl,(dL (by decide)).1,(dL (by decide)).2⟩
  .rintro σ G' ⟨rfl,n,c,rfl,n0,n1⟩;intro d hd;simp only [List.getElem?_cons_zero,List.getElem?_cons_succ];have g3:(put G' d (.dic [])) p2=some (.lst ((cs.map tN).map W.int)):=by rw [yD (qD g2 hd)];exact g2
   simp only [wJ g3];refine zaL (fun w=>match w with|.int x=>if (10:Int) ^ 18<=x then some (.int x) else none|_=>none) (wJ g3) (by rw [zzM,zzM,sizeLine_eq];omega) ?_ ?_
   .intro w hw K hK;obtain ⟨x,hx,rfl⟩:=zzP hw;simp only [capS,List.length_cons,List.length_nil,List.replicate,zzV,List.append_nil,List.set_cons_zero,List.getElem?_cons_zero,qN,wZ,hZ,xD];refine ⟨⟨by decide,by decide,by decide⟩,?_⟩;have e18:(10:Int) ^ (18:Int).toNat=10 ^ 18:=rfl;rw [e18]
    by_cases hx:(10:Int) ^ 18<=x
    .rw [decide_eq_true hx,if_pos rfl];simp only [if_pos hx] at hK;exact hK
    .rw [decide_eq_false hx,if_neg zzN];simp only [if_neg hx] at hK;exact hK
   .intro p3 hp3
    have ef:((cs.map tN).map W.int).filterMap (fun w=>match w with|.int x=>if (10:Int) ^ 18<=x then some (.int x) else none|_=>none)=((cs.map tN).filter fun x=>decide ((10:Int) ^ 18<=x)).map W.int:=by
     generalize cs.map tN=ys
     induction ys with
     |nil=>rfl
     |cons y ys ih =>
      rw [zzU,List.filterMap_cons,List.filter_cons]
      by_cases hy:(10:Int) ^ 18<=y
      .simp only [if_pos hy,decide_eq_true hy,if_true,zzU,ih]
      .simp only [if_neg hy,decide_eq_false hy,zzB,if_false,ih]
    rw [ef];generalize efl:(cs.map tN).filter (fun x=>decide ((10:Int) ^ 18<=x))=fl;have flen:fl.length<=63:=by rw [← efl];refine Nat.le_trans (List.length_filter_le _ _) ?_;rw [zzM];exact hcl
    have fnn:∀ x∈fl,(0:Int)<=x:=fun x hx=>by
     rw [← efl] at hx;obtain ⟨y,hy,rfl⟩:=zzP (List.mem_filter.mp hx).1;exact zfe y
    refine ⟨fl.map W.int,wJ zW,fun l hl'=>?_⟩
    have ned:d≠l:=fun e=>by
     subst e;rw [yD (qD zW hp3),zW] at hl';cases hl'
    have np3:d≠p3:=qD zW hp3;refine ⟨by rw [yD ned,yD np3,zW],rfl,?_⟩;rw [dct3];refine hq d l _ (kp2.none (by simp) hd) ?_ ?_ ⟨n,0,fl.reverse,zW,?_,n0,n1,by omega,fun x hx=>fnn x (List.mem_reverse.mp hx),by rw [List.length_reverse];exact flen,ned⟩
    .have k3:zN [] G (put (put G' d (.dic [])) p3 (.lst (fl.map W.int))):=(kp2.trans (zN.new hd)).trans (zN.new hp3);exact k3.none (by simp) hl'
    .intro x u hx hu;rw [yD (qD hu (kp2.none (by simp) hd))];exact ((((kp2.trans (zN.new hd)).trans (zN.new hp3)).trans (zN.new hl')) x u hx hu)
    .rw [yD ned.symm,zW,← List.map_reverse]
structure FunD (K:zE) (x qual:Str) (st:Stmt) (dV:Value) (f:Addr) (fd:FuncData):Prop where
 ex:∃ (oc:Value) (od:Option Addr) (kV doc pm:Value) (an:Option Addr) (cdv ct:Value) (osl:Array (Option Value)),
  fd=PySem.W.fnOf x qual (yO st) (zQ st) (zZ st) dV kV doc pm an cdv ct/\K.lookup f=some ⟨oc,od,.func fd,osl⟩/\PySem.W.codeIn K cdv qual=true
 kp:PySem.W.keepIn K (.ref f)=true
theorem gU {Γ:Ctx3} {q:Pr} {k:Nat} {M:MC} {x qual:Str} {st:Stmt} {dV:Value} {f:Addr} {fd:FuncData} {ps:List Str} {sp:tV} {body:ISs} (F:FunD q.K x qual st dV f fd) (S:FnScope M.N ps (zZ st)) (g:∀ A,Room k A->Good Γ (q.at A))
  (eM:MOk Γ M (zZ st)) (hm:uO body M (zQ st)=true) (len:∀ ws G Q,sp ws G Q XN->ws.length=ps.length)
  (hb:∀ ws G Q,sp ws G Q XN->yQ Γ XN body { nx:=fun _ G'=>Q .non G',rt:=Q } (yR M.N ws) G):FnOk q.prog q.w q.K q.mg q.base CX0 (k+1) f fd ps (jM q.K sp):=by
 obtain ⟨oc,od,kV,doc,pm,an,cdv,ct,osl,rfl,lk,hcd⟩:=F.ex;refine fn_of lk hcd S (fun vs H Q E h=>?_) fun A outer s H vs Q E hr h=>?_
 .obtain ⟨ws,G,rs,ab,h⟩:=h;rw [rs.length];exact len ws G _ h
 .obtain ⟨ws,G,rs,ab,h⟩:=h;have gg:=g _ hr;refine ⟨lowS q.K (yQ Γ XN body),cK.nox (sndSs gg body M _ (zQ st) ?_ hm),?_⟩
  .exact ⟨⟨rfl,rfl,rfl,rfl,rfl,rfl,rfl,rfl⟩,rfl,eM.sc.symm,S.nd,fun _ _=>rfl,by rw [eM.sc];exact S.kind,eM.fns,eM.gls,eM.mts,eM.its,eM.sxs,eM.ixs⟩
  .refine ⟨yR M.N ws,G,_,zao rs,ab,⟨?_,?_,?_,?_⟩,hb ws G _ h⟩
   .exact fun σ G' τ H' g' _ a' z=>z .non H' g' (show yA q.K H' .non .non from rfl) a'
   .exact fun σ G' τ H' g' _ a' z=>z.elim
   .exact fun σ G' τ H' g' _ a' z=>z.elim
   .exact fun w G' v H' g' r' a' z=>z v H' g' r' a'
structure HD (K:zE) (x qual:Str) (st:Stmt) (dV:Value) (f:Addr):Prop where
 ex:∃ (oc:Value) (od an:Option Addr) (osl:Array (Option Value)) (kV doc pm cdv ct:Value),K.lookup f=some ⟨oc,od,.func (PySem.W.fnOf x qual (yO st) (zQ st) (zZ st) dV kV doc pm an cdv ct),osl⟩/\PySem.W.codeIn K cdv qual=true
 kp:PySem.W.keepIn K (.ref f)=true
theorem HD.mk' {K:zE} {x qual:Str} {st:Stmt} {dV:Value} {f:Addr} {oc:Value} {od an:Option Addr} {osl:Array (Option Value)} {kV doc pm cdv ct:Value}
  (l:K.lookup f=some ⟨oc,od,.func (PySem.W.fnOf x qual (yO st) (zQ st) (zZ st) dV kV doc pm an cdv ct),osl⟩) (c:PySem.W.codeIn K cdv qual=true) (k:PySem.W.keepIn K (.ref f)=true):HD K x qual st dV f:=⟨⟨oc,od,an,osl,kV,doc,pm,cdv,ct,l,c⟩,k⟩
theorem HD.fd {K:zE} {x qual:Str} {st:Stmt} {dV:Value} {f:Addr} (h:HD K x qual st dV f):∃ fd,FunD K x qual st dV f fd/\∃ kV doc pm an cdv ct,fd=PySem.W.fnOf x qual (yO st) (zQ st) (zZ st) dV kV doc pm an cdv ct:=by
 obtain ⟨oc,od,an,osl,kV,doc,pm,cdv,ct,l,c⟩:=h.ex;exact ⟨_,⟨⟨oc,od,kV,doc,pm,an,cdv,ct,osl,rfl,l,c⟩,h.kp⟩,kV,doc,pm,an,cdv,ct,rfl⟩
def cN (f:Fn3):Prop:=∀ ws G (Q Q':Q3) E,(∀ w G',Q w G'->Q' w G')->f.sp ws G Q E->f.sp ws G Q' E
def qQ (p:Par) (f:Fn3):Prop:=FnE p f/\cN f
def uI (m:Mt3):Prop:=∀ x ws G (Q Q':Q3),(∀ w G',Q w G'->Q' w G')->m.sp x ws G Q->m.sp x ws G Q'
def zbs (m:It3):Prop:=∀ ws G (R R':List W->(Hw->Prop)->Hw->Prop),(∀ a b c,R a b c->R' a b c)->m.sp ws G R->m.sp ws G R'
def GlE (p:Par) (g:Str×W):Prop:=∀ X,Fits p X->Gl X g.1->∀ q:Pos,(g.1==("__debug__" : Str))=false->g.1 ≠ "__name__" -> PE X (.Name g.1 q) (yM X.K fun _ G Q=>Q g.2 G)
theorem xU {α:Type} {P:α->Prop}:∀ x∈([]:List α),P x:=fun _ h=>nomatch h
theorem zY {α:Type} {P:α->Prop} {a:α} {l:List α} (h:P a) (t:∀ x∈l,P x):∀ x∈a::l,P x:=fun x hx=>by
 rcases List.mem_cons.mp hx with rfl|hx
 .exact h
 .exact t x hx
theorem dA {α:Type} {P:α->Prop} {a:α} {l:List α} (t:∀ x∈l,P x) (h:P a):∀ x∈l++[a],P x:=fun x hx=>by
 rcases List.mem_append.mp hx with hx|hx
 .exact t x hx
 .rw [zzO hx];exact h
theorem zaZ {q:Pr} {A:Around} {x:Str} {w:W} {u:Value} {v:V} (hm:q.mg x=some u) (r:zR v u) (rp:∀ H,yA q.K H w v):GlE (q.at A) (x,w):=by
 intro X fits gl qp hd hn;have hm':X.mg x=some u:=by rw [fits.mg];exact hm
 refine (zd5 gl hm' r hd).imp fun τ H Q h=>?_;obtain ⟨σ,G,hs,ab,h⟩:=h;exact h v H .refl (by have:=rp H;rw [fits.K];exact this) ab
theorem zeG {q:Pr} {A:Around} {x:Str} {T:String} (hm:q.mg x=none) (hv:bootBuiltins x=some (.type T)):GlE (q.at A) (x,.ty T):=by
 intro X fits gl qp hd hn;have hm':X.mg x=none:=by rw [fits.mg];exact hm
 refine (zd9 (v:=.ty T) gl hm' hv rfl hn hd).imp fun τ H Q h=>?_;obtain ⟨σ,G,hs,ab,h⟩:=h;exact h (.ty T) H .refl rfl ab
theorem wM {K:zE} {a:Addr} {o:Obj} {its:Array Value} {n:Nat} {ws:List W} {vs:List V} (l:K.lookup a=some o) (hc:o.cls=.type "tuple") (hd:o.data=.seq its n) (hz:its.size<=sizeLine) (hv:zV vs its.toList) (hr:∀ H,zX K H ws vs):∀ H,yA K H (.tup ws) (.ref a) :=
 fun H=>⟨a,vs,rfl,.inr ⟨o,its,n,l,hc,hd,hz,hv⟩,hr H⟩
def bZ:tV:=fun ws G Q _=>∃ a base ns,ws=[a,.int base]/\mV G a ns/\ns.length<=63/\(0<=base/\base<=1000)/\∀ d l G',G d=none->G l=none->zN [] G G'->qL G' d l->Q (.ref d) G'
def sW:tV:=fun ws G Q _=>∃ d l m,ws=[.ref d,.int m]/\qL G d l/\(0<m/\m<1073741824)/\∀ r G',0<=r->r<m->zN [d,l] G G'->qL G' d l->Q (.int r) G'
theorem fO:cN ⟨"_law_deal", bZ⟩:=fun ws G Q Q' E k hh=>by
 obtain ⟨a,b,ns,h1,h2,h3,h4,h⟩:=hh;exact ⟨a,b,ns,h1,h2,h3,h4,fun d l G' a b c e=>k _ _ (h d l G' a b c e)⟩
theorem fP:cN ⟨"_law_draw", sW⟩:=fun ws G Q Q' E k hh=>by
 obtain ⟨a,b,m,h1,h2,h3,h⟩:=hh;exact ⟨a,b,m,h1,h2,h3,fun d l a b c e=>k _ _ (h d l a b c e)⟩
abbrev zhb:Fn3:=⟨"_law_deal", bZ⟩
abbrev zha:Fn3:=⟨"_law_draw", sW⟩
abbrev eAll:Fn3:=⟨"all", fun ws G Q _=>allS (·.all id) ws G Q⟩
abbrev eLst:Fn3:=⟨"list", fun ws G Q _=>lstS ws G Q⟩
section
variable {q : Pr} {A : Around} {k : Nat}
theorem zeP (hm:q.mg "max" = none):qQ (q.at A) eMax:=⟨rQ hm (by decide +kernel) (fun X f=>zgx f.calm) nU (fun _ _ h=>h),fun ws G Q Q' _ k h=>nU ws G Q Q' k h⟩
theorem zeR (hm:q.mg "len" = none):qQ (q.at A) eLen:=⟨rQ hm (by decide +kernel) (fun X f=>zgz) nR (fun _ _ h=>h),fun ws G Q Q' _ k h=>nR ws G Q Q' k h⟩
theorem zeW (hm:q.mg "all" = none):qQ (q.at A) eAll:=⟨rQ hm (by decide +kernel) (fun X f=>zhk f.calm) (mW _) (fun _ _ h=>h),fun ws G Q Q' _ k h=>mW _ ws G Q Q' k h⟩
theorem zeQ (hm:q.mg "list" = none):qQ (q.at A) eLst:=⟨fn_ty hm (by decide +kernel) (fun X f=>zgy) nT (fun _ _ h=>h),fun ws G Q Q' _ k h=>nT ws G Q Q' k h⟩
theorem zeO:MtE (q.at A) ePop/\uI ePop:=⟨sL PySem.F.plainAttrs_list PySem.F.slot_list_pop PySem.F.type_list_pop (fun X f=>zf3) nZ,nZ⟩
theorem zeN (hl:q.mg "list" = none) (hm:q.mg "reversed" = none):SxE (q.at A) eRev/\wP eRev.sp:=⟨zfE hl hm (by decide +kernel) pB (fun X f=>zfR f.calm),pB⟩
end
theorem FnE.imp {p:Par} {nm:Str} {sp sp':tV} (h:FnE p ⟨nm,sp'⟩) (k:∀ ws G Q,sp ws G Q XN->sp' ws G Q XN):FnE p ⟨nm,sp⟩:=by
 intro X fits gl args t qp pos mt hn pa hnil hdb hnm;refine (h X fits gl args t qp pos mt hn pa hnil hdb hnm).imp fun τ H Q z=>?_;obtain ⟨σ,G,hs,ab,z⟩:=z;exact ⟨σ,G,hs,ab,mt σ G _ _ (fun ws G1 z=>k _ _ _ z) z⟩
theorem zcV {K:zE} {x qual:Str} {st:Stmt} {f:Addr} {fd:FuncData} {ps:List Str} (F:FunD K x qual st .none f fd)
  (h:∀ (kV doc pm:Value) (an:Option Addr) (cdv ct:Value) (us:List Value),us.length=ps.length->bindArgs (PySem.W.fnOf x qual (yO st) (zQ st) (zZ st) .none kV doc pm an cdv ct) ⟨us,[]⟩=pure (ps.zip us)):jZ K fd ps []:=by
 obtain ⟨oc,od,kV,doc,pm,an,cdv,ct,osl,rfl,lk,hcd⟩:=F.ex;exact .all (h kV doc pm an cdv ct)
theorem zbn {K:zE} {x qual:Str} {st:Stmt} {T f:Addr} {fd:FuncData} {ps:List Str} {o:Obj} {items:Array Value} {n:Nat} (F:FunD K x qual st (.ref T) f fd) (l:K.lookup T=some o) (hd:o.data=.seq items n)
  (h:∀ (kV doc pm:Value) (an:Option Addr) (cdv ct:Value) (us:List Value),us.length=ps.length->∃ k:Option (Array Value)->Sem (List (Str×Value)),bindArgs (PySem.W.fnOf x qual (yO st) (zQ st) (zZ st) (.ref T) kV doc pm an cdv ct) ⟨us,[]⟩=seqItems? (.ref T) >>= k/\k (some items)=pure (ps.zip us)):jZ K fd ps []:=by
 obtain ⟨oc,od,kV,doc,pm,an,cdv,ct,osl,rfl,lk,hcd⟩:=F.ex;intro s us X hl;rw [List.append_nil] at hl ⊢;obtain ⟨k,h1,h2⟩:=h kV doc pm an cdv ct us hl;exact BindsTo.of_defaults rfl (X _ _ l) hd h1 h2
theorem zeT {q:Pr} {j k:Nat} {nm:Str} {f:Addr} {fd:FuncData} {ps:List Str} {sp:tV} (FO:FnOk q.prog q.w q.K q.mg q.base CX0 j f fd ps (jM q.K sp)) (hm:q.mg nm=some (.ref f)) (hk:PySem.W.keepIn q.K (.ref f)=true) (hb:jZ q.K fd ps [])
  (mono:cN ⟨nm,sp⟩) {A:Around} (hr:Room k A) (hjk:j<=k):qQ (q.at A) ⟨nm,sp⟩ :=
 ⟨(zg4 (dws:=[]) (dvs:=[]) (FO.mono hjk) hm hk hb (fun _=>rfl) .nil (fun ws G Q Q' z h=>mono ws G Q Q' XN z h) hr).imp fun ws G Q h=>by rw [List.append_nil];exact h,mono⟩
theorem zeU {q:Pr} {j k:Nat} {nm:Str} {C f:Addr} {fd:FuncData} {ps:List Str} {sp:tV} (M:Mk q.K C f) (FO:FnOk q.prog q.w q.K q.mg q.base CX0 j f fd ps (jM q.K sp)) (hm:q.mg nm=some (.ref C)) (hb:jZ q.K fd ps [])
  (mono:∀ ws G (Q Q':Q3),(∀ w G',Q w G'->Q' w G')->sp ws G Q XN->sp ws G Q' XN) {A:Around} (hr:Room k A) (hjk:j+1<=k):qQ (q.at A) ⟨nm,mkSp C sp []⟩ :=
 ⟨zdm (dws:=[]) (dvs:=[]) M FO hm hb (fun _=>rfl) .nil mono (hr.mono hjk),fun ws G Q Q' E z h p hp=>mono _ _ _ _ (fun w G' y=>⟨y.1,z _ _ y.2⟩) (h p hp)⟩
def pE:tV:=fun ws G Q _=>∃ a ns,ws=[a]/\mV G a ns/\ns.length<=63/\∀ G',Q (.bl true) G'
theorem kY {K:zE} {H:Hp}:∀ ns:List Int,zX K H (ns.map W.int) (ns.map V.int)
 | []=>rfl
 |n::ns=>⟨.int n,_,rfl,rfl,kY ns⟩
theorem zaN {K:zE} {H:Hp} {a:Addr} {ns:List Int} (hl:ns.length<=63) (hS:tW K H a (ns.map V.int)):jM K pE [.ref a] H (fun v _=>v=.bl true) fun _ _ _=>False:=by
 rcases hS with hS|hS
 .refine ⟨[.ref a],fun b=>if b=a then some (.fix (ns.map W.int)) else none,⟨_,[],rfl,rfl,rfl⟩,?_,.ref a,ns,rfl,.inl ⟨a,rfl,by simp [zI]⟩,hl,fun G' v H' _ r _=>r⟩;intro b o e;dsimp only at e
  by_cases hb:b=a
  .subst hb;rw [if_pos rfl] at e;cases e;rcases hS with hS|⟨ob,hS⟩
   .exact ⟨_,hS,_,default,.inl rfl,kY ns⟩
   .exact ⟨_,hS,_,ob,.inr rfl,kY ns⟩
  .rw [if_neg hb] at e;cases e
 .exact ⟨[.lsf (ns.map W.int)],fun _=>none,⟨_,[],rfl,⟨a,_,rfl,hS,kY ns⟩,rfl⟩,(fun b o e=>nomatch e),.lsf (ns.map W.int),ns,rfl,.inr rfl,hl,fun G' v H' _ r _=>r⟩
theorem walk3 {l:PySem.W.OpenLaw} {k:Nat} {q:Program} {loose:List Str} {XP:(Str->Option Value)->Heap->Prop} {YP:World->Heap->Prop} {d:DefRec} {K:Params->PySem.W.Frag} (hn:l.most=some 63) (hdf:d.params.defaults=[]) (hr:Room k callerA)
  (hY:∀ (w:World) (h:Heap),YP w h->(K w.params).In h)
  (F:∀ (w:World) (mg:Str->Option Value) (fa:Addr) (h:Heap),(K w.params).In h->h.Ns mainGlobals mg->mg d.name=some (.ref fa) ->
   ∃ fd:FuncData,(∀ (s:Shared) (u:Value),BindsTo s fd ⟨[u],[]⟩ [("_law_script", u)])/\fd.scope.names.lookup ("_law_script" : Str)=some .local/\∀ base:Heap,(K w.params).In base->base.Ns mainGlobals mg->FnOk l.prog w (K w.params) mg base CX0 k fa fd ["_law_script"] (jM (K w.params) pE)) :
  PySem.W.WalkO q loose XP YP l.row.toRowW d [] (fun f vs=>PySem.call f vs) :=
 L2.walk_of (n:=63) (k:=k) (x := "_law_script") (CX:=fun _=>CX0) (sp:=fun w=>jM (K w.params) pE) hn (by decide) hdf hr hY F (fun _ _ a ns hl _ hS=>zaN hl hS) fun _ _ _ _ _ z=>z
end L3
namespace L3
open PySem PySem.Spec PyProof.Rows L2 PySem.SeqAt
def nN:MS:=fun x ws G Q=>match x,ws with
 | .str sep,[.ref p]=>∃ ts:List Str,zI G p=some (ts.map .str)/\JoinOk sep ts=true/\Q (.str (Txt.join sep ts)) G
 |_,_=>False
theorem rV:∀ x ws G (Q Q':Q3),(∀ w G',Q w G'->Q' w G')->nN x ws G Q->nN x ws G Q':=by
 intro x ws G Q Q' k h;unfold nN at h ⊢
 split at h
 .obtain ⟨ts,e,o,h⟩:=h;exact ⟨ts,e,o,k _ _ h⟩
 .exact h.elim
theorem pI {K:zE} {H:Hp}:∀ {ts:List Str} {vs:List V} {us:List Value},zX K H (ts.map .str) vs->zV vs us->∃ l:List (Str×Tok),l.map (·.1)=ts/\us=strValues l
 | [],vs,us,r,v=>by cases (show vs=[] from r);cases v;exact ⟨[],rfl,rfl⟩
 |t::ts,vs,us,r,v=>by
  obtain ⟨x,tl,rfl,rx,rt⟩:=r;cases (show x=.str t from rx)
  cases v with
  |cons a c =>
   obtain ⟨tk,rfl⟩:=a;obtain ⟨l,e1,e2⟩:=pI rt c;exact ⟨(t,tk)::l,by rw [zzU,e1],by rw [e2];rfl⟩
theorem zeq {X:Cx}:MtR X "str.join" (lowM X.K nN):=by
 intro pins s σ H x xs v us Q I rx rxs h;obtain ⟨w,ws,G,rw1,rs,ab,h⟩:=h;unfold nN at h
 split at h
 .rename_i sep p;cases (show x=.str sep from rw1);obtain ⟨y,rfl,ry⟩:=kJ rs;cases (show y=.ref p from ry);obtain ⟨u,rfl,ru⟩:=kK rxs;cases (show u=Value.ref p from ru);obtain ⟨t,rfl⟩:=rx;obtain ⟨ts,e,ok,h⟩:=h;obtain ⟨vs,sq,rr⟩:=ab.seq e;obtain ⟨its,vv,pl,hz⟩:=I.list sq;obtain ⟨l,e1,e2⟩:=pI rr vv;subst e2;exact wI I.tk (SC.join pl.isList e1 ok fun t' k h0=>⟨.str (Txt.join sep ts),H,I.tok _ h0,⟨t',rfl⟩,h _ H .refl rfl ab⟩)
 .exact h.elim
abbrev nF:Mt3:=⟨"join", "str", nN⟩
theorem zcK {q:Pr} {A:Around}:MtE (q.at A) nF/\uI nF:=⟨sL PySem.F.plainAttrs_str PySem.F.slot_str_join PySem.F.type_str_join (fun X f=>zeq) rV,rV⟩
theorem zgE {X:Cx} {pins:List (Addr×Obj)} {σ:L2.St} {H:Hp} {s:Shared} {G:Hw} {w:W} {v:V} {u:Value} {T:String} (I:Inv X pins σ H s) (ab:yF X.K H G) (rv:yA X.K H w v) (ru:zR v u) (ty:tyO G w=some T) :
  ∃ HH:Heap->Prop,PySem.W.KitX X.K u (.type T) HH/\HH s.heap/\u≠.builtin "__main__.__loader__#opaque" := by
 cases w with
 |non=>cases ty;cases (show v=.non from rv);cases (show u=Value.none from ru);exact ⟨_,PySem.W.kitx_none,True.intro,fun z=>nomatch z⟩
 |bl x=>cases ty;cases (show v=.bl x from rv);cases (show u=Value.bool x from ru);exact ⟨_,PySem.W.kitx_bool,True.intro,fun z=>nomatch z⟩
 |int x=>cases ty;cases (show v=.int x from rv);obtain ⟨t,rfl⟩:=(show ∃ t,u=Value.int x t from ru);exact ⟨_,PySem.W.kitx_int,True.intro,fun z=>nomatch z⟩
 |str x=>cases ty;cases (show v=.str x from rv);obtain ⟨t,rfl⟩:=(show ∃ t,u=Value.str x t from ru);exact ⟨_,PySem.W.kitx_str,True.intro,fun z=>nomatch z⟩
 |tup ws' =>
  cases ty;obtain ⟨a,vs,rfl,sq,rr⟩:=rv;cases (show u=Value.ref a from ru);obtain ⟨its,_,p,_⟩:=I.tuple sq;obtain ⟨o,h1,h2,_⟩:=p;exact ⟨_,PySem.W.kitx_tuple,⟨o,h1,h2⟩,fun z=>nomatch z⟩
 |ref p =>
  cases (show v=.ref p from rv);cases (show u=Value.ref p from ru);simp only [tyO] at ty
  have lk:∀ ws',zI G p=some ws'->∃ HH:Heap->Prop,PySem.W.KitX X.K (.ref p) (.type "list") HH/\HH s.heap/\Value.ref p≠.builtin "__main__.__loader__#opaque" := fun ws' el=>by
   obtain ⟨vs,sq,rr⟩:=ab.seq el;obtain ⟨its,_,pl,_⟩:=I.list sq;obtain ⟨o,ho,hc,_⟩:=pl.isList;exact ⟨_,PySem.W.kitx_list,⟨o,ho,hc⟩,fun z=>nomatch z⟩
  split at ty
  .rename_i ws' eg;cases ty;exact lk ws' (by unfold zI;rw [eg])
  .rename_i ws' eg;cases ty;exact lk ws' (by unfold zI;rw [eg])
  .rename_i kvs eg;cases ty;obtain ⟨l,e',rl⟩:=ab.dic eg;obtain ⟨_,_,vs,_,o,_,_,e1,e2,_⟩:=(show yK X.prog X.w H s.heap p (.dK l) from I.hok p _ e');exact ⟨_,PySem.W.kitx_dict,⟨o,e1,e2.1⟩,fun z=>nomatch z⟩
  .cases ty
 |_=>cases ty
def zbw:List W->Option (List String)
 | []=>some []
 | .ty T::r=>(zbw r).map (T::·)
 |_=>none
theorem fT {K:zE} {H:Hp}:∀ {ws:List W} {Ts:List String} {vs:List V} {us:List Value},zbw ws=some Ts->zX K H ws vs->zV vs us->us=Ts.map .type
 | [],Ts,vs,us,e,r,v=>by cases e;cases (show vs=[] from r);cases v;rfl
 |w::ws,Ts,vs,us,e,r,v=>by
  cases w with
  |ty T =>
   simp only [zbw] at e;obtain ⟨Ts',e',rfl⟩:=Option.map_eq_some_iff.mp e;obtain ⟨x,tl,rfl,rx,rt⟩:=r;cases (show x=.ty T from rx)
   cases v with
   |cons a c =>
    cases (show _=Value.type T from a);rw [fT e' rt c];rfl
  |_=>cases e
def isjS (K:zE):RS:=fun ws G Q=>match ws with
 | [x,.ty T]=>∃ T' b,tyO G x=some T'/\PySem.W.kitOne K (.type T') (.type T)=some b/\Q (.bl b) G
 | [x,.tup ts]=>∃ T' b Ts,tyO G x=some T'/\zbw ts=some Ts/\PySem.W.kitAny K (.type T') (Ts.map .type)=some b/\Q (.bl b) G
 |_=>False
theorem zaT (K:zE):wP (isjS K):=by
 intro ws G Q Q' k h;unfold isjS at h ⊢
 split at h
 .obtain ⟨T',b,e,e',h⟩:=h;exact ⟨T',b,e,e',k _ _ h⟩
 .obtain ⟨T',b,Ts,e,e',e2,h⟩:=h;exact ⟨T',b,Ts,e,e',e2,k _ _ h⟩
 .exact h.elim
theorem zgZ {X:Cx}:wN X (.builtin "isinstance") (tR X.K (isjS X.K)):=by
 intro pins s σ H xs us Q I r h;obtain ⟨ws,G,rs,ab,h⟩:=h;unfold isjS at h
 split at h
 .rename_i w T;obtain ⟨v,y,rfl,rv,ry⟩:=fA rs;cases (show y=.ty T from ry);obtain ⟨u,c,rfl,ru,rc⟩:=fV r;cases (show c=Value.type T from rc);obtain ⟨T',b,ty,e,h⟩:=h;obtain ⟨HH,kx,hp,hb⟩:=zgE I ab rv ru ty;exact wI I.tk (PySem.W.kia_one kx I.kIn hp e hb fun tk h0=>⟨.bl b,H,I.tok _ h0,rfl,h _ H .refl rfl ab⟩)
 .rename_i w ts;obtain ⟨v,y,rfl,rv,ry⟩:=fA rs;obtain ⟨u,c,rfl,ru,rc⟩:=fV r;obtain ⟨T',b,Ts,ty,et,e,h⟩:=h;obtain ⟨a,vs,rfl,sq,rr⟩:=ry;cases (show c=Value.ref a from rc);obtain ⟨its,vv,p,_⟩:=I.tuple sq;obtain ⟨⟨oc,od,dt,sl⟩,h1,h2,n,h3⟩:=p;cases (show oc=_ from h2);cases (show dt=_ from h3);have ei:=fT et rr vv;subst ei;obtain ⟨HH,kx,hp,hb⟩:=zgE I ab rv ru ty;exact wI I.tk (PySem.W.kia_tup kx I.kIn hp h1 e hb fun tk h0=>⟨.bl b,H,I.tok _ h0,rfl,h _ H .refl rfl ab⟩)
 .exact h.elim
end L3
namespace L3
open PySem PySem.Spec PyProof.Rows L2
structure InsK (K:zE) (C:Addr):Prop where
 cl:Cls K C
 ha:PySem.W.findIn K (.ref C) "__class__" = some (some (.builtin "object.__class__"))
 hn:PySem.W.specialIn K (.builtin "object.__class__") "__get__" = some (some (.builtin "getset_descriptor.__get__"))
 ht:PySem.W.takesIn K (.builtin "object.__class__")=some true
 hm:PySem.W.mroIn K C (.type "object")=some true
def isoS (K:zE):RS:=fun ws G Q=>match ws with
 | [.ref p,.ref D]=>∃ C fs,G p=some (.ins C fs)/\InsK K C/\∃ b,PySem.W.kitOne K (.ref C) (.ref D)=some b/\Q (.bl b) G
 |ws=>isjS K ws G Q
theorem nL (K:zE):wP (isoS K):=by
 intro ws G Q Q' k h;unfold isoS at h ⊢
 split at h
 .obtain ⟨C,fs,h1,h2,b,h3,h4⟩:=h;exact ⟨C,fs,h1,h2,b,h3,k _ _ h4⟩
 .exact zaT K _ _ _ _ k h
theorem zgY {X:Cx}:wN X (.builtin "isinstance") (tR X.K (isoS X.K)):=by
 intro pins s σ H xs us Q I r h;obtain ⟨ws,G,rs,ab,h⟩:=h;unfold isoS at h
 split at h
 .rename_i p D;obtain ⟨v,y,rfl,rv,ry⟩:=fA rs;cases (show y=.ref D from ry);cases (show v=.ref p from rv);obtain ⟨u,c,rfl,ru,rc⟩:=fV r;cases (show c=Value.ref D from rc);obtain ⟨C,fs,eg,ik,b,e,h⟩:=h;obtain ⟨o,eh,hr⟩:=ab p _ eg;obtain ⟨dx,fs',rfl,_⟩:=hr;exact wI I.tk (zaU I ru (.ins eh ik.cl ik.ha ik.hn ik.ht ik.hm) e fun tk h0=>⟨.bl b,H,I.tok _ h0,rfl,h _ H .refl rfl ab⟩)
 .exact zgZ pins s σ H xs us Q I r ⟨_,G,rs,ab,h⟩
abbrev eIso (K:zE):Fn3:=⟨"isinstance", fun ws G Q _=>isoS K ws G Q⟩
theorem zeS {q:Pr} {A:Around} (hm:q.mg "isinstance" = none):qQ (q.at A) (eIso q.K):=⟨rQ (id := "isinstance") hm (by decide +kernel) (fun X f=>by rw [← show X.K=q.K from f.K];exact zgY) (nL _) (fun _ _ h=>h),fun ws G Q Q' _ k h=>nL _ ws G Q Q' k h⟩
end L3
namespace L2
open PySem PySem.Spec PyProof.Rows
section
variable {a b : Bool} {z TI TO i1 i2 l1 l2 : Addr}
theorem zp_go {P:Program} {w:World} {A:Around} {E:Value->Shared->Prop} {s:Shared} {tg:Expr} {u:Value} {i:Nat} {Q:Unit->Shared->Prop} (hd:[z,TI,TO,i1,i2].Nodup) (st:qM a b z TI TO i1 i2 l1 l2 i s.heap)
  (h:∀ h',qM a b z TI TO i1 i2 l1 l2 i h'->(∀ c o,c≠z->s.heap.get? c=some o->h'.get? c=some o)->Q () { s with heap:=h' }):wpAny (model P w) A (letOwnedTupleGo tg (.ref z) u) Q E s:=by
 have stay:Q () s:=h s.heap st fun _ _ _ e=>e
 have core:wpAny (model P w) A (do
   let (.ref r,.ref t):=(Value.ref z,u)|return
   let o ← load r
   match o.cls,o.data with
   | .type n,.fields vs =>
    if ["enumerate", "zip", "dict_itemiterator", "dict_reverseitemiterator", "odict_iterator", "itertools.zip_longest", "itertools.pairwise"].contains n&&vs[0]?==some (rawInt t) then
     rule "for.unpacks-the-owned-tuple"
     updateField r 0 .none
   |_,_=>pure ()) Q E s:=by
  cases u with
  |ref t =>
   obtain ⟨f0,f1,hz,h0,h1,hTI,⟨p,q,hTO⟩,s1,s2⟩:=st;refine wpAny_bind (wpAny_load hz ?_);dsimp only
   split
   .refine wpAny_bind (wpAny_rule ?_);show wpAny _ _ (setField (.ref z) 0 .none) Q E s;refine wpAny_setField_rec hz (by simp) fun h' hz' hs'=>h h' ⟨.none,f1,hz',.inl rfl,h1,?_,⟨p,q,?_⟩,s1.at ?_,s2.at ?_⟩ fun c o hc e=>(hs'.2 c hc).trans e
    all_goals simp only [List.nodup_cons,List.mem_cons,List.not_mem_nil,or_false,not_or,List.nodup_nil,not_false_eq_true,and_true] at hd
    .exact (hs'.2 _ (Ne.symm hd.1.1)).trans hTI
    .exact (hs'.2 _ (Ne.symm hd.1.2.1)).trans hTO
    .exact fun o e=>(hs'.2 _ (Ne.symm hd.1.2.2.1)).trans e
    .exact fun o e=>(hs'.2 _ (Ne.symm hd.1.2.2.2)).trans e
   .exact wpAny_pure stay
  |_=>exact wpAny_pure stay
 cases tg with
 |Tuple es x p=>exact core
 |List es x=>exact core
 |_=>exact wpAny_pure stay
theorem zdu (P:Program) (w:World) (K:PySem.W.Frag) (tg:Expr) (hd:[z,TI,TO,i1,i2].Nodup) (n1:l1∉[z,TI,TO,i1,i2]) (n2:l2∉[z,TI,TO,i1,i2]):Turn P w K tg (Itz a b K l1 l2) [z,TI,TO,i1,i2] z (qM a b z TI TO i1 i2 l1 l2) where
 mem:=by simp
 obj:=fun i h x=>x.obj
 keep:=fun i h h' x k=>x.keep k
 item:=by
  intro X e1 e2 e3 hc i pins s σ H E I hf st go;subst e1;subst e2;subst e3;refine yU (zdv (I.ok.hd hc) hd n1 n2 I hf st go) fun r s2 ⟨u,x,H',q1,q2,q3,q4,q5,_,q6⟩=>⟨u,q1,zp_go hd q5 fun h' st' k=>⟨x,H',?_,q3,q4,st',q6⟩⟩;refine q2.turns (t':=s2.toks) (fp:=[z]) (fun c hcz=>?_) fun c o hcz e=>k c o (fun z=>hcz (by rw [z];simp)) e;rw [List.mem_singleton] at hcz;subst hcz;obtain ⟨_,f2,f3,f4,f5,f6⟩:=hf c (by simp);exact ⟨q6 c (by simp),f2,f3,f4,f5,f6⟩
 done:=by
  intro X e1 e2 e3 hc i pins s σ H E I hf st stop;subst e1;subst e2;subst e3;exact zdy (I.ok.hd hc) hd n1 n2 I hf st stop
 self:=fun A i s Q E st h=>zah st h
end
end L2
namespace L3
open PySem PySem.Spec PyProof.Rows L2 PySem.SeqAt
def cG (ws:List W) (G:Hw) (R:List W->(Hw->Prop)->Hw->Prop):Prop:=match ws with
 | [x,y]=>∃ xs ys,xB G x=some xs/\xB G y=some ys/\R (List.zipWith (fun a b=>W.tup [a,b]) xs ys) (fun G'=>xB G' x=some xs/\xB G' y=some ys) G
 |_=>False
theorem zai:zbs ⟨"zip", cG⟩:=by
 intro ws G R R' k h;replace h:cG ws G R:=h;show cG ws G R';unfold cG at h ⊢
 split at h
 .obtain ⟨xs,ys,e1,e2,h⟩:=h;exact ⟨xs,ys,e1,e2,k _ _ _ h⟩
 .exact h.elim
def pO (w:W):Bool:=match w with|.tup _=>true|_=>false
theorem jI {K:zE} {H1 H:Hp} {G1 G:Hw} {w:W} {a:Addr} {vs:List V} {b:Bool} {xs:List W} (g:zB K H1 H) (ab:yF K H G) (r1:yA K H1 w (.ref a)) (b1:xB G1 w=some xs) (sq1:tF b K H1 a vs) (hb:b=pO w) (st:xB G w=some xs) (rr1:zX K H1 xs vs) :
  ∃ vs',tF b K H a vs'/\zX K H xs vs':=by
 cases w with
 |tup ws =>
  subst hb;exact ⟨vs,g.1 _ _ sq1,rr1.mono g⟩
 |ref p =>
  subst hb;cases (show V.ref a=.ref p from r1);obtain ⟨vs',sq,rr⟩:=ab.seq st;exact ⟨vs',sq,rr⟩
 |_=>cases b1
theorem sT {K:zE} {H:Hp} {G:Hw} {w:W} {v:V} {xs:List W} (ab:yF K H G) (r:yA K H w v) (e:xB G w=some xs):∃ a vs,v=.ref a/\tF (pO w) K H a vs/\zX K H xs vs:=by
 cases w with
 |tup ws =>
  obtain ⟨a,vs,rfl,sq,rr⟩:=r;cases e;exact ⟨a,vs,rfl,sq,rr⟩
 |ref p =>
  cases (show v=.ref p from r);obtain ⟨vs,sq,rr⟩:=ab.seq e;exact ⟨p,vs,rfl,sq,rr⟩
 |_=>cases e
theorem zgR {K:zE} {H1:Hp} {G1:Hw} {x y:W} {a1 a2:Addr} {vx vy:List V} {xs ys:List W} (rx:yA K H1 x (.ref a1)) (ry:yA K H1 y (.ref a2)) (ex:xB G1 x=some xs) (ey:xB G1 y=some ys) (sx:tF (pO x) K H1 a1 vx) (sy:tF (pO y) K H1 a2 vy)
  (rrx:zX K H1 xs vx) (rry:zX K H1 ys vy):ItIs K (Itz (pO x) (pO y) K a1 a2) H1 (List.zipWith (fun a b=>W.tup [a,b]) xs ys) (fun G'=>xB G' x=some xs/\xB G' y=some ys) where
 go:=fun i H G g ab st hi=>by
  obtain ⟨vx',sx',rx'⟩:=jI g ab rx ex sx rfl st.1 rrx;obtain ⟨vy',sy',ry'⟩:=jI g ab ry ey sy rfl st.2 rry;have h1:=rx'.length;have h2:=ry'.length;rw [List.length_zipWith] at hi;exact ⟨vx',vy',vx'[i]'(by omega),vy'[i]'(by omega),sx',sy',List.getElem?_eq_getElem _,List.getElem?_eq_getElem _⟩
 yld:=fun i H G v H' g ab st hi yl=>by
  obtain ⟨vx',sx',rx'⟩:=jI g ab rx ex sx rfl st.1 rrx;obtain ⟨vy',sy',ry'⟩:=jI g ab ry ey sy rfl st.2 rry;obtain ⟨p,x',y',rfl,hp,rfl,e2,e3⟩:=yl;have e2:=e2 vx' sx';have e3:=e3 vy' sy';obtain ⟨wx,ewx,rpx⟩:=rx'.get' e2;obtain ⟨wy,ewy,rpy⟩:=ry'.get' e3;have gr:zB K H (yN H p (.tup [x',y'])):=yH hp;refine ⟨.tup [wx,wy],?_,gr,⟨p,[x',y'],rfl,.of xZ,⟨_,_,rfl,rpx.mono gr,_,_,rfl,rpy.mono gr,rfl⟩⟩,ab.tup hp⟩;rw [List.getElem?_zipWith,ewx,ewy]
 stop:=fun i H G g ab st hi=>by
  obtain ⟨vx',sx',rx'⟩:=jI g ab rx ex sx rfl st.1 rrx;obtain ⟨vy',sy',ry'⟩:=jI g ab ry ey sy rfl st.2 rry;have h1:=rx'.length;have h2:=ry'.length;rw [List.length_zipWith] at hi;refine ⟨vx',vy',sx',sy',?_⟩
  by_cases hl:xs.length<=ys.length
  .left;rw [List.getElem?_eq_none];omega
  .right;rw [List.getElem?_eq_none];omega
theorem zgX {q:Pr} {A:Around} (hm:q.mg "zip" = none):ItE (q.at A) ⟨"zip", cG⟩:=by
 intro X fits gl tg args t qp pos mt hn pa hnil hdb hnm;have hm':X.mg "zip" = none:=by rw [fits.mg];exact hm
 intro pins s σ H R I h
 cases args with
 |nil =>
  obtain ⟨σ3,G,hs,ab,h⟩:=h;exact (hnil rfl _ _ _ h).elim
 |cons a r =>
  obtain ⟨s1,s2⟩:=xW (env:=X.env) (pos:=pos) hn;obtain ⟨σ3,G,hs,ab,h⟩:=h
  have h':=vA (S:=fun vs H1=>∃ x y a1 a2 vx vy,vs=[.ref a1,.ref a2]/\tF (pO x) X.K H1 a1 vx/\tF (pO y) X.K H1 a2 vy/\R (Itz (pO x) (pO y) X.K a1 a2) H1) mt hs ab h fun ws G1 vs H1 g1 hs1 rs a1 h=>by
   dsimp only at h;unfold cG at h
   split at h
   .rename_i x y;obtain ⟨v1,v2,rfl,r1,r2⟩:=fA rs;obtain ⟨xs,ys,ex,ey,h⟩:=h;obtain ⟨p1,vx,rfl,sx,rx⟩:=sT a1 r1 ex;obtain ⟨p2,vy,rfl,sy,ry⟩:=sT a1 r2 ey;exact ⟨x,y,p1,p2,vx,vy,rfl,sx,sy,h _ H1 g1 a1 (zgR r1 r2 ex ey sx sy rx ry)⟩
   .exact h.elim
  refine Call_ (vY I gl hm' (by decide +kernel:bootBuiltins "zip" = some (.type "zip")) (PyProof.Rows.callWith_type1 (yU (pa pos pins s σ H _ I h') fun us s1 ⟨vs,H1,I1,r1,q1⟩=>?_) s1 s2));obtain ⟨x,y,a1,a2,vx,vy,e,sx,sy,q⟩:=q1;subst e;obtain ⟨u1,u2,rfl,ru1,ru2⟩:=fV r1;cases (show u1=Value.ref a1 from ru1);cases (show u2=Value.ref a2 from ru2);obtain ⟨itx,vvx,ssx,hzx⟩:=I1.sqB sx;obtain ⟨ity,vvy,ssy,hzy⟩:=I1.sqB sy
  have lt1:a1<s1.heap.objs.size:=by
   cases hb:pO x<;>rw [hb] at ssx<;>(obtain ⟨o,ho,_⟩:=ssx;exact Heap.lt_size ho)
  have lt2:a2<s1.heap.objs.size:=by
   cases hb:pO y<;>rw [hb] at ssy<;>(obtain ⟨o,ho,_⟩:=ssy;exact Heap.lt_size ho)
  refine zfa ssx ssy fun h' z1 z2 z3 z4 z5 z6 z7=>?_;have I2:Inv X pins σ H1 { s1 with heap:=h',toks:=s1.toks }:=I1.kept z7;have hd:=bB s1.heap.objs.size;have n1:=cZ _ _ lt1;have n2:=cZ _ _ lt2;have hf:∀ b∈[s1.heap.objs.size+4,s1.heap.objs.size+2,s1.heap.objs.size+3,s1.heap.objs.size,s1.heap.objs.size+1],jK X pins H1 b:=fun b hb=>I1.fpOk (za2 _ _ hb) (I1.hok.fresh (za2 _ _ hb));have st:qM (pO x) (pO y) (s1.heap.objs.size+4) (s1.heap.objs.size+2) (s1.heap.objs.size+3) s1.heap.objs.size (s1.heap.objs.size+1) a1 a2 0 h':=⟨.none,.bool false,z1,.inl rfl,.inl rfl,z2,⟨_,_,z3⟩,z4,z5⟩;refine zah st ⟨_,_,_,_,H1,rfl,I2,zdu X.prog X.w X.K tg hd n1 n2,st,hf,q⟩
abbrev eZpi:It3:=⟨"zip", cG⟩
theorem zeM {q:Pr} {A:Around} (hm:q.mg "zip" = none):ItE (q.at A) eZpi/\zbs eZpi:=⟨zgX hm,zai⟩
def krun {α:Type} (lt:Nat->Nat->Bool):PySem.W.KasT α->α
 | .ret a=>a
 | .ask i j k=>krun lt (k (lt i j))
section
variable {n : Nat} {p : Array Nat}
end
def srtP (n:Nat) (lt:Nat->Nat->Bool):List Nat:=if n<2 then List.range n else (krun lt (PySem.W.kas_sort n)).toList
mutual
def ltW:W->W->Option Bool
 | .str x,.str y=>some (decide (x.cps.toList<y.cps.toList))
 | .tup xs,.tup ys=>ltWs xs ys
 |_,_=>none
def ltWs:List W->List W->Option Bool
 | [],[]=>some false
 | [],_::_=>some true
 |_::_,[]=>some false
 |x::xs,y::ys=>if vW x y=true then ltWs xs ys else ltW x y
end
section
variable {X : Cx} {pins : List (Addr × Obj)} {σ : L2.St} {H : Hp} {s : Shared}
end
section
variable {prog : Program} {w : World} {A : Around} {E : Value → Shared → Prop} {s : Shared} {D : Addr} {vs : List Value} {κ : SortKind} {lt : Nat → Nat → Bool}
end
def ltB (x y:W):Bool:=(ltW x y).getD false
def fZ (ws:List W):List W:=(srtP ws.length fun i j=>ltB (ws.getD i .non) (ws.getD j .non)).map fun i=>ws.getD i .non
section
variable {prog : Program} {w : World} {A : Around} {s : Shared} {b fin v : Bool} {C : Bool → Shared → Prop}
end
section
variable {X : Cx} {pins : List (Addr × Obj)} {σ : L2.St} {H : Hp} {s : Shared}
end
end L3
namespace L2
open PySem PySem.Spec PyProof.Rows
section
variable {X : Cx} {tg : Expr}
end
end L2
namespace L3
open PySem PySem.Spec PyProof.Rows L2 PySem.SeqAt
end L3
namespace PySem
open Sem (wp)
section
variable {prog : Program} {w : World} {A : Around} {E : Value → Shared → Prop} {s : Shared}
abbrev uH (h:Heap) (e it:Addr) (i:Int) (f0 f1 old:Value):Prop :=
 h.get? e=some { cls:=.type "enumerate", dict:=none,data:=.fields #[f0,f1,.ref it,rawInt i,.none,old],slots:=#[] }
def F0 (v:Value):Prop:=v=.none\/∃ T:Addr,v=rawInt T
def F1 (v:Value):Prop:=v=.bool false\/v=.bool true
theorem zeY {b:Bool} {e it l:Addr} {k:Nat} {m:Int} {xs:Array Value} {x f0 f1 old:Value} {Q:Value->Shared->Prop} (hne:e≠it) (hle:l≠e) (h0:F0 f0) (h1:F1 f1) (he:uH s.heap e it m f0 f1 old)
  (hi:vQ b s.heap it l k) (hl:uV b s.heap l xs) (hx:xs[k]?=some x)
  (hQ:∀ h' tk t f0' f1' old',0<tk->F0 f0'->F1 f1'->uH h' e it (m+1) f0' f1' old'->vQ b h' it l (k+1)->h'.get? s.heap.objs.size=some { cls:=.type "tuple", data:=.seq #[.int m t,x] }->h'.objs.size=s.heap.objs.size+1 ->
   (∀ c o,c≠e->c≠it->s.heap.get? c=some o->h'.get? c=some o)->Q (.ref s.heap.objs.size) { s with heap:=h',toks:=tk }) :
  wpAny (model prog w) A (Builtin.«enumerate.__next__» ⟨[.ref e],[]⟩) (fun fin z=>∃ v,fin=.done (.ret v)/\Q v z) E s:=by
 obtain ⟨hp,g,d,tk,os⟩:=s;have le:e<hp.objs.size:=Heap.lt_size he;refine wpAny_bind (m:=field (.ref e) 2) (wpAny_field he rfl (x:=.ref it) rfl (wpAny_bind ?_));refine (wH hi hl hx fun g1 i1 s1=>?_);replace s1:Heap.SameBut it hp g1:=s1;have e1:uH g1 e it m f0 f1 old:=(s1.2 e hne).trans he;show wpAny _ _ (field (.ref e) 3 >>= _) _ _ ⟨g1,g,d,tk,os⟩;refine wpAny_bind (wpAny_field e1 rfl (x:=rawInt m) rfl ?_);show wpAny _ _ (field (.ref e) 4 >>= _) _ _ ⟨g1,g,d,tk,os⟩;refine wpAny_bind (wpAny_field e1 rfl (x:=.none) rfl ?_);show wpAny _ _ (mkInt m >>= _) _ _ ⟨g1,g,d,tk,os⟩;refine wpAny_bind (wpAny_mkInt ?_);show wpAny _ _ (setField (.ref e) 3 (rawInt (m+1)) >>= _) _ _ ⟨g1,g,d,tk+1,os⟩;refine wpAny_bind (wpAny_setField_rec e1 (by simp) fun g2 e2 s2=>?_);replace s2:Heap.SameBut e g1 g2:=s2;replace e2:uH g2 e it (m+1) f0 f1 old:=e2;show wpAny _ _ (setField (.ref e) 4 .none >>= _) _ _ ⟨g2,g,d,tk+1,os⟩;refine wpAny_bind (wpAny_setField_rec e2 (by simp) fun g3 e3 s3=>?_);replace s3:Heap.SameBut e g2 g3:=s3;replace e3:uH g3 e it (m+1) f0 f1 old:=e3;show wpAny _ _ (newTuple [.int m tk,x] >>= _) _ _ ⟨g3,g,d,tk+1,os⟩;refine wpAny_bind (wpAny_newTuple ?_);have e4:uH (g3.push { cls:=.type "tuple", data:=.seq #[.int m tk,x] }) e it (m+1) f0 f1 old:=Heap.get?_push_of_some _ e3;generalize hh:g3.push { cls:=.type "tuple", data:=.seq #[.int m tk,x] }=g4 at e4;have hsz:g3.objs.size=hp.objs.size:=by rw [s3.1,s2.1,s1.1]
 have t4:g4.get? hp.objs.size=some { cls:=.type "tuple", data:=.seq #[.int m tk,x] }:=by rw [← hh,← hsz];exact Heap.get?_push_size _ rfl
 have z4:g4.objs.size=hp.objs.size+1:=by rw [← hh,Heap.size_push,hsz]
 have k4:∀ c o,c≠e->c≠it->hp.get? c=some o->g4.get? c=some o:=fun c o n1 n2 q=>by
  rw [← hh];exact Heap.get?_push_of_some _ (s3.extBut c o n1 (s2.extBut c o n1 (s1.extBut c o n2 q)))
 have i4:vQ b g4 it l (k+1):=i1.at fun o q=>by rw [← hh];exact Heap.get?_push_of_some _ (s3.extBut it o hne.symm (s2.extBut it o hne.symm q))
 show wpAny _ _ (Builtin.SmallTypes.ownedTupleIsFree (.ref e) >>= _) _ _ ⟨g4,g,d,tk+1,os⟩;rw [hsz]
 clear hh e3 s3 e2 s2 e1 s1 i1 hsz g3 g2 g1
 have free:wpAny (model prog w) A (do
   rule "enumerate.__next__.owned-tuple-again"
   let old ← field (.ref e) 5
   setField (.ref e) 5 x
   Builtin.SmallTypes.ownedTupleHandOut (.ref e) (.ref hp.objs.size)
   letGo [old] [.ref hp.objs.size]
   ret (.ref hp.objs.size)) (fun fin s'=>∃ v,fin=.done (.ret v)/\Q v s') E ⟨g4,g,d,tk+1,os⟩:=by
  refine wpAny_bind (wpAny_rule ?_);refine wpAny_bind (wpAny_field e4 rfl (x:=old) rfl ?_);refine wpAny_bind (wpAny_setField_rec e4 (by simp) fun g5 e5 s5=>?_);replace s5:Heap.SameBut e g4 g5:=s5;replace e5:uH g5 e it (m+1) f0 f1 x:=e5;show wpAny _ _ (Builtin.SmallTypes.ownedTupleHandOut (.ref e) (.ref hp.objs.size) >>= _) _ _ ⟨g5,g,d,tk+1,os⟩;refine wpAny_bind ?_;unfold Builtin.SmallTypes.ownedTupleHandOut;refine wpAny_bind (wpAny_setField_rec e5 (by simp) fun g6 e6 s6=>?_);replace s6:Heap.SameBut e g5 g6:=s6;replace e6:uH g6 e it (m+1) (rawInt hp.objs.size) f1 x:=e6;refine wpAny_setField_rec e6 (by simp) fun g7 e7 s7=>?_;replace s7:Heap.SameBut e g6 g7:=s7;replace e7:uH g7 e it (m+1) (rawInt hp.objs.size) (.bool false) x:=e7;have up:∀ c o,c≠e->g4.get? c=some o->g7.get? c=some o:=fun c o n q=>s7.extBut c o n (s6.extBut c o n (s5.extBut c o n q));exact wpAny_bind (wpAny_letGo (wpAny_pure ⟨_,rfl,hQ g7 (tk+1) tk _ _ _ (Nat.succ_pos _) (.inr ⟨_,rfl⟩) (.inl rfl) e7 (i4.at fun o q=>up it o hne.symm q) (up _ _ (Nat.ne_of_gt le) t4) (by rw [s7.1,s6.1,s5.1,z4]) fun c o n1 n2 q=>up c o n1 (k4 c o n1 n2 q)⟩))
 refine wpAny_bind ?_;unfold Builtin.SmallTypes.ownedTupleIsFree;refine wpAny_bind (wpAny_field e4 rfl (x:=f0) rfl ?_);rcases h0 with rfl|⟨T,rfl⟩
 .exact wpAny_pure free
 .show wpAny _ _ (loadIfAlive (Int.toNat T) >>= _) _ _ _;refine wpAny_bind (qZ ?_)
  cases hT:g4.get? (Int.toNat T) with
  |none=>exact wpAny_pure free
  |some oT =>
   show wpAny _ _ (field (.ref e) 1 >>= _) _ _ _;refine wpAny_bind (wpAny_field e4 rfl (x:=f1) rfl ?_);rcases h1 with rfl|rfl
   .refine wpAny_bind (wpAny_setField_rec e4 (by simp) fun g5 e5 s5=>?_);replace s5:Heap.SameBut e g4 g5:=s5;replace e5:uH g5 e it (m+1) (rawInt T) (.bool true) old:=e5;refine wpAny_pure (wpAny_pure ⟨_,rfl,hQ g5 (tk+1) tk _ _ _ (Nat.succ_pos _) (.inr ⟨_,rfl⟩) (.inr rfl) e5 (i4.at fun o q=>s5.extBut it o hne.symm q) (s5.extBut _ _ (Nat.ne_of_gt le) t4) (by rw [s5.1,z4]) fun c o n1 n2 q=>s5.extBut c o n1 (k4 c o n1 n2 q)⟩)
   .exact wpAny_pure (wpAny_pure ⟨_,rfl,hQ g4 (tk+1) tk _ _ _ (Nat.succ_pos _) (.inr ⟨_,rfl⟩) (.inr rfl) e4 i4 t4 z4 k4⟩)
end
end PySem
namespace PySem
open Sem (wp)
abbrev enH (b:Bool) (h:Heap) (l:Addr):Heap:=h.push { cls:=.type (itc b),data:=.fields #[.ref l,.int 0 0] }
section
variable {prog : Program} {w : World} {A : Around} {E : Value → Shared → Prop} {s : Shared}
end
end PySem
namespace L2
open PySem PySem.Spec PyProof.Rows
def Ite (st:Int) (b:Bool) (K:PySem.W.Frag) (l:Addr):It where
 go:=fun i H=>∃ xs x,tF b K H l xs/\xs[i]?=some x
 yld:=fun i H v H'=>∃ p x,v=.ref p/\H p=none/\H'=yN H p (.tup [.int (i+st),x])/\∀ xs,tF b K H l xs->xs[i]?=some x
 stop:=fun i H=>∃ xs,tF b K H l xs/\xs.length<=i
def EnSt (st:Int) (b:Bool) (e it l:Addr) (i:Nat) (h:Heap):Prop:=∃ f0 f1 old,F0 f0/\F1 f1/\uH h e it (i+st) f0 f1 old/\vQ b h it l i
section
variable {sn : Int} {b : Bool} {e it l : Addr}
theorem EnSt.keep {i:Nat} {h h':Heap} (x:EnSt sn b e it l i h) (k:∀ c∈[e,it],∀ o,h.get? c=some o->h'.get? c=some o):EnSt sn b e it l i h':=by
 obtain ⟨f0,f1,old,a0,a1,he,hi⟩:=x;exact ⟨f0,f1,old,a0,a1,k e (by simp) _ he,hi.at fun o q=>k it (by simp) o q⟩
theorem en_go {P:Program} {w:World} {A:Around} {E:Value->Shared->Prop} {s:Shared} {tg:Expr} {u:Value} {i:Nat} {Q:Unit->Shared->Prop} (hne:e≠it) (st:EnSt sn b e it l i s.heap)
  (h:∀ h',EnSt sn b e it l i h'->(∀ c o,c≠e->s.heap.get? c=some o->h'.get? c=some o)->Q () { s with heap:=h' }):wpAny (model P w) A (letOwnedTupleGo tg (.ref e) u) Q E s:=by
 have stay:Q () s:=h s.heap st fun _ _ _ z=>z
 have core:wpAny (model P w) A (do
   let (.ref r,.ref t):=(Value.ref e,u)|return
   let o ← load r
   match o.cls,o.data with
   | .type n,.fields vs =>
    if ["enumerate", "zip", "dict_itemiterator", "dict_reverseitemiterator", "odict_iterator", "itertools.zip_longest", "itertools.pairwise"].contains n&&vs[0]?==some (rawInt t) then
     rule "for.unpacks-the-owned-tuple"
     updateField r 0 .none
   |_,_=>pure ()) Q E s:=by
  cases u with
  |ref t =>
   obtain ⟨f0,f1,old,a0,a1,he,hi⟩:=st;refine wpAny_bind (wpAny_load he ?_);dsimp only
   split
   .refine wpAny_bind (wpAny_rule ?_);show wpAny _ _ (setField (.ref e) 0 .none) Q E s;exact wpAny_setField_rec he (by simp) fun h' he' hs'=>h h' ⟨.none,f1,old,.inl rfl,a1,he',hi.at fun o q=>hs'.extBut it o hne.symm q⟩ fun c o hc q=>hs'.extBut c o hc q
   .exact wpAny_pure stay
  |_=>exact wpAny_pure stay
 cases tg with
 |Tuple es x p=>exact core
 |List es x=>exact core
 |_=>exact wpAny_pure stay
theorem zeX (P:Program) (w:World) (K:PySem.W.Frag) (tg:Expr) (hne:e≠it) (n1:l≠e) (n2:l≠it):Turn P w K tg (Ite sn b K l) [e,it] e (EnSt sn b e it l) where
 mem:=by simp
 obj:=fun i h x c hc=>by
  obtain ⟨f0,f1,old,_,_,he,o,q1,q2,q3⟩:=x;simp only [List.mem_cons,List.not_mem_nil,or_false] at hc;rcases hc with rfl|rfl
  .exact ⟨_,he,fun v z=>nomatch z⟩
  .exact ⟨o,q1,fun v z=>by rw [q3] at z;cases z⟩
 keep:=fun i h h' x k=>x.keep k
 item:=by
  intro X e1 e2 e3 hc i pins s σ H E I hf st go;subst e1;subst e2;subst e3;obtain ⟨xs,x,q1,ex⟩:=go;obtain ⟨its,vx,sx,_⟩:=I.sqB q1;obtain ⟨u,eu,ru⟩:=vx.get ex;obtain ⟨f0,f1,old,a0,a1,he,hi⟩:=id st;have hT:s.TypeIs (.ref e) "enumerate" := ⟨_,he,rfl⟩;have le:e<s.heap.objs.size:=Heap.lt_size he;have li:it<s.heap.objs.size:=by obtain ⟨o,ho,_⟩:=hi;exact Heap.lt_size ho
  have hn:H s.heap.objs.size=none:=I.hok.fresh (zzR _);unfold pyNext
  refine wpAny_bind (wpAny_attempt (wpAny_callSpecial?_slot (name:=Str.ofString "__next__") hT F.slot_enumerate_next (wpAny_call_entry F.slot_enumerate_next hT F.entry_enumerate_next
   (zeY hne n1 a0 a1 he hi sx (x:=u) (by simpa using eu) fun h' tk t f0' f1' old' h0 b0 b1 he' hi' ht hz k=>wpAny_pure ⟨_,rfl,?_⟩) (F.args_enumerate_next_1 _))))
  refine en_go (sn:=sn) (i:=i+1) (s:={ s with heap:=h',toks:=tk }) hne ⟨f0',f1',old',b0,b1,by rw [show (((i+1:Nat):Int)+sn)=(i:Int)+sn+1 by omega];exact he',hi'⟩ fun h2 st2 k2=>?_
  have J:Inv X pins σ H { s with heap:=h2,toks:=tk }:=I.turns hf fun c o hc q=>by
   simp only [List.mem_cons,List.not_mem_nil,or_false,not_or] at hc;exact k2 c o hc.1 (k c o hc.1 hc.2 q)
  refine ⟨.ref s.heap.objs.size,yN H s.heap.objs.size (.tup [.int (i+sn),x]),?_,rfl,⟨_,x,rfl,hn,rfl,fun ys q'=>by rw [I.sqB_inj q' q1];exact ex⟩,st2,fun c hc=>?_⟩
  .refine J.adopt (I.off (zzR _)) hn ⟨by show 2<=sizeLine;rw [sizeLine_eq];decide,[.int (i+sn) t,u],.cons ⟨t,rfl⟩ (.cons ru .nil),⟨_,k2 _ _ (Nat.ne_of_gt le) ht,rfl,_,rfl⟩⟩
  .have:c≠s.heap.objs.size:=by
    simp only [List.mem_cons,List.not_mem_nil,or_false] at hc;rcases hc with rfl|rfl
    .exact Nat.ne_of_lt le
    .exact Nat.ne_of_lt li
   rw [zU this];exact (hf c hc).1
 done:=by
  intro X e1 e2 e3 hc i pins s σ H E I hf st stop;subst e1;subst e2;subst e3;obtain ⟨xs,q1,hx⟩:=stop;obtain ⟨its,vx,sx,_⟩:=I.sqB q1;obtain ⟨f0,f1,old,a0,a1,he,hi⟩:=id st;have hT:s.TypeIs (.ref e) "enumerate" := ⟨_,he,rfl⟩;have hl:=vx.length;unfold pyNext;refine wpAny_bind (wpAny_attempt (wpAny_callSpecial?_slot (name:=Str.ofString "__next__") hT F.slot_enumerate_next (wpAny_call_entry F.slot_enumerate_next hT F.entry_enumerate_next ?_ (F.args_enumerate_next_1 _))));show wpAny _ _ (field (.ref e) 2 >>= _) _ _ _;refine wpAny_bind (wpAny_field he rfl (x:=.ref it) rfl ?_);refine wpAny_bind (vO (A:=X.A.in1) (I.ok.hd hc) hi sx (by simp;omega) fun h' x k hx'=>?_);obtain ⟨o,ho,hc'⟩:=hx';refine wpAny_bind (wpAny_isInstance (T := "StopIteration") (b:=true) ⟨o,ho,hc'⟩ isSubtype_stop ?_);refine wpAny_pure ⟨rfl,I.turns (t':=s.toks) hf fun c o hc q=>?_⟩;simp only [List.mem_cons,List.not_mem_nil,or_false,not_or] at hc;exact k c o hc.2 q
 self:=fun A i s Q E st h=>by
  obtain ⟨f0,f1,old,a0,a1,he,hi⟩:=st;have hT:s.TypeIs (.ref e) "enumerate" := ⟨_,he,rfl⟩;have body:wpAny (model P w) A.in1 (ret (.ref e)) (fun fin z=>∃ v,fin=.done (.ret v)/\∃ T id,z.TypeIs v T/\typeLookup (.type T) "__next__" = pure (some id)/\Q v z) E s:=wpAny_pure ⟨_,rfl,_,_,hT,F.slot_enumerate_next.lookup,h⟩;exact wpAny_pyIter_slot hT F.slot_enumerate_iter (wpAny_call_entry F.slot_enumerate_iter hT F.entry_enumerate_iter body (F.args_enumerate_iter_1 _))
end
end L2
namespace L3
open PySem PySem.Spec PyProof.Rows L2 PySem.SeqAt
def enW (st:Int) (xs:List W):List W:=(List.range xs.length).map fun i=>W.tup [.int ((i:Nat)+st),xs.getD i .non]
theorem zgV {sn:Int} {K:zE} {H1:Hp} {G1:Hw} {x:W} {a:Addr} {vx:List V} {xs:List W} (rx:yA K H1 x (.ref a)) (ex:xB G1 x=some xs) (sx:tF (pO x) K H1 a vx) (rr:zX K H1 xs vx) :
  ItIs K (Ite sn (pO x) K a) H1 (enW sn xs) (fun G'=>xB G' x=some xs) where
 go:=fun i H G g ab st hi=>by
  obtain ⟨vx',sx',rx'⟩:=jI g ab rx ex sx rfl st rr;have h1:=rx'.length;have hi:i<xs.length:=by simpa [enW] using hi
  exact ⟨vx',vx'[i]'(by omega),sx',List.getElem?_eq_getElem _⟩
 yld:=fun i H G v H' g ab st hi yl=>by
  obtain ⟨vx',sx',rx'⟩:=jI g ab rx ex sx rfl st rr;obtain ⟨p,x',rfl,hp,rfl,e2⟩:=yl;obtain ⟨wx,ewx,rpx⟩:=rx'.get' (e2 vx' sx');have hi:i<xs.length:=by simpa [enW] using hi
  have gr:zB K H (yN H p (.tup [.int (i+sn),x'])):=yH hp;refine ⟨.tup [.int (i+sn),wx],?_,gr,⟨p,[.int (i+sn),x'],rfl,.of xZ,⟨_,_,rfl,rfl,_,_,rfl,rpx.mono gr,rfl⟩⟩,ab.tup hp⟩;simp [enW,hi];rw [List.getElem?_eq_getElem hi] at ewx;exact Option.some.inj ewx
 stop:=fun i H G g ab st hi=>by
  obtain ⟨vx',sx',rx'⟩:=jI g ab rx ex sx rfl st rr;have h1:=rx'.length;have hi:xs.length<=i:=by simpa [enW] using hi
  exact ⟨vx',sx',by omega⟩
end L3
namespace PySem
open Sem (wp)
theorem zfr (a b:Value):checkTypeCall "enumerate" ⟨[a],[("start", b)]⟩=pure ():=by kernel_rfl
theorem zgs (a b:Value):checkBuiltinCall "enumerate.__new__" ⟨[.type "enumerate", a],[("start", b)]⟩=pure ():=by kernel_rfl
theorem zgp (a b c:Value):argsOk "object.__init__" ⟨[a,b],[("start", c)]⟩:=by
 unfold argsOk;rw [signature?_of (id := "object.__init__") (n := "__init__".toList.reverse) (o := "object".toList.reverse) (by kernel_rfl) F.owner_object]
 kernel_rfl
theorem zaI (b:Bool) (l:Addr) (xs:Array Value) (t:Tok) :
  Meets (Builtin.«enumerate.__new__» ⟨[.type "enumerate", .ref l],[("start", .int 1 t)]⟩) (fun _ R s=>uV b s.heap l xs /\
   R (.ok (.ret (.ref (enH b s.heap l).objs.size))) { s with heap:=(enH b s.heap l).push { cls:=.type "enumerate", data:=.fields #[.none,.bool false,.ref s.heap.objs.size,rawInt 1,.none,.none] } }) :=
 .of_wp fun prog w A R s h=>by
  obtain ⟨hp,g,d,tk,os⟩:=s;obtain ⟨hl,h⟩:=h;have hsub:=sub_enumerate;have hL:uV b (Shared.heap ⟨hp,g,d,tk,os⟩) l xs:=hl
  wp_walk
  refine wpAny_stack_any fun st=>wpAny_pure ?_
  split
  .rename_i c _ _ _ _ _;cases (c==Value.type "enumerate")<;>(wp_walk using jJ hL;exact ⟨_,rfl,h⟩)
  .wp_walk using jJ hL
   exact ⟨_,rfl,h⟩
section
variable {prog : Program} {w : World} {A : Around} {E : Value → Shared → Prop} {s : Shared}
theorem zaD {T n:String} {self a b:Value} (hl:typeLookup (.type T) "__init__" = pure (some (.builtin "object.__init__"))) (hm:Bind.madeBy (.type T)=pure (some n)) (hne:(some n != some "object.__new__")=true) :
  Meets (Builtin.«object.__init__» ⟨[self,a],[("start", b)]⟩) (fun _ R s=>s.TypeIs self T/\R (.ok (.ret .none)) s):=by
 refine Meets.of_wp fun P W A R s z=>?_;obtain ⟨hT,hq⟩:=z
 repeat (any_goals (first|assumption|wp_step))
 exact ⟨_,rfl,hq⟩
theorem zcT {b:Bool} {l:Addr} {xs:Array Value} {t:Tok} {Q:Value->Shared->Prop} (hl:uV b s.heap l xs)
  (h:∀ h',uH h' (s.heap.objs.size+1) s.heap.objs.size 1 .none (.bool false) .none->vQ b h' s.heap.objs.size l 0->(∀ c o,s.heap.get? c=some o->h'.get? c=some o)->Q (.ref (s.heap.objs.size+1)) { s with heap:=h' }) :
  wpAny (model prog w) A (call (.type "enumerate") [.ref l] [("start", .int 1 t)]) Q E s:=by
 have ft:=F.called_enumerate;obtain ⟨c0,tl,hmro⟩:=ft.mro;have hmade:=ft.made;have hsub:=ft.sub;have n1:=ft.notType;have n2:=ft.canCreate;have hct:=zfr (.ref l) (.int 1 t);refine wpAny_call (codeAny_of_tree ?_);show wpAny _ _ (callAny (.type "enumerate") _) _ _ _;refine wpAny_pure ⟨Code.quiet_builtin _ (by decide +kernel),codeAny_builtin F.entry_type_call ?_⟩;rw [Around.under_plain (weight_type_call_type "enumerate" [.ref l] [("start", .int 1 t)]) (units_type_call_type "enumerate" [.ref l] [("start", .int 1 t)])]
 repeat (any_goals (first|assumption|wp_step))
 have hz:(enH b s.heap l).objs.size=s.heap.objs.size+1:=Heap.size_push ..
 have he:uH ((enH b s.heap l).push { cls:=.type "enumerate", data:=.fields #[.none,.bool false,.ref s.heap.objs.size,rawInt 1,.none,.none] }) (s.heap.objs.size+1) s.heap.objs.size 1 .none (.bool false) .none:=by
  have z:=Heap.get?_push_size (enH b s.heap l) (o:={ cls:=.type "enumerate", data:=.fields #[.none,.bool false,.ref s.heap.objs.size,rawInt 1,.none,.none] }) rfl;rw [hz] at z;exact z
 have q:=h _ he ⟨_,Heap.get?_push_of_some _ (Heap.get?_push_size _ rfl),rfl,rfl⟩ fun c o x=>Heap.get?_push_of_some _ (Heap.get?_push_of_some _ x);refine codeAny_mono (codeAny_call_builtin ft.plain F.entry_enumerate_new (wpAny_of_eq (zgs _ _) (zaI b l xs t prog w A.in1 (wants (fun obj s1=>obj=.ref (s.heap.objs.size+1)/\s1.TypeIs obj "enumerate" /\ Q obj s1) E) s ⟨hl,?_⟩))) fun r s1 hr=>?_
 .rw [hz];exact ⟨rfl,⟨_,he,rfl⟩,q⟩
 cases r with
 |error e=>exact hr
 |ok fl =>
  cases fl with
  |ret obj =>
   obtain ⟨rfl,hT,hq⟩:=hr;have hli:=ft.init.lookup;have hbi:=ft.init.bind (.ref (s.heap.objs.size+1))
   repeat (any_goals (first|assumption|wp_step))
   refine codeAny_mono (codeAny_call_builtin ft.init.plain F.entry_object_init (ft.init.check _ _ _ _ _ _ _ _ hT (zgp _ _ _) (zaD ft.init.lookup ft.made (by decide) prog w A.in1 (wants (fun r s2=>r=.none/\Q (.ref (s.heap.objs.size+1)) s2) E) s1 ⟨hT,?_⟩))) fun r2 s2 hr2=>?_
   .exact ⟨rfl,hq⟩
   cases r2 with
   |error e=>exact hr2
   |ok fl2 =>
    cases fl2 with
    |ret r =>
     obtain ⟨rfl,hq⟩:=hr2
     repeat (any_goals (first|assumption|wp_step))
    |_=>exact hr2.elim
  |_=>exact hr.elim
end
end PySem
namespace L3
open PySem PySem.Spec PyProof.Rows L2 PySem.SeqAt
theorem zcS {M:Model} {A:Around} {E:Value->Shared->Prop} {s:Shared} {pos:Pos} {T:String} {args:List (Bool×Sem Value)} {kws:List (Option Str×Sem Value)} {Q:Value->Shared->Prop} (hp:args.any (·.1)=false) (hk:kws.any (·.1.isNone)=false)
  (h:wpAny M A (evalArgs (.type T) true args kws) (fun a s1=>wpAny M A (call (.type T) ([]++a.pos) a.kw) Q E s1) E s):wpAny M A (callWith pos (.type T) [] args kws) Q E s:=by
 unfold callWith;refine wpAny_bind (wpAny_holding (yU h fun a s1 z=>wpAny_bind (wpAny_standAt ?_)));simp only [hp,hk,Bool.or_false];exact wpAny_bind (wpAny_pure (wpAny_bind (yU z fun r s2 y=>wpAny_bind (wpAny_holding (wpAny_point (wpAny_pure y))))))
def enkM:Scope->Expr->Option (List Expr):=fun sc e=>match e with
 | .Call (.Name x _) [a] [⟨some k,.Constant (.int i) _ _,_⟩] _=>if (x==("enumerate" : Str)&&kM sc x&&k==("start" : Str)&&i==1)=true then some [a] else none
 |_=>none
theorem zcL {sc:Scope} {e:Expr} {xs:List Expr} (h:enkM sc e=some xs):∃ q a j p kp pos,xs=[a]/\e=.Call (.Name "enumerate" q) [a] [⟨some "start", .Constant (.int 1) j p,kp⟩] pos/\kM sc "enumerate" = true:=by
 unfold enkM at h
 split at h
 .rename_i x q a k i j p kp pos
  by_cases hb:(x==("enumerate" : Str)&&kM sc x&&k==("start" : Str)&&i==1)=true
  .rw [if_pos hb] at h;cases h;simp only [Bool.and_eq_true,beq_iff_eq] at hb;obtain ⟨⟨⟨rfl,h1⟩,rfl⟩,rfl⟩:=hb;exact ⟨_,_,_,_,_,_,rfl,rfl,h1⟩
  .rw [if_neg hb] at h;cases h
 .cases h
def enkI (ws:List W) (G:Hw) (R:List W->(Hw->Prop)->Hw->Prop):Prop:=match ws with
 | [x]=>∃ xs,xB G x=some xs/\R (enW 1 xs) (fun G'=>xB G' x=some xs) G
 |_=>False
theorem za8:∀ ws G (R R':List W->(Hw->Prop)->Hw->Prop),(∀ xs st G',R xs st G'->R' xs st G')->enkI ws G R->enkI ws G R':=by
 intro ws G R R' k h;unfold enkI at h ⊢
 split at h
 .obtain ⟨xs,e1,h⟩:=h;exact ⟨xs,e1,k _ _ _ h⟩
 .exact h.elim
def IxE (p:Par) (k:Ix3):Prop:=∀ X,Fits p X->∀ (tg e:Expr) (xs:List Expr) (es:List E3),k.m X.env.scope e=some xs->uZ X xs es->xs.all yB=true->PA X xs (vJ X.K (kQ es)) ->
  PI X tg e (dH X.K fun σ G R=>kQ es σ G fun ws G1=>k.sp ws G1 R)
theorem zgP {q:Pr} {A:Around} (hm:q.mg "enumerate" = none):IxE (q.at A) ⟨enkM,enkI⟩:=by
 intro X fits tg e xs es he each hn pa;obtain ⟨qp,a,j,p,kp,pos,rfl,rfl,g1⟩:=zcL (sc:=X.env.scope) he;obtain ⟨gl,d1,n1⟩:=nJ (X:=X) rfl g1;have hm':X.mg "enumerate" = none:=by rw [fits.mg];exact hm
 intro pins s σ H R I h;obtain ⟨s1,s2⟩:=xW (env:=X.env) (pos:=pos) hn;obtain ⟨σ3,G,hs,ab,h⟩:=h
 have h':=vA (S:=fun vs H1=>∃ x a1 vx,vs=[.ref a1]/\tF (pO x) X.K H1 a1 vx/\R (Ite 1 (pO x) X.K a1) H1) (xQ each) hs ab h fun ws G1 vs H1 g1 hs1 rs a1 h=>by
  dsimp only at h;unfold enkI at h
  split at h
  .rename_i x;obtain ⟨v1,rfl,r1⟩:=kJ rs;obtain ⟨xs,ex,h⟩:=h;obtain ⟨p1,vx,rfl,sx,rx⟩:=sT a1 r1 ex;exact ⟨x,p1,vx,rfl,sx,h _ H1 g1 a1 (zgV r1 ex sx rx)⟩
  .exact h.elim
 refine wpAny_Call_Name_kw (vY (u:=.type "enumerate") I gl hm' (by decide +kernel) ?_ n1 d1);have hA:=pa pos pins s σ H _ I h';have tr:backTo pos (starEach [a] X.env)=[(false,eval a X.env)]:=by rw [s1];rfl
 rw [tr] at hA ⊢;refine zcS rfl rfl (evalArgs_kwB rfl (yU hA fun us s1 ⟨vs,H1,I1,r1,q1⟩=>kws_cons (wpAny_Constant_int (kws_nil ?_))));obtain ⟨x,a1,vx,e,sx,q⟩:=q1;subst e;obtain ⟨u1,rfl,ru1⟩:=kK r1;cases (show u1=Value.ref a1 from ru1);obtain ⟨itx,vvx,ssx,hzx⟩:=I1.sqB sx
 have lt1:a1<s1.heap.objs.size:=by
  cases hb:pO x<;>rw [hb] at ssx<;>(obtain ⟨o,ho,_⟩:=ssx;exact Heap.lt_size ho)
 refine zcT (s:={ s1 with toks:=s1.toks+1 }) ssx fun h' z1 z2 z3=>?_;have J:Inv X pins σ H1 { s1 with heap:=h',toks:=s1.toks+1 }:=I1.kept z3
 have hf:∀ b∈[s1.heap.objs.size+1,s1.heap.objs.size],jK X pins H1 b:=fun b hb=>by
  have hge:s1.heap.objs.size<=b:=by
   simp only [List.mem_cons,List.not_mem_nil,or_false] at hb;omega
  exact I1.fpOk hge (I1.hok.fresh hge)
 have tu:=zeX (sn:=1) (b:=pO x) (e:=s1.heap.objs.size+1) (it:=s1.heap.objs.size) (l:=a1) X.prog X.w X.K tg (Nat.succ_ne_self _) (Nat.ne_of_lt (Nat.lt_succ_of_lt lt1)) (Nat.ne_of_lt lt1);have st:EnSt 1 (pO x) (s1.heap.objs.size+1) s1.heap.objs.size a1 0 h':=⟨.none,.bool false,.none,.inl rfl,.inl rfl,z1,z2⟩;exact tu.self X.A 0 { s1 with heap:=h',toks:=s1.toks+1 } _ _ st ⟨_,_,_,_,H1,rfl,J,tu,st,hf,q⟩
end L3
namespace L3
open PySem PySem.Spec PyProof.Rows L2
theorem zeF {Γ:Ctx3} {p:Par} (un:p.A.units+200<cLine) (fn:∀ f∈Γ.fn,qQ p f) (gl:∀ g∈Γ.gl,GlE p g) (mt:∀ m∈Γ.mt,MtE p m/\uI m) (it:∀ i∈Γ.it,ItE p i/\zbs i)
  (cl:∀ c∈Γ.cl,Cls p.K c.1/\∀ f∈c.2,qS p.K c.1 f) (sx:∀ k∈Γ.sx,SxE p k/\wP k.sp) (ix:∀ k∈Γ.ix,IxE p k/\∀ ws G (R R':List W->(Hw->Prop)->Hw->Prop),(∀ a b c,R a b c->R' a b c)->k.sp ws G R->k.sp ws G R'):Good Γ p where
 mono:=⟨fun f hf=>(fn f hf).2,fun m hm=>(mt m hm).2,fun i hi=>(it i hi).2,fun k hk=>(sx k hk).2,fun k hk=>(ix k hk).2⟩
 un:=un
 fn:=fun f hf=>(fn f hf).1
 gl:=gl
 mt:=fun m hm=>(mt m hm).1
 it:=fun i hi=>(it i hi).1
 cl:=cl
 sx:=fun k hk=>(sx k hk).1
 ix:=fun k hk=>(ix k hk).1
end L3
namespace L3
open PySem PySem.Spec PyProof.Rows L2 PySem.SeqAt AutoSeq1
end L3
namespace L3
open PySem PySem.Spec PyProof.Rows L2 PySem.SeqAt
structure KdS (prog:Program) (w:World) (α:Type) [DecidableEq α] where
 k:_root_.PySem.KeyKind prog w α
 vl:α->Tok->Value
 of:Value->α
 d:α
 is:∀ x t,k.is x (vl x t)=true
 sh:∀ {x v},k.is x v=true->∃ t,v=vl x t
 ofm:∀ x t,of (vl x t)=x
 sc:∀ x t,(vl x t).scannable=true
section
variable {α : Type} [DecidableEq α] {prog : Program} {w : World}
def tx (K:KdS prog w α) (e:Int×Value):α:=K.of e.2
end
section
variable {α : Type} [DecidableEq α] {prog : Program} {w : World} {K : KdS prog w α} {A : Around} {E : Value → Shared → Prop} {s : Shared} {S : Addr} {led : Bool}
end
section
variable {α : Type} [DecidableEq α] {prog : Program} {w : World} {K : KdS prog w α} {A : Around} {R : Result → Shared → Prop} {I : Addr} {fp wr : List Addr} {G : Array GenState → Array GenState → Prop} {n : Nat} {P : Nat → Value → Prop} {St : Nat → Shared → Prop} {S : Addr} {led : Bool}
end
section
variable {prog : Program} {w : World} {s : Shared} {A : Around} {E : Value → Shared → Prop}
end
namespace SI
end SI
section
variable {α : Type} [DecidableEq α] {prog : Program} {w : World} {K : KdS prog w α} {A : Around} {E : Value → Shared → Prop} {s : Shared} {I S : Addr} {first : Value} {i n ep : Nat} {led : Bool} {o : Obj} {es : Array (Int × Value)} {t : SetTable}
end
section
variable {α : Type} [DecidableEq α] {prog : Program} {w : World} {K : KdS prog w α} {A : Around} {I S T : Addr} {ep : Nat} {led : Bool} {o : Obj} {es : Array (Int × Value)} {t : SetTable}
end
section
variable {α : Type} [DecidableEq α] {prog : Program} {w : World} {K : KdS prog w α} {A : Around} {E : Value → Shared → Prop} {s : Shared} {S : Addr} {ep : Nat} {o : Obj} {es : Array (Int × Value)} {t : SetTable}
end
section
variable {α : Type} [DecidableEq α] {prog : Program} {w : World} {K : KdS prog w α} {A : Around} {E : Value → Shared → Prop} {s : Shared} {S : Addr} {ep : Nat} {o : Obj} {es : Array (Int × Value)} {t : SetTable}
end
section
variable {prog : Program} {w : World} {A : Around} {E : Value → Shared → Prop} {s : Shared}
end
section
variable {X : Cx}
theorem pH {K:zE} {H:Hp}:∀ (ss:List Str),zX K H (ss.map .str) (ss.map .str)
 | []=>rfl
 |x::ss=>⟨.str x,_,rfl,rfl,pH ss⟩
end
end L3
namespace L3
open PySem PySem.Spec PyProof.Rows L2 PySem.SeqAt PySem.Builtin PySem.Builtin.Str
theorem zap {prog:Program} {w:World} {A:Around} {E:Value->Shared->Prop} {s:Shared} {x y:Str} {t u:Tok} {Q:Value->Shared->Prop} (hy:(y.length==0)=false) (hsz:x.length<=sizeLine)
  (hsz2:(partsBetween x (occurrences x y 0 x.length (x.length+1)) y.length).length<=sizeLine)
  (hq:∀ l k,l.map (·.1)=Txt.split x y->Q (.ref s.heap.objs.size) { s with heap:=s.heap.push { cls:=.type "list", data:=.seq (strValues l).toArray },toks:=k }) :
  wpAny (model prog w) A (call (.builtin "str.split") [.str x t,.str y u]) Q E s:=by
 cases h1:(decide (x.length<y.length) || decide (strKind x<strKind y))
 .cases hf:(occurrences x y 0 x.length (x.length+1)).isEmpty
  .refine call_meets F.slot_str_split (typeIs_str _ _ _) F.entry_str_split (F.args_str_split_2 _ _) (meets_str_split_sep x y t u h1 hy hf hsz hsz2) ?_;show wants Q E _ { s with toks:=_,heap:=s.heap.push { cls:=.type "list", data:=.seq (strsFrom s.toks (partsBetween x (occurrences x y 0 x.length (x.length+1)) y.length)).toArray } };rw [strsFrom_eq];exact hq (numbered s.toks _) _ ((numbered_texts _ _).trans ((if_neg (ne_true_of_eq_false h1)).trans (if_neg (ne_true_of_eq_false hf))).symm)
  .exact call_meets F.slot_str_split (typeIs_str _ _ _) F.entry_str_split (F.args_str_split_2 _ _) (meets_str_split_not_found x y t u h1 hy hf) (hq [(x,t)] s.toks ((if_neg (ne_true_of_eq_false h1)).trans (if_pos hf)).symm)
 .exact call_meets F.slot_str_split (typeIs_str _ _ _) F.entry_str_split (F.args_str_split_2 _ _) (meets_str_split_cannot_occur x y t u h1) (hq [(x,t)] s.toks (if_pos h1).symm)
theorem pF (x y:Str):(Txt.split x y).length<=x.length+2:=by
 unfold Txt.split
 split
 .simp
 .split
  .simp
  .rw [length_partsBetween];have:=StrLaws.occ_length_le x y 0 x.length (x.length+1);omega
def uT:MS:=fun x ws G Q=>match x,ws with
 | .str x,[.str y]=>(y.length==0)=false/\x.length<=1000000/\∀ r,G r=none->Q (.ref r) (put G r (.lst ((Txt.split x y).map .str)))
 |_,_=>False
theorem uF:∀ x ws G (Q Q':Q3),(∀ w G',Q w G'->Q' w G')->uT x ws G Q->uT x ws G Q':=by
 intro x ws G Q Q' k h;unfold uT at h ⊢
 split at h
 .exact ⟨h.1,h.2.1,fun r hr=>k _ _ (h.2.2 r hr)⟩
 .exact h.elim
theorem sY:∀ (l:List (Str×Tok)),zV ((l.map (·.1)).map V.str) (strValues l)
 | []=>.nil
 | (x,t)::l=>.cons ⟨t,rfl⟩ (sY l)
theorem zbD {X:Cx}:MtR X "str.split" (lowM X.K uT):=by
 intro pins s σ H x xs v us Q I rx rxs h;obtain ⟨w,ws,G,rw1,rs,ab,h⟩:=h;unfold uT at h
 split at h
 .rename_i x' y;cases (show x=.str x' from rw1);obtain ⟨z,rfl,rz⟩:=kJ rs;cases (show z=.str y from rz);obtain ⟨u,rfl,ru⟩:=kK rxs;obtain ⟨t',rfl⟩:=ru;obtain ⟨t,rfl⟩:=rx;obtain ⟨hy,hx,h⟩:=h;have hl:=pF x' y;refine wI I.tk (zap hy (by rw [sizeLine_eq];omega) (by rw [length_partsBetween,sizeLine_eq];have:=StrLaws.occ_length_le x' y 0 x'.length (x'.length+1);omega) fun l k e h0=>?_);have hn:H s.heap.objs.size=none:=I.hok.fresh (zzR _);refine ⟨.ref s.heap.objs.size,_,I.laid (o:=.lst ((Txt.split x' y).map .str)) (fun b ob q=>Heap.get?_push_of_some _ q) (zzR _) ⟨by rw [zzM,sizeLine_eq];omega,strValues l,0,by rw [← e];exact sY l,Heap.get?_push_size _ rfl⟩ h0,rfl,jV ab (pH _) h _ hn⟩
 .exact h.elim
abbrev rP:Mt3:=⟨"split", "str", uT⟩
theorem za7 {q:Pr} {A:Around}:MtE (q.at A) rP/\uI rP:=⟨sL PySem.F.plainAttrs_str PySem.F.slot_str_split PySem.F.type_str_split (fun X f=>zbD) uF,uF⟩
end L3
namespace L2
open PySem
theorem zdz {α:Type} {M:Model} {Γ:Ctx}:∀ (t:Sem α) (p:Pos) (s:Shared),¬ Sem.wp M Γ t (fun _ _ _=>False) (fun _ _ _=>False) p s:=by
 intro t
 induction t with
 |pure a=>intro p s z;rw [Sem.wp] at z;exact z
 |raise e=>intro p s z;rw [Sem.wp] at z;exact z
 |unsupported _=>intro p s z;rw [Sem.wp] at z;exact z
 |finish _=>intro p s z;rw [Sem.wp] at z;exact z
 |register _ _ _=>intro p s z;rw [Sem.wp] at z;exact z
 | «yield» _ _ _ _ _=>intro p s z;rw [Sem.wp] at z;exact z
 |load a part k ih=>intro p s z;rw [Sem.wp] at z;obtain ⟨o,e,z⟩:=z;exact ih o p s z
 |update a part f k ih=>intro p s z;rw [Sem.wp] at z;exact ih () p _ z.2
 |fresh k ih=>intro p s z;rw [Sem.wp] at z;exact ih _ p _ z
 |choose src m k ih=>intro p s z;rw [Sem.wp] at z;exact ih _ p _ z.2
 |genState g k ih=>intro p s z;rw [Sem.wp] at z;obtain ⟨st,e,z⟩:=z;exact ih _ p s z
 |resume g r l k ih=>intro p s z;rw [Sem.wp] at z;obtain ⟨res,s',w,z⟩:=z;exact ih _ p s' z
 |call c hd g l k ih=>intro p s z;rw [Sem.wp] at z;obtain ⟨r,s',w,z⟩:=z;exact ih _ p s' z
 |_=>first|(intro p s z;rw [Sem.wp] at z;exact z.elim)|(rename_i ih;intro p s z;rw [Sem.wp] at z;exact ih _ _ _ z)
theorem rB {α β:Type} {M:Model} {A:Around} {t:Sem α} {s:Shared} (h:wpAny M A t (fun _ _=>False) (fun _ _=>False) s) {u:Sem β} {Q:β->Shared->Prop} {E:Value->Shared->Prop}:wpAny M A u Q E s:=fun Γ p hΓ=>(zdz t p s (h Γ p hΓ)).elim
end L2
namespace L3
open PySem PySem.Spec PyProof.Rows L2 PySem.SeqAt PySem.Builtin PySem.Builtin.Str
theorem dQ {K:zE} {h:Heap} (X:K.In h) (lim:h.NoLimit) (e:PySem.W.nsIn K cStatics sharingNotToldKey=some none):NoneBooked h:=by
 obtain ⟨mc,hn,_⟩:=lim;exact ⟨mc,hn,PySem.W.ns_none_of X hn e⟩
theorem Inv.lim {X:Cx} {pins:List (Addr×Obj)} {σ:L2.St} {H:Hp} {s:Shared} (I:Inv X pins σ H s):s.heap.NoLimit:=I.ok.mod.nolimit.keeps I.bk
def Ev2 (X:Cx) (e2:Expr) (t2:TE):Prop:=∀ (pins:List (Addr×Obj)) (s:Shared) (σ:L2.St) (H:Hp) (Q:VK) (k:Nat),k<s.toks->Inv X pins σ H s->t2 σ H Q ->
 wpAny (model X.prog X.w) X.A (eval e2 X.env) (fun v s'=>∃ b t' H',v=.str b t'/\k<t'/\Inv X pins σ H' s'/\Q (.str b) H') X.xe s
theorem zeg {prog:Program} {w:World} {A:Around} {E:Value->Shared->Prop} {s:Shared} {env:Env} {o:Expr} {nm:Str} {ap cp:Pos} {es:List Expr} {ts:List (Bool×Sem Value)} {Q:Value->Shared->Prop}
  (hb:attributeBase o nm env (eval o env)=eval o env) (hf:methodCallForm (es.length+([]:List Keyword).length) (backTo cp (starEach es env)) (backToKw cp (keywordEach [] env))=true) (hl:(ap.endLine==cp.line)=true) (ht:backTo cp (starEach es env)=ts)
  (h:wpAny (model prog w) A (eval o env) (fun v s1=>MethodOn prog w A nm cp v ts Q E s1\/∃ t:Sem Value,wpAny (model prog w) A t (fun _ _=>False) (fun _ _=>False) s1) E s):wpAny (model prog w) A (eval (.Call (.Attribute o nm ap) es [] cp) env) Q E s:=by
 subst ht;rw [arm_eval_Call,hb];refine wpAny_bind (yU h fun v s1 z=>?_);rcases z with ⟨T,id,a1,a2,a3,a4,a5,a6⟩|⟨t,z⟩
 .have e:methodCallPos true o env ap cp=pure cp:=by unfold methodCallPos;simp [hl]
  refine wpAny_bind (wpAny_standAt ?_);unfold methodCall;rw [hf];exact wpAny_bind (wpAny_holding (getMethod_builtin a4 a1 a2 a3 a5 (wpAny_bind (wpAny_of_eq e a6))))
 .exact rB z
def Dead (X:Cx) (σ:L2.St) (H:Hp):Prop:=∀ (pins:List (Addr×Obj)) (s:Shared),Inv X pins σ H s->∃ t:Sem Value,wpAny (model X.prog X.w) X.A t (fun _ _=>False) (fun _ _=>False) s
theorem ze3 {X:Cx} {b:Expr} {tb:TE} {σ:L2.St} {H:Hp} (hx:X.xe=fun _ _=>False) (hb:PE X b tb) (h:tb σ H fun _ _=>False):Dead X σ H:=fun pins s I=>by
 refine ⟨eval b X.env,?_⟩;have:=hb pins s σ H _ I h;rw [hx] at this;exact yU this fun v s' ⟨_,_,_,_,z⟩=>z
def tRep (X:Cx) (a:Str) (to t2:TE):TE:=fun σ H Q=>to σ H fun x H1=>(∃ y,x=.str y/\t2 σ H1 fun z H2=>∃ b,z=.str b/\y.length+(y.length+1) * b.length<=16777216/\Q (.str (Txt.replace y a b)) H2)\/Dead X σ H1
theorem zf8 {X:Cx} {o e2:Expr} {a:Str} {j:Nat} {p1 apos cpos:Pos} {to t2:TE} (hb:PySem.W.nsIn X.K cStatics sharingNotToldKey=some none) (ho:PE X o to) (h2:Ev2 X e2 t2) (hn:yB e2=true)
  (hbase:attributeBase o "replace" X.env (eval o X.env)=eval o X.env) (hline:(apos.endLine==cpos.line)=true):PE X (.Call (.Attribute o "replace" apos) [.Constant (.str a) j p1,e2] [] cpos) (tRep X a to t2):=by
 intro pins s σ H Q I h;have hs:=cY (args:=[.Constant (.str a) j p1,e2]) (env:=X.env) (pos:=cpos) (by show (true&&(yB e2&&true))=true;rw [hn];rfl)
 have tr:backTo cpos (starEach [.Constant (.str a) j p1,e2] X.env)=[(false,eval (.Constant (.str a) j p1) X.env),(false,eval e2 X.env)]:=by
  cases e2<;>first|rfl|cases hn
 refine zeg hbase (by unfold methodCallForm;rw [hs];rfl) hline tr (yU (ho pins s σ H _ I h) fun v s1 ⟨x,H1,I1,r1,q1⟩=>?_);refine q1.elim (fun ⟨y,ey,qy⟩=>?_) fun dd=>.inr (dd pins s1 I1);subst ey;obtain ⟨t,rfl⟩:=r1;refine .inl ⟨"str", "str.replace", PySem.F.plainAttrs_str,PySem.F.slot_str_replace,PySem.F.type_str_replace,typeIs_str _ _ _,fun b z=>(nomatch z),?_⟩;refine Calls.callWith_builtin rfl (Calls.evalArgs_plain (Calls.spliced_cons (Calls.Constant_str ?_)));refine Calls.spliced_cons (yU (h2 pins { s1 with toks:=s1.toks+1 } σ H1 _ s1.toks (Nat.lt_succ_self _) (I1.tok _) qy) fun v2 s2 ⟨b,t',H2,e2',lt,I2,b',eb,hl,q2⟩=>Calls.spliced_nil ?_);subst e2';cases eb;have k0:=I1.tk;exact wI I2.tk (SC.replaceA (Nat.ne_of_gt k0) (Nat.ne_of_gt (Nat.lt_trans k0 lt)) (Nat.ne_of_lt lt) hl (fun t' k h0=>⟨.str (Txt.replace y a b),H2,I2.tok _ h0,⟨t',rfl⟩,q2⟩) (dQ I2.kIn (Inv.lim I2) hb))
def conS:Expr->Option Str
 | .Constant (.str b) _ _=>some b
 |_=>none
theorem zaq {M:Model} {A:Around} {E:Value->Shared->Prop} {env:Env} {pos:Pos}:∀ (es:List Expr) (bs:List Str),es.map conS=bs.map some->∀ (s:Shared) (Q:List Value->Shared->Prop),
  (∀ (l:List (Str×Tok)) (k:Nat),l.map (·.1)=bs->(∀ p∈l,s.toks<=p.2)->s.toks<=k->Q (strValues l) { s with toks:=k })->wpAny M A (spliced (backTo pos (starEach es env))) Q E s
 | [],bs,h,s,Q,q=>by
  cases bs with
  |nil=>exact Calls.spliced_nil (q [] s.toks rfl (fun _ z=>nomatch z) (zzR _))
  |cons _ _=>cases h
 |e::es,bs,h,s,Q,q=>by
  cases bs with
  |nil=>cases h
  |cons b bs =>
   rw [zzU,zzU] at h
   injection h with h1 h2
   obtain ⟨j,p,rfl⟩:∃ j p,e=.Constant (.str b) j p:=by
    unfold conS at h1
    split at h1
    .cases h1;exact ⟨_,_,rfl⟩
    .cases h1
   refine Calls.spliced_cons (Calls.Constant_str (k:=j) (pos:=p) (zaq es bs h2 _ _ fun l k e1 e2 e3=>?_))
   exact q ((b,s.toks)::l) k (by rw [zzU,e1]) (fun p hp=>by
    rcases List.mem_cons.mp hp with rfl|hp
    .exact zzR _
    .exact Nat.le_of_succ_le (e2 p hp)) (Nat.le_of_succ_le e3)
theorem sX:∀ (l:List (Str×Tok)) (n:Nat) (c:Str),(l.map (·.1))[n]?=some c->∃ t,(c,t)∈l/\(strValues l)[n]?=some (.str c t)
 | [],_,_,h=>by simp at h
 | (b,t)::l,0,c,h=>by
  have e:b=c:=by simpa using h
  subst e;exact ⟨t,zzT,rfl⟩
 | (b,t)::l,n+1,c,h=>by
  obtain ⟨t',m,e⟩:=sX l n c (by simpa using h);exact ⟨t',List.mem_cons_of_mem _ m,e⟩
theorem zg6 {X:Cx} {es:List Expr} {bs:List Str} {b:Expr} {p q:Pos} {te:TE} (hes:es.map conS=bs.map some) (hl:bs.length<100) (hb:PE X b te) (hs:gC b) :
  Ev2 X (.Subscript (.List es p) b q) (fun σ H Q=>te σ H fun y H1=>∃ (n:Nat) (c:Str),y=.int n/\bs[n]?=some c/\Q (.str c) H1):=by
 intro pins s σ H Q k hk I h;refine Subscript_ (wpAny_List_spliced (zaq es bs hes s _ fun l k' e1 e2 e3=>⟨?_,?_⟩))
 .have e:=congrArg List.length e1;rw [zzM] at e;rw [show (strValues l).length=l.length by simp [strValues],e,sizeLine_eq];omega
 have hn:H s.heap.objs.size=none:=I.hok.fresh (zzR _);have I1:Inv X pins σ H { s with heap:=s.heap.push { cls:=.type "list", data:=.seq (strValues l).toArray },toks:=k' }:=I.kept (fun b o e=>Heap.get?_push_of_some _ e) (by have:=I.tk;omega);have at1:(s.heap.push { cls:=.type "list", data:=.seq (strValues l).toArray }).get? s.heap.objs.size=some { cls:=.type "list", data:=.seq (strValues l).toArray }:=Heap.get?_push_size _ rfl;have I2:=I1.pinned (fp:=[s.heap.objs.size]) (fun b hb=>by rw [zzO hb];exact I.fpOk (zzR _) hn) (fun b hb=>by rw [zzO hb];exact ⟨_,at1,fun v z=>nomatch z⟩);refine yU (hb _ _ σ H _ I2 h) fun u s2 ⟨y,H2,I3,ry,n,c,ey,en,q⟩=>?_;subst ey;obtain ⟨t,rfl⟩:=ry;have at2:=(I3.pin (s.heap.objs.size,{ cls:=.type "list", data:=.seq (strValues l).toArray }) (List.mem_append_right _ (List.mem_append_right _ (wD (List.mem_singleton.mpr rfl) at1)))).1;obtain ⟨t',m,ev⟩:=sX l n c (by rw [e1];exact en);have ln:n<bs.length:=(List.getElem?_eq_some_iff.mp en).1;refine item_listR (items:=(strValues l).toArray) (x:=.str c t') ⟨_,at2,rfl,_,rfl⟩ (Int.natCast_nonneg n) (by omega) (by simpa using ev) ⟨c,t',H2,rfl,Nat.lt_of_lt_of_le hk (e2 _ m),I3.unpinned,q⟩ (hs _ _)
def rpxM (a:Str) (bs:List Str):Scope->Expr->Option (List Expr):=fun _ e=>match e with
 | .Call (.Attribute o m apos) [.Constant (.str x) _ _,.Subscript (.List es _) b _] [] cpos=>if (m==("replace" : Str)&&x==a&&es.map conS==bs.map some&&tX o&&jD b&&apos.endLine==cpos.line)=true then some [o,b] else none
 |_=>none
theorem zbQ {a:Str} {bs:List Str} {sc:Scope} {e:Expr} {xs:List Expr} (h:rpxM a bs sc e=some xs):∃ o apos cpos j p es p1 b p2,xs=[o,b]/\e=.Call (.Attribute o "replace" apos) [.Constant (.str a) j p,.Subscript (.List es p1) b p2] [] cpos/\es.map conS=bs.map some/\tX o=true/\jD b=true/\(apos.endLine==cpos.line)=true:=by
 unfold rpxM at h
 split at h
 .rename_i o m apos x j p es p1 b p2 cpos
  by_cases hb:(m==("replace" : Str)&&x==a&&es.map conS==bs.map some&&tX o&&jD b&&apos.endLine==cpos.line)=true
  .rw [if_pos hb] at h;cases h;simp only [Bool.and_eq_true,beq_iff_eq] at hb;obtain ⟨⟨⟨⟨⟨rfl,rfl⟩,h0⟩,h1⟩,h3⟩,h2⟩:=hb;exact ⟨o,apos,cpos,j,p,es,p1,b,p2,rfl,rfl,h0,h1,h3,by rw [h2];exact beq_self_eq_true _⟩
  .rw [if_neg hb] at h;cases h
 .cases h
def bW (a:Str) (bs:List Str):RS:=fun ws G Q=>match ws with
 | [.str y,.int i]=>∃ (n:Nat) (c:Str),i=n/\bs[n]?=some c/\y.length+(y.length+1) * c.length<=16777216/\Q (.str (Txt.replace y a c)) G
 |_=>False
theorem zav {a:Str} {bs:List Str}:wP (bW a bs):=by
 intro ws G Q Q' k h;unfold bW at h ⊢
 split at h
 .obtain ⟨n,c,h1,h2,h3,h⟩:=h;exact ⟨n,c,h1,h2,h3,k _ _ h⟩
 .exact h.elim
theorem zfD {q:Pr} {A:Around} {a:Str} {bs:List Str} (hl:bs.length<100) (hb:PySem.W.nsIn q.K cStatics sharingNotToldKey=some none):SxE (q.at A) ⟨rpxM a bs,bW a bs⟩:=by
 intro X fits e xs es he each hn pa;obtain ⟨o,apos,cpos,j,p,es0,p1,b,p2,rfl,rfl,h0,h1,h3,h2⟩:=zbQ (sc:=X.env.scope) he
 cases es with
 |nil=>exact each.elim
 |cons e0 r =>
  obtain ⟨mo,po,er⟩:=each
  cases r with
  |nil=>exact er.elim
  |cons e1 r =>
   obtain ⟨m1,p1',er⟩:=er
   cases r with
   |cons _ _=>exact er.elim
   |nil =>
    refine ⟨fun pins s σ H Q I h=>?_,fun _=>rfl,fun _ _ _ z=>nomatch z⟩;refine zf8 (by rw [show X.K=q.K from fits.K];exact hb) po (zg6 h0 hl p1' (dW h3)) rfl (qT h1) h2 pins s σ H Q I ?_;obtain ⟨σ3,G,hs,ab,h⟩:=h;refine yX mo hs ab h fun w G1 v H1 g1 hs1 rw1 a1 h=>?_;dsimp only [kQ] at h;refine (Classical.em (∃ y,w=.str y)).elim (fun sw=>?_) fun sw=>?_
    rotate_left
    .refine .inr (ze3 fits.xe p1' (yX m1 hs1 a1 h fun w2 G2 v2 H2 g2 hs2 rw2 a2 h=>?_));unfold bW at h
     split at h
     .rename_i y' i e;cases e;exact sw ⟨_,rfl⟩
     .exact h
    obtain ⟨y,rfl⟩:=sw;cases (show v=.str y from rw1);refine .inl ⟨y,rfl,yX m1 hs1 a1 h fun w2 G2 v2 H2 g2 hs2 rw2 a2 h=>?_⟩;unfold bW at h
    split at h
    .rename_i y' i e;cases e;obtain ⟨n,c,rfl,e1,e2,h⟩:=h;cases (show v2=.int n from rw2);exact ⟨n,c,rfl,e1,c,rfl,e2,h _ H2 (g1.trans g2) rfl a2⟩
    .exact h.elim
def pP:List (Option Str)->List Expr->Option (List Expr)
 | [],[]=>some []
 |some a::ps,.Constant (.str b) _ _::vs=>if a==b then pP ps vs else none
 |none::ps,.FormattedValue v c sp _::vs=>if (c==-1&&sp.isNone)=true then (pP ps vs).map (v::·) else none
 |_,_=>none
def jT:List (Option Str)->List Str->Str
 | [],_=>Str.empty
 |some a::ps,ts=>a++jT ps ts
 |none::ps,t::ts=>t++jT ps ts
 |none::ps,[]=>jT ps []
def vX (ps:List (Option Str)):Scope->Expr->Option (List Expr):=fun _ e=>match e with
 | .JoinedStr (a::b::r) _=>pP ps (a::b::r)
 |_=>none
theorem zcD {ps:List (Option Str)} {sc:Scope} {e:Expr} {xs:List Expr} (h:vX ps sc e=some xs):∃ a b r p,e=.JoinedStr (a::b::r) p/\pP ps (a::b::r)=some xs:=by
 unfold vX at h
 split at h
 .exact ⟨_,_,_,_,rfl,h⟩
 .cases h
def zfI (env:Env):List Expr->Sem Unit
 | []=>pure ()
 |x::xs=>eval x env >>= fun _=>zfI env xs
theorem sS {X:Cx} (hx:X.xe=fun _ _=>False):∀ (xs:List Expr) (es:List E3) (pins:List (Addr×Obj)) (s:Shared) (τ:L2.St) (H:Hp) (σ:wU) (G:Hw),uZ X xs es->Inv X pins τ H s->zG X.K H σ τ->yF X.K H G->kQ es σ G (fun _ _=>False) ->
  wpAny (model X.prog X.w) X.A (zfI X.env xs) (fun _ _=>False) (fun _ _=>False) s
 | [],[],_,_,_,_,_,_,_,_,_,_,h=>h.elim
 | [],_::_,_,_,_,_,_,_,e,_,_,_,_=>e.elim
 |_::_,[],_,_,_,_,_,_,e,_,_,_,_=>e.elim
 |x::xs,e::es,pins,s,τ,H,σ,G,⟨m,pe,r⟩,I,hs,ab,h=>by
  have w:=pe pins s τ H (fun v H1=>∃ G1,zG X.K H1 σ τ/\yF X.K H1 G1/\kQ es σ G1 (fun _ _=>False)) I (yX m hs ab h fun w G1 v H1 g1 hs1 rw1 a1 h=>⟨G1,hs1,a1,xQ r σ G1 _ _ (fun _ _ z=>z) h⟩);rw [hx] at w;exact wpAny_bind (yU w fun v s1 ⟨_,H1,I1,_,G1,hs1,a1,h1⟩=>sS hx xs es pins s1 τ H1 σ G1 r I1 hs1 a1 h1)
theorem zbq (a b c:Str):a++b++c=a++(b++c):=by
 show (⟨(a.cps++b.cps)++c.cps⟩:Str)=⟨a.cps++(b.cps++c.cps)⟩;rw [Array.append_assoc]
theorem zds (a:Str):a++Str.empty=a:=by
 show (⟨a.cps++#[]⟩:Str)=a;rw [Array.append_empty]
theorem zg9 (a:Str):Str.empty++a=a:=by
 show (⟨#[]++a.cps⟩:Str)=a;rw [Array.empty_append]
def FstK (X:Cx) (ps:List (Option Str)) (acc:Str) (H:Hp) (Q:VK) (ws:List W) (G':Hw):Prop:=∃ ts:List Str,ws=ts.map .str/\acc.length+(jT ps ts).length<=1000000/\∀ H',zB X.K H H'->yF X.K H' G'->Q (.str (acc++jT ps ts)) H'
theorem za1 {X:Cx} (hx:X.xe=fun _ _=>False):∀ (ps:List (Option Str)) (vs xs:List Expr) (es:List E3) (acc:Str) (pins:List (Addr×Obj)) (s:Shared) (τ:L2.St) (H:Hp) (σ:wU) (G:Hw) (Q:VK),pP ps vs=some xs->uZ X xs es->Inv X pins τ H s->zG X.K H σ τ->yF X.K H G ->
  kQ es σ G (FstK X ps acc H Q)->Joins (model X.prog X.w) X.A X.xe (evalEach vs X.env) acc (fun out s1=>out.length<=sizeLine/\EP X pins τ Q (.str out s1.toks) { s1 with toks:=s1.toks+1 }) s:=by
 intro ps
 induction ps with
 |nil =>
  intro vs xs es acc pins s τ H σ G Q hp each I hs ab h
  cases vs with
  |cons _ _=>cases hp
  |nil =>
   cases hp
   cases es with
   |cons _ _=>exact each.elim
   |nil =>
    obtain ⟨ts,e,l,q⟩:=h;have q:=q H .refl ab;dsimp only [jT] at q l;rw [zds] at q;exact ⟨by rw [sizeLine_eq];omega,.str acc,H,I.tok _,⟨_,rfl⟩,q⟩
 |cons p ps ih =>
  intro vs xs es acc pins s τ H σ G Q hp each I hs ab h
  cases p with
  |some a =>
   obtain ⟨j,po,vs',rfl,hq⟩:∃ j po vs',vs=.Constant (.str a) j po::vs'/\pP ps vs'=some xs:=by
    unfold pP at hp
    split at hp
    .rename_i e;cases e
    .rename_i b j po vs' e;cases e
     split at hp
     .rename_i e;cases eq_of_beq e;exact ⟨_,_,_,rfl,hp⟩
     .cases hp
    .rename_i e;cases e
    .cases hp
   show wpAny _ _ (eval (.Constant (.str a) j po) X.env) _ _ s
   by_cases hl:acc.length+a.length<=1000000
   .refine Calls.Constant_str ⟨a,_,rfl,by rw [strLen_append,sizeLine_eq];omega,ih vs' xs es (acc++a) pins _ τ H σ G Q hq each (I.tok _) hs ab (xQ each σ G _ _ (fun ws G' z=>?_) h)⟩;obtain ⟨ts,e,l,q⟩:=z;dsimp only [jT] at l q;rw [strLen_append] at l;exact ⟨ts,e,by rw [strLen_append];omega,fun H' g a'=>by rw [zbq];exact q H' g a'⟩
   .refine rB (sS hx xs es pins s τ H σ G each I hs ab (xQ each σ G _ _ (fun ws G' z=>?_) h));obtain ⟨ts,e,l,q⟩:=z;dsimp only [jT] at l;rw [strLen_append] at l;omega
  |none =>
   obtain ⟨v,po,vs',xs',rfl,rfl,hq⟩:∃ v po vs' xs',vs=.FormattedValue v (-1) none po::vs'/\xs=v::xs'/\pP ps vs'=some xs':=by
    unfold pP at hp
    split at hp
    .rename_i e;cases e
    .rename_i e;cases e
    .rename_i v c sp po vs' e;cases e
     split at hp
     .rename_i e;simp only [Bool.and_eq_true,beq_iff_eq,Option.isNone_iff_eq_none] at e;obtain ⟨rfl,rfl⟩:=e
      cases hq:pP ps vs' with
      |none=>rw [hq] at hp;cases hp
      |some ys=>rw [hq] at hp;cases hp;exact ⟨_,_,_,_,rfl,rfl,hq⟩
     .cases hp
    .cases hp
   cases es with
   |nil=>exact each.elim
   |cons e es =>
    obtain ⟨m,pe,r⟩:=each;show wpAny _ _ (eval (.FormattedValue v (-1) none po) X.env) _ _ s
    refine wpAny_FormattedValue_plain (yU (pe pins s τ H (fun v' H1=>∃ w G1,yA X.K H1 w v'/\zG X.K H1 σ τ/\yF X.K H1 G1/\zB X.K H H1/\kQ es σ G1 fun ws G'=>FstK X (none::ps) acc H Q (w::ws) G') I
     (yX m hs ab h fun w G1 v' H1 g1 hs1 rw1 a1 h=>⟨w,G1,rw1,hs1,a1,g1,h⟩)) fun u s1 ⟨v',H1,I1,ru,w,G1,rw1,hs1,a1,g1,h1⟩=>?_)
    by_cases hw:∃ y,w=.str y/\acc.length+y.length<=1000000
    .obtain ⟨y,rfl,hl⟩:=hw;cases (show v'=.str y from rw1);obtain ⟨t,rfl⟩:=ru;have hy:y.length<=sizeLine:=by rw [sizeLine_eq];omega
     have go:∀ s2,Inv X pins τ H1 s2->Joins (model X.prog X.w) X.A X.xe (evalEach vs' X.env) (acc++y) (fun out s1=>out.length<=sizeLine/\EP X pins τ Q (.str out s1.toks) { s1 with toks:=s1.toks+1 }) s2:=fun s2 I2 =>
      ih vs' xs' es (acc++y) pins s2 τ H1 σ G1 Q hq r I2 hs1 a1 (xQ r σ G1 _ _ (fun ws G' z=>by
       obtain ⟨ts,e,l,q⟩:=z
       cases ts with
       |nil=>cases e
       |cons t ts =>
        rw [zzU] at e
        injection e with e1 e2
        cases e1;dsimp only [jT] at l q;rw [strLen_append] at l;exact ⟨ts,e2,by rw [strLen_append];omega,fun H' g a'=>by rw [zbq];exact q H' (g1.trans g) a'⟩) h1)
     have hz:(acc++y).length<=sizeLine:=by rw [strLen_append,sizeLine_eq];omega
     exact wpAny_formatField_str ⟨y,_,rfl,hz,go s1 I1⟩ ⟨y,_,rfl,hz,go _ (I1.tok _)⟩ hy
    .refine rB (sS hx xs' es pins s1 τ H1 σ G1 r I1 hs1 a1 (xQ r σ G1 _ _ (fun ws G' z=>hw ?_) h1));obtain ⟨ts,e,l,q⟩:=z
     cases ts with
     |nil=>cases e
     |cons t ts =>
      rw [zzU] at e
      injection e with e1 e2
      dsimp only [jT] at l;rw [strLen_append] at l;exact ⟨t,e1,by omega⟩
def pQ (ps:List (Option Str)):RS:=fun ws G Q=>∃ ts:List Str,ws=ts.map .str/\(jT ps ts).length<=1000000/\Q (.str (jT ps ts)) G
theorem kU {ps:List (Option Str)}:wP (pQ ps):=fun ws G Q Q' k ⟨ts,e,l,h⟩=>⟨ts,e,l,k _ _ h⟩
theorem mR {q:Pr} {A:Around} {ps:List (Option Str)}:SxE (q.at A) ⟨vX ps,pQ ps⟩:=by
 intro X fits e xs es he each hn pa;obtain ⟨a,b,r,p,rfl,he⟩:=zcD (sc:=X.env.scope) he;refine ⟨fun pins s τ H Q I h=>?_,fun _=>rfl,fun _ _ _ z=>nomatch z⟩;obtain ⟨σ,G,hs,ab,h⟩:=h;refine wpAny_JoinedStr (za1 fits.xe ps _ xs es Str.empty pins s τ H σ G Q he each I hs ab (xQ each σ G _ _ (fun ws G' z=>?_) h));obtain ⟨ts,e,l,q⟩:=z;exact ⟨ts,e,by rw [show Str.empty.length=0 from rfl];omega,fun H' g a'=>by rw [zg9];exact q _ H' g rfl a'⟩
def qX (c:Nat):List Nat->List (List Nat)
 | []=>[[]]
 |k::r=>if k=c then []::qX c r else match qX c r with
  |h::t=>(k::h)::t
  | []=>[[k]]
theorem zbe (c:Nat):∀ l,qX c l≠[]
 | []=>by simp [qX]
 |k::r=>by
  unfold qX
  split
  .simp
  .split<;>simp
theorem vB {c:Nat}:∀ {l:List Nat},c∉l->qX c l=[l]
 | [],_=>rfl
 |k::r,h=>by
  simp only [List.mem_cons,not_or] at h;unfold qX;rw [if_neg (Ne.symm h.1),vB h.2]
theorem tH {c:Nat}:∀ (a b:List Nat),qX c (a++c::b)=qX c a++qX c b
 | [],b=>by show qX c (c::b)=[[]]++qX c b;rw [qX,if_pos rfl];rfl
 |k::a,b=>by
  show qX c (k::(a++c::b))=qX c (k::a)++qX c b;rw [qX,tH a b,qX]
  split
  .rfl
  .cases h:qX c a with
   |nil=>exact absurd h (zbe c a)
   |cons x t=>rfl
theorem rM {c:Nat}:∀ (ps:List Str),ps≠[]->(∀ p∈ps,c∉p.cps.toList)->qX c (Str.join ⟨#[c]⟩ ps).cps.toList=ps.map (·.cps.toList)
 | [],h,_=>absurd rfl h
 | [p],_,h=>vB (h p zzT)
 |p::q::r,_,h=>by
  have ih:=rM (q::r) (by simp) fun a ha=>h a (List.mem_cons_of_mem _ ha);show qX c (p++⟨#[c]⟩++Str.join ⟨#[c]⟩ (q::r)).cps.toList=_;rw [Str.cps_append,Str.cps_append,Array.toList_append,Array.toList_append,List.append_assoc];show qX c (p.cps.toList++c::(Str.join ⟨#[c]⟩ (q::r)).cps.toList)=_;rw [tH,ih,vB (h p zzT)];rfl
theorem zbE (x:Str) (c:Nat):Txt.split x ⟨#[c]⟩≠[]:=by
 unfold Txt.split
 split
 .simp
 .split
  .simp
  .intro h;have:=congrArg List.length h;rw [length_partsBetween] at this;simp at this
theorem uU (x:Str) (c:Nat):(Txt.split x ⟨#[c]⟩).map (·.cps.toList)=qX c x.cps.toList:=by
 have h:=rM (c:=c) (Txt.split x ⟨#[c]⟩) (zbE x c) (StrLaws.split_free x c);rw [StrLaws.join_split] at h;exact h.symm
theorem fR (x:Str) (c:Nat):Txt.split x ⟨#[c]⟩=(qX c x.cps.toList).map fun l=>⟨l.toArray⟩:=by
 rw [← uU,List.map_map]
 conv=>lhs;rw [← List.map_id (Txt.split x ⟨#[c]⟩)]
 exact List.map_congr_left fun a _=>by simp
def wd (l:List Nat):List (List Nat):=(qX 32 l).filter fun w=>!w.isEmpty
theorem zfj:wd []=[]:=rfl
theorem cF (a b:List Nat):wd (a++32::b)=wd a++wd b:=by unfold wd;rw [tH,List.filter_append]
theorem zdA (b:List Nat):wd (32::b)=wd b:=cF [] b
theorem qA:∀ (n:Nat) (b:List Nat),wd (List.replicate n 32++b)=wd b
 | 0,_=>rfl
 |n+1,b=>by rw [List.replicate_succ];exact (zdA _).trans (qA n b)
theorem zfi:∀ (n:Nat) (a:List Nat),wd (a++List.replicate n 32)=wd a
 | 0,a=>by simp
 |n+1,a=>by rw [List.replicate_succ,cF,show List.replicate n 32=List.replicate n 32++[] by simp,qA,zfj,List.append_nil]
theorem zfk (n:Nat) (a b:List Nat):wd (a++(List.replicate (n+1) 32++b))=wd a++wd b:=by
 rw [List.replicate_succ];show wd (a++32::(List.replicate n 32++b))=_;rw [cF,qA]
theorem mU (n:Nat):∀ (ps:List Str),wd (Str.join ⟨(List.replicate (n+1) 32).toArray⟩ ps).cps.toList=ps.flatMap fun p=>wd p.cps.toList
 | []=>rfl
 | [p]=>by simp [Str.join]
 |p::q::r=>by
  have ih:=mU n (q::r);show wd (p++⟨(List.replicate (n+1) 32).toArray⟩++Str.join ⟨(List.replicate (n+1) 32).toArray⟩ (q::r)).cps.toList=_;rw [Str.cps_append,Str.cps_append,Array.toList_append,Array.toList_append,List.append_assoc];show wd (p.cps.toList++(List.replicate (n+1) 32++(Str.join ⟨(List.replicate (n+1) 32).toArray⟩ (q::r)).cps.toList))=_;rw [zfk,ih];rfl
theorem zfh (n:Nat) (x:Str):wd (Txt.replace x ⟨#[32]⟩ ⟨(List.replicate (n+1) 32).toArray⟩).cps.toList=wd x.cps.toList:=by
 rw [StrLaws.replace_one,mU];have h:=mU 0 (Txt.split x ⟨#[32]⟩);have e:(⟨(List.replicate (0+1) 32).toArray⟩:Str)=⟨#[32]⟩:=rfl;rw [e,StrLaws.join_split] at h;exact h.symm
theorem dF {c k:Nat} (z:Str):∀ (ps:List Str),k∈(Str.join z ps).cps.toList->k∈z.cps.toList\/∃ p∈ps,k∈p.cps.toList
 | [],h=>by cases h
 | [p],h=>.inr ⟨p,zzT,h⟩
 |p::q::r,h=>by
  replace h:k∈(p++z++Str.join z (q::r)).cps.toList:=h;rw [Str.cps_append,Str.cps_append,Array.toList_append,Array.toList_append,List.mem_append,List.mem_append] at h;rcases h with (h|h)|h
  .exact .inr ⟨p,zzT,h⟩
  .exact .inl h
  .rcases dF (c:=c) z (q::r) h with h|⟨y,h1,h2⟩
   .exact .inl h
   .exact .inr ⟨y,List.mem_cons_of_mem _ h1,h2⟩
theorem tI {c k:Nat}:∀ {l:List Nat} {p:List Nat},p∈qX c l->k∈p->k∈l
 | [],p,h,hk=>by simp [qX] at h;subst h;exact hk
 |x::r,p,h,hk=>by
  unfold qX at h
  split at h
  .rcases List.mem_cons.mp h with rfl|h
   .cases hk
   .exact List.mem_cons_of_mem _ (tI h hk)
  .split at h
   .rename_i a t e;rcases List.mem_cons.mp h with rfl|h
    .rcases List.mem_cons.mp hk with rfl|hk
     .exact zzT
     .exact List.mem_cons_of_mem _ (tI (by rw [e];exact zzT) hk)
    .exact List.mem_cons_of_mem _ (tI (by rw [e];exact List.mem_cons_of_mem _ h) hk)
   .rename_i e;exact absurd e (zbe c r)
theorem zbR {k:Nat} {x z:Str} (h1:k∉x.cps.toList) (h2:k∉z.cps.toList):k∉(Txt.replace x ⟨#[32]⟩ z).cps.toList:=fun h=>by
 rw [StrLaws.replace_one] at h;rcases dF (c:=32) z _ h with h|⟨p,hp,h⟩
 .exact h2 h
 .have:=List.mem_map_of_mem (f:=fun s:Str=>s.cps.toList) hp;rw [uU] at this;exact h1 (tI this h)
def uY (l:List Nat):List (List (List Nat)):=((qX 10 l).map wd).filter fun w=>!w.isEmpty
theorem xA (a b:List Nat):uY (a++10::b)=uY a++uY b:=by unfold uY;rw [tH,List.map_append,List.filter_append]
theorem zbO {l:List Nat} (h:10∉l):uY l=if (wd l).isEmpty then [] else [wd l]:=by
 unfold uY;rw [vB h];rw [zzU,zzV];cases h:wd l<;>rfl
end L3
namespace L3
open PySem PySem.Spec PyProof.Rows L2 PySem.SeqAt
def popA:MS:=fun x ws G Q=>∃ p xs k y,x=.ref p/\ws=[.int ((k:Nat):Int)]/\G p=some (.lst xs)/\xs.length<=1000/\xs[k]?=some y/\Q y (put G p (.lst (xs.eraseIdx k)))
theorem nY:∀ x ws G (Q Q':Q3),(∀ w G',Q w G'->Q' w G')->popA x ws G Q->popA x ws G Q':=fun x ws G Q Q' k ⟨p,xs,j,y,h1,h2,h3,h4,h5,h⟩=>⟨p,xs,j,y,h1,h2,h3,h4,h5,k _ _ h⟩
theorem zX.erase {K:zE} {H:Hp}:∀ {ws:List W} {vs:List V} (k:Nat),zX K H ws vs->zX K H (ws.eraseIdx k) (vs.eraseIdx k)
 | [],vs,k,r=>by cases (show vs=[] from r);exact rfl
 |w::ws,vs,0,⟨v,r,e,_,h⟩=>by subst e;exact h
 |w::ws,vs,k+1,⟨v,r,e,h1,h2⟩=>by subst e;exact ⟨v,_,rfl,h1,zX.erase k h2⟩
theorem zd0 {X:Cx}:MtR X "list.pop" (lowM X.K popA):=by
 intro pins s σ H x xs v us Q I rx rxs h;obtain ⟨w,ws,G,rw1,rs,ab,p,ys,k,y,rfl,rfl,e,hl,ey,h⟩:=h;cases (show x=.ref p from rw1);obtain ⟨z,rfl,rz⟩:=kJ rs;cases (show z=.int k from rz);obtain ⟨vs,ev,rr⟩:=ab.lst e;obtain ⟨vy,evy,ry⟩:=rr.get ey;have gr:zB X.K H (yN H p (.lst (vs.eraseIdx k))):=ab.grow e;have lk:k<ys.length:=(List.getElem?_eq_some_iff.mp ey).1;have lv:=rr.length;exact zcf pins s σ H _ _ v us Q I rx rxs ⟨p,vs,k,k,vy,rfl,rfl,ev,by omega,by omega,by unfold seqIndex?;split<;>simp<;>omega,evy,h vy _ gr (ry.mono gr) (ab.chg e ⟨_,rfl,(zX.erase k rr).mono gr⟩)⟩
abbrev zcN:Mt3:=⟨"pop", "list", popA⟩
theorem zcI {q:Pr} {A:Around}:MtE (q.at A) zcN/\uI zcN:=⟨sL PySem.F.plainAttrs_list PySem.F.slot_list_pop PySem.F.type_list_pop (fun X f=>zd0) nY,nY⟩
end L3
namespace L3
open PySem PySem.Spec PyProof.Rows L2 HT
section
variable {prog : Program} {w : World} {A : Around} {E : Value → Shared → Prop} {s : Shared}
end
end L3
namespace L3
open PySem PySem.Spec PyProof.Rows L2 PySem.SeqAt
section
variable {prog : Program} {w : World} {A : Around} {E : Value → Shared → Prop} {s : Shared}
end
section
variable {X : Cx}
theorem kZ {K:zE} {H:Hp}:∀ {ns:List Int} {vs:List V} {us:List Value},zX K H (ns.map .int) vs->zV vs us->IntsAre us ns
 | [],vs,us,r,v=>by cases (show vs=[] from r);cases v;exact .nil
 |x::ns,vs,us,r,v=>by
  obtain ⟨y,tl,rfl,ry,rt⟩:=r;cases (show y=.int x from ry)
  cases v with
  |cons a c =>
   obtain ⟨tk,rfl⟩:=a;exact .cons x tk (kZ rt c)
end
mutual
def dOf:W->PyData
 | .str x=>.str x
 | .tup ws=>.tuple (dOfs ws)
 |_=>.none
def dOfs:List W->List PyData
 | []=>[]
 |w::ws=>dOf w::dOfs ws
end
mutual
def tt:W->Bool
 | .str _=>true
 | .tup ws=>tts ws
 |_=>false
def tts:List W->Bool
 | []=>true
 |w::ws=>tt w&&tts ws
end
section
variable {X : Cx} {pins : List (Addr × Obj)} {σ : L2.St} {H : Hp} {s : Shared}
end
end L3
namespace L3
open PySem PySem.Spec PyProof.Rows L2
def emM:Scope->Expr->Option (List Expr):=fun _ e=>match e with
 | .Dict [] [] _=>some []
 |_=>none
def emS:RS:=fun ws G Q=>match ws with
 | []=>∀ p,G p=none->Q (.ref p) (put G p (.dic []))
 |_=>False
theorem zcM:wP emS:=by
 intro ws G Q Q' k h;unfold emS at h ⊢
 split at h
 .exact fun p hp=>k _ _ (h p hp)
 .exact h.elim
theorem zeZ {sc:Scope} {e:Expr} {xs:List Expr} (h:emM sc e=some xs):∃ pos,e=.Dict [] [] pos/\xs=[]:=by
 unfold emM at h
 split at h
 .cases h;exact ⟨_,rfl,rfl⟩
 .cases h
theorem sx_em {q:Pr} {A:Around}:SxE (q.at A) ⟨emM,emS⟩:=by
 intro X fits e xs es he each hn pa;obtain ⟨pos,rfl,rfl⟩:=zeZ (sc:=X.env.scope) he
 match es,each with
 | [],each =>
  refine ⟨fun pins s σ H Q I h=>?_,fun _=>rfl,fun _ _ _ z=>nomatch z⟩;obtain ⟨σ3,G,hs,ab,h⟩:=h;have h:∀ p,G p=none->kP X.K H Q (.ref p) (put G p (.dic [])):=h;refine zb8 pins s σ H Q I fun p hp=>?_;exact h p (ab.free hp) _ _ (yH hp) rfl (ab.new hp ⟨[],rfl,rfl⟩)
end L3
namespace L3
open PySem PySem.Spec PyProof.Rows L2 PySem.SeqAt
theorem zgK {prog:Program} {w:World} {A:Around} {E:Value->Shared->Prop} {s:Shared} {d:Addr} {o:Obj} {es:Array DictEntry} {ep:Nat} {Q:Value->Shared->Prop} (hd:(d==sysModules)=false) (ho:s.heap.get? d=some o) (hx:o.ExactDict) (hdat:o.data=.dict es ep) (hz:(es.size:Int)<2 ^ 63)
  (h:Q (.int es.size (s.toks+1)) { s with toks:=s.toks+1+1 }):wpAny (model prog w) A (call (.builtin "len") [.ref d]) Q E s:=by
 have hT:s.TypeIs (.ref d) "dict" := ⟨o,ho,hx.1⟩
 have m:MeetsIn prog w (Builtin.«dict.__len__» ⟨[.ref d],[]⟩) (fun _ R z=>z=s/\R (.ok (.ret (.int es.size z.toks))) { z with toks:=z.toks+1 }):=.of_wp fun A' R z ⟨e,y⟩=>by
  subst e;show wpAny _ _ (dictSize d >>= _) _ _ z;unfold dictSize;refine wpAny_bind (wpAny_bind (wpAny_dictEntries ho hdat (wpAny_pure ?_)));show wpAny _ _ (Builtin.Dict.pendingCount d >>= _) _ _ z;refine wpAny_bind (wpAny_pendingCount_other hd (wpAny_ret_mkInt ?_));simpa using y
 refine Calls.call_function_entry kind_len plain_len entry_len (args_len1 _) ?_;unfold Builtin.«len»;refine wpAny_bind (m:=oneArg "len" _) (wpAny_pure ?_);refine wpAny_bind (m:=callSpecial? (.ref d) (Str.ofString "__len__")) (wpAny_callSpecial?_slot (name:=Str.ofString "__len__") hT F.slot_dict_len (call_meetsIn F.slot_dict_len hT F.entry_dict_len (F.args_dict_len_1 _) m ⟨rfl,?_⟩));show wpAny _ _ _ _ _ { s with toks:=s.toks+1 };refine wpAny_bind (wpAny_holding (wpAny_pure (wpAny_bind (wpAny_letGo ?_))));show wpAny _ _ (if ((es.size:Nat):Int)<0 then _ else if ((es.size:Nat):Int)>=2 ^ 63 then _ else _) _ _ _;rw [if_neg (by omega),if_neg (by omega)];exact wpAny_bind (wpAny_mkInt (wpAny_pure ⟨_,rfl,h⟩))
theorem nP:∀ {es:List DictEntry} {ks:List Str} {vs:List V},zcX es ks vs->es.length=ks.length
 | [],ks,vs,h=>by rw [h.1];rfl
 |e::r,ks,vs,⟨k,t,v,ks',vs',e1,e2,_,_,h⟩=>by rw [e1];simp [nP h]
def lenG:RS:=fun ws G Q=>∃ ks ws',ws=[.dcf ks ws']/\Q (.int (ks.length:Nat)) G
theorem nQ:wP lenG:=fun ws G Q Q' k ⟨ks,ws',e,h⟩=>⟨ks,ws',e,k _ _ h⟩
theorem zel {X:Cx}:wN X (.builtin "len") (tR X.K lenG):=by
 intro pins s σ H xs us Q I r h;obtain ⟨ws,G,rs,ab,ks,ws',rfl,h⟩:=h;obtain ⟨v,rfl,rv⟩:=kJ rs;obtain ⟨a,vs,rfl,⟨o,es,ep,l,hx,hd,hz,hm,hr⟩,_⟩:=rv;obtain ⟨u,rfl,ru⟩:=kK r;cases (show u=Value.ref a from ru);have e:es.size=ks.length:=by rw [← nP hr];simp
 refine zgK hm (I.kIn _ _ l) hx hd (by rw [sizeLine_eq] at hz;omega) ?_;rw [e];exact ⟨.int ks.length,H,I.tok _,⟨_,rfl⟩,h _ H .refl rfl ab⟩
abbrev ze0:Fn3:=⟨"len", fun ws G Q _=>lenG ws G Q⟩
theorem zcJ {q:Pr} {A:Around} (hm:q.mg "len" = none):qQ (q.at A) ze0:=⟨rQ (id := "len") hm (by decide +kernel) (fun X f=>zel) nQ (fun _ _ ⟨_,_,e,_⟩=>nomatch e),fun ws G Q Q' _ k h=>nQ ws G Q Q' k h⟩
end L3
namespace K16
open PySem PySem.Spec L2 L3
def top (i:Nat):Stmt:=PySem.Challenge.pw_talkcourt_k16_books_read.main.body.getD i (.Pass ⟨0,0,0,0⟩)
def gls:List Str:=["CHOICES", "str", "Book"]
def mts:List Str:=["pop", "join", "append", "split", "pop"]
def its:List Str:=["zip"]
def sxm:List (Scope->Expr->Option (List Expr)):=[lofM "reversed", emM,rpxM " " [" ", "  ", "   "],vX [some "first answers ", none,some " ", none],vX [some "first doubts ", none],vX [some "first speaks ", none],vX [some "other speaks ", none]]
def ixm:List (Scope->Expr->Option (List Expr)):=[enkM]
def fns:List Str:=(["max", "len", "all", "list", "isinstance", "len", "_law_deal", "Book", "made_book", "words_between_blanks", "fits", "read_book", "_law_draw", "_law_fields", "fields_of_first", "same_book", "show_book", "Book", "law"]:List Str)
/- fn: 0 max,1 len,2 all,3 list,4 isinstance,5 len@,6 _law_deal,7 Book,8 made_book,9 words_between_blanks,10 fits,11 read_book,12 _law_draw,13 _law_fields,14 fields_of_first,15 same_book,16 show_book,17 Book@,18 law -/
abbrev xF:Stmt:=top 16
def sM:List Str:=["_law_script", "_law_base", "_law_cells", "_law_number", "_law_cell"]
def zaf:ISs:=(.cons (.asg 2 (.lc (.nm 0) ["_law_cell"] [] (.val (.sl (.var 0) (.yes (.var 1)) (.yes (.con (.int 63))))) .no (.call 0 (.cons (.var 0) (.cons (.bin .Sub (.con (.int 0)) (.var 0)) .nil)))))
 (.cons (.asg 3 (.bin .Add (.con (.int 7919)) (.var 1)))
 (.cons (.for (.nm 4) (.val (.var 2)) (.cons (.asg 3 (.bin .Mod (.bin .Add (.bin .Mult (.var 3) (.con (.int 69621))) (.bin .Mod (.var 4) (.con (.int 2147483629)))) (.con (.int 2147483647))))
 .nil))
 (.cons (.ret (.dct ["seed", "number", "left"] (.cons (.var 3) (.cons (.con (.int 0)) (.cons (.spc 0 (.cons (.lc (.nm 0) ["_law_cell"] [] (.val (.var 2)) (.yes (.cmp .GtE (.var 0) (.bin .Pow (.con (.int 10)) (.con (.int 18))))) (.var 0)) .nil)) .nil)))))
 .nil))))
def sB:MC:=⟨zZ xF,sM,(fun _=>true),fns.take 6,gls,mts,its,sxm,ixm⟩
theorem fD:FnScope sM ["_law_script", "_law_base"] (zZ xF):=⟨rfl,rfl,rfl,by decide +kernel,rfl,by decide +kernel,by decide +kernel⟩
theorem pS:uO zaf sB (zQ xF)=true:=by decide +kernel
abbrev xX:Stmt:=zeD (top 1) 0
def jB:List Str:=["self", "answers", "again", "doubts", "speaks", "other"]
def vS:ISs:=(.cons (.asgA (.var 0) "answers" (.var 1))
 (.cons (.asgA (.var 0) "again" (.var 2))
 (.cons (.asgA (.var 0) "doubts" (.var 3))
 (.cons (.asgA (.var 0) "speaks" (.var 4))
 (.cons (.asgA (.var 0) "other" (.var 5))
 .nil)))))
def sA:MC:=⟨zZ xX,jB,(fun _=>true),fns.take 7,gls,mts,its,sxm,ixm⟩
theorem fC:FnScope jB ["self", "answers", "again", "doubts", "speaks", "other"] (zZ xX):=⟨rfl,rfl,rfl,by decide +kernel,rfl,by decide +kernel,by decide +kernel⟩
theorem pR:uO vS sA (zQ xX)=true:=by decide +kernel
abbrev xH:Stmt:=top 14
def wG:List Str:=["found", "answers", "again"]
def rF:ISs:=(.cons (.asgT (.cons (.nm 1) (.cons (.nm 2) .nil)) (.ix (.var 0) (.con (.str "first answers"))))
 (.cons (.ret (.call 7 (.cons (.var 1) (.cons (.var 2) (.cons (.ix (.ix (.var 0) (.con (.str "first doubts"))) (.con (.int 0))) (.cons (.ix (.ix (.var 0) (.con (.str "first speaks"))) (.con (.int 0))) (.cons (.ix (.ix (.var 0) (.con (.str "other speaks"))) (.con (.int 0))) .nil)))))))
 .nil))
def sG:MC:=⟨zZ xH,wG,(fun _=>true),fns.take 8,gls,mts,its,sxm,ixm⟩
theorem fF:FnScope wG ["found"] (zZ xH):=⟨rfl,rfl,rfl,by decide +kernel,rfl,by decide +kernel,by decide +kernel⟩
theorem pU:uO rF sG (zQ xH)=true:=by decide +kernel
abbrev zP:Stmt:=top 8
def yG:List Str:=["row"]
def wV:ISs:=(.cons (.ret (.lc (.nm 0) ["word"] [] (.val (.mth 3 (.var 0) (.cons (.con (.str " ")) .nil))) (.yes (.var 0)) (.var 0)))
 .nil)
def wW:MC:=⟨zZ zP,yG,(fun _=>true),fns.take 9,gls,mts,its,sxm,ixm⟩
theorem jH:FnScope yG ["row"] (zZ zP):=⟨rfl,rfl,rfl,by decide +kernel,rfl,by decide +kernel,by decide +kernel⟩
theorem jU:uO wV wW (zQ zP)=true:=by decide +kernel
abbrev sU:Stmt:=top 13
def nW:List Str:=["sort", "words"]
def zfb:ISs:=(.cons (.ite (.or (.cmp .NotIn (.var 0) (.glb 0)) (.cmp .NotEq (.call 1 (.cons (.var 1) .nil)) (.call 1 (.cons (.ix (.glb 0) (.var 0)) .nil)))) (.cons (.ret (.con (.bool false)))
 .nil) .nil)
 (.cons (.ret (.call 2 (.cons (.lc (.tup (.cons (.nm 0) (.cons (.nm 1) .nil))) ["word", "choice"] [] (.blt 0 (.cons (.var 1) (.cons (.ix (.glb 0) (.var 0)) .nil))) .no (.cmp .In (.var 0) (.var 1))) .nil)))
 .nil))
def zgw:MC:=⟨zZ sU,nW,(fun _=>true),fns.take 10,gls,mts,its,sxm,ixm⟩
theorem zfJ:FnScope nW ["sort", "words"] (zZ sU):=⟨rfl,rfl,rfl,by decide +kernel,rfl,by decide +kernel,by decide +kernel⟩
theorem zck:uO zfb zgw (zQ sU)=true:=by decide +kernel
abbrev xI:Stmt:=top 12
def kA:List Str:=["text", "rows", "found", "number", "row", "words", "sort"]
def rH:ISs:=(.cons (.ite (.not (.call 4 (.cons (.var 0) (.cons (.glb 1) .nil)))) (.cons .dead
 .nil) .nil)
 (.cons (.asg 1 (.mth 3 (.var 0) (.cons (.con (.str "\n")) .nil)))
 (.cons (.asg 2 (.spc 1 .nil))
 (.cons (.for (.tup (.cons (.nm 3) (.cons (.nm 4) .nil))) (.spc 0 (.cons (.var 1) .nil)) (.cons (.asg 5 (.call 9 (.cons (.var 4) .nil)))
 (.cons (.ite (.var 5) (.cons (.asg 6 (.mth 1 (.con (.str " ")) (.cons (.sl (.var 5) .no (.yes (.con (.int 2)))) .nil)))
 (.cons (.ite (.or (.cmp .In (.var 6) (.var 2)) (.not (.call 10 (.cons (.var 6) (.cons (.sl (.var 5) (.yes (.con (.int 2))) .no) .nil))))) (.cons .dead
 .nil) .nil)
 (.cons (.asgI (.var 2) (.var 6) (.sl (.var 5) (.yes (.con (.int 2))) .no))
 .nil))) .nil)
 .nil)))
 (.cons (.ite (.cmp .Lt (.call 1 (.cons (.var 2) .nil)) (.call 5 (.cons (.glb 0) .nil))) (.cons .dead
 .nil) .nil)
 (.cons (.ret (.call 8 (.cons (.var 2) .nil)))
 .nil))))))
def sI:MC:=⟨zZ xI,kA,(fun _=>true),fns.take 11,gls,mts,its,sxm,ixm⟩
theorem fG:FnScope kA ["text"] (zZ xI):=⟨rfl,rfl,rfl,by decide +kernel,rfl,by decide +kernel,by decide +kernel⟩
theorem pV:uO rH sI (zQ xI)=true:=by decide +kernel
abbrev xG:Stmt:=top 17
def sN:List Str:=["_law_deal_here", "_law_many", "_law_number", "_law_one", "_law_other"]
def zae:ISs:=(.cons (.whl (.and (.cmp .Eq (.ix (.var 0) (.con (.str "number"))) (.con (.int 0))) (.cmp .Gt (.call 1 (.cons (.ix (.var 0) (.con (.str "left"))) .nil)) (.con (.int 0)))) (.cons (.asgI (.var 0) (.con (.str "number")) (.mth 0 (.ix (.var 0) (.con (.str "left"))) .nil))
 .nil))
 (.cons (.asg 2 (.ix (.var 0) (.con (.str "number"))))
 (.cons (.ite (.cmp .Gt (.var 2) (.con (.int 0))) (.cons (.asgI (.var 0) (.con (.str "number")) (.bin .FloorDiv (.var 2) (.var 1)))
 (.cons (.ret (.bin .Mod (.var 2) (.var 1)))
 .nil)) .nil)
 (.cons (.asg 3 (.bin .Mod (.bin .Add (.bin .Mult (.ix (.var 0) (.con (.str "seed"))) (.con (.int 48271))) (.con (.int 7919))) (.con (.int 2147483647))))
 (.cons (.asgI (.var 0) (.con (.str "seed")) (.bin .Mod (.bin .Add (.bin .Mult (.var 3) (.con (.int 40692))) (.con (.int 104729))) (.con (.int 2147483399))))
 (.cons (.asg 4 (.bin .Mod (.bin .Mult (.ix (.var 0) (.con (.str "seed"))) (.ix (.var 0) (.con (.str "seed")))) (.con (.int 2147483563))))
 (.cons (.ret (.bin .Mod (.bin .Add (.bin .Mult (.bin .Mod (.bin .Mult (.var 3) (.var 3)) (.con (.int 2147483629))) (.con (.int 2147483563))) (.var 4)) (.var 1)))
 .nil)))))))
def sC:MC:=⟨zZ xG,sN,(fun _=>true),fns.take 12,gls,mts,its,sxm,ixm⟩
theorem fE:FnScope sN ["_law_deal_here", "_law_many"] (zZ xG):=⟨rfl,rfl,rfl,by decide +kernel,rfl,by decide +kernel,by decide +kernel⟩
theorem pT:uO zae sC (zQ xG)=true:=by decide +kernel
abbrev yC:Stmt:=top 18
def wL:List Str:=["_law_book"]
def qU:ISs:=(.cons (.ret (.lst (.cons (.att (.var 0) "answers") (.cons (.att (.var 0) "again") (.cons (.att (.var 0) "doubts") (.cons (.att (.var 0) "speaks") (.cons (.att (.var 0) "other") .nil)))))))
 .nil)
def vK:MC:=⟨zZ yC,wL,(fun _=>true),fns.take 13,gls,mts,its,sxm,ixm⟩
theorem pY:FnScope wL ["_law_book"] (zZ yC):=⟨rfl,rfl,rfl,by decide +kernel,rfl,by decide +kernel,by decide +kernel⟩
theorem tQ:uO qU vK (zQ yC)=true:=by decide +kernel
abbrev yV:Stmt:=top 3
def xS:List Str:=["book"]
def wS:ISs:=(.cons (.ret (.tup (.cons (.att (.var 0) "answers") (.cons (.att (.var 0) "again") (.cons (.att (.var 0) "doubts") (.cons (.att (.var 0) "speaks") .nil))))))
 .nil)
def jO:MC:=⟨zZ yV,xS,(fun _=>true),fns.take 14,gls,mts,its,sxm,ixm⟩
theorem vN:FnScope xS ["book"] (zZ yV):=⟨rfl,rfl,rfl,by decide +kernel,rfl,by decide +kernel,by decide +kernel⟩
theorem kO:uO wS jO (zQ yV)=true:=by decide +kernel
abbrev xJ:Stmt:=top 2
def jE:List Str:=["one", "other"]
def vU:ISs:=(.cons (.ret (.and (.cmp .Eq (.call 14 (.cons (.var 0) .nil)) (.call 14 (.cons (.var 1) .nil))) (.cmp .Eq (.att (.var 0) "other") (.att (.var 1) "other"))))
 .nil)
def sJ:MC:=⟨zZ xJ,jE,(fun _=>true),fns.take 15,gls,mts,its,sxm,ixm⟩
theorem fH:FnScope jE ["one", "other"] (zZ xJ):=⟨rfl,rfl,rfl,by decide +kernel,rfl,by decide +kernel,by decide +kernel⟩
theorem pW:uO vU sJ (zQ xJ)=true:=by decide +kernel
abbrev xK:Stmt:=top 11
def jF:List Str:=["book"]
def rJ:ISs:=(.cons (.ret (.mth 1 (.con (.str "\n")) (.cons (.lst (.cons (.spc 3 (.cons (.att (.var 0) "answers") (.cons (.att (.var 0) "again") .nil))) (.cons (.spc 4 (.cons (.att (.var 0) "doubts") .nil)) (.cons (.spc 5 (.cons (.att (.var 0) "speaks") .nil)) (.cons (.spc 6 (.cons (.att (.var 0) "other") .nil)) .nil))))) .nil)))
 .nil)
def sK:MC:=⟨zZ xK,jF,(fun _=>true),fns.take 16,gls,mts,its,sxm,ixm⟩
theorem fJ:FnScope jF ["book"] (zZ xK):=⟨rfl,rfl,rfl,by decide +kernel,rfl,by decide +kernel,by decide +kernel⟩
theorem pX:uO rJ sK (zQ xK)=true:=by decide +kernel
abbrev fN:Stmt:=top 19
def nlaw:List Str:=["_law_script", "_law_deal_here", "_law_reach", "_law_times", "_law_told", "_law_rows", "_law_left", "_law_text", "_law_row", "_law_book", "_law_made", "_law_other", "_law_more"]
def blaw:ISs:=(.cons (.asg 1 (.call 6 (.cons (.var 0) (.cons (.con (.int 0)) .nil))))
 (.cons (.asg 2 (.lst (.cons (.con (.str "last")) (.cons (.con (.str "any")) .nil))))
 (.cons (.asg 3 (.lst (.cons (.con (.str "once")) (.cons (.con (.str "often")) .nil))))
 (.cons (.asg 4 (.lst (.cons (.ix (.var 2) (.call 12 (.cons (.var 1) (.cons (.con (.int 2)) .nil)))) (.cons (.ix (.var 3) (.call 12 (.cons (.var 1) (.cons (.con (.int 2)) .nil)))) (.cons (.ix (.var 3) (.call 12 (.cons (.var 1) (.cons (.con (.int 2)) .nil)))) .nil)))))
 (.cons (.asg 4 (.bin .Add (.var 4) (.lst (.cons (.ix (.var 2) (.call 12 (.cons (.var 1) (.cons (.con (.int 2)) .nil)))) (.cons (.ix (.var 2) (.call 12 (.cons (.var 1) (.cons (.con (.int 2)) .nil)))) .nil)))))
 (.cons (.asg 5 (.lst (.cons (.bin .Add (.bin .Add (.bin .Add (.con (.str "first answers ")) (.ix (.var 4) (.con (.int 0)))) (.con (.str " "))) (.ix (.var 4) (.con (.int 1)))) (.cons (.bin .Add (.con (.str "first doubts ")) (.ix (.var 4) (.con (.int 2)))) (.cons (.bin .Add (.con (.str "first speaks ")) (.ix (.var 4) (.con (.int 3)))) .nil)))))
 (.cons (.ex (.mth 2 (.var 5) (.cons (.bin .Add (.con (.str "other speaks ")) (.ix (.var 4) (.con (.int 4)))) .nil)))
 (.cons (.asg 6 (.call 3 (.cons (.var 5) .nil)))
 (.cons (.asg 7 (.ix (.lst (.cons (.con (.str "")) (.cons (.con (.str "  \n")) (.cons (.con (.str "\n")) .nil)))) (.call 12 (.cons (.var 1) (.cons (.con (.int 3)) .nil)))))
 (.cons (.whl (.cmp .NotEq (.var 6) (.lst .nil)) (.cons (.asg 8 (.spc 2 (.cons (.mth 4 (.var 6) (.cons (.call 12 (.cons (.var 1) (.cons (.call 1 (.cons (.var 6) .nil)) .nil))) .nil)) (.cons (.call 12 (.cons (.var 1) (.cons (.con (.int 3)) .nil))) .nil))))
 (.cons (.asg 7 (.bin .Add (.bin .Add (.bin .Add (.var 7) (.ix (.lst (.cons (.con (.str "")) (.cons (.con (.str " ")) .nil))) (.call 12 (.cons (.var 1) (.cons (.con (.int 2)) .nil))))) (.var 8)) (.ix (.lst (.cons (.con (.str "")) (.cons (.con (.str "  ")) .nil))) (.call 12 (.cons (.var 1) (.cons (.con (.int 2)) .nil))))))
 (.cons (.ite (.cmp .NotEq (.var 6) (.lst .nil)) (.cons (.asg 7 (.bin .Add (.var 7) (.ix (.lst (.cons (.con (.str "\n")) (.cons (.con (.str "\n\n")) (.cons (.con (.str "\n   \n")) .nil)))) (.call 12 (.cons (.var 1) (.cons (.con (.int 3)) .nil))))))
 .nil) .nil)
 .nil))))
 (.cons (.asg 9 (.call 11 (.cons (.bin .Add (.var 7) (.ix (.lst (.cons (.con (.str "")) (.cons (.con (.str "\n")) (.cons (.con (.str "\n  ")) .nil)))) (.call 12 (.cons (.var 1) (.cons (.con (.int 3)) .nil))))) .nil)))
 (.cons (.asg 10 (.call 7 (.cons (.ix (.var 4) (.con (.int 0))) (.cons (.ix (.var 4) (.con (.int 1))) (.cons (.ix (.var 4) (.con (.int 2))) (.cons (.ix (.var 4) (.con (.int 3))) (.cons (.ix (.var 4) (.con (.int 4))) .nil)))))))
 (.cons (.ite (.or (.not (.call 4 (.cons (.var 9) (.cons (.glb 2) .nil)))) (.or (.cmp .NotEq (.call 13 (.cons (.var 9) .nil)) (.var 4)) (.cmp .NotEq (.call 13 (.cons (.var 10) .nil)) (.var 4)))) (.cons (.ret (.con (.bool false)))
 .nil) .nil)
 (.cons (.ite (.or (.cmp .NotEq (.att (.call 17 (.cons (.ix (.var 4) (.con (.int 0))) (.cons (.ix (.var 4) (.con (.int 1))) (.cons (.ix (.var 4) (.con (.int 2))) (.cons (.ix (.var 4) (.con (.int 3))) .nil))))) "other") (.con (.str "last"))) (.cmp .IsNot (.call 15 (.cons (.var 9) (.cons (.var 10) .nil))) (.con (.bool true)))) (.cons (.ret (.con (.bool false)))
 .nil) .nil)
 (.cons (.asg 11 (.call 7 (.cons (.ix (.var 4) (.con (.int 3))) (.cons (.ix (.var 4) (.con (.int 2))) (.cons (.ix (.var 4) (.con (.int 1))) (.cons (.ix (.var 4) (.con (.int 4))) (.cons (.ix (.var 4) (.con (.int 0))) .nil)))))))
 (.cons (.asg 12 (.lst (.cons (.bin .Add (.bin .Add (.bin .Add (.con (.str "first answers ")) (.ix (.var 4) (.con (.int 3)))) (.con (.str " "))) (.ix (.var 4) (.con (.int 2)))) (.cons (.bin .Add (.con (.str "first doubts ")) (.ix (.var 4) (.con (.int 1)))) (.cons (.bin .Add (.con (.str "first speaks ")) (.ix (.var 4) (.con (.int 4)))) .nil)))))
 (.cons (.ite (.or (.cmp .NotEq (.call 16 (.cons (.var 9) .nil)) (.mth 1 (.con (.str "\n")) (.cons (.var 5) .nil))) (.cmp .NotEq (.call 16 (.cons (.var 11) .nil)) (.mth 1 (.con (.str "\n")) (.cons (.bin .Add (.var 12) (.lst (.cons (.bin .Add (.con (.str "other speaks ")) (.ix (.var 4) (.con (.int 0)))) .nil))) .nil)))) (.cons (.ret (.con (.bool false)))
 .nil) .nil)
 (.cons (.ret (.and (.cmp .Eq (.call 16 (.cons (.var 9) .nil)) (.mth 1 (.con (.str "\n")) (.cons (.var 5) .nil))) (.cmp .Eq (.call 13 (.cons (.call 11 (.cons (.mth 1 (.con (.str "\n")) (.cons (.var 5) .nil)) .nil)) .nil)) (.var 4))))
 .nil))))))))))))))))))
def mlaw:MC:=⟨zZ fN,nlaw,(fun _=>true),fns.take 18,gls,mts,its,sxm,ixm⟩
theorem sclaw:FnScope nlaw ["_law_script"] (zZ fN):=⟨rfl,rfl,rfl,by decide +kernel,rfl,by decide +kernel,by decide +kernel⟩
theorem zej:uO blaw mlaw (zQ fN)=true:=by decide +kernel
end K16
namespace K16
open PySem PySem.Spec PyProof.Rows L2 L3
open PySem.W (nsIn keepIn codeIn mg_of findIn mg_none_of fnOf)
abbrev eApp:Mt3:=⟨"append", "list", cO⟩
theorem zeV {q:Pr} {A:Around}:MtE (q.at A) eApp/\uI eApp:=⟨sL PySem.F.plainAttrs_list PySem.F.slot_list_append PySem.F.type_list_append (fun X f=>zhj) mX,mX⟩
structure Bk where
 a:Str
 b:Str
 c:Str
 e:Str
 f:Str
deriving DecidableEq
def Bk.fs (x:Bk):List (Str×W):=[("answers", .str x.a),("again", .str x.b),("doubts", .str x.c),("speaks", .str x.e),("other", .str x.f)]
def Bk.ws (x:Bk):List W:=[.str x.a,.str x.b,.str x.c,.str x.e,.str x.f]
def wK:List Str:=["answers", "again", "doubts", "speaks", "other"]
theorem lk_a (x:Bk):x.fs.lookup ("answers" : Str)=some (W.str x.a):=by unfold Bk.fs;rfl
theorem lk_b (x:Bk):x.fs.lookup ("again" : Str)=some (W.str x.b):=by unfold Bk.fs;simp [List.lookup,show (("again" : Str) == "answers")=false by decide +kernel]
theorem lk_c (x:Bk):x.fs.lookup ("doubts" : Str)=some (W.str x.c):=by unfold Bk.fs;simp [List.lookup,show (("doubts" : Str) == "answers")=false by decide +kernel,show (("doubts" : Str) == "again")=false by decide +kernel]
theorem lk_e (x:Bk):x.fs.lookup ("speaks" : Str)=some (W.str x.e):=by unfold Bk.fs;simp [List.lookup,show (("speaks" : Str) == "answers")=false by decide +kernel,show (("speaks" : Str) == "again")=false by decide +kernel,show (("speaks" : Str) == "doubts")=false by decide +kernel]
theorem lk_f (x:Bk):x.fs.lookup ("other" : Str)=some (W.str x.f):=by unfold Bk.fs;simp [List.lookup,show (("other" : Str) == "answers")=false by decide +kernel,show (("other" : Str) == "again")=false by decide +kernel,show (("other" : Str) == "doubts")=false by decide +kernel,show (("other" : Str) == "speaks")=false by decide +kernel]
def LA (x:Str):Prop:=x = "last" \/ x = "any"
def OO (x:Str):Prop:=x = "once" \/ x = "often"
structure Bk.Ok (x:Bk):Prop where
 a:LA x.a
 b:OO x.b
 c:OO x.c
 e:LA x.e
 f:LA x.f
def bM (l:List Nat):Str:=⟨l.toArray⟩
def Bk.rows (x:Bk):List (List Str):=[["first", "answers", x.a,x.b],["first", "doubts", x.c],["first", "speaks", x.e],["other", "speaks", x.f]]
def Bk.txt (x:Bk):List Str:=["first answers " ++ x.a ++ " " ++ x.b, "first doubts " ++ x.c, "first speaks " ++ x.e, "other speaks " ++ x.f]
def Bk.show (x:Bk):Str:=Txt.join "\n" x.txt
def fZ (ws:List Str):Str:=Txt.join " " (ws.take 2)
def sQ (x:Str):List (List Str):=(uY x.cps.toList).map (List.map bM)
def cM (x:Str):List Str:=(wd x.cps.toList).map bM
def la:W:=.tup [.str "last", .str "any"]
def oo:W:=.tup [.str "once", .str "often"]
def chK:List Str:=["first answers", "first doubts", "first speaks", "other speaks"]
def chV:List W:=[.tup [la,oo],.tup [oo],.tup [la],.tup [la]]
def Fr (ws:List W) (G:Hw) (Q:Q3):Prop:=∀ r G',zN [] G G'->G r=none->G' r=some (.lst ws)->Q (.ref r) G'
theorem Fr.mono {ws:List W} {G:Hw} {Q Q':Q3} (k:∀ w G',Q w G'->Q' w G') (h:Fr ws G Q):Fr ws G Q':=fun r G' a b c=>k _ _ (h r G' a b c)
section
variable (K : zE) (C : Addr)
def kE:tV:=fun ws G Q _=>∃ (p:Addr) (x:Bk),ws=.ref p::Bk.ws x/\G p=some (.ins C [])/\Q .non (put G p (.ins C x.fs))
def mJ:tV:=mkSp C (kE C) []
def mK:tV:=mkSp C (kE C) [.str "last"]
def mM:tV:=fun ws G Q _=>∃ (p:Addr) (kvs:List (yW×W)) (r1 r2 r3 r4:Addr) (x:Bk),ws=[.ref p]/\G p=some (.dic kvs)/\(vV kvs (.inr "first answers")=some (.ref r1)/\vV kvs (.inr "first doubts")=some (.ref r2)/\vV kvs (.inr "first speaks")=some (.ref r3)/\vV kvs (.inr "other speaks")=some (.ref r4)) /\
 (G r1=some (.lst [.str x.a,.str x.b])/\G r2=some (.lst [.str x.c])/\G r3=some (.lst [.str x.e])/\G r4=some (.lst [.str x.f]))/\∀ q,G q=none->Q (.ref q) (put G q (.ins C x.fs))
def tM:tV:=fun ws G Q _=>∃ x:Str,ws=[.str x]/\x.length<=2000/\Fr ((cM x).map .str) G Q
def mL:tV:=fun ws G Q _=>∃ (r:Addr) (x:Bk) (ss:List Str),x.Ok/\ss∈x.rows/\ws=[.str (fZ ss),.ref r]/\G r=some (.lst ((ss.drop 2).map .str))/\∀ G',zN [] G G'->Q (.bl true) G'
def mN:tV:=fun ws G Q _=>∃ (t:Str) (x:Bk),ws=[.str t]/\t.length<=1000/\x.Ok/\(sQ t).Perm x.rows/\∀ q G',zN [] G G'->G q=none->G' q=some (.ins C x.fs)->Q (.ref q) G'
def vP:tV:=fun ws G Q _=>∃ (p:Addr) (x:Bk),ws=[.ref p]/\G p=some (.ins C (Bk.fs x))/\∀ r,G r=none->Q (.ref r) (put G r (.lst (Bk.ws x)))
def zbG:tV:=fun ws G Q _=>∃ (p:Addr) (x:Bk),ws=[.ref p]/\G p=some (.ins C (Bk.fs x))/\Q (.tup [.str x.a,.str x.b,.str x.c,.str x.e]) G
def mP:tV:=fun ws G Q _=>∃ (p q:Addr) (x:Bk),ws=[.ref p,.ref q]/\G p=some (.ins C (Bk.fs x))/\G q=some (.ins C (Bk.fs x))/\Q (.bl true) G
def mQ:tV:=fun ws G Q _=>∃ (p:Addr) (x:Bk),ws=[.ref p]/\G p=some (.ins C (Bk.fs x))/\x.Ok/\∀ G',zN [] G G'->Q (.str x.show) G'
def fnL:List Fn3:=[eMax,eLen,eAll,eLst,eIso K,ze0,zhb,⟨"Book", mJ C⟩,⟨"made_book", mM C⟩,⟨"words_between_blanks", tM⟩,⟨"fits", mL⟩,⟨"read_book", mN C⟩,zha,⟨"_law_fields", vP C⟩,⟨"fields_of_first", zbG C⟩,⟨"same_book", mP C⟩,⟨"show_book", mQ C⟩,⟨"Book", mK C⟩]
def GamL (l:List Fn3):Ctx3:=⟨l,[("CHOICES", .dcf chK chV),("str", .ty "str"),("Book", .ref C)],[ePop,nF,eApp,rP,zcN],[eZpi],[(C,wK)],
 [eRev,⟨emM,emS⟩,⟨rpxM " " [" ", "  ", "   "],bW " " [" ", "  ", "   "]⟩,⟨vX [some "first answers ", none,some " ", none],pQ [some "first answers ", none,some " ", none]⟩,⟨vX [some "first doubts ", none],pQ [some "first doubts ", none]⟩,⟨vX [some "first speaks ", none],pQ [some "first speaks ", none]⟩,⟨vX [some "other speaks ", none],pQ [some "other speaks ", none]⟩],[⟨enkM,enkI⟩]⟩
def wX (n:Nat):Ctx3:=GamL C ((fnL K C).take n)
end
theorem at_0 {a:W} {l:List W}:rC (a::l) 0=some a:=by
 unfold rC;have:ixN (a::l).length 0=some 0:=by simp [ixN]
 rw [this];rfl
theorem at5 {x:Bk}:rC (Bk.ws x) 0=some (.str x.a)/\rC (Bk.ws x) 1=some (.str x.b)/\rC (Bk.ws x) 2=some (.str x.c)/\rC (Bk.ws x) 3=some (.str x.e)/\rC (Bk.ws x) 4=some (.str x.f):=⟨rfl,rfl,rfl,rfl,rfl⟩
theorem sz (n:Nat) (h:n<=3000):n<=sizeLine:=by rw [sizeLine_eq];omega
theorem gZ {α:Type} {a:α} {l:List α}:(a::l)[0]?=some a:=rfl
theorem gS {α:Type} {a:α} {l:List α} {i:Nat}:(a::l)[i+1]?=l[i]?:=rfl
theorem tZ {α:Type} {a b:α} {l:List α}:(a::l).set 0 b=b::l:=rfl
theorem tS {α:Type} {a b:α} {l:List α} {i:Nat}:(a::l).set (i+1) b=a::l.set i b:=rfl
theorem jQ {Γ:Ctx3} {E:XQ} {s:IS} {ss:ISs} {D:End3} {σ:wU} {G:Hw} (h:zF Γ E s { D with nx:=yQ Γ E ss D } σ G):yQ Γ E (.cons s ss) D σ G:=h
theorem stn {Γ:Ctx3} {E:XQ} {D:End3} {σ:wU} {G:Hw} (h:D.nx σ G):yQ Γ E .nil D σ G:=h
theorem tyL {G:Hw} {o:Addr} {l:List W} (e:G o=some (.lst l)):tyW G (.ref o) "list" := by simp only [tyW,e]
theorem appL {G:Hw} {o:Addr} {l:List W} {y:W} {Q:Q3} (e:G o=some (.lst l)) (hl:l.length<1000) (h:Q .non (put G o (.lst (l++[y])))):cO (.ref o) [y] G Q:=by
 simp only [cO,e];exact ⟨by rw [sizeLine_eq];omega,h⟩
theorem ixL {G:Hw} {t:Addr} {xs:List W} {i:Int} {Q:Q3} (e:zI G t=some xs) (h:match rC xs i with|some w=>Q w G|none=>False):uX (.ref t) (.int i) G Q:=by
 unfold zI at e
 split at e
 .rename_i q;cases e;simp only [uX,q];exact h
 .rename_i q;cases e;simp only [uX,q];exact h
 .cases e
theorem qG {G:Hw} {t:Addr} {xs:List W} (e:G t=some (.lst xs)):zI G t=some xs:=by unfold zI;rw [e]
theorem seqL {G:Hw} {t:Addr} {xs:List W} (e:G t=some (.lst xs)):xB G (.ref t)=some xs:=by simp only [xB,qG e]
theorem uK {S:List Addr} {G G':Hw} {d l:Addr} (k:zN S G G') (hd:d∉S) (hl:l∉S) (D:qL G d l):qL G' d l:=by
 obtain ⟨x,y,z,D⟩:=D;exact ⟨x,y,z,k _ _ hd D.dic,k _ _ hl D.lst,D.s0,D.s1,D.n0,D.lf,D.len,D.ne⟩
theorem zcR {G:Hw} {d l p:Addr} {o:O} (h:G p=none) (D:qL G d l):qL (put G p o) d l:=uK (S:=[]) (zN.new h) (by simp) (by simp) D
theorem zhe {G G':Hw} {d l:Addr} (k:zN [] G G') (D:qL G d l):qL G' d l:=uK k (by simp) (by simp) D
theorem k0 {G G':Hw} (k:zN [] G G') {p:Addr} {o:O} (h:G p=some o):G' p=some o:=k _ _ (by simp) h
theorem dN {G:Hw} {p r:Addr} {o u:O} (hr:G r=none) (h:G p=some o):put G r u p=some o:=k0 (zN.new hr) h
theorem qD {G:Hw} {a p:Addr} {o:O} (e:G a=some o) (h:G p=none):a≠p:=fun z=>by rw [z,h] at e;cases e
theorem zde {G:Hw} {d l p:Addr} (D:qL G d l) (h:G p=none):p∉[d,l]:=by
 obtain ⟨_,_,_,D⟩:=D;simp only [List.mem_cons,List.not_mem_nil,or_false,not_or];exact ⟨fun e=>(by rw [e,D.dic] at h;cases h),fun e=>(by rw [e,D.lst] at h;cases h)⟩
theorem zep {S:List Addr} {G G':Hw} {p:Addr} {o:O} (k:zN S G G') (h:G p=none):zN S G (put G' p o):=fun a u ha e=>by
 rw [yD (qD e h)];exact k a u ha e
theorem ze2 {G:Hw} {d l p:Addr} {o:O} (h:p∉[d,l]) (D:qL G d l):qL (put G p o) d l:=by
 simp only [List.mem_cons,List.not_mem_nil,or_false,not_or] at h;exact uK (S:=[p]) (zN.put (by simp)) (by simpa using Ne.symm h.1) (by simpa using Ne.symm h.2) D
section
variable {K : zE} {C : Addr}
theorem xO {f:Str} (h:f∈wK) (n:Nat):∃ l,(C,l)∈(wX K C n).cl/\f∈l:=⟨wK,by simp [wX,GamL],h⟩
theorem m_a:("answers" : Str)∈wK:=by decide +kernel
theorem m_b:("again" : Str)∈wK:=by decide +kernel
theorem m_c:("doubts" : Str)∈wK:=by decide +kernel
theorem m_e:("speaks" : Str)∈wK:=by decide +kernel
theorem m_f:("other" : Str)∈wK:=by decide +kernel
theorem vE {G:Hw} {a b:Str}:eqG G (.str a) (.str b)=some (decide (a=b)):=by
 simp [eqG,kD,rN,vW,Bool.beq_eq_decide_eq]
theorem jS {n i:Nat} {f:Fn3} (h:i<n) (e:(fnL K C)[i]?=some f):(wX K C n).fn[i]?=some f:=by
 show ((fnL K C).take n)[i]?=_;rw [List.getElem?_take_of_lt h];exact e
theorem zcz {n:Nat} {ws:List W} {G:Hw} {Q:Q3} (h:kE C ws G Q XN):yQ (wX K C n) XN vS { nx:=fun _ G'=>Q .non G',rt:=Q } (yR jB ws) G:=by
 obtain ⟨p,x,rfl,hp,h⟩:=h;simp only [vS,yQ,zF,zJ,zD,zL,xY,yR,jB,Bk.ws,zzU,zzV,List.length_cons,List.length_nil,List.cons_append,List.nil_append,List.getElem?_cons_zero,List.getElem?_cons_succ,satR,hp,zW,mD];have q1:jW ("answers" : Str) (W.str x.a) []=([("answers", .str x.a)]:List (Str×W)):=rfl
 have q2:jW ("again" : Str) (W.str x.b) [("answers", .str x.a)]=([("answers", .str x.a),("again", .str x.b)]:List (Str×W)):=by
  simp [jW,show ¬ (("answers" : Str) = "again") by decide +kernel]
 have q3:jW ("doubts" : Str) (W.str x.c) [("answers", .str x.a),("again", .str x.b)]=([("answers", .str x.a),("again", .str x.b),("doubts", .str x.c)]:List (Str×W)):=by
  simp [jW,show ¬ (("answers" : Str) = "doubts") by decide +kernel,show ¬ (("again" : Str) = "doubts") by decide +kernel]
 have q4:jW ("speaks" : Str) (W.str x.e) [("answers", .str x.a),("again", .str x.b),("doubts", .str x.c)]=([("answers", .str x.a),("again", .str x.b),("doubts", .str x.c),("speaks", .str x.e)]:List (Str×W)):=by
  simp [jW,show ¬ (("answers" : Str) = "speaks") by decide +kernel,show ¬ (("again" : Str) = "speaks") by decide +kernel,show ¬ (("doubts" : Str) = "speaks") by decide +kernel]
 have q5:jW ("other" : Str) (W.str x.f) [("answers", .str x.a),("again", .str x.b),("doubts", .str x.c),("speaks", .str x.e)]=x.fs:=by
  unfold Bk.fs;simp [jW,show ¬ (("answers" : Str) = "other") by decide +kernel,show ¬ (("again" : Str) = "other") by decide +kernel,show ¬ (("doubts" : Str) = "other") by decide +kernel,show ¬ (("speaks" : Str) = "other") by decide +kernel]
 rw [q1,q2,q3,q4,q5];exact ⟨xO m_a n,by decide,xO m_b n,by show 1<1000;decide,xO m_c n,by show 2<1000;decide,xO m_e n,by show 3<1000;decide,xO m_f n,by show 4<1000;decide,h⟩
theorem zeJ {n:Nat} {ws:List W} {G:Hw} {Q:Q3} (h:zbG C ws G Q XN):yQ (wX K C n) XN wS { nx:=fun _ G'=>Q .non G',rt:=Q } (yR xS ws) G:=by
 obtain ⟨p,x,rfl,hp,h⟩:=h;simp only [wS,yQ,zF,zJ,zD,zL,xY,xC,zO,yR,xS,zzU,zzV,List.length_cons,List.length_nil,List.cons_append,List.nil_append,List.getElem?_cons_zero,List.getElem?_cons_succ,pN,hp,lk_a,lk_b,lk_c,lk_e];exact ⟨xO m_a n,xO m_b n,xO m_c n,xO m_e n,by rw [sizeLine_eq];decide,h⟩
theorem bA {n:Nat} {ws:List W} {G:Hw} {Q:Q3} (h:vP C ws G Q XN):yQ (wX K C n) XN qU { nx:=fun _ G'=>Q .non G',rt:=Q } (yR wL ws) G:=by
 obtain ⟨p,x,rfl,hp,h⟩:=h;simp only [qU,yQ,zF,zJ,zD,zL,xY,xC,zO,yR,wL,zzU,zzV,List.length_cons,List.length_nil,List.cons_append,List.nil_append,List.getElem?_cons_zero,List.getElem?_cons_succ,pN,hp,lk_a,lk_b,lk_c,lk_e,lk_f];exact ⟨xO m_a n,xO m_b n,xO m_c n,xO m_e n,xO m_f n,by rw [sizeLine_eq];decide,h⟩
theorem gF {x:Bk} {G:Hw} {Q:Q3} (h:∀ p,G p=none->Q (.ref p) (put G p (.ins C x.fs))):mJ C (Bk.ws x) G Q XN:=fun p hp=>⟨p,x,by rw [List.append_nil],zW,rfl,by rw [mD];exact h p hp⟩
theorem book4 {x:Bk} {G:Hw} {Q:Q3} (hx:x.f = "last") (h:∀ p,G p=none->Q (.ref p) (put G p (.ins C x.fs))):mK C [.str x.a,.str x.b,.str x.c,.str x.e] G Q XN:=fun p hp=>⟨p,x,by rw [Bk.ws,hx];rfl,zW,rfl,by rw [mD];exact h p hp⟩
theorem zbN {n:Nat} (hn:15<=n) {ws:List W} {G:Hw} {Q:Q3} (h:mP C ws G Q XN):yQ (wX K C n) XN vU { nx:=fun _ G'=>Q .non G',rt:=Q } (yR jE ws) G:=by
 obtain ⟨p,q,x,rfl,hp,hq,h⟩:=h;have e14:(wX K C n).fn[14]?=some ⟨"fields_of_first", zbG C⟩:=jS (by omega) rfl;simp only [vU,yQ,zF,zJ,zD,zL,xY,xC,zO,yR,jE,zzU,zzV,List.length_cons,List.length_nil,List.cons_append,List.nil_append,List.getElem?_cons_zero,List.getElem?_cons_succ,yS,e14,pN,hp,hq,lk_f];refine ⟨p,x,rfl,hp,q,x,rfl,hq,?_⟩
 have e:eqG G (.tup [.str x.a,.str x.b,.str x.c,.str x.e]) (.tup [.str x.a,.str x.b,.str x.c,.str x.e])=some true:=by
  simp [eqG,kD,wQ,rN,qY,vW,wB]
 simp only [wZ,e,xD,if_true,hp,hq,lk_f];refine ⟨xO m_f n,xO m_f n,?_⟩;rw [vE];simpa using h
end
theorem LA.len {x:Str} (h:LA x):x.length<=5:=by rcases h with rfl|rfl<;>decide +kernel
theorem OO.len {x:Str} (h:OO x):x.length<=5:=by rcases h with rfl|rfl<;>decide +kernel
theorem zcr {sep:Str} {ts:List Str} {n:Nat} (h:∀ y∈ts,y.length<=n) (hz:ts.length * n+ts.length * sep.length<=16777216):JoinOk sep ts=true:=by
 unfold JoinOk;rw [StrLaws.joinFits h hz];rfl
theorem dG:(("first answers " : Str)).length=14:=by decide +kernel
theorem l_fd:(("first doubts " : Str)).length=13:=by decide +kernel
theorem l_fs:(("first speaks " : Str)).length=13:=by decide +kernel
theorem l_os:(("other speaks " : Str)).length=13:=by decide +kernel
theorem l_1:((" " : Str)).length=1:=by decide +kernel
theorem l_n:(("\n" : Str)).length=1:=by decide +kernel
theorem l_0:Str.empty.length=0:=rfl
theorem Bk.Ok.txt {x:Bk} (h:x.Ok):∀ y∈x.txt,y.length<=40:=by
 have a:=h.a.len;have b:=h.b.len;have c:=h.c.len;have e:=h.e.len;have f:=h.f.len;intro y hy;simp only [Bk.txt,List.mem_cons,List.not_mem_nil,or_false] at hy;rcases hy with rfl|rfl|rfl|rfl<;>simp only [strLen_append,dG,l_fd,l_fs,l_os,l_1]<;>omega
section
variable {K : zE} {C : Addr}
theorem zbI {n:Nat} {ws:List W} {G:Hw} {Q:Q3} (h:mQ C ws G Q XN):yQ (wX K C n) XN rJ { nx:=fun _ G'=>Q .non G',rt:=Q } (yR jF ws) G:=by
 obtain ⟨p,x,rfl,hp,ok,h⟩:=h;have m1:(wX K C n).mt[1]?=some nF:=rfl;have x3:(wX K C n).sx[3]?=some ⟨vX [some "first answers ", none,some " ", none],pQ [some "first answers ", none,some " ", none]⟩:=rfl;have x4:(wX K C n).sx[4]?=some ⟨vX [some "first doubts ", none],pQ [some "first doubts ", none]⟩:=rfl;have x5:(wX K C n).sx[5]?=some ⟨vX [some "first speaks ", none],pQ [some "first speaks ", none]⟩:=rfl;have x6:(wX K C n).sx[6]?=some ⟨vX [some "other speaks ", none],pQ [some "other speaks ", none]⟩:=rfl;have la:=ok.a.len;have lb:=ok.b.len;have lc:=ok.c.len;have le:=ok.e.len;have lf:=ok.f.len;refine jQ ?_
 ((try dsimp only [zF,zJ,zD,zL,xY,xC,wT,yZ,zO,yY,zM,zS,zC,zA,yS,yT,xD,yP,gZ,gS,tZ,tS]);try simp only [yR,jF,zzU,zzV,List.length_cons,List.length_nil,List.cons_append,List.nil_append,List.getElem?_cons_zero,List.getElem?_cons_succ,pN,hp,lk_a,lk_b,lk_c,lk_e,lk_f,m1,x3,x4,x5,x6])
 refine ⟨rfl,xO m_a n,xO m_b n,[x.a,x.b],rfl,?_,?_⟩
 .simp only [jT,strLen_append,dG,l_1,l_0];omega
 simp only [hp,lk_c];refine ⟨xO m_c n,[x.c],rfl,?_,?_⟩
 .simp only [jT,strLen_append,l_fd,l_0];omega
 simp only [hp,lk_e];refine ⟨xO m_e n,[x.e],rfl,?_,?_⟩
 .simp only [jT,strLen_append,l_fs,l_0];omega
 simp only [hp,lk_f];refine ⟨xO m_f n,[x.f],rfl,?_,sz _ (by decide),fun r hr=>?_⟩
 .simp only [jT,strLen_append,l_os,l_0];omega
 have e:[jT [some "first answers ", none,some " ", none] [x.a,x.b],jT [some "first doubts ", none] [x.c],jT [some "first speaks ", none] [x.e],jT [some "other speaks ", none] [x.f]]=x.txt:=by
  simp only [jT,Bk.txt,zds,zbq]
 refine ⟨x.txt,by rw [qG zW,← e];rfl,zcr ok.txt (by rw [l_n];show 4 * 40+4 * 1<=_;decide),h _ (zN.new hr)⟩
theorem zgB {items:List W} {stab:Hw->Prop} {G:Hw} {turn:W->Hw->(Option W->Hw->Prop)->Prop} {Q:Q3} (g:Nat->Option W) (hl:items.length<=3000) (st:∀ G',zN [] G G'->stab G')
  (step:∀ i w G' (k:Option W->Hw->Prop),items[i]?=some w->zN [] G G'->(∀ G'',zN [] G G''->k (g i) G'')->turn w G' k)
  (fin:∀ G' r,zN [] G G'->G' r=none->Q (.ref r) (put G' r (.lst ((List.range items.length).filterMap g)))):lcR items stab G turn Q:=by
 refine ⟨fun i acc G'=>zN [] G G'/\acc=(List.range i).filterMap g,⟨zN.refl,rfl⟩,?_,sz _ hl,?_,?_⟩
 .rintro i acc G' ⟨k,rfl⟩ _;exact ⟨st G' k,Nat.le_trans (List.length_filterMap_le _ _) (Nat.le_of_eq List.length_range)⟩
 .rintro i w acc G' hw ⟨k,rfl⟩;refine step i w G' _ hw k fun G'' k'=>?_
  have e:(List.range (i+1)).filterMap g=(List.range i).filterMap g++(g i).toList:=by
   rw [List.range_succ,List.filterMap_append];cases h:g i<;>simp [h]
  cases hg:g i with
  |some x=>exact ⟨k',by rw [e,hg];rfl⟩
  |none=>exact ⟨k',by rw [e,hg];simp⟩
 .rintro acc G' ⟨k,rfl⟩ r hr;exact fin G' r k hr
theorem za3 {α:Type} (c:α->W) (f:α->Bool):∀ l:List α,l.filterMap (fun x=>if f x=true then some (c x) else none)=(l.filter f).map c
 | []=>rfl
 |x::l=>by
  have ih:=za3 c f l;rw [List.filterMap_cons,List.filter_cons]
  by_cases h:f x=true
  .rw [if_pos h,if_pos h,zzU,← ih]
  .rw [if_neg h,if_neg h,← ih]
theorem zgC {α:Type} {items:List W} {stab:Hw->Prop} {G:Hw} {turn:W->Hw->(Option W->Hw->Prop)->Prop} {Q:Q3} (l:List α) (c:α->W) (f:α->Bool) (hi:items=l.map c) (hl:l.length<=3000) (st:∀ G',zN [] G G'->stab G')
  (step:∀ x∈l,∀ G' (k:Option W->Hw->Prop),zN [] G G'->(∀ G'',zN [] G G''->k (if f x=true then some (c x) else none) G'')->turn (c x) G' k)
  (fin:∀ G' r,zN [] G G'->G' r=none->Q (.ref r) (put G' r (.lst ((l.filter f).map c)))):lcR items stab G turn Q:=by
 subst hi
 have e:(List.range (l.map c).length).filterMap (fun i=>(l[i]?).bind fun x=>if f x=true then some (c x) else none)=(l.filter f).map c:=by
  rw [zzM,← za3];have h:=List.filterMap_getElem?_range_length l
  conv=>rhs;rw [← h]
  rw [List.filterMap_filterMap]
 refine zgB (fun i=>(l[i]?).bind fun x=>if f x=true then some (c x) else none) (by rw [zzM];exact hl) st (fun i w G' k hw kp hk=>?_) (fun G' r kp hr=>by rw [e];exact fin G' r kp hr);rw [List.getElem?_map] at hw;obtain ⟨x,hx,rfl⟩:=Option.map_eq_some_iff.mp hw;rw [hx] at hk;exact step x (List.mem_of_getElem? hx) G' k kp hk
theorem vC {c:Nat}:∀ {l p:List Nat},p∈qX c l->p.length<=l.length
 | [],p,h=>by simp [qX] at h;subst h;exact zzR _
 |x::r,p,h=>by
  unfold qX at h
  split at h
  .rcases List.mem_cons.mp h with rfl|h
   .exact Nat.zero_le _
   .exact Nat.le_succ_of_le (vC h)
  .split at h
   .rename_i a t e;rcases List.mem_cons.mp h with rfl|h
    .exact Nat.succ_le_succ (vC (by rw [e];exact zzT))
    .exact Nat.le_succ_of_le (vC (by rw [e];exact List.mem_cons_of_mem _ h))
   .rename_i e;exact absurd e (zbe c r)
theorem fQ:(" " : Str)=⟨#[32]⟩:=by decide +kernel
theorem zgq:("\n" : Str)=⟨#[10]⟩:=by decide +kernel
theorem zbF {x w:Str} {c:Nat} (h:w∈Txt.split x ⟨#[c]⟩):w.length<=x.length:=by
 have:=List.mem_map_of_mem (f:=fun s:Str=>s.cps.toList) h;rw [uU] at this;have:=vC this;simpa [Str.length] using this
theorem zfm (x:Str):(Txt.split x " ").filter (fun w=>(w.length:Int) != 0)=cM x:=by
 rw [fQ,fR,cM,wd,List.filter_map];show List.map bM _=_;congr 1;apply List.filter_congr;intro l _;show ((l.toArray.size:Int) != 0)=!l.isEmpty;cases l<;>simp
 omega
theorem zaj {n:Nat} {ws:List W} {G:Hw} {Q:Q3} (h:tM ws G Q XN):yQ (wX K C n) XN wV { nx:=fun _ G'=>Q .non G',rt:=Q } (yR yG ws) G:=by
 obtain ⟨x,rfl,hx,h⟩:=h;have m3:(wX K C n).mt[3]?=some rP:=rfl;refine jQ ?_
 ((try dsimp only [zF,zJ,zD,zL,xY,xC,wT,yZ,zO,yY,zM,zS,zC,zA,yS,yT,xD,yP,gZ,gS,tZ,tS]);try simp only [yR,yG,zzU,zzV,List.length_cons,List.length_nil,List.cons_append,List.nil_append,List.getElem?_cons_zero,List.getElem?_cons_succ,m3])
 refine ⟨rfl,by decide +kernel,by omega,fun r hr=>?_⟩;simp only [uA,qG zW];have hl:=pF x " ";refine zgC (Txt.split x " ") W.str (fun w=>(w.length:Int) != 0) rfl (by omega) (fun G' k=>qG (k0 k zW)) (fun w hw G' k kp hk=>?_) (fun G' q kp hq=>?_)
 .have lw:w.length<=sizeLine:=sz _ (Nat.le_trans (zbF (by rw [fQ] at hw;exact hw)) (by omega));show (match rA G' (.str w) with|some b=>if b=true then k (some (.str w)) G' else k none G'|none=>False);have hk:=hk G' kp;simp only [rA,lw,if_true]
  by_cases e:((w.length:Int) != 0)=true
  .rw [if_pos e] at hk ⊢;exact hk
  .rw [if_neg e] at hk ⊢;exact hk
 .rw [zfm];exact h q _ (((zN.new hr).trans kp).trans (zN.new hq)) (zN.none ((zN.new hr).trans kp) (by simp) hq) zW
theorem zci {n:Nat} (hn:8<=n) {ws:List W} {G:Hw} {Q:Q3} (h:mM C ws G Q XN):yQ (wX K C n) XN rF { nx:=fun _ G'=>Q .non G',rt:=Q } (yR wG ws) G:=by
 obtain ⟨p,kvs,r1,r2,r3,r4,x,rfl,hp,⟨d1,d2,d3,d4⟩,⟨g1,g2,g3,g4⟩,h⟩:=h;have e7:(wX K C n).fn[7]?=some ⟨"Book", mJ C⟩:=jS (by omega) rfl;refine jQ ?_
 ((try dsimp only [zF,zJ,zD,zL,xY,xC,wT,yZ,zO,yY,zM,zS,zC,zA,yS,yT,xD,yP,gZ,gS,tZ,tS]);try simp only [yR,wG,zzU,zzV,List.length_cons,List.length_nil,List.cons_append,List.nil_append,List.getElem?_cons_zero,List.getElem?_cons_succ,uX,hp,kF,d1,unl,qG g1])
 refine jQ ?_
 ((try dsimp only [zF,zJ,zD,zL,xY,xC,wT,yZ,zO,yY,zM,zS,zC,zA,yS,yT,xD,yP,gZ,gS,tZ,tS]);try simp only [yR,wG,zzU,zzV,List.length_cons,List.length_nil,List.cons_append,List.nil_append,List.getElem?_cons_zero,List.getElem?_cons_succ,uX,hp,kF,d2,d3,d4,g2,g3,g4,at_0,e7])
 exact gF (x:=x) h
theorem zdK (a b:Str):fZ ["first", "answers", a,b] = "first answers" := by show Txt.join " " ["first", "answers"]=_;decide +kernel
theorem zdJ (a:Str):fZ ["first", "doubts", a] = "first doubts" := by show Txt.join " " ["first", "doubts"]=_;decide +kernel
theorem zdI (a:Str):fZ ["first", "speaks", a] = "first speaks" := by show Txt.join " " ["first", "speaks"]=_;decide +kernel
theorem zdH (a:Str):fZ ["other", "speaks", a] = "other speaks" := by show Txt.join " " ["other", "speaks"]=_;decide +kernel
theorem c1:(chK.zip chV).lookup ("first answers" : Str)=some (.tup [la,oo]):=rfl
theorem c2:(chK.zip chV).lookup ("first doubts" : Str)=some (.tup [oo]):=by simp [chK,chV,List.lookup,show (("first doubts" : Str) == "first answers")=false by decide +kernel]
theorem c3:(chK.zip chV).lookup ("first speaks" : Str)=some (.tup [la]):=by simp [chK,chV,List.lookup,show (("first speaks" : Str) == "first answers")=false by decide +kernel,show (("first speaks" : Str) == "first doubts")=false by decide +kernel]
theorem c4:(chK.zip chV).lookup ("other speaks" : Str)=some (.tup [la]):=by simp [chK,chV,List.lookup,show (("other speaks" : Str) == "first answers")=false by decide +kernel,show (("other speaks" : Str) == "first doubts")=false by decide +kernel,show (("other speaks" : Str) == "first speaks")=false by decide +kernel]
theorem inLA {x:Str} {G:Hw} {Q:Q3} (h:LA x) (q:Q (.bl true) G):sE false (.str x) la G Q:=by
 refine ⟨⟨by simp [kD],by simp [wQ,kD],by simp [qY,rN]⟩,?_⟩
 have e:([W.str "last", W.str "any"].any fun w=>vW w (.str x))=true:=by
  rcases h with rfl|rfl<;>decide +kernel
 rw [e];exact q
theorem inOO {x:Str} {G:Hw} {Q:Q3} (h:OO x) (q:Q (.bl true) G):sE false (.str x) oo G Q:=by
 refine ⟨⟨by simp [kD],by simp [wQ,kD],by simp [qY,rN]⟩,?_⟩
 have e:([W.str "once", W.str "often"].any fun w=>vW w (.str x))=true:=by
  rcases h with rfl|rfl<;>decide +kernel
 rw [e];exact q
theorem kT {n:Nat} (hn:3<=n) {G:Hw} {Q:Q3} {s:Str} {r:Addr} {ss:List Str} {cs:List W} (ec:(chK.zip chV).lookup s=some (.tup cs)) (hr:G r=some (.lst (ss.map .str))) (hl:ss.length=cs.length) (h9:ss.length<=9)
  (hin:∀ (i:Nat) (x:Str) (c:W),ss[i]?=some x->cs[i]?=some c->∀ (G':Hw) (k:Q3),k (.bl true) G'->sE false (.str x) c G' k) (h:∀ G',zN [] G G'->Q (.bl true) G') :
  yQ (wX K C n) XN zfb { nx:=fun _ G'=>Q .non G',rt:=Q } (yR nW [.str s,.ref r]) G:=by
 have e1:(wX K C n).fn[1]?=some eLen:=jS (by omega) rfl;have e2:(wX K C n).fn[2]?=some eAll:=jS (by omega) rfl;have g0:(wX K C n).gl[0]?=some (("CHOICES" : Str),W.dcf chK chV):=rfl;have i0:(wX K C n).it[0]?=some eZpi:=rfl;refine jQ ?_
 ((try dsimp only [zF,zJ,zD,zL,xY,xC,wT,yZ,zO,yY,zM,zS,zC,zA,yS,yT,xD,yP,gZ,gS,tZ,tS]);try simp only [yR,nW,zzU,zzV,List.length_cons,List.length_nil,List.cons_append,List.nil_append,List.getElem?_cons_zero,List.getElem?_cons_succ,g0,wZ,sE,ec,Option.isSome_some,Bool.not_true,if_true,zzB,if_false,e1,gY,hG,hr,uX])
 have eq:eqG G (W.int ((ss.map W.str).length:Nat)) (W.int (cs.length:Nat))=some true:=by
  rw [zzM,hl];simp [eqG,kD,rN,vW]
 rw [eq];show yQ (wX K C n) XN ISs.nil _ _ G;refine stn (jQ ?_)
 ((try dsimp only [zF,zJ,zD,zL,xY,xC,wT,yZ,zO,yY,zM,zS,zC,zA,yS,yT,xD,yP,gZ,gS,tZ,tS]);try simp only [g0,i0,e2,uX,ec,yR,nW,zzU,zzV,List.length_cons,List.length_nil,List.cons_append,List.nil_append])
 refine ⟨ss.map .str,cs,seqL hr,rfl,?_⟩;have len:(List.zipWith (fun a b=>W.tup [a,b]) (ss.map W.str) cs).length=ss.length:=by rw [List.length_zipWith,zzM,hl,Nat.min_self]
 refine zgB (fun _=>some (.bl true)) (by rw [len];omega) (fun G' k=>⟨seqL (k0 k hr),rfl⟩) (fun i w G' k hw kp hk=>?_) (fun G' q kp hq=>?_)
 .rw [List.getElem?_zipWith] at hw
  cases e1:(ss.map W.str)[i]? with
  |none=>rw [e1] at hw;simp at hw
  |some a =>
   cases e2:cs[i]? with
   |none=>rw [e1,e2] at hw;simp at hw
   |some c =>
    rw [e1,e2] at hw;have hw:W.tup [a,c]=w:=by simpa using hw
    subst hw;rw [List.getElem?_map] at e1;obtain ⟨x,hx,rfl⟩:=Option.map_eq_some_iff.mp e1;exact hin i x c hx e2 G' _ (hk G' kp)
 .refine ⟨List.replicate ss.length true,?_,?_⟩
  .rw [qG zW,len,List.map_replicate];congr 1;apply List.ext_getElem?;intro i;simp [List.filterMap_eq_map,List.getElem?_replicate]
   by_cases hi:i<ss.length<;>simp [hi]
  .have:(List.replicate ss.length true).all id=true:=by simp
   dsimp only;rw [this];exact h _ (kp.trans (zN.new hq))
theorem zcE {n:Nat} (hn:3<=n) {ws:List W} {G:Hw} {Q:Q3} (h:mL ws G Q XN):yQ (wX K C n) XN zfb { nx:=fun _ G'=>Q .non G',rt:=Q } (yR nW ws) G:=by
 obtain ⟨r,x,ss,ok,hss,rfl,hr,h⟩:=h;simp only [Bk.rows,List.mem_cons,List.not_mem_nil,or_false] at hss;rcases hss with rfl|rfl|rfl|rfl
 .rw [zdK];refine kT hn c1 hr rfl (by simp) (fun i y c h1 h2 G' k q=>?_) h
  match i,h1,h2 with
  | 0,h1,h2=>cases h1;cases h2;exact inLA ok.a q
  | 1,h1,h2=>cases h1;cases h2;exact inOO ok.b q
  |i+2,h1,h2=>cases h2
 .rw [zdJ];refine kT hn c2 hr rfl (by simp) (fun i y c h1 h2 G' k q=>?_) h
  match i,h1,h2 with
  | 0,h1,h2=>cases h1;cases h2;exact inOO ok.c q
  |i+1,h1,h2=>cases h2
 .rw [zdI];refine kT hn c3 hr rfl (by simp) (fun i y c h1 h2 G' k q=>?_) h
  match i,h1,h2 with
  | 0,h1,h2=>cases h1;cases h2;exact inLA ok.e q
  |i+1,h1,h2=>cases h2
 .rw [zdH];refine kT hn c4 hr rfl (by simp) (fun i y c h1 h2 G' k q=>?_) h
  match i,h1,h2 with
  | 0,h1,h2=>cases h1;cases h2;exact inLA ok.f q
  |i+1,h1,h2=>cases h2
end
structure Kn (K:zE) (C:Addr):Prop where
 ss:PySem.W.kitOne K (.type "str") (.type "str")=some true
 bb:PySem.W.kitOne K (.ref C) (.ref C)=some true
 ik:InsK K C
inductive Fd (G:Hw):List (yW×W)->List (List Str)->Prop where
 |nil:Fd G [] []
 |snoc {kvs:List (yW×W)} {R:List (List Str)} {ws:List Str} {r:Addr}:Fd G kvs R->G r=some (.lst ((ws.drop 2).map .str))->Fd G (kvs++[(.inr (fZ ws),.ref r)]) (R++[ws])
theorem Fd.mono {G G':Hw} {kvs:List (yW×W)} {R:List (List Str)} (h:Fd G kvs R) (k:∀ r l,G r=some (.lst l)->G' r=some (.lst l)):Fd G' kvs R:=by
 induction h with
 |nil=>exact .nil
 |snoc _ e ih=>exact .snoc ih (k _ _ e)
theorem Fd.len {G:Hw} {kvs:List (yW×W)} {R:List (List Str)} (h:Fd G kvs R):kvs.length=R.length:=by
 induction h with
 |nil=>rfl
 |snoc _ _ ih=>simp [ih]
theorem Fd.has {G:Hw} {kvs:List (yW×W)} {R:List (List Str)} {s:Str} (h:Fd G kvs R) (hs:s∉R.map fZ):∀ p∈kvs,p.1≠.inr s:=by
 induction h with
 |nil=>intro p hp;cases hp
 | @snoc kvs R ws r _ e ih =>
  rw [List.map_append,List.mem_append,not_or] at hs;intro p hp;rcases List.mem_append.mp hp with hp|hp
  .exact ih hs.1 p hp
  .rw [zzO hp];intro z
   injection z with z
   exact hs.2 (by simp [z])
theorem Fd.get {G:Hw} {kvs:List (yW×W)} {R:List (List Str)} (h:Fd G kvs R):(R.map fZ).Nodup->∀ ws∈R,∃ r,vV kvs (.inr (fZ ws))=some (.ref r)/\G r=some (.lst ((ws.drop 2).map .str)):=by
 induction h with
 |nil=>intro _ ws hw;cases hw
 | @snoc kvs R ws r f e ih =>
  intro nd us hu;rw [List.map_append] at nd;have nd':=List.nodup_append.mp nd;rcases List.mem_append.mp hu with hu|hu
  .obtain ⟨r',e1,e2⟩:=ih nd'.1 us hu;refine ⟨r',?_,e2⟩;unfold vV at e1 ⊢;rw [List.find?_append];obtain ⟨y,e3,e4⟩:=Option.map_eq_some_iff.mp e1;rw [e3];exact congrArg some e4
  .rw [zzO hu];have no:fZ ws∉R.map fZ:=fun z=>nd'.2.2 _ z _ (by simp) rfl;refine ⟨r,?_,e⟩;unfold vV;rw [List.find?_append,List.find?_eq_none.mpr (fun p hp=>by simpa using f.has no p hp)];simp
theorem zcP {kvs:List (yW×W)} {k:yW} {v:W} (h:∀ p∈kvs,p.1≠k):tO kvs k v=kvs++[(k,v)]:=by
 unfold tO;rw [if_neg];rw [Bool.not_eq_true,List.any_eq_false];intro p hp;simp [h p hp]
theorem zeE {kvs:List (yW×W)} {k:yW} (h:∀ p∈kvs,p.1≠k):bF kvs k=false:=by
 unfold bF;rw [List.any_eq_false];intro p hp;simp [h p hp]
def PR (t:Str) (i:Nat):List (List Str):=((((qX 10 t.cps.toList).take i).map wd).filter fun w=>!w.isEmpty).map (List.map bM)
theorem zhm (t:Str) {i:Nat} (h:i=(qX 10 t.cps.toList).length):PR t i=sQ t:=by
 unfold PR sQ uY;rw [h,List.take_length]
theorem zhl (t:Str) (i:Nat):∃ r,sQ t=PR t i++r:=by
 refine ⟨((((qX 10 t.cps.toList).drop i).map wd).filter fun w=>!w.isEmpty).map (List.map bM),?_⟩;unfold PR sQ uY;rw [← List.map_append,← List.filter_append,← List.map_append,List.take_append_drop]
theorem zff (t:Str) {i:Nat} {l:List Nat} (h:(qX 10 t.cps.toList)[i]?=some l):PR t (i+1)=if (wd l).isEmpty then PR t i else PR t i++[(wd l).map bM]:=by
 have hi:=(List.getElem?_eq_some_iff.mp h).1;unfold PR;rw [List.take_succ,h,Option.toList_some,List.map_append,List.filter_append,List.map_append];show _++List.map (List.map bM) (List.filter _ [wd l])=_
 cases e:wd l with
 |nil=>simp
 |cons a b=>simp
theorem zfl (l:List Nat):cM (bM l)=(wd l).map bM:=rfl
theorem zbS (x:Bk):(x.rows.map fZ).Nodup:=by
 simp only [Bk.rows,zzU,zzV,zdK,zdJ,zdI,zdH]
 decide +kernel
theorem zbT {x:Bk} (ok:x.Ok):∀ ss∈x.rows,∀ w∈ss,w.length<=7:=by
 have a:=ok.a.len;have b:=ok.b.len;have c:=ok.c.len;have e:=ok.e.len;have f:=ok.f.len;have q1:(("first" : Str)).length=5:=by decide +kernel
 have q2:(("answers" : Str)).length=7:=by decide +kernel
 have q3:(("doubts" : Str)).length=6:=by decide +kernel
 have q4:(("speaks" : Str)).length=6:=by decide +kernel
 have q5:(("other" : Str)).length=5:=by decide +kernel
 intro ss hs w hw;simp only [Bk.rows,List.mem_cons,List.not_mem_nil,or_false] at hs;rcases hs with rfl|rfl|rfl|rfl<;>simp only [List.mem_cons,List.not_mem_nil,or_false] at hw<;>rcases hw with rfl|rfl|rfl|rfl<;>omega
theorem cut_2 {α:Type} (l:List α):vD l none (some 2)=l.take 2:=by
 unfold vD HT.xP;dsimp only;rw [if_neg (by omega),List.drop_zero,Nat.sub_zero];show l.take (min 2 l.length)=_;rw [List.take_eq_take_iff];omega
theorem zhf {α:Type} (l:List α):vD l (some 2) none=l.drop 2:=by
 unfold vD HT.xP;dsimp only;rw [if_neg (by omega)];show (l.drop (min 2 l.length)).take (l.length-min 2 l.length)=_;rw [List.take_of_length_le (by rw [List.length_drop];omega)]
 by_cases h:2<=l.length
 .rw [Nat.min_eq_left h]
 .rw [Nat.min_eq_right (by omega),List.drop_length,List.drop_of_length_le (by omega)]
section
variable {K : zE} {C : Addr}
theorem stk (K:zE) (C:Addr) (n:Nat) {D:End3} {σ:wU} {G:Hw} (h:D.nx σ G):yQ (wX K C n) XN .nil D σ G:=h
theorem zbV {n:Nat} (hn:11<=n) (kn:Kn K C) {ws:List W} {G:Hw} {Q:Q3} (h:mN C ws G Q XN):yQ (wX K C n) XN rH { nx:=fun _ G'=>Q .non G',rt:=Q } (yR kA ws) G:=by
 obtain ⟨t,x,rfl,ht,ok,pm,h⟩:=h;have e1:(wX K C n).fn[1]?=some eLen:=jS (by omega) rfl;have e4:(wX K C n).fn[4]?=some (eIso K):=jS (by omega) rfl;have e5:(wX K C n).fn[5]?=some ze0:=jS (by omega) rfl;have e8:(wX K C n).fn[8]?=some ⟨"made_book", mM C⟩:=jS (by omega) rfl;have e9:(wX K C n).fn[9]?=some ⟨"words_between_blanks", tM⟩:=jS (by omega) rfl;have e10:(wX K C n).fn[10]?=some ⟨"fits", mL⟩:=jS (by omega) rfl;have g0:(wX K C n).gl[0]?=some (("CHOICES" : Str),W.dcf chK chV):=rfl;have g1:(wX K C n).gl[1]?=some (("str" : Str),W.ty "str"):=rfl;have m1:(wX K C n).mt[1]?=some nF:=rfl;have m3:(wX K C n).mt[3]?=some rP:=rfl;have x1:(wX K C n).sx[1]?=some ⟨emM,emS⟩:=rfl;have i0:(wX K C n).ix[0]?=some ⟨enkM,enkI⟩:=rfl;show yQ _ _ _ _ [some (.str t),none,none,none,none,none,none] G;refine jQ ?_
 ((try dsimp only [zF,zJ,zD,zL,xY,xC,wT,yZ,zO,yY,zM,zS,zC,zA,yS,yT,xD,yP,gZ,gS,tZ,tS]);try simp only [e4,g1])
 refine ⟨"str", true,rfl,kn.ss,?_⟩
 ((try dsimp only [zF,zJ,zD,zL,xY,xC,wT,yZ,zO,yY,zM,zS,zC,zA,yS,yT,xD,yP,gZ,gS,tZ,tS]);try simp only [rA,Bool.not_true,zzB,if_false])
 refine stn (jQ ?_)
 ((try dsimp only [zF,zJ,zD,zL,xY,xC,wT,yZ,zO,yY,zM,zS,zC,zA,yS,yT,xD,yP,gZ,gS,tZ,tS]);try simp only [m3])
 refine ⟨rfl,by decide +kernel,by omega,fun lr hlr=>?_⟩;refine jQ ?_
 ((try dsimp only [zF,zJ,zD,zL,xY,xC,wT,yZ,zO,yY,zM,zS,zC,zA,yS,yT,xD,yP,gZ,gS,tZ,tS]);try simp only [x1])
 intro p hp;refine jQ ?_
 ((try dsimp only [zF,zJ,zD,zL,xY,xC,wT,yZ,zO,yY,zM,zS,zC,zA,yS,yT,xD,yP,gZ,gS,tZ,tS]);try simp only [i0])
 have hne:lr≠p:=qD zW hp;have hlp:put (put G lr (.lst ((Txt.split t "\n").map .str))) p (.dic []) lr=some (.lst ((Txt.split t "\n").map .str)):=by rw [yD hne];exact zW
 have hpG:G p=none:=by rw [yD (Ne.symm hne)] at hp;exact hp
 refine ⟨_,seqL hlp,?_⟩;have srtN:((sQ t).map fZ).Nodup:=(pm.map fZ).nodup_iff.mpr (zbS x);have spl:Txt.split t "\n" = (qX 10 t.cps.toList).map bM:=by rw [zgq];exact fR t 10
 have lenI:(enW 1 ((Txt.split t "\n").map W.str)).length=(qX 10 t.cps.toList).length:=by simp [enW,spl]
 refine ⟨fun i σ G'=>∃ n3 n4 n5 n6 kvs,σ=[some (.str t),some (.ref lr),some (.ref p),n3,n4,n5,n6]/\zN [] G G'/\G' lr=some (.lst ((Txt.split t "\n").map .str))/\G' p=some (.dic kvs)/\Fd G' kvs (PR t i),?_,?_,?_,?_⟩
 .exact ⟨none,none,none,none,[],rfl,(zN.new hlr).trans (zN.new hp),hlp,zW,.nil⟩
 .rintro i σ G' ⟨_,_,_,_,_,_,_,h1,_⟩ _;exact seqL h1
 .rintro i w σ G' hw ⟨n3,n4,n5,n6,kvs,rfl,kp,h1,h2,fd⟩;have hi:=(List.getElem?_eq_some_iff.mp hw).1;rw [lenI] at hi;obtain ⟨l,hl⟩:∃ l,(qX 10 t.cps.toList)[i]?=some l:=⟨_,List.getElem?_eq_getElem hi⟩
  have ew:w=.tup [.int ((i:Nat)+1),.str (bM l)]:=by
   have:(enW 1 ((Txt.split t "\n").map W.str))[i]?=some (.tup [.int ((i:Nat)+1),.str (bM l)]):=by
    unfold enW;rw [List.getElem?_map,List.getElem?_range (by rw [zzM,spl,zzM];exact hi)];simp only [Option.map_some,spl,List.getD,List.getElem?_map,hl,Option.getD_some]
   rw [this] at hw;exact (Option.some.inj hw).symm
  subst ew;have ll:l.length<=1000:=Nat.le_trans (vC (List.mem_of_getElem? hl)) (by simpa [Str.length] using ht)
  (try dsimp only [zF,zJ,zD,zL,xY,xC,wT,yZ,zO,yY,zM,zS,zC,zA,yS,yT,xD,yP,gZ,gS,tZ,tS])
  refine jQ ?_
  ((try dsimp only [zF,zJ,zD,zL,xY,xC,wT,yZ,zO,yY,zM,zS,zC,zA,yS,yT,xD,yP,gZ,gS,tZ,tS]);try simp only [e9])
  refine ⟨bM l,rfl,by show l.toArray.size<=2000;simp;omega,fun r1 G1 kp1 hr1 g1=>?_⟩;rw [zfl] at g1;have ps:=zff t hl;refine jQ ?_
  ((try dsimp only [zF,zJ,zD,zL,xY,xC,wT,yZ,zO,yY,zM,zS,zC,zA,yS,yT,xD,yP,gZ,gS,tZ,tS]);try simp only [rA,g1])
  cases hwd:wd l with
  |nil =>
   rw [hwd] at ps;simp only [zzV,List.isEmpty_nil,Bool.not_true,zzB,if_false];refine stk K C n (stk K C n ⟨_,_,_,n6,kvs,rfl,kp.trans kp1,k0 kp1 h1,k0 kp1 h2,?_⟩);rw [ps];exact fd.mono fun r l e=>k0 kp1 e
  |cons w0 wr =>
   rw [← hwd];have hse:(wd l).isEmpty=false:=by rw [hwd];rfl
   have hse2:((List.map W.str (List.map bM (wd l))).isEmpty)=false:=by rw [hwd];rfl
   rw [hse2];rw [hse,if_neg zzN] at ps;generalize hss:(wd l).map bM=ss at ps g1;obtain ⟨rest,erw⟩:=zhl t (i+1);rw [ps] at erw;have hin:ss∈x.rows:=pm.mem_iff.mp (by rw [erw];simp)
   have hno:fZ ss∉(PR t i).map fZ:=by
    rw [erw,List.append_assoc,List.map_append,List.map_append,zzU,zzV] at srtN;exact fun z=>(List.nodup_append.mp srtN).2.2 _ z _ (by simp) rfl
   have wl:=zbT ok ss hin;simp only [Bool.not_false,if_true];refine jQ ?_
   ((try dsimp only [zF,zJ,zD,zL,xY,xC,wT,yZ,zO,yY,zM,zS,zC,zA,yS,yT,xD,yP,gZ,gS,tZ,tS]);try simp only [m1,slR,qG g1])
   refine ⟨rfl,fun r2 hr2=>?_⟩;refine ⟨ss.take 2,by rw [qG zW,cut_2,List.map_take],zcr (n:=7) (fun y hy=>wl y (List.mem_of_mem_take hy)) (by rw [l_1,List.length_take];omega),?_⟩;have g2p:=dN (u:=.lst (vD (ss.map W.str) none (some 2))) hr2 (k0 kp1 h2);have g2r:=dN (u:=.lst (vD (ss.map W.str) none (some 2))) hr2 g1;have kp2:=(kp.trans kp1).trans (zN.new (o:=.lst (vD (ss.map W.str) none (some 2))) hr2);have g2l:=dN (u:=.lst (vD (ss.map W.str) none (some 2))) hr2 (k0 kp1 h1);have fd2:Fd (put G1 r2 (.lst (vD (ss.map W.str) none (some 2)))) kvs (PR t i):=fd.mono fun r l e=>dN hr2 (k0 kp1 e);generalize put G1 r2 (.lst (vD (ss.map W.str) none (some 2)))=G2 at g2p g2r kp2 g2l fd2;rw [show Txt.join " " (ss.take 2)=fZ ss from rfl];refine jQ ?_
   ((try dsimp only [zF,zJ,zD,zL,xY,xC,wT,yZ,zO,yY,zM,zS,zC,zA,yS,yT,xD,yP,gZ,gS,tZ,tS]);try simp only [wZ,sE,g2p,kF,zeE (fd.has hno),zzB,if_false,slR,qG g2r,e10])
   intro r3 hr3;refine ⟨r3,x,ss,ok,hin,rfl,by rw [zW,zhf,List.map_drop],fun G3 kp3=>?_⟩;have kp23:=(zN.new (S:=[]) (o:=.lst (vD (ss.map W.str) (some 2) none)) hr3).trans kp3
   ((try dsimp only [zF,zJ,zD,zL,xY,xC,wT,yZ,zO,yY,zM,zS,zC,zA,yS,yT,xD,yP,gZ,gS,tZ,tS]);try simp only [rA,Bool.not_true,zzB,if_false])
   have g3p:=k0 kp23 g2p;have g3r:=k0 kp23 g2r;refine stk K C n (jQ ?_)
   ((try dsimp only [zF,zJ,zD,zL,xY,xC,wT,yZ,zO,yY,zM,zS,zC,zA,yS,yT,xD,yP,gZ,gS,tZ,tS]);try simp only [slR,qG g3r])
   intro r4 hr4;have hp4:p≠r4:=qD g3p hr4;have g4p:=dN (u:=.lst (vD (ss.map W.str) (some 2) none)) hr4 g3p;simp only [fL,g4p,kF]
   have kl:kvs.length<=1000:=by
    rw [fd.len];have:=congrArg List.length erw;simp only [zzW,List.length_cons,List.length_nil] at this;have:=pm.length_eq;have:x.rows.length=4:=rfl;omega
   refine ⟨by rw [sizeLine_eq];omega,stk K C n (stk K C n ⟨_,_,_,_,_,rfl,?_,?_,zW,?_⟩)⟩
   .exact zep ((kp2.trans kp23).trans (zN.new hr4)) hpG
   .rw [yD hne];exact dN hr4 (k0 kp23 g2l)
   .rw [ps,zcP (fd.has hno)];refine .snoc ((fd2.mono fun r l e=>?_)) (r:=r4) ?_
    .have nr:r≠p:=fun z=>by rw [z,g2p] at e;cases e
     rw [yD nr];exact dN hr4 (k0 kp23 e)
    .rw [yD (Ne.symm hp4),zW,zhf,List.map_drop]
 .rintro σ G' ⟨n3,n4,n5,n6,kvs,rfl,kp,h1,h2,fd⟩;rw [zhm t lenI] at fd;have kl:kvs.length=4:=by rw [fd.len,pm.length_eq];rfl
  refine jQ ?_
  ((try dsimp only [zF,zJ,zD,zL,xY,xC,wT,yZ,zO,yY,zM,zS,zC,zA,yS,yT,xD,yP,gZ,gS,tZ,tS]);try simp only [e1,e5,g0,gY,hG,h2,kl])
  refine ⟨chK,chV,rfl,?_⟩;have lt:hZ (fun i j=>decide (i<j)) (some ltS) (.int ((4:Nat):Int)) (.int (chK.length:Nat)) G'=fun Q=>Q (.bl false) G':=rfl;simp only [wZ,lt,zzB,if_false];refine stk K C n (jQ ?_)
  ((try dsimp only [zF,zJ,zD,zL,xY,xC,wT,yZ,zO,yY,zM,zS,zC,zA,yS,yT,xD,yP,gZ,gS,tZ,tS]);try simp only [e8])
  have nd:=srtN;obtain ⟨r1,a1,b1⟩:=fd.get nd ["first", "answers", x.a,x.b] (pm.mem_iff.mpr (by simp [Bk.rows]));obtain ⟨r2,a2,b2⟩:=fd.get nd ["first", "doubts", x.c] (pm.mem_iff.mpr (by simp [Bk.rows]));obtain ⟨r3,a3,b3⟩:=fd.get nd ["first", "speaks", x.e] (pm.mem_iff.mpr (by simp [Bk.rows]));obtain ⟨r4,a4,b4⟩:=fd.get nd ["other", "speaks", x.f] (pm.mem_iff.mpr (by simp [Bk.rows]));rw [zdK] at a1;rw [zdJ] at a2;rw [zdI] at a3;rw [zdH] at a4;exact ⟨p,kvs,r1,r2,r3,r4,x,rfl,h2,⟨a1,a2,a3,a4⟩,⟨b1,b2,b3,b4⟩,fun q hq=>h q _ (kp.trans (zN.new hq)) (zN.none kp (by simp) hq) zW⟩
end
theorem cpsA (a b:Str):(a++b).cps.toList=a.cps.toList++b.cps.toList:=by rw [Str.cps_append,Array.toList_append]
theorem tL:uY []=[]:=rfl
theorem rws_3:uY [32,32,32]=[]:=by decide +kernel
theorem zfQ:uY [32,32]=[]:=by decide +kernel
theorem bX {s:Str} (h:s∈(["\n", "\n\n", "\n   \n"]:List Str)) (u z:List Nat):uY (u++s.cps.toList++z)=uY u++uY z:=by
 have q1:("\n" : Str).cps.toList=[10]:=by decide +kernel
 have q2:("\n\n" : Str).cps.toList=[10,10]:=by decide +kernel
 have q3:("\n   \n" : Str).cps.toList=[10,32,32,32,10]:=by decide +kernel
 simp only [List.mem_cons,List.not_mem_nil,or_false] at h;rcases h with rfl|rfl|rfl
 .rw [q1,List.append_assoc];exact xA u z
 .rw [q2,List.append_assoc];show uY (u++10::([]++10::z))=_;rw [xA,xA,tL,List.nil_append]
 .rw [q3,List.append_assoc];show uY (u++10::([32,32,32]++10::z))=_;rw [xA,xA,rws_3,List.nil_append]
def gB (x:Str):Prop:=∀ z,uY (x.cps.toList++z)=uY x.cps.toList++uY z
theorem zbB {s:Str} (h:s∈(["", "  \n", "\n"]:List Str)):gB s/\sQ s=[]/\s.length<=3:=by
 have q1:("" : Str).cps.toList=[]:=by decide +kernel
 have q2:("  \n" : Str).cps.toList=[32,32,10]:=by decide +kernel
 have q3:("\n" : Str).cps.toList=[10]:=by decide +kernel
 simp only [List.mem_cons,List.not_mem_nil,or_false] at h;rcases h with rfl|rfl|rfl
 .exact ⟨fun z=>by rw [q1];rfl,by unfold sQ;rw [q1];rfl,by decide +kernel⟩
 .refine ⟨fun z=>?_,by unfold sQ;rw [q2];decide +kernel,by decide +kernel⟩;rw [q2];show uY ([32,32]++10::z)=uY ([32,32]++10::[])++uY z;rw [xA,xA,zfQ];rfl
 .refine ⟨fun z=>?_,by unfold sQ;rw [q3];decide +kernel,by decide +kernel⟩;rw [q3];show uY ([]++10::z)=uY ([]++10::[])++uY z;rw [xA,xA];rfl
theorem zg8 {e:Str} (h:e∈(["", "\n", "\n  "]:List Str)) (x:Str):sQ (x++e)=sQ x/\e.length<=3:=by
 have q1:("" : Str).cps.toList=[]:=by decide +kernel
 have q2:("\n" : Str).cps.toList=[10]:=by decide +kernel
 have q3:("\n  " : Str).cps.toList=[10,32,32]:=by decide +kernel
 simp only [List.mem_cons,List.not_mem_nil,or_false] at h;unfold sQ;rw [cpsA];rcases h with rfl|rfl|rfl
 .exact ⟨by rw [q1,List.append_nil],by decide +kernel⟩
 .refine ⟨?_,by decide +kernel⟩;rw [q2,xA,tL,List.append_nil]
 .refine ⟨?_,by decide +kernel⟩;rw [q3];show List.map _ (uY (x.cps.toList++10::[32,32]))=_;rw [xA,zfQ,List.append_nil]
structure RowOk (r:Str):Prop where
 nl:10∉r.cps.toList
 ne:wd r.cps.toList≠[]
 len:r.length<=40
theorem LA.nl {x:Str} (h:LA x):10∉x.cps.toList:=by rcases h with rfl|rfl<;>decide +kernel
theorem OO.nl {x:Str} (h:OO x):10∉x.cps.toList:=by rcases h with rfl|rfl<;>decide +kernel
theorem cC {x:Bk} (ok:x.Ok):x.txt.map cM=x.rows:=by
 obtain ⟨a,b,c,e,f⟩:=x;obtain ⟨ha,hb,hc,he,hf⟩:=ok;dsimp only at ha hb hc he hf
 have r1:cM ("first answers " ++ a ++ " " ++ b)=([("first" : Str), "answers", a,b]:List Str):=by
  rcases ha with rfl|rfl<;>rcases hb with rfl|rfl<;>decide +kernel
 have r2:cM ("first doubts " ++ c)=([("first" : Str), "doubts", c]:List Str):=by rcases hc with rfl|rfl<;>decide +kernel
 have r3:cM ("first speaks " ++ e)=([("first" : Str), "speaks", e]:List Str):=by rcases he with rfl|rfl<;>decide +kernel
 have r4:cM ("other speaks " ++ f)=([("other" : Str), "speaks", f]:List Str):=by rcases hf with rfl|rfl<;>decide +kernel
 simp only [Bk.txt,Bk.rows,zzU,zzV,r1,r2,r3,r4]
theorem bV {x:Bk} (ok:x.Ok):∀ r∈x.txt,RowOk r:=by
 intro r hr;refine ⟨?_,?_,ok.txt r hr⟩
 .have n1:10∉(("first answers " : Str)).cps.toList:=by decide +kernel
  have n2:10∉(("first doubts " : Str)).cps.toList:=by decide +kernel
  have n3:10∉(("first speaks " : Str)).cps.toList:=by decide +kernel
  have n4:10∉(("other speaks " : Str)).cps.toList:=by decide +kernel
  have n5:10∉((" " : Str)).cps.toList:=by decide +kernel
  have a:=ok.a.nl;have b:=ok.b.nl;have c:=ok.c.nl;have e:=ok.e.nl;have f:=ok.f.nl;simp only [Bk.txt,List.mem_cons,List.not_mem_nil,or_false] at hr;rcases hr with rfl|rfl|rfl|rfl<;>simp only [cpsA,List.mem_append,not_or]<;>simp only [n1,n2,n3,n4,n5,a,b,c,e,f,not_false_eq_true,and_self]
 .intro z;have:cM r∈x.rows:=by rw [← cC ok];exact List.mem_map_of_mem hr
  unfold cM at this;rw [z] at this;simp [Bk.rows] at this
theorem zgM {z:Str} (hz:z.length<=3):∀ ps:List Str,(Str.join z ps).length<=3 * (Str.join ⟨#[32]⟩ ps).length
 | []=>Nat.zero_le _
 | [p]=>by simp [Str.join];omega
 |p::q::r=>by
  have ih:=zgM hz (q::r);show (p++z++Str.join z (q::r)).length<=3 * (p++⟨#[32]⟩++Str.join ⟨#[32]⟩ (q::r)).length;rw [strLen_append,strLen_append,strLen_append,strLen_append,show (⟨#[32]⟩:Str).length=1 from rfl];omega
theorem bD {z:Str} (h:z∈([" ", "  ", "   "]:List Str)):∃ n,z=⟨(List.replicate (n+1) 32).toArray⟩/\n<=2:=by
 simp only [List.mem_cons,List.not_mem_nil,or_false] at h;rcases h with rfl|rfl|rfl
 .exact ⟨0,by decide +kernel,by omega⟩
 .exact ⟨1,by decide +kernel,by omega⟩
 .exact ⟨2,by decide +kernel,by omega⟩
theorem zc9 {z:Str} (h:z∈(["", " "]:List Str)):∃ n,z.cps.toList=List.replicate n 32/\z.length<=2:=by
 simp only [List.mem_cons,List.not_mem_nil,or_false] at h;rcases h with rfl|rfl
 .exact ⟨0,by decide +kernel,by decide +kernel⟩
 .exact ⟨1,by decide +kernel,by decide +kernel⟩
theorem zaz {z:Str} (h:z∈(["", "  "]:List Str)):∃ n,z.cps.toList=List.replicate n 32/\z.length<=2:=by
 simp only [List.mem_cons,List.not_mem_nil,or_false] at h;rcases h with rfl|rfl
 .exact ⟨0,by decide +kernel,by decide +kernel⟩
 .exact ⟨2,by decide +kernel,by decide +kernel⟩
theorem zaw {r z:Str} (hz:z∈([" ", "  ", "   "]:List Str)) (h:r.length<=40):(Txt.replace r " " z).length<=120:=by
 obtain ⟨n,rfl,hn⟩:=bD hz;rw [fQ,StrLaws.replace_one];have:=zgM (z:=⟨(List.replicate (n+1) 32).toArray⟩) (by show (List.replicate (n+1) 32).toArray.size<=3;simp;omega) (Txt.split r ⟨#[32]⟩);rw [StrLaws.join_split] at this;omega
theorem piece {r z p q t:Str} (ok:RowOk r) (hz:z∈([" ", "  ", "   "]:List Str)) (hp:p∈(["", " "]:List Str)) (hq:q∈(["", "  "]:List Str)) (ct:gB t) :
  sQ (t++p++Txt.replace r " " z++q)=sQ t++[cM r]/\(t++p++Txt.replace r " " z++q).length<=t.length+130:=by
 obtain ⟨n1,e1,l1⟩:=zc9 hp;obtain ⟨n2,e2,l2⟩:=zaz hq;have l3:=zaw hz ok.len;refine ⟨?_,by simp only [strLen_append];omega⟩;obtain ⟨n,rfl,hn⟩:=bD hz
 have free:10∉p.cps.toList++((Txt.replace r " " ⟨(List.replicate (n+1) 32).toArray⟩).cps.toList++q.cps.toList):=by
  rw [e1,e2,fQ];simp only [List.mem_append,not_or,List.mem_replicate];exact ⟨by omega,zbR ok.nl (by simp [List.mem_replicate]),by omega⟩
 have w:wd (p.cps.toList++((Txt.replace r " " ⟨(List.replicate (n+1) 32).toArray⟩).cps.toList++q.cps.toList))=wd r.cps.toList:=by
  rw [e1,e2,qA,zfi,fQ,zfh]
 unfold sQ;rw [cpsA,cpsA,cpsA,List.append_assoc,List.append_assoc,ct,zbO free,w]
 cases h:(wd r.cps.toList).isEmpty with
 |true=>exact absurd (List.isEmpty_iff.mp h) ok.ne
 |false=>simp [cM]
theorem zbM {s t:Str} (h:s∈(["\n", "\n\n", "\n   \n"]:List Str)):gB (t++s)/\sQ (t++s)=sQ t/\s.length<=5:=by
 refine ⟨fun z=>?_,?_,?_⟩
 .have e:=bX h t.cps.toList [];rw [List.append_nil,tL,List.append_nil] at e;rw [cpsA,bX h,e]
 .have e:=bX h t.cps.toList [];rw [List.append_nil,tL,List.append_nil] at e;unfold sQ;rw [cpsA,e]
 .simp only [List.mem_cons,List.not_mem_nil,or_false] at h;rcases h with rfl|rfl|rfl<;>decide +kernel
structure Fc (G:Hw) (d l:Addr) (fs:List (Addr×O)):Prop where
 dl:qL G d l
 ob:∀ f∈fs,G f.1=some f.2/\f.1∉[d,l]
section
variable {G G' : Hw} {d l : Addr} {fs : List (Addr × O)}
theorem Fc.draw (F:Fc G d l fs) (k:zN [d,l] G G') (D:qL G' d l):Fc G' d l fs:=⟨D,fun f hf=>⟨k _ _ (F.ob f hf).2 (F.ob f hf).1,(F.ob f hf).2⟩⟩
theorem Fc.keep (F:Fc G d l fs) (k:zN [] G G'):Fc G' d l fs:=⟨zhe k F.dl,fun f hf=>⟨k0 k (F.ob f hf).1,(F.ob f hf).2⟩⟩
theorem Fc.new {p:Addr} {o:O} (F:Fc G d l fs) (h:G p=none):Fc (put G p o) d l ((p,o)::fs):=⟨zcR h F.dl,fun f hf=>by
 rcases List.mem_cons.mp hf with rfl|hf
 .exact ⟨zW,zde F.dl h⟩
 .exact ⟨dN h (F.ob f hf).1,(F.ob f hf).2⟩⟩
theorem Fc.add {p:Addr} {o:O} (F:Fc G d l fs) (k:zN [] G G') (h:G p=none) (e:G' p=some o):Fc G' d l ((p,o)::fs):=⟨zhe k F.dl,fun f hf=>by
 rcases List.mem_cons.mp hf with rfl|hf
 .exact ⟨e,zde F.dl h⟩
 .exact ⟨k0 k (F.ob f hf).1,(F.ob f hf).2⟩⟩
theorem Fc.chg {p:Addr} {o o':O} (F:Fc G d l ((p,o)::fs)) (ne:∀ f∈fs,f.1≠p):Fc (put G p o') d l ((p,o')::fs):=⟨ze2 (F.ob _ zzT).2 F.dl,fun f hf=>by
 rcases List.mem_cons.mp hf with rfl|hf
 .exact ⟨zW,(F.ob _ zzT).2⟩
 .rw [yD (ne f hf)];exact F.ob f (List.mem_cons_of_mem _ hf)⟩
theorem Fc.sub {gs:List (Addr×O)} (F:Fc G d l fs) (h:∀ f∈gs,f∈fs):Fc G d l gs:=⟨F.dl,fun f hf=>F.ob f (h f hf)⟩
theorem Fc.at {p:Addr} {o:O} (F:Fc G d l fs) (h:(p,o)∈fs):G p=some o:=(F.ob _ h).1
theorem getI {lits:List Str} {r:Int} (h0:0<=r) (h1:r<lits.length):∃ x∈lits,rC (lits.map W.str) r=some (.str x):=by
 have hi:r.toNat<lits.length:=by omega
 refine ⟨lits[r.toNat],List.getElem_mem hi,?_⟩;unfold rC ixN;rw [if_pos h0,zzM,if_pos h1];simp [hi]
theorem nX {lits:List Str} {r:Addr} {m:Int} {Q:Q3} (F:Fc G d l fs) (hr:(r,O.lst (lits.map .str))∈fs) (hm:m=lits.length) (h0:0<m) (h9:m<10) (q:∀ x∈lits,∀ G',Fc G' d l fs->Q (.str x) G') :
  sW [.ref d,.int m] G (fun y G2=>uX (.ref r) y G2 Q) XN:=by
 refine ⟨d,l,m,rfl,F.dl,by omega,fun i G2 i0 i1 k D=>?_⟩;have F2:=F.draw k D;obtain ⟨x,hx,e⟩:=getI (lits:=lits) i0 (by omega);refine ixL (qG (F2.at hr)) ?_;rw [e];exact q x hx G2 F2
theorem dU {lits:List Str} {m:Int} {Q:Q3} (F:Fc G d l fs) (hm:m=lits.length) (h0:0<m) (h9:m<10) (q:∀ x∈lits,∀ G',Fc G' d l fs->Q (.str x) G') :
  (lits.map W.str).length<=sizeLine/\∀ r,G r=none->sW [.ref d,.int m] (put G r (.lst (lits.map .str))) (fun y G2=>uX (.ref r) y G2 Q) XN :=
 ⟨sz _ (by rw [zzM];omega),fun r hr=>nX (F.new hr) zzT hm h0 h9 fun x hx G' F'=>q x hx G' (F'.sub fun f hf=>List.mem_cons_of_mem _ hf)⟩
end
theorem zdg {α β:Type} {f:α->β}:∀ (l:List α) (i:Nat),(l.map f).eraseIdx i=(l.eraseIdx i).map f
 | [],_=>rfl
 |_::_,0=>rfl
 |x::l,i+1=>congrArg (f x::·) (zdg l i)
theorem za4:∀ (l:List Str) (i:Nat) (y:Str),l[i]?=some y->(y::l.eraseIdx i).Perm l
 | [],_,_,h=>by simp at h
 |x::l,0,y,h=>by
  have e:x=y:=by simpa using h
  subst e;exact .refl _
 |x::l,i+1,y,h=>(List.Perm.swap x y _).trans ((za4 l i y (by simpa using h)).cons x)
theorem zbJ {x:Bk} (ok:x.Ok):sQ x.show=x.rows:=by
 unfold sQ uY Bk.show Txt.join;rw [StrLaws.glued_eq_join,zgq,rM _ (by simp [Bk.txt]) fun p hp=>(bV ok p hp).nl,List.map_map,← cC ok]
 have e:(List.map (wd ∘ fun s:Str=>s.cps.toList) x.txt).filter (fun w=>!w.isEmpty)=List.map (wd ∘ fun s:Str=>s.cps.toList) x.txt:=by
  rw [List.filter_eq_self];intro w hw;obtain ⟨r,hr,rfl⟩:=zzP hw;have:=(bV ok r hr).ne
  cases h:(wd r.cps.toList) with
  |nil=>exact absurd h this
  |cons _ _=>simp [h]
 rw [e,List.map_map];rfl
theorem zbK {x:Bk} (ok:x.Ok):x.show.length<=200:=by
 unfold Bk.show Txt.join;rw [StrLaws.glued_eq_join];have h1:=StrLaws.join_length_le "\n" x.txt;have h2:=StrLaws.sumLen_le x.txt ok.txt;rw [l_n] at h1;have p4:x.txt.length=4:=rfl;omega
theorem dY:∀ ns:List Str,wQ (ns.map W.str)=true
 | []=>rfl
 |x::ns=>by simp [wQ,kD,dY ns]
theorem cR:∀ ns:List Str,qY (ns.map W.str)=0
 | []=>rfl
 |x::ns=>by simp [qY,rN,cR ns]
theorem cX:∀ {a b:List Str},wB (a.map .str) (b.map .str)=decide (a=b)
 | [],[]=>by simp [wB]
 | [],_::_=>by simp [wB]
 |_::_,[]=>by simp [wB]
 |x::a,y::b=>by
  simp only [zzU,wB,vW,cX]
  by_cases h:x=y<;>simp [h]
theorem tJ {G:Hw} {p q:Addr} {a b:List Str} (hp:G p=some (.lst (a.map .str))) (hq:G q=some (.lst (b.map .str))):eqG G (.ref p) (.ref q)=some (decide (a=b)):=by
 simp only [eqG,qG hp,qG hq,dY,cR];rw [if_pos (by simp),cX]
theorem zgr {G:Hw} {d l p:Addr} {fs:List (Addr×O)} {rem:List Str} {Q:Q3} (F:Fc G d l fs) (h:(p,O.lst (rem.map .str))∈fs) (q:∀ G',Fc G' d l fs->Q (.bl (!decide (rem=[]))) G') :
  ([]:List W).length<=sizeLine/\∀ r,G r=none->wZ .NotEq (.ref p) (.ref r) (put G r (.lst [])) Q:=by
 refine ⟨Nat.zero_le _,fun r hr=>?_⟩;have F2:=F.new (o:=.lst []) hr;show (match eqG (put G r (.lst [])) (.ref p) (.ref r) with|some b=>Q (.bl (!b)) (put G r (.lst []))|none=>False);rw [tJ (a:=rem) (b:=[]) (F2.at (List.mem_cons_of_mem _ h)) zW];exact q _ (F2.sub fun f hf=>List.mem_cons_of_mem _ hf)
section
variable {K : zE} {C : Addr}
theorem zen {n:Nat} (hn:18<=n) (kn:Kn K C) {a:W} {ns:List Int} {G:Hw} {Q:Q3} {nx:wU->Hw->Prop} (hs:mV G a ns) (hl:ns.length<=63) (hq:∀ G',Q (.bl true) G') :
  yQ (wX K C n) XN blaw { nx:=nx,rt:=Q } [some a,none,none,none,none,none,none,none,none,none,none,none,none] G:=by
 have e1:(wX K C n).fn[1]?=some eLen:=jS (by omega) rfl;have e3:(wX K C n).fn[3]?=some eLst:=jS (by omega) rfl;have e4:(wX K C n).fn[4]?=some (eIso K):=jS (by omega) rfl;have e6:(wX K C n).fn[6]?=some zhb:=jS (by omega) rfl;have e7:(wX K C n).fn[7]?=some ⟨"Book", mJ C⟩:=jS (by omega) rfl;have e11:(wX K C n).fn[11]?=some ⟨"read_book", mN C⟩:=jS (by omega) rfl;have e12:(wX K C n).fn[12]?=some zha:=jS (by omega) rfl;have e13:(wX K C n).fn[13]?=some ⟨"_law_fields", vP C⟩:=jS (by omega) rfl;have e15:(wX K C n).fn[15]?=some ⟨"same_book", mP C⟩:=jS (by omega) rfl;have e16:(wX K C n).fn[16]?=some ⟨"show_book", mQ C⟩:=jS (by omega) rfl;have e17:(wX K C n).fn[17]?=some ⟨"Book", mK C⟩:=jS (by omega) rfl;have g2:(wX K C n).gl[2]?=some (("Book" : Str),W.ref C):=rfl;have m1:(wX K C n).mt[1]?=some nF:=rfl;have m2:(wX K C n).mt[2]?=some eApp:=rfl;have m4:(wX K C n).mt[4]?=some zcN:=rfl;have x2:(wX K C n).sx[2]?=some ⟨rpxM " " [" ", "  ", "   "],bW " " [" ", "  ", "   "]⟩:=rfl;refine jQ ?_
 ((try dsimp only [zF,zJ,zD,zL,xY,xC,wT,yZ,zO,yY,zM,zS,zC,zA,yS,yT,xD,yP,gZ,gS,tZ,tS]);try simp only [e6])
 refine ⟨a,0,ns,rfl,hs,hl,by decide,fun d l G1 _ _ _ D1=>?_⟩;have F1:Fc G1 d l []:=⟨D1,fun f hf=>nomatch hf⟩;refine jQ ?_
 (try dsimp only [zF,zJ,zD,zL,xY,xC,wT,yZ,zO,yY,zM,zS,zC,zA,yS,yT,xD,yP,gZ,gS,tZ,tS])
 refine ⟨sz _ (by show 2<=3000;decide),fun rc hrc=>?_⟩;have F2:=F1.new (o:=.lst [.str "last", .str "any"]) hrc;generalize put G1 rc _=G2 at F2;refine jQ ?_
 (try dsimp only [zF,zJ,zD,zL,xY,xC,wT,yZ,zO,yY,zM,zS,zC,zA,yS,yT,xD,yP,gZ,gS,tZ,tS])
 refine ⟨sz _ (by show 2<=3000;decide),fun tm htm=>?_⟩;have F3:=F2.new (o:=.lst [.str "once", .str "often"]) htm;generalize put G2 tm _=G3 at F3;refine jQ ?_
 ((try dsimp only [zF,zJ,zD,zL,xY,xC,wT,yZ,zO,yY,zM,zS,zC,zA,yS,yT,xD,yP,gZ,gS,tZ,tS]);try simp only [e12])
 refine nX (lits:=["last", "any"]) F3 (by simp) rfl (by decide) (by decide) fun xa ha G4 F4=>?_;refine nX (lits:=["once", "often"]) F4 (by simp) rfl (by decide) (by decide) fun xb hb G5 F5=>?_;refine nX (lits:=["once", "often"]) F5 (by simp) rfl (by decide) (by decide) fun xc hc G6 F6=>?_;refine ⟨sz _ (by show 3<=3000;decide),fun t3 ht3=>?_⟩;have F7:=F6.new (o:=.lst [.str xa,.str xb,.str xc]) ht3;generalize put G6 t3 _=G7 at F7;refine jQ ?_
 ((try dsimp only [zF,zJ,zD,zL,xY,xC,wT,yZ,zO,yY,zM,zS,zC,zA,yS,yT,xD,yP,gZ,gS,tZ,tS]);try simp only [e12])
 refine nX (lits:=["last", "any"]) F7 (by simp) rfl (by decide) (by decide) fun xe he G8 F8=>?_;refine nX (lits:=["last", "any"]) F8 (by simp) rfl (by decide) (by decide) fun xf hf G9 F9=>?_;refine ⟨sz _ (by show 2<=3000;decide),fun t2 ht2=>?_⟩;have F10:=F9.new (o:=.lst [.str xe,.str xf]) ht2;generalize put G9 t2 _=G10 at F10;simp only [qN,F10.at (p:=t3) (o:=.lst [.str xa,.str xb,.str xc]) (by simp),F10.at (p:=t2) (o:=.lst [.str xe,.str xf]) (by simp)];refine ⟨sz _ (by show 5<=3000;decide),fun tt htt=>?_⟩;generalize hx:(⟨xa,xb,xc,xe,xf⟩:Bk)=x
 have ok:x.Ok:=by
  subst hx;simp only [List.mem_cons,List.not_mem_nil,or_false] at ha hb hc he hf;exact ⟨ha,hb,hc,he,hf⟩
 have F11:=(F10.new (o:=.lst (Bk.ws x)) htt).sub (gs:=[(tt,.lst (Bk.ws x))]) (by simp);have ew:([W.str xa,W.str xb,W.str xc]++[W.str xe,W.str xf])=Bk.ws x:=by rw [← hx];rfl
 rw [ew];generalize put G10 tt _=G11 at F11
 clear ew hx ha hb hc he hf F10 F9 F8 F7 F6 F5 F4 F3 F2 F1 D1 htt ht2 ht3 htm hrc
 have la:=ok.a.len;have lb:=ok.b.len;have lc:=ok.c.len;have le:=ok.e.len;have lf:=ok.f.len;obtain ⟨q0,q1,q2,q3,q4⟩:=at5 (x:=x);have ht:=F11.at (p:=tt) (o:=.lst (Bk.ws x)) (by simp);refine jQ ?_
 ((try dsimp only [zF,zJ,zD,zL,xY,xC,wT,yZ,zO,yY,zM,zS,zC,zA,yS,yT,xD,yP,gZ,gS,tZ,tS]);try simp only [uX,ht,q0,q1,q2,q3,qN])
 refine ⟨sz _ (by rw [dG];omega),sz _ (by simp only [strLen_append,dG,l_1];omega),sz _ (by simp only [strLen_append,dG,l_1];omega),sz _ (by rw [l_fd];omega),sz _ (by rw [l_fs];omega),sz _ (by show 3<=3000;decide),fun ro hro=>?_⟩;have F12:=F11.new (o:=.lst [.str ("first answers " ++ x.a ++ " " ++ x.b),.str ("first doubts " ++ x.c),.str ("first speaks " ++ x.e)]) hro;generalize put G11 ro _=G12 at F12;have ht:=F12.at (p:=tt) (o:=.lst (Bk.ws x)) (by simp);have hr:=F12.at (p:=ro) zzT;refine jQ ?_
 ((try dsimp only [zF,zJ,zD,zL,xY,xC,wT,yZ,zO,yY,zM,zS,zC,zA,yS,yT,xD,yP,gZ,gS,tZ,tS]);try simp only [m2,uX,ht,q4,qN])
 have ntr:tt≠ro:=qD (F11.at (p:=tt) zzT) hro;refine ⟨tyL hr,sz _ (by rw [l_os];omega),appL hr (by show 3<1000;decide) ?_⟩;have F13:Fc (put G12 ro (.lst (x.txt.map .str))) d l [(ro,.lst (x.txt.map .str)),(tt,.lst (Bk.ws x))]:=F12.chg (by simpa using ntr);have er:([W.str ("first answers " ++ x.a ++ " " ++ x.b),.str ("first doubts " ++ x.c),.str ("first speaks " ++ x.e)]++[.str ("other speaks " ++ x.f)])=x.txt.map W.str:=rfl;rw [er];generalize put G12 ro _=G13 at F13;have hr:=F13.at (p:=ro) (o:=.lst (x.txt.map .str)) (by simp);refine jQ ?_
 ((try dsimp only [zF,zJ,zD,zL,xY,xC,wT,yZ,zO,yY,zM,zS,zC,zA,yS,yT,xD,yP,gZ,gS,tZ,tS]);try simp only [e3,lstS,seqL hr])
 intro lf' hlf;have F14:=F13.new (o:=.lst (x.txt.map .str)) hlf;have ne1:∀ f∈[(ro,O.lst (x.txt.map .str)),(tt,O.lst (Bk.ws x))],f.1≠lf':=fun f hf=>qD (F13.ob f hf).1 hlf;generalize put G13 lf' _=G14 at F14;refine jQ ?_
 ((try dsimp only [zF,zJ,zD,zL,xY,xC,wT,yZ,zO,yY,zM,zS,zC,zA,yS,yT,xD,yP,gZ,gS,tZ,tS]);try simp only [e12])
 refine dU (lits:=["", "  \n", "\n"]) F14 rfl (by decide) (by decide) fun t0 h0 G15 F15=>?_;obtain ⟨s1,s2,s3⟩:=zbB h0;refine jQ ?_
 refine ⟨fun m σ G'=>∃ (rem done:List Str) (tx:Str) (n8:Option W),σ=[some a,some (.ref d),some (.ref rc),some (.ref tm),some (.ref tt),some (.ref ro),some (.ref lf'),some (.str tx),n8,none,none,none,none] /\
  Fc G' d l [(lf',.lst (rem.map .str)),(ro,.lst (x.txt.map .str)),(tt,.lst (Bk.ws x))]/\m=rem.length/\(done++rem).Perm x.txt/\sQ tx=done.map cM/\(rem≠[]->gB tx)/\tx.length<=3+140 * done.length,⟨4,x.txt,[],t0,none,rfl,F15,rfl,.refl _,s2,fun _=>s1,by simpa using s3⟩,?_⟩
 rintro m σ G16 ⟨rem,done,tx,n8,rfl,F16,rfl,pm,rw1,cl,tl1⟩
 (try dsimp only [zF,zJ,zD,zL,xY,xC,wT,yZ,zO,yY,zM,zS,zC,zA,yS,yT,xD,yP,gZ,gS,tZ,tS])
 refine zgr F16 zzT fun G17 F17=>?_
 by_cases hre:rem=[]
 .subst hre;simp only [decide_true,Bool.not_true,zzB,if_false]
  clear F16 cl
  rw [List.append_nil] at pm;have dl4:done.length=4:=pm.length_eq;refine jQ ?_
  ((try dsimp only [zF,zJ,zD,zL,xY,xC,wT,yZ,zO,yY,zM,zS,zC,zA,yS,yT,xD,yP,gZ,gS,tZ,tS]);try simp only [e11,e12])
  refine dU (lits:=["", "\n", "\n  "]) F17 rfl (by decide) (by decide) fun en hen G18 F18=>?_;obtain ⟨en1,en2⟩:=zg8 hen tx;refine ⟨sz _ (by omega),tx++en,x,rfl,by rw [strLen_append];omega,ok,?_,fun bk G19 k19 hbk gbk=>?_⟩
  .rw [en1,rw1,← cC ok];exact pm.map cM
  have F19:=F18.add k19 hbk gbk;have ht:=F19.at (p:=tt) (o:=.lst (Bk.ws x)) (by simp);refine jQ ?_
  ((try dsimp only [zF,zJ,zD,zL,xY,xC,wT,yZ,zO,yY,zM,zS,zC,zA,yS,yT,xD,yP,gZ,gS,tZ,tS]);try simp only [uX,ht,q0,q1,q2,q3,q4,e7])
  refine gF (x:=x) fun mk hmk=>?_;have F20:=F19.new (o:=.ins C x.fs) hmk;generalize put G19 mk _=G20 at F20;refine jQ ?_
  ((try dsimp only [zF,zJ,zD,zL,xY,xC,wT,yZ,zO,yY,zM,zS,zC,zA,yS,yT,xD,yP,gZ,gS,tZ,tS]);try simp only [e4,g2])
  refine ⟨C,x.fs,F20.at (by simp),kn.ik,true,kn.bb,?_⟩
  ((try dsimp only [zF,zJ,zD,zL,xY,xC,wT,yZ,zO,yY,zM,zS,zC,zA,yS,yT,xD,yP,gZ,gS,tZ,tS]);try simp only [rA,Bool.not_true,zzB,if_false,e13])
  refine ⟨bk,x,rfl,F20.at (by simp),fun l1 hl1=>?_⟩;have F21:=F20.new (o:=.lst (Bk.ws x)) hl1;generalize put G20 l1 _=G21 at F21;simp only [wZ,tJ (a:=[x.a,x.b,x.c,x.e,x.f]) (b:=[x.a,x.b,x.c,x.e,x.f]) (F21.at (p:=l1) zzT) (F21.at (p:=tt) (o:=.lst (Bk.ws x)) (by simp)),decide_true,Bool.not_true,zzB,if_false];refine ⟨mk,x,rfl,F21.at (by simp),fun l2 hl2=>?_⟩;have F22:=F21.new (o:=.lst (Bk.ws x)) hl2;generalize put G21 l2 _=G22 at F22;simp only [tJ (a:=[x.a,x.b,x.c,x.e,x.f]) (b:=[x.a,x.b,x.c,x.e,x.f]) (F22.at (p:=l2) zzT) (F22.at (p:=tt) (o:=.lst (Bk.ws x)) (by simp)),decide_true,Bool.not_true,zzB,if_false];refine stk K C n (jQ ?_);have ht:=F22.at (p:=tt) (o:=.lst (Bk.ws x)) (by simp)
  ((try dsimp only [zF,zJ,zD,zL,xY,xC,wT,yZ,zO,yY,zM,zS,zC,zA,yS,yT,xD,yP,gZ,gS,tZ,tS]);try simp only [uX,ht,q0,q1,q2,q3,q4,e17])
  refine book4 (x:=⟨x.a,x.b,x.c,x.e, "last"⟩) rfl fun b4 hb4=>?_;have F23:=F22.new (o:=.ins C (Bk.fs ⟨x.a,x.b,x.c,x.e, "last"⟩)) hb4;generalize put G22 b4 _=G23 at F23;simp only [pN,F23.at (p:=b4) zzT,lk_f];refine ⟨xO m_f n,?_⟩
  ((try dsimp only [zF,zJ,zD,zL,xY,xC,wT,yZ,zO,yY,zM,zS,zC,zA,yS,yT,xD,yP,gZ,gS,tZ,tS]);try simp only [wZ,vE,decide_true,Bool.not_true,zzB,if_false,e15])
  refine ⟨bk,mk,x,rfl,F23.at (by simp),F23.at (by simp),?_⟩
  ((try dsimp only [zF,zJ,zD,zL,xY,xC,wT,yZ,zO,yY,zM,zS,zC,zA,yS,yT,xD,yP,gZ,gS,tZ,tS]);try simp only [isR,beq_self_eq_true,Bool.not_true,zzB,if_false,if_true])
  refine stk K C n (jQ ?_);have ht:=F23.at (p:=tt) (o:=.lst (Bk.ws x)) (by simp)
  ((try dsimp only [zF,zJ,zD,zL,xY,xC,wT,yZ,zO,yY,zM,zS,zC,zA,yS,yT,xD,yP,gZ,gS,tZ,tS]);try simp only [uX,ht,q0,q1,q2,q3,q4,e7])
  generalize hy:(⟨x.e,x.c,x.b,x.f,x.a⟩:Bk)=y;have yok:y.Ok:=by subst hy;exact ⟨ok.e,ok.c,ok.b,ok.f,ok.a⟩
  rw [show ([W.str x.e,W.str x.c,W.str x.b,W.str x.f,W.str x.a]:List W)=Bk.ws y by rw [← hy];rfl];refine gF (x:=y) fun ot hot=>?_;have F24:=F23.new (o:=.ins C y.fs) hot;generalize put G23 ot _=G24 at F24;refine jQ ?_;have ht:=F24.at (p:=tt) (o:=.lst (Bk.ws x)) (by simp)
  ((try dsimp only [zF,zJ,zD,zL,xY,xC,wT,yZ,zO,yY,zM,zS,zC,zA,yS,yT,xD,yP,gZ,gS,tZ,tS]);try simp only [uX,ht,q0,q1,q2,q3,q4,qN])
  refine ⟨sz _ (by rw [dG];omega),sz _ (by simp only [strLen_append,dG,l_1];omega),sz _ (by simp only [strLen_append,dG,l_1];omega),sz _ (by rw [l_fd];omega),sz _ (by rw [l_fs];omega),sz _ (by show 3<=3000;decide),fun mo hmo=>?_⟩;have F25:=F24.new (o:=.lst [.str ("first answers " ++ x.e ++ " " ++ x.c),.str ("first doubts " ++ x.b),.str ("first speaks " ++ x.f)]) hmo;generalize put G24 mo _=G25 at F25;have jo:JoinOk "\n" x.txt=true:=zcr ok.txt (by rw [l_n];show 4 * 40+4 * 1<=_;decide);have joy:JoinOk "\n" y.txt=true:=zcr yok.txt (by rw [l_n];show 4 * 40+4 * 1<=_;decide);refine jQ ?_
  ((try dsimp only [zF,zJ,zD,zL,xY,xC,wT,yZ,zO,yY,zM,zS,zC,zA,yS,yT,xD,yP,gZ,gS,tZ,tS]);try simp only [e16,m1])
  refine ⟨bk,x,rfl,F25.at (by simp),ok,fun G26 k26=>?_⟩;have F26:=F25.keep k26;refine ⟨rfl,x.txt,qG (F26.at (by simp)),jo,?_⟩;have exs:Txt.join "\n" x.txt=x.show:=rfl;have eys:Txt.join "\n" y.txt=y.show:=rfl
  ((try dsimp only [zF,zJ,zD,zL,xY,xC,wT,yZ,zO,yY,zM,zS,zC,zA,yS,yT,xD,yP,gZ,gS,tZ,tS]);try simp only [exs,wZ,vE,decide_true,Bool.not_true,zzB,if_false])
  refine ⟨ot,y,rfl,F26.at (by simp),yok,fun G27 k27=>?_⟩;have F27:=F26.keep k27;have ht:=F27.at (p:=tt) (o:=.lst (Bk.ws x)) (by simp);refine ⟨rfl,?_⟩
  ((try dsimp only [zF,zJ,zD,zL,xY,xC,wT,yZ,zO,yY,zM,zS,zC,zA,yS,yT,xD,yP,gZ,gS,tZ,tS]);try simp only [uX,ht,q0,qN])
  refine ⟨sz _ (by rw [l_os];omega),sz _ (by show 1<=3000;decide),fun o1 ho1=>?_⟩;have F28:=F27.new (o:=.lst [.str ("other speaks " ++ x.a)]) ho1;generalize put G27 o1 _=G28 at F28;simp only [F28.at (p:=o1) zzT,F28.at (p:=mo) (o:=.lst [.str ("first answers " ++ x.e ++ " " ++ x.c),.str ("first doubts " ++ x.b),.str ("first speaks " ++ x.f)]) (by simp)];refine ⟨sz _ (by show 4<=3000;decide),fun o2 ho2=>?_⟩;rw [show ([W.str ("first answers " ++ x.e ++ " " ++ x.c),.str ("first doubts " ++ x.b),.str ("first speaks " ++ x.f)]++[.str ("other speaks " ++ x.a)])=y.txt.map W.str by rw [← hy];rfl];have F29:=F28.new (o:=.lst (y.txt.map .str)) ho2;generalize put G28 o2 _=G29 at F29;refine ⟨y.txt,qG (F29.at zzT),joy,?_⟩
  ((try dsimp only [zF,zJ,zD,zL,xY,xC,wT,yZ,zO,yY,zM,zS,zC,zA,yS,yT,xD,yP,gZ,gS,tZ,tS]);try simp only [eys,wZ,vE,decide_true,Bool.not_true,zzB,if_false])
  refine stk K C n (jQ ?_)
  ((try dsimp only [zF,zJ,zD,zL,xY,xC,wT,yZ,zO,yY,zM,zS,zC,zA,yS,yT,xD,yP,gZ,gS,tZ,tS]);try simp only [e16,m1,e13,e11])
  refine ⟨bk,x,rfl,F29.at (by simp),ok,fun G30 k30=>?_⟩;have F30:=F29.keep k30;refine ⟨rfl,x.txt,qG (F30.at (by simp)),jo,?_⟩
  ((try dsimp only [zF,zJ,zD,zL,xY,xC,wT,yZ,zO,yY,zM,zS,zC,zA,yS,yT,xD,yP,gZ,gS,tZ,tS]);try simp only [exs,wZ,vE,decide_true,if_true])
  refine ⟨rfl,x.txt,qG (F30.at (by simp)),jo,x.show,x,rfl,Nat.le_trans (zbK ok) (by decide),ok,by rw [zbJ ok],fun b2 G31 k31 hb2 gb2=>?_⟩;have F31:=F30.add k31 hb2 gb2;refine ⟨b2,x,rfl,F31.at zzT,fun l3 hl3=>?_⟩;have F32:=F31.new (o:=.lst (Bk.ws x)) hl3;generalize put G31 l3 _=G32 at F32;simp only [tJ (a:=[x.a,x.b,x.c,x.e,x.f]) (b:=[x.a,x.b,x.c,x.e,x.f]) (F32.at (p:=l3) zzT) (F32.at (p:=tt) (o:=.lst (Bk.ws x)) (by simp)),decide_true];exact hq _
 .simp only [decide_eq_false hre,Bool.not_false,if_true];have hrl:0<rem.length:=List.length_pos_iff.mpr hre;have pl:=pm.length_eq;have p4:x.txt.length=4:=rfl;rw [zzW,p4] at pl;refine jQ ?_
  ((try dsimp only [zF,zJ,zD,zL,xY,xC,wT,yZ,zO,yY,zM,zS,zC,zA,yS,yT,xD,yP,gZ,gS,tZ,tS]);try simp only [m4,e12,e1,gY,hG,F17.at (p:=lf') (o:=.lst (rem.map .str)) (by simp),x2])
  refine ⟨tyL (F17.at (p:=lf') zzT),⟨d,l,_,rfl,F17.dl,by rw [zzM];omega,fun i G18 i0 i1 k18 D18=>?_⟩⟩;rw [zzM] at i1;have F18:=F17.draw k18 D18;obtain ⟨y,hy⟩:∃ y,rem[i.toNat]?=some y:=⟨_,List.getElem?_eq_getElem (by omega)⟩;refine ⟨lf',rem.map .str,i.toNat,.str y,rfl,by rw [Int.toNat_of_nonneg i0],F18.at zzT,by rw [zzM];omega,by rw [List.getElem?_map,hy];rfl,?_⟩;have F19:Fc (put G18 lf' (.lst ((rem.eraseIdx i.toNat).map .str))) d l [(lf',.lst ((rem.eraseIdx i.toNat).map .str)),(ro,.lst (x.txt.map .str)),(tt,.lst (Bk.ws x))]:=F18.chg ne1;rw [show (rem.map W.str).eraseIdx i.toNat=(rem.eraseIdx i.toNat).map .str from zdg _ _];generalize put G18 lf' _=G19 at F19;refine ⟨d,l,3,rfl,F19.dl,by decide,fun j G20 j0 j1 k20 D20=>?_⟩;have F20:=F19.draw k20 D20;have yin:y∈x.txt:=pm.mem_iff.mp (List.mem_append_right _ (List.mem_of_getElem? hy));have yok:=bV ok y yin;obtain ⟨z,hz⟩:∃ z,([" ", "  ", "   "]:List Str)[j.toNat]?=some z:=⟨_,List.getElem?_eq_getElem (by show j.toNat<3;omega)⟩;have zin:=List.mem_of_getElem? hz
  have zl:z.length<=3:=by
   obtain ⟨n,rfl,hn⟩:=bD zin;show (List.replicate (n+1) 32).toArray.size<=3;simp;omega
  have yl:=yok.len;refine ⟨j.toNat,z,by rw [Int.toNat_of_nonneg j0],hz,?_,?_⟩
  .have:(y.length+1) * z.length<=41 * 3:=Nat.mul_le_mul (by omega) zl;omega
  have rl:=zaw zin yl;refine jQ ?_
  ((try dsimp only [zF,zJ,zD,zL,xY,xC,wT,yZ,zO,yY,zM,zS,zC,zA,yS,yT,xD,yP,gZ,gS,tZ,tS]);try simp only [e12])
  refine dU (lits:=["", " "]) F20 rfl (by decide) (by decide) fun pr hpr G21 F21=>?_;obtain ⟨_,_,prl⟩:=zc9 hpr
  ((try dsimp only [zF,zJ,zD,zL,xY,xC,wT,yZ,zO,yY,zM,zS,zC,zA,yS,yT,xD,yP,gZ,gS,tZ,tS]);try simp only [qN])
  refine ⟨sz _ (by omega),sz _ (by rw [strLen_append];omega),?_⟩;refine dU (lits:=["", "  "]) F21 rfl (by decide) (by decide) fun po hpo G22 F22=>?_;obtain ⟨_,_,pol⟩:=zaz hpo;obtain ⟨pc1,pc2⟩:=piece yok zin hpr hpo (cl hre);refine ⟨sz _ (by rw [strLen_append,strLen_append];omega),?_⟩
  have pm2:((done++[y])++rem.eraseIdx i.toNat).Perm x.txt:=by
   refine List.Perm.trans ?_ pm;rw [List.append_assoc];refine List.Perm.append_left _ ?_;exact za4 _ _ _ hy
  rw [rw1] at pc1;have pc1':sQ (tx++pr++Txt.replace y " " z++po)=(done++[y]).map cM:=by rw [pc1];simp
  generalize tx++pr++Txt.replace y " " z++po=ty at pc1' pc2;have le2:(rem.eraseIdx i.toNat).length<rem.length:=by rw [List.length_eraseIdx];split<;>omega
  generalize rem.eraseIdx i.toNat=rem2 at F22 pm2 le2;refine jQ ?_
  (try dsimp only [zF,zJ,zD,zL,xY,xC,wT,yZ,zO,yY,zM,zS,zC,zA,yS,yT,xD,yP,gZ,gS,tZ,tS])
  refine zgr F22 zzT fun G23 F23=>?_
  by_cases hr2:rem2=[]
  .simp only [decide_eq_true hr2,Bool.not_true,zzB,if_false];exact stk K C n (stk K C n ⟨_,le2,rem2,done++[y],ty,_,rfl,F23,rfl,pm2,pc1',fun z=>absurd hr2 z,by rw [zzW,List.length_singleton];omega⟩)
  .simp only [decide_eq_false hr2,Bool.not_false,if_true];refine jQ ?_
   ((try dsimp only [zF,zJ,zD,zL,xY,xC,wT,yZ,zO,yY,zM,zS,zC,zA,yS,yT,xD,yP,gZ,gS,tZ,tS]);try simp only [e12])
   refine dU (lits:=["\n", "\n\n", "\n   \n"]) F23 rfl (by decide) (by decide) fun sp hsp G24 F24=>?_;obtain ⟨sc,sr,sl⟩:=zbM (t:=ty) hsp;refine ⟨sz _ (by omega),?_⟩;exact stk K C n (stk K C n ⟨_,le2,rem2,done++[y],ty++sp,_,rfl,F24,rfl,pm2,by rw [sr];exact pc1',fun _=>sc,by rw [zzW,List.length_singleton,strLen_append];omega⟩)
end
structure Txt (K:zE) (mg:Str->Option Value) (C fI dT hA:Addr):Prop where
 cl:Cls K C
 nf:∀ f∈wK,qS K C f
 mgC:mg "Book" = some (.ref C)
 mkC:Mk K C fI
 hI:HD K "__init__" "Book.__init__" xX (.ref dT) fI
 dT:∃ o t n,K.lookup dT=some o/\o.data=.seq #[.str "last" t] n
 deal:∃ f,mg "_law_deal" = some (.ref f)/\HD K "_law_deal" "_law_deal" xF .none f
 made:∃ f,mg "made_book" = some (.ref f)/\HD K "made_book" "made_book" xH .none f
 words:∃ f,mg "words_between_blanks" = some (.ref f)/\HD K "words_between_blanks" "words_between_blanks" zP .none f
 fits:∃ f,mg "fits" = some (.ref f)/\HD K "fits" "fits" sU .none f
 read:∃ f,mg "read_book" = some (.ref f)/\HD K "read_book" "read_book" xI .none f
 draw:∃ f,mg "_law_draw" = some (.ref f)/\HD K "_law_draw" "_law_draw" xG .none f
 fields:∃ f,mg "_law_fields" = some (.ref f)/\HD K "_law_fields" "_law_fields" yC .none f
 fof:∃ f,mg "fields_of_first" = some (.ref f)/\HD K "fields_of_first" "fields_of_first" yV .none f
 same:∃ f,mg "same_book" = some (.ref f)/\HD K "same_book" "same_book" xJ .none f
 show_:∃ f,mg "show_book" = some (.ref f)/\HD K "show_book" "show_book" xK .none f
 max:mg "max" = none
 len:mg "len" = none
 all:mg "all" = none
 list:mg "list" = none
 isi:mg "isinstance" = none
 rev:mg "reversed" = none
 zip:mg "zip" = none
 str:mg "str" = none
 enu:mg "enumerate" = none
 mgH:mg "CHOICES" = some (.ref hA)
 chs:∀ H,yA K H (.dcf chK chV) (.ref hA)
 nb:nsIn K cStatics sharingNotToldKey=some none
 kn:Kn K C
def rk (n:Nat):Nat:=2 * n+4
section
variable {q : Pr} {C fI dT hA : Addr}
def Pn (q:Pr) (C:Addr) (n:Nat):Prop:=∀ A,Room (rk n) A->∀ f∈(fnL q.K C).take n,qQ (q.at A) f
theorem goodL (T:Txt q.K q.mg C fI dT hA) {l:List Fn3} {A:Around} (hu:A.units+200<cLine) (h:∀ f∈l,qQ (q.at A) f):L3.Good (GamL C l) (q.at A) :=
 zeF (Γ:=GamL C l) hu h
  (zY (zaZ T.mgH (v:=.ref hA) rfl T.chs) (zY (zeG T.str (by decide +kernel)) (zY (zaZ T.mgC (v:=.ref C) rfl fun _=>rfl) xU)))
  (zY zeO (zY zcK (zY zeV (zY za7 (zY zcI xU)))))
  (zY (zeM T.zip) xU)
  (zY ⟨T.cl,T.nf⟩ xU)
  (zY (zeN T.list T.rev) (zY ⟨sx_em,zcM⟩ (zY ⟨zfD (by decide) T.nb,zav⟩ (zY ⟨mR,kU⟩ (zY ⟨mR,kU⟩ (zY ⟨mR,kU⟩ (zY ⟨mR,kU⟩ xU))))))) (zY ⟨zgP T.enu,za8⟩ xU)
theorem zbv {k:Nat} {A:Around} (hr:Room k A):A.units+200<cLine:=by have:=hr.un;omega
theorem good (T:Txt q.K q.mg C fI dT hA) {n:Nat} (h:Pn q C n):∀ A,Room (rk n) A->L3.Good (wX q.K C n) (q.at A):=fun A hr=>goodL T (zbv hr) (h A hr)
theorem next {n:Nat} {e:Fn3} (h:Pn q C n) (hk:rk n<=rk (n+1)) (he:(fnL q.K C).take (n+1)=(fnL q.K C).take n++[e]) (hx:∀ A,Room (rk (n+1)) A->qQ (q.at A) e):Pn q C (n+1):=fun A hr=>by
 rw [he];exact dA (h A (hr.mono hk)) (hx A hr)
theorem p6 (T:Txt q.K q.mg C fI dT hA):Pn q C 6:=fun A hr=>zY (zeP T.max) (zY (zeR T.len) (zY (zeW T.all) (zY (zeQ T.list) (zY (zeS T.isi) (zY (zcJ T.len) xU)))))
theorem wF {n:Nat} {nm qual:Str} {st:Stmt} {f:Addr} {M:MC} {ps:List Str} {sp:tV} {body:ISs} (T:Txt q.K q.mg C fI dT hA) (h:Pn q C n) (hk:rk n+1<=rk (n+1)) (hm:q.mg nm=some (.ref f)) (hd:HD q.K nm qual st .none f) (S:FnScope M.N ps (zZ st)) (eM:MOk (wX q.K C n) M (zZ st)) (look:uO body M (zQ st)=true)
  (len:∀ ws G Q,sp ws G Q XN->ws.length=ps.length) (hb:∀ ws G Q,sp ws G Q XN->yQ (wX q.K C n) XN body { nx:=fun _ G'=>Q .non G',rt:=Q } (yR M.N ws) G) (mono:cN ⟨nm,sp⟩)
  (hbind:∀ (kV doc pm:Value) (an:Option Addr) (cdv ct:Value) (us:List Value),us.length=ps.length->bindArgs (fnOf nm qual (yO st) (zQ st) (zZ st) .none kV doc pm an cdv ct) ⟨us,[]⟩=pure (ps.zip us))
  (he:(fnL q.K C).take (n+1)=(fnL q.K C).take n++[⟨nm,sp⟩]):Pn q C (n+1):=by
 obtain ⟨fd,F,_⟩:=hd.fd;have FO:=gU F S (good T h) eM look len hb;exact next h (by omega) he fun A hr=>zeT FO hm F.kp (zcV F hbind) mono hr hk
theorem zbm {K:zE} {x qual:Str} {st:Stmt} {T f:Addr} {fd:FuncData} {ps:List Str} {o:Obj} {items:Array Value} {n:Nat} {ds:List Value} (F:FunD K x qual st (.ref T) f fd) (l:K.lookup T=some o) (hd:o.data=.seq items n)
  (h:∀ (kV doc pm:Value) (an:Option Addr) (cdv ct:Value) (us:List Value),(us++ds).length=ps.length->∃ k:Option (Array Value)->Sem (List (Str×Value)),bindArgs (fnOf x qual (yO st) (zQ st) (zZ st) (.ref T) kV doc pm an cdv ct) ⟨us,[]⟩=seqItems? (.ref T) >>= k/\k (some items)=pure (ps.zip (us++ds))):jZ K fd ps ds:=by
 obtain ⟨oc,od,kV,doc,pm,an,cdv,ct,osl,rfl,lk,hcd⟩:=F.ex;intro s us X hl;obtain ⟨k,h1,h2⟩:=h kV doc pm an cdv ct us hl;exact BindsTo.of_defaults rfl (X _ _ l) hd h1 h2
theorem usS {P:List Value->Prop} {n:Nat} (h:∀ a l,l.length=n->P (a::l)) (us:List Value) (e:us.length=n+1):P us:=by
 cases us with
 |nil=>exact absurd e (Nat.succ_ne_zero n).symm
 |cons a l=>exact h a l (Nat.succ.inj e)
theorem us0 {P:List Value->Prop} (h:P []) (us:List Value) (e:us.length=0):P us:=by
 cases us with
 |nil=>exact h
 |cons a l=>exact absurd e (Nat.succ_ne_zero _)
theorem us1 {P:List Value->Prop} (h:∀ a0,P [a0]):∀ us:List Value,us.length=1->P us:=usS (P:=fun l=>P (l)) (fun a0=>us0 (P:=fun l=>P (a0::l)) (h a0))
theorem us2 {P:List Value->Prop} (h:∀ a0 a1,P [a0,a1]):∀ us:List Value,us.length=2->P us:=usS (P:=fun l=>P (l)) (fun a0=>usS (P:=fun l=>P (a0::l)) (fun a1=>us0 (P:=fun l=>P (a0::a1::l)) (h a0 a1)))
theorem us5 {P:List Value->Prop} (h:∀ a0 a1 a2 a3 a4,P [a0,a1,a2,a3,a4]):∀ us:List Value,us.length=5->P us:=usS (P:=fun l=>P (l)) (fun a0=>usS (P:=fun l=>P (a0::l)) (fun a1=>usS (P:=fun l=>P (a0::a1::l)) (fun a2=>usS (P:=fun l=>P (a0::a1::a2::l)) (fun a3=>usS (P:=fun l=>P (a0::a1::a2::a3::l)) (fun a4=>us0 (P:=fun l=>P (a0::a1::a2::a3::a4::l)) (h a0 a1 a2 a3 a4))))))
theorem us6 {P:List Value->Prop} (h:∀ a0 a1 a2 a3 a4 a5,P [a0,a1,a2,a3,a4,a5]):∀ us:List Value,us.length=6->P us:=usS (P:=fun l=>P (l)) (fun a0=>usS (P:=fun l=>P (a0::l)) (fun a1=>usS (P:=fun l=>P (a0::a1::l)) (fun a2=>usS (P:=fun l=>P (a0::a1::a2::l)) (fun a3=>usS (P:=fun l=>P (a0::a1::a2::a3::l)) (fun a4=>usS (P:=fun l=>P (a0::a1::a2::a3::a4::l)) (fun a5=>us0 (P:=fun l=>P (a0::a1::a2::a3::a4::a5::l)) (h a0 a1 a2 a3 a4 a5)))))))
theorem p7 (T:Txt q.K q.mg C fI dT hA):Pn q C 7:=by
 obtain ⟨f,hm,hd⟩:=T.deal
 exact wF (sp:=bZ) (M:=sB) T (p6 T) (by decide) hm hd fD ⟨rfl,rfl,rfl,rfl,rfl,rfl,rfl,rfl⟩ pS
  (fun ws G Q h=>by obtain ⟨a,b,ns,rfl,_⟩:=h;rfl) (fun ws G Q ⟨a,b,ns,e,h1,h2,h3,h4⟩=>by subst e;exact zcQ rfl rfl h1 h2 h3 h4) (fO) (fun _ _ _ _ _ _=>us2 (fun _ _=>rfl)) rfl
theorem uL:∀ ws G (Q Q':Q3),(∀ w G',Q w G'->Q' w G')->kE C ws G Q XN->kE C ws G Q' XN:=fun ws G Q Q' k hh=>by
 obtain ⟨p,x,e,h1,h⟩:=hh;exact ⟨p,x,e,h1,k _ _ h⟩
theorem zg3 (T:Txt q.K q.mg C fI dT hA) {fd:FuncData} (F:FunD q.K "__init__" "Book.__init__" xX (.ref dT) fI fd):FnOk q.prog q.w q.K q.mg q.base CX0 (rk 7+1) fI fd ["self", "answers", "again", "doubts", "speaks", "other"] (jM q.K (kE C)) :=
 gU (sp:=kE C) (M:=sA) F fC (good T (p7 T)) ⟨rfl,rfl,rfl,rfl,rfl,rfl,rfl,rfl⟩ pR (fun ws G Q h=>by obtain ⟨p,x,e,_⟩:=h;rw [e];rfl) (fun ws G Q h=>zcz h)
theorem p8 (T:Txt q.K q.mg C fI dT hA):Pn q C 8:=by
 obtain ⟨fd,F,_⟩:=T.hI.fd;obtain ⟨o,t,m,l,hdt⟩:=T.dT;exact next (p7 T) (by decide) rfl fun A hr=>zeU T.mkC (zg3 T F) T.mgC (zbn F l hdt fun _ _ _ _ _ _=>us6 fun _ _ _ _ _ _=>⟨_,rfl,rfl⟩) uL hr (by decide)
theorem p9 (T:Txt q.K q.mg C fI dT hA):Pn q C 9:=by
 obtain ⟨f,hm,hd⟩:=T.made
 exact wF (sp:=mM C) (M:=sG) T (p8 T) (by decide) hm hd fF ⟨rfl,rfl,rfl,rfl,rfl,rfl,rfl,rfl⟩ pU
  (fun ws G Q h=>by obtain ⟨p,kvs,r1,r2,r3,r4,x,rfl,_⟩:=h;rfl) (fun ws G Q h=>zci (by decide) h) (fun ws G Q Q' E k hh=>by
   obtain ⟨p,kvs,r1,r2,r3,r4,x,h1,h2,h3,h4,h⟩:=hh;exact ⟨p,kvs,r1,r2,r3,r4,x,h1,h2,h3,h4,fun q hq=>k _ _ (h q hq)⟩) (fun _ _ _ _ _ _=>us1 (fun _=>rfl)) rfl
theorem p10 (T:Txt q.K q.mg C fI dT hA):Pn q C 10:=by
 obtain ⟨f,hm,hd⟩:=T.words
 exact wF (sp:=tM) (M:=wW) T (p9 T) (by decide) hm hd jH ⟨rfl,rfl,rfl,rfl,rfl,rfl,rfl,rfl⟩ jU
  (fun ws G Q h=>by obtain ⟨x,rfl,_⟩:=h;rfl) (fun ws G Q h=>zaj h) (fun ws G Q Q' E k hh=>by
   obtain ⟨x,h1,h2,h⟩:=hh;exact ⟨x,h1,h2,h.mono k⟩) (fun _ _ _ _ _ _=>us1 (fun _=>rfl)) rfl
theorem p11 (T:Txt q.K q.mg C fI dT hA):Pn q C 11:=by
 obtain ⟨f,hm,hd⟩:=T.fits
 exact wF (sp:=mL) (M:=zgw) T (p10 T) (by decide) hm hd zfJ ⟨rfl,rfl,rfl,rfl,rfl,rfl,rfl,rfl⟩ zck
  (fun ws G Q h=>by obtain ⟨r,x,ss,_,_,rfl,_⟩:=h;rfl) (fun ws G Q h=>zcE (by decide) h) (fun ws G Q Q' E k hh=>by
   obtain ⟨r,x,ss,h1,h2,h3,h4,h⟩:=hh;exact ⟨r,x,ss,h1,h2,h3,h4,fun  G' y0=>k _ _ (h  G' y0)⟩) (fun _ _ _ _ _ _=>us2 (fun _ _=>rfl)) rfl
theorem p12 (T:Txt q.K q.mg C fI dT hA):Pn q C 12:=by
 obtain ⟨f,hm,hd⟩:=T.read
 exact wF (sp:=mN C) (M:=sI) T (p11 T) (by decide) hm hd fG ⟨rfl,rfl,rfl,rfl,rfl,rfl,rfl,rfl⟩ pV
  (fun ws G Q h=>by obtain ⟨t,x,rfl,_⟩:=h;rfl) (fun ws G Q h=>zbV (by decide) T.kn h) (fun ws G Q Q' E k hh=>by
   obtain ⟨t,x,h1,h2,h3,h4,h⟩:=hh;exact ⟨t,x,h1,h2,h3,h4,fun q G' a b c=>k _ _ (h q G' a b c)⟩) (fun _ _ _ _ _ _=>us1 (fun _=>rfl)) rfl
theorem p13 (T:Txt q.K q.mg C fI dT hA):Pn q C 13:=by
 obtain ⟨f,hm,hd⟩:=T.draw
 exact wF (sp:=sW) (M:=sC) T (p12 T) (by decide) hm hd fE ⟨rfl,rfl,rfl,rfl,rfl,rfl,rfl,rfl⟩ pT
  (fun ws G Q h=>by obtain ⟨a,b,m,rfl,_⟩:=h;rfl) (fun ws G Q ⟨a,b,m,e,h1,h2,h3⟩=>by subst e;exact zcO rfl rfl h1 h2 h3) (fP) (fun _ _ _ _ _ _=>us2 (fun _ _=>rfl)) rfl
theorem p14 (T:Txt q.K q.mg C fI dT hA):Pn q C 14:=by
 obtain ⟨f,hm,hd⟩:=T.fields
 exact wF (sp:=vP C) (M:=vK) T (p13 T) (by decide) hm hd pY ⟨rfl,rfl,rfl,rfl,rfl,rfl,rfl,rfl⟩ tQ
  (fun ws G Q h=>by obtain ⟨p,x,rfl,_⟩:=h;rfl) (fun ws G Q h=>bA h) (fun ws G Q Q' E k hh=>by
   obtain ⟨p,x,h1,h2,h⟩:=hh;exact ⟨p,x,h1,h2,fun r hr=>k _ _ (h r hr)⟩) (fun _ _ _ _ _ _=>us1 (fun _=>rfl)) rfl
theorem p15 (T:Txt q.K q.mg C fI dT hA):Pn q C 15:=by
 obtain ⟨f,hm,hd⟩:=T.fof
 exact wF (sp:=zbG C) (M:=jO) T (p14 T) (by decide) hm hd vN ⟨rfl,rfl,rfl,rfl,rfl,rfl,rfl,rfl⟩ kO
  (fun ws G Q h=>by obtain ⟨p,x,rfl,_⟩:=h;rfl) (fun ws G Q h=>zeJ h) (fun ws G Q Q' E k hh=>by
   obtain ⟨p,x,h1,h2,h⟩:=hh;exact ⟨p,x,h1,h2,k _ _ h⟩) (fun _ _ _ _ _ _=>us1 (fun _=>rfl)) rfl
theorem p16 (T:Txt q.K q.mg C fI dT hA):Pn q C 16:=by
 obtain ⟨f,hm,hd⟩:=T.same
 exact wF (sp:=mP C) (M:=sJ) T (p15 T) (by decide) hm hd fH ⟨rfl,rfl,rfl,rfl,rfl,rfl,rfl,rfl⟩ pW
  (fun ws G Q h=>by obtain ⟨p,q,x,rfl,_⟩:=h;rfl) (fun ws G Q h=>zbN (by decide) h) (fun ws G Q Q' E k hh=>by
   obtain ⟨p,q,x,h1,h2,h3,h⟩:=hh;exact ⟨p,q,x,h1,h2,h3,k _ _ h⟩) (fun _ _ _ _ _ _=>us2 (fun _ _=>rfl)) rfl
theorem p17 (T:Txt q.K q.mg C fI dT hA):Pn q C 17:=by
 obtain ⟨f,hm,hd⟩:=T.show_
 exact wF (sp:=mQ C) (M:=sK) T (p16 T) (by decide) hm hd fJ ⟨rfl,rfl,rfl,rfl,rfl,rfl,rfl,rfl⟩ pX
  (fun ws G Q h=>by obtain ⟨p,x,rfl,_⟩:=h;rfl) (fun ws G Q h=>zbI h) (fun ws G Q Q' E k hh=>by
   obtain ⟨p,x,h1,h2,h3,h⟩:=hh;exact ⟨p,x,h1,h2,h3,fun G' a=>k _ _ (h G' a)⟩) (fun _ _ _ _ _ _=>us1 (fun _=>rfl)) rfl
theorem p18 (T:Txt q.K q.mg C fI dT hA):Pn q C 18:=by
 obtain ⟨fd,F,_⟩:=T.hI.fd;obtain ⟨o,t,m,l,hdt⟩:=T.dT
 exact next (p17 T) (by decide) rfl fun A hr=>⟨zdm (dws:=[.str "last"]) (dvs:=[.str "last"]) (ds:=[.str "last" t]) T.mkC (zg3 T F) T.mgC (zbm F l hdt fun _ _ _ _ _ _ us hl=>by
  have hl':us.length=5:=by simpa using hl
  clear hl
  revert us hl';refine us5 ?_;exact fun _ _ _ _ _=>⟨_,rfl,rfl⟩) (fun H=>⟨_,_,rfl,rfl,rfl⟩) (.cons ⟨_,rfl⟩ .nil) uL (hr.mono (by decide)),
  fun ws G Q Q' E z h p hp=>uL _ _ _ _ (fun w G' y=>⟨y.1,z _ _ y.2⟩) (h p hp)⟩
theorem zeo:(zZ fN).names.lookup ("_law_script" : Str)=some .local:=by decide +kernel
theorem zgD {P:Program} {w:World} {K:zE} {mg:Str->Option Value} (T:Txt K mg C fI dT hA) {f:Addr} (hd:HD K "law" "law" fN .none f):∃ fd:FuncData,(∀ (s:Shared) (u:Value),BindsTo s fd ⟨[u],[]⟩ [("_law_script", u)])/\fd.scope.names.lookup ("_law_script" : Str)=some .local/\∀ base:Heap,FnOk P w K mg base CX0 41 f fd ["_law_script"] (jM K pE):=by
 obtain ⟨fd,F,kV,doc,pm,an,cdv,ct,e⟩:=hd.fd;refine ⟨fd,fun s u=>by subst e;exact .of_eq rfl,by subst e;exact zeo,fun base=>gU (q:=⟨P,w,K,mg,base⟩) (k:=40) (sp:=pE) (M:=mlaw) F sclaw (good (q:=⟨P,w,K,mg,base⟩) T (p18 T)) ⟨rfl,rfl,rfl,rfl,rfl,rfl,rfl,rfl⟩ zej (fun ws G Q h=>by obtain ⟨a,ns,rfl,_⟩:=h;rfl) fun ws G Q h=>?_⟩;obtain ⟨a,ns,rfl,hs,hl,h⟩:=h;exact zen (by decide) T.kn hs hl h
end
theorem all_mk {l:PySem.W.OpenLaw} {w:World} {K:zE} {h:Heap} {mg:Str->Option Value} {fa C fI dT hA f1 f2 f3 f4 f5 f6 f7 f8 f9 f10 f11:Addr} (X:K.In h) (G:h.Ns mainGlobals mg) (hfa:mg "law" = some (.ref fa))
  {od1 an1 od2 an2 od3 an3 od4 an4 od5 an5 od6 an6 od7 an7 od8 an8 od9 an9 od10 an10 od11 an11 odI anI oD:Option Addr} {sl1 sl2 sl3 sl4 sl5 sl6 sl7 sl8 sl9 sl10 sl11 slI sD:Array (Option Value)} {oc1 kV1 dc1 pm1 cd1 ct1 oc2 kV2 dc2 pm2 cd2 ct2 oc3 kV3 dc3 pm3 cd3 ct3 oc4 kV4 dc4 pm4 cd4 ct4 oc5 kV5 dc5 pm5 cd5 ct5 oc6 kV6 dc6 pm6 cd6 ct6 oc7 kV7 dc7 pm7 cd7 ct7 oc8 kV8 dc8 pm8 cd8 ct8 oc9 kV9 dc9 pm9 cd9 ct9 oc10 kV10 dc10 pm10 cd10 ct10 oc11 kV11 dc11 pm11 cd11 ct11 ocI kVI dcI pmI cdI ctI cD:Value} {tD:Tok} {nD:Nat} {t1 t2 t3 t4 t5 t6 t7 t8 t9:Addr} {oT1 oT2 oT3 oT4 oT5 oT6 oT7 oT8 oT9:Option Addr} {sT1 sT2 sT3 sT4 sT5 sT6 sT7 sT8 sT9:Array (Option Value)} {nT1 nT2 nT3 nT4 nT5 nT6 nT7 nT8 nT9 nH:Nat} {v1 v2 v3 v4 v5 v6 v7 v8 v9 v10 tk1 tk2 tk3 tk4:Tok} {hs1 hs2 hs3 hs4:Int}
  (a1:nsIn K mainGlobals "_law_deal" = some (some (.ref f1))) (l1:K.lookup f1=some ⟨oc1,od1,.func (fnOf "_law_deal" "_law_deal" (yO xF) (zQ xF) (zZ xF) .none kV1 dc1 pm1 an1 cd1 ct1),sl1⟩) (c1:codeIn K cd1 "_law_deal" = true) (k1:keepIn K (.ref f1)=true)
  (a2:nsIn K mainGlobals "made_book" = some (some (.ref f2))) (l2:K.lookup f2=some ⟨oc2,od2,.func (fnOf "made_book" "made_book" (yO xH) (zQ xH) (zZ xH) .none kV2 dc2 pm2 an2 cd2 ct2),sl2⟩) (c2:codeIn K cd2 "made_book" = true) (k2:keepIn K (.ref f2)=true)
  (a3:nsIn K mainGlobals "words_between_blanks" = some (some (.ref f3))) (l3:K.lookup f3=some ⟨oc3,od3,.func (fnOf "words_between_blanks" "words_between_blanks" (yO zP) (zQ zP) (zZ zP) .none kV3 dc3 pm3 an3 cd3 ct3),sl3⟩) (c3:codeIn K cd3 "words_between_blanks" = true) (k3:keepIn K (.ref f3)=true)
  (a4:nsIn K mainGlobals "fits" = some (some (.ref f4))) (l4:K.lookup f4=some ⟨oc4,od4,.func (fnOf "fits" "fits" (yO sU) (zQ sU) (zZ sU) .none kV4 dc4 pm4 an4 cd4 ct4),sl4⟩) (c4:codeIn K cd4 "fits" = true) (k4:keepIn K (.ref f4)=true)
  (a5:nsIn K mainGlobals "read_book" = some (some (.ref f5))) (l5:K.lookup f5=some ⟨oc5,od5,.func (fnOf "read_book" "read_book" (yO xI) (zQ xI) (zZ xI) .none kV5 dc5 pm5 an5 cd5 ct5),sl5⟩) (c5:codeIn K cd5 "read_book" = true) (k5:keepIn K (.ref f5)=true)
  (a6:nsIn K mainGlobals "_law_draw" = some (some (.ref f6))) (l6:K.lookup f6=some ⟨oc6,od6,.func (fnOf "_law_draw" "_law_draw" (yO xG) (zQ xG) (zZ xG) .none kV6 dc6 pm6 an6 cd6 ct6),sl6⟩) (c6:codeIn K cd6 "_law_draw" = true) (k6:keepIn K (.ref f6)=true)
  (a7:nsIn K mainGlobals "_law_fields" = some (some (.ref f7))) (l7:K.lookup f7=some ⟨oc7,od7,.func (fnOf "_law_fields" "_law_fields" (yO yC) (zQ yC) (zZ yC) .none kV7 dc7 pm7 an7 cd7 ct7),sl7⟩) (c7:codeIn K cd7 "_law_fields" = true) (k7:keepIn K (.ref f7)=true)
  (a8:nsIn K mainGlobals "fields_of_first" = some (some (.ref f8))) (l8:K.lookup f8=some ⟨oc8,od8,.func (fnOf "fields_of_first" "fields_of_first" (yO yV) (zQ yV) (zZ yV) .none kV8 dc8 pm8 an8 cd8 ct8),sl8⟩) (c8:codeIn K cd8 "fields_of_first" = true) (k8:keepIn K (.ref f8)=true)
  (a9:nsIn K mainGlobals "same_book" = some (some (.ref f9))) (l9:K.lookup f9=some ⟨oc9,od9,.func (fnOf "same_book" "same_book" (yO xJ) (zQ xJ) (zZ xJ) .none kV9 dc9 pm9 an9 cd9 ct9),sl9⟩) (c9:codeIn K cd9 "same_book" = true) (k9:keepIn K (.ref f9)=true)
  (a10:nsIn K mainGlobals "show_book" = some (some (.ref f10))) (l10:K.lookup f10=some ⟨oc10,od10,.func (fnOf "show_book" "show_book" (yO xK) (zQ xK) (zZ xK) .none kV10 dc10 pm10 an10 cd10 ct10),sl10⟩) (c10:codeIn K cd10 "show_book" = true) (k10:keepIn K (.ref f10)=true)
  (a11:nsIn K mainGlobals "law" = some (some (.ref f11))) (l11:K.lookup f11=some ⟨oc11,od11,.func (fnOf "law" "law" (yO fN) (zQ fN) (zZ fN) .none kV11 dc11 pm11 an11 cd11 ct11),sl11⟩) (c11:codeIn K cd11 "law" = true) (k11:keepIn K (.ref f11)=true)
  (z0:nsIn K mainGlobals "max" = some none)
  (z1:nsIn K mainGlobals "len" = some none)
  (z2:nsIn K mainGlobals "all" = some none)
  (z3:nsIn K mainGlobals "list" = some none)
  (z4:nsIn K mainGlobals "isinstance" = some none)
  (z5:nsIn K mainGlobals "reversed" = some none)
  (z6:nsIn K mainGlobals "zip" = some none)
  (z7:nsIn K mainGlobals "str" = some none)
  (z8:nsIn K mainGlobals "enumerate" = some none)
  (aC:nsIn K mainGlobals "Book" = some (some (.ref C))) (aI:findIn K (.ref C) "__init__" = some (some (.ref fI))) (iI:PySem.W.isFn K (.ref fI)=true)
  (lI:K.lookup fI=some ⟨ocI,odI,.func (fnOf "__init__" "Book.__init__" (yO xX) (zQ xX) (zZ xX) (.ref dT) kVI dcI pmI anI cdI ctI),slI⟩) (cI:codeIn K cdI "Book.__init__" = true) (kI:keepIn K (.ref fI)=true)
  (lD:K.lookup dT=some ⟨cD,oD,.seq #[.str "last" tD] nD,sD⟩)
  (pg:PySem.W.plainGet K C Str.empty=true) (hdi:PySem.W.hasDictIn K C=true) (po:PySem.W.plainOver K C=true) (sa:findIn K (.ref C) "__setattr__" = some (some (.builtin "object.__setattr__"))) (mk:PySem.W.makesIn K C=true) (kC:keepIn K (.ref C)=true)
  (n1:findIn K (.ref C) "answers" = some none) (n2:findIn K (.ref C) "again" = some none) (n3:findIn K (.ref C) "doubts" = some none) (n4:findIn K (.ref C) "speaks" = some none) (n5:findIn K (.ref C) "other" = some none)
  (aH:nsIn K mainGlobals "CHOICES" = some (some (.ref hA)))
  (lH:K.lookup hA=some ⟨.type "dict", none,.dict #[⟨hs1,.str "first answers" tk1,.ref t1⟩,⟨hs2,.str "first doubts" tk2,.ref t2⟩,⟨hs3,.str "first speaks" tk3,.ref t3⟩,⟨hs4,.str "other speaks" tk4,.ref t4⟩] nH,#[]⟩)
  (lT1:K.lookup t1=some ⟨.type "tuple", oT1,.seq #[.ref t5,.ref t6] nT1,sT1⟩)
  (lT2:K.lookup t2=some ⟨.type "tuple", oT2,.seq #[.ref t7] nT2,sT2⟩)
  (lT3:K.lookup t3=some ⟨.type "tuple", oT3,.seq #[.ref t8] nT3,sT3⟩)
  (lT4:K.lookup t4=some ⟨.type "tuple", oT4,.seq #[.ref t9] nT4,sT4⟩)
  (lT5:K.lookup t5=some ⟨.type "tuple", oT5,.seq #[.str "last" v1,.str "any" v2] nT5,sT5⟩)
  (lT6:K.lookup t6=some ⟨.type "tuple", oT6,.seq #[.str "once" v3,.str "often" v4] nT6,sT6⟩)
  (lT7:K.lookup t7=some ⟨.type "tuple", oT7,.seq #[.str "once" v5,.str "often" v6] nT7,sT7⟩)
  (lT8:K.lookup t8=some ⟨.type "tuple", oT8,.seq #[.str "last" v7,.str "any" v8] nT8,sT8⟩)
  (lT9:K.lookup t9=some ⟨.type "tuple", oT9,.seq #[.str "last" v9,.str "any" v10] nT9,sT9⟩)
  (nb:nsIn K cStatics sharingNotToldKey=some none)
  (jC:findIn K (.ref C) "__class__" = some (some (.builtin "object.__class__")))
  (xg:PySem.W.specialIn K (.builtin "object.__class__") "__get__" = some (some (.builtin "getset_descriptor.__get__")))
  (xt:PySem.W.takesIn K (.builtin "object.__class__")=some true)
  (mO:PySem.W.mroIn K C (.type "object")=some true)
  (hw:(hA==sysModules)=false) :
  ∃ fd:FuncData,(∀ (s:Shared) (u:Value),BindsTo s fd ⟨[u],[]⟩ [("_law_script", u)])/\fd.scope.names.lookup ("_law_script" : Str)=some .local/\∀ base:Heap,K.In base->base.Ns mainGlobals mg->FnOk l.prog w K mg base CX0 41 fa fd ["_law_script"] (jM K pE):=by
 have e:=hfa.symm.trans (mg_of X G a11);cases e;have sz0:∀ k:Nat,k<=5->k<=sizeLine:=fun k hk=>by rw [sizeLine_eq];omega
 have r5:∀ H,yA K H (.tup [.str "last", .str "any"]) (.ref t5):=wM (vs:=[.str "last", .str "any"]) lT5 rfl rfl (sz0 2 (by decide)) (.cons ⟨_,rfl⟩ (.cons ⟨_,rfl⟩ .nil)) fun H=>⟨_,_,rfl,rfl,_,_,rfl,rfl,rfl⟩;have r6:∀ H,yA K H (.tup [.str "once", .str "often"]) (.ref t6):=wM (vs:=[.str "once", .str "often"]) lT6 rfl rfl (sz0 2 (by decide)) (.cons ⟨_,rfl⟩ (.cons ⟨_,rfl⟩ .nil)) fun H=>⟨_,_,rfl,rfl,_,_,rfl,rfl,rfl⟩;have r7:∀ H,yA K H (.tup [.str "once", .str "often"]) (.ref t7):=wM (vs:=[.str "once", .str "often"]) lT7 rfl rfl (sz0 2 (by decide)) (.cons ⟨_,rfl⟩ (.cons ⟨_,rfl⟩ .nil)) fun H=>⟨_,_,rfl,rfl,_,_,rfl,rfl,rfl⟩;have r8:∀ H,yA K H (.tup [.str "last", .str "any"]) (.ref t8):=wM (vs:=[.str "last", .str "any"]) lT8 rfl rfl (sz0 2 (by decide)) (.cons ⟨_,rfl⟩ (.cons ⟨_,rfl⟩ .nil)) fun H=>⟨_,_,rfl,rfl,_,_,rfl,rfl,rfl⟩;have r9:∀ H,yA K H (.tup [.str "last", .str "any"]) (.ref t9):=wM (vs:=[.str "last", .str "any"]) lT9 rfl rfl (sz0 2 (by decide)) (.cons ⟨_,rfl⟩ (.cons ⟨_,rfl⟩ .nil)) fun H=>⟨_,_,rfl,rfl,_,_,rfl,rfl,rfl⟩;have r1:∀ H,yA K H (.tup [la,oo]) (.ref t1):=wM (vs:=[.ref t5,.ref t6]) lT1 rfl rfl (sz0 2 (by decide)) (.cons rfl (.cons rfl .nil)) fun H=>⟨_,_,rfl,r5 H,_,_,rfl,r6 H,rfl⟩;have r2:∀ H,yA K H (.tup [oo]) (.ref t2):=wM (vs:=[.ref t7]) lT2 rfl rfl (sz0 1 (by decide)) (.cons rfl .nil) fun H=>⟨_,_,rfl,r7 H,rfl⟩;have r3:∀ H,yA K H (.tup [la]) (.ref t3):=wM (vs:=[.ref t8]) lT3 rfl rfl (sz0 1 (by decide)) (.cons rfl .nil) fun H=>⟨_,_,rfl,r8 H,rfl⟩;have r4:∀ H,yA K H (.tup [la]) (.ref t4):=wM (vs:=[.ref t9]) lT4 rfl rfl (sz0 1 (by decide)) (.cons rfl .nil) fun H=>⟨_,_,rfl,r9 H,rfl⟩
 have T:Txt K mg C fI dT hA:={
  cl:=⟨pg,hdi,po,sa⟩
  nf:=(zY n1 (zY n2 (zY n3 (zY n4 (zY n5 xU)))))
  mgC:=mg_of X G aC
  mkC:=⟨mk,aI,iI,kC⟩
  hI:=HD.mk' lI cI kI
  dT:=⟨_,tD,nD,lD,rfl⟩
  deal:=⟨f1,mg_of X G a1,HD.mk' l1 c1 k1⟩
  made:=⟨f2,mg_of X G a2,HD.mk' l2 c2 k2⟩
  words:=⟨f3,mg_of X G a3,HD.mk' l3 c3 k3⟩
  fits:=⟨f4,mg_of X G a4,HD.mk' l4 c4 k4⟩
  read:=⟨f5,mg_of X G a5,HD.mk' l5 c5 k5⟩
  draw:=⟨f6,mg_of X G a6,HD.mk' l6 c6 k6⟩
  fields:=⟨f7,mg_of X G a7,HD.mk' l7 c7 k7⟩
  fof:=⟨f8,mg_of X G a8,HD.mk' l8 c8 k8⟩
  same:=⟨f9,mg_of X G a9,HD.mk' l9 c9 k9⟩
  show_:=⟨f10,mg_of X G a10,HD.mk' l10 c10 k10⟩
  max:=mg_none_of X G z0
  len:=mg_none_of X G z1
  all:=mg_none_of X G z2
  list:=mg_none_of X G z3
  isi:=mg_none_of X G z4
  rev:=mg_none_of X G z5
  zip:=mg_none_of X G z6
  str:=mg_none_of X G z7
  enu:=mg_none_of X G z8
  mgH:=mg_of X G aH
  chs:=fun H=>⟨hA,[.ref t1,.ref t2,.ref t3,.ref t4],rfl,⟨_,_,_,lH,⟨rfl,rfl,rfl⟩,rfl,sz0 4 (by decide),hw,⟨"first answers", tk1,.ref t1,_,_,rfl,rfl,rfl,rfl,⟨"first doubts", tk2,.ref t2,_,_,rfl,rfl,rfl,rfl,⟨"first speaks", tk3,.ref t3,_,_,rfl,rfl,rfl,rfl,⟨"other speaks", tk4,.ref t4,_,_,rfl,rfl,rfl,rfl,⟨rfl,rfl⟩⟩⟩⟩⟩⟩,⟨_,_,rfl,r1 H,⟨_,_,rfl,r2 H,⟨_,_,rfl,r3 H,⟨_,_,rfl,r4 H,rfl⟩⟩⟩⟩⟩
  nb:=nb
  kn:=⟨rfl,by unfold PySem.W.kitOne;rw [if_pos (beq_self_eq_true _)],⟨⟨pg,hdi,po,sa⟩,jC,xg,xt,mO⟩⟩ }
 obtain ⟨fd,hb,hx,hF⟩:=zgD (P:=l.prog) (w:=w) T (HD.mk' l11 c11 k11);exact ⟨fd,hb,hx,fun base _ _=>hF base⟩
end K16
namespace PySem.W.Fast
def tw7670280080103232700:=0
def tw1299772854878168932:=0
def tw3995092596330277185:=0
def tw5816610464347232577:=0
def tw4093174876883254753:=0
def tw2912163430412506686:=0
def tw16973429847492741724:=0
def tw2052900632237106130:=0
def tw88848809709905730:=0
def tw4569011061131031961:=0
def tw9117246591724791038:=0
def tw551161908432914865:=0
def tw4209299612619767814:=0
def tw5250830382584789451:=0
def tw8795321009267874045:=0
def tw11371378604715336655:=0
def tw15644018624845941102:=0
def tw6736582571756129447:=0
def tw5785997258446914031:=0
def tw11605878656237420196:=0
def tw13658723246386255524:=0
def tw4341590388482740992:=0
def tw7741778175629053828:=0
def tw14192535631414771417:=0
def tw4782074074748160480:=0
def tw13214746012425715877:=0
def tw11900218773551886565:=0
def tw14220624594579871257:=0
def tw18339855358183525238:=0
def tw14323525127625466497:=0
def tw13966580251752756792:=0
def tw5061476465056160123:=0
def tw6382617589408182686:=0
def tw5398631301277332925:=0
def tw17095403803078122295:=0
def tw14527021673521856680:=0
def tw1066660439074639159:=0
def tw5177963104634960816:=0
def tw6432689347446695252:=0
def tw18199476083429357128:=0
def tw15645593067510875074:=0
def tw17925305639452425684:=0
def tw7577925262154090800:=0
def tw11516783729459817192:=0
def tw13898510330703178681:=0
def tw16654025531575394304:=0
def tw5607433839101994496:=0
def tw9782515269530841252:=0
def tw5931404957264500739:=0
def tw16239756366497556014:=0
def tw15141808016917143036:=0
def tw4139869728478218952:=0
def tw10523276175722546929:=0
def tw16805264039382331149:=0
def tw16103009670936345042:=0
def tw67775317366417313:=0
def tw7429402390170133706:=0
def tw12653635884297703863:=0
def tw7383820638683757929:=0
def tw14503858997340877645:=0
def tw16521975863481756966:=0
def tw12238655647215055120:=0
def tw8526293147232424978:=0
def tw286129363572764732:=0
def tw17382436364185756735:=0
def tw856199416819612573:=0
def tw6098407453045265898:=0
def tw6161663765276083007:=0
def tw9608298247482501161:=0
def tw4590312490194711107:=0
def tw10851192899729795636:=0
def tw13858135240680948944:=0
def tw5800039174029575747:=0
def tw12925877609454626410:=0
def tw13327276218450279829:=0
def tw227338824095235620:=0
def tw14121439132227319851:=0
def tw9630537375264571898:=0
def tw2584482550243497079:=0
def tw15160549114890831794:=0
def tw1147682221235028793:=0
def tw6574493134491994220:=0
def tw17904891676640175504:=0
def tw6984425050760731626:=0
def tw4593929599024989491:=0
def tw1946153484210703448:=0
def tw5081493590051280951:=0
def tw9180534045464192428:=0
def tw8673217856609586481:=0
def tw17113550056442509394:=0
def tw17703972924212104715:=0
def tw14605711668676409020:=0
def tw18160588981873045190:=0
def tw17350923900946843117:=0
def tw442031995261870908:=0
def tw6992232458769453255:=0
def tw10503013004130130476:=0
def tw7573270330479101257:=0
def tw14927345307624632970:=0
def tw4401592310660312353:=0
def tw246230533139950732:=0
def tw1657643738074227008:=0
def tw9619193233031476650:=0
def tw16970694747161304967:=0
def tw10180285115436474803:=0
def tw5500745837364895223:=0
def tw2407574057752756492:=0
def tw3454585718483504169:=0
def tw2302137940199317169:=0
def tw12564719917068013486:=0
def tw10002549600295411959:=0
def tw3878899229116884817:=0
def tw2941806156225309149:=0
def tw1763798282589077209:=0
def tw9440515570182168653:=0
def tw9308869290165472426:=0
def tw898131907217297266:=0
def tw8437351821525517782:=0
def tw6660447323316329585:=0
def tw6585068121575330239:=0
end PySem.W.Fast
open PySem PySem.W PyProof.Rows
set_option maxRecDepth 100000 in
set_option maxHeartbeats 0 in
theorem PySem.Challenge.cw_talkcourt_k16_books_read_holds : PySem.Challenge.rw_talkcourt_k16_books_read.Holds := by
 w_on;o_law;k_head;(case hw=>w_witness2)
 k_fill
 refine L3.walk3 (l:=PySem.Challenge.rw_talkcourt_k16_books_read) (k:=41) rfl rfl ⟨rfl,rfl,by decide,by decide⟩ (fun w h Y=>PySem.W.kIn_of Y) ?F
 case F =>
  intro w mg fa h KX G hmg;refine' K16.all_mk KX G hmg ?a1 ?l1 ?c1 ?k1 ?a2 ?l2 ?c2 ?k2 ?a3 ?l3 ?c3 ?k3 ?a4 ?l4 ?c4 ?k4 ?a5 ?l5 ?c5 ?k5 ?a6 ?l6 ?c6 ?k6 ?a7 ?l7 ?c7 ?k7 ?a8 ?l8 ?c8 ?k8 ?a9 ?l9 ?c9 ?k9 ?a10 ?l10 ?c10 ?k10 ?a11 ?l11 ?c11 ?k11 ?z0 ?z1 ?z2 ?z3 ?z4 ?z5 ?z6 ?z7 ?z8 ?aC ?aI ?iI ?lI ?cI ?kI ?lD ?pg ?hdi ?po ?sa ?mk ?kC ?n1 ?n2 ?n3 ?n4 ?n5 ?aH ?lH ?lT1 ?lT2 ?lT3 ?lT4 ?lT5 ?lT6 ?lT7 ?lT8 ?lT9 ?nb ?jC ?xg ?xt ?mO ?hw
  case a1|l1|c1|k1|a2|l2|c2|k2|a3|l3|c3|k3|a4|l4|c4|k4|a5|l5|c5|k5|a6|l6|c6|k6|a7|l7|c7|k7|a8|l8|c8|k8|a9|l9|c9|k9|a10|l10|c10|k10|a11|l11|c11|k11|z0|z1|z2|z3|z4|z5|z6|z7|z8|aC|aI|iI|lI|cI|kI|lD|pg|hdi|po|sa|mk|kC|n1|n2|n3|n4|n5|aH|lH|lT1|lT2|lT3|lT4|lT5|lT6|lT7|lT8|lT9|nb|jC|xg|xt|mO=>k_is
  case hw=>first|k_is|decide|rfl
