import PyProof.Rows.All
import Wide.All
import OpenK.AllK
import Wide.FinOn
import Lean
import PyProof.EqAt
import PyProof.EqKinds
import PyProof.TupleCall
import PySem.Challenge.RW_talkcourt_k14_texts_without_a_saying
set_option Elab.async false
set_option linter.all false
set_option maxRecDepth 100000
set_option maxHeartbeats 8000000
theorem zzN:¬ (false=true):=Bool.false_ne_true
theorem zzB:(false=true)=False:=Bool.false_eq_true
theorem zzC {α:Type _} {a:α} {l:List α}:(a::l).length=l.length+1:=rfl
theorem zzL {α:Type _}:([]:List α).length=0:=rfl
theorem zzA (n:Nat):0+n=n:=Nat.zero_add n
theorem zzM {α β:Type _} {l:List α} {f:α->β}:(l.map f).length=l.length:=List.length_map f
theorem zzP {α β:Type _} {b:β} {l:List α} {f:α->β} (h:b∈l.map f):∃ a,a∈l/\f a=b:=List.mem_map.mp h
theorem zzS {α:Type _} {l:List α}:l.toArray.size=l.length:=List.size_toArray
theorem zzR (n:Nat):n<=n:=Nat.le_refl n
theorem zzO {α:Type _} {a b:α} (h:a∈[b]):a=b:=List.mem_singleton.mp h
theorem zzT {α:Type _} {a:α} {l:List α}:a∈a::l:=List.mem_cons_self
theorem zzU {α β:Type _} {a:α} {l:List α} {f:α->β}:(a::l).map f=f a::l.map f:=rfl
theorem zzV {α β:Type _} {f:α->β}:([]:List α).map f=[]:=rfl
theorem zzW {α:Type _} {l l':List α}:(l++l').length=l.length+l'.length:=List.length_append
noncomputable section
namespace L2
open PySem
theorem zap {M:Model} {Γ:Ctx} {p:Pos} {t:Sem Fin} {fs:List Frame} {s s':Shared} {e:End} (h:Runs M Γ p t fs s e s'):s.toks<=s'.toks:=by
 induction h<;>(try simp only [Shared.setGen] at *)<;>omega
theorem zdP {M:Model} {Γ:Ctx} {p:Pos} {g:Nat} {r:Resume} {s s':Shared} {res:GenResult} (h:Wakes M Γ p g r s res s'):s.toks<=s'.toks:=by
 unfold Wakes at h
 split at h
 .exact h.elim
 .split at h
  .obtain ⟨e,s1,h,_,_,rfl⟩:=h;have:=zap h;exact this
  .rw [h.2];exact zzR _
  .rw [h.2];exact zzR _
 .obtain ⟨e,s1,h,_,_,rfl⟩:=h;have:=zap h;exact this
 .rw [h.2];exact zzR _
 .rw [h.2];exact zzR _
theorem wp_up {α:Type} {M:Model} {Γ:Ctx} {n:Nat}:∀ (t:Sem α) (Q:α->Pos->Shared->Prop) (E:Value->Pos->Shared->Prop) (p:Pos) (s:Shared),n<=s.toks ->
  Sem.wp M Γ t (fun a p' s'=>n<=s'.toks->Q a p' s') (fun e p' s'=>n<=s'.toks->E e p' s') p s->Sem.wp M Γ t Q E p s:=by
 intro t
 induction t with
 |pure a=>intro Q E p s h z;rw [Sem.wp] at z ⊢;exact z h
 |raise e=>intro Q E p s h z;rw [Sem.wp] at z ⊢;exact z h
 |unsupported _=>intro Q E p s h z;rw [Sem.wp] at z;exact z.elim
 |finish _=>intro Q E p s h z;rw [Sem.wp] at z;exact z.elim
 |register _ _ _=>intro Q E p s h z;rw [Sem.wp] at z;exact z.elim
 | «yield» _ _ _ _ _=>intro Q E p s h z;rw [Sem.wp] at z;exact z.elim
 |load a part k ih=>intro Q E p s h z;rw [Sem.wp] at z ⊢;obtain ⟨o,e,z⟩:=z;exact ⟨o,e,ih o Q E p s h z⟩
 |update a part f k ih=>intro Q E p s h z;rw [Sem.wp] at z ⊢;exact ⟨z.1,ih () Q E p _ h z.2⟩
 |fresh k ih=>intro Q E p s h z;rw [Sem.wp] at z ⊢;exact ih _ Q E p _ (Nat.le_succ_of_le h) z
 |choose src m k ih=>intro Q E p s h z;rw [Sem.wp] at z ⊢;exact ⟨z.1,ih _ Q E p _ h z.2⟩
 |genState g k ih=>intro Q E p s h z;rw [Sem.wp] at z ⊢;obtain ⟨st,e,z⟩:=z;exact ⟨st,e,ih _ Q E p s h z⟩
 |resume g r l k ih=>intro Q E p s h z;rw [Sem.wp] at z ⊢;obtain ⟨res,s',w,z⟩:=z;exact ⟨res,s',w,ih _ Q E p s' (Nat.le_trans h (zdP w)) z⟩
 |call c hd g l k ih=>intro Q E p s h z;rw [Sem.wp] at z ⊢;obtain ⟨r,s',w,z⟩:=z;exact ⟨r,s',w,ih _ Q E p s' (Nat.le_trans h (zap w)) z⟩
 |_=>first|(intro Q E p s h z;rw [Sem.wp] at z;exact z.elim)|(rename_i ih;intro Q E p s h z;rw [Sem.wp] at z ⊢;exact ih _ Q E _ _ h z)
theorem jO {α:Type} {M:Model} {A:Around} {t:Sem α} {Q:α->Shared->Prop} {E:Value->Shared->Prop} {s:Shared} (h:0<s.toks) (w:wpAny M A t (fun a s'=>0<s'.toks->Q a s') E s):wpAny M A t Q E s:=fun Γ p hΓ =>
 wp_up (n:=1) t _ _ p s h (Sem.wp_mono M Γ t (post':=fun a _ s'=>1<=s'.toks->Q a s') (exc':=fun e _ s'=>1<=s'.toks->E e s') (fun _ _ _ z=>z) (fun _ _ _ z _=>z) p s (w Γ p hΓ))
theorem zbC {M:Model} {A:Around} {E:Value->Shared->Prop} {s:Shared} {scope:Scope} {gl:Addr} {x:Str} {u:Value} {qual:Str} {fn:Option Addr} {code:Value} {bl:Addr} {Q:Env->Shared->Prop}
  (hk:scope.kind=.function) (hx:scope.names.lookup x=some .local)
  (hQ:∀ env,env=newEnv scope s.heap.objs.size gl (cellsFrom (s.heap.objs.size+1) scope.names []) qual fn code none bl ->
   ∀ s',InCallC s env.locals (bindL env.kindOf [(x,u)] fun _=>none) env.cells (bindC env.kindOf [(x,u)] fun _=>none) s'->0<s'.toks->Q env s') :
  wpAny M A (newFunctionEnv scope gl [] [(x,u)] qual fn code none bl) Q E s:=by
 simp only [newFunctionEnv,Option.isSome_none,zzB,if_false];refine wpAny_bind (wpAny_alloc (wpAny_bind (wpAny_layCells _ (fun name kind cells=>by cases h:kind==NameKind.cell<;>simp [h]) _ _ _ _ ?_)));have ok:=cellsFrom_ok scope.names (s.heap.push { cls:=.type "frame", data:=.dict #[] }) (s.heap.objs.size+1) [] ⟨fun _ _ z=>(nomatch z),List.Pairwise.nil⟩ (by rw [Heap.size_push];exact zzR _);rw [Heap.size_push] at ok;rw [show ({ s with heap:=s.heap.push { cls:=.type "frame", data:=.dict #[] } }:Shared).heap.objs.size=s.heap.objs.size+1 from Heap.size_push ..];have ns:=(Heap.Ns.new s.heap (.type "frame")).keeps (pushCells_keeps scope.names (s.heap.push { cls:=.type "frame", data:=.dict #[] }));rw [List.forIn_cons];refine wpAny_bind (wpAny_bind (wpAny_bind (wpAny_storeName_local (env:=newEnv scope s.heap.objs.size gl (cellsFrom (s.heap.objs.size+1) scope.names []) qual fn code none bl) hx ns (fun h' hn' hs'=>wpAny_pure ?_) (by show (scope.kind==ScopeKind.class || (scope.kind==ScopeKind.module&&(s.heap.objs.size != gl)))=false;rw [hk];rfl))));show wpAny M A (forIn [] _ _) _ _ _;rw [List.forIn_nil];refine wpAny_pure (wpAny_pure (hQ _ rfl _ ⟨⟨⟨h',_,rfl⟩,?_,fun b o e=>?_,zzR _⟩,fun n c hc=>?_,ok.apart,fun n c hm=>(ok.empty n c hm).2⟩ (Nat.succ_pos _)))
 .have e:(newEnv scope s.heap.objs.size gl (cellsFrom (s.heap.objs.size+1) scope.names []) qual fn code none bl).kindOf x=some .local:=hx;unfold bindL bindL;rw [if_pos e];exact hn'
 .exact (hs'.2 b (Nat.ne_of_lt (Heap.lt_size e))).trans (pushCells_keeps _ _ b o (Heap.get?_push_of_some _ e))
 .have e:(newEnv scope s.heap.objs.size gl (cellsFrom (s.heap.objs.size+1) scope.names []) qual fn code none bl).kindOf x=some .local:=hx;unfold bindC bindC;rw [if_pos e];have q:=ok.empty n c (mem_of_lookup hc);exact q.1.sameBut hs' (Nat.ne_of_gt q.2)
theorem zbB {M:Model} {A:Around} {E:Value->Shared->Prop} {s:Shared} {scope:Scope} {gl:Addr} {ps:List Str} {us:List Value} {qual:Str} {fn:Option Addr} {code:Value} {bl:Addr} {Q:Env->Shared->Prop}
  (hk:scope.kind=.function) (hkind:∀ x∈ps.zip us,scope.names.lookup x.1=some .local\/(scope.names.lookup x.1=some .cell/\((cellsFrom (s.heap.objs.size+1) scope.names []).lookup x.1).isSome=true))
  (hl:us.length=ps.length) (hp:0<s.toks\/∃ x,ps=[x]/\scope.names.lookup x=some .local)
  (hQ:∀ env,env=newEnv scope s.heap.objs.size gl (cellsFrom (s.heap.objs.size+1) scope.names []) qual fn code none bl ->
   ∀ s',InCallC s env.locals (bindL env.kindOf (ps.zip us) fun _=>none) env.cells (bindC env.kindOf (ps.zip us) fun _=>none) s'->0<s'.toks->Q env s') :
  wpAny M A (newFunctionEnv scope gl [] (ps.zip us) qual fn code none bl) Q E s:=by
 rcases hp with hp|⟨x,rfl,hx⟩
 .exact jO hp (wpAny_newFunctionEnv_cells hk hkind hQ)
 .cases us with
  |nil=>cases hl
  |cons u r =>
   cases r with
   |nil=>exact zbC hk hx hQ
   |cons _ _=>cases hl
end L2
namespace L2
open PySem PySem.Spec PyProof.Rows
abbrev xY:=Sum Int Str
def fZ:xY->Value->Bool
 | .inl k,v=>Value.isInt k v
 | .inr x,v=>Value.isStrOf x v
def keyH (w:World):xY->Int
 | .inl k=>hashInt k
 | .inr x=>hashStr w x
theorem xX:∀ {k:xY} {v:Value},fZ k v=true->(∃ i t,k=Sum.inl i/\v=Value.int i t)\/(∃ x t,k=Sum.inr x/\v=Value.str x t)
 | .inl i,v,h=>by
  obtain ⟨t,e⟩:=Value.isInt_shape (k:=i) (v:=v) h;exact .inl ⟨i,t,rfl,e⟩
 | .inr x,v,h=>by
  obtain ⟨t,e⟩:=Value.isStrOf_shape (x:=x) (v:=v) h;exact .inr ⟨x,t,rfl,e⟩
theorem zcX (i:Int) (t:Tok):fZ (.inl i) (.int i t)=true:=by simp [fZ,Value.isInt]
theorem zcV (x:Str) (t:Tok):fZ (.inr x) (.str x t)=true:=by simp [fZ,Value.isStrOf]
theorem zjA (a b:Int):decide ((Sum.inl a:xY)=Sum.inl b)=(a==b):=by
 by_cases e:a=b
 .subst e;simp
 .have h:¬ (Sum.inl a:xY)=Sum.inl b:=fun q=>e (Sum.inl.inj q);rw [decide_eq_false h];exact (beq_eq_false_iff_ne.mpr e).symm
theorem zjx (a b:Str):decide ((Sum.inr a:xY)=Sum.inr b)=decide (a=b):=by
 by_cases e:a=b
 .subst e;simp
 .have h:¬ (Sum.inr a:xY)=Sum.inr b:=fun q=>e (Sum.inr.inj q);rw [decide_eq_false h,decide_eq_false e]
theorem zjz (a:Int) (b:Str):decide ((Sum.inl a:xY)=Sum.inr b)=false:=decide_eq_false (fun q=>nomatch q)
theorem zjy (a:Str) (b:Int):decide ((Sum.inr a:xY)=Sum.inl b)=false:=decide_eq_false (fun q=>nomatch q)
def xM (prog:Program) (w:World):PySem.KeyKind prog w xY where
 is:=fZ
 hash:=keyH w
 inj:=fun v a b ha hb=>by
  rcases xX ha with ⟨i,t,rfl,rfl⟩|⟨x,t,rfl,rfl⟩
  .rcases xX hb with ⟨j,u,rfl,e⟩|⟨y,u,rfl,e⟩
   .injection e with e1 _;rw [e1]
   .exact nomatch e
  .rcases xX hb with ⟨j,u,rfl,e⟩|⟨y,u,rfl,e⟩
   .exact nomatch e
   .injection e with e1 _;rw [e1]
 byValue:=fun k v h=>by
  rcases xX h with ⟨i,t,rfl,rfl⟩|⟨x,t,rfl,rfl⟩<;>rfl
 pyHash:=fun hv h=>by
  rcases xX hv with ⟨i,t,rfl,rfl⟩|⟨x,t,rfl,rfl⟩
  .exact wpAny_pyHash_int h
  .exact wpAny_pyHash_str h
 eqBool:=fun hu hv h=>by
  rcases xX hu with ⟨i,t,rfl,rfl⟩|⟨x,t,rfl,rfl⟩
  .rcases xX hv with ⟨j,u,rfl,rfl⟩|⟨y,u,rfl,rfl⟩
   .rw [zjA] at h;exact wpAny_eqBool_int h
   .rw [zjz] at h;exact SeqAt.EqAt.int_str i t y u _ _ _ _ h
  .rcases xX hv with ⟨j,u,rfl,rfl⟩|⟨y,u,rfl,rfl⟩
   .rw [zjy] at h;exact SeqAt.EqAt.str_int x t j u _ _ _ _ h
   .rw [zjx] at h;exact wpAny_eqBool_str h
 «strs»:=fun k x t v h=>by
  rcases xX h with ⟨i,u,rfl,e⟩|⟨y,u,rfl,e⟩
  .exact nomatch e
  .injection e with e1 _
   subst e1;cases v<;>rfl
theorem zay (prog:Program) (w:World) (i:Int) (t:Tok):(xM prog w).is (.inl i) (.int i t)=true:=zcX i t
theorem zax (prog:Program) (w:World) (x:Str) (t:Tok):(xM prog w).is (.inr x) (.str x t)=true:=zcV x t
end L2
namespace L2
open PySem PySem.Spec PyProof.Rows
inductive V where
 |non|bl (b:Bool)|int (i:Int)|str (x:Str)|byt (b:Array UInt8)|flt (b:UInt64)|ref (a:Addr)|ty (n:String)
 deriving DecidableEq
def yY:V->Value->Prop
 | .non,u=>u=Value.none
 | .bl b,u=>u=Value.bool b
 | .int i,u=>∃ t,u=Value.int i t
 | .str x,u=>∃ t,u=Value.str x t
 | .byt b,u=>∃ t,u=Value.bytes b t
 | .flt b,u=>∃ t,u=Value.float b t
 | .ref a,u=>u=Value.ref a
 | .ty n,u=>u=Value.type n
abbrev zA:List V->List Value->Prop:=Paired yY
theorem zA.length {xs:List V} {us:List Value} (r:zA xs us):xs.length=us.length:=Paired.length r
theorem zA.get:∀ {xs:List V} {us:List Value} {i:Nat} {x:V},zA xs us->xs[i]?=some x->∃ u,us[i]?=some u/\yY x u
 |_,_,_,_,.nil,e=>by simp at e
 |_,_,0,_,.cons r _,e=>by simp at e;subst e;exact ⟨_,rfl,r⟩
 |_,_,i+1,x,.cons _ t,e=>by
  obtain ⟨u,h1,h2⟩:=zA.get (i:=i) (x:=x) t (by simpa using e);exact ⟨u,by simpa using h1,h2⟩
theorem zA.set {x:V} {u:Value} (r:yY x u):∀ {xs:List V} {us:List Value} (i:Nat),zA xs us->zA (xs.set i x) (us.set i u)
 |_,_,_,.nil=>.nil
 |_,_,0,.cons _ t=>.cons r t
 |_,_,i+1,.cons q t=>.cons q (zA.set r i t)
theorem zA.append:∀ {xs ys:List V} {us ws:List Value},zA xs us->zA ys ws->zA (xs++ys) (us++ws)
 |_,_,_,_,.nil,s=>s
 |_,_,_,_,.cons r t,s=>.cons r (zA.append t s)
theorem zA.take:∀ {xs:List V} {us:List Value} (n:Nat),zA xs us->zA (xs.take n) (us.take n)
 |_,_,0,_=>.nil
 |_,_,_+1,.nil=>.nil
 |_,_,n+1,.cons r t=>.cons r (zA.take n t)
theorem zA.drop:∀ {xs:List V} {us:List Value} (n:Nat),zA xs us->zA (xs.drop n) (us.drop n)
 |_,_,0,r=>r
 |_,_,_+1,.nil=>.nil
 |_,_,n+1,.cons _ t=>zA.drop n t
def pX:Option V->Option Value->Prop
 |some v,some u=>yY v u
 |none,none=>True
 |_,_=>False
def KV {κ:Type}:List (κ×V)->List (κ×Value)->Prop:=Paired fun (p:κ×V) (q:κ×Value)=>p.1=q.1/\yY p.2 q.2
def kV:xY->V
 | .inl i=>.int i
 | .inr x=>.str x
inductive HO where
  |lst (xs:List V)
  |tup (xs:List V)
  |dK (kvs:List (xY×V))|dT (kvs:List (List xY×V))
  |set (S:Int->Bool) (n:Nat)
  |ins (C dx:Addr) (fs:List (Str×V))
  |own (x:Addr)
  |xd (fs:List (Str×V))
  |met (f x:Addr)
  |rng (lo hi:Int)
  |frz (o:Obj) (u:HO)
  |tbl (ps:Array Value)
  |ext (φ:Heap->Prop)
abbrev Hp:=Addr->Option HO
def xR (H:Hp) (a:Addr) (o:HO):Hp:=fun b=>if b=a then some o else H b
theorem yD {H:Hp} {a:Addr} {o:HO}:xR H a o a=some o:=by unfold xR;rw [if_pos rfl]
theorem zG {H:Hp} {a b:Addr} {o:HO} (h:b≠a):xR H a o b=H b:=by unfold xR;rw [if_neg h]
theorem zf3 {H:Hp} {a:Addr} {o u:HO}:xR (xR H a o) a u=xR H a u:=by
 funext b;unfold xR;split<;>rfl
theorem ne_of {H:Hp} {a b:Addr} {o u:HO} (h:H a=some o) (h':H b=some u) (d:o≠u):a≠b:=by
 intro e;subst e;rw [h] at h';exact d (Option.some.inj h')
theorem yL {H:Hp} {a b:Addr} {o:HO} (h:H a=some o) (h':H b=none):a≠b:=by
 intro e;subst e;rw [h] at h';cases h'
section
variable (P : Program) (w : World)
def xN (H:Hp) (h:Heap) (a:Addr):HO->Prop
 | .lst xs=>xs.length<=sizeLine/\∃ (its:List Value) (n:Nat),zA xs its/\h.get? a=some { cls:=.type "list", data:=.seq its.toArray n }
 | .tup xs=>xs.length<=sizeLine/\∃ its:List Value,zA xs its/\IsTup h a its.toArray
 | .dK kvs=>kvs.length<=sizeLine/\(a==sysModules)=false/\∃ vs,KV kvs vs/\h.DictOf (xM P w) a vs
 | .dT kvs=>kvs.length<=sizeLine/\(a==sysModules)=false/\∃ xs:List (List xY×Addr×Value),
   Paired (fun (p:List xY×V) (q:List xY×Addr×Value)=>p.1=q.1/\H q.2.1=some (.tup (p.1.map kV))/\yY p.2 q.2.2) kvs xs /\
   ∃ o es ep,h.get? a=some o/\o.ExactDict/\o.data=.dict es ep/\es.toList=xs.map (entryOfKey (tupleKind (xM P w)))/\(xs.map (·.1)).Nodup
 | .set S n=>h.SetOf (intKind P w) a S n
 | .ins C dx fs=>H dx=some (.own a)/\fs.length<=1000/\dx≠a/\h.get? a=some (PySem.W.instObj C dx) /\
   ∃ mA,h.Ns1 dx mA/\(∀ f,pX (fs.lookup f) (mA f))/\PySem.Within mA (fs.map (·.1))
 | .own _=>∃ o,h.get? a=some o
 | .xd fs=>∃ mA,h.Ns1 a mA/\∀ f,pX (fs.lookup f) (mA f)
 | .rng lo hi=>∃ t u v,h.get? a=some { cls:=.type "range", data:=.fields #[.int lo t,.int hi u,.int 1 v] }
 | .frz o u=>h.get? a=some o/\xN H h a u
 | .tbl ps=>h.get? a=some { cls:=.none,data:=.fields ps }
 | .met f x=>h.get? a=some (PySem.W.methodObj (.ref f) (.ref x))
 | .ext φ=>φ h/\(∃ o,h.get? a=some o)/\∀ h1 h2:Heap,φ h1->(∀ o,h1.get? a=some o->h2.get? a=some o)->φ h2
def vL (H:Hp) (h:Heap):Prop:=∀ a o,H a=some o->xN P w H h a o
end
section
variable {P : Program} {w : World} {H H' : Hp} {h h' : Heap} {a : Addr} {o : HO}
theorem xN.lt (x:xN P w H h a o):a<h.objs.size:=by
 cases o with
 |lst xs=>obtain ⟨_,_,_,_,e⟩:=x;exact Heap.lt_size e
 |tup xs=>obtain ⟨_,_,_,p⟩:=x;exact p.lt
 |dK kvs=>obtain ⟨_,_,_,_,o,_,_,e,_⟩:=x;exact Heap.lt_size e
 |dT kvs=>obtain ⟨_,_,_,_,o,_,_,e,_⟩:=x;exact Heap.lt_size e
 |set S n=>obtain ⟨o,_,_,_,e,_⟩:=x;exact Heap.lt_size e
 |ins C dx fs=>obtain ⟨_,_,_,e,_⟩:=x;exact Heap.lt_size e
 |own y=>obtain ⟨_,e⟩:=x;exact Heap.lt_size e
 |xd fs=>obtain ⟨_,⟨_,_,_,e,_⟩,_⟩:=x;exact Heap.lt_size e
 |rng lo hi=>obtain ⟨_,_,_,e⟩:=x;exact Heap.lt_size e
 |frz ob u=>obtain ⟨e,_⟩:=x;exact Heap.lt_size e
 |tbl ps=>exact Heap.lt_size (show h.get? a=some _ from x)
 |met f y=>exact Heap.lt_size (show h.get? a=some _ from x)
 |ext φ=>obtain ⟨_,⟨_,e⟩,_⟩:=x;exact Heap.lt_size e
theorem Paired.mapP {α β:Type} {F G:α->β->Prop}:∀ {l₁:List α} {l₂:List β},Paired F l₁ l₂->(∀ a b,F a b->G a b)->Paired G l₁ l₂
 |_,_,.nil,_=>.nil
 |_,_,.cons r t,f=>.cons (f _ _ r) (Paired.mapP t f)
theorem xN.stay (x:xN P w H h a o) (k:∀ b u,(b=a\/H b=some (.own a))->h.get? b=some u->h'.get? b=some u)
  (ho:∀ b,H b=some (.own a)->H' b=some (.own a)) (ht:∀ b xs,H b=some (.tup xs)->H' b=some (.tup xs)):xN P w H' h' a o:=by
 induction o with
 |lst xs=>obtain ⟨z,its,n,r,e⟩:=x;exact ⟨z,its,n,r,k _ _ (.inl rfl) e⟩
 |tup xs=>obtain ⟨z,its,r,ob,e,c⟩:=x;exact ⟨z,its,r,ob,k _ _ (.inl rfl) e,c⟩
 |dK kvs=>obtain ⟨z,y,vs,r,ob,es,ep,e,c⟩:=x;exact ⟨z,y,vs,r,ob,es,ep,k _ _ (.inl rfl) e,c⟩
 |dT kvs =>
  obtain ⟨z,y,xs,r,ob,es,ep,e,c⟩:=x;exact ⟨z,y,xs,Paired.mapP r fun p q z=>⟨z.1,ht _ _ z.2.1,z.2.2⟩,ob,es,ep,k _ _ (.inl rfl) e,c⟩
 |set S n=>obtain ⟨ob,es,ep,t,e,c⟩:=x;exact ⟨ob,es,ep,t,k _ _ (.inl rfl) e,c⟩
 |ins C dx fs =>
  obtain ⟨d,z,ne,e,mA,⟨od,es,ep,e2,c⟩,r⟩:=x;exact ⟨ho _ d,z,ne,k _ _ (.inl rfl) e,mA,⟨od,es,ep,k _ _ (.inr d) e2,c⟩,r⟩
 |own y=>obtain ⟨ob,e⟩:=x;exact ⟨ob,k _ _ (.inl rfl) e⟩
 |xd fs=>obtain ⟨mA,⟨od,es,ep,e,c⟩,r⟩:=x;exact ⟨mA,⟨od,es,ep,k _ _ (.inl rfl) e,c⟩,r⟩
 |rng lo hi=>obtain ⟨t,u,v,e⟩:=x;exact ⟨t,u,v,k _ _ (.inl rfl) e⟩
 |frz ob u ih=>obtain ⟨e,q⟩:=x;exact ⟨k _ _ (.inl rfl) e,ih q⟩
 |tbl ps =>
  have e:h.get? a=some { cls:=.none,data:=.fields ps }:=x;show h'.get? a=some { cls:=.none,data:=.fields ps };exact k a _ (.inl rfl) e
 |met f y =>
  have e:h.get? a=some (PySem.W.methodObj (.ref f) (.ref y)):=x;show h'.get? a=some (PySem.W.methodObj (.ref f) (.ref y));exact k a _ (.inl rfl) e
 |ext φ=>obtain ⟨p,⟨o,e⟩,st⟩:=x;exact ⟨st _ _ p fun o q=>k _ _ (.inl rfl) q,⟨o,k _ _ (.inl rfl) e⟩,st⟩
theorem vL.lt (x:vL P w H h) (e:H a=some o):a<h.objs.size:=(x a o e).lt
theorem vL.fresh (x:vL P w H h) (e:h.objs.size<=a):H a=none:=by
 cases q:H a with
 |none=>rfl
 |some u=>exact absurd (Nat.lt_of_lt_of_le (x.lt q) e) (Nat.lt_irrefl _)
theorem vL.kept (x:vL P w H h) (k:∀ b u,h.get? b=some u->h'.get? b=some u):vL P w H h':=fun a o e =>
 (x a o e).stay (fun b u _ q=>k b u q) (fun _ q=>q) fun _ _ q=>q
theorem vL.laid (x:vL P w H h) (k:∀ b u,h.get? b=some u->h'.get? b=some u) (hp:h.objs.size<=a) (new:xN P w (xR H a o) h' a o):vL P w (xR H a o) h':=fun b u e=>by
 have hn:=x.fresh hp
 by_cases hb:b=a
 .subst hb;rw [yD] at e;cases e;exact new
 .rw [zG hb] at e;exact (x b u e).stay (fun c v _ q=>k c v q) (fun c q=>by rw [zG (yL q hn)];exact q) fun c xs q=>by rw [zG (yL q hn)];exact q
end
def Rd (H:Hp) (a:Addr) (u:HO):Prop:=H a=some u\/∃ o,H a=some (.frz o u)
theorem Rd.ok {P:Program} {w:World} {H:Hp} {h:Heap} {a:Addr} {u:HO} (r:Rd H a u) (x:vL P w H h):xN P w H h a u:=by
 rcases r with r|⟨o,r⟩
 .exact x a u r
 .obtain ⟨_,q⟩:=x a _ r;exact q
def Mut:Option HO->Prop
 |some (.lst _)=>True
 |some (.dK _)=>True
 |some (.dT _)=>True
 |some (.set _ _)=>True
 |some (.ins _ _ _)=>True
 |some (.ext _)=>True
 |_=>False
section
variable {P : Program} {w : World} {H : Hp} {h h' : Heap} {x e : Addr} {o' : HO}
theorem vL.write (ok:vL P w H h) (mu:Mut (H x)) (he:e=x\/H e=some (.own x)) (k:∀ b u,b≠e->h.get? b=some u->h'.get? b=some u) (heo:∃ u,h'.get? e=some u)
  (new:xN P w (xR H x o') h' x o'):vL P w (xR H x o') h':=fun b u q=>by
 have nown:∀ c y,H c=some (.own y)->c≠x:=fun c y r z=>by subst z;rw [r] at mu;exact mu
 have ntup:∀ c xs,H c=some (.tup xs)->c≠x:=fun c xs r z=>by subst z;rw [r] at mu;exact mu
 by_cases hb:b=x
 .subst hb;rw [yD] at q;cases q;exact new
 .rw [zG hb] at q
  by_cases hbe:b=e
  .have q':H b=some (.own x):=by
    rcases he with z|z
    .exact absurd (hbe.trans z) hb
    .rw [hbe];exact z
   rw [q] at q';cases q';obtain ⟨v,hv⟩:=heo;exact ⟨v,by rw [hbe];exact hv⟩
  .refine (ok b u q).stay (fun c v hc r=>k c v ?_ r) (fun c r=>by rw [zG (nown c b r)];exact r) fun c xs r=>by rw [zG (ntup c xs r)];exact r
   rcases hc with rfl|hc
   .exact hbe
   .rintro rfl;rcases he with z|z
    .exact nown c b hc z
    .rw [hc] at z;cases z;exact hb rfl
end
structure Un (fs ex:List Addr) (H H':Hp) (h h':Heap):Prop where
 keep:∀ b o,h.get? b=some o->H b=none->b∉fs->b∉ex->h'.get? b=some o
 slot:∀ b o,h.get? b=some o->H b=none->b∈fs->b∉ex->∃ sl,h'.get? b=some { o with slots:=sl }
 free:∀ b o,h.get? b=some o->H b=none->b∉ex->H' b=none
 there:∀ b o,h.get? b=some o->b∉ex->∃ o',h'.get? b=some o'
 tups:∀ b xs,H b=some (.tup xs)->H' b=some (.tup xs)
 frzs:∀ b o u,H b=some (.frz o u)->H' b=some (.frz o u)
 tbls:∀ b ps,H b=some (.tbl ps)->∃ jB,H' b=some (.tbl (ps++jB))
section
variable {fs fs' ex ex' : List Addr} {H H1 H2 : Hp} {h h1 h2 h' : Heap} {a x e : Addr} {o : HO}
theorem Un.any (u:Un fs ex H H1 h h1) {b:Addr} {ob:Obj} (q:h.get? b=some ob) (n:H b=none) (hx:b∉ex):∃ sl,h1.get? b=some { ob with slots:=sl }:=by
 by_cases hb:b∈fs
 .exact u.slot b ob q n hb hx
 .exact ⟨ob.slots,u.keep b ob q n hb hx⟩
theorem Un.kept (k:∀ b u,h.get? b=some u->h'.get? b=some u):Un fs ex H H h h' :=
 ⟨fun b ob q _ _ _=>k b ob q,fun b ob q _ _ _=>⟨ob.slots,k b ob q⟩,fun _ _ _ n _=>n,fun b ob q _=>⟨ob,k b ob q⟩,fun _ _ q=>q,fun _ _ _ q=>q,fun _ ps q=>⟨#[],by rw [q];simp⟩⟩
theorem Un.refl:Un fs ex H H h h:=Un.kept fun _ _ q=>q
theorem Un.laid (k:∀ b u,h.get? b=some u->h'.get? b=some u) (hp:h.objs.size<=a) (hn:H a=none):Un fs ex H (xR H a o) h h' where
 keep:=fun b u q _ _ _=>k b u q
 slot:=fun b u q _ _ _=>⟨u.slots,k b u q⟩
 free:=fun b u q n _=>by rw [zG (Nat.ne_of_lt (Nat.lt_of_lt_of_le (Heap.lt_size q) hp))];exact n
 there:=fun b u q _=>⟨u,k b u q⟩
 tups:=fun b xs q=>by rw [zG (yL q hn)];exact q
 frzs:=fun b u xs q=>by rw [zG (yL q hn)];exact q
 tbls:=fun b ps q=>⟨#[],by rw [zG (yL q hn),q];simp⟩
theorem Un.write (mu:Mut (H x)) (he:e=x\/H e=some (.own x)) (k:∀ b u,b≠e->h.get? b=some u->h'.get? b=some u) (heo:∃ u,h'.get? e=some u):Un fs ex H (xR H x o) h h':=by
 have hx:∀ b,H b=none->b≠x:=fun b n z=>by subst z;rw [n] at mu;exact mu
 have hb:∀ b,H b=none->b≠e:=fun b n z=>by
  subst z;rcases he with r|r
  .exact hx b n r
  .rw [n] at r;cases r
 have hm:∀ b u,H b=some u->¬ Mut (some u)->b≠x:=fun b u q nm z=>by subst z;rw [q] at mu;exact nm mu
 refine ⟨fun b u q n _ _=>k b u (hb b n) q,fun b u q n _ _=>⟨u.slots,k b u (hb b n) q⟩,fun b u q n _=>by rw [zG (hx b n)];exact n,fun b u q _=>?_,
  fun b xs q=>by rw [zG (hm b _ q fun z=>z)];exact q,fun b u xs q=>by rw [zG (hm b _ q fun z=>z)];exact q,fun b ps q=>⟨#[],by rw [zG (hm b _ q fun z=>z),q];simp⟩⟩
 by_cases hbe:b=e
 .subst hbe;exact heo
 .exact ⟨u,k b u hbe q⟩
end
def trk (h:Heap) (H:Hp):List Addr:=(List.range h.objs.size).filter fun a=>(H a).isSome
def hidT (h:Heap) (H:Hp):Heap:=PySem.W.hideAll h (trk h H)
theorem zc5 (h:Heap) (H:Hp):(hidT h H).objs.size=h.objs.size:=PySem.W.hideAll_size _ _
theorem zeQ {h:Heap} {H:Hp} {b:Addr} {o:Obj} (e:h.get? b=some o) (n:H b=none):(hidT h H).get? b=some o :=
 PySem.W.hideAll_get _ e fun hm=>by
  have q:(H b).isSome=true:=(List.mem_filter.mp hm).2;rw [n] at q;simp at q
theorem zgJ {h:Heap} {H:Hp} {b:Addr} {o:Obj} (e:(hidT h H).get? b=some o):h.get? b=some o/\H b=none:=by
 have e':h.get? b=some o:=PySem.W.of_hideAll (trk h H) e;refine ⟨e',?_⟩
 cases q:H b with
 |none=>rfl
 |some x =>
  have hm:b∈trk h H:=List.mem_filter.mpr ⟨List.mem_range.mpr (Heap.lt_size e'),by simp [q]⟩;have z:(hidT h H).get? b=none:=PySem.W.hideAll_none (trk h H) hm;rw [z] at e;cases e
def zhI (g h:Heap) (L:Addr):List (Addr×Obj):=(List.range h.objs.size).filterMap fun a=>if a=L\/(g.get? a).isSome=true then none else (h.get? a).map fun o=>(a,o)
def rest (g h:Heap) (L d:Addr):List (Addr×Obj):=(zhI g h L).filter fun p=>decide (p.1≠d)
end L2
namespace L2
open PySem PySem.Spec PyProof.Rows
structure Mod (K:PySem.W.Frag) (mg:Str->Option Value) (base:Heap):Prop where
 kin:K.In base
 glob:base.Ns mainGlobals mg
 blt:∃ mb,base.Ns builtinsNs mb/\∀ x:Str,x ≠ "__name__" -> mb x=bootBuiltins x
 nolimit:base.NoLimit
structure Cx where
 prog:Program
 w:World
 K:PySem.W.Frag
 mg:Str->Option Value
 base:Heap
 A:Around
 N:List Str
 s₀:Shared
 H₀:Hp
 env:Env
 outer:List Env
 stack:List Env
 ex:List Addr
 fn:Str->Bool
 calm:Bool
 pn:List (Addr×Obj)
 xe:Value->Shared->Prop
def rB (l:List Env):List Addr:=l.filterMap (·.frame)
abbrev Cx.fs (X:Cx):List Addr:=rB X.outer
def Vis (sc:Scope) (x:Str):Prop:=sc.names.lookup x=some .local\/sc.names.lookup x=some .cell\/sc.names.lookup x=some .free
def Loc (sc:Scope) (x:Str):Prop:=sc.names.lookup x=some .local\/sc.names.lookup x=some .cell
def Look (env:Env) (h:Heap) (m:Str->Option Value) (x:Str) (u:Value):Prop :=
 (env.kindOf x=some .local/\m x=some u)\/((env.kindOf x=some .cell\/env.kindOf x=some .free)/\∃ c,env.cells.lookup x=some c/\h.IsCell c (some u))
structure Cx.Ok (X:Cx):Prop where
 mod:Mod X.K X.mg X.base
 kind:X.env.scope.kind=.function
 glob:X.env.globals=mainGlobals
 blt:X.env.builtins=builtinsNs
 above:X.s₀.heap.objs.size<=X.env.locals
 inj:∀ x y c,X.env.cells.lookup x=some c->X.env.cells.lookup y=some c->x=y
 has:∀ x,(X.env.kindOf x=some .cell\/X.env.kindOf x=some .free)->∃ c,X.env.cells.lookup x=some c
 cab:∀ x c,X.fn x=true->X.env.cells.lookup x=some c->X.s₀.heap.objs.size<=c
 hd:X.calm=true->X.A.handled=none
 frames:X.A.frames=some X.stack
 stk:X.stack=X.outer\/(X.stack=X.env::X.outer/\X.env.frame=some X.env.locals)
 exf:∀ b∈X.ex,b≠X.env.locals/\∀ x c,X.env.cells.lookup x=some c->c≠b
 bs:∀ b o,X.base.get? b=some o->X.s₀.heap.get? b=some o/\X.H₀ b=none
 bsz:X.base.objs.size<=X.s₀.heap.objs.size
 noex:∀ b o,X.base.get? b=some o->b∉X.ex
 exfs:∀ b∈X.ex,b∉X.fs
 funs:X.s₀.heap.FunFrames X.base X.outer
 frf:∀ b∈X.fs,X.H₀ b=none
structure Inv (X:Cx) (pins:List (Addr×Obj)) (σ:List (Option V)) (H:Hp) (s:Shared):Prop where
 ok:X.Ok
 os:s.os=X.s₀.os
 bare:AllBare s.gens
 base:Un X.fs X.ex X.H₀ H X.s₀.heap s.heap
 loc:∃ m,s.heap.Ns X.env.locals m/\∀ (i:Nat) (x:Str) (v:V),X.N[i]?=some x->σ[i]?=some (some v)->Vis X.env.scope x->∃ u,yY v u/\Look X.env s.heap m x u
 cell:∀ x c,X.env.cells.lookup x=some c->∃ v,s.heap.IsCell c v
 free:H X.env.locals=none
 freeC:∀ x c,X.env.cells.lookup x=some c->H c=none
 pin:∀ p∈X.pn++pins,s.heap.get? p.1=some p.2/\H p.1=none/\p.1≠X.env.locals/\p.1∉X.fs/\∀ v,p.2.data≠.cell v
 hok:vL X.prog X.w H s.heap
 len:σ.length=X.N.length
 tk:0<s.toks
section
variable {X : Cx} {pins : List (Addr × Obj)} {σ : List (Option V)} {H H' : Hp} {s : Shared} {h' : Heap}
theorem Cx.Ok.nofr (ok:X.Ok) {b:Addr} {o:Obj} (e:X.base.get? b=some o):b∉X.fs:=fun hb=>by
 have:=(ok.funs.mem hb).1;rw [e] at this;cases this
theorem Inv.bs (I:Inv X pins σ H s):∀ b o,X.base.get? b=some o->s.heap.get? b=some o/\H b=none:=fun b o e =>
 ⟨I.base.keep b o (I.ok.bs b o e).1 (I.ok.bs b o e).2 (I.ok.nofr e) (I.ok.noex b o e),I.base.free b o (I.ok.bs b o e).1 (I.ok.bs b o e).2 (I.ok.noex b o e)⟩
theorem Inv.bk (I:Inv X pins σ H s):∀ b o,X.base.get? b=some o->s.heap.get? b=some o:=fun b o e=>(I.bs b o e).1
theorem Inv.mod (I:Inv X pins σ H s):Mod X.K X.mg X.base:=I.ok.mod
theorem Inv.kIn (I:Inv X pins σ H s):X.K.In s.heap:=I.ok.mod.kin.keeps I.bk
theorem Inv.lt (I:Inv X pins σ H s):X.env.locals<s.heap.objs.size:=let ⟨_,hn,_⟩:=I.loc;hn.lt
theorem Inv.sz (I:Inv X pins σ H s):X.s₀.heap.objs.size<=s.heap.objs.size:=Nat.le_trans I.ok.above (Nat.le_of_lt I.lt)
theorem Inv.nofs (I:Inv X pins σ H s) {a:Addr} (h:s.heap.objs.size<=a):a∉X.fs:=fun hb=>by
 obtain ⟨_,o,ho,_⟩:=I.ok.funs.mem hb;exact absurd (Nat.lt_of_lt_of_le (Heap.lt_size ho) (Nat.le_trans I.sz h)) (Nat.lt_irrefl _)
theorem Inv.cne (I:Inv X pins σ H s):∀ x c,X.env.cells.lookup x=some c->c≠X.env.locals:=fun x c e z=>by
 obtain ⟨v,o,ho,hd⟩:=I.cell x c e;obtain ⟨m,⟨o',es,ep,ho',hd',_⟩,_⟩:=I.loc;rw [z,ho'] at ho;cases ho;rw [hd'] at hd;cases hd
theorem Inv.funs (I:Inv X pins σ H s):s.heap.FunFrames X.base X.outer:=by
 have all:∀ (l:List Env),(∀ b∈rB l,b∈X.fs)->X.s₀.heap.FunFrames X.base l->s.heap.FunFrames X.base l:=by
  intro l
  induction l with
  |nil=>intro _ _;trivial
  |cons env r ih =>
   intro hs hl;obtain ⟨hk,⟨L,o,hf,hn,ho,hd⟩,hr⟩:=hl;have hL:L∈X.fs:=hs L (by unfold rB;rw [List.filterMap_cons,hf];exact zzT);obtain ⟨sl,e⟩:=I.base.slot L o ho (I.ok.frf L hL) hL fun z=>I.ok.exfs L z hL;exact ⟨hk,⟨L,_,hf,hn,e,hd⟩,ih (fun b hb=>hs b (by unfold rB;rw [List.filterMap_cons,hf];exact List.mem_cons_of_mem _ hb)) hr⟩
 exact all X.outer (fun _ hb=>hb) I.ok.funs
theorem Inv.stack (I:Inv X pins σ H s):s.heap.FunFrames X.base X.stack:=by
 rcases I.ok.stk with e|⟨e,hf⟩
 .rw [e];exact I.funs
 .rw [e];obtain ⟨m,hn,_⟩:=I.loc;refine .cons (by rw [I.ok.kind];decide) hf hn ?_ I.funs;exact Heap.get?_none_of_le (Nat.le_trans I.ok.bsz I.ok.above)
theorem Inv.stkSub (I:Inv X pins σ H s):∀ b∈rB X.stack,b∈X.env.locals::X.fs:=fun b hb=>by
 rcases I.ok.stk with e|⟨e,hf⟩
 .rw [e] at hb;exact List.mem_cons_of_mem _ hb
 .rw [e] at hb;unfold rB at hb;rw [List.filterMap_cons,hf] at hb;exact hb
theorem Inv.stkFree (I:Inv X pins σ H s):∀ b∈rB X.stack,H b=none:=fun b hb=>by
 rcases List.mem_cons.mp (I.stkSub b hb) with e|hb
 .rw [e];exact I.free
 .obtain ⟨_,o,ho,_⟩:=I.ok.funs.mem hb;exact I.base.free b o ho (I.ok.frf b hb) fun z=>I.ok.exfs b z hb
theorem Inv.step {g':Array GenState} {t':Nat} {d':Drawn} {ch:List Addr} (I:Inv X pins σ H s)
  (hch:∀ b∈ch,(b∈X.ex\/X.s₀.heap.objs.size<=b)/\b≠X.env.locals/\(∀ x c,X.env.cells.lookup x=some c->c≠b)/\∀ p∈X.pn++pins,p.1≠b)
  (keep:∀ b o,b≠X.env.locals->b∉X.fs->b∉ch->s.heap.get? b=some o->H b=none->h'.get? b=some o)
  (slot:∀ b o,b≠X.env.locals->b∈X.fs->b∉ch->s.heap.get? b=some o->H b=none->∃ sl,h'.get? b=some { o with slots:=sl }) (free:∀ b o,b∉ch->s.heap.get? b=some o->H b=none->H' b=none)
  (there:∀ b o,b∉ch->s.heap.get? b=some o->∃ o',h'.get? b=some o')
  (tups:∀ b xs,H b=some (.tup xs)->H' b=some (.tup xs)) (frzs:∀ b o u,H b=some (.frz o u)->H' b=some (.frz o u)) (tbls:∀ b ps,H b=some (.tbl ps)->∃ jB,H' b=some (.tbl (ps++jB)))
  (ns:∀ m,s.heap.Ns X.env.locals m->h'.Ns X.env.locals m) (hok:vL X.prog X.w H' h') (hg:AllBare g') (ht:0<t':=by first|exact Nat.succ_pos _|exact L2.Inv.tk (by assumption)|exact L2.Inv.tk ‹L2.Inv _ _ _ _ _› | assumption|omega) :
  Inv X pins σ H' { s with heap:=h',gens:=g',drawn:=d',toks:=t' }:=by
 have neL:∀ b o,X.s₀.heap.get? b=some o->b≠X.env.locals:=fun b o e=>Nat.ne_of_lt (Nat.lt_of_lt_of_le (Heap.lt_size e) I.ok.above)
 have neC:∀ b o,X.s₀.heap.get? b=some o->b∉X.ex->b∉ch:=fun b o e hx hb=>by
  rcases (hch b hb).1 with z|z
  .exact hx z
  .exact absurd (Nat.lt_of_lt_of_le (Heap.lt_size e) z) (Nat.lt_irrefl _)
 have cellK:∀ x c,X.env.cells.lookup x=some c->∀ v,s.heap.IsCell c v->h'.IsCell c v:=fun x c e v ⟨o,ho,hd⟩=>by
  have nch:c∉ch:=fun z=>(hch c z).2.2.1 x c e rfl
  by_cases hc:c∈X.fs
  .obtain ⟨sl,q⟩:=slot c o (I.cne x c e) hc nch ho (I.freeC x c e);exact ⟨_,q,hd⟩
  .exact ⟨o,keep c o (I.cne x c e) hc nch ho (I.freeC x c e),hd⟩
 refine ⟨I.ok,I.os,hg,⟨fun b o e n hb hx=>?_,fun b o e n hb hx=>?_,fun b o e n hx=>?_,fun b o e hx=>?_,fun b xs e=>tups b xs (I.base.tups b xs e),fun b o xs e=>frzs b o xs (I.base.frzs b o xs e),fun b ps e=>?_⟩,?_,fun x c e=>?_,?_,fun x c e=>?_,fun p hp=>?_,hok,I.len,ht⟩
 .exact keep b o (neL b o e) hb (neC b o e hx) (I.base.keep b o e n hb hx) (I.base.free b o e n hx)
 .obtain ⟨sl,e1⟩:=I.base.slot b o e n hb hx;obtain ⟨sl',e2⟩:=slot b _ (neL b o e) hb (neC b o e hx) e1 (I.base.free b o e n hx);exact ⟨sl',e2⟩
 .obtain ⟨o',e1⟩:=I.base.there b o e hx;exact free b o' (neC b o e hx) e1 (I.base.free b o e n hx)
 .obtain ⟨o',e1⟩:=I.base.there b o e hx;exact there b o' (neC b o e hx) e1
 .obtain ⟨m1,e1⟩:=I.base.tbls b ps e;obtain ⟨m2,e2⟩:=tbls b _ e1;exact ⟨m1++m2,by rw [e2,Array.append_assoc]⟩
 .obtain ⟨m,hn,hl⟩:=I.loc;refine ⟨m,ns m hn,fun i x v e1 e2 e3=>?_⟩;obtain ⟨u,r,l⟩:=hl i x v e1 e2 e3;refine ⟨u,r,?_⟩;rcases l with l|⟨k,c,e,z⟩
  .exact .inl l
  .exact .inr ⟨k,c,e,cellK x c e _ z⟩
 .obtain ⟨v,z⟩:=I.cell x c e;exact ⟨v,cellK x c e v z⟩
 .obtain ⟨m,⟨o,_,_,ho,_⟩,_⟩:=I.loc;exact free _ o (fun z=>(hch _ z).2.1 rfl) ho I.free
 .obtain ⟨v,o,ho,hd⟩:=I.cell x c e;exact free c o (fun z=>(hch c z).2.2.1 x c e rfl) ho (I.freeC x c e)
 .obtain ⟨e,n,ne,nf,d⟩:=I.pin p hp;have nch:p.1∉ch:=fun z=>(hch p.1 z).2.2.2 p hp rfl;exact ⟨keep p.1 p.2 ne nf nch e n,free p.1 p.2 nch e n,ne,nf,d⟩
theorem Inv.un {t':Nat} (I:Inv X pins σ H s) (u:Un X.fs [] H H' s.heap h') (hok:vL X.prog X.w H' h') (ht:0<t':=by first|exact Nat.succ_pos _|exact L2.Inv.tk (by assumption)|exact L2.Inv.tk ‹L2.Inv _ _ _ _ _› | assumption|omega):Inv X pins σ H' { s with heap:=h',toks:=t' }:=by
 obtain ⟨m,⟨o,es,ep,ho,r⟩,_⟩:=id I.loc;obtain ⟨sl,hL⟩:=u.any ho I.free (by simp)
 exact I.step (g':=s.gens) (d':=s.drawn) (ch:=[]) (fun _ z=>nomatch z) (fun b o _ hb _ e n=>u.keep b o e n hb (by simp)) (fun b o _ hb _ e n=>u.slot b o e n hb (by simp)) (fun b o _ e n=>u.free b o e n (by simp)) (fun b o _ e=>u.there b o e (by simp)) u.tups u.frzs u.tbls (fun m' hm=>by
  obtain ⟨o',es',ep',ho',r'⟩:=hm;rw [ho] at ho';cases ho';exact ⟨_,es',ep',hL,r'⟩) hok I.bare
theorem Inv.call {g':Array GenState} {t':Nat} {d':Drawn} {ch:List Addr} (I:Inv X pins σ H s) (u:Un (rB X.stack) ch H H' s.heap h') (hok:vL X.prog X.w H' h') (hg:AllBare g')
  (hch:∀ b∈ch,(b∈X.ex\/X.s₀.heap.objs.size<=b)/\b≠X.env.locals/\(∀ x c,X.env.cells.lookup x=some c->c≠b)/\∀ p∈X.pn++pins,p.1≠b) (ht:0<t':=by first|exact Nat.succ_pos _|exact L2.Inv.tk (by assumption)|exact L2.Inv.tk ‹L2.Inv _ _ _ _ _› | assumption|omega) :
  Inv X pins σ H' { s with heap:=h',gens:=g',drawn:=d',toks:=t' }:=by
 obtain ⟨m,⟨o,es,ep,ho,r⟩,_⟩:=id I.loc;obtain ⟨sl,hL⟩:=u.any ho I.free fun z=>(hch _ z).2.1 rfl
 exact I.step (ch:=ch) hch (fun b o hL hb hc e n=>u.keep b o e n (fun z=>(List.mem_cons.mp (I.stkSub b z)).elim hL hb) hc) (fun b o _ _ hc e n=>u.any e n hc) (fun b o hc e n=>u.free b o e n hc) (fun b o hc e=>u.there b o e hc) u.tups u.frzs u.tbls (fun m' hm=>by
  obtain ⟨o',es',ep',ho',r'⟩:=hm;rw [ho] at ho';cases ho';exact ⟨_,es',ep',hL,r'⟩) hok hg
theorem Inv.turned {t':Nat} {it:Addr} (I:Inv X pins σ H s) (k:∀ b o,b≠it->s.heap.get? b=some o->h'.get? b=some o) (hn:H it=none) (hL:it≠X.env.locals)
  (h1:it∈X.ex\/X.s₀.heap.objs.size<=it) (h2:∀ x c,X.env.cells.lookup x=some c->c≠it) (h3:∀ p∈X.pn++pins,p.1≠it) (ht:0<t':=by first|exact Nat.succ_pos _|exact L2.Inv.tk (by assumption)|exact L2.Inv.tk ‹L2.Inv _ _ _ _ _› | assumption|omega):Inv X pins σ H { s with heap:=h',toks:=t' }:=by
 have nit:∀ b u,H b=some u->b≠it:=fun b u e z=>by rw [z,hn] at e;cases e
 refine I.step (g':=s.gens) (d':=s.drawn) (ch:=[it]) (fun b hb=>?_) (fun b o _ _ hc e _=>k b o (fun z=>hc (by simp [z])) e) (fun b o _ _ hc e _=>⟨o.slots,k b o (fun z=>hc (by simp [z])) e⟩) (fun _ _ _ _ n=>n)
  (fun b o hc e=>⟨o,k b o (fun z=>hc (by simp [z])) e⟩) (fun _ _ e=>e) (fun _ _ _ e=>e) (fun b ps e=>⟨#[],by rw [e];simp⟩) (fun m hm=>?_) (fun b u e=>?_) I.bare
 .have e:b=it:=by simpa using hb
  subst e;exact ⟨h1,hL,h2,h3⟩
 .obtain ⟨o,es,ep,ho,r⟩:=hm;exact ⟨o,es,ep,k _ o (Ne.symm hL) ho,r⟩
 .refine (I.hok b u e).stay (fun c v hc q=>k c v ?_ q) (fun _ q=>q) fun _ _ q=>q;rcases hc with z|z
  .rw [z];exact nit b u e
  .exact nit c _ z
theorem Inv.tok (I:Inv X pins σ H s) (t:Nat) (ht:0<t:=by first|exact Nat.succ_pos _|exact L2.Inv.tk (by assumption)|exact L2.Inv.tk ‹L2.Inv _ _ _ _ _› | assumption|omega):Inv X pins σ H { s with toks:=t }:=I.un (h':=s.heap) (t':=t) Un.refl I.hok
theorem Inv.kept {t':Nat} (I:Inv X pins σ H s) (k:∀ b u,s.heap.get? b=some u->h'.get? b=some u) (ht:0<t':=by first|exact Nat.succ_pos _|exact L2.Inv.tk (by assumption)|exact L2.Inv.tk ‹L2.Inv _ _ _ _ _› | assumption|omega):Inv X pins σ H { s with heap:=h',toks:=t' }:=I.un (Un.kept k) (I.hok.kept k)
theorem Inv.laid {a:Addr} {o:HO} {t':Nat} (I:Inv X pins σ H s) (k:∀ b u,s.heap.get? b=some u->h'.get? b=some u) (hp:s.heap.objs.size<=a) (new:xN X.prog X.w (xR H a o) h' a o) (ht:0<t':=by first|exact Nat.succ_pos _|exact L2.Inv.tk (by assumption)|exact L2.Inv.tk ‹L2.Inv _ _ _ _ _› | assumption|omega) :
  Inv X pins σ (xR H a o) { s with heap:=h',toks:=t' }:=I.un (Un.laid k hp (I.hok.fresh hp)) (I.hok.laid k hp new)
theorem Inv.write {x e:Addr} {o:HO} {t':Nat} (I:Inv X pins σ H s) (mu:Mut (H x)) (he:e=x\/H e=some (.own x)) (k:∀ b u,b≠e->s.heap.get? b=some u->h'.get? b=some u) (heo:∃ u,h'.get? e=some u)
  (new:xN X.prog X.w (xR H x o) h' x o) (ht:0<t':=by first|exact Nat.succ_pos _|exact L2.Inv.tk (by assumption)|exact L2.Inv.tk ‹L2.Inv _ _ _ _ _› | assumption|omega):Inv X pins σ (xR H x o) { s with heap:=h',toks:=t' }:=I.un (Un.write mu he k heo) (I.hok.write mu he k heo new)
theorem Inv.pins_of {pins':List (Addr×Obj)} (I:Inv X pins σ H s) (h:∀ p∈pins',s.heap.get? p.1=some p.2/\H p.1=none/\p.1≠X.env.locals/\p.1∉X.fs/\∀ v,p.2.data≠.cell v):Inv X pins' σ H s :=
 ⟨I.ok,I.os,I.bare,I.base,I.loc,I.cell,I.free,I.freeC,fun p hp=>(List.mem_append.mp hp).elim (fun z=>I.pin p (List.mem_append_left _ z)) (h p),I.hok,I.len,I.tk⟩
theorem gX {N:List Str} (hN:N.Nodup) {i j:Nat} {x:Str} (a:N[i]?=some x) (b:N[j]?=some x):i=j:=by
 obtain ⟨h1,e1⟩:=List.getElem?_eq_some_iff.mp a;obtain ⟨h2,e2⟩:=List.getElem?_eq_some_iff.mp b;exact (List.getElem_inj hN).mp (e1.trans e2.symm)
theorem dC {M:Model} {A:Around} {E:Value->Shared->Prop} {i:Nat} {x:Str} {v:V} {u:Value} {Q:Unit->Shared->Prop} (I:Inv X pins σ H s) (hN:X.N.Nodup) (hi:X.N[i]?=some x) (hx:Loc X.env.scope x) (r:yY v u)
  (h:∀ s',Inv X pins (σ.set i (some v)) H s'->(∃ a,Heap.SameBut a s.heap s'.heap/\(a=X.env.locals\/X.env.cells.lookup x=some a))->Q () s') (hf:X.fn x=true\/X.env.scope.names.lookup x=some .local:=by first|exact .inl rfl|exact .inr rfl|assumption):wpAny M A (storeName X.env x u) Q E s:=by
 obtain ⟨m,hn,hl⟩:=id I.loc;have hcls:(X.env.scope.kind==.class || (X.env.scope.kind==.module&&X.env.locals != X.env.globals))=false:=by rw [I.ok.kind];rfl
 have hiσ:i<σ.length:=by rw [I.len];exact (List.getElem?_eq_some_iff.mp hi).1
 have cne:=I.cne
 have tracked:∀ {a:Addr} {h':Heap},(∃ o,s.heap.get? a=some o/\H a=none)->Heap.SameBut a s.heap h'->vL X.prog X.w H h':=fun {a h'} ha hs b ob e=>by
  obtain ⟨_,_,hfree⟩:=ha;refine (I.hok b ob e).stay (fun c w' hc q=>(hs.2 c ?_).trans q) (fun _ q=>q) fun _ _ q=>q;rintro rfl;rcases hc with rfl|hc
  .rw [hfree] at e;cases e
  .rw [hfree] at hc;cases hc
 rcases hx with hk|hk
 .refine wpAny_storeName_local hk hn (fun h' hn' hs=>?_) hcls;obtain ⟨oL,_,_,hoL,_⟩:=id hn;refine h _ ⟨I.ok,I.os,I.bare,⟨fun b o e n hb hx=>?_,fun b o e n hb hx=>?_,I.base.free,fun b o e hx=>?_,I.base.tups,I.base.frzs,I.base.tbls⟩,⟨_,hn',fun j y v' e1 e2 e3=>?_⟩,fun y c e=>?_,I.free,I.freeC,fun p hp=>?_,tracked ⟨oL,hoL,I.free⟩ hs,by simpa using I.len,Nat.succ_pos _⟩ ⟨_,hs,.inl rfl⟩
  .exact (hs.2 b (Nat.ne_of_lt (Nat.lt_of_lt_of_le (Heap.lt_size e) I.ok.above))).trans (I.base.keep b o e n hb hx)
  .obtain ⟨sl,e1⟩:=I.base.slot b o e n hb hx;exact ⟨sl,(hs.2 b (Nat.ne_of_lt (Nat.lt_of_lt_of_le (Heap.lt_size e) I.ok.above))).trans e1⟩
  .obtain ⟨o',e1⟩:=I.base.there b o e hx;exact ⟨o',(hs.2 b (Nat.ne_of_lt (Nat.lt_of_lt_of_le (Heap.lt_size e) I.ok.above))).trans e1⟩
  .by_cases hj:j=i
   .subst hj;rw [hi] at e1;cases e1;rw [List.getElem?_set_self hiσ] at e2;cases e2;exact ⟨u,r,.inl ⟨hk,by simp⟩⟩
   .rw [List.getElem?_set_ne (Ne.symm hj)] at e2;obtain ⟨u',r',q⟩:=hl j y v' e1 e2 e3;refine ⟨u',r',?_⟩;rcases q with ⟨k,e⟩|⟨k,c,e,z⟩
    .refine .inl ⟨k,?_⟩;have:y≠x:=fun e=>hj (gX hN e1 (e▸hi));simp [this,e]
    .exact .inr ⟨k,c,e,z.sameBut hs (cne y c e)⟩
  .obtain ⟨w',z⟩:=I.cell y c e;exact ⟨w',z.sameBut hs (cne y c e)⟩
  .obtain ⟨e,n,ne,nf,d⟩:=I.pin p hp;exact ⟨(hs.2 p.1 ne).trans e,n,ne,nf,d⟩
 .have hfn:X.fn x=true:=by
   rcases hf with z|z
   .exact z
   .rw [z] at hk;cases hk
  obtain ⟨c,hc⟩:=I.ok.has x (.inl hk);obtain ⟨w',z⟩:=I.cell x c hc;refine wpAny_storeName_cell I.ok.kind hk hc z (fun h' hc' hs=>?_);obtain ⟨oc,hoc,hocd⟩:=id z;refine h { s with heap:=h' } ⟨I.ok,I.os,I.bare,⟨fun b o e n hb hx=>?_,fun b o e n hb hx=>?_,I.base.free,fun b o e hx=>?_,I.base.tups,I.base.frzs,I.base.tbls⟩,⟨m,hn.sameBut hs (Ne.symm (cne x c hc)),fun j y v' e1 e2 e3=>?_⟩,fun y c' e=>?_,I.free,I.freeC,fun p hp=>?_,tracked ⟨oc,hoc,I.freeC x c hc⟩ hs,by simpa using I.len,I.tk⟩ ⟨c,hs,.inr hc⟩
  .exact (hs.2 b (Nat.ne_of_lt (Nat.lt_of_lt_of_le (Heap.lt_size e) (I.ok.cab x c hfn hc)))).trans (I.base.keep b o e n hb hx)
  .obtain ⟨sl,e1⟩:=I.base.slot b o e n hb hx;exact ⟨sl,(hs.2 b (Nat.ne_of_lt (Nat.lt_of_lt_of_le (Heap.lt_size e) (I.ok.cab x c hfn hc)))).trans e1⟩
  .obtain ⟨o',e1⟩:=I.base.there b o e hx;exact ⟨o',(hs.2 b (Nat.ne_of_lt (Nat.lt_of_lt_of_le (Heap.lt_size e) (I.ok.cab x c hfn hc)))).trans e1⟩
  .by_cases hj:j=i
   .subst hj;rw [hi] at e1;cases e1;rw [List.getElem?_set_self hiσ] at e2;cases e2;exact ⟨u,r,.inr ⟨.inl hk,c,hc,hc'⟩⟩
   .rw [List.getElem?_set_ne (Ne.symm hj)] at e2;obtain ⟨u',r',q⟩:=hl j y v' e1 e2 e3;refine ⟨u',r',?_⟩;rcases q with q|⟨k,c',e,z'⟩
    .exact .inl q
    .refine .inr ⟨k,c',e,z'.sameBut hs ?_⟩;rintro rfl;exact hj (gX hN e1 (I.ok.inj _ _ _ e hc▸hi))
  .by_cases hcc:c'=c
   .subst hcc;exact ⟨_,hc'⟩
   .obtain ⟨w2,z2⟩:=I.cell y c' e;exact ⟨w2,z2.sameBut hs hcc⟩
  .obtain ⟨e,n,ne,nf,d⟩:=I.pin p hp;refine ⟨(hs.2 p.1 ?_).trans e,n,ne,nf,d⟩;intro q;rw [q,hoc] at e;have q':oc=p.2:=Option.some.inj e;exact d w' (by rw [← q'];exact hocd)
theorem mM {M:Model} {A:Around} {E:Value->Shared->Prop} {i:Nat} {x:Str} {v:V} {u:Value} {Q:Unit->Shared->Prop} (I:Inv X pins σ H s) (hN:X.N.Nodup) (hi:X.N[i]?=some x) (hx:Loc X.env.scope x) (r:yY v u)
  (h:∀ s',Inv X pins (σ.set i (some v)) H s'->Q () s') (hf:X.fn x=true\/X.env.scope.names.lookup x=some .local:=by first|exact .inl rfl|exact .inr rfl|assumption):wpAny M A (storeName X.env x u) Q E s :=
 dC I hN hi hx r (fun s' I' _=>h s' I') hf
theorem Inv.call' {s':Shared} {ch:List Addr} (I:Inv X pins σ H s) (ho:s'.os=s.os) (u:Un (rB X.stack) ch H H' s.heap s'.heap) (hok:vL X.prog X.w H' s'.heap) (hg:AllBare s'.gens)
  (hch:∀ b∈ch,(b∈X.ex\/X.s₀.heap.objs.size<=b)/\b≠X.env.locals/\(∀ x c,X.env.cells.lookup x=some c->c≠b)/\∀ p∈X.pn++pins,p.1≠b) (ht:0<s'.toks):Inv X pins σ H' s':=by
 obtain ⟨h',g',d',t',o'⟩:=s';have e:o'=s.os:=ho;subst e;exact I.call (g':=g') (t':=t') (d':=d') u hok hg hch
end
abbrev XK:=Value->Option Addr->Hp->Prop
abbrev St:=List (Option V)
abbrev VK:=V->Hp->Prop
abbrev TE:=St->Hp->VK->Prop
abbrev TT:=St->Hp->(Bool->Hp->Prop)->Prop
abbrev TA:=St->Hp->(List V->Hp->Prop)->Prop
structure Ends where
 nx:St->Hp->Prop
 rt:VK
 bk:St->Hp->Prop:=fun _ _=>False
 ct:St->Hp->Prop:=fun _ _=>False
abbrev TS:=Ends->St->Hp->Prop
def EP (X:Cx) (pins:List (Addr×Obj)) (σ:St) (Q:VK) (u:Value) (s':Shared):Prop:=∃ v H',Inv X pins σ H' s'/\yY v u/\Q v H'
def TP (X:Cx) (pins:List (Addr×Obj)) (σ:St) (Q:Bool->Hp->Prop) (b:Bool) (s':Shared):Prop:=∃ H',Inv X pins σ H' s'/\Q b H'
def AP (X:Cx) (pins:List (Addr×Obj)) (σ:St) (Q:List V->Hp->Prop) (us:List Value) (s':Shared):Prop:=∃ vs H',Inv X pins σ H' s'/\zA vs us/\Q vs H'
def SP (X:Cx) (pins:List (Addr×Obj)) (D:Ends) (f:Flow) (s':Shared):Prop :=
 match f with
 | .next=>∃ σ' H',Inv X pins σ' H' s'/\D.nx σ' H'
 | .brk=>∃ σ' H',Inv X pins σ' H' s'/\D.bk σ' H'
 | .cont=>∃ σ' H',Inv X pins σ' H' s'/\D.ct σ' H'
 | .ret u=>∃ v σ' H',Inv X pins σ' H' s'/\yY v u/\D.rt v H'
def PE (X:Cx) (e:Expr) (t:TE):Prop :=
 ∀ (pins:List (Addr×Obj)) (s:Shared) (σ:St) (H:Hp) (Q:VK),Inv X pins σ H s->t σ H Q->wpAny (model X.prog X.w) X.A (eval e X.env) (EP X pins σ Q) X.xe s
def PT (X:Cx) (e:Expr) (t:TT):Prop :=
 ∀ (pins:List (Addr×Obj)) (s:Shared) (σ:St) (H:Hp) (Q:Bool->Hp->Prop),Inv X pins σ H s->t σ H Q->wpAny (model X.prog X.w) X.A (isTrue e X.env (eval e X.env)) (TP X pins σ Q) X.xe s
def PW (X:Cx) (e:Expr) (t:TT):Prop :=
 ∀ (whole:Sem Value) (pins:List (Addr×Obj)) (s:Shared) (σ:St) (H:Hp) (Q:Bool->Hp->Prop),Inv X pins σ H s->t σ H Q->wpAny (model X.prog X.w) X.A (isTrue e X.env whole) (TP X pins σ Q) X.xe s
theorem PW.pt {X:Cx} {e:Expr} {t:TT} (h:PW X e t):PT X e t:=h _
def PA (X:Cx) (es:List Expr) (t:TA):Prop :=
 ∀ (pos:Pos) (pins:List (Addr×Obj)) (s:Shared) (σ:St) (H:Hp) (Q:List V->Hp->Prop),Inv X pins σ H s->t σ H Q->wpAny (model X.prog X.w) X.A (spliced (backTo pos (starEach es X.env))) (AP X pins σ Q) X.xe s
def PS (X:Cx) (st:Stmt) (t:TS):Prop :=
 ∀ (pins:List (Addr×Obj)) (s:Shared) (σ:St) (H:Hp) (D:Ends),Inv X pins σ H s->t D σ H->wpAny (model X.prog X.w) X.A (exec st X.env) (SP X pins D) X.xe s
def dM (X:Cx) (st:List Stmt) (t:TS):Prop :=
 ∀ (pins:List (Addr×Obj)) (s:Shared) (σ:St) (H:Hp) (D:Ends),Inv X pins σ H s->t D σ H->wpAny (model X.prog X.w) X.A (execs st X.env) (SP X pins D) X.xe s
theorem yF {α:Type} {t:Sem α} {Q Q':α->Shared->Prop} {M:Model} {A:Around} {E:Value->Shared->Prop} {s:Shared} (h:wpAny M A t Q E s) (hQ:∀ a s,Q a s->Q' a s):wpAny M A t Q' E s:=wpAny_mono h hQ fun _ _ x=>x
end L2
namespace L2
open PySem PySem.Spec PyProof.Rows
section
variable {X : Cx}
theorem bin {a b:Expr} {ta tb:TE} (ha:PE X a ta) (hb:PE X b tb) {pins:List (Addr×Obj)} {s:Shared} {σ:St} {H:Hp} {R:V->V->Hp->Prop} (I:Inv X pins σ H s) (h:ta σ H fun x H1=>tb σ H1 fun y H2=>R x y H2)
  {α:Type} {Q:α->Shared->Prop} {f:Value->Value->Sem α}
  (hf:∀ v u s2 x y H2,Inv X pins σ H2 s2->yY x v->yY y u->R x y H2->wpAny (model X.prog X.w) X.A (f v u) Q X.xe s2) :
  wpAny (model X.prog X.w) X.A (eval a X.env) (fun v s₁=>wpAny (model X.prog X.w) X.A (eval b X.env) (fun u s₂=>wpAny (model X.prog X.w) X.A (f v u) Q X.xe s₂) X.xe s₁) X.xe s:=by
 refine yF (ha pins s σ H _ I h) fun v s1 ⟨x,H1,I1,r1,q1⟩=>?_;refine yF (hb pins s1 σ H1 _ I1 q1) fun u s2 ⟨y,H2,I2,r2,q2⟩=>?_;exact hf v u s2 x y H2 I2 r1 r2 q2
def tVar (i:Nat):TE:=fun σ H Q=>∃ v,σ[i]?=some (some v)/\Q v H
def tC (v:V):TE:=fun _ H Q=>Q v H
theorem zfq {i:Nat} {x:Str} {pos:Pos} (hN:X.N[i]?=some x) (hv:Vis X.env.scope x) (hd:(x==("__debug__" : Str))=false:=by decide) (hcd:(x==("__classdict__" : Str))=false:=by decide):PE X (.Name x pos) (tVar i):=by
 intro pins s σ H Q I h;obtain ⟨v,e,h⟩:=h;obtain ⟨m,hn,hl⟩:=I.loc;obtain ⟨u,r,l⟩:=hl i x v hN e hv;have fin:EP X pins σ Q u s:=⟨v,H,I,r,h⟩;rcases l with ⟨hk,hm⟩|⟨hk,c,hc,hcell⟩
 .exact wpAny_Name (wpAny_loadName_local I.ok.kind hk hn hm fin) hd
 .rcases hk with hk|hk
  .exact wpAny_Name (wpAny_loadName_cell I.ok.kind hk hc hcell fin) hd
  .exact wpAny_Name (wpAny_loadName_free I.ok.kind hk hc hcell fin hcd) hd
theorem ziT {i j pos}:PE X (.Constant (.int i) j pos) (tC (.int i)):=fun _ _ _ H _ I h=>wpAny_Constant_int ⟨.int i,H,I.tok _,⟨_,rfl⟩,h⟩
theorem pe_bl {b j pos}:PE X (.Constant (.bool b) j pos) (tC (.bl b)):=fun _ _ _ H _ I h=>Constant_bool ⟨.bl b,H,I,rfl,h⟩
theorem ziR {j pos}:PE X (.Constant .none j pos) (tC .non):=fun _ _ _ H _ I h=>Constant_none ⟨.non,H,I,rfl,h⟩
theorem zfr {x j pos}:PE X (.Constant (.str x) j pos) (tC (.str x)):=fun _ _ _ H _ I h=>Calls.Constant_str ⟨.str x,H,I.tok _,⟨_,rfl⟩,h⟩
def Gl (X:Cx) (x:Str):Prop:=X.env.kindOf x=some .globalImplicit
theorem qL {E:Value->Shared->Prop} {pins:List (Addr×Obj)} {s:Shared} {σ:St} {H:Hp} {x:Str} {u:Value} {pos:Pos} {Q:Value->Shared->Prop} (I:Inv X pins σ H s) (hg:Gl X x) (hm:X.mg x=some u) (h:Q u s)
  (hd:(x==("__debug__" : Str))=false:=by decide):wpAny (model X.prog X.w) X.A (eval (.Name x pos) X.env) Q E s :=
 Calls.Name_function_global I.ok.kind hg (Calls.loadGlobal_global (by rw [I.ok.glob];exact I.mod.glob.keeps I.bk) hm h) hd
theorem tI {E:Value->Shared->Prop} {pins:List (Addr×Obj)} {s:Shared} {σ:St} {H:Hp} {x:Str} {u:Value} {pos:Pos} {Q:Value->Shared->Prop} (I:Inv X pins σ H s) (hg:Gl X x) (hm:X.mg x=none) (hv:bootBuiltins x=some u) (h:Q u s)
  (hn:x ≠ "__name__" := by decide) (hd:(x==("__debug__" : Str))=false:=by decide):wpAny (model X.prog X.w) X.A (eval (.Name x pos) X.env) Q E s:=by
 obtain ⟨mb,h1,h2⟩:=I.mod.blt;exact Calls.Name_function_global I.ok.kind hg (Calls.loadGlobal_builtin (by rw [I.ok.glob];exact I.mod.glob.keeps I.bk) hm (by rw [I.ok.blt];exact h1.keeps I.bk) ((h2 x hn).trans hv) h) hd
theorem zgz {x:Str} {v:V} {u:Value} {pos:Pos} (hg:Gl X x) (hm:X.mg x=some u) (r:yY v u) (hd:(x==("__debug__" : Str))=false:=by decide):PE X (.Name x pos) (tC v) :=
 fun _ _ _ H _ I h=>qL I hg hm ⟨v,H,I,r,h⟩ hd
theorem zgD {x:Str} {v:V} {u:Value} {pos:Pos} (hg:Gl X x) (hm:X.mg x=none) (hv:bootBuiltins x=some u) (r:yY v u) (hn:x ≠ "__name__" := by decide) (hd:(x==("__debug__" : Str))=false:=by decide):PE X (.Name x pos) (tC v) :=
 fun _ _ _ H _ I h=>tI I hg hm hv ⟨v,H,I,r,h⟩ hn hd
variable {a b : Expr} {ta tb : TE} {pos : Pos}
variable {tA tB' : TT} {rest : List Expr}
def tAnd (t u:TT):TT:=fun σ H Q=>t σ H fun c H1=>if c=true then u σ H1 Q else Q false H1
def tOr (t u:TT):TT:=fun σ H Q=>t σ H fun c H1=>if c=true then Q true H1 else u σ H1 Q
def tNot (t:TT):TT:=fun σ H Q=>t σ H fun c H1=>Q (!c) H1
theorem zgo (ha:PT X a tA):PW X (.BoolOp .And [a] pos) tA:=by
 intro wh pins s σ H Q I h;refine isTrue_and (yF (ha pins s σ H Q I h) fun c s1 e=>?_)
 cases c with
 |true=>exact isTrue_and_nil e
 |false=>exact e
theorem ziA (ha:PT X a tA):PW X (.BoolOp .Or [a] pos) tA:=by
 intro wh pins s σ H Q I h;refine isTrue_or (yF (ha pins s σ H Q I h) fun c s1 e=>?_)
 cases c with
 |false=>exact isTrue_or_nil e
 |true=>exact e
theorem zfm (ha:PT X a tA) (hb:PW X (.BoolOp .And (b::rest) pos) tB'):PW X (.BoolOp .And (a::b::rest) pos) (tAnd tA tB'):=by
 intro wh pins s σ H Q I h;refine isTrue_and (yF (ha pins s σ H _ I h) fun c s1 ⟨H1,I1,q1⟩=>?_)
 cases c with
 |true=>exact hb wh pins s1 σ H1 Q I1 q1
 |false=>exact ⟨H1,I1,q1⟩
theorem ziB (ha:PT X a tA) (hb:PW X (.BoolOp .Or (b::rest) pos) tB'):PW X (.BoolOp .Or (a::b::rest) pos) (tOr tA tB'):=by
 intro wh pins s σ H Q I h;refine isTrue_or (yF (ha pins s σ H _ I h) fun c s1 ⟨H1,I1,q1⟩=>?_)
 cases c with
 |true=>exact ⟨H1,I1,q1⟩
 |false=>exact hb wh pins s1 σ H1 Q I1 q1
theorem ziC (ha:PT X a tA):PT X (.UnaryOp .Not a pos) (tNot tA):=by
 intro pins s σ H Q I h;exact isTrue_not (ha pins s σ H (fun c H1=>Q (!c) H1) I h)
def zid (ta tb:TE):TE:=fun σ H Q=>ta σ H fun x H1=>∃ c,x=.bl c/\if c=true then tb σ H1 Q else Q (.bl false) H1
def tOrV (ta tb:TE):TE:=fun σ H Q=>ta σ H fun x H1=>∃ c,x=.bl c/\if c=true then Q (.bl true) H1 else tb σ H1 Q
def tNotV (ta:TE):TE:=fun σ H Q=>ta σ H fun x H1=>∃ c,x=.bl c/\Q (.bl (!c)) H1
theorem zfs {op} {t:TE} (h:PE X a t):PE X (.BoolOp op [a] pos) t:=fun pins s σ H Q I hw=>BoolOp_one (h pins s σ H Q I hw)
theorem zft (ha:PE X a ta) (hb:PE X (.BoolOp .And (b::rest) pos) tb):PE X (.BoolOp .And (a::b::rest) pos) (zid ta tb):=by
 intro pins s σ H Q I h;refine BoolOp_and (yF (ha pins s σ H _ I h) fun v s1 ⟨x,H1,I1,r1,q1⟩=>?_);obtain ⟨c,rfl,q1⟩:=q1;cases r1;refine wpAny_truthy_bool ?_
 cases c with
 |true=>exact hb pins s1 σ H1 Q I1 q1
 |false=>exact ⟨.bl false,H1,I1,rfl,q1⟩
theorem ziP (ha:PE X a ta) (hb:PE X (.BoolOp .Or (b::rest) pos) tb):PE X (.BoolOp .Or (a::b::rest) pos) (tOrV ta tb):=by
 intro pins s σ H Q I h;refine BoolOp_or (yF (ha pins s σ H _ I h) fun v s1 ⟨x,H1,I1,r1,q1⟩=>?_);obtain ⟨c,rfl,q1⟩:=q1;cases r1;refine wpAny_truthy_bool ?_
 cases c with
 |false=>exact hb pins s1 σ H1 Q I1 q1
 |true=>exact ⟨.bl true,H1,I1,rfl,q1⟩
theorem ziQ (ha:PE X a ta):PE X (.UnaryOp .Not a pos) (tNotV ta):=by
 intro pins s σ H Q I h;refine UnaryOp_ (yF (ha pins s σ H _ I h) fun v s1 ⟨x,H1,I1,r1,q1⟩=>?_);obtain ⟨c,rfl,q1⟩:=q1;cases r1;exact not_of (wpAny_truthy_bool ⟨.bl (!c),H1,I1,rfl,q1⟩)
def tIf (t:TT) (ta tb:TE):TE:=fun σ H Q=>t σ H fun c H1=>if c=true then ta σ H1 Q else tb σ H1 Q
theorem zeq {c:Expr} (hc:PT X c tA) (ha:PE X a ta) (hb:PE X b tb):PE X (.IfExp c a b pos) (tIf tA ta tb):=by
 intro pins s σ H Q I h;refine wpAny_IfExp (yF (hc pins s σ H _ I h) fun d s1 ⟨H1,I1,q1⟩=>?_)
 cases d with
 |true=>exact ha pins s1 σ H1 Q I1 q1
 |false=>exact hb pins s1 σ H1 Q I1 q1
end
end L2
namespace L2
open PySem PySem.Spec PyProof.Rows
def pH (K:PySem.W.Frag) (H:Hp) (a:Addr) (xs:List V):Prop :=
 Rd H a (.lst xs) \/
  ∃ (o:Obj) (its:Array Value) (n:Nat),K.lookup a=some o/\o.cls=.type "list" /\ o.dict=none/\o.data=.seq its n/\its.size<=sizeLine/\zA xs its.toList
def rY (K:PySem.W.Frag) (H:Hp) (a:Addr) (xs:List V):Prop :=
 Rd H a (.tup xs) \/
  ∃ (o:Obj) (its:Array Value) (n:Nat),K.lookup a=some o/\o.cls=.type "tuple" /\ o.data=.seq its n/\its.size<=sizeLine/\zA xs its.toList
def absV:Value->Option V
 | .none=>some .non
 | .bool b=>some (.bl b)
 | .int i _=>some (.int i)
 | .str x _=>some (.str x)
 | .bytes b _=>some (.byt b)
 | .float b _=>some (.flt b)
 | .ref a=>some (.ref a)
 | .type n=>some (.ty n)
 |_=>none
theorem yY.abs {x:V} {u:Value} (r:yY x u):absV u=some x:=by
 cases x with
 |non=>cases r;rfl
 |bl _=>cases r;rfl
 |int _=>obtain ⟨t,rfl⟩:=r;rfl
 |str _=>obtain ⟨t,rfl⟩:=r;rfl
 |byt _=>obtain ⟨t,rfl⟩:=r;rfl
 |flt _=>obtain ⟨t,rfl⟩:=r;rfl
 |ref _=>cases r;rfl
 |ty _=>cases r;rfl
theorem yY.inj {x y:V} {u:Value} (r:yY x u) (q:yY y u):x=y:=Option.some.inj (r.abs.symm.trans q.abs)
theorem zA.inj:∀ {xs ys:List V} {us:List Value},zA xs us->zA ys us->xs=ys
 |_,_,_,.nil,.nil=>rfl
 |_,_,_,.cons r t,.cons r' t'=>by rw [r.inj r',zA.inj t t']
section
variable {X : Cx} {pins : List (Addr × Obj)} {σ : St} {H : Hp} {s : Shared} {a : Addr} {xs ys : List V}
theorem pH.of {K:PySem.W.Frag} (h:H a=some (.lst xs)):pH K H a xs:=.inl (.inl h)
theorem rY.of {K:PySem.W.Frag} (h:H a=some (.tup xs)):rY K H a xs:=.inl (.inl h)
theorem Inv.list (I:Inv X pins σ H s) (h:pH X.K H a xs):∃ its:List Value,zA xs its/\PlainL s.heap a its.toArray/\xs.length<=sizeLine:=by
 rcases h with h|⟨o,its,n,hk,hc,hd,hs,hz,r⟩
 .obtain ⟨z,its,n,r,e⟩:=h.ok I.hok;exact ⟨its,r,⟨_,n,e,rfl,rfl,rfl⟩,z⟩
 .refine ⟨its.toList,r,⟨o,n,I.kIn a o hk,hc,hd,by simpa using hs⟩,?_⟩;have e:=r.length;simp only [Array.length_toList] at e;omega
theorem Inv.tuple (I:Inv X pins σ H s) (h:rY X.K H a xs):∃ its:List Value,zA xs its/\IsTup s.heap a its.toArray/\xs.length<=sizeLine:=by
 rcases h with h|⟨o,its,n,hk,hc,hs,hz,r⟩
 .obtain ⟨z,its,r,p⟩:=h.ok I.hok;exact ⟨its,r,p,z⟩
 .refine ⟨its.toList,r,⟨o,I.kIn a o hk,hc,n,by simpa using hs⟩,?_⟩;have e:=r.length;simp only [Array.length_toList] at e;omega
theorem Inv.list_inj (I:Inv X pins σ H s) (h:pH X.K H a xs) (h':pH X.K H a ys):xs=ys:=by
 obtain ⟨its,r,⟨o,n,e,_,_,d⟩,_⟩:=I.list h;obtain ⟨its',r',⟨o',n',e',_,_,d'⟩,_⟩:=I.list h';rw [e] at e';cases e';rw [d] at d'
 injection d' with d1 _
 have:its=its':=by simpa using congrArg Array.toList d1
 subst this;exact r.inj r'
theorem Inv.tuple_inj (I:Inv X pins σ H s) (h:rY X.K H a xs) (h':rY X.K H a ys):xs=ys:=by
 obtain ⟨its,r,⟨o,e,_,n,d⟩,_⟩:=I.tuple h;obtain ⟨its',r',⟨o',e',_,n',d'⟩,_⟩:=I.tuple h';rw [e] at e';cases e';rw [d] at d'
 injection d' with d1 _
 have:its=its':=by simpa using congrArg Array.toList d1
 subst this;exact r.inj r'
end
abbrev Cx.wish (X:Cx) (E:Value->Shared->Prop):Cx:={ X with xe:=E }
abbrev Cx.nox (X:Cx):Cx:=X.wish fun _ _=>False
theorem Cx.Ok.wish {X:Cx} (ok:X.Ok) (E:Value->Shared->Prop):(X.wish E).Ok :=
 ⟨ok.mod,ok.kind,ok.glob,ok.blt,ok.above,ok.inj,ok.has,ok.cab,ok.hd,ok.frames,ok.stk,ok.exf,ok.bs,ok.bsz,ok.noex,ok.exfs,ok.funs,ok.frf⟩
theorem Cx.Ok.unwish {X:Cx} {E:Value->Shared->Prop} (ok:(X.wish E).Ok):X.Ok :=
 ⟨ok.mod,ok.kind,ok.glob,ok.blt,ok.above,ok.inj,ok.has,ok.cab,ok.hd,ok.frames,ok.stk,ok.exf,ok.bs,ok.bsz,ok.noex,ok.exfs,ok.funs,ok.frf⟩
section
variable {X : Cx} {pins : List (Addr × Obj)} {σ : St} {H : Hp} {s : Shared} {E : Value → Shared → Prop}
theorem Inv.wish (I:Inv X pins σ H s) (E:Value->Shared->Prop):Inv (X.wish E) pins σ H s:=⟨I.ok.wish E,I.os,I.bare,I.base,I.loc,I.cell,I.free,I.freeC,I.pin,I.hok,I.len,I.tk⟩
theorem Inv.unwish (I:Inv (X.wish E) pins σ H s):Inv X pins σ H s:=⟨I.ok.unwish,I.os,I.bare,I.base,I.loc,I.cell,I.free,I.freeC,I.pin,I.hok,I.len,I.tk⟩
theorem SP.unwish {D:Ends} {f:Flow} {s':Shared} (h:SP (X.wish E) pins D f s'):SP X pins D f s':=by
 cases f with
 |next=>obtain ⟨σ',H',I,q⟩:=h;exact ⟨σ',H',I.unwish,q⟩
 |brk=>obtain ⟨σ',H',I,q⟩:=h;exact ⟨σ',H',I.unwish,q⟩
 |cont=>obtain ⟨σ',H',I,q⟩:=h;exact ⟨σ',H',I.unwish,q⟩
 |ret u=>obtain ⟨v,σ',H',I,r,q⟩:=h;exact ⟨v,σ',H',I.unwish,r,q⟩
theorem PE.nox {e:Expr} {t:TE} (h:PE X.nox e t):PE X e t:=fun pins s σ H Q I hw =>
 wpAny_mono (h pins s σ H Q (I.wish _) hw) (fun _ _ ⟨v,H',I',r,q⟩=>⟨v,H',I'.unwish,r,q⟩) fun _ _ z=>False.elim z
theorem PT.nox {e:Expr} {t:TT} (h:PT X.nox e t):PT X e t:=fun pins s σ H Q I hw =>
 wpAny_mono (h pins s σ H Q (I.wish _) hw) (fun _ _ ⟨H',I',q⟩=>⟨H',I'.unwish,q⟩) fun _ _ z=>False.elim z
theorem dM.nox {st:List Stmt} {t:TS} (h:dM X.nox st t):dM X st t:=fun pins s σ H D I hw =>
 wpAny_mono (h pins s σ H D (I.wish _) hw) (fun _ _ q=>q.unwish) fun _ _ z=>False.elim z
end
section
variable {X : Cx} {st : Stmt} {rest : List Stmt} {t u : TS} {e : Expr} {te : TE} {pos : Pos}
def zia:TS:=fun D σ H=>D.nx σ H
def tSeq (t u:TS):TS:=fun D σ H=>t { D with nx:=u D } σ H
theorem zcp:dM X [] zia:=fun _ _ σ H _ I h=>wpAny_execs_nil ⟨σ,H,I,h⟩
theorem za4 (h1:PS X st t) (h2:dM X rest u):dM X (st::rest) (tSeq t u):=by
 intro pins s σ H D I h;refine wpAny_execs_cons (yF (h1 pins s σ H { D with nx:=u D } I h) fun f s1 q=>?_)
 cases f with
 |next =>
  obtain ⟨σ',H',I',q⟩:=q;exact h2 pins s1 σ' H' D I' q
 |ret v=>exact q
 |brk=>exact q
 |cont=>exact q
theorem zgs (h1:PS X st t):dM X [st] t:=by
 intro pins s σ H D I h;refine wpAny_execs_cons (yF (h1 pins s σ H D I h) fun f s1 q=>?_)
 cases f with
 |next=>exact wpAny_execs_nil q
 |ret v=>exact q
 |brk=>exact q
 |cont=>exact q
def zic:TS:=fun D σ H=>D.bk σ H
def tCont:TS:=fun D σ H=>D.ct σ H
theorem zgu:PS X (.Pass pos) zia:=fun _ _ σ H _ I h=>wpAny_Pass ⟨σ,H,I,h⟩
theorem zel:PS X (.Break pos) zic:=fun _ _ σ H _ I h=>wpAny_Break ⟨σ,H,I,h⟩
theorem zat:PS X (.Continue pos) tCont:=fun _ _ σ H _ I h=>wpAny_Continue ⟨σ,H,I,h⟩
theorem Inv.quiet {pins:List (Addr×Obj)} {σ:St} {H:Hp} {s:Shared} (I:Inv X pins σ H s):interactive X.env=false:=by simp [interactive,I.ok.kind]
def tDrop (te:TE):TS:=fun D σ H=>te σ H fun _ H1=>D.nx σ H1
theorem zcr (he:PE X e te) (hs:swapsWith e none pos.line X.env=pure false:=by rfl):PS X (.Expr e pos) (tDrop te):=by
 intro pins s σ H D I h;exact wpAny_Expr_any (yF (he pins s σ H _ I h) fun v s1 ⟨x,H1,I1,r1,q1⟩=>⟨σ,H1,I1,q1⟩) I.quiet hs
def tRet (te:TE):TS:=fun D σ H=>te σ H D.rt
theorem zcq (he:PE X e te):PS X (.Return (some e) pos) (tRet te):=by
 intro pins s σ H D I h;exact wpAny_Return_some (yF (he pins s σ H _ I h) fun v s1 ⟨x,H1,I1,r1,q1⟩=>⟨x,σ,H1,I1,r1,q1⟩)
def tRetN:TS:=fun D _ H=>D.rt .non H
theorem zgt:PS X (.Return none pos) tRetN:=fun _ _ σ H _ I h=>wpAny_Return_none ⟨.non,σ,H,I,rfl,h⟩
def tIfS (c:TT) (t u:TS):TS:=fun D σ H=>c σ H fun b H1=>if b=true then t D σ H1 else u D σ H1
theorem ziF {c:Expr} {a b:List Stmt} {tc:TT} (hc:PT X c tc) (ha:dM X a t) (hb:dM X b u):PS X (.If c a b pos) (tIfS tc t u):=by
 intro pins s σ H D I h;refine wpAny_If (yF (hc pins s σ H _ I h) fun d s1 ⟨H1,I1,q1⟩=>?_)
 cases d with
 |true=>exact ha pins s1 σ H1 D I1 q1
 |false=>exact hb pins s1 σ H1 D I1 q1
def zib:TS:=fun _ _ _=>False
theorem zek:PS X st zib:=fun _ _ _ _ _ _ h=>h.elim
end
abbrev TG:=V->St->Hp->(St->Hp->Prop)->Prop
abbrev TGs:=List V->St->Hp->(St->Hp->Prop)->Prop
def PG (X:Cx) (target:Expr) (t:TG):Prop :=
 ∀ (pins:List (Addr×Obj)) (s:Shared) (σ:St) (H:Hp) (v:V) (u:Value) (Q:St->Hp->Prop),Inv X pins σ H s->yY v u->t v σ H Q ->
  wpAny (model X.prog X.w) X.A (assign target X.env u) (fun _ s'=>∃ σ' H',Inv X pins σ' H' s'/\Q σ' H') X.xe s
def PGs (X:Cx) (ts:List Expr) (t:TGs):Prop :=
 ∀ (pins:List (Addr×Obj)) (s:Shared) (σ:St) (H:Hp) (vs:List V) (us:List Value) (Q:St->Hp->Prop),Inv X pins σ H s->zA vs us->t vs σ H Q ->
  wpAny (model X.prog X.w) X.A (assignInOrder ((assignEach ts X.env).map (·.2)) us) (fun _ s'=>∃ σ' H',Inv X pins σ' H' s'/\Q σ' H') X.xe s
abbrev TSet:=V->V->V->Hp->(Hp->Prop)->Prop
def PSet (X:Cx) (t:TSet):Prop :=
 ∀ (pins:List (Addr×Obj)) (s:Shared) (σ:St) (H:Hp) (o i v:V) (ov iv u:Value) (Q:Hp->Prop),Inv X pins σ H s->yY o ov->yY i iv->yY v u->t o i v H Q ->
  wpAny (model X.prog X.w) X.A (setItem ov iv u) (fun _ s'=>∃ H',Inv X pins σ H' s'/\Q H') X.xe s
section
variable {X : Cx} {pos : Pos}
def zeS (i:Nat):TG:=fun v σ H Q=>Q (σ.set i (some v)) H
theorem zau {i:Nat} {x:Str} (hN:X.N.Nodup) (hi:X.N[i]?=some x) (hx:Loc X.env.scope x) (hf:X.fn x=true\/X.env.scope.names.lookup x=some .local:=by first|exact .inl rfl|exact .inr rfl|assumption):PG X (.Name x pos) (zeS i):=by
 intro pins s σ H v u Q I r h;exact wpAny_assign_Name (mM I hN hi hx r (fun s' I'=>⟨_,H,I',h⟩) hf)
def gNil:TGs:=fun vs σ H Q=>vs=[]/\Q σ H
def gCons (t:TG) (u:TGs):TGs:=fun vs σ H Q=>∃ v r,vs=v::r/\t v σ H fun σ' H'=>u r σ' H' Q
theorem zct:PGs X [] gNil:=by
 intro pins s σ H vs us Q I r h;obtain ⟨e,h⟩:=h;subst e;cases r;exact assignInOrder_nil ⟨σ,H,I,h⟩
theorem hJ {e:Expr} {es:List Expr} {t:TG} {u:TGs} (h1:PG X e t) (h2:PGs X es u)
  (hs:(assignEach (e::es) X.env).map (·.2)=assign e X.env::(assignEach es X.env).map (·.2):=by rfl):PGs X (e::es) (gCons t u):=by
 intro pins s σ H vs us Q I r h;obtain ⟨v,vr,e1,h⟩:=h;subst e1
 cases r with
 |cons r rr =>
  rw [hs];refine assignInOrder_cons (yF (h1 pins s σ H _ _ _ I r h) fun _ s1 ⟨σ1,H1,I1,q1⟩=>?_);exact h2 pins s1 σ1 H1 _ _ Q I1 rr q1
def gTup (K:PySem.W.Frag) (n:Nat) (t:TGs):TG:=fun v σ H Q=>∃ a xs,v=.ref a/\rY K H a xs/\xs.length=n/\t xs σ H Q
theorem zfp {es:List Expr} {k:Nat} {t:TGs} {n:Nat} (hc:X.calm=true) (h:PGs X es t)
  (hn:(assignEach es X.env).length=n:=by rfl) (hst:(assignEach es X.env).findIdx? (·.1)=none:=by rfl):PG X (.Tuple es k pos) (gTup X.K n t):=by
 intro pins s σ H v u Q I r hw;obtain ⟨a,xs,e1,hq,hl,hw⟩:=hw;subst e1;cases r;obtain ⟨its,rv,ht,hz⟩:=I.tuple hq;refine assign_Tuple_tuple (I.ok.hd hc) ht (by simp [hn,← hl,rv.length]) hst fun h' hx=>?_;have I1:Inv X pins σ H { s with heap:=h' }:=I.kept (t':=s.toks) fun b o e=>hx b o (Nat.ne_of_lt (Heap.lt_size e)) e;exact h pins _ σ H xs _ Q I1 (by simpa using rv) hw
def tAsg (te:TE) (g:TG):TS:=fun D σ H=>te σ H fun x H1=>g x σ H1 D.nx
theorem zfo {tg e:Expr} {te:TE} {g:TG} (he:PE X e te) (hg:PG X tg g) (hs:swapsWithSole [tg] e pos.line X.env=pure false:=by rfl) (hw:swappedStores [tg] e X.env=pure none:=by rfl)
  (h1:(assignEach [tg] X.env).map (·.2)=[assign tg X.env]:=by rfl):PS X (.Assign [tg] e pos) (tAsg te g):=by
 intro pins s σ H D I h;refine wpAny_Assign_stores (yF (he pins s σ H _ I h) fun v s1 ⟨x,H1,I1,r1,q1⟩=>?_) hs hw;rw [h1];exact yF (hg pins s1 σ H1 x v _ I1 r1 q1) fun _ s2 q=>q
theorem za6 {i:Nat} {x:Str} {e:Expr} {te:TE} {pos':Pos} (hN:X.N.Nodup) (hi:X.N[i]?=some x) (hx:Loc X.env.scope x) (he:PE X e te) (hs:swapsWith e (some (.Name x pos')) pos.line X.env=pure false:=by rfl) (hf:X.fn x=true\/X.env.scope.names.lookup x=some .local:=by first|exact .inl rfl|exact .inr rfl|assumption) :
  PS X (.Assign [.Name x pos'] e pos) (tAsg te (zeS i)):=by
 intro pins s σ H D I h;refine wpAny_Assign_Name (yF (he pins s σ H _ I h) fun v s1 ⟨y,H1,I1,r1,q1⟩=>?_) hs;exact mM I1 hN hi hx r1 (fun s2 I2=>⟨_,H1,I2,q1⟩) hf
end
section
variable {X : Cx} {pos : Pos}
def zh9 (c:TT) (tb:TS):TS:=fun D σ H=>∃ W:Nat->St->Hp->Prop,(∃ m,W m σ H)/\∀ m σ H,W m σ H ->
 c σ H fun b H1=>if b=true then ∃ N:St->Hp->Prop,(∀ σ' H',N σ' H'->∃ m',m' < m/\W m' σ' H')/\tb { D with nx:=N,ct:=N,bk:=D.nx } σ H1 else D.nx σ H1
theorem za5 {c:Expr} {body:List Stmt} {tc:TT} {tb:TS} (hp:PassesOwn (model X.prog X.w) X.A X.env X.xe) (hc:PT X c tc) (hb:dM X body tb):PS X (.While c body [] pos) (zh9 tc tb):=by
 intro pins s σ H D I h;obtain ⟨W,⟨m0,w0⟩,turn⟩:=h;refine wpAny_While (codeAny_whileLoop (fun n s'=>∃ σ' H',Inv X pins σ' H' s'/\W n σ' H') ?_ m0 ⟨σ,H,I,w0⟩);rintro n s1 ⟨σ1,H1,I1,w1⟩;refine wpAny_passesOwn hp (yF (hc pins s1 σ1 H1 _ I1 (turn n σ1 H1 w1)) fun b s2 ⟨H2,I2,q2⟩=>?_)
 cases b with
 |true =>
  obtain ⟨N,hN,q2⟩:=q2;rw [if_pos rfl];refine wpAny_passesOwn hp (yF (hb pins s2 σ1 H2 _ I2 q2) fun f s3 q3=>?_)
  cases f with
  |next =>
   obtain ⟨σ3,H3,I3,n3⟩:=q3;obtain ⟨m',hm,w3⟩:=hN σ3 H3 n3;exact ⟨m',hm,σ3,H3,I3,w3⟩
  |cont =>
   obtain ⟨σ3,H3,I3,n3⟩:=q3;obtain ⟨m',hm,w3⟩:=hN σ3 H3 n3;exact ⟨m',hm,σ3,H3,I3,w3⟩
  |brk=>exact q3
  |ret v=>exact q3
 |false =>
  rw [if_neg zzN];exact wpAny_execs_nil ⟨σ1,H2,I2,q2⟩
end
structure It where
 go:Nat->Hp->Prop
 yld:Nat->Hp->V->Hp->Prop
 stop:Nat->Hp->Prop
def uN (X:Cx) (pins:List (Addr×Obj)) (H:Hp) (b:Addr):Prop :=
 H b=none/\b≠X.env.locals/\b∉X.fs/\(b∈X.ex\/X.s₀.heap.objs.size<=b)/\(∀ x c,X.env.cells.lookup x=some c->c≠b)/\∀ p∈X.pn++pins,p.1≠b
theorem Inv.fpOk {X:Cx} {pins:List (Addr×Obj)} {σ:St} {H H':Hp} {s:Shared} {b:Addr} (I:Inv X pins σ H s) (hb:s.heap.objs.size<=b) (hn:H' b=none):uN X pins H' b:=by
 refine ⟨hn,Nat.ne_of_gt (Nat.lt_of_lt_of_le I.lt hb),I.nofs hb,.inr (Nat.le_trans I.sz hb),fun x c e z=>?_,fun p hp z=>?_⟩
 .obtain ⟨v,q⟩:=I.cell x c e;exact absurd (Nat.lt_of_lt_of_le q.lt (by rw [z];exact hb)) (Nat.lt_irrefl _)
 .exact absurd (Nat.lt_of_lt_of_le (Heap.lt_size (I.pin p hp).1) (by rw [z];exact hb)) (Nat.lt_irrefl _)
structure Turn (P:Program) (w:World) (K:PySem.W.Frag) (tg:Expr) (J:It) (fp:List Addr) (it:Addr) (tn:Nat->Heap->Prop):Prop where
 mem:it∈fp
 obj:∀ i h,tn i h->∀ b∈fp,∃ o,h.get? b=some o/\∀ v,o.data≠.cell v
 keep:∀ i h h',tn i h->(∀ b∈fp,∀ o,h.get? b=some o->h'.get? b=some o)->tn i h'
 item:∀ (X:Cx),X.prog=P->X.w=w->X.K=K->X.calm=true->∀ (i:Nat) (pins:List (Addr×Obj)) (s:Shared) (σ:St) (H:Hp) (E:Value->Shared->Prop),Inv X pins σ H s->(∀ b∈fp,uN X pins H b)->tn i s.heap->J.go i H ->
  wpAny (model P w) X.A (pyNext (.ref it)) (fun r s1=>∃ u,r=some u /\
   wpAny (model P w) X.A (letOwnedTupleGo tg (.ref it) u) (fun _ s2=>∃ x H',Inv X pins σ H' s2/\yY x u/\J.yld i H x H'/\tn (i+1) s2.heap/\∀ b∈fp,H' b=none) E s1) E s
 done:∀ (X:Cx),X.prog=P->X.w=w->X.K=K->X.calm=true->∀ (i:Nat) (pins:List (Addr×Obj)) (s:Shared) (σ:St) (H:Hp) (E:Value->Shared->Prop),Inv X pins σ H s->(∀ b∈fp,uN X pins H b)->tn i s.heap->J.stop i H ->
  wpAny (model P w) X.A (pyNext (.ref it)) (fun r s1=>r=none/\Inv X pins σ H s1) E s
 self:∀ (A:Around) (i:Nat) (s:Shared) (Q:Value->Shared->Prop) (E:Value->Shared->Prop),tn i s.heap->Q (.ref it) s->wpAny (model P w) A (pyIter (.ref it)) Q E s
abbrev TI:=St->Hp->(It->Hp->Prop)->Prop
def PIE (X:Cx) (pins:List (Addr×Obj)) (σ:St) (tg:Expr) (R:It->Hp->Prop) (itv:Value) (s2:Shared):Prop :=
 ∃ (it:Addr) (fp:List Addr) (tn:Nat->Heap->Prop) (J:It) (H':Hp),itv=.ref it/\Inv X pins σ H' s2/\Turn X.prog X.w X.K tg J fp it tn/\tn 0 s2.heap/\(∀ b∈fp,uN X pins H' b)/\R J H'
def PI (X:Cx) (tg iter:Expr) (wi:TI):Prop :=
 ∀ (pins:List (Addr×Obj)) (s:Shared) (σ:St) (H:Hp) (R:It->Hp->Prop),Inv X pins σ H s->wi σ H R ->
  wpAny (model X.prog X.w) X.A (eval iter X.env) (fun v s1=>wpAny (model X.prog X.w) X.A (pyIter v) (PIE X pins σ tg R) X.xe s1) X.xe s
theorem zc8 {M:Model} {A:Around} {E:Value->Shared->Prop} {s:Shared} {tg:Expr} {it:Addr} {u:Value} {o:Obj} {n:String} {vs:Array Value} {Q:Unit->Shared->Prop} (ho:s.heap.get? it=some o) (hc:o.cls=.type n) (hd:o.data=.fields vs)
    (hn:["enumerate", "zip", "dict_itemiterator", "dict_reverseitemiterator", "odict_iterator", "itertools.zip_longest", "itertools.pairwise"].contains n=false) (hQ:Q () s):wpAny M A (letOwnedTupleGo tg (.ref it) u) Q E s:=by
  unfold letOwnedTupleGo
  cases tg<;>first
    |exact wpAny_pure hQ
    | (cases u<;>first
        |exact wpAny_pure hQ
        | (refine wpAny_bind (wpAny_load ho ?_)
           rw [hc,hd];show wpAny M A (if (["enumerate", "zip", "dict_itemiterator", "dict_reverseitemiterator", "odict_iterator", "itertools.zip_longest", "itertools.pairwise"].contains n&&vs[0]?==some (rawInt _))=true then _ else _) Q E s;rw [if_neg (by intro h;rw [hn,Bool.false_and] at h;cases h)];exact wpAny_pure hQ))
def Itl (K:PySem.W.Frag) (a:Addr):It :=
 ⟨fun i H=>∃ xs x,pH K H a xs/\xs[i]?=some x,fun i H x H'=>H'=H/\∀ xs,pH K H a xs->xs[i]?=some x,fun i H=>∃ xs,pH K H a xs/\xs.length<=i⟩
def Itt (K:PySem.W.Frag) (a:Addr):It :=
 ⟨fun i H=>∃ xs x,rY K H a xs/\xs[i]?=some x,fun i H x H'=>H'=H/\∀ xs,rY K H a xs->xs[i]?=some x,fun i H=>∃ xs,rY K H a xs/\xs.length<=i⟩
def Itr (lo:Int) (n:Nat):It:=⟨fun i _=>i<n,fun i H x H'=>H'=H/\x=.int (lo+i),fun i _=>n<=i⟩
theorem zb0 {P:Program} {w:World} {K:PySem.W.Frag} {tg:Expr} (a it:Addr):Turn P w K tg (Itl K a) [it] it (fun i h=>h.IsListIter it a i) where
 mem:=by simp
 obj:=fun i h st b hb=>by
  have e:b=it:=by simpa using hb
  subst e;obtain ⟨o,e,c,d⟩:=st;exact ⟨o,e,fun v z=>by rw [d] at z;cases z⟩
 keep:=fun i h h' st k=>st.at fun o e=>k it (by simp) o e
 item:=by
  intro X hP hw hK hc i pins s σ H E I hf st hg;subst hP hw hK;obtain ⟨xs,x,hq,hx⟩:=hg;obtain ⟨its,rv,p,hz⟩:=I.list hq;obtain ⟨u,hu,ru⟩:=rv.get hx;obtain ⟨f0,f1,f2,f3,f4,f5⟩:=hf it (by simp);refine wpAny_pyNext_list_item st p.isList (x:=u) (by simpa using hu) fun h' st' sb=>?_;have I1:Inv X pins σ H { s with heap:=h' }:=I.turned (t':=s.toks) (fun b o hb e=>(sb.2 b hb).trans e) f0 f1 f3 f4 f5;obtain ⟨o,e,c,d⟩:=id st';exact ⟨u,rfl,zc8 (s:={ s with heap:=h' }) e c d (by decide) ⟨x,H,I1,ru,⟨rfl,fun ys hy=>by rw [I.list_inj hy hq];exact hx⟩,st',fun b hb=>(hf b hb).1⟩⟩
 done:=by
  intro X hP hw hK hc i pins s σ H E I hf st hg;subst hP hw hK;obtain ⟨xs,hq,hx⟩:=hg;obtain ⟨its,rv,p,hz⟩:=I.list hq;obtain ⟨f0,f1,f2,f3,f4,f5⟩:=hf it (by simp);have hl:=rv.length;exact wpAny_pyNext_list_end (I.ok.hd hc) st p.isList (by simp;omega) fun h' eb=>⟨rfl,I.turned (t':=s.toks) (fun b o hb e=>eb b o hb e) f0 f1 f3 f4 f5⟩
 self:=fun _ _ _ _ _ st h=>wpAny_pyIter_listiter st h
theorem zbw {P:Program} {w:World} {K:PySem.W.Frag} {tg:Expr} (a it:Addr):Turn P w K tg (Itt K a) [it] it (fun i h=>h.IsTupleIter it a i) where
 mem:=by simp
 obj:=fun i h st b hb=>by
  have e:b=it:=by simpa using hb
  subst e;obtain ⟨o,e,c,d⟩:=st;exact ⟨o,e,fun v z=>by rw [d] at z;cases z⟩
 keep:=fun i h h' st k=>st.at fun o e=>k it (by simp) o e
 item:=by
  intro X hP hw hK hc i pins s σ H E I hf st hg;subst hP hw hK;obtain ⟨xs,x,hq,hx⟩:=hg;obtain ⟨its,rv,p,hz⟩:=I.tuple hq;obtain ⟨u,hu,ru⟩:=rv.get hx;obtain ⟨f0,f1,f2,f3,f4,f5⟩:=hf it (by simp);refine wpAny_pyNext_tuple_item st (show s.heap.IsTuple a its.toArray from p) (x:=u) (by simpa using hu) fun h' st' sb=>?_;have I1:Inv X pins σ H { s with heap:=h' }:=I.turned (t':=s.toks) (fun b o hb e=>(sb.2 b hb).trans e) f0 f1 f3 f4 f5;obtain ⟨o,e,c,d⟩:=id st';exact ⟨u,rfl,zc8 (s:={ s with heap:=h' }) e c d (by decide) ⟨x,H,I1,ru,⟨rfl,fun ys hy=>by rw [I.tuple_inj hy hq];exact hx⟩,st',fun b hb=>(hf b hb).1⟩⟩
 done:=by
  intro X hP hw hK hc i pins s σ H E I hf st hg;subst hP hw hK;obtain ⟨xs,hq,hx⟩:=hg;obtain ⟨its,rv,p,hz⟩:=I.tuple hq;obtain ⟨f0,f1,f2,f3,f4,f5⟩:=hf it (by simp);have hl:=rv.length;exact wpAny_pyNext_tuple_end (I.ok.hd hc) st (show s.heap.IsTuple a its.toArray from p) (by simp;omega) fun h' eb=>⟨rfl,I.turned (t':=s.toks) (fun b o hb e=>eb b o hb e) f0 f1 f3 f4 f5⟩
 self:=fun _ _ _ _ _ st h=>wpAny_pyIter_tupleiter st h
theorem zbx {P:Program} {w:World} {K:PySem.W.Frag} {tg:Expr} (it:Addr) (lo:Int) (n:Nat):Turn P w K tg (Itr lo n) [it] it (fun i h=>IsRangeIter h it (lo+(i:Nat) * 1) ((n:Int)-(i:Nat)) 1) where
 mem:=by simp
 obj:=fun i h st b hb=>by
  have e:b=it:=by simpa using hb
  subst e
  exact ⟨_,st,fun v z=>by
   have z':Data.fields _=Data.cell v:=z;cases z'⟩
 keep:=fun i h h' st k=>k it (by simp) _ st
 item:=by
  intro X hP hw hK hc i pins s σ H E I hf st hg;subst hP hw hK;obtain ⟨f0,f1,f2,f3,f4,f5⟩:=hf it (by simp);have W:=Walks.range (prog:=X.prog) (w:=X.w) (I.ok.hd hc) it lo 1 n;refine jO I.tk (W.item i s _ _ hg st fun v h' tk hv st' kk h0=>?_);obtain ⟨t,rfl⟩:=hv;have I1:Inv X pins σ H { s with heap:=h',toks:=tk }:=I.turned (fun b o hb e=>kk b o (by simpa using hb) e) f0 f1 f3 f4 f5;refine ⟨_,rfl,zc8 (s:={ s with heap:=h',toks:=tk }) (n := "range_iterator") st' rfl rfl (by decide) ⟨.int (lo+i),H,I1,⟨t,?_⟩,⟨rfl,rfl⟩,st',fun b hb=>(hf b hb).1⟩⟩;rw [Int.mul_one]
 done:=by
  intro X hP hw hK hc i pins s σ H E I hf st hg;subst hP hw hK;obtain ⟨f0,f1,f2,f3,f4,f5⟩:=hf it (by simp);exact wpAny_pyNext_range_end (I.ok.hd hc) st (by have:n<=i:=hg;omega) fun h' eb=>⟨rfl,I.turned (t':=s.toks) (fun b o hb e=>eb b o hb e) f0 f1 f3 f4 f5⟩
 self:=fun _ _ _ _ _ st h=>wpAny_pyIter_rangeiter st h
end L2
namespace L2
open PySem PySem.Spec PyProof.Rows
section
variable {X : Cx} {tg : Expr}
theorem zef {pins:List (Addr×Obj)} {σ:St} {H:Hp} {s:Shared} {R:It->Hp->Prop} {E:Value->Shared->Prop} {lo hi:Int} {t u v:Tok} {tk:Nat} (I:Inv X pins σ H s) (h0:0<tk) (h1:-(2 ^ 62)<=lo) (h2:lo<2 ^ 62) (h3:-(2 ^ 62)<=hi) (h4:hi<2 ^ 62)
  (q:R (Itr lo (hi-lo).toNat) H):wpAny (model X.prog X.w) X.A (pyIter (.ref s.heap.objs.size)) (PIE X pins σ tg R) E { s with heap:=s.heap.push { cls:=.type "range", data:=.fields #[.int lo t,.int hi u,.int 1 v] },toks:=tk }:=by
 refine wpAny_pyIter_range (IsRange.new ..) (small_one h1 h2 h3 h4) ?_;have I1:Inv X pins σ H { s with heap:=s.heap.push { cls:=.type "range", data:=.fields #[.int lo t,.int hi u,.int 1 v] },toks:=tk }:=I.kept fun b o e=>Heap.get?_push_of_some _ e
 refine ⟨(s.heap.push { cls:=.type "range", data:=.fields #[.int lo t,.int hi u,.int 1 v] }).objs.size,[(s.heap.push { cls:=.type "range", data:=.fields #[.int lo t,.int hi u,.int 1 v] }).objs.size],_,_,H,rfl,
  I1.kept (t':=tk) fun b o e=>Heap.get?_push_of_some _ e,zbx _ lo (hi-lo).toNat,?_,fun b hb=>?_,q⟩
 .have e1:lo+((0:Nat):Int) * 1=lo:=by simp
  have e2:(((hi-lo).toNat:Nat):Int)-((0:Nat):Int)=Builtin.Range.rangeSize lo hi 1:=by rw [rangeSize_one];split<;>omega
  show IsRangeIter _ _ (lo+((0:Nat):Int) * 1) ((((hi-lo).toNat:Nat):Int)-((0:Nat):Int)) 1;rw [e1,e2];exact Heap.get?_push_size _ rfl
 .have e:b=(s.heap.push { cls:=.type "range", data:=.fields #[.int lo t,.int hi u,.int 1 v] }).objs.size:=by simpa using hb
  subst e;exact I1.fpOk (zzR _) (I1.hok.fresh (zzR _))
def tFor (wi:TI) (g:TG) (tb:TS):TS:=fun D σ H=>wi σ H fun J H1=>∃ W:Nat->Nat->St->Hp->Prop,(∃ m,W 0 m σ H1)/\∀ i m σ H,W i m σ H ->
 (J.stop i H/\D.nx σ H)\/(J.go i H/\∃ N:St->Hp->Prop,(∀ σ' H',N σ' H'->∃ m',m' < m/\W (i+1) m' σ' H')/\∀ x H',J.yld i H x H'->g x σ H' fun σ2 H2=>tb { D with nx:=N,ct:=N,bk:=D.nx } σ2 H2)
def rR (fp:List Addr) (h:Heap):List (Addr×Obj):=fp.filterMap fun b=>(h.get? b).map fun o=>(b,o)
theorem kB {fp:List Addr} {h:Heap} {b:Addr} {o:Obj} (hb:b∈fp) (e:h.get? b=some o):(b,o)∈rR fp h:=List.mem_filterMap.mpr ⟨b,hb,by rw [e];rfl⟩
theorem zcz {fp:List Addr} {h:Heap} {p:Addr×Obj} (hp:p∈rR fp h):p.1∈fp/\h.get? p.1=some p.2:=by
 obtain ⟨b,hb,e⟩:=List.mem_filterMap.mp hp
 cases q:h.get? b with
 |none=>rw [q] at e;cases e
 |some o =>
  rw [q] at e;have e':(b,o)=p:=Option.some.inj e;subst e';exact ⟨hb,q⟩
theorem Inv.pinned {pins:List (Addr×Obj)} {σ:St} {H:Hp} {s:Shared} {fp:List Addr} (I:Inv X pins σ H s) (hf:∀ b∈fp,uN X pins H b) (ho:∀ b∈fp,∃ o,s.heap.get? b=some o/\∀ v,o.data≠.cell v):Inv X (pins++rR fp s.heap) σ H s :=
 I.pins_of fun p hp=>(List.mem_append.mp hp).elim (fun z=>I.pin p (List.mem_append_right _ z)) fun z=>by
  obtain ⟨hb,e⟩:=zcz z;obtain ⟨f0,f1,f2,_⟩:=hf p.1 hb;obtain ⟨o,e',d⟩:=ho p.1 hb;rw [e] at e';cases e';exact ⟨e,f0,f1,f2,d⟩
theorem Inv.unpinned {pins pl:List (Addr×Obj)} {σ:St} {H:Hp} {s:Shared} (I:Inv X (pins++pl) σ H s):Inv X pins σ H s:=I.pins_of fun p hp=>I.pin p (List.mem_append_right _ (List.mem_append_left _ hp))
theorem zfn {iter:Expr} {body:List Stmt} {wi:TI} {g:TG} {tb:TS} {pos:Pos} (hp:PassesOwn (model X.prog X.w) X.A X.env X.xe) (hc:X.calm=true) (hi:PI X tg iter wi) (hg:PG X tg g) (hb:dM X body tb)
  (hs:∀ x,foldedSetIterable iter X.env x=pure x:=by intro _;rfl):PS X (.For tg iter body [] pos) (tFor wi g tb):=by
 intro pins s σ H D I h;refine wpAny_For (yF (hi pins s σ H _ I h) fun v s1 h1=>yF h1 fun itv s2 h2=>?_) hs;obtain ⟨it,fp,tn,J,H2,e,I2,T,st2,f2,W,⟨m0,w0⟩,turn⟩:=h2;subst e;have stat:∀ {H':Hp},(∀ b∈fp,H' b=none)->∀ b∈fp,uN X pins H' b:=fun hn b hb=>⟨hn b hb,(f2 b hb).2⟩;refine codeAny_forLoop_any (fun n s'=>∃ i σ' H',Inv X pins σ' H' s'/\tn i s'.heap/\(∀ b∈fp,H' b=none)/\W i n σ' H') ?_ m0 ⟨0,σ,H2,I2,st2,fun b hb=>(f2 b hb).1,w0⟩;rintro n s3 ⟨i,σ3,H3,I3,st3,fr3,w3⟩;rcases turn i n σ3 H3 w3 with ⟨stop,qn⟩|⟨go,N,hN,step⟩
 .refine wpAny_passesOwn hp (yF (T.done X rfl rfl rfl hc i pins s3 σ3 H3 X.xe I3 (stat fr3) st3 stop) fun r s4 ⟨hr,I4⟩=>?_);subst hr;exact wpAny_execs_nil ⟨σ3,H3,I4,qn⟩
 .refine wpAny_passesOwn hp (yF (T.item X rfl rfl rfl hc i pins s3 σ3 H3 X.xe I3 (stat fr3) st3 go) fun r s4 ⟨u,hr,h4⟩=>?_);subst hr;refine wpAny_passesOwn hp (yF h4 fun _ s5 ⟨x,H5,I5,r5,y5,st5,fr5⟩=>?_);have I5':=I5.pinned (stat fr5) (T.obj _ _ st5);refine wpAny_passesOwn hp (yF (hg _ s5 σ3 H5 x u _ I5' r5 (step x H5 y5)) fun _ s6 ⟨σ6,H6,I6,q6⟩=>?_);refine wpAny_passesOwn hp (yF (hb _ s6 σ6 H6 _ I6 q6) fun f s7 q7=>?_)
  have again:∀ {σ7:St} {H7:Hp},Inv X (pins++rR fp s5.heap) σ7 H7 s7->N σ7 H7->∃ m,m<n/\∃ i σ' H',Inv X pins σ' H' s7/\tn i s7.heap/\(∀ b∈fp,H' b=none)/\W i m σ' H':=fun {σ7 H7} I7 n7=>by
   obtain ⟨m',hm,w7⟩:=hN σ7 H7 n7;refine ⟨m',hm,i+1,σ7,H7,I7.unpinned,T.keep _ _ _ st5 fun b hb o e=>(I7.pin (b,o) (List.mem_append_right _ (List.mem_append_right _ (kB hb e)))).1,fun b hb=>?_,w7⟩;obtain ⟨o,e,d⟩:=T.obj _ _ st5 b hb;exact (I7.pin (b,o) (List.mem_append_right _ (List.mem_append_right _ (kB hb e)))).2.1
  cases f with
  |next=>obtain ⟨σ7,H7,I7,n7⟩:=q7;exact again I7 n7
  |cont=>obtain ⟨σ7,H7,I7,n7⟩:=q7;exact again I7 n7
  |brk=>obtain ⟨σ7,H7,I7,q7⟩:=q7;exact ⟨σ7,H7,I7.unpinned,q7⟩
  |ret v=>obtain ⟨x7,σ7,H7,I7,r7,q7⟩:=q7;exact ⟨x7,σ7,H7,I7.unpinned,r7,q7⟩
end
end L2
namespace L2
open PySem PySem.Spec PyProof.Rows
abbrev R2:=V->V->Hp->VK->Prop
def kQ (X:Cx) (f:Value->Value->Sem Value) (r:R2):Prop :=
 ∀ (pins:List (Addr×Obj)) (s:Shared) (σ:St) (H:Hp) (x y:V) (v u:Value) (Q:VK),Inv X pins σ H s->yY x v->yY y u->r x y H Q ->
  wpAny (model X.prog X.w) X.A (f v u) (EP X pins σ Q) X.xe s
def UnR (X:Cx) (f:Value->Sem Value) (r:V->Hp->VK->Prop):Prop :=
 ∀ (pins:List (Addr×Obj)) (s:Shared) (σ:St) (H:Hp) (x:V) (v:Value) (Q:VK),Inv X pins σ H s->yY x v->r x H Q ->
  wpAny (model X.prog X.w) X.A (f v) (EP X pins σ Q) X.xe s
def jP (X:Cx) (f:Value) (r:List V->Hp->VK->Prop):Prop :=
 ∀ (pins:List (Addr×Obj)) (s:Shared) (σ:St) (H:Hp) (xs:List V) (us:List Value) (Q:VK),Inv X pins σ H s->zA xs us->r xs H Q ->
  wpAny (model X.prog X.w) X.A (call f us) (EP X pins σ Q) X.xe s
def TruR (X:Cx) (r:V->Hp->(Bool->Hp->Prop)->Prop):Prop :=
 ∀ (pins:List (Addr×Obj)) (s:Shared) (σ:St) (H:Hp) (x:V) (v:Value) (Q:Bool->Hp->Prop),Inv X pins σ H s->yY x v->r x H Q ->
  wpAny (model X.prog X.w) X.A (truthy v) (TP X pins σ Q) X.xe s
def tOp (r:R2) (ta tb:TE):TE:=fun σ H Q=>ta σ H fun x H1=>tb σ H1 fun y H2=>r x y H2 Q
def tUn (r:V->Hp->VK->Prop) (ta:TE):TE:=fun σ H Q=>ta σ H fun x H1=>r x H1 Q
def rI (C:Int->Int->Prop) (g:Int->Int->V):R2:=fun x y H Q=>∃ i j,x=.int i/\y=.int j/\C i j/\Q (g i j) H
def rI0 (g:Int->Int->V):R2:=fun x y H Q=>∃ i j,x=.int i/\y=.int j/\Q (g i j) H
def rU (g:Int->V):V->Hp->VK->Prop:=fun x H Q=>∃ i,x=.int i/\Q (g i) H
section
variable {X : Cx} {a b c : Expr} {ta tb tc : TE} {pos : Pos}
theorem binT (ha:PE X a ta) (hb:PE X b tb) {pins:List (Addr×Obj)} {s:Shared} {σ:St} {H:Hp} {R:V->V->Hp->Prop} (I:Inv X pins σ H s)
  (h:ta σ H fun x H1=>tb σ H1 fun y H2=>R x y H2) {Q:Value->Shared->Prop} {f:Value->Value->Sem Value}
  (hf:∀ v u s2 x y H2,Inv X pins σ H2 s2->yY x v->yY y u->R x y H2->wpAny (model X.prog X.w) X.A (f v u) Q X.xe s2) :
  wpAny (model X.prog X.w) X.A (eval a X.env) (fun v s₁=>wpAny (model X.prog X.w) X.A (eval b X.env) (fun u s₂=>wpAny (model X.prog X.w) X.A (f v u) Q X.xe s₂) X.xe s₁) X.xe s:=by
 refine yF (ha pins s σ H _ I h) fun v s1 ⟨x,H1,I1,r1,q1⟩=>?_;refine yF (hb pins s1 σ H1 _ I1 q1) fun u s2 ⟨y,H2,I2,r2,q2⟩=>?_;exact hf v u s2 x y H2 I2 r1 r2 q2
theorem pe_op {op:Operator} {r:R2} (ho:kQ X (binaryOp op) r) (ha:PE X a ta) (hb:PE X b tb):PE X (.BinOp a op b pos) (tOp r ta tb):=by
 intro pins s σ H Q I h;exact wpAny_BinOp (binT ha hb I h fun v u s2 x y H2 I2 rx ry q=>ho pins s2 σ H2 x y v u Q I2 rx ry q)
theorem pe_un {op:UnaryOp} {r:V->Hp->VK->Prop} (ho:UnR X (unaryOp op) r) (ha:PE X a ta):PE X (.UnaryOp op a pos) (tUn r ta):=by
 intro pins s σ H Q I h;exact UnaryOp_ (yF (ha pins s σ H _ I h) fun v s1 ⟨x,H1,I1,r1,q1⟩=>ho pins s1 σ H1 x v Q I1 r1 q1)
theorem opI {f:Value->Value->Sem Value} {C:Int->Int->Prop} {g:Int->Int->Int}
  (rule:∀ (i j:Int) (t u:Tok) (s:Shared) (Q:Value->Shared->Prop) (E:Value->Shared->Prop),C i j->Q (.int (g i j) s.toks) { s with toks:=s.toks+1 }->wpAny (model X.prog X.w) X.A (f (.int i t) (.int j u)) Q E s) :
  kQ X f (rI C fun i j=>.int (g i j)):=by
 intro pins s σ H x y v u Q I rx ry h;obtain ⟨i,j,rfl,rfl,hc,q⟩:=h;obtain ⟨t,rfl⟩:=rx;obtain ⟨t',rfl⟩:=ry;exact rule i j t t' s _ _ hc ⟨.int (g i j),H,I.tok _,⟨_,rfl⟩,q⟩
theorem opI0 {f:Value->Value->Sem Value} {g:Int->Int->Int}
  (rule:∀ (i j:Int) (t u:Tok) (s:Shared) (Q:Value->Shared->Prop) (E:Value->Shared->Prop),Q (.int (g i j) s.toks) { s with toks:=s.toks+1 }->wpAny (model X.prog X.w) X.A (f (.int i t) (.int j u)) Q E s) :
  kQ X f (rI0 fun i j=>.int (g i j)):=by
 intro pins s σ H x y v u Q I rx ry h;obtain ⟨i,j,rfl,rfl,q⟩:=h;obtain ⟨t,rfl⟩:=rx;obtain ⟨t',rfl⟩:=ry;exact rule i j t t' s _ _ ⟨.int (g i j),H,I.tok _,⟨_,rfl⟩,q⟩
theorem opB0 {f:Value->Value->Sem Value} {g:Int->Int->Bool}
  (rule:∀ (i j:Int) (t u:Tok) (s:Shared) (Q:Value->Shared->Prop) (E:Value->Shared->Prop),Q (.bool (g i j)) s->wpAny (model X.prog X.w) X.A (f (.int i t) (.int j u)) Q E s) :
  kQ X f (rI0 fun i j=>.bl (g i j)):=by
 intro pins s σ H x y v u Q I rx ry h;obtain ⟨i,j,rfl,rfl,q⟩:=h;obtain ⟨t,rfl⟩:=rx;obtain ⟨t',rfl⟩:=ry;exact rule i j t t' s _ _ ⟨.bl (g i j),H,I,rfl,q⟩
def CDiv (i j:Int):Prop:=0<j/\j<1073741824
def CPow (i j:Int):Prop:=0<=j/\j<=1000000/\i.natAbs<2 ^ 64
def CMul (i j:Int):Prop:=(-(2 ^ 64)<i/\i<2 ^ 64)\/(-(2 ^ 64)<j/\j<2 ^ 64)
theorem CMul.ok {i j:Int} (h:CMul i j):IntMulOk i j:=by
 rcases h with ⟨h1,h2⟩|⟨h1,h2⟩
 .exact .of_left (intBits_le_64 h1 h2)
 .exact .of_right (intBits_le_64 h1 h2)
theorem zi5:kQ X (binaryOp .Add) (rI0 fun i j=>.int (i+j)):=opI0 fun _ _ _ _ _ _ _ q=>add_int q
theorem ziZ:kQ X (binaryOp .Sub) (rI0 fun i j=>.int (i-j)):=opI0 fun _ _ _ _ _ _ _ q=>sub_int q
theorem zi2:kQ X (binaryOp .Mult) (rI CMul fun i j=>.int (i * j)):=opI fun _ _ _ _ _ _ _ hc q=>mul_int q hc.ok
theorem zgH:kQ X (binaryOp .FloorDiv) (rI CDiv fun i j=>.int (i / j)):=opI fun i j _ _ _ _ _ hc q=>by
 have h1:(0:Int)<j:=hc.1;have h2:j<1073741824:=hc.2;exact floordiv_int (by omega) (by rw [Int.fdiv_eq_ediv_of_nonneg i (by omega)];exact q) (.inl (PyProof.noPylong_small (by omega)))
theorem zi3:kQ X (binaryOp .Mod) (rI (fun _ j=>0<j) fun i j=>.int (i % j)):=opI fun i j _ _ _ _ _ hc q=>by
 have h1:(0:Int)<j:=hc;exact mod_int' (by omega) (by rw [Int.fmod_eq_emod_of_nonneg i (by omega)];exact q)
theorem zi1:kQ X (binaryOp .Pow) (rI CPow fun i j=>.int (i ^ j.toNat)):=opI fun _ _ _ _ _ _ _ hc q=>pow_int_small hc.1 hc.2.1 hc.2.2 q
theorem unI {f:Value->Sem Value} {g:Int->Int}
  (rule:∀ (i:Int) (t:Tok) (s:Shared) (Q:Value->Shared->Prop) (E:Value->Shared->Prop),Q (.int (g i) s.toks) { s with toks:=s.toks+1 }->wpAny (model X.prog X.w) X.A (f (.int i t)) Q E s) :
  UnR X f (rU fun i=>.int (g i)):=by
 intro pins s σ H x v Q I rx h;obtain ⟨i,rfl,q⟩:=h;obtain ⟨t,rfl⟩:=rx;exact rule i t s _ _ ⟨.int (g i),H,I.tok _,⟨_,rfl⟩,q⟩
theorem zhZ:UnR X (unaryOp .USub) (rU fun i=>.int (-i)):=unI fun _ _ _ _ _ q=>neg_int q
end
section
variable {X : Cx} {a b c : Expr} {ta tb tc : TE} {pos : Pos}
theorem zj2 {pins:List (Addr×Obj)} {σ:St} {H:Hp} {s:Shared} {Q:VK} {k k':Bool} (I:Inv X pins σ H s) (q:Q (.bl k) H) (e:k=k'):EP X pins σ Q (.bool k') s:=by
 subst e;exact ⟨.bl k,H,I,rfl,q⟩
theorem op_lt:kQ X (compareOp .Lt) (rI0 fun i j=>.bl (decide (i<j))):=opB0 fun _ _ _ _ _ _ _ q=>lt_int q
theorem op_le:kQ X (compareOp .LtE) (rI0 fun i j=>.bl (decide (i<=j))):=opB0 fun _ _ _ _ _ _ _ q=>le_int q
theorem op_gt:kQ X (compareOp .Gt) (rI0 fun i j=>.bl (decide (j<i))):=opB0 fun _ _ _ _ _ _ _ q=>gt_int q
theorem op_ge:kQ X (compareOp .GtE) (rI0 fun i j=>.bl (decide (j<=i))):=opB0 fun _ _ _ _ _ _ _ q=>ge_int q
theorem zcy:kQ X (compareOp .In) (fun x y H Q=>∃ i j,x=.str i/\y=.str j/\Q (.bl (!(Builtin.Str.occurrences j i 0 j.length 1).isEmpty)) H):=by
 intro pins s σ H x y v u Q I rx ry h;obtain ⟨i,j,rfl,rfl,q⟩:=h;obtain ⟨t,rfl⟩:=rx;obtain ⟨t',rfl⟩:=ry;exact in_str (zj2 I q rfl)
theorem zgB {op:CmpOp} {r:R2} (ho:kQ X (compareOp op) r) (ha:PE X a ta) (hb:PE X b tb) (hm:behindInMarks op b=false):PE X (.Compare a [op] [b] pos) (tOp r ta tb):=by
 intro pins s σ H Q I h;exact wpAny_Compare1 (binT ha hb I h fun v u s2 x y H2 I2 rx ry q=>ho pins s2 σ H2 x y v u Q I2 rx ry q) hm
def zf8 (t:TE):TT:=fun σ H Q=>t σ H fun x H'=>∃ k,x=.bl k/\Q k H'
theorem zgr {op:CmpOp} {r:R2} (ho:kQ X (compareOp op) r) (ha:PE X a ta) (hb:PE X b tb) (hm:behindInMarks op b=false):PT X (.Compare a [op] [b] pos) (zf8 (tOp r ta tb)):=by
 intro pins s σ H Q I h
 refine wpAny_isTrue_Compare1 (yF (ha pins s σ H _ I h) fun v s1 ⟨x,H1,I1,r1,q1⟩=>yF (hb pins s1 σ H1 _ I1 q1) fun u s2 ⟨y,H2,I2,r2,q2⟩ =>
  yF (ho pins s2 σ H2 x y v u _ I2 r1 r2 q2) fun c s3 ⟨z,H3,I3,r3,k,e,q3⟩=>?_) hm
 subst e;cases r3;exact wpAny_truthy_bool ⟨H3,I3,q3⟩
def zb6 (r r':R2) (ta tb tc:TE):TE:=fun σ H Q=>ta σ H fun x H1=>tb σ H1 fun y H2=>r x y H2 fun z H3=>∃ k,z=.bl k /\
 (if k=true then tc σ H3 fun w' H4=>r' y w' H4 Q else Q (.bl false) H3)
theorem zes {op op':CmpOp} {r r':R2} (ho:kQ X (compareOp op) r) (ho':kQ X (compareOp op') r') (ha:PE X a ta) (hb:PE X b tb) (hc:PE X c tc)
  (hm:lastMarks [op,op'] [b,c]=false:=by with_unfolding_all rfl):PE X (.Compare a [op,op'] [b,c] pos) (zb6 r r' ta tb tc):=by
 intro pins s σ H Q I h
 refine Compare_chain (yF (ha pins s σ H _ I h) fun v s1 ⟨x,H1,I1,r1,q1⟩=>chain_link (yF (hb pins s1 σ H1 _ I1 q1) fun u s2 ⟨y,H2,I2,r2,q2⟩ =>
  yF (ho pins s2 σ H2 x y v u _ I2 r1 r2 q2) fun d s3 ⟨z,H3,I3,r3,k,e,q3⟩=>?_)) hm
 subst e;cases r3;refine wpAny_truthy_bool ?_
 cases k with
 |false=>exact ite_ff ⟨.bl false,H3,I3,rfl,q3⟩
 |true=>exact ite_tt (chain_last (yF (hc pins s3 σ H3 _ I3 q3) fun w' s4 ⟨z',H4,I4,r4,q4⟩=>ho' pins s4 σ H4 y z' u w' Q I4 r2 r4 q4))
theorem zeh {op op':CmpOp} {r r':R2} (ho:kQ X (compareOp op) r) (ho':kQ X (compareOp op') r') (ha:PE X a ta) (hb:PE X b tb) (hc:PE X c tc)
  (hm:lastMarks [op,op'] [b,c]=false:=by with_unfolding_all rfl):PT X (.Compare a [op,op'] [b,c] pos) (zf8 (zb6 r r' ta tb tc)):=by
 intro pins s σ H Q I h
 refine isTrue_chain (yF (ha pins s σ H _ I h) fun v s1 ⟨x,H1,I1,r1,q1⟩=>test_link (yF (hb pins s1 σ H1 _ I1 q1) fun u s2 ⟨y,H2,I2,r2,q2⟩ =>
  yF (ho pins s2 σ H2 x y v u _ I2 r1 r2 q2) fun d s3 ⟨z,H3,I3,r3,k,e,q3⟩=>?_)) hm
 subst e;cases r3;refine wpAny_truthy_bool ?_
 cases k with
 |false =>
  obtain ⟨k',e',q'⟩:=q3;cases e';exact ite_ff ⟨H3,I3,q'⟩
 |true =>
  refine ite_tt (test_last (yF (hc pins s3 σ H3 _ I3 q3) fun w' s4 ⟨z',H4,I4,r4,q4⟩=>yF (ho' pins s4 σ H4 y z' u w' _ I4 r2 r4 q4) fun d' s5 ⟨z2,H5,I5,r5,k2,e2,q5⟩=>?_));subst e2;cases r5;exact wpAny_truthy_bool ⟨H5,I5,q5⟩
def TruV (K:PySem.W.Frag) (x:V) (H:Hp) (k:Bool):Prop :=
 match x with
 | .non=>k=false
 | .bl b=>k=b
 | .int i=>k=(i != 0)
 | .str y=>y.length<=sizeLine/\k=((y.length:Int) != 0)
 | .byt y=>y.size<=sizeLine/\k=((y.size:Int) != 0)
 | .ref p=>(∃ xs,pH K H p xs/\k=!xs.isEmpty)\/(∃ xs,rY K H p xs/\k=!xs.isEmpty)\/∃ kvs,H p=some (.dK kvs)/\k=!kvs.isEmpty
 |_=>False
theorem zbG {κ:Type} {kvs:List (κ×V)} {vs:List (κ×Value)} (r:KV kvs vs):(!vs.isEmpty)=!kvs.isEmpty:=by
 cases r<;>rfl
theorem fV {xs:List V} {its:List Value} (r:zA xs its):(!its.toArray.isEmpty)=!xs.isEmpty:=by
 cases r<;>simp
theorem tJ:(sizeLine:Nat)<2 ^ 63:=by rw [sizeLine_eq];decide
theorem zh2:TruR X (fun x H Q=>∃ k,TruV X.K x H k/\Q k H):=by
 intro pins s σ H x v Q I rx h;obtain ⟨k,e,q⟩:=h;have hl:=tJ;have hs:sizeLine=16777216:=sizeLine_eq
 cases x with
 |non =>
  cases rx;have e':k=false:=e;subst e';exact truthy_none ⟨H,I,q⟩
 |bl b =>
  cases rx;have e':k=b:=e;subst e';exact wpAny_truthy_bool ⟨H,I,q⟩
 |int i =>
  obtain ⟨t,rfl⟩:=rx;have e':k=(i != 0):=e;subst e';exact PySem.P.truthy_int ⟨H,I,q⟩
 |str y =>
  obtain ⟨t,rfl⟩:=rx;obtain ⟨hy,e'⟩:y.length<=sizeLine/\k=((y.length:Int) != 0):=e;subst e';exact PySem.P.truthy_str (by omega) ⟨H,I.tok _,q⟩
 |byt y =>
  obtain ⟨t,rfl⟩:=rx;obtain ⟨hy,e'⟩:y.size<=sizeLine/\k=((y.size:Int) != 0):=e;subst e';exact PySem.W.truthy_bytes (by omega) ⟨H,I.tok _,q⟩
 |ref p =>
  cases rx;have e':(∃ xs,pH X.K H p xs/\k=!xs.isEmpty)\/(∃ xs,rY X.K H p xs/\k=!xs.isEmpty)\/∃ kvs,H p=some (.dK kvs)/\k=!kvs.isEmpty:=e;rcases e' with ⟨xs,hx,e'⟩|⟨xs,hx,e'⟩|⟨kvs,hx,e'⟩
  .subst e';obtain ⟨its,r,pl,hz⟩:=I.list hx;have hlen:=r.length;exact wpAny_truthy_list pl.isList (by simp only [zzS];omega) ⟨H,I.tok _,by rw [fV r];exact q⟩
  .subst e';obtain ⟨its,r,pl,hz⟩:=I.tuple hx;have hlen:=r.length;exact truthy_tuple pl (by simp only [zzS];omega) ⟨H,I.tok _,by rw [fV r];exact q⟩
  .subst e';obtain ⟨hz,hS,vs,r,m⟩:kvs.length<=sizeLine/\(p==sysModules)=false/\∃ vs,KV kvs vs/\s.heap.DictOf (xM X.prog X.w) p vs:=I.hok p _ hx;have hlen:kvs.length=vs.length:=Paired.length r;exact wpAny_truthy_dict hS m (by omega) ⟨H,I.tok _,by rw [zbG r];exact q⟩
 |_=>exact (show False from e).elim
theorem zeg (ha:PE X a ta) (he:∀ whole,isTrue a X.env whole=(do let v ← whole;standAt a.pos;holding [v] (truthy v))) :
  PT X a (fun σ H Q=>ta σ H fun x H'=>∃ k,TruV X.K x H' k/\Q k H'):=by
 intro pins s σ H Q I h;exact isTrue_plain (yF (ha pins s σ H _ I h) fun v s1 ⟨x,H1,I1,r1,q1⟩=>zh2 pins s1 σ H1 x v Q I1 r1 q1) (he _)
theorem zbA:kQ X (binaryOp .Add) (fun x y H Q=>∃ i j,x=.str i/\y=.str j/\i.length+j.length<=sizeLine/\Q (.str (i++j)) H):=by
 intro pins s σ H x y v u Q I rx ry h;obtain ⟨i,j,rfl,rfl,hz,q⟩:=h;obtain ⟨t,rfl⟩:=rx;obtain ⟨t',rfl⟩:=ry;exact jO I.tk (add_str (fun t' tk h0=>⟨.str (i++j),H,I.tok _ h0,⟨_,rfl⟩,q⟩) hz)
theorem qA {x:V} {us:List Value} (r:zA [x] us):∃ u,us=[u]/\yY x u:=by
 cases r with
 |cons r1 r2=>cases r2;exact ⟨_,rfl,r1⟩
theorem dH {x y:V} {us:List Value} (r:zA [x,y] us):∃ u w',us=[u,w']/\yY x u/\yY y w':=by
 cases r with
 |cons r1 r2 =>
  cases r2 with
  |cons r3 r4=>cases r4;exact ⟨_,_,rfl,r1,r3⟩
theorem zdy (hc:X.calm=true):jP X (.builtin "max") (fun xs H Q=>∃ i j,xs=[.int i,.int j]/\Q (.int (if j > i then j else i)) H):=by
 intro pins s σ H xs us Q I r h;obtain ⟨i,j,rfl,q⟩:=h;obtain ⟨u,w',rfl,⟨t,rfl⟩,⟨t',rfl⟩⟩:=dH r;refine jO I.tk (max_two_ints (I.ok.hd hc) fun h' tk k h0=>⟨_,H,I.kept k h0,?_,q⟩)
 by_cases hj:j > i
 .rw [if_pos hj,if_pos hj];exact ⟨_,rfl⟩
 .rw [if_neg hj,if_neg hj];exact ⟨_,rfl⟩
theorem bU:jP X (.type "int") (fun xs H Q=>(∃ i,xs=[.int i]/\Q (.int i) H)\/∃ k,xs=[.bl k]/\Q (.int (if k then 1 else 0)) H):=by
 intro pins s σ H xs us Q I r h;rcases h with ⟨i,rfl,q⟩|⟨k,rfl,q⟩
 .obtain ⟨u,rfl,t,rfl⟩:=qA r;exact call_int_int ⟨.int i,H,I,⟨_,rfl⟩,q⟩
 .obtain ⟨u,rfl,r1⟩:=qA r;cases r1;exact call_int_bool ⟨.int (if k then 1 else 0),H,I.tok _,⟨_,rfl⟩,q⟩
end
end L2
namespace L2
open PySem PySem.Spec PyProof.Rows
structure ObjM (h:Heap) (x dx C:Addr) (mA:Str->Option Value):Prop where
 obj:h.get? x=some (PySem.W.instObj C dx)
 ns:h.Ns1 dx mA
 ne:dx≠x
theorem zcM {h:Heap} {dx:Addr} {mA:Str->Option Value} (n:h.Ns1 dx mA):∃ od,h.get? dx=some od/\∀ name,PySem.W.lookIn name od=some (mA name):=by
 obtain ⟨o,es,ep,ho,hd,hk,_,hm⟩:=n;refine ⟨o,ho,fun name=>?_⟩;have e:=hm name;unfold nsFind findBy at e;rw [← Array.find?_toList] at e;unfold PySem.W.lookIn;rw [hd];dsimp only
 split
 .rename_i y q;rw [q] at e;exact congrArg some e
 .rename_i q;rw [q] at e
  have a:es.toList.any (·.refKey)=false:=by
   rw [List.any_eq_false];intro y hy;obtain ⟨z,t,hkey⟩:=hk y (Array.mem_toList_iff.mp hy);simp [DictEntry.refKey,hkey]
  have a':¬ es.toList.any (·.refKey)=true:=by rw [a];exact zzN
  rw [if_neg a'];exact congrArg some e
theorem ObjM.look {h:Heap} {x dx C:Addr} {mA:Str->Option Value} (I:ObjM h x dx C mA):∃ od,PySem.W.InstAt h x (PySem.W.instObj C dx) C (some od)/\∀ name,PySem.W.lookIn name od=some (mA name) :=
 let ⟨od,ho,hl⟩:=zcM I.ns
 ⟨od,⟨I.obj,rfl,rfl,ho⟩,hl⟩
section
variable {prog : Program} {w : World} {A : Around} {E : Value → Shared → Prop} {s : Shared} {K : PySem.W.Frag} {x dx C f : Addr} {mA : Str → Option Value} {name : Str} {v : Value}
theorem zhc {expr:Bool} {Q:Value->Shared->Prop} (X:K.In s.heap) (I:ObjM s.heap x dx C mA) (hg:PySem.W.plainGet K C name=true) (hh:PySem.W.hasDictIn K C=true)
  (ha:PySem.W.findIn K (.ref C) name=some none) (hv:mA name=some v) (hv':PySem.W.handedIn v=true) (h:Q v { s with toks:=s.toks+1 }) :
  wpAny (model prog w) A (getAttr (.ref x) name expr) Q E s:=by
 obtain ⟨od,J,hl⟩:=I.look;exact PySem.W.get_value X J (PySem.W.plainGet_of hg).1 (PySem.W.findObj_own hh ha rfl (by rw [hl,hv])) hv' h
theorem zgh {ns:List Str} {Q:Unit->Shared->Prop} (X:K.In s.heap) (I:ObjM s.heap x dx C mA)
  (hs:PySem.W.findIn K (.ref C) "__setattr__" = some (some (.builtin "object.__setattr__"))) (hp:PySem.W.plainOver K C=true) (ht:PySem.W.takerIn K C name=some none) (hh:PySem.W.hasDictIn K C=true)
  (hw:PySem.Within mA ns) (hsz:ns.length<=sizeLine)
  (h:∀ h',ObjM h' x dx C (fun y=>if y=name then some v else mA y)->Heap.SameBut dx s.heap h'->Q () { s with heap:=h',toks:=s.toks+2 }) :
  wpAny (model prog w) A (setAttr (.ref x) name v) Q E s:=by
 obtain ⟨od,J,hl⟩:=I.look;refine PySem.W.set_plain X J hs (PySem.W.osa_open (s:={ s with toks:=s.toks+1 }) (r:=none) X J hp ht fun b=>?_);obtain ⟨cd,hc,hd'⟩:=PySem.W.any_some hh;have hx:s.heap.get? x=some ⟨.ref C,some dx,.plain,#[]⟩:=I.obj;refine wpAny_bind (wpAny_pure (wpAny_bind (wpAny_bind (wpAny_loadPart hx (wpAny_bind (PySem.W.Looks.here (s:={ s with toks:=s.toks+1 }) (PySem.W.looks_clsIn X hc) ?_))))));rw [hd'];refine wpAny_pure (a:=some dx) (wpAny_bind (wpAny_pure (wpAny_bind ?_)));refine wpAny_nsSet1 (s:={ s with toks:=s.toks+1 }) I.ns fun h' hn2 hs2=>?_;obtain ⟨oD,esD,epD,hoD,hdD,hcD⟩:=hn2.count (PySem.Within.cons name v hw);refine wpAny_bind (wpAny_lookBehind hoD (by rw [hdD];exact pastItsLine_dict (Nat.le_trans hcD (by rw [List.length_cons];omega))) ?_);exact wpAny_pure (h _ ⟨(hs2.2 _ (Ne.symm I.ne)).trans I.obj,hn2,I.ne⟩ hs2)
end
def kH (f:Str) (v:V):List (Str×V)->List (Str×V)
 | []=>[(f,v)]
 | (g,x)::r=>if g=f then (g,v)::r else (g,x)::kH f v r
theorem pN (f g:Str) (v:V):∀ fs:List (Str×V),(kH f v fs).lookup g=if g=f then some v else fs.lookup g
 | []=>by
  show List.lookup g [(f,v)]=_
  by_cases h:g=f
  .have hb:(g==f)=true:=beq_iff_eq.mpr h;simp only [List.lookup,hb,if_pos h]
  .have hb:(g==f)=false:=beq_eq_false_iff_ne.mpr h;simp only [List.lookup,hb,if_neg h]
 | (k,x)::r=>by
  have ih:=pN f g v r;rw [show kH f v ((k,x)::r)=(if k=f then (k,v)::r else (k,x)::kH f v r) from rfl]
  by_cases hk:k=f
  .rw [if_pos hk]
   by_cases h:g=k
   .have hb:(g==k)=true:=beq_iff_eq.mpr h;simp only [List.lookup,hb,if_pos (h.trans hk)]
   .have hb:(g==k)=false:=beq_eq_false_iff_ne.mpr h;simp only [List.lookup,hb,if_neg (fun e:g=f=>h (e.trans hk.symm))]
  .rw [if_neg hk]
   by_cases h:g=k
   .have hb:(g==k)=true:=beq_iff_eq.mpr h;simp only [List.lookup,hb,if_neg (fun e:g=f=>hk (h.symm.trans e))]
   .have hb:(g==k)=false:=beq_eq_false_iff_ne.mpr h;simp only [List.lookup,hb];exact ih
theorem rE (f:Str) (v:V):∀ fs:List (Str×V),f∈(kH f v fs).map (·.1)/\∀ g,g∈fs.map (·.1)->g∈(kH f v fs).map (·.1)
 | []=>⟨by simp [kH],fun g h=>by simp at h⟩
 | (k,x)::r=>by
  obtain ⟨i1,i2⟩:=rE f v r;rw [show kH f v ((k,x)::r)=(if k=f then (k,v)::r else (k,x)::kH f v r) from rfl]
  by_cases hk:k=f
  .rw [if_pos hk];subst hk;exact ⟨by simp,fun g h=>by simpa using h⟩
  .rw [if_neg hk];refine ⟨?_,fun g h=>?_⟩
   .rw [zzU];exact List.mem_cons_of_mem _ i1
   .rw [zzU] at h ⊢;rcases List.mem_cons.mp h with e|e
    .exact List.mem_cons.mpr (.inl e)
    .exact List.mem_cons_of_mem _ (i2 g e)
theorem pL (f:Str) (v:V):∀ fs:List (Str×V),(kH f v fs).length<=fs.length+1
 | []=>by simp [kH]
 | (k,x)::r=>by
  have ih:=pL f v r;rw [show kH f v ((k,x)::r)=(if k=f then (k,v)::r else (k,x)::kH f v r) from rfl]
  by_cases hk:k=f
  .rw [if_pos hk,List.length_cons,List.length_cons];omega
  .rw [if_neg hk,List.length_cons,List.length_cons];omega
theorem pX.some_of {v:V} {o:Option Value} (r:pX (some v) o):∃ u,o=some u/\yY v u:=by
 cases o with
 |none=>exact (show False from r).elim
 |some u=>exact ⟨u,rfl,r⟩
theorem zc7 {v:V} {u:Value} (r:yY v u):PySem.W.handedIn u=true:=by
 cases v with
 |non=>cases (show u=Value.none from r);rfl
 |bl b=>cases (show u=Value.bool b from r);rfl
 |int i=>obtain ⟨t,e⟩:=(show ∃ t,u=Value.int i t from r);cases e;rfl
 |str x=>obtain ⟨t,e⟩:=(show ∃ t,u=Value.str x t from r);cases e;rfl
 |byt b=>obtain ⟨t,e⟩:=(show ∃ t,u=Value.bytes b t from r);cases e;rfl
 |flt b=>obtain ⟨t,e⟩:=(show ∃ t,u=Value.float b t from r);cases e;rfl
 |ref a=>cases (show u=Value.ref a from r);rfl
 |ty n=>cases (show u=Value.type n from r);rfl
section
variable {P : Program} {w : World} {H H' : Hp} {h h' : Heap} {a C dx : Addr} {fs fs' : List (Str × V)}
theorem zc4 (hok:vL P w H h) (e:H a=some (.ins C dx fs)):∃ mA,ObjM h a dx C mA/\(∀ f,pX (fs.lookup f) (mA f))/\PySem.Within mA (fs.map (·.1))/\fs.length<=1000/\H dx=some (.own a):=by
 obtain ⟨d,z,ne,ob,mA,n,r,q⟩:=(show xN P w H h a (.ins C dx fs) from hok a _ e);exact ⟨mA,⟨ob,n,ne⟩,r,q,z,d⟩
end
structure Cls (K:PySem.W.Frag) (C:Addr):Prop where
 pg:PySem.W.plainGet K C Str.empty=true
 hd:PySem.W.hasDictIn K C=true
 po:PySem.W.plainOver K C=true
 sa:PySem.W.findIn K (.ref C) "__setattr__" = some (some (.builtin "object.__setattr__"))
theorem Cls.get {K:PySem.W.Frag} {C:Addr} (c:Cls K C) (f:Str):PySem.W.plainGet K C f=true:=c.pg
def uP (K:PySem.W.Frag) (C:Addr) (f:Str):Prop:=PySem.W.findIn K (.ref C) f=some none
theorem uP.taker {K:PySem.W.Frag} {C:Addr} {f:Str} (n:uP K C f):PySem.W.takerIn K C f=some none:=by
 unfold PySem.W.takerIn;rw [show PySem.W.findIn K (.ref C) f=some none from n];rfl
section
variable {X : Cx} {pins : List (Addr × Obj)} {σ : St} {H : Hp} {s : Shared} {a C dx : Addr} {fs : List (Str × V)} {f : Str} {v : V} {A : Around} {E : Value → Shared → Prop}
theorem zbH {b:Bool} {Q:Value->Shared->Prop} (I:Inv X pins σ H s) (e:H a=some (.ins C dx fs)) (c:Cls X.K C) (n:uP X.K C f) (l:fs.lookup f=some v)
  (h:∀ u s',Inv X pins σ H s'->yY v u->Q u s'):wpAny (model X.prog X.w) A (getAttr (.ref a) f b) Q E s:=by
 obtain ⟨mA,O,r,_,_,_⟩:=zc4 I.hok e;obtain ⟨u,hu,ru⟩:=pX.some_of (v:=v) (o:=mA f) (by rw [← l];exact r f);exact zhc I.kIn O (c.get f) c.hd n hu (zc7 ru) (h u _ (I.tok _) ru)
theorem zby {y:V} {u:Value} {Q:Unit->Shared->Prop} (I:Inv X pins σ H s) (e:H a=some (.ins C dx fs)) (c:Cls X.K C) (n:uP X.K C f) (hl:fs.length<1000) (ry:yY y u)
  (h:∀ s',Inv X pins σ (xR H a (.ins C dx (kH f y fs))) s'->Q () s'):wpAny (model X.prog X.w) A (setAttr (.ref a) f u) Q E s:=by
 obtain ⟨mA,O,r,wi,_,ho⟩:=zc4 I.hok e;have hz:(fs.map (·.1)).length<=sizeLine:=by rw [zzM,sizeLine_eq];omega
 refine zgh I.kIn O c.sa c.po n.taker c.hd wi hz fun h' O' sb=>h _ ?_;have hd:∃ o,h'.get? dx=some o:=let ⟨o,_,_,e',_⟩:=O'.ns;⟨o,e'⟩;refine I.write (x:=a) (e:=dx) (by rw [e];exact True.intro) (.inr ho) (fun b q hb z=>(sb.2 b hb).trans z) hd ?_;refine ⟨by rw [zG O.ne];exact ho,?_,O.ne,O'.obj,_,O'.ns,fun g=>?_,fun g hg=>?_⟩
 .have:=pL f y fs;omega
 .show pX ((kH f y fs).lookup g) (if g=f then some u else mA g);rw [pN]
  by_cases q:g=f
  .rw [if_pos q,if_pos q];exact ry
  .rw [if_neg q,if_neg q];exact r g
 .by_cases q:g=f
  .rw [q];exact (rE f y fs).1
  .refine (rE f y fs).2 g (wi g fun z=>hg ?_);show (if g=f then some u else mA g)=none;rw [if_neg q];exact z
theorem zhG {prog:Program} {w:World} {env:Env} {e:Expr} {f:Str} {pos:Pos} {s:Shared} {Q:Value->Shared->Prop} (hb:attributeBase e f env (eval e env)=eval e env)
  (h:wpAny (model prog w) A (eval e env) (fun o s₁=>wpAny (model prog w) A (getAttr o f true) Q E s₁) E s):wpAny (model prog w) A (eval (.Attribute e f pos) env) Q E s :=
 Attribute_any_ h (by rw [arm_eval_Attribute,hb])
end
def tFld (K:PySem.W.Frag) (ta:TE) (f:Str):TE:=fun σ H Q=>ta σ H fun x H1=>∃ a C dx fs v,x=.ref a/\H1 a=some (.ins C dx fs)/\Cls K C/\uP K C f/\fs.lookup f=some v/\Q v H1
def sFld (K:PySem.W.Frag) (ta tv:TE) (f:Str):TS:=fun D σ H=>tv σ H fun y H1=>ta σ H1 fun x H2=>∃ a C dx fs,x=.ref a/\H2 a=some (.ins C dx fs)/\Cls K C/\uP K C f/\fs.length<1000 /\
 D.nx σ (xR H2 a (.ins C dx (kH f y fs)))
section
variable {X : Cx} {o e value : Expr} {f : Str} {pos pos' tpos : Pos} {ta tv : TE}
theorem ziU (he:PE X e ta) (hb:attributeBase e f X.env (eval e X.env)=eval e X.env):PE X (.Attribute e f pos) (tFld X.K ta f):=by
 intro pins s σ H Q I h;refine zhG hb (yF (he pins s σ H _ I h) fun u s1 ⟨x,H1,I1,rx,a,C,dx,fs,v,ex,ea,c,n,l,q⟩=>?_);subst ex;obtain rfl:u=Value.ref a:=rx;exact zbH I1 ea c n l fun u' s2 I2 ru=>⟨v,H1,I2,ru,q⟩
theorem ziG (ha:PE X o ta) (hv:PE X value tv) (hs:swapsWith value (some (.Attribute o f pos')) pos.line X.env=pure false):PS X (.Assign [.Attribute o f pos'] value pos) (sFld X.K ta tv f):=by
 intro pins s σ H D I h;refine plainObj_wpAny_Assign_Attribute (yF (hv pins s σ H _ I h) fun u s1 ⟨y,H1,I1,ry,q⟩=>yF (ha pins s1 σ H1 _ I1 q) fun ov s2 ⟨x,H2,I2,rx,a,C,dx,fs,ex,ea,c,n,l,q2⟩=>?_) hs;subst ex;obtain rfl:ov=Value.ref a:=rx;exact zby I2 ea c n l ry fun s3 I3=>⟨σ,_,I3,q2⟩
end
section
variable {X : Cx} {pins : List (Addr × Obj)} {σ : St} {H : Hp} {s : Shared} {A : Around} {E : Value → Shared → Prop} {Q : Value → Shared → Prop} {c : Value} {b : Bool}
end
end L2
namespace L2
open PySem PySem.Spec PyProof.Rows
structure Room (k:Nat) (A:Around):Prop where
 gd:A.guards=some []
 hd:A.handled=none
 dp:A.depth+3 * k+5<recursionLimit
 un:A.units+16 * k+200<cLine
theorem Room.mono {j k:Nat} {A:Around} (r:Room k A) (h:j<=k):Room j A:=⟨r.gd,r.hd,by have:=r.dp;omega,by have:=r.un;omega⟩
theorem Room.deeper {k:Nat} {A:Around} (r:Room (k+1) A) (env:Env):Room k (A.deeper env) :=
 ⟨r.gd,r.hd,by have:=r.dp;show A.depth+1+3 * k+5<_;omega,by have:=r.un;show A.units+3+16 * k+200<_;omega⟩
theorem Room.depth {k:Nat} {A:Around} (r:Room k A):A.depth<recursionLimit:=by have:=r.dp;omega
def tNil:TA:=fun _ H Q=>Q [] H
def tCons (ta:TE) (tr:TA):TA:=fun σ H Q=>ta σ H fun x H1=>tr σ H1 fun xs H2=>Q (x::xs) H2
section
variable {X : Cx} {e : Expr} {es : List Expr} {te : TE} {t : TA} {pos : Pos}
theorem zfu:PA X [] tNil:=fun _ _ _ _ H Q I h=>Calls.spliced_nil ⟨[],H,I,.nil,h⟩
theorem zcv (ha:PE X e te) (hr:PA X es t) (hs:starEach (e::es) X.env=(false,eval e X.env)::starEach es X.env:=by rfl):PA X (e::es) (tCons te t):=by
 intro pos pins s σ H Q I h;rw [hs];show wpAny _ _ (spliced ((false,eval e X.env)::backTo pos (starEach es X.env))) _ _ s;refine Calls.spliced_cons (yF (ha pins s σ H _ I h) fun u s1 ⟨x,H1,I1,r1,q1⟩=>?_);exact yF (hr pos pins s1 σ H1 _ I1 q1) fun us s2 ⟨xs,H2,I2,r2,q2⟩=>⟨x::xs,H2,I2,.cons r1 r2,q2⟩
def tTup (t:TA):TE:=fun σ H Q=>t σ H fun xs H1=>xs.length<=sizeLine/\∀ p,H1 p=none->Q (.ref p) (xR H1 p (.tup xs))
def tLst (t:TA):TE:=fun σ H Q=>t σ H fun xs H1=>xs.length<=sizeLine/\∀ p,H1 p=none->Q (.ref p) (xR H1 p (.lst xs))
theorem ziN {x1} (h:PA X es t):PE X (.Tuple es x1 pos) (tTup t):=by
 intro pins s σ H Q I hq;refine wpAny_Tuple_spliced (yF (h pos pins s σ H _ I hq) fun us s1 ⟨xs,H1,I1,r,z,q⟩=>⟨by rw [← r.length];exact z,?_⟩);have hf:H1 s1.heap.objs.size=none:=I1.hok.fresh (zzR _);refine ⟨.ref s1.heap.objs.size,xR H1 s1.heap.objs.size (.tup xs),I1.laid (t':=s1.toks) (fun b u e=>Heap.get?_push_of_some _ e) (zzR _) ?_,rfl,q _ hf⟩;exact ⟨z,us,r,⟨_,Heap.get?_push_size _ rfl,rfl,_,rfl⟩⟩
theorem ziS (h:PA X es t):PE X (.List es pos) (tLst t):=by
 intro pins s σ H Q I hq;refine wpAny_List_spliced (yF (h pos pins s σ H _ I hq) fun us s1 ⟨xs,H1,I1,r,z,q⟩=>⟨by rw [← r.length];exact z,?_⟩);have hf:H1 s1.heap.objs.size=none:=I1.hok.fresh (zzR _);refine ⟨.ref s1.heap.objs.size,xR H1 s1.heap.objs.size (.lst xs),I1.laid (t':=s1.toks) (fun b u e=>Heap.get?_push_of_some _ e) (zzR _) ?_,rfl,q _ hf⟩;exact ⟨z,us,0,r,Heap.get?_push_size _ rfl⟩
end
abbrev Sp:=List V->Hp->VK->XK->Prop
abbrev CXT:=List Env->Hp->Shared->XK->Value->Shared->Prop
structure Env0 (P:Program) (w:World) (K:PySem.W.Frag) (mg:Str->Option Value) (base:Heap) (A:Around) (outer:List Env) (s:Shared) (H:Hp):Prop where
 frames:A.frames=some outer
 mod:Mod K mg base
 bs:∀ b o,base.get? b=some o->s.heap.get? b=some o/\H b=none
 bsz:base.objs.size<=s.heap.objs.size
 funs:s.heap.FunFrames base outer
 frf:∀ b∈rB outer,H b=none
 hok:vL P w H s.heap
 bare:AllBare s.gens
 tk:0<s.toks
def CE (outer:List Env) (P:Program) (w:World) (H:Hp) (s:Shared) (Q:VK) (u:Value) (s':Shared):Prop :=
 ∃ v H',s'.os=s.os/\0<s'.toks/\AllBare s'.gens/\Un (rB outer) [] H H' s.heap s'.heap/\vL P w H' s'.heap/\yY v u/\Q v H'
def CR (CX:CXT) (outer:List Env) (P:Program) (w:World) (H:Hp) (s:Shared) (Q:VK) (E:XK) (r:Result) (s':Shared):Prop :=
 match r with
 | .ok (.ret u)=>CE outer P w H s Q u s'
 | .ok _=>False
 | .error e=>CX outer H s E e s'
structure FnOk (P:Program) (w:World) (K:PySem.W.Frag) (mg:Str->Option Value) (base:Heap) (CX:CXT) (k:Nat) (f:Addr) (fd:FuncData) (ps:List Str) (sp:Sp):Prop where
 len:∀ vs H Q E,sp vs H Q E->vs.length=ps.length
 run:∀ (A:Around) (outer:List Env) (s:Shared) (H:Hp) (args:Args) (us:List Value) (vs:List V) (Q:VK) (E:XK),Room k A->Env0 P w K mg base A outer s H->BindsTo s fd args (ps.zip us)->zA vs us->sp vs H Q E ->
  codeAny (model P w) A (.call (.ref f) args) (CR CX outer P w H s Q E) s
 one:∀ (x:Str),ps=[x]->fd.scope.names.lookup x=some .local->∀ (A:Around) (outer:List Env) (s:Shared) (H:Hp) (args:Args) (us:List Value) (vs:List V) (Q:VK) (E:XK),Room k A->Env0 P w K mg base A outer { s with toks:=1 } H->BindsTo s fd args (ps.zip us)->zA vs us->sp vs H Q E ->
  codeAny (model P w) A (.call (.ref f) args) (CR CX outer P w H s Q E) s
theorem FnOk.mono {P:Program} {w:World} {K:PySem.W.Frag} {mg:Str->Option Value} {base:Heap} {CX:CXT} {j k:Nat} {f:Addr} {fd:FuncData} {ps:List Str} {sp:Sp} (F:FnOk P w K mg base CX j f fd ps sp) (h:j<=k) :
  FnOk P w K mg base CX k f fd ps sp:=⟨F.len,fun A outer s H args us vs Q E hr=>F.run A outer s H args us vs Q E (hr.mono h),fun x e l A outer s H args us vs Q E hr=>F.one x e l A outer s H args us vs Q E (hr.mono h)⟩
section
variable {X : Cx} {pins : List (Addr × Obj)} {σ : St} {H : Hp} {s s' : Shared}
theorem Inv.env0 (I:Inv X pins σ H s):Env0 X.prog X.w X.K X.mg X.base X.A X.stack s H :=
 ⟨I.ok.frames,I.ok.mod,I.bs,Nat.le_trans I.ok.bsz I.sz,I.stack,I.stkFree,I.hok,I.bare,I.tk⟩
theorem Inv.after {Q:VK} {u:Value} (I:Inv X pins σ H s) (h:CE X.stack X.prog X.w H s Q u s'):EP X pins σ Q u s':=by
 obtain ⟨v,H',os,tk,bare,un,hok,r,q⟩:=h;obtain ⟨hh,g,d,t,os'⟩:=s';obtain rfl:os'=s.os:=os;exact ⟨v,H',I.call (h':=hh) (g':=g) (d':=d) (t':=t) (ch:=[]) un hok bare (fun b z=>absurd z (by simp)) tk,r,q⟩
end
def zga (sp:Sp) (dvs:List V) (E:XK) (t:TA):TE:=fun σ H Q=>t σ H fun vs H1=>sp (vs++dvs) H1 Q E
def kP (K:PySem.W.Frag) (fd:FuncData) (ps:List Str) (ds:List Value):Prop :=
 ∀ (s:Shared) (us:List Value),K.In s.heap->(us++ds).length=ps.length->BindsTo s fd ⟨us,[]⟩ (ps.zip (us++ds))
theorem kP.all {K:PySem.W.Frag} {fd:FuncData} {ps:List Str} (h:∀ us:List Value,us.length=ps.length->bindArgs fd ⟨us,[]⟩=pure (ps.zip us)):kP K fd ps []:=fun s us _ hl=>by
 rw [List.append_nil] at hl ⊢;exact .of_eq (h us hl)
def zbu (CX:CXT) (X:Cx) (E:XK):Prop:=∀ (pins:List (Addr×Obj)) (σ:St) (H:Hp) (s:Shared) (e:Value) (s':Shared),Inv X pins σ H s->CX X.stack H s E e s'->X.xe e s'
section
variable {X : Cx} {CX : CXT} {k : Nat} {f C : Addr} {fd : FuncData} {ps : List Str} {sp : Sp} {dvs : List V} {ds : List Value} {E : XK} {x m : Str} {p pos apos : Pos} {e o : Expr} {es : List Expr} {ta : TE} {t : TA}
theorem zfi {pins:List (Addr×Obj)} {σ:St} {H:Hp} {s:Shared} {Q:VK} {us:List Value} {vs:List V} (F:FnOk X.prog X.w X.K X.mg X.base CX k f fd ps sp) (hr:Room k X.A) (hb:kP X.K fd ps ds) (hd:zA dvs ds) (hx:zbu CX X E)
  (I:Inv X pins σ H s) (r:zA vs us) (h:sp (vs++dvs) H Q E):wpAny (model X.prog X.w) X.A (call (.ref f) us) (EP X pins σ Q) X.xe s:=by
 have r2:zA (vs++dvs) (us++ds):=r.append hd;have hl:(us++ds).length=ps.length:=by rw [← r2.length];exact F.len _ _ _ _ h
 refine wpAny_call (codeAny_mono (F.run X.A X.stack s H ⟨us,[]⟩ (us++ds) (vs++dvs) Q E hr I.env0 (hb s us I.kIn hl) r2 h) fun r s' hq=>?_)
 cases r with
 |error e=>exact hx pins σ H s e s' I hq
 |ok fl =>
  cases fl with
  |ret u=>exact I.after hq
  |next=>exact False.elim hq
  |brk=>exact False.elim hq
  |cont=>exact False.elim hq
theorem zgC (F:FnOk X.prog X.w X.K X.mg X.base CX k f fd ps sp) (hr:Room k X.A) (hg:Gl X x) (hm:X.mg x=some (.ref f)) (hk:PySem.W.keepIn X.K (.ref f)=true) (hb:kP X.K fd ps ds) (hd:zA dvs ds) (hx:zbu CX X E)
  (ha:PA X (e::es) t) (hdb:(x==("__debug__" : Str))=false:=by decide) (he:starEach (e::es) X.env=(false,eval e X.env)::starEach es X.env:=by rfl) (hpl:(backTo pos (starEach es X.env)).any (·.1)=false:=by rfl) :
  PE X (.Call (.Name x p) (e::es) [] pos) (zga sp dvs E t):=by
 intro pins s σ H Q I h;refine wpAny_Call_Name_kw (qL I hg hm ?_ hdb);refine PySem.W.callWith_K (h₀:=X.base) I.ok.mod.kin hk (yF (ha pos pins s σ H _ I h) fun us s1 ⟨vs,H1,I1,r,q⟩=>⟨I1.kIn,?_⟩) he hpl;exact zfi F hr hb hd hx I1 r q
theorem zeu (F:FnOk X.prog X.w X.K X.mg X.base CX k f fd ps sp) (hr:Room k X.A) (hg:Gl X x) (hm:X.mg x=some (.ref f)) (hk:PySem.W.keepIn X.K (.ref f)=true) (hb:kP X.K fd ps ds) (hd:zA dvs ds) (hx:zbu CX X E)
  (hdb:(x==("__debug__" : Str))=false:=by decide):PE X (.Call (.Name x p) [] [] pos) (zga sp dvs E tNil):=by
 intro pins s σ H Q I h;refine wpAny_Call_Name_kw (qL I hg hm ?_ hdb);exact PySem.W.callWith_K0 I.kIn hk (zfi (us:=[]) F hr hb hd hx I .nil h)
end
section
variable {X : Cx} {CX : CXT} {k : Nat} {f C : Addr} {fd : FuncData} {ps ks : List Str} {sp : Sp} {E : XK} {x m : Str} {p pos apos kpos : Pos} {e o : Expr} {es : List Expr} {kws : List Keyword} {te ta : TE} {t tk : TA} {nm : Option Str}
variable {g : List Value → List Value → List Value} {gV : List V → List V → List V}
end
structure FnScope (N P:List Str) (sc:Scope):Prop where
 kind:sc.kind=.function
 co:sc.isCoroutine=false
 gen:sc.isGenerator=false
 nd:N.Nodup
 pre:N.take P.length=P
 par:∀ x∈P,sc.names.lookup x=some .local\/sc.names.lookup x=some .cell
 nofree:∀ y∈sc.names,y.2≠.free
theorem bS {kindOf:Str->Option NameKind} {x:Str}:∀ {binds:List (Str×Value)} {m:Str->Option Value},(∀ v,(x,v)∉binds)->bindL kindOf binds m x=m x
 | [],_,_=>rfl
 | (n,v)::r,m,h=>by
  unfold bindL;rw [bS fun w hw=>h w (List.mem_cons_of_mem _ hw)]
  split
  .have:x≠n:=by rintro rfl;exact h v zzT
   simp [this]
  .rfl
theorem bQ {kindOf:Str->Option NameKind} {x:Str}:∀ {binds:List (Str×Value)} {m:Str->Option Value},(∀ v,(x,v)∉binds)->bindC kindOf binds m x=m x
 | [],_,_=>rfl
 | (n,v)::r,m,h=>by
  unfold bindC;rw [bQ fun w hw=>h w (List.mem_cons_of_mem _ hw)]
  split
  .rfl
  .have:x≠n:=by rintro rfl;exact h v zzT
   simp [this]
theorem bR {kindOf:Str->Option NameKind} {x:Str} {v:Value}:∀ {P:List Str} {vs:List Value} {i:Nat} {m:Str->Option Value},P.Nodup->P[i]?=some x->vs[i]?=some v->kindOf x=some .local ->
  bindL kindOf (P.zip vs) m x=some v
 | [],_,_,_,_,h,_,_=>by simp at h
 |_::_,[],_,_,_,_,h,_=>by simp at h
 |p::P,w::vs,0,m,nd,h1,h2,hk=>by
  simp at h1 h2;subst h1;subst h2;show bindL kindOf ((p,w)::P.zip vs) m p=_;unfold bindL;rw [bS fun v hv=>(List.nodup_cons.mp nd).1 (List.of_mem_zip hv).1,if_pos hk];simp
 |p::P,w::vs,i+1,m,nd,h1,h2,hk=>by
  show bindL kindOf ((p,w)::P.zip vs) m x=_;unfold bindL;exact bR (i:=i) (List.nodup_cons.mp nd).2 (by simpa using h1) (by simpa using h2) hk
theorem bP {kindOf:Str->Option NameKind} {x:Str} {v:Value}:∀ {P:List Str} {vs:List Value} {i:Nat} {m:Str->Option Value},P.Nodup->P[i]?=some x->vs[i]?=some v->kindOf x≠some .local ->
  bindC kindOf (P.zip vs) m x=some v
 | [],_,_,_,_,h,_,_=>by simp at h
 |_::_,[],_,_,_,_,h,_=>by simp at h
 |p::P,w::vs,0,m,nd,h1,h2,hk=>by
  simp at h1 h2;subst h1;subst h2;show bindC kindOf ((p,w)::P.zip vs) m p=_;unfold bindC;rw [bQ fun v hv=>(List.nodup_cons.mp nd).1 (List.of_mem_zip hv).1,if_neg hk];simp
 |p::P,w::vs,i+1,m,nd,h1,h2,hk=>by
  show bindC kindOf ((p,w)::P.zip vs) m x=_;unfold bindC;exact bP (i:=i) (List.nodup_cons.mp nd).2 (by simpa using h1) (by simpa using h2) hk
def start (N:List Str) (vs:List V):St:=vs.map some++List.replicate (N.length-vs.length) none
def fP (CX:CXT) (P:Program) (w:World) (K:PySem.W.Frag) (mg:Str->Option Value) (base:Heap) (N:List Str) (qual:Str) (scope:Scope) (f:Addr) (cd:Value) (A:Around) (outer:List Env) (s:Shared) (H:Hp) (E:XK):Cx where
 prog:=P
 w:=w
 K:=K
 mg:=mg
 base:=base
 A:=A.deeper (envOfC qual scope s.heap.objs.size f cd)
 N:=N
 s₀:=s
 H₀:=H
 env:=envOfC qual scope s.heap.objs.size f cd
 outer:=outer
 stack:=envOfC qual scope s.heap.objs.size f cd::outer
 ex:=[]
 calm:=true
 fn:=fun _=>true
 pn:=[]
 xe:=fun e s'=>wpAny (model P w) (A.deeper (envOfC qual scope s.heap.objs.size f cd)) (leaving (envOfC qual scope s.heap.objs.size f cd) e) (fun _ s''=>CX outer H s E e s'') (fun e' s''=>CX outer H s E e' s'') s'
theorem zbs {sc:Scope} {n:Nat} {x:Str} (h:sc.names.lookup x=some .cell):∃ c,(cellsFrom n sc.names []).lookup x=some c:=by
 have q:=PySem.W.cellsFrom_some sc.names n [] (.inl h);exact Option.isSome_iff_exists.mp q
theorem zc3 {CX:CXT} {P:Program} {w:World} {K:PySem.W.Frag} {mg:Str->Option Value} {base:Heap} {N ps:List Str} {qual:Str} {scope:Scope} {f:Addr} {cd:Value} {A:Around} {outer:List Env} {s s1:Shared} {H:Hp} {E:XK} {us:List Value} {vs:List V}
  (S:FnScope N ps scope) (hd:A.handled=none) (e0:Env0 P w K mg base A outer { s with toks:=1 } H) (hl:vs.length=ps.length) (r:zA vs us)
  (x:InCallC s s.heap.objs.size (bindL (envOfC qual scope s.heap.objs.size f cd).kindOf (ps.zip us) fun _=>none) (cellsFrom (s.heap.objs.size+1) scope.names []) (bindC (envOfC qual scope s.heap.objs.size f cd).kindOf (ps.zip us) fun _=>none) s1) (h0:0<s1.toks) :
  Inv (fP CX P w K mg base N qual scope f cd A outer s H E) [] (start N vs) H s1:=by
 have hpl:ps.length<=N.length:=by have:=congrArg List.length S.pre;rw [List.length_take] at this;omega
 obtain ⟨h1,tk,rfl,hk⟩:=x.done;have noA:∀ b:Addr,b∉(fP CX P w K mg base N qual scope f cd A outer s H E).ex:=fun b z=>absurd (show b∈([]:List Addr) from z) (by simp)
 refine ⟨⟨e0.mod,S.kind,rfl,rfl,zzR _,fun y z c h1 h2=>?_,fun y hy=>?_,fun y c _ h=>?_,fun _=>hd,Around.frames_deeper e0.frames,.inr ⟨rfl,rfl⟩,fun b z=>absurd z (noA b),e0.bs,e0.bsz,fun b _ _=>noA b,fun b z=>absurd z (noA b),e0.funs,e0.frf⟩,
  rfl,e0.bare,Un.kept hk,⟨_,x.toInCall.ns,fun i y v h1 h2 h3=>?_⟩,fun y c h=>⟨_,x.cell y c h⟩,e0.hok.fresh (zzR _),fun y c h=>?_,fun p hp=>absurd (show p∈([]:List (Addr×Obj)) from hp) (by simp),e0.hok.kept hk,?_,h0⟩
 .exact name_of_addr x.apart (PySem.mem_of_lookup h1) (PySem.mem_of_lookup h2)
 .have hy:scope.names.lookup y=some .cell\/scope.names.lookup y=some .free:=hy;rcases hy with hy|hy
  .exact zbs hy
  .exact absurd rfl (S.nofree _ (PySem.mem_of_lookup hy))
 .exact Nat.le_of_lt (x.above y c (PySem.mem_of_lookup h))
 .have hi:i<vs.length:=by
   unfold start at h2
   by_cases hi:i<vs.length
   .exact hi
   .rw [List.getElem?_append_right (by simpa using hi)] at h2;rw [List.getElem?_replicate] at h2
    split at h2<;>cases h2
  have ha:vs[i]?=some v:=by
   unfold start at h2;rw [List.getElem?_append_left (by simpa using hi),List.getElem?_map] at h2
   cases e:vs[i]? with
   |none=>rw [e] at h2;cases h2
   |some a=>rw [e] at h2;cases h2;rfl
  obtain ⟨u,hu,rv⟩:=r.get ha
  have hp:ps[i]?=some y:=by
   rw [← S.pre,List.getElem?_take_of_lt (by omega)];exact h1
  have ndP:ps.Nodup:=by rw [← S.pre];exact S.nd.sublist (List.take_sublist _ _)
  refine ⟨u,rv,?_⟩;rcases S.par y (List.mem_of_getElem? hp) with k|k
  .exact .inl ⟨k,bR ndP hp hu k⟩
  .obtain ⟨c,e⟩:=zbs (n:=s.heap.objs.size+1) k;refine .inr ⟨.inl k,c,e,?_⟩;have q:=x.cell y c e;rw [bP ndP hp hu (by show scope.names.lookup y≠_;rw [k];decide)] at q;exact q
 .exact e0.hok.fresh (Nat.le_of_lt (x.above y c (PySem.mem_of_lookup h)))
 .unfold start;show _=N.length;rw [zzW,zzM,List.length_replicate];omega
theorem zhf {CX:CXT} {P:Program} {w:World} {K:PySem.W.Frag} {mg:Str->Option Value} {base:Heap} {k:Nat} {f:Addr} {name qual:Str} {params:Arguments} {body:List Stmt} {scope:Scope} {dV kV doc pm cdv ct oc:Value} {an od:Option Addr}
  {osl:Array (Option Value)} {N ps:List Str} {sp:Sp} (lk:K.lookup f=some ⟨oc,od,.func (PySem.W.fnOf name qual params body scope dV kV doc pm an cdv ct),osl⟩) (hcd:PySem.W.codeIn K cdv qual=true) (S:FnScope N ps scope)
  (len:∀ vs H Q E,sp vs H Q E->vs.length=ps.length)
  (hbody:∀ (A:Around) (outer:List Env) (s:Shared) (H:Hp) (vs:List V) (Q:VK) (E:XK),Room k (A.deeper (envOfC qual scope s.heap.objs.size f cdv))->sp vs H Q E ->
   ∃ t,dM (fP CX P w K mg base N qual scope f cdv A outer s H E) body t/\t { nx:=fun _ H'=>Q .non H',rt:=Q } (start N vs) H) :
  FnOk P w K mg base CX (k+1) f (PySem.W.fnOf name qual params body scope dV kV doc pm an cdv ct) ps sp:=by
 suffices core:∀ (A:Around) (outer:List Env) (s:Shared) (H:Hp) (args:Args) (us:List Value) (vs:List V) (Q:VK) (E:XK),Room (k+1) A->Env0 P w K mg base A outer { s with toks:=1 } H->BindsTo s (PySem.W.fnOf name qual params body scope dV kV doc pm an cdv ct) args (ps.zip us)->zA vs us->sp vs H Q E ->
   (0<s.toks\/∃ x,ps=[x]/\scope.names.lookup x=some .local)->codeAny (model P w) A (.call (.ref f) args) (CR CX outer P w H s Q E) s from
  ⟨len,fun A outer s H args us vs Q E hr e0 hb r hsp=>core A outer s H args us vs Q E hr ⟨e0.frames,e0.mod,e0.bs,e0.bsz,e0.funs,e0.frf,e0.hok,e0.bare,Nat.one_pos⟩ hb r hsp (.inl e0.tk),fun x e l A outer s H args us vs Q E hr e0 hb r hsp=>core A outer s H args us vs Q E hr e0 hb r hsp (.inr ⟨x,e,l⟩)⟩
 intro A outer s H args us vs Q E hr e0 hb r hsp hpos;have hl:=len _ _ _ _ hsp;have KX:K.In s.heap:=e0.mod.kin.keeps fun b o e=>(e0.bs b o e).1;have lim:s.heap.NoLimit:=e0.mod.nolimit.keeps fun b o e=>(e0.bs b o e).1
 have hkind:∀ y∈ps.zip us,scope.names.lookup y.1=some .local\/(scope.names.lookup y.1=some .cell/\((cellsFrom (s.heap.objs.size+1) scope.names []).lookup y.1).isSome=true):=fun ⟨n,v⟩ hy=>by
  rcases S.par n (List.of_mem_zip hy).1 with q|q
  .exact .inl q
  .exact .inr ⟨q,PySem.W.cellsFrom_some _ _ _ (.inl q)⟩
 refine codeAny_call_function hr.depth (KX _ _ lk) rfl S.co S.gen rfl (PySem.W.codeRec_of KX hcd) (hb _ _ _ _ ?_);refine zbB S.kind hkind (r.length.symm.trans hl) hpos fun env he s1 x h0=>?_;subst he;refine ⟨lim.keeps x.toInCall.keep,codeAny_func ?_⟩;obtain ⟨t,ht,hq⟩:=hbody A outer s H vs Q E (hr.deeper _) hsp;have I:Inv (fP CX P w K mg base N qual scope f cdv A outer s H E) [] (start N vs) H s1:=zc3 S hr.hd e0 hl r x h0;refine wpAny_mono (ht [] s1 (start N vs) H _ I hq) (fun fl s' hs=>?_) fun e s' hs=>hs
 have fin:∀ {σ':St} {H':Hp} {v:V} {u:Value},Inv (fP CX P w K mg base N qual scope f cdv A outer s H E) [] σ' H' s'->yY v u->Q v H'->CE outer P w H s Q u s' :=
  fun {σ' H' v u} J rv q=>⟨v,H',J.os,J.tk,J.bare,J.base,J.hok,rv,q⟩
 cases fl with
 |ret u =>
  obtain ⟨v,σ',H',J,rv,q⟩:=hs;exact fin J rv q
 |next =>
  obtain ⟨σ',H',J,q⟩:=hs;exact fin (v:=V.non) (u:=Value.none) J rfl q
 |brk =>
  obtain ⟨_,_,_,q⟩:=hs;exact False.elim q
 |cont =>
  obtain ⟨_,_,_,q⟩:=hs;exact False.elim q
end L2
namespace L2
open PySem PySem.Spec PyProof.Rows
section
variable {X : Cx} {x : Str} {p pos : Pos} {e : Expr} {es : List Expr} {t : TA} {id T : String} {r : List V → Hp → VK → Prop}
def tCB (r:List V->Hp->VK->Prop) (t:TA):TE:=fun σ H Q=>t σ H fun vs H1=>r vs H1 Q
theorem zet (hc:jP X (.builtin id) r) (hg:Gl X x) (hm:X.mg x=none) (hv:bootBuiltins x=some (.builtin id)) (ha:PA X (e::es) t) (hn:x ≠ "__name__" := by decide) (hdb:(x==("__debug__" : Str))=false:=by decide)
  (he:starEach (e::es) X.env=(false,eval e X.env)::starEach es X.env:=by rfl) (hpl:(backTo pos (starEach es X.env)).any (·.1)=false:=by rfl):PE X (.Call (.Name x p) (e::es) [] pos) (tCB r t):=by
 intro pins s σ H Q I h;refine wpAny_Call_Name_kw (tI I hg hm hv ?_ hn hdb);exact PyProof.Rows.callWith_builtin1 (yF (ha pos pins s σ H _ I h) fun us s1 ⟨vs,H1,I1,r1,q1⟩=>hc pins s1 σ H1 vs us Q I1 r1 q1) he hpl
theorem zcu (hc:jP X (.type T) r) (hg:Gl X x) (hm:X.mg x=none) (hv:bootBuiltins x=some (.type T)) (ha:PA X (e::es) t) (hn:x ≠ "__name__" := by decide) (hdb:(x==("__debug__" : Str))=false:=by decide)
  (he:starEach (e::es) X.env=(false,eval e X.env)::starEach es X.env:=by rfl) (hpl:(backTo pos (starEach es X.env)).any (·.1)=false:=by rfl):PE X (.Call (.Name x p) (e::es) [] pos) (tCB r t):=by
 intro pins s σ H Q I h;refine wpAny_Call_Name_kw (tI I hg hm hv ?_ hn hdb);exact PyProof.Rows.callWith_type1 (yF (ha pos pins s σ H _ I h) fun us s1 ⟨vs,H1,I1,r1,q1⟩=>hc pins s1 σ H1 vs us Q I1 r1 q1) he hpl
end
end L2
namespace HT
open PySem PyProof.Rows
section
open PySem.SeqAt
open PySem.AutoSeq1 (wpAny_loadPart')
open PySem.MeetsSeq PySem.MeetsSeq2 PySem.MeetsSeq3
end
section
variable {prog : Program} {w : World} {A : Around} {E : Value → Shared → Prop} {s : Shared}
theorem zhD {t b:Addr} {vs ws:List Value} {Q:Value->Shared->Prop} (ht:IsTup s.heap t vs.toArray) (hb:IsTup s.heap b ws.toArray) (hv:vs≠[])
  (h1:ws=[]->Q (.ref t) s) (h2:ws≠[]->Q (.ref s.heap.objs.size) { s with heap:=s.heap.push { cls:=.type "tuple", data:=.seq (vs++ws).toArray } })
  (hsz:vs.length+ws.length<=sizeLine):wpAny (model prog w) A (binaryOp .Add (.ref t) (.ref b)) Q E s:=by
 obtain ⟨⟨cls,dd,data,sl⟩,ho,hc,n,hd⟩:=id ht;obtain ⟨⟨cls2,dd2,data2,sl2⟩,ho2,hc2,n2,hd2⟩:=id hb;simp only at hc hd hc2 hd2;subst hc hd hc2 hd2;have e:vs.toArray++ws.toArray=(vs++ws).toArray:=by simp
 by_cases hw:ws=[]
 .exact concat_meets ⟨_,ho,rfl⟩ ⟨_,ho2,rfl⟩ noFill_tuple_add seq_tuple_add PySem.F.slot_tuple_add PySem.F.entry_tuple_add (PySem.F.args_tuple_add_2 _ _)
   (tuple_addW1 t b vs.toArray ws.toArray n n2 dd dd2 sl sl2 (by simpa using hv) (by simp [hw])) ⟨ho,ho2,h1 hw⟩
 .refine concat_meets ⟨_,ho,rfl⟩ ⟨_,ho2,rfl⟩ noFill_tuple_add seq_tuple_add PySem.F.slot_tuple_add PySem.F.entry_tuple_add (PySem.F.args_tuple_add_2 _ _)
   (tuple_addW2 t b vs.toArray ws.toArray n n2 dd dd2 sl sl2 (by simpa using hv) (by simpa using hw) (by rw [zzS,zzS];exact hsz)) ⟨ho,ho2,?_⟩
  rw [e];exact h2 hw
def wH (n d:Nat):Option Int->Nat
 |none=>d
 |some v=>if v<0 then (v+(n:Int)).toNat else min v.toNat n
theorem zir (n d:Nat) (hd:d<=n) (o:Option Int):wH n d o<=n:=by
 cases o with
 |none=>exact hd
 |some v =>
  show (if v<0 then (v+(n:Int)).toNat else min v.toNat n)<=n
  by_cases hv:v<0
  .rw [if_pos hv];omega
  .rw [if_neg hv];exact Nat.min_le_right _ _
theorem zds (v:Int) (n d:Nat):(if v<0 then max (v+(n:Int)) 0 else min v (n:Int))=((wH n d (some v):Nat):Int):=by
 show (if v<0 then max (v+(n:Int)) 0 else min v (n:Int))=(((if v<0 then (v+(n:Int)).toNat else min v.toNat n):Nat):Int)
 by_cases hv:v<0
 .simp only [if_pos hv];omega
 .simp only [if_neg hv];omega
theorem zbO (lo hi:Option Int) (n:Nat):Builtin.Slice.sliceAdjust lo hi 1 (n:Int)=(((wH n 0 lo:Nat):Int),((wH n n hi:Nat):Int)):=by
 have h1:¬ ((1:Int)<0):=by omega
 unfold Builtin.Slice.sliceAdjust;simp only [h1,if_false];refine Prod.ext ?_ ?_
 .cases lo with
  |none=>rfl
  |some v=>exact zds v n 0
 .cases hi with
  |none=>rfl
  |some v=>exact zds v n n
theorem zbz (i j:Nat):Builtin.Slice.slicePlaces (i:Int) (j:Int) 1=j-i:=by
 unfold Builtin.Slice.slicePlaces;have h1:(1:Int) > 0:=by omega
 simp only [h1,if_true,Int.ediv_one]
 split<;>omega
theorem mF {v:Value} {o:Option Int} {Q:Option Int->Shared->Prop} (p:IsPart v o) (h:Q o s):wpAny (model prog w) A (Builtin.Slice.slicePartIndex v) Q E s:=by
 cases p with
 |none=>exact slicePart_none h
 |int i t=>exact slicePart_int h
theorem kZ {sl:Addr} {vl vu:Value} {lo hi:Option Int} {n:Nat} {Q:Int×Int×Nat->Shared->Prop} (hs:s.heap.IsSliceOf sl vl vu .none) (pl:IsPart vl lo) (pu:IsPart vu hi)
  (h:Q (((wH n 0 lo:Nat):Int),1,wH n n hi-wH n 0 lo) s):wpAny (model prog w) A (Builtin.Slice.sliceApplied (.ref sl) (pure (n:Int))) Q E s:=by
 obtain ⟨os,hos,hcs,hds⟩:=id hs;unfold Builtin.Slice.sliceApplied Builtin.Slice.sliceFields;refine wpAny_bind (wpAny_bind (wpAny_field hos hds (x:=vl) rfl (wpAny_bind (wpAny_field hos hds (x:=vu) rfl (wpAny_bind (wpAny_field hos hds (x:=.none) rfl (wpAny_pure ?_)))))));refine wpAny_bind (slicePart_none ?_);show wpAny _ _ (if ((1:Int)==0)=true then _ else _) _ _ s;rw [if_neg (by decide)];refine wpAny_bind (mF pl (wpAny_bind (mF pu (wpAny_bind (wpAny_pure ?_)))));show wpAny _ _ (match Builtin.Slice.sliceAdjust lo hi 1 (n:Int) with|(lo,hi)=>pure (lo,(1:Int),Builtin.Slice.slicePlaces lo hi 1)) _ _ s;rw [zbO lo hi n];show wpAny _ _ (pure (((wH n 0 lo:Nat):Int),(1:Int),Builtin.Slice.slicePlaces ((wH n 0 lo:Nat):Int) ((wH n n hi:Nat):Int) 1)) _ _ s;rw [zbz];exact wpAny_pure h
theorem zeo (xs:Array Value) (i k:Nat):((List.range k).filterMap fun (m:Nat)=>xs[((i:Int)+(m:Int) * 1).toNat]?).toArray=((xs.toList.drop i).take k).toArray:=by
 have e:(fun (m:Nat)=>xs[((i:Int)+(m:Int) * 1).toNat]?)=fun m=>xs[i+m]?:=by
  funext m
  have:((i:Int)+(m:Int) * 1).toNat=i+m:=by omega
  rw [this]
 rw [e];have:=pick_run xs i k;rw [List.filterMap_map] at this;have e2:((fun x=>xs[x]?) ∘ fun x=>i+x)=fun m=>xs[i+m]?:=rfl;rw [e2] at this;rw [this]
theorem sM {t sl:Addr} {items:Array Value} {vl vu:Value} {lo hi:Option Int} {Q:Value->Shared->Prop} (ht:IsTup s.heap t items) (hs:s.heap.IsSliceOf sl vl vu .none) (pl:IsPart vl lo) (pu:IsPart vu hi)
  (hw:¬ (wH items.size 0 lo=0/\wH items.size items.size hi=items.size))
  (h:Q (.ref s.heap.objs.size) { s with heap:=s.heap.push { cls:=.type "tuple", data:=.seq ((items.toList.drop (wH items.size 0 lo)).take (wH items.size items.size hi-wH items.size 0 lo)).toArray } })
  (hsz:items.size<=sizeLine):wpAny (model prog w) A (getItem (.ref t) (.ref sl)) Q E s:=by
 have htake:sizeOk (.seq ((items.toList.drop (wH items.size 0 lo)).take (wH items.size items.size hi-wH items.size 0 lo)).toArray):=by
  show ((items.toList.drop (wH items.size 0 lo)).take (wH items.size items.size hi-wH items.size 0 lo)).toArray.size<=sizeLine;rw [zzS,List.length_take,List.length_drop,Array.length_toList];omega
 have hj:wH items.size items.size hi<=items.size:=zir _ _ (zzR _) hi;obtain ⟨os,hos,hcs,hds⟩:=id hs;have hTs:s.TypeIs (.ref sl) "slice" := ⟨os,hos,hcs⟩;unfold getItem
 try with_reducible refine wpAny_holding ?_
 first|refine wpAny_bind (wpAny_pure ?_)|skip
 refine wpAny_bind (wpAny_sequenceKey ht.typeIs (by decide) ?_)
 refine wpAny_bind (wpAny_callSpecial?_slot (name:=Str.ofString "__getitem__") ht.typeIs PyProof.Rows.slot_tuple_getitem
  (wpAny_call_entry PyProof.Rows.slot_tuple_getitem ht.typeIs entry_tuple_getitem ?_ (args_tuple_getitem _ _)))
 show wpAny _ _ (Builtin.Tuple.tupleItemsOf (.ref t) >>= _) _ _ s;refine wpAny_bind (tupleItemsOf_ ht ?_);refine wpAny_bind (wpAny_typeOf hTs ?_);rw [if_pos (by decide)];refine wpAny_bind (kZ hs pl pu ?_)
 have hno:¬ ((((wH items.size 0 lo:Nat):Int)==0&&(1:Int)==1&&(wH items.size items.size hi-wH items.size 0 lo)==items.size)=true):=by
  intro q;rw [Bool.and_eq_true,Bool.and_eq_true] at q;have q1:((wH items.size 0 lo:Nat):Int)=0:=eq_of_beq q.1.1;have q2:wH items.size items.size hi-wH items.size 0 lo=items.size:=eq_of_beq q.2;exact hw ⟨by omega,by omega⟩
 show wpAny _ _ (if (((wH items.size 0 lo:Nat):Int)==0&&(1:Int)==1&&(wH items.size items.size hi-wH items.size 0 lo)==items.size)=true then _ else _) _ _ s;rw [if_neg hno,zeo]
 first
  |exact wpAny_bind (m:=Builtin.Tuple.tupleExact _) (wpAny_newObj_type (wpAny_pure ⟨_,rfl,wpAny_pure h⟩) htake)
  |exact wpAny_bind (m:=Builtin.Tuple.tupleExact _) (wpAny_newObj_type (wpAny_bind (wpAny_pure (wpAny_pure ⟨_,rfl,wpAny_pure h⟩))) htake)
  |exact wpAny_bind (wpAny_bind (m:=Builtin.Tuple.tupleExact _) (wpAny_newObj_type (wpAny_pure (wpAny_pure ⟨_,rfl,wpAny_pure h⟩)) htake))
  |exact wpAny_bind (wpAny_bind (m:=Builtin.Tuple.tupleExact _) (wpAny_newObj_type (wpAny_pure ⟨_,rfl,wpAny_pure h⟩) htake))
end
end HT
namespace L2
open PySem PySem.Spec PyProof.Rows
abbrev TO:=St->Hp->(Option Int->Hp->Prop)->Prop
def PO (X:Cx) (e:Option Expr) (t:TO):Prop :=
 ∀ (pins:List (Addr×Obj)) (s:Shared) (σ:St) (H:Hp) (Q:Option Int->Hp->Prop),Inv X pins σ H s->t σ H Q ->
  wpAny (model X.prog X.w) X.A (evalPart e X.env) (fun u s'=>∃ o H',Inv X pins σ H' s'/\IsPart u o/\Q o H') X.xe s
def zf9:TO:=fun _ H Q=>Q none H
def tPart (t:TE):TO:=fun σ H Q=>t σ H fun x H1=>∃ i,x=.int i/\Q (some i) H1
section
variable {X : Cx} {e : Expr} {te : TE} {lo hi : Option Expr} {tl th : TO} {pos p2 : Pos}
theorem zgx:PO X none zf9:=by
 intro pins s σ H Q I h;rw [evalPart_none];exact wpAny_pure ⟨none,H,I,.none,h⟩
theorem zgw (h:PE X e te):PO X (some e) (tPart te):=by
 intro pins s σ H Q I hw;rw [evalPart_some];refine yF (h pins s σ H _ I hw) fun u s1 ⟨x,H1,I1,r1,q1⟩=>?_;obtain ⟨i,rfl,q⟩:=q1;obtain ⟨t,rfl⟩:=r1;exact ⟨some i,H1,I1,.int i t,q⟩
def SlR (X:Cx) (r:V->Option Int->Option Int->Hp->VK->Prop):Prop :=
 ∀ (pins:List (Addr×Obj)) (s:Shared) (σ:St) (H:Hp) (x:V) (v vl vu:Value) (lo hi:Option Int) (sl:Addr) (Q:VK),Inv X pins σ H s->yY x v->s.heap.IsSliceOf sl vl vu .none->IsPart vl lo->IsPart vu hi->r x lo hi H Q ->
  ∃ T id,typeLookup (.type T) "__getitem__" = pure (some (.builtin id))/\s.TypeIs v T/\wpAny (model X.prog X.w) X.A (getItem v (.ref sl)) (EP X pins σ Q) X.xe s
def tSl (r:V->Option Int->Option Int->Hp->VK->Prop) (te:TE) (tl th:TO):TE:=fun σ H Q=>te σ H fun x H1=>tl σ H1 fun l H2=>th σ H2 fun u H3=>r x l u H3 Q
theorem zep {r:V->Option Int->Option Int->Hp->VK->Prop} (hr:SlR X r) (he:PE X e te) (hl:PO X lo tl) (hu:PO X hi th):PE X (.Subscript e (.Slice lo hi none p2) pos) (tSl r te tl th):=by
 intro pins s σ H Q I h;refine Subscript_ (yF (he pins s σ H _ I h) fun v s1 ⟨x,H1,I1,r1,q1⟩=>?_);refine wpAny_Slice (yF (hl pins s1 σ H1 _ I1 q1) fun vl s2 ⟨l,H2,I2,pl,q2⟩=>yF (hu pins s2 σ H2 _ I2 q2) fun vu s3 ⟨u,H3,I3,pu,q3⟩=>?_);rw [evalPart_none];refine wpAny_pure ?_;have I4:Inv X pins σ H3 { s3 with heap:=s3.heap.push { cls:=.type "slice", data:=.fields #[vl,vu,.none] } }:=I3.kept (t':=s3.toks) fun b ob q=>Heap.get?_push_of_some _ q;obtain ⟨T,id,hT,ht,hg⟩:=hr pins { s3 with heap:=s3.heap.push { cls:=.type "slice", data:=.fields #[vl,vu,.none] } } σ H3 x v vl vu l u s3.heap.objs.size Q I4 r1 (Heap.IsSliceOf.new ..) pl pu q3;show wpAny (model X.prog X.w) X.A (subscriptTail e (.Slice lo hi none p2) v (.ref s3.heap.objs.size)) (EP X pins σ Q) X.xe { s3 with heap:=s3.heap.push { cls:=.type "slice", data:=.fields #[vl,vu,.none] } };exact tail_any (ops:=[.ref s3.heap.objs.size,v]) ht hT hg (by with_unfolding_all rfl)
def cutV (xs:List V) (lo hi:Option Int):List V:=(xs.drop (HT.wH xs.length 0 lo)).take (HT.wH xs.length xs.length hi-HT.wH xs.length 0 lo)
theorem pK (xs:List V) (lo hi:Option Int):(cutV xs lo hi).length<=xs.length:=by
 unfold cutV;rw [List.length_take,List.length_drop];omega
def rSlT (K:PySem.W.Frag):V->Option Int->Option Int->Hp->VK->Prop:=fun x lo hi H Q=>∃ a xs,x=.ref a/\rY K H a xs /\
 ¬ (HT.wH xs.length 0 lo=0/\HT.wH xs.length xs.length hi=xs.length)/\∀ p,H p=none->Q (.ref p) (xR H p (.tup (cutV xs lo hi)))
theorem zii:SlR X (rSlT X.K):=by
 intro pins s σ H x v vl vu lo hi sl Q I rx hs pl pu h;obtain ⟨a,xs,rfl,hx,hw,q⟩:=h;cases rx;obtain ⟨its,r,ht,hz⟩:=I.tuple hx;have hlen:its.toArray.size=xs.length:=by rw [zzS];exact r.length.symm
 refine ⟨"tuple", _,PyProof.Rows.slot_tuple_getitem.lookup,ht.typeIs,?_⟩;refine HT.sM ht hs pl pu (by rw [hlen];exact hw) ?_ (by rw [hlen];exact hz);rw [hlen];refine ⟨.ref s.heap.objs.size,_,I.laid (t':=s.toks) (o:=.tup (cutV xs lo hi)) (fun b ob q=>Heap.get?_push_of_some _ q) (zzR _) ?_,rfl,q _ (I.hok.fresh (zzR _))⟩;exact ⟨Nat.le_trans (pK xs lo hi) hz,_,(r.drop (HT.wH xs.length 0 lo)).take (HT.wH xs.length xs.length hi-HT.wH xs.length 0 lo),IsTup.new _ _⟩
def rCatT (K:PySem.W.Frag):R2:=fun x y H Q=>∃ a b xs ys,x=.ref a/\y=.ref b/\rY K H a xs/\rY K H b ys/\xs≠[]/\xs.length+ys.length<=sizeLine /\
 (ys=[]->Q (.ref a) H)/\(ys≠[]->∀ p,H p=none->Q (.ref p) (xR H p (.tup (xs++ys))))
theorem zA.nil_iff {xs:List V} {us:List Value} (r:zA xs us):us=[]↔xs=[]:=by
 cases r with
 |nil=>simp
 |cons _ _=>simp
theorem zgI:kQ X (binaryOp .Add) (rCatT X.K):=by
 intro pins s σ H x y v u Q I rx ry h;obtain ⟨a,b,xs,ys,rfl,rfl,ha,hb,hx,hz,q1,q2⟩:=h;cases rx;cases ry;obtain ⟨its,r1,p1,_⟩:=I.tuple ha;obtain ⟨its2,r2,p2,_⟩:=I.tuple hb;refine HT.zhD p1 p2 (fun z=>hx (r1.nil_iff.mp z)) (fun z=>⟨.ref a,H,I,rfl,q1 (r2.nil_iff.mp z)⟩) (fun z=>?_) (by rw [← r1.length,← r2.length];exact hz);refine ⟨.ref s.heap.objs.size,_,I.laid (t':=s.toks) (o:=.tup (xs++ys)) (fun b ob q=>Heap.get?_push_of_some _ q) (zzR _) ?_,rfl,q2 (fun w=>z (r2.nil_iff.mpr w)) _ (I.hok.fresh (zzR _))⟩;exact ⟨by rw [zzW];exact hz,_,r1.append r2,IsTup.new _ _⟩
end
end L2
namespace L2
open PySem PySem.Spec PyProof.Rows
def nK (n:Nat) (i:Int):Option Nat:=if 0<=i then (if i<n then some i.toNat else none) else if -(n:Int)<=i then some (i+n).toNat else none
def kK {α:Type} (xs:List α) (i:Int):Option α:=(nK xs.length i).bind fun j=>xs[j]?
theorem zc1 {n:Nat} {i:Int} {j:Nat} (h:nK n i=some j):seqIndex? i n=some j/\j<n/\-(n:Int)<=i/\i<n:=by
 unfold nK at h
 by_cases h0:0<=i
 .rw [if_pos h0] at h
  by_cases h1:i<n
  .rw [if_pos h1] at h;have e:i.toNat=j:=Option.some.inj h;exact ⟨by rw [seqIndex_of h0 h1,e],by omega,by omega,h1⟩
  .rw [if_neg h1] at h;cases h
 .rw [if_neg h0] at h
  by_cases h1:-(n:Int)<=i
  .rw [if_pos h1] at h;have e:(i+n).toNat=j:=Option.some.inj h;exact ⟨by rw [seqIndex_neg (by omega) h1,e],by omega,h1,by omega⟩
  .rw [if_neg h1] at h;cases h
theorem zaU {α:Type} {xs:List α} {i:Int} {v:α} (h:kK xs i=some v):∃ j,seqIndex? i xs.length=some j/\xs[j]?=some v/\j<xs.length/\-(xs.length:Int)<=i/\i<xs.length:=by
 unfold kK at h
 cases e:nK xs.length i with
 |none=>rw [e] at h;cases h
 |some j =>
  rw [e] at h;obtain ⟨h1,h2,h3,h4⟩:=zc1 e;exact ⟨j,h1,h,h2,h3,h4⟩
def zdI (b:Expr):Prop:=∀ o i,subscripted b false o i=operate [o,i] (getItem o i)
def IxR (X:Cx) (r:R2):Prop :=
 ∀ (value slice:Expr) (pins:List (Addr×Obj)) (s:Shared) (σ:St) (H:Hp) (x y:V) (v u:Value) (Q:VK),Inv X pins σ H s->yY x v->yY y u->r x y H Q ->
  subscripted slice false v u=operate [v,u] (getItem v u)->wpAny (model X.prog X.w) X.A (subscriptTail value slice v u) (EP X pins σ Q) X.xe s
def MtR (X:Cx) (id:String) (r:V->List V->Hp->VK->Prop):Prop :=
 ∀ (pins:List (Addr×Obj)) (s:Shared) (σ:St) (H:Hp) (x:V) (xs:List V) (v:Value) (us:List Value) (Q:VK),Inv X pins σ H s->yY x v->zA xs us->r x xs H Q ->
  wpAny (model X.prog X.w) X.A (call (.builtin id) (v::us)) (EP X pins σ Q) X.xe s
section
variable {X : Cx} {a b : Expr} {ta tb : TE} {pos : Pos}
theorem pe_ix {r:R2} (hr:IxR X r) (ha:PE X a ta) (hb:PE X b tb) (hs:zdI b):PE X (.Subscript a b pos) (tOp r ta tb):=by
 intro pins s σ H Q I h;exact Subscript_ (binT ha hb I h fun v u s2 x y H2 I2 rx ry q=>hr a b pins s2 σ H2 x y v u Q I2 rx ry q (hs _ _))
def rIxL (K:PySem.W.Frag):R2:=fun x y H Q=>∃ p xs i v,x=.ref p/\y=.int i/\pH K H p xs/\kK xs i=some v/\Q v H
def rIxT (K:PySem.W.Frag):R2:=fun x y H Q=>∃ p xs i v,x=.ref p/\y=.int i/\rY K H p xs/\kK xs i=some v/\Q v H
def rIxS:R2:=fun x y H Q=>∃ z i c,x=.str z/\y=.int i/\z.length<=sizeLine/\kK z.cps.toList i=some c/\Q (.str ⟨#[c]⟩) H
theorem zgU:IxR X (rIxL X.K):=by
 intro value slice pins s σ H x y v u Q I rx ry h hs;obtain ⟨p,xs,i,z,rfl,rfl,hq,he,q⟩:=h;cases rx;obtain ⟨t,rfl⟩:=ry;obtain ⟨its,r,pl,hz⟩:=I.list hq;obtain ⟨j,h1,h2,h3,h4,h5⟩:=zaU he;obtain ⟨w,ew,rw'⟩:=r.get h2;have hl:=r.length;have hn:=tJ;have fin:EP X pins σ Q w s:=⟨z,H,I,rw',q⟩
 by_cases h0:0<=i
 .have hj:i.toNat=j:=by
   rw [seqIndex_of h0 h5] at h1;exact Option.some.inj h1
  exact item_listR pl.isList h0 (by omega) (by rw [hj];simpa using ew) fin hs
 .have hj:(i+(its.toArray.size:Int)).toNat=j:=by
   rw [seqIndex_neg (by omega) h4] at h1;rw [zzS,← hl];exact Option.some.inj h1
  exact subscriptTail_builtinR (x:=w) pl.isList.typeIs slot_list_getitem.lookup
   (wpAny_getItem_list_neg (Q:=fun r s'=>r=w/\EP X pins σ Q r s') pl.isList (by omega) (by rw [zzS]<;>omega) (by omega) (by rw [hj];simpa using ew) ⟨rfl,fin⟩) hs
theorem zjF:IxR X (rIxT X.K):=by
 intro value slice pins s σ H x y v u Q I rx ry h hs;obtain ⟨p,xs,i,z,rfl,rfl,hq,he,q⟩:=h;cases rx;obtain ⟨t,rfl⟩:=ry;obtain ⟨its,r,pl,hz⟩:=I.tuple hq;obtain ⟨j,h1,h2,h3,h4,h5⟩:=zaU he;obtain ⟨w,ew,rw'⟩:=r.get h2;have hl:=r.length;have hn:=tJ;have fin:EP X pins σ Q w s:=⟨z,H,I,rw',q⟩
 exact subscriptTail_builtinR (x:=w) pl.typeIs slot_tuple_getitem.lookup
  (getItem_tuple (j:=j) (Q:=fun r s'=>r=w/\EP X pins σ Q r s') pl (by omega) (by omega) (by rw [zzS,← hl];exact h1) (by simpa using ew) ⟨rfl,fin⟩) hs
theorem zjG:IxR X rIxS:=by
 intro value slice pins s σ H x y v u Q I rx ry h hs;obtain ⟨z,i,c,rfl,rfl,hz,he,q⟩:=h;obtain ⟨t,rfl⟩:=rx;obtain ⟨t',rfl⟩:=ry;obtain ⟨j,h1,h2,h3,h4,h5⟩:=zaU he;have hl:z.cps.toList.length=z.length:=by simp [Str.length]
 rw [hl] at h1 h4 h5;have hn:=tJ
 exact tail_any (typeIs_str s z t) slot_str_getitem.lookup (getItem_str (c:=c) (by
  have e1:decide (i < -(2 ^ 63:Int))=false:=decide_eq_false (by omega);have e2:decide (i>=2 ^ 63)=false:=decide_eq_false (by omega);rw [e1,e2,Bool.or_false]) (by rw [h1];simpa using h2) ⟨.str ⟨#[c]⟩,H,I.tok _,⟨_,rfl⟩,q⟩) hs
theorem zbD (its:List Value) (n j:Nat) (u:Value):Obj.mapSeq (·.setIfInBounds j u) { cls:=.type "list", data:=.seq its.toArray n }={ cls:=.type "list", data:=.seq (its.set j u).toArray n }:=by
 simp [Obj.mapSeq]
theorem Inv.lst {pins:List (Addr×Obj)} {σ:St} {H:Hp} {s:Shared} {p:Addr} {xs:List V} (I:Inv X pins σ H s) (h:H p=some (.lst xs)) :
  ∃ (its:List Value) (n:Nat),zA xs its/\s.heap.get? p=some { cls:=.type "list", data:=.seq its.toArray n }/\xs.length<=sizeLine:=by
 obtain ⟨z,its,n,r,e⟩:=I.hok p _ h;exact ⟨its,n,r,e,z⟩
theorem Inv.lstUpd {pins:List (Addr×Obj)} {σ:St} {H:Hp} {s:Shared} {p:Addr} {xs ys:List V} {its its':List Value} {n n':Nat} {f:Obj->Obj} (I:Inv X pins σ H s) (h:H p=some (.lst xs))
  (ho:s.heap.get? p=some { cls:=.type "list", data:=.seq its.toArray n }) (hf:f { cls:=.type "list", data:=.seq its.toArray n }={ cls:=.type "list", data:=.seq its'.toArray n' }) (r:zA ys its') (hz:ys.length<=sizeLine) (t:Nat) (ht:0<t:=by first|exact Nat.succ_pos _|exact L2.Inv.tk (by assumption)|exact L2.Inv.tk ‹L2.Inv _ _ _ _ _› | assumption|omega) :
  Inv X pins σ (xR H p (.lst ys)) { s with heap:=s.heap.update p f,toks:=t }:=by
 have e:(s.heap.update p f).get? p=some { cls:=.type "list", data:=.seq its'.toArray n' }:=by
  rw [Heap.get?_update_self f ho (by rw [hf]<;>rfl),hf]
 refine I.write (x:=p) (e:=p) (by rw [h];trivial) (.inl rfl) (fun b u hb q=>(Heap.get?_update_other _ _ (Ne.symm hb)).trans q) ⟨_,e⟩ ?_;exact ⟨hz,its',n',r,e⟩
def rSetL:V->V->V->Hp->(Hp->Prop)->Prop:=fun o i v H Q=>∃ p xs k j,o=.ref p/\i=.int k/\H p=some (.lst xs)/\nK xs.length k=some j/\Q (xR H p (.lst (xs.set j v)))
theorem zd8:PSet X rSetL:=by
 intro pins s σ H o i v ov iv u Q I ro ri rv h;obtain ⟨p,xs,k,j,rfl,rfl,hp,hj,q⟩:=h;cases ro;obtain ⟨t,rfl⟩:=ri;obtain ⟨its,n,r,ho,hz⟩:=I.lst hp;obtain ⟨h1,h2,h3,h4⟩:=zc1 hj;have hl:=r.length;have hn:=tJ
 have I':Inv X pins σ (xR H p (.lst (xs.set j v))) { s with heap:=s.heap.update p (Obj.mapSeq (·.setIfInBounds j u)) } :=
  I.lstUpd hp ho (zbD its n j u) (r.set rv j) (by rw [List.length_set];exact hz) s.toks
 by_cases h0:0<=k
 .have hk:k.toNat=j:=by
   rw [seqIndex_of h0 h4] at h1;exact Option.some.inj h1
  exact PySem.W.ki_setAt ho h0 (by omega) (by rw [zzS,← hl];exact h4) (by rw [hk];exact ⟨_,I',q⟩)
 .have hk:(k+(its.toArray.size:Int)).toNat=j:=by
   rw [seqIndex_neg (by omega) h3] at h1;rw [zzS,← hl];exact Option.some.inj h1
  exact PySem.W.ki_setBack ho (by omega) (by rw [zzS,← hl];exact h3) (by omega) (by rw [hk];exact ⟨_,I',q⟩)
theorem bC (lo hi:Option Int) (n:Nat):(sliceBounds lo hi none n).1=((HT.wH n 0 lo:Nat):Int)/\(sliceBounds lo hi none n).2.1=((HT.wH n n hi:Nat):Int)/\(sliceBounds lo hi none n).2.2=1:=by
 refine ⟨?_,?_,rfl⟩
 .cases lo with
  |none=>simp [sliceBounds,HT.wH]
  |some i =>
   simp only [sliceBounds,HT.wH,Option.getD_none,show (1:Int) > 0 by decide,if_true]
   by_cases h:i<0
   .simp only [h,if_true]<;>omega
   .simp only [h,if_false]<;>omega
 .cases hi with
  |none=>simp [sliceBounds,HT.wH]
  |some i =>
   simp only [sliceBounds,HT.wH,Option.getD_none,show (1:Int) > 0 by decide,if_true]
   by_cases h:i<0
   .simp only [h,if_true]<;>omega
   .simp only [h,if_false]<;>omega
theorem fD (its:List Value) (lo hi:Option Int):slicePick its.toArray lo hi none=((its.drop (HT.wH its.length 0 lo)).take (HT.wH its.length its.length hi-HT.wH its.length 0 lo)).toArray:=by
 obtain ⟨h1,h2,h3⟩:=bC lo hi its.toArray.size;unfold slicePick;rw [h1,h2,h3];simp only [sliceRange_one,pick_run,zzS]<;>rfl
def rSlL (K:PySem.W.Frag):V->Option Int->Option Int->Hp->VK->Prop:=fun x lo hi H Q=>∃ a xs,x=.ref a/\pH K H a xs/\∀ p,H p=none->Q (.ref p) (xR H p (.lst (cutV xs lo hi)))
theorem zcb:SlR X (rSlL X.K):=by
 intro pins s σ H x v vl vu lo hi sl Q I rx hs pl pu h;obtain ⟨a,xs,rfl,hx,q⟩:=h;cases rx;obtain ⟨its,r,ht,hz⟩:=I.list hx;have hlen:=r.length;refine ⟨"list", _,slot_list_getitem.lookup,ht.isList.typeIs,?_⟩;refine wpAny_getItem_list_slice ht.isList hs pl pu .none (by simp) ?_ (by rw [zzS]<;>omega);rw [fD,← hlen];refine ⟨.ref s.heap.objs.size,_,I.laid (t':=s.toks) (o:=.lst (cutV xs lo hi)) (fun b ob q=>Heap.get?_push_of_some _ q) (zzR _) ?_,rfl,q _ (I.hok.fresh (zzR _))⟩;exact ⟨Nat.le_trans (pK xs lo hi) hz,_,0,(r.drop (HT.wH xs.length 0 lo)).take (HT.wH xs.length xs.length hi-HT.wH xs.length 0 lo),Heap.get?_push_size _ rfl⟩
theorem zac:kQ X (compareOp .NotIn) (fun x y H Q=>∃ i j,x=.str i/\y=.str j/\Q (.bl (!(!(Builtin.Str.occurrences j i 0 j.length 1).isEmpty))) H):=by
 intro pins s σ H x y v u Q I rx ry h;obtain ⟨i,j,rfl,rfl,q⟩:=h;obtain ⟨t,rfl⟩:=rx;obtain ⟨t',rfl⟩:=ry;exact notIn_str ⟨.bl _,H,I,rfl,q⟩
theorem vV:jP X (.builtin "len") (fun xs H Q=>∃ p ys,xs=[.ref p]/\(pH X.K H p ys\/rY X.K H p ys)/\Q (.int ys.length) H):=by
 intro pins s σ H xs us Q I r h;obtain ⟨p,ys,rfl,hq,q⟩:=h;obtain ⟨u,rfl,rx⟩:=qA r;cases rx;have hn:=tJ;rcases hq with hq|hq
 .obtain ⟨its,r',pl,hz⟩:=I.list hq;have hlen:=r'.length;exact Calls.call_len_list pl.isList (by simp only [zzS]<;>omega) ⟨.int ys.length,H,I.tok _,⟨s.toks+1,by rw [zzS,hlen]⟩,q⟩
 .obtain ⟨its,r',pl,hz⟩:=I.tuple hq;have hlen:=r'.length;exact len_tuple pl (by simp only [zzS]<;>omega) ⟨.int ys.length,H,I.tok _,⟨s.toks+1,by rw [zzS,hlen]⟩,q⟩
theorem zai:jP X (.builtin "len") (fun xs H Q=>∃ z,xs=[.str z]/\z.length<=sizeLine/\Q (.int z.length) H):=by
 intro pins s σ H xs us Q I r h;obtain ⟨z,rfl,hz,q⟩:=h;obtain ⟨u,rfl,t,rfl⟩:=qA r;have hn:=tJ;exact len_str (by omega) ⟨.int z.length,H,I.tok _,⟨_,rfl⟩,q⟩
theorem zah:jP X (.type "list") (fun xs H Q=>∃ p ys,xs=[.ref p]/\(pH X.K H p ys\/rY X.K H p ys)/\∀ l,H l=none->Q (.ref l) (xR H l (.lst ys))):=by
 intro pins s σ H xs us Q I r h;obtain ⟨p,ys,rfl,hq,q⟩:=h;obtain ⟨u,rfl,rx⟩:=qA r;cases rx
 have fin:∀ (its:List Value),zA ys its->ys.length<=sizeLine->∀ (h':Heap) (c':Nat),(∀ b o',s.heap.get? b=some o'->h'.get? b=some o') ->
   h'.get? s.heap.objs.size=some { cls:=.type "list", dict:=none,data:=.seq its.toArray c',slots:=#[] }->EP X pins σ Q (.ref s.heap.objs.size) { s with heap:=h' }:=fun its r' hz h' c' kp e =>
  ⟨.ref s.heap.objs.size,_,I.laid (t':=s.toks) kp (zzR _) (show xN X.prog X.w _ h' _ (.lst ys) from ⟨hz,its,c',r',e⟩),rfl,q _ (I.hok.fresh (zzR _))⟩
 rcases hq with hq|hq
 .obtain ⟨its,r',pl,hz⟩:=I.list hq;have hlen:=r'.length;obtain ⟨o,ho,hc,n,hd⟩:=pl.isList;exact call_list_seq p (.inl rfl) ho hc hd (fun h' c' kp e=>fin its r' hz h' c' kp e) (by simp only [zzS]<;>omega)
 .obtain ⟨its,r',pl,hz⟩:=I.tuple hq;have hlen:=r'.length;obtain ⟨o,ho,hc,n,hd⟩:=pl;exact call_list_seq p (.inr rfl) ho hc hd (fun h' c' kp e=>fin its r' hz h' c' kp e) (by simp only [zzS]<;>omega)
def tyV (K:PySem.W.Frag) (T:String) (x:V) (H:Hp):Prop:=match x with
 | .str _=>T = "str"
 | .int _=>T = "int"
 | .ref p=>(T = "list" /\ ∃ xs,pH K H p xs)\/(T = "tuple" /\ ∃ o,K.lookup p=some o/\o.cls=.type "tuple" /\ o.dict=none) \/
   (T = "dict" /\ ((∃ kvs,H p=some (.dK kvs))\/∃ kvs,H p=some (.dT kvs)))\/(T = "set" /\ ∃ S n,H p=some (.set S n))
 |_=>False
theorem ze9 {pins:List (Addr×Obj)} {σ:St} {H:Hp} {s:Shared} {T:String} {x:V} {v:Value} (I:Inv X pins σ H s) (r:yY x v) (ty:tyV X.K T x H) :
  s.TypeIs v T/\∀ a,v=.ref a->∃ ob,s.heap.get? a=some ob/\ob.dict=none:=by
 cases x with
 |str z =>
  obtain ⟨t,rfl⟩:=r;cases (show T = "str" from ty);exact ⟨typeIs_str s z t,fun _ e=>nomatch e⟩
 |int i =>
  obtain ⟨t,rfl⟩:=r;cases (show T = "int" from ty);exact ⟨typeIs_int s i t,fun _ e=>nomatch e⟩
 |ref p =>
  cases r;rcases ty with ⟨rfl,xs,hq⟩|⟨rfl,o,hk,hc,hd⟩|⟨rfl,hk⟩|⟨rfl,S,n,hk⟩
  .obtain ⟨its,_,pl,_⟩:=I.list hq;refine ⟨pl.isList.typeIs,fun a e=>?_⟩;cases e;obtain ⟨o,n,e,c,hd,_⟩:=pl;exact ⟨o,e,hd⟩
  .refine ⟨⟨o,I.kIn p o hk,hc⟩,fun a e=>?_⟩;cases e;exact ⟨o,I.kIn _ o hk,hd⟩
  .have z:∃ o,s.heap.get? p=some o/\o.ExactDict:=by
    rcases hk with ⟨kvs,hk⟩|⟨kvs,hk⟩
    .obtain ⟨_,_,_,_,o,_,_,e,ex,_⟩:=I.hok p _ hk;exact ⟨o,e,ex⟩
    .obtain ⟨_,_,_,_,o,_,_,e,ex,_⟩:=I.hok p _ hk;exact ⟨o,e,ex⟩
   obtain ⟨o,e,ex⟩:=z;refine ⟨⟨o,e,ex.1⟩,fun a e2=>?_⟩;cases e2;exact ⟨o,e,ex.2.1⟩
  .obtain ⟨o,_,_,_,e,ex,_⟩:=I.hok p _ hk;refine ⟨⟨o,e,ex.1⟩,fun a e2=>?_⟩;cases e2;exact ⟨o,e,ex.2.1⟩
 |_=>exact False.elim ty
def tBM0 (K:PySem.W.Frag) (T:String) (r:V->List V->Hp->VK->Prop) (to:TE):TE:=fun σ H Q=>to σ H fun x H1=>tyV K T x H1/\r x [] H1 Q
def tBM (K:PySem.W.Frag) (T:String) (r:V->List V->Hp->VK->Prop) (to:TE) (t:TA):TE:=fun σ H Q=>to σ H fun x H1=>tyV K T x H1/\t σ H1 fun xs H2=>r x xs H2 Q
variable {o e : Expr} {es : List Expr} {to : TE} {t : TA} {name : Str} {apos cpos : Pos} {T id : String} {r : V → List V → Hp → VK → Prop}
theorem ziX (pa:PlainAttrs T) (slot:Slot T name id) (hty:typeOf (.builtin id)=pure (.type "method_descriptor")) (hm:MtR X id r) (ho:PE X o to)
  (hbase:attributeBase o name X.env (eval o X.env)=eval o X.env:=by rfl) (hline:(apos.endLine==cpos.line)=true:=by rfl):PE X (.Call (.Attribute o name apos) [] [] cpos) (tBM0 X.K T r to):=by
 intro pins s σ H Q I h;refine wpAny_Call_method0_late hbase hline (yF (ho pins s σ H _ I h) fun v s1 ⟨x,H1,I1,r1,ty,q1⟩=>?_);obtain ⟨h1,h2⟩:=ze9 I1 r1 ty;exact ⟨T,id,pa,slot,hty,h1,h2,Calls.callWith_builtin rfl (PySem.evalArgs_none (hm pins s1 σ H1 x [] v [] Q I1 r1 .nil q1))⟩
theorem pe_bm (pa:PlainAttrs T) (slot:Slot T name id) (hty:typeOf (.builtin id)=pure (.type "method_descriptor")) (hm:MtR X id r) (ho:PE X o to) (ha:PA X (e::es) t)
  (hbase:attributeBase o name X.env (eval o X.env)=eval o X.env:=by rfl)
  (hfew:((backTo cpos (starEach (e::es) X.env)).all (fun x=>!x.1)&&(backToKw cpos (keywordEach [] X.env)).all (fun x=>x.1.isSome)
   && decide ((e::es).length+([]:List Keyword).length+(if ([]:List Keyword).isEmpty then 0 else 1)<30))=true:=by rfl)
  (hline:(apos.endLine==cpos.line)=true:=by rfl) (hs:starEach (e::es) X.env=(false,eval e X.env)::starEach es X.env:=by rfl) (hplain:(backTo cpos (starEach es X.env)).any (·.1)=false:=by rfl) :
  PE X (.Call (.Attribute o name apos) (e::es) [] cpos) (tBM X.K T r to t):=by
 intro pins s σ H Q I h;refine wpAny_Call_method_late hbase hfew hline rfl (yF (ho pins s σ H _ I h) fun v s1 ⟨x,H1,I1,r1,ty,q1⟩=>?_);obtain ⟨h1,h2⟩:=ze9 I1 r1 ty;refine ⟨T,id,pa,slot,hty,h1,h2,?_⟩;have hA:=ha cpos pins s1 σ H1 _ I1 q1;rw [hs] at hA ⊢;refine Calls.callWith_builtin (by show (false || (backTo cpos (starEach es X.env)).any (·.1))=false;rw [hplain]<;>rfl) (Calls.evalArgs_plain ?_);exact yF hA fun us s2 ⟨vs,H2,I2,r2,q2⟩=>hm pins s2 σ H2 x vs v us Q I2 r1 r2 q2
/- xs.append(e),list.index on a module's tuple .. are MtR facts of 06m -/
end
end L2
namespace L2
open PySem PySem.Spec PyProof.Rows
def MtM (X:Cx) (id:String) (r:V->List V->Hp->VK->Prop):Prop :=
 ∀ (pins:List (Addr×Obj)) (s:Shared) (σ:St) (H:Hp) (x:V) (xs:List V) (v:Value) (us:List Value) (Q:VK),Inv X pins σ H s->yY x v->zA xs us->r x xs H Q ->
  wpAny (model X.prog X.w) X.A (call (.builtin id) (v::us)) (EP X pins σ Q) X.xe s
theorem zA.one:∀ {x:V} {us:List Value},zA [x] us->∃ u,us=[u]/\yY x u
 |_,_,.cons r .nil=>⟨_,rfl,r⟩
theorem zA.zero:∀ {us:List Value},zA [] us->us=[]
 |_,.nil=>rfl
theorem zA.dropLast {xs:List V} {us:List Value} (h:zA xs us):zA xs.dropLast us.dropLast:=by
 induction h with
 |nil=>exact .nil
 |cons r t ih =>
  cases t with
  |nil=>exact .nil
  |cons q t'=>exact .cons r ih
theorem zA.rep {xs:List V} {us:List Value} (h:zA xs us):∀ k:Nat,zA (List.replicate k xs).flatten (List.replicate k us).flatten
 | 0=>.nil
 |k+1=>by
  rw [List.replicate_succ,List.replicate_succ,List.flatten_cons,List.flatten_cons];exact zA.append h (zA.rep h k)
theorem zbI {α:Type} (l:List α):l.eraseIdx (l.length-1)=l.dropLast:=by
 induction l with
 |nil=>rfl
 |cons a r ih =>
  cases r with
  |nil=>rfl
  |cons b r =>
   have e:(a::b::r).length-1=((b::r).length-1)+1:=by
    have h1:(a::b::r).length=r.length+2:=rfl;have h2:(b::r).length=r.length+1:=rfl;omega
   rw [e,List.eraseIdx_cons_succ,ih]
   all_goals rfl
theorem bZ (its:List Value):∀ (k:Nat) (acc:List Value),
  List.foldl (fun x1 x2=>x1++x2) acc.toArray (List.replicate k its.toArray)=(acc++(List.replicate k its).flatten).toArray
 | 0,acc=>by simp
 |k+1,acc=>by
  have e:acc.toArray++its.toArray=(acc++its).toArray:=by simp
  have e2:(acc++its)++(List.replicate k its).flatten=acc++(List.replicate (k+1) its).flatten:=by
   rw [List.replicate_succ,List.flatten_cons,List.append_assoc]
  rw [← e2,← bZ its k (acc++its),← e,List.replicate_succ,List.foldl_cons]
section
variable {X : Cx} {pins : List (Addr × Obj)} {σ : St} {H : Hp} {s : Shared} {l b : Addr} {xs ys zs : List V}
theorem Inv.lset {its its':List Value} {n:Nat} {f:Array Value->Array Value} {t':Nat} (I:Inv X pins σ H s) (hH:H l=some (.lst xs))
  (e:s.heap.get? l=some { cls:=.type "list", data:=.seq its.toArray n }) (hf:f its.toArray=its'.toArray) (hv:zA ys its') (hz:ys.length<=sizeLine) (ht:0<t':=by first|exact Nat.succ_pos _|exact L2.Inv.tk (by assumption)|exact L2.Inv.tk ‹L2.Inv _ _ _ _ _› | assumption|omega) :
  Inv X pins σ (xR H l (.lst ys)) { s with heap:=s.heap.update l (Obj.mapSeq f),toks:=t' }:=by
 have q:=PySem.IsL.update e f;rw [hf] at q;refine I.write (x:=l) (e:=l) (by rw [hH];exact trivial) (.inl rfl) (fun b' u hb hu=>(Heap.get?_update_other s.heap (Obj.mapSeq f) (Ne.symm hb)).trans hu) ⟨_,q⟩ ?_;exact ⟨hz,its',_,hv,q⟩
theorem Inv.lnew {its:List Value} {t':Nat} (I:Inv X pins σ H s) (hv:zA ys its) (hz:ys.length<=sizeLine) (ht:0<t':=by first|exact Nat.succ_pos _|exact L2.Inv.tk (by assumption)|exact L2.Inv.tk ‹L2.Inv _ _ _ _ _› | assumption|omega) :
  Inv X pins σ (xR H s.heap.objs.size (.lst ys)) { s with heap:=s.heap.push { cls:=.type "list", data:=.seq its.toArray },toks:=t' } :=
 I.laid (fun _ _ q=>Heap.get?_push_of_some _ q) (zzR _) ⟨hz,its,0,hv,Heap.get?_push_size _ rfl⟩
theorem Inv.fresh (I:Inv X pins σ H s):H s.heap.objs.size=none:=I.hok.fresh (zzR _)
theorem Inv.lstM (I:Inv X pins σ H s) (hH:H l=some (.lst xs)):xs.length<=sizeLine/\∃ (its:List Value) (n:Nat),zA xs its/\xs.length=its.length/\s.heap.get? l=some { cls:=.type "list", data:=.seq its.toArray n }:=by
 obtain ⟨z,its,n,r,e⟩:=I.hok l _ hH;exact ⟨z,its,n,r,r.length,e⟩
theorem zev {n:Nat} (h:n<=sizeLine):Builtin.List.listTooLong n=false:=by
 unfold Builtin.List.listTooLong;exact decide_eq_false (by omega)
end
section
variable {X : Cx}
def zgn:V->List V->Hp->VK->Prop:=fun x vs H Q=>∃ l xs y,x=.ref l/\vs=[y]/\H l=some (.lst xs)/\xs.length<sizeLine/\Q .non (xR H l (.lst (xs++[y])))
theorem zcG:MtM X "list.append" zgn:=by
 intro pins s σ H x vs v us Q I rx rv h;obtain ⟨l,xs,y,rfl,rfl,hH,hz,q⟩:=h;cases rx;obtain ⟨u,rfl,ru⟩:=rv.one;obtain ⟨z,its,n,r,hl,e⟩:=I.lstM hH;refine call_meets F.slot_list_append ⟨_,e,rfl⟩ F.entry_list_append (F.args_list_append_2 _ _) (PySem.list_append l its.toArray n u (by rw [zzS];omega)) ⟨e,?_⟩;refine ⟨.non,_,I.lset (its':=its++[u]) hH e (by simp) (r.append (.cons ru .nil)) ?_,rfl,q⟩;rw [zzW,List.length_singleton];omega
def rPop:V->List V->Hp->VK->Prop:=fun x vs H Q=>∃ l xs y,x=.ref l/\vs=[]/\H l=some (.lst xs)/\xs[xs.length-1]?=some y/\Q y (xR H l (.lst xs.dropLast))
theorem zji:MtM X "list.pop" rPop:=by
 intro pins s σ H x vs v us Q I rx rv h;obtain ⟨l,xs,y,rfl,rfl,hH,hy,q⟩:=h;cases rx;have hus:=rv.zero;subst hus;obtain ⟨z,its,n,r,hl,e⟩:=I.lstM hH;obtain ⟨u,hu,ru⟩:=r.get hy
 have hy':its.toArray[its.toArray.size-1]?=some u:=by
  show its.toArray[its.length-1]?=some u;rw [← Array.getElem?_toList,← hl];exact hu
 refine call_meets F.slot_list_pop ⟨_,e,rfl⟩ F.entry_list_pop (F.args_list_pop_1 _) (MeetsSeq.list_pop_last l its.toArray n u hy' (by rw [zzS];omega)) ⟨e,?_⟩;refine ⟨y,_,I.lset (its':=its.dropLast) hH e ?_ r.dropLast ?_,ru,q⟩
 .show its.toArray.eraseIdxIfInBounds (its.toArray.size-1)=its.dropLast.toArray;rw [zzS,List.eraseIdxIfInBounds_toArray,zbI]
 .rw [List.length_dropLast];omega
def rCat:R2:=fun x y H Q=>∃ l b xs zs,x=.ref l/\y=.ref b/\H l=some (.lst xs)/\H b=some (.lst zs)/\xs.length+zs.length<=sizeLine/\∀ p,H p=none->Q (.ref p) (xR H p (.lst (xs++zs)))
theorem zi4:kQ X (binaryOp .Add) rCat:=by
 intro pins s σ H x y v u Q I rx ry h;obtain ⟨l,b,xs,zs,rfl,rfl,hH,hB,hz,q⟩:=h;cases rx;cases ry;obtain ⟨z,its,n,r,hl,e⟩:=I.lstM hH;obtain ⟨z2,its2,n2,r2,hl2,e2⟩:=I.lstM hB;refine PySem.P.add_list e e2 ?_ (by rw [zzS,zzS];omega);have ea:its.toArray++its2.toArray=(its++its2).toArray:=by simp
 rw [ea];exact ⟨.ref _,_,I.lnew (t':=s.toks) (r.append r2) (by rw [zzW];omega),rfl,q _ I.fresh⟩
def rRep:R2:=fun x y H Q=>∃ l k xs,x=.ref l/\y=.int k/\H l=some (.lst xs)/\-(2 ^ 63)<=k/\k<2 ^ 63/\xs.length * k.toNat<=sizeLine /\
 ∀ p,H p=none->Q (.ref p) (xR H p (.lst (List.replicate k.toNat xs).flatten))
theorem zgP {α:Type} (xs:List α) (k:Nat):(List.replicate k xs).flatten.length=k * xs.length:=by
 induction k with
 |zero=>simp
 |succ k ih=>rw [List.replicate_succ,List.flatten_cons,zzW,ih,Nat.succ_mul,Nat.add_comm]
theorem zi0:kQ X (binaryOp .Mult) rRep:=by
 intro pins s σ H x y v u Q I rx ry h;obtain ⟨l,k,xs,rfl,rfl,hH,h1,h2,hz,q⟩:=h;cases rx;obtain ⟨t,rfl⟩:=ry;obtain ⟨z,its,n,r,hl,e⟩:=I.lstM hH;have hlen:its.toArray.size * k.toNat<=sizeLine:=by rw [zzS,← hl];exact hz
 have hcap:¬ its.toArray.size * k.toNat > (2 ^ 63-1) / 8:=by
  have:(sizeLine:Nat)<=(2 ^ 63-1) / 8:=by decide
  omega
 have hfit:¬ (!Builtin.List.listFitsIndex k)=true:=by
  rw [fitsIndex_both h1 h2];exact zzN
 have hlong:¬ Builtin.List.listTooLong (its.toArray.size * k.toNat)=true:=by
  rw [zev hlen];exact zzN
 have hnew:List.foldl (fun x1 x2=>x1++x2) #[] (List.replicate (if its.toArray.isEmpty=true then 0 else k.toNat) its.toArray)=(List.replicate k.toNat its).flatten.toArray:=by
  have f0:∀ m:Nat,List.foldl (fun x1 x2=>x1++x2) #[] (List.replicate m its.toArray)=(List.replicate m its).flatten.toArray:=fun m=>by
   have:=bZ its m [];rw [List.nil_append] at this;exact this
  rw [f0]
  cases its with
  |nil=>simp
  |cons a r'=>rw [if_neg (by simp)]
 refine wpAny_binaryOp_repeat_ref (T := "list") (U := "int") (by decide) ⟨_,e,rfl⟩ (fun s'=>typeIs_int s' k t) noFill_list_mul F.fills_int_mul F.slot_int_rmul repeat_list F.slot_int_index.lookup
  (call_meets F.slot_int_rmul (typeIs_int s k t) F.entry_int_rmul (F.args_int_rmul_2 _ _) (int___rmul___int_list k t l its.toArray n)
   ⟨e,rfl,⟨_,e,rfl⟩,call_meets F.slot_list_mul ⟨_,e,rfl⟩ F.entry_list_mul (F.args_list_mul_2 _ _) (AutoListH.list___mul___list_int_3 l its.toArray n k t hfit hcap hlong) ⟨e,?_⟩⟩)
 rw [hnew];exact ⟨.ref _,_,I.lnew (t':=s.toks) (r.rep k.toNat) (by rw [zgP,Nat.mul_comm];exact hz),rfl,q _ I.fresh⟩
end
section
variable {prog : Program} {w : World} {A : Around} {E : Value → Shared → Prop} {s : Shared}
set_option maxRecDepth 100000 in
end
section
variable {X : Cx}
end
end L2
namespace L2
open PySem PySem.Spec PyProof.Rows
section
variable {κ : Type} [DecidableEq κ]
def vP (kvs:List (κ×V)) (k:κ):Option V:=(kvs.find? fun kv=>decide (kv.1=k)).map (·.2)
def vO (kvs:List (κ×V)) (k:κ) (v:V):List (κ×V) :=
 if (kvs.any fun kv=>decide (kv.1=k))=true then kvs.map (fun kv=>if kv.1=k then (kv.1,v) else kv) else kvs++[(k,v)]
def zj7 (kvs:List (κ×V)) (k:κ):List (κ×V):=kvs.filter fun kv=>decide (kv.1≠k)
theorem mZ {p:κ×V} {r:List (κ×V)} {k:κ} (e:p.1=k):vP (p::r) k=some p.2:=by simp [vP,List.find?_cons,e]
theorem mY {p:κ×V} {r:List (κ×V)} {k:κ} (e:¬ p.1=k):vP (p::r) k=vP r k:=by simp [vP,List.find?_cons,e]
theorem zaY (k:κ):∀ kvs:List (κ×V),(kvs.any fun kv=>decide (kv.1=k))=(vP kvs k).isSome
 | []=>rfl
 |p::r=>by
  rw [List.any_cons]
  by_cases e:p.1=k
  .simp only [mZ e,decide_eq_true e,Bool.true_or,Option.isSome_some]
  .rw [mY e,decide_eq_false e,Bool.false_or];exact zaY k r
theorem uW (kvs:List (κ×V)) (k:κ) (v:V):(vO kvs k v).length<=kvs.length+1:=by
 unfold vO
 split
 .rw [zzM];omega
 .rw [zzW,List.length_cons,List.length_nil];omega
theorem pX.isSome_eq {o:Option V} {u:Option Value} (r:pX o u):o.isSome=u.isSome:=by
 cases o with
 |none=>cases u with
  |none=>rfl
  |some _=>exact (show False from r).elim
 |some _=>cases u with
  |none=>exact (show False from r).elim
  |some _=>rfl
theorem KV.val {kvs:List (κ×V)} {vs:List (κ×Value)} (r:KV kvs vs) (k:κ):pX (vP kvs k) (valueAt vs k):=by
 unfold KV at r
 induction r with
 |nil=>exact True.intro
 | @cons p q ps qs h t ih =>
  obtain ⟨h1,h2⟩:=h
  by_cases e:p.1=k
  .have e':q.1=k:=h1.symm.trans e;have b:valueAt (q::qs) k=some q.2:=by simp [valueAt,List.find?_cons,e']
   rw [mZ e,b];exact h2
  .have e':¬ q.1=k:=fun z=>e (h1.trans z);have b:valueAt (q::qs) k=valueAt qs k:=by simp [valueAt,List.find?_cons,e']
   rw [mY e,b];exact ih
theorem KV.any {kvs:List (κ×V)} {vs:List (κ×Value)} (r:KV kvs vs) (k:κ):(kvs.any fun kv=>decide (kv.1=k))=vs.any fun kv=>decide (kv.1=k):=by
 unfold KV at r
 induction r with
 |nil=>rfl
 |cons h t ih=>rw [List.any_cons,List.any_cons,ih,h.1]
theorem KV.repl {kvs:List (κ×V)} {vs:List (κ×Value)} (r:KV kvs vs) (k:κ) {y:V} {u:Value} (ry:yY y u) :
  KV (kvs.map fun kv=>if kv.1=k then (kv.1,y) else kv) (vs.map fun kv=>if kv.1=k then (kv.1,u) else kv):=by
 unfold KV at r ⊢
 induction r with
 |nil=>exact .nil
 | @cons p q ps qs h t ih =>
  rw [zzU,zzU];refine .cons ?_ ih;obtain ⟨h1,h2⟩:=h
  by_cases e:p.1=k
  .rw [if_pos e,if_pos (h1.symm.trans e)];exact ⟨h1,ry⟩
  .rw [if_neg e,if_neg (fun z=>e (h1.trans z))];exact ⟨h1,h2⟩
theorem KV.put {kvs:List (κ×V)} {vs:List (κ×Value)} (r:KV kvs vs) (k:κ) {y:V} {u:Value} (ry:yY y u):KV (vO kvs k y) (stored vs k u):=by
 unfold vO stored;rw [r.any k]
 by_cases e:(vs.any fun kv=>decide (kv.1=k))=true
 .rw [if_pos e,if_pos e];exact r.repl k ry
 .rw [if_neg e,if_neg e];exact Paired.snoc r ⟨rfl,ry⟩
theorem KV.length {kvs:List (κ×V)} {vs:List (κ×Value)} (r:KV kvs vs):kvs.length=vs.length:=Paired.length r
end
theorem cJ {P:Program} {w:World} {k:xY} {u:Value} (r:yY (kV k) u):(xM P w).is k u=true:=by
 cases k with
 |inl i=>obtain ⟨t,e⟩:=(show ∃ t,u=Value.int i t from r);subst e;exact zay P w i t
 |inr x=>obtain ⟨t,e⟩:=(show ∃ t,u=Value.str x t from r);subst e;exact zax P w x t
theorem cG {P:Program} {w:World}:∀ {ks:List xY} {us:List Value},zA (ks.map kV) us->ItemsAre (xM P w) ks us
 | [],_,r=>by rw [zzV] at r;cases r;exact .nil
 |k::ks,_,r=>by
  rw [zzU] at r
  cases r with
  |cons h t=>exact .cons (cJ h) (cG t)
abbrev KT (H:Hp):List (List xY×V)->List (List xY×Addr×Value)->Prop:=Paired fun p q=>p.1=q.1/\H q.2.1=some (.tup (p.1.map kV))/\yY p.2 q.2.2
theorem KT.val {H:Hp} {kvs:List (List xY×V)} {xs:List (List xY×Addr×Value)} (r:KT H kvs xs) (k:List xY):pX (vP kvs k) ((atKey xs k).map (·.2)):=by
 induction r with
 |nil=>exact True.intro
 | @cons p q ps qs h t ih =>
  obtain ⟨h1,_,h2⟩:=h
  by_cases e:p.1=k
  .have e':q.1=k:=h1.symm.trans e;have b:atKey (q::qs) k=some q.2:=by simp [atKey,List.find?_cons,e']
   rw [mZ e,b];exact h2
  .have e':¬ q.1=k:=fun z=>e (h1.trans z);have b:atKey (q::qs) k=atKey qs k:=by simp [atKey,List.find?_cons,e']
   rw [mY e,b];exact ih
theorem KT.repl {H:Hp} {kvs:List (List xY×V)} {xs:List (List xY×Addr×Value)} (r:KT H kvs xs) (k:List xY) {y:V} {u:Value} (ry:yY y u) :
  KT H (kvs.map fun kv=>if kv.1=k then (kv.1,y) else kv) (xs.map (putAt k u)):=by
 induction r with
 |nil=>exact .nil
 | @cons p q ps qs h t ih =>
  rw [zzU,zzU];refine .cons ?_ ih;obtain ⟨h1,h2,h3⟩:=h;unfold putAt
  by_cases e:p.1=k
  .rw [if_pos e,if_pos (h1.symm.trans e)];exact ⟨h1,h2,ry⟩
  .rw [if_neg e,if_neg (fun z=>e (h1.trans z))];exact ⟨h1,h2,h3⟩
theorem KT.put {H:Hp} {kvs:List (List xY×V)} {xs:List (List xY×Addr×Value)} (r:KT H kvs xs) (k:List xY) {b:Addr} {y:V} {u:Value} (hb:H b=some (.tup (k.map kV))) (ry:yY y u) :
  KT H (vO kvs k y) (storedH xs k b u):=by
 have e:(kvs.any fun kv=>decide (kv.1=k))=(atKey xs k).isSome:=by
  rw [zaY,(r.val k).isSome_eq,Option.isSome_map]
 unfold vO storedH;rw [e]
 by_cases q:(atKey xs k).isSome=true
 .rw [if_pos q,if_pos q];exact r.repl k ry
 .rw [if_neg q,if_neg q];exact Paired.snoc r ⟨rfl,hb,ry⟩
theorem KT.keeps {H H':Hp} {kvs:List (List xY×V)} {xs:List (List xY×Addr×Value)} (r:KT H kvs xs) (ht:∀ b ys,H b=some (.tup ys)->H' b=some (.tup ys)):KT H' kvs xs :=
 Paired.mapP r fun _ _ z=>⟨z.1,ht _ _ z.2.1,z.2.2⟩
section
variable {P : Program} {w : World} {H : Hp} {h : Heap} {a : Addr}
theorem zix {u:HO} (ok:vL P w H h) (e:Rd H a u):xN P w H h a u:=e.ok ok
theorem fQ {kvs:List (xY×V)} (ok:vL P w H h) (e:Rd H a (.dK kvs)):kvs.length<=sizeLine/\(a==sysModules)=false/\∃ vs,KV kvs vs/\h.DictOf (xM P w) a vs :=
 show xN P w H h a (.dK kvs) from zix ok e
theorem zj8 {kvs:List (xY×V)} (ok:vL P w H h) (e:H a=some (.dK kvs)):kvs.length<=sizeLine/\(a==sysModules)=false/\∃ vs,KV kvs vs/\h.DictOf (xM P w) a vs:=fQ ok (.inl e)
theorem gA {ks:List xY} (ok:vL P w H h) (e:H a=some (.tup (ks.map kV))):(tupleKind (xM P w)).is h ks a:=by
 obtain ⟨_,its,r,o,h1,h2,n,h3⟩:=(show xN P w H h a (.tup (ks.map kV)) from ok a _ e);exact ⟨o,its.toArray,n,h1,h2,h3,by simpa using cG r⟩
theorem zdl {kvs:List (List xY×V)} (ok:vL P w H h) (e:Rd H a (.dT kvs)):kvs.length<=sizeLine/\(a==sysModules)=false /\
  ∃ xs,KT H kvs xs/\h.DictOfH (tupleKind (xM P w)) a xs:=by
 obtain ⟨z,y,xs,r,o,es,ep,h1,h2,h3,h4,h5⟩:=(show xN P w H h a (.dT kvs) from zix ok e);refine ⟨z,y,xs,r,o,es,ep,h1,h2,h3,h4,fun x hx=>?_,h5⟩
 have all:∀ {l:List (List xY×V)} {m:List (List xY×Addr×Value)},KT H l m->∀ x∈m,(tupleKind (xM P w)).is h x.1 x.2.1:=by
  intro l m q
  induction q with
  |nil=>intro x hx;exact nomatch hx
  | @cons p q ps qs hq t ih =>
   intro x hx;rcases List.mem_cons.mp hx with e|hx
   .subst e;exact gA ok (by rw [← hq.1];exact hq.2.1)
   .exact ih x hx
 exact all r x hx
theorem dt_of {kvs:List (List xY×V)} (ok:vL P w H h) (e:H a=some (.dT kvs)):kvs.length<=sizeLine/\(a==sysModules)=false /\
  ∃ xs,KT H kvs xs/\h.DictOfH (tupleKind (xM P w)) a xs:=zdl ok (.inl e)
end
def DGet (H:Hp) (a:Addr) (y:V) (r:Option V):Prop :=
 (∃ kvs k,Rd H a (.dK kvs)/\y=kV k/\r=vP kvs k)\/∃ kvs k b,Rd H a (.dT kvs)/\y=.ref b/\H b=some (.tup (k.map kV))/\r=vP kvs k
def DPut (H:Hp) (a:Addr) (y v:V) (H':Hp):Prop :=
 (∃ kvs k,H a=some (.dK kvs)/\y=kV k/\kvs.length<sizeLine/\H'=xR H a (.dK (vO kvs k v))) \/
 ∃ kvs k b,H a=some (.dT kvs)/\y=.ref b/\H b=some (.tup (k.map kV))/\kvs.length<sizeLine/\H'=xR H a (.dT (vO kvs k v))
section
variable {X : Cx} {pins : List (Addr × Obj)} {σ : St} {H : Hp} {s : Shared} {a : Addr} {y v : V} {u r : Value} {o : Option V} {A : Around} {E : Value → Shared → Prop}
theorem Inv.big (I:Inv X pins σ H s):sysModules<s.heap.objs.size:=by
 have h:mainGlobals<s.heap.objs.size:=(I.mod.glob.keeps I.bk).lt;exact Nat.lt_trans (by decide) h
theorem zdq {Q:Value->Shared->Prop} (hu:A.units+1<cLine) (I:Inv X pins σ H s) (g:DGet H a y (some v)) (ry:yY y u) (h:∀ w' s',Inv X pins σ H s'->yY v w'->Q w' s') :
  wpAny (model X.prog X.w) A (getItem (.ref a) u) Q E s:=by
 rcases g with ⟨kvs,k,e,ey,l⟩|⟨kvs,k,b,e,ey,eb,l⟩
 .subst ey;obtain ⟨z,hd,vs,rel,dd⟩:=fQ I.hok e;obtain ⟨w',hw,rw'⟩:=pX.some_of (v:=v) (o:=valueAt vs k) (by rw [l];exact rel.val k);exact wpAny_getItem_of (cJ ry) dd.mapOf hw (h w' _ (I.tok _) rw')
 .subst ey;cases (show u=Value.ref b from ry);obtain ⟨z,hd,xs,rel,dd⟩:=zdl I.hok e;obtain ⟨w',hw,rw'⟩:=pX.some_of (v:=v) (o:=(atKey xs k).map (·.2)) (by rw [l];exact rel.val k);obtain ⟨p,hp,hp2⟩:=Option.map_eq_some_iff.mp hw;refine wpAny_getItem_heap (tupleKind_room_in1 hu) (gA I.hok eb) dd hp ?_;rw [hp2];exact h w' _ (I.tok _) rw'
theorem d_in {Q:Value->Shared->Prop} (hu:A.units+1<cLine) (I:Inv X pins σ H s) (g:DGet H a y o) (ry:yY y u) (h:∀ s',Inv X pins σ H s'->Q (.bool o.isSome) s') :
  wpAny (model X.prog X.w) A (compareOp .In u (.ref a)) Q E s:=by
 rcases g with ⟨kvs,k,e,ey,l⟩|⟨kvs,k,b,e,ey,eb,l⟩
 .subst ey;obtain ⟨z,hd,vs,rel,dd⟩:=fQ I.hok e;refine wpAny_in_of (cJ ry) hd dd.mapOf ?_;rw [← (rel.val k).isSome_eq,← l];exact h _ (I.tok _)
 .subst ey;cases (show u=Value.ref b from ry);obtain ⟨z,hd,xs,rel,dd⟩:=zdl I.hok e;refine wpAny_in_heap (tupleKind_room_in1 hu) (gA I.hok eb) hd dd ?_;have q:=(rel.val k).isSome_eq;rw [Option.isSome_map] at q;rw [← q,← l];exact h _ (I.tok _)
theorem zhz {Q:Value->Shared->Prop} (hu:A.units+1<cLine) (I:Inv X pins σ H s) (g:DGet H a y o) (ry:yY y u) (h:∀ s',Inv X pins σ H s'->Q (.bool (!o.isSome)) s') :
  wpAny (model X.prog X.w) A (compareOp .NotIn u (.ref a)) Q E s:=by
 rcases g with ⟨kvs,k,e,ey,l⟩|⟨kvs,k,b,e,ey,eb,l⟩
 .subst ey;obtain ⟨z,hd,vs,rel,dd⟩:=fQ I.hok e;refine wpAny_notIn_of (cJ ry) hd dd.mapOf ?_;rw [← (rel.val k).isSome_eq,← l];exact h _ (I.tok _)
 .subst ey;cases (show u=Value.ref b from ry);obtain ⟨z,hd,xs,rel,dd⟩:=zdl I.hok e;refine wpAny_notIn_heap (tupleKind_room_in1 hu) (gA I.hok eb) hd dd ?_;have q:=(rel.val k).isSome_eq;rw [Option.isSome_map] at q;rw [← q,← l];exact h _ (I.tok _)
theorem zaK {h':Heap} {t':Nat} {ob:HO} (I:Inv X pins σ H s) (mu:Mut (H a)) (hs:Heap.SameBut a s.heap h') (he:∃ q,h'.get? a=some q) (new:xN X.prog X.w (xR H a ob) h' a ob) (ht:0<t':=by first|exact Nat.succ_pos _|exact L2.Inv.tk (by assumption)|exact L2.Inv.tk ‹L2.Inv _ _ _ _ _› | assumption|omega) :
  Inv X pins σ (xR H a ob) { s with heap:=h',toks:=t' } :=
 I.write (x:=a) (e:=a) mu (.inl rfl) (fun b q hb z=>(hs.2 b hb).trans z) he new
theorem zfT {P:Program} {w:World} {H':Hp} {h':Heap} {kvs:List (xY×V)} {vs:List (xY×Value)} (z:kvs.length<=sizeLine) (hd:(a==sysModules)=false) (rel:KV kvs vs) (dd:h'.DictOf (xM P w) a vs) :
  xN P w H' h' a (.dK kvs):=⟨z,hd,vs,rel,dd⟩
theorem zdp {H':Hp} {Q:Unit->Shared->Prop} (hu:A.units+1<cLine) (I:Inv X pins σ H s) (g:DPut H a y v H') (ry:yY y u) (rv:yY v r) (h:∀ s',Inv X pins σ H' s'->Q () s') :
  wpAny (model X.prog X.w) A (setItem (.ref a) u r) Q E s:=by
 rcases g with ⟨kvs,k,e,ey,l,eH⟩|⟨kvs,k,b,e,ey,eb,l,eH⟩
 .subst ey eH;obtain ⟨z,hd,vs,rel,dd⟩:=zj8 I.hok e;have hz:vs.length<=sizeLine:=by rw [← rel.length];exact z
  have hl:(vO kvs k v).length<=sizeLine:=by have:=uW kvs k v;omega
  refine wpAny_setItem_pairs (hsz:=hz) (cJ ry) dd fun h' dd' hs=>h _ ?_;have he:∃ q,h'.get? a=some q:=let ⟨q,_,_,hq,_⟩:=dd';⟨q,hq⟩;exact zaK I (by rw [e];exact True.intro) hs he (zfT hl hd (rel.put k rv) dd')
 .subst ey eH;cases (show u=Value.ref b from ry);obtain ⟨z,hd,xs,rel,dd⟩:=dt_of I.hok e;have hz:xs.length<=sizeLine:=by rw [← Paired.length rel];exact z
  have hl:(vO kvs k v).length<=sizeLine:=by have:=uW kvs k v;omega
  refine wpAny_setItem_heap (hsz:=hz) (tupleKind_room_in1 hu) (gA I.hok eb) dd fun h' dd' hs=>h _ ?_;obtain ⟨q,es,ep,hq,h2,h3,h4,_,h5⟩:=dd';refine zaK I (by rw [e];exact True.intro) hs ⟨q,hq⟩ ⟨hl,hd,_,(rel.put k eb rv).keeps fun c ys ec=>?_,q,es,ep,hq,h2,h3,h4,h5⟩;rw [zG (ne_of ec e (fun z=>nomatch z))];exact ec
end
section
variable {X : Cx} {pins : List (Addr × Obj)} {σ : St} {H : Hp} {s : Shared} {a : Addr} {kvs : List (xY × V)} {k : xY} {u : Value} {A : Around} {E : Value → Shared → Prop}
theorem d_len {Q:Value->Shared->Prop} (I:Inv X pins σ H s) (e:Rd H a (.dK kvs)) (h:∀ t s',Inv X pins σ H s'->Q (.int kvs.length t) s'):wpAny (model X.prog X.w) A (call (.builtin "len") [.ref a]) Q E s:=by
 obtain ⟨z,hd,vs,rel,dd⟩:=fQ I.hok e;refine call_len_dict hd dd (by rw [← rel.length];rw [sizeLine_eq] at z;omega) ?_;rw [← rel.length];exact h _ _ (I.tok _)
end
section
variable {X : Cx} {o i e value : Expr} {pos pos' tpos : Pos} {td ty tv : TE}
end
theorem ze0 {P:Program} {w:World} {H:Hp} (h:Heap) (hb:sysModules<h.objs.size):xN P w H (h.push { cls:=.type "dict", data:=.dict #[] }) h.objs.size (.dK []) :=
 ⟨Nat.zero_le _,beq_eq_false_iff_ne.mpr (Ne.symm (Nat.ne_of_lt hb)),[],.nil,Heap.DictOf.new h⟩
section
variable {X : Cx} {pos : Pos}
end
def bE:List (TE×TE)->St->Hp->(List (V×V)->Hp->Prop)->Prop
 | [],_,H,Q=>Q [] H
 | (tk,tv)::r,σ,H,Q=>tk σ H fun x H1=>tv σ H1 fun y H2=>bE r σ H2 fun ps H3=>Q ((x,y)::ps) H3
abbrev VV:List (V×V)->List (Value×Value)->Prop:=Paired fun p q=>yY p.1 q.1/\yY p.2 q.2
def PPs (X:Cx) (pos:Pos) (keys:List (Option Expr)) (values:List Expr) (trs:List (TE×TE)):Prop :=
 ∀ (pins:List (Addr×Obj)) (s:Shared) (σ:St) (H:Hp) (Q:List (V×V)->Hp->Prop),Inv X pins σ H s->bE trs σ H Q ->
  wpAny (model X.prog X.w) X.A (evalPairs (pairTrees keys values X.env pos)) (fun vs s'=>∃ ps H',Inv X pins σ H' s'/\VV ps vs/\Q ps H') X.xe s
theorem zgv {X:Cx} {pos:Pos}:PPs X pos [] [] []:=fun pins s σ H Q I h=>pairTrees_nil_walk ⟨[],H,I,.nil,h⟩
theorem zem {X:Cx} {pos:Pos} {k v:Expr} {ks:List (Option Expr)} {vs:List Expr} {tk tv:TE} {trs:List (TE×TE)} (hk:PE X k tk) (hv:PE X v tv) (hr:PPs X pos ks vs trs) :
  PPs X pos (some k::ks) (v::vs) ((tk,tv)::trs):=fun pins s σ H Q I h =>
 pairTrees_cons_walk (yF (hk pins s σ H _ I h) fun u s1 ⟨x,H1,I1,rx,q1⟩=>yF (hv pins s1 σ H1 _ I1 q1) fun w2 s2 ⟨y,H2,I2,ry,q2⟩ =>
  yF (hr pins s2 σ H2 _ I2 q2) fun ws s3 ⟨ps,H3,I3,rel,q3⟩=>⟨(x,y)::ps,H3,I3,.cons ⟨rx,ry⟩ rel,q3⟩)
def rJ (kvs jB:List (xY×V)):List (xY×V):=jB.foldl (fun acc kv=>vO acc kv.1 kv.2) kvs
theorem KV.merge:∀ {jB:List (xY×V)} {rs:List (xY×Value)} {kvs:List (xY×V)} {vs:List (xY×Value)},KV jB rs->KV kvs vs->KV (rJ kvs jB) (merged vs rs):=by
 intro jB rs kvs vs r;unfold KV at r
 induction r generalizing kvs vs with
 |nil=>intro q;exact q
 | @cons p q ps qs h t ih =>
  intro r0
  have e:KV (vO kvs p.1 p.2) (stored vs q.1 q.2):=by
   have:=r0.put p.1 h.2;rw [← h.1];exact this
  exact ih e
theorem tT:∀ (jB kvs:List (xY×V)),(rJ kvs jB).length<=kvs.length+jB.length
 | [],kvs=>by show kvs.length<=kvs.length+0;omega
 |p::r,kvs=>by
  have h1:=tT r (vO kvs p.1 p.2);have h2:=uW kvs p.1 p.2;show (rJ (vO kvs p.1 p.2) r).length<=_;rw [List.length_cons];omega
theorem fO {P:Program} {w:World}:∀ {kvs:List (xY×V)} {ws:List (Value×Value)},VV (kvs.map fun kv=>(kV kv.1,kv.2)) ws->∃ rs,Carries (xM P w) ws rs/\KV kvs rs
 | [],_,r=>by rw [zzV] at r;cases r;exact ⟨[],True.intro,.nil⟩
 |p::kvs,_,r=>by
  rw [zzU] at r
  cases r with
  | @cons a b as bs h t =>
   obtain ⟨rs,c,q⟩:=fO (P:=P) (w:=w) t;obtain ⟨b1,b2⟩:=b;exact ⟨(p.1,b2)::rs,⟨cJ h.1,rfl,c⟩,.cons ⟨rfl,h.2⟩ q⟩
def tDisp (trs:List (TE×TE)):TE:=fun σ H Q=>∀ p,H p=none->bE trs σ (xR H p (.dK [])) fun ps H2=>H2 p=some (.dK [])/\∃ kvs:List (xY×V),ps=kvs.map (fun kv=>(kV kv.1,kv.2))/\kvs.length<=15/\Q (.ref p) (xR H2 p (.dK (rJ [] kvs)))
theorem zgA {X:Cx} {pos:Pos} {keys:List (Option Expr)} {values:List Expr} {trs:List (TE×TE)} (h:PPs X pos keys values trs) (hall:keys.all (·.isSome)=true) (hl:keys.length=values.length) (h0:keys≠[])
  (h15:keys.length<=15):PE X (.Dict keys values pos) (tDisp trs):=by
 intro pins s σ H Q I q;have hn:=I.hok.fresh (zzR s.heap.objs.size);have I1:=I.laid (a:=s.heap.objs.size) (o:=.dK []) (h':=s.heap.push { cls:=.type "dict", data:=.dict #[] }) (t':=s.toks) (fun _ _ q=>Heap.get?_push_of_some _ q) (zzR _) (ze0 s.heap I.big);refine wpAny_Dict_walk (knd:=xM X.prog X.w) hall hl h0 h15 (yF (h pins _ σ _ _ I1 (q _ hn)) fun ws s2 ⟨ps,H2,I2,rel,e,kvs,ep,lk,q2⟩=>?_);subst ep;obtain ⟨rs,c,rk⟩:=fO (P:=X.prog) (w:=X.w) rel;obtain ⟨z,hd,vs0,r0,dd⟩:=zj8 I2.hok e;cases r0;refine ⟨rs,c,dd,fun h' dd' hs=>⟨.ref s.heap.objs.size,_,?_,rfl,q2⟩⟩
 have hz:(rJ [] kvs).length<=sizeLine:=by
  have h1:=tT kvs [];rw [List.length_nil] at h1;rw [sizeLine_eq];omega
 have he:∃ q,h'.get? s.heap.objs.size=some q:=let ⟨q,_,_,hq,_⟩:=dd';⟨q,hq⟩;exact zaK I2 (by rw [e];exact True.intro) hs he (zfT hz hd (rk.merge .nil) dd') (Nat.add_pos_left I2.tk _)
structure M1 (X:Cx) (o:Expr) (m:Str) (apos:Pos) (e:Expr) (cpos:Pos):Prop where
 base:attributeBase o m X.env (eval o X.env)=eval o X.env
 few:((backTo cpos (starEach [e] X.env)).all (fun x=>!x.1)&&(backToKw cpos (keywordEach [] X.env)).all (fun x=>x.1.isSome)
  && decide (([e]:List Expr).length+([]:List Keyword).length+(if ([]:List Keyword).isEmpty then 0 else 1)<30))=true
 line:(apos.endLine==cpos.line)=true
 trees:backTo cpos (starEach [e] X.env)=[(false,eval e X.env)]
structure M2 (X:Cx) (o:Expr) (m:Str) (apos:Pos) (e f:Expr) (cpos:Pos):Prop where
 base:attributeBase o m X.env (eval o X.env)=eval o X.env
 few:((backTo cpos (starEach [e,f] X.env)).all (fun x=>!x.1)&&(backToKw cpos (keywordEach [] X.env)).all (fun x=>x.1.isSome)
  && decide (([e,f]:List Expr).length+([]:List Keyword).length+(if ([]:List Keyword).isEmpty then 0 else 1)<30))=true
 line:(apos.endLine==cpos.line)=true
 trees:backTo cpos (starEach [e,f] X.env)=[(false,eval e X.env),(false,eval f X.env)]
def IsD (H:Hp) (a:Addr):Prop:=(∃ kvs,Rd H a (.dK kvs))\/∃ kvs,Rd H a (.dT kvs)
theorem zjU {X:Cx} {pins:List (Addr×Obj)} {σ:St} {H:Hp} {s:Shared} {a:Addr} (I:Inv X pins σ H s) (d:IsD H a) :
  s.TypeIs (.ref a) "dict" /\ (∀ b,Value.ref a=.ref b->∃ ob,s.heap.get? b=some ob/\ob.dict=none)/\(a==sysModules)=false:=by
 rcases d with ⟨kvs,e⟩|⟨kvs,e⟩
 .obtain ⟨_,hd,vs,_,dd⟩:=fQ I.hok e;refine ⟨dd.typeIs,fun b q=>?_,hd⟩;cases q;obtain ⟨ob,_,_,h1,h2,_⟩:=dd;exact ⟨ob,h1,h2.2.1⟩
 .obtain ⟨_,hd,xs,_,dd⟩:=zdl I.hok e;refine ⟨dd.typeIs,fun b q=>?_,hd⟩;cases q;obtain ⟨ob,_,_,h1,h2,_⟩:=dd;exact ⟨ob,h1,h2.2.1⟩
section
variable {X : Cx} {pins : List (Addr × Obj)} {σ : St} {H : Hp} {s : Shared} {a : Addr} {y d : V} {u r : Value} {o : Option V} {A : Around} {E : Value → Shared → Prop}
end
section
variable {X : Cx} {o e f : Expr} {apos cpos : Pos} {td ty tx : TE}
end
section
variable {X : Cx} {pins : List (Addr × Obj)} {σ : St} {H : Hp} {s : Shared} {a : Addr} {kvs : List (xY × V)} {A : Around} {E : Value → Shared → Prop}
end
section
variable {X : Cx} {pins : List (Addr × Obj)} {σ : St} {H : Hp} {s : Shared} {a : Addr} {y : V} {u : Value} {A : Around} {E : Value → Shared → Prop}
end
end L2
namespace Att
open PySem PySem.W PySem.Calls PyProof.Rows
theorem nX {P:Params} {h:Heap}:∀ (ns:List Int) (vs:List Value),WellAll P h vs (ns.map WData.int)->IntsAre vs ns:=by
 intro ns
 induction ns with
 |nil =>
  intro vs w;rw [zzV] at w;cases w;exact .nil
 |cons n ns ih =>
  intro vs w;rw [zzU] at w
  cases w with
  |cons a b =>
   cases a;exact .cons _ _ (ih _ b)
theorem zce {l:OpenLaw} {n:Nat} (hn:l.most=some n) {P:Params} {h:Heap} {args:List WData} {vals:List Value}
  (hpre:l.row.toRowW.claim.pre args=true) (hwl:WellAll P h vals args) :
  ∃ a vs ns,vals=[Value.ref a]/\args=[WData.list (ns.map WData.int)]/\h.get? a=some { cls:=.type "list", data:=.seq vs.toArray }/\IntsAre vs ns/\ns.length<=n:=by
 have hsh:WShape.hasAll [] args [.list .int]=true:=(pre_splitW hpre).1;have hc:l.pre.holds [] { args:=args }=true:=(pre_splitW hpre).2;obtain ⟨d,r,rfl,h1,h2⟩:=hasAllW_cons hsh;obtain rfl:=hasAllW_nil h2;obtain ⟨xs,rfl,h3⟩:=hasW_list h1;obtain ⟨ns,rfl⟩:=items_int h3
 have hlen:ns.length<=n:=by
  unfold OpenLaw.pre at hc
  have h4:(WTm.not (.lt (.lit (.int (n:Int))) (.len (.arg 0)))).holds [] { args:=[.list (ns.map .int)] }=true:=by
   have h4:=(holds_andW hc).1;rw [hn] at h4;exact h4
  have h5:=condW_of h4 (w_not (w_lt w_lit (w_len_list (w_arg rfl))));rw [zzM] at h5;refine Nat.le_of_not_lt fun q=>?_;have q':(n:Int)<((ns.length:Nat):Int):=by omega
  first
   | (rw [decide_eq_true q'] at h5;exact absurd h5 (by decide))
   | (simp at h5;omega)
 cases hwl with
 |cons w1 w2 =>
  cases w2
  cases w1 with
  |list ho hall=>exact ⟨_,_,ns,rfl,rfl,ho,nX ns _ hall,hlen⟩
theorem zcs (l:OpenLaw) (args:List WData):l.row.toRowW.claim.post args (.bool true) args=true :=
 postW_of (r:=l.row.toRowW) (X:=(true==true))
  (show WShape.has [] (.bool true) .bool=true by first|rfl|decide|simp [WShape.has,WShape.arms,WShape.armsAll])
  (show (WTm.eq .res (.lit (.bool true))).value [] { args:=args,res:=some (.bool true),after:=args }=some (.bool (true==true)) from w_eq_bool (w_res rfl) w_lit) rfl
theorem attach_call {l:OpenLaw} {n:Nat} {q:Program} {loose:List Str} {XP:(Str->Option Value)->Heap->Prop} {YP:World->Heap->Prop} {d:DefRec}
  (hn:l.most=some n) (hdf:d.params.defaults=[])
  (call:∀ (w:World) (s₀ s₁:Shared) (mg mb:Str->Option Value) (fa:Addr) (o:Obj) (pm cd doc:Value) (a:Addr) (vs:List Value) (ns:List Int),
   Ground q loose [] XP w s₀ mg mb s₁.heap->YP w s₁.heap ->
   s₁.heap.get? fa=some o->o.data=.func (docDef d.name d.params d.body d.scope pm cd doc)->s₁.heap.CodeRec cd d.name->mg d.name=some (.ref fa) ->
   s₁.heap.get? a=some { cls:=.type "list", data:=.seq vs.toArray }->IntsAre vs ns->ns.length<=n->s₁.gens=#[] ->
   codeAny (model l.prog w) callerA (.call (.ref fa) ⟨[.ref a],[]⟩) (fun r s'=>r=.ok (.ret (.bool true))/\OldK s₁.heap s'.heap/\s'.os=s₁.os/\AllBare s'.gens) s₁) :
  WalkO q loose XP YP l.row.toRowW d [] (fun f vs=>PySem.call f vs):=by
 intro w s₀ s₁ mg mb G Y fa o pm cd doc dV kV ho hd hcd hD hmg hg args vals as hpre hlay hrd hwl hlo;obtain rfl:dV=.none:=Dflts.none hD hdf;obtain rfl:kV=.none:=Dflts.noKw hD;obtain ⟨a,vs,ns,rfl,rfl,hobj,hints,hlen⟩:=zce hn hpre hwl;refine enter_call (codeAny_mono (call w s₀ s₁ mg mb fa o pm cd doc a vs ns G Y ho (fd_plain hd) hcd hmg hobj hints hlen hg) fun r s' hq=>?_);obtain ⟨rfl,h2,h3,h4⟩:=hq;exact ⟨.inl ⟨.bool true,.bool true,[],rfl,fun _=>rfl,.bool true,zcs l _,fun _=>⟨List.Pairwise.nil,fun _ hm=>(nomatch hm)⟩⟩,h2,h3,h4⟩
section
variable {prog : Program} {w : World} {A : Around} {E : Value → Shared → Prop} {s : Shared} {K : Frag}
end
end Att
namespace L2
open PySem PySem.Spec PyProof.Rows
theorem dI:∀ {vs:List Value} {ns:List Int},IntsAre vs ns->zA (ns.map V.int) vs
 |_,_,.nil=>.nil
 |_,_,.cons n t h=>.cons ⟨t,rfl⟩ (dI h)
def Only (H:Hp):Prop:=∀ b,H b=none\/∃ o xs,H b=some (.frz o (.lst xs))
theorem zeF {P:Program} {w:World} {K:PySem.W.Frag} {mg mb:Str->Option Value} {CX:CXT} {k:Nat} {fa a:Addr} {fd:FuncData} {x:Str} {sp:Sp} {s₁:Shared} {vs:List Value} {ns:List Int}
  (KX:K.In s₁.heap) (hns:s₁.heap.Ns mainGlobals mg) (hb:s₁.heap.Ns builtinsNs mb) (hbb:∀ x:Str,x ≠ "__name__" -> mb x=bootBuiltins x) (hlim:s₁.heap.NoLimit) (hg:s₁.gens=#[])
  (ha:s₁.heap.get? a=some { cls:=.type "list", data:=.seq vs.toArray }) (hi:IntsAre vs ns) (hl:ns.length<=sizeLine) (hr:Room k callerA)
  (F:∀ base:Heap,K.In base->base.Ns mainGlobals mg->FnOk P w K mg base CX k fa fd [x] sp) (hbind:∀ (s:Shared) (u:Value),BindsTo s fd ⟨[u],[]⟩ [(x,u)])
  (hsp:∀ H:Hp,Only H->pH K H a (ns.map V.int)->sp [.ref a] H (fun v _=>v=.bl true) fun _ _ _=>False)
  (hCX:∀ H e s',CX [] H s₁ (fun _ _ _=>False) e s'->False) (hx:fd.scope.names.lookup x=some .local) :
  codeAny (model P w) callerA (.call (.ref fa) ⟨[.ref a],[]⟩) (fun r s'=>r=.ok (.ret (.bool true))/\OldK s₁.heap s'.heap/\s'.os=s₁.os/\AllBare s'.gens) s₁:=by
 have rv:=dI hi;have lenV:=hi.length
 have core:∀ H:Hp,Only H->pH K H a (ns.map V.int)->vL P w H s₁.heap->(∀ b,H b≠none->b=a)->(H a≠none->K.lookup a=none) ->
   codeAny (model P w) callerA (.call (.ref fa) ⟨[.ref a],[]⟩) (fun r s'=>r=.ok (.ret (.bool true))/\OldK s₁.heap s'.heap/\s'.os=s₁.os/\AllBare s'.gens) s₁:=by
  intro H hO hS hok hA hK;have base_of:∀ {b:Addr} {o:Obj},s₁.heap.get? b=some o->H b=none->(hidT s₁.heap H).get? b=some o:=fun e n=>zeQ e n
  have noA:∀ {b:Addr} {o:Obj} {es:Array DictEntry} {ep:Nat},s₁.heap.get? b=some o->o.data=.dict es ep->H b=none:=fun {b o es ep} e d=>by
   cases q:H b with
   |none=>rfl
   |some u =>
    have e':b=a:=hA b (by rw [q];simp);subst e';rw [ha] at e;cases e;have d':Data.seq vs.toArray _=Data.dict es ep:=d;cases d'
  have nsK:∀ {b:Addr} {m:Str->Option Value},s₁.heap.Ns b m->(hidT s₁.heap H).Ns b m:=fun {b m} ⟨o,es,ep,e,d,r⟩=>⟨o,es,ep,base_of e (noA e d),d,r⟩
  have hKb:K.In (hidT s₁.heap H):=fun b o e=>base_of (KX b o e) (by
   cases q:H b with
   |none=>rfl
   |some u =>
    have e':b=a:=hA b (by rw [q];simp);subst e';rw [hK (by rw [q];simp)] at e;cases e)
  have hM:Mod K mg (hidT s₁.heap H):=⟨hKb,nsK hns,⟨mb,nsK hb,hbb⟩,let ⟨mc,h1,h2⟩:=hlim;⟨mc,nsK h1,h2⟩⟩;have e0:Env0 P w K mg (hidT s₁.heap H) callerA [] { s₁ with toks:=1 } H:=⟨rfl,hM,fun b o e=>zgJ e,Nat.le_of_eq (zc5 _ _),trivial,fun b hb=>absurd (show b∈([]:List Addr) from hb) (by simp),hok,.of_eq hg,Nat.one_pos⟩;refine codeAny_mono ((F _ hKb (nsK hns)).one x rfl hx callerA [] s₁ H ⟨[.ref a],[]⟩ [.ref a] [.ref a] _ _ hr e0 (hbind s₁ (.ref a)) (.cons rfl .nil) (hsp H hO hS)) fun r s' h=>?_
  cases r with
  |error e=>exact (hCX H e s' h).elim
  |ok fl =>
   cases fl with
   |next=>exact False.elim h
   |brk=>exact False.elim h
   |cont=>exact False.elim h
   |ret u =>
    obtain ⟨v,H',os,_,bare,un,hok',r',q⟩:=h;have q':v=.bl true:=q;subst q';obtain rfl:u=Value.bool true:=r';refine ⟨rfl,OldK.of_keep fun b o e=>?_,os,bare⟩
    cases q:H b with
    |none=>exact un.keep b o e q (by intro z;exact absurd (show b∈([]:List Addr) from z) (by simp)) (by simp)
    |some u =>
     rcases hO b with z|⟨ob,xs,z⟩
     .rw [q] at z;cases z
     .have z2:=un.frzs b ob _ z;obtain ⟨e1,_⟩:=hok b _ z;obtain ⟨e2,_⟩:=hok' b _ z2;rw [e] at e1;cases e1;exact e2
 cases hk:K.lookup a with
 |some o =>
  have e:=KX a o hk;rw [ha] at e;cases e;refine core (fun _=>none) (fun _=>.inl rfl) (.inr ⟨_,vs.toArray,_,hk,rfl,rfl,rfl,by rw [zzS,lenV];exact hl,by simpa using rv⟩) (fun b u z=>by have z':(none:Option HO)=some u:=z;cases z') (fun b z=>absurd rfl z) fun z=>absurd rfl z
 |none =>
  refine core (fun b=>if b=a then some (.frz { cls:=.type "list", data:=.seq vs.toArray } (.lst (ns.map V.int))) else none) (fun b=>?_) (.inl (.inr ⟨{ cls:=.type "list", data:=.seq vs.toArray },if_pos rfl⟩)) (fun b u z=>?_) (fun b z=>?_) fun _=>hk
  .by_cases hb:b=a
   .exact .inr ⟨_,_,if_pos hb⟩
   .exact .inl (if_neg hb)
  .by_cases hb:b=a
   .have z':=(if_pos hb).symm.trans z;cases z';subst hb;exact ⟨ha,by rw [zzM];exact hl,vs,_,rv,ha⟩
   .have z':=(if_neg hb).symm.trans z;cases z'
  .by_cases hb:b=a
   .exact hb
   .exact absurd (if_neg hb) z
end L2
namespace L2
open PySem PySem.Spec PyProof.Rows
abbrev KOf {K:PySem.W.Frag} {h:Heap} (_:K.In h):PySem.W.Frag:=K
theorem walk_of {l:PySem.W.OpenLaw} {n k:Nat} {q:Program} {loose:List Str} {XP:(Str->Option Value)->Heap->Prop} {YP:World->Heap->Prop} {d:DefRec} {K:Params->PySem.W.Frag} {CX:World->CXT} {sp:World->Sp} {x:Str}
  (hn:l.most=some n) (hn2:n<=sizeLine) (hdf:d.params.defaults=[]) (hr:Room k callerA)
  (hY:∀ (w:World) (h:Heap),YP w h->(K w.params).In h)
  (F:∀ (w:World) (mg:Str->Option Value) (fa:Addr) (h:Heap),(K w.params).In h->h.Ns mainGlobals mg->mg d.name=some (.ref fa) ->
   ∃ fd:FuncData,(∀ (s:Shared) (u:Value),BindsTo s fd ⟨[u],[]⟩ [(x,u)])/\fd.scope.names.lookup x=some .local /\
    ∀ base:Heap,(K w.params).In base->base.Ns mainGlobals mg->FnOk l.prog w (K w.params) mg base (CX w) k fa fd [x] (sp w))
  (hsp:∀ (w:World) (H:Hp) (a:Addr) (ns:List Int),ns.length<=n->Only H->pH (K w.params) H a (ns.map V.int)->sp w [.ref a] H (fun v _=>v=.bl true) fun _ _ _=>False)
  (hCX:∀ (w:World) (H:Hp) (s:Shared) (e:Value) (s':Shared),CX w [] H s (fun _ _ _=>False) e s'->False) :
  PySem.W.WalkO q loose XP YP l.row.toRowW d [] (fun f vs=>PySem.call f vs):=by
 refine Att.attach_call hn hdf fun w s₀ s₁ mg mb fa o pm cd doc a vs ns G Y ho hd hcd hmg hobj hints hlen hg=>?_;have KX:=hY w _ Y;obtain ⟨fd,hb,hx,hF⟩:=F w mg fa _ KX G.T.g hmg;exact zeF KX G.T.g G.T.b G.T.builtins G.T.nolimit hg hobj hints (Nat.le_trans hlen hn2) hr hF hb (fun H hO hS=>hsp w H a ns hlen hO hS) (fun H e s'=>hCX w H s₁ e s') hx
end L2
/- THE LAST THEOREM (shape;LID,My.* are yours):
   My.Adr: a structure of the addresses that your layer names (classes,functions);My.Txt K t: a structure (Prop) of the equations over K;
   My.txt_mk:{K} {implicit addresses ..} (e1:nsIn K mainGlobals "law" = some (some (.ref f))) (e2:K.lookup f=some ⟨oc,od,.func (fnOf "law" "law" params body scope dV kV doc pm an cdv ct),sl⟩) (e3:codeIn K cdv "law" = true) ..:∃ t,My.Txt K t
set_option maxRecDepth 100000 in
set_option maxHeartbeats 0 in
theorem PySem.Challenge.cw_LID_holds : PySem.Challenge.rw_LID.Holds := by
 w_on;o_law;k_head;(case hw=>w_witness2)
 k_fill
 refine L2.walk_of (l:=PySem.Challenge.rw_LID) (n:=63) (k:=40) (x := "script") (CX:=fun w=>..) (sp:=fun _=>My.sp_law) rfl (by decide) rfl ⟨rfl,by decide,by decide⟩ (fun w h Y=>PySem.W.kIn_of Y) ?F ?S ?C
 case F =>
  intro w mg fa h KX G hmg
  have T:∃ t,My.Txt (L2.KOf KX) t:=by
   dsimp only [L2.KOf]                          -- K must stand as «<heap const> w.params» for k_is;refine' My.txt_mk ?e1 ?e2 ?e3 ..
   (case e1=>PySem.W.k_is)                    -- in the order: a name -> its address -> its object -> its parts
   (case e2=>PySem.W.k_is)
   ..
  obtain ⟨t,T⟩:=T;have e0:=hmg.symm.trans (PySem.W.mg_of KX G T.law);cases e0                                       -- fa is the law's own address;exact ⟨_,fun s u=>.of_eq rfl,fun base kb nb=>My.law_fn T kb nb⟩     -- if «.of_eq rfl» comes too early: refine' ⟨_,?b,fun base kb nb=>My.law_fn T kb nb⟩;exact fun s u=>.of_eq rfl
 case S=>exact fun w H a ns hl hO hS=>..
 case C=>exact ..
(the tactic k_is has no namespace: write k_is) -/
namespace L2
open PySem PySem.Spec PyProof.Rows
def yU (s:Stmt):Arguments:=match s with
 | .FunctionDef _ a _ _ _ _ _ _ _ _=>a
 |_=>{ posonlyargs:=[],args:=[],vararg:=none,kwonlyargs:=[],kw_defaults:=[],kwarg:=none,defaults:=[] }
def zI (s:Stmt):List Stmt:=match s with
 | .FunctionDef _ _ b _ _ _ _ _ _ _=>b
 |_=>[]
def zX (s:Stmt):Scope:=match s with
 | .FunctionDef _ _ _ _ _ _ sc _ _ _=>sc
 |_=>{ kind:=.function,names:=[],isGenerator:=false,isCoroutine:=false }
abbrev CX0:CXT:=fun _ _ _ _ _ _=>False
abbrev E0:XK:=fun _ _ _=>False
theorem ziY {X:Cx}:zbu CX0 X E0:=fun _ _ _ _ _ _ _ h=>h.elim
section
variable {P : Program} {w : World} {K : PySem.W.Frag} {mg : Str → Option Value} {base : Heap}
end
section
variable {X : Cx}
end
section
variable {κ : Type} [DecidableEq κ]
end
end L2
namespace L3
open PySem PySem.Spec PyProof.Rows L2
inductive W where
 |non|bl (b:Bool)|int (i:Int)|str (x:Str)|ty (n:String)|ref (a:Addr)|tup (ws:List W)|lsf (ws:List W)
  |exc (C:Addr) (ns:List Str) (ws:List W)|dcf (ks:List Str) (ws:List W)
abbrev yS:=PySem.W.Frag
def KL (K:yS) (a:Addr) (xs:List V):Prop:=∃ (o:Obj) (its:Array Value) (n:Nat),K.lookup a=some o/\o.cls=.type "list" /\ o.dict=none/\o.data=.seq its n/\its.size<=sizeLine/\zA xs its.toList
def zhN:List DictEntry->List Str->List V->Prop
 | [],ks,vs=>ks=[]/\vs=[]
 |e::r,ks,vs=>∃ k t v ks' vs',ks=k::ks'/\vs=v::vs'/\e.key=.str k t/\yY v e.val/\zhN r ks' vs'
def KD (K:yS) (a:Addr) (ks:List Str) (vs:List V):Prop:=∃ (o:Obj) (es:Array DictEntry) (ep:Nat),K.lookup a=some o/\o.ExactDict/\o.data=.dict es ep/\es.size<=sizeLine/\(a==sysModules)=false/\zhN es.toList ks vs
def dL (a C:Addr) (dx:Option Addr):Heap->Prop:=fun h=>∃ fs,h.get? a=some { cls:=.ref C,dict:=dx,data:=.fields fs }
def ExAt (H:Hp) (a C:Addr) (l:List (Str×V)):Prop:=(H a=some (.ext (dL a C none))/\l=[])\/∃ dx,H a=some (.ext (dL a C (some dx)))/\H dx=some (.xd l)
def isX:HO->Prop
 | .ext _=>True
 | .frz _ (.dK _)=>True
 | .xd _=>True
 |_=>False
mutual
def wX (K:yS) (H:Hp):W->V->Prop
 | .non,v=>v=.non
 | .bl b,v=>v=.bl b
 | .int i,v=>v=.int i
 | .str x,v=>v=.str x
 | .ty n,v=>v=.ty n
 | .ref a,v=>v=.ref a
 | .tup ws,v=>∃ a vs,v=.ref a/\rY K H a vs/\zF K H ws vs
 | .lsf ws,v=>∃ a vs,v=.ref a/\KL K a vs/\zF K H ws vs
 | .exc C ns ws,v=>∃ a vs,v=.ref a/\ExAt H a C (ns.zip vs)/\zF K H ws vs
 | .dcf ks ws,v=>∃ a vs,v=.ref a/\KD K a ks vs/\zF K H ws vs
def zF (K:yS) (H:Hp):List W->List V->Prop
 | [],vs=>vs=[]
 |w::ws,vs=>∃ v r,vs=v::r/\wX K H w v/\zF K H ws r
end
def yM (K:yS) (H H':Hp):Prop:=(∀ a xs,rY K H a xs->rY K H' a xs)/\∀ a o,isX o->H a=some o->H' a=some o
theorem yM.refl {K:yS} {H:Hp}:yM K H H:=⟨fun _ _ h=>h,fun _ _ _ h=>h⟩
theorem yM.trans {K:yS} {H H1 H2:Hp} (a:yM K H H1) (b:yM K H1 H2):yM K H H2:=⟨fun x xs h=>b.1 x xs (a.1 x xs h),fun x o i h=>b.2 x o i (a.2 x o i h)⟩
theorem ExAt.mono {K:yS} {H H':Hp} (g:yM K H H') {a C:Addr} {l:List (Str×V)} (h:ExAt H a C l):ExAt H' a C l:=by
 rcases h with ⟨h,e⟩|⟨dx,h,h'⟩
 .exact .inl ⟨g.2 _ _ True.intro h,e⟩
 .exact .inr ⟨dx,g.2 _ _ True.intro h,g.2 _ _ True.intro h'⟩
section
variable {K : yS} {H H' : Hp}
mutual
theorem wX.mono (g:yM K H H'):∀ {w:W} {v:V},wX K H w v->wX K H' w v
 | .non,_,h=>h
 | .bl _,_,h=>h
 | .int _,_,h=>h
 | .str _,_,h=>h
 | .ty _,_,h=>h
 | .ref _,_,h=>h
 | .tup _,_,⟨a,vs,e,s,r⟩=>⟨a,vs,e,g.1 a vs s,zF.mono g r⟩
 | .lsf _,_,⟨a,vs,e,s,r⟩=>⟨a,vs,e,s,zF.mono g r⟩
 | .exc _ _ _,_,⟨a,vs,e,s,r⟩=>⟨a,vs,e,s.mono g,zF.mono g r⟩
 | .dcf _ _,_,⟨a,vs,e,s,r⟩=>⟨a,vs,e,s,zF.mono g r⟩
theorem zF.mono (g:yM K H H'):∀ {ws:List W} {vs:List V},zF K H ws vs->zF K H' ws vs
 | [],_,h=>h
 |_::_,_,⟨v,r,e,h,t⟩=>⟨v,r,e,wX.mono g h,zF.mono g t⟩
end
theorem zF.length:∀ {ws:List W} {vs:List V},zF K H ws vs->vs.length=ws.length
 | [],_,h=>by rw [show _=[] from h];rfl
 |_::_,_,⟨v,r,e,_,t⟩=>by rw [e,List.length_cons,List.length_cons,zF.length t]
theorem zF.append:∀ {ws:List W} {vs:List V} {ws':List W} {vs':List V},zF K H ws vs->zF K H ws' vs'->zF K H (ws++ws') (vs++vs')
 | [],_,_,_,h,h'=>by rw [show _=[] from h];exact h'
 |_::_,_,_,_,⟨v,r,e,h,t⟩,h'=>by rw [e];exact ⟨v,_,rfl,h,zF.append t h'⟩
theorem zF.get:∀ {ws:List W} {vs:List V} {i:Nat} {w:W},zF K H ws vs->ws[i]?=some w->∃ v,vs[i]?=some v/\wX K H w v
 | [],_,_,_,_,e=>by simp at e
 |_::_,_,0,_,⟨v,r,e,h,t⟩,q=>by simp at q;subst q;subst e;exact ⟨v,rfl,h⟩
 |_::_,_,i+1,w,⟨v,r,e,h,t⟩,q=>by
  subst e;obtain ⟨u,h1,h2⟩:=zF.get (i:=i) (w:=w) t (by simpa using q);exact ⟨u,by simpa using h1,h2⟩
theorem zF.get':∀ {ws:List W} {vs:List V} {i:Nat} {v:V},zF K H ws vs->vs[i]?=some v->∃ w,ws[i]?=some w/\wX K H w v
 | [],_,_,_,h,e=>by rw [show _=[] from h] at e;simp at e
 |_::_,_,0,_,⟨v,r,e,h,t⟩,q=>by subst e;simp at q;subst q;exact ⟨_,rfl,h⟩
 |_::_,_,i+1,w,⟨v,r,e,h,t⟩,q=>by
  subst e;obtain ⟨u,h1,h2⟩:=zF.get' (i:=i) (v:=w) t (by simpa using q);exact ⟨u,by simpa using h1,h2⟩
theorem zF.set {w:W} {v:V} (q:wX K H w v):∀ {ws:List W} {vs:List V} (i:Nat),zF K H ws vs->zF K H (ws.set i w) (vs.set i v)
 | [],_,_,h=>by rw [show _=[] from h];rfl
 |_::_,_,0,⟨_,r,e,_,t⟩=>by rw [e];exact ⟨_,_,rfl,q,t⟩
 |_::_,_,i+1,⟨v,r,e,h,t⟩=>by rw [e];exact ⟨_,_,rfl,h,zF.set q i t⟩
theorem zF.take:∀ {ws:List W} {vs:List V} (n:Nat),zF K H ws vs->zF K H (ws.take n) (vs.take n)
 | [],_,_,h=>by rw [show _=[] from h];simp;rfl
 |_::_,_,0,_=>by simp;rfl
 |_::_,_,n+1,⟨v,r,e,h,t⟩=>by rw [e];exact ⟨_,_,rfl,h,zF.take n t⟩
theorem zF.drop:∀ {ws:List W} {vs:List V} (n:Nat),zF K H ws vs->zF K H (ws.drop n) (vs.drop n)
 | [],_,_,h=>by rw [show _=[] from h];simp;rfl
 |_::_,_,0,h=>h
 |_::_,_,n+1,⟨v,r,e,h,t⟩=>by rw [e];exact zF.drop n t
theorem zF.reverse:∀ {ws:List W} {vs:List V},zF K H ws vs->zF K H ws.reverse vs.reverse
 | [],_,h=>by rw [show _=[] from h];rfl
 |_::_,_,⟨v,r,e,h,t⟩=>by
  rw [e,List.reverse_cons,List.reverse_cons];exact zF.append (zF.reverse t) ⟨v,[],rfl,h,rfl⟩
theorem zF.dropLast {ws:List W} {vs:List V} (h:zF K H ws vs):zF K H ws.dropLast vs.dropLast:=by
 rw [List.dropLast_eq_take,List.dropLast_eq_take,h.length];exact h.take _
end
inductive O where
 |lst (ws:List W)
  |fix (ws:List W)
 |dic (kvs:List (xY×W))
 |ins (C:Addr) (fs:List (Str×W))
  |fzd (kvs:List (xY×W))
def isFz:O->Bool
 | .fzd _=>true
 |_=>false
abbrev Hw:=Addr->Option O
def put (G:Hw) (a:Addr) (o:O):Hw:=fun b=>if b=a then some o else G b
theorem zK {G:Hw} {a:Addr} {o:O}:put G a o a=some o:=by unfold put;rw [if_pos rfl]
theorem xJ {G:Hw} {a b:Addr} {o:O} (h:b≠a):put G a o b=G b:=by unfold put;rw [if_neg h]
theorem uU {G:Hw} {a b:Addr} {o:O} (h:G a=some o) (h':G b=none):a≠b:=by
 intro e;subst e;rw [h] at h';cases h'
def yQ (K:yS) (H:Hp) {κ:Type}:List (κ×W)->List (κ×V)->Prop
 | [],l=>l=[]
 |p::r,l=>∃ v t,l=(p.1,v)::t/\wX K H p.2 v/\yQ K H r t
def dN (K:yS) (H:Hp):O->HO->Prop
 | .lst ws,o=>∃ vs,o=.lst vs/\zF K H ws vs
 | .fix ws,o=>∃ vs ob,(o=.lst vs\/o=.frz ob (.lst vs))/\zF K H ws vs
 | .dic kvs,o=>∃ l,o=.dK l/\yQ K H kvs l
 | .ins C fs,o=>∃ dx l,o=.ins C dx l/\yQ K H fs l
 | .fzd kvs,o=>∃ ob l,o=.frz ob (.dK l)/\yQ K H kvs l
def xP (K:yS) (H:Hp) (G:Hw):Prop:=∀ a o,G a=some o->∃ u,H a=some u/\dN K H o u
theorem yQ.mono {K:yS} {H H':Hp} (g:yM K H H') {κ:Type}:∀ {l:List (κ×W)} {l':List (κ×V)},yQ K H l l'->yQ K H' l l'
 | [],_,h=>h
 |_::_,_,⟨v,t,e,h,r⟩=>⟨v,t,e,h.mono g,yQ.mono g r⟩
theorem dN.mono {K:yS} {H H':Hp} (g:yM K H H'):∀ {o:O} {u:HO},dN K H o u->dN K H' o u
 | .lst _,_,⟨vs,e,r⟩=>⟨vs,e,r.mono g⟩
 | .fix _,_,⟨vs,ob,e,r⟩=>⟨vs,ob,e,r.mono g⟩
 | .dic _,_,⟨l,e,r⟩=>⟨l,e,r.mono g⟩
 | .ins _ _,_,⟨dx,l,e,r⟩=>⟨dx,l,e,r.mono g⟩
 | .fzd _,_,⟨ob,l,e,r⟩=>⟨ob,l,e,r.mono g⟩
theorem dN.notX {K:yS} {H:Hp}:∀ {o:O} {u:HO},isFz o=false->dN K H o u->¬ isX u
 | .lst _,_,_,⟨vs,e,r⟩=>by subst e;exact id
 | .fix _,_,_,⟨vs,ob,e,r⟩=>by rcases e with e|e<;>subst e<;>exact id
 | .dic _,_,_,⟨l,e,r⟩=>by subst e;exact id
 | .ins _ _,_,_,⟨dx,l,e,r⟩=>by subst e;exact id
 | .fzd _,_,m,_=>nomatch m
theorem dN.notTup {K:yS} {H:Hp}:∀ {o:O} {u:HO},dN K H o u->(∀ xs,u≠.tup xs)/\∀ ob xs,u≠.frz ob (.tup xs)
 | .lst _,_,⟨vs,e,r⟩=>by subst e;exact ⟨(fun _ z=>nomatch z),(fun _ _ z=>nomatch z)⟩
 | .fix _,_,⟨vs,ob,e,r⟩=>by
  rcases e with e|e<;>subst e
  .exact ⟨(fun _ z=>nomatch z),(fun _ _ z=>nomatch z)⟩
  .exact ⟨(fun _ z=>nomatch z),(fun _ _ z=>nomatch z)⟩
 | .dic _,_,⟨l,e,r⟩=>by subst e;exact ⟨(fun _ z=>nomatch z),(fun _ _ z=>nomatch z)⟩
 | .ins _ _,_,⟨dx,l,e,r⟩=>by subst e;exact ⟨(fun _ z=>nomatch z),(fun _ _ z=>nomatch z)⟩
 | .fzd _,_,⟨ob,l,e,r⟩=>by subst e;exact ⟨(fun _ z=>nomatch z),(fun _ _ z=>nomatch z)⟩
section
variable {K : yS} {H H' : Hp} {G : Hw} {a : Addr}
theorem xP.free (h:xP K H G) (e:H a=none):G a=none:=by
 cases q:G a with
 |none=>rfl
 |some o =>
  obtain ⟨u,e',_⟩:=h a o q;rw [e] at e';cases e'
theorem zbi {u:HO} (h:∀ xs,¬ Rd H a (.tup xs)) (hx:∀ o,isX o->H a≠some o):yM K H (xR H a u):=⟨fun b xs s=>by
 rcases s with s|s
 .have hb:b≠a:=by rintro rfl;exact h xs s
  left
  rcases s with s|⟨o,s⟩
  .exact .inl (by rw [zG hb];exact s)
  .exact .inr ⟨o,by rw [zG hb];exact s⟩
 .exact .inr s,fun b o i s=>by
 have hb:b≠a:=by rintro rfl;exact hx o i s
 rw [zG hb];exact s⟩
theorem wZ {u:HO} (h:H a=none):yM K H (xR H a u):=zbi (fun xs s=>by
 rcases s with s|⟨o,s⟩<;>(rw [h] at s;cases s)) (fun o _ s=>by rw [h] at s;cases s)
theorem xP.grow {o:O} {u:HO} (h:xP K H G) (e:G a=some o) (m:isFz o=false:=by rfl):yM K H (xR H a u):=by
 obtain ⟨u',e',r⟩:=h a o e;refine zbi (fun xs s=>?_) (fun o' i s=>?_)
 .rcases s with s|⟨ob,s⟩
  .rw [e'] at s;cases s;exact r.notTup.1 xs rfl
  .rw [e'] at s;cases s;exact r.notTup.2 ob xs rfl
 .rw [e'] at s;cases s;exact r.notX m i
theorem xP.new {o:O} {u:HO} (h:xP K H G) (e:H a=none) (r:dN K (xR H a u) o u):xP K (xR H a u) (put G a o):=fun b ob q=>by
 by_cases hb:b=a
 .subst hb;rw [zK] at q;cases q;exact ⟨u,yD,r⟩
 .rw [xJ hb] at q;obtain ⟨u',e',r'⟩:=h b ob q;exact ⟨u',by rw [zG hb];exact e',r'.mono (wZ e)⟩
theorem xP.tup {u:HO} (h:xP K H G) (e:H a=none):xP K (xR H a u) G:=fun b ob q=>by
 obtain ⟨u',e',r'⟩:=h b ob q;exact ⟨u',by rw [zG (yL e' e)];exact e',r'.mono (wZ e)⟩
theorem xP.chg {o o':O} {u:HO} (h:xP K H G) (e:G a=some o') (r:dN K (xR H a u) o u) (m:isFz o'=false:=by rfl):xP K (xR H a u) (put G a o):=fun b ob q=>by
 by_cases hb:b=a
 .subst hb;rw [zK] at q;cases q;exact ⟨u,yD,r⟩
 .rw [xJ hb] at q;obtain ⟨u',e',r'⟩:=h b ob q;exact ⟨u',by rw [zG hb];exact e',r'.mono (h.grow e m)⟩
theorem xP.lst {ws:List W} (h:xP K H G) (e:G a=some (.lst ws)):∃ vs,H a=some (.lst vs)/\zF K H ws vs:=by
 obtain ⟨u,e',vs,rfl,r⟩:=h a _ e;exact ⟨vs,e',r⟩
theorem xP.dic {kvs:List (xY×W)} (h:xP K H G) (e:G a=some (.dic kvs)):∃ l,H a=some (.dK l)/\yQ K H kvs l:=by
 obtain ⟨u,e',vs,rfl,r⟩:=h a _ e;exact ⟨vs,e',r⟩
theorem xP.ins {C:Addr} {fs:List (Str×W)} (h:xP K H G) (e:G a=some (.ins C fs)):∃ dx l,H a=some (.ins C dx l)/\yQ K H fs l:=by
 obtain ⟨u,e',dx,vs,rfl,r⟩:=h a _ e;exact ⟨dx,vs,e',r⟩
end
def yR (G:Hw) (a:Addr):Option (List W):=match G a with
 |some (.lst ws)=>some ws
 |some (.fix ws)=>some ws
 |_=>none
theorem xP.seq {K:yS} {H:Hp} {G:Hw} {a:Addr} {ws:List W} (h:xP K H G) (e:yR G a=some ws):∃ vs,pH K H a vs/\zF K H ws vs:=by
 unfold yR at e
 split at e
 .rename_i q;cases e;obtain ⟨vs,e',r⟩:=h.lst q;exact ⟨vs,.of e',r⟩
 .rename_i q;cases e;obtain ⟨u,e',vs,ob,z,r⟩:=h a _ q;refine ⟨vs,?_,r⟩;rcases z with rfl|rfl
  .exact .inl (.inl e')
  .exact .inl (.inr ⟨_,e'⟩)
 .cases e
abbrev wI:=List (Option W)
def yV (K:yS) (H:Hp) (σ:wI) (τ:L2.St):Prop:=σ.length=τ.length/\∀ (i:Nat) (w:W),σ[i]?=some (some w)->∃ v,τ[i]?=some (some v)/\wX K H w v
theorem yV.mono {K:yS} {H H':Hp} (g:yM K H H') {σ:wI} {τ:L2.St} (h:yV K H σ τ):yV K H' σ τ :=
 ⟨h.1,fun i w e=>let ⟨v,e',r⟩:=h.2 i w e;⟨v,e',r.mono g⟩⟩
theorem yV.set {K:yS} {H:Hp} {σ:wI} {τ:L2.St} {w:W} {v:V} (h:yV K H σ τ) (r:wX K H w v) (i:Nat):yV K H (σ.set i (some w)) (τ.set i (some v)):=by
 refine ⟨by simp [h.1],fun j w' e=>?_⟩;rw [List.getElem?_set] at e ⊢
 by_cases hj:i=j
 .subst hj;rw [if_pos rfl] at e ⊢
  by_cases hl:i<σ.length
  .rw [if_pos hl] at e;cases e;rw [if_pos (h.1▸hl)];exact ⟨v,rfl,r⟩
  .rw [if_neg hl] at e;cases e
 .rw [if_neg hj] at e ⊢;exact h.2 j w' e
abbrev Q3:=W->Hw->Prop
abbrev E3:=wI->Hw->Q3->Prop
abbrev T3:=wI->Hw->(Bool->Hw->Prop)->Prop
abbrev A3:=wI->Hw->(List W->Hw->Prop)->Prop
structure End3 where
 nx:wI->Hw->Prop
 rt:Q3
 bk:wI->Hw->Prop:=fun _ _=>False
 ct:wI->Hw->Prop:=fun _ _=>False
abbrev S3:=End3->wI->Hw->Prop
section
variable (K : yS)
def yA (t:E3):TE:=fun τ H Q=>∃ σ G,yV K H σ τ/\xP K H G/\t σ G fun w G'=>∀ v H',yM K H H'->wX K H' w v->xP K H' G'->Q v H'
def qS (t:T3):TT:=fun τ H Q=>∃ σ G,yV K H σ τ/\xP K H G/\t σ G fun b G'=>∀ H',yM K H H'->xP K H' G'->Q b H'
def uY (t:A3):TA:=fun τ H Q=>∃ σ G,yV K H σ τ/\xP K H G/\t σ G fun ws G'=>∀ vs H',yM K H H'->zF K H' ws vs->xP K H' G'->Q vs H'
structure Fine (H:Hp) (D3:End3) (D:Ends):Prop where
 nx:∀ σ G τ H',yM K H H'->yV K H' σ τ->xP K H' G->D3.nx σ G->D.nx τ H'
 bk:∀ σ G τ H',yM K H H'->yV K H' σ τ->xP K H' G->D3.bk σ G->D.bk τ H'
 ct:∀ σ G τ H',yM K H H'->yV K H' σ τ->xP K H' G->D3.ct σ G->D.ct τ H'
 rt:∀ w G v H',yM K H H'->wX K H' w v->xP K H' G->D3.rt w G->D.rt v H'
def lowS (t:S3):TS:=fun D τ H=>∃ σ G D3,yV K H σ τ/\xP K H G/\Fine K H D3 D/\t D3 σ G
end
theorem Fine.grow {K:yS} {H H':Hp} {D3:End3} {D:Ends} (f:Fine K H D3 D) (g:yM K H H'):Fine K H' D3 D :=
 ⟨fun σ G τ H2 g2=>f.nx σ G τ H2 (g.trans g2),fun σ G τ H2 g2=>f.bk σ G τ H2 (g.trans g2),fun σ G τ H2 g2=>f.ct σ G τ H2 (g.trans g2),fun w G v H2 g2=>f.rt w G v H2 (g.trans g2)⟩
def wF (t:E3):Prop:=∀ σ G (Q Q':Q3),(∀ w G',Q w G'->Q' w G')->t σ G Q->t σ G Q'
def uO (t:T3):Prop:=∀ σ G (Q Q':Bool->Hw->Prop),(∀ w G',Q w G'->Q' w G')->t σ G Q->t σ G Q'
def qI (t:A3):Prop:=∀ σ G (Q Q':List W->Hw->Prop),(∀ w G',Q w G'->Q' w G')->t σ G Q->t σ G Q'
section
variable {K : yS} {H : Hp} {σ : wI} {τ : L2.St} {G : Hw}
theorem xZ {t:E3} {R:Q3} {S:VK} (m:wF t) (hs:yV K H σ τ) (ha:xP K H G) (h:t σ G R)
  (k:∀ w G1 v H1,yM K H H1->yV K H1 σ τ->wX K H1 w v->xP K H1 G1->R w G1->S v H1):yA K t τ H S :=
 ⟨σ,G,hs,ha,m σ G _ _ (fun w G' r v H' g rp ab=>k w G' v H' g (hs.mono g) rp ab r) h⟩
theorem sE {t:T3} {R:Bool->Hw->Prop} {S:Bool->Hp->Prop} (m:uO t) (hs:yV K H σ τ) (ha:xP K H G) (h:t σ G R)
  (k:∀ b G1 H1,yM K H H1->yV K H1 σ τ->xP K H1 G1->R b G1->S b H1):qS K t τ H S :=
 ⟨σ,G,hs,ha,m σ G _ _ (fun w G' r H' g ab=>k w G' H' g (hs.mono g) ab r) h⟩
theorem tR {t:A3} {R:List W->Hw->Prop} {S:List V->Hp->Prop} (m:qI t) (hs:yV K H σ τ) (ha:xP K H G) (h:t σ G R)
  (k:∀ w G1 v H1,yM K H H1->yV K H1 σ τ->zF K H1 w v->xP K H1 G1->R w G1->S v H1):uY K t τ H S :=
 ⟨σ,G,hs,ha,m σ G _ _ (fun w G' r v H' g rp ab=>k w G' v H' g (hs.mono g) rp ab r) h⟩
end
end L3
namespace L2
section
variable {X : Cx} {e : PySem.Expr} {st : PySem.Stmt} {sts : List PySem.Stmt}
theorem PE.imp {t t':TE} (h:PE X e t) (k:∀ σ H Q,t' σ H Q->t σ H Q):PE X e t':=fun pins s σ H Q I q=>h pins s σ H Q I (k σ H Q q)
theorem PT.imp {t t':TT} (h:PT X e t) (k:∀ σ H Q,t' σ H Q->t σ H Q):PT X e t':=fun pins s σ H Q I q=>h pins s σ H Q I (k σ H Q q)
theorem PW.imp {t t':TT} (h:PW X e t) (k:∀ σ H Q,t' σ H Q->t σ H Q):PW X e t':=fun wh pins s σ H Q I q=>h wh pins s σ H Q I (k σ H Q q)
theorem PA.imp {es:List PySem.Expr} {t t':TA} (h:PA X es t) (k:∀ σ H Q,t' σ H Q->t σ H Q):PA X es t':=fun pos pins s σ H Q I q=>h pos pins s σ H Q I (k σ H Q q)
theorem PS.imp {t t':TS} (h:PS X st t) (k:∀ D σ H,t' D σ H->t D σ H):PS X st t':=fun pins s σ H D I q=>h pins s σ H D I (k D σ H q)
theorem dM.imp {t t':TS} (h:dM X sts t) (k:∀ D σ H,t' D σ H->t D σ H):dM X sts t':=fun pins s σ H D I q=>h pins s σ H D I (k D σ H q)
end
end L2
set_option genInjectivity false
set_option genSizeOfSpec false
namespace L2
open PySem PySem.Spec PyProof.Rows PySem.Calls
def clo (env:Env):List (Str×NameKind)->List (Str×Addr)->List (Str×Addr)
 | [],acc=>acc
 | (n,k)::r,acc=>if (k==NameKind.free)=true then clo env r ((n,(env.cells.lookup n).getD 0)::acc) else clo env r acc
theorem zaN (env:Env):∀ (l:List (Str×NameKind)) (acc:List (Str×Addr)) {x:Str} {c:Addr},(clo env l acc).lookup x=some c ->
  ((∃ k,(x,k)∈l/\k=.free)/\c=(env.cells.lookup x).getD 0)\/acc.lookup x=some c
 | [],acc,x,c,h=>.inr h
 | (n,k)::r,acc,x,c,h=>by
  unfold clo at h
  by_cases hk:(k==NameKind.free)=true
  .rw [if_pos hk] at h;rcases zaN env r _ h with ⟨⟨k',m,e⟩,q⟩|h
   .exact .inl ⟨⟨k',List.mem_cons_of_mem _ m,e⟩,q⟩
   .rw [List.lookup_cons] at h
    by_cases hx:(x==n)=true
    .rw [hx] at h;have e:x=n:=eq_of_beq hx;subst e;exact .inl ⟨⟨k,zzT,eq_of_beq hk⟩,(Option.some.inj h).symm⟩
    .rw [Bool.not_eq_true] at hx;rw [hx] at h;exact .inr h
  .rw [if_neg hk] at h;rcases zaN env r _ h with ⟨⟨k',m,e⟩,q⟩|h
   .exact .inl ⟨⟨k',List.mem_cons_of_mem _ m,e⟩,q⟩
   .exact .inr h
theorem zaP (env:Env):∀ (l:List (Str×NameKind)) (acc:List (Str×Addr)) {x:Str},(∃ c,acc.lookup x=some c)->∃ c,(clo env l acc).lookup x=some c
 | [],acc,x,h=>h
 | (n,k)::r,acc,x,h=>by
  unfold clo
  split
  .refine zaP env r _ ?_;rw [List.lookup_cons];cases x==n
   .exact h
   .exact ⟨_,rfl⟩
  .exact zaP env r _ h
theorem zaO (env:Env):∀ (l:List (Str×NameKind)) (acc:List (Str×Addr)) {x:Str},(x,NameKind.free)∈l->∃ c,(clo env l acc).lookup x=some c
 | (n,k)::r,acc,x,h=>by
  unfold clo;rcases List.mem_cons.mp h with h|h
  .cases h;rw [if_pos (by decide)];refine zaP env r _ ?_;rw [List.lookup_cons,beq_self_eq_true];exact ⟨_,rfl⟩
  .split
   .exact zaO env r _ h
   .exact zaO env r _ h
theorem tH {env:Env} {scope:Scope} (h:∀ x,(x,NameKind.free)∈scope.names->∃ c,env.cells.lookup x=some c):closureFor scope env=pure (clo env scope.names []):=by
 simp only [closureFor]
 have key:∀ (l:List (Str×NameKind)) (acc:List (Str×Addr)),(∀ x,(x,NameKind.free)∈l->∃ c,env.cells.lookup x=some c) ->
   (forIn l acc fun x r=>match x with|(name,kind)=>if (kind==NameKind.free)=true then (do let a ← cellOf env name;pure (ForInStep.yield ((name,a)::r))) else pure (ForInStep.yield r):Sem (List (Str×Addr)))=pure (clo env l acc):=by
  intro l
  induction l with
  |nil=>intro acc _;rfl
  |cons p r ih =>
   intro acc hh;obtain ⟨n,k⟩:=p;rw [List.forIn_cons]
   by_cases hk:(k==NameKind.free)=true
   .have ek:k=.free:=eq_of_beq hk;obtain ⟨c,hc⟩:=hh n (by rw [ek];exact zzT);simp only [hk,if_true];have e1:cellOf env n=pure c:=by unfold cellOf;rw [hc]
    rw [e1];simp only [pure_bind];rw [ih _ fun x hx=>hh x (List.mem_cons_of_mem _ hx)]
    conv=>rhs;unfold clo
    rw [if_pos hk,hc]
    all_goals rfl
   .simp only [hk];rw [if_neg (by simp)];simp only [pure_bind];rw [ih _ fun x hx=>hh x (List.mem_cons_of_mem _ hx)]
    conv=>rhs;unfold clo
    rw [if_neg hk]
 have:=key scope.names [] h;simpa using this
theorem wP {env:Env}:∀ {names:List (Str×NameKind)} {x:Str} {k':NameKind},
  (names.map fun (n,k)=>if (k==NameKind.free&&env.scope.kind==.function&&env.kindOf n==some .cell) then (n,NameKind.cell) else (n,k)).lookup x=some k' ->
  ∃ k,names.lookup x=some k/\(k'=k\/(k=.free/\k'=.cell))
 | [],_,_,h=>by simp at h
 | (n,k)::r,x,k',h=>by
  rw [zzU] at h
  by_cases hc:(k==NameKind.free&&env.scope.kind==.function&&env.kindOf n==some .cell)=true
  .simp only [hc,if_true] at h;rw [List.lookup_cons] at h ⊢
   cases hx:x==n with
   |true =>
    rw [hx] at h;cases h;simp only [Bool.and_eq_true,beq_iff_eq] at hc;exact ⟨k,rfl,.inr ⟨hc.1.1,rfl⟩⟩
   |false=>rw [hx] at h;exact wP h
  .simp only [hc,if_false] at h;rw [if_neg (by simp)] at h;rw [List.lookup_cons] at h ⊢
   cases hx:x==n with
   |true=>rw [hx] at h;cases h;exact ⟨k,rfl,.inl rfl⟩
   |false=>rw [hx] at h;exact wP h
theorem qR {α:Type}:∀ {l:List (Str×α)} {x:Str} {v:α},l.lookup x=some v->(x,v)∈l
 | (n,k)::r,x,v,h=>by
  rw [List.lookup_cons] at h
  cases hx:x==n with
  |true=>rw [hx] at h;cases h;rw [eq_of_beq hx];exact zzT
  |false=>rw [hx] at h;exact List.mem_cons_of_mem _ (qR h)
theorem zaQ:∀ (l:List (Str×NameKind)) (n:Nat) (acc:List (Str×Addr)) {x:Str} {c:Addr},(cellsFrom n l acc).lookup x=some c->acc.lookup x=some c\/((x,NameKind.cell)∈l/\n<=c)
 | [],n,acc,x,c,h=>.inl h
 | (y,k)::r,n,acc,x,c,h=>by
  unfold cellsFrom at h
  split at h
  .rename_i hk;rcases zaQ r _ _ h with h|⟨h,q⟩
   .rw [List.lookup_cons] at h
    by_cases hx:(x==y)=true
    .rw [hx] at h;cases eq_of_beq hx;cases eq_of_beq hk;exact .inr ⟨zzT,Nat.le_of_eq (Option.some.inj h)⟩
    .rw [Bool.not_eq_true] at hx;rw [hx] at h;exact .inl h
   .exact .inr ⟨List.mem_cons_of_mem _ h,Nat.le_of_succ_le q⟩
  .rcases zaQ r _ _ h with h|⟨h,q⟩
   .exact .inl h
   .exact .inr ⟨List.mem_cons_of_mem _ h,q⟩
theorem zbr:∀ (l:List (Str×NameKind)) (n:Nat) (acc:List (Str×Addr)) {x:Str},(∃ c,acc.lookup x=some c)->∃ c,(cellsFrom n l acc).lookup x=some c
 | [],n,acc,x,h=>h
 | (y,k)::r,n,acc,x,h=>by
  unfold cellsFrom
  split
  .refine zbr r _ _ ?_;rw [List.lookup_cons];cases x==y
   .exact h
   .exact ⟨_,rfl⟩
  .exact zbr r _ _ h
theorem zdv:∀ (l:List (Str×NameKind)) (n:Nat) (acc:List (Str×Addr)) {x:Str},(x,NameKind.cell)∈l->∃ c,(cellsFrom n l acc).lookup x=some c
 | (y,k)::r,n,acc,x,h=>by
  unfold cellsFrom;rcases List.mem_cons.mp h with h|h
  .cases h;rw [if_pos (by decide)];refine zbr r _ _ ?_;rw [List.lookup_cons,beq_self_eq_true];exact ⟨_,rfl⟩
  .split
   .exact zdv r _ _ h
   .exact zdv r _ _ h
def Inj (n:Nat) (l:List (Str×Addr)):Prop:=(∀ x c,l.lookup x=some c->c<n)/\∀ x y c,l.lookup x=some c->l.lookup y=some c->x=y
theorem zdu:∀ (l:List (Str×NameKind)) (n:Nat) (acc:List (Str×Addr)),Inj n acc->∀ x y c,(cellsFrom n l acc).lookup x=some c->(cellsFrom n l acc).lookup y=some c->x=y
 | [],n,acc,h=>h.2
 | (z,k)::r,n,acc,h=>by
  unfold cellsFrom
  split
  .refine zdu r (n+1) ((z,n)::acc) ⟨fun x c e=>?_,fun x y c e e'=>?_⟩
   .rw [List.lookup_cons] at e
    cases hx:x==z with
    |true=>rw [hx] at e;cases e;exact Nat.lt_succ_self _
    |false=>rw [hx] at e;exact Nat.lt_succ_of_lt (h.1 x c e)
   .rw [List.lookup_cons] at e e'
    cases hx:x==z with
    |true =>
     rw [hx] at e;cases e
     cases hy:y==z with
     |true=>rw [eq_of_beq hx,eq_of_beq hy]
     |false=>rw [hy] at e';exact absurd (h.1 y _ e') (Nat.lt_irrefl _)
    |false =>
     rw [hx] at e
     cases hy:y==z with
     |true=>rw [hy] at e';cases e';exact absurd (h.1 x _ e) (Nat.lt_irrefl _)
     |false=>rw [hy] at e';exact h.2 x y c e e'
  .exact zdu r n acc h
theorem zaR:∀ (l:List (Str×NameKind)) (h:Heap) (acc:List (Str×Addr)),(∀ x c,acc.lookup x=some c->∃ v,h.IsCell c v)->∀ x c,(cellsFrom h.objs.size l acc).lookup x=some c->∃ v,(pushCells h l).IsCell c v
 | [],h,acc,k=>k
 | (z,q)::r,h,acc,k=>by
  unfold cellsFrom pushCells
  split
  .have:=zaR r (h.push { cls:=.type "cell", data:=.cell none }) ((z,h.objs.size)::acc) (fun x c e=>by
    rw [List.lookup_cons] at e
    cases hx:x==z with
    |true=>rw [hx] at e;cases e;exact ⟨_,_,Heap.get?_push_size _ rfl,rfl⟩
    |false =>
     rw [hx] at e;obtain ⟨v,o,ho,hd⟩:=k x c e;exact ⟨v,o,Heap.get?_push_of_some _ ho,hd⟩)
   rw [Heap.size_push] at this;exact this
  .exact zaR r h acc k
theorem nfe {M:Model} {A:Around} {E:Value->Shared->Prop} {s:Shared} {sc:Scope} {gl:Addr} {cl:List (Str×Addr)} {qual:Str} {env:Env} {Q:Env->Shared->Prop}
  (hQ:∀ h',h'=pushCells (s.heap.push { cls:=.type "dict", data:=.dict #[] }) sc.names->h'.Ns s.heap.objs.size (fun _=>none)->(∀ b o,s.heap.get? b=some o->h'.get? b=some o) ->
   Q { scope:=sc,locals:=s.heap.objs.size,globals:=gl,cells:=cellsFrom (s.heap.objs.size+1) sc.names cl,qual:=qual,func:=none,code:=env.code,frame:=env.frame,builtins:=env.builtins } { s with heap:=h' }) :
  wpAny M A (newFunctionEnv sc gl cl [] qual none .none (some env)) Q E s:=by
 simp only [newFunctionEnv,Option.isSome_some,if_true];refine wpAny_bind (wpAny_alloc (wpAny_bind (wpAny_layCells _ (fun name kind cells=>by cases hkc:kind==NameKind.cell<;>simp [hkc]) _ _ _ _ ?_)));rw [show ({ s with heap:=s.heap.push { cls:=.type "dict", data:=.dict #[] } }:Shared).heap.objs.size=s.heap.objs.size+1 from Heap.size_push ..];rw [List.forIn_nil];refine wpAny_bind (wpAny_pure (wpAny_pure (hQ _ rfl ((Heap.Ns.new s.heap (.type "dict")).keeps (pushCells_keeps _ _)) fun b o e=>pushCells_keeps _ _ b o (Heap.get?_push_of_some _ e))))
end L2
namespace L2
open PySem PySem.Spec PyProof.Rows PySem.Calls
theorem zaf (elt target iter:Expr) (ifs:List Expr) (scope:Scope) (pos:Pos) (it acc:Value) (env:Env) :
  compTurn (.ListComp elt [⟨target,iter,ifs,0⟩] scope pos) 0 it acc env=(do
   standAt iter.pos
   match ← pyNext it with
   |none=>pure (.done .next)
   |some v =>
    letOwnedTupleGo target it v
    assign target env v
    let mut ok:=true
    for c in ifs do
     if ok then ok ← isTrue c env (eval c env)
    if ok then
     (do let _ ← call (.builtin "list.append") [acc,← eval elt env])
    again (.compLoop (.ListComp elt [⟨target,iter,ifs,0⟩] scope pos) 0 it acc env)):=by rfl
section
variable {prog : Program} {w : World} {A : Around} {R : Result → Shared → Prop} {s : Shared}
theorem zag {elt target iter:Expr} {ifs:List Expr} {scope:Scope} {pos:Pos} {it acc:Value} {env:Env} (I:Nat->Shared->Prop)
  (turn:∀ n s,I n s->wpAny (model prog w) A (pyNext it) (fun r s₁=>match r with
   |none=>R (.ok .next) s₁
   |some v=>wpAny (model prog w) A (letOwnedTupleGo target it v) (fun _ s₁=>wpAny (model prog w) A (assign target env v) (fun _ s₂ =>
     wpAny (model prog w) A (forIn ifs true fun c r=>if r=true then do let ok ← isTrue c env (eval c env);pure (ForInStep.yield ok) else pure (ForInStep.yield r)) (fun ok s₃ =>
      if ok=true then wpAny (model prog w) A (eval elt env) (fun x s₄ =>
       wpAny (model prog w) A (call (.builtin "list.append") [acc,x]) (fun _ s₅=>∃ m,m<n/\I m s₅) (fun _ _=>False) s₄) (notedBy (model prog w) A env fun e s'=>R (.error e) s') s₃
      else ∃ m,m<n/\I m s₃) (fun _ _=>False) s₂) (fun _ _=>False) s₁) (fun _ _=>False) s₁) (fun _ _=>False) s)
  (n:Nat) (h:I n s) :
  codeAny (model prog w) A (.compLoop (.ListComp elt [⟨target,iter,ifs,0⟩] scope pos) 0 it acc env) R s:=by
 refine codeAny_loop rfl I (fun n s hI=>?_) n h;show wpAny _ A ((compTurn (.ListComp elt [⟨target,iter,ifs,0⟩] scope pos) 0 it acc env).onRaise (fun x=>do noteFrame x env;theTreesLotGoes x)) _ _ s;refine wpAny_noted ?_;rw [zaf];refine wpAny_bind (wpAny_standAt (wpAny_bind (wpAny_mono (turn n s hI) (fun r s₁ h₁=>?_) fun _ _ h'=>h'.elim)))
 cases r with
 |none=>exact wpAny_pure h₁
 |some v =>
  refine wpAny_bind (wpAny_mono h₁ (fun _ s₁ h₁=>?_) fun _ _ h'=>h'.elim);refine wpAny_bind (wpAny_mono h₁ (fun _ s₂ h₂=>wpAny_bind (wpAny_mono h₂ (fun ok s₃ h₃=>?_) fun _ _ h'=>h'.elim)) fun _ _ h'=>h'.elim)
  cases ok with
  |false=>exact wpAny_pure ⟨rfl,h₃⟩
  |true =>
   exact wpAny_bind (wpAny_bind (wpAny_mono h₃ (fun x s₄ h₄=>wpAny_bind (wpAny_mono h₄ (fun _ s₅ h₅=>wpAny_pure (wpAny_pure ⟨rfl,h₅⟩)) fun _ _ h'=>h'.elim)) fun _ _ h'=>h'))
end
structure IsBlock (X:Cx) (N:List Str) (sc:Scope) (X':Cx):Prop where
 prog:X'.prog=X.prog
 w:X'.w=X.w
 K:X'.K=X.K
 mg:X'.mg=X.mg
 base:X'.base=X.base
 A:X'.A=X.A
 calm:X'.calm=X.calm
 N:X'.N=N
 scope:X'.env.scope=relabel sc X.env
 xe:X'.xe=fun _ _=>False
 fn:∀ x,sc.names.lookup x=some .cell->X'.fn x=true
def ocl (X:Cx) (sc:Scope) (C:Addr):List (Str×Addr):=cellsFrom (C+1) sc.names (clo X.env sc.names [])
def qX (X:Cx) (N:List Str) (sc:Scope) (C:Addr) (s2:Shared) (H2:Hp) (fp:List Addr) (pins:List (Addr×Obj)) (xe:Value->Shared->Prop):Cx where
 prog:=X.prog
 w:=X.w
 K:=X.K
 mg:=X.mg
 base:=X.base
 A:=X.A
 N:=N
 s₀:=s2
 H₀:=H2
 env:=compEnvC sc (ocl X sc C) C X.env
 outer:=X.stack
 stack:=X.stack
 ex:=fp
 fn:=fun x=>sc.names.lookup x==some .cell
 calm:=X.calm
 pn:=X.pn++pins
 xe:=xe
theorem zbL (X:Cx) (N:List Str) (sc:Scope) (C:Addr) (s2:Shared) (H2:Hp) (fp:List Addr) (pins:List (Addr×Obj)) (xe:Value->Shared->Prop):IsBlock X N sc (qX X N sc C s2 H2 fp pins xe).nox :=
 ⟨rfl,rfl,rfl,rfl,rfl,rfl,rfl,rfl,rfl,rfl,fun x h=>by show (sc.names.lookup x==some .cell)=true;rw [h];rfl⟩
structure BlkSc (X:Cx) (sc:Scope):Prop where
 kind:sc.kind=.function
 cells:∀ x,(x,NameKind.cell)∈sc.names->sc.names.lookup x=some .cell
 frees:∀ x,(x,NameKind.free)∈sc.names->sc.names.lookup x=some .free
 free:∀ x,(x,NameKind.free)∈sc.names->X.env.kindOf x=some .cell\/X.env.kindOf x=some .free
 names:∀ y∈sc.names,y.2=.local->sc.names.lookup y.1=some .local
section
variable {X : Cx} {pins : List (Addr × Obj)} {σ : St} {H2 : Hp} {s2 : Shared} {sc : Scope} {N : List Str} {C : Addr} {fp : List Addr} {xe : Value → Shared → Prop}
theorem uR (ok:X.Ok) (B:BlkSc X sc) {x:Str} {c:Addr} (h:(clo X.env sc.names []).lookup x=some c):X.env.cells.lookup x=some c/\sc.names.lookup x=some .free:=by
 rcases zaN _ _ _ h with ⟨⟨k,m,e⟩,q⟩|h
 .subst e;have hf:=B.free x m;obtain ⟨c',hc'⟩:=ok.has x hf;rw [hc'] at q;exact ⟨by rw [hc',q];rfl,B.frees x m⟩
 .simp at h
theorem vF (ok:X.Ok) (B:BlkSc X sc) {x:Str} {c:Addr} (h:(ocl X sc C).lookup x=some c):(X.env.cells.lookup x=some c/\sc.names.lookup x=some .free)\/(sc.names.lookup x=some .cell/\C<c):=by
 rcases zaQ _ _ _ h with h|⟨h,q⟩
 .exact .inl (uR ok B h)
 .exact .inr ⟨B.cells x h,q⟩
theorem B_has (B:BlkSc X sc) {x:Str} (h:(relabel sc X.env).names.lookup x=some .cell\/(relabel sc X.env).names.lookup x=some .free):(x,NameKind.free)∈sc.names\/(x,NameKind.cell)∈sc.names:=by
 rcases h with h|h
 .obtain ⟨k,hk,e⟩:=wP h;rcases e with e|⟨e,_⟩
  .subst e;exact .inr (qR hk)
  .subst e;exact .inl (qR hk)
 .obtain ⟨k,hk,e⟩:=wP h;rcases e with e|⟨e,z⟩
  .subst e;exact .inl (qR hk)
  .cases z
theorem zcA {x:Str} (h:(x,NameKind.free)∈sc.names\/(x,NameKind.cell)∈sc.names):∃ c,(ocl X sc C).lookup x=some c:=by
 rcases h with h|h
 .exact zbr _ _ _ (zaO _ _ _ h)
 .exact zdv _ _ _ h
theorem zdw (I2:Inv X pins σ H2 s2) {x:Str} {c:Addr} (h:X.env.cells.lookup x=some c):c<s2.heap.objs.size:=by
 obtain ⟨v,o,e,_⟩:=I2.cell x c h;exact Heap.lt_size e
theorem fM (I2:Inv X pins σ H2 s2) (B:BlkSc X sc) (f2:∀ b∈fp,uN X pins H2 b) (hfp:∀ b∈fp,b<s2.heap.objs.size) (hC:s2.heap.objs.size<=C):(qX X N sc C s2 H2 fp pins xe).Ok where
 mod:=I2.ok.mod
 kind:=B.kind
 glob:=I2.ok.glob
 blt:=I2.ok.blt
 above:=hC
 inj:=zdu _ _ _ ⟨fun x c h=>Nat.lt_succ_of_lt (Nat.lt_of_lt_of_le (zdw I2 (uR I2.ok B h).1) hC),fun x y c hx hy=>I2.ok.inj x y c (uR I2.ok B hx).1 (uR I2.ok B hy).1⟩
 has:=fun x h=>zcA (B_has B h)
 cab:=fun x c h e=>by
  rcases vF I2.ok B e with ⟨_,q⟩|⟨_,q⟩
  .have h:(sc.names.lookup x==some .cell)=true:=h;rw [q] at h;cases h
  .exact Nat.le_trans hC (Nat.le_of_lt q)
 hd:=I2.ok.hd
 frames:=I2.ok.frames
 stk:=.inl rfl
 exf:=fun b hb=>⟨Nat.ne_of_lt (Nat.lt_of_lt_of_le (hfp b hb) hC),fun x c h=>by
  rcases vF I2.ok B h with ⟨q,_⟩|⟨_,q⟩
  .exact (f2 b hb).2.2.2.2.1 x c q
  .exact Nat.ne_of_gt (Nat.lt_trans (Nat.lt_of_lt_of_le (hfp b hb) hC) q)⟩
 bs:=I2.bs
 bsz:=Nat.le_trans I2.ok.bsz I2.sz
 noex:=fun b o e hb=>by
  rcases (f2 b hb).2.2.2.1 with h|h
  .exact I2.ok.noex b o e h
  .exact absurd (Nat.lt_of_lt_of_le (Heap.lt_size e) (Nat.le_trans I2.ok.bsz h)) (Nat.lt_irrefl _)
 exfs:=fun b hb hm=>by
  rcases List.mem_cons.mp (I2.stkSub b hm) with h|h
  .exact (f2 b hb).2.1 h
  .exact (f2 b hb).2.2.1 h
 funs:=I2.stack
 frf:=I2.stkFree
theorem zdz {s4:Shared} {τ:St} {m:Str->Option Value} (I2:Inv X pins σ H2 s2) (B:BlkSc X sc) (f2:∀ b∈fp,uN X pins H2 b) (hfp:∀ b∈fp,b<s2.heap.objs.size) (hC:s2.heap.objs.size<=C)
  (ho:s4.os=s2.os) (hg:s4.gens=s2.gens) (keep:∀ b o,s2.heap.get? b=some o->s4.heap.get? b=some o) (hcs:∀ x c,(ocl X sc C).lookup x=some c->∃ v,s4.heap.IsCell c v) (hns:s4.heap.Ns C m) (hl:τ.length=N.length)
  (cap:∀ (i:Nat) (x:Str) (v:V),N[i]?=some x->τ[i]?=some (some v)->Vis (relabel sc X.env) x->sc.names.lookup x=some .free/\∃ j:Nat,X.N[j]?=some x/\σ[j]?=some (some v)) (h4:0<s4.toks) :
  Inv (qX X N sc C s2 H2 fp pins xe) [] τ H2 s4:=by
 refine ⟨fM I2 B f2 hfp hC,ho,by rw [hg];exact I2.bare,Un.kept keep,⟨m,hns,fun i x v hN hτ hv=>?_⟩,hcs,I2.hok.fresh hC,fun x c h=>?_,fun p hp=>?_,I2.hok.kept keep,hl,h4⟩
 .obtain ⟨hnl,j,hj,hσ⟩:=cap i x v hN hτ hv;have hmem:=qR hnl;have hf:=B.free x hmem
  have hkind:(relabel sc X.env).names.lookup x=some .cell\/(relabel sc X.env).names.lookup x=some .free:=by
   rcases hv with h|h|h
   .obtain ⟨k,hk,e⟩:=wP h;rw [hnl] at hk;cases hk;rcases e with e|⟨_,e⟩<;>cases e
   .exact .inl h
   .exact .inr h
  obtain ⟨m0,_,hl0⟩:=I2.loc;obtain ⟨u,r,lk⟩:=hl0 j x v hj hσ (hf.elim (fun h=>.inr (.inl h)) fun h=>.inr (.inr h));refine ⟨u,r,.inr ⟨hkind,?_⟩⟩;rcases lk with ⟨hk,_⟩|⟨_,c,hc,hcell⟩
  .rw [hk] at hf;rcases hf with hf|hf<;>cases hf
  .obtain ⟨c',hc'⟩:=zcA (X:=X) (C:=C) (.inl hmem);rcases vF I2.ok B hc' with ⟨e,_⟩|⟨e,_⟩
   .rw [hc] at e;cases e;refine ⟨c,hc',?_⟩;obtain ⟨o,e1,r1⟩:=hcell;exact ⟨o,keep _ _ e1,r1⟩
   .rw [hnl] at e;cases e
 .rcases vF I2.ok B h with ⟨e,_⟩|⟨_,e⟩
  .exact I2.freeC x c e
  .exact I2.hok.fresh (Nat.le_trans hC (Nat.le_of_lt e))
 .have hp':p∈X.pn++pins:=by simpa [qX] using hp
  obtain ⟨q1,q2,q3,q4,q5⟩:=I2.pin p hp';refine ⟨keep _ _ q1,q2,Nat.ne_of_lt (Nat.lt_of_lt_of_le (Heap.lt_size q1) hC),fun z=>?_,q5⟩;rcases List.mem_cons.mp (I2.stkSub _ z) with h|h
  .exact q3 h
  .exact q4 h
end
theorem vL.adopt {P:Program} {w:World} {H:Hp} {h h':Heap} {a:Addr} {o:HO} (x:vL P w H h) (k:∀ b u v,H b=some v->h.get? b=some u->h'.get? b=some u) (hn:H a=none) (new:xN P w (xR H a o) h' a o):vL P w (xR H a o) h':=fun b u e=>by
 by_cases hb:b=a
 .subst hb;rw [yD] at e;cases e;exact new
 .rw [zG hb] at e;refine (x b u e).stay (fun c v hc q=>?_) (fun c q=>by rw [zG (yL q hn)];exact q) fun c xs q=>by rw [zG (yL q hn)];exact q
  rcases hc with rfl|hc
  .exact k _ _ _ e q
  .exact k _ _ _ hc q
end L2
namespace L2
open PySem PySem.Spec PyProof.Rows PySem.Calls
def PTs (X:Cx) (ifs:List Expr) (t:TT):Prop :=
 ∀ (pins:List (Addr×Obj)) (s:Shared) (σ:St) (H:Hp) (Q:Bool->Hp->Prop),Inv X pins σ H s->t σ H Q ->
  wpAny (model X.prog X.w) X.A (forIn ifs true fun c r=>if r=true then do let ok ← isTrue c X.env (eval c X.env);pure (ForInStep.yield ok) else pure (ForInStep.yield r)) (TP X pins σ Q) X.xe s
theorem zco {X:Cx}:PTs X [] (fun _ H Q=>Q true H):=fun _ _ _ H _ I h=>wpAny_tests_nil ⟨H,I,h⟩
theorem zgq {X:Cx} {c:Expr} {t:TT} (h:PT X c t):PTs X [c] t:=fun pins s σ H Q I q=>wpAny_tests_one (h pins s σ H Q I q)
def tLCb (J:It) (τ:St) (g:TG) (tc:TT) (te:TE) (Qf:List V->Hp->Prop) (H1:Hp):Prop :=
 ∃ Pv:Nat->Nat->St->List V->Hp->Prop,(∃ m,Pv 0 m τ [] H1)/\∀ i m τ acc H,Pv i m τ acc H ->
  (J.stop i H/\Qf acc H) \/
  (J.go i H/\acc.length<sizeLine/\∀ x H',J.yld i H x H'->g x τ H' fun σ2 H2=>tc σ2 H2 fun b H3=>if b=true then te σ2 H3 fun v H4=>∃ m',m' < m/\Pv (i+1) m' σ2 (acc++[v]) H4 else ∃ m',m' < m/\Pv (i+1) m' σ2 acc H3)
structure Off (X:Cx) (pins:List (Addr×Obj)) (C:Addr):Prop where
 ne:C≠X.env.locals
 ge:X.s₀.heap.objs.size<=C
 cl:∀ x c,X.env.cells.lookup x=some c->c≠C
 pn:∀ p∈X.pn++pins,p.1≠C
theorem Off.turned {X:Cx} {pins:List (Addr×Obj)} {C:Addr} {σ:St} {H:Hp} {s:Shared} {h':Heap} (o:Off X pins C) (I:Inv X pins σ H s) (hn:H C=none) (k:Heap.SameBut C s.heap h'):Inv X pins σ H { s with heap:=h' } :=
 I.turned (t':=s.toks) (fun b u hb e=>k.extBut b u hb e) hn o.ne (.inr o.ge) o.cl o.pn
theorem Inv.off {X:Cx} {pins:List (Addr×Obj)} {σ:St} {H:Hp} {s:Shared} {C:Addr} (I:Inv X pins σ H s) (hC:s.heap.objs.size<=C):Off X pins C :=
 ⟨(Nat.ne_of_lt (Nat.lt_of_lt_of_le I.lt hC)).symm,Nat.le_trans I.sz hC,fun x c h=>by
  obtain ⟨v,o,e,_⟩:=I.cell x c h;exact Nat.ne_of_lt (Nat.lt_of_lt_of_le (Heap.lt_size e) hC),fun p hp=>Nat.ne_of_lt (Nat.lt_of_lt_of_le (Heap.lt_size (I.pin p hp).1) hC)⟩
abbrev vY (its:List Value) (n:Nat):Obj:={ cls:=.type "list", data:=.seq its.toArray n }
set_option maxHeartbeats 8000000 in
theorem zaE {X:Cx} {pins:List (Addr×Obj)} {σ τ:St} {H2:Hp} {s2:Shared} {sc:Scope} {N:List Str} {fp:List Addr} {it:Addr} {tn:Nat->Heap->Prop} {J:It} {tg iter elt:Expr} {ifs:List Expr} {pos:Pos} {g:TG} {tc:TT} {te:TE}
  {Qf:List V->Hp->Prop} {RR:Value->Addr->Result->Shared->Prop} {E:Value->Shared->Prop}
  (hc:X.calm=true) (I2:Inv X pins σ H2 s2) (T:Turn X.prog X.w X.K tg J fp it tn) (t0:tn 0 s2.heap) (f2:∀ b∈fp,uN X pins H2 b) (B:BlkSc X sc) (hl:τ.length=N.length)
  (cap:∀ (i:Nat) (x:Str) (v:V),N[i]?=some x->τ[i]?=some (some v)->Vis (relabel sc X.env) x->sc.names.lookup x=some .free/\∃ j:Nat,X.N[j]?=some x/\σ[j]?=some (some v))
  (hg:∀ X',IsBlock X N sc X'->PG X' tg g) (ht:∀ X',IsBlock X N sc X'->PTs X' ifs tc) {PX:Cx->Prop} (hpx:∀ D C,s2.heap.objs.size<=C->PX (qX X N sc C s2 H2 fp pins (notedBy (model X.prog X.w) X.A (compEnvC sc (ocl X sc C) C X.env) fun e s'=>RR (.ref D) C (.error e) s'))) (he:∀ X',IsBlock X N sc X'.nox->PX X'->PE X' elt te)
  (h:tLCb J τ g tc te Qf H2)
  (fin:∀ (D C:Addr) (acc:List V) (H':Hp) (s':Shared) (m:Str->Option Value),D≠C->H' D=none->H' C=none->Off X pins C->Inv X pins σ (xR H' D (.lst acc)) s'->s'.heap.Ns C m->Qf acc H'->RR (.ref D) C (.ok .next) s') :
  wpAny (model X.prog X.w) X.A (newList []) (fun acc s₃=>wpAny (model X.prog X.w) X.A (newFunctionEnv sc X.env.globals (clo X.env sc.names []) [] X.env.qual none .none (some X.env)) (fun cenv s₄ =>
   codeAny (model X.prog X.w) X.A (.compStart (.ListComp elt [⟨tg,iter,ifs,0⟩] sc pos) 0 (.ref it) acc { cenv with scope:=relabel sc X.env }) (RR acc cenv.locals) s₄) E s₃) E s2:=by
 refine wpAny_newObj_type (nfe fun h₁ heq hns₁ hk₁=>?_);dsimp only at heq hns₁ hk₁ ⊢;generalize hH2:s2.heap.push { cls:=.type "list", dict:=none,data:=.seq ([]:List Value).toArray }=G2 at heq hns₁ hk₁ ⊢
 have hcs:∀ x c,(ocl X sc G2.objs.size).lookup x=some c->∃ v,h₁.IsCell c v:=fun x c e=>by
  rw [heq];refine zaR sc.names (G2.push { cls:=.type "dict", data:=.dict #[] }) (clo X.env sc.names []) (fun y d q=>?_) x c (by rw [Heap.size_push];exact e);obtain ⟨v,o,ho,hd⟩:=I2.cell y d (uR I2.ok B q).1;exact ⟨v,o,Heap.get?_push_of_some _ (hH2▸Heap.get?_push_of_some _ ho),hd⟩
 have hC:G2.objs.size=s2.heap.objs.size+1:=by rw [← hH2,Heap.size_push]
 have hDC:s2.heap.objs.size≠G2.objs.size:=by rw [hC];exact Nat.ne_of_lt (Nat.lt_succ_self _)
 have hCle:s2.heap.objs.size<=G2.objs.size:=by rw [hC];exact Nat.le_succ _
 have below:∀ b,b<s2.heap.objs.size->b≠G2.objs.size/\b≠s2.heap.objs.size:=fun b hb=>⟨by rw [hC];exact Nat.ne_of_lt (Nat.lt_succ_of_lt hb),Nat.ne_of_lt hb⟩
 have hfp:∀ b∈fp,b<s2.heap.objs.size:=fun b hb=>by
  obtain ⟨o,e,_⟩:=T.obj _ _ t0 b hb;exact Heap.lt_size e
 have hDf:∀ b∈fp,b≠s2.heap.objs.size:=fun b hb=>(below b (hfp b hb)).2;have hCf:∀ b∈fp,b≠G2.objs.size:=fun b hb=>(below b (hfp b hb)).1;have old:∀ b o,s2.heap.get? b=some o->h₁.get? b=some o:=fun b o e=>hk₁ b o (hH2▸Heap.get?_push_of_some _ e);have hacc:h₁.get? s2.heap.objs.size=some (vY [] 0):=hk₁ _ _ (hH2▸Heap.get?_push_size _ rfl)
 have fresh:∀ a,s2.heap.objs.size<=a->s2.heap.get? a=none:=fun a ha=>by
  cases e:s2.heap.get? a with
  |none=>rfl
  |some o'=>exact absurd (Heap.lt_size e) (Nat.not_lt.mpr ha)
 have hsub:∀ b∈rB X.stack,b<s2.heap.objs.size:=fun b hb=>by
  obtain ⟨_,o,e,_⟩:=I2.stack.mem hb;exact Heap.lt_size e
 obtain ⟨Pv,⟨m0,p0⟩,step⟩:=h;generalize hD:s2.heap.objs.size=D at *;generalize hCe:G2.objs.size=C at *;have hpx:=hpx D C hCle;have hXb:IsBlock X N sc (qX X N sc C s2 H2 fp pins (notedBy (model X.prog X.w) X.A (compEnvC sc (ocl X sc C) C X.env) fun e s'=>RR (.ref D) C (.error e) s')).nox:=zbL ..;generalize hXd:qX X N sc C s2 H2 fp pins (notedBy (model X.prog X.w) X.A (compEnvC sc (ocl X sc C) C X.env) fun e s'=>RR (.ref D) C (.error e) s')=X' at hXb hpx;have exe:X'.xe=notedBy (model X.prog X.w) X.A (compEnvC sc (ocl X sc C) C X.env) fun e s'=>RR (.ref D) C (.error e) s':=by rw [← hXd];rfl
 have J0:Inv X' [] τ H2 { s2 with heap:=h₁ }:=by
  rw [← hXd];exact zdz (s4:={ s2 with heap:=h₁ }) I2 B f2 (by rw [hD];exact hfp) (by rw [hD];exact hCle) rfl rfl old hcs hns₁ hl cap I2.tk
 have offD:Off X' [] D:=by
  rw [← hXd];refine ⟨hDC,by show s2.heap.objs.size<=D;rw [hD];exact zzR _,fun x c hx=>?_,fun p hp=>?_⟩
  .rcases vF I2.ok B hx with ⟨q,_⟩|⟨_,q⟩
   .have:=zdw I2 q;rw [hD] at this;exact Nat.ne_of_lt this
   .exact Nat.ne_of_gt (Nat.lt_of_le_of_lt hCle q)
  .have hp':p∈X.pn++pins:=by simpa [qX] using hp
   have:=Heap.lt_size (I2.pin p hp').1;rw [hD] at this;exact Nat.ne_of_lt this
 have offC:Off X pins C:=I2.off (by rw [hD];exact hCle)
 have fpok:∀ {H':Hp} {ob:Obj},(∀ b∈fp,H' b=none)->∀ b∈fp,uN X' [(D,ob)] H' b:=fun {H' ob} hn b hb=>by
  rw [← hXd];refine ⟨hn b hb,hCf b hb,fun z=>(fM (N:=N) I2 B f2 (by rw [hD];exact hfp) (by rw [hD];exact hCle)).exfs b hb z,.inl hb,fun x c hx=>(fM (N:=N) I2 B f2 (by rw [hD];exact hfp) (by rw [hD];exact hCle)).exf b hb |>.2 x c hx,fun p hp=>?_⟩;rcases List.mem_append.mp hp with hp|hp
  .exact (f2 b hb).2.2.2.2.2 p hp
  .rw [zzO hp];exact (hDf b hb).symm
 have Dfs:D∉X'.fs:=by
  rw [← hXd];intro z;exact Nat.lt_irrefl _ (hsub D z)
 have pinD:∀ {H':Hp} {τ':St} {s':Shared} {its:List Value} {n:Nat},Inv X' [] τ' H' s'->H' D=none->s'.heap.get? D=some (vY its n)->Inv X' [(D,vY its n)] τ' H' s':=fun {H' τ' s' its n} I hn e =>
  I.pins_of fun p hp=>by
   rw [zzO hp];exact ⟨e,hn,by rw [← hXd];exact hDC,Dfs,fun v z=>nomatch z⟩
 have loop:∀ s₃:Shared,s₃={ s2 with heap:=h₁ } ->
   codeAny (model X.prog X.w) X.A (.compLoop (.ListComp elt [⟨tg,iter,ifs,0⟩] sc pos) 0 (.ref it) (.ref D) (compEnvC sc (ocl X sc C) C X.env)) (RR (.ref D) C) s₃:=by
  rintro s₃ rfl;have tn0:tn 0 h₁:=T.keep _ _ _ t0 fun b _ o e=>old b o e;have fr0:∀ b∈fp,H2 b=none:=fun b hb=>(f2 b hb).1;have Df0:H2 D=none:=I2.hok.fresh (by rw [hD];exact zzR _);have eX:X'.env=compEnvC sc (ocl X sc C) C X.env:=by rw [← hXd];rfl
  have ep:X'.prog=X.prog:=hXb.prog;have ew:X'.w=X.w:=hXb.w;have eA:X'.A=X.A:=hXb.A;refine zag (fun k s'=>∃ i τ' acc H' its n,Inv X' [] τ' H' s'/\tn i s'.heap/\(∀ b∈fp,H' b=none)/\H' D=none/\s'.heap.get? D=some (vY its n)/\zA acc its/\acc.length<=sizeLine/\Pv i k τ' acc H') ?_ m0 ⟨0,τ,[],H2,[],0,J0,tn0,fr0,Df0,hacc,.nil,Nat.zero_le _,p0⟩;rintro k s3 ⟨i,τ3,acc,H3,its,n,I3,st3,fr3,D3,o3,v3,lenA,p3⟩;have I3':=pinD I3 D3 o3;rcases step i k τ3 acc H3 p3 with ⟨stop,qf⟩|⟨go,hsz,turn⟩
  .have td:=T.done X' ep ew hXb.K (by rw [hXb.calm];exact hc) i _ s3 τ3 H3 (fun _ _=>False) I3' (fpok fr3) st3 stop;rw [eA] at td;refine yF td fun r s4 ⟨hr,I4⟩=>?_;subst hr;have o4:=(I4.pin (D,vY its n) (List.mem_append_right _ (List.mem_singleton.mpr rfl))).1;obtain ⟨m4,hn4,_⟩:=I4.loc;rw [eX] at hn4;refine fin D C acc H3 s4 m4 hDC D3 ?_ offC ?_ hn4 qf
   .have:=I4.free;rw [eX] at this;exact this
   .have base:Un (rB X.stack) fp H2 H3 s2.heap s4.heap:=by have:=I4.base;rw [← hXd] at this;exact this
    have hb:∀ b o,s2.heap.get? b=some o->b≠D:=fun b o e=>by have:=Heap.lt_size e;rw [hD] at this;exact Nat.ne_of_lt this
    refine I2.call' (ch:=fp) (by have:=I4.os;rw [← hXd] at this;exact this) ⟨base.keep,base.slot,fun b o e n' hx=>?_,base.there,fun b xs e=>?_,fun b o u e=>?_,fun b ps e=>?_⟩ ?_ I4.bare ?_ I4.tk
    .rw [zG (hb b o e)];exact base.free b o e n' hx
    .rw [zG (yL (base.tups b xs e) D3)];exact base.tups b xs e
    .rw [zG (yL (base.frzs b o u e) D3)];exact base.frzs b o u e
    .obtain ⟨mo,e'⟩:=base.tbls b ps e;exact ⟨mo,by rw [zG (yL e' D3)];exact e'⟩
    .have hk:=I4.hok;rw [ep,ew] at hk;exact hk.adopt (fun b u v _ q=>q) D3 ⟨lenA,its,n,v3,o4⟩
    .intro b hb';obtain ⟨q1,q2,q3,q4,q5,q6⟩:=f2 b hb';exact ⟨q4,q2,q5,q6⟩
  .have td:=T.item X' ep ew hXb.K (by rw [hXb.calm];exact hc) i _ s3 τ3 H3 (fun _ _=>False) I3' (fpok fr3) st3 go;rw [eA] at td;refine yF td fun r s4 ⟨u,hr,h4⟩=>?_;subst hr;refine yF h4 fun _ s5 ⟨x,H5,I5,r5,y5,st5,fr5⟩=>?_;have I5':=I5.pinned (fpok fr5) (T.obj _ _ st5);have q1:=hg X'.nox hXb _ s5 τ3 H5 x u _ (I5'.wish _) r5 (turn x H5 y5);rw [show X'.nox.prog=X.prog from ep,show X'.nox.w=X.w from ew,show X'.nox.A=X.A from eA,show X'.nox.env=_ from eX,hXb.xe] at q1;refine yF q1 fun _ s6 ⟨σ6,H6,I6,q6⟩=>?_;have q2:=ht X'.nox hXb _ s6 σ6 H6 _ I6 q6;rw [show X'.nox.prog=X.prog from ep,show X'.nox.w=X.w from ew,show X'.nox.A=X.A from eA,show X'.nox.env=_ from eX,hXb.xe] at q2;refine yF q2 fun b s7 ⟨H7,I7n,q7⟩=>?_;have I7:=I7n.unwish
   have back:∀ {H8:Hp} {s8:Shared},Inv X' ([(D,vY its n)]++rR fp s5.heap) σ6 H8 s8->Inv X' [] σ6 H8 s8/\tn (i+1) s8.heap/\(∀ b∈fp,H8 b=none)/\H8 D=none/\s8.heap.get? D=some (vY its n):=fun {H8 s8} I8=>by
    have pp:∀ p,p∈[(D,vY its n)]++rR fp s5.heap->_:=fun p hp=>I8.pin p (List.mem_append_right _ hp);refine ⟨I8.pins_of (pins':=[]) (fun p hp=>nomatch hp),T.keep _ _ _ st5 fun b hb o e=>(pp (b,o) (List.mem_append_right _ (kB hb e))).1,fun b hb=>?_,?_,?_⟩
    .obtain ⟨o,e,d⟩:=T.obj _ _ st5 b hb;exact (pp (b,o) (List.mem_append_right _ (kB hb e))).2.1
    .exact (pp (D,vY its n) (List.mem_append_left _ (List.mem_singleton.mpr rfl))).2.1
    .exact (pp (D,vY its n) (List.mem_append_left _ (List.mem_singleton.mpr rfl))).1
   cases b with
   |false =>
    rw [if_neg (by decide)] at q7;rw [if_neg (by decide)];obtain ⟨m',hm,p'⟩:=q7;obtain ⟨b1,b2,b3,b4,b5⟩:=back I7;exact ⟨m',hm,i+1,σ6,acc,H7,its,n,b1,b2,b3,b4,b5,v3,lenA,p'⟩
   |true =>
    rw [if_pos rfl] at q7;rw [if_pos rfl];have q3:=he X' hXb hpx _ s7 σ6 H7 _ I7 q7;rw [ep,ew,eA,eX,exe] at q3;refine yF q3 fun y s8 ⟨v,H8,I8,r8,m',hm,p'⟩=>?_;obtain ⟨b1,b2,b3,b4,b5⟩:=back I8;refine append_at (hsz:=by show its.toArray.size<=sizeLine;rw [zzS,← v3.length];exact Nat.le_of_lt hsz) b5 fun h₅ hs₅ hD₅=>?_;refine ⟨m',hm,i+1,σ6,acc++[v],H8,its++[y],n+1,offD.turned b1 b4 hs₅,T.keep _ _ _ b2 fun b hb o e=>hs₅.extBut b o (hDf b hb) e,b3,b4,?_,v3.append (.cons r8 .nil),by rw [zzW];exact hsz,p'⟩;show h₅.get? D=_;rw [hD₅,List.push_toArray]
 exact codeAny_compStart_list (loop _ rfl) (T.self _ 0 _ _ _ (T.keep _ _ _ t0 fun b _ o e=>old b o e) (loop _ rfl))
def tLC (wi:TI) (cap:St->St) (g:TG) (tc:TT) (te:Hp->TE):TE:=fun σ H Q=>wi σ H fun J H1=>tLCb J (cap σ) g tc (te H) (fun acc H'=>∀ p,H' p=none->Q (.ref p) (xR H' p (.lst acc))) H1
section
variable {X : Cx} {sc : Scope} {N : List Str} {tg iter elt : Expr} {ifs : List Expr} {pos : Pos} {wi : TI} {g : TG} {tc : TT} {te : Hp → TE} {cap : St → St}
def Caps (X:Cx) (sc:Scope) (N:List Str) (cap:St->St):Prop:=∀ σ:St,σ.length=X.N.length->(cap σ).length=N.length /\
 ∀ (i:Nat) (x:Str) (v:V),N[i]?=some x->(cap σ)[i]?=some (some v)->Vis (relabel sc X.env) x->sc.names.lookup x=some .free/\∃ j:Nat,X.N[j]?=some x/\σ[j]?=some (some v)
theorem pe_lc (hc:X.calm=true) (hi:PI X tg iter wi) (B:BlkSc X sc) (hcap:Caps X sc N cap)
  (hg:∀ X',IsBlock X N sc X'->PG X' tg g) (ht:∀ X',IsBlock X N sc X'->PTs X' ifs tc) (he:∀ H X',IsBlock X N sc X'->PE X' elt (te H))
  (hs:∀ x,foldedSetIterable iter X.env x=pure x:=by intro _;rfl):PE X (.ListComp elt [⟨tg,iter,ifs,0⟩] sc pos) (tLC wi cap g tc te):=by
 intro pins s σ H Q I h;rw [eval_ListComp];refine wpAny_comprehension_free (use:=none) rfl hs (tH fun x hx=>I.ok.has x (B.free x hx)) B.kind B.names (yF (hi pins s σ H _ I h) fun v s1 h1=>yF h1 fun itv s2 h2=>?_);obtain ⟨it,fp,tn,J,H2,e,I2,T,st2,f2,q⟩:=h2;subst e;obtain ⟨cl,cc⟩:=hcap σ I.len;refine zaE (RR:=fun acc C=>compPost (model X.prog X.w) X.A X.xe none (EP X pins σ Q) acc C) hc I2 T st2 f2 B cl cc hg ht (PX:=fun _=>True) (fun _ _ _=>trivial) (fun X' b _=>(he H X'.nox b).nox) q fun D C acc H' s' m hDC hD hC off I' hn qf=>?_;refine ⟨m,hn,fun h' hk=>⟨.ref D,_,off.turned I' (by rw [zG hDC.symm];exact hC) hk,rfl,qf D hD⟩⟩
theorem zei {i:Nat} {y:Str} {py spos:Pos} (hc:X.calm=true) (hi:PI X tg iter wi) (B:BlkSc X sc) (hcap:Caps X sc N cap)
  (hg:∀ X',IsBlock X N sc X'->PG X' tg g) (ht:∀ X',IsBlock X N sc X'->PTs X' ifs tc) (he:∀ H X',IsBlock X N sc X'->PE X' elt (te H))
  (hN:X.N.Nodup) (hy:X.N[i]?=some y) (hx:Loc X.env.scope y) (hf:X.fn y=true\/X.env.scope.names.lookup y=some .local)
  (hsw:swapsWith (.ListComp elt [⟨tg,iter,ifs,0⟩] sc pos) (some (.Name y py)) spos.line X.env=pure true)
  (hs:∀ x,foldedSetIterable iter X.env x=pure x:=by intro _;rfl):PS X (.Assign [.Name y py] (.ListComp elt [⟨tg,iter,ifs,0⟩] sc pos) spos) (tAsg (tLC wi cap g tc te) (zeS i)):=by
 intro pins s σ H D I h;rw [exec_Assign_Name_used _ _ _ _ hsw];refine wpAny_bind (wpAny_standAt (wpAny_bind ?_));show wpAny _ X.A (do let _ ← comprehension (.ListComp elt [⟨tg,iter,ifs,0⟩] sc pos) sc X.env _ (newList []) false (eval iter X.env) (some (assign (.Name y py) X.env))) _ _ s
 refine wpAny_bind (wpAny_mono (wpAny_comprehension_free (use:=some (assign (.Name y py) X.env)) (Q:=fun _ s'=>SP X pins D .next s') rfl hs (tH fun x hx=>I.ok.has x (B.free x hx)) B.kind B.names
  (yF (hi pins s σ H _ I h) fun v s1 h1=>yF h1 fun itv s2 h2=>?_)) (fun _ s' hq=>wpAny_pure (wpAny_pure hq)) fun _ _ e=>e)
 obtain ⟨it,fp,tn,J,H2,e,I2,T,st2,f2,q⟩:=h2;subst e;obtain ⟨cl,cc⟩:=hcap σ I.len;refine zaE (RR:=fun acc C=>compPost (model X.prog X.w) X.A X.xe (some (assign (.Name y py) X.env)) (fun _ s'=>SP X pins D .next s') acc C) hc I2 T st2 f2 B cl cc hg ht (PX:=fun _=>True) (fun _ _ _=>trivial) (fun X' b _=>(he H X'.nox b).nox) q fun D' C acc H' s' m hDC hD hC off I' hn qf=>?_;show wpAny _ X.A (assign (.Name y py) X.env (.ref D')) _ _ _;refine wpAny_assign_Name (dC I' hN hy hx (v:=.ref D') rfl (fun s'' I'' hsm=>?_) hf);obtain ⟨a,hsb,ha⟩:=hsm
 have hCa:C≠a:=by
  rcases ha with ha|ha
  .rw [ha];exact off.ne
  .exact (off.cl y a ha).symm
 refine ⟨m,hn.sameBut hsb hCa,fun h' hk=>⟨_,_,off.turned I'' (by rw [zG hDC.symm];exact hC) hk,qf D' hD⟩⟩
end
end L2
namespace L3
open PySem PySem.Spec PyProof.Rows L2 PySem.SeqAt
mutual
def wU:W->W->Bool
 | .non,.non=>true
 | .bl a,.bl b=>a==b
 | .bl a,.int j=>(if a then 1 else 0)==j
 | .int i,.bl b=>i==(if b then 1 else 0)
 | .int i,.int j=>i==j
 | .str x,.str y=>x==y
 | .tup xs,.tup ys=>kR xs ys
 |_,_=>false
def kR:List W->List W->Bool
 | [],[]=>true
 |x::xs,y::ys=>wU x y&&kR xs ys
 |_,_=>false
end
mutual
def pur:W->Bool
 | .ref _=>false
 | .ty _=>false
 | .lsf _=>false
 | .exc _ _ _=>false
 | .dcf _ _=>false
 | .tup ws=>wM ws
 |_=>true
def wM:List W->Bool
 | []=>true
 |w::ws=>pur w&&wM ws
end
mutual
def dep:W->Nat
 | .tup ws=>qO ws+1
 |_=>0
def qO:List W->Nat
 | []=>0
 |w::ws=>max (dep w) (qO ws)
end
theorem wY {w:W} {ws:List W}:wM (w::ws)=true↔pur w=true/\wM ws=true:=by simp [wM]
section
variable {X : Cx} {pins : List (Addr × Obj)} {σ : L2.St} {H : Hp} {s : Shared}
theorem W.ind {P:W->Prop} (non:P .non) (bl:∀ b,P (.bl b)) (int:∀ i,P (.int i)) (str:∀ x,P (.str x)) (ty:∀ n,P (.ty n)) (ref:∀ a,P (.ref a)) (tup:∀ ws,(∀ w∈ws,P w)->P (.tup ws)) (lsf:∀ ws,P (.lsf ws)) (exc:∀ C ns ws,P (.exc C ns ws)) (dcf:∀ ks ws,P (.dcf ks ws)):∀ w:W,P w:=fun w =>
 W.rec (motive_1:=P) (motive_2:=fun ws=>∀ w∈ws,P w) non bl int str ty ref (fun ws h=>tup ws h) (fun ws _=>lsf ws) (fun C ns ws _=>exc C ns ws) (fun ks ws _=>dcf ks ws) (fun _ h=>nomatch h) (fun w ws h hs v hv=>(List.mem_cons.mp hv).elim (fun e=>e▸h) (hs v)) w
theorem zbK:∀ (ws:List W),(∀ w∈ws,pur w=true->wU w w=true)->wM ws=true->kR ws ws=true:=by
 intro ws
 induction ws with
 |nil=>intro _ _;simp [kR]
 |cons w ws ih =>
  intro h hp;have h':=wY.mp hp;simp only [kR,h w zzT h'.1,ih (fun z hz=>h z (List.mem_cons_of_mem _ hz)) h'.2,Bool.and_self]
theorem zeV {w:W}:pur w=true->wU w w=true:=by
 induction w using W.ind with
 |non=>intro _;simp [wU]
 |bl _=>intro _;simp [wU]
 |int _=>intro _;simp [wU]
 |str _=>intro _;simp [wU]
 |ty _=>intro h;cases h
 |lsf _=>intro h;cases h
 |exc _ _ _=>intro h;cases h
 |dcf _ _=>intro h;cases h
 |ref _=>intro h;cases h
 |tup ws ih=>intro h;exact zbK ws ih h
theorem cU (I:Inv X pins σ H s):∀ (xs ys:List W) (vs:List V),(∀ x∈xs,∀ (y:W) (v:V),wX X.K H x v->wX X.K H y v->pur x=true->pur y=true->x=y)->zF X.K H xs vs->zF X.K H ys vs->wM xs=true->wM ys=true->xs=ys:=by
 intro xs
 induction xs with
 |nil =>
  intro ys vs _ h h' _ _
  cases ys with
  |nil=>rfl
  |cons y ys=>obtain ⟨_,_,e,_⟩:=h';rw [show _=[] from h] at e;cases e
 |cons x xs ih =>
  intro ys vs hx h h' px py;obtain ⟨v,r,e,q,t⟩:=h;subst e
  cases ys with
  |nil=>cases h'
  |cons y ys =>
   obtain ⟨v',r',e',q',t'⟩:=h';cases e';rw [hx x zzT y v q q' (wY.mp px).1 (wY.mp py).1,ih ys r (fun z hz=>hx z (List.mem_cons_of_mem _ hz)) t t' (wY.mp px).2 (wY.mp py).2]
theorem zck (I:Inv X pins σ H s):∀ (x y:W) (v:V),wX X.K H x v->wX X.K H y v->pur x=true->pur y=true->x=y:=by
 intro x
 induction x using W.ind with
 |tup xs ih =>
  intro y v h h' hx hy;obtain ⟨a,vs,e,q,r⟩:=h;subst e
  cases y with
  |tup ys =>
   obtain ⟨b,us,e',q',r'⟩:=h';cases e';have:=I.tuple_inj q q';subst this;rw [cU I xs ys vs ih r r' hx hy]
  |ref _=>cases hy
  |ty _=>cases hy
  |lsf _=>cases hy
  |exc _ _ _=>cases hy
  |dcf _ _=>cases hy
  |non=>cases h'
  |bl _=>cases h'
  |int _=>cases h'
  |str _=>cases h'
 |ty _=>intro y v _ _ hx;cases hx
 |lsf _=>intro y v _ _ hx;cases hx
 |exc _ _ _=>intro y v _ _ hx;cases hx
 |dcf _ _=>intro y v _ _ hx;cases hx
 |ref _=>intro y v _ _ hx;cases hx
 |non =>
  intro y v h h' _ hy;cases h
  cases y with
  |tup ys=>obtain ⟨_,_,e,_⟩:=h';cases e
  |ref _=>cases hy
  |ty _=>cases hy
  |lsf _=>cases hy
  |exc _ _ _=>cases hy
  |dcf _ _=>cases hy
  |non=>rfl
  |bl _=>cases h'
  |int _=>cases h'
  |str _=>cases h'
 |bl _ =>
  intro y v h h' _ hy;cases h
  cases y with
  |tup ys=>obtain ⟨_,_,e,_⟩:=h';cases e
  |ref _=>cases hy
  |ty _=>cases hy
  |lsf _=>cases hy
  |exc _ _ _=>cases hy
  |dcf _ _=>cases hy
  |non=>cases h'
  |bl _=>cases h';rfl
  |int _=>cases h'
  |str _=>cases h'
 |int _ =>
  intro y v h h' _ hy;cases h
  cases y with
  |tup ys=>obtain ⟨_,_,e,_⟩:=h';cases e
  |ref _=>cases hy
  |ty _=>cases hy
  |lsf _=>cases hy
  |exc _ _ _=>cases hy
  |dcf _ _=>cases hy
  |non=>cases h'
  |bl _=>cases h'
  |int _=>cases h';rfl
  |str _=>cases h'
 |str _ =>
  intro y v h h' _ hy;cases h
  cases y with
  |tup ys=>obtain ⟨_,_,e,_⟩:=h';cases e
  |ref _=>cases hy
  |ty _=>cases hy
  |lsf _=>cases hy
  |exc _ _ _=>cases hy
  |dcf _ _=>cases hy
  |non=>cases h'
  |bl _=>cases h'
  |int _=>cases h'
  |str _=>cases h';rfl
theorem zed (I:Inv X pins σ H s) {xs ys:List W} {vs:List V} (h:zF X.K H xs vs) (h':zF X.K H ys vs) (hx:wM xs=true) (hy:wM ys=true):xs=ys :=
 cU I xs ys vs (fun x _=>zck I x) h h' hx hy
def tY (xs ys:List W) (j:Nat):Bool:=match xs[j]?,ys[j]? with
 |some x,some y=>wU x y
 |_,_=>false
theorem sL:∀ xs ys:List W,((List.range (min xs.length ys.length)).all (tY xs ys)&&xs.length==ys.length)=kR xs ys
 | [],[]=>rfl
 | [],_::_=>by simp [kR]
 |_::_,[]=>by simp [kR]
 |x::xs,y::ys=>by
  have ih:=sL xs ys;simp only [List.length_cons,Nat.add_min_add_right,kR];rw [List.range_succ_eq_map,List.all_cons,List.all_map];have h0:tY (x::xs) (y::ys) 0=wU x y:=rfl;have h1:(tY (x::xs) (y::ys) ∘ Nat.succ)=tY xs ys:=by funext j;simp [tY]
  rw [h0,h1,← ih,Bool.and_assoc];congr 2;simp
theorem zeU {xs ys:List W} (h:xs.length≠ys.length):kR xs ys=false:=by
 rw [← sL];have:(xs.length==ys.length)=false:=by simpa using h
 rw [this,Bool.and_false]
theorem zde {xs ys:List W} (h:xs.length=ys.length):(List.range xs.length).all (tY xs ys)=kR xs ys:=by
 rw [← sL,h,Nat.min_self];simp
theorem wE (I:Inv X pins σ H s) {ws:List W} {v:V} {u:Value} (h:wX X.K H (.tup ws) v) (r:yY v u):∃ a vs its,v=.ref a/\u=.ref a/\rY X.K H a vs/\zF X.K H ws vs/\zA vs its/\s.heap.IsTuple a its.toArray/\ws.length<=sizeLine:=by
 obtain ⟨a,vs,rfl,q,rs⟩:=h;obtain ⟨its,vr,it,hl⟩:=I.tuple q;exact ⟨a,vs,its,rfl,r,q,rs,vr,it,by rw [← rs.length];exact hl⟩
theorem zbl (I:Inv X pins σ H s):∀ (xs ys:List W) (vs vs':List V) (us us':List Value) (A:Around),(∀ x∈xs,∀ (y:W) (v v':V) (u u':Value) (A:Around),wX X.K H x v->yY v u->wX X.K H y v'->yY v' u'->pur x=true->pur y=true->A.units+min (dep x) (dep y)<cLine->EqAt A s u u' (wU x y)) ->
  zF X.K H xs vs->zA vs us->zF X.K H ys vs'->zA vs' us'->wM xs=true->wM ys=true ->
  A.units+min (qO xs) (qO ys)<cLine->∀ (j:Nat) (h1:j<us.length) (h2:j<us'.length),EqAt A s us[j] us'[j] (tY xs ys j):=by
 intro xs
 induction xs with
 |nil=>intro ys vs vs' us us' A _ h r _ _ _ _ _ j h1;rw [show _=[] from h] at r;cases r;exact absurd h1 (Nat.not_lt_zero _)
 |cons x xs ih =>
  intro ys vs vs' us us' A he h r h' r' hx hy hu j h1 h2
  cases ys with
  |nil=>rw [show _=[] from h'] at r';cases r';exact absurd h2 (Nat.not_lt_zero _)
  |cons y ys =>
   obtain ⟨v,t,e,h,hs⟩:=h;obtain ⟨v',t',e',h',hs'⟩:=h';subst e;subst e'
   cases r with
   |cons r rs =>
    cases r' with
    |cons r' rs' =>
     have px:=wY.mp hx;have py:=wY.mp hy;simp only [qO] at hu
     cases j with
     |zero=>exact he x zzT y _ _ _ _ A h r h' r' px.1 py.1 (by omega)
     |succ j=>exact ih ys _ _ _ _ A (fun z hz=>he z (List.mem_cons_of_mem _ hz)) hs rs hs' rs' px.2 py.2 (by omega) j (Nat.lt_of_succ_lt_succ h1) (Nat.lt_of_succ_lt_succ h2)
theorem zfS (I:Inv X pins σ H s):∀ (x y:W) (v v':V) (u u':Value) (A:Around),wX X.K H x v->yY v u->wX X.K H y v'->yY v' u'->pur x=true->pur y=true->A.units+min (dep x) (dep y)<cLine->EqAt A s u u' (wU x y):=by
 intro x
 induction x using W.ind with
 |tup xs ih =>
  intro y v v' u u' A h r h' r' hx hy hu;obtain ⟨a,vs,its,rfl,rfl,q,rs,vr,it,_⟩:=wE I h r
  cases y with
  |tup ys =>
   obtain ⟨b,us,its',rfl,rfl,q',rs',vr',it',_⟩:=wE I h' r'
   by_cases e:a=b
   .subst e;have:=I.tuple_inj q q';subst this;have:=zed I rs rs' hx hy;subst this;rw [show wU (.tup xs) (.tup xs)=true from zeV (w:=.tup xs) hx];exact EqAt.same _
   .show EqAt A s _ _ (kR xs ys);rw [← sL];have l1:its.toArray.size=xs.length:=by rw [zzS,← vr.length,rs.length]
    have l2:its'.toArray.size=ys.length:=by rw [zzS,← vr'.length,rs'.length]
    rw [← l1,← l2];refine EqAt.of_refs e (RcAt.tuples it it' (by simp only [dep] at hu;omega) fun j j1 j2=>?_);exact zbl I xs ys _ _ _ _ A.in1 ih rs vr rs' vr' hx hy (by simp only [dep] at hu;show A.units+1+_<_;omega) j (by simpa using j1) (by simpa using j2)
  |ref _=>cases hy
  |ty _=>cases hy
  |lsf _=>cases hy
  |exc _ _ _=>cases hy
  |dcf _ _=>cases hy
  |non=>cases h';cases r';exact EqAt.tuple_none it (by omega)
  |bl _=>cases h';cases r';exact EqAt.tuple_bool _ it (by omega)
  |int _=>cases h';obtain ⟨t,rfl⟩:=r';exact EqAt.tuple_int _ _ it (by omega)
  |str _=>cases h';obtain ⟨t,rfl⟩:=r';exact EqAt.tuple_str _ _ it (by omega)
 |ty _=>intro y v v' u u' A _ _ _ _ hx;cases hx
 |lsf _=>intro y v v' u u' A _ _ _ _ hx;cases hx
 |exc _ _ _=>intro y v v' u u' A _ _ _ _ hx;cases hx
 |dcf _ _=>intro y v v' u u' A _ _ _ _ hx;cases hx
 |ref _=>intro y v v' u u' A _ _ _ _ hx;cases hx
 |non =>
  intro y v v' u u' A h r h' r' hx hy hu;cases h;cases r
  cases y with
  |tup ys=>obtain ⟨b,us,its',rfl,rfl,q',rs',vr',it',_⟩:=wE I h' r';exact EqAt.none_tuple it' (by omega)
  |ref _=>cases hy
  |ty _=>cases hy
  |lsf _=>cases hy
  |exc _ _ _=>cases hy
  |dcf _ _=>cases hy
  |non=>cases h';cases r';exact EqAt.same _
  |bl _=>cases h';cases r';exact EqAt.none_bool _
  |int _=>cases h';obtain ⟨t,rfl⟩:=r';exact EqAt.none_int _ _
  |str _=>cases h';obtain ⟨t,rfl⟩:=r';exact EqAt.none_str _ _
 |bl _ =>
  intro y v v' u u' A h r h' r' hx hy hu;cases h;cases r
  cases y with
  |tup ys=>obtain ⟨b,us,its',rfl,rfl,q',rs',vr',it',_⟩:=wE I h' r';exact EqAt.bool_tuple _ it' (by omega)
  |ref _=>cases hy
  |ty _=>cases hy
  |lsf _=>cases hy
  |exc _ _ _=>cases hy
  |dcf _ _=>cases hy
  |non=>cases h';cases r';exact EqAt.bool_none _
  |bl _=>cases h';cases r';exact EqAt.bool_bool _ _
  |int _=>cases h';obtain ⟨t,rfl⟩:=r';exact EqAt.bool_int _ _ _
  |str _=>cases h';obtain ⟨t,rfl⟩:=r';exact EqAt.bool_str _ _ _
 |int _ =>
  intro y v v' u u' A h r h' r' hx hy hu;cases h;obtain ⟨t0,rfl⟩:=r
  cases y with
  |tup ys=>obtain ⟨b,us,its',rfl,rfl,q',rs',vr',it',_⟩:=wE I h' r';exact EqAt.int_tuple _ _ it' (by omega)
  |ref _=>cases hy
  |ty _=>cases hy
  |lsf _=>cases hy
  |exc _ _ _=>cases hy
  |dcf _ _=>cases hy
  |non=>cases h';cases r';exact EqAt.int_none _ _
  |bl _=>cases h';cases r';exact EqAt.int_bool _ _ _
  |int _=>cases h';obtain ⟨t,rfl⟩:=r';exact EqAt.int_int _ _ _ _
  |str _=>cases h';obtain ⟨t,rfl⟩:=r';exact EqAt.int_str _ _ _ _
 |str _ =>
  intro y v v' u u' A h r h' r' hx hy hu;cases h;obtain ⟨t0,rfl⟩:=r
  cases y with
  |tup ys=>obtain ⟨b,us,its',rfl,rfl,q',rs',vr',it',_⟩:=wE I h' r';exact EqAt.str_tuple _ _ it' (by omega)
  |ref _=>cases hy
  |ty _=>cases hy
  |lsf _=>cases hy
  |exc _ _ _=>cases hy
  |dcf _ _=>cases hy
  |non=>cases h';cases r';exact EqAt.str_none _ _
  |bl _=>cases h';cases r';exact EqAt.str_bool _ _ _
  |int _=>cases h';obtain ⟨t,rfl⟩:=r';exact EqAt.str_int _ _ _ _
  |str _=>cases h';obtain ⟨t,rfl⟩:=r';exact EqAt.str_str _ _ _ _
theorem zdh (I:Inv X pins σ H s) {xs ys:List W} {vs vs':List V} {us us':List Value} {A:Around} (h:zF X.K H xs vs) (r:zA vs us) (h':zF X.K H ys vs') (r':zA vs' us') (hx:wM xs=true) (hy:wM ys=true)
  (hu:A.units+min (qO xs) (qO ys)<cLine):∀ (j:Nat) (h1:j<us.length) (h2:j<us'.length),EqAt A s us[j] us'[j] (tY xs ys j) :=
 zbl I xs ys _ _ _ _ A (fun x _=>zfS I x) h r h' r' hx hy hu
end
section
variable {X : Cx} {pins : List (Addr × Obj)} {σ : L2.St} {H : Hp} {s : Shared}
theorem ziy (I:Inv X pins σ H s) (x y:W) (v v':V) (u u':Value) (A:Around) (h:wX X.K H x v) (r:yY v u) (h':wX X.K H y v') (r':yY v' u') (hx:pur x=true) (hy:pur y=true) (hu:A.units+min (dep x) (dep y)<cLine):RcAt A s u u' (wU x y)/\RcNeAt A s u u' (!wU x y):=by
 have h0:A.units<cLine:=by omega
 cases x with
 |ref _=>cases hx
 |ty _=>cases hx
 |lsf _=>cases hx
 |exc _ _ _=>cases hx
 |dcf _ _=>cases hx
 |tup xs =>
  obtain ⟨a,vs,its,rfl,rfl,q,rs,vr,it,_⟩:=wE I h r
  cases y with
  |ref _=>cases hy
  |ty _=>cases hy
  |lsf _=>cases hy
  |exc _ _ _=>cases hy
  |dcf _ _=>cases hy
  |tup ys =>
   obtain ⟨b,us,its',rfl,rfl,q',rs',vr',it',_⟩:=wE I h' r';have l1:its.toArray.size=xs.length:=by rw [zzS,← vr.length,rs.length]
   have l2:its'.toArray.size=ys.length:=by rw [zzS,← vr'.length,rs'.length]
   have key:∀ (j:Nat) (j1:j<its.toArray.size) (j2:j<its'.toArray.size),EqAt A.in1 s its.toArray[j] its'.toArray[j] (tY xs ys j):=fun j j1 j2 =>
    zdh I rs vr rs' vr' hx hy (A:=A.in1) (by simp only [dep] at hu;show A.units+1+_<_;omega) j (by simpa using j1) (by simpa using j2)
   show RcAt A s _ _ (kR xs ys)/\RcNeAt A s _ _ (!kR xs ys);rw [← sL,← l1,← l2];exact ⟨RcAt.tuples it it' h0 key,RcNeAt.tuples it it' h0 key⟩
  |non=>cases h';cases r';exact ⟨RcAt.tuple_none it h0,RcNeAt.tuple_none it h0⟩
  |bl _=>cases h';cases r';exact ⟨RcAt.tuple_bool _ it h0,RcNeAt.tuple_bool _ it h0⟩
  |int _=>cases h';obtain ⟨t,rfl⟩:=r';exact ⟨RcAt.tuple_int _ _ it h0,RcNeAt.tuple_int _ _ it h0⟩
  |str _=>cases h';obtain ⟨t,rfl⟩:=r';exact ⟨RcAt.tuple_str _ _ it h0,RcNeAt.tuple_str _ _ it h0⟩
 |non =>
  cases h;cases r
  cases y with
  |ref _=>cases hy
  |ty _=>cases hy
  |lsf _=>cases hy
  |exc _ _ _=>cases hy
  |dcf _ _=>cases hy
  |tup ys=>obtain ⟨b,us,its',rfl,rfl,q',rs',vr',it',_⟩:=wE I h' r';exact ⟨RcAt.none_tuple it' h0,RcNeAt.none_tuple it' h0⟩
  |non=>cases h';cases r';exact ⟨RcAt.none_none,RcNeAt.none_none⟩
  |bl _=>cases h';cases r';exact ⟨RcAt.none_bool _,RcNeAt.none_bool _⟩
  |int _=>cases h';obtain ⟨t,rfl⟩:=r';exact ⟨RcAt.none_int _ _,RcNeAt.none_int _ _⟩
  |str _=>cases h';obtain ⟨t,rfl⟩:=r';exact ⟨RcAt.none_str _ _,RcNeAt.none_str _ _⟩
 |bl _ =>
  cases h;cases r
  cases y with
  |ref _=>cases hy
  |ty _=>cases hy
  |lsf _=>cases hy
  |exc _ _ _=>cases hy
  |dcf _ _=>cases hy
  |tup ys=>obtain ⟨b,us,its',rfl,rfl,q',rs',vr',it',_⟩:=wE I h' r';exact ⟨RcAt.bool_tuple _ it' h0,RcNeAt.bool_tuple _ it' h0⟩
  |non=>cases h';cases r';exact ⟨RcAt.bool_none _,RcNeAt.bool_none _⟩
  |bl _=>cases h';cases r';exact ⟨RcAt.bool_bool _ _,RcNeAt.bool_bool _ _⟩
  |int _=>cases h';obtain ⟨t,rfl⟩:=r';exact ⟨RcAt.bool_int _ _ _,RcNeAt.bool_int _ _ _⟩
  |str _=>cases h';obtain ⟨t,rfl⟩:=r';exact ⟨RcAt.bool_str _ _ _,RcNeAt.bool_str _ _ _⟩
 |int _ =>
  cases h;obtain ⟨t0,rfl⟩:=r
  cases y with
  |ref _=>cases hy
  |ty _=>cases hy
  |lsf _=>cases hy
  |exc _ _ _=>cases hy
  |dcf _ _=>cases hy
  |tup ys=>obtain ⟨b,us,its',rfl,rfl,q',rs',vr',it',_⟩:=wE I h' r';exact ⟨RcAt.int_tuple _ _ it' h0,RcNeAt.int_tuple _ _ it' h0⟩
  |non=>cases h';cases r';exact ⟨RcAt.int_none _ _,RcNeAt.int_none _ _⟩
  |bl _=>cases h';cases r';exact ⟨RcAt.int_bool _ _ _,RcNeAt.int_bool _ _ _⟩
  |int _=>cases h';obtain ⟨t,rfl⟩:=r';exact ⟨RcAt.int_int _ _ _ _,RcNeAt.int_int _ _ _ _⟩
  |str _=>cases h';obtain ⟨t,rfl⟩:=r';exact ⟨RcAt.int_str _ _ _ _,RcNeAt.int_str _ _ _ _⟩
 |str _ =>
  cases h;obtain ⟨t0,rfl⟩:=r
  cases y with
  |ref _=>cases hy
  |ty _=>cases hy
  |lsf _=>cases hy
  |exc _ _ _=>cases hy
  |dcf _ _=>cases hy
  |tup ys=>obtain ⟨b,us,its',rfl,rfl,q',rs',vr',it',_⟩:=wE I h' r';exact ⟨RcAt.str_tuple _ _ it' h0,RcNeAt.str_tuple _ _ it' h0⟩
  |non=>cases h';cases r';exact ⟨RcAt.str_none _ _,RcNeAt.str_none _ _⟩
  |bl _=>cases h';cases r';exact ⟨RcAt.str_bool _ _ _,RcNeAt.str_bool _ _ _⟩
  |int _=>cases h';obtain ⟨t,rfl⟩:=r';exact ⟨RcAt.str_int _ _ _ _,RcNeAt.str_int _ _ _ _⟩
  |str _=>cases h';obtain ⟨t,rfl⟩:=r';exact ⟨RcAt.str_str _ _ _ _,RcNeAt.str_str _ _ _ _⟩
theorem zbf (I:Inv X pins σ H s) {G:Hw} {p:Addr} {ws:List W} (ab:xP X.K H G) (e:yR G p=some ws):∃ vs its,pH X.K H p vs/\zF X.K H ws vs/\zA vs its/\s.heap.IsList p its.toArray/\PlainL s.heap p its.toArray/\ws.length<=sizeLine:=by
 obtain ⟨vs,q,r⟩:=ab.seq e;obtain ⟨its,vr,pl,hl⟩:=I.list q;exact ⟨vs,its,q,r,vr,(let ⟨o,n,h1,h2,_,h3⟩:=pl;⟨o,h1,h2,n,h3⟩),pl,by rw [← r.length];exact hl⟩
theorem ziz (I:Inv X pins σ H s) {G:Hw} {p q:Addr} {xs ys:List W} {A:Around} (ab:xP X.K H G) (e:yR G p=some xs) (e':yR G q=some ys) (hx:wM xs=true) (hy:wM ys=true) (hu:A.units+1+min (qO xs) (qO ys)<cLine) :
  RcAt A s (.ref p) (.ref q) (kR xs ys)/\RcNeAt A s (.ref p) (.ref q) (!kR xs ys):=by
 obtain ⟨vs,its,_,rs,vr,il,_⟩:=zbf I ab e;obtain ⟨us,its',_,rs',vr',il',_⟩:=zbf I ab e';have h0:A.units<cLine:=by omega
 have l1:its.toArray.size=xs.length:=by rw [zzS,← vr.length,rs.length]
 have l2:its'.toArray.size=ys.length:=by rw [zzS,← vr'.length,rs'.length]
 have key:∀ (j:Nat) (j1:j<its.toArray.size) (j2:j<its'.toArray.size),EqAt A.in1 s its.toArray[j] its'.toArray[j] (tY xs ys j):=fun j j1 j2 =>
  zdh I rs vr rs' vr' hx hy (A:=A.in1) hu j (by simpa using j1) (by simpa using j2)
 by_cases hl:xs.length=ys.length
 .rw [← zde hl,← l1];exact ⟨RcAt.lists il il' (by omega) h0 key,RcNeAt.lists il il' (by omega) h0 key⟩
 .rw [zeU hl];have:(its.toArray.size != its'.toArray.size)=true:=by simp only [bne_iff_ne];omega
  exact ⟨RcAt.lists_lengths il il' this h0,RcNeAt.lists_lengths il il' this h0⟩
end
end L3
namespace PySem
open Sem (wp)
open Builtin
theorem dF:fillsNumberSlot (.type "tuple") "mul" = pure false :=
 fillsNumberSlot_seq (id := "tuple.__mul__") (r:=some (.builtin "tuple.__rmul__")) F.slot_tuple_mul.lookup (by decide +kernel) F.slot_tuple_rmul.lookup (by decide +kernel)
theorem dG:seqRepeat? (.type "tuple")=pure (some (.builtin "tuple.__mul__")):=by
 unfold seqRepeat?;rw [seqSlot_of (T := "tuple") (name := "__mul__") (id := "tuple.__mul__") F.slot_tuple_mul.lookup (by decide +kernel),seqSlot_of (T := "tuple") (name := "__rmul__") (id := "tuple.__rmul__") F.slot_tuple_rmul.lookup (by decide +kernel)];rfl
theorem zb3 (a:Int) (t:Tok) (l:Addr) (items:Array Value) (n:Nat) (dd:Option Addr) (sl:Array (Option Value)) :
  Meets (Builtin.«int.__rmul__» ⟨[.int a t,.ref l],[]⟩) (fun _ R s=>s.heap.get? l=some { cls:=.type "tuple", dict:=dd,data:=.seq items n,slots:=sl }/\R (.ok (.ret Value.notImplemented)) s) :=
 .of_wp fun prog w A R s h=>by obtain ⟨hp,g,d,tk,os⟩:=s;obtain ⟨hl,h⟩:=h;wp_walk;exact ⟨_,rfl,h⟩
theorem zh3 (l:Addr) (items:Array Value) (n:Nat) (u:Tok) (dd:Option Addr) (sl:Array (Option Value)) :
  Meets (Builtin.«tuple.__mul__» ⟨[.ref l,.int 1 u],[]⟩) (fun _ R s=>s.heap.get? l=some { cls:=.type "tuple", dict:=dd,data:=.seq items n,slots:=sl }/\R (.ok (.ret (Value.ref l))) s) :=
 .of_wp fun prog w A R s h=>by obtain ⟨hp,g,d,tk,os⟩:=s;obtain ⟨hl,h⟩:=h;wp_walk;exact ⟨_,rfl,h⟩
theorem zf6 (l:Addr) (items:Array Value) (n:Nat) (u:Tok) (dd:Option Addr) (sl:Array (Option Value)) (hi:items.isEmpty=false) :
  Meets (Builtin.«tuple.__mul__» ⟨[.ref l,.int 0 u],[]⟩) (fun _ R s=>s.heap.get? l=some { cls:=.type "tuple", dict:=dd,data:=.seq items n,slots:=sl }/\R (.ok (.ret (Value.ref s.heap.objs.size))) { s with heap:=s.heap.push { cls:=.type "tuple", data:=.seq #[] } }) :=
 .of_wp fun prog w A R s h=>by obtain ⟨hp,g,d,tk,os⟩:=s;obtain ⟨hl,h⟩:=h;wp_walk;exact ⟨_,rfl,h⟩
end PySem
namespace L3
open PySem PySem.Spec PyProof.Rows L2
section
variable {X : Cx}
def rRepT (K:yS):R2:=fun x y H Q=>∃ a k xs,x=.ref a/\y=.int k/\rY K H a xs/\((k=1/\Q (.ref a) H)\/(k=0/\xs≠[]/\∀ p,H p=none->Q (.ref p) (xR H p (.tup []))))
theorem zgF:kQ X (binaryOp .Mult) (rRepT X.K):=by
 intro pins s σ H x y v u Q I rx ry h;obtain ⟨a,k,xs,rfl,rfl,ha,h⟩:=h;cases rx;obtain ⟨t,rfl⟩:=ry;obtain ⟨its,r1,p1,_⟩:=I.tuple ha;obtain ⟨⟨cls,dd,data,sl⟩,ho,hc,n,hd⟩:=id p1;simp only at hc hd;subst hc hd;rcases h with ⟨rfl,q⟩|⟨rfl,hx,q⟩
 .exact wpAny_binaryOp_repeat_ref (T := "tuple") (U := "int") (by decide) ⟨_,ho,rfl⟩ (fun s'=>typeIs_int s' 1 t) dF F.fills_int_mul F.slot_int_rmul dG F.slot_int_index.lookup
   (call_meets F.slot_int_rmul (typeIs_int s 1 t) F.entry_int_rmul (F.args_int_rmul_2 _ _) (zb3 1 t a its.toArray n dd sl)
    ⟨ho,rfl,⟨_,ho,rfl⟩,call_meets F.slot_tuple_mul ⟨_,ho,rfl⟩ F.entry_tuple_mul (F.args_tuple_mul_2 _ _) (zh3 a its.toArray n t dd sl) ⟨ho,.ref a,H,I,rfl,q⟩⟩)
 .have he:its.toArray.isEmpty=false:=by
   cases its with
   |nil=>exact absurd (r1.nil_iff.mp rfl) hx
   |cons _ _=>rfl
  refine wpAny_binaryOp_repeat_ref (T := "tuple") (U := "int") (by decide) ⟨_,ho,rfl⟩ (fun s'=>typeIs_int s' 0 t) dF F.fills_int_mul F.slot_int_rmul dG F.slot_int_index.lookup
   (call_meets F.slot_int_rmul (typeIs_int s 0 t) F.entry_int_rmul (F.args_int_rmul_2 _ _) (zb3 0 t a its.toArray n dd sl)
    ⟨ho,rfl,⟨_,ho,rfl⟩,call_meets F.slot_tuple_mul ⟨_,ho,rfl⟩ F.entry_tuple_mul (F.args_tuple_mul_2 _ _) (zf6 a its.toArray n t dd sl he) ⟨ho,?_⟩⟩)
  refine ⟨.ref s.heap.objs.size,_,I.laid (t':=s.toks) (o:=.tup []) (fun b ob q=>Heap.get?_push_of_some _ q) (zzR _) ?_,rfl,q _ (I.hok.fresh (zzR _))⟩;exact ⟨Nat.zero_le _,[],.nil,IsTup.new _ _⟩
def rRepS:R2:=fun x y H Q=>∃ i k,x=.str i/\y=.int k/\((k=1/\Q (.str i) H)\/(k=0/\Q (.str Str.empty) H))
theorem zgG:kQ X (binaryOp .Mult) rRepS:=by
 intro pins s σ H x y v u Q I rx ry h;obtain ⟨i,k,rfl,rfl,h⟩:=h;obtain ⟨t,rfl⟩:=rx;obtain ⟨t2,rfl⟩:=ry;rcases h with ⟨rfl,q⟩|⟨rfl,q⟩
 .refine PySem.P.mul_str (by decide) (fun _ z=>absurd z (by simp)) (fun _ z=>absurd z (by simp)) ?_;rw [if_neg (by decide),if_pos (by simp)];exact ⟨.str i,H,I,⟨t,rfl⟩,q⟩
 .exact PySem.P.mul_str_none (by decide) (by decide) ⟨.str Str.empty,H,I.tok _ (Nat.lt_succ_of_lt I.tk),⟨_,rfl⟩,q⟩
end
end L3
namespace L3
open PySem PySem.Spec PyProof.Rows L2 PySem.SeqAt
abbrev R3:=W->W->Hw->Q3->Prop
def qE (K:yS) (H:Hp) (Q:VK):Q3:=fun w G'=>∀ v H',yM K H H'->wX K H' w v->xP K H' G'->Q v H'
theorem qE.mono {K:yS} {H H1:Hp} {Q:VK} (g:yM K H H1) {w:W} {G:Hw} (h:qE K H Q w G):qE K H1 Q w G:=fun v H' g'=>h v H' (g.trans g')
def pG (r:R3):Prop:=∀ x y G (Q Q':Q3),(∀ w G',Q w G'->Q' w G')->r x y G Q->r x y G Q'
def rH (K:yS) (r:R3):R2:=fun v u H Q=>∃ x y G,wX K H x v/\wX K H y u/\xP K H G/\r x y G (qE K H Q)
def wW:Operator->R3
 | .Add=>fun x y G Q=>match x,y with
  | .int i,.int j=>Q (.int (i+j)) G
  | .str a,.str b=>a.length+b.length<=sizeLine/\Q (.str (a++b)) G
  | .tup a,.tup b=>a.length+b.length<=sizeLine/\Q (.tup (a++b)) G
  | .ref p,.ref q=>(match G p,G q with
   |some (.lst xs),some (.lst ys)=>xs.length+ys.length<=sizeLine/\∀ r,G r=none->Q (.ref r) (put G r (.lst (xs++ys)))
   |_,_=>False)
  |_,_=>False
 | .Sub=>fun x y G Q=>match x,y with
  | .int i,.int j=>Q (.int (i-j)) G
  |_,_=>False
 | .Mult=>fun x y G Q=>match x,y with
  | .int i,.int j=>CMul i j/\Q (.int (i * j)) G
  | .tup xs,.int k=>(k=1/\Q (.tup xs) G)\/(k=0/\xs≠[]/\Q (.tup []) G)
  | .str a,.int k=>(k=1/\Q (.str a) G)\/(k=0/\Q (.str Str.empty) G)
  | .ref p,.int k=>(match G p with
   |some (.lst xs)=>(-(2 ^ 63)<=k/\k<2 ^ 63/\xs.length * k.toNat<=sizeLine)/\∀ r,G r=none->Q (.ref r) (put G r (.lst (List.replicate k.toNat xs).flatten))
   |_=>False)
  |_,_=>False
 | .Mod=>fun x y G Q=>match x,y with
  | .int i,.int j=>0<j/\Q (.int (i % j)) G
  |_,_=>False
 | .FloorDiv=>fun x y G Q=>match x,y with
  | .int i,.int j=>CDiv i j/\Q (.int (i / j)) G
  |_,_=>False
 | .Pow=>fun x y G Q=>match x,y with
  | .int i,.int j=>CPow i j/\Q (.int (i ^ j.toNat)) G
  |_,_=>False
 |_=>fun _ _ _ _=>False
theorem bO:∀ op,pG (wW op):=by
 intro op x y G Q Q' k h
 cases op with
 |Add =>
  cases x with
  |int i=>cases y with
   |int j=>exact k _ _ h
   |_=>exact h.elim
  |str i=>cases y with
   |str j=>exact ⟨h.1,k _ _ h.2⟩
   |_=>exact h.elim
  |tup a=>cases y with
   |tup b=>exact ⟨h.1,k _ _ h.2⟩
   |_=>exact h.elim
  |ref p=>cases y with
   |ref q =>
    simp only [wW] at h ⊢
    split at h
    .exact ⟨h.1,fun r hr=>k _ _ (h.2 r hr)⟩
    .exact h.elim
   |_=>exact h.elim
  |_=>exact h.elim
 |Mult =>
  cases x with
  |int i=>cases y with
   |int j=>exact ⟨h.1,k _ _ h.2⟩
   |_=>exact h.elim
  |tup a=>cases y with
   |int j=>exact h.imp (fun z=>⟨z.1,k _ _ z.2⟩) fun z=>⟨z.1,z.2.1,k _ _ z.2.2⟩
   |_=>exact h.elim
  |str a=>cases y with
   |int j=>exact h.imp (fun z=>⟨z.1,k _ _ z.2⟩) fun z=>⟨z.1,k _ _ z.2⟩
   |_=>exact h.elim
  |ref p=>cases y with
   |int q =>
    simp only [wW] at h ⊢
    split at h
    .exact ⟨h.1,fun r hr=>k _ _ (h.2 r hr)⟩
    .exact h.elim
   |_=>exact h.elim
  |_=>exact h.elim
 |Sub =>
  cases x with
  |int i=>cases y with
   |int j=>exact k _ _ h
   |_=>exact h.elim
  |_=>exact h.elim
 |Mod =>
  cases x with
  |int i=>cases y with
   |int j=>exact ⟨h.1,k _ _ h.2⟩
   |_=>exact h.elim
  |_=>exact h.elim
 |FloorDiv =>
  cases x with
  |int i=>cases y with
   |int j=>exact ⟨h.1,k _ _ h.2⟩
   |_=>exact h.elim
  |_=>exact h.elim
 |Pow =>
  cases x with
  |int i=>cases y with
   |int j=>exact ⟨h.1,k _ _ h.2⟩
   |_=>exact h.elim
  |_=>exact h.elim
 |_=>exact h.elim
section
variable {X : Cx}
theorem zF.nil_iff {K:yS} {H:Hp} {ws:List W} {vs:List V} (h:zF K H ws vs):vs=[]↔ws=[]:=by
 have:=h.length
 constructor
 .intro e;subst e;exact List.eq_nil_of_length_eq_zero this.symm
 .intro e;subst e;exact List.eq_nil_of_length_eq_zero this
theorem zhE {pins:List (Addr×Obj)} {s:Shared} {σ:L2.St} {H:Hp} {a b:Addr} {Q:Value->Shared->Prop} {E:Value->Shared->Prop} {ws:List Value} (ht:IsTup s.heap a #[]) (hb:IsTup s.heap b ws.toArray) (h:Q (.ref b) s) :
  wpAny (model X.prog X.w) X.A (binaryOp .Add (.ref a) (.ref b)) Q E s:=by
 obtain ⟨⟨cls,dd,data,sl⟩,ho,hc,n,hd⟩:=id ht;obtain ⟨⟨cls2,dd2,data2,sl2⟩,ho2,hc2,n2,hd2⟩:=id hb;simp only at hc hd hc2 hd2;subst hc hd hc2 hd2
 exact concat_meets ⟨_,ho,rfl⟩ ⟨_,ho2,rfl⟩ noFill_tuple_add seq_tuple_add PySem.F.slot_tuple_add PySem.F.entry_tuple_add (PySem.F.args_tuple_add_2 _ _)
  (tuple_addW0 a b #[] ws.toArray n n2 dd dd2 sl sl2 rfl) ⟨ho,ho2,h⟩
theorem qM {K:yS} {H:Hp} {G:Hw} {Q:VK} {ws:List W} {vs:List V} (ab:xP K H G) (r:zF K H ws vs) (h:∀ p,G p=none->qE K H Q (.ref p) (put G p (.lst ws))):∀ p,H p=none->Q (.ref p) (xR H p (.lst vs)):=fun p hp =>
 h p (ab.free hp) _ _ (wZ hp) rfl (ab.new hp ⟨vs,rfl,r.mono (wZ hp)⟩)
theorem nP {K:yS} {H:Hp} {G:Hw} {Q:VK} {ws:List W} {vs:List V} (ab:xP K H G) (r:zF K H ws vs) (h:qE K H Q (.tup ws) G):∀ p,H p=none->Q (.ref p) (xR H p (.tup vs)):=fun p hp =>
 h _ _ (wZ hp) ⟨p,vs,rfl,.of yD,r.mono (wZ hp)⟩ (ab.tup hp)
theorem zF.flat {K:yS} {H:Hp} {ws:List W} {vs:List V} (h:zF K H ws vs):∀ k:Nat,zF K H (List.replicate k ws).flatten (List.replicate k vs).flatten
 | 0=>rfl
 |k+1=>by rw [List.replicate_succ,List.replicate_succ,List.flatten_cons,List.flatten_cons];exact h.append (zF.flat h k)
theorem zkb (op:Operator):kQ X (binaryOp op) (rH X.K (wW op)):=by
 intro pins s σ H v u a b Q I rv ru h;obtain ⟨x,y,G,rx,ry,ab,h⟩:=h
 cases op with
 |Add =>
  cases x with
  |int i =>
   cases y with
   |int j=>cases rx;cases ry;exact zi5 pins s σ H _ _ _ _ Q I rv ru ⟨i,j,rfl,rfl,h _ _ .refl rfl ab⟩
   |_=>exact h.elim
  |str i =>
   cases y with
   |str j=>cases rx;cases ry;exact zbA pins s σ H _ _ _ _ Q I rv ru ⟨i,j,rfl,rfl,h.1,h.2 _ _ .refl rfl ab⟩
   |_=>exact h.elim
  |tup xs =>
   cases y with
   |tup ys =>
    obtain ⟨a1,vs,its,rfl,rfl,q,rs,vr,it,_⟩:=wE I rx rv;obtain ⟨b1,us,its',rfl,rfl,q',rs',vr',it',_⟩:=wE I ry ru
    by_cases e:xs=[]
    .subst e;have e1:vs=[]:=(rs.nil_iff).mpr rfl;subst e1;cases vr;exact zhE (pins:=pins) (σ:=σ) (H:=H) it it' ⟨.ref b1,H,I,rfl,h.2 _ _ .refl ⟨b1,us,rfl,q',rs'⟩ ab⟩
    .refine zgI pins s σ H (.ref a1) (.ref b1) _ _ Q I rfl rfl ⟨a1,b1,vs,us,rfl,rfl,q,q',fun z=>e (rs.nil_iff.mp z),by rw [rs.length,rs'.length];exact h.1,fun z=>?_,fun _=>?_⟩
     .have:ys=[]:=rs'.nil_iff.mp z;subst this;exact h.2 _ _ .refl ⟨a1,vs,rfl,q,by rw [List.append_nil];exact rs⟩ ab
     .exact nP ab (rs.append rs') h.2
   |_=>exact h.elim
  |ref p =>
   cases y with
   |ref q =>
    cases rx;cases ry;simp only [wW] at h
    split at h
    .rename_i xs ys e1 e2;obtain ⟨vs,q1,r1⟩:=ab.lst e1;obtain ⟨us,q2,r2⟩:=ab.lst e2;exact zi4 pins s σ H _ _ _ _ Q I rv ru ⟨p,q,vs,us,rfl,rfl,q1,q2,by rw [r1.length,r2.length];exact h.1,qM ab (r1.append r2) h.2⟩
    .exact h.elim
   |_=>exact h.elim
  |_=>exact h.elim
 |Sub =>
  cases x with
  |int i =>
   cases y with
   |int j=>cases rx;cases ry;exact ziZ pins s σ H _ _ _ _ Q I rv ru ⟨i,j,rfl,rfl,h _ _ .refl rfl ab⟩
   |_=>exact h.elim
  |_=>exact h.elim
 |Mult =>
  cases x with
  |int i =>
   cases y with
   |int j=>cases rx;cases ry;exact zi2 pins s σ H _ _ _ _ Q I rv ru ⟨i,j,rfl,rfl,h.1,h.2 _ _ .refl rfl ab⟩
   |_=>exact h.elim
  |tup xs =>
   cases y with
   |int k =>
    obtain ⟨a1,vs,its,rfl,rfl,q,rs,vr,it,_⟩:=wE I rx rv;cases ry;refine zgF pins s σ H (.ref a1) (.int k) _ _ Q I rfl ru ⟨a1,k,vs,rfl,rfl,q,?_⟩;rcases h with ⟨e,h⟩|⟨e,hx,h⟩
    .exact .inl ⟨e,h _ _ .refl ⟨a1,vs,rfl,q,rs⟩ ab⟩
    .exact .inr ⟨e,fun z=>hx (rs.nil_iff.mp z),nP ab (ws:=[]) (vs:=[]) rfl h⟩
   |_=>exact h.elim
  |str i =>
   cases y with
   |int k =>
    cases rx;cases ry;exact zgG pins s σ H _ _ _ _ Q I rv ru ⟨i,k,rfl,rfl,h.imp (fun z=>⟨z.1,z.2 _ _ .refl rfl ab⟩) fun z=>⟨z.1,z.2 _ _ .refl rfl ab⟩⟩
   |_=>exact h.elim
  |ref p =>
   cases y with
   |int k =>
    cases rx;cases ry;simp only [wW] at h
    split at h
    .rename_i xs e1;obtain ⟨vs,q1,r1⟩:=ab.lst e1;exact zi0 pins s σ H _ _ _ _ Q I rv ru ⟨p,k,vs,rfl,rfl,q1,h.1.1,h.1.2.1,by rw [r1.length];exact h.1.2.2,qM ab (r1.flat _) h.2⟩
    .exact h.elim
   |_=>exact h.elim
  |_=>exact h.elim
 |Mod =>
  cases x with
  |int i =>
   cases y with
   |int j=>cases rx;cases ry;exact zi3 pins s σ H _ _ _ _ Q I rv ru ⟨i,j,rfl,rfl,h.1,h.2 _ _ .refl rfl ab⟩
   |_=>exact h.elim
  |_=>exact h.elim
 |FloorDiv =>
  cases x with
  |int i =>
   cases y with
   |int j=>cases rx;cases ry;exact zgH pins s σ H _ _ _ _ Q I rv ru ⟨i,j,rfl,rfl,h.1,h.2 _ _ .refl rfl ab⟩
   |_=>exact h.elim
  |_=>exact h.elim
 |Pow =>
  cases x with
  |int i =>
   cases y with
   |int j=>cases rx;cases ry;exact zi1 pins s σ H _ _ _ _ Q I rv ru ⟨i,j,rfl,rfl,h.1,h.2 _ _ .refl rfl ab⟩
   |_=>exact h.elim
  |_=>exact h.elim
 |_=>exact h.elim
end
theorem gB {k:Str}:∀ {es:List DictEntry} {ks:List Str} {vs:List V},zhN es ks vs->(es.all fun e=>isExactStrKey e.key)=true/\(match (ks.zip vs).lookup k with
  |some v=>∃ u,(es.find? fun e=>e.key.isStr k).map (·.val)=some u/\yY v u
  |none=>(es.find? fun e=>e.key.isStr k).map (·.val)=none)
 | [],ks,vs,h=>by obtain ⟨rfl,rfl⟩:=h;exact ⟨rfl,rfl⟩
 |e::r,ks,vs,h=>by
  obtain ⟨x,t,v,ks',vs',rfl,rfl,hk,hv,hr⟩:=h;have ih:=gB (k:=k) hr;refine ⟨by rw [List.all_cons,hk,ih.1];rfl,?_⟩;rw [List.zip_cons_cons,List.lookup_cons,List.find?_cons,KTD.key_is hk k]
  by_cases hx:k=x
  .subst hx;simp only [beq_self_eq_true,decide_true];exact ⟨e.val,rfl,hv⟩
  .have e1:(k==x)=false:=by simpa using hx
   rw [e1,decide_eq_false hx];exact ih.2
theorem zfH {X:Cx} {pins:List (Addr×Obj)} {σ:L2.St} {H:Hp} {s:Shared} {a:Addr} {ks:List Str} {vs:List V} {k:Str} {tk:Tok} {A:Around} {Q:Option Value->Shared->Prop} {E:Value->Shared->Prop} (I:Inv X pins σ H s) (h:KD X.K a ks vs)
  (q:match (ks.zip vs).lookup k with|some v=>∀ u s',yY v u->Inv X pins σ H s'->Q (some u) s'|none=>∀ s',Inv X pins σ H s'->Q none s'):wpAny (model X.prog X.w) A (dictGet a (.str k tk)) Q E s:=by
 obtain ⟨o,es,ep,l,_,hd,_,_,hr⟩:=h;have ho:=I.kIn _ _ l;obtain ⟨hx,hf⟩:=gB (k:=k) hr;have J:Inv X pins σ H { s with toks:=s.toks+1 }:=I.tok _;unfold dictGet
 try with_reducible refine wpAny_holding ?_
 refine wpAny_bind (wpAny_pyHash_str (wpAny_bind ?_));refine KTD.kt_dictFind_strs (s:={ s with toks:=s.toks+1 }) ho hd (by obtain ⟨es'⟩:=es;simpa using hx) ?_
 have key:Q (findBy (fun k v=>v.isStr k) es k) { s with toks:=s.toks+1 }:=by
  have e:findBy (fun k v=>v.isStr k) es k=(es.toList.find? fun e=>e.key.isStr k).map (·.val):=by obtain ⟨es'⟩:=es;simp [findBy]
  rw [e];revert q hf
  cases (ks.zip vs).lookup k with
  |some v=>intro q hf;obtain ⟨u,e1,r⟩:=hf;rw [e1];exact q u _ r J
  |none=>intro q hf;rw [hf];exact q _ J
 rw [findBy_of_findIdx?] at key;revert key
 cases es.findIdx? fun e=>e.key.isStr k with
 |none=>exact fun key=>wpAny_pure key
 |some i=>exact fun key=>wpAny_bind (wpAny_dictEntries (s:={ s with toks:=s.toks+1 }) ho hd (wpAny_pure key))
theorem zjB {X:Cx} {pins:List (Addr×Obj)} {σ:L2.St} {H:Hp} {s:Shared} {a:Addr} {ks:List Str} {vs:List V} (I:Inv X pins σ H s) (h:KD X.K a ks vs):s.TypeIs (.ref a) "dict" := by
 obtain ⟨o,es,ep,l,hc,_⟩:=h;exact ⟨o,I.kIn _ _ l,hc.1⟩
theorem uX {K:yS} {H:Hp} {k:Str} {w:W}:∀ {ks:List Str} {ws:List W} {vs:List V},zF K H ws vs->(ks.zip ws).lookup k=some w->∃ v,(ks.zip vs).lookup k=some v/\wX K H w v
 | [],ws,vs,_,e=>by simp at e
 |x::ks,[],vs,_,e=>by simp at e
 |x::ks,y::ws,vs,r,e=>by
  obtain ⟨v,vs',rfl,rv,rs⟩:=r;rw [List.zip_cons_cons,List.lookup_cons] at e ⊢
  cases hx:(k==x) with
  |true=>rw [hx] at e;cases e;exact ⟨v,rfl,rv⟩
  |false=>rw [hx] at e;exact uX rs e
theorem pM {K:yS} {H:Hp} {k:Str}:∀ {ks:List Str} {ws:List W} {vs:List V},zF K H ws vs->(ks.zip ws).lookup k=none->(ks.zip vs).lookup k=none
 | [],ws,vs,_,e=>by simp
 |x::ks,[],vs,r,e=>by rw [show vs=[] from r];rfl
 |x::ks,y::ws,vs,r,e=>by
  obtain ⟨v,vs',rfl,rv,rs⟩:=r;rw [List.zip_cons_cons,List.lookup_cons] at e ⊢
  cases hx:(k==x) with
  |true=>rw [hx] at e;cases e
  |false=>rw [hx] at e;exact pM rs e
theorem zfG {X:Cx} {pins:List (Addr×Obj)} {σ:L2.St} {H:Hp} {s:Shared} {a:Addr} {ks:List Str} {vs:List V} {k:Str} {tk:Tok} {A:Around} {Q:Bool->Shared->Prop} {E:Value->Shared->Prop} (I:Inv X pins σ H s) (h:KD X.K a ks vs)
  (q:∀ s',Inv X pins σ H s'->Q ((ks.zip vs).lookup k).isSome s'):wpAny (model X.prog X.w) A (contains (.ref a) (.str k tk)) Q E s:=by
 have hT:=zjB I h;have hd:(a==sysModules)=false:=by obtain ⟨o,es,ep,l,_,_,_,z,_⟩:=h;exact z
 have nn:¬ ((some (Value.builtin "dict.__contains__")==some Value.none)=true):=by rw [beq_builtin_none];simp
 unfold contains;refine wpAny_holding (wpAny_bind (wpAny_specialOf hT PySem.F.slot_dict_contains.lookup ?_));dsimp only;rw [if_neg nn];refine wpAny_bind (wpAny_callSpecialUnlessNone?_slot (name:=Str.ofString "__contains__") hT PySem.F.slot_dict_contains (wpAny_call_entry PySem.F.slot_dict_contains hT PySem.F.entry_dict_contains (show wpAny _ _ (dictGet a (.str k tk) >>= _) _ _ s from wpAny_bind (zfH I h ?_)) (PySem.F.args_dict_contains_2 _ _)));revert q
 cases (ks.zip vs).lookup k with
 |some v=>exact fun q u s' r J=>wpAny_pure ⟨_,rfl,wpAny_truthy_bool (q s' J)⟩
 |none=>exact fun q s' J=>wpAny_bind (wpAny_pendingKey_other hd (wpAny_pure ⟨_,rfl,wpAny_truthy_bool (q s' J)⟩))
def eqG (G:Hw):W->W->Option Bool
 | .ref p,.ref q=>match yR G p,yR G q with
  |some a,some b=>if (wM a&&wM b&&decide (min (qO a) (qO b)<=150))=true then some (kR a b) else none
  |_,_=>none
 |x,y=>if (pur x&&pur y&&decide (min (dep x) (dep y)<=150))=true then some (wU x y) else none
def inR (neg:Bool) (x:W) (ws:List W) (G:Hw) (Q:Q3):Prop:=(pur x=true/\wM ws=true/\min (qO ws) (dep x)<=150)/\Q (.bl (if neg then !ws.any fun w=>wU w x else ws.any fun w=>wU w x)) G
def zg8 (neg:Bool) (i j:Str):Bool:=if neg then !(!(Builtin.Str.occurrences j i 0 j.length 1).isEmpty) else !(Builtin.Str.occurrences j i 0 j.length 1).isEmpty
def cK:W->Option xY
 | .int i=>some (.inl i)
 | .str x=>some (.inr x)
 |_=>none
def hasK {α:Type} (kvs:List (xY×α)) (k:xY):Bool:=kvs.any fun p=>decide (p.1=k)
def kY (neg:Bool):R3:=fun x y G Q=>match y with
 | .tup ws=>inR neg x ws G Q
 | .ref p=>(match G p with
  |some (.lst ws)=>inR neg x ws G Q
  |some (.fix ws)=>inR neg x ws G Q
  |some (.dic kvs)=>(match cK x with|some k=>Q (.bl (if neg then !hasK kvs k else hasK kvs k)) G|none=>False)
  |_=>False)
 | .str j=>(match x with
  | .str i=>Q (.bl (zg8 neg i j)) G
  |_=>False)
 | .dcf ks ws=>(match x with
  | .str k=>Q (.bl (if neg then !((ks.zip ws).lookup k).isSome else ((ks.zip ws).lookup k).isSome)) G
  |_=>False)
 |_=>False
def isR (neg:Bool):R3:=fun x y G Q=>match y with
 | .non=>Q (.bl (if neg then (match x with|.non=>false|_=>true) else (match x with|.non=>true|_=>false))) G
 | .bl b=>Q (.bl (if neg then (match x with|.bl c=>!(c==b)|_=>true) else (match x with|.bl c=>c==b|_=>false))) G
 |_=>False
def rP (p:Int->Int->Bool) (q:Option (Str->Str->Bool):=none):R3:=fun x y G Q=>match x,y with
 | .int i,.int j=>Q (.bl (p i j)) G
 | .str i,.str j=>(match q with
  |some q=>Q (.bl (q i j)) G
  |none=>False)
 |_,_=>False
def ltS (x y:Str):Bool:=decide (x.cps.toList<y.cps.toList)
def leS (x y:Str):Bool:=!decide (y.cps.toList<x.cps.toList)
def leR:R3:=fun x y G Q=>match x,y with
 | .int i,.int j=>Q (.bl (decide (i<=j))) G
 | .str i,.str j=>Q (.bl (leS i j)) G
 |_,_=>False
def yG:CmpOp->R3
 | .Eq=>fun x y G Q=>match eqG G x y with|some b=>Q (.bl b) G|none=>False
 | .NotEq=>fun x y G Q=>match eqG G x y with|some b=>Q (.bl (!b)) G|none=>False
 | .Is=>isR false
 | .IsNot=>isR true
 | .In=>kY false
 | .NotIn=>kY true
 | .Lt=>rP (fun i j=>decide (i<j)) (some ltS)
 | .LtE=>leR
 | .Gt=>rP fun i j=>decide (j<i)
 | .GtE=>rP fun i j=>decide (j<=i)
theorem rQ (p:Int->Int->Bool) (q:Option (Str->Str->Bool)):pG (rP p q):=by
 intro x y G Q Q' k h;cases q<;>cases x<;>cases y<;>simp only [rP] at h ⊢<;>first|exact h.elim|exact k _ _ h
theorem zeD:pG leR:=by
 intro x y G Q Q' k h;cases x<;>cases y<;>simp only [leR] at h ⊢<;>first|exact h.elim|exact k _ _ h
theorem cP (neg:Bool):pG (kY neg):=by
 intro x y G Q Q' k h;unfold kY at h ⊢
 cases y with
 |tup ws=>exact ⟨h.1,k _ _ h.2⟩
 |ref p =>
  simp only at h ⊢
  split at h
  .exact ⟨h.1,k _ _ h.2⟩
  .exact ⟨h.1,k _ _ h.2⟩
  .split at h
   .exact k _ _ h
   .exact h.elim
  .exact h.elim
 |str j =>
  cases x with
  |str i=>exact k _ _ h
  |_=>exact h.elim
 |dcf ks ws =>
  cases x with
  |str i=>exact k _ _ h
  |_=>exact h.elim
 |_=>exact h.elim
theorem zbh (neg:Bool):pG (isR neg):=by
 intro x y G Q Q' k h;unfold isR at h ⊢
 cases y with
 |non=>exact k _ _ h
 |bl b=>exact k _ _ h
 |_=>exact h.elim
theorem xU:∀ op,pG (yG op):=by
 intro op x y G Q Q' k h
 cases op with
 |Eq =>
  simp only [yG] at h ⊢
  split at h
  .exact k _ _ h
  .exact h.elim
 |NotEq =>
  simp only [yG] at h ⊢
  split at h
  .exact k _ _ h
  .exact h.elim
 |Is=>exact zbh false x y G Q Q' k h
 |IsNot=>exact zbh true x y G Q Q' k h
 |In=>exact cP false x y G Q Q' k h
 |NotIn=>exact cP true x y G Q Q' k h
 |Lt=>exact rQ (fun i j=>decide (i<j)) (some ltS) x y G Q Q' k h
 |LtE=>exact zeD x y G Q Q' k h
 |Gt=>exact rQ (fun i j=>decide (j<i)) none x y G Q Q' k h
 |GtE=>exact rQ (fun i j=>decide (j<=i)) none x y G Q Q' k h
section
variable {X : Cx} {pins : List (Addr × Obj)} {σ : L2.St} {H : Hp} {s : Shared}
open Classical in
def eqI (K:yS) (H:Hp) (x:W) (y:Value):Bool:=if ∃ w v,wX K H w v/\yY v y/\pur w=true/\wU w x=true then true else false
theorem zdf (I:Inv X pins σ H s) {x w:W} {v:V} {y:Value} (r:wX X.K H w v) (q:yY v y) (p:pur w=true):eqI X.K H x y=wU w x:=by
 unfold eqI
 cases e:wU w x with
 |true=>rw [if_pos ⟨w,v,r,q,p,e⟩]
 |false =>
  rw [if_neg];rintro ⟨w',v',r',q',p',e'⟩;have:=yY.inj q q';subst this;rw [zck I w' w v r' r p' p,e] at e';cases e'
theorem zdg (I:Inv X pins σ H s) {x:W}:∀ {ws:List W} {vs:List V} {us:List Value},zF X.K H ws vs->zA vs us->wM ws=true->us.any (eqI X.K H x)=ws.any fun w=>wU w x:=by
 intro ws
 induction ws with
 |nil=>intro vs us h r _;rw [show _=[] from h] at r;cases r;rfl
 |cons w ws ih =>
  intro vs us h r p;obtain ⟨v,t,e,h,hs⟩:=h;subst e
  cases r with
  |cons r rs =>
   have p':=wY.mp p;rw [List.any_cons,List.any_cons,zdf I h r p'.1,ih hs rs p'.2]
theorem zfP (I:Inv X pins σ H s) {x:W} {vx:V} {ux:Value} {A:Around} (rx:wX X.K H x vx) (qx:yY vx ux) (px:pur x=true):∀ {ws:List W} {vs:List V} {us:List Value},zF X.K H ws vs->zA vs us->wM ws=true->A.units+min (qO ws) (dep x)<cLine ->
  ∀ y∈us,EqAt A s y ux (eqI X.K H x y):=by
 intro ws
 induction ws with
 |nil=>intro vs us h r _ _ y hy;rw [show _=[] from h] at r;cases r;cases hy
 |cons w ws ih =>
  intro vs us h r p hu y hy;obtain ⟨v,t,e,h,hs⟩:=h;subst e;simp only [qO] at hu
  cases r with
  |cons r rs =>
   have p':=wY.mp p;rcases List.mem_cons.mp hy with e|hy
   .subst e;rw [zdf I h r p'.1];exact zfS I w x v vx _ ux A h r rx qx p'.1 px (by omega)
   .exact ih hs rs p'.2 (by omega) y hy
theorem zaF {M:Model} {A:Around} {E:Value->Shared->Prop} {Q:Value->Shared->Prop} {v:Value} {b:Bool} (hb:∀ p,v≠.builtin p) (h:Q (.bool (v==.bool b)) s):wpAny M A (compareOp .Is v (.bool b)) Q E s:=by
 cases v<;>first|exact wpAny_pure h|exact absurd rfl (hb _)
theorem fW {M:Model} {A:Around} {E:Value->Shared->Prop} {Q:Value->Shared->Prop} {v:Value} {b:Bool} (hb:∀ p,v≠.builtin p) (h:Q (.bool (!(v==.bool b))) s):wpAny M A (compareOp .IsNot v (.bool b)) Q E s:=by
 cases v<;>first|exact wpAny_pure h|exact absurd rfl (hb _)
theorem zfk {v:V} {u:Value} (r:yY v u):∀ p,u≠.builtin p:=by
 cases v<;>first
  | (obtain ⟨t,e⟩:=r;subst e;intro p z;cases z)
  | (intro p z;subst z;cases r)
theorem zjS (neg:Bool):kQ X (compareOp (if neg then .IsNot else .Is)) (rH X.K (isR neg)):=by
 intro pins s σ H v u a b Q I rv ru h;obtain ⟨x,y,G,rx,ry,ab,h⟩:=h;have fin:∀ k k':Bool,qE X.K H Q (.bl k) G->k=k'->EP X pins σ Q (.bool k') s:=fun k k' q e=>⟨.bl k',H,I,rfl,by rw [← e];exact q _ _ .refl rfl ab⟩
 cases y with
 |non =>
  cases ry;cases ru
  cases neg with
  |false =>
   refine is_none_gen (fin _ _ h ?_)
   cases x<;>first
    | (cases rx;cases rv;rfl)
    | (cases rx;obtain ⟨t,rfl⟩:=rv;rfl)
    | (obtain ⟨_,_,rfl,_⟩:=rx;cases rv;rfl)
  |true =>
   refine isnot_none_gen (fin _ _ h ?_)
   cases x<;>first
    | (cases rx;cases rv;rfl)
    | (cases rx;obtain ⟨t,rfl⟩:=rv;rfl)
    | (obtain ⟨_,_,rfl,_⟩:=rx;cases rv;rfl)
 |bl c =>
  cases ry;cases ru
  cases neg with
  |false =>
   refine zaF (zfk rv) (fin _ _ h ?_)
   cases x<;>first
    | (cases rx;cases rv;rfl)
    | (cases rx;cases rv;rename_i d;cases c<;>cases d<;>rfl)
    | (cases rx;obtain ⟨t,rfl⟩:=rv;rfl)
    | (obtain ⟨_,_,rfl,_⟩:=rx;cases rv;rfl)
  |true =>
   refine fW (zfk rv) (fin _ _ h ?_)
   cases x<;>first
    | (cases rx;cases rv;rfl)
    | (cases rx;cases rv;rename_i d;cases c<;>cases d<;>rfl)
    | (cases rx;obtain ⟨t,rfl⟩:=rv;rfl)
    | (obtain ⟨_,_,rfl,_⟩:=rx;cases rv;rfl)
 |_=>exact h.elim
theorem zeG {K:yS} {H:Hp} {y:W} {v:V} {k:xY} (r:wX K H y v) (h:cK y=some k):v=kV k:=by
 cases y<;>cases h<;>exact r
theorem zc6 {K:yS} {H:Hp} {k:xY}:∀ {l:List (xY×W)} {l':List (xY×V)},yQ K H l l'->(vP l' k).isSome=hasK l k
 | [],_,h=>by rw [show _=[] from h];rfl
 |p::r,_,⟨v,t,e,h,hr⟩=>by
  have ih:=zc6 (k:=k) hr;subst e;unfold vP hasK at ih ⊢;rw [List.find?_cons,List.any_cons]
  cases decide (p.1=k) with
  |true=>rfl
  |false=>exact ih
theorem nF (us:List Value) (e:Value->Bool):us.toArray.any e=us.any e:=by simp
theorem zfA (neg:Bool) (hu:X.A.units+200<cLine):kQ X (compareOp (if neg then .NotIn else .In)) (rH X.K (kY neg)):=by
 intro pins s σ H v u a b Q I rv ru h;obtain ⟨x,y,G,rx,ry,ab,h⟩:=h;have fin:∀ k:Bool,qE X.K H Q (.bl k) G->EP X pins σ Q (.bool k) s:=fun k q=>⟨.bl k,H,I,rfl,q _ _ .refl rfl ab⟩
 have sq:∀ (p:Addr) (ws:List W) (vs:List V) (its:List Value),zF X.K H ws vs->zA vs its->(s.heap.IsTuple p its.toArray\/s.heap.IsList p its.toArray)->inR neg x ws G (qE X.K H Q) ->
   wpAny (model X.prog X.w) X.A (compareOp (if neg then .NotIn else .In) a (.ref p)) (EP X pins σ Q) X.xe s:=fun p ws vs its rs vr ht hin=>by
  obtain ⟨⟨p1,p2,p3⟩,q⟩:=hin;have he:∀ y,y∈its.toArray->EqAt X.A.in1 s y a (eqI X.K H x y):=fun y hy=>zfP I rx rv p1 rs vr p2 (by show X.A.units+1+_<_;omega) y (by simpa using hy);have ea:=zdg I (x:=x) rs vr p2
  cases neg with
  |false =>
   rcases ht with ht|ht
   .exact in_tupleAt _ ht he (by rw [nF,ea];exact fin _ q)
   .exact in_listAt _ ht he (by rw [nF,ea];exact fin _ q)
  |true =>
   rcases ht with ht|ht
   .exact notIn_tupleAt _ ht he (by rw [nF,ea];exact fin _ q)
   .exact notIn_listAt _ ht he (by rw [nF,ea];exact fin _ q)
 cases y with
 |tup ws =>
  obtain ⟨b1,us,its',rfl,rfl,q',rs',vr',it',_⟩:=wE I ry ru;exact sq b1 ws us its' rs' vr' (.inl it') h
 |ref p =>
  cases ry;cases ru
  have lk:∀ ws,yR G p=some ws->inR neg x ws G (qE X.K H Q)->wpAny (model X.prog X.w) X.A (compareOp (if neg then .NotIn else .In) a (.ref p)) (EP X pins σ Q) X.xe s:=fun ws e q=>by
   obtain ⟨vs,its,_,rs,vr,il,_⟩:=zbf I ab e;exact sq p ws vs its rs vr (.inr il) q
  simp only [kY] at h
  split at h
  .rename_i ws e;exact lk ws (by unfold yR;rw [e]) h
  .rename_i ws e;exact lk ws (by unfold yR;rw [e]) h
  .rename_i kvs e
   split at h
   .rename_i kk ek;obtain ⟨l,e1,rk⟩:=ab.dic e;have ev:=zeG rx ek;subst ev;have hs:(vP l kk).isSome=hasK kvs kk:=zc6 rk;have dg:DGet H p (kV kk) (vP l kk):=.inl ⟨l,kk,.inl e1,rfl,rfl⟩
    cases neg with
    |false=>exact d_in (by omega) I dg rv fun s' I'=>⟨.bl (vP l kk).isSome,H,I',rfl,by rw [hs];exact h _ H .refl rfl ab⟩
    |true=>exact zhz (by omega) I dg rv fun s' I'=>⟨.bl (!(vP l kk).isSome),H,I',rfl,by rw [hs];exact h _ H .refl rfl ab⟩
   .exact h.elim
  .exact h.elim
 |str j =>
  cases x with
  |str i =>
   cases rx;cases ry
   cases neg with
   |false=>exact zcy pins s σ H _ _ _ _ Q I rv ru ⟨i,j,rfl,rfl,h _ _ .refl rfl ab⟩
   |true=>exact zac pins s σ H _ _ _ _ Q I rv ru ⟨i,j,rfl,rfl,h _ _ .refl rfl ab⟩
  |_=>exact h.elim
 |dcf ks ws =>
  cases x with
  |str k =>
   obtain ⟨a1,vs,rfl,kd,rs⟩:=ry;obtain rfl:b=Value.ref a1:=ru;cases rx;obtain ⟨tk,rfl⟩:=rv
   have hs:((ks.zip vs).lookup k).isSome=((ks.zip ws).lookup k).isSome:=by
    cases e:(ks.zip ws).lookup k with
    |none=>rw [pM rs e];rfl
    |some w=>obtain ⟨v,e',_⟩:=uX rs e;rw [e'];rfl
   cases neg with
   |false =>
    show wpAny _ _ (contains (.ref a1) (.str k tk) >>= fun z=>pure (Value.bool z)) _ _ _;exact wpAny_bind (zfG I kd fun s' J=>wpAny_pure ⟨.bl _,H,J,rfl,by rw [hs];exact h _ _ .refl rfl ab⟩)
   |true =>
    show wpAny _ _ (contains (.ref a1) (.str k tk) >>= fun z=>pure (Value.bool (!z))) _ _ _;exact wpAny_bind (zfG I kd fun s' J=>wpAny_pure ⟨.bl _,H,J,rfl,by rw [hs];exact h _ _ .refl rfl ab⟩)
  |_=>exact h.elim
 |_=>exact h.elim
theorem zcx {op:CmpOp} {p:Int->Int->Bool} {f:Option (Str->Str->Bool)} (ho:kQ X (compareOp op) (rI0 fun i j=>.bl (p i j)))
  (hq:∀ q,f=some q->∀ (i j:Str) (t t':Tok) (s:Shared) (Q:Value->Shared->Prop),Q (.bool (q i j)) s->wpAny (model X.prog X.w) X.A (compareOp op (.str i t) (.str j t')) Q X.xe s:=by (intro _ z;cases z)):kQ X (compareOp op) (rH X.K (rP p f)):=by
 intro pins s σ H v u a b Q I rv ru h;obtain ⟨x,y,G,rx,ry,ab,h⟩:=h
 cases x with
 |int i =>
  cases y with
  |int j=>cases rx;cases ry;exact ho pins s σ H _ _ _ _ Q I rv ru ⟨i,j,rfl,rfl,h _ _ .refl rfl ab⟩
  |_=>exact h.elim
 |str i =>
  cases y with
  |str j =>
   cases f with
   |none=>exact h.elim
   |some q =>
    cases rx;cases ry;obtain ⟨t,rfl⟩:=rv;obtain ⟨t',rfl⟩:=ru;exact hq q rfl i j t t' s _ ⟨.bl (q i j),H,I,rfl,h _ _ .refl rfl ab⟩
  |_=>exact h.elim
 |_=>exact h.elim
theorem le_ok:kQ X (compareOp .LtE) (rH X.K leR):=by
 intro pins s σ H v u a b Q I rv ru h;obtain ⟨x,y,G,rx,ry,ab,h⟩:=h
 cases x with
 |int i =>
  cases y with
  |int j=>cases rx;cases ry;exact op_le pins s σ H _ _ _ _ Q I rv ru ⟨i,j,rfl,rfl,h _ _ .refl rfl ab⟩
  |_=>exact h.elim
 |str i =>
  cases y with
  |str j =>
   cases rx;cases ry;obtain ⟨t,rfl⟩:=rv;obtain ⟨t',rfl⟩:=ru;exact PySem.P.le_str ⟨.bl (leS i j),H,I,rfl,h _ _ .refl rfl ab⟩
  |_=>exact h.elim
 |_=>exact h.elim
theorem zfR (I:Inv X pins σ H s) (hu:X.A.units+200<cLine) {G:Hw} {x y:W} {v v':V} {u u':Value} {b:Bool} (ab:xP X.K H G) (h:wX X.K H x v) (r:yY v u) (h':wX X.K H y v') (r':yY v' u') (e:eqG G x y=some b) :
  RcAt X.A s u u' b/\RcNeAt X.A s u u' (!b):=by
 have gen:∀ (hh:(if (pur x&&pur y&&decide (min (dep x) (dep y)<=150))=true then some (wU x y) else none)=some b),RcAt X.A s u u' b/\RcNeAt X.A s u u' (!b):=fun hh=>by
  split at hh
  .rename_i c;simp only [Bool.and_eq_true,decide_eq_true_eq] at c;cases hh;exact ziy I x y v v' u u' X.A h r h' r' c.1.1 c.1.2 (by omega)
  .cases hh
 cases x with
 |ref p =>
  cases y with
  |ref q =>
   simp only [eqG] at e
   split at e
   .rename_i a1 b1 e1 e2
    split at e
    .rename_i c;simp only [Bool.and_eq_true,decide_eq_true_eq] at c;cases e;cases h;cases h';cases r;cases r';exact ziz I ab e1 e2 c.1.1 c.1.2 (by omega)
    .cases e
   .cases e
  |_=>exact gen e
 |_=>cases y<;>exact gen e
theorem jD (hu:X.A.units+200<cLine) (op:CmpOp):kQ X (compareOp op) (rH X.K (yG op)):=by
 cases op with
 |Eq =>
  intro pins s σ H v u a b Q I rv ru h;obtain ⟨x,y,G,rx,ry,ab,h⟩:=h;simp only [yG] at h
  split at h
  .rename_i k e;exact (zfR I hu ab rx rv ry ru e).1 _ _ _ _ ⟨.bl k,H,I,rfl,h _ _ .refl rfl ab⟩
  .exact h.elim
 |NotEq =>
  intro pins s σ H v u a b Q I rv ru h;obtain ⟨x,y,G,rx,ry,ab,h⟩:=h;simp only [yG] at h
  split at h
  .rename_i k e;exact (zfR I hu ab rx rv ry ru e).2 _ _ _ _ ⟨.bl (!k),H,I,rfl,h _ _ .refl rfl ab⟩
  .exact h.elim
 |Is=>exact zjS false
 |IsNot=>exact zjS true
 |In=>exact zfA false hu
 |NotIn=>exact zfA true hu
 |Lt=>exact zcx (f:=some ltS) op_lt fun q e i j t t' s Q z=>by cases e;exact lt_str z
 |LtE=>exact le_ok
 |Gt=>exact zcx (f:=none) op_gt
 |GtE=>exact zcx (f:=none) op_ge
end
end L3
namespace L3
open PySem PySem.Spec PyProof.Rows L2 HT
section
variable {prog : Program} {w : World} {A : Around} {E : Value → Shared → Prop} {s : Shared}
theorem zc9 {t sl:Addr} {items:Array Value} {vl vu:Value} {lo hi:Option Int} {Q:Value->Shared->Prop} (ht:IsTup s.heap t items) (hs:s.heap.IsSliceOf sl vl vu .none) (pl:IsPart vl lo) (pu:IsPart vu hi)
  (hw:wH items.size 0 lo=0/\wH items.size items.size hi=items.size) (h:Q (.ref t) s):wpAny (model prog w) A (getItem (.ref t) (.ref sl)) Q E s:=by
 obtain ⟨os,hos,hcs,hds⟩:=id hs;have hTs:s.TypeIs (.ref sl) "slice" := ⟨os,hos,hcs⟩;unfold getItem
 try with_reducible refine wpAny_holding ?_
 first|refine wpAny_bind (wpAny_pure ?_)|skip
 refine wpAny_bind (wpAny_sequenceKey ht.typeIs (by decide) ?_)
 refine wpAny_bind (wpAny_callSpecial?_slot (name:=Str.ofString "__getitem__") ht.typeIs PyProof.Rows.slot_tuple_getitem
  (wpAny_call_entry PyProof.Rows.slot_tuple_getitem ht.typeIs entry_tuple_getitem ?_ (args_tuple_getitem _ _)))
 show wpAny _ _ (Builtin.Tuple.tupleItemsOf (.ref t) >>= _) _ _ s;refine wpAny_bind (tupleItemsOf_ ht ?_);refine wpAny_bind (wpAny_typeOf hTs ?_);rw [if_pos (by decide)];refine wpAny_bind (kZ hs pl pu ?_)
 have yes:(((wH items.size 0 lo:Nat):Int)==0&&(1:Int)==1&&(wH items.size items.size hi-wH items.size 0 lo)==items.size)=true:=by
  rw [hw.1,hw.2];simp
 show wpAny _ _ (if (((wH items.size 0 lo:Nat):Int)==0&&(1:Int)==1&&(wH items.size items.size hi-wH items.size 0 lo)==items.size)=true then _ else _) _ _ s;rw [if_pos yes];refine wpAny_bind (m:=Builtin.Tuple.tupleIsExact (.ref t)) ?_;unfold Builtin.Tuple.tupleIsExact;refine wpAny_bind (wpAny_typeOf ht.typeIs (wpAny_pure ?_));rw [if_pos (by decide)];exact wpAny_bind (wpAny_rule (wpAny_pure ⟨_,rfl,wpAny_pure h⟩))
end
section
variable {X : Cx}
def rSlW (K:yS):V->Option Int->Option Int->Hp->VK->Prop:=fun x lo hi H Q=>∃ a xs,x=.ref a/\rY K H a xs/\(HT.wH xs.length 0 lo=0/\HT.wH xs.length xs.length hi=xs.length)/\Q (.ref a) H
theorem zd6:SlR X (rSlW X.K):=by
 intro pins s σ H x v vl vu lo hi sl Q I rx hs pl pu h;obtain ⟨a,xs,rfl,hx,hw,q⟩:=h;cases rx;obtain ⟨its,r,ht,hz⟩:=I.tuple hx;have hlen:its.toArray.size=xs.length:=by rw [zzS];exact r.length.symm
 exact ⟨"tuple", _,PyProof.Rows.slot_tuple_getitem.lookup,ht.typeIs,zc9 ht hs pl pu (by rw [hlen];exact hw) ⟨.ref a,H,I,rfl,q⟩⟩
end
end L3
namespace L3
open PySem PySem.Spec PyProof.Rows L2 PySem.SeqAt
def jU (G:Hw):W->Option Bool
 | .non=>some false
 | .bl b=>some b
 | .int i=>some (i != 0)
 | .str y=>if y.length<=sizeLine then some ((y.length:Int) != 0) else none
 | .tup ws=>some (!ws.isEmpty)
 | .ref p=>match G p with
  |some (.lst ws)=>some (!ws.isEmpty)
  |some (.fix ws)=>some (!ws.isEmpty)
  |some (.dic kvs)=>some (!kvs.isEmpty)
  |_=>none
 |_=>none
theorem zF.empty {K:yS} {H:Hp} {ws:List W} {vs:List V} (h:zF K H ws vs):vs.isEmpty=ws.isEmpty:=by
 have:=h.length;cases ws<;>cases vs<;>simp_all
theorem yQ.length {K:yS} {H:Hp} {κ:Type}:∀ {l:List (κ×W)} {l':List (κ×V)},yQ K H l l'->l'.length=l.length
 | [],_,h=>by rw [show _=[] from h];rfl
 |_::_,_,⟨v,t,e,_,r⟩=>by rw [e,List.length_cons,List.length_cons,yQ.length r]
theorem zf4 {K:yS} {H:Hp} {G:Hw} {w:W} {v:V} {k:Bool} (r:wX K H w v) (ab:xP K H G) (h:jU G w=some k):TruV K v H k:=by
 cases w with
 |non=>cases r;cases h;rfl
 |bl b=>cases r;cases h;rfl
 |int i=>cases r;cases h;rfl
 |str y =>
  cases r;simp only [jU] at h
  split at h
  .rename_i c;cases h;exact ⟨c,rfl⟩
  .cases h
 |ty n=>cases h
 |lsf n=>cases h
 |exc _ _ _=>cases h
 |dcf _ _=>cases h
 |tup ws =>
  obtain ⟨a,vs,rfl,q,rs⟩:=r;cases h;exact .inr (.inl ⟨vs,q,by rw [rs.empty]⟩)
 |ref p =>
  cases r
  have lk:∀ ws,yR G p=some ws->k=!ws.isEmpty->TruV K (.ref p) H k:=fun ws e q=>by
   obtain ⟨vs,sq,rs⟩:=ab.seq e;exact .inl ⟨vs,sq,by rw [rs.empty];exact q⟩
  simp only [jU] at h
  split at h
  .rename_i ws e;cases h;exact lk ws (by unfold yR;rw [e]) rfl
  .rename_i ws e;cases h;exact lk ws (by unfold yR;rw [e]) rfl
  .rename_i kvs e;cases h;obtain ⟨l,e',rk⟩:=ab.dic e;refine .inr (.inr ⟨l,e',?_⟩);have:=rk.length;cases kvs<;>cases l<;>simp_all
  .cases h
def dget {α:Type} (kvs:List (xY×α)) (k:xY):Option α:=(kvs.find? fun kv=>decide (kv.1=k)).map (·.2)
def dP {α:Type} (kvs:List (xY×α)) (k:xY) (v:α):List (xY×α) :=
 if (kvs.any fun kv=>decide (kv.1=k))=true then kvs.map (fun kv=>if kv.1=k then (kv.1,v) else kv) else kvs++[(k,v)]
theorem yQ.get {K:yS} {H:Hp} {k:xY} {w:W}:∀ {l:List (xY×W)} {l':List (xY×V)},yQ K H l l'->dget l k=some w->∃ v,vP l' k=some v/\wX K H w v
 | [],_,h,e=>by cases e
 |p::r,_,⟨v,t,e,h,hr⟩,q=>by
  subst e;unfold dget at q;rw [List.find?_cons] at q;unfold vP;rw [List.find?_cons]
  by_cases hk:p.1=k
  .simp only [hk,decide_true] at q ⊢;cases q;exact ⟨v,rfl,h⟩
  .simp only [hk,decide_false] at q ⊢;exact yQ.get hr q
theorem yQ.any {K:yS} {H:Hp} {k:xY}:∀ {l:List (xY×W)} {l':List (xY×V)},yQ K H l l'->(l'.any fun kv=>decide (kv.1=k))=l.any fun kv=>decide (kv.1=k)
 | [],_,h=>by rw [show _=[] from h];rfl
 |p::r,_,⟨v,t,e,h,hr⟩=>by subst e;rw [List.any_cons,List.any_cons,yQ.any hr]
theorem yQ.app {K:yS} {H:Hp} {κ:Type}:∀ {l:List (κ×W)} {l':List (κ×V)} {m:List (κ×W)} {m':List (κ×V)},yQ K H l l'->yQ K H m m'->yQ K H (l++m) (l'++m')
 | [],_,_,_,h,h'=>by rw [show _=[] from h];exact h'
 |p::r,_,_,_,⟨v,t,e,h,hr⟩,h'=>by rw [e];exact ⟨v,_,rfl,h,yQ.app hr h'⟩
theorem yQ.repl {K:yS} {H:Hp} {k:xY} {w:W} {v:V} (q:wX K H w v):∀ {l:List (xY×W)} {l':List (xY×V)},yQ K H l l' ->
  yQ K H (l.map fun kv=>if kv.1=k then (kv.1,w) else kv) (l'.map fun kv=>if kv.1=k then (kv.1,v) else kv)
 | [],_,h=>by rw [show _=[] from h];rfl
 |p::r,_,⟨u,t,e,h,hr⟩=>by
  subst e;rw [zzU,zzU]
  by_cases hk:p.1=k
  .simp only [hk,if_true];exact ⟨v,_,rfl,q,yQ.repl q hr⟩
  .simp only [hk,if_false];exact ⟨u,_,rfl,h,yQ.repl q hr⟩
theorem yQ.put {K:yS} {H:Hp} {k:xY} {w:W} {v:V} {l:List (xY×W)} {l':List (xY×V)} (h:yQ K H l l') (q:wX K H w v):yQ K H (dP l k w) (vO l' k v):=by
 unfold dP vO;rw [h.any]
 split
 .exact yQ.repl q h
 .exact h.app ⟨v,[],rfl,q,rfl⟩
theorem zcU {K:yS} {H:Hp} {y:W} {v:V} {k:xY} (r:wX K H y v) (h:cK y=some k):v=kV k:=by
 cases y<;>first|(cases h;cases r;rfl)|cases h
theorem ix_kd {X:Cx} {value slice:PySem.Expr} {pins:List (Addr×Obj)} {s:Shared} {σ:L2.St} {H:Hp} {a:Addr} {u:Value} {ks:List Str} {vs:List V} {k:Str} {v:V} {Q:VK} (I:Inv X pins σ H s) (h:KD X.K a ks vs) (ry:yY (.str k) u) (e:(ks.zip vs).lookup k=some v) (q:Q v H)
  (hs:subscripted slice false (.ref a) u=operate [.ref a,u] (getItem (.ref a) u)):wpAny (model X.prog X.w) X.A (subscriptTail value slice (.ref a) u) (EP X pins σ Q) X.xe s:=by
 have hT:=zjB I h;obtain ⟨tk,rfl⟩:=ry;refine tail_any hT PySem.F.slot_dict_getitem.lookup ?_ hs;unfold getItem
 try with_reducible refine wpAny_holding ?_
 refine wpAny_bind (wpAny_sequenceKey hT (by decide) (wpAny_bind ?_));refine wpAny_callSpecial?_slot (name:=Str.ofString "__getitem__") hT PySem.F.slot_dict_getitem (wpAny_call_entry PySem.F.slot_dict_getitem hT PySem.F.entry_dict_getitem ?_ (PySem.F.args_dict_getitem_2 _ _));show wpAny _ _ (dictGet a (.str k tk) >>= _) _ _ s;refine wpAny_bind (zfH I h ?_);rw [e];exact fun u s' r J=>wpAny_pure ⟨u,rfl,wpAny_pure ⟨v,H,J,r,q⟩⟩
def kM:R3:=fun x y G Q=>match x,y with
 | .tup ws,.int i=>(match kK ws i with|some w=>Q w G|none=>False)
 | .str z,.int i=>z.length<=sizeLine/\(match kK z.cps.toList i with|some c=>Q (.str ⟨#[c]⟩) G|none=>False)
 | .ref p,y=>(match G p with
  |some (.lst ws)=>(match y with|.int i=>(match kK ws i with|some w=>Q w G|none=>False)|_=>False)
  |some (.fix ws)=>(match y with|.int i=>(match kK ws i with|some w=>Q w G|none=>False)|_=>False)
  |some (.dic kvs)=>(match cK y with|some k=>(match dget kvs k with|some w=>Q w G|none=>False)|none=>False)
  |_=>False)
 | .dcf ks ws,.str k=>(match (ks.zip ws).lookup k with|some w=>Q w G|none=>False)
 |_,_=>False
theorem zdF {K:yS} {H:Hp} {ws:List W} {vs:List V} {i:Int} {w:W} (h:zF K H ws vs) (e:kK ws i=some w):∃ v,kK vs i=some v/\wX K H w v:=by
 unfold kK at e ⊢;rw [h.length]
 cases q:nK ws.length i with
 |none=>rw [q] at e;cases e
 |some j =>
  rw [q] at e;exact h.get e
theorem zbg:pG kM:=by
 intro x y G Q Q' k h
 cases x with
 |tup ws =>
  cases y<;>simp only [kM] at h ⊢<;>first
   |exact h.elim
   | (split at h<;>first|exact k _ _ h|exact h.elim)
 |str z =>
  cases y<;>simp only [kM] at h ⊢<;>first
   |exact h.elim
   | (refine ⟨h.1,?_⟩;have h:=h.2;split at h<;>first|exact k _ _ h|exact h.elim)
 |ref p =>
  simp only [kM] at h ⊢
  split at h
  .cases y<;>simp only at h ⊢<;>first
    |exact h.elim
    | (split at h<;>first|exact k _ _ h|exact h.elim)
  .cases y<;>simp only at h ⊢<;>first
    |exact h.elim
    | (split at h<;>first|exact k _ _ h|exact h.elim)
  .split at h
   .split at h
    .exact k _ _ h
    .exact h.elim
   .exact h.elim
  .exact h.elim
 |dcf ks ws =>
  cases y<;>simp only [kM] at h ⊢<;>first
   |exact h.elim
   | (split at h<;>first|exact k _ _ h|exact h.elim)
 |_=>exact h.elim
section
variable {X : Cx}
theorem zjH (hu:X.A.units+200<cLine) {value slice:PySem.Expr} {pins:List (Addr×Obj)} {s:Shared} {σ:L2.St} {H:Hp} {a:Addr} {u:Value} {y v:V} {Q:VK} (I:Inv X pins σ H s) (g:DGet H a y (some v)) (hd:IsD H a) (ry:yY y u) (q:Q v H)
  (hs:subscripted slice false (.ref a) u=operate [.ref a,u] (getItem (.ref a) u)):wpAny (model X.prog X.w) X.A (subscriptTail value slice (.ref a) u) (EP X pins σ Q) X.xe s:=by
 exact tail_any (zjU I hd).1 PySem.F.slot_dict_getitem.lookup (zdq (by omega) I g ry fun w' s' I' r'=>⟨v,H,I',r',q⟩) hs
theorem ix_ok (hu:X.A.units+200<cLine):IxR X (rH X.K kM):=by
 intro value slice pins s σ H v u a b Q I rv ru h hs;obtain ⟨x,y,G,rx,ry,ab,h⟩:=h
 cases x with
 |tup ws =>
  cases y with
  |int i =>
   obtain ⟨a1,vs,rfl,q,rs⟩:=rx;cases ry;simp only [kM] at h
   split at h
   .rename_i w e;obtain ⟨vv,ev,rp⟩:=zdF rs e;exact zjF value slice pins s σ H _ _ _ _ Q I rv ru ⟨a1,vs,i,vv,rfl,rfl,q,ev,h _ _ .refl rp ab⟩ hs
   .exact h.elim
  |_=>exact h.elim
 |str z =>
  cases y with
  |int i =>
   cases rx;cases ry;simp only [kM] at h;obtain ⟨hz,h⟩:=h
   split at h
   .rename_i c e;exact zjG value slice pins s σ H _ _ _ _ Q I rv ru ⟨z,i,c,rfl,rfl,hz,e,h _ _ .refl rfl ab⟩ hs
   .exact h.elim
  |_=>exact h.elim
 |ref p =>
  cases rx
  have lk:∀ ws i w,yR G p=some ws->y=.int i->kK ws i=some w->qE X.K H Q w G->wpAny (model X.prog X.w) X.A (subscriptTail value slice a b) (EP X pins σ Q) X.xe s:=fun ws i w e ey ew q=>by
   subst ey;obtain ⟨vs,sq,rs⟩:=ab.seq e;obtain ⟨vv,ev,rp⟩:=zdF rs ew;cases ry;exact zgU value slice pins s σ H _ _ _ _ Q I rv ru ⟨p,vs,i,vv,rfl,rfl,sq,ev,q _ _ .refl rp ab⟩ hs
  simp only [kM] at h
  split at h
  .rename_i ws e
   cases y with
   |int i =>
    simp only at h
    split at h
    .rename_i w ew;exact lk ws i w (by unfold yR;rw [e]) rfl ew h
    .exact h.elim
   |_=>exact h.elim
  .rename_i ws e
   cases y with
   |int i =>
    simp only at h
    split at h
    .rename_i w ew;exact lk ws i w (by unfold yR;rw [e]) rfl ew h
    .exact h.elim
   |_=>exact h.elim
  .rename_i kvs e
   split at h
   .rename_i k ek
    split at h
    .rename_i w ew;obtain ⟨l,e',rk⟩:=ab.dic e;obtain ⟨vv,ev,rp⟩:=rk.get ew;have ey:=zcU ry ek;subst ey;obtain rfl:a=Value.ref p:=rv;exact zjH hu I (.inl ⟨l,k,.inl e',rfl,ev.symm⟩) (.inl ⟨l,.inl e'⟩) ru (h _ _ .refl rp ab) hs
    .exact h.elim
   .exact h.elim
  .exact h.elim
 |dcf ks ws =>
  cases y with
  |str k =>
   obtain ⟨a1,vs,rfl,kd,rs⟩:=rx;obtain rfl:a=Value.ref a1:=rv;cases (show u=.str k from ry);simp only [kM] at h
   split at h
   .rename_i w e;obtain ⟨vv,ev,rp⟩:=uX rs e;exact ix_kd I kd ru ev (h _ _ .refl rp ab) hs
   .exact h.elim
  |_=>exact h.elim
 |_=>exact h.elim
end
def fH {α:Type} (xs:List α) (lo hi:Option Int):List α:=(xs.drop (HT.wH xs.length 0 lo)).take (HT.wH xs.length xs.length hi-HT.wH xs.length 0 lo)
theorem zaL {K:yS} {H:Hp} {ws:List W} {vs:List V} (h:zF K H ws vs) (lo hi:Option Int):zF K H (fH ws lo hi) (cutV vs lo hi):=by
 unfold fH cutV;rw [h.length];exact (h.drop _).take _
def slR:W->Option Int->Option Int->Hw->Q3->Prop:=fun x lo hi G Q=>match x with
 | .tup ws=>Q (.tup (fH ws lo hi)) G
 | .ref p=>(match yR G p with|some ws=>∀ r,G r=none->Q (.ref r) (put G r (.lst (fH ws lo hi)))|none=>False)
 | .lsf ws=>∀ r,G r=none->Q (.ref r) (put G r (.lst (fH ws lo hi)))
 | .str x=>x.length<=sizeLine/\Q (.str (Txt.slice x lo hi)) G
 |_=>False
theorem za0 {x:W} {lo hi:Option Int} {G:Hw} {Q Q':Q3} (k:∀ w G',Q w G'->Q' w G') (h:slR x lo hi G Q):slR x lo hi G Q':=by
 cases x with
 |tup ws=>exact k _ _ h
 |ref p =>
  simp only [slR] at h ⊢
  split at h
  .exact fun r hr=>k _ _ (h r hr)
  .exact h.elim
 |lsf ws=>exact fun r hr=>k _ _ (h r hr)
 |str x=>exact ⟨h.1,k _ _ h.2⟩
 |_=>exact h.elim
theorem zij {X:Cx} {pins:List (Addr×Obj)} {s:Shared} {σ:L2.St} {H:Hp} {x:Str} {v vl vu:Value} {lo hi:Option Int} {sl:Addr} {Q:VK} (I:Inv X pins σ H s) (rv:yY (.str x) v) (hs:s.heap.IsSliceOf sl vl vu .none)
  (pl:IsPart vl lo) (pu:IsPart vu hi) (hz:x.length<=sizeLine) (q:Q (.str (Txt.slice x lo hi)) H):∃ T id,typeLookup (.type T) "__getitem__" = pure (some (.builtin id))/\s.TypeIs v T/\wpAny (model X.prog X.w) X.A (getItem v (.ref sl)) (EP X pins σ Q) X.xe s:=by
 obtain ⟨t,rfl⟩:=rv;have fin:∀ t' k,0<k->EP X pins σ Q (.str (Txt.slice x lo hi) t') { s with toks:=k }:=fun t' k h0=>⟨.str (Txt.slice x lo hi),H,I.tok _ h0,⟨t',rfl⟩,q⟩;have hz':=Nat.le_trans (Txt.slice_le x lo hi) hz;refine ⟨"str", _,F.slot_str_getitem.lookup,typeIs_str _ _ _,?_⟩;obtain ⟨o,ho,hc,hd⟩:=hs
 cases pl with
 |none =>
  cases pu with
  |none=>exact jO I.tk (wpAny_getItem_str_slice (l:=none) (u:=none) (st:=none) ⟨o,ho,hc,hd⟩ rfl (post_val_or_str ⟨hz',fin⟩))
  |int j tj=>exact jO I.tk (wpAny_getItem_str_slice (l:=none) (u:=some (j,tj)) (st:=none) ⟨o,ho,hc,hd⟩ rfl (post_val_or_str ⟨hz',fin⟩))
 |int i ti =>
  cases pu with
  |none=>exact jO I.tk (wpAny_getItem_str_slice (l:=some (i,ti)) (u:=none) (st:=none) ⟨o,ho,hc,hd⟩ rfl (post_val_or_str ⟨hz',fin⟩))
  |int j tj=>exact jO I.tk (wpAny_getItem_str_slice (l:=some (i,ti)) (u:=some (j,tj)) (st:=none) ⟨o,ho,hc,hd⟩ rfl (post_val_or_str ⟨hz',fin⟩))
def lowSl (K:yS) (r:W->Option Int->Option Int->Hw->Q3->Prop):V->Option Int->Option Int->Hp->VK->Prop:=fun v lo hi H Q=>∃ x G,wX K H x v/\xP K H G/\r x lo hi G (qE K H Q)
theorem sl_ok {X:Cx}:SlR X (lowSl X.K slR):=by
 intro pins s σ H v u vl vu lo hi sl Q I rv hs pl pu h;obtain ⟨x,G,rx,ab,h⟩:=h
 cases x with
 |tup ws =>
  obtain ⟨a,vs,rfl,q,rs⟩:=rx
  by_cases hw:HT.wH vs.length 0 lo=0/\HT.wH vs.length vs.length hi=vs.length
  .have e:fH ws lo hi=ws:=by
    have hw':=hw;rw [rs.length] at hw';unfold fH;rw [hw'.1,hw'.2,List.drop_zero,Nat.sub_zero,List.take_length]
   have h':qE X.K H Q (.tup (fH ws lo hi)) G:=h;rw [e] at h';exact zd6 pins s σ H _ _ vl vu lo hi sl Q I rv hs pl pu ⟨a,vs,rfl,q,hw,h' _ _ .refl ⟨a,vs,rfl,q,rs⟩ ab⟩
  .exact zii pins s σ H _ _ vl vu lo hi sl Q I rv hs pl pu ⟨a,vs,rfl,q,hw,nP ab (zaL rs lo hi) h⟩
 |ref p =>
  cases rx;simp only [slR] at h
  split at h
  .rename_i ws e;obtain ⟨vs,sq,rs⟩:=ab.seq e;exact zcb pins s σ H _ _ vl vu lo hi sl Q I rv hs pl pu ⟨p,vs,rfl,sq,qM ab (zaL rs lo hi) h⟩
  .exact h.elim
 |lsf ws =>
  obtain ⟨a,vs,rfl,q,rs⟩:=rx;exact zcb pins s σ H _ _ vl vu lo hi sl Q I rv hs pl pu ⟨a,vs,rfl,.inr q,qM ab (zaL rs lo hi) h⟩
 |str x =>
  cases (show v=.str x from rx);exact zij I rv hs pl pu h.1 (h.2 _ _ .refl rfl ab)
 |_=>exact h.elim
def setR:W->W->W->Hw->(Hw->Prop)->Prop:=fun o i v G Q=>match o with
 | .ref p=>(match G p with
  |some (.lst ws)=>(match i with|.int k=>(match nK ws.length k with|some j=>Q (put G p (.lst (ws.set j v)))|none=>False)|_=>False)
  |some (.dic kvs)=>(match cK i with|some k=>kvs.length<sizeLine/\Q (put G p (.dic (dP kvs k v)))|none=>False)
  |_=>False)
 |_=>False
theorem zcc {o i v:W} {G:Hw} {Q Q':Hw->Prop} (k:∀ G',Q G'->Q' G') (h:setR o i v G Q):setR o i v G Q':=by
 cases o with
 |ref p =>
  simp only [setR] at h ⊢
  split at h
  .cases i<;>simp only at h ⊢<;>first
    |exact h.elim
    | (split at h<;>first|exact k _ h|exact h.elim)
  .split at h
   .exact ⟨h.1,k _ h.2⟩
   .exact h.elim
  .exact h.elim
 |_=>exact h.elim
def zfB (K:yS):TSet:=fun o i v H Q=>∃ x y z G,wX K H x o/\wX K H y i/\wX K H z v/\xP K H G/\setR x y z G fun G'=>∀ H',yM K H H'->xP K H' G'->Q H'
theorem zik {X:Cx} (hu:X.A.units+200<cLine):PSet X (zfB X.K):=by
 intro pins s σ H o i v ov iv u Q I ro ri rv h;obtain ⟨x,y,z,G,rx,ry,rz,ab,h⟩:=h
 cases x with
 |ref p =>
  cases rx;simp only [setR] at h
  split at h
  .rename_i ws e
   cases y with
   |int k =>
    simp only at h
    split at h
    .rename_i j ej;cases ry;obtain ⟨vs,q1,r1⟩:=ab.lst e;refine zd8 pins s σ H _ _ _ _ _ _ Q I ro ri rv ⟨p,vs,k,j,rfl,rfl,q1,by rw [r1.length];exact ej,?_⟩;have g:=ab.grow (u:=.lst (vs.set j v)) e;exact h _ g (ab.chg e ⟨_,rfl,((r1.mono g).set (rz.mono g) j)⟩)
    .exact h.elim
   |_=>exact h.elim
  .rename_i kvs e
   split at h
   .rename_i k ek;obtain ⟨l,e',rk⟩:=ab.dic e;have ey:=zcU ry ek;subst ey;obtain rfl:ov=Value.ref p:=ro;refine zdp (by omega) I (.inl ⟨l,k,e',rfl,by rw [rk.length];exact h.1,rfl⟩) ri rv fun s' I'=>⟨_,I',?_⟩;have g:=ab.grow (u:=.dK (vO l k v)) e;exact h.2 _ g (ab.chg e ⟨_,rfl,(rk.mono g).put (rz.mono g)⟩)
   .exact h.elim
  .exact h.elim
 |_=>exact h.elim
end L3
namespace L3
open PySem PySem.Spec PyProof.Rows L2
abbrev XQ:=Str->List (Str×W)->Hw->Prop
def XN:XQ:=fun _ _ _=>False
abbrev sC:=List W->Hw->Q3->XQ->Prop
structure Fn3 where
 nm:Str
 sp:sC
structure Mt3 where
 nm:Str
 T:String
 sp:W->List W->Hw->Q3->Prop
abbrev I3:=wI->Hw->(List W->(Hw->Prop)->Hw->Prop)->Prop
structure It3 where
 nm:Str
 sp:List W->Hw->(List W->(Hw->Prop)->Hw->Prop)->Prop
structure Sx3 where
 m:Scope->Expr->Option (List Expr)
 sp:List W->Hw->Q3->Prop
structure Ix3 where
 m:Scope->Expr->Option (List Expr)
 sp:List W->Hw->(List W->(Hw->Prop)->Hw->Prop)->Prop
structure Ctx3 where
 fn:List Fn3
 gl:List (Str×W)
 mt:List Mt3
 it:List It3
 cl:List (Addr×List Str)
 sx:List Sx3
 ix:List Ix3
set_option genInjectivity false
mutual
inductive IE where
 |var (i:Nat)|con (c:Const)|glb (i:Nat)
 |bin (op:Operator) (a b:IE)|neg (a:IE)|not (a:IE)
 |cmp (op:CmpOp) (a b:IE)|chn (o1 o2:CmpOp) (a b c:IE)
 |and (a b:IE)|or (a b:IE)|ite (c a b:IE)
 |ix (a i:IE)|sl (a:IE) (lo hi:IO)
 |tup (es:IEs)|lst (es:IEs)|dct (ks:List Str) (es:IEs)
 |call (f:Nat) (es:IEs)|mth (m:Nat) (o:IE) (es:IEs)|att (o:IE) (f:Str)
 |lc (tg:ITg) (names:List Str) (caps:List Nat) (it:II) (c:IO) (elt:IE)
 |spc (i:Nat) (es:IEs)|ch3 (o1 o2 o3:CmpOp) (a b c d:IE)
inductive IO where
 |no|yes (e:IE)
inductive IEs where
 |nil|cons (e:IE) (es:IEs)
inductive II where
 |val (e:IE)|blt (i:Nat) (es:IEs)|spc (i:Nat) (es:IEs)
inductive ITg where
 |nm (i:Nat)|tup (ts:ITgs)
inductive ITgs where
 |nil|cons (t:ITg) (ts:ITgs)
end
mutual
inductive IS where
 |asg (i:Nat) (e:IE)|asgT (ts:ITgs) (e:IE)|asgI (o i e:IE)|asgA (o:IE) (f:Str) (e:IE)
 |ex (e:IE)|ret (e:IE)|retN|pass|brk|cnt
 |ite (c:IE) (a b:ISs)|whl (c:IE) (b:ISs)|for (tg:ITg) (it:II) (b:ISs)|dead|asgS (i j:Nat) (e:IE)
inductive ISs where
 |nil|cons (s:IS) (ss:ISs)
end
def zL:Const->Option W
 | .none=>some .non
 | .bool b=>some (.bl b)
 | .int i=>some (.int i)
 | .str x=>some (.str x)
 |_=>none
abbrev G3:=W->wI->Hw->(wI->Hw->Prop)->Prop
abbrev Gs3:=List W->wI->Hw->(wI->Hw->Prop)->Prop
mutual
def zV:ITg->G3
 | .nm i=>fun w σ G Q=>Q (σ.set i (some w)) G
 | .tup ts=>fun w σ G Q=>match w with
  | .tup ws=>zY ts ws σ G Q
  |_=>False
def zY:ITgs->Gs3
 | .nil=>fun ws σ G Q=>match ws with | []=>Q σ G|_=>False
 | .cons t ts=>fun ws σ G Q=>match ws with
  |w::r=>zV t w σ G fun σ' G'=>zY ts r σ' G' Q
  | []=>False
end
def unl (G:Hw) (w:W):W:=match w with
 | .ref p=>(match yR G p with|some ws=>.tup ws|none=>.ref p)
 |w=>w
def pZ (k:Nat) (caps:List Nat) (σ:wI):wI:=List.replicate k none++caps.map fun j=>(σ[j]?).join
def sgs (x:Str):List W:=x.cps.toList.map fun c=>.str ⟨#[c]⟩
def kW:xY->W
 | .inl i=>.int i
 | .inr x=>.str x
def zdn (G:Hw) (p:Addr):Option (List (xY×W)):=match G p with
 |some (.dic kvs)=>some kvs
 |some (.fzd kvs)=>some kvs
 |_=>none
def uV (w:W) (G:Hw) (R:List W->(Hw->Prop)->Hw->Prop):Prop:=match w with
 | .tup ws=>R ws (fun _=>True) G
 | .ref p=>(match yR G p with
  |some ws=>R ws (fun G'=>yR G' p=some ws) G
  |none=>(match zdn G p with
   |some kvs=>R (kvs.map fun kv=>kW kv.1) (fun G'=>G' p=some (.fzd kvs)) (put G p (.fzd kvs))
   |none=>False))
 | .str x=>R (sgs x) (fun _=>True) G
 |_=>False
def lcR (items:List W) (stab:Hw->Prop) (G1:Hw) (turn:W->Hw->(Option W->Hw->Prop)->Prop) (Q:Q3):Prop :=
 ∃ Pv:Nat->List W->Hw->Prop,Pv 0 [] G1/\(∀ i acc G,Pv i acc G->i<=items.length->stab G/\acc.length<=i)/\items.length<=sizeLine /\
  (∀ i w acc G,items[i]?=some w->Pv i acc G->turn w G fun o G'=>match o with|some x=>Pv (i+1) (acc++[x]) G'|none=>Pv (i+1) acc G') /\
  ∀ acc G,Pv items.length acc G->∀ p,G p=none->Q (.ref p) (put G p (.lst acc))
def zM (w:W) (G:Hw) (Q:Q3):Prop:=match w with|.int i=>Q (.int (-i)) G|_=>False
def zD (w:W) (Q:Bool->Prop):Prop:=match w with|.bl b=>Q b|_=>False
def zN (w:W) (Q:Int->Prop):Prop:=match w with|.int i=>Q i|_=>False
def tyW (G:Hw):W->String->Prop
 | .str _,T=>T = "str"
 | .ref p,T=>match G p with
  |some (.lst _)=>T = "list"
  |some (.fix _)=>T = "list"
  |some (.dic _)=>T = "dict"
  |_=>False
 |_,_=>False
def attR (cl:List (Addr×List Str)) (f:Str) (w:W) (G:Hw) (Q:Q3):Prop:=match w with
 | .ref p=>(match G p with
  |some (.ins C fs)=>(∃ l,(C,l)∈cl/\f∈l)/\(match fs.lookup f with|some v=>Q v G|none=>False)
  |_=>False)
 |_=>False
def zcn (f:Str) (v:W):List (Str×W)->List (Str×W)
 | []=>[(f,v)]
 | (g,x)::r=>if g=f then (g,v)::r else (g,x)::zcn f v r
def satR (cl:List (Addr×List Str)) (f:Str) (o v:W) (G:Hw) (Q:Hw->Prop):Prop:=match o with
 | .ref p=>(match G p with
  |some (.ins C fs)=>(∃ l,(C,l)∈cl/\f∈l)/\fs.length<1000/\Q (put G p (.ins C (zcn f v fs)))
  |_=>False)
 |_=>False
def zhy (ks:List Str) (ws:List W):List (xY×W):=(ks.zip ws).foldl (fun acc kv=>dP acc (.inr kv.1) kv.2) []
structure ET where
 e:E3
 t:T3
def zQ (e:E3):T3:=fun σ G Q=>e σ G fun w G1=>match jU G1 w with|some b=>Q b G1|none=>False
def yZ (e:E3):T3:=fun σ G Q=>e σ G fun w G1=>zD w fun b=>Q b G1
def zE (e:E3):ET:=⟨e,zQ e⟩
def zB (e:E3):ET:=⟨e,yZ e⟩
def fC:List E3->A3
 | []=>fun _ G Q=>Q [] G
 |e::es=>fun σ G Q=>e σ G fun x G1=>fC es σ G1 fun xs G2=>Q (x::xs) G2
section
variable (Γ : Ctx3)
mutual
def zH (E:XQ):IE->ET
 | .var i=>zE fun σ G Q=>match σ[i]? with|some (some w)=>Q w G|_=>False
 | .con c=>zE fun σ G Q=>match zL c with|some w=>Q w G|none=>False
 | .glb i=>zE fun σ G Q=>match Γ.gl[i]? with|some p=>Q p.2 G|none=>False
 | .bin op a b=>zE fun σ G Q=>(zH E a).e σ G fun x G1=>(zH E b).e σ G1 fun y G2=>wW op x y G2 Q
 | .neg a=>zE fun σ G Q=>(zH E a).e σ G fun x G1=>zM x G1 Q
 | .not a=>⟨fun σ G Q=>(zH E a).e σ G fun x G1=>zD x fun b=>Q (.bl (!b)) G1,fun σ G Q=>(zH E a).t σ G fun b G1=>Q (!b) G1⟩
 | .cmp op a b=>zB fun σ G Q=>(zH E a).e σ G fun x G1=>(zH E b).e σ G1 fun y G2=>yG op x y G2 Q
 | .chn o1 o2 a b c=>zB fun σ G Q=>(zH E a).e σ G fun x G1=>(zH E b).e σ G1 fun y G2=>yG o1 x y G2 fun z G3=>zD z fun k =>
   if k=true then (zH E c).e σ G3 fun u G4=>yG o2 y u G4 Q else Q (.bl false) G3
 | .and a b=>⟨fun σ G Q=>(zH E a).e σ G fun x G1=>zD x fun k=>if k=true then (zH E b).e σ G1 Q else Q (.bl false) G1,
   fun σ G Q=>(zH E a).t σ G fun k G1=>if k=true then (zH E b).t σ G1 Q else Q false G1⟩
 | .or a b=>⟨fun σ G Q=>(zH E a).e σ G fun x G1=>zD x fun k=>if k=true then Q (.bl true) G1 else (zH E b).e σ G1 Q,
   fun σ G Q=>(zH E a).t σ G fun k G1=>if k=true then Q true G1 else (zH E b).t σ G1 Q⟩
 | .ite c a b=>⟨fun σ G Q=>(zH E c).t σ G fun k G1=>if k=true then (zH E a).e σ G1 Q else (zH E b).e σ G1 Q,fun _ _ _=>False⟩
 | .ix a i=>zE fun σ G Q=>(zH E a).e σ G fun x G1=>(zH E i).e σ G1 fun y G2=>kM x y G2 Q
 | .sl a lo hi=>zE fun σ G Q=>(zH E a).e σ G fun x G1=>zO E lo σ G1 fun l G2=>zO E hi σ G2 fun u G3=>slR x l u G3 Q
 | .tup es=>zE fun σ G Q=>zW E es σ G fun ws G1=>ws.length<=sizeLine/\Q (.tup ws) G1
 | .lst es=>zE fun σ G Q=>zW E es σ G fun ws G1=>ws.length<=sizeLine/\∀ p,G1 p=none->Q (.ref p) (put G1 p (.lst ws))
 | .dct ks es=>zE fun σ G Q=>∀ p,G p=none->zW E es σ (put G p (.dic [])) fun ws G1=>G1 p=some (.dic [])/\ws.length=ks.length/\Q (.ref p) (put G1 p (.dic (zhy ks ws)))
 | .call f es=>zE fun σ G Q=>zW E es σ G fun ws G1=>match Γ.fn[f]? with|some h=>h.sp ws G1 Q E|none=>False
 | .mth m o es=>zE fun σ G Q=>(zH E o).e σ G fun x G1=>match Γ.mt[m]? with|some h=>tyW G1 x h.T/\zW E es σ G1 fun ws G2=>h.sp x ws G2 Q|none=>False
 | .att o f=>zE fun σ G Q=>(zH E o).e σ G fun x G1=>attR Γ.cl f x G1 Q
 | .lc tg names caps it c elt=>zE fun σ G Q=>zU E it σ G fun items stab G1 =>
   lcR items stab G1 (fun w G' K=>zV tg w (pZ names.length caps σ) G' fun σ2 G2=>zR c σ2 G2 fun b G3=>if b=true then (zH XN elt).e σ2 G3 fun x G4=>K (some x) G4 else K none G3) Q
 | .spc i es=>zE fun σ G Q=>zW E es σ G fun ws G1=>match Γ.sx[i]? with|some h=>h.sp ws G1 Q|none=>False
 | .ch3 o1 o2 o3 a b c d=>zB fun σ G Q=>(zH E a).e σ G fun x G1=>(zH E b).e σ G1 fun y G2=>yG o1 x y G2 fun z G3=>zD z fun k =>
   if k=true then (zH E c).e σ G3 fun u G4=>yG o2 y u G4 fun z2 G5=>zD z2 fun k2 =>
    if k2=true then (zH E d).e σ G5 fun t G6=>yG o3 u t G6 Q else Q (.bl false) G5
   else Q (.bl false) G3
def zO (E:XQ):IO->wI->Hw->(Option Int->Hw->Prop)->Prop
 | .no=>fun _ G Q=>Q none G
 | .yes e=>fun σ G Q=>(zH E e).e σ G fun x G1=>zN x fun i=>Q (some i) G1
def zR:IO->T3
 | .no=>fun _ G Q=>Q true G
 | .yes e=>(zH XN e).t
def zW (E:XQ):IEs->A3
 | .nil=>fun _ G Q=>Q [] G
 | .cons e es=>fun σ G Q=>(zH E e).e σ G fun x G1=>zW E es σ G1 fun xs G2=>Q (x::xs) G2
def zU (E:XQ):II->I3
 | .val e=>fun σ G R=>(zH E e).e σ G fun w G1=>uV w G1 R
 | .blt i es=>fun σ G R=>zW E es σ G fun ws G1=>match Γ.it[i]? with|some h=>h.sp ws G1 R|none=>False
 | .spc i es=>fun σ G R=>zW E es σ G fun ws G1=>match Γ.ix[i]? with|some h=>h.sp ws G1 R|none=>False
end
def semL:IEs->List E3
 | .nil=>[]
 | .cons e es=>(zH Γ XN e).e::semL es
abbrev zT (E:XQ) (e:IE):E3:=(zH Γ E e).e
abbrev zP (E:XQ) (e:IE):T3:=(zH Γ E e).t
def forR (items:List W) (stab:Hw->Prop) (D:End3) (σ:wI) (G1:Hw) (turn:W->End3->wI->Hw->Prop):Prop :=
 ∃ Pv:Nat->wI->Hw->Prop,Pv 0 σ G1/\(∀ i σ G,Pv i σ G->i<=items.length->stab G) /\
  (∀ i w σ G,items[i]?=some w->Pv i σ G->turn w { D with nx:=Pv (i+1),ct:=Pv (i+1),bk:=D.nx } σ G)/\∀ σ G,Pv items.length σ G->D.nx σ G
mutual
def zS (E:XQ):IS->S3
 | .asg i e=>fun D σ G=>zT Γ E e σ G fun w G1=>D.nx (σ.set i (some w)) G1
 | .asgT ts e=>fun D σ G=>zT Γ E e σ G fun w G1=>zV (.tup ts) (unl G1 w) σ G1 D.nx
 | .asgI o i e=>fun D σ G=>zT Γ E e σ G fun w G1=>zT Γ E o σ G1 fun x G2=>zT Γ E i σ G2 fun y G3=>setR x y w G3 fun G4=>D.nx σ G4
 | .asgA o f e=>fun D σ G=>zT Γ E e σ G fun w G1=>zT Γ E o σ G1 fun x G2=>satR Γ.cl f x w G2 fun G3=>D.nx σ G3
 | .ex e=>fun D σ G=>zT Γ E e σ G fun _ G1=>D.nx σ G1
 | .ret e=>fun D σ G=>zT Γ E e σ G D.rt
 | .retN=>fun D _ G=>D.rt .non G
 | .pass=>fun D σ G=>D.nx σ G
 | .brk=>fun D σ G=>D.bk σ G
 | .cnt=>fun D σ G=>D.ct σ G
 | .ite c a b=>fun D σ G=>zP Γ E c σ G fun k G1=>if k=true then yX E a D σ G1 else yX E b D σ G1
 | .whl c b=>fun D σ G=>∃ Pv:Nat->wI->Hw->Prop,(∃ m,Pv m σ G)/\∀ m σ G,Pv m σ G->zP Γ E c σ G fun k G1 =>
   if k=true then yX E b { D with nx:=fun σ' G'=>∃ m',m' < m/\Pv m' σ' G',ct:=fun σ' G'=>∃ m',m' < m/\Pv m' σ' G',bk:=D.nx } σ G1 else D.nx σ G1
 | .for tg it b=>fun D σ G=>zU Γ E it σ G fun items stab G1=>forR items stab D σ G1 fun w D' σ' G'=>zV tg w σ' G' fun σ2 G2=>yX E b D' σ2 G2
 | .dead=>fun _ _ _=>False
 | .asgS i j e=>fun D σ G=>zT Γ E e σ G fun w G1=>match w with
  | .tup (x::r)=>r.length<=1000/\∀ p,G1 p=none->D.nx ((σ.set i (some x)).set j (some (.ref p))) (put G1 p (.lst r))
  |_=>False
def yX (E:XQ):ISs->S3
 | .nil=>fun D σ G=>D.nx σ G
 | .cons s ss=>fun D σ G=>zS E s { D with nx:=yX E ss D } σ G
end
end
theorem vH (Γ:Ctx3):∀ es:IEs,zW Γ XN es=fC (semL Γ es)
 | .nil=>rfl
 | .cons e es=>by
  show (fun (σ:wI) (G:Hw) (Q:List W->Hw->Prop)=>(zH Γ XN e).e σ G fun x G1=>zW Γ XN es σ G1 fun xs G2=>Q (x::xs) G2)=_;rw [vH Γ es];rfl
structure TabMono (Γ:Ctx3):Prop where
 fn:∀ f∈Γ.fn,∀ ws G (Q Q':Q3) E,(∀ w G',Q w G'->Q' w G')->f.sp ws G Q E->f.sp ws G Q' E
 mt:∀ m∈Γ.mt,∀ x ws G (Q Q':Q3),(∀ w G',Q w G'->Q' w G')->m.sp x ws G Q->m.sp x ws G Q'
 it:∀ m∈Γ.it,∀ ws G (R R':List W->(Hw->Prop)->Hw->Prop),(∀ a b c,R a b c->R' a b c)->m.sp ws G R->m.sp ws G R'
 sx:∀ m∈Γ.sx,∀ ws G (Q Q':Q3),(∀ w G',Q w G'->Q' w G')->m.sp ws G Q->m.sp ws G Q'
 ix:∀ m∈Γ.ix,∀ ws G (R R':List W->(Hw->Prop)->Hw->Prop),(∀ a b c,R a b c->R' a b c)->m.sp ws G R->m.sp ws G R'
def zkl (t:I3):Prop:=∀ σ G (R R':List W->(Hw->Prop)->Hw->Prop),(∀ a b c,R a b c->R' a b c)->t σ G R->t σ G R'
def zkk (t:wI->Hw->(Option Int->Hw->Prop)->Prop):Prop:=∀ σ G (Q Q':Option Int->Hw->Prop),(∀ a b,Q a b->Q' a b)->t σ G Q->t σ G Q'
theorem qQ {w:W} {Q Q':Bool->Prop} (k:∀ b,Q b->Q' b) (h:zD w Q):zD w Q':=by
 cases w<;>first|exact k _ h|exact h.elim
theorem cD {w:W} {Q Q':Int->Prop} (k:∀ b,Q b->Q' b) (h:zN w Q):zN w Q':=by
 cases w<;>first|exact k _ h|exact h.elim
theorem zcE {w:W} {G:Hw} {Q Q':Q3} (k:∀ w G,Q w G->Q' w G) (h:zM w G Q):zM w G Q':=by
 cases w<;>first|exact k _ _ h|exact h.elim
theorem zdD {cl:List (Addr×List Str)} {f:Str} {w:W} {G:Hw} {Q Q':Q3} (k:∀ w G,Q w G->Q' w G) (h:attR cl f w G Q):attR cl f w G Q':=by
 cases w with
 |ref p =>
  simp only [attR] at h ⊢
  split at h
  .refine ⟨h.1,?_⟩;have h2:=h.2
   split at h2
   .exact k _ _ h2
   .exact h2.elim
  .exact h.elim
 |_=>exact h.elim
theorem fX {w:W} {G:Hw} {R R':List W->(Hw->Prop)->Hw->Prop} (k:∀ a b c,R a b c->R' a b c) (h:uV w G R):uV w G R':=by
 cases w with
 |tup ws=>exact k _ _ _ h
 |ref p =>
  simp only [uV] at h ⊢
  split at h
  .exact k _ _ _ h
  .split at h
   .exact k _ _ _ h
   .exact h.elim
 |str x=>exact k _ _ _ h
 |_=>exact h.elim
theorem zeE {items:List W} {stab:Hw->Prop} {G1:Hw} {turn:W->Hw->(Option W->Hw->Prop)->Prop} {Q Q':Q3} (k:∀ w G,Q w G->Q' w G) (h:lcR items stab G1 turn Q):lcR items stab G1 turn Q':=by
 obtain ⟨Pv,h0,h1,h2,h3,h4⟩:=h;exact ⟨Pv,h0,h1,h2,h3,fun acc G hp p hn=>k _ _ (h4 acc G hp p hn)⟩
theorem zb2 {e:E3} (m:wF e):uO (zQ e):=fun σ G Q Q' k h=>m σ G _ _ (fun w G1 q=>by
 split at q
 .exact k _ _ q
 .exact q.elim) h
theorem ze3 {e:E3} (m:wF e):uO (yZ e):=fun σ G Q Q' k h=>m σ G _ _ (fun w G1 q=>qQ (fun b=>k b G1) q) h
theorem xS {e:E3} (m:wF e):wF (zE e).e/\uO (zE e).t:=⟨m,zb2 m⟩
theorem gK {e:E3} (m:wF e):wF (zB e).e/\uO (zB e).t:=⟨m,ze3 m⟩
theorem wL {α:Type} {l:List α} {i:Nat} {x:α} (h:l[i]?=some x):x∈l:=List.mem_of_getElem? h
variable {Γ : Ctx3} (g : TabMono Γ)
include g
theorem zbc (e:IE):∀ E,wF (zH Γ E e).e/\uO (zH Γ E e).t:=by
 refine IE.rec (motive_1:=fun e=>∀ E,wF (zH Γ E e).e/\uO (zH Γ E e).t) (motive_2:=fun o=>(∀ E,zkk (zO Γ E o))/\uO (zR Γ o)) (motive_3:=fun es=>∀ E,qI (zW Γ E es)) (motive_4:=fun it=>∀ E,zkl (zU Γ E it))
  (motive_5:=fun _=>True) (motive_6:=fun _=>True) ?var ?con ?glb ?bin ?neg ?not ?cmp ?chn ?and ?or ?ite ?ix ?sl ?tup ?lst ?dct ?call ?mth ?att ?lc ?spc ?ch3 ?no ?yes ?nil ?cons ?val ?blt ?ispc ?nm ?tt ?tn ?tc e
 case var =>
  intro i E;refine xS fun σ G Q Q' k h=>?_
  split at h
  .exact k _ _ h
  .exact h.elim
 case con =>
  intro c E;refine xS fun σ G Q Q' k h=>?_
  split at h
  .exact k _ _ h
  .exact h.elim
 case glb =>
  intro i E;refine xS fun σ G Q Q' k h=>?_
  split at h
  .exact k _ _ h
  .exact h.elim
 case bin=>exact fun op a b ha hb E=>xS fun σ G Q Q' k h=>(ha E).1 σ G _ _ (fun x G1 h=>(hb E).1 σ G1 _ _ (fun y G2 h=>bO op x y G2 _ _ k h) h) h
 case neg=>exact fun a ha E=>xS fun σ G Q Q' k h=>(ha E).1 σ G _ _ (fun x G1 h=>zcE k h) h
 case not=>exact fun a ha E=>⟨fun σ G Q Q' k h=>(ha E).1 σ G _ _ (fun x G1 h=>qQ (fun b=>k _ _) h) h,fun σ G Q Q' k h=>(ha E).2 σ G _ _ (fun b G1 h=>k _ _ h) h⟩
 case cmp=>exact fun op a b ha hb E=>gK fun σ G Q Q' k h=>(ha E).1 σ G _ _ (fun x G1 h=>(hb E).1 σ G1 _ _ (fun y G2 h=>xU op x y G2 _ _ k h) h) h
 case chn =>
  exact fun o1 o2 a b c ha hb hc E=>gK fun σ G Q Q' k h=>(ha E).1 σ G _ _ (fun x G1 h=>(hb E).1 σ G1 _ _ (fun y G2 h=>xU o1 x y G2 _ _ (fun z G3 h=>qQ (fun b h=>by
   split
   .rename_i hb;rw [if_pos hb] at h;exact (hc E).1 σ G3 _ _ (fun u G4 h=>xU o2 y u G4 _ _ k h) h
   .rename_i hb;rw [if_neg hb] at h;exact k _ _ h) h) h) h) h
 case ch3 =>
  exact fun o1 o2 o3 a b c d ha hb hc hd E=>gK fun σ G Q Q' k h=>(ha E).1 σ G _ _ (fun x G1 h=>(hb E).1 σ G1 _ _ (fun y G2 h=>xU o1 x y G2 _ _ (fun z G3 h=>qQ (fun b h=>by
   split
   .rename_i hb;rw [if_pos hb] at h
    exact (hc E).1 σ G3 _ _ (fun u G4 h=>xU o2 y u G4 _ _ (fun z2 G5 h=>qQ (fun b2 h=>by
     split
     .rename_i hb2;rw [if_pos hb2] at h;exact (hd E).1 σ G5 _ _ (fun t G6 h=>xU o3 u t G6 _ _ k h) h
     .rename_i hb2;rw [if_neg hb2] at h;exact k _ _ h) h) h) h
   .rename_i hb;rw [if_neg hb] at h;exact k _ _ h) h) h) h) h
 case and =>
  exact fun a b ha hb E=>⟨fun σ G Q Q' k h=>(ha E).1 σ G _ _ (fun x G1 h=>qQ (fun c h=>by
   split
   .rename_i hc;rw [if_pos hc] at h;exact (hb E).1 σ G1 _ _ k h
   .rename_i hc;rw [if_neg hc] at h;exact k _ _ h) h) h,fun σ G Q Q' k h=>(ha E).2 σ G _ _ (fun c G1 h=>by
   split
   .rename_i hc;rw [if_pos hc] at h;exact (hb E).2 σ G1 _ _ k h
   .rename_i hc;rw [if_neg hc] at h;exact k _ _ h) h⟩
 case or =>
  exact fun a b ha hb E=>⟨fun σ G Q Q' k h=>(ha E).1 σ G _ _ (fun x G1 h=>qQ (fun c h=>by
   split
   .rename_i hc;rw [if_pos hc] at h;exact k _ _ h
   .rename_i hc;rw [if_neg hc] at h;exact (hb E).1 σ G1 _ _ k h) h) h,fun σ G Q Q' k h=>(ha E).2 σ G _ _ (fun c G1 h=>by
   split
   .rename_i hc;rw [if_pos hc] at h;exact k _ _ h
   .rename_i hc;rw [if_neg hc] at h;exact (hb E).2 σ G1 _ _ k h) h⟩
 case ite =>
  exact fun c a b hc ha hb E=>⟨fun σ G Q Q' k h=>(hc E).2 σ G _ _ (fun c G1 h=>by
   split
   .rename_i hc;rw [if_pos hc] at h;exact (ha E).1 σ G1 _ _ k h
   .rename_i hc;rw [if_neg hc] at h;exact (hb E).1 σ G1 _ _ k h) h,fun _ _ _ _ _ h=>h.elim⟩
 case ix=>exact fun a b ha hb E=>xS fun σ G Q Q' k h=>(ha E).1 σ G _ _ (fun x G1 h=>(hb E).1 σ G1 _ _ (fun y G2 h=>zbg x y G2 _ _ k h) h) h
 case sl=>exact fun a lo hi ha hl hh E=>xS fun σ G Q Q' k h=>(ha E).1 σ G _ _ (fun x G1 h=>(hl.1 E) σ G1 _ _ (fun l G2 h=>(hh.1 E) σ G2 _ _ (fun u G3 h=>za0 k h) h) h) h
 case tup=>exact fun es hs E=>xS fun σ G Q Q' k h=>(hs E) σ G _ _ (fun ws G1 h=>⟨h.1,k _ _ h.2⟩) h
 case lst=>exact fun es hs E=>xS fun σ G Q Q' k h=>(hs E) σ G _ _ (fun ws G1 h=>⟨h.1,fun p hp=>k _ _ (h.2 p hp)⟩) h
 case dct=>exact fun ks es hs E=>xS fun σ G Q Q' k h=>fun p hp=>(hs E) σ _ _ _ (fun ws G1 h=>⟨h.1,h.2.1,k _ _ h.2.2⟩) (h p hp)
 case call =>
  exact fun f es hs E=>xS fun σ G Q Q' k h=>(hs E) σ G _ _ (fun ws G1 h=>by
   split at h
   .rename_i f' e;exact g.fn f' (wL e) ws G1 Q Q' E k h
   .exact h.elim) h
 case mth =>
  exact fun m o es ho hs E=>xS fun σ G Q Q' k h=>(ho E).1 σ G _ _ (fun x G1 h=>by
   split at h
   .rename_i m' e;exact ⟨h.1,(hs E) σ G1 _ _ (fun ws G2 h=>g.mt m' (wL e) x ws G2 Q Q' k h) h.2⟩
   .exact h.elim) h
 case att=>exact fun o f ho E=>xS fun σ G Q Q' k h=>(ho E).1 σ G _ _ (fun x G1 h=>zdD k h) h
 case lc=>exact fun tg names caps it c elt _ hi hc he E=>xS fun σ G Q Q' k h=>(hi E) σ G _ _ (fun items stab G1 h=>zeE k h) h
 case spc =>
  exact fun i es hs E=>xS fun σ G Q Q' k h=>(hs E) σ G _ _ (fun ws G1 h=>by
   split at h
   .rename_i f' e;exact g.sx f' (wL e) ws G1 Q Q' k h
   .exact h.elim) h
 case ispc =>
  exact fun i es hs E σ G R R' k h=>(hs E) σ G _ _ (fun ws G1 h=>by
   split at h
   .rename_i m' e;exact g.ix m' (wL e) ws G1 R R' k h
   .exact h.elim) h
 case no=>exact ⟨fun E σ G Q Q' k h=>k _ _ h,fun σ G Q Q' k h=>k _ _ h⟩
 case yes=>exact fun e he=>⟨fun E σ G Q Q' k h=>(he E).1 σ G _ _ (fun x G1 h=>cD (fun i=>k _ _) h) h,(he XN).2⟩
 case nil=>exact fun E σ G Q Q' k h=>k _ _ h
 case cons=>exact fun e es he hs E σ G Q Q' k h=>(he E).1 σ G _ _ (fun x G1 h=>(hs E) σ G1 _ _ (fun xs G2 h=>k _ _ h) h) h
 case val=>exact fun e he E σ G R R' k h=>(he E).1 σ G _ _ (fun w G1 h=>fX k h) h
 case blt =>
  exact fun i es hs E σ G R R' k h=>(hs E) σ G _ _ (fun ws G1 h=>by
   split at h
   .rename_i m' e;exact g.it m' (wL e) ws G1 R R' k h
   .exact h.elim) h
 case nm=>exact fun _=>trivial
 case tt=>exact fun _ _=>trivial
 case tn=>trivial
 case tc=>exact fun _ _ _ _=>trivial
theorem zC (E:XQ) (e:IE):wF (zH Γ E e).e:=(zbc g e E).1
theorem uZ (E:XQ) (e:IE):uO (zH Γ E e).t:=(zbc g e E).2
theorem wG (E:XQ):∀ es:IEs,qI (zW Γ E es)
 | .nil=>fun σ G Q Q' k h=>k _ _ h
 | .cons e es=>fun σ G Q Q' k h=>zC g E e σ G _ _ (fun x G1 h=>wG E es σ G1 _ _ (fun xs G2 h=>k _ _ h) h) h
theorem zjj (E:XQ):∀ o:IO,zkk (zO Γ E o)
 | .no=>fun σ G Q Q' k h=>k _ _ h
 | .yes e=>fun σ G Q Q' k h=>zC g E e σ G _ _ (fun x G1 h=>cD (fun i=>k _ _) h) h
theorem monoC:∀ o:IO,uO (zR Γ o)
 | .no=>fun σ G Q Q' k h=>k _ _ h
 | .yes e=>uZ g XN e
theorem zcH (E:XQ):∀ it:II,zkl (zU Γ E it)
 | .val e=>fun σ G R R' k h=>zC g E e σ G _ _ (fun w G1 h=>fX k h) h
 | .blt i es=>fun σ G R R' k h=>wG g E es σ G _ _ (fun ws G1 h=>by
   split at h
   .rename_i m' e;exact g.it m' (wL e) ws G1 R R' k h
   .exact h.elim) h
 | .spc i es=>fun σ G R R' k h=>wG g E es σ G _ _ (fun ws G1 h=>by
   split at h
   .rename_i m' e;exact g.ix m' (wL e) ws G1 R R' k h
   .exact h.elim) h
end L3
namespace L3
open PySem PySem.Spec PyProof.Rows L2
structure MC where
 sc:Scope
 N:List Str
 own:Str->Bool
 fns:List Str
 gls:List Str
 mts:List Str
 its:List Str
 sxm:List (Scope->Expr->Option (List Expr))
 ixm:List (Scope->Expr->Option (List Expr))
def visB (sc:Scope) (x:Str):Bool:=match sc.names.lookup x with
 |some .local=>true
 |some .cell=>true
 |some .free=>true
 |_=>false
def vM (sc:Scope) (x:Str):Bool:=sc.names.lookup x==some .globalImplicit&&!(x==("__debug__" : Str))&&!(x==("__name__" : Str))
def vE:Expr->Bool
 | .Set ..=>false
 |_=>true
def noStar:Expr->Bool
 | .Starred ..=>false
 |_=>true
def nQ:Expr->Bool
 | .Slice ..=>false
 |_=>true
def sY:Expr->Bool
 | .ListComp ..=>false
 | .SetComp ..=>false
 | .DictComp ..=>false
 |_=>true
def pI:Expr->Bool
 | .Call (.Name ..) [] [] _=>false
 |_=>true
def relS (sc out:Scope):Scope:={ sc with names:=sc.names.map fun (n,k)=>if (k==.free&&out.kind==.function&&out.names.lookup n==some .cell) then (n,.cell) else (n,k) }
def blkB (out sc:Scope):Bool:=(sc.kind==.function)&&(sc.names.all fun y=>(!(y.2==.cell) || sc.names.lookup y.1==some .cell)&&(!(y.2==.free) || sc.names.lookup y.1==some .free)) &&
 (sc.names.all fun y=>!(y.2==.free) || out.names.lookup y.1==some .cell || out.names.lookup y.1==some .free) &&
 (sc.names.all fun y=>!(y.2==.local) || sc.names.lookup y.1==some .local)
def rO:List Str->Bool
 | []=>true
 |x::r=>!r.contains x&&rO r
def dQ (M:MC) (x:Str):Bool:=match M.sc.names.lookup x with
 |some .local=>true
 |some .cell=>M.own x
 |_=>false
mutual
def tgIx:ITg->List Nat
 | .nm i=>[i]
 | .tup ts=>zdV ts
def zdV:ITgs->List Nat
 | .nil=>[]
 | .cons t ts=>tgIx t++zdV ts
end
mutual
def mG (M:MC):ITg->Expr->Bool
 | .nm i,.Name x _=>M.N[i]?==some x&&dQ M x
 | .tup ts,.Tuple es _ _=>mGs M ts es
 |_,_=>false
def mGs (M:MC):ITgs->List Expr->Bool
 | .nil,[]=>true
 | .cons t ts,e::es=>noStar e&&mG M t e&&mGs M ts es
 |_,_=>false
end
mutual
def mE:IE->MC->Expr->Bool
 | .var i=>fun M e=>match e with
  | .Name x _=>M.N[i]?==some x&&visB M.sc x&&!(x==("__debug__" : Str))&&!(x==("__classdict__" : Str))
  |_=>false
 | .con c=>fun M e=>match e with
  | .Constant d _ _=>decide (c=d)
  |_=>false
 | .glb i=>fun M e=>match e with
  | .Name x _=>M.gls[i]?==some x&&vM M.sc x
  |_=>false
 | .bin op a b=>fun M e=>match e with
  | .BinOp l o r _=>decide (op=o)&&mE a M l&&mE b M r
  |_=>false
 | .neg a=>fun M e=>match e with
  | .UnaryOp .USub l _=>mE a M l
  |_=>false
 | .not a=>fun M e=>match e with
  | .UnaryOp .Not l _=>mE a M l
  |_=>false
 | .cmp op a b=>fun M e=>match e with
  | .Compare l [o] [r] _=>decide (op=o)&&mE a M l&&mE b M r&&vE r
  |_=>false
 | .chn o1 o2 a b c=>fun M e=>match e with
  | .Compare l [p1,p2] [r,t] _=>decide (o1=p1)&&decide (o2=p2)&&mE a M l&&mE b M r&&mE c M t&&vE t
  |_=>false
 | .ch3 o1 o2 o3 a b c d=>fun M e=>match e with
  | .Compare l [p1,p2,p3] [r,t,u] _=>decide (o1=p1)&&decide (o2=p2)&&decide (o3=p3)&&mE a M l&&mE b M r&&mE c M t&&mE d M u&&vE u
  |_=>false
 | .and a b=>fun M e=>match e with
  | .BoolOp .And [l,r] _=>mE a M l&&mE b M r
  | .BoolOp .And (l::r::q::rest) pos=>mE a M l&&mE b M (.BoolOp .And (r::q::rest) pos)
  |_=>false
 | .or a b=>fun M e=>match e with
  | .BoolOp .Or [l,r] _=>mE a M l&&mE b M r
  | .BoolOp .Or (l::r::q::rest) pos=>mE a M l&&mE b M (.BoolOp .Or (r::q::rest) pos)
  |_=>false
 | .ite c a b=>fun M e=>match e with
  | .IfExp t l r _=>mE c M t&&mE a M l&&mE b M r
  |_=>false
 | .ix a i=>fun M e=>match e with
  | .Subscript l r _=>mE a M l&&mE i M r&&nQ r
  |_=>false
 | .sl a lo hi=>fun M e=>match e with
  | .Subscript l (.Slice x y none _) _=>mE a M l&&mO lo M x&&mO hi M y
  |_=>false
 | .tup es=>fun M e=>match e with
  | .Tuple xs _ _=>mA es M xs
  |_=>false
 | .lst es=>fun M e=>match e with
  | .List xs _=>mA es M xs
  |_=>false
 | .dct ks es=>fun M e=>match e with
  | .Dict keys xs _=>keyB ks keys&&mA es M xs&&decide (keys.length=xs.length)&&decide (keys.length<=15)&&!ks.isEmpty
  |_=>false
 | .call f es=>fun M e=>match e with
  | .Call (.Name x _) xs [] _=>M.fns[f]?==some x&&vM M.sc x&&mA es M xs
  |_=>false
 | .mth m o es=>fun M e=>match e with
  | .Call (.Attribute l x apos) xs [] cpos=>M.mts[m]?==some x&&pI l&&(apos.endLine==cpos.line)&&decide (xs.length<25)&&mE o M l&&mA es M xs
  |_=>false
 | .att o f=>fun M e=>match e with
  | .Attribute l x _=>x==f&&pI l&&mE o M l
  |_=>false
 | .lc tg names caps it c elt=>fun M e=>match e with
  | .ListComp x [⟨t,ix,ifs,asy⟩] sc _ =>
   let M':MC:={ M with sc:=relS sc M.sc,N:=names++caps.map (fun j=>M.N.getD j Str.empty),own:=fun x=>sc.names.lookup x==some .cell }
   decide (asy=0)&&blkB M.sc sc&&vE ix&&rO M'.N&&(caps.all fun j=>decide (j<M.N.length)&&(sc.names.lookup (M.N.getD j Str.empty)==some .free)) &&
    mI it M ix&&((tgIx tg).all fun i=>decide (i<names.length))&&mG M' tg t&&mC c M' ifs&&mE elt M' x
  |_=>false
 | .spc i es=>fun M e=>sY e&&(match M.sxm[i]? with
  |some m=>(match m M.sc e with|some xs=>mA es M xs|none=>false)
  |none=>false)
def mO:IO->MC->Option Expr->Bool
 | .no=>fun M e=>match e with|none=>true|_=>false
 | .yes a=>fun M e=>match e with|some x=>mE a M x|_=>false
def mC:IO->MC->List Expr->Bool
 | .no=>fun M e=>match e with | []=>true|_=>false
 | .yes a=>fun M e=>match e with | [x]=>mE a M x|_=>false
def mA:IEs->MC->List Expr->Bool
 | .nil=>fun M e=>match e with | []=>true|_=>false
 | .cons a as=>fun M e=>match e with|x::xs=>noStar x&&mE a M x&&mA as M xs|_=>false
def mI:II->MC->Expr->Bool
 | .val a=>fun M e=>mE a M e
 | .blt i es=>fun M e=>match e with
  | .Call (.Name x _) xs [] _=>M.its[i]?==some x&&vM M.sc x&&mA es M xs
  |_=>false
 | .spc i es=>fun M e=>match M.ixm[i]? with
  |some m=>(match m M.sc e with|some xs=>mA es M xs|none=>false)
  |none=>false
def keyB:List Str->List (Option Expr)->Bool
 | []=>fun e=>match e with | []=>true|_=>false
 |k::ks=>fun e=>match e with|some (.Constant (.str x) _ _)::es=>k==x&&keyB ks es|_=>false
end
def zdX (M:MC) (i j:Nat):Expr->Bool
 | .Tuple [.Name x _,.Starred (.Name y _) _] _ _=>(M.N[i]?==some x&&dQ M x)&&(M.N[j]?==some y&&dQ M y)
 |_=>false
mutual
def mS:IS->MC->Stmt->Bool
 | .asg i a=>fun M s=>match s with
  | .Assign [.Name x py] e _=>M.N[i]?==some x&&dQ M x&&mE a M e
  |_=>false
 | .asgT ts a=>fun M s=>match s with
  | .Assign [.Tuple es _ _] e _=>sY e&&zew e&&mGs M ts es&&mE a M e
  |_=>false
 | .asgI o i a=>fun M s=>match s with
  | .Assign [.Subscript l r _] e _=>sY e&&nQ r&&mE o M l&&mE i M r&&mE a M e
  |_=>false
 | .asgA o f a=>fun M s=>match s with
  | .Assign [.Attribute l x _] e _=>x==f&&sY e&&mE o M l&&mE a M e
  |_=>false
 | .ex a=>fun M s=>match s with
  | .Expr e _=>sY e&&mE a M e
  |_=>false
 | .ret a=>fun M s=>match s with
  | .Return (some e) _=>mE a M e
  |_=>false
 | .retN=>fun M s=>match s with|.Return none _=>true|_=>false
 | .pass=>fun M s=>match s with|.Pass _=>true|_=>false
 | .brk=>fun M s=>match s with|.Break _=>true|_=>false
 | .cnt=>fun M s=>match s with|.Continue _=>true|_=>false
 | .ite c a b=>fun M s=>match s with
  | .If t x y _=>mE c M t&&uJ a M x&&uJ b M y
  |_=>false
 | .whl c b=>fun M s=>match s with
  | .While t x [] _=>mE c M t&&uJ b M x
  |_=>false
 | .for tg it b=>fun M s=>match s with
  | .For t x y [] _=>vE x&&mG M tg t&&mI it M x&&uJ b M y
  |_=>false
 | .dead=>fun M s=>true
 | .asgS i j a=>fun M s=>match s with
  | .Assign [t] e _=>sY e&&zew e&&zdX M i j t&&mE a M e
  |_=>false
def uJ:ISs->MC->List Stmt->Bool
 | .nil=>fun M s=>match s with | []=>true|_=>false
 | .cons a as=>fun M s=>match s with|x::xs=>mS a M x&&uJ as M xs|_=>false
def zew:Expr->Bool
 | .Tuple ..=>false
 |_=>true
end
theorem uE {a b:Bool} (h:(a&&b)=true):a=true/\b=true:=(Bool.and_eq_true a b).mp h
theorem bd3 {a b c:Bool} (h:(a&&b&&c)=true):(a=true/\b=true)/\c=true:=⟨uE (uE h).1,(uE h).2⟩
theorem bd4 {a b c d:Bool} (h:(a&&b&&c&&d)=true):((a=true/\b=true)/\c=true)/\d=true:=⟨bd3 (uE h).1,(uE h).2⟩
theorem bd5 {a b c d e:Bool} (h:(a&&b&&c&&d&&e)=true):(((a=true/\b=true)/\c=true)/\d=true)/\e=true:=⟨bd4 (uE h).1,(uE h).2⟩
theorem bd6 {a b c d e f:Bool} (h:(a&&b&&c&&d&&e&&f)=true):((((a=true/\b=true)/\c=true)/\d=true)/\e=true)/\f=true:=⟨bd5 (uE h).1,(uE h).2⟩
theorem bd7 {a b c d e f g:Bool} (h:(a&&b&&c&&d&&e&&f&&g)=true):(((((a=true/\b=true)/\c=true)/\d=true)/\e=true)/\f=true)/\g=true:=⟨bd6 (uE h).1,(uE h).2⟩
theorem bd8 {a b c d e f g k:Bool} (h:(a&&b&&c&&d&&e&&f&&g&&k)=true):((((((a=true/\b=true)/\c=true)/\d=true)/\e=true)/\f=true)/\g=true)/\k=true:=⟨bd7 (uE h).1,(uE h).2⟩
theorem bd9 {a b c d e f g k l:Bool} (h:(a&&b&&c&&d&&e&&f&&g&&k&&l)=true):(((((((a=true/\b=true)/\c=true)/\d=true)/\e=true)/\f=true)/\g=true)/\k=true)/\l=true:=⟨bd8 (uE h).1,(uE h).2⟩
theorem bd10 {a b c d e f g k l m:Bool} (h:(a&&b&&c&&d&&e&&f&&g&&k&&l&&m)=true):((((((((a=true/\b=true)/\c=true)/\d=true)/\e=true)/\f=true)/\g=true)/\k=true)/\l=true)/\m=true:=⟨bd9 (uE h).1,(uE h).2⟩
end L3
namespace L2
open PySem PySem.Spec PyProof.Rows
def Itd (d:Addr) (ob:Obj) (l:List (xY×V)):It where
 go:=fun i H=>H d=some (.frz ob (.dK l))/\i<l.length
 yld:=fun i H x H'=>H'=H/\∃ p,l[i]?=some p/\x=kV p.1
 stop:=fun i H=>H d=some (.frz ob (.dK l))/\l.length<=i
def KiSt (it d:Addr) (ob:Obj) (n i:Nat) (h:Heap):Prop:=∃ ep es,ob.data=.dict es ep/\h.IsKeyIter it d i n ep
section
variable {X : Cx} {pins : List (Addr × Obj)} {σ : St} {H : Hp} {s : Shared} {d : Addr} {ob : Obj} {l : List (xY × V)}
theorem zfF {κ:Type}:∀ {l:List (κ×V)} {vs:List (κ×Value)} {i:Nat} {k:κ} {v:Value},KV l vs->vs[i]?=some (k,v)->∃ x,l[i]?=some (k,x)
 |_,_,i,k,v,.nil,e=>by simp at e
 |p::_,_,0,k,v,.cons r t,e=>by
  simp at e;subst e;obtain ⟨a,b⟩:=p;have h1:a=k:=r.1;exact ⟨b,by simp [h1]⟩
 |_::_,_,i+1,k,v,.cons r t,e=>by
  obtain ⟨x,h⟩:=zfF (i:=i) (k:=k) (v:=v) t (by simpa using e);exact ⟨x,by simpa using h⟩
theorem zfE {κ:Type}:∀ {l:List (κ×V)} {vs:List (κ×Value)},KV l vs->vs.length=l.length
 |_,_,.nil=>rfl
 |_,_,.cons _ t=>by rw [List.length_cons,List.length_cons,zfE t]
theorem zdb (I:Inv X pins σ H s) (e:H d=some (.frz ob (.dK l))) {es:Array DictEntry} {ep:Nat} (hd:ob.data=.dict es ep):∃ vs,KV l vs/\s.heap.DictAt (xM X.prog X.w) d vs ep/\vs.length=l.length:=by
 obtain ⟨hg,_,_,vs,kv,o,es',ep',ho,hc,hdat,r⟩:=(show xN X.prog X.w H s.heap d (.frz ob (.dK l)) from I.hok d _ e);rw [hg] at ho;cases ho;rw [hd] at hdat;cases hdat;exact ⟨vs,kv,⟨ob,es,hg,hc,hd,r⟩,zfE kv⟩
theorem zcW {k:xY} {v:Value} (h:fZ k v=true):yY (kV k) v:=by
 rcases xX h with ⟨i,t,rfl,rfl⟩|⟨x,t,rfl,rfl⟩
 .exact ⟨t,rfl⟩
 .exact ⟨t,rfl⟩
theorem zb1 {P:Program} {w:World} {K:PySem.W.Frag} {tg:Expr} (it:Addr):Turn P w K tg (Itd d ob l) [it] it (KiSt it d ob l.length) where
 mem:=by simp
 obj:=fun i h st b hb=>by
  cases zzO hb;obtain ⟨ep,es,_,o,e,c,z⟩:=st;exact ⟨o,e,fun v q=>by rw [z] at q;cases q⟩
 keep:=fun i h h' st k=>by
  obtain ⟨ep,es,hd,st⟩:=st;exact ⟨ep,es,hd,st.at fun o e=>k it (by simp) o e⟩
 item:=by
  intro X e1 e2 e3 hc i pins s σ H E I hf st hg;subst e1;subst e2;subst e3;obtain ⟨ep,es,hd,st⟩:=st;obtain ⟨e,hi⟩:=hg;obtain ⟨vs,kv,da,lv⟩:=zdb I e hd;obtain ⟨f0,f1,f2,f3,f4,f5⟩:=hf it (by simp);obtain ⟨⟨k,v⟩,ek⟩:∃ p,vs[i]?=some p:=⟨vs[i]'(by omega),List.getElem?_eq_getElem _⟩;obtain ⟨x,ex⟩:=zfF kv ek;rw [← lv] at st;refine wpAny_pyNext_dict_item st da ek fun key h' hkey st' sb=>?_;have I1:Inv X pins σ H { s with heap:=h',toks:=s.toks }:=I.turned (fun b o hb q=>(sb.2 b hb).trans q) f0 f1 f3 f4 f5;obtain ⟨o,o1,o2,o3⟩:=id st';refine ⟨key,rfl,zc8 (s:={ s with heap:=h' }) o1 o2 o3 (by decide) ⟨kV k,H,I1,zcW hkey,⟨rfl,(k,x),ex,rfl⟩,⟨ep,es,hd,?_⟩,fun b hb=>(hf b hb).1⟩⟩;rw [← lv];exact st'
 done:=by
  intro X e1 e2 e3 hc i pins s σ H E I hf st hg;subst e1;subst e2;subst e3;obtain ⟨ep,es,hd,st⟩:=st;obtain ⟨e,hi⟩:=hg;obtain ⟨vs,kv,da,lv⟩:=zdb I e hd;obtain ⟨f0,f1,f2,f3,f4,f5⟩:=hf it (by simp);rw [← lv] at st;exact wpAny_pyNext_dict_end (I.ok.hd hc) st da (List.getElem?_eq_none (by omega)) fun h' eb=>⟨rfl,I.turned (t':=s.toks) (fun b o hb q=>eb b o hb q) f0 f1 f3 f4 f5⟩
 self:=fun _ _ _ _ _ st h=>by
  obtain ⟨ep,es,hd,st⟩:=st;exact wpAny_pyIter_keyiter st h
theorem vK {u:HO} (e:H d=some u):xR H d u=H:=by
 funext b
 unfold xR
 split
 .rename_i h;subst h;exact e.symm
 .rfl
theorem zhe (I:Inv X pins σ H s) (e:Rd H d (.dK l)):∃ ob,Inv X pins σ (xR H d (.frz ob (.dK l))) s/\(∃ es ep,ob.data=.dict es ep)/\∀ ob',H d=some (.frz ob' (.dK l))->ob'=ob:=by
 rcases e with e|⟨ob,e⟩
 .have q:=I.hok d _ e;obtain ⟨h1,h2,vs,kv,o,es,ep,ho,hc,hdat,r⟩:=id q;have mu:Mut (H d):=by rw [e];exact True.intro
  refine ⟨o,I.un (t':=s.toks) (Un.write mu (.inl rfl) (fun b u _ z=>z) ⟨o,ho⟩) (I.hok.write mu (.inl rfl) (fun b u _ z=>z) ⟨o,ho⟩ ⟨ho,h1,h2,vs,kv,o,es,ep,ho,hc,hdat,r⟩),⟨es,ep,hdat⟩,fun ob' z=>by rw [e] at z;cases z⟩
 .obtain ⟨hg,_,_,vs,kv,o,es,ep,ho,hc,hdat,r⟩:=(show xN X.prog X.w H s.heap d (.frz ob (.dK l)) from I.hok d _ e);rw [hg] at ho;cases ho;exact ⟨ob,by rw [vK e];exact I,⟨es,ep,hdat⟩,fun ob' z=>by rw [e] at z;cases z;rfl⟩
theorem zhw {tg:Expr} {R:It->Hp->Prop} {E:Value->Shared->Prop} (I:Inv X pins σ H s) (e:Rd H d (.dK l)) (q:∀ ob,(∀ ob',H d=some (.frz ob' (.dK l))->ob'=ob)->R (Itd d ob l) (xR H d (.frz ob (.dK l)))):wpAny (model X.prog X.w) X.A (pyIter (.ref d)) (PIE X pins σ tg R) E s:=by
 have hs:(d==sysModules)=false:=(fQ I.hok e).2.1;obtain ⟨ob,J,⟨es,ep,hd⟩,same⟩:=zhe I e;obtain ⟨vs,kv,da,lv⟩:=zdb J yD hd;refine wpAny_pyIter_dict hs da ?_;refine ⟨s.heap.objs.size,[s.heap.objs.size],_,_,_,rfl,J.kept (t':=s.toks) fun b o e=>Heap.get?_push_of_some _ e,zb1 _,⟨ep,es,hd,⟨_,Heap.get?_push_size _ rfl,rfl,by rw [lv];rfl⟩⟩,fun b hb=>?_,q ob same⟩;cases zzO hb;exact J.fpOk (zzR _) (J.hok.fresh (zzR _))
end
end L2
namespace L3
open PySem PySem.Spec PyProof.Rows L2 PySem.SeqAt
structure Par where
 prog:Program
 w:World
 K:yS
 mg:Str->Option Value
 base:Heap
 A:Around
structure Fits (p:Par) (X:Cx):Prop where
 prog:X.prog=p.prog
 w:X.w=p.w
 K:X.K=p.K
 mg:X.mg=p.mg
 base:X.base=p.base
 A:X.A=p.A
 calm:X.calm=true
 xe:X.xe=fun _ _=>False
structure ItIs (K:yS) (J:It) (H1:Hp) (ws:List W) (stab:Hw->Prop):Prop where
 go:∀ i H G,yM K H1 H->xP K H G->stab G->i<ws.length->J.go i H
 yld:∀ i H G x H',yM K H1 H->xP K H G->stab G->i<ws.length->J.yld i H x H'->∃ w,ws[i]?=some w/\yM K H H'/\wX K H' w x/\xP K H' G
 stop:∀ i H G,yM K H1 H->xP K H G->stab G->ws.length<=i->J.stop i H
def lowI (K:yS) (t:I3):TI:=fun τ H R=>∃ σ G,yV K H σ τ/\xP K H G/\t σ G fun ws stab G1=>∀ J H1,yM K H H1->xP K H1 G1->ItIs K J H1 ws stab->R J H1
def bI (X:Cx):List Expr->List E3->Prop
 | [],[]=>True
 |x::xs,e::es=>wF e/\PE X x (yA X.K e)/\bI X xs es
 |_,_=>False
structure Good (Γ:Ctx3) (p:Par):Prop where
 mono:TabMono Γ
 un:p.A.units+200<cLine
 fn:∀ f∈Γ.fn,∀ X,Fits p X->Gl X f.nm->∀ (args:List Expr) (t:A3) (q pos:Pos),qI t->args.all noStar=true->PA X args (uY X.K t)->(args=[]->∀ σ G Q,t σ G Q->Q [] G)->(f.nm==("__debug__" : Str))=false->f.nm ≠ "__name__" ->
  PE X (.Call (.Name f.nm q) args [] pos) (yA X.K fun σ G Q=>t σ G fun ws G1=>f.sp ws G1 Q XN)
 gl:∀ g∈Γ.gl,∀ X,Fits p X->Gl X g.1->∀ q:Pos,(g.1==("__debug__" : Str))=false->g.1 ≠ "__name__" -> PE X (.Name g.1 q) (yA X.K fun _ G Q=>Q g.2 G)
 mt:∀ m∈Γ.mt,∀ X,Fits p X->∀ (o:Expr) (args:List Expr) (to:E3) (t:A3) (apos cpos:Pos),wF to->qI t->pI o=true->(apos.endLine==cpos.line)=true->args.length<25->args.all noStar=true ->
  PE X o (yA X.K to)->PA X args (uY X.K t)->(args=[]->∀ σ G Q,t σ G Q->Q [] G)->PE X (.Call (.Attribute o m.nm apos) args [] cpos) (yA X.K fun σ G Q=>to σ G fun x G1=>tyW G1 x m.T/\t σ G1 fun ws G2=>m.sp x ws G2 Q)
 it:∀ i∈Γ.it,∀ X,Fits p X->Gl X i.nm->∀ (tg:Expr) (args:List Expr) (t:A3) (q pos:Pos),qI t->args.all noStar=true->PA X args (uY X.K t)->(args=[]->∀ σ G Q,t σ G Q->Q [] G)->(i.nm==("__debug__" : Str))=false->i.nm ≠ "__name__" ->
  PI X tg (.Call (.Name i.nm q) args [] pos) (lowI X.K fun σ G R=>t σ G fun ws G1=>i.sp ws G1 R)
 cl:∀ c∈Γ.cl,Cls p.K c.1/\∀ f∈c.2,uP p.K c.1 f
 sx:∀ k∈Γ.sx,∀ X,Fits p X->∀ (e:Expr) (xs:List Expr) (es:List E3),k.m X.env.scope e=some xs->bI X xs es->xs.all noStar=true->PA X xs (uY X.K (fC es)) ->
  PE X e (yA X.K fun σ G Q=>fC es σ G fun ws G1=>k.sp ws G1 Q)/\(∀ whole,isTrue e X.env whole=(do let v ← whole;standAt e.pos;holding [v] (truthy v)))/\∀ op vs pos,e≠.BoolOp op vs pos
 ix:∀ k∈Γ.ix,∀ X,Fits p X->∀ (tg e:Expr) (xs:List Expr) (es:List E3),k.m X.env.scope e=some xs->bI X xs es->xs.all noStar=true->PA X xs (uY X.K (fC es)) ->
  PI X tg e (lowI X.K fun σ G R=>fC es σ G fun ws G1=>k.sp ws G1 R)
structure Lk (Γ:Ctx3) (M:MC) (p:Par) (X:Cx):Prop where
 fits:Fits p X
 N:X.N=M.N
 sc:X.env.scope=M.sc
 nd:M.N.Nodup
 own:∀ x,M.own x=true->X.fn x=true
 kind:M.sc.kind=.function
 fns:Γ.fn.map (·.nm)=M.fns
 gls:Γ.gl.map (·.1)=M.gls
 mts:Γ.mt.map (·.nm)=M.mts
 its:Γ.it.map (·.nm)=M.its
 sxs:Γ.sx.map (·.m)=M.sxm
 ixs:Γ.ix.map (·.m)=M.ixm
theorem qN {e:Expr} {es:List Expr} {env:Env} (h:noStar e=true):starEach (e::es) env=(false,eval e env)::starEach es env:=by
 cases e<;>first|rfl|exact absurd h zzN
theorem vS {o:Expr} {f:Str} {env:Env} {t:Sem Value} (h:pI o=true):attributeBase o f env t=t:=by
 unfold attributeBase
 split
 .exact absurd h zzN
 .rfl
theorem uH {e:Expr} {env:Env} (h:vE e=true):∀ x,foldedSetIterable e env x=pure x:=fun x=>by
 cases e<;>first|rfl|exact absurd h zzN
theorem kX {op:CmpOp} {e:Expr} (h:vE e=true):behindInMarks op e=false:=by
 cases e<;>first|rfl|exact absurd h zzN
theorem zen {e:Expr} (h:nQ e=true):zdI e:=fun o i=>by
 cases e<;>first|rfl|exact absurd h zzN
theorem jT {e:Expr} {t:Option Expr} {n:Nat} {env:Env} (h:sY e=true):swapsWith e t n env=pure false:=by
 cases e<;>first|rfl|exact absurd h zzN
theorem zhY {sc:Scope} {x:Str} (h:visB sc x=true):Vis sc x:=by
 unfold visB at h
 split at h
 .rename_i e;exact .inl e
 .rename_i e;exact .inr (.inl e)
 .rename_i e;exact .inr (.inr e)
 .exact absurd h zzN
theorem sO {X:Cx} {sc:Scope} {x:Str} (e:X.env.scope=sc) (h:vM sc x=true):Gl X x/\(x==("__debug__" : Str))=false/\x ≠ "__name__" := by
 unfold vM at h;simp only [Bool.and_eq_true,Bool.not_eq_true'] at h;refine ⟨?_,h.1.2,fun z=>?_⟩
 .show X.env.scope.names.lookup x=_;rw [e];exact eq_of_beq h.1.1
 .subst z;have:=h.2;simp at this
theorem yB {α:Type} [BEq α] [LawfulBEq α] {a:Option α} {b:α} (h:(a==some b)=true):a=some b:=eq_of_beq h
theorem jS {α β:Type} {f:α->β} {l:List α} {i:Nat} {y:β} (h:(l.map f)[i]?=some y):∃ x,l[i]?=some x/\f x=y:=by
 rw [List.getElem?_map] at h
 cases e:l[i]? with
 |none=>rw [e] at h;cases h
 |some x=>rw [e] at h;exact ⟨x,rfl,Option.some.inj h⟩
section
variable {X : Cx}
theorem zdT {K:yS} {e:E3} (m:wF e) {τ:L2.St} {H:Hp} {Q:Bool->Hp->Prop} (h:qS K (zQ e) τ H Q):yA K e τ H (fun x H'=>∃ k,TruV K x H' k/\Q k H'):=by
 obtain ⟨σ,G,hs,ha,h⟩:=h;refine xZ m hs ha h fun w G1 v H1 gr _ rp ab q=>?_
 split at q
 .rename_i b hb;exact ⟨b,zf4 rp ab hb,q H1 gr ab⟩
 .exact q.elim
theorem pt_of {x:Expr} {e:E3} (m:wF e) (h:PE X x (yA X.K e)) (he:∀ whole,isTrue x X.env whole=(do let v ← whole;standAt x.pos;holding [v] (truthy v))):PT X x (qS X.K (zQ e)) :=
 (zeg h he).imp fun σ H Q q=>zdT m q
theorem zaS {K:yS} {e:E3} (m:wF e) {τ:L2.St} {H:Hp} {Q:Bool->Hp->Prop} (h:qS K (yZ e) τ H Q):yA K e τ H (fun x H'=>∃ k,x=.bl k/\Q k H'):=by
 obtain ⟨σ,G,hs,ha,h⟩:=h;refine xZ m hs ha h fun w G1 v H1 gr _ rp ab q=>?_
 cases w with
 |bl b=>cases rp;exact ⟨b,rfl,q H1 gr ab⟩
 |_=>exact q.elim
theorem za8 {K:yS} {ea eb:E3} {r:R3} (ma:wF ea) (mb:wF eb) (mr:pG r) {τ:L2.St} {H:Hp} {Q:VK} (h:yA K (fun σ G Q=>ea σ G fun x G1=>eb σ G1 fun y G2=>r x y G2 Q) τ H Q) :
  tOp (rH K r) (yA K ea) (yA K eb) τ H Q:=by
 obtain ⟨σ,G,hs,ha,h⟩:=h;refine xZ ma hs ha h fun x G1 v H1 g1 hs1 rx a1 h1=>?_;refine xZ mb hs1 a1 h1 fun y G2 u H2 g2 hs2 ry a2 h2=>?_;exact ⟨x,y,G2,rx.mono g2,ry,a2,mr x y G2 _ _ (fun w G' q v' H' g'=>q v' H' ((g1.trans g2).trans g')) h2⟩
def Its (x:Str):It:=⟨fun i _=>i<x.cps.size,fun i H v H'=>H'=H/\∃ c,x.cps[i]?=some c/\v=.str ⟨#[c]⟩,fun i _=>x.cps.size<=i⟩
theorem zdR {P:Program} {w:World} {K:yS} {tg:Expr} (T:String) (hT:T = "str_ascii_iterator" \/ T = "str_iterator") (x:Str) (t:Tok) (it:Addr):Turn P w K tg (Its x) [it] it (fun i h=>h.IsStrIter it T x t i) where
 mem:=by simp
 obj:=fun i h st b hb=>by
  have e:b=it:=by simpa using hb
  subst e;obtain ⟨o,e,c,d⟩:=st;exact ⟨o,e,fun v z=>by rw [d] at z;cases z⟩
 keep:=fun i h h' st k=>let ⟨o,e,r⟩:=st;⟨o,k it (by simp) o e,r⟩
 item:=by
  intro X hP hw hK hc i pins s σ H E I hf st hg;subst hP hw hK;obtain ⟨f0,f1,f2,f3,f4,f5⟩:=hf it (by simp);have hi:i<x.cps.size:=hg;have hx:x.cps[i]?=some x.cps[i]:=by simp [hi]
  have fin:∀ h':Heap,h'.IsStrIter it T x t (i+1)->Heap.SameBut it s.heap h'->∃ u,some (Value.str ⟨#[x.cps[i]]⟩ s.toks)=some u /\
    wpAny (model X.prog X.w) X.A (letOwnedTupleGo tg (.ref it) u) (fun _ s2=>∃ v H',Inv X pins σ H' s2/\yY v u/\(Its x).yld i H v H'/\s2.heap.IsStrIter it T x t (i+1)/\∀ b∈[it],H' b=none) E { s with heap:=h',toks:=s.toks+1 }:=fun h' st' sb=>by
   have I1:Inv X pins σ H { s with heap:=h',toks:=s.toks+1 }:=I.turned (t':=s.toks+1) (fun b o hb e=>(sb.2 b hb).trans e) f0 f1 f3 f4 f5;obtain ⟨o,e,c,d⟩:=id st';exact ⟨_,rfl,zc8 (s:={ s with heap:=h',toks:=s.toks+1 }) e c d (by rcases hT with rfl|rfl<;>decide) ⟨.str ⟨#[x.cps[i]]⟩,H,I1,⟨_,rfl⟩,⟨rfl,_,hx,rfl⟩,st',fun b hb=>(hf b hb).1⟩⟩
  rcases hT with rfl|rfl
  .exact wpAny_pyNext_ascii_item st hx fin
  .exact wpAny_pyNext_wide_item st hx fin
 done:=by
  intro X hP hw hK hc i pins s σ H E I hf st hg;subst hP hw hK;obtain ⟨f0,f1,f2,f3,f4,f5⟩:=hf it (by simp);have hx:x.cps[i]?=none:=by have h:x.cps.size<=i:=hg;simp [h]
  rcases hT with rfl|rfl
  .exact wpAny_pyNext_ascii_end (I.ok.hd hc) st hx fun h' eb=>⟨rfl,I.turned (t':=s.toks) (fun b o hb e=>eb b o hb e) f0 f1 f3 f4 f5⟩
  .exact wpAny_pyNext_wide_end (I.ok.hd hc) st hx fun h' eb=>⟨rfl,I.turned (t':=s.toks) (fun b o hb e=>eb b o hb e) f0 f1 f3 f4 f5⟩
 self:=fun _ _ _ _ _ st h=>by
  rcases hT with rfl|rfl
  .exact wpAny_pyIter_striter_ascii st h
  .exact wpAny_pyIter_striter_wide st h
theorem ziL {tg l:Expr} {tl:TE} (hl:PE X l tl):PI X tg l (fun σ H R=>tl σ H fun x H1=>(∃ t,x=.str t/\R (Its t) H1)\/∃ a,x=.ref a/\(((∃ xs,pH X.K H1 a xs)/\R (Itl X.K a) H1)\/((∃ xs,rY X.K H1 a xs)/\R (Itt X.K a) H1)\/∃ l,Rd H1 a (.dK l)/\∀ ob,(∀ ob',H1 a=some (.frz ob' (.dK l))->ob'=ob)->R (Itd a ob l) (xR H1 a (.frz ob (.dK l))))):=by
 intro pins s σ H R I h;refine yF (hl pins s σ H _ I h) fun v s1 ⟨x,H1,I1,r1,q1⟩=>?_;rcases q1 with ⟨tx,e,q⟩|q1
 .subst e;obtain ⟨tk,rfl⟩:=r1
  have fin:∀ T,(T = "str_ascii_iterator" \/ T = "str_iterator")->∀ o:Obj,o.isFreed=false->o.cls=.type T->o.data=.fields #[.str tx tk,.int 0 0]->PIE X pins σ tg R (.ref s1.heap.objs.size) { s1 with heap:=s1.heap.push o }   := fun T hT o hz hc hd=>by
   refine ⟨s1.heap.objs.size,[s1.heap.objs.size],_,_,H1,rfl,I1.kept (t':=s1.toks) fun b o e=>Heap.get?_push_of_some _ e,zdR T hT tx tk _,⟨_,Heap.get?_push_size _ hz,hc,hd⟩,fun b hb=>?_,q⟩;have e:b=s1.heap.objs.size:=by simpa using hb
   subst e;exact I1.fpOk (zzR _) (I1.hok.fresh (zzR _))
  cases hasc:tx.cps.all (· < 128)
  .exact wpAny_pyIter_wide hasc (fin _ (.inr rfl) _ rfl rfl rfl)
  .exact wpAny_pyIter_ascii hasc (fin _ (.inl rfl) _ rfl rfl rfl)
 obtain ⟨a,e,q1⟩:=q1;subst e;cases r1;rcases q1 with ⟨⟨xs,hq⟩,q⟩|⟨⟨xs,hq⟩,q⟩|⟨l,hq,q⟩
 rotate_left 2
 .exact zhw I1 hq q
 .obtain ⟨its,rv,p,hz⟩:=I1.list hq;refine wpAny_pyIter_list p.isList ?_;refine ⟨s1.heap.objs.size,[s1.heap.objs.size],_,_,H1,rfl,I1.kept (t':=s1.toks) fun b o e=>Heap.get?_push_of_some _ e,zb0 a _,⟨_,Heap.get?_push_size _ rfl,rfl,rfl⟩,fun b hb=>?_,q⟩;have e:b=s1.heap.objs.size:=by simpa using hb
  subst e;exact I1.fpOk (zzR _) (I1.hok.fresh (zzR _))
 .obtain ⟨its,rv,p,hz⟩:=I1.tuple hq;refine wpAny_pyIter_tuple (show s1.heap.IsTuple a its.toArray from p) ?_;refine ⟨s1.heap.objs.size,[s1.heap.objs.size],_,_,H1,rfl,I1.kept (t':=s1.toks) fun b o e=>Heap.get?_push_of_some _ e,zbw a _,⟨_,Heap.get?_push_size _ rfl,rfl,rfl⟩,fun b hb=>?_,q⟩;have e:b=s1.heap.objs.size:=by simpa using hb
  subst e;exact I1.fpOk (zzR _) (I1.hok.fresh (zzR _))
theorem zjK {K:yS} {x:Str} {H1:Hp}:ItIs K (Its x) H1 (sgs x) (fun _=>True) where
 go:=fun i H G _ ab st hi=>by
  have h:i<(sgs x).length:=hi;show i<x.cps.size;simpa [sgs] using h
 yld:=fun i H G v H' _ ab st hi y=>by
  obtain ⟨rfl,c,e,rfl⟩:=y;refine ⟨.str ⟨#[c]⟩,?_,.refl,rfl,ab⟩;simp [sgs,e]
 stop:=fun i H G _ ab st hi=>by
  have h:(sgs x).length<=i:=hi;show x.cps.size<=i;simpa [sgs] using h
theorem zjM {K:yS} {a:Addr} {H1:Hp} {ws:List W}:ItIs K (Itl K a) H1 ws (fun G=>yR G a=some ws) where
 go:=fun i H G _ ab st hi=>by
  obtain ⟨vs,sq,rs⟩:=ab.seq st;have hl:=rs.length;obtain ⟨v,e⟩:∃ v,vs[i]?=some v:=⟨vs[i]'(by omega),List.getElem?_eq_getElem _⟩;exact ⟨vs,v,sq,e⟩
 yld:=fun i H G x H' _ ab st hi y=>by
  obtain ⟨vs,sq,rs⟩:=ab.seq st;obtain ⟨e,y⟩:=y;subst e;obtain ⟨w,ew,rp⟩:=rs.get' (y vs sq);exact ⟨w,ew,.refl,rp,ab⟩
 stop:=fun i H G _ ab st hi=>by
  obtain ⟨vs,sq,rs⟩:=ab.seq st;exact ⟨vs,sq,by rw [rs.length];exact hi⟩
theorem zjJ {K:yS} {a:Addr} {H1:Hp} {ws:List W} {vs:List V} (sq:rY K H1 a vs) (rs:zF K H1 ws vs):ItIs K (Itt K a) H1 ws (fun _=>True) where
 go:=fun i H G g ab st hi=>by
  have hl:=rs.length;obtain ⟨v,e⟩:∃ v,vs[i]?=some v:=⟨vs[i]'(by omega),List.getElem?_eq_getElem _⟩;exact ⟨vs,v,g.1 _ _ sq,e⟩
 yld:=fun i H G x H' g ab st hi y=>by
  obtain ⟨e,y⟩:=y;subst e;obtain ⟨w,ew,rp⟩:=(rs.mono g).get' (y vs (g.1 _ _ sq));exact ⟨w,ew,.refl,rp,ab⟩
 stop:=fun i H G g ab st hi=>⟨vs,g.1 _ _ sq,by rw [rs.length];exact hi⟩
theorem xP.rdD {K:yS} {H:Hp} {G:Hw} {p:Addr} {kvs:List (xY×W)} (ab:xP K H G) (e:zdn G p=some kvs):∃ l,Rd H p (.dK l)/\yQ K H kvs l:=by
 unfold zdn at e
 split at e
 .rename_i q;cases e;obtain ⟨u,e',l,rfl,r⟩:=ab p _ q;exact ⟨l,.inl e',r⟩
 .rename_i q;cases e;obtain ⟨u,e',ob,l,rfl,r⟩:=ab p _ q;exact ⟨l,.inr ⟨ob,e'⟩,r⟩
 .cases e
theorem xP.freeze {K:yS} {H:Hp} {G:Hw} {p:Addr} {kvs:List (xY×W)} {l:List (xY×V)} {ob:Obj} (ab:xP K H G) (e:zdn G p=some kvs) (hl:Rd H p (.dK l)) (rk:yQ K H kvs l) :
  (∀ ob',H p=some (.frz ob' (.dK l))->ob'=ob)->yM K H (xR H p (.frz ob (.dK l)))/\xP K (xR H p (.frz ob (.dK l))) (put G p (.fzd kvs)):=by
 intro same;unfold zdn at e
 split at e
 .rename_i q;cases e;have g:yM K H (xR H p (.frz ob (.dK l))):=ab.grow q;exact ⟨g,ab.chg q ⟨ob,l,rfl,rk.mono g⟩⟩
 .rename_i q;cases e;obtain ⟨u,e',ob2,l2,rfl,r⟩:=ab p _ q
  have hp:H p=some (.frz ob (.dK l)):=by
   rcases hl with h|⟨o,h⟩
   .rw [h] at e';cases e'
   .rw [h,same o h]
  rw [vK hp];refine ⟨.refl,fun b o z=>?_⟩
  by_cases hb:b=p
  .subst hb;rw [zK] at z;cases z;exact ⟨_,hp,ob,l,rfl,rk⟩
  .rw [xJ hb] at z;exact ab b o z
 .cases e
theorem yQ.keyAt {K:yS} {H:Hp} {κ:Type}:∀ {l:List (κ×W)} {l':List (κ×V)} {i:Nat} {p:κ×V},yQ K H l l'->l'[i]?=some p->∃ w,l[i]?=some (p.1,w)
 | [],_,i,p,h,e=>by rw [show _=[] from h] at e;simp at e
 | (k,w)::_,_,0,p,⟨v,t,e,h,r⟩,q=>by subst e;simp at q;subst q;exact ⟨w,rfl⟩
 |_::_,_,i+1,p,⟨v,t,e,h,r⟩,q=>by
  subst e;obtain ⟨w,h1⟩:=yQ.keyAt (i:=i) (p:=p) r (by simpa using q);exact ⟨w,by simpa using h1⟩
theorem zjD {K:yS} {H:Hp} (k:xY):wX K H (kW k) (kV k):=by
 cases k<;>rfl
theorem zjO {K:yS} {d:Addr} {ob:Obj} {l:List (xY×V)} {H1:Hp} {kvs:List (xY×W)} (e:H1 d=some (.frz ob (.dK l))) (rk:yQ K H1 kvs l):ItIs K (Itd d ob l) H1 (kvs.map fun kv=>kW kv.1) (fun G=>G d=some (.fzd kvs)) where
 go:=fun i H G g ab st hi=>⟨g.2 _ _ True.intro e,by rw [rk.length];simpa using hi⟩
 yld:=fun i H G x H' g ab st hi y=>by
  obtain ⟨e1,p,e2,e3⟩:=y;subst e1;subst e3;obtain ⟨w,ew⟩:=rk.keyAt e2;exact ⟨kW p.1,by rw [List.getElem?_map,ew];rfl,.refl,zjD _,ab⟩
 stop:=fun i H G g ab st hi=>⟨g.2 _ _ True.intro e,by rw [rk.length];simpa using hi⟩
theorem ziM {tg x:Expr} {e:E3} (m:wF e) (h:PE X x (yA X.K e)):PI X tg x (lowI X.K fun σ G R=>e σ G fun w G1=>uV w G1 R):=by
 intro pins s σ H R I q;refine ziL h pins s σ H R I ?_;obtain ⟨σ3,G,hs,ha,q⟩:=q;refine xZ m hs ha q fun w G1 v H1 gr hs1 rp ab q=>?_
 cases w with
 |tup ws =>
  obtain ⟨a,vs,rfl,sq,rs⟩:=rp;exact .inr ⟨a,rfl,.inr (.inl ⟨⟨vs,sq⟩,q _ H1 gr ab (zjJ sq rs)⟩)⟩
 |ref p =>
  cases rp;simp only [uV] at q
  split at q
  .rename_i ws e;obtain ⟨vs,sq,rs⟩:=ab.seq e;exact .inr ⟨p,rfl,.inl ⟨⟨vs,sq⟩,q _ H1 gr ab zjM⟩⟩
  .split at q
   .rename_i kvs e;obtain ⟨l,hl,rk⟩:=ab.rdD e;refine .inr ⟨p,rfl,.inr (.inr ⟨l,hl,fun ob same=>?_⟩)⟩;obtain ⟨g2,a2⟩:=ab.freeze (ob:=ob) e hl rk same;exact q _ _ (gr.trans g2) a2 (zjO (yD) (rk.mono g2))
   .exact q.elim
 |str t =>
  cases rp;exact .inl ⟨t,rfl,q _ H1 gr ab zjK⟩
 |_=>exact q.elim
def lowG (K:yS) (t:G3):TG:=fun v τ H Q=>∃ w σ G,wX K H w v/\yV K H σ τ/\xP K H G/\t w σ G fun σ' G'=>∀ τ' H',yM K H H'->yV K H' σ' τ'->xP K H' G'->Q τ' H'
def lowGs (K:yS) (t:Gs3):TGs:=fun vs τ H Q=>∃ ws σ G,zF K H ws vs/\yV K H σ τ/\xP K H G/\t ws σ G fun σ' G'=>∀ τ' H',yM K H H'->yV K H' σ' τ'->xP K H' G'->Q τ' H'
theorem _root_.L2.PG.imp {tg:Expr} {t t':TG} (h:PG X tg t) (k:∀ v σ H Q,t' v σ H Q->t v σ H Q):PG X tg t':=fun pins s σ H v u Q I r q=>h pins s σ H v u Q I r (k v σ H Q q)
theorem _root_.L2.PGs.imp {tg:List Expr} {t t':TGs} (h:PGs X tg t) (k:∀ v σ H Q,t' v σ H Q->t v σ H Q):PGs X tg t':=fun pins s σ H v u Q I r q=>h pins s σ H v u Q I r (k v σ H Q q)
theorem dO {e:Expr} {es:List Expr} {env:Env} (h:noStar e=true):assignEach (e::es) env=(false,assign e env)::assignEach es env:=by
 cases e<;>first|rfl|exact absurd h zzN
end
def MonoG (t:G3):Prop:=∀ w σ G (Q Q':wI->Hw->Prop),(∀ a b,Q a b->Q' a b)->t w σ G Q->t w σ G Q'
def zkm (t:Gs3):Prop:=∀ w σ G (Q Q':wI->Hw->Prop),(∀ a b,Q a b->Q' a b)->t w σ G Q->t w σ G Q'
mutual
theorem tW:∀ t:ITg,MonoG (zV t)
 | .nm i=>fun w σ G Q Q' k h=>k _ _ h
 | .tup ts=>fun w σ G Q Q' k h=>by
  cases w with
  |tup ws=>exact gL ts ws σ G Q Q' k h
  |_=>exact h.elim
theorem gL:∀ ts:ITgs,zkm (zY ts)
 | .nil=>fun w σ G Q Q' k h=>by
  cases w with
  |nil=>exact k _ _ h
  |cons _ _=>exact h.elim
 | .cons t ts=>fun w σ G Q Q' k h=>by
  cases w with
  |nil=>exact h.elim
  |cons x r=>exact tW t x σ G _ _ (fun σ' G' h=>gL ts r σ' G' Q Q' k h) h
end
theorem gC {Γ:Ctx3} {M:MC} {p:Par} {X:Cx} (L:Lk Γ M p X) {x:Str} (h:dQ M x=true):Loc X.env.scope x/\(X.fn x=true\/X.env.scope.names.lookup x=some .local):=by
 unfold dQ at h;rw [L.sc]
 split at h
 .rename_i e;exact ⟨.inl e,.inr e⟩
 .rename_i e;exact ⟨.inr e,.inl (L.own x h)⟩
 .exact absurd h zzN
mutual
theorem sndG {Γ:Ctx3} {M:MC} {p:Par} {X:Cx} (L:Lk Γ M p X):∀ (t:ITg) (x:Expr),mG M t x=true->PG X x (lowG X.K (zV t))
  | .nm i,x,h=>by
   cases x with
   |Name y q =>
    replace h:=uE h;have lo:=gC L h.2;refine (zau (i:=i) (L.N▸L.nd) (by rw [L.N];exact yB h.1) lo.1 lo.2).imp fun v σ H Q q=>?_;obtain ⟨w,σ3,G,rp,hs,ab,q⟩:=q;exact q _ _ .refl (hs.set rp i) ab
   |_=>exact absurd h zzN
  | .tup ts,x,h=>by
   cases x with
   |Tuple es k q =>
    skip
    obtain ⟨ps,hn,hst⟩:=zgf L ts es h;refine (zfp (n:=es.length) L.fits.calm ps hn hst).imp fun v σ H Q q=>?_;obtain ⟨w,σ3,G,rp,hs,ab,q⟩:=q
    cases w with
    |tup ws =>
      obtain ⟨a,vs,rfl,sq,rs⟩:=rp;refine ⟨a,vs,rfl,sq,?_,ws,σ3,G,rs,hs,ab,q⟩;rw [rs.length];exact zeB ts es ws σ3 G _ h q
    |_=>exact q.elim
   |_=>exact absurd h zzN
theorem zgf {Γ:Ctx3} {M:MC} {p:Par} {X:Cx} (L:Lk Γ M p X):∀ (ts:ITgs) (xs:List Expr),mGs M ts xs=true->PGs X xs (lowGs X.K (zY ts))/\(assignEach xs X.env).length=xs.length/\(assignEach xs X.env).findIdx? (·.1)=none
 | .nil,[],_=>⟨(zct).imp fun vs σ H Q q=>by
   obtain ⟨ws,σ3,G,rs,hs,ab,q⟩:=q
   cases ws with
   |nil=>exact ⟨rs,q _ _ .refl hs ab⟩
   |cons _ _=>exact q.elim,rfl,rfl⟩
 | .cons t ts,x::xs,h=>by
  simp only [mGs,Bool.and_eq_true] at h;obtain ⟨ps,hn,hst⟩:=zgf L ts xs h.2;have es:=dO (es:=xs) (env:=X.env) h.1.1;refine ⟨(hJ (sndG L t x h.1.2) ps (by rw [es];rfl)).imp fun vs σ H Q q=>?_,by rw [es,List.length_cons,List.length_cons,hn],?_⟩
  .obtain ⟨ws,σ3,G,rs,hs,ab,q⟩:=q
   cases ws with
   |nil=>exact q.elim
   |cons w r =>
    obtain ⟨v,vr,e,rp,rr⟩:=rs;refine ⟨v,vr,e,w,σ3,G,rp,hs,ab,tW t w σ3 G _ _ (fun σ' G' q τ' H' g' hs' ab'=>?_) q⟩;exact ⟨r,σ',G',rr.mono g',hs',ab',gL ts r σ' G' _ _ (fun σ2 G2 q τ2 H2 g2=>q τ2 H2 (g'.trans g2)) q⟩
  .rw [es,List.findIdx?_cons];simp only [zzB,if_false,hst];rfl
theorem zeB {M:MC}:∀ (ts:ITgs) (xs:List Expr) (ws:List W) (σ:wI) (G:Hw) (Q:wI->Hw->Prop),mGs M ts xs=true->zY ts ws σ G Q->ws.length=xs.length
 | .nil,[],ws,σ,G,Q,_,q=>by
  cases ws with
  |nil=>rfl
  |cons _ _=>exact q.elim
 | .cons t ts,x::xs,ws,σ,G,Q,h,q=>by
  simp only [mGs,Bool.and_eq_true] at h
  cases ws with
  |nil=>exact q.elim
  |cons w r =>
   have:∃ σ' G',zY ts r σ' G' Q:=exG t w σ G _ q;obtain ⟨σ',G',q'⟩:=this;rw [List.length_cons,List.length_cons,zeB ts xs r σ' G' Q h.2 q']
theorem exG:∀ (t:ITg) (w:W) (σ:wI) (G:Hw) (Q:wI->Hw->Prop),zV t w σ G Q->∃ σ' G',Q σ' G'
 | .nm i,w,σ,G,Q,q=>⟨_,_,q⟩
 | .tup ts,w,σ,G,Q,q=>by
  cases w with
  |tup ws=>exact exGs ts ws σ G Q q
  |_=>exact q.elim
theorem exGs:∀ (ts:ITgs) (ws:List W) (σ:wI) (G:Hw) (Q:wI->Hw->Prop),zY ts ws σ G Q->∃ σ' G',Q σ' G'
 | .nil,ws,σ,G,Q,q=>by
  cases ws with
  |nil=>exact ⟨_,_,q⟩
  |cons _ _=>exact q.elim
 | .cons t ts,ws,σ,G,Q,q=>by
  cases ws with
  |nil=>exact q.elim
  |cons w r =>
   obtain ⟨σ',G',q'⟩:=exG t w σ G _ q;exact exGs ts r σ' G' Q q'
end
def lowO (K:yS) (t:wI->Hw->(Option Int->Hw->Prop)->Prop):TO:=fun τ H Q=>∃ σ G,yV K H σ τ/\xP K H G/\t σ G fun o G'=>∀ H',yM K H H'->xP K H' G'->Q o H'
theorem _root_.L2.PO.imp {X:Cx} {e:Option Expr} {t t':TO} (h:PO X e t) (k:∀ σ H Q,t' σ H Q->t σ H Q):PO X e t':=fun pins s σ H Q I q=>h pins s σ H Q I (k σ H Q q)
theorem _root_.L2.PTs.imp {X:Cx} {e:List Expr} {t t':TT} (h:PTs X e t) (k:∀ σ H Q,t' σ H Q->t σ H Q):PTs X e t':=fun pins s σ H Q I q=>h pins s σ H Q I (k σ H Q q)
theorem _root_.L2.PI.imp {X:Cx} {tg x:Expr} {t t':TI} (h:PI X tg x t) (k:∀ σ H R,t' σ H R->t σ H R):PI X tg x t':=fun pins s σ H R I q=>h pins s σ H R I (k σ H R q)
def capV (k:Nat) (caps:List Nat) (σ:L2.St):L2.St:=List.replicate k none++caps.map fun j=>(σ[j]?).join
theorem nG {α:Type} {k:Nat} {caps:List Nat} {σ:List (Option α)} {i:Nat} {v:α} (h:(List.replicate k none++caps.map fun j=>(σ[j]?).join)[i]?=some (some v)):k<=i/\∃ j,caps[i-k]?=some j/\σ[j]?=some (some v):=by
 by_cases hi:i<k
 .rw [List.getElem?_append_left (by simpa using hi),List.getElem?_replicate,if_pos hi] at h;cases h
 .rw [List.getElem?_append_right (by simpa using hi),List.length_replicate,List.getElem?_map] at h;refine ⟨by omega,?_⟩
  cases e:caps[i-k]? with
  |none=>rw [e] at h;cases h
  |some j =>
   rw [e] at h;have h':(σ[j]?).join=some v:=Option.some.inj h;refine ⟨j,rfl,?_⟩
   cases q:σ[j]? with
   |none=>rw [q] at h';cases h'
   |some o=>rw [q] at h';exact congrArg some h'
theorem zdx {K:yS} {H:Hp} {σ:wI} {τ:L2.St} (h:yV K H σ τ) (k:Nat) (caps:List Nat):yV K H (pZ k caps σ) (capV k caps τ):=by
 refine ⟨by simp [pZ,capV],fun i w e=>?_⟩;obtain ⟨hk,j,ej,es⟩:=nG e;obtain ⟨v,ev,rp⟩:=h.2 j w es;refine ⟨v,?_,rp⟩;unfold capV;rw [List.getElem?_append_right (by simpa using hk),List.length_replicate,List.getElem?_map,ej];simp [ev]
theorem gY:∀ {l:List Str},rO l=true->l.Nodup
 | [],_=>List.nodup_nil
 |x::r,h=>by
  simp only [rO,Bool.and_eq_true,Bool.not_eq_true'] at h;refine List.nodup_cons.mpr ⟨fun hm=>?_,gY h.2⟩;have:=List.elem_eq_true_of_mem hm;rw [List.contains_eq_mem] at h;simp [hm] at h
theorem zcl {X:Cx} {sc out:Scope} (e:X.env.scope=out):relabel sc X.env=relS sc out:=by
 unfold relabel relS Env.kindOf;rw [e]
theorem zbt {X:Cx} {sc out:Scope} (e:X.env.scope=out) (h:blkB out sc=true):BlkSc X sc:=by
 unfold blkB at h;simp only [Bool.and_eq_true,List.all_eq_true] at h;obtain ⟨⟨⟨h1,h2⟩,h3⟩,h4⟩:=h;refine ⟨eq_of_beq h1,fun y hy=>?_,fun y hy=>?_,fun x hx=>?_,fun y hy z=>?_⟩
 .simpa using (h2 _ hy).1
 .simpa using (h2 _ hy).2
 .have:=h3 _ hx;simp only [beq_self_eq_true,Bool.not_true,Bool.false_or,Bool.or_eq_true,beq_iff_eq] at this;show X.env.scope.names.lookup x=_\/X.env.scope.names.lookup x=_;rw [e];exact this
 .have:=h4 y hy;rw [z] at this;simpa using this
theorem bV {X:Cx} {M:MC} {sc:Scope} {names:List Str} {caps:List Nat} (eN:X.N=M.N) (es:X.env.scope=M.sc)
  (h:(caps.all fun j=>decide (j<M.N.length)&&(sc.names.lookup (M.N.getD j Str.empty)==some .free))=true) :
  Caps X sc (names++caps.map (fun j=>M.N.getD j Str.empty)) (capV names.length caps):=by
 intro σ hl;simp only [List.all_eq_true,Bool.and_eq_true,decide_eq_true_eq,Bool.not_eq_true'] at h;refine ⟨by simp [capV],fun i x v hN hσ _=>?_⟩;obtain ⟨hk,j,ej,e⟩:=nG hσ;rw [List.getElem?_append_right hk,List.getElem?_map,ej] at hN;have hx:M.N.getD j Str.empty=x:=Option.some.inj hN;have hj:=h j (List.mem_of_getElem? ej);refine ⟨?_,j,?_,e⟩
 .rw [← hx];exact eq_of_beq hj.2
 .rw [eN,← hx,List.getD_eq_getElem?_getD,List.getElem?_eq_getElem hj.1];rfl
theorem zfC {K:yS} {J:It} {H1:Hp} {items:List W} {stab:Hw->Prop} {G1:Hw} {σ:wI} {τ:L2.St} {tg:ITg} {c:T3} {e:E3} {Q:VK} {H0:Hp} (mc:uO c) (me:wF e) (it:ItIs K J H1 items stab) (ab:xP K H1 G1) (hs:yV K H1 σ τ) (g0:yM K H0 H1)
  (hw:∀ w G' (Q:wI->Hw->Prop),zV tg w σ G' Q->zV tg w σ G' fun σ2 G2=>(σ2.length=σ.length/\∀ (i:Nat) (v:W),σ[i]?=some (some v)->σ2[i]?=some (some v))/\Q σ2 G2)
  (h:lcR items stab G1 (fun w G' K=>zV tg w σ G' fun σ2 G2=>c σ2 G2 fun b G3=>if b=true then e σ2 G3 fun x G4=>K (some x) G4 else K none G3) (qE K H0 Q)) :
  tLCb J τ (lowG K (zV tg)) (qS K c) (fun τ H Q=>yM K H0 H/\yA K e τ H Q) (fun acc H'=>∀ p,H' p=none->Q (.ref p) (xR H' p (.lst acc))) H1:=by
 obtain ⟨Pv,p0,pst,hlen,step,fin⟩:=h;refine ⟨fun i m τ acc H=>m+i=items.length/\yM K H1 H/\yV K H σ τ/\∃ ws G,zF K H ws acc/\xP K H G/\Pv i ws G,⟨items.length,rfl,.refl,hs,[],G1,rfl,ab,p0⟩,?_⟩;rintro i m τ acc H ⟨hm,gr,hs,ws,G,rs,a,pv⟩;have hst:=pst i ws G pv (by omega);have hacc:acc.length=ws.length:=rs.length
 by_cases hi:i<items.length
 .refine .inr ⟨it.go i H G gr a hst.1 hi,by omega,fun x H' y=>?_⟩;obtain ⟨w,ew,g1,rp,a1⟩:=it.yld i H G x H' gr a hst.1 hi y;refine ⟨w,σ,G,rp,hs.mono g1,a1,tW tg w σ G _ _ (fun σ2 G2 q τ2 H2 g2 hs2 a2=>?_) (hw w G _ (step i w ws G ew pv))⟩;obtain ⟨⟨wl,wk⟩,q⟩:=q;have back:∀ {τ':L2.St} {H':Hp},yV K H' σ2 τ'->yV K H' σ τ':=fun {τ' H'} r=>⟨by rw [← wl];exact r.1,fun k w e=>r.2 k w (wk k w e)⟩;refine sE mc hs2 a2 q fun b G3 H3 g3 hs3 a3 q3=>?_
  cases b with
  |true =>
   rw [if_pos rfl] at q3 ⊢;refine ⟨g0.trans (gr.trans (g1.trans (g2.trans g3))),xZ me hs3 a3 q3 fun x G4 v H4 g4 hs4 rx a4 q4=>?_⟩;refine ⟨m-1,by omega,by omega,gr.trans (g1.trans (g2.trans (g3.trans g4))),back hs4,ws++[x],G4,?_,a4,q4⟩;exact (rs.mono (g1.trans (g2.trans (g3.trans g4)))).append ⟨v,[],rfl,rx,rfl⟩
  |false =>
   rw [if_neg (by decide)] at q3 ⊢;exact ⟨m-1,by omega,by omega,gr.trans (g1.trans (g2.trans g3)),back hs3,ws,G3,rs.mono (g1.trans (g2.trans g3)),a3,q3⟩
 .refine .inl ⟨it.stop i H G gr a hst.1 (by omega),fun p hp=>?_⟩;have ei:i=items.length:=by omega
  subst ei;exact fin ws G pv p (a.free hp) _ _ ((g0.trans gr).trans (wZ hp)) rfl (a.new hp ⟨acc,rfl,rs.mono (wZ hp)⟩)
theorem cX:∀ (tg:ITg) (w:W) (σ:wI) (G:Hw) (Q:wI->Hw->Prop),zV tg w σ G Q->zV tg w σ G fun σ2 G2=>σ2.length=σ.length/\Q σ2 G2:=by
 intro tg
 refine ITg.rec (motive_1:=fun _=>True) (motive_2:=fun _=>True) (motive_3:=fun _=>True) (motive_4:=fun _=>True) (motive_5:=fun tg=>∀ (w:W) (σ:wI) (G:Hw) (Q:wI->Hw->Prop),zV tg w σ G Q->zV tg w σ G fun σ2 G2=>σ2.length=σ.length/\Q σ2 G2)
  (motive_6:=fun ts=>∀ (ws:List W) (σ:wI) (G:Hw) (Q:wI->Hw->Prop),zY ts ws σ G Q->zY ts ws σ G fun σ2 G2=>σ2.length=σ.length/\Q σ2 G2)
  ?_ ?_ ?_ ?_ ?_ ?_ ?_ ?_ ?_ ?_ ?_ ?_ ?_ ?_ ?_ ?_ ?_ ?_ ?_ ?_ ?_ ?_ ?_ ?_ ?_ ?_ ?_ ?_ ?_ ?nm ?tup ?nil ?cons tg
 case nm=>exact fun i w σ G Q h=>⟨by simp,h⟩
 case tup =>
  intro ts ih w σ G Q h
  cases w with
  |tup ws=>exact ih ws σ G Q h
  |_=>exact h.elim
 case nil =>
  intro ws σ G Q h
  cases ws with
  |nil=>exact ⟨rfl,h⟩
  |cons _ _=>exact h.elim
 case cons =>
  intro t ts ht hts ws σ G Q h
  cases ws with
  |nil=>exact h.elim
  |cons w r =>
   refine tW t w σ G _ _ (fun σ' G' q=>?_) (ht w σ G _ h);exact gL ts r σ' G' _ _ (fun σ2 G2 q2=>⟨q2.1.trans q.1,q2.2⟩) (hts r σ' G' Q q.2)
 all_goals intros;trivial
mutual
theorem mB:∀ (tg:ITg) (w:W) (σ:wI) (G:Hw) (Q:wI->Hw->Prop),zV tg w σ G Q->zV tg w σ G fun σ2 G2=>(∀ i,i∉tgIx tg->σ2[i]?=σ[i]?)/\Q σ2 G2
 | .nm j,w,σ,G,Q,h=>⟨fun i hi=>by rw [List.getElem?_set_ne];intro z;exact hi (by simp [tgIx,z]),h⟩
 | .tup ts,w,σ,G,Q,h=>by
  cases w with
  |tup ws=>exact cY ts ws σ G Q h
  |_=>exact h.elim
theorem cY:∀ (ts:ITgs) (ws:List W) (σ:wI) (G:Hw) (Q:wI->Hw->Prop),zY ts ws σ G Q->zY ts ws σ G fun σ2 G2=>(∀ i,i∉zdV ts->σ2[i]?=σ[i]?)/\Q σ2 G2
 | .nil,ws,σ,G,Q,h=>by
  cases ws with
  |nil=>exact ⟨fun _ _=>rfl,h⟩
  |cons _ _=>exact h.elim
 | .cons t ts,ws,σ,G,Q,h=>by
  cases ws with
  |nil=>exact h.elim
  |cons w r =>
   refine tW t w σ G _ _ (fun σ' G' q=>?_) (mB t w σ G _ h);refine gL ts r σ' G' _ _ (fun σ2 G2 q2=>⟨fun i hi=>?_,q2.2⟩) (cY ts r σ' G' Q q.2);simp only [zdV,List.mem_append,not_or] at hi;rw [q2.1 i hi.2,q.1 i hi.1]
end
theorem zdo {K:yS} {H:Hp}:∀ (ks:List Str) {ws:List W} {vs:List V} {a:List (xY×W)} {b:List (xY×V)},zF K H ws vs->yQ K H a b ->
  yQ K H ((ks.zip ws).foldl (fun acc kv=>dP acc (.inr kv.1) kv.2) a) (((ks.zip vs).map fun kv=>((Sum.inr kv.1:xY),kv.2)).foldl (fun acc kv=>vO acc kv.1 kv.2) b)
 | [],ws,vs,a,b,_,h=>by simpa using h
 |k::ks,[],vs,a,b,hr,h=>by rw [show vs=[] from hr];simpa using h
 |k::ks,w::ws,vs,a,b,hr,h=>by
  obtain ⟨v,r,e,rw',rr⟩:=hr;subst e;simp only [List.zip_cons_cons,List.foldl_cons,zzU];exact zdo ks rr (h.put rw')
theorem gH {K:yS} {H:Hp} {f:Str} {w:W}:∀ {l:List (Str×W)} {l':List (Str×V)},yQ K H l l'->l.lookup f=some w->∃ v,l'.lookup f=some v/\wX K H w v
 | [],_,h,e=>by cases e
 |p::r,_,⟨v,t,e,h,hr⟩,q=>by
  subst e;obtain ⟨n,u⟩:=p;rw [List.lookup_cons] at q ⊢
  cases hx:f==n with
  |true=>rw [hx] at q;cases q;exact ⟨v,rfl,h⟩
  |false=>rw [hx] at q;exact gH hr q
theorem ze8 {K:yS} {H:Hp} {G:Hw} {w:W} {v:V} {T:String} (r:wX K H w v) (ab:xP K H G) (h:tyW G w T):tyV K T v H:=by
 cases w with
 |str x=>cases r;exact h
 |ref p =>
  cases r;simp only [tyW] at h
  split at h
  .rename_i ws e;obtain ⟨vs,q,_⟩:=ab.lst e;exact .inl ⟨h,vs,.of q⟩
  .rename_i ws e;obtain ⟨vs,q,_⟩:=ab.seq (a:=p) (ws:=ws) (by unfold yR;rw [e]);exact .inl ⟨h,vs,q⟩
  .rename_i kvs e;obtain ⟨l,q,_⟩:=ab.dic e;exact .inr (.inr (.inl ⟨h,.inl ⟨l,q⟩⟩))
  .exact h.elim
 |_=>exact h.elim
theorem zcI {l:List Nat} {k:Nat} (h:l.all (fun i=>decide (i<k))=true) {i:Nat} (hi:k<=i):i∉l:=fun hm=>by
 have:=List.all_eq_true.mp h i hm;simp at this;omega
theorem zg2 {op:CmpOp} {a b:IE} {M:MC} {l:Expr} {os:List CmpOp} {rs:List Expr} {q:Pos} (h:mE (.cmp op a b) M (.Compare l os rs q)=true):∃ o r,os=[o]/\rs=[r]:=by
 cases os with
 |nil=>exact absurd h zzN
 |cons o os =>
  cases os with
  |cons _ _=>exact absurd h zzN
  |nil =>
   cases rs with
   |nil=>exact absurd h zzN
   |cons r rs =>
    cases rs with
    |cons _ _=>exact absurd h zzN
    |nil=>exact ⟨o,r,rfl,rfl⟩
theorem zg3 {o1 o2:CmpOp} {a b c:IE} {M:MC} {l:Expr} {os:List CmpOp} {rs:List Expr} {q:Pos} (h:mE (.chn o1 o2 a b c) M (.Compare l os rs q)=true):∃ p1 p2 r t,os=[p1,p2]/\rs=[r,t]:=by
 cases os with
 |nil=>exact absurd h zzN
 |cons p1 os =>
  cases os with
  |nil=>exact absurd h zzN
  |cons p2 os =>
   cases os with
   |cons _ _=>exact absurd h zzN
   |nil =>
    cases rs with
    |nil=>exact absurd h zzN
    |cons r rs =>
     cases rs with
     |nil=>exact absurd h zzN
     |cons t rs =>
      cases rs with
      |cons _ _=>exact absurd h zzN
      |nil=>exact ⟨p1,p2,r,t,rfl,rfl⟩
theorem zg4 {o1 o2 o3:CmpOp} {a b c d:IE} {M:MC} {l:Expr} {os:List CmpOp} {rs:List Expr} {q:Pos} (h:mE (.ch3 o1 o2 o3 a b c d) M (.Compare l os rs q)=true):∃ p1 p2 p3 r t u,os=[p1,p2,p3]/\rs=[r,t,u]:=by
 match os,rs,h with
 | [p1,p2,p3],[r,t,u],_=>exact ⟨p1,p2,p3,r,t,u,rfl,rfl⟩
section
variable {X : Cx} {a b c d : Expr} {pos : Pos} {ta tb tc td : TE}
def tCh3 (r1 r2 r3:R2) (ta tb tc td:TE):TE:=fun σ H Q=>ta σ H fun x H1=>tb σ H1 fun y H2=>r1 x y H2 fun z H3=>∃ k,z=.bl k /\
 (if k=true then tc σ H3 fun u H4=>r2 y u H4 fun z2 H5=>∃ k2,z2=.bl k2/\(if k2=true then td σ H5 fun t H6=>r3 u t H6 Q else Q (.bl false) H5) else Q (.bl false) H3)
theorem ziW {o1 o2 o3:CmpOp} {r1 r2 r3:R2} (h1:kQ X (compareOp o1) r1) (h2:kQ X (compareOp o2) r2) (h3:kQ X (compareOp o3) r3) (ha:PE X a ta) (hb:PE X b tb) (hc:PE X c tc) (hd:PE X d td)
  (hm:lastMarks [o1,o2,o3] [b,c,d]=false):PE X (.Compare a [o1,o2,o3] [b,c,d] pos) (tCh3 r1 r2 r3 ta tb tc td):=by
 intro pins s σ H Q I h
 refine Compare_chain (yF (ha pins s σ H _ I h) fun v s1 ⟨x,H1,I1,e1,q1⟩=>chain_link (yF (hb pins s1 σ H1 _ I1 q1) fun u s2 ⟨y,H2,I2,e2,q2⟩ =>
  yF (h1 pins s2 σ H2 x y v u _ I2 e1 e2 q2) fun _ s3 ⟨z,H3,I3,e3,k,e,q3⟩=>?_)) hm
 subst e;cases e3;refine wpAny_truthy_bool ?_
 cases k with
 |false=>exact ite_ff ⟨.bl false,H3,I3,rfl,q3⟩
 |true =>
  refine ite_tt (chain_link (yF (hc pins s3 σ H3 _ I3 q3) fun w4 s4 ⟨z4,H4,I4,e4,q4⟩=>yF (h2 pins s4 σ H4 y z4 u w4 _ I4 e2 e4 q4) fun _ s5 ⟨z5,H5,I5,e5,k2,e,q5⟩=>?_));subst e;cases e5;refine wpAny_truthy_bool ?_
  cases k2 with
  |false=>exact ite_ff ⟨.bl false,H5,I5,rfl,q5⟩
  |true=>exact ite_tt (chain_last (yF (hd pins s5 σ H5 _ I5 q5) fun w6 s6 ⟨z6,H6,I6,e6,q6⟩=>h3 pins s6 σ H6 z4 z6 w4 w6 Q I6 e4 e6 q6))
theorem ziD {o1 o2 o3:CmpOp} {r1 r2 r3:R2} (h1:kQ X (compareOp o1) r1) (h2:kQ X (compareOp o2) r2) (h3:kQ X (compareOp o3) r3) (ha:PE X a ta) (hb:PE X b tb) (hc:PE X c tc) (hd:PE X d td)
  (hm:lastMarks [o1,o2,o3] [b,c,d]=false):PT X (.Compare a [o1,o2,o3] [b,c,d] pos) (zf8 (tCh3 r1 r2 r3 ta tb tc td)):=by
 intro pins s σ H Q I h
 refine isTrue_chain (yF (ha pins s σ H _ I h) fun v s1 ⟨x,H1,I1,e1,q1⟩=>test_link (yF (hb pins s1 σ H1 _ I1 q1) fun u s2 ⟨y,H2,I2,e2,q2⟩ =>
  yF (h1 pins s2 σ H2 x y v u _ I2 e1 e2 q2) fun _ s3 ⟨z,H3,I3,e3,k,e,q3⟩=>?_)) hm
 subst e;cases e3;refine wpAny_truthy_bool ?_
 cases k with
 |false =>
  obtain ⟨k',e',q'⟩:=q3;cases e';exact ite_ff ⟨H3,I3,q'⟩
 |true =>
  refine ite_tt (test_link (yF (hc pins s3 σ H3 _ I3 q3) fun w4 s4 ⟨z4,H4,I4,e4,q4⟩=>yF (h2 pins s4 σ H4 y z4 u w4 _ I4 e2 e4 q4) fun _ s5 ⟨z5,H5,I5,e5,k2,e,q5⟩=>?_));subst e;cases e5;refine wpAny_truthy_bool ?_
  cases k2 with
  |false =>
   obtain ⟨k',e',q'⟩:=q5;cases e';exact ite_ff ⟨H5,I5,q'⟩
  |true =>
   refine ite_tt (test_last (yF (hd pins s5 σ H5 _ I5 q5) fun w6 s6 ⟨z6,H6,I6,e6,q6⟩=>yF (h3 pins s6 σ H6 z4 z6 w4 w6 _ I6 e4 e6 q6) fun _ s7 ⟨z7,H7,I7,e7,k3,e,q7⟩=>?_));subst e;cases e7;exact wpAny_truthy_bool ⟨H7,I7,q7⟩
end
section
variable {Γ : Ctx3} {p : Par} (g : Good Γ p)
def jG (Γ:Ctx3) (p:Par) (e:IE):Prop:=∀ M X x,Lk Γ M p X->mE e M x=true->PE X x (yA X.K (zH Γ XN e).e)/\PT X x (qS X.K (zH Γ XN e).t)/\∀ op vs pos,x=.BoolOp op vs pos->PW X x (qS X.K (zH Γ XN e).t)
def OkO (Γ:Ctx3) (p:Par) (o:IO):Prop:=∀ M X,Lk Γ M p X->(∀ x,mO o M x=true->PO X x (lowO X.K (zO Γ XN o)))/\∀ xs,mC o M xs=true->PTs X xs (qS X.K (zR Γ o))
def OkA (Γ:Ctx3) (p:Par) (es:IEs):Prop:=∀ M X xs,Lk Γ M p X->mA es M xs=true->PA X xs (uY X.K (zW Γ XN es))/\xs.all noStar=true /\
 (∀ ks keys pos,keyB ks keys=true->keys.length=xs.length->keys.all (·.isSome)=true/\ks.length=keys.length/\∃ trs,PPs X pos keys xs trs/\∀ τ H (Q:List (V×V)->Hp->Prop),
  (∃ σ G,yV X.K H σ τ/\xP X.K H G/\zW Γ XN es σ G fun ws G'=>∀ vs H',yM X.K H H'->zF X.K H' ws vs->xP X.K H' G'->Q ((ks.zip vs).map fun kv=>(V.str kv.1,kv.2)) H')->bE trs τ H Q)/\bI X xs (semL Γ es)
def OkI (Γ:Ctx3) (p:Par) (it:II):Prop:=∀ M X x,Lk Γ M p X->mI it M x=true->∀ tg,PI X tg x (lowI X.K (zU Γ XN it))
theorem jX {M:MC} {X:Cx} {x:Expr} {e:E3} (m:wF e) (h:PE X x (yA X.K e)) (he:∀ whole,isTrue x X.env whole=(do let v ← whole;standAt x.pos;holding [v] (truthy v))) (hb:∀ op vs pos,x≠.BoolOp op vs pos) :
  PE X x (yA X.K (zE e).e)/\PT X x (qS X.K (zE e).t)/\∀ op vs pos,x=.BoolOp op vs pos->PW X x (qS X.K (zE e).t) :=
 ⟨h,pt_of m h he,fun op vs pos z=>absurd z (hb op vs pos)⟩
include g
theorem s_var (i:Nat):jG Γ p (.var i):=by
 intro M X x L h
 cases x with
 |Name y q =>
  replace h:=bd4 h;simp only [Bool.not_eq_true'] at h;refine jX (M:=M) (zC g.mono XN (.var i)) ((zfq (i:=i) (by rw [L.N];exact yB h.1.1.1) (by rw [L.sc];exact zhY h.1.1.2) h.1.2 h.2).imp fun τ H Q q=>?_) (fun _=>rfl) (fun _ _ _ z=>nomatch z);obtain ⟨σ,G,hs,ab,q⟩:=q
  split at q
  .rename_i w e;obtain ⟨v,ev,rp⟩:=hs.2 i w e;exact ⟨v,ev,q v H .refl rp ab⟩
  .exact q.elim
 |_=>exact absurd h zzN
theorem s_con (c:Const):jG Γ p (.con c):=by
 intro M X x L h
 cases x with
 |Constant d k q =>
  replace h:=of_decide_eq_true h;subst h;refine jX (M:=M) (zC g.mono XN (.con c)) ?_ (fun _=>rfl) (fun _ _ _ z=>nomatch z)
  cases c with
  |none=>exact ziR.imp fun τ H Q q=>by obtain ⟨σ,G,hs,ab,q⟩:=q;exact q _ H .refl rfl ab
  |bool b=>exact pe_bl.imp fun τ H Q q=>by obtain ⟨σ,G,hs,ab,q⟩:=q;exact q _ H .refl rfl ab
  |int b=>exact ziT.imp fun τ H Q q=>by obtain ⟨σ,G,hs,ab,q⟩:=q;exact q _ H .refl rfl ab
  |str b=>exact zfr.imp fun τ H Q q=>by obtain ⟨σ,G,hs,ab,q⟩:=q;exact q _ H .refl rfl ab
  |_=>exact fun pins s σ H Q I q=>by obtain ⟨σ,G,hs,ab,q⟩:=q;exact q.elim
 |_=>exact absurd h zzN
theorem s_glb (i:Nat):jG Γ p (.glb i):=by
 intro M X x L h
 cases x with
 |Name y q =>
  replace h:=uE h;have gl:=sO L.sc h.2;have hi:=yB h.1;rw [← L.gls] at hi;obtain ⟨e,ei,rfl⟩:=jS hi;refine jX (M:=M) (zC g.mono XN (.glb i)) ((g.gl e (wL ei) X L.fits gl.1 q gl.2.1 gl.2.2).imp fun τ H Q q=>?_) (fun _=>rfl) (fun _ _ _ z=>nomatch z);obtain ⟨σ,G,hs,ab,q⟩:=q;simp only [ei] at q;exact ⟨σ,G,hs,ab,q⟩
 |_=>exact absurd h zzN
theorem sP {M:MC} {X:Cx} (L:Lk Γ M p X):X.A.units+200<cLine:=by rw [L.fits.A];exact g.un
theorem s_bin (op:Operator) (a b:IE) (ha:jG Γ p a) (hb:jG Γ p b):jG Γ p (.bin op a b):=by
 intro M X x L h
 cases x with
 |BinOp l o r q =>
  replace h:=bd3 h;simp only [decide_eq_true_eq] at h;obtain ⟨⟨rfl,h1⟩,h2⟩:=h;exact jX (M:=M) (zC g.mono XN (.bin op a b)) ((pe_op (zkb op) (ha M X l L h1).1 (hb M X r L h2).1).imp fun τ H Q q=>za8 (zC g.mono XN a) (zC g.mono XN b) (bO op) q) (fun _=>rfl) (fun _ _ _ z=>nomatch z)
 |_=>exact absurd h zzN
theorem s_neg (a:IE) (ha:jG Γ p a):jG Γ p (.neg a):=by
 intro M X x L h
 cases x with
 |UnaryOp o l q =>
  cases o with
  |USub =>
   skip
   refine jX (M:=M) (zC g.mono XN (.neg a)) ((pe_un zhZ (ha M X l L h).1).imp fun τ H Q q=>?_) (fun _=>rfl) (fun _ _ _ z=>nomatch z);obtain ⟨σ,G,hs,ab,q⟩:=q;refine xZ (zC g.mono XN a) hs ab q fun w G1 v H1 gr _ rp ab q=>?_
   cases w with
   |int i=>cases rp;exact ⟨i,rfl,q _ H1 gr rfl ab⟩
   |_=>exact q.elim
  |_=>exact absurd h zzN
 |_=>exact absurd h zzN
theorem s_not (a:IE) (ha:jG Γ p a):jG Γ p (.not a):=by
 intro M X x L h
 cases x with
 |UnaryOp o l q =>
  cases o with
  |Not =>
   skip
   refine ⟨(ziQ (ha M X l L h).1).imp fun τ H Q q=>?_,(ziC (ha M X l L h).2.1).imp fun τ H Q q=>?_,fun _ _ _ z=>nomatch z⟩
   .obtain ⟨σ,G,hs,ab,q⟩:=q;refine xZ (zC g.mono XN a) hs ab q fun w G1 v H1 gr _ rp ab q=>?_
    cases w with
    |bl i=>cases rp;exact ⟨i,rfl,q _ H1 gr rfl ab⟩
    |_=>exact q.elim
   .obtain ⟨σ,G,hs,ab,q⟩:=q;exact sE (uZ g.mono XN a) hs ab q fun b G1 H1 gr _ ab q=>q H1 gr ab
  |_=>exact absurd h zzN
 |_=>exact absurd h zzN
theorem s_cmp (op:CmpOp) (a b:IE) (ha:jG Γ p a) (hb:jG Γ p b):jG Γ p (.cmp op a b):=by
 intro M X x L h
 cases x with
 |Compare l os rs q =>
   obtain ⟨o,r,rfl,rfl⟩:=zg2 h;replace h:=bd4 h;simp only [decide_eq_true_eq] at h;obtain ⟨⟨⟨rfl,h1⟩,h2⟩,h3⟩:=h;have m:=zC g.mono XN (.cmp op a b)
   refine ⟨(zgB (jD (sP g L) op) (ha M X l L h1).1 (hb M X r L h2).1 (kX h3)).imp fun τ H Q q=>za8 (zC g.mono XN a) (zC g.mono XN b) (xU op) q,
    (zgr (jD (sP g L) op) (ha M X l L h1).1 (hb M X r L h2).1 (kX h3)).imp fun τ H Q q=>za8 (zC g.mono XN a) (zC g.mono XN b) (xU op) (zaS m q),fun _ _ _ z=>nomatch z⟩
 |_=>exact absurd h zzN
theorem s_chn (o1 o2:CmpOp) (a b c:IE) (ha:jG Γ p a) (hb:jG Γ p b) (hc:jG Γ p c):jG Γ p (.chn o1 o2 a b c):=by
 intro M X x L h
 cases x with
 |Compare l os rs q =>
   obtain ⟨q1,q2,r,t,rfl,rfl⟩:=zg3 h;replace h:=bd6 h;simp only [decide_eq_true_eq] at h;obtain ⟨⟨⟨⟨⟨rfl,rfl⟩,h1⟩,h2⟩,h3⟩,h4⟩:=h;have m:=zC g.mono XN (.chn o1 o2 a b c)
   have key:∀ τ H Q,yA X.K (zH Γ XN (.chn o1 o2 a b c)).e τ H Q->zb6 (rH X.K (yG o1)) (rH X.K (yG o2)) (yA X.K (zH Γ XN a).e) (yA X.K (zH Γ XN b).e) (yA X.K (zH Γ XN c).e) τ H Q:=fun τ H Q q=>by
    obtain ⟨σ,G,hs,ab,q⟩:=q;refine xZ (zC g.mono XN a) hs ab q fun x G1 v H1 g1 hs1 rx a1 q=>?_;refine xZ (zC g.mono XN b) hs1 a1 q fun y G2 u H2 g2 hs2 ry a2 q=>?_;refine ⟨x,y,G2,rx.mono g2,ry,a2,xU o1 x y G2 _ _ (fun z G3 q v3 H3 g3 r3 a3=>?_) q⟩
    cases z with
    |bl k =>
     cases r3;refine ⟨k,rfl,?_⟩;have q:if k=true then _ else _:=q
     split
     .rename_i hk;rw [if_pos hk] at q;refine xZ (zC g.mono XN c) (hs2.mono g3) a3 q fun w G4 v4 H4 g4 hs4 r4 a4 q=>?_;exact ⟨y,w,G4,(ry.mono g3).mono g4,r4,a4,xU o2 y w G4 _ _ (fun w5 G5 q v5 H5 g5=>q v5 H5 (g1.trans (g2.trans (g3.trans (g4.trans g5))))) q⟩
     .rename_i hk;rw [if_neg hk] at q;exact q _ H3 (g1.trans (g2.trans g3)) rfl a3
    |_=>exact q.elim
   refine ⟨(zes (jD (sP g L) o1) (jD (sP g L) o2) (ha M X l L h1).1 (hb M X r L h2).1 (hc M X t L h3).1 (kX (op:=o2) h4)).imp key,
    (zeh (jD (sP g L) o1) (jD (sP g L) o2) (ha M X l L h1).1 (hb M X r L h2).1 (hc M X t L h3).1 (kX (op:=o2) h4)).imp fun τ H Q q=>key _ _ _ (zaS m q),fun _ _ _ z=>nomatch z⟩
 |_=>exact absurd h zzN
theorem s_ch3 (o1 o2 o3:CmpOp) (a b c d:IE) (ha:jG Γ p a) (hb:jG Γ p b) (hc:jG Γ p c) (hd:jG Γ p d):jG Γ p (.ch3 o1 o2 o3 a b c d):=by
 intro M X x L h
 cases x with
 |Compare l os rs q =>
   obtain ⟨q1,q2,q3,r,t,t2,rfl,rfl⟩:=zg4 h;replace h:=bd8 h;simp only [decide_eq_true_eq] at h;obtain ⟨⟨⟨⟨⟨⟨⟨rfl,rfl⟩,rfl⟩,h1⟩,h2⟩,h3⟩,h4⟩,h5⟩:=h;have m:=zC g.mono XN (.ch3 o1 o2 o3 a b c d)
   have key:∀ τ H Q,yA X.K (zH Γ XN (.ch3 o1 o2 o3 a b c d)).e τ H Q->tCh3 (rH X.K (yG o1)) (rH X.K (yG o2)) (rH X.K (yG o3)) (yA X.K (zH Γ XN a).e) (yA X.K (zH Γ XN b).e) (yA X.K (zH Γ XN c).e) (yA X.K (zH Γ XN d).e) τ H Q:=fun τ H Q q=>by
    obtain ⟨σ,G,hs,ab,q⟩:=q;refine xZ (zC g.mono XN a) hs ab q fun x G1 v H1 g1 hs1 rx a1 q=>?_;refine xZ (zC g.mono XN b) hs1 a1 q fun y G2 u H2 g2 hs2 ry a2 q=>?_;refine ⟨x,y,G2,rx.mono g2,ry,a2,xU o1 x y G2 _ _ (fun z G3 q v3 H3 g3 r3 a3=>?_) q⟩
    cases z with
    |bl k =>
     cases r3;refine ⟨k,rfl,?_⟩;have q:if k=true then _ else _:=q
     split
     .rename_i hk;rw [if_pos hk] at q;refine xZ (zC g.mono XN c) (hs2.mono g3) a3 q fun w G4 v4 H4 g4 hs4 r4 a4 q=>?_;refine ⟨y,w,G4,(ry.mono g3).mono g4,r4,a4,xU o2 y w G4 _ _ (fun z5 G5 q v5 H5 g5 r5 a5=>?_) q⟩
      cases z5 with
      |bl k2 =>
       cases r5;refine ⟨k2,rfl,?_⟩;have q:if k2=true then _ else _:=q
       split
       .rename_i hk2;rw [if_pos hk2] at q;refine xZ (zC g.mono XN d) (hs4.mono g5) a5 q fun w6 G6 v6 H6 g6 hs6 r6 a6 q=>?_;exact ⟨w,w6,G6,(r4.mono g5).mono g6,r6,a6,xU o3 w w6 G6 _ _ (fun w7 G7 q v7 H7 g7=>q v7 H7 (g1.trans (g2.trans (g3.trans (g4.trans (g5.trans (g6.trans g7))))))) q⟩
       .rename_i hk2;rw [if_neg hk2] at q;exact q _ H5 (g1.trans (g2.trans (g3.trans (g4.trans g5)))) rfl a5
      |_=>exact q.elim
     .rename_i hk;rw [if_neg hk] at q;exact q _ H3 (g1.trans (g2.trans g3)) rfl a3
    |_=>exact q.elim
   refine ⟨(ziW (jD (sP g L) o1) (jD (sP g L) o2) (jD (sP g L) o3) (ha M X l L h1).1 (hb M X r L h2).1 (hc M X t L h3).1 (hd M X t2 L h4).1 (kX (op:=o3) h5)).imp key,
    (ziD (jD (sP g L) o1) (jD (sP g L) o2) (jD (sP g L) o3) (ha M X l L h1).1 (hb M X r L h2).1 (hc M X t L h3).1 (hd M X t2 L h4).1 (kX (op:=o3) h5)).imp fun τ H Q q=>key _ _ _ (zaS m q),fun _ _ _ z=>nomatch z⟩
 |_=>exact absurd h zzN
theorem s_and (a b:IE) (ha:jG Γ p a) (hb:jG Γ p b):jG Γ p (.and a b):=by
 intro M X x L h
 have e1:∀ τ H Q,yA X.K (zH Γ XN (.and a b)).e τ H Q->zid (yA X.K (zH Γ XN a).e) (yA X.K (zH Γ XN b).e) τ H Q:=fun τ H Q q=>by
  obtain ⟨σ,G,hs,ab,q⟩:=q;refine xZ (zC g.mono XN a) hs ab q fun w G1 v H1 g1 hs1 rx a1 q=>?_
  cases w with
  |bl k =>
   cases rx;refine ⟨k,rfl,?_⟩;have q:if k=true then _ else _:=q
   split
   .rename_i hk;rw [if_pos hk] at q;exact ⟨σ,G1,hs1,a1,zC g.mono XN b σ G1 _ _ (fun w G' q v' H' g'=>q v' H' (g1.trans g')) q⟩
   .rename_i hk;rw [if_neg hk] at q;exact q _ H1 g1 rfl a1
  |_=>exact q.elim
 have e2:∀ τ H Q,qS X.K (zH Γ XN (.and a b)).t τ H Q->tAnd (qS X.K (zH Γ XN a).t) (qS X.K (zH Γ XN b).t) τ H Q:=fun τ H Q q=>by
  obtain ⟨σ,G,hs,ab,q⟩:=q;refine sE (uZ g.mono XN a) hs ab q fun k G1 H1 g1 hs1 a1 q=>?_
  split
  .rename_i hk;rw [if_pos hk] at q;exact ⟨σ,G1,hs1,a1,uZ g.mono XN b σ G1 _ _ (fun w G' q H' g'=>q H' (g1.trans g')) q⟩
  .rename_i hk;rw [if_neg hk] at q;exact q H1 g1 a1
 cases x with
 |BoolOp o vs q =>
  match o,vs,h with
  | .And,[l,r],h =>
   replace h:=uE h;have A:=ha M X l L h.1;have B:=hb M X r L h.2;have W2:PW X (.BoolOp .And [l,r] q) (qS X.K (zH Γ XN (.and a b)).t):=(zfm A.2.1 (zgo B.2.1)).imp e2;exact ⟨(zft A.1 (zfs B.1)).imp e1,W2.pt,fun _ _ _ _=>W2⟩
  | .And,l::r::q'::rest,h =>
   replace h:=uE h;have A:=ha M X l L h.1;have B:=hb M X _ L h.2;have W2:PW X (.BoolOp .And (l::r::q'::rest) q) (qS X.K (zH Γ XN (.and a b)).t):=(zfm A.2.1 (B.2.2 _ _ _ rfl)).imp e2;exact ⟨(zft A.1 B.1).imp e1,W2.pt,fun _ _ _ _=>W2⟩
 |_=>exact absurd h zzN
theorem s_or (a b:IE) (ha:jG Γ p a) (hb:jG Γ p b):jG Γ p (.or a b):=by
 intro M X x L h
 have e1:∀ τ H Q,yA X.K (zH Γ XN (.or a b)).e τ H Q->tOrV (yA X.K (zH Γ XN a).e) (yA X.K (zH Γ XN b).e) τ H Q:=fun τ H Q q=>by
  obtain ⟨σ,G,hs,ab,q⟩:=q;refine xZ (zC g.mono XN a) hs ab q fun w G1 v H1 g1 hs1 rx a1 q=>?_
  cases w with
  |bl k =>
   cases rx;refine ⟨k,rfl,?_⟩;have q:if k=true then _ else _:=q
   split
   .rename_i hk;rw [if_pos hk] at q;exact q _ H1 g1 rfl a1
   .rename_i hk;rw [if_neg hk] at q;exact ⟨σ,G1,hs1,a1,zC g.mono XN b σ G1 _ _ (fun w G' q v' H' g'=>q v' H' (g1.trans g')) q⟩
  |_=>exact q.elim
 have e2:∀ τ H Q,qS X.K (zH Γ XN (.or a b)).t τ H Q->tOr (qS X.K (zH Γ XN a).t) (qS X.K (zH Γ XN b).t) τ H Q:=fun τ H Q q=>by
  obtain ⟨σ,G,hs,ab,q⟩:=q;refine sE (uZ g.mono XN a) hs ab q fun k G1 H1 g1 hs1 a1 q=>?_
  split
  .rename_i hk;rw [if_pos hk] at q;exact q H1 g1 a1
  .rename_i hk;rw [if_neg hk] at q;exact ⟨σ,G1,hs1,a1,uZ g.mono XN b σ G1 _ _ (fun w G' q H' g'=>q H' (g1.trans g')) q⟩
 cases x with
 |BoolOp o vs q =>
  match o,vs,h with
  | .Or,[l,r],h =>
   replace h:=uE h;have A:=ha M X l L h.1;have B:=hb M X r L h.2;have W2:PW X (.BoolOp .Or [l,r] q) (qS X.K (zH Γ XN (.or a b)).t):=(ziB A.2.1 (ziA B.2.1)).imp e2;exact ⟨(ziP A.1 (zfs B.1)).imp e1,W2.pt,fun _ _ _ _=>W2⟩
  | .Or,l::r::q'::rest,h =>
   replace h:=uE h;have A:=ha M X l L h.1;have B:=hb M X _ L h.2;have W2:PW X (.BoolOp .Or (l::r::q'::rest) q) (qS X.K (zH Γ XN (.or a b)).t):=(ziB A.2.1 (B.2.2 _ _ _ rfl)).imp e2;exact ⟨(ziP A.1 B.1).imp e1,W2.pt,fun _ _ _ _=>W2⟩
 |_=>exact absurd h zzN
theorem s_ite (c a b:IE) (hc:jG Γ p c) (ha:jG Γ p a) (hb:jG Γ p b):jG Γ p (.ite c a b):=by
 intro M X x L h
 cases x with
 |IfExp t l r q =>
  replace h:=bd3 h;refine ⟨(zeq (hc M X t L h.1.1).2.1 (ha M X l L h.1.2).1 (hb M X r L h.2).1).imp fun τ H Q q=>?_,fun _ _ _ _ _ _ q=>?_,fun _ _ _ z=>nomatch z⟩
  .obtain ⟨σ,G,hs,ab,q⟩:=q;refine sE (uZ g.mono XN c) hs ab q fun k G1 H1 g1 hs1 a1 q=>?_
   split
   .rename_i hk;rw [if_pos hk] at q;exact ⟨σ,G1,hs1,a1,zC g.mono XN a σ G1 _ _ (fun w G' q v' H' g'=>q v' H' (g1.trans g')) q⟩
   .rename_i hk;rw [if_neg hk] at q;exact ⟨σ,G1,hs1,a1,zC g.mono XN b σ G1 _ _ (fun w G' q v' H' g'=>q v' H' (g1.trans g')) q⟩
  .obtain ⟨_,_,_,_,z⟩:=q;exact z.elim
 |_=>exact absurd h zzN
theorem s_ix (a i:IE) (ha:jG Γ p a) (hb:jG Γ p i):jG Γ p (.ix a i):=by
 intro M X x L h
 cases x with
 |Subscript l r q =>
  replace h:=bd3 h;exact jX (M:=M) (zC g.mono XN (.ix a i)) ((pe_ix (ix_ok (sP g L)) (ha M X l L h.1.1).1 (hb M X r L h.1.2).1 (zen h.2)).imp fun τ H Q q=>za8 (zC g.mono XN a) (zC g.mono XN i) zbg q) (fun _=>rfl) (fun _ _ _ z=>nomatch z)
 |_=>exact absurd h zzN
theorem s_sl (a:IE) (lo hi:IO) (ha:jG Γ p a) (hl:OkO Γ p lo) (hh:OkO Γ p hi):jG Γ p (.sl a lo hi):=by
  intro M X x L h
  cases x with
  |Subscript l r q =>
    cases r with
    |Slice y z sp q2 =>
     cases sp with
     |none =>
      replace h:=bd3 h;refine jX (M:=M) (zC g.mono XN (.sl a lo hi)) ((zep sl_ok (ha M X l L h.1.1).1 ((hl M X L).1 y h.1.2) ((hh M X L).1 z h.2)).imp fun τ H Q q=>?_) (fun _=>rfl) (fun _ _ _ z=>nomatch z);obtain ⟨σ,G,hs,ab,q⟩:=q;refine xZ (zC g.mono XN a) hs ab q fun w G1 v H1 g1 hs1 rx a1 q=>?_;refine ⟨σ,G1,hs1,a1,zjj g.mono XN lo σ G1 _ _ (fun o G2 q H2 g2 a2=>?_) q⟩;refine ⟨σ,G2,hs1.mono g2,a2,zjj g.mono XN hi σ G2 _ _ (fun o2 G3 q H3 g3 a3=>?_) q⟩;exact ⟨w,G3,(rx.mono g2).mono g3,a3,za0 (fun w' G' q v' H' g'=>q v' H' (g1.trans (g2.trans (g3.trans g')))) q⟩
     |some _=>exact absurd h zzN
    |_=>exact absurd h zzN
  |_=>exact absurd h zzN
theorem s_tup (es:IEs) (hs:OkA Γ p es):jG Γ p (.tup es):=by
 intro M X x L h
 cases x with
 |Tuple xs k q =>
  skip
  refine jX (M:=M) (zC g.mono XN (.tup es)) ((ziN (hs M X xs L h).1).imp fun τ H Q q=>?_) (fun _=>rfl) (fun _ _ _ z=>nomatch z);obtain ⟨σ,G,hs',ab,q⟩:=q;refine tR (wG g.mono XN es) hs' ab q fun ws G1 vs H1 g1 hs1 rs a1 q=>⟨by rw [rs.length];exact q.1,nP a1 rs fun v' H' g'=>q.2 v' H' (g1.trans g')⟩
 |_=>exact absurd h zzN
theorem s_lst (es:IEs) (hs:OkA Γ p es):jG Γ p (.lst es):=by
 intro M X x L h
 cases x with
 |List xs q =>
  skip
  refine jX (M:=M) (zC g.mono XN (.lst es)) ((ziS (hs M X xs L h).1).imp fun τ H Q q=>?_) (fun _=>rfl) (fun _ _ _ z=>nomatch z);obtain ⟨σ,G,hs',ab,q⟩:=q;refine tR (wG g.mono XN es) hs' ab q fun ws G1 vs H1 g1 hs1 rs a1 q=>⟨by rw [rs.length];exact q.1,qM a1 rs fun r hr v' H' g'=>q.2 r hr v' H' (g1.trans g')⟩
 |_=>exact absurd h zzN
theorem hX {Γ:Ctx3} {M:MC} {es:IEs} {xs:List Expr} (h:mA es M xs=true):xs=[]->∀ σ G Q,zW Γ XN es σ G Q->Q [] G:=by
 rintro rfl σ G Q q
 cases es with
 |nil=>exact q
 |cons _ _=>exact absurd h zzN
theorem zio (f:Nat) (es:IEs) (hs:OkA Γ p es):jG Γ p (.call f es):=by
  intro M X x L h
  cases x with
  |Call fn xs kw q =>
    cases fn with
    |Name y qy =>
     cases kw with
     |nil =>
      replace h:=bd3 h;have gl:=sO L.sc h.1.2;have hi:=yB h.1.1;rw [← L.fns] at hi;obtain ⟨e,ei,rfl⟩:=jS hi;have A:=hs M X xs L h.2;refine jX (M:=M) (zC g.mono XN (.call f es)) ((g.fn e (wL ei) X L.fits gl.1 xs (zW Γ XN es) qy q (wG g.mono XN es) A.2.1 A.1 (hX g h.2) gl.2.1 gl.2.2).imp fun τ H Q q=>?_) (fun _=>rfl) (fun _ _ _ z=>nomatch z);obtain ⟨σ,G,hs',ab,q⟩:=q;refine ⟨σ,G,hs',ab,wG g.mono XN es σ G _ _ (fun ws G1 q=>?_) q⟩;simp only [ei] at q;exact q
     |cons _ _=>exact absurd h zzN
    |_=>exact absurd h zzN
  |_=>exact absurd h zzN
theorem s_spc (i:Nat) (es:IEs) (hs:OkA Γ p es):jG Γ p (.spc i es):=by
 intro M X x L h;replace h:=uE h;replace h:=h.2
 split at h
 .rename_i m hm
  split at h
  .rename_i xs hx;rw [← L.sxs] at hm;obtain ⟨k,ek,rfl⟩:=jS hm;have A:=hs M X xs L h;have q:=g.sx k (wL ek) X L.fits x xs (semL Γ es) (by rw [L.sc];exact hx) A.2.2.2 A.2.1 (by rw [← vH];exact A.1);refine jX (M:=M) (zC g.mono XN (.spc i es)) (q.1.imp fun τ H Q q=>?_) q.2.1 q.2.2;obtain ⟨σ,G,hs',ab,q⟩:=q;refine ⟨σ,G,hs',ab,?_⟩;rw [← vH];refine wG g.mono XN es σ G _ _ (fun ws G1 q=>?_) q;simp only [ek] at q;exact q
  .exact absurd h zzN
 .exact absurd h zzN
theorem s_mth (m:Nat) (o:IE) (es:IEs) (ho:jG Γ p o) (hs:OkA Γ p es):jG Γ p (.mth m o es):=by
  intro M X x L h
  cases x with
  |Call fn xs kw q =>
    cases fn with
    |Attribute l y qy =>
     cases kw with
     |nil =>
      replace h:=bd6 h;simp only [decide_eq_true_eq] at h;have hi:=yB h.1.1.1.1.1;rw [← L.mts] at hi;obtain ⟨e,ei,rfl⟩:=jS hi;have A:=hs M X xs L h.2;have B:=ho M X l L h.1.2;refine jX (M:=M) (zC g.mono XN (.mth m o es)) ((g.mt e (wL ei) X L.fits l xs (zH Γ XN o).e (zW Γ XN es) qy q (zC g.mono XN o) (wG g.mono XN es) h.1.1.1.1.2 h.1.1.1.2 h.1.1.2 A.2.1 B.1 A.1 (hX g h.2)).imp fun τ H Q q=>?_) (fun _=>rfl) (fun _ _ _ z=>nomatch z);obtain ⟨σ,G,hs',ab,q⟩:=q;refine ⟨σ,G,hs',ab,zC g.mono XN o σ G _ _ (fun w G1 q=>?_) q⟩;simp only [ei] at q;exact q
     |cons _ _=>exact absurd h zzN
    |_=>exact absurd h zzN
  |_=>exact absurd h zzN
theorem s_att (o:IE) (f:Str) (ho:jG Γ p o):jG Γ p (.att o f):=by
 intro M X x L h
 cases x with
 |Attribute l y q =>
  replace h:=bd3 h;simp only [beq_iff_eq] at h;obtain ⟨⟨rfl,h1⟩,h2⟩:=h;refine jX (M:=M) (zC g.mono XN (.att o y)) ((ziU (ho M X l L h2).1 (vS h1)).imp fun τ H Q q=>?_) (fun _=>rfl) (fun _ _ _ z=>nomatch z);obtain ⟨σ,G,hs,ab,q⟩:=q;refine xZ (zC g.mono XN o) hs ab q fun w G1 v H1 g1 hs1 rx a1 q=>?_
  cases w with
  |ref a =>
   cases rx;simp only [attR] at q
   split at q
   .rename_i C fs e;obtain ⟨⟨l,hl,hf⟩,q⟩:=q
    split at q
    .rename_i w' ew;obtain ⟨dx,fs',e',rk⟩:=a1.ins e;obtain ⟨v',ev,rv⟩:=gH rk ew;have c:=g.cl _ hl;exact ⟨a,C,dx,fs',v',rfl,e',by rw [L.fits.K];exact c.1,by rw [L.fits.K];exact c.2 y hf,ev,q _ H1 g1 rv a1⟩
    .exact q.elim
   .exact q.elim
  |_=>exact q.elim
 |_=>exact absurd h zzN
end
section
variable {Γ : Ctx3} {p : Par} (g : Good Γ p)
include g
theorem s_dct (ks:List Str) (es:IEs) (hs:OkA Γ p es):jG Γ p (.dct ks es):=by
 intro M X x L h
 cases x with
 |Dict keys xs q =>
  replace h:=bd5 h;simp only [decide_eq_true_eq,Bool.not_eq_true'] at h;obtain ⟨⟨⟨⟨h1,h2⟩,h3⟩,h4⟩,h5⟩:=h;obtain ⟨all,ek,trs,pp,low⟩:=(hs M X xs L h2).2.2.1 ks keys q h1 h3
  have h0:keys≠[]:=by
   intro z;rw [z] at ek
   cases ks with
   |nil=>cases h5
   |cons _ _=>cases ek
  refine jX (M:=M) (zC g.mono XN (.dct ks es)) ((zgA pp all h3 h0 h4).imp fun τ H Q q=>?_) (fun _=>rfl) (fun _ _ _ z=>nomatch z);intro a ha;obtain ⟨σ,G,hs',ab,q⟩:=q;have gr:yM X.K H (xR H a (.dK [])):=wZ ha;refine low τ _ _ ⟨σ,put G a (.dic []),hs'.mono gr,ab.new ha ⟨[],rfl,rfl⟩,wG g.mono XN es σ _ _ _ (fun ws G1 q vs H1 g1 rs a1=>?_) (q a (ab.free ha))⟩;obtain ⟨q1,q2,q3⟩:=q;obtain ⟨l,e,rl⟩:=a1.dic q1
  have el:l=[]:=by
   cases l with
   |nil=>rfl
   |cons _ _=>cases rl
  subst el;refine ⟨e,(ks.zip vs).map (fun kv=>((Sum.inr kv.1:xY),kv.2)),by rw [List.map_map];rfl,?_,?_⟩
  .rw [zzM,List.length_zip];omega
  .have gr2:yM X.K H1 (xR H1 a (.dK (rJ [] ((ks.zip vs).map fun kv=>((Sum.inr kv.1:xY),kv.2))))):=a1.grow q1;exact q3 _ _ (gr.trans (g1.trans gr2)) rfl (a1.chg q1 ⟨_,rfl,zdo ks (rs.mono gr2) rfl⟩)
 |_=>exact absurd h zzN
theorem cW (tg:ITg) (names:List Str) (caps:List Nat) (it:II) (c:IO) (elt:IE) (hi:OkI Γ p it) (hc:OkO Γ p c) (he:jG Γ p elt) {M:MC} {X:Cx} (L:Lk Γ M p X) {x t ix:Expr} {ifs:List Expr} {sc:Scope}
  (h:(blkB M.sc sc&&vE ix&&rO (names++caps.map (fun j=>M.N.getD j Str.empty))&&(caps.all fun j=>decide (j<M.N.length)&&(sc.names.lookup (M.N.getD j Str.empty)==some .free)) &&
    mI it M ix&&((tgIx tg).all fun i=>decide (i<names.length))&&mG { M with sc:=relS sc M.sc,N:=names++caps.map (fun j=>M.N.getD j Str.empty),own:=fun x=>sc.names.lookup x==some .cell } tg t&&mC c { M with sc:=relS sc M.sc,N:=names++caps.map (fun j=>M.N.getD j Str.empty),own:=fun x=>sc.names.lookup x==some .cell } ifs&&mE elt { M with sc:=relS sc M.sc,N:=names++caps.map (fun j=>M.N.getD j Str.empty),own:=fun x=>sc.names.lookup x==some .cell } x)=true) :
  PI X t ix (lowI X.K (zU Γ XN it))/\BlkSc X sc/\Caps X sc (names++caps.map (fun j=>M.N.getD j Str.empty)) (capV names.length caps) /\
  (∀ X',IsBlock X (names++caps.map (fun j=>M.N.getD j Str.empty)) sc X'->PG X' t (lowG X.K (zV tg)))/\(∀ X',IsBlock X (names++caps.map (fun j=>M.N.getD j Str.empty)) sc X'->PTs X' ifs (qS X.K (zR Γ c))) /\
  (∀ H1 X',IsBlock X (names++caps.map (fun j=>M.N.getD j Str.empty)) sc X'->PE X' x (fun τ H Q=>yM X.K H1 H/\yA X.K (zH Γ XN elt).e τ H Q))/\(∀ y,foldedSetIterable ix X.env y=pure y) /\
  ∀ τ H Q,yA X.K (zH Γ XN (.lc tg names caps it c elt)).e τ H Q->tLC (lowI X.K (zU Γ XN it)) (capV names.length caps) (lowG X.K (zV tg)) (qS X.K (zR Γ c)) (fun H0 τ H Q=>yM X.K H0 H/\yA X.K (zH Γ XN elt).e τ H Q) τ H Q:=by
 simp only [Bool.and_eq_true] at h;obtain ⟨⟨⟨⟨⟨⟨⟨⟨h1,h2⟩,h3⟩,h4⟩,h5⟩,h6⟩,h7⟩,h8⟩,h9⟩:=h
 have lk:∀ X',IsBlock X (names++caps.map (fun j=>M.N.getD j Str.empty)) sc X'->Lk Γ { M with sc:=relS sc M.sc,N:=names++caps.map (fun j=>M.N.getD j Str.empty),own:=fun x=>sc.names.lookup x==some .cell } p X':=fun X' b =>
  ⟨⟨b.prog.trans L.fits.prog,b.w.trans L.fits.w,b.K.trans L.fits.K,b.mg.trans L.fits.mg,b.base.trans L.fits.base,b.A.trans L.fits.A,b.calm.trans L.fits.calm,b.xe⟩,b.N,b.scope.trans (zcl L.sc),gY h3,(fun x z=>b.fn x (eq_of_beq z)),(zbt L.sc h1).kind,L.fns,L.gls,L.mts,L.its,L.sxs,L.ixs⟩
 refine ⟨hi M X ix L h5 t,zbt L.sc h1,bV L.N L.sc h4,fun X' b=>?_,fun X' b=>?_,fun H1 X' b=>?_,uH h2,fun τ H Q q=>?_⟩
 .rw [← b.K];exact sndG (lk X' b) tg t h7
 .rw [← b.K];exact (hc _ X' (lk X' b)).2 ifs h8
 .rw [← b.K];exact (he _ X' x (lk X' b) h9).1.imp fun _ _ _ z=>z.2
 .obtain ⟨σ,G,hs,ab,q⟩:=q;refine ⟨σ,G,hs,ab,zcH g.mono XN it σ G _ _ (fun items stab G1 q J H1 g1 a1 ii=>?_) q⟩;refine zfC (monoC g.mono c) (zC g.mono XN elt) ii a1 (zdx (hs.mono g1) names.length caps) g1 (fun w G' Q' z=>?_) q;refine tW tg w _ G' _ _ (fun σ2 G2 z=>⟨⟨z.2.1,fun i v e=>?_⟩,z.2.2⟩) (mB tg w _ G' _ (cX tg w _ G' _ z));have hk:=(nG e).1;rw [z.1 i (zcI h6 hk)];exact e
theorem s_lc (tg:ITg) (names:List Str) (caps:List Nat) (it:II) (c:IO) (elt:IE) (hi:OkI Γ p it) (hc:OkO Γ p c) (he:jG Γ p elt):jG Γ p (.lc tg names caps it c elt):=by
 intro M X x L h
 cases x with
 |ListComp x gens sc q =>
  match gens,h with
  | [⟨t,ix,ifs,asy⟩],h =>
   have h':=h;replace h:=bd10 h;obtain ⟨⟨⟨⟨⟨⟨⟨⟨⟨h0,h1⟩,h2⟩,h3⟩,h4⟩,h5⟩,h6⟩,h7⟩,h8⟩,h9⟩:=h;replace h0:=of_decide_eq_true h0;subst h0;obtain ⟨c1,c2,c3,c4,c5,c6,c7,c8⟩:=cW g tg names caps it c elt hi hc he L (x:=x) (t:=t) (ix:=ix) (ifs:=ifs) (sc:=sc) (by simp only [Bool.and_eq_true];exact ⟨⟨⟨⟨⟨⟨⟨⟨h1,h2⟩,h3⟩,h4⟩,h5⟩,h6⟩,h7⟩,h8⟩,h9⟩);exact jX (M:=M) (zC g.mono XN (.lc tg names caps it c elt)) ((pe_lc L.fits.calm c1 c2 c3 c4 c5 c6 c7).imp c8) (fun _=>rfl) (fun _ _ _ z=>nomatch z)
 |_=>exact absurd h zzN
theorem s_no:OkO Γ p .no:=by
 intro M X L;refine ⟨fun x h=>?_,fun xs h=>?_⟩
 .cases x with
  |none=>exact zgx.imp fun τ H Q q=>by obtain ⟨σ,G,hs,ab,q⟩:=q;exact q H .refl ab
  |some _=>exact absurd h zzN
 .cases xs with
  |nil=>exact zco.imp fun τ H Q q=>by obtain ⟨σ,G,hs,ab,q⟩:=q;exact q H .refl ab
  |cons _ _=>exact absurd h zzN
theorem zil (e:IE) (he:jG Γ p e):OkO Γ p (.yes e):=by
 intro M X L;refine ⟨fun x h=>?_,fun xs h=>?_⟩
 .cases x with
  |none=>exact absurd h zzN
  |some x =>
   skip
   refine (zgw (he M X x L h).1).imp fun τ H Q q=>?_;obtain ⟨σ,G,hs,ab,q⟩:=q;refine xZ (zC g.mono XN e) hs ab q fun w G1 v H1 g1 hs1 rx a1 q=>?_
   cases w with
   |int i=>cases rx;exact ⟨i,rfl,q H1 g1 a1⟩
   |_=>exact q.elim
 .match xs,h with
  | [x],h=>exact zgq (he M X x L (by simpa only [mC] using h)).2.1
theorem zin:OkA Γ p .nil:=by
 intro M X xs L h
 cases xs with
 |cons _ _=>exact absurd h zzN
 |nil =>
  refine ⟨zfu.imp fun τ H Q q=>by obtain ⟨σ,G,hs,ab,q⟩:=q;exact q [] H .refl rfl ab,rfl,fun ks keys pos hk hl=>?_,trivial⟩
  cases keys with
  |cons _ _=>cases hl
  |nil =>
   cases ks with
   |cons _ _=>cases hk
   |nil =>
    refine ⟨rfl,rfl,[],zgv,fun τ H Q q=>?_⟩;obtain ⟨σ,G,hs,ab,q⟩:=q;exact q [] H .refl rfl ab
theorem zfg (e:IE) (es:IEs) (he:jG Γ p e) (hs:OkA Γ p es):OkA Γ p (.cons e es):=by
  intro M X xs L h
  cases xs with
  |nil=>exact absurd h zzN
  |cons x xs =>
    simp only [mA,Bool.and_eq_true] at h;obtain ⟨⟨h1,h2⟩,h3⟩:=h;have A:=he M X x L h2;have B:=hs M X xs L h3;refine ⟨(zcv A.1 B.1 (qN h1)).imp fun τ H Q q=>?_,by rw [List.all_cons,h1,B.2.1];rfl,fun ks keys pos hk hl=>?_,⟨zC g.mono XN e,A.1,B.2.2.2⟩⟩
    . obtain ⟨σ,G,hs',ab,q⟩:=q
      refine xZ (zC g.mono XN e) hs' ab q fun w G1 v H1 g1 hs1 rx a1 q=>?_;refine tR (wG g.mono XN es) hs1 a1 q fun ws G2 vs H2 g2 hs2 rs a2 q=>?_;exact q _ H2 (g1.trans g2) ⟨v,vs,rfl,rx.mono g2,rs⟩ a2
    . cases ks with
      |nil =>
        cases keys with
        |nil=>simp at hl
        |cons _ _=>simp [keyB] at hk
      |cons k ks =>
       cases keys with
       |nil=>cases hk
       |cons ko keys =>
        obtain ⟨y,ky,qy,rfl⟩:∃ y ky qy,ko=some (.Constant (.str y) ky qy):=by
          cases ko with
          |none=>cases hk
          |some ke =>
            cases ke with
            |Constant c ky qy =>
              cases c with
              |str y=>exact ⟨y,ky,qy,rfl⟩
              |_=>cases hk
            |_=>cases hk
        simp only [keyB,Bool.and_eq_true,beq_iff_eq] at hk;obtain ⟨rfl,hk⟩:=hk;obtain ⟨all,ek,trs,pp,low⟩:=B.2.2.1 ks keys pos hk (by simpa using hl);refine ⟨by simpa using all,by simpa using ek,(tC (.str k),yA X.K (zH Γ XN e).e)::trs,zem zfr A.1 pp,fun τ H Q q=>?_⟩;obtain ⟨σ,G,hs',ab,q⟩:=q;show yA X.K (zH Γ XN e).e τ H _;refine xZ (zC g.mono XN e) hs' ab q fun w G1 v H1 g1 hs1 rx a1 q=>?_;refine low τ H1 _ ⟨σ,G1,hs1,a1,wG g.mono XN es σ G1 _ _ (fun ws G2 q vs H2 g2 rs a2=>?_) q⟩;exact q (v::vs) H2 (g1.trans g2) ⟨v,vs,rfl,rx.mono g2,rs⟩ a2
theorem zim (e:IE) (he:jG Γ p e):OkI Γ p (.val e):=fun M X x L h tg=>ziM (zC g.mono XN e) (he M X x L h).1
theorem ziq (i:Nat) (es:IEs) (hs:OkA Γ p es):OkI Γ p (.blt i es):=by
  intro M X x L h tg
  cases x with
  |Call fn xs kw q =>
    cases fn with
    |Name y qy =>
     cases kw with
     |nil =>
      replace h:=bd3 h;have gl:=sO L.sc h.1.2;have hi:=yB h.1.1;rw [← L.its] at hi;obtain ⟨e,ei,rfl⟩:=jS hi;have A:=hs M X xs L h.2;refine (g.it e (wL ei) X L.fits gl.1 tg xs (zW Γ XN es) qy q (wG g.mono XN es) A.2.1 A.1 (hX g h.2) gl.2.1 gl.2.2).imp fun τ H R q=>?_;obtain ⟨σ,G,hs',ab,q⟩:=q;refine ⟨σ,G,hs',ab,wG g.mono XN es σ G _ _ (fun ws G1 q=>?_) q⟩;simp only [ei] at q;exact q
     |cons _ _=>exact absurd h zzN
    |_=>exact absurd h zzN
  |_=>exact absurd h zzN
theorem zff (i:Nat) (es:IEs) (hs:OkA Γ p es):OkI Γ p (.spc i es):=by
 intro M X x L h tg;simp only [mI] at h
 split at h
 .rename_i m hm
  split at h
  .rename_i xs hx;rw [← L.ixs] at hm;obtain ⟨k,ek,rfl⟩:=jS hm;have A:=hs M X xs L h;refine (g.ix k (wL ek) X L.fits tg x xs (semL Γ es) (by rw [L.sc];exact hx) A.2.2.2 A.2.1 (by rw [← vH];exact A.1)).imp fun τ H R q=>?_;obtain ⟨σ,G,hs',ab,q⟩:=q;refine ⟨σ,G,hs',ab,?_⟩;rw [← vH];refine wG g.mono XN es σ G _ _ (fun ws G1 q=>?_) q;simp only [ek] at q;exact q
  .exact absurd h zzN
 .exact absurd h zzN
theorem kJ (e:IE):jG Γ p e :=
 IE.rec (motive_1:=jG Γ p) (motive_2:=OkO Γ p) (motive_3:=OkA Γ p) (motive_4:=OkI Γ p) (motive_5:=fun _=>True) (motive_6:=fun _=>True)
  (s_var g) (s_con g) (s_glb g) (s_bin g) (s_neg g) (s_not g) (s_cmp g) (s_chn g) (s_and g) (s_or g) (s_ite g) (s_ix g) (s_sl g) (s_tup g) (s_lst g) (s_dct g) (zio g) (s_mth g) (s_att g)
  (fun tg names caps it c elt _ hi hc he=>s_lc g tg names caps it c elt hi hc he) (s_spc g) (s_ch3 g) (s_no g) (zil g) (zin g) (zfg g) (zim g) (ziq g) (zff g) (fun _=>trivial) (fun _ _=>trivial) trivial (fun _ _ _ _=>trivial) e
theorem sndA (es:IEs):OkA Γ p es:=match es with
 | .nil=>zin g
 | .cons e es=>zfg g e es (kJ g e) (sndA es)
theorem sndI (it:II):OkI Γ p it:=match it with
 | .val e=>zim g e (kJ g e)
 | .blt i es=>ziq g i es (sndA g es)
 | .spc i es=>zff g i es (sndA g es)
theorem sndO (o:IO):OkO Γ p o:=match o with
 | .no=>s_no g
 | .yes e=>zil g e (kJ g e)
end
end L3
namespace L3
open PySem PySem.Spec PyProof.Rows L2
theorem zg6 {i:Nat} {a:IE} {M:MC} {x:Stmt} (h:mS (.asg i a) M x=true):∃ y py v q,x=.Assign [.Name y py] v q/\(M.N[i]?==some y)=true/\dQ M y=true/\mE a M v=true:=by
 cases x with
 |Assign ts v q =>
  cases ts with
  |nil=>exact absurd h zzN
  |cons t r =>
   cases r with
   |cons _ _=>cases t<;>exact absurd h zzN
   |nil =>
    cases t with
    |Name y py =>
     replace h:=bd3 h;exact ⟨y,py,v,q,rfl,h.1.1,h.1.2,h.2⟩
    |_=>exact absurd h zzN
 |_=>exact absurd h zzN
theorem zeM {ts:ITgs} {a:IE} {M:MC} {x:Stmt} (h:mS (.asgT ts a) M x=true):∃ es k qt v q,x=.Assign [.Tuple es k qt] v q/\sY v=true/\zew v=true/\mGs M ts es=true/\mE a M v=true:=by
 cases x with
 |Assign ts v q =>
  cases ts with
  |nil=>exact absurd h zzN
  |cons t r =>
   cases r with
   |cons _ _=>cases t<;>exact absurd h zzN
   |nil =>
    cases t with
    |Tuple es k qt =>
     replace h:=bd4 h;exact ⟨es,k,qt,v,q,rfl,h.1.1.1,h.1.1.2,h.1.2,h.2⟩
    |_=>exact absurd h zzN
 |_=>exact absurd h zzN
theorem zeN {i j:Nat} {a:IE} {M:MC} {x:Stmt} (h:mS (.asgS i j a) M x=true):∃ t v q,x=.Assign [t] v q/\sY v=true/\zew v=true/\zdX M i j t=true/\mE a M v=true:=by
 cases x with
 |Assign ts v q =>
  cases ts with
  |nil=>exact absurd h zzN
  |cons t r =>
   cases r with
   |cons _ _=>exact absurd h zzN
   |nil =>
    replace h:=bd4 h;exact ⟨t,v,q,rfl,h.1.1.1,h.1.1.2,h.1.2,h.2⟩
 |_=>exact absurd h zzN
theorem zgd {M:MC} {i j:Nat} {t:Expr} (h:zdX M i j t=true):∃ x px y py p2 k q,t=.Tuple [.Name x px,.Starred (.Name y py) p2] k q/\((M.N[i]?==some x)=true/\dQ M x=true)/\((M.N[j]?==some y)=true/\dQ M y=true):=by
 unfold zdX at h
 split at h
 .exact ⟨_,_,_,_,_,_,_,rfl,uE (uE h).1,uE (uE h).2⟩
 .exact absurd h zzN
theorem zeO {o i a:IE} {M:MC} {x:Stmt} (h:mS (.asgI o i a) M x=true):∃ l r qs v q,x=.Assign [.Subscript l r qs] v q/\sY v=true/\nQ r=true/\mE o M l=true/\mE i M r=true/\mE a M v=true:=by
 cases x with
 |Assign ts v q =>
  cases ts with
  |nil=>exact absurd h zzN
  |cons t r =>
   cases r with
   |cons _ _=>cases t<;>exact absurd h zzN
   |nil =>
    cases t with
    |Subscript l r qs =>
     replace h:=bd5 h;exact ⟨l,r,qs,v,q,rfl,h.1.1.1.1,h.1.1.1.2,h.1.1.2,h.1.2,h.2⟩
    |_=>exact absurd h zzN
 |_=>exact absurd h zzN
theorem zeP {o a:IE} {f:Str} {M:MC} {x:Stmt} (h:mS (.asgA o f a) M x=true):∃ l qs v q,x=.Assign [.Attribute l f qs] v q/\sY v=true/\mE o M l=true/\mE a M v=true:=by
 cases x with
 |Assign ts v q =>
  cases ts with
  |nil=>exact absurd h zzN
  |cons t r =>
   cases r with
   |cons _ _=>cases t<;>exact absurd h zzN
   |nil =>
    cases t with
    |Attribute l y qs =>
     replace h:=bd4 h;simp only [beq_iff_eq] at h;obtain ⟨⟨⟨rfl,h2⟩,h3⟩,h4⟩:=h;exact ⟨l,qs,v,q,rfl,h2,h3,h4⟩
    |_=>exact absurd h zzN
 |_=>exact absurd h zzN
theorem zjV {a:IE} {M:MC} {x:Stmt} (h:mS (.ex a) M x=true):∃ v q,x=.Expr v q/\sY v=true/\mE a M v=true:=by
 cases x with
 |Expr v q =>
  replace h:=uE h;exact ⟨v,q,rfl,h.1,h.2⟩
 |_=>exact absurd h zzN
theorem zgX {a:IE} {M:MC} {x:Stmt} (h:mS (.ret a) M x=true):∃ v q,x=.Return (some v) q/\mE a M v=true:=by
 cases x with
 |Return v q =>
  cases v with
  |none=>exact absurd h zzN
  |some v=>exact ⟨v,q,rfl,h⟩
 |_=>exact absurd h zzN
theorem zeJ {M:MC} {x:Stmt} (h:mS .retN M x=true):∃ q,x=.Return none q:=by
 cases x with
 |Return v q =>
  cases v with
  |none=>exact ⟨q,rfl⟩
  |some v=>exact absurd h zzN
 |_=>exact absurd h zzN
theorem zeK {M:MC} {x:Stmt} (h:mS .pass M x=true):∃ q,x=.Pass q:=by
 cases x with
 |Pass q=>exact ⟨q,rfl⟩
 |_=>exact absurd h zzN
theorem zg5 {M:MC} {x:Stmt} (h:mS .brk M x=true):∃ q,x=.Break q:=by
 cases x with
 |Break q=>exact ⟨q,rfl⟩
 |_=>exact absurd h zzN
theorem zg1 {M:MC} {x:Stmt} (h:mS .cnt M x=true):∃ q,x=.Continue q:=by
 cases x with
 |Continue q=>exact ⟨q,rfl⟩
 |_=>exact absurd h zzN
theorem zgZ {c:IE} {a b:ISs} {M:MC} {x:Stmt} (h:mS (.ite c a b) M x=true):∃ t y z q,x=.If t y z q/\mE c M t=true/\uJ a M y=true/\uJ b M z=true:=by
 cases x with
 |If t y z q =>
  replace h:=bd3 h;exact ⟨t,y,z,q,rfl,h.1.1,h.1.2,h.2⟩
 |_=>exact absurd h zzN
theorem zgW {c:IE} {b:ISs} {M:MC} {x:Stmt} (h:mS (.whl c b) M x=true):∃ t y q,x=.While t y [] q/\mE c M t=true/\uJ b M y=true:=by
 cases x with
 |While t y z q =>
  cases z with
  |nil =>
   replace h:=uE h;exact ⟨t,y,q,rfl,h.1,h.2⟩
  |cons _ _=>exact absurd h zzN
 |_=>exact absurd h zzN
theorem zg0 {tg:ITg} {it:II} {b:ISs} {M:MC} {x:Stmt} (h:mS (.for tg it b) M x=true):∃ t y z q,x=.For t y z [] q/\vE y=true/\mG M tg t=true/\mI it M y=true/\uJ b M z=true:=by
 cases x with
 |For t y z e q =>
  cases e with
  |nil =>
   replace h:=bd4 h;exact ⟨t,y,z,q,rfl,h.1.1.1,h.1.1.2,h.1.2,h.2⟩
  |cons _ _=>exact absurd h zzN
 |_=>exact absurd h zzN
theorem zgY {M:MC} {x:List Stmt} (h:uJ .nil M x=true):x=[]:=by
 cases x with
 |nil=>rfl
 |cons _ _=>exact absurd h zzN
theorem zeL {s:IS} {ss:ISs} {M:MC} {x:List Stmt} (h:uJ (.cons s ss) M x=true):∃ y ys,x=y::ys/\mS s M y=true/\uJ ss M ys=true:=by
 cases x with
 |nil=>exact absurd h zzN
 |cons y ys =>
  replace h:=uE h;exact ⟨y,ys,rfl,h.1,h.2⟩
end L3
namespace L2
open PySem PySem.Spec PyProof.Rows
theorem alive {P:Program} {w:World} {H:Hp} {h:Heap} {a:Addr} {o:HO} (x:xN P w H h a o):∃ u,h.get? a=some u:=by
 cases o with
 |lst _=>obtain ⟨_,_,_,_,e⟩:=x;exact ⟨_,e⟩
 |tup _=>obtain ⟨_,_,_,u,e,_⟩:=x;exact ⟨u,e⟩
 |dK _=>obtain ⟨_,_,_,_,u,_,_,e,_⟩:=x;exact ⟨u,e⟩
 |dT _=>obtain ⟨_,_,_,_,u,_,_,e,_⟩:=x;exact ⟨u,e⟩
 |set _ _=>obtain ⟨u,_,_,_,e,_⟩:=x;exact ⟨u,e⟩
 |ins _ _ _=>exact ⟨_,x.2.2.2.1⟩
 |own _=>exact x
 |xd _=>obtain ⟨_,⟨u,_,_,e,_⟩,_⟩:=x;exact ⟨u,e⟩
 |rng _ _=>obtain ⟨_,_,_,e⟩:=x;exact ⟨_,e⟩
 |frz _ _=>exact ⟨_,x.1⟩
 |tbl _=>exact ⟨_,x⟩
 |met _ _=>exact ⟨_,x⟩
 |ext _=>exact x.2.1
def zcw (h:Heap) (L:Addr):List (Addr×Obj):=(List.range h.objs.size).filterMap fun b=>if b=L then none else (h.get? b).map fun o=>(b,o)
theorem tO {h:Heap} {L b:Addr} {o:Obj}:(b,o)∈zcw h L↔b≠L/\h.get? b=some o:=by
 unfold zcw;rw [List.mem_filterMap]
 constructor
 .rintro ⟨c,_,e⟩
  split at e
  .cases e
  .rename_i hc;obtain ⟨o',e1,e2⟩:=Option.map_eq_some_iff.mp e;cases e2;exact ⟨hc,e1⟩
 .rintro ⟨hb,e⟩;exact ⟨b,List.mem_range.mpr (Heap.lt_size e),by rw [if_neg hb,e];rfl⟩
section
variable {X : Cx} {pos : Pos}
def gStar (K:PySem.W.Frag) (t:TGs):TG:=fun v σ H Q=>∃ a x xs,v=.ref a/\rY K H a (x::xs)/\xs.length<=1000/\∀ D,H D=none->t [x,.ref D] σ (xR H D (.lst xs)) Q
theorem zgy {e1 e2:Expr} {k:Nat} {p2:Pos} {t:TGs} (hc:X.calm=true) (h:PGs X [e1,e2] t) (h1:assignEach [e1,.Starred e2 p2] X.env=[(false,assign e1 X.env),(true,assign e2 X.env)])
  (h2:assignEach [e1,e2] X.env=[(false,assign e1 X.env),(false,assign e2 X.env)]):PG X (.Tuple [e1,.Starred e2 p2] k pos) (gStar X.K t):=by
 intro pins s σ H v u Q I r hw;obtain ⟨a,x,xs,e,hq,hl,hw⟩:=hw;subst e;cases r;obtain ⟨its,rv,ht,hz⟩:=I.tuple hq
 cases rv with
 | @cons _ u _ us r0 rs =>
 have hus:us.length=xs.length:=rs.length.symm;obtain ⟨m,hn,_⟩:=id I.loc;have F:Fr (default:Heap) X.env.locals s.heap m:=⟨hn,fun b o e=>(by cases e),Nat.zero_le _⟩
 have N:News (default:Heap) X.env.locals s.heap (zcw s.heap X.env.locals):=fun p hp=>by
  obtain ⟨b,o⟩:=p;have:=tO.mp hp;exact ⟨this.2,this.1,rfl⟩
 rw [assign_Tuple];refine wpAny_bind (wpAny_standAt ?_);unfold unpack;rw [show (assignEach [e1,.Starred e2 p2] X.env).length=2 by rw [h1];rfl,show (assignEach [e1,.Starred e2 p2] X.env).findIdx? (·.1)=some 1 by rw [h1];rfl];refine wpAny_bind (wpAny_holding (jO I.tk (PySem.W.kun_starT (n:=2) (i:=1) (first:=[u]) (mids:=us) (lasts:=[]) F N ht (I.ok.hd hc) (by decide) (by simp) (by simp;omega) (by simp) (by simp) (by simp) fun D h' tk F' N' lt h0=>?_)));have get:∀ b o,b≠X.env.locals->s.heap.get? b=some o->h'.get? b=some o:=fun b o hb e=>(N' (b,o) (List.mem_cons_of_mem _ (tO.mpr ⟨hb,e⟩))).1;obtain ⟨hD,nD,_⟩:=N' (D,{ cls:=.type "list", data:=.seq us.toArray 0 }) zzT
 have no:s.heap.get? D=none:=by
  cases q:s.heap.get? D with
  |none=>rfl
  |some o=>exact absurd (lt (D,o) (tO.mpr ⟨nD,q⟩)) (Nat.lt_irrefl _)
 have HD:H D=none:=by
  cases q:H D with
  |none=>rfl
  |some o=>obtain ⟨u',e'⟩:=alive (I.hok D o q);rw [no] at e';cases e'
 have nl:∀ b o,H b=some o->b≠X.env.locals:=fun b o e z=>by rw [z,I.free] at e;cases e
 have ne:∀ b o,H b=some o->b≠D:=fun b o e=>yL e HD
 have hok:vL X.prog X.w (xR H D (.lst xs)) h':=fun b o e=>by
  by_cases hb:b=D
  .subst hb;rw [yD] at e;cases e;exact ⟨by rw [sizeLine_eq];omega,us,0,rs,hD⟩
  .rw [zG hb] at e;refine (I.hok b o e).stay (fun c v hc q=>get c v ?_ q) (fun c q=>by rw [zG (ne c _ q)];exact q) fun c ys q=>by rw [zG (ne c _ q)];exact q
   rcases hc with z|z
   .rw [z];exact nl b o e
   .exact nl c _ z
 have I1:Inv X pins σ (xR H D (.lst xs)) { s with heap:=h',toks:=tk } :=
  I.step (g':=s.gens) (d':=s.drawn) (ch:=[]) (fun _ z=>nomatch z) (fun b o hb _ _ e _=>get b o hb e) (fun b o hb _ _ e _=>⟨o.slots,get b o hb e⟩)
   (fun b o _ e n=>by rw [zG (fun z=>by rw [z,no] at e;cases e)];exact n)
   (fun b o _ e=>by
    by_cases hb:b=X.env.locals
    .obtain ⟨o',_,_,q,_⟩:=F'.ns;exact ⟨o',by rw [hb];exact q⟩
    .exact ⟨o,get b o hb e⟩)
   (fun b ys e=>by rw [zG (ne b _ e)];exact e) (fun b o u e=>by rw [zG (ne b _ e)];exact e) (fun b ps e=>⟨#[],by rw [zG (ne b _ e),e];simp⟩)
   (fun m' hm=>by rw [hm.eq_nsMap,← hn.eq_nsMap];exact F'.ns) hok I.bare
 have:=h pins _ σ _ [x,.ref D] [u,.ref D] Q I1 (.cons r0 (.cons rfl .nil)) (hw D HD);rw [h2] at this;rw [h1];exact this
end
end L2
namespace L2
open PySem PySem.Spec PyProof.Rows
section
variable {prog : Program} {w : World} {A : Around} {E : Value → Shared → Prop} {s : Shared}
theorem zbp {it l:Addr} {xs:Array Value} (ne:l≠it):∀ (n i:Nat) (s:Shared) (Q:List Value->Shared->Prop),s.heap.IsListIter it l i->s.heap.IsList l xs->i+n<=xs.size ->
  (∀ h',h'.IsListIter it l (i+n)->Heap.SameBut it s.heap h'->Q ((xs.toList.drop i).take n) { s with heap:=h' })->wpAny (model prog w) A (draw (.ref it) n) Q E s
 | 0,i,s,Q,a,_,_,q=>by
  show wpAny _ _ (pure []) Q E s;exact wpAny_pure (by simpa using q s.heap a (Heap.SameBut.refl ..))
 |n+1,i,s,Q,a,b,le,q=>by
  have lt:i<xs.size:=by omega
  show wpAny _ _ (pyNext (.ref it) >>= _) Q E s;refine wpAny_bind (wpAny_pyNext_list_item a b (x:=xs[i]) (by simp [lt]) fun h1 a1 s1=>?_);refine wpAny_bind (wpAny_holding (zbp ne n (i+1) _ _ a1 (b.extBut s1.extBut ne) (by omega) fun h2 a2 s2=>wpAny_pure ?_));have e:xs.toList.drop i=xs[i]::xs.toList.drop (i+1):=by simp [List.drop_eq_getElem_cons,lt]
  have z:=q h2 (by rw [show i+(n+1)=i+1+n by omega];exact a2) (s1.trans s2);rw [e,List.take_succ_cons] at z;exact z
theorem zbv {l:Addr} {xs:Array Value} {ts:List (Bool×(Value->Sem Unit))} {Q:Unit->Shared->Prop} (hh:A.handled=none) (hl:s.heap.IsList l xs) (hn:ts.length=xs.size) (hs:ts.findIdx? (·.1)=none)
  (h:∀ h',Heap.ExtBut s.heap.objs.size s.heap h'->wpAny (model prog w) A (assignInOrder (ts.map (·.2)) xs.toList) Q E { s with heap:=h' }):wpAny (model prog w) A (unpack (.ref l) ts) Q E s:=by
 have ne:l≠s.heap.objs.size:=by obtain ⟨o,ho,_⟩:=hl;exact Nat.ne_of_lt (Heap.lt_size ho)
 unfold unpack;rw [hn,hs];refine wpAny_bind (wpAny_holding ?_);unfold unpackItems;refine wpAny_bind ?_;unfold notIterableAtAll;refine wpAny_bind (wpAny_specialOf hl.typeIs slot_list_iter.lookup (wpAny_pure ?_));simp only [zzB,if_false];refine wpAny_bind (wpAny_holding (wpAny_pyIter_list hl ?_));refine wpAny_bind (wpAny_holding (zbp ne xs.size 0 _ _ ⟨_,Heap.get?_push_size _ rfl,rfl,rfl⟩ (hl.push _) (by omega) fun h1 a1 s1=>?_));rw [show List.take xs.size (List.drop 0 xs.toList)=xs.toList by rw [List.drop_zero];exact List.take_of_length_le (by simp),if_neg (by simp)];refine wpAny_bind (wpAny_holding (wpAny_pyNext_list_end hh a1 ((hl.push _).extBut s1.extBut ne) (by simp) fun h2 e2=>?_));simp only [Option.isSome_none,zzB,if_false];exact wpAny_pure (h h2 fun b o hb e=>e2 b o hb (s1.extBut b o hb (Heap.get?_push_of_some _ e)))
end
def gTL (K:PySem.W.Frag) (n:Nat) (t:TGs):TG:=fun v σ H Q=>∃ a xs,v=.ref a/\(rY K H a xs\/pH K H a xs)/\xs.length=n/\t xs σ H Q
theorem pg_tl {X:Cx} {pos:Pos} {es:List Expr} {k:Nat} {t:TGs} {n:Nat} (hc:X.calm=true) (h:PGs X es t) (hn:(assignEach es X.env).length=n) (hst:(assignEach es X.env).findIdx? (·.1)=none):PG X (.Tuple es k pos) (gTL X.K n t):=by
 intro pins s σ H v u Q I r hw;obtain ⟨a,xs,e1,hq,hl,hw⟩:=hw;rcases hq with hq|hq
 .exact zfp hc h hn hst pins s σ H v u Q I r ⟨a,xs,e1,hq,hl,hw⟩
 .subst e1;cases r;obtain ⟨its,rv,pl,hz⟩:=I.list hq;rw [assign_Tuple];refine wpAny_bind (wpAny_standAt (zbv (I.ok.hd hc) pl.isList (by simp [hn,← hl,rv.length]) hst fun h' hx=>?_));exact h pins _ σ H xs _ Q (I.kept (t':=s.toks) fun b o e=>hx b o (Nat.ne_of_lt (Heap.lt_size e)) e) (by simpa using rv) hw
end L2
namespace L3
open PySem PySem.Spec PyProof.Rows L2 PySem.SeqAt
theorem za3 {K:yS} {H:Hp} {f:Str} {w:W} {v:V} (q:wX K H w v):∀ {l:List (Str×W)} {l':List (Str×V)},yQ K H l l'->yQ K H (zcn f w l) (kH f v l')
 | [],_,h=>by rw [show _=[] from h];exact ⟨v,[],rfl,q,rfl⟩
 | (n,u)::r,_,⟨x,t,e,h,hr⟩=>by
  subst e;unfold zcn kH
  by_cases hn:n=f
  .rw [if_pos hn,if_pos hn];exact ⟨v,t,rfl,q,hr⟩
  .rw [if_neg hn,if_neg hn];exact ⟨x,_,rfl,h,za3 q hr⟩
section
variable {Γ : Ctx3} {p : Par} (g : Good Γ p)
def OkS (Γ:Ctx3) (p:Par) (s:IS):Prop:=∀ M X x,Lk Γ M p X->mS s M x=true->PS X x (lowS X.K (zS Γ XN s))
def OkSs (Γ:Ctx3) (p:Par) (s:ISs):Prop:=∀ M X x,Lk Γ M p X->uJ s M x=true->dM X x (lowS X.K (yX Γ XN s))
include g
theorem zh8 (i:Nat) (e:IE):OkS Γ p (.asg i e):=by
 intro M X x L h;obtain ⟨y,py,v,q,rfl,h1,h2,h3⟩:=zg6 h
 .
  have lo:=gC L h2;have hN:=yB h1;rw [← L.N] at hN;have nd:X.N.Nodup:=L.N▸L.nd
  have low:∀ (te:TE),(∀ τ H Q,yA X.K (zH Γ XN e).e τ H Q->te τ H Q)->∀ D τ H,lowS X.K (zS Γ XN (.asg i e)) D τ H->tAsg te (zeS i) D τ H:=fun te k D τ H hq=>by
   obtain ⟨σ,G,D3,hs,ab,f,hq⟩:=hq;refine k _ _ _ ⟨σ,G,hs,ab,zC g.mono XN e σ G _ _ (fun w G' hq v' H' g' rp ab'=>?_) hq⟩;exact f.nx _ G' _ H' g' ((hs.mono g').set rp i) ab' hq
  by_cases hl:sY v=true
  .exact (za6 (i:=i) nd hN lo.1 (kJ g e M X v L h3).1 (jT hl) lo.2).imp (low _ fun _ _ _ z=>z)
  .cases v with
   |ListComp x gens sc qq =>
    cases e with
    |lc tg names caps it c elt =>
     match gens,h3 with
     | [⟨t,ix,ifs,asy⟩],h3 =>
      have h3':=h3;replace h3:=bd10 h3;obtain ⟨⟨⟨⟨⟨⟨⟨⟨⟨z0,z1⟩,z2⟩,z3⟩,z4⟩,z5⟩,z6⟩,z7⟩,z8⟩,z9⟩:=h3;replace z0:=of_decide_eq_true z0;subst z0;have cond:∃ b,swapsWith (.ListComp x [⟨t,ix,ifs,0⟩] sc qq) (some (.Name y py)) q.line X.env=pure b:=⟨_,rfl⟩;obtain ⟨b,hb⟩:=cond
      cases b with
      |false=>exact (za6 (i:=i) nd hN lo.1 (kJ g _ M X _ L h3').1 hb lo.2).imp (low _ fun _ _ _ z=>z)
      |true =>
       obtain ⟨c1,c2,c3,c4,c5,c6,c7,c8⟩:=cW g tg names caps it c elt (sndI g it) (sndO g c) (kJ g elt) L (x:=x) (t:=t) (ix:=ix) (ifs:=ifs) (sc:=sc) (by simp only [Bool.and_eq_true];exact ⟨⟨⟨⟨⟨⟨⟨⟨z1,z2⟩,z3⟩,z4⟩,z5⟩,z6⟩,z7⟩,z8⟩,z9⟩);exact (zei (i:=i) L.fits.calm c1 c2 c3 c4 c5 c6 nd hN lo.1 lo.2 hb c7).imp (low _ c8)
    |_=>exact absurd h3 zzN
   |SetComp _ _ _ _=>cases e<;>exact absurd h3 zzN
   |DictComp _ _ _ _ _=>cases e<;>exact absurd h3 zzN
   |_=>exact absurd rfl hl
theorem sndTL {M:MC} {X:Cx} {ts:ITgs} {es:List Expr} {k:Nat} {q:Pos} (L:Lk Γ M p X) (h:mGs M ts es=true):PG X (.Tuple es k q) (lowG X.K fun w σ G Q=>zV (.tup ts) (unl G w) σ G Q):=by
 obtain ⟨ps,hn,hst⟩:=zgf L ts es h;refine (pg_tl (n:=es.length) L.fits.calm ps hn hst).imp fun v σ H Q q=>?_;obtain ⟨w,σ3,G,rp,hs,ab,q⟩:=q
 cases w with
 |tup ws =>
  obtain ⟨a,vs,rfl,sq,rs⟩:=rp;exact ⟨a,vs,rfl,.inl sq,by rw [rs.length];exact zeB ts es ws σ3 G _ h q,ws,σ3,G,rs,hs,ab,q⟩
 |ref p =>
  cases (show v=.ref p from rp);simp only [unl] at q
  split at q
  .rename_i ws e;obtain ⟨vs,sq,rs⟩:=ab.seq e;exact ⟨p,vs,rfl,.inr sq,by rw [rs.length];exact zeB ts es ws σ3 G _ h q,ws,σ3,G,rs,hs,ab,q⟩
  .exact q.elim
 |_=>exact q.elim
theorem zfb (ts:ITgs) (e:IE):OkS Γ p (.asgT ts e):=by
 intro M X x L h;obtain ⟨es,k,qt,v,q,rfl,h1,h2,h3,h4⟩:=zeM h
 .
  have pg:=sndTL g (k:=k) (q:=qt) L h3;refine (zfo (kJ g e M X v L h4).1 pg (by unfold swapsWithSole;exact jT h1) (by cases v<;>first|rfl|cases h2) rfl).imp fun D τ H hq=>?_;obtain ⟨σ,G,D3,hs,ab,f,hq⟩:=hq;refine ⟨σ,G,hs,ab,zC g.mono XN e σ G _ _ (fun w G' hq v' H' g' rp ab'=>?_) hq⟩;exact ⟨w,σ,G',rp,hs.mono g',ab',tW _ (unl G' w) σ G' _ _ (fun σ2 G2 hq τ2 H2 g2 hs2 a2=>f.nx σ2 G2 τ2 H2 (g'.trans g2) hs2 a2 hq) hq⟩
theorem zfc (i j:Nat) (e:IE):OkS Γ p (.asgS i j e):=by
 intro M X x L h;obtain ⟨t,v,q,rfl,h1,h2,h3,h4⟩:=zeN h;obtain ⟨y,py,z,pz,p2,k,qt,rfl,hi,hj⟩:=zgd h3;have l1:=gC L hi.2;have l2:=gC L hj.2;have pg:=zgy (k:=k) (p2:=p2) (pos:=qt) L.fits.calm (hJ (zau (pos:=py) (i:=i) (L.N▸L.nd) (by rw [L.N];exact yB hi.1) l1.1 l1.2) (hJ (zau (pos:=pz) (i:=j) (L.N▸L.nd) (by rw [L.N];exact yB hj.1) l2.1 l2.2) zct)) rfl rfl;refine (zfo (kJ g e M X v L h4).1 pg (by unfold swapsWithSole;exact jT h1) (by cases v<;>first|rfl|cases h2) rfl).imp fun D τ H hq=>?_;obtain ⟨σ,G,D3,hs,ab,f,hq⟩:=hq;refine xZ (zC g.mono XN e) hs ab hq fun w G1 v1 H1 g1 hs1 r1 a1 hq=>?_
 cases w with
 |tup ws =>
  cases ws with
  |nil=>exact hq.elim
  |cons x r =>
   obtain ⟨a,vs,rfl,sq,rs⟩:=r1;obtain ⟨v0,vr,rfl,rx,rr⟩:=rs;refine ⟨a,v0,vr,rfl,sq,by rw [rr.length];exact hq.1,fun p hp=>⟨v0,[.ref p],rfl,.ref p,[],rfl,rfl,?_⟩⟩;have gr:=wZ (K:=X.K) (u:=.lst vr) hp;have ab2:xP X.K (xR H1 p (.lst vr)) (put G1 p (.lst r)):=a1.new hp ⟨vr,rfl,rr.mono gr⟩;exact f.nx _ _ _ _ (g1.trans gr) (((hs1.mono gr).set (rx.mono gr) i).set (show wX X.K _ (.ref p) (.ref p) from rfl) j) ab2 (hq.2 p (a1.free hp))
 |_=>exact hq.elim
theorem zfd (o i e:IE):OkS Γ p (.asgI o i e):=by
 intro M X x L h;obtain ⟨l,r,qs,v,q,rfl,h1,h2,h3,h4,h5⟩:=zeO h
 .
  have pe:=(kJ g e M X v L h5).1;have po:=(kJ g o M X l L h3).1;have pi:=(kJ g i M X r L h4).1;intro pins s τ H D I hq;obtain ⟨σ,G,D3,hs,ab,f,hq⟩:=hq
  have q1:yA X.K (zH Γ XN e).e τ H fun v H1=>yA X.K (zH Γ XN o).e τ H1 fun ov H2=>yA X.K (zH Γ XN i).e τ H2 fun iv H3=>zfB X.K ov iv v H3 fun H4=>D.nx τ H4:=by
   refine xZ (zC g.mono XN e) hs ab hq fun w G1 v1 H1 g1 hs1 r1 a1 hq=>?_;refine xZ (zC g.mono XN o) hs1 a1 hq fun x G2 v2 H2 g2 hs2 r2 a2 hq=>?_;refine xZ (zC g.mono XN i) hs2 a2 hq fun y G3 v3 H3 g3 hs3 r3 a3 hq=>?_;exact ⟨x,y,w,G3,r2.mono g3,r3,(r1.mono g2).mono g3,a3,zcc (fun G4 hq H4 g4 a4=>f.nx σ G4 τ H4 (g1.trans (g2.trans (g3.trans g4))) (hs3.mono g4) a4 hq) hq⟩
  refine wpAny_Assign_Subscript (yF (pe pins s τ H _ I q1) fun u1 s1 ⟨v1,H1,I1,r1,q1⟩=>yF (po pins s1 τ H1 _ I1 q1) fun u2 s2 ⟨v2,H2,I2,r2,q2⟩=>yF (pi pins s2 τ H2 _ I2 q2) fun u3 s3 ⟨v3,H3,I3,r3,q3⟩=>?_) (jT h1);exact yF (zik (sP g L) pins s3 τ H3 v2 v3 v1 u2 u3 u1 _ I3 r2 r3 r1 q3) fun _ s4 ⟨H4,I4,q4⟩=>⟨τ,H4,I4,q4⟩
theorem zfe (o:IE) (f:Str) (e:IE):OkS Γ p (.asgA o f e):=by
 intro M X x L h;obtain ⟨l,qs,v,q,rfl,h2,h3,h4⟩:=zeP h
 .
  refine (ziG (kJ g o M X l L h3).1 (kJ g e M X v L h4).1 (jT h2)).imp fun D τ H hq=>?_;obtain ⟨σ,G,D3,hs,ab,fi,hq⟩:=hq;refine xZ (zC g.mono XN e) hs ab hq fun w G1 v1 H1 g1 hs1 r1 a1 hq=>?_;refine xZ (zC g.mono XN o) hs1 a1 hq fun x G2 v2 H2 g2 hs2 r2 a2 hq=>?_
  cases x with
  |ref a =>
   cases r2;simp only [satR] at hq
   split at hq
   .rename_i C fs e2;obtain ⟨⟨l2,hl,hf⟩,hlen,hq⟩:=hq;obtain ⟨dx,fs',e',rk⟩:=a2.ins e2;have c:=g.cl _ hl;refine ⟨a,C,dx,fs',rfl,e',by rw [L.fits.K];exact c.1,by rw [L.fits.K];exact c.2 f hf,by rw [rk.length];exact hlen,?_⟩;have gr:=a2.grow (u:=.ins C dx (kH f v1 fs')) e2;exact fi.nx σ _ τ _ (g1.trans (g2.trans gr)) (hs2.mono gr) (a2.chg (o:=.ins C (zcn f w fs)) e2 ⟨dx,_,rfl,za3 ((r1.mono g2).mono gr) (rk.mono gr)⟩) hq
   .exact hq.elim
  |_=>exact hq.elim
theorem wC:OkS Γ p .retN/\OkS Γ p .pass/\OkS Γ p .brk/\OkS Γ p .cnt/\OkS Γ p .dead:=by
 refine ⟨fun M X x L h=>?_,fun M X x L h=>?_,fun M X x L h=>?_,fun M X x L h=>?_,fun M X x L h=>?_⟩
 .obtain ⟨q,rfl⟩:=zeJ h;exact zgt.imp fun D τ H hq=>by obtain ⟨σ,G,D3,hs,ab,f,hq⟩:=hq;exact f.rt .non G _ H .refl (show wX X.K H .non .non from rfl) ab hq
 .obtain ⟨q,rfl⟩:=zeK h;exact zgu.imp fun D τ H hq=>by obtain ⟨σ,G,D3,hs,ab,f,hq⟩:=hq;exact f.nx σ G τ H .refl hs ab hq
 .obtain ⟨q,rfl⟩:=zg5 h;exact zel.imp fun D τ H hq=>by obtain ⟨σ,G,D3,hs,ab,f,hq⟩:=hq;exact f.bk σ G τ H .refl hs ab hq
 .obtain ⟨q,rfl⟩:=zg1 h;exact zat.imp fun D τ H hq=>by obtain ⟨σ,G,D3,hs,ab,f,hq⟩:=hq;exact f.ct σ G τ H .refl hs ab hq
 .exact zek.imp fun D τ H hq=>by obtain ⟨σ,G,D3,hs,ab,f,hq⟩:=hq;exact hq.elim
theorem t_ex (e:IE):OkS Γ p (.ex e):=by
 intro M X x L h;obtain ⟨v,q,rfl,hh⟩:=zjV h
 .have h:=hh;refine (zcr (kJ g e M X v L h.2).1 (jT h.1)).imp fun D τ H hq=>?_;obtain ⟨σ,G,D3,hs,ab,f,hq⟩:=hq;exact xZ (zC g.mono XN e) hs ab hq fun w G1 v1 H1 g1 hs1 r1 a1 hq=>f.nx σ G1 τ H1 g1 hs1 a1 hq
theorem zh5 (e:IE):OkS Γ p (.ret e):=by
 intro M X x L h;obtain ⟨v,q,rfl,hh⟩:=zgX h
 .have h:=hh;refine (zcq (kJ g e M X v L h).1).imp fun D τ H hq=>?_;obtain ⟨σ,G,D3,hs,ab,f,hq⟩:=hq;exact xZ (zC g.mono XN e) hs ab hq fun w G1 v1 H1 g1 hs1 r1 a1 hq=>f.rt w G1 v1 H1 g1 r1 a1 hq
theorem zh6 (c:IE) (a b:ISs) (ha:OkSs Γ p a) (hb:OkSs Γ p b):OkS Γ p (.ite c a b):=by
 intro M X x L h;obtain ⟨t,y,z,q,rfl,hh⟩:=zgZ h
 .have h:=hh;refine (ziF (kJ g c M X t L h.1).2.1 (ha M X y L h.2.1) (hb M X z L h.2.2)).imp fun D τ H hq=>?_;obtain ⟨σ,G,D3,hs,ab,f,hq⟩:=hq;refine sE (uZ g.mono XN c) hs ab hq fun k G1 H1 g1 hs1 a1 hq=>?_
  split
  .rename_i hk;rw [if_pos hk] at hq;exact ⟨σ,G1,D3,hs1,a1,f.grow g1,hq⟩
  .rename_i hk;rw [if_neg hk] at hq;exact ⟨σ,G1,D3,hs1,a1,f.grow g1,hq⟩
theorem zh4 (c:IE) (b:ISs) (hb:OkSs Γ p b):OkS Γ p (.whl c b):=by
 intro M X x L h;obtain ⟨t,y,q,rfl,hh⟩:=zgW h
 .have h:=hh;have hp:PassesOwn (model X.prog X.w) X.A X.env X.xe:=by rw [L.fits.xe];exact PassesOwn.never
  refine (za5 hp (kJ g c M X t L h.1).2.1 (hb M X y L h.2)).imp fun D τ H hq=>?_;obtain ⟨σ,G,D3,hs,ab,f,Pv,⟨m0,p0⟩,step⟩:=hq;refine ⟨fun m τ H'=>yM X.K H H'/\∃ σ G,yV X.K H' σ τ/\xP X.K H' G/\Pv m σ G,⟨m0,.refl,σ,G,hs,ab,p0⟩,?_⟩;rintro m τ1 H1 ⟨g1,σ1,G1,hs1,a1,p1⟩;refine sE (uZ g.mono XN c) hs1 a1 (step m σ1 G1 p1) fun k G2 H2 g2 hs2 a2 hq=>?_
  split
  .rename_i hk;rw [if_pos hk] at hq;refine ⟨fun τ' H'=>∃ m',m' < m/\yM X.K H H'/\∃ σ G,yV X.K H' σ τ'/\xP X.K H' G/\Pv m' σ G,fun τ' H' z=>z,?_⟩;refine ⟨σ1,G2,_,hs2,a2,⟨?_,?_,?_,?_⟩,hq⟩
   .rintro σ3 G3 τ3 H3 g3 hs3 a3 ⟨m',hm,p'⟩;exact ⟨m',hm,g1.trans (g2.trans g3),σ3,G3,hs3,a3,p'⟩
   .exact fun σ3 G3 τ3 H3 g3 hs3 a3 z=>f.nx σ3 G3 τ3 H3 (g1.trans (g2.trans g3)) hs3 a3 z
   .rintro σ3 G3 τ3 H3 g3 hs3 a3 ⟨m',hm,p'⟩;exact ⟨m',hm,g1.trans (g2.trans g3),σ3,G3,hs3,a3,p'⟩
   .exact fun w G3 v3 H3 g3 r3 a3 z=>f.rt w G3 v3 H3 (g1.trans (g2.trans g3)) r3 a3 z
  .rename_i hk;rw [if_neg hk] at hq;exact f.nx σ1 G2 τ1 H2 (g1.trans g2) hs2 a2 hq
theorem zh7 (tg:ITg) (it:II) (b:ISs) (hb:OkSs Γ p b):OkS Γ p (.for tg it b):=by
 intro M X x L h;obtain ⟨t,y,z,q,rfl,h1,h2,h3,h4⟩:=zg0 h
 .
  have hp:PassesOwn (model X.prog X.w) X.A X.env X.xe:=by rw [L.fits.xe];exact PassesOwn.never
  refine (zfn hp L.fits.calm (sndI g it M X y L h3 t) (sndG L tg t h2) (hb M X z L h4) (uH h1)).imp fun D τ H hq=>?_;obtain ⟨σ,G,D3,hs,ab,f,hq⟩:=hq;refine ⟨σ,G,hs,ab,zcH g.mono XN it σ G _ _ (fun items stab G1 hq J H1 g1 a1 ii=>?_) hq⟩;obtain ⟨Pv,p0,pst,step,fin⟩:=hq;refine ⟨fun i m τ H'=>m+i=items.length/\yM X.K H1 H'/\∃ σ G,yV X.K H' σ τ/\xP X.K H' G/\Pv i σ G,⟨items.length,rfl,.refl,σ,G1,hs.mono g1,a1,p0⟩,?_⟩;rintro i m τ2 H2 ⟨hm,g2,σ2,G2,hs2,a2,p2⟩;have st:=pst i σ2 G2 p2 (by omega)
  by_cases hi:i<items.length
  .refine .inr ⟨ii.go i H2 G2 g2 a2 st hi,fun τ' H'=>∃ m',m' < m/\(m'+(i+1)=items.length/\yM X.K H1 H'/\∃ σ G,yV X.K H' σ τ'/\xP X.K H' G/\Pv (i+1) σ G),fun τ' H' z=>z,fun x H' yl=>?_⟩;obtain ⟨w,ew,g3,rp,a3⟩:=ii.yld i H2 G2 x H' g2 a2 st hi yl;refine ⟨w,σ2,G2,rp,hs2.mono g3,a3,tW tg w σ2 G2 _ _ (fun σ4 G4 hq τ4 H4 g4 hs4 a4=>?_) (step i w σ2 G2 ew p2)⟩;refine ⟨σ4,G4,_,hs4,a4,⟨?_,?_,?_,?_⟩,hq⟩
   .exact fun σ5 G5 τ5 H5 g5 hs5 a5 z=>⟨m-1,by omega,by omega,g2.trans (g3.trans (g4.trans g5)),σ5,G5,hs5,a5,z⟩
   .exact fun σ5 G5 τ5 H5 g5 hs5 a5 z=>f.nx σ5 G5 τ5 H5 (g1.trans (g2.trans (g3.trans (g4.trans g5)))) hs5 a5 z
   .exact fun σ5 G5 τ5 H5 g5 hs5 a5 z=>⟨m-1,by omega,by omega,g2.trans (g3.trans (g4.trans g5)),σ5,G5,hs5,a5,z⟩
   .exact fun w5 G5 v5 H5 g5 r5 a5 z=>f.rt w5 G5 v5 H5 (g1.trans (g2.trans (g3.trans (g4.trans g5)))) r5 a5 z
  .have ei:i=items.length:=by omega
   subst ei;exact .inl ⟨ii.stop _ H2 G2 g2 a2 st (zzR _),f.nx σ2 G2 τ2 H2 (g1.trans g2) hs2 a2 (fin σ2 G2 p2)⟩
theorem zca (s:ISs):OkSs Γ p s :=
 ISs.rec (motive_1:=OkS Γ p) (motive_2:=OkSs Γ p) (zh8 g) (zfb g) (zfd g) (zfe g) (t_ex g) (zh5 g) (wC g).1 (wC g).2.1 (wC g).2.2.1 (wC g).2.2.2.1
  (fun c a b ha hb=>zh6 g c a b ha hb) (fun c b hb=>zh4 g c b hb) (fun tg it b hb=>zh7 g tg it b hb) (wC g).2.2.2.2 (zfc g)
  (fun M X x L h=>by
   cases zgY h;exact zcp.imp fun D τ H hq=>by obtain ⟨σ,G,D3,hs,ab,f,hq⟩:=hq;exact f.nx σ G τ H .refl hs ab hq)
  (fun s ss hs1 hs2 M X x L h=>by
   obtain ⟨y,ys,rfl,hh⟩:=zeL h
   .have h:=hh;refine (za4 (hs1 M X y L h.1) (hs2 M X ys L h.2)).imp fun D τ H hq=>?_;obtain ⟨σ,G,D3,hs,ab,f,hq⟩:=hq;refine ⟨σ,G,{ D3 with nx:=yX Γ XN ss D3 },hs,ab,⟨?_,f.bk,f.ct,f.rt⟩,hq⟩;exact fun σ2 G2 τ2 H2 g2 hs2 a2 z=>⟨σ2,G2,D3,hs2,a2,f.grow g2,z⟩) s
end
end L3
namespace PySem
open Sem (wp)
section
variable {prog : Program} {w : World} {s : Shared} {A : Around} {E : Value → Shared → Prop}
def itc (b:Bool):String:=if b then "tuple_iterator" else "list_iterator"
def SIt (b:Bool) (h:Heap) (i l:Addr) (k:Nat):Prop:=∃ o,h.get? i=some o/\o.cls=.type (itc b)/\o.data=.fields #[.ref l,.int k 0]
def SSq (b:Bool) (h:Heap) (l:Addr) (its:Array Value):Prop:=match b with
 |true=>h.IsTuple l its
 |false=>h.IsList l its
theorem SIt.at {b:Bool} {h h':Heap} {i l:Addr} {k:Nat} (x:SIt b h i l k) (e:∀ o,h.get? i=some o->h'.get? i=some o):SIt b h' i l k:=let ⟨o,ho,r⟩:=x;⟨o,e _ ho,r⟩
theorem mD {b:Bool} {l:Addr} {its:Array Value} {Q:Value->Shared->Prop} (h:SSq b s.heap l its)
  (hQ:Q (.ref s.heap.objs.size) { s with heap:=s.heap.push { cls:=.type (itc b),data:=.fields #[.ref l,.int 0 0] } }):wpAny (model prog w) A (pyIter (.ref l)) Q E s:=by
 cases b
 .exact wpAny_pyIter_list h hQ
 .exact wpAny_pyIter_tuple h hQ
abbrev zdm (it:Addr):Sem Value:=Builtin.SmallTypes.nextOf (.ref it)
theorem zfa {it:Addr} {Q:Value->Shared->Prop} (ty:s.TypeIs (.ref it) "tuple_iterator")
  (h:wpAny (model prog w) A.in1 (Builtin.«tuple_iterator.__next__» ⟨[.ref it],[]⟩) (fun f s'=>∃ v,f=.done (.ret v)/\Q v s') E s) :
  wpAny (model prog w) A (zdm it) Q E s:=by
 have sl:=F.slot_tuple_iterator_next;apply wpAny_bind;apply wpAny_callSpecial?_slot ty sl;apply wpAny_call_entry sl ty F.entry_tuple_iterator_next _ (F.args_tuple_iterator_next_1 _);exact wpAny_mono h (fun _ _ ⟨v,e,q⟩=>⟨v,e,wpAny_pure q⟩) fun _ _ e=>e
theorem pF {it t:Addr} {i:Nat} {items} {x:Value} {Q:Value->Shared->Prop} (hit:s.heap.IsTupleIter it t i) (ht:s.heap.IsTuple t items) (hx:items[i]?=some x)
  (hQ:∀ h',h'.IsTupleIter it t (i+1)->Heap.SameBut it s.heap h'->Q x { s with heap:=h' }) :
  wpAny (model prog w) A (zdm it) Q E s:=by
 apply zfa hit.typeIs;obtain ⟨⟨c,di,da,sl⟩,g1,c1,d1⟩:=hit;obtain ⟨⟨c2,di2,da2,sl2⟩,g2,c2',n2,d2⟩:=ht;cases c1;cases d1;cases d2;obtain ⟨hp,ge,dr,tk,os⟩:=s
 wp_walk using wpAny_loadPart' g2,wpAny_loadPart' g1
 rw [Int.toNat_natCast,hx]
 wp_walk using wpAny_loadPart' g1
 refine ⟨x,rfl,hQ _ ⟨_,Heap.get?_update_self _ g1 rfl,rfl,?_⟩ (.update ..)⟩;exact congrArg (fun z=>Data.fields #[.ref t,z]) rfl
theorem mR {it t:Addr} {i:Nat} {items} {Q:Value->Shared->Prop} (hh:A.handled=none) (hit:s.heap.IsTupleIter it t i) (ht:s.heap.IsTuple t items) (hx:items[i]?=none)
  (hE:∀ g e,Heap.ExtBut it s.heap g->(∃ o,g.get? e=some o/\o.cls=.type "StopIteration")->E (.ref e) { s with heap:=g }) :
  wpAny (model prog w) A (zdm it) Q E s:=by
 apply zfa hit.typeIs;obtain ⟨⟨c,di,da,sl⟩,g1,c1,d1⟩:=hit;obtain ⟨⟨c2,di2,da2,sl2⟩,g2,c2',n2,d2⟩:=ht;cases c1;cases d1;cases d2;obtain ⟨hp,ge,dr,tk,os⟩:=s;have hh':A.in1.handled=none:=hh
 wp_walk using wpAny_loadPart' g2,wpAny_loadPart' g1
 rw [Int.toNat_natCast,hx]
 wp_walk using wpAny_loadPart' g1
 unfold raiseNew
 wp_walk
 exact hE _ _ (fun b o n z=>Heap.get?_push_of_some _ (Heap.get?_push_of_some _ ((Heap.SameBut.update ..).extBut b o n z))) ⟨_,Heap.get?_push_size _ rfl,rfl⟩
theorem zd7 {b:Bool} {it l:Addr} {i:Nat} {items:Array Value} {x:Value} {Q:Value->Shared->Prop} (hit:SIt b s.heap it l i) (hl:SSq b s.heap l items) (hx:items[i]?=some x)
  (hQ:∀ h',SIt b h' it l (i+1)->Heap.SameBut it s.heap h'->Q x { s with heap:=h' }):wpAny (model prog w) A (Builtin.SmallTypes.nextOf (.ref it)) Q E s:=by
 cases b
 .exact wpAny_nextOf_list_item hit hl hx hQ
 .exact pF hit hl hx hQ
theorem zgg {b:Bool} {it l:Addr} {i:Nat} {items:Array Value} {Q:Value->Shared->Prop} (hh:A.handled=none) (hit:SIt b s.heap it l i) (hl:SSq b s.heap l items) (hx:items[i]?=none)
  (hE:∀ h' e,Heap.ExtBut it s.heap h'->(∃ o,h'.get? e=some o/\o.cls=.type "StopIteration")->E (.ref e) { s with heap:=h' }):wpAny (model prog w) A (Builtin.SmallTypes.nextOf (.ref it)) Q E s:=by
 cases b
 .exact wpAny_nextOf_list_end hh hit hl hx hE
 .exact mR hh hit hl hx hE
end
section
variable {prog : Program} {w : World} {s : Shared} {A : Around} {E : Value → Shared → Prop}
end
end PySem
namespace PySem
open Sem (wp)
section
variable {prog : Program} {w : World} {s : Shared} {A : Around} {E : Value → Shared → Prop}
theorem zae {M:Model} {a:Addr} {Q:Option Obj->Shared->Prop} (h:Q (s.heap.get? a) s):wpAny M A (loadIfAlive a) Q E s:=fun Γ p hΓ=>by
 unfold loadIfAlive;rw [Sem.wp_loadIfAlive];exact wpAny_pure h Γ p hΓ
end
end PySem
namespace L2
open PySem PySem.Spec PyProof.Rows
structure TurnL (P:Program) (w:World) (K:PySem.W.Frag) (T:String) (J:It) (fp:List Addr) (it:Addr) (tn:Nat->Heap->Prop):Prop where
 mem:it∈fp
 ty:∀ i h,tn i h->∃ o,h.get? it=some o/\o.cls=.type T
 obj:∀ i h,tn i h->∀ b∈fp,∃ o,h.get? b=some o/\∀ v,o.data≠.cell v
 keep:∀ i h h',tn i h->(∀ b∈fp,∀ o,h.get? b=some o->h'.get? b=some o)->tn i h'
 item:∀ (X:Cx),X.prog=P->X.w=w->X.K=K->X.calm=true->∀ (i:Nat) (pins:List (Addr×Obj)) (s:Shared) (σ:St) (H:Hp) (E:Value->Shared->Prop),Inv X pins σ H s->(∀ b∈fp,uN X pins H b)->tn i s.heap->J.go i H ->
  wpAny (model P w) X.A (pyNext (.ref it)) (fun r s2=>∃ u x H',r=some u/\Inv X pins σ H' s2/\yY x u/\J.yld i H x H'/\tn (i+1) s2.heap/\∀ b∈fp,H' b=none) E s
 done:∀ (X:Cx),X.prog=P->X.w=w->X.K=K->X.calm=true->∀ (i:Nat) (pins:List (Addr×Obj)) (s:Shared) (σ:St) (H:Hp) (E:Value->Shared->Prop),Inv X pins σ H s->(∀ b∈fp,uN X pins H b)->tn i s.heap->J.stop i H ->
  wpAny (model P w) X.A (pyNext (.ref it)) (fun r s1=>r=none/\Inv X pins σ H s1) E s
 self:∀ (A:Around) (i:Nat) (s:Shared) (Q:Value->Shared->Prop) (E:Value->Shared->Prop),tn i s.heap->Q (.ref it) s->wpAny (model P w) A (pyIter (.ref it)) Q E s
 hint:∀ (A:Around) (i:Nat) (s:Shared) (Q:Bool->Shared->Prop) (E:Value->Shared->Prop),tn i s.heap->(∀ b,Q b s)->wpAny (model P w) A (Builtin.List.listLengthHint (.ref it)) Q E s
abbrev Cx.atA (X:Cx) (A:Around):Cx:={ X with A:=A }
theorem Cx.Ok.atA {X:Cx} (ok:X.Ok) {A:Around} (hf:A.frames=X.A.frames) (hh:A.handled=X.A.handled):(X.atA A).Ok :=
 ⟨ok.mod,ok.kind,ok.glob,ok.blt,ok.above,ok.inj,ok.has,ok.cab,fun z=>hh.trans (ok.hd z),hf.trans ok.frames,ok.stk,ok.exf,ok.bs,ok.bsz,ok.noex,ok.exfs,ok.funs,ok.frf⟩
section
variable {X : Cx} {pins : List (Addr × Obj)} {σ : St} {H : Hp} {s : Shared}
theorem Inv.atA (I:Inv X pins σ H s) {A:Around} (hf:A.frames=X.A.frames) (hh:A.handled=X.A.handled):Inv (X.atA A) pins σ H s :=
 ⟨I.ok.atA hf hh,I.os,I.bare,I.base,I.loc,I.cell,I.free,I.freeC,I.pin,I.hok,I.len,I.tk⟩
theorem Inv.unA {A:Around} (hf:A.frames=X.A.frames) (hh:A.handled=X.A.handled) (I:Inv (X.atA A) pins σ H s):Inv X pins σ H s :=
 ⟨Cx.Ok.atA (X:=X.atA A) (A:=X.A) I.ok hf.symm hh.symm,I.os,I.bare,I.base,I.loc,I.cell,I.free,I.freeC,I.pin,I.hok,I.len,I.tk⟩
theorem zeT {P:Program} {w:World} {A:Around} {R:Result->Shared->Prop} (S I:Addr) (res:Value) (Jn:Nat->Shared->Prop)
  (step:∀ k s,Jn k s->wpAny (model P w) A.in1 (pyNext (.ref I)) (fun r s'=>match r with
   |none=>R (.ok (.ret res)) s'
   |some v=>∃ its c,s'.heap.get? S=some (vY its c)/\its.length<sizeLine/\∀ h',Heap.SameBut S s'.heap h'->h'.get? S=some (vY (its++[v]) (c+1))->∃ k',k' < k/\Jn k' { s' with heap:=h' }) (fun e s'=>R (.error e) s') s) :
  ∀ k s,Jn k s->codeAny (model P w) A (.builtin "list.extend.loop" ⟨[.ref S,.ref I,res],[]⟩) R s:=by
 intro k
 induction k using Nat.strongRecOn with
 |_ k ih =>
  intro s j;refine codeAny_builtin F.entry_extend_loop ?_;rw [Around.under_plainId F.plain_extend_loop _];show wpAny _ A.in1 (pyNext (.ref I) >>= _) _ _ s;refine wpAny_bind (yF (step k s j) fun r s' q=>?_)
  cases r with
  |none=>exact wpAny_pure q
  |some v =>
   obtain ⟨its,c,hS,hl,q⟩:=q;show wpAny _ A.in1 (updateSeq S (·.push v) >>= _) _ _ _;refine wpAny_bind ?_;obtain ⟨k',hk,j'⟩:=q _ (Heap.SameBut.update ..) (by exact (Heap.get?_update_self (Obj.mapSeq (·.push v)) hS rfl).trans (by simp [Obj.mapSeq,vY]));exact wpAny_updateSeq hS rfl (wpAny_pure ⟨plainId_quiet F.plain_extend_loop _,ih k' hk _ j'⟩) (by show its.toArray.size<=sizeLine;rw [zzS];omega) (by show (its.toArray.push v).size<=sizeLine+1;rw [Array.size_push,zzS];omega)
theorem Inv.adopt {a:Addr} {o:HO} (I:Inv X pins σ H s) (off:Off X pins a) (hn:H a=none) (new:xN X.prog X.w (xR H a o) s.heap a o):Inv X pins σ (xR H a o) s:=by
 have b:=I.base;have nb:∀ b' ob,X.s₀.heap.get? b'=some ob->b'≠a:=fun b' ob e=>Nat.ne_of_lt (Nat.lt_of_lt_of_le (Heap.lt_size e) off.ge);refine ⟨I.ok,I.os,I.bare,⟨b.keep,b.slot,fun c ob e n hx=>?_,b.there,fun c xs e=>?_,fun c ob u e=>?_,fun c ps e=>?_⟩,I.loc,I.cell,?_,fun x c e=>?_,fun p hp=>?_,I.hok.adopt (fun c u v _ q=>q) hn new,I.len,I.tk⟩
 .rw [zG (nb c ob e)];exact b.free c ob e n hx
 .rw [zG (yL (b.tups c xs e) hn)];exact b.tups c xs e
 .rw [zG (yL (b.frzs c ob u e) hn)];exact b.frzs c ob u e
 .obtain ⟨mo,e'⟩:=b.tbls c ps e;exact ⟨mo,by rw [zG (yL e' hn)];exact e'⟩
 .rw [zG off.ne.symm];exact I.free
 .rw [zG (off.cl x c e)];exact I.freeC x c e
 .obtain ⟨q1,q2,q3⟩:=I.pin p hp;exact ⟨q1,by rw [zG (off.pn p hp)];exact q2,q3⟩
theorem zcN (hc:X.calm=true) {T:String} {J:It} {fp:List Addr} {it:Addr} {tn:Nat->Heap->Prop} {Q:VK} (hTl:(Value.type T==Value.type "list")=false) (hTt:(Value.type T==Value.type "tuple")=false)
  (I:Inv X pins σ H s) (Tn:TurnL X.prog X.w X.K T J fp it tn) (t0:tn 0 s.heap) (hf:∀ b∈fp,uN X pins H b) (n:Nat) (hn:n<=sizeLine) (W:Nat->List V->Hp->Prop) (w0:W 0 [] H)
  (wgo:∀ i acc H,i<n->W i acc H->J.go i H/\∀ x H',J.yld i H x H'->W (i+1) (acc++[x]) H') (wst:∀ acc H,W n acc H->J.stop n H/\∀ p,H p=none->Q (.ref p) (xR H p (.lst acc))) :
  wpAny (model X.prog X.w) X.A (call (.type "list") [.ref it]) (EP X pins σ Q) X.xe s:=by
 have hfp:∀ b∈fp,b<s.heap.objs.size:=fun b hb=>by
  obtain ⟨o,e,_⟩:=Tn.obj _ _ t0 b hb;exact Heap.lt_size e
 have hSf:∀ b∈fp,b≠s.heap.objs.size:=fun b hb=>Nat.ne_of_lt (hfp b hb);have hSI:s.heap.objs.size≠it:=(hSf it Tn.mem).symm;have off:Off X pins s.heap.objs.size:=I.off (zzR _);have nfs:s.heap.objs.size∉X.fs:=I.nofs (zzR _);have fr0:∀ b∈fp,H b=none:=fun b hb=>(hf b hb).1;have HS0:H s.heap.objs.size=none:=I.hok.fresh (zzR _)
 have fpok:∀ {H':Hp} {ob:Obj},(∀ b∈fp,H' b=none)->∀ b∈fp,uN X ((s.heap.objs.size,ob)::pins) H' b:=fun {H' ob} hn b hb=>by
  obtain ⟨q1,q2,q3,q4,q5,q6⟩:=hf b hb;refine ⟨hn b hb,q2,q3,q4,q5,fun p hp=>?_⟩;rcases List.mem_append.mp hp with hp|hp
  .exact q6 p (List.mem_append_left _ hp)
  .rcases List.mem_cons.mp hp with rfl|hp
   .exact (hSf b hb).symm
   .exact q6 p (List.mem_append_right _ hp)
 have pinS:∀ {H':Hp} {s':Shared} {its:List Value} {c:Nat},Inv X pins σ H' s'->H' s.heap.objs.size=none->s'.heap.get? s.heap.objs.size=some (vY its c)->Inv X ((s.heap.objs.size,vY its c)::pins) σ H' s':=fun {H' s' its c} I' hn e =>
  I'.pins_of fun p hp=>by
   rcases List.mem_cons.mp hp with rfl|hp
   .exact ⟨e,hn,off.ne,nfs,fun v z=>nomatch z⟩
   .exact I'.pin p (List.mem_append_right _ hp)
 have unpin:∀ {H':Hp} {s':Shared} {ob:Obj},Inv X ((s.heap.objs.size,ob)::pins) σ H' s'->Inv X pins σ H' s':=fun {H' s' ob} I'=>I'.pins_of fun p hp=>I'.pin p (List.mem_append_right _ (List.mem_cons_of_mem _ hp))
 refine callType_codes (Q₁:=fun obj s₁=>obj=.ref s.heap.objs.size/\s₁={ s with heap:=s.heap.push { cls:=.type "list", data:=.seq #[] } }) F.called_list (F.typeCall_list_1 _) F.entry_list_init
  (code_list_new _ ⟨rfl,rfl⟩) fun obj s₁ h₁=>?_
 obtain ⟨rfl,rfl⟩:=h₁;have hS:(s.heap.push { cls:=.type "list", data:=.seq #[] }).get? s.heap.objs.size=some { cls:=.type "list", data:=.seq #[] }:=Heap.get?_push_size _ rfl;refine ⟨⟨_,hS,rfl⟩,F.args_list_init_2 _ _,?_⟩
 have loop:∀ (h':Heap) (c:Nat),h'.get? s.heap.objs.size=some (vY [] c)->(∀ b o,s.heap.get? b=some o->h'.get? b=some o) ->
   codeAny (model X.prog X.w) X.A.in1 (.builtin "list.extend.loop" ⟨[.ref s.heap.objs.size,.ref it,.none],[]⟩) (wants (fun r s₂=>r=.none/\EP X pins σ Q (.ref s.heap.objs.size) s₂) X.xe) { s with heap:=h' }:=by
  intro h' c e0 k0
  refine zeT s.heap.objs.size it .none (fun k s'=>∃ i acc H' its c,k+i=n/\Inv X pins σ H' s'/\tn i s'.heap/\(∀ b∈fp,H' b=none)/\H' s.heap.objs.size=none/\s'.heap.get? s.heap.objs.size=some (vY its c)/\zA acc its/\acc.length<=i/\W i acc H') ?_ n _
   ⟨0,[],H,[],c,by omega,I.kept (t':=s.toks) k0,Tn.keep _ _ _ t0 fun b _ o e=>k0 b o e,fr0,HS0,e0,.nil,zzR _,w0⟩
  rintro k s' ⟨i,acc,H',its,c',hk,I',st,fr,hS',oS,v,la,wi⟩;have Ip:=(pinS I' hS' oS).atA (A:=X.A.in1.in1) rfl rfl
  by_cases hi:i<n
  .obtain ⟨go,yl⟩:=wgo i acc H' hi wi;refine yF (Tn.item (X.atA X.A.in1.in1) rfl rfl rfl hc i _ s' σ H' _ Ip (fpok fr) st go) fun r s2 ⟨u,x,H2,hr,I2,r2,y2,st2,fr2⟩=>?_;subst hr;have I2':=Inv.unA (X:=X) (A:=X.A.in1.in1) rfl rfl I2;have p2:=I2'.pin (s.heap.objs.size,vY its c') (List.mem_append_right _ (zzT ..));refine ⟨its,c',p2.1,by rw [← v.length];omega,fun h'' sb e''=>⟨k-1,by omega,i+1,acc++[x],H2,its++[u],c'+1,by omega,off.turned (unpin I2') p2.2.1 sb,Tn.keep _ _ _ st2 fun b hb o e=>sb.extBut b o (hSf b hb) e,fr2,p2.2.1,e'',v.append (.cons r2 .nil),by rw [zzW];show acc.length+1<=i+1;omega,yl x H2 y2⟩⟩
  .have hin:i=n:=by omega
   subst hin;obtain ⟨yH,fin⟩:=wst acc H' wi;refine yF (Tn.done (X.atA X.A.in1.in1) rfl rfl rfl hc i _ s' σ H' _ Ip (fpok fr) st yH) fun r s2 ⟨hr,I2⟩=>?_;subst hr;have I2':=Inv.unA (X:=X) (A:=X.A.in1.in1) rfl rfl I2;have p2:=I2'.pin (s.heap.objs.size,vY its c') (List.mem_append_right _ (zzT ..));exact ⟨rfl,.ref s.heap.objs.size,xR H' s.heap.objs.size (.lst acc),(unpin I2').adopt off hS' ⟨by omega,its,c',v,p2.1⟩,rfl,fin _ hS'⟩
 show wpAny _ X.A.in1.in1 (do let old ← Builtin.List.listItems (.ref s.heap.objs.size);Builtin.List.listUpdate (.ref s.heap.objs.size) (fun _=>#[]);letGo old.toList.reverse;Builtin.List.listExtendWith (.ref s.heap.objs.size) (.ref it) .none) _ _ _;refine wpAny_bind ?_;unfold Builtin.List.listItems;refine wpAny_bind (wpAny_seqItems hS rfl (wpAny_pure ?_));show wpAny _ X.A.in1.in1 (updateSeq s.heap.objs.size (fun _=>#[]) >>= fun _=>letGo (#[]:Array Value).toList.reverse >>= fun _=>Builtin.List.listExtendWith (.ref s.heap.objs.size) (.ref it) .none) _ _ _;refine wpAny_bind (wpAny_updateSeq hS rfl ?_);have hS₂:=Heap.get?_update_self (Obj.mapSeq (fun _=>(#[]:Array Value))) hS rfl;generalize hh2:(s.heap.push { cls:=.type "list", data:=.seq #[] }).update s.heap.objs.size (Obj.mapSeq (fun _=>(#[]:Array Value)))=h2 at *
 have k2:∀ b o,s.heap.get? b=some o->h2.get? b=some o:=fun b o e=>by
  rw [← hh2,Heap.get?_update_other _ _ (Nat.ne_of_gt (Heap.lt_size e))];exact Heap.get?_push_of_some _ e
 have tn2:tn 0 h2:=Tn.keep _ _ _ t0 fun b _ o e=>k2 b o e;refine wpAny_bind (wpAny_letGo ?_);unfold Builtin.List.listExtendWith;obtain ⟨oI,eI,cI⟩:=Tn.ty _ _ tn2;refine wpAny_bind (wpAny_typeOf (s:={ s with heap:=h2 }) ⟨oI,eI,cI⟩ ?_);have h1:Builtin.List.listSameRef (.ref s.heap.objs.size) (.ref it)=false:=by simp [Builtin.List.listSameRef,hSI]
 rw [if_neg (by rw [h1,hTl,hTt];decide)];refine wpAny_bind (Tn.self _ 0 { s with heap:=h2 } _ _ tn2 ?_);refine wpAny_bind (wpAny_holding (Tn.hint _ 0 { s with heap:=h2 } _ _ tn2 fun room=>?_));dsimp only
 split
 .refine wpAny_bind (wpAny_rule ?_);refine wpAny_bind ?_;show wpAny _ X.A.in1.in1 (updateSeq s.heap.objs.size (·.push .none) >>= fun _=>updateSeq s.heap.objs.size (·.pop)) _ _ _;refine wpAny_bind (wpAny_updateSeq hS₂ rfl ?_);have hS₃:=Heap.get?_update_self (Obj.mapSeq (·.push Value.none)) hS₂ rfl;refine wpAny_updateSeq (hz:=by seq_fits) hS₃ rfl ?_;have hS₄:=Heap.get?_update_self (Obj.mapSeq (·.pop)) hS₃ rfl;refine wpAny_pure ⟨plainId_quiet F.plain_extend_loop _,loop _ _ hS₄ fun b o e=>?_⟩;rw [Heap.get?_update_other _ _ (Nat.ne_of_gt (Heap.lt_size e)),Heap.get?_update_other _ _ (Nat.ne_of_gt (Heap.lt_size e))];exact k2 b o e
 .exact wpAny_pure ⟨plainId_quiet F.plain_extend_loop _,loop _ _ hS₂ k2⟩
end
end L2
namespace L2
open PySem PySem.Spec PyProof.Rows
def SqB (b:Bool) (K:PySem.W.Frag) (H:Hp) (a:Addr) (xs:List V):Prop:=match b with
 |true=>rY K H a xs
 |false=>pH K H a xs
theorem Inv.sqB {X:Cx} {pins:List (Addr×Obj)} {σ:St} {H:Hp} {s:Shared} {b:Bool} {a:Addr} {xs:List V} (I:Inv X pins σ H s) (h:SqB b X.K H a xs):∃ its:List Value,zA xs its/\SSq b s.heap a its.toArray/\xs.length<=sizeLine:=by
 cases b
 .obtain ⟨its,r,p,hz⟩:=I.list h;exact ⟨its,r,p.isList,hz⟩
 .obtain ⟨its,r,p,hz⟩:=I.tuple h;exact ⟨its,r,p,hz⟩
theorem Inv.sqB_inj {X:Cx} {pins:List (Addr×Obj)} {σ:St} {H:Hp} {s:Shared} {b:Bool} {a:Addr} {xs ys:List V} (I:Inv X pins σ H s) (h:SqB b X.K H a xs) (h':SqB b X.K H a ys):xs=ys:=by
 cases b
 .exact I.list_inj h h'
 .exact I.tuple_inj h h'
theorem Inv.turns {X:Cx} {pins:List (Addr×Obj)} {σ:St} {H:Hp} {s:Shared} {h':Heap} {t':Nat} {fp:List Addr} (I:Inv X pins σ H s) (hf:∀ b∈fp,uN X pins H b) (k:∀ b o,b∉fp->s.heap.get? b=some o->h'.get? b=some o) (ht:0<t':=by first|exact Nat.succ_pos _|exact L2.Inv.tk (by assumption)|exact L2.Inv.tk ‹L2.Inv _ _ _ _ _› | assumption|omega):Inv X pins σ H { s with heap:=h',toks:=t' }:=by
 have nit:∀ b u,H b=some u->b∉fp:=fun b u e z=>by rw [(hf b z).1] at e;cases e
 refine I.step (g':=s.gens) (d':=s.drawn) (ch:=fp) (fun b hb=>?_) (fun b o _ _ hc e _=>k b o hc e) (fun b o _ _ hc e _=>⟨o.slots,k b o hc e⟩) (fun _ _ _ _ n=>n)
  (fun b o hc e=>⟨o,k b o hc e⟩) (fun _ _ e=>e) (fun _ _ _ e=>e) (fun b ps e=>⟨#[],by rw [e];simp⟩) (fun m hm=>?_) (fun b u e=>?_) I.bare
 .obtain ⟨_,q2,q3,q4,q5,q6⟩:=hf b hb;exact ⟨q4,q2,q5,q6⟩
 .obtain ⟨o,es,ep,ho,r⟩:=hm;exact ⟨o,es,ep,k _ o (fun z=>(hf _ z).2.1 rfl) ho,r⟩
 .refine (I.hok b u e).stay (fun c v hc q=>k c v ?_ q) (fun _ q=>q) fun _ _ q=>q;rcases hc with z|z
  .rw [z];exact nit b u e
  .exact nit c _ z
section
variable {a b : Bool} {z TI TO i1 i2 l1 l2 : Addr}
variable {X : Cx} {pins : List (Addr × Obj)} {σ : St} {H : Hp} {s : Shared}
end
end L2
namespace L3
open PySem PySem.Spec PyProof.Rows L2
structure Pr where
 prog:Program
 w:World
 K:yS
 mg:Str->Option Value
 base:Heap
abbrev Pr.at (q:Pr) (A:Around):Par:=⟨q.prog,q.w,q.K,q.mg,q.base,A⟩
def jR (K:yS) (sp:sC):Sp:=fun vs H Q E=>∃ ws G,zF K H ws vs/\xP K H G/\sp ws G (qE K H Q) XN
def yO (N:List Str) (ws:List W):wI:=ws.map some++List.replicate (N.length-ws.length) none
theorem rX {K:yS} {H:Hp} {N:List Str} {ws:List W} {vs:List V} (r:zF K H ws vs):yV K H (yO N ws) (L2.start N vs):=by
 have hl:=r.length;refine ⟨by simp [yO,L2.start,hl],fun i w e=>?_⟩;unfold yO at e;unfold L2.start
 by_cases hi:i<ws.length
 .rw [List.getElem?_append_left (by simpa using hi),List.getElem?_map] at e
  cases q:ws[i]? with
  |none=>rw [q] at e;cases e
  |some w' =>
   rw [q] at e;obtain rfl:w'=w:=Option.some.inj (Option.some.inj e);obtain ⟨v,ev,rp⟩:=r.get q;refine ⟨v,?_,rp⟩;rw [List.getElem?_append_left (by simp;omega),List.getElem?_map,ev];rfl
 .rw [List.getElem?_append_right (by simp;omega),List.getElem?_replicate] at e
  split at e<;>cases e
structure MOk (Γ:Ctx3) (M:MC) (sc:Scope):Prop where
 sc:M.sc=sc
 own:M.own=fun _=>true
 fns:Γ.fn.map (·.nm)=M.fns
 gls:Γ.gl.map (·.1)=M.gls
 mts:Γ.mt.map (·.nm)=M.mts
 its:Γ.it.map (·.nm)=M.its
 sxs:Γ.sx.map (·.m)=M.sxm
 ixs:Γ.ix.map (·.m)=M.ixm
def FnE (p:Par) (f:Fn3):Prop:=∀ X,Fits p X->Gl X f.nm->∀ (args:List Expr) (t:A3) (q pos:Pos),qI t->args.all noStar=true->PA X args (uY X.K t)->(args=[]->∀ σ G Q,t σ G Q->Q [] G)->(f.nm==("__debug__" : Str))=false->f.nm ≠ "__name__" ->
  PE X (.Call (.Name f.nm q) args [] pos) (yA X.K fun σ G Q=>t σ G fun ws G1=>f.sp ws G1 Q XN)
theorem xA {e:Expr} {es:List Expr} {env:Env} {pos:Pos} (h:(e::es).all noStar=true):starEach (e::es) env=(false,eval e env)::starEach es env/\(backTo pos (starEach es env)).any (·.1)=false:=by
 rw [List.all_cons,Bool.and_eq_true] at h;refine ⟨qN h.1,?_⟩;have h2:=h.2
 clear h
 induction es with
 |nil=>rfl
 |cons a r ih =>
  rw [List.all_cons,Bool.and_eq_true] at h2;rw [qN h2.1];show (false || (backTo pos (starEach r env)).any (·.1))=false;rw [ih h2.2];rfl
theorem Fits.eq {p:Par} {X:Cx} (f:Fits p X):p=⟨X.prog,X.w,X.K,X.mg,X.base,X.A⟩:=by
 obtain ⟨e1,e2,e3,e4,e5,e6,_,_⟩:=f;rw [e1,e2,e3,e4,e5,e6]
theorem pa_sp {X:Cx} {args:List Expr} {t:A3} {sp:sC} {dws:List W} {dvs:List V} (m:qI t) (hd:∀ H,zF X.K H dws dvs) (mono:∀ ws G (Q Q':Q3),(∀ w G',Q w G'->Q' w G')->sp ws G Q XN->sp ws G Q' XN) {τ:L2.St} {H:Hp} {Q:VK} {E:XK}
  (h:yA X.K (fun σ G Q=>t σ G fun ws G1=>sp (ws++dws) G1 Q XN) τ H Q):zga (jR X.K sp) dvs E (uY X.K t) τ H Q:=by
 obtain ⟨σ,G,hs,ab,h⟩:=h;refine tR m hs ab h fun ws G1 vs H1 g1 hs1 rs a1 h=>?_;exact ⟨ws++dws,G1,rs.append (hd H1),a1,mono _ _ _ _ (fun w G' z v' H' g'=>z v' H' (g1.trans g')) h⟩
theorem zj1 {q:Pr} {k:Nat} {nm:Str} {f:Addr} {fd:FuncData} {ps:List Str} {ds:List Value} {dvs:List V} {dws:List W} {sp:sC} (FO:FnOk q.prog q.w q.K q.mg q.base CX0 k f fd ps (jR q.K sp)) (hm:q.mg nm=some (.ref f)) (hk:PySem.W.keepIn q.K (.ref f)=true)
  (hb:kP q.K fd ps ds) (hd:∀ H,zF q.K H dws dvs) (hv:zA dvs ds) (mono:∀ ws G (Q Q':Q3),(∀ w G',Q w G'->Q' w G')->sp ws G Q XN->sp ws G Q' XN) {A:Around} (hr:Room k A):FnE (q.at A) ⟨nm,fun ws G Q _=>sp (ws++dws) G Q XN⟩:=by
 intro X fits gl args t qp pos mt hn pa hnil hdb hnm;have e:=fits.eq
 injection e with e1 e2 e3 e4 e5 e6
 subst e6;rw [e1,e2,e3,e4,e5] at FO;rw [e4] at hm;rw [e3] at hk hb hd
 cases args with
 |nil =>
  refine (zeu (p:=qp) (pos:=pos) FO hr gl hm hk hb hv ziY hdb).imp fun τ H Q h=>?_;obtain ⟨σ,G,hs,ab,h⟩:=h;have h:=hnil rfl _ _ _ h;exact ⟨dws,G,hd H,ab,h⟩
 |cons a r =>
  obtain ⟨s1,s2⟩:=xA (env:=X.env) (pos:=pos) hn;exact (zgC (p:=qp) (pos:=pos) FO hr gl hm hk hb hv ziY pa hdb s1 s2).imp fun τ H Q h=>pa_sp (args:=a::r) mt hd mono h
end L3
namespace L3
open PySem PySem.Spec PyProof.Rows L2 PySem.SeqAt
abbrev RS:=List W->Hw->Q3->Prop
def qP (sp:RS):Prop:=∀ ws G (Q Q':Q3),(∀ w G',Q w G'->Q' w G')->sp ws G Q->sp ws G Q'
def pC (K:yS) (sp:RS):List V->Hp->VK->Prop:=fun vs H Q=>∃ ws G,zF K H ws vs/\xP K H G/\sp ws G (qE K H Q)
theorem zaz {X:Cx} {t:A3} {sp:RS} (mt:qI t) (mono:qP sp) {τ:L2.St} {H:Hp} {Q:VK} (h:yA X.K (fun σ G Q=>t σ G fun ws G1=>sp ws G1 Q) τ H Q):tCB (pC X.K sp) (uY X.K t) τ H Q:=by
 obtain ⟨σ,G,hs,ab,h⟩:=h;exact tR mt hs ab h fun ws G1 vs H1 g1 hs1 rs a1 h=>⟨ws,G1,rs,a1,mono _ _ _ _ (fun w G' z v' H' g'=>z v' H' (g1.trans g')) h⟩
theorem zbj {q:Pr} {A:Around} {nm:Str} {id:String} {sp:RS} (hm:q.mg nm=none) (hv:bootBuiltins nm=some (.builtin id)) (hc:∀ X,Fits (q.at A) X->jP X (.builtin id) (pC X.K sp)) (mono:qP sp) (h0:∀ G Q,¬ sp [] G Q):FnE (q.at A) ⟨nm,fun ws G Q _=>sp ws G Q⟩:=by
 intro X fits gl args t qp pos mt hn pa hnil hdb hnm;have hm':X.mg nm=none:=by rw [fits.mg];exact hm
 cases args with
 |nil=>exact fun pins s σ H Q I h=>absurd (hnil rfl _ _ _ h.choose_spec.choose_spec.2.2) (h0 _ _)
 |cons a r =>
  obtain ⟨s1,s2⟩:=xA (env:=X.env) (pos:=pos) hn;exact (zet (p:=qp) (pos:=pos) (hc X fits) gl hm' hv pa hnm hdb s1 s2).imp fun τ H Q h=>zaz mt mono h
theorem zj0 {q:Pr} {A:Around} {nm:Str} {T:String} {sp:RS} (hm:q.mg nm=none) (hv:bootBuiltins nm=some (.type T)) (hc:∀ X,Fits (q.at A) X->jP X (.type T) (pC X.K sp)) (mono:qP sp) (h0:∀ G Q,¬ sp [] G Q):FnE (q.at A) ⟨nm,fun ws G Q _=>sp ws G Q⟩:=by
 intro X fits gl args t qp pos mt hn pa hnil hdb hnm;have hm':X.mg nm=none:=by rw [fits.mg];exact hm
 cases args with
 |nil=>exact fun pins s σ H Q I h=>absurd (hnil rfl _ _ _ h.choose_spec.choose_spec.2.2) (h0 _ _)
 |cons a r =>
  obtain ⟨s1,s2⟩:=xA (env:=X.env) (pos:=pos) hn;exact (zcu (p:=qp) (pos:=pos) (hc X fits) gl hm' hv pa hnm hdb s1 s2).imp fun τ H Q h=>zaz mt mono h
abbrev MS:=W->List W->Hw->Q3->Prop
def MtE (p:Par) (m:Mt3):Prop:=∀ X,Fits p X->∀ (o:Expr) (args:List Expr) (to:E3) (t:A3) (apos cpos:Pos),wF to->qI t->pI o=true->(apos.endLine==cpos.line)=true->args.length<25->args.all noStar=true ->
  PE X o (yA X.K to)->PA X args (uY X.K t)->(args=[]->∀ σ G Q,t σ G Q->Q [] G)->PE X (.Call (.Attribute o m.nm apos) args [] cpos) (yA X.K fun σ G Q=>to σ G fun x G1=>tyW G1 x m.T/\t σ G1 fun ws G2=>m.sp x ws G2 Q)
def lowM (K:yS) (sp:MS):V->List V->Hp->VK->Prop:=fun x vs H Q=>∃ w ws G,wX K H w x/\zF K H ws vs/\xP K H G/\sp w ws G (qE K H Q)
theorem zbk {args:List Expr} {env:Env} {pos:Pos} (h:args.all noStar=true):(backTo pos (starEach args env)).all (fun x=>!x.1)=true:=by
 induction args with
 |nil=>rfl
 |cons a r ih =>
  rw [List.all_cons,Bool.and_eq_true] at h;rw [qN h.1];show (true&&(backTo pos (starEach r env)).all (fun x=>!x.1))=true;rw [ih h.2];rfl
theorem gN {p:Par} {nm:Str} {T id:String} {sp:MS} (pa:PlainAttrs T) (slot:Slot T nm id) (hty:typeOf (.builtin id)=pure (.type "method_descriptor")) (hm:∀ X,Fits p X->MtR X id (lowM X.K sp))
  (mono:∀ x ws G (Q Q':Q3),(∀ w G',Q w G'->Q' w G')->sp x ws G Q->sp x ws G Q'):MtE p ⟨nm,T,sp⟩:=by
 intro X fits o args to t apos cpos mo mt ho hline hlen hn po pa' hnil
 cases args with
 |nil =>
  refine (ziX pa slot hty (hm X fits) po (vS ho) hline).imp fun τ H Q h=>?_;obtain ⟨σ,G,hs,ab,h⟩:=h;refine xZ mo hs ab h fun w G1 v H1 g1 hs1 rw1 a1 h=>⟨ze8 rw1 a1 h.1,w,[],G1,rw1,rfl,a1,mono _ _ _ _ _ (fun w' G' z v' H' g'=>z v' H' (g1.trans g')) (hnil rfl _ _ _ h.2)⟩
 |cons a r =>
  obtain ⟨s1,s2⟩:=xA (env:=X.env) (pos:=cpos) hn;refine (pe_bm pa slot hty (hm X fits) po pa' (vS ho) ?_ hline s1 s2).imp fun τ H Q h=>?_
  .rw [zbk hn]
   have:(a::r).length+([]:List Keyword).length+(if ([]:List Keyword).isEmpty then 0 else 1)<30:=by
    show (a::r).length+0+0<30;omega
   rw [decide_eq_true this];rfl
  .obtain ⟨σ,G,hs,ab,h⟩:=h;refine xZ mo hs ab h fun w G1 v H1 g1 hs1 rw1 a1 h=>⟨ze8 rw1 a1 h.1,?_⟩;exact tR mt hs1 a1 h.2 fun ws G2 vs H2 g2 hs2 rs a2 h=>⟨w,ws,G2,rw1.mono g2,rs,a2,mono _ _ _ _ _ (fun w' G' z v' H' g'=>z v' H' (g1.trans (g2.trans g'))) h⟩
def maxS:RS:=fun ws G Q=>match ws with
 | [.int i,.int j]=>Q (.int (if j > i then j else i)) G
 |_=>False
theorem cO:qP maxS:=by
 intro ws G Q Q' k h;unfold maxS at h ⊢
 split at h
 .exact k _ _ h
 .exact h.elim
theorem cT {K:yS} {H:Hp} {a b:W} {vs:List V} (r:zF K H [a,b] vs):∃ x y,vs=[x,y]/\wX K H a x/\wX K H b y:=by
 obtain ⟨x,t,rfl,rx,y,t',rfl,ry,rt⟩:=r;cases (show t'=[] from rt);exact ⟨x,y,rfl,rx,ry⟩
theorem vQ {K:yS} {H:Hp} {a:W} {vs:List V} (r:zF K H [a] vs):∃ x,vs=[x]/\wX K H a x:=by
 obtain ⟨x,t,rfl,rx,rt⟩:=r;cases (show t=[] from rt);exact ⟨x,rfl,rx⟩
theorem zjl {X:Cx} (hc:X.calm=true):jP X (.builtin "max") (pC X.K maxS):=by
 intro pins s σ H xs us Q I r h;obtain ⟨ws,G,rs,ab,h⟩:=h;unfold maxS at h
 split at h
 .rename_i i j;obtain ⟨x,y,rfl,rx,ry⟩:=cT rs;cases (show x=.int i from rx);cases (show y=.int j from ry);exact zdy hc pins s σ H _ us Q I r ⟨i,j,rfl,h _ H .refl rfl ab⟩
 .exact h.elim
def sR (G:Hw):W->Option Nat
 | .str x=>if x.length<=sizeLine then some x.length else none
 | .tup ws=>some ws.length
 | .ref p=>match G p with
  |some (.lst ws)=>some ws.length
  |some (.fix ws)=>some ws.length
  |some (.dic kvs)=>some kvs.length
  |_=>none
 |_=>none
def sQ:RS:=fun ws G Q=>match ws with
 | [x]=>(match sR G x with|some n=>Q (.int n) G|none=>False)
 |_=>False
theorem cL:qP sQ:=by
 intro ws G Q Q' k h;unfold sQ at h ⊢
 split at h
 .split at h
  .exact k _ _ h
  .exact h.elim
 .exact h.elim
theorem zgQ {X:Cx}:jP X (.builtin "len") (fun xs H Q=>∃ a kvs,xs=[V.ref a]/\H a=some (.dK kvs)/\Q (.int kvs.length) H):=by
 intro pins s σ H xs us Q I r h;obtain ⟨a,kvs,rfl,ha,q⟩:=h;obtain ⟨u,rfl,ru⟩:=qA r;cases ru;exact d_len I (.inl ha) fun t s' I'=>⟨.int kvs.length,H,I',⟨t,rfl⟩,q⟩
theorem zjr {X:Cx}:jP X (.builtin "len") (pC X.K sQ):=by
 intro pins s σ H xs us Q I r h;obtain ⟨ws,G,rs,ab,h⟩:=h;unfold sQ at h
 split at h
 .rename_i w;obtain ⟨v,rfl,rv⟩:=vQ rs
  split at h
  .rename_i n hn;have q:Q (.int n) H:=h (.int n) H .refl rfl ab
   cases w with
   |str x =>
    cases (show v=.str x from rv);simp only [sR] at hn
    split at hn
    .rename_i hl;cases hn;exact zai pins s σ H _ us Q I r ⟨x,rfl,hl,q⟩
    .cases hn
   |tup ws' =>
    obtain ⟨a,vs,rfl,sq,rr⟩:=rv;simp only [sR] at hn;cases hn;exact vV pins s σ H _ us Q I r ⟨a,vs,rfl,.inr sq,by rw [rr.length];exact q⟩
   |ref p =>
    cases (show v=.ref p from rv);simp only [sR] at hn
    split at hn
    .rename_i ws' e;cases hn;obtain ⟨vs,sq,rr⟩:=ab.seq (show yR G p=some ws' by unfold yR;rw [e]);exact vV pins s σ H _ us Q I r ⟨p,vs,rfl,.inl sq,by rw [rr.length];exact q⟩
    .rename_i ws' e;cases hn;obtain ⟨vs,sq,rr⟩:=ab.seq (show yR G p=some ws' by unfold yR;rw [e]);exact vV pins s σ H _ us Q I r ⟨p,vs,rfl,.inl sq,by rw [rr.length];exact q⟩
    .rename_i kvs e;cases hn;obtain ⟨l,e',rl⟩:=ab.dic e;exact zgQ pins s σ H _ us Q I r ⟨p,l,rfl,e',by rw [rl.length];exact q⟩
    .cases hn
   |_=>simp [sR] at hn
  .exact h.elim
 .exact h.elim
def vI (G:Hw):W->Option (List W)
 | .tup ws=>some ws
 | .ref p=>yR G p
 |_=>none
def lstS:RS:=fun ws G Q=>match ws with
 | [x]=>(match vI G x with|some xs=>∀ p,G p=none->Q (.ref p) (put G p (.lst xs))|none=>False)
 |_=>False
theorem cM:qP lstS:=by
 intro ws G Q Q' k h;unfold lstS at h ⊢
 split at h
 .split at h
  .exact fun p hp=>k _ _ (h p hp)
  .exact h.elim
 .exact h.elim
theorem zgi {K:yS} {H:Hp} {G:Hw} {w:W} {v:V} {xs:List W} (ab:xP K H G) (r:wX K H w v) (e:vI G w=some xs):∃ a vs b,v=.ref a/\SqB b K H a vs/\zF K H xs vs:=by
 cases w with
 |tup ws =>
  obtain ⟨a,vs,rfl,sq,rr⟩:=r;cases e;exact ⟨a,vs,true,rfl,sq,rr⟩
 |ref p =>
  cases (show v=.ref p from r);obtain ⟨vs,sq,rr⟩:=ab.seq e;exact ⟨p,vs,false,rfl,sq,rr⟩
 |_=>cases e
theorem zjn {X:Cx}:jP X (.type "list") (pC X.K lstS):=by
 intro pins s σ H xs us Q I r h;obtain ⟨ws,G,rs,ab,h⟩:=h;unfold lstS at h
 split at h
 .rename_i w;obtain ⟨v,rfl,rv⟩:=vQ rs
  split at h
  .rename_i ys hy;obtain ⟨a,vs,b,rfl,sq,rr⟩:=zgi ab rv hy;refine zah pins s σ H _ us Q I r ⟨a,vs,rfl,?_,qM ab rr h⟩;cases b
   .exact .inl sq
   .exact .inr sq
  .exact h.elim
 .exact h.elim
def allS (f:List Bool->Bool):RS:=fun ws G Q=>match ws with
 | [.ref p]=>∃ bs:List Bool,yR G p=some (bs.map .bl)/\Q (.bl (f bs)) G
 |_=>False
theorem bM (f:List Bool->Bool):qP (allS f):=by
 intro ws G Q Q' k h;unfold allS at h ⊢
 split at h
 .obtain ⟨bs,e,h⟩:=h;exact ⟨bs,e,k _ _ h⟩
 .exact h.elim
theorem fN {K:yS} {H:Hp}:∀ {bs:List Bool} {vs:List V} {us:List Value},zF K H (bs.map .bl) vs->zA vs us->us=bs.map .bool
 | [],vs,us,r,v=>by cases (show vs=[] from r);cases v;rfl
 |b::bs,vs,us,r,v=>by
  obtain ⟨x,t,rfl,rx,rt⟩:=r;cases (show x=.bl b from rx)
  cases v with
  |cons a c =>
   cases (show _=Value.bool b from a);rw [fN rt c];rfl
theorem zdG (bs:List Bool):(List.range bs.length).all (fun i=>(bs[i]?).getD false)=bs.all id:=by
 rw [Bool.eq_iff_iff,List.all_eq_true,List.all_eq_true]
 constructor
 .intro h b hb;obtain ⟨i,hi,rfl⟩:=List.mem_iff_getElem.mp hb;have:=h i (List.mem_range.mpr hi)
  rwa [List.getElem?_eq_getElem hi] at this
 .intro h i hi;have hi:=List.mem_range.mp hi;rw [List.getElem?_eq_getElem hi];exact h _ (List.getElem_mem hi)
theorem ze5 {X:Cx} (hc:X.calm=true) {pins:List (Addr×Obj)} {s:Shared} {σ:L2.St} {H:Hp} {G:Hw} {p:Addr} {bs:List Bool} (I:Inv X pins σ H s) (ab:xP X.K H G) (e:yR G p=some (bs.map .bl)) {A:Around} (hh:A.handled=none) {E:Value->Shared->Prop}
  {R:Value->Shared->Prop} (h:∀ (I':Addr) (s₂:Shared),Walks X.prog X.w A I' [I',p] [I'] bs.length (fun i v=>(bs.map Value.bool).toArray[i]?=some v) (fun i h=>h.IsListIter I' p i/\h.IsList p (bs.map Value.bool).toArray)->(s₂.heap.IsListIter I' p 0/\s₂.heap.IsList p (bs.map Value.bool).toArray) ->
   (∀ h' tk,(∀ b o,b∉[I']->s₂.heap.get? b=some o->h'.get? b=some o)->0<tk->Inv X pins σ H { s₂ with heap:=h',toks:=tk })->R (.ref I') s₂):wpAny (model X.prog X.w) A (pyIter (.ref p)) R E s:=by
 obtain ⟨vs,sq,rr⟩:=ab.seq e;obtain ⟨its,rv,pl,hz⟩:=I.list sq;have eits:=fN rr rv;subst eits;have hl:=pl.isList;refine wpAny_pyIter_list hl ?_
 have hne:p≠s.heap.objs.size:=by
  obtain ⟨o,ho,_⟩:=hl;exact Nat.ne_of_lt (Heap.lt_size ho)
 have W:=Walks.list (prog:=X.prog) (w:=X.w) hh s.heap.objs.size p hne (bs.map Value.bool).toArray;have hn:(bs.map Value.bool).toArray.size=bs.length:=by simp
 rw [hn] at W;refine h _ _ W ⟨⟨_,Heap.get?_push_size _ rfl,rfl,rfl⟩,hl.push _⟩ fun h' tk k h0=>I.kept (fun b o e=>k b o (fun hm=>?_) (Heap.get?_push_of_some _ e)) h0;rw [List.mem_singleton] at hm;exact Nat.ne_of_lt (Heap.lt_size e) hm
theorem zdS {P:Program} {w:World} {A:Around} {bs:List Bool}:TruthOf P w A (fun i v=>(bs.map Value.bool).toArray[i]?=some v) (fun i=>(bs[i]?).getD false):=by
 intro i v s Q E h q;have h':(bs[i]?).map Value.bool=some v:=by simpa using h
 cases e:bs[i]? with
 |none=>rw [e] at h';cases h'
 |some b =>
  rw [e] at h';cases h';have q':Q ((bs[i]?).getD false) s:=q;rw [e] at q';exact wpAny_truthy_bool q'
theorem zki {X:Cx} (hc:X.calm=true):jP X (.builtin "all") (pC X.K (allS (·.all id))):=by
 intro pins s σ H xs us Q I r h;obtain ⟨ws,G,rs,ab,h⟩:=h;unfold allS at h
 split at h
 .rename_i p;obtain ⟨v,rfl,rv⟩:=vQ rs;cases (show v=.ref p from rv);obtain ⟨bs,e,h⟩:=h;obtain ⟨u,rfl,ru⟩:=qA r;cases ru;refine jO I.tk (call_all_walk (ze5 hc I ab e (A:=X.A.in1) (I.ok.hd hc) fun I' s₂ W st k=>⟨I',_,_,_,_,_,_,rfl,W,st,zdS,fun h' tk hk h0=>?_⟩));rw [zdG];exact ⟨.bl (bs.all id),H,k h' tk hk h0,rfl,h _ H .refl rfl ab⟩
 .exact h.elim
def tyO (G:Hw):W->Option String
 | .non=>some "NoneType"
 | .bl _=>some "bool"
 | .int _=>some "int"
 | .str _=>some "str"
 | .tup _=>some "tuple"
 | .ref p=>match G p with
  |some (.lst _)=>some "list"
  |some (.fix _)=>some "list"
  |some (.dic _)=>some "dict"
  |_=>none
 |_=>none
def popS:MS:=fun x ws G Q=>match x,ws with
 | .ref p,[]=>(match G p with
  |some (.lst xs)=>(match xs[xs.length-1]? with|some y=>Q y (put G p (.lst xs.dropLast))|none=>False)
  |_=>False)
 |_,_=>False
theorem cQ:∀ x ws G (Q Q':Q3),(∀ w G',Q w G'->Q' w G')->popS x ws G Q->popS x ws G Q':=by
 intro x ws G Q Q' k h;unfold popS at h ⊢
 split at h
 .split at h
  .split at h
   .exact k _ _ h
   .exact h.elim
  .exact h.elim
 .exact h.elim
theorem ziH {X:Cx}:MtR X "list.pop" (lowM X.K popS):=by
 intro pins s σ H x xs v us Q I rx rxs h;obtain ⟨w,ws,G,rw1,rs,ab,h⟩:=h;unfold popS at h
 split at h
 .rename_i p;cases (show x=.ref p from rw1);cases (show xs=[] from rs)
  split at h
  .rename_i ys e
   split at h
   .rename_i y ey;obtain ⟨vs,ev,rr⟩:=ab.lst e;obtain ⟨vy,evy,ry⟩:=rr.get ey;have gr:yM X.K H (xR H p (.lst vs.dropLast)):=ab.grow e;exact zji pins s σ H _ _ v us Q I rx rxs ⟨p,vs,vy,rfl,rfl,ev,by rw [rr.length];exact evy,h vy _ gr (ry.mono gr) (ab.chg e ⟨_,rfl,rr.dropLast.mono gr⟩)⟩
   .exact h.elim
  .exact h.elim
 .exact h.elim
def appS:MS:=fun x ws G Q=>match x,ws with
 | .ref p,[y]=>(match G p with
  |some (.lst xs)=>xs.length<sizeLine/\Q .non (put G p (.lst (xs++[y])))
  |_=>False)
 |_,_=>False
theorem bN:∀ x ws G (Q Q':Q3),(∀ w G',Q w G'->Q' w G')->appS x ws G Q->appS x ws G Q':=by
 intro x ws G Q Q' k h;unfold appS at h ⊢
 split at h
 .split at h
  .exact ⟨h.1,k _ _ h.2⟩
  .exact h.elim
 .exact h.elim
theorem zkh {X:Cx}:MtR X "list.append" (lowM X.K appS):=by
 intro pins s σ H x xs v us Q I rx rxs h;obtain ⟨w,ws,G,rw1,rs,ab,h⟩:=h;unfold appS at h
 split at h
 .rename_i p y;cases (show x=.ref p from rw1);obtain ⟨vy,rfl,ry⟩:=vQ rs
  split at h
  .rename_i ys e;obtain ⟨vs,ev,rr⟩:=ab.lst e;have gr:yM X.K H (xR H p (.lst (vs++[vy]))):=ab.grow e;exact zcG pins s σ H _ _ v us Q I rx rxs ⟨p,vs,vy,rfl,rfl,ev,by rw [rr.length];exact h.1,h.2 .non _ gr (show wX X.K _ .non .non from rfl) (ab.chg e ⟨_,rfl,(rr.append (show zF X.K H [y] [vy] from ⟨vy,[],rfl,ry,rfl⟩)).mono gr⟩)⟩
  .exact h.elim
 .exact h.elim
def idxS:MS:=fun x ws G Q=>match x,ws with
 | .ref p,[y]=>∃ xs,yR G p=some xs/\(pur y=true/\wM xs=true/\min (qO xs) (dep y)<=150)/\(xs.any fun w=>wU w y)=true/\Q (.int ((xs.findIdx fun w=>wU w y:Nat):Int)) G
 |_,_=>False
theorem cB:∀ x ws G (Q Q':Q3),(∀ w G',Q w G'->Q' w G')->idxS x ws G Q->idxS x ws G Q':=by
 intro x ws G Q Q' k h;unfold idxS at h ⊢
 split at h
 .obtain ⟨xs,e,e1,e2,h⟩:=h;exact ⟨xs,e,e1,e2,k _ _ h⟩
 .exact h.elim
theorem zeW {X:Cx} {pins:List (Addr×Obj)} {σ:L2.St} {H:Hp} {s:Shared} (I:Inv X pins σ H s) {x:W}:∀ {ws:List W} {vs:List V} {us:List Value},zF X.K H ws vs->zA vs us->wM ws=true->us.map (eqI X.K H x)=ws.map fun w=>wU w x:=by
 intro ws
 induction ws with
 |nil=>intro vs us h r _;rw [show _=[] from h] at r;cases r;rfl
 |cons w ws ih =>
  intro vs us h r p;obtain ⟨v,t,e,h,hs⟩:=h;subst e
  cases r with
  |cons r rs =>
   have p':=wY.mp p;rw [zzU,zzU,zdf I h r p'.1,ih hs rs p'.2]
theorem uS {α:Type} (f:α->Bool):∀ l:List α,(l.map f).findIdx id=l.findIdx f
 | []=>rfl
 |a::r=>by
  rw [zzU,List.findIdx_cons,List.findIdx_cons,uS f r];rfl
theorem zjY {X:Cx} (hu:X.A.units+200<cLine):MtR X "list.index" (lowM X.K idxS):=by
 intro pins s σ H x xs v us Q I rx rxs h;obtain ⟨w,ws,G,rw1,rs,ab,h⟩:=h;unfold idxS at h
 split at h
 .rename_i p y;cases (show x=.ref p from rw1);cases (show v=Value.ref p from rx);obtain ⟨vy,rfl,ry⟩:=vQ rs;obtain ⟨uy,rfl,ruy⟩:=qA rxs;obtain ⟨ys,e,⟨p1,p2,p3⟩,ha,h⟩:=h;obtain ⟨vs,its,sq,rr,vv,_,pl,hz⟩:=zbf I ab e;obtain ⟨o,n,ho,hc,hd,hdat⟩:=pl;have hm:=zeW I (x:=y) rr vv p2;have lenE:its.length=ys.length:=by rw [← vv.length,rr.length]
  have fe:its.findIdx (eqI X.K H y)=ys.findIdx (fun w=>wU w y):=by rw [← uS,hm,uS]
  have ha':its.any (eqI X.K H y)=true:=by rw [zdg I rr vv p2];exact ha
  have hlt:its.findIdx (eqI X.K H y)<its.length:=by
   rw [List.findIdx_lt_length];exact List.any_eq_true.mp ha'
  obtain ⟨cls,dd,data,sl⟩:=o;simp only at hc hdat;subst hc;subst hdat
  refine call_meets PySem.F.slot_list_index ⟨_,ho,rfl⟩ PySem.F.entry_list_index (PySem.F.args_list_index_2 _ _)
   (list_indexAt p its.toArray n dd sl uy (eqI X.K H y) (its.findIdx (eqI X.K H y)) (by simpa using hlt) (by have:=sizeLine_eq;omega) ?_ ?_) ⟨ho,fun z hz'=>?_,?_⟩
  .simpa using List.findIdx_getElem (w:=hlt)
  .intro m hm' hlt';simpa using List.not_of_lt_findIdx hlt'
  .refine zfP I ry ruy p1 rr vv p2 ?_ z (by simpa using hz');show X.A.units+1+min (qO ys) (dep y)<cLine;omega
  .rw [fe];exact ⟨.int ((ys.findIdx fun w=>wU w y:Nat):Int),H,I.tok _,⟨_,rfl⟩,h _ H .refl rfl ab⟩
 .exact h.elim
def rngI (ws:List W) (G:Hw) (R:List W->(Hw->Prop)->Hw->Prop):Prop:=match ws with
 | [.int j]=>(-(2 ^ 62)<=j/\j<2 ^ 62)/\R ((List.range j.toNat).map fun i=>.int (i:Nat)) (fun _=>True) G
 |_=>False
theorem zjL {K:yS} {H1:Hp} {n:Nat}:ItIs K (Itr 0 n) H1 ((List.range n).map fun i=>W.int (i:Nat)) (fun _=>True) where
 go:=fun i H G _ ab st hi=>by show i<n;simpa using hi
 yld:=fun i H G x H' _ ab st hi y=>by
  obtain ⟨rfl,rfl⟩:=y;have hi':i<n:=by simpa using hi
  refine ⟨.int (i:Nat),by simp [hi'],.refl,?_,ab⟩;show V.int (0+(i:Int))=V.int (i:Int);rw [Int.zero_add]
 stop:=fun i H G _ ab st hi=>by show n<=i;simpa using hi
def ItE (p:Par) (i:It3):Prop:=∀ X,Fits p X->Gl X i.nm->∀ (tg:Expr) (args:List Expr) (t:A3) (q pos:Pos),qI t->args.all noStar=true->PA X args (uY X.K t)->(args=[]->∀ σ G Q,t σ G Q->Q [] G)->(i.nm==("__debug__" : Str))=false->i.nm ≠ "__name__" ->
  PI X tg (.Call (.Name i.nm q) args [] pos) (lowI X.K fun σ G R=>t σ G fun ws G1=>i.sp ws G1 R)
theorem zjP {q:Pr} {A:Around} (hm:q.mg "range" = none):ItE (q.at A) ⟨"range", rngI⟩:=by
 intro X fits gl tg args t qp pos mt hn pa hnil hdb hnm;have hm':X.mg "range" = none:=by rw [fits.mg];exact hm
 intro pins s σ H R I h
 cases args with
 |nil =>
  obtain ⟨σ3,G,hs,ab,h⟩:=h;exact (hnil rfl _ _ _ h).elim
 |cons a r =>
  obtain ⟨s1,s2⟩:=xA (env:=X.env) (pos:=pos) hn;obtain ⟨σ3,G,hs,ab,h⟩:=h
  have h':=tR (S:=fun vs H1=>∃ j:Int,vs=[.int j]/\-(2 ^ 62)<=j/\j<2 ^ 62/\R (Itr 0 j.toNat) H1) mt hs ab h fun ws G1 vs H1 g1 hs1 rs a1 h=>by
   dsimp only at h;unfold rngI at h
   split at h
   .rename_i j;obtain ⟨v,rfl,rv⟩:=vQ rs;cases (show v=.int j from rv);exact ⟨j,rfl,h.1.1,h.1.2,h.2 _ H1 g1 a1 zjL⟩
   .exact h.elim
  refine Call_ (tI I gl hm' boot_range (PyProof.Rows.callWith_type1 (yF (pa pos pins s σ H _ I h') fun us s1 ⟨vs,H1,I1,r1,q1⟩=>?_) s1 s2));obtain ⟨j,e,q1,q2,q⟩:=q1;subst e;obtain ⟨u,rfl,t,rfl⟩:=qA r1;exact call_range_1 (zef I1 (Nat.succ_pos _) (by omega) (by omega) q1 q2 (by simpa using q))
def lofM (nm:Str):Scope->Expr->Option (List Expr):=fun sc e=>match e with
 | .Call (.Name o _) [.Call (.Name x _) xs [] _] [] _=>if o==("list" : Str)&&x==nm&&vM sc o&&vM sc x&&!xs.isEmpty then some xs else none
 |_=>none
theorem zez {nm:Str} {sc:Scope} {e:Expr} {xs:List Expr} (h:lofM nm sc e=some xs):∃ qo q pos pos' a r,xs=a::r/\e=.Call (.Name "list" qo) [.Call (.Name nm q) (a::r) [] pos] [] pos'/\vM sc "list" = true/\vM sc nm=true:=by
 have no:¬ ((none:Option (List Expr))=some xs):=fun e=>nomatch e
 cases e with
 |Call f args kws pos' =>
  cases f with
  |Name o qo =>
   cases args with
   |nil=>exact absurd h no
   |cons c rest =>
    cases c with
    |Call g ys kw2 pos =>
     cases g with
     |Name x q =>
      cases kw2 with
      |nil =>
       cases rest with
       |nil =>
        cases kws with
        |nil =>
         replace h:(if (o==("list" : Str)&&x==nm&&vM sc o&&vM sc x&&!ys.isEmpty)=true then some ys else none)=some xs:=h
         by_cases hb:(o==("list" : Str)&&x==nm&&vM sc o&&vM sc x&&!ys.isEmpty)=true
         .rw [if_pos hb] at h;cases h;simp only [Bool.and_eq_true,beq_iff_eq,Bool.not_eq_true',List.isEmpty_eq_false_iff] at hb;obtain ⟨⟨⟨⟨rfl,rfl⟩,h1⟩,h2⟩,h3⟩:=hb
          cases xs with
          |nil=>exact absurd rfl h3
          |cons a r=>exact ⟨qo,q,pos,pos',a,r,rfl,rfl,h1,h2⟩
         .rw [if_neg hb] at h;exact absurd h no
        |cons _ _=>exact absurd h no
       |cons _ _=>exact absurd h no
      |cons _ _=>exact absurd h no
     |_=>exact absurd h no
    |_=>exact absurd h no
  |_=>exact absurd h no
 |_=>exact absurd h no
def SxE (p:Par) (k:Sx3):Prop:=∀ X,Fits p X->∀ (e:Expr) (xs:List Expr) (es:List E3),k.m X.env.scope e=some xs->bI X xs es->xs.all noStar=true->PA X xs (uY X.K (fC es)) ->
  PE X e (yA X.K fun σ G Q=>fC es σ G fun ws G1=>k.sp ws G1 Q)/\(∀ whole,isTrue e X.env whole=(do let v ← whole;standAt e.pos;holding [v] (truthy v)))/\∀ op vs pos,e≠.BoolOp op vs pos
theorem bY {X:Cx}:∀ {xs:List Expr} {es:List E3},bI X xs es->qI (fC es)
 | [],[],_=>fun σ G Q Q' k h=>k _ _ h
 |_::_,_::_,⟨m,_,r⟩=>fun σ G Q Q' k h=>m σ G _ _ (fun x G1 h=>bY r σ G1 _ _ (fun xs G2 h=>k _ _ h) h) h
theorem zie {q:Pr} {A:Around} {nm:Str} {T:String} {sp:RS} (hl:q.mg "list" = none) (hm:q.mg nm=none) (hv:bootBuiltins nm=some (.type T)) (mono:qP sp)
  (hc:∀ X,Fits (q.at A) X->∀ (pins:List (Addr×Obj)) (s:Shared) (σ:L2.St) (H:Hp) (vs:List V) (us:List Value) (Q:VK),Inv X pins σ H s->zA vs us->pC X.K sp vs H Q ->
   wpAny (model X.prog X.w) X.A (call (.type T) us) (fun v s1=>wpAny (model X.prog X.w) X.A (call (.type "list") [v]) (EP X pins σ Q) X.xe s1) X.xe s):SxE (q.at A) ⟨lofM nm,sp⟩:=by
 intro X fits e xs es he each hn pa;obtain ⟨qo,qq,pos,pos',a,r,rfl,rfl,g1,g2⟩:=zez he;obtain ⟨gl1,d1,n1⟩:=sO rfl g1;obtain ⟨gl2,d2,n2⟩:=sO rfl g2;have hl':X.mg "list" = none:=by rw [fits.mg];exact hl
 have hm':X.mg nm=none:=by rw [fits.mg];exact hm
 refine ⟨fun pins s σ H Q I h=>?_,fun _=>rfl,fun _ _ _ z=>nomatch z⟩;obtain ⟨s1,s2⟩:=xA (env:=X.env) (pos:=pos) hn;have h':=zaz (bY each) mono h;refine wpAny_Call_Name_kw (tI I gl1 hl' boot_list ?_ n1 d1);refine PyProof.Rows.callWith_type1 (e:=.Call (.Name nm qq) (a::r) [] pos) (rest:=[]) ?_ rfl rfl;show wpAny _ _ (spliced ((false,eval (.Call (.Name nm qq) (a::r) [] pos) X.env)::backTo pos' (starEach [] X.env))) _ _ s;refine Calls.spliced_cons (wpAny_Call_Name_kw (tI I gl2 hm' hv (PyProof.Rows.callWith_type1 (yF (pa pos pins s σ H _ I h') fun us s1 ⟨vs,H1,I1,r1,q1⟩=>?_) s1 s2) n2 d2));exact yF (hc X fits pins s1 σ H1 vs us Q I1 r1 q1) fun v s2 z=>Calls.spliced_nil z
def Itv (K:yS) (a:Addr) (n:Nat):It where
 go:=fun i H=>∃ xs,pH K H a xs/\xs.length=n/\i<n
 yld:=fun i H v H'=>H'=H/\∀ xs,pH K H a xs->xs.length=n->xs[n-1-i]?=some v
 stop:=fun i H=>i=n
theorem zbE:typeLookup (.type "list_reverseiterator") "__len__" = pure none:=by rw [typeLookup_type,builtinLookup_eq_fast];kernel_rfl
theorem zey:typeLookup (.type "list_reverseiterator") "__length_hint__" = pure (some (.builtin "list_reverseiterator.__length_hint__")):=by rw [typeLookup_type,builtinLookup_eq_fast];kernel_rfl
theorem zgk {P:Program} {w:World} {A:Around} {it a:Addr} {i:Int} {s:Shared} {Q:Bool->Shared->Prop} {E:Value->Shared->Prop} (st:s.heap.IsRevIter it a i) (h:∀ b,Q b s):wpAny (model P w) A (Builtin.List.listLengthHint (.ref it)) Q E s:=by
 have hT:=st.typeIs;unfold Builtin.List.listLengthHint;refine wpAny_bind (wpAny_specialOf hT zbE ?_);show wpAny _ _ (specialOf (Value.ref it) (Str.ofString "__length_hint__") >>= _) _ _ _;refine wpAny_bind (wpAny_specialOf hT zey ?_)
 (generalize hid:("list_reverseiterator.__length_hint__" : String)=id0;(fail_if_success (clear hid id0));wp_delta;rw [show splitId id0=some ("list_reverseiterator", "__length_hint__") from by subst hid;decide +kernel];subst hid)
 refine wpAny_bind (wpAny_isInstance (b:=true) hT (by rw [isSubtype_type];kernel_rfl) ?_);exact wpAny_pure (h _)
theorem zea (P:Program) (w:World) (K:yS) {it a:Addr} {n:Nat} (hne:a≠it):TurnL P w K "list_reverseiterator" (Itv K a n) [it] it (fun i h=>i<=n/\h.IsRevIter it a ((n:Int)-1-i)) where
 mem:=by simp
 ty:=fun i h ⟨_,o,ho,hc,_⟩=>⟨o,ho,hc⟩
 obj:=fun i h ⟨_,o,ho,hc,hd⟩ b hb=>by
  rw [List.mem_singleton] at hb;subst hb;exact ⟨o,ho,fun v z=>by rw [hd] at z;cases z⟩
 keep:=fun i h h' ⟨hi,x⟩ k=>⟨hi,x.at fun o e=>k it (by simp) o e⟩
 item:=by
  intro X e1 e2 e3 hc i pins s σ H E I hf st go;subst e1;subst e2;subst e3;obtain ⟨hi,st⟩:=st;obtain ⟨xs,sq,ln,hlt⟩:=go;obtain ⟨its,rv,pl,hz⟩:=I.list sq;have hlx:n-1-i<xs.length:=by omega
  obtain ⟨u,eu,ru⟩:=rv.get (List.getElem?_eq_getElem hlx);have e:(n:Int)-1-(i:Int)=((n-1-i:Nat):Int):=by omega
  rw [e] at st;refine wpAny_pyNext_rev_item st pl.isList (x:=u) (by simpa using eu) fun h' st' sb=>?_;have e':((n-1-i:Nat):Int)-1=(n:Int)-1-((i+1:Nat):Int):=by omega
  rw [e'] at st';obtain ⟨f1,f2,f3,f4,f5,f6⟩:=hf it (by simp);refine ⟨u,xs[n-1-i],H,rfl,I.turned (t':=s.toks) (fun b o hb e=>sb.extBut b o hb e) f1 f2 f4 f5 f6,ru,⟨rfl,fun ys sq' _=>by rw [I.list_inj sq' sq];exact List.getElem?_eq_getElem hlx⟩,⟨hlt,st'⟩,fun b hb=>(hf b hb).1⟩
 done:=by
  intro X e1 e2 e3 hc i pins s σ H E I hf st stop;subst e1;subst e2;subst e3;obtain ⟨hi,st⟩:=st;have hin:i=n:=stop;subst hin;have e:(i:Int)-1-(i:Int)=-1:=by omega
  rw [e] at st;obtain ⟨f1,f2,f3,f4,f5,f6⟩:=hf it (by simp);exact wpAny_pyNext_rev_end (I.ok.hd hc) st fun h' k=>⟨rfl,I.turned (t':=s.toks) (fun b o hb e=>k b o hb e) f1 f2 f4 f5 f6⟩
 self:=fun A i s Q E st h=>wpAny_pyIter_revIter st.2 h
 hint:=fun A i s Q E st h=>zgk st.2 h
def revS:RS:=fun ws G Q=>match ws with
 | [.ref p]=>∃ xs,yR G p=some xs/\∀ r,G r=none->Q (.ref r) (put G r (.lst xs.reverse))
 |_=>False
theorem cV:qP revS:=by
 intro ws G Q Q' k h;unfold revS at h ⊢
 split at h
 .obtain ⟨xs,e1,h⟩:=h;exact ⟨xs,e1,fun p hp=>k _ _ (h p hp)⟩
 .exact h.elim
theorem ziv {X:Cx} (hc:X.calm=true) (pins:List (Addr×Obj)) (s:Shared) (σ:L2.St) (H:Hp) (vs:List V) (us:List Value) (Q:VK) (I:Inv X pins σ H s) (r:zA vs us) (h:pC X.K revS vs H Q) :
  wpAny (model X.prog X.w) X.A (call (.type "reversed") us) (fun v s1=>wpAny (model X.prog X.w) X.A (call (.type "list") [v]) (EP X pins σ Q) X.xe s1) X.xe s:=by
 obtain ⟨ws,G,rs,ab,h⟩:=h;unfold revS at h
 split at h
 .rename_i p;obtain ⟨v,rfl,rv⟩:=vQ rs;cases (show v=.ref p from rv);obtain ⟨u,rfl,ru⟩:=qA r;cases (show u=Value.ref p from ru);obtain ⟨xs,e,h⟩:=h;obtain ⟨vs,sq,rr⟩:=ab.seq e;obtain ⟨its,vv,pl,hz⟩:=I.list sq;have hl:=pl.isList
  have hlt:p<s.heap.objs.size:=by
   obtain ⟨o,ho,_⟩:=hl;exact Heap.lt_size ho
  refine call_reversed_list hl ?_;have I1:Inv X pins σ H { s with heap:=s.heap.push (revObj p ((its.toArray.size:Int)-1)),toks:=s.toks }:=I.kept fun b u e=>Heap.get?_push_of_some _ e;have en:its.toArray.size=vs.length:=by rw [zzS,← vv.length]
  refine zcN hc (by decide) (by decide) I1 (zea X.prog X.w X.K (n:=vs.length) (Nat.ne_of_lt hlt)) ⟨Nat.zero_le _,?_⟩ (fun b hb=>?_) vs.length hz
   (fun i acc H'=>H'=H/\acc=vs.reverse.take i) ⟨rfl,by simp⟩ ?_ ?_
  .refine ⟨_,Heap.get?_push_size _ rfl,rfl,?_⟩;show Data.fields #[.ref p,rawInt ((its.toArray.size:Int)-1)]=_;rw [en];simp
  .rw [List.mem_singleton] at hb;subst hb;exact I.fpOk (zzR _) (I.hok.fresh (zzR _))
  .rintro i acc H' hi ⟨rfl,rfl⟩;refine ⟨⟨vs,sq,rfl,hi⟩,?_⟩;rintro v H2 ⟨rfl,e2⟩;refine ⟨rfl,?_⟩;have e2:=e2 vs sq rfl;have hl':i<vs.reverse.length:=by simpa using hi
   rw [List.take_succ_eq_append_getElem hl'];congr 2;have:vs.reverse[i]?=some v:=by rw [List.getElem?_reverse hi];exact e2
   exact (Option.some.inj ((List.getElem?_eq_getElem hl').symm.trans this)).symm
  .rintro acc H' ⟨rfl,rfl⟩;refine ⟨rfl,?_⟩;rw [List.take_of_length_le (by simp)];exact qM ab rr.reverse h
 .exact h.elim
end L3
namespace L3
open PySem PySem.Spec PyProof.Rows L2
def zJ (S:List Addr) (G G':Hw):Prop:=∀ a o,a∉S->G a=some o->G' a=some o
theorem zJ.refl {S:List Addr} {G:Hw}:zJ S G G:=fun _ _ _ h=>h
theorem zJ.trans {S:List Addr} {G G1 G2:Hw} (a:zJ S G G1) (b:zJ S G1 G2):zJ S G G2:=fun x o hx h=>b x o hx (a x o hx h)
theorem zJ.put {S:List Addr} {G:Hw} {p:Addr} {o:O} (h:p∈S):zJ S G (put G p o):=fun x u hx hu=>by
 rw [xJ (fun e:x=p=>hx (e▸h))];exact hu
theorem zJ.new {S:List Addr} {G:Hw} {p:Addr} {o:O} (h:G p=none):zJ S G (L3.put G p o):=fun x u hx hu=>by
 rw [xJ (uU hu h)];exact hu
theorem zJ.none {S:List Addr} {G G':Hw} {p:Addr} (k:zJ S G G') (hp:p∉S) (h:G' p=Option.none):G p=Option.none:=by
 cases e:G p with
 |none=>rfl
 |some o=>rw [k p o hp e] at h;cases h
abbrev kS:xY:=.inr "seed"
abbrev kN:xY:=.inr "number"
abbrev kL:xY:=.inr "left"
def zj9 (seed num:Int) (l:Addr):O:=.dic [(kS,.int seed),(kN,.int num),(kL,.ref l)]
structure DealS (G:Hw) (d l:Addr) (seed num:Int) (left:List Int):Prop where
 dic:G d=some (zj9 seed num l)
 lst:G l=some (.lst (left.map .int))
 s0:0<=seed
 s1:seed<2147483647
 n0:0<=num
 lf:∀ x∈left,(0:Int)<=x
 len:left.length<=63
 ne:d≠l
def jW (G:Hw) (d l:Addr):Prop:=∃ seed num left,DealS G d l seed num left
theorem dgS {a b c:W}:dget [(kS,a),(kN,b),(kL,c)] kS=some a:=by rfl
theorem dgN {a b c:W}:dget [(kS,a),(kN,b),(kL,c)] kN=some b:=by
 have e1:¬ (kS=kN):=by decide +kernel
 unfold dget;rw [List.find?_cons_of_neg (by simp [e1]),List.find?_cons_of_pos (by simp)];rfl
theorem dgL {a b c:W}:dget [(kS,a),(kN,b),(kL,c)] kL=some c:=by
 have e1:¬ (kS=kL):=by decide +kernel
 have e2:¬ (kN=kL):=by decide +kernel
 unfold dget;rw [List.find?_cons_of_neg (by simp [e1]),List.find?_cons_of_neg (by simp [e2]),List.find?_cons_of_pos (by simp)];rfl
theorem dpN {a b c x:W}:dP [(kS,a),(kN,b),(kL,c)] kN x=[(kS,a),(kN,x),(kL,c)]:=by
 unfold dP;have e1:¬ (kS=kN):=by decide +kernel
 have e2:¬ (kL=kN):=by decide +kernel
 simp [e1,e2]
theorem dpS {a b c x:W}:dP [(kS,a),(kN,b),(kL,c)] kS x=[(kS,x),(kN,b),(kL,c)]:=by
 unfold dP;have e1:¬ (kN=kS):=by decide +kernel
 have e2:¬ (kL=kS):=by decide +kernel
 simp [e1,e2]
def zke:ISs:=(.cons (.whl (.and (.cmp .Eq (.ix (.var 0) (.con (.str "number"))) (.con (.int 0))) (.cmp .Gt (.call 1 (.cons (.ix (.var 0) (.con (.str "left"))) .nil)) (.con (.int 0)))) (.cons (.asgI (.var 0) (.con (.str "number")) (.mth 0 (.ix (.var 0) (.con (.str "left"))) .nil))
 .nil))
 (.cons (.asg 2 (.ix (.var 0) (.con (.str "number"))))
 (.cons (.ite (.cmp .Gt (.var 2) (.con (.int 0))) (.cons (.asgI (.var 0) (.con (.str "number")) (.bin .FloorDiv (.var 2) (.var 1)))
 (.cons (.ret (.bin .Mod (.var 2) (.var 1)))
 .nil)) .nil)
 (.cons (.asg 3 (.bin .Mod (.bin .Add (.bin .Mult (.ix (.var 0) (.con (.str "seed"))) (.con (.int 48271))) (.con (.int 7919))) (.con (.int 2147483647))))
 (.cons (.asgI (.var 0) (.con (.str "seed")) (.bin .Mod (.bin .Add (.bin .Mult (.var 3) (.con (.int 40692))) (.con (.int 104729))) (.con (.int 2147483399))))
 (.cons (.asg 4 (.bin .Mod (.bin .Mult (.ix (.var 0) (.con (.str "seed"))) (.ix (.var 0) (.con (.str "seed")))) (.con (.int 2147483563))))
 (.cons (.ret (.bin .Mod (.bin .Add (.bin .Mult (.bin .Mod (.bin .Mult (.var 3) (.var 3)) (.con (.int 2147483629))) (.con (.int 2147483563))) (.var 4)) (.var 1)))
 .nil)))))))
abbrev eLen:Fn3:=⟨"len", fun ws G Q _=>sQ ws G Q⟩
abbrev ePop:Mt3:=⟨"pop", "list", popS⟩
theorem DealS.put {G:Hw} {d l:Addr} {seed num:Int} {left:List Int} (D:DealS G d l seed num left) {seed' num':Int} (h1:0<=seed') (h2:seed' < 2147483647) (h3:0<=num'):DealS (put G d (zj9 seed' num' l)) d l seed' num' left :=
 ⟨zK,by rw [xJ D.ne.symm];exact D.lst,h1,h2,h3,D.lf,D.len,D.ne⟩
theorem zbJ {i j:Int}:wU (.int i) (.int j)=decide (i=j):=by
 simp [wU,Bool.beq_eq_decide_eq]
theorem qZ {G:Hw} {i j:Int}:eqG G (.int i) (.int j)=some (decide (i=j)):=by
 simp [eqG,pur,dep,zbJ]
theorem zex {left:List Int}:(left.map W.int)[left.length-1]?=(left[left.length-1]?).map W.int:=by simp
theorem modb {a m:Int} (h:0<m):0<=a % m/\a % m<m:=⟨Int.emod_nonneg _ (by omega),Int.emod_lt_of_pos _ h⟩
theorem bW {d l:Addr} {m:Int} {G G1:Hw} {Q:Q3} {seed num:Int} {left:List Int} (D:DealS G1 d l seed num left) (kp:zJ [d,l] G G1) (hm:0<m/\m<1073741824) (few:∀ {a b c:W},[(kS,a),(kN,b),(kL,c)].length<sizeLine)
  (hq:∀ r G',0<=r->r<m->zJ [d,l] G G'->jW G' d l->Q (.int r) G'):if decide (0<num)=true then
   CDiv num m/\[(kS,W.int seed),(kN,W.int num),(kL,W.ref l)].length<sizeLine/\0<m/\Q (W.int (num % m)) (put G1 d (O.dic [(kS,W.int seed),(kN,W.int (num / m)),(kL,W.ref l)]))
  else
   CMul seed 48271/\(0:Int)<2147483647/\CMul ((seed * 48271+7919) % 2147483647) 40692/\(0:Int)<2147483399/\[(kS,W.int seed),(kN,W.int num),(kL,W.ref l)].length<sizeLine /\
   CMul (((seed * 48271+7919) % 2147483647 * 40692+104729) % 2147483399) (((seed * 48271+7919) % 2147483647 * 40692+104729) % 2147483399)/\(0:Int)<2147483563 /\
   CMul ((seed * 48271+7919) % 2147483647) ((seed * 48271+7919) % 2147483647)/\(0:Int)<2147483629 /\
   CMul ((seed * 48271+7919) % 2147483647 * ((seed * 48271+7919) % 2147483647) % 2147483629) 2147483563/\0<m /\
   Q (W.int (((seed * 48271+7919) % 2147483647 * ((seed * 48271+7919) % 2147483647) % 2147483629 * 2147483563+((seed * 48271+7919) % 2147483647 * 40692+104729) % 2147483399 * (((seed * 48271+7919) % 2147483647 * 40692+104729) % 2147483399) % 2147483563) % m))
    (put G1 d (O.dic [(kS,W.int (((seed * 48271+7919) % 2147483647 * 40692+104729) % 2147483399)),(kN,W.int num),(kL,W.ref l)])):=by
 split
 .exact ⟨hm,few,hm.1,hq _ _ (modb hm.1).1 (modb hm.1).2 (kp.trans (zJ.put (by simp))) ⟨seed,num / m,left,D.put D.s0 D.s1 (Int.ediv_nonneg D.n0 (by omega))⟩⟩
 .have b1:=modb (a:=seed * 48271+7919) (m:=2147483647) (by decide);generalize (seed * 48271+7919) % 2147483647=x at b1 ⊢;have b2:=modb (a:=x * 40692+104729) (m:=2147483399) (by decide);generalize (x * 40692+104729) % 2147483399=y at b2 ⊢;refine ⟨.inr ⟨by decide,by decide⟩,by decide,.inr ⟨by decide,by decide⟩,by decide,few,.inl ⟨by omega,by omega⟩,by decide,.inl ⟨by omega,by omega⟩,by decide,.inr ⟨by decide,by decide⟩,hm.1,?_⟩;exact hq _ _ (modb hm.1).1 (modb hm.1).2 (kp.trans (zJ.put (by simp))) ⟨y,num,left,D.put b2.1 (by omega) D.n0⟩
theorem zeZ {Γ:Ctx3} (h1:Γ.fn[1]?=some eLen) (h2:Γ.mt[0]?=some ePop) {d l:Addr} {m:Int} {G:Hw} {Q:Q3} {nx:wI->Hw->Prop} (D:jW G d l) (hm:0<m/\m<1073741824)
  (hq:∀ r G',0<=r->r<m->zJ [d,l] G G'->jW G' d l->Q (.int r) G'):yX Γ XN zke { nx:=nx,rt:=Q } [some (.ref d),some (.int m),none,none,none] G:=by
 obtain ⟨seed,num,left,D⟩:=D;dsimp only [zke,yX,zS,zT,zP,zH,zE,zB,yZ,zQ,zW,zL,List.getElem?_cons_zero,List.getElem?_cons_succ,List.set_cons_zero,List.set_cons_succ];simp only [h1,h2];refine ⟨fun k σ G'=>σ=[some (.ref d),some (.int m),none,none,none]/\zJ [d,l] G G'/\∃ num left,k=left.length/\DealS G' d l seed num left,⟨_,rfl,.refl,num,left,rfl,D⟩,?_⟩;rintro k σ G1 ⟨rfl,kp,num,left,rfl,D⟩;have hd:G1 d=some (.dic [(kS,.int seed),(kN,.int num),(kL,.ref l)]):=D.dic;have hl:G1 l=some (.lst (left.map .int)):=D.lst;have hds:∀ o,(put G1 d o) d=some o:=fun o=>zK;have hdl:∀ o,(put G1 l o) d=some (.dic [(kS,.int seed),(kN,.int num),(kL,.ref l)]):=fun o=>by rw [xJ D.ne];exact hd
 have few:∀ {a b c:W},[(kS,a),(kN,b),(kL,c)].length<sizeLine:=by intros;show 3<sizeLine;rw [sizeLine_eq];decide
 simp only [List.getElem?_cons_zero,List.getElem?_cons_succ,List.set_cons_zero,List.set_cons_succ,kM,hd,cK,dgN,dgL,dgS,yG,qZ,zD,sQ,sR,hl,zzM,tyW,popS,rP,zex,setR,hdl,hds,dpN,dpS,wW]
 by_cases hn:num=0
 .simp only [decide_eq_true hn,if_true]
  by_cases hlen:(0:Int)<(left.length:Int)
  .simp only [decide_eq_true hlen,if_true];have hlast:left.length-1<left.length:=by omega
   rw [List.getElem?_eq_getElem hlast];simp only [Option.map_some];refine ⟨trivial,few,left.dropLast.length,by rw [List.length_dropLast];omega,trivial,?_,left[left.length-1],left.dropLast,rfl,?_⟩
   .exact (kp.trans (zJ.put (by simp))).trans (zJ.put (by simp))
   .refine ⟨zK,?_,D.s0,D.s1,D.lf _ (List.getElem_mem hlast),fun x hx=>D.lf x (List.dropLast_subset _ hx),by have:=D.len;rw [List.length_dropLast];omega,D.ne⟩;rw [xJ D.ne.symm,zK,List.map_dropLast]
  .simp only [decide_eq_false hlen,zzB,if_false];exact bW D kp hm few hq
 .simp only [decide_eq_false hn,zzB,if_false];exact bW D kp hm few hq
theorem zaD {items:List W} {stab:Hw->Prop} {G1:Hw} {turn:W->Hw->(Option W->Hw->Prop)->Prop} {Q:Q3} (f:W->Option W) (hs:stab G1) (hl:items.length<=sizeLine) (ht:∀ w∈items,∀ K:Option W->Hw->Prop,K (f w) G1->turn w G1 K)
  (hq:∀ p,G1 p=none->Q (.ref p) (put G1 p (.lst (items.filterMap f)))):lcR items stab G1 turn Q:=by
 refine ⟨fun i acc G=>G=G1/\acc=(items.take i).filterMap f,⟨rfl,by simp⟩,?_,hl,?_,?_⟩
 .rintro i acc G ⟨rfl,rfl⟩ hi;refine ⟨hs,Nat.le_trans (List.length_filterMap_le _ _) ?_⟩;rw [List.length_take];omega
 .rintro i w acc G hi ⟨rfl,rfl⟩;have hlt:i<items.length:=(List.getElem?_eq_some_iff.mp hi).1;have hw:items[i]=w:=(List.getElem?_eq_some_iff.mp hi).2;refine ht w (List.mem_of_getElem? hi) _ ?_;have et:items.take (i+1)=items.take i++[w]:=by rw [List.take_succ_eq_append_getElem hlt,hw]
  cases e:f w with
  |some x=>exact ⟨rfl,by rw [et,List.filterMap_append];simp [e]⟩
  |none=>exact ⟨rfl,by rw [et,List.filterMap_append];simp [e]⟩
 .rintro acc G ⟨rfl,rfl⟩ p hp;rw [List.take_length];exact hq p hp
theorem zdr {α β:Type} (f:α->β) (xs:List α) (lo hi:Option Int):fH (xs.map f) lo hi=(fH xs lo hi).map f:=by
 unfold fH;rw [zzM,List.map_take,List.map_drop]
theorem zhB {α:Type} (xs:List α) (lo hi:Option Int):(fH xs lo hi).length<=xs.length:=by
 unfold fH;rw [List.length_take,List.length_drop];omega
def zkf:ISs:=(.cons (.asg 2 (.lc (.nm 0) ["_law_cell"] [] (.val (.sl (.var 0) (.yes (.var 1)) (.yes (.con (.int 63))))) .no (.call 0 (.cons (.var 0) (.cons (.bin .Sub (.con (.int 0)) (.var 0)) .nil)))))
 (.cons (.asg 3 (.bin .Add (.con (.int 7919)) (.var 1)))
 (.cons (.for (.nm 4) (.val (.var 2)) (.cons (.asg 3 (.bin .Mod (.bin .Add (.bin .Mult (.var 3) (.con (.int 69621))) (.bin .Mod (.var 4) (.con (.int 2147483629)))) (.con (.int 2147483647))))
 .nil))
 (.cons (.ret (.dct ["seed", "number", "left"] (.cons (.var 3) (.cons (.con (.int 0)) (.cons (.spc 0 (.cons (.lc (.nm 0) ["_law_cell"] [] (.val (.var 2)) (.yes (.cmp .GtE (.var 0) (.bin .Pow (.con (.int 10)) (.con (.int 18))))) (.var 0)) .nil)) .nil)))))
 .nil))))
abbrev eMax:Fn3:=⟨"max", fun ws G Q _=>maxS ws G Q⟩
abbrev eRev:Sx3:=⟨lofM "reversed", revS⟩
def nW (x:Int):Int:=if 0-x > x then 0-x else x
theorem zhL (x:Int):0<=nW x:=by unfold nW;split<;>omega
theorem xG {G:Hw} {p:Addr} {ws:List W} (h:G p=some (.lst ws)):yR G p=some ws:=by unfold yR;rw [h]
theorem dct3 {a b c:W}:zhy ["seed", "number", "left"] [a,b,c]=[(kS,a),(kN,b),(kL,c)]:=by
 have e1:¬ (kS=kN):=by decide +kernel
 have e2:¬ (kS=kL):=by decide +kernel
 have e3:¬ (kN=kL):=by decide +kernel
 simp [zhy,dP,e1,e2,e3]
def bJ (G:Hw) (w:W) (ns:List Int):Prop:=(∃ a,w=.ref a/\yR G a=some (ns.map .int))\/w=.lsf (ns.map .int)
theorem bJ.sl {G:Hw} {w:W} {ns:List Int} (h:bJ G w ns) {lo hi:Option Int} {Q:Q3} (hq:∀ r,G r=none->Q (.ref r) (put G r (.lst (fH (ns.map W.int) lo hi)))):slR w lo hi G Q:=by
 rcases h with ⟨a,rfl,e⟩|rfl
 .simp only [slR,e];exact hq
 .exact hq
theorem ze1 {Γ:Ctx3} (h0:Γ.fn[0]?=some eMax) (h2:Γ.sx[0]?=some eRev) {a:W} {base:Int} {ns:List Int} {G:Hw} {Q:Q3} {nx:wI->Hw->Prop} (hs:bJ G a ns) (hl:ns.length<=63) (hb:0<=base/\base<=1000)
  (hq:∀ d l G',G d=none->G l=none->zJ [] G G'->jW G' d l->Q (.ref d) G'):yX Γ XN zkf { nx:=nx,rt:=Q } [some a,some (.int base),none,none,none] G:=by
 dsimp only [zkf,yX,zS,zT,zP,zH,zE,zB,yZ,zQ,zW,zU,zO,zR,zV,zL,List.getElem?_cons_zero,List.getElem?_cons_succ,zN];simp only [h0,h2,uV];refine hs.sl fun p1 hp1=>?_;dsimp only;have hp1':yR (put G p1 (.lst (fH (ns.map W.int) (some base) (some 63)))) p1=some (fH (ns.map W.int) (some base) (some 63)):=xG zK;rw [hp1'];rw [zdr];generalize ecs:fH ns (some base) (some 63)=cs;have hcl:cs.length<=63:=by rw [← ecs];exact Nat.le_trans (zhB _ _ _) hl
 rw [zdr,ecs] at hp1';refine zaD (fun w=>match w with|.int x=>some (.int (nW x))|_=>none) hp1' (by rw [zzM,sizeLine_eq];omega) ?_ ?_
 .intro w hw K hK;obtain ⟨x,hx,rfl⟩:=zzP hw;simp only [pZ,List.length_cons,List.length_nil,List.replicate,zzV,List.append_nil,List.set_cons_zero,List.getElem?_cons_zero,wW,maxS,if_true];exact hK
 .intro p2 hp2
  have ef:(cs.map W.int).filterMap (fun w=>match w with|.int x=>some (.int (nW x))|_=>none)=(cs.map nW).map W.int:=by
   rw [List.filterMap_map,List.map_map,← List.filterMap_eq_map];rfl
  rw [ef];generalize eG:put (put G p1 (.lst (cs.map W.int))) p2 (.lst ((cs.map nW).map W.int))=G2;have kp2:zJ [] G G2:=by rw [← eG];exact (zJ.new hp1).trans (zJ.new hp2)
  have g2:G2 p2=some (.lst ((cs.map nW).map W.int)):=by rw [← eG];exact zK
  simp only [List.getElem?_cons_zero,List.getElem?_cons_succ,List.set_cons_zero,List.set_cons_succ,wW,xG g2];refine ⟨fun i σ G'=>G'=G2/\∃ (n:Int) (c:Option W),σ=[some a,some (.int base),some (.ref p2),some (.int n),c]/\0<=n/\n<2147483647,⟨rfl,7919+base,none,rfl,by omega,by omega⟩,?_,?_,?_⟩
  .rintro i σ G' ⟨rfl,_⟩ _;exact xG g2
  .rintro i w σ G' hi ⟨rfl,n,c,rfl,n0,n1⟩;have hw:=List.mem_of_getElem? hi;obtain ⟨x,hx,rfl⟩:=zzP hw;simp only [List.getElem?_cons_zero,List.getElem?_cons_succ,List.set_cons_zero,List.set_cons_succ,wW];exact ⟨.inr ⟨by decide,by decide⟩,by decide,by decide,trivial,_,_,rfl,(modb (by decide)).1,(modb (by decide)).2⟩
  .rintro σ G' ⟨rfl,n,c,rfl,n0,n1⟩;intro d hd;simp only [List.getElem?_cons_zero,List.getElem?_cons_succ];have g3:(put G' d (.dic [])) p2=some (.lst ((cs.map nW).map W.int)):=by rw [xJ (uU g2 hd)];exact g2
   simp only [xG g3];refine zaD (fun w=>match w with|.int x=>if (10:Int) ^ 18<=x then some (.int x) else none|_=>none) (xG g3) (by rw [zzM,zzM,sizeLine_eq];omega) ?_ ?_
   .intro w hw K hK;obtain ⟨x,hx,rfl⟩:=zzP hw;simp only [pZ,List.length_cons,List.length_nil,List.replicate,zzV,List.append_nil,List.set_cons_zero,List.getElem?_cons_zero,wW,yG,rP,zD];refine ⟨⟨by decide,by decide,by decide⟩,?_⟩;have e18:(10:Int) ^ (18:Int).toNat=10 ^ 18:=rfl;rw [e18]
    by_cases hx:(10:Int) ^ 18<=x
    .rw [decide_eq_true hx,if_pos rfl];simp only [if_pos hx] at hK;exact hK
    .rw [decide_eq_false hx,if_neg zzN];simp only [if_neg hx] at hK;exact hK
   .intro p3 hp3
    have ef:((cs.map nW).map W.int).filterMap (fun w=>match w with|.int x=>if (10:Int) ^ 18<=x then some (.int x) else none|_=>none)=((cs.map nW).filter fun x=>decide ((10:Int) ^ 18<=x)).map W.int:=by
     generalize cs.map nW=ys
     induction ys with
     |nil=>rfl
     |cons y ys ih =>
      rw [zzU,List.filterMap_cons,List.filter_cons]
      by_cases hy:(10:Int) ^ 18<=y
      .simp only [if_pos hy,decide_eq_true hy,if_true,zzU,ih]
      .simp only [if_neg hy,decide_eq_false hy,zzB,if_false,ih]
    rw [ef];generalize efl:(cs.map nW).filter (fun x=>decide ((10:Int) ^ 18<=x))=fl;have flen:fl.length<=63:=by rw [← efl];refine Nat.le_trans (List.length_filter_le _ _) ?_;rw [zzM];exact hcl
    have fnn:∀ x∈fl,(0:Int)<=x:=fun x hx=>by
     rw [← efl] at hx;obtain ⟨y,hy,rfl⟩:=zzP (List.mem_filter.mp hx).1;exact zhL y
    refine ⟨fl.map W.int,xG zK,fun l hl'=>?_⟩
    have ned:d≠l:=fun e=>by
     subst e;rw [xJ (uU zK hp3),zK] at hl';cases hl'
    have np3:d≠p3:=uU zK hp3;refine ⟨by rw [xJ ned,xJ np3,zK],rfl,?_⟩;rw [dct3];refine hq d l _ (kp2.none (by simp) hd) ?_ ?_ ⟨n,0,fl.reverse,zK,?_,n0,n1,by omega,fun x hx=>fnn x (List.mem_reverse.mp hx),by rw [List.length_reverse];exact flen,ned⟩
    .have k3:zJ [] G (put (put G' d (.dic [])) p3 (.lst (fl.map W.int))):=(kp2.trans (zJ.new hd)).trans (zJ.new hp3);exact k3.none (by simp) hl'
    .intro x u hx hu;rw [xJ (uU hu (kp2.none (by simp) hd))];exact ((((kp2.trans (zJ.new hd)).trans (zJ.new hp3)).trans (zJ.new hl')) x u hx hu)
    .rw [xJ ned.symm,zK,← List.map_reverse]
structure FunD (K:yS) (x qual:Str) (st:Stmt) (dV:Value) (f:Addr) (fd:FuncData):Prop where
 ex:∃ (oc:Value) (od:Option Addr) (kV doc pm:Value) (an:Option Addr) (cdv ct:Value) (osl:Array (Option Value)),
  fd=PySem.W.fnOf x qual (yU st) (zI st) (zX st) dV kV doc pm an cdv ct/\K.lookup f=some ⟨oc,od,.func fd,osl⟩/\PySem.W.codeIn K cdv qual=true
 kp:PySem.W.keepIn K (.ref f)=true
theorem sI {Γ:Ctx3} {q:Pr} {k:Nat} {M:MC} {x qual:Str} {st:Stmt} {dV:Value} {f:Addr} {fd:FuncData} {ps:List Str} {sp:sC} {body:ISs} (F:FunD q.K x qual st dV f fd) (S:FnScope M.N ps (zX st)) (g:∀ A,Room k A->Good Γ (q.at A))
  (eM:MOk Γ M (zX st)) (hm:uJ body M (zI st)=true) (len:∀ ws G Q,sp ws G Q XN->ws.length=ps.length)
  (hb:∀ ws G Q,sp ws G Q XN->yX Γ XN body { nx:=fun _ G'=>Q .non G',rt:=Q } (yO M.N ws) G):FnOk q.prog q.w q.K q.mg q.base CX0 (k+1) f fd ps (jR q.K sp):=by
 obtain ⟨oc,od,kV,doc,pm,an,cdv,ct,osl,rfl,lk,hcd⟩:=F.ex;refine zhf lk hcd S (fun vs H Q E h=>?_) fun A outer s H vs Q E hr h=>?_
 .obtain ⟨ws,G,rs,ab,h⟩:=h;rw [rs.length];exact len ws G _ h
 .obtain ⟨ws,G,rs,ab,h⟩:=h;have gg:=g _ hr;refine ⟨lowS q.K (yX Γ XN body),dM.nox (zca gg body M _ (zI st) ?_ hm),?_⟩
  .exact ⟨⟨rfl,rfl,rfl,rfl,rfl,rfl,rfl,rfl⟩,rfl,eM.sc.symm,S.nd,fun _ _=>rfl,by rw [eM.sc];exact S.kind,eM.fns,eM.gls,eM.mts,eM.its,eM.sxs,eM.ixs⟩
  .refine ⟨yO M.N ws,G,_,rX rs,ab,⟨?_,?_,?_,?_⟩,hb ws G _ h⟩
   .exact fun σ G' τ H' g' _ a' z=>z .non H' g' (show wX q.K H' .non .non from rfl) a'
   .exact fun σ G' τ H' g' _ a' z=>z.elim
   .exact fun σ G' τ H' g' _ a' z=>z.elim
   .exact fun w G' v H' g' r' a' z=>z v H' g' r' a'
structure HD (K:yS) (x qual:Str) (st:Stmt) (dV:Value) (f:Addr):Prop where
 ex:∃ (oc:Value) (od an:Option Addr) (osl:Array (Option Value)) (kV doc pm cdv ct:Value),K.lookup f=some ⟨oc,od,.func (PySem.W.fnOf x qual (yU st) (zI st) (zX st) dV kV doc pm an cdv ct),osl⟩/\PySem.W.codeIn K cdv qual=true
 kp:PySem.W.keepIn K (.ref f)=true
theorem HD.mk' {K:yS} {x qual:Str} {st:Stmt} {dV:Value} {f:Addr} {oc:Value} {od an:Option Addr} {osl:Array (Option Value)} {kV doc pm cdv ct:Value}
  (l:K.lookup f=some ⟨oc,od,.func (PySem.W.fnOf x qual (yU st) (zI st) (zX st) dV kV doc pm an cdv ct),osl⟩) (c:PySem.W.codeIn K cdv qual=true) (k:PySem.W.keepIn K (.ref f)=true):HD K x qual st dV f:=⟨⟨oc,od,an,osl,kV,doc,pm,cdv,ct,l,c⟩,k⟩
theorem HD.fd {K:yS} {x qual:Str} {st:Stmt} {dV:Value} {f:Addr} (h:HD K x qual st dV f):∃ fd,FunD K x qual st dV f fd/\∃ kV doc pm an cdv ct,fd=PySem.W.fnOf x qual (yU st) (zI st) (zX st) dV kV doc pm an cdv ct:=by
 obtain ⟨oc,od,an,osl,kV,doc,pm,cdv,ct,l,c⟩:=h.ex;exact ⟨_,⟨⟨oc,od,kV,doc,pm,an,cdv,ct,osl,rfl,l,c⟩,h.kp⟩,kV,doc,pm,an,cdv,ct,rfl⟩
def uM (f:Fn3):Prop:=∀ ws G (Q Q':Q3) E,(∀ w G',Q w G'->Q' w G')->f.sp ws G Q E->f.sp ws G Q' E
def qH (p:Par) (f:Fn3):Prop:=FnE p f/\uM f
def pW (m:Mt3):Prop:=∀ x ws G (Q Q':Q3),(∀ w G',Q w G'->Q' w G')->m.sp x ws G Q->m.sp x ws G Q'
def fJ (m:It3):Prop:=∀ ws G (R R':List W->(Hw->Prop)->Hw->Prop),(∀ a b c,R a b c->R' a b c)->m.sp ws G R->m.sp ws G R'
def GlE (p:Par) (g:Str×W):Prop:=∀ X,Fits p X->Gl X g.1->∀ q:Pos,(g.1==("__debug__" : Str))=false->g.1 ≠ "__name__" -> PE X (.Name g.1 q) (yA X.K fun _ G Q=>Q g.2 G)
theorem zg9 {Γ:Ctx3} {p:Par} (un:p.A.units+200<cLine) (fn:∀ f∈Γ.fn,qH p f) (gl:∀ g∈Γ.gl,GlE p g) (mt:∀ m∈Γ.mt,MtE p m/\pW m) (it:∀ i∈Γ.it,ItE p i/\fJ i)
  (cl:∀ c∈Γ.cl,Cls p.K c.1/\∀ f∈c.2,uP p.K c.1 f) (sx:∀ k∈Γ.sx,SxE p k/\qP k.sp) (ix:Γ.ix=[]):Good Γ p where
 mono:=⟨fun f hf=>(fn f hf).2,fun m hm=>(mt m hm).2,fun i hi=>(it i hi).2,fun k hk=>(sx k hk).2,fun k hk=>by rw [ix] at hk;cases hk⟩
 un:=un
 fn:=fun f hf=>(fn f hf).1
 gl:=gl
 mt:=fun m hm=>(mt m hm).1
 it:=fun i hi=>(it i hi).1
 cl:=cl
 sx:=fun k hk=>(sx k hk).1
 ix:=fun k hk=>by rw [ix] at hk;cases hk
theorem yT {α:Type} {P:α->Prop}:∀ x∈([]:List α),P x:=fun _ h=>nomatch h
theorem zZ {α:Type} {P:α->Prop} {a:α} {l:List α} (h:P a) (t:∀ x∈l,P x):∀ x∈a::l,P x:=fun x hx=>by
 rcases List.mem_cons.mp hx with rfl|hx
 .exact h
 .exact t x hx
theorem uT {α:Type} {P:α->Prop} {a:α} {l:List α} (t:∀ x∈l,P x) (h:P a):∀ x∈l++[a],P x:=fun x hx=>by
 rcases List.mem_append.mp hx with hx|hx
 .exact t x hx
 .rw [zzO hx];exact h
theorem xI {q:Pr} {A:Around} {x:Str} {w:W} {u:Value} {v:V} (hm:q.mg x=some u) (r:yY v u) (rp:∀ H,wX q.K H w v):GlE (q.at A) (x,w):=by
 intro X fits gl qp hd hn;have hm':X.mg x=some u:=by rw [fits.mg];exact hm
 refine (zgz gl hm' r hd).imp fun τ H Q h=>?_;obtain ⟨σ,G,hs,ab,h⟩:=h;exact h v H .refl (by have:=rp H;rw [fits.K];exact this) ab
theorem zaG {q:Pr} {A:Around} {x:Str} {T:String} (hm:q.mg x=none) (hv:bootBuiltins x=some (.type T)):GlE (q.at A) (x,.ty T):=by
 intro X fits gl qp hd hn;have hm':X.mg x=none:=by rw [fits.mg];exact hm
 refine (zgD (v:=.ty T) gl hm' hv rfl hn hd).imp fun τ H Q h=>?_;obtain ⟨σ,G,hs,ab,h⟩:=h;exact h (.ty T) H .refl rfl ab
theorem zci {K:yS} {a:Addr} {o:Obj} {its:Array Value} {n:Nat} {ws:List W} {vs:List V} (l:K.lookup a=some o) (hc:o.cls=.type "tuple") (hd:o.data=.seq its n) (hz:its.size<=sizeLine) (hv:zA vs its.toList) (hr:∀ H,zF K H ws vs):∀ H,wX K H (.tup ws) (.ref a) :=
 fun H=>⟨a,vs,rfl,.inr ⟨o,its,n,l,hc,hd,hz,hv⟩,hr H⟩
theorem zch:fJ ⟨"range", rngI⟩:=by
 intro ws G R R' k h;replace h:rngI ws G R:=h;show rngI ws G R';unfold rngI at h ⊢
 split at h
 .exact ⟨h.1,k _ _ _ h.2⟩
 .exact h.elim
def zb9:sC:=fun ws G Q _=>∃ a base ns,ws=[a,.int base]/\bJ G a ns/\ns.length<=63/\(0<=base/\base<=1000)/\∀ d l G',G d=none->G l=none->zJ [] G G'->jW G' d l->Q (.ref d) G'
def vJ:sC:=fun ws G Q _=>∃ d l m,ws=[.ref d,.int m]/\jW G d l/\(0<m/\m<1073741824)/\∀ r G',0<=r->r<m->zJ [d,l] G G'->jW G' d l->Q (.int r) G'
theorem zak:uM ⟨"_law_deal", zb9⟩:=fun ws G Q Q' E k hh=>by
 obtain ⟨a,b,ns,h1,h2,h3,h4,h⟩:=hh;exact ⟨a,b,ns,h1,h2,h3,h4,fun d l G' a b c e=>k _ _ (h d l G' a b c e)⟩
theorem zaj:uM ⟨"_law_draw", vJ⟩:=fun ws G Q Q' E k hh=>by
 obtain ⟨a,b,m,h1,h2,h3,h⟩:=hh;exact ⟨a,b,m,h1,h2,h3,fun d l a b c e=>k _ _ (h d l a b c e)⟩
abbrev zj6:Fn3:=⟨"_law_deal", zb9⟩
abbrev zdk:Fn3:=⟨"_law_draw", vJ⟩
abbrev eAll:Fn3:=⟨"all", fun ws G Q _=>allS (·.all id) ws G Q⟩
abbrev eLst:Fn3:=⟨"list", fun ws G Q _=>lstS ws G Q⟩
abbrev eIdx:Mt3:=⟨"index", "list", idxS⟩
abbrev eRng:It3:=⟨"range", rngI⟩
section
variable {q : Pr} {A : Around} {k : Nat}
theorem zhm (hm:q.mg "max" = none):qH (q.at A) eMax:=⟨zbj hm (by decide +kernel) (fun X f=>zjl f.calm) cO (fun _ _ h=>h),fun ws G Q Q' _ k h=>cO ws G Q Q' k h⟩
theorem zho (hm:q.mg "len" = none):qH (q.at A) eLen:=⟨zbj hm (by decide +kernel) (fun X f=>zjr) cL (fun _ _ h=>h),fun ws G Q Q' _ k h=>cL ws G Q Q' k h⟩
theorem zht (hm:q.mg "all" = none):qH (q.at A) eAll:=⟨zbj hm (by decide +kernel) (fun X f=>zki f.calm) (bM _) (fun _ _ h=>h),fun ws G Q Q' _ k h=>bM _ ws G Q Q' k h⟩
theorem zhn (hm:q.mg "list" = none):qH (q.at A) eLst:=⟨zj0 hm (by decide +kernel) (fun X f=>zjn) cM (fun _ _ h=>h),fun ws G Q Q' _ k h=>cM ws G Q Q' k h⟩
theorem zhl:MtE (q.at A) ePop/\pW ePop:=⟨gN PySem.F.plainAttrs_list PySem.F.slot_list_pop PySem.F.type_list_pop (fun X f=>ziH) cQ,cQ⟩
theorem zhr (hu:A.units+200<cLine):MtE (q.at A) eIdx/\pW eIdx:=⟨gN PySem.F.plainAttrs_list PySem.F.slot_list_index PySem.F.type_list_index (fun X f=>zjY (by rw [f.A];exact hu)) cB,cB⟩
theorem zhj (hm:q.mg "range" = none):ItE (q.at A) eRng/\fJ eRng:=⟨zjP hm,zch⟩
theorem zhk (hl:q.mg "list" = none) (hm:q.mg "reversed" = none):SxE (q.at A) eRev/\qP eRev.sp:=⟨zie hl hm (by decide +kernel) cV (fun X f=>ziv f.calm),cV⟩
end
theorem FnE.imp {p:Par} {nm:Str} {sp sp':sC} (h:FnE p ⟨nm,sp'⟩) (k:∀ ws G Q,sp ws G Q XN->sp' ws G Q XN):FnE p ⟨nm,sp⟩:=by
 intro X fits gl args t qp pos mt hn pa hnil hdb hnm;refine (h X fits gl args t qp pos mt hn pa hnil hdb hnm).imp fun τ H Q z=>?_;obtain ⟨σ,G,hs,ab,z⟩:=z;exact ⟨σ,G,hs,ab,mt σ G _ _ (fun ws G1 z=>k _ _ _ z) z⟩
theorem xF {K:yS} {x qual:Str} {st:Stmt} {f:Addr} {fd:FuncData} {ps:List Str} (F:FunD K x qual st .none f fd)
  (h:∀ (kV doc pm:Value) (an:Option Addr) (cdv ct:Value) (us:List Value),us.length=ps.length->bindArgs (PySem.W.fnOf x qual (yU st) (zI st) (zX st) .none kV doc pm an cdv ct) ⟨us,[]⟩=pure (ps.zip us)):kP K fd ps []:=by
 obtain ⟨oc,od,kV,doc,pm,an,cdv,ct,osl,rfl,lk,hcd⟩:=F.ex;exact .all (h kV doc pm an cdv ct)
theorem qK {q:Pr} {j k:Nat} {nm:Str} {f:Addr} {fd:FuncData} {ps:List Str} {sp:sC} (FO:FnOk q.prog q.w q.K q.mg q.base CX0 j f fd ps (jR q.K sp)) (hm:q.mg nm=some (.ref f)) (hk:PySem.W.keepIn q.K (.ref f)=true) (hb:kP q.K fd ps [])
  (mono:uM ⟨nm,sp⟩) {A:Around} (hr:Room k A) (hjk:j<=k):qH (q.at A) ⟨nm,sp⟩ :=
 ⟨(zj1 (dws:=[]) (dvs:=[]) (FO.mono hjk) hm hk hb (fun _=>rfl) .nil (fun ws G Q Q' z h=>mono ws G Q Q' XN z h) hr).imp fun ws G Q h=>by rw [List.append_nil];exact h,mono⟩
def cZ:sC:=fun ws G Q _=>∃ a ns,ws=[a]/\bJ G a ns/\ns.length<=63/\∀ G',Q (.bl true) G'
theorem uL {K:yS} {H:Hp}:∀ ns:List Int,zF K H (ns.map W.int) (ns.map V.int)
 | []=>rfl
 |n::ns=>⟨.int n,_,rfl,rfl,uL ns⟩
theorem zcR {K:yS} {H:Hp} {a:Addr} {ns:List Int} (hl:ns.length<=63) (hS:pH K H a (ns.map V.int)):jR K cZ [.ref a] H (fun v _=>v=.bl true) fun _ _ _=>False:=by
 rcases hS with hS|hS
 .refine ⟨[.ref a],fun b=>if b=a then some (.fix (ns.map W.int)) else none,⟨_,[],rfl,rfl,rfl⟩,?_,.ref a,ns,rfl,.inl ⟨a,rfl,by simp [yR]⟩,hl,fun G' v H' _ r _=>r⟩;intro b o e;dsimp only at e
  by_cases hb:b=a
  .subst hb;rw [if_pos rfl] at e;cases e;rcases hS with hS|⟨ob,hS⟩
   .exact ⟨_,hS,_,default,.inl rfl,uL ns⟩
   .exact ⟨_,hS,_,ob,.inr rfl,uL ns⟩
  .rw [if_neg hb] at e;cases e
 .exact ⟨[.lsf (ns.map W.int)],fun _=>none,⟨_,[],rfl,⟨a,_,rfl,hS,uL ns⟩,rfl⟩,(fun b o e=>nomatch e),.lsf (ns.map W.int),ns,rfl,.inr rfl,hl,fun G' v H' _ r _=>r⟩
theorem walk3 {l:PySem.W.OpenLaw} {k:Nat} {q:Program} {loose:List Str} {XP:(Str->Option Value)->Heap->Prop} {YP:World->Heap->Prop} {d:DefRec} {K:Params->PySem.W.Frag} (hn:l.most=some 63) (hdf:d.params.defaults=[]) (hr:Room k callerA)
  (hY:∀ (w:World) (h:Heap),YP w h->(K w.params).In h)
  (F:∀ (w:World) (mg:Str->Option Value) (fa:Addr) (h:Heap),(K w.params).In h->h.Ns mainGlobals mg->mg d.name=some (.ref fa) ->
   ∃ fd:FuncData,(∀ (s:Shared) (u:Value),BindsTo s fd ⟨[u],[]⟩ [("_law_script", u)])/\fd.scope.names.lookup ("_law_script" : Str)=some .local/\∀ base:Heap,(K w.params).In base->base.Ns mainGlobals mg->FnOk l.prog w (K w.params) mg base CX0 k fa fd ["_law_script"] (jR (K w.params) cZ)) :
  PySem.W.WalkO q loose XP YP l.row.toRowW d [] (fun f vs=>PySem.call f vs) :=
 L2.walk_of (n:=63) (k:=k) (x := "_law_script") (CX:=fun _=>CX0) (sp:=fun w=>jR (K w.params) cZ) hn (by decide) hdf hr hY F (fun _ _ a ns hl _ hS=>zcR hl hS) fun _ _ _ _ _ z=>z
end L3
namespace L3
open PySem PySem.Spec PyProof.Rows L2 PySem.SeqAt
def cH:MS:=fun x ws G Q=>match x,ws with
 | .str sep,[.ref p]=>∃ ts:List Str,yR G p=some (ts.map .str)/\JoinOk sep ts=true/\Q (.str (Txt.join sep ts)) G
 |_,_=>False
theorem fY:∀ x ws G (Q Q':Q3),(∀ w G',Q w G'->Q' w G')->cH x ws G Q->cH x ws G Q':=by
 intro x ws G Q Q' k h;unfold cH at h ⊢
 split at h
 .obtain ⟨ts,e,o,h⟩:=h;exact ⟨ts,e,o,k _ _ h⟩
 .exact h.elim
theorem dE {K:yS} {H:Hp}:∀ {ts:List Str} {vs:List V} {us:List Value},zF K H (ts.map .str) vs->zA vs us->∃ l:List (Str×Tok),l.map (·.1)=ts/\us=strValues l
 | [],vs,us,r,v=>by cases (show vs=[] from r);cases v;exact ⟨[],rfl,rfl⟩
 |t::ts,vs,us,r,v=>by
  obtain ⟨x,tl,rfl,rx,rt⟩:=r;cases (show x=.str t from rx)
  cases v with
  |cons a c =>
   obtain ⟨tk,rfl⟩:=a;obtain ⟨l,e1,e2⟩:=dE rt c;exact ⟨(t,tk)::l,by rw [zzU,e1],by rw [e2];rfl⟩
theorem zgT {X:Cx}:MtR X "str.join" (lowM X.K cH):=by
 intro pins s σ H x xs v us Q I rx rxs h;obtain ⟨w,ws,G,rw1,rs,ab,h⟩:=h;unfold cH at h
 split at h
 .rename_i sep p;cases (show x=.str sep from rw1);obtain ⟨y,rfl,ry⟩:=vQ rs;cases (show y=.ref p from ry);obtain ⟨u,rfl,ru⟩:=qA rxs;cases (show u=Value.ref p from ru);obtain ⟨t,rfl⟩:=rx;obtain ⟨ts,e,ok,h⟩:=h;obtain ⟨vs,sq,rr⟩:=ab.seq e;obtain ⟨its,vv,pl,hz⟩:=I.list sq;obtain ⟨l,e1,e2⟩:=dE rr vv;subst e2;exact jO I.tk (SC.join pl.isList e1 ok fun t' k h0=>⟨.str (Txt.join sep ts),H,I.tok _ h0,⟨t',rfl⟩,h _ H .refl rfl ab⟩)
 .exact h.elim
abbrev zdj:Mt3:=⟨"join", "str", cH⟩
theorem zeX {q:Pr} {A:Around}:MtE (q.at A) zdj/\pW zdj:=⟨gN PySem.F.plainAttrs_str PySem.F.slot_str_join PySem.F.type_str_join (fun X f=>zgT) fY,fY⟩
def intS:RS:=fun ws G Q=>match ws with
 | [.int i]=>Q (.int i) G
 | [.bl b]=>Q (.int (if b then 1 else 0)) G
 |_=>False
theorem cE:qP intS:=by
 intro ws G Q Q' k h;unfold intS at h ⊢
 split at h
 .exact k _ _ h
 .exact k _ _ h
 .exact h.elim
theorem zjW {X:Cx}:jP X (.type "int") (pC X.K intS):=by
 intro pins s σ H xs us Q I r h;obtain ⟨ws,G,rs,ab,h⟩:=h;unfold intS at h
 split at h
 .rename_i i;obtain ⟨v,rfl,rv⟩:=vQ rs;cases (show v=.int i from rv);exact bU pins s σ H _ us Q I r (.inl ⟨i,rfl,h _ H .refl rfl ab⟩)
 .rename_i b;obtain ⟨v,rfl,rv⟩:=vQ rs;cases (show v=.bl b from rv);exact bU pins s σ H _ us Q I r (.inr ⟨b,rfl,h _ H .refl rfl ab⟩)
 .exact h.elim
abbrev eInt:Fn3:=⟨"int", fun ws G Q _=>intS ws G Q⟩
theorem zhq {q:Pr} {A:Around} (hm:q.mg "int" = none):qH (q.at A) eInt:=⟨zj0 hm (by decide +kernel) (fun X f=>zjW) cE (fun _ _ h=>h),fun ws G Q Q' _ k h=>cE ws G Q Q' k h⟩
theorem zjw {X:Cx} {pins:List (Addr×Obj)} {σ:L2.St} {H:Hp} {s:Shared} {G:Hw} {w:W} {v:V} {u:Value} {T:String} (I:Inv X pins σ H s) (ab:xP X.K H G) (rv:wX X.K H w v) (ru:yY v u) (ty:tyO G w=some T) :
  ∃ HH:Heap->Prop,PySem.W.KitX X.K u (.type T) HH/\HH s.heap/\u≠.builtin "__main__.__loader__#opaque" := by
 cases w with
 |non=>cases ty;cases (show v=.non from rv);cases (show u=Value.none from ru);exact ⟨_,PySem.W.kitx_none,True.intro,fun z=>nomatch z⟩
 |bl x=>cases ty;cases (show v=.bl x from rv);cases (show u=Value.bool x from ru);exact ⟨_,PySem.W.kitx_bool,True.intro,fun z=>nomatch z⟩
 |int x=>cases ty;cases (show v=.int x from rv);obtain ⟨t,rfl⟩:=(show ∃ t,u=Value.int x t from ru);exact ⟨_,PySem.W.kitx_int,True.intro,fun z=>nomatch z⟩
 |str x=>cases ty;cases (show v=.str x from rv);obtain ⟨t,rfl⟩:=(show ∃ t,u=Value.str x t from ru);exact ⟨_,PySem.W.kitx_str,True.intro,fun z=>nomatch z⟩
 |tup ws' =>
  cases ty;obtain ⟨a,vs,rfl,sq,rr⟩:=rv;cases (show u=Value.ref a from ru);obtain ⟨its,_,p,_⟩:=I.tuple sq;obtain ⟨o,h1,h2,_⟩:=p;exact ⟨_,PySem.W.kitx_tuple,⟨o,h1,h2⟩,fun z=>nomatch z⟩
 |ref p =>
  cases (show v=.ref p from rv);cases (show u=Value.ref p from ru);simp only [tyO] at ty
  have lk:∀ ws',yR G p=some ws'->∃ HH:Heap->Prop,PySem.W.KitX X.K (.ref p) (.type "list") HH/\HH s.heap/\Value.ref p≠.builtin "__main__.__loader__#opaque" := fun ws' el=>by
   obtain ⟨vs,sq,rr⟩:=ab.seq el;obtain ⟨its,_,pl,_⟩:=I.list sq;obtain ⟨o,ho,hc,_⟩:=pl.isList;exact ⟨_,PySem.W.kitx_list,⟨o,ho,hc⟩,fun z=>nomatch z⟩
  split at ty
  .rename_i ws' eg;cases ty;exact lk ws' (by unfold yR;rw [eg])
  .rename_i ws' eg;cases ty;exact lk ws' (by unfold yR;rw [eg])
  .rename_i kvs eg;cases ty;obtain ⟨l,e',rl⟩:=ab.dic eg;obtain ⟨_,_,vs,_,o,_,_,e1,e2,_⟩:=(show xN X.prog X.w H s.heap p (.dK l) from I.hok p _ e');exact ⟨_,PySem.W.kitx_dict,⟨o,e1,e2.1⟩,fun z=>nomatch z⟩
  .cases ty
 |_=>cases ty
def zdQ:List W->Option (List String)
 | []=>some []
 | .ty T::r=>(zdQ r).map (T::·)
 |_=>none
theorem zaZ {K:yS} {H:Hp}:∀ {ws:List W} {Ts:List String} {vs:List V} {us:List Value},zdQ ws=some Ts->zF K H ws vs->zA vs us->us=Ts.map .type
 | [],Ts,vs,us,e,r,v=>by cases e;cases (show vs=[] from r);cases v;rfl
 |w::ws,Ts,vs,us,e,r,v=>by
  cases w with
  |ty T =>
   simp only [zdQ] at e;obtain ⟨Ts',e',rfl⟩:=Option.map_eq_some_iff.mp e;obtain ⟨x,tl,rfl,rx,rt⟩:=r;cases (show x=.ty T from rx)
   cases v with
   |cons a c =>
    cases (show _=Value.type T from a);rw [zaZ e' rt c];rfl
  |_=>cases e
def isjS (K:yS):RS:=fun ws G Q=>match ws with
 | [x,.ty T]=>∃ T' b,tyO G x=some T'/\PySem.W.kitOne K (.type T') (.type T)=some b/\Q (.bl b) G
 | [x,.tup ts]=>∃ T' b Ts,tyO G x=some T'/\zdQ ts=some Ts/\PySem.W.kitAny K (.type T') (Ts.map .type)=some b/\Q (.bl b) G
 |_=>False
theorem zc2 (K:yS):qP (isjS K):=by
 intro ws G Q Q' k h;unfold isjS at h ⊢
 split at h
 .obtain ⟨T',b,e,e',h⟩:=h;exact ⟨T',b,e,e',k _ _ h⟩
 .obtain ⟨T',b,Ts,e,e',e2,h⟩:=h;exact ⟨T',b,Ts,e,e',e2,k _ _ h⟩
 .exact h.elim
theorem zjR {X:Cx}:jP X (.builtin "isinstance") (pC X.K (isjS X.K)):=by
 intro pins s σ H xs us Q I r h;obtain ⟨ws,G,rs,ab,h⟩:=h;unfold isjS at h
 split at h
 .rename_i w T;obtain ⟨v,y,rfl,rv,ry⟩:=cT rs;cases (show y=.ty T from ry);obtain ⟨u,c,rfl,ru,rc⟩:=dH r;cases (show c=Value.type T from rc);obtain ⟨T',b,ty,e,h⟩:=h;obtain ⟨HH,kx,hp,hb⟩:=zjw I ab rv ru ty;exact jO I.tk (PySem.W.kia_one kx I.kIn hp e hb fun tk h0=>⟨.bl b,H,I.tok _ h0,rfl,h _ H .refl rfl ab⟩)
 .rename_i w ts;obtain ⟨v,y,rfl,rv,ry⟩:=cT rs;obtain ⟨u,c,rfl,ru,rc⟩:=dH r;obtain ⟨T',b,Ts,ty,et,e,h⟩:=h;obtain ⟨a,vs,rfl,sq,rr⟩:=ry;cases (show c=Value.ref a from rc);obtain ⟨its,vv,p,_⟩:=I.tuple sq;obtain ⟨⟨oc,od,dt,sl⟩,h1,h2,n,h3⟩:=p;cases (show oc=_ from h2);cases (show dt=_ from h3);have ei:=zaZ et rr vv;subst ei;obtain ⟨HH,kx,hp,hb⟩:=zjw I ab rv ru ty;exact jO I.tk (PySem.W.kia_tup kx I.kIn hp h1 e hb fun tk h0=>⟨.bl b,H,I.tok _ h0,rfl,h _ H .refl rfl ab⟩)
 .exact h.elim
theorem zfl {q:Pr} {k:Nat} {M:MC} {nm qual:Str} {st:Stmt} {f:Addr} {fd:FuncData} {ps:List Str} {sp:Nat->sC} {body:ISs} {Γ:Fn3->Ctx3} (F:FunD q.K nm qual st .none f fd) (S:FnScope M.N ps (zX st))
  (hm:q.mg nm=some (.ref f)) (hb:kP q.K fd ps []) (h0:∀ ws G Q,¬ sp 0 ws G Q XN) (len:∀ n ws G Q,sp n ws G Q XN->ws.length=ps.length) (mono:∀ n,uM ⟨nm,sp n⟩)
  (g:∀ n A,Room k A->qH (q.at A) ⟨nm,sp n⟩->Good (Γ ⟨nm,sp n⟩) (q.at A)) (eM:∀ n,MOk (Γ ⟨nm,sp n⟩) M (zX st)) (look:uJ body M (zI st)=true)
  (hbd:∀ n ws G Q,sp (n+1) ws G Q XN->yX (Γ ⟨nm,sp n⟩) XN body { nx:=fun _ G'=>Q .non G',rt:=Q } (yO M.N ws) G):∀ n,FnOk q.prog q.w q.K q.mg q.base CX0 (k+n) f fd ps (jR q.K (sp n))
 | 0=>⟨fun vs H Q E ⟨ws,G,_,_,h⟩=>absurd h (h0 _ _ _),fun A outer s H args us vs Q E _ _ _ _ ⟨ws,G,_,_,h⟩=>absurd h (h0 _ _ _),fun x _ _ A outer s H args us vs Q E _ _ _ _ ⟨ws,G,_,_,h⟩=>absurd h (h0 _ _ _)⟩
 |n+1=>sI (k:=k+n) F S (fun A hr=>g n A (hr.mono (Nat.le_add_right _ _)) (qK (zfl F S hm hb h0 len mono g eM look hbd n) hm F.kp hb (mono n) hr (zzR _))) (eM n) look (len (n+1)) (hbd n)
end L3
namespace L2
open PySem PySem.Spec PyProof.Rows
section
variable {a b : Bool} {z TI TO i1 i2 l1 l2 : Addr}
end
end L2
namespace L3
open PySem PySem.Spec PyProof.Rows L2 PySem.SeqAt
def bOf (w:W):Bool:=match w with|.tup _=>true|_=>false
theorem zcd {K:yS} {H1 H:Hp} {G1 G:Hw} {w:W} {a:Addr} {vs:List V} {b:Bool} {xs:List W} (g:yM K H1 H) (ab:xP K H G) (r1:wX K H1 w (.ref a)) (b1:vI G1 w=some xs) (sq1:SqB b K H1 a vs) (hb:b=bOf w) (st:vI G w=some xs) (rr1:zF K H1 xs vs) :
  ∃ vs',SqB b K H a vs'/\zF K H xs vs':=by
 cases w with
 |tup ws =>
  subst hb;exact ⟨vs,g.1 _ _ sq1,rr1.mono g⟩
 |ref p =>
  subst hb;cases (show V.ref a=.ref p from r1);obtain ⟨vs',sq,rr⟩:=ab.seq st;exact ⟨vs',sq,rr⟩
 |_=>cases b1
theorem zd9 {K:yS} {H:Hp} {G:Hw} {w:W} {v:V} {xs:List W} (ab:xP K H G) (r:wX K H w v) (e:vI G w=some xs):∃ a vs,v=.ref a/\SqB (bOf w) K H a vs/\zF K H xs vs:=by
 cases w with
 |tup ws =>
  obtain ⟨a,vs,rfl,sq,rr⟩:=r;cases e;exact ⟨a,vs,rfl,sq,rr⟩
 |ref p =>
  cases (show v=.ref p from r);obtain ⟨vs,sq,rr⟩:=ab.seq e;exact ⟨p,vs,rfl,sq,rr⟩
 |_=>cases e
section
variable {n : Nat} {p : Array Nat}
end
mutual
def ltW:W->W->Option Bool
 | .str x,.str y=>some (decide (x.cps.toList<y.cps.toList))
 | .tup xs,.tup ys=>ltWs xs ys
 |_,_=>none
def ltWs:List W->List W->Option Bool
 | [],[]=>some false
 | [],_::_=>some true
 |_::_,[]=>some false
 |x::xs,y::ys=>if wU x y=true then ltWs xs ys else ltW x y
end
section
variable {X : Cx} {pins : List (Addr × Obj)} {σ : L2.St} {H : Hp} {s : Shared}
end
section
variable {prog : Program} {w : World} {A : Around} {E : Value → Shared → Prop} {s : Shared} {D : Addr} {vs : List Value} {κ : SortKind} {lt : Nat → Nat → Bool}
end
def ltB (x y:W):Bool:=(ltW x y).getD false
section
variable {prog : Program} {w : World} {A : Around} {s : Shared} {b fin v : Bool} {C : Bool → Shared → Prop}
end
section
variable {X : Cx} {pins : List (Addr × Obj)} {σ : L2.St} {H : Hp} {s : Shared}
end
end L3
namespace L3
open PySem PySem.Spec PyProof.Rows L2
end L3
namespace PySem.W
open PySem.Spec PySem.Calls PyProof.Rows PySem
theorem zaX:builtinKind "BaseException.__getattribute__" = some .slot:=by
 decide +kernel
theorem zbR:splitId "BaseException.__getattribute__" = some ("BaseException", "__getattribute__"):=by
 decide +kernel
section
variable {prog : Program} {w : World} {A : Around} {E : Value → Shared → Prop} {s : Shared} {K : Frag} {x C : Addr} {ox : Obj} {od : Option Obj} {name : Str} {expr : Bool}
theorem zdN {M:Model} {nameV:Value} {Q:Unit->Shared->Prop} (X:K.In s.heap) (I:InstAt s.heap x ox C od) (hs:subIn K (.ref C) (.type "BaseException")=some true) (q:Q () s):wpAny M A (checkBuiltinCall "BaseException.__getattribute__" ⟨[.ref x,nameV],[]⟩) Q E s:=by
 have hk:=zaX;have hsp:=zbR;have ha:=F.args_bexc_ga (.ref x) nameV;obtain ⟨hh,g,d,t,os⟩:=s;have ty:=I.type (M:=M);have ls:=looks_subIn X hs (M:=M);have LI:Looks M hh (isInstance (.ref x) (.type "BaseException")) true:=ty.andThen ls;simp only [checkBuiltinCall,hsp,hk];refine wpAny_bind (LI.at ?_)
 wp_walk
 exact q
theorem zfZ (self:Value):bindSpecial (.builtin "BaseException.__getattribute__") self=pure (.builtin "BaseException.__getattribute__", [self]):=by
 have hop:withoutEnding? "BaseException.__getattribute__" "#opaque" = none:=by decide +kernel
 have hdat:withoutEnding? "BaseException.__getattribute__" "#data" = none:=by decide +kernel
 have hk:=zaX;simp only [bindSpecial,typeOf,builtinType,hop,hdat,hk];rfl
theorem xg_by {nameV:Value} {fill:Bool} {Q:Value->Shared->Prop} (X:K.In s.heap) (I:InstAt s.heap x ox C od) (hga:findIn K (.ref C) "__getattribute__" = some (some (.builtin "BaseException.__getattribute__"))) (hgt:findIn K (.ref C) "__getattr__" = some none)
  (h:codeAny (model prog w) A (.call (.builtin "BaseException.__getattribute__") ⟨[.ref x,nameV],[]⟩) (fun r s'=>match r with|.ok (.ret v)=>wpAny (model prog w) A (handedOut v) Q E s'|_=>False) s) :
  wpAny (model prog w) A (getAttrBy (.ref x) nameV fill expr) Q E s:=by
 obtain ⟨hp,g,d,t,os⟩:=s;have ty:=I.type (M:=model prog w);have lg:=looks_findIn X hga (M:=model prog w);have lh:=looks_findIn X hgt (M:=model prog w);unfold getAttrBy;refine wpAny_holding (wpAny_bind (ty.at ?_));refine wpAny_bind (lg.at ?_);show wpAny _ _ (getAttrByItsOwn _ _ _ _ _ _) _ _ _;unfold getAttrByItsOwn;refine wpAny_bind ?_;show wpAny _ _ (typeLookup (.ref C) "__getattr__") _ _ _;refine lh.at (wpAny_bind (wpAny_attempt (wpAny_holding ?_)));have hx0:¬ ((expr&&onTheHeap (Value.builtin "BaseException.__getattribute__"))=true):=by cases expr<;>exact fun e=>nomatch e
 unfold callGetattribute;rw [if_neg hx0];unfold boundAndCalled;rw [zfZ];refine wpAny_bind (wpAny_pure (wpAny_call (codeAny_mono h fun r s' z=>?_)));rcases r with _|(_|_|_|_)<;>first|exact z|exact z.elim
theorem zbP {g a:Value} {tk:Tok} {Q:Fin->Shared->Prop} (X:K.In s.heap) (I:InstAt s.heap x ox C od) (hf:findObj K C od name=some (.bind g a))
  (q:codeAny (model prog w) A (.call g ⟨[a,.ref x,.ref C],[]⟩) (fun r s'=>match r with|.ok (.ret v)=>Q (.done (.ret v)) s'|_=>False) s) :
  wpAny (model prog w) A (Builtin.«object.__getattribute__» ⟨[.ref x,.str name tk],[]⟩) Q E s:=by
 obtain ⟨hp,gn,dr,tt,st⟩:=s;have ty:=I.type (M:=model prog w);have fd:=looks_find X I hf (M:=model prog w)
 delta Builtin.«object.__getattribute__»
 repeat (any_goals (first|with_reducible refine ty.at ?_|with_reducible refine fd.at ?_|wp_step))
 refine codeAny_mono q fun r s' z=>?_;rcases r with _|(_|_|_|_)<;>first|exact z.elim|exact wpAny_pure z
theorem zdM {Q:Option Value->Shared->Prop} (X:K.In s.heap) (I:InstAt s.heap x ox C od) (hga:findIn K (.ref C) "__getattribute__" = some (some (.builtin "BaseException.__getattribute__"))) (hgt:findIn K (.ref C) "__getattr__" = some none)
  (hs:subIn K (.ref C) (.type "BaseException")=some true) (hf:findObj K C od "__class__" = some (.bind (.builtin "getset_descriptor.__get__") (.builtin "object.__class__"))) (hm:mroIn K C (.type "object")=some true)
  (q:Q (some (.ref C)) { s with toks:=s.toks+1 }):wpAny (model prog w) A (getAttr? (.ref x) "__class__") Q E s:=by
 obtain ⟨hp,g,d,t,os⟩:=s;unfold getAttr? getAttrBy?
 refine wpAny_bind (wpAny_mkText (wpAny_bind (wpAny_attempt (xg_by (s:=⟨hp,g,d,t+1,os⟩) X I hga hgt
  (codeAny_call_builtin (by decide +kernel) F.entry_bexc_ga (zdN (s:=⟨hp,g,d,t+1,os⟩) X I hs (zbP (s:=⟨hp,g,d,t+1,os⟩) X I hf
   (class_get (s:=⟨hp,g,d,t+1,os⟩) X I hm ?_))))))))
 show wpAny _ _ (handedOut (.ref C)) _ _ _;rw [handedOut_of rfl];exact wpAny_pure (wpAny_pure q)
end
structure XC (K:Frag) (C:Addr):Prop where
 cls:(clsIn K C).isSome=true
 ga:findIn K (.ref C) "__getattribute__" = some (some (.builtin "BaseException.__getattribute__"))
 gt:findIn K (.ref C) "__getattr__" = some none
 sub:subIn K (.ref C) (.type "BaseException")=some true
 cl:findIn K (.ref C) "__class__" = some (some (.builtin "object.__class__"))
 mro:mroIn K C (.type "object")=some true
theorem zf0 {K:Frag} {C:Addr} {od:Option Obj} (T:XC K C) (hn:specialIn K (.builtin "object.__class__") "__get__" = some (some (.builtin "getset_descriptor.__get__"))) (htk:takesIn K (.builtin "object.__class__")=some true) :
  findObj K C od "__class__" = some (.bind (.builtin "getset_descriptor.__get__") (.builtin "object.__class__")):=by
 obtain ⟨cd,hc⟩:=Option.isSome_iff_exists.mp T.cls;unfold findObj;rw [hc,T.cl];simp only [Option.bind_some,hn,htk]
theorem kitx_exc {K:Frag} {x C:Addr} (T:XC K C) (hn:specialIn K (.builtin "object.__class__") "__get__" = some (some (.builtin "getset_descriptor.__get__"))) (htk:takesIn K (.builtin "object.__class__")=some true) :
  KitX K (.ref x) (.ref C) (fun h=>∃ ox od,InstAt h x ox C od) where
 ty:=fun _ _ _ I=>by obtain ⟨_,_,I⟩:=I;exact I.type
 it:=fun _ _ X _=>by
  obtain ⟨cdD,hcD⟩:=Option.isSome_iff_exists.mp T.cls;unfold clsIn at hcD
  split at hcD
  .rename_i c' d' cd' sl' ho;intro A' Q' E' s' k q;unfold isType loadHead;refine wpAny_bind (wpAny_loadPart (k _ _ (X _ _ ho)) ?_);exact wpAny_pure q
  .cases hcD
 ne:=fun hp tp _ _ _ _ X htp=>by
  obtain ⟨cdD,hcD⟩:=Option.isSome_iff_exists.mp T.cls;rw [Bool.eq_false_iff];intro q;cases (Value.ref.inj (beq_iff_eq.mp q):C=tp);unfold clsIn at hcD
  split at hcD
  .rename_i c' d' cd' sl' ho;cases (X _ _ ho).symm.trans htp
  .cases hcD
 ca:=fun X I k=>by
  obtain ⟨ox,od,I⟩:=I;exact zdM X I T.ga T.gt T.sub (zf0 T hn htk) T.mro k
end PySem.W
namespace PySem.W
open PySem PySem.Spec PySem.Calls PyProof.Rows Builtin Builtin.ObjectAttr
section
variable {prog : Program} {w : World} {A : Around} {Er : Value → Shared → Prop} {hp : Heap} {gn : Array GenState} {dr : Drawn} {tk : Nat} {st : OsState} {K : Frag} {x C : Addr} {fld : Str} {val : Value}
variable {fs : Array Value} {sl : Array (Option Value)} {cd : ClassData}
end
end PySem.W
namespace PySem
abbrev xnT (ps:List Value):Obj:={ cls:=.type "tuple", data:=.seq ps.toArray }
abbrev xnO (C n:Addr):Obj:={ cls:=.ref C,data:=.fields #[.ref n,.none,.none,.none,.bool false,.none] }
abbrev xnH (hp:Heap) (C:Addr) (ps:List Value):Heap:=(hp.push (xnT ps)).push (xnO C hp.objs.size)
theorem ze7 {hp:Heap} {C:Addr} {ps:List Value} {b:Addr} {o:Obj} (e:hp.get? b=some o):(xnH hp C ps).get? b=some o:=Heap.get?_push_of_some _ (Heap.get?_push_of_some _ e)
theorem xn_it {hp:Heap} {C:Addr} {ps:List Value}:(xnH hp C ps).get? (hp.objs.size+1)=some (xnO C hp.objs.size):=by heap_get
section
variable {prog : Program} {w : World} {A : Around} {X : Value → Shared → Prop} {hp : Heap} {gn : Array GenState} {dr : Drawn} {tk : Nat} {st : OsState}
variable {nm qn : Str} {C N : Addr} {bs up upB : List Value} {hdct : Bool} {sn : List Str} {sub : List Value} {ab : Bool} {col : Option Bool} {dd : Option Addr} {k0 k1 k2 k3 k5 : Option Value} {B B' new new' ini ini' : String} {up' : List Value}
variable {mN : Str → Option Value} {ps : List Value} {fI : Addr} {oI : Obj}
end
end PySem
namespace L3
open PySem PySem.Spec PyProof.Rows L2
structure XK (K:yS):Prop where
 get:PySem.W.specialIn K (.builtin "object.__class__") "__get__" = some (some (.builtin "getset_descriptor.__get__"))
 tak:PySem.W.takesIn K (.builtin "object.__class__")=some true
theorem zaJ {X:Cx} {pins:List (Addr×Obj)} {σ:L2.St} {H:Hp} {s:Shared} {a C:Addr} {l:List (Str×V)} (I:Inv X pins σ H s) (e:ExAt H a C l):∃ ox od,PySem.W.InstAt s.heap a ox C od:=by
 rcases e with ⟨e,_⟩|⟨dx,e,e'⟩
 .obtain ⟨⟨fs,h1⟩,_⟩:=I.hok a _ e;exact ⟨_,none,h1,rfl,rfl,True.intro⟩
 .obtain ⟨⟨fs,h1⟩,_⟩:=I.hok a _ e;obtain ⟨mA,⟨od,es,ep,h2,_⟩,_⟩:=I.hok dx _ e';exact ⟨_,some od,h1,rfl,rfl,h2⟩
def za2:List W->Option (List Addr)
 | []=>some []
 | .ref C::r=>(za2 r).map (C::·)
 |_=>none
theorem cS {K:yS} {H:Hp}:∀ {ws:List W} {Cs:List Addr} {vs:List V} {us:List Value},za2 ws=some Cs->zF K H ws vs->zA vs us->us=Cs.map .ref
 | [],Cs,vs,us,e,r,v=>by cases e;cases (show vs=[] from r);cases v;rfl
 |w::ws,Cs,vs,us,e,r,v=>by
  cases w with
  |ref C =>
   simp only [za2] at e;obtain ⟨Cs',e',rfl⟩:=Option.map_eq_some_iff.mp e;obtain ⟨x,tl,rfl,rx,rt⟩:=r;cases (show x=.ref C from rx)
   cases v with
   |cons a c =>
    cases (show _=Value.ref C from a);rw [cS e' rt c];rfl
  |_=>cases e
def isxS (K:yS):RS:=fun ws G Q=>match ws with
 | [.exc C _ _,.ref D]=>PySem.W.XC K C/\XK K/\∃ b,PySem.W.kitOne K (.ref C) (.ref D)=some b/\Q (.bl b) G
 | [.exc C _ _,.ty T]=>PySem.W.XC K C/\XK K/\∃ b,PySem.W.kitOne K (.ref C) (.type T)=some b/\Q (.bl b) G
 | [.exc C _ _,.tup ts]=>PySem.W.XC K C/\XK K/\∃ b Cs,za2 ts=some Cs/\PySem.W.kitAny K (.ref C) (Cs.map .ref)=some b/\Q (.bl b) G
 |ws=>isjS K ws G Q
theorem cF (K:yS):qP (isxS K):=by
 intro ws G Q Q' k h;unfold isxS at h ⊢
 split at h
 .obtain ⟨h1,h2,b,h3,h4⟩:=h;exact ⟨h1,h2,b,h3,k _ _ h4⟩
 .obtain ⟨h1,h2,b,h3,h4⟩:=h;exact ⟨h1,h2,b,h3,k _ _ h4⟩
 .obtain ⟨h1,h2,b,Cs,h3,h4,h5⟩:=h;exact ⟨h1,h2,b,Cs,h3,h4,k _ _ h5⟩
 .exact zc2 K _ _ _ _ k h
theorem zjQ {X:Cx}:jP X (.builtin "isinstance") (pC X.K (isxS X.K)):=by
 intro pins s σ H xs us Q I r h;obtain ⟨ws,G,rs,ab,h⟩:=h;unfold isxS at h
 split at h
 .rename_i C ns vs' D;obtain ⟨v,y,rfl,rv,ry⟩:=cT rs;cases (show y=.ref D from ry);obtain ⟨u,c,rfl,ru,rc⟩:=dH r;cases (show c=Value.ref D from rc);obtain ⟨xc,xk,b,e,h⟩:=h;obtain ⟨a,vs,rfl,ex,_⟩:=rv;cases (show u=Value.ref a from ru);exact jO I.tk (PySem.W.kia_one (PySem.W.kitx_exc xc xk.get xk.tak) I.kIn (zaJ I ex) e (fun z=>nomatch z) fun tk h0=>⟨.bl b,H,I.tok _ h0,rfl,h _ H .refl rfl ab⟩)
 .rename_i C ns vs' T;obtain ⟨v,y,rfl,rv,ry⟩:=cT rs;cases (show y=.ty T from ry);obtain ⟨u,c,rfl,ru,rc⟩:=dH r;cases (show c=Value.type T from rc);obtain ⟨xc,xk,b,e,h⟩:=h;obtain ⟨a,vs,rfl,ex,_⟩:=rv;cases (show u=Value.ref a from ru);exact jO I.tk (PySem.W.kia_one (PySem.W.kitx_exc xc xk.get xk.tak) I.kIn (zaJ I ex) e (fun z=>nomatch z) fun tk h0=>⟨.bl b,H,I.tok _ h0,rfl,h _ H .refl rfl ab⟩)
 .rename_i C ns vs' ts;obtain ⟨v,y,rfl,rv,ry⟩:=cT rs;obtain ⟨u,c,rfl,ru,rc⟩:=dH r;obtain ⟨xc,xk,b,Cs,et,e,h⟩:=h;obtain ⟨a,vs,rfl,ex,_⟩:=rv;cases (show u=Value.ref a from ru);obtain ⟨p,ys,rfl,sq,rr⟩:=ry;cases (show c=Value.ref p from rc);obtain ⟨its,vv,pl,_⟩:=I.tuple sq;obtain ⟨⟨oc,od,dt,sl⟩,h1,h2,n,h3⟩:=pl;cases (show oc=_ from h2);cases (show dt=_ from h3);have ei:=cS et rr vv;subst ei;exact jO I.tk (PySem.W.kia_tup (PySem.W.kitx_exc xc xk.get xk.tak) I.kIn (zaJ I ex) h1 e (fun z=>nomatch z) fun tk h0=>⟨.bl b,H,I.tok _ h0,rfl,h _ H .refl rfl ab⟩)
 .exact zjR pins s σ H xs us Q I r ⟨_,G,rs,ab,h⟩
abbrev eIsx (K:yS):Fn3:=⟨"isinstance", fun ws G Q _=>isxS K ws G Q⟩
theorem zhp {q:Pr} {A:Around} (hm:q.mg "isinstance" = none):qH (q.at A) (eIsx q.K):=⟨zbj (id := "isinstance") hm (by decide +kernel) (fun X f=>by rw [← show X.K=q.K from f.K];exact zjQ) (cF _) (fun _ _ h=>h),fun ws G Q Q' _ k h=>cF _ ws G Q Q' k h⟩
section
variable {X : Cx}
end
end L3
namespace PySem
open PySem.W
def Nw (fs:Array Value):Prop:=∃ v0 v2 v3 v4 v5,fs=#[v0,.none,v2,v3,v4,v5]
section
variable {prog : Program} {w : World} {A : Around} {Er : Value → Shared → Prop} {hp : Heap} {gn : Array GenState} {dr : Drawn} {tk : Nat} {st : OsState} {K : Frag}
variable {nm qn : Str} {C N : Addr} {bs up : List Value} {hdct : Bool} {sn : List Str} {sub : List Value} {ab : Bool} {col : Option Bool} {dd : Option Addr} {k0 k1 k2 k3 k5 : Option Value} {B new ini : String} {upB : List Value} {ps : List Value}
theorem zhP {M:Model} (F:ExcBaseFacts B new ini upB) (cC:hp.get? C=some (excClassObj nm qn C N bs up hdct sn sub ab col dd k0 k1 k2 k3 k5 new)) (vN:(Value.ref C::up).contains (.type B)=true) {Q:Unit->Shared->Prop} (go:Q () ⟨hp,gn,dr,tk,st⟩) :
  wpAny M A (checkBuiltinCall new ⟨.ref C::ps,[]⟩) Q Er ⟨hp,gn,dr,tk,st⟩:=by
 have z:=F.noStar;simp only [checkBuiltinCall,F.newKind,F.newRow,F.newSplit]
 repeat (first|(refine wpAny_isSubtype_exc cC ?_;rw [vN])|refine wpAny_madeBy_exc cC ?_|refine wpAny_staticBase_exc cC ?_|refine wpAny_loadPart_at cC ?_|simp only [if_false,zzB,bne_self_eq_false]|wp_step)
 exact go
theorem zhO (F:ExcBaseFacts B new ini upB) (cC:hp.get? C=some (excClassObj nm qn C N bs up hdct sn sub ab col dd k0 k1 k2 k3 k5 new)) (vN:(Value.ref C::up).contains (.type B)=true) (noA:(Value.ref C::up).contains (.type "AttributeError")=false) (uK:(Value.ref C::up).contains (.type "NameError")=false)
  (few:ps.length<=sizeLine) {R:Result->Shared->Prop} (go:R (.ok (.ret (.ref (hp.objs.size+1)))) ⟨xnH hp C ps,gn,dr,tk,st⟩):codeAny (model prog w) A (.builtin new ⟨.ref C::ps,[]⟩) R ⟨hp,gn,dr,tk,st⟩:=by
 have z:=F.ends;refine codeAny_builtinAt F.entry ?_;unfold Builtin.«BaseException.__new__»;refine wpAt_bind (show wpAt _ _ _ (stack >>= _) _ _ _ from wpAt_bind (wpAt_stack fun p below=>wpAt_of_wpAny ?_))
 wp_walk
 refine wpAt_of_wpAny ?_;rw [F.owner]
 repeat (first|(with_reducible refine wpAny_isSubtype_exc cC ?_;first|rw [vN]|rw [noA]|rw [uK])|(with_reducible refine wpAny_madeHere_exc F.canon cC ?_)|(with_reducible refine wpAny_loadPart_at cC ?_)|wp_step)
 show R _ _;rw [Heap.size_push];exact go
theorem zfY {M:Model} (F:ExcBaseFacts B new ini upB) {x:Addr} {ob:Obj} (cC:hp.get? C=some (excClassObj nm qn C N bs up hdct sn sub ab col dd k0 k1 k2 k3 k5 new)) (at_:hp.get? x=some ob) (cl:ob.cls=.ref C) (vN:(Value.ref C::up).contains (.type B)=true) {Q:Unit->Shared->Prop} (go:Q () ⟨hp,gn,dr,tk,st⟩) :
  wpAny M A (checkBuiltinCall ini ⟨[.ref x],[]⟩) Q Er ⟨hp,gn,dr,tk,st⟩:=by
 have z:=F.noStar;simp only [checkBuiltinCall,F.initKind,F.initRow,F.initSplit]
 repeat (first|(with_reducible refine wpAny_isSubtype_exc cC ?_;rw [vN])|(with_reducible refine wpAny_loadPart_at at_ ?_;rw [cl])|(with_reducible refine wpAny_loadPart_at cC ?_)|wp_step)
 exact go
theorem zdK (X:K.In hp) (F:ExcBaseFacts B new ini upB) (lC:K.lookup C=some (excClassObj nm qn C N bs up hdct sn sub ab col dd k0 k1 k2 k3 k5 new)) (vN:(Value.ref C::up).contains (.type B)=true) (noA:(Value.ref C::up).contains (.type "AttributeError")=false) (uK:(Value.ref C::up).contains (.type "NameError")=false)
  (ci:findIn K (.ref C) "__init__" = some (some (.builtin ini))) {Q:Fin->Shared->Prop}
  (go:∀ h',(∀ b o,hp.get? b=some o->h'.get? b=some o)->(∃ fs,h'.get? (hp.objs.size+1)=some { cls:=.ref C,data:=.fields fs }/\Nw fs)->Q (.done (.ret (.ref (hp.objs.size+1)))) ⟨h',gn,dr,tk,st⟩) :
  wpAny (model prog w) A (Builtin.«type.__call__» ⟨[.ref C],[]⟩) Q Er ⟨hp,gn,dr,tk,st⟩:=by
 have cC:=X _ _ lC;have X':K.In (xnH hp C []):=fun a o e=>ze7 (X a o e);have mine:(Value.ref C::up).contains (.ref C)=true:=by simp
 have cC':=X' _ _ lC;have here:=xn_it (hp:=hp) (C:=C) (ps:=[])
 repeat (first|(with_reducible refine wpAny_loadPart_at cC ?_)|(with_reducible refine wpAny_madeBy_exc cC ?_)|wp_step)
 refine codeAny_call_builtin_code (Code.quiet_builtin _ F.quiet) (zhP (ps:=[]) F cC vN (zhO (ps:=[]) F cC vN noA uK (Nat.zero_le _) ?_));show wpAny _ _ _ _ _ (Shared.mk (xnH hp C []) _ _ _ _);unfold isInstance
 repeat (first|(with_reducible refine wpAny_loadPart_at here ?_)|(with_reducible refine wpAny_isSubtype_exc cC' ?_;rw [mine])|wp_step)
 refine (show wpAny (model prog w) A (typeLookup (.ref C) "__init__") _ _ _ from (looks_findIn X' ci (M:=model prog w)).at ?_);refine wpAny_holding ?_;refine wpAny_bind (wpAny_of_eq (F.init.bind _) ?_);refine wpAny_bind (wpAny_call (codeAny_call_builtin F.init.plain F.initEntry (zfY F cC' here rfl vN ?_)))
 wp_walk
 refine go _ (fun b o e=>?_) ⟨_,Heap.get?_update_self _ (Heap.get?_push_of_some _ here) rfl,⟨_,_,_,_,_,rfl⟩⟩;have lt:=Heap.lt_size e;rw [Heap.get?_update_ne _ _ _ _ (Nat.ne_of_lt (Nat.lt_succ_of_lt lt))];exact Heap.get?_push_of_some _ (ze7 e)
theorem zdL (X:K.In hp) (F:ExcBaseFacts B new ini upB) (lC:K.lookup C=some (excClassObj nm qn C N bs up hdct sn sub ab col dd k0 k1 k2 k3 k5 new)) (vN:(Value.ref C::up).contains (.type B)=true) (noA:(Value.ref C::up).contains (.type "AttributeError")=false) (uK:(Value.ref C::up).contains (.type "NameError")=false)
  (ci:findIn K (.ref C) "__init__" = some (some (.builtin ini))) {Q:Value->Shared->Prop}
  (go:∀ h',(∀ b o,hp.get? b=some o->h'.get? b=some o)->(∃ fs,h'.get? (hp.objs.size+1)=some { cls:=.ref C,data:=.fields fs }/\Nw fs)->Q (.ref (hp.objs.size+1)) ⟨h',gn,dr,tk,st⟩) :
  wpAny (model prog w) A (call (.ref C) []) Q Er ⟨hp,gn,dr,tk,st⟩:=by
 have cC:=X _ _ lC;have a1:=tc_lookup;have a2:=tc_bind (.ref C);have a3:(⟨hp,gn,dr,tk,st⟩:Shared).TypeIs (.ref C) "type" := ⟨_,cC,rfl⟩;refine wpAny_call (codeAny_of_tree (show wpAny _ _ (callAny (.ref C) _) _ _ _ from ?_))
 repeat (any_goals (first|assumption|(with_reducible refine wpAny_loadPart_at cC ?_)|wp_step))
 exact ⟨rfl,codeAny_call_builtin_at (Code.quiet_builtin _ (by decide +kernel)) entry_typeCall (wpAny_check_type_call_sub cC (zdK X F lC vN noA uK ci go))⟩
end
end PySem
namespace L3
open PySem PySem.Spec PyProof.Rows L2
structure XM (K:yS) (C:Addr) (ini:Value):Prop where
 cls:∃ (nm qn:Str) (N:Addr) (bs up:List Value) (hd:Bool) (sn:List Str) (sub:List Value) (ab:Bool) (col:Option Bool) (dd:Option Addr) (k0 k1 k2 k3 k5:Option Value),
  K.lookup C=some (excClassObj nm qn C N bs up hd sn sub ab col dd k0 k1 k2 k3 k5 "ValueError.__new__")/\(Value.ref C::up).contains (.type "ValueError")=true/\(Value.ref C::up).contains (.type "AttributeError")=false/\(Value.ref C::up).contains (.type "NameError")=false/\(Value.ref C::up).contains (.type "BaseException")=true
 ini:PySem.W.findIn K (.ref C) "__init__" = some (some ini)
 kp:PySem.W.keepIn K (.ref C)=true
def ExN (a C:Addr) (dx:Option Addr):Heap->Prop:=fun h=>∃ fs,h.get? a=some { cls:=.ref C,dict:=dx,data:=.fields fs }/\Nw fs
theorem zj3 {P:Program} {w:World} {H:Hp} {h:Heap} {a C:Addr} {dx:Option Addr} {fs:Array Value} (e:h.get? a=some { cls:=.ref C,dict:=dx,data:=.fields fs }) (n:Nw fs):xN P w H h a (.ext (ExN a C dx)) :=
 ⟨⟨fs,e,n⟩,⟨_,e⟩,fun h1 h2 z k=>by obtain ⟨fs',e,n⟩:=z;exact ⟨fs',k _ e,n⟩⟩
theorem zdc {P:Program} {w:World} {H:Hp} {h:Heap} {a C:Addr} {dx:Option Addr} {fs:Array Value} (e:h.get? a=some { cls:=.ref C,dict:=dx,data:=.fields fs }):xN P w H h a (.ext (dL a C dx)) :=
 ⟨⟨fs,e⟩,⟨_,e⟩,fun h1 h2 z k=>by obtain ⟨fs',e⟩:=z;exact ⟨fs',k _ e⟩⟩
def mk0 (C:Addr):List V->Hp->VK->Prop:=fun vs H Q=>vs=[]/\∀ a,H a=none->Q (.ref a) (xR H a (.ext (ExN a C none)))
theorem zjk {X:Cx} {C:Addr} (T:XM X.K C (.builtin "ValueError.__init__")):jP X (.ref C) (mk0 C):=by
 intro pins s σ H xs us Q I r h;obtain ⟨rfl,h⟩:=h;cases r;obtain ⟨nm,qn,N,bs,up,hd,sn,sub,abb,col,dd,k0,k1,k2,k3,k5,lC,vN,noA,uK,isX⟩:=T.cls;obtain ⟨hp,gn,dr,tk,st⟩:=s;refine zdL I.kIn F.excBase_ValueError lC vN noA uK T.ini fun h' keep new=>?_;obtain ⟨fs,at_,nw⟩:=new;have fr:H (hp.objs.size+1)=none:=I.hok.fresh (Nat.le_succ _);have I':=I.laid (a:=hp.objs.size+1) (h':=h') (t':=tk) (o:=.ext (ExN (hp.objs.size+1) C none)) keep (Nat.le_succ _) (zj3 at_ nw);exact ⟨.ref (hp.objs.size+1),_,I',rfl,h _ fr⟩
section
variable {X : Cx}
end
structure Lf (fs:List Addr) (a:Addr) (old:Option Addr) (T:Addr) (fl:Value) (h h':Heap):Prop where
 keep:∀ b o,h.get? b=some o->b≠a->old≠some b->b∉fs->h'.get? b=some o
 slot:∀ b o,h.get? b=some o->b≠a->old≠some b->∃ sl,h'.get? b=some { o with slots:=sl }
 it:∀ o vs,h.get? a=some o->o.data=.fields vs->∃ vs',h'.get? a=some { o with data:=.fields vs' }/\vs'[1]?=some (.ref T)
 tb:∃ oT ts,h'.get? T=some oT/\oT.data=.fields ts/\ts[3]?=some fl
 new:h.objs.size<=T
 old':∀ b o,old=some b->h.get? b=some o->∃ o',h'.get? b=some o'
section
variable {M : Model} {A : Around} {E : Value → Shared → Prop} {s : Shared} {base : Heap} {env : Env} {outer : List Env} {L a : Addr}
theorem mapF {o:Obj} {vs:Array Value} (hd:o.data=.fields vs) (f:Array Value->Array Value):Obj.mapFields f o={ o with data:=.fields (f vs) }:=by
 obtain ⟨c,d,dt,sl⟩:=o;subst hd;rfl
theorem vK {h:Heap} {b:Addr} {o:Obj} {vs:Array Value} (e:h.get? b=some o) (hd:o.data=.fields vs) (f:Array Value->Array Value):(h.update b (Obj.mapFields f)).get? b=some { o with data:=.fields (f vs) }:=by
 rw [← mapF hd];exact Heap.get?_update_self _ e (by rw [mapF hd];rfl)
theorem zbm {oe:Obj} {vs:Array Value} {head:Value} {had:Bool} {Q:Unit->Shared->Prop} (hfr:A.frames=some (env::outer)) (hl:s.heap.FunFrames base (env::outer)) (hf:env.frame=some L) (he:s.heap.get? a=some oe) (hd:oe.data=.fields vs) (hz:1<vs.size)
  (q:∀ h' T,Lf (rB (env::outer)) a none T (rawInt L) s.heap h'->Q () { s with heap:=h' }) :
  wpAny M A (frameOf env >>= fun x=>entryPlaceOf L had >>= fun pl=>EntryCells.newEntry head x .none (rawInt L) .none pl >>= fun b=>setField (.ref a) 1 b) Q E s:=by
 have na:a∉rB (env::outer):=fun z=>by
  obtain ⟨_,o,ho,no⟩:=hl.mem z;rw [he] at ho;cases ho;exact no vs hd
 refine wpAny_bind (wpAny_frameOf_fun hfr hl hf fun h1 s1=>wpAny_bind (wpAny_entryPlaceOf fun pl hp=>?_));unfold EntryCells.newEntry newFields;refine wpAny_bind (wpAny_newObj_type ?_ (hp.sizeOk5 _ _ _ _ _));have e1:h1.get? a=some oe:=(s1.2.1 a na).trans he;have lt:a<h1.objs.size:=Heap.lt_size e1;refine wpAny_setField (Heap.get?_push_of_some _ e1) hd hz (q _ h1.objs.size ⟨fun b o eb n1 _ n2=>?_,fun b o eb n1 _=>?_,fun o ws eo ew=>?_,?_,by rw [s1.1];exact zzR _,fun b o z=>by cases z⟩)
 .rw [Heap.get?_update_other _ _ (Ne.symm n1)];exact Heap.get?_push_of_some _ ((s1.2.1 b n2).trans eb)
 .obtain ⟨sl,es⟩:=s1.2.2 b o eb;exact ⟨sl,by rw [Heap.get?_update_other _ _ (Ne.symm n1)];exact Heap.get?_push_of_some _ es⟩
 .rw [he] at eo;cases eo;rw [hd] at ew;cases ew;exact ⟨_,vK (Heap.get?_push_of_some _ e1) hd _,by simp [hz]⟩
 .refine ⟨_,_,(Heap.get?_update_other _ _ (Nat.ne_of_lt lt)).trans (Heap.get?_push_size h1 rfl),rfl,?_⟩
  first|(simp;done)|(rcases hp with rfl|⟨_,_,_,_,_,_,_,rfl⟩<;>simp)
theorem zcB {oe:Obj} {vs:Array Value} {Q:Unit->Shared->Prop} (hfr:A.frames=some (env::outer)) (hl:s.heap.FunFrames base (env::outer)) (hf:env.frame=some L) (he:s.heap.get? a=some oe) (hd:oe.data=.fields vs) (h1:vs[1]?=some .none)
  (q:∀ h' T,Lf (rB (env::outer)) a none T (rawInt L) s.heap h'->Q () { s with heap:=h' }):wpAny M A (noteFrame (.ref a) env) Q E s:=by
 unfold noteFrame;simp only [hf];refine wpAny_bind (wpAny_field he hd h1 ?_);rw [if_neg (by decide)];exact zbm hfr hl hf he hd (Array.getElem?_eq_some_iff.mp h1).1 q
structure Trc (h:Heap) (a T:Addr):Prop where
 it:∃ o vs,h.get? a=some o/\o.data=.fields vs/\vs[1]?=some (.ref T)
 ne:T≠a
 tb:∃ o ts,h.get? T=some o/\o.data=.fields ts/\ts[3]?=some .none
structure TrcA (h:Heap) (a T:Addr):Prop where
 it:∃ o vs,h.get? a=some o/\o.data=.fields vs/\vs[1]?=some (.ref T)
 ne:T≠a
 tb:∃ o ts,h.get? T=some o/\o.data=.fields ts/\3<ts.size
theorem Trc.any {h:Heap} {T:Addr} (t:Trc h a T):TrcA h a T:=by
 obtain ⟨o,ts,e,d,h3⟩:=t.tb;exact ⟨t.it,t.ne,o,ts,e,d,(Array.getElem?_eq_some_iff.mp h3).1⟩
theorem hG {T0:Addr} {Q:Unit->Shared->Prop} (hfr:A.frames=some (env::outer)) (hl:s.heap.FunFrames base (env::outer)) (hf:env.frame=some L) (t:TrcA s.heap a T0) (q0:¬ (∃ o ts,s.heap.get? T0=some o/\o.data=.fields ts/\ts[3]?=some .none)->Q () s)
  (q:∀ h' T,Lf (rB (env::outer)) a (some T0) T (rawInt L) s.heap h'->Q () { s with heap:=h' }):wpAny M A (noteFrame (.ref a) env) Q E s:=by
 obtain ⟨oe,vs,he,hd,h1⟩:=t.it;obtain ⟨oT,ts,hT,dT,z3⟩:=t.tb;have h3:ts[3]?=some ts[3]:=Array.getElem?_eq_getElem z3
 have nT:T0∉rB (env::outer):=fun z=>by
  obtain ⟨_,o,ho,no⟩:=hl.mem z;rw [hT] at ho;cases ho;exact no ts dT
 unfold noteFrame;simp only [hf];refine wpAny_bind (wpAny_field he hd h1 ?_);rw [if_pos (show (Value.ref T0 != Value.none)=true by simp)];refine wpAny_bind (wpAny_field hT dT h3 ?_)
 by_cases hz:(ts[3]==rawInt L)=true
 .rw [if_pos hz];refine wpAny_pure (q0 fun z=>?_);obtain ⟨o,us,e1,e2,e3⟩:=z;rw [hT] at e1;cases e1;rw [dT] at e2;cases e2;rw [h3] at e3;rw [Option.some.inj e3] at hz;simp [rawInt] at hz
 rw [if_neg hz];refine wpAny_bind (wpAny_setField hT dT z3 ?_);have off:∀ {b:Addr} {o:Obj},b≠T0->s.heap.get? b=some o->(s.heap.update T0 (Obj.mapFields (·.setIfInBounds 3 Value.none))).get? b=some o:=fun n e=>(Heap.get?_update_other _ _ (Ne.symm n)).trans e
 have nf:∀ b o,s.heap.get? b=some o->(∀ vs,o.data≠.fields vs)->b≠T0:=fun b o e no z=>by
  rw [z,hT] at e;cases e;exact no ts dT
 refine zbm (base:=base) (a:=a) (oe:=oe) (s:={ s with heap:=s.heap.update T0 (Obj.mapFields (·.setIfInBounds 3 Value.none)) }) hfr (hl.of_keeps fun b o e no=>⟨o,off (nf b o e no) e,rfl⟩) hf (off t.ne.symm he) hd (Array.getElem?_eq_some_iff.mp h1).1 fun h' T x=>q h' T ?_;refine ⟨fun b o e n1 n2 n3=>x.keep b o (off (fun z=>n2 (by rw [z])) e) n1 (by simp) n3,fun b o e n1 n2=>x.slot b o (off (fun z=>n2 (by rw [z])) e) n1 (by simp),fun o ws e ew=>?_,x.tb,?_,fun b o eb e=>?_⟩
 .exact x.it o ws (off t.ne.symm e) ew
 .have:=x.new
  rwa [Heap.size_after_update] at this
 .cases eb;obtain ⟨sl,es⟩:=x.slot T0 _ (vK hT dT _) t.ne (by simp);exact ⟨_,es⟩
theorem zav {T0:Addr} {Q:Unit->Shared->Prop} (hfr:A.frames=some (env::outer)) (hl:s.heap.FunFrames base (env::outer)) (hf:env.frame=some L) (t:Trc s.heap a T0)
  (q:∀ h' T,Lf (rB (env::outer)) a (some T0) T (rawInt L) s.heap h'->Q () { s with heap:=h' }):wpAny M A (noteFrame (.ref a) env) Q E s:=hG hfr hl hf t.any (fun z=>absurd t.tb z) q
theorem uG {fs:List Addr} {old:Option Addr} {T:Addr} {fl:Value} {h0:Heap} {Q:Unit->Shared->Prop} (x:Lf fs a old T fl h0 s.heap) (he:∃ o vs,h0.get? a=some o/\o.data=.fields vs) (q:∀ h',Lf fs a old T .none h0 h'->Q () { s with heap:=h' }):wpAny M A (setFlight (.ref a) none) Q E s:=by
 obtain ⟨o,vs,he,hd⟩:=he;obtain ⟨vs',e1,h1⟩:=x.it o vs he hd;obtain ⟨oT,ts,eT,dT,h3⟩:=x.tb;have z3:3<ts.size:=(Array.getElem?_eq_some_iff.mp h3).1;have off:∀ {b:Addr} {o:Obj},h0.get? b=some o->∀ {u:Obj},s.heap.get? b=some u->(s.heap.update T (Obj.mapFields (·.setIfInBounds 3 Value.none))).get? b=some u:=fun e u r=>(Heap.get?_update_other _ _ (Ne.symm (Nat.ne_of_lt (Nat.lt_of_lt_of_le (Heap.lt_size e) x.new)))).trans r;unfold setFlight;refine wpAny_bind (wpAny_field e1 rfl h1 ?_);rw [if_pos (show (Value.ref T != Value.none)=true by simp)];refine wpAny_setField eT dT z3 (q _ ⟨fun b o e n1 n2 n3=>off e (x.keep b o e n1 n2 n3),fun b o e n1 n2=>?_,fun o ws e ew=>?_,⟨_,_,vK eT dT _,rfl,by simp [z3]⟩,x.new,fun b o eb e=>?_⟩)
 .obtain ⟨sl,r⟩:=x.slot b o e n1 n2;exact ⟨sl,off e r⟩
 .obtain ⟨ws',r,r1⟩:=x.it o ws e ew;exact ⟨ws',off e r,r1⟩
 .obtain ⟨o',r⟩:=x.old' b o eb e;exact ⟨o',off e r⟩
theorem zaH {T:Addr} {fr:Option Addr} {Q:Unit->Shared->Prop} (t:TrcA s.heap a T) (q:∀ h',TrcA h' a T->Heap.SameBut T s.heap h'->(fr=none->Trc h' a T)->Q () { s with heap:=h' }):wpAny M A (setFlight (.ref a) fr) Q E s:=by
 obtain ⟨o,vs,he,hd,h1⟩:=t.it;obtain ⟨oT,ts,eT,dT,z3⟩:=t.tb;unfold setFlight;refine wpAny_bind (wpAny_field he hd h1 ?_);rw [if_pos (show (Value.ref T != Value.none)=true by simp)];refine wpAny_setField eT dT z3 (q _ ⟨⟨o,vs,(Heap.get?_update_other _ _ t.ne).trans he,hd,h1⟩,t.ne,_,_,vK eT dT _,rfl,by simp [z3]⟩ (Heap.SameBut.update ..) fun e=>⟨⟨o,vs,(Heap.get?_update_other _ _ t.ne).trans he,hd,h1⟩,t.ne,_,_,vK eT dT _,rfl,by subst e;simp [z3]⟩)
theorem Lf.trc {fs:List Addr} {old:Option Addr} {T:Addr} {h h':Heap} (x:Lf fs a old T .none h h') (he:∃ o vs,h.get? a=some o/\o.data=.fields vs):Trc h' a T:=by
 obtain ⟨o,vs,he,hd⟩:=he;obtain ⟨vs',e1,h1⟩:=x.it o vs he hd;exact ⟨⟨_,vs',e1,rfl,h1⟩,Nat.ne_of_gt (Nat.lt_of_lt_of_le (Heap.lt_size he) x.new),x.tb⟩
theorem zcP {oe:Obj} {vs:Array Value} {Q:Unit->Shared->Prop} (hfr:A.frames=some (env::outer)) (hl:s.heap.FunFrames base (env::outer)) (hf:env.frame=some L) (he:s.heap.get? a=some oe) (hd:oe.data=.fields vs) (h1:vs[1]?=some .none)
  (q:∀ h' T,Lf (rB (env::outer)) a none T .none s.heap h'->Q () { s with heap:=h' }):wpAny M A (leaving env (.ref a)) Q E s:=by
 unfold leaving;exact wpAny_bind (zcB hfr hl hf he hd h1 fun h' T x=>uG x ⟨oe,vs,he,hd⟩ fun h2 x2=>q h2 T x2)
theorem zeC {T0:Addr} {Q:Unit->Shared->Prop} (hfr:A.frames=some (env::outer)) (hl:s.heap.FunFrames base (env::outer)) (hf:env.frame=some L) (t:Trc s.heap a T0)
  (q:∀ h' T,Lf (rB (env::outer)) a (some T0) T .none s.heap h'->Q () { s with heap:=h' }):wpAny M A (leaving env (.ref a)) Q E s:=by
 obtain ⟨oe,vs,he,hd,h1⟩:=t.it;unfold leaving;exact wpAny_bind (zav hfr hl hf t fun h' T x=>uG x ⟨oe,vs,he,hd⟩ fun h2 x2=>q h2 T x2)
end
def CXr (P:Program) (w:World):CXT:=fun outer H s E e s'=>∃ (a C:Addr) (dx:Option Addr) (T:Addr) (H':Hp),e=.ref a/\s'.os=s.os/\0<s'.toks/\AllBare s'.gens/\Un (rB outer) [] H H' s.heap s'.heap/\vL P w H' s'.heap /\
 H' a=some (.ext (dL a C dx))/\Trc s'.heap a T/\s.heap.objs.size<=T/\H' T=none/\E (.ref a) none H'
section
variable {P : Program} {w : World} {fs : List Addr} {a T : Addr} {old : Option Addr} {fl : Value} {h h' : Heap} {H : Hp} {φ ψ : Heap → Prop}
theorem zcO (ok:vL P w H h) (x:Lf fs a old T fl h h') (hf:∀ b∈fs,H b=none) (ho:∀ b,old=some b->H b=none) (ha:H a=some (.ext φ)) (new:xN P w (xR H a (.ext ψ)) h' a (.ext ψ)):vL P w (xR H a (.ext ψ)) h':=fun b o e=>by
 by_cases hb:b=a
 .subst hb;rw [yD] at e;cases e;exact new
 .rw [zG hb] at e
  have kp:∀ c u,(∃ v,H c=some v)->c≠a->h.get? c=some u->h'.get? c=some u:=fun c u hc ne q=>by
   obtain ⟨v,hv⟩:=hc;refine x.keep c u q ne (fun z=>?_) fun z=>?_
   .rw [ho c z] at hv;cases hv
   .rw [hf c z] at hv;cases hv
  refine (ok b o e).stay (fun c u hc q=>?_) (fun c q=>?_) fun c xs q=>?_
  .rcases hc with rfl|hc
   .exact kp c u ⟨_,e⟩ hb q
   .exact kp c u ⟨_,hc⟩ (fun z=>by rw [z,ha] at hc;cases hc) q
  .rw [zG fun z=>by rw [z,ha] at q;cases q];exact q
  .rw [zG fun z=>by rw [z,ha] at q;cases q];exact q
end
section
variable {X : Cx} {pins : List (Addr × Obj)} {σ : L2.St} {H : Hp} {s : Shared} {a T : Addr} {old : Option Addr} {fl : Value} {h' : Heap} {φ ψ : Heap → Prop}
theorem zbV (I:Inv X pins σ H s) (x:Lf (rB X.stack) a old T fl s.heap h') (ha:H a=some (.ext φ)) (hat:∃ o vs,s.heap.get? a=some o/\o.data=.fields vs) (hold:∀ b,old=some b->X.s₀.heap.objs.size<=b):Un X.fs X.ex X.H₀ (xR H a (.ext ψ)) X.s₀.heap h':=by
 have no:∀ b o,X.s₀.heap.get? b=some o->old≠some b:=fun b o e z=>absurd (Nat.lt_of_lt_of_le (Heap.lt_size e) (hold b z)) (Nat.lt_irrefl _);have nL:∀ b o,X.s₀.heap.get? b=some o->b≠X.env.locals:=fun b o e=>Nat.ne_of_lt (Nat.lt_of_lt_of_le (Heap.lt_size e) I.ok.above);have na:∀ b,H b=none->b≠a:=fun b n z=>by rw [z,ha] at n;cases n
 refine ⟨fun b o e n hb hx=>?_,fun b o e n hb hx=>?_,fun b o e n hx=>?_,fun b o e hx=>?_,fun b xs e=>?_,fun b o u e=>?_,fun b ps e=>?_⟩
 .refine x.keep b o (I.base.keep b o e n hb hx) (na b (I.base.free b o e n hx)) (no b o e) fun z=>?_;rcases List.mem_cons.mp (I.stkSub b z) with z|z
  .exact nL b o e z
  .exact hb z
 .obtain ⟨sl,e1⟩:=I.base.slot b o e n hb hx;obtain ⟨sl',e2⟩:=x.slot b _ e1 (na b (I.base.free b o e n hx)) (no b o e);exact ⟨sl',e2⟩
 .rw [zG (na b (I.base.free b o e n hx))];exact I.base.free b o e n hx
 .obtain ⟨o',e1⟩:=I.base.there b o e hx
  by_cases hb:b=a
  .subst hb;obtain ⟨oa,vs,e3,d3⟩:=hat;obtain ⟨vs',r,_⟩:=x.it oa vs e3 d3;exact ⟨_,r⟩
  .obtain ⟨sl,r⟩:=x.slot b o' e1 hb (no b o e);exact ⟨_,r⟩
 .have e1:=I.base.tups b xs e;rw [zG fun z=>by rw [z,ha] at e1;cases e1];exact e1
 .have e1:=I.base.frzs b o u e;rw [zG fun z=>by rw [z,ha] at e1;cases e1];exact e1
 .obtain ⟨m,e1⟩:=I.base.tbls b ps e;exact ⟨m,by rw [zG fun z=>by rw [z,ha] at e1;cases e1];exact e1⟩
theorem zaC {C:Addr} {dx:Option Addr} {E:L2.XK} (I:Inv X pins σ H s) (x:Lf (rB X.stack) a old T .none s.heap h') (ha:H a=some (.ext φ)) (hat:∃ fs,s.heap.get? a=some { cls:=.ref C,dict:=dx,data:=.fields fs }) (hold:∀ b,old=some b->X.s₀.heap.objs.size<=b/\H b=none) (hex:X.ex=[]) (hE:E (.ref a) none (xR H a (.ext (dL a C dx)))) :
  CXr X.prog X.w X.outer X.H₀ X.s₀ E (.ref a) { s with heap:=h' }:=by
 obtain ⟨fs,at_⟩:=hat;obtain ⟨vs',e1,_⟩:=x.it _ fs at_ rfl;have hT:H T=none:=I.hok.fresh x.new;have nT:T≠a:=fun z=>by rw [z,ha] at hT;cases hT
 refine ⟨a,C,dx,T,_,rfl,I.os,I.tk,I.bare,by have:=zbV (ψ:=dL a C dx) I x ha ⟨_,fs,at_,rfl⟩ (fun b z=>(hold b z).1);rw [hex] at this;exact this,zcO I.hok x I.stkFree (fun b z=>(hold b z).2) ha (zdc e1),yD,x.trc ⟨_,fs,at_,rfl⟩,Nat.le_trans I.sz x.new,by rw [zG nT];exact hT,hE⟩
theorem zaT {E:L2.XK} {e:Value} {s':Shared} (I:Inv X pins σ H s) (h:CXr X.prog X.w X.stack H s E e s'):∃ (a C:Addr) (dx:Option Addr) (T:Addr) (H':Hp),e=.ref a/\Inv X pins σ H' s'/\H' a=some (.ext (dL a C dx))/\Trc s'.heap a T/\s.heap.objs.size<=T/\H' T=none/\E (.ref a) none H':=by
 obtain ⟨a,C,dx,T,H',rfl,os,tk,bare,un,hok,ha,tr,hT,nT,hE⟩:=h;obtain ⟨hh,g,d,t,os'⟩:=s';obtain rfl:os'=s.os:=os;exact ⟨a,C,dx,T,H',rfl,I.call (h':=hh) (g':=g) (d':=d) (t':=t) (ch:=[]) un hok bare (fun b z=>absurd z (by simp)) tk,ha,tr,hT,nT,hE⟩
end
section
variable {X : Cx} {pins : List (Addr × Obj)} {σ : L2.St} {H : Hp} {s : Shared}
structure Nwr (X:Cx) (pins:List (Addr×Obj)) (T:Addr):Prop where
 loc:T≠X.env.locals
 s0:X.s₀.heap.objs.size<=T
 cell:∀ x c,X.env.cells.lookup x=some c->c≠T
 pin:∀ p∈X.pn++pins,p.1≠T
theorem Inv.newer {T:Addr} (I:Inv X pins σ H s) (h:s.heap.objs.size<=T):Nwr X pins T:=by
 have lt:∀ {b:Addr} {o:Obj},s.heap.get? b=some o->b≠T:=fun e=>Nat.ne_of_lt (Nat.lt_of_lt_of_le (Heap.lt_size e) h);obtain ⟨m,⟨o,_,_,ho,_⟩,_⟩:=I.loc;refine ⟨(lt ho).symm,Nat.le_trans I.sz h,fun x c e=>?_,fun p hp=>lt (I.pin p hp).1⟩;obtain ⟨v,oc,hoc,_⟩:=I.cell x c e;exact lt hoc
theorem cx_of {a C T:Addr} {dx:Option Addr} {E:L2.XK} (I:Inv X pins σ H s) (hex:X.ex=[]) (ha:H a=some (.ext (dL a C dx))) (t:Trc s.heap a T) (h0:X.s₀.heap.objs.size<=T) (nT:H T=none) (hE:E (.ref a) none H):CXr X.prog X.w X.outer X.H₀ X.s₀ E (.ref a) s :=
 ⟨a,C,dx,T,H,rfl,I.os,I.tk,I.bare,by have:=I.base;rw [hex] at this;exact this,I.hok,ha,t,h0,nT,hE⟩
end
structure XpOk (X:Cx) (Ew:L2.St->L2.XK):Prop where
 pass:∀ pins σ H s e s',Inv X pins σ H s->CXr X.prog X.w X.stack H s (Ew σ) e s'->X.xe e s'
structure XeOk (X:Cx) (Ew:L2.St->L2.XK):Prop extends XpOk X Ew where
 raise:∀ pins σ H s a C dx,Inv X pins σ H s->H a=some (.ext (ExN a C dx))->Ew σ (.ref a) none (xR H a (.ext (dL a C dx)))->X.xe (.ref a) s
 note:∀ pins σ H s a C dx T,Inv X pins σ H s->H a=some (.ext (dL a C dx))->TrcA s.heap a T->H T=none->Nwr X pins T->Ew σ (.ref a) none H->X.xe (.ref a) s
 own:PassesOwn (model X.prog X.w) X.A X.env X.xe
theorem mW {H:Hp} {a:Addr} {o:HO} (h:H a=some o):xR H a o=H:=by
 funext b
 by_cases hb:b=a
 .rw [hb,yD,h]
 .rw [zG hb]
theorem zhR {P:Program} {w:World} {K:yS} {mg:Str->Option Value} {base:Heap} {N:List Str} {qual:Str} {scope:Scope} {f:Addr} {cd:Value} {A:Around} {outer:List Env} {s:Shared} {H:Hp} {E:L2.XK}:XeOk (fP (CXr P w) P w K mg base N qual scope f cd A outer s H E) (fun _=>E) where
 raise:=fun pins σ H1 s1 a C dx I ha hE=>by
  obtain ⟨⟨fs,at_,v0,v2,v3,v4,v5,rfl⟩,_⟩:=I.hok a _ ha;refine zcP (base:=base) (outer:=outer) I.ok.frames I.stack rfl at_ rfl rfl fun h' T x=>?_;exact zaC (X:=fP (CXr P w) P w K mg base N qual scope f cd A outer s H E) I x ha ⟨_,at_⟩ (fun b z=>by cases z) rfl hE
 pass:=fun pins σ H1 s1 e s2 I h=>by
  obtain ⟨a,C,dx,T,H2,rfl,I2,ha,tr,hT,nT,hE⟩:=zaT (X:=fP (CXr P w) P w K mg base N qual scope f cd A outer s H E) I h;obtain ⟨⟨fs,at_⟩,_⟩:=I2.hok a _ ha;refine zeC (base:=base) (outer:=outer) I2.ok.frames I2.stack rfl tr fun h' T' x=>?_;refine zaC (X:=fP (CXr P w) P w K mg base N qual scope f cd A outer s H E) I2 x ha ⟨_,at_⟩ (fun b z=>?_) rfl ?_
  .cases z;exact ⟨Nat.le_trans I.sz hT,nT⟩
  .rw [mW ha];exact hE
 note:=fun pins σ H1 s1 a C dx T I ha tr nT nw hE=>by
  refine wpAny_bind (hG (base:=base) (outer:=outer) I.ok.frames I.stack rfl tr (fun _=>?_) fun h' T' x=>?_)
  .refine zaH (fr:=none) tr fun h' _ sb t2=>?_;have I2:=I.turned (it:=T) (h':=h') (t':=s1.toks) (fun b o n e=>(sb.2 b n).trans e) nT nw.loc (.inr nw.s0) nw.cell nw.pin;exact cx_of (X:=fP (CXr P w) P w K mg base N qual scope f cd A outer s H E) I2 rfl ha (t2 rfl) nw.s0 nT hE
  .obtain ⟨⟨fs,at_⟩,_⟩:=I.hok a _ ha;refine uG (s:={ s1 with heap:=h' }) x ⟨_,fs,at_,rfl⟩ fun h2 x2=>?_;refine zaC (X:=fP (CXr P w) P w K mg base N qual scope f cd A outer s H E) (s:=s1) (h':=h2) I x2 ha ⟨_,at_⟩ (fun b z=>?_) rfl ?_
   .cases z;exact ⟨nw.s0,nT⟩
   .rw [mW ha];exact hE
 own:=PassesOwn.leaving
section
variable {M : Model} {A : Around} {E : Value → Shared → Prop} {env : Env} {s : Shared}
structure Rsd (s:Shared) (a:Addr):Prop where
 ex:∃ (C:Addr) (dx:Option Addr) (fs:Array Value) (nm qn:Str) (N:Addr) (bs up:List Value) (hd:Bool) (sn:List Str) (sub:List Value) (ab:Bool) (col:Option Bool) (dd:Option Addr) (k0 k1 k2 k3 k5:Option Value),
  s.heap.get? C=some (excClassObj nm qn C N bs up hd sn sub ab col dd k0 k1 k2 k3 k5 "ValueError.__new__")/\(Value.ref C::up).contains (.type "BaseException")=true/\s.heap.get? a=some { cls:=.ref C,dict:=dx,data:=.fields fs }/\Nw fs
theorem zcm {x:Sem Value} {Q:Flow->Shared->Prop} (hh:A.handled=none) (h:wpAny M A x (fun v s1=>∃ a,v=.ref a/\Rsd s1 a/\E (.ref a) s1) E s):wpAny M A (raiseStmt env (some x) none) Q E s:=by
 unfold raiseStmt;refine wpAny_bind (wpAny_mono h (fun v s1 h1=>?_) fun _ _ z=>z);obtain ⟨a,rfl,⟨C,dx,fs,nm,qn,N,bs,up,hd,sn,sub,ab,col,dd,k0,k1,k2,k3,k5,hC,isX,he,v0,v2,v3,v4,v5,rfl⟩,hE⟩:=h1;obtain ⟨hp,g,d,tk,os⟩:=s1
 repeat (first|with_reducible refine wpAny_loadPart_at he ?_|with_reducible refine wpAny_loadPart_at hC ?_|(with_reducible refine wpAny_isSubtype_exc hC ?_;rw [isX])|wp_step)
 exact wpAny_raiseNew_none hh hE
end
theorem zej {X:Cx} {Ew:L2.St->L2.XK} {e:Expr} {pos:Pos} {te:TE} (xo:XeOk X Ew) (hc:X.calm=true) (he:PE X e te) :
  PS X (.Raise (some e) none pos) (fun _ σ H=>te σ H fun v H2=>∃ (a C:Addr) (dx:Option Addr) (ini:Value),v=.ref a/\H2 a=some (.ext (ExN a C dx))/\XM X.K C ini/\Ew σ (.ref a) none (xR H2 a (.ext (dL a C dx)))):=by
 intro pins s σ H D I h
 have key:wpAny (model X.prog X.w) X.A (eval e X.env) (fun v s1=>∃ a,v=.ref a/\Rsd s1 a/\X.xe (.ref a) s1) X.xe s:=yF (he pins s σ H _ I h) fun u s1 z=>by
  obtain ⟨v,H1,I1,rv,a,C,dx,ini,rfl,ha,T,hE⟩:=z;obtain ⟨nm,qn,N,bs,up,hd,sn,sub,abb,col,dd,k0,k1,k2,k3,k5,lC,vN,noA,uK,isX⟩:=T.cls;obtain ⟨⟨fs,at_,nw⟩,_⟩:=I1.hok a _ ha;exact ⟨a,rv,⟨C,dx,fs,nm,qn,N,bs,up,hd,sn,sub,abb,col,dd,k0,k1,k2,k3,k5,I1.kIn _ _ lC,isX,at_,nw⟩,xo.raise pins σ H1 s1 a C dx I1 ha hE⟩
 have hh:=I.ok.hd hc;rw [arm_exec_Raise];refine wpAny_bind (wpAny_standAt (zcm hh ?_));exact wpAny_bind (wpAny_mono key (fun v s1 h1=>wpAny_bind (wpAny_standAt (wpAny_pure h1))) fun _ _ z=>z)
def bK (K:yS) (C Ct:Addr):Prop:=∃ (nm qn:Str) (N:Addr) (bs up:List Value) (hd:Bool) (sn:List Str) (sub:List Value) (ab:Bool) (col:Option Bool) (dd:Option Addr) (k0 k1 k2 k3 k5:Option Value),
 K.lookup C=some (excClassObj nm qn C N bs up hd sn sub ab col dd k0 k1 k2 k3 k5 "ValueError.__new__")/\(Value.ref C::up).contains (.ref Ct)=true
section
variable {X : Cx} {pins : List (Addr × Obj)} {σ : L2.St} {H : Hp} {s : Shared}
theorem zhb {M:Model} {A:Around} {E:Value->Shared->Prop} {i:Nat} {n:Str} {pos:Pos} {Q:Unit->Shared->Prop} (I:Inv X pins σ H s) (hN:X.N.Nodup) (hi:X.N[i]?=some n) (hk:X.env.scope.names.lookup n=some .local) (q:∀ s',Inv X pins (σ.set i none) H s'->Q () s') :
  wpAny M A (do bindName X.env n .none;unbindBehindTheSuite X.env n pos) Q E s:=by
 obtain ⟨m,hn,hl⟩:=id I.loc;have hc:(X.env.scope.kind==.class || (X.env.scope.kind==.module&&X.env.locals != X.env.globals))=false:=by rw [I.ok.kind];rfl
 refine wpAny_nameGoes_keeps hk hn hc fun h' v hn' hs=>q _ ?_;have low:∀ {b:Addr} {o:Obj},X.s₀.heap.get? b=some o->h'.get? b=s.heap.get? b:=fun e=>hs.2 _ (Nat.ne_of_lt (Nat.lt_of_lt_of_le (Heap.lt_size e) I.ok.above));have li:i<σ.length:=by rw [I.len];exact (List.getElem?_eq_some_iff.mp hi).1
 have cl:∀ y c,X.env.cells.lookup y=some c->∀ w,s.heap.IsCell c w->h'.IsCell c w:=fun y c e w z=>z.sameBut hs (I.cne y c e);refine ⟨I.ok,I.os,I.bare,?_,⟨_,hn',?_⟩,?_,I.free,I.freeC,?_,?_,by simpa using I.len,Nat.succ_pos _⟩
 .refine ⟨?_,?_,I.base.free,?_,I.base.tups,I.base.frzs,I.base.tbls⟩
  .intro b o e f n1 n2;rw [low e];exact I.base.keep b o e f n1 n2
  .intro b o e f n1 n2;rw [low e];exact I.base.slot b o e f n1 n2
  .intro b o e n2;rw [low e];exact I.base.there b o e n2
 .intro j y w e1 e2 e3
  have ne:j≠i:=fun z=>by
   rw [z,List.getElem?_set_self li] at e2;cases e2
  rw [List.getElem?_set_ne (Ne.symm ne)] at e2;obtain ⟨u,r,k⟩:=hl j y w e1 e2 e3;refine ⟨u,r,?_⟩;rcases k with ⟨k1,k2⟩|⟨k1,c,k2,k3⟩
  .have yn:y≠n:=fun z=>ne (gX hN e1 (z▸hi));exact .inl ⟨k1,by simp [yn,k2]⟩
  .exact .inr ⟨k1,c,k2,cl y c k2 _ k3⟩
 .intro y c e;obtain ⟨w,z⟩:=I.cell y c e;exact ⟨w,cl y c e w z⟩
 .intro p hp;obtain ⟨p1,p2,p3,p4,p5⟩:=I.pin p hp;exact ⟨by rw [hs.2 p.1 p3];exact p1,p2,p3,p4,p5⟩
 .intro b ob e;refine (I.hok b ob e).stay (fun c u hc r=>?_) (fun _ z=>z) fun _ _ z=>z;rw [hs.2 c fun z=>?_]
  .exact r
  .rcases hc with hc|hc
   .rw [← hc,z,I.free] at e;cases e
   .rw [z,I.free] at hc;cases hc
theorem zhg {M:Model} {A:Around} {E:Value->Shared->Prop} {a T:Addr} {Q:Unit->Shared->Prop} (I:Inv X pins σ H s) (t:Trc s.heap a T) (nT:H T=none) (nw:Nwr X pins T) (q:∀ s',Inv X pins σ H s'->Q () s'):wpAny M A (setFlight (.ref a) none) Q E s:=by
 obtain ⟨o,vs,he,hd,h1⟩:=t.it;obtain ⟨oT,ts,eT,dT,h3⟩:=t.tb;unfold setFlight;refine wpAny_bind (wpAny_field he hd h1 ?_);rw [if_pos (show (Value.ref T != Value.none)=true by simp)];refine wpAny_setField eT dT (Array.getElem?_eq_some_iff.mp h3).1 (q _ ?_);exact I.turned (it:=T) (t':=s.toks) (fun b o n e=>(Heap.get?_update_other _ _ (Ne.symm n)).trans e) nT nw.loc (.inr nw.s0) nw.cell nw.pin
end
section
variable {M : Model} {A : Around} {E : Value → Shared → Prop} {s : Shared}
theorem zcJ {K:yS} {a C Ct:Addr} {ini:Value} {oe:Obj} {Q:Bool->Shared->Prop} (hK:K.In s.heap) (sb:bK K C Ct) (T:XM K Ct ini) (he:s.heap.get? a=some oe) (hc:oe.cls=.ref C) (q:Q true s):wpAny M A (excMatches (.ref a) (.ref Ct)) Q E s:=by
 obtain ⟨nm,qn,N,bs,up,hd,sn,sub,ab,col,dd,k0,k1,k2,k3,k5,lC,hin⟩:=sb;obtain ⟨nm',qn',N',bs',up',hd',sn',sub',ab',col',dd',k0',k1',k2',k3',k5',lT,_,_,_,isX⟩:=T.cls;have hC:=hK _ _ lC;have hT:=hK _ _ lT;have f:=tc_notTuple;obtain ⟨hp,g,d,tk,os⟩:=s;unfold excMatches
 repeat (first|(with_reducible refine wpAny_loadPart_at he ?_;rw [hc])|with_reducible refine wpAny_loadPart_at hT ?_|(with_reducible refine wpAny_isSubtype_exc hT ?_;rw [isX])|(with_reducible refine wpAny_isSubtype_exc hC ?_;rw [hin])|wp_step)
 exact q
end
def wTry (K:yS) (Ct:Addr) (i j:Nat) (D:Ends):L2.St->L2.XK:=fun σ e _ H=>∃ (a C:Addr) (dx:Option Addr),e=.ref a/\H a=some (.ext (dL a C dx))/\bK K C Ct/\D.nx (((σ.set i (some (.ref a))).set j (some (.ref a))).set i none) H
section
variable {X : Cx} {Ct : Addr} {ini : Value} {n y tn : Str} {i j : Nat} {tp np yp ap hp pos : Pos}
theorem Inv.held {X':Cx} {pins pins':List (Addr×Obj)} {σ:L2.St} {H:Hp} {s:Shared} (I:Inv X pins σ H s) (ok:X'.Ok) (e:X'={ X with A:=X'.A,calm:=X'.calm,pn:=X'.pn,xe:=X'.xe }) (hp:∀ p∈X'.pn++pins',p∈X.pn++pins):Inv X' pins' σ H s:=by
 obtain ⟨a1,a2,a3,a4,a5,a6,a7,a8,a9,a10,a11,a12,a13,a14,a15,a16,a17⟩:=X'
 injection e
 subst_vars
 exact ⟨ok,I.os,I.bare,I.base,I.loc,I.cell,I.free,I.freeC,fun p h=>I.pin p (hp p h),I.hok,I.len,I.tk⟩
theorem cA {pins:List (Addr×Obj)} {σ:L2.St} {H:Hp} {s:Shared} {D:Ends} {a C T:Addr} {dx:Option Addr} (hN:X.N.Nodup) (hi:X.N[i]?=some n) (hj:X.N[j]?=some y) (ln:X.env.scope.names.lookup n=some .local) (ly:X.env.scope.names.lookup y=some .local) (nd:(n==("__debug__" : Str))=false) (nc:(n==("__classdict__" : Str))=false)
  (gT:Gl X tn) (mT:X.mg tn=some (.ref Ct)) (dT:(tn==("__debug__" : Str))=false) (TT:XM X.K Ct ini) (I:Inv X pins σ H s) (ha:H a=some (.ext (dL a C dx))) (sb:bK X.K C Ct) (t:Trc s.heap a T) (nT:H T=none) (nw:Nwr X pins T)
  (q:D.nx (((σ.set i (some (.ref a))).set j (some (.ref a))).set i none) H) :
  wpAny (model X.prog X.w) X.A (handleBy (.ref a) X.env [.ExceptHandler (some (.Name tn tp)) (some n) [.Assign [.Name y yp] (.Name n np) ap] hp]) (SP X pins D) X.xe s:=by
 refine wpAny_handleBy_cons (codeAny_handlers_test ?_) (by intro z;cases z)
 let XM':Cx:={ X with A:=X.A.mark (some (.ref a)),calm:=false,xe:=fun _ _=>False }
 have okM:XM'.Ok:={ I.ok with hd:=fun z=>by cases z };have IM:Inv XM' pins σ H s:=Inv.held I okM rfl fun p h=>h;refine qL (X:=XM') IM gT mT ?_ dT;obtain ⟨⟨fs,at_⟩,_⟩:=I.hok a _ ha;refine zcJ I.kIn sb TT at_ rfl ?_;refine codeAny_handlers_suite_as ?_;refine zhg (X:=XM') IM t nT ⟨nw.loc,nw.s0,nw.cell,nw.pin⟩ fun s1 I1=>?_;refine mM (X:=XM') I1 hN hi (.inl ln) (v:=.ref a) rfl (fun s2 I2=>?_) (.inr ln);have hiσ:i<σ.length:=by rw [I.len];exact (List.getElem?_eq_some_iff.mp hi).1
 have ps:dM XM' [.Assign [.Name y yp] (.Name n np) ap] _:=zgs (za6 (X:=XM') (i:=j) hN hj (.inl ly) (zfq (i:=i) hi (.inl ln) nd nc) (jT rfl) (.inr ly));refine wpAny_mono (ps pins s2 _ H { nx:=fun σ' H'=>σ'=((σ.set i (some (.ref a))).set j (some (.ref a)))/\H'=H,rt:=fun _ _=>False } I2 ?_) (fun f s3 h3=>?_) fun _ _ z=>z.elim
 .exact ⟨.ref a,by rw [List.getElem?_set_self hiσ],rfl,rfl⟩
 .cases f with
  |next =>
   obtain ⟨σ',H',I3,rfl,rfl⟩:=h3;have I4:Inv X pins _ _ s3:=Inv.held (X:=XM') I3 I.ok rfl fun p h=>h;exact zhb I4 hN hi ln fun s4 I5=>⟨_,_,I5,q⟩
  |ret u=>obtain ⟨_,_,_,_,_,z⟩:=h3;exact z.elim
  |brk=>obtain ⟨_,_,_,z⟩:=h3;exact z.elim
  |cont=>obtain ⟨_,_,_,z⟩:=h3;exact z.elim
abbrev tryX (X:Cx) (pins:List (Addr×Obj)) (D:Ends) (hs:List ExceptHandler):Value->Shared->Prop:=fun e s1=>wpAny (model X.prog X.w) X.A (noteFrame e X.env) (fun _ s2=>wpAny (model X.prog X.w) X.A (setFlight e none) (fun _ s3=>wpAny (model X.prog X.w) X.A (handleBy e X.env hs) (SP X pins D) X.xe s3) X.xe s2) X.xe s1
abbrev tryC (X:Cx) (pins:List (Addr×Obj)) (D:Ends) (hs:List ExceptHandler):Cx:={ X with pn:=X.pn++pins,xe:=tryX X pins D hs }
theorem zhQ {pins:List (Addr×Obj)} {D:Ends} (hk:X.stack=X.env::X.outer/\X.env.frame=some X.env.locals) (hN:X.N.Nodup) (hi:X.N[i]?=some n) (hj:X.N[j]?=some y) (ln:X.env.scope.names.lookup n=some .local) (ly:X.env.scope.names.lookup y=some .local) (nd:(n==("__debug__" : Str))=false) (nc:(n==("__classdict__" : Str))=false)
  (gT:Gl X tn) (mT:X.mg tn=some (.ref Ct)) (dT:(tn==("__debug__" : Str))=false) (TT:XM X.K Ct ini) :
  XeOk (tryC X pins D [.ExceptHandler (some (.Name tn tp)) (some n) [.Assign [.Name y yp] (.Name n np) ap] hp]) (wTry X.K Ct i j D):=by
 have go:∀ {pins':List (Addr×Obj)} {σ:L2.St} {H:Hp} {s:Shared} {a C T:Addr} {dx:Option Addr} {old:Option Addr} {h':Heap} {φ:Heap->Prop},Inv X pins σ H s->H a=some (.ext φ)->(∃ fs,s.heap.get? a=some { cls:=.ref C,dict:=dx,data:=.fields fs })->(∀ b,old=some b->Nwr X pins b/\H b=none)->Lf (rB X.stack) a old T (rawInt X.env.locals) s.heap h'->wTry X.K Ct i j D σ (.ref a) none (xR H a (.ext (dL a C dx))) ->
   wpAny (model X.prog X.w) X.A (setFlight (.ref a) none) (fun _ s3=>wpAny (model X.prog X.w) X.A (handleBy (.ref a) X.env [.ExceptHandler (some (.Name tn tp)) (some n) [.Assign [.Name y yp] (.Name n np) ap] hp]) (SP X pins D) X.xe s3) X.xe { s with heap:=h' }:=by
  intro pins' σ H s a C T dx old h' φ I ha hat hold x hE;obtain ⟨fs,at_⟩:=hat;refine uG (s:={ s with heap:=h' }) x ⟨_,fs,at_,rfl⟩ fun h2 x2=>?_;obtain ⟨vs',e1,_⟩:=x2.it _ fs at_ rfl;have hT:H T=none:=I.hok.fresh x2.new;have nT:T≠a:=fun z=>by rw [z,ha] at hT;cases hT
  have un:Un (rB X.stack) old.toList H (xR H a (.ext (dL a C dx))) s.heap h2:=by
   have na:∀ b,H b=none->b≠a:=fun b n z=>by rw [z,ha] at n;cases n
   have no:∀ b,b∉old.toList->old≠some b:=fun b z e=>z (by rw [e];simp);refine ⟨fun b o e n hb hx=>x2.keep b o e (na b n) (no b hx) hb,fun b o e n hb hx=>x2.slot b o e (na b n) (no b hx),fun b o e n _=>by rw [zG (na b n)];exact n,fun b o e hx=>?_,fun b xs e=>?_,fun b o u e=>?_,fun b ps e=>⟨#[],?_⟩⟩
   .by_cases hb:b=a
    .subst hb;exact ⟨_,e1⟩
    .obtain ⟨sl,r⟩:=x2.slot b o e hb (no b hx);exact ⟨_,r⟩
   .rw [zG fun z=>by rw [z,ha] at e;cases e];exact e
   .rw [zG fun z=>by rw [z,ha] at e;cases e];exact e
   .have nb:b≠a:=fun z=>by rw [z,ha] at e;cases e
    rw [zG nb,e];simp
  have I2:=I.call (h':=h2) (g':=s.gens) (d':=s.drawn) (t':=s.toks) (ch:=old.toList) un (zcO I.hok x2 I.stkFree (fun b z=>(hold b z).2) ha (zdc e1)) I.bare (fun b z=>by
   have z:old=some b:=by simpa using z
   have w:=(hold b z).1;exact ⟨.inr w.s0,w.loc,w.cell,w.pin⟩)
  obtain ⟨a',C',dx',ea,ha',sb,q⟩:=hE;cases ea;rw [yD] at ha'
  have cc:C'=C/\dx'=dx:=by
   have z:dL a C dx=dL a C' dx':=by injection ha' with ha';injection ha'
   have w:dL a C' dx' h2:=by rw [← z];exact ⟨vs',e1⟩
   obtain ⟨fs',w⟩:=w;rw [e1] at w
   injection w with w
   injection w with w1 w2
   injection w1 with w1
   exact ⟨w1.symm,w2.symm⟩
  obtain ⟨rfl,rfl⟩:=cc;exact cA hN hi hj ln ly nd nc gT mT dT TT I2 yD sb (x2.trc ⟨_,fs,at_,rfl⟩) (by rw [zG nT];exact hT) (Inv.newer I x2.new) q
 refine ⟨⟨fun pins' σ H s e s' I h=>?_⟩,fun pins' σ H s a C dx I ha hE=>?_,fun pins' σ H s a C dx T I ha tr nT nw hE=>?_,PassesOwn.looking⟩
 .obtain ⟨a,C,dx,T,H2,rfl,I2,ha,tr,hT,nT,hE⟩:=zaT (X:=tryC X pins D _) I h;have I0:Inv X pins σ H s:=Inv.held (X:=tryC X pins D _) I { I.ok with } rfl fun p hp=>List.mem_append_left _ hp;have I3:Inv X pins σ H2 s':=Inv.held (X:=tryC X pins D _) I2 { I.ok with } rfl fun p hp=>List.mem_append_left _ hp;obtain ⟨⟨fs,at_⟩,_⟩:=I2.hok a _ ha;have fr:=I3.ok.frames;have st:=I3.stack;rw [hk.1] at fr st;refine zav (base:=X.base) (outer:=X.outer) fr st hk.2 tr fun h' T' x=>?_;rw [← hk.1] at x;refine go (pins':=pins') I3 ha ⟨_,at_⟩ (fun b z=>?_) x (by rw [mW ha];exact hE);cases z;exact ⟨Inv.newer I0 hT,nT⟩
 .have I0:Inv X pins σ H s:=Inv.held (X:=tryC X pins D _) I { I.ok with } rfl fun p hp=>List.mem_append_left _ hp;obtain ⟨⟨fs,at_,v0,v2,v3,v4,v5,rfl⟩,_⟩:=I.hok a _ ha;have fr:=I0.ok.frames;have st:=I0.stack;rw [hk.1] at fr st;refine zcB (base:=X.base) (outer:=X.outer) fr st hk.2 at_ rfl rfl fun h' T x=>?_;rw [← hk.1] at x;exact go (pins':=pins') I0 ha ⟨_,at_⟩ (fun b z=>by cases z) x hE
 .have I0:Inv X pins σ H s:=Inv.held (X:=tryC X pins D _) I { I.ok with } rfl fun p hp=>List.mem_append_left _ hp;have nw0:Nwr X pins T:=⟨nw.loc,nw.s0,nw.cell,fun p hp=>nw.pin p (List.mem_append_left _ hp)⟩;obtain ⟨⟨fs,at_⟩,_⟩:=I0.hok a _ ha;have fr:=I0.ok.frames;have st:=I0.stack;rw [hk.1] at fr st;refine hG (base:=X.base) (outer:=X.outer) fr st hk.2 tr (fun _=>?_) fun h' T' x=>?_
  .refine zaH (fr:=none) tr fun h' _ sb t2=>?_;have I2:=I0.turned (it:=T) (h':=h') (t':=s.toks) (fun b o n e=>(sb.2 b n).trans e) nT nw0.loc (.inr nw0.s0) nw0.cell nw0.pin;obtain ⟨a',C',dx',ea,ha',sb',q⟩:=hE;cases ea;exact cA hN hi hj ln ly nd nc gT mT dT TT I2 ha' sb' (t2 rfl) nT nw0 q
  .rw [← hk.1] at x;refine go (pins':=pins') I0 ha ⟨_,at_⟩ (fun b z=>?_) x (by rw [mW ha];exact hE);cases z;exact ⟨nw0,nT⟩
theorem ziE {bs:List Stmt} {tb:(L2.St->L2.XK)->TS} (hk:X.stack=X.env::X.outer/\X.env.frame=some X.env.locals) (hN:X.N.Nodup) (hi:X.N[i]?=some n) (hj:X.N[j]?=some y) (ln:X.env.scope.names.lookup n=some .local) (ly:X.env.scope.names.lookup y=some .local) (nd:(n==("__debug__" : Str))=false) (nc:(n==("__classdict__" : Str))=false)
  (gT:Gl X tn) (mT:X.mg tn=some (.ref Ct)) (dT:(tn==("__debug__" : Str))=false) (TT:XM X.K Ct ini) (hb:∀ (pn:List (Addr×Obj)) (E':Value->Shared->Prop) (Ew:L2.St->L2.XK),XeOk { X with pn:=pn,xe:=E' } Ew->dM { X with pn:=pn,xe:=E' } bs (tb Ew)) :
  PS X (.Try bs [.ExceptHandler (some (.Name tn tp)) (some n) [.Assign [.Name y yp] (.Name n np) ap] hp] [] [] pos) (fun D σ H=>tb (wTry X.K Ct i j D) D σ H):=by
 intro pins s σ H D I h;have xo:=zhQ (tp:=tp) (np:=np) (yp:=yp) (ap:=ap) (hp:=hp) (pins:=pins) (D:=D) hk hN hi hj ln ly nd nc gT mT dT TT;have I0:Inv (tryC X pins D [.ExceptHandler (some (.Name tn tp)) (some n) [.Assign [.Name y yp] (.Name n np) ap] hp]) [] σ H s:=Inv.held I { I.ok with } rfl fun p hp=>by simpa using hp
 refine wpAny_Try_except (wpAny_mono (hb _ _ _ xo [] s σ H D I0 h) (fun f s1 h1=>?_) fun e s1 h1=>h1);have back:∀ {σ':L2.St} {H':Hp},Inv (tryC X pins D [.ExceptHandler (some (.Name tn tp)) (some n) [.Assign [.Name y yp] (.Name n np) ap] hp]) [] σ' H' s1->Inv X pins σ' H' s1:=fun J=>Inv.held J { J.ok with } rfl fun p hp=>by simpa using hp
 cases f with
 |next =>
  obtain ⟨σ',H',J,z⟩:=h1;exact wpAny_pure ⟨σ',H',back J,z⟩
 |ret u =>
  obtain ⟨v,σ',H',J,z⟩:=h1;exact ⟨v,σ',H',back J,z⟩
 |brk =>
  obtain ⟨σ',H',J,z⟩:=h1;exact ⟨σ',H',back J,z⟩
 |cont =>
  obtain ⟨σ',H',J,z⟩:=h1;exact ⟨σ',H',back J,z⟩
end
section
variable {X : Cx} {pins : List (Addr × Obj)} {σ : L2.St} {H2 : Hp} {s2 : Shared} {sc : Scope} {N : List Str} {C : Addr} {fp : List Addr} {Ew : L2.St → L2.XK}
theorem zdJ {Q:Value->Shared->Prop} {acc:Value} (hk:X.stack=X.env::X.outer/\X.env.frame=some X.env.locals) (xo:XeOk X Ew) (I2:Inv X pins σ H2 s2) (f2:∀ b∈fp,uN X pins H2 b) (hC:s2.heap.objs.size<=C) :
  XpOk (qX X N sc C s2 H2 fp pins (notedBy (model X.prog X.w) X.A (compEnvC sc (ocl X sc C) C X.env) fun e s'=>compPost (model X.prog X.w) X.A X.xe none Q acc C (.error e) s')) (fun _=>Ew σ):=by
 refine ⟨fun pins' σ' H s e s' I h=>?_⟩;obtain ⟨a,Ca,dx,T0,H9,rfl,I9,ha,tr,hT,nT0,hE⟩:=zaT I h;have fr:=I2.ok.frames;have st:s'.heap.FunFrames X.base X.stack:=I9.stack
 have hsub:∀ b∈rB X.stack,b<s2.heap.objs.size:=fun b hb=>by
  obtain ⟨_,o,e,_⟩:=I2.stack.mem hb;exact Heap.lt_size e
 have ltC:C<s.heap.objs.size:=I.lt;have ltC9:C<s'.heap.objs.size:=I9.lt;have nC:H9 C=none:=I9.free;have sz2:s2.heap.objs.size<=s.heap.objs.size:=I.sz;have aC:a≠C:=fun z=>by rw [z,nC] at ha;cases ha
 have T0C:T0≠C:=Nat.ne_of_gt (Nat.lt_of_lt_of_le ltC hT);obtain ⟨⟨fs,at_⟩,_⟩:=I9.hok a _ ha;rw [hk.1] at fr st;show wpAny (model X.prog X.w) X.A (noteFrame (.ref a) X.env) _ _ s';refine zav (base:=X.base) (outer:=X.outer) fr st hk.2 tr fun h' T x=>?_;rw [← hk.1] at x;obtain ⟨vs',e1,e2⟩:=x.it _ fs at_ rfl;have un:=zbV (ψ:=dL a Ca dx) I9 x ha ⟨_,fs,at_,rfl⟩ (fun b z=>by cases z;exact Nat.le_trans sz2 hT);have hok:=zcO I9.hok x I9.stkFree (fun b z=>by cases z;exact nT0) ha (zdc e1);rw [mW ha] at un hok;have nT:H9 T=none:=I9.hok.fresh x.new;have TC:T≠C:=Nat.ne_of_gt (Nat.lt_of_lt_of_le ltC9 x.new);have sT:s2.heap.objs.size<=T:=Nat.le_trans (Nat.le_trans hC (Nat.le_of_lt ltC9)) x.new
 have tA:TrcA h' a T:=by
  obtain ⟨oT,ts,eT,dT,h3⟩:=x.tb;exact ⟨⟨_,vs',e1,rfl,e2⟩,Nat.ne_of_gt (Nat.lt_of_lt_of_le (Heap.lt_size at_) x.new),oT,ts,eT,dT,(Array.getElem?_eq_some_iff.mp h3).1⟩
 obtain ⟨m,⟨oL,es,ep,hL,rL⟩,_⟩:=I9.loc;refine ⟨m,⟨oL,es,ep,x.keep C oL hL (Ne.symm aC) (fun z=>T0C (Option.some.inj z)) (fun z=>absurd (hsub C z) (Nat.not_lt.mpr hC)),rL⟩,fun h2 sb cenv ec=>?_⟩
 have tA2:TrcA h2 a T:=by
  obtain ⟨oT,ts,eT,dT,z3⟩:=tA.tb;exact ⟨⟨_,vs',(sb.2 a aC).trans e1,rfl,e2⟩,tA.ne,oT,ts,(sb.2 T TC).trans eT,dT,z3⟩
 unfold PySem.passOn;refine wpAny_bind (wpAny_field (s:={ s' with heap:=h2 }) ((sb.2 a aC).trans e1) rfl e2 ?_);rw [if_neg (by simp)];refine wpAny_bind (zaH (s:={ s' with heap:=h2 }) tA2 fun h3 tA3 sb3 _=>wpAny_throw ?_);have k3:∀ b o,b≠C->b≠T->h'.get? b=some o->h3.get? b=some o:=fun b o n1 n2 e=>(sb3.2 b n2).trans ((sb.2 b n1).trans e);have low:∀ b o,s2.heap.get? b=some o->b≠C/\b≠T:=fun b o e=>⟨Nat.ne_of_lt (Nat.lt_of_lt_of_le (Heap.lt_size e) hC),Nat.ne_of_lt (Nat.lt_of_lt_of_le (Heap.lt_size e) sT)⟩
 have I3:Inv X pins σ H9 { s' with heap:=h3 }:=by
  refine I2.call' (ch:=fp) I9.os ⟨fun b o e n hb hx=>?_,fun b o e n hb hx=>?_,un.free,fun b o e hx=>?_,un.tups,un.frzs,un.tbls⟩ (fun b u e=>?_) I9.bare (fun b hb=>?_) I9.tk
  .exact k3 b _ (low b o e).1 (low b o e).2 (un.keep b o e n hb hx)
  .obtain ⟨sl,r⟩:=un.slot b o e n hb hx;exact ⟨sl,k3 b _ (low b o e).1 (low b o e).2 r⟩
  .obtain ⟨o',r⟩:=un.there b o e hx;exact ⟨o',k3 b _ (low b o e).1 (low b o e).2 r⟩
  .have nn:∀ c v,H9 c=some v->c≠C/\c≠T:=fun c v q=>⟨fun z=>(by rw [z,nC] at q;cases q),fun z=>(by rw [z,nT] at q;cases q)⟩;refine (hok b u e).stay (fun c v hc q=>?_) (fun _ q=>q) fun _ _ q=>q
   have:c≠C/\c≠T:=by
    rcases hc with rfl|hc
    .exact nn _ _ e
    .exact nn _ _ hc
   exact k3 c v this.1 this.2 q
  .obtain ⟨q1,q2,q3,q4,q5,q6⟩:=f2 b hb;exact ⟨q4,q2,q5,q6⟩
 exact xo.note pins σ H9 _ a Ca dx T I3 ha tA3 nT (Inv.newer I2 sT) hE
theorem zjs {H:Hp} {s:Shared} {tg iter elt:Expr} {ifs:List Expr} {pos:Pos} {wi:TI} {g:TG} {tc:TT} {te:TE} {cap:L2.St->L2.St} {Q:VK} (hk:X.stack=X.env::X.outer/\X.env.frame=some X.env.locals) (xo:XeOk X Ew) (hc:X.calm=true) (hi:PI X tg iter wi) (B:BlkSc X sc) (hcap:Caps X sc N cap)
  (hg:∀ X',IsBlock X N sc X'->PG X' tg g) (ht:∀ X',IsBlock X N sc X'->PTs X' ifs tc) (he:∀ X',IsBlock X N sc X'.nox->XpOk X' (fun _=>Ew σ)->PE X' elt te) (hs:∀ x,foldedSetIterable iter X.env x=pure x) (I:Inv X pins σ H s)
  (h:wi σ H fun J H1=>tLCb J (cap σ) g tc te (fun acc H'=>∀ p,H' p=none->Q (.ref p) (xR H' p (.lst acc))) H1) :
  wpAny (model X.prog X.w) X.A (eval (.ListComp elt [⟨tg,iter,ifs,0⟩] sc pos) X.env) (EP X pins σ Q) X.xe s:=by
 rw [eval_ListComp];refine wpAny_comprehension_free (use:=none) rfl hs (tH fun x hx=>I.ok.has x (B.free x hx)) B.kind B.names (yF (hi pins s σ H _ I h) fun v s1 h1=>yF h1 fun itv s2 h2=>?_);obtain ⟨it,fp,tn,J,H2,e,I2,T,st2,f2,q⟩:=h2;subst e;obtain ⟨cl,cc⟩:=hcap σ I.len;refine zaE (RR:=fun acc C=>compPost (model X.prog X.w) X.A X.xe none (EP X pins σ Q) acc C) hc I2 T st2 f2 B cl cc hg ht (PX:=fun X'=>XpOk X' (fun _=>Ew σ)) (fun D C hC=>zdJ hk xo I2 f2 hC) he q fun D C acc H' s' m hDC hD hC off I' hn qf=>?_;refine ⟨m,hn,fun h' hk=>⟨.ref D,_,off.turned I' (by rw [zG hDC.symm];exact hC) hk,rfl,qf D hD⟩⟩
end
abbrev X3:=W->Hw->Prop
abbrev SpX:=List W->Hw->Q3->X3->Prop
structure Fx3 where
 nm:Str
 sp:SpX
structure Cl3 where
 nm:Str
 C:Addr
 f:Option Str
structure Tr3 where
 nm:Str
 C:Addr
 sub:List Addr
structure CtxX where
 fx:List Fx3
 cl:List Cl3
 tr:List Tr3
set_option genInjectivity false
mutual
inductive RT where
 |pl (s:IS)|rse (c:Nat) (es:IEs)|ite (c:IE) (a b:RTs)|whl (c:IE) (b:RTs)|for (tg:ITg) (it:II) (b:RTs)
 |asx (i f:Nat) (es:IEs)|exx (f:Nat) (es:IEs)|rtx (f:Nat) (es:IEs)|try (i j t:Nat) (b:RTs)|rtl (f:Nat) (tg:ITg) (names:List Str) (caps:List Nat) (it:II) (k:Nat) (es:IEs)
inductive RTs where
 |nil|cons (s:RT) (ss:RTs)
end
def clR (k:Cl3) (ws:List W) (Q:W->Prop):Prop:=match k.f with
 |none=>ws=[]/\Q (.exc k.C [] [])
 |some f=>∃ w,ws=[w]/\Q (.exc k.C [f] [w])
def trR (k:Tr3) (i j:Nat) (D:End3) (σ:wI) (w:W) (G:Hw):Prop:=∃ (C:Addr) (ns:List Str) (ws:List W),w=.exc C ns ws/\C∈k.sub/\D.nx (((σ.set i (some w)).set j (some w)).set i none) G
section
variable (Γ : Ctx3) (Δ : CtxX)
mutual
def yC:RT->(wI->X3)->S3
 | .pl s=>fun _=>zS Γ XN s
 | .rse c es=>fun E _ σ G=>zW Γ XN es σ G fun ws G1=>match Δ.cl[c]? with|some k=>clR k ws fun w=>E σ w G1|none=>False
 | .ite c a b=>fun E D σ G=>zP Γ XN c σ G fun k G1=>if k=true then yJ a E D σ G1 else yJ b E D σ G1
 | .whl c b=>fun E D σ G=>∃ Pv:Nat->wI->Hw->Prop,(∃ m,Pv m σ G)/\∀ m σ G,Pv m σ G->zP Γ XN c σ G fun k G1 =>
   if k=true then yJ b E { D with nx:=fun σ' G'=>∃ m',m' < m/\Pv m' σ' G',ct:=fun σ' G'=>∃ m',m' < m/\Pv m' σ' G',bk:=D.nx } σ G1 else D.nx σ G1
 | .for tg it b=>fun E D σ G=>zU Γ XN it σ G fun items stab G1=>forR items stab D σ G1 fun w D' σ' G'=>zV tg w σ' G' fun σ2 G2=>yJ b E D' σ2 G2
 | .asx i f es=>fun E D σ G=>zW Γ XN es σ G fun ws G1=>match Δ.fx[f]? with|some h=>h.sp ws G1 (fun w G2=>D.nx (σ.set i (some w)) G2) (E σ)|none=>False
 | .exx f es=>fun E D σ G=>zW Γ XN es σ G fun ws G1=>match Δ.fx[f]? with|some h=>h.sp ws G1 (fun _ G2=>D.nx σ G2) (E σ)|none=>False
 | .rtx f es=>fun E D σ G=>zW Γ XN es σ G fun ws G1=>match Δ.fx[f]? with|some h=>h.sp ws G1 D.rt (E σ)|none=>False
 | .try i j t b=>fun _ D σ G=>match Δ.tr[t]? with|some k=>yJ b (trR k i j D) D σ G|none=>False
 | .rtl f tg names caps it k es=>fun E D σ G=>zU Γ XN it σ G fun items stab G1=>lcR items stab G1 (fun w G' K=>zV tg w (pZ names.length caps σ) G' fun σ2 G2=>zW Γ XN es σ2 G2 fun ws G3=>match Δ.fx[k]? with|some h=>h.sp ws G3 (fun x G4=>K (some x) G4) (E σ)|none=>False)
   fun r G2=>match Δ.fx[f]? with|some h=>h.sp [r] G2 D.rt (E σ)|none=>False
def yJ:RTs->(wI->X3)->S3
 | .nil=>fun _ D σ G=>D.nx σ G
 | .cons s ss=>fun E D σ G=>yC s E { D with nx:=yJ ss E D } σ G
end
end
structure MX where
 fx:List Str
 cl:List Str
 tr:List Str
def pJ (M:MC) (ns:List Str) (i:Nat) (es:IEs):Expr->Bool
 | .Call (.Name x _) xs [] _=>ns[i]?==some x&&vM M.sc x&&mA es M xs
 |_=>false
def zhC (M:MC) (ns:List Str) (i j t:Nat):List ExceptHandler->Bool
 | [.ExceptHandler (some (.Name tn _)) (some n) [.Assign [.Name y _] (.Name n' _) _] _] =>
  n==n'&&M.N[i]?==some n&&M.N[j]?==some y&&M.sc.names.lookup n==some .local&&M.sc.names.lookup y==some .local&&!(n==("__debug__" : Str))&&!(n==("__classdict__" : Str))&&ns[t]?==some tn&&vM M.sc tn
 |_=>false
def lcM (M:MC) (names:List Str) (caps:List Nat) (sc:Scope):MC:={ M with sc:=relS sc M.sc,N:=names++caps.map (fun j=>M.N.getD j Str.empty),own:=fun x=>sc.names.lookup x==some .cell }
def lcB (M:MC) (tg:ITg) (names:List Str) (caps:List Nat) (it:II) (t ix:Expr) (sc:Scope):Bool:=blkB M.sc sc&&vE ix&&rO (names++caps.map (fun j=>M.N.getD j Str.empty))&&(caps.all fun j=>decide (j<M.N.length)&&(sc.names.lookup (M.N.getD j Str.empty)==some .free)) &&
 mI it M ix&&((tgIx tg).all fun i=>decide (i<names.length))&&mG (lcM M names caps sc) tg t
mutual
def mX (M:MC) (Z:MX):RT->Stmt->Bool
 | .pl s=>fun x=>mS s M x
 | .rse c es=>fun x=>match x with
  | .Raise (some e) none _=>pJ M Z.cl c es e
  |_=>false
 | .ite c a b=>fun x=>match x with
  | .If t y z _=>mE c M t&&mXs M Z a y&&mXs M Z b z
  |_=>false
 | .whl c b=>fun x=>match x with
  | .While t y [] _=>mE c M t&&mXs M Z b y
  |_=>false
 | .for tg it b=>fun x=>match x with
  | .For t y z [] _=>vE y&&mG M tg t&&mI it M y&&mXs M Z b z
  |_=>false
 | .asx i f es=>fun x=>match x with
  | .Assign [.Name y _] e _=>M.N[i]?==some y&&dQ M y&&pJ M Z.fx f es e
  |_=>false
 | .exx f es=>fun x=>match x with
  | .Expr e _=>pJ M Z.fx f es e
  |_=>false
 | .rtx f es=>fun x=>match x with
  | .Return (some e) _=>pJ M Z.fx f es e
  |_=>false
 | .try i j t b=>fun x=>match x with
  | .Try bs hs [] [] _=>zhC M Z.tr i j t hs&&mXs M Z b bs
  |_=>false
 | .rtl f tg names caps it k es=>fun x=>match x with
  | .Return (some (.Call (.Name y _) [.ListComp e [⟨t,ix,[],0⟩] sc _] [] _)) _=>Z.fx[f]?==some y&&vM M.sc y&&lcB M tg names caps it t ix sc&&pJ (lcM M names caps sc) Z.fx k es e
  |_=>false
def mXs (M:MC) (Z:MX):RTs->List Stmt->Bool
 | .nil=>fun x=>match x with | []=>true|_=>false
 | .cons s ss=>fun x=>match x with|y::ys=>mX M Z s y&&mXs M Z ss ys|_=>false
end
theorem pY {M:MC} {ns:List Str} {i:Nat} {es:IEs} {e:Expr} (h:pJ M ns i es e=true):∃ x q xs pos,e=.Call (.Name x q) xs [] pos/\ns[i]?=some x/\vM M.sc x=true/\mA es M xs=true:=by
 unfold pJ at h
 split at h
 .rename_i x q xs pos;obtain ⟨⟨h1,h2⟩,h3⟩:=bd3 h;exact ⟨x,q,xs,pos,rfl,yB h1,h2,h3⟩
 .cases h
theorem zdt {M:MC} {ns:List Str} {i j t:Nat} {hs:List ExceptHandler} (h:zhC M ns i j t hs=true):∃ tn tp n y yp np ap hp,hs=[.ExceptHandler (some (.Name tn tp)) (some n) [.Assign [.Name y yp] (.Name n np) ap] hp]/\M.N[i]?=some n/\M.N[j]?=some y/\M.sc.names.lookup n=some .local/\M.sc.names.lookup y=some .local/\(n==("__debug__" : Str))=false/\(n==("__classdict__" : Str))=false/\ns[t]?=some tn/\vM M.sc tn=true:=by
 unfold zhC at h
 split at h
 .rename_i tn tp n y yp n' np ap hp;obtain ⟨⟨⟨⟨⟨⟨⟨⟨h1,h2⟩,h3⟩,h4⟩,h5⟩,h6⟩,h7⟩,h8⟩,h9⟩:=bd9 h;cases eq_of_beq h1;exact ⟨tn,tp,n,y,yp,np,ap,hp,rfl,yB h2,yB h3,yB h4,yB h5,by simpa using h6,by simpa using h7,yB h8,h9⟩
 .cases h
def Fex (K:yS) (H:Hp) (E3:wI->X3) (Ew:L2.St->L2.XK):Prop:=∀ σ w G τ a H',yM K H H'->yV K H' σ τ->wX K H' w (.ref a)->xP K H' G->E3 σ w G->Ew τ (.ref a) none H'
theorem Fex.grow {K:yS} {H H':Hp} {E3:wI->X3} {Ew:L2.St->L2.XK} (f:Fex K H E3 Ew) (g:yM K H H'):Fex K H' E3 Ew:=fun σ w G τ a H2 g2=>f σ w G τ a H2 (g.trans g2)
def lowX (K:yS) (Ew:L2.St->L2.XK) (t:(wI->X3)->S3):TS:=fun D τ H=>∃ σ G D3 E3,yV K H σ τ/\xP K H G/\Fine K H D3 D/\Fex K H E3 Ew/\t E3 D3 σ G
section
variable {X : Cx}
theorem zi8 {es:List Expr} {t:TA} (h:PA X.nox es t):PA X es t:=fun pos pins s σ H Q I hw =>
 wpAny_mono (h pos pins s σ H Q (I.wish _) hw) (fun _ _ z=>by obtain ⟨vs,H',I',z⟩:=z;exact ⟨vs,H',I'.unwish,z⟩) fun _ _ z=>False.elim z
theorem nox_S {st:Stmt} {t:TS} (h:PS X.nox st t):PS X st t:=fun pins s σ H D I hw =>
 wpAny_mono (h pins s σ H D (I.wish _) hw) (fun _ _ q=>q.unwish) fun _ _ z=>False.elim z
theorem nox_G {tg:Expr} {t:TG} (h:PG X.nox tg t):PG X tg t:=fun pins s σ H v u Q I r hw =>
 wpAny_mono (h pins s σ H v u Q (I.wish _) r hw) (fun _ _ z=>by obtain ⟨σ',H',I',z⟩:=z;exact ⟨σ',H',I'.unwish,z⟩) fun _ _ z=>False.elim z
theorem zi7 {tg x:Expr} {t:TI} (h:PI X.nox tg x t):PI X tg x t:=fun pins s σ H R I hw =>
 wpAny_mono (h pins s σ H R (I.wish _) hw) (fun _ _ z=>wpAny_mono z (fun _ _ z=>by obtain ⟨it,fp,tn,J,H',e,I',z⟩:=z;exact ⟨it,fp,tn,J,H',e,I'.unwish,z⟩) fun _ _ z=>False.elim z) fun _ _ z=>False.elim z
end
def zjo (K:yS) (Ew:L2.St->L2.XK) (t:(wI->X3)->E3):TE:=fun τ H Q=>∃ σ G E3,yV K H σ τ/\xP K H G/\Fex K H E3 Ew/\t E3 σ G (qE K H Q)
def zcK (K:yS) (sp:SpX):Sp:=fun vs H Q E=>∃ ws G,zF K H ws vs/\xP K H G/\sp ws G (qE K H Q) (fun w G'=>∀ a H',yM K H H'->wX K H' w (.ref a)->xP K H' G'->E (.ref a) none H')
def FxE (p:Par) (f:Fx3):Prop:=∀ X Ew,Fits p X.nox->XpOk X Ew->Gl X f.nm->∀ (args:List Expr) (ta:TA) (q pos:Pos),args.all noStar=true->PA X args ta->(args=[]->∀ τ H Q,ta τ H Q->Q [] H)->(f.nm==("__debug__" : Str))=false ->
 PE X (.Call (.Name f.nm q) args [] pos) (fun τ H Q=>ta τ H fun vs H1=>zcK X.K f.sp vs H1 Q (Ew τ))
def qB (f:Fx3):Prop:=∀ ws G (Q Q':Q3) (E E':X3),(∀ w G',Q w G'->Q' w G')->(∀ w G',E w G'->E' w G')->f.sp ws G Q E->f.sp ws G Q' E'
theorem zda {p:Par} {f:Fx3} (h:FxE p f) (m:qB f) {X:Cx} {Ew:L2.St->L2.XK} (fits:Fits p X.nox) (xp:XpOk X Ew) (gl:Gl X f.nm) {args:List Expr} {t:A3} {q pos:Pos} (mt:qI t) (hn:args.all noStar=true) (pa:PA X args (uY X.K t)) (hnil:args=[]->∀ σ G Q,t σ G Q->Q [] G) (hdb:(f.nm==("__debug__" : Str))=false) :
  PE X (.Call (.Name f.nm q) args [] pos) (zjo X.K Ew fun E σ G Q=>t σ G fun ws G1=>f.sp ws G1 Q (E σ)):=by
 refine (h X Ew fits xp gl args _ q pos hn pa (fun e τ H Q z=>?_) hdb).imp fun τ H Q z=>?_
 .obtain ⟨σ,G,hs,ab,z⟩:=z;exact hnil e _ _ _ z [] H .refl rfl ab
 .obtain ⟨σ,G,E3,hs,ab,fe,z⟩:=z;exact tR mt hs ab z fun ws G1 vs H1 g1 hs1 rs a1 z=>⟨ws,G1,rs,a1,m _ _ _ _ _ _ (fun w G' z=>qE.mono g1 z) (fun w G' z a H' g' rp ab'=>fe σ w G' τ a H' (g1.trans g') (hs1.mono g') rp ab' z) z⟩
def ClE (p:Par) (k:Cl3):Prop:=∀ X Ew,Fits p X.nox->XeOk X Ew->Gl X k.nm->∀ (args:List Expr) (t:A3) (q pos cpos:Pos),qI t->args.all noStar=true->PA X args (uY X.K t)->(args=[]->∀ σ G Q,t σ G Q->Q [] G)->(k.nm==("__debug__" : Str))=false ->
 PS X (.Raise (some (.Call (.Name k.nm q) args [] cpos)) none pos) (lowX X.K Ew fun E _ σ G=>t σ G fun ws G1=>clR k ws fun w=>E σ w G1)
structure TrE (p:Par) (k:Tr3):Prop where
 mg:p.mg k.nm=some (.ref k.C)
 cls:∃ ini,XM p.K k.C ini
 sub:∀ C∈k.sub,bK p.K C k.C
structure GoodX (Δ:CtxX) (p:Par):Prop where
 fx:∀ f∈Δ.fx,FxE p f/\qB f
 cl:∀ k∈Δ.cl,ClE p k
 tr:∀ k∈Δ.tr,TrE p k
structure Lxx (Γ:Ctx3) (Δ:CtxX) (M:MC) (Z:MX) (p:Par) (X:Cx):Prop where
 lk:Lk Γ M p X.nox
 fx:Δ.fx.map (·.nm)=Z.fx
 cl:Δ.cl.map (·.nm)=Z.cl
 tr:Δ.tr.map (·.nm)=Z.tr
 hk:X.stack=X.env::X.outer/\X.env.frame=some X.env.locals
theorem Lxx.held {Γ:Ctx3} {Δ:CtxX} {M:MC} {Z:MX} {p:Par} {X:Cx} (L:Lxx Γ Δ M Z p X) (pn:List (Addr×Obj)) (E:Value->Shared->Prop):Lxx Γ Δ M Z p { X with pn:=pn,xe:=E } :=
 ⟨⟨⟨L.lk.fits.prog,L.lk.fits.w,L.lk.fits.K,L.lk.fits.mg,L.lk.fits.base,L.lk.fits.A,L.lk.fits.calm,rfl⟩,L.lk.N,L.lk.sc,L.lk.nd,L.lk.own,L.lk.kind,L.lk.fns,L.lk.gls,L.lk.mts,L.lk.its,L.lk.sxs,L.lk.ixs⟩,L.fx,L.cl,L.tr,L.hk⟩
theorem yV.unset {K:yS} {H:Hp} {σ:wI} {τ:L2.St} (h:yV K H σ τ) (i:Nat):yV K H (σ.set i none) (τ.set i none):=by
 refine ⟨by simp only [List.length_set];exact h.1,fun j w e=>?_⟩
 by_cases hj:i=j
 .subst hj
  by_cases hi:i<σ.length
  .rw [List.getElem?_set_self hi] at e;cases e
  .rw [List.getElem?_eq_none (by rw [List.length_set];omega)] at e;cases e
 .rw [List.getElem?_set_ne hj] at e;rw [List.getElem?_set_ne hj];exact h.2 j w e
theorem ex_at {K:yS} {H:Hp} {C a:Addr} {ns:List Str} {ws:List W} (h:wX K H (.exc C ns ws) (.ref a)):∃ dx,H a=some (.ext (dL a C dx)):=by
 obtain ⟨b,vs,e,x,_⟩:=h;cases e;rcases x with ⟨x,_⟩|⟨dx,x,_⟩
 .exact ⟨none,x⟩
 .exact ⟨some dx,x⟩
section
variable {Γ : Ctx3} {Δ : CtxX} {p : Par} (g : Good Γ p) (gx : GoodX Δ p)
include g
theorem sndS (s:IS):OkS Γ p s:=match s with
 | .asg i e=>zh8 g i e
 | .asgT ts e=>zfb g ts e
 | .asgI o i e=>zfd g o i e
 | .asgA o f e=>zfe g o f e
 | .ex e=>t_ex g e
 | .ret e=>zh5 g e
 | .retN=>(wC g).1
 | .pass=>(wC g).2.1
 | .brk=>(wC g).2.2.1
 | .cnt=>(wC g).2.2.2.1
 | .ite c a b=>zh6 g c a b (zca g a) (zca g b)
 | .whl c b=>zh4 g c b (zca g b)
 | .for tg it b=>zh7 g tg it b (zca g b)
 | .dead=>(wC g).2.2.2.2
 | .asgS i j e=>zfc g i j e
theorem zje {M:MC} {es:IEs} {xs:List Expr} (h:mA es M xs=true):xs=[]->∀ σ G Q,zW Γ XN es σ G Q->Q [] G:=fun e=>by
 subst e
 cases es with
 |nil=>exact fun σ G Q h=>h
 |cons a r=>cases h
def OkX (Γ:Ctx3) (Δ:CtxX) (p:Par) (s:RT):Prop:=∀ M Z X Ew x,Lxx Γ Δ M Z p X->XeOk X Ew->mX M Z s x=true->PS X x (lowX X.K Ew (yC Γ Δ s))
def OkXs (Γ:Ctx3) (Δ:CtxX) (p:Par) (s:RTs):Prop:=∀ M Z X Ew x,Lxx Γ Δ M Z p X->XeOk X Ew->mXs M Z s x=true->dM X x (lowX X.K Ew (yJ Γ Δ s))
theorem x_pl (s:IS):OkX Γ Δ p (.pl s):=fun M Z X Ew x L xo h =>
 (nox_S (sndS g s M X.nox x L.lk h)).imp fun D τ H hq=>by
  obtain ⟨σ,G,D3,E3,hs,ab,f,_,hq⟩:=hq;exact ⟨σ,G,D3,hs,ab,f,hq⟩
theorem x_ite (c:IE) (a b:RTs) (ha:OkXs Γ Δ p a) (hb:OkXs Γ Δ p b):OkX Γ Δ p (.ite c a b):=fun M Z X Ew x L xo h=>by
 cases x with
 |If t y z pos =>
  obtain ⟨⟨h1,h2⟩,h3⟩:=bd3 h;refine (ziF (PT.nox (kJ g c M X.nox t L.lk h1).2.1) (ha M Z X Ew y L xo h2) (hb M Z X Ew z L xo h3)).imp fun D τ H hq=>?_;obtain ⟨σ,G,D3,E3,hs,ab,f,fe,hq⟩:=hq;refine sE (uZ g.mono XN c) hs ab hq fun k G1 H1 g1 hs1 a1 hq=>?_
  split
  .rename_i hk;rw [if_pos hk] at hq;exact ⟨σ,G1,D3,E3,hs1,a1,f.grow g1,fe.grow g1,hq⟩
  .rename_i hk;rw [if_neg hk] at hq;exact ⟨σ,G1,D3,E3,hs1,a1,f.grow g1,fe.grow g1,hq⟩
 |_=>exact absurd h zzN
theorem x_whl (c:IE) (b:RTs) (hb:OkXs Γ Δ p b):OkX Γ Δ p (.whl c b):=fun M Z X Ew x L xo h=>by
 cases x with
 |While t y e pos =>
  cases e with
  |cons _ _=>exact absurd h zzN
  |nil =>
   obtain ⟨h1,h2⟩:=uE h;refine (za5 xo.own (PT.nox (kJ g c M X.nox t L.lk h1).2.1) (hb M Z X Ew y L xo h2)).imp fun D τ H hq=>?_;obtain ⟨σ,G,D3,E3,hs,ab,f,fe,Pv,⟨m0,p0⟩,step⟩:=hq;refine ⟨fun m τ H'=>yM X.K H H'/\∃ σ G,yV X.K H' σ τ/\xP X.K H' G/\Pv m σ G,⟨m0,.refl,σ,G,hs,ab,p0⟩,?_⟩;rintro m τ1 H1 ⟨g1,σ1,G1,hs1,a1,p1⟩;refine sE (uZ g.mono XN c) hs1 a1 (step m σ1 G1 p1) fun k G2 H2 g2 hs2 a2 hq=>?_
   split
   .rename_i hk;rw [if_pos hk] at hq;have g12:=g1.trans g2;refine ⟨fun τ' H'=>∃ m',m' < m/\yM X.K H H'/\∃ σ G,yV X.K H' σ τ'/\xP X.K H' G/\Pv m' σ G,fun τ' H' z=>z,?_⟩;refine ⟨σ1,G2,_,E3,hs2,a2,⟨?_,?_,?_,?_⟩,fe.grow g12,hq⟩
    .rintro σ3 G3 τ3 H3 g3 hs3 a3 ⟨m',hm,p'⟩;exact ⟨m',hm,g12.trans g3,σ3,G3,hs3,a3,p'⟩
    .exact fun σ3 G3 τ3 H3 g3 hs3 a3 z=>f.nx σ3 G3 τ3 H3 (g12.trans g3) hs3 a3 z
    .rintro σ3 G3 τ3 H3 g3 hs3 a3 ⟨m',hm,p'⟩;exact ⟨m',hm,g12.trans g3,σ3,G3,hs3,a3,p'⟩
    .exact fun w G3 v3 H3 g3 r3 a3 z=>f.rt w G3 v3 H3 (g12.trans g3) r3 a3 z
   .rename_i hk;rw [if_neg hk] at hq;exact f.nx σ1 G2 τ1 H2 (g1.trans g2) hs2 a2 hq
 |_=>exact absurd h zzN
theorem x_for (tg:ITg) (it:II) (b:RTs) (hb:OkXs Γ Δ p b):OkX Γ Δ p (.for tg it b):=fun M Z X Ew x L xo h=>by
 cases x with
 |For t y z e pos =>
  cases e with
  |cons _ _=>exact absurd h zzN
  |nil =>
   obtain ⟨⟨⟨h1,h2⟩,h3⟩,h4⟩:=bd4 h;refine (zfn xo.own L.lk.fits.calm (zi7 (sndI g it M X.nox y L.lk h3 t)) (nox_G (sndG L.lk tg t h2)) (hb M Z X Ew z L xo h4) (uH h1)).imp fun D τ H hq=>?_;obtain ⟨σ,G,D3,E3,hs,ab,f,fe,hq⟩:=hq;refine ⟨σ,G,hs,ab,zcH g.mono XN it σ G _ _ (fun items stab G1 hq J H1 g1 a1 ii=>?_) hq⟩;obtain ⟨Pv,p0,pst,step,fin⟩:=hq;refine ⟨fun i m τ H'=>m+i=items.length/\yM X.K H1 H'/\∃ σ G,yV X.K H' σ τ/\xP X.K H' G/\Pv i σ G,⟨items.length,rfl,.refl,σ,G1,hs.mono g1,a1,p0⟩,?_⟩;rintro i m τ2 H2 ⟨hm,g2,σ2,G2,hs2,a2,p2⟩;have st:=pst i σ2 G2 p2 (by omega)
   by_cases hi:i<items.length
   .refine .inr ⟨ii.go i H2 G2 g2 a2 st hi,fun τ' H'=>∃ m',m' < m/\(m'+(i+1)=items.length/\yM X.K H1 H'/\∃ σ G,yV X.K H' σ τ'/\xP X.K H' G/\Pv (i+1) σ G),fun τ' H' z=>z,fun x H' yl=>?_⟩;obtain ⟨w,ew,g3,rp,a3⟩:=ii.yld i H2 G2 x H' g2 a2 st hi yl;refine ⟨w,σ2,G2,rp,hs2.mono g3,a3,tW tg w σ2 G2 _ _ (fun σ4 G4 hq τ4 H4 g4 hs4 a4=>?_) (step i w σ2 G2 ew p2)⟩;have gg:=g2.trans (g3.trans g4);refine ⟨σ4,G4,_,E3,hs4,a4,⟨?_,?_,?_,?_⟩,fe.grow (g1.trans gg),hq⟩
    .exact fun σ5 G5 τ5 H5 g5 hs5 a5 z=>⟨m-1,by omega,by omega,gg.trans g5,σ5,G5,hs5,a5,z⟩
    .exact fun σ5 G5 τ5 H5 g5 hs5 a5 z=>f.nx σ5 G5 τ5 H5 (g1.trans (gg.trans g5)) hs5 a5 z
    .exact fun σ5 G5 τ5 H5 g5 hs5 a5 z=>⟨m-1,by omega,by omega,gg.trans g5,σ5,G5,hs5,a5,z⟩
    .exact fun w5 G5 v5 H5 g5 r5 a5 z=>f.rt w5 G5 v5 H5 (g1.trans (gg.trans g5)) r5 a5 z
   .have ei:i=items.length:=by omega
    subst ei;exact .inl ⟨ii.stop _ H2 G2 g2 a2 st (zzR _),f.nx σ2 G2 τ2 H2 (g1.trans g2) hs2 a2 (fin σ2 G2 p2)⟩
 |_=>exact absurd h zzN
include gx
theorem zer {M:MC} {Z:List Str} {X:Cx} {Ew:L2.St->L2.XK} {e:Expr} {f:Nat} {es:IEs} (lk:Lk Γ M p X.nox) (hZ:Δ.fx.map (·.nm)=Z) (xo:XpOk X Ew) (h:pJ M Z f es e=true):sY e=true/\∃ k∈Δ.fx,Δ.fx[f]?=some k/\PE X e (zjo X.K Ew fun E σ G Q=>zW Γ XN es σ G fun ws G1=>k.sp ws G1 Q (E σ)):=by
 obtain ⟨x,q,xs,pos,rfl,h1,h2,h3⟩:=pY h;rw [← hZ] at h1;obtain ⟨k,hk,rfl⟩:=jS h1;have hm:=List.mem_of_getElem? hk;obtain ⟨gl,d1,_⟩:=sO (X:=X) lk.sc h2;obtain ⟨a1,a2,_⟩:=sndA g es M X.nox xs lk h3;exact ⟨rfl,k,hm,hk,zda (gx.fx k hm).1 (gx.fx k hm).2 lk.fits xo gl (wG g.mono XN es) a2 (zi8 a1) (zje g h3) d1⟩
theorem x_asx (i f:Nat) (es:IEs):OkX Γ Δ p (.asx i f es):=fun M Z X Ew x L xo h=>by
 cases x with
 |Assign ts v pos =>
  cases ts with
  |nil=>exact absurd h zzN
  |cons a r =>
   cases a with
   |Name y py =>
    cases r with
    |cons _ _=>exact absurd h zzN
    |nil =>
     obtain ⟨⟨h1,h2⟩,h3⟩:=bd3 h;obtain ⟨nl,k,hm,hk,pe⟩:=zer g gx L.lk L.fx xo.toXpOk h3;have lo:=gC L.lk h2;have hN:=yB h1;rw [← L.lk.N] at hN;refine (za6 (X:=X) (i:=i) (show X.N.Nodup from L.lk.N▸L.lk.nd) hN lo.1 pe (jT nl) lo.2).imp fun D τ H hq=>?_;obtain ⟨σ,G,D3,E3,hs,ab,f3,fe,hq⟩:=hq;refine ⟨σ,G,E3,hs,ab,fe,wG g.mono XN es σ G _ _ (fun ws G1 hq=>?_) hq⟩;simp only [hk] at hq;exact (gx.fx k hm).2 _ _ _ _ _ _ (fun w G2 z v H' g' rp ab'=>f3.nx _ G2 _ H' g' ((hs.mono g').set rp i) ab' z) (fun _ _ z=>z) hq
   |_=>exact absurd h zzN
 |_=>exact absurd h zzN
theorem x_exx (f:Nat) (es:IEs):OkX Γ Δ p (.exx f es):=fun M Z X Ew x L xo h=>by
 cases x with
 |Expr v pos =>
  obtain ⟨nl,k,hm,hk,pe⟩:=zer g gx L.lk L.fx xo.toXpOk h;refine (zcr pe (jT nl)).imp fun D τ H hq=>?_;obtain ⟨σ,G,D3,E3,hs,ab,f3,fe,hq⟩:=hq;refine ⟨σ,G,E3,hs,ab,fe,wG g.mono XN es σ G _ _ (fun ws G1 hq=>?_) hq⟩;simp only [hk] at hq;exact (gx.fx k hm).2 _ _ _ _ _ _ (fun w G2 z v H' g' rp ab'=>f3.nx _ G2 _ H' g' (hs.mono g') ab' z) (fun _ _ z=>z) hq
 |_=>exact absurd h zzN
theorem x_rtx (f:Nat) (es:IEs):OkX Γ Δ p (.rtx f es):=fun M Z X Ew x L xo h=>by
 cases x with
 |Return v pos =>
  cases v with
  |none=>exact absurd h zzN
  |some v =>
   obtain ⟨nl,k,hm,hk,pe⟩:=zer g gx L.lk L.fx xo.toXpOk h;refine (zcq pe).imp fun D τ H hq=>?_;obtain ⟨σ,G,D3,E3,hs,ab,f3,fe,hq⟩:=hq;refine ⟨σ,G,E3,hs,ab,fe,wG g.mono XN es σ G _ _ (fun ws G1 hq=>?_) hq⟩;simp only [hk] at hq;exact (gx.fx k hm).2 _ _ _ _ _ _ (fun w G2 z v H' g' rp ab'=>f3.rt w G2 v H' g' rp ab' z) (fun _ _ z=>z) hq
 |_=>exact absurd h zzN
theorem x_rse (c:Nat) (es:IEs):OkX Γ Δ p (.rse c es):=fun M Z X Ew x L xo h=>by
 cases x with
 |Raise e from_ pos =>
  match e,from_,h with
  |some e,none,h =>
   obtain ⟨x,q,xs,cpos,rfl,h1,h2,h3⟩:=pY h;rw [← L.cl] at h1;obtain ⟨k,hk,rfl⟩:=jS h1;have hm:=List.mem_of_getElem? hk;obtain ⟨gl,d1,_⟩:=sO (X:=X) L.lk.sc h2;obtain ⟨a1,a2,_⟩:=sndA g es M X.nox xs L.lk h3;refine (gx.cl k hm X Ew L.lk.fits xo gl xs _ q pos cpos (wG g.mono XN es) a2 (zi8 a1) (zje g h3) d1).imp fun D τ H hq=>?_;obtain ⟨σ,G,D3,E3,hs,ab,f3,fe,hq⟩:=hq;refine ⟨σ,G,D3,E3,hs,ab,f3,fe,wG g.mono XN es σ G _ _ (fun ws G1 hq=>?_) hq⟩;simp only [hk] at hq;exact hq
  |some _,some _,h=>exact absurd h zzN
  |none,_,h=>exact absurd h zzN
 |_=>exact absurd h zzN
theorem x_rtl (f:Nat) (tg:ITg) (names:List Str) (caps:List Nat) (it:II) (k:Nat) (es:IEs):OkX Γ Δ p (.rtl f tg names caps it k es):=fun M Z X Ew x L xo h=>by
 cases x with
 |Return v pos =>
  unfold mX at h
  split at h
  .rename_i y yq e t ix sc lp cp pos' heq;cases heq;obtain ⟨⟨⟨h1,h2⟩,h3⟩,h4⟩:=bd4 h;have h1:=yB h1;rw [← L.fx] at h1;obtain ⟨kf,hkf,rfl⟩:=jS h1;have hmf:=List.mem_of_getElem? hkf;obtain ⟨gl,d1,_⟩:=sO (X:=X) L.lk.sc h2;simp only [lcB,Bool.and_eq_true] at h3;obtain ⟨⟨⟨⟨⟨⟨c1,c2⟩,c3⟩,c4⟩,c5⟩,c6⟩,c7⟩:=h3
   have lk:∀ X',IsBlock X (names++caps.map (fun j=>M.N.getD j Str.empty)) sc X'->Lk Γ (lcM M names caps sc) p X':=fun X' b =>
    ⟨⟨b.prog.trans L.lk.fits.prog,b.w.trans L.lk.fits.w,b.K.trans L.lk.fits.K,b.mg.trans L.lk.fits.mg,b.base.trans L.lk.fits.base,b.A.trans L.lk.fits.A,b.calm.trans L.lk.fits.calm,b.xe⟩,b.N,b.scope.trans (zcl L.lk.sc),gY c3,(fun x z=>b.fn x (eq_of_beq z)),(zbt (X:=X) L.lk.sc c1).kind,L.lk.fns,L.lk.gls,L.lk.mts,L.lk.its,L.lk.sxs,L.lk.ixs⟩
   have pl:PE X (.ListComp e [⟨t,ix,[],0⟩] sc lp) (fun τ H Q=>∃ σ G E3,yV X.K H σ τ/\xP X.K H G/\Fex X.K H E3 Ew/\zU Γ XN it σ G fun items stab G1=>lcR items stab G1 (fun w G' K=>zV tg w (pZ names.length caps σ) G' fun σ2 G2=>zW Γ XN es σ2 G2 fun ws G3=>match Δ.fx[k]? with|some h=>h.sp ws G3 (fun x G4=>K (some x) G4) (E3 σ)|none=>False) (qE X.K H Q)):=by
    intro pins s τ H Q I hq;obtain ⟨σ,G,E3,hs,ab,fe,hq⟩:=hq;obtain ⟨x',q',xs',pos',_,k1,_,_⟩:=pY h4;rw [← L.fx] at k1;obtain ⟨kk,hkk,rfl⟩:=jS k1;have hmk:=List.mem_of_getElem? hkk;simp only [hkk] at hq;have me:wF fun σ2 G2 Q=>zW Γ XN es σ2 G2 fun ws G3=>kk.sp ws G3 Q (E3 σ):=fun σ2 G2 Q Q' kq z=>wG g.mono XN es σ2 G2 _ _ (fun ws G3 z=>(gx.fx kk hmk).2 _ _ _ _ _ _ kq (fun _ _ z=>z) z) z;refine zjs (Ew:=Ew) (wi:=lowI X.K (zU Γ XN it)) (g:=lowG X.K (zV tg)) (tc:=qS X.K fun σ G Q=>Q true G) (te:=fun τ' H' Q'=>yM X.K H H'/\yA X.K (fun σ2 G2 Q=>zW Γ XN es σ2 G2 fun ws G3=>kk.sp ws G3 Q (E3 σ)) τ' H' Q') (cap:=capV names.length caps) L.hk xo L.lk.fits.calm (zi7 (sndI g it M X.nox ix L.lk c5 t)) (zbt L.lk.sc c1) (bV (X:=X) L.lk.N L.lk.sc c4) (fun X' b=>?_) (fun X' b=>?_) (fun X' b xp=>?_) (uH c2) I ?_
    .rw [← b.K];exact sndG (lk X' b) tg t c7
    .refine zco.imp fun τ' H' Q' z=>?_;obtain ⟨σ',G',hs',ab',z⟩:=z;exact z H' .refl ab'
    .obtain ⟨_,k2,hm2,hk2,pe⟩:=zer g gx (lk X'.nox b) L.fx xp h4;rw [hkk] at hk2;cases hk2;refine pe.imp fun τ' H' Q' z=>?_;obtain ⟨gr,σ2,G2,hs2,ab2,z⟩:=z;have eK:X'.K=X.K:=b.K;rw [eK];exact ⟨σ2,G2,fun _=>E3 σ,hs2,ab2,fun σ3 w G3 τ3 a H3 g3 _ rp ab3 z3=>fe σ w G3 τ a H3 (gr.trans g3) (hs.mono (gr.trans g3)) rp ab3 z3,z⟩
    .refine ⟨σ,G,hs,ab,zcH g.mono XN it σ G _ _ (fun items stab G1 q J H1 g1 a1 ii=>?_) hq⟩;refine zfC (c:=fun σ G Q=>Q true G) (fun σ G Q Q' kq z=>kq _ _ z) me ii a1 (zdx (hs.mono g1) names.length caps) g1 (fun w G' Q' z=>?_) ?_
     .refine tW tg w _ G' _ _ (fun σ2 G2 z=>⟨⟨z.2.1,fun i v e=>?_⟩,z.2.2⟩) (mB tg w _ G' _ (cX tg w _ G' _ z));have hk:=(nG e).1;rw [z.1 i (zcI c6 hk)];exact e
     .simp only [if_true];exact q
   have ps:=zcq ((gx.fx kf hmf).1 X Ew L.lk.fits xo.toXpOk gl [.ListComp e [⟨t,ix,[],0⟩] sc lp] _ yq cp rfl (zcv pl zfu) (fun z=>nomatch z) d1) (pos:=pos);refine ps.imp fun D τ H hq=>?_;obtain ⟨σ,G,D3,E3,hs,ab,f3,fe,hq⟩:=hq;simp only [yC,hkf] at hq;refine ⟨σ,G,E3,hs,ab,fe,zcH g.mono XN it σ G _ _ (fun items stab G1 q=>?_) hq⟩;obtain ⟨Pv,p0,pst,hlen,step,fin⟩:=q;refine ⟨Pv,p0,pst,hlen,step,fun acc G2 pv r hr v H1 g1 rp a1=>?_⟩;exact ⟨[.ref r],_,⟨v,[],rfl,rp,rfl⟩,a1,(gx.fx kf hmf).2 _ _ _ _ _ _ (fun w G3 z v' H' g' rp' ab'=>f3.rt w G3 v' H' (g1.trans g') rp' ab' z) (fun w G3 z a H' g' rp' ab'=>fe σ w G3 τ a H' (g1.trans g') (hs.mono (g1.trans g')) rp' ab' z) (fin acc G2 pv r hr)⟩
  .exact absurd h zzN
 |_=>exact absurd h zzN
theorem x_try (i j t:Nat) (b:RTs) (hb:OkXs Γ Δ p b):OkX Γ Δ p (.try i j t b):=fun M Z X Ew x L xo h=>by
 cases x with
 |Try bs hs o fin pos =>
  match o,fin,h with
  | [],[],h =>
   obtain ⟨h1,h2⟩:=uE h;obtain ⟨tn,tp,n,y,yp,np,ap,hp,rfl,e1,e2,e3,e4,e5,e6,e7,e8⟩:=zdt h1;rw [← L.tr] at e7;obtain ⟨k,hk,rfl⟩:=jS e7;have hm:=List.mem_of_getElem? hk;have T:=gx.tr k hm;obtain ⟨ini,TT⟩:=T.cls;obtain ⟨gl,d1,_⟩:=sO (X:=X) L.lk.sc e8;have hN:X.N.Nodup:=L.lk.N▸L.lk.nd;have sc:X.env.scope=M.sc:=L.lk.sc;have eK:X.K=p.K:=L.lk.fits.K;have eN:X.N=M.N:=L.lk.N;refine (ziE (tb:=fun Ew=>lowX X.K Ew (yJ Γ Δ b)) L.hk hN (by rw [eN];exact e1) (by rw [eN];exact e2) (by rw [sc];exact e3) (by rw [sc];exact e4) e5 e6 gl (by rw [show X.mg=p.mg from L.lk.fits.mg];exact T.mg) d1 (by rw [eK];exact TT) (fun pn E' Ew' xo'=>hb M Z _ Ew' bs (L.held pn E') xo' h2)).imp fun D τ H hq=>?_;obtain ⟨σ,G,D3,E3,hs,ab,f,fe,hq⟩:=hq;simp only [yC,hk] at hq;refine ⟨σ,G,D3,trR k i j D3,hs,ab,f,fun σ' w G' τ' a H' g' hs' rp ab' z=>?_,hq⟩;obtain ⟨C,ns,ws,rfl,hc,z⟩:=z;obtain ⟨dx,ha⟩:=ex_at rp;exact ⟨a,C,dx,rfl,ha,by rw [eK];exact T.sub C hc,f.nx _ G' _ H' g' (yV.unset ((hs'.set rp i).set rp j) i) ab' z⟩
  |_::_,_,h=>exact absurd h zzN
  | [],_::_,h=>exact absurd h zzN
 |_=>exact absurd h zzN
theorem zih (s:RTs):OkXs Γ Δ p s :=
 RTs.rec (motive_1:=OkX Γ Δ p) (motive_2:=OkXs Γ Δ p) (x_pl g) (x_rse g gx) (fun c a b ha hb=>x_ite g c a b ha hb) (fun c b hb=>x_whl g c b hb) (fun tg it b hb=>x_for g tg it b hb) (x_asx g gx) (x_exx g gx) (x_rtx g gx) (fun i j t b hb=>x_try g gx i j t b hb) (x_rtl g gx)
  (fun M Z X Ew x L xo h=>by
   cases x with
   |nil=>exact zcp.imp fun D τ H hq=>by obtain ⟨σ,G,D3,E3,hs,ab,f,_,hq⟩:=hq;exact f.nx σ G τ H .refl hs ab hq
   |cons _ _=>exact absurd h zzN)
  (fun s ss h1 h2 M Z X Ew x L xo h=>by
   cases x with
   |nil=>exact absurd h zzN
   |cons y ys =>
    obtain ⟨m1,m2⟩:=uE h;refine (za4 (h1 M Z X Ew y L xo m1) (h2 M Z X Ew ys L xo m2)).imp fun D τ H hq=>?_;obtain ⟨σ,G,D3,E3,hs,ab,f,fe,hq⟩:=hq;refine ⟨σ,G,{ D3 with nx:=yJ Γ Δ ss E3 D3 },E3,hs,ab,⟨?_,f.bk,f.ct,f.rt⟩,fe,hq⟩;exact fun σ2 G2 τ2 H2 g2 hs2 a2 z=>⟨σ2,G2,D3,E3,hs2,a2,f.grow g2,fe.grow g2,z⟩) s
end
section
variable {X : Cx} {Ew : L2.St → L2.XK}
theorem zfh {pins:List (Addr×Obj)} {τ:L2.St} {H:Hp} {s:Shared} {Q:VK} {us:List Value} {vs:List V} {k:Nat} {f:Addr} {fd:FuncData} {ps:List Str} {sp:Sp} (F:FnOk X.prog X.w X.K X.mg X.base (CXr X.prog X.w) k f fd ps sp) (hr:Room k X.A) (hb:kP X.K fd ps []) (xo:XpOk X Ew) (I:Inv X pins τ H s) (r:zA vs us) (h:sp vs H Q (Ew τ)) :
  wpAny (model X.prog X.w) X.A (call (.ref f) us) (EP X pins τ Q) X.xe s:=by
 have hl:(us++[]).length=ps.length:=by rw [List.append_nil,← r.length];exact F.len _ _ _ _ h
 have bs:=hb s us I.kIn hl;rw [List.append_nil] at bs;refine wpAny_call (codeAny_mono (F.run X.A X.stack s H ⟨us,[]⟩ us vs Q (Ew τ) hr I.env0 bs r h) fun rr s' z=>?_)
 cases rr with
 |error e=>exact xo.pass pins τ H s e s' I z
 |ok fl =>
  cases fl with
  |ret u=>exact I.after z
  |next=>exact False.elim z
  |brk=>exact False.elim z
  |cont=>exact False.elim z
theorem zbQ (hx:X.xe=fun _ _=>False):XeOk X (fun _=>E0) :=
 ⟨⟨fun _ _ _ _ _ _ _ h=>by obtain ⟨_,_,_,_,_,_,_,_,_,_,_,_,_,_,_,z⟩:=h;exact z.elim⟩,fun _ _ _ _ _ _ _ _ _ z=>z.elim,fun _ _ _ _ _ _ _ _ _ _ _ _ _ z=>z.elim,by rw [hx];exact PassesOwn.never⟩
theorem ziV {nm:Str} {C:Addr} {args:List Expr} {t:A3} {q pos:Pos} {r:List V->Hp->VK->Prop} (hc:jP X (.ref C) r) (gl:Gl X nm) (hm:X.mg nm=some (.ref C)) (kp:PySem.W.keepIn X.K (.ref C)=true) (hn:args.all noStar=true) (pa:PA X args (uY X.K t)) (hnil:args=[]->∀ σ G Q,t σ G Q->Q [] G) (hdb:(nm==("__debug__" : Str))=false) :
  PE X (.Call (.Name nm q) args [] pos) (fun τ H Q=>uY X.K t τ H fun vs H1=>r vs H1 Q):=by
 cases args with
 |nil =>
  intro pins s σ H Q I h;obtain ⟨σ3,G,hs,ab,h⟩:=h;refine wpAny_Call_Name_kw (qL I gl hm ?_ hdb);exact PySem.W.callWith_K0 I.kIn kp (hc pins s σ H [] [] Q I .nil (hnil rfl _ _ _ h [] H .refl rfl ab))
 |cons a l =>
  intro pins s σ H Q I h;obtain ⟨s1,s2⟩:=xA (env:=X.env) (pos:=pos) hn;refine wpAny_Call_Name_kw (qL I gl hm ?_ hdb);refine PySem.W.callWith_K (h₀:=X.base) I.ok.mod.kin kp (yF (pa pos pins s σ H _ I h) fun us s1 z=>?_) s1 s2;obtain ⟨vs,H1,I1,r1,q1⟩:=z;exact ⟨I1.kIn,hc pins s1 σ H1 vs us Q I1 r1 q1⟩
end
section
variable {q : Pr} {A : Around} {nm : Str} {C : Addr}
theorem fT {k:Nat} {f:Addr} {fd:FuncData} {ps:List Str} {sp:SpX} (FO:FnOk q.prog q.w q.K q.mg q.base (CXr q.prog q.w) k f fd ps (zcK q.K sp)) (hm:q.mg nm=some (.ref f)) (hk:PySem.W.keepIn q.K (.ref f)=true) (hb:kP q.K fd ps []) (_:qB ⟨nm,sp⟩) (hr:Room k A):FxE (q.at A) ⟨nm,sp⟩:=by
 intro X Ew fits xo gl args ta qp pos hn pa hnil hdb;have e:=fits.eq
 injection e with e1 e2 e3 e4 e5 e6
 have e1:q.prog=X.prog:=e1;have e2:q.w=X.w:=e2;have e3:q.K=X.K:=e3;have e4:q.mg=X.mg:=e4;have e5:q.base=X.base:=e5;have e6:A=X.A:=e6;subst e6;rw [e1,e2,e3,e4,e5] at FO;rw [e4] at hm;rw [e3] at hk hb
 cases args with
 |nil =>
  intro pins s τ H Q I h;exact wpAny_Call_Name_kw (qL I gl hm (PySem.W.callWith_K0 I.kIn hk (zfh (us:=[]) (vs:=[]) FO hr hb xo I .nil (hnil rfl _ _ _ h))) hdb)
 |cons a l =>
  intro pins s τ H Q I h;obtain ⟨s1,s2⟩:=xA (env:=X.env) (pos:=pos) hn;refine wpAny_Call_Name_kw (qL I gl hm ?_ hdb);refine PySem.W.callWith_K (h₀:=X.base) I.ok.mod.kin hk (yF (pa pos pins s τ H _ I h) fun us s1 z=>?_) s1 s2;obtain ⟨vs,H1,I1,r1,q1⟩:=z;exact ⟨I1.kIn,zfh FO hr hb xo I1 r1 q1⟩
theorem fn_fx {p:Par} {sp:SpX} (h:FxE p ⟨nm,sp⟩) (m:qB ⟨nm,sp⟩):FnE p ⟨nm,fun ws G Q _=>sp ws G Q fun _ _=>False⟩:=by
 intro X fits gl args t qp pos mt hn pa hnil hdb hnm;refine (zda h m (Ew:=fun _=>E0) ⟨fits.prog,fits.w,fits.K,fits.mg,fits.base,fits.A,fits.calm,rfl⟩ (zbQ fits.xe).toXpOk gl mt hn pa hnil hdb).imp fun τ H Q z=>?_;obtain ⟨σ,G,hs,ab,z⟩:=z;exact ⟨σ,G,fun _ _ _=>False,hs,ab,fun _ _ _ _ _ _ _ _ _ _ z=>z.elim,z⟩
theorem fR {p:Par} {sp:SpX} (h:FxE p ⟨nm,sp⟩) (m:qB ⟨nm,sp⟩):qH p ⟨nm,fun ws G Q _=>sp ws G Q fun _ _=>False⟩:=⟨fn_fx h m,fun ws G Q Q' E k z=>m ws G Q Q' _ _ k (fun _ _ z=>z) z⟩
theorem cl_0 (T:XM q.K C (.builtin "ValueError.__init__")) (hm:q.mg nm=some (.ref C)):ClE (q.at A) ⟨nm,C,none⟩:=by
 intro X Ew fits xo gl args t qp pos cpos mt hn pa hnil hdb;have eK:X.K=q.K:=fits.K;have em:X.mg=q.mg:=fits.mg;rw [← eK] at T;rw [← em] at hm;refine (zej xo fits.calm (ziV (q:=qp) (pos:=cpos) (zjk T) gl hm T.kp hn pa hnil hdb)).imp fun D τ H hq=>?_;obtain ⟨σ,G,D3,E3,hs,ab,f3,fe,hq⟩:=hq;refine tR mt hs ab hq fun ws G1 vs H1 g1 hs1 rs a1 h=>?_;obtain ⟨rfl,h⟩:=h;refine ⟨rs,fun a fr=>⟨a,C,none,_,rfl,yD,T,?_⟩⟩;rw [zf3];have gr:yM X.K H1 (xR H1 a (.ext (dL a C none))):=wZ fr;exact fe σ (.exc C [] []) G1 τ a _ (g1.trans gr) (hs1.mono gr) ⟨a,[],rfl,.inl ⟨yD,rfl⟩,rfl⟩ (a1.tup fr) h
end
structure ZOk (Δ:CtxX) (Z:MX):Prop where
 fx:Δ.fx.map (·.nm)=Z.fx
 cl:Δ.cl.map (·.nm)=Z.cl
 tr:Δ.tr.map (·.nm)=Z.tr
theorem sK {Γ:Ctx3} {Δ:CtxX} {q:Pr} {k:Nat} {M:MC} {Z:MX} {x qual:Str} {st:Stmt} {dV:Value} {f:Addr} {fd:FuncData} {ps:List Str} {sp:SpX} {body:RTs} (F:FunD q.K x qual st dV f fd) (S:FnScope M.N ps (zX st)) (g:∀ A,Room k A->Good Γ (q.at A)) (gx:∀ A,Room k A->GoodX Δ (q.at A))
  (eM:MOk Γ M (zX st)) (eZ:ZOk Δ Z) (hm:mXs M Z body (zI st)=true) (len:∀ ws G Q E,sp ws G Q E->ws.length=ps.length)
  (hb:∀ ws G Q E,sp ws G Q E->yJ Γ Δ body (fun _=>E) { nx:=fun _ G'=>Q .non G',rt:=Q } (yO M.N ws) G):FnOk q.prog q.w q.K q.mg q.base (CXr q.prog q.w) (k+1) f fd ps (zcK q.K sp):=by
 obtain ⟨oc,od,kV,doc,pm,an,cdv,ct,osl,rfl,lk,hcd⟩:=F.ex;refine zhf lk hcd S (fun vs H Q E h=>?_) fun A outer s H vs Q E hr h=>?_
 .obtain ⟨ws,G,rs,ab,h⟩:=h;rw [rs.length];exact len ws G _ _ h
 .obtain ⟨ws,G,rs,ab,h⟩:=h;refine ⟨lowX q.K (fun _=>E) (yJ Γ Δ body),zih (g _ hr) (gx _ hr) body M Z _ _ (zI st) ⟨⟨⟨rfl,rfl,rfl,rfl,rfl,rfl,rfl,rfl⟩,rfl,eM.sc.symm,S.nd,fun _ _=>rfl,by rw [eM.sc];exact S.kind,eM.fns,eM.gls,eM.mts,eM.its,eM.sxs,eM.ixs⟩,eZ.fx,eZ.cl,eZ.tr,rfl,rfl⟩ zhR hm,?_⟩;refine ⟨yO M.N ws,G,_,_,rX rs,ab,⟨?_,?_,?_,?_⟩,fun σ w G' τ a H' g' _ rp ab' z=>z a H' g' rp ab',hb ws G _ _ h⟩
  .exact fun σ G' τ H' g' _ a' z=>z .non H' g' (show wX q.K H' .non .non from rfl) a'
  .exact fun σ G' τ H' g' _ a' z=>z.elim
  .exact fun σ G' τ H' g' _ a' z=>z.elim
  .exact fun w G' v H' g' r' a' z=>z v H' g' r' a'
theorem zhx {Γ:Ctx3} {Δ:CtxX} {q:Pr} {k:Nat} {M:MC} {Z:MX} {x qual:Str} {st:Stmt} {dV:Value} {f:Addr} {fd:FuncData} {ps:List Str} {sp:sC} {body:RTs} (F:FunD q.K x qual st dV f fd) (S:FnScope M.N ps (zX st)) (g:∀ A,Room k A->Good Γ (q.at A)) (gx:∀ A,Room k A->GoodX Δ (q.at A))
  (eM:MOk Γ M (zX st)) (eZ:ZOk Δ Z) (hm:mXs M Z body (zI st)=true) (len:∀ ws G Q,sp ws G Q XN->ws.length=ps.length)
  (hb:∀ ws G Q,sp ws G Q XN->yJ Γ Δ body (fun _ _ _=>False) { nx:=fun _ G'=>Q .non G',rt:=Q } (yO M.N ws) G):FnOk q.prog q.w q.K q.mg q.base CX0 (k+1) f fd ps (jR q.K sp):=by
 obtain ⟨oc,od,kV,doc,pm,an,cdv,ct,osl,rfl,lk,hcd⟩:=F.ex;refine zhf lk hcd S (fun vs H Q E h=>?_) fun A outer s H vs Q E hr h=>?_
 .obtain ⟨ws,G,rs,ab,h⟩:=h;rw [rs.length];exact len ws G _ h
 .obtain ⟨ws,G,rs,ab,h⟩:=h;refine ⟨lowX q.K (fun _=>E0) (yJ Γ Δ body),dM.nox (zih (g _ hr) (gx _ hr) body M Z _ _ (zI st) ⟨⟨⟨rfl,rfl,rfl,rfl,rfl,rfl,rfl,rfl⟩,rfl,eM.sc.symm,S.nd,fun _ _=>rfl,by rw [eM.sc];exact S.kind,eM.fns,eM.gls,eM.mts,eM.its,eM.sxs,eM.ixs⟩,eZ.fx,eZ.cl,eZ.tr,rfl,rfl⟩ (zbQ rfl) hm),?_⟩;refine ⟨yO M.N ws,G,_,_,rX rs,ab,⟨?_,?_,?_,?_⟩,fun σ w G' τ a H' g' _ rp ab' z=>z.elim,hb ws G _ h⟩
  .exact fun σ G' τ H' g' _ a' z=>z .non H' g' (show wX q.K H' .non .non from rfl) a'
  .exact fun σ G' τ H' g' _ a' z=>z.elim
  .exact fun σ G' τ H' g' _ a' z=>z.elim
  .exact fun w G' v H' g' r' a' z=>z v H' g' r' a'
end L3
namespace L3
open PySem PySem.Spec PyProof.Rows L2 PySem.SeqAt AutoSeq1
end L3
namespace L3
open PySem PySem.Spec PyProof.Rows L2 PySem.SeqAt
structure KdS (prog:Program) (w:World) (α:Type) [DecidableEq α] where
 k:_root_.PySem.KeyKind prog w α
 vl:α->Tok->Value
 of:Value->α
 d:α
 is:∀ x t,k.is x (vl x t)=true
 sh:∀ {x v},k.is x v=true->∃ t,v=vl x t
 ofm:∀ x t,of (vl x t)=x
 sc:∀ x t,(vl x t).scannable=true
section
variable {α : Type} [DecidableEq α] {prog : Program} {w : World}
def tx (K:KdS prog w α) (e:Int×Value):α:=K.of e.2
end
section
variable {α : Type} [DecidableEq α] {prog : Program} {w : World} {K : KdS prog w α} {A : Around} {E : Value → Shared → Prop} {s : Shared} {S : Addr} {led : Bool}
end
section
variable {α : Type} [DecidableEq α] {prog : Program} {w : World} {K : KdS prog w α} {A : Around} {R : Result → Shared → Prop} {I : Addr} {fp wr : List Addr} {G : Array GenState → Array GenState → Prop} {n : Nat} {P : Nat → Value → Prop} {St : Nat → Shared → Prop} {S : Addr} {led : Bool}
end
section
variable {prog : Program} {w : World} {s : Shared} {A : Around} {E : Value → Shared → Prop}
end
namespace SI
end SI
section
variable {α : Type} [DecidableEq α] {prog : Program} {w : World} {K : KdS prog w α} {A : Around} {E : Value → Shared → Prop} {s : Shared} {I S : Addr} {first : Value} {i n ep : Nat} {led : Bool} {o : Obj} {es : Array (Int × Value)} {t : SetTable}
end
section
variable {α : Type} [DecidableEq α] {prog : Program} {w : World} {K : KdS prog w α} {A : Around} {I S T : Addr} {ep : Nat} {led : Bool} {o : Obj} {es : Array (Int × Value)} {t : SetTable}
end
section
variable {α : Type} [DecidableEq α] {prog : Program} {w : World} {K : KdS prog w α} {A : Around} {E : Value → Shared → Prop} {s : Shared} {S : Addr} {ep : Nat} {o : Obj} {es : Array (Int × Value)} {t : SetTable}
end
section
variable {α : Type} [DecidableEq α] {prog : Program} {w : World} {K : KdS prog w α} {A : Around} {E : Value → Shared → Prop} {s : Shared} {S : Addr} {ep : Nat} {o : Obj} {es : Array (Int × Value)} {t : SetTable}
end
section
variable {prog : Program} {w : World} {A : Around} {E : Value → Shared → Prop} {s : Shared}
end
section
variable {X : Cx}
theorem dD {K:yS} {H:Hp}:∀ (ss:List Str),zF K H (ss.map .str) (ss.map .str)
 | []=>rfl
 |x::ss=>⟨.str x,_,rfl,rfl,dD ss⟩
end
end L3
namespace L3
open PySem PySem.Spec PyProof.Rows L2 PySem.SeqAt PySem.Builtin PySem.Builtin.Str
theorem zb8 {prog:Program} {w:World} {A:Around} {E:Value->Shared->Prop} {s:Shared} {x y:Str} {t u:Tok} {Q:Value->Shared->Prop} (hy:(y.length==0)=false) (hsz:x.length<=sizeLine)
  (hsz2:(partsBetween x (occurrences x y 0 x.length (x.length+1)) y.length).length<=sizeLine)
  (hq:∀ l k,l.map (·.1)=Txt.split x y->Q (.ref s.heap.objs.size) { s with heap:=s.heap.push { cls:=.type "list", data:=.seq (strValues l).toArray },toks:=k }) :
  wpAny (model prog w) A (call (.builtin "str.split") [.str x t,.str y u]) Q E s:=by
 cases h1:(decide (x.length<y.length) || decide (strKind x<strKind y))
 .cases hf:(occurrences x y 0 x.length (x.length+1)).isEmpty
  .refine call_meets F.slot_str_split (typeIs_str _ _ _) F.entry_str_split (F.args_str_split_2 _ _) (meets_str_split_sep x y t u h1 hy hf hsz hsz2) ?_;show wants Q E _ { s with toks:=_,heap:=s.heap.push { cls:=.type "list", data:=.seq (strsFrom s.toks (partsBetween x (occurrences x y 0 x.length (x.length+1)) y.length)).toArray } };rw [strsFrom_eq];exact hq (numbered s.toks _) _ ((numbered_texts _ _).trans ((if_neg (ne_true_of_eq_false h1)).trans (if_neg (ne_true_of_eq_false hf))).symm)
  .exact call_meets F.slot_str_split (typeIs_str _ _ _) F.entry_str_split (F.args_str_split_2 _ _) (meets_str_split_not_found x y t u h1 hy hf) (hq [(x,t)] s.toks ((if_neg (ne_true_of_eq_false h1)).trans (if_pos hf)).symm)
 .exact call_meets F.slot_str_split (typeIs_str _ _ _) F.entry_str_split (F.args_str_split_2 _ _) (meets_str_split_cannot_occur x y t u h1) (hq [(x,t)] s.toks (if_pos h1).symm)
theorem dB (x y:Str):(Txt.split x y).length<=x.length+2:=by
 unfold Txt.split
 split
 .simp
 .split
  .simp
  .rw [length_partsBetween];have:=StrLaws.occ_length_le x y 0 x.length (x.length+1);omega
def rW:MS:=fun x ws G Q=>match x,ws with
 | .str x,[.str y]=>(y.length==0)=false/\x.length<=1000000/\∀ r,G r=none->Q (.ref r) (put G r (.lst ((Txt.split x y).map .str)))
 |_,_=>False
theorem pS:∀ x ws G (Q Q':Q3),(∀ w G',Q w G'->Q' w G')->rW x ws G Q->rW x ws G Q':=by
 intro x ws G Q Q' k h;unfold rW at h ⊢
 split at h
 .exact ⟨h.1,h.2.1,fun r hr=>k _ _ (h.2.2 r hr)⟩
 .exact h.elim
theorem mP:∀ (l:List (Str×Tok)),zA ((l.map (·.1)).map V.str) (strValues l)
 | []=>.nil
 | (x,t)::l=>.cons ⟨t,rfl⟩ (mP l)
theorem zdY {X:Cx}:MtR X "str.split" (lowM X.K rW):=by
 intro pins s σ H x xs v us Q I rx rxs h;obtain ⟨w,ws,G,rw1,rs,ab,h⟩:=h;unfold rW at h
 split at h
 .rename_i x' y;cases (show x=.str x' from rw1);obtain ⟨z,rfl,rz⟩:=vQ rs;cases (show z=.str y from rz);obtain ⟨u,rfl,ru⟩:=qA rxs;obtain ⟨t',rfl⟩:=ru;obtain ⟨t,rfl⟩:=rx;obtain ⟨hy,hx,h⟩:=h;have hl:=dB x' y;refine jO I.tk (zb8 hy (by rw [sizeLine_eq];omega) (by rw [length_partsBetween,sizeLine_eq];have:=StrLaws.occ_length_le x' y 0 x'.length (x'.length+1);omega) fun l k e h0=>?_);have hn:H s.heap.objs.size=none:=I.hok.fresh (zzR _);refine ⟨.ref s.heap.objs.size,_,I.laid (o:=.lst ((Txt.split x' y).map .str)) (fun b ob q=>Heap.get?_push_of_some _ q) (zzR _) ⟨by rw [zzM,sizeLine_eq];omega,strValues l,0,by rw [← e];exact mP l,Heap.get?_push_size _ rfl⟩ h0,rfl,qM ab (dD _) h _ hn⟩
 .exact h.elim
abbrev zbn:Mt3:=⟨"split", "str", rW⟩
theorem zdi {q:Pr} {A:Around}:MtE (q.at A) zbn/\pW zbn:=⟨gN PySem.F.plainAttrs_str PySem.F.slot_str_split PySem.F.type_str_split (fun X f=>zdY) pS,pS⟩
end L3
namespace L2
open PySem
theorem zf1 {α:Type} {M:Model} {Γ:Ctx}:∀ (t:Sem α) (p:Pos) (s:Shared),¬ Sem.wp M Γ t (fun _ _ _=>False) (fun _ _ _=>False) p s:=by
 intro t
 induction t with
 |pure a=>intro p s z;rw [Sem.wp] at z;exact z
 |raise e=>intro p s z;rw [Sem.wp] at z;exact z
 |unsupported _=>intro p s z;rw [Sem.wp] at z;exact z
 |finish _=>intro p s z;rw [Sem.wp] at z;exact z
 |register _ _ _=>intro p s z;rw [Sem.wp] at z;exact z
 | «yield» _ _ _ _ _=>intro p s z;rw [Sem.wp] at z;exact z
 |load a part k ih=>intro p s z;rw [Sem.wp] at z;obtain ⟨o,e,z⟩:=z;exact ih o p s z
 |update a part f k ih=>intro p s z;rw [Sem.wp] at z;exact ih () p _ z.2
 |fresh k ih=>intro p s z;rw [Sem.wp] at z;exact ih _ p _ z
 |choose src m k ih=>intro p s z;rw [Sem.wp] at z;exact ih _ p _ z.2
 |genState g k ih=>intro p s z;rw [Sem.wp] at z;obtain ⟨st,e,z⟩:=z;exact ih _ p s z
 |resume g r l k ih=>intro p s z;rw [Sem.wp] at z;obtain ⟨res,s',w,z⟩:=z;exact ih _ p s' z
 |call c hd g l k ih=>intro p s z;rw [Sem.wp] at z;obtain ⟨r,s',w,z⟩:=z;exact ih _ p s' z
 |_=>first|(intro p s z;rw [Sem.wp] at z;exact z.elim)|(rename_i ih;intro p s z;rw [Sem.wp] at z;exact ih _ _ _ z)
theorem ze4 {α β:Type} {M:Model} {A:Around} {t:Sem α} {s:Shared} (h:wpAny M A t (fun _ _=>False) (fun _ _=>False) s) {u:Sem β} {Q:β->Shared->Prop} {E:Value->Shared->Prop}:wpAny M A u Q E s:=fun Γ p hΓ=>(zf1 t p s (h Γ p hΓ)).elim
end L2
namespace L3
open PySem PySem.Spec PyProof.Rows L2 PySem.SeqAt PySem.Builtin PySem.Builtin.Str
theorem zaw {K:yS} {h:Heap} (X:K.In h) (lim:h.NoLimit) (e:PySem.W.nsIn K cStatics sharingNotToldKey=some none):NoneBooked h:=by
 obtain ⟨mc,hn,_⟩:=lim;exact ⟨mc,hn,PySem.W.ns_none_of X hn e⟩
theorem Inv.lim {X:Cx} {pins:List (Addr×Obj)} {σ:L2.St} {H:Hp} {s:Shared} (I:Inv X pins σ H s):s.heap.NoLimit:=I.ok.mod.nolimit.keeps I.bk
def Ev2 (X:Cx) (e2:Expr) (t2:TE):Prop:=∀ (pins:List (Addr×Obj)) (s:Shared) (σ:L2.St) (H:Hp) (Q:VK) (k:Nat),k<s.toks->Inv X pins σ H s->t2 σ H Q ->
 wpAny (model X.prog X.w) X.A (eval e2 X.env) (fun v s'=>∃ b t' H',v=.str b t'/\k<t'/\Inv X pins σ H' s'/\Q (.str b) H') X.xe s
theorem zhh {X:Cx} {b:Str} {j:Nat} {p:Pos}:Ev2 X (.Constant (.str b) j p) (fun _ H Q=>Q (.str b) H):=fun pins s σ H Q k hk I h=>Calls.Constant_str ⟨b,s.toks,H,rfl,hk,I.tok _,h⟩
theorem zgN {prog:Program} {w:World} {A:Around} {E:Value->Shared->Prop} {s:Shared} {env:Env} {o:Expr} {nm:Str} {ap cp:Pos} {es:List Expr} {ts:List (Bool×Sem Value)} {Q:Value->Shared->Prop}
  (hb:attributeBase o nm env (eval o env)=eval o env) (hf:methodCallForm (es.length+([]:List Keyword).length) (backTo cp (starEach es env)) (backToKw cp (keywordEach [] env))=true) (hl:(ap.endLine==cp.line)=true) (ht:backTo cp (starEach es env)=ts)
  (h:wpAny (model prog w) A (eval o env) (fun v s1=>MethodOn prog w A nm cp v ts Q E s1\/∃ t:Sem Value,wpAny (model prog w) A t (fun _ _=>False) (fun _ _=>False) s1) E s):wpAny (model prog w) A (eval (.Call (.Attribute o nm ap) es [] cp) env) Q E s:=by
 subst ht;rw [arm_eval_Call,hb];refine wpAny_bind (yF h fun v s1 z=>?_);rcases z with ⟨T,id,a1,a2,a3,a4,a5,a6⟩|⟨t,z⟩
 .have e:methodCallPos true o env ap cp=pure cp:=by unfold methodCallPos;simp [hl]
  refine wpAny_bind (wpAny_standAt ?_);unfold methodCall;rw [hf];exact wpAny_bind (wpAny_holding (getMethod_builtin a4 a1 a2 a3 a5 (wpAny_bind (wpAny_of_eq e a6))))
 .exact ze4 z
def Dead (X:Cx) (σ:L2.St) (H:Hp):Prop:=∀ (pins:List (Addr×Obj)) (s:Shared),Inv X pins σ H s->∃ t:Sem Value,wpAny (model X.prog X.w) X.A t (fun _ _=>False) (fun _ _=>False) s
def tRep (X:Cx) (a:Str) (to t2:TE):TE:=fun σ H Q=>to σ H fun x H1=>(∃ y,x=.str y/\t2 σ H1 fun z H2=>∃ b,z=.str b/\y.length+(y.length+1) * b.length<=16777216/\Q (.str (Txt.replace y a b)) H2)\/Dead X σ H1
theorem ziO {X:Cx} {o e2:Expr} {a:Str} {j:Nat} {p1 apos cpos:Pos} {to t2:TE} (hb:PySem.W.nsIn X.K cStatics sharingNotToldKey=some none) (ho:PE X o to) (h2:Ev2 X e2 t2) (hn:noStar e2=true)
  (hbase:attributeBase o "replace" X.env (eval o X.env)=eval o X.env) (hline:(apos.endLine==cpos.line)=true):PE X (.Call (.Attribute o "replace" apos) [.Constant (.str a) j p1,e2] [] cpos) (tRep X a to t2):=by
 intro pins s σ H Q I h;have hs:=zbk (args:=[.Constant (.str a) j p1,e2]) (env:=X.env) (pos:=cpos) (by show (true&&(noStar e2&&true))=true;rw [hn];rfl)
 have tr:backTo cpos (starEach [.Constant (.str a) j p1,e2] X.env)=[(false,eval (.Constant (.str a) j p1) X.env),(false,eval e2 X.env)]:=by
  cases e2<;>first|rfl|cases hn
 refine zgN hbase (by unfold methodCallForm;rw [hs];rfl) hline tr (yF (ho pins s σ H _ I h) fun v s1 ⟨x,H1,I1,r1,q1⟩=>?_);refine q1.elim (fun ⟨y,ey,qy⟩=>?_) fun dd=>.inr (dd pins s1 I1);subst ey;obtain ⟨t,rfl⟩:=r1;refine .inl ⟨"str", "str.replace", PySem.F.plainAttrs_str,PySem.F.slot_str_replace,PySem.F.type_str_replace,typeIs_str _ _ _,fun b z=>(nomatch z),?_⟩;refine Calls.callWith_builtin rfl (Calls.evalArgs_plain (Calls.spliced_cons (Calls.Constant_str ?_)));refine Calls.spliced_cons (yF (h2 pins { s1 with toks:=s1.toks+1 } σ H1 _ s1.toks (Nat.lt_succ_self _) (I1.tok _) qy) fun v2 s2 ⟨b,t',H2,e2',lt,I2,b',eb,hl,q2⟩=>Calls.spliced_nil ?_);subst e2';cases eb;have k0:=I1.tk;exact jO I2.tk (SC.replaceA (Nat.ne_of_gt k0) (Nat.ne_of_gt (Nat.lt_trans k0 lt)) (Nat.ne_of_lt lt) hl (fun t' k h0=>⟨.str (Txt.replace y a b),H2,I2.tok _ h0,⟨t',rfl⟩,q2⟩) (zaw I2.kIn (Inv.lim I2) hb))
def pD (a b:Str):Scope->Expr->Option (List Expr):=fun _ e=>match e with
 | .Call (.Attribute o m apos) [.Constant (.str x) _ _,.Constant (.str y) _ _] [] cpos=>if (m==("replace" : Str)&&x==a&&y==b&&pI o&&apos.endLine==cpos.line)=true then some [o] else none
 |_=>none
theorem zec {a b:Str} {sc:Scope} {e:Expr} {xs:List Expr} (h:pD a b sc e=some xs):∃ o apos cpos j p k q,xs=[o]/\e=.Call (.Attribute o "replace" apos) [.Constant (.str a) j p,.Constant (.str b) k q] [] cpos/\pI o=true/\(apos.endLine==cpos.line)=true:=by
 unfold pD at h
 split at h
 .rename_i o m apos x j p y k q cpos
  by_cases hb:(m==("replace" : Str)&&x==a&&y==b&&pI o&&apos.endLine==cpos.line)=true
  .rw [if_pos hb] at h;cases h;simp only [Bool.and_eq_true,beq_iff_eq] at hb;obtain ⟨⟨⟨⟨rfl,rfl⟩,rfl⟩,h1⟩,h2⟩:=hb;exact ⟨o,apos,cpos,j,p,k,q,rfl,rfl,h1,by rw [h2];exact beq_self_eq_true _⟩
  .rw [if_neg hb] at h;cases h
 .cases h
def dX (a b:Str):RS:=fun ws G Q=>match ws with
 | [.str y]=>y.length+(y.length+1) * b.length<=16777216/\Q (.str (Txt.replace y a b)) G
 |_=>False
theorem rT {a b:Str}:qP (dX a b):=by
 intro ws G Q Q' k h;unfold dX at h ⊢
 split at h
 .exact ⟨h.1,k _ _ h.2⟩
 .exact h.elim
theorem zb7 {q:Pr} {A:Around} {a b:Str} (hb:PySem.W.nsIn q.K cStatics sharingNotToldKey=some none):SxE (q.at A) ⟨pD a b,dX a b⟩:=by
 intro X fits e xs es he each hn pa;obtain ⟨o,apos,cpos,j,p,k,q',rfl,rfl,h1,h2⟩:=zec (sc:=X.env.scope) he
 cases es with
 |nil=>exact each.elim
 |cons e0 r =>
  obtain ⟨mo,po,er⟩:=each
  cases r with
  |cons _ _=>exact er.elim
  |nil =>
   refine ⟨fun pins s σ H Q I h=>?_,fun _=>rfl,fun _ _ _ z=>nomatch z⟩;refine ziO (by rw [show X.K=q.K from fits.K];exact hb) po zhh rfl (vS h1) h2 pins s σ H Q I ?_;obtain ⟨σ3,G,hs,ab,h⟩:=h;refine xZ mo hs ab h fun w G1 v H1 g1 hs1 rw1 a1 h=>?_;dsimp only [fC] at h;unfold dX at h
   split at h
   .rename_i y e;cases e;cases (show v=.str y from rw1);exact .inl ⟨y,rfl,b,rfl,h.1,h.2 _ H1 g1 rfl a1⟩
   .exact h.elim
def rZ (c:Nat):List Nat->List (List Nat)
 | []=>[[]]
 |k::r=>if k=c then []::rZ c r else match rZ c r with
  |h::t=>(k::h)::t
  | []=>[[k]]
theorem zfU (c:Nat):∀ l,rZ c l≠[]
 | []=>by simp [rZ]
 |k::r=>by
  unfold rZ
  split
  .simp
  .split<;>simp
theorem sG {c:Nat}:∀ {l:List Nat},c∉l->rZ c l=[l]
 | [],_=>rfl
 |k::r,h=>by
  simp only [List.mem_cons,not_or] at h;unfold rZ;rw [if_neg (Ne.symm h.1),sG h.2]
theorem zaM {c:Nat}:∀ (a b:List Nat),rZ c (a++c::b)=rZ c a++rZ c b
 | [],b=>by show rZ c (c::b)=[[]]++rZ c b;rw [rZ,if_pos rfl];rfl
 |k::a,b=>by
  show rZ c (k::(a++c::b))=rZ c (k::a)++rZ c b;rw [rZ,zaM a b,rZ]
  split
  .rfl
  .cases h:rZ c a with
   |nil=>exact absurd h (zfU c a)
   |cons x t=>rfl
theorem zbq {c:Nat}:∀ (ps:List Str),ps≠[]->(∀ p∈ps,c∉p.cps.toList)->rZ c (Str.join ⟨#[c]⟩ ps).cps.toList=ps.map (·.cps.toList)
 | [],h,_=>absurd rfl h
 | [p],_,h=>sG (h p zzT)
 |p::q::r,_,h=>by
  have ih:=zbq (q::r) (by simp) fun a ha=>h a (List.mem_cons_of_mem _ ha);show rZ c (p++⟨#[c]⟩++Str.join ⟨#[c]⟩ (q::r)).cps.toList=_;rw [Str.cps_append,Str.cps_append,Array.toList_append,Array.toList_append,List.append_assoc];show rZ c (p.cps.toList++c::(Str.join ⟨#[c]⟩ (q::r)).cps.toList)=_;rw [zaM,ih,sG (h p zzT)];rfl
theorem zdZ (x:Str) (c:Nat):Txt.split x ⟨#[c]⟩≠[]:=by
 unfold Txt.split
 split
 .simp
 .split
  .simp
  .intro h;have:=congrArg List.length h;rw [length_partsBetween] at this;simp at this
theorem dA (x:Str) (c:Nat):(Txt.split x ⟨#[c]⟩).map (·.cps.toList)=rZ c x.cps.toList:=by
 have h:=zbq (c:=c) (Txt.split x ⟨#[c]⟩) (zdZ x c) (StrLaws.split_free x c);rw [StrLaws.join_split] at h;exact h.symm
theorem zgc {a b:Str} (h:a.cps.toList=b.cps.toList):a=b:=Str.ext' (Array.toList_inj.mp h)
theorem zd1 (x:Str) (c:Nat):Txt.split x ⟨#[c]⟩=(rZ c x.cps.toList).map fun l=>⟨l.toArray⟩:=by
 rw [← dA,List.map_map]
 conv=>lhs;rw [← List.map_id (Txt.split x ⟨#[c]⟩)]
 exact List.map_congr_left fun a _=>by simp
def wd (l:List Nat):List (List Nat):=(rZ 32 l).filter fun w=>!w.isEmpty
theorem zhT:wd []=[]:=rfl
theorem nB (a b:List Nat):wd (a++32::b)=wd a++wd b:=by unfold wd;rw [zaM,List.filter_append]
theorem zbU (b:List Nat):wd (32::b)=wd b:=nB [] b
theorem zf2 {l:List Nat} (h:32∉l):wd l=if l.isEmpty then [] else [l]:=by
 unfold wd;rw [sG h];cases l<;>rfl
theorem dJ:∀ (n:Nat) (b:List Nat),wd (List.replicate n 32++b)=wd b
 | 0,_=>rfl
 |n+1,b=>by rw [List.replicate_succ];exact (zbU _).trans (dJ n b)
theorem zhV (n:Nat) (a b:List Nat):wd (a++(List.replicate (n+1) 32++b))=wd a++wd b:=by
 rw [List.replicate_succ];show wd (a++32::(List.replicate n 32++b))=_;rw [nB,dJ]
end L3
namespace L3
open PySem PySem.Spec PyProof.Rows L2 PySem.SeqAt PySem.Builtin PySem.Builtin.Str PySem.StrLaws
inductive Rp (y z:List Nat):List Nat->List Nat->Prop where
 |nil:Rp y z [] []
 |hit {r s:List Nat}:Rp y z r s->Rp y z (y++r) (z++s)
 |skip {k:Nat} {r s:List Nat}:¬ y <+: k::r->Rp y z r s->Rp y z (k::r) (k::s)
theorem Rp.det {y z:List Nat} (hy:y≠[]):∀ {x s s':List Nat},Rp y z x s->Rp y z x s'->s=s':=by
 intro x s s' h
 induction h generalizing s' with
 |nil =>
  intro h';generalize e:([]:List Nat)=x at h'
  cases h' with
  |nil=>rfl
  |hit _=>exact absurd (List.append_eq_nil_iff.mp e.symm).1 hy
  |skip _ _=>cases e
 | @hit r s _ ih =>
  intro h';generalize e:y++r=x at h'
  cases h' with
  |nil=>exact absurd (List.append_eq_nil_iff.mp e).1 hy
  |hit h2=>rw [List.append_cancel_left e] at ih;rw [ih h2]
  |skip n _=>exact absurd ⟨r,e⟩ n
 | @skip k r s n _ ih =>
  intro h';generalize e:k::r=x at h'
  cases h' with
  |nil=>cases e
  |hit h2=>exact absurd ⟨_,e.symm⟩ n
  |skip n2 h2=>cases e;rw [ih h2]
theorem fL (x y:Str) (i:Nat) (hi:i<=x.length):At x y x.length i↔y.cps.toList <+: x.cps.toList.drop i:=by
 unfold At;rw [subAt_eq,beq_iff_eq]
 constructor
 .intro h;exact ⟨_,by rw [← h.2];exact List.take_append_drop _ _⟩
 .rintro ⟨t,e⟩;rw [← e];have l:=congrArg List.length e;rw [zzW,List.length_drop] at l;have ly:y.cps.toList.length=y.length:=by simp [Str.length]
  have lx:x.cps.toList.length=x.length:=by simp [Str.length]
  refine ⟨by omega,?_⟩;rw [← ly,List.take_left]
theorem uB (x:Str):x.cps.toList.length=x.length:=by simp [Str.length]
theorem zas {y z:List Nat} {x:List Nat} {s:List Nat}:∀ (n a:Nat),a+n<=x.length->(∀ k,a<=k->k<a+n->¬ y <+: x.drop k)->Rp y z (x.drop (a+n)) s->Rp y z (x.drop a) ((x.drop a).take n++s)
 | 0,a,_,_,h=>by simpa using h
 |n+1,a,hl,hn,h=>by
  have ih:=zas n (a+1) (by omega) (fun k h1 h2=>hn k (by omega) (by omega)) (by rw [show a+1+n=a+(n+1) by omega];exact h);have e:x.drop a=x[a]::x.drop (a+1):=by rw [List.drop_eq_getElem_cons (by omega)]
  rw [e,List.take_succ_cons];refine .skip ?_ ih;rw [← e];exact hn a (zzR _) (by omega)
theorem zfj {y z:List Nat} (hy:y≠[]) {x:List Nat} {a:Nat} (ha:a<=x.length) (hn:∀ k,a<=k->k<x.length->¬ y <+: x.drop k):Rp y z (x.drop a) (x.drop a):=by
 have:=zas (z:=z) (s:=[]) (x.length-a) a (by omega) (fun k h1 h2=>hn k h1 (by omega)) (by rw [show a+(x.length-a)=x.length by omega,List.drop_length];exact .nil)
 rwa [List.append_nil,List.take_of_length_le (by rw [List.length_drop];omega)] at this
theorem za1 {x y z:Str} (hy:y.cps.toList≠[]):∀ (cuts:List Nat) (a f:Nat),a<=x.length->ChainG x y x.length a cuts f->(∀ k,f<=k->¬ At x y x.length k)->Rp y.cps.toList z.cps.toList (x.cps.toList.drop a) (Str.join z (partsFrom x y.length a cuts)).cps.toList
 | [],a,f,ha,hc,hn=>by
  have e:f=a:=hc;subst e;show Rp _ _ _ (strSub x f x.length).cps.toList;rw [strSub_toList,← uB x,List.take_of_length_le (by rw [List.length_drop];exact zzR _)];exact zfj hy (by rw [uB];exact ha) fun k h1 h2 z=>hn k h1 ((fL x y k (by rw [uB] at h2;omega)).mpr z)
 |c::r,a,f,ha,hc,hn=>by
  obtain ⟨h1,h2,h3,h4⟩:=hc;have hcl:c+y.length<=x.length:=h2.1;have ih:=za1 (z:=z) hy r (c+y.length) f hcl h4 hn;obtain ⟨p,q,e⟩:=partsFrom_ne x y.length (c+y.length) r
  have ej:Str.join z (partsFrom x y.length a (c::r))=strSub x a c++z++Str.join z (partsFrom x y.length (c+y.length) r):=by
   show Str.join z (strSub x a c::partsFrom x y.length (c+y.length) r)=_;rw [e];rfl
  rw [ej];simp only [Str.cps_append,Array.toList_append];rw [strSub_toList,List.append_assoc]
  have hit:Rp y.cps.toList z.cps.toList (x.cps.toList.drop c) (z.cps.toList++(Str.join z (partsFrom x y.length (c+y.length) r)).cps.toList):=by
   obtain ⟨t,et⟩:=(fL x y c (by omega)).mp h2
   have:t=x.cps.toList.drop (c+y.length):=by
    rw [← List.drop_drop,← et,← uB y,List.drop_left]
   rw [← et,this];exact .hit ih
  have:=zas (z:=z.cps.toList) (c-a) a (by rw [uB];omega) (fun k k1 k2 w=>h3 k k1 (by omega) ((fL x y k (by omega)).mpr w)) (by rw [show a+(c-a)=c by omega];exact hit);exact this
theorem ziw (x y z:Str) (hy:1<=y.length):Rp y.cps.toList z.cps.toList x.cps.toList (Txt.replace x y z).cps.toList:=by
 have hy':y.cps.toList≠[]:=fun e=>by have:=uB y;rw [e] at this;simp at this;omega
 obtain ⟨f,hc,hn⟩:=occ_tight x y hy;unfold Txt.replace;have y0:(y.length==0)=false:=by simp;omega
 rw [y0,Bool.false_and,Bool.or_false]
 split
 .rename_i e;have e:=List.isEmpty_iff.mp e;rw [e] at hc;have ef:f=0:=hc;subst ef;have:=zfj (z:=z.cps.toList) hy' (x:=x.cps.toList) (a:=0) (Nat.zero_le _) fun k h1 h2 w=>hn k h1 ((fL x y k (by rw [uB] at h2;omega)).mpr w);simpa using this
 .rw [glued_eq_join,partsBetween_eq];have:=za1 (z:=z) hy' _ 0 f (Nat.zero_le _) hc hn;simpa using this
end L3
namespace L3
open PySem PySem.Spec PyProof.Rows L2 PySem.SeqAt
section
variable {q : Pr} {k : Nat} {M1 M2 : MC} {n1 n2 q1 q2 : Str} {st1 st2 : Stmt} {f1 f2 : Addr} {fd1 fd2 : FuncData} {ps1 ps2 : List Str} {sp1 sp2 : Nat → sC} {b1 b2 : ISs} {Γ : Fn3 → Ctx3}
theorem zgm (F1:FunD q.K n1 q1 st1 .none f1 fd1) (S1:FnScope M1.N ps1 (zX st1)) (hm1:q.mg n1=some (.ref f1)) (hb1:kP q.K fd1 ps1 []) (F2:FunD q.K n2 q2 st2 .none f2 fd2) (S2:FnScope M2.N ps2 (zX st2)) (hm2:q.mg n2=some (.ref f2)) (hb2:kP q.K fd2 ps2 [])
  (h0:∀ ws G Q,¬ sp2 0 ws G Q XN) (len1:∀ n ws G Q,sp1 n ws G Q XN->ws.length=ps1.length) (len2:∀ n ws G Q,sp2 n ws G Q XN->ws.length=ps2.length) (mono1:∀ n,uM ⟨n1,sp1 n⟩) (mono2:∀ n,uM ⟨n2,sp2 n⟩)
  (g:∀ e A,Room k A->qH (q.at A) e->Good (Γ e) (q.at A)) (eM1:∀ n,MOk (Γ ⟨n2,sp2 n⟩) M1 (zX st1)) (eM2:∀ n,MOk (Γ ⟨n1,sp1 n⟩) M2 (zX st2)) (look1:uJ b1 M1 (zI st1)=true) (look2:uJ b2 M2 (zI st2)=true)
  (hd1:∀ n ws G Q,sp1 n ws G Q XN->yX (Γ ⟨n2,sp2 n⟩) XN b1 { nx:=fun _ G'=>Q .non G',rt:=Q } (yO M1.N ws) G)
  (hd2:∀ n ws G Q,sp2 (n+1) ws G Q XN->yX (Γ ⟨n1,sp1 n⟩) XN b2 { nx:=fun _ G'=>Q .non G',rt:=Q } (yO M2.N ws) G) :
  ∀ n,FnOk q.prog q.w q.K q.mg q.base CX0 (k+2 * n+1) f1 fd1 ps1 (jR q.K (sp1 n))/\FnOk q.prog q.w q.K q.mg q.base CX0 (k+2 * n) f2 fd2 ps2 (jR q.K (sp2 n)):=by
 have step:∀ n,FnOk q.prog q.w q.K q.mg q.base CX0 (k+2 * n) f2 fd2 ps2 (jR q.K (sp2 n))->FnOk q.prog q.w q.K q.mg q.base CX0 (k+2 * n+1) f1 fd1 ps1 (jR q.K (sp1 n)):=fun n P =>
  sI (k:=k+2 * n) F1 S1 (fun A hr=>g _ A (hr.mono (by omega)) (qK P hm2 F2.kp hb2 (mono2 n) hr (zzR _))) (eM1 n) look1 (len1 n) (hd1 n)
 intro n
 induction n with
 |zero =>
  have P:FnOk q.prog q.w q.K q.mg q.base CX0 (k+2 * 0) f2 fd2 ps2 (jR q.K (sp2 0)):=⟨fun vs H Q E ⟨ws,G,_,_,h⟩=>absurd h (h0 _ _ _),fun A outer s H args us vs Q E _ _ _ _ ⟨ws,G,_,_,h⟩=>absurd h (h0 _ _ _),fun x _ _ A outer s H args us vs Q E _ _ _ _ ⟨ws,G,_,_,h⟩=>absurd h (h0 _ _ _)⟩;exact ⟨step 0 P,P⟩
 |succ n ih =>
  have P:FnOk q.prog q.w q.K q.mg q.base CX0 (k+2 * (n+1)) f2 fd2 ps2 (jR q.K (sp2 (n+1))) :=
   sI (k:=k+2 * n+1) F2 S2 (fun A hr=>g _ A (hr.mono (by omega)) (qK ih.1 hm1 F1.kp hb1 (mono1 n) hr (zzR _))) (eM2 n) look2 (len2 (n+1)) (hd2 n)
  exact ⟨step (n+1) P,P⟩
end
end L3
namespace L2
open PySem PySem.Spec PyProof.Rows
section
variable {X : Cx} {tg : Expr}
end
end L2
namespace L3
open PySem PySem.Spec PyProof.Rows L2 PySem.SeqAt
end L3
namespace PySem
open Sem (wp)
section
variable {prog : Program} {w : World} {A : Around} {E : Value → Shared → Prop} {s : Shared}
abbrev pV (h:Heap) (e it:Addr) (i:Int) (f0 f1 old:Value):Prop :=
 h.get? e=some { cls:=.type "enumerate", dict:=none,data:=.fields #[f0,f1,.ref it,rawInt i,.none,old],slots:=#[] }
def F0 (v:Value):Prop:=v=.none\/∃ T:Addr,v=rawInt T
def F1 (v:Value):Prop:=v=.bool false\/v=.bool true
theorem zhv {b:Bool} {e it l:Addr} {k:Nat} {m:Int} {xs:Array Value} {x f0 f1 old:Value} {Q:Value->Shared->Prop} (hne:e≠it) (hle:l≠e) (h0:F0 f0) (h1:F1 f1) (he:pV s.heap e it m f0 f1 old)
  (hi:SIt b s.heap it l k) (hl:SSq b s.heap l xs) (hx:xs[k]?=some x)
  (hQ:∀ h' tk t f0' f1' old',0<tk->F0 f0'->F1 f1'->pV h' e it (m+1) f0' f1' old'->SIt b h' it l (k+1)->h'.get? s.heap.objs.size=some { cls:=.type "tuple", data:=.seq #[.int m t,x] }->h'.objs.size=s.heap.objs.size+1 ->
   (∀ c o,c≠e->c≠it->s.heap.get? c=some o->h'.get? c=some o)->Q (.ref s.heap.objs.size) { s with heap:=h',toks:=tk }) :
  wpAny (model prog w) A (Builtin.«enumerate.__next__» ⟨[.ref e],[]⟩) (fun fin z=>∃ v,fin=.done (.ret v)/\Q v z) E s:=by
 obtain ⟨hp,g,d,tk,os⟩:=s;have le:e<hp.objs.size:=Heap.lt_size he;refine wpAny_bind (m:=field (.ref e) 2) (wpAny_field he rfl (x:=.ref it) rfl (wpAny_bind ?_));refine (zd7 hi hl hx fun g1 i1 s1=>?_);replace s1:Heap.SameBut it hp g1:=s1;have e1:pV g1 e it m f0 f1 old:=(s1.2 e hne).trans he;show wpAny _ _ (field (.ref e) 3 >>= _) _ _ ⟨g1,g,d,tk,os⟩;refine wpAny_bind (wpAny_field e1 rfl (x:=rawInt m) rfl ?_);show wpAny _ _ (field (.ref e) 4 >>= _) _ _ ⟨g1,g,d,tk,os⟩;refine wpAny_bind (wpAny_field e1 rfl (x:=.none) rfl ?_);show wpAny _ _ (mkInt m >>= _) _ _ ⟨g1,g,d,tk,os⟩;refine wpAny_bind (wpAny_mkInt ?_);show wpAny _ _ (setField (.ref e) 3 (rawInt (m+1)) >>= _) _ _ ⟨g1,g,d,tk+1,os⟩;refine wpAny_bind (wpAny_setField_rec e1 (by simp) fun g2 e2 s2=>?_);replace s2:Heap.SameBut e g1 g2:=s2;replace e2:pV g2 e it (m+1) f0 f1 old:=e2;show wpAny _ _ (setField (.ref e) 4 .none >>= _) _ _ ⟨g2,g,d,tk+1,os⟩;refine wpAny_bind (wpAny_setField_rec e2 (by simp) fun g3 e3 s3=>?_);replace s3:Heap.SameBut e g2 g3:=s3;replace e3:pV g3 e it (m+1) f0 f1 old:=e3;show wpAny _ _ (newTuple [.int m tk,x] >>= _) _ _ ⟨g3,g,d,tk+1,os⟩;refine wpAny_bind (wpAny_newTuple ?_);have e4:pV (g3.push { cls:=.type "tuple", data:=.seq #[.int m tk,x] }) e it (m+1) f0 f1 old:=Heap.get?_push_of_some _ e3;generalize hh:g3.push { cls:=.type "tuple", data:=.seq #[.int m tk,x] }=g4 at e4;have hsz:g3.objs.size=hp.objs.size:=by rw [s3.1,s2.1,s1.1]
 have t4:g4.get? hp.objs.size=some { cls:=.type "tuple", data:=.seq #[.int m tk,x] }:=by rw [← hh,← hsz];exact Heap.get?_push_size _ rfl
 have z4:g4.objs.size=hp.objs.size+1:=by rw [← hh,Heap.size_push,hsz]
 have k4:∀ c o,c≠e->c≠it->hp.get? c=some o->g4.get? c=some o:=fun c o n1 n2 q=>by
  rw [← hh];exact Heap.get?_push_of_some _ (s3.extBut c o n1 (s2.extBut c o n1 (s1.extBut c o n2 q)))
 have i4:SIt b g4 it l (k+1):=i1.at fun o q=>by rw [← hh];exact Heap.get?_push_of_some _ (s3.extBut it o hne.symm (s2.extBut it o hne.symm q))
 show wpAny _ _ (Builtin.SmallTypes.ownedTupleIsFree (.ref e) >>= _) _ _ ⟨g4,g,d,tk+1,os⟩;rw [hsz]
 clear hh e3 s3 e2 s2 e1 s1 i1 hsz g3 g2 g1
 have free:wpAny (model prog w) A (do
   rule "enumerate.__next__.owned-tuple-again"
   let old ← field (.ref e) 5
   setField (.ref e) 5 x
   Builtin.SmallTypes.ownedTupleHandOut (.ref e) (.ref hp.objs.size)
   letGo [old] [.ref hp.objs.size]
   ret (.ref hp.objs.size)) (fun fin s'=>∃ v,fin=.done (.ret v)/\Q v s') E ⟨g4,g,d,tk+1,os⟩:=by
  refine wpAny_bind (wpAny_rule ?_);refine wpAny_bind (wpAny_field e4 rfl (x:=old) rfl ?_);refine wpAny_bind (wpAny_setField_rec e4 (by simp) fun g5 e5 s5=>?_);replace s5:Heap.SameBut e g4 g5:=s5;replace e5:pV g5 e it (m+1) f0 f1 x:=e5;show wpAny _ _ (Builtin.SmallTypes.ownedTupleHandOut (.ref e) (.ref hp.objs.size) >>= _) _ _ ⟨g5,g,d,tk+1,os⟩;refine wpAny_bind ?_;unfold Builtin.SmallTypes.ownedTupleHandOut;refine wpAny_bind (wpAny_setField_rec e5 (by simp) fun g6 e6 s6=>?_);replace s6:Heap.SameBut e g5 g6:=s6;replace e6:pV g6 e it (m+1) (rawInt hp.objs.size) f1 x:=e6;refine wpAny_setField_rec e6 (by simp) fun g7 e7 s7=>?_;replace s7:Heap.SameBut e g6 g7:=s7;replace e7:pV g7 e it (m+1) (rawInt hp.objs.size) (.bool false) x:=e7;have up:∀ c o,c≠e->g4.get? c=some o->g7.get? c=some o:=fun c o n q=>s7.extBut c o n (s6.extBut c o n (s5.extBut c o n q));exact wpAny_bind (wpAny_letGo (wpAny_pure ⟨_,rfl,hQ g7 (tk+1) tk _ _ _ (Nat.succ_pos _) (.inr ⟨_,rfl⟩) (.inl rfl) e7 (i4.at fun o q=>up it o hne.symm q) (up _ _ (Nat.ne_of_gt le) t4) (by rw [s7.1,s6.1,s5.1,z4]) fun c o n1 n2 q=>up c o n1 (k4 c o n1 n2 q)⟩))
 refine wpAny_bind ?_;unfold Builtin.SmallTypes.ownedTupleIsFree;refine wpAny_bind (wpAny_field e4 rfl (x:=f0) rfl ?_);rcases h0 with rfl|⟨T,rfl⟩
 .exact wpAny_pure free
 .show wpAny _ _ (loadIfAlive (Int.toNat T) >>= _) _ _ _;refine wpAny_bind (zae ?_)
  cases hT:g4.get? (Int.toNat T) with
  |none=>exact wpAny_pure free
  |some oT =>
   show wpAny _ _ (field (.ref e) 1 >>= _) _ _ _;refine wpAny_bind (wpAny_field e4 rfl (x:=f1) rfl ?_);rcases h1 with rfl|rfl
   .refine wpAny_bind (wpAny_setField_rec e4 (by simp) fun g5 e5 s5=>?_);replace s5:Heap.SameBut e g4 g5:=s5;replace e5:pV g5 e it (m+1) (rawInt T) (.bool true) old:=e5;refine wpAny_pure (wpAny_pure ⟨_,rfl,hQ g5 (tk+1) tk _ _ _ (Nat.succ_pos _) (.inr ⟨_,rfl⟩) (.inr rfl) e5 (i4.at fun o q=>s5.extBut it o hne.symm q) (s5.extBut _ _ (Nat.ne_of_gt le) t4) (by rw [s5.1,z4]) fun c o n1 n2 q=>s5.extBut c o n1 (k4 c o n1 n2 q)⟩)
   .exact wpAny_pure (wpAny_pure ⟨_,rfl,hQ g4 (tk+1) tk _ _ _ (Nat.succ_pos _) (.inr ⟨_,rfl⟩) (.inr rfl) e4 i4 t4 z4 k4⟩)
end
end PySem
namespace PySem
open Sem (wp)
abbrev enH (b:Bool) (h:Heap) (l:Addr):Heap:=h.push { cls:=.type (itc b),data:=.fields #[.ref l,.int 0 0] }
theorem zad (b:Bool) (l:Addr) (xs:Array Value) :
  Meets (Builtin.«enumerate.__new__» ⟨[.type "enumerate", .ref l],[]⟩) (fun _ R s=>SSq b s.heap l xs /\
   R (.ok (.ret (.ref (enH b s.heap l).objs.size))) { s with heap:=(enH b s.heap l).push { cls:=.type "enumerate", data:=.fields #[.none,.bool false,.ref s.heap.objs.size,rawInt 0,.none,.none] } }) :=
 .of_wp fun prog w A R s h=>by
  obtain ⟨hp,g,d,tk,os⟩:=s;obtain ⟨hl,h⟩:=h;have hsub:=sub_enumerate;have hL:SSq b (Shared.heap ⟨hp,g,d,tk,os⟩) l xs:=hl
  wp_walk
  refine wpAny_stack_any fun st=>wpAny_pure ?_
  split
  .rename_i c _ _ _ _ _;cases (c==Value.type "enumerate")<;>(wp_walk using mD hL;exact ⟨_,rfl,h⟩)
  .wp_walk using mD hL
   exact ⟨_,rfl,h⟩
section
variable {prog : Program} {w : World} {A : Around} {E : Value → Shared → Prop} {s : Shared}
theorem zhF {b:Bool} {l:Addr} {xs:Array Value} {Q:Value->Shared->Prop} (hl:SSq b s.heap l xs)
  (h:∀ h',pV h' (s.heap.objs.size+1) s.heap.objs.size 0 .none (.bool false) .none->SIt b h' s.heap.objs.size l 0->(∀ c o,s.heap.get? c=some o->h'.get? c=some o)->Q (.ref (s.heap.objs.size+1)) { s with heap:=h' }) :
  wpAny (model prog w) A (call (.type "enumerate") [.ref l]) Q E s:=by
 refine callType_new F.called_enumerate (by decide) (F.typeCall_enumerate_1 _) (F.newCall_enumerate_1 _) (fun obj=>F.args_object_init_2 obj _) F.entry_enumerate_new (zad b l xs) ⟨hl,?_⟩;have hz:(enH b s.heap l).objs.size=s.heap.objs.size+1:=Heap.size_push ..;show _/\_;rw [hz]
 have he:pV ((enH b s.heap l).push { cls:=.type "enumerate", data:=.fields #[.none,.bool false,.ref s.heap.objs.size,rawInt 0,.none,.none] }) (s.heap.objs.size+1) s.heap.objs.size 0 .none (.bool false) .none:=by
  have:=Heap.get?_push_size (enH b s.heap l) (o:={ cls:=.type "enumerate", data:=.fields #[.none,.bool false,.ref s.heap.objs.size,rawInt 0,.none,.none] }) rfl;rw [hz] at this;exact this
 exact ⟨⟨_,he,rfl⟩,h _ he ⟨_,Heap.get?_push_of_some _ (Heap.get?_push_size _ rfl),rfl,rfl⟩ fun c o x=>Heap.get?_push_of_some _ (Heap.get?_push_of_some _ x)⟩
end
end PySem
namespace L2
open PySem PySem.Spec PyProof.Rows
def Ite (st:Int) (b:Bool) (K:PySem.W.Frag) (l:Addr):It where
 go:=fun i H=>∃ xs x,SqB b K H l xs/\xs[i]?=some x
 yld:=fun i H v H'=>∃ p x,v=.ref p/\H p=none/\H'=xR H p (.tup [.int (i+st),x])/\∀ xs,SqB b K H l xs->xs[i]?=some x
 stop:=fun i H=>∃ xs,SqB b K H l xs/\xs.length<=i
def EnSt (st:Int) (b:Bool) (e it l:Addr) (i:Nat) (h:Heap):Prop:=∃ f0 f1 old,F0 f0/\F1 f1/\pV h e it (i+st) f0 f1 old/\SIt b h it l i
section
variable {sn : Int} {b : Bool} {e it l : Addr}
theorem EnSt.keep {i:Nat} {h h':Heap} (x:EnSt sn b e it l i h) (k:∀ c∈[e,it],∀ o,h.get? c=some o->h'.get? c=some o):EnSt sn b e it l i h':=by
 obtain ⟨f0,f1,old,a0,a1,he,hi⟩:=x;exact ⟨f0,f1,old,a0,a1,k e (by simp) _ he,hi.at fun o q=>k it (by simp) o q⟩
theorem en_go {P:Program} {w:World} {A:Around} {E:Value->Shared->Prop} {s:Shared} {tg:Expr} {u:Value} {i:Nat} {Q:Unit->Shared->Prop} (hne:e≠it) (st:EnSt sn b e it l i s.heap)
  (h:∀ h',EnSt sn b e it l i h'->(∀ c o,c≠e->s.heap.get? c=some o->h'.get? c=some o)->Q () { s with heap:=h' }):wpAny (model P w) A (letOwnedTupleGo tg (.ref e) u) Q E s:=by
 have stay:Q () s:=h s.heap st fun _ _ _ z=>z
 have core:wpAny (model P w) A (do
   let (.ref r,.ref t):=(Value.ref e,u)|return
   let o ← load r
   match o.cls,o.data with
   | .type n,.fields vs =>
    if ["enumerate", "zip", "dict_itemiterator", "dict_reverseitemiterator", "odict_iterator", "itertools.zip_longest", "itertools.pairwise"].contains n&&vs[0]?==some (rawInt t) then
     rule "for.unpacks-the-owned-tuple"
     updateField r 0 .none
   |_,_=>pure ()) Q E s:=by
  cases u with
  |ref t =>
   obtain ⟨f0,f1,old,a0,a1,he,hi⟩:=st;refine wpAny_bind (wpAny_load he ?_);dsimp only
   split
   .refine wpAny_bind (wpAny_rule ?_);show wpAny _ _ (setField (.ref e) 0 .none) Q E s;exact wpAny_setField_rec he (by simp) fun h' he' hs'=>h h' ⟨.none,f1,old,.inl rfl,a1,he',hi.at fun o q=>hs'.extBut it o hne.symm q⟩ fun c o hc q=>hs'.extBut c o hc q
   .exact wpAny_pure stay
  |_=>exact wpAny_pure stay
 cases tg with
 |Tuple es x p=>exact core
 |List es x=>exact core
 |_=>exact wpAny_pure stay
theorem zhu (P:Program) (w:World) (K:PySem.W.Frag) (tg:Expr) (hne:e≠it) (n1:l≠e) (n2:l≠it):Turn P w K tg (Ite sn b K l) [e,it] e (EnSt sn b e it l) where
 mem:=by simp
 obj:=fun i h x c hc=>by
  obtain ⟨f0,f1,old,_,_,he,o,q1,q2,q3⟩:=x;simp only [List.mem_cons,List.not_mem_nil,or_false] at hc;rcases hc with rfl|rfl
  .exact ⟨_,he,fun v z=>nomatch z⟩
  .exact ⟨o,q1,fun v z=>by rw [q3] at z;cases z⟩
 keep:=fun i h h' x k=>x.keep k
 item:=by
  intro X e1 e2 e3 hc i pins s σ H E I hf st go;subst e1;subst e2;subst e3;obtain ⟨xs,x,q1,ex⟩:=go;obtain ⟨its,vx,sx,_⟩:=I.sqB q1;obtain ⟨u,eu,ru⟩:=vx.get ex;obtain ⟨f0,f1,old,a0,a1,he,hi⟩:=id st;have hT:s.TypeIs (.ref e) "enumerate" := ⟨_,he,rfl⟩;have le:e<s.heap.objs.size:=Heap.lt_size he;have li:it<s.heap.objs.size:=by obtain ⟨o,ho,_⟩:=hi;exact Heap.lt_size ho
  have hn:H s.heap.objs.size=none:=I.hok.fresh (zzR _);unfold pyNext
  refine wpAny_bind (wpAny_attempt (wpAny_callSpecial?_slot (name:=Str.ofString "__next__") hT F.slot_enumerate_next (wpAny_call_entry F.slot_enumerate_next hT F.entry_enumerate_next
   (zhv hne n1 a0 a1 he hi sx (x:=u) (by simpa using eu) fun h' tk t f0' f1' old' h0 b0 b1 he' hi' ht hz k=>wpAny_pure ⟨_,rfl,?_⟩) (F.args_enumerate_next_1 _))))
  refine en_go (sn:=sn) (i:=i+1) (s:={ s with heap:=h',toks:=tk }) hne ⟨f0',f1',old',b0,b1,by rw [show (((i+1:Nat):Int)+sn)=(i:Int)+sn+1 by omega];exact he',hi'⟩ fun h2 st2 k2=>?_
  have J:Inv X pins σ H { s with heap:=h2,toks:=tk }:=I.turns hf fun c o hc q=>by
   simp only [List.mem_cons,List.not_mem_nil,or_false,not_or] at hc;exact k2 c o hc.1 (k c o hc.1 hc.2 q)
  refine ⟨.ref s.heap.objs.size,xR H s.heap.objs.size (.tup [.int (i+sn),x]),?_,rfl,⟨_,x,rfl,hn,rfl,fun ys q'=>by rw [I.sqB_inj q' q1];exact ex⟩,st2,fun c hc=>?_⟩
  .refine J.adopt (I.off (zzR _)) hn ⟨by show 2<=sizeLine;rw [sizeLine_eq];decide,[.int (i+sn) t,u],.cons ⟨t,rfl⟩ (.cons ru .nil),⟨_,k2 _ _ (Nat.ne_of_gt le) ht,rfl,_,rfl⟩⟩
  .have:c≠s.heap.objs.size:=by
    simp only [List.mem_cons,List.not_mem_nil,or_false] at hc;rcases hc with rfl|rfl
    .exact Nat.ne_of_lt le
    .exact Nat.ne_of_lt li
   rw [zG this];exact (hf c hc).1
 done:=by
  intro X e1 e2 e3 hc i pins s σ H E I hf st stop;subst e1;subst e2;subst e3;obtain ⟨xs,q1,hx⟩:=stop;obtain ⟨its,vx,sx,_⟩:=I.sqB q1;obtain ⟨f0,f1,old,a0,a1,he,hi⟩:=id st;have hT:s.TypeIs (.ref e) "enumerate" := ⟨_,he,rfl⟩;have hl:=vx.length;unfold pyNext;refine wpAny_bind (wpAny_attempt (wpAny_callSpecial?_slot (name:=Str.ofString "__next__") hT F.slot_enumerate_next (wpAny_call_entry F.slot_enumerate_next hT F.entry_enumerate_next ?_ (F.args_enumerate_next_1 _))));show wpAny _ _ (field (.ref e) 2 >>= _) _ _ _;refine wpAny_bind (wpAny_field he rfl (x:=.ref it) rfl ?_);refine wpAny_bind (zgg (A:=X.A.in1) (I.ok.hd hc) hi sx (by simp;omega) fun h' x k hx'=>?_);obtain ⟨o,ho,hc'⟩:=hx';refine wpAny_bind (wpAny_isInstance (T := "StopIteration") (b:=true) ⟨o,ho,hc'⟩ isSubtype_stop ?_);refine wpAny_pure ⟨rfl,I.turns (t':=s.toks) hf fun c o hc q=>?_⟩;simp only [List.mem_cons,List.not_mem_nil,or_false,not_or] at hc;exact k c o hc.2 q
 self:=fun A i s Q E st h=>by
  obtain ⟨f0,f1,old,a0,a1,he,hi⟩:=st;have hT:s.TypeIs (.ref e) "enumerate" := ⟨_,he,rfl⟩;have body:wpAny (model P w) A.in1 (ret (.ref e)) (fun fin z=>∃ v,fin=.done (.ret v)/\∃ T id,z.TypeIs v T/\typeLookup (.type T) "__next__" = pure (some id)/\Q v z) E s:=wpAny_pure ⟨_,rfl,_,_,hT,F.slot_enumerate_next.lookup,h⟩;exact wpAny_pyIter_slot hT F.slot_enumerate_iter (wpAny_call_entry F.slot_enumerate_iter hT F.entry_enumerate_iter body (F.args_enumerate_iter_1 _))
end
end L2
namespace L3
open PySem PySem.Spec PyProof.Rows L2 PySem.SeqAt
def enW (st:Int) (xs:List W):List W:=(List.range xs.length).map fun i=>W.tup [.int ((i:Nat)+st),xs.getD i .non]
def enI (ws:List W) (G:Hw) (R:List W->(Hw->Prop)->Hw->Prop):Prop:=match ws with
 | [x]=>∃ xs,vI G x=some xs/\R (enW 0 xs) (fun G'=>vI G' x=some xs) G
 |_=>False
theorem zeY:fJ ⟨"enumerate", enI⟩:=by
 intro ws G R R' k h;replace h:enI ws G R:=h;show enI ws G R';unfold enI at h ⊢
 split at h
 .obtain ⟨xs,e1,h⟩:=h;exact ⟨xs,e1,k _ _ _ h⟩
 .exact h.elim
theorem zjN {sn:Int} {K:yS} {H1:Hp} {G1:Hw} {x:W} {a:Addr} {vx:List V} {xs:List W} (rx:wX K H1 x (.ref a)) (ex:vI G1 x=some xs) (sx:SqB (bOf x) K H1 a vx) (rr:zF K H1 xs vx) :
  ItIs K (Ite sn (bOf x) K a) H1 (enW sn xs) (fun G'=>vI G' x=some xs) where
 go:=fun i H G g ab st hi=>by
  obtain ⟨vx',sx',rx'⟩:=zcd g ab rx ex sx rfl st rr;have h1:=rx'.length;have hi:i<xs.length:=by simpa [enW] using hi
  exact ⟨vx',vx'[i]'(by omega),sx',List.getElem?_eq_getElem _⟩
 yld:=fun i H G v H' g ab st hi yl=>by
  obtain ⟨vx',sx',rx'⟩:=zcd g ab rx ex sx rfl st rr;obtain ⟨p,x',rfl,hp,rfl,e2⟩:=yl;obtain ⟨wx,ewx,rpx⟩:=rx'.get' (e2 vx' sx');have hi:i<xs.length:=by simpa [enW] using hi
  have gr:yM K H (xR H p (.tup [.int (i+sn),x'])):=wZ hp;refine ⟨.tup [.int (i+sn),wx],?_,gr,⟨p,[.int (i+sn),x'],rfl,.of yD,⟨_,_,rfl,rfl,_,_,rfl,rpx.mono gr,rfl⟩⟩,ab.tup hp⟩;simp [enW,hi];rw [List.getElem?_eq_getElem hi] at ewx;exact Option.some.inj ewx
 stop:=fun i H G g ab st hi=>by
  obtain ⟨vx',sx',rx'⟩:=zcd g ab rx ex sx rfl st rr;have h1:=rx'.length;have hi:xs.length<=i:=by simpa [enW] using hi
  exact ⟨vx',sx',by omega⟩
theorem it_en {q:Pr} {A:Around} (hm:q.mg "enumerate" = none):ItE (q.at A) ⟨"enumerate", enI⟩:=by
 intro X fits gl tg args t qp pos mt hn pa hnil hdb hnm;have hm':X.mg "enumerate" = none:=by rw [fits.mg];exact hm
 intro pins s σ H R I h
 cases args with
 |nil =>
  obtain ⟨σ3,G,hs,ab,h⟩:=h;exact (hnil rfl _ _ _ h).elim
 |cons a r =>
  obtain ⟨s1,s2⟩:=xA (env:=X.env) (pos:=pos) hn;obtain ⟨σ3,G,hs,ab,h⟩:=h
  have h':=tR (S:=fun vs H1=>∃ x a1 vx,vs=[.ref a1]/\SqB (bOf x) X.K H1 a1 vx/\R (Ite 0 (bOf x) X.K a1) H1) mt hs ab h fun ws G1 vs H1 g1 hs1 rs a1 h=>by
   dsimp only at h;unfold enI at h
   split at h
   .rename_i x;obtain ⟨v1,rfl,r1⟩:=vQ rs;obtain ⟨xs,ex,h⟩:=h;obtain ⟨p1,vx,rfl,sx,rx⟩:=zd9 a1 r1 ex;exact ⟨x,p1,vx,rfl,sx,h _ H1 g1 a1 (zjN r1 ex sx rx)⟩
   .exact h.elim
  refine Call_ (tI I gl hm' (by decide +kernel:bootBuiltins "enumerate" = some (.type "enumerate")) (PyProof.Rows.callWith_type1 (yF (pa pos pins s σ H _ I h') fun us s1 ⟨vs,H1,I1,r1,q1⟩=>?_) s1 s2));obtain ⟨x,a1,vx,e,sx,q⟩:=q1;subst e;obtain ⟨u1,rfl,ru1⟩:=qA r1;cases (show u1=Value.ref a1 from ru1);obtain ⟨itx,vvx,ssx,hzx⟩:=I1.sqB sx
  have lt1:a1<s1.heap.objs.size:=by
   cases hb:bOf x<;>rw [hb] at ssx<;>(obtain ⟨o,ho,_⟩:=ssx;exact Heap.lt_size ho)
  refine zhF ssx fun h' z1 z2 z3=>?_;have J:Inv X pins σ H1 { s1 with heap:=h',toks:=s1.toks }:=I1.kept z3
  have hf:∀ b∈[s1.heap.objs.size+1,s1.heap.objs.size],uN X pins H1 b:=fun b hb=>by
   have hge:s1.heap.objs.size<=b:=by
    simp only [List.mem_cons,List.not_mem_nil,or_false] at hb;omega
   exact I1.fpOk hge (I1.hok.fresh hge)
  have tu:=zhu (sn:=0) (b:=bOf x) (e:=s1.heap.objs.size+1) (it:=s1.heap.objs.size) (l:=a1) X.prog X.w X.K tg (Nat.succ_ne_self _) (Nat.ne_of_lt (Nat.lt_succ_of_lt lt1)) (Nat.ne_of_lt lt1);have st:EnSt 0 (bOf x) (s1.heap.objs.size+1) s1.heap.objs.size a1 0 h':=⟨.none,.bool false,.none,.inl rfl,.inl rfl,z1,z2⟩;exact tu.self X.A 0 { s1 with heap:=h' } _ _ st ⟨_,_,_,_,H1,rfl,J,tu,st,hf,q⟩
abbrev eEn:It3:=⟨"enumerate", enI⟩
theorem zj4 {q:Pr} {A:Around} (hm:q.mg "enumerate" = none):ItE (q.at A) eEn/\fJ eEn:=⟨it_en hm,zeY⟩
end L3
namespace K14
open PySem PySem.Spec L2 L3
def fG (i:Nat):Stmt:=PySem.Challenge.pw_talkcourt_k14_texts_without_a_saying.main.body.getD i (.Pass ⟨0,0,0,0⟩)
def gls:List Str:=["LONGEST_NAME", "NO_NAMES", "JOINING", "BINDS", "TAKES", "MADE", "str", "tuple", "ValueError", "NoText", "NoBook", "NotLet", "NoMove", "NoPlan", "NoTalker", "NoPaper", "NoWeb", "NoRow", "NoName"]
def mts:List Str:=["pop", "join", "append", "index", "split"]
def its:List Str:=["range", "enumerate"]
def sxm:List (Scope->Expr->Option (List Expr)):=[lofM "reversed", pD ")" " ) ", pD "(" " ( ", pD "\n" " "]
def fns:List Str:=(["max", "len", "all", "list", "isinstance", "int", "_law_deal", "_law_draw", "_law_names", "_law_large", "_law_binds", "_law_at", "_law_text_words", "put_together", "take_left", "begin_side", "go_on", "read_joined", "is_name", "read_word"]:List Str)++(["words_between_blanks", "words_and_brackets", "read_saying", "_law_spoilt", "_law_refused", "_law_joined", "law"]:List Str)
/- fn: 0 max,1 len,2 all,3 list,4 isinstance,5 int,6 _law_deal,7 _law_draw,8 _law_names,9 _law_large,10 _law_binds,11 _law_at,12 _law_text_words,13 put_together,14 take_left,15 begin_side,16 go_on,17 read_joined,18 is_name,19 read_word,20 words_between_blanks,21 words_and_brackets,22 read_saying,23 _law_spoilt,24 _law_refused,25 _law_joined,26 law -/
abbrev jY:Stmt:=fG 32
def gQ:List Str:=["_law_script", "_law_base", "_law_cells", "_law_number", "_law_cell"]
def zbN:ISs:=(.cons (.asg 2 (.lc (.nm 0) ["_law_cell"] [] (.val (.sl (.var 0) (.yes (.var 1)) (.yes (.con (.int 63))))) .no (.call 0 (.cons (.var 0) (.cons (.bin .Sub (.con (.int 0)) (.var 0)) .nil)))))
 (.cons (.asg 3 (.bin .Add (.con (.int 7919)) (.var 1)))
 (.cons (.for (.nm 4) (.val (.var 2)) (.cons (.asg 3 (.bin .Mod (.bin .Add (.bin .Mult (.var 3) (.con (.int 69621))) (.bin .Mod (.var 4) (.con (.int 2147483629)))) (.con (.int 2147483647))))
 .nil))
 (.cons (.ret (.dct ["seed", "number", "left"] (.cons (.var 3) (.cons (.con (.int 0)) (.cons (.spc 0 (.cons (.lc (.nm 0) ["_law_cell"] [] (.val (.var 2)) (.yes (.cmp .GtE (.var 0) (.bin .Pow (.con (.int 10)) (.con (.int 18))))) (.var 0)) .nil)) .nil)))))
 .nil))))
def gI:MC:=⟨zX jY,gQ,(fun _=>true),fns.take 6,gls,mts,its,sxm,[]⟩
theorem zao:FnScope gQ ["_law_script", "_law_base"] (zX jY):=⟨rfl,rfl,rfl,by decide +kernel,rfl,by decide +kernel,by decide +kernel⟩
theorem dR:uJ zbN gI (zI jY)=true:=by decide +kernel
abbrev jZ:Stmt:=fG 33
def gR:List Str:=["_law_deal_here", "_law_many", "_law_number", "_law_one", "_law_other"]
def zbM:ISs:=(.cons (.whl (.and (.cmp .Eq (.ix (.var 0) (.con (.str "number"))) (.con (.int 0))) (.cmp .Gt (.call 1 (.cons (.ix (.var 0) (.con (.str "left"))) .nil)) (.con (.int 0)))) (.cons (.asgI (.var 0) (.con (.str "number")) (.mth 0 (.ix (.var 0) (.con (.str "left"))) .nil))
 .nil))
 (.cons (.asg 2 (.ix (.var 0) (.con (.str "number"))))
 (.cons (.ite (.cmp .Gt (.var 2) (.con (.int 0))) (.cons (.asgI (.var 0) (.con (.str "number")) (.bin .FloorDiv (.var 2) (.var 1)))
 (.cons (.ret (.bin .Mod (.var 2) (.var 1)))
 .nil)) .nil)
 (.cons (.asg 3 (.bin .Mod (.bin .Add (.bin .Mult (.ix (.var 0) (.con (.str "seed"))) (.con (.int 48271))) (.con (.int 7919))) (.con (.int 2147483647))))
 (.cons (.asgI (.var 0) (.con (.str "seed")) (.bin .Mod (.bin .Add (.bin .Mult (.var 3) (.con (.int 40692))) (.con (.int 104729))) (.con (.int 2147483399))))
 (.cons (.asg 4 (.bin .Mod (.bin .Mult (.ix (.var 0) (.con (.str "seed"))) (.ix (.var 0) (.con (.str "seed")))) (.con (.int 2147483563))))
 (.cons (.ret (.bin .Mod (.bin .Add (.bin .Mult (.bin .Mod (.bin .Mult (.var 3) (.var 3)) (.con (.int 2147483629))) (.con (.int 2147483563))) (.var 4)) (.var 1)))
 .nil)))))))
def gJ:MC:=⟨zX jZ,gR,(fun _=>true),fns.take 7,gls,mts,its,sxm,[]⟩
theorem zan:FnScope gR ["_law_deal_here", "_law_many"] (zX jZ):=⟨rfl,rfl,rfl,by decide +kernel,rfl,by decide +kernel,by decide +kernel⟩
theorem dS:uJ zbM gJ (zI jZ)=true:=by decide +kernel
abbrev wS:Stmt:=fG 34
def vC:List Str:=["_law_deal_here", "_law_many", "_law_letters", "_law_names_here", "_law_core", "_law_at_here", "_law_turn", "_law_k", "_law_name"]
def wO:ISs:=(.cons (.asg 2 (.con (.str "abcdefghijklmnopqrstuvwxyz")))
 (.cons (.asg 3 (.lst .nil))
 (.cons (.asg 4 (.mth 1 (.con (.str "")) (.cons (.lc (.nm 0) ["_law_k"] [2,0] (.blt 0 (.cons (.call 7 (.cons (.var 0) (.cons (.con (.int 5)) .nil))) .nil)) .no (.ix (.var 1) (.call 7 (.cons (.var 2) (.cons (.con (.int 26)) .nil))))) .nil)))
 (.cons (.asg 5 (.call 7 (.cons (.var 0) (.cons (.bin .Add (.call 1 (.cons (.var 4) .nil)) (.con (.int 1))) .nil))))
 (.cons (.asg 6 (.call 7 (.cons (.var 0) (.cons (.con (.int 26)) .nil))))
 (.cons (.for (.nm 7) (.blt 0 (.cons (.var 1) .nil)) (.cons (.asg 8 (.bin .Add (.bin .Add (.sl (.var 4) .no (.yes (.var 5))) (.ix (.var 2) (.bin .Mod (.bin .Add (.var 6) (.bin .Mult (.con (.int 7)) (.var 7))) (.con (.int 26))))) (.sl (.var 4) (.yes (.var 5)) .no)))
 (.cons (.ite (.cmp .In (.var 8) (.tup (.cons (.con (.str "and")) (.cons (.con (.str "or")) (.cons (.con (.str "not")) (.cons (.con (.str "then")) .nil)))))) (.cons (.asg 8 (.bin .Add (.var 8) (.con (.str "q"))))
 .nil) .nil)
 (.cons (.ex (.mth 2 (.var 3) (.cons (.var 8) .nil)))
 .nil))))
 (.cons (.ite (.and (.cmp .Gt (.var 1) (.con (.int 1))) (.cmp .Eq (.call 7 (.cons (.var 0) (.cons (.con (.int 2)) .nil))) (.con (.int 1)))) (.cons (.asgI (.var 3) (.con (.int 0)) (.bin .Add (.ix (.var 3) (.con (.int 0))) (.con (.str "z"))))
 .nil) .nil)
 (.cons (.ret (.var 3))
 .nil))))))))
def pQ:MC:=⟨zX wS,vC,(fun _=>true),fns.take 8,gls,mts,its,sxm,[]⟩
theorem bA:FnScope vC ["_law_deal_here", "_law_many"] (zX wS):=⟨rfl,rfl,rfl,by decide +kernel,rfl,by decide +kernel,by decide +kernel⟩
theorem gF:uJ wO pQ (zI wS)=true:=by decide +kernel
abbrev wR:Stmt:=fG 35
def vB:List Str:=["_law_deal_here", "_law_names_here", "_law_many", "_law_deep", "_law_way", "_law_left", "_law_one", "_law_sort"]
def xW:ISs:=(.cons (.ite (.or (.cmp .Eq (.var 2) (.con (.int 1))) (.cmp .Eq (.var 3) (.con (.int 0)))) (.cons (.ret (.tup (.cons (.con (.str "say")) (.cons (.ix (.var 1) (.call 7 (.cons (.var 0) (.cons (.call 1 (.cons (.var 1) .nil)) .nil)))) .nil))))
 .nil) .nil)
 (.cons (.asg 4 (.call 7 (.cons (.var 0) (.cons (.con (.int 5)) .nil))))
 (.cons (.ite (.or (.cmp .Eq (.var 2) (.con (.int 2))) (.cmp .Eq (.var 4) (.con (.int 3)))) (.cons (.ret (.tup (.cons (.con (.str "not")) (.cons (.call 9 (.cons (.var 0) (.cons (.var 1) (.cons (.bin .Sub (.var 2) (.con (.int 1))) (.cons (.bin .Sub (.var 3) (.con (.int 1))) .nil))))) .nil))))
 .nil) .nil)
 (.cons (.asg 5 (.bin .Add (.con (.int 1)) (.call 7 (.cons (.var 0) (.cons (.bin .Sub (.var 2) (.con (.int 2))) .nil)))))
 (.cons (.ite (.cmp .Eq (.var 4) (.con (.int 4))) (.cons (.asg 5 (.bin .FloorDiv (.bin .Sub (.var 2) (.con (.int 1))) (.con (.int 2))))
 .nil) .nil)
 (.cons (.asg 6 (.call 9 (.cons (.var 0) (.cons (.var 1) (.cons (.var 5) (.cons (.bin .Sub (.var 3) (.con (.int 1))) .nil))))))
 (.cons (.asg 7 (.ix (.lst (.cons (.con (.str "and")) (.cons (.con (.str "or")) (.cons (.con (.str "if")) .nil)))) (.call 7 (.cons (.var 0) (.cons (.con (.int 3)) .nil)))))
 (.cons (.ret (.tup (.cons (.var 7) (.cons (.var 6) (.cons (.call 9 (.cons (.var 0) (.cons (.var 1) (.cons (.bin .Sub (.bin .Sub (.var 2) (.con (.int 1))) (.var 5)) (.cons (.bin .Sub (.var 3) (.con (.int 1))) .nil))))) .nil)))))
 .nil))))))))
def pP:MC:=⟨zX wR,vB,(fun _=>true),fns.take 10,gls,mts,its,sxm,[]⟩
theorem zaa:FnScope vB ["_law_deal_here", "_law_names_here", "_law_many", "_law_deep"] (zX wR):=⟨rfl,rfl,rfl,by decide +kernel,rfl,by decide +kernel,by decide +kernel⟩
theorem gE:uJ xW pP (zI wR)=true:=by decide +kernel
abbrev wQ:Stmt:=fG 36
def vA:List Str:=["_law_saying"]
def qJ:ISs:=(.cons (.ret (.mth 3 (.lst (.cons (.con (.str "if")) (.cons (.con (.str "or")) (.cons (.con (.str "and")) (.cons (.con (.str "not")) (.cons (.con (.str "say")) .nil)))))) (.cons (.ix (.var 0) (.con (.int 0))) .nil)))
 .nil)
def pO:MC:=⟨zX wQ,vA,(fun _=>true),fns.take 10,gls,mts,its,sxm,[]⟩
theorem zab:FnScope vA ["_law_saying"] (zX wQ):=⟨rfl,rfl,rfl,by decide +kernel,rfl,by decide +kernel,by decide +kernel⟩
theorem gD:uJ qJ pO (zI wQ)=true:=by decide +kernel
abbrev jF:Stmt:=fG 37
def gP:List Str:=["_law_saying", "_law_least", "_law_words"]
def sD:ISs:=(.cons (.asg 2 (.call 11 (.cons (.var 0) .nil)))
 (.cons (.ite (.cmp .Lt (.call 10 (.cons (.var 0) .nil)) (.var 1)) (.cons (.ret (.bin .Add (.bin .Add (.lst (.cons (.con (.str "(")) .nil)) (.var 2)) (.lst (.cons (.con (.str ")")) .nil))))
 .nil) .nil)
 (.cons (.ret (.var 2))
 .nil)))
def zbe:MC:=⟨zX jF,gP,(fun _=>true),fns.take 11++(["_law_text_words"]:List Str),gls,mts,its,sxm,[]⟩
theorem zcg:FnScope gP ["_law_saying", "_law_least"] (zX jF):=⟨rfl,rfl,rfl,by decide +kernel,rfl,by decide +kernel,by decide +kernel⟩
theorem zaB:uJ sD zbe (zI jF)=true:=by decide +kernel
abbrev yK:Stmt:=fG 38
def jK:List Str:=["_law_saying", "_law_binds_here"]
def wJ:ISs:=(.cons (.ite (.cmp .Eq (.ix (.var 0) (.con (.int 0))) (.con (.str "say"))) (.cons (.ret (.lst (.cons (.ix (.var 0) (.con (.int 1))) .nil)))
 .nil) .nil)
 (.cons (.asg 1 (.call 10 (.cons (.var 0) .nil)))
 (.cons (.ite (.cmp .Eq (.ix (.var 0) (.con (.int 0))) (.con (.str "not"))) (.cons (.ret (.bin .Add (.lst (.cons (.con (.str "not")) .nil)) (.call 11 (.cons (.ix (.var 0) (.con (.int 1))) (.cons (.con (.int 3)) .nil)))))
 .nil) .nil)
 (.cons (.ite (.cmp .Eq (.ix (.var 0) (.con (.int 0))) (.con (.str "if"))) (.cons (.ret (.bin .Add (.bin .Add (.call 11 (.cons (.ix (.var 0) (.con (.int 1))) (.cons (.con (.int 1)) .nil))) (.lst (.cons (.con (.str "then")) .nil))) (.call 11 (.cons (.ix (.var 0) (.con (.int 2))) (.cons (.con (.int 0)) .nil)))))
 .nil) .nil)
 (.cons (.ret (.bin .Add (.bin .Add (.call 11 (.cons (.ix (.var 0) (.con (.int 1))) (.cons (.var 1) .nil))) (.lst (.cons (.ix (.var 0) (.con (.int 0))) .nil))) (.call 11 (.cons (.ix (.var 0) (.con (.int 2))) (.cons (.bin .Add (.var 1) (.con (.int 1))) .nil)))))
 .nil)))))
def kU:MC:=⟨zX yK,jK,(fun _=>true),fns.take 11++(["_law_at"]:List Str),gls,mts,its,sxm,[]⟩
theorem tB:FnScope jK ["_law_saying"] (zX yK):=⟨rfl,rfl,rfl,by decide +kernel,rfl,by decide +kernel,by decide +kernel⟩
theorem uC:uJ wJ kU (zI yK)=true:=by decide +kernel
abbrev xL:Stmt:=fG 30
def qG:List Str:=["word", "done", "last"]
def jI:ISs:=(.cons (.asg 2 (.mth 0 (.var 1) .nil))
 (.cons (.ite (.cmp .Eq (.var 0) (.con (.str "not"))) (.cons (.ex (.mth 2 (.var 1) (.cons (.tup (.cons (.con (.str "not")) (.cons (.var 2) .nil))) .nil)))
 .nil) (.cons (.ex (.mth 2 (.var 1) (.cons (.tup (.cons (.ix (.glb 5) (.var 0)) (.cons (.mth 0 (.var 1) .nil) (.cons (.var 2) .nil)))) .nil)))
 .nil))
 .nil))
def tX:MC:=⟨zX xL,qG,(fun _=>true),fns.take 13,gls,mts,its,sxm,[]⟩
theorem hW:FnScope qG ["word", "done"] (zX xL):=⟨rfl,rfl,rfl,by decide +kernel,rfl,by decide +kernel,by decide +kernel⟩
theorem rG:uJ jI tX (zI xL)=true:=by decide +kernel
abbrev wB:Stmt:=fG 29
def tM:List Str:=["least", "done", "waiting"]
def vU:ISs:=(.cons (.whl (.and (.var 2) (.cmp .GtE (.ix (.glb 3) (.ix (.var 2) (.neg (.con (.int 1))))) (.var 0))) (.cons (.ex (.call 13 (.cons (.mth 0 (.var 2) .nil) (.cons (.var 1) .nil))))
 .nil))
 .nil)
def gO:MC:=⟨zX wB,tM,(fun _=>true),fns.take 14,gls,mts,its,sxm,[]⟩
theorem zal:FnScope tM ["least", "done", "waiting"] (zX wB):=⟨rfl,rfl,rfl,by decide +kernel,rfl,by decide +kernel,by decide +kernel⟩
theorem dW:uJ vU gO (zI wB)=true:=by decide +kernel
abbrev wT:Stmt:=fG 27
def vD:List Str:=["thing", "done", "waiting"]
def jV:RTs:=(.cons (.pl (.ite (.call 4 (.cons (.var 0) (.cons (.glb 7) .nil))) (.cons (.ex (.mth 2 (.var 1) (.cons (.var 0) .nil)))
 (.cons (.ret (.con (.bool false)))
 .nil)) .nil))
 (.cons (.ite (.cmp .NotIn (.var 0) (.tup (.cons (.con (.str "not")) (.cons (.con (.str "(")) .nil)))) (.cons (.rse 0 .nil)
 .nil) .nil)
 (.cons (.pl (.ex (.mth 2 (.var 2) (.cons (.var 0) .nil))))
 (.cons (.pl (.ret (.con (.bool true))))
 .nil))))
def pU:MX:=⟨[],["NoText"],["TalkError"]⟩
def pR:MC:=⟨zX wT,vD,(fun _=>true),fns.take 15,gls,mts,its,sxm,[]⟩
theorem bB:FnScope vD ["thing", "done", "waiting"] (zX wT):=⟨rfl,rfl,rfl,by decide +kernel,rfl,by decide +kernel,by decide +kernel⟩
theorem gG:mXs pR pU jV (zI wT)=true:=by decide +kernel
abbrev tP:Stmt:=fG 28
def zcD:List Str:=["thing", "done", "waiting"]
def uQ:RTs:=(.cons (.ite (.or (.call 4 (.cons (.var 0) (.cons (.glb 7) .nil))) (.cmp .NotIn (.var 0) (.glb 4))) (.cons (.rse 0 .nil)
 .nil) .nil)
 (.cons (.pl (.ex (.call 14 (.cons (.ix (.glb 4) (.var 0)) (.cons (.var 1) (.cons (.var 2) .nil))))))
 (.cons (.pl (.ite (.cmp .NotEq (.var 0) (.con (.str ")"))) (.cons (.ex (.mth 2 (.var 2) (.cons (.var 0) .nil)))
 (.cons (.ret (.con (.bool true)))
 .nil)) .nil))
 (.cons (.ite (.not (.var 2)) (.cons (.rse 0 .nil)
 .nil) .nil)
 (.cons (.pl (.ex (.mth 0 (.var 2) .nil)))
 (.cons (.pl (.ret (.con (.bool false))))
 .nil))))))
def ze6:MX:=⟨["begin_side"],["NoText"],["TalkError"]⟩
def zfz:MC:=⟨zX tP,zcD,(fun _=>true),fns.take 16,gls,mts,its,sxm,[]⟩
theorem zgj:FnScope zcD ["thing", "done", "waiting"] (zX tP):=⟨rfl,rfl,rfl,by decide +kernel,rfl,by decide +kernel,by decide +kernel⟩
theorem zcL:mXs zfz ze6 uQ (zI tP)=true:=by decide +kernel
abbrev xD:Stmt:=fG 26
def kE:List Str:=["things", "done", "waiting", "lacking", "thing"]
def qY:RTs:=(.cons (.pl (.asg 1 (.lst .nil)))
 (.cons (.pl (.asg 2 (.lst .nil)))
 (.cons (.pl (.asg 3 (.con (.bool true))))
 (.cons (.for (.nm 4) (.val (.var 0)) (.cons (.ite (.var 3) (.cons (.asx 3 0 (.cons (.var 4) (.cons (.var 1) (.cons (.var 2) .nil))))
 .nil) (.cons (.asx 3 1 (.cons (.var 4) (.cons (.var 1) (.cons (.var 2) .nil))))
 .nil))
 .nil))
 (.cons (.ite (.var 3) (.cons (.rse 0 .nil)
 .nil) .nil)
 (.cons (.pl (.ex (.call 14 (.cons (.con (.int 1)) (.cons (.var 1) (.cons (.var 2) .nil))))))
 (.cons (.ite (.var 2) (.cons (.rse 0 .nil)
 .nil) .nil)
 (.cons (.pl (.ret (.ix (.var 1) (.con (.int 0)))))
 .nil))))))))
def tF:MX:=⟨["begin_side", "go_on"],["NoText"],["TalkError"]⟩
def sW:MC:=⟨zX xD,kE,(fun _=>true),fns.take 17,gls,mts,its,sxm,[]⟩
theorem fA:FnScope kE ["things"] (zX xD):=⟨rfl,rfl,rfl,by decide +kernel,rfl,by decide +kernel,by decide +kernel⟩
theorem pA:mXs sW tF qY (zI xD)=true:=by decide +kernel
abbrev qT:Stmt:=fG 18
def gW:List Str:=["thing"]
def sF:ISs:=(.cons (.ite (.or (.not (.call 4 (.cons (.var 0) (.cons (.glb 6) .nil)))) (.not (.chn .LtE .LtE (.con (.int 1)) (.call 1 (.cons (.var 0) .nil)) (.glb 0)))) (.cons (.ret (.con (.bool false)))
 .nil) .nil)
 (.cons (.ret (.and (.cmp .NotIn (.var 0) (.glb 1)) (.call 2 (.cons (.lc (.nm 0) ["sign"] [] (.val (.var 0)) .no (.chn .LtE .LtE (.con (.str "a")) (.var 0) (.con (.str "z")))) .nil))))
 .nil))
def zbd:MC:=⟨zX qT,gW,(fun _=>true),fns.take 18,gls,mts,its,sxm,[]⟩
theorem zcf:FnScope gW ["thing"] (zX qT):=⟨rfl,rfl,rfl,by decide +kernel,rfl,by decide +kernel,by decide +kernel⟩
theorem zaA:uJ sF zbd (zI qT)=true:=by decide +kernel
abbrev wA:Stmt:=fG 25
def tL:List Str:=["word"]
def vT:RTs:=(.cons (.pl (.ite (.cmp .In (.var 0) (.glb 2)) (.cons (.ret (.var 0))
 .nil) .nil))
 (.cons (.ite (.not (.call 18 (.cons (.var 0) .nil))) (.cons (.rse 0 .nil)
 .nil) .nil)
 (.cons (.pl (.ret (.tup (.cons (.con (.str "say")) (.cons (.var 0) .nil)))))
 .nil)))
def nE:MX:=⟨["begin_side", "go_on", "read_joined"],["NoText"],["TalkError"]⟩
def gM:MC:=⟨zX wA,tL,(fun _=>true),fns.take 19,gls,mts,its,sxm,[]⟩
theorem zam:FnScope tL ["word"] (zX wA):=⟨rfl,rfl,rfl,by decide +kernel,rfl,by decide +kernel,by decide +kernel⟩
theorem dU:mXs gM nE vT (zI wA)=true:=by decide +kernel
abbrev yW:Stmt:=fG 13
def xQ:List Str:=["row"]
def jM:ISs:=(.cons (.ret (.lc (.nm 0) ["word"] [] (.val (.mth 4 (.var 0) (.cons (.con (.str " ")) .nil))) (.yes (.var 0)) (.var 0)))
 .nil)
def jN:MC:=⟨zX yW,xQ,(fun _=>true),fns.take 20,gls,mts,its,sxm,[]⟩
theorem kI:FnScope xQ ["row"] (zX yW):=⟨rfl,rfl,rfl,by decide +kernel,rfl,by decide +kernel,by decide +kernel⟩
theorem qD:uJ jM jN (zI yW)=true:=by decide +kernel
abbrev yP:Stmt:=fG 14
def wD:List Str:=["row"]
def xH:ISs:=(.cons (.ret (.call 20 (.cons (.spc 1 (.cons (.spc 2 (.cons (.var 0) .nil)) .nil)) .nil)))
 .nil)
def jC:MC:=⟨zX yP,wD,(fun _=>true),fns.take 21,gls,mts,its,sxm,[]⟩
theorem vG:FnScope wD ["row"] (zX yP):=⟨rfl,rfl,rfl,by decide +kernel,rfl,by decide +kernel,by decide +kernel⟩
theorem vZ:uJ xH jC (zI yP)=true:=by decide +kernel
abbrev xE:Stmt:=fG 24
def kF:List Str:=["text"]
def wK:RTs:=(.cons (.ite (.not (.call 4 (.cons (.var 0) (.cons (.glb 6) .nil)))) (.cons (.rse 0 .nil)
 .nil) .nil)
 (.cons (.rtl 2 (.nm 0) ["word"] [] (.val (.call 21 (.cons (.spc 3 (.cons (.var 0) .nil)) .nil))) 3 (.cons (.var 0) .nil))
 .nil))
def tG:MX:=⟨["begin_side", "go_on", "read_joined", "read_word"],["NoText"],["TalkError"]⟩
def sX:MC:=⟨zX xE,kF,(fun _=>true),fns.take 22,gls,mts,its,sxm,[]⟩
theorem fB:FnScope kF ["text"] (zX xE):=⟨rfl,rfl,rfl,by decide +kernel,rfl,by decide +kernel,by decide +kernel⟩
theorem pB:mXs sX tG wK (zI xE)=true:=by decide +kernel
abbrev xC:Stmt:=fG 41
def kD:List Str:=["_law_deal_here", "_law_words", "_law_names_here", "_law_links", "_law_brackets", "_law_way", "_law_at_here", "_law_name", "_law_odd", "_law_word"]
def qW:ISs:=(.cons (.asg 2 (.lc (.tup (.cons (.nm 0) (.cons (.nm 1) .nil))) ["_law_k", "_law_word"] [] (.blt 1 (.cons (.var 1) .nil)) (.yes (.cmp .NotIn (.var 1) (.tup (.cons (.con (.str "and")) (.cons (.con (.str "or")) (.cons (.con (.str "then")) (.cons (.con (.str "not")) (.cons (.con (.str "(")) (.cons (.con (.str ")")) .nil))))))))) (.var 0)))
 (.cons (.asg 3 (.lc (.tup (.cons (.nm 0) (.cons (.nm 1) .nil))) ["_law_k", "_law_word"] [] (.blt 1 (.cons (.var 1) .nil)) (.yes (.cmp .In (.var 1) (.tup (.cons (.con (.str "and")) (.cons (.con (.str "or")) (.cons (.con (.str "then")) .nil)))))) (.var 0)))
 (.cons (.asg 4 (.lc (.tup (.cons (.nm 0) (.cons (.nm 1) .nil))) ["_law_k", "_law_word"] [] (.blt 1 (.cons (.var 1) .nil)) (.yes (.cmp .In (.var 1) (.tup (.cons (.con (.str "(")) (.cons (.con (.str ")")) .nil))))) (.var 0)))
 (.cons (.asg 5 (.call 7 (.cons (.var 0) (.cons (.con (.int 11)) .nil))))
 (.cons (.asg 6 (.call 7 (.cons (.var 0) (.cons (.bin .Add (.call 1 (.cons (.var 1) .nil)) (.con (.int 1))) .nil))))
 (.cons (.asg 7 (.ix (.var 2) (.call 7 (.cons (.var 0) (.cons (.call 1 (.cons (.var 2) .nil)) .nil)))))
 (.cons (.ite (.cmp .Eq (.var 5) (.con (.int 0))) (.cons (.ret (.bin .Add (.bin .Add (.sl (.var 1) .no (.yes (.var 6))) (.lst (.cons (.ix (.con (.str "()")) (.call 7 (.cons (.var 0) (.cons (.con (.int 2)) .nil)))) .nil))) (.sl (.var 1) (.yes (.var 6)) .no)))
 .nil) .nil)
 (.cons (.ite (.cmp .Eq (.var 5) (.con (.int 10))) (.cons (.ret (.bin .Add (.bin .Add (.sl (.var 1) .no (.yes (.var 6))) (.lst (.cons (.con (.str "(")) (.cons (.con (.str ")")) .nil)))) (.sl (.var 1) (.yes (.var 6)) .no)))
 .nil) .nil)
 (.cons (.ite (.and (.cmp .Eq (.var 5) (.con (.int 1))) (.cmp .NotEq (.var 4) (.lst .nil))) (.cons (.asg 6 (.ix (.var 4) (.call 7 (.cons (.var 0) (.cons (.call 1 (.cons (.var 4) .nil)) .nil)))))
 (.cons (.ret (.bin .Add (.sl (.var 1) .no (.yes (.var 6))) (.sl (.var 1) (.yes (.bin .Add (.var 6) (.con (.int 1)))) .no)))
 .nil)) .nil)
 (.cons (.ite (.cmp .Eq (.var 5) (.con (.int 2))) (.cons (.ret (.bin .Add (.sl (.var 1) .no (.yes (.var 7))) (.sl (.var 1) (.yes (.bin .Add (.var 7) (.con (.int 1)))) .no)))
 .nil) .nil)
 (.cons (.ite (.cmp .Eq (.var 5) (.con (.int 3))) (.cons (.ret (.bin .Add (.bin .Add (.sl (.var 1) .no (.yes (.var 7))) (.lst (.cons (.ix (.var 1) (.var 7)) (.cons (.ix (.var 1) (.var 7)) .nil)))) (.sl (.var 1) (.yes (.bin .Add (.var 7) (.con (.int 1)))) .no)))
 .nil) .nil)
 (.cons (.ite (.cmp .Eq (.var 5) (.con (.int 4))) (.cons (.ret (.bin .Add (.bin .Add (.sl (.var 1) .no (.yes (.var 7))) (.lst (.cons (.ix (.lst (.cons (.con (.str "and")) (.cons (.con (.str "or")) (.cons (.con (.str "then")) (.cons (.con (.str "not")) .nil))))) (.call 7 (.cons (.var 0) (.cons (.con (.int 4)) .nil)))) .nil))) (.sl (.var 1) (.yes (.bin .Add (.var 7) (.con (.int 1)))) .no)))
 .nil) .nil)
 (.cons (.ite (.cmp .Eq (.var 5) (.con (.int 5))) (.cons (.ret (.bin .Add (.bin .Add (.sl (.var 1) .no (.yes (.var 6))) (.lst (.cons (.ix (.lst (.cons (.con (.str "and")) (.cons (.con (.str "or")) (.cons (.con (.str "then")) .nil)))) (.call 7 (.cons (.var 0) (.cons (.con (.int 3)) .nil)))) .nil))) (.sl (.var 1) (.yes (.var 6)) .no)))
 .nil) .nil)
 (.cons (.ite (.and (.cmp .Eq (.var 5) (.con (.int 6))) (.cmp .NotEq (.var 3) (.lst .nil))) (.cons (.asg 6 (.ix (.var 3) (.call 7 (.cons (.var 0) (.cons (.call 1 (.cons (.var 3) .nil)) .nil)))))
 (.cons (.ret (.bin .Add (.sl (.var 1) .no (.yes (.var 6))) (.sl (.var 1) (.yes (.bin .Add (.var 6) (.con (.int 1)))) .no)))
 .nil)) .nil)
 (.cons (.ite (.cmp .Eq (.var 5) (.con (.int 7))) (.cons (.ret (.bin .Add (.bin .Add (.sl (.var 1) .no (.yes (.bin .Add (.var 7) (.con (.int 1))))) (.lst (.cons (.con (.str "not")) .nil))) (.sl (.var 1) (.yes (.bin .Add (.var 7) (.con (.int 1)))) .no)))
 .nil) .nil)
 (.cons (.asg 8 (.lst (.cons (.con (.str "A")) (.cons (.con (.str "1")) (.cons (.con (.str "-")) (.cons (.con (.str ",")) (.cons (.con (.str ".")) (.cons (.con (.str "{")) (.cons (.con (.str "}")) (.cons (.con (.str "[")) (.cons (.con (.str ";")) (.cons (.con (.str "&")) (.cons (.con (.str "!")) (.cons (.con (.str "abcdefg")) (.cons (.con (.str "zzzzzzzzz")) (.cons (.con (.str "a-b")) (.cons (.con (.str "a1")) (.cons (.con (.str "And")) .nil))))))))))))))))))
 (.cons (.asg 9 (.ix (.bin .Add (.var 8) (.lst (.cons (.con (.str "NOT")) (.cons (.con (.str "+1")) .nil)))) (.call 7 (.cons (.var 0) (.cons (.con (.int 18)) .nil)))))
 (.cons (.ite (.cmp .Eq (.var 5) (.con (.int 8))) (.cons (.ret (.bin .Add (.bin .Add (.sl (.var 1) .no (.yes (.var 7))) (.lst (.cons (.var 9) .nil))) (.sl (.var 1) (.yes (.bin .Add (.var 7) (.con (.int 1)))) .no)))
 .nil) .nil)
 (.cons (.ret (.bin .Add (.bin .Add (.sl (.var 1) .no (.yes (.var 6))) (.lst (.cons (.var 9) .nil))) (.sl (.var 1) (.yes (.var 6)) .no)))
 .nil)))))))))))))))))))
def sV:MC:=⟨zX xC,kD,(fun _=>true),fns.take 23,gls,mts,its,sxm,[]⟩
theorem dZ:FnScope kD ["_law_deal_here", "_law_words"] (zX xC):=⟨rfl,rfl,rfl,by decide +kernel,rfl,by decide +kernel,by decide +kernel⟩
theorem nZ:uJ qW sV (zI xC)=true:=by decide +kernel
abbrev xK:Stmt:=fG 42
def qF:List Str:=["_law_text", "_law_caught", "e", "_law_others"]
def jH:RTs:=(.cons (.pl (.asg 1 (.con .none)))
 (.cons (.try 2 1 0 (.cons (.exx 4 (.cons (.var 0) .nil))
 .nil))
 (.cons (.pl (.asg 3 (.lst (.cons (.call 4 (.cons (.var 1) (.cons (.glb 10) .nil))) (.cons (.call 4 (.cons (.var 1) (.cons (.glb 12) .nil))) (.cons (.call 4 (.cons (.var 1) (.cons (.glb 18) .nil))) .nil))))))
 (.cons (.pl (.asg 3 (.bin .Add (.var 3) (.lst (.cons (.call 4 (.cons (.var 1) (.cons (.glb 13) .nil))) (.cons (.call 4 (.cons (.var 1) (.cons (.glb 15) .nil))) (.cons (.call 4 (.cons (.var 1) (.cons (.glb 17) .nil))) .nil)))))))
 (.cons (.pl (.asg 3 (.bin .Add (.var 3) (.lst (.cons (.call 4 (.cons (.var 1) (.cons (.glb 14) .nil))) (.cons (.call 4 (.cons (.var 1) (.cons (.glb 11) .nil))) (.cons (.call 4 (.cons (.var 1) (.cons (.glb 16) .nil))) .nil)))))))
 (.cons (.pl (.ret (.and (.call 4 (.cons (.var 1) (.cons (.glb 9) .nil))) (.and (.call 4 (.cons (.var 1) (.cons (.glb 8) .nil))) (.cmp .NotIn (.con (.bool true)) (.var 3))))))
 .nil))))))
def uA:MX:=⟨["begin_side", "go_on", "read_joined", "read_word", "read_saying"],["NoText"],["TalkError"]⟩
def tU:MC:=⟨zX xK,qF,(fun _=>true),fns.take 24,gls,mts,its,sxm,[]⟩
theorem hV:FnScope qF ["_law_text"] (zX xK):=⟨rfl,rfl,rfl,by decide +kernel,rfl,by decide +kernel,by decide +kernel⟩
theorem rF:mXs tU uA jH (zI xK)=true:=by decide +kernel
abbrev xB:Stmt:=fG 39
def kC:List Str:=["_law_words", "_law_gaps", "_law_text", "_law_k", "_law_word", "_law_gap"]
def qV:ISs:=(.cons (.asg 2 (.con (.str "")))
 (.cons (.for (.tup (.cons (.nm 3) (.cons (.nm 4) .nil))) (.blt 1 (.cons (.var 0) .nil)) (.cons (.asg 5 (.ix (.var 1) (.bin .Mod (.var 3) (.call 1 (.cons (.var 1) .nil)))))
 (.cons (.ite (.and (.cmp .Gt (.var 3) (.con (.int 0))) (.and (.cmp .Eq (.var 5) (.con (.str ""))) (.and (.cmp .NotIn (.var 4) (.con (.str "()"))) (.cmp .NotIn (.ix (.var 0) (.bin .Sub (.var 3) (.con (.int 1)))) (.con (.str "()")))))) (.cons (.asg 5 (.con (.str " ")))
 .nil) .nil)
 (.cons (.asg 2 (.bin .Add (.bin .Add (.var 2) (.bin .Mult (.var 5) (.call 5 (.cons (.cmp .Gt (.var 3) (.con (.int 0))) .nil)))) (.var 4)))
 .nil))))
 (.cons (.ret (.var 2))
 .nil)))
def sU:MC:=⟨zX xB,kC,(fun _=>true),fns.take 25,gls,mts,its,sxm,[]⟩
theorem dY:FnScope kC ["_law_words", "_law_gaps"] (zX xB):=⟨rfl,rfl,rfl,by decide +kernel,rfl,by decide +kernel,by decide +kernel⟩
theorem nY:uJ qV sU (zI xB)=true:=by decide +kernel
abbrev slaw:Stmt:=fG 43
def nlaw:List Str:=["_law_script", "_law_deal_here", "_law_names_here", "_law_saying", "_law_words", "_law_k", "_law_bad", "_law_odd"]
def blaw:ISs:=(.cons (.asg 1 (.call 6 (.cons (.var 0) (.cons (.con (.int 0)) .nil))))
 (.cons (.asg 2 (.call 8 (.cons (.var 1) (.cons (.bin .Add (.con (.int 1)) (.call 7 (.cons (.var 1) (.cons (.con (.int 4)) .nil)))) .nil))))
 (.cons (.ite (.cmp .Eq (.call 7 (.cons (.var 1) (.cons (.con (.int 2)) .nil))) (.con (.int 1))) (.cons (.ex (.mth 2 (.var 2) (.cons (.ix (.lst (.cons (.con (.str "nota")) (.cons (.con (.str "orb")) (.cons (.con (.str "band")) (.cons (.con (.str "theny")) (.cons (.con (.str "anot")) (.cons (.con (.str "andor")) (.cons (.con (.str "thenor")) (.cons (.con (.str "notnot")) .nil))))))))) (.call 7 (.cons (.var 1) (.cons (.con (.int 8)) .nil)))) .nil)))
 .nil) .nil)
 (.cons (.asg 3 (.call 9 (.cons (.var 1) (.cons (.var 2) (.cons (.bin .Add (.con (.int 1)) (.call 7 (.cons (.var 1) (.cons (.con (.int 20)) .nil)))) (.cons (.con (.int 10)) .nil))))))
 (.cons (.asg 4 (.call 12 (.cons (.var 3) .nil)))
 (.cons (.ite (.cmp .NotEq (.call 22 (.cons (.mth 1 (.con (.str " ")) (.cons (.var 4) .nil)) .nil)) (.var 3)) (.cons (.ret (.con (.bool false)))
 .nil) .nil)
 (.cons (.for (.nm 5) (.blt 0 (.cons (.con (.int 4)) .nil)) (.cons (.asg 6 (.call 23 (.cons (.var 1) (.cons (.var 4) .nil))))
 (.cons (.ite (.not (.call 24 (.cons (.call 25 (.cons (.var 6) (.cons (.lst (.cons (.ix (.lst (.cons (.con (.str "")) (.cons (.con (.str " ")) .nil))) (.call 7 (.cons (.var 1) (.cons (.con (.int 2)) .nil)))) (.cons (.con (.str " ")) .nil))) .nil))) .nil))) (.cons (.ret (.con (.bool false)))
 .nil) .nil)
 .nil)))
 (.cons (.asg 7 (.ix (.lst (.cons (.con (.str "")) (.cons (.con (.str "  ")) (.cons (.con (.str "\n")) (.cons (.con .none) (.cons (.con (.int 5)) (.cons (.con (.bool true)) (.cons (.tup (.cons (.con (.str "a")) .nil)) (.cons (.lst (.cons (.con (.str "a")) .nil)) (.cons (.tup (.cons (.con (.str "say")) (.cons (.con (.str "a")) .nil))) .nil)))))))))) (.call 7 (.cons (.var 1) (.cons (.con (.int 9)) .nil)))))
 (.cons (.ret (.and (.call 24 (.cons (.var 7) .nil)) (.cmp .Eq (.call 22 (.cons (.mth 1 (.con (.str " ")) (.cons (.var 4) .nil)) .nil)) (.var 3))))
 .nil)))))))))
def mlaw:MC:=⟨zX slaw,nlaw,(fun _=>true),fns.take 26,gls,mts,its,sxm,[]⟩
theorem sclaw:FnScope nlaw ["_law_script"] (zX slaw):=⟨rfl,rfl,rfl,by decide +kernel,rfl,by decide +kernel,by decide +kernel⟩
theorem zgO:uJ blaw mlaw (zI slaw)=true:=by decide +kernel
end K14
namespace K14
open PySem PySem.Spec PyProof.Rows L2 L3
open PySem.W (nsIn keepIn codeIn mg_of findIn mg_none_of fnOf)
def uK:List Str:=["and", "or", "not", "then"]
def ltB (c:Nat):Bool:=decide (97<=c)&&decide (c<=122)
def xO (x:Str):Bool:=x.cps.toList.all ltB
def uD (x:Str):Bool:=decide (1<=x.length)&&decide (x.length<=6)&&!uK.contains x&&xO x
inductive Sy where
 |say (x:Str)|neg (a:Sy)|two (k:Nat) (a b:Sy)
def kw:Nat->Str
 | 0 => "and"
 | 1 => "or"
 |_ => "if"
def Sy.w:Sy->W
 | .say x=>.tup [.str "say", .str x]
 | .neg a=>.tup [.str "not", a.w]
 | .two k a b=>.tup [.str (kw k),a.w,b.w]
def Sy.size:Sy->Nat
 | .say _=>1
 | .neg a=>a.size+1
 | .two _ a b=>a.size+b.size+1
def Sy.deep:Sy->Nat
 | .say _=>0
 | .neg a=>a.deep+1
 | .two _ a b=>max a.deep b.deep+1
def Sy.ok:Sy->Prop
 | .say x=>uD x=true
 | .neg a=>a.ok
 | .two _ a b=>a.ok/\b.ok
def bd:Sy->Nat
 | .say _=>5
 | .neg _=>4
 | .two 0 _ _=>3
 | .two 1 _ _=>2
 | .two _ _ _=>1
def lA:Nat->Nat
 | 0=>3
 |_=>2
def lB:Nat->Nat
 | 0=>4
 | 1=>3
 |_=>1
inductive Tk where
 |nm (x:Str)|lp|rp|nt|op (k:Nat)
def jw:Nat->Str
 | 0 => "and"
 | 1 => "or"
 |_ => "then"
def Tk.s:Tk->Str
 | .nm x=>x
 | .lp => "("
 | .rp => ")"
 | .nt => "not"
 | .op k=>jw k
def br (n:Nat) (a:Sy) (l:List Tk):List Tk:=if bd a<n then .lp::(l++[.rp]) else l
def tw:Sy->List Tk
 | .say x=>[.nm x]
 | .neg a=>.nt::br 4 a (tw a)
 | .two k a b=>br (lA k) a (tw a)++.op k::br (lB k) b (tw b)
def bin:Tk->Nat
 | .nt=>4
 | .op 0=>3
 | .op 1=>2
 | .op _=>1
 |_=>0
def pt:Tk->List Sy->List Sy
 | .nt,a::D=>.neg a::D
 | .op k,b::a::D=>.two k a b::D
 |_,D=>D
def tl (m:Nat):List Sy->List Tk->List Sy×List Tk
 |D,[]=>(D,[])
 |D,w::V=>if m<=bin w then tl m (pt w D) V else (D,w::V)
abbrev St:=List Sy×List Tk×Bool
def step:St->Tk->St
 | (D,V,true),.nm x=>(.say x::D,V,false)
 | (D,V,true),t=>(D,t::V,true)
 | (D,V,false),.op k=>((tl (lA k) D V).1,.op k::(tl (lA k) D V).2,true)
 | (D,V,false),_=>((tl 1 D V).1,(tl 1 D V).2.drop 1,false)
def run (s:St) (l:List Tk):St:=l.foldl step s
theorem zaq (s:St) (a b:List Tk):run s (a++b)=run (run s a) b:=List.foldl_append
def Low (n:Nat) (V:List Tk):Prop:=match V with
 | []=>True
 |w::_=>bin w<n
def rM:Sy->Nat
 | .two k _ _=>lA k
 |_=>5
theorem bG {m:Nat} {D:List Sy} {V:List Tk} (h:Low m V):tl m D V=(D,V):=by
 cases V with
 |nil=>rfl
 |cons w V =>
  unfold tl;rw [if_neg (Nat.not_le.mpr h)]
theorem rN {k:Nat} {a:Sy} (h:¬ bd a<lA k):lA k<=rM a:=by
 cases a with
 |say x=>match k with|0=>show 3<=5;decide|k+1=>show 2<=5;decide
 |neg a=>match k with|0=>show 3<=5;decide|k+1=>show 2<=5;decide
 |two j a b=>match k,j,h with
  | 0,0,_=>show 3<=3;decide
  | 0,1,h=>exact absurd (by show 2<3;decide) h
  | 0,j+2,h=>exact absurd (by show 1<3;decide) h
  |k+1,0,_=>show 2<=3;decide
  |k+1,1,_=>show 2<=2;decide
  |k+1,j+2,_=>show 2<=2;decide
theorem gU {k:Nat} {b:Sy} (h:¬ bd b<lB k):bin (.op k)<rM b:=by
 cases b with
 |say x=>match k with|0=>show 3<5;decide|1=>show 2<5;decide|k+2=>show 1<5;decide
 |neg a=>match k with|0=>show 3<5;decide|1=>show 2<5;decide|k+2=>show 1<5;decide
 |two j a b=>match k,j,h with
  | 0,0,h=>exact absurd (by show 3<4;decide) h
  | 0,1,h=>exact absurd (by show 2<4;decide) h
  | 0,j+2,h=>exact absurd (by show 1<4;decide) h
  | 1,0,_=>show 2<3;decide
  | 1,1,h=>exact absurd (by show 2<3;decide) h
  | 1,j+2,h=>exact absurd (by show 1<3;decide) h
  |k+2,0,_=>show 1<3;decide
  |k+2,1,_=>show 1<2;decide
  |k+2,j+2,_=>show 1<2;decide
theorem zbb {a:Sy} (h:¬ bd a<4):rM a=5:=by
 cases a with
 |say x=>rfl
 |neg a=>rfl
 |two j a b=>match j,h with
  | 0,h=>exact absurd (by show 3<4;decide) h
  | 1,h=>exact absurd (by show 2<4;decide) h
  |j+2,h=>exact absurd (by show 1<4;decide) h
theorem zba (t:Sy):2<=rM t:=by
 cases t with
 |say x=>show 2<=5;decide
 |neg a=>show 2<=5;decide
 |two k a b=>match k with|0=>show 2<=3;decide|k+1=>show 2<=2;decide
theorem Low.mono {m n:Nat} {V:List Tk} (h:Low m V) (hm:m<=n):Low n V:=by
 cases V with
 |nil=>trivial
 |cons w V=>exact Nat.lt_of_lt_of_le h hm
def Rd (D:List Sy) (V:List Tk) (t:Sy) (n:Nat) (s:St):Prop:=∃ D' V',s=(D',V',false)/\∀ m,1<=m->m<=n->tl m D' V'=tl m (t::D) V
theorem zee {D:List Sy} {V:List Tk} {a:Sy} {n:Nat} (ih:∀ D V,Low (rM a) V->Rd D V a (bd a) (run (D,V,true) (tw a))) (hlow:¬ bd a<n->Low (rM a) V) :
  Rd D V a (if bd a<n then 5 else bd a) (run (D,V,true) (br n a (tw a))):=by
 unfold br
 by_cases h:bd a<n
 .rw [if_pos h,if_pos h];obtain ⟨D',V',e,p⟩:=ih D (.lp::V) (show bin .lp<rM a from Nat.lt_of_lt_of_le (by decide) (zba a));show Rd D V a 5 (run (step (D,V,true) .lp) (tw a++[.rp]));rw [zaq];show Rd D V a 5 (step (run (D,.lp::V,true) (tw a)) .rp);rw [e]
  have b1:1<=bd a:=by
   cases a with
   |say x=>show 1<=5;decide
   |neg a=>show 1<=4;decide
   |two k a b=>match k with|0=>show 1<=3;decide|1=>show 1<=2;decide|k+2=>show 1<=1;decide
  have q:=p 1 (zzR _) b1;have ql:tl 1 (a::D) (.lp::V)=(a::D,.lp::V):=bG (show bin .lp<1 by decide);rw [ql] at q;show Rd D V a 5 ((tl 1 D' V').1,(tl 1 D' V').2.drop 1,false);rw [q];exact ⟨a::D,V,rfl,fun m _ _=>rfl⟩
 .rw [if_neg h,if_neg h];exact ih D V (hlow h)
theorem rS:∀ (t:Sy) (D:List Sy) (V:List Tk),Low (rM t) V->Rd D V t (bd t) (run (D,V,true) (tw t))
 | .say x,D,V,_=>⟨.say x::D,V,rfl,fun m _ _=>rfl⟩
 | .neg a,D,V,_=>by
  have ih:=zee (D:=D) (V:=.nt::V) (a:=a) (n:=4) (fun D V h=>rS a D V h) fun z=>by rw [zbb z];show 4<5;decide
  obtain ⟨D',V',e,p⟩:=ih;refine ⟨D',V',e,fun m h1 h2=>?_⟩;have h2:m<=4:=h2;rw [p m h1 (by split<;>omega)];show tl m (a::D) (.nt::V)=_;rw [tl,if_pos (show m<=bin .nt from h2)];rfl
 | .two k a b,D,V,hl=>by
  have hl:Low (lA k) V:=hl;have ia:=zee (D:=D) (V:=V) (a:=a) (n:=lA k) (fun D V h=>rS a D V h) fun z=>hl.mono (rN z);obtain ⟨D1,V1,e1,p1⟩:=ia;show Rd D V (.two k a b) _ (run (D,V,true) (br (lA k) a (tw a)++.op k::br (lB k) b (tw b)));rw [zaq,e1];have kA:1<=lA k:=by match k with|0=>decide|k+1=>show 1<=2;decide
  have kA5:lA k<=5:=by match k with|0=>decide|k+1=>show 2<=5;decide
  have q:=p1 (lA k) kA (by split<;>omega);rw [bG hl] at q;show Rd D V (.two k a b) _ (run ((tl (lA k) D1 V1).1,.op k::(tl (lA k) D1 V1).2,true) (br (lB k) b (tw b)));rw [q];have ib:=zee (D:=a::D) (V:=.op k::V) (a:=b) (n:=lB k) (fun D V h=>rS b D V h) fun z=>gU z;obtain ⟨D2,V2,e2,p2⟩:=ib;refine ⟨D2,V2,e2,fun m h1 h2=>?_⟩
  have hb:bd (.two k a b)=bin (.op k)/\bin (.op k)<=lB k/\bin (.op k)<=5:=by
   match k with
   | 0=>exact ⟨rfl,by show 3<=4;decide,by show 3<=5;decide⟩
   | 1=>exact ⟨rfl,by show 2<=3;decide,by show 2<=5;decide⟩
   |k+2=>exact ⟨rfl,by show 1<=1;decide,by show 1<=5;decide⟩
  rw [p2 m h1 (by split<;>omega)];show tl m (b::a::D) (.op k::V)=_;rw [tl,if_pos (by omega)];rfl
theorem Sy.pos:∀ t:Sy,1<=t.size
 | .say _=>zzR _
 | .neg _=>Nat.le_add_left _ _
 | .two _ _ _=>Nat.le_add_left _ _
theorem Sy.pur:∀ t:Sy,L3.pur t.w=true
 | .say _=>by simp [Sy.w,L3.pur,wM]
 | .neg a=>by simp [Sy.w,L3.pur,wM,Sy.pur a]
 | .two _ a b=>by simp [Sy.w,L3.pur,wM,Sy.pur a,Sy.pur b]
theorem Sy.dep:∀ t:Sy,L3.dep t.w<=t.size
 | .say _=>by simp [Sy.w,L3.dep,qO,Sy.size]
 | .neg a=>by have:=Sy.dep a;simp only [Sy.w,L3.dep,qO,Sy.size];omega
 | .two _ a b=>by have:=Sy.dep a;have:=Sy.dep b;simp only [Sy.w,L3.dep,qO,Sy.size];omega
theorem zfD (k:Nat):((kw k:Str) == "say")=false/\(("say" : Str)==kw k)=false/\((kw k:Str) == "not")=false/\(("not" : Str)==kw k)=false:=by
 unfold kw
 split<;>exact ⟨by decide +kernel,by decide +kernel,by decide +kernel,by decide +kernel⟩
def isW:Tk->Bool
 | .nt=>true
 | .op _=>true
 | .lp=>true
 |_=>false
def ops:List Tk->Nat
 | []=>0
 | .op _::V=>ops V+1
 |_::V=>ops V
structure Wf (D:List Sy) (V:List Tk) (n:Nat):Prop where
 len:D.length=ops V+n
 all:∀ w∈V,isW w=true
theorem zb4 {m:Nat} (hm:1<=m):∀ {V:List Tk} {D:List Sy},Wf D V 1->Wf (tl m D V).1 (tl m D V).2 1
 | [],D,h=>h
 |w::V,D,h=>by
  unfold tl
  split
  .rename_i hb;refine zb4 hm ⟨?_,fun x hx=>h.all x (List.mem_cons_of_mem _ hx)⟩;have hl:=h.len;have hw:=h.all w zzT
   match w,hw,hb,hl with
   | .nt,_,_,hl =>
    cases D with
    |nil=>simp [ops] at hl
    |cons a D=>simpa [ops,pt] using hl
   | .op k,_,_,hl =>
    match D,hl with
    | [],hl=>simp [ops] at hl
    | [a],hl=>simp [ops] at hl
    |b::a::D,hl=>simp only [ops,List.length_cons] at hl;simp only [pt,List.length_cons];omega
   | .lp,_,hb,_=>have hb:m<=0:=hb;omega
  .exact h
theorem bF {m:Nat}:∀ (V:List Tk) (D:List Sy),(tl m D V).1.length<=D.length/\(tl m D V).2.length<=V.length
 | [],D=>⟨zzR _,zzR _⟩
 |w::V,D=>by
  unfold tl
  split
  .have ih:=bF (m:=m) V (pt w D);have hp:(pt w D).length<=D.length:=by unfold pt;split<;>simp
   exact ⟨Nat.le_trans ih.1 hp,by rw [List.length_cons];omega⟩
  .exact ⟨zzR _,zzR _⟩
def Good:St->Tk->Prop
 | (_,_,true),.nm x=>uD x=true
 | (_,_,true),.nt=>True
 | (_,_,true),.lp=>True
 | (_,_,true),_=>False
 | (_,_,false),.op _=>True
 | (D,V,false),.rp=>(tl 1 D V).2≠[]
 | (_,_,false),_=>False
def jE:St->List Tk->Prop
 |_,[]=>True
 |s,t::l=>Good s t/\jE (step s t) l
theorem jJ:∀ (a:List Tk) (s:St) (b:List Tk),jE s (a++b)↔jE s a/\jE (run s a) b
 | [],s,b=>⟨fun h=>⟨trivial,h⟩,fun h=>h.2⟩
 |t::a,s,b=>by
  show (Good s t/\jE (step s t) (a++b))↔(Good s t/\jE (step s t) a)/\jE (run (step s t) a) b;rw [jJ a];exact ⟨fun h=>⟨⟨h.1,h.2.1⟩,h.2.2⟩,fun h=>⟨h.1.1,h.1.2,h.2⟩⟩
theorem zfV (a:Sy):1<=bd a:=by
 cases a with
 |say x=>show 1<=5;decide
 |neg a=>show 1<=4;decide
 |two k a b=>match k with|0=>show 1<=3;decide|1=>show 1<=2;decide|k+2=>show 1<=1;decide
theorem fU {D:List Sy} {V:List Tk} {a:Sy} {n:Nat} (ih:∀ D V,Low (rM a) V->jE (D,V,true) (tw a)) (hlow:¬ bd a<n->Low (rM a) V):jE (D,V,true) (br n a (tw a)):=by
 unfold br
 by_cases h:bd a<n
 .rw [if_pos h];have hl:Low (rM a) (.lp::V):=show bin .lp<rM a from Nat.lt_of_lt_of_le (by decide) (zba a)
  refine ⟨trivial,(jJ _ _ _).mpr ⟨ih D (.lp::V) hl,?_⟩⟩;obtain ⟨D',V',e,p⟩:=rS a D (.lp::V) hl;show jE (run (D,.lp::V,true) (tw a)) [.rp];rw [e];refine ⟨?_,trivial⟩;have q:=p 1 (zzR _) (zfV a);have ql:tl 1 (a::D) (.lp::V)=(a::D,.lp::V):=bG (show bin .lp<1 by decide);rw [ql] at q;show (tl 1 D' V').2≠[];rw [q];simp
 .rw [if_neg h];exact ih D V (hlow h)
theorem uI:∀ (t:Sy),t.ok->∀ (D:List Sy) (V:List Tk),Low (rM t) V->jE (D,V,true) (tw t)
 | .say x,h,D,V,_=>⟨h,trivial⟩
 | .neg a,h,D,V,_=>⟨trivial,fU (D:=D) (V:=.nt::V) (a:=a) (n:=4) (fun D V l=>uI a h D V l) fun z=>by rw [zbb z];show 4<5;decide⟩
 | .two k a b,h,D,V,hl=>by
  have hl:Low (lA k) V:=hl;refine (jJ _ _ _).mpr ⟨fU (n:=lA k) (fun D V l=>uI a h.1 D V l) fun z=>hl.mono (rN z),?_⟩;obtain ⟨D1,V1,e1,p1⟩:=zee (D:=D) (V:=V) (a:=a) (n:=lA k) (fun D V h=>rS a D V h) fun z=>hl.mono (rN z);rw [e1];have kA:1<=lA k:=by match k with|0=>decide|k+1=>show 1<=2;decide
  have kA5:lA k<=5:=by match k with|0=>decide|k+1=>show 2<=5;decide
  have q:=p1 (lA k) kA (by split<;>omega);rw [bG hl] at q;refine ⟨trivial,?_⟩;show jE ((tl (lA k) D1 V1).1,.op k::(tl (lA k) D1 V1).2,true) (br (lB k) b (tw b));rw [q];exact fU (fun D V l=>uI b h.2 D V l) fun z=>gU z
def WfS:St->Prop
 | (D,V,l)=>Wf D V (if l=true then 0 else 1)
theorem zcT (k:Nat):1<=lA k:=by match k with|0=>decide|k+1=>show 1<=2;decide
theorem zf7 {m:Nat}:∀ (V:List Tk) (D:List Sy),Low m (tl m D V).2
 | [],D=>trivial
 |w::V,D=>by
  unfold tl
  split
  .exact zf7 V _
  .rename_i hb;exact Nat.not_le.mp hb
theorem zbT {s:St} {t:Tk} (h:WfS s) (g:Good s t):WfS (step s t):=by
 obtain ⟨D,V,l⟩:=s
 cases l with
 |true =>
  have h:Wf D V 0:=h
  match t,g with
  | .nm x,_=>exact ⟨by have:=h.len;show D.length+1=ops V+1;omega,h.all⟩
  | .nt,_=>exact ⟨h.len,fun w hw=>by rcases List.mem_cons.mp hw with rfl|hw;rfl;exact h.all w hw⟩
  | .lp,_=>exact ⟨h.len,fun w hw=>by rcases List.mem_cons.mp hw with rfl|hw;rfl;exact h.all w hw⟩
 |false =>
  have h:Wf D V 1:=h
  match t,g with
  | .op k,_ =>
   have:=zb4 (zcT k) h;exact ⟨this.len,fun w hw=>by rcases List.mem_cons.mp hw with rfl|hw;rfl;exact this.all w hw⟩
  | .rp,g =>
   have hw:=zb4 (zzR 1) h;have g:(tl 1 D V).2≠[]:=g;show Wf (tl 1 D V).1 ((tl 1 D V).2.drop 1) 1;have low:Low 1 (tl 1 D V).2:=zf7 V D;generalize tl 1 D V=r at hw g low;obtain ⟨D',V'⟩:=r
   cases V' with
   |nil=>exact absurd rfl g
   |cons w V' =>
    have hi:=hw.all w zzT;refine ⟨?_,fun x hx=>hw.all x (List.mem_cons_of_mem _ hx)⟩
    match w,hi,low,hw.len with
    | .lp,_,_,e=>exact e
    | .nt,_,low,_=>exact absurd (show (4:Nat)<1 from low) (by decide)
    | .op 0,_,low,_=>exact absurd (show (3:Nat)<1 from low) (by decide)
    | .op 1,_,low,_=>exact absurd (show (2:Nat)<1 from low) (by decide)
    | .op (k+2),_,low,_=>exact absurd (show (1:Nat)<1 from low) (by decide)
def LenS (s:St) (n:Nat):Prop:=s.1.length<=n/\s.2.1.length<=n
theorem zeA {s:St} {t:Tk} {n:Nat} (h:LenS s n):LenS (step s t) (n+1):=by
 obtain ⟨D,V,l⟩:=s;have h1:D.length<=n:=h.1;have h2:V.length<=n:=h.2;have tA:=fun k=>bF (m:=lA k) V D;have t1:=bF (m:=1) V D
 have q1:∀ t:Tk,(step (D,V,true) t).1.length<=n+1/\(step (D,V,true) t).2.1.length<=n+1:=by
  intro t;cases t<;>simp only [step,List.length_cons]<;>omega
 have q2:∀ t:Tk,(step (D,V,false) t).1.length<=n+1/\(step (D,V,false) t).2.1.length<=n+1:=by
  intro t
  cases t with
  |op k=>have:=tA k;simp only [step,List.length_cons];omega
  |_=>simp only [step,List.length_drop];omega
 cases l with
 |true=>exact q1 t
 |false=>exact q2 t
def nN:List Tk->Nat
 | []=>0
 | .nm _::l=>nN l+1
 |_::l=>nN l
def nL:List Tk->Nat
 | []=>0
 | .lp::l=>nL l+1
 |_::l=>nL l
def nR:List Tk->Nat
 | []=>0
 | .rp::l=>nR l+1
 |_::l=>nR l
theorem zdU {m:Nat} (hm:1<=m):∀ (V:List Tk) (D:List Sy),nL (tl m D V).2=nL V
 | [],_=>rfl
 |w::V,D=>by
  unfold tl
  split
  .rename_i hb;rw [zdU hm V]
   cases w with
   |lp=>have hb:m<=0:=hb;omega
   |_=>rfl
  .rfl
def bo (b:Bool):Nat:=if b=true then 0 else 1
theorem zjg (a b:List Tk):nN (a++b)=nN a+nN b:=by
 induction a with
 |nil=>exact (Nat.zero_add _).symm
 |cons t a ih=>cases t<;>simp only [List.cons_append,nN,ih]<;>omega
theorem zjh (a b:List Tk):nL (a++b)=nL a+nL b:=by
 induction a with
 |nil=>exact (Nat.zero_add _).symm
 |cons t a ih=>cases t<;>simp only [List.cons_append,nL,ih]<;>omega
theorem zjf (a b:List Tk):nR (a++b)=nR a+nR b:=by
 induction a with
 |nil=>exact (Nat.zero_add _).symm
 |cons t a ih=>cases t<;>simp only [List.cons_append,nR,ih]<;>omega
theorem zgE (a b:List Tk):ops (a++b)=ops a+ops b:=by
 induction a with
 |nil=>exact (Nat.zero_add _).symm
 |cons t a ih=>cases t<;>simp only [List.cons_append,ops,ih]<;>omega
theorem cnt:∀ (l:List Tk) (s:St),WfS s->jE s l->nN l+bo s.2.2=ops l+bo (run s l).2.2/\nL (run s l).2.1+nR l=nL s.2.1+nL l
 | [],s,_,_=>⟨by show 0+_=0+_;rfl,rfl⟩
 |t::l,s,wf,g=>by
  obtain ⟨g1,g2⟩:=g;obtain ⟨c1,c2⟩:=cnt l (step s t) (zbT wf g1) g2;have e:run s (t::l)=run (step s t) l:=rfl;rw [e];generalize run (step s t) l=u at c1 c2;obtain ⟨D,V,b⟩:=s
  cases b with
  |true =>
   cases t with
   |nm x=>simp only [step,bo,nN,ops,nL,nR,if_true,zzB,if_false] at c1 c2 ⊢;omega
   |nt=>simp only [step,bo,nN,ops,nL,nR,if_true] at c1 c2 ⊢;omega
   |lp=>simp only [step,bo,nN,ops,nL,nR,if_true] at c1 c2 ⊢;omega
   |op k=>exact g1.elim
   |rp=>exact g1.elim
  |false =>
   cases t with
   |op k =>
    have h:=zdU (zcT k) V D;simp only [step,bo,nN,ops,nL,nR,if_true,zzB,if_false] at c1 c2 ⊢;omega
   |rp =>
    have h:=zdU (m:=1) (zzR _) V D;have lw:=zf7 (m:=1) V D;have w2:=zb4 (m:=1) (zzR _) wf;have g1:(tl 1 D V).2≠[]:=g1;simp only [step,bo,nN,ops,nL,nR,zzB,if_false] at c1 c2 ⊢;generalize (tl 1 D V).2=V2 at *
    cases V2 with
    |nil=>exact absurd rfl g1
    |cons w V2 =>
     have hb:bin w<1:=lw;have hw:=w2.all w zzT
     cases w with
     |lp=>simp only [List.drop_one,List.tail_cons,nL] at h c2 ⊢;omega
     |nt=>exact absurd hb (by decide)
     |op k=>exact absurd hb (by match k with|0=>decide|1=>decide|k+2=>show ¬ 1<1;decide)
     |nm x=>cases hw
     |rp=>cases hw
   |nm x=>exact g1.elim
   |nt=>exact g1.elim
   |lp=>exact g1.elim
def Acc (l:List Tk) (t:Sy):Prop:=jE ([],[],true) l/\∃ D V,run ([],[],true) l=(D,V,false)/\tl 1 D V=([t],[])
theorem wf0:WfS ([],[],true):=⟨rfl,fun _ h=>nomatch h⟩
theorem zdH (t:Sy) (ok:t.ok):Acc (tw t) t:=by
 refine ⟨uI t ok [] [] trivial,?_⟩;obtain ⟨D,V,e,h⟩:=rS t [] [] trivial;exact ⟨D,V,e,(h 1 (zzR _) (zfV t)).trans rfl⟩
theorem zaV {l:List Tk} {t:Sy} (h:Acc l t):nN l=ops l+1/\nR l=nL l:=by
 obtain ⟨g,D,V,e,h2⟩:=h;obtain ⟨c1,c2⟩:=cnt l _ wf0 g;rw [e] at c1 c2;have:=zdU (m:=1) (zzR _) V D;rw [h2] at this;have this:0=nL V:=this;have c1:nN l+0=ops l+1:=c1;have c2:nL V+nR l=0+nL l:=c2;omega
theorem zgL {a b:List Tk} {t:Sy}:¬ Acc (a++.lp::.rp::b) t:=fun h=>by
 obtain ⟨g,_⟩:=h;obtain ⟨_,g1,g2,_⟩:=(jJ a _ _).mp g;generalize run ([],[],true) a=s at g1 g2;obtain ⟨D,V,l⟩:=s
 cases l with
 |true=>exact g2
 |false=>exact g1
theorem zi9 {a b:List Tk} {x:Str} {t:Sy}:¬ Acc (a++.nm x::.nt::b) t:=fun h=>by
 obtain ⟨g,_⟩:=h;obtain ⟨_,g1,g2,_⟩:=(jJ a _ _).mp g;generalize run ([],[],true) a=s at g1 g2;obtain ⟨D,V,l⟩:=s
 cases l with
 |true=>exact g2
 |false=>exact g1
theorem zhK {t:Sy}:¬ Acc [] t:=fun h=>by
 obtain ⟨_,D,V,e,_⟩:=h;cases e
theorem cpsA (a b:Str):(a++b).cps.toList=a.cps.toList++b.cps.toList:=by rw [Str.cps_append,Array.toList_append]
theorem hU {c:Nat} {z:List Nat}:∀ x:List Nat,Rp [c] z x (x.flatMap fun k=>if k=c then z else [k])
 | []=>.nil
 |k::r=>by
  rw [List.flatMap_cons]
  by_cases h:k=c
  .subst h;rw [if_pos rfl];exact .hit (hU r)
  .rw [if_neg h];refine .skip ?_ (hU r);rintro ⟨t,e⟩
   injection e with e1 _
   exact h e1.symm
theorem zcj {x y z:Str} {s:List Nat} (hy:1<=y.length) (h:Rp y.cps.toList z.cps.toList x.cps.toList s):(Txt.replace x y z).cps.toList=s :=
 Rp.det (fun e=>by have:=uB y;rw [e] at this;simp at this;omega) (ziw x y z hy) h
def c (t:Tk):List Nat:=t.s.cps.toList
theorem tw_ne:∀ t:Sy,tw t≠[]
 | .say x=>by simp [tw]
 | .neg a=>by simp [tw]
 | .two k a b=>by simp [tw]
theorem c_lp:c .lp=[40]:=by show ("(" : Str).cps.toList=_;decide +kernel
theorem c_rp:c .rp=[41]:=by show (")" : Str).cps.toList=_;decide +kernel
def ex1 (k:Nat):List Nat:=if k=40 then [32,40,32] else [k]
def ex2 (k:Nat):List Nat:=if k=41 then [32,41,32] else [k]
def ex (l:List Nat):List Nat:=(l.flatMap ex1).flatMap ex2
theorem fS (a b:List Nat):ex (a++b)=ex a++ex b:=by simp [ex]
theorem ex_32 (l:List Nat):ex (32::l)=32::ex l:=by rw [show (32::l:List Nat)=[32]++l from rfl,fS];rfl
def opn (x:Str):Str:=Txt.replace (Txt.replace x "(" " ( ") ")" " ) "
theorem zfw (x:Str):(Txt.replace x "(" " ( ").cps.toList=x.cps.toList.flatMap ex1:=by
 refine zcj (by decide +kernel) ?_;rw [show ("(" : Str).cps.toList=[40] by decide +kernel,show (" ( " : Str).cps.toList=[32,40,32] by decide +kernel];exact hU _
theorem zfv (x:Str):(opn x).cps.toList=ex x.cps.toList:=by
 unfold opn ex;rw [← zfw];refine zcj (by decide +kernel) ?_;rw [show (")" : Str).cps.toList=[41] by decide +kernel,show (" ) " : Str).cps.toList=[32,41,32] by decide +kernel];exact hU _
def mkS (l:List Nat):Str:=⟨l.toArray⟩
def wdS (x:Str):List Str:=(wd x.cps.toList).map mkS
theorem zdd:∀ l:List Nat,(l.flatMap ex1).length<=3 * l.length
 | []=>zzR _
 |k::l=>by
  have:=zdd l;have h:(ex1 k).length<=3:=by unfold ex1;split<;>simp
  rw [List.flatMap_cons,zzW,List.length_cons];omega
theorem zfO:∀ l:List Nat,(ex l).length<=3 * l.length
 | []=>zzR _
 |k::l=>by
  have:=zfO l
  have h:(ex [k]).length<=3:=by
   unfold ex
   by_cases h1:k=40
   .subst h1;decide
   .by_cases h2:k=41
    .subst h2;decide
    .simp [ex1,ex2,h1,h2]
  rw [show k::l=[k]++l from rfl,fS,zzW,zzW,List.length_singleton];omega
theorem tQ:∀ t:Sy,(tw t).length<=5 * t.size
 | .say x=>by show 1<=5;decide
 | .neg a=>by
  have:=tQ a;have e:(br 4 a (tw a)).length<=(tw a).length+2:=by unfold br;split<;>simp
  show (br 4 a (tw a)).length+1<=5 * (a.size+1);omega
 | .two k a b=>by
  have ha:=tQ a;have hb:=tQ b;have e:∀ (n:Nat) (a:Sy),(br n a (tw a)).length<=(tw a).length+2:=by intro n a;unfold br;split<;>simp
  have h1:=e (lA k) a;have h2:=e (lB k) b;show (br (lA k) a (tw a)++.op k::br (lB k) b (tw b)).length<=5 * (a.size+b.size+1);rw [zzW,List.length_cons];omega
def mQ:Tk->Prop
 | .nm x=>uD x=true
 |_=>True
def pl (k:Nat):Prop:=k≠32/\k≠10/\k≠40/\k≠41
instance (k:Nat):Decidable (pl k):=inferInstanceAs (Decidable (_/\_))
theorem pl_of {k:Nat} (h:97<=k):pl k:=⟨by omega,by omega,by omega,by omega⟩
theorem zfx {x:Str} (h:uD x=true):x.cps.toList≠[]/\∀ k∈x.cps.toList,pl k:=by
 simp only [uD,xO,ltB,Bool.and_eq_true,decide_eq_true_eq,List.all_eq_true] at h;refine ⟨fun e=>?_,fun k hk=>pl_of (h.2 k hk).1⟩;have:=uB x;rw [e] at this;have h1:=h.1.1.1;simp at this;omega
theorem zjE (k:Nat):(jw k).cps.toList≠[]/\∀ j∈(jw k).cps.toList,pl j:=by
 match k with
 | 0=>decide +kernel
 | 1=>decide +kernel
 |k+2=>show (("then" : Str).cps.toList≠[]/\∀ j∈("then" : Str).cps.toList,pl j);decide +kernel
theorem zfN:∀ {l:List Nat},(∀ k∈l,pl k)->ex l=l
 | [],_=>rfl
 |k::l,h=>by
  obtain ⟨_,_,h3,h4⟩:=h k zzT;have e:ex [k]=[k]:=by simp [ex,ex1,ex2,h3,h4]
  have:=fS [k] l;rw [show k::l=[k]++l from rfl,this,e,zfN fun j hj=>h j (List.mem_cons_of_mem _ hj)]
theorem zhU {l:List Nat} (hn:l≠[]) (h:∀ k∈l,pl k):wd l=[l]:=by
 rw [zf2 fun z=>(h 32 z).1 rfl]
 cases l with
 |nil=>exact absurd rfl hn
 |cons _ _=>rfl
def nl (l:List Nat):List Nat:=l.map fun k=>if k=10 then 32 else k
def isG (l:List Nat):Prop:=∀ k∈l,k=32\/k=10
def vN (t:Tk):Bool:=match t with|.lp=>true|.rp=>true|_=>false
structure Jn (l:List Nat) (ts:List Tk):Prop where
 wd:wd (ex (nl l))=ts.map c
 end_:(∃ t,ts.getLast?=some t/\vN t=true)\/l=[]->∃ a,ex (nl l)=a++[32]\/ex (nl l)=[]
theorem zfy (a b:List Nat):nl (a++b)=nl a++nl b:=by simp [nl]
theorem zfM:∀ {g:List Nat},isG g->ex (nl g)=List.replicate g.length 32
 | [],_=>rfl
 |k::g,h=>by
  have hk:=h k zzT;have ih:=zfM fun j hj=>h j (List.mem_cons_of_mem _ hj)
  have e:nl (k::g)=32::nl g:=by
   show (if k=10 then 32 else k)::nl g=_;rcases hk with rfl|rfl
   .rfl
   .rfl
  rw [e,ex_32,ih];rfl
def pE:Tk->Prop
 | .nm x=>x.cps.toList≠[]/\(∀ k∈x.cps.toList,pl k)/\x.length<=9/\uK.contains x=false
 |_=>True
theorem bT {t:Tk} (h:pE t) (n:vN t=false):c t≠[]/\∀ k∈c t,pl k:=by
 cases t with
 |nm x=>exact ⟨h.1,h.2.1⟩
 |lp=>cases n
 |rp=>cases n
 |nt=>show ("not" : Str).cps.toList≠[]/\∀ k∈("not" : Str).cps.toList,pl k;decide +kernel
 |op k=>exact zjE k
theorem zjb {l:List Nat} (h:∀ k∈l,pl k):nl l=l:=by
 induction l with
 |nil=>rfl
 |cons k l ih =>
  have hk:=h k zzT;show (if k=10 then 32 else k)::nl l=_;rw [if_neg hk.2.1,ih fun j hj=>h j (List.mem_cons_of_mem _ hj)]
theorem zf5 {t:Tk} (h:vN t=true):ex (nl (c t))=32::(c t++32::[]):=by
 cases t with
 |lp=>rw [c_lp];rfl
 |rp=>rw [c_rp];rfl
 |_=>cases h
theorem bH {t:Tk} (h:pE t):wd (ex (nl (c t)))=[c t]:=by
 cases hb:vN t with
 |false=>rw [zjb (bT h hb).2,zfN (bT h hb).2,zhU (bT h hb).1 (bT h hb).2]
 |true =>
  cases t with
  |lp=>rw [c_lp];rfl
  |rp=>rw [c_rp];rfl
  |_=>cases hb
theorem zfJ:Jn [] []:=⟨rfl,fun _=>⟨[],.inr rfl⟩⟩
theorem nO {l g:List Nat} {ts:List Tk} {k:Tk} (j:Jn l ts) (hk:pE k) (hg:isG g) (h:g≠[]\/vN k=true\/(∃ t,ts.getLast?=some t/\vN t=true)\/l=[]):Jn (l++g++c k) (ts++[k]):=by
 have e:ex (nl (l++g++c k))=ex (nl l)++(List.replicate g.length 32++ex (nl (c k))):=by
  rw [zfy,zfy,fS,fS,zfM hg,List.append_assoc]
 refine ⟨?_,fun h2=>?_⟩
 .rw [e,List.map_append,← j.wd]
  cases g with
  |cons x g=>rw [List.length_cons,zhV,bH hk];rfl
  |nil =>
   rw [List.length_nil,List.replicate_zero,List.nil_append];rcases h with h|h|h
   .exact absurd rfl h
   .have w:=bH hk;rw [zf5 h,zbU] at w;rw [zf5 h,nB,w];rfl
   .obtain ⟨a,ha|ha⟩:=j.end_ h
    .rw [ha,List.append_assoc];show wd (a++32::ex (nl (c k)))=wd (a++32::[])++_;rw [nB,nB,bH hk,zhT,List.append_nil];rfl
    .rw [ha,List.nil_append,bH hk];rfl
 .have hb:vN k=true:=by
   rcases h2 with ⟨t,ht,hb⟩|h2
   .rw [List.getLast?_append] at ht;simp at ht;rw [ht];exact hb
   .have:=(List.append_eq_nil_iff.mp h2).2
    cases hb:vN k with
    |true=>rfl
    |false=>exact absurd this (bT hk hb).1
  refine ⟨ex (nl l)++(List.replicate g.length 32++(32::c k)),.inl ?_⟩;rw [e,zf5 hb];simp
theorem zjd (x:Str):(Txt.replace x "\n" " ").cps.toList=nl x.cps.toList:=by
 refine zcj (by decide +kernel) ?_;rw [show ("\n" : Str).cps.toList=[10] by decide +kernel,show (" " : Str).cps.toList=[32] by decide +kernel];have:=hU (c:=10) (z:=[32]) x.cps.toList
 have e:∀ l:List Nat,(l.flatMap fun k=>if k=10 then [32] else [k])=nl l:=by
  intro l
  induction l with
  |nil=>rfl
  |cons k l ih =>
   rw [List.flatMap_cons,ih];show _=(if k=10 then 32 else k)::nl l
   by_cases h:k=10
   .rw [if_pos h,if_pos h];rfl
   .rw [if_neg h,if_neg h];rfl
 rw [e] at this;exact this
theorem zjc (x:Str):(Txt.replace x "\n" " ").length=x.length:=by
 rw [← uB,zjd,← uB x];simp [nl]
theorem zhS {x:Str} {ts:List Tk} (h:wd (ex (nl x.cps.toList))=ts.map c):wdS (opn (Txt.replace x "\n" " "))=ts.map Tk.s:=by
 unfold wdS;rw [zfv,zjd,h,List.map_map];congr 1
theorem in_b {k:Tk} (h:pE k):zg8 true k.s "()" = !vN k:=by
 cases hb:vN k with
 |true =>
  cases k with
  |lp=>decide +kernel
  |rp=>decide +kernel
  |_=>cases hb
 |false =>
  have hl:=bT h hb;unfold zg8;rw [if_pos rfl];rcases PySem.StrLaws.occ_head ("()" : Str) k.s 1 (zzR 1) with ⟨e,_⟩|⟨i,r,_,ha,_⟩
  .rw [e];rfl
  .exfalso;have hi:i<=("()" : Str).length:=by have:=ha.1;omega
   obtain ⟨t,e⟩:=(fL ("()" : Str) k.s i hi).mp ha;obtain ⟨y,l,ec⟩:=List.exists_cons_of_ne_nil hl.1;have hy:=hl.2 y (by rw [ec];exact zzT);have hm:y∈("()" : Str).cps.toList:=List.mem_of_mem_drop (i:=i) (by rw [← e,show k.s.cps.toList=c k from rfl,ec];exact zzT);have:∀ z∈("()" : Str).cps.toList,¬ pl z:=by decide +kernel
   exact this y hm hy
theorem ok_k {k:Tk} (h:mQ k):pE k:=by
 cases k with
 |nm x =>
  have h:uD x=true:=h;refine ⟨(zfx h).1,(zfx h).2,?_,?_⟩
  .simp only [uD,Bool.and_eq_true,decide_eq_true_eq] at h;omega
  .simp only [uD,Bool.and_eq_true,Bool.not_eq_true'] at h;exact h.1.2
 |_=>trivial
theorem zc0:∀ (ts:List Tk) (l:List Nat) (us:List Tk),Jn l us->us≠[]->(∀ k∈ts,pE k)->Jn (l++ts.flatMap fun k=>32::c k) (us++ts)
 | [],l,us,j,_,_=>by simpa using j
 |k::ts,l,us,j,hu,h=>by
  have j2:=nO (g:=[32]) j (h k zzT) (fun i hi=>.inl (zzO hi)) (.inl (by simp));have:=zc0 ts _ _ j2 (by simp) fun k hk=>h k (List.mem_cons_of_mem _ hk);simpa using this
theorem zeI:∀ (k:Tk) (ts:List Tk),(Txt.join " " ((k::ts).map Tk.s)).cps.toList=c k++ts.flatMap fun k=>32::c k:=by
 intro k ts;rw [show Txt.join " " ((k::ts).map Tk.s)=Str.join " " ((k::ts).map Tk.s) from StrLaws.glued_eq_join " " _]
 induction ts generalizing k with
 |nil=>simp [Str.join,c]
 |cons u ts ih =>
  show (k.s ++ " " ++ Str.join " " ((u::ts).map Tk.s)).cps.toList=_;rw [cpsA,cpsA,ih,show (" " : Str).cps.toList=[32] by decide +kernel];simp [c]
theorem zdO {ts:List Tk} (h:∀ k∈ts,pE k) (hn:ts≠[]):wd (ex (nl (Txt.join " " (ts.map Tk.s)).cps.toList))=ts.map c:=by
 cases ts with
 |nil=>exact absurd rfl hn
 |cons k ts =>
  rw [zeI]
  have j1:Jn (c k) [k]:=by
   have:=nO (g:=[]) zfJ (h k zzT) (fun i hi=>nomatch hi) (.inr (.inr (.inr rfl)));simpa using this
  exact (zc0 ts _ _ j1 (by simp) fun k hk=>h k (List.mem_cons_of_mem _ hk)).wd
abbrev eApp:Mt3:=⟨"append", "list", appS⟩
theorem zhs {q:Pr} {A:Around}:MtE (q.at A) eApp/\pW eApp:=⟨gN PySem.F.plainAttrs_list PySem.F.slot_list_append PySem.F.type_list_append (fun X f=>zkh) bN,bN⟩
def tv:Tk->W
 | .nm x=>.tup [.str "say", .str x]
 |t=>.str t.s
def Lw (D:List Sy):O:=.lst ((D.map Sy.w).reverse)
def Lk (V:List Tk):O:=.lst ((V.map fun t=>W.str t.s).reverse)
def yE (l:List Tk):List W:=l.map fun t=>W.str t.s
def jL:List W:=[.str "(", .str ")", .str "not", .str "and", .str "or", .str "then"]
def rK:List Str:=["(", "then", "or", "and", "not"]
def rV:List W:=[.int 0,.int 1,.int 2,.int 3,.int 4]
def tK:List Str:=["then", "or", "and", ")"]
def tV:List W:=[.int 2,.int 2,.int 3,.int 1]
def mK:List Str:=["then", "or", "and"]
def mV:List W:=[.str "if", .str "or", .str "and"]
def wdOf:Sy->Str
 | .say _ => "say"
 | .neg _ => "not"
 | .two k _ _=>kw k
def Fr (ws:List W) (G:Hw) (Q:Q3):Prop:=∀ r G',zJ [] G G'->G r=none->G' r=some (.lst ws)->Q (.ref r) G'
theorem Fr.mono {ws:List W} {G:Hw} {Q Q':Q3} (k:∀ w G',Q w G'->Q' w G') (h:Fr ws G Q):Fr ws G Q':=fun r G' a b c=>k _ _ (h r G' a b c)
theorem Fr.keep {ws:List W} {G G1:Hw} {Q:Q3} (h:Fr ws G Q) (k:zJ [] G G1):Fr ws G1 Q:=fun r G' a b c=>h r G' (k.trans a) (k.none (by simp) b) c
def K0 (w:W) (G:Hw) (Q:Q3):Prop:=∀ G',zJ [] G G'->Q w G'
def nU:sC:=fun ws G Q _=>∃ (d l:Addr) (m:Int),ws=[.ref d,.int m]/\jW G d l/\1<=m/\m<=4/\∀ (r:Addr) (xs:List Str) G',xs≠[]->xs.length<=4->(∀ x∈xs,uD x=true)->r∉[d,l]->G' r=some (.lst (xs.map .str))->zJ [d,l] G G'->jW G' d l->Q (.ref r) G'
def wV (n:Nat):sC:=fun ws G Q _=>∃ (d l r:Addr) (m e:Int) (xs:List Str),ws=[.ref d,.ref r,.int m,.int e]/\jW G d l/\r∉[d,l]/\G r=some (.lst (xs.map .str))/\xs≠[]/\xs.length<=5/\(∀ x∈xs,uD x=true)/\1<=m/\m<=40/\0<=e/\e<n /\
 ∀ (t:Sy) G',t.ok->(t.size:Int)<=m->(t.deep:Int)<=e->zJ [d,l] G G'->jW G' d l->Q t.w G'
def tD:sC:=fun ws G Q _=>∃ t:Sy,ws=[t.w]/\K0 (.int ((bd t:Int)-1)) G Q
def mH (n:Nat):sC:=fun ws G Q _=>∃ (t:Sy) (k:Nat),ws=[t.w,.int ((k:Int)-1)]/\t.size<=40/\t.deep<n/\Fr (yE (br k t (tw t))) G Q
def mL (n:Nat):sC:=fun ws G Q _=>∃ t:Sy,ws=[t.w]/\t.size<=40/\t.deep<n/\Fr (yE (tw t)) G Q
def zd4:sC:=fun ws G Q _=>∃ (w:Tk) (D:List Sy) (p:Addr),ws=[.str w.s,.ref p]/\G p=some (Lw D)/\D.length<=500/\((w=.nt/\1<=D.length)\/∃ k,w=.op k/\2<=D.length)/\∀ G',zJ [p] G G'->G' p=some (Lw (pt w D))->Q .non G'
def mJ:sC:=fun ws G Q _=>∃ (m:Nat) (D:List Sy) (V:List Tk) (p r:Addr),ws=[.int m,.ref p,.ref r]/\1<=m/\p≠r/\G p=some (Lw D)/\G r=some (Lk V)/\Wf D V 1/\D.length<=400/\V.length<=400/\∀ G',zJ [p,r] G G'->G' p=some (Lw (tl m D V).1)->G' r=some (Lk (tl m D V).2)->Q .non G'
def spWB:sC:=fun ws G Q _=>∃ x:Str,ws=[.str x]/\x.length<=20000/\Fr ((wdS x).map .str) G Q
def spWA:sC:=fun ws G Q _=>∃ x:Str,ws=[.str x]/\x.length<=6000/\Fr ((wdS (opn x)).map .str) G Q
structure Cl (K:yS) (CQ:Nat->Addr):Prop where
 xk:L3.XK K
 xc:PySem.W.XC K (CQ 0)
 one:PySem.W.kitOne K (.ref (CQ 0)) (.ref (CQ 0))=some true
 no:∀ i∈[1,3,9,4,6,8,5,2,7],PySem.W.kitOne K (.ref (CQ 0)) (.ref (CQ i))=some false
 val:PySem.W.kitOne K (.ref (CQ 0)) (.type "ValueError")=some true
 ss:PySem.W.kitOne K (.type "str") (.type "str")=some true
 st:PySem.W.kitOne K (.type "str") (.type "tuple")=some false
 tt:PySem.W.kitOne K (.type "tuple") (.type "tuple")=some true
 ns:∀ T∈["NoneType", "int", "bool", "list", "tuple"],PySem.W.kitOne K (.type T) (.type "str")=some false
def zhM (G:Hw) (w:W):Prop:=∃ T∈["NoneType", "int", "bool", "list", "tuple"],tyO G w=some T
def Bad (tk:List Tk):Prop:=¬ ((∀ k∈tk,mQ k)/\∃ t,Acc tk t)
def RefW (G:Hw) (w:W):Prop:=zhM G w\/∃ (x:Str) (tk:List Tk),w=.str x/\x.length<=5000/\tk.length<=300/\(∀ k∈tk,pE k)/\wd (ex (nl x.cps.toList))=tk.map c/\Bad tk
def zd5:sC:=fun ws G Q _=>∃ x:Str,ws=[.str x]/\x.length<=1000/\K0 (.bl (uD x)) G Q
def spJo:sC:=fun ws G Q _=>∃ (p q:Addr) (tk:List Tk) (gs:List Str),ws=[.ref p,.ref q]/\G p=some (.lst (yE tk))/\G q=some (.lst (gs.map .str))/\tk.length<=200/\(∀ k∈tk,pE k)/\gs≠[]/\gs.length<=10/\(∀ g∈gs,isG g.cps.toList/\g.length<=3)/\∀ (x:Str) G',Jn x.cps.toList tk->x.length<=13 * tk.length->zJ [] G G'->Q (.str x) G'
def zd2:sC:=fun ws G Q _=>∃ (d l r:Addr) (t:Sy),ws=[.ref d,.ref r]/\jW G d l/\r∉[d,l]/\G r=some (.lst (yE (tw t)))/\t.ok/\t.size<=20 /\
 ∀ (q:Addr) (tk:List Tk) G',Bad tk->(∀ k∈tk,pE k)->tk.length<=150->q∉[d,l]->G' q=some (.lst (yE tk))->zJ [d,l] G G'->jW G' d l->Q (.ref q) G'
def zd3:sC:=fun ws G Q _=>∃ w:W,ws=[w]/\RefW G w/\∀ G',zJ [] G G'->Q (.bl true) G'
def N0 (sp:SpX):sC:=fun ws G Q _=>sp ws G Q fun _ _=>False
section
variable (K : yS) (CQ : Nat → Addr)
def xT:W:=.exc (CQ 0) [] []
def yN (l:Bool):SpX:=fun ws G Q E=>∃ (t:Tk) (D:List Sy) (V:List Tk) (p r:Addr),ws=[tv t,.ref p,.ref r]/\p≠r/\G p=some (Lw D)/\G r=some (Lk V)/\mQ t/\WfS (D,V,l)/\D.length<=300/\V.length<=300 /\
 (Good (D,V,l) t->∀ G',zJ [p,r] G G'->G' p=some (Lw (step (D,V,l) t).1)->G' r=some (Lk (step (D,V,l) t).2.1)->Q (.bl (step (D,V,l) t).2.2) G')/\(¬ Good (D,V,l) t->∀ G',zJ [p,r] G G'->E (xT CQ) G')
def fE:SpX:=fun ws G Q E=>∃ (tk:List Tk) (q:Addr),ws=[.ref q]/\(∀ k∈tk,mQ k)/\tk.length<=300/\G q=some (.lst (tk.map tv))/\(∀ t,Acc tk t->K0 t.w G Q)/\((¬ ∃ t,Acc tk t)->∀ G',zJ [] G G'->E (xT CQ) G')
def bD:SpX:=fun ws G Q E=>∃ k:Tk,ws=[.str k.s]/\pE k/\(mQ k->K0 (tv k) G Q)/\(¬ mQ k->∀ G',zJ [] G G'->E (xT CQ) G')
def fF:SpX:=fun ws G Q E=>(∃ w,ws=[w]/\zhM G w/\∀ G',zJ [] G G'->E (xT CQ) G')\/∃ (tk:List Tk) (x:Str),ws=[.str x]/\(∀ k∈tk,pE k)/\tk.length<=300/\x.length<=5000/\wd (ex (nl x.cps.toList))=tk.map c /\
 ((∀ k∈tk,mQ k)->∀ t,Acc tk t->K0 t.w G Q)/\(Bad tk->∀ G',zJ [] G G'->E (xT CQ) G')
def fnL:List Fn3:=[eMax,eLen,eAll,eLst,eIsx K,eInt,zj6,zdk,⟨"_law_names", nU⟩,⟨"_law_large", wV 21⟩,⟨"_law_binds", tD⟩,⟨"_law_at", mH 21⟩,⟨"_law_text_words", mL 21⟩,⟨"put_together", zd4⟩,⟨"take_left", mJ⟩,⟨"begin_side", N0 (yN CQ true)⟩,⟨"go_on", N0 (yN CQ false)⟩,⟨"read_joined", N0 (fE CQ)⟩,⟨"is_name", zd5⟩,⟨"read_word", N0 (bD CQ)⟩,
 ⟨"words_between_blanks", spWB⟩,⟨"words_and_brackets", spWA⟩,⟨"read_saying", N0 (fF CQ)⟩,⟨"_law_spoilt", zd2⟩,⟨"_law_refused", zd3⟩,⟨"_law_joined", spJo⟩]
def GamL (l:List Fn3):Ctx3:=⟨l,[("LONGEST_NAME", .int 6),("NO_NAMES", .tup (uK.map .str)),("JOINING", .tup jL),("BINDS", .dcf rK rV),("TAKES", .dcf tK tV),("MADE", .dcf mK mV),("str", .ty "str"),("tuple", .ty "tuple"),("ValueError", .ty "ValueError"),("NoText", .ref (CQ 0)),("NoBook", .ref (CQ 1)),("NotLet", .ref (CQ 2)),("NoMove", .ref (CQ 3)),("NoPlan", .ref (CQ 4)),("NoTalker", .ref (CQ 5)),("NoPaper", .ref (CQ 6)),("NoWeb", .ref (CQ 7)),("NoRow", .ref (CQ 8)),("NoName", .ref (CQ 9))],
 [ePop,zdj,eApp,eIdx,zbn],[eRng,eEn],[],[eRev,⟨pD ")" " ) ", dX ")" " ) "⟩,⟨pD "(" " ( ", dX "(" " ( "⟩,⟨pD "\n" " ", dX "\n" " "⟩],[]⟩
def yI (n:Nat):Ctx3:=GamL CQ ((fnL K CQ).take n)
def qC (n:Nat) (e:Fn3):Ctx3:=GamL CQ ((fnL K CQ).take n++[e])
def wN (l:List Fx3) (T:Addr):CtxX:=⟨l,[⟨"NoText", CQ 0,none⟩],[⟨"TalkError", T,[CQ 0]⟩]⟩
end
theorem fK {a:W} {l:List W}:kK (a::l) 0=some a:=by
 unfold kK;have:nK (a::l).length 0=some 0:=by simp [nK]
 rw [this];rfl
theorem at_1 {a b:W} {l:List W}:kK (a::b::l) 1=some b:=by
 unfold kK;have:nK (a::b::l).length 1=some 1:=by simp [nK];omega
 rw [this];rfl
theorem sz (n:Nat) (h:n<=100000):n<=sizeLine:=by rw [sizeLine_eq];omega
theorem gZ {α:Type} {a:α} {l:List α}:(a::l)[0]?=some a:=rfl
theorem gS {α:Type} {a:α} {l:List α} {i:Nat}:(a::l)[i+1]?=l[i]?:=rfl
theorem tZ {α:Type} {a b:α} {l:List α}:(a::l).set 0 b=b::l:=rfl
theorem tS {α:Type} {a b:α} {l:List α} {i:Nat}:(a::l).set (i+1) b=a::l.set i b:=rfl
theorem yH {Γ:Ctx3} {E:XQ} {s:IS} {ss:ISs} {D:End3} {σ:wI} {G:Hw} (h:zS Γ E s { D with nx:=yX Γ E ss D } σ G):yX Γ E (.cons s ss) D σ G:=h
theorem nV {Γ:Ctx3} {E:XQ} {D:End3} {σ:wI} {G:Hw} (h:D.nx σ G):yX Γ E .nil D σ G:=h
theorem tyL {G:Hw} {o:Addr} {l:List W} (e:G o=some (.lst l)):tyW G (.ref o) "list" := by simp only [tyW,e]
theorem appL {G:Hw} {o:Addr} {l:List W} {y:W} {Q:Q3} (e:G o=some (.lst l)) (hl:l.length<1000) (h:Q .non (put G o (.lst (l++[y])))):appS (.ref o) [y] G Q:=by
 simp only [appS,e];exact ⟨by rw [sizeLine_eq];omega,h⟩
theorem ixL {G:Hw} {t:Addr} {xs:List W} {i:Int} {Q:Q3} (e:yR G t=some xs) (h:match kK xs i with|some w=>Q w G|none=>False):kM (.ref t) (.int i) G Q:=by
 unfold yR at e
 split at e
 .rename_i q;cases e;simp only [kM,q];exact h
 .rename_i q;cases e;simp only [kM,q];exact h
 .cases e
theorem kT {G:Hw} {t:Addr} {xs:List W} (e:G t=some (.lst xs)):yR G t=some xs:=by unfold yR;rw [e]
theorem seqL {G:Hw} {t:Addr} {xs:List W} (e:G t=some (.lst xs)):vI G (.ref t)=some xs:=by simp only [vI,kT e]
theorem rA {S:List Addr} {G G':Hw} {d l:Addr} (k:zJ S G G') (hd:d∉S) (hl:l∉S) (D:jW G d l):jW G' d l:=by
 obtain ⟨x,y,z,D⟩:=D;exact ⟨x,y,z,k _ _ hd D.dic,k _ _ hl D.lst,D.s0,D.s1,D.n0,D.lf,D.len,D.ne⟩
theorem sH {G:Hw} {d l p:Addr} {o:O} (h:G p=none) (D:jW G d l):jW (put G p o) d l:=rA (S:=[]) (zJ.new h) (by simp) (by simp) D
theorem zka {G G':Hw} {d l:Addr} (k:zJ [] G G') (D:jW G d l):jW G' d l:=rA k (by simp) (by simp) D
theorem keep0 {S:List Addr} {G G':Hw} (k:zJ [] G G'):zJ S G G':=fun a u _ e=>k a u (by simp) e
theorem k0 {G G':Hw} (k:zJ [] G G') {p:Addr} {o:O} (h:G p=some o):G' p=some o:=k _ _ (by simp) h
theorem newO {G:Hw} {p r:Addr} {o u:O} (hr:G r=none) (h:G p=some o):put G r u p=some o:=k0 (zJ.new hr) h
theorem uU {G:Hw} {a p:Addr} {o:O} (e:G a=some o) (h:G p=none):a≠p:=fun z=>by rw [z,h] at e;cases e
theorem za9 {G:Hw} {d l p:Addr} (D:jW G d l) (h:G p=none):p∉[d,l]:=by
 obtain ⟨_,_,_,D⟩:=D;simp only [List.mem_cons,List.not_mem_nil,or_false,not_or];exact ⟨fun e=>(by rw [e,D.dic] at h;cases h),fun e=>(by rw [e,D.lst] at h;cases h)⟩
theorem zcY {S:List Addr} {G G':Hw} {p:Addr} {o:O} (k:zJ S G G') (h:G p=none):zJ S G (put G' p o):=fun a u ha e=>by
 rw [xJ (uU e h)];exact k a u ha e
theorem nI {G:Hw} {d l p:Addr} {o:O} (h:p∉[d,l]) (D:jW G d l):jW (put G p o) d l:=by
 simp only [List.mem_cons,List.not_mem_nil,or_false,not_or] at h;exact rA (S:=[p]) (zJ.put (by simp)) (by simpa using Ne.symm h.1) (by simpa using Ne.symm h.2) D
theorem addS {a b:Str} {G:Hw} {Q:Q3} (h:a.length+b.length<=100000) (q:Q (.str (a++b)) G):wW .Add (.str a) (.str b) G Q:=⟨sz _ h,q⟩
theorem at_2 {a b c:W} {l:List W}:kK (a::b::c::l) 2=some c:=by
 unfold kK;have:nK (a::b::c::l).length 2=some 2:=by simp [nK];omega
 rw [this];rfl
theorem zfW {l:List W} {i:Int} (h0:0<=i) (h1:i<l.length):∃ w,w∈l/\kK l i=some w:=by
 have hi:i.toNat<l.length:=by omega
 refine ⟨l[i.toNat],List.getElem_mem hi,?_⟩;unfold kK nK;rw [if_pos h0,if_pos h1];exact List.getElem?_eq_getElem hi
def pT:ISs->ISs
 | .cons _ ss=>ss
 | .nil=>.nil
theorem jQ {G:Hw} {a b:Str}:eqG G (.str a) (.str b)=some (a==b):=by simp [eqG,pur,dep,wU]
theorem addL {G:Hw} {p q:Addr} {xs ys:List W} {Q:Q3} (hp:G p=some (.lst xs)) (hq:G q=some (.lst ys)) (hl:xs.length+ys.length<=100000) (h:∀ r,G r=none->Q (.ref r) (put G r (.lst (xs++ys)))):wW .Add (.ref p) (.ref q) G Q:=by
 simp only [wW,hp,hq];exact ⟨sz _ hl,h⟩
section
variable {K : yS} {CQ : Nat → Addr}
theorem fnAt {n:Nat} (i:Nat) (hi:i<n) {e:Fn3} (h:(fnL K CQ)[i]?=some e):(yI K CQ n).fn[i]?=some e:=by
 show ((fnL K CQ).take n)[i]?=_;rw [List.getElem?_take_of_lt hi];exact h
theorem sB {n m:Nat} (i:Nat) (hn:m<=n) {e:Fn3} (h:(fnL K CQ)[i]?=some e) (hi:i<m:=by decide):(yI K CQ n).fn[i]?=some e:=fnAt i (Nat.lt_of_lt_of_le hi hn) h
end
abbrev abc:Str := "abcdefghijklmnopqrstuvwxyz"
theorem zaW:abc.cps.toList.length=26:=by decide +kernel
theorem zkj:∀ c∈abc.cps.toList,ltB c=true:=by decide +kernel
theorem vR {a b:Str}:xO (a++b)=(xO a&&xO b):=by
 unfold xO;rw [Str.cps_append,Array.toList_append,List.all_append]
theorem zjI {i:Int} {G:Hw} {Q:Q3} (h0:0<=i) (h1:i<26) (h:∀ x:Str,x.length=1->xO x=true->Q (.str x) G):kM (.str abc) (.int i) G Q:=by
 have hi:i.toNat<abc.cps.toList.length:=by rw [zaW];omega
 have e:kK abc.cps.toList i=some abc.cps.toList[i.toNat]:=by
  unfold kK nK;rw [if_pos h0,zaW,if_pos (show i<((26:Nat):Int) from h1)];exact List.getElem?_eq_getElem hi
 simp only [kM,e];refine ⟨?_,h _ rfl ?_⟩
 .have:abc.length=26:=by rw [← zaW];rfl
  rw [this];exact sz _ (by decide)
 .show [abc.cps.toList[i.toNat]].all ltB=true;rw [List.all_cons,zkj _ (List.getElem_mem hi)];rfl
theorem zb5 {x:Str} {j:Int} (h0:0<=j) (h1:j<=x.length):(Txt.slice x none (some j)).cps.toList=x.cps.toList.take j.toNat:=by
 have e:Txt.slice x none (some j)=StrLaws.sliceText x none (some j):=rfl;rw [e,StrLaws.sliceText_to ⟨h0,by rw [Array.length_toList];exact h1⟩];simp
theorem bX {x:Str} {j:Int} (h0:0<=j) (h1:j<=x.length):(Txt.slice x (some j) none).cps.toList=x.cps.toList.drop j.toNat:=by
 have e:Txt.slice x (some j) none=StrLaws.sliceText x (some j) none:=rfl;rw [e,StrLaws.sliceText_from ⟨h0,by rw [Array.length_toList];exact h1⟩];have h2:j<=(x.cps.toList.length:Int):=by rw [Array.length_toList];exact h1
 show (((x.cps.toList.drop j.toNat).take _).toArray).toList=_;rw [List.toList_toArray];exact List.take_of_length_le (by rw [List.length_drop];omega)
theorem vW (x:Str):x.cps.toList.length=x.length:=by rw [Array.length_toList];rfl
theorem zhA {x:Str} {j:Int} {G:Hw} {Q:Q3} (h0:0<=j) (h1:j<=x.length) (hx:x.length<=1000) (a:xO x=true) (q:∀ y:Str,y.length<=j.toNat->xO y=true->Q (.str y) G):slR (.str x) none (some j) G Q:=by
 refine ⟨sz _ (by omega),q _ ?_ ?_⟩
 .rw [← vW,zb5 h0 h1,List.length_take];omega
 .unfold xO;rw [zb5 h0 h1,List.all_eq_true];exact fun c hc=>List.all_eq_true.mp a c (List.mem_of_mem_take hc)
theorem ze2 {x:Str} {j:Int} {G:Hw} {Q:Q3} (h0:0<=j) (h1:j<=x.length) (hx:x.length<=1000) (a:xO x=true) (q:∀ y:Str,y.length<=x.length-j.toNat->xO y=true->Q (.str y) G):slR (.str x) (some j) none G Q:=by
 refine ⟨sz _ (by omega),q _ ?_ ?_⟩
 .rw [← vW,bX h0 h1,List.length_drop,vW];omega
 .unfold xO;rw [bX h0 h1,List.all_eq_true];exact fun c hc=>List.all_eq_true.mp a c (List.mem_of_mem_drop hc)
theorem zjm:xO "" = true:=by decide +kernel
theorem zcZ:∀ {ts:List Str},(∀ x∈ts,xO x=true)->xO (Str.join "" ts)=true
 | [],_=>by decide +kernel
 | [x],h=>h x zzT
 |x::y::r,h=>by
  show xO (x ++ "" ++ Str.join "" (y::r))=true;rw [vR,vR,h x zzT,zjm,zcZ fun z hz=>h z (List.mem_cons_of_mem _ hz)];rfl
theorem zeH {ts:List Str} (h:∀ x∈ts,x.length<=1) (g:∀ x∈ts,xO x=true) (hn:ts.length<=4):JoinOk "" ts=true/\(Txt.join "" ts).length<=4/\xO (Txt.join "" ts)=true:=by
 have e:("" : Str).length=0:=by decide +kernel
 refine ⟨?_,?_,?_⟩
 .unfold JoinOk;rw [StrLaws.joinFits h (by rw [e];omega)];rfl
 .have h1:=StrLaws.join_length_le "" ts;have h2:=StrLaws.sumLen_le ts h;rw [e] at h1;rw [show Txt.join "" ts=Str.join "" ts from StrLaws.glued_eq_join "" ts];refine Nat.le_trans h1 ?_;omega
 .rw [show Txt.join "" ts=Str.join "" ts from StrLaws.glued_eq_join "" ts];exact zcZ g
theorem zgM {x:Str} (h1:1<=x.length) (h6:x.length<=6) (a:xO x=true) (n:x∉uK):uD x=true:=by
 unfold uD;rw [decide_eq_true h1,decide_eq_true h6,a,show uK.contains x=false by simpa using n];rfl
theorem no_q {x:Str} (h:x∈uK):x ++ "q" ∉ uK:=by
 revert h;have:∀ y∈uK,y ++ "q" ∉ uK:=by decide +kernel
 exact this x
theorem zja {x:Str} (h:x∈uK):x.length<=4:=by
 have:∀ y∈uK,y.length<=4:=by decide +kernel
 exact this x h
theorem no_z {x:Str}:x ++ "z" ∉ uK:=fun h=>by
 have l:∀ y∈uK,y.cps.toList.getLast?≠some 122:=by decide +kernel
 refine l _ h ?_;rw [Str.cps_append,Array.toList_append,show ("z" : Str).cps.toList=[122] by decide +kernel];simp
theorem zfX {x:Str}:((uK.map W.str).any fun w=>wU w (.str x))=uK.contains x:=by
 rw [List.any_map,List.contains_eq_any_beq];congr 1
 funext y
 simp only [Function.comp,wU];exact Bool.beq_comm
section
variable {K : yS} {CQ : Nat → Addr}
theorem zcF {n:Nat} (hn:8<=n) {ws:List W} {G:Hw} {Q:Q3} (h:nU ws G Q XN):yX (yI K CQ n) XN wO { nx:=fun _ G'=>Q .non G',rt:=Q } (yO vC ws) G:=by
 obtain ⟨d,l,m,rfl,D,m1,m4,h⟩:=h;have e1:(yI K CQ n).fn[1]?=some eLen:=sB 1 hn rfl;have e6:(yI K CQ n).fn[7]?=some zdk:=sB 7 hn rfl;have t1:(yI K CQ n).mt[1]?=some zdj:=rfl;have t2:(yI K CQ n).mt[2]?=some eApp:=rfl;have i0:(yI K CQ n).it[0]?=some eRng:=rfl;have z0:=sz 0 (by decide);have z4:=sz 4 (by decide);have q1:("q" : Str).length=1:=by decide +kernel
 have q2:xO "q" = true:=by decide +kernel
 have w1:("z" : Str).length=1:=by decide +kernel
 have w2:xO "z" = true:=by decide +kernel
 show yX (yI K CQ n) XN wO { nx:=fun _ G'=>Q .non G',rt:=Q } [some (.ref d),some (.int m),none,none,none,none,none,none,none] G
 have go:∀ (G1:Hw) (p:Addr) (core:Str),core.length<=4->xO core=true->G p=none->p∉[d,l]->zJ [d,l] G G1->jW G1 d l->G1 p=some (.lst []) ->
   yX (yI K CQ n) XN (pT (pT (pT wO))) { nx:=fun _ G'=>Q .non G',rt:=Q } [some (.ref d),some (.int m),some (.str abc),some (.ref p),some (.str core),none,none,none,none] G1:=by
  intro G1 p core hc hg hpn hp k1 D1 gp;simp only [wO,pT];refine yH ?_
  ((try dsimp only [zS,zT,zP,zH,zE,zB,yZ,zQ,zW,zO,zV,zY,zU,zR,zL,zN,zD,zM,gZ,gS,tZ,tS]);try simp only [e1,e6,sQ,sR,sz _ (show core.length<=100000 by omega),if_true,wW])
  refine ⟨d,l,core.length+1,rfl,D1,⟨by omega,by omega⟩,fun at' G2 a0 a1 k2 D2=>?_⟩;have gp2:=k2 _ _ hp gp;refine yH ?_
  ((try dsimp only [zS,zT,zP,zH,zE,zB,yZ,zQ,zW,zO,zV,zY,zU,zR,zL,zN,zD,zM,gZ,gS,tZ,tS]);try simp only [e6])
  refine ⟨d,l,26,rfl,D2,by decide,fun tn G3 tn0 tn1 k3 D3=>?_⟩;have gp3:=k3 _ _ hp gp2;have kG:=(k1.trans k2).trans k3;refine yH ?_
  ((try dsimp only [zS,zT,zP,zH,zE,zB,yZ,zQ,zW,zO,zV,zY,zU,zR,zL,zN,zD,zM,gZ,gS,tZ,tS]);try simp only [zU,i0])
  refine ⟨⟨by omega,by omega⟩,?_⟩;have len:((List.range m.toNat).map fun i:Nat=>W.int (i:Int)).length=m.toNat:=by simp
  refine ⟨fun i σ G'=>∃ (xs:List Str) (v7 v8:Option W),σ=[some (.ref d),some (.int m),some (.str abc),some (.ref p),some (.str core),some (.int at'),some (.int tn),v7,v8]/\G' p=some (.lst (xs.map .str))/\xs.length=i/\(∀ x∈xs,uD x=true/\x.length<=5/\xO x=true)/\zJ [d,l] G G'/\jW G' d l,
   ⟨[],none,none,rfl,gp3,rfl,by simp,kG,D3⟩,fun _ _ _ _ _=>trivial,?_,?_⟩
  .rintro i w σ G' hw ⟨xs,v7,v8,rfl,gx,hl,hs,kp,D'⟩;rw [List.getElem?_map] at hw;obtain ⟨i',hi',rfl⟩:=Option.map_eq_some_iff.mp hw;have him:i<m.toNat:=by have:=(List.getElem?_eq_some_iff.mp hi').1;simpa using this
   have hii:i'=i:=by
    have:=(List.getElem?_eq_some_iff.mp hi').2;rw [List.getElem_range] at this;exact this.symm
   subst hii;have him:i' < 4:=by omega
   refine yH ?_
   (try dsimp only [zS,zT,zP,zH,zE,zB,yZ,zQ,zW,zO,zV,zY,zU,zR,zL,zN,zD,zM,gZ,gS,tZ,tS])
   refine zhA a0 (by omega) (by omega) hg fun y1 h1 s1=>?_;refine ⟨.inl ⟨by omega,by omega⟩,by decide,?_⟩;refine zjI (Int.emod_nonneg _ (by decide)) (Int.emod_lt_of_pos _ (by decide)) fun y2 h2 s2=>?_;refine addS (by omega) (ze2 a0 (by omega) (by omega) hg fun y3 h3 s3=>addS (by rw [Str.length_append];omega) ?_);have hlen:((y1++y2)++y3).length<=5:=by rw [Str.length_append,Str.length_append];omega
   have hlen1:1<=((y1++y2)++y3).length:=by rw [Str.length_append,Str.length_append];omega
   have hsg:xO ((y1++y2)++y3)=true:=by rw [vR,vR,s1,s2,s3];rfl
   generalize (y1++y2)++y3=nm at hlen hlen1 hsg ⊢;refine yH ?_
   ((try dsimp only [zS,zT,zP,zH,zE,zB,yZ,zQ,zW,zO,zV,zY,zU,zR,zL,zN,zD,zM,gZ,gS,tZ,tS]);try simp only [yG,kY,L3.inR,zzB,if_false,zzC,zzL,zzA,Nat.reduceAdd,z4,true_and])
   refine ⟨⟨by simp [pur],by simp [wM,pur],by simp [qO,dep]⟩,?_⟩
   have app:∀ x:Str,uD x=true->x.length<=5->xO x=true->tyW G' (.ref p) "list" /\ appS (.ref p) [.str x] G' (fun _ G1=>∃ (xs':List Str) (v7 v8:Option W),[some (W.ref d),some (.int m),some (.str abc),some (.ref p),some (.str core),some (.int at'),some (.int tn),some (.int i'),some (.str x)]=[some (.ref d),some (.int m),some (.str abc),some (.ref p),some (.str core),some (.int at'),some (.int tn),v7,v8]/\G1 p=some (.lst (xs'.map .str))/\xs'.length=i'+1/\(∀ x∈xs',uD x=true/\x.length<=5/\xO x=true)/\zJ [d,l] G G1/\jW G1 d l):=by
    intro x hx hx5 hxs;refine ⟨tyL gx,appL gx (by rw [zzM];omega) ⟨xs++[x],_,_,rfl,by rw [zK];simp,by simp [hl],fun y hy=>?_,zcY kp hpn,nI hp D'⟩⟩;rcases List.mem_append.mp hy with hy|hy
    .exact hs y hy
    .rw [zzO hy];exact ⟨hx,hx5,hxs⟩
   have en:([W.str "and", .str "or", .str "not", .str "then"].any fun w=>wU w (.str nm))=uK.contains nm:=zfX;rw [en]
   by_cases hno:nm∈uK
   .rw [if_pos (by simpa using hno)];refine yH ?_
    (try dsimp only [zS,zT,zP,zH,zE,zB,yZ,zQ,zW,zO,zV,zY,zU,zR,zL,zN,zD,zM,gZ,gS,tZ,tS])
    refine addS (by omega) ?_;refine nV ?_;refine yH ?_
    ((try dsimp only [zS,zT,zP,zH,zE,zB,yZ,zQ,zW,zO,zV,zY,zU,zR,zL,zN,zD,zM,gZ,gS,tZ,tS]);try simp only [t2])
    have:=zja hno;exact app _ (zgM (by rw [Str.length_append];omega) (by rw [Str.length_append];omega) (by rw [vR,hsg,q2];rfl) (no_q hno)) (by rw [Str.length_append];omega) (by rw [vR,hsg,q2];rfl)
   .rw [if_neg (by simpa using hno)];refine nV ?_;refine yH ?_
    ((try dsimp only [zS,zT,zP,zH,zE,zB,yZ,zQ,zW,zO,zV,zY,zU,zR,zL,zN,zD,zM,gZ,gS,tZ,tS]);try simp only [t2])
    exact app _ (zgM hlen1 (by omega) hsg hno) hlen hsg
  .rintro σ G' ⟨xs,v7,v8,rfl,gx,hl,hs,kp,D'⟩;rw [len] at hl
   obtain ⟨x,r,rfl⟩:∃ x r,xs=x::r:=by
    cases xs with
    |nil=>simp at hl;omega
    |cons x r=>exact ⟨x,r,rfl⟩
   have hlr:r.length+1=m.toNat:=by simpa using hl
   have fin:∀ (ys:List Str) (G2:Hw),ys.length=m.toNat->(∀ y∈ys,uD y=true)->zJ [d,l] G G2->jW G2 d l->G2 p=some (.lst (ys.map .str))->∀ v7 v8:Option W,yX (yI K CQ n) XN (.cons (.ret (.var 3)) .nil) { nx:=fun _ G'=>Q .non G',rt:=Q } [some (.ref d),some (.int m),some (.str abc),some (.ref p),some (.str core),some (.int at'),some (.int tn),v7,v8] G2:=by
    intro ys G2 hy hs2 k4 D4 g4 v7 v8;refine yH ?_
    (try dsimp only [zS,zT,zP,zH,zE,zB,yZ,zQ,zW,zO,zV,zY,zU,zR,zL,zN,zD,zM,gZ,gS,tZ,tS])
    refine h p ys G2 ?_ (by omega) hs2 hp g4 k4 D4;rintro rfl;simp at hy;omega
   refine yH ?_
   ((try dsimp only [zS,zT,zP,zH,zE,zB,yZ,zQ,zW,zO,zV,zY,zU,zR,zL,zN,zD,zM,gZ,gS,tZ,tS]);try simp only [yG,rP])
   by_cases hm:1<m
   .rw [if_pos (by simpa using hm)]
    ((try dsimp only [zS,zT,zP,zH,zE,zB,yZ,zQ,zW,zO,zV,zY,zU,zR,zL,zN,zD,zM,gZ,gS,tZ,tS]);try simp only [e6])
    refine ⟨d,l,2,rfl,D',by decide,fun b G4 b0 b1 k4 D4=>?_⟩;have gx4:=k4 _ _ hp gx;simp only [qZ]
    by_cases hb:b=1
    .rw [decide_eq_true hb,if_pos rfl];refine yH ?_
     (try dsimp only [zS,zT,zP,zH,zE,zB,yZ,zQ,zW,zO,zV,zY,zU,zR,zL,zN,zD,zM,gZ,gS,tZ,tS])
     refine ixL (xG gx4) ?_;rw [zzU,fK];have hx:=hs x (by simp);refine addS (by omega) ?_;rw [zzU] at gx4;simp only [setR,gx4];have e0:nK (W.str x::r.map W.str).length 0=some 0:=by simp [nK]
     rw [e0];refine nV ?_;refine fin ((x ++ "z")::r) _ (by simpa using hlr) (fun y hy=>?_) (zcY (kp.trans k4) hpn) (nI hp D4) (by rw [zK];rfl) v7 v8;rcases List.mem_cons.mp hy with rfl|hy
     .exact zgM (by rw [Str.length_append];omega) (by rw [Str.length_append];omega) (by rw [vR,hx.2.2,w2];rfl) no_z
     .exact (hs y (List.mem_cons_of_mem _ hy)).1
    .rw [decide_eq_false hb,if_neg zzN];refine nV ?_;exact fin (x::r) _ hl (fun y hy=>(hs y hy).1) (kp.trans k4) D4 gx4 v7 v8
   .rw [if_neg (by simpa using hm),if_neg zzN];refine nV ?_;exact fin (x::r) _ hl (fun y hy=>(hs y hy).1) kp D' gx v7 v8
 simp only [wO,pT] at go;simp only [wO];refine yH ?_
 (try dsimp only [zS,zT,zP,zH,zE,zB,yZ,zQ,zW,zO,zV,zY,zU,zR,zL,zN,zD,zM,gZ,gS,tZ,tS])
 refine yH ?_
 ((try dsimp only [zS,zT,zP,zH,zE,zB,yZ,zQ,zW,zO,zV,zY,zU,zR,zL,zN,zD,zM,gZ,gS,tZ,tS]);try simp only [List.length_nil,z0,true_and])
 intro p hp;have hpd:=za9 D hp;have D1:=sH (o:=.lst []) hp D;have k1:zJ [d,l] G (put G p (.lst [])):=zJ.new hp;have gp:(put G p (.lst [])) p=some (.lst []):=zK;generalize put G p (.lst [])=G1 at D1 k1 gp ⊢;refine yH ?_
 ((try dsimp only [zS,zT,zP,zH,zE,zB,yZ,zQ,zW,zO,zV,zY,zU,zR,zL,zN,zD,zM,gZ,gS,tZ,tS]);try simp only [t1,e6,zU,zR,i0])
 refine ⟨rfl,d,l,5,rfl,D1,by decide,fun j G2 j0 j5 k2 D2=>?_⟩;have gp2:=k2 _ _ hpd gp;refine ⟨⟨by omega,by omega⟩,?_⟩;have len:((List.range j.toNat).map fun i:Nat=>W.int (i:Int)).length=j.toNat:=by simp
 refine ⟨fun i acc G'=>∃ ts:List Str,acc=ts.map .str/\ts.length=i/\(∀ x∈ts,x.length<=1/\xO x=true)/\zJ [d,l] G2 G'/\jW G' d l,⟨[],rfl,rfl,by simp,zJ.refl,D2⟩,?_,by rw [len];exact sz _ (by omega),?_,?_⟩
 .rintro i acc G' ⟨ts,rfl,rfl,_,_,_⟩ _;exact ⟨trivial,by simp⟩
 .rintro i w acc G' hw ⟨ts,rfl,hl,hs,kp,D'⟩;simp only [pZ,List.length_cons,List.length_nil,List.replicate,zzU,zzV,List.cons_append,List.nil_append,List.append_nil]
  ((try dsimp only [zS,zT,zP,zH,zE,zB,yZ,zQ,zW,zO,zV,zY,zU,zR,zL,zN,zD,zM,gZ,gS,tZ,tS]);try simp only [Option.join_some,if_true,e6])
  refine ⟨d,l,26,rfl,D',by decide,fun r G'' r0 r1 kp' D''=>zjI r0 r1 fun x hx sx=>?_⟩;refine ⟨ts++[x],by simp,by simp [hl],fun y hy=>?_,kp.trans kp',D''⟩;rcases List.mem_append.mp hy with hy|hy
  .exact hs y hy
  .rw [zzO hy,hx];exact ⟨zzR _,sx⟩
 .rintro acc G' ⟨ts,rfl,hl,hs,kp,D'⟩ r hr;have hl4:ts.length<=4:=by rw [hl,len];omega
  obtain ⟨jo,jl,js⟩:=zeH (fun x hx=>(hs x hx).1) (fun x hx=>(hs x hx).2) hl4;refine ⟨ts,xG zK,jo,?_⟩;have k3:zJ [d,l] G' (put G' r (.lst (ts.map .str))):=zJ.new hr;exact go _ p _ jl js hp hpd (((k1.trans k2).trans kp).trans k3) (sH hr D') (k3 _ _ hpd (kp _ _ hpd gp2))
end
theorem zif {xs:List Str} {i:Int} (h0:0<=i) (h1:i<xs.length):∃ x∈xs,kK (xs.map W.str) i=some (.str x):=by
 obtain ⟨w,hw,e⟩:=zfW (l:=xs.map W.str) h0 (by rw [zzM];exact h1);obtain ⟨x,hx,rfl⟩:=zzP hw;exact ⟨x,hx,e⟩
section
variable {K : yS} {CQ : Nat → Addr}
theorem zcS {n:Nat} {ws:List W} {G:Hw} {Q:Q3} (h:wV (n+1) ws G Q XN):yX (qC K CQ 9 ⟨"_law_large", wV n⟩) XN xW { nx:=fun _ G'=>Q .non G',rt:=Q } (yO vB ws) G:=by
 obtain ⟨d,l,r,m,e,xs,rfl,D,hr,gr,hx,hxl,hnm,m1,m40,e0,en,h⟩:=h;have e1:(qC K CQ 9 ⟨"_law_large", wV n⟩).fn[1]?=some eLen:=rfl;have e6:(qC K CQ 9 ⟨"_law_large", wV n⟩).fn[7]?=some zdk:=rfl;have e8:(qC K CQ 9 ⟨"_law_large", wV n⟩).fn[9]?=some ⟨"_law_large", wV n⟩:=rfl;have z2:=sz 2 (by decide);have z3:=sz 3 (by decide);have x0:0<xs.length:=List.length_pos_iff.mpr hx;show yX (qC K CQ 9 ⟨"_law_large", wV n⟩) XN xW { nx:=fun _ G'=>Q .non G',rt:=Q } [some (.ref d),some (.ref r),some (.int m),some (.int e),none,none,none,none] G;simp only [xW];refine yH ?_
 ((try dsimp only [zS,zT,zP,zH,zE,zB,yZ,zQ,zW,zO,zV,zY,zU,zR,zL,zN,zD,zM,gZ,gS,tZ,tS]);try simp only [yG,qZ])
 have say:yX (qC K CQ 9 ⟨"_law_large", wV n⟩) XN (.cons (.ret (.tup (.cons (.con (.str "say")) (.cons (.ix (.var 1) (.call 7 (.cons (.var 0) (.cons (.call 1 (.cons (.var 1) .nil)) .nil)))) .nil)))) .nil) { nx:=fun _ G'=>Q .non G',rt:=Q } [some (.ref d),some (.ref r),some (.int m),some (.int e),none,none,none,none] G:=by
  refine yH ?_
  ((try dsimp only [zS,zT,zP,zH,zE,zB,yZ,zQ,zW,zO,zV,zY,zU,zR,zL,zN,zD,zM,gZ,gS,tZ,tS]);try simp only [e1,e6,sQ,sR,gr,zzM])
  refine ⟨d,l,xs.length,rfl,D,⟨by omega,by omega⟩,fun i G1 i0 i1 kp D1=>?_⟩;obtain ⟨x,hxm,ex⟩:=zif i0 i1;refine ixL (xG (kp _ _ hr gr)) ?_;rw [ex];exact ⟨z2,h (.say x) G1 (hnm x hxm) (by show ((1:Nat):Int)<=m;omega) (by show ((0:Nat):Int)<=e;omega) kp D1⟩
 by_cases hm1:m=1
 .rw [decide_eq_true hm1,if_pos rfl,if_pos trivial];exact say
 rw [decide_eq_false hm1,if_neg zzN]
 by_cases he0:e=0
 .rw [decide_eq_true he0,if_pos rfl];exact say
 rw [decide_eq_false he0,if_neg zzN];refine nV ?_;refine yH ?_
 ((try dsimp only [zS,zT,zP,zH,zE,zB,yZ,zQ,zW,zO,zV,zY,zU,zR,zL,zN,zD,zM,gZ,gS,tZ,tS]);try simp only [e6])
 refine ⟨d,l,5,rfl,D,by decide,fun way G1 w0 w1 kp1 D1=>?_⟩;have gr1:=kp1 _ _ hr gr;refine yH ?_
 ((try dsimp only [zS,zT,zP,zH,zE,zB,yZ,zQ,zW,zO,zV,zY,zU,zR,zL,zN,zD,zM,gZ,gS,tZ,tS]);try simp only [yG,qZ])
 have hnot:yX (qC K CQ 9 ⟨"_law_large", wV n⟩) XN (.cons (.ret (.tup (.cons (.con (.str "not")) (.cons (.call 9 (.cons (.var 0) (.cons (.var 1) (.cons (.bin .Sub (.var 2) (.con (.int 1))) (.cons (.bin .Sub (.var 3) (.con (.int 1))) .nil))))) .nil)))) .nil) { nx:=fun _ G'=>Q .non G',rt:=Q } [some (.ref d),some (.ref r),some (.int m),some (.int e),some (.int way),none,none,none] G1:=by
  refine yH ?_
  ((try dsimp only [zS,zT,zP,zH,zE,zB,yZ,zQ,zW,zO,zV,zY,zU,zR,zL,zN,zD,zM,gZ,gS,tZ,tS]);try simp only [wW,e8])
  refine ⟨d,l,r,m-1,e-1,xs,rfl,D1,hr,gr1,hx,hxl,hnm,by omega,by omega,by omega,by omega,fun t G2 ht hs hd kp2 D2=>⟨z2,h (.neg t) G2 ht ?_ ?_ (kp1.trans kp2) D2⟩⟩
  .show ((t.size+1:Nat):Int)<=m;omega
  .show ((t.deep+1:Nat):Int)<=e;omega
 by_cases hm2:m=2
 .rw [decide_eq_true hm2,if_pos rfl,if_pos trivial];exact hnot
 rw [decide_eq_false hm2,if_neg zzN]
 by_cases hw:way=3
 .rw [decide_eq_true hw,if_pos rfl];exact hnot
 rw [decide_eq_false hw,if_neg zzN];refine nV ?_;refine yH ?_
 ((try dsimp only [zS,zT,zP,zH,zE,zB,yZ,zQ,zW,zO,zV,zY,zU,zR,zL,zN,zD,zM,gZ,gS,tZ,tS]);try simp only [e6,wW])
 refine ⟨d,l,m-2,rfl,D1,⟨by omega,by omega⟩,fun i G2 i0 i1 kp2 D2=>?_⟩;have gr2:=kp2 _ _ hr gr1;refine yH ?_
 ((try dsimp only [zS,zT,zP,zH,zE,zB,yZ,zQ,zW,zO,zV,zY,zU,zR,zL,zN,zD,zM,gZ,gS,tZ,tS]);try simp only [yG,qZ])
 have rest:∀ f:Int,1<=f->f<=m-2->yX (qC K CQ 9 ⟨"_law_large", wV n⟩) XN (pT (pT (pT (pT (pT xW))))) { nx:=fun _ G'=>Q .non G',rt:=Q } [some (.ref d),some (.ref r),some (.int m),some (.int e),some (.int way),some (.int f),none,none] G2:=by
  intro f f1 f2;simp only [xW,pT];refine yH ?_
  ((try dsimp only [zS,zT,zP,zH,zE,zB,yZ,zQ,zW,zO,zV,zY,zU,zR,zL,zN,zD,zM,gZ,gS,tZ,tS]);try simp only [wW,e8])
  refine ⟨d,l,r,f,e-1,xs,rfl,D2,hr,gr2,hx,hxl,hnm,by omega,by omega,by omega,by omega,fun a G3 oa sa da kp3 D3=>?_⟩;have gr3:=kp3 _ _ hr gr2;refine yH ?_
  ((try dsimp only [zS,zT,zP,zH,zE,zB,yZ,zQ,zW,zO,zV,zY,zU,zR,zL,zN,zD,zM,gZ,gS,tZ,tS]);try simp only [e6,zzC,zzL,zzA,Nat.reduceAdd,z3,true_and])
  intro p hp;have D4:=sH (o:=.lst [.str "and", .str "or", .str "if"]) hp D3;have k4:zJ [d,l] G3 (put G3 p (.lst [.str "and", .str "or", .str "if"])):=zJ.new hp;have gp:(put G3 p (.lst [.str "and", .str "or", .str "if"])) p=some (.lst [.str "and", .str "or", .str "if"]):=zK;have gr4:=k4 _ _ hr gr3;have hpd:=za9 D3 hp;generalize put G3 p (.lst [.str "and", .str "or", .str "if"])=G4 at D4 k4 gp gr4 ⊢;refine ⟨d,l,3,rfl,D4,by decide,fun k G5 k0 k3 kp5 D5=>?_⟩;have gr5:=kp5 _ _ hr gr4;have gp5:=kp5 _ _ hpd gp;have kp':=(((kp1.trans kp2).trans kp3).trans k4).trans kp5;refine ixL (xG gp5) ?_
  have fin:∀ j:Nat,yX (qC K CQ 9 ⟨"_law_large", wV n⟩) XN (pT (pT (pT (pT (pT (pT (pT xW))))))) { nx:=fun _ G'=>Q .non G',rt:=Q } [some (.ref d),some (.ref r),some (.int m),some (.int e),some (.int way),some (.int f),some a.w,some (.str (kw j))] G5:=by
   intro j;simp only [xW,pT];refine yH ?_
   ((try dsimp only [zS,zT,zP,zH,zE,zB,yZ,zQ,zW,zO,zV,zY,zU,zR,zL,zN,zD,zM,gZ,gS,tZ,tS]);try simp only [wW,e8])
   refine ⟨d,l,r,m-1-f,e-1,xs,rfl,D5,hr,gr5,hx,hxl,hnm,by omega,by omega,by omega,by omega,fun b G6 ob sb db kp6 D6=>⟨z3,h (.two j a b) G6 ⟨oa,ob⟩ ?_ ?_ (kp'.trans kp6) D6⟩⟩
   .show ((a.size+b.size+1:Nat):Int)<=m;omega
   .show ((max a.deep b.deep+1:Nat):Int)<=e;omega
  simp only [xW,pT] at fin;have hc:k=0\/k=1\/k=2:=by omega
  rcases hc with rfl|rfl|rfl
  .rw [fK];exact fin 0
  .rw [at_1];exact fin 1
  .rw [at_2];exact fin 2
 simp only [xW,pT] at rest
 by_cases h4:way=4
 .rw [decide_eq_true h4,if_pos rfl];refine yH ?_
  ((try dsimp only [zS,zT,zP,zH,zE,zB,yZ,zQ,zW,zO,zV,zY,zU,zR,zL,zN,zD,zM,gZ,gS,tZ,tS]);try simp only [wW])
  refine ⟨⟨by decide,by decide⟩,?_⟩;exact rest _ (by show 1<=(m-1) / 2;omega) (by show (m-1) / 2<=m-2;omega)
 .rw [decide_eq_false h4,if_neg zzN];refine nV ?_;exact rest _ (by omega) (by omega)
end
theorem ix0 {t:Sy} {G:Hw} {Q:Q3} (h:Q (.str (wdOf t)) G):kM t.w (.int 0) G Q:=by
 cases t<;>(simp only [Sy.w,kM,fK];exact h)
def bL:List W:=[.str "if", .str "or", .str "and", .str "not", .str "say"]
theorem zjX (t:Sy):(bL.any fun w=>wU w (.str (wdOf t)))=true/\((bL.findIdx fun w=>wU w (.str (wdOf t)):Nat):Int)=(bd t:Int)-1:=by
 cases t with
 |say x=>exact ⟨by show (bL.any fun w=>wU w (.str "say"))=true;decide +kernel,by show ((bL.findIdx fun w=>wU w (.str "say"):Nat):Int)=4;decide +kernel⟩
 |neg a=>exact ⟨by show (bL.any fun w=>wU w (.str "not"))=true;decide +kernel,by show ((bL.findIdx fun w=>wU w (.str "not"):Nat):Int)=3;decide +kernel⟩
 |two k a b=>match k with
  | 0=>exact ⟨by show (bL.any fun w=>wU w (.str "and"))=true;decide +kernel,by show ((bL.findIdx fun w=>wU w (.str "and"):Nat):Int)=2;decide +kernel⟩
  | 1=>exact ⟨by show (bL.any fun w=>wU w (.str "or"))=true;decide +kernel,by show ((bL.findIdx fun w=>wU w (.str "or"):Nat):Int)=1;decide +kernel⟩
  |k+2=>exact ⟨by show (bL.any fun w=>wU w (.str "if"))=true;decide +kernel,by show ((bL.findIdx fun w=>wU w (.str "if"):Nat):Int)=0;decide +kernel⟩
theorem joinB {sep:Str} {ts:List Str} {n:Nat} (h:∀ y∈ts,y.length<=n) (hz:ts.length * n+ts.length * sep.length<=16777216):JoinOk sep ts=true:=by
 unfold JoinOk;rw [StrLaws.joinFits h hz];rfl
section
variable {K : yS} {CQ : Nat → Addr}
theorem zdA {n:Nat} {ws:List W} {G:Hw} {Q:Q3} (h:tD ws G Q XN):yX (yI K CQ n) XN qJ { nx:=fun _ G'=>Q .non G',rt:=Q } (yO vA ws) G:=by
 obtain ⟨t,rfl,h⟩:=h;have t4:(yI K CQ n).mt[3]?=some eIdx:=rfl;have z5:=sz 5 (by decide);show yX (yI K CQ n) XN qJ { nx:=fun _ G'=>Q .non G',rt:=Q } [some t.w] G;simp only [qJ];refine yH ?_
 ((try dsimp only [zS,zT,zP,zH,zE,zB,yZ,zQ,zW,zO,zV,zY,zU,zR,zL,zN,zD,zM,gZ,gS,tZ,tS]);try simp only [t4,zzC,zzL,zzA,Nat.reduceAdd,z5,true_and])
 intro p hp;refine ⟨tyL zK,ix0 ?_⟩;have i:=zjX t;refine ⟨bL,kT zK,⟨by simp [pur],by simp [bL,wM,pur],Nat.le_trans (Nat.min_le_right _ _) (by simp [dep])⟩,i.1,?_⟩;rw [i.2];exact h _ (zJ.new hp)
theorem zkg {n:Nat} {ws:List W} {G:Hw} {Q:Q3} (h:mH n ws G Q XN):yX (qC K CQ 11 ⟨"_law_text_words", mL n⟩) XN sD { nx:=fun _ G'=>Q .non G',rt:=Q } (yO gP ws) G:=by
 obtain ⟨t,k,rfl,ts,td,h⟩:=h;have e16:(qC K CQ 11 ⟨"_law_text_words", mL n⟩).fn[11]?=some ⟨"_law_text_words", mL n⟩:=rfl;have e15:(qC K CQ 11 ⟨"_law_text_words", mL n⟩).fn[10]?=some ⟨"_law_binds", tD⟩:=rfl;have z1:=sz 1 (by decide);have hl:=tQ t;show yX (qC K CQ 11 ⟨"_law_text_words", mL n⟩) XN sD { nx:=fun _ G'=>Q .non G',rt:=Q } [some t.w,some (.int ((k:Int)-1)),none] G;simp only [sD];refine yH ?_
 ((try dsimp only [zS,zT,zP,zH,zE,zB,yZ,zQ,zW,zO,zV,zY,zU,zR,zL,zN,zD,zM,gZ,gS,tZ,tS]);try simp only [e16])
 refine ⟨t,rfl,ts,td,fun r G1 k1 hr gr=>?_⟩;refine yH ?_
 ((try dsimp only [zS,zT,zP,zH,zE,zB,yZ,zQ,zW,zO,zV,zY,zU,zR,zL,zN,zD,zM,gZ,gS,tZ,tS]);try simp only [e15,yG,rP])
 refine ⟨t,rfl,fun G2 k2=>?_⟩;have gr2:=k0 k2 gr;have c:decide ((bd t:Int)-1<(k:Int)-1)=decide (bd t<k):=decide_eq_decide.mpr (by omega);simp only [c];unfold br at h
 by_cases hb:bd t<k
 .rw [if_pos hb] at h;rw [decide_eq_true hb,if_pos rfl];refine yH ?_
  ((try dsimp only [zS,zT,zP,zH,zE,zB,yZ,zQ,zW,zO,zV,zY,zU,zR,zL,zN,zD,zM,gZ,gS,tZ,tS]);try simp only [zzC,zzL,zzA,Nat.reduceAdd,z1,true_and])
  intro p1 hp1;have gr3:=newO (u:=.lst [.str "("]) hp1 gr2;refine addL zK gr3 (by simp [yE];omega) fun p2 hp2=>?_;intro p3 hp3;refine addL (newO hp3 zK) zK (by simp [yE];omega) fun p4 hp4=>?_;have kk:=((((k1.trans k2).trans (zJ.new hp1)).trans (zJ.new hp2)).trans (zJ.new (o:=.lst [.str ")"]) hp3));refine h p4 _ (kk.trans (zJ.new hp4)) (kk.none (by simp) hp4) ?_;rw [zK];simp [yE,Tk.s]
 .rw [if_neg hb] at h;rw [decide_eq_false hb,if_neg zzN];refine nV (yH ?_)
  (try dsimp only [zS,zT,zP,zH,zE,zB,yZ,zQ,zW,zO,zV,zY,zU,zR,zL,zN,zD,zM,gZ,gS,tZ,tS])
  exact h r G2 (k1.trans k2) hr gr2
theorem kw_if (k:Nat):((kw k:Str) == "if")=decide (2<=k):=by
 match k with
 | 0=>decide +kernel
 | 1=>decide +kernel
 |k+2=>show (("if" : Str) == "if")=_;simp
theorem zh0 {n:Nat} {ws:List W} {G:Hw} {Q:Q3} (h:mL (n+1) ws G Q XN):yX (qC K CQ 11 ⟨"_law_at", mH n⟩) XN wJ { nx:=fun _ G'=>Q .non G',rt:=Q } (yO jK ws) G:=by
 obtain ⟨t,rfl,ts,td,h⟩:=h;have e16:(qC K CQ 11 ⟨"_law_at", mH n⟩).fn[11]?=some ⟨"_law_at", mH n⟩:=rfl;have e15:(qC K CQ 11 ⟨"_law_at", mH n⟩).fn[10]?=some ⟨"_law_binds", tD⟩:=rfl;have z1:=sz 1 (by decide);show yX (qC K CQ 11 ⟨"_law_at", mH n⟩) XN wJ { nx:=fun _ G'=>Q .non G',rt:=Q } [some t.w,none] G;simp only [wJ];refine yH ?_
 have hb:∀ (m:Nat) (a:Sy),(br m a (tw a)).length<=5 * a.size+2:=fun m a=>by
  have:=tQ a;unfold br;split
  .simp;omega
  .omega
 cases t with
 |say x =>
  ((try dsimp only [zS,zT,zP,zH,zE,zB,yZ,zQ,zW,zO,zV,zY,zU,zR,zL,zN,zD,zM,gZ,gS,tZ,tS]);try simp only [Sy.w,kM,fK,yG,jQ,beq_self_eq_true,if_true])
  refine yH ?_
  ((try dsimp only [zS,zT,zP,zH,zE,zB,yZ,zQ,zW,zO,zV,zY,zU,zR,zL,zN,zD,zM,gZ,gS,tZ,tS]);try simp only [Sy.w,kM,at_1,zzC,zzL,zzA,Nat.reduceAdd,z1,true_and])
  intro p hp;exact h p _ (zJ.new hp) hp zK
 |neg a =>
  have e:(("not" : Str) == "say")=false:=by decide +kernel
  simp only [Sy.size,Sy.deep] at ts td
  ((try dsimp only [zS,zT,zP,zH,zE,zB,yZ,zQ,zW,zO,zV,zY,zU,zR,zL,zN,zD,zM,gZ,gS,tZ,tS]);try simp only [Sy.w,kM,fK,yG,jQ,e,zzB,if_false])
  refine nV (yH ?_)
  ((try dsimp only [zS,zT,zP,zH,zE,zB,yZ,zQ,zW,zO,zV,zY,zU,zR,zL,zN,zD,zM,gZ,gS,tZ,tS]);try simp only [e15])
  refine ⟨.neg a,rfl,fun G1 k1=>?_⟩;refine yH ?_
  ((try dsimp only [zS,zT,zP,zH,zE,zB,yZ,zQ,zW,zO,zV,zY,zU,zR,zL,zN,zD,zM,gZ,gS,tZ,tS]);try simp only [kM,fK,yG,jQ,beq_self_eq_true,if_true])
  refine yH ?_
  ((try dsimp only [zS,zT,zP,zH,zE,zB,yZ,zQ,zW,zO,zV,zY,zU,zR,zL,zN,zD,zM,gZ,gS,tZ,tS]);try simp only [e16,kM,at_1,zzC,zzL,zzA,Nat.reduceAdd,z1,true_and])
  intro p hp;refine ⟨a,4,rfl,by omega,by omega,fun r G2 k2 hr gr=>?_⟩;have:=hb 4 a;refine addL (k0 k2 zK) gr (by simp [yE];omega) fun q hq=>?_;have kk:=((k1.trans (zJ.new hp)).trans k2);refine h q _ (kk.trans (zJ.new hq)) (kk.none (by simp) hq) ?_;rw [zK];rfl
 |two k a b =>
  simp only [Sy.size,Sy.deep] at ts td;have l1:=hb (lA k) a;have l2:=hb (lB k) b
  ((try dsimp only [zS,zT,zP,zH,zE,zB,yZ,zQ,zW,zO,zV,zY,zU,zR,zL,zN,zD,zM,gZ,gS,tZ,tS]);try simp only [Sy.w,kM,fK,yG,jQ,(zfD k).1,zzB,if_false])
  refine nV (yH ?_)
  ((try dsimp only [zS,zT,zP,zH,zE,zB,yZ,zQ,zW,zO,zV,zY,zU,zR,zL,zN,zD,zM,gZ,gS,tZ,tS]);try simp only [e15])
  refine ⟨.two k a b,rfl,fun G1 k1=>?_⟩;refine yH ?_
  ((try dsimp only [zS,zT,zP,zH,zE,zB,yZ,zQ,zW,zO,zV,zY,zU,zR,zL,zN,zD,zM,gZ,gS,tZ,tS]);try simp only [kM,fK,yG,jQ,(zfD k).2.2.1,zzB,if_false])
  refine nV (yH ?_)
  ((try dsimp only [zS,zT,zP,zH,zE,zB,yZ,zQ,zW,zO,zV,zY,zU,zR,zL,zN,zD,zM,gZ,gS,tZ,tS]);try simp only [kM,fK,yG,jQ,kw_if])
  have fin:∀ (G2 G4:Hw) (r p:Addr) (x:Str),x=jw k->zJ [] G G2->G r=none->G2 r=some (.lst (yE (br (lA k) a (tw a))))->G2 p=none->∀ Q':Q3,(∀ w G',Q w G'->Q' w G') ->
    wW .Add (.ref r) (.ref p) (put G2 p (.lst [.str x])) fun w G'=>mH n [b.w,.int ((lB k:Int)-1)] G' (fun w' G''=>wW .Add w w' G'' Q') XN:=by
   rintro G2 G4 r p x rfl k2 hr gr hp Q' hQ;refine addL (newO hp gr) zK (by simp [yE];omega) fun q hq=>?_;refine ⟨b,lB k,rfl,by omega,by omega,fun r2 G5 k5 hr2 gr2=>?_⟩;refine addL (k0 k5 zK) gr2 (by simp [yE];omega) fun q2 hq2=>hQ _ _ ?_;have kk:=((k2.trans (zJ.new hp)).trans (zJ.new hq)).trans k5;refine h q2 _ (kk.trans (zJ.new hq2)) (kk.none (by simp) hq2) ?_;rw [zK];simp [yE,tw,Tk.s]
  by_cases hk:2<=k
  .rw [decide_eq_true hk,if_pos rfl];obtain ⟨j,rfl⟩:∃ j,k=j+2:=⟨k-2,by omega⟩;refine yH ?_
   ((try dsimp only [zS,zT,zP,zH,zE,zB,yZ,zQ,zW,zO,zV,zY,zU,zR,zL,zN,zD,zM,gZ,gS,tZ,tS]);try simp only [e16,kM,at_1,at_2,zzC,zzL,zzA,Nat.reduceAdd,z1,true_and])
   refine ⟨a,2,rfl,by omega,by omega,fun r G2 k2 hr gr=>?_⟩;intro p hp;exact fin G2 G2 r p _ rfl (k1.trans k2) (k1.none (by simp) hr) gr hp _ (fun _ _ x=>x)
  .rw [decide_eq_false hk,if_neg zzN];refine nV (yH ?_);have c:(k=0\/k=1):=by omega
   ((try dsimp only [zS,zT,zP,zH,zE,zB,yZ,zQ,zW,zO,zV,zY,zU,zR,zL,zN,zD,zM,gZ,gS,tZ,tS]);try simp only [e16,kM,fK,at_1,at_2,zzC,zzL,zzA,Nat.reduceAdd,z1,true_and,wW])
   rcases c with rfl|rfl
   .refine ⟨a,3,rfl,by omega,by omega,fun r G2 k2 hr gr=>?_⟩;intro p hp;exact fin G2 G2 r p _ rfl (k1.trans k2) (k1.none (by simp) hr) gr hp _ (fun _ _ x=>x)
   .refine ⟨a,2,rfl,by omega,by omega,fun r G2 k2 hr gr=>?_⟩;intro p hp;exact fin G2 G2 r p _ rfl (k1.trans k2) (k1.none (by simp) hr) gr hp _ (fun _ _ x=>x)
end
theorem sS (a:Sy) (D:List Sy):Lw (a::D)=.lst ((D.map Sy.w).reverse++[a.w]):=by simp [Lw]
theorem vX (w:Tk) (V:List Tk):Lk (w::V)=.lst ((V.map fun t=>W.str t.s).reverse++[.str w.s]):=by simp [Lk]
theorem zhH {l:List W} {a:W}:kK (l++[a]) (-1)=some a:=by
 unfold kK;have:nK (l++[a]).length (-1)=some l.length:=by simp [nK];omega
 rw [this];simp
theorem popL {G:Hw} {o:Addr} {l:List W} {y:W} {Q:Q3} (e:G o=some (.lst (l++[y]))) (h:Q y (put G o (.lst l))):popS (.ref o) [] G Q:=by
 have hg:(l++[y])[(l++[y]).length-1]?=some y:=by simp
 simp only [popS,e,hg,List.dropLast_concat];exact h
theorem zfI (k:Nat):((jw k:Str) == "not")=false/\((jw k:Str) == ")")=false:=by
 match k with
 | 0=>exact ⟨by decide +kernel,by decide +kernel⟩
 | 1=>exact ⟨by decide +kernel,by decide +kernel⟩
 |k+2=>exact ⟨by show (("then" : Str) == "not")=false;decide +kernel,by show (("then" : Str) == ")")=false;decide +kernel⟩
theorem zeR (k:Nat):(mK.zip mV).lookup (jw k)=some (.str (kw k)):=by
 match k with
 | 0=>show (mK.zip mV).lookup ("and" : Str)=some (.str "and");rfl
 | 1=>show (mK.zip mV).lookup ("or" : Str)=some (.str "or");rfl
 |k+2=>show (mK.zip mV).lookup ("then" : Str)=some (.str "if");rfl
theorem zfK (k:Nat):(tK.zip tV).lookup (jw k)=some (.int (lA k)):=by
 match k with
 | 0=>show (tK.zip tV).lookup ("and" : Str)=some (.int 3);rfl
 | 1=>show (tK.zip tV).lookup ("or" : Str)=some (.int 2);rfl
 |k+2=>show (tK.zip tV).lookup ("then" : Str)=some (.int 2);rfl
theorem zfL:(tK.zip tV).lookup (Tk.s .rp)=some (.int 1):=by show (tK.zip tV).lookup (")" : Str)=some (.int 1);rfl
theorem zhd {w:Tk} (h:isW w=true):(rK.zip rV).lookup w.s=some (.int (bin w)):=by
 match w,h with
 | .nt,_=>show (rK.zip rV).lookup ("not" : Str)=some (.int 4);rfl
 | .lp,_=>show (rK.zip rV).lookup ("(" : Str)=some (.int 0);rfl
 | .op 0,_=>show (rK.zip rV).lookup ("and" : Str)=some (.int 3);rfl
 | .op 1,_=>show (rK.zip rV).lookup ("or" : Str)=some (.int 2);rfl
 | .op (k+2),_=>show (rK.zip rV).lookup ("then" : Str)=some (.int 1);rfl
theorem pt_wf {w:Tk} {V:List Tk} {D:List Sy} (h:Wf D (w::V) 1) (hb:1<=bin w):Wf (pt w D) V 1/\((w=.nt/\1<=D.length)\/∃ k,w=.op k/\2<=D.length)/\(pt w D).length<=D.length:=by
 have hl:=h.len;have hw:=h.all w zzT;have ha:∀ x∈V,isW x=true:=fun x hx=>h.all x (List.mem_cons_of_mem _ hx)
 match w,hw,hb,hl with
 | .nt,_,_,hl =>
  cases D with
  |nil=>simp [ops] at hl
  |cons a D=>exact ⟨⟨by simpa [ops,pt] using hl,ha⟩,.inl ⟨rfl,by simp⟩,by simp [pt]⟩
 | .op k,_,_,hl =>
  match D,hl with
  | [],hl=>simp [ops] at hl
  | [a],hl=>simp [ops] at hl
  |b::a::D,hl=>exact ⟨⟨by simp only [ops,List.length_cons] at hl;simp only [pt,List.length_cons];omega,ha⟩,.inr ⟨k,rfl,by simp⟩,by simp [pt]⟩
 | .lp,_,hb,_=>exact absurd (show (1:Nat)<=0 from hb) (by decide)
section
variable {K : yS} {CQ : Nat → Addr}
theorem zgp {n:Nat} {ws:List W} {G:Hw} {Q:Q3} (h:zd4 ws G Q XN):yX (yI K CQ n) XN jI { nx:=fun _ G'=>Q .non G',rt:=Q } (yO qG ws) G:=by
 obtain ⟨w,D,p,rfl,gp,ld,hc,h⟩:=h;have t0:(yI K CQ n).mt[0]?=some ePop:=rfl;have t2:(yI K CQ n).mt[2]?=some eApp:=rfl;have g9:(yI K CQ n).gl[5]?=some (("MADE" : Str),W.dcf mK mV):=rfl;have z2:=sz 2 (by decide);have z3:=sz 3 (by decide);show yX (yI K CQ n) XN jI { nx:=fun _ G'=>Q .non G',rt:=Q } [some (.str w.s),some (.ref p),none] G;simp only [jI];rcases hc with ⟨rfl,h1⟩|⟨k,rfl,h1⟩
 .obtain ⟨a,D',rfl⟩:∃ a D',D=a::D':=by
   cases D with
   |nil=>simp at h1
   |cons a D'=>exact ⟨a,D',rfl⟩
  rw [List.length_cons] at ld;rw [sS] at gp;refine yH ?_
  ((try dsimp only [zS,zT,zP,zH,zE,zB,yZ,zQ,zW,zO,zV,zY,zU,zR,zL,zN,zD,zM,gZ,gS,tZ,tS]);try simp only [t0])
  refine ⟨tyL gp,popL gp ?_⟩;refine yH ?_;have e:((Tk.nt).s==("not" : Str))=true:=by show (("not" : Str) == "not")=true;decide +kernel
  ((try dsimp only [zS,zT,zP,zH,zE,zB,yZ,zQ,zW,zO,zV,zY,zU,zR,zL,zN,zD,zM,gZ,gS,tZ,tS]);try simp only [yG,jQ,e,if_true])
  refine yH ?_
  ((try dsimp only [zS,zT,zP,zH,zE,zB,yZ,zQ,zW,zO,zV,zY,zU,zR,zL,zN,zD,zM,gZ,gS,tZ,tS]);try simp only [t2,zzC,zzL,zzA,Nat.reduceAdd,z2,true_and])
  refine ⟨tyL zK,appL zK (by rw [List.length_reverse,zzM];omega) ?_⟩;refine h _ ((zJ.put (by simp)).trans (zJ.put (by simp))) ?_;rw [zK];show _=some (Lw (.neg a::D'));rw [sS];rfl
 .obtain ⟨b,a,D',rfl⟩:∃ b a D',D=b::a::D':=by
   match D,h1 with
   | [],h1=>simp at h1
   | [_],h1=>simp at h1
   |b::a::D',_=>exact ⟨b,a,D',rfl⟩
  rw [List.length_cons,List.length_cons] at ld;rw [sS] at gp;refine yH ?_
  ((try dsimp only [zS,zT,zP,zH,zE,zB,yZ,zQ,zW,zO,zV,zY,zU,zR,zL,zN,zD,zM,gZ,gS,tZ,tS]);try simp only [t0])
  refine ⟨tyL gp,popL gp ?_⟩;refine yH ?_
  ((try dsimp only [zS,zT,zP,zH,zE,zB,yZ,zQ,zW,zO,zV,zY,zU,zR,zL,zN,zD,zM,gZ,gS,tZ,tS]);try simp only [yG,jQ,Tk.s,(zfI k).1,zzB,if_false])
  refine yH ?_;have gp1:(put G p (.lst ((a::D').map Sy.w).reverse)) p=some (.lst ((D'.map Sy.w).reverse++[a.w])):=by rw [zK,zzU,List.reverse_cons]
  ((try dsimp only [zS,zT,zP,zH,zE,zB,yZ,zQ,zW,zO,zV,zY,zU,zR,zL,zN,zD,zM,gZ,gS,tZ,tS]);try simp only [t0,t2,g9,kM,zeR,zzC,zzL,zzA,Nat.reduceAdd,z3,true_and])
  refine ⟨tyL gp1,?_⟩;refine ⟨tyL gp1,popL gp1 ?_⟩;refine appL zK (by rw [List.length_reverse,zzM];omega) ?_;refine h _ (((zJ.put (by simp)).trans (zJ.put (by simp))).trans (zJ.put (by simp))) ?_;rw [zK];show _=some (Lw (.two k a b::D'));rw [sS];rfl
theorem zdW {n:Nat} (hn:14<=n) {ws:List W} {G:Hw} {Q:Q3} (h:mJ ws G Q XN):yX (yI K CQ n) XN vU { nx:=fun _ G'=>Q .non G',rt:=Q } (yO tM ws) G:=by
 obtain ⟨m,D,V,p,r,rfl,hm,pr,gp,gr,wf,ld,lv,h⟩:=h;have e19:(yI K CQ n).fn[13]?=some ⟨"put_together", zd4⟩:=sB 13 hn rfl;have t0:(yI K CQ n).mt[0]?=some ePop:=rfl;have g7:(yI K CQ n).gl[3]?=some (("BINDS" : Str),W.dcf rK rV):=rfl;show yX (yI K CQ n) XN vU { nx:=fun _ G'=>Q .non G',rt:=Q } [some (.int m),some (.ref p),some (.ref r)] G;simp only [vU];refine yH ?_;refine ⟨fun j σ G'=>∃ (D':List Sy) (V':List Tk),σ=[some (.int m),some (.ref p),some (.ref r)]/\G' p=some (Lw D')/\G' r=some (Lk V')/\zJ [p,r] G G'/\tl m D' V'=tl m D V/\Wf D' V' 1/\D'.length<=400/\V'.length=j,⟨_,D,V,rfl,gp,gr,zJ.refl,rfl,wf,ld,rfl⟩,?_⟩;rintro j σ G' ⟨D',V',rfl,gp',gr',kp,et,wf',ld',rfl⟩
 cases V' with
 |nil =>
  have gr':G' r=some (.lst []):=gr'
  ((try dsimp only [zS,zT,zP,zH,zE,zB,yZ,zQ,zW,zO,zV,zY,zU,zR,zL,zN,zD,zM,gZ,gS,tZ,tS]);try simp only [jU,gr',List.isEmpty_nil,Bool.not_true,zzB,if_false])
  refine nV ?_;have e:tl m D' []=(D',[]):=rfl;rw [e] at et;exact h G' kp (by rw [← et];exact gp') (by rw [← et];exact gr')
 |cons w V2 =>
  have hw:=wf'.all w zzT;rw [vX] at gr';have he:((V2.map fun t=>W.str t.s).reverse++[W.str w.s]).isEmpty=false:=by simp
  ((try dsimp only [zS,zT,zP,zH,zE,zB,yZ,zQ,zW,zO,zV,zY,zU,zR,zL,zN,zD,zM,gZ,gS,tZ,tS]);try simp only [jU,gr',he,Bool.not_false,if_true,kM,zhH,g7,zhd hw,yG,rP])
  have c:decide ((bin w:Int)>=(m:Int))=decide (m<=bin w):=decide_eq_decide.mpr (by omega);simp only [c]
  by_cases hb:m<=bin w
  .rw [decide_eq_true hb,if_pos rfl];have pw:=pt_wf wf' (by omega);refine yH ?_
   ((try dsimp only [zS,zT,zP,zH,zE,zB,yZ,zQ,zW,zO,zV,zY,zU,zR,zL,zN,zD,zM,gZ,gS,tZ,tS]);try simp only [e19,t0])
   refine ⟨tyL gr',popL gr' ?_⟩;have gp2:(put G' r (.lst (V2.map fun t=>W.str t.s).reverse)) p=some (Lw D'):=by rw [xJ pr];exact gp'
   have k2:zJ [p,r] G (put G' r (.lst (V2.map fun t=>W.str t.s).reverse)):=kp.trans (zJ.put (by simp));have gr2:(put G' r (.lst (V2.map fun t=>W.str t.s).reverse)) r=some (Lk V2):=zK;generalize put G' r (.lst (V2.map fun t=>W.str t.s).reverse)=G2 at gp2 k2 gr2 ⊢;refine ⟨w,D',p,rfl,gp2,by omega,pw.2.1,fun G3 k3 g3=>?_⟩;refine nV ?_;refine ⟨V2.length,by simp,pt w D',V2,rfl,g3,k3 _ _ (by simpa using Ne.symm pr) gr2,k2.trans (fun a u ha e=>k3 a u (fun hz=>ha (by rw [zzO hz];simp)) e),?_,pw.1,by omega,rfl⟩;rw [← et,show tl m D' (w::V2)=tl m (pt w D') V2 by rw [tl,if_pos hb]]
  .rw [decide_eq_false hb,if_neg zzN];refine nV ?_;have e:tl m D' (w::V2)=(D',w::V2):=by rw [tl,if_neg hb]
   rw [e] at et;exact h G' kp (by rw [← et];exact gp') (by rw [← et];show _=some (Lk (w::V2));rw [vX];exact gr')
theorem stk (K:yS) (sA nA:Addr) (n:Nat) {D:End3} {σ:wI} {G:Hw} (h:D.nx σ G):yX (yI K CQ n) XN .nil D σ G:=h
end
section
variable {Γ : Ctx3} {Δ : CtxX}
theorem qU {E:wI->X3} {s:RT} {ss:RTs} {D:End3} {σ:wI} {G:Hw} (h:yC Γ Δ s E { D with nx:=yJ Γ Δ ss E D } σ G):yJ Γ Δ (.cons s ss) E D σ G:=by rw [yJ];exact h
theorem xtn {E:wI->X3} {D:End3} {σ:wI} {G:Hw} (h:D.nx σ G):yJ Γ Δ .nil E D σ G:=by rw [yJ];exact h
end
section
variable {K : yS} {CQ : Nat → Addr} {T : Addr} {l : List Fx3}
theorem zdB {n:Nat} (hn:5<=n) (cl:Cl K CQ) {ws:List W} {G:Hw} {Q:Q3} {E:X3} (h:yN CQ true ws G Q E):yJ (yI K CQ n) (wN CQ l T) jV (fun _=>E) { nx:=fun _ G'=>Q .non G',rt:=Q } (yO vD ws) G:=by
 obtain ⟨t,D,V,p,r,rfl,pr,gp,gr,ok,wf,ld,lv,h,hE⟩:=h;have e4:(yI K CQ n).fn[4]?=some (eIsx K):=sB 4 hn rfl;have t2:(yI K CQ n).mt[2]?=some eApp:=rfl;have g7:(yI K CQ n).gl[7]?=some (("tuple" : Str),W.ty "tuple"):=rfl;have c0:(wN CQ l T).cl[0]?=some ⟨"NoText", CQ 0,none⟩:=rfl;have z2:=sz 2 (by decide);show yJ (yI K CQ n) (wN CQ l T) jV (fun _=>E) { nx:=fun _ G'=>Q .non G',rt:=Q } [some (tv t),some (.ref p),some (.ref r)] G;simp only [jV]
 have word:∀ (s:Str) (b:Bool),([W.str "not", .str "("].any fun w=>wU w (.str s))=b->(b=true->∀ G',zJ [p,r] G G'->G' p=some (Lw D)->G' r=some (.lst ((V.map fun t=>W.str t.s).reverse++[.str s]))->Q (.bl true) G')->(b=false->E (xT CQ) G) ->
   yJ (yI K CQ n) (wN CQ l T) jV (fun _=>E) { nx:=fun _ G'=>Q .non G',rt:=Q } [some (.str s),some (.ref p),some (.ref r)] G:=by
  intro s b em h1 h2;simp only [jV];refine qU ?_;simp only [yC]
  ((try dsimp only [zS,zT,zP,zH,zE,zB,yZ,zQ,zW,zO,zV,zY,zU,zR,zL,zN,zD,zM,gZ,gS,tZ,tS]);try simp only [e4,g7])
  refine ⟨"str", false,rfl,cl.st,?_⟩
  ((try dsimp only [zS,zT,zP,zH,zE,zB,yZ,zQ,zW,zO,zV,zY,zU,zR,zL,zN,zD,zM,gZ,gS,tZ,tS]);try simp only [jU,zzB,if_false])
  refine nV (qU ?_);simp only [yC]
  ((try dsimp only [zS,zT,zP,zH,zE,zB,yZ,zQ,zW,zO,zV,zY,zU,zR,zL,zN,zD,zM,gZ,gS,tZ,tS]);try simp only [yG,kY,L3.inR,if_true,zzC,zzL,zzA,Nat.reduceAdd,z2,true_and])
  refine ⟨⟨by simp [pur],by simp [wM,pur],by simp [qO,dep]⟩,?_⟩;rw [em]
  cases b with
  |true =>
   simp only [Bool.not_true,zzB,if_false];refine xtn (qU ?_);simp only [yC]
   ((try dsimp only [zS,zT,zP,zH,zE,zB,yZ,zQ,zW,zO,zV,zY,zU,zR,zL,zN,zD,zM,gZ,gS,tZ,tS]);try simp only [t2])
   refine ⟨tyL gr,appL gr (by rw [List.length_reverse,zzM];omega) ?_⟩;refine qU ?_;simp only [yC]
   (try dsimp only [zS,zT,zP,zH,zE,zB,yZ,zQ,zW,zO,zV,zY,zU,zR,zL,zN,zD,zM,gZ,gS,tZ,tS])
   exact h1 rfl _ (zJ.put (by simp)) (by rw [xJ pr];exact gp) zK
  |false =>
   simp only [Bool.not_false,if_true];refine qU ?_;simp only [yC]
   ((try dsimp only [zS,zT,zP,zH,zE,zB,yZ,zQ,zW,zO,zV,zY,zU,zR,zL,zN,zD,zM,gZ,gS,tZ,tS]);try simp only [c0,clR])
   exact ⟨trivial,h2 rfl⟩
 match t,ok,h,hE with
 | .nm x,ok,h,_ =>
  have h:=h ok;refine qU ?_;simp only [yC]
  ((try dsimp only [zS,zT,zP,zH,zE,zB,yZ,zQ,zW,zO,zV,zY,zU,zR,zL,zN,zD,zM,gZ,gS,tZ,tS]);try simp only [e4,g7])
  refine ⟨"tuple", true,rfl,cl.tt,?_⟩
  ((try dsimp only [zS,zT,zP,zH,zE,zB,yZ,zQ,zW,zO,zV,zY,zU,zR,zL,zN,zD,zM,gZ,gS,tZ,tS]);try simp only [jU,if_true])
  refine yH ?_
  ((try dsimp only [zS,zT,zP,zH,zE,zB,yZ,zQ,zW,zO,zV,zY,zU,zR,zL,zN,zD,zM,gZ,gS,tZ,tS]);try simp only [t2])
  refine ⟨tyL gp,appL gp (by rw [List.length_reverse,zzM];omega) ?_⟩;refine yH ?_
  (try dsimp only [zS,zT,zP,zH,zE,zB,yZ,zQ,zW,zO,zV,zY,zU,zR,zL,zN,zD,zM,gZ,gS,tZ,tS])
  refine h _ (zJ.put (by simp)) ?_ (by rw [xJ (Ne.symm pr)];exact gr);rw [zK];show _=some (Lw (.say x::D));rw [sS];rfl
 | .nt,_,h,_=>exact word _ true (by decide +kernel) (fun _ G' k a b=>h trivial G' k a (by rw [b];exact congrArg some (vX .nt V).symm)) (fun z=>nomatch z)
 | .lp,_,h,_=>exact word _ true (by decide +kernel) (fun _ G' k a b=>h trivial G' k a (by rw [b];exact congrArg some (vX .lp V).symm)) (fun z=>nomatch z)
 | .rp,_,_,hE=>exact word _ false (by decide +kernel) (fun z=>nomatch z) fun _=>hE id G zJ.refl
 | .op k,_,_,hE=>exact word (jw k) false (by match k with|0=>decide +kernel|1=>decide +kernel|k+2=>show ([W.str "not", .str "("].any fun w=>wU w (.str "then"))=false;decide +kernel) (fun z=>nomatch z) fun _=>hE id G zJ.refl
theorem zjZ {n:Nat} (hn:15<=n) (cl:Cl K CQ) {ws:List W} {G:Hw} {Q:Q3} {E:X3} (h:yN CQ false ws G Q E):yJ (yI K CQ n) (wN CQ l T) uQ (fun _=>E) { nx:=fun _ G'=>Q .non G',rt:=Q } (yO zcD ws) G:=by
 obtain ⟨t,D,V,p,r,rfl,pr,gp,gr,ok,wf,ld,lv,h,hE⟩:=h;have e4:(yI K CQ n).fn[4]?=some (eIsx K):=sB 4 hn rfl;have e14:(yI K CQ n).fn[14]?=some ⟨"take_left", mJ⟩:=sB 14 hn rfl;have t0:(yI K CQ n).mt[0]?=some ePop:=rfl;have t2:(yI K CQ n).mt[2]?=some eApp:=rfl;have g4:(yI K CQ n).gl[4]?=some (("TAKES" : Str),W.dcf tK tV):=rfl;have g7:(yI K CQ n).gl[7]?=some (("tuple" : Str),W.ty "tuple"):=rfl;have c0:(wN CQ l T).cl[0]?=some ⟨"NoText", CQ 0,none⟩:=rfl;have wf:Wf D V 1:=wf
 have no:∀ s:Str,(tK.zip tV).lookup s=none->E (xT CQ) G->yJ (yI K CQ n) (wN CQ l T) uQ (fun _=>E) { nx:=fun _ G'=>Q .non G',rt:=Q } [some (.str s),some (.ref p),some (.ref r)] G:=by
  intro s es h1;simp only [uQ];refine qU ?_;simp only [yC]
  ((try dsimp only [zS,zT,zP,zH,zE,zB,yZ,zQ,zW,zO,zV,zY,zU,zR,zL,zN,zD,zM,gZ,gS,tZ,tS]);try simp only [e4,g7])
  refine ⟨"str", false,rfl,cl.st,?_⟩
  ((try dsimp only [zS,zT,zP,zH,zE,zB,yZ,zQ,zW,zO,zV,zY,zU,zR,zL,zN,zD,zM,gZ,gS,tZ,tS]);try simp only [jU,zzB,if_false,g4,yG,kY,es,Option.isSome_none,Bool.not_false,if_true])
  refine qU ?_;simp only [yC]
  ((try dsimp only [zS,zT,zP,zH,zE,zB,yZ,zQ,zW,zO,zV,zY,zU,zR,zL,zN,zD,zM,gZ,gS,tZ,tS]);try simp only [c0,clR])
  exact ⟨trivial,h1⟩
 show yJ (yI K CQ n) (wN CQ l T) uQ (fun _=>E) { nx:=fun _ G'=>Q .non G',rt:=Q } [some (tv t),some (.ref p),some (.ref r)] G
 match t,h,hE with
 | .nm x,_,hE =>
  simp only [uQ];refine qU ?_;simp only [yC]
  ((try dsimp only [zS,zT,zP,zH,zE,zB,yZ,zQ,zW,zO,zV,zY,zU,zR,zL,zN,zD,zM,gZ,gS,tZ,tS]);try simp only [e4,g7])
  refine ⟨"tuple", true,rfl,cl.tt,?_⟩
  ((try dsimp only [zS,zT,zP,zH,zE,zB,yZ,zQ,zW,zO,zV,zY,zU,zR,zL,zN,zD,zM,gZ,gS,tZ,tS]);try simp only [jU,if_true])
  refine qU ?_;simp only [yC]
  ((try dsimp only [zS,zT,zP,zH,zE,zB,yZ,zQ,zW,zO,zV,zY,zU,zR,zL,zN,zD,zM,gZ,gS,tZ,tS]);try simp only [c0,clR])
  exact ⟨trivial,hE id G zJ.refl⟩
 | .nt,_,hE=>exact no _ (by decide +kernel) (hE id G zJ.refl)
 | .lp,_,hE=>exact no _ (by decide +kernel) (hE id G zJ.refl)
 | .op k,h,_ =>
  have h:=h trivial;simp only [uQ];show yJ (yI K CQ n) (wN CQ l T) _ (fun _=>E) { nx:=fun _ G'=>Q .non G',rt:=Q } [some (.str (jw k)),some (.ref p),some (.ref r)] G;have tlk:=bF (m:=lA k) V D;refine qU ?_;simp only [yC]
  ((try dsimp only [zS,zT,zP,zH,zE,zB,yZ,zQ,zW,zO,zV,zY,zU,zR,zL,zN,zD,zM,gZ,gS,tZ,tS]);try simp only [e4,g7])
  refine ⟨"str", false,rfl,cl.st,?_⟩
  ((try dsimp only [zS,zT,zP,zH,zE,zB,yZ,zQ,zW,zO,zV,zY,zU,zR,zL,zN,zD,zM,gZ,gS,tZ,tS]);try simp only [jU,zzB,if_false,g4,yG,kY,zfK,Option.isSome_some,Bool.not_true,if_true])
  refine xtn (qU ?_);simp only [yC]
  ((try dsimp only [zS,zT,zP,zH,zE,zB,yZ,zQ,zW,zO,zV,zY,zU,zR,zL,zN,zD,zM,gZ,gS,tZ,tS]);try simp only [e14,g4,kM,zfK])
  refine ⟨lA k,D,V,p,r,rfl,zcT k,pr,gp,gr,wf,by omega,by omega,fun G1 k1 gp1 gr1=>?_⟩;refine qU ?_;simp only [yC]
  ((try dsimp only [zS,zT,zP,zH,zE,zB,yZ,zQ,zW,zO,zV,zY,zU,zR,zL,zN,zD,zM,gZ,gS,tZ,tS]);try simp only [yG,jQ,(zfI k).2,Bool.not_false,if_true])
  refine yH ?_
  ((try dsimp only [zS,zT,zP,zH,zE,zB,yZ,zQ,zW,zO,zV,zY,zU,zR,zL,zN,zD,zM,gZ,gS,tZ,tS]);try simp only [t2])
  refine ⟨tyL gr1,appL gr1 (by rw [List.length_reverse,zzM];omega) ?_⟩;refine yH ?_
  (try dsimp only [zS,zT,zP,zH,zE,zB,yZ,zQ,zW,zO,zV,zY,zU,zR,zL,zN,zD,zM,gZ,gS,tZ,tS])
  refine h _ (k1.trans (zJ.put (by simp))) (by rw [xJ pr];exact gp1) ?_;rw [zK];show _=some (Lk (.op k::(tl (lA k) D V).2));rw [vX];rfl
 | .rp,h,hE =>
  simp only [uQ];show yJ (yI K CQ n) (wN CQ l T) _ (fun _=>E) { nx:=fun _ G'=>Q .non G',rt:=Q } [some (.str (Tk.s .rp)),some (.ref p),some (.ref r)] G;refine qU ?_;simp only [yC]
  ((try dsimp only [zS,zT,zP,zH,zE,zB,yZ,zQ,zW,zO,zV,zY,zU,zR,zL,zN,zD,zM,gZ,gS,tZ,tS]);try simp only [e4,g7])
  refine ⟨"str", false,rfl,cl.st,?_⟩
  ((try dsimp only [zS,zT,zP,zH,zE,zB,yZ,zQ,zW,zO,zV,zY,zU,zR,zL,zN,zD,zM,gZ,gS,tZ,tS]);try simp only [jU,zzB,if_false,g4,yG,kY,zfL,Option.isSome_some,Bool.not_true,if_true])
  refine xtn (qU ?_);simp only [yC]
  ((try dsimp only [zS,zT,zP,zH,zE,zB,yZ,zQ,zW,zO,zV,zY,zU,zR,zL,zN,zD,zM,gZ,gS,tZ,tS]);try simp only [e14,g4,kM,zfL])
  refine ⟨1,D,V,p,r,rfl,zzR _,pr,gp,gr,wf,by omega,by omega,fun G1 k1 gp1 gr1=>?_⟩;have e:((Tk.s .rp)==(")" : Str))=true:=by show ((")" : Str) == ")")=true;decide +kernel
  refine qU ?_;simp only [yC]
  ((try dsimp only [zS,zT,zP,zH,zE,zB,yZ,zQ,zW,zO,zV,zY,zU,zR,zL,zN,zD,zM,gZ,gS,tZ,tS]);try simp only [yG,jQ,e,Bool.not_true,zzB,if_false])
  refine nV (qU ?_);simp only [yC]
  by_cases gd:(tl 1 D V).2=[]
  .rw [gd] at gr1;have gr1:G1 r=some (.lst []):=gr1
   ((try dsimp only [zS,zT,zP,zH,zE,zB,yZ,zQ,zW,zO,zV,zY,zU,zR,zL,zN,zD,zM,gZ,gS,tZ,tS]);try simp only [jU,gr1,List.isEmpty_nil,Bool.not_true,Bool.not_false,if_true])
   refine qU ?_;simp only [yC]
   ((try dsimp only [zS,zT,zP,zH,zE,zB,yZ,zQ,zW,zO,zV,zY,zU,zR,zL,zN,zD,zM,gZ,gS,tZ,tS]);try simp only [c0,clR])
   exact ⟨trivial,hE (fun z=>z gd) _ k1⟩
  .replace h:∀ G',zJ [p,r] G G'->G' p=some (Lw (tl 1 D V).1)->G' r=some (Lk ((tl 1 D V).2.drop 1))->Q (.bl false) G':=h gd;generalize tl 1 D V=u at gd gp1 gr1 h;obtain ⟨D',V'⟩:=u
   cases V' with
   |nil=>exact absurd rfl gd
   |cons w V' =>
    have gr1:G1 r=some (Lk (w::V')):=gr1;rw [vX] at gr1;have he:((V'.map fun t=>W.str t.s).reverse++[W.str w.s]).isEmpty=false:=by simp
    ((try dsimp only [zS,zT,zP,zH,zE,zB,yZ,zQ,zW,zO,zV,zY,zU,zR,zL,zN,zD,zM,gZ,gS,tZ,tS]);try simp only [jU,gr1,he,Bool.not_false,Bool.not_true,zzB,if_false])
    refine xtn (qU ?_);simp only [yC]
    ((try dsimp only [zS,zT,zP,zH,zE,zB,yZ,zQ,zW,zO,zV,zY,zU,zR,zL,zN,zD,zM,gZ,gS,tZ,tS]);try simp only [t0])
    refine ⟨tyL gr1,popL gr1 ?_⟩;refine qU ?_;simp only [yC]
    (try dsimp only [zS,zT,zP,zH,zE,zB,yZ,zQ,zW,zO,zV,zY,zU,zR,zL,zN,zD,zM,gZ,gS,tZ,tS])
    exact h _ (k1.trans (zJ.put (by simp))) (by rw [xJ pr];exact gp1) zK
end
theorem zjt {items:List W} {stab:Hw->Prop} {G:Hw} {turn:W->Hw->(Option W->Hw->Prop)->Prop} {Q:Q3} (g:Nat->Option W) (hl:items.length<=100000) (st:∀ G',zJ [] G G'->stab G')
  (step:∀ i w G' (k:Option W->Hw->Prop),items[i]?=some w->zJ [] G G'->(∀ G'',zJ [] G G''->k (g i) G'')->turn w G' k)
  (fin:∀ G' r,zJ [] G G'->G' r=none->Q (.ref r) (put G' r (.lst ((List.range items.length).filterMap g)))):lcR items stab G turn Q:=by
 refine ⟨fun i acc G'=>zJ [] G G'/\acc=(List.range i).filterMap g,⟨zJ.refl,rfl⟩,?_,sz _ hl,?_,?_⟩
 .rintro i acc G' ⟨k,rfl⟩ _;exact ⟨st G' k,Nat.le_trans (List.length_filterMap_le _ _) (Nat.le_of_eq List.length_range)⟩
 .rintro i w acc G' hw ⟨k,rfl⟩;refine step i w G' _ hw k fun G'' k'=>?_
  have e:(List.range (i+1)).filterMap g=(List.range i).filterMap g++(g i).toList:=by
   rw [List.range_succ,List.filterMap_append];cases h:g i<;>simp [h]
  cases hg:g i with
  |some x=>exact ⟨k',by rw [e,hg];rfl⟩
  |none=>exact ⟨k',by rw [e,hg];simp⟩
 .rintro acc G' ⟨k,rfl⟩ r hr;exact fin G' r k hr
theorem zaI {α:Type} (c:α->W) (f:α->Bool):∀ l:List α,l.filterMap (fun x=>if f x=true then some (c x) else none)=(l.filter f).map c
 | []=>rfl
 |x::l=>by
  have ih:=zaI c f l;rw [List.filterMap_cons,List.filter_cons]
  by_cases h:f x=true
  .rw [if_pos h,if_pos h,zzU,← ih]
  .rw [if_neg h,if_neg h,← ih]
theorem zju {α:Type} {items:List W} {stab:Hw->Prop} {G:Hw} {turn:W->Hw->(Option W->Hw->Prop)->Prop} {Q:Q3} (l:List α) (c:α->W) (f:α->Bool) (hi:items=l.map c) (hl:l.length<=100000) (st:∀ G',zJ [] G G'->stab G')
  (step:∀ x∈l,∀ G' (k:Option W->Hw->Prop),zJ [] G G'->(∀ G'',zJ [] G G''->k (if f x=true then some (c x) else none) G'')->turn (c x) G' k)
  (fin:∀ G' r,zJ [] G G'->G' r=none->Q (.ref r) (put G' r (.lst ((l.filter f).map c)))):lcR items stab G turn Q:=by
 subst hi
 have e:(List.range (l.map c).length).filterMap (fun i=>(l[i]?).bind fun x=>if f x=true then some (c x) else none)=(l.filter f).map c:=by
  rw [zzM,← zaI];have h:=List.filterMap_getElem?_range_length l
  conv=>rhs;rw [← h]
  rw [List.filterMap_filterMap]
 refine zjt (fun i=>(l[i]?).bind fun x=>if f x=true then some (c x) else none) (by rw [zzM];exact hl) st (fun i w G' k hw kp hk=>?_) (fun G' r kp hr=>by rw [e];exact fin G' r kp hr);rw [List.getElem?_map] at hw;obtain ⟨x,hx,rfl⟩:=Option.map_eq_some_iff.mp hw;rw [hx] at hk;exact step x (List.mem_of_getElem? hx) G' k kp hk
theorem nH {c:Nat}:∀ {l p:List Nat},p∈rZ c l->p.length<=l.length
 | [],p,h=>by simp [rZ] at h;subst h;exact zzR _
 |x::r,p,h=>by
  unfold rZ at h
  split at h
  .rcases List.mem_cons.mp h with rfl|h
   .exact Nat.zero_le _
   .exact Nat.le_succ_of_le (nH h)
  .split at h
   .rename_i a t e;rcases List.mem_cons.mp h with rfl|h
    .exact Nat.succ_le_succ (nH (by rw [e];exact zzT))
    .exact Nat.le_succ_of_le (nH (by rw [e];exact List.mem_cons_of_mem _ h))
   .rename_i e;exact absurd e (zfU c r)
theorem zig:(" " : Str)=⟨#[32]⟩:=by decide +kernel
theorem zd0 {x w:Str} {c:Nat} (h:w∈Txt.split x ⟨#[c]⟩):w.length<=x.length:=by
 have:=List.mem_map_of_mem (f:=fun s:Str=>s.cps.toList) h;rw [dA] at this;have:=nH this;simpa [Str.length] using this
theorem zhW (x:Str):(Txt.split x " ").filter (fun w=>(w.length:Int) != 0)=wdS x:=by
 rw [zig,zd1,wdS,wd,List.filter_map];show List.map mkS _=_;congr 1;apply List.filter_congr;intro l _;show ((l.toArray.size:Int) != 0)=!l.isEmpty;cases l<;>simp
 omega
theorem le_a (c:Nat):leS "a" ⟨#[c]⟩=decide (97<=c):=by
 unfold leS;show (!decide ([c]<("a" : Str).cps.toList))=_;rw [show ("a" : Str).cps.toList=[97] by decide +kernel,StrLaws.lt_cons_cons]
 by_cases h:c<97
 .simp [h]
 .simp [h,Nat.le_of_not_lt h]
theorem le_z (c:Nat):leS ⟨#[c]⟩ "z" = decide (c<=122):=by
 unfold leS;show (!decide (("z" : Str).cps.toList<[c]))=_;rw [show ("z" : Str).cps.toList=[122] by decide +kernel,StrLaws.lt_cons_cons]
 by_cases h:122<c
 .simp [h]
 .simp [h,Nat.le_of_not_lt h]
theorem rD {S:List Addr} {G G' G'':Hw} {p r:Addr} (k:zJ S G G') (k2:zJ [p,r] G' G'') (h:G p=none) (h2:G r=none):zJ S G G'':=fun a u ha e=>k2 a u (by
 simp only [List.mem_cons,List.not_mem_nil,or_false,not_or];exact ⟨uU e h,uU e h2⟩) (k a u ha e)
theorem zeb (s:St) (l:List Tk) (t:Tk):run s (l++[t])=step (run s l) t:=by rw [zaq];rfl
section
variable {K : yS} {CQ : Nat → Addr}
theorem zbS {n:Nat} {ws:List W} {G:Hw} {Q:Q3} (h:spWB ws G Q XN):yX (yI K CQ n) XN jM { nx:=fun _ G'=>Q .non G',rt:=Q } (yO xQ ws) G:=by
 obtain ⟨x,rfl,hx,h⟩:=h;have m3:(yI K CQ n).mt[4]?=some zbn:=rfl;refine yH ?_
 ((try dsimp only [zS,zT,zP,zH,zE,zB,yZ,zQ,zW,zO,zV,zY,zU,zR,zL,zN,zD,zM,gZ,gS,tZ,tS]);try simp only [yO,xQ,zzU,zzV,List.length_cons,List.length_nil,List.cons_append,List.nil_append,List.getElem?_cons_zero,List.getElem?_cons_succ,m3])
 refine ⟨rfl,by decide +kernel,by omega,fun r hr=>?_⟩;simp only [uV,kT zK];have hl:=dB x " ";refine zju (Txt.split x " ") W.str (fun w=>(w.length:Int) != 0) rfl (by omega) (fun G' k=>kT (k0 k zK)) (fun w hw G' k kp hk=>?_) (fun G' q kp hq=>?_)
 .have lw:w.length<=sizeLine:=sz _ (Nat.le_trans (zd0 (by rw [zig] at hw;exact hw)) (by omega));show (match jU G' (.str w) with|some b=>if b=true then k (some (.str w)) G' else k none G'|none=>False);have hk:=hk G' kp;simp only [jU,lw,if_true]
  by_cases e:((w.length:Int) != 0)=true
  .rw [if_pos e] at hk ⊢;exact hk
  .rw [if_neg e] at hk ⊢;exact hk
 .rw [zhW];exact h q _ (((zJ.new hr).trans kp).trans (zJ.new hq)) (zJ.none ((zJ.new hr).trans kp) (by simp) hq) zK
theorem zhX {n:Nat} (hn:21<=n) {ws:List W} {G:Hw} {Q:Q3} (h:spWA ws G Q XN):yX (yI K CQ n) XN xH { nx:=fun _ G'=>Q .non G',rt:=Q } (yO wD ws) G:=by
 obtain ⟨x,rfl,hx,h⟩:=h;have e26:(yI K CQ n).fn[20]?=some ⟨"words_between_blanks", spWB⟩:=sB 20 hn rfl;have x7:(yI K CQ n).sx[1]?=some ⟨pD ")" " ) ", dX ")" " ) "⟩:=rfl;have x8:(yI K CQ n).sx[2]?=some ⟨pD "(" " ( ", dX "(" " ( "⟩:=rfl;show yX (yI K CQ n) XN xH { nx:=fun _ G'=>Q .non G',rt:=Q } [some (.str x)] G;simp only [xH];refine yH ?_
 ((try dsimp only [zS,zT,zP,zH,zE,zB,yZ,zQ,zW,zO,zV,zY,zU,zR,zL,zN,zD,zM,gZ,gS,tZ,tS]);try simp only [e26,x7,x8])
 have l1:(" ( " : Str).length=3:=by decide +kernel
 have l2:(" ) " : Str).length=3:=by decide +kernel
 have h1:(Txt.replace x "(" " ( ").length<=3 * x.length:=by
  rw [← uB,zfw,← uB x];exact zdd _
 have h2:(opn x).length<=3 * x.length:=by
  rw [← uB,zfv,← uB x];exact zfO _
 refine ⟨by rw [l1];omega,?_⟩;refine ⟨by rw [l2];omega,?_⟩;exact ⟨opn x,rfl,by omega,h⟩
end
theorem in_j (k:Tk) (h:pE k):(jL.any fun w=>wU w (.str k.s))=(match k with|.nm _=>false|_=>true):=by
 cases k with
 |nm x =>
  obtain ⟨_,hl,_,hno⟩:=h;have hno:x∉uK:=by simpa using hno
  have q:∀ y∈(["(", ")", "not", "and", "or", "then"]:List Str),(y==x)=false:=by
   intro y hy;rw [beq_eq_false_iff_ne];rintro rfl;have h2:∀ z∈(["(", ")", "not", "and", "or", "then"]:List Str),z∈uK\/∃ c∈z.cps.toList,¬ pl c:=by decide +kernel
   rcases h2 y hy with h2|⟨c,hc,h3⟩
   .exact hno h2
   .exact h3 (hl c hc)
  show (jL.any fun w=>wU w (.str x))=false;have ej:jL=(["(", ")", "not", "and", "or", "then"]:List Str).map W.str:=rfl;rw [ej,List.any_map,List.any_eq_false];intro y hy;simp only [Function.comp,wU];rw [q y hy]
  decide
 |lp=>show (jL.any fun w=>wU w (.str "("))=true;decide +kernel
 |rp=>show (jL.any fun w=>wU w (.str ")"))=true;decide +kernel
 |nt=>show (jL.any fun w=>wU w (.str "not"))=true;decide +kernel
 |op k=>match k with
  | 0=>show (jL.any fun w=>wU w (.str "and"))=true;decide +kernel
  | 1=>show (jL.any fun w=>wU w (.str "or"))=true;decide +kernel
  |k+2=>show (jL.any fun w=>wU w (.str "then"))=true;decide +kernel
section
variable {K : yS} {CQ : Nat → Addr} {T : Addr}
theorem zgV {n:Nat} (hn:5<=n) (cl:Cl K CQ) {ws:List W} {G:Hw} {Q:Q3} (h:zd5 ws G Q XN):yX (yI K CQ n) XN sF { nx:=fun _ G'=>Q .non G',rt:=Q } (yO gW ws) G:=by
 obtain ⟨x,rfl,xl,h⟩:=h;have e1:(yI K CQ n).fn[1]?=some eLen:=sB 1 hn rfl;have e2:(yI K CQ n).fn[2]?=some eAll:=sB 2 hn rfl;have e4:(yI K CQ n).fn[4]?=some (eIsx K):=sB 4 hn rfl;have g0:(yI K CQ n).gl[0]?=some (("LONGEST_NAME" : Str),W.int 6):=rfl;have g1:(yI K CQ n).gl[1]?=some (("NO_NAMES" : Str),W.tup (uK.map .str)):=rfl;have g6:(yI K CQ n).gl[6]?=some (("str" : Str),W.ty "str"):=rfl;show yX (yI K CQ n) XN sF { nx:=fun _ G'=>Q .non G',rt:=Q } [some (.str x)] G;simp only [sF];refine yH ?_
 ((try dsimp only [zS,zT,zP,zH,zE,zB,yZ,zQ,zW,zO,zV,zY,zU,zR,zL,zN,zD,zM,gZ,gS,tZ,tS]);try simp only [e4,g6])
 refine ⟨"str", true,rfl,cl.ss,?_⟩;have c1:decide ((1:Int)<=(x.length:Int))=decide (1<=x.length):=by rw [decide_eq_decide];omega
 have c2:decide ((x.length:Int)<=6)=decide (x.length<=6):=by rw [decide_eq_decide];omega
 ((try dsimp only [zS,zT,zP,zH,zE,zB,yZ,zQ,zW,zO,zV,zY,zU,zR,zL,zN,zD,zM,gZ,gS,tZ,tS]);try simp only [jU,Bool.not_true,zzB,if_false,yG,leR,e1,g0,sQ,sR,sz _ (show x.length<=100000 by omega),if_true,c1,c2])
 by_cases h1:1<=x.length
 .by_cases h6:x.length<=6
  .simp only [decide_eq_true h1,decide_eq_true h6,if_true,Bool.not_true,zzB,if_false];refine nV (yH ?_)
   ((try dsimp only [zS,zT,zP,zH,zE,zB,yZ,zQ,zW,zO,zV,zY,zU,zR,zL,zN,zD,zM,gZ,gS,tZ,tS]);try simp only [yG,kY,L3.inR,g1,e2,if_true])
   refine ⟨⟨by simp [pur],by decide,Nat.le_trans (Nat.min_le_right _ _) (by simp [dep])⟩,?_⟩;rw [zfX]
   cases hno:uK.contains x with
   |true =>
    have e:uD x=false:=by simp only [uD,hno,Bool.not_true,Bool.and_false,Bool.false_and]
    simp only [Bool.not_true,zzB,if_false];have:=h G zJ.refl
    rwa [e] at this
   |false =>
    have e:uD x=xO x:=by simp only [uD,hno,decide_eq_true h1,decide_eq_true h6,Bool.not_false,Bool.and_true,Bool.true_and]
    rw [e] at h;simp only [Bool.not_false,if_true,uV];refine zaD (fun w=>match w with|.str y=>some (.bl (leS "a" y&&leS y "z"))|_=>none) trivial (by simp only [sgs,zzM,vW];exact sz _ (by omega)) ?_ ?_
    .intro w hw K' hK;obtain ⟨c,_,rfl⟩:=zzP hw;simp only [pZ,List.length_cons,List.length_nil,List.replicate,zzV,List.append_nil]
     ((try dsimp only [zS,zT,zP,zH,zE,zB,yZ,zQ,zW,zO,zV,zY,zU,zR,zL,zN,zD,zM,gZ,gS,tZ,tS]);try simp only [yG,leR,if_true])
     replace hK:K' (some (.bl (leS "a" ⟨#[c]⟩&&leS ⟨#[c]⟩ "z"))) G:=hK;revert hK;cases leS "a" ⟨#[c]⟩<;>simp
    .intro p hp;refine ⟨x.cps.toList.map ltB,?_,?_⟩
     .rw [xG zK];congr 1;unfold sgs;rw [List.filterMap_map,List.map_map];rw [← List.filterMap_eq_map];congr 1
      funext c
      simp only [Function.comp,le_a,le_z,ltB]
     .have e:(x.cps.toList.map ltB).all id=xO x:=by rw [List.all_map];rfl
      dsimp only;rw [e];exact h _ (zJ.new hp)
  .have e:uD x=false:=by simp only [uD,decide_eq_false h6,Bool.and_false,Bool.false_and]
   simp only [decide_eq_true h1,decide_eq_false h6,if_true,Bool.not_false];refine yH ?_
   (try dsimp only [zS,zT,zP,zH,zE,zB,yZ,zQ,zW,zO,zV,zY,zU,zR,zL,zN,zD,zM,gZ,gS,tZ,tS])
   have:=h G zJ.refl
   rwa [e] at this
 .have e:uD x=false:=by simp only [uD,decide_eq_false h1,Bool.false_and]
  simp only [decide_eq_false h1,zzB,if_false,Bool.not_false,if_true];refine yH ?_
  (try dsimp only [zS,zT,zP,zH,zE,zB,yZ,zQ,zW,zO,zV,zY,zU,zR,zL,zN,zD,zM,gZ,gS,tZ,tS])
  have:=h G zJ.refl
  rwa [e] at this
theorem zis {l:List Fx3} {n:Nat} (hn:19<=n) {ws:List W} {G:Hw} {Q:Q3} {E:X3} (h:bD CQ ws G Q E):yJ (yI K CQ n) (wN CQ l T) vT (fun _=>E) { nx:=fun _ G'=>Q .non G',rt:=Q } (yO tL ws) G:=by
 obtain ⟨k,rfl,tk,h,hE⟩:=h;have e18:(yI K CQ n).fn[18]?=some ⟨"is_name", zd5⟩:=sB 18 hn rfl;have g2:(yI K CQ n).gl[2]?=some (("JOINING" : Str),W.tup jL):=rfl;have c0:(wN CQ l T).cl[0]?=some ⟨"NoText", CQ 0,none⟩:=rfl;have z2:=sz 2 (by decide);show yJ (yI K CQ n) (wN CQ l T) vT (fun _=>E) { nx:=fun _ G'=>Q .non G',rt:=Q } [some (.str k.s)] G;simp only [vT];refine qU ?_;simp only [yC]
 ((try dsimp only [zS,zT,zP,zH,zE,zB,yZ,zQ,zW,zO,zV,zY,zU,zR,zL,zN,zD,zM,gZ,gS,tZ,tS]);try simp only [g2,yG,kY,L3.inR,zzB,if_false])
 refine ⟨⟨by simp [pur],by decide,Nat.le_trans (Nat.min_le_right _ _) (by simp [dep])⟩,?_⟩;rw [in_j k tk]
 cases k with
 |nm x =>
  rw [if_neg zzN];refine nV (qU ?_);simp only [yC]
  ((try dsimp only [zS,zT,zP,zH,zE,zB,yZ,zQ,zW,zO,zV,zY,zU,zR,zL,zN,zD,zM,gZ,gS,tZ,tS]);try simp only [e18])
  refine ⟨x,rfl,by have:=tk.2.2.1;omega,fun G1 k1=>?_⟩
  ((try dsimp only [zS,zT,zP,zH,zE,zB,yZ,zQ,zW,zO,zV,zY,zU,zR,zL,zN,zD,zM,gZ,gS,tZ,tS]);try simp only [jU])
  by_cases nm:uD x=true
  .rw [nm];simp only [Bool.not_true,zzB,if_false];refine xtn (qU ?_);simp only [yC]
   ((try dsimp only [zS,zT,zP,zH,zE,zB,yZ,zQ,zW,zO,zV,zY,zU,zR,zL,zN,zD,zM,gZ,gS,tZ,tS]);try simp only [zzC,zzL,zzA,Nat.reduceAdd,z2,true_and])
   exact h nm G1 k1
  .have nm':uD x=false:=by simpa using nm
   rw [nm'];simp only [Bool.not_false,if_true];refine qU ?_;simp only [yC]
   ((try dsimp only [zS,zT,zP,zH,zE,zB,yZ,zQ,zW,zO,zV,zY,zU,zR,zL,zN,zD,zM,gZ,gS,tZ,tS]);try simp only [c0,clR])
   exact ⟨trivial,hE nm G1 k1⟩
 |lp=>rw [if_pos rfl];refine yH ?_;(try dsimp only [zS,zT,zP,zH,zE,zB,yZ,zQ,zW,zO,zV,zY,zU,zR,zL,zN,zD,zM,gZ,gS,tZ,tS]);exact h trivial G zJ.refl
 |rp=>rw [if_pos rfl];refine yH ?_;(try dsimp only [zS,zT,zP,zH,zE,zB,yZ,zQ,zW,zO,zV,zY,zU,zR,zL,zN,zD,zM,gZ,gS,tZ,tS]);exact h trivial G zJ.refl
 |nt=>rw [if_pos rfl];refine yH ?_;(try dsimp only [zS,zT,zP,zH,zE,zB,yZ,zQ,zW,zO,zV,zY,zU,zR,zL,zN,zD,zM,gZ,gS,tZ,tS]);exact h trivial G zJ.refl
 |op j=>rw [if_pos rfl];refine yH ?_;(try dsimp only [zS,zT,zP,zH,zE,zB,yZ,zQ,zW,zO,zV,zY,zU,zR,zL,zN,zD,zM,gZ,gS,tZ,tS]);exact h trivial G zJ.refl
theorem zbo {α:Type} {l:List α} {i:Nat} {x:α} (h:l[i]?=some x):l.drop i=x::l.drop (i+1):=by
 obtain ⟨hi,rfl⟩:=List.getElem?_eq_some_iff.mp h;exact List.drop_eq_getElem_cons hi
theorem ziu {n:Nat} (hn:15<=n) {ws:List W} {G:Hw} {Q:Q3} {E:X3} (h:fE CQ ws G Q E):yJ (yI K CQ n) (wN CQ [⟨"begin_side", yN CQ true⟩,⟨"go_on", yN CQ false⟩] T) qY (fun _=>E) { nx:=fun _ G'=>Q .non G',rt:=Q } (yO kE ws) G:=by
 obtain ⟨tk,q,rfl,oks,tl',gq,h,hE⟩:=h;have e14:(yI K CQ n).fn[14]?=some ⟨"take_left", mJ⟩:=sB 14 hn rfl;have x0:(wN CQ [⟨"begin_side", yN CQ true⟩,⟨"go_on", yN CQ false⟩] T).fx[0]?=some ⟨"begin_side", yN CQ true⟩:=rfl;have x1:(wN CQ [⟨"begin_side", yN CQ true⟩,⟨"go_on", yN CQ false⟩] T).fx[1]?=some ⟨"go_on", yN CQ false⟩:=rfl;have c0:(wN CQ [⟨"begin_side", yN CQ true⟩,⟨"go_on", yN CQ false⟩] T).cl[0]?=some ⟨"NoText", CQ 0,none⟩:=rfl;have z0:=sz 0 (by decide);show yJ (yI K CQ n) (wN CQ [⟨"begin_side", yN CQ true⟩,⟨"go_on", yN CQ false⟩] T) qY (fun _=>E) { nx:=fun _ G'=>Q .non G',rt:=Q } [some (.ref q),none,none,none,none] G;simp only [qY];refine qU ?_;simp only [yC]
 ((try dsimp only [zS,zT,zP,zH,zE,zB,yZ,zQ,zW,zO,zV,zY,zU,zR,zL,zN,zD,zM,gZ,gS,tZ,tS]);try simp only [List.length_nil,z0,true_and])
 intro p hp;have gq1:=newO (u:=.lst []) hp gq;have k1:zJ [] G (put G p (.lst [])):=zJ.new hp;have gp1:(put G p (.lst [])) p=some (.lst []):=zK;generalize put G p (.lst [])=G1 at gq1 k1 gp1 ⊢;refine qU ?_;simp only [yC]
 ((try dsimp only [zS,zT,zP,zH,zE,zB,yZ,zQ,zW,zO,zV,zY,zU,zR,zL,zN,zD,zM,gZ,gS,tZ,tS]);try simp only [List.length_nil,z0,true_and])
 intro r hr;have gq2:=newO (u:=.lst []) hr gq1;have gp2:=newO (u:=.lst []) hr gp1;have hr0:=k1.none (by simp) hr;have pr:p≠r:=fun e=>by rw [← e,gp1] at hr;cases hr
 have pq:q≠p:=uU gq hp;have rq:q≠r:=uU gq hr0;have k2:zJ [] G (put G1 r (.lst [])):=k1.trans (zJ.new hr);have gr2:(put G1 r (.lst [])) r=some (.lst []):=zK;generalize put G1 r (.lst [])=G2 at gq2 gp2 k2 gr2 ⊢;refine qU ?_;simp only [yC]
 (try dsimp only [zS,zT,zP,zH,zE,zB,yZ,zQ,zW,zO,zV,zY,zU,zR,zL,zN,zD,zM,gZ,gS,tZ,tS])
 refine qU ?_;simp only [yC]
 ((try dsimp only [zS,zT,zP,zH,zE,zB,yZ,zQ,zW,zO,zV,zY,zU,zR,zL,zN,zD,zM,gZ,gS,tZ,tS]);try simp only [uV,kT gq2])
 refine ⟨fun i σ G'=>∃ v:Option W,σ=[some (.ref q),some (.ref p),some (.ref r),some (.bl (run ([],[],true) (tk.take i)).2.2),v]/\G' q=some (.lst (tk.map tv))/\G' p=some (Lw (run ([],[],true) (tk.take i)).1)/\G' r=some (Lk (run ([],[],true) (tk.take i)).2.1)/\zJ [] G G'/\WfS (run ([],[],true) (tk.take i))/\LenS (run ([],[],true) (tk.take i)) i/\jE ([],[],true) (tk.take i),⟨none,rfl,gq2,gp2,gr2,k2,⟨rfl,by simp [run]⟩,⟨by simp [run],by simp [run]⟩,trivial⟩,?_,?_,?_⟩
 .rintro i σ G' ⟨v,rfl,g,_⟩ _;exact kT g
 .rintro i w σ G' hw ⟨v,rfl,gq',gp',gr',kp,wf,ln,gs⟩;rw [List.getElem?_map] at hw;obtain ⟨x,hx,rfl⟩:=Option.map_eq_some_iff.mp hw;have hi:=(List.getElem?_eq_some_iff.mp hx).1;have et:tk.take (i+1)=tk.take i++[x]:=by rw [List.take_succ_eq_append_getElem hi,(List.getElem?_eq_some_iff.mp hx).2]
  have no:¬ Good (run ([],[],true) (tk.take i)) x->¬ ∃ t,Acc tk t:=fun hg z=>by
   obtain ⟨t,g,_⟩:=z;rw [← List.take_append_drop i tk,zbo hx] at g;exact hg ((jJ _ _ _).mp g).2.1
  have gs2:Good (run ([],[],true) (tk.take i)) x->jE ([],[],true) (tk.take i++[x]):=fun hg=>(jJ _ _ _).mpr ⟨gs,hg,trivial⟩;have xok:=oks x (List.mem_of_getElem? hx);simp only [et,zeb];have wf2:=fun gd=>zbT (t:=x) wf gd;have ln2:=zeA (t:=x) ln;generalize run ([],[],true) (tk.take i)=s at *;obtain ⟨D,V,b⟩:=s;have l1:D.length<=i:=ln.1;have l2:V.length<=i:=ln.2
  have fin:Good (D,V,b) x->∀ G3,zJ [p,r] G' G3->G3 p=some (Lw (step (D,V,b) x).1)->G3 r=some (Lk (step (D,V,b) x).2.1)->∃ v:Option W,[some (W.ref q),some (.ref p),some (.ref r),some (.bl (step (D,V,b) x).2.2),some (tv x)]=[some (.ref q),some (.ref p),some (.ref r),some (.bl (step (D,V,b) x).2.2),v]/\G3 q=some (.lst (tk.map tv))/\G3 p=some (Lw (step (D,V,b) x).1)/\G3 r=some (Lk (step (D,V,b) x).2.1)/\zJ [] G G3/\WfS (step (D,V,b) x)/\LenS (step (D,V,b) x) (i+1)/\jE ([],[],true) (tk.take i++[x]) :=
   fun gd G3 k3 g3 h3=>⟨_,rfl,k3 _ _ (by simp only [List.mem_cons,List.not_mem_nil,or_false,not_or];exact ⟨pq,rq⟩) gq',g3,h3,rD kp k3 hp hr0,wf2 gd,ln2,gs2 gd⟩
  have bad:¬ Good (D,V,b) x->∀ G3,zJ [p,r] G' G3->E (xT CQ) G3:=fun ng G3 k3=>hE (no ng) G3 (rD kp k3 hp hr0);refine qU ?_;simp only [yC]
  cases b with
  |true =>
   ((try dsimp only [zS,zT,zP,zH,zE,zB,yZ,zQ,zW,zO,zV,zY,zU,zR,zL,zN,zD,zM,gZ,gS,tZ,tS]);try simp only [jU,if_true])
   refine qU ?_;simp only [yC]
   ((try dsimp only [zS,zT,zP,zH,zE,zB,yZ,zQ,zW,zO,zV,zY,zU,zR,zL,zN,zD,zM,gZ,gS,tZ,tS]);try simp only [x0])
   refine ⟨x,D,V,p,r,rfl,pr,gp',gr',xok,wf,by omega,by omega,fun gd G3 k3 g3 h3=>?_,bad⟩;simp only [yJ];exact fin gd G3 k3 g3 h3
  |false =>
   ((try dsimp only [zS,zT,zP,zH,zE,zB,yZ,zQ,zW,zO,zV,zY,zU,zR,zL,zN,zD,zM,gZ,gS,tZ,tS]);try simp only [jU,zzB,if_false])
   refine qU ?_;simp only [yC]
   ((try dsimp only [zS,zT,zP,zH,zE,zB,yZ,zQ,zW,zO,zV,zY,zU,zR,zL,zN,zD,zM,gZ,gS,tZ,tS]);try simp only [x1])
   refine ⟨x,D,V,p,r,rfl,pr,gp',gr',xok,wf,by omega,by omega,fun gd G3 k3 g3 h3=>?_,bad⟩;simp only [yJ];exact fin gd G3 k3 g3 h3
 .rintro σ G' ⟨v,rfl,gq',gp',gr',kp,wf,ln,gs⟩;rw [zzM,List.take_length] at *;generalize e:run ([],[],true) tk=s at *;obtain ⟨D,V,b⟩:=s;have l1:D.length<=tk.length:=ln.1;have l2:V.length<=tk.length:=ln.2;refine qU ?_;simp only [yC]
  cases b with
  |true =>
   ((try dsimp only [zS,zT,zP,zH,zE,zB,yZ,zQ,zW,zO,zV,zY,zU,zR,zL,zN,zD,zM,gZ,gS,tZ,tS]);try simp only [jU,if_true])
   refine qU ?_;simp only [yC]
   ((try dsimp only [zS,zT,zP,zH,zE,zB,yZ,zQ,zW,zO,zV,zY,zU,zR,zL,zN,zD,zM,gZ,gS,tZ,tS]);try simp only [c0,clR])
   refine ⟨trivial,hE (fun z=>?_) _ kp⟩;obtain ⟨t,_,D',V',e',_⟩:=z;rw [e] at e';cases e'
  |false =>
   have wf:Wf D V 1:=wf
   ((try dsimp only [zS,zT,zP,zH,zE,zB,yZ,zQ,zW,zO,zV,zY,zU,zR,zL,zN,zD,zM,gZ,gS,tZ,tS]);try simp only [jU,zzB,if_false])
   refine xtn (qU ?_);simp only [yC]
   ((try dsimp only [zS,zT,zP,zH,zE,zB,yZ,zQ,zW,zO,zV,zY,zU,zR,zL,zN,zD,zM,gZ,gS,tZ,tS]);try simp only [e14])
   refine ⟨1,D,V,p,r,rfl,zzR _,pr,gp',gr',wf,by omega,by omega,fun G3 k3 g3 h3=>?_⟩;have wf3:=zb4 (m:=1) (zzR _) wf;have kp3:=rD kp k3 hp hr0;generalize et:tl 1 D V=u at g3 h3 wf3;obtain ⟨D',V'⟩:=u;refine qU ?_;simp only [yC]
   cases V' with
   |cons w V' =>
    have h3:G3 r=some (.lst ((V'.map fun t=>W.str t.s).reverse++[.str w.s])):=by rw [h3];exact congrArg some (vX w V')
    have he:((V'.map fun t=>W.str t.s).reverse++[W.str w.s]).isEmpty=false:=by simp
    ((try dsimp only [zS,zT,zP,zH,zE,zB,yZ,zQ,zW,zO,zV,zY,zU,zR,zL,zN,zD,zM,gZ,gS,tZ,tS]);try simp only [jU,h3,he,Bool.not_false,if_true])
    refine qU ?_;simp only [yC]
    ((try dsimp only [zS,zT,zP,zH,zE,zB,yZ,zQ,zW,zO,zV,zY,zU,zR,zL,zN,zD,zM,gZ,gS,tZ,tS]);try simp only [c0,clR])
    refine ⟨trivial,hE (fun z=>?_) _ kp3⟩;obtain ⟨t,_,D2,V2,e',e2⟩:=z;rw [e] at e';cases e';rw [et] at e2;cases e2
   |nil =>
    replace h3:G3 r=some (.lst []):=h3;have hl:D'.length=1:=wf3.len;obtain ⟨t,rfl⟩:∃ t,D'=[t]:=List.length_eq_one_iff.mp hl;have g3:G3 p=some (.lst [t.w]):=g3
    ((try dsimp only [zS,zT,zP,zH,zE,zB,yZ,zQ,zW,zO,zV,zY,zU,zR,zL,zN,zD,zM,gZ,gS,tZ,tS]);try simp only [jU,h3,List.isEmpty_nil,Bool.not_true,zzB,if_false])
    refine xtn (qU ?_);simp only [yC]
    (try dsimp only [zS,zT,zP,zH,zE,zB,yZ,zQ,zW,zO,zV,zY,zU,zR,zL,zN,zD,zM,gZ,gS,tZ,tS])
    refine ixL (kT g3) ?_;rw [fK];exact h t ⟨gs,D,V,e,et⟩ G3 kp3
theorem isNo {G:Hw} {w:W} {Q:Q3} (cl:Cl K CQ) (h:zhM G w) (q:Q (.bl false) G):isxS K [w,.ty "str"] G Q:=by
 obtain ⟨T',hT,ty⟩:=h;have j:isjS K [w,.ty "str"] G Q:=⟨T',false,ty,cl.ns T' hT,q⟩;unfold isxS
 split
 .rename_i e;cases e
 .rename_i C' ns vs T e;cases e;simp [tyO] at ty
 .rename_i e;cases e
 .exact j
abbrev fxs (CQ:Nat->Addr):List Fx3:=[⟨"begin_side", yN CQ true⟩,⟨"go_on", yN CQ false⟩,⟨"read_joined", fE CQ⟩,⟨"read_word", bD CQ⟩]
theorem zit {n:Nat} (hn:22<=n) (cl:Cl K CQ) {ws:List W} {G:Hw} {Q:Q3} {E:X3} (h:fF CQ ws G Q E):yJ (yI K CQ n) (wN CQ (fxs CQ) T) wK (fun _=>E) { nx:=fun _ G'=>Q .non G',rt:=Q } (yO kF ws) G:=by
 have e4:(yI K CQ n).fn[4]?=some (eIsx K):=sB 4 hn rfl;have e21:(yI K CQ n).fn[21]?=some ⟨"words_and_brackets", spWA⟩:=sB 21 hn rfl;have g6:(yI K CQ n).gl[6]?=some (("str" : Str),W.ty "str"):=rfl;have s3:(yI K CQ n).sx[3]?=some ⟨pD "\n" " ", dX "\n" " "⟩:=rfl;have x2:(wN CQ (fxs CQ) T).fx[2]?=some ⟨"read_joined", fE CQ⟩:=rfl;have x3:(wN CQ (fxs CQ) T).fx[3]?=some ⟨"read_word", bD CQ⟩:=rfl;have c0:(wN CQ (fxs CQ) T).cl[0]?=some ⟨"NoText", CQ 0,none⟩:=rfl;rcases h with ⟨w,rfl,hw,h⟩|⟨tk,x,rfl,tks,tl',sl,hw,h,hE⟩
 .show yJ (yI K CQ n) (wN CQ (fxs CQ) T) wK (fun _=>E) { nx:=fun _ G'=>Q .non G',rt:=Q } [some w] G;simp only [wK];refine qU ?_;simp only [yC]
  ((try dsimp only [zS,zT,zP,zH,zE,zB,yZ,zQ,zW,zO,zV,zY,zU,zR,zL,zN,zD,zM,gZ,gS,tZ,tS]);try simp only [e4,g6])
  refine isNo cl hw ?_
  ((try dsimp only [zS,zT,zP,zH,zE,zB,yZ,zQ,zW,zO,zV,zY,zU,zR,zL,zN,zD,zM,gZ,gS,tZ,tS]);try simp only [jU,Bool.not_false,if_true])
  refine qU ?_;simp only [yC]
  ((try dsimp only [zS,zT,zP,zH,zE,zB,yZ,zQ,zW,zO,zV,zY,zU,zR,zL,zN,zD,zM,gZ,gS,tZ,tS]);try simp only [c0,clR])
  exact ⟨trivial,h G zJ.refl⟩
 show yJ (yI K CQ n) (wN CQ (fxs CQ) T) wK (fun _=>E) { nx:=fun _ G'=>Q .non G',rt:=Q } [some (.str x)] G;simp only [wK];refine qU ?_;simp only [yC]
 ((try dsimp only [zS,zT,zP,zH,zE,zB,yZ,zQ,zW,zO,zV,zY,zU,zR,zL,zN,zD,zM,gZ,gS,tZ,tS]);try simp only [e4,g6])
 refine ⟨"str", true,rfl,cl.ss,?_⟩
 ((try dsimp only [zS,zT,zP,zH,zE,zB,yZ,zQ,zW,zO,zV,zY,zU,zR,zL,zN,zD,zM,gZ,gS,tZ,tS]);try simp only [jU,Bool.not_true,zzB,if_false])
 refine xtn (qU ?_);simp only [yC]
 ((try dsimp only [zS,zT,zP,zH,zE,zB,yZ,zQ,zW,zO,zV,zY,zU,zR,zL,zN,zD,zM,gZ,gS,tZ,tS]);try simp only [e21,s3,x2,x3])
 refine ⟨by rw [show (" " : Str).length=1 by decide +kernel];omega,?_⟩;refine ⟨_,rfl,by rw [zjc];omega,fun r G1 k1 hr gr=>?_⟩;rw [zhS hw,List.map_map] at gr;simp only [uV,kT gr];refine ⟨fun i acc G'=>zJ [] G1 G'/\acc=(tk.take i).map tv/\∀ k∈tk.take i,mQ k,⟨zJ.refl,rfl,fun k hk=>nomatch hk⟩,?_,by rw [zzM];exact sz _ (by omega),?_,?_⟩
 .rintro i acc G' ⟨kp,rfl,_⟩ hi;exact ⟨kT (k0 kp gr),by rw [zzM,List.length_take];omega⟩
 .rintro i w acc G' hw' ⟨kp,rfl,oks⟩;rw [List.getElem?_map] at hw';obtain ⟨k,hk,rfl⟩:=Option.map_eq_some_iff.mp hw';have hi:=(List.getElem?_eq_some_iff.mp hk).1;have et:tk.take (i+1)=tk.take i++[k]:=by rw [List.take_succ_eq_append_getElem hi,(List.getElem?_eq_some_iff.mp hk).2]
  have km:=List.mem_of_getElem? hk;simp only [pZ,List.length_cons,List.length_nil,List.replicate,zzV,List.append_nil]
  ((try dsimp only [zS,zT,zP,zH,zE,zB,yZ,zQ,zW,zO,zV,zY,zU,zR,zL,zN,zD,zM,gZ,gS,tZ,tS]);try simp only [Function.comp])
  refine ⟨k,rfl,tks k km,fun ok G2 k2=>⟨kp.trans k2,?_,?_⟩,fun no G2 k2=>hE (fun z=>no (z.1 k km)) G2 ((k1.trans kp).trans k2)⟩
  .rw [et,List.map_append];rfl
  .rw [et];intro k' hk';rcases List.mem_append.mp hk' with z|z
   .exact oks k' z
   .rw [zzO z];exact ok
 .rintro acc G' ⟨kp,rfl,oks⟩ q hq;rw [zzM,List.take_length] at *;have kk:=(k1.trans kp).trans (zJ.new (o:=.lst (tk.map tv)) hq);exact ⟨tk,q,rfl,oks,tl',zK,fun t a G2 k2=>h oks t a G2 (kk.trans k2),fun no G2 k2=>hE (fun z=>no z.2) G2 (kk.trans k2)⟩
end
theorem zjT:isG (" " : Str).cps.toList:=by
 intro k hk;rw [show (" " : Str).cps.toList=[32] by decide +kernel] at hk;exact .inl (zzO hk)
theorem zgb {x:Str} (h:x.length=0):x.cps.toList=[]:=List.eq_nil_of_length_eq_zero (by rw [uB];exact h)
theorem zj5 {g:Str}:(g==("" : Str))=decide (g.cps.toList=[]):=by
 by_cases h:g.cps.toList=[]
 .rw [decide_eq_true h,beq_iff_eq];exact zgc (by rw [h];decide +kernel)
 .rw [decide_eq_false h,beq_eq_false_iff_ne];rintro rfl;exact h (by decide +kernel)
theorem getl {α:Type} {l:List α} {i:Nat} {x:α} (h:l[i]?=some x):(l.take (i+1)).getLast?=some x:=by
 have hi:=(List.getElem?_eq_some_iff.mp h).1;rw [List.take_succ_eq_append_getElem hi,(List.getElem?_eq_some_iff.mp h).2];simp
theorem l_0:Str.empty.length=0:=rfl
theorem zjC {k:Tk} (h:pE k):k.s.length<=9:=by
 cases k with
 |nm x=>exact h.2.2.1
 |lp=>decide +kernel
 |rp=>decide +kernel
 |nt=>decide +kernel
 |op j=>match j with
  | 0=>decide +kernel
  | 1=>decide +kernel
  |j+2=>show ("then" : Str).length<=9;decide +kernel
section
variable {K : yS} {CQ : Nat → Addr}
theorem zbF {n:Nat} (hn:25<=n) {ws:List W} {G:Hw} {Q:Q3} (h:spJo ws G Q XN):yX (yI K CQ n) XN qV { nx:=fun _ G'=>Q .non G',rt:=Q } (yO kC ws) G:=by
 obtain ⟨p,q,tk,gs,rfl,gp,gq,hl,hk,gne,gl,hg,h⟩:=h;have e1:(yI K CQ n).fn[1]?=some eLen:=sB 1 hn rfl;have e29:(yI K CQ n).fn[5]?=some eInt:=sB 5 hn rfl;have i2:(yI K CQ n).it[1]?=some eEn:=rfl;show yX (yI K CQ n) XN qV { nx:=fun _ G'=>Q .non G',rt:=Q } [some (.ref p),some (.ref q),none,none,none,none] G;simp only [qV];refine yH ?_
 (try dsimp only [zS,zT,zP,zH,zE,zB,yZ,zQ,zW,zO,zV,zY,zU,zR,zL,zN,zD,zM,gZ,gS,tZ,tS])
 refine yH ?_
 ((try dsimp only [zS,zT,zP,zH,zE,zB,yZ,zQ,zW,zO,zV,zY,zU,zR,zL,zN,zD,zM,gZ,gS,tZ,tS]);try simp only [i2])
 refine ⟨yE tk,seqL gp,?_⟩;have gpos:0<gs.length:=List.length_pos_iff.mpr gne;refine ⟨fun i σ G'=>∃ (x:Str) (v3 v4 v5:Option W),σ=[some (.ref p),some (.ref q),some (.str x),v3,v4,v5]/\G=G'/\Jn x.cps.toList (tk.take i)/\x.length<=13 * i,⟨"", none,none,none,rfl,rfl,by simpa [show ("" : Str).cps.toList=[] by decide +kernel] using zfJ,by decide +kernel⟩,?_,?_,?_⟩
 .rintro i σ G' ⟨x,v3,v4,v5,rfl,rfl,_⟩ _;exact seqL gp
 .rintro i w σ G' hw ⟨x,v3,v4,v5,rfl,rfl,jn,xl⟩
  have hi:i<tk.length:=by
   have:=(List.getElem?_eq_some_iff.mp hw).1;simpa [enW,yE] using this
  have hki:tk[i]?=some tk[i]:=List.getElem?_eq_getElem hi
  have hwe:w=.tup [.int (i:Int),.str tk[i].s]:=by
   have e2:(enW 0 (yE tk))[i]?=some (.tup [.int ((i:Nat)+(0:Int)),(yE tk).getD i .non]):=by
    unfold enW;rw [List.getElem?_map,List.getElem?_range (by simpa [yE] using hi)];rfl
   rw [e2] at hw;have e3:(yE tk).getD i .non=.str tk[i].s:=by simp [yE,List.getD,hi]
   rw [e3,Int.add_zero] at hw;exact (Option.some.inj hw).symm
  subst hwe;generalize tk[i]=k at hki;have okk:=hk k (List.mem_of_getElem? hki)
  have et:tk.take (i+1)=tk.take i++[k]:=by
   have hi:=(List.getElem?_eq_some_iff.mp hki).1;rw [List.take_succ_eq_append_getElem hi,(List.getElem?_eq_some_iff.mp hki).2]
  have kl:k.s.length<=9:=zjC okk
  ((try dsimp only [zS,zT,zP,zH,zE,zB,yZ,zQ,zW,zO,zV,zY,zU,zR,zL,zN,zD,zM,gZ,gS,tZ,tS]);try simp only [zzC,zzL,zzA,Nat.reduceAdd])
  refine yH ?_
  ((try dsimp only [zS,zT,zP,zH,zE,zB,yZ,zQ,zW,zO,zV,zY,zU,zR,zL,zN,zD,zM,gZ,gS,tZ,tS]);try simp only [e1,sQ,sR,gq,wW,zzM])
  refine ⟨by omega,?_⟩;have m0:0<=(i:Int) % (gs.length:Int):=Int.emod_nonneg _ (by omega);have m1:(i:Int) % (gs.length:Int)<gs.length:=Int.emod_lt_of_pos _ (by omega);obtain ⟨w,hwm,ew⟩:=zfW (l:=gs.map W.str) m0 (by rw [zzM];exact m1);obtain ⟨g,hgm,rfl⟩:=zzP hwm;obtain ⟨gg,g3⟩:=hg g hgm;refine ixL (kT gq) ?_;rw [ew]
  have fin:∀ (g:Str),isG g.cps.toList->g.length<=3->(i=0\/g.cps.toList≠[]\/vN k=true\/∃ t,(tk.take i).getLast?=some t/\vN t=true)->yX (yI K CQ n) XN (.cons (.asg 2 (.bin .Add (.bin .Add (.var 2) (.bin .Mult (.var 5) (.call 5 (.cons (.cmp .Gt (.var 3) (.con (.int 0))) .nil)))) (.var 4))) .nil)
    { nx:=fun σ G'=>∃ (x:Str) (v3 v4 v5:Option W),σ=[some (.ref p),some (.ref q),some (.str x),v3,v4,v5]/\G=G'/\Jn x.cps.toList (tk.take (i+1))/\x.length<=13 * (i+1),rt:=Q }
    [some (.ref p),some (.ref q),some (.str x),some (.int (i:Int)),some (.str k.s),some (.str g)] G:=by
   intro g gg g3 hc;refine yH ?_
   ((try dsimp only [zS,zT,zP,zH,zE,zB,yZ,zQ,zW,zO,zV,zY,zU,zR,zL,zN,zD,zM,gZ,gS,tZ,tS]);try simp only [yG,rP,e29,intS,wW])
   by_cases h0:i=0
   .subst h0;have c0:decide ((0:Int)<((0:Nat):Int))=false:=by decide
    refine .inr ⟨if_neg (by rw [show (decide ((0:Int)<((0:Nat):Int)))=false from c0];decide),?_⟩;have x0:x.length=0:=by omega
    refine ⟨sz _ (by rw [l_0];omega),sz _ (by rw [Str.length_append,l_0];omega),_,_,_,_,rfl,rfl,?_,by rw [Str.length_append,Str.length_append,l_0];omega⟩;rw [et,cpsA,cpsA];exact nO jn okk (g:=Str.empty.cps.toList) (fun k hk=>nomatch hk) (.inr (.inr (.inr (zgb x0))))
   .have c1:decide ((0:Int)<(i:Int))=true:=decide_eq_true (by omega);refine .inl ⟨if_pos c1,?_⟩;refine ⟨sz _ (by omega),sz _ (by rw [Str.length_append];omega),_,_,_,_,rfl,rfl,?_,by rw [Str.length_append,Str.length_append];omega⟩;rw [et,cpsA,cpsA];refine nO jn okk gg ?_;rcases hc with hc|hc|hc|hc
    .exact absurd hc h0
    .exact .inl hc
    .exact .inr (.inl hc)
    .exact .inr (.inr (.inl hc))
  refine yH ?_
  ((try dsimp only [zS,zT,zP,zH,zE,zB,yZ,zQ,zW,zO,zV,zY,zU,zR,zL,zN,zD,zM,gZ,gS,tZ,tS]);try simp only [yG,rP])
  by_cases h0:i=0
  .have c0:decide ((0:Int)<(i:Int))=false:=decide_eq_false (by omega);simp only [c0,zzB,if_false];exact fin g gg g3 (.inl h0)
  .have c1:decide ((0:Int)<(i:Int))=true:=decide_eq_true (by omega);simp only [c1,if_true,jQ,zj5]
   by_cases hge:g.cps.toList=[]
   .simp only [decide_eq_true hge,if_true,kY,in_b okk]
    cases hb:vN k with
    |true =>
     simp only [Bool.not_true,zzB,if_false];exact fin g gg g3 (.inr (.inr (.inl hb)))
    |false =>
     simp only [Bool.not_false,if_true];have hi1:i-1<tk.length:=by omega
     have hk1:tk[i-1]?=some tk[i-1]:=List.getElem?_eq_getElem hi1;generalize tk[i-1]=k1 at hk1
     have e5:kK (yE tk) ((i:Int)-1)=some (.str k1.s):=by
      unfold kK nK;have hl2:(yE tk).length=tk.length:=by simp [yE]
      rw [if_pos (by omega),if_pos (by rw [hl2];omega)];show (yE tk)[((i:Int)-1).toNat]?=_;rw [show ((i:Int)-1).toNat=i-1 by omega];simp [yE,hk1]
     simp only [wW];refine ixL (kT gp) ?_;rw [e5];simp only [kY,in_b (hk k1 (List.mem_of_getElem? hk1))]
     cases hb1:vN k1 with
     |true =>
      simp only [Bool.not_true,zzB,if_false];refine fin g gg g3 (.inr (.inr (.inr ⟨k1,?_,hb1⟩)));have:=getl hk1
      rwa [show i-1+1=i by omega] at this
     |false =>
      simp only [Bool.not_false,if_true];refine yH ?_
      (try dsimp only [zS,zT,zP,zH,zE,zB,yZ,zQ,zW,zO,zV,zY,zU,zR,zL,zN,zD,zM,gZ,gS,tZ,tS])
      exact fin " " zjT (by decide +kernel) (.inr (.inl (by decide +kernel)))
   .simp only [decide_eq_false hge,zzB,if_false];exact fin g gg g3 (.inr (.inl hge))
 .rintro σ G' ⟨x,v3,v4,v5,rfl,rfl,jn,xl⟩;have hlen:(enW 0 (yE tk)).length=tk.length:=by simp [enW,yE]
  rw [hlen] at jn xl;rw [List.take_length] at jn;refine yH ?_
  (try dsimp only [zS,zT,zP,zH,zE,zB,yZ,zQ,zW,zO,zV,zY,zU,zR,zL,zN,zD,zM,gZ,gS,tZ,tS])
  exact h x G jn xl zJ.refl
end
structure Fc (G:Hw) (d l:Addr) (fs:List (Addr×O)):Prop where
 dl:jW G d l
 ob:∀ f∈fs,G f.1=some f.2/\f.1∉[d,l]
section
variable {G G' : Hw} {d l : Addr} {fs : List (Addr × O)}
theorem Fc.draw (F:Fc G d l fs) (k:zJ [d,l] G G') (D:jW G' d l):Fc G' d l fs:=⟨D,fun f hf=>⟨k _ _ (F.ob f hf).2 (F.ob f hf).1,(F.ob f hf).2⟩⟩
theorem Fc.keep (F:Fc G d l fs) (k:zJ [] G G'):Fc G' d l fs:=⟨zka k F.dl,fun f hf=>⟨k0 k (F.ob f hf).1,(F.ob f hf).2⟩⟩
theorem Fc.new {p:Addr} {o:O} (F:Fc G d l fs) (h:G p=none):Fc (put G p o) d l ((p,o)::fs):=⟨sH h F.dl,fun f hf=>by
 rcases List.mem_cons.mp hf with rfl|hf
 .exact ⟨zK,za9 F.dl h⟩
 .exact ⟨newO h (F.ob f hf).1,(F.ob f hf).2⟩⟩
theorem Fc.chg {p:Addr} {o o':O} (F:Fc G d l ((p,o)::fs)) (ne:∀ f∈fs,f.1≠p):Fc (put G p o') d l ((p,o')::fs):=⟨nI (F.ob _ zzT).2 F.dl,fun f hf=>by
 rcases List.mem_cons.mp hf with rfl|hf
 .exact ⟨zK,(F.ob _ zzT).2⟩
 .rw [xJ (ne f hf)];exact F.ob f (List.mem_cons_of_mem _ hf)⟩
theorem Fc.sub {gs:List (Addr×O)} (F:Fc G d l fs) (h:∀ f∈gs,f∈fs):Fc G d l gs:=⟨F.dl,fun f hf=>F.ob f (h f hf)⟩
theorem Fc.at {p:Addr} {o:O} (F:Fc G d l fs) (h:(p,o)∈fs):G p=some o:=(F.ob _ h).1
end
theorem cut_t {α:Type} (l:List α) (i:Nat):fH l none (some (i:Int))=l.take i:=by
 unfold fH HT.wH;dsimp only;rw [if_neg (by omega),List.drop_zero,Nat.sub_zero,Int.toNat_natCast];rw [List.take_eq_take_iff];omega
theorem cut_r {α:Type} (l:List α) (i:Nat):fH l (some (i:Int)) none=l.drop i:=by
 unfold fH HT.wH;dsimp only;rw [if_neg (by omega),Int.toNat_natCast];rw [List.take_of_length_le (by rw [List.length_drop];omega)]
 by_cases h:i<=l.length
 .rw [Nat.min_eq_left h]
 .rw [Nat.min_eq_right (by omega),List.drop_length,List.drop_of_length_le (by omega)]
theorem qZ {G:Hw} {a b:Int}:eqG G (.int a) (.int b)=some (decide (a=b)):=by
 simp [eqG,pur,dep,wU,Bool.beq_eq_decide_eq]
abbrev kO (l:List Tk):O:=.lst (yE l)
def tN (l:List Nat):List W:=l.map fun i:Nat=>.int (i:Int)
def isN:Tk->Bool
 | .nm _=>true
 |_=>false
def isO:Tk->Bool
 | .op _=>true
 |_=>false
theorem atN {l:List Nat} {y:Int} (h0:0<=y) (h1:y<l.length):∃ j∈l,kK (tN l) y=some (.int (j:Int)):=by
 have hi:y.toNat<l.length:=by omega
 refine ⟨l[y.toNat],List.getElem_mem hi,?_⟩;unfold kK nK tN;rw [if_pos h0,zzM,if_pos h1];simp [hi]
theorem zh1:∀ t:Sy,t.ok->∀ k∈tw t,mQ k:=by
 have hb:∀ (n:Nat) (a:Sy),(∀ k∈tw a,mQ k)->∀ k∈br n a (tw a),mQ k:=fun n a h k hk=>by
  unfold br at hk
  split at hk
  .rcases List.mem_cons.mp hk with rfl|hk
   .trivial
   .rcases List.mem_append.mp hk with hk|hk
    .exact h k hk
    .rw [zzO hk];trivial
  .exact h k hk
 intro t
 induction t with
 |say x=>intro h k hk;rw [zzO hk];exact h
 |neg a ih =>
  intro h k hk;rcases List.mem_cons.mp hk with rfl|hk
  .trivial
  .exact hb 4 a (ih h) k hk
 |two j a b ia ib =>
  intro h k hk;rcases List.mem_append.mp hk with hk|hk
  .exact hb _ a (ia h.1) k hk
  .rcases List.mem_cons.mp hk with rfl|hk
   .trivial
   .exact hb _ b (ib h.2) k hk
def pls (f:Tk->Bool) (l:List Tk):List Nat:=(List.range l.length).filter fun i=>f (l.getD i .lp)
theorem za7 {f:Tk->Bool} {l:List Tk} {i:Nat}:i∈pls f l↔∃ k,l[i]?=some k/\f k=true:=by
 unfold pls;rw [List.mem_filter,List.mem_range]
 constructor
 .rintro ⟨h,q⟩;refine ⟨l[i],List.getElem?_eq_getElem h,?_⟩;simpa [List.getD,List.getElem?_eq_getElem h] using q
 .rintro ⟨k,h,q⟩;refine ⟨(List.getElem?_eq_some_iff.mp h).1,?_⟩;simpa [List.getD,h] using q
theorem zg7 {L:List Str} (hL:∀ z∈L,z∈uK\/∃ c∈z.cps.toList,¬ pl c) {x:Str} (h:pE (.nm x)):((L.map W.str).any fun w=>wU w (.str x))=false:=by
 obtain ⟨_,hl,_,hno⟩:=h;have hno:x∉uK:=by simpa using hno
 rw [List.any_map,List.any_eq_false];intro y hy
 have:(y==x)=false:=by
  rw [beq_eq_false_iff_ne];rintro rfl;rcases hL y hy with h2|⟨c,hc,h3⟩
  .exact hno h2
  .exact h3 (hl c hc)
 simp only [Function.comp,wU];rw [this]
 decide
theorem any_n {k:Tk} (h:pE k):((["and", "or", "then", "not", "(", ")"]:List Str).map W.str).any (fun w=>wU w (.str k.s))=!isN k:=by
 cases k with
 |nm x=>exact zg7 (by decide +kernel) h
 |lp=>decide +kernel
 |rp=>decide +kernel
 |nt=>decide +kernel
 |op j=>match j with
  | 0=>decide +kernel
  | 1=>decide +kernel
  |j+2=>show ((["and", "or", "then", "not", "(", ")"]:List Str).map W.str).any (fun w=>wU w (.str "then"))=true;decide +kernel
theorem any_o {k:Tk} (h:pE k):((["and", "or", "then"]:List Str).map W.str).any (fun w=>wU w (.str k.s))=isO k:=by
 cases k with
 |nm x=>exact zg7 (by decide +kernel) h
 |lp=>decide +kernel
 |rp=>decide +kernel
 |nt=>decide +kernel
 |op j=>match j with
  | 0=>decide +kernel
  | 1=>decide +kernel
  |j+2=>show ((["and", "or", "then"]:List Str).map W.str).any (fun w=>wU w (.str "then"))=true;decide +kernel
theorem any_b {k:Tk} (h:pE k):((["(", ")"]:List Str).map W.str).any (fun w=>wU w (.str k.s))=vN k:=by
 cases k with
 |nm x=>exact zg7 (by decide +kernel) h
 |lp=>decide +kernel
 |rp=>decide +kernel
 |nt=>decide +kernel
 |op j=>match j with
  | 0=>decide +kernel
  | 1=>decide +kernel
  |j+2=>show ((["(", ")"]:List Str).map W.str).any (fun w=>wU w (.str "then"))=false;decide +kernel
theorem zdC {l:List Tk} (h:nN l≠ops l+1):Bad l:=fun ⟨_,_,a⟩=>h (zaV a).1
theorem zkd {l:List Tk} (h:nR l≠nL l):Bad l:=fun ⟨_,_,a⟩=>h (zaV a).2
theorem zkc {l:List Tk} {x:Str} (h:.nm x∈l) (n:uD x=false):Bad l:=fun ⟨o,_⟩=>by
 have:uD x=true:=o _ h;rw [n] at this;cases this
def odds:List Str:=["A", "1", "-", ",", ".", "{", "}", "[", ";", "&", "!", "abcdefg", "zzzzzzzzz", "a-b", "a1", "And", "NOT", "+1"]
theorem zi6 {x:Str} (h:x∈odds):pE (.nm x)/\uD x=false:=by
 have:∀ x∈odds,(x.cps.toList≠[]/\(∀ k∈x.cps.toList,pl k)/\x.length<=9/\uK.contains x=false)/\uD x=false:=by decide +kernel
 exact this x h
theorem zcC:∀ {l:List Tk},0<nN l->∃ (i:Nat) (x:Str),l[i]?=some (Tk.nm x)
 | .nm x::l,_=>⟨0,x,rfl⟩
 | .lp::l,h=>by obtain ⟨i,x,e⟩:=zcC (l:=l) h;exact ⟨i+1,x,e⟩
 | .rp::l,h=>by obtain ⟨i,x,e⟩:=zcC (l:=l) h;exact ⟨i+1,x,e⟩
 | .nt::l,h=>by obtain ⟨i,x,e⟩:=zcC (l:=l) h;exact ⟨i+1,x,e⟩
 | .op _::l,h=>by obtain ⟨i,x,e⟩:=zcC (l:=l) h;exact ⟨i+1,x,e⟩
structure Ct (l:List Tk) (a b c e:Nat):Prop where
 n:nN l=a
 o:ops l=b
 r:nR l=c
 l:nL l=e
theorem Ct.app {l m:List Tk} {a b c e a' b' c' e':Nat} (h:Ct l a b c e) (k:Ct m a' b' c' e'):Ct (l++m) (a+a') (b+b') (c+c') (e+e'):=⟨by rw [zjg,h.n,k.n],by rw [zgE,h.o,k.o],by rw [zjf,h.r,k.r],by rw [zjh,h.l,k.l]⟩
theorem ct (l:List Tk):Ct l (nN l) (ops l) (nR l) (nL l):=⟨rfl,rfl,rfl,rfl⟩
structure Fk (G0 G:Hw) (d l:Addr) (fs:List (Addr×O)):Prop where
 fc:Fc G d l fs
 kp:zJ [d,l] G0 G
section
variable {G0 G G' : Hw} {d l : Addr} {fs : List (Addr × O)} {Q : Q3}
theorem Fk.draw (F:Fk G0 G d l fs) (k:zJ [d,l] G G') (D:jW G' d l):Fk G0 G' d l fs:=⟨F.fc.draw k D,F.kp.trans k⟩
theorem Fk.keep (F:Fk G0 G d l fs) (k:zJ [] G G'):Fk G0 G' d l fs:=⟨F.fc.keep k,F.kp.trans (keep0 k)⟩
theorem Fk.new {p:Addr} {o:O} (F:Fk G0 G d l fs) (h:G p=none):Fk G0 (put G p o) d l ((p,o)::fs):=⟨F.fc.new h,F.kp.trans (zJ.new h)⟩
theorem Fk.sub {gs:List (Addr×O)} (F:Fk G0 G d l fs) (h:∀ f∈gs,f∈fs):Fk G0 G d l gs:=⟨F.fc.sub h,F.kp⟩
theorem addI {i j:Int} (q:Q (.int (i+j)) G):wW .Add (.int i) (.int j) G Q:=q
theorem slK {rr:Addr} {R R':List Tk} {lo hi:Option Int} (F:Fk G0 G d l fs) (hr:(rr,kO R)∈fs) (e:fH (yE R) lo hi=yE R') (q:∀ r G',Fk G0 G' d l ((r,kO R')::fs)->Q (.ref r) G'):slR (.ref rr) lo hi G Q:=by
 simp only [slR,kT (F.fc.at hr),e];exact fun r h=>q r _ (F.new h)
theorem addK {a b:Addr} {A B:List Tk} (F:Fk G0 G d l fs) (ha:(a,kO A)∈fs) (hb:(b,kO B)∈fs) (hl:A.length+B.length<=3000) (q:∀ r G',Fk G0 G' d l ((r,kO (A++B))::fs)->Q (.ref r) G'):wW .Add (.ref a) (.ref b) G Q:=by
 refine addL (F.fc.at ha) (F.fc.at hb) (by unfold yE;rw [zzM,zzM];omega) fun r h=>?_;have e:yE A++yE B=yE (A++B):=by simp [yE]
 rw [e];exact q r _ (F.new h)
theorem tE {rr:Addr} {R:List Tk} {a:Nat} (F:Fk G0 G d l fs) (hr:(rr,kO R)∈fs) (q:∀ r G',Fk G0 G' d l ((r,kO (R.take a))::fs)->Q (.ref r) G'):slR (.ref rr) none (some (a:Int)) G Q:=slK F hr (by unfold yE;rw [cut_t,List.map_take]) q
theorem zj7 {rr:Addr} {R:List Tk} {a:Nat} (F:Fk G0 G d l fs) (hr:(rr,kO R)∈fs) (q:∀ r G',Fk G0 G' d l ((r,kO (R.drop a))::fs)->Q (.ref r) G'):slR (.ref rr) (some (a:Int)) none G Q:=slK F hr (by unfold yE;rw [cut_r,List.map_drop]) q
theorem ixK {rr:Addr} {R:List Tk} {a:Nat} {k:Tk} (F:Fk G0 G d l fs) (hr:(rr,kO R)∈fs) (e:R[a]?=some k) (q:Q (.str k.s) G):kM (.ref rr) (.int a) G Q:=by
 refine ixL (kT (F.fc.at hr)) ?_;have h1:=(List.getElem?_eq_some_iff.mp e).1
 have:kK (yE R) (a:Int)=some (.str k.s):=by
  unfold kK nK yE;rw [if_pos (by omega),zzM,if_pos (by omega)];simp [e]
 rw [this];exact q
theorem Fk.pick {xs:List Nat} {r:Addr} {m:Int} (F:Fk G0 G d l fs) (hr:(r,O.lst (tN xs))∈fs) (hm:m=xs.length) (h0:0<m) (h9:m<3000) (q:∀ j∈xs,∀ G',Fk G0 G' d l fs->Q (.int (j:Int)) G') :
  vJ [.ref d,.int m] G (fun y G2=>kM (.ref r) y G2 Q) XN:=by
 refine ⟨d,l,m,rfl,F.fc.dl,by omega,fun i G2 i0 i1 k D=>?_⟩;have F2:=F.draw k D;obtain ⟨j,hj,e⟩:=atN (l:=xs) i0 (by omega);refine ixL (kT (F2.fc.at hr)) ?_;rw [e];exact q j hj G2 F2
theorem ziI {lits:List Tk} {r:Addr} {m:Int} (F:Fk G0 G d l fs) (hr:(r,kO lits)∈fs) (hm:m=lits.length) (h0:0<m) (h9:m<100) (q:∀ k∈lits,∀ G',Fk G0 G' d l fs->Q (.str k.s) G') :
  vJ [.ref d,.int m] G (fun y G2=>kM (.ref r) y G2 Q) XN:=by
 refine ⟨d,l,m,rfl,F.fc.dl,by omega,fun i G2 i0 i1 k D=>?_⟩;have F2:=F.draw k D;have hi:i.toNat<lits.length:=by omega
 have e:kK (yE lits) i=some (.str lits[i.toNat].s):=by
  unfold kK nK yE;rw [if_pos i0,zzM,if_pos (by omega)];simp [hi]
 refine ixL (kT (F2.fc.at hr)) ?_;rw [e];exact q _ (List.getElem_mem hi) G2 F2
theorem ziJ {lits:List Tk} {m:Int} (F:Fk G0 G d l fs) (hm:m=lits.length) (h0:0<m) (h9:m<100) (q:∀ k∈lits,∀ G',Fk G0 G' d l fs->Q (.str k.s) G') :
  (yE lits).length<=sizeLine/\∀ r,G r=none->vJ [.ref d,.int m] (put G r (kO lits)) (fun y G2=>kM (.ref r) y G2 Q) XN :=
 ⟨sz _ (by unfold yE;rw [zzM];omega),fun r hr=>ziI (F.new hr) zzT hm h0 h9 fun k hk G' F'=>q k hk G' (F'.sub fun f hf=>List.mem_cons_of_mem _ hf)⟩
theorem ix_br {b:Int} (b0:0<=b) (b1:b<2) (q:∀ u:Tk,(u=.lp\/u=.rp)->Q (.str u.s) G):kM (.str "()") (.int b) G Q:=by
 have:b=0\/b=1:=by omega
 refine ⟨sz _ (by decide +kernel),?_⟩;rcases this with rfl|rfl
 .rw [show kK ("()" : Str).cps.toList 0=some 40 by decide +kernel];have:=q .lp (.inl rfl);rw [show Tk.s .lp=⟨#[40]⟩ by decide +kernel] at this;exact this
 .rw [show kK ("()" : Str).cps.toList 1=some 41 by decide +kernel];have:=q .rp (.inr rfl);rw [show Tk.s .rp=⟨#[41]⟩ by decide +kernel] at this;exact this
theorem cutK {r q:Addr} {A R:List Tk} {b:Nat} (F:Fk G0 G d l fs) (hr:(r,kO R)∈fs) (hq:(q,kO A)∈fs) (hl:A.length+R.length<=2000) (h:∀ z G',Fk G0 G' d l [(z,kO (A++R.drop b))]->Q (.ref z) G') :
  slR (.ref r) (some (b:Int)) none G fun y G2=>wW .Add (.ref q) y G2 Q :=
 zj7 (R:=R) F hr fun r2 G2 F2=>addK (A:=A) (B:=R.drop b) F2 (List.mem_cons_of_mem _ hq) zzT (by rw [List.length_drop];omega) fun z G3 F3=>h z G3 (F3.sub fun f hf=>by
  rw [zzO hf];exact zzT)
theorem zcQ {R:List Tk} {stab:Hw->Prop} {turn:W->Hw->(Option W->Hw->Prop)->Prop} (f:Tk->Bool) (F:Fk G0 G d l fs) (hl:R.length<=1000) (st:∀ G',zJ [] G G'->stab G')
  (step:∀ (i:Nat) (k:Tk) G' (κ:Option W->Hw->Prop),k∈R->κ (if f k=true then some (.int (i:Int)) else none) G'->turn (.tup [.int (i:Int),.str k.s]) G' κ)
  (fin:∀ q G',Fk G0 G' d l ((q,.lst (tN (pls f R)))::fs)->Q (.ref q) G'):lcR (enW 0 (yE R)) stab G turn Q:=by
 have lenE:(enW 0 (yE R)).length=R.length:=by simp [enW,yE]
 refine zjt (fun i=>if f (R.getD i .lp)=true then some (.int (i:Nat)) else none) (by rw [lenE];omega) st (fun i e G' k hw kp hk=>?_) (fun G18 q kp hq'=>?_)
 .have hi:i<R.length:=by
   have:=(List.getElem?_eq_some_iff.mp hw).1
   rwa [lenE] at this
  have ei:R[i]?=some R[i]:=List.getElem?_eq_getElem hi
  have ew:e=.tup [.int (i:Nat),.str R[i].s]:=by
   unfold enW yE at hw;rw [List.getElem?_map,List.getElem?_range (by rw [zzM];exact hi)] at hw;simp only [Option.map_some,List.getD,List.getElem?_map,ei,Option.getD_some,Int.add_zero] at hw;exact (Option.some.inj hw).symm
  subst ew;have:=hk G' kp;rw [show R.getD i .lp=R[i] by simp [List.getD,ei]] at this;exact step i R[i] G' k (List.getElem_mem hi) this
 .have eL:(List.range (enW 0 (yE R)).length).filterMap (fun i=>if f (R.getD i .lp)=true then some (W.int (i:Nat)) else none)=tN (pls f R):=by
   rw [lenE,zaI (fun i:Nat=>W.int (i:Nat)) (fun i=>f (R.getD i .lp))];rfl
  rw [eL];exact fin q _ ((F.keep kp).new hq')
end
theorem zhi {G:Hw} {p r:Addr} {xs:List Nat} (e:G p=some (.lst (tN xs))) (h:G r=some (.lst [])):eqG G (.ref p) (.ref r)=some (decide (xs=[])):=by
 have pu:∀ l:List Nat,wM (tN l)=true:=by
  intro l
  induction l with
  |nil=>rfl
  |cons a l ih=>simp [tN,wM,pur] at ih ⊢;exact ih
 simp only [eqG,kT e,kT h,pu,wM,qO,Bool.true_and,Nat.min_zero,Nat.zero_le,decide_true,if_true]
 cases xs with
 |nil=>rfl
 |cons a l=>rfl
theorem iteN {Γ:Ctx3} {G0 G:Hw} {d l q:Addr} {fs:List (Addr×O)} {v:Nat} {m y:Int} {xs:List Nat} {body:ISs} {D:End3} {σ:wI} (F:Fk G0 G d l fs) (hq:(q,.lst (tN xs))∈fs) (s5:σ[5]?=some (some (.int y))) (sv:σ[v]?=some (some (.ref q)))
  (h1:xs≠[]->∀ G',Fk G0 G' d l fs->yX Γ XN body D σ G') (h2:∀ G',Fk G0 G' d l fs->D.nx σ G'):zS Γ XN (.ite (.and (.cmp .Eq (.var 5) (.con (.int m))) (.cmp .NotEq (.var v) (.lst .nil))) body .nil) D σ G:=by
 ((try dsimp only [zS,zT,zP,zH,zE,zB,yZ,zQ,zW,zO,zV,zY,zU,zR,zL,zN,zD,zM,gZ,gS,tZ,tS]);try simp only [s5,sv,yG,qZ])
 by_cases e:y=m
 .simp only [decide_eq_true e,if_true];refine ⟨sz 0 (by decide),fun p hp=>?_⟩;have F1:=F.new (o:=.lst []) hp;rw [zhi (F1.fc.at (List.mem_cons_of_mem _ hq)) (F1.fc.at zzT)];have F2:=F1.sub (gs:=fs) fun f hf=>List.mem_cons_of_mem _ hf
  by_cases hx:xs=[]
  .simp only [decide_eq_true hx,Bool.not_true,zzB,if_false];exact nV (h2 _ F2)
  .simp only [decide_eq_false hx,Bool.not_false,if_true];exact h1 hx _ F2
 .simp only [decide_eq_false e,zzB,if_false];exact nV (h2 _ F)
theorem iteE {Γ:Ctx3} {G:Hw} {m y:Int} {body:ISs} {D:End3} {σ:wI} (s5:σ[5]?=some (some (.int y))) (h1:yX Γ XN body D σ G) (h2:D.nx σ G):zS Γ XN (.ite (.cmp .Eq (.var 5) (.con (.int m))) body .nil) D σ G:=by
 ((try dsimp only [zS,zT,zP,zH,zE,zB,yZ,zQ,zW,zO,zV,zY,zU,zR,zL,zN,zD,zM,gZ,gS,tZ,tS]);try simp only [s5,yG,qZ])
 by_cases e:y=m
 .simp only [decide_eq_true e,if_true];exact h1
 .simp only [decide_eq_false e,zzB,if_false];exact nV h2
section
variable {G0 G : Hw} {d l r : Addr} {fs : List (Addr × O)} {Q : Q3} {R : List Tk}
theorem insK {a b:Nat} {r1 p:Addr} {M:List Tk} (F:Fk G0 G d l ((r1,kO (R.take a))::(r,kO R)::fs)) (hp:G p=none) (lR:R.length<=100) (lM:M.length<=2) (h:∀ z G',Fk G0 G' d l [(z,kO (R.take a++M++R.drop b))]->Q (.ref z) G') :
  wW .Add (.ref r1) (.ref p) (put G p (kO M)) fun x G1=>slR (.ref r) (some (b:Int)) none G1 fun y G2=>wW .Add x y G2 Q :=
 addK (A:=R.take a) (B:=M) (F.new (o:=kO M) hp) (by simp) (by simp) (by rw [List.length_take];omega) fun r2 G9 F9=>cutK (A:=R.take a++M) (R:=R) F9 (by simp) (by simp) (by rw [zzW,List.length_take];omega) h
theorem rmK {a b:Nat} (F:Fk G0 G d l ((r,kO R)::fs)) (lR:R.length<=100) (h:∀ z G',Fk G0 G' d l [(z,kO (R.take a++R.drop b))]->Q (.ref z) G') :
  slR (.ref r) none (some (a:Int)) G fun x G1=>slR (.ref r) (some (b:Int)) none G1 fun y G2=>wW .Add x y G2 Q :=
 tE (R:=R) F zzT fun r1 G9 F9=>cutK (A:=R.take a) (R:=R) F9 (by simp) (by simp) (by rw [List.length_take];omega) h
end
section
variable {K : yS} {CQ : Nat → Addr}
theorem zge {n:Nat} (hn:23<=n) {ws:List W} {G:Hw} {Q:Q3} (h:zd2 ws G Q XN):yX (yI K CQ n) XN qW { nx:=fun _ G'=>Q .non G',rt:=Q } (yO kD ws) G:=by
 obtain ⟨d,l,r,t,rfl,D,nr,gr,ok,ts,h⟩:=h;have e1:(yI K CQ n).fn[1]?=some eLen:=sB 1 hn rfl;have e7:(yI K CQ n).fn[7]?=some zdk:=sB 7 hn rfl;have i1:(yI K CQ n).it[1]?=some eEn:=rfl;have z1:1<=sizeLine:=sz 1 (by decide);have z2:2<=sizeLine:=sz 2 (by decide);have wk:∀ k∈tw t,pE k:=fun k hk=>ok_k (zh1 t ok k hk);have wl:(tw t).length<=100:=Nat.le_trans (tQ t) (by omega);obtain ⟨cN,cR⟩:=zaV (zdH t ok)
 clear ok ts
 have F0:Fk G G d l [(r,kO (tw t))]:=⟨⟨D,fun f hf=>by rw [zzO hf];exact ⟨gr,nr⟩⟩,zJ.refl⟩
 clear gr nr D
 generalize tw t=R at *;have lW:(yE R).length=R.length:=by simp [yE]
 have fin:∀ (a b:Nat) (M:List Tk),a<=b->(∀ k∈M,pE k)->M.length<=2->Bad (R.take a++M++R.drop b)->∀ z G',Fk G G' d l [(z,kO (R.take a++M++R.drop b))]->Q (.ref z) G':=by
  intro a b M ab hM lM bad z G' F;refine h z _ G' bad (fun k hk=>?_) ?_ (F.fc.ob _ zzT).2 (F.fc.at zzT) F.kp F.fc.dl
  .rcases List.mem_append.mp hk with hk|hk
   .rcases List.mem_append.mp hk with hk|hk
    .exact wk k (List.mem_of_mem_take hk)
    .exact hM k hk
   .exact wk k (List.mem_of_mem_drop hk)
  .simp only [zzW,List.length_take,List.length_drop];omega
 have fin':∀ (a b:Nat),a<=b->Bad (R.take a++R.drop b)->∀ z G',Fk G G' d l [(z,kO (R.take a++R.drop b))]->Q (.ref z) G':=fun a b ab bad=>by
  have:=fin a b [] ab (fun k hk=>nomatch hk) (by simp);rw [List.append_nil] at this;exact this bad
 have put0:∀ a:Nat,∃ n1 o1 r1 l1 n2 o2 r2 l2,Ct (R.take a) n1 o1 r1 l1/\Ct (R.drop a) n2 o2 r2 l2/\n1+n2=o1+o2+1/\r1+r2=l1+l2:=fun a=>by
  have:=(ct (R.take a)).app (ct (R.drop a));rw [List.take_append_drop] at this;exact ⟨_,_,_,_,_,_,_,_,ct _,ct _,by rw [← this.n,← this.o];exact cN,by rw [← this.r,← this.l];exact cR⟩
 have put1:∀ (a:Nat) (k:Tk),R[a]?=some k->∃ n1 o1 r1 l1 n2 o2 r2 l2,Ct (R.take a) n1 o1 r1 l1/\Ct (R.drop (a+1)) n2 o2 r2 l2/\n1+nN [k]+n2=o1+ops [k]+o2+1/\r1+nR [k]+r2=l1+nL [k]+l2:=fun a k hk=>by
  have:=((ct (R.take a)).app (ct [k])).app (ct (R.drop (a+1)));rw [List.append_assoc,List.singleton_append,← zbo hk,List.take_append_drop] at this;exact ⟨_,_,_,_,_,_,_,_,ct _,ct _,by rw [← this.n,← this.o];exact cN,by rw [← this.r,← this.l];exact cR⟩
 have lx:∀ f,(tN (pls f R)).length=(pls f R).length:=fun f=>List.length_map _
 have nn:0<(pls isN R).length:=by
  obtain ⟨i,x,e⟩:=zcC (l:=R) (by omega);exact List.length_pos_of_mem (za7.mpr ⟨_,e,rfl⟩)
 have pl_le:∀ f,(pls f R).length<=100:=fun f=>Nat.le_trans (List.length_filter_le _ _) (by rw [List.length_range];exact wl);show yX (yI K CQ n) XN qW { nx:=fun _ G'=>Q .non G',rt:=Q } [some (.ref d),some (.ref r),none,none,none,none,none,none,none,none] G;simp only [qW];refine yH ?_
 ((try dsimp only [zS,zT,zP,zH,zE,zB,yZ,zQ,zW,zO,zV,zY,zU,zR,zL,zN,zD,zM,gZ,gS,tZ,tS]);try simp only [i1])
 refine ⟨yE R,seqL (F0.fc.at (p:=r) (o:=kO R) (by simp)),?_⟩;refine zcQ (R:=R) isN F0 (by omega) (fun G' k=>seqL (k0 k (F0.fc.at (p:=r) (o:=kO R) (by simp)))) (fun i k G' κ hk hκ=>?_) fun q1 G1 F1=>?_
 .simp only [pZ,List.length_cons,List.length_nil,List.replicate,zzV,List.append_nil,Nat.zero_add,Nat.reduceAdd]
  ((try dsimp only [zS,zT,zP,zH,zE,zB,yZ,zQ,zW,zO,zV,zY,zU,zR,zL,zN,zD,zM,gZ,gS,tZ,tS]);try simp only [yG,kY,L3.inR,if_true])
  refine ⟨sz _ (by decide),⟨by simp [pur],by decide,Nat.le_trans (Nat.min_le_right _ _) (by simp [dep])⟩,?_⟩;have e:=any_n (wk k hk);simp only [zzU,zzV] at e;rw [e,Bool.not_not];cases hb:isN k<;>rw [hb] at hκ<;>simpa using hκ
 clear F0
 refine yH ?_
 ((try dsimp only [zS,zT,zP,zH,zE,zB,yZ,zQ,zW,zO,zV,zY,zU,zR,zL,zN,zD,zM,gZ,gS,tZ,tS]);try simp only [i1])
 refine ⟨yE R,seqL (F1.fc.at (p:=r) (o:=kO R) (by simp)),?_⟩;refine zcQ (R:=R) isO F1 (by omega) (fun G' k=>seqL (k0 k (F1.fc.at (p:=r) (o:=kO R) (by simp)))) (fun i k G' κ hk hκ=>?_) fun q2 G2 F2=>?_
 .simp only [pZ,List.length_cons,List.length_nil,List.replicate,zzV,List.append_nil,Nat.zero_add,Nat.reduceAdd]
  ((try dsimp only [zS,zT,zP,zH,zE,zB,yZ,zQ,zW,zO,zV,zY,zU,zR,zL,zN,zD,zM,gZ,gS,tZ,tS]);try simp only [yG,kY,L3.inR,zzB,if_false])
  refine ⟨sz _ (by decide),⟨by simp [pur],by decide,Nat.le_trans (Nat.min_le_right _ _) (by simp [dep])⟩,?_⟩;have e:=any_o (wk k hk);simp only [zzU,zzV] at e;rw [e];cases hb:isO k<;>rw [hb] at hκ<;>simpa using hκ
 clear F1
 refine yH ?_
 ((try dsimp only [zS,zT,zP,zH,zE,zB,yZ,zQ,zW,zO,zV,zY,zU,zR,zL,zN,zD,zM,gZ,gS,tZ,tS]);try simp only [i1])
 refine ⟨yE R,seqL (F2.fc.at (p:=r) (o:=kO R) (by simp)),?_⟩;refine zcQ (R:=R) vN F2 (by omega) (fun G' k=>seqL (k0 k (F2.fc.at (p:=r) (o:=kO R) (by simp)))) (fun i k G' κ hk hκ=>?_) fun q3 G3 F3=>?_
 .simp only [pZ,List.length_cons,List.length_nil,List.replicate,zzV,List.append_nil,Nat.zero_add,Nat.reduceAdd]
  ((try dsimp only [zS,zT,zP,zH,zE,zB,yZ,zQ,zW,zO,zV,zY,zU,zR,zL,zN,zD,zM,gZ,gS,tZ,tS]);try simp only [yG,kY,L3.inR,zzB,if_false])
  refine ⟨sz _ (by decide),⟨by simp [pur],by decide,Nat.le_trans (Nat.min_le_right _ _) (by simp [dep])⟩,?_⟩;have e:=any_b (wk k hk);simp only [zzU,zzV] at e;rw [e];cases hb:vN k<;>rw [hb] at hκ<;>simpa using hκ
 clear F2
 refine yH ?_
 ((try dsimp only [zS,zT,zP,zH,zE,zB,yZ,zQ,zW,zO,zV,zY,zU,zR,zL,zN,zD,zM,gZ,gS,tZ,tS]);try simp only [e7])
 refine ⟨d,l,11,rfl,F3.fc.dl,by decide,fun y G4 y0 y1 k4 D4=>?_⟩;have F4:=F3.draw k4 D4
 clear F3 k4 D4
 refine yH ?_
 ((try dsimp only [zS,zT,zP,zH,zE,zB,yZ,zQ,zW,zO,zV,zY,zU,zR,zL,zN,zD,zM,gZ,gS,tZ,tS]);try simp only [e7,e1,sQ,sR,F4.fc.at (p:=r) (o:=kO R) (by simp)])
 refine addI ?_;refine ⟨d,l,_,rfl,F4.fc.dl,(by rw [lW];omega),fun a G5 a0 a1 k5 D5=>?_⟩;have F5:=F4.draw k5 D5
 clear F4 k5 D5
 have a1:a<(R.length:Int)+1:=by rwa [lW] at a1
 obtain ⟨a,rfl⟩:=Int.eq_ofNat_of_zero_le a0;have aR:a<=R.length:=by omega
 clear a0 a1
 refine yH ?_
 ((try dsimp only [zS,zT,zP,zH,zE,zB,yZ,zQ,zW,zO,zV,zY,zU,zR,zL,zN,zD,zM,gZ,gS,tZ,tS]);try simp only [e7,e1,sQ,sR,F5.fc.at (p:=q1) (o:=.lst (tN (pls isN R))) (by simp)])
 refine F5.pick (xs:=pls isN R) (by simp) (by rw [lx]) (by rw [lx];omega) (by rw [lx];have:=pl_le isN;omega) fun i hi G6 F6=>?_
 clear F5
 replace F6:=F6.sub (gs:=[(r,kO R),(q2,.lst (tN (pls isO R))),(q3,.lst (tN (pls vN R)))]) (by simp);obtain ⟨k,hk,ik⟩:=za7.mp hi;obtain ⟨x,rfl⟩:∃ x,k=.nm x:=by cases k with|nm x=>exact ⟨x,rfl⟩|_=>cases ik
 have iR:=(List.getElem?_eq_some_iff.mp hk).1;obtain ⟨m1,m2,m3,m4,m5,m6,m7,m8,c1,c2,s1,s2⟩:=put1 i _ hk;simp only [nN,ops,nR,nL] at s1 s2;obtain ⟨n1,n2,n3,n4,n5,n6,n7,n8,d1,d2,u1,u2⟩:=put0 a;have nmk:pE (.nm x):=wk _ (List.mem_of_getElem? hk);have one:∀ {u:Tk},pE u->∀ k∈[u],pE k:=fun h k hk=>by rw [zzO hk];exact h
 have lone:∀ u:Tk,[u].length<=2:=fun _=>by show 1<=2;decide
 refine yH (iteE rfl ?_ ?_)
 .refine yH ?_
  ((try dsimp only [zS,zT,zP,zH,zE,zB,yZ,zQ,zW,zO,zV,zY,zU,zR,zL,zN,zD,zM,gZ,gS,tZ,tS]);try simp only [e7])
  refine tE (R:=R) F6 zzT fun r1 G7 F7=>⟨d,l,2,rfl,F7.fc.dl,by decide,fun b G8 b0 b1 k8 D8=>ix_br b0 b1 fun u hu=>⟨z1,fun p hp=>insK (M:=[u]) (F7.draw k8 D8) hp wl (lone u) (fin a a [u] (zzR _) (one (by rcases hu with rfl|rfl<;>trivial)) (lone u) ?_)⟩⟩;have c:=(d1.app (ct [u])).app d2;refine zkd ?_;rw [c.r,c.l];rcases hu with rfl|rfl<;>simp only [nR,nL]<;>omega
 refine yH (iteE rfl ?_ ?_)
 .refine yH ?_
  (try dsimp only [zS,zT,zP,zH,zE,zB,yZ,zQ,zW,zO,zV,zY,zU,zR,zL,zN,zD,zM,gZ,gS,tZ,tS])
  refine tE (R:=R) F6 zzT fun r1 G7 F7=>⟨z2,fun p hp=>insK (M:=[.lp,.rp]) F7 hp wl (zzR 2) (fin a a [.lp,.rp] (zzR _) (by intro k hk;simp at hk;rcases hk with rfl|rfl<;>trivial) (zzR 2) ?_)⟩;rintro ⟨_,u,ac⟩;refine zgL (a:=R.take a) (b:=R.drop a) (t:=u) ?_;simpa using ac
 refine yH (iteN (xs:=pls vN R) F6 (by simp) rfl rfl (fun ne G7 F7=>?_) fun G7 F7=>?_)
 .refine yH ?_
  ((try dsimp only [zS,zT,zP,zH,zE,zB,yZ,zQ,zW,zO,zV,zY,zU,zR,zL,zN,zD,zM,gZ,gS,tZ,tS]);try simp only [e7,e1,sQ,sR,F7.fc.at (p:=q3) (o:=.lst (tN (pls vN R))) (by simp)])
  refine F7.pick (xs:=pls vN R) (by simp) (by rw [lx]) (by rw [lx];have:=List.length_pos_iff.mpr ne;omega) (by rw [lx];have:=pl_le vN;omega) fun j hj G8 F8=>?_;obtain ⟨k,hjk,jk⟩:=za7.mp hj;refine yH ?_
  (try dsimp only [zS,zT,zP,zH,zE,zB,yZ,zQ,zW,zO,zV,zY,zU,zR,zL,zN,zD,zM,gZ,gS,tZ,tS])
  refine rmK (b:=j+1) F8 wl (fin' j (j+1) (Nat.le_succ _) ?_);obtain ⟨_,_,_,_,_,_,_,_,c1,c2,s1,s2⟩:=put1 j k hjk;have c:=c1.app c2;refine zkd ?_;rw [c.r,c.l]
  cases k with
  |lp=>simp only [nR,nL] at s2;omega
  |rp=>simp only [nR,nL] at s2;omega
  |_=>cases jk
 clear F6
 refine yH (iteE rfl ?_ ?_)
 .refine yH ?_
  (try dsimp only [zS,zT,zP,zH,zE,zB,yZ,zQ,zW,zO,zV,zY,zU,zR,zL,zN,zD,zM,gZ,gS,tZ,tS])
  refine rmK (b:=i+1) F7 wl (fin' i (i+1) (Nat.le_succ _) ?_);have c:=c1.app c2;refine zdC ?_;rw [c.n,c.o];omega
 refine yH (iteE rfl ?_ ?_)
 .refine yH ?_
  (try dsimp only [zS,zT,zP,zH,zE,zB,yZ,zQ,zW,zO,zV,zY,zU,zR,zL,zN,zD,zM,gZ,gS,tZ,tS])
  refine tE (R:=R) F7 zzT fun r1 G9 F9=>ixK (R:=R) F9 (by simp) hk (ixK (R:=R) F9 (by simp) hk ⟨z2,fun p hp=>insK (b:=i+1) (M:=[.nm x,.nm x]) F9 hp wl (zzR 2) (fin i (i+1) [.nm x,.nm x] (Nat.le_succ _) (by intro k hk;simp at hk;rw [hk];exact nmk) (zzR 2) ?_)⟩);have c:=(c1.app (ct [.nm x,.nm x])).app c2;refine zdC ?_;rw [c.n,c.o];simp only [nN,ops];omega
 refine yH (iteE rfl ?_ ?_)
 .refine yH ?_
  ((try dsimp only [zS,zT,zP,zH,zE,zB,yZ,zQ,zW,zO,zV,zY,zU,zR,zL,zN,zD,zM,gZ,gS,tZ,tS]);try simp only [e7])
  refine tE (R:=R) F7 zzT fun r1 G9 F9=>ziJ (lits:=[.op 0,.op 1,.op 2,.nt]) F9 rfl (by decide) (by decide) fun u hu G10 F10=>⟨z1,fun p hp=>insK (b:=i+1) (M:=[u]) F10 hp wl (lone u) (fin i (i+1) [u] (Nat.le_succ _) (one ?_) (lone u) ?_)⟩
  .simp only [List.mem_cons,List.not_mem_nil,or_false] at hu;rcases hu with rfl|rfl|rfl|rfl<;>trivial
  simp only [List.mem_cons,List.not_mem_nil,or_false] at hu;have c:=(c1.app (ct [u])).app c2;refine zdC ?_;rw [c.n,c.o];rcases hu with rfl|rfl|rfl|rfl<;>simp only [nN,ops]<;>omega
 refine yH (iteE rfl ?_ ?_)
 .refine yH ?_
  ((try dsimp only [zS,zT,zP,zH,zE,zB,yZ,zQ,zW,zO,zV,zY,zU,zR,zL,zN,zD,zM,gZ,gS,tZ,tS]);try simp only [e7])
  refine tE (R:=R) F7 zzT fun r1 G9 F9=>ziJ (lits:=[.op 0,.op 1,.op 2]) F9 rfl (by decide) (by decide) fun u hu G10 F10=>⟨z1,fun p hp=>insK (M:=[u]) F10 hp wl (lone u) (fin a a [u] (zzR _) (one ?_) (lone u) ?_)⟩
  .simp only [List.mem_cons,List.not_mem_nil,or_false] at hu;rcases hu with rfl|rfl|rfl<;>trivial
  simp only [List.mem_cons,List.not_mem_nil,or_false] at hu;have c:=(d1.app (ct [u])).app d2;refine zdC ?_;rw [c.n,c.o];rcases hu with rfl|rfl|rfl<;>simp only [nN,ops]<;>omega
 refine yH (iteN (xs:=pls isO R) F7 (by simp) rfl rfl (fun ne G8 F8=>?_) fun G8 F8=>?_)
 .refine yH ?_
  ((try dsimp only [zS,zT,zP,zH,zE,zB,yZ,zQ,zW,zO,zV,zY,zU,zR,zL,zN,zD,zM,gZ,gS,tZ,tS]);try simp only [e7,e1,sQ,sR,F8.fc.at (p:=q2) (o:=.lst (tN (pls isO R))) (by simp)])
  refine F8.pick (xs:=pls isO R) (by simp) (by rw [lx]) (by rw [lx];have:=List.length_pos_iff.mpr ne;omega) (by rw [lx];have:=pl_le isO;omega) fun j hj G9 F9=>?_;obtain ⟨k,hjk,jk⟩:=za7.mp hj;refine yH ?_
  (try dsimp only [zS,zT,zP,zH,zE,zB,yZ,zQ,zW,zO,zV,zY,zU,zR,zL,zN,zD,zM,gZ,gS,tZ,tS])
  refine rmK (b:=j+1) F9 wl (fin' j (j+1) (Nat.le_succ _) ?_);obtain ⟨_,_,_,_,_,_,_,_,c1,c2,s1,s2⟩:=put1 j k hjk;have c:=c1.app c2;refine zdC ?_;rw [c.n,c.o]
  cases k with
  |op _=>simp only [nN,ops] at s1;omega
  |_=>cases jk
 clear F7
 refine yH (iteE rfl ?_ ?_)
 .refine yH ?_
  (try dsimp only [zS,zT,zP,zH,zE,zB,yZ,zQ,zW,zO,zV,zY,zU,zR,zL,zN,zD,zM,gZ,gS,tZ,tS])
  refine addI (tE (R:=R) (a:=i+1) F8 zzT fun r1 G9 F9=>⟨z1,fun p hp=>insK (b:=i+1) (M:=[.nt]) F9 hp wl (lone _) (fin (i+1) (i+1) [.nt] (zzR _) (one trivial) (lone _) ?_)⟩);rintro ⟨_,u,ac⟩;refine zi9 (a:=R.take i) (b:=R.drop (i+1)) (t:=u) (x:=x) ?_;rw [List.take_succ_eq_append_getElem iR,(List.getElem?_eq_some_iff.mp hk).2] at ac;simpa using ac
 refine yH ?_
 (try dsimp only [zS,zT,zP,zH,zE,zB,yZ,zQ,zW,zO,zV,zY,zU,zR,zL,zN,zD,zM,gZ,gS,tZ,tS])
 refine ⟨sz _ (by decide),fun o1 ho1=>?_⟩;have F9:=F8.new (o:=kO ((odds.take 16).map Tk.nm)) ho1
 clear F8
 refine yH ?_
 ((try dsimp only [zS,zT,zP,zH,zE,zB,yZ,zQ,zW,zO,zV,zY,zU,zR,zL,zN,zD,zM,gZ,gS,tZ,tS]);try simp only [e7])
 refine ⟨z2,fun o2 ho2=>?_⟩;have F10:=F9.new (o:=kO [.nm "NOT", .nm "+1"]) ho2;refine addK (A:=(odds.take 16).map Tk.nm) (B:=[.nm "NOT", .nm "+1"]) F10 (by simp) (by simp) (by decide) fun o3 G11 F11=>?_;refine ziI (lits:=(odds.take 16).map Tk.nm++[.nm "NOT", .nm "+1"]) F11 (by simp) rfl (by decide) (by decide) fun u hu G12 F12=>?_;replace F12:=F12.sub (gs:=[(r,kO R)]) (by simp)
 clear F9 F10 F11
 obtain ⟨w,hw,rfl⟩:∃ w∈odds,u=.nm w:=by
  have e:(odds.take 16).map Tk.nm++[.nm "NOT", .nm "+1"]=odds.map Tk.nm:=rfl;rw [e] at hu;obtain ⟨w,hw,rfl⟩:=zzP hu;exact ⟨w,hw,rfl⟩
 obtain ⟨wok,wno⟩:=zi6 hw;refine yH (iteE rfl ?_ ?_)
 .refine yH ?_
  (try dsimp only [zS,zT,zP,zH,zE,zB,yZ,zQ,zW,zO,zV,zY,zU,zR,zL,zN,zD,zM,gZ,gS,tZ,tS])
  exact tE (R:=R) F12 zzT fun r1 G9 F9=>⟨z1,fun p hp=>insK (b:=i+1) (M:=[.nm w]) F9 hp wl (lone _) (fin i (i+1) [.nm w] (Nat.le_succ _) (one wok) (lone _) (zkc (x:=w) (by simp) wno))⟩
 refine yH ?_
 (try dsimp only [zS,zT,zP,zH,zE,zB,yZ,zQ,zW,zO,zV,zY,zU,zR,zL,zN,zD,zM,gZ,gS,tZ,tS])
 exact tE (R:=R) F12 zzT fun r1 G9 F9=>⟨z1,fun p hp=>insK (M:=[.nm w]) F9 hp wl (lone _) (fin a a [.nm w] (zzR _) (one wok) (lone _) (zkc (x:=w) (by simp) wno))⟩
end
abbrev fx5 (CQ:Nat->Addr):List Fx3:=[⟨"begin_side", yN CQ true⟩,⟨"go_on", yN CQ false⟩,⟨"read_joined", fE CQ⟩,⟨"read_word", bD CQ⟩,⟨"read_saying", fF CQ⟩]
section
variable {K : yS} {CQ : Nat → Addr} {T : Addr}
theorem isxC {G:Hw} {Q:Q3} (cl:Cl K CQ) (i:Nat) (hi:i∈[1,3,9,4,6,8,5,2,7]) (q:Q (.bl false) G):isxS K [xT CQ,.ref (CQ i)] G Q:=⟨cl.xc,cl.xk,false,cl.no i hi,q⟩
theorem memN {G:Hw} {r:Addr} {n:Nat} {Q:Q3} (h:G r=some (.lst (List.replicate n (.bl false)))) (q:Q (.bl true) G):kY true (.bl true) (.ref r) G Q:=by
 have e1:∀ n,wM (List.replicate n (W.bl false))=true:=fun n=>by induction n with|zero=>rfl|succ n ih=>simp only [List.replicate_succ,wM,pur,ih,Bool.and_self]
 have e2:((List.replicate n (W.bl false)).any fun w=>wU w (.bl true))=false:=by
  rw [List.any_eq_false];intro w hw;rw [(List.mem_replicate.mp hw).2];simp [wU]
 simp only [kY,h,L3.inR];refine ⟨⟨rfl,e1 n,?_⟩,?_⟩
 .show min _ 0<=150;omega
 .rw [e2];exact q
theorem zgl {n:Nat} (hn:23<=n) (cl:Cl K CQ) {ws:List W} {G:Hw} {Q:Q3} (h:zd3 ws G Q XN):yJ (yI K CQ n) (wN CQ (fx5 CQ) T) jH (fun _ _ _=>False) { nx:=fun _ G'=>Q .non G',rt:=Q } (yO qF ws) G:=by
 obtain ⟨w,rfl,hw,h⟩:=h;have z3:=sz 3 (by decide);have g8:(yI K CQ n).gl[8]?=some (("ValueError" : Str),.ty "ValueError"):=rfl;have g9:(yI K CQ n).gl[9]?=some (("NoText" : Str),.ref (CQ 0)):=rfl;have g10:(yI K CQ n).gl[10]?=some (("NoBook" : Str),.ref (CQ 1)):=rfl;have g11:(yI K CQ n).gl[11]?=some (("NotLet" : Str),.ref (CQ 2)):=rfl;have g12:(yI K CQ n).gl[12]?=some (("NoMove" : Str),.ref (CQ 3)):=rfl;have g13:(yI K CQ n).gl[13]?=some (("NoPlan" : Str),.ref (CQ 4)):=rfl;have g14:(yI K CQ n).gl[14]?=some (("NoTalker" : Str),.ref (CQ 5)):=rfl;have g15:(yI K CQ n).gl[15]?=some (("NoPaper" : Str),.ref (CQ 6)):=rfl;have g16:(yI K CQ n).gl[16]?=some (("NoWeb" : Str),.ref (CQ 7)):=rfl;have g17:(yI K CQ n).gl[17]?=some (("NoRow" : Str),.ref (CQ 8)):=rfl;have g18:(yI K CQ n).gl[18]?=some (("NoName" : Str),.ref (CQ 9)):=rfl;have e4:(yI K CQ n).fn[4]?=some (eIsx K):=sB 4 hn rfl;have f4:(wN CQ (fx5 CQ) T).fx[4]?=some ⟨"read_saying", fF CQ⟩:=rfl;have t0:(wN CQ (fx5 CQ) T).tr[0]?=some ⟨"TalkError", T,[CQ 0]⟩:=rfl;show yJ (yI K CQ n) (wN CQ (fx5 CQ) T) jH (fun _ _ _=>False) { nx:=fun _ G'=>Q .non G',rt:=Q } [some w,none,none,none] G;simp only [jH];refine qU ?_;simp only [yC]
 (try dsimp only [zS,zT,zP,zH,zE,zB,yZ,zQ,zW,zO,zV,zY,zU,zR,zL,zN,zD,zM,gZ,gS,tZ,tS])
 refine qU ?_;simp only [yC,t0];refine qU ?_;simp only [yC]
 ((try dsimp only [zS,zT,zP,zH,zE,zB,yZ,zQ,zW,zO,zV,zY,zU,zR,zL,zN,zD,zM,gZ,gS,tZ,tS]);try simp only [f4])
 have key:∀ (Q':Q3) (E:X3),(∀ G',zJ [] G G'->E (xT CQ) G')->fF CQ [w] G Q' E:=fun Q' E hE=>by
  rcases hw with hw|⟨x,tk,rfl,xl,tl',tks,hw,bad⟩
  .exact .inl ⟨w,rfl,hw,hE⟩
  .exact .inr ⟨tk,x,rfl,tks,tl',xl,hw,fun o t a=>absurd ⟨o,t,a⟩ bad,fun _=>hE⟩
 refine key _ _ fun G1 k1=>?_;refine ⟨CQ 0,[],[],rfl,List.mem_singleton.mpr rfl,?_⟩
 (try dsimp only [zS,zT,zP,zH,zE,zB,yZ,zQ,zW,zO,zV,zY,zU,zR,zL,zN,zD,zM,gZ,gS,tZ,tS])
 refine qU ?_;simp only [yC]
 ((try dsimp only [zS,zT,zP,zH,zE,zB,yZ,zQ,zW,zO,zV,zY,zU,zR,zL,zN,zD,zM,gZ,gS,tZ,tS]);try simp only [e4,g10,g12,g18])
 refine isxC cl 1 (by simp) (isxC cl 3 (by simp) (isxC cl 9 (by simp) ⟨z3,fun r1 hr1=>?_⟩));have a1:(put G1 r1 (.lst (List.replicate 3 (.bl false)))) r1=some (.lst (List.replicate 3 (.bl false))):=zK;have q1:zJ [] G (put G1 r1 (.lst (List.replicate 3 (.bl false)))):=k1.trans (zJ.new hr1);show yJ _ _ _ _ _ _ (put G1 r1 (.lst (List.replicate 3 (.bl false))));generalize put G1 r1 (.lst (List.replicate 3 (.bl false)))=G2 at a1 q1 ⊢;refine qU ?_;simp only [yC]
 ((try dsimp only [zS,zT,zP,zH,zE,zB,yZ,zQ,zW,zO,zV,zY,zU,zR,zL,zN,zD,zM,gZ,gS,tZ,tS]);try simp only [e4,g13,g15,g17])
 refine isxC cl 4 (by simp) (isxC cl 6 (by simp) (isxC cl 8 (by simp) ⟨z3,fun r2 hr2=>?_⟩));have b1:=newO (u:=.lst [.bl false,.bl false,.bl false]) hr2 a1;simp only [wW,b1,zK];refine ⟨sz _ (by show 6<=100000;decide),fun r3 hr3=>?_⟩;have a3:(put (put G2 r2 (.lst [.bl false,.bl false,.bl false])) r3 (.lst (List.replicate 6 (.bl false)))) r3=some (.lst (List.replicate 6 (.bl false))):=zK;have q3:zJ [] G (put (put G2 r2 (.lst [.bl false,.bl false,.bl false])) r3 (.lst (List.replicate 6 (.bl false)))):=(q1.trans (zJ.new hr2)).trans (zJ.new hr3);show yJ _ _ _ _ _ _ (put (put G2 r2 (.lst [.bl false,.bl false,.bl false])) r3 (.lst (List.replicate 6 (.bl false))));generalize put (put G2 r2 (.lst [.bl false,.bl false,.bl false])) r3 (.lst (List.replicate 6 (.bl false)))=G3 at a3 q3 ⊢;refine qU ?_;simp only [yC]
 ((try dsimp only [zS,zT,zP,zH,zE,zB,yZ,zQ,zW,zO,zV,zY,zU,zR,zL,zN,zD,zM,gZ,gS,tZ,tS]);try simp only [e4,g14,g11,g16])
 refine isxC cl 5 (by simp) (isxC cl 2 (by simp) (isxC cl 7 (by simp) ⟨z3,fun r4 hr4=>?_⟩));have b3:=newO (u:=.lst [.bl false,.bl false,.bl false]) hr4 a3;simp only [wW,b3,zK];refine ⟨sz _ (by show 9<=100000;decide),fun r5 hr5=>?_⟩;have a5:(put (put G3 r4 (.lst [.bl false,.bl false,.bl false])) r5 (.lst (List.replicate 9 (.bl false)))) r5=some (.lst (List.replicate 9 (.bl false))):=zK;have q5:zJ [] G (put (put G3 r4 (.lst [.bl false,.bl false,.bl false])) r5 (.lst (List.replicate 9 (.bl false)))):=(q3.trans (zJ.new hr4)).trans (zJ.new hr5);show yJ _ _ _ _ _ _ (put (put G3 r4 (.lst [.bl false,.bl false,.bl false])) r5 (.lst (List.replicate 9 (.bl false))));generalize put (put G3 r4 (.lst [.bl false,.bl false,.bl false])) r5 (.lst (List.replicate 9 (.bl false)))=G5 at a5 q5 ⊢;refine qU ?_;simp only [yC]
 ((try dsimp only [zS,zT,zP,zH,zE,zB,yZ,zQ,zW,zO,zV,zY,zU,zR,zL,zN,zD,zM,gZ,gS,tZ,tS]);try simp only [e4,g9,g8])
 refine ⟨cl.xc,cl.xk,true,cl.one,?_⟩
 ((try dsimp only [zS,zT,zP,zH,zE,zB,yZ,zQ,zW,zO,zV,zY,zU,zR,zL,zN,zD,zM,gZ,gS,tZ,tS]);try simp only [jU,if_true])
 refine ⟨cl.xc,cl.xk,true,cl.val,?_⟩
 ((try dsimp only [zS,zT,zP,zH,zE,zB,yZ,zQ,zW,zO,zV,zY,zU,zR,zL,zN,zD,zM,gZ,gS,tZ,tS]);try simp only [jU,if_true,yG])
 refine memN a5 ?_;exact h _ q5
end
section
variable {G G' : Hw} {d l : Addr} {fs : List (Addr × O)}
theorem getI {lits:List Str} {r:Int} (h0:0<=r) (h1:r<lits.length):∃ x∈lits,kK (lits.map W.str) r=some (.str x):=by
 have hi:r.toNat<lits.length:=by omega
 refine ⟨lits[r.toNat],List.getElem_mem hi,?_⟩;unfold kK nK;rw [if_pos h0,zzM,if_pos h1];simp [hi]
theorem pickV {lits:List Str} {r:Addr} {m:Int} {Q:Q3} (F:Fc G d l fs) (hr:(r,O.lst (lits.map .str))∈fs) (hm:m=lits.length) (h0:0<m) (h9:m<10) (q:∀ x∈lits,∀ G',Fc G' d l fs->Q (.str x) G') :
  vJ [.ref d,.int m] G (fun y G2=>kM (.ref r) y G2 Q) XN:=by
 refine ⟨d,l,m,rfl,F.dl,by omega,fun i G2 i0 i1 k D=>?_⟩;have F2:=F.draw k D;obtain ⟨x,hx,e⟩:=getI (lits:=lits) i0 (by omega);refine ixL (kT (F2.at hr)) ?_;rw [e];exact q x hx G2 F2
theorem ziK {lits:List Str} {m:Int} {Q:Q3} (F:Fc G d l fs) (hm:m=lits.length) (h0:0<m) (h9:m<10) (q:∀ x∈lits,∀ G',Fc G' d l fs->Q (.str x) G') :
  (lits.map W.str).length<=sizeLine/\∀ r,G r=none->vJ [.ref d,.int m] (put G r (.lst (lits.map .str))) (fun y G2=>kM (.ref r) y G2 Q) XN :=
 ⟨sz _ (by rw [zzM];omega),fun r hr=>pickV (F.new hr) zzT hm h0 h9 fun x hx G' F'=>q x hx G' (F'.sub fun f hf=>List.mem_cons_of_mem _ hf)⟩
end
theorem Sy.eqr:∀ t:Sy,wU t.w t.w=true
 | .say _=>by simp [Sy.w,wU,kR]
 | .neg a=>by simp [Sy.w,wU,kR,Sy.eqr a]
 | .two _ a b=>by simp [Sy.w,wU,kR,Sy.eqr a,Sy.eqr b]
theorem zfQ {G:Hw} {t:Sy} (h:t.size<=40):eqG G t.w t.w=some true:=by
 have:=t.dep;have hd:min (dep t.w) (dep t.w)<=150:=by rw [Nat.min_self];omega
 have hp:=t.pur;have he:=t.eqr;obtain ⟨l,e⟩:∃ l,t.w=.tup l:=by cases t<;>exact ⟨_,rfl⟩
 rw [e] at hp he hd ⊢;show (if (L3.pur (.tup l)&&L3.pur (.tup l)&&decide (min (dep (.tup l)) (dep (.tup l))<=150))=true then some (wU (.tup l) (.tup l)) else none)=some true;rw [hp,he,decide_eq_true hd];rfl
abbrev zjp:List Str:=["nota", "orb", "band", "theny", "anot", "andor", "thenor", "notnot"]
abbrev zjq:List Str:=["", " "]
instance (l:List Nat):Decidable (isG l):=by unfold isG;infer_instance
theorem l2:∀ g∈zjq,isG g.cps.toList/\g.length<=3:=by decide +kernel
theorem lsp:isG (" " : Str).cps.toList/\(" " : Str).length<=3:=by decide +kernel
theorem zhJ {l:List Tk} {t u:Sy} (a:Acc l t) (b:Acc l u):t=u:=by
 obtain ⟨_,D,V,e,h⟩:=a;obtain ⟨_,D',V',e',h'⟩:=b;rw [e] at e';cases e';rw [h] at h';cases h';rfl
theorem zgK {G:Hw} {x:Str} (hx:x∈(["", "  ", "\n"]:List Str)):RefW G (.str x):=by
 refine .inr ⟨x,[],rfl,?_,by decide,(fun k hk=>nomatch hk),?_,fun ⟨_,_,a⟩=>zhK a⟩
 .have:∀ x∈(["", "  ", "\n"]:List Str),x.length<=5000:=by decide +kernel
  exact this x hx
 .have:∀ x∈(["", "  ", "\n"]:List Str),L3.wd (ex (nl x.cps.toList))=[]:=by decide +kernel
  exact this x hx
section
variable {K : yS} {CQ : Nat → Addr}
theorem zgR {n:Nat} (hn:26<=n) {a:W} {ns:List Int} {G:Hw} {Q:Q3} {nx:wI->Hw->Prop} (hs:bJ G a ns) (hl:ns.length<=63) (hq:∀ G',Q (.bl true) G') :
  yX (yI K CQ n) XN blaw { nx:=nx,rt:=Q } [some a,none,none,none,none,none,none,none] G:=by
 have e6:(yI K CQ n).fn[6]?=some zj6:=sB 6 hn rfl;have e7:(yI K CQ n).fn[7]?=some zdk:=sB 7 hn rfl;have e8:(yI K CQ n).fn[8]?=some ⟨"_law_names", nU⟩:=sB 8 hn rfl;have e9:(yI K CQ n).fn[9]?=some ⟨"_law_large", wV 21⟩:=sB 9 hn rfl;have e12:(yI K CQ n).fn[12]?=some ⟨"_law_text_words", mL 21⟩:=sB 12 hn rfl;have e22:(yI K CQ n).fn[22]?=some ⟨"read_saying", N0 (fF CQ)⟩:=sB 22 hn rfl;have e23:(yI K CQ n).fn[23]?=some ⟨"_law_spoilt", zd2⟩:=sB 23 hn rfl;have e24:(yI K CQ n).fn[24]?=some ⟨"_law_refused", zd3⟩:=sB 24 hn rfl;have e25:(yI K CQ n).fn[25]?=some ⟨"_law_joined", spJo⟩:=sB 25 hn rfl;have t1:(yI K CQ n).mt[1]?=some zdj:=rfl;have t2:(yI K CQ n).mt[2]?=some eApp:=rfl;have i0:(yI K CQ n).it[0]?=some eRng:=rfl;have z1:1<=sizeLine:=sz 1 (by decide);have z2:2<=sizeLine:=sz 2 (by decide);simp only [blaw];refine yH ?_
 ((try dsimp only [zS,zT,zP,zH,zE,zB,yZ,zQ,zW,zO,zV,zY,zU,zR,zL,zN,zD,zM,gZ,gS,tZ,tS]);try simp only [e6])
 refine ⟨a,0,ns,rfl,hs,hl,by decide,fun d l G1 _ _ _ D1=>?_⟩;refine yH ?_
 ((try dsimp only [zS,zT,zP,zH,zE,zB,yZ,zQ,zW,zO,zV,zY,zU,zR,zL,zN,zD,zM,gZ,gS,tZ,tS]);try simp only [e7,e8,wW])
 refine ⟨d,l,4,rfl,D1,by decide,fun j G2 j0 j4 k2 D2=>?_⟩;refine ⟨d,l,1+j,rfl,D2,by omega,by omega,fun r xs G3 hne hxl hxs hr gr k3 D3=>?_⟩
 have rest:∀ (G4:Hw) (ys:List Str),ys≠[]->ys.length<=5->(∀ x∈ys,uD x=true)->G4 r=some (.lst (ys.map .str))->jW G4 d l ->
   yX (yI K CQ n) XN (pT (pT (pT blaw))) { nx:=nx,rt:=Q } [some a,some (.ref d),some (.ref r),none,none,none,none,none] G4:=by
  intro G4 ys yne yl yok g4 D4;simp only [blaw,pT];refine yH ?_
  ((try dsimp only [zS,zT,zP,zH,zE,zB,yZ,zQ,zW,zO,zV,zY,zU,zR,zL,zN,zD,zM,gZ,gS,tZ,tS]);try simp only [e7,e9,wW])
  refine ⟨d,l,20,rfl,D4,by decide,fun m G5 m0 m1 k5 D5=>?_⟩;refine ⟨d,l,r,1+m,10,ys,rfl,D5,hr,k5 _ _ hr g4,yne,yl,yok,by omega,by omega,by decide,by decide,fun t G6 ok ts td k6 D6=>?_⟩;have ts:t.size<=20:=by omega
  have td:t.deep<21:=by omega
  refine yH ?_
  ((try dsimp only [zS,zT,zP,zH,zE,zB,yZ,zQ,zW,zO,zV,zY,zU,zR,zL,zN,zD,zM,gZ,gS,tZ,tS]);try simp only [e12])
  refine ⟨t,rfl,by omega,td,fun w G7 k7 hw gw=>?_⟩;have F7:Fc G7 d l [(w,kO (tw t))]:=⟨zka k7 D6,fun f hf=>by rw [zzO hf];exact ⟨gw,za9 D6 hw⟩⟩
  clear k7 hw gw D6 k6 D5 k5
  have wok:=zh1 t ok;have wk:∀ k∈tw t,pE k:=fun k hk=>ok_k (wok k hk);have wl:(tw t).length<=100:=Nat.le_trans (tQ t) (by omega)
  have wlen:∀ y∈(tw t).map Tk.s,y.length<=9:=fun y hy=>by
   obtain ⟨k,hk,rfl⟩:=zzP hy;exact zjC (wk k hk)
  have l1:(" " : Str).length=1:=by decide +kernel
  have jo:JoinOk " " ((tw t).map Tk.s)=true:=joinB (n:=9) wlen (by rw [zzM,l1];omega)
  have jl:(Txt.join " " ((tw t).map Tk.s)).length<=5000:=by
   unfold Txt.join;rw [StrLaws.glued_eq_join];have h1:=StrLaws.join_length_le " " ((tw t).map Tk.s);have h2:=StrLaws.sumLen_le ((tw t).map Tk.s) wlen;rw [l1,zzM] at h1;rw [zzM] at h2;omega
  have rs:∀ (G8:Hw) (Q':Q3),(∀ G',zJ [] G8 G'->Q' t.w G')->N0 (fF CQ) [.str (Txt.join " " ((tw t).map Tk.s))] G8 Q' XN:=fun G8 Q' h =>
   .inr ⟨tw t,_,rfl,wk,by omega,jl,zdO wk (tw_ne t),fun _ u b=>by rw [zhJ b (zdH t ok)];exact h,fun b=>absurd ⟨wok,t,zdH t ok⟩ b⟩
  have at':∀ {G8:Hw},Fc G8 d l [(w,kO (tw t))]->yR G8 w=some (((tw t).map Tk.s).map W.str):=fun F=>by
   rw [List.map_map];exact kT (F.at zzT)
  refine yH ?_
  ((try dsimp only [zS,zT,zP,zH,zE,zB,yZ,zQ,zW,zO,zV,zY,zU,zR,zL,zN,zD,zM,gZ,gS,tZ,tS]);try simp only [t1,e22])
  refine ⟨rfl,_,at' F7,jo,rs _ _ fun G8 k8=>?_⟩;have F8:=F7.keep k8
  clear F7 k8
  ((try dsimp only [zS,zT,zP,zH,zE,zB,yZ,zQ,zW,zO,zV,zY,zU,zR,zL,zN,zD,zM,gZ,gS,tZ,tS]);try simp only [yG,zfQ (show t.size<=40 by omega),Bool.not_true,zzB,if_false])
  refine nV (yH ?_)
  ((try dsimp only [zS,zT,zP,zH,zE,zB,yZ,zQ,zW,zO,zV,zY,zU,zR,zL,zN,zD,zM,gZ,gS,tZ,tS]);try simp only [zU,i0])
  refine ⟨⟨by decide,by decide⟩,?_⟩;refine ⟨fun i σ G'=>∃ v5 v6:Option W,σ=[some a,some (.ref d),some (.ref r),some t.w,some (.ref w),v5,v6,none]/\Fc G' d l [(w,kO (tw t))],⟨none,none,rfl,F8⟩,fun _ _ _ _ _=>trivial,?_,?_⟩
  .rintro i y σ G' _ ⟨v5,v6,rfl,F⟩
   (try dsimp only [zS,zT,zP,zH,zE,zB,yZ,zQ,zW,zO,zV,zY,zU,zR,zL,zN,zD,zM,gZ,gS,tZ,tS])
   refine yH ?_
   ((try dsimp only [zS,zT,zP,zH,zE,zB,yZ,zQ,zW,zO,zV,zY,zU,zR,zL,zN,zD,zM,gZ,gS,tZ,tS]);try simp only [e23])
   refine ⟨d,l,w,t,rfl,F.dl,(F.ob _ zzT).2,F.at zzT,ok,ts,fun q tk G9 bad tks tl' nq gq k9 D9=>?_⟩
   have F9:Fc G9 d l [(q,kO tk),(w,kO (tw t))]:=⟨D9,fun f hf=>by
    rcases List.mem_cons.mp hf with rfl|hf
    .exact ⟨gq,nq⟩
    .exact (F.draw k9 D9).ob f hf⟩
   refine yH ?_
   ((try dsimp only [zS,zT,zP,zH,zE,zB,yZ,zQ,zW,zO,zV,zY,zU,zR,zL,zN,zD,zM,gZ,gS,tZ,tS]);try simp only [e24,e25,e7])
   refine ziK (lits:=zjq) F9 rfl (by decide) (by decide) fun g hg G10 F10=>⟨z2,fun p hp=>?_⟩;have F11:=F10.new (o:=.lst (([g, " "]:List Str).map .str)) hp;refine ⟨q,p,tk,[g, " "],rfl,F11.at (by simp),F11.at (by simp),by omega,tks,by simp,by simp,fun u hu=>?_,fun x G12 jn xl k12=>?_⟩
   .simp only [List.mem_cons,List.not_mem_nil,or_false] at hu;rcases hu with rfl|rfl
    .exact l2 _ hg
    .exact lsp
   refine ⟨_,rfl,.inr ⟨x,tk,rfl,by omega,by omega,tks,jn.wd,bad⟩,fun G13 k13=>?_⟩
   ((try dsimp only [zS,zT,zP,zH,zE,zB,yZ,zQ,zW,zO,zV,zY,zU,zR,zL,zN,zD,zM,gZ,gS,tZ,tS]);try simp only [jU,Bool.not_true,zzB,if_false])
   exact (show ∃ v5 v6:Option W,_=[some a,some (.ref d),some (.ref r),some t.w,some (.ref w),v5,v6,none]/\Fc G13 d l [(w,kO (tw t))] from ⟨_,_,rfl,((F11.keep k12).keep k13).sub (by simp)⟩)
  .rintro σ G' ⟨v5,v6,rfl,F⟩;refine yH ?_
   ((try dsimp only [zS,zT,zP,zH,zE,zB,yZ,zQ,zW,zO,zV,zY,zU,zR,zL,zN,zD,zM,gZ,gS,tZ,tS]);try simp only [e7])
   refine ⟨z1,z1,fun p hp=>⟨z2,sz _ (by show 9<=100000;decide),fun q hq0=>?_⟩⟩;have F1:=(F.new (o:=.lst [.str "a"]) hp).new (o:=.lst [.str "", .str "  ", .str "\n", .non,.int 5,.bl true,.tup [.str "a"],.ref p,.tup [.str "say", .str "a"]]) hq0;refine ⟨d,l,9,rfl,F1.dl,by decide,fun y G5 y0 y1 k5 D5=>?_⟩;have F3:=F1.draw k5 D5
   obtain ⟨v,ev,nv⟩:∃ v,kK [.str "", .str "  ", .str "\n", .non,.int 5,.bl true,.tup [.str "a"],.ref p,.tup [.str "say", .str "a"]] y=some v/\RefW G5 v:=by
    have gp:=F3.at (p:=p) (o:=.lst [.str "a"]) (by simp);have:y=0\/y=1\/y=2\/y=3\/y=4\/y=5\/y=6\/y=7\/y=8:=by omega
    rcases this with rfl|rfl|rfl|rfl|rfl|rfl|rfl|rfl|rfl
    .exact ⟨_,rfl,zgK (by simp)⟩
    .exact ⟨_,rfl,zgK (by simp)⟩
    .exact ⟨_,rfl,zgK (by simp)⟩
    .exact ⟨_,rfl,.inl ⟨"NoneType", by simp,rfl⟩⟩
    .exact ⟨_,rfl,.inl ⟨"int", by simp,rfl⟩⟩
    .exact ⟨_,rfl,.inl ⟨"bool", by simp,rfl⟩⟩
    .exact ⟨_,rfl,.inl ⟨"tuple", by simp,rfl⟩⟩
    .exact ⟨_,rfl,.inl ⟨"list", by simp,by simp only [tyO,gp]⟩⟩
    .exact ⟨_,rfl,.inl ⟨"tuple", by simp,rfl⟩⟩
   refine ixL (kT (F3.at zzT)) ?_;rw [ev];have F4:=F3.sub (gs:=[(w,kO (tw t))]) (by simp)
   clear F1 F3 F
   refine yH ?_
   ((try dsimp only [zS,zT,zP,zH,zE,zB,yZ,zQ,zW,zO,zV,zY,zU,zR,zL,zN,zD,zM,gZ,gS,tZ,tS]);try simp only [e24,t1,e22])
   refine ⟨v,rfl,nv,fun G6 k6=>?_⟩
   ((try dsimp only [zS,zT,zP,zH,zE,zB,yZ,zQ,zW,zO,zV,zY,zU,zR,zL,zN,zD,zM,gZ,gS,tZ,tS]);try simp only [jU,if_true])
   refine ⟨rfl,_,at' (F4.keep k6),jo,rs _ _ fun G8 k8=>?_⟩
   ((try dsimp only [zS,zT,zP,zH,zE,zB,yZ,zQ,zW,zO,zV,zY,zU,zR,zL,zN,zD,zM,gZ,gS,tZ,tS]);try simp only [yG,zfQ (show t.size<=40 by omega)])
   exact hq _
 simp only [blaw,pT] at rest;refine yH ?_
 ((try dsimp only [zS,zT,zP,zH,zE,zB,yZ,zQ,zW,zO,zV,zY,zU,zR,zL,zN,zD,zM,gZ,gS,tZ,tS]);try simp only [e7])
 refine ⟨d,l,2,rfl,D3,by decide,fun b G4 b0 b1 k4 D4=>?_⟩;have g4:=k4 _ _ hr gr;simp only [yG,qZ]
 by_cases hb:b=1
 .rw [decide_eq_true hb,if_pos rfl];refine yH ?_
  ((try dsimp only [zS,zT,zP,zH,zE,zB,yZ,zQ,zW,zO,zV,zY,zU,zR,zL,zN,zD,zM,gZ,gS,tZ,tS]);try simp only [t2,e7])
  have F:Fc G4 d l [(r,.lst (xs.map .str))]:=⟨D4,fun f hf=>by rw [zzO hf];exact ⟨g4,hr⟩⟩;refine ⟨tyL g4,?_⟩;refine ziK (lits:=zjp) F rfl (by decide) (by decide) fun x hx G5 F5=>?_;have g5:=F5.at zzT;refine appL g5 (by rw [zzM];omega) ?_;refine rest _ (xs++[x]) (by simp) (by simp;omega) (fun y hy=>?_) (by rw [zK,List.map_append];rfl) (nI hr F5.dl);rcases List.mem_append.mp hy with hy|hy
  .exact hxs y hy
  .rw [zzO hy];have:∀ z∈zjp,uD z=true:=by decide +kernel
   exact this x hx
 .rw [decide_eq_false hb,if_neg zzN];exact rest G4 xs hne (by omega) hxs g4 D4
end
structure Txt (K:yS) (mg:Str->Option Value) (CQ:Nat->Addr) (oA jA hR hT hM T0:Addr):Prop where
 deal:∃ f,mg "_law_deal" = some (.ref f)/\HD K "_law_deal" "_law_deal" jY .none f
 draw:∃ f,mg "_law_draw" = some (.ref f)/\HD K "_law_draw" "_law_draw" jZ .none f
 names:∃ f,mg "_law_names" = some (.ref f)/\HD K "_law_names" "_law_names" wS .none f
 large:∃ f,mg "_law_large" = some (.ref f)/\HD K "_law_large" "_law_large" wR .none f
 binds:∃ f,mg "_law_binds" = some (.ref f)/\HD K "_law_binds" "_law_binds" wQ .none f
 lat:∃ f,mg "_law_at" = some (.ref f)/\HD K "_law_at" "_law_at" jF .none f
 ltw:∃ f,mg "_law_text_words" = some (.ref f)/\HD K "_law_text_words" "_law_text_words" yK .none f
 put_:∃ f,mg "put_together" = some (.ref f)/\HD K "put_together" "put_together" xL .none f
 take_:∃ f,mg "take_left" = some (.ref f)/\HD K "take_left" "take_left" wB .none f
 begin_:∃ f,mg "begin_side" = some (.ref f)/\HD K "begin_side" "begin_side" wT .none f
 go_:∃ f,mg "go_on" = some (.ref f)/\HD K "go_on" "go_on" tP .none f
 rj:∃ f,mg "read_joined" = some (.ref f)/\HD K "read_joined" "read_joined" xD .none f
 isn:∃ f,mg "is_name" = some (.ref f)/\HD K "is_name" "is_name" qT .none f
 rw_:∃ f,mg "read_word" = some (.ref f)/\HD K "read_word" "read_word" wA .none f
 wb:∃ f,mg "words_between_blanks" = some (.ref f)/\HD K "words_between_blanks" "words_between_blanks" yW .none f
 wa:∃ f,mg "words_and_brackets" = some (.ref f)/\HD K "words_and_brackets" "words_and_brackets" yP .none f
 rs:∃ f,mg "read_saying" = some (.ref f)/\HD K "read_saying" "read_saying" xE .none f
 spo:∃ f,mg "_law_spoilt" = some (.ref f)/\HD K "_law_spoilt" "_law_spoilt" xC .none f
 ref:∃ f,mg "_law_refused" = some (.ref f)/\HD K "_law_refused" "_law_refused" xK .none f
 jo:∃ f,mg "_law_joined" = some (.ref f)/\HD K "_law_joined" "_law_joined" xB .none f
 max:mg "max" = none
 len:mg "len" = none
 all:mg "all" = none
 list:mg "list" = none
 isi:mg "isinstance" = none
 int:mg "int" = none
 range:mg "range" = none
 rev:mg "reversed" = none
 str:mg "str" = none
 tup:mg "tuple" = none
 enu:mg "enumerate" = none
 val:mg "ValueError" = none
 mgLo:∃ t,mg "LONGEST_NAME" = some (.int 6 t)
 nb:nsIn K cStatics sharingNotToldKey=some none
 mgR:mg "BINDS" = some (.ref hR)
 rpR:∀ H,wX K H (.dcf rK rV) (.ref hR)
 mgT:mg "TAKES" = some (.ref hT)
 rpT:∀ H,wX K H (.dcf tK tV) (.ref hT)
 mgM:mg "MADE" = some (.ref hM)
 rpM:∀ H,wX K H (.dcf mK mV) (.ref hM)
 mgN:mg "NO_NAMES" = some (.ref oA)
 rpN:∀ H,wX K H (.tup (uK.map .str)) (.ref oA)
 mgJ:mg "JOINING" = some (.ref jA)
 rpJ:∀ H,wX K H (.tup (jL)) (.ref jA)
 qc:Cl K CQ
 mgE:mg "TalkError" = some (.ref T0)
 tr:∃ ini,XM K T0 ini
 sub:bK K (CQ 0) T0
 x0:XM K (CQ 0) (.builtin "ValueError.__init__")
 m0:mg "NoText" = some (.ref (CQ 0))
 m1:mg "NoBook" = some (.ref (CQ 1))
 m2:mg "NotLet" = some (.ref (CQ 2))
 m3:mg "NoMove" = some (.ref (CQ 3))
 m4:mg "NoPlan" = some (.ref (CQ 4))
 m5:mg "NoTalker" = some (.ref (CQ 5))
 m6:mg "NoPaper" = some (.ref (CQ 6))
 m7:mg "NoWeb" = some (.ref (CQ 7))
 m8:mg "NoRow" = some (.ref (CQ 8))
 m9:mg "NoName" = some (.ref (CQ 9))
def rk (n:Nat):Nat:=2 * n+2+(if 10<=n then 21 else 0)+(if 12<=n then 43 else 0)
section
variable {q : Pr} {CQ : Nat → Addr} {oA jA hR hT hM T0 : Addr}
def Pn (q:Pr) (CQ:Nat->Addr) (n:Nat):Prop:=∀ A,Room (rk n) A->∀ f∈(fnL q.K CQ).take n,qH (q.at A) f
theorem zha (T:Txt q.K q.mg CQ oA jA hR hT hM T0) {l:List Fn3} {A:Around} (hu:A.units+200<cLine) (h:∀ f∈l,qH (q.at A) f):L3.Good (GamL CQ l) (q.at A) :=
 zg9 (Γ:=GamL CQ l) hu h
  (zZ (xI T.mgLo.choose_spec (v:=.int 6) ⟨_,rfl⟩ fun _=>rfl) (zZ (xI T.mgN (v:=.ref oA) rfl T.rpN) (zZ (xI T.mgJ (v:=.ref jA) rfl T.rpJ) (zZ (xI T.mgR (v:=.ref hR) rfl T.rpR) (zZ (xI T.mgT (v:=.ref hT) rfl T.rpT) (zZ (xI T.mgM (v:=.ref hM) rfl T.rpM) (zZ (zaG T.str (by decide +kernel)) (zZ (zaG T.tup (by decide +kernel)) (zZ (zaG T.val (by decide +kernel)) (zZ (xI T.m0 (v:=.ref _) rfl fun _=>rfl) (zZ (xI T.m1 (v:=.ref _) rfl fun _=>rfl) (zZ (xI T.m2 (v:=.ref _) rfl fun _=>rfl) (zZ (xI T.m3 (v:=.ref _) rfl fun _=>rfl) (zZ (xI T.m4 (v:=.ref _) rfl fun _=>rfl) (zZ (xI T.m5 (v:=.ref _) rfl fun _=>rfl) (zZ (xI T.m6 (v:=.ref _) rfl fun _=>rfl) (zZ (xI T.m7 (v:=.ref _) rfl fun _=>rfl) (zZ (xI T.m8 (v:=.ref _) rfl fun _=>rfl) (zZ (xI T.m9 (v:=.ref _) rfl fun _=>rfl) yT)))))))))))))))))))
  (zZ zhl (zZ zeX (zZ zhs (zZ (zhr hu) (zZ zdi yT)))))
  (zZ (zhj T.range) (zZ (zj4 T.enu) yT))
  yT
  (zZ (zhk T.list T.rev) (zZ ⟨zb7 T.nb,rT⟩ (zZ ⟨zb7 T.nb,rT⟩ (zZ ⟨zb7 T.nb,rT⟩ yT)))) rfl
theorem mU {k:Nat} {A:Around} (hr:Room k A):A.units+200<cLine:=by have:=hr.un;omega
theorem good (T:Txt q.K q.mg CQ oA jA hR hT hM T0) {n:Nat} (h:Pn q CQ n):∀ A,Room (rk n) A->L3.Good (yI q.K CQ n) (q.at A):=fun A hr=>zha T (mU hr) (h A hr)
theorem next {n:Nat} {e:Fn3} (h:Pn q CQ n) (hk:rk n<=rk (n+1)) (he:(fnL q.K CQ).take (n+1)=(fnL q.K CQ).take n++[e]) (hx:∀ A,Room (rk (n+1)) A->qH (q.at A) e):Pn q CQ (n+1):=fun A hr=>by
 rw [he];exact uT (h A (hr.mono hk)) (hx A hr)
theorem p6 (T:Txt q.K q.mg CQ oA jA hR hT hM T0):Pn q CQ 6:=fun A hr=>zZ (zhm T.max) (zZ (zho T.len) (zZ (zht T.all) (zZ (zhn T.list) (zZ (zhp T.isi) (zZ (zhq T.int) yT)))))
theorem jB {n:Nat} {nm qual:Str} {st:Stmt} {f:Addr} {M:MC} {ps:List Str} {sp:sC} {body:ISs} (T:Txt q.K q.mg CQ oA jA hR hT hM T0) (h:Pn q CQ n) (hk:rk n+1<=rk (n+1)) (hm:q.mg nm=some (.ref f)) (hd:HD q.K nm qual st .none f) (S:FnScope M.N ps (zX st)) (eM:MOk (yI q.K CQ n) M (zX st)) (look:uJ body M (zI st)=true)
  (len:∀ ws G Q,sp ws G Q XN->ws.length=ps.length) (hb:∀ ws G Q,sp ws G Q XN->yX (yI q.K CQ n) XN body { nx:=fun _ G'=>Q .non G',rt:=Q } (yO M.N ws) G) (mono:uM ⟨nm,sp⟩)
  (hbind:∀ (kV doc pm:Value) (an:Option Addr) (cdv ct:Value) (us:List Value),us.length=ps.length->bindArgs (fnOf nm qual (yU st) (zI st) (zX st) .none kV doc pm an cdv ct) ⟨us,[]⟩=pure (ps.zip us))
  (he:(fnL q.K CQ).take (n+1)=(fnL q.K CQ).take n++[⟨nm,sp⟩]):Pn q CQ (n+1):=by
 obtain ⟨fd,F,_⟩:=hd.fd;have FO:=sI F S (good T h) eM look len hb;exact next h (by omega) he fun A hr=>qK FO hm F.kp (xF F hbind) mono hr hk
theorem moreR {n N:Nat} {nm qual:Str} {st:Stmt} {f:Addr} {M:MC} {ps:List Str} {sp:Nat->sC} {body:ISs} (T:Txt q.K q.mg CQ oA jA hR hT hM T0) (h:Pn q CQ n) (hk:rk n+N<=rk (n+1)) (hm:q.mg nm=some (.ref f)) (hd:HD q.K nm qual st .none f) (S:FnScope M.N ps (zX st)) (eM:∀ j,MOk (qC q.K CQ n ⟨nm,sp j⟩) M (zX st)) (look:uJ body M (zI st)=true)
  (h0:∀ ws G Q,¬ sp 0 ws G Q XN) (len:∀ j ws G Q,sp j ws G Q XN->ws.length=ps.length) (hb:∀ j ws G Q,sp (j+1) ws G Q XN->yX (qC q.K CQ n ⟨nm,sp j⟩) XN body { nx:=fun _ G'=>Q .non G',rt:=Q } (yO M.N ws) G) (mono:∀ j,uM ⟨nm,sp j⟩)
  (hbind:∀ (kV doc pm:Value) (an:Option Addr) (cdv ct:Value) (us:List Value),us.length=ps.length->bindArgs (fnOf nm qual (yU st) (zI st) (zX st) .none kV doc pm an cdv ct) ⟨us,[]⟩=pure (ps.zip us))
  (he:(fnL q.K CQ).take (n+1)=(fnL q.K CQ).take n++[⟨nm,sp N⟩]):Pn q CQ (n+1):=by
 obtain ⟨fd,F,_⟩:=hd.fd;have FO:=zfl (k:=rk n) (Γ:=fun e=>qC q.K CQ n e) F S hm (xF F hbind) h0 len mono (fun j A hr hx=>zha T (mU hr) (uT (h A hr) hx)) eM look hb N;exact next h (by omega) he fun A hr=>qK FO hm F.kp (xF F hbind) (mono N) hr hk
theorem usS {P:List Value->Prop} {n:Nat} (h:∀ a l,l.length=n->P (a::l)) (us:List Value) (e:us.length=n+1):P us:=by
 cases us with
 |nil=>exact absurd e (Nat.succ_ne_zero n).symm
 |cons a l=>exact h a l (Nat.succ.inj e)
theorem us0 {P:List Value->Prop} (h:P []) (us:List Value) (e:us.length=0):P us:=by
 cases us with
 |nil=>exact h
 |cons a l=>exact absurd e (Nat.succ_ne_zero _)
theorem us1 {P:List Value->Prop} (h:∀ a0,P [a0]):∀ us:List Value,us.length=1->P us:=usS (P:=fun l=>P (l)) (fun a0=>us0 (P:=fun l=>P (a0::l)) (h a0))
theorem us2 {P:List Value->Prop} (h:∀ a0 a1,P [a0,a1]):∀ us:List Value,us.length=2->P us:=usS (P:=fun l=>P (l)) (fun a0=>usS (P:=fun l=>P (a0::l)) (fun a1=>us0 (P:=fun l=>P (a0::a1::l)) (h a0 a1)))
theorem us3 {P:List Value->Prop} (h:∀ a0 a1 a2,P [a0,a1,a2]):∀ us:List Value,us.length=3->P us:=usS (P:=fun l=>P (l)) (fun a0=>usS (P:=fun l=>P (a0::l)) (fun a1=>usS (P:=fun l=>P (a0::a1::l)) (fun a2=>us0 (P:=fun l=>P (a0::a1::a2::l)) (h a0 a1 a2))))
theorem us4 {P:List Value->Prop} (h:∀ a0 a1 a2 a3,P [a0,a1,a2,a3]):∀ us:List Value,us.length=4->P us:=usS (P:=fun l=>P (l)) (fun a0=>usS (P:=fun l=>P (a0::l)) (fun a1=>usS (P:=fun l=>P (a0::a1::l)) (fun a2=>usS (P:=fun l=>P (a0::a1::a2::l)) (fun a3=>us0 (P:=fun l=>P (a0::a1::a2::a3::l)) (h a0 a1 a2 a3)))))
theorem p7 (T:Txt q.K q.mg CQ oA jA hR hT hM T0):Pn q CQ 7:=by
 obtain ⟨f,hm,hd⟩:=T.deal
 exact jB (sp:=zb9) (M:=gI) T (p6 T) (by decide) hm hd zao ⟨rfl,rfl,rfl,rfl,rfl,rfl,rfl,rfl⟩ dR
  (fun ws G Q h=>by obtain ⟨a,b,ns,rfl,_⟩:=h;rfl) (fun ws G Q ⟨a,b,ns,e,h1,h2,h3,h4⟩=>by subst e;exact ze1 rfl rfl h1 h2 h3 h4) (zak) (fun _ _ _ _ _ _=>us2 (fun _ _=>rfl)) rfl
theorem p8 (T:Txt q.K q.mg CQ oA jA hR hT hM T0):Pn q CQ 8:=by
 obtain ⟨f,hm,hd⟩:=T.draw
 exact jB (sp:=vJ) (M:=gJ) T (p7 T) (by decide) hm hd zan ⟨rfl,rfl,rfl,rfl,rfl,rfl,rfl,rfl⟩ dS
  (fun ws G Q h=>by obtain ⟨a,b,m,rfl,_⟩:=h;rfl) (fun ws G Q ⟨a,b,m,e,h1,h2,h3⟩=>by subst e;exact zeZ rfl rfl h1 h2 h3) (zaj) (fun _ _ _ _ _ _=>us2 (fun _ _=>rfl)) rfl
theorem p9 (T:Txt q.K q.mg CQ oA jA hR hT hM T0):Pn q CQ 9:=by
 obtain ⟨f,hm,hd⟩:=T.names
 exact jB (sp:=nU) (M:=pQ) T (p8 T) (by decide) hm hd bA ⟨rfl,rfl,rfl,rfl,rfl,rfl,rfl,rfl⟩ gF
  (fun ws G Q h=>by obtain ⟨d,l,m,rfl,_⟩:=h;rfl) (fun ws G Q h=>zcF (by decide) h) (fun ws G Q Q' E k hh=>by
   obtain ⟨d,l,m,h1,h2,h3,h4,h⟩:=hh;exact ⟨d,l,m,h1,h2,h3,h4,fun r xs G' a b c d e f g=>k _ _ (h r xs G' a b c d e f g)⟩) (fun _ _ _ _ _ _=>us2 (fun _ _=>rfl)) rfl
theorem p10 (T:Txt q.K q.mg CQ oA jA hR hT hM T0):Pn q CQ 10:=by
 obtain ⟨f,hm,hd⟩:=T.large
 exact moreR (N:=21) (sp:=wV) (M:=pP) T (p9 T) (by decide) hm hd zaa (fun j=>⟨rfl,rfl,rfl,rfl,rfl,rfl,rfl,rfl⟩) gE
  (fun ws G Q hh=>by
   obtain ⟨d,l,r,m,e,xs,_,_,_,_,_,_,_,_,_,h1,h2,_⟩:=hh;omega) (fun j ws G Q h=>by obtain ⟨d,l,r,m,e,xs,rfl,_⟩:=h;rfl) (fun j ws G Q h=>zcS h) (fun j ws G Q Q' E k hh=>by
   obtain ⟨d,l,r,m,e,xs,h1,h2,h3,h4,h5,h6,h7,h8,h9,h10,h11,h⟩:=hh;exact ⟨d,l,r,m,e,xs,h1,h2,h3,h4,h5,h6,h7,h8,h9,h10,h11,fun t G' a b c d e=>k _ _ (h t G' a b c d e)⟩) (fun _ _ _ _ _ _=>us4 fun _ _ _ _=>rfl) rfl
theorem p11 (T:Txt q.K q.mg CQ oA jA hR hT hM T0):Pn q CQ 11:=by
 obtain ⟨f,hm,hd⟩:=T.binds
 exact jB (sp:=tD) (M:=pO) T (p10 T) (by decide) hm hd zab ⟨rfl,rfl,rfl,rfl,rfl,rfl,rfl,rfl⟩ gD
  (fun ws G Q h=>by obtain ⟨t,rfl,_⟩:=h;rfl) (fun ws G Q h=>zdA h) (fun ws G Q Q' E k hh=>by
   obtain ⟨t,h1,h⟩:=hh;exact ⟨t,h1,fun G' y=>k _ _ (h G' y)⟩) (fun _ _ _ _ _ _=>us1 (fun _=>rfl)) rfl
theorem zdE (j:Nat):uM ⟨"_law_at", mH j⟩:=fun ws G Q Q' E k hh=>by
 obtain ⟨t,n,h1,h2,h3,h⟩:=hh;exact ⟨t,n,h1,h2,h3,h.mono k⟩
theorem zbZ (j:Nat):uM ⟨"_law_text_words", mL j⟩:=fun ws G Q Q' E k hh=>by
 obtain ⟨t,h1,h2,h3,h⟩:=hh;exact ⟨t,h1,h2,h3,h.mono k⟩
theorem mutR (T:Txt q.K q.mg CQ oA jA hR hT hM T0) {f1 f2:Addr} {fd1 fd2:FuncData} (hm1:q.mg "_law_at" = some (.ref f1)) (F1:FunD q.K "_law_at" "_law_at" jF .none f1 fd1) (hm2:q.mg "_law_text_words" = some (.ref f2)) (F2:FunD q.K "_law_text_words" "_law_text_words" yK .none f2 fd2) :
  FnOk q.prog q.w q.K q.mg q.base CX0 (rk 11+2 * 21+1) f1 fd1 ["_law_saying", "_law_least"] (jR q.K (mH 21))/\FnOk q.prog q.w q.K q.mg q.base CX0 (rk 11+2 * 21) f2 fd2 ["_law_saying"] (jR q.K (mL 21)) :=
 zgm (k:=rk 11) (M1:=zbe) (M2:=kU) (sp1:=mH) (sp2:=mL) (Γ:=fun e=>qC q.K CQ 11 e) F1 zcg hm1 (xF F1 fun _ _ _ _ _ _=>us2 fun _ _=>rfl) F2 tB hm2 (xF F2 fun _ _ _ _ _ _=>us1 fun _=>rfl)
  (fun ws G Q hh=>by obtain ⟨t,_,_,h1,_⟩:=hh;omega) (fun j ws G Q h=>by obtain ⟨t,k,rfl,_⟩:=h;rfl) (fun j ws G Q h=>by obtain ⟨t,rfl,_⟩:=h;rfl) zdE zbZ
  (fun e A hr hx=>zha T (mU hr) (uT (p11 T A hr) hx)) (fun j=>⟨rfl,rfl,rfl,rfl,rfl,rfl,rfl,rfl⟩) (fun j=>⟨rfl,rfl,rfl,rfl,rfl,rfl,rfl,rfl⟩) zaB uC (fun j ws G Q h=>zkg h) (fun j ws G Q h=>zh0 h) 21
theorem p12 (T:Txt q.K q.mg CQ oA jA hR hT hM T0):Pn q CQ 12:=by
 obtain ⟨f1,hm1,hd1⟩:=T.lat;obtain ⟨f2,hm2,hd2⟩:=T.ltw;obtain ⟨fd1,F1,_⟩:=hd1.fd;obtain ⟨fd2,F2,_⟩:=hd2.fd;exact next (p11 T) (by decide) rfl fun A hr=>qK (mutR T hm1 F1 hm2 F2).1 hm1 F1.kp (xF F1 fun _ _ _ _ _ _=>us2 fun _ _=>rfl) (zdE 21) hr (by decide)
theorem p13 (T:Txt q.K q.mg CQ oA jA hR hT hM T0):Pn q CQ 13:=by
 obtain ⟨f1,hm1,hd1⟩:=T.lat;obtain ⟨f2,hm2,hd2⟩:=T.ltw;obtain ⟨fd1,F1,_⟩:=hd1.fd;obtain ⟨fd2,F2,_⟩:=hd2.fd;exact next (p12 T) (by decide) rfl fun A hr=>qK (mutR T hm1 F1 hm2 F2).2 hm2 F2.kp (xF F2 fun _ _ _ _ _ _=>us1 fun _=>rfl) (zbZ 21) hr (by decide)
theorem p14 (T:Txt q.K q.mg CQ oA jA hR hT hM T0):Pn q CQ 14:=by
 obtain ⟨f,hm,hd⟩:=T.put_
 exact jB (sp:=zd4) (M:=tX) T (p13 T) (by decide) hm hd hW ⟨rfl,rfl,rfl,rfl,rfl,rfl,rfl,rfl⟩ rG
  (fun ws G Q h=>by obtain ⟨w,D,p,rfl,_⟩:=h;rfl) (fun ws G Q h=>zgp h) (fun ws G Q Q' E k hh=>by
   obtain ⟨w,D,p,h1,h2,h3,h4,h⟩:=hh;exact ⟨w,D,p,h1,h2,h3,h4,fun G' a b=>k _ _ (h G' a b)⟩) (fun _ _ _ _ _ _=>us2 (fun _ _=>rfl)) rfl
theorem p15 (T:Txt q.K q.mg CQ oA jA hR hT hM T0):Pn q CQ 15:=by
 obtain ⟨f,hm,hd⟩:=T.take_
 exact jB (sp:=mJ) (M:=gO) T (p14 T) (by decide) hm hd zal ⟨rfl,rfl,rfl,rfl,rfl,rfl,rfl,rfl⟩ dW
  (fun ws G Q h=>by obtain ⟨m,D,V,p,r,rfl,_⟩:=h;rfl) (fun ws G Q h=>zdW (by decide) h) (fun ws G Q Q' E k hh=>by
   obtain ⟨m,D,V,p,r,h1,h2,h3,h4,h5,h6,h7,h8,h⟩:=hh;exact ⟨m,D,V,p,r,h1,h2,h3,h4,h5,h6,h7,h8,fun G' a b c=>k _ _ (h G' a b c)⟩) (fun _ _ _ _ _ _=>us3 (fun _ _ _=>rfl)) rfl
theorem xV {nm:Str} {b:Bool}:qB ⟨nm,yN CQ b⟩:=fun ws G Q Q' E E' k k' hh=>by
 obtain ⟨t,D,V,p,r,h1,h2,h3,h4,h5,h6,h7,h8,h,hE⟩:=hh;exact ⟨t,D,V,p,r,h1,h2,h3,h4,h5,h6,h7,h8,fun g G' a b c=>k _ _ (h g G' a b c),fun g G' a=>k' _ _ (hE g G' a)⟩
theorem sZ:qB ⟨"read_joined", fE CQ⟩:=fun ws G Q Q' E E' k k' hh=>by
 obtain ⟨tk,r,h1,h2,h3,h4,h,hE⟩:=hh;exact ⟨tk,r,h1,h2,h3,h4,fun t a G' y=>k _ _ (h t a G' y),fun g G' a=>k' _ _ (hE g G' a)⟩
theorem nS:qB ⟨"read_word", bD CQ⟩:=fun ws G Q Q' E E' k k' hh=>by
 obtain ⟨t,h1,h2,h,hE⟩:=hh;exact ⟨t,h1,h2,fun a G' y=>k _ _ (h a G' y),fun g G' a=>k' _ _ (hE g G' a)⟩
theorem zar:qB ⟨"read_saying", fF CQ⟩:=fun ws G Q Q' E E' k k' hh=>by
 rcases hh with ⟨w,h1,h2,hE⟩|⟨tk,x,h1,h2,h3,h4,h5,h,hE⟩
 .exact .inl ⟨w,h1,h2,fun G' a=>k' _ _ (hE G' a)⟩
 .exact .inr ⟨tk,x,h1,h2,h3,h4,h5,fun o t a G' y=>k _ _ (h o t a G' y),fun g G' a=>k' _ _ (hE g G' a)⟩
theorem rC (T:Txt q.K q.mg CQ oA jA hR hT hM T0) {l:List Fx3} {A:Around} (hl:∀ f∈l,FxE (q.at A) f/\qB f):GoodX (wN CQ l T0) (q.at A) :=
 ⟨hl,zZ (cl_0 T.x0 T.m0) yT,zZ ⟨T.mgE,T.tr,zZ T.sub yT⟩ yT⟩
theorem uF (T:Txt q.K q.mg CQ oA jA hR hT hM T0):∀ A,Room (rk 16) A->FxE (q.at A) ⟨"begin_side", yN CQ true⟩:=fun A hr=>by
 obtain ⟨f,hm,hd⟩:=T.begin_;obtain ⟨fd,F,_⟩:=hd.fd;have FO:=sK (k:=rk 15) (Γ:=yI q.K CQ 15) (Δ:=wN CQ [] T0) (M:=pR) (Z:=pU) (sp:=yN CQ true) F bB (good T (p15 T)) (fun A hr=>rC T yT) ⟨rfl,rfl,rfl,rfl,rfl,rfl,rfl,rfl⟩ ⟨rfl,rfl,rfl⟩ gG (fun ws G Q E h=>by obtain ⟨t,D,V,p,r,rfl,_⟩:=h;rfl) (fun ws G Q E h=>zdB (by decide) T.qc h);exact fT (nm := "begin_side") FO hm F.kp (xF F fun _ _ _ _ _ _=>us3 fun _ _ _=>rfl) xV (hr.mono (by decide))
theorem p16 (T:Txt q.K q.mg CQ oA jA hR hT hM T0):Pn q CQ 16:=by
 exact next (p15 T) (by decide) rfl fun A hr=>fR (uF T A hr) xV
theorem go_E (T:Txt q.K q.mg CQ oA jA hR hT hM T0):∀ A,Room (rk 17) A->FxE (q.at A) ⟨"go_on", yN CQ false⟩:=fun A hr=>by
 obtain ⟨f,hm,hd⟩:=T.go_;obtain ⟨fd,F,_⟩:=hd.fd;have FO:=sK (k:=rk 16) (Γ:=yI q.K CQ 16) (Δ:=wN CQ [⟨"begin_side", yN CQ true⟩] T0) (M:=zfz) (Z:=ze6) (sp:=yN CQ false) F zgj (good T (p16 T)) (fun A hr=>rC T (zZ ⟨uF T A (hr.mono (by decide)),xV⟩ yT)) ⟨rfl,rfl,rfl,rfl,rfl,rfl,rfl,rfl⟩ ⟨rfl,rfl,rfl⟩ zcL (fun ws G Q E h=>by obtain ⟨t,D,V,p,r,rfl,_⟩:=h;rfl) (fun ws G Q E h=>zjZ (by decide) T.qc h);exact fT (nm := "go_on") FO hm F.kp (xF F fun _ _ _ _ _ _=>us3 fun _ _ _=>rfl) xV (hr.mono (by decide))
theorem p17 (T:Txt q.K q.mg CQ oA jA hR hT hM T0):Pn q CQ 17:=by
 exact next (p16 T) (by decide) rfl fun A hr=>fR (go_E T A hr) xV
theorem rjE (T:Txt q.K q.mg CQ oA jA hR hT hM T0):∀ A,Room (rk 18) A->FxE (q.at A) ⟨"read_joined", fE CQ⟩:=fun A hr=>by
 obtain ⟨f,hm,hd⟩:=T.rj;obtain ⟨fd,F,_⟩:=hd.fd;have FO:=sK (k:=rk 17) (Γ:=yI q.K CQ 17) (Δ:=wN CQ [⟨"begin_side", yN CQ true⟩,⟨"go_on", yN CQ false⟩] T0) (M:=sW) (Z:=tF) (sp:=fE CQ) F fA (good T (p17 T)) (fun A hr=>rC T (zZ ⟨uF T A (hr.mono (by decide)),xV⟩ (zZ ⟨go_E T A (hr.mono (by decide)),xV⟩ yT))) ⟨rfl,rfl,rfl,rfl,rfl,rfl,rfl,rfl⟩ ⟨rfl,rfl,rfl⟩ pA (fun ws G Q E h=>by obtain ⟨tk,q,rfl,_⟩:=h;rfl) (fun ws G Q E h=>ziu (by decide) h);exact fT (nm := "read_joined") FO hm F.kp (xF F fun _ _ _ _ _ _=>us1 fun _=>rfl) sZ (hr.mono (by decide))
theorem p18 (T:Txt q.K q.mg CQ oA jA hR hT hM T0):Pn q CQ 18:=by
 exact next (p17 T) (by decide) rfl fun A hr=>fR (rjE T A hr) sZ
theorem p19 (T:Txt q.K q.mg CQ oA jA hR hT hM T0):Pn q CQ 19:=by
 obtain ⟨f,hm,hd⟩:=T.isn
 exact jB (sp:=zd5) (M:=zbd) T (p18 T) (by decide) hm hd zcf ⟨rfl,rfl,rfl,rfl,rfl,rfl,rfl,rfl⟩ zaA
  (fun ws G Q h=>by obtain ⟨x,rfl,_⟩:=h;rfl) (fun ws G Q h=>zgV (by decide) T.qc h) (fun ws G Q Q' E k hh=>by
   obtain ⟨x,h1,h2,h⟩:=hh;exact ⟨x,h1,h2,fun G' y=>k _ _ (h G' y)⟩) (fun _ _ _ _ _ _=>us1 (fun _=>rfl)) rfl
theorem rw_E (T:Txt q.K q.mg CQ oA jA hR hT hM T0):∀ A,Room (rk 20) A->FxE (q.at A) ⟨"read_word", bD CQ⟩:=fun A hr=>by
 obtain ⟨f,hm,hd⟩:=T.rw_;obtain ⟨fd,F,_⟩:=hd.fd;have FO:=sK (k:=rk 19) (Γ:=yI q.K CQ 19) (Δ:=wN CQ [⟨"begin_side", yN CQ true⟩,⟨"go_on", yN CQ false⟩,⟨"read_joined", fE CQ⟩] T0) (M:=gM) (Z:=nE) (sp:=bD CQ) F zam (good T (p19 T)) (fun A hr=>rC T (zZ ⟨uF T A (hr.mono (by decide)),xV⟩ (zZ ⟨go_E T A (hr.mono (by decide)),xV⟩ (zZ ⟨rjE T A (hr.mono (by decide)),sZ⟩ yT)))) ⟨rfl,rfl,rfl,rfl,rfl,rfl,rfl,rfl⟩ ⟨rfl,rfl,rfl⟩ dU (fun ws G Q E h=>by obtain ⟨k,rfl,_⟩:=h;rfl) (fun ws G Q E h=>zis (by decide) h);exact fT (nm := "read_word") FO hm F.kp (xF F fun _ _ _ _ _ _=>us1 fun _=>rfl) nS (hr.mono (by decide))
theorem p20 (T:Txt q.K q.mg CQ oA jA hR hT hM T0):Pn q CQ 20:=by
 exact next (p19 T) (by decide) rfl fun A hr=>fR (rw_E T A hr) nS
theorem p21 (T:Txt q.K q.mg CQ oA jA hR hT hM T0):Pn q CQ 21:=by
 obtain ⟨f,hm,hd⟩:=T.wb
 exact jB (sp:=spWB) (M:=jN) T (p20 T) (by decide) hm hd kI ⟨rfl,rfl,rfl,rfl,rfl,rfl,rfl,rfl⟩ qD
  (fun ws G Q h=>by obtain ⟨x,rfl,_⟩:=h;rfl) (fun ws G Q h=>zbS h) (fun ws G Q Q' E k hh=>by
   obtain ⟨t,h1,h2,h⟩:=hh;exact ⟨t,h1,h2,h.mono k⟩) (fun _ _ _ _ _ _=>us1 (fun _=>rfl)) rfl
theorem p22 (T:Txt q.K q.mg CQ oA jA hR hT hM T0):Pn q CQ 22:=by
 obtain ⟨f,hm,hd⟩:=T.wa
 exact jB (sp:=spWA) (M:=jC) T (p21 T) (by decide) hm hd vG ⟨rfl,rfl,rfl,rfl,rfl,rfl,rfl,rfl⟩ vZ
  (fun ws G Q h=>by obtain ⟨x,rfl,_⟩:=h;rfl) (fun ws G Q h=>zhX (by decide) h) (fun ws G Q Q' E k hh=>by
   obtain ⟨t,h1,h2,h⟩:=hh;exact ⟨t,h1,h2,h.mono k⟩) (fun _ _ _ _ _ _=>us1 (fun _=>rfl)) rfl
theorem rsE (T:Txt q.K q.mg CQ oA jA hR hT hM T0):∀ A,Room (rk 23) A->FxE (q.at A) ⟨"read_saying", fF CQ⟩:=fun A hr=>by
 obtain ⟨f,hm,hd⟩:=T.rs;obtain ⟨fd,F,_⟩:=hd.fd;have FO:=sK (k:=rk 22) (Γ:=yI q.K CQ 22) (Δ:=wN CQ [⟨"begin_side", yN CQ true⟩,⟨"go_on", yN CQ false⟩,⟨"read_joined", fE CQ⟩,⟨"read_word", bD CQ⟩] T0) (M:=sX) (Z:=tG) (sp:=fF CQ) F fB (good T (p22 T)) (fun A hr=>rC T (zZ ⟨uF T A (hr.mono (by decide)),xV⟩ (zZ ⟨go_E T A (hr.mono (by decide)),xV⟩ (zZ ⟨rjE T A (hr.mono (by decide)),sZ⟩ (zZ ⟨rw_E T A (hr.mono (by decide)),nS⟩ yT))))) ⟨rfl,rfl,rfl,rfl,rfl,rfl,rfl,rfl⟩ ⟨rfl,rfl,rfl⟩ pB (fun ws G Q E h=>by rcases h with ⟨w,rfl,_⟩|⟨tk,x,rfl,_⟩<;>rfl) (fun ws G Q E h=>zit (by decide) T.qc h);exact fT (nm := "read_saying") FO hm F.kp (xF F fun _ _ _ _ _ _=>us1 fun _=>rfl) zar (hr.mono (by decide))
theorem p23 (T:Txt q.K q.mg CQ oA jA hR hT hM T0):Pn q CQ 23:=by
 exact next (p22 T) (by decide) rfl fun A hr=>fR (rsE T A hr) zar
theorem p24 (T:Txt q.K q.mg CQ oA jA hR hT hM T0):Pn q CQ 24:=by
 obtain ⟨f,hm,hd⟩:=T.spo
 exact jB (sp:=zd2) (M:=sV) T (p23 T) (by decide) hm hd dZ ⟨rfl,rfl,rfl,rfl,rfl,rfl,rfl,rfl⟩ nZ
  (fun ws G Q h=>by obtain ⟨d,l,r,t,rfl,_⟩:=h;rfl) (fun ws G Q h=>zge (by decide) h) (fun ws G Q Q' E k hh=>by
   obtain ⟨d,l,r,t,h1,h2,h3,h4,h5,h6,h⟩:=hh;exact ⟨d,l,r,t,h1,h2,h3,h4,h5,h6,fun z tk G' a1 a2 a3 a4 a5 a6 a7=>k _ _ (h z tk G' a1 a2 a3 a4 a5 a6 a7)⟩) (fun _ _ _ _ _ _=>us2 (fun _ _=>rfl)) rfl
theorem p25 (T:Txt q.K q.mg CQ oA jA hR hT hM T0):Pn q CQ 25:=by
 obtain ⟨f,hm,hd⟩:=T.ref;obtain ⟨fd,F,_⟩:=hd.fd;have FO:=zhx (k:=rk 24) (Γ:=yI q.K CQ 24) (Δ:=wN CQ (fx5 CQ) T0) (M:=tU) (Z:=uA) (sp:=zd3) F hV (good T (p24 T)) (fun A hr=>rC T (zZ ⟨uF T A (hr.mono (by decide)),xV⟩ (zZ ⟨go_E T A (hr.mono (by decide)),xV⟩ (zZ ⟨rjE T A (hr.mono (by decide)),sZ⟩ (zZ ⟨rw_E T A (hr.mono (by decide)),nS⟩ (zZ ⟨rsE T A (hr.mono (by decide)),zar⟩ yT)))))) ⟨rfl,rfl,rfl,rfl,rfl,rfl,rfl,rfl⟩ ⟨rfl,rfl,rfl⟩ rF (fun ws G Q h=>by obtain ⟨w,rfl,_⟩:=h;rfl) (fun ws G Q h=>zgl (by decide) T.qc h)
 exact next (p24 T) (by decide) rfl fun A hr=>qK FO hm F.kp (xF F fun _ _ _ _ _ _=>us1 fun _=>rfl) (fun ws G Q Q' E k hh=>by
   obtain ⟨w,h1,h2,h⟩:=hh;exact ⟨w,h1,h2,fun G' a=>k _ _ (h G' a)⟩) hr (by decide)
theorem p26 (T:Txt q.K q.mg CQ oA jA hR hT hM T0):Pn q CQ 26:=by
 obtain ⟨f,hm,hd⟩:=T.jo
 exact jB (sp:=spJo) (M:=sU) T (p25 T) (by decide) hm hd dY ⟨rfl,rfl,rfl,rfl,rfl,rfl,rfl,rfl⟩ nY
  (fun ws G Q h=>by obtain ⟨p,r,tk,gs,rfl,_⟩:=h;rfl) (fun ws G Q h=>zbF (by decide) h) (fun ws G Q Q' E k hh=>by
   obtain ⟨p,r,tk,gs,h1,h2,h3,h4,h5,h6,h7,h8,h⟩:=hh;exact ⟨p,r,tk,gs,h1,h2,h3,h4,h5,h6,h7,h8,fun x G' a b c=>k _ _ (h x G' a b c)⟩) (fun _ _ _ _ _ _=>us2 (fun _ _=>rfl)) rfl
theorem zgS:(zX slaw).names.lookup ("_law_script" : Str)=some .local:=by decide +kernel
theorem zjv {P:Program} {w:World} {K:yS} {mg:Str->Option Value} (T:Txt K mg CQ oA jA hR hT hM T0) {f:Addr} (hd:HD K "law" "law" slaw .none f):∃ fd:FuncData,(∀ (s:Shared) (u:Value),BindsTo s fd ⟨[u],[]⟩ [("_law_script", u)])/\fd.scope.names.lookup ("_law_script" : Str)=some .local/\∀ base:Heap,FnOk P w K mg base CX0 119 f fd ["_law_script"] (jR K cZ):=by
 obtain ⟨fd,F,kV,doc,pm,an,cdv,ct,e⟩:=hd.fd;refine ⟨fd,fun s u=>by subst e;exact .of_eq rfl,by subst e;exact zgS,fun base=>sI (q:=⟨P,w,K,mg,base⟩) (k:=118) (sp:=cZ) (M:=mlaw) F sclaw (good (q:=⟨P,w,K,mg,base⟩) T (p26 T)) ⟨rfl,rfl,rfl,rfl,rfl,rfl,rfl,rfl⟩ zgO (fun ws G Q h=>by obtain ⟨a,ns,rfl,_⟩:=h;rfl) fun ws G Q h=>?_⟩;obtain ⟨a,ns,rfl,hs,hl,h⟩:=h;exact zgR (by decide) hs hl h
end
structure Kc (K:yS) (T C:Addr) (ini:Value):Prop where
 cls:∃ (nm qn:Str) (N:Addr) (bs:List Value) (sn:List Str) (sub:List Value) (ab:Bool) (col:Option Bool) (dd:Option Addr) (k0 k1 k2 k3 k5:Option Value),
  K.lookup C=some (excClassObj nm qn C N bs [.ref T,.type "ValueError", .type "Exception", .type "BaseException", .type "object"] true sn sub ab col dd k0 k1 k2 k3 k5 "ValueError.__new__")
 ga:findIn K (.ref C) "__getattribute__" = some (some (.builtin "BaseException.__getattribute__"))
 gt:findIn K (.ref C) "__getattr__" = some none
 ca:findIn K (.ref C) "__class__" = some (some (.builtin "object.__class__"))
 ini:findIn K (.ref C) "__init__" = some (some ini)
 kp:keepIn K (.ref C)=true
theorem Kc.mk' {K:yS} {T C N:Addr} {ini:Value} {nm qn:Str} {bs:List Value} {sn:List Str} {sub:List Value} {ab:Bool} {col:Option Bool} {dd:Option Addr} {k0 k1 k2 k3 k5:Option Value}
  (l:K.lookup C=some (excClassObj nm qn C N bs [.ref T,.type "ValueError", .type "Exception", .type "BaseException", .type "object"] true sn sub ab col dd k0 k1 k2 k3 k5 "ValueError.__new__"))
  (ga:findIn K (.ref C) "__getattribute__" = some (some (.builtin "BaseException.__getattribute__"))) (gt:findIn K (.ref C) "__getattr__" = some none) (ca:findIn K (.ref C) "__class__" = some (some (.builtin "object.__class__")))
  (ini':findIn K (.ref C) "__init__" = some (some ini)) (kp:keepIn K (.ref C)=true):Kc K T C ini:=⟨⟨nm,qn,N,bs,sn,sub,ab,col,dd,k0,k1,k2,k3,k5,l⟩,ga,gt,ca,ini',kp⟩
section
variable {K : yS} {T C : Addr} {ini : Value}
theorem Kc.cd (k:Kc K T C ini):∃ cd,PySem.W.clsIn K C=some cd/\cd.hasDict=true/\cd.mro=[.ref C,.ref T,.type "ValueError", .type "Exception", .type "BaseException", .type "object"]:=by
 obtain ⟨nm,qn,N,bs,sn,sub,ab,col,dd,k0,k1,k2,k3,k5,l⟩:=k.cls;exact ⟨_,by unfold PySem.W.clsIn;rw [l],rfl,rfl⟩
theorem Kc.ty (k:Kc K T C ini):PySem.W.typeIn K (.ref C)=some (.type "type"):=by
 obtain ⟨nm,qn,N,bs,sn,sub,ab,col,dd,k0,k1,k2,k3,k5,l⟩:=k.cls;show (K.lookup C).map (·.cls)=_;rw [l];rfl
theorem Kc.mro (k:Kc K T C ini) (v:Value):PySem.W.mroIn K C v=some (([.ref C,.ref T,.type "ValueError", .type "Exception", .type "BaseException", .type "object"]:List Value).contains v):=by
 obtain ⟨cd,e,_,m⟩:=k.cd;unfold PySem.W.mroIn;rw [e];show (if cd.mro.isEmpty=true then none else some (cd.mro.contains v))=_;rw [m];rfl
theorem zbY {x:String} (C T:Addr) (h:(["ValueError", "Exception", "BaseException", "object"]:List String).contains x=true):([.ref C,.ref T,.type "ValueError", .type "Exception", .type "BaseException", .type "object"]:List Value).contains (.type x)=true:=by
 rw [List.contains_iff_mem] at h ⊢;simp only [List.mem_cons,List.not_mem_nil,or_false] at h ⊢;rcases h with rfl|rfl|rfl|rfl<;>simp
theorem zbX {x:String} (C T:Addr) (h:(["ValueError", "Exception", "BaseException", "object"]:List String).contains x=false):([.ref C,.ref T,.type "ValueError", .type "Exception", .type "BaseException", .type "object"]:List Value).contains (.type x)=false:=by
 rw [Bool.eq_false_iff] at h ⊢;intro e;refine h ?_;rw [List.contains_iff_mem] at e ⊢;simp only [List.mem_cons,List.not_mem_nil,or_false] at e ⊢;rcases e with e|e|e|e|e|e
 .cases e
 .cases e
 .exact .inl (Value.type.inj e)
 .exact .inr (.inl (Value.type.inj e))
 .exact .inr (.inr (.inl (Value.type.inj e)))
 .exact .inr (.inr (.inr (Value.type.inj e)))
theorem Kc.xc (k:Kc K T C ini):PySem.W.XC K C where
 cls:=by obtain ⟨cd,e,_⟩:=k.cd;rw [e];rfl
 ga:=k.ga
 gt:=k.gt
 sub:=(k.mro _).trans (by rw [zbY C T (by decide)])
 cl:=k.ca
 mro:=(k.mro _).trans (by rw [zbY C T (by decide)])
theorem Kc.xm (k:Kc K T C ini):XM K C ini where
 cls:=by
  obtain ⟨nm,qn,N,bs,sn,sub,ab,col,dd,k0,k1,k2,k3,k5,l⟩:=k.cls;exact ⟨nm,qn,N,bs,_,true,sn,sub,ab,col,dd,k0,k1,k2,k3,k5,l,zbY C T (by decide),zbX C T (by decide),zbX C T (by decide),zbY C T (by decide)⟩
 ini:=k.ini
 kp:=k.kp
theorem Kc.hd (k:Kc K T C ini):PySem.W.hasDictIn K C=true:=by
 obtain ⟨cd,e,h,m⟩:=k.cd;unfold PySem.W.hasDictIn;rw [e];exact h
theorem Kc.val (k:Kc K T C ini):PySem.W.kitOne K (.ref C) (.type "ValueError")=some true:=by
 unfold PySem.W.kitOne;rw [if_neg (fun z=>by cases beq_iff_eq.mp z)];unfold PySem.W.kitCls;dsimp only;rw [if_pos (by decide +kernel)];exact (k.mro _).trans (by rw [zbY C T (by decide)])
theorem Kc.no {D:Addr} {cd:ClassData} (k:Kc K T C ini) (hc:PySem.W.clsIn K D=some cd) (ht:PySem.W.typeIn K (.ref D)=some (.type "type")) (hn:D≠C/\D≠T):PySem.W.kitOne K (.ref C) (.ref D)=some false:=by
 unfold PySem.W.kitOne;rw [if_neg (fun z=>hn.1 (Value.ref.inj (beq_iff_eq.mp z)).symm)];unfold PySem.W.kitCls;dsimp only;rw [if_pos (by rw [hc,ht];rfl)];refine (k.mro _).trans ?_;congr 1;rw [Bool.eq_false_iff];intro z;rw [List.contains_iff_mem] at z;simp only [List.mem_cons,List.not_mem_nil,or_false] at z;rcases z with z|z|z|z|z|z
 .exact hn.1 (Value.ref.inj z)
 .exact hn.2 (Value.ref.inj z)
 .cases z
 .cases z
 .cases z
 .cases z
theorem zbW {x:String} (T:Addr) (h:(["ValueError", "Exception", "BaseException", "object"]:List String).contains x=false):([.ref T,.type "ValueError", .type "Exception", .type "BaseException", .type "object"]:List Value).contains (.type x)=false:=by
 have:=zbX T T h;rw [List.contains_cons] at this;exact (Bool.or_eq_false_iff.mp this).2
end
def cs (c0 c1 c2 c3 c4 c5 c6 c7 c8 c9:Addr):Nat->Addr
 | 0=>c0
 | 1=>c1
 | 2=>c2
 | 3=>c3
 | 4=>c4
 | 5=>c5
 | 6=>c6
 | 7=>c7
 | 8=>c8
 |_=>c9
theorem all_mk {l:PySem.W.OpenLaw} {w:World} {K:yS} {h:Heap} {mg:Str->Option Value} {fa oA jA hR hT hM T0 f1 f2 f3 f4 f5 f6 f7 f8 f9 f10 f11 f12 f13 f14 f15 f16 f17 f18 f19 f20 f21:Addr} (X:K.In h) (G:h.Ns mainGlobals mg) (hfa:mg "law" = some (.ref fa))
  {od1 an1 od2 an2 od3 an3 od4 an4 od5 an5 od6 an6 od7 an7 od8 an8 od9 an9 od10 an10 od11 an11 od12 an12 od13 an13 od14 an14 od15 an15 od16 an16 od17 an17 od18 an18 od19 an19 od20 an20 od21 an21:Option Addr} {sl1 sl2 sl3 sl4 sl5 sl6 sl7 sl8 sl9 sl10 sl11 sl12 sl13 sl14 sl15 sl16 sl17 sl18 sl19 sl20 sl21:Array (Option Value)} {oc1 kV1 dc1 pm1 cd1 ct1 oc2 kV2 dc2 pm2 cd2 ct2 oc3 kV3 dc3 pm3 cd3 ct3 oc4 kV4 dc4 pm4 cd4 ct4 oc5 kV5 dc5 pm5 cd5 ct5 oc6 kV6 dc6 pm6 cd6 ct6 oc7 kV7 dc7 pm7 cd7 ct7 oc8 kV8 dc8 pm8 cd8 ct8 oc9 kV9 dc9 pm9 cd9 ct9 oc10 kV10 dc10 pm10 cd10 ct10 oc11 kV11 dc11 pm11 cd11 ct11 oc12 kV12 dc12 pm12 cd12 ct12 oc13 kV13 dc13 pm13 cd13 ct13 oc14 kV14 dc14 pm14 cd14 ct14 oc15 kV15 dc15 pm15 cd15 ct15 oc16 kV16 dc16 pm16 cd16 ct16 oc17 kV17 dc17 pm17 cd17 ct17 oc18 kV18 dc18 pm18 cd18 ct18 oc19 kV19 dc19 pm19 cd19 ct19 oc20 kV20 dc20 pm20 cd20 ct20 oc21 kV21 dc21 pm21 cd21 ct21:Value} {oN oJ:Option Addr} {sN sJ:Array (Option Value)} {nR nT nM nN nJ:Nat} {tLo kR0 kR1 kR2 kR3 kR4 vR0 vR1 vR2 vR3 vR4 kT0 kT1 kT2 kT3 vT0 vT1 vT2 vT3 kM0 kM1 kM2 vM0 vM1 vM2 vN0 vN1 vN2 vN3 vJ0 vJ1 vJ2 vJ3 vJ4 vJ5:Tok} {hR0 hR1 hR2 hR3 hR4 hT0 hT1 hT2 hT3 hM0 hM1 hM2:Int} {C0 C1 C2 C3 C4 C5 C6 C7 C8 C9 N7 NT:Addr} {nm7 qn7 nmT qnT:Str} {bs7 sub7 bsT subT:List Value} {sn7 snT:List Str} {ab7 abT:Bool} {col7 colT:Option Bool} {dd7 ddT:Option Addr} {ka7 kb7 kc7 kd7 ke7 kaT kbT kcT kdT keT:Option Value} {cz1 cz2 cz3 cz4 cz5 cz6 cz7 cz8 cz9:ClassData}
  (a1:nsIn K mainGlobals "_law_deal" = some (some (.ref f1))) (l1:K.lookup f1=some ⟨oc1,od1,.func (fnOf "_law_deal" "_law_deal" (yU jY) (zI jY) (zX jY) .none kV1 dc1 pm1 an1 cd1 ct1),sl1⟩) (c1:codeIn K cd1 "_law_deal" = true) (k1:keepIn K (.ref f1)=true)
  (a2:nsIn K mainGlobals "_law_draw" = some (some (.ref f2))) (l2:K.lookup f2=some ⟨oc2,od2,.func (fnOf "_law_draw" "_law_draw" (yU jZ) (zI jZ) (zX jZ) .none kV2 dc2 pm2 an2 cd2 ct2),sl2⟩) (c2:codeIn K cd2 "_law_draw" = true) (k2:keepIn K (.ref f2)=true)
  (a3:nsIn K mainGlobals "_law_names" = some (some (.ref f3))) (l3:K.lookup f3=some ⟨oc3,od3,.func (fnOf "_law_names" "_law_names" (yU wS) (zI wS) (zX wS) .none kV3 dc3 pm3 an3 cd3 ct3),sl3⟩) (c3:codeIn K cd3 "_law_names" = true) (k3:keepIn K (.ref f3)=true)
  (a4:nsIn K mainGlobals "_law_large" = some (some (.ref f4))) (l4:K.lookup f4=some ⟨oc4,od4,.func (fnOf "_law_large" "_law_large" (yU wR) (zI wR) (zX wR) .none kV4 dc4 pm4 an4 cd4 ct4),sl4⟩) (c4:codeIn K cd4 "_law_large" = true) (k4:keepIn K (.ref f4)=true)
  (a5:nsIn K mainGlobals "_law_binds" = some (some (.ref f5))) (l5:K.lookup f5=some ⟨oc5,od5,.func (fnOf "_law_binds" "_law_binds" (yU wQ) (zI wQ) (zX wQ) .none kV5 dc5 pm5 an5 cd5 ct5),sl5⟩) (c5:codeIn K cd5 "_law_binds" = true) (k5:keepIn K (.ref f5)=true)
  (a6:nsIn K mainGlobals "_law_at" = some (some (.ref f6))) (l6:K.lookup f6=some ⟨oc6,od6,.func (fnOf "_law_at" "_law_at" (yU jF) (zI jF) (zX jF) .none kV6 dc6 pm6 an6 cd6 ct6),sl6⟩) (c6:codeIn K cd6 "_law_at" = true) (k6:keepIn K (.ref f6)=true)
  (a7:nsIn K mainGlobals "_law_text_words" = some (some (.ref f7))) (l7:K.lookup f7=some ⟨oc7,od7,.func (fnOf "_law_text_words" "_law_text_words" (yU yK) (zI yK) (zX yK) .none kV7 dc7 pm7 an7 cd7 ct7),sl7⟩) (c7:codeIn K cd7 "_law_text_words" = true) (k7:keepIn K (.ref f7)=true)
  (a8:nsIn K mainGlobals "put_together" = some (some (.ref f8))) (l8:K.lookup f8=some ⟨oc8,od8,.func (fnOf "put_together" "put_together" (yU xL) (zI xL) (zX xL) .none kV8 dc8 pm8 an8 cd8 ct8),sl8⟩) (c8:codeIn K cd8 "put_together" = true) (k8:keepIn K (.ref f8)=true)
  (a9:nsIn K mainGlobals "take_left" = some (some (.ref f9))) (l9:K.lookup f9=some ⟨oc9,od9,.func (fnOf "take_left" "take_left" (yU wB) (zI wB) (zX wB) .none kV9 dc9 pm9 an9 cd9 ct9),sl9⟩) (c9:codeIn K cd9 "take_left" = true) (k9:keepIn K (.ref f9)=true)
  (a10:nsIn K mainGlobals "begin_side" = some (some (.ref f10))) (l10:K.lookup f10=some ⟨oc10,od10,.func (fnOf "begin_side" "begin_side" (yU wT) (zI wT) (zX wT) .none kV10 dc10 pm10 an10 cd10 ct10),sl10⟩) (c10:codeIn K cd10 "begin_side" = true) (k10:keepIn K (.ref f10)=true)
  (a11:nsIn K mainGlobals "go_on" = some (some (.ref f11))) (l11:K.lookup f11=some ⟨oc11,od11,.func (fnOf "go_on" "go_on" (yU tP) (zI tP) (zX tP) .none kV11 dc11 pm11 an11 cd11 ct11),sl11⟩) (c11:codeIn K cd11 "go_on" = true) (k11:keepIn K (.ref f11)=true)
  (a12:nsIn K mainGlobals "read_joined" = some (some (.ref f12))) (l12:K.lookup f12=some ⟨oc12,od12,.func (fnOf "read_joined" "read_joined" (yU xD) (zI xD) (zX xD) .none kV12 dc12 pm12 an12 cd12 ct12),sl12⟩) (c12:codeIn K cd12 "read_joined" = true) (k12:keepIn K (.ref f12)=true)
  (a13:nsIn K mainGlobals "is_name" = some (some (.ref f13))) (l13:K.lookup f13=some ⟨oc13,od13,.func (fnOf "is_name" "is_name" (yU qT) (zI qT) (zX qT) .none kV13 dc13 pm13 an13 cd13 ct13),sl13⟩) (c13:codeIn K cd13 "is_name" = true) (k13:keepIn K (.ref f13)=true)
  (a14:nsIn K mainGlobals "read_word" = some (some (.ref f14))) (l14:K.lookup f14=some ⟨oc14,od14,.func (fnOf "read_word" "read_word" (yU wA) (zI wA) (zX wA) .none kV14 dc14 pm14 an14 cd14 ct14),sl14⟩) (c14:codeIn K cd14 "read_word" = true) (k14:keepIn K (.ref f14)=true)
  (a15:nsIn K mainGlobals "words_between_blanks" = some (some (.ref f15))) (l15:K.lookup f15=some ⟨oc15,od15,.func (fnOf "words_between_blanks" "words_between_blanks" (yU yW) (zI yW) (zX yW) .none kV15 dc15 pm15 an15 cd15 ct15),sl15⟩) (c15:codeIn K cd15 "words_between_blanks" = true) (k15:keepIn K (.ref f15)=true)
  (a16:nsIn K mainGlobals "words_and_brackets" = some (some (.ref f16))) (l16:K.lookup f16=some ⟨oc16,od16,.func (fnOf "words_and_brackets" "words_and_brackets" (yU yP) (zI yP) (zX yP) .none kV16 dc16 pm16 an16 cd16 ct16),sl16⟩) (c16:codeIn K cd16 "words_and_brackets" = true) (k16:keepIn K (.ref f16)=true)
  (a17:nsIn K mainGlobals "read_saying" = some (some (.ref f17))) (l17:K.lookup f17=some ⟨oc17,od17,.func (fnOf "read_saying" "read_saying" (yU xE) (zI xE) (zX xE) .none kV17 dc17 pm17 an17 cd17 ct17),sl17⟩) (c17:codeIn K cd17 "read_saying" = true) (k17:keepIn K (.ref f17)=true)
  (a18:nsIn K mainGlobals "_law_spoilt" = some (some (.ref f18))) (l18:K.lookup f18=some ⟨oc18,od18,.func (fnOf "_law_spoilt" "_law_spoilt" (yU xC) (zI xC) (zX xC) .none kV18 dc18 pm18 an18 cd18 ct18),sl18⟩) (c18:codeIn K cd18 "_law_spoilt" = true) (k18:keepIn K (.ref f18)=true)
  (a19:nsIn K mainGlobals "_law_refused" = some (some (.ref f19))) (l19:K.lookup f19=some ⟨oc19,od19,.func (fnOf "_law_refused" "_law_refused" (yU xK) (zI xK) (zX xK) .none kV19 dc19 pm19 an19 cd19 ct19),sl19⟩) (c19:codeIn K cd19 "_law_refused" = true) (k19:keepIn K (.ref f19)=true)
  (a20:nsIn K mainGlobals "_law_joined" = some (some (.ref f20))) (l20:K.lookup f20=some ⟨oc20,od20,.func (fnOf "_law_joined" "_law_joined" (yU xB) (zI xB) (zX xB) .none kV20 dc20 pm20 an20 cd20 ct20),sl20⟩) (c20:codeIn K cd20 "_law_joined" = true) (k20:keepIn K (.ref f20)=true)
  (a21:nsIn K mainGlobals "law" = some (some (.ref f21))) (l21:K.lookup f21=some ⟨oc21,od21,.func (fnOf "law" "law" (yU slaw) (zI slaw) (zX slaw) .none kV21 dc21 pm21 an21 cd21 ct21),sl21⟩) (c21:codeIn K cd21 "law" = true) (k21:keepIn K (.ref f21)=true)
  (z0:nsIn K mainGlobals "max" = some none)
  (z1:nsIn K mainGlobals "len" = some none)
  (z2:nsIn K mainGlobals "all" = some none)
  (z3:nsIn K mainGlobals "list" = some none)
  (z4:nsIn K mainGlobals "isinstance" = some none)
  (z5:nsIn K mainGlobals "int" = some none)
  (z6:nsIn K mainGlobals "range" = some none)
  (z7:nsIn K mainGlobals "reversed" = some none)
  (z8:nsIn K mainGlobals "str" = some none)
  (z9:nsIn K mainGlobals "tuple" = some none)
  (z10:nsIn K mainGlobals "enumerate" = some none)
  (z11:nsIn K mainGlobals "ValueError" = some none)
  (aLo:nsIn K mainGlobals "LONGEST_NAME" = some (some (.int 6 tLo)))
  (nb:nsIn K cStatics sharingNotToldKey=some none)
  (aR:nsIn K mainGlobals "BINDS" = some (some (.ref hR)))
  (lR:K.lookup hR=some ⟨.type "dict", none,.dict #[⟨hR0,.str "(" kR0,.int 0 vR0⟩,⟨hR1,.str "then" kR1,.int 1 vR1⟩,⟨hR2,.str "or" kR2,.int 2 vR2⟩,⟨hR3,.str "and" kR3,.int 3 vR3⟩,⟨hR4,.str "not" kR4,.int 4 vR4⟩] nR,#[]⟩)
  (hwR:(hR==sysModules)=false)
  (aT:nsIn K mainGlobals "TAKES" = some (some (.ref hT)))
  (lT:K.lookup hT=some ⟨.type "dict", none,.dict #[⟨hT0,.str "then" kT0,.int 2 vT0⟩,⟨hT1,.str "or" kT1,.int 2 vT1⟩,⟨hT2,.str "and" kT2,.int 3 vT2⟩,⟨hT3,.str ")" kT3,.int 1 vT3⟩] nT,#[]⟩)
  (hwT:(hT==sysModules)=false)
  (aM:nsIn K mainGlobals "MADE" = some (some (.ref hM)))
  (lM:K.lookup hM=some ⟨.type "dict", none,.dict #[⟨hM0,.str "then" kM0,.str "if" vM0⟩,⟨hM1,.str "or" kM1,.str "or" vM1⟩,⟨hM2,.str "and" kM2,.str "and" vM2⟩] nM,#[]⟩)
  (hwM:(hM==sysModules)=false)
  (aN:nsIn K mainGlobals "NO_NAMES" = some (some (.ref oA)))
  (lN:K.lookup oA=some ⟨.type "tuple", oN,.seq #[.str "and" vN0,.str "or" vN1,.str "not" vN2,.str "then" vN3] nN,sN⟩)
  (aJ:nsIn K mainGlobals "JOINING" = some (some (.ref jA)))
  (lJ:K.lookup jA=some ⟨.type "tuple", oJ,.seq #[.str "(" vJ0,.str ")" vJ1,.str "not" vJ2,.str "and" vJ3,.str "or" vJ4,.str "then" vJ5] nJ,sJ⟩)
  (A0:nsIn K mainGlobals "NoText" = some (some (.ref C0)))
  (A1:nsIn K mainGlobals "NoBook" = some (some (.ref C1)))
  (A2:nsIn K mainGlobals "NotLet" = some (some (.ref C2)))
  (A3:nsIn K mainGlobals "NoMove" = some (some (.ref C3)))
  (A4:nsIn K mainGlobals "NoPlan" = some (some (.ref C4)))
  (A5:nsIn K mainGlobals "NoTalker" = some (some (.ref C5)))
  (A6:nsIn K mainGlobals "NoPaper" = some (some (.ref C6)))
  (A7:nsIn K mainGlobals "NoWeb" = some (some (.ref C7)))
  (A8:nsIn K mainGlobals "NoRow" = some (some (.ref C8)))
  (A9:nsIn K mainGlobals "NoName" = some (some (.ref C9)))
  (aE:nsIn K mainGlobals "TalkError" = some (some (.ref T0)))
  (L7:K.lookup C0=some (excClassObj nm7 qn7 C0 N7 bs7 [.ref T0,.type "ValueError", .type "Exception", .type "BaseException", .type "object"] true sn7 sub7 ab7 col7 dd7 ka7 kb7 kc7 kd7 ke7 "ValueError.__new__"))
  (G7:findIn K (.ref C0) "__getattribute__" = some (some (.builtin "BaseException.__getattribute__")))
  (H7:findIn K (.ref C0) "__getattr__" = some none)
  (J7:findIn K (.ref C0) "__class__" = some (some (.builtin "object.__class__")))
  (I7:findIn K (.ref C0) "__init__" = some (some (.builtin "ValueError.__init__")))
  (K7:keepIn K (.ref C0)=true)
  (LT:K.lookup T0=some (excClassObj nmT qnT T0 NT bsT [.type "ValueError", .type "Exception", .type "BaseException", .type "object"] true snT subT abT colT ddT kaT kbT kcT kdT keT "ValueError.__new__"))
  (IT:findIn K (.ref T0) "__init__" = some (some (.builtin "ValueError.__init__")))
  (KT:keepIn K (.ref T0)=true)
  (xg:PySem.W.specialIn K (.builtin "object.__class__") "__get__" = some (some (.builtin "getset_descriptor.__get__")))
  (xt:PySem.W.takesIn K (.builtin "object.__class__")=some true)
  (D1:PySem.W.clsIn K C1=some cz1)
  (E1:PySem.W.typeIn K (.ref C1)=some (.type "type"))
  (D2:PySem.W.clsIn K C2=some cz2)
  (E2:PySem.W.typeIn K (.ref C2)=some (.type "type"))
  (D3:PySem.W.clsIn K C3=some cz3)
  (E3:PySem.W.typeIn K (.ref C3)=some (.type "type"))
  (D4:PySem.W.clsIn K C4=some cz4)
  (E4:PySem.W.typeIn K (.ref C4)=some (.type "type"))
  (D5:PySem.W.clsIn K C5=some cz5)
  (E5:PySem.W.typeIn K (.ref C5)=some (.type "type"))
  (D6:PySem.W.clsIn K C6=some cz6)
  (E6:PySem.W.typeIn K (.ref C6)=some (.type "type"))
  (D7:PySem.W.clsIn K C7=some cz7)
  (E7:PySem.W.typeIn K (.ref C7)=some (.type "type"))
  (D8:PySem.W.clsIn K C8=some cz8)
  (E8:PySem.W.typeIn K (.ref C8)=some (.type "type"))
  (D9:PySem.W.clsIn K C9=some cz9)
  (E9:PySem.W.typeIn K (.ref C9)=some (.type "type"))
  (hw1:∀ d∈[C1,C2,C3,C4,C5,C6,C7,C8,C9],d≠C0/\d≠T0) :
  ∃ fd:FuncData,(∀ (s:Shared) (u:Value),BindsTo s fd ⟨[u],[]⟩ [("_law_script", u)])/\fd.scope.names.lookup ("_law_script" : Str)=some .local/\∀ base:Heap,K.In base->base.Ns mainGlobals mg->FnOk l.prog w K mg base CX0 119 fa fd ["_law_script"] (jR K cZ):=by
 have e:=hfa.symm.trans (mg_of X G a21);cases e;have sz0:∀ k:Nat,k<=9->k<=sizeLine:=fun k hk=>by rw [sizeLine_eq];omega
 have y7:=Kc.mk' L7 G7 H7 J7 I7 K7
 have no:∀ i∈[1,3,9,4,6,8,5,2,7],PySem.W.kitOne K (.ref C0) (.ref ((cs C0 C1 C2 C3 C4 C5 C6 C7 C8 C9) i))=some false :=
  zZ (y7.no D1 E1 (hw1 C1 (by simp))) (zZ (y7.no D3 E3 (hw1 C3 (by simp))) (zZ (y7.no D9 E9 (hw1 C9 (by simp))) (zZ (y7.no D4 E4 (hw1 C4 (by simp))) (zZ (y7.no D6 E6 (hw1 C6 (by simp))) (zZ (y7.no D8 E8 (hw1 C8 (by simp))) (zZ (y7.no D5 E5 (hw1 C5 (by simp))) (zZ (y7.no D2 E2 (hw1 C2 (by simp))) (zZ (y7.no D7 E7 (hw1 C7 (by simp))) (yT)))))))))
 have c:Cl K (cs C0 C1 C2 C3 C4 C5 C6 C7 C8 C9):=⟨⟨xg,xt⟩,y7.xc,by unfold PySem.W.kitOne;rw [if_pos (beq_self_eq_true _)],no,y7.val,rfl,rfl,rfl,zZ rfl (zZ rfl (zZ rfl (zZ rfl (zZ rfl yT))))⟩;have xT:XM K T0 (.builtin "ValueError.__init__"):=⟨⟨_,_,_,_,_,_,_,_,_,_,_,_,_,_,_,_,LT,by rw [List.contains_iff_mem];simp,zbW T0 (by decide),zbW T0 (by decide),by rw [List.contains_iff_mem];simp⟩,IT,KT⟩;have sb:bK K C0 T0:=⟨_,_,_,_,_,_,_,_,_,_,_,_,_,_,_,_,L7,by rw [List.contains_iff_mem];simp⟩
 have T:Txt K mg (cs C0 C1 C2 C3 C4 C5 C6 C7 C8 C9) oA jA hR hT hM T0:={
  deal:=⟨f1,mg_of X G a1,HD.mk' l1 c1 k1⟩
  draw:=⟨f2,mg_of X G a2,HD.mk' l2 c2 k2⟩
  names:=⟨f3,mg_of X G a3,HD.mk' l3 c3 k3⟩
  large:=⟨f4,mg_of X G a4,HD.mk' l4 c4 k4⟩
  binds:=⟨f5,mg_of X G a5,HD.mk' l5 c5 k5⟩
  lat:=⟨f6,mg_of X G a6,HD.mk' l6 c6 k6⟩
  ltw:=⟨f7,mg_of X G a7,HD.mk' l7 c7 k7⟩
  put_:=⟨f8,mg_of X G a8,HD.mk' l8 c8 k8⟩
  take_:=⟨f9,mg_of X G a9,HD.mk' l9 c9 k9⟩
  begin_:=⟨f10,mg_of X G a10,HD.mk' l10 c10 k10⟩
  go_:=⟨f11,mg_of X G a11,HD.mk' l11 c11 k11⟩
  rj:=⟨f12,mg_of X G a12,HD.mk' l12 c12 k12⟩
  isn:=⟨f13,mg_of X G a13,HD.mk' l13 c13 k13⟩
  rw_:=⟨f14,mg_of X G a14,HD.mk' l14 c14 k14⟩
  wb:=⟨f15,mg_of X G a15,HD.mk' l15 c15 k15⟩
  wa:=⟨f16,mg_of X G a16,HD.mk' l16 c16 k16⟩
  rs:=⟨f17,mg_of X G a17,HD.mk' l17 c17 k17⟩
  spo:=⟨f18,mg_of X G a18,HD.mk' l18 c18 k18⟩
  ref:=⟨f19,mg_of X G a19,HD.mk' l19 c19 k19⟩
  jo:=⟨f20,mg_of X G a20,HD.mk' l20 c20 k20⟩
  max:=mg_none_of X G z0
  len:=mg_none_of X G z1
  all:=mg_none_of X G z2
  list:=mg_none_of X G z3
  isi:=mg_none_of X G z4
  int:=mg_none_of X G z5
  range:=mg_none_of X G z6
  rev:=mg_none_of X G z7
  str:=mg_none_of X G z8
  tup:=mg_none_of X G z9
  enu:=mg_none_of X G z10
  val:=mg_none_of X G z11
  mgLo:=⟨tLo,mg_of X G aLo⟩
  nb:=nb
  mgR:=mg_of X G aR
  rpR:=fun H=>⟨hR,[.int 0,.int 1,.int 2,.int 3,.int 4],rfl,⟨_,_,_,lR,⟨rfl,rfl,rfl⟩,rfl,sz0 5 (by decide),hwR,⟨"(", kR0,.int 0,_,_,rfl,rfl,rfl,⟨_,rfl⟩,⟨"then", kR1,.int 1,_,_,rfl,rfl,rfl,⟨_,rfl⟩,⟨"or", kR2,.int 2,_,_,rfl,rfl,rfl,⟨_,rfl⟩,⟨"and", kR3,.int 3,_,_,rfl,rfl,rfl,⟨_,rfl⟩,⟨"not", kR4,.int 4,_,_,rfl,rfl,rfl,⟨_,rfl⟩,⟨rfl,rfl⟩⟩⟩⟩⟩⟩⟩,⟨_,_,rfl,rfl,⟨_,_,rfl,rfl,⟨_,_,rfl,rfl,⟨_,_,rfl,rfl,⟨_,_,rfl,rfl,rfl⟩⟩⟩⟩⟩⟩
  mgT:=mg_of X G aT
  rpT:=fun H=>⟨hT,[.int 2,.int 2,.int 3,.int 1],rfl,⟨_,_,_,lT,⟨rfl,rfl,rfl⟩,rfl,sz0 4 (by decide),hwT,⟨"then", kT0,.int 2,_,_,rfl,rfl,rfl,⟨_,rfl⟩,⟨"or", kT1,.int 2,_,_,rfl,rfl,rfl,⟨_,rfl⟩,⟨"and", kT2,.int 3,_,_,rfl,rfl,rfl,⟨_,rfl⟩,⟨")", kT3,.int 1,_,_,rfl,rfl,rfl,⟨_,rfl⟩,⟨rfl,rfl⟩⟩⟩⟩⟩⟩,⟨_,_,rfl,rfl,⟨_,_,rfl,rfl,⟨_,_,rfl,rfl,⟨_,_,rfl,rfl,rfl⟩⟩⟩⟩⟩
  mgM:=mg_of X G aM
  rpM:=fun H=>⟨hM,[.str "if", .str "or", .str "and"],rfl,⟨_,_,_,lM,⟨rfl,rfl,rfl⟩,rfl,sz0 3 (by decide),hwM,⟨"then", kM0,.str "if", _,_,rfl,rfl,rfl,⟨_,rfl⟩,⟨"or", kM1,.str "or", _,_,rfl,rfl,rfl,⟨_,rfl⟩,⟨"and", kM2,.str "and", _,_,rfl,rfl,rfl,⟨_,rfl⟩,⟨rfl,rfl⟩⟩⟩⟩⟩,⟨_,_,rfl,rfl,⟨_,_,rfl,rfl,⟨_,_,rfl,rfl,rfl⟩⟩⟩⟩
  mgN:=mg_of X G aN
  rpN:=zci (vs:=[.str "and", .str "or", .str "not", .str "then"]) lN rfl rfl (sz0 4 (by decide)) (.cons ⟨_,rfl⟩ (.cons ⟨_,rfl⟩ (.cons ⟨_,rfl⟩ (.cons ⟨_,rfl⟩ .nil)))) fun H=>⟨_,_,rfl,rfl,⟨_,_,rfl,rfl,⟨_,_,rfl,rfl,⟨_,_,rfl,rfl,rfl⟩⟩⟩⟩
  mgJ:=mg_of X G aJ
  rpJ:=zci (vs:=[.str "(", .str ")", .str "not", .str "and", .str "or", .str "then"]) lJ rfl rfl (sz0 6 (by decide)) (.cons ⟨_,rfl⟩ (.cons ⟨_,rfl⟩ (.cons ⟨_,rfl⟩ (.cons ⟨_,rfl⟩ (.cons ⟨_,rfl⟩ (.cons ⟨_,rfl⟩ .nil)))))) fun H=>⟨_,_,rfl,rfl,⟨_,_,rfl,rfl,⟨_,_,rfl,rfl,⟨_,_,rfl,rfl,⟨_,_,rfl,rfl,⟨_,_,rfl,rfl,rfl⟩⟩⟩⟩⟩⟩
  qc:=c
  mgE:=mg_of X G aE
  tr:=⟨_,xT⟩
  sub:=sb
  x0:=y7.xm
  m0:=mg_of X G A0
  m1:=mg_of X G A1
  m2:=mg_of X G A2
  m3:=mg_of X G A3
  m4:=mg_of X G A4
  m5:=mg_of X G A5
  m6:=mg_of X G A6
  m7:=mg_of X G A7
  m8:=mg_of X G A8
  m9:=mg_of X G A9 }
 obtain ⟨fd,hb,hx,hF⟩:=zjv (P:=l.prog) (w:=w) T (HD.mk' l21 c21 k21);exact ⟨fd,hb,hx,fun base _ _=>hF base⟩
end K14
namespace PySem.W.Fast
def tw4496579276045637992:=0
def tw16586317931406536032:=0
def tw18239273818292939925:=0
def tw4321631501746081188:=0
def tw12801925158637210277:=0
def tw7988814603708548466:=0
def tw17335359780378423777:=0
def tw3753515109137480205:=0
def tw1623836663990551659:=0
def tw2390260711488003505:=0
def tw14653565326395926965:=0
def tw14870428870973626416:=0
def tw6395371975893168468:=0
def tw4568987646459665838:=0
def tw8227937765511104209:=0
def tw4884200493688570165:=0
def tw10737581445289766525:=0
def tw920475289730523666:=0
def tw12227028147247268483:=0
def tw11819037796818603610:=0
def tw2196055509948356013:=0
def tw14199654123877048640:=0
def tw12004243396100062350:=0
def tw8855467507397911630:=0
def tw4115123795883810441:=0
def tw4545850984064270684:=0
def tw6104768146852256316:=0
def tw7783071362387917185:=0
def tw13727689607984448967:=0
def tw2178737485075677634:=0
def tw14944359324966463078:=0
def tw11639608081766889636:=0
def tw17484617667809142950:=0
def tw15493766375379965594:=0
def tw5789737480255951625:=0
def tw12952462461687776439:=0
def tw9077256741404753195:=0
def tw7831370101576883796:=0
def tw3819526137551260997:=0
def tw16298634799994261793:=0
def tw11410324655985157828:=0
def tw9395332777644740058:=0
def tw2574175991983718131:=0
def tw11158057769234243068:=0
def tw13872162883110082347:=0
def tw11885205327951005002:=0
def tw2646430006462940120:=0
def tw13384923568877179529:=0
def tw10246824492629993536:=0
def tw10301526616115952317:=0
def tw3687019552476041461:=0
def tw672692525346013283:=0
def tw1024407774720689227:=0
def tw5136172264909990109:=0
def tw12549350877301822050:=0
def tw5621928781830919022:=0
def tw10847331303109841591:=0
def tw2025038621778586736:=0
def tw16874639171555107337:=0
def tw14651698365491850078:=0
def tw2247755781778667529:=0
def tw17284125945808344134:=0
def tw10474243336813619070:=0
def tw8594776631702172291:=0
def tw15130196722965331021:=0
def tw11713910225150109196:=0
def tw1024820325702842145:=0
def tw13922725998316989699:=0
def tw103276107247196215:=0
def tw15259608114750057587:=0
def tw13516523565542416409:=0
def tw14229141642224150916:=0
def tw333127423838453152:=0
def tw4933990742067859329:=0
def tw12446544510666499998:=0
def tw9270721616317985909:=0
def tw2901600036959803542:=0
def tw9670450328039326965:=0
def tw6651071189760573184:=0
def tw4693398303716276831:=0
def tw14696997485074026416:=0
def tw18028920527877554334:=0
def tw15480088129482619175:=0
def tw14799235706776446871:=0
def tw17350535839291843:=0
def tw8724614601115385142:=0
def tw15457234772117245474:=0
def tw8777657504291519061:=0
def tw15160304703387793070:=0
def tw11974611926877675881:=0
def tw7270146270118767944:=0
def tw10085391309190769897:=0
def tw13206530490109945621:=0
def tw14171023966530630788:=0
def tw1065508577701062347:=0
def tw8985059267362751271:=0
def tw12165108411601096844:=0
def tw2363383616281369947:=0
def tw16872866189440674903:=0
def tw10375379600371456221:=0
def tw1343907338236485172:=0
def tw14515741730275331734:=0
def tw6777923543465693012:=0
def tw2590604452176395693:=0
def tw18401022976240677917:=0
def tw14121761755577136342:=0
def tw11433763526110517723:=0
def tw10672774401894610178:=0
def tw9917464127758797299:=0
def tw12870703084074545968:=0
def tw13143588918143162639:=0
def tw15225765021988697310:=0
def tw11451790063748712890:=0
def tw17889156357138802267:=0
def tw17330798616525802371:=0
def tw12434789729466167696:=0
def tw12723096530713362072:=0
def tw12978276598879717160:=0
def tw9642179578241161365:=0
def tw2770955014081935248:=0
def tw62060373169958750:=0
def tw12619501074049574739:=0
def tw7069889405573757147:=0
def tw11543191034516188989:=0
def tw2561266454884030144:=0
def tw5327636451811142100:=0
def tw11772301303688668616:=0
def tw13731352361678707130:=0
def tw10984366397002896885:=0
def tw2301853219245669483:=0
def tw18266109989776080641:=0
def tw10708439358594728582:=0
def tw13547990323721297989:=0
def tw11881544058567300032:=0
def tw877161661109883157:=0
def tw6414844131755004825:=0
def tw13666733742571591731:=0
def tw8147666849389316382:=0
def tw6406067614250708404:=0
def tw14329596594067459856:=0
def tw16566801609263213258:=0
def tw10030656134695852244:=0
def tw14526539888955398654:=0
def tw9176513656573361493:=0
def tw15909346606588010784:=0
def tw904166138625750359:=0
def tw16743920474415393865:=0
def tw4789715745071675201:=0
def tw6546886109472592415:=0
def tw15421862696363493351:=0
def tw13225044407616724161:=0
def tw14957349519001360661:=0
def tw14813003946362243101:=0
def tw7460362935390513018:=0
def tw10548567263562649926:=0
def tw17482228353523440959:=0
def tw7465429692184383954:=0
def tw15369393587246351668:=0
def tw668137815752330784:=0
def tw9579992275241715935:=0
def tw8888473803152855586:=0
def tw8416158128311739734:=0
def tw14913983988898805955:=0
def tw91318757613241203:=0
def tw128258459809499652:=0
def tw18085047533602629646:=0
def tw16518276760750447206:=0
def tw16394992741882347087:=0
def tw10969149419557452483:=0
def tw16612845405227365388:=0
def tw2382076688283096803:=0
def tw17451457494451809220:=0
def tw1797020713669363006:=0
def tw13277128470170861434:=0
def tw4831889738527508101:=0
def tw15754125284495823582:=0
def tw15534887150199608111:=0
def tw15881934656443657802:=0
def tw15216622359072378421:=0
def tw6428329329754750876:=0
def tw7304716603439256311:=0
def tw3361001895275173623:=0
def tw15435015051405024761:=0
def tw4805240879855596013:=0
def tw17098234714905290343:=0
def tw4221856229143563262:=0
def tw17916223391464824087:=0
def tw14867788957372869480:=0
def tw14813879245963458765:=0
def tw5229027748912954543:=0
def tw2279559002835647575:=0
def tw7898371248936426152:=0
def tw6937480598269470042:=0
def tw1654242941982213953:=0
def tw17095221486571999119:=0
def tw15067564660430415709:=0
def tw14307122627685550628:=0
def tw10580387968620134476:=0
def tw1234541138387847192:=0
def tw10364429656465971533:=0
def tw466715130568075531:=0
def tw10340828281713128272:=0
def tw4886994260526102183:=0
def tw7971037351534799954:=0
def tw7761077360862532909:=0
def tw399907246934626505:=0
def tw2839732753423829746:=0
def tw2577993985151334215:=0
def tw16863279874204204088:=0
def tw16504311081304838508:=0
def tw15303556048292512056:=0
def tw15270759810032324806:=0
def tw13686649167627243991:=0
def tw12124888088935064245:=0
def tw13124503258888446675:=0
def tw9934104910620108932:=0
def tw15217403083994193242:=0
def tw3326611554494743712:=0
def tw3431694442690305276:=0
def tw6290300000588209820:=0
def tw12309318001871270153:=0
def tw10416932630663999802:=0
def tw6269661339292247904:=0
def tw5615217348934531612:=0
def tw17170511862089623461:=0
def tw16589127068666616362:=0
def tw5626598342432204934:=0
def tw6915665307372825235:=0
def tw16514136395309757513:=0
def tw11827246353237045388:=0
def tw7560452467433424490:=0
def tw7376586719879504753:=0
def tw16572603781980995870:=0
def tw1552658497830989282:=0
def tw2013374194859106790:=0
def tw8129892351116065544:=0
def tw7793665760601344425:=0
def tw6941369483335373891:=0
def tw6537296319059930074:=0
def tw3981200317783379662:=0
def tw18389529007433661596:=0
def tw18340692455946271985:=0
def tw15846705691654866373:=0
def tw15568106209029479686:=0
def tw13621634588553359597:=0
def tw10894280780692136053:=0
def tw9612560278408118959:=0
def tw6204216037075896275:=0
def tw6118188094878538778:=0
def tw5832147794763142558:=0
def tw4123678831010330601:=0
def tw17926723517513259605:=0
def tw17771986560196162223:=0
def tw16653004157855338648:=0
def tw16483065167785659621:=0
def tw15331309981963310480:=0
def tw10565872729657731296:=0
def tw15893072987739213160:=0
def tw9704723668713521149:=0
def tw692646065164781267:=0
def tw3044738421939298530:=0
def tw2833322246130385469:=0
def tw16690717985815659085:=0
def tw13654558082417290729:=0
def tw13629252073535299695:=0
def tw12734734348469282969:=0
def tw10832427832741180235:=0
def tw10539500466017234004:=0
def tw7902058494925017423:=0
def tw6482541640558474578:=0
def tw6228328448319965205:=0
def tw5243191489414713808:=0
def tw3812424095885026254:=0
def tw1897889991905382053:=0
def tw18345095199773492324:=0
def tw18333802166755089179:=0
def tw12805394652468935275:=0
def tw11532333115907562372:=0
end PySem.W.Fast
open PySem PySem.W PyProof.Rows
set_option maxRecDepth 100000 in
set_option maxHeartbeats 0 in
theorem PySem.Challenge.cw_talkcourt_k14_texts_without_a_saying_holds : PySem.Challenge.rw_talkcourt_k14_texts_without_a_saying.Holds := by
 w_on;o_law;k_head;(case hw=>w_witness2)
 k_fill
 refine L3.walk3 (l:=PySem.Challenge.rw_talkcourt_k14_texts_without_a_saying) (k:=119) rfl rfl ⟨rfl,rfl,by decide,by decide⟩ (fun w h Y=>PySem.W.kIn_of Y) ?F
 case F =>
  intro w mg fa h KX G hmg;refine' K14.all_mk KX G hmg ?a1 ?l1 ?c1 ?k1 ?a2 ?l2 ?c2 ?k2 ?a3 ?l3 ?c3 ?k3 ?a4 ?l4 ?c4 ?k4 ?a5 ?l5 ?c5 ?k5 ?a6 ?l6 ?c6 ?k6 ?a7 ?l7 ?c7 ?k7 ?a8 ?l8 ?c8 ?k8 ?a9 ?l9 ?c9 ?k9 ?a10 ?l10 ?c10 ?k10 ?a11 ?l11 ?c11 ?k11 ?a12 ?l12 ?c12 ?k12 ?a13 ?l13 ?c13 ?k13 ?a14 ?l14 ?c14 ?k14 ?a15 ?l15 ?c15 ?k15 ?a16 ?l16 ?c16 ?k16 ?a17 ?l17 ?c17 ?k17 ?a18 ?l18 ?c18 ?k18 ?a19 ?l19 ?c19 ?k19 ?a20 ?l20 ?c20 ?k20 ?a21 ?l21 ?c21 ?k21 ?z0 ?z1 ?z2 ?z3 ?z4 ?z5 ?z6 ?z7 ?z8 ?z9 ?z10 ?z11 ?aLo ?nb ?aR ?lR ?hwR ?aT ?lT ?hwT ?aM ?lM ?hwM ?aN ?lN ?aJ ?lJ ?A0 ?A1 ?A2 ?A3 ?A4 ?A5 ?A6 ?A7 ?A8 ?A9 ?aE ?L7 ?G7 ?H7 ?J7 ?I7 ?K7 ?LT ?IT ?KT ?xg ?xt ?D1 ?E1 ?D2 ?E2 ?D3 ?E3 ?D4 ?E4 ?D5 ?E5 ?D6 ?E6 ?D7 ?E7 ?D8 ?E8 ?D9 ?E9 ?hw1
  case a1|l1|c1|k1|a2|l2|c2|k2|a3|l3|c3|k3|a4|l4|c4|k4|a5|l5|c5|k5|a6|l6|c6|k6|a7|l7|c7|k7|a8|l8|c8|k8|a9|l9|c9|k9|a10|l10|c10|k10|a11|l11|c11|k11|a12|l12|c12|k12|a13|l13|c13|k13|a14|l14|c14|k14|a15|l15|c15|k15|a16|l16|c16|k16|a17|l17|c17|k17|a18|l18|c18|k18|a19|l19|c19|k19|a20|l20|c20|k20|a21|l21|c21|k21|z0|z1|z2|z3|z4|z5|z6|z7|z8|z9|z10|z11|aLo|nb|aR|lR|aT|lT|aM|lM|aN|lN|aJ|lJ|A0|A1|A2|A3|A4|A5|A6|A7|A8|A9|aE|L7|G7|H7|J7|I7|K7|LT|IT|KT|xg|xt|D1|E1|D2|E2|D3|E3|D4|E4|D5|E5|D6|E6|D7|E7|D8|E8|D9|E9=>k_is
  case hwR=>first|k_is|decide|rfl
  case hwT=>first|k_is|decide|rfl
  case hwM=>first|k_is|decide|rfl
  case hw1=>first|k_is|decide|rfl
