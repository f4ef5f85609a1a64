import PyProof.Rows.All
import Wide.All
import OpenK.AllK
import Wide.FinOn
import Lean
import PyProof.EqAt
import PyProof.EqKinds
import PyProof.TupleCall
import PySem.Challenge.RW_talkcourt_k48_conditions
set_option Elab.async false
set_option linter.all false
set_option maxRecDepth 100000
set_option maxHeartbeats 8000000
theorem zzN:¬ (false=true):=Bool.false_ne_true
theorem zzB:(false=true)=False:=Bool.false_eq_true
theorem zzC {α:Type _} {a:α} {l:List α}:(a::l).length=l.length+1:=rfl
theorem zzL {α:Type _}:([]:List α).length=0:=rfl
theorem zzA (n:Nat):0+n=n:=Nat.zero_add n
theorem zzM {α β:Type _} {l:List α} {f:α->β}:(l.map f).length=l.length:=List.length_map f
theorem zzP {α β:Type _} {b:β} {l:List α} {f:α->β} (h:b∈l.map f):∃ a,a∈l/\f a=b:=List.mem_map.mp h
theorem zzS {α:Type _} {l:List α}:l.toArray.size=l.length:=List.size_toArray
theorem zzR (n:Nat):n<=n:=Nat.le_refl n
theorem zzO {α:Type _} {a b:α} (h:a∈[b]):a=b:=List.mem_singleton.mp h
theorem zzT {α:Type _} {a:α} {l:List α}:a∈a::l:=List.mem_cons_self
theorem zzU {α β:Type _} {a:α} {l:List α} {f:α->β}:(a::l).map f=f a::l.map f:=rfl
theorem zzV {α β:Type _} {f:α->β}:([]:List α).map f=[]:=rfl
theorem zzW {α:Type _} {l l':List α}:(l++l').length=l.length+l'.length:=List.length_append
noncomputable section
namespace L2
open PySem PySem.Spec PyProof.Rows
abbrev yE:=Sum Int Str
def hV:yE->Value->Bool
 | .inl k,v=>Value.isInt k v
 | .inr x,v=>Value.isStrOf x v
def keyH (w:World):yE->Int
 | .inl k=>hashInt k
 | .inr x=>hashStr w x
theorem xX:∀ {k:yE} {v:Value},hV k v=true->(∃ i t,k=Sum.inl i/\v=Value.int i t)\/(∃ x t,k=Sum.inr x/\v=Value.str x t)
 | .inl i,v,h=>by
  obtain ⟨t,e⟩:=Value.isInt_shape (k:=i) (v:=v) h;exact .inl ⟨i,t,rfl,e⟩
 | .inr x,v,h=>by
  obtain ⟨t,e⟩:=Value.isStrOf_shape (x:=x) (v:=v) h;exact .inr ⟨x,t,rfl,e⟩
theorem zcD (i:Int) (t:Tok):hV (.inl i) (.int i t)=true:=by simp [hV,Value.isInt]
theorem zcB (x:Str) (t:Tok):hV (.inr x) (.str x t)=true:=by simp [hV,Value.isStrOf]
theorem zhW (a b:Int):decide ((Sum.inl a:yE)=Sum.inl b)=(a==b):=by
 by_cases e:a=b
 .subst e;simp
 .have h:¬ (Sum.inl a:yE)=Sum.inl b:=fun q=>e (Sum.inl.inj q);rw [decide_eq_false h];exact (beq_eq_false_iff_ne.mpr e).symm
theorem zhS (a b:Str):decide ((Sum.inr a:yE)=Sum.inr b)=decide (a=b):=by
 by_cases e:a=b
 .subst e;simp
 .have h:¬ (Sum.inr a:yE)=Sum.inr b:=fun q=>e (Sum.inr.inj q);rw [decide_eq_false h,decide_eq_false e]
theorem zhV (a:Int) (b:Str):decide ((Sum.inl a:yE)=Sum.inr b)=false:=decide_eq_false (fun q=>nomatch q)
theorem zhT (a:Str) (b:Int):decide ((Sum.inr a:yE)=Sum.inl b)=false:=decide_eq_false (fun q=>nomatch q)
def xZ (prog:Program) (w:World):PySem.KeyKind prog w yE where
 is:=hV
 hash:=keyH w
 inj:=fun v a b ha hb=>by
  rcases xX ha with ⟨i,t,rfl,rfl⟩|⟨x,t,rfl,rfl⟩
  .rcases xX hb with ⟨j,u,rfl,e⟩|⟨y,u,rfl,e⟩
   .injection e with e1 _;rw [e1]
   .exact nomatch e
  .rcases xX hb with ⟨j,u,rfl,e⟩|⟨y,u,rfl,e⟩
   .exact nomatch e
   .injection e with e1 _;rw [e1]
 byValue:=fun k v h=>by
  rcases xX h with ⟨i,t,rfl,rfl⟩|⟨x,t,rfl,rfl⟩<;>rfl
 pyHash:=fun hv h=>by
  rcases xX hv with ⟨i,t,rfl,rfl⟩|⟨x,t,rfl,rfl⟩
  .exact wpAny_pyHash_int h
  .exact wpAny_pyHash_str h
 eqBool:=fun hu hv h=>by
  rcases xX hu with ⟨i,t,rfl,rfl⟩|⟨x,t,rfl,rfl⟩
  .rcases xX hv with ⟨j,u,rfl,rfl⟩|⟨y,u,rfl,rfl⟩
   .rw [zhW] at h;exact wpAny_eqBool_int h
   .rw [zhV] at h;exact SeqAt.EqAt.int_str i t y u _ _ _ _ h
  .rcases xX hv with ⟨j,u,rfl,rfl⟩|⟨y,u,rfl,rfl⟩
   .rw [zhT] at h;exact SeqAt.EqAt.str_int x t j u _ _ _ _ h
   .rw [zhS] at h;exact wpAny_eqBool_str h
 «strs»:=fun k x t v h=>by
  rcases xX h with ⟨i,u,rfl,e⟩|⟨y,u,rfl,e⟩
  .exact nomatch e
  .injection e with e1 _
   subst e1;cases v<;>rfl
theorem zap (prog:Program) (w:World) (i:Int) (t:Tok):(xZ prog w).is (.inl i) (.int i t)=true:=zcD i t
theorem zao (prog:Program) (w:World) (x:Str) (t:Tok):(xZ prog w).is (.inr x) (.str x t)=true:=zcB x t
end L2
namespace L2
open PySem PySem.Spec PyProof.Rows
inductive V where
 |non|bl (b:Bool)|int (i:Int)|str (x:Str)|byt (b:Array UInt8)|flt (b:UInt64)|ref (a:Addr)|ty (n:String)
 deriving DecidableEq
def yW:V->Value->Prop
 | .non,u=>u=Value.none
 | .bl b,u=>u=Value.bool b
 | .int i,u=>∃ t,u=Value.int i t
 | .str x,u=>∃ t,u=Value.str x t
 | .byt b,u=>∃ t,u=Value.bytes b t
 | .flt b,u=>∃ t,u=Value.float b t
 | .ref a,u=>u=Value.ref a
 | .ty n,u=>u=Value.type n
abbrev yX:List V->List Value->Prop:=Paired yW
theorem yX.length {xs:List V} {us:List Value} (r:yX xs us):xs.length=us.length:=Paired.length r
theorem yX.get:∀ {xs:List V} {us:List Value} {i:Nat} {x:V},yX xs us->xs[i]?=some x->∃ u,us[i]?=some u/\yW x u
 |_,_,_,_,.nil,e=>by simp at e
 |_,_,0,_,.cons r _,e=>by simp at e;subst e;exact ⟨_,rfl,r⟩
 |_,_,i+1,x,.cons _ t,e=>by
  obtain ⟨u,h1,h2⟩:=yX.get (i:=i) (x:=x) t (by simpa using e);exact ⟨u,by simpa using h1,h2⟩
theorem yX.set {x:V} {u:Value} (r:yW x u):∀ {xs:List V} {us:List Value} (i:Nat),yX xs us->yX (xs.set i x) (us.set i u)
 |_,_,_,.nil=>.nil
 |_,_,0,.cons _ t=>.cons r t
 |_,_,i+1,.cons q t=>.cons q (yX.set r i t)
theorem yX.append:∀ {xs ys:List V} {us ws:List Value},yX xs us->yX ys ws->yX (xs++ys) (us++ws)
 |_,_,_,_,.nil,s=>s
 |_,_,_,_,.cons r t,s=>.cons r (yX.append t s)
theorem yX.take:∀ {xs:List V} {us:List Value} (n:Nat),yX xs us->yX (xs.take n) (us.take n)
 |_,_,0,_=>.nil
 |_,_,_+1,.nil=>.nil
 |_,_,n+1,.cons r t=>.cons r (yX.take n t)
theorem yX.drop:∀ {xs:List V} {us:List Value} (n:Nat),yX xs us->yX (xs.drop n) (us.drop n)
 |_,_,0,r=>r
 |_,_,_+1,.nil=>.nil
 |_,_,n+1,.cons _ t=>yX.drop n t
def tD:Option V->Option Value->Prop
 |some v,some u=>yW v u
 |none,none=>True
 |_,_=>False
def KV {κ:Type}:List (κ×V)->List (κ×Value)->Prop:=Paired fun (p:κ×V) (q:κ×Value)=>p.1=q.1/\yW p.2 q.2
def kV:yE->V
 | .inl i=>.int i
 | .inr x=>.str x
inductive HO where
  |lst (xs:List V)
  |tup (xs:List V)
  |dK (kvs:List (yE×V))|dT (kvs:List (List yE×V))
  |set (S:Int->Bool) (n:Nat)
  |ins (C dx:Addr) (fs:List (Str×V))
  |own (x:Addr)
  |xd (fs:List (Str×V))
  |met (f x:Addr)
  |rng (lo hi:Int)
  |frz (o:Obj) (u:HO)
  |tbl (ps:Array Value)
  |ext (φ:Heap->Prop)
abbrev Hp:=Addr->Option HO
def xE (H:Hp) (a:Addr) (o:HO):Hp:=fun b=>if b=a then some o else H b
theorem wE {H:Hp} {a:Addr} {o:HO}:xE H a o a=some o:=by unfold xE;rw [if_pos rfl]
theorem yU {H:Hp} {a b:Addr} {o:HO} (h:b≠a):xE H a o b=H b:=by unfold xE;rw [if_neg h]
theorem ne_of {H:Hp} {a b:Addr} {o u:HO} (h:H a=some o) (h':H b=some u) (d:o≠u):a≠b:=by
 intro e;subst e;rw [h] at h';exact d (Option.some.inj h')
theorem yL {H:Hp} {a b:Addr} {o:HO} (h:H a=some o) (h':H b=none):a≠b:=by
 intro e;subst e;rw [h] at h';cases h'
section
variable (P : Program) (w : World)
def xK (H:Hp) (h:Heap) (a:Addr):HO->Prop
 | .lst xs=>xs.length<=sizeLine/\∃ (its:List Value) (n:Nat),yX xs its/\h.get? a=some { cls:=.type "list", data:=.seq its.toArray n }
 | .tup xs=>xs.length<=sizeLine/\∃ its:List Value,yX xs its/\IsTup h a its.toArray
 | .dK kvs=>kvs.length<=sizeLine/\(a==sysModules)=false/\∃ vs,KV kvs vs/\h.DictOf (xZ P w) a vs
 | .dT kvs=>kvs.length<=sizeLine/\(a==sysModules)=false/\∃ xs:List (List yE×Addr×Value),
   Paired (fun (p:List yE×V) (q:List yE×Addr×Value)=>p.1=q.1/\H q.2.1=some (.tup (p.1.map kV))/\yW p.2 q.2.2) kvs xs /\
   ∃ o es ep,h.get? a=some o/\o.ExactDict/\o.data=.dict es ep/\es.toList=xs.map (entryOfKey (tupleKind (xZ P w)))/\(xs.map (·.1)).Nodup
 | .set S n=>h.SetOf (intKind P w) a S n
 | .ins C dx fs=>H dx=some (.own a)/\fs.length<=1000/\dx≠a/\h.get? a=some (PySem.W.instObj C dx) /\
   ∃ mA,h.Ns1 dx mA/\(∀ f,tD (fs.lookup f) (mA f))/\PySem.Within mA (fs.map (·.1))
 | .own _=>∃ o,h.get? a=some o
 | .xd fs=>∃ mA,h.Ns1 a mA/\∀ f,tD (fs.lookup f) (mA f)
 | .rng lo hi=>∃ t u v,h.get? a=some { cls:=.type "range", data:=.fields #[.int lo t,.int hi u,.int 1 v] }
 | .frz o u=>h.get? a=some o/\xK H h a u
 | .tbl ps=>h.get? a=some { cls:=.none,data:=.fields ps }
 | .met f x=>h.get? a=some (PySem.W.methodObj (.ref f) (.ref x))
 | .ext φ=>φ h/\(∃ o,h.get? a=some o)/\∀ h1 h2:Heap,φ h1->(∀ o,h1.get? a=some o->h2.get? a=some o)->φ h2
def uH (H:Hp) (h:Heap):Prop:=∀ a o,H a=some o->xK P w H h a o
end
section
variable {P : Program} {w : World} {H H' : Hp} {h h' : Heap} {a : Addr} {o : HO}
theorem xK.lt (x:xK P w H h a o):a<h.objs.size:=by
 cases o with
 |lst xs=>obtain ⟨_,_,_,_,e⟩:=x;exact Heap.lt_size e
 |tup xs=>obtain ⟨_,_,_,p⟩:=x;exact p.lt
 |dK kvs=>obtain ⟨_,_,_,_,o,_,_,e,_⟩:=x;exact Heap.lt_size e
 |dT kvs=>obtain ⟨_,_,_,_,o,_,_,e,_⟩:=x;exact Heap.lt_size e
 |set S n=>obtain ⟨o,_,_,_,e,_⟩:=x;exact Heap.lt_size e
 |ins C dx fs=>obtain ⟨_,_,_,e,_⟩:=x;exact Heap.lt_size e
 |own y=>obtain ⟨_,e⟩:=x;exact Heap.lt_size e
 |xd fs=>obtain ⟨_,⟨_,_,_,e,_⟩,_⟩:=x;exact Heap.lt_size e
 |rng lo hi=>obtain ⟨_,_,_,e⟩:=x;exact Heap.lt_size e
 |frz ob u=>obtain ⟨e,_⟩:=x;exact Heap.lt_size e
 |tbl ps=>exact Heap.lt_size (show h.get? a=some _ from x)
 |met f y=>exact Heap.lt_size (show h.get? a=some _ from x)
 |ext φ=>obtain ⟨_,⟨_,e⟩,_⟩:=x;exact Heap.lt_size e
theorem Paired.mapP {α β:Type} {F G:α->β->Prop}:∀ {l₁:List α} {l₂:List β},Paired F l₁ l₂->(∀ a b,F a b->G a b)->Paired G l₁ l₂
 |_,_,.nil,_=>.nil
 |_,_,.cons r t,f=>.cons (f _ _ r) (Paired.mapP t f)
theorem xK.stay (x:xK P w H h a o) (k:∀ b u,(b=a\/H b=some (.own a))->h.get? b=some u->h'.get? b=some u)
  (ho:∀ b,H b=some (.own a)->H' b=some (.own a)) (ht:∀ b xs,H b=some (.tup xs)->H' b=some (.tup xs)):xK P w H' h' a o:=by
 induction o with
 |lst xs=>obtain ⟨z,its,n,r,e⟩:=x;exact ⟨z,its,n,r,k _ _ (.inl rfl) e⟩
 |tup xs=>obtain ⟨z,its,r,ob,e,c⟩:=x;exact ⟨z,its,r,ob,k _ _ (.inl rfl) e,c⟩
 |dK kvs=>obtain ⟨z,y,vs,r,ob,es,ep,e,c⟩:=x;exact ⟨z,y,vs,r,ob,es,ep,k _ _ (.inl rfl) e,c⟩
 |dT kvs =>
  obtain ⟨z,y,xs,r,ob,es,ep,e,c⟩:=x;exact ⟨z,y,xs,Paired.mapP r fun p q z=>⟨z.1,ht _ _ z.2.1,z.2.2⟩,ob,es,ep,k _ _ (.inl rfl) e,c⟩
 |set S n=>obtain ⟨ob,es,ep,t,e,c⟩:=x;exact ⟨ob,es,ep,t,k _ _ (.inl rfl) e,c⟩
 |ins C dx fs =>
  obtain ⟨d,z,ne,e,mA,⟨od,es,ep,e2,c⟩,r⟩:=x;exact ⟨ho _ d,z,ne,k _ _ (.inl rfl) e,mA,⟨od,es,ep,k _ _ (.inr d) e2,c⟩,r⟩
 |own y=>obtain ⟨ob,e⟩:=x;exact ⟨ob,k _ _ (.inl rfl) e⟩
 |xd fs=>obtain ⟨mA,⟨od,es,ep,e,c⟩,r⟩:=x;exact ⟨mA,⟨od,es,ep,k _ _ (.inl rfl) e,c⟩,r⟩
 |rng lo hi=>obtain ⟨t,u,v,e⟩:=x;exact ⟨t,u,v,k _ _ (.inl rfl) e⟩
 |frz ob u ih=>obtain ⟨e,q⟩:=x;exact ⟨k _ _ (.inl rfl) e,ih q⟩
 |tbl ps =>
  have e:h.get? a=some { cls:=.none,data:=.fields ps }:=x;show h'.get? a=some { cls:=.none,data:=.fields ps };exact k a _ (.inl rfl) e
 |met f y =>
  have e:h.get? a=some (PySem.W.methodObj (.ref f) (.ref y)):=x;show h'.get? a=some (PySem.W.methodObj (.ref f) (.ref y));exact k a _ (.inl rfl) e
 |ext φ=>obtain ⟨p,⟨o,e⟩,st⟩:=x;exact ⟨st _ _ p fun o q=>k _ _ (.inl rfl) q,⟨o,k _ _ (.inl rfl) e⟩,st⟩
theorem uH.lt (x:uH P w H h) (e:H a=some o):a<h.objs.size:=(x a o e).lt
theorem uH.fresh (x:uH P w H h) (e:h.objs.size<=a):H a=none:=by
 cases q:H a with
 |none=>rfl
 |some u=>exact absurd (Nat.lt_of_lt_of_le (x.lt q) e) (Nat.lt_irrefl _)
theorem uH.kept (x:uH P w H h) (k:∀ b u,h.get? b=some u->h'.get? b=some u):uH P w H h':=fun a o e =>
 (x a o e).stay (fun b u _ q=>k b u q) (fun _ q=>q) fun _ _ q=>q
theorem uH.laid (x:uH P w H h) (k:∀ b u,h.get? b=some u->h'.get? b=some u) (hp:h.objs.size<=a) (new:xK P w (xE H a o) h' a o):uH P w (xE H a o) h':=fun b u e=>by
 have hn:=x.fresh hp
 by_cases hb:b=a
 .subst hb;rw [wE] at e;cases e;exact new
 .rw [yU hb] at e;exact (x b u e).stay (fun c v _ q=>k c v q) (fun c q=>by rw [yU (yL q hn)];exact q) fun c xs q=>by rw [yU (yL q hn)];exact q
end
def Rd (H:Hp) (a:Addr) (u:HO):Prop:=H a=some u\/∃ o,H a=some (.frz o u)
theorem Rd.ok {P:Program} {w:World} {H:Hp} {h:Heap} {a:Addr} {u:HO} (r:Rd H a u) (x:uH P w H h):xK P w H h a u:=by
 rcases r with r|⟨o,r⟩
 .exact x a u r
 .obtain ⟨_,q⟩:=x a _ r;exact q
def Mut:Option HO->Prop
 |some (.lst _)=>True
 |some (.dK _)=>True
 |some (.dT _)=>True
 |some (.set _ _)=>True
 |some (.ins _ _ _)=>True
 |some (.ext _)=>True
 |_=>False
section
variable {P : Program} {w : World} {H : Hp} {h h' : Heap} {x e : Addr} {o' : HO}
theorem uH.write (ok:uH P w H h) (mu:Mut (H x)) (he:e=x\/H e=some (.own x)) (k:∀ b u,b≠e->h.get? b=some u->h'.get? b=some u) (heo:∃ u,h'.get? e=some u)
  (new:xK P w (xE H x o') h' x o'):uH P w (xE H x o') h':=fun b u q=>by
 have nown:∀ c y,H c=some (.own y)->c≠x:=fun c y r z=>by subst z;rw [r] at mu;exact mu
 have ntup:∀ c xs,H c=some (.tup xs)->c≠x:=fun c xs r z=>by subst z;rw [r] at mu;exact mu
 by_cases hb:b=x
 .subst hb;rw [wE] at q;cases q;exact new
 .rw [yU hb] at q
  by_cases hbe:b=e
  .have q':H b=some (.own x):=by
    rcases he with z|z
    .exact absurd (hbe.trans z) hb
    .rw [hbe];exact z
   rw [q] at q';cases q';obtain ⟨v,hv⟩:=heo;exact ⟨v,by rw [hbe];exact hv⟩
  .refine (ok b u q).stay (fun c v hc r=>k c v ?_ r) (fun c r=>by rw [yU (nown c b r)];exact r) fun c xs r=>by rw [yU (ntup c xs r)];exact r
   rcases hc with rfl|hc
   .exact hbe
   .rintro rfl;rcases he with z|z
    .exact nown c b hc z
    .rw [hc] at z;cases z;exact hb rfl
end
structure Un (fs ex:List Addr) (H H':Hp) (h h':Heap):Prop where
 keep:∀ b o,h.get? b=some o->H b=none->b∉fs->b∉ex->h'.get? b=some o
 slot:∀ b o,h.get? b=some o->H b=none->b∈fs->b∉ex->∃ sl,h'.get? b=some { o with slots:=sl }
 free:∀ b o,h.get? b=some o->H b=none->b∉ex->H' b=none
 there:∀ b o,h.get? b=some o->b∉ex->∃ o',h'.get? b=some o'
 tups:∀ b xs,H b=some (.tup xs)->H' b=some (.tup xs)
 frzs:∀ b o u,H b=some (.frz o u)->H' b=some (.frz o u)
 tbls:∀ b ps,H b=some (.tbl ps)->∃ jM,H' b=some (.tbl (ps++jM))
section
variable {fs fs' ex ex' : List Addr} {H H1 H2 : Hp} {h h1 h2 h' : Heap} {a x e : Addr} {o : HO}
theorem Un.any (u:Un fs ex H H1 h h1) {b:Addr} {ob:Obj} (q:h.get? b=some ob) (n:H b=none) (hx:b∉ex):∃ sl,h1.get? b=some { ob with slots:=sl }:=by
 by_cases hb:b∈fs
 .exact u.slot b ob q n hb hx
 .exact ⟨ob.slots,u.keep b ob q n hb hx⟩
theorem Un.kept (k:∀ b u,h.get? b=some u->h'.get? b=some u):Un fs ex H H h h' :=
 ⟨fun b ob q _ _ _=>k b ob q,fun b ob q _ _ _=>⟨ob.slots,k b ob q⟩,fun _ _ _ n _=>n,fun b ob q _=>⟨ob,k b ob q⟩,fun _ _ q=>q,fun _ _ _ q=>q,fun _ ps q=>⟨#[],by rw [q];simp⟩⟩
theorem Un.refl:Un fs ex H H h h:=Un.kept fun _ _ q=>q
theorem Un.laid (k:∀ b u,h.get? b=some u->h'.get? b=some u) (hp:h.objs.size<=a) (hn:H a=none):Un fs ex H (xE H a o) h h' where
 keep:=fun b u q _ _ _=>k b u q
 slot:=fun b u q _ _ _=>⟨u.slots,k b u q⟩
 free:=fun b u q n _=>by rw [yU (Nat.ne_of_lt (Nat.lt_of_lt_of_le (Heap.lt_size q) hp))];exact n
 there:=fun b u q _=>⟨u,k b u q⟩
 tups:=fun b xs q=>by rw [yU (yL q hn)];exact q
 frzs:=fun b u xs q=>by rw [yU (yL q hn)];exact q
 tbls:=fun b ps q=>⟨#[],by rw [yU (yL q hn),q];simp⟩
theorem Un.write (mu:Mut (H x)) (he:e=x\/H e=some (.own x)) (k:∀ b u,b≠e->h.get? b=some u->h'.get? b=some u) (heo:∃ u,h'.get? e=some u):Un fs ex H (xE H x o) h h':=by
 have hx:∀ b,H b=none->b≠x:=fun b n z=>by subst z;rw [n] at mu;exact mu
 have hb:∀ b,H b=none->b≠e:=fun b n z=>by
  subst z;rcases he with r|r
  .exact hx b n r
  .rw [n] at r;cases r
 have hm:∀ b u,H b=some u->¬ Mut (some u)->b≠x:=fun b u q nm z=>by subst z;rw [q] at mu;exact nm mu
 refine ⟨fun b u q n _ _=>k b u (hb b n) q,fun b u q n _ _=>⟨u.slots,k b u (hb b n) q⟩,fun b u q n _=>by rw [yU (hx b n)];exact n,fun b u q _=>?_,
  fun b xs q=>by rw [yU (hm b _ q fun z=>z)];exact q,fun b u xs q=>by rw [yU (hm b _ q fun z=>z)];exact q,fun b ps q=>⟨#[],by rw [yU (hm b _ q fun z=>z),q];simp⟩⟩
 by_cases hbe:b=e
 .subst hbe;exact heo
 .exact ⟨u,k b u hbe q⟩
end
def trk (h:Heap) (H:Hp):List Addr:=(List.range h.objs.size).filter fun a=>(H a).isSome
def bH (h:Heap) (H:Hp):Heap:=PySem.W.hideAll h (trk h H)
theorem zcL (h:Heap) (H:Hp):(bH h H).objs.size=h.objs.size:=PySem.W.hideAll_size _ _
theorem zet {h:Heap} {H:Hp} {b:Addr} {o:Obj} (e:h.get? b=some o) (n:H b=none):(bH h H).get? b=some o :=
 PySem.W.hideAll_get _ e fun hm=>by
  have q:(H b).isSome=true:=(List.mem_filter.mp hm).2;rw [n] at q;simp at q
theorem zfR {h:Heap} {H:Hp} {b:Addr} {o:Obj} (e:(bH h H).get? b=some o):h.get? b=some o/\H b=none:=by
 have e':h.get? b=some o:=PySem.W.of_hideAll (trk h H) e;refine ⟨e',?_⟩
 cases q:H b with
 |none=>rfl
 |some x =>
  have hm:b∈trk h H:=List.mem_filter.mpr ⟨List.mem_range.mpr (Heap.lt_size e'),by simp [q]⟩;have z:(bH h H).get? b=none:=PySem.W.hideAll_none (trk h H) hm;rw [z] at e;cases e
def zgE (g h:Heap) (L:Addr):List (Addr×Obj):=(List.range h.objs.size).filterMap fun a=>if a=L\/(g.get? a).isSome=true then none else (h.get? a).map fun o=>(a,o)
def rest (g h:Heap) (L d:Addr):List (Addr×Obj):=(zgE g h L).filter fun p=>decide (p.1≠d)
end L2
namespace L2
open PySem PySem.Spec PyProof.Rows
structure Mod (K:PySem.W.Frag) (mg:Str->Option Value) (base:Heap):Prop where
 kin:K.In base
 glob:base.Ns mainGlobals mg
 blt:∃ mb,base.Ns builtinsNs mb/\∀ x:Str,x ≠ "__name__" -> mb x=bootBuiltins x
 nolimit:base.NoLimit
structure Cx where
 prog:Program
 w:World
 K:PySem.W.Frag
 mg:Str->Option Value
 base:Heap
 A:Around
 N:List Str
 s₀:Shared
 H₀:Hp
 env:Env
 outer:List Env
 stack:List Env
 ex:List Addr
 fn:Str->Bool
 calm:Bool
 pn:List (Addr×Obj)
 xe:Value->Shared->Prop
def frs (l:List Env):List Addr:=l.filterMap (·.frame)
abbrev Cx.fs (X:Cx):List Addr:=frs X.outer
def Vis (sc:Scope) (x:Str):Prop:=sc.names.lookup x=some .local\/sc.names.lookup x=some .cell\/sc.names.lookup x=some .free
def Loc (sc:Scope) (x:Str):Prop:=sc.names.lookup x=some .local\/sc.names.lookup x=some .cell
def Look (env:Env) (h:Heap) (m:Str->Option Value) (x:Str) (u:Value):Prop :=
 (env.kindOf x=some .local/\m x=some u)\/((env.kindOf x=some .cell\/env.kindOf x=some .free)/\∃ c,env.cells.lookup x=some c/\h.IsCell c (some u))
structure Cx.Ok (X:Cx):Prop where
 mod:Mod X.K X.mg X.base
 kind:X.env.scope.kind=.function
 glob:X.env.globals=mainGlobals
 blt:X.env.builtins=builtinsNs
 above:X.s₀.heap.objs.size<=X.env.locals
 inj:∀ x y c,X.env.cells.lookup x=some c->X.env.cells.lookup y=some c->x=y
 has:∀ x,(X.env.kindOf x=some .cell\/X.env.kindOf x=some .free)->∃ c,X.env.cells.lookup x=some c
 cab:∀ x c,X.fn x=true->X.env.cells.lookup x=some c->X.s₀.heap.objs.size<=c
 hd:X.calm=true->X.A.handled=none
 frames:X.A.frames=some X.stack
 stk:X.stack=X.outer\/(X.stack=X.env::X.outer/\X.env.frame=some X.env.locals)
 exf:∀ b∈X.ex,b≠X.env.locals/\∀ x c,X.env.cells.lookup x=some c->c≠b
 bs:∀ b o,X.base.get? b=some o->X.s₀.heap.get? b=some o/\X.H₀ b=none
 bsz:X.base.objs.size<=X.s₀.heap.objs.size
 noex:∀ b o,X.base.get? b=some o->b∉X.ex
 exfs:∀ b∈X.ex,b∉X.fs
 funs:X.s₀.heap.FunFrames X.base X.outer
 frf:∀ b∈X.fs,X.H₀ b=none
structure Inv (X:Cx) (pins:List (Addr×Obj)) (σ:List (Option V)) (H:Hp) (s:Shared):Prop where
 ok:X.Ok
 os:s.os=X.s₀.os
 bare:AllBare s.gens
 base:Un X.fs X.ex X.H₀ H X.s₀.heap s.heap
 loc:∃ m,s.heap.Ns X.env.locals m/\∀ (i:Nat) (x:Str) (v:V),X.N[i]?=some x->σ[i]?=some (some v)->Vis X.env.scope x->∃ u,yW v u/\Look X.env s.heap m x u
 cell:∀ x c,X.env.cells.lookup x=some c->∃ v,s.heap.IsCell c v
 free:H X.env.locals=none
 freeC:∀ x c,X.env.cells.lookup x=some c->H c=none
 pin:∀ p∈X.pn++pins,s.heap.get? p.1=some p.2/\H p.1=none/\p.1≠X.env.locals/\p.1∉X.fs/\∀ v,p.2.data≠.cell v
 hok:uH X.prog X.w H s.heap
 len:σ.length=X.N.length
section
variable {X : Cx} {pins : List (Addr × Obj)} {σ : List (Option V)} {H H' : Hp} {s : Shared} {h' : Heap}
theorem Cx.Ok.nofr (ok:X.Ok) {b:Addr} {o:Obj} (e:X.base.get? b=some o):b∉X.fs:=fun hb=>by
 have:=(ok.funs.mem hb).1;rw [e] at this;cases this
theorem Inv.bs (I:Inv X pins σ H s):∀ b o,X.base.get? b=some o->s.heap.get? b=some o/\H b=none:=fun b o e =>
 ⟨I.base.keep b o (I.ok.bs b o e).1 (I.ok.bs b o e).2 (I.ok.nofr e) (I.ok.noex b o e),I.base.free b o (I.ok.bs b o e).1 (I.ok.bs b o e).2 (I.ok.noex b o e)⟩
theorem Inv.bk (I:Inv X pins σ H s):∀ b o,X.base.get? b=some o->s.heap.get? b=some o:=fun b o e=>(I.bs b o e).1
theorem Inv.mod (I:Inv X pins σ H s):Mod X.K X.mg X.base:=I.ok.mod
theorem Inv.kIn (I:Inv X pins σ H s):X.K.In s.heap:=I.ok.mod.kin.keeps I.bk
theorem Inv.lt (I:Inv X pins σ H s):X.env.locals<s.heap.objs.size:=let ⟨_,hn,_⟩:=I.loc;hn.lt
theorem Inv.sz (I:Inv X pins σ H s):X.s₀.heap.objs.size<=s.heap.objs.size:=Nat.le_trans I.ok.above (Nat.le_of_lt I.lt)
theorem Inv.nofs (I:Inv X pins σ H s) {a:Addr} (h:s.heap.objs.size<=a):a∉X.fs:=fun hb=>by
 obtain ⟨_,o,ho,_⟩:=I.ok.funs.mem hb;exact absurd (Nat.lt_of_lt_of_le (Heap.lt_size ho) (Nat.le_trans I.sz h)) (Nat.lt_irrefl _)
theorem Inv.cne (I:Inv X pins σ H s):∀ x c,X.env.cells.lookup x=some c->c≠X.env.locals:=fun x c e z=>by
 obtain ⟨v,o,ho,hd⟩:=I.cell x c e;obtain ⟨m,⟨o',es,ep,ho',hd',_⟩,_⟩:=I.loc;rw [z,ho'] at ho;cases ho;rw [hd'] at hd;cases hd
theorem Inv.funs (I:Inv X pins σ H s):s.heap.FunFrames X.base X.outer:=by
 have all:∀ (l:List Env),(∀ b∈frs l,b∈X.fs)->X.s₀.heap.FunFrames X.base l->s.heap.FunFrames X.base l:=by
  intro l
  induction l with
  |nil=>intro _ _;trivial
  |cons env r ih =>
   intro hs hl;obtain ⟨hk,⟨L,o,hf,hn,ho,hd⟩,hr⟩:=hl;have hL:L∈X.fs:=hs L (by unfold frs;rw [List.filterMap_cons,hf];exact zzT);obtain ⟨sl,e⟩:=I.base.slot L o ho (I.ok.frf L hL) hL fun z=>I.ok.exfs L z hL;exact ⟨hk,⟨L,_,hf,hn,e,hd⟩,ih (fun b hb=>hs b (by unfold frs;rw [List.filterMap_cons,hf];exact List.mem_cons_of_mem _ hb)) hr⟩
 exact all X.outer (fun _ hb=>hb) I.ok.funs
theorem Inv.stack (I:Inv X pins σ H s):s.heap.FunFrames X.base X.stack:=by
 rcases I.ok.stk with e|⟨e,hf⟩
 .rw [e];exact I.funs
 .rw [e];obtain ⟨m,hn,_⟩:=I.loc;refine .cons (by rw [I.ok.kind];decide) hf hn ?_ I.funs;exact Heap.get?_none_of_le (Nat.le_trans I.ok.bsz I.ok.above)
theorem Inv.stkSub (I:Inv X pins σ H s):∀ b∈frs X.stack,b∈X.env.locals::X.fs:=fun b hb=>by
 rcases I.ok.stk with e|⟨e,hf⟩
 .rw [e] at hb;exact List.mem_cons_of_mem _ hb
 .rw [e] at hb;unfold frs at hb;rw [List.filterMap_cons,hf] at hb;exact hb
theorem Inv.stkFree (I:Inv X pins σ H s):∀ b∈frs X.stack,H b=none:=fun b hb=>by
 rcases List.mem_cons.mp (I.stkSub b hb) with e|hb
 .rw [e];exact I.free
 .obtain ⟨_,o,ho,_⟩:=I.ok.funs.mem hb;exact I.base.free b o ho (I.ok.frf b hb) fun z=>I.ok.exfs b z hb
theorem Inv.step {g':Array GenState} {t':Nat} {d':Drawn} {ch:List Addr} (I:Inv X pins σ H s)
  (hch:∀ b∈ch,(b∈X.ex\/X.s₀.heap.objs.size<=b)/\b≠X.env.locals/\(∀ x c,X.env.cells.lookup x=some c->c≠b)/\∀ p∈X.pn++pins,p.1≠b)
  (keep:∀ b o,b≠X.env.locals->b∉X.fs->b∉ch->s.heap.get? b=some o->H b=none->h'.get? b=some o)
  (slot:∀ b o,b≠X.env.locals->b∈X.fs->b∉ch->s.heap.get? b=some o->H b=none->∃ sl,h'.get? b=some { o with slots:=sl }) (free:∀ b o,b∉ch->s.heap.get? b=some o->H b=none->H' b=none)
  (there:∀ b o,b∉ch->s.heap.get? b=some o->∃ o',h'.get? b=some o')
  (tups:∀ b xs,H b=some (.tup xs)->H' b=some (.tup xs)) (frzs:∀ b o u,H b=some (.frz o u)->H' b=some (.frz o u)) (tbls:∀ b ps,H b=some (.tbl ps)->∃ jM,H' b=some (.tbl (ps++jM)))
  (ns:∀ m,s.heap.Ns X.env.locals m->h'.Ns X.env.locals m) (hok:uH X.prog X.w H' h') (hg:AllBare g') :
  Inv X pins σ H' { s with heap:=h',gens:=g',drawn:=d',toks:=t' }:=by
 have neL:∀ b o,X.s₀.heap.get? b=some o->b≠X.env.locals:=fun b o e=>Nat.ne_of_lt (Nat.lt_of_lt_of_le (Heap.lt_size e) I.ok.above)
 have neC:∀ b o,X.s₀.heap.get? b=some o->b∉X.ex->b∉ch:=fun b o e hx hb=>by
  rcases (hch b hb).1 with z|z
  .exact hx z
  .exact absurd (Nat.lt_of_lt_of_le (Heap.lt_size e) z) (Nat.lt_irrefl _)
 have cellK:∀ x c,X.env.cells.lookup x=some c->∀ v,s.heap.IsCell c v->h'.IsCell c v:=fun x c e v ⟨o,ho,hd⟩=>by
  have nch:c∉ch:=fun z=>(hch c z).2.2.1 x c e rfl
  by_cases hc:c∈X.fs
  .obtain ⟨sl,q⟩:=slot c o (I.cne x c e) hc nch ho (I.freeC x c e);exact ⟨_,q,hd⟩
  .exact ⟨o,keep c o (I.cne x c e) hc nch ho (I.freeC x c e),hd⟩
 refine ⟨I.ok,I.os,hg,⟨fun b o e n hb hx=>?_,fun b o e n hb hx=>?_,fun b o e n hx=>?_,fun b o e hx=>?_,fun b xs e=>tups b xs (I.base.tups b xs e),fun b o xs e=>frzs b o xs (I.base.frzs b o xs e),fun b ps e=>?_⟩,?_,fun x c e=>?_,?_,fun x c e=>?_,fun p hp=>?_,hok,I.len⟩
 .exact keep b o (neL b o e) hb (neC b o e hx) (I.base.keep b o e n hb hx) (I.base.free b o e n hx)
 .obtain ⟨sl,e1⟩:=I.base.slot b o e n hb hx;obtain ⟨sl',e2⟩:=slot b _ (neL b o e) hb (neC b o e hx) e1 (I.base.free b o e n hx);exact ⟨sl',e2⟩
 .obtain ⟨o',e1⟩:=I.base.there b o e hx;exact free b o' (neC b o e hx) e1 (I.base.free b o e n hx)
 .obtain ⟨o',e1⟩:=I.base.there b o e hx;exact there b o' (neC b o e hx) e1
 .obtain ⟨m1,e1⟩:=I.base.tbls b ps e;obtain ⟨m2,e2⟩:=tbls b _ e1;exact ⟨m1++m2,by rw [e2,Array.append_assoc]⟩
 .obtain ⟨m,hn,hl⟩:=I.loc;refine ⟨m,ns m hn,fun i x v e1 e2 e3=>?_⟩;obtain ⟨u,r,l⟩:=hl i x v e1 e2 e3;refine ⟨u,r,?_⟩;rcases l with l|⟨k,c,e,z⟩
  .exact .inl l
  .exact .inr ⟨k,c,e,cellK x c e _ z⟩
 .obtain ⟨v,z⟩:=I.cell x c e;exact ⟨v,cellK x c e v z⟩
 .obtain ⟨m,⟨o,_,_,ho,_⟩,_⟩:=I.loc;exact free _ o (fun z=>(hch _ z).2.1 rfl) ho I.free
 .obtain ⟨v,o,ho,hd⟩:=I.cell x c e;exact free c o (fun z=>(hch c z).2.2.1 x c e rfl) ho (I.freeC x c e)
 .obtain ⟨e,n,ne,nf,d⟩:=I.pin p hp;have nch:p.1∉ch:=fun z=>(hch p.1 z).2.2.2 p hp rfl;exact ⟨keep p.1 p.2 ne nf nch e n,free p.1 p.2 nch e n,ne,nf,d⟩
theorem Inv.un {t':Nat} (I:Inv X pins σ H s) (u:Un X.fs [] H H' s.heap h') (hok:uH X.prog X.w H' h'):Inv X pins σ H' { s with heap:=h',toks:=t' }:=by
 obtain ⟨m,⟨o,es,ep,ho,r⟩,_⟩:=id I.loc;obtain ⟨sl,hL⟩:=u.any ho I.free (by simp)
 exact I.step (g':=s.gens) (d':=s.drawn) (ch:=[]) (fun _ z=>nomatch z) (fun b o _ hb _ e n=>u.keep b o e n hb (by simp)) (fun b o _ hb _ e n=>u.slot b o e n hb (by simp)) (fun b o _ e n=>u.free b o e n (by simp)) (fun b o _ e=>u.there b o e (by simp)) u.tups u.frzs u.tbls (fun m' hm=>by
  obtain ⟨o',es',ep',ho',r'⟩:=hm;rw [ho] at ho';cases ho';exact ⟨_,es',ep',hL,r'⟩) hok I.bare
theorem Inv.call {g':Array GenState} {t':Nat} {d':Drawn} {ch:List Addr} (I:Inv X pins σ H s) (u:Un (frs X.stack) ch H H' s.heap h') (hok:uH X.prog X.w H' h') (hg:AllBare g')
  (hch:∀ b∈ch,(b∈X.ex\/X.s₀.heap.objs.size<=b)/\b≠X.env.locals/\(∀ x c,X.env.cells.lookup x=some c->c≠b)/\∀ p∈X.pn++pins,p.1≠b) :
  Inv X pins σ H' { s with heap:=h',gens:=g',drawn:=d',toks:=t' }:=by
 obtain ⟨m,⟨o,es,ep,ho,r⟩,_⟩:=id I.loc;obtain ⟨sl,hL⟩:=u.any ho I.free fun z=>(hch _ z).2.1 rfl
 exact I.step (ch:=ch) hch (fun b o hL hb hc e n=>u.keep b o e n (fun z=>(List.mem_cons.mp (I.stkSub b z)).elim hL hb) hc) (fun b o _ _ hc e n=>u.any e n hc) (fun b o hc e n=>u.free b o e n hc) (fun b o hc e=>u.there b o e hc) u.tups u.frzs u.tbls (fun m' hm=>by
  obtain ⟨o',es',ep',ho',r'⟩:=hm;rw [ho] at ho';cases ho';exact ⟨_,es',ep',hL,r'⟩) hok hg
theorem Inv.turned {t':Nat} {it:Addr} (I:Inv X pins σ H s) (k:∀ b o,b≠it->s.heap.get? b=some o->h'.get? b=some o) (hn:H it=none) (hL:it≠X.env.locals)
  (h1:it∈X.ex\/X.s₀.heap.objs.size<=it) (h2:∀ x c,X.env.cells.lookup x=some c->c≠it) (h3:∀ p∈X.pn++pins,p.1≠it):Inv X pins σ H { s with heap:=h',toks:=t' }:=by
 have nit:∀ b u,H b=some u->b≠it:=fun b u e z=>by rw [z,hn] at e;cases e
 refine I.step (g':=s.gens) (d':=s.drawn) (ch:=[it]) (fun b hb=>?_) (fun b o _ _ hc e _=>k b o (fun z=>hc (by simp [z])) e) (fun b o _ _ hc e _=>⟨o.slots,k b o (fun z=>hc (by simp [z])) e⟩) (fun _ _ _ _ n=>n)
  (fun b o hc e=>⟨o,k b o (fun z=>hc (by simp [z])) e⟩) (fun _ _ e=>e) (fun _ _ _ e=>e) (fun b ps e=>⟨#[],by rw [e];simp⟩) (fun m hm=>?_) (fun b u e=>?_) I.bare
 .have e:b=it:=by simpa using hb
  subst e;exact ⟨h1,hL,h2,h3⟩
 .obtain ⟨o,es,ep,ho,r⟩:=hm;exact ⟨o,es,ep,k _ o (Ne.symm hL) ho,r⟩
 .refine (I.hok b u e).stay (fun c v hc q=>k c v ?_ q) (fun _ q=>q) fun _ _ q=>q;rcases hc with z|z
  .rw [z];exact nit b u e
  .exact nit c _ z
theorem Inv.tok (I:Inv X pins σ H s) (t:Nat):Inv X pins σ H { s with toks:=t }:=I.un (h':=s.heap) (t':=t) Un.refl I.hok
theorem Inv.kept {t':Nat} (I:Inv X pins σ H s) (k:∀ b u,s.heap.get? b=some u->h'.get? b=some u):Inv X pins σ H { s with heap:=h',toks:=t' }:=I.un (Un.kept k) (I.hok.kept k)
theorem Inv.laid {a:Addr} {o:HO} {t':Nat} (I:Inv X pins σ H s) (k:∀ b u,s.heap.get? b=some u->h'.get? b=some u) (hp:s.heap.objs.size<=a) (new:xK X.prog X.w (xE H a o) h' a o) :
  Inv X pins σ (xE H a o) { s with heap:=h',toks:=t' }:=I.un (Un.laid k hp (I.hok.fresh hp)) (I.hok.laid k hp new)
theorem Inv.write {x e:Addr} {o:HO} {t':Nat} (I:Inv X pins σ H s) (mu:Mut (H x)) (he:e=x\/H e=some (.own x)) (k:∀ b u,b≠e->s.heap.get? b=some u->h'.get? b=some u) (heo:∃ u,h'.get? e=some u)
  (new:xK X.prog X.w (xE H x o) h' x o):Inv X pins σ (xE H x o) { s with heap:=h',toks:=t' }:=I.un (Un.write mu he k heo) (I.hok.write mu he k heo new)
theorem Inv.pins_of {pins':List (Addr×Obj)} (I:Inv X pins σ H s) (h:∀ p∈pins',s.heap.get? p.1=some p.2/\H p.1=none/\p.1≠X.env.locals/\p.1∉X.fs/\∀ v,p.2.data≠.cell v):Inv X pins' σ H s :=
 ⟨I.ok,I.os,I.bare,I.base,I.loc,I.cell,I.free,I.freeC,fun p hp=>(List.mem_append.mp hp).elim (fun z=>I.pin p (List.mem_append_left _ z)) (h p),I.hok,I.len⟩
theorem zaU {N:List Str} (hN:N.Nodup) {i j:Nat} {x:Str} (a:N[i]?=some x) (b:N[j]?=some x):i=j:=by
 obtain ⟨h1,e1⟩:=List.getElem?_eq_some_iff.mp a;obtain ⟨h2,e2⟩:=List.getElem?_eq_some_iff.mp b;exact (List.getElem_inj hN).mp (e1.trans e2.symm)
theorem fF {M:Model} {A:Around} {E:Value->Shared->Prop} {i:Nat} {x:Str} {v:V} {u:Value} {Q:Unit->Shared->Prop} (I:Inv X pins σ H s) (hN:X.N.Nodup) (hi:X.N[i]?=some x) (hx:Loc X.env.scope x) (r:yW v u)
  (h:∀ s',Inv X pins (σ.set i (some v)) H s'->(∃ a,Heap.SameBut a s.heap s'.heap/\(a=X.env.locals\/X.env.cells.lookup x=some a))->Q () s') (hf:X.fn x=true\/X.env.scope.names.lookup x=some .local:=by first|exact .inl rfl|exact .inr rfl|assumption):wpAny M A (storeName X.env x u) Q E s:=by
 obtain ⟨m,hn,hl⟩:=id I.loc;have hcls:(X.env.scope.kind==.class || (X.env.scope.kind==.module&&X.env.locals != X.env.globals))=false:=by rw [I.ok.kind];rfl
 have hiσ:i<σ.length:=by rw [I.len];exact (List.getElem?_eq_some_iff.mp hi).1
 have cne:=I.cne
 have tracked:∀ {a:Addr} {h':Heap},(∃ o,s.heap.get? a=some o/\H a=none)->Heap.SameBut a s.heap h'->uH X.prog X.w H h':=fun {a h'} ha hs b ob e=>by
  obtain ⟨_,_,hfree⟩:=ha;refine (I.hok b ob e).stay (fun c w' hc q=>(hs.2 c ?_).trans q) (fun _ q=>q) fun _ _ q=>q;rintro rfl;rcases hc with rfl|hc
  .rw [hfree] at e;cases e
  .rw [hfree] at hc;cases hc
 rcases hx with hk|hk
 .refine wpAny_storeName_local hk hn (fun h' hn' hs=>?_) hcls;obtain ⟨oL,_,_,hoL,_⟩:=id hn;refine h _ ⟨I.ok,I.os,I.bare,⟨fun b o e n hb hx=>?_,fun b o e n hb hx=>?_,I.base.free,fun b o e hx=>?_,I.base.tups,I.base.frzs,I.base.tbls⟩,⟨_,hn',fun j y v' e1 e2 e3=>?_⟩,fun y c e=>?_,I.free,I.freeC,fun p hp=>?_,tracked ⟨oL,hoL,I.free⟩ hs,by simpa using I.len⟩ ⟨_,hs,.inl rfl⟩
  .exact (hs.2 b (Nat.ne_of_lt (Nat.lt_of_lt_of_le (Heap.lt_size e) I.ok.above))).trans (I.base.keep b o e n hb hx)
  .obtain ⟨sl,e1⟩:=I.base.slot b o e n hb hx;exact ⟨sl,(hs.2 b (Nat.ne_of_lt (Nat.lt_of_lt_of_le (Heap.lt_size e) I.ok.above))).trans e1⟩
  .obtain ⟨o',e1⟩:=I.base.there b o e hx;exact ⟨o',(hs.2 b (Nat.ne_of_lt (Nat.lt_of_lt_of_le (Heap.lt_size e) I.ok.above))).trans e1⟩
  .by_cases hj:j=i
   .subst hj;rw [hi] at e1;cases e1;rw [List.getElem?_set_self hiσ] at e2;cases e2;exact ⟨u,r,.inl ⟨hk,by simp⟩⟩
   .rw [List.getElem?_set_ne (Ne.symm hj)] at e2;obtain ⟨u',r',q⟩:=hl j y v' e1 e2 e3;refine ⟨u',r',?_⟩;rcases q with ⟨k,e⟩|⟨k,c,e,z⟩
    .refine .inl ⟨k,?_⟩;have:y≠x:=fun e=>hj (zaU hN e1 (e▸hi));simp [this,e]
    .exact .inr ⟨k,c,e,z.sameBut hs (cne y c e)⟩
  .obtain ⟨w',z⟩:=I.cell y c e;exact ⟨w',z.sameBut hs (cne y c e)⟩
  .obtain ⟨e,n,ne,nf,d⟩:=I.pin p hp;exact ⟨(hs.2 p.1 ne).trans e,n,ne,nf,d⟩
 .have hfn:X.fn x=true:=by
   rcases hf with z|z
   .exact z
   .rw [z] at hk;cases hk
  obtain ⟨c,hc⟩:=I.ok.has x (.inl hk);obtain ⟨w',z⟩:=I.cell x c hc;refine wpAny_storeName_cell I.ok.kind hk hc z (fun h' hc' hs=>?_);obtain ⟨oc,hoc,hocd⟩:=id z;refine h { s with heap:=h' } ⟨I.ok,I.os,I.bare,⟨fun b o e n hb hx=>?_,fun b o e n hb hx=>?_,I.base.free,fun b o e hx=>?_,I.base.tups,I.base.frzs,I.base.tbls⟩,⟨m,hn.sameBut hs (Ne.symm (cne x c hc)),fun j y v' e1 e2 e3=>?_⟩,fun y c' e=>?_,I.free,I.freeC,fun p hp=>?_,tracked ⟨oc,hoc,I.freeC x c hc⟩ hs,by simpa using I.len⟩ ⟨c,hs,.inr hc⟩
  .exact (hs.2 b (Nat.ne_of_lt (Nat.lt_of_lt_of_le (Heap.lt_size e) (I.ok.cab x c hfn hc)))).trans (I.base.keep b o e n hb hx)
  .obtain ⟨sl,e1⟩:=I.base.slot b o e n hb hx;exact ⟨sl,(hs.2 b (Nat.ne_of_lt (Nat.lt_of_lt_of_le (Heap.lt_size e) (I.ok.cab x c hfn hc)))).trans e1⟩
  .obtain ⟨o',e1⟩:=I.base.there b o e hx;exact ⟨o',(hs.2 b (Nat.ne_of_lt (Nat.lt_of_lt_of_le (Heap.lt_size e) (I.ok.cab x c hfn hc)))).trans e1⟩
  .by_cases hj:j=i
   .subst hj;rw [hi] at e1;cases e1;rw [List.getElem?_set_self hiσ] at e2;cases e2;exact ⟨u,r,.inr ⟨.inl hk,c,hc,hc'⟩⟩
   .rw [List.getElem?_set_ne (Ne.symm hj)] at e2;obtain ⟨u',r',q⟩:=hl j y v' e1 e2 e3;refine ⟨u',r',?_⟩;rcases q with q|⟨k,c',e,z'⟩
    .exact .inl q
    .refine .inr ⟨k,c',e,z'.sameBut hs ?_⟩;rintro rfl;exact hj (zaU hN e1 (I.ok.inj _ _ _ e hc▸hi))
  .by_cases hcc:c'=c
   .subst hcc;exact ⟨_,hc'⟩
   .obtain ⟨w2,z2⟩:=I.cell y c' e;exact ⟨w2,z2.sameBut hs hcc⟩
  .obtain ⟨e,n,ne,nf,d⟩:=I.pin p hp;refine ⟨(hs.2 p.1 ?_).trans e,n,ne,nf,d⟩;intro q;rw [q,hoc] at e;have q':oc=p.2:=Option.some.inj e;exact d w' (by rw [← q'];exact hocd)
theorem zaK {M:Model} {A:Around} {E:Value->Shared->Prop} {i:Nat} {x:Str} {v:V} {u:Value} {Q:Unit->Shared->Prop} (I:Inv X pins σ H s) (hN:X.N.Nodup) (hi:X.N[i]?=some x) (hx:Loc X.env.scope x) (r:yW v u)
  (h:∀ s',Inv X pins (σ.set i (some v)) H s'->Q () s') (hf:X.fn x=true\/X.env.scope.names.lookup x=some .local:=by first|exact .inl rfl|exact .inr rfl|assumption):wpAny M A (storeName X.env x u) Q E s :=
 fF I hN hi hx r (fun s' I' _=>h s' I') hf
theorem Inv.call' {s':Shared} {ch:List Addr} (I:Inv X pins σ H s) (ho:s'.os=s.os) (u:Un (frs X.stack) ch H H' s.heap s'.heap) (hok:uH X.prog X.w H' s'.heap) (hg:AllBare s'.gens)
  (hch:∀ b∈ch,(b∈X.ex\/X.s₀.heap.objs.size<=b)/\b≠X.env.locals/\(∀ x c,X.env.cells.lookup x=some c->c≠b)/\∀ p∈X.pn++pins,p.1≠b):Inv X pins σ H' s':=by
 obtain ⟨h',g',d',t',o'⟩:=s';have e:o'=s.os:=ho;subst e;exact I.call (g':=g') (t':=t') (d':=d') u hok hg hch
end
abbrev XK:=Value->Option Addr->Hp->Prop
abbrev St:=List (Option V)
abbrev VK:=V->Hp->Prop
abbrev TE:=St->Hp->VK->Prop
abbrev TT:=St->Hp->(Bool->Hp->Prop)->Prop
abbrev TA:=St->Hp->(List V->Hp->Prop)->Prop
structure Ends where
 nx:St->Hp->Prop
 rt:VK
 bk:St->Hp->Prop:=fun _ _=>False
 ct:St->Hp->Prop:=fun _ _=>False
abbrev TS:=Ends->St->Hp->Prop
def EP (X:Cx) (pins:List (Addr×Obj)) (σ:St) (Q:VK) (u:Value) (s':Shared):Prop:=∃ v H',Inv X pins σ H' s'/\yW v u/\Q v H'
def TP (X:Cx) (pins:List (Addr×Obj)) (σ:St) (Q:Bool->Hp->Prop) (b:Bool) (s':Shared):Prop:=∃ H',Inv X pins σ H' s'/\Q b H'
def AP (X:Cx) (pins:List (Addr×Obj)) (σ:St) (Q:List V->Hp->Prop) (us:List Value) (s':Shared):Prop:=∃ vs H',Inv X pins σ H' s'/\yX vs us/\Q vs H'
def SP (X:Cx) (pins:List (Addr×Obj)) (D:Ends) (f:Flow) (s':Shared):Prop :=
 match f with
 | .next=>∃ σ' H',Inv X pins σ' H' s'/\D.nx σ' H'
 | .brk=>∃ σ' H',Inv X pins σ' H' s'/\D.bk σ' H'
 | .cont=>∃ σ' H',Inv X pins σ' H' s'/\D.ct σ' H'
 | .ret u=>∃ v σ' H',Inv X pins σ' H' s'/\yW v u/\D.rt v H'
def PE (X:Cx) (e:Expr) (t:TE):Prop :=
 ∀ (pins:List (Addr×Obj)) (s:Shared) (σ:St) (H:Hp) (Q:VK),Inv X pins σ H s->t σ H Q->wpAny (model X.prog X.w) X.A (eval e X.env) (EP X pins σ Q) X.xe s
def PT (X:Cx) (e:Expr) (t:TT):Prop :=
 ∀ (pins:List (Addr×Obj)) (s:Shared) (σ:St) (H:Hp) (Q:Bool->Hp->Prop),Inv X pins σ H s->t σ H Q->wpAny (model X.prog X.w) X.A (isTrue e X.env (eval e X.env)) (TP X pins σ Q) X.xe s
def PW (X:Cx) (e:Expr) (t:TT):Prop :=
 ∀ (whole:Sem Value) (pins:List (Addr×Obj)) (s:Shared) (σ:St) (H:Hp) (Q:Bool->Hp->Prop),Inv X pins σ H s->t σ H Q->wpAny (model X.prog X.w) X.A (isTrue e X.env whole) (TP X pins σ Q) X.xe s
theorem PW.pt {X:Cx} {e:Expr} {t:TT} (h:PW X e t):PT X e t:=h _
def PA (X:Cx) (es:List Expr) (t:TA):Prop :=
 ∀ (pos:Pos) (pins:List (Addr×Obj)) (s:Shared) (σ:St) (H:Hp) (Q:List V->Hp->Prop),Inv X pins σ H s->t σ H Q->wpAny (model X.prog X.w) X.A (spliced (backTo pos (starEach es X.env))) (AP X pins σ Q) X.xe s
def PS (X:Cx) (st:Stmt) (t:TS):Prop :=
 ∀ (pins:List (Addr×Obj)) (s:Shared) (σ:St) (H:Hp) (D:Ends),Inv X pins σ H s->t D σ H->wpAny (model X.prog X.w) X.A (exec st X.env) (SP X pins D) X.xe s
def PSs (X:Cx) (st:List Stmt) (t:TS):Prop :=
 ∀ (pins:List (Addr×Obj)) (s:Shared) (σ:St) (H:Hp) (D:Ends),Inv X pins σ H s->t D σ H->wpAny (model X.prog X.w) X.A (execs st X.env) (SP X pins D) X.xe s
theorem yB {α:Type} {t:Sem α} {Q Q':α->Shared->Prop} {M:Model} {A:Around} {E:Value->Shared->Prop} {s:Shared} (h:wpAny M A t Q E s) (hQ:∀ a s,Q a s->Q' a s):wpAny M A t Q' E s:=wpAny_mono h hQ fun _ _ x=>x
end L2
namespace L2
open PySem PySem.Spec PyProof.Rows
section
variable {X : Cx}
theorem bin {a b:Expr} {ta tb:TE} (ha:PE X a ta) (hb:PE X b tb) {pins:List (Addr×Obj)} {s:Shared} {σ:St} {H:Hp} {R:V->V->Hp->Prop} (I:Inv X pins σ H s) (h:ta σ H fun x H1=>tb σ H1 fun y H2=>R x y H2)
  {α:Type} {Q:α->Shared->Prop} {f:Value->Value->Sem α}
  (hf:∀ v u s2 x y H2,Inv X pins σ H2 s2->yW x v->yW y u->R x y H2->wpAny (model X.prog X.w) X.A (f v u) Q X.xe s2) :
  wpAny (model X.prog X.w) X.A (eval a X.env) (fun v s₁=>wpAny (model X.prog X.w) X.A (eval b X.env) (fun u s₂=>wpAny (model X.prog X.w) X.A (f v u) Q X.xe s₂) X.xe s₁) X.xe s:=by
 refine yB (ha pins s σ H _ I h) fun v s1 ⟨x,H1,I1,r1,q1⟩=>?_;refine yB (hb pins s1 σ H1 _ I1 q1) fun u s2 ⟨y,H2,I2,r2,q2⟩=>?_;exact hf v u s2 x y H2 I2 r1 r2 q2
def tVar (i:Nat):TE:=fun σ H Q=>∃ v,σ[i]?=some (some v)/\Q v H
def tC (v:V):TE:=fun _ H Q=>Q v H
theorem zho {i:Nat} {x:Str} {pos:Pos} (hN:X.N[i]?=some x) (hv:Vis X.env.scope x) (hd:(x==("__debug__" : Str))=false:=by decide) (hcd:(x==("__classdict__" : Str))=false:=by decide):PE X (.Name x pos) (tVar i):=by
 intro pins s σ H Q I h;obtain ⟨v,e,h⟩:=h;obtain ⟨m,hn,hl⟩:=I.loc;obtain ⟨u,r,l⟩:=hl i x v hN e hv;have fin:EP X pins σ Q u s:=⟨v,H,I,r,h⟩;rcases l with ⟨hk,hm⟩|⟨hk,c,hc,hcell⟩
 .exact wpAny_Name (wpAny_loadName_local I.ok.kind hk hn hm fin) hd
 .rcases hk with hk|hk
  .exact wpAny_Name (wpAny_loadName_cell I.ok.kind hk hc hcell fin) hd
  .exact wpAny_Name (wpAny_loadName_free I.ok.kind hk hc hcell fin hcd) hd
theorem ze0 {i j pos}:PE X (.Constant (.int i) j pos) (tC (.int i)):=fun _ _ _ H _ I h=>wpAny_Constant_int ⟨.int i,H,I.tok _,⟨_,rfl⟩,h⟩
theorem pe_bl {b j pos}:PE X (.Constant (.bool b) j pos) (tC (.bl b)):=fun _ _ _ H _ I h=>Constant_bool ⟨.bl b,H,I,rfl,h⟩
theorem zht {j pos}:PE X (.Constant .none j pos) (tC .non):=fun _ _ _ H _ I h=>Constant_none ⟨.non,H,I,rfl,h⟩
theorem zeY {x j pos}:PE X (.Constant (.str x) j pos) (tC (.str x)):=fun _ _ _ H _ I h=>Calls.Constant_str ⟨.str x,H,I.tok _,⟨_,rfl⟩,h⟩
def Gl (X:Cx) (x:Str):Prop:=X.env.kindOf x=some .globalImplicit
theorem bK {E:Value->Shared->Prop} {pins:List (Addr×Obj)} {s:Shared} {σ:St} {H:Hp} {x:Str} {u:Value} {pos:Pos} {Q:Value->Shared->Prop} (I:Inv X pins σ H s) (hg:Gl X x) (hm:X.mg x=some u) (h:Q u s)
  (hd:(x==("__debug__" : Str))=false:=by decide):wpAny (model X.prog X.w) X.A (eval (.Name x pos) X.env) Q E s :=
 Calls.Name_function_global I.ok.kind hg (Calls.loadGlobal_global (by rw [I.ok.glob];exact I.mod.glob.keeps I.bk) hm h) hd
theorem rN {E:Value->Shared->Prop} {pins:List (Addr×Obj)} {s:Shared} {σ:St} {H:Hp} {x:Str} {u:Value} {pos:Pos} {Q:Value->Shared->Prop} (I:Inv X pins σ H s) (hg:Gl X x) (hm:X.mg x=none) (hv:bootBuiltins x=some u) (h:Q u s)
  (hn:x ≠ "__name__" := by decide) (hd:(x==("__debug__" : Str))=false:=by decide):wpAny (model X.prog X.w) X.A (eval (.Name x pos) X.env) Q E s:=by
 obtain ⟨mb,h1,h2⟩:=I.mod.blt;exact Calls.Name_function_global I.ok.kind hg (Calls.loadGlobal_builtin (by rw [I.ok.glob];exact I.mod.glob.keeps I.bk) hm (by rw [I.ok.blt];exact h1.keeps I.bk) ((h2 x hn).trans hv) h) hd
theorem zfI {x:Str} {v:V} {u:Value} {pos:Pos} (hg:Gl X x) (hm:X.mg x=some u) (r:yW v u) (hd:(x==("__debug__" : Str))=false:=by decide):PE X (.Name x pos) (tC v) :=
 fun _ _ _ H _ I h=>bK I hg hm ⟨v,H,I,r,h⟩ hd
theorem zfM {x:Str} {v:V} {u:Value} {pos:Pos} (hg:Gl X x) (hm:X.mg x=none) (hv:bootBuiltins x=some u) (r:yW v u) (hn:x ≠ "__name__" := by decide) (hd:(x==("__debug__" : Str))=false:=by decide):PE X (.Name x pos) (tC v) :=
 fun _ _ _ H _ I h=>rN I hg hm hv ⟨v,H,I,r,h⟩ hn hd
variable {a b : Expr} {ta tb : TE} {pos : Pos}
variable {tA tB' : TT} {rest : List Expr}
def tAnd (t u:TT):TT:=fun σ H Q=>t σ H fun c H1=>if c=true then u σ H1 Q else Q false H1
def tOr (t u:TT):TT:=fun σ H Q=>t σ H fun c H1=>if c=true then Q true H1 else u σ H1 Q
def tNot (t:TT):TT:=fun σ H Q=>t σ H fun c H1=>Q (!c) H1
theorem zfv (ha:PT X a tA):PW X (.BoolOp .And [a] pos) tA:=by
 intro wh pins s σ H Q I h;refine isTrue_and (yB (ha pins s σ H Q I h) fun c s1 e=>?_)
 cases c with
 |true=>exact isTrue_and_nil e
 |false=>exact e
theorem zhd (ha:PT X a tA):PW X (.BoolOp .Or [a] pos) tA:=by
 intro wh pins s σ H Q I h;refine isTrue_or (yB (ha pins s σ H Q I h) fun c s1 e=>?_)
 cases c with
 |false=>exact isTrue_or_nil e
 |true=>exact e
theorem zeV (ha:PT X a tA) (hb:PW X (.BoolOp .And (b::rest) pos) tB'):PW X (.BoolOp .And (a::b::rest) pos) (tAnd tA tB'):=by
 intro wh pins s σ H Q I h;refine isTrue_and (yB (ha pins s σ H _ I h) fun c s1 ⟨H1,I1,q1⟩=>?_)
 cases c with
 |true=>exact hb wh pins s1 σ H1 Q I1 q1
 |false=>exact ⟨H1,I1,q1⟩
theorem zhe (ha:PT X a tA) (hb:PW X (.BoolOp .Or (b::rest) pos) tB'):PW X (.BoolOp .Or (a::b::rest) pos) (tOr tA tB'):=by
 intro wh pins s σ H Q I h;refine isTrue_or (yB (ha pins s σ H _ I h) fun c s1 ⟨H1,I1,q1⟩=>?_)
 cases c with
 |true=>exact ⟨H1,I1,q1⟩
 |false=>exact hb wh pins s1 σ H1 Q I1 q1
theorem zhf (ha:PT X a tA):PT X (.UnaryOp .Not a pos) (tNot tA):=by
 intro pins s σ H Q I h;exact isTrue_not (ha pins s σ H (fun c H1=>Q (!c) H1) I h)
def zgV (ta tb:TE):TE:=fun σ H Q=>ta σ H fun x H1=>∃ c,x=.bl c/\if c=true then tb σ H1 Q else Q (.bl false) H1
def tOrV (ta tb:TE):TE:=fun σ H Q=>ta σ H fun x H1=>∃ c,x=.bl c/\if c=true then Q (.bl true) H1 else tb σ H1 Q
def tNotV (ta:TE):TE:=fun σ H Q=>ta σ H fun x H1=>∃ c,x=.bl c/\Q (.bl (!c)) H1
theorem zeZ {op} {t:TE} (h:PE X a t):PE X (.BoolOp op [a] pos) t:=fun pins s σ H Q I hw=>BoolOp_one (h pins s σ H Q I hw)
theorem ze1 (ha:PE X a ta) (hb:PE X (.BoolOp .And (b::rest) pos) tb):PE X (.BoolOp .And (a::b::rest) pos) (zgV ta tb):=by
 intro pins s σ H Q I h;refine BoolOp_and (yB (ha pins s σ H _ I h) fun v s1 ⟨x,H1,I1,r1,q1⟩=>?_);obtain ⟨c,rfl,q1⟩:=q1;cases r1;refine wpAny_truthy_bool ?_
 cases c with
 |true=>exact hb pins s1 σ H1 Q I1 q1
 |false=>exact ⟨.bl false,H1,I1,rfl,q1⟩
theorem zhr (ha:PE X a ta) (hb:PE X (.BoolOp .Or (b::rest) pos) tb):PE X (.BoolOp .Or (a::b::rest) pos) (tOrV ta tb):=by
 intro pins s σ H Q I h;refine BoolOp_or (yB (ha pins s σ H _ I h) fun v s1 ⟨x,H1,I1,r1,q1⟩=>?_);obtain ⟨c,rfl,q1⟩:=q1;cases r1;refine wpAny_truthy_bool ?_
 cases c with
 |false=>exact hb pins s1 σ H1 Q I1 q1
 |true=>exact ⟨.bl true,H1,I1,rfl,q1⟩
theorem zhs (ha:PE X a ta):PE X (.UnaryOp .Not a pos) (tNotV ta):=by
 intro pins s σ H Q I h;refine UnaryOp_ (yB (ha pins s σ H _ I h) fun v s1 ⟨x,H1,I1,r1,q1⟩=>?_);obtain ⟨c,rfl,q1⟩:=q1;cases r1;exact not_of (wpAny_truthy_bool ⟨.bl (!c),H1,I1,rfl,q1⟩)
def tIf (t:TT) (ta tb:TE):TE:=fun σ H Q=>t σ H fun c H1=>if c=true then ta σ H1 Q else tb σ H1 Q
theorem zd4 {c:Expr} (hc:PT X c tA) (ha:PE X a ta) (hb:PE X b tb):PE X (.IfExp c a b pos) (tIf tA ta tb):=by
 intro pins s σ H Q I h;refine wpAny_IfExp (yB (hc pins s σ H _ I h) fun d s1 ⟨H1,I1,q1⟩=>?_)
 cases d with
 |true=>exact ha pins s1 σ H1 Q I1 q1
 |false=>exact hb pins s1 σ H1 Q I1 q1
end
end L2
namespace L2
open PySem PySem.Spec PyProof.Rows
def rF (K:PySem.W.Frag) (H:Hp) (a:Addr) (xs:List V):Prop :=
 Rd H a (.lst xs) \/
  ∃ (o:Obj) (its:Array Value) (n:Nat),K.lookup a=some o/\o.cls=.type "list" /\ o.dict=none/\o.data=.seq its n/\its.size<=sizeLine/\yX xs its.toList
def sZ (K:PySem.W.Frag) (H:Hp) (a:Addr) (xs:List V):Prop :=
 Rd H a (.tup xs) \/
  ∃ (o:Obj) (its:Array Value) (n:Nat),K.lookup a=some o/\o.cls=.type "tuple" /\ o.data=.seq its n/\its.size<=sizeLine/\yX xs its.toList
def absV:Value->Option V
 | .none=>some .non
 | .bool b=>some (.bl b)
 | .int i _=>some (.int i)
 | .str x _=>some (.str x)
 | .bytes b _=>some (.byt b)
 | .float b _=>some (.flt b)
 | .ref a=>some (.ref a)
 | .type n=>some (.ty n)
 |_=>none
theorem yW.abs {x:V} {u:Value} (r:yW x u):absV u=some x:=by
 cases x with
 |non=>cases r;rfl
 |bl _=>cases r;rfl
 |int _=>obtain ⟨t,rfl⟩:=r;rfl
 |str _=>obtain ⟨t,rfl⟩:=r;rfl
 |byt _=>obtain ⟨t,rfl⟩:=r;rfl
 |flt _=>obtain ⟨t,rfl⟩:=r;rfl
 |ref _=>cases r;rfl
 |ty _=>cases r;rfl
theorem yW.inj {x y:V} {u:Value} (r:yW x u) (q:yW y u):x=y:=Option.some.inj (r.abs.symm.trans q.abs)
theorem yX.inj:∀ {xs ys:List V} {us:List Value},yX xs us->yX ys us->xs=ys
 |_,_,_,.nil,.nil=>rfl
 |_,_,_,.cons r t,.cons r' t'=>by rw [r.inj r',yX.inj t t']
section
variable {X : Cx} {pins : List (Addr × Obj)} {σ : St} {H : Hp} {s : Shared} {a : Addr} {xs ys : List V}
theorem rF.of {K:PySem.W.Frag} (h:H a=some (.lst xs)):rF K H a xs:=.inl (.inl h)
theorem sZ.of {K:PySem.W.Frag} (h:H a=some (.tup xs)):sZ K H a xs:=.inl (.inl h)
theorem Inv.list (I:Inv X pins σ H s) (h:rF X.K H a xs):∃ its:List Value,yX xs its/\PlainL s.heap a its.toArray/\xs.length<=sizeLine:=by
 rcases h with h|⟨o,its,n,hk,hc,hd,hs,hz,r⟩
 .obtain ⟨z,its,n,r,e⟩:=h.ok I.hok;exact ⟨its,r,⟨_,n,e,rfl,rfl,rfl⟩,z⟩
 .refine ⟨its.toList,r,⟨o,n,I.kIn a o hk,hc,hd,by simpa using hs⟩,?_⟩;have e:=r.length;simp only [Array.length_toList] at e;omega
theorem Inv.tuple (I:Inv X pins σ H s) (h:sZ X.K H a xs):∃ its:List Value,yX xs its/\IsTup s.heap a its.toArray/\xs.length<=sizeLine:=by
 rcases h with h|⟨o,its,n,hk,hc,hs,hz,r⟩
 .obtain ⟨z,its,r,p⟩:=h.ok I.hok;exact ⟨its,r,p,z⟩
 .refine ⟨its.toList,r,⟨o,I.kIn a o hk,hc,n,by simpa using hs⟩,?_⟩;have e:=r.length;simp only [Array.length_toList] at e;omega
theorem Inv.list_inj (I:Inv X pins σ H s) (h:rF X.K H a xs) (h':rF X.K H a ys):xs=ys:=by
 obtain ⟨its,r,⟨o,n,e,_,_,d⟩,_⟩:=I.list h;obtain ⟨its',r',⟨o',n',e',_,_,d'⟩,_⟩:=I.list h';rw [e] at e';cases e';rw [d] at d'
 injection d' with d1 _
 have:its=its':=by simpa using congrArg Array.toList d1
 subst this;exact r.inj r'
theorem Inv.tuple_inj (I:Inv X pins σ H s) (h:sZ X.K H a xs) (h':sZ X.K H a ys):xs=ys:=by
 obtain ⟨its,r,⟨o,e,_,n,d⟩,_⟩:=I.tuple h;obtain ⟨its',r',⟨o',e',_,n',d'⟩,_⟩:=I.tuple h';rw [e] at e';cases e';rw [d] at d'
 injection d' with d1 _
 have:its=its':=by simpa using congrArg Array.toList d1
 subst this;exact r.inj r'
end
abbrev Cx.wish (X:Cx) (E:Value->Shared->Prop):Cx:={ X with xe:=E }
abbrev Cx.nox (X:Cx):Cx:=X.wish fun _ _=>False
theorem Cx.Ok.wish {X:Cx} (ok:X.Ok) (E:Value->Shared->Prop):(X.wish E).Ok :=
 ⟨ok.mod,ok.kind,ok.glob,ok.blt,ok.above,ok.inj,ok.has,ok.cab,ok.hd,ok.frames,ok.stk,ok.exf,ok.bs,ok.bsz,ok.noex,ok.exfs,ok.funs,ok.frf⟩
theorem Cx.Ok.unwish {X:Cx} {E:Value->Shared->Prop} (ok:(X.wish E).Ok):X.Ok :=
 ⟨ok.mod,ok.kind,ok.glob,ok.blt,ok.above,ok.inj,ok.has,ok.cab,ok.hd,ok.frames,ok.stk,ok.exf,ok.bs,ok.bsz,ok.noex,ok.exfs,ok.funs,ok.frf⟩
section
variable {X : Cx} {pins : List (Addr × Obj)} {σ : St} {H : Hp} {s : Shared} {E : Value → Shared → Prop}
theorem Inv.wish (I:Inv X pins σ H s) (E:Value->Shared->Prop):Inv (X.wish E) pins σ H s:=⟨I.ok.wish E,I.os,I.bare,I.base,I.loc,I.cell,I.free,I.freeC,I.pin,I.hok,I.len⟩
theorem Inv.unwish (I:Inv (X.wish E) pins σ H s):Inv X pins σ H s:=⟨I.ok.unwish,I.os,I.bare,I.base,I.loc,I.cell,I.free,I.freeC,I.pin,I.hok,I.len⟩
theorem SP.unwish {D:Ends} {f:Flow} {s':Shared} (h:SP (X.wish E) pins D f s'):SP X pins D f s':=by
 cases f with
 |next=>obtain ⟨σ',H',I,q⟩:=h;exact ⟨σ',H',I.unwish,q⟩
 |brk=>obtain ⟨σ',H',I,q⟩:=h;exact ⟨σ',H',I.unwish,q⟩
 |cont=>obtain ⟨σ',H',I,q⟩:=h;exact ⟨σ',H',I.unwish,q⟩
 |ret u=>obtain ⟨v,σ',H',I,r,q⟩:=h;exact ⟨v,σ',H',I.unwish,r,q⟩
theorem PSs.nox {st:List Stmt} {t:TS} (h:PSs X.nox st t):PSs X st t:=fun pins s σ H D I hw =>
 wpAny_mono (h pins s σ H D (I.wish _) hw) (fun _ _ q=>q.unwish) fun _ _ z=>False.elim z
end
section
variable {X : Cx} {st : Stmt} {rest : List Stmt} {t u : TS} {e : Expr} {te : TE} {pos : Pos}
def zgS:TS:=fun D σ H=>D.nx σ H
def tSeq (t u:TS):TS:=fun D σ H=>t { D with nx:=u D } σ H
theorem zfA:PSs X [] zgS:=fun _ _ σ H _ I h=>wpAny_execs_nil ⟨σ,H,I,h⟩
theorem zdU (h1:PS X st t) (h2:PSs X rest u):PSs X (st::rest) (tSeq t u):=by
 intro pins s σ H D I h;refine wpAny_execs_cons (yB (h1 pins s σ H { D with nx:=u D } I h) fun f s1 q=>?_)
 cases f with
 |next =>
  obtain ⟨σ',H',I',q⟩:=q;exact h2 pins s1 σ' H' D I' q
 |ret v=>exact q
 |brk=>exact q
 |cont=>exact q
def zgU:TS:=fun D σ H=>D.bk σ H
def tCont:TS:=fun D σ H=>D.ct σ H
theorem zfC:PS X (.Pass pos) zgS:=fun _ _ σ H _ I h=>wpAny_Pass ⟨σ,H,I,h⟩
theorem zdY:PS X (.Break pos) zgU:=fun _ _ σ H _ I h=>wpAny_Break ⟨σ,H,I,h⟩
theorem zan:PS X (.Continue pos) tCont:=fun _ _ σ H _ I h=>wpAny_Continue ⟨σ,H,I,h⟩
theorem Inv.quiet {pins:List (Addr×Obj)} {σ:St} {H:Hp} {s:Shared} (I:Inv X pins σ H s):interactive X.env=false:=by simp [interactive,I.ok.kind]
def tDrop (te:TE):TS:=fun D σ H=>te σ H fun _ H1=>D.nx σ H1
theorem zfD (he:PE X e te) (hs:swapsWith e none pos.line X.env=pure false:=by rfl):PS X (.Expr e pos) (tDrop te):=by
 intro pins s σ H D I h;exact wpAny_Expr_any (yB (he pins s σ H _ I h) fun v s1 ⟨x,H1,I1,r1,q1⟩=>⟨σ,H1,I1,q1⟩) I.quiet hs
def tRet (te:TE):TS:=fun D σ H=>te σ H D.rt
theorem zhh (he:PE X e te):PS X (.Return (some e) pos) (tRet te):=by
 intro pins s σ H D I h;exact wpAny_Return_some (yB (he pins s σ H _ I h) fun v s1 ⟨x,H1,I1,r1,q1⟩=>⟨x,σ,H1,I1,r1,q1⟩)
def tRetN:TS:=fun D _ H=>D.rt .non H
theorem zfB:PS X (.Return none pos) tRetN:=fun _ _ σ H _ I h=>wpAny_Return_none ⟨.non,σ,H,I,rfl,h⟩
def tIfS (c:TT) (t u:TS):TS:=fun D σ H=>c σ H fun b H1=>if b=true then t D σ H1 else u D σ H1
theorem ps_if {c:Expr} {a b:List Stmt} {tc:TT} (hc:PT X c tc) (ha:PSs X a t) (hb:PSs X b u):PS X (.If c a b pos) (tIfS tc t u):=by
 intro pins s σ H D I h;refine wpAny_If (yB (hc pins s σ H _ I h) fun d s1 ⟨H1,I1,q1⟩=>?_)
 cases d with
 |true=>exact ha pins s1 σ H1 D I1 q1
 |false=>exact hb pins s1 σ H1 D I1 q1
def zgT:TS:=fun _ _ _=>False
theorem zdX:PS X st zgT:=fun _ _ _ _ _ _ h=>h.elim
end
abbrev TG:=V->St->Hp->(St->Hp->Prop)->Prop
abbrev TGs:=List V->St->Hp->(St->Hp->Prop)->Prop
def PG (X:Cx) (target:Expr) (t:TG):Prop :=
 ∀ (pins:List (Addr×Obj)) (s:Shared) (σ:St) (H:Hp) (v:V) (u:Value) (Q:St->Hp->Prop),Inv X pins σ H s->yW v u->t v σ H Q ->
  wpAny (model X.prog X.w) X.A (assign target X.env u) (fun _ s'=>∃ σ' H',Inv X pins σ' H' s'/\Q σ' H') X.xe s
def PGs (X:Cx) (ts:List Expr) (t:TGs):Prop :=
 ∀ (pins:List (Addr×Obj)) (s:Shared) (σ:St) (H:Hp) (vs:List V) (us:List Value) (Q:St->Hp->Prop),Inv X pins σ H s->yX vs us->t vs σ H Q ->
  wpAny (model X.prog X.w) X.A (assignInOrder ((assignEach ts X.env).map (·.2)) us) (fun _ s'=>∃ σ' H',Inv X pins σ' H' s'/\Q σ' H') X.xe s
abbrev TSet:=V->V->V->Hp->(Hp->Prop)->Prop
def PSet (X:Cx) (t:TSet):Prop :=
 ∀ (pins:List (Addr×Obj)) (s:Shared) (σ:St) (H:Hp) (o i v:V) (ov iv u:Value) (Q:Hp->Prop),Inv X pins σ H s->yW o ov->yW i iv->yW v u->t o i v H Q ->
  wpAny (model X.prog X.w) X.A (setItem ov iv u) (fun _ s'=>∃ H',Inv X pins σ H' s'/\Q H') X.xe s
section
variable {X : Cx} {pos : Pos}
def zev (i:Nat):TG:=fun v σ H Q=>Q (σ.set i (some v)) H
theorem bQ {i:Nat} {x:Str} (hN:X.N.Nodup) (hi:X.N[i]?=some x) (hx:Loc X.env.scope x) (hf:X.fn x=true\/X.env.scope.names.lookup x=some .local:=by first|exact .inl rfl|exact .inr rfl|assumption):PG X (.Name x pos) (zev i):=by
 intro pins s σ H v u Q I r h;exact wpAny_assign_Name (zaK I hN hi hx r (fun s' I'=>⟨_,H,I',h⟩) hf)
def gNil:TGs:=fun vs σ H Q=>vs=[]/\Q σ H
def gCons (t:TG) (u:TGs):TGs:=fun vs σ H Q=>∃ v r,vs=v::r/\t v σ H fun σ' H'=>u r σ' H' Q
theorem zca:PGs X [] gNil:=by
 intro pins s σ H vs us Q I r h;obtain ⟨e,h⟩:=h;subst e;cases r;exact assignInOrder_nil ⟨σ,H,I,h⟩
theorem nC {e:Expr} {es:List Expr} {t:TG} {u:TGs} (h1:PG X e t) (h2:PGs X es u)
  (hs:(assignEach (e::es) X.env).map (·.2)=assign e X.env::(assignEach es X.env).map (·.2):=by rfl):PGs X (e::es) (gCons t u):=by
 intro pins s σ H vs us Q I r h;obtain ⟨v,vr,e1,h⟩:=h;subst e1
 cases r with
 |cons r rr =>
  rw [hs];refine assignInOrder_cons (yB (h1 pins s σ H _ _ _ I r h) fun _ s1 ⟨σ1,H1,I1,q1⟩=>?_);exact h2 pins s1 σ1 H1 _ _ Q I1 rr q1
def gTup (K:PySem.W.Frag) (n:Nat) (t:TGs):TG:=fun v σ H Q=>∃ a xs,v=.ref a/\sZ K H a xs/\xs.length=n/\t xs σ H Q
theorem zhn {es:List Expr} {k:Nat} {t:TGs} {n:Nat} (hc:X.calm=true) (h:PGs X es t)
  (hn:(assignEach es X.env).length=n:=by rfl) (hst:(assignEach es X.env).findIdx? (·.1)=none:=by rfl):PG X (.Tuple es k pos) (gTup X.K n t):=by
 intro pins s σ H v u Q I r hw;obtain ⟨a,xs,e1,hq,hl,hw⟩:=hw;subst e1;cases r;obtain ⟨its,rv,ht,hz⟩:=I.tuple hq;refine assign_Tuple_tuple (I.ok.hd hc) ht (by simp [hn,← hl,rv.length]) hst fun h' hx=>?_;have I1:Inv X pins σ H { s with heap:=h' }:=I.kept (t':=s.toks) fun b o e=>hx b o (Nat.ne_of_lt (Heap.lt_size e)) e;exact h pins _ σ H xs _ Q I1 (by simpa using rv) hw
def tAsg (te:TE) (g:TG):TS:=fun D σ H=>te σ H fun x H1=>g x σ H1 D.nx
theorem zeX {tg e:Expr} {te:TE} {g:TG} (he:PE X e te) (hg:PG X tg g) (hs:swapsWithSole [tg] e pos.line X.env=pure false:=by rfl) (hw:swappedStores [tg] e X.env=pure none:=by rfl)
  (h1:(assignEach [tg] X.env).map (·.2)=[assign tg X.env]:=by rfl):PS X (.Assign [tg] e pos) (tAsg te g):=by
 intro pins s σ H D I h;refine wpAny_Assign_stores (yB (he pins s σ H _ I h) fun v s1 ⟨x,H1,I1,r1,q1⟩=>?_) hs hw;rw [h1];exact yB (hg pins s1 σ H1 x v _ I1 r1 q1) fun _ s2 q=>q
theorem zeW {i:Nat} {x:Str} {e:Expr} {te:TE} {pos':Pos} (hN:X.N.Nodup) (hi:X.N[i]?=some x) (hx:Loc X.env.scope x) (he:PE X e te) (hs:swapsWith e (some (.Name x pos')) pos.line X.env=pure false:=by rfl) (hf:X.fn x=true\/X.env.scope.names.lookup x=some .local:=by first|exact .inl rfl|exact .inr rfl|assumption) :
  PS X (.Assign [.Name x pos'] e pos) (tAsg te (zev i)):=by
 intro pins s σ H D I h;refine wpAny_Assign_Name (yB (he pins s σ H _ I h) fun v s1 ⟨y,H1,I1,r1,q1⟩=>?_) hs;exact zaK I1 hN hi hx r1 (fun s2 I2=>⟨_,H1,I2,q1⟩) hf
end
section
variable {X : Cx} {pos : Pos}
def zgR (c:TT) (tb:TS):TS:=fun D σ H=>∃ W:Nat->St->Hp->Prop,(∃ m,W m σ H)/\∀ m σ H,W m σ H ->
 c σ H fun b H1=>if b=true then ∃ N:St->Hp->Prop,(∀ σ' H',N σ' H'->∃ m',m' < m/\W m' σ' H')/\tb { D with nx:=N,ct:=N,bk:=D.nx } σ H1 else D.nx σ H1
theorem zdV {c:Expr} {body:List Stmt} {tc:TT} {tb:TS} (hp:PassesOwn (model X.prog X.w) X.A X.env X.xe) (hc:PT X c tc) (hb:PSs X body tb):PS X (.While c body [] pos) (zgR tc tb):=by
 intro pins s σ H D I h;obtain ⟨W,⟨m0,w0⟩,turn⟩:=h;refine wpAny_While (codeAny_whileLoop (fun n s'=>∃ σ' H',Inv X pins σ' H' s'/\W n σ' H') ?_ m0 ⟨σ,H,I,w0⟩);rintro n s1 ⟨σ1,H1,I1,w1⟩;refine wpAny_passesOwn hp (yB (hc pins s1 σ1 H1 _ I1 (turn n σ1 H1 w1)) fun b s2 ⟨H2,I2,q2⟩=>?_)
 cases b with
 |true =>
  obtain ⟨N,hN,q2⟩:=q2;rw [if_pos rfl];refine wpAny_passesOwn hp (yB (hb pins s2 σ1 H2 _ I2 q2) fun f s3 q3=>?_)
  cases f with
  |next =>
   obtain ⟨σ3,H3,I3,n3⟩:=q3;obtain ⟨m',hm,w3⟩:=hN σ3 H3 n3;exact ⟨m',hm,σ3,H3,I3,w3⟩
  |cont =>
   obtain ⟨σ3,H3,I3,n3⟩:=q3;obtain ⟨m',hm,w3⟩:=hN σ3 H3 n3;exact ⟨m',hm,σ3,H3,I3,w3⟩
  |brk=>exact q3
  |ret v=>exact q3
 |false =>
  rw [if_neg zzN];exact wpAny_execs_nil ⟨σ1,H2,I2,q2⟩
end
structure It where
 go:Nat->Hp->Prop
 yld:Nat->Hp->V->Hp->Prop
 stop:Nat->Hp->Prop
def rX (X:Cx) (pins:List (Addr×Obj)) (H:Hp) (b:Addr):Prop :=
 H b=none/\b≠X.env.locals/\b∉X.fs/\(b∈X.ex\/X.s₀.heap.objs.size<=b)/\(∀ x c,X.env.cells.lookup x=some c->c≠b)/\∀ p∈X.pn++pins,p.1≠b
theorem Inv.fpOk {X:Cx} {pins:List (Addr×Obj)} {σ:St} {H H':Hp} {s:Shared} {b:Addr} (I:Inv X pins σ H s) (hb:s.heap.objs.size<=b) (hn:H' b=none):rX X pins H' b:=by
 refine ⟨hn,Nat.ne_of_gt (Nat.lt_of_lt_of_le I.lt hb),I.nofs hb,.inr (Nat.le_trans I.sz hb),fun x c e z=>?_,fun p hp z=>?_⟩
 .obtain ⟨v,q⟩:=I.cell x c e;exact absurd (Nat.lt_of_lt_of_le q.lt (by rw [z];exact hb)) (Nat.lt_irrefl _)
 .exact absurd (Nat.lt_of_lt_of_le (Heap.lt_size (I.pin p hp).1) (by rw [z];exact hb)) (Nat.lt_irrefl _)
structure Turn (P:Program) (w:World) (K:PySem.W.Frag) (tg:Expr) (J:It) (fp:List Addr) (it:Addr) (tn:Nat->Heap->Prop):Prop where
 mem:it∈fp
 obj:∀ i h,tn i h->∀ b∈fp,∃ o,h.get? b=some o/\∀ v,o.data≠.cell v
 keep:∀ i h h',tn i h->(∀ b∈fp,∀ o,h.get? b=some o->h'.get? b=some o)->tn i h'
 item:∀ (X:Cx),X.prog=P->X.w=w->X.K=K->X.calm=true->∀ (i:Nat) (pins:List (Addr×Obj)) (s:Shared) (σ:St) (H:Hp) (E:Value->Shared->Prop),Inv X pins σ H s->(∀ b∈fp,rX X pins H b)->tn i s.heap->J.go i H ->
  wpAny (model P w) X.A (pyNext (.ref it)) (fun r s1=>∃ u,r=some u /\
   wpAny (model P w) X.A (letOwnedTupleGo tg (.ref it) u) (fun _ s2=>∃ x H',Inv X pins σ H' s2/\yW x u/\J.yld i H x H'/\tn (i+1) s2.heap/\∀ b∈fp,H' b=none) E s1) E s
 done:∀ (X:Cx),X.prog=P->X.w=w->X.K=K->X.calm=true->∀ (i:Nat) (pins:List (Addr×Obj)) (s:Shared) (σ:St) (H:Hp) (E:Value->Shared->Prop),Inv X pins σ H s->(∀ b∈fp,rX X pins H b)->tn i s.heap->J.stop i H ->
  wpAny (model P w) X.A (pyNext (.ref it)) (fun r s1=>r=none/\Inv X pins σ H s1) E s
 self:∀ (A:Around) (i:Nat) (s:Shared) (Q:Value->Shared->Prop) (E:Value->Shared->Prop),tn i s.heap->Q (.ref it) s->wpAny (model P w) A (pyIter (.ref it)) Q E s
abbrev TI:=St->Hp->(It->Hp->Prop)->Prop
def PIE (X:Cx) (pins:List (Addr×Obj)) (σ:St) (tg:Expr) (R:It->Hp->Prop) (itv:Value) (s2:Shared):Prop :=
 ∃ (it:Addr) (fp:List Addr) (tn:Nat->Heap->Prop) (J:It) (H':Hp),itv=.ref it/\Inv X pins σ H' s2/\Turn X.prog X.w X.K tg J fp it tn/\tn 0 s2.heap/\(∀ b∈fp,rX X pins H' b)/\R J H'
def PI (X:Cx) (tg iter:Expr) (wi:TI):Prop :=
 ∀ (pins:List (Addr×Obj)) (s:Shared) (σ:St) (H:Hp) (R:It->Hp->Prop),Inv X pins σ H s->wi σ H R ->
  wpAny (model X.prog X.w) X.A (eval iter X.env) (fun v s1=>wpAny (model X.prog X.w) X.A (pyIter v) (PIE X pins σ tg R) X.xe s1) X.xe s
theorem dD {M:Model} {A:Around} {E:Value->Shared->Prop} {s:Shared} {tg:Expr} {it:Addr} {u:Value} {o:Obj} {n:String} {vs:Array Value} {Q:Unit->Shared->Prop} (ho:s.heap.get? it=some o) (hc:o.cls=.type n) (hd:o.data=.fields vs)
    (hn:["enumerate", "zip", "dict_itemiterator", "dict_reverseitemiterator", "odict_iterator", "itertools.zip_longest", "itertools.pairwise"].contains n=false) (hQ:Q () s):wpAny M A (letOwnedTupleGo tg (.ref it) u) Q E s:=by
  unfold letOwnedTupleGo
  cases tg<;>first
    |exact wpAny_pure hQ
    | (cases u<;>first
        |exact wpAny_pure hQ
        | (refine wpAny_bind (wpAny_load ho ?_)
           rw [hc,hd];show wpAny M A (if (["enumerate", "zip", "dict_itemiterator", "dict_reverseitemiterator", "odict_iterator", "itertools.zip_longest", "itertools.pairwise"].contains n&&vs[0]?==some (rawInt _))=true then _ else _) Q E s;rw [if_neg (by intro h;rw [hn,Bool.false_and] at h;cases h)];exact wpAny_pure hQ))
def Itl (K:PySem.W.Frag) (a:Addr):It :=
 ⟨fun i H=>∃ xs x,rF K H a xs/\xs[i]?=some x,fun i H x H'=>H'=H/\∀ xs,rF K H a xs->xs[i]?=some x,fun i H=>∃ xs,rF K H a xs/\xs.length<=i⟩
def Itt (K:PySem.W.Frag) (a:Addr):It :=
 ⟨fun i H=>∃ xs x,sZ K H a xs/\xs[i]?=some x,fun i H x H'=>H'=H/\∀ xs,sZ K H a xs->xs[i]?=some x,fun i H=>∃ xs,sZ K H a xs/\xs.length<=i⟩
def Itr (lo:Int) (n:Nat):It:=⟨fun i _=>i<n,fun i H x H'=>H'=H/\x=.int (lo+i),fun i _=>n<=i⟩
theorem zbG {P:Program} {w:World} {K:PySem.W.Frag} {tg:Expr} (a it:Addr):Turn P w K tg (Itl K a) [it] it (fun i h=>h.IsListIter it a i) where
 mem:=by simp
 obj:=fun i h st b hb=>by
  have e:b=it:=by simpa using hb
  subst e;obtain ⟨o,e,c,d⟩:=st;exact ⟨o,e,fun v z=>by rw [d] at z;cases z⟩
 keep:=fun i h h' st k=>st.at fun o e=>k it (by simp) o e
 item:=by
  intro X hP hw hK hc i pins s σ H E I hf st hg;subst hP hw hK;obtain ⟨xs,x,hq,hx⟩:=hg;obtain ⟨its,rv,p,hz⟩:=I.list hq;obtain ⟨u,hu,ru⟩:=rv.get hx;obtain ⟨f0,f1,f2,f3,f4,f5⟩:=hf it (by simp);refine wpAny_pyNext_list_item st p.isList (x:=u) (by simpa using hu) fun h' st' sb=>?_;have I1:Inv X pins σ H { s with heap:=h' }:=I.turned (t':=s.toks) (fun b o hb e=>(sb.2 b hb).trans e) f0 f1 f3 f4 f5;obtain ⟨o,e,c,d⟩:=id st';exact ⟨u,rfl,dD (s:={ s with heap:=h' }) e c d (by decide) ⟨x,H,I1,ru,⟨rfl,fun ys hy=>by rw [I.list_inj hy hq];exact hx⟩,st',fun b hb=>(hf b hb).1⟩⟩
 done:=by
  intro X hP hw hK hc i pins s σ H E I hf st hg;subst hP hw hK;obtain ⟨xs,hq,hx⟩:=hg;obtain ⟨its,rv,p,hz⟩:=I.list hq;obtain ⟨f0,f1,f2,f3,f4,f5⟩:=hf it (by simp);have hl:=rv.length;exact wpAny_pyNext_list_end (I.ok.hd hc) st p.isList (by simp;omega) fun h' eb=>⟨rfl,I.turned (t':=s.toks) (fun b o hb e=>eb b o hb e) f0 f1 f3 f4 f5⟩
 self:=fun _ _ _ _ _ st h=>wpAny_pyIter_listiter st h
theorem zbc {P:Program} {w:World} {K:PySem.W.Frag} {tg:Expr} (a it:Addr):Turn P w K tg (Itt K a) [it] it (fun i h=>h.IsTupleIter it a i) where
 mem:=by simp
 obj:=fun i h st b hb=>by
  have e:b=it:=by simpa using hb
  subst e;obtain ⟨o,e,c,d⟩:=st;exact ⟨o,e,fun v z=>by rw [d] at z;cases z⟩
 keep:=fun i h h' st k=>st.at fun o e=>k it (by simp) o e
 item:=by
  intro X hP hw hK hc i pins s σ H E I hf st hg;subst hP hw hK;obtain ⟨xs,x,hq,hx⟩:=hg;obtain ⟨its,rv,p,hz⟩:=I.tuple hq;obtain ⟨u,hu,ru⟩:=rv.get hx;obtain ⟨f0,f1,f2,f3,f4,f5⟩:=hf it (by simp);refine wpAny_pyNext_tuple_item st (show s.heap.IsTuple a its.toArray from p) (x:=u) (by simpa using hu) fun h' st' sb=>?_;have I1:Inv X pins σ H { s with heap:=h' }:=I.turned (t':=s.toks) (fun b o hb e=>(sb.2 b hb).trans e) f0 f1 f3 f4 f5;obtain ⟨o,e,c,d⟩:=id st';exact ⟨u,rfl,dD (s:={ s with heap:=h' }) e c d (by decide) ⟨x,H,I1,ru,⟨rfl,fun ys hy=>by rw [I.tuple_inj hy hq];exact hx⟩,st',fun b hb=>(hf b hb).1⟩⟩
 done:=by
  intro X hP hw hK hc i pins s σ H E I hf st hg;subst hP hw hK;obtain ⟨xs,hq,hx⟩:=hg;obtain ⟨its,rv,p,hz⟩:=I.tuple hq;obtain ⟨f0,f1,f2,f3,f4,f5⟩:=hf it (by simp);have hl:=rv.length;exact wpAny_pyNext_tuple_end (I.ok.hd hc) st (show s.heap.IsTuple a its.toArray from p) (by simp;omega) fun h' eb=>⟨rfl,I.turned (t':=s.toks) (fun b o hb e=>eb b o hb e) f0 f1 f3 f4 f5⟩
 self:=fun _ _ _ _ _ st h=>wpAny_pyIter_tupleiter st h
theorem zbd {P:Program} {w:World} {K:PySem.W.Frag} {tg:Expr} (it:Addr) (lo:Int) (n:Nat):Turn P w K tg (Itr lo n) [it] it (fun i h=>IsRangeIter h it (lo+(i:Nat) * 1) ((n:Int)-(i:Nat)) 1) where
 mem:=by simp
 obj:=fun i h st b hb=>by
  have e:b=it:=by simpa using hb
  subst e
  exact ⟨_,st,fun v z=>by
   have z':Data.fields _=Data.cell v:=z;cases z'⟩
 keep:=fun i h h' st k=>k it (by simp) _ st
 item:=by
  intro X hP hw hK hc i pins s σ H E I hf st hg;subst hP hw hK;obtain ⟨f0,f1,f2,f3,f4,f5⟩:=hf it (by simp);have W:=Walks.range (prog:=X.prog) (w:=X.w) (I.ok.hd hc) it lo 1 n;refine W.item i s _ _ hg st fun v h' tk hv st' kk=>?_;obtain ⟨t,rfl⟩:=hv;have I1:Inv X pins σ H { s with heap:=h',toks:=tk }:=I.turned (fun b o hb e=>kk b o (by simpa using hb) e) f0 f1 f3 f4 f5;refine ⟨_,rfl,dD (s:={ s with heap:=h',toks:=tk }) (n := "range_iterator") st' rfl rfl (by decide) ⟨.int (lo+i),H,I1,⟨t,?_⟩,⟨rfl,rfl⟩,st',fun b hb=>(hf b hb).1⟩⟩;rw [Int.mul_one]
 done:=by
  intro X hP hw hK hc i pins s σ H E I hf st hg;subst hP hw hK;obtain ⟨f0,f1,f2,f3,f4,f5⟩:=hf it (by simp);exact wpAny_pyNext_range_end (I.ok.hd hc) st (by have:n<=i:=hg;omega) fun h' eb=>⟨rfl,I.turned (t':=s.toks) (fun b o hb e=>eb b o hb e) f0 f1 f3 f4 f5⟩
 self:=fun _ _ _ _ _ st h=>wpAny_pyIter_rangeiter st h
end L2
namespace L2
open PySem PySem.Spec PyProof.Rows
section
variable {X : Cx} {tg : Expr}
theorem zaQ {pins:List (Addr×Obj)} {σ:St} {H:Hp} {s:Shared} {R:It->Hp->Prop} {E:Value->Shared->Prop} {lo hi:Int} {t u v:Tok} {tk:Nat} (I:Inv X pins σ H s) (h1:-(2 ^ 62)<=lo) (h2:lo<2 ^ 62) (h3:-(2 ^ 62)<=hi) (h4:hi<2 ^ 62)
  (q:R (Itr lo (hi-lo).toNat) H):wpAny (model X.prog X.w) X.A (pyIter (.ref s.heap.objs.size)) (PIE X pins σ tg R) E { s with heap:=s.heap.push { cls:=.type "range", data:=.fields #[.int lo t,.int hi u,.int 1 v] },toks:=tk }:=by
 refine wpAny_pyIter_range (IsRange.new ..) (small_one h1 h2 h3 h4) ?_;have I1:Inv X pins σ H { s with heap:=s.heap.push { cls:=.type "range", data:=.fields #[.int lo t,.int hi u,.int 1 v] },toks:=tk }:=I.kept fun b o e=>Heap.get?_push_of_some _ e
 refine ⟨(s.heap.push { cls:=.type "range", data:=.fields #[.int lo t,.int hi u,.int 1 v] }).objs.size,[(s.heap.push { cls:=.type "range", data:=.fields #[.int lo t,.int hi u,.int 1 v] }).objs.size],_,_,H,rfl,
  I1.kept (t':=tk) fun b o e=>Heap.get?_push_of_some _ e,zbd _ lo (hi-lo).toNat,?_,fun b hb=>?_,q⟩
 .have e1:lo+((0:Nat):Int) * 1=lo:=by simp
  have e2:(((hi-lo).toNat:Nat):Int)-((0:Nat):Int)=Builtin.Range.rangeSize lo hi 1:=by rw [rangeSize_one];split<;>omega
  show IsRangeIter _ _ (lo+((0:Nat):Int) * 1) ((((hi-lo).toNat:Nat):Int)-((0:Nat):Int)) 1;rw [e1,e2];exact Heap.get?_push_size _ rfl
 .have e:b=(s.heap.push { cls:=.type "range", data:=.fields #[.int lo t,.int hi u,.int 1 v] }).objs.size:=by simpa using hb
  subst e;exact I1.fpOk (zzR _) (I1.hok.fresh (zzR _))
def tFor (wi:TI) (g:TG) (tb:TS):TS:=fun D σ H=>wi σ H fun J H1=>∃ W:Nat->Nat->St->Hp->Prop,(∃ m,W 0 m σ H1)/\∀ i m σ H,W i m σ H ->
 (J.stop i H/\D.nx σ H)\/(J.go i H/\∃ N:St->Hp->Prop,(∀ σ' H',N σ' H'->∃ m',m' < m/\W (i+1) m' σ' H')/\∀ x H',J.yld i H x H'->g x σ H' fun σ2 H2=>tb { D with nx:=N,ct:=N,bk:=D.nx } σ2 H2)
def rT (fp:List Addr) (h:Heap):List (Addr×Obj):=fp.filterMap fun b=>(h.get? b).map fun o=>(b,o)
theorem vY {fp:List Addr} {h:Heap} {b:Addr} {o:Obj} (hb:b∈fp) (e:h.get? b=some o):(b,o)∈rT fp h:=List.mem_filterMap.mpr ⟨b,hb,by rw [e];rfl⟩
theorem zci {fp:List Addr} {h:Heap} {p:Addr×Obj} (hp:p∈rT fp h):p.1∈fp/\h.get? p.1=some p.2:=by
 obtain ⟨b,hb,e⟩:=List.mem_filterMap.mp hp
 cases q:h.get? b with
 |none=>rw [q] at e;cases e
 |some o =>
  rw [q] at e;have e':(b,o)=p:=Option.some.inj e;subst e';exact ⟨hb,q⟩
theorem Inv.pinned {pins:List (Addr×Obj)} {σ:St} {H:Hp} {s:Shared} {fp:List Addr} (I:Inv X pins σ H s) (hf:∀ b∈fp,rX X pins H b) (ho:∀ b∈fp,∃ o,s.heap.get? b=some o/\∀ v,o.data≠.cell v):Inv X (pins++rT fp s.heap) σ H s :=
 I.pins_of fun p hp=>(List.mem_append.mp hp).elim (fun z=>I.pin p (List.mem_append_right _ z)) fun z=>by
  obtain ⟨hb,e⟩:=zci z;obtain ⟨f0,f1,f2,_⟩:=hf p.1 hb;obtain ⟨o,e',d⟩:=ho p.1 hb;rw [e] at e';cases e';exact ⟨e,f0,f1,f2,d⟩
theorem Inv.unpinned {pins pl:List (Addr×Obj)} {σ:St} {H:Hp} {s:Shared} (I:Inv X (pins++pl) σ H s):Inv X pins σ H s:=I.pins_of fun p hp=>I.pin p (List.mem_append_right _ (List.mem_append_left _ hp))
theorem zhi {iter:Expr} {body:List Stmt} {wi:TI} {g:TG} {tb:TS} {pos:Pos} (hp:PassesOwn (model X.prog X.w) X.A X.env X.xe) (hc:X.calm=true) (hi:PI X tg iter wi) (hg:PG X tg g) (hb:PSs X body tb)
  (hs:∀ x,foldedSetIterable iter X.env x=pure x:=by intro _;rfl):PS X (.For tg iter body [] pos) (tFor wi g tb):=by
 intro pins s σ H D I h;refine wpAny_For (yB (hi pins s σ H _ I h) fun v s1 h1=>yB h1 fun itv s2 h2=>?_) hs;obtain ⟨it,fp,tn,J,H2,e,I2,T,st2,f2,W,⟨m0,w0⟩,turn⟩:=h2;subst e;have stat:∀ {H':Hp},(∀ b∈fp,H' b=none)->∀ b∈fp,rX X pins H' b:=fun hn b hb=>⟨hn b hb,(f2 b hb).2⟩;refine codeAny_forLoop_any (fun n s'=>∃ i σ' H',Inv X pins σ' H' s'/\tn i s'.heap/\(∀ b∈fp,H' b=none)/\W i n σ' H') ?_ m0 ⟨0,σ,H2,I2,st2,fun b hb=>(f2 b hb).1,w0⟩;rintro n s3 ⟨i,σ3,H3,I3,st3,fr3,w3⟩;rcases turn i n σ3 H3 w3 with ⟨stop,qn⟩|⟨go,N,hN,step⟩
 .refine wpAny_passesOwn hp (yB (T.done X rfl rfl rfl hc i pins s3 σ3 H3 X.xe I3 (stat fr3) st3 stop) fun r s4 ⟨hr,I4⟩=>?_);subst hr;exact wpAny_execs_nil ⟨σ3,H3,I4,qn⟩
 .refine wpAny_passesOwn hp (yB (T.item X rfl rfl rfl hc i pins s3 σ3 H3 X.xe I3 (stat fr3) st3 go) fun r s4 ⟨u,hr,h4⟩=>?_);subst hr;refine wpAny_passesOwn hp (yB h4 fun _ s5 ⟨x,H5,I5,r5,y5,st5,fr5⟩=>?_);have I5':=I5.pinned (stat fr5) (T.obj _ _ st5);refine wpAny_passesOwn hp (yB (hg _ s5 σ3 H5 x u _ I5' r5 (step x H5 y5)) fun _ s6 ⟨σ6,H6,I6,q6⟩=>?_);refine wpAny_passesOwn hp (yB (hb _ s6 σ6 H6 _ I6 q6) fun f s7 q7=>?_)
  have again:∀ {σ7:St} {H7:Hp},Inv X (pins++rT fp s5.heap) σ7 H7 s7->N σ7 H7->∃ m,m<n/\∃ i σ' H',Inv X pins σ' H' s7/\tn i s7.heap/\(∀ b∈fp,H' b=none)/\W i m σ' H':=fun {σ7 H7} I7 n7=>by
   obtain ⟨m',hm,w7⟩:=hN σ7 H7 n7;refine ⟨m',hm,i+1,σ7,H7,I7.unpinned,T.keep _ _ _ st5 fun b hb o e=>(I7.pin (b,o) (List.mem_append_right _ (List.mem_append_right _ (vY hb e)))).1,fun b hb=>?_,w7⟩;obtain ⟨o,e,d⟩:=T.obj _ _ st5 b hb;exact (I7.pin (b,o) (List.mem_append_right _ (List.mem_append_right _ (vY hb e)))).2.1
  cases f with
  |next=>obtain ⟨σ7,H7,I7,n7⟩:=q7;exact again I7 n7
  |cont=>obtain ⟨σ7,H7,I7,n7⟩:=q7;exact again I7 n7
  |brk=>obtain ⟨σ7,H7,I7,q7⟩:=q7;exact ⟨σ7,H7,I7.unpinned,q7⟩
  |ret v=>obtain ⟨x7,σ7,H7,I7,r7,q7⟩:=q7;exact ⟨x7,σ7,H7,I7.unpinned,r7,q7⟩
end
end L2
namespace L2
open PySem PySem.Spec PyProof.Rows
abbrev R2:=V->V->Hp->VK->Prop
def kM (X:Cx) (f:Value->Value->Sem Value) (r:R2):Prop :=
 ∀ (pins:List (Addr×Obj)) (s:Shared) (σ:St) (H:Hp) (x y:V) (v u:Value) (Q:VK),Inv X pins σ H s->yW x v->yW y u->r x y H Q ->
  wpAny (model X.prog X.w) X.A (f v u) (EP X pins σ Q) X.xe s
def UnR (X:Cx) (f:Value->Sem Value) (r:V->Hp->VK->Prop):Prop :=
 ∀ (pins:List (Addr×Obj)) (s:Shared) (σ:St) (H:Hp) (x:V) (v:Value) (Q:VK),Inv X pins σ H s->yW x v->r x H Q ->
  wpAny (model X.prog X.w) X.A (f v) (EP X pins σ Q) X.xe s
def jZ (X:Cx) (f:Value) (r:List V->Hp->VK->Prop):Prop :=
 ∀ (pins:List (Addr×Obj)) (s:Shared) (σ:St) (H:Hp) (xs:List V) (us:List Value) (Q:VK),Inv X pins σ H s->yX xs us->r xs H Q ->
  wpAny (model X.prog X.w) X.A (call f us) (EP X pins σ Q) X.xe s
def TruR (X:Cx) (r:V->Hp->(Bool->Hp->Prop)->Prop):Prop :=
 ∀ (pins:List (Addr×Obj)) (s:Shared) (σ:St) (H:Hp) (x:V) (v:Value) (Q:Bool->Hp->Prop),Inv X pins σ H s->yW x v->r x H Q ->
  wpAny (model X.prog X.w) X.A (truthy v) (TP X pins σ Q) X.xe s
def tOp (r:R2) (ta tb:TE):TE:=fun σ H Q=>ta σ H fun x H1=>tb σ H1 fun y H2=>r x y H2 Q
def tUn (r:V->Hp->VK->Prop) (ta:TE):TE:=fun σ H Q=>ta σ H fun x H1=>r x H1 Q
def rI (C:Int->Int->Prop) (g:Int->Int->V):R2:=fun x y H Q=>∃ i j,x=.int i/\y=.int j/\C i j/\Q (g i j) H
def rI0 (g:Int->Int->V):R2:=fun x y H Q=>∃ i j,x=.int i/\y=.int j/\Q (g i j) H
def rU (g:Int->V):V->Hp->VK->Prop:=fun x H Q=>∃ i,x=.int i/\Q (g i) H
section
variable {X : Cx} {a b c : Expr} {ta tb tc : TE} {pos : Pos}
theorem binT (ha:PE X a ta) (hb:PE X b tb) {pins:List (Addr×Obj)} {s:Shared} {σ:St} {H:Hp} {R:V->V->Hp->Prop} (I:Inv X pins σ H s)
  (h:ta σ H fun x H1=>tb σ H1 fun y H2=>R x y H2) {Q:Value->Shared->Prop} {f:Value->Value->Sem Value}
  (hf:∀ v u s2 x y H2,Inv X pins σ H2 s2->yW x v->yW y u->R x y H2->wpAny (model X.prog X.w) X.A (f v u) Q X.xe s2) :
  wpAny (model X.prog X.w) X.A (eval a X.env) (fun v s₁=>wpAny (model X.prog X.w) X.A (eval b X.env) (fun u s₂=>wpAny (model X.prog X.w) X.A (f v u) Q X.xe s₂) X.xe s₁) X.xe s:=by
 refine yB (ha pins s σ H _ I h) fun v s1 ⟨x,H1,I1,r1,q1⟩=>?_;refine yB (hb pins s1 σ H1 _ I1 q1) fun u s2 ⟨y,H2,I2,r2,q2⟩=>?_;exact hf v u s2 x y H2 I2 r1 r2 q2
theorem pe_op {op:Operator} {r:R2} (ho:kM X (binaryOp op) r) (ha:PE X a ta) (hb:PE X b tb):PE X (.BinOp a op b pos) (tOp r ta tb):=by
 intro pins s σ H Q I h;exact wpAny_BinOp (binT ha hb I h fun v u s2 x y H2 I2 rx ry q=>ho pins s2 σ H2 x y v u Q I2 rx ry q)
theorem zhp {op:UnaryOp} {r:V->Hp->VK->Prop} (ho:UnR X (unaryOp op) r) (ha:PE X a ta):PE X (.UnaryOp op a pos) (tUn r ta):=by
 intro pins s σ H Q I h;exact UnaryOp_ (yB (ha pins s σ H _ I h) fun v s1 ⟨x,H1,I1,r1,q1⟩=>ho pins s1 σ H1 x v Q I1 r1 q1)
theorem opI {f:Value->Value->Sem Value} {C:Int->Int->Prop} {g:Int->Int->Int}
  (rule:∀ (i j:Int) (t u:Tok) (s:Shared) (Q:Value->Shared->Prop) (E:Value->Shared->Prop),C i j->Q (.int (g i j) s.toks) { s with toks:=s.toks+1 }->wpAny (model X.prog X.w) X.A (f (.int i t) (.int j u)) Q E s) :
  kM X f (rI C fun i j=>.int (g i j)):=by
 intro pins s σ H x y v u Q I rx ry h;obtain ⟨i,j,rfl,rfl,hc,q⟩:=h;obtain ⟨t,rfl⟩:=rx;obtain ⟨t',rfl⟩:=ry;exact rule i j t t' s _ _ hc ⟨.int (g i j),H,I.tok _,⟨_,rfl⟩,q⟩
theorem opI0 {f:Value->Value->Sem Value} {g:Int->Int->Int}
  (rule:∀ (i j:Int) (t u:Tok) (s:Shared) (Q:Value->Shared->Prop) (E:Value->Shared->Prop),Q (.int (g i j) s.toks) { s with toks:=s.toks+1 }->wpAny (model X.prog X.w) X.A (f (.int i t) (.int j u)) Q E s) :
  kM X f (rI0 fun i j=>.int (g i j)):=by
 intro pins s σ H x y v u Q I rx ry h;obtain ⟨i,j,rfl,rfl,q⟩:=h;obtain ⟨t,rfl⟩:=rx;obtain ⟨t',rfl⟩:=ry;exact rule i j t t' s _ _ ⟨.int (g i j),H,I.tok _,⟨_,rfl⟩,q⟩
theorem opB0 {f:Value->Value->Sem Value} {g:Int->Int->Bool}
  (rule:∀ (i j:Int) (t u:Tok) (s:Shared) (Q:Value->Shared->Prop) (E:Value->Shared->Prop),Q (.bool (g i j)) s->wpAny (model X.prog X.w) X.A (f (.int i t) (.int j u)) Q E s) :
  kM X f (rI0 fun i j=>.bl (g i j)):=by
 intro pins s σ H x y v u Q I rx ry h;obtain ⟨i,j,rfl,rfl,q⟩:=h;obtain ⟨t,rfl⟩:=rx;obtain ⟨t',rfl⟩:=ry;exact rule i j t t' s _ _ ⟨.bl (g i j),H,I,rfl,q⟩
def CDiv (i j:Int):Prop:=0<j/\j<1073741824
def CPow (i j:Int):Prop:=0<=j/\j<=1000000/\i.natAbs<2 ^ 64
def gL (i j:Int):Prop:=(-(2 ^ 64)<i/\i<2 ^ 64)\/(-(2 ^ 64)<j/\j<2 ^ 64)
theorem gL.ok {i j:Int} (h:gL i j):IntMulOk i j:=by
 rcases h with ⟨h1,h2⟩|⟨h1,h2⟩
 .exact .of_left (intBits_le_64 h1 h2)
 .exact .of_right (intBits_le_64 h1 h2)
theorem zhE:kM X (binaryOp .Add) (rI0 fun i j=>.int (i+j)):=opI0 fun _ _ _ _ _ _ _ q=>add_int q
theorem zhy:kM X (binaryOp .Sub) (rI0 fun i j=>.int (i-j)):=opI0 fun _ _ _ _ _ _ _ q=>sub_int q
theorem zhB:kM X (binaryOp .Mult) (rI gL fun i j=>.int (i * j)):=opI fun _ _ _ _ _ _ _ hc q=>mul_int q hc.ok
theorem zfP:kM X (binaryOp .FloorDiv) (rI CDiv fun i j=>.int (i / j)):=opI fun i j _ _ _ _ _ hc q=>by
 have h1:(0:Int)<j:=hc.1;have h2:j<1073741824:=hc.2;exact floordiv_int (by omega) (by rw [Int.fdiv_eq_ediv_of_nonneg i (by omega)];exact q) (.inl (PyProof.noPylong_small (by omega)))
theorem zhC:kM X (binaryOp .Mod) (rI (fun _ j=>0<j) fun i j=>.int (i % j)):=opI fun i j _ _ _ _ _ hc q=>by
 have h1:(0:Int)<j:=hc;exact mod_int' (by omega) (by rw [Int.fmod_eq_emod_of_nonneg i (by omega)];exact q)
theorem zhA:kM X (binaryOp .Pow) (rI CPow fun i j=>.int (i ^ j.toNat)):=opI fun _ _ _ _ _ _ _ hc q=>pow_int_small hc.1 hc.2.1 hc.2.2 q
theorem unI {f:Value->Sem Value} {g:Int->Int}
  (rule:∀ (i:Int) (t:Tok) (s:Shared) (Q:Value->Shared->Prop) (E:Value->Shared->Prop),Q (.int (g i) s.toks) { s with toks:=s.toks+1 }->wpAny (model X.prog X.w) X.A (f (.int i t)) Q E s) :
  UnR X f (rU fun i=>.int (g i)):=by
 intro pins s σ H x v Q I rx h;obtain ⟨i,rfl,q⟩:=h;obtain ⟨t,rfl⟩:=rx;exact rule i t s _ _ ⟨.int (g i),H,I.tok _,⟨_,rfl⟩,q⟩
theorem zeM:UnR X (unaryOp .USub) (rU fun i=>.int (-i)):=unI fun _ _ _ _ _ q=>neg_int q
end
section
variable {X : Cx} {a b c : Expr} {ta tb tc : TE} {pos : Pos}
theorem zih {pins:List (Addr×Obj)} {σ:St} {H:Hp} {s:Shared} {Q:VK} {k k':Bool} (I:Inv X pins σ H s) (q:Q (.bl k) H) (e:k=k'):EP X pins σ Q (.bool k') s:=by
 subst e;exact ⟨.bl k,H,I,rfl,q⟩
theorem op_lt:kM X (compareOp .Lt) (rI0 fun i j=>.bl (decide (i<j))):=opB0 fun _ _ _ _ _ _ _ q=>lt_int q
theorem op_le:kM X (compareOp .LtE) (rI0 fun i j=>.bl (decide (i<=j))):=opB0 fun _ _ _ _ _ _ _ q=>le_int q
theorem op_gt:kM X (compareOp .Gt) (rI0 fun i j=>.bl (decide (j<i))):=opB0 fun _ _ _ _ _ _ _ q=>gt_int q
theorem op_ge:kM X (compareOp .GtE) (rI0 fun i j=>.bl (decide (j<=i))):=opB0 fun _ _ _ _ _ _ _ q=>ge_int q
theorem zch:kM X (compareOp .In) (fun x y H Q=>∃ i j,x=.str i/\y=.str j/\Q (.bl (!(Builtin.Str.occurrences j i 0 j.length 1).isEmpty)) H):=by
 intro pins s σ H x y v u Q I rx ry h;obtain ⟨i,j,rfl,rfl,q⟩:=h;obtain ⟨t,rfl⟩:=rx;obtain ⟨t',rfl⟩:=ry;exact in_str (zih I q rfl)
theorem zfK {op:CmpOp} {r:R2} (ho:kM X (compareOp op) r) (ha:PE X a ta) (hb:PE X b tb) (hm:behindInMarks op b=false):PE X (.Compare a [op] [b] pos) (tOp r ta tb):=by
 intro pins s σ H Q I h;exact wpAny_Compare1 (binT ha hb I h fun v u s2 x y H2 I2 rx ry q=>ho pins s2 σ H2 x y v u Q I2 rx ry q) hm
def zfm (t:TE):TT:=fun σ H Q=>t σ H fun x H'=>∃ k,x=.bl k/\Q k H'
theorem zfz {op:CmpOp} {r:R2} (ho:kM X (compareOp op) r) (ha:PE X a ta) (hb:PE X b tb) (hm:behindInMarks op b=false):PT X (.Compare a [op] [b] pos) (zfm (tOp r ta tb)):=by
 intro pins s σ H Q I h
 refine wpAny_isTrue_Compare1 (yB (ha pins s σ H _ I h) fun v s1 ⟨x,H1,I1,r1,q1⟩=>yB (hb pins s1 σ H1 _ I1 q1) fun u s2 ⟨y,H2,I2,r2,q2⟩ =>
  yB (ho pins s2 σ H2 x y v u _ I2 r1 r2 q2) fun c s3 ⟨z,H3,I3,r3,k,e,q3⟩=>?_) hm
 subst e;cases r3;exact wpAny_truthy_bool ⟨H3,I3,q3⟩
def zbM (r r':R2) (ta tb tc:TE):TE:=fun σ H Q=>ta σ H fun x H1=>tb σ H1 fun y H2=>r x y H2 fun z H3=>∃ k,z=.bl k /\
 (if k=true then tc σ H3 fun w' H4=>r' y w' H4 Q else Q (.bl false) H3)
theorem zd5 {op op':CmpOp} {r r':R2} (ho:kM X (compareOp op) r) (ho':kM X (compareOp op') r') (ha:PE X a ta) (hb:PE X b tb) (hc:PE X c tc)
  (hm:lastMarks [op,op'] [b,c]=false:=by with_unfolding_all rfl):PE X (.Compare a [op,op'] [b,c] pos) (zbM r r' ta tb tc):=by
 intro pins s σ H Q I h
 refine Compare_chain (yB (ha pins s σ H _ I h) fun v s1 ⟨x,H1,I1,r1,q1⟩=>chain_link (yB (hb pins s1 σ H1 _ I1 q1) fun u s2 ⟨y,H2,I2,r2,q2⟩ =>
  yB (ho pins s2 σ H2 x y v u _ I2 r1 r2 q2) fun d s3 ⟨z,H3,I3,r3,k,e,q3⟩=>?_)) hm
 subst e;cases r3;refine wpAny_truthy_bool ?_
 cases k with
 |false=>exact ite_ff ⟨.bl false,H3,I3,rfl,q3⟩
 |true=>exact ite_tt (chain_last (yB (hc pins s3 σ H3 _ I3 q3) fun w' s4 ⟨z',H4,I4,r4,q4⟩=>ho' pins s4 σ H4 y z' u w' Q I4 r2 r4 q4))
theorem zdT {op op':CmpOp} {r r':R2} (ho:kM X (compareOp op) r) (ho':kM X (compareOp op') r') (ha:PE X a ta) (hb:PE X b tb) (hc:PE X c tc)
  (hm:lastMarks [op,op'] [b,c]=false:=by with_unfolding_all rfl):PT X (.Compare a [op,op'] [b,c] pos) (zfm (zbM r r' ta tb tc)):=by
 intro pins s σ H Q I h
 refine isTrue_chain (yB (ha pins s σ H _ I h) fun v s1 ⟨x,H1,I1,r1,q1⟩=>test_link (yB (hb pins s1 σ H1 _ I1 q1) fun u s2 ⟨y,H2,I2,r2,q2⟩ =>
  yB (ho pins s2 σ H2 x y v u _ I2 r1 r2 q2) fun d s3 ⟨z,H3,I3,r3,k,e,q3⟩=>?_)) hm
 subst e;cases r3;refine wpAny_truthy_bool ?_
 cases k with
 |false =>
  obtain ⟨k',e',q'⟩:=q3;cases e';exact ite_ff ⟨H3,I3,q'⟩
 |true =>
  refine ite_tt (test_last (yB (hc pins s3 σ H3 _ I3 q3) fun w' s4 ⟨z',H4,I4,r4,q4⟩=>yB (ho' pins s4 σ H4 y z' u w' _ I4 r2 r4 q4) fun d' s5 ⟨z2,H5,I5,r5,k2,e2,q5⟩=>?_));subst e2;cases r5;exact wpAny_truthy_bool ⟨H5,I5,q5⟩
def TruV (K:PySem.W.Frag) (x:V) (H:Hp) (k:Bool):Prop :=
 match x with
 | .non=>k=false
 | .bl b=>k=b
 | .int i=>k=(i != 0)
 | .str y=>y.length<=sizeLine/\k=((y.length:Int) != 0)
 | .byt y=>y.size<=sizeLine/\k=((y.size:Int) != 0)
 | .ref p=>(∃ xs,rF K H p xs/\k=!xs.isEmpty)\/(∃ xs,sZ K H p xs/\k=!xs.isEmpty)\/∃ kvs,H p=some (.dK kvs)/\k=!kvs.isEmpty
 |_=>False
theorem zbp {κ:Type} {kvs:List (κ×V)} {vs:List (κ×Value)} (r:KV kvs vs):(!vs.isEmpty)=!kvs.isEmpty:=by
 cases r<;>rfl
theorem gX {xs:List V} {its:List Value} (r:yX xs its):(!its.toArray.isEmpty)=!xs.isEmpty:=by
 cases r<;>simp
theorem tM:(sizeLine:Nat)<2 ^ 63:=by rw [sizeLine_eq];decide
theorem zgL:TruR X (fun x H Q=>∃ k,TruV X.K x H k/\Q k H):=by
 intro pins s σ H x v Q I rx h;obtain ⟨k,e,q⟩:=h;have hl:=tM;have hs:sizeLine=16777216:=sizeLine_eq
 cases x with
 |non =>
  cases rx;have e':k=false:=e;subst e';exact truthy_none ⟨H,I,q⟩
 |bl b =>
  cases rx;have e':k=b:=e;subst e';exact wpAny_truthy_bool ⟨H,I,q⟩
 |int i =>
  obtain ⟨t,rfl⟩:=rx;have e':k=(i != 0):=e;subst e';exact PySem.P.truthy_int ⟨H,I,q⟩
 |str y =>
  obtain ⟨t,rfl⟩:=rx;obtain ⟨hy,e'⟩:y.length<=sizeLine/\k=((y.length:Int) != 0):=e;subst e';exact PySem.P.truthy_str (by omega) ⟨H,I.tok _,q⟩
 |byt y =>
  obtain ⟨t,rfl⟩:=rx;obtain ⟨hy,e'⟩:y.size<=sizeLine/\k=((y.size:Int) != 0):=e;subst e';exact PySem.W.truthy_bytes (by omega) ⟨H,I.tok _,q⟩
 |ref p =>
  cases rx;have e':(∃ xs,rF X.K H p xs/\k=!xs.isEmpty)\/(∃ xs,sZ X.K H p xs/\k=!xs.isEmpty)\/∃ kvs,H p=some (.dK kvs)/\k=!kvs.isEmpty:=e;rcases e' with ⟨xs,hx,e'⟩|⟨xs,hx,e'⟩|⟨kvs,hx,e'⟩
  .subst e';obtain ⟨its,r,pl,hz⟩:=I.list hx;have hlen:=r.length;exact wpAny_truthy_list pl.isList (by simp only [zzS];omega) ⟨H,I.tok _,by rw [gX r];exact q⟩
  .subst e';obtain ⟨its,r,pl,hz⟩:=I.tuple hx;have hlen:=r.length;exact truthy_tuple pl (by simp only [zzS];omega) ⟨H,I.tok _,by rw [gX r];exact q⟩
  .subst e';obtain ⟨hz,hS,vs,r,m⟩:kvs.length<=sizeLine/\(p==sysModules)=false/\∃ vs,KV kvs vs/\s.heap.DictOf (xZ X.prog X.w) p vs:=I.hok p _ hx;have hlen:kvs.length=vs.length:=Paired.length r;exact wpAny_truthy_dict hS m (by omega) ⟨H,I.tok _,by rw [zbp r];exact q⟩
 |_=>exact (show False from e).elim
theorem zdS (ha:PE X a ta) (he:∀ whole,isTrue a X.env whole=(do let v ← whole;standAt a.pos;holding [v] (truthy v))) :
  PT X a (fun σ H Q=>ta σ H fun x H'=>∃ k,TruV X.K x H' k/\Q k H'):=by
 intro pins s σ H Q I h;exact isTrue_plain (yB (ha pins s σ H _ I h) fun v s1 ⟨x,H1,I1,r1,q1⟩=>zgL pins s1 σ H1 x v Q I1 r1 q1) (he _)
theorem zbl:kM X (binaryOp .Add) (fun x y H Q=>∃ i j,x=.str i/\y=.str j/\i.length+j.length<=sizeLine/\Q (.str (i++j)) H):=by
 intro pins s σ H x y v u Q I rx ry h;obtain ⟨i,j,rfl,rfl,hz,q⟩:=h;obtain ⟨t,rfl⟩:=rx;obtain ⟨t',rfl⟩:=ry;exact add_str (fun t' tk=>⟨.str (i++j),H,I.tok _,⟨_,rfl⟩,q⟩) hz
theorem qZ {x:V} {us:List Value} (r:yX [x] us):∃ u,us=[u]/\yW x u:=by
 cases r with
 |cons r1 r2=>cases r2;exact ⟨_,rfl,r1⟩
theorem zdu {x y:V} {us:List Value} (r:yX [x,y] us):∃ u w',us=[u,w']/\yW x u/\yW y w':=by
 cases r with
 |cons r1 r2 =>
  cases r2 with
  |cons r3 r4=>cases r4;exact ⟨_,_,rfl,r1,r3⟩
theorem zdd (hc:X.calm=true):jZ X (.builtin "max") (fun xs H Q=>∃ i j,xs=[.int i,.int j]/\Q (.int (if j > i then j else i)) H):=by
 intro pins s σ H xs us Q I r h;obtain ⟨i,j,rfl,q⟩:=h;obtain ⟨u,w',rfl,⟨t,rfl⟩,⟨t',rfl⟩⟩:=zdu r;refine max_two_ints (I.ok.hd hc) fun h' tk k=>⟨_,H,I.kept k,?_,q⟩
 by_cases hj:j > i
 .rw [if_pos hj,if_pos hj];exact ⟨_,rfl⟩
 .rw [if_neg hj,if_neg hj];exact ⟨_,rfl⟩
theorem cP:jZ X (.type "int") (fun xs H Q=>(∃ i,xs=[.int i]/\Q (.int i) H)\/∃ k,xs=[.bl k]/\Q (.int (if k then 1 else 0)) H):=by
 intro pins s σ H xs us Q I r h;rcases h with ⟨i,rfl,q⟩|⟨k,rfl,q⟩
 .obtain ⟨u,rfl,t,rfl⟩:=qZ r;exact call_int_int ⟨.int i,H,I,⟨_,rfl⟩,q⟩
 .obtain ⟨u,rfl,r1⟩:=qZ r;cases r1;exact call_int_bool ⟨.int (if k then 1 else 0),H,I.tok _,⟨_,rfl⟩,q⟩
end
end L2
namespace L2
open PySem PySem.Spec PyProof.Rows
structure ObjM (h:Heap) (x dx C:Addr) (mA:Str->Option Value):Prop where
 obj:h.get? x=some (PySem.W.instObj C dx)
 ns:h.Ns1 dx mA
 ne:dx≠x
theorem zcs {h:Heap} {dx:Addr} {mA:Str->Option Value} (n:h.Ns1 dx mA):∃ od,h.get? dx=some od/\∀ name,PySem.W.lookIn name od=some (mA name):=by
 obtain ⟨o,es,ep,ho,hd,hk,_,hm⟩:=n;refine ⟨o,ho,fun name=>?_⟩;have e:=hm name;unfold nsFind findBy at e;rw [← Array.find?_toList] at e;unfold PySem.W.lookIn;rw [hd];dsimp only
 split
 .rename_i y q;rw [q] at e;exact congrArg some e
 .rename_i q;rw [q] at e
  have a:es.toList.any (·.refKey)=false:=by
   rw [List.any_eq_false];intro y hy;obtain ⟨z,t,hkey⟩:=hk y (Array.mem_toList_iff.mp hy);simp [DictEntry.refKey,hkey]
  have a':¬ es.toList.any (·.refKey)=true:=by rw [a];exact zzN
  rw [if_neg a'];exact congrArg some e
theorem ObjM.look {h:Heap} {x dx C:Addr} {mA:Str->Option Value} (I:ObjM h x dx C mA):∃ od,PySem.W.InstAt h x (PySem.W.instObj C dx) C (some od)/\∀ name,PySem.W.lookIn name od=some (mA name) :=
 let ⟨od,ho,hl⟩:=zcs I.ns
 ⟨od,⟨I.obj,rfl,rfl,ho⟩,hl⟩
section
variable {prog : Program} {w : World} {A : Around} {E : Value → Shared → Prop} {s : Shared} {K : PySem.W.Frag} {x dx C f : Addr} {mA : Str → Option Value} {name : Str} {v : Value}
theorem zge {expr:Bool} {Q:Value->Shared->Prop} (X:K.In s.heap) (I:ObjM s.heap x dx C mA) (hg:PySem.W.plainGet K C name=true) (hh:PySem.W.hasDictIn K C=true)
  (ha:PySem.W.findIn K (.ref C) name=some none) (hv:mA name=some v) (hv':PySem.W.handedIn v=true) (h:Q v { s with toks:=s.toks+1 }) :
  wpAny (model prog w) A (getAttr (.ref x) name expr) Q E s:=by
 obtain ⟨od,J,hl⟩:=I.look;exact PySem.W.get_value X J (PySem.W.plainGet_of hg).1 (PySem.W.findObj_own hh ha rfl (by rw [hl,hv])) hv' h
theorem zfq {ns:List Str} {Q:Unit->Shared->Prop} (X:K.In s.heap) (I:ObjM s.heap x dx C mA)
  (hs:PySem.W.findIn K (.ref C) "__setattr__" = some (some (.builtin "object.__setattr__"))) (hp:PySem.W.plainOver K C=true) (ht:PySem.W.takerIn K C name=some none) (hh:PySem.W.hasDictIn K C=true)
  (hw:PySem.Within mA ns) (hsz:ns.length<=sizeLine)
  (h:∀ h',ObjM h' x dx C (fun y=>if y=name then some v else mA y)->Heap.SameBut dx s.heap h'->Q () { s with heap:=h',toks:=s.toks+2 }) :
  wpAny (model prog w) A (setAttr (.ref x) name v) Q E s:=by
 obtain ⟨od,J,hl⟩:=I.look;refine PySem.W.set_plain X J hs (PySem.W.osa_open (s:={ s with toks:=s.toks+1 }) (r:=none) X J hp ht fun b=>?_);obtain ⟨cd,hc,hd'⟩:=PySem.W.any_some hh;have hx:s.heap.get? x=some ⟨.ref C,some dx,.plain,#[]⟩:=I.obj;refine wpAny_bind (wpAny_pure (wpAny_bind (wpAny_bind (wpAny_loadPart hx (wpAny_bind (PySem.W.Looks.here (s:={ s with toks:=s.toks+1 }) (PySem.W.looks_clsIn X hc) ?_))))));rw [hd'];refine wpAny_pure (a:=some dx) (wpAny_bind (wpAny_pure (wpAny_bind ?_)));refine wpAny_nsSet1 (s:={ s with toks:=s.toks+1 }) I.ns fun h' hn2 hs2=>?_;obtain ⟨oD,esD,epD,hoD,hdD,hcD⟩:=hn2.count (PySem.Within.cons name v hw);refine wpAny_bind (wpAny_lookBehind hoD (by rw [hdD];exact pastItsLine_dict (Nat.le_trans hcD (by rw [List.length_cons];omega))) ?_);exact wpAny_pure (h _ ⟨(hs2.2 _ (Ne.symm I.ne)).trans I.obj,hn2,I.ne⟩ hs2)
end
def kJ (f:Str) (v:V):List (Str×V)->List (Str×V)
 | []=>[(f,v)]
 | (g,x)::r=>if g=f then (g,v)::r else (g,x)::kJ f v r
theorem pW (f g:Str) (v:V):∀ fs:List (Str×V),(kJ f v fs).lookup g=if g=f then some v else fs.lookup g
 | []=>by
  show List.lookup g [(f,v)]=_
  by_cases h:g=f
  .have hb:(g==f)=true:=beq_iff_eq.mpr h;simp only [List.lookup,hb,if_pos h]
  .have hb:(g==f)=false:=beq_eq_false_iff_ne.mpr h;simp only [List.lookup,hb,if_neg h]
 | (k,x)::r=>by
  have ih:=pW f g v r;rw [show kJ f v ((k,x)::r)=(if k=f then (k,v)::r else (k,x)::kJ f v r) from rfl]
  by_cases hk:k=f
  .rw [if_pos hk]
   by_cases h:g=k
   .have hb:(g==k)=true:=beq_iff_eq.mpr h;simp only [List.lookup,hb,if_pos (h.trans hk)]
   .have hb:(g==k)=false:=beq_eq_false_iff_ne.mpr h;simp only [List.lookup,hb,if_neg (fun e:g=f=>h (e.trans hk.symm))]
  .rw [if_neg hk]
   by_cases h:g=k
   .have hb:(g==k)=true:=beq_iff_eq.mpr h;simp only [List.lookup,hb,if_neg (fun e:g=f=>hk (h.symm.trans e))]
   .have hb:(g==k)=false:=beq_eq_false_iff_ne.mpr h;simp only [List.lookup,hb];exact ih
theorem rM (f:Str) (v:V):∀ fs:List (Str×V),f∈(kJ f v fs).map (·.1)/\∀ g,g∈fs.map (·.1)->g∈(kJ f v fs).map (·.1)
 | []=>⟨by simp [kJ],fun g h=>by simp at h⟩
 | (k,x)::r=>by
  obtain ⟨i1,i2⟩:=rM f v r;rw [show kJ f v ((k,x)::r)=(if k=f then (k,v)::r else (k,x)::kJ f v r) from rfl]
  by_cases hk:k=f
  .rw [if_pos hk];subst hk;exact ⟨by simp,fun g h=>by simpa using h⟩
  .rw [if_neg hk];refine ⟨?_,fun g h=>?_⟩
   .rw [zzU];exact List.mem_cons_of_mem _ i1
   .rw [zzU] at h ⊢;rcases List.mem_cons.mp h with e|e
    .exact List.mem_cons.mpr (.inl e)
    .exact List.mem_cons_of_mem _ (i2 g e)
theorem pU (f:Str) (v:V):∀ fs:List (Str×V),(kJ f v fs).length<=fs.length+1
 | []=>by simp [kJ]
 | (k,x)::r=>by
  have ih:=pU f v r;rw [show kJ f v ((k,x)::r)=(if k=f then (k,v)::r else (k,x)::kJ f v r) from rfl]
  by_cases hk:k=f
  .rw [if_pos hk,List.length_cons,List.length_cons];omega
  .rw [if_neg hk,List.length_cons,List.length_cons];omega
theorem tD.some_of {v:V} {o:Option Value} (r:tD (some v) o):∃ u,o=some u/\yW v u:=by
 cases o with
 |none=>exact (show False from r).elim
 |some u=>exact ⟨u,rfl,r⟩
theorem zcN {v:V} {u:Value} (r:yW v u):PySem.W.handedIn u=true:=by
 cases v with
 |non=>cases (show u=Value.none from r);rfl
 |bl b=>cases (show u=Value.bool b from r);rfl
 |int i=>obtain ⟨t,e⟩:=(show ∃ t,u=Value.int i t from r);cases e;rfl
 |str x=>obtain ⟨t,e⟩:=(show ∃ t,u=Value.str x t from r);cases e;rfl
 |byt b=>obtain ⟨t,e⟩:=(show ∃ t,u=Value.bytes b t from r);cases e;rfl
 |flt b=>obtain ⟨t,e⟩:=(show ∃ t,u=Value.float b t from r);cases e;rfl
 |ref a=>cases (show u=Value.ref a from r);rfl
 |ty n=>cases (show u=Value.type n from r);rfl
section
variable {P : Program} {w : World} {H H' : Hp} {h h' : Heap} {a C dx : Addr} {fs fs' : List (Str × V)}
theorem zcK (hok:uH P w H h) (e:H a=some (.ins C dx fs)):∃ mA,ObjM h a dx C mA/\(∀ f,tD (fs.lookup f) (mA f))/\PySem.Within mA (fs.map (·.1))/\fs.length<=1000/\H dx=some (.own a):=by
 obtain ⟨d,z,ne,ob,mA,n,r,q⟩:=(show xK P w H h a (.ins C dx fs) from hok a _ e);exact ⟨mA,⟨ob,n,ne⟩,r,q,z,d⟩
end
structure Cls (K:PySem.W.Frag) (C:Addr):Prop where
 pg:PySem.W.plainGet K C Str.empty=true
 hd:PySem.W.hasDictIn K C=true
 po:PySem.W.plainOver K C=true
 sa:PySem.W.findIn K (.ref C) "__setattr__" = some (some (.builtin "object.__setattr__"))
theorem Cls.get {K:PySem.W.Frag} {C:Addr} (c:Cls K C) (f:Str):PySem.W.plainGet K C f=true:=c.pg
def uT (K:PySem.W.Frag) (C:Addr) (f:Str):Prop:=PySem.W.findIn K (.ref C) f=some none
theorem uT.taker {K:PySem.W.Frag} {C:Addr} {f:Str} (n:uT K C f):PySem.W.takerIn K C f=some none:=by
 unfold PySem.W.takerIn;rw [show PySem.W.findIn K (.ref C) f=some none from n];rfl
section
variable {X : Cx} {pins : List (Addr × Obj)} {σ : St} {H : Hp} {s : Shared} {a C dx : Addr} {fs : List (Str × V)} {f : Str} {v : V} {A : Around} {E : Value → Shared → Prop}
theorem zbq {b:Bool} {Q:Value->Shared->Prop} (I:Inv X pins σ H s) (e:H a=some (.ins C dx fs)) (c:Cls X.K C) (n:uT X.K C f) (l:fs.lookup f=some v)
  (h:∀ u s',Inv X pins σ H s'->yW v u->Q u s'):wpAny (model X.prog X.w) A (getAttr (.ref a) f b) Q E s:=by
 obtain ⟨mA,O,r,_,_,_⟩:=zcK I.hok e;obtain ⟨u,hu,ru⟩:=tD.some_of (v:=v) (o:=mA f) (by rw [← l];exact r f);exact zge I.kIn O (c.get f) c.hd n hu (zcN ru) (h u _ (I.tok _) ru)
theorem zbh {y:V} {u:Value} {Q:Unit->Shared->Prop} (I:Inv X pins σ H s) (e:H a=some (.ins C dx fs)) (c:Cls X.K C) (n:uT X.K C f) (hl:fs.length<1000) (ry:yW y u)
  (h:∀ s',Inv X pins σ (xE H a (.ins C dx (kJ f y fs))) s'->Q () s'):wpAny (model X.prog X.w) A (setAttr (.ref a) f u) Q E s:=by
 obtain ⟨mA,O,r,wi,_,ho⟩:=zcK I.hok e;have hz:(fs.map (·.1)).length<=sizeLine:=by rw [zzM,sizeLine_eq];omega
 refine zfq I.kIn O c.sa c.po n.taker c.hd wi hz fun h' O' sb=>h _ ?_;have hd:∃ o,h'.get? dx=some o:=let ⟨o,_,_,e',_⟩:=O'.ns;⟨o,e'⟩;refine I.write (x:=a) (e:=dx) (by rw [e];exact True.intro) (.inr ho) (fun b q hb z=>(sb.2 b hb).trans z) hd ?_;refine ⟨by rw [yU O.ne];exact ho,?_,O.ne,O'.obj,_,O'.ns,fun g=>?_,fun g hg=>?_⟩
 .have:=pU f y fs;omega
 .show tD ((kJ f y fs).lookup g) (if g=f then some u else mA g);rw [pW]
  by_cases q:g=f
  .rw [if_pos q,if_pos q];exact ry
  .rw [if_neg q,if_neg q];exact r g
 .by_cases q:g=f
  .rw [q];exact (rM f y fs).1
  .refine (rM f y fs).2 g (wi g fun z=>hg ?_);show (if g=f then some u else mA g)=none;rw [if_neg q];exact z
theorem zgD {prog:Program} {w:World} {env:Env} {e:Expr} {f:Str} {pos:Pos} {s:Shared} {Q:Value->Shared->Prop} (hb:attributeBase e f env (eval e env)=eval e env)
  (h:wpAny (model prog w) A (eval e env) (fun o s₁=>wpAny (model prog w) A (getAttr o f true) Q E s₁) E s):wpAny (model prog w) A (eval (.Attribute e f pos) env) Q E s :=
 Attribute_any_ h (by rw [arm_eval_Attribute,hb])
end
def tFld (K:PySem.W.Frag) (ta:TE) (f:Str):TE:=fun σ H Q=>ta σ H fun x H1=>∃ a C dx fs v,x=.ref a/\H1 a=some (.ins C dx fs)/\Cls K C/\uT K C f/\fs.lookup f=some v/\Q v H1
def sFld (K:PySem.W.Frag) (ta tv:TE) (f:Str):TS:=fun D σ H=>tv σ H fun y H1=>ta σ H1 fun x H2=>∃ a C dx fs,x=.ref a/\H2 a=some (.ins C dx fs)/\Cls K C/\uT K C f/\fs.length<1000 /\
 D.nx σ (xE H2 a (.ins C dx (kJ f y fs)))
section
variable {X : Cx} {o e value : Expr} {f : Str} {pos pos' tpos : Pos} {ta tv : TE}
theorem zhv (he:PE X e ta) (hb:attributeBase e f X.env (eval e X.env)=eval e X.env):PE X (.Attribute e f pos) (tFld X.K ta f):=by
 intro pins s σ H Q I h;refine zgD hb (yB (he pins s σ H _ I h) fun u s1 ⟨x,H1,I1,rx,a,C,dx,fs,v,ex,ea,c,n,l,q⟩=>?_);subst ex;obtain rfl:u=Value.ref a:=rx;exact zbq I1 ea c n l fun u' s2 I2 ru=>⟨v,H1,I2,ru,q⟩
theorem zhj (ha:PE X o ta) (hv:PE X value tv) (hs:swapsWith value (some (.Attribute o f pos')) pos.line X.env=pure false):PS X (.Assign [.Attribute o f pos'] value pos) (sFld X.K ta tv f):=by
 intro pins s σ H D I h;refine plainObj_wpAny_Assign_Attribute (yB (hv pins s σ H _ I h) fun u s1 ⟨y,H1,I1,ry,q⟩=>yB (ha pins s1 σ H1 _ I1 q) fun ov s2 ⟨x,H2,I2,rx,a,C,dx,fs,ex,ea,c,n,l,q2⟩=>?_) hs;subst ex;obtain rfl:ov=Value.ref a:=rx;exact zbh I2 ea c n l ry fun s3 I3=>⟨σ,_,I3,q2⟩
end
section
variable {X : Cx} {pins : List (Addr × Obj)} {σ : St} {H : Hp} {s : Shared} {A : Around} {E : Value → Shared → Prop} {Q : Value → Shared → Prop} {c : Value} {b : Bool}
end
end L2
namespace L2
open PySem PySem.Spec PyProof.Rows
structure Room (k:Nat) (A:Around):Prop where
 gd:A.guards=some []
 hd:A.handled=none
 dp:A.depth+3 * k+5<recursionLimit
 un:A.units+16 * k+200<cLine
theorem Room.mono {j k:Nat} {A:Around} (r:Room k A) (h:j<=k):Room j A:=⟨r.gd,r.hd,by have:=r.dp;omega,by have:=r.un;omega⟩
theorem Room.deeper {k:Nat} {A:Around} (r:Room (k+1) A) (env:Env):Room k (A.deeper env) :=
 ⟨r.gd,r.hd,by have:=r.dp;show A.depth+1+3 * k+5<_;omega,by have:=r.un;show A.units+3+16 * k+200<_;omega⟩
theorem Room.depth {k:Nat} {A:Around} (r:Room k A):A.depth<recursionLimit:=by have:=r.dp;omega
def tNil:TA:=fun _ H Q=>Q [] H
def tCons (ta:TE) (tr:TA):TA:=fun σ H Q=>ta σ H fun x H1=>tr σ H1 fun xs H2=>Q (x::xs) H2
section
variable {X : Cx} {e : Expr} {es : List Expr} {te : TE} {t : TA} {pos : Pos}
theorem ze2:PA X [] tNil:=fun _ _ _ _ H Q I h=>Calls.spliced_nil ⟨[],H,I,.nil,h⟩
theorem zcd (ha:PE X e te) (hr:PA X es t) (hs:starEach (e::es) X.env=(false,eval e X.env)::starEach es X.env:=by rfl):PA X (e::es) (tCons te t):=by
 intro pos pins s σ H Q I h;rw [hs];show wpAny _ _ (spliced ((false,eval e X.env)::backTo pos (starEach es X.env))) _ _ s;refine Calls.spliced_cons (yB (ha pins s σ H _ I h) fun u s1 ⟨x,H1,I1,r1,q1⟩=>?_);exact yB (hr pos pins s1 σ H1 _ I1 q1) fun us s2 ⟨xs,H2,I2,r2,q2⟩=>⟨x::xs,H2,I2,.cons r1 r2,q2⟩
def tTup (t:TA):TE:=fun σ H Q=>t σ H fun xs H1=>xs.length<=sizeLine/\∀ p,H1 p=none->Q (.ref p) (xE H1 p (.tup xs))
def tLst (t:TA):TE:=fun σ H Q=>t σ H fun xs H1=>xs.length<=sizeLine/\∀ p,H1 p=none->Q (.ref p) (xE H1 p (.lst xs))
theorem zhq {x1} (h:PA X es t):PE X (.Tuple es x1 pos) (tTup t):=by
 intro pins s σ H Q I hq;refine wpAny_Tuple_spliced (yB (h pos pins s σ H _ I hq) fun us s1 ⟨xs,H1,I1,r,z,q⟩=>⟨by rw [← r.length];exact z,?_⟩);have hf:H1 s1.heap.objs.size=none:=I1.hok.fresh (zzR _);refine ⟨.ref s1.heap.objs.size,xE H1 s1.heap.objs.size (.tup xs),I1.laid (t':=s1.toks) (fun b u e=>Heap.get?_push_of_some _ e) (zzR _) ?_,rfl,q _ hf⟩;exact ⟨z,us,r,⟨_,Heap.get?_push_size _ rfl,rfl,_,rfl⟩⟩
theorem zhu (h:PA X es t):PE X (.List es pos) (tLst t):=by
 intro pins s σ H Q I hq;refine wpAny_List_spliced (yB (h pos pins s σ H _ I hq) fun us s1 ⟨xs,H1,I1,r,z,q⟩=>⟨by rw [← r.length];exact z,?_⟩);have hf:H1 s1.heap.objs.size=none:=I1.hok.fresh (zzR _);refine ⟨.ref s1.heap.objs.size,xE H1 s1.heap.objs.size (.lst xs),I1.laid (t':=s1.toks) (fun b u e=>Heap.get?_push_of_some _ e) (zzR _) ?_,rfl,q _ hf⟩;exact ⟨z,us,0,r,Heap.get?_push_size _ rfl⟩
end
abbrev Sp:=List V->Hp->VK->XK->Prop
abbrev CXT:=List Env->Hp->Shared->XK->Value->Shared->Prop
structure Env0 (P:Program) (w:World) (K:PySem.W.Frag) (mg:Str->Option Value) (base:Heap) (A:Around) (outer:List Env) (s:Shared) (H:Hp):Prop where
 frames:A.frames=some outer
 mod:Mod K mg base
 bs:∀ b o,base.get? b=some o->s.heap.get? b=some o/\H b=none
 bsz:base.objs.size<=s.heap.objs.size
 funs:s.heap.FunFrames base outer
 frf:∀ b∈frs outer,H b=none
 hok:uH P w H s.heap
 bare:AllBare s.gens
def CE (outer:List Env) (P:Program) (w:World) (H:Hp) (s:Shared) (Q:VK) (u:Value) (s':Shared):Prop :=
 ∃ v H',s'.os=s.os/\AllBare s'.gens/\Un (frs outer) [] H H' s.heap s'.heap/\uH P w H' s'.heap/\yW v u/\Q v H'
def CR (CX:CXT) (outer:List Env) (P:Program) (w:World) (H:Hp) (s:Shared) (Q:VK) (E:XK) (r:Result) (s':Shared):Prop :=
 match r with
 | .ok (.ret u)=>CE outer P w H s Q u s'
 | .ok _=>False
 | .error e=>CX outer H s E e s'
structure FnOk (P:Program) (w:World) (K:PySem.W.Frag) (mg:Str->Option Value) (base:Heap) (CX:CXT) (k:Nat) (f:Addr) (fd:FuncData) (ps:List Str) (sp:Sp):Prop where
 len:∀ vs H Q E,sp vs H Q E->vs.length=ps.length
 run:∀ (A:Around) (outer:List Env) (s:Shared) (H:Hp) (args:Args) (us:List Value) (vs:List V) (Q:VK) (E:XK),Room k A->Env0 P w K mg base A outer s H->BindsTo s fd args (ps.zip us)->yX vs us->sp vs H Q E ->
  codeAny (model P w) A (.call (.ref f) args) (CR CX outer P w H s Q E) s
theorem FnOk.mono {P:Program} {w:World} {K:PySem.W.Frag} {mg:Str->Option Value} {base:Heap} {CX:CXT} {j k:Nat} {f:Addr} {fd:FuncData} {ps:List Str} {sp:Sp} (F:FnOk P w K mg base CX j f fd ps sp) (h:j<=k) :
  FnOk P w K mg base CX k f fd ps sp:=⟨F.len,fun A outer s H args us vs Q E hr=>F.run A outer s H args us vs Q E (hr.mono h)⟩
section
variable {X : Cx} {pins : List (Addr × Obj)} {σ : St} {H : Hp} {s s' : Shared}
theorem Inv.env0 (I:Inv X pins σ H s):Env0 X.prog X.w X.K X.mg X.base X.A X.stack s H :=
 ⟨I.ok.frames,I.ok.mod,I.bs,Nat.le_trans I.ok.bsz I.sz,I.stack,I.stkFree,I.hok,I.bare⟩
theorem Inv.after {Q:VK} {u:Value} (I:Inv X pins σ H s) (h:CE X.stack X.prog X.w H s Q u s'):EP X pins σ Q u s':=by
 obtain ⟨v,H',os,bare,un,hok,r,q⟩:=h;obtain ⟨hh,g,d,t,os'⟩:=s';obtain rfl:os'=s.os:=os;exact ⟨v,H',I.call (h':=hh) (g':=g) (d':=d) (t':=t) (ch:=[]) un hok bare (fun b z=>absurd z (by simp)),r,q⟩
end
def zfo (sp:Sp) (dvs:List V) (E:XK) (t:TA):TE:=fun σ H Q=>t σ H fun vs H1=>sp (vs++dvs) H1 Q E
def vM (K:PySem.W.Frag) (fd:FuncData) (ps:List Str) (ds:List Value):Prop :=
 ∀ (s:Shared) (us:List Value),K.In s.heap->(us++ds).length=ps.length->BindsTo s fd ⟨us,[]⟩ (ps.zip (us++ds))
theorem vM.all {K:PySem.W.Frag} {fd:FuncData} {ps:List Str} (h:∀ us:List Value,us.length=ps.length->bindArgs fd ⟨us,[]⟩=pure (ps.zip us)):vM K fd ps []:=fun s us _ hl=>by
 rw [List.append_nil] at hl ⊢;exact .of_eq (h us hl)
def zba (CX:CXT) (X:Cx) (E:XK):Prop:=∀ (pins:List (Addr×Obj)) (σ:St) (H:Hp) (s:Shared) (e:Value) (s':Shared),Inv X pins σ H s->CX X.stack H s E e s'->X.xe e s'
section
variable {X : Cx} {CX : CXT} {k : Nat} {f C : Addr} {fd : FuncData} {ps : List Str} {sp : Sp} {dvs : List V} {ds : List Value} {E : XK} {x m : Str} {p pos apos : Pos} {e o : Expr} {es : List Expr} {ta : TE} {t : TA}
theorem zb4 {pins:List (Addr×Obj)} {σ:St} {H:Hp} {s:Shared} {Q:VK} {us:List Value} {vs:List V} (F:FnOk X.prog X.w X.K X.mg X.base CX k f fd ps sp) (hr:Room k X.A) (hb:vM X.K fd ps ds) (hd:yX dvs ds) (hx:zba CX X E)
  (I:Inv X pins σ H s) (r:yX vs us) (h:sp (vs++dvs) H Q E):wpAny (model X.prog X.w) X.A (call (.ref f) us) (EP X pins σ Q) X.xe s:=by
 have r2:yX (vs++dvs) (us++ds):=r.append hd;have hl:(us++ds).length=ps.length:=by rw [← r2.length];exact F.len _ _ _ _ h
 refine wpAny_call (codeAny_mono (F.run X.A X.stack s H ⟨us,[]⟩ (us++ds) (vs++dvs) Q E hr I.env0 (hb s us I.kIn hl) r2 h) fun r s' hq=>?_)
 cases r with
 |error e=>exact hx pins σ H s e s' I hq
 |ok fl =>
  cases fl with
  |ret u=>exact I.after hq
  |next=>exact False.elim hq
  |brk=>exact False.elim hq
  |cont=>exact False.elim hq
theorem zfL (F:FnOk X.prog X.w X.K X.mg X.base CX k f fd ps sp) (hr:Room k X.A) (hg:Gl X x) (hm:X.mg x=some (.ref f)) (hk:PySem.W.keepIn X.K (.ref f)=true) (hb:vM X.K fd ps ds) (hd:yX dvs ds) (hx:zba CX X E)
  (ha:PA X (e::es) t) (hdb:(x==("__debug__" : Str))=false:=by decide) (he:starEach (e::es) X.env=(false,eval e X.env)::starEach es X.env:=by rfl) (hpl:(backTo pos (starEach es X.env)).any (·.1)=false:=by rfl) :
  PE X (.Call (.Name x p) (e::es) [] pos) (zfo sp dvs E t):=by
 intro pins s σ H Q I h;refine wpAny_Call_Name_kw (bK I hg hm ?_ hdb);refine PySem.W.callWith_K (h₀:=X.base) I.ok.mod.kin hk (yB (ha pos pins s σ H _ I h) fun us s1 ⟨vs,H1,I1,r,q⟩=>⟨I1.kIn,?_⟩) he hpl;exact zb4 F hr hb hd hx I1 r q
theorem zd7 (F:FnOk X.prog X.w X.K X.mg X.base CX k f fd ps sp) (hr:Room k X.A) (hg:Gl X x) (hm:X.mg x=some (.ref f)) (hk:PySem.W.keepIn X.K (.ref f)=true) (hb:vM X.K fd ps ds) (hd:yX dvs ds) (hx:zba CX X E)
  (hdb:(x==("__debug__" : Str))=false:=by decide):PE X (.Call (.Name x p) [] [] pos) (zfo sp dvs E tNil):=by
 intro pins s σ H Q I h;refine wpAny_Call_Name_kw (bK I hg hm ?_ hdb);exact PySem.W.callWith_K0 I.kIn hk (zb4 (us:=[]) F hr hb hd hx I .nil h)
end
section
variable {X : Cx} {CX : CXT} {k : Nat} {f C : Addr} {fd : FuncData} {ps ks : List Str} {sp : Sp} {E : XK} {x m : Str} {p pos apos kpos : Pos} {e o : Expr} {es : List Expr} {kws : List Keyword} {te ta : TE} {t tk : TA} {nm : Option Str}
variable {g : List Value → List Value → List Value} {gV : List V → List V → List V}
end
structure FnScope (N P:List Str) (sc:Scope):Prop where
 kind:sc.kind=.function
 co:sc.isCoroutine=false
 gen:sc.isGenerator=false
 nd:N.Nodup
 pre:N.take P.length=P
 par:∀ x∈P,sc.names.lookup x=some .local\/sc.names.lookup x=some .cell
 nofree:∀ y∈sc.names,y.2≠.free
theorem cO {kindOf:Str->Option NameKind} {x:Str}:∀ {binds:List (Str×Value)} {m:Str->Option Value},(∀ v,(x,v)∉binds)->bindL kindOf binds m x=m x
 | [],_,_=>rfl
 | (n,v)::r,m,h=>by
  unfold bindL;rw [cO fun w hw=>h w (List.mem_cons_of_mem _ hw)]
  split
  .have:x≠n:=by rintro rfl;exact h v zzT
   simp [this]
  .rfl
theorem cM {kindOf:Str->Option NameKind} {x:Str}:∀ {binds:List (Str×Value)} {m:Str->Option Value},(∀ v,(x,v)∉binds)->bindC kindOf binds m x=m x
 | [],_,_=>rfl
 | (n,v)::r,m,h=>by
  unfold bindC;rw [cM fun w hw=>h w (List.mem_cons_of_mem _ hw)]
  split
  .rfl
  .have:x≠n:=by rintro rfl;exact h v zzT
   simp [this]
theorem cN {kindOf:Str->Option NameKind} {x:Str} {v:Value}:∀ {P:List Str} {vs:List Value} {i:Nat} {m:Str->Option Value},P.Nodup->P[i]?=some x->vs[i]?=some v->kindOf x=some .local ->
  bindL kindOf (P.zip vs) m x=some v
 | [],_,_,_,_,h,_,_=>by simp at h
 |_::_,[],_,_,_,_,h,_=>by simp at h
 |p::P,w::vs,0,m,nd,h1,h2,hk=>by
  simp at h1 h2;subst h1;subst h2;show bindL kindOf ((p,w)::P.zip vs) m p=_;unfold bindL;rw [cO fun v hv=>(List.nodup_cons.mp nd).1 (List.of_mem_zip hv).1,if_pos hk];simp
 |p::P,w::vs,i+1,m,nd,h1,h2,hk=>by
  show bindL kindOf ((p,w)::P.zip vs) m x=_;unfold bindL;exact cN (i:=i) (List.nodup_cons.mp nd).2 (by simpa using h1) (by simpa using h2) hk
theorem cL {kindOf:Str->Option NameKind} {x:Str} {v:Value}:∀ {P:List Str} {vs:List Value} {i:Nat} {m:Str->Option Value},P.Nodup->P[i]?=some x->vs[i]?=some v->kindOf x≠some .local ->
  bindC kindOf (P.zip vs) m x=some v
 | [],_,_,_,_,h,_,_=>by simp at h
 |_::_,[],_,_,_,_,h,_=>by simp at h
 |p::P,w::vs,0,m,nd,h1,h2,hk=>by
  simp at h1 h2;subst h1;subst h2;show bindC kindOf ((p,w)::P.zip vs) m p=_;unfold bindC;rw [cM fun v hv=>(List.nodup_cons.mp nd).1 (List.of_mem_zip hv).1,if_neg hk];simp
 |p::P,w::vs,i+1,m,nd,h1,h2,hk=>by
  show bindC kindOf ((p,w)::P.zip vs) m x=_;unfold bindC;exact cL (i:=i) (List.nodup_cons.mp nd).2 (by simpa using h1) (by simpa using h2) hk
def start (N:List Str) (vs:List V):St:=vs.map some++List.replicate (N.length-vs.length) none
def cxOf (CX:CXT) (P:Program) (w:World) (K:PySem.W.Frag) (mg:Str->Option Value) (base:Heap) (N:List Str) (qual:Str) (scope:Scope) (f:Addr) (cd:Value) (A:Around) (outer:List Env) (s:Shared) (H:Hp) (E:XK):Cx where
 prog:=P
 w:=w
 K:=K
 mg:=mg
 base:=base
 A:=A.deeper (envOfC qual scope s.heap.objs.size f cd)
 N:=N
 s₀:=s
 H₀:=H
 env:=envOfC qual scope s.heap.objs.size f cd
 outer:=outer
 stack:=envOfC qual scope s.heap.objs.size f cd::outer
 ex:=[]
 calm:=true
 fn:=fun _=>true
 pn:=[]
 xe:=fun e s'=>wpAny (model P w) (A.deeper (envOfC qual scope s.heap.objs.size f cd)) (leaving (envOfC qual scope s.heap.objs.size f cd) e) (fun _ s''=>CX outer H s E e s'') (fun e' s''=>CX outer H s E e' s'') s'
theorem za6 {sc:Scope} {n:Nat} {x:Str} (h:sc.names.lookup x=some .cell):∃ c,(cellsFrom n sc.names []).lookup x=some c:=by
 have q:=PySem.W.cellsFrom_some sc.names n [] (.inl h);exact Option.isSome_iff_exists.mp q
theorem zcJ {CX:CXT} {P:Program} {w:World} {K:PySem.W.Frag} {mg:Str->Option Value} {base:Heap} {N ps:List Str} {qual:Str} {scope:Scope} {f:Addr} {cd:Value} {A:Around} {outer:List Env} {s s1:Shared} {H:Hp} {E:XK} {us:List Value} {vs:List V}
  (S:FnScope N ps scope) (hd:A.handled=none) (e0:Env0 P w K mg base A outer s H) (hl:vs.length=ps.length) (r:yX vs us)
  (x:InCallC s s.heap.objs.size (bindL (envOfC qual scope s.heap.objs.size f cd).kindOf (ps.zip us) fun _=>none) (cellsFrom (s.heap.objs.size+1) scope.names []) (bindC (envOfC qual scope s.heap.objs.size f cd).kindOf (ps.zip us) fun _=>none) s1) :
  Inv (cxOf CX P w K mg base N qual scope f cd A outer s H E) [] (start N vs) H s1:=by
 have hpl:ps.length<=N.length:=by have:=congrArg List.length S.pre;rw [List.length_take] at this;omega
 obtain ⟨h1,tk,rfl,hk⟩:=x.done;have noA:∀ b:Addr,b∉(cxOf CX P w K mg base N qual scope f cd A outer s H E).ex:=fun b z=>absurd (show b∈([]:List Addr) from z) (by simp)
 refine ⟨⟨e0.mod,S.kind,rfl,rfl,zzR _,fun y z c h1 h2=>?_,fun y hy=>?_,fun y c _ h=>?_,fun _=>hd,Around.frames_deeper e0.frames,.inr ⟨rfl,rfl⟩,fun b z=>absurd z (noA b),e0.bs,e0.bsz,fun b _ _=>noA b,fun b z=>absurd z (noA b),e0.funs,e0.frf⟩,
  rfl,e0.bare,Un.kept hk,⟨_,x.toInCall.ns,fun i y v h1 h2 h3=>?_⟩,fun y c h=>⟨_,x.cell y c h⟩,e0.hok.fresh (zzR _),fun y c h=>?_,fun p hp=>absurd (show p∈([]:List (Addr×Obj)) from hp) (by simp),e0.hok.kept hk,?_⟩
 .exact name_of_addr x.apart (PySem.mem_of_lookup h1) (PySem.mem_of_lookup h2)
 .have hy:scope.names.lookup y=some .cell\/scope.names.lookup y=some .free:=hy;rcases hy with hy|hy
  .exact za6 hy
  .exact absurd rfl (S.nofree _ (PySem.mem_of_lookup hy))
 .exact Nat.le_of_lt (x.above y c (PySem.mem_of_lookup h))
 .have hi:i<vs.length:=by
   unfold start at h2
   by_cases hi:i<vs.length
   .exact hi
   .rw [List.getElem?_append_right (by simpa using hi)] at h2;rw [List.getElem?_replicate] at h2
    split at h2<;>cases h2
  have ha:vs[i]?=some v:=by
   unfold start at h2;rw [List.getElem?_append_left (by simpa using hi),List.getElem?_map] at h2
   cases e:vs[i]? with
   |none=>rw [e] at h2;cases h2
   |some a=>rw [e] at h2;cases h2;rfl
  obtain ⟨u,hu,rv⟩:=r.get ha
  have hp:ps[i]?=some y:=by
   rw [← S.pre,List.getElem?_take_of_lt (by omega)];exact h1
  have ndP:ps.Nodup:=by rw [← S.pre];exact S.nd.sublist (List.take_sublist _ _)
  refine ⟨u,rv,?_⟩;rcases S.par y (List.mem_of_getElem? hp) with k|k
  .exact .inl ⟨k,cN ndP hp hu k⟩
  .obtain ⟨c,e⟩:=za6 (n:=s.heap.objs.size+1) k;refine .inr ⟨.inl k,c,e,?_⟩;have q:=x.cell y c e;rw [cL ndP hp hu (by show scope.names.lookup y≠_;rw [k];decide)] at q;exact q
 .exact e0.hok.fresh (Nat.le_of_lt (x.above y c (PySem.mem_of_lookup h)))
 .unfold start;show _=N.length;rw [zzW,zzM,List.length_replicate];omega
theorem fn_of {CX:CXT} {P:Program} {w:World} {K:PySem.W.Frag} {mg:Str->Option Value} {base:Heap} {k:Nat} {f:Addr} {name qual:Str} {params:Arguments} {body:List Stmt} {scope:Scope} {dV kV doc pm cdv ct oc:Value} {an od:Option Addr}
  {osl:Array (Option Value)} {N ps:List Str} {sp:Sp} (lk:K.lookup f=some ⟨oc,od,.func (PySem.W.fnOf name qual params body scope dV kV doc pm an cdv ct),osl⟩) (hcd:PySem.W.codeIn K cdv qual=true) (S:FnScope N ps scope)
  (len:∀ vs H Q E,sp vs H Q E->vs.length=ps.length)
  (hbody:∀ (A:Around) (outer:List Env) (s:Shared) (H:Hp) (vs:List V) (Q:VK) (E:XK),Room k (A.deeper (envOfC qual scope s.heap.objs.size f cdv))->sp vs H Q E ->
   ∃ t,PSs (cxOf CX P w K mg base N qual scope f cdv A outer s H E) body t/\t { nx:=fun _ H'=>Q .non H',rt:=Q } (start N vs) H) :
  FnOk P w K mg base CX (k+1) f (PySem.W.fnOf name qual params body scope dV kV doc pm an cdv ct) ps sp:=by
 refine ⟨len,fun A outer s H args us vs Q E hr e0 hb r hsp=>?_⟩;have hl:=len _ _ _ _ hsp;have KX:K.In s.heap:=e0.mod.kin.keeps fun b o e=>(e0.bs b o e).1;have lim:s.heap.NoLimit:=e0.mod.nolimit.keeps fun b o e=>(e0.bs b o e).1
 have hkind:∀ y∈ps.zip us,scope.names.lookup y.1=some .local\/(scope.names.lookup y.1=some .cell/\((cellsFrom (s.heap.objs.size+1) scope.names []).lookup y.1).isSome=true):=fun ⟨n,v⟩ hy=>by
  rcases S.par n (List.of_mem_zip hy).1 with q|q
  .exact .inl q
  .exact .inr ⟨q,PySem.W.cellsFrom_some _ _ _ (.inl q)⟩
 refine codeAny_call_function hr.depth (KX _ _ lk) rfl S.co S.gen rfl (PySem.W.codeRec_of KX hcd) (hb _ _ _ _ ?_);refine wpAny_newFunctionEnv_cells S.kind hkind fun env he s1 x=>?_;subst he;refine ⟨lim.keeps x.toInCall.keep,codeAny_func ?_⟩;obtain ⟨t,ht,hq⟩:=hbody A outer s H vs Q E (hr.deeper _) hsp;have I:Inv (cxOf CX P w K mg base N qual scope f cdv A outer s H E) [] (start N vs) H s1:=zcJ S hr.hd e0 hl r x;refine wpAny_mono (ht [] s1 (start N vs) H _ I hq) (fun fl s' hs=>?_) fun e s' hs=>hs
 have fin:∀ {σ':St} {H':Hp} {v:V} {u:Value},Inv (cxOf CX P w K mg base N qual scope f cdv A outer s H E) [] σ' H' s'->yW v u->Q v H'->CE outer P w H s Q u s' :=
  fun {σ' H' v u} J rv q=>⟨v,H',J.os,J.bare,J.base,J.hok,rv,q⟩
 cases fl with
 |ret u =>
  obtain ⟨v,σ',H',J,rv,q⟩:=hs;exact fin J rv q
 |next =>
  obtain ⟨σ',H',J,q⟩:=hs;exact fin (v:=V.non) (u:=Value.none) J rfl q
 |brk =>
  obtain ⟨_,_,_,q⟩:=hs;exact False.elim q
 |cont =>
  obtain ⟨_,_,_,q⟩:=hs;exact False.elim q
end L2
namespace L2
open PySem PySem.Spec PyProof.Rows
section
variable {X : Cx} {x : Str} {p pos : Pos} {e : Expr} {es : List Expr} {t : TA} {id T : String} {r : List V → Hp → VK → Prop}
def tCB (r:List V->Hp->VK->Prop) (t:TA):TE:=fun σ H Q=>t σ H fun vs H1=>r vs H1 Q
theorem zd6 (hc:jZ X (.builtin id) r) (hg:Gl X x) (hm:X.mg x=none) (hv:bootBuiltins x=some (.builtin id)) (ha:PA X (e::es) t) (hn:x ≠ "__name__" := by decide) (hdb:(x==("__debug__" : Str))=false:=by decide)
  (he:starEach (e::es) X.env=(false,eval e X.env)::starEach es X.env:=by rfl) (hpl:(backTo pos (starEach es X.env)).any (·.1)=false:=by rfl):PE X (.Call (.Name x p) (e::es) [] pos) (tCB r t):=by
 intro pins s σ H Q I h;refine wpAny_Call_Name_kw (rN I hg hm hv ?_ hn hdb);exact PyProof.Rows.callWith_builtin1 (yB (ha pos pins s σ H _ I h) fun us s1 ⟨vs,H1,I1,r1,q1⟩=>hc pins s1 σ H1 vs us Q I1 r1 q1) he hpl
theorem zcb (hc:jZ X (.type T) r) (hg:Gl X x) (hm:X.mg x=none) (hv:bootBuiltins x=some (.type T)) (ha:PA X (e::es) t) (hn:x ≠ "__name__" := by decide) (hdb:(x==("__debug__" : Str))=false:=by decide)
  (he:starEach (e::es) X.env=(false,eval e X.env)::starEach es X.env:=by rfl) (hpl:(backTo pos (starEach es X.env)).any (·.1)=false:=by rfl):PE X (.Call (.Name x p) (e::es) [] pos) (tCB r t):=by
 intro pins s σ H Q I h;refine wpAny_Call_Name_kw (rN I hg hm hv ?_ hn hdb);exact PyProof.Rows.callWith_type1 (yB (ha pos pins s σ H _ I h) fun us s1 ⟨vs,H1,I1,r1,q1⟩=>hc pins s1 σ H1 vs us Q I1 r1 q1) he hpl
end
end L2
namespace HT
open PySem PyProof.Rows
section
open PySem.SeqAt
open PySem.AutoSeq1 (wpAny_loadPart')
open PySem.MeetsSeq PySem.MeetsSeq2 PySem.MeetsSeq3
end
section
variable {prog : Program} {w : World} {A : Around} {E : Value → Shared → Prop} {s : Shared}
theorem zgA {t b:Addr} {vs ws:List Value} {Q:Value->Shared->Prop} (ht:IsTup s.heap t vs.toArray) (hb:IsTup s.heap b ws.toArray) (hv:vs≠[])
  (h1:ws=[]->Q (.ref t) s) (h2:ws≠[]->Q (.ref s.heap.objs.size) { s with heap:=s.heap.push { cls:=.type "tuple", data:=.seq (vs++ws).toArray } })
  (hsz:vs.length+ws.length<=sizeLine):wpAny (model prog w) A (binaryOp .Add (.ref t) (.ref b)) Q E s:=by
 obtain ⟨⟨cls,dd,data,sl⟩,ho,hc,n,hd⟩:=id ht;obtain ⟨⟨cls2,dd2,data2,sl2⟩,ho2,hc2,n2,hd2⟩:=id hb;simp only at hc hd hc2 hd2;subst hc hd hc2 hd2;have e:vs.toArray++ws.toArray=(vs++ws).toArray:=by simp
 by_cases hw:ws=[]
 .exact concat_meets ⟨_,ho,rfl⟩ ⟨_,ho2,rfl⟩ noFill_tuple_add seq_tuple_add PySem.F.slot_tuple_add PySem.F.entry_tuple_add (PySem.F.args_tuple_add_2 _ _)
   (tuple_addW1 t b vs.toArray ws.toArray n n2 dd dd2 sl sl2 (by simpa using hv) (by simp [hw])) ⟨ho,ho2,h1 hw⟩
 .refine concat_meets ⟨_,ho,rfl⟩ ⟨_,ho2,rfl⟩ noFill_tuple_add seq_tuple_add PySem.F.slot_tuple_add PySem.F.entry_tuple_add (PySem.F.args_tuple_add_2 _ _)
   (tuple_addW2 t b vs.toArray ws.toArray n n2 dd dd2 sl sl2 (by simpa using hv) (by simpa using hw) (by rw [zzS,zzS];exact hsz)) ⟨ho,ho2,?_⟩
  rw [e];exact h2 hw
def wF (n d:Nat):Option Int->Nat
 |none=>d
 |some v=>if v<0 then (v+(n:Int)).toNat else min v.toNat n
theorem zg8 (n d:Nat) (hd:d<=n) (o:Option Int):wF n d o<=n:=by
 cases o with
 |none=>exact hd
 |some v =>
  show (if v<0 then (v+(n:Int)).toNat else min v.toNat n)<=n
  by_cases hv:v<0
  .rw [if_pos hv];omega
  .rw [if_neg hv];exact Nat.min_le_right _ _
theorem zc8 (v:Int) (n d:Nat):(if v<0 then max (v+(n:Int)) 0 else min v (n:Int))=((wF n d (some v):Nat):Int):=by
 show (if v<0 then max (v+(n:Int)) 0 else min v (n:Int))=(((if v<0 then (v+(n:Int)).toNat else min v.toNat n):Nat):Int)
 by_cases hv:v<0
 .simp only [if_pos hv];omega
 .simp only [if_neg hv];omega
theorem zbA (lo hi:Option Int) (n:Nat):Builtin.Slice.sliceAdjust lo hi 1 (n:Int)=(((wF n 0 lo:Nat):Int),((wF n n hi:Nat):Int)):=by
 have h1:¬ ((1:Int)<0):=by omega
 unfold Builtin.Slice.sliceAdjust;simp only [h1,if_false];refine Prod.ext ?_ ?_
 .cases lo with
  |none=>rfl
  |some v=>exact zc8 v n 0
 .cases hi with
  |none=>rfl
  |some v=>exact zc8 v n n
theorem zbk (i j:Nat):Builtin.Slice.slicePlaces (i:Int) (j:Int) 1=j-i:=by
 unfold Builtin.Slice.slicePlaces;have h1:(1:Int) > 0:=by omega
 simp only [h1,if_true,Int.ediv_one]
 split<;>omega
theorem nK {v:Value} {o:Option Int} {Q:Option Int->Shared->Prop} (p:IsPart v o) (h:Q o s):wpAny (model prog w) A (Builtin.Slice.slicePartIndex v) Q E s:=by
 cases p with
 |none=>exact slicePart_none h
 |int i t=>exact slicePart_int h
theorem kR {sl:Addr} {vl vu:Value} {lo hi:Option Int} {n:Nat} {Q:Int×Int×Nat->Shared->Prop} (hs:s.heap.IsSliceOf sl vl vu .none) (pl:IsPart vl lo) (pu:IsPart vu hi)
  (h:Q (((wF n 0 lo:Nat):Int),1,wF n n hi-wF n 0 lo) s):wpAny (model prog w) A (Builtin.Slice.sliceApplied (.ref sl) (pure (n:Int))) Q E s:=by
 obtain ⟨os,hos,hcs,hds⟩:=id hs;unfold Builtin.Slice.sliceApplied Builtin.Slice.sliceFields;refine wpAny_bind (wpAny_bind (wpAny_field hos hds (x:=vl) rfl (wpAny_bind (wpAny_field hos hds (x:=vu) rfl (wpAny_bind (wpAny_field hos hds (x:=.none) rfl (wpAny_pure ?_)))))));refine wpAny_bind (slicePart_none ?_);show wpAny _ _ (if ((1:Int)==0)=true then _ else _) _ _ s;rw [if_neg (by decide)];refine wpAny_bind (nK pl (wpAny_bind (nK pu (wpAny_bind (wpAny_pure ?_)))));show wpAny _ _ (match Builtin.Slice.sliceAdjust lo hi 1 (n:Int) with|(lo,hi)=>pure (lo,(1:Int),Builtin.Slice.slicePlaces lo hi 1)) _ _ s;rw [zbA lo hi n];show wpAny _ _ (pure (((wF n 0 lo:Nat):Int),(1:Int),Builtin.Slice.slicePlaces ((wF n 0 lo:Nat):Int) ((wF n n hi:Nat):Int) 1)) _ _ s;rw [zbk];exact wpAny_pure h
theorem zd2 (xs:Array Value) (i k:Nat):((List.range k).filterMap fun (m:Nat)=>xs[((i:Int)+(m:Int) * 1).toNat]?).toArray=((xs.toList.drop i).take k).toArray:=by
 have e:(fun (m:Nat)=>xs[((i:Int)+(m:Int) * 1).toNat]?)=fun m=>xs[i+m]?:=by
  funext m
  have:((i:Int)+(m:Int) * 1).toNat=i+m:=by omega
  rw [this]
 rw [e];have:=pick_run xs i k;rw [List.filterMap_map] at this;have e2:((fun x=>xs[x]?) ∘ fun x=>i+x)=fun m=>xs[i+m]?:=rfl;rw [e2] at this;rw [this]
theorem sF {t sl:Addr} {items:Array Value} {vl vu:Value} {lo hi:Option Int} {Q:Value->Shared->Prop} (ht:IsTup s.heap t items) (hs:s.heap.IsSliceOf sl vl vu .none) (pl:IsPart vl lo) (pu:IsPart vu hi)
  (hw:¬ (wF items.size 0 lo=0/\wF items.size items.size hi=items.size))
  (h:Q (.ref s.heap.objs.size) { s with heap:=s.heap.push { cls:=.type "tuple", data:=.seq ((items.toList.drop (wF items.size 0 lo)).take (wF items.size items.size hi-wF items.size 0 lo)).toArray } })
  (hsz:items.size<=sizeLine):wpAny (model prog w) A (getItem (.ref t) (.ref sl)) Q E s:=by
 have htake:sizeOk (.seq ((items.toList.drop (wF items.size 0 lo)).take (wF items.size items.size hi-wF items.size 0 lo)).toArray):=by
  show ((items.toList.drop (wF items.size 0 lo)).take (wF items.size items.size hi-wF items.size 0 lo)).toArray.size<=sizeLine;rw [zzS,List.length_take,List.length_drop,Array.length_toList];omega
 have hj:wF items.size items.size hi<=items.size:=zg8 _ _ (zzR _) hi;obtain ⟨os,hos,hcs,hds⟩:=id hs;have hTs:s.TypeIs (.ref sl) "slice" := ⟨os,hos,hcs⟩;unfold getItem
 try with_reducible refine wpAny_holding ?_
 first|refine wpAny_bind (wpAny_pure ?_)|skip
 refine wpAny_bind (wpAny_sequenceKey ht.typeIs (by decide) ?_)
 refine wpAny_bind (wpAny_callSpecial?_slot (name:=Str.ofString "__getitem__") ht.typeIs PyProof.Rows.slot_tuple_getitem
  (wpAny_call_entry PyProof.Rows.slot_tuple_getitem ht.typeIs entry_tuple_getitem ?_ (args_tuple_getitem _ _)))
 show wpAny _ _ (Builtin.Tuple.tupleItemsOf (.ref t) >>= _) _ _ s;refine wpAny_bind (tupleItemsOf_ ht ?_);refine wpAny_bind (wpAny_typeOf hTs ?_);rw [if_pos (by decide)];refine wpAny_bind (kR hs pl pu ?_)
 have hno:¬ ((((wF items.size 0 lo:Nat):Int)==0&&(1:Int)==1&&(wF items.size items.size hi-wF items.size 0 lo)==items.size)=true):=by
  intro q;rw [Bool.and_eq_true,Bool.and_eq_true] at q;have q1:((wF items.size 0 lo:Nat):Int)=0:=eq_of_beq q.1.1;have q2:wF items.size items.size hi-wF items.size 0 lo=items.size:=eq_of_beq q.2;exact hw ⟨by omega,by omega⟩
 show wpAny _ _ (if (((wF items.size 0 lo:Nat):Int)==0&&(1:Int)==1&&(wF items.size items.size hi-wF items.size 0 lo)==items.size)=true then _ else _) _ _ s;rw [if_neg hno,zd2]
 first
  |exact wpAny_bind (m:=Builtin.Tuple.tupleExact _) (wpAny_newObj_type (wpAny_pure ⟨_,rfl,wpAny_pure h⟩) htake)
  |exact wpAny_bind (m:=Builtin.Tuple.tupleExact _) (wpAny_newObj_type (wpAny_bind (wpAny_pure (wpAny_pure ⟨_,rfl,wpAny_pure h⟩))) htake)
  |exact wpAny_bind (wpAny_bind (m:=Builtin.Tuple.tupleExact _) (wpAny_newObj_type (wpAny_pure (wpAny_pure ⟨_,rfl,wpAny_pure h⟩)) htake))
  |exact wpAny_bind (wpAny_bind (m:=Builtin.Tuple.tupleExact _) (wpAny_newObj_type (wpAny_pure ⟨_,rfl,wpAny_pure h⟩) htake))
end
end HT
namespace L2
open PySem PySem.Spec PyProof.Rows
abbrev TO:=St->Hp->(Option Int->Hp->Prop)->Prop
def PO (X:Cx) (e:Option Expr) (t:TO):Prop :=
 ∀ (pins:List (Addr×Obj)) (s:Shared) (σ:St) (H:Hp) (Q:Option Int->Hp->Prop),Inv X pins σ H s->t σ H Q ->
  wpAny (model X.prog X.w) X.A (evalPart e X.env) (fun u s'=>∃ o H',Inv X pins σ H' s'/\IsPart u o/\Q o H') X.xe s
def zfn:TO:=fun _ H Q=>Q none H
def tPart (t:TE):TO:=fun σ H Q=>t σ H fun x H1=>∃ i,x=.int i/\Q (some i) H1
section
variable {X : Cx} {e : Expr} {te : TE} {lo hi : Option Expr} {tl th : TO} {pos p2 : Pos}
theorem zfG:PO X none zfn:=by
 intro pins s σ H Q I h;rw [evalPart_none];exact wpAny_pure ⟨none,H,I,.none,h⟩
theorem zfF (h:PE X e te):PO X (some e) (tPart te):=by
 intro pins s σ H Q I hw;rw [evalPart_some];refine yB (h pins s σ H _ I hw) fun u s1 ⟨x,H1,I1,r1,q1⟩=>?_;obtain ⟨i,rfl,q⟩:=q1;obtain ⟨t,rfl⟩:=r1;exact ⟨some i,H1,I1,.int i t,q⟩
def SlR (X:Cx) (r:V->Option Int->Option Int->Hp->VK->Prop):Prop :=
 ∀ (pins:List (Addr×Obj)) (s:Shared) (σ:St) (H:Hp) (x:V) (v vl vu:Value) (lo hi:Option Int) (sl:Addr) (Q:VK),Inv X pins σ H s->yW x v->s.heap.IsSliceOf sl vl vu .none->IsPart vl lo->IsPart vu hi->r x lo hi H Q ->
  ∃ T id,typeLookup (.type T) "__getitem__" = pure (some (.builtin id))/\s.TypeIs v T/\wpAny (model X.prog X.w) X.A (getItem v (.ref sl)) (EP X pins σ Q) X.xe s
def tSl (r:V->Option Int->Option Int->Hp->VK->Prop) (te:TE) (tl th:TO):TE:=fun σ H Q=>te σ H fun x H1=>tl σ H1 fun l H2=>th σ H2 fun u H3=>r x l u H3 Q
theorem zd3 {r:V->Option Int->Option Int->Hp->VK->Prop} (hr:SlR X r) (he:PE X e te) (hl:PO X lo tl) (hu:PO X hi th):PE X (.Subscript e (.Slice lo hi none p2) pos) (tSl r te tl th):=by
 intro pins s σ H Q I h;refine Subscript_ (yB (he pins s σ H _ I h) fun v s1 ⟨x,H1,I1,r1,q1⟩=>?_);refine wpAny_Slice (yB (hl pins s1 σ H1 _ I1 q1) fun vl s2 ⟨l,H2,I2,pl,q2⟩=>yB (hu pins s2 σ H2 _ I2 q2) fun vu s3 ⟨u,H3,I3,pu,q3⟩=>?_);rw [evalPart_none];refine wpAny_pure ?_;have I4:Inv X pins σ H3 { s3 with heap:=s3.heap.push { cls:=.type "slice", data:=.fields #[vl,vu,.none] } }:=I3.kept (t':=s3.toks) fun b ob q=>Heap.get?_push_of_some _ q;obtain ⟨T,id,hT,ht,hg⟩:=hr pins { s3 with heap:=s3.heap.push { cls:=.type "slice", data:=.fields #[vl,vu,.none] } } σ H3 x v vl vu l u s3.heap.objs.size Q I4 r1 (Heap.IsSliceOf.new ..) pl pu q3;show wpAny (model X.prog X.w) X.A (subscriptTail e (.Slice lo hi none p2) v (.ref s3.heap.objs.size)) (EP X pins σ Q) X.xe { s3 with heap:=s3.heap.push { cls:=.type "slice", data:=.fields #[vl,vu,.none] } };exact tail_any (ops:=[.ref s3.heap.objs.size,v]) ht hT hg (by with_unfolding_all rfl)
def cutV (xs:List V) (lo hi:Option Int):List V:=(xs.drop (HT.wF xs.length 0 lo)).take (HT.wF xs.length xs.length hi-HT.wF xs.length 0 lo)
theorem pM (xs:List V) (lo hi:Option Int):(cutV xs lo hi).length<=xs.length:=by
 unfold cutV;rw [List.length_take,List.length_drop];omega
def rSlT (K:PySem.W.Frag):V->Option Int->Option Int->Hp->VK->Prop:=fun x lo hi H Q=>∃ a xs,x=.ref a/\sZ K H a xs /\
 ¬ (HT.wF xs.length 0 lo=0/\HT.wF xs.length xs.length hi=xs.length)/\∀ p,H p=none->Q (.ref p) (xE H p (.tup (cutV xs lo hi)))
theorem zg0:SlR X (rSlT X.K):=by
 intro pins s σ H x v vl vu lo hi sl Q I rx hs pl pu h;obtain ⟨a,xs,rfl,hx,hw,q⟩:=h;cases rx;obtain ⟨its,r,ht,hz⟩:=I.tuple hx;have hlen:its.toArray.size=xs.length:=by rw [zzS];exact r.length.symm
 refine ⟨"tuple", _,PyProof.Rows.slot_tuple_getitem.lookup,ht.typeIs,?_⟩;refine HT.sF ht hs pl pu (by rw [hlen];exact hw) ?_ (by rw [hlen];exact hz);rw [hlen];refine ⟨.ref s.heap.objs.size,_,I.laid (t':=s.toks) (o:=.tup (cutV xs lo hi)) (fun b ob q=>Heap.get?_push_of_some _ q) (zzR _) ?_,rfl,q _ (I.hok.fresh (zzR _))⟩;exact ⟨Nat.le_trans (pM xs lo hi) hz,_,(r.drop (HT.wF xs.length 0 lo)).take (HT.wF xs.length xs.length hi-HT.wF xs.length 0 lo),IsTup.new _ _⟩
def rCatT (K:PySem.W.Frag):R2:=fun x y H Q=>∃ a b xs ys,x=.ref a/\y=.ref b/\sZ K H a xs/\sZ K H b ys/\xs≠[]/\xs.length+ys.length<=sizeLine /\
 (ys=[]->Q (.ref a) H)/\(ys≠[]->∀ p,H p=none->Q (.ref p) (xE H p (.tup (xs++ys))))
theorem yX.nil_iff {xs:List V} {us:List Value} (r:yX xs us):us=[]↔xs=[]:=by
 cases r with
 |nil=>simp
 |cons _ _=>simp
theorem zfQ:kM X (binaryOp .Add) (rCatT X.K):=by
 intro pins s σ H x y v u Q I rx ry h;obtain ⟨a,b,xs,ys,rfl,rfl,ha,hb,hx,hz,q1,q2⟩:=h;cases rx;cases ry;obtain ⟨its,r1,p1,_⟩:=I.tuple ha;obtain ⟨its2,r2,p2,_⟩:=I.tuple hb;refine HT.zgA p1 p2 (fun z=>hx (r1.nil_iff.mp z)) (fun z=>⟨.ref a,H,I,rfl,q1 (r2.nil_iff.mp z)⟩) (fun z=>?_) (by rw [← r1.length,← r2.length];exact hz);refine ⟨.ref s.heap.objs.size,_,I.laid (t':=s.toks) (o:=.tup (xs++ys)) (fun b ob q=>Heap.get?_push_of_some _ q) (zzR _) ?_,rfl,q2 (fun w=>z (r2.nil_iff.mpr w)) _ (I.hok.fresh (zzR _))⟩;exact ⟨by rw [zzW];exact hz,_,r1.append r2,IsTup.new _ _⟩
end
end L2
namespace L2
open PySem PySem.Spec PyProof.Rows
def fT (n:Nat) (i:Int):Option Nat:=if 0<=i then (if i<n then some i.toNat else none) else if -(n:Int)<=i then some (i+n).toNat else none
def tB {α:Type} (xs:List α) (i:Int):Option α:=(fT xs.length i).bind fun j=>xs[j]?
theorem zcG {n:Nat} {i:Int} {j:Nat} (h:fT n i=some j):seqIndex? i n=some j/\j<n/\-(n:Int)<=i/\i<n:=by
 unfold fT at h
 by_cases h0:0<=i
 .rw [if_pos h0] at h
  by_cases h1:i<n
  .rw [if_pos h1] at h;have e:i.toNat=j:=Option.some.inj h;exact ⟨by rw [seqIndex_of h0 h1,e],by omega,by omega,h1⟩
  .rw [if_neg h1] at h;cases h
 .rw [if_neg h0] at h
  by_cases h1:-(n:Int)<=i
  .rw [if_pos h1] at h;have e:(i+n).toNat=j:=Option.some.inj h;exact ⟨by rw [seqIndex_neg (by omega) h1,e],by omega,h1,by omega⟩
  .rw [if_neg h1] at h;cases h
theorem zaB {α:Type} {xs:List α} {i:Int} {v:α} (h:tB xs i=some v):∃ j,seqIndex? i xs.length=some j/\xs[j]?=some v/\j<xs.length/\-(xs.length:Int)<=i/\i<xs.length:=by
 unfold tB at h
 cases e:fT xs.length i with
 |none=>rw [e] at h;cases h
 |some j =>
  rw [e] at h;obtain ⟨h1,h2,h3,h4⟩:=zcG e;exact ⟨j,h1,h,h2,h3,h4⟩
def zdo (b:Expr):Prop:=∀ o i,subscripted b false o i=operate [o,i] (getItem o i)
def IxR (X:Cx) (r:R2):Prop :=
 ∀ (value slice:Expr) (pins:List (Addr×Obj)) (s:Shared) (σ:St) (H:Hp) (x y:V) (v u:Value) (Q:VK),Inv X pins σ H s->yW x v->yW y u->r x y H Q ->
  subscripted slice false v u=operate [v,u] (getItem v u)->wpAny (model X.prog X.w) X.A (subscriptTail value slice v u) (EP X pins σ Q) X.xe s
def MtR (X:Cx) (id:String) (r:V->List V->Hp->VK->Prop):Prop :=
 ∀ (pins:List (Addr×Obj)) (s:Shared) (σ:St) (H:Hp) (x:V) (xs:List V) (v:Value) (us:List Value) (Q:VK),Inv X pins σ H s->yW x v->yX xs us->r x xs H Q ->
  wpAny (model X.prog X.w) X.A (call (.builtin id) (v::us)) (EP X pins σ Q) X.xe s
section
variable {X : Cx} {a b : Expr} {ta tb : TE} {pos : Pos}
theorem pe_ix {r:R2} (hr:IxR X r) (ha:PE X a ta) (hb:PE X b tb) (hs:zdo b):PE X (.Subscript a b pos) (tOp r ta tb):=by
 intro pins s σ H Q I h;exact Subscript_ (binT ha hb I h fun v u s2 x y H2 I2 rx ry q=>hr a b pins s2 σ H2 x y v u Q I2 rx ry q (hs _ _))
def rIxL (K:PySem.W.Frag):R2:=fun x y H Q=>∃ p xs i v,x=.ref p/\y=.int i/\rF K H p xs/\tB xs i=some v/\Q v H
def rIxT (K:PySem.W.Frag):R2:=fun x y H Q=>∃ p xs i v,x=.ref p/\y=.int i/\sZ K H p xs/\tB xs i=some v/\Q v H
def rIxS:R2:=fun x y H Q=>∃ z i c,x=.str z/\y=.int i/\z.length<=sizeLine/\tB z.cps.toList i=some c/\Q (.str ⟨#[c]⟩) H
theorem zfZ:IxR X (rIxL X.K):=by
 intro value slice pins s σ H x y v u Q I rx ry h hs;obtain ⟨p,xs,i,z,rfl,rfl,hq,he,q⟩:=h;cases rx;obtain ⟨t,rfl⟩:=ry;obtain ⟨its,r,pl,hz⟩:=I.list hq;obtain ⟨j,h1,h2,h3,h4,h5⟩:=zaB he;obtain ⟨w,ew,rw'⟩:=r.get h2;have hl:=r.length;have hn:=tM;have fin:EP X pins σ Q w s:=⟨z,H,I,rw',q⟩
 by_cases h0:0<=i
 .have hj:i.toNat=j:=by
   rw [seqIndex_of h0 h5] at h1;exact Option.some.inj h1
  exact item_listR pl.isList h0 (by omega) (by rw [hj];simpa using ew) fin hs
 .have hj:(i+(its.toArray.size:Int)).toNat=j:=by
   rw [seqIndex_neg (by omega) h4] at h1;rw [zzS,← hl];exact Option.some.inj h1
  exact subscriptTail_builtinR (x:=w) pl.isList.typeIs slot_list_getitem.lookup
   (wpAny_getItem_list_neg (Q:=fun r s'=>r=w/\EP X pins σ Q r s') pl.isList (by omega) (by rw [zzS]<;>omega) (by omega) (by rw [hj];simpa using ew) ⟨rfl,fin⟩) hs
theorem zhZ:IxR X (rIxT X.K):=by
 intro value slice pins s σ H x y v u Q I rx ry h hs;obtain ⟨p,xs,i,z,rfl,rfl,hq,he,q⟩:=h;cases rx;obtain ⟨t,rfl⟩:=ry;obtain ⟨its,r,pl,hz⟩:=I.tuple hq;obtain ⟨j,h1,h2,h3,h4,h5⟩:=zaB he;obtain ⟨w,ew,rw'⟩:=r.get h2;have hl:=r.length;have hn:=tM;have fin:EP X pins σ Q w s:=⟨z,H,I,rw',q⟩
 exact subscriptTail_builtinR (x:=w) pl.typeIs slot_tuple_getitem.lookup
  (getItem_tuple (j:=j) (Q:=fun r s'=>r=w/\EP X pins σ Q r s') pl (by omega) (by omega) (by rw [zzS,← hl];exact h1) (by simpa using ew) ⟨rfl,fin⟩) hs
theorem zh0:IxR X rIxS:=by
 intro value slice pins s σ H x y v u Q I rx ry h hs;obtain ⟨z,i,c,rfl,rfl,hz,he,q⟩:=h;obtain ⟨t,rfl⟩:=rx;obtain ⟨t',rfl⟩:=ry;obtain ⟨j,h1,h2,h3,h4,h5⟩:=zaB he;have hl:z.cps.toList.length=z.length:=by simp [Str.length]
 rw [hl] at h1 h4 h5;have hn:=tM
 exact tail_any (typeIs_str s z t) slot_str_getitem.lookup (getItem_str (c:=c) (by
  have e1:decide (i < -(2 ^ 63:Int))=false:=decide_eq_false (by omega);have e2:decide (i>=2 ^ 63)=false:=decide_eq_false (by omega);rw [e1,e2,Bool.or_false]) (by rw [h1];simpa using h2) ⟨.str ⟨#[c]⟩,H,I.tok _,⟨_,rfl⟩,q⟩) hs
theorem zbm (its:List Value) (n j:Nat) (u:Value):Obj.mapSeq (·.setIfInBounds j u) { cls:=.type "list", data:=.seq its.toArray n }={ cls:=.type "list", data:=.seq (its.set j u).toArray n }:=by
 simp [Obj.mapSeq]
theorem Inv.lst {pins:List (Addr×Obj)} {σ:St} {H:Hp} {s:Shared} {p:Addr} {xs:List V} (I:Inv X pins σ H s) (h:H p=some (.lst xs)) :
  ∃ (its:List Value) (n:Nat),yX xs its/\s.heap.get? p=some { cls:=.type "list", data:=.seq its.toArray n }/\xs.length<=sizeLine:=by
 obtain ⟨z,its,n,r,e⟩:=I.hok p _ h;exact ⟨its,n,r,e,z⟩
theorem Inv.lstUpd {pins:List (Addr×Obj)} {σ:St} {H:Hp} {s:Shared} {p:Addr} {xs ys:List V} {its its':List Value} {n n':Nat} {f:Obj->Obj} (I:Inv X pins σ H s) (h:H p=some (.lst xs))
  (ho:s.heap.get? p=some { cls:=.type "list", data:=.seq its.toArray n }) (hf:f { cls:=.type "list", data:=.seq its.toArray n }={ cls:=.type "list", data:=.seq its'.toArray n' }) (r:yX ys its') (hz:ys.length<=sizeLine) (t:Nat) :
  Inv X pins σ (xE H p (.lst ys)) { s with heap:=s.heap.update p f,toks:=t }:=by
 have e:(s.heap.update p f).get? p=some { cls:=.type "list", data:=.seq its'.toArray n' }:=by
  rw [Heap.get?_update_self f ho (by rw [hf]<;>rfl),hf]
 refine I.write (x:=p) (e:=p) (by rw [h];trivial) (.inl rfl) (fun b u hb q=>(Heap.get?_update_other _ _ (Ne.symm hb)).trans q) ⟨_,e⟩ ?_;exact ⟨hz,its',n',r,e⟩
def rSetL:V->V->V->Hp->(Hp->Prop)->Prop:=fun o i v H Q=>∃ p xs k j,o=.ref p/\i=.int k/\H p=some (.lst xs)/\fT xs.length k=some j/\Q (xE H p (.lst (xs.set j v)))
theorem zdI:PSet X rSetL:=by
 intro pins s σ H o i v ov iv u Q I ro ri rv h;obtain ⟨p,xs,k,j,rfl,rfl,hp,hj,q⟩:=h;cases ro;obtain ⟨t,rfl⟩:=ri;obtain ⟨its,n,r,ho,hz⟩:=I.lst hp;obtain ⟨h1,h2,h3,h4⟩:=zcG hj;have hl:=r.length;have hn:=tM
 have I':Inv X pins σ (xE H p (.lst (xs.set j v))) { s with heap:=s.heap.update p (Obj.mapSeq (·.setIfInBounds j u)) } :=
  I.lstUpd hp ho (zbm its n j u) (r.set rv j) (by rw [List.length_set];exact hz) s.toks
 by_cases h0:0<=k
 .have hk:k.toNat=j:=by
   rw [seqIndex_of h0 h4] at h1;exact Option.some.inj h1
  exact PySem.W.ki_setAt ho h0 (by omega) (by rw [zzS,← hl];exact h4) (by rw [hk];exact ⟨_,I',q⟩)
 .have hk:(k+(its.toArray.size:Int)).toNat=j:=by
   rw [seqIndex_neg (by omega) h3] at h1;rw [zzS,← hl];exact Option.some.inj h1
  exact PySem.W.ki_setBack ho (by omega) (by rw [zzS,← hl];exact h3) (by omega) (by rw [hk];exact ⟨_,I',q⟩)
theorem bW (lo hi:Option Int) (n:Nat):(sliceBounds lo hi none n).1=((HT.wF n 0 lo:Nat):Int)/\(sliceBounds lo hi none n).2.1=((HT.wF n n hi:Nat):Int)/\(sliceBounds lo hi none n).2.2=1:=by
 refine ⟨?_,?_,rfl⟩
 .cases lo with
  |none=>simp [sliceBounds,HT.wF]
  |some i =>
   simp only [sliceBounds,HT.wF,Option.getD_none,show (1:Int) > 0 by decide,if_true]
   by_cases h:i<0
   .simp only [h,if_true]<;>omega
   .simp only [h,if_false]<;>omega
 .cases hi with
  |none=>simp [sliceBounds,HT.wF]
  |some i =>
   simp only [sliceBounds,HT.wF,Option.getD_none,show (1:Int) > 0 by decide,if_true]
   by_cases h:i<0
   .simp only [h,if_true]<;>omega
   .simp only [h,if_false]<;>omega
theorem gF (its:List Value) (lo hi:Option Int):slicePick its.toArray lo hi none=((its.drop (HT.wF its.length 0 lo)).take (HT.wF its.length its.length hi-HT.wF its.length 0 lo)).toArray:=by
 obtain ⟨h1,h2,h3⟩:=bW lo hi its.toArray.size;unfold slicePick;rw [h1,h2,h3];simp only [sliceRange_one,pick_run,zzS]<;>rfl
def rSlL (K:PySem.W.Frag):V->Option Int->Option Int->Hp->VK->Prop:=fun x lo hi H Q=>∃ a xs,x=.ref a/\rF K H a xs/\∀ p,H p=none->Q (.ref p) (xE H p (.lst (cutV xs lo hi)))
theorem zbV:SlR X (rSlL X.K):=by
 intro pins s σ H x v vl vu lo hi sl Q I rx hs pl pu h;obtain ⟨a,xs,rfl,hx,q⟩:=h;cases rx;obtain ⟨its,r,ht,hz⟩:=I.list hx;have hlen:=r.length;refine ⟨"list", _,slot_list_getitem.lookup,ht.isList.typeIs,?_⟩;refine wpAny_getItem_list_slice ht.isList hs pl pu .none (by simp) ?_ (by rw [zzS]<;>omega);rw [gF,← hlen];refine ⟨.ref s.heap.objs.size,_,I.laid (t':=s.toks) (o:=.lst (cutV xs lo hi)) (fun b ob q=>Heap.get?_push_of_some _ q) (zzR _) ?_,rfl,q _ (I.hok.fresh (zzR _))⟩;exact ⟨Nat.le_trans (pM xs lo hi) hz,_,0,(r.drop (HT.wF xs.length 0 lo)).take (HT.wF xs.length xs.length hi-HT.wF xs.length 0 lo),Heap.get?_push_size _ rfl⟩
theorem bP:kM X (compareOp .NotIn) (fun x y H Q=>∃ i j,x=.str i/\y=.str j/\Q (.bl (!(!(Builtin.Str.occurrences j i 0 j.length 1).isEmpty))) H):=by
 intro pins s σ H x y v u Q I rx ry h;obtain ⟨i,j,rfl,rfl,q⟩:=h;obtain ⟨t,rfl⟩:=rx;obtain ⟨t',rfl⟩:=ry;exact notIn_str ⟨.bl _,H,I,rfl,q⟩
theorem vW:jZ X (.builtin "len") (fun xs H Q=>∃ p ys,xs=[.ref p]/\(rF X.K H p ys\/sZ X.K H p ys)/\Q (.int ys.length) H):=by
 intro pins s σ H xs us Q I r h;obtain ⟨p,ys,rfl,hq,q⟩:=h;obtain ⟨u,rfl,rx⟩:=qZ r;cases rx;have hn:=tM;rcases hq with hq|hq
 .obtain ⟨its,r',pl,hz⟩:=I.list hq;have hlen:=r'.length;exact Calls.call_len_list pl.isList (by simp only [zzS]<;>omega) ⟨.int ys.length,H,I.tok _,⟨s.toks+1,by rw [zzS,hlen]⟩,q⟩
 .obtain ⟨its,r',pl,hz⟩:=I.tuple hq;have hlen:=r'.length;exact len_tuple pl (by simp only [zzS]<;>omega) ⟨.int ys.length,H,I.tok _,⟨s.toks+1,by rw [zzS,hlen]⟩,q⟩
theorem zad:jZ X (.builtin "len") (fun xs H Q=>∃ z,xs=[.str z]/\z.length<=sizeLine/\Q (.int z.length) H):=by
 intro pins s σ H xs us Q I r h;obtain ⟨z,rfl,hz,q⟩:=h;obtain ⟨u,rfl,t,rfl⟩:=qZ r;have hn:=tM;exact len_str (by omega) ⟨.int z.length,H,I.tok _,⟨_,rfl⟩,q⟩
theorem zac:jZ X (.type "list") (fun xs H Q=>∃ p ys,xs=[.ref p]/\(rF X.K H p ys\/sZ X.K H p ys)/\∀ l,H l=none->Q (.ref l) (xE H l (.lst ys))):=by
 intro pins s σ H xs us Q I r h;obtain ⟨p,ys,rfl,hq,q⟩:=h;obtain ⟨u,rfl,rx⟩:=qZ r;cases rx
 have fin:∀ (its:List Value),yX ys its->ys.length<=sizeLine->∀ (h':Heap) (c':Nat),(∀ b o',s.heap.get? b=some o'->h'.get? b=some o') ->
   h'.get? s.heap.objs.size=some { cls:=.type "list", dict:=none,data:=.seq its.toArray c',slots:=#[] }->EP X pins σ Q (.ref s.heap.objs.size) { s with heap:=h' }:=fun its r' hz h' c' kp e =>
  ⟨.ref s.heap.objs.size,_,I.laid (t':=s.toks) kp (zzR _) (show xK X.prog X.w _ h' _ (.lst ys) from ⟨hz,its,c',r',e⟩),rfl,q _ (I.hok.fresh (zzR _))⟩
 rcases hq with hq|hq
 .obtain ⟨its,r',pl,hz⟩:=I.list hq;have hlen:=r'.length;obtain ⟨o,ho,hc,n,hd⟩:=pl.isList;exact call_list_seq p (.inl rfl) ho hc hd (fun h' c' kp e=>fin its r' hz h' c' kp e) (by simp only [zzS]<;>omega)
 .obtain ⟨its,r',pl,hz⟩:=I.tuple hq;have hlen:=r'.length;obtain ⟨o,ho,hc,n,hd⟩:=pl;exact call_list_seq p (.inr rfl) ho hc hd (fun h' c' kp e=>fin its r' hz h' c' kp e) (by simp only [zzS]<;>omega)
theorem fQ:jZ X (.type "tuple") (fun xs H Q=>∃ p ys,xs=[.ref p]/\((rF X.K H p ys/\∀ l,H l=none->Q (.ref l) (xE H l (.tup ys)))\/(sZ X.K H p ys/\Q (.ref p) H))):=by
 intro pins s σ H xs us Q I r h;obtain ⟨p,ys,rfl,h⟩:=h;obtain ⟨u,rfl,rx⟩:=qZ r;cases rx;rcases h with ⟨hq,q⟩|⟨hq,q⟩
 .obtain ⟨its,r',pl,hz⟩:=I.list hq;have hlen:=r'.length;refine call_tuple_list pl.isList (fun h' kp=>?_) (by simp only [zzS]<;>omega);have I1:Inv X pins σ H { s with heap:=h' }:=I.kept (t':=s.toks) kp
  have I2:Inv X pins σ (xE H h'.objs.size (.tup ys)) { s with heap:=h'.push { cls:=.type "tuple", data:=.seq its.toArray } } :=
   I1.laid (t':=s.toks) (fun b o e=>Heap.get?_push_of_some _ e) (zzR _) (show xK X.prog X.w _ _ _ (.tup ys) from ⟨hz,its,r',IsTup.new _ _⟩)
  exact ⟨.ref h'.objs.size,_,I2,rfl,q _ (I1.hok.fresh (zzR _))⟩
 .obtain ⟨its,r',pl,hz⟩:=I.tuple hq;exact call_tuple_same pl ⟨.ref p,H,I,rfl,q⟩
def tyV (K:PySem.W.Frag) (T:String) (x:V) (H:Hp):Prop:=match x with
 | .str _=>T = "str"
 | .int _=>T = "int"
 | .ref p=>(T = "list" /\ ∃ xs,rF K H p xs)\/(T = "tuple" /\ ∃ o,K.lookup p=some o/\o.cls=.type "tuple" /\ o.dict=none) \/
   (T = "dict" /\ ((∃ kvs,H p=some (.dK kvs))\/∃ kvs,H p=some (.dT kvs)))\/(T = "set" /\ ∃ S n,H p=some (.set S n))
 |_=>False
theorem zeO {pins:List (Addr×Obj)} {σ:St} {H:Hp} {s:Shared} {T:String} {x:V} {v:Value} (I:Inv X pins σ H s) (r:yW x v) (ty:tyV X.K T x H) :
  s.TypeIs v T/\∀ a,v=.ref a->∃ ob,s.heap.get? a=some ob/\ob.dict=none:=by
 cases x with
 |str z =>
  obtain ⟨t,rfl⟩:=r;cases (show T = "str" from ty);exact ⟨typeIs_str s z t,fun _ e=>nomatch e⟩
 |int i =>
  obtain ⟨t,rfl⟩:=r;cases (show T = "int" from ty);exact ⟨typeIs_int s i t,fun _ e=>nomatch e⟩
 |ref p =>
  cases r;rcases ty with ⟨rfl,xs,hq⟩|⟨rfl,o,hk,hc,hd⟩|⟨rfl,hk⟩|⟨rfl,S,n,hk⟩
  .obtain ⟨its,_,pl,_⟩:=I.list hq;refine ⟨pl.isList.typeIs,fun a e=>?_⟩;cases e;obtain ⟨o,n,e,c,hd,_⟩:=pl;exact ⟨o,e,hd⟩
  .refine ⟨⟨o,I.kIn p o hk,hc⟩,fun a e=>?_⟩;cases e;exact ⟨o,I.kIn _ o hk,hd⟩
  .have z:∃ o,s.heap.get? p=some o/\o.ExactDict:=by
    rcases hk with ⟨kvs,hk⟩|⟨kvs,hk⟩
    .obtain ⟨_,_,_,_,o,_,_,e,ex,_⟩:=I.hok p _ hk;exact ⟨o,e,ex⟩
    .obtain ⟨_,_,_,_,o,_,_,e,ex,_⟩:=I.hok p _ hk;exact ⟨o,e,ex⟩
   obtain ⟨o,e,ex⟩:=z;refine ⟨⟨o,e,ex.1⟩,fun a e2=>?_⟩;cases e2;exact ⟨o,e,ex.2.1⟩
  .obtain ⟨o,_,_,_,e,ex,_⟩:=I.hok p _ hk;refine ⟨⟨o,e,ex.1⟩,fun a e2=>?_⟩;cases e2;exact ⟨o,e,ex.2.1⟩
 |_=>exact False.elim ty
def tBM0 (K:PySem.W.Frag) (T:String) (r:V->List V->Hp->VK->Prop) (to:TE):TE:=fun σ H Q=>to σ H fun x H1=>tyV K T x H1/\r x [] H1 Q
def tBM (K:PySem.W.Frag) (T:String) (r:V->List V->Hp->VK->Prop) (to:TE) (t:TA):TE:=fun σ H Q=>to σ H fun x H1=>tyV K T x H1/\t σ H1 fun xs H2=>r x xs H2 Q
variable {o e : Expr} {es : List Expr} {to : TE} {t : TA} {name : Str} {apos cpos : Pos} {T id : String} {r : V → List V → Hp → VK → Prop}
theorem zhx (pa:PlainAttrs T) (slot:Slot T name id) (hty:typeOf (.builtin id)=pure (.type "method_descriptor")) (hm:MtR X id r) (ho:PE X o to)
  (hbase:attributeBase o name X.env (eval o X.env)=eval o X.env:=by rfl) (hline:(apos.endLine==cpos.line)=true:=by rfl):PE X (.Call (.Attribute o name apos) [] [] cpos) (tBM0 X.K T r to):=by
 intro pins s σ H Q I h;refine wpAny_Call_method0_late hbase hline (yB (ho pins s σ H _ I h) fun v s1 ⟨x,H1,I1,r1,ty,q1⟩=>?_);obtain ⟨h1,h2⟩:=zeO I1 r1 ty;exact ⟨T,id,pa,slot,hty,h1,h2,Calls.callWith_builtin rfl (PySem.evalArgs_none (hm pins s1 σ H1 x [] v [] Q I1 r1 .nil q1))⟩
theorem pe_bm (pa:PlainAttrs T) (slot:Slot T name id) (hty:typeOf (.builtin id)=pure (.type "method_descriptor")) (hm:MtR X id r) (ho:PE X o to) (ha:PA X (e::es) t)
  (hbase:attributeBase o name X.env (eval o X.env)=eval o X.env:=by rfl)
  (hfew:((backTo cpos (starEach (e::es) X.env)).all (fun x=>!x.1)&&(backToKw cpos (keywordEach [] X.env)).all (fun x=>x.1.isSome)
   && decide ((e::es).length+([]:List Keyword).length+(if ([]:List Keyword).isEmpty then 0 else 1)<30))=true:=by rfl)
  (hline:(apos.endLine==cpos.line)=true:=by rfl) (hs:starEach (e::es) X.env=(false,eval e X.env)::starEach es X.env:=by rfl) (hplain:(backTo cpos (starEach es X.env)).any (·.1)=false:=by rfl) :
  PE X (.Call (.Attribute o name apos) (e::es) [] cpos) (tBM X.K T r to t):=by
 intro pins s σ H Q I h;refine wpAny_Call_method_late hbase hfew hline rfl (yB (ho pins s σ H _ I h) fun v s1 ⟨x,H1,I1,r1,ty,q1⟩=>?_);obtain ⟨h1,h2⟩:=zeO I1 r1 ty;refine ⟨T,id,pa,slot,hty,h1,h2,?_⟩;have hA:=ha cpos pins s1 σ H1 _ I1 q1;rw [hs] at hA ⊢;refine Calls.callWith_builtin (by show (false || (backTo cpos (starEach es X.env)).any (·.1))=false;rw [hplain]<;>rfl) (Calls.evalArgs_plain ?_);exact yB hA fun us s2 ⟨vs,H2,I2,r2,q2⟩=>hm pins s2 σ H2 x vs v us Q I2 r1 r2 q2
/- xs.append(e),list.index on a module's tuple .. are MtR facts of 06m -/
end
end L2
namespace L2
open PySem PySem.Spec PyProof.Rows
def MtM (X:Cx) (id:String) (r:V->List V->Hp->VK->Prop):Prop :=
 ∀ (pins:List (Addr×Obj)) (s:Shared) (σ:St) (H:Hp) (x:V) (xs:List V) (v:Value) (us:List Value) (Q:VK),Inv X pins σ H s->yW x v->yX xs us->r x xs H Q ->
  wpAny (model X.prog X.w) X.A (call (.builtin id) (v::us)) (EP X pins σ Q) X.xe s
theorem yX.one:∀ {x:V} {us:List Value},yX [x] us->∃ u,us=[u]/\yW x u
 |_,_,.cons r .nil=>⟨_,rfl,r⟩
theorem yX.zero:∀ {us:List Value},yX [] us->us=[]
 |_,.nil=>rfl
theorem yX.dropLast {xs:List V} {us:List Value} (h:yX xs us):yX xs.dropLast us.dropLast:=by
 induction h with
 |nil=>exact .nil
 |cons r t ih =>
  cases t with
  |nil=>exact .nil
  |cons q t'=>exact .cons r ih
theorem yX.reverse {xs:List V} {us:List Value} (h:yX xs us):yX xs.reverse us.reverse:=by
 induction h with
 |nil=>exact .nil
 |cons r t ih=>rw [List.reverse_cons,List.reverse_cons];exact yX.append ih (.cons r .nil)
theorem yX.rep {xs:List V} {us:List Value} (h:yX xs us):∀ k:Nat,yX (List.replicate k xs).flatten (List.replicate k us).flatten
 | 0=>.nil
 |k+1=>by
  rw [List.replicate_succ,List.replicate_succ,List.flatten_cons,List.flatten_cons];exact yX.append h (yX.rep h k)
theorem zbs {α:Type} (l:List α):l.eraseIdx (l.length-1)=l.dropLast:=by
 induction l with
 |nil=>rfl
 |cons a r ih =>
  cases r with
  |nil=>rfl
  |cons b r =>
   have e:(a::b::r).length-1=((b::r).length-1)+1:=by
    have h1:(a::b::r).length=r.length+2:=rfl;have h2:(b::r).length=r.length+1:=rfl;omega
   rw [e,List.eraseIdx_cons_succ,ih]
   all_goals rfl
theorem cZ (its:List Value):∀ (k:Nat) (acc:List Value),
  List.foldl (fun x1 x2=>x1++x2) acc.toArray (List.replicate k its.toArray)=(acc++(List.replicate k its).flatten).toArray
 | 0,acc=>by simp
 |k+1,acc=>by
  have e:acc.toArray++its.toArray=(acc++its).toArray:=by simp
  have e2:(acc++its)++(List.replicate k its).flatten=acc++(List.replicate (k+1) its).flatten:=by
   rw [List.replicate_succ,List.flatten_cons,List.append_assoc]
  rw [← e2,← cZ its k (acc++its),← e,List.replicate_succ,List.foldl_cons]
section
variable {X : Cx} {pins : List (Addr × Obj)} {σ : St} {H : Hp} {s : Shared} {l b : Addr} {xs ys zs : List V}
theorem Inv.lset {its its':List Value} {n:Nat} {f:Array Value->Array Value} {t':Nat} (I:Inv X pins σ H s) (hH:H l=some (.lst xs))
  (e:s.heap.get? l=some { cls:=.type "list", data:=.seq its.toArray n }) (hf:f its.toArray=its'.toArray) (hv:yX ys its') (hz:ys.length<=sizeLine) :
  Inv X pins σ (xE H l (.lst ys)) { s with heap:=s.heap.update l (Obj.mapSeq f),toks:=t' }:=by
 have q:=PySem.IsL.update e f;rw [hf] at q;refine I.write (x:=l) (e:=l) (by rw [hH];exact trivial) (.inl rfl) (fun b' u hb hu=>(Heap.get?_update_other s.heap (Obj.mapSeq f) (Ne.symm hb)).trans hu) ⟨_,q⟩ ?_;exact ⟨hz,its',_,hv,q⟩
theorem Inv.lnew {its:List Value} {t':Nat} (I:Inv X pins σ H s) (hv:yX ys its) (hz:ys.length<=sizeLine) :
  Inv X pins σ (xE H s.heap.objs.size (.lst ys)) { s with heap:=s.heap.push { cls:=.type "list", data:=.seq its.toArray },toks:=t' } :=
 I.laid (fun _ _ q=>Heap.get?_push_of_some _ q) (zzR _) ⟨hz,its,0,hv,Heap.get?_push_size _ rfl⟩
theorem Inv.fresh (I:Inv X pins σ H s):H s.heap.objs.size=none:=I.hok.fresh (zzR _)
theorem Inv.lstM (I:Inv X pins σ H s) (hH:H l=some (.lst xs)):xs.length<=sizeLine/\∃ (its:List Value) (n:Nat),yX xs its/\xs.length=its.length/\s.heap.get? l=some { cls:=.type "list", data:=.seq its.toArray n }:=by
 obtain ⟨z,its,n,r,e⟩:=I.hok l _ hH;exact ⟨z,its,n,r,r.length,e⟩
theorem mZ {n:Nat} (h:n<=sizeLine):Builtin.List.listTooLong n=false:=by
 unfold Builtin.List.listTooLong;exact decide_eq_false (by omega)
end
section
variable {X : Cx}
def zfu:V->List V->Hp->VK->Prop:=fun x vs H Q=>∃ l xs y,x=.ref l/\vs=[y]/\H l=some (.lst xs)/\xs.length<sizeLine/\Q .non (xE H l (.lst (xs++[y])))
theorem zco:MtM X "list.append" zfu:=by
 intro pins s σ H x vs v us Q I rx rv h;obtain ⟨l,xs,y,rfl,rfl,hH,hz,q⟩:=h;cases rx;obtain ⟨u,rfl,ru⟩:=rv.one;obtain ⟨z,its,n,r,hl,e⟩:=I.lstM hH;refine call_meets F.slot_list_append ⟨_,e,rfl⟩ F.entry_list_append (F.args_list_append_2 _ _) (PySem.list_append l its.toArray n u (by rw [zzS];omega)) ⟨e,?_⟩;refine ⟨.non,_,I.lset (its':=its++[u]) hH e (by simp) (r.append (.cons ru .nil)) ?_,rfl,q⟩;rw [zzW,List.length_singleton];omega
def rPop:V->List V->Hp->VK->Prop:=fun x vs H Q=>∃ l xs y,x=.ref l/\vs=[]/\H l=some (.lst xs)/\xs[xs.length-1]?=some y/\Q y (xE H l (.lst xs.dropLast))
theorem zhG:MtM X "list.pop" rPop:=by
 intro pins s σ H x vs v us Q I rx rv h;obtain ⟨l,xs,y,rfl,rfl,hH,hy,q⟩:=h;cases rx;have hus:=rv.zero;subst hus;obtain ⟨z,its,n,r,hl,e⟩:=I.lstM hH;obtain ⟨u,hu,ru⟩:=r.get hy
 have hy':its.toArray[its.toArray.size-1]?=some u:=by
  show its.toArray[its.length-1]?=some u;rw [← Array.getElem?_toList,← hl];exact hu
 refine call_meets F.slot_list_pop ⟨_,e,rfl⟩ F.entry_list_pop (F.args_list_pop_1 _) (MeetsSeq.list_pop_last l its.toArray n u hy' (by rw [zzS];omega)) ⟨e,?_⟩;refine ⟨y,_,I.lset (its':=its.dropLast) hH e ?_ r.dropLast ?_,ru,q⟩
 .show its.toArray.eraseIdxIfInBounds (its.toArray.size-1)=its.dropLast.toArray;rw [zzS,List.eraseIdxIfInBounds_toArray,zbs]
 .rw [List.length_dropLast];omega
def rCat:R2:=fun x y H Q=>∃ l b xs zs,x=.ref l/\y=.ref b/\H l=some (.lst xs)/\H b=some (.lst zs)/\xs.length+zs.length<=sizeLine/\∀ p,H p=none->Q (.ref p) (xE H p (.lst (xs++zs)))
theorem zhD:kM X (binaryOp .Add) rCat:=by
 intro pins s σ H x y v u Q I rx ry h;obtain ⟨l,b,xs,zs,rfl,rfl,hH,hB,hz,q⟩:=h;cases rx;cases ry;obtain ⟨z,its,n,r,hl,e⟩:=I.lstM hH;obtain ⟨z2,its2,n2,r2,hl2,e2⟩:=I.lstM hB;refine PySem.P.add_list e e2 ?_ (by rw [zzS,zzS];omega);have ea:its.toArray++its2.toArray=(its++its2).toArray:=by simp
 rw [ea];exact ⟨.ref _,_,I.lnew (t':=s.toks) (r.append r2) (by rw [zzW];omega),rfl,q _ I.fresh⟩
def rRep:R2:=fun x y H Q=>∃ l k xs,x=.ref l/\y=.int k/\H l=some (.lst xs)/\-(2 ^ 63)<=k/\k<2 ^ 63/\xs.length * k.toNat<=sizeLine /\
 ∀ p,H p=none->Q (.ref p) (xE H p (.lst (List.replicate k.toNat xs).flatten))
theorem zfV {α:Type} (xs:List α) (k:Nat):(List.replicate k xs).flatten.length=k * xs.length:=by
 induction k with
 |zero=>simp
 |succ k ih=>rw [List.replicate_succ,List.flatten_cons,zzW,ih,Nat.succ_mul,Nat.add_comm]
theorem zhz:kM X (binaryOp .Mult) rRep:=by
 intro pins s σ H x y v u Q I rx ry h;obtain ⟨l,k,xs,rfl,rfl,hH,h1,h2,hz,q⟩:=h;cases rx;obtain ⟨t,rfl⟩:=ry;obtain ⟨z,its,n,r,hl,e⟩:=I.lstM hH;have hlen:its.toArray.size * k.toNat<=sizeLine:=by rw [zzS,← hl];exact hz
 have hcap:¬ its.toArray.size * k.toNat > (2 ^ 63-1) / 8:=by
  have:(sizeLine:Nat)<=(2 ^ 63-1) / 8:=by decide
  omega
 have hfit:¬ (!Builtin.List.listFitsIndex k)=true:=by
  rw [fitsIndex_both h1 h2];exact zzN
 have hlong:¬ Builtin.List.listTooLong (its.toArray.size * k.toNat)=true:=by
  rw [mZ hlen];exact zzN
 have hnew:List.foldl (fun x1 x2=>x1++x2) #[] (List.replicate (if its.toArray.isEmpty=true then 0 else k.toNat) its.toArray)=(List.replicate k.toNat its).flatten.toArray:=by
  have f0:∀ m:Nat,List.foldl (fun x1 x2=>x1++x2) #[] (List.replicate m its.toArray)=(List.replicate m its).flatten.toArray:=fun m=>by
   have:=cZ its m [];rw [List.nil_append] at this;exact this
  rw [f0]
  cases its with
  |nil=>simp
  |cons a r'=>rw [if_neg (by simp)]
 refine wpAny_binaryOp_repeat_ref (T := "list") (U := "int") (by decide) ⟨_,e,rfl⟩ (fun s'=>typeIs_int s' k t) noFill_list_mul F.fills_int_mul F.slot_int_rmul repeat_list F.slot_int_index.lookup
  (call_meets F.slot_int_rmul (typeIs_int s k t) F.entry_int_rmul (F.args_int_rmul_2 _ _) (int___rmul___int_list k t l its.toArray n)
   ⟨e,rfl,⟨_,e,rfl⟩,call_meets F.slot_list_mul ⟨_,e,rfl⟩ F.entry_list_mul (F.args_list_mul_2 _ _) (AutoListH.list___mul___list_int_3 l its.toArray n k t hfit hcap hlong) ⟨e,?_⟩⟩)
 rw [hnew];exact ⟨.ref _,_,I.lnew (t':=s.toks) (r.rep k.toNat) (by rw [zfV,Nat.mul_comm];exact hz),rfl,q _ I.fresh⟩
end
section
variable {prog : Program} {w : World} {A : Around} {E : Value → Shared → Prop} {s : Shared}
set_option maxRecDepth 100000 in
end
section
variable {X : Cx}
end
end L2
namespace L2
open PySem PySem.Spec PyProof.Rows
section
variable {κ : Type} [DecidableEq κ]
def qE (kvs:List (κ×V)) (k:κ):Option V:=(kvs.find? fun kv=>decide (kv.1=k)).map (·.2)
def vL (kvs:List (κ×V)) (k:κ) (v:V):List (κ×V) :=
 if (kvs.any fun kv=>decide (kv.1=k))=true then kvs.map (fun kv=>if kv.1=k then (kv.1,v) else kv) else kvs++[(k,v)]
theorem nP {p:κ×V} {r:List (κ×V)} {k:κ} (e:p.1=k):qE (p::r) k=some p.2:=by simp [qE,List.find?_cons,e]
theorem nO {p:κ×V} {r:List (κ×V)} {k:κ} (e:¬ p.1=k):qE (p::r) k=qE r k:=by simp [qE,List.find?_cons,e]
theorem zaF (k:κ):∀ kvs:List (κ×V),(kvs.any fun kv=>decide (kv.1=k))=(qE kvs k).isSome
 | []=>rfl
 |p::r=>by
  rw [List.any_cons]
  by_cases e:p.1=k
  .simp only [nP e,decide_eq_true e,Bool.true_or,Option.isSome_some]
  .rw [nO e,decide_eq_false e,Bool.false_or];exact zaF k r
theorem uW (kvs:List (κ×V)) (k:κ) (v:V):(vL kvs k v).length<=kvs.length+1:=by
 unfold vL
 split
 .rw [zzM];omega
 .rw [zzW,List.length_cons,List.length_nil];omega
theorem tD.isSome_eq {o:Option V} {u:Option Value} (r:tD o u):o.isSome=u.isSome:=by
 cases o with
 |none=>cases u with
  |none=>rfl
  |some _=>exact (show False from r).elim
 |some _=>cases u with
  |none=>exact (show False from r).elim
  |some _=>rfl
theorem tD.getD {o:Option V} {u:Option Value} {d:V} {d':Value} (r:tD o u) (rd:yW d d'):yW (o.getD d) (u.getD d'):=by
 cases o with
 |none=>cases u with
  |none=>exact rd
  |some _=>exact (show False from r).elim
 |some _=>cases u with
  |none=>exact (show False from r).elim
  |some _=>exact r
theorem KV.val {kvs:List (κ×V)} {vs:List (κ×Value)} (r:KV kvs vs) (k:κ):tD (qE kvs k) (valueAt vs k):=by
 unfold KV at r
 induction r with
 |nil=>exact True.intro
 | @cons p q ps qs h t ih =>
  obtain ⟨h1,h2⟩:=h
  by_cases e:p.1=k
  .have e':q.1=k:=h1.symm.trans e;have b:valueAt (q::qs) k=some q.2:=by simp [valueAt,List.find?_cons,e']
   rw [nP e,b];exact h2
  .have e':¬ q.1=k:=fun z=>e (h1.trans z);have b:valueAt (q::qs) k=valueAt qs k:=by simp [valueAt,List.find?_cons,e']
   rw [nO e,b];exact ih
theorem KV.any {kvs:List (κ×V)} {vs:List (κ×Value)} (r:KV kvs vs) (k:κ):(kvs.any fun kv=>decide (kv.1=k))=vs.any fun kv=>decide (kv.1=k):=by
 unfold KV at r
 induction r with
 |nil=>rfl
 |cons h t ih=>rw [List.any_cons,List.any_cons,ih,h.1]
theorem KV.repl {kvs:List (κ×V)} {vs:List (κ×Value)} (r:KV kvs vs) (k:κ) {y:V} {u:Value} (ry:yW y u) :
  KV (kvs.map fun kv=>if kv.1=k then (kv.1,y) else kv) (vs.map fun kv=>if kv.1=k then (kv.1,u) else kv):=by
 unfold KV at r ⊢
 induction r with
 |nil=>exact .nil
 | @cons p q ps qs h t ih =>
  rw [zzU,zzU];refine .cons ?_ ih;obtain ⟨h1,h2⟩:=h
  by_cases e:p.1=k
  .rw [if_pos e,if_pos (h1.symm.trans e)];exact ⟨h1,ry⟩
  .rw [if_neg e,if_neg (fun z=>e (h1.trans z))];exact ⟨h1,h2⟩
theorem KV.put {kvs:List (κ×V)} {vs:List (κ×Value)} (r:KV kvs vs) (k:κ) {y:V} {u:Value} (ry:yW y u):KV (vL kvs k y) (stored vs k u):=by
 unfold vL stored;rw [r.any k]
 by_cases e:(vs.any fun kv=>decide (kv.1=k))=true
 .rw [if_pos e,if_pos e];exact r.repl k ry
 .rw [if_neg e,if_neg e];exact Paired.snoc r ⟨rfl,ry⟩
theorem KV.length {kvs:List (κ×V)} {vs:List (κ×Value)} (r:KV kvs vs):kvs.length=vs.length:=Paired.length r
end
theorem hU {P:Program} {w:World} {k:yE} {u:Value} (r:yW (kV k) u):(xZ P w).is k u=true:=by
 cases k with
 |inl i=>obtain ⟨t,e⟩:=(show ∃ t,u=Value.int i t from r);subst e;exact zap P w i t
 |inr x=>obtain ⟨t,e⟩:=(show ∃ t,u=Value.str x t from r);subst e;exact zao P w x t
theorem dJ {P:Program} {w:World}:∀ {ks:List yE} {us:List Value},yX (ks.map kV) us->ItemsAre (xZ P w) ks us
 | [],_,r=>by rw [zzV] at r;cases r;exact .nil
 |k::ks,_,r=>by
  rw [zzU] at r
  cases r with
  |cons h t=>exact .cons (hU h) (dJ t)
abbrev KT (H:Hp):List (List yE×V)->List (List yE×Addr×Value)->Prop:=Paired fun p q=>p.1=q.1/\H q.2.1=some (.tup (p.1.map kV))/\yW p.2 q.2.2
theorem KT.val {H:Hp} {kvs:List (List yE×V)} {xs:List (List yE×Addr×Value)} (r:KT H kvs xs) (k:List yE):tD (qE kvs k) ((atKey xs k).map (·.2)):=by
 induction r with
 |nil=>exact True.intro
 | @cons p q ps qs h t ih =>
  obtain ⟨h1,_,h2⟩:=h
  by_cases e:p.1=k
  .have e':q.1=k:=h1.symm.trans e;have b:atKey (q::qs) k=some q.2:=by simp [atKey,List.find?_cons,e']
   rw [nP e,b];exact h2
  .have e':¬ q.1=k:=fun z=>e (h1.trans z);have b:atKey (q::qs) k=atKey qs k:=by simp [atKey,List.find?_cons,e']
   rw [nO e,b];exact ih
theorem KT.repl {H:Hp} {kvs:List (List yE×V)} {xs:List (List yE×Addr×Value)} (r:KT H kvs xs) (k:List yE) {y:V} {u:Value} (ry:yW y u) :
  KT H (kvs.map fun kv=>if kv.1=k then (kv.1,y) else kv) (xs.map (putAt k u)):=by
 induction r with
 |nil=>exact .nil
 | @cons p q ps qs h t ih =>
  rw [zzU,zzU];refine .cons ?_ ih;obtain ⟨h1,h2,h3⟩:=h;unfold putAt
  by_cases e:p.1=k
  .rw [if_pos e,if_pos (h1.symm.trans e)];exact ⟨h1,h2,ry⟩
  .rw [if_neg e,if_neg (fun z=>e (h1.trans z))];exact ⟨h1,h2,h3⟩
theorem KT.put {H:Hp} {kvs:List (List yE×V)} {xs:List (List yE×Addr×Value)} (r:KT H kvs xs) (k:List yE) {b:Addr} {y:V} {u:Value} (hb:H b=some (.tup (k.map kV))) (ry:yW y u) :
  KT H (vL kvs k y) (storedH xs k b u):=by
 have e:(kvs.any fun kv=>decide (kv.1=k))=(atKey xs k).isSome:=by
  rw [zaF,(r.val k).isSome_eq,Option.isSome_map]
 unfold vL storedH;rw [e]
 by_cases q:(atKey xs k).isSome=true
 .rw [if_pos q,if_pos q];exact r.repl k ry
 .rw [if_neg q,if_neg q];exact Paired.snoc r ⟨rfl,hb,ry⟩
theorem KT.keeps {H H':Hp} {kvs:List (List yE×V)} {xs:List (List yE×Addr×Value)} (r:KT H kvs xs) (ht:∀ b ys,H b=some (.tup ys)->H' b=some (.tup ys)):KT H' kvs xs :=
 Paired.mapP r fun _ _ z=>⟨z.1,ht _ _ z.2.1,z.2.2⟩
section
variable {P : Program} {w : World} {H : Hp} {h : Heap} {a : Addr}
theorem zha {u:HO} (ok:uH P w H h) (e:Rd H a u):xK P w H h a u:=e.ok ok
theorem pO {kvs:List (yE×V)} (ok:uH P w H h) (e:Rd H a (.dK kvs)):kvs.length<=sizeLine/\(a==sysModules)=false/\∃ vs,KV kvs vs/\h.DictOf (xZ P w) a vs :=
 show xK P w H h a (.dK kvs) from zha ok e
theorem zim {kvs:List (yE×V)} (ok:uH P w H h) (e:H a=some (.dK kvs)):kvs.length<=sizeLine/\(a==sysModules)=false/\∃ vs,KV kvs vs/\h.DictOf (xZ P w) a vs:=pO ok (.inl e)
theorem rL {ks:List yE} (ok:uH P w H h) (e:H a=some (.tup (ks.map kV))):(tupleKind (xZ P w)).is h ks a:=by
 obtain ⟨_,its,r,o,h1,h2,n,h3⟩:=(show xK P w H h a (.tup (ks.map kV)) from ok a _ e);exact ⟨o,its.toArray,n,h1,h2,h3,by simpa using dJ r⟩
theorem cV {kvs:List (List yE×V)} (ok:uH P w H h) (e:Rd H a (.dT kvs)):kvs.length<=sizeLine/\(a==sysModules)=false /\
  ∃ xs,KT H kvs xs/\h.DictOfH (tupleKind (xZ P w)) a xs:=by
 obtain ⟨z,y,xs,r,o,es,ep,h1,h2,h3,h4,h5⟩:=(show xK P w H h a (.dT kvs) from zha ok e);refine ⟨z,y,xs,r,o,es,ep,h1,h2,h3,h4,fun x hx=>?_,h5⟩
 have all:∀ {l:List (List yE×V)} {m:List (List yE×Addr×Value)},KT H l m->∀ x∈m,(tupleKind (xZ P w)).is h x.1 x.2.1:=by
  intro l m q
  induction q with
  |nil=>intro x hx;exact nomatch hx
  | @cons p q ps qs hq t ih =>
   intro x hx;rcases List.mem_cons.mp hx with e|hx
   .subst e;exact rL ok (by rw [← hq.1];exact hq.2.1)
   .exact ih x hx
 exact all r x hx
theorem dt_of {kvs:List (List yE×V)} (ok:uH P w H h) (e:H a=some (.dT kvs)):kvs.length<=sizeLine/\(a==sysModules)=false /\
  ∃ xs,KT H kvs xs/\h.DictOfH (tupleKind (xZ P w)) a xs:=cV ok (.inl e)
end
def DGet (H:Hp) (a:Addr) (y:V) (r:Option V):Prop :=
 (∃ kvs k,Rd H a (.dK kvs)/\y=kV k/\r=qE kvs k)\/∃ kvs k b,Rd H a (.dT kvs)/\y=.ref b/\H b=some (.tup (k.map kV))/\r=qE kvs k
def DPut (H:Hp) (a:Addr) (y v:V) (H':Hp):Prop :=
 (∃ kvs k,H a=some (.dK kvs)/\y=kV k/\kvs.length<sizeLine/\H'=xE H a (.dK (vL kvs k v))) \/
 ∃ kvs k b,H a=some (.dT kvs)/\y=.ref b/\H b=some (.tup (k.map kV))/\kvs.length<sizeLine/\H'=xE H a (.dT (vL kvs k v))
section
variable {X : Cx} {pins : List (Addr × Obj)} {σ : St} {H : Hp} {s : Shared} {a : Addr} {y v : V} {u r : Value} {o : Option V} {A : Around} {E : Value → Shared → Prop}
theorem Inv.big (I:Inv X pins σ H s):sysModules<s.heap.objs.size:=by
 have h:mainGlobals<s.heap.objs.size:=(I.mod.glob.keeps I.bk).lt;exact Nat.lt_trans (by decide) h
theorem zc5 {Q:Value->Shared->Prop} (hu:A.units+1<cLine) (I:Inv X pins σ H s) (g:DGet H a y (some v)) (ry:yW y u) (h:∀ w' s',Inv X pins σ H s'->yW v w'->Q w' s') :
  wpAny (model X.prog X.w) A (getItem (.ref a) u) Q E s:=by
 rcases g with ⟨kvs,k,e,ey,l⟩|⟨kvs,k,b,e,ey,eb,l⟩
 .subst ey;obtain ⟨z,hd,vs,rel,dd⟩:=pO I.hok e;obtain ⟨w',hw,rw'⟩:=tD.some_of (v:=v) (o:=valueAt vs k) (by rw [l];exact rel.val k);exact wpAny_getItem_of (hU ry) dd.mapOf hw (h w' _ (I.tok _) rw')
 .subst ey;cases (show u=Value.ref b from ry);obtain ⟨z,hd,xs,rel,dd⟩:=cV I.hok e;obtain ⟨w',hw,rw'⟩:=tD.some_of (v:=v) (o:=(atKey xs k).map (·.2)) (by rw [l];exact rel.val k);obtain ⟨p,hp,hp2⟩:=Option.map_eq_some_iff.mp hw;refine wpAny_getItem_heap (tupleKind_room_in1 hu) (rL I.hok eb) dd hp ?_;rw [hp2];exact h w' _ (I.tok _) rw'
theorem d_in {Q:Value->Shared->Prop} (hu:A.units+1<cLine) (I:Inv X pins σ H s) (g:DGet H a y o) (ry:yW y u) (h:∀ s',Inv X pins σ H s'->Q (.bool o.isSome) s') :
  wpAny (model X.prog X.w) A (compareOp .In u (.ref a)) Q E s:=by
 rcases g with ⟨kvs,k,e,ey,l⟩|⟨kvs,k,b,e,ey,eb,l⟩
 .subst ey;obtain ⟨z,hd,vs,rel,dd⟩:=pO I.hok e;refine wpAny_in_of (hU ry) hd dd.mapOf ?_;rw [← (rel.val k).isSome_eq,← l];exact h _ (I.tok _)
 .subst ey;cases (show u=Value.ref b from ry);obtain ⟨z,hd,xs,rel,dd⟩:=cV I.hok e;refine wpAny_in_heap (tupleKind_room_in1 hu) (rL I.hok eb) hd dd ?_;have q:=(rel.val k).isSome_eq;rw [Option.isSome_map] at q;rw [← q,← l];exact h _ (I.tok _)
theorem zgx {Q:Value->Shared->Prop} (hu:A.units+1<cLine) (I:Inv X pins σ H s) (g:DGet H a y o) (ry:yW y u) (h:∀ s',Inv X pins σ H s'->Q (.bool (!o.isSome)) s') :
  wpAny (model X.prog X.w) A (compareOp .NotIn u (.ref a)) Q E s:=by
 rcases g with ⟨kvs,k,e,ey,l⟩|⟨kvs,k,b,e,ey,eb,l⟩
 .subst ey;obtain ⟨z,hd,vs,rel,dd⟩:=pO I.hok e;refine wpAny_notIn_of (hU ry) hd dd.mapOf ?_;rw [← (rel.val k).isSome_eq,← l];exact h _ (I.tok _)
 .subst ey;cases (show u=Value.ref b from ry);obtain ⟨z,hd,xs,rel,dd⟩:=cV I.hok e;refine wpAny_notIn_heap (tupleKind_room_in1 hu) (rL I.hok eb) hd dd ?_;have q:=(rel.val k).isSome_eq;rw [Option.isSome_map] at q;rw [← q,← l];exact h _ (I.tok _)
theorem bC {h':Heap} {t':Nat} {ob:HO} (I:Inv X pins σ H s) (mu:Mut (H a)) (hs:Heap.SameBut a s.heap h') (he:∃ q,h'.get? a=some q) (new:xK X.prog X.w (xE H a ob) h' a ob) :
  Inv X pins σ (xE H a ob) { s with heap:=h',toks:=t' } :=
 I.write (x:=a) (e:=a) mu (.inl rfl) (fun b q hb z=>(hs.2 b hb).trans z) he new
theorem zfh {P:Program} {w:World} {H':Hp} {h':Heap} {kvs:List (yE×V)} {vs:List (yE×Value)} (z:kvs.length<=sizeLine) (hd:(a==sysModules)=false) (rel:KV kvs vs) (dd:h'.DictOf (xZ P w) a vs) :
  xK P w H' h' a (.dK kvs):=⟨z,hd,vs,rel,dd⟩
theorem zc4 {H':Hp} {Q:Unit->Shared->Prop} (hu:A.units+1<cLine) (I:Inv X pins σ H s) (g:DPut H a y v H') (ry:yW y u) (rv:yW v r) (h:∀ s',Inv X pins σ H' s'->Q () s') :
  wpAny (model X.prog X.w) A (setItem (.ref a) u r) Q E s:=by
 rcases g with ⟨kvs,k,e,ey,l,eH⟩|⟨kvs,k,b,e,ey,eb,l,eH⟩
 .subst ey eH;obtain ⟨z,hd,vs,rel,dd⟩:=zim I.hok e;have hz:vs.length<=sizeLine:=by rw [← rel.length];exact z
  have hl:(vL kvs k v).length<=sizeLine:=by have:=uW kvs k v;omega
  refine wpAny_setItem_pairs (hsz:=hz) (hU ry) dd fun h' dd' hs=>h _ ?_;have he:∃ q,h'.get? a=some q:=let ⟨q,_,_,hq,_⟩:=dd';⟨q,hq⟩;exact bC I (by rw [e];exact True.intro) hs he (zfh hl hd (rel.put k rv) dd')
 .subst ey eH;cases (show u=Value.ref b from ry);obtain ⟨z,hd,xs,rel,dd⟩:=dt_of I.hok e;have hz:xs.length<=sizeLine:=by rw [← Paired.length rel];exact z
  have hl:(vL kvs k v).length<=sizeLine:=by have:=uW kvs k v;omega
  refine wpAny_setItem_heap (hsz:=hz) (tupleKind_room_in1 hu) (rL I.hok eb) dd fun h' dd' hs=>h _ ?_;obtain ⟨q,es,ep,hq,h2,h3,h4,_,h5⟩:=dd';refine bC I (by rw [e];exact True.intro) hs ⟨q,hq⟩ ⟨hl,hd,_,(rel.put k eb rv).keeps fun c ys ec=>?_,q,es,ep,hq,h2,h3,h4,h5⟩;rw [yU (ne_of ec e (fun z=>nomatch z))];exact ec
end
section
variable {X : Cx} {pins : List (Addr × Obj)} {σ : St} {H : Hp} {s : Shared} {a : Addr} {kvs : List (yE × V)} {k : yE} {u : Value} {A : Around} {E : Value → Shared → Prop}
theorem d_len {Q:Value->Shared->Prop} (I:Inv X pins σ H s) (e:Rd H a (.dK kvs)) (h:∀ t s',Inv X pins σ H s'->Q (.int kvs.length t) s'):wpAny (model X.prog X.w) A (call (.builtin "len") [.ref a]) Q E s:=by
 obtain ⟨z,hd,vs,rel,dd⟩:=pO I.hok e;refine call_len_dict hd dd (by rw [← rel.length];rw [sizeLine_eq] at z;omega) ?_;rw [← rel.length];exact h _ _ (I.tok _)
end
section
variable {X : Cx} {o i e value : Expr} {pos pos' tpos : Pos} {td ty tv : TE}
end
theorem zeC {P:Program} {w:World} {H:Hp} (h:Heap) (hb:sysModules<h.objs.size):xK P w H (h.push { cls:=.type "dict", data:=.dict #[] }) h.objs.size (.dK []) :=
 ⟨Nat.zero_le _,beq_eq_false_iff_ne.mpr (Ne.symm (Nat.ne_of_lt hb)),[],.nil,Heap.DictOf.new h⟩
section
variable {X : Cx} {pos : Pos}
end
def cB:List (TE×TE)->St->Hp->(List (V×V)->Hp->Prop)->Prop
 | [],_,H,Q=>Q [] H
 | (tk,tv)::r,σ,H,Q=>tk σ H fun x H1=>tv σ H1 fun y H2=>cB r σ H2 fun ps H3=>Q ((x,y)::ps) H3
abbrev VV:List (V×V)->List (Value×Value)->Prop:=Paired fun p q=>yW p.1 q.1/\yW p.2 q.2
def PPs (X:Cx) (pos:Pos) (keys:List (Option Expr)) (values:List Expr) (trs:List (TE×TE)):Prop :=
 ∀ (pins:List (Addr×Obj)) (s:Shared) (σ:St) (H:Hp) (Q:List (V×V)->Hp->Prop),Inv X pins σ H s->cB trs σ H Q ->
  wpAny (model X.prog X.w) X.A (evalPairs (pairTrees keys values X.env pos)) (fun vs s'=>∃ ps H',Inv X pins σ H' s'/\VV ps vs/\Q ps H') X.xe s
theorem zfE {X:Cx} {pos:Pos}:PPs X pos [] [] []:=fun pins s σ H Q I h=>pairTrees_nil_walk ⟨[],H,I,.nil,h⟩
theorem zdZ {X:Cx} {pos:Pos} {k v:Expr} {ks:List (Option Expr)} {vs:List Expr} {tk tv:TE} {trs:List (TE×TE)} (hk:PE X k tk) (hv:PE X v tv) (hr:PPs X pos ks vs trs) :
  PPs X pos (some k::ks) (v::vs) ((tk,tv)::trs):=fun pins s σ H Q I h =>
 pairTrees_cons_walk (yB (hk pins s σ H _ I h) fun u s1 ⟨x,H1,I1,rx,q1⟩=>yB (hv pins s1 σ H1 _ I1 q1) fun w2 s2 ⟨y,H2,I2,ry,q2⟩ =>
  yB (hr pins s2 σ H2 _ I2 q2) fun ws s3 ⟨ps,H3,I3,rel,q3⟩=>⟨(x,y)::ps,H3,I3,.cons ⟨rx,ry⟩ rel,q3⟩)
def rQ (kvs jM:List (yE×V)):List (yE×V):=jM.foldl (fun acc kv=>vL acc kv.1 kv.2) kvs
theorem KV.merge:∀ {jM:List (yE×V)} {rs:List (yE×Value)} {kvs:List (yE×V)} {vs:List (yE×Value)},KV jM rs->KV kvs vs->KV (rQ kvs jM) (merged vs rs):=by
 intro jM rs kvs vs r;unfold KV at r
 induction r generalizing kvs vs with
 |nil=>intro q;exact q
 | @cons p q ps qs h t ih =>
  intro r0
  have e:KV (vL kvs p.1 p.2) (stored vs q.1 q.2):=by
   have:=r0.put p.1 h.2;rw [← h.1];exact this
  exact ih e
theorem uA:∀ (jM kvs:List (yE×V)),(rQ kvs jM).length<=kvs.length+jM.length
 | [],kvs=>by show kvs.length<=kvs.length+0;omega
 |p::r,kvs=>by
  have h1:=uA r (vL kvs p.1 p.2);have h2:=uW kvs p.1 p.2;show (rQ (vL kvs p.1 p.2) r).length<=_;rw [List.length_cons];omega
theorem gT {P:Program} {w:World}:∀ {kvs:List (yE×V)} {ws:List (Value×Value)},VV (kvs.map fun kv=>(kV kv.1,kv.2)) ws->∃ rs,Carries (xZ P w) ws rs/\KV kvs rs
 | [],_,r=>by rw [zzV] at r;cases r;exact ⟨[],True.intro,.nil⟩
 |p::kvs,_,r=>by
  rw [zzU] at r
  cases r with
  | @cons a b as bs h t =>
   obtain ⟨rs,c,q⟩:=gT (P:=P) (w:=w) t;obtain ⟨b1,b2⟩:=b;exact ⟨(p.1,b2)::rs,⟨hU h.1,rfl,c⟩,.cons ⟨rfl,h.2⟩ q⟩
def tDisp (trs:List (TE×TE)):TE:=fun σ H Q=>∀ p,H p=none->cB trs σ (xE H p (.dK [])) fun ps H2=>H2 p=some (.dK [])/\∃ kvs:List (yE×V),ps=kvs.map (fun kv=>(kV kv.1,kv.2))/\kvs.length<=15/\Q (.ref p) (xE H2 p (.dK (rQ [] kvs)))
theorem zfJ {X:Cx} {pos:Pos} {keys:List (Option Expr)} {values:List Expr} {trs:List (TE×TE)} (h:PPs X pos keys values trs) (hall:keys.all (·.isSome)=true) (hl:keys.length=values.length) (h0:keys≠[])
  (h15:keys.length<=15):PE X (.Dict keys values pos) (tDisp trs):=by
 intro pins s σ H Q I q;have hn:=I.hok.fresh (zzR s.heap.objs.size);have I1:=I.laid (a:=s.heap.objs.size) (o:=.dK []) (h':=s.heap.push { cls:=.type "dict", data:=.dict #[] }) (t':=s.toks) (fun _ _ q=>Heap.get?_push_of_some _ q) (zzR _) (zeC s.heap I.big);refine wpAny_Dict_walk (knd:=xZ X.prog X.w) hall hl h0 h15 (yB (h pins _ σ _ _ I1 (q _ hn)) fun ws s2 ⟨ps,H2,I2,rel,e,kvs,ep,lk,q2⟩=>?_);subst ep;obtain ⟨rs,c,rk⟩:=gT (P:=X.prog) (w:=X.w) rel;obtain ⟨z,hd,vs0,r0,dd⟩:=zim I2.hok e;cases r0;refine ⟨rs,c,dd,fun h' dd' hs=>⟨.ref s.heap.objs.size,_,?_,rfl,q2⟩⟩
 have hz:(rQ [] kvs).length<=sizeLine:=by
  have h1:=uA kvs [];rw [List.length_nil] at h1;rw [sizeLine_eq];omega
 have he:∃ q,h'.get? s.heap.objs.size=some q:=let ⟨q,_,_,hq,_⟩:=dd';⟨q,hq⟩;exact bC I2 (by rw [e];exact True.intro) hs he (zfh hz hd (rk.merge .nil) dd')
def IsD (H:Hp) (a:Addr):Prop:=(∃ kvs,Rd H a (.dK kvs))\/∃ kvs,Rd H a (.dT kvs)
theorem zid {X:Cx} {pins:List (Addr×Obj)} {σ:St} {H:Hp} {s:Shared} {a:Addr} (I:Inv X pins σ H s) (d:IsD H a) :
  s.TypeIs (.ref a) "dict" /\ (∀ b,Value.ref a=.ref b->∃ ob,s.heap.get? b=some ob/\ob.dict=none)/\(a==sysModules)=false:=by
 rcases d with ⟨kvs,e⟩|⟨kvs,e⟩
 .obtain ⟨_,hd,vs,_,dd⟩:=pO I.hok e;refine ⟨dd.typeIs,fun b q=>?_,hd⟩;cases q;obtain ⟨ob,_,_,h1,h2,_⟩:=dd;exact ⟨ob,h1,h2.2.1⟩
 .obtain ⟨_,hd,xs,_,dd⟩:=cV I.hok e;refine ⟨dd.typeIs,fun b q=>?_,hd⟩;cases q;obtain ⟨ob,_,_,h1,h2,_⟩:=dd;exact ⟨ob,h1,h2.2.1⟩
section
variable {X : Cx} {pins : List (Addr × Obj)} {σ : St} {H : Hp} {s : Shared} {a : Addr} {y d : V} {u r : Value} {o : Option V} {A : Around} {E : Value → Shared → Prop}
theorem zio {Q:Value->Shared->Prop} (hu:A.units+1<cLine) (I:Inv X pins σ H s) (g:DGet H a y o) (ry:yW y u) (rd:yW d r) (h:∀ w' s',Inv X pins σ H s'->yW (o.getD d) w'->Q w' s') :
  wpAny (model X.prog X.w) A (call (.builtin "dict.get") [.ref a,u,r]) Q E s:=by
 rcases g with ⟨kvs,k,e,ey,l⟩|⟨kvs,k,b,e,ey,eb,l⟩
 .subst ey;obtain ⟨z,hd,vs,rel,dd⟩:=pO I.hok e;refine call_meetsIn PySem.F.slot_dict_get dd.typeIs PySem.F.entry_dict_get (PySem.F.args_dict_get_3 _ _ _) (meets_dict_get_default (xZ X.prog X.w) a (hU ry) hd r) ⟨_,dd.mapOf,h _ _ (I.tok _) ?_⟩;rw [l];exact (rel.val k).getD rd
 .subst ey;cases (show u=Value.ref b from ry);obtain ⟨z,hd,xs,rel,dd⟩:=cV I.hok e;refine call_meetsIn PySem.F.slot_dict_get dd.typeIs PySem.F.entry_dict_get (PySem.F.args_dict_get_3 _ _ _) (meetsH_dict_get_default (tupleKind (xZ X.prog X.w)) a b hd r) ⟨tupleKind_room_in1 hu,k,xs,rL I.hok eb,dd,h _ _ (I.tok _) ?_⟩;rw [l];exact (rel.val k).getD rd
end
section
variable {X : Cx} {o e f : Expr} {apos cpos : Pos} {td ty tx : TE}
end
section
variable {X : Cx} {pins : List (Addr × Obj)} {σ : St} {H : Hp} {s : Shared} {a : Addr} {kvs : List (yE × V)} {A : Around} {E : Value → Shared → Prop}
end
section
variable {X : Cx} {pins : List (Addr × Obj)} {σ : St} {H : Hp} {s : Shared} {a : Addr} {y : V} {u : Value} {A : Around} {E : Value → Shared → Prop}
end
end L2
namespace Att
open PySem PySem.W PySem.Calls PyProof.Rows
theorem pF {P:Params} {h:Heap}:∀ (ns:List Int) (vs:List Value),WellAll P h vs (ns.map WData.int)->IntsAre vs ns:=by
 intro ns
 induction ns with
 |nil =>
  intro vs w;rw [zzV] at w;cases w;exact .nil
 |cons n ns ih =>
  intro vs w;rw [zzU] at w
  cases w with
  |cons a b =>
   cases a;exact .cons _ _ (ih _ b)
theorem zb2 {l:OpenLaw} {n:Nat} (hn:l.most=some n) {P:Params} {h:Heap} {args:List WData} {qW:List Value}
  (hpre:l.row.toRowW.claim.pre args=true) (hwl:WellAll P h qW args) :
  ∃ a vs ns,qW=[Value.ref a]/\args=[WData.list (ns.map WData.int)]/\h.get? a=some { cls:=.type "list", data:=.seq vs.toArray }/\IntsAre vs ns/\ns.length<=n:=by
 have hsh:WShape.hasAll [] args [.list .int]=true:=(pre_splitW hpre).1;have hc:l.pre.holds [] { args:=args }=true:=(pre_splitW hpre).2;obtain ⟨d,r,rfl,h1,h2⟩:=hasAllW_cons hsh;obtain rfl:=hasAllW_nil h2;obtain ⟨xs,rfl,h3⟩:=hasW_list h1;obtain ⟨ns,rfl⟩:=items_int h3
 have hlen:ns.length<=n:=by
  unfold OpenLaw.pre at hc
  have h4:(WTm.not (.lt (.lit (.int (n:Int))) (.len (.arg 0)))).holds [] { args:=[.list (ns.map .int)] }=true:=by
   have h4:=(holds_andW hc).1;rw [hn] at h4;exact h4
  have h5:=condW_of h4 (w_not (w_lt w_lit (w_len_list (w_arg rfl))));rw [zzM] at h5;refine Nat.le_of_not_lt fun q=>?_;have q':(n:Int)<((ns.length:Nat):Int):=by omega
  first
   | (rw [decide_eq_true q'] at h5;exact absurd h5 (by decide))
   | (simp at h5;omega)
 cases hwl with
 |cons w1 w2 =>
  cases w2
  cases w1 with
  |list ho hall=>exact ⟨_,_,ns,rfl,rfl,ho,pF ns _ hall,hlen⟩
theorem zb8 (l:OpenLaw) (args:List WData):l.row.toRowW.claim.post args (.bool true) args=true :=
 postW_of (r:=l.row.toRowW) (X:=(true==true))
  (show WShape.has [] (.bool true) .bool=true by first|rfl|decide|simp [WShape.has,WShape.arms,WShape.armsAll])
  (show (WTm.eq .res (.lit (.bool true))).value [] { args:=args,res:=some (.bool true),after:=args }=some (.bool (true==true)) from w_eq_bool (w_res rfl) w_lit) rfl
theorem attach_call {l:OpenLaw} {n:Nat} {q:Program} {loose:List Str} {XP:(Str->Option Value)->Heap->Prop} {YP:World->Heap->Prop} {d:DefRec}
  (hn:l.most=some n) (hdf:d.params.defaults=[])
  (call:∀ (w:World) (s₀ s₁:Shared) (mg mb:Str->Option Value) (fa:Addr) (o:Obj) (pm cd doc:Value) (a:Addr) (vs:List Value) (ns:List Int),
   Ground q loose [] XP w s₀ mg mb s₁.heap->YP w s₁.heap ->
   s₁.heap.get? fa=some o->o.data=.func (docDef d.name d.params d.body d.scope pm cd doc)->s₁.heap.CodeRec cd d.name->mg d.name=some (.ref fa) ->
   s₁.heap.get? a=some { cls:=.type "list", data:=.seq vs.toArray }->IntsAre vs ns->ns.length<=n->s₁.gens=#[] ->
   codeAny (model l.prog w) callerA (.call (.ref fa) ⟨[.ref a],[]⟩) (fun r s'=>r=.ok (.ret (.bool true))/\OldK s₁.heap s'.heap/\s'.os=s₁.os/\AllBare s'.gens) s₁) :
  WalkO q loose XP YP l.row.toRowW d [] (fun f vs=>PySem.call f vs):=by
 intro w s₀ s₁ mg mb G Y fa o pm cd doc dV kV ho hd hcd hD hmg hg args qW as hpre hlay hrd hwl hlo;obtain rfl:dV=.none:=Dflts.none hD hdf;obtain rfl:kV=.none:=Dflts.noKw hD;obtain ⟨a,vs,ns,rfl,rfl,hobj,hints,hlen⟩:=zb2 hn hpre hwl;refine enter_call (codeAny_mono (call w s₀ s₁ mg mb fa o pm cd doc a vs ns G Y ho (fd_plain hd) hcd hmg hobj hints hlen hg) fun r s' hq=>?_);obtain ⟨rfl,h2,h3,h4⟩:=hq;exact ⟨.inl ⟨.bool true,.bool true,[],rfl,fun _=>rfl,.bool true,zb8 l _,fun _=>⟨List.Pairwise.nil,fun _ hm=>(nomatch hm)⟩⟩,h2,h3,h4⟩
section
variable {prog : Program} {w : World} {A : Around} {E : Value → Shared → Prop} {s : Shared} {K : Frag}
end
end Att
namespace L2
open PySem PySem.Spec PyProof.Rows
theorem fM:∀ {vs:List Value} {ns:List Int},IntsAre vs ns->yX (ns.map V.int) vs
 |_,_,.nil=>.nil
 |_,_,.cons n t h=>.cons ⟨t,rfl⟩ (fM h)
def Only (H:Hp):Prop:=∀ b,H b=none\/∃ o xs,H b=some (.frz o (.lst xs))
theorem zej {P:Program} {w:World} {K:PySem.W.Frag} {mg mb:Str->Option Value} {CX:CXT} {k:Nat} {fa a:Addr} {fd:FuncData} {x:Str} {sp:Sp} {s₁:Shared} {vs:List Value} {ns:List Int}
  (KX:K.In s₁.heap) (hns:s₁.heap.Ns mainGlobals mg) (hb:s₁.heap.Ns builtinsNs mb) (hbb:∀ x:Str,x ≠ "__name__" -> mb x=bootBuiltins x) (hlim:s₁.heap.NoLimit) (hg:s₁.gens=#[])
  (ha:s₁.heap.get? a=some { cls:=.type "list", data:=.seq vs.toArray }) (hi:IntsAre vs ns) (hl:ns.length<=sizeLine) (hr:Room k callerA)
  (F:∀ base:Heap,K.In base->base.Ns mainGlobals mg->FnOk P w K mg base CX k fa fd [x] sp) (hbind:∀ (s:Shared) (u:Value),BindsTo s fd ⟨[u],[]⟩ [(x,u)])
  (hsp:∀ H:Hp,Only H->rF K H a (ns.map V.int)->sp [.ref a] H (fun v _=>v=.bl true) fun _ _ _=>False)
  (hCX:∀ H e s',CX [] H s₁ (fun _ _ _=>False) e s'->False) :
  codeAny (model P w) callerA (.call (.ref fa) ⟨[.ref a],[]⟩) (fun r s'=>r=.ok (.ret (.bool true))/\OldK s₁.heap s'.heap/\s'.os=s₁.os/\AllBare s'.gens) s₁:=by
 have rv:=fM hi;have lenV:=hi.length
 have core:∀ H:Hp,Only H->rF K H a (ns.map V.int)->uH P w H s₁.heap->(∀ b,H b≠none->b=a)->(H a≠none->K.lookup a=none) ->
   codeAny (model P w) callerA (.call (.ref fa) ⟨[.ref a],[]⟩) (fun r s'=>r=.ok (.ret (.bool true))/\OldK s₁.heap s'.heap/\s'.os=s₁.os/\AllBare s'.gens) s₁:=by
  intro H hO hS hok hA hK;have base_of:∀ {b:Addr} {o:Obj},s₁.heap.get? b=some o->H b=none->(bH s₁.heap H).get? b=some o:=fun e n=>zet e n
  have noA:∀ {b:Addr} {o:Obj} {es:Array DictEntry} {ep:Nat},s₁.heap.get? b=some o->o.data=.dict es ep->H b=none:=fun {b o es ep} e d=>by
   cases q:H b with
   |none=>rfl
   |some u =>
    have e':b=a:=hA b (by rw [q];simp);subst e';rw [ha] at e;cases e;have d':Data.seq vs.toArray _=Data.dict es ep:=d;cases d'
  have nsK:∀ {b:Addr} {m:Str->Option Value},s₁.heap.Ns b m->(bH s₁.heap H).Ns b m:=fun {b m} ⟨o,es,ep,e,d,r⟩=>⟨o,es,ep,base_of e (noA e d),d,r⟩
  have hKb:K.In (bH s₁.heap H):=fun b o e=>base_of (KX b o e) (by
   cases q:H b with
   |none=>rfl
   |some u =>
    have e':b=a:=hA b (by rw [q];simp);subst e';rw [hK (by rw [q];simp)] at e;cases e)
  have hM:Mod K mg (bH s₁.heap H):=⟨hKb,nsK hns,⟨mb,nsK hb,hbb⟩,let ⟨mc,h1,h2⟩:=hlim;⟨mc,nsK h1,h2⟩⟩;have e0:Env0 P w K mg (bH s₁.heap H) callerA [] s₁ H:=⟨rfl,hM,fun b o e=>zfR e,Nat.le_of_eq (zcL _ _),trivial,fun b hb=>absurd (show b∈([]:List Addr) from hb) (by simp),hok,.of_eq hg⟩;refine codeAny_mono ((F _ hKb (nsK hns)).run callerA [] s₁ H ⟨[.ref a],[]⟩ [.ref a] [.ref a] _ _ hr e0 (hbind s₁ (.ref a)) (.cons rfl .nil) (hsp H hO hS)) fun r s' h=>?_
  cases r with
  |error e=>exact (hCX H e s' h).elim
  |ok fl =>
   cases fl with
   |next=>exact False.elim h
   |brk=>exact False.elim h
   |cont=>exact False.elim h
   |ret u =>
    obtain ⟨v,H',os,bare,un,hok',r',q⟩:=h;have q':v=.bl true:=q;subst q';obtain rfl:u=Value.bool true:=r';refine ⟨rfl,OldK.of_keep fun b o e=>?_,os,bare⟩
    cases q:H b with
    |none=>exact un.keep b o e q (by intro z;exact absurd (show b∈([]:List Addr) from z) (by simp)) (by simp)
    |some u =>
     rcases hO b with z|⟨ob,xs,z⟩
     .rw [q] at z;cases z
     .have z2:=un.frzs b ob _ z;obtain ⟨e1,_⟩:=hok b _ z;obtain ⟨e2,_⟩:=hok' b _ z2;rw [e] at e1;cases e1;exact e2
 cases hk:K.lookup a with
 |some o =>
  have e:=KX a o hk;rw [ha] at e;cases e;refine core (fun _=>none) (fun _=>.inl rfl) (.inr ⟨_,vs.toArray,_,hk,rfl,rfl,rfl,by rw [zzS,lenV];exact hl,by simpa using rv⟩) (fun b u z=>by have z':(none:Option HO)=some u:=z;cases z') (fun b z=>absurd rfl z) fun z=>absurd rfl z
 |none =>
  refine core (fun b=>if b=a then some (.frz { cls:=.type "list", data:=.seq vs.toArray } (.lst (ns.map V.int))) else none) (fun b=>?_) (.inl (.inr ⟨{ cls:=.type "list", data:=.seq vs.toArray },if_pos rfl⟩)) (fun b u z=>?_) (fun b z=>?_) fun _=>hk
  .by_cases hb:b=a
   .exact .inr ⟨_,_,if_pos hb⟩
   .exact .inl (if_neg hb)
  .by_cases hb:b=a
   .have z':=(if_pos hb).symm.trans z;cases z';subst hb;exact ⟨ha,by rw [zzM];exact hl,vs,_,rv,ha⟩
   .have z':=(if_neg hb).symm.trans z;cases z'
  .by_cases hb:b=a
   .exact hb
   .exact absurd (if_neg hb) z
end L2
namespace L2
open PySem PySem.Spec PyProof.Rows
abbrev KOf {K:PySem.W.Frag} {h:Heap} (_:K.In h):PySem.W.Frag:=K
theorem walk_of {l:PySem.W.OpenLaw} {n k:Nat} {q:Program} {loose:List Str} {XP:(Str->Option Value)->Heap->Prop} {YP:World->Heap->Prop} {d:DefRec} {K:Params->PySem.W.Frag} {CX:World->CXT} {sp:World->Sp} {x:Str}
  (hn:l.most=some n) (hn2:n<=sizeLine) (hdf:d.params.defaults=[]) (hr:Room k callerA)
  (hY:∀ (w:World) (h:Heap),YP w h->(K w.params).In h)
  (F:∀ (w:World) (mg:Str->Option Value) (fa:Addr) (h:Heap),(K w.params).In h->h.Ns mainGlobals mg->mg d.name=some (.ref fa) ->
   ∃ fd:FuncData,(∀ (s:Shared) (u:Value),BindsTo s fd ⟨[u],[]⟩ [(x,u)]) /\
    ∀ base:Heap,(K w.params).In base->base.Ns mainGlobals mg->FnOk l.prog w (K w.params) mg base (CX w) k fa fd [x] (sp w))
  (hsp:∀ (w:World) (H:Hp) (a:Addr) (ns:List Int),ns.length<=n->Only H->rF (K w.params) H a (ns.map V.int)->sp w [.ref a] H (fun v _=>v=.bl true) fun _ _ _=>False)
  (hCX:∀ (w:World) (H:Hp) (s:Shared) (e:Value) (s':Shared),CX w [] H s (fun _ _ _=>False) e s'->False) :
  PySem.W.WalkO q loose XP YP l.row.toRowW d [] (fun f vs=>PySem.call f vs):=by
 refine Att.attach_call hn hdf fun w s₀ s₁ mg mb fa o pm cd doc a vs ns G Y ho hd hcd hmg hobj hints hlen hg=>?_;have KX:=hY w _ Y;obtain ⟨fd,hb,hF⟩:=F w mg fa _ KX G.T.g hmg;exact zej KX G.T.g G.T.b G.T.builtins G.T.nolimit hg hobj hints (Nat.le_trans hlen hn2) hr hF hb (fun H hO hS=>hsp w H a ns hlen hO hS) fun H e s'=>hCX w H s₁ e s'
end L2
/- THE LAST THEOREM (shape;LID,My.* are yours):
   My.Adr: a structure of the addresses that your layer names (classes,functions);My.Txt K t: a structure (Prop) of the equations over K;
   My.txt_mk:{K} {implicit addresses ..} (e1:nsIn K mainGlobals "law" = some (some (.ref f))) (e2:K.lookup f=some ⟨oc,od,.func (fnOf "law" "law" params body scope dV kV doc pm an cdv ct),sl⟩) (e3:codeIn K cdv "law" = true) ..:∃ t,My.Txt K t
set_option maxRecDepth 100000 in
set_option maxHeartbeats 0 in
theorem PySem.Challenge.cw_LID_holds : PySem.Challenge.rw_LID.Holds := by
 w_on;o_law;k_head;(case hw=>w_witness2)
 k_fill
 refine L2.walk_of (l:=PySem.Challenge.rw_LID) (n:=63) (k:=40) (x := "script") (CX:=fun w=>..) (sp:=fun _=>My.sp_law) rfl (by decide) rfl ⟨rfl,by decide,by decide⟩ (fun w h Y=>PySem.W.kIn_of Y) ?F ?S ?C
 case F =>
  intro w mg fa h KX G hmg
  have T:∃ t,My.Txt (L2.KOf KX) t:=by
   dsimp only [L2.KOf]                          -- K must stand as «<heap const> w.params» for k_is;refine' My.txt_mk ?e1 ?e2 ?e3 ..
   (case e1=>PySem.W.k_is)                    -- in the order: a name -> its address -> its object -> its parts
   (case e2=>PySem.W.k_is)
   ..
  obtain ⟨t,T⟩:=T;have e0:=hmg.symm.trans (PySem.W.mg_of KX G T.law);cases e0                                       -- fa is the law's own address;exact ⟨_,fun s u=>.of_eq rfl,fun base kb nb=>My.law_fn T kb nb⟩     -- if «.of_eq rfl» comes too early: refine' ⟨_,?b,fun base kb nb=>My.law_fn T kb nb⟩;exact fun s u=>.of_eq rfl
 case S=>exact fun w H a ns hl hO hS=>..
 case C=>exact ..
(the tactic k_is has no namespace: write k_is) -/
namespace L2
open PySem PySem.Spec PyProof.Rows
def yS (s:Stmt):Arguments:=match s with
 | .FunctionDef _ a _ _ _ _ _ _ _ _=>a
 |_=>{ posonlyargs:=[],args:=[],vararg:=none,kwonlyargs:=[],kw_defaults:=[],kwarg:=none,defaults:=[] }
def zF (s:Stmt):List Stmt:=match s with
 | .FunctionDef _ _ b _ _ _ _ _ _ _=>b
 |_=>[]
def zY (s:Stmt):Scope:=match s with
 | .FunctionDef _ _ _ _ _ _ sc _ _ _=>sc
 |_=>{ kind:=.function,names:=[],isGenerator:=false,isCoroutine:=false }
abbrev CX0:CXT:=fun _ _ _ _ _ _=>False
abbrev E0:XK:=fun _ _ _=>False
theorem zfN {X:Cx}:zba CX0 X E0:=fun _ _ _ _ _ _ _ h=>h.elim
section
variable {P : Program} {w : World} {K : PySem.W.Frag} {mg : Str → Option Value} {base : Heap}
end
section
variable {X : Cx}
end
section
variable {κ : Type} [DecidableEq κ]
end
end L2
namespace L3
open PySem PySem.Spec PyProof.Rows L2
inductive W where
 |non|bl (b:Bool)|int (i:Int)|str (x:Str)|ty (n:String)|ref (a:Addr)|tup (ws:List W)|lsf (ws:List W)
  |exc (C:Addr) (ns:List Str) (ws:List W)|dcf (ks:List Str) (ws:List W)
abbrev yM:=PySem.W.Frag
def KL (K:yM) (a:Addr) (xs:List V):Prop:=∃ (o:Obj) (its:Array Value) (n:Nat),K.lookup a=some o/\o.cls=.type "list" /\ o.dict=none/\o.data=.seq its n/\its.size<=sizeLine/\yX xs its.toList
def zgG:List DictEntry->List Str->List V->Prop
 | [],ks,vs=>ks=[]/\vs=[]
 |e::r,ks,vs=>∃ k t v ks' vs',ks=k::ks'/\vs=v::vs'/\e.key=.str k t/\yW v e.val/\zgG r ks' vs'
def KD (K:yM) (a:Addr) (ks:List Str) (vs:List V):Prop:=∃ (o:Obj) (es:Array DictEntry) (ep:Nat),K.lookup a=some o/\o.ExactDict/\o.data=.dict es ep/\es.size<=sizeLine/\(a==sysModules)=false/\zgG es.toList ks vs
def ExO (a C:Addr) (dx:Option Addr):Heap->Prop:=fun h=>∃ fs,h.get? a=some { cls:=.ref C,dict:=dx,data:=.fields fs }
def ExAt (H:Hp) (a C:Addr) (l:List (Str×V)):Prop:=(H a=some (.ext (ExO a C none))/\l=[])\/∃ dx,H a=some (.ext (ExO a C (some dx)))/\H dx=some (.xd l)
def isX:HO->Prop
 | .ext _=>True
 | .frz _ (.dK _)=>True
 | .xd _=>True
 |_=>False
mutual
def wJ (K:yM) (H:Hp):W->V->Prop
 | .non,v=>v=.non
 | .bl b,v=>v=.bl b
 | .int i,v=>v=.int i
 | .str x,v=>v=.str x
 | .ty n,v=>v=.ty n
 | .ref a,v=>v=.ref a
 | .tup ws,v=>∃ a vs,v=.ref a/\sZ K H a vs/\yY K H ws vs
 | .lsf ws,v=>∃ a vs,v=.ref a/\KL K a vs/\yY K H ws vs
 | .exc C ns ws,v=>∃ a vs,v=.ref a/\ExAt H a C (ns.zip vs)/\yY K H ws vs
 | .dcf ks ws,v=>∃ a vs,v=.ref a/\KD K a ks vs/\yY K H ws vs
def yY (K:yM) (H:Hp):List W->List V->Prop
 | [],vs=>vs=[]
 |w::ws,vs=>∃ v r,vs=v::r/\wJ K H w v/\yY K H ws r
end
def yF (K:yM) (H H':Hp):Prop:=(∀ a xs,sZ K H a xs->sZ K H' a xs)/\∀ a o,isX o->H a=some o->H' a=some o
theorem yF.refl {K:yM} {H:Hp}:yF K H H:=⟨fun _ _ h=>h,fun _ _ _ h=>h⟩
theorem yF.trans {K:yM} {H H1 H2:Hp} (a:yF K H H1) (b:yF K H1 H2):yF K H H2:=⟨fun x xs h=>b.1 x xs (a.1 x xs h),fun x o i h=>b.2 x o i (a.2 x o i h)⟩
theorem ExAt.mono {K:yM} {H H':Hp} (g:yF K H H') {a C:Addr} {l:List (Str×V)} (h:ExAt H a C l):ExAt H' a C l:=by
 rcases h with ⟨h,e⟩|⟨dx,h,h'⟩
 .exact .inl ⟨g.2 _ _ True.intro h,e⟩
 .exact .inr ⟨dx,g.2 _ _ True.intro h,g.2 _ _ True.intro h'⟩
section
variable {K : yM} {H H' : Hp}
mutual
theorem wJ.mono (g:yF K H H'):∀ {w:W} {v:V},wJ K H w v->wJ K H' w v
 | .non,_,h=>h
 | .bl _,_,h=>h
 | .int _,_,h=>h
 | .str _,_,h=>h
 | .ty _,_,h=>h
 | .ref _,_,h=>h
 | .tup _,_,⟨a,vs,e,s,r⟩=>⟨a,vs,e,g.1 a vs s,yY.mono g r⟩
 | .lsf _,_,⟨a,vs,e,s,r⟩=>⟨a,vs,e,s,yY.mono g r⟩
 | .exc _ _ _,_,⟨a,vs,e,s,r⟩=>⟨a,vs,e,s.mono g,yY.mono g r⟩
 | .dcf _ _,_,⟨a,vs,e,s,r⟩=>⟨a,vs,e,s,yY.mono g r⟩
theorem yY.mono (g:yF K H H'):∀ {ws:List W} {vs:List V},yY K H ws vs->yY K H' ws vs
 | [],_,h=>h
 |_::_,_,⟨v,r,e,h,t⟩=>⟨v,r,e,wJ.mono g h,yY.mono g t⟩
end
theorem yY.length:∀ {ws:List W} {vs:List V},yY K H ws vs->vs.length=ws.length
 | [],_,h=>by rw [show _=[] from h];rfl
 |_::_,_,⟨v,r,e,_,t⟩=>by rw [e,List.length_cons,List.length_cons,yY.length t]
theorem yY.append:∀ {ws:List W} {vs:List V} {ws':List W} {vs':List V},yY K H ws vs->yY K H ws' vs'->yY K H (ws++ws') (vs++vs')
 | [],_,_,_,h,h'=>by rw [show _=[] from h];exact h'
 |_::_,_,_,_,⟨v,r,e,h,t⟩,h'=>by rw [e];exact ⟨v,_,rfl,h,yY.append t h'⟩
theorem yY.get:∀ {ws:List W} {vs:List V} {i:Nat} {w:W},yY K H ws vs->ws[i]?=some w->∃ v,vs[i]?=some v/\wJ K H w v
 | [],_,_,_,_,e=>by simp at e
 |_::_,_,0,_,⟨v,r,e,h,t⟩,q=>by simp at q;subst q;subst e;exact ⟨v,rfl,h⟩
 |_::_,_,i+1,w,⟨v,r,e,h,t⟩,q=>by
  subst e;obtain ⟨u,h1,h2⟩:=yY.get (i:=i) (w:=w) t (by simpa using q);exact ⟨u,by simpa using h1,h2⟩
theorem yY.get':∀ {ws:List W} {vs:List V} {i:Nat} {v:V},yY K H ws vs->vs[i]?=some v->∃ w,ws[i]?=some w/\wJ K H w v
 | [],_,_,_,h,e=>by rw [show _=[] from h] at e;simp at e
 |_::_,_,0,_,⟨v,r,e,h,t⟩,q=>by subst e;simp at q;subst q;exact ⟨_,rfl,h⟩
 |_::_,_,i+1,w,⟨v,r,e,h,t⟩,q=>by
  subst e;obtain ⟨u,h1,h2⟩:=yY.get' (i:=i) (v:=w) t (by simpa using q);exact ⟨u,by simpa using h1,h2⟩
theorem yY.set {w:W} {v:V} (q:wJ K H w v):∀ {ws:List W} {vs:List V} (i:Nat),yY K H ws vs->yY K H (ws.set i w) (vs.set i v)
 | [],_,_,h=>by rw [show _=[] from h];rfl
 |_::_,_,0,⟨_,r,e,_,t⟩=>by rw [e];exact ⟨_,_,rfl,q,t⟩
 |_::_,_,i+1,⟨v,r,e,h,t⟩=>by rw [e];exact ⟨_,_,rfl,h,yY.set q i t⟩
theorem yY.take:∀ {ws:List W} {vs:List V} (n:Nat),yY K H ws vs->yY K H (ws.take n) (vs.take n)
 | [],_,_,h=>by rw [show _=[] from h];simp;rfl
 |_::_,_,0,_=>by simp;rfl
 |_::_,_,n+1,⟨v,r,e,h,t⟩=>by rw [e];exact ⟨_,_,rfl,h,yY.take n t⟩
theorem yY.drop:∀ {ws:List W} {vs:List V} (n:Nat),yY K H ws vs->yY K H (ws.drop n) (vs.drop n)
 | [],_,_,h=>by rw [show _=[] from h];simp;rfl
 |_::_,_,0,h=>h
 |_::_,_,n+1,⟨v,r,e,h,t⟩=>by rw [e];exact yY.drop n t
theorem yY.reverse:∀ {ws:List W} {vs:List V},yY K H ws vs->yY K H ws.reverse vs.reverse
 | [],_,h=>by rw [show _=[] from h];rfl
 |_::_,_,⟨v,r,e,h,t⟩=>by
  rw [e,List.reverse_cons,List.reverse_cons];exact yY.append (yY.reverse t) ⟨v,[],rfl,h,rfl⟩
theorem yY.dropLast {ws:List W} {vs:List V} (h:yY K H ws vs):yY K H ws.dropLast vs.dropLast:=by
 rw [List.dropLast_eq_take,List.dropLast_eq_take,h.length];exact h.take _
end
inductive O where
 |lst (ws:List W)
  |fix (ws:List W)
 |dic (kvs:List (yE×W))
 |ins (C:Addr) (fs:List (Str×W))
  |fzd (kvs:List (yE×W))
def isFz:O->Bool
 | .fzd _=>true
 |_=>false
abbrev Hw:=Addr->Option O
def put (G:Hw) (a:Addr) (o:O):Hw:=fun b=>if b=a then some o else G b
theorem zV {G:Hw} {a:Addr} {o:O}:put G a o a=some o:=by unfold put;rw [if_pos rfl]
theorem xR {G:Hw} {a b:Addr} {o:O} (h:b≠a):put G a o b=G b:=by unfold put;rw [if_neg h]
theorem dC {G:Hw} {a b:Addr} {o:O} (h:G a=some o) (h':G b=none):a≠b:=by
 intro e;subst e;rw [h] at h';cases h'
def yQ (K:yM) (H:Hp) {κ:Type}:List (κ×W)->List (κ×V)->Prop
 | [],l=>l=[]
 |p::r,l=>∃ v t,l=(p.1,v)::t/\wJ K H p.2 v/\yQ K H r t
def fN (K:yM) (H:Hp):O->HO->Prop
 | .lst ws,o=>∃ vs,o=.lst vs/\yY K H ws vs
 | .fix ws,o=>∃ vs ob,(o=.lst vs\/o=.frz ob (.lst vs))/\yY K H ws vs
 | .dic kvs,o=>∃ l,o=.dK l/\yQ K H kvs l
 | .ins C fs,o=>∃ dx l,o=.ins C dx l/\yQ K H fs l
 | .fzd kvs,o=>∃ ob l,o=.frz ob (.dK l)/\yQ K H kvs l
def xI (K:yM) (H:Hp) (G:Hw):Prop:=∀ a o,G a=some o->∃ u,H a=some u/\fN K H o u
theorem yQ.mono {K:yM} {H H':Hp} (g:yF K H H') {κ:Type}:∀ {l:List (κ×W)} {l':List (κ×V)},yQ K H l l'->yQ K H' l l'
 | [],_,h=>h
 |_::_,_,⟨v,t,e,h,r⟩=>⟨v,t,e,h.mono g,yQ.mono g r⟩
theorem fN.mono {K:yM} {H H':Hp} (g:yF K H H'):∀ {o:O} {u:HO},fN K H o u->fN K H' o u
 | .lst _,_,⟨vs,e,r⟩=>⟨vs,e,r.mono g⟩
 | .fix _,_,⟨vs,ob,e,r⟩=>⟨vs,ob,e,r.mono g⟩
 | .dic _,_,⟨l,e,r⟩=>⟨l,e,r.mono g⟩
 | .ins _ _,_,⟨dx,l,e,r⟩=>⟨dx,l,e,r.mono g⟩
 | .fzd _,_,⟨ob,l,e,r⟩=>⟨ob,l,e,r.mono g⟩
theorem fN.notX {K:yM} {H:Hp}:∀ {o:O} {u:HO},isFz o=false->fN K H o u->¬ isX u
 | .lst _,_,_,⟨vs,e,r⟩=>by subst e;exact id
 | .fix _,_,_,⟨vs,ob,e,r⟩=>by rcases e with e|e<;>subst e<;>exact id
 | .dic _,_,_,⟨l,e,r⟩=>by subst e;exact id
 | .ins _ _,_,_,⟨dx,l,e,r⟩=>by subst e;exact id
 | .fzd _,_,m,_=>nomatch m
theorem fN.notTup {K:yM} {H:Hp}:∀ {o:O} {u:HO},fN K H o u->(∀ xs,u≠.tup xs)/\∀ ob xs,u≠.frz ob (.tup xs)
 | .lst _,_,⟨vs,e,r⟩=>by subst e;exact ⟨(fun _ z=>nomatch z),(fun _ _ z=>nomatch z)⟩
 | .fix _,_,⟨vs,ob,e,r⟩=>by
  rcases e with e|e<;>subst e
  .exact ⟨(fun _ z=>nomatch z),(fun _ _ z=>nomatch z)⟩
  .exact ⟨(fun _ z=>nomatch z),(fun _ _ z=>nomatch z)⟩
 | .dic _,_,⟨l,e,r⟩=>by subst e;exact ⟨(fun _ z=>nomatch z),(fun _ _ z=>nomatch z)⟩
 | .ins _ _,_,⟨dx,l,e,r⟩=>by subst e;exact ⟨(fun _ z=>nomatch z),(fun _ _ z=>nomatch z)⟩
 | .fzd _,_,⟨ob,l,e,r⟩=>by subst e;exact ⟨(fun _ z=>nomatch z),(fun _ _ z=>nomatch z)⟩
section
variable {K : yM} {H H' : Hp} {G : Hw} {a : Addr}
theorem xI.free (h:xI K H G) (e:H a=none):G a=none:=by
 cases q:G a with
 |none=>rfl
 |some o =>
  obtain ⟨u,e',_⟩:=h a o q;rw [e] at e';cases e'
theorem za2 {u:HO} (h:∀ xs,¬ Rd H a (.tup xs)) (hx:∀ o,isX o->H a≠some o):yF K H (xE H a u):=⟨fun b xs s=>by
 rcases s with s|s
 .have hb:b≠a:=by rintro rfl;exact h xs s
  left
  rcases s with s|⟨o,s⟩
  .exact .inl (by rw [yU hb];exact s)
  .exact .inr ⟨o,by rw [yU hb];exact s⟩
 .exact .inr s,fun b o i s=>by
 have hb:b≠a:=by rintro rfl;exact hx o i s
 rw [yU hb];exact s⟩
theorem wL {u:HO} (h:H a=none):yF K H (xE H a u):=za2 (fun xs s=>by
 rcases s with s|⟨o,s⟩<;>(rw [h] at s;cases s)) (fun o _ s=>by rw [h] at s;cases s)
theorem xI.grow {o:O} {u:HO} (h:xI K H G) (e:G a=some o) (m:isFz o=false:=by rfl):yF K H (xE H a u):=by
 obtain ⟨u',e',r⟩:=h a o e;refine za2 (fun xs s=>?_) (fun o' i s=>?_)
 .rcases s with s|⟨ob,s⟩
  .rw [e'] at s;cases s;exact r.notTup.1 xs rfl
  .rw [e'] at s;cases s;exact r.notTup.2 ob xs rfl
 .rw [e'] at s;cases s;exact r.notX m i
theorem xI.new {o:O} {u:HO} (h:xI K H G) (e:H a=none) (r:fN K (xE H a u) o u):xI K (xE H a u) (put G a o):=fun b ob q=>by
 by_cases hb:b=a
 .subst hb;rw [zV] at q;cases q;exact ⟨u,wE,r⟩
 .rw [xR hb] at q;obtain ⟨u',e',r'⟩:=h b ob q;exact ⟨u',by rw [yU hb];exact e',r'.mono (wL e)⟩
theorem xI.tup {u:HO} (h:xI K H G) (e:H a=none):xI K (xE H a u) G:=fun b ob q=>by
 obtain ⟨u',e',r'⟩:=h b ob q;exact ⟨u',by rw [yU (yL e' e)];exact e',r'.mono (wL e)⟩
theorem xI.chg {o o':O} {u:HO} (h:xI K H G) (e:G a=some o') (r:fN K (xE H a u) o u) (m:isFz o'=false:=by rfl):xI K (xE H a u) (put G a o):=fun b ob q=>by
 by_cases hb:b=a
 .subst hb;rw [zV] at q;cases q;exact ⟨u,wE,r⟩
 .rw [xR hb] at q;obtain ⟨u',e',r'⟩:=h b ob q;exact ⟨u',by rw [yU hb];exact e',r'.mono (h.grow e m)⟩
theorem xI.lst {ws:List W} (h:xI K H G) (e:G a=some (.lst ws)):∃ vs,H a=some (.lst vs)/\yY K H ws vs:=by
 obtain ⟨u,e',vs,rfl,r⟩:=h a _ e;exact ⟨vs,e',r⟩
theorem xI.dic {kvs:List (yE×W)} (h:xI K H G) (e:G a=some (.dic kvs)):∃ l,H a=some (.dK l)/\yQ K H kvs l:=by
 obtain ⟨u,e',vs,rfl,r⟩:=h a _ e;exact ⟨vs,e',r⟩
theorem xI.ins {C:Addr} {fs:List (Str×W)} (h:xI K H G) (e:G a=some (.ins C fs)):∃ dx l,H a=some (.ins C dx l)/\yQ K H fs l:=by
 obtain ⟨u,e',dx,vs,rfl,r⟩:=h a _ e;exact ⟨dx,vs,e',r⟩
end
def yN (G:Hw) (a:Addr):Option (List W):=match G a with
 |some (.lst ws)=>some ws
 |some (.fix ws)=>some ws
 |_=>none
theorem xI.seq {K:yM} {H:Hp} {G:Hw} {a:Addr} {ws:List W} (h:xI K H G) (e:yN G a=some ws):∃ vs,rF K H a vs/\yY K H ws vs:=by
 unfold yN at e
 split at e
 .rename_i q;cases e;obtain ⟨vs,e',r⟩:=h.lst q;exact ⟨vs,.of e',r⟩
 .rename_i q;cases e;obtain ⟨u,e',vs,ob,z,r⟩:=h a _ q;refine ⟨vs,?_,r⟩;rcases z with rfl|rfl
  .exact .inl (.inl e')
  .exact .inl (.inr ⟨_,e'⟩)
 .cases e
abbrev jE:=List (Option W)
def yH (K:yM) (H:Hp) (σ:jE) (τ:L2.St):Prop:=σ.length=τ.length/\∀ (i:Nat) (w:W),σ[i]?=some (some w)->∃ v,τ[i]?=some (some v)/\wJ K H w v
theorem yH.mono {K:yM} {H H':Hp} (g:yF K H H') {σ:jE} {τ:L2.St} (h:yH K H σ τ):yH K H' σ τ :=
 ⟨h.1,fun i w e=>let ⟨v,e',r⟩:=h.2 i w e;⟨v,e',r.mono g⟩⟩
theorem yH.set {K:yM} {H:Hp} {σ:jE} {τ:L2.St} {w:W} {v:V} (h:yH K H σ τ) (r:wJ K H w v) (i:Nat):yH K H (σ.set i (some w)) (τ.set i (some v)):=by
 refine ⟨by simp [h.1],fun j w' e=>?_⟩;rw [List.getElem?_set] at e ⊢
 by_cases hj:i=j
 .subst hj;rw [if_pos rfl] at e ⊢
  by_cases hl:i<σ.length
  .rw [if_pos hl] at e;cases e;rw [if_pos (h.1▸hl)];exact ⟨v,rfl,r⟩
  .rw [if_neg hl] at e;cases e
 .rw [if_neg hj] at e ⊢;exact h.2 j w' e
abbrev Q3:=W->Hw->Prop
abbrev E3:=jE->Hw->Q3->Prop
abbrev T3:=jE->Hw->(Bool->Hw->Prop)->Prop
abbrev A3:=jE->Hw->(List W->Hw->Prop)->Prop
structure End3 where
 nx:jE->Hw->Prop
 rt:Q3
 bk:jE->Hw->Prop:=fun _ _=>False
 ct:jE->Hw->Prop:=fun _ _=>False
abbrev S3:=End3->jE->Hw->Prop
section
variable (K : yM)
def xY (t:E3):TE:=fun τ H Q=>∃ σ G,yH K H σ τ/\xI K H G/\t σ G fun w G'=>∀ v H',yF K H H'->wJ K H' w v->xI K H' G'->Q v H'
def qC (t:T3):TT:=fun τ H Q=>∃ σ G,yH K H σ τ/\xI K H G/\t σ G fun b G'=>∀ H',yF K H H'->xI K H' G'->Q b H'
def sL (t:A3):TA:=fun τ H Q=>∃ σ G,yH K H σ τ/\xI K H G/\t σ G fun ws G'=>∀ vs H',yF K H H'->yY K H' ws vs->xI K H' G'->Q vs H'
structure Fine (H:Hp) (D3:End3) (D:Ends):Prop where
 nx:∀ σ G τ H',yF K H H'->yH K H' σ τ->xI K H' G->D3.nx σ G->D.nx τ H'
 bk:∀ σ G τ H',yF K H H'->yH K H' σ τ->xI K H' G->D3.bk σ G->D.bk τ H'
 ct:∀ σ G τ H',yF K H H'->yH K H' σ τ->xI K H' G->D3.ct σ G->D.ct τ H'
 rt:∀ w G v H',yF K H H'->wJ K H' w v->xI K H' G->D3.rt w G->D.rt v H'
def lowS (t:S3):TS:=fun D τ H=>∃ σ G D3,yH K H σ τ/\xI K H G/\Fine K H D3 D/\t D3 σ G
end
theorem Fine.grow {K:yM} {H H':Hp} {D3:End3} {D:Ends} (f:Fine K H D3 D) (g:yF K H H'):Fine K H' D3 D :=
 ⟨fun σ G τ H2 g2=>f.nx σ G τ H2 (g.trans g2),fun σ G τ H2 g2=>f.bk σ G τ H2 (g.trans g2),fun σ G τ H2 g2=>f.ct σ G τ H2 (g.trans g2),fun w G v H2 g2=>f.rt w G v H2 (g.trans g2)⟩
def wA (t:E3):Prop:=∀ σ G (Q Q':Q3),(∀ w G',Q w G'->Q' w G')->t σ G Q->t σ G Q'
def uS (t:T3):Prop:=∀ σ G (Q Q':Bool->Hw->Prop),(∀ w G',Q w G'->Q' w G')->t σ G Q->t σ G Q'
def vN (t:A3):Prop:=∀ σ G (Q Q':List W->Hw->Prop),(∀ w G',Q w G'->Q' w G')->t σ G Q->t σ G Q'
section
variable {K : yM} {H : Hp} {σ : jE} {τ : L2.St} {G : Hw}
theorem xW {t:E3} {R:Q3} {S:VK} (m:wA t) (hs:yH K H σ τ) (ha:xI K H G) (h:t σ G R)
  (k:∀ w G1 v H1,yF K H H1->yH K H1 σ τ->wJ K H1 w v->xI K H1 G1->R w G1->S v H1):xY K t τ H S :=
 ⟨σ,G,hs,ha,m σ G _ _ (fun w G' r v H' g rp ab=>k w G' v H' g (hs.mono g) rp ab r) h⟩
theorem gP {t:T3} {R:Bool->Hw->Prop} {S:Bool->Hp->Prop} (m:uS t) (hs:yH K H σ τ) (ha:xI K H G) (h:t σ G R)
  (k:∀ b G1 H1,yF K H H1->yH K H1 σ τ->xI K H1 G1->R b G1->S b H1):qC K t τ H S :=
 ⟨σ,G,hs,ha,m σ G _ _ (fun w G' r H' g ab=>k w G' H' g (hs.mono g) ab r) h⟩
theorem gO {t:A3} {R:List W->Hw->Prop} {S:List V->Hp->Prop} (m:vN t) (hs:yH K H σ τ) (ha:xI K H G) (h:t σ G R)
  (k:∀ w G1 v H1,yF K H H1->yH K H1 σ τ->yY K H1 w v->xI K H1 G1->R w G1->S v H1):sL K t τ H S :=
 ⟨σ,G,hs,ha,m σ G _ _ (fun w G' r v H' g rp ab=>k w G' v H' g (hs.mono g) rp ab r) h⟩
end
end L3
namespace L2
section
variable {X : Cx} {e : PySem.Expr} {st : PySem.Stmt} {sts : List PySem.Stmt}
theorem PE.imp {t t':TE} (h:PE X e t) (k:∀ σ H Q,t' σ H Q->t σ H Q):PE X e t':=fun pins s σ H Q I q=>h pins s σ H Q I (k σ H Q q)
theorem PT.imp {t t':TT} (h:PT X e t) (k:∀ σ H Q,t' σ H Q->t σ H Q):PT X e t':=fun pins s σ H Q I q=>h pins s σ H Q I (k σ H Q q)
theorem PW.imp {t t':TT} (h:PW X e t) (k:∀ σ H Q,t' σ H Q->t σ H Q):PW X e t':=fun wh pins s σ H Q I q=>h wh pins s σ H Q I (k σ H Q q)
theorem PA.imp {es:List PySem.Expr} {t t':TA} (h:PA X es t) (k:∀ σ H Q,t' σ H Q->t σ H Q):PA X es t':=fun pos pins s σ H Q I q=>h pos pins s σ H Q I (k σ H Q q)
theorem PS.imp {t t':TS} (h:PS X st t) (k:∀ D σ H,t' D σ H->t D σ H):PS X st t':=fun pins s σ H D I q=>h pins s σ H D I (k D σ H q)
theorem PSs.imp {t t':TS} (h:PSs X sts t) (k:∀ D σ H,t' D σ H->t D σ H):PSs X sts t':=fun pins s σ H D I q=>h pins s σ H D I (k D σ H q)
end
end L2
set_option genInjectivity false
set_option genSizeOfSpec false
namespace L2
open PySem PySem.Spec PyProof.Rows PySem.Calls
def clo (env:Env):List (Str×NameKind)->List (Str×Addr)->List (Str×Addr)
 | [],acc=>acc
 | (n,k)::r,acc=>if (k==NameKind.free)=true then clo env r ((n,(env.cells.lookup n).getD 0)::acc) else clo env r acc
theorem zau (env:Env):∀ (l:List (Str×NameKind)) (acc:List (Str×Addr)) {x:Str} {c:Addr},(clo env l acc).lookup x=some c ->
  ((∃ k,(x,k)∈l/\k=.free)/\c=(env.cells.lookup x).getD 0)\/acc.lookup x=some c
 | [],acc,x,c,h=>.inr h
 | (n,k)::r,acc,x,c,h=>by
  unfold clo at h
  by_cases hk:(k==NameKind.free)=true
  .rw [if_pos hk] at h;rcases zau env r _ h with ⟨⟨k',m,e⟩,q⟩|h
   .exact .inl ⟨⟨k',List.mem_cons_of_mem _ m,e⟩,q⟩
   .rw [List.lookup_cons] at h
    by_cases hx:(x==n)=true
    .rw [hx] at h;have e:x=n:=eq_of_beq hx;subst e;exact .inl ⟨⟨k,zzT,eq_of_beq hk⟩,(Option.some.inj h).symm⟩
    .rw [Bool.not_eq_true] at hx;rw [hx] at h;exact .inr h
  .rw [if_neg hk] at h;rcases zau env r _ h with ⟨⟨k',m,e⟩,q⟩|h
   .exact .inl ⟨⟨k',List.mem_cons_of_mem _ m,e⟩,q⟩
   .exact .inr h
theorem zaw (env:Env):∀ (l:List (Str×NameKind)) (acc:List (Str×Addr)) {x:Str},(∃ c,acc.lookup x=some c)->∃ c,(clo env l acc).lookup x=some c
 | [],acc,x,h=>h
 | (n,k)::r,acc,x,h=>by
  unfold clo
  split
  .refine zaw env r _ ?_;rw [List.lookup_cons];cases x==n
   .exact h
   .exact ⟨_,rfl⟩
  .exact zaw env r _ h
theorem zav (env:Env):∀ (l:List (Str×NameKind)) (acc:List (Str×Addr)) {x:Str},(x,NameKind.free)∈l->∃ c,(clo env l acc).lookup x=some c
 | (n,k)::r,acc,x,h=>by
  unfold clo;rcases List.mem_cons.mp h with h|h
  .cases h;rw [if_pos (by decide)];refine zaw env r _ ?_;rw [List.lookup_cons,beq_self_eq_true];exact ⟨_,rfl⟩
  .split
   .exact zav env r _ h
   .exact zav env r _ h
theorem gU {env:Env} {scope:Scope} (h:∀ x,(x,NameKind.free)∈scope.names->∃ c,env.cells.lookup x=some c):closureFor scope env=pure (clo env scope.names []):=by
 simp only [closureFor]
 have key:∀ (l:List (Str×NameKind)) (acc:List (Str×Addr)),(∀ x,(x,NameKind.free)∈l->∃ c,env.cells.lookup x=some c) ->
   (forIn l acc fun x r=>match x with|(name,kind)=>if (kind==NameKind.free)=true then (do let a ← cellOf env name;pure (ForInStep.yield ((name,a)::r))) else pure (ForInStep.yield r):Sem (List (Str×Addr)))=pure (clo env l acc):=by
  intro l
  induction l with
  |nil=>intro acc _;rfl
  |cons p r ih =>
   intro acc hh;obtain ⟨n,k⟩:=p;rw [List.forIn_cons]
   by_cases hk:(k==NameKind.free)=true
   .have ek:k=.free:=eq_of_beq hk;obtain ⟨c,hc⟩:=hh n (by rw [ek];exact zzT);simp only [hk,if_true];have e1:cellOf env n=pure c:=by unfold cellOf;rw [hc]
    rw [e1];simp only [pure_bind];rw [ih _ fun x hx=>hh x (List.mem_cons_of_mem _ hx)]
    conv=>rhs;unfold clo
    rw [if_pos hk,hc]
    all_goals rfl
   .simp only [hk];rw [if_neg (by simp)];simp only [pure_bind];rw [ih _ fun x hx=>hh x (List.mem_cons_of_mem _ hx)]
    conv=>rhs;unfold clo
    rw [if_neg hk]
 have:=key scope.names [] h;simpa using this
theorem wM {env:Env}:∀ {names:List (Str×NameKind)} {x:Str} {k':NameKind},
  (names.map fun (n,k)=>if (k==NameKind.free&&env.scope.kind==.function&&env.kindOf n==some .cell) then (n,NameKind.cell) else (n,k)).lookup x=some k' ->
  ∃ k,names.lookup x=some k/\(k'=k\/(k=.free/\k'=.cell))
 | [],_,_,h=>by simp at h
 | (n,k)::r,x,k',h=>by
  rw [zzU] at h
  by_cases hc:(k==NameKind.free&&env.scope.kind==.function&&env.kindOf n==some .cell)=true
  .simp only [hc,if_true] at h;rw [List.lookup_cons] at h ⊢
   cases hx:x==n with
   |true =>
    rw [hx] at h;cases h;simp only [Bool.and_eq_true,beq_iff_eq] at hc;exact ⟨k,rfl,.inr ⟨hc.1.1,rfl⟩⟩
   |false=>rw [hx] at h;exact wM h
  .simp only [hc,if_false] at h;rw [if_neg (by simp)] at h;rw [List.lookup_cons] at h ⊢
   cases hx:x==n with
   |true=>rw [hx] at h;cases h;exact ⟨k,rfl,.inl rfl⟩
   |false=>rw [hx] at h;exact wM h
theorem qH {α:Type}:∀ {l:List (Str×α)} {x:Str} {v:α},l.lookup x=some v->(x,v)∈l
 | (n,k)::r,x,v,h=>by
  rw [List.lookup_cons] at h
  cases hx:x==n with
  |true=>rw [hx] at h;cases h;rw [eq_of_beq hx];exact zzT
  |false=>rw [hx] at h;exact List.mem_cons_of_mem _ (qH h)
theorem zax:∀ (l:List (Str×NameKind)) (n:Nat) (acc:List (Str×Addr)) {x:Str} {c:Addr},(cellsFrom n l acc).lookup x=some c->acc.lookup x=some c\/((x,NameKind.cell)∈l/\n<=c)
 | [],n,acc,x,c,h=>.inl h
 | (y,k)::r,n,acc,x,c,h=>by
  unfold cellsFrom at h
  split at h
  .rename_i hk;rcases zax r _ _ h with h|⟨h,q⟩
   .rw [List.lookup_cons] at h
    by_cases hx:(x==y)=true
    .rw [hx] at h;cases eq_of_beq hx;cases eq_of_beq hk;exact .inr ⟨zzT,Nat.le_of_eq (Option.some.inj h)⟩
    .rw [Bool.not_eq_true] at hx;rw [hx] at h;exact .inl h
   .exact .inr ⟨List.mem_cons_of_mem _ h,Nat.le_of_succ_le q⟩
  .rcases zax r _ _ h with h|⟨h,q⟩
   .exact .inl h
   .exact .inr ⟨List.mem_cons_of_mem _ h,q⟩
theorem za5:∀ (l:List (Str×NameKind)) (n:Nat) (acc:List (Str×Addr)) {x:Str},(∃ c,acc.lookup x=some c)->∃ c,(cellsFrom n l acc).lookup x=some c
 | [],n,acc,x,h=>h
 | (y,k)::r,n,acc,x,h=>by
  unfold cellsFrom
  split
  .refine za5 r _ _ ?_;rw [List.lookup_cons];cases x==y
   .exact h
   .exact ⟨_,rfl⟩
  .exact za5 r _ _ h
theorem zda:∀ (l:List (Str×NameKind)) (n:Nat) (acc:List (Str×Addr)) {x:Str},(x,NameKind.cell)∈l->∃ c,(cellsFrom n l acc).lookup x=some c
 | (y,k)::r,n,acc,x,h=>by
  unfold cellsFrom;rcases List.mem_cons.mp h with h|h
  .cases h;rw [if_pos (by decide)];refine za5 r _ _ ?_;rw [List.lookup_cons,beq_self_eq_true];exact ⟨_,rfl⟩
  .split
   .exact zda r _ _ h
   .exact zda r _ _ h
def Inj (n:Nat) (l:List (Str×Addr)):Prop:=(∀ x c,l.lookup x=some c->c<n)/\∀ x y c,l.lookup x=some c->l.lookup y=some c->x=y
theorem zc9:∀ (l:List (Str×NameKind)) (n:Nat) (acc:List (Str×Addr)),Inj n acc->∀ x y c,(cellsFrom n l acc).lookup x=some c->(cellsFrom n l acc).lookup y=some c->x=y
 | [],n,acc,h=>h.2
 | (z,k)::r,n,acc,h=>by
  unfold cellsFrom
  split
  .refine zc9 r (n+1) ((z,n)::acc) ⟨fun x c e=>?_,fun x y c e e'=>?_⟩
   .rw [List.lookup_cons] at e
    cases hx:x==z with
    |true=>rw [hx] at e;cases e;exact Nat.lt_succ_self _
    |false=>rw [hx] at e;exact Nat.lt_succ_of_lt (h.1 x c e)
   .rw [List.lookup_cons] at e e'
    cases hx:x==z with
    |true =>
     rw [hx] at e;cases e
     cases hy:y==z with
     |true=>rw [eq_of_beq hx,eq_of_beq hy]
     |false=>rw [hy] at e';exact absurd (h.1 y _ e') (Nat.lt_irrefl _)
    |false =>
     rw [hx] at e
     cases hy:y==z with
     |true=>rw [hy] at e';cases e';exact absurd (h.1 x _ e) (Nat.lt_irrefl _)
     |false=>rw [hy] at e';exact h.2 x y c e e'
  .exact zc9 r n acc h
theorem zay:∀ (l:List (Str×NameKind)) (h:Heap) (acc:List (Str×Addr)),(∀ x c,acc.lookup x=some c->∃ v,h.IsCell c v)->∀ x c,(cellsFrom h.objs.size l acc).lookup x=some c->∃ v,(pushCells h l).IsCell c v
 | [],h,acc,k=>k
 | (z,q)::r,h,acc,k=>by
  unfold cellsFrom pushCells
  split
  .have:=zay r (h.push { cls:=.type "cell", data:=.cell none }) ((z,h.objs.size)::acc) (fun x c e=>by
    rw [List.lookup_cons] at e
    cases hx:x==z with
    |true=>rw [hx] at e;cases e;exact ⟨_,_,Heap.get?_push_size _ rfl,rfl⟩
    |false =>
     rw [hx] at e;obtain ⟨v,o,ho,hd⟩:=k x c e;exact ⟨v,o,Heap.get?_push_of_some _ ho,hd⟩)
   rw [Heap.size_push] at this;exact this
  .exact zay r h acc k
theorem nfe {M:Model} {A:Around} {E:Value->Shared->Prop} {s:Shared} {sc:Scope} {gl:Addr} {cl:List (Str×Addr)} {qual:Str} {env:Env} {Q:Env->Shared->Prop}
  (hQ:∀ h',h'=pushCells (s.heap.push { cls:=.type "dict", data:=.dict #[] }) sc.names->h'.Ns s.heap.objs.size (fun _=>none)->(∀ b o,s.heap.get? b=some o->h'.get? b=some o) ->
   Q { scope:=sc,locals:=s.heap.objs.size,globals:=gl,cells:=cellsFrom (s.heap.objs.size+1) sc.names cl,qual:=qual,func:=none,code:=env.code,frame:=env.frame,builtins:=env.builtins } { s with heap:=h' }) :
  wpAny M A (newFunctionEnv sc gl cl [] qual none .none (some env)) Q E s:=by
 simp only [newFunctionEnv,Option.isSome_some,if_true];refine wpAny_bind (wpAny_alloc (wpAny_bind (wpAny_layCells _ (fun name kind cells=>by cases hkc:kind==NameKind.cell<;>simp [hkc]) _ _ _ _ ?_)));rw [show ({ s with heap:=s.heap.push { cls:=.type "dict", data:=.dict #[] } }:Shared).heap.objs.size=s.heap.objs.size+1 from Heap.size_push ..];rw [List.forIn_nil];refine wpAny_bind (wpAny_pure (wpAny_pure (hQ _ rfl ((Heap.Ns.new s.heap (.type "dict")).keeps (pushCells_keeps _ _)) fun b o e=>pushCells_keeps _ _ b o (Heap.get?_push_of_some _ e))))
end L2
namespace L2
open PySem PySem.Spec PyProof.Rows PySem.Calls
theorem zaa (elt target iter:Expr) (ifs:List Expr) (scope:Scope) (pos:Pos) (it acc:Value) (env:Env) :
  compTurn (.ListComp elt [⟨target,iter,ifs,0⟩] scope pos) 0 it acc env=(do
   standAt iter.pos
   match ← pyNext it with
   |none=>pure (.done .next)
   |some v =>
    letOwnedTupleGo target it v
    assign target env v
    let mut ok:=true
    for c in ifs do
     if ok then ok ← isTrue c env (eval c env)
    if ok then
     (do let _ ← call (.builtin "list.append") [acc,← eval elt env])
    again (.compLoop (.ListComp elt [⟨target,iter,ifs,0⟩] scope pos) 0 it acc env)):=by rfl
section
variable {prog : Program} {w : World} {A : Around} {R : Result → Shared → Prop} {s : Shared}
theorem zab {elt target iter:Expr} {ifs:List Expr} {scope:Scope} {pos:Pos} {it acc:Value} {env:Env} (I:Nat->Shared->Prop)
  (turn:∀ n s,I n s->wpAny (model prog w) A (pyNext it) (fun r s₁=>match r with
   |none=>R (.ok .next) s₁
   |some v=>wpAny (model prog w) A (letOwnedTupleGo target it v) (fun _ s₁=>wpAny (model prog w) A (assign target env v) (fun _ s₂ =>
     wpAny (model prog w) A (forIn ifs true fun c r=>if r=true then do let ok ← isTrue c env (eval c env);pure (ForInStep.yield ok) else pure (ForInStep.yield r)) (fun ok s₃ =>
      if ok=true then wpAny (model prog w) A (eval elt env) (fun x s₄ =>
       wpAny (model prog w) A (call (.builtin "list.append") [acc,x]) (fun _ s₅=>∃ m,m<n/\I m s₅) (fun _ _=>False) s₄) (fun _ _=>False) s₃
      else ∃ m,m<n/\I m s₃) (fun _ _=>False) s₂) (fun _ _=>False) s₁) (fun _ _=>False) s₁) (fun _ _=>False) s)
  (n:Nat) (h:I n s) :
  codeAny (model prog w) A (.compLoop (.ListComp elt [⟨target,iter,ifs,0⟩] scope pos) 0 it acc env) R s:=by
 refine codeAny_loop rfl I (fun n s hI=>?_) n h;show wpAny _ A ((compTurn (.ListComp elt [⟨target,iter,ifs,0⟩] scope pos) 0 it acc env).onRaise (fun x=>do noteFrame x env;theTreesLotGoes x)) _ _ s;refine wpAny_noted ?_;rw [zaa];refine wpAny_bind (wpAny_standAt (wpAny_bind (wpAny_mono (turn n s hI) (fun r s₁ h₁=>?_) fun _ _ h'=>h'.elim)))
 cases r with
 |none=>exact wpAny_pure h₁
 |some v =>
  refine wpAny_bind (wpAny_mono h₁ (fun _ s₁ h₁=>?_) fun _ _ h'=>h'.elim);refine wpAny_bind (wpAny_mono h₁ (fun _ s₂ h₂=>wpAny_bind (wpAny_mono h₂ (fun ok s₃ h₃=>?_) fun _ _ h'=>h'.elim)) fun _ _ h'=>h'.elim)
  cases ok with
  |false=>exact wpAny_pure ⟨rfl,h₃⟩
  |true =>
   exact wpAny_bind (wpAny_bind (wpAny_mono h₃ (fun x s₄ h₄=>wpAny_bind (wpAny_mono h₄ (fun _ s₅ h₅=>wpAny_pure (wpAny_pure ⟨rfl,h₅⟩)) fun _ _ h'=>h'.elim)) fun _ _ h'=>h'.elim))
end
structure IsBlock (X:Cx) (N:List Str) (sc:Scope) (X':Cx):Prop where
 prog:X'.prog=X.prog
 w:X'.w=X.w
 K:X'.K=X.K
 mg:X'.mg=X.mg
 base:X'.base=X.base
 A:X'.A=X.A
 calm:X'.calm=X.calm
 N:X'.N=N
 scope:X'.env.scope=relabel sc X.env
 xe:X'.xe=fun _ _=>False
 fn:∀ x,sc.names.lookup x=some .cell->X'.fn x=true
def ocl (X:Cx) (sc:Scope) (C:Addr):List (Str×Addr):=cellsFrom (C+1) sc.names (clo X.env sc.names [])
def vV (X:Cx) (N:List Str) (sc:Scope) (C:Addr) (s2:Shared) (H2:Hp) (fp:List Addr) (pins:List (Addr×Obj)):Cx where
 prog:=X.prog
 w:=X.w
 K:=X.K
 mg:=X.mg
 base:=X.base
 A:=X.A
 N:=N
 s₀:=s2
 H₀:=H2
 env:=compEnvC sc (ocl X sc C) C X.env
 outer:=X.stack
 stack:=X.stack
 ex:=fp
 fn:=fun x=>sc.names.lookup x==some .cell
 calm:=X.calm
 pn:=X.pn++pins
 xe:=fun _ _=>False
theorem zbx (X:Cx) (N:List Str) (sc:Scope) (C:Addr) (s2:Shared) (H2:Hp) (fp:List Addr) (pins:List (Addr×Obj)):IsBlock X N sc (vV X N sc C s2 H2 fp pins) :=
 ⟨rfl,rfl,rfl,rfl,rfl,rfl,rfl,rfl,rfl,rfl,fun x h=>by show (sc.names.lookup x==some .cell)=true;rw [h];rfl⟩
structure BlkSc (X:Cx) (sc:Scope):Prop where
 kind:sc.kind=.function
 cells:∀ x,(x,NameKind.cell)∈sc.names->sc.names.lookup x=some .cell
 frees:∀ x,(x,NameKind.free)∈sc.names->sc.names.lookup x=some .free
 free:∀ x,(x,NameKind.free)∈sc.names->X.env.kindOf x=some .cell\/X.env.kindOf x=some .free
 names:∀ y∈sc.names,y.2=.local->sc.names.lookup y.1=some .local
section
variable {X : Cx} {pins : List (Addr × Obj)} {σ : St} {H2 : Hp} {s2 : Shared} {sc : Scope} {N : List Str} {C : Addr} {fp : List Addr}
theorem uU (ok:X.Ok) (B:BlkSc X sc) {x:Str} {c:Addr} (h:(clo X.env sc.names []).lookup x=some c):X.env.cells.lookup x=some c/\sc.names.lookup x=some .free:=by
 rcases zau _ _ _ h with ⟨⟨k,m,e⟩,q⟩|h
 .subst e;have hf:=B.free x m;obtain ⟨c',hc'⟩:=ok.has x hf;rw [hc'] at q;exact ⟨by rw [hc',q];rfl,B.frees x m⟩
 .simp at h
theorem vE (ok:X.Ok) (B:BlkSc X sc) {x:Str} {c:Addr} (h:(ocl X sc C).lookup x=some c):(X.env.cells.lookup x=some c/\sc.names.lookup x=some .free)\/(sc.names.lookup x=some .cell/\C<c):=by
 rcases zax _ _ _ h with h|⟨h,q⟩
 .exact .inl (uU ok B h)
 .exact .inr ⟨B.cells x h,q⟩
theorem B_has (B:BlkSc X sc) {x:Str} (h:(relabel sc X.env).names.lookup x=some .cell\/(relabel sc X.env).names.lookup x=some .free):(x,NameKind.free)∈sc.names\/(x,NameKind.cell)∈sc.names:=by
 rcases h with h|h
 .obtain ⟨k,hk,e⟩:=wM h;rcases e with e|⟨e,_⟩
  .subst e;exact .inr (qH hk)
  .subst e;exact .inl (qH hk)
 .obtain ⟨k,hk,e⟩:=wM h;rcases e with e|⟨e,z⟩
  .subst e;exact .inl (qH hk)
  .cases z
theorem zck {x:Str} (h:(x,NameKind.free)∈sc.names\/(x,NameKind.cell)∈sc.names):∃ c,(ocl X sc C).lookup x=some c:=by
 rcases h with h|h
 .exact za5 _ _ _ (zav _ _ _ h)
 .exact zda _ _ _ h
theorem zdb (I2:Inv X pins σ H2 s2) {x:Str} {c:Addr} (h:X.env.cells.lookup x=some c):c<s2.heap.objs.size:=by
 obtain ⟨v,o,e,_⟩:=I2.cell x c h;exact Heap.lt_size e
theorem gQ (I2:Inv X pins σ H2 s2) (B:BlkSc X sc) (f2:∀ b∈fp,rX X pins H2 b) (hfp:∀ b∈fp,b<s2.heap.objs.size) (hC:s2.heap.objs.size<=C):(vV X N sc C s2 H2 fp pins).Ok where
 mod:=I2.ok.mod
 kind:=B.kind
 glob:=I2.ok.glob
 blt:=I2.ok.blt
 above:=hC
 inj:=zc9 _ _ _ ⟨fun x c h=>Nat.lt_succ_of_lt (Nat.lt_of_lt_of_le (zdb I2 (uU I2.ok B h).1) hC),fun x y c hx hy=>I2.ok.inj x y c (uU I2.ok B hx).1 (uU I2.ok B hy).1⟩
 has:=fun x h=>zck (B_has B h)
 cab:=fun x c h e=>by
  rcases vE I2.ok B e with ⟨_,q⟩|⟨_,q⟩
  .have h:(sc.names.lookup x==some .cell)=true:=h;rw [q] at h;cases h
  .exact Nat.le_trans hC (Nat.le_of_lt q)
 hd:=I2.ok.hd
 frames:=I2.ok.frames
 stk:=.inl rfl
 exf:=fun b hb=>⟨Nat.ne_of_lt (Nat.lt_of_lt_of_le (hfp b hb) hC),fun x c h=>by
  rcases vE I2.ok B h with ⟨q,_⟩|⟨_,q⟩
  .exact (f2 b hb).2.2.2.2.1 x c q
  .exact Nat.ne_of_gt (Nat.lt_trans (Nat.lt_of_lt_of_le (hfp b hb) hC) q)⟩
 bs:=I2.bs
 bsz:=Nat.le_trans I2.ok.bsz I2.sz
 noex:=fun b o e hb=>by
  rcases (f2 b hb).2.2.2.1 with h|h
  .exact I2.ok.noex b o e h
  .exact absurd (Nat.lt_of_lt_of_le (Heap.lt_size e) (Nat.le_trans I2.ok.bsz h)) (Nat.lt_irrefl _)
 exfs:=fun b hb hm=>by
  rcases List.mem_cons.mp (I2.stkSub b hm) with h|h
  .exact (f2 b hb).2.1 h
  .exact (f2 b hb).2.2.1 h
 funs:=I2.stack
 frf:=I2.stkFree
theorem zde {s4:Shared} {τ:St} {m:Str->Option Value} (I2:Inv X pins σ H2 s2) (B:BlkSc X sc) (f2:∀ b∈fp,rX X pins H2 b) (hfp:∀ b∈fp,b<s2.heap.objs.size) (hC:s2.heap.objs.size<=C)
  (ho:s4.os=s2.os) (hg:s4.gens=s2.gens) (keep:∀ b o,s2.heap.get? b=some o->s4.heap.get? b=some o) (hcs:∀ x c,(ocl X sc C).lookup x=some c->∃ v,s4.heap.IsCell c v) (hns:s4.heap.Ns C m) (hl:τ.length=N.length)
  (cap:∀ (i:Nat) (x:Str) (v:V),N[i]?=some x->τ[i]?=some (some v)->Vis (relabel sc X.env) x->sc.names.lookup x=some .free/\∃ j:Nat,X.N[j]?=some x/\σ[j]?=some (some v)) :
  Inv (vV X N sc C s2 H2 fp pins) [] τ H2 s4:=by
 refine ⟨gQ I2 B f2 hfp hC,ho,by rw [hg];exact I2.bare,Un.kept keep,⟨m,hns,fun i x v hN hτ hv=>?_⟩,hcs,I2.hok.fresh hC,fun x c h=>?_,fun p hp=>?_,I2.hok.kept keep,hl⟩
 .obtain ⟨hnl,j,hj,hσ⟩:=cap i x v hN hτ hv;have hmem:=qH hnl;have hf:=B.free x hmem
  have hkind:(relabel sc X.env).names.lookup x=some .cell\/(relabel sc X.env).names.lookup x=some .free:=by
   rcases hv with h|h|h
   .obtain ⟨k,hk,e⟩:=wM h;rw [hnl] at hk;cases hk;rcases e with e|⟨_,e⟩<;>cases e
   .exact .inl h
   .exact .inr h
  obtain ⟨m0,_,hl0⟩:=I2.loc;obtain ⟨u,r,lk⟩:=hl0 j x v hj hσ (hf.elim (fun h=>.inr (.inl h)) fun h=>.inr (.inr h));refine ⟨u,r,.inr ⟨hkind,?_⟩⟩;rcases lk with ⟨hk,_⟩|⟨_,c,hc,hcell⟩
  .rw [hk] at hf;rcases hf with hf|hf<;>cases hf
  .obtain ⟨c',hc'⟩:=zck (X:=X) (C:=C) (.inl hmem);rcases vE I2.ok B hc' with ⟨e,_⟩|⟨e,_⟩
   .rw [hc] at e;cases e;refine ⟨c,hc',?_⟩;obtain ⟨o,e1,r1⟩:=hcell;exact ⟨o,keep _ _ e1,r1⟩
   .rw [hnl] at e;cases e
 .rcases vE I2.ok B h with ⟨e,_⟩|⟨_,e⟩
  .exact I2.freeC x c e
  .exact I2.hok.fresh (Nat.le_trans hC (Nat.le_of_lt e))
 .have hp':p∈X.pn++pins:=by simpa [vV] using hp
  obtain ⟨q1,q2,q3,q4,q5⟩:=I2.pin p hp';refine ⟨keep _ _ q1,q2,Nat.ne_of_lt (Nat.lt_of_lt_of_le (Heap.lt_size q1) hC),fun z=>?_,q5⟩;rcases List.mem_cons.mp (I2.stkSub _ z) with h|h
  .exact q3 h
  .exact q4 h
end
theorem uH.adopt {P:Program} {w:World} {H:Hp} {h h':Heap} {a:Addr} {o:HO} (x:uH P w H h) (k:∀ b u v,H b=some v->h.get? b=some u->h'.get? b=some u) (hn:H a=none) (new:xK P w (xE H a o) h' a o):uH P w (xE H a o) h':=fun b u e=>by
 by_cases hb:b=a
 .subst hb;rw [wE] at e;cases e;exact new
 .rw [yU hb] at e;refine (x b u e).stay (fun c v hc q=>?_) (fun c q=>by rw [yU (yL q hn)];exact q) fun c xs q=>by rw [yU (yL q hn)];exact q
  rcases hc with rfl|hc
  .exact k _ _ _ e q
  .exact k _ _ _ hc q
end L2
namespace L2
open PySem PySem.Spec PyProof.Rows PySem.Calls
def PTs (X:Cx) (ifs:List Expr) (t:TT):Prop :=
 ∀ (pins:List (Addr×Obj)) (s:Shared) (σ:St) (H:Hp) (Q:Bool->Hp->Prop),Inv X pins σ H s->t σ H Q ->
  wpAny (model X.prog X.w) X.A (forIn ifs true fun c r=>if r=true then do let ok ← isTrue c X.env (eval c X.env);pure (ForInStep.yield ok) else pure (ForInStep.yield r)) (TP X pins σ Q) X.xe s
theorem zfy {X:Cx}:PTs X [] (fun _ H Q=>Q true H):=fun _ _ _ H _ I h=>wpAny_tests_nil ⟨H,I,h⟩
theorem zfx {X:Cx} {c:Expr} {t:TT} (h:PT X c t):PTs X [c] t:=fun pins s σ H Q I q=>wpAny_tests_one (h pins s σ H Q I q)
def tLCb (J:It) (τ:St) (g:TG) (tc:TT) (te:TE) (Qf:List V->Hp->Prop) (H1:Hp):Prop :=
 ∃ Pv:Nat->Nat->St->List V->Hp->Prop,(∃ m,Pv 0 m τ [] H1)/\∀ i m τ acc H,Pv i m τ acc H ->
  (J.stop i H/\Qf acc H) \/
  (J.go i H/\acc.length<sizeLine/\∀ x H',J.yld i H x H'->g x τ H' fun σ2 H2=>tc σ2 H2 fun b H3=>if b=true then te σ2 H3 fun v H4=>∃ m',m' < m/\Pv (i+1) m' σ2 (acc++[v]) H4 else ∃ m',m' < m/\Pv (i+1) m' σ2 acc H3)
structure Off (X:Cx) (pins:List (Addr×Obj)) (C:Addr):Prop where
 ne:C≠X.env.locals
 ge:X.s₀.heap.objs.size<=C
 cl:∀ x c,X.env.cells.lookup x=some c->c≠C
 pn:∀ p∈X.pn++pins,p.1≠C
theorem Off.turned {X:Cx} {pins:List (Addr×Obj)} {C:Addr} {σ:St} {H:Hp} {s:Shared} {h':Heap} (o:Off X pins C) (I:Inv X pins σ H s) (hn:H C=none) (k:Heap.SameBut C s.heap h'):Inv X pins σ H { s with heap:=h' } :=
 I.turned (t':=s.toks) (fun b u hb e=>k.extBut b u hb e) hn o.ne (.inr o.ge) o.cl o.pn
theorem Inv.off {X:Cx} {pins:List (Addr×Obj)} {σ:St} {H:Hp} {s:Shared} {C:Addr} (I:Inv X pins σ H s) (hC:s.heap.objs.size<=C):Off X pins C :=
 ⟨(Nat.ne_of_lt (Nat.lt_of_lt_of_le I.lt hC)).symm,Nat.le_trans I.sz hC,fun x c h=>by
  obtain ⟨v,o,e,_⟩:=I.cell x c h;exact Nat.ne_of_lt (Nat.lt_of_lt_of_le (Heap.lt_size e) hC),fun p hp=>Nat.ne_of_lt (Nat.lt_of_lt_of_le (Heap.lt_size (I.pin p hp).1) hC)⟩
abbrev vX (its:List Value) (n:Nat):Obj:={ cls:=.type "list", data:=.seq its.toArray n }
set_option maxHeartbeats 8000000 in
theorem zcv {X:Cx} {pins:List (Addr×Obj)} {σ τ:St} {H2:Hp} {s2:Shared} {sc:Scope} {N:List Str} {fp:List Addr} {it:Addr} {tn:Nat->Heap->Prop} {J:It} {tg iter elt:Expr} {ifs:List Expr} {pos:Pos} {g:TG} {tc:TT} {te:TE}
  {Qf:List V->Hp->Prop} {RR:Value->Addr->Result->Shared->Prop} {E:Value->Shared->Prop}
  (hc:X.calm=true) (I2:Inv X pins σ H2 s2) (T:Turn X.prog X.w X.K tg J fp it tn) (t0:tn 0 s2.heap) (f2:∀ b∈fp,rX X pins H2 b) (B:BlkSc X sc) (hl:τ.length=N.length)
  (cap:∀ (i:Nat) (x:Str) (v:V),N[i]?=some x->τ[i]?=some (some v)->Vis (relabel sc X.env) x->sc.names.lookup x=some .free/\∃ j:Nat,X.N[j]?=some x/\σ[j]?=some (some v))
  (hg:∀ X',IsBlock X N sc X'->PG X' tg g) (ht:∀ X',IsBlock X N sc X'->PTs X' ifs tc) (he:∀ X',IsBlock X N sc X'->PE X' elt te)
  (h:tLCb J τ g tc te Qf H2)
  (fin:∀ (D C:Addr) (acc:List V) (H':Hp) (s':Shared) (m:Str->Option Value),D≠C->H' D=none->H' C=none->Off X pins C->Inv X pins σ (xE H' D (.lst acc)) s'->s'.heap.Ns C m->Qf acc H'->RR (.ref D) C (.ok .next) s') :
  wpAny (model X.prog X.w) X.A (newList []) (fun acc s₃=>wpAny (model X.prog X.w) X.A (newFunctionEnv sc X.env.globals (clo X.env sc.names []) [] X.env.qual none .none (some X.env)) (fun cenv s₄ =>
   codeAny (model X.prog X.w) X.A (.compStart (.ListComp elt [⟨tg,iter,ifs,0⟩] sc pos) 0 (.ref it) acc { cenv with scope:=relabel sc X.env }) (RR acc cenv.locals) s₄) E s₃) E s2:=by
 refine wpAny_newObj_type (nfe fun h₁ heq hns₁ hk₁=>?_);dsimp only at heq hns₁ hk₁ ⊢;generalize hH2:s2.heap.push { cls:=.type "list", dict:=none,data:=.seq ([]:List Value).toArray }=G2 at heq hns₁ hk₁ ⊢
 have hcs:∀ x c,(ocl X sc G2.objs.size).lookup x=some c->∃ v,h₁.IsCell c v:=fun x c e=>by
  rw [heq];refine zay sc.names (G2.push { cls:=.type "dict", data:=.dict #[] }) (clo X.env sc.names []) (fun y d q=>?_) x c (by rw [Heap.size_push];exact e);obtain ⟨v,o,ho,hd⟩:=I2.cell y d (uU I2.ok B q).1;exact ⟨v,o,Heap.get?_push_of_some _ (hH2▸Heap.get?_push_of_some _ ho),hd⟩
 have hC:G2.objs.size=s2.heap.objs.size+1:=by rw [← hH2,Heap.size_push]
 have hDC:s2.heap.objs.size≠G2.objs.size:=by rw [hC];exact Nat.ne_of_lt (Nat.lt_succ_self _)
 have hCle:s2.heap.objs.size<=G2.objs.size:=by rw [hC];exact Nat.le_succ _
 have below:∀ b,b<s2.heap.objs.size->b≠G2.objs.size/\b≠s2.heap.objs.size:=fun b hb=>⟨by rw [hC];exact Nat.ne_of_lt (Nat.lt_succ_of_lt hb),Nat.ne_of_lt hb⟩
 have hfp:∀ b∈fp,b<s2.heap.objs.size:=fun b hb=>by
  obtain ⟨o,e,_⟩:=T.obj _ _ t0 b hb;exact Heap.lt_size e
 have hDf:∀ b∈fp,b≠s2.heap.objs.size:=fun b hb=>(below b (hfp b hb)).2;have hCf:∀ b∈fp,b≠G2.objs.size:=fun b hb=>(below b (hfp b hb)).1;have old:∀ b o,s2.heap.get? b=some o->h₁.get? b=some o:=fun b o e=>hk₁ b o (hH2▸Heap.get?_push_of_some _ e);have hacc:h₁.get? s2.heap.objs.size=some (vX [] 0):=hk₁ _ _ (hH2▸Heap.get?_push_size _ rfl)
 have fresh:∀ a,s2.heap.objs.size<=a->s2.heap.get? a=none:=fun a ha=>by
  cases e:s2.heap.get? a with
  |none=>rfl
  |some o'=>exact absurd (Heap.lt_size e) (Nat.not_lt.mpr ha)
 have hsub:∀ b∈frs X.stack,b<s2.heap.objs.size:=fun b hb=>by
  obtain ⟨_,o,e,_⟩:=I2.stack.mem hb;exact Heap.lt_size e
 obtain ⟨Pv,⟨m0,p0⟩,step⟩:=h;generalize hD:s2.heap.objs.size=D at *;generalize hCe:G2.objs.size=C at *;have hXb:IsBlock X N sc (vV X N sc C s2 H2 fp pins):=zbx ..;generalize hXd:vV X N sc C s2 H2 fp pins=X' at hXb
 have J0:Inv X' [] τ H2 { s2 with heap:=h₁ }:=by
  rw [← hXd];exact zde I2 B f2 (by rw [hD];exact hfp) (by rw [hD];exact hCle) rfl rfl old hcs hns₁ hl cap
 have offD:Off X' [] D:=by
  rw [← hXd];refine ⟨hDC,by show s2.heap.objs.size<=D;rw [hD];exact zzR _,fun x c hx=>?_,fun p hp=>?_⟩
  .rcases vE I2.ok B hx with ⟨q,_⟩|⟨_,q⟩
   .have:=zdb I2 q;rw [hD] at this;exact Nat.ne_of_lt this
   .exact Nat.ne_of_gt (Nat.lt_of_le_of_lt hCle q)
  .have hp':p∈X.pn++pins:=by simpa [vV] using hp
   have:=Heap.lt_size (I2.pin p hp').1;rw [hD] at this;exact Nat.ne_of_lt this
 have offC:Off X pins C:=I2.off (by rw [hD];exact hCle)
 have fpok:∀ {H':Hp} {ob:Obj},(∀ b∈fp,H' b=none)->∀ b∈fp,rX X' [(D,ob)] H' b:=fun {H' ob} hn b hb=>by
  rw [← hXd];refine ⟨hn b hb,hCf b hb,fun z=>(gQ (N:=N) I2 B f2 (by rw [hD];exact hfp) (by rw [hD];exact hCle)).exfs b hb z,.inl hb,fun x c hx=>(gQ (N:=N) I2 B f2 (by rw [hD];exact hfp) (by rw [hD];exact hCle)).exf b hb |>.2 x c hx,fun p hp=>?_⟩;rcases List.mem_append.mp hp with hp|hp
  .exact (f2 b hb).2.2.2.2.2 p hp
  .rw [zzO hp];exact (hDf b hb).symm
 have Dfs:D∉X'.fs:=by
  rw [← hXd];intro z;exact Nat.lt_irrefl _ (hsub D z)
 have pinD:∀ {H':Hp} {τ':St} {s':Shared} {its:List Value} {n:Nat},Inv X' [] τ' H' s'->H' D=none->s'.heap.get? D=some (vX its n)->Inv X' [(D,vX its n)] τ' H' s':=fun {H' τ' s' its n} I hn e =>
  I.pins_of fun p hp=>by
   rw [zzO hp];exact ⟨e,hn,by rw [← hXd];exact hDC,Dfs,fun v z=>nomatch z⟩
 have loop:∀ s₃:Shared,s₃={ s2 with heap:=h₁ } ->
   codeAny (model X.prog X.w) X.A (.compLoop (.ListComp elt [⟨tg,iter,ifs,0⟩] sc pos) 0 (.ref it) (.ref D) (compEnvC sc (ocl X sc C) C X.env)) (RR (.ref D) C) s₃:=by
  rintro s₃ rfl;have tn0:tn 0 h₁:=T.keep _ _ _ t0 fun b _ o e=>old b o e;have fr0:∀ b∈fp,H2 b=none:=fun b hb=>(f2 b hb).1;have Df0:H2 D=none:=I2.hok.fresh (by rw [hD];exact zzR _);have eX:X'.env=compEnvC sc (ocl X sc C) C X.env:=by rw [← hXd];rfl
  have ep:X'.prog=X.prog:=hXb.prog;have ew:X'.w=X.w:=hXb.w;have eA:X'.A=X.A:=hXb.A;refine zab (fun k s'=>∃ i τ' acc H' its n,Inv X' [] τ' H' s'/\tn i s'.heap/\(∀ b∈fp,H' b=none)/\H' D=none/\s'.heap.get? D=some (vX its n)/\yX acc its/\acc.length<=sizeLine/\Pv i k τ' acc H') ?_ m0 ⟨0,τ,[],H2,[],0,J0,tn0,fr0,Df0,hacc,.nil,Nat.zero_le _,p0⟩;rintro k s3 ⟨i,τ3,acc,H3,its,n,I3,st3,fr3,D3,o3,v3,lenA,p3⟩;have I3':=pinD I3 D3 o3;rcases step i k τ3 acc H3 p3 with ⟨stop,qf⟩|⟨go,hsz,turn⟩
  .have td:=T.done X' ep ew hXb.K (by rw [hXb.calm];exact hc) i _ s3 τ3 H3 (fun _ _=>False) I3' (fpok fr3) st3 stop;rw [eA] at td;refine yB td fun r s4 ⟨hr,I4⟩=>?_;subst hr;have o4:=(I4.pin (D,vX its n) (List.mem_append_right _ (List.mem_singleton.mpr rfl))).1;obtain ⟨m4,hn4,_⟩:=I4.loc;rw [eX] at hn4;refine fin D C acc H3 s4 m4 hDC D3 ?_ offC ?_ hn4 qf
   .have:=I4.free;rw [eX] at this;exact this
   .have base:Un (frs X.stack) fp H2 H3 s2.heap s4.heap:=by have:=I4.base;rw [← hXd] at this;exact this
    have hb:∀ b o,s2.heap.get? b=some o->b≠D:=fun b o e=>by have:=Heap.lt_size e;rw [hD] at this;exact Nat.ne_of_lt this
    refine I2.call' (ch:=fp) (by have:=I4.os;rw [← hXd] at this;exact this) ⟨base.keep,base.slot,fun b o e n' hx=>?_,base.there,fun b xs e=>?_,fun b o u e=>?_,fun b ps e=>?_⟩ ?_ I4.bare ?_
    .rw [yU (hb b o e)];exact base.free b o e n' hx
    .rw [yU (yL (base.tups b xs e) D3)];exact base.tups b xs e
    .rw [yU (yL (base.frzs b o u e) D3)];exact base.frzs b o u e
    .obtain ⟨mo,e'⟩:=base.tbls b ps e;exact ⟨mo,by rw [yU (yL e' D3)];exact e'⟩
    .have hk:=I4.hok;rw [ep,ew] at hk;exact hk.adopt (fun b u v _ q=>q) D3 ⟨lenA,its,n,v3,o4⟩
    .intro b hb';obtain ⟨q1,q2,q3,q4,q5,q6⟩:=f2 b hb';exact ⟨q4,q2,q5,q6⟩
  .have td:=T.item X' ep ew hXb.K (by rw [hXb.calm];exact hc) i _ s3 τ3 H3 (fun _ _=>False) I3' (fpok fr3) st3 go;rw [eA] at td;refine yB td fun r s4 ⟨u,hr,h4⟩=>?_;subst hr;refine yB h4 fun _ s5 ⟨x,H5,I5,r5,y5,st5,fr5⟩=>?_;have I5':=I5.pinned (fpok fr5) (T.obj _ _ st5);have q1:=hg X' hXb _ s5 τ3 H5 x u _ I5' r5 (turn x H5 y5);rw [ep,ew,eA,eX,hXb.xe] at q1;refine yB q1 fun _ s6 ⟨σ6,H6,I6,q6⟩=>?_;have q2:=ht X' hXb _ s6 σ6 H6 _ I6 q6;rw [ep,ew,eA,eX,hXb.xe] at q2;refine yB q2 fun b s7 ⟨H7,I7,q7⟩=>?_
   have back:∀ {H8:Hp} {s8:Shared},Inv X' ([(D,vX its n)]++rT fp s5.heap) σ6 H8 s8->Inv X' [] σ6 H8 s8/\tn (i+1) s8.heap/\(∀ b∈fp,H8 b=none)/\H8 D=none/\s8.heap.get? D=some (vX its n):=fun {H8 s8} I8=>by
    have pp:∀ p,p∈[(D,vX its n)]++rT fp s5.heap->_:=fun p hp=>I8.pin p (List.mem_append_right _ hp);refine ⟨I8.pins_of (pins':=[]) (fun p hp=>nomatch hp),T.keep _ _ _ st5 fun b hb o e=>(pp (b,o) (List.mem_append_right _ (vY hb e))).1,fun b hb=>?_,?_,?_⟩
    .obtain ⟨o,e,d⟩:=T.obj _ _ st5 b hb;exact (pp (b,o) (List.mem_append_right _ (vY hb e))).2.1
    .exact (pp (D,vX its n) (List.mem_append_left _ (List.mem_singleton.mpr rfl))).2.1
    .exact (pp (D,vX its n) (List.mem_append_left _ (List.mem_singleton.mpr rfl))).1
   cases b with
   |false =>
    rw [if_neg (by decide)] at q7;rw [if_neg (by decide)];obtain ⟨m',hm,p'⟩:=q7;obtain ⟨b1,b2,b3,b4,b5⟩:=back I7;exact ⟨m',hm,i+1,σ6,acc,H7,its,n,b1,b2,b3,b4,b5,v3,lenA,p'⟩
   |true =>
    rw [if_pos rfl] at q7;rw [if_pos rfl];have q3:=he X' hXb _ s7 σ6 H7 _ I7 q7;rw [ep,ew,eA,eX,hXb.xe] at q3;refine yB q3 fun y s8 ⟨v,H8,I8,r8,m',hm,p'⟩=>?_;obtain ⟨b1,b2,b3,b4,b5⟩:=back I8;refine append_at (hsz:=by show its.toArray.size<=sizeLine;rw [zzS,← v3.length];exact Nat.le_of_lt hsz) b5 fun h₅ hs₅ hD₅=>?_;refine ⟨m',hm,i+1,σ6,acc++[v],H8,its++[y],n+1,offD.turned b1 b4 hs₅,T.keep _ _ _ b2 fun b hb o e=>hs₅.extBut b o (hDf b hb) e,b3,b4,?_,v3.append (.cons r8 .nil),by rw [zzW];exact hsz,p'⟩;show h₅.get? D=_;rw [hD₅,List.push_toArray]
 exact codeAny_compStart_list (loop _ rfl) (T.self _ 0 _ _ _ (T.keep _ _ _ t0 fun b _ o e=>old b o e) (loop _ rfl))
def tLC (wi:TI) (cap:St->St) (g:TG) (tc:TT) (te:TE):TE:=fun σ H Q=>wi σ H fun J H1=>tLCb J (cap σ) g tc te (fun acc H'=>∀ p,H' p=none->Q (.ref p) (xE H' p (.lst acc))) H1
section
variable {X : Cx} {sc : Scope} {N : List Str} {tg iter elt : Expr} {ifs : List Expr} {pos : Pos} {wi : TI} {g : TG} {tc : TT} {te : TE} {cap : St → St}
def Caps (X:Cx) (sc:Scope) (N:List Str) (cap:St->St):Prop:=∀ σ:St,σ.length=X.N.length->(cap σ).length=N.length /\
 ∀ (i:Nat) (x:Str) (v:V),N[i]?=some x->(cap σ)[i]?=some (some v)->Vis (relabel sc X.env) x->sc.names.lookup x=some .free/\∃ j:Nat,X.N[j]?=some x/\σ[j]?=some (some v)
theorem pe_lc (hc:X.calm=true) (hi:PI X tg iter wi) (B:BlkSc X sc) (hcap:Caps X sc N cap)
  (hg:∀ X',IsBlock X N sc X'->PG X' tg g) (ht:∀ X',IsBlock X N sc X'->PTs X' ifs tc) (he:∀ X',IsBlock X N sc X'->PE X' elt te)
  (hs:∀ x,foldedSetIterable iter X.env x=pure x:=by intro _;rfl):PE X (.ListComp elt [⟨tg,iter,ifs,0⟩] sc pos) (tLC wi cap g tc te):=by
 intro pins s σ H Q I h;rw [eval_ListComp];refine wpAny_comprehension_free (use:=none) rfl hs (gU fun x hx=>I.ok.has x (B.free x hx)) B.kind B.names (yB (hi pins s σ H _ I h) fun v s1 h1=>yB h1 fun itv s2 h2=>?_);obtain ⟨it,fp,tn,J,H2,e,I2,T,st2,f2,q⟩:=h2;subst e;obtain ⟨cl,cc⟩:=hcap σ I.len;refine zcv (RR:=fun acc C=>compPost (model X.prog X.w) X.A X.xe none (EP X pins σ Q) acc C) hc I2 T st2 f2 B cl cc hg ht he q fun D C acc H' s' m hDC hD hC off I' hn qf=>?_;refine ⟨m,hn,fun h' hk=>⟨.ref D,_,off.turned I' (by rw [yU hDC.symm];exact hC) hk,rfl,qf D hD⟩⟩
theorem zdW {i:Nat} {y:Str} {py spos:Pos} (hc:X.calm=true) (hi:PI X tg iter wi) (B:BlkSc X sc) (hcap:Caps X sc N cap)
  (hg:∀ X',IsBlock X N sc X'->PG X' tg g) (ht:∀ X',IsBlock X N sc X'->PTs X' ifs tc) (he:∀ X',IsBlock X N sc X'->PE X' elt te)
  (hN:X.N.Nodup) (hy:X.N[i]?=some y) (hx:Loc X.env.scope y) (hf:X.fn y=true\/X.env.scope.names.lookup y=some .local)
  (hsw:swapsWith (.ListComp elt [⟨tg,iter,ifs,0⟩] sc pos) (some (.Name y py)) spos.line X.env=pure true)
  (hs:∀ x,foldedSetIterable iter X.env x=pure x:=by intro _;rfl):PS X (.Assign [.Name y py] (.ListComp elt [⟨tg,iter,ifs,0⟩] sc pos) spos) (tAsg (tLC wi cap g tc te) (zev i)):=by
 intro pins s σ H D I h;rw [exec_Assign_Name_used _ _ _ _ hsw];refine wpAny_bind (wpAny_standAt (wpAny_bind ?_));show wpAny _ X.A (do let _ ← comprehension (.ListComp elt [⟨tg,iter,ifs,0⟩] sc pos) sc X.env _ (newList []) false (eval iter X.env) (some (assign (.Name y py) X.env))) _ _ s
 refine wpAny_bind (wpAny_mono (wpAny_comprehension_free (use:=some (assign (.Name y py) X.env)) (Q:=fun _ s'=>SP X pins D .next s') rfl hs (gU fun x hx=>I.ok.has x (B.free x hx)) B.kind B.names
  (yB (hi pins s σ H _ I h) fun v s1 h1=>yB h1 fun itv s2 h2=>?_)) (fun _ s' hq=>wpAny_pure (wpAny_pure hq)) fun _ _ e=>e)
 obtain ⟨it,fp,tn,J,H2,e,I2,T,st2,f2,q⟩:=h2;subst e;obtain ⟨cl,cc⟩:=hcap σ I.len;refine zcv (RR:=fun acc C=>compPost (model X.prog X.w) X.A X.xe (some (assign (.Name y py) X.env)) (fun _ s'=>SP X pins D .next s') acc C) hc I2 T st2 f2 B cl cc hg ht he q fun D' C acc H' s' m hDC hD hC off I' hn qf=>?_;show wpAny _ X.A (assign (.Name y py) X.env (.ref D')) _ _ _;refine wpAny_assign_Name (fF I' hN hy hx (v:=.ref D') rfl (fun s'' I'' hsm=>?_) hf);obtain ⟨a,hsb,ha⟩:=hsm
 have hCa:C≠a:=by
  rcases ha with ha|ha
  .rw [ha];exact off.ne
  .exact (off.cl y a ha).symm
 refine ⟨m,hn.sameBut hsb hCa,fun h' hk=>⟨_,_,off.turned I'' (by rw [yU hDC.symm];exact hC) hk,qf D' hD⟩⟩
end
end L2
namespace L3
open PySem PySem.Spec PyProof.Rows L2 PySem.SeqAt
mutual
def jK:W->W->Bool
 | .non,.non=>true
 | .bl a,.bl b=>a==b
 | .bl a,.int j=>(if a then 1 else 0)==j
 | .int i,.bl b=>i==(if b then 1 else 0)
 | .int i,.int j=>i==j
 | .str x,.str y=>x==y
 | .tup xs,.tup ys=>qX xs ys
 |_,_=>false
def qX:List W->List W->Bool
 | [],[]=>true
 |x::xs,y::ys=>jK x y&&qX xs ys
 |_,_=>false
end
mutual
def jD:W->Bool
 | .ref _=>false
 | .ty _=>false
 | .lsf _=>false
 | .exc _ _ _=>false
 | .dcf _ _=>false
 | .tup ws=>yA ws
 |_=>true
def yA:List W->Bool
 | []=>true
 |w::ws=>jD w&&yA ws
end
mutual
def dep:W->Nat
 | .tup ws=>yC ws+1
 |_=>0
def yC:List W->Nat
 | []=>0
 |w::ws=>max (dep w) (yC ws)
end
theorem xN {w:W} {ws:List W}:yA (w::ws)=true↔jD w=true/\yA ws=true:=by simp [yA]
section
variable {X : Cx} {pins : List (Addr × Obj)} {σ : L2.St} {H : Hp} {s : Shared}
theorem W.ind {P:W->Prop} (non:P .non) (bl:∀ b,P (.bl b)) (int:∀ i,P (.int i)) (str:∀ x,P (.str x)) (ty:∀ n,P (.ty n)) (ref:∀ a,P (.ref a)) (tup:∀ ws,(∀ w∈ws,P w)->P (.tup ws)) (lsf:∀ ws,P (.lsf ws)) (exc:∀ C ns ws,P (.exc C ns ws)) (dcf:∀ ks ws,P (.dcf ks ws)):∀ w:W,P w:=fun w =>
 W.rec (motive_1:=P) (motive_2:=fun ws=>∀ w∈ws,P w) non bl int str ty ref (fun ws h=>tup ws h) (fun ws _=>lsf ws) (fun C ns ws _=>exc C ns ws) (fun ks ws _=>dcf ks ws) (fun _ h=>nomatch h) (fun w ws h hs v hv=>(List.mem_cons.mp hv).elim (fun e=>e▸h) (hs v)) w
theorem zaS {ws:List W} (h:yA ws=true):∀ w∈ws,jD w=true:=by
 induction ws with
 |nil=>intro w hw;cases hw
 |cons x xs ih =>
  intro w hw;have h':=xN.mp h;rcases List.mem_cons.mp hw with e|hw
  .rw [e];exact h'.1
  .exact ih h'.2 w hw
theorem zbu:∀ (ws:List W),(∀ w∈ws,jD w=true->jK w w=true)->yA ws=true->qX ws ws=true:=by
 intro ws
 induction ws with
 |nil=>intro _ _;simp [qX]
 |cons w ws ih =>
  intro h hp;have h':=xN.mp hp;simp only [qX,h w zzT h'.1,ih (fun z hz=>h z (List.mem_cons_of_mem _ hz)) h'.2,Bool.and_self]
theorem zez {w:W}:jD w=true->jK w w=true:=by
 induction w using W.ind with
 |non=>intro _;simp [jK]
 |bl _=>intro _;simp [jK]
 |int _=>intro _;simp [jK]
 |str _=>intro _;simp [jK]
 |ty _=>intro h;cases h
 |lsf _=>intro h;cases h
 |exc _ _ _=>intro h;cases h
 |dcf _ _=>intro h;cases h
 |ref _=>intro h;cases h
 |tup ws ih=>intro h;exact zbu ws ih h
theorem dY (I:Inv X pins σ H s):∀ (xs ys:List W) (vs:List V),(∀ x∈xs,∀ (y:W) (v:V),wJ X.K H x v->wJ X.K H y v->jD x=true->jD y=true->x=y)->yY X.K H xs vs->yY X.K H ys vs->yA xs=true->yA ys=true->xs=ys:=by
 intro xs
 induction xs with
 |nil =>
  intro ys vs _ h h' _ _
  cases ys with
  |nil=>rfl
  |cons y ys=>obtain ⟨_,_,e,_⟩:=h';rw [show _=[] from h] at e;cases e
 |cons x xs ih =>
  intro ys vs hx h h' px py;obtain ⟨v,r,e,q,t⟩:=h;subst e
  cases ys with
  |nil=>cases h'
  |cons y ys =>
   obtain ⟨v',r',e',q',t'⟩:=h';cases e';rw [hx x zzT y v q q' (xN.mp px).1 (xN.mp py).1,ih ys r (fun z hz=>hx z (List.mem_cons_of_mem _ hz)) t t' (xN.mp px).2 (xN.mp py).2]
theorem zb5 (I:Inv X pins σ H s):∀ (x y:W) (v:V),wJ X.K H x v->wJ X.K H y v->jD x=true->jD y=true->x=y:=by
 intro x
 induction x using W.ind with
 |tup xs ih =>
  intro y v h h' hx hy;obtain ⟨a,vs,e,q,r⟩:=h;subst e
  cases y with
  |tup ys =>
   obtain ⟨b,us,e',q',r'⟩:=h';cases e';have:=I.tuple_inj q q';subst this;rw [dY I xs ys vs ih r r' hx hy]
  |ref _=>cases hy
  |ty _=>cases hy
  |lsf _=>cases hy
  |exc _ _ _=>cases hy
  |dcf _ _=>cases hy
  |non=>cases h'
  |bl _=>cases h'
  |int _=>cases h'
  |str _=>cases h'
 |ty _=>intro y v _ _ hx;cases hx
 |lsf _=>intro y v _ _ hx;cases hx
 |exc _ _ _=>intro y v _ _ hx;cases hx
 |dcf _ _=>intro y v _ _ hx;cases hx
 |ref _=>intro y v _ _ hx;cases hx
 |non =>
  intro y v h h' _ hy;cases h
  cases y with
  |tup ys=>obtain ⟨_,_,e,_⟩:=h';cases e
  |ref _=>cases hy
  |ty _=>cases hy
  |lsf _=>cases hy
  |exc _ _ _=>cases hy
  |dcf _ _=>cases hy
  |non=>rfl
  |bl _=>cases h'
  |int _=>cases h'
  |str _=>cases h'
 |bl _ =>
  intro y v h h' _ hy;cases h
  cases y with
  |tup ys=>obtain ⟨_,_,e,_⟩:=h';cases e
  |ref _=>cases hy
  |ty _=>cases hy
  |lsf _=>cases hy
  |exc _ _ _=>cases hy
  |dcf _ _=>cases hy
  |non=>cases h'
  |bl _=>cases h';rfl
  |int _=>cases h'
  |str _=>cases h'
 |int _ =>
  intro y v h h' _ hy;cases h
  cases y with
  |tup ys=>obtain ⟨_,_,e,_⟩:=h';cases e
  |ref _=>cases hy
  |ty _=>cases hy
  |lsf _=>cases hy
  |exc _ _ _=>cases hy
  |dcf _ _=>cases hy
  |non=>cases h'
  |bl _=>cases h'
  |int _=>cases h';rfl
  |str _=>cases h'
 |str _ =>
  intro y v h h' _ hy;cases h
  cases y with
  |tup ys=>obtain ⟨_,_,e,_⟩:=h';cases e
  |ref _=>cases hy
  |ty _=>cases hy
  |lsf _=>cases hy
  |exc _ _ _=>cases hy
  |dcf _ _=>cases hy
  |non=>cases h'
  |bl _=>cases h'
  |int _=>cases h'
  |str _=>cases h';rfl
theorem zdP (I:Inv X pins σ H s) {xs ys:List W} {vs:List V} (h:yY X.K H xs vs) (h':yY X.K H ys vs) (hx:yA xs=true) (hy:yA ys=true):xs=ys :=
 dY I xs ys vs (fun x _=>zb5 I x) h h' hx hy
def uD (xs ys:List W) (j:Nat):Bool:=match xs[j]?,ys[j]? with
 |some x,some y=>jK x y
 |_,_=>false
theorem sE:∀ xs ys:List W,((List.range (min xs.length ys.length)).all (uD xs ys)&&xs.length==ys.length)=qX xs ys
 | [],[]=>rfl
 | [],_::_=>by simp [qX]
 |_::_,[]=>by simp [qX]
 |x::xs,y::ys=>by
  have ih:=sE xs ys;simp only [List.length_cons,Nat.add_min_add_right,qX];rw [List.range_succ_eq_map,List.all_cons,List.all_map];have h0:uD (x::xs) (y::ys) 0=jK x y:=rfl;have h1:(uD (x::xs) (y::ys) ∘ Nat.succ)=uD xs ys:=by funext j;simp [uD]
  rw [h0,h1,← ih,Bool.and_assoc];congr 2;simp
theorem zey {xs ys:List W} (h:xs.length≠ys.length):qX xs ys=false:=by
 rw [← sE];have:(xs.length==ys.length)=false:=by simpa using h
 rw [this,Bool.and_false]
theorem zcR {xs ys:List W} (h:xs.length=ys.length):(List.range xs.length).all (uD xs ys)=qX xs ys:=by
 rw [← sE,h,Nat.min_self];simp
theorem xT (I:Inv X pins σ H s) {ws:List W} {v:V} {u:Value} (h:wJ X.K H (.tup ws) v) (r:yW v u):∃ a vs its,v=.ref a/\u=.ref a/\sZ X.K H a vs/\yY X.K H ws vs/\yX vs its/\s.heap.IsTuple a its.toArray/\ws.length<=sizeLine:=by
 obtain ⟨a,vs,rfl,q,rs⟩:=h;obtain ⟨its,vr,it,hl⟩:=I.tuple q;exact ⟨a,vs,its,rfl,r,q,rs,vr,it,by rw [← rs.length];exact hl⟩
theorem za3 (I:Inv X pins σ H s):∀ (xs ys:List W) (vs vs':List V) (us us':List Value) (A:Around),(∀ x∈xs,∀ (y:W) (v v':V) (u u':Value) (A:Around),wJ X.K H x v->yW v u->wJ X.K H y v'->yW v' u'->jD x=true->jD y=true->A.units+min (dep x) (dep y)<cLine->EqAt A s u u' (jK x y)) ->
  yY X.K H xs vs->yX vs us->yY X.K H ys vs'->yX vs' us'->yA xs=true->yA ys=true ->
  A.units+min (yC xs) (yC ys)<cLine->∀ (j:Nat) (h1:j<us.length) (h2:j<us'.length),EqAt A s us[j] us'[j] (uD xs ys j):=by
 intro xs
 induction xs with
 |nil=>intro ys vs vs' us us' A _ h r _ _ _ _ _ j h1;rw [show _=[] from h] at r;cases r;exact absurd h1 (Nat.not_lt_zero _)
 |cons x xs ih =>
  intro ys vs vs' us us' A he h r h' r' hx hy hu j h1 h2
  cases ys with
  |nil=>rw [show _=[] from h'] at r';cases r';exact absurd h2 (Nat.not_lt_zero _)
  |cons y ys =>
   obtain ⟨v,t,e,h,hs⟩:=h;obtain ⟨v',t',e',h',hs'⟩:=h';subst e;subst e'
   cases r with
   |cons r rs =>
    cases r' with
    |cons r' rs' =>
     have px:=xN.mp hx;have py:=xN.mp hy;simp only [yC] at hu
     cases j with
     |zero=>exact he x zzT y _ _ _ _ A h r h' r' px.1 py.1 (by omega)
     |succ j=>exact ih ys _ _ _ _ A (fun z hz=>he z (List.mem_cons_of_mem _ hz)) hs rs hs' rs' px.2 py.2 (by omega) j (Nat.lt_of_succ_lt_succ h1) (Nat.lt_of_succ_lt_succ h2)
theorem zcU (I:Inv X pins σ H s):∀ (x y:W) (v v':V) (u u':Value) (A:Around),wJ X.K H x v->yW v u->wJ X.K H y v'->yW v' u'->jD x=true->jD y=true->A.units+min (dep x) (dep y)<cLine->EqAt A s u u' (jK x y):=by
 intro x
 induction x using W.ind with
 |tup xs ih =>
  intro y v v' u u' A h r h' r' hx hy hu;obtain ⟨a,vs,its,rfl,rfl,q,rs,vr,it,_⟩:=xT I h r
  cases y with
  |tup ys =>
   obtain ⟨b,us,its',rfl,rfl,q',rs',vr',it',_⟩:=xT I h' r'
   by_cases e:a=b
   .subst e;have:=I.tuple_inj q q';subst this;have:=zdP I rs rs' hx hy;subst this;rw [show jK (.tup xs) (.tup xs)=true from zez (w:=.tup xs) hx];exact EqAt.same _
   .show EqAt A s _ _ (qX xs ys);rw [← sE];have l1:its.toArray.size=xs.length:=by rw [zzS,← vr.length,rs.length]
    have l2:its'.toArray.size=ys.length:=by rw [zzS,← vr'.length,rs'.length]
    rw [← l1,← l2];refine EqAt.of_refs e (RcAt.tuples it it' (by simp only [dep] at hu;omega) fun j j1 j2=>?_);exact za3 I xs ys _ _ _ _ A.in1 ih rs vr rs' vr' hx hy (by simp only [dep] at hu;show A.units+1+_<_;omega) j (by simpa using j1) (by simpa using j2)
  |ref _=>cases hy
  |ty _=>cases hy
  |lsf _=>cases hy
  |exc _ _ _=>cases hy
  |dcf _ _=>cases hy
  |non=>cases h';cases r';exact EqAt.tuple_none it (by omega)
  |bl _=>cases h';cases r';exact EqAt.tuple_bool _ it (by omega)
  |int _=>cases h';obtain ⟨t,rfl⟩:=r';exact EqAt.tuple_int _ _ it (by omega)
  |str _=>cases h';obtain ⟨t,rfl⟩:=r';exact EqAt.tuple_str _ _ it (by omega)
 |ty _=>intro y v v' u u' A _ _ _ _ hx;cases hx
 |lsf _=>intro y v v' u u' A _ _ _ _ hx;cases hx
 |exc _ _ _=>intro y v v' u u' A _ _ _ _ hx;cases hx
 |dcf _ _=>intro y v v' u u' A _ _ _ _ hx;cases hx
 |ref _=>intro y v v' u u' A _ _ _ _ hx;cases hx
 |non =>
  intro y v v' u u' A h r h' r' hx hy hu;cases h;cases r
  cases y with
  |tup ys=>obtain ⟨b,us,its',rfl,rfl,q',rs',vr',it',_⟩:=xT I h' r';exact EqAt.none_tuple it' (by omega)
  |ref _=>cases hy
  |ty _=>cases hy
  |lsf _=>cases hy
  |exc _ _ _=>cases hy
  |dcf _ _=>cases hy
  |non=>cases h';cases r';exact EqAt.same _
  |bl _=>cases h';cases r';exact EqAt.none_bool _
  |int _=>cases h';obtain ⟨t,rfl⟩:=r';exact EqAt.none_int _ _
  |str _=>cases h';obtain ⟨t,rfl⟩:=r';exact EqAt.none_str _ _
 |bl _ =>
  intro y v v' u u' A h r h' r' hx hy hu;cases h;cases r
  cases y with
  |tup ys=>obtain ⟨b,us,its',rfl,rfl,q',rs',vr',it',_⟩:=xT I h' r';exact EqAt.bool_tuple _ it' (by omega)
  |ref _=>cases hy
  |ty _=>cases hy
  |lsf _=>cases hy
  |exc _ _ _=>cases hy
  |dcf _ _=>cases hy
  |non=>cases h';cases r';exact EqAt.bool_none _
  |bl _=>cases h';cases r';exact EqAt.bool_bool _ _
  |int _=>cases h';obtain ⟨t,rfl⟩:=r';exact EqAt.bool_int _ _ _
  |str _=>cases h';obtain ⟨t,rfl⟩:=r';exact EqAt.bool_str _ _ _
 |int _ =>
  intro y v v' u u' A h r h' r' hx hy hu;cases h;obtain ⟨t0,rfl⟩:=r
  cases y with
  |tup ys=>obtain ⟨b,us,its',rfl,rfl,q',rs',vr',it',_⟩:=xT I h' r';exact EqAt.int_tuple _ _ it' (by omega)
  |ref _=>cases hy
  |ty _=>cases hy
  |lsf _=>cases hy
  |exc _ _ _=>cases hy
  |dcf _ _=>cases hy
  |non=>cases h';cases r';exact EqAt.int_none _ _
  |bl _=>cases h';cases r';exact EqAt.int_bool _ _ _
  |int _=>cases h';obtain ⟨t,rfl⟩:=r';exact EqAt.int_int _ _ _ _
  |str _=>cases h';obtain ⟨t,rfl⟩:=r';exact EqAt.int_str _ _ _ _
 |str _ =>
  intro y v v' u u' A h r h' r' hx hy hu;cases h;obtain ⟨t0,rfl⟩:=r
  cases y with
  |tup ys=>obtain ⟨b,us,its',rfl,rfl,q',rs',vr',it',_⟩:=xT I h' r';exact EqAt.str_tuple _ _ it' (by omega)
  |ref _=>cases hy
  |ty _=>cases hy
  |lsf _=>cases hy
  |exc _ _ _=>cases hy
  |dcf _ _=>cases hy
  |non=>cases h';cases r';exact EqAt.str_none _ _
  |bl _=>cases h';cases r';exact EqAt.str_bool _ _ _
  |int _=>cases h';obtain ⟨t,rfl⟩:=r';exact EqAt.str_int _ _ _ _
  |str _=>cases h';obtain ⟨t,rfl⟩:=r';exact EqAt.str_str _ _ _ _
theorem zcT (I:Inv X pins σ H s) {xs ys:List W} {vs vs':List V} {us us':List Value} {A:Around} (h:yY X.K H xs vs) (r:yX vs us) (h':yY X.K H ys vs') (r':yX vs' us') (hx:yA xs=true) (hy:yA ys=true)
  (hu:A.units+min (yC xs) (yC ys)<cLine):∀ (j:Nat) (h1:j<us.length) (h2:j<us'.length),EqAt A s us[j] us'[j] (uD xs ys j) :=
 za3 I xs ys _ _ _ _ A (fun x _=>zcU I x) h r h' r' hx hy hu
end
section
variable {X : Cx} {pins : List (Addr × Obj)} {σ : L2.St} {H : Hp} {s : Shared}
theorem zhb (I:Inv X pins σ H s) (x y:W) (v v':V) (u u':Value) (A:Around) (h:wJ X.K H x v) (r:yW v u) (h':wJ X.K H y v') (r':yW v' u') (hx:jD x=true) (hy:jD y=true) (hu:A.units+min (dep x) (dep y)<cLine):RcAt A s u u' (jK x y)/\RcNeAt A s u u' (!jK x y):=by
 have h0:A.units<cLine:=by omega
 cases x with
 |ref _=>cases hx
 |ty _=>cases hx
 |lsf _=>cases hx
 |exc _ _ _=>cases hx
 |dcf _ _=>cases hx
 |tup xs =>
  obtain ⟨a,vs,its,rfl,rfl,q,rs,vr,it,_⟩:=xT I h r
  cases y with
  |ref _=>cases hy
  |ty _=>cases hy
  |lsf _=>cases hy
  |exc _ _ _=>cases hy
  |dcf _ _=>cases hy
  |tup ys =>
   obtain ⟨b,us,its',rfl,rfl,q',rs',vr',it',_⟩:=xT I h' r';have l1:its.toArray.size=xs.length:=by rw [zzS,← vr.length,rs.length]
   have l2:its'.toArray.size=ys.length:=by rw [zzS,← vr'.length,rs'.length]
   have key:∀ (j:Nat) (j1:j<its.toArray.size) (j2:j<its'.toArray.size),EqAt A.in1 s its.toArray[j] its'.toArray[j] (uD xs ys j):=fun j j1 j2 =>
    zcT I rs vr rs' vr' hx hy (A:=A.in1) (by simp only [dep] at hu;show A.units+1+_<_;omega) j (by simpa using j1) (by simpa using j2)
   show RcAt A s _ _ (qX xs ys)/\RcNeAt A s _ _ (!qX xs ys);rw [← sE,← l1,← l2];exact ⟨RcAt.tuples it it' h0 key,RcNeAt.tuples it it' h0 key⟩
  |non=>cases h';cases r';exact ⟨RcAt.tuple_none it h0,RcNeAt.tuple_none it h0⟩
  |bl _=>cases h';cases r';exact ⟨RcAt.tuple_bool _ it h0,RcNeAt.tuple_bool _ it h0⟩
  |int _=>cases h';obtain ⟨t,rfl⟩:=r';exact ⟨RcAt.tuple_int _ _ it h0,RcNeAt.tuple_int _ _ it h0⟩
  |str _=>cases h';obtain ⟨t,rfl⟩:=r';exact ⟨RcAt.tuple_str _ _ it h0,RcNeAt.tuple_str _ _ it h0⟩
 |non =>
  cases h;cases r
  cases y with
  |ref _=>cases hy
  |ty _=>cases hy
  |lsf _=>cases hy
  |exc _ _ _=>cases hy
  |dcf _ _=>cases hy
  |tup ys=>obtain ⟨b,us,its',rfl,rfl,q',rs',vr',it',_⟩:=xT I h' r';exact ⟨RcAt.none_tuple it' h0,RcNeAt.none_tuple it' h0⟩
  |non=>cases h';cases r';exact ⟨RcAt.none_none,RcNeAt.none_none⟩
  |bl _=>cases h';cases r';exact ⟨RcAt.none_bool _,RcNeAt.none_bool _⟩
  |int _=>cases h';obtain ⟨t,rfl⟩:=r';exact ⟨RcAt.none_int _ _,RcNeAt.none_int _ _⟩
  |str _=>cases h';obtain ⟨t,rfl⟩:=r';exact ⟨RcAt.none_str _ _,RcNeAt.none_str _ _⟩
 |bl _ =>
  cases h;cases r
  cases y with
  |ref _=>cases hy
  |ty _=>cases hy
  |lsf _=>cases hy
  |exc _ _ _=>cases hy
  |dcf _ _=>cases hy
  |tup ys=>obtain ⟨b,us,its',rfl,rfl,q',rs',vr',it',_⟩:=xT I h' r';exact ⟨RcAt.bool_tuple _ it' h0,RcNeAt.bool_tuple _ it' h0⟩
  |non=>cases h';cases r';exact ⟨RcAt.bool_none _,RcNeAt.bool_none _⟩
  |bl _=>cases h';cases r';exact ⟨RcAt.bool_bool _ _,RcNeAt.bool_bool _ _⟩
  |int _=>cases h';obtain ⟨t,rfl⟩:=r';exact ⟨RcAt.bool_int _ _ _,RcNeAt.bool_int _ _ _⟩
  |str _=>cases h';obtain ⟨t,rfl⟩:=r';exact ⟨RcAt.bool_str _ _ _,RcNeAt.bool_str _ _ _⟩
 |int _ =>
  cases h;obtain ⟨t0,rfl⟩:=r
  cases y with
  |ref _=>cases hy
  |ty _=>cases hy
  |lsf _=>cases hy
  |exc _ _ _=>cases hy
  |dcf _ _=>cases hy
  |tup ys=>obtain ⟨b,us,its',rfl,rfl,q',rs',vr',it',_⟩:=xT I h' r';exact ⟨RcAt.int_tuple _ _ it' h0,RcNeAt.int_tuple _ _ it' h0⟩
  |non=>cases h';cases r';exact ⟨RcAt.int_none _ _,RcNeAt.int_none _ _⟩
  |bl _=>cases h';cases r';exact ⟨RcAt.int_bool _ _ _,RcNeAt.int_bool _ _ _⟩
  |int _=>cases h';obtain ⟨t,rfl⟩:=r';exact ⟨RcAt.int_int _ _ _ _,RcNeAt.int_int _ _ _ _⟩
  |str _=>cases h';obtain ⟨t,rfl⟩:=r';exact ⟨RcAt.int_str _ _ _ _,RcNeAt.int_str _ _ _ _⟩
 |str _ =>
  cases h;obtain ⟨t0,rfl⟩:=r
  cases y with
  |ref _=>cases hy
  |ty _=>cases hy
  |lsf _=>cases hy
  |exc _ _ _=>cases hy
  |dcf _ _=>cases hy
  |tup ys=>obtain ⟨b,us,its',rfl,rfl,q',rs',vr',it',_⟩:=xT I h' r';exact ⟨RcAt.str_tuple _ _ it' h0,RcNeAt.str_tuple _ _ it' h0⟩
  |non=>cases h';cases r';exact ⟨RcAt.str_none _ _,RcNeAt.str_none _ _⟩
  |bl _=>cases h';cases r';exact ⟨RcAt.str_bool _ _ _,RcNeAt.str_bool _ _ _⟩
  |int _=>cases h';obtain ⟨t,rfl⟩:=r';exact ⟨RcAt.str_int _ _ _ _,RcNeAt.str_int _ _ _ _⟩
  |str _=>cases h';obtain ⟨t,rfl⟩:=r';exact ⟨RcAt.str_str _ _ _ _,RcNeAt.str_str _ _ _ _⟩
theorem zcr (I:Inv X pins σ H s) {G:Hw} {p:Addr} {ws:List W} (ab:xI X.K H G) (e:yN G p=some ws):∃ vs its,rF X.K H p vs/\yY X.K H ws vs/\yX vs its/\s.heap.IsList p its.toArray/\PlainL s.heap p its.toArray/\ws.length<=sizeLine:=by
 obtain ⟨vs,q,r⟩:=ab.seq e;obtain ⟨its,vr,pl,hl⟩:=I.list q;exact ⟨vs,its,q,r,vr,(let ⟨o,n,h1,h2,_,h3⟩:=pl;⟨o,h1,h2,n,h3⟩),pl,by rw [← r.length];exact hl⟩
theorem zhc (I:Inv X pins σ H s) {G:Hw} {p q:Addr} {xs ys:List W} {A:Around} (ab:xI X.K H G) (e:yN G p=some xs) (e':yN G q=some ys) (hx:yA xs=true) (hy:yA ys=true) (hu:A.units+1+min (yC xs) (yC ys)<cLine) :
  RcAt A s (.ref p) (.ref q) (qX xs ys)/\RcNeAt A s (.ref p) (.ref q) (!qX xs ys):=by
 obtain ⟨vs,its,_,rs,vr,il,_⟩:=zcr I ab e;obtain ⟨us,its',_,rs',vr',il',_⟩:=zcr I ab e';have h0:A.units<cLine:=by omega
 have l1:its.toArray.size=xs.length:=by rw [zzS,← vr.length,rs.length]
 have l2:its'.toArray.size=ys.length:=by rw [zzS,← vr'.length,rs'.length]
 have key:∀ (j:Nat) (j1:j<its.toArray.size) (j2:j<its'.toArray.size),EqAt A.in1 s its.toArray[j] its'.toArray[j] (uD xs ys j):=fun j j1 j2 =>
  zcT I rs vr rs' vr' hx hy (A:=A.in1) hu j (by simpa using j1) (by simpa using j2)
 by_cases hl:xs.length=ys.length
 .rw [← zcR hl,← l1];exact ⟨RcAt.lists il il' (by omega) h0 key,RcNeAt.lists il il' (by omega) h0 key⟩
 .rw [zey hl];have:(its.toArray.size != its'.toArray.size)=true:=by simp only [bne_iff_ne];omega
  exact ⟨RcAt.lists_lengths il il' this h0,RcNeAt.lists_lengths il il' this h0⟩
end
end L3
namespace PySem
open Sem (wp)
open Builtin
theorem fJ:fillsNumberSlot (.type "tuple") "mul" = pure false :=
 fillsNumberSlot_seq (id := "tuple.__mul__") (r:=some (.builtin "tuple.__rmul__")) F.slot_tuple_mul.lookup (by decide +kernel) F.slot_tuple_rmul.lookup (by decide +kernel)
theorem fK:seqRepeat? (.type "tuple")=pure (some (.builtin "tuple.__mul__")):=by
 unfold seqRepeat?;rw [seqSlot_of (T := "tuple") (name := "__mul__") (id := "tuple.__mul__") F.slot_tuple_mul.lookup (by decide +kernel),seqSlot_of (T := "tuple") (name := "__rmul__") (id := "tuple.__rmul__") F.slot_tuple_rmul.lookup (by decide +kernel)];rfl
theorem zbK (a:Int) (t:Tok) (l:Addr) (items:Array Value) (n:Nat) (dd:Option Addr) (sl:Array (Option Value)) :
  Meets (Builtin.«int.__rmul__» ⟨[.int a t,.ref l],[]⟩) (fun _ R s=>s.heap.get? l=some { cls:=.type "tuple", dict:=dd,data:=.seq items n,slots:=sl }/\R (.ok (.ret Value.notImplemented)) s) :=
 .of_wp fun prog w A R s h=>by obtain ⟨hp,g,d,tk,os⟩:=s;obtain ⟨hl,h⟩:=h;wp_walk;exact ⟨_,rfl,h⟩
theorem zgM (l:Addr) (items:Array Value) (n:Nat) (u:Tok) (dd:Option Addr) (sl:Array (Option Value)) :
  Meets (Builtin.«tuple.__mul__» ⟨[.ref l,.int 1 u],[]⟩) (fun _ R s=>s.heap.get? l=some { cls:=.type "tuple", dict:=dd,data:=.seq items n,slots:=sl }/\R (.ok (.ret (Value.ref l))) s) :=
 .of_wp fun prog w A R s h=>by obtain ⟨hp,g,d,tk,os⟩:=s;obtain ⟨hl,h⟩:=h;wp_walk;exact ⟨_,rfl,h⟩
theorem zfl (l:Addr) (items:Array Value) (n:Nat) (u:Tok) (dd:Option Addr) (sl:Array (Option Value)) (hi:items.isEmpty=false) :
  Meets (Builtin.«tuple.__mul__» ⟨[.ref l,.int 0 u],[]⟩) (fun _ R s=>s.heap.get? l=some { cls:=.type "tuple", dict:=dd,data:=.seq items n,slots:=sl }/\R (.ok (.ret (Value.ref s.heap.objs.size))) { s with heap:=s.heap.push { cls:=.type "tuple", data:=.seq #[] } }) :=
 .of_wp fun prog w A R s h=>by obtain ⟨hp,g,d,tk,os⟩:=s;obtain ⟨hl,h⟩:=h;wp_walk;exact ⟨_,rfl,h⟩
end PySem
namespace L3
open PySem PySem.Spec PyProof.Rows L2
section
variable {X : Cx}
def rRepT (K:yM):R2:=fun x y H Q=>∃ a k xs,x=.ref a/\y=.int k/\sZ K H a xs/\((k=1/\Q (.ref a) H)\/(k=0/\xs≠[]/\∀ p,H p=none->Q (.ref p) (xE H p (.tup []))))
theorem zfO:kM X (binaryOp .Mult) (rRepT X.K):=by
 intro pins s σ H x y v u Q I rx ry h;obtain ⟨a,k,xs,rfl,rfl,ha,h⟩:=h;cases rx;obtain ⟨t,rfl⟩:=ry;obtain ⟨its,r1,p1,_⟩:=I.tuple ha;obtain ⟨⟨cls,dd,data,sl⟩,ho,hc,n,hd⟩:=id p1;simp only at hc hd;subst hc hd;rcases h with ⟨rfl,q⟩|⟨rfl,hx,q⟩
 .exact wpAny_binaryOp_repeat_ref (T := "tuple") (U := "int") (by decide) ⟨_,ho,rfl⟩ (fun s'=>typeIs_int s' 1 t) fJ F.fills_int_mul F.slot_int_rmul fK F.slot_int_index.lookup
   (call_meets F.slot_int_rmul (typeIs_int s 1 t) F.entry_int_rmul (F.args_int_rmul_2 _ _) (zbK 1 t a its.toArray n dd sl)
    ⟨ho,rfl,⟨_,ho,rfl⟩,call_meets F.slot_tuple_mul ⟨_,ho,rfl⟩ F.entry_tuple_mul (F.args_tuple_mul_2 _ _) (zgM a its.toArray n t dd sl) ⟨ho,.ref a,H,I,rfl,q⟩⟩)
 .have he:its.toArray.isEmpty=false:=by
   cases its with
   |nil=>exact absurd (r1.nil_iff.mp rfl) hx
   |cons _ _=>rfl
  refine wpAny_binaryOp_repeat_ref (T := "tuple") (U := "int") (by decide) ⟨_,ho,rfl⟩ (fun s'=>typeIs_int s' 0 t) fJ F.fills_int_mul F.slot_int_rmul fK F.slot_int_index.lookup
   (call_meets F.slot_int_rmul (typeIs_int s 0 t) F.entry_int_rmul (F.args_int_rmul_2 _ _) (zbK 0 t a its.toArray n dd sl)
    ⟨ho,rfl,⟨_,ho,rfl⟩,call_meets F.slot_tuple_mul ⟨_,ho,rfl⟩ F.entry_tuple_mul (F.args_tuple_mul_2 _ _) (zfl a its.toArray n t dd sl he) ⟨ho,?_⟩⟩)
  refine ⟨.ref s.heap.objs.size,_,I.laid (t':=s.toks) (o:=.tup []) (fun b ob q=>Heap.get?_push_of_some _ q) (zzR _) ?_,rfl,q _ (I.hok.fresh (zzR _))⟩;exact ⟨Nat.zero_le _,[],.nil,IsTup.new _ _⟩
end
end L3
namespace L3
open PySem PySem.Spec PyProof.Rows L2 PySem.SeqAt
abbrev R3:=W->W->Hw->Q3->Prop
def vK (K:yM) (H:Hp) (Q:VK):Q3:=fun w G'=>∀ v H',yF K H H'->wJ K H' w v->xI K H' G'->Q v H'
def pL (r:R3):Prop:=∀ x y G (Q Q':Q3),(∀ w G',Q w G'->Q' w G')->r x y G Q->r x y G Q'
def rP (K:yM) (r:R3):R2:=fun v u H Q=>∃ x y G,wJ K H x v/\wJ K H y u/\xI K H G/\r x y G (vK K H Q)
def xB:Operator->R3
 | .Add=>fun x y G Q=>match x,y with
  | .int i,.int j=>Q (.int (i+j)) G
  | .str a,.str b=>a.length+b.length<=sizeLine/\Q (.str (a++b)) G
  | .tup a,.tup b=>a.length+b.length<=sizeLine/\Q (.tup (a++b)) G
  | .ref p,.ref q=>(match G p,G q with
   |some (.lst xs),some (.lst ys)=>xs.length+ys.length<=sizeLine/\∀ r,G r=none->Q (.ref r) (put G r (.lst (xs++ys)))
   |_,_=>False)
  |_,_=>False
 | .Sub=>fun x y G Q=>match x,y with
  | .int i,.int j=>Q (.int (i-j)) G
  |_,_=>False
 | .Mult=>fun x y G Q=>match x,y with
  | .int i,.int j=>gL i j/\Q (.int (i * j)) G
  | .tup xs,.int k=>(k=1/\Q (.tup xs) G)\/(k=0/\xs≠[]/\Q (.tup []) G)
  | .ref p,.int k=>(match G p with
   |some (.lst xs)=>(-(2 ^ 63)<=k/\k<2 ^ 63/\xs.length * k.toNat<=sizeLine)/\∀ r,G r=none->Q (.ref r) (put G r (.lst (List.replicate k.toNat xs).flatten))
   |_=>False)
  |_,_=>False
 | .Mod=>fun x y G Q=>match x,y with
  | .int i,.int j=>0<j/\Q (.int (i % j)) G
  |_,_=>False
 | .FloorDiv=>fun x y G Q=>match x,y with
  | .int i,.int j=>CDiv i j/\Q (.int (i / j)) G
  |_,_=>False
 | .Pow=>fun x y G Q=>match x,y with
  | .int i,.int j=>CPow i j/\Q (.int (i ^ j.toNat)) G
  |_,_=>False
 |_=>fun _ _ _ _=>False
theorem cK:∀ op,pL (xB op):=by
 intro op x y G Q Q' k h
 cases op with
 |Add =>
  cases x with
  |int i=>cases y with
   |int j=>exact k _ _ h
   |_=>exact h.elim
  |str i=>cases y with
   |str j=>exact ⟨h.1,k _ _ h.2⟩
   |_=>exact h.elim
  |tup a=>cases y with
   |tup b=>exact ⟨h.1,k _ _ h.2⟩
   |_=>exact h.elim
  |ref p=>cases y with
   |ref q =>
    simp only [xB] at h ⊢
    split at h
    .exact ⟨h.1,fun r hr=>k _ _ (h.2 r hr)⟩
    .exact h.elim
   |_=>exact h.elim
  |_=>exact h.elim
 |Mult =>
  cases x with
  |int i=>cases y with
   |int j=>exact ⟨h.1,k _ _ h.2⟩
   |_=>exact h.elim
  |tup a=>cases y with
   |int j=>exact h.imp (fun z=>⟨z.1,k _ _ z.2⟩) fun z=>⟨z.1,z.2.1,k _ _ z.2.2⟩
   |_=>exact h.elim
  |ref p=>cases y with
   |int q =>
    simp only [xB] at h ⊢
    split at h
    .exact ⟨h.1,fun r hr=>k _ _ (h.2 r hr)⟩
    .exact h.elim
   |_=>exact h.elim
  |_=>exact h.elim
 |Sub =>
  cases x with
  |int i=>cases y with
   |int j=>exact k _ _ h
   |_=>exact h.elim
  |_=>exact h.elim
 |Mod =>
  cases x with
  |int i=>cases y with
   |int j=>exact ⟨h.1,k _ _ h.2⟩
   |_=>exact h.elim
  |_=>exact h.elim
 |FloorDiv =>
  cases x with
  |int i=>cases y with
   |int j=>exact ⟨h.1,k _ _ h.2⟩
   |_=>exact h.elim
  |_=>exact h.elim
 |Pow =>
  cases x with
  |int i=>cases y with
   |int j=>exact ⟨h.1,k _ _ h.2⟩
   |_=>exact h.elim
  |_=>exact h.elim
 |_=>exact h.elim
section
variable {X : Cx}
theorem yY.nil_iff {K:yM} {H:Hp} {ws:List W} {vs:List V} (h:yY K H ws vs):vs=[]↔ws=[]:=by
 have:=h.length
 constructor
 .intro e;subst e;exact List.eq_nil_of_length_eq_zero this.symm
 .intro e;subst e;exact List.eq_nil_of_length_eq_zero this
theorem zgB {pins:List (Addr×Obj)} {s:Shared} {σ:L2.St} {H:Hp} {a b:Addr} {Q:Value->Shared->Prop} {E:Value->Shared->Prop} {ws:List Value} (ht:IsTup s.heap a #[]) (hb:IsTup s.heap b ws.toArray) (h:Q (.ref b) s) :
  wpAny (model X.prog X.w) X.A (binaryOp .Add (.ref a) (.ref b)) Q E s:=by
 obtain ⟨⟨cls,dd,data,sl⟩,ho,hc,n,hd⟩:=id ht;obtain ⟨⟨cls2,dd2,data2,sl2⟩,ho2,hc2,n2,hd2⟩:=id hb;simp only at hc hd hc2 hd2;subst hc hd hc2 hd2
 exact concat_meets ⟨_,ho,rfl⟩ ⟨_,ho2,rfl⟩ noFill_tuple_add seq_tuple_add PySem.F.slot_tuple_add PySem.F.entry_tuple_add (PySem.F.args_tuple_add_2 _ _)
  (tuple_addW0 a b #[] ws.toArray n n2 dd dd2 sl sl2 rfl) ⟨ho,ho2,h⟩
theorem qQ {K:yM} {H:Hp} {G:Hw} {Q:VK} {ws:List W} {vs:List V} (ab:xI K H G) (r:yY K H ws vs) (h:∀ p,G p=none->vK K H Q (.ref p) (put G p (.lst ws))):∀ p,H p=none->Q (.ref p) (xE H p (.lst vs)):=fun p hp =>
 h p (ab.free hp) _ _ (wL hp) rfl (ab.new hp ⟨vs,rfl,r.mono (wL hp)⟩)
theorem sP {K:yM} {H:Hp} {G:Hw} {Q:VK} {ws:List W} {vs:List V} (ab:xI K H G) (r:yY K H ws vs) (h:vK K H Q (.tup ws) G):∀ p,H p=none->Q (.ref p) (xE H p (.tup vs)):=fun p hp =>
 h _ _ (wL hp) ⟨p,vs,rfl,.of wE,r.mono (wL hp)⟩ (ab.tup hp)
theorem yY.flat {K:yM} {H:Hp} {ws:List W} {vs:List V} (h:yY K H ws vs):∀ k:Nat,yY K H (List.replicate k ws).flatten (List.replicate k vs).flatten
 | 0=>rfl
 |k+1=>by rw [List.replicate_succ,List.replicate_succ,List.flatten_cons,List.flatten_cons];exact h.append (yY.flat h k)
theorem ziq (op:Operator):kM X (binaryOp op) (rP X.K (xB op)):=by
 intro pins s σ H v u a b Q I rv ru h;obtain ⟨x,y,G,rx,ry,ab,h⟩:=h
 cases op with
 |Add =>
  cases x with
  |int i =>
   cases y with
   |int j=>cases rx;cases ry;exact zhE pins s σ H _ _ _ _ Q I rv ru ⟨i,j,rfl,rfl,h _ _ .refl rfl ab⟩
   |_=>exact h.elim
  |str i =>
   cases y with
   |str j=>cases rx;cases ry;exact zbl pins s σ H _ _ _ _ Q I rv ru ⟨i,j,rfl,rfl,h.1,h.2 _ _ .refl rfl ab⟩
   |_=>exact h.elim
  |tup xs =>
   cases y with
   |tup ys =>
    obtain ⟨a1,vs,its,rfl,rfl,q,rs,vr,it,_⟩:=xT I rx rv;obtain ⟨b1,us,its',rfl,rfl,q',rs',vr',it',_⟩:=xT I ry ru
    by_cases e:xs=[]
    .subst e;have e1:vs=[]:=(rs.nil_iff).mpr rfl;subst e1;cases vr;exact zgB (pins:=pins) (σ:=σ) (H:=H) it it' ⟨.ref b1,H,I,rfl,h.2 _ _ .refl ⟨b1,us,rfl,q',rs'⟩ ab⟩
    .refine zfQ pins s σ H (.ref a1) (.ref b1) _ _ Q I rfl rfl ⟨a1,b1,vs,us,rfl,rfl,q,q',fun z=>e (rs.nil_iff.mp z),by rw [rs.length,rs'.length];exact h.1,fun z=>?_,fun _=>?_⟩
     .have:ys=[]:=rs'.nil_iff.mp z;subst this;exact h.2 _ _ .refl ⟨a1,vs,rfl,q,by rw [List.append_nil];exact rs⟩ ab
     .exact sP ab (rs.append rs') h.2
   |_=>exact h.elim
  |ref p =>
   cases y with
   |ref q =>
    cases rx;cases ry;simp only [xB] at h
    split at h
    .rename_i xs ys e1 e2;obtain ⟨vs,q1,r1⟩:=ab.lst e1;obtain ⟨us,q2,r2⟩:=ab.lst e2;exact zhD pins s σ H _ _ _ _ Q I rv ru ⟨p,q,vs,us,rfl,rfl,q1,q2,by rw [r1.length,r2.length];exact h.1,qQ ab (r1.append r2) h.2⟩
    .exact h.elim
   |_=>exact h.elim
  |_=>exact h.elim
 |Sub =>
  cases x with
  |int i =>
   cases y with
   |int j=>cases rx;cases ry;exact zhy pins s σ H _ _ _ _ Q I rv ru ⟨i,j,rfl,rfl,h _ _ .refl rfl ab⟩
   |_=>exact h.elim
  |_=>exact h.elim
 |Mult =>
  cases x with
  |int i =>
   cases y with
   |int j=>cases rx;cases ry;exact zhB pins s σ H _ _ _ _ Q I rv ru ⟨i,j,rfl,rfl,h.1,h.2 _ _ .refl rfl ab⟩
   |_=>exact h.elim
  |tup xs =>
   cases y with
   |int k =>
    obtain ⟨a1,vs,its,rfl,rfl,q,rs,vr,it,_⟩:=xT I rx rv;cases ry;refine zfO pins s σ H (.ref a1) (.int k) _ _ Q I rfl ru ⟨a1,k,vs,rfl,rfl,q,?_⟩;rcases h with ⟨e,h⟩|⟨e,hx,h⟩
    .exact .inl ⟨e,h _ _ .refl ⟨a1,vs,rfl,q,rs⟩ ab⟩
    .exact .inr ⟨e,fun z=>hx (rs.nil_iff.mp z),sP ab (ws:=[]) (vs:=[]) rfl h⟩
   |_=>exact h.elim
  |ref p =>
   cases y with
   |int k =>
    cases rx;cases ry;simp only [xB] at h
    split at h
    .rename_i xs e1;obtain ⟨vs,q1,r1⟩:=ab.lst e1;exact zhz pins s σ H _ _ _ _ Q I rv ru ⟨p,k,vs,rfl,rfl,q1,h.1.1,h.1.2.1,by rw [r1.length];exact h.1.2.2,qQ ab (r1.flat _) h.2⟩
    .exact h.elim
   |_=>exact h.elim
  |_=>exact h.elim
 |Mod =>
  cases x with
  |int i =>
   cases y with
   |int j=>cases rx;cases ry;exact zhC pins s σ H _ _ _ _ Q I rv ru ⟨i,j,rfl,rfl,h.1,h.2 _ _ .refl rfl ab⟩
   |_=>exact h.elim
  |_=>exact h.elim
 |FloorDiv =>
  cases x with
  |int i =>
   cases y with
   |int j=>cases rx;cases ry;exact zfP pins s σ H _ _ _ _ Q I rv ru ⟨i,j,rfl,rfl,h.1,h.2 _ _ .refl rfl ab⟩
   |_=>exact h.elim
  |_=>exact h.elim
 |Pow =>
  cases x with
  |int i =>
   cases y with
   |int j=>cases rx;cases ry;exact zhA pins s σ H _ _ _ _ Q I rv ru ⟨i,j,rfl,rfl,h.1,h.2 _ _ .refl rfl ab⟩
   |_=>exact h.elim
  |_=>exact h.elim
 |_=>exact h.elim
end
theorem hW {k:Str}:∀ {es:List DictEntry} {ks:List Str} {vs:List V},zgG es ks vs->(es.all fun e=>isExactStrKey e.key)=true/\(match (ks.zip vs).lookup k with
  |some v=>∃ u,(es.find? fun e=>e.key.isStr k).map (·.val)=some u/\yW v u
  |none=>(es.find? fun e=>e.key.isStr k).map (·.val)=none)
 | [],ks,vs,h=>by obtain ⟨rfl,rfl⟩:=h;exact ⟨rfl,rfl⟩
 |e::r,ks,vs,h=>by
  obtain ⟨x,t,v,ks',vs',rfl,rfl,hk,hv,hr⟩:=h;have ih:=hW (k:=k) hr;refine ⟨by rw [List.all_cons,hk,ih.1];rfl,?_⟩;rw [List.zip_cons_cons,List.lookup_cons,List.find?_cons,KTD.key_is hk k]
  by_cases hx:k=x
  .subst hx;simp only [beq_self_eq_true,decide_true];exact ⟨e.val,rfl,hv⟩
  .have e1:(k==x)=false:=by simpa using hx
   rw [e1,decide_eq_false hx];exact ih.2
theorem zfb {X:Cx} {pins:List (Addr×Obj)} {σ:L2.St} {H:Hp} {s:Shared} {a:Addr} {ks:List Str} {vs:List V} {k:Str} {tk:Tok} {A:Around} {Q:Option Value->Shared->Prop} {E:Value->Shared->Prop} (I:Inv X pins σ H s) (h:KD X.K a ks vs)
  (q:match (ks.zip vs).lookup k with|some v=>∀ u s',yW v u->Inv X pins σ H s'->Q (some u) s'|none=>∀ s',Inv X pins σ H s'->Q none s'):wpAny (model X.prog X.w) A (dictGet a (.str k tk)) Q E s:=by
 obtain ⟨o,es,ep,l,_,hd,_,_,hr⟩:=h;have ho:=I.kIn _ _ l;obtain ⟨hx,hf⟩:=hW (k:=k) hr;have J:Inv X pins σ H { s with toks:=s.toks+1 }:=I.tok _;unfold dictGet
 try with_reducible refine wpAny_holding ?_
 refine wpAny_bind (wpAny_pyHash_str (wpAny_bind ?_));refine KTD.kt_dictFind_strs (s:={ s with toks:=s.toks+1 }) ho hd (by obtain ⟨es'⟩:=es;simpa using hx) ?_
 have key:Q (findBy (fun k v=>v.isStr k) es k) { s with toks:=s.toks+1 }:=by
  have e:findBy (fun k v=>v.isStr k) es k=(es.toList.find? fun e=>e.key.isStr k).map (·.val):=by obtain ⟨es'⟩:=es;simp [findBy]
  rw [e];revert q hf
  cases (ks.zip vs).lookup k with
  |some v=>intro q hf;obtain ⟨u,e1,r⟩:=hf;rw [e1];exact q u _ r J
  |none=>intro q hf;rw [hf];exact q _ J
 rw [findBy_of_findIdx?] at key;revert key
 cases es.findIdx? fun e=>e.key.isStr k with
 |none=>exact fun key=>wpAny_pure key
 |some i=>exact fun key=>wpAny_bind (wpAny_dictEntries (s:={ s with toks:=s.toks+1 }) ho hd (wpAny_pure key))
theorem zhX {X:Cx} {pins:List (Addr×Obj)} {σ:L2.St} {H:Hp} {s:Shared} {a:Addr} {ks:List Str} {vs:List V} (I:Inv X pins σ H s) (h:KD X.K a ks vs):s.TypeIs (.ref a) "dict" := by
 obtain ⟨o,es,ep,l,hc,_⟩:=h;exact ⟨o,I.kIn _ _ l,hc.1⟩
theorem uX {K:yM} {H:Hp} {k:Str} {w:W}:∀ {ks:List Str} {ws:List W} {vs:List V},yY K H ws vs->(ks.zip ws).lookup k=some w->∃ v,(ks.zip vs).lookup k=some v/\wJ K H w v
 | [],ws,vs,_,e=>by simp at e
 |x::ks,[],vs,_,e=>by simp at e
 |x::ks,y::ws,vs,r,e=>by
  obtain ⟨v,vs',rfl,rv,rs⟩:=r;rw [List.zip_cons_cons,List.lookup_cons] at e ⊢
  cases hx:(k==x) with
  |true=>rw [hx] at e;cases e;exact ⟨v,rfl,rv⟩
  |false=>rw [hx] at e;exact uX rs e
theorem pV {K:yM} {H:Hp} {k:Str}:∀ {ks:List Str} {ws:List W} {vs:List V},yY K H ws vs->(ks.zip ws).lookup k=none->(ks.zip vs).lookup k=none
 | [],ws,vs,_,e=>by simp
 |x::ks,[],vs,r,e=>by rw [show vs=[] from r];rfl
 |x::ks,y::ws,vs,r,e=>by
  obtain ⟨v,vs',rfl,rv,rs⟩:=r;rw [List.zip_cons_cons,List.lookup_cons] at e ⊢
  cases hx:(k==x) with
  |true=>rw [hx] at e;cases e
  |false=>rw [hx] at e;exact pV rs e
theorem zfa {X:Cx} {pins:List (Addr×Obj)} {σ:L2.St} {H:Hp} {s:Shared} {a:Addr} {ks:List Str} {vs:List V} {k:Str} {tk:Tok} {A:Around} {Q:Bool->Shared->Prop} {E:Value->Shared->Prop} (I:Inv X pins σ H s) (h:KD X.K a ks vs)
  (q:∀ s',Inv X pins σ H s'->Q ((ks.zip vs).lookup k).isSome s'):wpAny (model X.prog X.w) A (contains (.ref a) (.str k tk)) Q E s:=by
 have hT:=zhX I h;have hd:(a==sysModules)=false:=by obtain ⟨o,es,ep,l,_,_,_,z,_⟩:=h;exact z
 have nn:¬ ((some (Value.builtin "dict.__contains__")==some Value.none)=true):=by rw [beq_builtin_none];simp
 unfold contains;refine wpAny_holding (wpAny_bind (wpAny_specialOf hT PySem.F.slot_dict_contains.lookup ?_));dsimp only;rw [if_neg nn];refine wpAny_bind (wpAny_callSpecialUnlessNone?_slot (name:=Str.ofString "__contains__") hT PySem.F.slot_dict_contains (wpAny_call_entry PySem.F.slot_dict_contains hT PySem.F.entry_dict_contains (show wpAny _ _ (dictGet a (.str k tk) >>= _) _ _ s from wpAny_bind (zfb I h ?_)) (PySem.F.args_dict_contains_2 _ _)));revert q
 cases (ks.zip vs).lookup k with
 |some v=>exact fun q u s' r J=>wpAny_pure ⟨_,rfl,wpAny_truthy_bool (q s' J)⟩
 |none=>exact fun q s' J=>wpAny_bind (wpAny_pendingKey_other hd (wpAny_pure ⟨_,rfl,wpAny_truthy_bool (q s' J)⟩))
def eqG (G:Hw):W->W->Option Bool
 | .ref p,.ref q=>match yN G p,yN G q with
  |some a,some b=>if (yA a&&yA b&&decide (min (yC a) (yC b)<=150))=true then some (qX a b) else none
  |_,_=>none
 |x,y=>if (jD x&&jD y&&decide (min (dep x) (dep y)<=150))=true then some (jK x y) else none
def inR (neg:Bool) (x:W) (ws:List W) (G:Hw) (Q:Q3):Prop:=(jD x=true/\yA ws=true/\min (yC ws) (dep x)<=150)/\Q (.bl (if neg then !ws.any fun w=>jK w x else ws.any fun w=>jK w x)) G
def inStr (neg:Bool) (i j:Str):Bool:=if neg then !(!(Builtin.Str.occurrences j i 0 j.length 1).isEmpty) else !(Builtin.Str.occurrences j i 0 j.length 1).isEmpty
def pT:W->Option yE
 | .int i=>some (.inl i)
 | .str x=>some (.inr x)
 |_=>none
def hasK {α:Type} (kvs:List (yE×α)) (k:yE):Bool:=kvs.any fun p=>decide (p.1=k)
def qD (neg:Bool):R3:=fun x y G Q=>match y with
 | .tup ws=>inR neg x ws G Q
 | .ref p=>(match G p with
  |some (.lst ws)=>inR neg x ws G Q
  |some (.fix ws)=>inR neg x ws G Q
  |some (.dic kvs)=>(match pT x with|some k=>Q (.bl (if neg then !hasK kvs k else hasK kvs k)) G|none=>False)
  |_=>False)
 | .str j=>(match x with
  | .str i=>Q (.bl (inStr neg i j)) G
  |_=>False)
 | .dcf ks ws=>(match x with
  | .str k=>Q (.bl (if neg then !((ks.zip ws).lookup k).isSome else ((ks.zip ws).lookup k).isSome)) G
  |_=>False)
 |_=>False
def pR (neg:Bool):R3:=fun x y G Q=>match y with
 | .non=>Q (.bl (if neg then (match x with|.non=>false|_=>true) else (match x with|.non=>true|_=>false))) G
 | .bl b=>Q (.bl (if neg then (match x with|.bl c=>!(c==b)|_=>true) else (match x with|.bl c=>c==b|_=>false))) G
 |_=>False
def sR (p:Int->Int->Bool):R3:=fun x y G Q=>match x,y with
 | .int i,.int j=>Q (.bl (p i j)) G
 |_,_=>False
def leS (x y:Str):Bool:=!decide (y.cps.toList<x.cps.toList)
def leR:R3:=fun x y G Q=>match x,y with
 | .int i,.int j=>Q (.bl (decide (i<=j))) G
 | .str i,.str j=>Q (.bl (leS i j)) G
 |_,_=>False
def zD:CmpOp->R3
 | .Eq=>fun x y G Q=>match eqG G x y with|some b=>Q (.bl b) G|none=>False
 | .NotEq=>fun x y G Q=>match eqG G x y with|some b=>Q (.bl (!b)) G|none=>False
 | .Is=>pR false
 | .IsNot=>pR true
 | .In=>qD false
 | .NotIn=>qD true
 | .Lt=>sR fun i j=>decide (i<j)
 | .LtE=>leR
 | .Gt=>sR fun i j=>decide (j<i)
 | .GtE=>sR fun i j=>decide (j<=i)
theorem rS (p:Int->Int->Bool):pL (sR p):=by
 intro x y G Q Q' k h;cases x<;>cases y<;>simp only [sR] at h ⊢<;>first|exact h.elim|exact k _ _ h
theorem zeh:pL leR:=by
 intro x y G Q Q' k h;cases x<;>cases y<;>simp only [leR] at h ⊢<;>first|exact h.elim|exact k _ _ h
theorem dR (neg:Bool):pL (qD neg):=by
 intro x y G Q Q' k h;unfold qD at h ⊢
 cases y with
 |tup ws=>exact ⟨h.1,k _ _ h.2⟩
 |ref p =>
  simp only at h ⊢
  split at h
  .exact ⟨h.1,k _ _ h.2⟩
  .exact ⟨h.1,k _ _ h.2⟩
  .split at h
   .exact k _ _ h
   .exact h.elim
  .exact h.elim
 |str j =>
  cases x with
  |str i=>exact k _ _ h
  |_=>exact h.elim
 |dcf ks ws =>
  cases x with
  |str i=>exact k _ _ h
  |_=>exact h.elim
 |_=>exact h.elim
theorem za0 (neg:Bool):pL (pR neg):=by
 intro x y G Q Q' k h;unfold pR at h ⊢
 cases y with
 |non=>exact k _ _ h
 |bl b=>exact k _ _ h
 |_=>exact h.elim
theorem xU:∀ op,pL (zD op):=by
 intro op x y G Q Q' k h
 cases op with
 |Eq =>
  simp only [zD] at h ⊢
  split at h
  .exact k _ _ h
  .exact h.elim
 |NotEq =>
  simp only [zD] at h ⊢
  split at h
  .exact k _ _ h
  .exact h.elim
 |Is=>exact za0 false x y G Q Q' k h
 |IsNot=>exact za0 true x y G Q Q' k h
 |In=>exact dR false x y G Q Q' k h
 |NotIn=>exact dR true x y G Q Q' k h
 |Lt=>exact rS _ x y G Q Q' k h
 |LtE=>exact zeh x y G Q Q' k h
 |Gt=>exact rS _ x y G Q Q' k h
 |GtE=>exact rS _ x y G Q Q' k h
section
variable {X : Cx} {pins : List (Addr × Obj)} {σ : L2.St} {H : Hp} {s : Shared}
open Classical in
def eqI (K:yM) (H:Hp) (x:W) (y:Value):Bool:=if ∃ w v,wJ K H w v/\yW v y/\jD w=true/\jK w x=true then true else false
theorem zff (I:Inv X pins σ H s) {x w:W} {v:V} {y:Value} (r:wJ X.K H w v) (q:yW v y) (p:jD w=true):eqI X.K H x y=jK w x:=by
 unfold eqI
 cases e:jK w x with
 |true=>rw [if_pos ⟨w,v,r,q,p,e⟩]
 |false =>
  rw [if_neg];rintro ⟨w',v',r',q',p',e'⟩;have:=yW.inj q q';subst this;rw [zb5 I w' w v r' r p' p,e] at e';cases e'
theorem zgi (I:Inv X pins σ H s) {x:W}:∀ {ws:List W} {vs:List V} {us:List Value},yY X.K H ws vs->yX vs us->yA ws=true->us.any (eqI X.K H x)=ws.any fun w=>jK w x:=by
 intro ws
 induction ws with
 |nil=>intro vs us h r _;rw [show _=[] from h] at r;cases r;rfl
 |cons w ws ih =>
  intro vs us h r p;obtain ⟨v,t,e,h,hs⟩:=h;subst e
  cases r with
  |cons r rs =>
   have p':=xN.mp p;rw [List.any_cons,List.any_cons,zff I h r p'.1,ih hs rs p'.2]
theorem gW {w:W}:∀ {ws:List W},w∈ws->dep w<=yC ws:=by
 intro ws
 induction ws with
 |nil=>intro h;cases h
 |cons x xs ih =>
  intro h;simp only [yC];rcases List.mem_cons.mp h with e|h
  .rw [e];exact Nat.le_max_left _ _
  .exact Nat.le_trans (ih h) (Nat.le_max_right _ _)
theorem zik (I:Inv X pins σ H s) {x:W} {vx:V} {ux:Value} {A:Around} (rx:wJ X.K H x vx) (qx:yW vx ux) (px:jD x=true):∀ {ws:List W} {vs:List V} {us:List Value},yY X.K H ws vs->yX vs us->yA ws=true->A.units+min (yC ws) (dep x)<cLine ->
  ∀ y∈us,EqAt A s y ux (eqI X.K H x y):=by
 intro ws
 induction ws with
 |nil=>intro vs us h r _ _ y hy;rw [show _=[] from h] at r;cases r;cases hy
 |cons w ws ih =>
  intro vs us h r p hu y hy;obtain ⟨v,t,e,h,hs⟩:=h;subst e;simp only [yC] at hu
  cases r with
  |cons r rs =>
   have p':=xN.mp p;rcases List.mem_cons.mp hy with e|hy
   .subst e;rw [zff I h r p'.1];exact zcU I w x v vx _ ux A h r rx qx p'.1 px (by omega)
   .exact ih hs rs p'.2 (by omega) y hy
theorem zat {M:Model} {A:Around} {E:Value->Shared->Prop} {Q:Value->Shared->Prop} {v:Value} {b:Bool} (hb:∀ p,v≠.builtin p) (h:Q (.bool (v==.bool b)) s):wpAny M A (compareOp .Is v (.bool b)) Q E s:=by
 cases v<;>first|exact wpAny_pure h|exact absurd rfl (hb _)
theorem gY {M:Model} {A:Around} {E:Value->Shared->Prop} {Q:Value->Shared->Prop} {v:Value} {b:Bool} (hb:∀ p,v≠.builtin p) (h:Q (.bool (!(v==.bool b))) s):wpAny M A (compareOp .IsNot v (.bool b)) Q E s:=by
 cases v<;>first|exact wpAny_pure h|exact absurd rfl (hb _)
theorem zeT {v:V} {u:Value} (r:yW v u):∀ p,u≠.builtin p:=by
 cases v<;>first
  | (obtain ⟨t,e⟩:=r;subst e;intro p z;cases z)
  | (intro p z;subst z;cases r)
theorem zic (neg:Bool):kM X (compareOp (if neg then .IsNot else .Is)) (rP X.K (pR neg)):=by
 intro pins s σ H v u a b Q I rv ru h;obtain ⟨x,y,G,rx,ry,ab,h⟩:=h;have fin:∀ k k':Bool,vK X.K H Q (.bl k) G->k=k'->EP X pins σ Q (.bool k') s:=fun k k' q e=>⟨.bl k',H,I,rfl,by rw [← e];exact q _ _ .refl rfl ab⟩
 cases y with
 |non =>
  cases ry;cases ru
  cases neg with
  |false =>
   refine is_none_gen (fin _ _ h ?_)
   cases x<;>first
    | (cases rx;cases rv;rfl)
    | (cases rx;obtain ⟨t,rfl⟩:=rv;rfl)
    | (obtain ⟨_,_,rfl,_⟩:=rx;cases rv;rfl)
  |true =>
   refine isnot_none_gen (fin _ _ h ?_)
   cases x<;>first
    | (cases rx;cases rv;rfl)
    | (cases rx;obtain ⟨t,rfl⟩:=rv;rfl)
    | (obtain ⟨_,_,rfl,_⟩:=rx;cases rv;rfl)
 |bl c =>
  cases ry;cases ru
  cases neg with
  |false =>
   refine zat (zeT rv) (fin _ _ h ?_)
   cases x<;>first
    | (cases rx;cases rv;rfl)
    | (cases rx;cases rv;rename_i d;cases c<;>cases d<;>rfl)
    | (cases rx;obtain ⟨t,rfl⟩:=rv;rfl)
    | (obtain ⟨_,_,rfl,_⟩:=rx;cases rv;rfl)
  |true =>
   refine gY (zeT rv) (fin _ _ h ?_)
   cases x<;>first
    | (cases rx;cases rv;rfl)
    | (cases rx;cases rv;rename_i d;cases c<;>cases d<;>rfl)
    | (cases rx;obtain ⟨t,rfl⟩:=rv;rfl)
    | (obtain ⟨_,_,rfl,_⟩:=rx;cases rv;rfl)
 |_=>exact h.elim
theorem zek {K:yM} {H:Hp} {y:W} {v:V} {k:yE} (r:wJ K H y v) (h:pT y=some k):v=kV k:=by
 cases y<;>cases h<;>exact r
theorem zcM {K:yM} {H:Hp} {k:yE}:∀ {l:List (yE×W)} {l':List (yE×V)},yQ K H l l'->(qE l' k).isSome=hasK l k
 | [],_,h=>by rw [show _=[] from h];rfl
 |p::r,_,⟨v,t,e,h,hr⟩=>by
  have ih:=zcM (k:=k) hr;subst e;unfold qE hasK at ih ⊢;rw [List.find?_cons,List.any_cons]
  cases decide (p.1=k) with
  |true=>rfl
  |false=>exact ih
theorem nR (us:List Value) (e:Value->Bool):us.toArray.any e=us.any e:=by simp
theorem ze4 (neg:Bool) (hu:X.A.units+200<cLine):kM X (compareOp (if neg then .NotIn else .In)) (rP X.K (qD neg)):=by
 intro pins s σ H v u a b Q I rv ru h;obtain ⟨x,y,G,rx,ry,ab,h⟩:=h;have fin:∀ k:Bool,vK X.K H Q (.bl k) G->EP X pins σ Q (.bool k) s:=fun k q=>⟨.bl k,H,I,rfl,q _ _ .refl rfl ab⟩
 have sq:∀ (p:Addr) (ws:List W) (vs:List V) (its:List Value),yY X.K H ws vs->yX vs its->(s.heap.IsTuple p its.toArray\/s.heap.IsList p its.toArray)->inR neg x ws G (vK X.K H Q) ->
   wpAny (model X.prog X.w) X.A (compareOp (if neg then .NotIn else .In) a (.ref p)) (EP X pins σ Q) X.xe s:=fun p ws vs its rs vr ht hin=>by
  obtain ⟨⟨p1,p2,p3⟩,q⟩:=hin;have he:∀ y,y∈its.toArray->EqAt X.A.in1 s y a (eqI X.K H x y):=fun y hy=>zik I rx rv p1 rs vr p2 (by show X.A.units+1+_<_;omega) y (by simpa using hy);have ea:=zgi I (x:=x) rs vr p2
  cases neg with
  |false =>
   rcases ht with ht|ht
   .exact in_tupleAt _ ht he (by rw [nR,ea];exact fin _ q)
   .exact in_listAt _ ht he (by rw [nR,ea];exact fin _ q)
  |true =>
   rcases ht with ht|ht
   .exact notIn_tupleAt _ ht he (by rw [nR,ea];exact fin _ q)
   .exact notIn_listAt _ ht he (by rw [nR,ea];exact fin _ q)
 cases y with
 |tup ws =>
  obtain ⟨b1,us,its',rfl,rfl,q',rs',vr',it',_⟩:=xT I ry ru;exact sq b1 ws us its' rs' vr' (.inl it') h
 |ref p =>
  cases ry;cases ru
  have lk:∀ ws,yN G p=some ws->inR neg x ws G (vK X.K H Q)->wpAny (model X.prog X.w) X.A (compareOp (if neg then .NotIn else .In) a (.ref p)) (EP X pins σ Q) X.xe s:=fun ws e q=>by
   obtain ⟨vs,its,_,rs,vr,il,_⟩:=zcr I ab e;exact sq p ws vs its rs vr (.inr il) q
  simp only [qD] at h
  split at h
  .rename_i ws e;exact lk ws (by unfold yN;rw [e]) h
  .rename_i ws e;exact lk ws (by unfold yN;rw [e]) h
  .rename_i kvs e
   split at h
   .rename_i kk ek;obtain ⟨l,e1,rk⟩:=ab.dic e;have ev:=zek rx ek;subst ev;have hs:(qE l kk).isSome=hasK kvs kk:=zcM rk;have dg:DGet H p (kV kk) (qE l kk):=.inl ⟨l,kk,.inl e1,rfl,rfl⟩
    cases neg with
    |false=>exact d_in (by omega) I dg rv fun s' I'=>⟨.bl (qE l kk).isSome,H,I',rfl,by rw [hs];exact h _ H .refl rfl ab⟩
    |true=>exact zgx (by omega) I dg rv fun s' I'=>⟨.bl (!(qE l kk).isSome),H,I',rfl,by rw [hs];exact h _ H .refl rfl ab⟩
   .exact h.elim
  .exact h.elim
 |str j =>
  cases x with
  |str i =>
   cases rx;cases ry
   cases neg with
   |false=>exact zch pins s σ H _ _ _ _ Q I rv ru ⟨i,j,rfl,rfl,h _ _ .refl rfl ab⟩
   |true=>exact bP pins s σ H _ _ _ _ Q I rv ru ⟨i,j,rfl,rfl,h _ _ .refl rfl ab⟩
  |_=>exact h.elim
 |dcf ks ws =>
  cases x with
  |str k =>
   obtain ⟨a1,vs,rfl,kd,rs⟩:=ry;obtain rfl:b=Value.ref a1:=ru;cases rx;obtain ⟨tk,rfl⟩:=rv
   have hs:((ks.zip vs).lookup k).isSome=((ks.zip ws).lookup k).isSome:=by
    cases e:(ks.zip ws).lookup k with
    |none=>rw [pV rs e];rfl
    |some w=>obtain ⟨v,e',_⟩:=uX rs e;rw [e'];rfl
   cases neg with
   |false =>
    show wpAny _ _ (contains (.ref a1) (.str k tk) >>= fun z=>pure (Value.bool z)) _ _ _;exact wpAny_bind (zfa I kd fun s' J=>wpAny_pure ⟨.bl _,H,J,rfl,by rw [hs];exact h _ _ .refl rfl ab⟩)
   |true =>
    show wpAny _ _ (contains (.ref a1) (.str k tk) >>= fun z=>pure (Value.bool (!z))) _ _ _;exact wpAny_bind (zfa I kd fun s' J=>wpAny_pure ⟨.bl _,H,J,rfl,by rw [hs];exact h _ _ .refl rfl ab⟩)
  |_=>exact h.elim
 |_=>exact h.elim
theorem zcg {op:CmpOp} {p:Int->Int->Bool} (ho:kM X (compareOp op) (rI0 fun i j=>.bl (p i j))):kM X (compareOp op) (rP X.K (sR p)):=by
 intro pins s σ H v u a b Q I rv ru h;obtain ⟨x,y,G,rx,ry,ab,h⟩:=h
 cases x with
 |int i =>
  cases y with
  |int j=>cases rx;cases ry;exact ho pins s σ H _ _ _ _ Q I rv ru ⟨i,j,rfl,rfl,h _ _ .refl rfl ab⟩
  |_=>exact h.elim
 |_=>exact h.elim
theorem le_ok:kM X (compareOp .LtE) (rP X.K leR):=by
 intro pins s σ H v u a b Q I rv ru h;obtain ⟨x,y,G,rx,ry,ab,h⟩:=h
 cases x with
 |int i =>
  cases y with
  |int j=>cases rx;cases ry;exact op_le pins s σ H _ _ _ _ Q I rv ru ⟨i,j,rfl,rfl,h _ _ .refl rfl ab⟩
  |_=>exact h.elim
 |str i =>
  cases y with
  |str j =>
   cases rx;cases ry;obtain ⟨t,rfl⟩:=rv;obtain ⟨t',rfl⟩:=ru;exact PySem.P.le_str ⟨.bl (leS i j),H,I,rfl,h _ _ .refl rfl ab⟩
  |_=>exact h.elim
 |_=>exact h.elim
theorem zfg (I:Inv X pins σ H s) (hu:X.A.units+200<cLine) {G:Hw} {x y:W} {v v':V} {u u':Value} {b:Bool} (ab:xI X.K H G) (h:wJ X.K H x v) (r:yW v u) (h':wJ X.K H y v') (r':yW v' u') (e:eqG G x y=some b) :
  RcAt X.A s u u' b/\RcNeAt X.A s u u' (!b):=by
 have gen:∀ (hh:(if (jD x&&jD y&&decide (min (dep x) (dep y)<=150))=true then some (jK x y) else none)=some b),RcAt X.A s u u' b/\RcNeAt X.A s u u' (!b):=fun hh=>by
  split at hh
  .rename_i c;simp only [Bool.and_eq_true,decide_eq_true_eq] at c;cases hh;exact zhb I x y v v' u u' X.A h r h' r' c.1.1 c.1.2 (by omega)
  .cases hh
 cases x with
 |ref p =>
  cases y with
  |ref q =>
   simp only [eqG] at e
   split at e
   .rename_i a1 b1 e1 e2
    split at e
    .rename_i c;simp only [Bool.and_eq_true,decide_eq_true_eq] at c;cases e;cases h;cases h';cases r;cases r';exact zhc I ab e1 e2 c.1.1 c.1.2 (by omega)
    .cases e
   .cases e
  |_=>exact gen e
 |_=>cases y<;>exact gen e
theorem qT (hu:X.A.units+200<cLine) (op:CmpOp):kM X (compareOp op) (rP X.K (zD op)):=by
 cases op with
 |Eq =>
  intro pins s σ H v u a b Q I rv ru h;obtain ⟨x,y,G,rx,ry,ab,h⟩:=h;simp only [zD] at h
  split at h
  .rename_i k e;exact (zfg I hu ab rx rv ry ru e).1 _ _ _ _ ⟨.bl k,H,I,rfl,h _ _ .refl rfl ab⟩
  .exact h.elim
 |NotEq =>
  intro pins s σ H v u a b Q I rv ru h;obtain ⟨x,y,G,rx,ry,ab,h⟩:=h;simp only [zD] at h
  split at h
  .rename_i k e;exact (zfg I hu ab rx rv ry ru e).2 _ _ _ _ ⟨.bl (!k),H,I,rfl,h _ _ .refl rfl ab⟩
  .exact h.elim
 |Is=>exact zic false
 |IsNot=>exact zic true
 |In=>exact ze4 false hu
 |NotIn=>exact ze4 true hu
 |Lt=>exact zcg op_lt
 |LtE=>exact le_ok
 |Gt=>exact zcg op_gt
 |GtE=>exact zcg op_ge
end
end L3
namespace L3
open PySem PySem.Spec PyProof.Rows L2 HT
section
variable {prog : Program} {w : World} {A : Around} {E : Value → Shared → Prop} {s : Shared}
theorem zcO {t sl:Addr} {items:Array Value} {vl vu:Value} {lo hi:Option Int} {Q:Value->Shared->Prop} (ht:IsTup s.heap t items) (hs:s.heap.IsSliceOf sl vl vu .none) (pl:IsPart vl lo) (pu:IsPart vu hi)
  (hw:wF items.size 0 lo=0/\wF items.size items.size hi=items.size) (h:Q (.ref t) s):wpAny (model prog w) A (getItem (.ref t) (.ref sl)) Q E s:=by
 obtain ⟨os,hos,hcs,hds⟩:=id hs;have hTs:s.TypeIs (.ref sl) "slice" := ⟨os,hos,hcs⟩;unfold getItem
 try with_reducible refine wpAny_holding ?_
 first|refine wpAny_bind (wpAny_pure ?_)|skip
 refine wpAny_bind (wpAny_sequenceKey ht.typeIs (by decide) ?_)
 refine wpAny_bind (wpAny_callSpecial?_slot (name:=Str.ofString "__getitem__") ht.typeIs PyProof.Rows.slot_tuple_getitem
  (wpAny_call_entry PyProof.Rows.slot_tuple_getitem ht.typeIs entry_tuple_getitem ?_ (args_tuple_getitem _ _)))
 show wpAny _ _ (Builtin.Tuple.tupleItemsOf (.ref t) >>= _) _ _ s;refine wpAny_bind (tupleItemsOf_ ht ?_);refine wpAny_bind (wpAny_typeOf hTs ?_);rw [if_pos (by decide)];refine wpAny_bind (kR hs pl pu ?_)
 have yes:(((wF items.size 0 lo:Nat):Int)==0&&(1:Int)==1&&(wF items.size items.size hi-wF items.size 0 lo)==items.size)=true:=by
  rw [hw.1,hw.2];simp
 show wpAny _ _ (if (((wF items.size 0 lo:Nat):Int)==0&&(1:Int)==1&&(wF items.size items.size hi-wF items.size 0 lo)==items.size)=true then _ else _) _ _ s;rw [if_pos yes];refine wpAny_bind (m:=Builtin.Tuple.tupleIsExact (.ref t)) ?_;unfold Builtin.Tuple.tupleIsExact;refine wpAny_bind (wpAny_typeOf ht.typeIs (wpAny_pure ?_));rw [if_pos (by decide)];exact wpAny_bind (wpAny_rule (wpAny_pure ⟨_,rfl,wpAny_pure h⟩))
end
section
variable {X : Cx}
def rSlW (K:yM):V->Option Int->Option Int->Hp->VK->Prop:=fun x lo hi H Q=>∃ a xs,x=.ref a/\sZ K H a xs/\(HT.wF xs.length 0 lo=0/\HT.wF xs.length xs.length hi=xs.length)/\Q (.ref a) H
theorem zdH:SlR X (rSlW X.K):=by
 intro pins s σ H x v vl vu lo hi sl Q I rx hs pl pu h;obtain ⟨a,xs,rfl,hx,hw,q⟩:=h;cases rx;obtain ⟨its,r,ht,hz⟩:=I.tuple hx;have hlen:its.toArray.size=xs.length:=by rw [zzS];exact r.length.symm
 exact ⟨"tuple", _,PyProof.Rows.slot_tuple_getitem.lookup,ht.typeIs,zcO ht hs pl pu (by rw [hlen];exact hw) ⟨.ref a,H,I,rfl,q⟩⟩
end
end L3
namespace L3
open PySem PySem.Spec PyProof.Rows L2 PySem.SeqAt
def gG (G:Hw):W->Option Bool
 | .non=>some false
 | .bl b=>some b
 | .int i=>some (i != 0)
 | .str y=>if y.length<=sizeLine then some ((y.length:Int) != 0) else none
 | .tup ws=>some (!ws.isEmpty)
 | .ref p=>match G p with
  |some (.lst ws)=>some (!ws.isEmpty)
  |some (.fix ws)=>some (!ws.isEmpty)
  |some (.dic kvs)=>some (!kvs.isEmpty)
  |_=>none
 |_=>none
theorem yY.empty {K:yM} {H:Hp} {ws:List W} {vs:List V} (h:yY K H ws vs):vs.isEmpty=ws.isEmpty:=by
 have:=h.length;cases ws<;>cases vs<;>simp_all
theorem yQ.length {K:yM} {H:Hp} {κ:Type}:∀ {l:List (κ×W)} {l':List (κ×V)},yQ K H l l'->l'.length=l.length
 | [],_,h=>by rw [show _=[] from h];rfl
 |_::_,_,⟨v,t,e,_,r⟩=>by rw [e,List.length_cons,List.length_cons,yQ.length r]
theorem zfk {K:yM} {H:Hp} {G:Hw} {w:W} {v:V} {k:Bool} (r:wJ K H w v) (ab:xI K H G) (h:gG G w=some k):TruV K v H k:=by
 cases w with
 |non=>cases r;cases h;rfl
 |bl b=>cases r;cases h;rfl
 |int i=>cases r;cases h;rfl
 |str y =>
  cases r;simp only [gG] at h
  split at h
  .rename_i c;cases h;exact ⟨c,rfl⟩
  .cases h
 |ty n=>cases h
 |lsf n=>cases h
 |exc _ _ _=>cases h
 |dcf _ _=>cases h
 |tup ws =>
  obtain ⟨a,vs,rfl,q,rs⟩:=r;cases h;exact .inr (.inl ⟨vs,q,by rw [rs.empty]⟩)
 |ref p =>
  cases r
  have lk:∀ ws,yN G p=some ws->k=!ws.isEmpty->TruV K (.ref p) H k:=fun ws e q=>by
   obtain ⟨vs,sq,rs⟩:=ab.seq e;exact .inl ⟨vs,sq,by rw [rs.empty];exact q⟩
  simp only [gG] at h
  split at h
  .rename_i ws e;cases h;exact lk ws (by unfold yN;rw [e]) rfl
  .rename_i ws e;cases h;exact lk ws (by unfold yN;rw [e]) rfl
  .rename_i kvs e;cases h;obtain ⟨l,e',rk⟩:=ab.dic e;refine .inr (.inr ⟨l,e',?_⟩);have:=rk.length;cases kvs<;>cases l<;>simp_all
  .cases h
def tG {α:Type} (kvs:List (yE×α)) (k:yE):Option α:=(kvs.find? fun kv=>decide (kv.1=k)).map (·.2)
def fR {α:Type} (kvs:List (yE×α)) (k:yE) (v:α):List (yE×α) :=
 if (kvs.any fun kv=>decide (kv.1=k))=true then kvs.map (fun kv=>if kv.1=k then (kv.1,v) else kv) else kvs++[(k,v)]
theorem yQ.get {K:yM} {H:Hp} {k:yE} {w:W}:∀ {l:List (yE×W)} {l':List (yE×V)},yQ K H l l'->tG l k=some w->∃ v,qE l' k=some v/\wJ K H w v
 | [],_,h,e=>by cases e
 |p::r,_,⟨v,t,e,h,hr⟩,q=>by
  subst e;unfold tG at q;rw [List.find?_cons] at q;unfold qE;rw [List.find?_cons]
  by_cases hk:p.1=k
  .simp only [hk,decide_true] at q ⊢;cases q;exact ⟨v,rfl,h⟩
  .simp only [hk,decide_false] at q ⊢;exact yQ.get hr q
theorem yQ.none {K:yM} {H:Hp} {k:yE}:∀ {l:List (yE×W)} {l':List (yE×V)},yQ K H l l'->tG l k=none->qE l' k=none
 | [],_,h,e=>by rw [show _=[] from h];rfl
 |p::r,_,⟨v,t,e,h,hr⟩,q=>by
  subst e;unfold tG at q;rw [List.find?_cons] at q;unfold qE;rw [List.find?_cons]
  by_cases hk:p.1=k
  .simp only [hk,decide_true] at q;cases q
  .simp only [hk,decide_false] at q ⊢;exact yQ.none hr q
theorem yQ.any {K:yM} {H:Hp} {k:yE}:∀ {l:List (yE×W)} {l':List (yE×V)},yQ K H l l'->(l'.any fun kv=>decide (kv.1=k))=l.any fun kv=>decide (kv.1=k)
 | [],_,h=>by rw [show _=[] from h];rfl
 |p::r,_,⟨v,t,e,h,hr⟩=>by subst e;rw [List.any_cons,List.any_cons,yQ.any hr]
theorem yQ.app {K:yM} {H:Hp} {κ:Type}:∀ {l:List (κ×W)} {l':List (κ×V)} {m:List (κ×W)} {m':List (κ×V)},yQ K H l l'->yQ K H m m'->yQ K H (l++m) (l'++m')
 | [],_,_,_,h,h'=>by rw [show _=[] from h];exact h'
 |p::r,_,_,_,⟨v,t,e,h,hr⟩,h'=>by rw [e];exact ⟨v,_,rfl,h,yQ.app hr h'⟩
theorem yQ.repl {K:yM} {H:Hp} {k:yE} {w:W} {v:V} (q:wJ K H w v):∀ {l:List (yE×W)} {l':List (yE×V)},yQ K H l l' ->
  yQ K H (l.map fun kv=>if kv.1=k then (kv.1,w) else kv) (l'.map fun kv=>if kv.1=k then (kv.1,v) else kv)
 | [],_,h=>by rw [show _=[] from h];rfl
 |p::r,_,⟨u,t,e,h,hr⟩=>by
  subst e;rw [zzU,zzU]
  by_cases hk:p.1=k
  .simp only [hk,if_true];exact ⟨v,_,rfl,q,yQ.repl q hr⟩
  .simp only [hk,if_false];exact ⟨u,_,rfl,h,yQ.repl q hr⟩
theorem yQ.put {K:yM} {H:Hp} {k:yE} {w:W} {v:V} {l:List (yE×W)} {l':List (yE×V)} (h:yQ K H l l') (q:wJ K H w v):yQ K H (fR l k w) (vL l' k v):=by
 unfold fR vL;rw [h.any]
 split
 .exact yQ.repl q h
 .exact h.app ⟨v,[],rfl,q,rfl⟩
theorem zcA {K:yM} {H:Hp} {y:W} {v:V} {k:yE} (r:wJ K H y v) (h:pT y=some k):v=kV k:=by
 cases y<;>first|(cases h;cases r;rfl)|cases h
theorem ix_kd {X:Cx} {value slice:PySem.Expr} {pins:List (Addr×Obj)} {s:Shared} {σ:L2.St} {H:Hp} {a:Addr} {u:Value} {ks:List Str} {vs:List V} {k:Str} {v:V} {Q:VK} (I:Inv X pins σ H s) (h:KD X.K a ks vs) (ry:yW (.str k) u) (e:(ks.zip vs).lookup k=some v) (q:Q v H)
  (hs:subscripted slice false (.ref a) u=operate [.ref a,u] (getItem (.ref a) u)):wpAny (model X.prog X.w) X.A (subscriptTail value slice (.ref a) u) (EP X pins σ Q) X.xe s:=by
 have hT:=zhX I h;obtain ⟨tk,rfl⟩:=ry;refine tail_any hT PySem.F.slot_dict_getitem.lookup ?_ hs;unfold getItem
 try with_reducible refine wpAny_holding ?_
 refine wpAny_bind (wpAny_sequenceKey hT (by decide) (wpAny_bind ?_));refine wpAny_callSpecial?_slot (name:=Str.ofString "__getitem__") hT PySem.F.slot_dict_getitem (wpAny_call_entry PySem.F.slot_dict_getitem hT PySem.F.entry_dict_getitem ?_ (PySem.F.args_dict_getitem_2 _ _));show wpAny _ _ (dictGet a (.str k tk) >>= _) _ _ s;refine wpAny_bind (zfb I h ?_);rw [e];exact fun u s' r J=>wpAny_pure ⟨u,rfl,wpAny_pure ⟨v,H,J,r,q⟩⟩
def vP:R3:=fun x y G Q=>match x,y with
 | .tup ws,.int i=>(match tB ws i with|some w=>Q w G|none=>False)
 | .str z,.int i=>z.length<=sizeLine/\(match tB z.cps.toList i with|some c=>Q (.str ⟨#[c]⟩) G|none=>False)
 | .ref p,y=>(match G p with
  |some (.lst ws)=>(match y with|.int i=>(match tB ws i with|some w=>Q w G|none=>False)|_=>False)
  |some (.fix ws)=>(match y with|.int i=>(match tB ws i with|some w=>Q w G|none=>False)|_=>False)
  |some (.dic kvs)=>(match pT y with|some k=>(match tG kvs k with|some w=>Q w G|none=>False)|none=>False)
  |_=>False)
 | .dcf ks ws,.str k=>(match (ks.zip ws).lookup k with|some w=>Q w G|none=>False)
 |_,_=>False
theorem zdk {K:yM} {H:Hp} {ws:List W} {vs:List V} {i:Int} {w:W} (h:yY K H ws vs) (e:tB ws i=some w):∃ v,tB vs i=some v/\wJ K H w v:=by
 unfold tB at e ⊢;rw [h.length]
 cases q:fT ws.length i with
 |none=>rw [q] at e;cases e
 |some j =>
  rw [q] at e;exact h.get e
theorem zaZ:pL vP:=by
 intro x y G Q Q' k h
 cases x with
 |tup ws =>
  cases y<;>simp only [vP] at h ⊢<;>first
   |exact h.elim
   | (split at h<;>first|exact k _ _ h|exact h.elim)
 |str z =>
  cases y<;>simp only [vP] at h ⊢<;>first
   |exact h.elim
   | (refine ⟨h.1,?_⟩;have h:=h.2;split at h<;>first|exact k _ _ h|exact h.elim)
 |ref p =>
  simp only [vP] at h ⊢
  split at h
  .cases y<;>simp only at h ⊢<;>first
    |exact h.elim
    | (split at h<;>first|exact k _ _ h|exact h.elim)
  .cases y<;>simp only at h ⊢<;>first
    |exact h.elim
    | (split at h<;>first|exact k _ _ h|exact h.elim)
  .split at h
   .split at h
    .exact k _ _ h
    .exact h.elim
   .exact h.elim
  .exact h.elim
 |dcf ks ws =>
  cases y<;>simp only [vP] at h ⊢<;>first
   |exact h.elim
   | (split at h<;>first|exact k _ _ h|exact h.elim)
 |_=>exact h.elim
section
variable {X : Cx}
theorem zh1 (hu:X.A.units+200<cLine) {value slice:PySem.Expr} {pins:List (Addr×Obj)} {s:Shared} {σ:L2.St} {H:Hp} {a:Addr} {u:Value} {y v:V} {Q:VK} (I:Inv X pins σ H s) (g:DGet H a y (some v)) (hd:IsD H a) (ry:yW y u) (q:Q v H)
  (hs:subscripted slice false (.ref a) u=operate [.ref a,u] (getItem (.ref a) u)):wpAny (model X.prog X.w) X.A (subscriptTail value slice (.ref a) u) (EP X pins σ Q) X.xe s:=by
 exact tail_any (zid I hd).1 PySem.F.slot_dict_getitem.lookup (zc5 (by omega) I g ry fun w' s' I' r'=>⟨v,H,I',r',q⟩) hs
theorem ix_ok (hu:X.A.units+200<cLine):IxR X (rP X.K vP):=by
 intro value slice pins s σ H v u a b Q I rv ru h hs;obtain ⟨x,y,G,rx,ry,ab,h⟩:=h
 cases x with
 |tup ws =>
  cases y with
  |int i =>
   obtain ⟨a1,vs,rfl,q,rs⟩:=rx;cases ry;simp only [vP] at h
   split at h
   .rename_i w e;obtain ⟨vv,ev,rp⟩:=zdk rs e;exact zhZ value slice pins s σ H _ _ _ _ Q I rv ru ⟨a1,vs,i,vv,rfl,rfl,q,ev,h _ _ .refl rp ab⟩ hs
   .exact h.elim
  |_=>exact h.elim
 |str z =>
  cases y with
  |int i =>
   cases rx;cases ry;simp only [vP] at h;obtain ⟨hz,h⟩:=h
   split at h
   .rename_i c e;exact zh0 value slice pins s σ H _ _ _ _ Q I rv ru ⟨z,i,c,rfl,rfl,hz,e,h _ _ .refl rfl ab⟩ hs
   .exact h.elim
  |_=>exact h.elim
 |ref p =>
  cases rx
  have lk:∀ ws i w,yN G p=some ws->y=.int i->tB ws i=some w->vK X.K H Q w G->wpAny (model X.prog X.w) X.A (subscriptTail value slice a b) (EP X pins σ Q) X.xe s:=fun ws i w e ey ew q=>by
   subst ey;obtain ⟨vs,sq,rs⟩:=ab.seq e;obtain ⟨vv,ev,rp⟩:=zdk rs ew;cases ry;exact zfZ value slice pins s σ H _ _ _ _ Q I rv ru ⟨p,vs,i,vv,rfl,rfl,sq,ev,q _ _ .refl rp ab⟩ hs
  simp only [vP] at h
  split at h
  .rename_i ws e
   cases y with
   |int i =>
    simp only at h
    split at h
    .rename_i w ew;exact lk ws i w (by unfold yN;rw [e]) rfl ew h
    .exact h.elim
   |_=>exact h.elim
  .rename_i ws e
   cases y with
   |int i =>
    simp only at h
    split at h
    .rename_i w ew;exact lk ws i w (by unfold yN;rw [e]) rfl ew h
    .exact h.elim
   |_=>exact h.elim
  .rename_i kvs e
   split at h
   .rename_i k ek
    split at h
    .rename_i w ew;obtain ⟨l,e',rk⟩:=ab.dic e;obtain ⟨vv,ev,rp⟩:=rk.get ew;have ey:=zcA ry ek;subst ey;obtain rfl:a=Value.ref p:=rv;exact zh1 hu I (.inl ⟨l,k,.inl e',rfl,ev.symm⟩) (.inl ⟨l,.inl e'⟩) ru (h _ _ .refl rp ab) hs
    .exact h.elim
   .exact h.elim
  .exact h.elim
 |dcf ks ws =>
  cases y with
  |str k =>
   obtain ⟨a1,vs,rfl,kd,rs⟩:=rx;obtain rfl:a=Value.ref a1:=rv;cases (show u=.str k from ry);simp only [vP] at h
   split at h
   .rename_i w e;obtain ⟨vv,ev,rp⟩:=uX rs e;exact ix_kd I kd ru ev (h _ _ .refl rp ab) hs
   .exact h.elim
  |_=>exact h.elim
 |_=>exact h.elim
end
def pE {α:Type} (xs:List α) (lo hi:Option Int):List α:=(xs.drop (HT.wF xs.length 0 lo)).take (HT.wF xs.length xs.length hi-HT.wF xs.length 0 lo)
theorem bB {K:yM} {H:Hp} {ws:List W} {vs:List V} (h:yY K H ws vs) (lo hi:Option Int):yY K H (pE ws lo hi) (cutV vs lo hi):=by
 unfold pE cutV;rw [h.length];exact (h.drop _).take _
def fD:W->Option Int->Option Int->Hw->Q3->Prop:=fun x lo hi G Q=>match x with
 | .tup ws=>Q (.tup (pE ws lo hi)) G
 | .ref p=>(match yN G p with|some ws=>∀ r,G r=none->Q (.ref r) (put G r (.lst (pE ws lo hi)))|none=>False)
 | .lsf ws=>∀ r,G r=none->Q (.ref r) (put G r (.lst (pE ws lo hi)))
 | .str x=>x.length<=sizeLine/\Q (.str (Txt.slice x lo hi)) G
 |_=>False
theorem zaM {x:W} {lo hi:Option Int} {G:Hw} {Q Q':Q3} (k:∀ w G',Q w G'->Q' w G') (h:fD x lo hi G Q):fD x lo hi G Q':=by
 cases x with
 |tup ws=>exact k _ _ h
 |ref p =>
  simp only [fD] at h ⊢
  split at h
  .exact fun r hr=>k _ _ (h r hr)
  .exact h.elim
 |lsf ws=>exact fun r hr=>k _ _ (h r hr)
 |str x=>exact ⟨h.1,k _ _ h.2⟩
 |_=>exact h.elim
theorem zg1 {X:Cx} {pins:List (Addr×Obj)} {s:Shared} {σ:L2.St} {H:Hp} {x:Str} {v vl vu:Value} {lo hi:Option Int} {sl:Addr} {Q:VK} (I:Inv X pins σ H s) (rv:yW (.str x) v) (hs:s.heap.IsSliceOf sl vl vu .none)
  (pl:IsPart vl lo) (pu:IsPart vu hi) (hz:x.length<=sizeLine) (q:Q (.str (Txt.slice x lo hi)) H):∃ T id,typeLookup (.type T) "__getitem__" = pure (some (.builtin id))/\s.TypeIs v T/\wpAny (model X.prog X.w) X.A (getItem v (.ref sl)) (EP X pins σ Q) X.xe s:=by
 obtain ⟨t,rfl⟩:=rv;have fin:∀ t' k,EP X pins σ Q (.str (Txt.slice x lo hi) t') { s with toks:=k }:=fun t' k=>⟨.str (Txt.slice x lo hi),H,I.tok _,⟨t',rfl⟩,q⟩;have hz':=Nat.le_trans (Txt.slice_le x lo hi) hz;refine ⟨"str", _,F.slot_str_getitem.lookup,typeIs_str _ _ _,?_⟩;obtain ⟨o,ho,hc,hd⟩:=hs
 cases pl with
 |none =>
  cases pu with
  |none=>exact wpAny_getItem_str_slice (l:=none) (u:=none) (st:=none) ⟨o,ho,hc,hd⟩ rfl (post_val_or_str ⟨hz',fin⟩)
  |int j tj=>exact wpAny_getItem_str_slice (l:=none) (u:=some (j,tj)) (st:=none) ⟨o,ho,hc,hd⟩ rfl (post_val_or_str ⟨hz',fin⟩)
 |int i ti =>
  cases pu with
  |none=>exact wpAny_getItem_str_slice (l:=some (i,ti)) (u:=none) (st:=none) ⟨o,ho,hc,hd⟩ rfl (post_val_or_str ⟨hz',fin⟩)
  |int j tj=>exact wpAny_getItem_str_slice (l:=some (i,ti)) (u:=some (j,tj)) (st:=none) ⟨o,ho,hc,hd⟩ rfl (post_val_or_str ⟨hz',fin⟩)
def lowSl (K:yM) (r:W->Option Int->Option Int->Hw->Q3->Prop):V->Option Int->Option Int->Hp->VK->Prop:=fun v lo hi H Q=>∃ x G,wJ K H x v/\xI K H G/\r x lo hi G (vK K H Q)
theorem sl_ok {X:Cx}:SlR X (lowSl X.K fD):=by
 intro pins s σ H v u vl vu lo hi sl Q I rv hs pl pu h;obtain ⟨x,G,rx,ab,h⟩:=h
 cases x with
 |tup ws =>
  obtain ⟨a,vs,rfl,q,rs⟩:=rx
  by_cases hw:HT.wF vs.length 0 lo=0/\HT.wF vs.length vs.length hi=vs.length
  .have e:pE ws lo hi=ws:=by
    have hw':=hw;rw [rs.length] at hw';unfold pE;rw [hw'.1,hw'.2,List.drop_zero,Nat.sub_zero,List.take_length]
   have h':vK X.K H Q (.tup (pE ws lo hi)) G:=h;rw [e] at h';exact zdH pins s σ H _ _ vl vu lo hi sl Q I rv hs pl pu ⟨a,vs,rfl,q,hw,h' _ _ .refl ⟨a,vs,rfl,q,rs⟩ ab⟩
  .exact zg0 pins s σ H _ _ vl vu lo hi sl Q I rv hs pl pu ⟨a,vs,rfl,q,hw,sP ab (bB rs lo hi) h⟩
 |ref p =>
  cases rx;simp only [fD] at h
  split at h
  .rename_i ws e;obtain ⟨vs,sq,rs⟩:=ab.seq e;exact zbV pins s σ H _ _ vl vu lo hi sl Q I rv hs pl pu ⟨p,vs,rfl,sq,qQ ab (bB rs lo hi) h⟩
  .exact h.elim
 |lsf ws =>
  obtain ⟨a,vs,rfl,q,rs⟩:=rx;exact zbV pins s σ H _ _ vl vu lo hi sl Q I rv hs pl pu ⟨a,vs,rfl,.inr q,qQ ab (bB rs lo hi) h⟩
 |str x =>
  cases (show v=.str x from rx);exact zg1 I rv hs pl pu h.1 (h.2 _ _ .refl rfl ab)
 |_=>exact h.elim
def setR:W->W->W->Hw->(Hw->Prop)->Prop:=fun o i v G Q=>match o with
 | .ref p=>(match G p with
  |some (.lst ws)=>(match i with|.int k=>(match fT ws.length k with|some j=>Q (put G p (.lst (ws.set j v)))|none=>False)|_=>False)
  |some (.dic kvs)=>(match pT i with|some k=>kvs.length<sizeLine/\Q (put G p (.dic (fR kvs k v)))|none=>False)
  |_=>False)
 |_=>False
theorem zbX {o i v:W} {G:Hw} {Q Q':Hw->Prop} (k:∀ G',Q G'->Q' G') (h:setR o i v G Q):setR o i v G Q':=by
 cases o with
 |ref p =>
  simp only [setR] at h ⊢
  split at h
  .cases i<;>simp only at h ⊢<;>first
    |exact h.elim
    | (split at h<;>first|exact k _ h|exact h.elim)
  .split at h
   .exact ⟨h.1,k _ h.2⟩
   .exact h.elim
  .exact h.elim
 |_=>exact h.elim
def ze6 (K:yM):TSet:=fun o i v H Q=>∃ x y z G,wJ K H x o/\wJ K H y i/\wJ K H z v/\xI K H G/\setR x y z G fun G'=>∀ H',yF K H H'->xI K H' G'->Q H'
theorem zg2 {X:Cx} (hu:X.A.units+200<cLine):PSet X (ze6 X.K):=by
 intro pins s σ H o i v ov iv u Q I ro ri rv h;obtain ⟨x,y,z,G,rx,ry,rz,ab,h⟩:=h
 cases x with
 |ref p =>
  cases rx;simp only [setR] at h
  split at h
  .rename_i ws e
   cases y with
   |int k =>
    simp only at h
    split at h
    .rename_i j ej;cases ry;obtain ⟨vs,q1,r1⟩:=ab.lst e;refine zdI pins s σ H _ _ _ _ _ _ Q I ro ri rv ⟨p,vs,k,j,rfl,rfl,q1,by rw [r1.length];exact ej,?_⟩;have g:=ab.grow (u:=.lst (vs.set j v)) e;exact h _ g (ab.chg e ⟨_,rfl,((r1.mono g).set (rz.mono g) j)⟩)
    .exact h.elim
   |_=>exact h.elim
  .rename_i kvs e
   split at h
   .rename_i k ek;obtain ⟨l,e',rk⟩:=ab.dic e;have ey:=zcA ry ek;subst ey;obtain rfl:ov=Value.ref p:=ro;refine zc4 (by omega) I (.inl ⟨l,k,e',rfl,by rw [rk.length];exact h.1,rfl⟩) ri rv fun s' I'=>⟨_,I',?_⟩;have g:=ab.grow (u:=.dK (vL l k v)) e;exact h.2 _ g (ab.chg e ⟨_,rfl,(rk.mono g).put (rz.mono g)⟩)
   .exact h.elim
  .exact h.elim
 |_=>exact h.elim
end L3
namespace L3
open PySem PySem.Spec PyProof.Rows L2
abbrev XQ:=Str->List (Str×W)->Hw->Prop
def XN:XQ:=fun _ _ _=>False
abbrev vO:=List W->Hw->Q3->XQ->Prop
structure Fn3 where
 nm:Str
 sp:vO
structure Mt3 where
 nm:Str
 T:String
 sp:W->List W->Hw->Q3->Prop
abbrev I3:=jE->Hw->(List W->(Hw->Prop)->Hw->Prop)->Prop
structure It3 where
 nm:Str
 sp:List W->Hw->(List W->(Hw->Prop)->Hw->Prop)->Prop
structure Sx3 where
 m:Scope->Expr->Option (List Expr)
 sp:List W->Hw->Q3->Prop
structure Ix3 where
 m:Scope->Expr->Option (List Expr)
 sp:List W->Hw->(List W->(Hw->Prop)->Hw->Prop)->Prop
structure Ctx3 where
 fn:List Fn3
 gl:List (Str×W)
 mt:List Mt3
 it:List It3
 cl:List (Addr×List Str)
 sx:List Sx3
 ix:List Ix3
set_option genInjectivity false
mutual
inductive IE where
 |var (i:Nat)|con (c:Const)|glb (i:Nat)
 |bin (op:Operator) (a b:IE)|neg (a:IE)|not (a:IE)
 |cmp (op:CmpOp) (a b:IE)|chn (o1 o2:CmpOp) (a b c:IE)
 |and (a b:IE)|or (a b:IE)|ite (c a b:IE)
 |ix (a i:IE)|sl (a:IE) (lo hi:IO)
 |tup (es:IEs)|lst (es:IEs)|dct (ks:List Str) (es:IEs)
 |call (f:Nat) (es:IEs)|mth (m:Nat) (o:IE) (es:IEs)|att (o:IE) (f:Str)
 |lc (tg:ITg) (names:List Str) (caps:List Nat) (it:II) (c:IO) (elt:IE)
 |spc (i:Nat) (es:IEs)|ch3 (o1 o2 o3:CmpOp) (a b c d:IE)
inductive IO where
 |no|yes (e:IE)
inductive IEs where
 |nil|cons (e:IE) (es:IEs)
inductive II where
 |val (e:IE)|blt (i:Nat) (es:IEs)|spc (i:Nat) (es:IEs)
inductive ITg where
 |nm (i:Nat)|tup (ts:ITgs)
inductive ITgs where
 |nil|cons (t:ITg) (ts:ITgs)
end
mutual
inductive IS where
 |asg (i:Nat) (e:IE)|asgT (ts:ITgs) (e:IE)|asgI (o i e:IE)|asgA (o:IE) (f:Str) (e:IE)
 |ex (e:IE)|ret (e:IE)|retN|pass|brk|cnt
 |ite (c:IE) (a b:ISs)|whl (c:IE) (b:ISs)|for (tg:ITg) (it:II) (b:ISs)|dead|asgS (i j:Nat) (e:IE)
inductive ISs where
 |nil|cons (s:IS) (ss:ISs)
end
def zL:Const->Option W
 | .none=>some .non
 | .bool b=>some (.bl b)
 | .int i=>some (.int i)
 | .str x=>some (.str x)
 |_=>none
abbrev G3:=W->jE->Hw->(jE->Hw->Prop)->Prop
abbrev Gs3:=List W->jE->Hw->(jE->Hw->Prop)->Prop
mutual
def zW:ITg->G3
 | .nm i=>fun w σ G Q=>Q (σ.set i (some w)) G
 | .tup ts=>fun w σ G Q=>match w with
  | .tup ws=>zZ ts ws σ G Q
  |_=>False
def zZ:ITgs->Gs3
 | .nil=>fun ws σ G Q=>match ws with | []=>Q σ G|_=>False
 | .cons t ts=>fun ws σ G Q=>match ws with
  |w::r=>zW t w σ G fun σ' G'=>zZ ts r σ' G' Q
  | []=>False
end
def tF (k:Nat) (caps:List Nat) (σ:jE):jE:=List.replicate k none++caps.map fun j=>(σ[j]?).join
def sgs (x:Str):List W:=x.cps.toList.map fun c=>.str ⟨#[c]⟩
def kW:yE->W
 | .inl i=>.int i
 | .inr x=>.str x
def zc1 (G:Hw) (p:Addr):Option (List (yE×W)):=match G p with
 |some (.dic kvs)=>some kvs
 |some (.fzd kvs)=>some kvs
 |_=>none
def qS (w:W) (G:Hw) (R:List W->(Hw->Prop)->Hw->Prop):Prop:=match w with
 | .tup ws=>R ws (fun _=>True) G
 | .ref p=>(match yN G p with
  |some ws=>R ws (fun G'=>yN G' p=some ws) G
  |none=>(match zc1 G p with
   |some kvs=>R (kvs.map fun kv=>kW kv.1) (fun G'=>G' p=some (.fzd kvs)) (put G p (.fzd kvs))
   |none=>False))
 | .str x=>R (sgs x) (fun _=>True) G
 |_=>False
def lcR (items:List W) (stab:Hw->Prop) (G1:Hw) (turn:W->Hw->(Option W->Hw->Prop)->Prop) (Q:Q3):Prop :=
 ∃ Pv:Nat->List W->Hw->Prop,Pv 0 [] G1/\(∀ i acc G,Pv i acc G->i<=items.length->stab G/\acc.length<=i)/\items.length<=sizeLine /\
  (∀ i w acc G,items[i]?=some w->Pv i acc G->turn w G fun o G'=>match o with|some x=>Pv (i+1) (acc++[x]) G'|none=>Pv (i+1) acc G') /\
  ∀ acc G,Pv items.length acc G->∀ p,G p=none->Q (.ref p) (put G p (.lst acc))
def zM (w:W) (G:Hw) (Q:Q3):Prop:=match w with|.int i=>Q (.int (-i)) G|_=>False
def zB (w:W) (Q:Bool->Prop):Prop:=match w with|.bl b=>Q b|_=>False
def zN (w:W) (Q:Int->Prop):Prop:=match w with|.int i=>Q i|_=>False
def tyW (G:Hw):W->String->Prop
 | .str _,T=>T = "str"
 | .ref p,T=>match G p with
  |some (.lst _)=>T = "list"
  |some (.fix _)=>T = "list"
  |some (.dic _)=>T = "dict"
  |_=>False
 |_,_=>False
def attR (cl:List (Addr×List Str)) (f:Str) (w:W) (G:Hw) (Q:Q3):Prop:=match w with
 | .ref p=>(match G p with
  |some (.ins C fs)=>(∃ l,(C,l)∈cl/\f∈l)/\(match fs.lookup f with|some v=>Q v G|none=>False)
  |_=>False)
 |_=>False
def zb6 (f:Str) (v:W):List (Str×W)->List (Str×W)
 | []=>[(f,v)]
 | (g,x)::r=>if g=f then (g,v)::r else (g,x)::zb6 f v r
def satR (cl:List (Addr×List Str)) (f:Str) (o v:W) (G:Hw) (Q:Hw->Prop):Prop:=match o with
 | .ref p=>(match G p with
  |some (.ins C fs)=>(∃ l,(C,l)∈cl/\f∈l)/\fs.length<1000/\Q (put G p (.ins C (zb6 f v fs)))
  |_=>False)
 |_=>False
def zc3 (ks:List Str) (ws:List W):List (yE×W):=(ks.zip ws).foldl (fun acc kv=>fR acc (.inr kv.1) kv.2) []
structure ET where
 e:E3
 t:T3
def zQ (e:E3):T3:=fun σ G Q=>e σ G fun w G1=>match gG G1 w with|some b=>Q b G1|none=>False
def yZ (e:E3):T3:=fun σ G Q=>e σ G fun w G1=>zB w fun b=>Q b G1
def zC (e:E3):ET:=⟨e,zQ e⟩
def zA (e:E3):ET:=⟨e,yZ e⟩
def nI:List E3->A3
 | []=>fun _ G Q=>Q [] G
 |e::es=>fun σ G Q=>e σ G fun x G1=>nI es σ G1 fun xs G2=>Q (x::xs) G2
section
variable (Γ : Ctx3)
mutual
def zG (E:XQ):IE->ET
 | .var i=>zC fun σ G Q=>match σ[i]? with|some (some w)=>Q w G|_=>False
 | .con c=>zC fun σ G Q=>match zL c with|some w=>Q w G|none=>False
 | .glb i=>zC fun σ G Q=>match Γ.gl[i]? with|some p=>Q p.2 G|none=>False
 | .bin op a b=>zC fun σ G Q=>(zG E a).e σ G fun x G1=>(zG E b).e σ G1 fun y G2=>xB op x y G2 Q
 | .neg a=>zC fun σ G Q=>(zG E a).e σ G fun x G1=>zM x G1 Q
 | .not a=>⟨fun σ G Q=>(zG E a).e σ G fun x G1=>zB x fun b=>Q (.bl (!b)) G1,fun σ G Q=>(zG E a).t σ G fun b G1=>Q (!b) G1⟩
 | .cmp op a b=>zA fun σ G Q=>(zG E a).e σ G fun x G1=>(zG E b).e σ G1 fun y G2=>zD op x y G2 Q
 | .chn o1 o2 a b c=>zA fun σ G Q=>(zG E a).e σ G fun x G1=>(zG E b).e σ G1 fun y G2=>zD o1 x y G2 fun z G3=>zB z fun k =>
   if k=true then (zG E c).e σ G3 fun u G4=>zD o2 y u G4 Q else Q (.bl false) G3
 | .and a b=>⟨fun σ G Q=>(zG E a).e σ G fun x G1=>zB x fun k=>if k=true then (zG E b).e σ G1 Q else Q (.bl false) G1,
   fun σ G Q=>(zG E a).t σ G fun k G1=>if k=true then (zG E b).t σ G1 Q else Q false G1⟩
 | .or a b=>⟨fun σ G Q=>(zG E a).e σ G fun x G1=>zB x fun k=>if k=true then Q (.bl true) G1 else (zG E b).e σ G1 Q,
   fun σ G Q=>(zG E a).t σ G fun k G1=>if k=true then Q true G1 else (zG E b).t σ G1 Q⟩
 | .ite c a b=>⟨fun σ G Q=>(zG E c).t σ G fun k G1=>if k=true then (zG E a).e σ G1 Q else (zG E b).e σ G1 Q,fun _ _ _=>False⟩
 | .ix a i=>zC fun σ G Q=>(zG E a).e σ G fun x G1=>(zG E i).e σ G1 fun y G2=>vP x y G2 Q
 | .sl a lo hi=>zC fun σ G Q=>(zG E a).e σ G fun x G1=>zP E lo σ G1 fun l G2=>zP E hi σ G2 fun u G3=>fD x l u G3 Q
 | .tup es=>zC fun σ G Q=>zX E es σ G fun ws G1=>ws.length<=sizeLine/\Q (.tup ws) G1
 | .lst es=>zC fun σ G Q=>zX E es σ G fun ws G1=>ws.length<=sizeLine/\∀ p,G1 p=none->Q (.ref p) (put G1 p (.lst ws))
 | .dct ks es=>zC fun σ G Q=>∀ p,G p=none->zX E es σ (put G p (.dic [])) fun ws G1=>G1 p=some (.dic [])/\ws.length=ks.length/\Q (.ref p) (put G1 p (.dic (zc3 ks ws)))
 | .call f es=>zC fun σ G Q=>zX E es σ G fun ws G1=>match Γ.fn[f]? with|some h=>h.sp ws G1 Q E|none=>False
 | .mth m o es=>zC fun σ G Q=>(zG E o).e σ G fun x G1=>match Γ.mt[m]? with|some h=>tyW G1 x h.T/\zX E es σ G1 fun ws G2=>h.sp x ws G2 Q|none=>False
 | .att o f=>zC fun σ G Q=>(zG E o).e σ G fun x G1=>attR Γ.cl f x G1 Q
 | .lc tg names caps it c elt=>zC fun σ G Q=>zT E it σ G fun items stab G1 =>
   lcR items stab G1 (fun w G' K=>zW tg w (tF names.length caps σ) G' fun σ2 G2=>zR c σ2 G2 fun b G3=>if b=true then (zG XN elt).e σ2 G3 fun x G4=>K (some x) G4 else K none G3) Q
 | .spc i es=>zC fun σ G Q=>zX E es σ G fun ws G1=>match Γ.sx[i]? with|some h=>h.sp ws G1 Q|none=>False
 | .ch3 o1 o2 o3 a b c d=>zA fun σ G Q=>(zG E a).e σ G fun x G1=>(zG E b).e σ G1 fun y G2=>zD o1 x y G2 fun z G3=>zB z fun k =>
   if k=true then (zG E c).e σ G3 fun u G4=>zD o2 y u G4 fun z2 G5=>zB z2 fun k2 =>
    if k2=true then (zG E d).e σ G5 fun t G6=>zD o3 u t G6 Q else Q (.bl false) G5
   else Q (.bl false) G3
def zP (E:XQ):IO->jE->Hw->(Option Int->Hw->Prop)->Prop
 | .no=>fun _ G Q=>Q none G
 | .yes e=>fun σ G Q=>(zG E e).e σ G fun x G1=>zN x fun i=>Q (some i) G1
def zR:IO->T3
 | .no=>fun _ G Q=>Q true G
 | .yes e=>(zG XN e).t
def zX (E:XQ):IEs->A3
 | .nil=>fun _ G Q=>Q [] G
 | .cons e es=>fun σ G Q=>(zG E e).e σ G fun x G1=>zX E es σ G1 fun xs G2=>Q (x::xs) G2
def zT (E:XQ):II->I3
 | .val e=>fun σ G R=>(zG E e).e σ G fun w G1=>qS w G1 R
 | .blt i es=>fun σ G R=>zX E es σ G fun ws G1=>match Γ.it[i]? with|some h=>h.sp ws G1 R|none=>False
 | .spc i es=>fun σ G R=>zX E es σ G fun ws G1=>match Γ.ix[i]? with|some h=>h.sp ws G1 R|none=>False
end
def semL:IEs->List E3
 | .nil=>[]
 | .cons e es=>(zG Γ XN e).e::semL es
abbrev zU (E:XQ) (e:IE):E3:=(zG Γ E e).e
abbrev zO (E:XQ) (e:IE):T3:=(zG Γ E e).t
def forR (items:List W) (stab:Hw->Prop) (D:End3) (σ:jE) (G1:Hw) (turn:W->End3->jE->Hw->Prop):Prop :=
 ∃ Pv:Nat->jE->Hw->Prop,Pv 0 σ G1/\(∀ i σ G,Pv i σ G->i<=items.length->stab G) /\
  (∀ i w σ G,items[i]?=some w->Pv i σ G->turn w { D with nx:=Pv (i+1),ct:=Pv (i+1),bk:=D.nx } σ G)/\∀ σ G,Pv items.length σ G->D.nx σ G
mutual
def zS (E:XQ):IS->S3
 | .asg i e=>fun D σ G=>zU Γ E e σ G fun w G1=>D.nx (σ.set i (some w)) G1
 | .asgT ts e=>fun D σ G=>zU Γ E e σ G fun w G1=>zW (.tup ts) w σ G1 D.nx
 | .asgI o i e=>fun D σ G=>zU Γ E e σ G fun w G1=>zU Γ E o σ G1 fun x G2=>zU Γ E i σ G2 fun y G3=>setR x y w G3 fun G4=>D.nx σ G4
 | .asgA o f e=>fun D σ G=>zU Γ E e σ G fun w G1=>zU Γ E o σ G1 fun x G2=>satR Γ.cl f x w G2 fun G3=>D.nx σ G3
 | .ex e=>fun D σ G=>zU Γ E e σ G fun _ G1=>D.nx σ G1
 | .ret e=>fun D σ G=>zU Γ E e σ G D.rt
 | .retN=>fun D _ G=>D.rt .non G
 | .pass=>fun D σ G=>D.nx σ G
 | .brk=>fun D σ G=>D.bk σ G
 | .cnt=>fun D σ G=>D.ct σ G
 | .ite c a b=>fun D σ G=>zO Γ E c σ G fun k G1=>if k=true then zE E a D σ G1 else zE E b D σ G1
 | .whl c b=>fun D σ G=>∃ Pv:Nat->jE->Hw->Prop,(∃ m,Pv m σ G)/\∀ m σ G,Pv m σ G->zO Γ E c σ G fun k G1 =>
   if k=true then zE E b { D with nx:=fun σ' G'=>∃ m',m' < m/\Pv m' σ' G',ct:=fun σ' G'=>∃ m',m' < m/\Pv m' σ' G',bk:=D.nx } σ G1 else D.nx σ G1
 | .for tg it b=>fun D σ G=>zT Γ E it σ G fun items stab G1=>forR items stab D σ G1 fun w D' σ' G'=>zW tg w σ' G' fun σ2 G2=>zE E b D' σ2 G2
 | .dead=>fun _ _ _=>False
 | .asgS i j e=>fun D σ G=>zU Γ E e σ G fun w G1=>match w with
  | .tup (x::r)=>r.length<=1000/\∀ p,G1 p=none->D.nx ((σ.set i (some x)).set j (some (.ref p))) (put G1 p (.lst r))
  |_=>False
def zE (E:XQ):ISs->S3
 | .nil=>fun D σ G=>D.nx σ G
 | .cons s ss=>fun D σ G=>zS E s { D with nx:=zE E ss D } σ G
end
end
theorem vG (Γ:Ctx3):∀ es:IEs,zX Γ XN es=nI (semL Γ es)
 | .nil=>rfl
 | .cons e es=>by
  show (fun (σ:jE) (G:Hw) (Q:List W->Hw->Prop)=>(zG Γ XN e).e σ G fun x G1=>zX Γ XN es σ G1 fun xs G2=>Q (x::xs) G2)=_;rw [vG Γ es];rfl
structure TabMono (Γ:Ctx3):Prop where
 fn:∀ f∈Γ.fn,∀ ws G (Q Q':Q3) E,(∀ w G',Q w G'->Q' w G')->f.sp ws G Q E->f.sp ws G Q' E
 mt:∀ m∈Γ.mt,∀ x ws G (Q Q':Q3),(∀ w G',Q w G'->Q' w G')->m.sp x ws G Q->m.sp x ws G Q'
 it:∀ m∈Γ.it,∀ ws G (R R':List W->(Hw->Prop)->Hw->Prop),(∀ a b c,R a b c->R' a b c)->m.sp ws G R->m.sp ws G R'
 sx:∀ m∈Γ.sx,∀ ws G (Q Q':Q3),(∀ w G',Q w G'->Q' w G')->m.sp ws G Q->m.sp ws G Q'
 ix:∀ m∈Γ.ix,∀ ws G (R R':List W->(Hw->Prop)->Hw->Prop),(∀ a b c,R a b c->R' a b c)->m.sp ws G R->m.sp ws G R'
def ziC (t:I3):Prop:=∀ σ G (R R':List W->(Hw->Prop)->Hw->Prop),(∀ a b c,R a b c->R' a b c)->t σ G R->t σ G R'
def ziB (t:jE->Hw->(Option Int->Hw->Prop)->Prop):Prop:=∀ σ G (Q Q':Option Int->Hw->Prop),(∀ a b,Q a b->Q' a b)->t σ G Q->t σ G Q'
theorem qG {w:W} {Q Q':Bool->Prop} (k:∀ b,Q b->Q' b) (h:zB w Q):zB w Q':=by
 cases w<;>first|exact k _ h|exact h.elim
theorem dG {w:W} {Q Q':Int->Prop} (k:∀ b,Q b->Q' b) (h:zN w Q):zN w Q':=by
 cases w<;>first|exact k _ h|exact h.elim
theorem zcm {w:W} {G:Hw} {Q Q':Q3} (k:∀ w G,Q w G->Q' w G) (h:zM w G Q):zM w G Q':=by
 cases w<;>first|exact k _ _ h|exact h.elim
theorem zdi {cl:List (Addr×List Str)} {f:Str} {w:W} {G:Hw} {Q Q':Q3} (k:∀ w G,Q w G->Q' w G) (h:attR cl f w G Q):attR cl f w G Q':=by
 cases w with
 |ref p =>
  simp only [attR] at h ⊢
  split at h
  .refine ⟨h.1,?_⟩;have h2:=h.2
   split at h2
   .exact k _ _ h2
   .exact h2.elim
  .exact h.elim
 |_=>exact h.elim
theorem hG {w:W} {G:Hw} {R R':List W->(Hw->Prop)->Hw->Prop} (k:∀ a b c,R a b c->R' a b c) (h:qS w G R):qS w G R':=by
 cases w with
 |tup ws=>exact k _ _ _ h
 |ref p =>
  simp only [qS] at h ⊢
  split at h
  .exact k _ _ _ h
  .split at h
   .exact k _ _ _ h
   .exact h.elim
 |str x=>exact k _ _ _ h
 |_=>exact h.elim
theorem zei {items:List W} {stab:Hw->Prop} {G1:Hw} {turn:W->Hw->(Option W->Hw->Prop)->Prop} {Q Q':Q3} (k:∀ w G,Q w G->Q' w G) (h:lcR items stab G1 turn Q):lcR items stab G1 turn Q':=by
 obtain ⟨Pv,h0,h1,h2,h3,h4⟩:=h;exact ⟨Pv,h0,h1,h2,h3,fun acc G hp p hn=>k _ _ (h4 acc G hp p hn)⟩
theorem zbJ {e:E3} (m:wA e):uS (zQ e):=fun σ G Q Q' k h=>m σ G _ _ (fun w G1 q=>by
 split at q
 .exact k _ _ q
 .exact q.elim) h
theorem zeJ {e:E3} (m:wA e):uS (yZ e):=fun σ G Q Q' k h=>m σ G _ _ (fun w G1 q=>qG (fun b=>k b G1) q) h
theorem xQ {e:E3} (m:wA e):wA (zC e).e/\uS (zC e).t:=⟨m,zbJ m⟩
theorem mT {e:E3} (m:wA e):wA (zA e).e/\uS (zA e).t:=⟨m,zeJ m⟩
theorem wH {α:Type} {l:List α} {i:Nat} {x:α} (h:l[i]?=some x):x∈l:=List.mem_of_getElem? h
variable {Γ : Ctx3} (g : TabMono Γ)
include g
theorem zaX (e:IE):∀ E,wA (zG Γ E e).e/\uS (zG Γ E e).t:=by
 refine IE.rec (motive_1:=fun e=>∀ E,wA (zG Γ E e).e/\uS (zG Γ E e).t) (motive_2:=fun o=>(∀ E,ziB (zP Γ E o))/\uS (zR Γ o)) (motive_3:=fun es=>∀ E,vN (zX Γ E es)) (motive_4:=fun it=>∀ E,ziC (zT Γ E it))
  (motive_5:=fun _=>True) (motive_6:=fun _=>True) ?var ?con ?glb ?bin ?neg ?not ?cmp ?chn ?and ?or ?ite ?ix ?sl ?tup ?lst ?dct ?call ?mth ?att ?lc ?spc ?ch3 ?no ?yes ?nil ?cons ?val ?blt ?ispc ?nm ?tt ?tn ?tc e
 case var =>
  intro i E;refine xQ fun σ G Q Q' k h=>?_
  split at h
  .exact k _ _ h
  .exact h.elim
 case con =>
  intro c E;refine xQ fun σ G Q Q' k h=>?_
  split at h
  .exact k _ _ h
  .exact h.elim
 case glb =>
  intro i E;refine xQ fun σ G Q Q' k h=>?_
  split at h
  .exact k _ _ h
  .exact h.elim
 case bin=>exact fun op a b ha hb E=>xQ fun σ G Q Q' k h=>(ha E).1 σ G _ _ (fun x G1 h=>(hb E).1 σ G1 _ _ (fun y G2 h=>cK op x y G2 _ _ k h) h) h
 case neg=>exact fun a ha E=>xQ fun σ G Q Q' k h=>(ha E).1 σ G _ _ (fun x G1 h=>zcm k h) h
 case not=>exact fun a ha E=>⟨fun σ G Q Q' k h=>(ha E).1 σ G _ _ (fun x G1 h=>qG (fun b=>k _ _) h) h,fun σ G Q Q' k h=>(ha E).2 σ G _ _ (fun b G1 h=>k _ _ h) h⟩
 case cmp=>exact fun op a b ha hb E=>mT fun σ G Q Q' k h=>(ha E).1 σ G _ _ (fun x G1 h=>(hb E).1 σ G1 _ _ (fun y G2 h=>xU op x y G2 _ _ k h) h) h
 case chn =>
  exact fun o1 o2 a b c ha hb hc E=>mT fun σ G Q Q' k h=>(ha E).1 σ G _ _ (fun x G1 h=>(hb E).1 σ G1 _ _ (fun y G2 h=>xU o1 x y G2 _ _ (fun z G3 h=>qG (fun b h=>by
   split
   .rename_i hb;rw [if_pos hb] at h;exact (hc E).1 σ G3 _ _ (fun u G4 h=>xU o2 y u G4 _ _ k h) h
   .rename_i hb;rw [if_neg hb] at h;exact k _ _ h) h) h) h) h
 case ch3 =>
  exact fun o1 o2 o3 a b c d ha hb hc hd E=>mT fun σ G Q Q' k h=>(ha E).1 σ G _ _ (fun x G1 h=>(hb E).1 σ G1 _ _ (fun y G2 h=>xU o1 x y G2 _ _ (fun z G3 h=>qG (fun b h=>by
   split
   .rename_i hb;rw [if_pos hb] at h
    exact (hc E).1 σ G3 _ _ (fun u G4 h=>xU o2 y u G4 _ _ (fun z2 G5 h=>qG (fun b2 h=>by
     split
     .rename_i hb2;rw [if_pos hb2] at h;exact (hd E).1 σ G5 _ _ (fun t G6 h=>xU o3 u t G6 _ _ k h) h
     .rename_i hb2;rw [if_neg hb2] at h;exact k _ _ h) h) h) h
   .rename_i hb;rw [if_neg hb] at h;exact k _ _ h) h) h) h) h
 case and =>
  exact fun a b ha hb E=>⟨fun σ G Q Q' k h=>(ha E).1 σ G _ _ (fun x G1 h=>qG (fun c h=>by
   split
   .rename_i hc;rw [if_pos hc] at h;exact (hb E).1 σ G1 _ _ k h
   .rename_i hc;rw [if_neg hc] at h;exact k _ _ h) h) h,fun σ G Q Q' k h=>(ha E).2 σ G _ _ (fun c G1 h=>by
   split
   .rename_i hc;rw [if_pos hc] at h;exact (hb E).2 σ G1 _ _ k h
   .rename_i hc;rw [if_neg hc] at h;exact k _ _ h) h⟩
 case or =>
  exact fun a b ha hb E=>⟨fun σ G Q Q' k h=>(ha E).1 σ G _ _ (fun x G1 h=>qG (fun c h=>by
   split
   .rename_i hc;rw [if_pos hc] at h;exact k _ _ h
   .rename_i hc;rw [if_neg hc] at h;exact (hb E).1 σ G1 _ _ k h) h) h,fun σ G Q Q' k h=>(ha E).2 σ G _ _ (fun c G1 h=>by
   split
   .rename_i hc;rw [if_pos hc] at h;exact k _ _ h
   .rename_i hc;rw [if_neg hc] at h;exact (hb E).2 σ G1 _ _ k h) h⟩
 case ite =>
  exact fun c a b hc ha hb E=>⟨fun σ G Q Q' k h=>(hc E).2 σ G _ _ (fun c G1 h=>by
   split
   .rename_i hc;rw [if_pos hc] at h;exact (ha E).1 σ G1 _ _ k h
   .rename_i hc;rw [if_neg hc] at h;exact (hb E).1 σ G1 _ _ k h) h,fun _ _ _ _ _ h=>h.elim⟩
 case ix=>exact fun a b ha hb E=>xQ fun σ G Q Q' k h=>(ha E).1 σ G _ _ (fun x G1 h=>(hb E).1 σ G1 _ _ (fun y G2 h=>zaZ x y G2 _ _ k h) h) h
 case sl=>exact fun a lo hi ha hl hh E=>xQ fun σ G Q Q' k h=>(ha E).1 σ G _ _ (fun x G1 h=>(hl.1 E) σ G1 _ _ (fun l G2 h=>(hh.1 E) σ G2 _ _ (fun u G3 h=>zaM k h) h) h) h
 case tup=>exact fun es hs E=>xQ fun σ G Q Q' k h=>(hs E) σ G _ _ (fun ws G1 h=>⟨h.1,k _ _ h.2⟩) h
 case lst=>exact fun es hs E=>xQ fun σ G Q Q' k h=>(hs E) σ G _ _ (fun ws G1 h=>⟨h.1,fun p hp=>k _ _ (h.2 p hp)⟩) h
 case dct=>exact fun ks es hs E=>xQ fun σ G Q Q' k h=>fun p hp=>(hs E) σ _ _ _ (fun ws G1 h=>⟨h.1,h.2.1,k _ _ h.2.2⟩) (h p hp)
 case call =>
  exact fun f es hs E=>xQ fun σ G Q Q' k h=>(hs E) σ G _ _ (fun ws G1 h=>by
   split at h
   .rename_i f' e;exact g.fn f' (wH e) ws G1 Q Q' E k h
   .exact h.elim) h
 case mth =>
  exact fun m o es ho hs E=>xQ fun σ G Q Q' k h=>(ho E).1 σ G _ _ (fun x G1 h=>by
   split at h
   .rename_i m' e;exact ⟨h.1,(hs E) σ G1 _ _ (fun ws G2 h=>g.mt m' (wH e) x ws G2 Q Q' k h) h.2⟩
   .exact h.elim) h
 case att=>exact fun o f ho E=>xQ fun σ G Q Q' k h=>(ho E).1 σ G _ _ (fun x G1 h=>zdi k h) h
 case lc=>exact fun tg names caps it c elt _ hi hc he E=>xQ fun σ G Q Q' k h=>(hi E) σ G _ _ (fun items stab G1 h=>zei k h) h
 case spc =>
  exact fun i es hs E=>xQ fun σ G Q Q' k h=>(hs E) σ G _ _ (fun ws G1 h=>by
   split at h
   .rename_i f' e;exact g.sx f' (wH e) ws G1 Q Q' k h
   .exact h.elim) h
 case ispc =>
  exact fun i es hs E σ G R R' k h=>(hs E) σ G _ _ (fun ws G1 h=>by
   split at h
   .rename_i m' e;exact g.ix m' (wH e) ws G1 R R' k h
   .exact h.elim) h
 case no=>exact ⟨fun E σ G Q Q' k h=>k _ _ h,fun σ G Q Q' k h=>k _ _ h⟩
 case yes=>exact fun e he=>⟨fun E σ G Q Q' k h=>(he E).1 σ G _ _ (fun x G1 h=>dG (fun i=>k _ _) h) h,(he XN).2⟩
 case nil=>exact fun E σ G Q Q' k h=>k _ _ h
 case cons=>exact fun e es he hs E σ G Q Q' k h=>(he E).1 σ G _ _ (fun x G1 h=>(hs E) σ G1 _ _ (fun xs G2 h=>k _ _ h) h) h
 case val=>exact fun e he E σ G R R' k h=>(he E).1 σ G _ _ (fun w G1 h=>hG k h) h
 case blt =>
  exact fun i es hs E σ G R R' k h=>(hs E) σ G _ _ (fun ws G1 h=>by
   split at h
   .rename_i m' e;exact g.it m' (wH e) ws G1 R R' k h
   .exact h.elim) h
 case nm=>exact fun _=>trivial
 case tt=>exact fun _ _=>trivial
 case tn=>trivial
 case tc=>exact fun _ _ _ _=>trivial
theorem yV (E:XQ) (e:IE):wA (zG Γ E e).e:=(zaX g e E).1
theorem sO (E:XQ) (e:IE):uS (zG Γ E e).t:=(zaX g e E).2
theorem qJ (E:XQ):∀ es:IEs,vN (zX Γ E es)
 | .nil=>fun σ G Q Q' k h=>k _ _ h
 | .cons e es=>fun σ G Q Q' k h=>yV g E e σ G _ _ (fun x G1 h=>qJ E es σ G1 _ _ (fun xs G2 h=>k _ _ h) h) h
theorem zhH (E:XQ):∀ o:IO,ziB (zP Γ E o)
 | .no=>fun σ G Q Q' k h=>k _ _ h
 | .yes e=>fun σ G Q Q' k h=>yV g E e σ G _ _ (fun x G1 h=>dG (fun i=>k _ _) h) h
theorem monoC:∀ o:IO,uS (zR Γ o)
 | .no=>fun σ G Q Q' k h=>k _ _ h
 | .yes e=>sO g XN e
theorem zhI (E:XQ):∀ it:II,ziC (zT Γ E it)
 | .val e=>fun σ G R R' k h=>yV g E e σ G _ _ (fun w G1 h=>hG k h) h
 | .blt i es=>fun σ G R R' k h=>qJ g E es σ G _ _ (fun ws G1 h=>by
   split at h
   .rename_i m' e;exact g.it m' (wH e) ws G1 R R' k h
   .exact h.elim) h
 | .spc i es=>fun σ G R R' k h=>qJ g E es σ G _ _ (fun ws G1 h=>by
   split at h
   .rename_i m' e;exact g.ix m' (wH e) ws G1 R R' k h
   .exact h.elim) h
end L3
namespace L3
open PySem PySem.Spec PyProof.Rows L2
structure MC where
 sc:Scope
 N:List Str
 own:Str->Bool
 fns:List Str
 gls:List Str
 mts:List Str
 its:List Str
 sxm:List (Scope->Expr->Option (List Expr))
 ixm:List (Scope->Expr->Option (List Expr))
def visB (sc:Scope) (x:Str):Bool:=match sc.names.lookup x with
 |some .local=>true
 |some .cell=>true
 |some .free=>true
 |_=>false
def tI (sc:Scope) (x:Str):Bool:=sc.names.lookup x==some .globalImplicit&&!(x==("__debug__" : Str))&&!(x==("__name__" : Str))
def sQ:Expr->Bool
 | .Set ..=>false
 |_=>true
def wW:Expr->Bool
 | .Starred ..=>false
 |_=>true
def nY:Expr->Bool
 | .Slice ..=>false
 |_=>true
def rR:Expr->Bool
 | .ListComp ..=>false
 | .SetComp ..=>false
 | .DictComp ..=>false
 |_=>true
def zdj:Expr->Bool
 | .Call (.Name ..) [] [] _=>false
 |_=>true
def relS (sc out:Scope):Scope:={ sc with names:=sc.names.map fun (n,k)=>if (k==.free&&out.kind==.function&&out.names.lookup n==some .cell) then (n,.cell) else (n,k) }
def blkB (out sc:Scope):Bool:=(sc.kind==.function)&&(sc.names.all fun y=>(!(y.2==.cell) || sc.names.lookup y.1==some .cell)&&(!(y.2==.free) || sc.names.lookup y.1==some .free)) &&
 (sc.names.all fun y=>!(y.2==.free) || out.names.lookup y.1==some .cell || out.names.lookup y.1==some .free) &&
 (sc.names.all fun y=>!(y.2==.local) || sc.names.lookup y.1==some .local)
def mY:List Str->Bool
 | []=>true
 |x::r=>!r.contains x&&mY r
def bL (M:MC) (x:Str):Bool:=match M.sc.names.lookup x with
 |some .local=>true
 |some .cell=>M.own x
 |_=>false
mutual
def tgIx:ITg->List Nat
 | .nm i=>[i]
 | .tup ts=>zdB ts
def zdB:ITgs->List Nat
 | .nil=>[]
 | .cons t ts=>tgIx t++zdB ts
end
mutual
def mG (M:MC):ITg->Expr->Bool
 | .nm i,.Name x _=>M.N[i]?==some x&&bL M x
 | .tup ts,.Tuple es _ _=>mGs M ts es
 |_,_=>false
def mGs (M:MC):ITgs->List Expr->Bool
 | .nil,[]=>true
 | .cons t ts,e::es=>wW e&&mG M t e&&mGs M ts es
 |_,_=>false
end
mutual
def mE:IE->MC->Expr->Bool
 | .var i=>fun M e=>match e with
  | .Name x _=>M.N[i]?==some x&&visB M.sc x&&!(x==("__debug__" : Str))&&!(x==("__classdict__" : Str))
  |_=>false
 | .con c=>fun M e=>match e with
  | .Constant d _ _=>decide (c=d)
  |_=>false
 | .glb i=>fun M e=>match e with
  | .Name x _=>M.gls[i]?==some x&&tI M.sc x
  |_=>false
 | .bin op a b=>fun M e=>match e with
  | .BinOp l o r _=>decide (op=o)&&mE a M l&&mE b M r
  |_=>false
 | .neg a=>fun M e=>match e with
  | .UnaryOp .USub l _=>mE a M l
  |_=>false
 | .not a=>fun M e=>match e with
  | .UnaryOp .Not l _=>mE a M l
  |_=>false
 | .cmp op a b=>fun M e=>match e with
  | .Compare l [o] [r] _=>decide (op=o)&&mE a M l&&mE b M r&&sQ r
  |_=>false
 | .chn o1 o2 a b c=>fun M e=>match e with
  | .Compare l [p1,p2] [r,t] _=>decide (o1=p1)&&decide (o2=p2)&&mE a M l&&mE b M r&&mE c M t&&sQ t
  |_=>false
 | .ch3 o1 o2 o3 a b c d=>fun M e=>match e with
  | .Compare l [p1,p2,p3] [r,t,u] _=>decide (o1=p1)&&decide (o2=p2)&&decide (o3=p3)&&mE a M l&&mE b M r&&mE c M t&&mE d M u&&sQ u
  |_=>false
 | .and a b=>fun M e=>match e with
  | .BoolOp .And [l,r] _=>mE a M l&&mE b M r
  | .BoolOp .And (l::r::q::rest) pos=>mE a M l&&mE b M (.BoolOp .And (r::q::rest) pos)
  |_=>false
 | .or a b=>fun M e=>match e with
  | .BoolOp .Or [l,r] _=>mE a M l&&mE b M r
  | .BoolOp .Or (l::r::q::rest) pos=>mE a M l&&mE b M (.BoolOp .Or (r::q::rest) pos)
  |_=>false
 | .ite c a b=>fun M e=>match e with
  | .IfExp t l r _=>mE c M t&&mE a M l&&mE b M r
  |_=>false
 | .ix a i=>fun M e=>match e with
  | .Subscript l r _=>mE a M l&&mE i M r&&nY r
  |_=>false
 | .sl a lo hi=>fun M e=>match e with
  | .Subscript l (.Slice x y none _) _=>mE a M l&&mO lo M x&&mO hi M y
  |_=>false
 | .tup es=>fun M e=>match e with
  | .Tuple xs _ _=>mA es M xs
  |_=>false
 | .lst es=>fun M e=>match e with
  | .List xs _=>mA es M xs
  |_=>false
 | .dct ks es=>fun M e=>match e with
  | .Dict keys xs _=>keyB ks keys&&mA es M xs&&decide (keys.length=xs.length)&&decide (keys.length<=15)&&!ks.isEmpty
  |_=>false
 | .call f es=>fun M e=>match e with
  | .Call (.Name x _) xs [] _=>M.fns[f]?==some x&&tI M.sc x&&mA es M xs
  |_=>false
 | .mth m o es=>fun M e=>match e with
  | .Call (.Attribute l x apos) xs [] cpos=>M.mts[m]?==some x&&zdj l&&(apos.endLine==cpos.line)&&decide (xs.length<25)&&mE o M l&&mA es M xs
  |_=>false
 | .att o f=>fun M e=>match e with
  | .Attribute l x _=>x==f&&zdj l&&mE o M l
  |_=>false
 | .lc tg names caps it c elt=>fun M e=>match e with
  | .ListComp x [⟨t,ix,ifs,asy⟩] sc _ =>
   let M':MC:={ M with sc:=relS sc M.sc,N:=names++caps.map (fun j=>M.N.getD j Str.empty),own:=fun x=>sc.names.lookup x==some .cell }
   decide (asy=0)&&blkB M.sc sc&&sQ ix&&mY M'.N&&(caps.all fun j=>decide (j<M.N.length)&&(sc.names.lookup (M.N.getD j Str.empty)==some .free)) &&
    mI it M ix&&((tgIx tg).all fun i=>decide (i<names.length))&&mG M' tg t&&mC c M' ifs&&mE elt M' x
  |_=>false
 | .spc i es=>fun M e=>rR e&&(match M.sxm[i]? with
  |some m=>(match m M.sc e with|some xs=>mA es M xs|none=>false)
  |none=>false)
def mO:IO->MC->Option Expr->Bool
 | .no=>fun M e=>match e with|none=>true|_=>false
 | .yes a=>fun M e=>match e with|some x=>mE a M x|_=>false
def mC:IO->MC->List Expr->Bool
 | .no=>fun M e=>match e with | []=>true|_=>false
 | .yes a=>fun M e=>match e with | [x]=>mE a M x|_=>false
def mA:IEs->MC->List Expr->Bool
 | .nil=>fun M e=>match e with | []=>true|_=>false
 | .cons a as=>fun M e=>match e with|x::xs=>wW x&&mE a M x&&mA as M xs|_=>false
def mI:II->MC->Expr->Bool
 | .val a=>fun M e=>mE a M e
 | .blt i es=>fun M e=>match e with
  | .Call (.Name x _) xs [] _=>M.its[i]?==some x&&tI M.sc x&&mA es M xs
  |_=>false
 | .spc i es=>fun M e=>match M.ixm[i]? with
  |some m=>(match m M.sc e with|some xs=>mA es M xs|none=>false)
  |none=>false
def keyB:List Str->List (Option Expr)->Bool
 | []=>fun e=>match e with | []=>true|_=>false
 |k::ks=>fun e=>match e with|some (.Constant (.str x) _ _)::es=>k==x&&keyB ks es|_=>false
end
def zdD (M:MC) (i j:Nat):Expr->Bool
 | .Tuple [.Name x _,.Starred (.Name y _) _] _ _=>(M.N[i]?==some x&&bL M x)&&(M.N[j]?==some y&&bL M y)
 |_=>false
mutual
def mS:IS->MC->Stmt->Bool
 | .asg i a=>fun M s=>match s with
  | .Assign [.Name x py] e _=>M.N[i]?==some x&&bL M x&&mE a M e
  |_=>false
 | .asgT ts a=>fun M s=>match s with
  | .Assign [.Tuple es _ _] e _=>rR e&&zd9 e&&mGs M ts es&&mE a M e
  |_=>false
 | .asgI o i a=>fun M s=>match s with
  | .Assign [.Subscript l r _] e _=>rR e&&nY r&&mE o M l&&mE i M r&&mE a M e
  |_=>false
 | .asgA o f a=>fun M s=>match s with
  | .Assign [.Attribute l x _] e _=>x==f&&rR e&&mE o M l&&mE a M e
  |_=>false
 | .ex a=>fun M s=>match s with
  | .Expr e _=>rR e&&mE a M e
  |_=>false
 | .ret a=>fun M s=>match s with
  | .Return (some e) _=>mE a M e
  |_=>false
 | .retN=>fun M s=>match s with|.Return none _=>true|_=>false
 | .pass=>fun M s=>match s with|.Pass _=>true|_=>false
 | .brk=>fun M s=>match s with|.Break _=>true|_=>false
 | .cnt=>fun M s=>match s with|.Continue _=>true|_=>false
 | .ite c a b=>fun M s=>match s with
  | .If t x y _=>mE c M t&&kO a M x&&kO b M y
  |_=>false
 | .whl c b=>fun M s=>match s with
  | .While t x [] _=>mE c M t&&kO b M x
  |_=>false
 | .for tg it b=>fun M s=>match s with
  | .For t x y [] _=>sQ x&&mG M tg t&&mI it M x&&kO b M y
  |_=>false
 | .dead=>fun M s=>true
 | .asgS i j a=>fun M s=>match s with
  | .Assign [t] e _=>rR e&&zd9 e&&zdD M i j t&&mE a M e
  |_=>false
def kO:ISs->MC->List Stmt->Bool
 | .nil=>fun M s=>match s with | []=>true|_=>false
 | .cons a as=>fun M s=>match s with|x::xs=>mS a M x&&kO as M xs|_=>false
def zd9:Expr->Bool
 | .Tuple ..=>false
 |_=>true
end
theorem tX {a b:Bool} (h:(a&&b)=true):a=true/\b=true:=(Bool.and_eq_true a b).mp h
theorem bd3 {a b c:Bool} (h:(a&&b&&c)=true):(a=true/\b=true)/\c=true:=⟨tX (tX h).1,(tX h).2⟩
theorem bd4 {a b c d:Bool} (h:(a&&b&&c&&d)=true):((a=true/\b=true)/\c=true)/\d=true:=⟨bd3 (tX h).1,(tX h).2⟩
theorem bd5 {a b c d e:Bool} (h:(a&&b&&c&&d&&e)=true):(((a=true/\b=true)/\c=true)/\d=true)/\e=true:=⟨bd4 (tX h).1,(tX h).2⟩
theorem bd6 {a b c d e f:Bool} (h:(a&&b&&c&&d&&e&&f)=true):((((a=true/\b=true)/\c=true)/\d=true)/\e=true)/\f=true:=⟨bd5 (tX h).1,(tX h).2⟩
theorem bd7 {a b c d e f g:Bool} (h:(a&&b&&c&&d&&e&&f&&g)=true):(((((a=true/\b=true)/\c=true)/\d=true)/\e=true)/\f=true)/\g=true:=⟨bd6 (tX h).1,(tX h).2⟩
theorem bd8 {a b c d e f g k:Bool} (h:(a&&b&&c&&d&&e&&f&&g&&k)=true):((((((a=true/\b=true)/\c=true)/\d=true)/\e=true)/\f=true)/\g=true)/\k=true:=⟨bd7 (tX h).1,(tX h).2⟩
theorem bd9 {a b c d e f g k l:Bool} (h:(a&&b&&c&&d&&e&&f&&g&&k&&l)=true):(((((((a=true/\b=true)/\c=true)/\d=true)/\e=true)/\f=true)/\g=true)/\k=true)/\l=true:=⟨bd8 (tX h).1,(tX h).2⟩
theorem bd10 {a b c d e f g k l m:Bool} (h:(a&&b&&c&&d&&e&&f&&g&&k&&l&&m)=true):((((((((a=true/\b=true)/\c=true)/\d=true)/\e=true)/\f=true)/\g=true)/\k=true)/\l=true)/\m=true:=⟨bd9 (tX h).1,(tX h).2⟩
end L3
namespace L2
open PySem PySem.Spec PyProof.Rows
def Itd (d:Addr) (ob:Obj) (l:List (yE×V)):It where
 go:=fun i H=>H d=some (.frz ob (.dK l))/\i<l.length
 yld:=fun i H x H'=>H'=H/\∃ p,l[i]?=some p/\x=kV p.1
 stop:=fun i H=>H d=some (.frz ob (.dK l))/\l.length<=i
def KiSt (it d:Addr) (ob:Obj) (n i:Nat) (h:Heap):Prop:=∃ ep es,ob.data=.dict es ep/\h.IsKeyIter it d i n ep
section
variable {X : Cx} {pins : List (Addr × Obj)} {σ : St} {H : Hp} {s : Shared} {d : Addr} {ob : Obj} {l : List (yE × V)}
theorem ze9 {κ:Type}:∀ {l:List (κ×V)} {vs:List (κ×Value)} {i:Nat} {k:κ} {v:Value},KV l vs->vs[i]?=some (k,v)->∃ x,l[i]?=some (k,x)
 |_,_,i,k,v,.nil,e=>by simp at e
 |p::_,_,0,k,v,.cons r t,e=>by
  simp at e;subst e;obtain ⟨a,b⟩:=p;have h1:a=k:=r.1;exact ⟨b,by simp [h1]⟩
 |_::_,_,i+1,k,v,.cons r t,e=>by
  obtain ⟨x,h⟩:=ze9 (i:=i) (k:=k) (v:=v) t (by simpa using e);exact ⟨x,by simpa using h⟩
theorem ze8 {κ:Type}:∀ {l:List (κ×V)} {vs:List (κ×Value)},KV l vs->vs.length=l.length
 |_,_,.nil=>rfl
 |_,_,.cons _ t=>by rw [List.length_cons,List.length_cons,ze8 t]
theorem zcP (I:Inv X pins σ H s) (e:H d=some (.frz ob (.dK l))) {es:Array DictEntry} {ep:Nat} (hd:ob.data=.dict es ep):∃ vs,KV l vs/\s.heap.DictAt (xZ X.prog X.w) d vs ep/\vs.length=l.length:=by
 obtain ⟨hg,_,_,vs,kv,o,es',ep',ho,hc,hdat,r⟩:=(show xK X.prog X.w H s.heap d (.frz ob (.dK l)) from I.hok d _ e);rw [hg] at ho;cases ho;rw [hd] at hdat;cases hdat;exact ⟨vs,kv,⟨ob,es,hg,hc,hd,r⟩,ze8 kv⟩
theorem zcC {k:yE} {v:Value} (h:hV k v=true):yW (kV k) v:=by
 rcases xX h with ⟨i,t,rfl,rfl⟩|⟨x,t,rfl,rfl⟩
 .exact ⟨t,rfl⟩
 .exact ⟨t,rfl⟩
theorem zbI {P:Program} {w:World} {K:PySem.W.Frag} {tg:Expr} (it:Addr):Turn P w K tg (Itd d ob l) [it] it (KiSt it d ob l.length) where
 mem:=by simp
 obj:=fun i h st b hb=>by
  cases zzO hb;obtain ⟨ep,es,_,o,e,c,z⟩:=st;exact ⟨o,e,fun v q=>by rw [z] at q;cases q⟩
 keep:=fun i h h' st k=>by
  obtain ⟨ep,es,hd,st⟩:=st;exact ⟨ep,es,hd,st.at fun o e=>k it (by simp) o e⟩
 item:=by
  intro X e1 e2 e3 hc i pins s σ H E I hf st hg;subst e1;subst e2;subst e3;obtain ⟨ep,es,hd,st⟩:=st;obtain ⟨e,hi⟩:=hg;obtain ⟨vs,kv,da,lv⟩:=zcP I e hd;obtain ⟨f0,f1,f2,f3,f4,f5⟩:=hf it (by simp);obtain ⟨⟨k,v⟩,ek⟩:∃ p,vs[i]?=some p:=⟨vs[i]'(by omega),List.getElem?_eq_getElem _⟩;obtain ⟨x,ex⟩:=ze9 kv ek;rw [← lv] at st;refine wpAny_pyNext_dict_item st da ek fun key h' hkey st' sb=>?_;have I1:Inv X pins σ H { s with heap:=h',toks:=s.toks }:=I.turned (fun b o hb q=>(sb.2 b hb).trans q) f0 f1 f3 f4 f5;obtain ⟨o,o1,o2,o3⟩:=id st';refine ⟨key,rfl,dD (s:={ s with heap:=h' }) o1 o2 o3 (by decide) ⟨kV k,H,I1,zcC hkey,⟨rfl,(k,x),ex,rfl⟩,⟨ep,es,hd,?_⟩,fun b hb=>(hf b hb).1⟩⟩;rw [← lv];exact st'
 done:=by
  intro X e1 e2 e3 hc i pins s σ H E I hf st hg;subst e1;subst e2;subst e3;obtain ⟨ep,es,hd,st⟩:=st;obtain ⟨e,hi⟩:=hg;obtain ⟨vs,kv,da,lv⟩:=zcP I e hd;obtain ⟨f0,f1,f2,f3,f4,f5⟩:=hf it (by simp);rw [← lv] at st;exact wpAny_pyNext_dict_end (I.ok.hd hc) st da (List.getElem?_eq_none (by omega)) fun h' eb=>⟨rfl,I.turned (t':=s.toks) (fun b o hb q=>eb b o hb q) f0 f1 f3 f4 f5⟩
 self:=fun _ _ _ _ _ st h=>by
  obtain ⟨ep,es,hd,st⟩:=st;exact wpAny_pyIter_keyiter st h
theorem zeL {u:HO} (e:H d=some u):xE H d u=H:=by
 funext b
 unfold xE
 split
 .rename_i h;subst h;exact e.symm
 .rfl
theorem zgf (I:Inv X pins σ H s) (e:Rd H d (.dK l)):∃ ob,Inv X pins σ (xE H d (.frz ob (.dK l))) s/\(∃ es ep,ob.data=.dict es ep)/\∀ ob',H d=some (.frz ob' (.dK l))->ob'=ob:=by
 rcases e with e|⟨ob,e⟩
 .have q:=I.hok d _ e;obtain ⟨h1,h2,vs,kv,o,es,ep,ho,hc,hdat,r⟩:=id q;have mu:Mut (H d):=by rw [e];exact True.intro
  refine ⟨o,I.un (t':=s.toks) (Un.write mu (.inl rfl) (fun b u _ z=>z) ⟨o,ho⟩) (I.hok.write mu (.inl rfl) (fun b u _ z=>z) ⟨o,ho⟩ ⟨ho,h1,h2,vs,kv,o,es,ep,ho,hc,hdat,r⟩),⟨es,ep,hdat⟩,fun ob' z=>by rw [e] at z;cases z⟩
 .obtain ⟨hg,_,_,vs,kv,o,es,ep,ho,hc,hdat,r⟩:=(show xK X.prog X.w H s.heap d (.frz ob (.dK l)) from I.hok d _ e);rw [hg] at ho;cases ho;exact ⟨ob,by rw [zeL e];exact I,⟨es,ep,hdat⟩,fun ob' z=>by rw [e] at z;cases z;rfl⟩
theorem zgt {tg:Expr} {R:It->Hp->Prop} {E:Value->Shared->Prop} (I:Inv X pins σ H s) (e:Rd H d (.dK l)) (q:∀ ob,(∀ ob',H d=some (.frz ob' (.dK l))->ob'=ob)->R (Itd d ob l) (xE H d (.frz ob (.dK l)))):wpAny (model X.prog X.w) X.A (pyIter (.ref d)) (PIE X pins σ tg R) E s:=by
 have hs:(d==sysModules)=false:=(pO I.hok e).2.1;obtain ⟨ob,J,⟨es,ep,hd⟩,same⟩:=zgf I e;obtain ⟨vs,kv,da,lv⟩:=zcP J wE hd;refine wpAny_pyIter_dict hs da ?_;refine ⟨s.heap.objs.size,[s.heap.objs.size],_,_,_,rfl,J.kept (t':=s.toks) fun b o e=>Heap.get?_push_of_some _ e,zbI _,⟨ep,es,hd,⟨_,Heap.get?_push_size _ rfl,rfl,by rw [lv];rfl⟩⟩,fun b hb=>?_,q ob same⟩;cases zzO hb;exact J.fpOk (zzR _) (J.hok.fresh (zzR _))
end
end L2
namespace L3
open PySem PySem.Spec PyProof.Rows L2 PySem.SeqAt
structure Par where
 prog:Program
 w:World
 K:yM
 mg:Str->Option Value
 base:Heap
 A:Around
structure Fits (p:Par) (X:Cx):Prop where
 prog:X.prog=p.prog
 w:X.w=p.w
 K:X.K=p.K
 mg:X.mg=p.mg
 base:X.base=p.base
 A:X.A=p.A
 calm:X.calm=true
 xe:X.xe=fun _ _=>False
structure ItIs (K:yM) (J:It) (H1:Hp) (ws:List W) (stab:Hw->Prop):Prop where
 go:∀ i H G,yF K H1 H->xI K H G->stab G->i<ws.length->J.go i H
 yld:∀ i H G x H',yF K H1 H->xI K H G->stab G->i<ws.length->J.yld i H x H'->∃ w,ws[i]?=some w/\yF K H H'/\wJ K H' w x/\xI K H' G
 stop:∀ i H G,yF K H1 H->xI K H G->stab G->ws.length<=i->J.stop i H
def lowI (K:yM) (t:I3):TI:=fun τ H R=>∃ σ G,yH K H σ τ/\xI K H G/\t σ G fun ws stab G1=>∀ J H1,yF K H H1->xI K H1 G1->ItIs K J H1 ws stab->R J H1
def cG (X:Cx):List Expr->List E3->Prop
 | [],[]=>True
 |x::xs,e::es=>wA e/\PE X x (xY X.K e)/\cG X xs es
 |_,_=>False
structure Good (Γ:Ctx3) (p:Par):Prop where
 mono:TabMono Γ
 un:p.A.units+200<cLine
 fn:∀ f∈Γ.fn,∀ X,Fits p X->Gl X f.nm->∀ (args:List Expr) (t:A3) (q pos:Pos),vN t->args.all wW=true->PA X args (sL X.K t)->(args=[]->∀ σ G Q,t σ G Q->Q [] G)->(f.nm==("__debug__" : Str))=false->f.nm ≠ "__name__" ->
  PE X (.Call (.Name f.nm q) args [] pos) (xY X.K fun σ G Q=>t σ G fun ws G1=>f.sp ws G1 Q XN)
 gl:∀ g∈Γ.gl,∀ X,Fits p X->Gl X g.1->∀ q:Pos,(g.1==("__debug__" : Str))=false->g.1 ≠ "__name__" -> PE X (.Name g.1 q) (xY X.K fun _ G Q=>Q g.2 G)
 mt:∀ m∈Γ.mt,∀ X,Fits p X->∀ (o:Expr) (args:List Expr) (to:E3) (t:A3) (apos cpos:Pos),wA to->vN t->zdj o=true->(apos.endLine==cpos.line)=true->args.length<25->args.all wW=true ->
  PE X o (xY X.K to)->PA X args (sL X.K t)->(args=[]->∀ σ G Q,t σ G Q->Q [] G)->PE X (.Call (.Attribute o m.nm apos) args [] cpos) (xY X.K fun σ G Q=>to σ G fun x G1=>tyW G1 x m.T/\t σ G1 fun ws G2=>m.sp x ws G2 Q)
 it:∀ i∈Γ.it,∀ X,Fits p X->Gl X i.nm->∀ (tg:Expr) (args:List Expr) (t:A3) (q pos:Pos),vN t->args.all wW=true->PA X args (sL X.K t)->(args=[]->∀ σ G Q,t σ G Q->Q [] G)->(i.nm==("__debug__" : Str))=false->i.nm ≠ "__name__" ->
  PI X tg (.Call (.Name i.nm q) args [] pos) (lowI X.K fun σ G R=>t σ G fun ws G1=>i.sp ws G1 R)
 cl:∀ c∈Γ.cl,Cls p.K c.1/\∀ f∈c.2,uT p.K c.1 f
 sx:∀ k∈Γ.sx,∀ X,Fits p X->∀ (e:Expr) (xs:List Expr) (es:List E3),k.m X.env.scope e=some xs->cG X xs es->xs.all wW=true->PA X xs (sL X.K (nI es)) ->
  PE X e (xY X.K fun σ G Q=>nI es σ G fun ws G1=>k.sp ws G1 Q)/\(∀ whole,isTrue e X.env whole=(do let v ← whole;standAt e.pos;holding [v] (truthy v)))/\∀ op vs pos,e≠.BoolOp op vs pos
 ix:∀ k∈Γ.ix,∀ X,Fits p X->∀ (tg e:Expr) (xs:List Expr) (es:List E3),k.m X.env.scope e=some xs->cG X xs es->xs.all wW=true->PA X xs (sL X.K (nI es)) ->
  PI X tg e (lowI X.K fun σ G R=>nI es σ G fun ws G1=>k.sp ws G1 R)
structure Lk (Γ:Ctx3) (M:MC) (p:Par) (X:Cx):Prop where
 fits:Fits p X
 N:X.N=M.N
 sc:X.env.scope=M.sc
 nd:M.N.Nodup
 own:∀ x,M.own x=true->X.fn x=true
 kind:M.sc.kind=.function
 fns:Γ.fn.map (·.nm)=M.fns
 gls:Γ.gl.map (·.1)=M.gls
 mts:Γ.mt.map (·.nm)=M.mts
 its:Γ.it.map (·.nm)=M.its
 sxs:Γ.sx.map (·.m)=M.sxm
 ixs:Γ.ix.map (·.m)=M.ixm
theorem qB {e:Expr} {es:List Expr} {env:Env} (h:wW e=true):starEach (e::es) env=(false,eval e env)::starEach es env:=by
 cases e<;>first|rfl|exact absurd h zzN
theorem tE {o:Expr} {f:Str} {env:Env} {t:Sem Value} (h:zdj o=true):attributeBase o f env t=t:=by
 unfold attributeBase
 split
 .exact absurd h zzN
 .rfl
theorem cY {e:Expr} {env:Env} (h:sQ e=true):∀ x,foldedSetIterable e env x=pure x:=fun x=>by
 cases e<;>first|rfl|exact absurd h zzN
theorem kQ {op:CmpOp} {e:Expr} (h:sQ e=true):behindInMarks op e=false:=by
 cases e<;>first|rfl|exact absurd h zzN
theorem zd0 {e:Expr} (h:nY e=true):zdo e:=fun o i=>by
 cases e<;>first|rfl|exact absurd h zzN
theorem kT {e:Expr} {t:Option Expr} {n:Nat} {env:Env} (h:rR e=true):swapsWith e t n env=pure false:=by
 cases e<;>first|rfl|exact absurd h zzN
theorem zgI {sc:Scope} {x:Str} (h:visB sc x=true):Vis sc x:=by
 unfold visB at h
 split at h
 .rename_i e;exact .inl e
 .rename_i e;exact .inr (.inl e)
 .rename_i e;exact .inr (.inr e)
 .exact absurd h zzN
theorem dB {X:Cx} {sc:Scope} {x:Str} (e:X.env.scope=sc) (h:tI sc x=true):Gl X x/\(x==("__debug__" : Str))=false/\x ≠ "__name__" := by
 unfold tI at h;simp only [Bool.and_eq_true,Bool.not_eq_true'] at h;refine ⟨?_,h.1.2,fun z=>?_⟩
 .show X.env.scope.names.lookup x=_;rw [e];exact eq_of_beq h.1.1
 .subst z;have:=h.2;simp at this
theorem jF {α:Type} [BEq α] [LawfulBEq α] {a:Option α} {b:α} (h:(a==some b)=true):a=some b:=eq_of_beq h
theorem uP {α β:Type} {f:α->β} {l:List α} {i:Nat} {y:β} (h:(l.map f)[i]?=some y):∃ x,l[i]?=some x/\f x=y:=by
 rw [List.getElem?_map] at h
 cases e:l[i]? with
 |none=>rw [e] at h;cases h
 |some x=>rw [e] at h;exact ⟨x,rfl,Option.some.inj h⟩
section
variable {X : Cx}
theorem zdz {K:yM} {e:E3} (m:wA e) {τ:L2.St} {H:Hp} {Q:Bool->Hp->Prop} (h:qC K (zQ e) τ H Q):xY K e τ H (fun x H'=>∃ k,TruV K x H' k/\Q k H'):=by
 obtain ⟨σ,G,hs,ha,h⟩:=h;refine xW m hs ha h fun w G1 v H1 gr _ rp ab q=>?_
 split at q
 .rename_i b hb;exact ⟨b,zfk rp ab hb,q H1 gr ab⟩
 .exact q.elim
theorem pt_of {x:Expr} {e:E3} (m:wA e) (h:PE X x (xY X.K e)) (he:∀ whole,isTrue x X.env whole=(do let v ← whole;standAt x.pos;holding [v] (truthy v))):PT X x (qC X.K (zQ e)) :=
 (zdS h he).imp fun σ H Q q=>zdz m q
theorem zaA {K:yM} {e:E3} (m:wA e) {τ:L2.St} {H:Hp} {Q:Bool->Hp->Prop} (h:qC K (yZ e) τ H Q):xY K e τ H (fun x H'=>∃ k,x=.bl k/\Q k H'):=by
 obtain ⟨σ,G,hs,ha,h⟩:=h;refine xW m hs ha h fun w G1 v H1 gr _ rp ab q=>?_
 cases w with
 |bl b=>cases rp;exact ⟨b,rfl,q H1 gr ab⟩
 |_=>exact q.elim
theorem bO {K:yM} {ea eb:E3} {r:R3} (ma:wA ea) (mb:wA eb) (mr:pL r) {τ:L2.St} {H:Hp} {Q:VK} (h:xY K (fun σ G Q=>ea σ G fun x G1=>eb σ G1 fun y G2=>r x y G2 Q) τ H Q) :
  tOp (rP K r) (xY K ea) (xY K eb) τ H Q:=by
 obtain ⟨σ,G,hs,ha,h⟩:=h;refine xW ma hs ha h fun x G1 v H1 g1 hs1 rx a1 h1=>?_;refine xW mb hs1 a1 h1 fun y G2 u H2 g2 hs2 ry a2 h2=>?_;exact ⟨x,y,G2,rx.mono g2,ry,a2,mr x y G2 _ _ (fun w G' q v' H' g'=>q v' H' ((g1.trans g2).trans g')) h2⟩
def Its (x:Str):It:=⟨fun i _=>i<x.cps.size,fun i H v H'=>H'=H/\∃ c,x.cps[i]?=some c/\v=.str ⟨#[c]⟩,fun i _=>x.cps.size<=i⟩
theorem zdx {P:Program} {w:World} {K:yM} {tg:Expr} (T:String) (hT:T = "str_ascii_iterator" \/ T = "str_iterator") (x:Str) (t:Tok) (it:Addr):Turn P w K tg (Its x) [it] it (fun i h=>h.IsStrIter it T x t i) where
 mem:=by simp
 obj:=fun i h st b hb=>by
  have e:b=it:=by simpa using hb
  subst e;obtain ⟨o,e,c,d⟩:=st;exact ⟨o,e,fun v z=>by rw [d] at z;cases z⟩
 keep:=fun i h h' st k=>let ⟨o,e,r⟩:=st;⟨o,k it (by simp) o e,r⟩
 item:=by
  intro X hP hw hK hc i pins s σ H E I hf st hg;subst hP hw hK;obtain ⟨f0,f1,f2,f3,f4,f5⟩:=hf it (by simp);have hi:i<x.cps.size:=hg;have hx:x.cps[i]?=some x.cps[i]:=by simp [hi]
  have fin:∀ h':Heap,h'.IsStrIter it T x t (i+1)->Heap.SameBut it s.heap h'->∃ u,some (Value.str ⟨#[x.cps[i]]⟩ s.toks)=some u /\
    wpAny (model X.prog X.w) X.A (letOwnedTupleGo tg (.ref it) u) (fun _ s2=>∃ v H',Inv X pins σ H' s2/\yW v u/\(Its x).yld i H v H'/\s2.heap.IsStrIter it T x t (i+1)/\∀ b∈[it],H' b=none) E { s with heap:=h',toks:=s.toks+1 }:=fun h' st' sb=>by
   have I1:Inv X pins σ H { s with heap:=h',toks:=s.toks+1 }:=I.turned (t':=s.toks+1) (fun b o hb e=>(sb.2 b hb).trans e) f0 f1 f3 f4 f5;obtain ⟨o,e,c,d⟩:=id st';exact ⟨_,rfl,dD (s:={ s with heap:=h',toks:=s.toks+1 }) e c d (by rcases hT with rfl|rfl<;>decide) ⟨.str ⟨#[x.cps[i]]⟩,H,I1,⟨_,rfl⟩,⟨rfl,_,hx,rfl⟩,st',fun b hb=>(hf b hb).1⟩⟩
  rcases hT with rfl|rfl
  .exact wpAny_pyNext_ascii_item st hx fin
  .exact wpAny_pyNext_wide_item st hx fin
 done:=by
  intro X hP hw hK hc i pins s σ H E I hf st hg;subst hP hw hK;obtain ⟨f0,f1,f2,f3,f4,f5⟩:=hf it (by simp);have hx:x.cps[i]?=none:=by have h:x.cps.size<=i:=hg;simp [h]
  rcases hT with rfl|rfl
  .exact wpAny_pyNext_ascii_end (I.ok.hd hc) st hx fun h' eb=>⟨rfl,I.turned (t':=s.toks) (fun b o hb e=>eb b o hb e) f0 f1 f3 f4 f5⟩
  .exact wpAny_pyNext_wide_end (I.ok.hd hc) st hx fun h' eb=>⟨rfl,I.turned (t':=s.toks) (fun b o hb e=>eb b o hb e) f0 f1 f3 f4 f5⟩
 self:=fun _ _ _ _ _ st h=>by
  rcases hT with rfl|rfl
  .exact wpAny_pyIter_striter_ascii st h
  .exact wpAny_pyIter_striter_wide st h
theorem zhl {tg l:Expr} {tl:TE} (hl:PE X l tl):PI X tg l (fun σ H R=>tl σ H fun x H1=>(∃ t,x=.str t/\R (Its t) H1)\/∃ a,x=.ref a/\(((∃ xs,rF X.K H1 a xs)/\R (Itl X.K a) H1)\/((∃ xs,sZ X.K H1 a xs)/\R (Itt X.K a) H1)\/∃ l,Rd H1 a (.dK l)/\∀ ob,(∀ ob',H1 a=some (.frz ob' (.dK l))->ob'=ob)->R (Itd a ob l) (xE H1 a (.frz ob (.dK l))))):=by
 intro pins s σ H R I h;refine yB (hl pins s σ H _ I h) fun v s1 ⟨x,H1,I1,r1,q1⟩=>?_;rcases q1 with ⟨tx,e,q⟩|q1
 .subst e;obtain ⟨tk,rfl⟩:=r1
  have fin:∀ T,(T = "str_ascii_iterator" \/ T = "str_iterator")->∀ o:Obj,o.isFreed=false->o.cls=.type T->o.data=.fields #[.str tx tk,.int 0 0]->PIE X pins σ tg R (.ref s1.heap.objs.size) { s1 with heap:=s1.heap.push o }   := fun T hT o hz hc hd=>by
   refine ⟨s1.heap.objs.size,[s1.heap.objs.size],_,_,H1,rfl,I1.kept (t':=s1.toks) fun b o e=>Heap.get?_push_of_some _ e,zdx T hT tx tk _,⟨_,Heap.get?_push_size _ hz,hc,hd⟩,fun b hb=>?_,q⟩;have e:b=s1.heap.objs.size:=by simpa using hb
   subst e;exact I1.fpOk (zzR _) (I1.hok.fresh (zzR _))
  cases hasc:tx.cps.all (· < 128)
  .exact wpAny_pyIter_wide hasc (fin _ (.inr rfl) _ rfl rfl rfl)
  .exact wpAny_pyIter_ascii hasc (fin _ (.inl rfl) _ rfl rfl rfl)
 obtain ⟨a,e,q1⟩:=q1;subst e;cases r1;rcases q1 with ⟨⟨xs,hq⟩,q⟩|⟨⟨xs,hq⟩,q⟩|⟨l,hq,q⟩
 rotate_left 2
 .exact zgt I1 hq q
 .obtain ⟨its,rv,p,hz⟩:=I1.list hq;refine wpAny_pyIter_list p.isList ?_;refine ⟨s1.heap.objs.size,[s1.heap.objs.size],_,_,H1,rfl,I1.kept (t':=s1.toks) fun b o e=>Heap.get?_push_of_some _ e,zbG a _,⟨_,Heap.get?_push_size _ rfl,rfl,rfl⟩,fun b hb=>?_,q⟩;have e:b=s1.heap.objs.size:=by simpa using hb
  subst e;exact I1.fpOk (zzR _) (I1.hok.fresh (zzR _))
 .obtain ⟨its,rv,p,hz⟩:=I1.tuple hq;refine wpAny_pyIter_tuple (show s1.heap.IsTuple a its.toArray from p) ?_;refine ⟨s1.heap.objs.size,[s1.heap.objs.size],_,_,H1,rfl,I1.kept (t':=s1.toks) fun b o e=>Heap.get?_push_of_some _ e,zbc a _,⟨_,Heap.get?_push_size _ rfl,rfl,rfl⟩,fun b hb=>?_,q⟩;have e:b=s1.heap.objs.size:=by simpa using hb
  subst e;exact I1.fpOk (zzR _) (I1.hok.fresh (zzR _))
theorem zh6 {K:yM} {x:Str} {H1:Hp}:ItIs K (Its x) H1 (sgs x) (fun _=>True) where
 go:=fun i H G _ ab st hi=>by
  have h:i<(sgs x).length:=hi;show i<x.cps.size;simpa [sgs] using h
 yld:=fun i H G v H' _ ab st hi y=>by
  obtain ⟨rfl,c,e,rfl⟩:=y;refine ⟨.str ⟨#[c]⟩,?_,.refl,rfl,ab⟩;simp [sgs,e]
 stop:=fun i H G _ ab st hi=>by
  have h:(sgs x).length<=i:=hi;show x.cps.size<=i;simpa [sgs] using h
theorem zh8 {K:yM} {a:Addr} {H1:Hp} {ws:List W}:ItIs K (Itl K a) H1 ws (fun G=>yN G a=some ws) where
 go:=fun i H G _ ab st hi=>by
  obtain ⟨vs,sq,rs⟩:=ab.seq st;have hl:=rs.length;obtain ⟨v,e⟩:∃ v,vs[i]?=some v:=⟨vs[i]'(by omega),List.getElem?_eq_getElem _⟩;exact ⟨vs,v,sq,e⟩
 yld:=fun i H G x H' _ ab st hi y=>by
  obtain ⟨vs,sq,rs⟩:=ab.seq st;obtain ⟨e,y⟩:=y;subst e;obtain ⟨w,ew,rp⟩:=rs.get' (y vs sq);exact ⟨w,ew,.refl,rp,ab⟩
 stop:=fun i H G _ ab st hi=>by
  obtain ⟨vs,sq,rs⟩:=ab.seq st;exact ⟨vs,sq,by rw [rs.length];exact hi⟩
theorem zh5 {K:yM} {a:Addr} {H1:Hp} {ws:List W} {vs:List V} (sq:sZ K H1 a vs) (rs:yY K H1 ws vs):ItIs K (Itt K a) H1 ws (fun _=>True) where
 go:=fun i H G g ab st hi=>by
  have hl:=rs.length;obtain ⟨v,e⟩:∃ v,vs[i]?=some v:=⟨vs[i]'(by omega),List.getElem?_eq_getElem _⟩;exact ⟨vs,v,g.1 _ _ sq,e⟩
 yld:=fun i H G x H' g ab st hi y=>by
  obtain ⟨e,y⟩:=y;subst e;obtain ⟨w,ew,rp⟩:=(rs.mono g).get' (y vs (g.1 _ _ sq));exact ⟨w,ew,.refl,rp,ab⟩
 stop:=fun i H G g ab st hi=>⟨vs,g.1 _ _ sq,by rw [rs.length];exact hi⟩
theorem xI.rdD {K:yM} {H:Hp} {G:Hw} {p:Addr} {kvs:List (yE×W)} (ab:xI K H G) (e:zc1 G p=some kvs):∃ l,Rd H p (.dK l)/\yQ K H kvs l:=by
 unfold zc1 at e
 split at e
 .rename_i q;cases e;obtain ⟨u,e',l,rfl,r⟩:=ab p _ q;exact ⟨l,.inl e',r⟩
 .rename_i q;cases e;obtain ⟨u,e',ob,l,rfl,r⟩:=ab p _ q;exact ⟨l,.inr ⟨ob,e'⟩,r⟩
 .cases e
theorem xI.freeze {K:yM} {H:Hp} {G:Hw} {p:Addr} {kvs:List (yE×W)} {l:List (yE×V)} {ob:Obj} (ab:xI K H G) (e:zc1 G p=some kvs) (hl:Rd H p (.dK l)) (rk:yQ K H kvs l) :
  (∀ ob',H p=some (.frz ob' (.dK l))->ob'=ob)->yF K H (xE H p (.frz ob (.dK l)))/\xI K (xE H p (.frz ob (.dK l))) (put G p (.fzd kvs)):=by
 intro same;unfold zc1 at e
 split at e
 .rename_i q;cases e;have g:yF K H (xE H p (.frz ob (.dK l))):=ab.grow q;exact ⟨g,ab.chg q ⟨ob,l,rfl,rk.mono g⟩⟩
 .rename_i q;cases e;obtain ⟨u,e',ob2,l2,rfl,r⟩:=ab p _ q
  have hp:H p=some (.frz ob (.dK l)):=by
   rcases hl with h|⟨o,h⟩
   .rw [h] at e';cases e'
   .rw [h,same o h]
  rw [zeL hp];refine ⟨.refl,fun b o z=>?_⟩
  by_cases hb:b=p
  .subst hb;rw [zV] at z;cases z;exact ⟨_,hp,ob,l,rfl,rk⟩
  .rw [xR hb] at z;exact ab b o z
 .cases e
theorem yQ.keyAt {K:yM} {H:Hp} {κ:Type}:∀ {l:List (κ×W)} {l':List (κ×V)} {i:Nat} {p:κ×V},yQ K H l l'->l'[i]?=some p->∃ w,l[i]?=some (p.1,w)
 | [],_,i,p,h,e=>by rw [show _=[] from h] at e;simp at e
 | (k,w)::_,_,0,p,⟨v,t,e,h,r⟩,q=>by subst e;simp at q;subst q;exact ⟨w,rfl⟩
 |_::_,_,i+1,p,⟨v,t,e,h,r⟩,q=>by
  subst e;obtain ⟨w,h1⟩:=yQ.keyAt (i:=i) (p:=p) r (by simpa using q);exact ⟨w,by simpa using h1⟩
theorem zhY {K:yM} {H:Hp} (k:yE):wJ K H (kW k) (kV k):=by
 cases k<;>rfl
theorem zh9 {K:yM} {d:Addr} {ob:Obj} {l:List (yE×V)} {H1:Hp} {kvs:List (yE×W)} (e:H1 d=some (.frz ob (.dK l))) (rk:yQ K H1 kvs l):ItIs K (Itd d ob l) H1 (kvs.map fun kv=>kW kv.1) (fun G=>G d=some (.fzd kvs)) where
 go:=fun i H G g ab st hi=>⟨g.2 _ _ True.intro e,by rw [rk.length];simpa using hi⟩
 yld:=fun i H G x H' g ab st hi y=>by
  obtain ⟨e1,p,e2,e3⟩:=y;subst e1;subst e3;obtain ⟨w,ew⟩:=rk.keyAt e2;exact ⟨kW p.1,by rw [List.getElem?_map,ew];rfl,.refl,zhY _,ab⟩
 stop:=fun i H G g ab st hi=>⟨g.2 _ _ True.intro e,by rw [rk.length];simpa using hi⟩
theorem zhm {tg x:Expr} {e:E3} (m:wA e) (h:PE X x (xY X.K e)):PI X tg x (lowI X.K fun σ G R=>e σ G fun w G1=>qS w G1 R):=by
 intro pins s σ H R I q;refine zhl h pins s σ H R I ?_;obtain ⟨σ3,G,hs,ha,q⟩:=q;refine xW m hs ha q fun w G1 v H1 gr hs1 rp ab q=>?_
 cases w with
 |tup ws =>
  obtain ⟨a,vs,rfl,sq,rs⟩:=rp;exact .inr ⟨a,rfl,.inr (.inl ⟨⟨vs,sq⟩,q _ H1 gr ab (zh5 sq rs)⟩)⟩
 |ref p =>
  cases rp;simp only [qS] at q
  split at q
  .rename_i ws e;obtain ⟨vs,sq,rs⟩:=ab.seq e;exact .inr ⟨p,rfl,.inl ⟨⟨vs,sq⟩,q _ H1 gr ab zh8⟩⟩
  .split at q
   .rename_i kvs e;obtain ⟨l,hl,rk⟩:=ab.rdD e;refine .inr ⟨p,rfl,.inr (.inr ⟨l,hl,fun ob same=>?_⟩)⟩;obtain ⟨g2,a2⟩:=ab.freeze (ob:=ob) e hl rk same;exact q _ _ (gr.trans g2) a2 (zh9 (wE) (rk.mono g2))
   .exact q.elim
 |str t =>
  cases rp;exact .inl ⟨t,rfl,q _ H1 gr ab zh6⟩
 |_=>exact q.elim
def lowG (K:yM) (t:G3):TG:=fun v τ H Q=>∃ w σ G,wJ K H w v/\yH K H σ τ/\xI K H G/\t w σ G fun σ' G'=>∀ τ' H',yF K H H'->yH K H' σ' τ'->xI K H' G'->Q τ' H'
def lowGs (K:yM) (t:Gs3):TGs:=fun vs τ H Q=>∃ ws σ G,yY K H ws vs/\yH K H σ τ/\xI K H G/\t ws σ G fun σ' G'=>∀ τ' H',yF K H H'->yH K H' σ' τ'->xI K H' G'->Q τ' H'
theorem _root_.L2.PG.imp {tg:Expr} {t t':TG} (h:PG X tg t) (k:∀ v σ H Q,t' v σ H Q->t v σ H Q):PG X tg t':=fun pins s σ H v u Q I r q=>h pins s σ H v u Q I r (k v σ H Q q)
theorem _root_.L2.PGs.imp {tg:List Expr} {t t':TGs} (h:PGs X tg t) (k:∀ v σ H Q,t' v σ H Q->t v σ H Q):PGs X tg t':=fun pins s σ H v u Q I r q=>h pins s σ H v u Q I r (k v σ H Q q)
theorem fP {e:Expr} {es:List Expr} {env:Env} (h:wW e=true):assignEach (e::es) env=(false,assign e env)::assignEach es env:=by
 cases e<;>first|rfl|exact absurd h zzN
end
def MonoG (t:G3):Prop:=∀ w σ G (Q Q':jE->Hw->Prop),(∀ a b,Q a b->Q' a b)->t w σ G Q->t w σ G Q'
def ziD (t:Gs3):Prop:=∀ w σ G (Q Q':jE->Hw->Prop),(∀ a b,Q a b->Q' a b)->t w σ G Q->t w σ G Q'
mutual
theorem rC:∀ t:ITg,MonoG (zW t)
 | .nm i=>fun w σ G Q Q' k h=>k _ _ h
 | .tup ts=>fun w σ G Q Q' k h=>by
  cases w with
  |tup ws=>exact mU ts ws σ G Q Q' k h
  |_=>exact h.elim
theorem mU:∀ ts:ITgs,ziD (zZ ts)
 | .nil=>fun w σ G Q Q' k h=>by
  cases w with
  |nil=>exact k _ _ h
  |cons _ _=>exact h.elim
 | .cons t ts=>fun w σ G Q Q' k h=>by
  cases w with
  |nil=>exact h.elim
  |cons x r=>exact rC t x σ G _ _ (fun σ' G' h=>mU ts r σ' G' Q Q' k h) h
end
theorem bM {Γ:Ctx3} {M:MC} {p:Par} {X:Cx} (L:Lk Γ M p X) {x:Str} (h:bL M x=true):Loc X.env.scope x/\(X.fn x=true\/X.env.scope.names.lookup x=some .local):=by
 unfold bL at h;rw [L.sc]
 split at h
 .rename_i e;exact ⟨.inl e,.inr e⟩
 .rename_i e;exact ⟨.inr e,.inl (L.own x h)⟩
 .exact absurd h zzN
mutual
theorem sndG {Γ:Ctx3} {M:MC} {p:Par} {X:Cx} (L:Lk Γ M p X):∀ (t:ITg) (x:Expr),mG M t x=true->PG X x (lowG X.K (zW t))
  | .nm i,x,h=>by
   cases x with
   |Name y q =>
    replace h:=tX h;have lo:=bM L h.2;refine (bQ (i:=i) (L.N▸L.nd) (by rw [L.N];exact jF h.1) lo.1 lo.2).imp fun v σ H Q q=>?_;obtain ⟨w,σ3,G,rp,hs,ab,q⟩:=q;exact q _ _ .refl (hs.set rp i) ab
   |_=>exact absurd h zzN
  | .tup ts,x,h=>by
   cases x with
   |Tuple es k q =>
    skip
    obtain ⟨ps,hn,hst⟩:=zgZ L ts es h;refine (zhn (n:=es.length) L.fits.calm ps hn hst).imp fun v σ H Q q=>?_;obtain ⟨w,σ3,G,rp,hs,ab,q⟩:=q
    cases w with
    |tup ws =>
      obtain ⟨a,vs,rfl,sq,rs⟩:=rp;refine ⟨a,vs,rfl,sq,?_,ws,σ3,G,rs,hs,ab,q⟩;rw [rs.length];exact zhN ts es ws σ3 G _ h q
    |_=>exact q.elim
   |_=>exact absurd h zzN
theorem zgZ {Γ:Ctx3} {M:MC} {p:Par} {X:Cx} (L:Lk Γ M p X):∀ (ts:ITgs) (xs:List Expr),mGs M ts xs=true->PGs X xs (lowGs X.K (zZ ts))/\(assignEach xs X.env).length=xs.length/\(assignEach xs X.env).findIdx? (·.1)=none
 | .nil,[],_=>⟨(zca).imp fun vs σ H Q q=>by
   obtain ⟨ws,σ3,G,rs,hs,ab,q⟩:=q
   cases ws with
   |nil=>exact ⟨rs,q _ _ .refl hs ab⟩
   |cons _ _=>exact q.elim,rfl,rfl⟩
 | .cons t ts,x::xs,h=>by
  simp only [mGs,Bool.and_eq_true] at h;obtain ⟨ps,hn,hst⟩:=zgZ L ts xs h.2;have es:=fP (es:=xs) (env:=X.env) h.1.1;refine ⟨(nC (sndG L t x h.1.2) ps (by rw [es];rfl)).imp fun vs σ H Q q=>?_,by rw [es,List.length_cons,List.length_cons,hn],?_⟩
  .obtain ⟨ws,σ3,G,rs,hs,ab,q⟩:=q
   cases ws with
   |nil=>exact q.elim
   |cons w r =>
    obtain ⟨v,vr,e,rp,rr⟩:=rs;refine ⟨v,vr,e,w,σ3,G,rp,hs,ab,rC t w σ3 G _ _ (fun σ' G' q τ' H' g' hs' ab'=>?_) q⟩;exact ⟨r,σ',G',rr.mono g',hs',ab',mU ts r σ' G' _ _ (fun σ2 G2 q τ2 H2 g2=>q τ2 H2 (g'.trans g2)) q⟩
  .rw [es,List.findIdx?_cons];simp only [zzB,if_false,hst];rfl
theorem zhN {M:MC}:∀ (ts:ITgs) (xs:List Expr) (ws:List W) (σ:jE) (G:Hw) (Q:jE->Hw->Prop),mGs M ts xs=true->zZ ts ws σ G Q->ws.length=xs.length
 | .nil,[],ws,σ,G,Q,_,q=>by
  cases ws with
  |nil=>rfl
  |cons _ _=>exact q.elim
 | .cons t ts,x::xs,ws,σ,G,Q,h,q=>by
  simp only [mGs,Bool.and_eq_true] at h
  cases ws with
  |nil=>exact q.elim
  |cons w r =>
   have:∃ σ' G',zZ ts r σ' G' Q:=exG t w σ G _ q;obtain ⟨σ',G',q'⟩:=this;rw [List.length_cons,List.length_cons,zhN ts xs r σ' G' Q h.2 q']
theorem exG:∀ (t:ITg) (w:W) (σ:jE) (G:Hw) (Q:jE->Hw->Prop),zW t w σ G Q->∃ σ' G',Q σ' G'
 | .nm i,w,σ,G,Q,q=>⟨_,_,q⟩
 | .tup ts,w,σ,G,Q,q=>by
  cases w with
  |tup ws=>exact exGs ts ws σ G Q q
  |_=>exact q.elim
theorem exGs:∀ (ts:ITgs) (ws:List W) (σ:jE) (G:Hw) (Q:jE->Hw->Prop),zZ ts ws σ G Q->∃ σ' G',Q σ' G'
 | .nil,ws,σ,G,Q,q=>by
  cases ws with
  |nil=>exact ⟨_,_,q⟩
  |cons _ _=>exact q.elim
 | .cons t ts,ws,σ,G,Q,q=>by
  cases ws with
  |nil=>exact q.elim
  |cons w r =>
   obtain ⟨σ',G',q'⟩:=exG t w σ G _ q;exact exGs ts r σ' G' Q q'
end
def lowO (K:yM) (t:jE->Hw->(Option Int->Hw->Prop)->Prop):TO:=fun τ H Q=>∃ σ G,yH K H σ τ/\xI K H G/\t σ G fun o G'=>∀ H',yF K H H'->xI K H' G'->Q o H'
theorem _root_.L2.PO.imp {X:Cx} {e:Option Expr} {t t':TO} (h:PO X e t) (k:∀ σ H Q,t' σ H Q->t σ H Q):PO X e t':=fun pins s σ H Q I q=>h pins s σ H Q I (k σ H Q q)
theorem _root_.L2.PTs.imp {X:Cx} {e:List Expr} {t t':TT} (h:PTs X e t) (k:∀ σ H Q,t' σ H Q->t σ H Q):PTs X e t':=fun pins s σ H Q I q=>h pins s σ H Q I (k σ H Q q)
theorem _root_.L2.PI.imp {X:Cx} {tg x:Expr} {t t':TI} (h:PI X tg x t) (k:∀ σ H R,t' σ H R->t σ H R):PI X tg x t':=fun pins s σ H R I q=>h pins s σ H R I (k σ H R q)
def capV (k:Nat) (caps:List Nat) (σ:L2.St):L2.St:=List.replicate k none++caps.map fun j=>(σ[j]?).join
theorem zaz {α:Type} {k:Nat} {caps:List Nat} {σ:List (Option α)} {i:Nat} {v:α} (h:(List.replicate k none++caps.map fun j=>(σ[j]?).join)[i]?=some (some v)):k<=i/\∃ j,caps[i-k]?=some j/\σ[j]?=some (some v):=by
 by_cases hi:i<k
 .rw [List.getElem?_append_left (by simpa using hi),List.getElem?_replicate,if_pos hi] at h;cases h
 .rw [List.getElem?_append_right (by simpa using hi),List.length_replicate,List.getElem?_map] at h;refine ⟨by omega,?_⟩
  cases e:caps[i-k]? with
  |none=>rw [e] at h;cases h
  |some j =>
   rw [e] at h;have h':(σ[j]?).join=some v:=Option.some.inj h;refine ⟨j,rfl,?_⟩
   cases q:σ[j]? with
   |none=>rw [q] at h';cases h'
   |some o=>rw [q] at h';exact congrArg some h'
theorem zgC {K:yM} {H:Hp} {σ:jE} {τ:L2.St} (h:yH K H σ τ) (k:Nat) (caps:List Nat):yH K H (tF k caps σ) (capV k caps τ):=by
 refine ⟨by simp [tF,capV],fun i w e=>?_⟩;obtain ⟨hk,j,ej,es⟩:=zaz e;obtain ⟨v,ev,rp⟩:=h.2 j w es;refine ⟨v,?_,rp⟩;unfold capV;rw [List.getElem?_append_right (by simpa using hk),List.length_replicate,List.getElem?_map,ej];simp [ev]
theorem zaT:∀ {l:List Str},mY l=true->l.Nodup
 | [],_=>List.nodup_nil
 |x::r,h=>by
  simp only [mY,Bool.and_eq_true,Bool.not_eq_true'] at h;refine List.nodup_cons.mpr ⟨fun hm=>?_,zaT h.2⟩;have:=List.elem_eq_true_of_mem hm;rw [List.contains_eq_mem] at h;simp [hm] at h
theorem zft {X:Cx} {sc out:Scope} (e:X.env.scope=out):relabel sc X.env=relS sc out:=by
 unfold relabel relS Env.kindOf;rw [e]
theorem zfi {X:Cx} {sc out:Scope} (e:X.env.scope=out) (h:blkB out sc=true):BlkSc X sc:=by
 unfold blkB at h;simp only [Bool.and_eq_true,List.all_eq_true] at h;obtain ⟨⟨⟨h1,h2⟩,h3⟩,h4⟩:=h;refine ⟨eq_of_beq h1,fun y hy=>?_,fun y hy=>?_,fun x hx=>?_,fun y hy z=>?_⟩
 .simpa using (h2 _ hy).1
 .simpa using (h2 _ hy).2
 .have:=h3 _ hx;simp only [beq_self_eq_true,Bool.not_true,Bool.false_or,Bool.or_eq_true,beq_iff_eq] at this;show X.env.scope.names.lookup x=_\/X.env.scope.names.lookup x=_;rw [e];exact this
 .have:=h4 y hy;rw [z] at this;simpa using this
theorem zdc {X:Cx} {M:MC} {sc:Scope} {names:List Str} {caps:List Nat} (eN:X.N=M.N) (es:X.env.scope=M.sc)
  (h:(caps.all fun j=>decide (j<M.N.length)&&(sc.names.lookup (M.N.getD j Str.empty)==some .free))=true) :
  Caps X sc (names++caps.map (fun j=>M.N.getD j Str.empty)) (capV names.length caps):=by
 intro σ hl;simp only [List.all_eq_true,Bool.and_eq_true,decide_eq_true_eq,Bool.not_eq_true'] at h;refine ⟨by simp [capV],fun i x v hN hσ _=>?_⟩;obtain ⟨hk,j,ej,e⟩:=zaz hσ;rw [List.getElem?_append_right hk,List.getElem?_map,ej] at hN;have hx:M.N.getD j Str.empty=x:=Option.some.inj hN;have hj:=h j (List.mem_of_getElem? ej);refine ⟨?_,j,?_,e⟩
 .rw [← hx];exact eq_of_beq hj.2
 .rw [eN,← hx,List.getD_eq_getElem?_getD,List.getElem?_eq_getElem hj.1];rfl
theorem zhO {K:yM} {J:It} {H1:Hp} {items:List W} {stab:Hw->Prop} {G1:Hw} {σ:jE} {τ:L2.St} {tg:ITg} {c:T3} {e:E3} {Q:VK} {H0:Hp} (mc:uS c) (me:wA e) (it:ItIs K J H1 items stab) (ab:xI K H1 G1) (hs:yH K H1 σ τ) (g0:yF K H0 H1)
  (hw:∀ w G' (Q:jE->Hw->Prop),zW tg w σ G' Q->zW tg w σ G' fun σ2 G2=>(σ2.length=σ.length/\∀ (i:Nat) (v:W),σ[i]?=some (some v)->σ2[i]?=some (some v))/\Q σ2 G2)
  (h:lcR items stab G1 (fun w G' K=>zW tg w σ G' fun σ2 G2=>c σ2 G2 fun b G3=>if b=true then e σ2 G3 fun x G4=>K (some x) G4 else K none G3) (vK K H0 Q)) :
  tLCb J τ (lowG K (zW tg)) (qC K c) (xY K e) (fun acc H'=>∀ p,H' p=none->Q (.ref p) (xE H' p (.lst acc))) H1:=by
 obtain ⟨Pv,p0,pst,hlen,step,fin⟩:=h;refine ⟨fun i m τ acc H=>m+i=items.length/\yF K H1 H/\yH K H σ τ/\∃ ws G,yY K H ws acc/\xI K H G/\Pv i ws G,⟨items.length,rfl,.refl,hs,[],G1,rfl,ab,p0⟩,?_⟩;rintro i m τ acc H ⟨hm,gr,hs,ws,G,rs,a,pv⟩;have hst:=pst i ws G pv (by omega);have hacc:acc.length=ws.length:=rs.length
 by_cases hi:i<items.length
 .refine .inr ⟨it.go i H G gr a hst.1 hi,by omega,fun x H' y=>?_⟩;obtain ⟨w,ew,g1,rp,a1⟩:=it.yld i H G x H' gr a hst.1 hi y;refine ⟨w,σ,G,rp,hs.mono g1,a1,rC tg w σ G _ _ (fun σ2 G2 q τ2 H2 g2 hs2 a2=>?_) (hw w G _ (step i w ws G ew pv))⟩;obtain ⟨⟨wl,wk⟩,q⟩:=q;have back:∀ {τ':L2.St} {H':Hp},yH K H' σ2 τ'->yH K H' σ τ':=fun {τ' H'} r=>⟨by rw [← wl];exact r.1,fun k w e=>r.2 k w (wk k w e)⟩;refine gP mc hs2 a2 q fun b G3 H3 g3 hs3 a3 q3=>?_
  cases b with
  |true =>
   rw [if_pos rfl] at q3 ⊢;refine xW me hs3 a3 q3 fun x G4 v H4 g4 hs4 rx a4 q4=>?_;refine ⟨m-1,by omega,by omega,gr.trans (g1.trans (g2.trans (g3.trans g4))),back hs4,ws++[x],G4,?_,a4,q4⟩;exact (rs.mono (g1.trans (g2.trans (g3.trans g4)))).append ⟨v,[],rfl,rx,rfl⟩
  |false =>
   rw [if_neg (by decide)] at q3 ⊢;exact ⟨m-1,by omega,by omega,gr.trans (g1.trans (g2.trans g3)),back hs3,ws,G3,rs.mono (g1.trans (g2.trans g3)),a3,q3⟩
 .refine .inl ⟨it.stop i H G gr a hst.1 (by omega),fun p hp=>?_⟩;have ei:i=items.length:=by omega
  subst ei;exact fin ws G pv p (a.free hp) _ _ ((g0.trans gr).trans (wL hp)) rfl (a.new hp ⟨acc,rfl,rs.mono (wL hp)⟩)
theorem zbZ:∀ (tg:ITg) (w:W) (σ:jE) (G:Hw) (Q:jE->Hw->Prop),zW tg w σ G Q->zW tg w σ G fun σ2 G2=>σ2.length=σ.length/\Q σ2 G2:=by
 intro tg
 refine ITg.rec (motive_1:=fun _=>True) (motive_2:=fun _=>True) (motive_3:=fun _=>True) (motive_4:=fun _=>True) (motive_5:=fun tg=>∀ (w:W) (σ:jE) (G:Hw) (Q:jE->Hw->Prop),zW tg w σ G Q->zW tg w σ G fun σ2 G2=>σ2.length=σ.length/\Q σ2 G2)
  (motive_6:=fun ts=>∀ (ws:List W) (σ:jE) (G:Hw) (Q:jE->Hw->Prop),zZ ts ws σ G Q->zZ ts ws σ G fun σ2 G2=>σ2.length=σ.length/\Q σ2 G2)
  ?_ ?_ ?_ ?_ ?_ ?_ ?_ ?_ ?_ ?_ ?_ ?_ ?_ ?_ ?_ ?_ ?_ ?_ ?_ ?_ ?_ ?_ ?_ ?_ ?_ ?_ ?_ ?_ ?_ ?nm ?tup ?nil ?cons tg
 case nm=>exact fun i w σ G Q h=>⟨by simp,h⟩
 case tup =>
  intro ts ih w σ G Q h
  cases w with
  |tup ws=>exact ih ws σ G Q h
  |_=>exact h.elim
 case nil =>
  intro ws σ G Q h
  cases ws with
  |nil=>exact ⟨rfl,h⟩
  |cons _ _=>exact h.elim
 case cons =>
  intro t ts ht hts ws σ G Q h
  cases ws with
  |nil=>exact h.elim
  |cons w r =>
   refine rC t w σ G _ _ (fun σ' G' q=>?_) (ht w σ G _ h);exact mU ts r σ' G' _ _ (fun σ2 G2 q2=>⟨q2.1.trans q.1,q2.2⟩) (hts r σ' G' Q q.2)
 all_goals intros;trivial
mutual
theorem zaN:∀ (tg:ITg) (w:W) (σ:jE) (G:Hw) (Q:jE->Hw->Prop),zW tg w σ G Q->zW tg w σ G fun σ2 G2=>(∀ i,i∉tgIx tg->σ2[i]?=σ[i]?)/\Q σ2 G2
 | .nm j,w,σ,G,Q,h=>⟨fun i hi=>by rw [List.getElem?_set_ne];intro z;exact hi (by simp [tgIx,z]),h⟩
 | .tup ts,w,σ,G,Q,h=>by
  cases w with
  |tup ws=>exact fB ts ws σ G Q h
  |_=>exact h.elim
theorem fB:∀ (ts:ITgs) (ws:List W) (σ:jE) (G:Hw) (Q:jE->Hw->Prop),zZ ts ws σ G Q->zZ ts ws σ G fun σ2 G2=>(∀ i,i∉zdB ts->σ2[i]?=σ[i]?)/\Q σ2 G2
 | .nil,ws,σ,G,Q,h=>by
  cases ws with
  |nil=>exact ⟨fun _ _=>rfl,h⟩
  |cons _ _=>exact h.elim
 | .cons t ts,ws,σ,G,Q,h=>by
  cases ws with
  |nil=>exact h.elim
  |cons w r =>
   refine rC t w σ G _ _ (fun σ' G' q=>?_) (zaN t w σ G _ h);refine mU ts r σ' G' _ _ (fun σ2 G2 q2=>⟨fun i hi=>?_,q2.2⟩) (fB ts r σ' G' Q q.2);simp only [zdB,List.mem_append,not_or] at hi;rw [q2.1 i hi.2,q.1 i hi.1]
end
theorem zc2 {K:yM} {H:Hp}:∀ (ks:List Str) {ws:List W} {vs:List V} {a:List (yE×W)} {b:List (yE×V)},yY K H ws vs->yQ K H a b ->
  yQ K H ((ks.zip ws).foldl (fun acc kv=>fR acc (.inr kv.1) kv.2) a) (((ks.zip vs).map fun kv=>((Sum.inr kv.1:yE),kv.2)).foldl (fun acc kv=>vL acc kv.1 kv.2) b)
 | [],ws,vs,a,b,_,h=>by simpa using h
 |k::ks,[],vs,a,b,hr,h=>by rw [show vs=[] from hr];simpa using h
 |k::ks,w::ws,vs,a,b,hr,h=>by
  obtain ⟨v,r,e,rw',rr⟩:=hr;subst e;simp only [List.zip_cons_cons,List.foldl_cons,zzU];exact zc2 ks rr (h.put rw')
theorem mH {K:yM} {H:Hp} {f:Str} {w:W}:∀ {l:List (Str×W)} {l':List (Str×V)},yQ K H l l'->l.lookup f=some w->∃ v,l'.lookup f=some v/\wJ K H w v
 | [],_,h,e=>by cases e
 |p::r,_,⟨v,t,e,h,hr⟩,q=>by
  subst e;obtain ⟨n,u⟩:=p;rw [List.lookup_cons] at q ⊢
  cases hx:f==n with
  |true=>rw [hx] at q;cases q;exact ⟨v,rfl,h⟩
  |false=>rw [hx] at q;exact mH hr q
theorem zeN {K:yM} {H:Hp} {G:Hw} {w:W} {v:V} {T:String} (r:wJ K H w v) (ab:xI K H G) (h:tyW G w T):tyV K T v H:=by
 cases w with
 |str x=>cases r;exact h
 |ref p =>
  cases r;simp only [tyW] at h
  split at h
  .rename_i ws e;obtain ⟨vs,q,_⟩:=ab.lst e;exact .inl ⟨h,vs,.of q⟩
  .rename_i ws e;obtain ⟨vs,q,_⟩:=ab.seq (a:=p) (ws:=ws) (by unfold yN;rw [e]);exact .inl ⟨h,vs,q⟩
  .rename_i kvs e;obtain ⟨l,q,_⟩:=ab.dic e;exact .inr (.inr (.inl ⟨h,.inl ⟨l,q⟩⟩))
  .exact h.elim
 |_=>exact h.elim
theorem zfT {l:List Nat} {k:Nat} (h:l.all (fun i=>decide (i<k))=true) {i:Nat} (hi:k<=i):i∉l:=fun hm=>by
 have:=List.all_eq_true.mp h i hm;simp at this;omega
theorem zf6 {op:CmpOp} {a b:IE} {M:MC} {l:Expr} {os:List CmpOp} {rs:List Expr} {q:Pos} (h:mE (.cmp op a b) M (.Compare l os rs q)=true):∃ o r,os=[o]/\rs=[r]:=by
 cases os with
 |nil=>exact absurd h zzN
 |cons o os =>
  cases os with
  |cons _ _=>exact absurd h zzN
  |nil =>
   cases rs with
   |nil=>exact absurd h zzN
   |cons r rs =>
    cases rs with
    |cons _ _=>exact absurd h zzN
    |nil=>exact ⟨o,r,rfl,rfl⟩
theorem zf7 {o1 o2:CmpOp} {a b c:IE} {M:MC} {l:Expr} {os:List CmpOp} {rs:List Expr} {q:Pos} (h:mE (.chn o1 o2 a b c) M (.Compare l os rs q)=true):∃ p1 p2 r t,os=[p1,p2]/\rs=[r,t]:=by
 cases os with
 |nil=>exact absurd h zzN
 |cons p1 os =>
  cases os with
  |nil=>exact absurd h zzN
  |cons p2 os =>
   cases os with
   |cons _ _=>exact absurd h zzN
   |nil =>
    cases rs with
    |nil=>exact absurd h zzN
    |cons r rs =>
     cases rs with
     |nil=>exact absurd h zzN
     |cons t rs =>
      cases rs with
      |cons _ _=>exact absurd h zzN
      |nil=>exact ⟨p1,p2,r,t,rfl,rfl⟩
theorem zf8 {o1 o2 o3:CmpOp} {a b c d:IE} {M:MC} {l:Expr} {os:List CmpOp} {rs:List Expr} {q:Pos} (h:mE (.ch3 o1 o2 o3 a b c d) M (.Compare l os rs q)=true):∃ p1 p2 p3 r t u,os=[p1,p2,p3]/\rs=[r,t,u]:=by
 match os,rs,h with
 | [p1,p2,p3],[r,t,u],_=>exact ⟨p1,p2,p3,r,t,u,rfl,rfl⟩
section
variable {X : Cx} {a b c d : Expr} {pos : Pos} {ta tb tc td : TE}
def tCh3 (r1 r2 r3:R2) (ta tb tc td:TE):TE:=fun σ H Q=>ta σ H fun x H1=>tb σ H1 fun y H2=>r1 x y H2 fun z H3=>∃ k,z=.bl k /\
 (if k=true then tc σ H3 fun u H4=>r2 y u H4 fun z2 H5=>∃ k2,z2=.bl k2/\(if k2=true then td σ H5 fun t H6=>r3 u t H6 Q else Q (.bl false) H5) else Q (.bl false) H3)
theorem zhw {o1 o2 o3:CmpOp} {r1 r2 r3:R2} (h1:kM X (compareOp o1) r1) (h2:kM X (compareOp o2) r2) (h3:kM X (compareOp o3) r3) (ha:PE X a ta) (hb:PE X b tb) (hc:PE X c tc) (hd:PE X d td)
  (hm:lastMarks [o1,o2,o3] [b,c,d]=false):PE X (.Compare a [o1,o2,o3] [b,c,d] pos) (tCh3 r1 r2 r3 ta tb tc td):=by
 intro pins s σ H Q I h
 refine Compare_chain (yB (ha pins s σ H _ I h) fun v s1 ⟨x,H1,I1,e1,q1⟩=>chain_link (yB (hb pins s1 σ H1 _ I1 q1) fun u s2 ⟨y,H2,I2,e2,q2⟩ =>
  yB (h1 pins s2 σ H2 x y v u _ I2 e1 e2 q2) fun _ s3 ⟨z,H3,I3,e3,k,e,q3⟩=>?_)) hm
 subst e;cases e3;refine wpAny_truthy_bool ?_
 cases k with
 |false=>exact ite_ff ⟨.bl false,H3,I3,rfl,q3⟩
 |true =>
  refine ite_tt (chain_link (yB (hc pins s3 σ H3 _ I3 q3) fun w4 s4 ⟨z4,H4,I4,e4,q4⟩=>yB (h2 pins s4 σ H4 y z4 u w4 _ I4 e2 e4 q4) fun _ s5 ⟨z5,H5,I5,e5,k2,e,q5⟩=>?_));subst e;cases e5;refine wpAny_truthy_bool ?_
  cases k2 with
  |false=>exact ite_ff ⟨.bl false,H5,I5,rfl,q5⟩
  |true=>exact ite_tt (chain_last (yB (hd pins s5 σ H5 _ I5 q5) fun w6 s6 ⟨z6,H6,I6,e6,q6⟩=>h3 pins s6 σ H6 z4 z6 w4 w6 Q I6 e4 e6 q6))
theorem zhg {o1 o2 o3:CmpOp} {r1 r2 r3:R2} (h1:kM X (compareOp o1) r1) (h2:kM X (compareOp o2) r2) (h3:kM X (compareOp o3) r3) (ha:PE X a ta) (hb:PE X b tb) (hc:PE X c tc) (hd:PE X d td)
  (hm:lastMarks [o1,o2,o3] [b,c,d]=false):PT X (.Compare a [o1,o2,o3] [b,c,d] pos) (zfm (tCh3 r1 r2 r3 ta tb tc td)):=by
 intro pins s σ H Q I h
 refine isTrue_chain (yB (ha pins s σ H _ I h) fun v s1 ⟨x,H1,I1,e1,q1⟩=>test_link (yB (hb pins s1 σ H1 _ I1 q1) fun u s2 ⟨y,H2,I2,e2,q2⟩ =>
  yB (h1 pins s2 σ H2 x y v u _ I2 e1 e2 q2) fun _ s3 ⟨z,H3,I3,e3,k,e,q3⟩=>?_)) hm
 subst e;cases e3;refine wpAny_truthy_bool ?_
 cases k with
 |false =>
  obtain ⟨k',e',q'⟩:=q3;cases e';exact ite_ff ⟨H3,I3,q'⟩
 |true =>
  refine ite_tt (test_link (yB (hc pins s3 σ H3 _ I3 q3) fun w4 s4 ⟨z4,H4,I4,e4,q4⟩=>yB (h2 pins s4 σ H4 y z4 u w4 _ I4 e2 e4 q4) fun _ s5 ⟨z5,H5,I5,e5,k2,e,q5⟩=>?_));subst e;cases e5;refine wpAny_truthy_bool ?_
  cases k2 with
  |false =>
   obtain ⟨k',e',q'⟩:=q5;cases e';exact ite_ff ⟨H5,I5,q'⟩
  |true =>
   refine ite_tt (test_last (yB (hd pins s5 σ H5 _ I5 q5) fun w6 s6 ⟨z6,H6,I6,e6,q6⟩=>yB (h3 pins s6 σ H6 z4 z6 w4 w6 _ I6 e4 e6 q6) fun _ s7 ⟨z7,H7,I7,e7,k3,e,q7⟩=>?_));subst e;cases e7;exact wpAny_truthy_bool ⟨H7,I7,q7⟩
end
section
variable {Γ : Ctx3} {p : Par} (g : Good Γ p)
def jB (Γ:Ctx3) (p:Par) (e:IE):Prop:=∀ M X x,Lk Γ M p X->mE e M x=true->PE X x (xY X.K (zG Γ XN e).e)/\PT X x (qC X.K (zG Γ XN e).t)/\∀ op vs pos,x=.BoolOp op vs pos->PW X x (qC X.K (zG Γ XN e).t)
def OkO (Γ:Ctx3) (p:Par) (o:IO):Prop:=∀ M X,Lk Γ M p X->(∀ x,mO o M x=true->PO X x (lowO X.K (zP Γ XN o)))/\∀ xs,mC o M xs=true->PTs X xs (qC X.K (zR Γ o))
def OkA (Γ:Ctx3) (p:Par) (es:IEs):Prop:=∀ M X xs,Lk Γ M p X->mA es M xs=true->PA X xs (sL X.K (zX Γ XN es))/\xs.all wW=true /\
 (∀ ks keys pos,keyB ks keys=true->keys.length=xs.length->keys.all (·.isSome)=true/\ks.length=keys.length/\∃ trs,PPs X pos keys xs trs/\∀ τ H (Q:List (V×V)->Hp->Prop),
  (∃ σ G,yH X.K H σ τ/\xI X.K H G/\zX Γ XN es σ G fun ws G'=>∀ vs H',yF X.K H H'->yY X.K H' ws vs->xI X.K H' G'->Q ((ks.zip vs).map fun kv=>(V.str kv.1,kv.2)) H')->cB trs τ H Q)/\cG X xs (semL Γ es)
def OkI (Γ:Ctx3) (p:Par) (it:II):Prop:=∀ M X x,Lk Γ M p X->mI it M x=true->∀ tg,PI X tg x (lowI X.K (zT Γ XN it))
theorem jN {M:MC} {X:Cx} {x:Expr} {e:E3} (m:wA e) (h:PE X x (xY X.K e)) (he:∀ whole,isTrue x X.env whole=(do let v ← whole;standAt x.pos;holding [v] (truthy v))) (hb:∀ op vs pos,x≠.BoolOp op vs pos) :
  PE X x (xY X.K (zC e).e)/\PT X x (qC X.K (zC e).t)/\∀ op vs pos,x=.BoolOp op vs pos->PW X x (qC X.K (zC e).t) :=
 ⟨h,pt_of m h he,fun op vs pos z=>absurd z (hb op vs pos)⟩
include g
theorem s_var (i:Nat):jB Γ p (.var i):=by
 intro M X x L h
 cases x with
 |Name y q =>
  replace h:=bd4 h;simp only [Bool.not_eq_true'] at h;refine jN (M:=M) (yV g.mono XN (.var i)) ((zho (i:=i) (by rw [L.N];exact jF h.1.1.1) (by rw [L.sc];exact zgI h.1.1.2) h.1.2 h.2).imp fun τ H Q q=>?_) (fun _=>rfl) (fun _ _ _ z=>nomatch z);obtain ⟨σ,G,hs,ab,q⟩:=q
  split at q
  .rename_i w e;obtain ⟨v,ev,rp⟩:=hs.2 i w e;exact ⟨v,ev,q v H .refl rp ab⟩
  .exact q.elim
 |_=>exact absurd h zzN
theorem s_con (c:Const):jB Γ p (.con c):=by
 intro M X x L h
 cases x with
 |Constant d k q =>
  replace h:=of_decide_eq_true h;subst h;refine jN (M:=M) (yV g.mono XN (.con c)) ?_ (fun _=>rfl) (fun _ _ _ z=>nomatch z)
  cases c with
  |none=>exact zht.imp fun τ H Q q=>by obtain ⟨σ,G,hs,ab,q⟩:=q;exact q _ H .refl rfl ab
  |bool b=>exact pe_bl.imp fun τ H Q q=>by obtain ⟨σ,G,hs,ab,q⟩:=q;exact q _ H .refl rfl ab
  |int b=>exact ze0.imp fun τ H Q q=>by obtain ⟨σ,G,hs,ab,q⟩:=q;exact q _ H .refl rfl ab
  |str b=>exact zeY.imp fun τ H Q q=>by obtain ⟨σ,G,hs,ab,q⟩:=q;exact q _ H .refl rfl ab
  |_=>exact fun pins s σ H Q I q=>by obtain ⟨σ,G,hs,ab,q⟩:=q;exact q.elim
 |_=>exact absurd h zzN
theorem s_glb (i:Nat):jB Γ p (.glb i):=by
 intro M X x L h
 cases x with
 |Name y q =>
  replace h:=tX h;have gl:=dB L.sc h.2;have hi:=jF h.1;rw [← L.gls] at hi;obtain ⟨e,ei,rfl⟩:=uP hi;refine jN (M:=M) (yV g.mono XN (.glb i)) ((g.gl e (wH ei) X L.fits gl.1 q gl.2.1 gl.2.2).imp fun τ H Q q=>?_) (fun _=>rfl) (fun _ _ _ z=>nomatch z);obtain ⟨σ,G,hs,ab,q⟩:=q;simp only [ei] at q;exact ⟨σ,G,hs,ab,q⟩
 |_=>exact absurd h zzN
theorem sH {M:MC} {X:Cx} (L:Lk Γ M p X):X.A.units+200<cLine:=by rw [L.fits.A];exact g.un
theorem s_bin (op:Operator) (a b:IE) (ha:jB Γ p a) (hb:jB Γ p b):jB Γ p (.bin op a b):=by
 intro M X x L h
 cases x with
 |BinOp l o r q =>
  replace h:=bd3 h;simp only [decide_eq_true_eq] at h;obtain ⟨⟨rfl,h1⟩,h2⟩:=h;exact jN (M:=M) (yV g.mono XN (.bin op a b)) ((pe_op (ziq op) (ha M X l L h1).1 (hb M X r L h2).1).imp fun τ H Q q=>bO (yV g.mono XN a) (yV g.mono XN b) (cK op) q) (fun _=>rfl) (fun _ _ _ z=>nomatch z)
 |_=>exact absurd h zzN
theorem s_neg (a:IE) (ha:jB Γ p a):jB Γ p (.neg a):=by
 intro M X x L h
 cases x with
 |UnaryOp o l q =>
  cases o with
  |USub =>
   skip
   refine jN (M:=M) (yV g.mono XN (.neg a)) ((zhp zeM (ha M X l L h).1).imp fun τ H Q q=>?_) (fun _=>rfl) (fun _ _ _ z=>nomatch z);obtain ⟨σ,G,hs,ab,q⟩:=q;refine xW (yV g.mono XN a) hs ab q fun w G1 v H1 gr _ rp ab q=>?_
   cases w with
   |int i=>cases rp;exact ⟨i,rfl,q _ H1 gr rfl ab⟩
   |_=>exact q.elim
  |_=>exact absurd h zzN
 |_=>exact absurd h zzN
theorem s_not (a:IE) (ha:jB Γ p a):jB Γ p (.not a):=by
 intro M X x L h
 cases x with
 |UnaryOp o l q =>
  cases o with
  |Not =>
   skip
   refine ⟨(zhs (ha M X l L h).1).imp fun τ H Q q=>?_,(zhf (ha M X l L h).2.1).imp fun τ H Q q=>?_,fun _ _ _ z=>nomatch z⟩
   .obtain ⟨σ,G,hs,ab,q⟩:=q;refine xW (yV g.mono XN a) hs ab q fun w G1 v H1 gr _ rp ab q=>?_
    cases w with
    |bl i=>cases rp;exact ⟨i,rfl,q _ H1 gr rfl ab⟩
    |_=>exact q.elim
   .obtain ⟨σ,G,hs,ab,q⟩:=q;exact gP (sO g.mono XN a) hs ab q fun b G1 H1 gr _ ab q=>q H1 gr ab
  |_=>exact absurd h zzN
 |_=>exact absurd h zzN
theorem s_cmp (op:CmpOp) (a b:IE) (ha:jB Γ p a) (hb:jB Γ p b):jB Γ p (.cmp op a b):=by
 intro M X x L h
 cases x with
 |Compare l os rs q =>
   obtain ⟨o,r,rfl,rfl⟩:=zf6 h;replace h:=bd4 h;simp only [decide_eq_true_eq] at h;obtain ⟨⟨⟨rfl,h1⟩,h2⟩,h3⟩:=h;have m:=yV g.mono XN (.cmp op a b)
   refine ⟨(zfK (qT (sH g L) op) (ha M X l L h1).1 (hb M X r L h2).1 (kQ h3)).imp fun τ H Q q=>bO (yV g.mono XN a) (yV g.mono XN b) (xU op) q,
    (zfz (qT (sH g L) op) (ha M X l L h1).1 (hb M X r L h2).1 (kQ h3)).imp fun τ H Q q=>bO (yV g.mono XN a) (yV g.mono XN b) (xU op) (zaA m q),fun _ _ _ z=>nomatch z⟩
 |_=>exact absurd h zzN
theorem s_chn (o1 o2:CmpOp) (a b c:IE) (ha:jB Γ p a) (hb:jB Γ p b) (hc:jB Γ p c):jB Γ p (.chn o1 o2 a b c):=by
 intro M X x L h
 cases x with
 |Compare l os rs q =>
   obtain ⟨q1,q2,r,t,rfl,rfl⟩:=zf7 h;replace h:=bd6 h;simp only [decide_eq_true_eq] at h;obtain ⟨⟨⟨⟨⟨rfl,rfl⟩,h1⟩,h2⟩,h3⟩,h4⟩:=h;have m:=yV g.mono XN (.chn o1 o2 a b c)
   have key:∀ τ H Q,xY X.K (zG Γ XN (.chn o1 o2 a b c)).e τ H Q->zbM (rP X.K (zD o1)) (rP X.K (zD o2)) (xY X.K (zG Γ XN a).e) (xY X.K (zG Γ XN b).e) (xY X.K (zG Γ XN c).e) τ H Q:=fun τ H Q q=>by
    obtain ⟨σ,G,hs,ab,q⟩:=q;refine xW (yV g.mono XN a) hs ab q fun x G1 v H1 g1 hs1 rx a1 q=>?_;refine xW (yV g.mono XN b) hs1 a1 q fun y G2 u H2 g2 hs2 ry a2 q=>?_;refine ⟨x,y,G2,rx.mono g2,ry,a2,xU o1 x y G2 _ _ (fun z G3 q v3 H3 g3 r3 a3=>?_) q⟩
    cases z with
    |bl k =>
     cases r3;refine ⟨k,rfl,?_⟩;have q:if k=true then _ else _:=q
     split
     .rename_i hk;rw [if_pos hk] at q;refine xW (yV g.mono XN c) (hs2.mono g3) a3 q fun w G4 v4 H4 g4 hs4 r4 a4 q=>?_;exact ⟨y,w,G4,(ry.mono g3).mono g4,r4,a4,xU o2 y w G4 _ _ (fun w5 G5 q v5 H5 g5=>q v5 H5 (g1.trans (g2.trans (g3.trans (g4.trans g5))))) q⟩
     .rename_i hk;rw [if_neg hk] at q;exact q _ H3 (g1.trans (g2.trans g3)) rfl a3
    |_=>exact q.elim
   refine ⟨(zd5 (qT (sH g L) o1) (qT (sH g L) o2) (ha M X l L h1).1 (hb M X r L h2).1 (hc M X t L h3).1 (kQ (op:=o2) h4)).imp key,
    (zdT (qT (sH g L) o1) (qT (sH g L) o2) (ha M X l L h1).1 (hb M X r L h2).1 (hc M X t L h3).1 (kQ (op:=o2) h4)).imp fun τ H Q q=>key _ _ _ (zaA m q),fun _ _ _ z=>nomatch z⟩
 |_=>exact absurd h zzN
theorem s_ch3 (o1 o2 o3:CmpOp) (a b c d:IE) (ha:jB Γ p a) (hb:jB Γ p b) (hc:jB Γ p c) (hd:jB Γ p d):jB Γ p (.ch3 o1 o2 o3 a b c d):=by
 intro M X x L h
 cases x with
 |Compare l os rs q =>
   obtain ⟨q1,q2,q3,r,t,t2,rfl,rfl⟩:=zf8 h;replace h:=bd8 h;simp only [decide_eq_true_eq] at h;obtain ⟨⟨⟨⟨⟨⟨⟨rfl,rfl⟩,rfl⟩,h1⟩,h2⟩,h3⟩,h4⟩,h5⟩:=h;have m:=yV g.mono XN (.ch3 o1 o2 o3 a b c d)
   have key:∀ τ H Q,xY X.K (zG Γ XN (.ch3 o1 o2 o3 a b c d)).e τ H Q->tCh3 (rP X.K (zD o1)) (rP X.K (zD o2)) (rP X.K (zD o3)) (xY X.K (zG Γ XN a).e) (xY X.K (zG Γ XN b).e) (xY X.K (zG Γ XN c).e) (xY X.K (zG Γ XN d).e) τ H Q:=fun τ H Q q=>by
    obtain ⟨σ,G,hs,ab,q⟩:=q;refine xW (yV g.mono XN a) hs ab q fun x G1 v H1 g1 hs1 rx a1 q=>?_;refine xW (yV g.mono XN b) hs1 a1 q fun y G2 u H2 g2 hs2 ry a2 q=>?_;refine ⟨x,y,G2,rx.mono g2,ry,a2,xU o1 x y G2 _ _ (fun z G3 q v3 H3 g3 r3 a3=>?_) q⟩
    cases z with
    |bl k =>
     cases r3;refine ⟨k,rfl,?_⟩;have q:if k=true then _ else _:=q
     split
     .rename_i hk;rw [if_pos hk] at q;refine xW (yV g.mono XN c) (hs2.mono g3) a3 q fun w G4 v4 H4 g4 hs4 r4 a4 q=>?_;refine ⟨y,w,G4,(ry.mono g3).mono g4,r4,a4,xU o2 y w G4 _ _ (fun z5 G5 q v5 H5 g5 r5 a5=>?_) q⟩
      cases z5 with
      |bl k2 =>
       cases r5;refine ⟨k2,rfl,?_⟩;have q:if k2=true then _ else _:=q
       split
       .rename_i hk2;rw [if_pos hk2] at q;refine xW (yV g.mono XN d) (hs4.mono g5) a5 q fun w6 G6 v6 H6 g6 hs6 r6 a6 q=>?_;exact ⟨w,w6,G6,(r4.mono g5).mono g6,r6,a6,xU o3 w w6 G6 _ _ (fun w7 G7 q v7 H7 g7=>q v7 H7 (g1.trans (g2.trans (g3.trans (g4.trans (g5.trans (g6.trans g7))))))) q⟩
       .rename_i hk2;rw [if_neg hk2] at q;exact q _ H5 (g1.trans (g2.trans (g3.trans (g4.trans g5)))) rfl a5
      |_=>exact q.elim
     .rename_i hk;rw [if_neg hk] at q;exact q _ H3 (g1.trans (g2.trans g3)) rfl a3
    |_=>exact q.elim
   refine ⟨(zhw (qT (sH g L) o1) (qT (sH g L) o2) (qT (sH g L) o3) (ha M X l L h1).1 (hb M X r L h2).1 (hc M X t L h3).1 (hd M X t2 L h4).1 (kQ (op:=o3) h5)).imp key,
    (zhg (qT (sH g L) o1) (qT (sH g L) o2) (qT (sH g L) o3) (ha M X l L h1).1 (hb M X r L h2).1 (hc M X t L h3).1 (hd M X t2 L h4).1 (kQ (op:=o3) h5)).imp fun τ H Q q=>key _ _ _ (zaA m q),fun _ _ _ z=>nomatch z⟩
 |_=>exact absurd h zzN
theorem s_and (a b:IE) (ha:jB Γ p a) (hb:jB Γ p b):jB Γ p (.and a b):=by
 intro M X x L h
 have e1:∀ τ H Q,xY X.K (zG Γ XN (.and a b)).e τ H Q->zgV (xY X.K (zG Γ XN a).e) (xY X.K (zG Γ XN b).e) τ H Q:=fun τ H Q q=>by
  obtain ⟨σ,G,hs,ab,q⟩:=q;refine xW (yV g.mono XN a) hs ab q fun w G1 v H1 g1 hs1 rx a1 q=>?_
  cases w with
  |bl k =>
   cases rx;refine ⟨k,rfl,?_⟩;have q:if k=true then _ else _:=q
   split
   .rename_i hk;rw [if_pos hk] at q;exact ⟨σ,G1,hs1,a1,yV g.mono XN b σ G1 _ _ (fun w G' q v' H' g'=>q v' H' (g1.trans g')) q⟩
   .rename_i hk;rw [if_neg hk] at q;exact q _ H1 g1 rfl a1
  |_=>exact q.elim
 have e2:∀ τ H Q,qC X.K (zG Γ XN (.and a b)).t τ H Q->tAnd (qC X.K (zG Γ XN a).t) (qC X.K (zG Γ XN b).t) τ H Q:=fun τ H Q q=>by
  obtain ⟨σ,G,hs,ab,q⟩:=q;refine gP (sO g.mono XN a) hs ab q fun k G1 H1 g1 hs1 a1 q=>?_
  split
  .rename_i hk;rw [if_pos hk] at q;exact ⟨σ,G1,hs1,a1,sO g.mono XN b σ G1 _ _ (fun w G' q H' g'=>q H' (g1.trans g')) q⟩
  .rename_i hk;rw [if_neg hk] at q;exact q H1 g1 a1
 cases x with
 |BoolOp o vs q =>
  match o,vs,h with
  | .And,[l,r],h =>
   replace h:=tX h;have A:=ha M X l L h.1;have B:=hb M X r L h.2;have W2:PW X (.BoolOp .And [l,r] q) (qC X.K (zG Γ XN (.and a b)).t):=(zeV A.2.1 (zfv B.2.1)).imp e2;exact ⟨(ze1 A.1 (zeZ B.1)).imp e1,W2.pt,fun _ _ _ _=>W2⟩
  | .And,l::r::q'::rest,h =>
   replace h:=tX h;have A:=ha M X l L h.1;have B:=hb M X _ L h.2;have W2:PW X (.BoolOp .And (l::r::q'::rest) q) (qC X.K (zG Γ XN (.and a b)).t):=(zeV A.2.1 (B.2.2 _ _ _ rfl)).imp e2;exact ⟨(ze1 A.1 B.1).imp e1,W2.pt,fun _ _ _ _=>W2⟩
 |_=>exact absurd h zzN
theorem s_or (a b:IE) (ha:jB Γ p a) (hb:jB Γ p b):jB Γ p (.or a b):=by
 intro M X x L h
 have e1:∀ τ H Q,xY X.K (zG Γ XN (.or a b)).e τ H Q->tOrV (xY X.K (zG Γ XN a).e) (xY X.K (zG Γ XN b).e) τ H Q:=fun τ H Q q=>by
  obtain ⟨σ,G,hs,ab,q⟩:=q;refine xW (yV g.mono XN a) hs ab q fun w G1 v H1 g1 hs1 rx a1 q=>?_
  cases w with
  |bl k =>
   cases rx;refine ⟨k,rfl,?_⟩;have q:if k=true then _ else _:=q
   split
   .rename_i hk;rw [if_pos hk] at q;exact q _ H1 g1 rfl a1
   .rename_i hk;rw [if_neg hk] at q;exact ⟨σ,G1,hs1,a1,yV g.mono XN b σ G1 _ _ (fun w G' q v' H' g'=>q v' H' (g1.trans g')) q⟩
  |_=>exact q.elim
 have e2:∀ τ H Q,qC X.K (zG Γ XN (.or a b)).t τ H Q->tOr (qC X.K (zG Γ XN a).t) (qC X.K (zG Γ XN b).t) τ H Q:=fun τ H Q q=>by
  obtain ⟨σ,G,hs,ab,q⟩:=q;refine gP (sO g.mono XN a) hs ab q fun k G1 H1 g1 hs1 a1 q=>?_
  split
  .rename_i hk;rw [if_pos hk] at q;exact q H1 g1 a1
  .rename_i hk;rw [if_neg hk] at q;exact ⟨σ,G1,hs1,a1,sO g.mono XN b σ G1 _ _ (fun w G' q H' g'=>q H' (g1.trans g')) q⟩
 cases x with
 |BoolOp o vs q =>
  match o,vs,h with
  | .Or,[l,r],h =>
   replace h:=tX h;have A:=ha M X l L h.1;have B:=hb M X r L h.2;have W2:PW X (.BoolOp .Or [l,r] q) (qC X.K (zG Γ XN (.or a b)).t):=(zhe A.2.1 (zhd B.2.1)).imp e2;exact ⟨(zhr A.1 (zeZ B.1)).imp e1,W2.pt,fun _ _ _ _=>W2⟩
  | .Or,l::r::q'::rest,h =>
   replace h:=tX h;have A:=ha M X l L h.1;have B:=hb M X _ L h.2;have W2:PW X (.BoolOp .Or (l::r::q'::rest) q) (qC X.K (zG Γ XN (.or a b)).t):=(zhe A.2.1 (B.2.2 _ _ _ rfl)).imp e2;exact ⟨(zhr A.1 B.1).imp e1,W2.pt,fun _ _ _ _=>W2⟩
 |_=>exact absurd h zzN
theorem s_ite (c a b:IE) (hc:jB Γ p c) (ha:jB Γ p a) (hb:jB Γ p b):jB Γ p (.ite c a b):=by
 intro M X x L h
 cases x with
 |IfExp t l r q =>
  replace h:=bd3 h;refine ⟨(zd4 (hc M X t L h.1.1).2.1 (ha M X l L h.1.2).1 (hb M X r L h.2).1).imp fun τ H Q q=>?_,fun _ _ _ _ _ _ q=>?_,fun _ _ _ z=>nomatch z⟩
  .obtain ⟨σ,G,hs,ab,q⟩:=q;refine gP (sO g.mono XN c) hs ab q fun k G1 H1 g1 hs1 a1 q=>?_
   split
   .rename_i hk;rw [if_pos hk] at q;exact ⟨σ,G1,hs1,a1,yV g.mono XN a σ G1 _ _ (fun w G' q v' H' g'=>q v' H' (g1.trans g')) q⟩
   .rename_i hk;rw [if_neg hk] at q;exact ⟨σ,G1,hs1,a1,yV g.mono XN b σ G1 _ _ (fun w G' q v' H' g'=>q v' H' (g1.trans g')) q⟩
  .obtain ⟨_,_,_,_,z⟩:=q;exact z.elim
 |_=>exact absurd h zzN
theorem s_ix (a i:IE) (ha:jB Γ p a) (hb:jB Γ p i):jB Γ p (.ix a i):=by
 intro M X x L h
 cases x with
 |Subscript l r q =>
  replace h:=bd3 h;exact jN (M:=M) (yV g.mono XN (.ix a i)) ((pe_ix (ix_ok (sH g L)) (ha M X l L h.1.1).1 (hb M X r L h.1.2).1 (zd0 h.2)).imp fun τ H Q q=>bO (yV g.mono XN a) (yV g.mono XN i) zaZ q) (fun _=>rfl) (fun _ _ _ z=>nomatch z)
 |_=>exact absurd h zzN
theorem s_sl (a:IE) (lo hi:IO) (ha:jB Γ p a) (hl:OkO Γ p lo) (hh:OkO Γ p hi):jB Γ p (.sl a lo hi):=by
  intro M X x L h
  cases x with
  |Subscript l r q =>
    cases r with
    |Slice y z sp q2 =>
     cases sp with
     |none =>
      replace h:=bd3 h;refine jN (M:=M) (yV g.mono XN (.sl a lo hi)) ((zd3 sl_ok (ha M X l L h.1.1).1 ((hl M X L).1 y h.1.2) ((hh M X L).1 z h.2)).imp fun τ H Q q=>?_) (fun _=>rfl) (fun _ _ _ z=>nomatch z);obtain ⟨σ,G,hs,ab,q⟩:=q;refine xW (yV g.mono XN a) hs ab q fun w G1 v H1 g1 hs1 rx a1 q=>?_;refine ⟨σ,G1,hs1,a1,zhH g.mono XN lo σ G1 _ _ (fun o G2 q H2 g2 a2=>?_) q⟩;refine ⟨σ,G2,hs1.mono g2,a2,zhH g.mono XN hi σ G2 _ _ (fun o2 G3 q H3 g3 a3=>?_) q⟩;exact ⟨w,G3,(rx.mono g2).mono g3,a3,zaM (fun w' G' q v' H' g'=>q v' H' (g1.trans (g2.trans (g3.trans g')))) q⟩
     |some _=>exact absurd h zzN
    |_=>exact absurd h zzN
  |_=>exact absurd h zzN
theorem s_tup (es:IEs) (hs:OkA Γ p es):jB Γ p (.tup es):=by
 intro M X x L h
 cases x with
 |Tuple xs k q =>
  skip
  refine jN (M:=M) (yV g.mono XN (.tup es)) ((zhq (hs M X xs L h).1).imp fun τ H Q q=>?_) (fun _=>rfl) (fun _ _ _ z=>nomatch z);obtain ⟨σ,G,hs',ab,q⟩:=q;refine gO (qJ g.mono XN es) hs' ab q fun ws G1 vs H1 g1 hs1 rs a1 q=>⟨by rw [rs.length];exact q.1,sP a1 rs fun v' H' g'=>q.2 v' H' (g1.trans g')⟩
 |_=>exact absurd h zzN
theorem s_lst (es:IEs) (hs:OkA Γ p es):jB Γ p (.lst es):=by
 intro M X x L h
 cases x with
 |List xs q =>
  skip
  refine jN (M:=M) (yV g.mono XN (.lst es)) ((zhu (hs M X xs L h).1).imp fun τ H Q q=>?_) (fun _=>rfl) (fun _ _ _ z=>nomatch z);obtain ⟨σ,G,hs',ab,q⟩:=q;refine gO (qJ g.mono XN es) hs' ab q fun ws G1 vs H1 g1 hs1 rs a1 q=>⟨by rw [rs.length];exact q.1,qQ a1 rs fun r hr v' H' g'=>q.2 r hr v' H' (g1.trans g')⟩
 |_=>exact absurd h zzN
theorem nH {Γ:Ctx3} {M:MC} {es:IEs} {xs:List Expr} (h:mA es M xs=true):xs=[]->∀ σ G Q,zX Γ XN es σ G Q->Q [] G:=by
 rintro rfl σ G Q q
 cases es with
 |nil=>exact q
 |cons _ _=>exact absurd h zzN
theorem zg6 (f:Nat) (es:IEs) (hs:OkA Γ p es):jB Γ p (.call f es):=by
  intro M X x L h
  cases x with
  |Call fn xs kw q =>
    cases fn with
    |Name y qy =>
     cases kw with
     |nil =>
      replace h:=bd3 h;have gl:=dB L.sc h.1.2;have hi:=jF h.1.1;rw [← L.fns] at hi;obtain ⟨e,ei,rfl⟩:=uP hi;have A:=hs M X xs L h.2;refine jN (M:=M) (yV g.mono XN (.call f es)) ((g.fn e (wH ei) X L.fits gl.1 xs (zX Γ XN es) qy q (qJ g.mono XN es) A.2.1 A.1 (nH g h.2) gl.2.1 gl.2.2).imp fun τ H Q q=>?_) (fun _=>rfl) (fun _ _ _ z=>nomatch z);obtain ⟨σ,G,hs',ab,q⟩:=q;refine ⟨σ,G,hs',ab,qJ g.mono XN es σ G _ _ (fun ws G1 q=>?_) q⟩;simp only [ei] at q;exact q
     |cons _ _=>exact absurd h zzN
    |_=>exact absurd h zzN
  |_=>exact absurd h zzN
theorem s_spc (i:Nat) (es:IEs) (hs:OkA Γ p es):jB Γ p (.spc i es):=by
 intro M X x L h;replace h:=tX h;replace h:=h.2
 split at h
 .rename_i m hm
  split at h
  .rename_i xs hx;rw [← L.sxs] at hm;obtain ⟨k,ek,rfl⟩:=uP hm;have A:=hs M X xs L h;have q:=g.sx k (wH ek) X L.fits x xs (semL Γ es) (by rw [L.sc];exact hx) A.2.2.2 A.2.1 (by rw [← vG];exact A.1);refine jN (M:=M) (yV g.mono XN (.spc i es)) (q.1.imp fun τ H Q q=>?_) q.2.1 q.2.2;obtain ⟨σ,G,hs',ab,q⟩:=q;refine ⟨σ,G,hs',ab,?_⟩;rw [← vG];refine qJ g.mono XN es σ G _ _ (fun ws G1 q=>?_) q;simp only [ek] at q;exact q
  .exact absurd h zzN
 .exact absurd h zzN
theorem s_mth (m:Nat) (o:IE) (es:IEs) (ho:jB Γ p o) (hs:OkA Γ p es):jB Γ p (.mth m o es):=by
  intro M X x L h
  cases x with
  |Call fn xs kw q =>
    cases fn with
    |Attribute l y qy =>
     cases kw with
     |nil =>
      replace h:=bd6 h;simp only [decide_eq_true_eq] at h;have hi:=jF h.1.1.1.1.1;rw [← L.mts] at hi;obtain ⟨e,ei,rfl⟩:=uP hi;have A:=hs M X xs L h.2;have B:=ho M X l L h.1.2;refine jN (M:=M) (yV g.mono XN (.mth m o es)) ((g.mt e (wH ei) X L.fits l xs (zG Γ XN o).e (zX Γ XN es) qy q (yV g.mono XN o) (qJ g.mono XN es) h.1.1.1.1.2 h.1.1.1.2 h.1.1.2 A.2.1 B.1 A.1 (nH g h.2)).imp fun τ H Q q=>?_) (fun _=>rfl) (fun _ _ _ z=>nomatch z);obtain ⟨σ,G,hs',ab,q⟩:=q;refine ⟨σ,G,hs',ab,yV g.mono XN o σ G _ _ (fun w G1 q=>?_) q⟩;simp only [ei] at q;exact q
     |cons _ _=>exact absurd h zzN
    |_=>exact absurd h zzN
  |_=>exact absurd h zzN
theorem s_att (o:IE) (f:Str) (ho:jB Γ p o):jB Γ p (.att o f):=by
 intro M X x L h
 cases x with
 |Attribute l y q =>
  replace h:=bd3 h;simp only [beq_iff_eq] at h;obtain ⟨⟨rfl,h1⟩,h2⟩:=h;refine jN (M:=M) (yV g.mono XN (.att o y)) ((zhv (ho M X l L h2).1 (tE h1)).imp fun τ H Q q=>?_) (fun _=>rfl) (fun _ _ _ z=>nomatch z);obtain ⟨σ,G,hs,ab,q⟩:=q;refine xW (yV g.mono XN o) hs ab q fun w G1 v H1 g1 hs1 rx a1 q=>?_
  cases w with
  |ref a =>
   cases rx;simp only [attR] at q
   split at q
   .rename_i C fs e;obtain ⟨⟨l,hl,hf⟩,q⟩:=q
    split at q
    .rename_i w' ew;obtain ⟨dx,fs',e',rk⟩:=a1.ins e;obtain ⟨v',ev,rv⟩:=mH rk ew;have c:=g.cl _ hl;exact ⟨a,C,dx,fs',v',rfl,e',by rw [L.fits.K];exact c.1,by rw [L.fits.K];exact c.2 y hf,ev,q _ H1 g1 rv a1⟩
    .exact q.elim
   .exact q.elim
  |_=>exact q.elim
 |_=>exact absurd h zzN
end
section
variable {Γ : Ctx3} {p : Par} (g : Good Γ p)
include g
theorem s_dct (ks:List Str) (es:IEs) (hs:OkA Γ p es):jB Γ p (.dct ks es):=by
 intro M X x L h
 cases x with
 |Dict keys xs q =>
  replace h:=bd5 h;simp only [decide_eq_true_eq,Bool.not_eq_true'] at h;obtain ⟨⟨⟨⟨h1,h2⟩,h3⟩,h4⟩,h5⟩:=h;obtain ⟨all,ek,trs,pp,low⟩:=(hs M X xs L h2).2.2.1 ks keys q h1 h3
  have h0:keys≠[]:=by
   intro z;rw [z] at ek
   cases ks with
   |nil=>cases h5
   |cons _ _=>cases ek
  refine jN (M:=M) (yV g.mono XN (.dct ks es)) ((zfJ pp all h3 h0 h4).imp fun τ H Q q=>?_) (fun _=>rfl) (fun _ _ _ z=>nomatch z);intro a ha;obtain ⟨σ,G,hs',ab,q⟩:=q;have gr:yF X.K H (xE H a (.dK [])):=wL ha;refine low τ _ _ ⟨σ,put G a (.dic []),hs'.mono gr,ab.new ha ⟨[],rfl,rfl⟩,qJ g.mono XN es σ _ _ _ (fun ws G1 q vs H1 g1 rs a1=>?_) (q a (ab.free ha))⟩;obtain ⟨q1,q2,q3⟩:=q;obtain ⟨l,e,rl⟩:=a1.dic q1
  have el:l=[]:=by
   cases l with
   |nil=>rfl
   |cons _ _=>cases rl
  subst el;refine ⟨e,(ks.zip vs).map (fun kv=>((Sum.inr kv.1:yE),kv.2)),by rw [List.map_map];rfl,?_,?_⟩
  .rw [zzM,List.length_zip];omega
  .have gr2:yF X.K H1 (xE H1 a (.dK (rQ [] ((ks.zip vs).map fun kv=>((Sum.inr kv.1:yE),kv.2))))):=a1.grow q1;exact q3 _ _ (gr.trans (g1.trans gr2)) rfl (a1.chg q1 ⟨_,rfl,zc2 ks (rs.mono gr2) rfl⟩)
 |_=>exact absurd h zzN
theorem fA (tg:ITg) (names:List Str) (caps:List Nat) (it:II) (c:IO) (elt:IE) (hi:OkI Γ p it) (hc:OkO Γ p c) (he:jB Γ p elt) {M:MC} {X:Cx} (L:Lk Γ M p X) {x t ix:Expr} {ifs:List Expr} {sc:Scope}
  (h:(blkB M.sc sc&&sQ ix&&mY (names++caps.map (fun j=>M.N.getD j Str.empty))&&(caps.all fun j=>decide (j<M.N.length)&&(sc.names.lookup (M.N.getD j Str.empty)==some .free)) &&
    mI it M ix&&((tgIx tg).all fun i=>decide (i<names.length))&&mG { M with sc:=relS sc M.sc,N:=names++caps.map (fun j=>M.N.getD j Str.empty),own:=fun x=>sc.names.lookup x==some .cell } tg t&&mC c { M with sc:=relS sc M.sc,N:=names++caps.map (fun j=>M.N.getD j Str.empty),own:=fun x=>sc.names.lookup x==some .cell } ifs&&mE elt { M with sc:=relS sc M.sc,N:=names++caps.map (fun j=>M.N.getD j Str.empty),own:=fun x=>sc.names.lookup x==some .cell } x)=true) :
  PI X t ix (lowI X.K (zT Γ XN it))/\BlkSc X sc/\Caps X sc (names++caps.map (fun j=>M.N.getD j Str.empty)) (capV names.length caps) /\
  (∀ X',IsBlock X (names++caps.map (fun j=>M.N.getD j Str.empty)) sc X'->PG X' t (lowG X.K (zW tg)))/\(∀ X',IsBlock X (names++caps.map (fun j=>M.N.getD j Str.empty)) sc X'->PTs X' ifs (qC X.K (zR Γ c))) /\
  (∀ X',IsBlock X (names++caps.map (fun j=>M.N.getD j Str.empty)) sc X'->PE X' x (xY X.K (zG Γ XN elt).e))/\(∀ y,foldedSetIterable ix X.env y=pure y) /\
  ∀ τ H Q,xY X.K (zG Γ XN (.lc tg names caps it c elt)).e τ H Q->tLC (lowI X.K (zT Γ XN it)) (capV names.length caps) (lowG X.K (zW tg)) (qC X.K (zR Γ c)) (xY X.K (zG Γ XN elt).e) τ H Q:=by
 simp only [Bool.and_eq_true] at h;obtain ⟨⟨⟨⟨⟨⟨⟨⟨h1,h2⟩,h3⟩,h4⟩,h5⟩,h6⟩,h7⟩,h8⟩,h9⟩:=h
 have lk:∀ X',IsBlock X (names++caps.map (fun j=>M.N.getD j Str.empty)) sc X'->Lk Γ { M with sc:=relS sc M.sc,N:=names++caps.map (fun j=>M.N.getD j Str.empty),own:=fun x=>sc.names.lookup x==some .cell } p X':=fun X' b =>
  ⟨⟨b.prog.trans L.fits.prog,b.w.trans L.fits.w,b.K.trans L.fits.K,b.mg.trans L.fits.mg,b.base.trans L.fits.base,b.A.trans L.fits.A,b.calm.trans L.fits.calm,b.xe⟩,b.N,b.scope.trans (zft L.sc),zaT h3,(fun x z=>b.fn x (eq_of_beq z)),(zfi L.sc h1).kind,L.fns,L.gls,L.mts,L.its,L.sxs,L.ixs⟩
 refine ⟨hi M X ix L h5 t,zfi L.sc h1,zdc L.N L.sc h4,fun X' b=>?_,fun X' b=>?_,fun X' b=>?_,cY h2,fun τ H Q q=>?_⟩
 .rw [← b.K];exact sndG (lk X' b) tg t h7
 .rw [← b.K];exact (hc _ X' (lk X' b)).2 ifs h8
 .rw [← b.K];exact (he _ X' x (lk X' b) h9).1
 .obtain ⟨σ,G,hs,ab,q⟩:=q;refine ⟨σ,G,hs,ab,zhI g.mono XN it σ G _ _ (fun items stab G1 q J H1 g1 a1 ii=>?_) q⟩;refine zhO (monoC g.mono c) (yV g.mono XN elt) ii a1 (zgC (hs.mono g1) names.length caps) g1 (fun w G' Q' z=>?_) q;refine rC tg w _ G' _ _ (fun σ2 G2 z=>⟨⟨z.2.1,fun i v e=>?_⟩,z.2.2⟩) (zaN tg w _ G' _ (zbZ tg w _ G' _ z));have hk:=(zaz e).1;rw [z.1 i (zfT h6 hk)];exact e
theorem s_lc (tg:ITg) (names:List Str) (caps:List Nat) (it:II) (c:IO) (elt:IE) (hi:OkI Γ p it) (hc:OkO Γ p c) (he:jB Γ p elt):jB Γ p (.lc tg names caps it c elt):=by
 intro M X x L h
 cases x with
 |ListComp x gens sc q =>
  match gens,h with
  | [⟨t,ix,ifs,asy⟩],h =>
   have h':=h;replace h:=bd10 h;obtain ⟨⟨⟨⟨⟨⟨⟨⟨⟨h0,h1⟩,h2⟩,h3⟩,h4⟩,h5⟩,h6⟩,h7⟩,h8⟩,h9⟩:=h;replace h0:=of_decide_eq_true h0;subst h0;obtain ⟨c1,c2,c3,c4,c5,c6,c7,c8⟩:=fA g tg names caps it c elt hi hc he L (x:=x) (t:=t) (ix:=ix) (ifs:=ifs) (sc:=sc) (by simp only [Bool.and_eq_true];exact ⟨⟨⟨⟨⟨⟨⟨⟨h1,h2⟩,h3⟩,h4⟩,h5⟩,h6⟩,h7⟩,h8⟩,h9⟩);exact jN (M:=M) (yV g.mono XN (.lc tg names caps it c elt)) ((pe_lc L.fits.calm c1 c2 c3 c4 c5 c6 c7).imp c8) (fun _=>rfl) (fun _ _ _ z=>nomatch z)
 |_=>exact absurd h zzN
theorem s_no:OkO Γ p .no:=by
 intro M X L;refine ⟨fun x h=>?_,fun xs h=>?_⟩
 .cases x with
  |none=>exact zfG.imp fun τ H Q q=>by obtain ⟨σ,G,hs,ab,q⟩:=q;exact q H .refl ab
  |some _=>exact absurd h zzN
 .cases xs with
  |nil=>exact zfy.imp fun τ H Q q=>by obtain ⟨σ,G,hs,ab,q⟩:=q;exact q H .refl ab
  |cons _ _=>exact absurd h zzN
theorem zg3 (e:IE) (he:jB Γ p e):OkO Γ p (.yes e):=by
 intro M X L;refine ⟨fun x h=>?_,fun xs h=>?_⟩
 .cases x with
  |none=>exact absurd h zzN
  |some x =>
   skip
   refine (zfF (he M X x L h).1).imp fun τ H Q q=>?_;obtain ⟨σ,G,hs,ab,q⟩:=q;refine xW (yV g.mono XN e) hs ab q fun w G1 v H1 g1 hs1 rx a1 q=>?_
   cases w with
   |int i=>cases rx;exact ⟨i,rfl,q H1 g1 a1⟩
   |_=>exact q.elim
 .match xs,h with
  | [x],h=>exact zfx (he M X x L (by simpa only [mC] using h)).2.1
theorem zg5:OkA Γ p .nil:=by
 intro M X xs L h
 cases xs with
 |cons _ _=>exact absurd h zzN
 |nil =>
  refine ⟨ze2.imp fun τ H Q q=>by obtain ⟨σ,G,hs,ab,q⟩:=q;exact q [] H .refl rfl ab,rfl,fun ks keys pos hk hl=>?_,trivial⟩
  cases keys with
  |cons _ _=>cases hl
  |nil =>
   cases ks with
   |cons _ _=>cases hk
   |nil =>
    refine ⟨rfl,rfl,[],zfE,fun τ H Q q=>?_⟩;obtain ⟨σ,G,hs,ab,q⟩:=q;exact q [] H .refl rfl ab
theorem zeS (e:IE) (es:IEs) (he:jB Γ p e) (hs:OkA Γ p es):OkA Γ p (.cons e es):=by
  intro M X xs L h
  cases xs with
  |nil=>exact absurd h zzN
  |cons x xs =>
    simp only [mA,Bool.and_eq_true] at h;obtain ⟨⟨h1,h2⟩,h3⟩:=h;have A:=he M X x L h2;have B:=hs M X xs L h3;refine ⟨(zcd A.1 B.1 (qB h1)).imp fun τ H Q q=>?_,by rw [List.all_cons,h1,B.2.1];rfl,fun ks keys pos hk hl=>?_,⟨yV g.mono XN e,A.1,B.2.2.2⟩⟩
    . obtain ⟨σ,G,hs',ab,q⟩:=q
      refine xW (yV g.mono XN e) hs' ab q fun w G1 v H1 g1 hs1 rx a1 q=>?_;refine gO (qJ g.mono XN es) hs1 a1 q fun ws G2 vs H2 g2 hs2 rs a2 q=>?_;exact q _ H2 (g1.trans g2) ⟨v,vs,rfl,rx.mono g2,rs⟩ a2
    . cases ks with
      |nil =>
        cases keys with
        |nil=>simp at hl
        |cons _ _=>simp [keyB] at hk
      |cons k ks =>
       cases keys with
       |nil=>cases hk
       |cons ko keys =>
        obtain ⟨y,ky,qy,rfl⟩:∃ y ky qy,ko=some (.Constant (.str y) ky qy):=by
          cases ko with
          |none=>cases hk
          |some ke =>
            cases ke with
            |Constant c ky qy =>
              cases c with
              |str y=>exact ⟨y,ky,qy,rfl⟩
              |_=>cases hk
            |_=>cases hk
        simp only [keyB,Bool.and_eq_true,beq_iff_eq] at hk;obtain ⟨rfl,hk⟩:=hk;obtain ⟨all,ek,trs,pp,low⟩:=B.2.2.1 ks keys pos hk (by simpa using hl);refine ⟨by simpa using all,by simpa using ek,(tC (.str k),xY X.K (zG Γ XN e).e)::trs,zdZ zeY A.1 pp,fun τ H Q q=>?_⟩;obtain ⟨σ,G,hs',ab,q⟩:=q;show xY X.K (zG Γ XN e).e τ H _;refine xW (yV g.mono XN e) hs' ab q fun w G1 v H1 g1 hs1 rx a1 q=>?_;refine low τ H1 _ ⟨σ,G1,hs1,a1,qJ g.mono XN es σ G1 _ _ (fun ws G2 q vs H2 g2 rs a2=>?_) q⟩;exact q (v::vs) H2 (g1.trans g2) ⟨v,vs,rfl,rx.mono g2,rs⟩ a2
theorem zg4 (e:IE) (he:jB Γ p e):OkI Γ p (.val e):=fun M X x L h tg=>zhm (yV g.mono XN e) (he M X x L h).1
theorem zg7 (i:Nat) (es:IEs) (hs:OkA Γ p es):OkI Γ p (.blt i es):=by
  intro M X x L h tg
  cases x with
  |Call fn xs kw q =>
    cases fn with
    |Name y qy =>
     cases kw with
     |nil =>
      replace h:=bd3 h;have gl:=dB L.sc h.1.2;have hi:=jF h.1.1;rw [← L.its] at hi;obtain ⟨e,ei,rfl⟩:=uP hi;have A:=hs M X xs L h.2;refine (g.it e (wH ei) X L.fits gl.1 tg xs (zX Γ XN es) qy q (qJ g.mono XN es) A.2.1 A.1 (nH g h.2) gl.2.1 gl.2.2).imp fun τ H R q=>?_;obtain ⟨σ,G,hs',ab,q⟩:=q;refine ⟨σ,G,hs',ab,qJ g.mono XN es σ G _ _ (fun ws G1 q=>?_) q⟩;simp only [ei] at q;exact q
     |cons _ _=>exact absurd h zzN
    |_=>exact absurd h zzN
  |_=>exact absurd h zzN
theorem zeR (i:Nat) (es:IEs) (hs:OkA Γ p es):OkI Γ p (.spc i es):=by
 intro M X x L h tg;simp only [mI] at h
 split at h
 .rename_i m hm
  split at h
  .rename_i xs hx;rw [← L.ixs] at hm;obtain ⟨k,ek,rfl⟩:=uP hm;have A:=hs M X xs L h;refine (g.ix k (wH ek) X L.fits tg x xs (semL Γ es) (by rw [L.sc];exact hx) A.2.2.2 A.2.1 (by rw [← vG];exact A.1)).imp fun τ H R q=>?_;obtain ⟨σ,G,hs',ab,q⟩:=q;refine ⟨σ,G,hs',ab,?_⟩;rw [← vG];refine qJ g.mono XN es σ G _ _ (fun ws G1 q=>?_) q;simp only [ek] at q;exact q
  .exact absurd h zzN
 .exact absurd h zzN
theorem vH (e:IE):jB Γ p e :=
 IE.rec (motive_1:=jB Γ p) (motive_2:=OkO Γ p) (motive_3:=OkA Γ p) (motive_4:=OkI Γ p) (motive_5:=fun _=>True) (motive_6:=fun _=>True)
  (s_var g) (s_con g) (s_glb g) (s_bin g) (s_neg g) (s_not g) (s_cmp g) (s_chn g) (s_and g) (s_or g) (s_ite g) (s_ix g) (s_sl g) (s_tup g) (s_lst g) (s_dct g) (zg6 g) (s_mth g) (s_att g)
  (fun tg names caps it c elt _ hi hc he=>s_lc g tg names caps it c elt hi hc he) (s_spc g) (s_ch3 g) (s_no g) (zg3 g) (zg5 g) (zeS g) (zg4 g) (zg7 g) (zeR g) (fun _=>trivial) (fun _ _=>trivial) trivial (fun _ _ _ _=>trivial) e
theorem sndA (es:IEs):OkA Γ p es:=match es with
 | .nil=>zg5 g
 | .cons e es=>zeS g e es (vH g e) (sndA es)
theorem sndI (it:II):OkI Γ p it:=match it with
 | .val e=>zg4 g e (vH g e)
 | .blt i es=>zg7 g i es (sndA g es)
 | .spc i es=>zeR g i es (sndA g es)
theorem sndO (o:IO):OkO Γ p o:=match o with
 | .no=>s_no g
 | .yes e=>zg3 g e (vH g e)
end
end L3
namespace L3
open PySem PySem.Spec PyProof.Rows L2
theorem zga {i:Nat} {a:IE} {M:MC} {x:Stmt} (h:mS (.asg i a) M x=true):∃ y py v q,x=.Assign [.Name y py] v q/\(M.N[i]?==some y)=true/\bL M y=true/\mE a M v=true:=by
 cases x with
 |Assign ts v q =>
  cases ts with
  |nil=>exact absurd h zzN
  |cons t r =>
   cases r with
   |cons _ _=>cases t<;>exact absurd h zzN
   |nil =>
    cases t with
    |Name y py =>
     replace h:=bd3 h;exact ⟨y,py,v,q,rfl,h.1.1,h.1.2,h.2⟩
    |_=>exact absurd h zzN
 |_=>exact absurd h zzN
theorem zep {ts:ITgs} {a:IE} {M:MC} {x:Stmt} (h:mS (.asgT ts a) M x=true):∃ es k qt v q,x=.Assign [.Tuple es k qt] v q/\rR v=true/\zd9 v=true/\mGs M ts es=true/\mE a M v=true:=by
 cases x with
 |Assign ts v q =>
  cases ts with
  |nil=>exact absurd h zzN
  |cons t r =>
   cases r with
   |cons _ _=>cases t<;>exact absurd h zzN
   |nil =>
    cases t with
    |Tuple es k qt =>
     replace h:=bd4 h;exact ⟨es,k,qt,v,q,rfl,h.1.1.1,h.1.1.2,h.1.2,h.2⟩
    |_=>exact absurd h zzN
 |_=>exact absurd h zzN
theorem zeq {i j:Nat} {a:IE} {M:MC} {x:Stmt} (h:mS (.asgS i j a) M x=true):∃ t v q,x=.Assign [t] v q/\rR v=true/\zd9 v=true/\zdD M i j t=true/\mE a M v=true:=by
 cases x with
 |Assign ts v q =>
  cases ts with
  |nil=>exact absurd h zzN
  |cons t r =>
   cases r with
   |cons _ _=>exact absurd h zzN
   |nil =>
    replace h:=bd4 h;exact ⟨t,v,q,rfl,h.1.1.1,h.1.1.2,h.1.2,h.2⟩
 |_=>exact absurd h zzN
theorem zfp {M:MC} {i j:Nat} {t:Expr} (h:zdD M i j t=true):∃ x px y py p2 k q,t=.Tuple [.Name x px,.Starred (.Name y py) p2] k q/\((M.N[i]?==some x)=true/\bL M x=true)/\((M.N[j]?==some y)=true/\bL M y=true):=by
 unfold zdD at h
 split at h
 .exact ⟨_,_,_,_,_,_,_,rfl,tX (tX h).1,tX (tX h).2⟩
 .exact absurd h zzN
theorem zer {o i a:IE} {M:MC} {x:Stmt} (h:mS (.asgI o i a) M x=true):∃ l r qs v q,x=.Assign [.Subscript l r qs] v q/\rR v=true/\nY r=true/\mE o M l=true/\mE i M r=true/\mE a M v=true:=by
 cases x with
 |Assign ts v q =>
  cases ts with
  |nil=>exact absurd h zzN
  |cons t r =>
   cases r with
   |cons _ _=>cases t<;>exact absurd h zzN
   |nil =>
    cases t with
    |Subscript l r qs =>
     replace h:=bd5 h;exact ⟨l,r,qs,v,q,rfl,h.1.1.1.1,h.1.1.1.2,h.1.1.2,h.1.2,h.2⟩
    |_=>exact absurd h zzN
 |_=>exact absurd h zzN
theorem zes {o a:IE} {f:Str} {M:MC} {x:Stmt} (h:mS (.asgA o f a) M x=true):∃ l qs v q,x=.Assign [.Attribute l f qs] v q/\rR v=true/\mE o M l=true/\mE a M v=true:=by
 cases x with
 |Assign ts v q =>
  cases ts with
  |nil=>exact absurd h zzN
  |cons t r =>
   cases r with
   |cons _ _=>cases t<;>exact absurd h zzN
   |nil =>
    cases t with
    |Attribute l y qs =>
     replace h:=bd4 h;simp only [beq_iff_eq] at h;obtain ⟨⟨⟨rfl,h2⟩,h3⟩,h4⟩:=h;exact ⟨l,qs,v,q,rfl,h2,h3,h4⟩
    |_=>exact absurd h zzN
 |_=>exact absurd h zzN
theorem zie {a:IE} {M:MC} {x:Stmt} (h:mS (.ex a) M x=true):∃ v q,x=.Expr v q/\rR v=true/\mE a M v=true:=by
 cases x with
 |Expr v q =>
  replace h:=tX h;exact ⟨v,q,rfl,h.1,h.2⟩
 |_=>exact absurd h zzN
theorem zf1 {a:IE} {M:MC} {x:Stmt} (h:mS (.ret a) M x=true):∃ v q,x=.Return (some v) q/\mE a M v=true:=by
 cases x with
 |Return v q =>
  cases v with
  |none=>exact absurd h zzN
  |some v=>exact ⟨v,q,rfl,h⟩
 |_=>exact absurd h zzN
theorem zem {M:MC} {x:Stmt} (h:mS .retN M x=true):∃ q,x=.Return none q:=by
 cases x with
 |Return v q =>
  cases v with
  |none=>exact ⟨q,rfl⟩
  |some v=>exact absurd h zzN
 |_=>exact absurd h zzN
theorem zen {M:MC} {x:Stmt} (h:mS .pass M x=true):∃ q,x=.Pass q:=by
 cases x with
 |Pass q=>exact ⟨q,rfl⟩
 |_=>exact absurd h zzN
theorem zf9 {M:MC} {x:Stmt} (h:mS .brk M x=true):∃ q,x=.Break q:=by
 cases x with
 |Break q=>exact ⟨q,rfl⟩
 |_=>exact absurd h zzN
theorem zf5 {M:MC} {x:Stmt} (h:mS .cnt M x=true):∃ q,x=.Continue q:=by
 cases x with
 |Continue q=>exact ⟨q,rfl⟩
 |_=>exact absurd h zzN
theorem zf3 {c:IE} {a b:ISs} {M:MC} {x:Stmt} (h:mS (.ite c a b) M x=true):∃ t y z q,x=.If t y z q/\mE c M t=true/\kO a M y=true/\kO b M z=true:=by
 cases x with
 |If t y z q =>
  replace h:=bd3 h;exact ⟨t,y,z,q,rfl,h.1.1,h.1.2,h.2⟩
 |_=>exact absurd h zzN
theorem zf0 {c:IE} {b:ISs} {M:MC} {x:Stmt} (h:mS (.whl c b) M x=true):∃ t y q,x=.While t y [] q/\mE c M t=true/\kO b M y=true:=by
 cases x with
 |While t y z q =>
  cases z with
  |nil =>
   replace h:=tX h;exact ⟨t,y,q,rfl,h.1,h.2⟩
  |cons _ _=>exact absurd h zzN
 |_=>exact absurd h zzN
theorem zf4 {tg:ITg} {it:II} {b:ISs} {M:MC} {x:Stmt} (h:mS (.for tg it b) M x=true):∃ t y z q,x=.For t y z [] q/\sQ y=true/\mG M tg t=true/\mI it M y=true/\kO b M z=true:=by
 cases x with
 |For t y z e q =>
  cases e with
  |nil =>
   replace h:=bd4 h;exact ⟨t,y,z,q,rfl,h.1.1.1,h.1.1.2,h.1.2,h.2⟩
  |cons _ _=>exact absurd h zzN
 |_=>exact absurd h zzN
theorem zf2 {M:MC} {x:List Stmt} (h:kO .nil M x=true):x=[]:=by
 cases x with
 |nil=>rfl
 |cons _ _=>exact absurd h zzN
theorem zeo {s:IS} {ss:ISs} {M:MC} {x:List Stmt} (h:kO (.cons s ss) M x=true):∃ y ys,x=y::ys/\mS s M y=true/\kO ss M ys=true:=by
 cases x with
 |nil=>exact absurd h zzN
 |cons y ys =>
  replace h:=tX h;exact ⟨y,ys,rfl,h.1,h.2⟩
end L3
namespace L2
open PySem PySem.Spec PyProof.Rows
theorem alive {P:Program} {w:World} {H:Hp} {h:Heap} {a:Addr} {o:HO} (x:xK P w H h a o):∃ u,h.get? a=some u:=by
 cases o with
 |lst _=>obtain ⟨_,_,_,_,e⟩:=x;exact ⟨_,e⟩
 |tup _=>obtain ⟨_,_,_,u,e,_⟩:=x;exact ⟨u,e⟩
 |dK _=>obtain ⟨_,_,_,_,u,_,_,e,_⟩:=x;exact ⟨u,e⟩
 |dT _=>obtain ⟨_,_,_,_,u,_,_,e,_⟩:=x;exact ⟨u,e⟩
 |set _ _=>obtain ⟨u,_,_,_,e,_⟩:=x;exact ⟨u,e⟩
 |ins _ _ _=>exact ⟨_,x.2.2.2.1⟩
 |own _=>exact x
 |xd _=>obtain ⟨_,⟨u,_,_,e,_⟩,_⟩:=x;exact ⟨u,e⟩
 |rng _ _=>obtain ⟨_,_,_,e⟩:=x;exact ⟨_,e⟩
 |frz _ _=>exact ⟨_,x.1⟩
 |tbl _=>exact ⟨_,x⟩
 |met _ _=>exact ⟨_,x⟩
 |ext _=>exact x.2.1
def zcf (h:Heap) (L:Addr):List (Addr×Obj):=(List.range h.objs.size).filterMap fun b=>if b=L then none else (h.get? b).map fun o=>(b,o)
theorem tV {h:Heap} {L b:Addr} {o:Obj}:(b,o)∈zcf h L↔b≠L/\h.get? b=some o:=by
 unfold zcf;rw [List.mem_filterMap]
 constructor
 .rintro ⟨c,_,e⟩
  split at e
  .cases e
  .rename_i hc;obtain ⟨o',e1,e2⟩:=Option.map_eq_some_iff.mp e;cases e2;exact ⟨hc,e1⟩
 .rintro ⟨hb,e⟩;exact ⟨b,List.mem_range.mpr (Heap.lt_size e),by rw [if_neg hb,e];rfl⟩
section
variable {X : Cx} {pos : Pos}
def gStar (K:PySem.W.Frag) (t:TGs):TG:=fun v σ H Q=>∃ a x xs,v=.ref a/\sZ K H a (x::xs)/\xs.length<=1000/\∀ D,H D=none->t [x,.ref D] σ (xE H D (.lst xs)) Q
theorem zfH {e1 e2:Expr} {k:Nat} {p2:Pos} {t:TGs} (hc:X.calm=true) (h:PGs X [e1,e2] t) (h1:assignEach [e1,.Starred e2 p2] X.env=[(false,assign e1 X.env),(true,assign e2 X.env)])
  (h2:assignEach [e1,e2] X.env=[(false,assign e1 X.env),(false,assign e2 X.env)]):PG X (.Tuple [e1,.Starred e2 p2] k pos) (gStar X.K t):=by
 intro pins s σ H v u Q I r hw;obtain ⟨a,x,xs,e,hq,hl,hw⟩:=hw;subst e;cases r;obtain ⟨its,rv,ht,hz⟩:=I.tuple hq
 cases rv with
 | @cons _ u _ us r0 rs =>
 have hus:us.length=xs.length:=rs.length.symm;obtain ⟨m,hn,_⟩:=id I.loc;have F:Fr (default:Heap) X.env.locals s.heap m:=⟨hn,fun b o e=>(by cases e),Nat.zero_le _⟩
 have N:News (default:Heap) X.env.locals s.heap (zcf s.heap X.env.locals):=fun p hp=>by
  obtain ⟨b,o⟩:=p;have:=tV.mp hp;exact ⟨this.2,this.1,rfl⟩
 refine PySem.W.kun_assignT (n:=2) (i:=1) (first:=[u]) (mids:=us) (lasts:=[]) F N ht (I.ok.hd hc) (by rw [h1];rfl) (by rw [h1];rfl) (by decide) (by simp) (by simp;omega) (by simp) (by simp) (by simp) fun D h' tk F' N' lt=>?_;have get:∀ b o,b≠X.env.locals->s.heap.get? b=some o->h'.get? b=some o:=fun b o hb e=>(N' (b,o) (List.mem_cons_of_mem _ (tV.mpr ⟨hb,e⟩))).1;obtain ⟨hD,nD,_⟩:=N' (D,{ cls:=.type "list", data:=.seq us.toArray 0 }) zzT
 have no:s.heap.get? D=none:=by
  cases q:s.heap.get? D with
  |none=>rfl
  |some o=>exact absurd (lt (D,o) (tV.mpr ⟨nD,q⟩)) (Nat.lt_irrefl _)
 have HD:H D=none:=by
  cases q:H D with
  |none=>rfl
  |some o=>obtain ⟨u',e'⟩:=alive (I.hok D o q);rw [no] at e';cases e'
 have nl:∀ b o,H b=some o->b≠X.env.locals:=fun b o e z=>by rw [z,I.free] at e;cases e
 have ne:∀ b o,H b=some o->b≠D:=fun b o e=>yL e HD
 have hok:uH X.prog X.w (xE H D (.lst xs)) h':=fun b o e=>by
  by_cases hb:b=D
  .subst hb;rw [wE] at e;cases e;exact ⟨by rw [sizeLine_eq];omega,us,0,rs,hD⟩
  .rw [yU hb] at e;refine (I.hok b o e).stay (fun c v hc q=>get c v ?_ q) (fun c q=>by rw [yU (ne c _ q)];exact q) fun c ys q=>by rw [yU (ne c _ q)];exact q
   rcases hc with z|z
   .rw [z];exact nl b o e
   .exact nl c _ z
 have I1:Inv X pins σ (xE H D (.lst xs)) { s with heap:=h',toks:=tk } :=
  I.step (g':=s.gens) (d':=s.drawn) (ch:=[]) (fun _ z=>nomatch z) (fun b o hb _ _ e _=>get b o hb e) (fun b o hb _ _ e _=>⟨o.slots,get b o hb e⟩)
   (fun b o _ e n=>by rw [yU (fun z=>by rw [z,no] at e;cases e)];exact n)
   (fun b o _ e=>by
    by_cases hb:b=X.env.locals
    .obtain ⟨o',_,_,q,_⟩:=F'.ns;exact ⟨o',by rw [hb];exact q⟩
    .exact ⟨o,get b o hb e⟩)
   (fun b ys e=>by rw [yU (ne b _ e)];exact e) (fun b o u e=>by rw [yU (ne b _ e)];exact e) (fun b ps e=>⟨#[],by rw [yU (ne b _ e),e];simp⟩)
   (fun m' hm=>by rw [hm.eq_nsMap,← hn.eq_nsMap];exact F'.ns) hok I.bare
 have:=h pins _ σ _ [x,.ref D] [u,.ref D] Q I1 (.cons r0 (.cons rfl .nil)) (hw D HD);rw [h2] at this;rw [h1];exact this
end
end L2
namespace L3
open PySem PySem.Spec PyProof.Rows L2 PySem.SeqAt
theorem zaR {K:yM} {H:Hp} {f:Str} {w:W} {v:V} (q:wJ K H w v):∀ {l:List (Str×W)} {l':List (Str×V)},yQ K H l l'->yQ K H (zb6 f w l) (kJ f v l')
 | [],_,h=>by rw [show _=[] from h];exact ⟨v,[],rfl,q,rfl⟩
 | (n,u)::r,_,⟨x,t,e,h,hr⟩=>by
  subst e;unfold zb6 kJ
  by_cases hn:n=f
  .rw [if_pos hn,if_pos hn];exact ⟨v,t,rfl,q,hr⟩
  .rw [if_neg hn,if_neg hn];exact ⟨x,_,rfl,h,zaR q hr⟩
section
variable {Γ : Ctx3} {p : Par} (g : Good Γ p)
def OkS (Γ:Ctx3) (p:Par) (s:IS):Prop:=∀ M X x,Lk Γ M p X->mS s M x=true->PS X x (lowS X.K (zS Γ XN s))
def OkSs (Γ:Ctx3) (p:Par) (s:ISs):Prop:=∀ M X x,Lk Γ M p X->kO s M x=true->PSs X x (lowS X.K (zE Γ XN s))
include g
theorem t_asg (i:Nat) (e:IE):OkS Γ p (.asg i e):=by
 intro M X x L h;obtain ⟨y,py,v,q,rfl,h1,h2,h3⟩:=zga h
 .
  have lo:=bM L h2;have hN:=jF h1;rw [← L.N] at hN;have nd:X.N.Nodup:=L.N▸L.nd
  have low:∀ (te:TE),(∀ τ H Q,xY X.K (zG Γ XN e).e τ H Q->te τ H Q)->∀ D τ H,lowS X.K (zS Γ XN (.asg i e)) D τ H->tAsg te (zev i) D τ H:=fun te k D τ H hq=>by
   obtain ⟨σ,G,D3,hs,ab,f,hq⟩:=hq;refine k _ _ _ ⟨σ,G,hs,ab,yV g.mono XN e σ G _ _ (fun w G' hq v' H' g' rp ab'=>?_) hq⟩;exact f.nx _ G' _ H' g' ((hs.mono g').set rp i) ab' hq
  by_cases hl:rR v=true
  .exact (zeW (i:=i) nd hN lo.1 (vH g e M X v L h3).1 (kT hl) lo.2).imp (low _ fun _ _ _ z=>z)
  .cases v with
   |ListComp x gens sc qq =>
    cases e with
    |lc tg names caps it c elt =>
     match gens,h3 with
     | [⟨t,ix,ifs,asy⟩],h3 =>
      have h3':=h3;replace h3:=bd10 h3;obtain ⟨⟨⟨⟨⟨⟨⟨⟨⟨z0,z1⟩,z2⟩,z3⟩,z4⟩,z5⟩,z6⟩,z7⟩,z8⟩,z9⟩:=h3;replace z0:=of_decide_eq_true z0;subst z0;have cond:∃ b,swapsWith (.ListComp x [⟨t,ix,ifs,0⟩] sc qq) (some (.Name y py)) q.line X.env=pure b:=⟨_,rfl⟩;obtain ⟨b,hb⟩:=cond
      cases b with
      |false=>exact (zeW (i:=i) nd hN lo.1 (vH g _ M X _ L h3').1 hb lo.2).imp (low _ fun _ _ _ z=>z)
      |true =>
       obtain ⟨c1,c2,c3,c4,c5,c6,c7,c8⟩:=fA g tg names caps it c elt (sndI g it) (sndO g c) (vH g elt) L (x:=x) (t:=t) (ix:=ix) (ifs:=ifs) (sc:=sc) (by simp only [Bool.and_eq_true];exact ⟨⟨⟨⟨⟨⟨⟨⟨z1,z2⟩,z3⟩,z4⟩,z5⟩,z6⟩,z7⟩,z8⟩,z9⟩);exact (zdW (i:=i) L.fits.calm c1 c2 c3 c4 c5 c6 nd hN lo.1 lo.2 hb c7).imp (low _ c8)
    |_=>exact absurd h3 zzN
   |SetComp _ _ _ _=>cases e<;>exact absurd h3 zzN
   |DictComp _ _ _ _ _=>cases e<;>exact absurd h3 zzN
   |_=>exact absurd rfl hl
theorem zgN (ts:ITgs) (e:IE):OkS Γ p (.asgT ts e):=by
 intro M X x L h;obtain ⟨es,k,qt,v,q,rfl,h1,h2,h3,h4⟩:=zep h
 .
  have pg:=sndG L (.tup ts) (.Tuple es k qt) h3;refine (zeX (vH g e M X v L h4).1 pg (by unfold swapsWithSole;exact kT h1) (by cases v<;>first|rfl|cases h2) rfl).imp fun D τ H hq=>?_;obtain ⟨σ,G,D3,hs,ab,f,hq⟩:=hq;refine ⟨σ,G,hs,ab,yV g.mono XN e σ G _ _ (fun w G' hq v' H' g' rp ab'=>?_) hq⟩;exact ⟨w,σ,G',rp,hs.mono g',ab',rC _ w σ G' _ _ (fun σ2 G2 hq τ2 H2 g2 hs2 a2=>f.nx σ2 G2 τ2 H2 (g'.trans g2) hs2 a2 hq) hq⟩
theorem zgO (i j:Nat) (e:IE):OkS Γ p (.asgS i j e):=by
 intro M X x L h;obtain ⟨t,v,q,rfl,h1,h2,h3,h4⟩:=zeq h;obtain ⟨y,py,z,pz,p2,k,qt,rfl,hi,hj⟩:=zfp h3;have l1:=bM L hi.2;have l2:=bM L hj.2;have pg:=zfH (k:=k) (p2:=p2) (pos:=qt) L.fits.calm (nC (bQ (pos:=py) (i:=i) (L.N▸L.nd) (by rw [L.N];exact jF hi.1) l1.1 l1.2) (nC (bQ (pos:=pz) (i:=j) (L.N▸L.nd) (by rw [L.N];exact jF hj.1) l2.1 l2.2) zca)) rfl rfl;refine (zeX (vH g e M X v L h4).1 pg (by unfold swapsWithSole;exact kT h1) (by cases v<;>first|rfl|cases h2) rfl).imp fun D τ H hq=>?_;obtain ⟨σ,G,D3,hs,ab,f,hq⟩:=hq;refine xW (yV g.mono XN e) hs ab hq fun w G1 v1 H1 g1 hs1 r1 a1 hq=>?_
 cases w with
 |tup ws =>
  cases ws with
  |nil=>exact hq.elim
  |cons x r =>
   obtain ⟨a,vs,rfl,sq,rs⟩:=r1;obtain ⟨v0,vr,rfl,rx,rr⟩:=rs;refine ⟨a,v0,vr,rfl,sq,by rw [rr.length];exact hq.1,fun p hp=>⟨v0,[.ref p],rfl,.ref p,[],rfl,rfl,?_⟩⟩;have gr:=wL (K:=X.K) (u:=.lst vr) hp;have ab2:xI X.K (xE H1 p (.lst vr)) (put G1 p (.lst r)):=a1.new hp ⟨vr,rfl,rr.mono gr⟩;exact f.nx _ _ _ _ (g1.trans gr) (((hs1.mono gr).set (rx.mono gr) i).set (show wJ X.K _ (.ref p) (.ref p) from rfl) j) ab2 (hq.2 p (a1.free hp))
 |_=>exact hq.elim
theorem zgP (o i e:IE):OkS Γ p (.asgI o i e):=by
 intro M X x L h;obtain ⟨l,r,qs,v,q,rfl,h1,h2,h3,h4,h5⟩:=zer h
 .
  have pe:=(vH g e M X v L h5).1;have po:=(vH g o M X l L h3).1;have pi:=(vH g i M X r L h4).1;intro pins s τ H D I hq;obtain ⟨σ,G,D3,hs,ab,f,hq⟩:=hq
  have q1:xY X.K (zG Γ XN e).e τ H fun v H1=>xY X.K (zG Γ XN o).e τ H1 fun ov H2=>xY X.K (zG Γ XN i).e τ H2 fun iv H3=>ze6 X.K ov iv v H3 fun H4=>D.nx τ H4:=by
   refine xW (yV g.mono XN e) hs ab hq fun w G1 v1 H1 g1 hs1 r1 a1 hq=>?_;refine xW (yV g.mono XN o) hs1 a1 hq fun x G2 v2 H2 g2 hs2 r2 a2 hq=>?_;refine xW (yV g.mono XN i) hs2 a2 hq fun y G3 v3 H3 g3 hs3 r3 a3 hq=>?_;exact ⟨x,y,w,G3,r2.mono g3,r3,(r1.mono g2).mono g3,a3,zbX (fun G4 hq H4 g4 a4=>f.nx σ G4 τ H4 (g1.trans (g2.trans (g3.trans g4))) (hs3.mono g4) a4 hq) hq⟩
  refine wpAny_Assign_Subscript (yB (pe pins s τ H _ I q1) fun u1 s1 ⟨v1,H1,I1,r1,q1⟩=>yB (po pins s1 τ H1 _ I1 q1) fun u2 s2 ⟨v2,H2,I2,r2,q2⟩=>yB (pi pins s2 τ H2 _ I2 q2) fun u3 s3 ⟨v3,H3,I3,r3,q3⟩=>?_) (kT h1);exact yB (zg2 (sH g L) pins s3 τ H3 v2 v3 v1 u2 u3 u1 _ I3 r2 r3 r1 q3) fun _ s4 ⟨H4,I4,q4⟩=>⟨τ,H4,I4,q4⟩
theorem zgQ (o:IE) (f:Str) (e:IE):OkS Γ p (.asgA o f e):=by
 intro M X x L h;obtain ⟨l,qs,v,q,rfl,h2,h3,h4⟩:=zes h
 .
  refine (zhj (vH g o M X l L h3).1 (vH g e M X v L h4).1 (kT h2)).imp fun D τ H hq=>?_;obtain ⟨σ,G,D3,hs,ab,fi,hq⟩:=hq;refine xW (yV g.mono XN e) hs ab hq fun w G1 v1 H1 g1 hs1 r1 a1 hq=>?_;refine xW (yV g.mono XN o) hs1 a1 hq fun x G2 v2 H2 g2 hs2 r2 a2 hq=>?_
  cases x with
  |ref a =>
   cases r2;simp only [satR] at hq
   split at hq
   .rename_i C fs e2;obtain ⟨⟨l2,hl,hf⟩,hlen,hq⟩:=hq;obtain ⟨dx,fs',e',rk⟩:=a2.ins e2;have c:=g.cl _ hl;refine ⟨a,C,dx,fs',rfl,e',by rw [L.fits.K];exact c.1,by rw [L.fits.K];exact c.2 f hf,by rw [rk.length];exact hlen,?_⟩;have gr:=a2.grow (u:=.ins C dx (kJ f v1 fs')) e2;exact fi.nx σ _ τ _ (g1.trans (g2.trans gr)) (hs2.mono gr) (a2.chg (o:=.ins C (zb6 f w fs)) e2 ⟨dx,_,rfl,zaR ((r1.mono g2).mono gr) (rk.mono gr)⟩) hq
   .exact hq.elim
  |_=>exact hq.elim
theorem vI:OkS Γ p .retN/\OkS Γ p .pass/\OkS Γ p .brk/\OkS Γ p .cnt/\OkS Γ p .dead:=by
 refine ⟨fun M X x L h=>?_,fun M X x L h=>?_,fun M X x L h=>?_,fun M X x L h=>?_,fun M X x L h=>?_⟩
 .obtain ⟨q,rfl⟩:=zem h;exact zfB.imp fun D τ H hq=>by obtain ⟨σ,G,D3,hs,ab,f,hq⟩:=hq;exact f.rt .non G _ H .refl (show wJ X.K H .non .non from rfl) ab hq
 .obtain ⟨q,rfl⟩:=zen h;exact zfC.imp fun D τ H hq=>by obtain ⟨σ,G,D3,hs,ab,f,hq⟩:=hq;exact f.nx σ G τ H .refl hs ab hq
 .obtain ⟨q,rfl⟩:=zf9 h;exact zdY.imp fun D τ H hq=>by obtain ⟨σ,G,D3,hs,ab,f,hq⟩:=hq;exact f.bk σ G τ H .refl hs ab hq
 .obtain ⟨q,rfl⟩:=zf5 h;exact zan.imp fun D τ H hq=>by obtain ⟨σ,G,D3,hs,ab,f,hq⟩:=hq;exact f.ct σ G τ H .refl hs ab hq
 .exact zdX.imp fun D τ H hq=>by obtain ⟨σ,G,D3,hs,ab,f,hq⟩:=hq;exact hq.elim
theorem t_ex (e:IE):OkS Γ p (.ex e):=by
 intro M X x L h;obtain ⟨v,q,rfl,hh⟩:=zie h
 .have h:=hh;refine (zfD (vH g e M X v L h.2).1 (kT h.1)).imp fun D τ H hq=>?_;obtain ⟨σ,G,D3,hs,ab,f,hq⟩:=hq;exact xW (yV g.mono XN e) hs ab hq fun w G1 v1 H1 g1 hs1 r1 a1 hq=>f.nx σ G1 τ H1 g1 hs1 a1 hq
theorem t_ret (e:IE):OkS Γ p (.ret e):=by
 intro M X x L h;obtain ⟨v,q,rfl,hh⟩:=zf1 h
 .have h:=hh;refine (zhh (vH g e M X v L h).1).imp fun D τ H hq=>?_;obtain ⟨σ,G,D3,hs,ab,f,hq⟩:=hq;exact xW (yV g.mono XN e) hs ab hq fun w G1 v1 H1 g1 hs1 r1 a1 hq=>f.rt w G1 v1 H1 g1 r1 a1 hq
theorem t_ite (c:IE) (a b:ISs) (ha:OkSs Γ p a) (hb:OkSs Γ p b):OkS Γ p (.ite c a b):=by
 intro M X x L h;obtain ⟨t,y,z,q,rfl,hh⟩:=zf3 h
 .have h:=hh;refine (ps_if (vH g c M X t L h.1).2.1 (ha M X y L h.2.1) (hb M X z L h.2.2)).imp fun D τ H hq=>?_;obtain ⟨σ,G,D3,hs,ab,f,hq⟩:=hq;refine gP (sO g.mono XN c) hs ab hq fun k G1 H1 g1 hs1 a1 hq=>?_
  split
  .rename_i hk;rw [if_pos hk] at hq;exact ⟨σ,G1,D3,hs1,a1,f.grow g1,hq⟩
  .rename_i hk;rw [if_neg hk] at hq;exact ⟨σ,G1,D3,hs1,a1,f.grow g1,hq⟩
theorem t_whl (c:IE) (b:ISs) (hb:OkSs Γ p b):OkS Γ p (.whl c b):=by
 intro M X x L h;obtain ⟨t,y,q,rfl,hh⟩:=zf0 h
 .have h:=hh;have hp:PassesOwn (model X.prog X.w) X.A X.env X.xe:=by rw [L.fits.xe];exact PassesOwn.never
  refine (zdV hp (vH g c M X t L h.1).2.1 (hb M X y L h.2)).imp fun D τ H hq=>?_;obtain ⟨σ,G,D3,hs,ab,f,Pv,⟨m0,p0⟩,step⟩:=hq;refine ⟨fun m τ H'=>yF X.K H H'/\∃ σ G,yH X.K H' σ τ/\xI X.K H' G/\Pv m σ G,⟨m0,.refl,σ,G,hs,ab,p0⟩,?_⟩;rintro m τ1 H1 ⟨g1,σ1,G1,hs1,a1,p1⟩;refine gP (sO g.mono XN c) hs1 a1 (step m σ1 G1 p1) fun k G2 H2 g2 hs2 a2 hq=>?_
  split
  .rename_i hk;rw [if_pos hk] at hq;refine ⟨fun τ' H'=>∃ m',m' < m/\yF X.K H H'/\∃ σ G,yH X.K H' σ τ'/\xI X.K H' G/\Pv m' σ G,fun τ' H' z=>z,?_⟩;refine ⟨σ1,G2,_,hs2,a2,⟨?_,?_,?_,?_⟩,hq⟩
   .rintro σ3 G3 τ3 H3 g3 hs3 a3 ⟨m',hm,p'⟩;exact ⟨m',hm,g1.trans (g2.trans g3),σ3,G3,hs3,a3,p'⟩
   .exact fun σ3 G3 τ3 H3 g3 hs3 a3 z=>f.nx σ3 G3 τ3 H3 (g1.trans (g2.trans g3)) hs3 a3 z
   .rintro σ3 G3 τ3 H3 g3 hs3 a3 ⟨m',hm,p'⟩;exact ⟨m',hm,g1.trans (g2.trans g3),σ3,G3,hs3,a3,p'⟩
   .exact fun w G3 v3 H3 g3 r3 a3 z=>f.rt w G3 v3 H3 (g1.trans (g2.trans g3)) r3 a3 z
  .rename_i hk;rw [if_neg hk] at hq;exact f.nx σ1 G2 τ1 H2 (g1.trans g2) hs2 a2 hq
theorem t_for (tg:ITg) (it:II) (b:ISs) (hb:OkSs Γ p b):OkS Γ p (.for tg it b):=by
 intro M X x L h;obtain ⟨t,y,z,q,rfl,h1,h2,h3,h4⟩:=zf4 h
 .
  have hp:PassesOwn (model X.prog X.w) X.A X.env X.xe:=by rw [L.fits.xe];exact PassesOwn.never
  refine (zhi hp L.fits.calm (sndI g it M X y L h3 t) (sndG L tg t h2) (hb M X z L h4) (cY h1)).imp fun D τ H hq=>?_;obtain ⟨σ,G,D3,hs,ab,f,hq⟩:=hq;refine ⟨σ,G,hs,ab,zhI g.mono XN it σ G _ _ (fun items stab G1 hq J H1 g1 a1 ii=>?_) hq⟩;obtain ⟨Pv,p0,pst,step,fin⟩:=hq;refine ⟨fun i m τ H'=>m+i=items.length/\yF X.K H1 H'/\∃ σ G,yH X.K H' σ τ/\xI X.K H' G/\Pv i σ G,⟨items.length,rfl,.refl,σ,G1,hs.mono g1,a1,p0⟩,?_⟩;rintro i m τ2 H2 ⟨hm,g2,σ2,G2,hs2,a2,p2⟩;have st:=pst i σ2 G2 p2 (by omega)
  by_cases hi:i<items.length
  .refine .inr ⟨ii.go i H2 G2 g2 a2 st hi,fun τ' H'=>∃ m',m' < m/\(m'+(i+1)=items.length/\yF X.K H1 H'/\∃ σ G,yH X.K H' σ τ'/\xI X.K H' G/\Pv (i+1) σ G),fun τ' H' z=>z,fun x H' yl=>?_⟩;obtain ⟨w,ew,g3,rp,a3⟩:=ii.yld i H2 G2 x H' g2 a2 st hi yl;refine ⟨w,σ2,G2,rp,hs2.mono g3,a3,rC tg w σ2 G2 _ _ (fun σ4 G4 hq τ4 H4 g4 hs4 a4=>?_) (step i w σ2 G2 ew p2)⟩;refine ⟨σ4,G4,_,hs4,a4,⟨?_,?_,?_,?_⟩,hq⟩
   .exact fun σ5 G5 τ5 H5 g5 hs5 a5 z=>⟨m-1,by omega,by omega,g2.trans (g3.trans (g4.trans g5)),σ5,G5,hs5,a5,z⟩
   .exact fun σ5 G5 τ5 H5 g5 hs5 a5 z=>f.nx σ5 G5 τ5 H5 (g1.trans (g2.trans (g3.trans (g4.trans g5)))) hs5 a5 z
   .exact fun σ5 G5 τ5 H5 g5 hs5 a5 z=>⟨m-1,by omega,by omega,g2.trans (g3.trans (g4.trans g5)),σ5,G5,hs5,a5,z⟩
   .exact fun w5 G5 v5 H5 g5 r5 a5 z=>f.rt w5 G5 v5 H5 (g1.trans (g2.trans (g3.trans (g4.trans g5)))) r5 a5 z
  .have ei:i=items.length:=by omega
   subst ei;exact .inl ⟨ii.stop _ H2 G2 g2 a2 st (zzR _),f.nx σ2 G2 τ2 H2 (g1.trans g2) hs2 a2 (fin σ2 G2 p2)⟩
theorem sndSs (s:ISs):OkSs Γ p s :=
 ISs.rec (motive_1:=OkS Γ p) (motive_2:=OkSs Γ p) (t_asg g) (zgN g) (zgP g) (zgQ g) (t_ex g) (t_ret g) (vI g).1 (vI g).2.1 (vI g).2.2.1 (vI g).2.2.2.1
  (fun c a b ha hb=>t_ite g c a b ha hb) (fun c b hb=>t_whl g c b hb) (fun tg it b hb=>t_for g tg it b hb) (vI g).2.2.2.2 (zgO g)
  (fun M X x L h=>by
   cases zf2 h;exact zfA.imp fun D τ H hq=>by obtain ⟨σ,G,D3,hs,ab,f,hq⟩:=hq;exact f.nx σ G τ H .refl hs ab hq)
  (fun s ss hs1 hs2 M X x L h=>by
   obtain ⟨y,ys,rfl,hh⟩:=zeo h
   .have h:=hh;refine (zdU (hs1 M X y L h.1) (hs2 M X ys L h.2)).imp fun D τ H hq=>?_;obtain ⟨σ,G,D3,hs,ab,f,hq⟩:=hq;refine ⟨σ,G,{ D3 with nx:=zE Γ XN ss D3 },hs,ab,⟨?_,f.bk,f.ct,f.rt⟩,hq⟩;exact fun σ2 G2 τ2 H2 g2 hs2 a2 z=>⟨σ2,G2,D3,hs2,a2,f.grow g2,z⟩) s
end
end L3
namespace PySem
open Sem (wp)
section
variable {prog : Program} {w : World} {A : Around} {E : Value → Shared → Prop} {s : Shared}
def SSq (b:Bool) (h:Heap) (l:Addr) (its:Array Value):Prop:=match b with
 |true=>h.IsTuple l its
 |false=>h.IsList l its
end
section
variable {prog : Program} {w : World} {A : Around} {E : Value → Shared → Prop} {s : Shared}
end
end PySem
namespace PySem
open Sem (wp)
section
variable {prog : Program} {w : World} {A : Around} {E : Value → Shared → Prop} {s : Shared}
end
end PySem
namespace L2
open PySem PySem.Spec PyProof.Rows
structure TurnL (P:Program) (w:World) (K:PySem.W.Frag) (T:String) (J:It) (fp:List Addr) (it:Addr) (tn:Nat->Heap->Prop):Prop where
 mem:it∈fp
 ty:∀ i h,tn i h->∃ o,h.get? it=some o/\o.cls=.type T
 obj:∀ i h,tn i h->∀ b∈fp,∃ o,h.get? b=some o/\∀ v,o.data≠.cell v
 keep:∀ i h h',tn i h->(∀ b∈fp,∀ o,h.get? b=some o->h'.get? b=some o)->tn i h'
 item:∀ (X:Cx),X.prog=P->X.w=w->X.K=K->X.calm=true->∀ (i:Nat) (pins:List (Addr×Obj)) (s:Shared) (σ:St) (H:Hp) (E:Value->Shared->Prop),Inv X pins σ H s->(∀ b∈fp,rX X pins H b)->tn i s.heap->J.go i H ->
  wpAny (model P w) X.A (pyNext (.ref it)) (fun r s2=>∃ u x H',r=some u/\Inv X pins σ H' s2/\yW x u/\J.yld i H x H'/\tn (i+1) s2.heap/\∀ b∈fp,H' b=none) E s
 done:∀ (X:Cx),X.prog=P->X.w=w->X.K=K->X.calm=true->∀ (i:Nat) (pins:List (Addr×Obj)) (s:Shared) (σ:St) (H:Hp) (E:Value->Shared->Prop),Inv X pins σ H s->(∀ b∈fp,rX X pins H b)->tn i s.heap->J.stop i H ->
  wpAny (model P w) X.A (pyNext (.ref it)) (fun r s1=>r=none/\Inv X pins σ H s1) E s
 self:∀ (A:Around) (i:Nat) (s:Shared) (Q:Value->Shared->Prop) (E:Value->Shared->Prop),tn i s.heap->Q (.ref it) s->wpAny (model P w) A (pyIter (.ref it)) Q E s
 hint:∀ (A:Around) (i:Nat) (s:Shared) (Q:Bool->Shared->Prop) (E:Value->Shared->Prop),tn i s.heap->(∀ b,Q b s)->wpAny (model P w) A (Builtin.List.listLengthHint (.ref it)) Q E s
abbrev Cx.atA (X:Cx) (A:Around):Cx:={ X with A:=A }
theorem Cx.Ok.atA {X:Cx} (ok:X.Ok) {A:Around} (hf:A.frames=X.A.frames) (hh:A.handled=X.A.handled):(X.atA A).Ok :=
 ⟨ok.mod,ok.kind,ok.glob,ok.blt,ok.above,ok.inj,ok.has,ok.cab,fun z=>hh.trans (ok.hd z),hf.trans ok.frames,ok.stk,ok.exf,ok.bs,ok.bsz,ok.noex,ok.exfs,ok.funs,ok.frf⟩
section
variable {X : Cx} {pins : List (Addr × Obj)} {σ : St} {H : Hp} {s : Shared}
theorem Inv.atA (I:Inv X pins σ H s) {A:Around} (hf:A.frames=X.A.frames) (hh:A.handled=X.A.handled):Inv (X.atA A) pins σ H s :=
 ⟨I.ok.atA hf hh,I.os,I.bare,I.base,I.loc,I.cell,I.free,I.freeC,I.pin,I.hok,I.len⟩
theorem Inv.unA {A:Around} (hf:A.frames=X.A.frames) (hh:A.handled=X.A.handled) (I:Inv (X.atA A) pins σ H s):Inv X pins σ H s :=
 ⟨Cx.Ok.atA (X:=X.atA A) (A:=X.A) I.ok hf.symm hh.symm,I.os,I.bare,I.base,I.loc,I.cell,I.free,I.freeC,I.pin,I.hok,I.len⟩
theorem zex {P:Program} {w:World} {A:Around} {R:Result->Shared->Prop} (S I:Addr) (res:Value) (Jn:Nat->Shared->Prop)
  (step:∀ k s,Jn k s->wpAny (model P w) A.in1 (pyNext (.ref I)) (fun r s'=>match r with
   |none=>R (.ok (.ret res)) s'
   |some v=>∃ its c,s'.heap.get? S=some (vX its c)/\its.length<sizeLine/\∀ h',Heap.SameBut S s'.heap h'->h'.get? S=some (vX (its++[v]) (c+1))->∃ k',k' < k/\Jn k' { s' with heap:=h' }) (fun e s'=>R (.error e) s') s) :
  ∀ k s,Jn k s->codeAny (model P w) A (.builtin "list.extend.loop" ⟨[.ref S,.ref I,res],[]⟩) R s:=by
 intro k
 induction k using Nat.strongRecOn with
 |_ k ih =>
  intro s j;refine codeAny_builtin F.entry_extend_loop ?_;rw [Around.under_plainId F.plain_extend_loop _];show wpAny _ A.in1 (pyNext (.ref I) >>= _) _ _ s;refine wpAny_bind (yB (step k s j) fun r s' q=>?_)
  cases r with
  |none=>exact wpAny_pure q
  |some v =>
   obtain ⟨its,c,hS,hl,q⟩:=q;show wpAny _ A.in1 (updateSeq S (·.push v) >>= _) _ _ _;refine wpAny_bind ?_;obtain ⟨k',hk,j'⟩:=q _ (Heap.SameBut.update ..) (by exact (Heap.get?_update_self (Obj.mapSeq (·.push v)) hS rfl).trans (by simp [Obj.mapSeq,vX]));exact wpAny_updateSeq hS rfl (wpAny_pure ⟨plainId_quiet F.plain_extend_loop _,ih k' hk _ j'⟩) (by show its.toArray.size<=sizeLine;rw [zzS];omega) (by show (its.toArray.push v).size<=sizeLine+1;rw [Array.size_push,zzS];omega)
theorem Inv.adopt {a:Addr} {o:HO} (I:Inv X pins σ H s) (off:Off X pins a) (hn:H a=none) (new:xK X.prog X.w (xE H a o) s.heap a o):Inv X pins σ (xE H a o) s:=by
 have b:=I.base;have nb:∀ b' ob,X.s₀.heap.get? b'=some ob->b'≠a:=fun b' ob e=>Nat.ne_of_lt (Nat.lt_of_lt_of_le (Heap.lt_size e) off.ge);refine ⟨I.ok,I.os,I.bare,⟨b.keep,b.slot,fun c ob e n hx=>?_,b.there,fun c xs e=>?_,fun c ob u e=>?_,fun c ps e=>?_⟩,I.loc,I.cell,?_,fun x c e=>?_,fun p hp=>?_,I.hok.adopt (fun c u v _ q=>q) hn new,I.len⟩
 .rw [yU (nb c ob e)];exact b.free c ob e n hx
 .rw [yU (yL (b.tups c xs e) hn)];exact b.tups c xs e
 .rw [yU (yL (b.frzs c ob u e) hn)];exact b.frzs c ob u e
 .obtain ⟨mo,e'⟩:=b.tbls c ps e;exact ⟨mo,by rw [yU (yL e' hn)];exact e'⟩
 .rw [yU off.ne.symm];exact I.free
 .rw [yU (off.cl x c e)];exact I.freeC x c e
 .obtain ⟨q1,q2,q3⟩:=I.pin p hp;exact ⟨q1,by rw [yU (off.pn p hp)];exact q2,q3⟩
theorem zct (hc:X.calm=true) {T:String} {J:It} {fp:List Addr} {it:Addr} {tn:Nat->Heap->Prop} {Q:VK} (hTl:(Value.type T==Value.type "list")=false) (hTt:(Value.type T==Value.type "tuple")=false)
  (I:Inv X pins σ H s) (Tn:TurnL X.prog X.w X.K T J fp it tn) (t0:tn 0 s.heap) (hf:∀ b∈fp,rX X pins H b) (n:Nat) (hn:n<=sizeLine) (W:Nat->List V->Hp->Prop) (w0:W 0 [] H)
  (wgo:∀ i acc H,i<n->W i acc H->J.go i H/\∀ x H',J.yld i H x H'->W (i+1) (acc++[x]) H') (wst:∀ acc H,W n acc H->J.stop n H/\∀ p,H p=none->Q (.ref p) (xE H p (.lst acc))) :
  wpAny (model X.prog X.w) X.A (call (.type "list") [.ref it]) (EP X pins σ Q) X.xe s:=by
 have hfp:∀ b∈fp,b<s.heap.objs.size:=fun b hb=>by
  obtain ⟨o,e,_⟩:=Tn.obj _ _ t0 b hb;exact Heap.lt_size e
 have hSf:∀ b∈fp,b≠s.heap.objs.size:=fun b hb=>Nat.ne_of_lt (hfp b hb);have hSI:s.heap.objs.size≠it:=(hSf it Tn.mem).symm;have off:Off X pins s.heap.objs.size:=I.off (zzR _);have nfs:s.heap.objs.size∉X.fs:=I.nofs (zzR _);have fr0:∀ b∈fp,H b=none:=fun b hb=>(hf b hb).1;have HS0:H s.heap.objs.size=none:=I.hok.fresh (zzR _)
 have fpok:∀ {H':Hp} {ob:Obj},(∀ b∈fp,H' b=none)->∀ b∈fp,rX X ((s.heap.objs.size,ob)::pins) H' b:=fun {H' ob} hn b hb=>by
  obtain ⟨q1,q2,q3,q4,q5,q6⟩:=hf b hb;refine ⟨hn b hb,q2,q3,q4,q5,fun p hp=>?_⟩;rcases List.mem_append.mp hp with hp|hp
  .exact q6 p (List.mem_append_left _ hp)
  .rcases List.mem_cons.mp hp with rfl|hp
   .exact (hSf b hb).symm
   .exact q6 p (List.mem_append_right _ hp)
 have pinS:∀ {H':Hp} {s':Shared} {its:List Value} {c:Nat},Inv X pins σ H' s'->H' s.heap.objs.size=none->s'.heap.get? s.heap.objs.size=some (vX its c)->Inv X ((s.heap.objs.size,vX its c)::pins) σ H' s':=fun {H' s' its c} I' hn e =>
  I'.pins_of fun p hp=>by
   rcases List.mem_cons.mp hp with rfl|hp
   .exact ⟨e,hn,off.ne,nfs,fun v z=>nomatch z⟩
   .exact I'.pin p (List.mem_append_right _ hp)
 have unpin:∀ {H':Hp} {s':Shared} {ob:Obj},Inv X ((s.heap.objs.size,ob)::pins) σ H' s'->Inv X pins σ H' s':=fun {H' s' ob} I'=>I'.pins_of fun p hp=>I'.pin p (List.mem_append_right _ (List.mem_cons_of_mem _ hp))
 refine callType_codes (Q₁:=fun obj s₁=>obj=.ref s.heap.objs.size/\s₁={ s with heap:=s.heap.push { cls:=.type "list", data:=.seq #[] } }) F.called_list (F.typeCall_list_1 _) F.entry_list_init
  (code_list_new _ ⟨rfl,rfl⟩) fun obj s₁ h₁=>?_
 obtain ⟨rfl,rfl⟩:=h₁;have hS:(s.heap.push { cls:=.type "list", data:=.seq #[] }).get? s.heap.objs.size=some { cls:=.type "list", data:=.seq #[] }:=Heap.get?_push_size _ rfl;refine ⟨⟨_,hS,rfl⟩,F.args_list_init_2 _ _,?_⟩
 have loop:∀ (h':Heap) (c:Nat),h'.get? s.heap.objs.size=some (vX [] c)->(∀ b o,s.heap.get? b=some o->h'.get? b=some o) ->
   codeAny (model X.prog X.w) X.A.in1 (.builtin "list.extend.loop" ⟨[.ref s.heap.objs.size,.ref it,.none],[]⟩) (wants (fun r s₂=>r=.none/\EP X pins σ Q (.ref s.heap.objs.size) s₂) X.xe) { s with heap:=h' }:=by
  intro h' c e0 k0
  refine zex s.heap.objs.size it .none (fun k s'=>∃ i acc H' its c,k+i=n/\Inv X pins σ H' s'/\tn i s'.heap/\(∀ b∈fp,H' b=none)/\H' s.heap.objs.size=none/\s'.heap.get? s.heap.objs.size=some (vX its c)/\yX acc its/\acc.length<=i/\W i acc H') ?_ n _
   ⟨0,[],H,[],c,by omega,I.kept (t':=s.toks) k0,Tn.keep _ _ _ t0 fun b _ o e=>k0 b o e,fr0,HS0,e0,.nil,zzR _,w0⟩
  rintro k s' ⟨i,acc,H',its,c',hk,I',st,fr,hS',oS,v,la,wi⟩;have Ip:=(pinS I' hS' oS).atA (A:=X.A.in1.in1) rfl rfl
  by_cases hi:i<n
  .obtain ⟨go,yl⟩:=wgo i acc H' hi wi;refine yB (Tn.item (X.atA X.A.in1.in1) rfl rfl rfl hc i _ s' σ H' _ Ip (fpok fr) st go) fun r s2 ⟨u,x,H2,hr,I2,r2,y2,st2,fr2⟩=>?_;subst hr;have I2':=Inv.unA (X:=X) (A:=X.A.in1.in1) rfl rfl I2;have p2:=I2'.pin (s.heap.objs.size,vX its c') (List.mem_append_right _ (zzT ..));refine ⟨its,c',p2.1,by rw [← v.length];omega,fun h'' sb e''=>⟨k-1,by omega,i+1,acc++[x],H2,its++[u],c'+1,by omega,off.turned (unpin I2') p2.2.1 sb,Tn.keep _ _ _ st2 fun b hb o e=>sb.extBut b o (hSf b hb) e,fr2,p2.2.1,e'',v.append (.cons r2 .nil),by rw [zzW];show acc.length+1<=i+1;omega,yl x H2 y2⟩⟩
  .have hin:i=n:=by omega
   subst hin;obtain ⟨yT,fin⟩:=wst acc H' wi;refine yB (Tn.done (X.atA X.A.in1.in1) rfl rfl rfl hc i _ s' σ H' _ Ip (fpok fr) st yT) fun r s2 ⟨hr,I2⟩=>?_;subst hr;have I2':=Inv.unA (X:=X) (A:=X.A.in1.in1) rfl rfl I2;have p2:=I2'.pin (s.heap.objs.size,vX its c') (List.mem_append_right _ (zzT ..));exact ⟨rfl,.ref s.heap.objs.size,xE H' s.heap.objs.size (.lst acc),(unpin I2').adopt off hS' ⟨by omega,its,c',v,p2.1⟩,rfl,fin _ hS'⟩
 show wpAny _ X.A.in1.in1 (do let old ← Builtin.List.listItems (.ref s.heap.objs.size);Builtin.List.listUpdate (.ref s.heap.objs.size) (fun _=>#[]);letGo old.toList.reverse;Builtin.List.listExtendWith (.ref s.heap.objs.size) (.ref it) .none) _ _ _;refine wpAny_bind ?_;unfold Builtin.List.listItems;refine wpAny_bind (wpAny_seqItems hS rfl (wpAny_pure ?_));show wpAny _ X.A.in1.in1 (updateSeq s.heap.objs.size (fun _=>#[]) >>= fun _=>letGo (#[]:Array Value).toList.reverse >>= fun _=>Builtin.List.listExtendWith (.ref s.heap.objs.size) (.ref it) .none) _ _ _;refine wpAny_bind (wpAny_updateSeq hS rfl ?_);have hS₂:=Heap.get?_update_self (Obj.mapSeq (fun _=>(#[]:Array Value))) hS rfl;generalize hh2:(s.heap.push { cls:=.type "list", data:=.seq #[] }).update s.heap.objs.size (Obj.mapSeq (fun _=>(#[]:Array Value)))=h2 at *
 have k2:∀ b o,s.heap.get? b=some o->h2.get? b=some o:=fun b o e=>by
  rw [← hh2,Heap.get?_update_other _ _ (Nat.ne_of_gt (Heap.lt_size e))];exact Heap.get?_push_of_some _ e
 have tn2:tn 0 h2:=Tn.keep _ _ _ t0 fun b _ o e=>k2 b o e;refine wpAny_bind (wpAny_letGo ?_);unfold Builtin.List.listExtendWith;obtain ⟨oI,eI,cI⟩:=Tn.ty _ _ tn2;refine wpAny_bind (wpAny_typeOf (s:={ s with heap:=h2 }) ⟨oI,eI,cI⟩ ?_);have h1:Builtin.List.listSameRef (.ref s.heap.objs.size) (.ref it)=false:=by simp [Builtin.List.listSameRef,hSI]
 rw [if_neg (by rw [h1,hTl,hTt];decide)];refine wpAny_bind (Tn.self _ 0 { s with heap:=h2 } _ _ tn2 ?_);refine wpAny_bind (wpAny_holding (Tn.hint _ 0 { s with heap:=h2 } _ _ tn2 fun room=>?_));dsimp only
 split
 .refine wpAny_bind (wpAny_rule ?_);refine wpAny_bind ?_;show wpAny _ X.A.in1.in1 (updateSeq s.heap.objs.size (·.push .none) >>= fun _=>updateSeq s.heap.objs.size (·.pop)) _ _ _;refine wpAny_bind (wpAny_updateSeq hS₂ rfl ?_);have hS₃:=Heap.get?_update_self (Obj.mapSeq (·.push Value.none)) hS₂ rfl;refine wpAny_updateSeq (hz:=by seq_fits) hS₃ rfl ?_;have hS₄:=Heap.get?_update_self (Obj.mapSeq (·.pop)) hS₃ rfl;refine wpAny_pure ⟨plainId_quiet F.plain_extend_loop _,loop _ _ hS₄ fun b o e=>?_⟩;rw [Heap.get?_update_other _ _ (Nat.ne_of_gt (Heap.lt_size e)),Heap.get?_update_other _ _ (Nat.ne_of_gt (Heap.lt_size e))];exact k2 b o e
 .exact wpAny_pure ⟨plainId_quiet F.plain_extend_loop _,loop _ _ hS₂ k2⟩
end
end L2
namespace L2
open PySem PySem.Spec PyProof.Rows
def SqB (b:Bool) (K:PySem.W.Frag) (H:Hp) (a:Addr) (xs:List V):Prop:=match b with
 |true=>sZ K H a xs
 |false=>rF K H a xs
theorem Inv.sqB {X:Cx} {pins:List (Addr×Obj)} {σ:St} {H:Hp} {s:Shared} {b:Bool} {a:Addr} {xs:List V} (I:Inv X pins σ H s) (h:SqB b X.K H a xs):∃ its:List Value,yX xs its/\SSq b s.heap a its.toArray/\xs.length<=sizeLine:=by
 cases b
 .obtain ⟨its,r,p,hz⟩:=I.list h;exact ⟨its,r,p.isList,hz⟩
 .obtain ⟨its,r,p,hz⟩:=I.tuple h;exact ⟨its,r,p,hz⟩
section
variable {a b : Bool} {z TI TO i1 i2 l1 l2 : Addr}
variable {X : Cx} {pins : List (Addr × Obj)} {σ : St} {H : Hp} {s : Shared}
end
end L2
namespace L3
open PySem PySem.Spec PyProof.Rows L2
structure Pr where
 prog:Program
 w:World
 K:yM
 mg:Str->Option Value
 base:Heap
abbrev Pr.at (q:Pr) (A:Around):Par:=⟨q.prog,q.w,q.K,q.mg,q.base,A⟩
def vQ (K:yM) (sp:vO):Sp:=fun vs H Q E=>∃ ws G,yY K H ws vs/\xI K H G/\sp ws G (vK K H Q) XN
def yJ (N:List Str) (ws:List W):jE:=ws.map some++List.replicate (N.length-ws.length) none
theorem zbN {K:yM} {H:Hp} {N:List Str} {ws:List W} {vs:List V} (r:yY K H ws vs):yH K H (yJ N ws) (L2.start N vs):=by
 have hl:=r.length;refine ⟨by simp [yJ,L2.start,hl],fun i w e=>?_⟩;unfold yJ at e;unfold L2.start
 by_cases hi:i<ws.length
 .rw [List.getElem?_append_left (by simpa using hi),List.getElem?_map] at e
  cases q:ws[i]? with
  |none=>rw [q] at e;cases e
  |some w' =>
   rw [q] at e;obtain rfl:w'=w:=Option.some.inj (Option.some.inj e);obtain ⟨v,ev,rp⟩:=r.get q;refine ⟨v,?_,rp⟩;rw [List.getElem?_append_left (by simp;omega),List.getElem?_map,ev];rfl
 .rw [List.getElem?_append_right (by simp;omega),List.getElem?_replicate] at e
  split at e<;>cases e
structure MOk (Γ:Ctx3) (M:MC) (sc:Scope):Prop where
 sc:M.sc=sc
 own:M.own=fun _=>true
 fns:Γ.fn.map (·.nm)=M.fns
 gls:Γ.gl.map (·.1)=M.gls
 mts:Γ.mt.map (·.nm)=M.mts
 its:Γ.it.map (·.nm)=M.its
 sxs:Γ.sx.map (·.m)=M.sxm
 ixs:Γ.ix.map (·.m)=M.ixm
def FnE (p:Par) (f:Fn3):Prop:=∀ X,Fits p X->Gl X f.nm->∀ (args:List Expr) (t:A3) (q pos:Pos),vN t->args.all wW=true->PA X args (sL X.K t)->(args=[]->∀ σ G Q,t σ G Q->Q [] G)->(f.nm==("__debug__" : Str))=false->f.nm ≠ "__name__" ->
  PE X (.Call (.Name f.nm q) args [] pos) (xY X.K fun σ G Q=>t σ G fun ws G1=>f.sp ws G1 Q XN)
theorem jO {e:Expr} {es:List Expr} {env:Env} {pos:Pos} (h:(e::es).all wW=true):starEach (e::es) env=(false,eval e env)::starEach es env/\(backTo pos (starEach es env)).any (·.1)=false:=by
 rw [List.all_cons,Bool.and_eq_true] at h;refine ⟨qB h.1,?_⟩;have h2:=h.2
 clear h
 induction es with
 |nil=>rfl
 |cons a r ih =>
  rw [List.all_cons,Bool.and_eq_true] at h2;rw [qB h2.1];show (false || (backTo pos (starEach r env)).any (·.1))=false;rw [ih h2.2];rfl
theorem Fits.eq {p:Par} {X:Cx} (f:Fits p X):p=⟨X.prog,X.w,X.K,X.mg,X.base,X.A⟩:=by
 obtain ⟨e1,e2,e3,e4,e5,e6,_,_⟩:=f;rw [e1,e2,e3,e4,e5,e6]
theorem pa_sp {X:Cx} {args:List Expr} {t:A3} {sp:vO} {dws:List W} {dvs:List V} (m:vN t) (hd:∀ H,yY X.K H dws dvs) (mono:∀ ws G (Q Q':Q3),(∀ w G',Q w G'->Q' w G')->sp ws G Q XN->sp ws G Q' XN) {τ:L2.St} {H:Hp} {Q:VK} {E:XK}
  (h:xY X.K (fun σ G Q=>t σ G fun ws G1=>sp (ws++dws) G1 Q XN) τ H Q):zfo (vQ X.K sp) dvs E (sL X.K t) τ H Q:=by
 obtain ⟨σ,G,hs,ab,h⟩:=h;refine gO m hs ab h fun ws G1 vs H1 g1 hs1 rs a1 h=>?_;exact ⟨ws++dws,G1,rs.append (hd H1),a1,mono _ _ _ _ (fun w G' z v' H' g'=>z v' H' (g1.trans g')) h⟩
theorem zfd {q:Pr} {k:Nat} {nm:Str} {f:Addr} {fd:FuncData} {ps:List Str} {ds:List Value} {dvs:List V} {dws:List W} {sp:vO} (FO:FnOk q.prog q.w q.K q.mg q.base CX0 k f fd ps (vQ q.K sp)) (hm:q.mg nm=some (.ref f)) (hk:PySem.W.keepIn q.K (.ref f)=true)
  (hb:vM q.K fd ps ds) (hd:∀ H,yY q.K H dws dvs) (hv:yX dvs ds) (mono:∀ ws G (Q Q':Q3),(∀ w G',Q w G'->Q' w G')->sp ws G Q XN->sp ws G Q' XN) {A:Around} (hr:Room k A):FnE (q.at A) ⟨nm,fun ws G Q _=>sp (ws++dws) G Q XN⟩:=by
 intro X fits gl args t qp pos mt hn pa hnil hdb hnm;have e:=fits.eq
 injection e with e1 e2 e3 e4 e5 e6
 subst e6;rw [e1,e2,e3,e4,e5] at FO;rw [e4] at hm;rw [e3] at hk hb hd
 cases args with
 |nil =>
  refine (zd7 (p:=qp) (pos:=pos) FO hr gl hm hk hb hv zfN hdb).imp fun τ H Q h=>?_;obtain ⟨σ,G,hs,ab,h⟩:=h;have h:=hnil rfl _ _ _ h;exact ⟨dws,G,hd H,ab,h⟩
 |cons a r =>
  obtain ⟨s1,s2⟩:=jO (env:=X.env) (pos:=pos) hn;exact (zfL (p:=qp) (pos:=pos) FO hr gl hm hk hb hv zfN pa hdb s1 s2).imp fun τ H Q h=>pa_sp (args:=a::r) mt hd mono h
end L3
namespace L3
open PySem PySem.Spec PyProof.Rows L2 PySem.SeqAt
abbrev RS:=List W->Hw->Q3->Prop
def wB (sp:RS):Prop:=∀ ws G (Q Q':Q3),(∀ w G',Q w G'->Q' w G')->sp ws G Q->sp ws G Q'
def tO (K:yM) (sp:RS):List V->Hp->VK->Prop:=fun vs H Q=>∃ ws G,yY K H ws vs/\xI K H G/\sp ws G (vK K H Q)
theorem bN {X:Cx} {t:A3} {sp:RS} (mt:vN t) (mono:wB sp) {τ:L2.St} {H:Hp} {Q:VK} (h:xY X.K (fun σ G Q=>t σ G fun ws G1=>sp ws G1 Q) τ H Q):tCB (tO X.K sp) (sL X.K t) τ H Q:=by
 obtain ⟨σ,G,hs,ab,h⟩:=h;exact gO mt hs ab h fun ws G1 vs H1 g1 hs1 rs a1 h=>⟨ws,G1,rs,a1,mono _ _ _ _ (fun w G' z v' H' g'=>z v' H' (g1.trans g')) h⟩
theorem tH {q:Pr} {A:Around} {nm:Str} {id:String} {sp:RS} (hm:q.mg nm=none) (hv:bootBuiltins nm=some (.builtin id)) (hc:∀ X,Fits (q.at A) X->jZ X (.builtin id) (tO X.K sp)) (mono:wB sp) (h0:∀ G Q,¬ sp [] G Q):FnE (q.at A) ⟨nm,fun ws G Q _=>sp ws G Q⟩:=by
 intro X fits gl args t qp pos mt hn pa hnil hdb hnm;have hm':X.mg nm=none:=by rw [fits.mg];exact hm
 cases args with
 |nil=>exact fun pins s σ H Q I h=>absurd (hnil rfl _ _ _ h.choose_spec.choose_spec.2.2) (h0 _ _)
 |cons a r =>
  obtain ⟨s1,s2⟩:=jO (env:=X.env) (pos:=pos) hn;exact (zd6 (p:=qp) (pos:=pos) (hc X fits) gl hm' hv pa hnm hdb s1 s2).imp fun τ H Q h=>bN mt mono h
theorem zgg {q:Pr} {A:Around} {nm:Str} {T:String} {sp:RS} (hm:q.mg nm=none) (hv:bootBuiltins nm=some (.type T)) (hc:∀ X,Fits (q.at A) X->jZ X (.type T) (tO X.K sp)) (mono:wB sp) (h0:∀ G Q,¬ sp [] G Q):FnE (q.at A) ⟨nm,fun ws G Q _=>sp ws G Q⟩:=by
 intro X fits gl args t qp pos mt hn pa hnil hdb hnm;have hm':X.mg nm=none:=by rw [fits.mg];exact hm
 cases args with
 |nil=>exact fun pins s σ H Q I h=>absurd (hnil rfl _ _ _ h.choose_spec.choose_spec.2.2) (h0 _ _)
 |cons a r =>
  obtain ⟨s1,s2⟩:=jO (env:=X.env) (pos:=pos) hn;exact (zcb (p:=qp) (pos:=pos) (hc X fits) gl hm' hv pa hnm hdb s1 s2).imp fun τ H Q h=>bN mt mono h
abbrev MS:=W->List W->Hw->Q3->Prop
def MtE (p:Par) (m:Mt3):Prop:=∀ X,Fits p X->∀ (o:Expr) (args:List Expr) (to:E3) (t:A3) (apos cpos:Pos),wA to->vN t->zdj o=true->(apos.endLine==cpos.line)=true->args.length<25->args.all wW=true ->
  PE X o (xY X.K to)->PA X args (sL X.K t)->(args=[]->∀ σ G Q,t σ G Q->Q [] G)->PE X (.Call (.Attribute o m.nm apos) args [] cpos) (xY X.K fun σ G Q=>to σ G fun x G1=>tyW G1 x m.T/\t σ G1 fun ws G2=>m.sp x ws G2 Q)
def lowM (K:yM) (sp:MS):V->List V->Hp->VK->Prop:=fun x vs H Q=>∃ w ws G,wJ K H w x/\yY K H ws vs/\xI K H G/\sp w ws G (vK K H Q)
theorem zew {args:List Expr} {env:Env} {pos:Pos} (h:args.all wW=true):(backTo pos (starEach args env)).all (fun x=>!x.1)=true:=by
 induction args with
 |nil=>rfl
 |cons a r ih =>
  rw [List.all_cons,Bool.and_eq_true] at h;rw [qB h.1];show (true&&(backTo pos (starEach r env)).all (fun x=>!x.1))=true;rw [ih h.2];rfl
theorem mV {p:Par} {nm:Str} {T id:String} {sp:MS} (pa:PlainAttrs T) (slot:Slot T nm id) (hty:typeOf (.builtin id)=pure (.type "method_descriptor")) (hm:∀ X,Fits p X->MtR X id (lowM X.K sp))
  (mono:∀ x ws G (Q Q':Q3),(∀ w G',Q w G'->Q' w G')->sp x ws G Q->sp x ws G Q'):MtE p ⟨nm,T,sp⟩:=by
 intro X fits o args to t apos cpos mo mt ho hline hlen hn po pa' hnil
 cases args with
 |nil =>
  refine (zhx pa slot hty (hm X fits) po (tE ho) hline).imp fun τ H Q h=>?_;obtain ⟨σ,G,hs,ab,h⟩:=h;refine xW mo hs ab h fun w G1 v H1 g1 hs1 rw1 a1 h=>⟨zeN rw1 a1 h.1,w,[],G1,rw1,rfl,a1,mono _ _ _ _ _ (fun w' G' z v' H' g'=>z v' H' (g1.trans g')) (hnil rfl _ _ _ h.2)⟩
 |cons a r =>
  obtain ⟨s1,s2⟩:=jO (env:=X.env) (pos:=cpos) hn;refine (pe_bm pa slot hty (hm X fits) po pa' (tE ho) ?_ hline s1 s2).imp fun τ H Q h=>?_
  .rw [zew hn]
   have:(a::r).length+([]:List Keyword).length+(if ([]:List Keyword).isEmpty then 0 else 1)<30:=by
    show (a::r).length+0+0<30;omega
   rw [decide_eq_true this];rfl
  .obtain ⟨σ,G,hs,ab,h⟩:=h;refine xW mo hs ab h fun w G1 v H1 g1 hs1 rw1 a1 h=>⟨zeN rw1 a1 h.1,?_⟩;exact gO mt hs1 a1 h.2 fun ws G2 vs H2 g2 hs2 rs a2 h=>⟨w,ws,G2,rw1.mono g2,rs,a2,mono _ _ _ _ _ (fun w' G' z v' H' g'=>z v' H' (g1.trans (g2.trans g'))) h⟩
def maxS:RS:=fun ws G Q=>match ws with
 | [.int i,.int j]=>Q (.int (if j > i then j else i)) G
 |_=>False
theorem dQ:wB maxS:=by
 intro ws G Q Q' k h;unfold maxS at h ⊢
 split at h
 .exact k _ _ h
 .exact h.elim
theorem zdQ {K:yM} {H:Hp} {a b:W} {vs:List V} (r:yY K H [a,b] vs):∃ x y,vs=[x,y]/\wJ K H a x/\wJ K H b y:=by
 obtain ⟨x,t,rfl,rx,y,t',rfl,ry,rt⟩:=r;cases (show t'=[] from rt);exact ⟨x,y,rfl,rx,ry⟩
theorem qY {K:yM} {H:Hp} {a:W} {vs:List V} (r:yY K H [a] vs):∃ x,vs=[x]/\wJ K H a x:=by
 obtain ⟨x,t,rfl,rx,rt⟩:=r;cases (show t=[] from rt);exact ⟨x,rfl,rx⟩
theorem zhJ {X:Cx} (hc:X.calm=true):jZ X (.builtin "max") (tO X.K maxS):=by
 intro pins s σ H xs us Q I r h;obtain ⟨ws,G,rs,ab,h⟩:=h;unfold maxS at h
 split at h
 .rename_i i j;obtain ⟨x,y,rfl,rx,ry⟩:=zdQ rs;cases (show x=.int i from rx);cases (show y=.int j from ry);exact zdd hc pins s σ H _ us Q I r ⟨i,j,rfl,h _ H .refl rfl ab⟩
 .exact h.elim
def tK (G:Hw):W->Option Nat
 | .str x=>if x.length<=sizeLine then some x.length else none
 | .tup ws=>some ws.length
 | .ref p=>match G p with
  |some (.lst ws)=>some ws.length
  |some (.fix ws)=>some ws.length
  |some (.dic kvs)=>some kvs.length
  |_=>none
 |_=>none
def tJ:RS:=fun ws G Q=>match ws with
 | [x]=>(match tK G x with|some n=>Q (.int n) G|none=>False)
 |_=>False
theorem dM:wB tJ:=by
 intro ws G Q Q' k h;unfold tJ at h ⊢
 split at h
 .split at h
  .exact k _ _ h
  .exact h.elim
 .exact h.elim
theorem zfW {X:Cx}:jZ X (.builtin "len") (fun xs H Q=>∃ a kvs,xs=[V.ref a]/\H a=some (.dK kvs)/\Q (.int kvs.length) H):=by
 intro pins s σ H xs us Q I r h;obtain ⟨a,kvs,rfl,ha,q⟩:=h;obtain ⟨u,rfl,ru⟩:=qZ r;cases ru;exact d_len I (.inl ha) fun t s' I'=>⟨.int kvs.length,H,I',⟨t,rfl⟩,q⟩
theorem zhM {X:Cx}:jZ X (.builtin "len") (tO X.K tJ):=by
 intro pins s σ H xs us Q I r h;obtain ⟨ws,G,rs,ab,h⟩:=h;unfold tJ at h
 split at h
 .rename_i w;obtain ⟨v,rfl,rv⟩:=qY rs
  split at h
  .rename_i n hn;have q:Q (.int n) H:=h (.int n) H .refl rfl ab
   cases w with
   |str x =>
    cases (show v=.str x from rv);simp only [tK] at hn
    split at hn
    .rename_i hl;cases hn;exact zad pins s σ H _ us Q I r ⟨x,rfl,hl,q⟩
    .cases hn
   |tup ws' =>
    obtain ⟨a,vs,rfl,sq,rr⟩:=rv;simp only [tK] at hn;cases hn;exact vW pins s σ H _ us Q I r ⟨a,vs,rfl,.inr sq,by rw [rr.length];exact q⟩
   |ref p =>
    cases (show v=.ref p from rv);simp only [tK] at hn
    split at hn
    .rename_i ws' e;cases hn;obtain ⟨vs,sq,rr⟩:=ab.seq (show yN G p=some ws' by unfold yN;rw [e]);exact vW pins s σ H _ us Q I r ⟨p,vs,rfl,.inl sq,by rw [rr.length];exact q⟩
    .rename_i ws' e;cases hn;obtain ⟨vs,sq,rr⟩:=ab.seq (show yN G p=some ws' by unfold yN;rw [e]);exact vW pins s σ H _ us Q I r ⟨p,vs,rfl,.inl sq,by rw [rr.length];exact q⟩
    .rename_i kvs e;cases hn;obtain ⟨l,e',rl⟩:=ab.dic e;exact zfW pins s σ H _ us Q I r ⟨p,l,rfl,e',by rw [rl.length];exact q⟩
    .cases hn
   |_=>simp [tK] at hn
  .exact h.elim
 .exact h.elim
def uE (G:Hw):W->Option (List W)
 | .tup ws=>some ws
 | .ref p=>yN G p
 |_=>none
def lstS:RS:=fun ws G Q=>match ws with
 | [x]=>(match uE G x with|some xs=>∀ p,G p=none->Q (.ref p) (put G p (.lst xs))|none=>False)
 |_=>False
theorem dP:wB lstS:=by
 intro ws G Q Q' k h;unfold lstS at h ⊢
 split at h
 .split at h
  .exact fun p hp=>k _ _ (h p hp)
  .exact h.elim
 .exact h.elim
theorem zbY {K:yM} {H:Hp} {G:Hw} {w:W} {v:V} {xs:List W} (ab:xI K H G) (r:wJ K H w v) (e:uE G w=some xs):∃ a vs b,v=.ref a/\SqB b K H a vs/\yY K H xs vs:=by
 cases w with
 |tup ws =>
  obtain ⟨a,vs,rfl,sq,rr⟩:=r;cases e;exact ⟨a,vs,true,rfl,sq,rr⟩
 |ref p =>
  cases (show v=.ref p from r);obtain ⟨vs,sq,rr⟩:=ab.seq e;exact ⟨p,vs,false,rfl,sq,rr⟩
 |_=>cases e
theorem zhL {X:Cx}:jZ X (.type "list") (tO X.K lstS):=by
 intro pins s σ H xs us Q I r h;obtain ⟨ws,G,rs,ab,h⟩:=h;unfold lstS at h
 split at h
 .rename_i w;obtain ⟨v,rfl,rv⟩:=qY rs
  split at h
  .rename_i ys hy;obtain ⟨a,vs,b,rfl,sq,rr⟩:=zbY ab rv hy;refine zac pins s σ H _ us Q I r ⟨a,vs,rfl,?_,qQ ab rr h⟩;cases b
   .exact .inl sq
   .exact .inr sq
  .exact h.elim
 .exact h.elim
def allS (f:List Bool->Bool):RS:=fun ws G Q=>match ws with
 | [.ref p]=>∃ bs:List Bool,yN G p=some (bs.map .bl)/\Q (.bl (f bs)) G
 |_=>False
theorem uI (f:List Bool->Bool):wB (allS f):=by
 intro ws G Q Q' k h;unfold allS at h ⊢
 split at h
 .obtain ⟨bs,e,h⟩:=h;exact ⟨bs,e,k _ _ h⟩
 .exact h.elim
theorem gR {K:yM} {H:Hp}:∀ {bs:List Bool} {vs:List V} {us:List Value},yY K H (bs.map .bl) vs->yX vs us->us=bs.map .bool
 | [],vs,us,r,v=>by cases (show vs=[] from r);cases v;rfl
 |b::bs,vs,us,r,v=>by
  obtain ⟨x,t,rfl,rx,rt⟩:=r;cases (show x=.bl b from rx)
  cases v with
  |cons a c =>
   cases (show _=Value.bool b from a);rw [gR rt c];rfl
theorem zdn (bs:List Bool):(List.range bs.length).all (fun i=>(bs[i]?).getD false)=bs.all id:=by
 rw [Bool.eq_iff_iff,List.all_eq_true,List.all_eq_true]
 constructor
 .intro h b hb;obtain ⟨i,hi,rfl⟩:=List.mem_iff_getElem.mp hb;have:=h i (List.mem_range.mpr hi)
  rwa [List.getElem?_eq_getElem hi] at this
 .intro h i hi;have hi:=List.mem_range.mp hi;rw [List.getElem?_eq_getElem hi];exact h _ (List.getElem_mem hi)
theorem zdm (bs:List Bool):(List.range bs.length).any (fun i=>(bs[i]?).getD false)=bs.any id:=by
 rw [Bool.eq_iff_iff,List.any_eq_true,List.any_eq_true]
 constructor
 .rintro ⟨i,hi,h⟩;have hi:=List.mem_range.mp hi;rw [List.getElem?_eq_getElem hi] at h;exact ⟨_,List.getElem_mem hi,h⟩
 .rintro ⟨b,hb,h⟩;obtain ⟨i,hi,rfl⟩:=List.mem_iff_getElem.mp hb;exact ⟨i,List.mem_range.mpr hi,by rw [List.getElem?_eq_getElem hi];exact h⟩
theorem za9 {X:Cx} (hc:X.calm=true) {pins:List (Addr×Obj)} {s:Shared} {σ:L2.St} {H:Hp} {G:Hw} {p:Addr} {bs:List Bool} (I:Inv X pins σ H s) (ab:xI X.K H G) (e:yN G p=some (bs.map .bl)) {A:Around} (hh:A.handled=none) {E:Value->Shared->Prop}
  {R:Value->Shared->Prop} (h:∀ (I':Addr) (s₂:Shared),Walks X.prog X.w A I' [I',p] [I'] bs.length (fun i v=>(bs.map Value.bool).toArray[i]?=some v) (fun i h=>h.IsListIter I' p i/\h.IsList p (bs.map Value.bool).toArray)->(s₂.heap.IsListIter I' p 0/\s₂.heap.IsList p (bs.map Value.bool).toArray) ->
   (∀ h' tk,(∀ b o,b∉[I']->s₂.heap.get? b=some o->h'.get? b=some o)->Inv X pins σ H { s₂ with heap:=h',toks:=tk })->R (.ref I') s₂):wpAny (model X.prog X.w) A (pyIter (.ref p)) R E s:=by
 obtain ⟨vs,sq,rr⟩:=ab.seq e;obtain ⟨its,rv,pl,hz⟩:=I.list sq;have eits:=gR rr rv;subst eits;have hl:=pl.isList;refine wpAny_pyIter_list hl ?_
 have hne:p≠s.heap.objs.size:=by
  obtain ⟨o,ho,_⟩:=hl;exact Nat.ne_of_lt (Heap.lt_size ho)
 have W:=Walks.list (prog:=X.prog) (w:=X.w) hh s.heap.objs.size p hne (bs.map Value.bool).toArray;have hn:(bs.map Value.bool).toArray.size=bs.length:=by simp
 rw [hn] at W;refine h _ _ W ⟨⟨_,Heap.get?_push_size _ rfl,rfl,rfl⟩,hl.push _⟩ fun h' tk k=>I.kept fun b o e=>k b o (fun hm=>?_) (Heap.get?_push_of_some _ e);rw [List.mem_singleton] at hm;exact Nat.ne_of_lt (Heap.lt_size e) hm
theorem zaH {P:Program} {w:World} {A:Around} {bs:List Bool}:TruthOf P w A (fun i v=>(bs.map Value.bool).toArray[i]?=some v) (fun i=>(bs[i]?).getD false):=by
 intro i v s Q E h q;have h':(bs[i]?).map Value.bool=some v:=by simpa using h
 cases e:bs[i]? with
 |none=>rw [e] at h';cases h'
 |some b =>
  rw [e] at h';cases h';have q':Q ((bs[i]?).getD false) s:=q;rw [e] at q';exact wpAny_truthy_bool q'
theorem ziz {X:Cx} (hc:X.calm=true):jZ X (.builtin "all") (tO X.K (allS (·.all id))):=by
 intro pins s σ H xs us Q I r h;obtain ⟨ws,G,rs,ab,h⟩:=h;unfold allS at h
 split at h
 .rename_i p;obtain ⟨v,rfl,rv⟩:=qY rs;cases (show v=.ref p from rv);obtain ⟨bs,e,h⟩:=h;obtain ⟨u,rfl,ru⟩:=qZ r;cases ru;refine call_all_walk (za9 hc I ab e (A:=X.A.in1) (I.ok.hd hc) fun I' s₂ W st k=>⟨I',_,_,_,_,_,_,rfl,W,st,zaH,fun h' tk hk=>?_⟩);rw [zdn];exact ⟨.bl (bs.all id),H,k h' tk hk,rfl,h _ H .refl rfl ab⟩
 .exact h.elim
theorem zix {X:Cx} (hc:X.calm=true):jZ X (.builtin "any") (tO X.K (allS (·.any id))):=by
 intro pins s σ H xs us Q I r h;obtain ⟨ws,G,rs,ab,h⟩:=h;unfold allS at h
 split at h
 .rename_i p;obtain ⟨v,rfl,rv⟩:=qY rs;cases (show v=.ref p from rv);obtain ⟨bs,e,h⟩:=h;obtain ⟨u,rfl,ru⟩:=qZ r;cases ru;refine call_any_walk (za9 hc I ab e (A:=X.A.in1) (I.ok.hd hc) fun I' s₂ W st k=>⟨I',_,_,_,_,_,_,rfl,W,st,zaH,fun h' tk hk=>?_⟩);rw [zdm];exact ⟨.bl (bs.any id),H,k h' tk hk,rfl,h _ H .refl rfl ab⟩
 .exact h.elim
def tyO (G:Hw):W->Option String
 | .non=>some "NoneType"
 | .bl _=>some "bool"
 | .int _=>some "int"
 | .str _=>some "str"
 | .tup _=>some "tuple"
 | .ref p=>match G p with
  |some (.lst _)=>some "list"
  |some (.fix _)=>some "list"
  |some (.dic _)=>some "dict"
  |_=>none
 |_=>none
def gC:MS:=fun x ws G Q=>match x,ws with
 | .ref p,[]=>(match G p with
  |some (.lst xs)=>(match xs[xs.length-1]? with|some y=>Q y (put G p (.lst xs.dropLast))|none=>False)
  |_=>False)
 |_,_=>False
theorem dW:∀ x ws G (Q Q':Q3),(∀ w G',Q w G'->Q' w G')->gC x ws G Q->gC x ws G Q':=by
 intro x ws G Q Q' k h;unfold gC at h ⊢
 split at h
 .split at h
  .split at h
   .exact k _ _ h
   .exact h.elim
  .exact h.elim
 .exact h.elim
theorem zhk {X:Cx}:MtR X "list.pop" (lowM X.K gC):=by
 intro pins s σ H x xs v us Q I rx rxs h;obtain ⟨w,ws,G,rw1,rs,ab,h⟩:=h;unfold gC at h
 split at h
 .rename_i p;cases (show x=.ref p from rw1);cases (show xs=[] from rs)
  split at h
  .rename_i ys e
   split at h
   .rename_i y ey;obtain ⟨vs,ev,rr⟩:=ab.lst e;obtain ⟨vy,evy,ry⟩:=rr.get ey;have gr:yF X.K H (xE H p (.lst vs.dropLast)):=ab.grow e;exact zhG pins s σ H _ _ v us Q I rx rxs ⟨p,vs,vy,rfl,rfl,ev,by rw [rr.length];exact evy,h vy _ gr (ry.mono gr) (ab.chg e ⟨_,rfl,rr.dropLast.mono gr⟩)⟩
   .exact h.elim
  .exact h.elim
 .exact h.elim
def fO:MS:=fun x ws G Q=>match x,ws with
 | .ref p,[y]=>(match G p with
  |some (.lst xs)=>xs.length<sizeLine/\Q .non (put G p (.lst (xs++[y])))
  |_=>False)
 |_,_=>False
theorem cJ:∀ x ws G (Q Q':Q3),(∀ w G',Q w G'->Q' w G')->fO x ws G Q->fO x ws G Q':=by
 intro x ws G Q Q' k h;unfold fO at h ⊢
 split at h
 .split at h
  .exact ⟨h.1,k _ _ h.2⟩
  .exact h.elim
 .exact h.elim
theorem ziw {X:Cx}:MtR X "list.append" (lowM X.K fO):=by
 intro pins s σ H x xs v us Q I rx rxs h;obtain ⟨w,ws,G,rw1,rs,ab,h⟩:=h;unfold fO at h
 split at h
 .rename_i p y;cases (show x=.ref p from rw1);obtain ⟨vy,rfl,ry⟩:=qY rs
  split at h
  .rename_i ys e;obtain ⟨vs,ev,rr⟩:=ab.lst e;have gr:yF X.K H (xE H p (.lst (vs++[vy]))):=ab.grow e;exact zco pins s σ H _ _ v us Q I rx rxs ⟨p,vs,vy,rfl,rfl,ev,by rw [rr.length];exact h.1,h.2 .non _ gr (show wJ X.K _ .non .non from rfl) (ab.chg e ⟨_,rfl,(rr.append (show yY X.K H [y] [vy] from ⟨vy,[],rfl,ry,rfl⟩)).mono gr⟩)⟩
  .exact h.elim
 .exact h.elim
theorem zh7 {K:yM} {H1:Hp} {n:Nat}:ItIs K (Itr 0 n) H1 ((List.range n).map fun i=>W.int (i:Nat)) (fun _=>True) where
 go:=fun i H G _ ab st hi=>by show i<n;simpa using hi
 yld:=fun i H G x H' _ ab st hi y=>by
  obtain ⟨rfl,rfl⟩:=y;have hi':i<n:=by simpa using hi
  refine ⟨.int (i:Nat),by simp [hi'],.refl,?_,ab⟩;show V.int (0+(i:Int))=V.int (i:Int);rw [Int.zero_add]
 stop:=fun i H G _ ab st hi=>by show n<=i;simpa using hi
def ItE (p:Par) (i:It3):Prop:=∀ X,Fits p X->Gl X i.nm->∀ (tg:Expr) (args:List Expr) (t:A3) (q pos:Pos),vN t->args.all wW=true->PA X args (sL X.K t)->(args=[]->∀ σ G Q,t σ G Q->Q [] G)->(i.nm==("__debug__" : Str))=false->i.nm ≠ "__name__" ->
  PI X tg (.Call (.Name i.nm q) args [] pos) (lowI X.K fun σ G R=>t σ G fun ws G1=>i.sp ws G1 R)
def lofM (nm:Str):Scope->Expr->Option (List Expr):=fun sc e=>match e with
 | .Call (.Name o _) [.Call (.Name x _) xs [] _] [] _=>if o==("list" : Str)&&x==nm&&tI sc o&&tI sc x&&!xs.isEmpty then some xs else none
 |_=>none
theorem zeg {nm:Str} {sc:Scope} {e:Expr} {xs:List Expr} (h:lofM nm sc e=some xs):∃ qo q pos pos' a r,xs=a::r/\e=.Call (.Name "list" qo) [.Call (.Name nm q) (a::r) [] pos] [] pos'/\tI sc "list" = true/\tI sc nm=true:=by
 have no:¬ ((none:Option (List Expr))=some xs):=fun e=>nomatch e
 cases e with
 |Call f args kws pos' =>
  cases f with
  |Name o qo =>
   cases args with
   |nil=>exact absurd h no
   |cons c rest =>
    cases c with
    |Call g ys kw2 pos =>
     cases g with
     |Name x q =>
      cases kw2 with
      |nil =>
       cases rest with
       |nil =>
        cases kws with
        |nil =>
         replace h:(if (o==("list" : Str)&&x==nm&&tI sc o&&tI sc x&&!ys.isEmpty)=true then some ys else none)=some xs:=h
         by_cases hb:(o==("list" : Str)&&x==nm&&tI sc o&&tI sc x&&!ys.isEmpty)=true
         .rw [if_pos hb] at h;cases h;simp only [Bool.and_eq_true,beq_iff_eq,Bool.not_eq_true',List.isEmpty_eq_false_iff] at hb;obtain ⟨⟨⟨⟨rfl,rfl⟩,h1⟩,h2⟩,h3⟩:=hb
          cases xs with
          |nil=>exact absurd rfl h3
          |cons a r=>exact ⟨qo,q,pos,pos',a,r,rfl,rfl,h1,h2⟩
         .rw [if_neg hb] at h;exact absurd h no
        |cons _ _=>exact absurd h no
       |cons _ _=>exact absurd h no
      |cons _ _=>exact absurd h no
     |_=>exact absurd h no
    |_=>exact absurd h no
  |_=>exact absurd h no
 |_=>exact absurd h no
def SxE (p:Par) (k:Sx3):Prop:=∀ X,Fits p X->∀ (e:Expr) (xs:List Expr) (es:List E3),k.m X.env.scope e=some xs->cG X xs es->xs.all wW=true->PA X xs (sL X.K (nI es)) ->
  PE X e (xY X.K fun σ G Q=>nI es σ G fun ws G1=>k.sp ws G1 Q)/\(∀ whole,isTrue e X.env whole=(do let v ← whole;standAt e.pos;holding [v] (truthy v)))/\∀ op vs pos,e≠.BoolOp op vs pos
theorem rJ {X:Cx}:∀ {xs:List Expr} {es:List E3},cG X xs es->vN (nI es)
 | [],[],_=>fun σ G Q Q' k h=>k _ _ h
 |_::_,_::_,⟨m,_,r⟩=>fun σ G Q Q' k h=>m σ G _ _ (fun x G1 h=>rJ r σ G1 _ _ (fun xs G2 h=>k _ _ h) h) h
theorem zgX {q:Pr} {A:Around} {nm:Str} {T:String} {sp:RS} (hl:q.mg "list" = none) (hm:q.mg nm=none) (hv:bootBuiltins nm=some (.type T)) (mono:wB sp)
  (hc:∀ X,Fits (q.at A) X->∀ (pins:List (Addr×Obj)) (s:Shared) (σ:L2.St) (H:Hp) (vs:List V) (us:List Value) (Q:VK),Inv X pins σ H s->yX vs us->tO X.K sp vs H Q ->
   wpAny (model X.prog X.w) X.A (call (.type T) us) (fun v s1=>wpAny (model X.prog X.w) X.A (call (.type "list") [v]) (EP X pins σ Q) X.xe s1) X.xe s):SxE (q.at A) ⟨lofM nm,sp⟩:=by
 intro X fits e xs es he each hn pa;obtain ⟨qo,qq,pos,pos',a,r,rfl,rfl,g1,g2⟩:=zeg he;obtain ⟨gl1,d1,n1⟩:=dB rfl g1;obtain ⟨gl2,d2,n2⟩:=dB rfl g2;have hl':X.mg "list" = none:=by rw [fits.mg];exact hl
 have hm':X.mg nm=none:=by rw [fits.mg];exact hm
 refine ⟨fun pins s σ H Q I h=>?_,fun _=>rfl,fun _ _ _ z=>nomatch z⟩;obtain ⟨s1,s2⟩:=jO (env:=X.env) (pos:=pos) hn;have h':=bN (rJ each) mono h;refine wpAny_Call_Name_kw (rN I gl1 hl' boot_list ?_ n1 d1);refine PyProof.Rows.callWith_type1 (e:=.Call (.Name nm qq) (a::r) [] pos) (rest:=[]) ?_ rfl rfl;show wpAny _ _ (spliced ((false,eval (.Call (.Name nm qq) (a::r) [] pos) X.env)::backTo pos' (starEach [] X.env))) _ _ s;refine Calls.spliced_cons (wpAny_Call_Name_kw (rN I gl2 hm' hv (PyProof.Rows.callWith_type1 (yB (pa pos pins s σ H _ I h') fun us s1 ⟨vs,H1,I1,r1,q1⟩=>?_) s1 s2) n2 d2));exact yB (hc X fits pins s1 σ H1 vs us Q I1 r1 q1) fun v s2 z=>Calls.spliced_nil z
def Itv (K:yM) (a:Addr) (n:Nat):It where
 go:=fun i H=>∃ xs,rF K H a xs/\xs.length=n/\i<n
 yld:=fun i H v H'=>H'=H/\∀ xs,rF K H a xs->xs.length=n->xs[n-1-i]?=some v
 stop:=fun i H=>i=n
theorem zbn:typeLookup (.type "list_reverseiterator") "__len__" = pure none:=by rw [typeLookup_type,builtinLookup_eq_fast];kernel_rfl
theorem zef:typeLookup (.type "list_reverseiterator") "__length_hint__" = pure (some (.builtin "list_reverseiterator.__length_hint__")):=by rw [typeLookup_type,builtinLookup_eq_fast];kernel_rfl
theorem zfr {P:Program} {w:World} {A:Around} {it a:Addr} {i:Int} {s:Shared} {Q:Bool->Shared->Prop} {E:Value->Shared->Prop} (st:s.heap.IsRevIter it a i) (h:∀ b,Q b s):wpAny (model P w) A (Builtin.List.listLengthHint (.ref it)) Q E s:=by
 have hT:=st.typeIs;unfold Builtin.List.listLengthHint;refine wpAny_bind (wpAny_specialOf hT zbn ?_);show wpAny _ _ (specialOf (Value.ref it) (Str.ofString "__length_hint__") >>= _) _ _ _;refine wpAny_bind (wpAny_specialOf hT zef ?_)
 (generalize hid:("list_reverseiterator.__length_hint__" : String)=id0;(fail_if_success (clear hid id0));wp_delta;rw [show splitId id0=some ("list_reverseiterator", "__length_hint__") from by subst hid;decide +kernel];subst hid)
 refine wpAny_bind (wpAny_isInstance (b:=true) hT (by rw [isSubtype_type];kernel_rfl) ?_);exact wpAny_pure (h _)
theorem zdN (P:Program) (w:World) (K:yM) {it a:Addr} {n:Nat} (hne:a≠it):TurnL P w K "list_reverseiterator" (Itv K a n) [it] it (fun i h=>i<=n/\h.IsRevIter it a ((n:Int)-1-i)) where
 mem:=by simp
 ty:=fun i h ⟨_,o,ho,hc,_⟩=>⟨o,ho,hc⟩
 obj:=fun i h ⟨_,o,ho,hc,hd⟩ b hb=>by
  rw [List.mem_singleton] at hb;subst hb;exact ⟨o,ho,fun v z=>by rw [hd] at z;cases z⟩
 keep:=fun i h h' ⟨hi,x⟩ k=>⟨hi,x.at fun o e=>k it (by simp) o e⟩
 item:=by
  intro X e1 e2 e3 hc i pins s σ H E I hf st go;subst e1;subst e2;subst e3;obtain ⟨hi,st⟩:=st;obtain ⟨xs,sq,ln,hlt⟩:=go;obtain ⟨its,rv,pl,hz⟩:=I.list sq;have hlx:n-1-i<xs.length:=by omega
  obtain ⟨u,eu,ru⟩:=rv.get (List.getElem?_eq_getElem hlx);have e:(n:Int)-1-(i:Int)=((n-1-i:Nat):Int):=by omega
  rw [e] at st;refine wpAny_pyNext_rev_item st pl.isList (x:=u) (by simpa using eu) fun h' st' sb=>?_;have e':((n-1-i:Nat):Int)-1=(n:Int)-1-((i+1:Nat):Int):=by omega
  rw [e'] at st';obtain ⟨f1,f2,f3,f4,f5,f6⟩:=hf it (by simp);refine ⟨u,xs[n-1-i],H,rfl,I.turned (t':=s.toks) (fun b o hb e=>sb.extBut b o hb e) f1 f2 f4 f5 f6,ru,⟨rfl,fun ys sq' _=>by rw [I.list_inj sq' sq];exact List.getElem?_eq_getElem hlx⟩,⟨hlt,st'⟩,fun b hb=>(hf b hb).1⟩
 done:=by
  intro X e1 e2 e3 hc i pins s σ H E I hf st stop;subst e1;subst e2;subst e3;obtain ⟨hi,st⟩:=st;have hin:i=n:=stop;subst hin;have e:(i:Int)-1-(i:Int)=-1:=by omega
  rw [e] at st;obtain ⟨f1,f2,f3,f4,f5,f6⟩:=hf it (by simp);exact wpAny_pyNext_rev_end (I.ok.hd hc) st fun h' k=>⟨rfl,I.turned (t':=s.toks) (fun b o hb e=>k b o hb e) f1 f2 f4 f5 f6⟩
 self:=fun A i s Q E st h=>wpAny_pyIter_revIter st.2 h
 hint:=fun A i s Q E st h=>zfr st.2 h
def revS:RS:=fun ws G Q=>match ws with
 | [.ref p]=>∃ xs,yN G p=some xs/\∀ r,G r=none->Q (.ref r) (put G r (.lst xs.reverse))
 |_=>False
theorem dZ:wB revS:=by
 intro ws G Q Q' k h;unfold revS at h ⊢
 split at h
 .obtain ⟨xs,e1,h⟩:=h;exact ⟨xs,e1,fun p hp=>k _ _ (h p hp)⟩
 .exact h.elim
theorem zg9 {X:Cx} (hc:X.calm=true) (pins:List (Addr×Obj)) (s:Shared) (σ:L2.St) (H:Hp) (vs:List V) (us:List Value) (Q:VK) (I:Inv X pins σ H s) (r:yX vs us) (h:tO X.K revS vs H Q) :
  wpAny (model X.prog X.w) X.A (call (.type "reversed") us) (fun v s1=>wpAny (model X.prog X.w) X.A (call (.type "list") [v]) (EP X pins σ Q) X.xe s1) X.xe s:=by
 obtain ⟨ws,G,rs,ab,h⟩:=h;unfold revS at h
 split at h
 .rename_i p;obtain ⟨v,rfl,rv⟩:=qY rs;cases (show v=.ref p from rv);obtain ⟨u,rfl,ru⟩:=qZ r;cases (show u=Value.ref p from ru);obtain ⟨xs,e,h⟩:=h;obtain ⟨vs,sq,rr⟩:=ab.seq e;obtain ⟨its,vv,pl,hz⟩:=I.list sq;have hl:=pl.isList
  have hlt:p<s.heap.objs.size:=by
   obtain ⟨o,ho,_⟩:=hl;exact Heap.lt_size ho
  refine call_reversed_list hl ?_;have I1:Inv X pins σ H { s with heap:=s.heap.push (revObj p ((its.toArray.size:Int)-1)),toks:=s.toks }:=I.kept fun b u e=>Heap.get?_push_of_some _ e;have en:its.toArray.size=vs.length:=by rw [zzS,← vv.length]
  refine zct hc (by decide) (by decide) I1 (zdN X.prog X.w X.K (n:=vs.length) (Nat.ne_of_lt hlt)) ⟨Nat.zero_le _,?_⟩ (fun b hb=>?_) vs.length hz
   (fun i acc H'=>H'=H/\acc=vs.reverse.take i) ⟨rfl,by simp⟩ ?_ ?_
  .refine ⟨_,Heap.get?_push_size _ rfl,rfl,?_⟩;show Data.fields #[.ref p,rawInt ((its.toArray.size:Int)-1)]=_;rw [en];simp
  .rw [List.mem_singleton] at hb;subst hb;exact I.fpOk (zzR _) (I.hok.fresh (zzR _))
  .rintro i acc H' hi ⟨rfl,rfl⟩;refine ⟨⟨vs,sq,rfl,hi⟩,?_⟩;rintro v H2 ⟨rfl,e2⟩;refine ⟨rfl,?_⟩;have e2:=e2 vs sq rfl;have hl':i<vs.reverse.length:=by simpa using hi
   rw [List.take_succ_eq_append_getElem hl'];congr 2;have:vs.reverse[i]?=some v:=by rw [List.getElem?_reverse hi];exact e2
   exact (Option.some.inj ((List.getElem?_eq_getElem hl').symm.trans this)).symm
  .rintro acc H' ⟨rfl,rfl⟩;refine ⟨rfl,?_⟩;rw [List.take_of_length_le (by simp)];exact qQ ab rr.reverse h
 .exact h.elim
end L3
namespace L3
open PySem PySem.Spec PyProof.Rows L2
def zK (S:List Addr) (G G':Hw):Prop:=∀ a o,a∉S->G a=some o->G' a=some o
theorem zK.refl {S:List Addr} {G:Hw}:zK S G G:=fun _ _ _ h=>h
theorem zK.trans {S:List Addr} {G G1 G2:Hw} (a:zK S G G1) (b:zK S G1 G2):zK S G G2:=fun x o hx h=>b x o hx (a x o hx h)
theorem zK.put {S:List Addr} {G:Hw} {p:Addr} {o:O} (h:p∈S):zK S G (put G p o):=fun x u hx hu=>by
 rw [xR (fun e:x=p=>hx (e▸h))];exact hu
theorem zK.new {S:List Addr} {G:Hw} {p:Addr} {o:O} (h:G p=none):zK S G (L3.put G p o):=fun x u hx hu=>by
 rw [xR (dC hu h)];exact hu
theorem zK.none {S:List Addr} {G G':Hw} {p:Addr} (k:zK S G G') (hp:p∉S) (h:G' p=Option.none):G p=Option.none:=by
 cases e:G p with
 |none=>rfl
 |some o=>rw [k p o hp e] at h;cases h
abbrev kS:yE:=.inr "seed"
abbrev kN:yE:=.inr "number"
abbrev kL:yE:=.inr "left"
def zin (seed num:Int) (l:Addr):O:=.dic [(kS,.int seed),(kN,.int num),(kL,.ref l)]
structure DealS (G:Hw) (d l:Addr) (seed num:Int) (left:List Int):Prop where
 dic:G d=some (zin seed num l)
 lst:G l=some (.lst (left.map .int))
 s0:0<=seed
 s1:seed<2147483647
 n0:0<=num
 lf:∀ x∈left,(0:Int)<=x
 len:left.length<=63
 ne:d≠l
def xO (G:Hw) (d l:Addr):Prop:=∃ seed num left,DealS G d l seed num left
theorem dgS {a b c:W}:tG [(kS,a),(kN,b),(kL,c)] kS=some a:=by rfl
theorem dgN {a b c:W}:tG [(kS,a),(kN,b),(kL,c)] kN=some b:=by
 have e1:¬ (kS=kN):=by decide +kernel
 unfold tG;rw [List.find?_cons_of_neg (by simp [e1]),List.find?_cons_of_pos (by simp)];rfl
theorem dgL {a b c:W}:tG [(kS,a),(kN,b),(kL,c)] kL=some c:=by
 have e1:¬ (kS=kL):=by decide +kernel
 have e2:¬ (kN=kL):=by decide +kernel
 unfold tG;rw [List.find?_cons_of_neg (by simp [e1]),List.find?_cons_of_neg (by simp [e2]),List.find?_cons_of_pos (by simp)];rfl
theorem dpN {a b c x:W}:fR [(kS,a),(kN,b),(kL,c)] kN x=[(kS,a),(kN,x),(kL,c)]:=by
 unfold fR;have e1:¬ (kS=kN):=by decide +kernel
 have e2:¬ (kL=kN):=by decide +kernel
 simp [e1,e2]
theorem dpS {a b c x:W}:fR [(kS,a),(kN,b),(kL,c)] kS x=[(kS,x),(kN,b),(kL,c)]:=by
 unfold fR;have e1:¬ (kN=kS):=by decide +kernel
 have e2:¬ (kL=kS):=by decide +kernel
 simp [e1,e2]
def zir:ISs:=(.cons (.whl (.and (.cmp .Eq (.ix (.var 0) (.con (.str "number"))) (.con (.int 0))) (.cmp .Gt (.call 1 (.cons (.ix (.var 0) (.con (.str "left"))) .nil)) (.con (.int 0)))) (.cons (.asgI (.var 0) (.con (.str "number")) (.mth 0 (.ix (.var 0) (.con (.str "left"))) .nil))
 .nil))
 (.cons (.asg 2 (.ix (.var 0) (.con (.str "number"))))
 (.cons (.ite (.cmp .Gt (.var 2) (.con (.int 0))) (.cons (.asgI (.var 0) (.con (.str "number")) (.bin .FloorDiv (.var 2) (.var 1)))
 (.cons (.ret (.bin .Mod (.var 2) (.var 1)))
 .nil)) .nil)
 (.cons (.asg 3 (.bin .Mod (.bin .Add (.bin .Mult (.ix (.var 0) (.con (.str "seed"))) (.con (.int 48271))) (.con (.int 7919))) (.con (.int 2147483647))))
 (.cons (.asgI (.var 0) (.con (.str "seed")) (.bin .Mod (.bin .Add (.bin .Mult (.var 3) (.con (.int 40692))) (.con (.int 104729))) (.con (.int 2147483399))))
 (.cons (.asg 4 (.bin .Mod (.bin .Mult (.ix (.var 0) (.con (.str "seed"))) (.ix (.var 0) (.con (.str "seed")))) (.con (.int 2147483563))))
 (.cons (.ret (.bin .Mod (.bin .Add (.bin .Mult (.bin .Mod (.bin .Mult (.var 3) (.var 3)) (.con (.int 2147483629))) (.con (.int 2147483563))) (.var 4)) (.var 1)))
 .nil)))))))
abbrev fS:Fn3:=⟨"len", fun ws G Q _=>tJ ws G Q⟩
abbrev ePop:Mt3:=⟨"pop", "list", gC⟩
theorem DealS.put {G:Hw} {d l:Addr} {seed num:Int} {left:List Int} (D:DealS G d l seed num left) {seed' num':Int} (h1:0<=seed') (h2:seed' < 2147483647) (h3:0<=num'):DealS (put G d (zin seed' num' l)) d l seed' num' left :=
 ⟨zV,by rw [xR D.ne.symm];exact D.lst,h1,h2,h3,D.lf,D.len,D.ne⟩
theorem zbt {i j:Int}:jK (.int i) (.int j)=decide (i=j):=by
 simp [jK,Bool.beq_eq_decide_eq]
theorem jH {G:Hw} {i j:Int}:eqG G (.int i) (.int j)=some (decide (i=j)):=by
 simp [eqG,jD,dep,zbt]
theorem zec {left:List Int}:(left.map W.int)[left.length-1]?=(left[left.length-1]?).map W.int:=by simp
theorem modb {a m:Int} (h:0<m):0<=a % m/\a % m<m:=⟨Int.emod_nonneg _ (by omega),Int.emod_lt_of_pos _ h⟩
theorem cT {d l:Addr} {m:Int} {G G1:Hw} {Q:Q3} {seed num:Int} {left:List Int} (D:DealS G1 d l seed num left) (kp:zK [d,l] G G1) (hm:0<m/\m<1073741824) (few:∀ {a b c:W},[(kS,a),(kN,b),(kL,c)].length<sizeLine)
  (hq:∀ r G',0<=r->r<m->zK [d,l] G G'->xO G' d l->Q (.int r) G'):if decide (0<num)=true then
   CDiv num m/\[(kS,W.int seed),(kN,W.int num),(kL,W.ref l)].length<sizeLine/\0<m/\Q (W.int (num % m)) (put G1 d (O.dic [(kS,W.int seed),(kN,W.int (num / m)),(kL,W.ref l)]))
  else
   gL seed 48271/\(0:Int)<2147483647/\gL ((seed * 48271+7919) % 2147483647) 40692/\(0:Int)<2147483399/\[(kS,W.int seed),(kN,W.int num),(kL,W.ref l)].length<sizeLine /\
   gL (((seed * 48271+7919) % 2147483647 * 40692+104729) % 2147483399) (((seed * 48271+7919) % 2147483647 * 40692+104729) % 2147483399)/\(0:Int)<2147483563 /\
   gL ((seed * 48271+7919) % 2147483647) ((seed * 48271+7919) % 2147483647)/\(0:Int)<2147483629 /\
   gL ((seed * 48271+7919) % 2147483647 * ((seed * 48271+7919) % 2147483647) % 2147483629) 2147483563/\0<m /\
   Q (W.int (((seed * 48271+7919) % 2147483647 * ((seed * 48271+7919) % 2147483647) % 2147483629 * 2147483563+((seed * 48271+7919) % 2147483647 * 40692+104729) % 2147483399 * (((seed * 48271+7919) % 2147483647 * 40692+104729) % 2147483399) % 2147483563) % m))
    (put G1 d (O.dic [(kS,W.int (((seed * 48271+7919) % 2147483647 * 40692+104729) % 2147483399)),(kN,W.int num),(kL,W.ref l)])):=by
 split
 .exact ⟨hm,few,hm.1,hq _ _ (modb hm.1).1 (modb hm.1).2 (kp.trans (zK.put (by simp))) ⟨seed,num / m,left,D.put D.s0 D.s1 (Int.ediv_nonneg D.n0 (by omega))⟩⟩
 .have b1:=modb (a:=seed * 48271+7919) (m:=2147483647) (by decide);generalize (seed * 48271+7919) % 2147483647=x at b1 ⊢;have b2:=modb (a:=x * 40692+104729) (m:=2147483399) (by decide);generalize (x * 40692+104729) % 2147483399=y at b2 ⊢;refine ⟨.inr ⟨by decide,by decide⟩,by decide,.inr ⟨by decide,by decide⟩,by decide,few,.inl ⟨by omega,by omega⟩,by decide,.inl ⟨by omega,by omega⟩,by decide,.inr ⟨by decide,by decide⟩,hm.1,?_⟩;exact hq _ _ (modb hm.1).1 (modb hm.1).2 (kp.trans (zK.put (by simp))) ⟨y,num,left,D.put b2.1 (by omega) D.n0⟩
theorem zeB {Γ:Ctx3} (h1:Γ.fn[1]?=some fS) (h2:Γ.mt[0]?=some ePop) {d l:Addr} {m:Int} {G:Hw} {Q:Q3} {nx:jE->Hw->Prop} (D:xO G d l) (hm:0<m/\m<1073741824)
  (hq:∀ r G',0<=r->r<m->zK [d,l] G G'->xO G' d l->Q (.int r) G'):zE Γ XN zir { nx:=nx,rt:=Q } [some (.ref d),some (.int m),none,none,none] G:=by
 obtain ⟨seed,num,left,D⟩:=D;dsimp only [zir,zE,zS,zU,zO,zG,zC,zA,yZ,zQ,zX,zL,List.getElem?_cons_zero,List.getElem?_cons_succ,List.set_cons_zero,List.set_cons_succ];simp only [h1,h2];refine ⟨fun k σ G'=>σ=[some (.ref d),some (.int m),none,none,none]/\zK [d,l] G G'/\∃ num left,k=left.length/\DealS G' d l seed num left,⟨_,rfl,.refl,num,left,rfl,D⟩,?_⟩;rintro k σ G1 ⟨rfl,kp,num,left,rfl,D⟩;have hd:G1 d=some (.dic [(kS,.int seed),(kN,.int num),(kL,.ref l)]):=D.dic;have hl:G1 l=some (.lst (left.map .int)):=D.lst;have hds:∀ o,(put G1 d o) d=some o:=fun o=>zV;have hdl:∀ o,(put G1 l o) d=some (.dic [(kS,.int seed),(kN,.int num),(kL,.ref l)]):=fun o=>by rw [xR D.ne];exact hd
 have few:∀ {a b c:W},[(kS,a),(kN,b),(kL,c)].length<sizeLine:=by intros;show 3<sizeLine;rw [sizeLine_eq];decide
 simp only [List.getElem?_cons_zero,List.getElem?_cons_succ,List.set_cons_zero,List.set_cons_succ,vP,hd,pT,dgN,dgL,dgS,zD,jH,zB,tJ,tK,hl,zzM,tyW,gC,sR,zec,setR,hdl,hds,dpN,dpS,xB]
 by_cases hn:num=0
 .simp only [decide_eq_true hn,if_true]
  by_cases hlen:(0:Int)<(left.length:Int)
  .simp only [decide_eq_true hlen,if_true];have hlast:left.length-1<left.length:=by omega
   rw [List.getElem?_eq_getElem hlast];simp only [Option.map_some];refine ⟨trivial,few,left.dropLast.length,by rw [List.length_dropLast];omega,trivial,?_,left[left.length-1],left.dropLast,rfl,?_⟩
   .exact (kp.trans (zK.put (by simp))).trans (zK.put (by simp))
   .refine ⟨zV,?_,D.s0,D.s1,D.lf _ (List.getElem_mem hlast),fun x hx=>D.lf x (List.dropLast_subset _ hx),by have:=D.len;rw [List.length_dropLast];omega,D.ne⟩;rw [xR D.ne.symm,zV,List.map_dropLast]
  .simp only [decide_eq_false hlen,zzB,if_false];exact cT D kp hm few hq
 .simp only [decide_eq_false hn,zzB,if_false];exact cT D kp hm few hq
theorem zcu {items:List W} {stab:Hw->Prop} {G1:Hw} {turn:W->Hw->(Option W->Hw->Prop)->Prop} {Q:Q3} (f:W->Option W) (hs:stab G1) (hl:items.length<=sizeLine) (ht:∀ w∈items,∀ K:Option W->Hw->Prop,K (f w) G1->turn w G1 K)
  (hq:∀ p,G1 p=none->Q (.ref p) (put G1 p (.lst (items.filterMap f)))):lcR items stab G1 turn Q:=by
 refine ⟨fun i acc G=>G=G1/\acc=(items.take i).filterMap f,⟨rfl,by simp⟩,?_,hl,?_,?_⟩
 .rintro i acc G ⟨rfl,rfl⟩ hi;refine ⟨hs,Nat.le_trans (List.length_filterMap_le _ _) ?_⟩;rw [List.length_take];omega
 .rintro i w acc G hi ⟨rfl,rfl⟩;have hlt:i<items.length:=(List.getElem?_eq_some_iff.mp hi).1;have hw:items[i]=w:=(List.getElem?_eq_some_iff.mp hi).2;refine ht w (List.mem_of_getElem? hi) _ ?_;have et:items.take (i+1)=items.take i++[w]:=by rw [List.take_succ_eq_append_getElem hlt,hw]
  cases e:f w with
  |some x=>exact ⟨rfl,by rw [et,List.filterMap_append];simp [e]⟩
  |none=>exact ⟨rfl,by rw [et,List.filterMap_append];simp [e]⟩
 .rintro acc G ⟨rfl,rfl⟩ p hp;rw [List.take_length];exact hq p hp
theorem zc6 {α β:Type} (f:α->β) (xs:List α) (lo hi:Option Int):pE (xs.map f) lo hi=(pE xs lo hi).map f:=by
 unfold pE;rw [zzM,List.map_take,List.map_drop]
theorem zgz {α:Type} (xs:List α) (lo hi:Option Int):(pE xs lo hi).length<=xs.length:=by
 unfold pE;rw [List.length_take,List.length_drop];omega
def zis:ISs:=(.cons (.asg 2 (.lc (.nm 0) ["_law_cell"] [] (.val (.sl (.var 0) (.yes (.var 1)) (.yes (.con (.int 63))))) .no (.call 0 (.cons (.var 0) (.cons (.bin .Sub (.con (.int 0)) (.var 0)) .nil)))))
 (.cons (.asg 3 (.bin .Add (.con (.int 7919)) (.var 1)))
 (.cons (.for (.nm 4) (.val (.var 2)) (.cons (.asg 3 (.bin .Mod (.bin .Add (.bin .Mult (.var 3) (.con (.int 69621))) (.bin .Mod (.var 4) (.con (.int 2147483629)))) (.con (.int 2147483647))))
 .nil))
 (.cons (.ret (.dct ["seed", "number", "left"] (.cons (.var 3) (.cons (.con (.int 0)) (.cons (.spc 0 (.cons (.lc (.nm 0) ["_law_cell"] [] (.val (.var 2)) (.yes (.cmp .GtE (.var 0) (.bin .Pow (.con (.int 10)) (.con (.int 18))))) (.var 0)) .nil)) .nil)))))
 .nil))))
abbrev eMax:Fn3:=⟨"max", fun ws G Q _=>maxS ws G Q⟩
abbrev eRev:Sx3:=⟨lofM "reversed", revS⟩
def pC (x:Int):Int:=if 0-x > x then 0-x else x
theorem zgF (x:Int):0<=pC x:=by unfold pC;split<;>omega
theorem zJ {G:Hw} {p:Addr} {ws:List W} (h:G p=some (.lst ws)):yN G p=some ws:=by unfold yN;rw [h]
theorem dct3 {a b c:W}:zc3 ["seed", "number", "left"] [a,b,c]=[(kS,a),(kN,b),(kL,c)]:=by
 have e1:¬ (kS=kN):=by decide +kernel
 have e2:¬ (kS=kL):=by decide +kernel
 have e3:¬ (kN=kL):=by decide +kernel
 simp [zc3,fR,e1,e2,e3]
def pK (G:Hw) (w:W) (ns:List Int):Prop:=(∃ a,w=.ref a/\yN G a=some (ns.map .int))\/w=.lsf (ns.map .int)
theorem pK.sl {G:Hw} {w:W} {ns:List Int} (h:pK G w ns) {lo hi:Option Int} {Q:Q3} (hq:∀ r,G r=none->Q (.ref r) (put G r (.lst (pE (ns.map W.int) lo hi)))):fD w lo hi G Q:=by
 rcases h with ⟨a,rfl,e⟩|rfl
 .simp only [fD,e];exact hq
 .exact hq
theorem zeE {Γ:Ctx3} (h0:Γ.fn[0]?=some eMax) (h2:Γ.sx[0]?=some eRev) {a:W} {base:Int} {ns:List Int} {G:Hw} {Q:Q3} {nx:jE->Hw->Prop} (hs:pK G a ns) (hl:ns.length<=63) (hb:0<=base/\base<=1000)
  (hq:∀ d l G',G d=none->G l=none->zK [] G G'->xO G' d l->Q (.ref d) G'):zE Γ XN zis { nx:=nx,rt:=Q } [some a,some (.int base),none,none,none] G:=by
 dsimp only [zis,zE,zS,zU,zO,zG,zC,zA,yZ,zQ,zX,zT,zP,zR,zW,zL,List.getElem?_cons_zero,List.getElem?_cons_succ,zN];simp only [h0,h2,qS];refine hs.sl fun p1 hp1=>?_;dsimp only;have hp1':yN (put G p1 (.lst (pE (ns.map W.int) (some base) (some 63)))) p1=some (pE (ns.map W.int) (some base) (some 63)):=zJ zV;rw [hp1'];rw [zc6];generalize ecs:pE ns (some base) (some 63)=cs;have hcl:cs.length<=63:=by rw [← ecs];exact Nat.le_trans (zgz _ _ _) hl
 rw [zc6,ecs] at hp1';refine zcu (fun w=>match w with|.int x=>some (.int (pC x))|_=>none) hp1' (by rw [zzM,sizeLine_eq];omega) ?_ ?_
 .intro w hw K hK;obtain ⟨x,hx,rfl⟩:=zzP hw;simp only [tF,List.length_cons,List.length_nil,List.replicate,zzV,List.append_nil,List.set_cons_zero,List.getElem?_cons_zero,xB,maxS,if_true];exact hK
 .intro p2 hp2
  have ef:(cs.map W.int).filterMap (fun w=>match w with|.int x=>some (.int (pC x))|_=>none)=(cs.map pC).map W.int:=by
   rw [List.filterMap_map,List.map_map,← List.filterMap_eq_map];rfl
  rw [ef];generalize eG:put (put G p1 (.lst (cs.map W.int))) p2 (.lst ((cs.map pC).map W.int))=G2;have kp2:zK [] G G2:=by rw [← eG];exact (zK.new hp1).trans (zK.new hp2)
  have g2:G2 p2=some (.lst ((cs.map pC).map W.int)):=by rw [← eG];exact zV
  simp only [List.getElem?_cons_zero,List.getElem?_cons_succ,List.set_cons_zero,List.set_cons_succ,xB,zJ g2];refine ⟨fun i σ G'=>G'=G2/\∃ (n:Int) (c:Option W),σ=[some a,some (.int base),some (.ref p2),some (.int n),c]/\0<=n/\n<2147483647,⟨rfl,7919+base,none,rfl,by omega,by omega⟩,?_,?_,?_⟩
  .rintro i σ G' ⟨rfl,_⟩ _;exact zJ g2
  .rintro i w σ G' hi ⟨rfl,n,c,rfl,n0,n1⟩;have hw:=List.mem_of_getElem? hi;obtain ⟨x,hx,rfl⟩:=zzP hw;simp only [List.getElem?_cons_zero,List.getElem?_cons_succ,List.set_cons_zero,List.set_cons_succ,xB];exact ⟨.inr ⟨by decide,by decide⟩,by decide,by decide,trivial,_,_,rfl,(modb (by decide)).1,(modb (by decide)).2⟩
  .rintro σ G' ⟨rfl,n,c,rfl,n0,n1⟩;intro d hd;simp only [List.getElem?_cons_zero,List.getElem?_cons_succ];have g3:(put G' d (.dic [])) p2=some (.lst ((cs.map pC).map W.int)):=by rw [xR (dC g2 hd)];exact g2
   simp only [zJ g3];refine zcu (fun w=>match w with|.int x=>if (10:Int) ^ 18<=x then some (.int x) else none|_=>none) (zJ g3) (by rw [zzM,zzM,sizeLine_eq];omega) ?_ ?_
   .intro w hw K hK;obtain ⟨x,hx,rfl⟩:=zzP hw;simp only [tF,List.length_cons,List.length_nil,List.replicate,zzV,List.append_nil,List.set_cons_zero,List.getElem?_cons_zero,xB,zD,sR,zB];refine ⟨⟨by decide,by decide,by decide⟩,?_⟩;have e18:(10:Int) ^ (18:Int).toNat=10 ^ 18:=rfl;rw [e18]
    by_cases hx:(10:Int) ^ 18<=x
    .rw [decide_eq_true hx,if_pos rfl];simp only [if_pos hx] at hK;exact hK
    .rw [decide_eq_false hx,if_neg zzN];simp only [if_neg hx] at hK;exact hK
   .intro p3 hp3
    have ef:((cs.map pC).map W.int).filterMap (fun w=>match w with|.int x=>if (10:Int) ^ 18<=x then some (.int x) else none|_=>none)=((cs.map pC).filter fun x=>decide ((10:Int) ^ 18<=x)).map W.int:=by
     generalize cs.map pC=ys
     induction ys with
     |nil=>rfl
     |cons y ys ih =>
      rw [zzU,List.filterMap_cons,List.filter_cons]
      by_cases hy:(10:Int) ^ 18<=y
      .simp only [if_pos hy,decide_eq_true hy,if_true,zzU,ih]
      .simp only [if_neg hy,decide_eq_false hy,zzB,if_false,ih]
    rw [ef];generalize efl:(cs.map pC).filter (fun x=>decide ((10:Int) ^ 18<=x))=fl;have flen:fl.length<=63:=by rw [← efl];refine Nat.le_trans (List.length_filter_le _ _) ?_;rw [zzM];exact hcl
    have fnn:∀ x∈fl,(0:Int)<=x:=fun x hx=>by
     rw [← efl] at hx;obtain ⟨y,hy,rfl⟩:=zzP (List.mem_filter.mp hx).1;exact zgF y
    refine ⟨fl.map W.int,zJ zV,fun l hl'=>?_⟩
    have ned:d≠l:=fun e=>by
     subst e;rw [xR (dC zV hp3),zV] at hl';cases hl'
    have np3:d≠p3:=dC zV hp3;refine ⟨by rw [xR ned,xR np3,zV],rfl,?_⟩;rw [dct3];refine hq d l _ (kp2.none (by simp) hd) ?_ ?_ ⟨n,0,fl.reverse,zV,?_,n0,n1,by omega,fun x hx=>fnn x (List.mem_reverse.mp hx),by rw [List.length_reverse];exact flen,ned⟩
    .have k3:zK [] G (put (put G' d (.dic [])) p3 (.lst (fl.map W.int))):=(kp2.trans (zK.new hd)).trans (zK.new hp3);exact k3.none (by simp) hl'
    .intro x u hx hu;rw [xR (dC hu (kp2.none (by simp) hd))];exact ((((kp2.trans (zK.new hd)).trans (zK.new hp3)).trans (zK.new hl')) x u hx hu)
    .rw [xR ned.symm,zV,← List.map_reverse]
structure FunD (K:yM) (x qual:Str) (st:Stmt) (dV:Value) (f:Addr) (fd:FuncData):Prop where
 ex:∃ (oc:Value) (od:Option Addr) (kV doc pm:Value) (an:Option Addr) (cdv ct:Value) (osl:Array (Option Value)),
  fd=PySem.W.fnOf x qual (yS st) (zF st) (zY st) dV kV doc pm an cdv ct/\K.lookup f=some ⟨oc,od,.func fd,osl⟩/\PySem.W.codeIn K cdv qual=true
 kp:PySem.W.keepIn K (.ref f)=true
theorem uM {Γ:Ctx3} {q:Pr} {k:Nat} {M:MC} {x qual:Str} {st:Stmt} {dV:Value} {f:Addr} {fd:FuncData} {ps:List Str} {sp:vO} {body:ISs} (F:FunD q.K x qual st dV f fd) (S:FnScope M.N ps (zY st)) (g:∀ A,Room k A->Good Γ (q.at A))
  (eM:MOk Γ M (zY st)) (hm:kO body M (zF st)=true) (len:∀ ws G Q,sp ws G Q XN->ws.length=ps.length)
  (hb:∀ ws G Q,sp ws G Q XN->zE Γ XN body { nx:=fun _ G'=>Q .non G',rt:=Q } (yJ M.N ws) G):FnOk q.prog q.w q.K q.mg q.base CX0 (k+1) f fd ps (vQ q.K sp):=by
 obtain ⟨oc,od,kV,doc,pm,an,cdv,ct,osl,rfl,lk,hcd⟩:=F.ex;refine fn_of lk hcd S (fun vs H Q E h=>?_) fun A outer s H vs Q E hr h=>?_
 .obtain ⟨ws,G,rs,ab,h⟩:=h;rw [rs.length];exact len ws G _ h
 .obtain ⟨ws,G,rs,ab,h⟩:=h;have gg:=g _ hr;refine ⟨lowS q.K (zE Γ XN body),PSs.nox (sndSs gg body M _ (zF st) ?_ hm),?_⟩
  .exact ⟨⟨rfl,rfl,rfl,rfl,rfl,rfl,rfl,rfl⟩,rfl,eM.sc.symm,S.nd,fun _ _=>rfl,by rw [eM.sc];exact S.kind,eM.fns,eM.gls,eM.mts,eM.its,eM.sxs,eM.ixs⟩
  .refine ⟨yJ M.N ws,G,_,zbN rs,ab,⟨?_,?_,?_,?_⟩,hb ws G _ h⟩
   .exact fun σ G' τ H' g' _ a' z=>z .non H' g' (show wJ q.K H' .non .non from rfl) a'
   .exact fun σ G' τ H' g' _ a' z=>z.elim
   .exact fun σ G' τ H' g' _ a' z=>z.elim
   .exact fun w G' v H' g' r' a' z=>z v H' g' r' a'
structure HD (K:yM) (x qual:Str) (st:Stmt) (dV:Value) (f:Addr):Prop where
 ex:∃ (oc:Value) (od an:Option Addr) (osl:Array (Option Value)) (kV doc pm cdv ct:Value),K.lookup f=some ⟨oc,od,.func (PySem.W.fnOf x qual (yS st) (zF st) (zY st) dV kV doc pm an cdv ct),osl⟩/\PySem.W.codeIn K cdv qual=true
 kp:PySem.W.keepIn K (.ref f)=true
theorem HD.mk' {K:yM} {x qual:Str} {st:Stmt} {dV:Value} {f:Addr} {oc:Value} {od an:Option Addr} {osl:Array (Option Value)} {kV doc pm cdv ct:Value}
  (l:K.lookup f=some ⟨oc,od,.func (PySem.W.fnOf x qual (yS st) (zF st) (zY st) dV kV doc pm an cdv ct),osl⟩) (c:PySem.W.codeIn K cdv qual=true) (k:PySem.W.keepIn K (.ref f)=true):HD K x qual st dV f:=⟨⟨oc,od,an,osl,kV,doc,pm,cdv,ct,l,c⟩,k⟩
theorem HD.fd {K:yM} {x qual:Str} {st:Stmt} {dV:Value} {f:Addr} (h:HD K x qual st dV f):∃ fd,FunD K x qual st dV f fd/\∃ kV doc pm an cdv ct,fd=PySem.W.fnOf x qual (yS st) (zF st) (zY st) dV kV doc pm an cdv ct:=by
 obtain ⟨oc,od,an,osl,kV,doc,pm,cdv,ct,l,c⟩:=h.ex;exact ⟨_,⟨⟨oc,od,kV,doc,pm,an,cdv,ct,osl,rfl,l,c⟩,h.kp⟩,kV,doc,pm,an,cdv,ct,rfl⟩
def gM (f:Fn3):Prop:=∀ ws G (Q Q':Q3) E,(∀ w G',Q w G'->Q' w G')->f.sp ws G Q E->f.sp ws G Q' E
def qR (p:Par) (f:Fn3):Prop:=FnE p f/\gM f
def rE (m:Mt3):Prop:=∀ x ws G (Q Q':Q3),(∀ w G',Q w G'->Q' w G')->m.sp x ws G Q->m.sp x ws G Q'
def zdp (m:It3):Prop:=∀ ws G (R R':List W->(Hw->Prop)->Hw->Prop),(∀ a b c,R a b c->R' a b c)->m.sp ws G R->m.sp ws G R'
def GlE (p:Par) (g:Str×W):Prop:=∀ X,Fits p X->Gl X g.1->∀ q:Pos,(g.1==("__debug__" : Str))=false->g.1 ≠ "__name__" -> PE X (.Name g.1 q) (xY X.K fun _ G Q=>Q g.2 G)
theorem bG {Γ:Ctx3} {p:Par} (un:p.A.units+200<cLine) (fn:∀ f∈Γ.fn,qR p f) (gl:∀ g∈Γ.gl,GlE p g) (mt:∀ m∈Γ.mt,MtE p m/\rE m) (it:∀ i∈Γ.it,ItE p i/\zdp i)
  (cl:∀ c∈Γ.cl,Cls p.K c.1/\∀ f∈c.2,uT p.K c.1 f) (sx:∀ k∈Γ.sx,SxE p k/\wB k.sp) (ix:Γ.ix=[]):Good Γ p where
 mono:=⟨fun f hf=>(fn f hf).2,fun m hm=>(mt m hm).2,fun i hi=>(it i hi).2,fun k hk=>(sx k hk).2,fun k hk=>by rw [ix] at hk;cases hk⟩
 un:=un
 fn:=fun f hf=>(fn f hf).1
 gl:=gl
 mt:=fun m hm=>(mt m hm).1
 it:=fun i hi=>(it i hi).1
 cl:=cl
 sx:=fun k hk=>(sx k hk).1
 ix:=fun k hk=>by rw [ix] at hk;cases hk
theorem yP {α:Type} {P:α->Prop}:∀ x∈([]:List α),P x:=fun _ h=>nomatch h
theorem zI {α:Type} {P:α->Prop} {a:α} {l:List α} (h:P a) (t:∀ x∈l,P x):∀ x∈a::l,P x:=fun x hx=>by
 rcases List.mem_cons.mp hx with rfl|hx
 .exact h
 .exact t x hx
theorem pP {α:Type} {P:α->Prop} {a:α} {l:List α} (t:∀ x∈l,P x) (h:P a):∀ x∈l++[a],P x:=fun x hx=>by
 rcases List.mem_append.mp hx with hx|hx
 .exact t x hx
 .rw [zzO hx];exact h
theorem sG {q:Pr} {A:Around} {x:Str} {w:W} {u:Value} {v:V} (hm:q.mg x=some u) (r:yW v u) (rp:∀ H,wJ q.K H w v):GlE (q.at A) (x,w):=by
 intro X fits gl qp hd hn;have hm':X.mg x=some u:=by rw [fits.mg];exact hm
 refine (zfI gl hm' r hd).imp fun τ H Q h=>?_;obtain ⟨σ,G,hs,ab,h⟩:=h;exact h v H .refl (by have:=rp H;rw [fits.K];exact this) ab
theorem nW {q:Pr} {A:Around} {x:Str} {T:String} (hm:q.mg x=none) (hv:bootBuiltins x=some (.type T)):GlE (q.at A) (x,.ty T):=by
 intro X fits gl qp hd hn;have hm':X.mg x=none:=by rw [fits.mg];exact hm
 refine (zfM (v:=.ty T) gl hm' hv rfl hn hd).imp fun τ H Q h=>?_;obtain ⟨σ,G,hs,ab,h⟩:=h;exact h (.ty T) H .refl rfl ab
def zbP:vO:=fun ws G Q _=>∃ a base ns,ws=[a,.int base]/\pK G a ns/\ns.length<=63/\(0<=base/\base<=1000)/\∀ d l G',G d=none->G l=none->zK [] G G'->xO G' d l->Q (.ref d) G'
def zbO:vO:=fun ws G Q _=>∃ d l m,ws=[.ref d,.int m]/\xO G d l/\(0<m/\m<1073741824)/\∀ r G',0<=r->r<m->zK [d,l] G G'->xO G' d l->Q (.int r) G'
theorem zaf:gM ⟨"_law_deal", zbP⟩:=fun ws G Q Q' E k hh=>by
 obtain ⟨a,b,ns,h1,h2,h3,h4,h⟩:=hh;exact ⟨a,b,ns,h1,h2,h3,h4,fun d l G' a b c e=>k _ _ (h d l G' a b c e)⟩
theorem zae:gM ⟨"_law_draw", zbO⟩:=fun ws G Q Q' E k hh=>by
 obtain ⟨a,b,m,h1,h2,h3,h⟩:=hh;exact ⟨a,b,m,h1,h2,h3,fun d l a b c e=>k _ _ (h d l a b c e)⟩
abbrev zil:Fn3:=⟨"_law_deal", zbP⟩
abbrev tY:Fn3:=⟨"_law_draw", zbO⟩
abbrev eAll:Fn3:=⟨"all", fun ws G Q _=>allS (·.all id) ws G Q⟩
abbrev eLst:Fn3:=⟨"list", fun ws G Q _=>lstS ws G Q⟩
section
variable {q : Pr} {A : Around} {k : Nat}
theorem zgm (hm:q.mg "max" = none):qR (q.at A) eMax:=⟨tH hm (by decide +kernel) (fun X f=>zhJ f.calm) dQ (fun _ _ h=>h),fun ws G Q Q' _ k h=>dQ ws G Q Q' k h⟩
theorem zgo (hm:q.mg "len" = none):qR (q.at A) fS:=⟨tH hm (by decide +kernel) (fun X f=>zhM) dM (fun _ _ h=>h),fun ws G Q Q' _ k h=>dM ws G Q Q' k h⟩
theorem zgs (hm:q.mg "all" = none):qR (q.at A) eAll:=⟨tH hm (by decide +kernel) (fun X f=>ziz f.calm) (uI _) (fun _ _ h=>h),fun ws G Q Q' _ k h=>uI _ ws G Q Q' k h⟩
theorem zgn (hm:q.mg "list" = none):qR (q.at A) eLst:=⟨zgg hm (by decide +kernel) (fun X f=>zhL) dP (fun _ _ h=>h),fun ws G Q Q' _ k h=>dP ws G Q Q' k h⟩
theorem zcX:MtE (q.at A) ePop/\rE ePop:=⟨mV PySem.F.plainAttrs_list PySem.F.slot_list_pop PySem.F.type_list_pop (fun X f=>zhk) dW,dW⟩
theorem zcW (hl:q.mg "list" = none) (hm:q.mg "reversed" = none):SxE (q.at A) eRev/\wB eRev.sp:=⟨zgX hl hm (by decide +kernel) dZ (fun X f=>zg9 f.calm),dZ⟩
end
theorem FnE.imp {p:Par} {nm:Str} {sp sp':vO} (h:FnE p ⟨nm,sp'⟩) (k:∀ ws G Q,sp ws G Q XN->sp' ws G Q XN):FnE p ⟨nm,sp⟩:=by
 intro X fits gl args t qp pos mt hn pa hnil hdb hnm;refine (h X fits gl args t qp pos mt hn pa hnil hdb hnm).imp fun τ H Q z=>?_;obtain ⟨σ,G,hs,ab,z⟩:=z;exact ⟨σ,G,hs,ab,mt σ G _ _ (fun ws G1 z=>k _ _ _ z) z⟩
theorem rY {K:yM} {x qual:Str} {st:Stmt} {f:Addr} {fd:FuncData} {ps:List Str} (F:FunD K x qual st .none f fd)
  (h:∀ (kV doc pm:Value) (an:Option Addr) (cdv ct:Value) (us:List Value),us.length=ps.length->bindArgs (PySem.W.fnOf x qual (yS st) (zF st) (zY st) .none kV doc pm an cdv ct) ⟨us,[]⟩=pure (ps.zip us)):vM K fd ps []:=by
 obtain ⟨oc,od,kV,doc,pm,an,cdv,ct,osl,rfl,lk,hcd⟩:=F.ex;exact .all (h kV doc pm an cdv ct)
theorem zdh {K:yM} {x qual:Str} {st:Stmt} {T f:Addr} {fd:FuncData} {ps:List Str} {o:Obj} {items:Array Value} {n:Nat} (F:FunD K x qual st (.ref T) f fd) (l:K.lookup T=some o) (hd:o.data=.seq items n)
  (h:∀ (kV doc pm:Value) (an:Option Addr) (cdv ct:Value) (us:List Value),us.length=ps.length->∃ k:Option (Array Value)->Sem (List (Str×Value)),bindArgs (PySem.W.fnOf x qual (yS st) (zF st) (zY st) (.ref T) kV doc pm an cdv ct) ⟨us,[]⟩=seqItems? (.ref T) >>= k/\k (some items)=pure (ps.zip us)):vM K fd ps []:=by
 obtain ⟨oc,od,kV,doc,pm,an,cdv,ct,osl,rfl,lk,hcd⟩:=F.ex;intro s us X hl;rw [List.append_nil] at hl ⊢;obtain ⟨k,h1,h2⟩:=h kV doc pm an cdv ct us hl;exact BindsTo.of_defaults rfl (X _ _ l) hd h1 h2
theorem nV {q:Pr} {j k:Nat} {nm:Str} {f:Addr} {fd:FuncData} {ps:List Str} {sp:vO} (FO:FnOk q.prog q.w q.K q.mg q.base CX0 j f fd ps (vQ q.K sp)) (hm:q.mg nm=some (.ref f)) (hk:PySem.W.keepIn q.K (.ref f)=true) (hb:vM q.K fd ps [])
  (mono:gM ⟨nm,sp⟩) {A:Around} (hr:Room k A) (hjk:j<=k):qR (q.at A) ⟨nm,sp⟩ :=
 ⟨(zfd (dws:=[]) (dvs:=[]) (FO.mono hjk) hm hk hb (fun _=>rfl) .nil (fun ws G Q Q' z h=>mono ws G Q Q' XN z h) hr).imp fun ws G Q h=>by rw [List.append_nil];exact h,mono⟩
def fE:vO:=fun ws G Q _=>∃ a ns,ws=[a]/\pK G a ns/\ns.length<=63/\∀ G',Q (.bl true) G'
theorem uR {K:yM} {H:Hp}:∀ ns:List Int,yY K H (ns.map W.int) (ns.map V.int)
 | []=>rfl
 |n::ns=>⟨.int n,_,rfl,rfl,uR ns⟩
theorem zcw {K:yM} {H:Hp} {a:Addr} {ns:List Int} (hl:ns.length<=63) (hS:rF K H a (ns.map V.int)):vQ K fE [.ref a] H (fun v _=>v=.bl true) fun _ _ _=>False:=by
 rcases hS with hS|hS
 .refine ⟨[.ref a],fun b=>if b=a then some (.fix (ns.map W.int)) else none,⟨_,[],rfl,rfl,rfl⟩,?_,.ref a,ns,rfl,.inl ⟨a,rfl,by simp [yN]⟩,hl,fun G' v H' _ r _=>r⟩;intro b o e;dsimp only at e
  by_cases hb:b=a
  .subst hb;rw [if_pos rfl] at e;cases e;rcases hS with hS|⟨ob,hS⟩
   .exact ⟨_,hS,_,default,.inl rfl,uR ns⟩
   .exact ⟨_,hS,_,ob,.inr rfl,uR ns⟩
  .rw [if_neg hb] at e;cases e
 .exact ⟨[.lsf (ns.map W.int)],fun _=>none,⟨_,[],rfl,⟨a,_,rfl,hS,uR ns⟩,rfl⟩,(fun b o e=>nomatch e),.lsf (ns.map W.int),ns,rfl,.inr rfl,hl,fun G' v H' _ r _=>r⟩
theorem walk3 {l:PySem.W.OpenLaw} {k:Nat} {q:Program} {loose:List Str} {XP:(Str->Option Value)->Heap->Prop} {YP:World->Heap->Prop} {d:DefRec} {K:Params->PySem.W.Frag} (hn:l.most=some 63) (hdf:d.params.defaults=[]) (hr:Room k callerA)
  (hY:∀ (w:World) (h:Heap),YP w h->(K w.params).In h)
  (F:∀ (w:World) (mg:Str->Option Value) (fa:Addr) (h:Heap),(K w.params).In h->h.Ns mainGlobals mg->mg d.name=some (.ref fa) ->
   ∃ fd:FuncData,(∀ (s:Shared) (u:Value),BindsTo s fd ⟨[u],[]⟩ [("_law_script", u)])/\∀ base:Heap,(K w.params).In base->base.Ns mainGlobals mg->FnOk l.prog w (K w.params) mg base CX0 k fa fd ["_law_script"] (vQ (K w.params) fE)) :
  PySem.W.WalkO q loose XP YP l.row.toRowW d [] (fun f vs=>PySem.call f vs) :=
 L2.walk_of (n:=63) (k:=k) (x := "_law_script") (CX:=fun _=>CX0) (sp:=fun w=>vQ (K w.params) fE) hn (by decide) hdf hr hY F (fun _ _ a ns hl _ hS=>zcw hl hS) fun _ _ _ _ _ z=>z
end L3
namespace L3
open PySem PySem.Spec PyProof.Rows L2 PySem.SeqAt
def dL:MS:=fun x ws G Q=>match x,ws with
 | .str sep,[.ref p]=>∃ ts:List Str,yN G p=some (ts.map .str)/\JoinOk sep ts=true/\Q (.str (Txt.join sep ts)) G
 |_,_=>False
theorem hJ:∀ x ws G (Q Q':Q3),(∀ w G',Q w G'->Q' w G')->dL x ws G Q->dL x ws G Q':=by
 intro x ws G Q Q' k h;unfold dL at h ⊢
 split at h
 .obtain ⟨ts,e,o,h⟩:=h;exact ⟨ts,e,o,k _ _ h⟩
 .exact h.elim
theorem fG {K:yM} {H:Hp}:∀ {ts:List Str} {vs:List V} {us:List Value},yY K H (ts.map .str) vs->yX vs us->∃ l:List (Str×Tok),l.map (·.1)=ts/\us=strValues l
 | [],vs,us,r,v=>by cases (show vs=[] from r);cases v;exact ⟨[],rfl,rfl⟩
 |t::ts,vs,us,r,v=>by
  obtain ⟨x,tl,rfl,rx,rt⟩:=r;cases (show x=.str t from rx)
  cases v with
  |cons a c =>
   obtain ⟨tk,rfl⟩:=a;obtain ⟨l,e1,e2⟩:=fG rt c;exact ⟨(t,tk)::l,by rw [zzU,e1],by rw [e2];rfl⟩
theorem zfY {X:Cx}:MtR X "str.join" (lowM X.K dL):=by
 intro pins s σ H x xs v us Q I rx rxs h;obtain ⟨w,ws,G,rw1,rs,ab,h⟩:=h;unfold dL at h
 split at h
 .rename_i sep p;cases (show x=.str sep from rw1);obtain ⟨y,rfl,ry⟩:=qY rs;cases (show y=.ref p from ry);obtain ⟨u,rfl,ru⟩:=qZ rxs;cases (show u=Value.ref p from ru);obtain ⟨t,rfl⟩:=rx;obtain ⟨ts,e,ok,h⟩:=h;obtain ⟨vs,sq,rr⟩:=ab.seq e;obtain ⟨its,vv,pl,hz⟩:=I.list sq;obtain ⟨l,e1,e2⟩:=fG rr vv;subst e2;exact SC.join pl.isList e1 ok fun t' k=>⟨.str (Txt.join sep ts),H,I.tok _,⟨t',rfl⟩,h _ H .refl rfl ab⟩
 .exact h.elim
abbrev zeA:Mt3:=⟨"join", "str", dL⟩
theorem za4 {q:Pr} {A:Around}:MtE (q.at A) zeA/\rE zeA:=⟨mV PySem.F.plainAttrs_str PySem.F.slot_str_join PySem.F.type_str_join (fun X f=>zfY) hJ,hJ⟩
def rK:RS:=fun ws G Q=>match ws with
 | [.int i]=>Q (.int i) G
 | [.bl b]=>Q (.int (if b then 1 else 0)) G
 |_=>False
theorem dH:wB rK:=by
 intro ws G Q Q' k h;unfold rK at h ⊢
 split at h
 .exact k _ _ h
 .exact k _ _ h
 .exact h.elim
theorem zif {X:Cx}:jZ X (.type "int") (tO X.K rK):=by
 intro pins s σ H xs us Q I r h;obtain ⟨ws,G,rs,ab,h⟩:=h;unfold rK at h
 split at h
 .rename_i i;obtain ⟨v,rfl,rv⟩:=qY rs;cases (show v=.int i from rv);exact cP pins s σ H _ us Q I r (.inl ⟨i,rfl,h _ H .refl rfl ab⟩)
 .rename_i b;obtain ⟨v,rfl,rv⟩:=qY rs;cases (show v=.bl b from rv);exact cP pins s σ H _ us Q I r (.inr ⟨b,rfl,h _ H .refl rfl ab⟩)
 .exact h.elim
abbrev eInt:Fn3:=⟨"int", fun ws G Q _=>rK ws G Q⟩
theorem zgq {q:Pr} {A:Around} (hm:q.mg "int" = none):qR (q.at A) eInt:=⟨zgg hm (by decide +kernel) (fun X f=>zif) dH (fun _ _ h=>h),fun ws G Q Q' _ k h=>dH ws G Q Q' k h⟩
theorem zhQ {X:Cx} {pins:List (Addr×Obj)} {σ:L2.St} {H:Hp} {s:Shared} {G:Hw} {w:W} {v:V} {u:Value} {T:String} (I:Inv X pins σ H s) (ab:xI X.K H G) (rv:wJ X.K H w v) (ru:yW v u) (ty:tyO G w=some T) :
  ∃ HH:Heap->Prop,PySem.W.KitX X.K u (.type T) HH/\HH s.heap/\u≠.builtin "__main__.__loader__#opaque" := by
 cases w with
 |non=>cases ty;cases (show v=.non from rv);cases (show u=Value.none from ru);exact ⟨_,PySem.W.kitx_none,True.intro,fun z=>nomatch z⟩
 |bl x=>cases ty;cases (show v=.bl x from rv);cases (show u=Value.bool x from ru);exact ⟨_,PySem.W.kitx_bool,True.intro,fun z=>nomatch z⟩
 |int x=>cases ty;cases (show v=.int x from rv);obtain ⟨t,rfl⟩:=(show ∃ t,u=Value.int x t from ru);exact ⟨_,PySem.W.kitx_int,True.intro,fun z=>nomatch z⟩
 |str x=>cases ty;cases (show v=.str x from rv);obtain ⟨t,rfl⟩:=(show ∃ t,u=Value.str x t from ru);exact ⟨_,PySem.W.kitx_str,True.intro,fun z=>nomatch z⟩
 |tup ws' =>
  cases ty;obtain ⟨a,vs,rfl,sq,rr⟩:=rv;cases (show u=Value.ref a from ru);obtain ⟨its,_,p,_⟩:=I.tuple sq;obtain ⟨o,h1,h2,_⟩:=p;exact ⟨_,PySem.W.kitx_tuple,⟨o,h1,h2⟩,fun z=>nomatch z⟩
 |ref p =>
  cases (show v=.ref p from rv);cases (show u=Value.ref p from ru);simp only [tyO] at ty
  have lk:∀ ws',yN G p=some ws'->∃ HH:Heap->Prop,PySem.W.KitX X.K (.ref p) (.type "list") HH/\HH s.heap/\Value.ref p≠.builtin "__main__.__loader__#opaque" := fun ws' el=>by
   obtain ⟨vs,sq,rr⟩:=ab.seq el;obtain ⟨its,_,pl,_⟩:=I.list sq;obtain ⟨o,ho,hc,_⟩:=pl.isList;exact ⟨_,PySem.W.kitx_list,⟨o,ho,hc⟩,fun z=>nomatch z⟩
  split at ty
  .rename_i ws' eg;cases ty;exact lk ws' (by unfold yN;rw [eg])
  .rename_i ws' eg;cases ty;exact lk ws' (by unfold yN;rw [eg])
  .rename_i kvs eg;cases ty;obtain ⟨l,e',rl⟩:=ab.dic eg;obtain ⟨_,_,vs,_,o,_,_,e1,e2,_⟩:=(show xK X.prog X.w H s.heap p (.dK l) from I.hok p _ e');exact ⟨_,PySem.W.kitx_dict,⟨o,e1,e2.1⟩,fun z=>nomatch z⟩
  .cases ty
 |_=>cases ty
def zdv:List W->Option (List String)
 | []=>some []
 | .ty T::r=>(zdv r).map (T::·)
 |_=>none
theorem zaG {K:yM} {H:Hp}:∀ {ws:List W} {Ts:List String} {vs:List V} {us:List Value},zdv ws=some Ts->yY K H ws vs->yX vs us->us=Ts.map .type
 | [],Ts,vs,us,e,r,v=>by cases e;cases (show vs=[] from r);cases v;rfl
 |w::ws,Ts,vs,us,e,r,v=>by
  cases w with
  |ty T =>
   simp only [zdv] at e;obtain ⟨Ts',e',rfl⟩:=Option.map_eq_some_iff.mp e;obtain ⟨x,tl,rfl,rx,rt⟩:=r;cases (show x=.ty T from rx)
   cases v with
   |cons a c =>
    cases (show _=Value.type T from a);rw [zaG e' rt c];rfl
  |_=>cases e
def isjS (K:yM):RS:=fun ws G Q=>match ws with
 | [x,.ty T]=>∃ T' b,tyO G x=some T'/\PySem.W.kitOne K (.type T') (.type T)=some b/\Q (.bl b) G
 | [x,.tup ts]=>∃ T' b Ts,tyO G x=some T'/\zdv ts=some Ts/\PySem.W.kitAny K (.type T') (Ts.map .type)=some b/\Q (.bl b) G
 |_=>False
theorem dI (K:yM):wB (isjS K):=by
 intro ws G Q Q' k h;unfold isjS at h ⊢
 split at h
 .obtain ⟨T',b,e,e',h⟩:=h;exact ⟨T',b,e,e',k _ _ h⟩
 .obtain ⟨T',b,Ts,e,e',e2,h⟩:=h;exact ⟨T',b,Ts,e,e',e2,k _ _ h⟩
 .exact h.elim
theorem zib {X:Cx}:jZ X (.builtin "isinstance") (tO X.K (isjS X.K)):=by
 intro pins s σ H xs us Q I r h;obtain ⟨ws,G,rs,ab,h⟩:=h;unfold isjS at h
 split at h
 .rename_i w T;obtain ⟨v,y,rfl,rv,ry⟩:=zdQ rs;cases (show y=.ty T from ry);obtain ⟨u,c,rfl,ru,rc⟩:=zdu r;cases (show c=Value.type T from rc);obtain ⟨T',b,ty,e,h⟩:=h;obtain ⟨HH,kx,hp,hb⟩:=zhQ I ab rv ru ty;exact PySem.W.kia_one kx I.kIn hp e hb fun tk=>⟨.bl b,H,I.tok _,rfl,h _ H .refl rfl ab⟩
 .rename_i w ts;obtain ⟨v,y,rfl,rv,ry⟩:=zdQ rs;obtain ⟨u,c,rfl,ru,rc⟩:=zdu r;obtain ⟨T',b,Ts,ty,et,e,h⟩:=h;obtain ⟨a,vs,rfl,sq,rr⟩:=ry;cases (show c=Value.ref a from rc);obtain ⟨its,vv,p,_⟩:=I.tuple sq;obtain ⟨⟨oc,od,dt,sl⟩,h1,h2,n,h3⟩:=p;cases (show oc=_ from h2);cases (show dt=_ from h3);have ei:=zaG et rr vv;subst ei;obtain ⟨HH,kx,hp,hb⟩:=zhQ I ab rv ru ty;exact PySem.W.kia_tup kx I.kIn hp h1 e hb fun tk=>⟨.bl b,H,I.tok _,rfl,h _ H .refl rfl ab⟩
 .exact h.elim
abbrev eIsj (K:yM):Fn3:=⟨"isinstance", fun ws G Q _=>isjS K ws G Q⟩
theorem zgp {q:Pr} {A:Around} (hm:q.mg "isinstance" = none):qR (q.at A) (eIsj q.K):=⟨tH (id := "isinstance") hm (by decide +kernel) (fun X f=>by rw [← show X.K=q.K from f.K];exact zib) (dI _) (fun _ _ h=>h),fun ws G Q Q' _ k h=>dI _ ws G Q Q' k h⟩
theorem zeU {q:Pr} {k:Nat} {M:MC} {nm qual:Str} {st:Stmt} {f:Addr} {fd:FuncData} {ps:List Str} {sp:Nat->vO} {body:ISs} {Γ:Fn3->Ctx3} (F:FunD q.K nm qual st .none f fd) (S:FnScope M.N ps (zY st))
  (hm:q.mg nm=some (.ref f)) (hb:vM q.K fd ps []) (h0:∀ ws G Q,¬ sp 0 ws G Q XN) (len:∀ n ws G Q,sp n ws G Q XN->ws.length=ps.length) (mono:∀ n,gM ⟨nm,sp n⟩)
  (g:∀ n A,Room k A->qR (q.at A) ⟨nm,sp n⟩->Good (Γ ⟨nm,sp n⟩) (q.at A)) (eM:∀ n,MOk (Γ ⟨nm,sp n⟩) M (zY st)) (look:kO body M (zF st)=true)
  (hbd:∀ n ws G Q,sp (n+1) ws G Q XN->zE (Γ ⟨nm,sp n⟩) XN body { nx:=fun _ G'=>Q .non G',rt:=Q } (yJ M.N ws) G):∀ n,FnOk q.prog q.w q.K q.mg q.base CX0 (k+n) f fd ps (vQ q.K (sp n))
 | 0=>⟨fun vs H Q E ⟨ws,G,_,_,h⟩=>absurd h (h0 _ _ _),fun A outer s H args us vs Q E _ _ _ _ ⟨ws,G,_,_,h⟩=>absurd h (h0 _ _ _)⟩
 |n+1=>uM (k:=k+n) F S (fun A hr=>g n A (hr.mono (Nat.le_add_right _ _)) (nV (zeU F S hm hb h0 len mono g eM look hbd n) hm F.kp hb (mono n) hr (zzR _))) (eM n) look (len (n+1)) (hbd n)
end L3
namespace L2
open PySem PySem.Spec PyProof.Rows
section
variable {a b : Bool} {z TI TO i1 i2 l1 l2 : Addr}
end
end L2
namespace L3
open PySem PySem.Spec PyProof.Rows L2 PySem.SeqAt
def bOf (w:W):Bool:=match w with|.tup _=>true|_=>false
theorem zdJ {K:yM} {H:Hp} {G:Hw} {w:W} {v:V} {xs:List W} (ab:xI K H G) (r:wJ K H w v) (e:uE G w=some xs):∃ a vs,v=.ref a/\SqB (bOf w) K H a vs/\yY K H xs vs:=by
 cases w with
 |tup ws =>
  obtain ⟨a,vs,rfl,sq,rr⟩:=r;cases e;exact ⟨a,vs,rfl,sq,rr⟩
 |ref p =>
  cases (show v=.ref p from r);obtain ⟨vs,sq,rr⟩:=ab.seq e;exact ⟨p,vs,rfl,sq,rr⟩
 |_=>cases e
def gH {α:Type} (n:Nat) (R:α->Prop):PySem.W.KasT α->Prop
 | .ret a=>R a
 | .ask i j k=>i<n/\j<n/\∀ b,gH n R (k b)
theorem gH.bnd {α β:Type} {n:Nat} {R:α->Prop} {R':β->Prop} {f:α->PySem.W.KasT β} (hf:∀ a,R a->gH n R' (f a)):∀ {t:PySem.W.KasT α},gH n R t->gH n R' (t.bind f)
 | .ret a,h=>hf a h
 | .ask i j k,h=>⟨h.1,h.2.1,fun b=>gH.bnd hf (h.2.2 b)⟩
def krun {α:Type} (lt:Nat->Nat->Bool):PySem.W.KasT α->α
 | .ret a=>a
 | .ask i j k=>krun lt (k (lt i j))
theorem zcy {α:Type} {n:Nat} {R:α->Prop} (lt:Nat->Nat->Bool):∀ {t:PySem.W.KasT α},gH n R t->R (krun lt t)
 | .ret a,h=>h
 | .ask i j k,h=>by
  show R (krun lt (k (lt i j)));exact zcy lt (h.2.2 (lt i j))
theorem ze7 {α:Type} {n:Nat} {R:α->Prop} {lt:Nat->Nat->Bool} {cmp:Nat->Nat->(Bool->Shared->Prop)->Shared->Prop} {Q:α->Shared->Prop} {s:Shared} (hc:∀ i j C,i<n->j<n->C (lt i j) s->cmp i j C s) :
  ∀ {t:PySem.W.KasT α},gH n R t->Q (krun lt t) s->t.kasWp cmp Q s
 | .ret a,_,h=>h
 | .ask i j k,o,h=>hc i j _ o.1 o.2.1 (ze7 hc (o.2.2 _) h)
def Pm (n:Nat) (p:Array Nat):Prop:=p.Perm (List.toArray (List.range n))
theorem Pm.lt {n:Nat} {p:Array Nat} (h:Pm n p) (hn:0<n) (i:Nat):p.getD i 0<n:=by
 by_cases hi:i<p.size
 .have e:p.getD i 0=p[i]:=by simp [Array.getD,hi]
  rw [e];have hm:p[i]∈p.toList:=by simp
  have:=(Array.perm_iff_toList_perm.mp h).mem_iff.mp hm;simpa using this
 .have e:p.getD i 0=0:=by simp [Array.getD,hi]
  rw [e];exact hn
theorem Pm.rev {n:Nat} {p:Array Nat} (h:Pm n p) (i j:Nat):Pm n (PySem.W.kas_rev p i j):=(mirror_perm p i j _).trans h
section
variable {n : Nat} {p : Array Nat}
theorem zdl (hn:0<n) (h:Pm n p):∀ f m,gH n (fun _=>True) (PySem.W.kas_asc p f m)
 | 0,m=>True.intro
 |f+1,m=>⟨h.lt hn _,h.lt hn _,fun b=>by
  cases b
  .exact zdl hn h f (m+1)
  .exact True.intro⟩
theorem nU (hn:0<n):∀ f (p:Array Nat) m q,Pm n p->gH n (fun r=>Pm n r.1) (PySem.W.kas_desc f p m q)
 | 0,p,m,q,h=>h
 |f+1,p,m,q,h=>⟨h.lt hn _,h.lt hn _,fun b=>by
  cases b
  .refine ⟨h.lt hn _,h.lt hn _,fun d=>?_⟩;cases d
   .exact nU hn f p _ _ h
   .exact h
  .simp only [if_true]
   split
   .exact nU hn f _ _ _ (h.rev _ _)
   .exact nU hn f p _ _ h⟩
theorem zaJ (hn:0<n) (h:Pm n p) (m r:Nat):gH n (fun x=>Pm n x.2) (PySem.W.kas_tail3 m r p):=by
 refine gH.bnd (fun a _=>?_) (zdl hn (h.rev _ _) _ _);exact h.rev _ _
theorem pN (hn:0<n) (h:Pm n p) (m r:Nat):gH n (fun x=>Pm n x.2) (PySem.W.kas_descPart m r p):=by
 refine gH.bnd (fun a ha=>?_) (nU hn _ _ _ _ h)
 split
 .exact zaJ hn (ha.rev _ _) _ _
 .exact zaJ hn ha _ _
theorem zeH (hn:0<n) (h:Pm n p) (r:Nat):gH n (fun x=>Pm n x.2) (PySem.W.kas_count r p):=by
 refine gH.bnd (fun a _=>?_) (zdl hn h _ _)
 split
 .exact h
 .split
  .refine ⟨h.lt hn _,h.lt hn _,fun b=>?_⟩;cases b
   .exact pN hn (h.rev _ _) _ _
   .exact h
  .exact pN hn h _ _
theorem nE (hn:0<n) (h:Pm n p) (k:Nat):∀ f l r,gH n (fun _=>True) (PySem.W.kas_place p k f l r)
 | 0,l,r=>True.intro
 |f+1,l,r=>by
  show gH n _ (if l>=r then _ else _)
  split
  .exact True.intro
  .refine ⟨h.lt hn _,h.lt hn _,fun b=>?_⟩;cases b
   .exact nE hn h k f _ _
   .exact nE hn h k f _ _
theorem zdf (hn:0<n):∀ f (p:Array Nat) k,Pm n p->gH n (Pm n) (PySem.W.kas_bin f p k)
 | 0,p,k,h=>h
 |f+1,p,k,h=>gH.bnd (fun l _=>zdf hn f _ _ ((bubble_perm p k _).trans h)) (nE hn h k k 0 k)
theorem zbS (hn:0<n):gH n (Pm n) (PySem.W.kas_sort n):=by
 refine gH.bnd (fun r hr=>?_) (zeH hn (Array.Perm.refl _) n)
 split
 .exact zdf hn _ _ _ hr
 .exact hr
end
def srtP (n:Nat) (lt:Nat->Nat->Bool):List Nat:=if n<2 then List.range n else (krun lt (PySem.W.kas_sort n)).toList
theorem rW (n:Nat) (lt:Nat->Nat->Bool):(srtP n lt).Perm (List.range n):=by
 unfold srtP
 split
 .exact List.Perm.refl _
 .exact Array.perm_iff_toList_perm.mp (zcy lt (zbS (by omega)))
theorem qI {α:Type} (d:α) (l:List α):(List.range l.length).map (fun i=>l.getD i d)=l:=by
 apply List.ext_getElem
 .simp
 .intro i h1 h2;simp [h2]
def LtAt (A:Around) (s:Shared) (y x:Value) (b:Bool):Prop :=
 ∀ (prog:Program) (w:World) (E:Value->Shared->Prop) (Q:Value->Shared->Prop),Q (.bool b) s->wpAny (model prog w) A (richCompare .Lt y x) Q E s
def Lx (A:Around) (s:Shared) (fin:Bool):List (Value×Value)->Bool->Prop
 | [],v=>v=fin
 | (p,q)::r,v=>∃ e:Bool,EqAt A s p q e/\if e=true then Lx A s fin r v else LtAt A s p q v
theorem zbe (l b:Addr) (xs ys:Array Value) (n m:Nat) (d1 d2:Option Addr) (s1 s2:Array (Option Value)) (v:Bool) :
  Meets (Builtin.«tuple.__lt__» ⟨[.ref l,.ref b],[]⟩) (fun A R s=>s.heap.get? l=some { cls:=.type "tuple", dict:=d1,data:=.seq xs n,slots:=s1 }/\s.heap.get? b=some { cls:=.type "tuple", dict:=d2,data:=.seq ys m,slots:=s2 } /\
    Lx A.in1 s (decide (xs.size<ys.size)) (xs.toList.zip ys.toList) v/\R (.ok (.ret (.bool v))) s) :=
 .of_wp fun prog w A R s h=>by
  obtain ⟨hp,g,d,tk,os⟩:=s;obtain ⟨hl,hb,he,h⟩:=h;have f2:=AutoSeq1.sub_tuple_tuple
  wp_walk using wpAny_loadPart' hl,wpAny_loadPart' hb,wpAny_forIn_list _ (fun rest b s'=>b.1=none/\s'=⟨hp,g,d,tk,os⟩/\Lx A.in1 ⟨hp,g,d,tk,os⟩ (decide (xs.size<ys.size)) rest v) _
  case turn =>
   rintro ⟨y,x⟩ rest b s' ⟨hb',rfl,e,he,hr⟩;refine wpAny_bind (he prog w _ _ ?_)
   cases e with
   |true =>
    wp_walk
    exact ⟨rfl,rfl,by simpa using hr⟩
   |false =>
    have hr:LtAt A.in1 ⟨hp,g,d,tk,os⟩ y x v:=by simpa using hr
    have hr':∀ (E:Value->Shared->Prop) (Q:Value->Shared->Prop),Q (.bool v) ⟨hp,g,d,tk,os⟩->wpAny (model prog w) A.in1 (richCompare .Lt y x) Q E ⟨hp,g,d,tk,os⟩:=hr prog w
    repeat (first|with_reducible refine hr' _ _ ?_|wp_step)
    exact ⟨_,rfl,h⟩
  case fin =>
   rintro ⟨b1,b2⟩ s' ⟨hb',rfl,hz⟩;simp only at hb';subst hb';have hz:v=decide (xs.size<ys.size):=hz;subst hz
   wp_walk
   exact ⟨_,rfl,by simpa [Builtin.Tuple.tupleCompareSizes] using h⟩
  case h=>exact ⟨rfl,rfl,he⟩
mutual
def ltW:W->W->Option Bool
 | .str x,.str y=>some (decide (x.cps.toList<y.cps.toList))
 | .tup xs,.tup ys=>pI xs ys
 |_,_=>none
def pI:List W->List W->Option Bool
 | [],[]=>some false
 | [],_::_=>some true
 |_::_,[]=>some false
 |x::xs,y::ys=>if jK x y=true then pI xs ys else ltW x y
end
section
variable {X : Cx} {pins : List (Addr × Obj)} {σ : L2.St} {H : Hp} {s : Shared}
def LtOk (X:Cx) (H:Hp) (s:Shared) (x:W):Prop:=∀ (y:W) (v v':V) (u u':Value) (A:Around) (b:Bool),wJ X.K H x v->yW v u->wJ X.K H y v'->yW v' u'->jD x=true->jD y=true->A.units+min (dep x) (dep y)<cLine->ltW x y=some b->LtAt A s u u' b
theorem zed (I:Inv X pins σ H s):∀ (xs ys:List W) (vs vs':List V) (us us':List Value) (A:Around) (b:Bool),(∀ x∈xs,LtOk X H s x)->yY X.K H xs vs->yX vs us->yY X.K H ys vs'->yX vs' us'->yA xs=true->yA ys=true ->
  A.units+min (yC xs) (yC ys)<cLine->pI xs ys=some b->Lx A s (decide (us.length<us'.length)) (us.zip us') b
 | [],[],vs,vs',us,us',A,b,_,h,r,h',r',_,_,_,e=>by
  rw [show _=[] from h] at r;cases r;rw [show _=[] from h'] at r';cases r';cases e;rfl
 | [],y::ys,vs,vs',us,us',A,b,_,h,r,h',r',_,_,_,e=>by
  rw [show _=[] from h] at r;cases r;have l1:=h'.length;have l2:=r'.length;cases e;show true=decide (0<us'.length);rw [← l2,l1];rfl
 |x::xs,[],vs,vs',us,us',A,b,_,h,r,h',r',_,_,_,e=>by
  rw [show _=[] from h'] at r';cases r';cases e;rw [List.zip_nil_right];show false=decide (us.length<0);rfl
 |x::xs,y::ys,vs,vs',us,us',A,b,ok,h,r,h',r',px,py,hu,e=>by
  obtain ⟨v,t,e1,h,hs⟩:=h;obtain ⟨v',t',e2,h',hs'⟩:=h';subst e1;subst e2
  cases r with
  |cons r rs =>
   cases r' with
   |cons r' rs' =>
    have px:=xN.mp px;have py:=xN.mp py;simp only [yC] at hu;rw [List.zip_cons_cons];refine ⟨jK x y,zcU I x y _ _ _ _ A h r h' r' px.1 py.1 (by omega),?_⟩;simp only [pI] at e
    cases q:jK x y with
    |true =>
     rw [q,if_pos rfl] at e;rw [if_pos rfl];have:=zed I xs ys _ _ _ _ A b (fun z hz=>ok z (List.mem_cons_of_mem _ hz)) hs rs hs' rs' px.2 py.2 (by omega) e;simpa using this
    |false =>
     rw [q,if_neg zzN] at e;rw [if_neg zzN];exact ok x zzT y _ _ _ _ A b h r h' r' px.1 py.1 (by omega) e
theorem ze5 (I:Inv X pins σ H s):∀ x:W,LtOk X H s x:=by
 intro x
 induction x using W.ind with
 |tup xs ih =>
  intro y v v' u u' A b h r h' r' hx hy hu e;obtain ⟨a,vs,its,rfl,rfl,q,rs,vr,it,_⟩:=xT I h r
  cases y with
  |tup ys =>
   obtain ⟨c,us,its',rfl,rfl,q',rs',vr',it',_⟩:=xT I h' r';obtain ⟨⟨cls,dd,data,sl⟩,ho,hc,n,hd⟩:=it;obtain ⟨⟨cls2,dd2,data2,sl2⟩,ho2,hc2,n2,hd2⟩:=it';simp only at hc hd hc2 hd2;subst hc hd hc2 hd2;simp only [dep] at hu;intro prog w E Q hq;refine richCompare_meets_room (op:=.Lt) ⟨_,ho,rfl⟩ ⟨_,ho2,rfl⟩ F.slot_tuple_lt F.entry_tuple_lt (F.args_tuple_lt_2 _ _) (zbe a c its.toArray its'.toArray n n2 dd dd2 sl sl2 b) ⟨ho,ho2,?_,show Value.bool b≠Value.notImplemented/\Q (.bool b) s from ⟨(fun x=>nomatch x),hq⟩⟩ (by omega);have:=zed I xs ys _ _ _ _ A.in1 b ih rs vr rs' vr' hx hy (by show A.units+1+_<_;omega) e;simpa using this
  |_=>cases e
 |str x =>
  intro y v v' u u' A b h r h' r' hx hy hu e;cases (show v=.str x from h);obtain ⟨t,rfl⟩:=r
  cases y with
  |str z =>
   cases (show v'=.str z from h');obtain ⟨t',rfl⟩:=r';cases e;exact fun prog w E Q hq=>PyProof.Rows.lt_str hq
  |_=>cases e
 |_=>intro y v v' u u' A b _ _ _ _ _ _ _ e;cases e
end
section
variable {prog : Program} {w : World} {A : Around} {E : Value → Shared → Prop} {s : Shared} {D : Addr} {vs : List Value} {κ : SortKind} {lt : Nat → Nat → Bool}
def But (D:Addr) (h h':Heap):Prop:=∀ b o,b≠D->h.get? b=some o->h'.get? b=some o
def uC (vs:List Value) (lt:Nat->Nat->Bool):List Value:=(srtP vs.length lt).map fun i=>vs.getD i Value.none
theorem zce (vs:List Value) (lt:Nat->Nat->Bool):(uC vs lt).length=vs.length:=by
 unfold uC;rw [zzM,(rW _ _).length_eq,List.length_range]
structure Asks (prog:Program) (w:World) (A:Around) (s:Shared) (D:Addr) (vs:List Value) (κ:SortKind) (lt:Nat->Nat->Bool):Prop where
 kind:∀ (h':Heap) (C:SortKind->Shared->Prop),2<=vs.length->But D s.heap h'->C κ { s with heap:=h' }->wpAny (model prog w) A (keyKind' vs.toArray) C (fun _ _=>False) { s with heap:=h' }
 ask:∀ (h':Heap) (i j:Nat) (C:Bool->Shared->Prop),But D s.heap h'->i<vs.length->j<vs.length->C (lt i j) { s with heap:=h' }->PySem.W.kas_ask prog w A κ vs i j C { s with heap:=h' }
theorem zee {n:Nat} {P:PySem.Fin->Shared->Prop} (ho:s.heap.get? D=some (seqObj "list" vs.toArray n)) (h64:vs.length<64) (q:Asks prog w A s D vs κ lt)
  (h:∀ h' m,But D s.heap h'->h'.get? D=some (seqObj "list" (uC vs lt).toArray m)->P (.done (.ret .none)) { s with heap:=h' }):wpAny (model prog w) A (Builtin.«list.sort» ⟨[.ref D],[]⟩) P E s:=by
 have hD:D<s.heap.objs.size:=Heap.lt_size ho;have big:(64:Nat)<=sizeLine:=by rw [sizeLine_eq];decide
 have sz:vs.toArray.size=vs.length:=List.size_toArray;obtain ⟨e1,ho1⟩:∃ e1,(s.heap.update D (Obj.mapSeq fun _=>(#[]:Array Value))).get? D=some (seqObj "list" #[] e1):=⟨_,get?_update_seq ho fun _=>#[]⟩;rw [list_sort_plain];refine wpAny_bind (listItems_at ho rfl (wpAny_bind (listUpdate_at ho rfl (wpAny_bind (seqEpoch_at ho1 rfl ?_)) (by rw [sz];omega) (Nat.zero_le _))));refine wpAny_bind (wpAny_newTuple (wpAny_bind (wpAny_newList (wpAny_holding ?_) (Nat.zero_le _))) (by show vs.length<=_;omega));generalize hh:((s.heap.update D (Obj.mapSeq fun _=>(#[]:Array Value))).push { cls:=.type "tuple", data:=.seq vs.toArray.toList.toArray }).push { cls:=.type "list", data:=.seq ([]:List Value).toArray }=h6
 have k6:But D s.heap h6:=fun b o hb e=>by
  rw [← hh];exact Heap.get?_push_of_some _ (Heap.get?_push_of_some _ ((Heap.get?_update_other _ _ (Ne.symm hb)).trans e))
 have hD6:h6.get? D=some (seqObj "list" #[] e1):=by rw [← hh];exact Heap.get?_push_of_some _ (Heap.get?_push_of_some _ ho1)
 have fin:∀ (st:SortSt),failedOf st=none->(arrOf st).map (·.2)=(uC vs lt).toArray->wpAny (model prog w) A (do
   let touched:=(← seqEpoch D) != e1
   Builtin.List.listUpdate (.ref D) fun _=>(arrOf st).map (·.2)
   if let some e:=failedOf st then rule "list.sort.comparison-raised"; throw e
   if touched then rule "list.sort.modified"; raiseError "ValueError" "list modified during sort"
   ret .none) P E { s with heap:=h6 }:=fun st hf hout=>by
  refine wpAny_bind (seqEpoch_at hD6 rfl (wpAny_bind (listUpdate_at hD6 rfl ?_ (Nat.zero_le _) (by rw [hout,zzS,zce];omega))));rw [hf,hout];simp only [bne_self_eq_false,zzB,if_false];refine wpAny_pure (h _ _ (fun b o hb e=>(Heap.get?_update_other _ _ (Ne.symm hb)).trans (k6 b o hb e)) (get?_update_seq hD6 _))
 dsimp only
 by_cases h2:vs.toArray.size<2
 .rw [if_pos h2,if_pos h2];refine wpAny_bind (wpAny_pure ?_);rw [StateT.run_pure];refine wpAny_bind (wpAny_pure (fin _ rfl ?_));have hlt:vs.length<2:=by omega
  unfold uC srtP;rw [if_pos hlt,qI];show ((vs.toArray.zip vs.toArray).map (·.2))=vs.toArray;apply Array.toList_inj.mp;simp only [Array.toList_map,Array.toList_zip];exact List.map_snd_zip (zzR _)
 .rw [if_neg h2,if_neg h2];have h2':2<=vs.length:=by omega
  refine wpAny_bind (wpAny_mono (q.kind h6 _ h2' k6 ?_) (fun _ _ z=>z) fun _ _ z=>z.elim)
  refine wpAny_bind (wpAny_mono (PySem.W.kat_run (Q:=fun st' s'=>s'={ s with heap:=h6 }/\failedOf st'=none/\(arrOf st').map (·.2)=(uC vs lt).toArray)
   (G:=fun p s'=>s'={ s with heap:=h6 }/\p=krun lt (PySem.W.kas_sort vs.length)) rfl h2' h64 (fun p st' s' _ har hf hg=>⟨hg.1,hf,?_⟩) ?_) (fun r s' z=>?_) fun _ _ z=>z)
  .rw [PySem.W.kat_snds rfl har,hg.2];unfold uC srtP;rw [if_neg (by omega)]
  .exact ze7 (lt:=lt) (fun i j C hi hj hc=>q.ask h6 i j C k6 hi hj hc) (zbS (by omega)) ⟨rfl,rfl⟩
  .obtain ⟨⟨⟩,st'⟩:=r;obtain ⟨rfl,hf,hout⟩:=z;exact fin st' hf hout
def cH (h h':Heap):Prop:=∀ b o,h.get? b=some o->h'.get? b=some o
theorem zbR {l:Addr} {o:Obj} {T:String} {n:Nat} {Q:Value->Shared->Prop} (hT:T = "list" \/ T = "tuple") (ho:s.heap.get? l=some o) (hc:o.cls=.type T) (hd:o.data=.seq vs.toArray n) (h64:vs.length<64)
  (kind:∀ (h':Heap) (C:SortKind->Shared->Prop),2<=vs.length->cH s.heap h'->C κ { s with heap:=h' }->wpAny (model prog w) A.in1.in1 (keyKind' vs.toArray) C (fun _ _=>False) { s with heap:=h' })
  (ask:∀ (h':Heap) (i j:Nat) (C:Bool->Shared->Prop),cH s.heap h'->i<vs.length->j<vs.length->C (lt i j) { s with heap:=h' }->PySem.W.kas_ask prog w A.in1.in1 κ vs i j C { s with heap:=h' })
  (h:∀ (h1 h':Heap) (m:Nat),cH s.heap h1->cH h1 h'->h'.get? h1.objs.size=some (seqObj "list" (uC vs lt).toArray m)->Q (.ref h1.objs.size) { s with heap:=h' }) :
  wpAny (model prog w) A (call (.builtin "sorted") [.ref l]) Q E s:=by
 have big:(64:Nat)<=sizeLine:=by rw [sizeLine_eq];decide
 refine Calls.call_function_entry kind_sorted plain_sorted entry_sorted (args_sorted1 _) ?_;unfold Builtin.«sorted»;refine wpAny_bind (m:=checkCount "sorted" 1 1 _) (wpAny_pure (wpAny_bind (wpAny_collect_seq l hT ho hc hd (fun h1 k1=>?_) (by rw [zzS];omega))));refine wpAny_bind (wpAny_newList ?_ (by show vs.length<=_;omega));have hL:(h1.push (seqObj "list" vs.toArray 0)).get? h1.objs.size=some (seqObj "list" vs.toArray 0):=Heap.get?_push_size _ rfl;have up:∀ h',But h1.objs.size (h1.push (seqObj "list" vs.toArray 0)) h'->cH h1 h':=fun h' k b o e=>k b o (Nat.ne_of_lt (Heap.lt_size e)) (Heap.get?_push_of_some _ e);show wpAny _ _ _ _ _ { s with heap:=h1.push (seqObj "list" vs.toArray 0) };refine wpAny_bind (wpAny_holding (wpAny_call_entry slot_list_sort ⟨_,hL,rfl⟩ entry_list_sort (zee (κ:=κ) (lt:=lt) hL h64 ⟨fun h' C h2 k c=>?_,fun h' i j C k hi hj c=>?_⟩ fun h' m k hm=>⟨_,rfl,?_⟩) (args_list_sort _)))
 .exact kind h' C h2 (fun b o e=>up h' k b o (k1 b o e)) c
 .exact ask h' i j C (fun b o e=>up h' k b o (k1 b o e)) hi hj c
 .exact wpAny_pure ⟨_,rfl,h h1 h' m k1 (up h' k) hm⟩
end
def ltB (x y:W):Bool:=(ltW x y).getD false
def srt (ws:List W):List W:=(srtP ws.length fun i j=>ltB (ws.getD i .non) (ws.getD j .non)).map fun i=>ws.getD i .non
theorem zaL (ws:List W):(srt ws).Perm ws:=by
 have:=(rW ws.length fun i j=>ltB (ws.getD i .non) (ws.getD j .non)).map fun i=>ws.getD i .non
 rwa [qI] at this
def hdT:W->Option String
 | .tup (.str _::_)=>some "str"
 | .tup (.tup _::_)=>some "tuple"
 |_=>none
structure Srtb (ws:List W):Prop where
 pure:yA ws=true
 lt:∀ x∈ws,∀ y∈ws,(ltW x y).isSome=true
 few:ws.length<64
 deep:yC ws<60
 hd:∃ T,∀ x∈ws,hdT x=some T
def zbT:RS:=fun ws G Q=>match ws with
 | [x]=>∃ xs,uE G x=some xs/\Srtb xs/\∀ r,G r=none->Q (.ref r) (put G r (.lst (srt xs)))
 |_=>False
theorem nL:wB zbT:=by
 intro ws G Q Q' k h;unfold zbT at h ⊢
 split at h
 .obtain ⟨xs,e1,e2,h⟩:=h;exact ⟨xs,e1,e2,fun p hp=>k _ _ (h p hp)⟩
 .exact h.elim
section
variable {prog : Program} {w : World} {A : Around} {s : Shared} {b fin v : Bool} {C : Bool → Shared → Prop}
theorem zcz:∀ (l:List (Value×Value)) (i:Nat),(b&&i==0)=false->Lx A s fin l v->C v s->PySem.W.KatLex prog w A b fin C l i s
 | [],i,_,h,c=>by cases (show v=fin from h);exact c
 | (p,q)::r,i,hb,⟨e,he,hr⟩,c=>by
  refine PySem.W.kat_cons (he prog w _ _ ?_)
  cases e with
  |true =>
   rw [if_pos rfl] at hr;refine PySem.W.kat_yes (zcz r (i+1) ?_ hr c);cases b<;>simp
  |false =>
   rw [if_neg zzN] at hr;refine PySem.W.kat_no ?_;rw [hb];exact PySem.W.kat_one p q (hr prog w _ _ c)
end
section
variable {X : Cx} {pins : List (Addr × Obj)} {σ : L2.St} {H : Hp} {s : Shared}
theorem zhU {prog:Program} {w:World} (I:Inv X pins σ H s) {T:String} {x y:W} {vx vy:V} {ux uy:Value} {A:Around} {v:Bool} {C:Bool->Shared->Prop} (hx:hdT x=some T) (hy:hdT y=some T) (rx:wJ X.K H x vx) (ru:yW vx ux) (ry:wJ X.K H y vy) (ru':yW vy uy)
  (px:jD x=true) (py:jD y=true) (hu:A.units+min (dep x) (dep y)<cLine) (e:ltW x y=some v) (c:C v s):wpAny (model prog w) A (keyLt' (tuples' (Value.type T != Value.type "tuple")) ux uy) C (fun _ _=>False) s:=by
 have tu:∀ z,hdT z=some T->∃ zs,z=.tup zs:=fun z hz=>by
  unfold hdT at hz
  split at hz
  .exact ⟨_,rfl⟩
  .exact ⟨_,rfl⟩
  .cases hz
 obtain ⟨xs,rfl⟩:=tu x hx;obtain ⟨ys,rfl⟩:=tu y hy;obtain ⟨a,vs,its,rfl,rfl,q,rs,vr,it,_⟩:=xT I rx ru;obtain ⟨c',vs',its',rfl,rfl,q',rs',vr',it',_⟩:=xT I ry ru';obtain ⟨o,ho,hc,n,hd⟩:=it;obtain ⟨o2,ho2,hc2,n2,hd2⟩:=it';simp only [dep] at hu;refine PySem.W.kat_lt ho hd ho2 hd2 ?_;simp only [zzS];have main:=zed I xs ys _ _ _ _ A v (fun z _=>ze5 I z) rs vr rs' vr' px py (by omega) e
 cases hb:(Value.type T != Value.type "tuple") with
 |false=>exact zcz _ 0 rfl main c
 |true =>
  have hT:T = "str" := by
   unfold hdT at hx
   split at hx
   .cases hx;rfl
   .cases hx;cases hb
   .cases hx
  subst hT
  cases xs with
  |nil=>cases hx
  |cons x0 xs =>
   cases ys with
   |nil=>cases hy
   |cons y0 ys =>
    cases x0 with
    |str t =>
     cases y0 with
     |str z =>
      obtain ⟨v1,r1,rfl,h1,rs⟩:=rs;obtain ⟨v2,r2,rfl,h2,rs'⟩:=rs';cases (show v1=.str t from h1);cases (show v2=.str z from h2)
      cases vr with
      |cons k1 vr =>
       cases vr' with
       |cons k2 vr' =>
        obtain ⟨t1,rfl⟩:=k1;obtain ⟨t2,rfl⟩:=k2;replace e:(if (t==z)=true then pI xs ys else some (decide (t.cps.toList<z.cps.toList)))=some v:=e;simp only [jD,yA,Bool.true_and] at px py;simp only [yC,dep,Nat.zero_max] at hu;rw [List.zip_cons_cons];refine PySem.W.kat_cons (EqAt.str_str t t1 z t2 prog w _ _ ?_)
        cases q:(t==z) with
        |true =>
         rw [q,if_pos rfl] at e;refine PySem.W.kat_yes (zcz _ 1 rfl ?_ c);have:=zed I xs ys _ _ _ _ A v (fun z _=>ze5 I z) rs vr rs' vr' px py (by omega) e;simpa using this
        |false =>
         rw [q,if_neg zzN] at e;cases e;refine PySem.W.kat_no ?_;exact oneLt_str c
     |_=>exact absurd hy (by simp [hdT])
    |_=>exact absurd hx (by simp [hdT])
theorem za1 (I:Inv X pins σ H s) {M:Model} {T:String}:∀ {ws:List W} {vs:List V} {us:List Value},(∀ x∈ws,hdT x=some T)->yY X.K H ws vs->yX vs us->∃ fs,PySem.W.KatTups s.heap us fs/\(∀ v∈fs,PySem.W.Looks M s.heap (typeOf v) (.type T))/\fs.length=us.length
 | [],vs,us,_,r,k=>by
  cases (show vs=[] from r);cases k;exact ⟨[],True.intro,(fun _ h=>nomatch h),rfl⟩
 |x::ws,vs,us,hT,r,k=>by
  obtain ⟨v,t,rfl,rx,rt⟩:=r
  cases k with
  |cons k ks =>
   obtain ⟨fs,h1,h2,h3⟩:=za1 I (fun y hy=>hT y (List.mem_cons_of_mem _ hy)) rt ks;have hx:=hT x zzT;unfold hdT at hx
   split at hx
   .rename_i z zs;cases hx;obtain ⟨a,vs',its,rfl,rfl,q,rs,vr,it,_⟩:=xT I rx k;obtain ⟨v1,r1,rfl,g1,_⟩:=rs;cases (show v1=.str z from g1)
    cases vr with
    |cons k1 vr =>
     obtain ⟨t1,rfl⟩:=k1;obtain ⟨o,ho,hc,n,hd⟩:=it;refine ⟨.str z t1::fs,.cons ho hc hd rfl h1,fun v hv=>?_,by rw [List.length_cons,List.length_cons,h3]⟩;rcases List.mem_cons.mp hv with rfl|hv
     .exact PySem.W.Looks.of_pure rfl
     .exact h2 v hv
   .rename_i z zs;cases hx;obtain ⟨a,vs',its,rfl,rfl,q,rs,vr,it,_⟩:=xT I rx k;obtain ⟨v1,r1,rfl,g1,_⟩:=rs
    cases vr with
    |cons k1 vr =>
     obtain ⟨a2,vs2,its2,rfl,rfl,q2,rs2,vr2,it2,_⟩:=xT I g1 k1;obtain ⟨o,ho,hc,n,hd⟩:=it;obtain ⟨o2,ho2,hc2,_⟩:=it2;refine ⟨.ref a2::fs,.cons ho hc hd rfl h1,fun v hv=>?_,by rw [List.length_cons,List.length_cons,h3]⟩;rcases List.mem_cons.mp hv with rfl|hv
     .exact PySem.W.kitAt_ty M _ ⟨o2,ho2,hc2⟩
     .exact h2 v hv
   .cases hx
theorem zbQ (hu:X.A.units+200<cLine):jZ X (.builtin "sorted") (tO X.K zbT):=by
 intro pins s σ H xs us Q I r h;obtain ⟨ws,G,rs,ab,h⟩:=h;unfold zbT at h
 split at h
 .rename_i x;obtain ⟨v,rfl,rv⟩:=qY rs;obtain ⟨xs,ex,sb,h⟩:=h;obtain ⟨a,vs,rfl,sq,rr⟩:=zdJ ab rv ex;obtain ⟨u,rfl,ru⟩:=qZ r;cases (show u=Value.ref a from ru);obtain ⟨its,vv,ss,hz⟩:=I.sqB sq
  obtain ⟨T',o,n,hT,ho,hc,hd⟩:∃ (T':String) (o:Obj) (n:Nat),(T' = "list" \/ T' = "tuple")/\s.heap.get? a=some o/\o.cls=.type T'/\o.data=.seq its.toArray n:=by
   cases hb:bOf x<;>rw [hb] at ss
   .obtain ⟨o,ho,hc,n,hd⟩:=ss;exact ⟨"list", o,n,.inl rfl,ho,hc,hd⟩
   .obtain ⟨o,ho,hc,n,hd⟩:=ss;exact ⟨"tuple", o,n,.inr rfl,ho,hc,hd⟩
  have l1:its.length=xs.length:=by rw [← vv.length,rr.length]
  have l2:vs.length=xs.length:=rr.length;obtain ⟨T,hT'⟩:=sb.hd;have I':∀ h',cH s.heap h'->Inv X pins σ H { s with heap:=h',toks:=s.toks }:=fun h' k=>I.kept k;refine zbR (κ:=tuples' (Value.type T != Value.type "tuple")) (lt:=fun i j=>ltB (xs.getD i .non) (xs.getD j .non)) hT ho hc hd (by rw [l1];exact sb.few) (fun h' C h2 k c=>?_) (fun h' i j C k hi hj c=>?_) fun h1 h' m k1 k' hm=>?_
  .obtain ⟨fs,g1,g2,g3⟩:=za1 (M:=model X.prog X.w) (I' h' k) hT' rr vv;exact PySem.W.kat_kind g1 (by omega) g2 (by simp) c
  .have hi':i<xs.length:=by omega
   have hj':j<xs.length:=by omega
   obtain ⟨vi,evi,ri⟩:=rr.get (List.getElem?_eq_getElem hi');obtain ⟨vj,evj,rj⟩:=rr.get (List.getElem?_eq_getElem hj');obtain ⟨ui,eui,si⟩:=vv.get evi;obtain ⟨uj,euj,sj⟩:=vv.get evj;have mi:=List.getElem_mem hi';have mj:=List.getElem_mem hj';obtain ⟨b,eb⟩:=Option.isSome_iff_exists.mp (sb.lt _ mi _ mj);have e1:its.getD i Value.none=ui:=by simp [List.getD,eui]
   have e2:its.getD j Value.none=uj:=by simp [List.getD,euj]
   have e3:ltB (xs.getD i .non) (xs.getD j .non)=b:=by simp [List.getD,List.getElem?_eq_getElem hi',List.getElem?_eq_getElem hj',ltB,eb]
   unfold PySem.W.kas_ask;rw [e1,e2];rw [e3] at c;have d1:=gW mi;have:=sb.deep;refine zhU (I' h' k) (hT' _ mi) (hT' _ mj) ri si rj sj (zaS sb.pure _ mi) (zaS sb.pure _ mj) ?_ eb c;show X.A.units+1+1+_<_;omega
  .have I1:Inv X pins σ H { s with heap:=h1,toks:=s.toks }:=I' h1 k1;have I2:Inv X pins σ H { s with heap:=h',toks:=s.toks }:=I' h' fun b o e=>k' b o (k1 b o e);have hn:H h1.objs.size=none:=I1.hok.fresh (zzR _);have pm:=rW xs.length fun i j=>ltB (xs.getD i .non) (xs.getD j .non);have lt:∀ i∈srtP xs.length (fun i j=>ltB (xs.getD i .non) (xs.getD j .non)),i<xs.length:=fun i hi=>List.mem_range.mp (pm.mem_iff.mp hi);have eo:uC its (fun i j=>ltB (xs.getD i .non) (xs.getD j .non))=(srtP xs.length fun i j=>ltB (xs.getD i .non) (xs.getD j .non)).map fun i=>its.getD i Value.none:=by unfold uC;rw [l1]
   rw [eo] at hm
   have both:∀ l:List Nat,(∀ i∈l,i<xs.length)->yY X.K H (l.map fun i=>xs.getD i .non) (l.map fun i=>vs.getD i .non)/\yX (l.map fun i=>vs.getD i .non) (l.map fun i=>its.getD i Value.none):=by
    intro l
    induction l with
    |nil=>exact fun _=>⟨rfl,.nil⟩
    |cons i l ih =>
     intro hl;obtain ⟨g1,g2⟩:=ih fun j hj=>hl j (List.mem_cons_of_mem _ hj);have hi:=hl i zzT;obtain ⟨vi,evi,ri⟩:=rr.get (List.getElem?_eq_getElem hi);obtain ⟨ui,eui,si⟩:=vv.get evi;have e0:xs.getD i .non=xs[i]:=by simp [List.getD,List.getElem?_eq_getElem hi]
     have e1:vs.getD i .non=vi:=by simp [List.getD,evi]
     have e2:its.getD i Value.none=ui:=by simp [List.getD,eui]
     rw [zzU,zzU,zzU,e0,e1,e2];exact ⟨⟨vi,_,rfl,ri,g1⟩,.cons si g2⟩
   obtain ⟨g1,g2⟩:=both _ lt;refine ⟨.ref h1.objs.size,_,I2.adopt (o:=.lst _) (I1.off (zzR _)) hn ⟨?_,_,m,g2,hm⟩,rfl,qQ ab g1 h _ hn⟩;rw [zzM,pm.length_eq,List.length_range,← l2];exact hz
 .exact h.elim
end
abbrev eSrt:Fn3:=⟨"sorted", fun ws G Q _=>zbT ws G Q⟩
theorem zgl {q:Pr} {A:Around} (hu:A.units+200<cLine) (hm:q.mg "sorted" = none):qR (q.at A) eSrt:=⟨tH (id := "sorted") hm (by decide +kernel) (fun X f=>zbQ (by rw [f.A];exact hu)) nL (fun _ _ h=>h),fun ws G Q Q' _ k h=>nL ws G Q Q' k h⟩
end L3
namespace L3
open PySem PySem.Spec PyProof.Rows L2 PySem.SeqAt AutoSeq1
theorem zcQ (l b:Addr) (xs ys:Array Value) (n n2:Nat) (od:Option Addr) (os:Array (Option Value)) (h0:¬(!xs.isEmpty&&Builtin.List.listTooLong (xs.size+ys.size))=true) (h1:xs.size<=sizeLine) (h2:xs.size+ys.size<=sizeLine+1) :
  Meets (Builtin.«list.extend» ⟨[.ref l,.ref b],[]⟩) (fun _ R s=>s.heap.get? l=some { cls:=.type "list", dict:=none,data:=.seq xs n,slots:=#[] }/\s.heap.get? b=some { cls:=.type "tuple", dict:=od,data:=.seq ys n2,slots:=os } /\
   R (.ok (.ret .none)) { s with heap:=s.heap.update l (Obj.mapSeq fun x=>x++ys) }) :=
 .of_wp fun pr wo ar R st h=>by
  obtain ⟨hp,g,d,tk,os'⟩:=st;obtain ⟨hl,hb,h⟩:=h;have f1:=idx_int;have ft:=AutoSeq1.sub_tuple_tuple;have fl:=AutoSeq1.sub_list_list;have fu:=AutoSeq1.sub_tuple_list;have fv:=AutoSeq1.sub_list_tuple;have hz:(xs++ys).size<=sizeLine+1:=by rw [Array.size_append];exact h2
  wp_walk using (wpAny_updateSeq hl rfl (hz:=h1) (_hz':=hz)),wpAny_loadPart' hl,wpAny_loadPart' hb
  exact ⟨_,rfl,h⟩
theorem zbr (l b:Addr) (xs ys:Array Value) (n n2:Nat) (od:Option Addr) (os:Array (Option Value)) (h0:¬(!xs.isEmpty&&Builtin.List.listTooLong (xs.size+ys.size))=true) (h1:xs.size<=sizeLine) (h2:xs.size+ys.size<=sizeLine+1) :
  Meets (Builtin.«list.extend» ⟨[.ref l,.ref b],[]⟩) (fun _ R s=>s.heap.get? l=some { cls:=.type "list", dict:=none,data:=.seq xs n,slots:=#[] }/\s.heap.get? b=some { cls:=.type "list", dict:=od,data:=.seq ys n2,slots:=os } /\
   R (.ok (.ret .none)) { s with heap:=s.heap.update l (Obj.mapSeq fun x=>x++ys) }) :=
 .of_wp fun pr wo ar R st h=>by
  obtain ⟨hp,g,d,tk,os'⟩:=st;obtain ⟨hl,hb,h⟩:=h;have f1:=idx_int;have ft:=AutoSeq1.sub_tuple_tuple;have fl:=AutoSeq1.sub_list_list;have fu:=AutoSeq1.sub_tuple_list;have fv:=AutoSeq1.sub_list_tuple;have hz:(xs++ys).size<=sizeLine+1:=by rw [Array.size_append];exact h2
  wp_walk using (wpAny_updateSeq hl rfl (hz:=h1) (_hz':=hz)),wpAny_loadPart' hl,wpAny_loadPart' hb
  exact ⟨_,rfl,h⟩
def extS:MS:=fun x ws G Q=>match x,ws with
 | .ref p,[.tup ys]=>(match G p with
  |some (.lst xs)=>xs.length+ys.length<=sizeLine/\Q .non (put G p (.lst (xs++ys)))
  |_=>False)
 | .ref p,[.ref q]=>∃ xs ys,G p=some (.lst xs)/\yN G q=some ys/\xs.length+ys.length<=sizeLine/\Q .non (put G p (.lst (xs++ys)))
 |_,_=>False
theorem cW:∀ x ws G (Q Q':Q3),(∀ w G',Q w G'->Q' w G')->extS x ws G Q->extS x ws G Q':=by
 intro x ws G Q Q' k h;unfold extS at h ⊢
 split at h
 .split at h
  .exact ⟨h.1,k _ _ h.2⟩
  .exact h.elim
 .obtain ⟨xs,ys,e1,e2,h1,h⟩:=h;exact ⟨xs,ys,e1,e2,h1,k _ _ h⟩
 .exact h.elim
theorem zii {X:Cx}:MtR X "list.extend" (lowM X.K extS):=by
 intro pins s σ H x xs v us Q I rx rxs h;obtain ⟨w,ws,G,rw1,rs,ab,h⟩:=h;unfold extS at h
 split at h
 .rename_i p ys;cases (show x=.ref p from rw1);cases (show v=Value.ref p from rx);obtain ⟨vy,rfl,ry⟩:=qY rs;obtain ⟨b,vs2,rfl,sq,rr2⟩:=ry;obtain ⟨u,rfl,ru⟩:=qZ rxs;cases (show u=Value.ref b from ru)
  split at h
  .rename_i zs e;obtain ⟨vs,ev,rr⟩:=ab.lst e;have gr:yF X.K H (xE H p (.lst (vs++vs2))):=ab.grow e;obtain ⟨z,its,n,r,hl,e1⟩:=I.lstM ev;obtain ⟨its2,r2,pt,hz2⟩:=I.tuple sq;obtain ⟨⟨oc,od,oda,os⟩,ho,hc,n2,hd⟩:=(show s.heap.IsTuple b its2.toArray from pt);simp only at hc hd;subst hc hd;have l1:=rr.length;have l2:=rr2.length;have l3:=r2.length;have hb:=h.1;have hsz:its.toArray.size+its2.toArray.size<=sizeLine:=by rw [zzS,zzS];omega
   have hlong:¬ (!its.toArray.isEmpty&&Builtin.List.listTooLong (its.toArray.size+its2.toArray.size))=true:=by
    rw [mZ hsz,Bool.and_false];exact zzN
   refine call_meets F.slot_list_extend ⟨_,e1,rfl⟩ F.entry_list_extend (F.args_list_extend_2 _ _) (zcQ p b its.toArray its2.toArray n n2 od os hlong (by rw [zzS];omega) (by omega)) ⟨e1,ho,?_⟩;refine ⟨.non,_,I.lset (its':=its++its2) ev e1 (by simp) (r.append r2) ?_,rfl,h.2 .non _ gr (show wJ X.K _ .non .non from rfl) (ab.chg e ⟨_,rfl,(rr.append rr2).mono gr⟩)⟩;rw [zzW];omega
  .exact h.elim
 .rename_i p q;cases (show x=.ref p from rw1);cases (show v=Value.ref p from rx);obtain ⟨vy,rfl,ry⟩:=qY rs;cases (show vy=.ref q from ry);obtain ⟨u,rfl,ru⟩:=qZ rxs;cases (show u=Value.ref q from ru);obtain ⟨zs,ys,e,e2,hb,h⟩:=h;obtain ⟨vs,ev,rr⟩:=ab.lst e;obtain ⟨vs2,sq,rr2⟩:=ab.seq e2;have gr:yF X.K H (xE H p (.lst (vs++vs2))):=ab.grow e;obtain ⟨z,its,n,r,hl,e1⟩:=I.lstM ev;obtain ⟨its2,r2,pt,hz2⟩:=I.list sq;obtain ⟨⟨oc,od,oda,os⟩,ho,hc,n2,hd⟩:=pt.isList;simp only at hc hd;subst hc hd;have l1:=rr.length;have l2:=rr2.length;have l3:=r2.length;have hsz:its.toArray.size+its2.toArray.size<=sizeLine:=by rw [zzS,zzS];omega
  have hlong:¬ (!its.toArray.isEmpty&&Builtin.List.listTooLong (its.toArray.size+its2.toArray.size))=true:=by
   rw [mZ hsz,Bool.and_false];exact zzN
  refine call_meets F.slot_list_extend ⟨_,e1,rfl⟩ F.entry_list_extend (F.args_list_extend_2 _ _) (zbr p q its.toArray its2.toArray n n2 od os hlong (by rw [zzS];omega) (by omega)) ⟨e1,ho,?_⟩;refine ⟨.non,_,I.lset (its':=its++its2) ev e1 (by simp) (r.append r2) ?_,rfl,h .non _ gr (show wJ X.K _ .non .non from rfl) (ab.chg e ⟨_,rfl,(rr.append rr2).mono gr⟩)⟩;rw [zzW];omega
 .exact h.elim
abbrev eExt:Mt3:=⟨"extend", "list", extS⟩
theorem zcZ {q:Pr} {A:Around}:MtE (q.at A) eExt/\rE eExt:=⟨mV PySem.F.plainAttrs_list PySem.F.slot_list_extend PySem.F.type_list_extend (fun X f=>zii) cW,cW⟩
end L3
namespace L3
open PySem PySem.Spec PyProof.Rows L2 PySem.SeqAt
def tx (e:Int×Value):Str:=strOf e.2
section
variable {prog : Program} {w : World} {A : Around} {E : Value → Shared → Prop} {s : Shared} {S : Addr} {led : Bool}
end
section
variable {prog : Program} {w : World} {A : Around} {R : Result → Shared → Prop} {I : Addr} {fp wr : List Addr} {G : Array GenState → Array GenState → Prop} {n : Nat} {P : Nat → Value → Prop} {St : Nat → Shared → Prop} {S : Addr} {led : Bool}
end
section
variable {prog : Program} {w : World} {A : Around} {E : Value → Shared → Prop} {s : Shared}
end
namespace SI
end SI
section
variable {prog : Program} {w : World} {A : Around} {E : Value → Shared → Prop} {s : Shared} {I S : Addr} {first : Value} {i n ep : Nat} {led : Bool} {o : Obj} {es : Array (Int × Value)} {t : SetTable}
end
section
variable {prog : Program} {w : World} {A : Around} {I S T : Addr} {ep : Nat} {led : Bool} {o : Obj} {es : Array (Int × Value)} {t : SetTable}
end
section
variable {prog : Program} {w : World} {A : Around} {E : Value → Shared → Prop} {s : Shared} {S : Addr} {ep : Nat} {o : Obj} {es : Array (Int × Value)} {t : SetTable}
end
section
variable {prog : Program} {w : World} {A : Around} {E : Value → Shared → Prop} {s : Shared} {S : Addr} {ep : Nat} {o : Obj} {es : Array (Int × Value)} {t : SetTable}
end
section
variable {prog : Program} {w : World} {A : Around} {E : Value → Shared → Prop} {s : Shared}
end
section
variable {X : Cx}
end
end L3
namespace L3
open PySem PySem.Spec PyProof.Rows L2 HT
section
variable {prog : Program} {w : World} {A : Around} {E : Value → Shared → Prop} {s : Shared}
theorem zfe {f:Nat->Option Value} {g:Nat->Value}:∀ {l:List Nat},(∀ m∈l,f m=some (g m))->l.filterMap f=l.map g
 | [],_=>rfl
 |a::l,h=>by
  rw [List.filterMap_cons_some (h a zzT),zzU,zfe fun m hm=>h m (List.mem_cons_of_mem _ hm)]
theorem zaP (xs:Array Value):((List.range xs.size).filterMap fun (m:Nat)=>xs[(((xs.size:Int)-1)+(m:Int) * (-1)).toNat]?).toArray=xs.toList.reverse.toArray:=by
 congr 1;rw [zfe (g:=fun m=>xs.toList.reverse.getD m Value.none)]
 .have:=qI Value.none xs.toList.reverse;rw [List.length_reverse,Array.length_toList] at this;exact this
 .intro m hm;have hm:m<xs.size:=List.mem_range.mp hm;have e1:(((xs.size:Int)-1)+(m:Int) * (-1)).toNat=xs.size-1-m:=by omega
  have h2:xs.size-1-m<xs.size:=by omega
  rw [e1,Array.getElem?_eq_getElem h2,List.getD_eq_getElem?_getD,List.getElem?_reverse (by simpa using hm)];simp [h2]
theorem zbU {sl:Addr} {n:Nat} {t:Tok} {Q:Int×Int×Nat->Shared->Prop} (hs:s.heap.IsSliceOf sl .none .none (.int (-1) t)) (h:Q ((n:Int)-1,-1,n) s):wpAny (model prog w) A (Builtin.Slice.sliceApplied (.ref sl) (pure (n:Int))) Q E s:=by
 obtain ⟨os,hos,hcs,hds⟩:=id hs;unfold Builtin.Slice.sliceApplied Builtin.Slice.sliceFields;refine wpAny_bind (wpAny_bind (wpAny_field hos hds (x:=.none) rfl (wpAny_bind (wpAny_field hos hds (x:=.none) rfl (wpAny_bind (wpAny_field hos hds (x:=.int (-1) t) rfl (wpAny_pure ?_)))))));refine wpAny_bind (slicePart_int ?_);show wpAny (model prog w) _ (if ((-1:Int)==0)=true then _ else _) _ _ s;rw [if_neg (by decide)];refine wpAny_bind (slicePart_none (wpAny_bind (slicePart_none (wpAny_bind (wpAny_pure ?_)))))
 have e:Builtin.Slice.slicePlaces ((n:Int)-1) (-1) (-1)=n:=by
  unfold Builtin.Slice.slicePlaces;rw [if_neg (by decide),show (-(-1):Int)=1 from rfl,Int.ediv_one]
  split<;>omega
 show wpAny (model prog w) _ (pure ((n:Int)-1,(-1:Int),Builtin.Slice.slicePlaces ((n:Int)-1) (-1) (-1))) _ _ s;rw [e];exact wpAny_pure h
theorem zgd {t sl:Addr} {items:Array Value} {tk:Tok} {Q:Value->Shared->Prop} (ht:IsTup s.heap t items) (hs:s.heap.IsSliceOf sl .none .none (.int (-1) tk)) (hsz:items.size<=sizeLine)
  (h:Q (.ref s.heap.objs.size) { s with heap:=s.heap.push { cls:=.type "tuple", data:=.seq items.toList.reverse.toArray } }):wpAny (model prog w) A (getItem (.ref t) (.ref sl)) Q E s:=by
 obtain ⟨os,hos,hcs,hds⟩:=id hs;have hTs:s.TypeIs (.ref sl) "slice" := ⟨os,hos,hcs⟩
 have hok:sizeOk (.seq items.toList.reverse.toArray):=by
  show items.toList.reverse.toArray.size<=sizeLine;rw [zzS,List.length_reverse,Array.length_toList];exact hsz
 unfold getItem
 try with_reducible refine wpAny_holding ?_
 first|refine wpAny_bind (wpAny_pure ?_)|skip
 refine wpAny_bind (wpAny_sequenceKey ht.typeIs (by decide) ?_);refine wpAny_bind (wpAny_callSpecial?_slot (name:=Str.ofString "__getitem__") ht.typeIs PyProof.Rows.slot_tuple_getitem (wpAny_call_entry PyProof.Rows.slot_tuple_getitem ht.typeIs entry_tuple_getitem ?_ (args_tuple_getitem _ _)));refine wpAny_bind (m:=Builtin.Tuple.tupleItemsOf (.ref t)) (tupleItemsOf_ ht ?_);refine wpAny_bind (wpAny_typeOf hTs ?_);rw [if_pos (by decide)];refine wpAny_bind (zbU hs ?_);dsimp only;rw [if_neg (by simp),zaP]
 first
  |exact wpAny_bind (m:=Builtin.Tuple.tupleExact _) (wpAny_newObj_type (wpAny_pure ⟨_,rfl,wpAny_pure h⟩) hok)
  |exact wpAny_bind (wpAny_bind (m:=Builtin.Tuple.tupleExact _) (wpAny_newObj_type (wpAny_pure ⟨_,rfl,wpAny_pure h⟩) hok))
end
def rvM:Scope->Expr->Option (List Expr):=fun _ e=>match e with
 | .Subscript l (.Slice none none (some (.UnaryOp .USub (.Constant (.int i) _ _) _)) _) _=>if i=1 then some [l] else none
 |_=>none
def rvS:RS:=fun ws G Q=>match ws with
 | [.tup xs]=>Q (.tup xs.reverse) G
 | [.ref p]=>∃ xs,yN G p=some xs/\∀ r,G r=none->Q (.ref r) (put G r (.lst xs.reverse))
 |_=>False
theorem zaO:wB rvS:=by
 intro ws G Q Q' k h;unfold rvS at h ⊢
 split at h
 .exact k _ _ h
 .obtain ⟨xs,e,h⟩:=h;exact ⟨xs,e,fun r hr=>k _ _ (h r hr)⟩
 .exact h.elim
theorem zd1 (xs:Array Value):slicePick xs none none (some (-1))=xs.toList.reverse.toArray:=by
 rw [← zaP];unfold slicePick sliceBounds sliceRange;congr 1;simp only [Option.getD_some,show ¬ ((-1:Int) > 0) by decide,if_false]
 have e:(if (xs.size:Int)-1 > -1 then ((xs.size:Int)-1 - -1 - -1-1) / - -1 else 0).toNat=xs.size:=by
  rw [show (- -1:Int)=1 from rfl,Int.ediv_one]
  split<;>omega
 rw [e,List.filterMap_map];congr 1
 funext m
 show xs[(((xs.size:Int)-1)+(-1) * (m:Int)).toNat]?=_;rw [Int.mul_comm]
theorem zfs {sc:Scope} {e:Expr} {xs:List Expr} (h:rvM sc e=some xs):∃ l a p1 p3 p2 pos,e=.Subscript l (.Slice none none (some (.UnaryOp .USub (.Constant (.int 1) a p1) p3)) p2) pos/\xs=[l]:=by
 unfold rvM at h
 split at h
 .rename_i l i a p1 p3 p2 pos
  split at h
  .rename_i hb;subst hb;cases h;exact ⟨l,a,p1,p3,p2,pos,rfl,rfl⟩
  .cases h
 .cases h
theorem yX.reverse {vs:List V} {us:List Value} (h:yX vs us):yX vs.reverse us.reverse:=by
 induction h with
 |nil=>exact .nil
 |cons a _ ih=>rw [List.reverse_cons,List.reverse_cons];exact ih.append (.cons a .nil)
theorem zgW {q:Pr} {A:Around}:SxE (q.at A) ⟨rvM,rvS⟩:=by
 intro X fits e xs es he each hn pa;obtain ⟨l,k,p1,p3,p2,pos,rfl,rfl⟩:=zfs (sc:=X.env.scope) he
 match es,each with
 | [t],each =>
  refine ⟨fun pins s σ H Q I h=>?_,fun _=>rfl,fun _ _ _ z=>nomatch z⟩;obtain ⟨σ3,G,hs,ab,h⟩:=h;refine Subscript_ (yB (each.2.1 pins s σ H (fun v H1=>∃ ys vs a G1,v=.ref a/\yY X.K H1 ys vs/\xI X.K H1 G1/\yF X.K H H1/\((sZ X.K H1 a vs/\vK X.K H Q (.tup ys.reverse) G1)\/(rF X.K H1 a vs/\∀ r,G1 r=none->vK X.K H Q (.ref r) (put G1 r (.lst ys.reverse))))) I ⟨σ3,G,hs,ab,each.1 σ3 G _ _ (fun w G1 h=>?_) h⟩) fun v s1 ⟨x,H1,I1,r1,q1⟩=>?_)
  .intro v H1 g1 rv a1;have h:rvS [w] G1 (vK X.K H Q):=h;unfold rvS at h
   split at h
   .rename_i ys ew;cases ew;obtain ⟨a,vs,rfl,sq,rr⟩:=rv;exact ⟨ys,vs,a,G1,rfl,rr,a1,g1,.inl ⟨sq,h⟩⟩
   .rename_i p ew;cases ew;obtain ⟨ys,e,h⟩:=h;cases (show v=.ref p from rv);obtain ⟨vs,sq,rr⟩:=a1.seq e;exact ⟨ys,vs,p,G1,rfl,rr,a1,g1,.inr ⟨sq,h⟩⟩
   .exact h.elim
  .obtain ⟨ys,vs,a,G1,rfl,rr,a1,g1,q⟩:=q1;cases (show v=Value.ref a from r1);refine wpAny_Slice ?_;rw [evalPart_none];refine wpAny_pure (wpAny_pure ?_);rw [evalPart_some];refine yB (zhp (pos:=p3) zeM (ze0 (i:=1) (j:=k) (pos:=p1)) pins s1 σ H1 (fun v H2=>v=.int (-1)/\H2=H1) I1 ⟨1,rfl,rfl,rfl⟩) fun u s2 ⟨y,H2,I2,r2,e1,e2⟩=>?_;subst e1 e2;obtain ⟨tk,rfl⟩:=r2;have I3:Inv X pins σ H2 { s2 with heap:=s2.heap.push { cls:=.type "slice", data:=.fields #[.none,.none,.int (-1) tk] } }:=I2.kept (t':=s2.toks) fun b ob q=>Heap.get?_push_of_some _ q;show wpAny (model X.prog X.w) X.A (subscriptTail l (.Slice none none (some (.UnaryOp .USub (.Constant (.int 1) k p1) p3)) p2) (.ref a) (.ref s2.heap.objs.size)) (EP X pins σ Q) X.xe { s2 with heap:=s2.heap.push { cls:=.type "slice", data:=.fields #[.none,.none,.int (-1) tk] } };have hsl:=Heap.IsSliceOf.new s2.heap .none .none (.int (-1) tk);have sz:s2.heap.objs.size<(s2.heap.push { cls:=.type "slice", data:=.fields #[.none,.none,.int (-1) tk] }).objs.size:=by rw [Heap.size_push];exact Nat.lt_succ_self _
   generalize s2.heap.push { cls:=.type "slice", data:=.fields #[.none,.none,.int (-1) tk] }=h0 at I3 hsl sz ⊢;have hn:H2 h0.objs.size=none:=I3.hok.fresh (zzR _);rcases q with ⟨sq,q⟩|⟨sq,q⟩
   .obtain ⟨its,vv,ht,hz⟩:=I3.tuple sq;have hlen:its.toArray.size=vs.length:=by rw [zzS];exact vv.length.symm
    refine tail_any (ops:=[.ref a,.ref s2.heap.objs.size]) ht.typeIs PyProof.Rows.slot_tuple_getitem.lookup (zgd ht hsl (by rw [hlen];exact hz) ?_) (by with_unfolding_all rfl);refine ⟨.ref _,_,I3.laid (t':=s2.toks) (o:=.tup vs.reverse) (fun b ob q=>Heap.get?_push_of_some _ q) (zzR _) ⟨by rw [List.length_reverse];exact hz,its.reverse,vv.reverse,?_⟩,rfl,?_⟩
    .have:=IsTup.new h0 its.reverse.toArray;simpa using this
    .have g2:yF X.K H2 (xE H2 h0.objs.size (.tup vs.reverse)):=wL hn;exact q _ _ (g1.trans g2) ⟨_,_,rfl,sZ.of wE,rr.reverse.mono g2⟩ (a1.tup hn)
   .obtain ⟨its,vv,pl,hz⟩:=I3.list sq;have hlen:its.toArray.size=vs.length:=by rw [zzS];exact vv.length.symm
    have ht:=pl.isList;refine tail_any (ops:=[.ref a,.ref s2.heap.objs.size]) ht.typeIs list_getitem_lookup (wpAny_getItem_list_slice ht hsl .none .none (.int (-1) tk) (by simp) ?_ (by rw [hlen];exact hz)) (by with_unfolding_all rfl);rw [zd1];refine ⟨.ref _,_,I3.laid (t':=s2.toks) (o:=.lst vs.reverse) (fun b ob q=>Heap.get?_push_of_some _ q) (zzR _) ⟨by rw [List.length_reverse];exact hz,its.reverse,0,vv.reverse,?_⟩,rfl,?_⟩
    .simpa using Heap.get?_push_size h0 (o:={ cls:=.type "list", data:=.seq its.reverse.toArray }) rfl
    .exact qQ (Q:=Q) a1 rr.reverse (fun p hp v' H' g'=>q p hp v' H' (g1.trans g')) _ hn
def hcM (y:Str):Scope->Expr->Option (List Expr):=fun _ e=>match e with
 | .Call (.Name x q) [a] [] _=>if (x==y)=true then some [.Name x q,a] else none
 |_=>none
def hcS (f:Addr) (sp:vO):RS:=fun ws G Q=>match ws with
 | [.ref p,w]=>p=f/\sp [w] G Q XN
 |_=>False
theorem zeu {f:Addr} {sp:vO} (mono:∀ ws G (Q Q':Q3),(∀ w G',Q w G'->Q' w G')->sp ws G Q XN->sp ws G Q' XN):wB (hcS f sp):=by
 intro ws G Q Q' k h;unfold hcS at h ⊢
 split at h
 .exact ⟨h.1,mono _ _ _ _ k h.2⟩
 .exact h.elim
theorem zgc {y:Str} {sc:Scope} {e:Expr} {xs:List Expr} (h:hcM y sc e=some xs):∃ x q a pos,e=.Call (.Name x q) [a] [] pos/\xs=[.Name x q,a]:=by
 unfold hcM at h
 split at h
 .rename_i x q a pos
  split at h
  .cases h;exact ⟨x,q,a,pos,rfl,rfl⟩
  .cases h
 .cases h
theorem sx_hc {q:Pr} {k:Nat} {y:Str} {f:Addr} {fd:FuncData} {ps:List Str} {sp:vO} (FO:FnOk q.prog q.w q.K q.mg q.base CX0 k f fd ps (vQ q.K sp)) (hk:PySem.W.keepIn q.K (.ref f)=true) (hb:vM q.K fd ps [])
  (mono:∀ ws G (Q Q':Q3),(∀ w G',Q w G'->Q' w G')->sp ws G Q XN->sp ws G Q' XN) {A:Around} (hr:Room k A):SxE (q.at A) ⟨hcM y,hcS f sp⟩:=by
 intro X fits e xs es he each hn pa;obtain ⟨x,qp,a,pos,rfl,rfl⟩:=zgc (sc:=X.env.scope) he;have e:=fits.eq
 injection e with e1 e2 e3 e4 e5 e6
 subst e6;rw [e1,e2,e3,e4,e5] at FO;rw [e3] at hk hb
 match es,each with
 | [t1,t2],each =>
  refine ⟨fun pins s σ H Q I h=>?_,fun _=>rfl,fun _ _ _ z=>nomatch z⟩;obtain ⟨σ3,G,hs,ab,h⟩:=h;have hn2:([a]:List Expr).all wW=true:=by simpa [wW] using hn
  obtain ⟨s1,s2⟩:=jO (env:=X.env) (pos:=pos) hn2
  have p2:PA X [a] (sL X.K (nI [t2])):=(zcd each.2.2.2.1 ze2 s1).imp fun τ H Q h=>by
   obtain ⟨σ,G,hs,ab,h⟩:=h;refine ⟨σ,G,hs,ab,each.2.2.1 σ G _ _ (fun w G1 h=>?_) h⟩;intro v H1 g1 rv a1;exact h [v] H1 g1 ⟨v,[],rfl,rv,rfl⟩ a1
  refine wpAny_Call_Name_kw (yB (each.2.1 pins s σ H (fun v H1=>∃ w G1,wJ X.K H1 w v/\xI X.K H1 G1/\yF X.K H H1/\t2 σ3 G1 fun u G2=>hcS f sp [w,u] G2 (vK X.K H Q)) I ⟨σ3,G,hs,ab,each.1 σ3 G _ _ (fun w G1 h v H1 g1 rv a1=>⟨w,G1,rv,a1,g1,h⟩) h⟩) fun v s3 ⟨x1,H1,I1,r1,w,G1,rw1,a1,g1,q1⟩=>?_);have hA:=p2 pos pins s3 σ H1 (fun ys H2=>(∃ z,ys=[z]/\v=Value.ref f/\vQ X.K sp [z] H2 Q (fun _ _ _=>False))) I1 ⟨σ3,G1,hs.mono g1,a1,each.2.2.1 σ3 G1 _ _ (fun u G2 hq=>?_) q1⟩
  .rw [s1] at hA ⊢;refine PySem.W.callWith_of (P:=fun h=>X.K.In h/\v=Value.ref f) (by show ((false || (backTo pos (starEach [] X.env)).any (·.1)) || false)=false;rfl) (fun h z=>by rw [z.2];exact PySem.W.keeps_K hk h z.1) (Calls.evalArgs_plain (yB hA fun us s4 ⟨ys,H2,I2,r2,z,ez,ev,q2⟩=>⟨⟨I2.kIn,ev⟩,?_⟩));subst ez;subst ev;exact zb4 (ds:=[]) (dvs:=[]) FO hr hb .nil zfN I2 r2 q2
  .intro ys H2 g2 rs a2;obtain ⟨z,rfl,rz⟩:=qY rs;unfold hcS at hq
   split at hq
   .rename_i p u' ew;cases ew;obtain ⟨rfl,hq⟩:=hq;cases (show x1=.ref p from rw1);cases (show v=Value.ref p from r1);exact ⟨z,rfl,rfl,[u],G2,rs,a2,mono _ _ _ _ (fun w' G' h v' H' g'=>h v' H' (g1.trans (g2.trans g'))) hq⟩
   .exact hq.elim
end L3
namespace L3
open PySem PySem.Spec PyProof.Rows L2
def sumS:RS:=fun ws G Q=>match ws with
 | [.ref p]=>∃ ns:List Int,yN G p=some (ns.map .int)/\Q (.int ns.sum) G
 |_=>False
theorem fH:wB sumS:=by
 intro ws G Q Q' k h;unfold sumS at h ⊢
 split at h
 .obtain ⟨ns,e,h⟩:=h;exact ⟨ns,e,k _ _ h⟩
 .exact h.elim
theorem zaE {K:yM} {H:Hp}:∀ {ns:List Int} {vs:List V} {us:List Value},yY K H (ns.map .int) vs->yX vs us->us.length=ns.length/\∀ (i:Nat) (v:Value),us[i]?=some v->∃ t,v=.int (ns.getD i 0) t
 | [],vs,us,r,v=>by
  cases (show vs=[] from r);cases v;exact ⟨rfl,fun i v e=>by cases e⟩
 |x::ns,vs,us,r,v=>by
  obtain ⟨y,tl,rfl,ry,rt⟩:=r;cases (show y=.int x from ry)
  cases v with
  |cons a c =>
   obtain ⟨tk,rfl⟩:=a;obtain ⟨h1,h2⟩:=zaE rt c;refine ⟨by rw [List.length_cons,List.length_cons,h1],fun i v e=>?_⟩
   cases i with
   |zero=>cases e;exact ⟨tk,rfl⟩
   |succ i=>exact h2 i v e
theorem nF (f:Nat->Int) (x:Int):∀ n,preSum (fun i=>if i=0 then x else f (i-1)) (n+1)=x+preSum f n
 | 0=>by show 0+x=x+0;omega
 |n+1=>by
  show preSum _ (n+1)+_=_;rw [nF f x n];show x+preSum f n+f n=x+(preSum f n+f n);omega
theorem dX:∀ ns:List Int,preSum (fun i=>ns.getD i 0) ns.length=ns.sum
 | []=>rfl
 |x::ns=>by
  have e:(fun i=>(x::ns).getD i 0)=fun i=>if i=0 then x else ns.getD (i-1) 0:=by
   funext i
   cases i<;>simp
  rw [e,List.length_cons,nF (fun i=>ns.getD i 0) x ns.length,dX ns,List.sum_cons]
theorem zgY {X:Cx} (hc:X.calm=true):jZ X (.builtin "sum") (tO X.K sumS):=by
 intro pins s σ H xs us Q I r h;obtain ⟨ws,G,rs,ab,h⟩:=h;unfold sumS at h
 split at h
 .rename_i p;obtain ⟨v,rfl,rv⟩:=qY rs;cases (show v=.ref p from rv);obtain ⟨ns,e,h⟩:=h;obtain ⟨u,rfl,ru⟩:=qZ r;cases ru;obtain ⟨vs,sq,rr⟩:=ab.seq e;obtain ⟨its,rv,pl,hz⟩:=I.list sq;obtain ⟨hn,hv⟩:=zaE rr rv;have hl:=pl.isList
  have hlt:p<s.heap.objs.size:=by
   obtain ⟨o,ho,_⟩:=hl;exact Heap.lt_size ho
  have W:=Walks.list (prog:=X.prog) (w:=X.w) (A:=X.A.in1) (I.ok.hd hc) s.heap.objs.size p (Nat.ne_of_lt hlt) its.toArray;have hs:its.toArray.size=ns.length:=by simpa using hn
  rw [hs] at W;refine call_sum_walkG (wpAny_pyIter_list hl ⟨s.heap.objs.size,_,_,_,_,_,fun i=>ns.getD i 0,rfl,W,⟨⟨_,Heap.get?_push_size _ rfl,rfl,rfl⟩,hl.push _⟩,fun b hb=>?_,fun i v hv'=>hv i v (by simpa using hv'),fun h' tk t' k=>?_⟩)
  .have hsz:∀ (hp:Heap) (o:Obj),(hp.push o).objs.size=hp.objs.size+1:=fun hp o=>by simp [Heap.push]
   rw [hsz];simp only [List.mem_cons,List.not_mem_nil,or_false] at hb;rcases hb with rfl|rfl
   .exact Nat.lt_succ_self _
   .exact Nat.lt_succ_of_lt hlt
  .rw [dX];refine ⟨.int ns.sum,H,I.kept fun b o e'=>k b o (fun hm=>?_) (Heap.get?_push_of_some _ e'),⟨t',rfl⟩,h _ H .refl rfl ab⟩;rw [List.mem_singleton] at hm;exact Nat.ne_of_lt (Heap.lt_size e') hm
 .exact h.elim
abbrev eSum:Fn3:=⟨"sum", fun ws G Q _=>sumS ws G Q⟩
theorem zgk {q:Pr} {A:Around} (hm:q.mg "sum" = none):qR (q.at A) eSum:=⟨tH (id := "sum") hm (by decide +kernel) (fun X f=>zgY f.calm) fH (fun _ _ h=>h),fun ws G Q Q' _ k h=>fH ws G Q Q' k h⟩
abbrev eAny:Fn3:=⟨"any", fun ws G Q _=>allS (·.any id) ws G Q⟩
theorem zgr {q:Pr} {A:Around} (hm:q.mg "any" = none):qR (q.at A) eAny:=⟨tH (id := "any") hm (by decide +kernel) (fun X f=>zix f.calm) (uI _) (fun _ _ h=>h),fun ws G Q Q' _ k h=>uI _ ws G Q Q' k h⟩
def dg2S:MS:=fun x ws G Q=>match x,ws with
 | .ref p,[.str k,d]=>(match G p with|some (.dic kvs)=>Q ((tG kvs (.inr k)).getD d) G|_=>False)
 |_,_=>False
theorem cR:∀ x ws G (Q Q':Q3),(∀ w G',Q w G'->Q' w G')->dg2S x ws G Q->dg2S x ws G Q':=by
 intro x ws G Q Q' k h;unfold dg2S at h ⊢
 split at h
 .split at h
  .exact k _ _ h
  .exact h.elim
 .exact h.elim
theorem dg_ok {X:Cx} (hu:X.A.units+200<cLine):MtR X "dict.get" (lowM X.K dg2S):=by
 intro pins s σ H x xs v us Q I rx rxs h;obtain ⟨w,ws,G,rw1,rs,ab,h⟩:=h;unfold dg2S at h
 split at h
 .rename_i p k d;cases (show x=.ref p from rw1);cases (show v=Value.ref p from rx);obtain ⟨vk,tl,rfl,rk,rt⟩:=rs;obtain ⟨vd,rfl,rd⟩:=qY rt;cases (show vk=.str k from rk)
  cases rxs with
  |cons ru rr =>
  obtain ⟨ud,rfl,rud⟩:=qZ rr
  split at h
  .rename_i kvs e;obtain ⟨l,e',rkv⟩:=ab.dic e;have dg:DGet H p (.str k) (qE l (.inr k)):=.inl ⟨l,.inr k,.inl e',rfl,rfl⟩;refine zio (by omega) I dg ru rud fun w' s' I' r'=>⟨(qE l (.inr k)).getD vd,H,I',r',?_⟩
   cases eq:tG kvs (.inr k) with
   |some w1 =>
    obtain ⟨v1,ev,rp⟩:=rkv.get eq;rw [eq] at h;rw [ev];exact h _ H .refl rp ab
   |none =>
    rw [eq] at h;rw [rkv.none eq];exact h _ H .refl rd ab
  .exact h.elim
 .exact h.elim
abbrev eGet:Mt3:=⟨"get", "dict", dg2S⟩
theorem zcY {q:Pr} {A:Around} (hu:A.units+200<cLine):MtE (q.at A) eGet/\rE eGet:=⟨mV PySem.F.plainAttrs_dict PySem.F.slot_dict_get PySem.F.type_dict_get (fun X f=>dg_ok (by rw [f.A];exact hu)) cR,cR⟩
end L3
namespace L2
open PySem PySem.Spec PyProof.Rows
def Itw (lo:Int) (n:Nat):It where
 go:=fun i _=>i<n
 yld:=fun i H x H'=>H'=H/\x=.int (lo-i)
 stop:=fun i _=>n<=i
theorem zbH {P:Program} {w:World} {K:PySem.W.Frag} {tg:Expr} (it:Addr) (lo:Int) (n:Nat):Turn P w K tg (Itw lo n) [it] it (fun i h=>IsRangeIter h it (lo+(i:Nat) * (-1)) ((n:Int)-(i:Nat)) (-1)) where
 mem:=List.mem_singleton.mpr rfl
 obj:=fun i h st b hb=>by
  cases zzO hb
  exact ⟨_,st,fun v z=>by
   have z':Data.fields _=Data.cell v:=z;cases z'⟩
 keep:=fun i h h' st k=>k it (List.mem_singleton.mpr rfl) _ st
 item:=by
  intro X e1 e2 e3 hc i pins s σ H E I hf st hg;subst e1;subst e2;subst e3;obtain ⟨f0,f1,f2,f3,f4,f5⟩:=hf it (List.mem_singleton.mpr rfl);refine (Walks.range (prog:=X.prog) (w:=X.w) (I.ok.hd hc) it lo (-1) n).item i s _ _ hg st fun v h' tk hv st' kk=>?_;obtain ⟨t,rfl⟩:=hv;have J:Inv X pins σ H { s with heap:=h',toks:=tk }:=I.turned (fun b o hb e=>kk b o (fun z=>hb (zzO z)) e) f0 f1 f3 f4 f5;refine ⟨_,rfl,dD (s:={ s with heap:=h',toks:=tk }) (n := "range_iterator") st' rfl rfl (by decide) ⟨.int (lo-i),H,J,⟨t,?_⟩,⟨rfl,rfl⟩,st',fun b hb=>(hf b hb).1⟩⟩;rw [show lo+(i:Int) * (-1)=lo-i by omega]
 done:=by
  intro X e1 e2 e3 hc i pins s σ H E I hf st hg;subst e1;subst e2;subst e3;obtain ⟨f0,f1,f2,f3,f4,f5⟩:=hf it (List.mem_singleton.mpr rfl);exact wpAny_pyNext_range_end (I.ok.hd hc) st (by have:n<=i:=hg;omega) fun h' eb=>⟨rfl,I.turned (t':=s.toks) (fun b o hb e=>eb b o hb e) f0 f1 f3 f4 f5⟩
 self:=fun _ _ _ _ _ st h=>wpAny_pyIter_rangeiter st h
theorem fC (a b:Int):Builtin.Range.rangeSize a b (-1)=((a-b).toNat:Int):=by
 unfold Builtin.Range.rangeSize;rw [if_neg (by decide),show (-(-1):Int)=1 from rfl,Int.ediv_one]
 split<;>omega
theorem zbf {a b:Int} (h1:-(2 ^ 62)<=a) (h2:a<2 ^ 62) (h3:-(2 ^ 62)<=b) (h4:b<2 ^ 62):Builtin.Range.small a b (-1)=true:=by
 unfold Builtin.Range.small;rw [fC];have e:(((a-b).toNat:Nat):Int)=if b<a then a-b else 0:=by split<;>omega
 rw [e];simp only [show ¬ ((-1:Int) > 0) by decide,if_false,Builtin.Range.rangeFitsLong,Bool.and_eq_true,Bool.or_eq_true,decide_eq_true_eq,beq_iff_eq]
 split<;>omega
section
variable {X : Cx} {tg : Expr}
theorem zbj {pins:List (Addr×Obj)} {σ:St} {H:Hp} {s:Shared} {R:It->Hp->Prop} {E:Value->Shared->Prop} {lo hi:Int} {t u v:Tok} {tk:Nat} (I:Inv X pins σ H s) (h1:-(2 ^ 62)<=lo) (h2:lo<2 ^ 62) (h3:-(2 ^ 62)<=hi) (h4:hi<2 ^ 62)
  (q:R (Itw lo (lo-hi).toNat) H):wpAny (model X.prog X.w) X.A (pyIter (.ref s.heap.objs.size)) (PIE X pins σ tg R) E { s with heap:=s.heap.push { cls:=.type "range", data:=.fields #[.int lo t,.int hi u,.int (-1) v] },toks:=tk }:=by
 refine wpAny_pyIter_range (IsRange.new ..) (zbf h1 h2 h3 h4) ?_;generalize hh:s.heap.push { cls:=.type "range", data:=.fields #[.int lo t,.int hi u,.int (-1) v] }=h0;have J:Inv X pins σ H { s with heap:=h0,toks:=tk }:=by rw [← hh];exact I.kept fun b o e=>Heap.get?_push_of_some _ e
 refine ⟨h0.objs.size,[h0.objs.size],_,_,H,rfl,J.kept (t':=tk) fun b o e=>Heap.get?_push_of_some _ e,zbH _ lo (lo-hi).toNat,?_,fun b hb=>?_,q⟩
 .show IsRangeIter _ _ (lo+((0:Nat):Int) * (-1)) ((((lo-hi).toNat:Nat):Int)-((0:Nat):Int)) (-1);rw [show lo+((0:Nat):Int) * (-1)=lo by simp,show (((lo-hi).toNat:Nat):Int)-((0:Nat):Int)=Builtin.Range.rangeSize lo hi (-1) by rw [fC];simp];exact Heap.get?_push_size _ rfl
 .cases zzO hb;exact J.fpOk (zzR _) (J.hok.fresh (zzR _))
end
end L2
namespace L3
open PySem PySem.Spec PyProof.Rows L2 PySem.SeqAt
def inB (j:Int):Prop:=-(2 ^ 62)<=j/\j<2 ^ 62
def rg3 (ws:List W) (G:Hw) (R:List W->(Hw->Prop)->Hw->Prop):Prop:=match ws with
 | [.int j]=>inB j/\R ((List.range j.toNat).map fun i=>.int (i:Nat)) (fun _=>True) G
 | [.int i,.int j]=>inB i/\inB j/\R ((List.range (j-i).toNat).map fun k=>.int (i+(k:Nat))) (fun _=>True) G
 | [.int i,.int j,.int c]=>c=-1/\inB i/\inB j/\R ((List.range (i-j).toNat).map fun k=>.int (i-(k:Nat))) (fun _=>True) G
 |_=>False
theorem zdO:zdp ⟨"range", rg3⟩:=by
 intro ws G R R' k h;replace h:rg3 ws G R:=h;show rg3 ws G R';unfold rg3 at h ⊢
 split at h
 .exact ⟨h.1,k _ _ _ h.2⟩
 .exact ⟨h.1,h.2.1,k _ _ _ h.2.2⟩
 .exact ⟨h.1,h.2.1,h.2.2.1,k _ _ _ h.2.2.2⟩
 .exact h.elim
theorem zh4 {K:yM} {H1:Hp} {lo:Int} {n:Nat}:ItIs K (Itr lo n) H1 ((List.range n).map fun i=>W.int (lo+(i:Nat))) (fun _=>True) where
 go:=fun i H G _ ab st hi=>by show i<n;simpa using hi
 yld:=fun i H G x H' _ ab st hi y=>by
  obtain ⟨rfl,rfl⟩:=y;have hi':i<n:=by simpa using hi
  exact ⟨.int (lo+(i:Nat)),by simp [hi'],.refl,rfl,ab⟩
 stop:=fun i H G _ ab st hi=>by show n<=i;simpa using hi
theorem zh3 {K:yM} {H1:Hp} {lo:Int} {n:Nat}:ItIs K (Itw lo n) H1 ((List.range n).map fun i=>W.int (lo-(i:Nat))) (fun _=>True) where
 go:=fun i H G _ ab st hi=>by show i<n;simpa using hi
 yld:=fun i H G x H' _ ab st hi y=>by
  obtain ⟨rfl,rfl⟩:=y;have hi':i<n:=by simpa using hi
  exact ⟨.int (lo-(i:Nat)),by simp [hi'],.refl,rfl,ab⟩
 stop:=fun i H G _ ab st hi=>by show n<=i;simpa using hi
theorem vals3 {vs:List V} {a b c:V} {us:List Value} (e:vs=[a,b,c]) (r:yX vs us):∃ x y z,us=[x,y,z]/\yW a x/\yW b y/\yW c z:=by
 subst e
 cases r with
 |cons r1 r=>cases r with
  |cons r2 r=>cases r with
   |cons r3 r=>cases r;exact ⟨_,_,_,rfl,r1,r2,r3⟩
theorem zia {q:Pr} {A:Around} (hm:q.mg "range" = none):ItE (q.at A) ⟨"range", rg3⟩:=by
 intro X fits gl tg args t qp pos mt hn pa hnil hdb hnm;have hm':X.mg "range" = none:=by rw [fits.mg];exact hm
 intro pins s σ H R I h
 cases args with
 |nil =>
  obtain ⟨σ3,G,hs,ab,h⟩:=h;exact (hnil rfl _ _ _ h).elim
 |cons a r =>
  obtain ⟨s1,s2⟩:=jO (env:=X.env) (pos:=pos) hn;obtain ⟨σ3,G,hs,ab,h⟩:=h
  have h':=gO (S:=fun vs H1=>(∃ j:Int,vs=[.int j]/\inB j/\R (Itr 0 j.toNat) H1)\/(∃ i j:Int,vs=[.int i,.int j]/\inB i/\inB j/\R (Itr i (j-i).toNat) H1)\/∃ i j:Int,vs=[.int i,.int j,.int (-1)]/\inB i/\inB j/\R (Itw i (i-j).toNat) H1) mt hs ab h fun ws G1 vs H1 g1 hs1 rs a1 h=>by
   dsimp only at h;unfold rg3 at h
   split at h
   .rename_i j;obtain ⟨v,rfl,rv⟩:=qY rs;cases (show v=.int j from rv);exact .inl ⟨j,rfl,h.1,h.2 _ H1 g1 a1 zh7⟩
   .rename_i i j;obtain ⟨v1,v2,rfl,r1,r2⟩:=zdQ rs;cases (show v1=.int i from r1);cases (show v2=.int j from r2);exact .inr (.inl ⟨i,j,rfl,h.1,h.2.1,h.2.2 _ H1 g1 a1 zh4⟩)
   .rename_i i j c;obtain ⟨v1,_,rfl,r1,v2,_,rfl,r2,v3,_,rfl,r3,rn⟩:=rs;cases (show _=[] from rn);cases (show v1=.int i from r1);cases (show v2=.int j from r2);cases (show v3=.int c from r3);obtain ⟨rfl,h1,h2,h⟩:=h;exact .inr (.inr ⟨i,j,rfl,h1,h2,h _ H1 g1 a1 zh3⟩)
   .exact h.elim
  refine Call_ (rN I gl hm' boot_range (PyProof.Rows.callWith_type1 (yB (pa pos pins s σ H _ I h') fun us s1 ⟨vs,H1,I1,r1,q1⟩=>?_) s1 s2));rcases q1 with ⟨j,e,q1,q⟩|⟨i,j,e,q1,q2,q⟩|⟨i,j,e,q1,q2,q⟩
  .subst e;obtain ⟨u,rfl,t,rfl⟩:=qZ r1;exact call_range_1 (zaQ I1 (by omega) (by omega) q1.1 q1.2 (by simpa using q))
  .subst e;obtain ⟨u1,u2,rfl,⟨t1,rfl⟩,t2,rfl⟩:=zdu r1;exact call_range_2 (zaQ I1 q1.1 q1.2 q2.1 q2.2 q)
  .obtain ⟨u1,u2,u3,rfl,⟨t1,rfl⟩,⟨t2,rfl⟩,t3,rfl⟩:=vals3 e r1;exact call_range_3 (by decide) (zbj I1 q1.1 q1.2 q2.1 q2.2 q) (.inl (PyProof.noPylong_small (by decide)))
abbrev eRg3:It3:=⟨"range", rg3⟩
theorem zcV {q:Pr} {A:Around} (hm:q.mg "range" = none):ItE (q.at A) eRg3/\zdp eRg3:=⟨zia hm,zdO⟩
end L3
namespace PySem
open Sem (wp)
section
variable {prog : Program} {w : World} {A : Around} {E : Value → Shared → Prop} {s : Shared}
end
end PySem
namespace PySem
open Sem (wp)
section
variable {prog : Program} {w : World} {A : Around} {E : Value → Shared → Prop} {s : Shared}
end
end PySem
namespace L2
open PySem PySem.Spec PyProof.Rows
section
variable {b : Bool} {e it l : Addr}
end
end L2
namespace L3
open PySem PySem.Spec PyProof.Rows L2 PySem.SeqAt
mutual
def dOf:W->PyData
 | .str x=>.str x
 | .tup ws=>.tuple (dOfs ws)
 |_=>.none
def dOfs:List W->List PyData
 | []=>[]
 |w::ws=>dOf w::dOfs ws
end
mutual
def tt:W->Bool
 | .str _=>true
 | .tup ws=>tts ws
 |_=>false
def tts:List W->Bool
 | []=>true
 |w::ws=>tt w&&tts ws
end
section
variable {X : Cx} {pins : List (Addr × Obj)} {σ : L2.St} {H : Hp} {s : Shared}
end
end L3
namespace L3
open PySem PySem.Spec PyProof.Rows L2
def dcM (y:Str):Scope->Expr->Option (List Expr):=fun sc e=>match e with
 | .Call (.Name x _) [a,b] [] _=>if (x==y&&tI sc x)=true then some [a,b] else none
 |_=>none
def dcS (sp:vO) (dws:List W):RS:=fun ws G Q=>sp (ws++dws) G Q XN
theorem zeF {sp:vO} {dws:List W} (mono:∀ ws G (Q Q':Q3),(∀ w G',Q w G'->Q' w G')->sp ws G Q XN->sp ws G Q' XN):wB (dcS sp dws):=fun ws G Q Q' k h=>mono _ _ _ _ k h
theorem zgw {y:Str} {sc:Scope} {e:Expr} {xs:List Expr} (h:dcM y sc e=some xs):∃ q a b pos,e=.Call (.Name y q) [a,b] [] pos/\xs=[a,b]/\tI sc y=true:=by
 unfold dcM at h
 split at h
 .rename_i x q a b pos
  split at h
  .rename_i hb;obtain ⟨h1,h2⟩:=tX hb;cases eq_of_beq h1;cases h;exact ⟨q,a,b,pos,rfl,rfl,h2⟩
  .cases h
 .cases h
theorem sx_dc {p:Par} {y:Str} {sp:vO} {dws:List W} (F:FnE p ⟨y,fun ws G Q _=>sp (ws++dws) G Q XN⟩):SxE p ⟨dcM y,dcS sp dws⟩:=by
 intro X fits e xs es he each hn pa;obtain ⟨q,a,b,pos,rfl,rfl,hg⟩:=zgw he;obtain ⟨gl,d1,n1⟩:=dB (X:=X) rfl hg;exact ⟨F X fits gl [a,b] (nI es) q pos (rJ each) hn pa (fun z=>nomatch z) d1 n1,fun _=>rfl,fun _ _ _ z=>nomatch z⟩
end L3
namespace K48
open PySem PySem.Spec L2 L3
def gK (i:Nat):Stmt:=PySem.Challenge.pw_talkcourt_k48_conditions.main.body.getD i (.Pass ⟨0,0,0,0⟩)
def gls:List Str:=["JOINED", "bool", "tuple", "joined_by"]
def mts:List Str:=["pop", "join", "append", "get", "extend"]
def its:List Str:=["range"]
def sxm:List (Scope->Expr->Option (List Expr)):=[lofM "reversed", rvM,hcM "sides_of"]
def sxm2:List (Scope->Expr->Option (List Expr)):=sxm++[dcM "holds"]
def fns:List Str:=(["max", "len", "all", "list", "isinstance", "any", "sorted", "tuple", "int", "sum", "_law_deal", "_law_draw", "_law_names", "_law_saying", "_law_says", "_law_parts", "_law_word", "_law_condition", "_law_count", "_law_some"]:List Str)++(["_law_doubts", "_law_move", "_law_near", "joined_by", "all_within", "said_by", "told_by", "holds_of_move", "single_holds", "holds", "_law_holds", "law"]:List Str)
/- fn: 0 max,1 len,2 all,3 list,4 isinstance,5 any,6 sorted,7 tuple,8 int,9 sum,10 _law_deal,11 _law_draw,12 _law_names,13 _law_saying,14 _law_says,15 _law_parts,16 _law_word,17 _law_condition,18 _law_count,19 _law_some,20 _law_doubts,21 _law_move,22 _law_near,23 joined_by,24 all_within,25 said_by,26 told_by,27 holds_of_move,28 single_holds,29 holds,30 _law_holds,31 law -/
abbrev jQ:Stmt:=gK 13
def mW:List Str:=["_law_script", "_law_base", "_law_cells", "_law_number", "_law_cell"]
def zbz:ISs:=(.cons (.asg 2 (.lc (.nm 0) ["_law_cell"] [] (.val (.sl (.var 0) (.yes (.var 1)) (.yes (.con (.int 63))))) .no (.call 0 (.cons (.var 0) (.cons (.bin .Sub (.con (.int 0)) (.var 0)) .nil)))))
 (.cons (.asg 3 (.bin .Add (.con (.int 7919)) (.var 1)))
 (.cons (.for (.nm 4) (.val (.var 2)) (.cons (.asg 3 (.bin .Mod (.bin .Add (.bin .Mult (.var 3) (.con (.int 69621))) (.bin .Mod (.var 4) (.con (.int 2147483629)))) (.con (.int 2147483647))))
 .nil))
 (.cons (.ret (.dct ["seed", "number", "left"] (.cons (.var 3) (.cons (.con (.int 0)) (.cons (.spc 0 (.cons (.lc (.nm 0) ["_law_cell"] [] (.val (.var 2)) (.yes (.cmp .GtE (.var 0) (.bin .Pow (.con (.int 10)) (.con (.int 18))))) (.var 0)) .nil)) .nil)))))
 .nil))))
def mJ:MC:=⟨zY jQ,mW,(fun _=>true),fns.take 10,gls,mts,its,sxm,[]⟩
theorem zam:FnScope mW ["_law_script", "_law_base"] (zY jQ):=⟨rfl,rfl,rfl,by decide +kernel,rfl,by decide +kernel,by decide +kernel⟩
theorem fU:kO zbz mJ (zF jQ)=true:=by decide +kernel
abbrev jR:Stmt:=gK 14
def mX:List Str:=["_law_deal_here", "_law_many", "_law_number", "_law_one", "_law_other"]
def zby:ISs:=(.cons (.whl (.and (.cmp .Eq (.ix (.var 0) (.con (.str "number"))) (.con (.int 0))) (.cmp .Gt (.call 1 (.cons (.ix (.var 0) (.con (.str "left"))) .nil)) (.con (.int 0)))) (.cons (.asgI (.var 0) (.con (.str "number")) (.mth 0 (.ix (.var 0) (.con (.str "left"))) .nil))
 .nil))
 (.cons (.asg 2 (.ix (.var 0) (.con (.str "number"))))
 (.cons (.ite (.cmp .Gt (.var 2) (.con (.int 0))) (.cons (.asgI (.var 0) (.con (.str "number")) (.bin .FloorDiv (.var 2) (.var 1)))
 (.cons (.ret (.bin .Mod (.var 2) (.var 1)))
 .nil)) .nil)
 (.cons (.asg 3 (.bin .Mod (.bin .Add (.bin .Mult (.ix (.var 0) (.con (.str "seed"))) (.con (.int 48271))) (.con (.int 7919))) (.con (.int 2147483647))))
 (.cons (.asgI (.var 0) (.con (.str "seed")) (.bin .Mod (.bin .Add (.bin .Mult (.var 3) (.con (.int 40692))) (.con (.int 104729))) (.con (.int 2147483399))))
 (.cons (.asg 4 (.bin .Mod (.bin .Mult (.ix (.var 0) (.con (.str "seed"))) (.ix (.var 0) (.con (.str "seed")))) (.con (.int 2147483563))))
 (.cons (.ret (.bin .Mod (.bin .Add (.bin .Mult (.bin .Mod (.bin .Mult (.var 3) (.var 3)) (.con (.int 2147483629))) (.con (.int 2147483563))) (.var 4)) (.var 1)))
 .nil)))))))
def mK:MC:=⟨zY jR,mX,(fun _=>true),fns.take 11,gls,mts,its,sxm,[]⟩
theorem zal:FnScope mX ["_law_deal_here", "_law_many"] (zY jR):=⟨rfl,rfl,rfl,by decide +kernel,rfl,by decide +kernel,by decide +kernel⟩
theorem fV:kO zby mK (zF jR)=true:=by decide +kernel
abbrev wP:Stmt:=gK 15
def vB:List Str:=["_law_deal_here", "_law_many", "_law_letters", "_law_names_here", "_law_core", "_law_at", "_law_turn", "_law_k", "_law_name"]
def wK:ISs:=(.cons (.asg 2 (.con (.str "abcdefghijklmnopqrstuvwxyz")))
 (.cons (.asg 3 (.lst .nil))
 (.cons (.asg 4 (.mth 1 (.con (.str "")) (.cons (.lc (.nm 0) ["_law_k"] [2,0] (.blt 0 (.cons (.call 11 (.cons (.var 0) (.cons (.con (.int 5)) .nil))) .nil)) .no (.ix (.var 1) (.call 11 (.cons (.var 2) (.cons (.con (.int 26)) .nil))))) .nil)))
 (.cons (.asg 5 (.call 11 (.cons (.var 0) (.cons (.bin .Add (.call 1 (.cons (.var 4) .nil)) (.con (.int 1))) .nil))))
 (.cons (.asg 6 (.call 11 (.cons (.var 0) (.cons (.con (.int 26)) .nil))))
 (.cons (.for (.nm 7) (.blt 0 (.cons (.var 1) .nil)) (.cons (.asg 8 (.bin .Add (.bin .Add (.sl (.var 4) .no (.yes (.var 5))) (.ix (.var 2) (.bin .Mod (.bin .Add (.var 6) (.bin .Mult (.con (.int 7)) (.var 7))) (.con (.int 26))))) (.sl (.var 4) (.yes (.var 5)) .no)))
 (.cons (.ite (.cmp .In (.var 8) (.tup (.cons (.con (.str "and")) (.cons (.con (.str "or")) (.cons (.con (.str "not")) (.cons (.con (.str "then")) .nil)))))) (.cons (.asg 8 (.bin .Add (.var 8) (.con (.str "q"))))
 .nil) .nil)
 (.cons (.ex (.mth 2 (.var 3) (.cons (.var 8) .nil)))
 .nil))))
 (.cons (.ite (.and (.cmp .Gt (.var 1) (.con (.int 1))) (.cmp .Eq (.call 11 (.cons (.var 0) (.cons (.con (.int 2)) .nil))) (.con (.int 1)))) (.cons (.asgI (.var 3) (.con (.int 0)) (.bin .Add (.ix (.var 3) (.con (.int 0))) (.con (.str "z"))))
 .nil) .nil)
 (.cons (.ret (.var 3))
 .nil))))))))
def pZ:MC:=⟨zY wP,vB,(fun _=>true),fns.take 12,gls,mts,its,sxm,[]⟩
theorem bT:FnScope vB ["_law_deal_here", "_law_many"] (zY wP):=⟨rfl,rfl,rfl,by decide +kernel,rfl,by decide +kernel,by decide +kernel⟩
theorem mB:kO wK pZ (zF wP)=true:=by decide +kernel
abbrev xD:Stmt:=gK 16
def kF:List Str:=["_law_deal_here", "_law_names_here", "_law_many", "_law_way", "_law_left", "_law_one"]
def qO:ISs:=(.cons (.ite (.cmp .Eq (.var 2) (.con (.int 1))) (.cons (.ret (.tup (.cons (.con (.str "say")) (.cons (.ix (.var 1) (.call 11 (.cons (.var 0) (.cons (.call 1 (.cons (.var 1) .nil)) .nil)))) .nil))))
 .nil) .nil)
 (.cons (.asg 3 (.call 11 (.cons (.var 0) (.cons (.con (.int 4)) .nil))))
 (.cons (.ite (.or (.cmp .Eq (.var 2) (.con (.int 2))) (.cmp .Eq (.var 3) (.con (.int 3)))) (.cons (.ret (.tup (.cons (.con (.str "not")) (.cons (.call 13 (.cons (.var 0) (.cons (.var 1) (.cons (.bin .Sub (.var 2) (.con (.int 1))) .nil)))) .nil))))
 .nil) .nil)
 (.cons (.asg 4 (.bin .Add (.con (.int 1)) (.call 11 (.cons (.var 0) (.cons (.bin .Sub (.var 2) (.con (.int 2))) .nil)))))
 (.cons (.asg 5 (.call 13 (.cons (.var 0) (.cons (.var 1) (.cons (.var 4) .nil)))))
 (.cons (.ret (.tup (.cons (.ix (.lst (.cons (.con (.str "and")) (.cons (.con (.str "or")) (.cons (.con (.str "if")) .nil)))) (.var 3)) (.cons (.var 5) (.cons (.call 13 (.cons (.var 0) (.cons (.var 1) (.cons (.bin .Sub (.bin .Sub (.var 2) (.con (.int 1))) (.var 4)) .nil)))) .nil)))))
 .nil))))))
def sN:MC:=⟨zY xD,kF,(fun _=>true),fns.take 14,gls,mts,its,sxm,[]⟩
theorem gE:FnScope kF ["_law_deal_here", "_law_names_here", "_law_many"] (zY xD):=⟨rfl,rfl,rfl,by decide +kernel,rfl,by decide +kernel,by decide +kernel⟩
theorem pH:kO qO sN (zF xD)=true:=by decide +kernel
abbrev jU:Stmt:=gK 17
def tR:List Str:=["_law_move_here"]
def vT:ISs:=(.cons (.ite (.cmp .Eq (.ix (.var 0) (.con (.int 0))) (.con (.str "answer"))) (.cons (.ret (.ix (.var 0) (.con (.int 2))))
 .nil) .nil)
 (.cons (.ite (.or (.cmp .Eq (.ix (.var 0) (.con (.int 1))) (.con (.str "if"))) (.cmp .Eq (.ix (.var 0) (.con (.int 1))) (.con (.str "not")))) (.cons (.ret (.ix (.ix (.var 0) (.con (.int 2))) (.con (.int 1))))
 .nil) .nil)
 (.cons (.ret (.con .none))
 .nil)))
def mN:MC:=⟨zY jU,tR,(fun _=>true),fns.take 14,gls,mts,its,sxm,[]⟩
theorem zai:FnScope tR ["_law_move_here"] (zY jU):=⟨rfl,rfl,rfl,by decide +kernel,rfl,by decide +kernel,by decide +kernel⟩
theorem fY:kO vT mN (zF jU)=true:=by decide +kernel
abbrev wQ:Stmt:=gK 18
def vC:List Str:=["_law_saying_here", "_law_found", "_law_part"]
def kY:ISs:=(.cons (.asg 1 (.lst (.cons (.var 0) .nil)))
 (.cons (.for (.nm 2) (.val (.sl (.var 0) (.yes (.con (.int 1))) .no)) (.cons (.ite (.cmp .NotEq (.ix (.var 0) (.con (.int 0))) (.con (.str "say"))) (.cons (.asg 1 (.bin .Add (.var 1) (.lc (.nm 0) ["_law_one"] [1] (.val (.call 15 (.cons (.var 2) .nil))) (.yes (.cmp .NotIn (.var 0) (.var 1))) (.var 0))))
 .nil) .nil)
 .nil))
 (.cons (.ret (.var 1))
 .nil)))
def rA:MC:=⟨zY wQ,vC,(fun _=>true),fns.take 16,gls,mts,its,sxm,[]⟩
theorem bU:FnScope vC ["_law_saying_here"] (zY wQ):=⟨rfl,rfl,rfl,by decide +kernel,rfl,by decide +kernel,by decide +kernel⟩
theorem mD:kO kY rA (zF wQ)=true:=by decide +kernel
abbrev jW:Stmt:=gK 19
def tU:List Str:=["_law_deal_here", "_law_saying_here", "_law_words", "_law_some_here"]
def xL:ISs:=(.cons (.asg 2 (.dct ["and", "or", "if", "not"] (.cons (.lst (.cons (.con (.str "left")) (.cons (.con (.str "right")) .nil))) (.cons (.lst (.cons (.con (.str "which")) .nil)) (.cons (.lst (.cons (.con (.str "if")) .nil)) (.cons (.lst (.cons (.con (.str "not")) .nil)) .nil))))))
 (.cons (.asg 3 (.lst (.cons (.con (.str "left")) (.cons (.con (.str "right")) (.cons (.con (.str "which")) (.cons (.con (.str "if")) (.cons (.con (.str "not")) .nil)))))))
 (.cons (.ite (.cmp .Gt (.call 11 (.cons (.var 0) (.cons (.con (.int 4)) .nil))) (.con (.int 0))) (.cons (.asg 3 (.mth 3 (.var 2) (.cons (.ix (.var 1) (.con (.int 0))) (.cons (.var 3) .nil))))
 .nil) .nil)
 (.cons (.ret (.ix (.var 3) (.call 11 (.cons (.var 0) (.cons (.call 1 (.cons (.var 3) .nil)) .nil)))))
 .nil))))
def mQ:MC:=⟨zY jW,tU,(fun _=>true),fns.take 16,gls,mts,its,sxm,[]⟩
theorem zag:FnScope tU ["_law_deal_here", "_law_saying_here"] (zY jW):=⟨rfl,rfl,rfl,by decide +kernel,rfl,by decide +kernel,by decide +kernel⟩
theorem gA:kO xL mQ (zF jW)=true:=by decide +kernel
abbrev yD:Stmt:=gK 20
def qV:List Str:=["_law_deal_here", "_law_sayings", "_law_deep", "_law_way", "_law_saying_here", "_law_one", "_law_word_here"]
def yO:ISs:=(.cons (.asg 3 (.call 11 (.cons (.var 0) (.cons (.con (.int 10)) .nil))))
 (.cons (.asg 4 (.ix (.var 1) (.call 11 (.cons (.var 0) (.cons (.call 1 (.cons (.var 1) .nil)) .nil)))))
 (.cons (.ite (.and (.cmp .Gt (.var 3) (.con (.int 6))) (.cmp .Gt (.var 2) (.con (.int 0)))) (.cons (.asg 5 (.call 17 (.cons (.var 0) (.cons (.var 1) (.cons (.bin .Sub (.var 2) (.con (.int 1))) .nil)))))
 (.cons (.ite (.cmp .Eq (.var 3) (.con (.int 9))) (.cons (.ret (.tup (.cons (.con (.str "not")) (.cons (.var 5) .nil))))
 .nil) .nil)
 (.cons (.ret (.tup (.cons (.ix (.lst (.cons (.con (.str "and")) (.cons (.con (.str "or")) .nil))) (.bin .Sub (.var 3) (.con (.int 7)))) (.cons (.var 5) (.cons (.call 17 (.cons (.var 0) (.cons (.var 1) (.cons (.bin .Sub (.var 2) (.con (.int 1))) .nil)))) .nil)))))
 .nil))) .nil)
 (.cons (.ite (.cmp .Lt (.var 3) (.con (.int 2))) (.cons (.ret (.tup (.cons (.con (.str "any")) .nil)))
 .nil) .nil)
 (.cons (.ite (.cmp .Lt (.var 3) (.con (.int 4))) (.cons (.ret (.tup (.cons (.ix (.lst (.cons (.con (.str "said")) (.cons (.con (.str "fresh")) (.cons (.con (.str "heard")) .nil)))) (.call 11 (.cons (.var 0) (.cons (.con (.int 3)) .nil)))) (.cons (.var 4) .nil))))
 .nil) .nil)
 (.cons (.asg 6 (.ix (.lst (.cons (.call 16 (.cons (.var 0) (.cons (.var 4) .nil))) (.cons (.con (.str "begin")) .nil))) (.call 8 (.cons (.cmp .Eq (.call 11 (.cons (.var 0) (.cons (.con (.int 5)) .nil))) (.con (.int 0))) .nil))))
 (.cons (.ret (.tup (.cons (.ix (.lst (.cons (.con (.str "open")) (.cons (.con (.str "used")) (.cons (.con (.str "asked")) (.cons (.con (.str "answered")) .nil))))) (.call 11 (.cons (.var 0) (.cons (.con (.int 4)) .nil)))) (.cons (.var 6) (.cons (.var 4) .nil)))))
 .nil)))))))
def vR:MC:=⟨zY yD,qV,(fun _=>true),fns.take 18,gls,mts,its,sxm,[]⟩
theorem rV:FnScope qV ["_law_deal_here", "_law_sayings", "_law_deep"] (zY yD):=⟨rfl,rfl,rfl,by decide +kernel,rfl,by decide +kernel,by decide +kernel⟩
theorem tN:kO yO vR (zF yD)=true:=by decide +kernel
abbrev wN:Stmt:=gK 22
def uZ:List Str:=["_law_thing"]
def kX:ISs:=(.cons (.ite (.call 4 (.cons (.var 0) (.cons (.glb 2) .nil))) (.cons (.ret (.call 9 (.cons (.lc (.nm 0) ["_law_part"] [] (.val (.var 0)) .no (.call 18 (.cons (.var 0) .nil))) .nil)))
 .nil) .nil)
 (.cons (.ret (.call 8 (.cons (.cmp .NotEq (.var 0) (.con (.str "say"))) .nil)))
 .nil))
def pX:MC:=⟨zY wN,uZ,(fun _=>true),fns.take 19,gls,mts,its,sxm,[]⟩
theorem bR:FnScope uZ ["_law_thing"] (zY wN):=⟨rfl,rfl,rfl,by decide +kernel,rfl,by decide +kernel,by decide +kernel⟩
theorem hX:kO kX pX (zF wN)=true:=by decide +kernel
abbrev jV:Stmt:=gK 25
def tT:List Str:=["_law_deal_here", "_law_things"]
def vU:ISs:=(.cons (.ret (.call 7 (.cons (.call 6 (.cons (.lc (.nm 0) ["_law_thing"] [0] (.val (.var 1)) (.yes (.cmp .Eq (.call 11 (.cons (.var 1) (.cons (.con (.int 2)) .nil))) (.con (.int 0)))) (.var 0)) .nil)) .nil)))
 .nil)
def mP:MC:=⟨zY jV,tT,(fun _=>true),fns.take 19,gls,mts,its,sxm,[]⟩
theorem zah:FnScope tT ["_law_deal_here", "_law_things"] (zY jV):=⟨rfl,rfl,rfl,by decide +kernel,rfl,by decide +kernel,by decide +kernel⟩
theorem fZ:kO vU mP (zF jV)=true:=by decide +kernel
abbrev xC:Stmt:=gK 26
def vZ:List Str:=["_law_deal_here", "_law_sayings", "_law_words", "_law_some_here", "_law_saying_here"]
def qN:ISs:=(.cons (.asg 2 (.dct ["and", "or", "if", "not", "say"] (.cons (.lst (.cons (.con (.str "left")) (.cons (.con (.str "right")) .nil))) (.cons (.lst (.cons (.con (.str "which")) .nil)) (.cons (.lst (.cons (.con (.str "if")) .nil)) (.cons (.lst (.cons (.con (.str "not")) .nil)) (.cons (.lst .nil) .nil)))))))
 (.cons (.asg 3 (.lst .nil))
 (.cons (.for (.nm 4) (.val (.var 1)) (.cons (.asg 3 (.bin .Add (.var 3) (.lc (.nm 0) ["_law_word_here"] [4] (.val (.ix (.var 2) (.ix (.var 4) (.con (.int 0))))) .no (.tup (.cons (.var 0) (.cons (.var 1) .nil))))))
 .nil))
 (.cons (.ret (.call 19 (.cons (.var 0) (.cons (.var 3) .nil))))
 .nil))))
def sM:MC:=⟨zY xC,vZ,(fun _=>true),fns.take 20,gls,mts,its,sxm,[]⟩
theorem gD:FnScope vZ ["_law_deal_here", "_law_sayings"] (zY xC):=⟨rfl,rfl,rfl,by decide +kernel,rfl,by decide +kernel,by decide +kernel⟩
theorem pG:kO qN sM (zF xC)=true:=by decide +kernel
abbrev jS:Stmt:=gK 27
def tP:List Str:=["_law_deal_here", "_law_sayings", "_law_saying_here", "_law_way", "_law_words", "_law_word_here", "_law_at"]
def xA:ISs:=(.cons (.asg 2 (.ix (.var 1) (.call 11 (.cons (.var 0) (.cons (.call 1 (.cons (.var 1) .nil)) .nil)))))
 (.cons (.asg 3 (.call 11 (.cons (.var 0) (.cons (.con (.int 3)) .nil))))
 (.cons (.ite (.cmp .Eq (.var 3) (.con (.int 0))) (.cons (.ret (.con .none))
 .nil) .nil)
 (.cons (.asg 4 (.ix (.dct ["and", "or", "if", "not", "say"] (.cons (.lst (.cons (.con (.str "left")) (.cons (.con (.str "right")) .nil))) (.cons (.lst (.cons (.con (.str "which")) .nil)) (.cons (.lst (.cons (.con (.str "if")) .nil)) (.cons (.lst (.cons (.con (.str "not")) .nil)) (.cons (.lst .nil) .nil)))))) (.ix (.var 2) (.con (.int 0)))))
 (.cons (.ite (.and (.cmp .Eq (.var 3) (.con (.int 1))) (.cmp .NotEq (.var 4) (.lst .nil))) (.cons (.ret (.tup (.cons (.con (.str "doubt")) (.cons (.ix (.var 4) (.call 11 (.cons (.var 0) (.cons (.call 1 (.cons (.var 4) .nil)) .nil)))) (.cons (.var 2) .nil)))))
 .nil) .nil)
 (.cons (.ite (.cmp .NotIn (.ix (.var 2) (.con (.int 0))) (.tup (.cons (.con (.str "and")) (.cons (.con (.str "or")) (.cons (.con (.str "if")) .nil))))) (.cons (.ret (.tup (.cons (.con (.str "answer")) (.cons (.tup (.cons (.con (.str "begin")) (.cons (.var 2) .nil))) (.cons (.var 2) .nil)))))
 .nil) .nil)
 (.cons (.asg 5 (.ix (.var 4) (.call 11 (.cons (.var 0) (.cons (.call 1 (.cons (.var 4) .nil)) .nil)))))
 (.cons (.asg 6 (.ix (.dct ["left", "right", "if", "which"] (.cons (.con (.int 1)) (.cons (.con (.int 2)) (.cons (.con (.int 2)) (.cons (.bin .Add (.con (.int 1)) (.call 11 (.cons (.var 0) (.cons (.con (.int 2)) .nil)))) .nil))))) (.var 5)))
 (.cons (.ret (.tup (.cons (.con (.str "answer")) (.cons (.tup (.cons (.var 5) (.cons (.var 2) .nil))) (.cons (.ix (.var 2) (.var 6)) .nil)))))
 .nil)))))))))
def mL:MC:=⟨zY jS,tP,(fun _=>true),fns.take 21,gls,mts,its,sxm,[]⟩
theorem zak:FnScope tP ["_law_deal_here", "_law_sayings"] (zY jS):=⟨rfl,rfl,rfl,by decide +kernel,rfl,by decide +kernel,by decide +kernel⟩
theorem fW:kO xA mL (zF jS)=true:=by decide +kernel
abbrev jT:Stmt:=gK 28
def tQ:List Str:=["_law_deal_here", "_law_standing", "_law_move_here", "_law_some_here"]
def jL:ISs:=(.cons (.asg 3 (.bin .Add (.lc (.nm 0) ["_law_one"] [] (.val (.ix (.var 1) (.con (.int 0)))) .no (.tup (.cons (.con (.str "said")) (.cons (.var 0) .nil)))) (.lc (.nm 0) ["_law_one"] [] (.val (.ix (.var 1) (.con (.int 3)))) .no (.tup (.cons (.con (.str "fresh")) (.cons (.var 0) .nil))))))
 (.cons (.asg 3 (.bin .Add (.bin .Add (.var 3) (.lc (.nm 0) ["_law_doubt"] [] (.val (.ix (.var 1) (.con (.int 1)))) .no (.bin .Add (.tup (.cons (.con (.str "open")) .nil)) (.var 0)))) (.lc (.nm 0) ["_law_doubt"] [] (.val (.ix (.var 1) (.con (.int 2)))) .no (.bin .Add (.tup (.cons (.con (.str "used")) .nil)) (.var 0)))))
 (.cons (.ite (.and (.cmp .IsNot (.var 2) (.con .none)) (.cmp .Eq (.ix (.var 2) (.con (.int 0))) (.con (.str "doubt")))) (.cons (.asg 3 (.bin .Add (.var 3) (.lst (.cons (.bin .Add (.tup (.cons (.con (.str "asked")) .nil)) (.sl (.var 2) (.yes (.con (.int 1))) .no)) (.cons (.bin .Add (.tup (.cons (.con (.str "answered")) .nil)) (.sl (.var 2) (.yes (.con (.int 1))) .no)) .nil)))))
 .nil) .nil)
 (.cons (.ite (.and (.cmp .IsNot (.var 2) (.con .none)) (.cmp .Eq (.ix (.var 2) (.con (.int 0))) (.con (.str "answer")))) (.cons (.asg 3 (.bin .Add (.var 3) (.lst (.cons (.bin .Add (.tup (.cons (.con (.str "answered")) .nil)) (.ix (.var 2) (.con (.int 1)))) (.cons (.bin .Add (.tup (.cons (.con (.str "asked")) .nil)) (.ix (.var 2) (.con (.int 1)))) (.cons (.tup (.cons (.con (.str "heard")) (.cons (.ix (.var 2) (.con (.int 2))) .nil))) .nil))))))
 .nil) .nil)
 (.cons (.ret (.ix (.bin .Add (.var 3) (.lst (.cons (.tup (.cons (.con (.str "any")) .nil)) .nil))) (.call 11 (.cons (.var 0) (.cons (.bin .Add (.call 1 (.cons (.var 3) .nil)) (.con (.int 1))) .nil)))))
 .nil)))))
def mM:MC:=⟨zY jT,tQ,(fun _=>true),fns.take 22,gls,mts,its,sxm,[]⟩
theorem zaj:FnScope tQ ["_law_deal_here", "_law_standing", "_law_move_here"] (zY jT):=⟨rfl,rfl,rfl,by decide +kernel,rfl,by decide +kernel,by decide +kernel⟩
theorem fX:kO jL mM (zF jT)=true:=by decide +kernel
abbrev yG:Stmt:=gK 9
def kH:List Str:=["condition"]
def qF:ISs:=(.cons (.ret (.ite (.cmp .In (.ix (.var 0) (.con (.int 0))) (.glb 0)) (.sl (.var 0) (.yes (.con (.int 1))) .no) (.tup .nil)))
 .nil)
def mR:MC:=⟨zY yG,kH,(fun _=>true),fns.take 23,gls,mts,its,sxm,[]⟩
theorem rD:FnScope kH ["condition"] (zY yG):=⟨rfl,rfl,rfl,by decide +kernel,rfl,by decide +kernel,by decide +kernel⟩
theorem gB:kO qF mR (zF yG)=true:=by decide +kernel
abbrev wR:Stmt:=gK 1
def vD:List Str:=["whole", "sides_of", "found", "waiting", "thing"]
def kZ:ISs:=(.cons (.asg 2 (.lst .nil))
 (.cons (.asg 3 (.lst (.cons (.var 0) .nil)))
 (.cons (.whl (.var 3) (.cons (.asg 4 (.mth 0 (.var 3) .nil))
 (.cons (.ex (.mth 2 (.var 2) (.cons (.var 4) .nil)))
 (.cons (.ex (.mth 4 (.var 3) (.cons (.spc 1 (.cons (.spc 2 (.cons (.var 1) (.cons (.var 4) .nil))) .nil)) .nil)))
 .nil))))
 (.cons (.ret (.var 2))
 .nil))))
def rB:MC:=⟨zY wR,vD,(fun _=>true),fns.take 24,gls,mts,its,sxm,[]⟩
theorem bV:FnScope vD ["whole", "sides_of"] (zY wR):=⟨rfl,rfl,rfl,by decide +kernel,rfl,by decide +kernel,by decide +kernel⟩
theorem mF:kO kZ rB (zF wR)=true:=by decide +kernel
abbrev qL:Stmt:=gK 3
def nA:List Str:=["doubt", "word", "saying"]
def rZ:ISs:=(.cons (.asgT (.cons (.nm 1) (.cons (.nm 2) .nil)) (.var 0))
 (.cons (.ret (.ite (.cmp .In (.var 1) (.tup (.cons (.con (.str "if")) (.cons (.con (.str "not")) .nil)))) (.ix (.var 2) (.con (.int 1))) (.con .none)))
 .nil))
def zaW:MC:=⟨zY qL,nA,(fun _=>true),fns.take 25,gls,mts,its,sxm,[]⟩
theorem zb1:FnScope nA ["doubt"] (zY qL):=⟨rfl,rfl,rfl,by decide +kernel,rfl,by decide +kernel,by decide +kernel⟩
theorem zar:kO rZ zaW (zF qL)=true:=by decide +kernel
abbrev qM:Stmt:=gK 5
def nB:List Str:=["move"]
def sB:ISs:=(.cons (.ret (.ite (.cmp .Eq (.ix (.var 0) (.con (.int 0))) (.con (.str "answer"))) (.ix (.var 0) (.con (.int 2))) (.call 25 (.cons (.sl (.var 0) (.yes (.con (.int 1))) .no) .nil))))
 .nil)
def zaV:MC:=⟨zY qM,nB,(fun _=>true),fns.take 26,gls,mts,its,sxm,[]⟩
theorem zb0:FnScope nB ["move"] (zY qM):=⟨rfl,rfl,rfl,by decide +kernel,rfl,by decide +kernel,by decide +kernel⟩
theorem zaq:kO sB zaV (zF qM)=true:=by decide +kernel
abbrev xS:Stmt:=gK 11
def qK:List Str:=["word", "things", "move"]
def jG:ISs:=(.cons (.ite (.cmp .Eq (.var 0) (.con (.str "heard"))) (.cons (.ret (.cmp .Eq (.call 26 (.cons (.var 2) .nil)) (.ix (.var 1) (.con (.int 0)))))
 .nil) .nil)
 (.cons (.ite (.cmp .Eq (.var 0) (.con (.str "asked"))) (.cons (.ret (.cmp .Eq (.var 2) (.tup (.cons (.con (.str "doubt")) (.cons (.ix (.var 1) (.con (.int 0))) (.cons (.ix (.var 1) (.con (.int 1))) .nil))))))
 .nil) .nil)
 (.cons (.ret (.and (.cmp .Eq (.ix (.var 2) (.con (.int 0))) (.con (.str "answer"))) (.cmp .Eq (.ix (.var 2) (.con (.int 1))) (.tup (.cons (.ix (.var 1) (.con (.int 0))) (.cons (.ix (.var 1) (.con (.int 1))) .nil))))))
 .nil)))
def uY:MC:=⟨zY xS,qK,(fun _=>true),fns.take 27,gls,mts,its,sxm,[]⟩
theorem pJ:FnScope qK ["word", "things", "move"] (zY xS):=⟨rfl,rfl,rfl,by decide +kernel,rfl,by decide +kernel,by decide +kernel⟩
theorem sK:kO jG uY (zF xS)=true:=by decide +kernel
abbrev xM:Stmt:=gK 10
def kU:List Str:=["condition", "standing", "move", "said", "unanswered", "used", "fresh", "word", "things"]
def jC:ISs:=(.cons (.asgT (.cons (.nm 3) (.cons (.nm 4) (.cons (.nm 5) (.cons (.nm 6) .nil)))) (.var 1))
 (.cons (.asgS 7 8 (.var 0))
 (.cons (.ite (.cmp .Eq (.var 7) (.con (.str "any"))) (.cons (.ret (.con (.bool true)))
 .nil) .nil)
 (.cons (.ite (.cmp .Eq (.var 7) (.con (.str "said"))) (.cons (.ret (.cmp .In (.ix (.var 8) (.con (.int 0))) (.var 3)))
 .nil) .nil)
 (.cons (.ite (.cmp .Eq (.var 7) (.con (.str "fresh"))) (.cons (.ret (.cmp .In (.ix (.var 8) (.con (.int 0))) (.var 6)))
 .nil) .nil)
 (.cons (.ite (.cmp .Eq (.var 7) (.con (.str "open"))) (.cons (.ret (.cmp .In (.call 7 (.cons (.var 8) .nil)) (.var 4)))
 .nil) .nil)
 (.cons (.ite (.cmp .Eq (.var 7) (.con (.str "used"))) (.cons (.ret (.cmp .In (.call 7 (.cons (.var 8) .nil)) (.var 5)))
 .nil) .nil)
 (.cons (.ret (.and (.cmp .IsNot (.var 2) (.con .none)) (.call 27 (.cons (.var 7) (.cons (.var 8) (.cons (.var 2) .nil))))))
 .nil))))))))
def uB:MC:=⟨zY xM,kU,(fun _=>true),fns.take 28,gls,mts,its,sxm,[]⟩
theorem nG:FnScope kU ["condition", "standing", "move"] (zY xM):=⟨rfl,rfl,rfl,by decide +kernel,rfl,by decide +kernel,by decide +kernel⟩
theorem rO:kO jC uB (zF xM)=true:=by decide +kernel
abbrev tW:Stmt:=gK 8
def zcl:List Str:=["condition", "standing", "move", "truths", "part"]
def za7:ISs:=(.cons (.asg 3 (.lst .nil))
 (.cons (.for (.nm 4) (.val (.spc 1 (.cons (.call 24 (.cons (.var 0) (.cons (.glb 3) .nil))) .nil))) (.cons (.ite (.cmp .Eq (.ix (.var 4) (.con (.int 0))) (.con (.str "not"))) (.cons (.ex (.mth 2 (.var 3) (.cons (.not (.mth 0 (.var 3) .nil)) .nil)))
 .nil) (.cons (.ite (.cmp .Eq (.ix (.var 4) (.con (.int 0))) (.con (.str "and"))) (.cons (.ex (.mth 2 (.var 3) (.cons (.call 2 (.cons (.lst (.cons (.mth 0 (.var 3) .nil) (.cons (.mth 0 (.var 3) .nil) .nil))) .nil)) .nil)))
 .nil) (.cons (.ite (.cmp .Eq (.ix (.var 4) (.con (.int 0))) (.con (.str "or"))) (.cons (.ex (.mth 2 (.var 3) (.cons (.call 5 (.cons (.lst (.cons (.mth 0 (.var 3) .nil) (.cons (.mth 0 (.var 3) .nil) .nil))) .nil)) .nil)))
 .nil) (.cons (.ex (.mth 2 (.var 3) (.cons (.call 28 (.cons (.var 4) (.cons (.var 1) (.cons (.var 2) .nil)))) .nil)))
 .nil))
 .nil))
 .nil))
 .nil))
 (.cons (.ret (.ix (.var 3) (.con (.int 0))))
 .nil)))
def zcq:MC:=⟨zY tW,zcl,(fun _=>true),fns.take 29,gls,mts,its,sxm,[]⟩
theorem zb3:FnScope zcl ["condition", "standing", "move"] (zY tW):=⟨rfl,rfl,rfl,by decide +kernel,rfl,by decide +kernel,by decide +kernel⟩
theorem dN:kO za7 zcq (zF tW)=true:=by decide +kernel
abbrev wO:Stmt:=gK 24
def vA:List Str:=["_law_condition_here", "_law_standing", "_law_move_here", "_law_word_here", "_law_both"]
def xV:ISs:=(.cons (.asg 3 (.ix (.var 0) (.con (.int 0))))
 (.cons (.ite (.cmp .Eq (.var 3) (.con (.str "any"))) (.cons (.ret (.con (.bool true)))
 .nil) .nil)
 (.cons (.ite (.cmp .Eq (.var 3) (.con (.str "not"))) (.cons (.ret (.not (.call 30 (.cons (.ix (.var 0) (.con (.int 1))) (.cons (.var 1) (.cons (.var 2) .nil))))))
 .nil) .nil)
 (.cons (.ite (.or (.cmp .Eq (.var 3) (.con (.str "and"))) (.cmp .Eq (.var 3) (.con (.str "or")))) (.cons (.asg 4 (.lc (.nm 0) ["_law_part"] [1,2] (.val (.sl (.var 0) (.yes (.con (.int 1))) .no)) .no (.call 30 (.cons (.var 0) (.cons (.var 1) (.cons (.var 2) .nil))))))
 (.cons (.ret (.or (.cmp .Eq (.var 4) (.lst (.cons (.con (.bool true)) (.cons (.con (.bool true)) .nil)))) (.and (.cmp .Eq (.var 3) (.con (.str "or"))) (.cmp .In (.con (.bool true)) (.var 4)))))
 .nil)) .nil)
 (.cons (.ite (.or (.cmp .Eq (.var 3) (.con (.str "said"))) (.cmp .Eq (.var 3) (.con (.str "fresh")))) (.cons (.ret (.cmp .In (.ix (.var 0) (.con (.int 1))) (.ix (.var 1) (.bin .Mult (.con (.int 3)) (.call 8 (.cons (.cmp .Eq (.var 3) (.con (.str "fresh"))) .nil))))))
 .nil) .nil)
 (.cons (.ite (.or (.cmp .Eq (.var 3) (.con (.str "open"))) (.cmp .Eq (.var 3) (.con (.str "used")))) (.cons (.ret (.cmp .In (.sl (.var 0) (.yes (.con (.int 1))) .no) (.ix (.var 1) (.bin .Add (.con (.int 1)) (.call 8 (.cons (.cmp .Eq (.var 3) (.con (.str "used"))) .nil))))))
 .nil) .nil)
 (.cons (.ite (.cmp .Is (.var 2) (.con .none)) (.cons (.ret (.con (.bool false)))
 .nil) .nil)
 (.cons (.ite (.cmp .Eq (.var 3) (.con (.str "heard"))) (.cons (.ret (.cmp .Eq (.call 14 (.cons (.var 2) .nil)) (.ix (.var 0) (.con (.int 1)))))
 .nil) .nil)
 (.cons (.ret (.and (.cmp .Eq (.ix (.lst (.cons (.ix (.var 2) (.con (.int 1))) (.cons (.sl (.var 2) (.yes (.con (.int 1))) .no) .nil))) (.call 8 (.cons (.cmp .Eq (.var 3) (.con (.str "asked"))) .nil))) (.sl (.var 0) (.yes (.con (.int 1))) .no)) (.cmp .Eq (.cmp .Eq (.ix (.var 2) (.con (.int 0))) (.con (.str "doubt"))) (.cmp .Eq (.var 3) (.con (.str "asked"))))))
 .nil)))))))))
def pY:MC:=⟨zY wO,vA,(fun _=>true),fns.take 31,gls,mts,its,sxm,[]⟩
theorem bS:FnScope vA ["_law_condition_here", "_law_standing", "_law_move_here"] (zY wO):=⟨rfl,rfl,rfl,by decide +kernel,rfl,by decide +kernel,by decide +kernel⟩
theorem hZ:kO xV pY (zF wO)=true:=by decide +kernel
abbrev slaw:Stmt:=gK 29
def nlaw:List Str:=["_law_script", "_law_deal_here", "_law_saying_here", "_law_sayings", "_law_opened", "_law_said", "_law_standing", "_law_move_here", "_law_k", "_law_condition_here", "_law_near_here", "_law_one", "_law_found"]
def pD:ISs:=(.cons (.asg 1 (.call 10 (.cons (.var 0) (.cons (.con (.int 1)) .nil))))
 (.cons (.asg 2 (.call 13 (.cons (.var 1) (.cons (.call 12 (.cons (.var 1) (.cons (.bin .Add (.con (.int 1)) (.call 11 (.cons (.var 1) (.cons (.con (.int 3)) .nil)))) .nil))) (.cons (.bin .Add (.con (.int 1)) (.call 11 (.cons (.var 1) (.cons (.con (.int 7)) .nil)))) .nil)))))
 (.cons (.asg 3 (.call 15 (.cons (.var 2) .nil)))
 (.cons (.asg 4 (.call 20 (.cons (.var 1) (.cons (.var 3) .nil))))
 (.cons (.ite (.cmp .Eq (.call 11 (.cons (.var 1) (.cons (.con (.int 2)) .nil))) (.con (.int 0))) (.cons (.asg 4 (.call 7 (.cons (.call 6 (.cons (.bin .Add (.var 4) (.tup (.cons (.tup (.cons (.con (.str "begin")) (.cons (.var 2) .nil))) .nil))) .nil)) .nil)))
 .nil) .nil)
 (.cons (.asg 5 (.call 19 (.cons (.var 1) (.cons (.var 3) .nil))))
 (.cons (.asg 6 (.tup (.cons (.var 5) (.cons (.var 4) (.cons (.call 20 (.cons (.var 1) (.cons (.var 3) .nil))) (.cons (.call 19 (.cons (.var 1) (.cons (.call 3 (.cons (.var 5) .nil)) .nil))) .nil))))))
 (.cons (.asg 7 (.call 21 (.cons (.var 1) (.cons (.var 3) .nil))))
 (.cons (.for (.nm 8) (.blt 0 (.cons (.bin .Add (.con (.int 3)) (.call 1 (.cons (.sl (.var 0) (.yes (.con (.int 40))) (.yes (.con (.int 63)))) .nil))) .nil)) (.cons (.asg 9 (.call 17 (.cons (.var 1) (.cons (.var 3) (.cons (.con (.int 4)) .nil)))))
 (.cons (.ite (.cmp .Gt (.call 18 (.cons (.var 9) .nil)) (.con (.int 40))) (.cons (.asg 9 (.call 17 (.cons (.var 1) (.cons (.var 3) (.cons (.con (.int 0)) .nil)))))
 .nil) .nil)
 (.cons (.ite (.cmp .Eq (.call 11 (.cons (.var 1) (.cons (.con (.int 2)) .nil))) (.con (.int 0))) (.cons (.asg 9 (.tup (.cons (.ix (.lst (.cons (.con (.str "and")) (.cons (.con (.str "or")) .nil))) (.call 11 (.cons (.var 1) (.cons (.con (.int 2)) .nil)))) (.cons (.call 22 (.cons (.var 1) (.cons (.var 6) (.cons (.var 7) .nil)))) (.cons (.var 9) .nil)))))
 .nil) .nil)
 (.cons (.asg 10 (.call 22 (.cons (.var 1) (.cons (.var 6) (.cons (.var 7) .nil)))))
 (.cons (.for (.nm 11) (.val (.tup (.cons (.var 9) (.cons (.var 10) (.cons (.tup (.cons (.con (.str "not")) (.cons (.var 10) .nil))) (.cons (.var 9) .nil)))))) (.cons (.asg 12 (.call 29 (.cons (.var 11) (.cons (.var 6) (.cons (.var 7) .nil)))))
 (.cons (.ite (.or (.not (.call 4 (.cons (.var 12) (.cons (.glb 1) .nil)))) (.cmp .NotEq (.var 12) (.call 30 (.cons (.var 11) (.cons (.var 6) (.cons (.var 7) .nil)))))) (.cons (.ret (.con (.bool false)))
 .nil) .nil)
 .nil)))
 (.cons (.ite (.and (.cmp .Is (.var 7) (.con .none)) (.cmp .NotEq (.spc 3 (.cons (.var 9) (.cons (.var 6) .nil))) (.call 30 (.cons (.var 9) (.cons (.var 6) (.cons (.con .none) .nil)))))) (.cons (.ret (.con (.bool false)))
 .nil) .nil)
 .nil)))))))
 (.cons (.ret (.con (.bool true)))
 .nil))))))))))
def mlaw:MC:=⟨zY slaw,nlaw,(fun _=>true),fns.take 31,gls,mts,its,sxm2,[]⟩
theorem sclaw:FnScope nlaw ["_law_script"] (zY slaw):=⟨rfl,rfl,rfl,by decide +kernel,rfl,by decide +kernel,by decide +kernel⟩
theorem zfU:kO pD mlaw (zF slaw)=true:=by decide +kernel
end K48
namespace K48
open PySem PySem.Spec PyProof.Rows L2 L3
open PySem.W (nsIn keepIn codeIn mg_of findIn mg_none_of fnOf)
abbrev eApp:Mt3:=⟨"append", "list", fO⟩
theorem zc0 {q:Pr} {A:Around}:MtE (q.at A) eApp/\rE eApp:=⟨mV PySem.F.plainAttrs_list PySem.F.slot_list_append PySem.F.type_list_append (fun X f=>ziw) cJ,cJ⟩
def cC:RS:=fun ws G Q=>match ws with
 | [x]=>(match uE G x with|some xs=>Q (.tup xs) G|none=>False)
 |_=>False
theorem fL:wB cC:=by
 intro ws G Q Q' k h;unfold cC at h ⊢
 split at h
 .split at h
  .exact k _ _ h
  .exact h.elim
 .exact h.elim
theorem zgK {X:Cx}:jZ X (.type "tuple") (tO X.K cC):=by
 intro pins s σ H xs us Q I r h;obtain ⟨ws,G,rs,ab,h⟩:=h;unfold cC at h
 split at h
 .rename_i w;obtain ⟨v,rfl,rv⟩:=qY rs
  split at h
  .rename_i ys hy;obtain ⟨a,vs,b,rfl,sq,rr⟩:=zbY ab rv hy;refine fQ pins s σ H _ us Q I r ⟨a,vs,rfl,?_⟩;cases b
   .exact .inl ⟨sq,sP ab rr h⟩
   .exact .inr ⟨sq,h _ _ .refl ⟨a,vs,rfl,sq,rr⟩ ab⟩
  .exact h.elim
 .exact h.elim
abbrev eTup:Fn3:=⟨"tuple", fun ws G Q _=>cC ws G Q⟩
theorem zgj {q:Pr} {A:Around} (hm:q.mg "tuple" = none):qR (q.at A) eTup:=⟨zgg hm (by decide +kernel) (fun X f=>zgK) fL (fun _ _ h=>h),fun ws G Q Q' _ k h=>fL ws G Q Q' k h⟩
def noN:List Str:=["and", "or", "not", "then"]
def ltB (c:Nat):Bool:=decide (97<=c)&&decide (c<=122)
def xF (x:Str):Bool:=x.cps.toList.all ltB
def nmB (x:Str):Bool:=decide (1<=x.length)&&decide (x.length<=6)&&!noN.contains x&&xF x&&!(x == "aaaaaa")
inductive Op where
 |an|or|im
inductive Sy where
 |say (x:Str)|neg (a:Sy)|two (k:Op) (a b:Sy)
def kw:Op->Str
 | .an => "and"
 | .or => "or"
 | .im => "if"
def Sy.w:Sy->W
 | .say x=>.tup [.str "say", .str x]
 | .neg a=>.tup [.str "not", a.w]
 | .two k a b=>.tup [.str (kw k),a.w,b.w]
def Sy.size:Sy->Nat
 | .say _=>1
 | .neg a=>a.size+1
 | .two _ a b=>a.size+b.size+1
def Sy.deep:Sy->Nat
 | .say _=>0
 | .neg a=>a.deep+1
 | .two _ a b=>max a.deep b.deep+1
def Sy.ok:Sy->Prop
 | .say x=>nmB x=true
 | .neg a=>a.ok
 | .two _ a b=>a.ok/\b.ok
theorem Sy.pos:∀ t:Sy,1<=t.size
 | .say _=>zzR _
 | .neg _=>Nat.le_add_left _ _
 | .two _ _ _=>Nat.le_add_left _ _
theorem Sy.low:∀ t:Sy,t.deep<t.size
 | .say _=>Nat.lt_succ_self _
 | .neg a=>by have:=Sy.low a;simp only [Sy.deep,Sy.size];omega
 | .two _ a b=>by have:=Sy.low a;have:=Sy.low b;simp only [Sy.deep,Sy.size];omega
theorem Sy.dep:∀ t:Sy,L3.dep t.w<=t.size
 | .say _=>by simp [Sy.w,L3.dep,yC,Sy.size]
 | .neg a=>by have:=Sy.dep a;simp only [Sy.w,L3.dep,yC,Sy.size];omega
 | .two _ a b=>by have:=Sy.dep a;have:=Sy.dep b;simp only [Sy.w,L3.dep,yC,Sy.size];omega
theorem zcx (k:Op):((kw k:Str) == "say")=false/\((kw k:Str) == "not")=false:=by
 cases k<;>exact ⟨by decide +kernel,by decide +kernel⟩
def Sy.arg:Sy->W
 | .say x=>.str x
 | .neg a=>a.w
 | .two _ a _=>a.w
inductive Mv where
 |no|dbt (x:Str) (s:Sy)|ans (x:Str) (s a:Sy)
def Mv.w:Mv->W
 | .no=>.non
 | .dbt x s=>.tup [.str "doubt", .str x,s.w]
 | .ans x s a=>.tup [.str "answer", .tup [.str x,s.w],a.w]
def Mv.ok:Mv->Prop
 | .no=>True
 | .dbt _ s=>s.size<=20
 | .ans _ s a=>s.size<=20/\a.size<=20
def tld (x:Str) (s:Sy):W:=if (x == "if" || x == "not")=true then s.arg else .non
def Mv.told:Mv->W
 | .no=>.non
 | .dbt x s=>tld x s
 | .ans _ _ a=>a.w
inductive C1 where
 |said|fresh|heard
inductive C2 where
 |opn|used|asked|answ
def C1.s:C1->Str
 | .said => "said"
 | .fresh => "fresh"
 | .heard => "heard"
def C2.s:C2->Str
 | .opn => "open"
 | .used => "used"
 | .asked => "asked"
 | .answ => "answered"
inductive Cd where
 |any|one (k:C1) (s:Sy)|two (k:C2) (x:Str) (s:Sy)|neg (a:Cd)|bin (k:Bool) (a b:Cd)
def bw:Bool->Str
 |false => "and"
 |true => "or"
def Cd.w:Cd->W
 | .any=>.tup [.str "any"]
 | .one k s=>.tup [.str k.s,s.w]
 | .two k x s=>.tup [.str k.s,.str x,s.w]
 | .neg a=>.tup [.str "not", a.w]
 | .bin k a b=>.tup [.str (bw k),a.w,b.w]
def Cd.size:Cd->Nat
 | .neg a=>a.size+1
 | .bin _ a b=>a.size+b.size+1
 |_=>1
def Cd.deep:Cd->Nat
 | .neg a=>a.deep+1
 | .bin _ a b=>max a.deep b.deep+1
 |_=>0
def Cd.ok:Cd->Prop
 | .any=>True
 | .one _ s=>s.size<=20
 | .two _ _ s=>s.size<=20
 | .neg a=>a.ok
 | .bin _ a b=>a.ok/\b.ok
def wG:Cd->List Cd
 | .neg a=>[a]
 | .bin _ a b=>[a,b]
 |_=>[]
def yR:Cd->List Cd
 | .neg a=>.neg a::yR a
 | .bin k a b=>.bin k a b::(yR a++yR b)
 |c=>[c]
structure Sd where
 said:List Sy
 opn:List (Str×Sy)
 used:List (Str×Sy)
 fresh:List Sy
def dw (p:Str×Sy):W:=.tup [.str p.1,p.2.w]
def Sd.w (t:Sd):W:=.tup [.tup (t.said.map Sy.w),.tup (t.opn.map dw),.tup (t.used.map dw),.tup (t.fresh.map Sy.w)]
structure Sd.ok (t:Sd):Prop where
 s:∀ x∈t.said,x.size<=20
 o:∀ x∈t.opn,x.2.size<=20
 u:∀ x∈t.used,x.2.size<=20
 f:∀ x∈t.fresh,x.size<=20
 few:t.said.length<=100/\t.opn.length<=100/\t.used.length<=100/\t.fresh.length<=100
def inL (ws:List W) (w:W):Bool:=ws.any fun v=>jK v w
def h1 (t:Sd) (m:Mv):Cd->Bool
 | .any=>true
 | .one .said s=>inL (t.said.map Sy.w) s.w
 | .one .fresh s=>inL (t.fresh.map Sy.w) s.w
 | .one .heard s=>(match m with|.no=>false|_=>jK m.told s.w)
 | .two .opn x s=>inL (t.opn.map dw) (dw (x,s))
 | .two .used x s=>inL (t.used.map dw) (dw (x,s))
 | .two .asked x s=>(match m with|.dbt y r=>jK (dw (y,r)) (dw (x,s))|_=>false)
 | .two .answ x s=>(match m with|.ans y r _=>jK (dw (y,r)) (dw (x,s))|_=>false)
 |_=>false
def hv (t:Sd) (m:Mv):Cd->Bool
 | .neg a=>!hv t m a
 | .bin false a b=>hv t m a&&hv t m b
 | .bin true a b=>hv t m a || hv t m b
 |c=>h1 t m c
def Fr (ws:List W) (G:Hw) (Q:Q3):Prop:=∀ r G',zK [] G G'->G r=none->G' r=some (.lst ws)->Q (.ref r) G'
theorem Fr.mono {ws:List W} {G:Hw} {Q Q':Q3} (k:∀ w G',Q w G'->Q' w G') (h:Fr ws G Q):Fr ws G Q':=fun r G' a b c=>k _ _ (h r G' a b c)
theorem Fr.keep {ws:List W} {G G1:Hw} {Q:Q3} (h:Fr ws G Q) (k:zK [] G G1):Fr ws G1 Q:=fun r G' a b c=>h r G' (k.trans a) (k.none (by simp) b) c
def pB:vO:=fun ws G Q _=>∃ (d l:Addr) (m:Int),ws=[.ref d,.int m]/\xO G d l/\1<=m/\m<=5/\∀ (r:Addr) (xs:List Str) G',xs.length=m.toNat->(∀ x∈xs,nmB x=true)->r∉[d,l]->G' r=some (.lst (xs.map .str))->zK [d,l] G G'->xO G' d l->Q (.ref r) G'
def wZ (n:Nat):vO:=fun ws G Q _=>∃ (d l r:Addr) (m:Int) (xs:List Str),ws=[.ref d,.ref r,.int m]/\xO G d l/\r∉[d,l]/\G r=some (.lst (xs.map .str))/\xs≠[]/\xs.length<=100/\(∀ x∈xs,nmB x=true)/\1<=m/\m<=n/\m<=100/\∀ (t:Sy) G',t.ok->(t.size:Int)<=m->zK [d,l] G G'->xO G' d l->Q t.w G'
def bZ:vO:=fun ws G Q _=>∃ m:Mv,ws=[m.w]/\m≠.no/\Q m.told G
def wV (n:Nat):vO:=fun ws G Q _=>∃ t:Sy,ws=[t.w]/\t.size<=20/\t.deep<n/\∀ r (ps:List Sy) G',zK [] G G'->G r=none->G' r=some (.lst (ps.map Sy.w))->ps≠[]->ps.length<=t.size->(∀ p∈ps,p.size<=t.size)->Q (.ref r) G'
structure Says (G:Hw) (d l p:Addr) (ps:List Sy):Prop where
 deal:xO G d l
 off:p∉[d,l]
 is:G p=some (.lst (ps.map Sy.w))
 ne:ps≠[]
 few:ps.length<=20
 sz:∀ x∈ps,x.size<=20
def cA:vO:=fun ws G Q _=>∃ (d l:Addr) (t:Sy),ws=[.ref d,t.w]/\xO G d l/\∀ (x:Str) G',zK [d,l] G G'->xO G' d l->Q (.str x) G'
def jI (n:Nat):vO:=fun ws G Q _=>∃ (d l p:Addr) (ps:List Sy) (k:Nat),ws=[.ref d,.ref p,.int (k:Nat)]/\Says G d l p ps/\k<n/\k<=10/\∀ (c:Cd) G',c.ok->c.deep<=k->zK [d,l] G G'->xO G' d l->Q c.w G'
inductive Tx:W->Prop where
 |str (x:Str):Tx (.str x)
 |tup (ws:List W) (few:ws.length<=100) (all:∀ w∈ws,Tx w):Tx (.tup ws)
def jY (n:Nat):vO:=fun ws G Q _=>∃ w:W,ws=[w]/\Tx w/\dep w<n/\∀ (i:Int) G',zK [] G G'->Q (.int i) G'
def nM:vO:=fun ws G Q _=>∃ (d l p:Addr) (xs:List W),ws=[.ref d,.ref p]/\xO G d l/\p∉[d,l]/\G p=some (.lst xs)/\Srtb xs/\∀ (ys:List W) G',(∀ y∈ys,y∈xs)->ys.length<=xs.length->zK [d,l] G G'->xO G' d l->Q (.tup ys) G'
def sS:vO:=fun ws G Q _=>∃ (d l p:Addr) (ps:List Sy),ws=[.ref d,.ref p]/\Says G d l p ps/\∀ (ds:List (Str×Sy)) G',(∀ x∈ds,x.2∈ps)->ds.length<=2 * ps.length->zK [d,l] G G'->xO G' d l->Q (.tup (ds.map dw)) G'
def bX:vO:=fun ws G Q _=>∃ (d l p:Addr) (ps:List Sy),ws=[.ref d,.ref p]/\Says G d l p ps/\∀ (m:Mv) G',m.ok->zK [d,l] G G'->xO G' d l->Q m.w G'
def bY:vO:=fun ws G Q _=>∃ (d l:Addr) (t:Sd) (m:Mv),ws=[.ref d,t.w,m.w]/\xO G d l/\t.ok/\m.ok/\∀ (c:Cd) G',c.ok->c.deep=0->zK [d,l] G G'->xO G' d l->Q c.w G'
def wS:vO:=fun ws G Q _=>∃ c:Cd,ws=[c.w]/\Q (.tup ((wG c).map Cd.w)) G
def sX (sA:Addr):vO:=fun ws G Q _=>∃ c:Cd,ws=[c.w,.ref sA]/\c.size<=200/\Fr ((yR c).map Cd.w) G Q
def sU:vO:=fun ws G Q _=>∃ (x:Str) (s:Sy),ws=[dw (x,s)]/\Q (tld x s) G
def sW:vO:=fun ws G Q _=>∃ m:Mv,ws=[m.w]/\m≠.no/\Q m.told G
def jX:Cd->List W
 | .one _ s=>[s.w]
 | .two _ x s=>[.str x,s.w]
 |_=>[]
def yK:Cd->Str
 | .any => "any"
 | .one k _=>k.s
 | .two k _ _=>k.s
 | .neg _ => "not"
 | .bin k _ _=>bw k
def zcj:Cd->Prop
 | .one .heard _=>True
 | .two .asked _ _=>True
 | .two .answ _ _=>True
 |_=>False
def zdF (t:Sd):vO:=fun ws G Q _=>∃ (c:Cd) (m:Mv) (p:Addr),ws=[.str (yK c),.ref p,m.w]/\zcj c/\c.ok/\m.ok/\m≠.no/\G p=some (.lst (jX c))/\∀ G',zK [] G G'->Q (.bl (h1 t m c)) G'
def noSd:Sd:=⟨[],[],[],[]⟩
def sV:vO:=fun ws G Q _=>∃ (c:Cd) (t:Sd) (m:Mv),ws=[c.w,t.w,m.w]/\c.ok/\t.ok/\m.ok/\wG c=[]/\∀ G',zK [] G G'->Q (.bl (h1 t m c)) G'
def jJ:vO:=fun ws G Q _=>∃ (c:Cd) (t:Sd) (m:Mv),ws=[c.w,t.w,m.w]/\c.ok/\t.ok/\m.ok/\c.size<=200/\∀ G',zK [] G G'->Q (.bl (hv t m c)) G'
def xG (n:Nat):vO:=fun ws G Q _=>∃ (c:Cd) (t:Sd) (m:Mv),ws=[c.w,t.w,m.w]/\c.ok/\t.ok/\m.ok/\c.deep<n/\∀ G',zK [] G G'->Q (.bl (hv t m c)) G'
section
variable (K : yM) (sA : Addr)
def fnL:List Fn3:=[eMax,fS,eAll,eLst,eIsj K,eAny,eSrt,eTup,eInt,eSum,zil,tY,⟨"_law_names", pB⟩,⟨"_law_saying", wZ 8⟩,⟨"_law_says", bZ⟩,⟨"_law_parts", wV 9⟩,⟨"_law_word", cA⟩,⟨"_law_condition", jI 5⟩,⟨"_law_count", jY 60⟩,⟨"_law_some", nM⟩,⟨"_law_doubts", sS⟩,⟨"_law_move", bX⟩,⟨"_law_near", bY⟩,⟨"joined_by", wS⟩,⟨"all_within", sX sA⟩,⟨"said_by", sU⟩,⟨"told_by", sW⟩,⟨"holds_of_move", zdF noSd⟩,⟨"single_holds", sV⟩,⟨"holds", jJ⟩,⟨"_law_holds", xG 8⟩]
def GamL (l:List Fn3):Ctx3:=⟨l,[("JOINED", .dcf ["not", "and", "or"] [.int 1,.int 2,.int 2]),("bool", .ty "bool"),("tuple", .ty "tuple"),("joined_by", .ref sA)],[ePop,zeA,eApp,eGet,eExt],[eRg3],[],[eRev,⟨rvM,rvS⟩,⟨hcM "sides_of", hcS sA wS⟩],[]⟩
def wT (n:Nat):Ctx3:=GamL sA ((fnL K sA).take n)
def xJ (n:Nat) (e:Fn3):Ctx3:=GamL sA ((fnL K sA).take n++[e])
end
theorem uG {a:W} {l:List W}:tB (a::l) 0=some a:=by
 unfold tB;have:fT (a::l).length 0=some 0:=by simp [fT]
 rw [this];rfl
theorem gN {a b:W} {l:List W}:tB (a::b::l) 1=some b:=by
 unfold tB;have:fT (a::b::l).length 1=some 1:=by simp [fT];omega
 rw [this];rfl
theorem at_2 {a b c:W} {l:List W}:tB (a::b::c::l) 2=some c:=by
 unfold tB;have:fT (a::b::c::l).length 2=some 2:=by simp [fT];omega
 rw [this];rfl
theorem sz (n:Nat) (h:n<=3000):n<=sizeLine:=by rw [sizeLine_eq];omega
theorem gZ {α:Type} {a:α} {l:List α}:(a::l)[0]?=some a:=rfl
theorem gS {α:Type} {a:α} {l:List α} {i:Nat}:(a::l)[i+1]?=l[i]?:=rfl
theorem tZ {α:Type} {a b:α} {l:List α}:(a::l).set 0 b=b::l:=rfl
theorem tS {α:Type} {a b:α} {l:List α} {i:Nat}:(a::l).set (i+1) b=a::l.set i b:=rfl
theorem yT {Γ:Ctx3} {E:XQ} {s:IS} {ss:ISs} {D:End3} {σ:jE} {G:Hw} (h:zS Γ E s { D with nx:=zE Γ E ss D } σ G):zE Γ E (.cons s ss) D σ G:=h
theorem xH {Γ:Ctx3} {E:XQ} {D:End3} {σ:jE} {G:Hw} (h:D.nx σ G):zE Γ E .nil D σ G:=h
theorem tyL {G:Hw} {o:Addr} {l:List W} (e:G o=some (.lst l)):tyW G (.ref o) "list" := by simp only [tyW,e]
theorem appL {G:Hw} {o:Addr} {l:List W} {y:W} {Q:Q3} (e:G o=some (.lst l)) (hl:l.length<1000) (h:Q .non (put G o (.lst (l++[y])))):fO (.ref o) [y] G Q:=by
 simp only [fO,e];exact ⟨by rw [sizeLine_eq];omega,h⟩
theorem pS {G:Hw} {t:Addr} {xs:List W} {i:Int} {Q:Q3} (e:yN G t=some xs) (h:match tB xs i with|some w=>Q w G|none=>False):vP (.ref t) (.int i) G Q:=by
 unfold yN at e
 split at e
 .rename_i q;cases e;simp only [vP,q];exact h
 .rename_i q;cases e;simp only [vP,q];exact h
 .cases e
theorem rH {S:List Addr} {G G':Hw} {d l:Addr} (k:zK S G G') (hd:d∉S) (hl:l∉S) (D:xO G d l):xO G' d l:=by
 obtain ⟨x,y,z,D⟩:=D;exact ⟨x,y,z,k _ _ hd D.dic,k _ _ hl D.lst,D.s0,D.s1,D.n0,D.lf,D.len,D.ne⟩
theorem wD {G:Hw} {d l p:Addr} {o:O} (h:G p=none) (D:xO G d l):xO (put G p o) d l:=rH (S:=[]) (zK.new h) (by simp) (by simp) D
theorem wC {G G':Hw} {d l:Addr} (k:zK [] G G') (D:xO G d l):xO G' d l:=rH k (by simp) (by simp) D
theorem wY {S:List Addr} {G G':Hw} (k:zK [] G G'):zK S G G':=fun a u _ e=>k a u (by simp) e
theorem wX {G:Hw} {d l p:Addr} (D:xO G d l) (h:G p=none):p∉[d,l]:=by
 obtain ⟨_,_,_,D⟩:=D;simp only [List.mem_cons,List.not_mem_nil,or_false,not_or];exact ⟨fun e=>(by rw [e,D.dic] at h;cases h),fun e=>(by rw [e,D.lst] at h;cases h)⟩
theorem qP {S:List Addr} {G G':Hw} {p:Addr} {o:O} (k:zK S G G') (h:G p=none):zK S G (put G' p o):=fun a u ha e=>by
 rw [xR (dC e h)];exact k a u ha e
theorem sC {G:Hw} {d l p:Addr} {o:O} (h:p∉[d,l]) (D:xO G d l):xO (put G p o) d l:=by
 simp only [List.mem_cons,List.not_mem_nil,or_false,not_or] at h;exact rH (S:=[p]) (zK.put (by simp)) (by simpa using Ne.symm h.1) (by simpa using Ne.symm h.2) D
theorem addS {a b:Str} {G:Hw} {Q:Q3} (h:a.length+b.length<=3000) (q:Q (.str (a++b)) G):xB .Add (.str a) (.str b) G Q:=⟨sz _ h,q⟩
def tl:ISs->ISs
 | .cons _ ss=>ss
 | .nil=>.nil
theorem zH {G:Hw} {a b:Str}:eqG G (.str a) (.str b)=some (a==b):=by simp [eqG,jD,dep,jK]
theorem bF {G:Hw} {a b:Bool}:eqG G (.bl a) (.bl b)=some (a==b):=by simp [eqG,jD,dep,jK]
section
variable {K : yM} {sA : Addr}
theorem fnAt {n:Nat} (i:Nat) (hi:i<n) {e:Fn3} (h:(fnL K sA)[i]?=some e):(wT K sA n).fn[i]?=some e:=by
 show ((fnL K sA).take n)[i]?=_;rw [List.getElem?_take_of_lt hi];exact h
theorem cX {n m:Nat} (i:Nat) (hn:m<=n) {e:Fn3} (h:(fnL K sA)[i]?=some e) (hi:i<m:=by decide):(wT K sA n).fn[i]?=some e:=fnAt i (Nat.lt_of_lt_of_le hi hn) h
end
abbrev abc:Str := "abcdefghijklmnopqrstuvwxyz"
theorem zaC:abc.cps.toList.length=26:=by decide +kernel
theorem ziA:∀ c∈abc.cps.toList,ltB c=true:=by decide +kernel
theorem vS {a b:Str}:xF (a++b)=(xF a&&xF b):=by
 unfold xF;rw [Str.cps_append,Array.toList_append,List.all_append]
theorem zh2 {i:Int} {G:Hw} {Q:Q3} (h0:0<=i) (h1:i<26) (h:∀ x:Str,x.length=1->xF x=true->Q (.str x) G):vP (.str abc) (.int i) G Q:=by
 have hi:i.toNat<abc.cps.toList.length:=by rw [zaC];omega
 have e:tB abc.cps.toList i=some abc.cps.toList[i.toNat]:=by
  unfold tB fT;rw [if_pos h0,zaC,if_pos (show i<((26:Nat):Int) from h1)];exact List.getElem?_eq_getElem hi
 simp only [vP,e];refine ⟨?_,h _ rfl ?_⟩
 .have:abc.length=26:=by rw [← zaC];rfl
  rw [this];exact sz _ (by decide)
 .show [abc.cps.toList[i.toNat]].all ltB=true;rw [List.all_cons,ziA _ (List.getElem_mem hi)];rfl
theorem zbL {x:Str} {j:Int} (h0:0<=j) (h1:j<=x.length):(Txt.slice x none (some j)).cps.toList=x.cps.toList.take j.toNat:=by
 have e:Txt.slice x none (some j)=StrLaws.sliceText x none (some j):=rfl;rw [e,StrLaws.sliceText_to ⟨h0,by rw [Array.length_toList];exact h1⟩];simp
theorem cU {x:Str} {j:Int} (h0:0<=j) (h1:j<=x.length):(Txt.slice x (some j) none).cps.toList=x.cps.toList.drop j.toNat:=by
 have e:Txt.slice x (some j) none=StrLaws.sliceText x (some j) none:=rfl;rw [e,StrLaws.sliceText_from ⟨h0,by rw [Array.length_toList];exact h1⟩];have h2:j<=(x.cps.toList.length:Int):=by rw [Array.length_toList];exact h1
 show (((x.cps.toList.drop j.toNat).take _).toArray).toList=_;rw [List.toList_toArray];exact List.take_of_length_le (by rw [List.length_drop];omega)
theorem tL (x:Str):x.cps.toList.length=x.length:=by rw [Array.length_toList];rfl
theorem zgy {x:Str} {j:Int} {G:Hw} {Q:Q3} (h0:0<=j) (h1:j<=x.length) (hx:x.length<=1000) (a:xF x=true) (q:∀ y:Str,y.length<=j.toNat->xF y=true->Q (.str y) G):fD (.str x) none (some j) G Q:=by
 refine ⟨sz _ (by omega),q _ ?_ ?_⟩
 .rw [← tL,zbL h0 h1,List.length_take];omega
 .unfold xF;rw [zbL h0 h1,List.all_eq_true];exact fun c hc=>List.all_eq_true.mp a c (List.mem_of_mem_take hc)
theorem zeG {x:Str} {j:Int} {G:Hw} {Q:Q3} (h0:0<=j) (h1:j<=x.length) (hx:x.length<=1000) (a:xF x=true) (q:∀ y:Str,y.length<=x.length-j.toNat->xF y=true->Q (.str y) G):fD (.str x) (some j) none G Q:=by
 refine ⟨sz _ (by omega),q _ ?_ ?_⟩
 .rw [← tL,cU h0 h1,List.length_drop,tL];omega
 .unfold xF;rw [cU h0 h1,List.all_eq_true];exact fun c hc=>List.all_eq_true.mp a c (List.mem_of_mem_drop hc)
theorem zhK:xF "" = true:=by decide +kernel
theorem zcE:∀ {ts:List Str},(∀ x∈ts,xF x=true)->xF (Str.join "" ts)=true
 | [],_=>by decide +kernel
 | [x],h=>h x zzT
 |x::y::r,h=>by
  show xF (x ++ "" ++ Str.join "" (y::r))=true;rw [vS,vS,h x zzT,zhK,zcE fun z hz=>h z (List.mem_cons_of_mem _ hz)];rfl
theorem zel {ts:List Str} (h:∀ x∈ts,x.length<=1) (g:∀ x∈ts,xF x=true) (hn:ts.length<=4):JoinOk "" ts=true/\(Txt.join "" ts).length<=4/\xF (Txt.join "" ts)=true:=by
 have e:("" : Str).length=0:=by decide +kernel
 refine ⟨?_,?_,?_⟩
 .unfold JoinOk;rw [StrLaws.joinFits h (by rw [e];omega)];rfl
 .have h1:=StrLaws.join_length_le "" ts;have h2:=StrLaws.sumLen_le ts h;rw [e] at h1;rw [show Txt.join "" ts=Str.join "" ts from StrLaws.glued_eq_join "" ts];refine Nat.le_trans h1 ?_;omega
 .rw [show Txt.join "" ts=Str.join "" ts from StrLaws.glued_eq_join "" ts];exact zcE g
theorem zfS {x:Str} (h1:1<=x.length) (h6:x.length<=6) (a:xF x=true) (n:x∉noN) (e:x ≠ "aaaaaa"):nmB x=true:=by
 unfold nmB;rw [decide_eq_true h1,decide_eq_true h6,a,show noN.contains x=false by simpa using n,show (x==("aaaaaa" : Str))=false by simpa using e];rfl
theorem ne_a {x:Str} (h:x.length<=5):x ≠ "aaaaaa" := fun e=>by
 rw [e] at h;revert h
 decide +kernel
theorem ne_z {x:Str}:x ++ "z" ≠ "aaaaaa" := fun h=>by
 have l:("aaaaaa" : Str).cps.toList.getLast?≠some 122:=by decide +kernel
 rw [← h] at l;refine l ?_;rw [Str.cps_append,Array.toList_append,show ("z" : Str).cps.toList=[122] by decide +kernel];simp
theorem no_q {x:Str} (h:x∈noN):x ++ "q" ∉ noN:=by
 revert h;have:∀ y∈noN,y ++ "q" ∉ noN:=by decide +kernel
 exact this x
theorem zhF {x:Str} (h:x∈noN):x.length<=4:=by
 have:∀ y∈noN,y.length<=4:=by decide +kernel
 exact this x h
theorem no_z {x:Str}:x ++ "z" ∉ noN:=fun h=>by
 have l:∀ y∈noN,y.cps.toList.getLast?≠some 122:=by decide +kernel
 refine l _ h ?_;rw [Str.cps_append,Array.toList_append,show ("z" : Str).cps.toList=[122] by decide +kernel];simp
theorem ziy {x:Str}:((noN.map W.str).any fun w=>jK w (.str x))=noN.contains x:=by
 rw [List.any_map,List.contains_eq_any_beq];congr 1
 funext y
 simp only [Function.comp,jK];exact Bool.beq_comm
section
variable {K : yM} {sA : Addr}
theorem zcn {n:Nat} (hn:12<=n) {ws:List W} {G:Hw} {Q:Q3} (h:pB ws G Q XN):zE (wT K sA n) XN wK { nx:=fun _ G'=>Q .non G',rt:=Q } (yJ vB ws) G:=by
 obtain ⟨d,l,m,rfl,D,m1,m4,h⟩:=h;have e1:(wT K sA n).fn[1]?=some fS:=cX 1 hn rfl;have e6:(wT K sA n).fn[11]?=some tY:=cX 11 hn rfl;have t1:(wT K sA n).mt[1]?=some zeA:=rfl;have t2:(wT K sA n).mt[2]?=some eApp:=rfl;have i0:(wT K sA n).it[0]?=some eRg3:=rfl;have z0:=sz 0 (by decide);have z4:=sz 4 (by decide);have q1:("q" : Str).length=1:=by decide +kernel
 have q2:xF "q" = true:=by decide +kernel
 have w1:("z" : Str).length=1:=by decide +kernel
 have w2:xF "z" = true:=by decide +kernel
 show zE (wT K sA n) XN wK { nx:=fun _ G'=>Q .non G',rt:=Q } [some (.ref d),some (.int m),none,none,none,none,none,none,none] G
 have go:∀ (G1:Hw) (p:Addr) (core:Str),core.length<=4->xF core=true->G p=none->p∉[d,l]->zK [d,l] G G1->xO G1 d l->G1 p=some (.lst []) ->
   zE (wT K sA n) XN (tl (tl (tl wK))) { nx:=fun _ G'=>Q .non G',rt:=Q } [some (.ref d),some (.int m),some (.str abc),some (.ref p),some (.str core),none,none,none,none] G1:=by
  intro G1 p core hc hg hpn hp k1 D1 gp;simp only [wK,tl];refine yT ?_
  ((try dsimp only [zS,zU,zO,zG,zC,zA,yZ,zQ,zX,zP,zW,zZ,zT,zR,zL,zN,zB,zM,gZ,gS,tZ,tS]);try simp only [e1,e6,tJ,tK,sz _ (show core.length<=3000 by omega),if_true,xB])
  refine ⟨d,l,core.length+1,rfl,D1,⟨by omega,by omega⟩,fun at' G2 a0 a1 k2 D2=>?_⟩;have gp2:=k2 _ _ hp gp;refine yT ?_
  ((try dsimp only [zS,zU,zO,zG,zC,zA,yZ,zQ,zX,zP,zW,zZ,zT,zR,zL,zN,zB,zM,gZ,gS,tZ,tS]);try simp only [e6])
  refine ⟨d,l,26,rfl,D2,by decide,fun tn G3 tn0 tn1 k3 D3=>?_⟩;have gp3:=k3 _ _ hp gp2;have kG:=(k1.trans k2).trans k3;refine yT ?_
  ((try dsimp only [zS,zU,zO,zG,zC,zA,yZ,zQ,zX,zP,zW,zZ,zT,zR,zL,zN,zB,zM,gZ,gS,tZ,tS]);try simp only [zT,i0])
  refine ⟨⟨by omega,by omega⟩,?_⟩;have len:((List.range m.toNat).map fun i:Nat=>W.int (i:Int)).length=m.toNat:=by simp
  refine ⟨fun i σ G'=>∃ (xs:List Str) (v7 v8:Option W),σ=[some (.ref d),some (.int m),some (.str abc),some (.ref p),some (.str core),some (.int at'),some (.int tn),v7,v8]/\G' p=some (.lst (xs.map .str))/\xs.length=i/\(∀ x∈xs,nmB x=true/\x.length<=5/\xF x=true)/\zK [d,l] G G'/\xO G' d l,
   ⟨[],none,none,rfl,gp3,rfl,by simp,kG,D3⟩,fun _ _ _ _ _=>trivial,?_,?_⟩
  .rintro i w σ G' hw ⟨xs,v7,v8,rfl,gx,hl,hs,kp,D'⟩;rw [List.getElem?_map] at hw;obtain ⟨i',hi',rfl⟩:=Option.map_eq_some_iff.mp hw;have him:i<m.toNat:=by have:=(List.getElem?_eq_some_iff.mp hi').1;simpa using this
   have hii:i'=i:=by
    have:=(List.getElem?_eq_some_iff.mp hi').2;rw [List.getElem_range] at this;exact this.symm
   subst hii;have him:i' < 5:=by omega
   refine yT ?_
   (try dsimp only [zS,zU,zO,zG,zC,zA,yZ,zQ,zX,zP,zW,zZ,zT,zR,zL,zN,zB,zM,gZ,gS,tZ,tS])
   refine zgy a0 (by omega) (by omega) hg fun y1 h1 s1=>?_;refine ⟨.inl ⟨by omega,by omega⟩,by decide,?_⟩;refine zh2 (Int.emod_nonneg _ (by decide)) (Int.emod_lt_of_pos _ (by decide)) fun y2 h2 s2=>?_;refine addS (by omega) (zeG a0 (by omega) (by omega) hg fun y3 h3 s3=>addS (by rw [Str.length_append];omega) ?_);have hlen:((y1++y2)++y3).length<=5:=by rw [Str.length_append,Str.length_append];omega
   have hlen1:1<=((y1++y2)++y3).length:=by rw [Str.length_append,Str.length_append];omega
   have hsg:xF ((y1++y2)++y3)=true:=by rw [vS,vS,s1,s2,s3];rfl
   generalize (y1++y2)++y3=nm at hlen hlen1 hsg ⊢;refine yT ?_
   ((try dsimp only [zS,zU,zO,zG,zC,zA,yZ,zQ,zX,zP,zW,zZ,zT,zR,zL,zN,zB,zM,gZ,gS,tZ,tS]);try simp only [zD,qD,L3.inR,zzB,if_false,zzC,zzL,zzA,Nat.reduceAdd,z4,true_and])
   refine ⟨⟨by simp [jD],by simp [yA,jD],by simp [yC,dep]⟩,?_⟩
   have app:∀ x:Str,nmB x=true->x.length<=5->xF x=true->tyW G' (.ref p) "list" /\ fO (.ref p) [.str x] G' (fun _ G1=>∃ (xs':List Str) (v7 v8:Option W),[some (W.ref d),some (.int m),some (.str abc),some (.ref p),some (.str core),some (.int at'),some (.int tn),some (.int i'),some (.str x)]=[some (.ref d),some (.int m),some (.str abc),some (.ref p),some (.str core),some (.int at'),some (.int tn),v7,v8]/\G1 p=some (.lst (xs'.map .str))/\xs'.length=i'+1/\(∀ x∈xs',nmB x=true/\x.length<=5/\xF x=true)/\zK [d,l] G G1/\xO G1 d l):=by
    intro x hx hx5 hxs;refine ⟨tyL gx,appL gx (by rw [zzM];omega) ⟨xs++[x],_,_,rfl,by rw [zV];simp,by simp [hl],fun y hy=>?_,qP kp hpn,sC hp D'⟩⟩;rcases List.mem_append.mp hy with hy|hy
    .exact hs y hy
    .rw [zzO hy];exact ⟨hx,hx5,hxs⟩
   have en:([W.str "and", .str "or", .str "not", .str "then"].any fun w=>jK w (.str nm))=noN.contains nm:=ziy;rw [en]
   by_cases hno:nm∈noN
   .rw [if_pos (by simpa using hno)];refine yT ?_
    (try dsimp only [zS,zU,zO,zG,zC,zA,yZ,zQ,zX,zP,zW,zZ,zT,zR,zL,zN,zB,zM,gZ,gS,tZ,tS])
    refine addS (by omega) ?_;refine xH ?_;refine yT ?_
    ((try dsimp only [zS,zU,zO,zG,zC,zA,yZ,zQ,zX,zP,zW,zZ,zT,zR,zL,zN,zB,zM,gZ,gS,tZ,tS]);try simp only [t2])
    have:=zhF hno;exact app _ (zfS (by rw [Str.length_append];omega) (by rw [Str.length_append];omega) (by rw [vS,hsg,q2];rfl) (no_q hno) (ne_a (by rw [Str.length_append];omega))) (by rw [Str.length_append];omega) (by rw [vS,hsg,q2];rfl)
   .rw [if_neg (by simpa using hno)];refine xH ?_;refine yT ?_
    ((try dsimp only [zS,zU,zO,zG,zC,zA,yZ,zQ,zX,zP,zW,zZ,zT,zR,zL,zN,zB,zM,gZ,gS,tZ,tS]);try simp only [t2])
    exact app _ (zfS hlen1 (by omega) hsg hno (ne_a hlen)) hlen hsg
  .rintro σ G' ⟨xs,v7,v8,rfl,gx,hl,hs,kp,D'⟩;rw [len] at hl
   obtain ⟨x,r,rfl⟩:∃ x r,xs=x::r:=by
    cases xs with
    |nil=>simp at hl;omega
    |cons x r=>exact ⟨x,r,rfl⟩
   have hlr:r.length+1=m.toNat:=by simpa using hl
   have fin:∀ (ys:List Str) (G2:Hw),ys.length=m.toNat->(∀ y∈ys,nmB y=true)->zK [d,l] G G2->xO G2 d l->G2 p=some (.lst (ys.map .str))->∀ v7 v8:Option W,zE (wT K sA n) XN (.cons (.ret (.var 3)) .nil) { nx:=fun _ G'=>Q .non G',rt:=Q } [some (.ref d),some (.int m),some (.str abc),some (.ref p),some (.str core),some (.int at'),some (.int tn),v7,v8] G2:=by
    intro ys G2 hy hs2 k4 D4 g4 v7 v8;refine yT ?_
    (try dsimp only [zS,zU,zO,zG,zC,zA,yZ,zQ,zX,zP,zW,zZ,zT,zR,zL,zN,zB,zM,gZ,gS,tZ,tS])
    exact h p ys G2 hy hs2 hp g4 k4 D4
   refine yT ?_
   ((try dsimp only [zS,zU,zO,zG,zC,zA,yZ,zQ,zX,zP,zW,zZ,zT,zR,zL,zN,zB,zM,gZ,gS,tZ,tS]);try simp only [zD,sR])
   by_cases hm:1<m
   .rw [if_pos (by simpa using hm)]
    ((try dsimp only [zS,zU,zO,zG,zC,zA,yZ,zQ,zX,zP,zW,zZ,zT,zR,zL,zN,zB,zM,gZ,gS,tZ,tS]);try simp only [e6])
    refine ⟨d,l,2,rfl,D',by decide,fun b G4 b0 b1 k4 D4=>?_⟩;have gx4:=k4 _ _ hp gx;simp only [jH]
    by_cases hb:b=1
    .rw [decide_eq_true hb,if_pos rfl];refine yT ?_
     (try dsimp only [zS,zU,zO,zG,zC,zA,yZ,zQ,zX,zP,zW,zZ,zT,zR,zL,zN,zB,zM,gZ,gS,tZ,tS])
     refine pS (zJ gx4) ?_;rw [zzU,uG];have hx:=hs x (by simp);refine addS (by omega) ?_;rw [zzU] at gx4;simp only [setR,gx4];have e0:fT (W.str x::r.map W.str).length 0=some 0:=by simp [fT]
     rw [e0];refine xH ?_;refine fin ((x ++ "z")::r) _ (by simpa using hlr) (fun y hy=>?_) (qP (kp.trans k4) hpn) (sC hp D4) (by rw [zV];rfl) v7 v8;rcases List.mem_cons.mp hy with rfl|hy
     .exact zfS (by rw [Str.length_append];omega) (by rw [Str.length_append];omega) (by rw [vS,hx.2.2,w2];rfl) no_z ne_z
     .exact (hs y (List.mem_cons_of_mem _ hy)).1
    .rw [decide_eq_false hb,if_neg zzN];refine xH ?_;exact fin (x::r) _ hl (fun y hy=>(hs y hy).1) (kp.trans k4) D4 gx4 v7 v8
   .rw [if_neg (by simpa using hm),if_neg zzN];refine xH ?_;exact fin (x::r) _ hl (fun y hy=>(hs y hy).1) kp D' gx v7 v8
 simp only [wK,tl] at go;simp only [wK];refine yT ?_
 (try dsimp only [zS,zU,zO,zG,zC,zA,yZ,zQ,zX,zP,zW,zZ,zT,zR,zL,zN,zB,zM,gZ,gS,tZ,tS])
 refine yT ?_
 ((try dsimp only [zS,zU,zO,zG,zC,zA,yZ,zQ,zX,zP,zW,zZ,zT,zR,zL,zN,zB,zM,gZ,gS,tZ,tS]);try simp only [List.length_nil,z0,true_and])
 intro p hp;have hpd:=wX D hp;have D1:=wD (o:=.lst []) hp D;have k1:zK [d,l] G (put G p (.lst [])):=zK.new hp;have gp:(put G p (.lst [])) p=some (.lst []):=zV;generalize put G p (.lst [])=G1 at D1 k1 gp ⊢;refine yT ?_
 ((try dsimp only [zS,zU,zO,zG,zC,zA,yZ,zQ,zX,zP,zW,zZ,zT,zR,zL,zN,zB,zM,gZ,gS,tZ,tS]);try simp only [t1,e6,zT,zR,i0])
 refine ⟨rfl,d,l,5,rfl,D1,by decide,fun j G2 j0 j5 k2 D2=>?_⟩;have gp2:=k2 _ _ hpd gp;refine ⟨⟨by omega,by omega⟩,?_⟩;have len:((List.range j.toNat).map fun i:Nat=>W.int (i:Int)).length=j.toNat:=by simp
 refine ⟨fun i acc G'=>∃ ts:List Str,acc=ts.map .str/\ts.length=i/\(∀ x∈ts,x.length<=1/\xF x=true)/\zK [d,l] G2 G'/\xO G' d l,⟨[],rfl,rfl,by simp,zK.refl,D2⟩,?_,by rw [len];exact sz _ (by omega),?_,?_⟩
 .rintro i acc G' ⟨ts,rfl,rfl,_,_,_⟩ _;exact ⟨trivial,by simp⟩
 .rintro i w acc G' hw ⟨ts,rfl,hl,hs,kp,D'⟩;simp only [tF,List.length_cons,List.length_nil,List.replicate,zzU,zzV,List.cons_append,List.nil_append,List.append_nil]
  ((try dsimp only [zS,zU,zO,zG,zC,zA,yZ,zQ,zX,zP,zW,zZ,zT,zR,zL,zN,zB,zM,gZ,gS,tZ,tS]);try simp only [Option.join_some,if_true,e6])
  refine ⟨d,l,26,rfl,D',by decide,fun r G'' r0 r1 kp' D''=>zh2 r0 r1 fun x hx sx=>?_⟩;refine ⟨ts++[x],by simp,by simp [hl],fun y hy=>?_,kp.trans kp',D''⟩;rcases List.mem_append.mp hy with hy|hy
  .exact hs y hy
  .rw [zzO hy,hx];exact ⟨zzR _,sx⟩
 .rintro acc G' ⟨ts,rfl,hl,hs,kp,D'⟩ r hr;have hl4:ts.length<=4:=by rw [hl,len];omega
  obtain ⟨jo,jl,js⟩:=zel (fun x hx=>(hs x hx).1) (fun x hx=>(hs x hx).2) hl4;refine ⟨ts,zJ zV,jo,?_⟩;have k3:zK [d,l] G' (put G' r (.lst (ts.map .str))):=zK.new hr;exact go _ p _ jl js hp hpd (((k1.trans k2).trans kp).trans k3) (wD hr D') (k3 _ _ hpd (kp _ _ hpd gp2))
end
theorem za8 {xs:List Str} {i:Int} (h0:0<=i) (h1:i<xs.length):∃ x∈xs,tB (xs.map W.str) i=some (.str x):=by
 have hi:i.toNat<xs.length:=by omega
 refine ⟨xs[i.toNat],List.getElem_mem hi,?_⟩;unfold tB fT;rw [if_pos h0,zzM,if_pos h1];show (xs.map W.str)[i.toNat]?=_;rw [List.getElem?_map,List.getElem?_eq_getElem hi];rfl
section
variable {K : yM} {sA : Addr}
theorem zbi {n:Nat} {ws:List W} {G:Hw} {Q:Q3} (h:wZ (n+1) ws G Q XN):zE (xJ K sA 13 ⟨"_law_saying", wZ n⟩) XN qO { nx:=fun _ G'=>Q .non G',rt:=Q } (yJ kF ws) G:=by
 obtain ⟨d,l,r,m,xs,rfl,D,hr,gr,hx,hxl,hok,m1,mn,m100,h⟩:=h;have e1:(xJ K sA 13 ⟨"_law_saying", wZ n⟩).fn[1]?=some fS:=rfl;have e8:(xJ K sA 13 ⟨"_law_saying", wZ n⟩).fn[11]?=some tY:=rfl;have e9:(xJ K sA 13 ⟨"_law_saying", wZ n⟩).fn[13]?=some ⟨"_law_saying", wZ n⟩:=rfl;have z2:=sz 2 (by decide);have z3:=sz 3 (by decide);have x0:0<xs.length:=List.length_pos_iff.mpr hx;show zE (xJ K sA 13 ⟨"_law_saying", wZ n⟩) XN qO { nx:=fun _ G'=>Q .non G',rt:=Q } [some (.ref d),some (.ref r),some (.int m),none,none,none] G;simp only [qO]
 ((try dsimp only [zE,zS,zU,zO,zG,zC,zA,yZ,zQ,zX,zP,zW,zZ,zT,zR,zL,zN,zB,zM,gZ,gS,tZ,tS]);try simp only [zD,jH,e1,e8,e9,tJ,tK,gr,zzM])
 by_cases hm1:m=1
 .subst hm1;rw [if_pos (by simp)];refine ⟨d,l,xs.length,rfl,D,⟨by omega,by omega⟩,fun i G1 i0 i1 kp D1=>?_⟩;obtain ⟨x,hxm,ex⟩:=za8 i0 i1;refine pS (zJ (kp _ _ hr gr)) ?_;rw [ex];exact ⟨z2,h (.say x) G1 (hok x hxm) (by show ((1:Nat):Int)<=1;decide) kp D1⟩
 rw [if_neg (by simpa using hm1)];refine ⟨d,l,4,rfl,D,by decide,fun way G1 w0 w1 kp1 D1=>?_⟩;have gr1:=kp1 _ _ hr gr
 (try dsimp only [zE,zS,zU,zO,zG,zC,zA,yZ,zQ,zX,zP,zW,zZ,zT,zR,zL,zN,zB,zM,gZ,gS,tZ,tS])
 have hnot:zE (xJ K sA 13 ⟨"_law_saying", wZ n⟩) XN (.cons (.ret (.tup (.cons (.con (.str "not")) (.cons (.call 13 (.cons (.var 0) (.cons (.var 1) (.cons (.bin .Sub (.var 2) (.con (.int 1))) .nil)))) .nil)))) .nil) { nx:=fun _ G'=>Q .non G',rt:=Q } [some (.ref d),some (.ref r),some (.int m),some (.int way),none,none] G1:=by
  ((try dsimp only [zE,zS,zU,zO,zG,zC,zA,yZ,zQ,zX,zP,zW,zZ,zT,zR,zL,zN,zB,zM,gZ,gS,tZ,tS]);try simp only [xB,e9])
  refine ⟨d,l,r,m-1,xs,rfl,D1,hr,gr1,hx,hxl,hok,by omega,by omega,by omega,fun t G2 ht hs kp2 D2=>⟨z2,h (.neg t) G2 ht ?_ (kp1.trans kp2) D2⟩⟩;show ((t.size+1:Nat):Int)<=m;omega
 (try dsimp only [zE,zS,zU,zO,zG,zC,zA,yZ,zQ,zX,zP,zW,zZ,zT,zR,zL,zN,zB,zM,gZ,gS,tZ,tS] at hnot)
 by_cases hm2:m=2
 .subst hm2;simp only [decide_true,if_true];exact hnot
 simp only [decide_eq_false hm2,zzB,if_false,jH]
 by_cases hw:way=3
 .subst hw;simp only [decide_true,if_true];exact hnot
 simp only [decide_eq_false hw,zzB,if_false,xB];refine ⟨d,l,m-2,rfl,D1,⟨by omega,by omega⟩,fun i G2 i0 i1 kp2 D2=>?_⟩;have gr2:=kp2 _ _ hr gr1
 ((try dsimp only [zE,zS,zU,zO,zG,zC,zA,yZ,zQ,zX,zP,zW,zZ,zT,zR,zL,zN,zB,zM,gZ,gS,tZ,tS]);try simp only [e9])
 refine ⟨d,l,r,1+i,xs,rfl,D2,hr,gr2,hx,hxl,hok,by omega,by omega,by omega,fun a G3 hao ha kp3 D3=>?_⟩;have gr3:=kp3 _ _ hr gr2
 ((try dsimp only [zE,zS,zU,zO,zG,zC,zA,yZ,zQ,zX,zP,zW,zZ,zT,zR,zL,zN,zB,zM,gZ,gS,tZ,tS]);try simp only [zzC,zzL,zzA,Nat.reduceAdd,z3,true_and])
 intro p hp;have D4:=wD (o:=.lst [.str "and", .str "or", .str "if"]) hp D3;have k4:zK [d,l] G3 (put G3 p (.lst [.str "and", .str "or", .str "if"])):=zK.new hp;have gr4:=k4 _ _ hr gr3;refine pS (zJ zV) ?_;have kp4:=((kp1.trans kp2).trans kp3).trans k4
 have fin:∀ k:Op,wZ n [.ref d,.ref r,.int (m-1-(1+i))] (put G3 p (.lst [.str "and", .str "or", .str "if"])) (fun b G5=>Q (.tup [.str (kw k),a.w,b]) G5) XN:=fun k =>
  ⟨d,l,r,m-1-(1+i),xs,rfl,D4,hr,gr4,hx,hxl,hok,by omega,by omega,by omega,fun b G5 hbo hb kp5 D5=>by
   refine h (.two k a b) G5 ⟨hao,hbo⟩ ?_ (kp4.trans kp5) D5;show ((a.size+b.size+1:Nat):Int)<=m;omega⟩
 have hc:way=0\/way=1\/way=2:=by omega
 rcases hc with rfl|rfl|rfl
 .rw [uG];((try dsimp only [zE,zS,zU,zO,zG,zC,zA,yZ,zQ,zX,zP,zW,zZ,zT,zR,zL,zN,zB,zM,gZ,gS,tZ,tS]);try simp only [e9,xB,z3,true_and]);exact fin .an
 .rw [gN];((try dsimp only [zE,zS,zU,zO,zG,zC,zA,yZ,zQ,zX,zP,zW,zZ,zT,zR,zL,zN,zB,zM,gZ,gS,tZ,tS]);try simp only [e9,xB,z3,true_and]);exact fin .or
 .rw [at_2];((try dsimp only [zE,zS,zU,zO,zG,zC,zA,yZ,zQ,zX,zP,zW,zZ,zT,zR,zL,zN,zB,zM,gZ,gS,tZ,tS]);try simp only [e9,xB,z3,true_and]);exact fin .im
end
theorem sJ {a:W} {l:List W} {G:Hw} {Q:Q3}:vP (.tup (a::l)) (.int 0) G Q=Q a G:=by simp only [vP,uG]
theorem ix1 {a b:W} {l:List W} {G:Hw} {Q:Q3}:vP (.tup (a::b::l)) (.int 1) G Q=Q b G:=by simp only [vP,gN]
theorem ix2 {a b c:W} {l:List W} {G:Hw} {Q:Q3}:vP (.tup (a::b::c::l)) (.int 2) G Q=Q c G:=by simp only [vP,at_2]
theorem zcF {s:Sy} {G:Hw} {Q:Q3}:vP s.w (.int 1) G Q=Q s.arg G:=by cases s<;>simp only [Sy.w,Sy.arg,ix1]
theorem kP {x:W} {r:List W}:pE (x::r) (some 1) none=r:=by
 unfold pE HT.wF;simp
theorem zgJ {x a b:Str}:([W.str a,.str b].any fun w=>jK w (.str x))=(x==a || x==b):=by
 simp only [List.any_cons,List.any_nil,Bool.or_false,jK];rw [show (a==x)=(x==a) from BEq.comm,show (b==x)=(x==b) from BEq.comm]
section
variable {K : yM} {sA : Addr} {Γ : Ctx3}
theorem zdL {ws:List W} {G:Hw} {Q:Q3} (h:bZ ws G Q XN):zE Γ XN vT { nx:=fun _ G'=>Q .non G',rt:=Q } (yJ tR ws) G:=by
 obtain ⟨m,rfl,hm,h⟩:=h;show zE Γ XN vT { nx:=fun _ G'=>Q .non G',rt:=Q } [some m.w] G;simp only [vT];refine yT ?_
 cases m with
 |no=>exact absurd rfl hm
 |dbt x s =>
  have q1:(("doubt" : Str) == "answer")=false:=by decide +kernel
  ((try dsimp only [zS,zU,zO,zG,zC,zA,yZ,zQ,zX,zP,zW,zZ,zT,zR,zL,zN,zB,zM,gZ,gS,tZ,tS]);try simp only [Mv.w,sJ,zD,zH,q1,zzB,if_false])
  refine xH ?_;refine yT ?_
  ((try dsimp only [zS,zU,zO,zG,zC,zA,yZ,zQ,zX,zP,zW,zZ,zT,zR,zL,zN,zB,zM,gZ,gS,tZ,tS]);try simp only [Mv.w,ix1,zD,zH])
  simp only [Mv.told,tld] at h
  cases e1:(x==("if" : Str)) with
  |true =>
   simp only [e1,Bool.true_or,if_true] at h ⊢;refine yT ?_
   ((try dsimp only [zS,zU,zO,zG,zC,zA,yZ,zQ,zX,zP,zW,zZ,zT,zR,zL,zN,zB,zM,gZ,gS,tZ,tS]);try simp only [Mv.w,ix2,zcF])
   exact h
  |false =>
   simp only [e1,Bool.false_or,zzB,if_false] at h ⊢
   cases e2:(x==("not" : Str)) with
   |true =>
    simp only [e2,if_true] at h ⊢;refine yT ?_
    ((try dsimp only [zS,zU,zO,zG,zC,zA,yZ,zQ,zX,zP,zW,zZ,zT,zR,zL,zN,zB,zM,gZ,gS,tZ,tS]);try simp only [Mv.w,ix2,zcF])
    exact h
   |false =>
    simp only [e2,zzB,if_false] at h ⊢;refine xH ?_;refine yT ?_
    (try dsimp only [zS,zU,zO,zG,zC,zA,yZ,zQ,zX,zP,zW,zZ,zT,zR,zL,zN,zB,zM,gZ,gS,tZ,tS])
    exact h
 |ans x s a =>
  ((try dsimp only [zS,zU,zO,zG,zC,zA,yZ,zQ,zX,zP,zW,zZ,zT,zR,zL,zN,zB,zM,gZ,gS,tZ,tS]);try simp only [Mv.w,sJ,zD,zH,beq_self_eq_true,if_true])
  refine yT ?_
  ((try dsimp only [zS,zU,zO,zG,zC,zA,yZ,zQ,zX,zP,zW,zZ,zT,zR,zL,zN,zB,zM,gZ,gS,tZ,tS]);try simp only [Mv.w,ix2])
  exact h
theorem zdM {ws:List W} {G:Hw} {Q:Q3} (h:sU ws G Q XN):zE Γ XN rZ { nx:=fun _ G'=>Q .non G',rt:=Q } (yJ nA ws) G:=by
 obtain ⟨x,s,rfl,h⟩:=h;have z2:=sz 2 (by decide);show zE Γ XN rZ { nx:=fun _ G'=>Q .non G',rt:=Q } [some (dw (x,s)),none,none] G;simp only [rZ];refine yT ?_
 ((try dsimp only [zS,zU,zO,zG,zC,zA,yZ,zQ,zX,zP,zW,zZ,zT,zR,zL,zN,zB,zM,gZ,gS,tZ,tS]);try simp only [dw])
 refine yT ?_
 ((try dsimp only [zS,zU,zO,zG,zC,zA,yZ,zQ,zX,zP,zW,zZ,zT,zR,zL,zN,zB,zM,gZ,gS,tZ,tS]);try simp only [zzC,zzL,zzA,Nat.reduceAdd,z2,true_and,zD,qD])
 refine ⟨⟨by simp [jD],by simp [yA,jD],by simp [yC,dep]⟩,?_⟩;simp only [zzB,if_false,zgJ];unfold tld at h
 cases e:(x==("if" : Str) || x==("not" : Str)) with
 |true =>
  simp only [e,if_true] at h ⊢;rw [zcF];exact h
 |false =>
  simp only [e,zzB,if_false] at h ⊢;exact h
theorem zdA {n:Nat} (hn:26<=n) {ws:List W} {G:Hw} {Q:Q3} (h:sW ws G Q XN):zE (wT K sA n) XN sB { nx:=fun _ G'=>Q .non G',rt:=Q } (yJ nB ws) G:=by
 obtain ⟨m,rfl,hm,h⟩:=h;have e25:(wT K sA n).fn[25]?=some ⟨"said_by", sU⟩:=cX 25 hn rfl;show zE (wT K sA n) XN sB { nx:=fun _ G'=>Q .non G',rt:=Q } [some m.w] G;simp only [sB];refine yT ?_
 cases m with
 |no=>exact absurd rfl hm
 |dbt x s =>
  have q1:(("doubt" : Str) == "answer")=false:=by decide +kernel
  ((try dsimp only [zS,zU,zO,zG,zC,zA,yZ,zQ,zX,zP,zW,zZ,zT,zR,zL,zN,zB,zM,gZ,gS,tZ,tS]);try simp only [Mv.w,sJ,zD,zH,q1,zzB,if_false,fD,kP,e25])
  exact ⟨x,s,rfl,h⟩
 |ans x s a =>
  ((try dsimp only [zS,zU,zO,zG,zC,zA,yZ,zQ,zX,zP,zW,zZ,zT,zR,zL,zN,zB,zM,gZ,gS,tZ,tS]);try simp only [Mv.w,sJ,ix2,zD,zH,beq_self_eq_true,if_true])
  exact h
theorem hR {Γ:Ctx3} (g0:Γ.gl[0]?=some (("JOINED" : Str),.dcf ["not", "and", "or"] [.int 1,.int 2,.int 2])) {ws:List W} {G:Hw} {Q:Q3} (h:wS ws G Q XN):zE Γ XN qF { nx:=fun _ G'=>Q .non G',rt:=Q } (yJ kH ws) G:=by
 obtain ⟨c,rfl,h⟩:=h;have z0:=sz 0 (by decide);show zE Γ XN qF { nx:=fun _ G'=>Q .non G',rt:=Q } [some c.w] G;simp only [qF];refine yT ?_
 have no:∀ x:Str,((["not", "and", "or"]:List Str).zip [W.int 1,.int 2,.int 2]).lookup x=if x == "not" then some (.int 1) else if x == "and" then some (.int 2) else if x == "or" then some (.int 2) else none:=by
  intro x;simp only [List.zip_cons_cons,List.zip_nil_right,List.lookup_cons,List.lookup_nil];cases (x==("not" : Str))<;>cases (x==("and" : Str))<;>cases (x==("or" : Str))<;>rfl
 have yes:∀ (x:Str) (r:List W),c.w=.tup (.str x::r)->(if x == "not" then some (W.int 1) else if x == "and" then some (.int 2) else if x == "or" then some (.int 2) else none).isSome=true->(wG c).map Cd.w=r->(zG Γ XN (.ite (.cmp .In (.ix (.var 0) (.con (.int 0))) (.glb 0)) (.sl (.var 0) (.yes (.con (.int 1))) .no) (.tup .nil))).e [some c.w] G Q:=by
  intro x r e b hr
  ((try dsimp only [zS,zU,zO,zG,zC,zA,yZ,zQ,zX,zP,zW,zZ,zT,zR,zL,zN,zB,zM,gZ,gS,tZ,tS]);try simp only [e,sJ,g0,zD,qD,no,b,zzB,if_false,if_true,fD,kP])
  rw [← hr];exact h
 have nay:∀ (x:Str) (r:List W),c.w=.tup (.str x::r)->(if x == "not" then some (W.int 1) else if x == "and" then some (.int 2) else if x == "or" then some (.int 2) else none).isSome=false->wG c=[]->(zG Γ XN (.ite (.cmp .In (.ix (.var 0) (.con (.int 0))) (.glb 0)) (.sl (.var 0) (.yes (.con (.int 1))) .no) (.tup .nil))).e [some c.w] G Q:=by
  intro x r e b hr
  ((try dsimp only [zS,zU,zO,zG,zC,zA,yZ,zQ,zX,zP,zW,zZ,zT,zR,zL,zN,zB,zM,gZ,gS,tZ,tS]);try simp only [e,sJ,g0,zD,qD,no,b,zzB,if_false,List.length_nil,z0,true_and])
  rw [hr] at h;exact h
 cases c with
 |any=>exact nay "any" _ rfl (by decide +kernel) rfl
 |one k s=>exact nay k.s _ rfl (by cases k<;>decide +kernel) rfl
 |two k x s=>exact nay k.s _ rfl (by cases k<;>decide +kernel) rfl
 |neg a=>exact yes "not" _ rfl (by decide +kernel) rfl
 |bin k a b=>exact yes (bw k) _ rfl (by cases k<;>decide +kernel) rfl
end
def yI (ts:List Cd):List Cd:=ts.flatMap yR
theorem uJ (t:Cd):yR t=t::yI (wG t):=by cases t<;>simp [yR,wG,yI]
theorem xP:∀ t:Cd,(yR t).length=t.size
 | .any=>rfl
 | .one _ _=>rfl
 | .two _ _ _=>rfl
 | .neg a=>by simp [yR,Cd.size,xP a]
 | .bin _ a b=>by simp [yR,Cd.size,xP a,xP b]
theorem Cd.pos:∀ t:Cd,1<=t.size
 | .any=>zzR _
 | .one _ _=>zzR _
 | .two _ _ _=>zzR _
 | .neg _=>Nat.le_add_left _ _
 | .bin _ _ _=>Nat.le_add_left _ _
theorem uK (a b:List Cd):yI (a++b)=yI a++yI b:=by simp [yI]
theorem cQ (a:Cd):yI [a]=yR a:=by simp [yI]
def wU (ts:List Cd):Nat:=(yI ts).length
theorem rG (a b:List Cd):wU (a++b)=wU a+wU b:=by simp [wU,uK]
theorem uL:∀ ts:List Cd,ts.length<=wU ts
 | []=>Nat.zero_le _
 |t::ts=>by
  have h1:=t.pos;have h2:=uL ts;have e:wU (t::ts)=(yR t).length+wU ts:=by simp [wU,yI]
  rw [e,xP,List.length_cons];omega
theorem zbw (t:Cd):wU (wG t)+1=t.size:=by
 have:=xP t;rw [uJ] at this;simpa [wU] using this
theorem zcH {G:Hw} {p:Addr} {ws:List W} {R:List W->(Hw->Prop)->Hw->Prop} (h:G p=some (.lst ws)) (q:R ws (fun G'=>yN G' p=some ws) G):qS (.ref p) G R:=by
 simp only [qS,zJ h];exact q
theorem gW {ws:List W} {w:W} (hw:w∈ws):dep w<=yC ws:=by
 induction ws with
 |nil=>cases hw
 |cons x r ih =>
  simp only [yC];rcases List.mem_cons.mp hw with rfl|hw
  .exact Nat.le_max_left _ _
  .exact Nat.le_trans (ih hw) (Nat.le_max_right _ _)
theorem zgu {ws:List W} {w:W} (hw:w∈ws):dep w<dep (.tup ws):=by
 have:=gW hw;simp only [dep];omega
theorem zdR {a b:List W} (h:a.Sublist b) (p:yA b=true):yA a=true:=by
 induction h with
 |slnil=>rfl
 |cons x _ ih=>simp only [yA,Bool.and_eq_true] at p;exact ih p.2
 |cons_cons x _ ih=>simp only [yA,Bool.and_eq_true] at p ⊢;exact ⟨p.1,ih p.2⟩
theorem zeD {a b:List W} (h:a.Sublist b):yC a<=yC b:=by
 induction h with
 |slnil=>exact zzR _
 |cons x _ ih=>simp only [yC];omega
 |cons_cons x _ ih=>simp only [yC];omega
theorem zdE {a b:List W} (h:a.Sublist b) (s:Srtb b):Srtb a :=
 ⟨zdR h s.pure,fun x hx y hy=>s.lt x (h.subset hx) y (h.subset hy),Nat.lt_of_le_of_lt h.length_le s.few,Nat.lt_of_le_of_lt (zeD h) s.deep,let ⟨T,e⟩:=s.hd;⟨T,fun x hx=>e x (h.subset hx)⟩⟩
section
variable {K : yM} {sA : Addr}
theorem zbb {n:Nat} {ws:List W} {G:Hw} {Q:Q3} (h:sX sA ws G Q XN):zE (wT K sA n) XN kZ { nx:=fun _ G'=>Q .non G',rt:=Q } (yJ vD ws) G:=by
 obtain ⟨t,rfl,ts,h⟩:=h;have t0:(wT K sA n).mt[0]?=some ePop:=rfl;have t2:(wT K sA n).mt[2]?=some eApp:=rfl;have t3:(wT K sA n).mt[4]?=some eExt:=rfl;have s1:(wT K sA n).sx[1]?=some ⟨rvM,rvS⟩:=rfl;have s3:(wT K sA n).sx[2]?=some ⟨hcM "sides_of", hcS sA wS⟩:=rfl;have z0:=sz 0 (by decide);have z1:=sz 1 (by decide);show zE (wT K sA n) XN kZ { nx:=fun _ G'=>Q .non G',rt:=Q } [some t.w,some (.ref sA),none,none,none] G;simp only [kZ];refine yT ?_
 ((try dsimp only [zS,zU,zO,zG,zC,zA,yZ,zQ,zX,zP,zW,zZ,zT,zR,zL,zN,zB,zM,gZ,gS,tZ,tS]);try simp only [List.length_nil,z0,true_and])
 intro pf hf;have kf:zK [] G (put G pf (.lst [])):=zK.new hf;have gf:(put G pf (.lst [])) pf=some (.lst []):=zV;generalize put G pf (.lst [])=G1 at kf gf ⊢;refine yT ?_
 ((try dsimp only [zS,zU,zO,zG,zC,zA,yZ,zQ,zX,zP,zW,zZ,zT,zR,zL,zN,zB,zM,gZ,gS,tZ,tS]);try simp only [zzC,zzL,zzA,z1,true_and])
 intro pw hw;have kw':zK [] G1 (put G1 pw (.lst [t.w])):=zK.new hw;have gw:(put G1 pw (.lst [t.w])) pw=some (.lst [t.w]):=zV;have gf:=kw' _ _ (by simp) gf;have ne:pf≠pw:=fun e=>by rw [e,gw] at gf;cases gf
 have hw0:G pw=none:=kf.none (by simp) hw;have k2:zK [] G (put G1 pw (.lst [t.w])):=kf.trans kw';generalize put G1 pw (.lst [t.w])=G2 at k2 gw gf ⊢;refine yT ?_;refine ⟨fun m σ G'=>∃ (fs st:List Cd) (v:Option W),σ=[some t.w,some (.ref sA),some (.ref pf),some (.ref pw),v]/\G' pf=some (.lst (fs.map Cd.w))/\G' pw=some (.lst (st.map Cd.w))/\zK [] G G'/\fs++yI st.reverse=yR t/\wU st=m,⟨_,[],[t],none,rfl,gf,gw,k2,by simp [yI],rfl⟩,?_⟩;rintro m σ G' ⟨fs,st,v,rfl,gf',gw',kp,hp,rfl⟩
 have hln:fs.length+wU st=t.size:=by
  have:=congrArg List.length hp;rw [zzW,xP] at this
  have e:(yI st.reverse).length=wU st:=by
   clear this hp gw' gf'
   induction st with
   |nil=>rfl
   |cons a st ih =>
    rw [List.reverse_cons,uK,zzW,ih,cQ];simp [wU,yI];omega
  omega
 ((try dsimp only [zS,zU,zO,zG,zC,zA,yZ,zQ,zX,zP,zW,zZ,zT,zR,zL,zN,zB,zM,gZ,gS,tZ,tS]);try simp only [gG,gw'])
 by_cases hst:st=[]
 .subst hst;simp only [zzV,List.isEmpty_nil,Bool.not_true,zzB,if_false];refine yT ?_
  (try dsimp only [zS,zU,zO,zG,zC,zA,yZ,zQ,zX,zP,zW,zZ,zT,zR,zL,zN,zB,zM,gZ,gS,tZ,tS])
  have e:fs=yR t:=by simpa [yI] using hp
  rw [e] at gf';exact h pf G' kp hf gf'
 .obtain ⟨ini,x,rfl⟩:∃ ini x,st=ini++[x]:=⟨st.dropLast,st.getLast hst,(List.dropLast_concat_getLast hst).symm⟩;have he:((ini++[x]).map Cd.w).isEmpty=false:=by simp
  simp only [he,Bool.not_false,if_true];rw [List.map_append,zzU,zzV] at gw';have hgx:(ini.map Cd.w++[x.w])[(ini.map Cd.w++[x.w]).length-1]?=some x.w:=by simp
  rw [rG,show wU [x]=x.size by simp [wU,yI,xP]] at hln;have l1:=uL ini;have l2:=zbw x;have l3:=uL (wG x);refine yT ?_
  ((try dsimp only [zS,zU,zO,zG,zC,zA,yZ,zQ,zX,zP,zW,zZ,zT,zR,zL,zN,zB,zM,gZ,gS,tZ,tS]);try simp only [t0])
  refine ⟨tyL gw',?_⟩;simp only [gC,gw',hgx,List.dropLast_concat];have k3:zK [] G (put G' pw (.lst (ini.map Cd.w))):=qP kp hw0;have gw3:(put G' pw (.lst (ini.map Cd.w))) pw=some (.lst (ini.map Cd.w)):=zV;have gf3:(put G' pw (.lst (ini.map Cd.w))) pf=some (.lst (fs.map Cd.w)):=by rw [xR ne];exact gf'
  generalize put G' pw (.lst (ini.map Cd.w))=G3 at k3 gw3 gf3 ⊢;refine yT ?_
  ((try dsimp only [zS,zU,zO,zG,zC,zA,yZ,zQ,zX,zP,zW,zZ,zT,zR,zL,zN,zB,zM,gZ,gS,tZ,tS]);try simp only [t2])
  refine ⟨tyL gf3,appL gf3 (by rw [zzM];omega) ?_⟩;have k4:zK [] G (put G3 pf (.lst (fs.map Cd.w++[x.w]))):=qP k3 hf;have gf4:(put G3 pf (.lst (fs.map Cd.w++[x.w]))) pf=some (.lst (fs.map Cd.w++[x.w])):=zV;have gw4:(put G3 pf (.lst (fs.map Cd.w++[x.w]))) pw=some (.lst (ini.map Cd.w)):=by rw [xR (Ne.symm ne)];exact gw3
  generalize put G3 pf (.lst (fs.map Cd.w++[x.w]))=G4 at k4 gf4 gw4 ⊢;refine yT ?_
  ((try dsimp only [zS,zU,zO,zG,zC,zA,yZ,zQ,zX,zP,zW,zZ,zT,zR,zL,zN,zB,zM,gZ,gS,tZ,tS]);try simp only [t3,s1,s3])
  refine ⟨tyL gw4,?_⟩;refine ⟨rfl,x,rfl,?_⟩;simp only [rvS,extS,gw4];refine ⟨sz _ (by rw [zzM,List.length_reverse,zzM];omega),?_⟩;refine xH ?_;refine ⟨wU (ini++(wG x).reverse),?_,fs++[x],ini++(wG x).reverse,_,rfl,?_,?_,qP k4 hw0,?_,rfl⟩
  .have e:wU (wG x).reverse=wU (wG x):=by cases x<;>simp [wG,wU,yI]<;>omega
   rw [rG,rG,e,show wU [x]=x.size by simp [wU,yI,xP]];omega
  .rw [xR ne,gf4];simp
  .rw [zV,List.map_append,List.map_reverse]
  .rw [← hp,List.reverse_append,List.reverse_reverse,List.reverse_append,List.reverse_singleton,uK,uK,cQ,uJ x];simp
theorem zdG {n:Nat} (hn:19<=n) {ws:List W} {G:Hw} {Q:Q3} (h:nM ws G Q XN):zE (wT K sA n) XN vU { nx:=fun _ G'=>Q .non G',rt:=Q } (yJ tT ws) G:=by
 obtain ⟨d,l,p,xs,rfl,D,hp,gp,sb,h⟩:=h;have e6:(wT K sA n).fn[6]?=some eSrt:=cX 6 hn rfl;have e7:(wT K sA n).fn[7]?=some eTup:=cX 7 hn rfl;have e11:(wT K sA n).fn[11]?=some tY:=cX 11 hn rfl;have few:=sb.few;show zE (wT K sA n) XN vU { nx:=fun _ G'=>Q .non G',rt:=Q } [some (.ref d),some (.ref p)] G;simp only [vU];refine yT ?_
 ((try dsimp only [zS,zU,zO,zG,zC,zA,yZ,zQ,zX,zP,zW,zZ,zT,zR,zL,zN,zB,zM,gZ,gS,tZ,tS]);try simp only [e6,e7])
 refine zcH gp ?_;refine ⟨fun i acc G'=>acc.length<=i/\acc.Sublist xs/\zK [d,l] G G'/\xO G' d l/\acc.Sublist (xs.take i),⟨zzR _,List.nil_sublist _,zK.refl,D,List.nil_sublist _⟩,?_,sz _ (by omega),?_,?_⟩
 .rintro i acc G' ⟨h1,_,k,_⟩ _;exact ⟨zJ (k _ _ hp gp),h1⟩
 .rintro i w acc G' hw ⟨h1,h2,k,D',h3⟩;have hi:=(List.getElem?_eq_some_iff.mp hw).1
  have ht:xs.take (i+1)=xs.take i++[w]:=by
   rw [List.take_succ,hw];rfl
  simp only [tF,List.replicate,zzU,zzV,List.cons_append,List.nil_append,gZ,gS,Option.join_some,List.length_cons,List.length_nil]
  ((try dsimp only [zS,zU,zO,zG,zC,zA,yZ,zQ,zX,zP,zW,zZ,zT,zR,zL,zN,zB,zM,gZ,gS,tZ,tS]);try simp only [e11])
  refine ⟨d,l,2,rfl,D',by decide,fun b G2 b0 b1 k2 D2=>?_⟩;simp only [zD,jH]
  by_cases hb:b=0
  .rw [decide_eq_true hb,if_pos rfl];have h4:(acc++[w]).Sublist (xs.take (i+1)):=by rw [ht];exact h3.append (List.Sublist.refl _)
   exact ⟨by simp;omega,h4.trans (List.take_sublist _ _),k.trans k2,D2,h4⟩
  .rw [decide_eq_false hb,if_neg zzN];exact ⟨by omega,h2,k.trans k2,D2,h3.trans (by rw [ht];exact List.sublist_append_left _ _)⟩
 .rintro acc G1 ⟨h1,h2,k1,D1,_⟩ p9 hp9;have k2:zK [d,l] G (put G1 p9 (.lst acc)):=k1.trans (zK.new hp9);have D2:=wD (o:=.lst acc) hp9 D1;have g9:(put G1 p9 (.lst acc)) p9=some (.lst acc):=zV;generalize put G1 p9 (.lst acc)=G2 at k2 D2 g9 ⊢;refine ⟨acc,zJ g9,zdE h2 sb,fun r hr=>?_⟩;simp only [cC,uE,zJ zV];have pm:=zaL acc;refine h (srt acc) _ (fun y hy=>h2.subset (pm.mem_iff.mp hy)) (by rw [pm.length_eq];exact h2.length_le) (k2.trans (zK.new hr)) (wD hr D2)
theorem zc7 {n:Nat} {ws:List W} {G:Hw} {Q:Q3} (h:jY (n+1) ws G Q XN):zE (xJ K sA 18 ⟨"_law_count", jY n⟩) XN kX { nx:=fun _ G'=>Q .non G',rt:=Q } (yJ uZ ws) G:=by
 obtain ⟨w,rfl,ht,hd,h⟩:=h;have e4:(xJ K sA 18 ⟨"_law_count", jY n⟩).fn[4]?=some (eIsj K):=rfl;have e8:(xJ K sA 18 ⟨"_law_count", jY n⟩).fn[8]?=some eInt:=rfl;have e9:(xJ K sA 18 ⟨"_law_count", jY n⟩).fn[9]?=some eSum:=rfl;have e18:(xJ K sA 18 ⟨"_law_count", jY n⟩).fn[18]?=some ⟨"_law_count", jY n⟩:=rfl;have g2:(xJ K sA 18 ⟨"_law_count", jY n⟩).gl[2]?=some (("tuple" : Str),.ty "tuple"):=rfl;show zE (xJ K sA 18 ⟨"_law_count", jY n⟩) XN kX { nx:=fun _ G'=>Q .non G',rt:=Q } [some w] G;simp only [kX];refine yT ?_
 cases ht with
 |str x =>
  ((try dsimp only [zS,zU,zO,zG,zC,zA,yZ,zQ,zX,zP,zW,zZ,zT,zR,zL,zN,zB,zM,gZ,gS,tZ,tS]);try simp only [e4,g2])
  refine ⟨"str", false,rfl,rfl,?_⟩;simp only [gG,zzB,if_false];refine xH ?_;refine yT ?_
  ((try dsimp only [zS,zU,zO,zG,zC,zA,yZ,zQ,zX,zP,zW,zZ,zT,zR,zL,zN,zB,zM,gZ,gS,tZ,tS]);try simp only [zD,zH,e8,rK])
  exact h _ G zK.refl
 |tup vs hv ha =>
  ((try dsimp only [zS,zU,zO,zG,zC,zA,yZ,zQ,zX,zP,zW,zZ,zT,zR,zL,zN,zB,zM,gZ,gS,tZ,tS]);try simp only [e4,g2])
  refine ⟨"tuple", true,rfl,rfl,?_⟩;simp only [gG,if_true];refine yT ?_
  ((try dsimp only [zS,zU,zO,zG,zC,zA,yZ,zQ,zX,zP,zW,zZ,zT,zR,zL,zN,zB,zM,gZ,gS,tZ,tS]);try simp only [e9,qS])
  refine ⟨fun i acc G'=>zK [] G G'/\∃ ns:List Int,acc=ns.map .int/\ns.length=i,⟨zK.refl,[],rfl,rfl⟩,?_,sz _ (by omega),?_,?_⟩
  .rintro i acc G' ⟨_,ns,rfl,hl⟩ _;exact ⟨trivial,by simp;omega⟩
  .rintro i u acc G' hu ⟨k,ns,rfl,hl⟩;simp only [tF,List.replicate,zzU,zzV,List.cons_append,List.nil_append,List.append_nil,gZ,gS,List.length_cons,List.length_nil]
   ((try dsimp only [zS,zU,zO,zG,zC,zA,yZ,zQ,zX,zP,zW,zZ,zT,zR,zL,zN,zB,zM,gZ,gS,tZ,tS]);try simp only [if_true,e18])
   have hm:=List.mem_of_getElem? hu;refine ⟨u,rfl,ha u hm,by have:=zgu hm;omega,fun j G2 k2=>⟨k.trans k2,ns++[j],by simp,by simp [hl]⟩⟩
  .rintro acc G' ⟨k,ns,rfl,hl⟩ r hr;exact ⟨ns,zJ zV,h _ _ (k.trans (zK.new hr))⟩
end
theorem jP:∀ t:Sy,jD t.w=true
 | .say _=>rfl
 | .neg a=>by have:=jP a;simp only [Sy.w,jD,yA,this];rfl
 | .two _ a b=>by have:=jP a;have:=jP b;simp only [Sy.w,jD,yA, *];rfl
theorem qU {t:Sy} (h:t.size<=20):dep t.w<=20:=Nat.le_trans (Sy.dep t) h
theorem kI:∀ ts:List Sy,yA (ts.map Sy.w)=true
 | []=>rfl
 |t::ts=>by simp only [zzU,yA,jP t,kI ts];rfl
theorem uO:∀ {ts:List Sy},(∀ t∈ts,t.size<=20)->yC (ts.map Sy.w)<=20
 | [],_=>Nat.zero_le _
 |t::ts,h=>by
  have h1:=qU (h t zzT);have h2:=uO (ts:=ts) fun x hx=>h x (List.mem_cons_of_mem _ hx);simp only [zzU,yC];omega
theorem vF (p:Str×Sy):jD (dw p)=true:=by simp only [dw,jD,yA,jP];rfl
theorem bE {p:Str×Sy} (h:p.2.size<=20):dep (dw p)<=21:=by
 have:=qU h;simp only [dw,dep,yC];omega
theorem uQ:∀ ts:List (Str×Sy),yA (ts.map dw)=true
 | []=>rfl
 |t::ts=>by simp only [zzU,yA,vF t,uQ ts];rfl
theorem uN:∀ {ts:List (Str×Sy)},(∀ t∈ts,t.2.size<=20)->yC (ts.map dw)<=21
 | [],_=>Nat.zero_le _
 |t::ts,h=>by
  have h1:=bE (h t zzT);have h2:=uN (ts:=ts) fun x hx=>h x (List.mem_cons_of_mem _ hx);simp only [zzU,yC];omega
theorem inW {w:W} {ws:List W} {G:Hw} {Q:Q3} (p:jD w=true) (ps:yA ws=true) (d:yC ws<=100) (q:Q (.bl (inL ws w)) G):L3.inR false w ws G Q:=⟨⟨p,ps,by omega⟩,q⟩
theorem eqP {x y:W} {G:Hw} (hx:jD x=true) (hy:jD y=true) (hd:dep x<=100) (nx:∀ p,x≠.ref p):eqG G x y=some (jK x y):=by
 have c:(jD x&&jD y&&decide (min (dep x) (dep y)<=150))=true:=by
  rw [hx,hy,decide_eq_true (by omega)];rfl
 cases x with
 |ref p=>exact absurd rfl (nx p)
 |_=>exact if_pos c
section
variable {K : yM} {sA : Addr}
theorem zdq {n:Nat} (hn:16<=n) {ws:List W} {G:Hw} {Q:Q3} (h:cA ws G Q XN):zE (wT K sA n) XN xL { nx:=fun _ G'=>Q .non G',rt:=Q } (yJ tU ws) G:=by
 obtain ⟨d,l,t,rfl,D,h⟩:=h;have e1:(wT K sA n).fn[1]?=some fS:=cX 1 hn rfl;have e11:(wT K sA n).fn[11]?=some tY:=cX 11 hn rfl;have t3:(wT K sA n).mt[3]?=some eGet:=rfl;have z1:=sz 1 (by decide);have z2:=sz 2 (by decide);have z5:=sz 5 (by decide);show zE (wT K sA n) XN xL { nx:=fun _ G'=>Q .non G',rt:=Q } [some (.ref d),some t.w,none,none] G
 have fin:∀ (q:Addr) (xs:List Str) (v:Option W) (G':Hw),zK [d,l] G G'->xO G' d l->q∉[d,l]->G' q=some (.lst (xs.map .str))->1<=xs.length->xs.length<=5->zE (wT K sA n) XN (tl (tl (tl xL))) { nx:=fun _ G'=>Q .non G',rt:=Q } [some (.ref d),some t.w,v,some (.ref q)] G':=by
  intro q xs v G' k D' hq gq h1 h5;simp only [xL,tl];refine yT ?_
  ((try dsimp only [zS,zU,zO,zG,zC,zA,yZ,zQ,zX,zP,zW,zZ,zT,zR,zL,zN,zB,zM,gZ,gS,tZ,tS]);try simp only [e11,e1,tJ,tK,gq,zzM])
  refine ⟨d,l,xs.length,rfl,D',⟨by omega,by omega⟩,fun i G2 i0 i1 k2 D2=>?_⟩;obtain ⟨x,_,ex⟩:=za8 i0 i1;refine pS (zJ (k2 _ _ hq gq)) ?_;rw [ex];exact h x G2 (k.trans k2) D2
 simp only [xL,tl] at fin;simp only [xL];refine yT ?_
 ((try dsimp only [zS,zU,zO,zG,zC,zA,yZ,zQ,zX,zP,zW,zZ,zT,zR,zL,zN,zB,zM,gZ,gS,tZ,tS]);try simp only [zzC,zzL,zzA,Nat.reduceAdd,z1,z2,true_and])
 intro pd hpd;have k0:zK [d,l] G (put G pd (.dic [])):=zK.new hpd;have D0:=wD (o:=.dic []) hpd D;have g0:(put G pd (.dic [])) pd=some (.dic []):=zV;have nd:=wX D hpd;generalize put G pd (.dic [])=G0 at k0 D0 g0 ⊢;intro p1 h1;have k1:zK [] G0 (put G0 p1 (.lst [.str "left", .str "right"])):=zK.new h1;have g1:(put G0 p1 (.lst [.str "left", .str "right"])) p1=some (.lst ((["left", "right"]:List Str).map .str)):=zV;have n1:=wX D0 h1;generalize put G0 p1 (.lst [.str "left", .str "right"])=G1 at k1 g1 ⊢;have D1:=wC k1 D0;intro p2 h2;have k2:zK [] G1 (put G1 p2 (.lst [.str "which"])):=zK.new h2;have g2:(put G1 p2 (.lst [.str "which"])) p2=some (.lst ((["which"]:List Str).map .str)):=zV;have n2:=wX D1 h2;generalize put G1 p2 (.lst [.str "which"])=G2 at k2 g2 ⊢;have D2:=wC k2 D1;intro p3 h3;have k3:zK [] G2 (put G2 p3 (.lst [.str "if"])):=zK.new h3;have g3:(put G2 p3 (.lst [.str "if"])) p3=some (.lst ((["if"]:List Str).map .str)):=zV;have n3:=wX D2 h3;generalize put G2 p3 (.lst [.str "if"])=G3 at k3 g3 ⊢;have D3:=wC k3 D2;intro p4 h4;have k4:zK [] G3 (put G3 p4 (.lst [.str "not"])):=zK.new h4;have g4:(put G3 p4 (.lst [.str "not"])) p4=some (.lst ((["not"]:List Str).map .str)):=zV;have n4:=wX D3 h4;generalize put G3 p4 (.lst [.str "not"])=G4 at k4 g4 ⊢;have D4:=wC k4 D3;have g3:=k4 _ _ (by simp) g3;have g2:=(k3.trans k4) _ _ (by simp) g2;have g1:=(k2.trans (k3.trans k4)) _ _ (by simp) g1;have gd:=(k1.trans (k2.trans (k3.trans k4))) _ _ (by simp) g0;have kk:zK [d,l] G G4:=k0.trans (wY (k1.trans (k2.trans (k3.trans k4))));refine ⟨gd,?_⟩;have ed:zc3 ["and", "or", "if", "not"] [.ref p1,.ref p2,.ref p3,.ref p4]=[(.inr "and", .ref p1),(.inr "or", .ref p2),(.inr "if", .ref p3),(.inr "not", .ref p4)]:=rfl;rw [ed];have ne:∀ {p:Addr} {xs:List W},G4 p=some (.lst xs)->p≠pd:=fun e z=>by rw [z,gd] at e;cases e
 have off:=fun (p:Addr) (xs:List W) (e:G4 p=some (.lst xs))=>(xR (o:=O.dic [(.inr "and", .ref p1),(.inr "or", .ref p2),(.inr "if", .ref p3),(.inr "not", .ref p4)]) (ne e)).trans e;have g1:=off _ _ g1;have g2:=off _ _ g2;have g3:=off _ _ g3;have g4:=off _ _ g4;have g5:(put G4 pd (.dic [(.inr "and", .ref p1),(.inr "or", .ref p2),(.inr "if", .ref p3),(.inr "not", .ref p4)])) pd=some (.dic [(.inr "and", .ref p1),(.inr "or", .ref p2),(.inr "if", .ref p3),(.inr "not", .ref p4)]):=zV;have k5:zK [d,l] G (put G4 pd (.dic [(.inr "and", .ref p1),(.inr "or", .ref p2),(.inr "if", .ref p3),(.inr "not", .ref p4)])):=qP kk hpd;have D5:=sC (o:=.dic [(.inr "and", .ref p1),(.inr "or", .ref p2),(.inr "if", .ref p3),(.inr "not", .ref p4)]) nd D4;generalize put G4 pd (.dic [(.inr "and", .ref p1),(.inr "or", .ref p2),(.inr "if", .ref p3),(.inr "not", .ref p4)])=G5 at g1 g2 g3 g4 g5 k5 D5 ⊢;refine yT ?_
 ((try dsimp only [zS,zU,zO,zG,zC,zA,yZ,zQ,zX,zP,zW,zZ,zT,zR,zL,zN,zB,zM,gZ,gS,tZ,tS]);try simp only [zzC,zzL,zzA,Nat.reduceAdd,z5,true_and])
 intro p6 h6;have k6:zK [] G5 (put G5 p6 (.lst [.str "left", .str "right", .str "which", .str "if", .str "not"])):=zK.new h6;have g6:(put G5 p6 (.lst [.str "left", .str "right", .str "which", .str "if", .str "not"])) p6=some (.lst ((["left", "right", "which", "if", "not"]:List Str).map .str)):=zV;have n6:=wX D5 h6;generalize put G5 p6 (.lst [.str "left", .str "right", .str "which", .str "if", .str "not"])=G6 at k6 g6 ⊢;have D6:=wC k6 D5;refine yT ?_
 ((try dsimp only [zS,zU,zO,zG,zC,zA,yZ,zQ,zX,zP,zW,zZ,zT,zR,zL,zN,zB,zM,gZ,gS,tZ,tS]);try simp only [e11])
 refine ⟨d,l,4,rfl,D6,by decide,fun q G7 q0 q1 k7 D7=>?_⟩;have kz:zK [d,l] G5 G7:=(wY k6).trans k7;have kk7:zK [d,l] G G7:=k5.trans kz;have g6:=k7 _ _ n6 g6;simp only [zD,sR]
 by_cases hq:0<q
 .rw [if_pos (by simpa using hq)];refine yT ?_;have gd7:=kz _ _ nd g5
  ((try dsimp only [zS,zU,zO,zG,zC,zA,yZ,zQ,zX,zP,zW,zZ,zT,zR,zL,zN,zB,zM,gZ,gS,tZ,tS]);try simp only [t3])
  refine ⟨by simp only [tyW,gd7],?_⟩
  have on:∀ (x:Str) (p:Addr) (xs:List Str) (r:List W),t.w=.tup (.str x::r)->(tG [(.inr "and", W.ref p1),(.inr "or", .ref p2),(.inr "if", .ref p3),(.inr "not", .ref p4)] (.inr x)).getD (.ref p6)=.ref p->p∉[d,l]->G7 p=some (.lst (xs.map .str))->1<=xs.length->xs.length<=5 ->
    vP t.w (.int 0) G7 fun w G1=>dg2S (.ref pd) [w,.ref p6] G1 fun w G1=>zE (wT K sA n) XN .nil { nx:=zE (wT K sA n) XN (tl (tl (tl xL))) { nx:=fun _ G'=>Q .non G',rt:=Q },rt:=Q } [some (.ref d),some t.w,some (.ref pd),some w] G1:=by
   intro x p xs r ew eg hp gp h1 h5;simp only [ew,sJ,dg2S,gd7];rw [eg];refine xH ?_;simp only [xL,tl];rw [← ew];exact fin p xs _ G7 kk7 D7 hp gp h1 h5
  simp only [xL,tl] at on
  cases t with
  |say y=>exact on "say" p6 ["left", "right", "which", "if", "not"] _ rfl rfl n6 g6 (by decide) (by decide)
  |neg a=>exact on "not" p4 ["not"] _ rfl rfl n4 (kz _ _ n4 g4) (by decide) (by decide)
  |two k a b =>
   cases k with
   |an=>exact on "and" p1 ["left", "right"] _ rfl rfl n1 (kz _ _ n1 g1) (by decide) (by decide)
   |or=>exact on "or" p2 ["which"] _ rfl rfl n2 (kz _ _ n2 g2) (by decide) (by decide)
   |im=>exact on "if" p3 ["if"] _ rfl rfl n3 (kz _ _ n3 g3) (by decide) (by decide)
 .rw [if_neg (by simpa using hq)];refine xH ?_;exact fin p6 _ _ G7 kk7 D7 n6 g6 (by decide) (by decide)
end
theorem zfw (s:Sy):jD s.arg=true:=by cases s<;>first|rfl|exact jP _
theorem zgv {s:Sy} (h:s.size<=20):dep s.arg<=20:=by
 cases s with
 |say x=>exact Nat.zero_le _
 |neg a=>exact qU (by simp only [Sy.size] at h;omega)
 |two k a b=>exact qU (by simp only [Sy.size] at h;omega)
theorem ziv (s:Sy) (p:Addr):s.arg≠.ref p:=by
 cases s with
 |say x=>intro e;cases e
 |neg a=>cases a<;>(intro e;cases e)
 |two k a b=>cases a<;>(intro e;cases e)
theorem sy_nr (s:Sy) (p:Addr):s.w≠.ref p:=by cases s<;>(intro e;cases e)
theorem zaI {m:Mv} (h:m.ok):jD m.told=true/\dep m.told<=20/\∀ p,m.told≠.ref p:=by
 cases m with
 |no=>exact ⟨rfl,Nat.zero_le _,fun p e=>by cases e⟩
 |dbt x s =>
  simp only [Mv.told,tld]
  split
  .exact ⟨zfw s,zgv h,ziv s⟩
  .exact ⟨rfl,Nat.zero_le _,fun p e=>by cases e⟩
 |ans x s a=>exact ⟨jP a,qU h.2,sy_nr a⟩
theorem ze3 {m:Mv} (h:m.ok):jD m.w=true/\dep m.w<=30/\∀ p,m.w≠.ref p:=by
 cases m with
 |no=>exact ⟨rfl,Nat.zero_le _,fun p e=>by cases e⟩
 |dbt x s =>
  have:=qU h;refine ⟨by simp only [Mv.w,jD,yA,jP];rfl,?_,fun p e=>by cases e⟩;simp only [Mv.w,dep,yC];omega
 |ans x s a =>
  have:=qU h.1;have:=qU h.2;refine ⟨by simp only [Mv.w,jD,yA,jP];rfl,?_,fun p e=>by cases e⟩;simp only [Mv.w,dep,yC];omega
section
variable {K : yM} {sA : Addr}
theorem zgb {n:Nat} (hn:27<=n) {t:Sd} {ws:List W} {G:Hw} {Q:Q3} (h:zdF t ws G Q XN):zE (wT K sA n) XN jG { nx:=fun _ G'=>Q .non G',rt:=Q } (yJ qK ws) G:=by
 obtain ⟨c,m,p,rfl,hm,co,mo,mn,gp,h⟩:=h;have e26:(wT K sA n).fn[26]?=some ⟨"told_by", sW⟩:=cX 26 hn rfl;have z2:=sz 2 (by decide);have z3:=sz 3 (by decide);have q1:(("asked" : Str) == "heard")=false:=by decide +kernel
 have q2:(("answered" : Str) == "heard")=false:=by decide +kernel
 have q3:(("answered" : Str) == "asked")=false:=by decide +kernel
 have q4:(("doubt" : Str) == "answer")=false:=by decide +kernel
 have q5:(("answer" : Str) == "doubt")=false:=by decide +kernel
 have tp:=zaI mo;have mp:=ze3 mo;show zE (wT K sA n) XN jG { nx:=fun _ G'=>Q .non G',rt:=Q } [some (.str (yK c)),some (.ref p),some m.w] G;have H:=h G zK.refl;simp only [jG];refine yT ?_
 cases c with
 |one k s =>
  cases k with
  |heard =>
   simp only [jX] at gp
   ((try dsimp only [zS,zU,zO,zG,zC,zA,yZ,zQ,zX,zP,zW,zZ,zT,zR,zL,zN,zB,zM,gZ,gS,tZ,tS]);try simp only [yK,C1.s,zD,zH,beq_self_eq_true,if_true])
   refine yT ?_
   ((try dsimp only [zS,zU,zO,zG,zC,zA,yZ,zQ,zX,zP,zW,zZ,zT,zR,zL,zN,zB,zM,gZ,gS,tZ,tS]);try simp only [e26])
   refine ⟨m,rfl,mn,?_⟩;refine pS (zJ gp) ?_;rw [uG];simp only [zD];rw [eqP tp.1 (jP s) (by omega) tp.2.2]
   have e:h1 t m (.one .heard s)=jK m.told s.w:=by
    cases m with
    |no=>exact absurd rfl mn
    |_=>rfl
   rw [e] at H;exact H
  |_=>exact hm.elim
 |two k x s =>
  cases k with
  |asked =>
   simp only [jX] at gp
   ((try dsimp only [zS,zU,zO,zG,zC,zA,yZ,zQ,zX,zP,zW,zZ,zT,zR,zL,zN,zB,zM,gZ,gS,tZ,tS]);try simp only [yK,C2.s,zD,zH,q1,zzB,if_false])
   refine xH ?_;refine yT ?_
   ((try dsimp only [zS,zU,zO,zG,zC,zA,yZ,zQ,zX,zP,zW,zZ,zT,zR,zL,zN,zB,zM,gZ,gS,tZ,tS]);try simp only [yK,C2.s,zD,zH,beq_self_eq_true,if_true])
   refine yT ?_
   ((try dsimp only [zS,zU,zO,zG,zC,zA,yZ,zQ,zX,zP,zW,zZ,zT,zR,zL,zN,zB,zM,gZ,gS,tZ,tS]);try simp only [zzC,zzL,zzA,Nat.reduceAdd,z3,true_and])
   refine pS (zJ gp) ?_;rw [uG];refine pS (zJ gp) ?_;rw [gN];simp only [zD];rw [eqP mp.1 (by simp only [jD,yA,jP];rfl) (by omega) mp.2.2]
   have e:h1 t m (.two .asked x s)=jK m.w (.tup [.str "doubt", .str x,s.w]):=by
    cases m with
    |no=>exact absurd rfl mn
    |dbt y r=>simp [h1,Mv.w,dw,jK,qX]
    |ans y r a=>simp [h1,Mv.w,jK,qX,q5]
   rw [e] at H;exact H
  |answ =>
   simp only [jX] at gp
   ((try dsimp only [zS,zU,zO,zG,zC,zA,yZ,zQ,zX,zP,zW,zZ,zT,zR,zL,zN,zB,zM,gZ,gS,tZ,tS]);try simp only [yK,C2.s,zD,zH,q2,zzB,if_false])
   refine xH ?_;refine yT ?_
   ((try dsimp only [zS,zU,zO,zG,zC,zA,yZ,zQ,zX,zP,zW,zZ,zT,zR,zL,zN,zB,zM,gZ,gS,tZ,tS]);try simp only [yK,C2.s,zD,zH,q3,zzB,if_false])
   refine xH ?_;refine yT ?_
   cases m with
   |no=>exact absurd rfl mn
   |dbt y r =>
    ((try dsimp only [zS,zU,zO,zG,zC,zA,yZ,zQ,zX,zP,zW,zZ,zT,zR,zL,zN,zB,zM,gZ,gS,tZ,tS]);try simp only [Mv.w,sJ,zD,zH,q4,zzB,if_false])
    exact H
   |ans y r a =>
    ((try dsimp only [zS,zU,zO,zG,zC,zA,yZ,zQ,zX,zP,zW,zZ,zT,zR,zL,zN,zB,zM,gZ,gS,tZ,tS]);try simp only [Mv.w,sJ,ix1,zD,zH,beq_self_eq_true,if_true,zzC,zzL,zzA,Nat.reduceAdd,z2,true_and])
    refine pS (zJ gp) ?_;rw [uG];refine pS (zJ gp) ?_;rw [gN];have pd:=bE (p:=(y,r)) mo.1;have e:=eqP (G:=G) (x:=dw (y,r)) (y:=dw (x,s)) (vF _) (vF _) (by omega) (fun p e=>by cases e);simp only [dw] at e;simp only [zD,e];exact H
  |_=>exact hm.elim
 |_=>exact hm.elim
end
def sI:Cd->Bool
 | .any=>true
 |_=>false
def bI:C1->Cd->Bool
 | .said,.one .said _=>true
 | .fresh,.one .fresh _=>true
 | .heard,.one .heard _=>true
 |_,_=>false
def gJ:C2->Cd->Bool
 | .opn,.two .opn _ _=>true
 | .used,.two .used _ _=>true
 | .asked,.two .asked _ _=>true
 | .answ,.two .answ _ _=>true
 |_,_=>false
theorem zgH (c:Cd):(yK c==("any" : Str))=sI c:=by
 cases c with
 |one k s=>cases k<;>rfl
 |two k x s=>cases k<;>rfl
 |bin k a b=>cases k<;>rfl
 |_=>rfl
theorem w_1 (k:C1) (c:Cd):(yK c==k.s)=bI k c:=by
 cases c with
 |one j s=>cases j<;>cases k<;>rfl
 |two j x s=>cases j<;>cases k<;>rfl
 |bin j a b=>cases j<;>cases k<;>rfl
 |_=>cases k<;>rfl
theorem w_2 (k:C2) (c:Cd):(yK c==k.s)=gJ k c:=by
 cases c with
 |one j s=>cases j<;>cases k<;>rfl
 |two j x s=>cases j<;>cases k<;>rfl
 |bin j a b=>cases j<;>cases k<;>rfl
 |_=>cases k<;>rfl
theorem cF (c:Cd):(yK c==("said" : Str))=bI .said c:=w_1 .said c
theorem kK (c:Cd):(yK c==("fresh" : Str))=bI .fresh c:=w_1 .fresh c
theorem zbD (c:Cd):(yK c==("heard" : Str))=bI .heard c:=w_1 .heard c
theorem cE (c:Cd):(yK c==("open" : Str))=gJ .opn c:=w_2 .opn c
theorem vJ (c:Cd):(yK c==("used" : Str))=gJ .used c:=w_2 .used c
theorem zbE (c:Cd):(yK c==("asked" : Str))=gJ .asked c:=w_2 .asked c
theorem c_w {c:Cd} (h:wG c=[]):c.w=.tup (.str (yK c)::jX c):=by cases c<;>first|rfl|cases h
theorem zfc {c:Cd} (h:zcj c) (t u:Sd) (m:Mv):h1 t m c=h1 u m c:=by
 cases c with
 |one k s=>cases k<;>first|rfl|exact h.elim
 |two k x s=>cases k<;>first|rfl|exact h.elim
 |_=>exact h.elim
section
variable {K : yM} {sA : Addr}
theorem zbg {n:Nat} (hn:28<=n) {ws:List W} {G:Hw} {Q:Q3} (h:sV ws G Q XN):zE (wT K sA n) XN jC { nx:=fun _ G'=>Q .non G',rt:=Q } (yJ kU ws) G:=by
 obtain ⟨c,t,m,rfl,co,to,mo,ck,h⟩:=h;have e7:(wT K sA n).fn[7]?=some eTup:=cX 7 hn rfl;have e27:(wT K sA n).fn[27]?=some ⟨"holds_of_move", zdF noSd⟩:=cX 27 hn rfl;show zE (wT K sA n) XN jC { nx:=fun _ G'=>Q .non G',rt:=Q } [some c.w,some t.w,some m.w,none,none,none,none,none,none] G;simp only [jC];refine yT ?_
 ((try dsimp only [zS,zU,zO,zG,zC,zA,yZ,zQ,zX,zP,zW,zZ,zT,zR,zL,zN,zB,zM,gZ,gS,tZ,tS]);try simp only [Sd.w])
 refine yT ?_
 ((try dsimp only [zS,zU,zO,zG,zC,zA,yZ,zQ,zX,zP,zW,zZ,zT,zR,zL,zN,zB,zM,gZ,gS,tZ,tS]);try simp only [c_w ck])
 refine ⟨by cases c<;>simp [jX],fun p hp=>?_⟩;have k1:zK [] G (put G p (.lst (jX c))):=zK.new hp;have g1:(put G p (.lst (jX c))) p=some (.lst (jX c)):=zV;have H:=h _ k1;generalize put G p (.lst (jX c))=G1 at k1 g1 H ⊢;have dO:=uN to.o;have dU:=uN to.u;have dS:=uO to.s;have dF:=uO to.f
 have last:zcj c->zE (wT K sA n) XN (.cons (.ret (.and (.cmp .IsNot (.var 2) (.con .none)) (.call 27 (.cons (.var 7) (.cons (.var 8) (.cons (.var 2) .nil)))))) .nil) { nx:=fun _ G'=>Q .non G',rt:=Q } [some (.tup (.str (yK c)::jX c)),some t.w,some m.w,some (.tup (t.said.map Sy.w)),some (.tup (t.opn.map dw)),some (.tup (t.used.map dw)),some (.tup (t.fresh.map Sy.w)),some (.str (yK c)),some (.ref p)] G1:=by
  intro oc;refine yT ?_
  cases m with
  |no =>
   ((try dsimp only [zS,zU,zO,zG,zC,zA,yZ,zQ,zX,zP,zW,zZ,zT,zR,zL,zN,zB,zM,gZ,gS,tZ,tS]);try simp only [Mv.w,zD,pR,if_true,zzB,if_false])
   have e:h1 t .no c=false:=by
    cases c with
    |one k s=>cases k<;>first|rfl|exact oc.elim
    |two k x s=>cases k<;>first|rfl|exact oc.elim
    |_=>exact oc.elim
   rw [e] at H;exact H
  |dbt y r =>
   ((try dsimp only [zS,zU,zO,zG,zC,zA,yZ,zQ,zX,zP,zW,zZ,zT,zR,zL,zN,zB,zM,gZ,gS,tZ,tS]);try simp only [Mv.w,zD,pR,if_true,e27])
   exact ⟨c,.dbt y r,p,rfl,oc,co,mo,(by intro z;cases z),g1,fun G2 k2=>by rw [zfc oc noSd t];exact h G2 (k1.trans k2)⟩
  |ans y r a =>
   ((try dsimp only [zS,zU,zO,zG,zC,zA,yZ,zQ,zX,zP,zW,zZ,zT,zR,zL,zN,zB,zM,gZ,gS,tZ,tS]);try simp only [Mv.w,zD,pR,if_true,e27])
   exact ⟨c,.ans y r a,p,rfl,oc,co,mo,(by intro z;cases z),g1,fun G2 k2=>by rw [zfc oc noSd t];exact h G2 (k1.trans k2)⟩
 simp only [Sd.w] at last;refine yT ?_
 ((try dsimp only [zS,zU,zO,zG,zC,zA,yZ,zQ,zX,zP,zW,zZ,zT,zR,zL,zN,zB,zM,gZ,gS,tZ,tS]);try simp only [zD,zH,zgH])
 cases c with
 |neg a=>cases ck
 |bin k a b=>cases ck
 |any =>
  simp only [sI,if_true];refine yT ?_
  (try dsimp only [zS,zU,zO,zG,zC,zA,yZ,zQ,zX,zP,zW,zZ,zT,zR,zL,zN,zB,zM,gZ,gS,tZ,tS])
  exact H
 |one k s =>
  simp only [sI,zzB,if_false];refine xH ?_;refine yT ?_
  ((try dsimp only [zS,zU,zO,zG,zC,zA,yZ,zQ,zX,zP,zW,zZ,zT,zR,zL,zN,zB,zM,gZ,gS,tZ,tS]);try simp only [zD,zH,cF])
  have ps:=jP s
  cases k with
  |said =>
   simp only [bI,if_true];refine yT ?_
   (try dsimp only [zS,zU,zO,zG,zC,zA,yZ,zQ,zX,zP,zW,zZ,zT,zR,zL,zN,zB,zM,gZ,gS,tZ,tS])
   refine pS (zJ g1) ?_;simp only [jX];rw [uG];simp only [zD,qD];exact inW ps (kI _) (by omega) H
  |fresh =>
   simp only [bI,zzB,if_false];refine xH ?_;refine yT ?_
   ((try dsimp only [zS,zU,zO,zG,zC,zA,yZ,zQ,zX,zP,zW,zZ,zT,zR,zL,zN,zB,zM,gZ,gS,tZ,tS]);try simp only [zD,zH,kK,bI,if_true])
   refine yT ?_
   (try dsimp only [zS,zU,zO,zG,zC,zA,yZ,zQ,zX,zP,zW,zZ,zT,zR,zL,zN,zB,zM,gZ,gS,tZ,tS])
   refine pS (zJ g1) ?_;simp only [jX];rw [uG];simp only [zD,qD];exact inW ps (kI _) (by omega) H
  |heard =>
   simp only [bI,zzB,if_false];refine xH ?_;refine yT ?_
   ((try dsimp only [zS,zU,zO,zG,zC,zA,yZ,zQ,zX,zP,zW,zZ,zT,zR,zL,zN,zB,zM,gZ,gS,tZ,tS]);try simp only [zD,zH,kK,bI,zzB,if_false])
   refine xH ?_;refine yT ?_
   ((try dsimp only [zS,zU,zO,zG,zC,zA,yZ,zQ,zX,zP,zW,zZ,zT,zR,zL,zN,zB,zM,gZ,gS,tZ,tS]);try simp only [zD,zH,cE,gJ,zzB,if_false])
   refine xH ?_;refine yT ?_
   ((try dsimp only [zS,zU,zO,zG,zC,zA,yZ,zQ,zX,zP,zW,zZ,zT,zR,zL,zN,zB,zM,gZ,gS,tZ,tS]);try simp only [zD,zH,vJ,gJ,zzB,if_false])
   refine xH ?_;exact last trivial
 |two k x s =>
  simp only [sI,zzB,if_false];refine xH ?_;refine yT ?_
  ((try dsimp only [zS,zU,zO,zG,zC,zA,yZ,zQ,zX,zP,zW,zZ,zT,zR,zL,zN,zB,zM,gZ,gS,tZ,tS]);try simp only [zD,zH,cF,bI,zzB,if_false])
  refine xH ?_;refine yT ?_
  ((try dsimp only [zS,zU,zO,zG,zC,zA,yZ,zQ,zX,zP,zW,zZ,zT,zR,zL,zN,zB,zM,gZ,gS,tZ,tS]);try simp only [zD,zH,kK,bI,zzB,if_false])
  refine xH ?_;refine yT ?_
  ((try dsimp only [zS,zU,zO,zG,zC,zA,yZ,zQ,zX,zP,zW,zZ,zT,zR,zL,zN,zB,zM,gZ,gS,tZ,tS]);try simp only [zD,zH,cE])
  have pd:=vF (x,s)
  cases k with
  |opn =>
   simp only [gJ,if_true];refine yT ?_
   ((try dsimp only [zS,zU,zO,zG,zC,zA,yZ,zQ,zX,zP,zW,zZ,zT,zR,zL,zN,zB,zM,gZ,gS,tZ,tS]);try simp only [e7,cC,uE,zJ g1,zD,qD])
   exact inW pd (uQ _) (by omega) H
  |used =>
   simp only [gJ,zzB,if_false];refine xH ?_;refine yT ?_
   ((try dsimp only [zS,zU,zO,zG,zC,zA,yZ,zQ,zX,zP,zW,zZ,zT,zR,zL,zN,zB,zM,gZ,gS,tZ,tS]);try simp only [zD,zH,vJ,gJ,if_true])
   refine yT ?_
   ((try dsimp only [zS,zU,zO,zG,zC,zA,yZ,zQ,zX,zP,zW,zZ,zT,zR,zL,zN,zB,zM,gZ,gS,tZ,tS]);try simp only [e7,cC,uE,zJ g1,zD,qD])
   exact inW pd (uQ _) (by omega) H
  |asked =>
   simp only [gJ,zzB,if_false];refine xH ?_;refine yT ?_
   ((try dsimp only [zS,zU,zO,zG,zC,zA,yZ,zQ,zX,zP,zW,zZ,zT,zR,zL,zN,zB,zM,gZ,gS,tZ,tS]);try simp only [zD,zH,vJ,gJ,zzB,if_false])
   refine xH ?_;exact last trivial
  |answ =>
   simp only [gJ,zzB,if_false];refine xH ?_;refine yT ?_
   ((try dsimp only [zS,zU,zO,zG,zC,zA,yZ,zQ,zX,zP,zW,zZ,zT,zR,zL,zN,zB,zM,gZ,gS,tZ,tS]);try simp only [zD,zH,vJ,gJ,zzB,if_false])
   refine xH ?_;exact last trivial
end
theorem csuf:∀ (t:Cd) (i:Nat) (p:Cd),(yR t)[i]?=some p->∃ rest,(yR t).drop i=yR p++rest
 | .any,0,p,h=>by simp [yR] at h;subst h;exact ⟨[],by simp [yR]⟩
 | .any,i+1,p,h=>by simp [yR] at h
 | .one _ _,0,p,h=>by simp [yR] at h;subst h;exact ⟨[],by simp [yR]⟩
 | .one _ _,i+1,p,h=>by simp [yR] at h
 | .two _ _ _,0,p,h=>by simp [yR] at h;subst h;exact ⟨[],by simp [yR]⟩
 | .two _ _ _,i+1,p,h=>by simp [yR] at h
 | .neg a,0,p,h=>by simp [yR] at h;subst h;exact ⟨[],by simp [yR]⟩
 | .neg a,i+1,p,h=>by
  obtain ⟨r,e⟩:=csuf a i p (by simpa [yR] using h);exact ⟨r,by simpa [yR] using e⟩
 | .bin k a b,0,p,h=>by simp [yR] at h;subst h;exact ⟨[],by simp [yR]⟩
 | .bin k a b,i+1,p,h=>by
  have h:(yR a++yR b)[i]?=some p:=by simpa [yR] using h
  by_cases hi:i<(yR a).length
  .rw [List.getElem?_append_left hi] at h;obtain ⟨r,e⟩:=csuf a i p h;refine ⟨r++yR b,?_⟩;show (yR a++yR b).drop i=_;rw [List.drop_append_of_le_length (Nat.le_of_lt hi),e,List.append_assoc]
  .rw [List.getElem?_append_right (by omega)] at h;obtain ⟨r,e⟩:=csuf b _ p h;refine ⟨r,?_⟩;show (yR a++yR b).drop i=_;rw [List.drop_append,List.drop_of_length_le (by omega),List.nil_append];exact e
theorem zd8:∀ {t p:Cd},p∈yR t->t.ok->p.ok
 | .any,p,h,o=>by simp [yR] at h;subst h;exact o
 | .one _ _,p,h,o=>by simp [yR] at h;subst h;exact o
 | .two _ _ _,p,h,o=>by simp [yR] at h;subst h;exact o
 | .neg a,p,h,o=>by
  rcases List.mem_cons.mp h with rfl|h
  .exact o
  .exact zd8 (t:=a) h o
 | .bin _ a b,p,h,o=>by
  rcases List.mem_cons.mp h with rfl|h
  .exact o
  .rcases List.mem_append.mp h with h|h
   .exact zd8 (t:=a) h o.1
   .exact zd8 (t:=b) h o.2
theorem bA (t:Cd):∃ r,yR t=t::r:=⟨_,uJ t⟩
theorem nS {st:List Cd} {a:Cd} {r:List Cd} (h:yI st=yR a++r):∃ st',st=a::st'/\yI st'=r:=by
 obtain ⟨ra,ea⟩:=bA a
 cases st with
 |nil=>rw [ea] at h;simp [yI] at h
 |cons s st' =>
  obtain ⟨rs,es⟩:=bA s;have e:yI (s::st')=yR s++yI st':=by simp [yI]
  rw [e] at h
  have hs:s=a:=by
   rw [es,ea] at h;simpa using (List.cons.inj h).1
  subst hs;exact ⟨st',rfl,List.append_cancel_left h⟩
theorem ixw {p:Cd} {G:Hw} {Q:Q3}:vP p.w (.int 0) G Q=Q (.str (yK p)) G:=by cases p<;>simp only [Cd.w,yK,sJ]
theorem zbC {c:Cd} (h:wG c=[]):(yK c==("not" : Str))=false/\(yK c==("and" : Str))=false/\(yK c==("or" : Str))=false:=by
 cases c with
 |any=>exact ⟨rfl,rfl,rfl⟩
 |one k s=>cases k<;>exact ⟨rfl,rfl,rfl⟩
 |two k x s=>cases k<;>exact ⟨rfl,rfl,rfl⟩
 |neg a=>cases h
 |bin k a b=>cases h
def qW (t:Sd) (m:Mv) (st:List Cd):List W:=(st.map fun c=>W.bl (hv t m c)).reverse
theorem zaD {t:Sd} {m:Mv} (c:Cd) (st:List Cd):qW t m (c::st)=qW t m st++[.bl (hv t m c)]:=by simp [qW]
theorem zdt {t:Sd} {m:Mv} (st:List Cd):(qW t m st).length=st.length:=by simp [qW]
theorem zb9 {t:Sd} {m:Mv} {G:Hw} {pf:Addr} {c:Cd} {st:List Cd} {Q:Q3} (h:G pf=some (.lst (qW t m (c::st)))) (q:Q (.bl (hv t m c)) (put G pf (.lst (qW t m st)))):gC (.ref pf) [] G Q:=by
 rw [zaD] at h;have hg:(qW t m st++[W.bl (hv t m c)])[(qW t m st++[W.bl (hv t m c)]).length-1]?=some (.bl (hv t m c)):=by simp
 simp only [gC,h,hg,List.dropLast_concat];exact q
section
variable {K : yM} {sA : Addr}
theorem dE {n:Nat} (hn:29<=n) {ws:List W} {G:Hw} {Q:Q3} (h:jJ ws G Q XN):zE (wT K sA n) XN za7 { nx:=fun _ G'=>Q .non G',rt:=Q } (yJ zcl ws) G:=by
 obtain ⟨c,t,m,rfl,co,to,mo,cs,h⟩:=h;have eA2:(wT K sA n).fn[2]?=some eAll:=cX 2 hn rfl;have e5:(wT K sA n).fn[5]?=some eAny:=cX 5 hn rfl;have e24:(wT K sA n).fn[24]?=some ⟨"all_within", sX sA⟩:=cX 24 hn rfl;have e28:(wT K sA n).fn[28]?=some ⟨"single_holds", sV⟩:=cX 28 hn rfl;have t0:(wT K sA n).mt[0]?=some ePop:=rfl;have t2:(wT K sA n).mt[2]?=some eApp:=rfl;have s1:(wT K sA n).sx[1]?=some ⟨rvM,rvS⟩:=rfl;have g3:(wT K sA n).gl[3]?=some (("joined_by" : Str),.ref sA):=rfl;have z0:=sz 0 (by decide);have z2:=sz 2 (by decide);have n1:(("and" : Str) == "not")=false:=by decide +kernel
 have n2:(("or" : Str) == "not")=false:=by decide +kernel
 have n3:(("or" : Str) == "and")=false:=by decide +kernel
 show zE (wT K sA n) XN za7 { nx:=fun _ G'=>Q .non G',rt:=Q } [some c.w,some t.w,some m.w,none,none] G;simp only [za7];refine yT ?_
 ((try dsimp only [zS,zU,zO,zG,zC,zA,yZ,zQ,zX,zP,zW,zZ,zT,zR,zL,zN,zB,zM,gZ,gS,tZ,tS]);try simp only [List.length_nil,z0,true_and])
 intro pf hpf;have k1:zK [] G (put G pf (.lst [])):=zK.new hpf;have g1:(put G pf (.lst [])) pf=some (.lst []):=zV;generalize put G pf (.lst [])=G1 at k1 g1 ⊢;refine yT ?_
 ((try dsimp only [zS,zU,zO,zG,zC,zA,yZ,zQ,zX,zP,zW,zZ,zT,zR,zL,zN,zB,zM,gZ,gS,tZ,tS]);try simp only [s1,e24,g3])
 refine ⟨c,rfl,cs,fun r2 G2 k2 hr2 gr2=>⟨_,zJ gr2,fun pr hpr=>?_⟩⟩;have k3:zK [] G (put G2 pr (.lst ((yR c).map Cd.w).reverse)):=(k1.trans k2).trans (zK.new hpr);have g3':(put G2 pr (.lst ((yR c).map Cd.w).reverse)) pr=some (.lst ((yR c).map Cd.w).reverse):=zV;have gf3:=zK.new (S:=[]) (o:=.lst ((yR c).map Cd.w).reverse) hpr _ _ (by simp) (k2 _ _ (by simp) g1);have ne:pr≠pf:=fun e=>by rw [e,k2 _ _ (by simp) g1] at hpr;cases hpr
 generalize put G2 pr (.lst ((yR c).map Cd.w).reverse)=G3 at k3 g3' gf3 ⊢;refine zcH g3' ?_;have len:((yR c).map Cd.w).reverse.length=c.size:=by rw [List.length_reverse,zzM,xP]
 refine ⟨fun i σ G'=>∃ (st:List Cd) (v4:Option W),σ=[some c.w,some t.w,some m.w,some (.ref pf),v4]/\G' pf=some (.lst (qW t m st))/\yI st=(yR c).drop (c.size-i)/\G' pr=some (.lst ((yR c).map Cd.w).reverse)/\zK [] G G',
  ⟨[],none,rfl,gf3,?_,g3',k3⟩,fun i σ G' z _=>by obtain ⟨_,_,_,_,_,z,_⟩:=z;exact zJ z,?_,?_⟩
 .rw [Nat.sub_zero,← xP,List.drop_length];rfl
 .rintro i w σ G' hw ⟨st,v4,rfl,gf,hp,gr,kp⟩;have hi:=(List.getElem?_eq_some_iff.mp hw).1;rw [len] at hi;have hw':(yR c)[c.size-1-i]?=some ((yR c)[c.size-1-i]'(by rw [xP];omega)):=List.getElem?_eq_getElem _;obtain ⟨p,ep⟩:∃ p,(yR c)[c.size-1-i]?=some p:=⟨_,hw'⟩
  have ew:w=p.w:=by
   rw [List.getElem?_reverse (by rw [zzM,xP];exact hi),zzM,xP,List.getElem?_map,ep] at hw;exact (Option.some.inj hw).symm
  subst ew;obtain ⟨rest,er⟩:=csuf c _ p ep;have e1:c.size-1-i+1=c.size-i:=by omega
  have e2:(yR c).drop (c.size-1-i)=p::(yR c).drop (c.size-i):=by
   have hl:c.size-1-i<(yR c).length:=by rw [xP];omega
   rw [List.drop_eq_getElem_cons hl,e1];congr 1;rw [List.getElem?_eq_getElem hl] at ep;exact Option.some.inj ep
  have e3:yI st=yI (wG p)++rest:=by
   rw [e2,← hp,uJ] at er;exact (List.cons.inj er).2
  have e4:(yR c).drop (c.size-(i+1))=yR p++rest:=by rw [← er,show c.size-(i+1)=c.size-1-i by omega]
  have sl:st.length<=200:=by
   have h1:=uL st
   have h2:wU st<=c.size:=by
    unfold wU;rw [hp,List.length_drop,xP];omega
   omega
  have po:p.ok:=zd8 (List.mem_of_getElem? ep) co
  have fin:∀ (st':List Cd) (G5:Hw),G5 pf=some (.lst (qW t m st'))->st'.length<=200->yI st'=rest->G5 pr=some (.lst ((yR c).map Cd.w).reverse)->zK [] G G5 ->
    fO (.ref pf) [.bl (hv t m p)] G5 (fun _ G6=>∃ (st:List Cd) (v4:Option W),[some c.w,some t.w,some m.w,some (.ref pf),some p.w]=[some c.w,some t.w,some m.w,some (.ref pf),v4]/\G6 pf=some (.lst (qW t m st))/\yI st=(yR c).drop (c.size-(i+1))/\G6 pr=some (.lst ((yR c).map Cd.w).reverse)/\zK [] G G6):=by
   intro st' G5 gf5 sl5 hp5 gr5 k5;refine appL gf5 (by rw [zdt];omega) ⟨p::st',_,rfl,?_,?_,?_,qP k5 hpf⟩
   .rw [zV,zaD]
   .rw [e4,← hp5];simp [yI]
   .rw [xR ne];exact gr5
  have popd:∀ (a:Cd) (st':List Cd) (G5:Hw),G5 pr=some (.lst ((yR c).map Cd.w).reverse)->zK [] G G5->(put G5 pf (.lst (qW t m st'))) pf=some (.lst (qW t m st'))/\(put G5 pf (.lst (qW t m st'))) pr=some (.lst ((yR c).map Cd.w).reverse)/\zK [] G (put G5 pf (.lst (qW t m st'))) :=
   fun a st' G5 gr5 k5=>⟨zV,by rw [xR ne];exact gr5,qP k5 hpf⟩
  have alone:wG p=[]->hv t m p=h1 t m p:=by cases p<;>first|(intro _;rfl)|(intro z;cases z)
  refine yT ?_
  by_cases ck:wG p=[]
  ·((try dsimp only [zS,zU,zO,zG,zC,zA,yZ,zQ,zX,zP,zW,zZ,zT,zR,zL,zN,zB,zM,gZ,gS,tZ,tS]);try simp only [ixw,zD,zH,(zbC ck).1,zzB,if_false])
   refine yT ?_
   ((try dsimp only [zS,zU,zO,zG,zC,zA,yZ,zQ,zX,zP,zW,zZ,zT,zR,zL,zN,zB,zM,gZ,gS,tZ,tS]);try simp only [ixw,zD,zH,(zbC ck).2.1,zzB,if_false])
   refine yT ?_
   ((try dsimp only [zS,zU,zO,zG,zC,zA,yZ,zQ,zX,zP,zW,zZ,zT,zR,zL,zN,zB,zM,gZ,gS,tZ,tS]);try simp only [ixw,zD,zH,(zbC ck).2.2,zzB,if_false])
   refine yT ?_
   ((try dsimp only [zS,zU,zO,zG,zC,zA,yZ,zQ,zX,zP,zW,zZ,zT,zR,zL,zN,zB,zM,gZ,gS,tZ,tS]);try simp only [t2,e28])
   refine ⟨tyL gf,p,t,m,rfl,po,to,mo,ck,fun G5 k5=>?_⟩;rw [← alone ck];rw [ck] at e3;exact fin st G5 (k5 _ _ (by simp) gf) sl (by simpa [yI] using e3) (k5 _ _ (by simp) gr) (kp.trans k5)
  .cases p with
   |any=>exact absurd rfl ck
   |one k s=>exact absurd rfl ck
   |two k x s=>exact absurd rfl ck
   |neg a =>
    obtain ⟨st',rfl,hst⟩:=nS (by simpa [wG,yI] using e3:yI st=yR a++rest)
    ((try dsimp only [zS,zU,zO,zG,zC,zA,yZ,zQ,zX,zP,zW,zZ,zT,zR,zL,zN,zB,zM,gZ,gS,tZ,tS]);try simp only [Cd.w,sJ,zD,zH,beq_self_eq_true,if_true])
    refine yT ?_
    ((try dsimp only [zS,zU,zO,zG,zC,zA,yZ,zQ,zX,zP,zW,zZ,zT,zR,zL,zN,zB,zM,gZ,gS,tZ,tS]);try simp only [t2,t0])
    refine ⟨tyL gf,tyL gf,zb9 gf ?_⟩;obtain ⟨a1,a2,a3⟩:=popd a st' G' gr kp;exact fin st' _ a1 (by simp at sl;omega) hst a2 a3
   |bin k a b =>
    obtain ⟨st1,rfl,hst1⟩:=nS (by simpa [wG,yI] using e3:yI st=yR a++(yR b++rest));obtain ⟨st',rfl,hst⟩:=nS hst1;have sl':st'.length<=200:=by simp at sl;omega
    cases k with
    |false =>
     ((try dsimp only [zS,zU,zO,zG,zC,zA,yZ,zQ,zX,zP,zW,zZ,zT,zR,zL,zN,zB,zM,gZ,gS,tZ,tS]);try simp only [Cd.w,bw,sJ,zD,zH,n1,zzB,if_false])
     refine yT ?_
     ((try dsimp only [zS,zU,zO,zG,zC,zA,yZ,zQ,zX,zP,zW,zZ,zT,zR,zL,zN,zB,zM,gZ,gS,tZ,tS]);try simp only [Cd.w,bw,sJ,zD,zH,beq_self_eq_true,if_true])
     refine yT ?_
     ((try dsimp only [zS,zU,zO,zG,zC,zA,yZ,zQ,zX,zP,zW,zZ,zT,zR,zL,zN,zB,zM,gZ,gS,tZ,tS]);try simp only [t2,t0,eA2])
     refine ⟨tyL gf,tyL gf,zb9 gf ?_⟩;obtain ⟨a1,a2,a3⟩:=popd a (b::st') G' gr kp;generalize put G' pf (.lst (qW t m (b::st')))=G5 at a1 a2 a3 ⊢;refine ⟨tyL a1,zb9 a1 ?_⟩;obtain ⟨b1,b2,b3⟩:=popd b st' G5 a2 a3;generalize put G5 pf (.lst (qW t m st'))=G6 at b1 b2 b3 ⊢;refine ⟨z2,fun r hr=>?_⟩
     try simp only [eA2]
     refine ⟨[hv t m a,hv t m b],zJ zV,?_⟩;have k7:zK [] G6 (put G6 r (.lst [.bl (hv t m a),.bl (hv t m b)])):=zK.new hr;have ev:[hv t m a,hv t m b].all id=(hv t m a&&hv t m b):=by simp
     dsimp only;rw [ev];exact fin st' _ (k7 _ _ (by simp) b1) sl' hst (k7 _ _ (by simp) b2) (b3.trans k7)
    |true =>
     ((try dsimp only [zS,zU,zO,zG,zC,zA,yZ,zQ,zX,zP,zW,zZ,zT,zR,zL,zN,zB,zM,gZ,gS,tZ,tS]);try simp only [Cd.w,bw,sJ,zD,zH,n2,zzB,if_false])
     refine yT ?_
     ((try dsimp only [zS,zU,zO,zG,zC,zA,yZ,zQ,zX,zP,zW,zZ,zT,zR,zL,zN,zB,zM,gZ,gS,tZ,tS]);try simp only [Cd.w,bw,sJ,zD,zH,n3,zzB,if_false])
     refine yT ?_
     ((try dsimp only [zS,zU,zO,zG,zC,zA,yZ,zQ,zX,zP,zW,zZ,zT,zR,zL,zN,zB,zM,gZ,gS,tZ,tS]);try simp only [Cd.w,bw,sJ,zD,zH,beq_self_eq_true,if_true])
     refine yT ?_
     ((try dsimp only [zS,zU,zO,zG,zC,zA,yZ,zQ,zX,zP,zW,zZ,zT,zR,zL,zN,zB,zM,gZ,gS,tZ,tS]);try simp only [t2,t0,e5])
     refine ⟨tyL gf,tyL gf,zb9 gf ?_⟩;obtain ⟨a1,a2,a3⟩:=popd a (b::st') G' gr kp;generalize put G' pf (.lst (qW t m (b::st')))=G5 at a1 a2 a3 ⊢;refine ⟨tyL a1,zb9 a1 ?_⟩;obtain ⟨b1,b2,b3⟩:=popd b st' G5 a2 a3;generalize put G5 pf (.lst (qW t m st'))=G6 at b1 b2 b3 ⊢;refine ⟨z2,fun r hr=>?_⟩
     try simp only [e5]
     refine ⟨[hv t m a,hv t m b],zJ zV,?_⟩;have k7:zK [] G6 (put G6 r (.lst [.bl (hv t m a),.bl (hv t m b)])):=zK.new hr;have ev:[hv t m a,hv t m b].any id=(hv t m a || hv t m b):=by simp
     dsimp only;rw [ev];exact fin st' _ (k7 _ _ (by simp) b1) sl' hst (k7 _ _ (by simp) b2) (b3.trans k7)
 .rintro σ G' ⟨st,v4,rfl,gf,hp,gr,kp⟩;rw [len,Nat.sub_self,List.drop_zero] at hp;obtain ⟨st',rfl,hst⟩:=nS (by simpa using hp:yI st=yR c++[])
  have e:st'=[]:=by
   cases st' with
   |nil=>rfl
   |cons s r=>obtain ⟨q,eq⟩:=bA s;simp [yI,eq] at hst
  subst e;refine yT ?_
  (try dsimp only [zS,zU,zO,zG,zC,zA,yZ,zQ,zX,zP,zW,zZ,zT,zR,zL,zN,zB,zM,gZ,gS,tZ,tS])
  refine pS (zJ gf) ?_;have ev:qW t m [c]=[.bl (hv t m c)]:=rfl;rw [ev,uG];exact h G' kp
end
theorem at_3 {a b c d:W} {l:List W}:tB (a::b::c::d::l) 3=some d:=by
 unfold tB;have:fT (a::b::c::d::l).length 3=some 3:=by simp [fT];omega
 rw [this];rfl
theorem ix3 {a b c d:W} {l:List W} {G:Hw} {Q:Q3}:vP (.tup (a::b::c::d::l)) (.int 3) G Q=Q d G:=by simp only [vP,at_3]
def gI (l:List Bool):List W:=l.map .bl
theorem nZ:∀ l:List Bool,yA (gI l)=true
 | []=>rfl
 |x::l=>by show (jD (.bl x)&&yA (gI l))=true;rw [nZ l];rfl
theorem nT:∀ l:List Bool,yC (gI l)=0
 | []=>rfl
 |x::l=>by show max (dep (.bl x)) (yC (gI l))=0;rw [nT l];rfl
theorem zcS:∀ l m:List Bool,qX (gI l) (gI m)=(l==m)
 | [],[]=>by simp [gI,qX]
 | [],_::_=>by simp [gI,qX]
 |_::_,[]=>by simp [gI,qX]
 |x::l,y::m=>by
  show (jK (.bl x) (.bl y)&&qX (gI l) (gI m))=_;rw [zcS l m];simp [jK]
theorem zgh {G:Hw} {p q:Addr} {l m:List Bool} (hp:G p=some (.lst (gI l))) (hq:G q=some (.lst (gI m))):eqG G (.ref p) (.ref q)=some (l==m):=by
 simp only [eqG,zJ hp,zJ hq];rw [if_pos (by rw [nZ,nZ,nT,nT];rfl),zcS]
theorem zeK (l:List Bool):((gI l).any fun w=>jK w (.bl true))=l.contains true:=by
 induction l with
 |nil=>rfl
 |cons x l ih =>
  show (jK (.bl x) (.bl true) || (gI l).any fun w=>jK w (.bl true))=_;rw [ih];cases x<;>simp [jK]
theorem zfj {l:List Bool} {G:Hw} {Q:Q3} (q:Q (.bl (l.contains true)) G):L3.inR false (.bl true) (gI l) G Q:=by
 refine ⟨⟨by simp [jD],nZ l,by rw [nT];simp⟩,?_⟩;rw [zeK];exact q
def zcI:Cd->Bool
 | .neg _=>true
 |_=>false
def pQ:Bool->Cd->Bool
 |false,.bin false _ _=>true
 |true,.bin true _ _=>true
 |_,_=>false
theorem zdr (c:Cd):(yK c==("not" : Str))=zcI c:=by
 cases c with
 |one k s=>cases k<;>rfl
 |two k x s=>cases k<;>rfl
 |bin k a b=>cases k<;>rfl
 |_=>rfl
theorem zds (c:Cd):(yK c==("and" : Str))=pQ false c:=by
 cases c with
 |one k s=>cases k<;>rfl
 |two k x s=>cases k<;>rfl
 |bin k a b=>cases k<;>rfl
 |_=>rfl
theorem w_or (c:Cd):(yK c==("or" : Str))=pQ true c:=by
 cases c with
 |one k s=>cases k<;>rfl
 |two k x s=>cases k<;>rfl
 |bin k a b=>cases k<;>rfl
 |_=>rfl
theorem ixs {c:Cd} (h:wG c=[]) {x:W} {r:List W} (e:jX c=x::r) {G:Hw} {Q:Q3}:vP c.w (.int 1) G Q=Q x G:=by rw [c_w h,e,ix1]
theorem slc {c:Cd} (h:wG c=[]) {G:Hw} {Q:Q3}:fD c.w (some 1) none G Q=Q (.tup (jX c)) G:=by
 rw [c_w h];simp only [fD,kP]
section
variable {K : yM} {sA : Addr}
theorem zbo {n:Nat} {ws:List W} {G:Hw} {Q:Q3} (h:xG (n+1) ws G Q XN):zE (xJ K sA 30 ⟨"_law_holds", xG n⟩) XN xV { nx:=fun _ G'=>Q .non G',rt:=Q } (yJ vA ws) G:=by
 obtain ⟨c,t,m,rfl,co,to,mo,cd,h⟩:=h;have e8:(xJ K sA 30 ⟨"_law_holds", xG n⟩).fn[8]?=some eInt:=rfl;have e14:(xJ K sA 30 ⟨"_law_holds", xG n⟩).fn[14]?=some ⟨"_law_says", bZ⟩:=rfl;have e30:(xJ K sA 30 ⟨"_law_holds", xG n⟩).fn[30]?=some ⟨"_law_holds", xG n⟩:=rfl;have z2:=sz 2 (by decide);have dO:=uN to.o;have dU:=uN to.u;have dS:=uO to.s;have dF:=uO to.f;have tp:=zaI mo;have mp:=ze3 mo;have H:=h G zK.refl;show zE (xJ K sA 30 ⟨"_law_holds", xG n⟩) XN xV { nx:=fun _ G'=>Q .non G',rt:=Q } [some c.w,some t.w,some m.w,none,none] G;simp only [xV];refine yT ?_
 ((try dsimp only [zS,zU,zO,zG,zC,zA,yZ,zQ,zX,zP,zW,zZ,zT,zR,zL,zN,zB,zM,gZ,gS,tZ,tS]);try simp only [ixw])
 refine yT ?_
 ((try dsimp only [zS,zU,zO,zG,zC,zA,yZ,zQ,zX,zP,zW,zZ,zT,zR,zL,zN,zB,zM,gZ,gS,tZ,tS]);try simp only [zD,zH,zgH])
 cases c with
 |any =>
  simp only [sI,if_true];refine yT ?_
  (try dsimp only [zS,zU,zO,zG,zC,zA,yZ,zQ,zX,zP,zW,zZ,zT,zR,zL,zN,zB,zM,gZ,gS,tZ,tS])
  exact H
 |neg a =>
  simp only [sI,zzB,if_false];refine xH ?_;refine yT ?_
  ((try dsimp only [zS,zU,zO,zG,zC,zA,yZ,zQ,zX,zP,zW,zZ,zT,zR,zL,zN,zB,zM,gZ,gS,tZ,tS]);try simp only [zD,zH,zdr,zcI,if_true])
  refine yT ?_
  ((try dsimp only [zS,zU,zO,zG,zC,zA,yZ,zQ,zX,zP,zW,zZ,zT,zR,zL,zN,zB,zM,gZ,gS,tZ,tS]);try simp only [Cd.w,ix1,e30])
  simp only [Cd.deep] at cd;exact ⟨a,t,m,rfl,co,to,mo,by omega,fun G2 k2=>h G2 k2⟩
 |bin k a b =>
  simp only [sI,zzB,if_false];refine xH ?_;refine yT ?_
  ((try dsimp only [zS,zU,zO,zG,zC,zA,yZ,zQ,zX,zP,zW,zZ,zT,zR,zL,zN,zB,zM,gZ,gS,tZ,tS]);try simp only [zD,zH,zdr,zcI,zzB,if_false])
  refine xH ?_;simp only [Cd.deep] at cd;refine yT ?_
  have go:zE (xJ K sA 30 ⟨"_law_holds", xG n⟩) XN (.cons (.asg 4 (.lc (.nm 0) ["_law_part"] [1,2] (.val (.sl (.var 0) (.yes (.con (.int 1))) .no)) .no (.call 30 (.cons (.var 0) (.cons (.var 1) (.cons (.var 2) .nil)))))) (.cons (.ret (.or (.cmp .Eq (.var 4) (.lst (.cons (.con (.bool true)) (.cons (.con (.bool true)) .nil)))) (.and (.cmp .Eq (.var 3) (.con (.str "or"))) (.cmp .In (.con (.bool true)) (.var 4))))) .nil)) { nx:=fun _ G'=>False,rt:=Q } [some (Cd.bin k a b).w,some t.w,some m.w,some (.str (yK (.bin k a b))),none] G:=by
   refine yT ?_
   ((try dsimp only [zS,zU,zO,zG,zC,zA,yZ,zQ,zX,zP,zW,zZ,zT,zR,zL,zN,zB,zM,gZ,gS,tZ,tS]);try simp only [Cd.w,fD,kP,qS])
   refine ⟨fun i acc G'=>zK [] G G'/\acc=([hv t m a,hv t m b].take i).map .bl,⟨zK.refl,rfl⟩,?_,z2,?_,?_⟩
   .rintro i acc G' ⟨_,rfl⟩ _;exact ⟨trivial,by simp;omega⟩
   .rintro i w acc G' hw ⟨k1,rfl⟩;simp only [tF,List.replicate,zzU,zzV,List.cons_append,List.nil_append,gZ,gS,tZ,tS,Option.join_some,List.length_cons,List.length_nil]
    ((try dsimp only [zS,zU,zO,zG,zC,zA,yZ,zQ,zX,zP,zW,zZ,zT,zR,zL,zN,zB,zM,gZ,gS,tZ,tS]);try simp only [if_true,e30])
    match i,hw with
    | 0,hw =>
     cases hw;exact ⟨a,t,m,rfl,co.1,to,mo,by omega,fun G2 k2=>⟨k1.trans k2,rfl⟩⟩
    | 1,hw =>
     cases hw;exact ⟨b,t,m,rfl,co.2,to,mo,by omega,fun G2 k2=>⟨k1.trans k2,rfl⟩⟩
    |i+2,hw=>cases hw
   .rintro acc G1 ⟨k1,rfl⟩ r hr;have k2:zK [] G (put G1 r (.lst (gI [hv t m a,hv t m b]))):=k1.trans (zK.new hr);have g2:(put G1 r (.lst (gI [hv t m a,hv t m b]))) r=some (.lst (gI [hv t m a,hv t m b])):=zV;show zE _ XN _ _ _ (put G1 r (.lst (gI [hv t m a,hv t m b])));generalize put G1 r (.lst (gI [hv t m a,hv t m b]))=G2 at k2 g2 ⊢;refine yT ?_
    ((try dsimp only [zS,zU,zO,zG,zC,zA,yZ,zQ,zX,zP,zW,zZ,zT,zR,zL,zN,zB,zM,gZ,gS,tZ,tS]);try simp only [zzC,zzL,zzA,Nat.reduceAdd,z2,true_and])
    intro r3 hr3;have k3:zK [] G2 (put G2 r3 (.lst [.bl true,.bl true])):=zK.new hr3;have g3:(put G2 r3 (.lst [.bl true,.bl true])) r3=some (.lst (gI [true,true])):=zV;generalize put G2 r3 (.lst [.bl true,.bl true])=G3 at k3 g3 ⊢;have g23:=k3 _ _ (by simp) g2;have H3:=h _ (k2.trans k3);simp only [zD,zgh g23 g3,qD,g23,zH,w_or]
    cases k with
    |false =>
     simp only [hv] at H3;cases ha:hv t m a<;>cases hb:hv t m b<;>rw [ha,hb] at H3<;>simp [pQ]<;>exact H3
    |true =>
     simp only [hv] at H3;cases ha:hv t m a<;>cases hb:hv t m b<;>rw [ha,hb] at H3<;>simp [pQ]<;>first|exact H3|exact zfj H3
  cases k with
  |false =>
   ((try dsimp only [zS,zU,zO,zG,zC,zA,yZ,zQ,zX,zP,zW,zZ,zT,zR,zL,zN,zB,zM,gZ,gS,tZ,tS]);try simp only [zD,zH,zds,pQ,if_true])
   exact go
  |true =>
   ((try dsimp only [zS,zU,zO,zG,zC,zA,yZ,zQ,zX,zP,zW,zZ,zT,zR,zL,zN,zB,zM,gZ,gS,tZ,tS]);try simp only [zD,zH,zds,w_or,pQ,zzB,if_false,if_true])
   exact go
 |one k s =>
  have ps:=jP s;simp only [sI,zzB,if_false];refine xH ?_;refine yT ?_
  ((try dsimp only [zS,zU,zO,zG,zC,zA,yZ,zQ,zX,zP,zW,zZ,zT,zR,zL,zN,zB,zM,gZ,gS,tZ,tS]);try simp only [zD,zH,zdr,zcI,zzB,if_false])
  refine xH ?_;refine yT ?_
  ((try dsimp only [zS,zU,zO,zG,zC,zA,yZ,zQ,zX,zP,zW,zZ,zT,zR,zL,zN,zB,zM,gZ,gS,tZ,tS]);try simp only [zD,zH,zds,w_or,pQ,zzB,if_false])
  refine xH ?_;refine yT ?_
  ((try dsimp only [zS,zU,zO,zG,zC,zA,yZ,zQ,zX,zP,zW,zZ,zT,zR,zL,zN,zB,zM,gZ,gS,tZ,tS]);try simp only [zD,zH,cF,kK])
  cases k with
  |said =>
   simp only [bI,if_true];refine yT ?_
   ((try dsimp only [zS,zU,zO,zG,zC,zA,yZ,zQ,zX,zP,zW,zZ,zT,zR,zL,zN,zB,zM,gZ,gS,tZ,tS]);try simp only [ixs (c:=.one .said s) rfl rfl,e8,zD,zH,kK,bI,rK,zzB,if_false,xB,Sd.w])
   refine ⟨by unfold gL;decide,?_⟩;rw [show (3:Int) * 0=0 from rfl];simp only [sJ,qD];exact inW ps (kI _) (by omega) H
  |fresh =>
   simp only [bI,zzB,if_false,if_true];refine yT ?_
   ((try dsimp only [zS,zU,zO,zG,zC,zA,yZ,zQ,zX,zP,zW,zZ,zT,zR,zL,zN,zB,zM,gZ,gS,tZ,tS]);try simp only [ixs (c:=.one .fresh s) rfl rfl,e8,zD,zH,kK,bI,rK,if_true,xB,Sd.w])
   refine ⟨by unfold gL;decide,?_⟩;rw [show (3:Int) * 1=3 from rfl];simp only [ix3,qD];exact inW ps (kI _) (by omega) H
  |heard =>
   simp only [bI,zzB,if_false];refine xH ?_;refine yT ?_
   ((try dsimp only [zS,zU,zO,zG,zC,zA,yZ,zQ,zX,zP,zW,zZ,zT,zR,zL,zN,zB,zM,gZ,gS,tZ,tS]);try simp only [zD,zH,cE,vJ,gJ,zzB,if_false])
   refine xH ?_;refine yT ?_
   have mov:m≠.no->zE (xJ K sA 30 ⟨"_law_holds", xG n⟩) XN (tl (tl (tl (tl (tl (tl (tl xV))))))) { nx:=fun _ G'=>Q .non G',rt:=Q } [some (Cd.one .heard s).w,some t.w,some m.w,some (.str (yK (.one .heard s))),none] G:=by
    intro mn;simp only [xV,tl];refine yT ?_
    ((try dsimp only [zS,zU,zO,zG,zC,zA,yZ,zQ,zX,zP,zW,zZ,zT,zR,zL,zN,zB,zM,gZ,gS,tZ,tS]);try simp only [zD,zH,zbD,bI,if_true])
    refine yT ?_
    ((try dsimp only [zS,zU,zO,zG,zC,zA,yZ,zQ,zX,zP,zW,zZ,zT,zR,zL,zN,zB,zM,gZ,gS,tZ,tS]);try simp only [e14])
    refine ⟨m,rfl,mn,?_⟩;simp only [ixs (c:=.one .heard s) rfl rfl,zD];rw [eqP tp.1 ps (by omega) tp.2.2]
    have e:h1 t m (.one .heard s)=jK m.told s.w:=by
     cases m with
     |no=>exact absurd rfl mn
     |_=>rfl
    have H':Q (.bl (h1 t m (.one .heard s))) G:=H;rw [e] at H';exact H'
   simp only [xV,tl] at mov
   cases m with
   |no =>
    ((try dsimp only [zS,zU,zO,zG,zC,zA,yZ,zQ,zX,zP,zW,zZ,zT,zR,zL,zN,zB,zM,gZ,gS,tZ,tS]);try simp only [Mv.w,zD,pR,zzB,if_false,if_true])
    refine yT ?_
    (try dsimp only [zS,zU,zO,zG,zC,zA,yZ,zQ,zX,zP,zW,zZ,zT,zR,zL,zN,zB,zM,gZ,gS,tZ,tS])
    exact H
   |dbt y r =>
    ((try dsimp only [zS,zU,zO,zG,zC,zA,yZ,zQ,zX,zP,zW,zZ,zT,zR,zL,zN,zB,zM,gZ,gS,tZ,tS]);try simp only [Mv.w,zD,pR,zzB,if_false])
    refine xH ?_;exact mov (by intro z;cases z)
   |ans y r a =>
    ((try dsimp only [zS,zU,zO,zG,zC,zA,yZ,zQ,zX,zP,zW,zZ,zT,zR,zL,zN,zB,zM,gZ,gS,tZ,tS]);try simp only [Mv.w,zD,pR,zzB,if_false])
    refine xH ?_;exact mov (by intro z;cases z)
 |two k x s =>
  have pd:=vF (x,s);have q5:(("answer" : Str) == "doubt")=false:=by decide +kernel
  simp only [sI,zzB,if_false];refine xH ?_;refine yT ?_
  ((try dsimp only [zS,zU,zO,zG,zC,zA,yZ,zQ,zX,zP,zW,zZ,zT,zR,zL,zN,zB,zM,gZ,gS,tZ,tS]);try simp only [zD,zH,zdr,zcI,zzB,if_false])
  refine xH ?_;refine yT ?_
  ((try dsimp only [zS,zU,zO,zG,zC,zA,yZ,zQ,zX,zP,zW,zZ,zT,zR,zL,zN,zB,zM,gZ,gS,tZ,tS]);try simp only [zD,zH,zds,w_or,pQ,zzB,if_false])
  refine xH ?_;refine yT ?_
  ((try dsimp only [zS,zU,zO,zG,zC,zA,yZ,zQ,zX,zP,zW,zZ,zT,zR,zL,zN,zB,zM,gZ,gS,tZ,tS]);try simp only [zD,zH,cF,kK,bI,zzB,if_false])
  refine xH ?_;refine yT ?_
  ((try dsimp only [zS,zU,zO,zG,zC,zA,yZ,zQ,zX,zP,zW,zZ,zT,zR,zL,zN,zB,zM,gZ,gS,tZ,tS]);try simp only [zD,zH,cE,vJ])
  have mov:m≠.no->(gJ .asked (.two k x s)=true/\h1 t m (.two k x s)=(match m with|.dbt y r=>jK (dw (y,r)) (dw (x,s))|_=>false)\/gJ .asked (.two k x s)=false/\h1 t m (.two k x s)=(match m with|.ans y r _=>jK (dw (y,r)) (dw (x,s))|_=>false))->zE (xJ K sA 30 ⟨"_law_holds", xG n⟩) XN (tl (tl (tl (tl (tl (tl (tl xV))))))) { nx:=fun _ G'=>Q .non G',rt:=Q } [some (Cd.two k x s).w,some t.w,some m.w,some (.str (yK (.two k x s))),none] G:=by
   intro mn hk;simp only [xV,tl];refine yT ?_
   ((try dsimp only [zS,zU,zO,zG,zC,zA,yZ,zQ,zX,zP,zW,zZ,zT,zR,zL,zN,zB,zM,gZ,gS,tZ,tS]);try simp only [zD,zH,zbD,bI,zzB,if_false])
   refine xH ?_;refine yT ?_;have Hh:∀ G',zK [] G G'->Q (.bl (h1 t m (.two k x s))) G':=h
   cases m with
   |no=>exact absurd rfl mn
   |dbt y r =>
    have dy:=bE (p:=(y,r)) mo
    ((try dsimp only [zS,zU,zO,zG,zC,zA,yZ,zQ,zX,zP,zW,zZ,zT,zR,zL,zN,zB,zM,gZ,gS,tZ,tS]);try simp only [Mv.w,ix1,fD,kP,zzC,zzL,zzA,Nat.reduceAdd,z2,true_and,e8])
    intro p hp;have k1:zK [] G (put G p (.lst [.str y,.tup [.str y,r.w]])):=zK.new hp;have g1:(put G p (.lst [.str y,.tup [.str y,r.w]])) p=some (.lst [.str y,.tup [.str y,r.w]]):=zV;have H1:=Hh _ k1;generalize put G p (.lst [.str y,.tup [.str y,r.w]])=G1 at k1 g1 H1 ⊢;have e1:=eqP (G:=G1) (x:=dw (y,r)) (y:=dw (x,s)) (vF _) pd (by omega) (fun p e=>by cases e);have e2:=eqP (G:=G1) (x:=.str y) (y:=dw (x,s)) rfl pd (Nat.zero_le _) (fun p e=>by cases e);simp only [dw] at e1 e2 hk;simp only [zD,zH,zbE,rK];rcases hk with ⟨ia,ih⟩|⟨ia,ih⟩
    .rw [ia];simp only [if_true];refine pS (zJ g1) ?_;rw [gN];simp only [Cd.w,kP,e1,sJ,zH,beq_self_eq_true,bF];rw [ih] at H1
     cases hE:jK (.tup [.str y,r.w]) (.tup [.str x,s.w]) with
     |true=>rw [hE] at H1;simp only [if_true];exact H1
     |false=>rw [hE] at H1;simp only [zzB,if_false];exact H1
    .rw [ia];simp only [zzB,if_false];refine pS (zJ g1) ?_;rw [uG];simp only [Cd.w,kP,e2];rw [ih] at H1;simp only [jK,zzB,if_false];exact H1
   |ans y r a =>
    have dy:=bE (p:=(y,r)) mo.1;have da:=qU mo.2
    ((try dsimp only [zS,zU,zO,zG,zC,zA,yZ,zQ,zX,zP,zW,zZ,zT,zR,zL,zN,zB,zM,gZ,gS,tZ,tS]);try simp only [Mv.w,ix1,fD,kP,zzC,zzL,zzA,Nat.reduceAdd,z2,true_and,e8])
    intro p hp;have k1:zK [] G (put G p (.lst [.tup [.str y,r.w],.tup [.tup [.str y,r.w],a.w]])):=zK.new hp;have g1:(put G p (.lst [.tup [.str y,r.w],.tup [.tup [.str y,r.w],a.w]])) p=some (.lst [.tup [.str y,r.w],.tup [.tup [.str y,r.w],a.w]]):=zV;have H1:=Hh _ k1;generalize put G p (.lst [.tup [.str y,r.w],.tup [.tup [.str y,r.w],a.w]])=G1 at k1 g1 H1 ⊢;have e1:=eqP (G:=G1) (x:=dw (y,r)) (y:=dw (x,s)) (vF _) pd (by omega) (fun p e=>by cases e);have e2:=eqP (G:=G1) (x:=.tup [dw (y,r),a.w]) (y:=dw (x,s)) (by simp only [jD,yA,vF,jP];rfl) pd (by simp only [dep,yC] at *;omega) (fun p e=>by cases e);simp only [dw] at e1 e2 hk;simp only [zD,zH,zbE,rK];rcases hk with ⟨ia,ih⟩|⟨ia,ih⟩
    .rw [ia];simp only [if_true];refine pS (zJ g1) ?_;rw [gN];simp only [Cd.w,kP,e2];rw [ih] at H1;have ef:jK (.tup [.tup [.str y,r.w],a.w]) (.tup [.str x,s.w])=false:=by simp [jK,qX]
     simp only [ef,zzB,if_false];exact H1
    .rw [ia];simp only [zzB,if_false];refine pS (zJ g1) ?_;rw [uG];simp only [Cd.w,kP,e1,sJ,zH,q5,bF,beq_self_eq_true];rw [ih] at H1
     cases hE:jK (.tup [.str y,r.w]) (.tup [.str x,s.w]) with
     |true=>rw [hE] at H1;simp only [if_true];exact H1
     |false=>rw [hE] at H1;simp only [zzB,if_false];exact H1
  simp only [xV,tl] at mov
  cases k with
  |opn =>
   simp only [gJ,if_true];refine yT ?_
   ((try dsimp only [zS,zU,zO,zG,zC,zA,yZ,zQ,zX,zP,zW,zZ,zT,zR,zL,zN,zB,zM,gZ,gS,tZ,tS]);try simp only [slc (c:=.two .opn x s) rfl,e8,zD,zH,vJ,gJ,rK,zzB,if_false,xB,Sd.w])
   rw [show (1:Int)+0=1 from rfl];simp only [ix1,qD];exact inW pd (uQ _) (by omega) H
  |used =>
   simp only [gJ,zzB,if_false,if_true];refine yT ?_
   ((try dsimp only [zS,zU,zO,zG,zC,zA,yZ,zQ,zX,zP,zW,zZ,zT,zR,zL,zN,zB,zM,gZ,gS,tZ,tS]);try simp only [slc (c:=.two .used x s) rfl,e8,zD,zH,vJ,gJ,rK,if_true,xB,Sd.w])
   rw [show (1:Int)+1=2 from rfl];simp only [ix2,qD];exact inW pd (uQ _) (by omega) H
  |asked =>
   simp only [gJ,zzB,if_false];refine xH ?_;refine yT ?_
   cases m with
   |no =>
    ((try dsimp only [zS,zU,zO,zG,zC,zA,yZ,zQ,zX,zP,zW,zZ,zT,zR,zL,zN,zB,zM,gZ,gS,tZ,tS]);try simp only [Mv.w,zD,pR,zzB,if_false,if_true])
    refine yT ?_
    (try dsimp only [zS,zU,zO,zG,zC,zA,yZ,zQ,zX,zP,zW,zZ,zT,zR,zL,zN,zB,zM,gZ,gS,tZ,tS])
    exact H
   |dbt y r =>
    ((try dsimp only [zS,zU,zO,zG,zC,zA,yZ,zQ,zX,zP,zW,zZ,zT,zR,zL,zN,zB,zM,gZ,gS,tZ,tS]);try simp only [Mv.w,zD,pR,zzB,if_false])
    refine xH ?_;exact mov (by intro z;cases z) (.inl ⟨rfl,rfl⟩)
   |ans y r a =>
    ((try dsimp only [zS,zU,zO,zG,zC,zA,yZ,zQ,zX,zP,zW,zZ,zT,zR,zL,zN,zB,zM,gZ,gS,tZ,tS]);try simp only [Mv.w,zD,pR,zzB,if_false])
    refine xH ?_;exact mov (by intro z;cases z) (.inl ⟨rfl,rfl⟩)
  |answ =>
   simp only [gJ,zzB,if_false];refine xH ?_;refine yT ?_
   cases m with
   |no =>
    ((try dsimp only [zS,zU,zO,zG,zC,zA,yZ,zQ,zX,zP,zW,zZ,zT,zR,zL,zN,zB,zM,gZ,gS,tZ,tS]);try simp only [Mv.w,zD,pR,zzB,if_false,if_true])
    refine yT ?_
    (try dsimp only [zS,zU,zO,zG,zC,zA,yZ,zQ,zX,zP,zW,zZ,zT,zR,zL,zN,zB,zM,gZ,gS,tZ,tS])
    exact H
   |dbt y r =>
    ((try dsimp only [zS,zU,zO,zG,zC,zA,yZ,zQ,zX,zP,zW,zZ,zT,zR,zL,zN,zB,zM,gZ,gS,tZ,tS]);try simp only [Mv.w,zD,pR,zzB,if_false])
    refine xH ?_;exact mov (by intro z;cases z) (.inr ⟨rfl,rfl⟩)
   |ans y r a =>
    ((try dsimp only [zS,zU,zO,zG,zC,zA,yZ,zQ,zX,zP,zW,zZ,zT,zR,zL,zN,zB,zM,gZ,gS,tZ,tS]);try simp only [Mv.w,zD,pR,zzB,if_false])
    refine xH ?_;exact mov (by intro z;cases z) (.inr ⟨rfl,rfl⟩)
end
theorem Says.keep {G G':Hw} {d l p:Addr} {ps:List Sy} (s:Says G d l p ps) (k:zK [d,l] G G') (D:xO G' d l):Says G' d l p ps:=⟨D,s.off,k _ _ s.off s.is,s.ne,s.few,s.sz⟩
theorem zit {ps:List Sy} {i:Int} (h0:0<=i) (h1:i<ps.length):∃ x∈ps,tB (ps.map Sy.w) i=some x.w:=by
 have hi:i.toNat<ps.length:=by omega
 refine ⟨ps[i.toNat],List.getElem_mem hi,?_⟩;unfold tB fT;rw [if_pos h0,zzM,if_pos h1];show (ps.map Sy.w)[i.toNat]?=_;rw [List.getElem?_map,List.getElem?_eq_getElem hi];rfl
section
variable {K : yM} {sA : Addr}
theorem zeI {n:Nat} {ws:List W} {G:Hw} {Q:Q3} (h:jI (n+1) ws G Q XN):zE (xJ K sA 17 ⟨"_law_condition", jI n⟩) XN yO { nx:=fun _ G'=>Q .non G',rt:=Q } (yJ qV ws) G:=by
 obtain ⟨d,l,p,ps,k,rfl,S,kn,k10,h⟩:=h;have e1:(xJ K sA 17 ⟨"_law_condition", jI n⟩).fn[1]?=some fS:=rfl;have e8:(xJ K sA 17 ⟨"_law_condition", jI n⟩).fn[8]?=some eInt:=rfl;have e11:(xJ K sA 17 ⟨"_law_condition", jI n⟩).fn[11]?=some tY:=rfl;have e16:(xJ K sA 17 ⟨"_law_condition", jI n⟩).fn[16]?=some ⟨"_law_word", cA⟩:=rfl;have e17:(xJ K sA 17 ⟨"_law_condition", jI n⟩).fn[17]?=some ⟨"_law_condition", jI n⟩:=rfl;have z1:=sz 1 (by decide);have z2:=sz 2 (by decide);have z3:=sz 3 (by decide);have z4:=sz 4 (by decide);have few:=S.few;have pos:0<ps.length:=List.length_pos_iff.mpr S.ne;show zE (xJ K sA 17 ⟨"_law_condition", jI n⟩) XN yO { nx:=fun _ G'=>Q .non G',rt:=Q } [some (.ref d),some (.ref p),some (.int (k:Nat)),none,none,none,none] G;simp only [yO];refine yT ?_
 ((try dsimp only [zS,zU,zO,zG,zC,zA,yZ,zQ,zX,zP,zW,zZ,zT,zR,zL,zN,zB,zM,gZ,gS,tZ,tS]);try simp only [e11])
 refine ⟨d,l,10,rfl,S.deal,by decide,fun way G1 w0 w1 k1 D1=>?_⟩;have S1:=S.keep k1 D1;refine yT ?_
 ((try dsimp only [zS,zU,zO,zG,zC,zA,yZ,zQ,zX,zP,zW,zZ,zT,zR,zL,zN,zB,zM,gZ,gS,tZ,tS]);try simp only [e1,e11,tJ,tK,S1.is,zzM])
 refine ⟨d,l,ps.length,rfl,D1,⟨by omega,by omega⟩,fun i G2 i0 i1 k2 D2=>?_⟩;have S2:=S1.keep k2 D2;have kk:=k1.trans k2;obtain ⟨s,sm,es⟩:=zit i0 i1;have ss:=S.sz s sm;refine pS (zJ S2.is) ?_;rw [es];refine yT ?_
 ((try dsimp only [zS,zU,zO,zG,zC,zA,yZ,zQ,zX,zP,zW,zZ,zT,zR,zL,zN,zB,zM,gZ,gS,tZ,tS]);try simp only [zD,sR])
 have rest:zE (xJ K sA 17 ⟨"_law_condition", jI n⟩) XN (tl (tl (tl yO))) { nx:=fun _ G'=>Q .non G',rt:=Q } [some (.ref d),some (.ref p),some (.int (k:Nat)),some (.int way),some s.w,none,none] G2:=by
  simp only [yO,tl];refine yT ?_
  ((try dsimp only [zS,zU,zO,zG,zC,zA,yZ,zQ,zX,zP,zW,zZ,zT,zR,zL,zN,zB,zM,gZ,gS,tZ,tS]);try simp only [zD,sR])
  by_cases h2:way<2
  .rw [if_pos (by simpa using h2)];refine yT ?_
   ((try dsimp only [zS,zU,zO,zG,zC,zA,yZ,zQ,zX,zP,zW,zZ,zT,zR,zL,zN,zB,zM,gZ,gS,tZ,tS]);try simp only [zzC,zzL,zzA,z1,true_and])
   exact h .any G2 trivial (Nat.zero_le _) kk D2
  rw [if_neg (by simpa using h2)];refine xH ?_;refine yT ?_
  ((try dsimp only [zS,zU,zO,zG,zC,zA,yZ,zQ,zX,zP,zW,zZ,zT,zR,zL,zN,zB,zM,gZ,gS,tZ,tS]);try simp only [zD,sR])
  by_cases h4:way<4
  .rw [if_pos (by simpa using h4)];refine yT ?_
   ((try dsimp only [zS,zU,zO,zG,zC,zA,yZ,zQ,zX,zP,zW,zZ,zT,zR,zL,zN,zB,zM,gZ,gS,tZ,tS]);try simp only [zzC,zzL,zzA,Nat.reduceAdd,z2,z3,true_and])
   intro q hq;have k3:zK [] G2 (put G2 q (.lst [.str "said", .str "fresh", .str "heard"])):=zK.new hq;have g3:(put G2 q (.lst [.str "said", .str "fresh", .str "heard"])) q=some (.lst [.str "said", .str "fresh", .str "heard"]):=zV;have nq:=wX D2 hq;generalize put G2 q (.lst [.str "said", .str "fresh", .str "heard"])=G3 at k3 g3 ⊢;have D3:=wC k3 D2;simp only [e11];refine ⟨d,l,3,rfl,D3,by decide,fun j G4 j0 j1 k4 D4=>?_⟩;refine pS (zJ (k4 _ _ nq g3)) ?_;have kz:=kk.trans ((wY k3).trans k4);have hj:j=0\/j=1\/j=2:=by omega
   rcases hj with rfl|rfl|rfl
   .rw [uG];exact h (.one .said s) G4 ss (Nat.zero_le _) kz D4
   .rw [gN];exact h (.one .fresh s) G4 ss (Nat.zero_le _) kz D4
   .rw [at_2];exact h (.one .heard s) G4 ss (Nat.zero_le _) kz D4
  rw [if_neg (by simpa using h4)];refine xH ?_;refine yT ?_
  ((try dsimp only [zS,zU,zO,zG,zC,zA,yZ,zQ,zX,zP,zW,zZ,zT,zR,zL,zN,zB,zM,gZ,gS,tZ,tS]);try simp only [e16,zzC,zzL,zzA,Nat.reduceAdd,z2,true_and])
  refine ⟨d,l,s,rfl,D2,fun x G3 k3 D3=>?_⟩;intro q hq;have k4:zK [] G3 (put G3 q (.lst [.str x,.str "begin"])):=zK.new hq;have g4:(put G3 q (.lst [.str x,.str "begin"])) q=some (.lst [.str x,.str "begin"]):=zV;have nq:=wX D3 hq;generalize put G3 q (.lst [.str x,.str "begin"])=G4 at k4 g4 ⊢;have D4:=wC k4 D3;simp only [e8,e11];refine ⟨d,l,5,rfl,D4,by decide,fun j G5 j0 j1 k5 D5=>?_⟩;simp only [zD,jH,rK];refine pS (zJ (k5 _ _ nq g4)) ?_;have kz:=kk.trans (k3.trans ((wY k4).trans k5))
  have fin:∀ y:Str,zE (xJ K sA 17 ⟨"_law_condition", jI n⟩) XN (tl (tl (tl (tl (tl (tl yO)))))) { nx:=fun _ G'=>Q .non G',rt:=Q } [some (.ref d),some (.ref p),some (.int (k:Nat)),some (.int way),some s.w,none,some (.str y)] G5:=by
   intro y;simp only [yO,tl];refine yT ?_
   ((try dsimp only [zS,zU,zO,zG,zC,zA,yZ,zQ,zX,zP,zW,zZ,zT,zR,zL,zN,zB,zM,gZ,gS,tZ,tS]);try simp only [zzC,zzL,zzA,Nat.reduceAdd,z3,z4,true_and])
   intro q hq;have k6:zK [] G5 (put G5 q (.lst [.str "open", .str "used", .str "asked", .str "answered"])):=zK.new hq;have g6:(put G5 q (.lst [.str "open", .str "used", .str "asked", .str "answered"])) q=some (.lst [.str "open", .str "used", .str "asked", .str "answered"]):=zV;have nq:=wX D5 hq;generalize put G5 q (.lst [.str "open", .str "used", .str "asked", .str "answered"])=G6 at k6 g6 ⊢;have D6:=wC k6 D5;simp only [e11];refine ⟨d,l,4,rfl,D6,by decide,fun j G7 j0 j1 k7 D7=>?_⟩;refine pS (zJ (k7 _ _ nq g6)) ?_;have ky:=kz.trans ((wY k6).trans k7);have hj:j=0\/j=1\/j=2\/j=3:=by omega
   rcases hj with rfl|rfl|rfl|rfl
   .rw [uG];exact h (.two .opn y s) G7 ss (Nat.zero_le _) ky D7
   .rw [gN];exact h (.two .used y s) G7 ss (Nat.zero_le _) ky D7
   .rw [at_2];exact h (.two .asked y s) G7 ss (Nat.zero_le _) ky D7
   .rw [at_3];exact h (.two .answ y s) G7 ss (Nat.zero_le _) ky D7
  simp only [yO,tl] at fin
  by_cases hj:j=0
  .rw [decide_eq_true hj];simp only [if_true];rw [gN];exact fin _
  .rw [decide_eq_false hj];simp only [zzB,if_false];rw [uG];exact fin _
 simp only [yO,tl] at rest
 by_cases h6:6<way
 .simp only [decide_eq_true h6,if_true]
  by_cases h0:0<(k:Int)
  .simp only [decide_eq_true h0,if_true];refine yT ?_
   ((try dsimp only [zS,zU,zO,zG,zC,zA,yZ,zQ,zX,zP,zW,zZ,zT,zR,zL,zN,zB,zM,gZ,gS,tZ,tS]);try simp only [e17,xB])
   have ek:(k:Int)-1=((k-1:Nat):Int):=by omega
   refine ⟨d,l,p,ps,k-1,by rw [ek],S2,by omega,by omega,fun c G3 co cd k3 D3=>?_⟩;have S3:=S2.keep k3 D3;have kz:=kk.trans k3;refine yT ?_
   ((try dsimp only [zS,zU,zO,zG,zC,zA,yZ,zQ,zX,zP,zW,zZ,zT,zR,zL,zN,zB,zM,gZ,gS,tZ,tS]);try simp only [zD,jH])
   by_cases h9:way=9
   .rw [decide_eq_true h9,if_pos rfl];refine yT ?_
    ((try dsimp only [zS,zU,zO,zG,zC,zA,yZ,zQ,zX,zP,zW,zZ,zT,zR,zL,zN,zB,zM,gZ,gS,tZ,tS]);try simp only [zzC,zzL,zzA,Nat.reduceAdd,z2,true_and])
    exact h (.neg c) G3 co (by simp only [Cd.deep];omega) kz D3
   .rw [decide_eq_false h9,if_neg zzN];refine xH ?_;refine yT ?_
    ((try dsimp only [zS,zU,zO,zG,zC,zA,yZ,zQ,zX,zP,zW,zZ,zT,zR,zL,zN,zB,zM,gZ,gS,tZ,tS]);try simp only [zzC,zzL,zzA,Nat.reduceAdd,z2,z3,true_and])
    intro q hq;have k4:zK [] G3 (put G3 q (.lst [.str "and", .str "or"])):=zK.new hq;have g4:(put G3 q (.lst [.str "and", .str "or"])) q=some (.lst [.str "and", .str "or"]):=zV;generalize put G3 q (.lst [.str "and", .str "or"])=G4 at k4 g4 ⊢;have D4:=wC k4 D3;have S4:=S3.keep (wY k4) D4;simp only [xB];refine pS (zJ g4) ?_;have hw:way-7=0\/way-7=1:=by omega
    rcases hw with hw|hw
    .rw [hw,uG];simp only [e17];refine ⟨d,l,p,ps,k-1,by rw [ek],S4,by omega,by omega,fun c' G5 co' cd' k5 D5=>?_⟩;exact h (.bin false c c') G5 ⟨co,co'⟩ (by simp only [Cd.deep];omega) (kz.trans ((wY k4).trans k5)) D5
    .rw [hw,gN];simp only [e17];refine ⟨d,l,p,ps,k-1,by rw [ek],S4,by omega,by omega,fun c' G5 co' cd' k5 D5=>?_⟩;exact h (.bin true c c') G5 ⟨co,co'⟩ (by simp only [Cd.deep];omega) (kz.trans ((wY k4).trans k5)) D5
  .simp only [decide_eq_false h0,zzB,if_false];refine xH ?_;exact rest
 .simp only [decide_eq_false h6,zzB,if_false];refine xH ?_;exact rest
end
theorem addL {G:Hw} {p q:Addr} {xs ys:List W} {Q:Q3} (hp:G p=some (.lst xs)) (hq:G q=some (.lst ys)) (hl:xs.length+ys.length<=3000) (h:∀ r,G r=none->Q (.ref r) (put G r (.lst (xs++ys)))):xB .Add (.ref p) (.ref q) G Q:=by
 simp only [xB,hp,hq];exact ⟨sz _ hl,h⟩
section
variable {K : yM} {sA : Addr}
theorem zcc {n:Nat} {ws:List W} {G:Hw} {Q:Q3} (h:wV (n+1) ws G Q XN):zE (xJ K sA 15 ⟨"_law_parts", wV n⟩) XN kY { nx:=fun _ G'=>Q .non G',rt:=Q } (yJ vC ws) G:=by
 obtain ⟨t,rfl,ts,td,h⟩:=h;have e15:(xJ K sA 15 ⟨"_law_parts", wV n⟩).fn[15]?=some ⟨"_law_parts", wV n⟩:=rfl;have z1:=sz 1 (by decide);show zE (xJ K sA 15 ⟨"_law_parts", wV n⟩) XN kY { nx:=fun _ G'=>Q .non G',rt:=Q } [some t.w,none,none] G;simp only [kY];refine yT ?_
 ((try dsimp only [zS,zU,zO,zG,zC,zA,yZ,zQ,zX,zP,zW,zZ,zT,zR,zL,zN,zB,zM,gZ,gS,tZ,tS]);try simp only [zzC,zzL,zzA,z1,true_and])
 intro q0 hq0;have k0:zK [] G (put G q0 (.lst [t.w])):=zK.new hq0;have g0:(put G q0 (.lst [t.w])) q0=some (.lst (([t]:List Sy).map Sy.w)):=zV;generalize put G q0 (.lst [t.w])=G0 at k0 g0 ⊢;refine yT ?_
 have loop:∀ (c:Str) (ks:List Sy),t.w=.tup (.str c::ks.map Sy.w)->(c==("say" : Str))=false->(∀ a∈ks,a.size<t.size/\a.deep<n)->1+(ks.map Sy.size).sum<=t.size->ks.length<=2 ->
   zS (xJ K sA 15 ⟨"_law_parts", wV n⟩) XN (.for (.nm 2) (.val (.sl (.var 0) (.yes (.con (.int 1))) .no)) (.cons (.ite (.cmp .NotEq (.ix (.var 0) (.con (.int 0))) (.con (.str "say"))) (.cons (.asg 1 (.bin .Add (.var 1) (.lc (.nm 0) ["_law_one"] [1] (.val (.call 15 (.cons (.var 2) .nil))) (.yes (.cmp .NotIn (.var 0) (.var 1))) (.var 0)))) .nil) .nil) .nil)) { nx:=zE (xJ K sA 15 ⟨"_law_parts", wV n⟩) XN (.cons (.ret (.var 1)) .nil) { nx:=fun _ G'=>Q .non G',rt:=Q },rt:=Q } [some t.w,some (.ref q0),none] G0:=by
  intro c ks ew hc hk hs hl
  ((try dsimp only [zS,zU,zO,zG,zC,zA,yZ,zQ,zX,zP,zW,zZ,zT,zR,zL,zN,zB,zM,gZ,gS,tZ,tS]);try simp only [ew,fD,kP,qS])
  refine ⟨fun i σ G'=>∃ (q:Addr) (ps:List Sy) (v:Option W),σ=[some (.tup (.str c::ks.map Sy.w)),some (.ref q),v]/\G' q=some (.lst (ps.map Sy.w))/\G q=none/\ps≠[]/\ps.length<=1+((ks.take i).map Sy.size).sum/\(∀ p∈ps,p.size<=t.size)/\zK [] G G',⟨q0,[t],none,rfl,g0,hq0,by simp,by simp,fun p hp=>by rw [zzO hp];exact zzR _,k0⟩,fun _ _ _ _ _=>trivial,?_,?_⟩
  .rintro i w σ G1 hw ⟨q,ps,v,rfl,gq,hq,pn,pl,pz,k1⟩;rw [List.getElem?_map] at hw;obtain ⟨a,ha,rfl⟩:=Option.map_eq_some_iff.mp hw;have am:=List.mem_of_getElem? ha;obtain ⟨as,ad⟩:=hk a am
   have et:((ks.take (i+1)).map Sy.size).sum=((ks.take i).map Sy.size).sum+a.size:=by
    rw [List.take_succ,ha];simp
   have le:((ks.take (i+1)).map Sy.size).sum<=(ks.map Sy.size).sum:=by
    have:=List.take_append_drop (i+1) ks;have e2:=congrArg (fun l=>(l.map Sy.size).sum) this;simp only [List.map_append,List.sum_append] at e2;omega
   refine yT ?_
   ((try dsimp only [zS,zU,zO,zG,zC,zA,yZ,zQ,zX,zP,zW,zZ,zT,zR,zL,zN,zB,zM,gZ,gS,tZ,tS]);try simp only [sJ,zD,zH,hc,Bool.not_false,if_true])
   refine yT ?_
   ((try dsimp only [zS,zU,zO,zG,zC,zA,yZ,zQ,zX,zP,zW,zZ,zT,zR,zL,zN,zB,zM,gZ,gS,tZ,tS]);try simp only [e15])
   refine ⟨a,rfl,by omega,ad,fun r qs G2 k2 hr gr qn ql qz=>?_⟩;have gq2:=k2 _ _ (by simp) gq;refine zcH gr ?_;refine ⟨fun j acc G'=>∃ us:List Sy,acc=us.map Sy.w/\us.length<=j/\(∀ u∈us,u∈qs)/\zK [] G2 G',⟨[],rfl,zzR _,by simp,zK.refl⟩,?_,sz _ (by rw [zzM];omega),?_,?_⟩
   .rintro j acc G' ⟨us,rfl,h1,_,k⟩ _;exact ⟨zJ (k _ _ (by simp) gr),by simpa using h1⟩
   .rintro j w acc G' hw ⟨us,rfl,h1,h2,k⟩;rw [List.getElem?_map] at hw;obtain ⟨u,hu,rfl⟩:=Option.map_eq_some_iff.mp hw;have um:=List.mem_of_getElem? hu;have du:=qU (t:=u) (by have:=qz u um;omega);simp only [tF,List.replicate,zzU,zzV,List.cons_append,List.nil_append,gZ,gS,Option.join_some,List.length_cons,List.length_nil]
    ((try dsimp only [zS,zU,zO,zG,zC,zA,yZ,zQ,zX,zP,zW,zZ,zT,zR,zL,zN,zB,zM,gZ,gS,tZ,tS]);try simp only [zD,qD,k _ _ (by simp) gq2])
    refine ⟨⟨jP u,kI ps,by omega⟩,?_⟩;simp only [if_true]
    split
    .refine ⟨us++[u],by simp,by simp;omega,fun y hy=>?_,k⟩;rcases List.mem_append.mp hy with hy|hy
     .exact h2 y hy
     .rw [zzO hy];exact um
    .exact ⟨us,rfl,by omega,h2,k⟩
   .rintro acc G3 ⟨us,rfl,h1,h2,k3⟩ r4 hr4;rw [zzM] at h1;have k4:zK [] G2 (put G3 r4 (.lst (us.map Sy.w))):=k3.trans (zK.new hr4);have g4:(put G3 r4 (.lst (us.map Sy.w))) r4=some (.lst (us.map Sy.w)):=zV;generalize put G3 r4 (.lst (us.map Sy.w))=G4 at k4 g4 ⊢;refine addL (k4 _ _ (by simp) gq2) g4 (by rw [zzM,zzM];omega) fun r5 hr5=>?_;have kz:=k1.trans (k2.trans k4);refine xH (Γ:=xJ K sA 15 ⟨"_law_parts", wV n⟩) (E:=XN) (xH (Γ:=xJ K sA 15 ⟨"_law_parts", wV n⟩) (E:=XN) ?_);refine ⟨r5,ps++us,_,rfl,by rw [zV];simp,kz.none (by simp) hr5,by simp [pn],by rw [zzW,et];omega,fun p hp=>?_,kz.trans (zK.new hr5)⟩;rcases List.mem_append.mp hp with hp|hp
    .exact pz p hp
    .have:=qz p (h2 p hp);omega
  .rintro σ G1 ⟨q,ps,v,rfl,gq,hq,pn,pl,pz,k1⟩;refine yT ?_
   (try dsimp only [zS,zU,zO,zG,zC,zA,yZ,zQ,zX,zP,zW,zZ,zT,zR,zL,zN,zB,zM,gZ,gS,tZ,tS])
   refine h q ps G1 k1 hq gq pn ?_ pz;rw [zzM,List.take_length] at pl;omega
 cases t with
 |say x =>
  ((try dsimp only [zS,zU,zO,zG,zC,zA,yZ,zQ,zX,zP,zW,zZ,zT,zR,zL,zN,zB,zM,gZ,gS,tZ,tS]);try simp only [Sy.w,fD,kP,qS])
  refine ⟨fun i σ G'=>∃ v:Option W,σ=[some (.tup [.str "say", .str x]),some (.ref q0),v]/\G'=G0,⟨none,rfl,rfl⟩,fun _ _ _ _ _=>trivial,?_,?_⟩
  .rintro i w σ G1 hw ⟨v,rfl,rfl⟩;refine yT ?_
   ((try dsimp only [zS,zU,zO,zG,zC,zA,yZ,zQ,zX,zP,zW,zZ,zT,zR,zL,zN,zB,zM,gZ,gS,tZ,tS]);try simp only [sJ,zD,zH,beq_self_eq_true,Bool.not_true,zzB,if_false])
   exact xH (Γ:=xJ K sA 15 ⟨"_law_parts", wV n⟩) (E:=XN) (xH (Γ:=xJ K sA 15 ⟨"_law_parts", wV n⟩) (E:=XN) ⟨_,rfl,rfl⟩)
  .rintro σ G1 ⟨v,rfl,rfl⟩;refine yT ?_
   (try dsimp only [zS,zU,zO,zG,zC,zA,yZ,zQ,zX,zP,zW,zZ,zT,zR,zL,zN,zB,zM,gZ,gS,tZ,tS])
   exact h q0 [.say x] G1 k0 hq0 g0 (by simp) (zzR _) (fun p hp=>by rw [zzO hp];exact zzR _)
 |neg a =>
  simp only [Sy.deep] at td;exact loop "not" [a] rfl (by decide +kernel) (fun y hy=>by rw [zzO hy];exact ⟨Nat.lt_succ_self _,by omega⟩) (by simp [Sy.size];omega) (by simp)
 |two k a b =>
  simp only [Sy.deep] at td;refine loop (kw k) [a,b] rfl (zcx k).1 (fun y hy=>?_) (by simp [Sy.size];omega) (by simp);rcases List.mem_cons.mp hy with rfl|hy
  .exact ⟨by simp only [Sy.size];omega,by omega⟩
  .rw [zzO hy];exact ⟨by simp only [Sy.size];omega,by omega⟩
end
def nQ:Sy->List Str
 | .say _=>[]
 | .neg _=>["not"]
 | .two .an _ _=>["left", "right"]
 | .two .or _ _=>["which"]
 | .two .im _ _=>["if"]
theorem zbB (t:Sy):(nQ t).length<=2:=by
 cases t with
 |two k a b=>cases k<;>simp [nQ]
 |_=>simp [nQ]
def dic5 (p1 p2 p3 p4 p5:Addr):List (yE×W):=[(.inr "and", .ref p1),(.inr "or", .ref p2),(.inr "if", .ref p3),(.inr "not", .ref p4),(.inr "say", .ref p5)]
structure Five (G:Hw) (p1 p2 p3 p4 p5:Addr):Prop where
 a:G p1=some (.lst ((["left", "right"]:List Str).map .str))
 b:G p2=some (.lst ((["which"]:List Str).map .str))
 c:G p3=some (.lst ((["if"]:List Str).map .str))
 d:G p4=some (.lst ((["not"]:List Str).map .str))
 e:G p5=some (.lst (([]:List Str).map .str))
theorem Five.at {G:Hw} {p1 p2 p3 p4 p5 pd:Addr} (f:Five G p1 p2 p3 p4 p5) (h:G pd=some (.dic (dic5 p1 p2 p3 p4 p5))) (t:Sy) {Q:Q3} (q:∀ p,p∈[p1,p2,p3,p4,p5]->G p=some (.lst ((nQ t).map .str))->Q (.ref p) G):vP t.w (.int 0) G fun w G1=>vP (.ref pd) w G1 Q:=by
 have go:∀ (x:Str) (r:List W) (p:Addr),t.w=.tup (.str x::r)->tG (dic5 p1 p2 p3 p4 p5) (.inr x)=some (.ref p)->p∈[p1,p2,p3,p4,p5]->G p=some (.lst ((nQ t).map .str))->vP t.w (.int 0) G fun w G1=>vP (.ref pd) w G1 Q:=by
  intro x r p ew eg hp g;rw [ew,sJ];simp only [vP,h,pT,eg];exact q p hp g
 cases t with
 |say x=>exact go "say" _ p5 rfl rfl (by simp) f.e
 |neg a=>exact go "not" _ p4 rfl rfl (by simp) f.d
 |two k a b =>
  cases k with
  |an=>exact go "and" _ p1 rfl rfl (by simp) f.a
  |or=>exact go "or" _ p2 rfl rfl (by simp) f.b
  |im=>exact go "if" _ p3 rfl rfl (by simp) f.c
section
variable {K : yM} {sA : Addr} {Γ : Ctx3}
theorem mk5 {d l:Addr} {σ:jE} {G:Hw} {Q:Q3} (D:xO G d l) (h:∀ pd p1 p2 p3 p4 p5 G',zK [] G G'->xO G' d l->(∀ p∈[pd,p1,p2,p3,p4,p5],p∉[d,l])->G' pd=some (.dic (dic5 p1 p2 p3 p4 p5))->Five G' p1 p2 p3 p4 p5->Q (.ref pd) G') :
  (zG Γ XN (.dct ["and", "or", "if", "not", "say"] (.cons (.lst (.cons (.con (.str "left")) (.cons (.con (.str "right")) .nil))) (.cons (.lst (.cons (.con (.str "which")) .nil)) (.cons (.lst (.cons (.con (.str "if")) .nil)) (.cons (.lst (.cons (.con (.str "not")) .nil)) (.cons (.lst .nil) .nil))))))).e σ G Q:=by
 have z0:=sz 0 (by decide);have z1:=sz 1 (by decide);have z2:=sz 2 (by decide)
 ((try dsimp only [zS,zU,zO,zG,zC,zA,yZ,zQ,zX,zP,zW,zZ,zT,zR,zL,zN,zB,zM,gZ,gS,tZ,tS]);try simp only [zzC,zzL,zzA,Nat.reduceAdd,z0,z1,z2,true_and])
 intro pd hpd;have k0:zK [] G (put G pd (.dic [])):=zK.new hpd;have g0:(put G pd (.dic [])) pd=some (.dic []):=zV;have nd:=wX D hpd;have D0:=wD (o:=.dic []) hpd D;generalize put G pd (.dic [])=G0 at k0 g0 D0 ⊢;have one:∀ {G1:Hw} {p:Addr} (ws:List W),G1 p=none->xO G1 d l->p∉[d,l]/\zK [] G1 (put G1 p (.lst ws))/\(put G1 p (.lst ws)) p=some (.lst ws)/\xO (put G1 p (.lst ws)) d l:=fun ws hp D1=>⟨wX D1 hp,zK.new hp,zV,wD hp D1⟩;intro p1 h1;obtain ⟨n1,k1,g1,D1⟩:=one [.str "left", .str "right"] h1 D0;generalize put G0 p1 (.lst [.str "left", .str "right"])=G1 at k1 g1 D1 ⊢;intro p2 h2;obtain ⟨n2,k2,g2,D2⟩:=one [.str "which"] h2 D1;generalize put G1 p2 (.lst [.str "which"])=G2 at k2 g2 D2 ⊢;intro p3 h3;obtain ⟨n3,k3,g3,D3⟩:=one [.str "if"] h3 D2;generalize put G2 p3 (.lst [.str "if"])=G3 at k3 g3 D3 ⊢;intro p4 h4;obtain ⟨n4,k4,g4,D4⟩:=one [.str "not"] h4 D3;generalize put G3 p4 (.lst [.str "not"])=G4 at k4 g4 D4 ⊢;intro p5 h5;obtain ⟨n5,k5,g5,D5⟩:=one [] h5 D4;generalize put G4 p5 (.lst [])=G5 at k5 g5 D5 ⊢;have gd:=(k1.trans (k2.trans (k3.trans (k4.trans k5)))) _ _ (by simp) g0;refine ⟨gd,?_⟩;show Q (.ref pd) (put G5 pd (.dic (dic5 p1 p2 p3 p4 p5)))
 have ne:∀ {p:Addr} {xs:List W},G5 p=some (.lst xs)->(put G5 pd (.dic (dic5 p1 p2 p3 p4 p5))) p=some (.lst xs):=fun e=>by
  rw [xR (fun z=>by rw [z,gd] at e;cases e)];exact e
 refine h pd p1 p2 p3 p4 p5 _ (qP (k0.trans (k1.trans (k2.trans (k3.trans (k4.trans k5))))) hpd) (sC nd D5) ?_ zV ⟨ne ((k2.trans (k3.trans (k4.trans k5))) _ _ (by simp) g1),ne ((k3.trans (k4.trans k5)) _ _ (by simp) g2),ne ((k4.trans k5) _ _ (by simp) g3),ne (k5 _ _ (by simp) g4),ne g5⟩;intro p hp;simp only [List.mem_cons,List.not_mem_nil,or_false] at hp;rcases hp with rfl|rfl|rfl|rfl|rfl|rfl<;>assumption
end
theorem ltS1 {a b:W} (h:(ltW a b).isSome=true):(pI [a] [b]).isSome=true:=by
 simp only [pI]
 split
 .rfl
 .exact h
theorem ltS2 {a b c d:W} (h:(ltW a b).isSome=true) (h':(ltW c d).isSome=true):(pI [a,c] [b,d]).isSome=true:=by
 rw [pI]
 split
 .exact ltS1 h'
 .exact h
theorem nX {x:Str} {l l':List W} (h:(pI l l').isSome=true):(ltW (.tup (.str x::l)) (.tup (.str x::l'))).isSome=true:=by
 rw [ltW,pI,if_pos (by simp [jK])];exact h
theorem qA {x y:Str} {l l':List W} (h:(x==y)=false):(ltW (.tup (.str x::l)) (.tup (.str y::l'))).isSome=true:=by
 rw [ltW,pI,if_neg (by simp [jK,h]),ltW];rfl
theorem zhR {j k:Op} (h:j≠k):((kw j:Str)==kw k)=false:=by cases j<;>cases k<;>first|exact absurd rfl h|decide +kernel
theorem Sy.lt:∀ a b:Sy,(ltW a.w b.w).isSome=true
 | .say x,.say y=>nX (ltS1 (by rw [ltW];rfl))
 | .neg a,.neg b=>nX (ltS1 (Sy.lt a b))
 | .two j a c,.two k b d=>by
  by_cases e:j=k
  .rw [e];exact nX (ltS2 (Sy.lt a b) (Sy.lt c d))
  .exact qA (zhR e)
 | .say _,.neg _=>qA (by decide +kernel)
 | .neg _,.say _=>qA (by decide +kernel)
 | .say _,.two k _ _=>qA (by cases k<;>decide +kernel)
 | .neg _,.two k _ _=>qA (by cases k<;>decide +kernel)
 | .two k _ _,.say _=>qA (zcx k).1
 | .two k _ _,.neg _=>qA (zcx k).2
theorem dw_lt (a b:Str×Sy):(ltW (dw a) (dw b)).isSome=true:=by
 unfold dw
 cases h:(a.1==b.1) with
 |true=>rw [eq_of_beq h];exact nX (ltS1 (Sy.lt a.2 b.2))
 |false=>exact qA h
theorem zeQ {ds:List (Str×Sy)} (h:ds.length<64) (hs:∀ x∈ds,x.2.size<=20):Srtb (ds.map dw) :=
 ⟨uQ ds,fun x hx y hy=>by
  obtain ⟨a,_,rfl⟩:=zzP hx;obtain ⟨b,_,rfl⟩:=zzP hy;exact dw_lt a b,by rw [zzM];exact h,Nat.lt_of_le_of_lt (uN hs) (by decide),⟨"str", fun x hx=>by obtain ⟨a,_,rfl⟩:=zzP hx;rfl⟩⟩
theorem zeP {ts:List Sy} (h:ts.length<64) (hs:∀ x∈ts,x.size<=20):Srtb (ts.map Sy.w) :=
 ⟨kI ts,fun x hx y hy=>by
  obtain ⟨a,_,rfl⟩:=zzP hx;obtain ⟨b,_,rfl⟩:=zzP hy;exact Sy.lt a b,by rw [zzM];exact h,Nat.lt_of_le_of_lt (uO hs) (by decide),⟨"str", fun x hx=>by obtain ⟨a,_,rfl⟩:=zzP hx;cases a<;>rfl⟩⟩
theorem pick {α:Type} (f:α->W) {xs:List α}:∀ {ys:List W},(∀ y∈ys,y∈xs.map f)->∃ es:List α,ys=es.map f/\∀ e∈es,e∈xs
 | [],_=>⟨[],rfl,by simp⟩
 |y::ys,h=>by
  obtain ⟨es,e1,e2⟩:=pick f (ys:=ys) fun z hz=>h z (List.mem_cons_of_mem _ hz);obtain ⟨x,hx,ex⟩:=zzP (h y zzT);refine ⟨x::es,by rw [e1,zzU,ex],fun z hz=>?_⟩;rcases List.mem_cons.mp hz with rfl|hz
  .exact hx
  .exact e2 z hz
section
variable {K : yM} {sA : Addr}
theorem zbv {n:Nat} (hn:20<=n) {ws:List W} {G:Hw} {Q:Q3} (h:sS ws G Q XN):zE (wT K sA n) XN qN { nx:=fun _ G'=>Q .non G',rt:=Q } (yJ vZ ws) G:=by
 obtain ⟨d,l,p,ps,rfl,S,h⟩:=h;have e19:(wT K sA n).fn[19]?=some ⟨"_law_some", nM⟩:=cX 19 hn rfl;have z0:=sz 0 (by decide);have z2:=sz 2 (by decide);have few:=S.few;show zE (wT K sA n) XN qN { nx:=fun _ G'=>Q .non G',rt:=Q } [some (.ref d),some (.ref p),none,none,none] G;simp only [qN];refine yT ?_;refine mk5 S.deal fun pd p1 p2 p3 p4 p5 G1 k1 D1 off gd F=>?_;refine yT ?_
 ((try dsimp only [zS,zU,zO,zG,zC,zA,yZ,zQ,zX,zP,zW,zZ,zT,zR,zL,zN,zB,zM,gZ,gS,tZ,tS]);try simp only [List.length_nil,z0,true_and])
 intro q0 hq0;have k2:zK [] G1 (put G1 q0 (.lst [])):=zK.new hq0;have g2:(put G1 q0 (.lst [])) q0=some (.lst (([]:List (Str×Sy)).map dw)):=zV;generalize put G1 q0 (.lst [])=G2 at k2 g2 ⊢;have gp1:=k1 _ _ (by simp) S.is;have gp2:=k2 _ _ (by simp) gp1;refine yT ?_
 (try dsimp only [zS,zU,zO,zG,zC,zA,yZ,zQ,zX,zP,zW,zZ,zT,zR,zL,zN,zB,zM,gZ,gS,tZ,tS])
 refine zcH gp2 ?_;refine ⟨fun i σ G'=>∃ (q:Addr) (ds:List (Str×Sy)) (v:Option W),σ=[some (.ref d),some (.ref p),some (.ref pd),some (.ref q),v]/\G' q=some (.lst (ds.map dw))/\G1 q=none/\(∀ x∈ds,x.2∈ps)/\ds.length<=2 * i/\zK [] G1 G',⟨q0,[],none,rfl,g2,hq0,by simp,by simp,k2⟩,fun i σ G' z _=>by obtain ⟨_,_,_,_,_,_,_,_,z⟩:=z;exact zJ (z _ _ (by simp) gp1),?_,?_⟩
 .rintro i w σ G' hw ⟨q,ds,v,rfl,gq,hq,hd,hl,k'⟩;have hi:i<ps.length:=by have:=(List.getElem?_eq_some_iff.mp hw).1;simpa using this
  rw [List.getElem?_map] at hw;obtain ⟨s,hs,rfl⟩:=Option.map_eq_some_iff.mp hw;have sm:=List.mem_of_getElem? hs;have F':Five G' p1 p2 p3 p4 p5:=⟨k' _ _ (by simp) F.a,k' _ _ (by simp) F.b,k' _ _ (by simp) F.c,k' _ _ (by simp) F.d,k' _ _ (by simp) F.e⟩;have wl:=zbB s;refine yT ?_
  (try dsimp only [zS,zU,zO,zG,zC,zA,yZ,zQ,zX,zP,zW,zZ,zT,zR,zL,zN,zB,zM,gZ,gS,tZ,tS])
  refine F'.at (k' _ _ (by simp) gd) s fun pw _ gw=>?_;refine zcH gw ?_;refine ⟨fun j acc G3=>acc=((nQ s).take j).map (fun x=>dw (x,s))/\zK [] G' G3,⟨rfl,zK.refl⟩,?_,sz _ (by rw [zzM];omega),?_,?_⟩
  .rintro j acc G3 ⟨rfl,k3⟩ _;exact ⟨zJ (k3 _ _ (by simp) gw),by simp;omega⟩
  .rintro j w acc G3 hw ⟨rfl,k3⟩;rw [List.getElem?_map] at hw;obtain ⟨x,hx,rfl⟩:=Option.map_eq_some_iff.mp hw;simp only [tF,List.replicate,zzU,zzV,List.cons_append,List.nil_append,gZ,gS,tZ,tS,Option.join_some,List.length_cons,List.length_nil]
   ((try dsimp only [zS,zU,zO,zG,zC,zA,yZ,zQ,zX,zP,zW,zZ,zT,zR,zL,zN,zB,zM,gZ,gS,tZ,tS]);try simp only [if_true,zzC,zzL,zzA,Nat.reduceAdd,z2,true_and])
   refine ⟨?_,k3⟩;rw [List.take_succ,hx];simp [dw]
  .rintro acc G3 ⟨rfl,k3⟩ r4 hr4;rw [zzM,List.take_length];have k4:zK [] G' (put G3 r4 (.lst (((nQ s).map fun x=>(x,s)).map dw))):=k3.trans (zK.new hr4);have g4:(put G3 r4 (.lst (((nQ s).map fun x=>(x,s)).map dw))) r4=some (.lst (((nQ s).map fun x=>(x,s)).map dw)):=zV;have em:(nQ s).map (fun x=>dw (x,s))=((nQ s).map fun x=>(x,s)).map dw:=by rw [List.map_map];rfl
   rw [em];generalize put G3 r4 (.lst (((nQ s).map fun x=>(x,s)).map dw))=G4 at k4 g4 ⊢;refine addL (k4 _ _ (by simp) gq) g4 (by simp only [zzM];omega) fun r5 hr5=>?_;refine xH (Γ:=wT K sA n) (E:=XN) ?_;have kz:=k'.trans k4;refine ⟨r5,ds++(nQ s).map fun x=>(x,s),_,rfl,by rw [zV];simp,kz.none (by simp) hr5,fun x hx=>?_,by simp;omega,kz.trans (zK.new hr5)⟩;rcases List.mem_append.mp hx with hx|hx
   .exact hd x hx
   .obtain ⟨y,_,rfl⟩:=zzP hx;exact sm
 .rintro σ G' ⟨q,ds,v,rfl,gq,hq,hd,hl,k'⟩;rw [zzM] at hl;refine yT ?_
  ((try dsimp only [zS,zU,zO,zG,zC,zA,yZ,zQ,zX,zP,zW,zZ,zT,zR,zL,zN,zB,zM,gZ,gS,tZ,tS]);try simp only [e19])
  refine ⟨d,l,q,ds.map dw,rfl,wC k' D1,wX D1 hq,gq,zeQ (by omega) (fun x hx=>S.sz _ (hd x hx)),fun ys G3 hy yl k3 D3=>?_⟩;obtain ⟨es,rfl,he⟩:=pick dw hy;rw [zzM,zzM] at yl;exact h es G3 (fun x hx=>hd x (he x hx)) (by omega) ((wY (k1.trans k')).trans k3) D3
end
theorem zb7:∀ ns:List Str,yA (ns.map W.str)=true
 | []=>rfl
 |x::l=>by show (jD (.str x)&&yA (l.map W.str))=true;rw [zb7 l];rfl
theorem zij {G:Hw} {p q:Addr} {xs:List W} (hp:G p=some (.lst xs)) (hq:G q=some (.lst [])) (pu:yA xs=true):eqG G (.ref p) (.ref q)=some xs.isEmpty:=by
 simp only [eqG,zJ hp,zJ hq];rw [if_pos (by rw [pu];simp [yA,yC])];cases xs<;>simp [qX]
theorem ziu {Γ:Ctx3} {D:End3} {σ:jE} {G:Hw} {i:Nat} {a b:IE} (h:(zG Γ XN a).e σ G fun x G1=>(zG Γ XN b).e σ G1 fun y G2=>vP x y G2 fun w G3=>D.nx (σ.set i (some w)) G3):zS Γ XN (.asg i (.ix a b)) D σ G:=h
section
variable {K : yM} {sA : Addr}
theorem zeb {n:Nat} (hn:21<=n) {ws:List W} {G:Hw} {Q:Q3} (h:bX ws G Q XN):zE (wT K sA n) XN xA { nx:=fun _ G'=>Q .non G',rt:=Q } (yJ tP ws) G:=by
 obtain ⟨d,l,p,ps,rfl,S,h⟩:=h;have e1:(wT K sA n).fn[1]?=some fS:=cX 1 hn rfl;have e11:(wT K sA n).fn[11]?=some tY:=cX 11 hn rfl;have z0:=sz 0 (by decide);have z2:=sz 2 (by decide);have z3:=sz 3 (by decide);have few:=S.few;have pos:0<ps.length:=List.length_pos_iff.mpr S.ne;show zE (wT K sA n) XN xA { nx:=fun _ G'=>Q .non G',rt:=Q } [some (.ref d),some (.ref p),none,none,none,none,none] G;simp only [xA];refine yT ?_
 ((try dsimp only [zS,zU,zO,zG,zC,zA,yZ,zQ,zX,zP,zW,zZ,zT,zR,zL,zN,zB,zM,gZ,gS,tZ,tS]);try simp only [e1,e11,tJ,tK,S.is,zzM])
 refine ⟨d,l,ps.length,rfl,S.deal,⟨by omega,by omega⟩,fun i G1 i0 i1 k1 D1=>?_⟩;have S1:=S.keep k1 D1;obtain ⟨s,sm,es⟩:=zit i0 i1;have ss:=S.sz s sm;refine pS (zJ S1.is) ?_;rw [es];refine yT ?_
 ((try dsimp only [zS,zU,zO,zG,zC,zA,yZ,zQ,zX,zP,zW,zZ,zT,zR,zL,zN,zB,zM,gZ,gS,tZ,tS]);try simp only [e11])
 refine ⟨d,l,3,rfl,D1,by decide,fun way G2 w0 w1 k2 D2=>?_⟩;have kk:=k1.trans k2;refine yT ?_
 ((try dsimp only [zS,zU,zO,zG,zC,zA,yZ,zQ,zX,zP,zW,zZ,zT,zR,zL,zN,zB,zM,gZ,gS,tZ,tS]);try simp only [zD,jH])
 by_cases hw0:way=0
 .rw [decide_eq_true hw0,if_pos rfl];refine yT ?_
  (try dsimp only [zS,zU,zO,zG,zC,zA,yZ,zQ,zX,zP,zW,zZ,zT,zR,zL,zN,zB,zM,gZ,gS,tZ,tS])
  exact h .no G2 trivial kk D2
 rw [decide_eq_false hw0,if_neg zzN];refine xH ?_;refine yT ?_;refine ziu (mk5 D2 fun pd p1 p2 p3 p4 p5 G3 k3 D3 off gd F=>?_);show vP s.w (.int 0) G3 (fun w G1=>vP (.ref pd) w G1 _);refine F.at gd s fun pw hpw gw=>?_;have npw:pw∉[d,l]:=off pw (List.mem_cons_of_mem _ hpw);have wl:=zbB s;have kk3:=kk.trans (wY k3);refine yT ?_
 ((try dsimp only [zS,zU,zO,zG,zC,zA,yZ,zQ,zX,zP,zW,zZ,zT,zR,zL,zN,zB,zM,gZ,gS,tZ,tS]);try simp only [zD,jH])
 have rest:∀ G4:Hw,zK [] G3 G4->zE (wT K sA n) XN (tl (tl (tl (tl (tl xA))))) { nx:=fun _ G'=>Q .non G',rt:=Q } [some (.ref d),some (.ref p),some s.w,some (.int way),some (.ref pw),none,none] G4:=by
  intro G4 k4;have D4:=wC k4 D3;have gw4:=k4 _ _ (by simp) gw;have kk4:=kk3.trans (wY k4);simp only [xA,tl];refine yT ?_
  have beg:∀ (c:Str) (r:List W),s.w=.tup (.str c::r)->([W.str "and", .str "or", .str "if"].any fun w=>jK w (.str c))=false->zS (wT K sA n) XN (.ite (.cmp .NotIn (.ix (.var 2) (.con (.int 0))) (.tup (.cons (.con (.str "and")) (.cons (.con (.str "or")) (.cons (.con (.str "if")) .nil))))) (.cons (.ret (.tup (.cons (.con (.str "answer")) (.cons (.tup (.cons (.con (.str "begin")) (.cons (.var 2) .nil))) (.cons (.var 2) .nil))))) .nil) .nil) { nx:=zE (wT K sA n) XN (tl (tl (tl (tl (tl (tl xA)))))) { nx:=fun _ G'=>Q .non G',rt:=Q },rt:=Q } [some (.ref d),some (.ref p),some s.w,some (.int way),some (.ref pw),none,none] G4:=by
   intro c r ew hc
   ((try dsimp only [zS,zU,zO,zG,zC,zA,yZ,zQ,zX,zP,zW,zZ,zT,zR,zL,zN,zB,zM,gZ,gS,tZ,tS]);try simp only [ew,sJ,zzC,zzL,zzA,Nat.reduceAdd,z3,true_and,zD,qD])
   refine ⟨⟨rfl,rfl,by simp [yC,dep]⟩,?_⟩;simp only [if_true,hc,Bool.not_false];refine yT ?_
   ((try dsimp only [zS,zU,zO,zG,zC,zA,yZ,zQ,zX,zP,zW,zZ,zT,zR,zL,zN,zB,zM,gZ,gS,tZ,tS]);try simp only [zzC,zzL,zzA,Nat.reduceAdd,z2,z3,true_and])
   have:=h (.ans "begin" s s) G4 ⟨ss,ss⟩ kk4 D4;simp only [Mv.w,ew] at this;exact this
  simp only [xA,tl] at beg
  cases s with
  |say x=>exact beg "say" _ rfl (by decide +kernel)
  |neg a=>exact beg "not" _ rfl (by decide +kernel)
  |two k a b =>
   have inn:([W.str "and", .str "or", .str "if"].any fun w=>jK w (.str (kw k)))=true:=by cases k<;>decide +kernel
   ((try dsimp only [zS,zU,zO,zG,zC,zA,yZ,zQ,zX,zP,zW,zZ,zT,zR,zL,zN,zB,zM,gZ,gS,tZ,tS]);try simp only [Sy.w,sJ,zzC,zzL,zzA,Nat.reduceAdd,z3,true_and,zD,qD])
   refine ⟨⟨rfl,rfl,by simp [yC,dep]⟩,?_⟩;simp only [if_true,inn,Bool.not_true,zzB,if_false];refine xH ?_;refine yT ?_;have wp:1<=(nQ (.two k a b)).length:=by cases k<;>simp [nQ]
   ((try dsimp only [zS,zU,zO,zG,zC,zA,yZ,zQ,zX,zP,zW,zZ,zT,zR,zL,zN,zB,zM,gZ,gS,tZ,tS]);try simp only [e1,e11,tJ,tK,gw4,zzM])
   refine ⟨d,l,(nQ (.two k a b)).length,rfl,D4,⟨by omega,by omega⟩,fun j G5 j0 j1 k5 D5=>?_⟩;obtain ⟨x,hx,ex⟩:=za8 j0 j1;refine pS (zJ (k5 _ _ npw gw4)) ?_;rw [ex];have kk5:=kk4.trans k5;simp only [Sy.size] at ss;refine yT ?_
   ((try dsimp only [zS,zU,zO,zG,zC,zA,yZ,zQ,zX,zP,zW,zZ,zT,zR,zL,zN,zB,zM,gZ,gS,tZ,tS]);try simp only [e11,xB])
   intro pq hpq;have D6:=wD (o:=.dic []) hpq D5;have g6:(put G5 pq (.dic [])) pq=some (.dic []):=zV;have k6:zK [] G5 (put G5 pq (.dic [])):=zK.new hpq;have npq:=wX D5 hpq;generalize put G5 pq (.dic [])=G6 at D6 g6 k6 ⊢;refine ⟨d,l,2,rfl,D6,by decide,fun u G7 u0 u1 k7 D7=>?_⟩;refine ⟨k7 _ _ npq g6,rfl,?_⟩;have eq:zc3 ["left", "right", "if", "which"] [.int 1,.int 2,.int 2,.int (1+u)]=[(.inr "left", .int 1),(.inr "right", .int 2),(.inr "if", .int 2),(.inr "which", .int (1+u))]:=rfl
   first|rw [eq]|skip
   have kk7:zK [d,l] G (put G7 pq (.dic [(.inr "left", .int 1),(.inr "right", .int 2),(.inr "if", .int 2),(.inr "which", .int (1+u))])):=by
    have kz:=kk5.trans ((wY k6).trans k7);intro z o hz ez;have:=kz z o hz ez;rw [xR (fun y=>?_)]
    .exact this
    .rw [y,k7 _ _ npq g6] at this;have h5:G5 z=some o:=kk5 z o hz ez;rw [y,hpq] at h5;cases h5
   have D8:=sC (o:=.dic [(.inr "left", .int 1),(.inr "right", .int 2),(.inr "if", .int 2),(.inr "which", .int (1+u))]) npq D7;have g8:(put G7 pq (.dic [(.inr "left", .int 1),(.inr "right", .int 2),(.inr "if", .int 2),(.inr "which", .int (1+u))])) pq=some (.dic [(.inr "left", .int 1),(.inr "right", .int 2),(.inr "if", .int 2),(.inr "which", .int (1+u))]):=zV;generalize put G7 pq (.dic [(.inr "left", .int 1),(.inr "right", .int 2),(.inr "if", .int 2),(.inr "which", .int (1+u))])=G8 at kk7 D8 g8 ⊢
   have val:∃ v:Int,(v=1\/v=2)/\tG [(.inr "left", W.int 1),(.inr "right", .int 2),(.inr "if", .int 2),(.inr "which", .int (1+u))] (.inr x)=some (.int v):=by
    have hu:1+u=1\/1+u=2:=by omega
    cases k with
    |an =>
     simp only [nQ,List.mem_cons,List.not_mem_nil,or_false] at hx;rcases hx with rfl|rfl
     .exact ⟨1,.inl rfl,rfl⟩
     .exact ⟨2,.inr rfl,rfl⟩
    |or =>
     simp only [nQ,List.mem_cons,List.not_mem_nil,or_false] at hx;subst hx;exact ⟨1+u,hu,rfl⟩
    |im =>
     simp only [nQ,List.mem_cons,List.not_mem_nil,or_false] at hx;subst hx;exact ⟨2,.inr rfl,rfl⟩
   obtain ⟨v,hv,ev⟩:=val;simp only [vP,g8,pT,ev];refine yT ?_
   ((try dsimp only [zS,zU,zO,zG,zC,zA,yZ,zQ,zX,zP,zW,zZ,zT,zR,zL,zN,zB,zM,gZ,gS,tZ,tS]);try simp only [zzC,zzL,zzA,Nat.reduceAdd,z2,z3,true_and])
   rcases hv with rfl|rfl
   .rw [ix1];exact h (.ans x (.two k a b) a) G8 ⟨ss,by omega⟩ kk7 D8
   .rw [ix2];exact h (.ans x (.two k a b) b) G8 ⟨ss,by omega⟩ kk7 D8
 simp only [xA,tl] at rest
 by_cases hw1:way=1
 .simp only [decide_eq_true hw1,if_true];refine ⟨z0,fun pe hpe=>?_⟩;have k4:zK [] G3 (put G3 pe (.lst [])):=zK.new hpe;have g4:(put G3 pe (.lst [])) pe=some (.lst []):=zV;generalize put G3 pe (.lst [])=G4 at k4 g4 ⊢;have gw4:=k4 _ _ (by simp) gw;have D4:=wC k4 D3;simp only [zij gw4 g4 (zb7 _)]
  cases hn':((nQ s).map W.str).isEmpty with
  |true =>
   simp only [Bool.not_true,zzB,if_false];refine xH ?_;exact rest G4 k4
  |false =>
   simp only [Bool.not_false,if_true];refine yT ?_
   have wp:1<=(nQ s).length:=by
    cases hq:nQ s with
    |nil=>rw [hq] at hn';cases hn'
    |cons _ _=>simp
   ((try dsimp only [zS,zU,zO,zG,zC,zA,yZ,zQ,zX,zP,zW,zZ,zT,zR,zL,zN,zB,zM,gZ,gS,tZ,tS]);try simp only [e1,e11,tJ,tK,gw4,zzM,zzC,zzL,zzA,Nat.reduceAdd,z3,true_and])
   refine ⟨d,l,(nQ s).length,rfl,D4,⟨by omega,by omega⟩,fun j G5 j0 j1 k5 D5=>?_⟩;obtain ⟨x,hx,ex⟩:=za8 j0 j1;refine pS (zJ (k5 _ _ npw gw4)) ?_;rw [ex];exact h (.dbt x s) G5 ss (kk3.trans ((wY k4).trans k5)) D5
 .simp only [decide_eq_false hw1,zzB,if_false];refine xH ?_;exact rest G3 zK.refl
end
theorem bJ {α:Type} {xs:List α} {f g:α->W} {G:Hw} {turn:W->Hw->(Option W->Hw->Prop)->Prop} {Q:Q3} (hl:xs.length<=3000) (step:∀ (x:α) G' (k:Option W->Hw->Prop),k (some (g x)) G'->turn (f x) G' k)
  (fin:∀ r,G r=none->Q (.ref r) (put G r (.lst (xs.map g)))):lcR (xs.map f) (fun _=>True) G turn Q:=by
 refine ⟨fun i acc G'=>G'=G/\acc=(xs.take i).map g,⟨rfl,rfl⟩,?_,sz _ (by rw [zzM];exact hl),?_,?_⟩
 .rintro i acc G' ⟨_,rfl⟩ _;exact ⟨trivial,by simp;omega⟩
 .rintro i w acc G' hw ⟨rfl,rfl⟩;rw [List.getElem?_map] at hw;obtain ⟨x,hx,rfl⟩:=Option.map_eq_some_iff.mp hw;refine step x _ _ ⟨rfl,?_⟩;rw [List.take_succ,hx];simp
 .rintro acc G' ⟨rfl,rfl⟩ r hr;rw [zzM,List.take_length];exact fin r hr
def flat (cs:List Cd):Prop:=∀ c∈cs,c.ok/\c.deep=0
theorem uV {a b:List Cd} (ha:flat a) (hb:flat b):flat (a++b):=fun c hc=>(List.mem_append.mp hc).elim (ha c) (hb c)
theorem at_cd {cs:List Cd} {i:Int} (h0:0<=i) (h1:i<cs.length):∃ x∈cs,tB (cs.map Cd.w) i=some x.w:=by
 have hi:i.toNat<cs.length:=by omega
 refine ⟨cs[i.toNat],List.getElem_mem hi,?_⟩;unfold tB fT;rw [if_pos h0,zzM,if_pos h1];show (cs.map Cd.w)[i.toNat]?=_;rw [List.getElem?_map,List.getElem?_eq_getElem hi];rfl
section
variable {K : yM} {sA : Addr}
theorem zea {n:Nat} (hn:22<=n) {ws:List W} {G:Hw} {Q:Q3} (h:bY ws G Q XN):zE (wT K sA n) XN jL { nx:=fun _ G'=>Q .non G',rt:=Q } (yJ tQ ws) G:=by
 obtain ⟨d,l,t,m,rfl,D,to,mo,h⟩:=h;have e1:(wT K sA n).fn[1]?=some fS:=cX 1 hn rfl;have e11:(wT K sA n).fn[11]?=some tY:=cX 11 hn rfl;have z1:=sz 1 (by decide);have z2:=sz 2 (by decide);have z3:=sz 3 (by decide);obtain ⟨f1,f2,f3,f4⟩:=to.few;have q1:(("doubt" : Str) == "answer")=false:=by decide +kernel
 have q2:(("answer" : Str) == "doubt")=false:=by decide +kernel
 show zE (wT K sA n) XN jL { nx:=fun _ G'=>Q .non G',rt:=Q } [some (.ref d),some t.w,some m.w,none] G
 have last:∀ (q:Addr) (cs:List Cd) (G':Hw),zK [] G G'->G' q=some (.lst (cs.map Cd.w))->flat cs->cs.length<=1000->zE (wT K sA n) XN (tl (tl (tl (tl jL)))) { nx:=fun _ G'=>Q .non G',rt:=Q } [some (.ref d),some t.w,some m.w,some (.ref q)] G':=by
  intro q cs G' k gq fc fl;simp only [jL,tl];refine yT ?_
  ((try dsimp only [zS,zU,zO,zG,zC,zA,yZ,zQ,zX,zP,zW,zZ,zT,zR,zL,zN,zB,zM,gZ,gS,tZ,tS]);try simp only [zzC,zzL,zzA,z1,true_and])
  intro r hr;have k1:zK [] G' (put G' r (.lst [.tup [.str "any"]])):=zK.new hr;have g1:(put G' r (.lst [.tup [.str "any"]])) r=some (.lst (([.any]:List Cd).map Cd.w)):=zV;generalize put G' r (.lst [.tup [.str "any"]])=G1 at k1 g1 ⊢;refine addL (k1 _ _ (by simp) gq) g1 (by simp;omega) fun r2 hr2=>?_;rw [← List.map_append];have k2:zK [] G1 (put G1 r2 (.lst ((cs++[Cd.any]).map Cd.w))):=zK.new hr2;have g2:(put G1 r2 (.lst ((cs++[Cd.any]).map Cd.w))) r2=some (.lst ((cs++[Cd.any]).map Cd.w)):=zV;generalize put G1 r2 (.lst ((cs++[Cd.any]).map Cd.w))=G2 at k2 g2 ⊢;have kz:=k.trans (k1.trans k2);have D2:=wC kz D;have gq2:=(k1.trans k2) _ _ (by simp) gq;have nr:r2∉[d,l]:=wX (wC (k.trans k1) D) hr2;simp only [e1,e11,tJ,tK,gq2,zzM,xB];refine ⟨d,l,(cs.length:Int)+1,rfl,D2,⟨by omega,by omega⟩,fun j G3 j0 j1 k3 D3=>?_⟩;obtain ⟨x,hx,ex⟩:=at_cd (cs:=cs++[Cd.any]) j0 (by simp;omega);refine pS (zJ (k3 _ _ nr g2)) ?_;rw [ex];have fx:=uV fc (b:=[Cd.any]) (fun c hc=>by rw [zzO hc];exact ⟨trivial,rfl⟩) x hx;exact h x G3 fx.1 fx.2 ((wY kz).trans k3) D3
 simp only [jL,tl] at last;simp only [jL];refine yT ?_
 ((try dsimp only [zS,zU,zO,zG,zC,zA,yZ,zQ,zX,zP,zW,zZ,zT,zR,zL,zN,zB,zM,gZ,gS,tZ,tS]);try simp only [Sd.w,sJ,ix3,qS])
 refine bJ (f:=Sy.w) (g:=fun s=>(Cd.one .said s).w) (by omega) (fun s G' k hk=>?_) (fun r1 hr1=>?_)
 .simp only [tF,List.replicate,zzU,zzV,List.cons_append,List.nil_append,List.append_nil,gZ,gS,tZ,tS,List.length_cons,List.length_nil]
  ((try dsimp only [zS,zU,zO,zG,zC,zA,yZ,zQ,zX,zP,zW,zZ,zT,zR,zL,zN,zB,zM,gZ,gS,tZ,tS]);try simp only [if_true,zzC,zzL,zzA,Nat.reduceAdd,z2,true_and])
  exact hk
 have k1:zK [] G (put G r1 (.lst (t.said.map fun s=>(Cd.one .said s).w))):=zK.new hr1;have g1:(put G r1 (.lst (t.said.map fun s=>(Cd.one .said s).w))) r1=some (.lst ((t.said.map fun s=>Cd.one .said s).map Cd.w)):=by rw [zV,List.map_map];rfl
 generalize put G r1 (.lst (t.said.map fun s=>(Cd.one .said s).w))=G1 at k1 g1 ⊢;refine bJ (f:=Sy.w) (g:=fun s=>(Cd.one .fresh s).w) (by omega) (fun s G' k hk=>?_) (fun r2 hr2=>?_)
 .simp only [tF,List.replicate,zzU,zzV,List.cons_append,List.nil_append,List.append_nil,gZ,gS,tZ,tS,List.length_cons,List.length_nil]
  ((try dsimp only [zS,zU,zO,zG,zC,zA,yZ,zQ,zX,zP,zW,zZ,zT,zR,zL,zN,zB,zM,gZ,gS,tZ,tS]);try simp only [if_true,zzC,zzL,zzA,Nat.reduceAdd,z2,true_and])
  exact hk
 have k2:zK [] G1 (put G1 r2 (.lst (t.fresh.map fun s=>(Cd.one .fresh s).w))):=zK.new hr2;have g2:(put G1 r2 (.lst (t.fresh.map fun s=>(Cd.one .fresh s).w))) r2=some (.lst ((t.fresh.map fun s=>Cd.one .fresh s).map Cd.w)):=by rw [zV,List.map_map];rfl
 generalize put G1 r2 (.lst (t.fresh.map fun s=>(Cd.one .fresh s).w))=G2 at k2 g2 ⊢;refine addL (k2 _ _ (by simp) g1) g2 (by simp only [zzM];omega) fun r3 hr3=>?_;rw [← List.map_append]
 have fl1:flat ((t.said.map fun s=>Cd.one .said s)++t.fresh.map fun s=>Cd.one .fresh s):=uV
  (fun c hc=>by obtain ⟨s,hs,rfl⟩:=zzP hc;exact ⟨to.s s hs,rfl⟩) (fun c hc=>by obtain ⟨s,hs,rfl⟩:=zzP hc;exact ⟨to.f s hs,rfl⟩)
 have ln1:((t.said.map fun s=>Cd.one .said s)++t.fresh.map fun s=>Cd.one .fresh s).length<=200:=by simp;omega
 generalize (t.said.map fun s=>Cd.one .said s)++t.fresh.map (fun s=>Cd.one .fresh s)=c1 at fl1 ln1 ⊢;have k3:zK [] G (put G2 r3 (.lst (c1.map Cd.w))):=k1.trans (k2.trans (zK.new hr3));have g3:(put G2 r3 (.lst (c1.map Cd.w))) r3=some (.lst (c1.map Cd.w)):=zV;generalize put G2 r3 (.lst (c1.map Cd.w))=G3 at k3 g3 ⊢;refine yT ?_
 ((try dsimp only [zS,zU,zO,zG,zC,zA,yZ,zQ,zX,zP,zW,zZ,zT,zR,zL,zN,zB,zM,gZ,gS,tZ,tS]);try simp only [Sd.w,ix1,ix2,qS])
 refine bJ (f:=dw) (g:=fun x=>(Cd.two .opn x.1 x.2).w) (by omega) (fun s G' k hk=>?_) (fun r4 hr4=>?_)
 .simp only [tF,List.replicate,zzU,zzV,List.cons_append,List.nil_append,List.append_nil,gZ,gS,tZ,tS,List.length_cons,List.length_nil]
  ((try dsimp only [zS,zU,zO,zG,zC,zA,yZ,zQ,zX,zP,zW,zZ,zT,zR,zL,zN,zB,zM,gZ,gS,tZ,tS]);try simp only [if_true,zzC,zzL,zzA,Nat.reduceAdd,z1,true_and,xB,dw])
  exact ⟨z3,hk⟩
 have k4:zK [] G3 (put G3 r4 (.lst (t.opn.map fun x=>(Cd.two .opn x.1 x.2).w))):=zK.new hr4;have g4:(put G3 r4 (.lst (t.opn.map fun x=>(Cd.two .opn x.1 x.2).w))) r4=some (.lst ((t.opn.map fun x=>Cd.two .opn x.1 x.2).map Cd.w)):=by rw [zV,List.map_map];rfl
 generalize put G3 r4 (.lst (t.opn.map fun x=>(Cd.two .opn x.1 x.2).w))=G4 at k4 g4 ⊢;refine addL (k4 _ _ (by simp) g3) g4 (by simp only [zzM];omega) fun r5 hr5=>?_;rw [← List.map_append];have fl2:flat (c1++t.opn.map fun x=>Cd.two .opn x.1 x.2):=uV fl1 (fun c hc=>by obtain ⟨s,hs,rfl⟩:=zzP hc;exact ⟨to.o s hs,rfl⟩);have ln2:(c1++t.opn.map fun x=>Cd.two .opn x.1 x.2).length<=300:=by simp;omega
 generalize c1++t.opn.map (fun x=>Cd.two .opn x.1 x.2)=c2 at fl2 ln2 ⊢;have k5:zK [] G (put G4 r5 (.lst (c2.map Cd.w))):=k3.trans (k4.trans (zK.new hr5));have g5:(put G4 r5 (.lst (c2.map Cd.w))) r5=some (.lst (c2.map Cd.w)):=zV;generalize put G4 r5 (.lst (c2.map Cd.w))=G5 at k5 g5 ⊢;refine bJ (f:=dw) (g:=fun x=>(Cd.two .used x.1 x.2).w) (by omega) (fun s G' k hk=>?_) (fun r6 hr6=>?_)
 .simp only [tF,List.replicate,zzU,zzV,List.cons_append,List.nil_append,List.append_nil,gZ,gS,tZ,tS,List.length_cons,List.length_nil]
  ((try dsimp only [zS,zU,zO,zG,zC,zA,yZ,zQ,zX,zP,zW,zZ,zT,zR,zL,zN,zB,zM,gZ,gS,tZ,tS]);try simp only [if_true,zzC,zzL,zzA,Nat.reduceAdd,z1,true_and,xB,dw])
  exact ⟨z3,hk⟩
 have k6:zK [] G5 (put G5 r6 (.lst (t.used.map fun x=>(Cd.two .used x.1 x.2).w))):=zK.new hr6;have g6:(put G5 r6 (.lst (t.used.map fun x=>(Cd.two .used x.1 x.2).w))) r6=some (.lst ((t.used.map fun x=>Cd.two .used x.1 x.2).map Cd.w)):=by rw [zV,List.map_map];rfl
 generalize put G5 r6 (.lst (t.used.map fun x=>(Cd.two .used x.1 x.2).w))=G6 at k6 g6 ⊢;refine addL (k6 _ _ (by simp) g5) g6 (by simp only [zzM];omega) fun r7 hr7=>?_;rw [← List.map_append];have fl3:flat (c2++t.used.map fun x=>Cd.two .used x.1 x.2):=uV fl2 (fun c hc=>by obtain ⟨s,hs,rfl⟩:=zzP hc;exact ⟨to.u s hs,rfl⟩);have ln3:(c2++t.used.map fun x=>Cd.two .used x.1 x.2).length<=400:=by simp;omega
 generalize c2++t.used.map (fun x=>Cd.two .used x.1 x.2)=c3 at fl3 ln3 ⊢;have k7:zK [] G (put G6 r7 (.lst (c3.map Cd.w))):=k5.trans (k6.trans (zK.new hr7));have g7:(put G6 r7 (.lst (c3.map Cd.w))) r7=some (.lst (c3.map Cd.w)):=zV;generalize put G6 r7 (.lst (c3.map Cd.w))=G7 at k7 g7 ⊢;simp only [Sd.w] at last
 have jM:∀ (add:List Cd) (G8:Hw) (r8:Addr) (Q8:Q3),zK [] G7 G8->G8 r8=some (.lst (add.map Cd.w))->add.length<=3->flat add->(∀ r9 G9,zK [] G G9->G9 r9=some (.lst ((c3++add).map Cd.w))->flat (c3++add)->Q8 (.ref r9) G9)->xB .Add (.ref r7) (.ref r8) G8 Q8:=by
  intro add G8 r8 Q8 k8 g8 al fa q8;refine addL (k8 _ _ (by simp) g7) g8 (by simp only [zzM];omega) fun r9 hr9=>?_;rw [← List.map_append];exact q8 r9 _ (k7.trans (k8.trans (zK.new hr9))) zV (uV fl3 fa)
 refine yT ?_
 cases m with
 |no =>
  ((try dsimp only [zS,zU,zO,zG,zC,zA,yZ,zQ,zX,zP,zW,zZ,zT,zR,zL,zN,zB,zM,gZ,gS,tZ,tS]);try simp only [Mv.w,zD,pR,if_true,zzB,if_false])
  refine xH ?_;refine yT ?_
  ((try dsimp only [zS,zU,zO,zG,zC,zA,yZ,zQ,zX,zP,zW,zZ,zT,zR,zL,zN,zB,zM,gZ,gS,tZ,tS]);try simp only [Mv.w,zD,pR,if_true,zzB,if_false])
  refine xH ?_;exact last r7 c3 G7 k7 g7 fl3 (by omega)
 |dbt x s =>
  ((try dsimp only [zS,zU,zO,zG,zC,zA,yZ,zQ,zX,zP,zW,zZ,zT,zR,zL,zN,zB,zM,gZ,gS,tZ,tS]);try simp only [Mv.w,zD,pR,if_true,sJ,zH,beq_self_eq_true])
  refine yT ?_
  ((try dsimp only [zS,zU,zO,zG,zC,zA,yZ,zQ,zX,zP,zW,zZ,zT,zR,zL,zN,zB,zM,gZ,gS,tZ,tS]);try simp only [fD,kP,zzC,zzL,zzA,Nat.reduceAdd,z1,z2,true_and])
  have bt:∀ (c:Str) (G':Hw) (Q':Q3),Q' (.tup [.str c,.str x,s.w]) G'->xB .Add (.tup [.str c]) (.tup [.str x,s.w]) G' Q':=fun c G' Q' q=>by simp only [xB];exact ⟨z3,q⟩
  refine bt _ _ _ (bt _ _ _ ?_);intro r8 hr8;refine jM [.two .asked x s,.two .answ x s] _ r8 _ (zK.new hr8) zV (by simp) (fun c hc=>?_) fun r9 G9 k9 g9 f9=>?_
  .rcases List.mem_cons.mp hc with rfl|hc
   .exact ⟨mo,rfl⟩
   .rw [zzO hc];exact ⟨mo,rfl⟩
  refine xH ?_;refine yT ?_
  ((try dsimp only [zS,zU,zO,zG,zC,zA,yZ,zQ,zX,zP,zW,zZ,zT,zR,zL,zN,zB,zM,gZ,gS,tZ,tS]);try simp only [Mv.w,zD,pR,if_true,sJ,zH,q1,zzB,if_false])
  refine xH ?_;exact last r9 _ G9 k9 g9 f9 (by simp;omega)
 |ans x s a =>
  ((try dsimp only [zS,zU,zO,zG,zC,zA,yZ,zQ,zX,zP,zW,zZ,zT,zR,zL,zN,zB,zM,gZ,gS,tZ,tS]);try simp only [Mv.w,zD,pR,if_true,sJ,zH,q2,zzB,if_false])
  refine xH ?_;refine yT ?_
  ((try dsimp only [zS,zU,zO,zG,zC,zA,yZ,zQ,zX,zP,zW,zZ,zT,zR,zL,zN,zB,zM,gZ,gS,tZ,tS]);try simp only [Mv.w,zD,pR,if_true,sJ,zH,beq_self_eq_true])
  refine yT ?_
  ((try dsimp only [zS,zU,zO,zG,zC,zA,yZ,zQ,zX,zP,zW,zZ,zT,zR,zL,zN,zB,zM,gZ,gS,tZ,tS]);try simp only [ix1,ix2,zzC,zzL,zzA,Nat.reduceAdd,z1,z2,z3,true_and])
  have bt:∀ (c:Str) (G':Hw) (Q':Q3),Q' (.tup [.str c,.str x,s.w]) G'->xB .Add (.tup [.str c]) (.tup [.str x,s.w]) G' Q':=fun c G' Q' q=>by simp only [xB];exact ⟨z3,q⟩
  refine bt _ _ _ (bt _ _ _ ?_);intro r8 hr8;refine jM [.two .answ x s,.two .asked x s,.one .heard a] _ r8 _ (zK.new hr8) zV (by simp) (fun c hc=>?_) fun r9 G9 k9 g9 f9=>?_
  .rcases List.mem_cons.mp hc with rfl|hc
   .exact ⟨mo.1,rfl⟩
   .rcases List.mem_cons.mp hc with rfl|hc
    .exact ⟨mo.1,rfl⟩
    .rw [zzO hc];exact ⟨mo.2,rfl⟩
  refine xH ?_;exact last r9 _ G9 k9 g9 f9 (by simp;omega)
end
theorem tx2 {a b:W} (ha:Tx a) (hb:Tx b):Tx (.tup [a,b]):=.tup _ (by simp) fun w hw=>by
 rcases List.mem_cons.mp hw with rfl|hw
 .exact ha
 .rw [zzO hw];exact hb
theorem tx3 {a b c:W} (ha:Tx a) (hb:Tx b) (hc:Tx c):Tx (.tup [a,b,c]):=.tup _ (by simp) fun w hw=>by
 rcases List.mem_cons.mp hw with rfl|hw
 .exact ha
 .rcases List.mem_cons.mp hw with rfl|hw
  .exact hb
  .rw [zzO hw];exact hc
theorem zbF:∀ t:Sy,Tx t.w
 | .say x=>tx2 (.str _) (.str _)
 | .neg a=>tx2 (.str _) (zbF a)
 | .two _ a b=>tx3 (.str _) (zbF a) (zbF b)
theorem zdw:∀ c:Cd,Tx c.w
 | .any=>.tup _ (by simp) fun w hw=>by rw [zzO hw];exact .str _
 | .one _ s=>tx2 (.str _) (zbF s)
 | .two _ x s=>tx3 (.str _) (.str _) (zbF s)
 | .neg a=>tx2 (.str _) (zdw a)
 | .bin _ a b=>tx3 (.str _) (zdw a) (zdw b)
theorem bD:∀ {c:Cd},c.ok->dep c.w<=c.deep+22
 | .any,_=>by simp [Cd.w,dep,yC]
 | .one _ s,h=>by
  have:=qU (t:=s) h;simp only [Cd.w,dep,yC];omega
 | .two _ x s,h=>by
  have:=qU (t:=s) h;simp only [Cd.w,dep,yC];omega
 | .neg a,h=>by
  have:=bD (c:=a) h;simp only [Cd.w,Cd.deep,dep,yC];omega
 | .bin _ a b,h=>by
  have:=bD (c:=a) h.1;have:=bD (c:=b) h.2;simp only [Cd.w,Cd.deep,dep,yC];omega
theorem pA:∀ c:Cd,c.size+1<=2 ^ (c.deep+1)
 | .any=>by decide
 | .one _ _=>by show 2<=2 ^ (0+1);decide
 | .two _ _ _=>by show 2<=2 ^ (0+1);decide
 | .neg a=>by
  have:=pA a;simp only [Cd.size,Cd.deep];rw [Nat.pow_succ];omega
 | .bin _ a b=>by
  have h1:=pA a;have h2:=pA b;have h3:2 ^ (a.deep+1)<=2 ^ (max a.deep b.deep+1):=Nat.pow_le_pow_right (by decide) (by omega);have h4:2 ^ (b.deep+1)<=2 ^ (max a.deep b.deep+1):=Nat.pow_le_pow_right (by decide) (by omega);simp only [Cd.size,Cd.deep];rw [Nat.pow_succ 2 (max a.deep b.deep+1)];omega
theorem zbW {c:Cd} (h:c.deep<=6):c.size<=200:=by
 have h1:=pA c;have h2:2 ^ (c.deep+1)<=2 ^ 7:=Nat.pow_le_pow_right (by decide) (by omega);have:(2:Nat) ^ 7=128:=by decide
 omega
theorem zdK {G G':Hw} {d l:Addr} {w:W} {ns:List Int} (s:pK G w ns) (hd:G d=none) (hl:G l=none) (k:zK [d,l] G G'):pK G' w ns:=by
 rcases s with ⟨a,rfl,e⟩|rfl
 .have hn:∀ o,G a=some o->a∉[d,l]:=fun o eo hm=>by
   simp only [List.mem_cons,List.not_mem_nil,or_false] at hm;rcases hm with z|z
   .rw [z,hd] at eo;cases eo
   .rw [z,hl] at eo;cases eo
  refine .inl ⟨a,rfl,?_⟩;unfold yN at e ⊢
  split at e
  .rename_i ws q;rw [k _ _ (hn _ q) q];exact e
  .rename_i ws q;rw [k _ _ (hn _ q) q];exact e
  .cases e
 .exact .inr rfl
def nthS:ISs->Nat->IS
 | .cons s _,0=>s
 | .cons _ r,n+1=>nthS r n
 | .nil,_=>.dead
def forB:IS->ISs
 | .for _ _ b=>b
 |_=>.nil
def nN:ISs:=forB (nthS pD 8)
def wI (K:yM) (sA:Addr):Ctx3:={ wT K sA 31 with sx:=[eRev,⟨rvM,rvS⟩,⟨hcM "sides_of", hcS sA wS⟩,⟨dcM "holds", dcS jJ [.non]⟩] }
section
variable {K : yM} {sA : Addr}
theorem zdy {G:Hw} {Q:Q3} {nx:jE->Hw->Prop} {bk ct:jE->Hw->Prop} {d l p:Addr} {ps:List Sy} {sd:Sd} {m:Mv} (S:Says G d l p ps) (so:sd.ok) (mo:m.ok) {a0 a2 a4 a5 a8 v9 v10 v11 v12:Option W}
  (hx:∀ G' v9 v10 v11 v12,zK [d,l] G G'->xO G' d l->nx [a0,some (.ref d),a2,some (.ref p),a4,a5,some sd.w,some m.w,a8,v9,v10,v11,v12] G') :
  zE (wI K sA) XN nN { nx:=nx,rt:=Q,bk:=bk,ct:=ct } [a0,some (.ref d),a2,some (.ref p),a4,a5,some sd.w,some m.w,a8,v9,v10,v11,v12] G:=by
 have e4:(wI K sA).fn[4]?=some (eIsj K):=rfl;have e11:(wI K sA).fn[11]?=some tY:=rfl;have e17:(wI K sA).fn[17]?=some ⟨"_law_condition", jI 5⟩:=rfl;have e18:(wI K sA).fn[18]?=some ⟨"_law_count", jY 60⟩:=rfl;have e22:(wI K sA).fn[22]?=some ⟨"_law_near", bY⟩:=rfl;have e29:(wI K sA).fn[29]?=some ⟨"holds", jJ⟩:=rfl;have e30:(wI K sA).fn[30]?=some ⟨"_law_holds", xG 8⟩:=rfl;have s3:(wI K sA).sx[3]?=some ⟨dcM "holds", dcS jJ [.non]⟩:=rfl;have g1:(wI K sA).gl[1]?=some (("bool" : Str),.ty "bool"):=rfl;have z2:=sz 2 (by decide);have z3:=sz 3 (by decide);have z4:=sz 4 (by decide);simp only [nN,pD,nthS,forB]
 have rest:∀ (c:Cd) (G':Hw) (v10 v11 v12:Option W),c.ok->c.deep<=5->zK [d,l] G G'->xO G' d l->zE (wI K sA) XN (tl (tl (tl nN))) { nx:=nx,rt:=Q,bk:=bk,ct:=ct } [a0,some (.ref d),a2,some (.ref p),a4,a5,some sd.w,some m.w,a8,some c.w,v10,v11,v12] G':=by
  intro c G' v10 v11 v12 co cd k D;simp only [nN,pD,nthS,forB,tl];refine yT ?_
  ((try dsimp only [zS,zU,zO,zG,zC,zA,yZ,zQ,zX,zP,zW,zZ,zT,zR,zL,zN,zB,zM,gZ,gS,tZ,tS]);try simp only [e22])
  refine ⟨d,l,sd,m,rfl,D,so,mo,fun b G1 bo bd k1 D1=>?_⟩;refine yT ?_
  ((try dsimp only [zS,zU,zO,zG,zC,zA,yZ,zQ,zX,zP,zW,zZ,zT,zR,zL,zN,zB,zM,gZ,gS,tZ,tS]);try simp only [zzC,zzL,zzA,Nat.reduceAdd,z2,z4,true_and,qS])
  refine ⟨fun i σ G2=>∃ v11 v12:Option W,σ=[a0,some (.ref d),a2,some (.ref p),a4,a5,some sd.w,some m.w,a8,some c.w,some b.w,v11,v12]/\zK [] G1 G2,⟨v11,v12,rfl,zK.refl⟩,fun _ _ _ _ _=>trivial,?_,?_⟩
  .rintro i w σ G2 hw ⟨v11,v12,rfl,k2⟩
   have one:∀ (bk' ct':jE->Hw->Prop) (e:Cd),w=e.w->e.ok->e.deep<=5->zE (wI K sA) XN (.cons (.asg 12 (.call 29 (.cons (.var 11) (.cons (.var 6) (.cons (.var 7) .nil))))) (.cons (.ite (.or (.not (.call 4 (.cons (.var 12) (.cons (.glb 1) .nil)))) (.cmp .NotEq (.var 12) (.call 30 (.cons (.var 11) (.cons (.var 6) (.cons (.var 7) .nil)))))) (.cons (.ret (.con (.bool false))) .nil) .nil) .nil)) { nx:=fun σ G2=>∃ v11 v12:Option W,σ=[a0,some (.ref d),a2,some (.ref p),a4,a5,some sd.w,some m.w,a8,some c.w,some b.w,v11,v12]/\zK [] G1 G2,rt:=Q,bk:=bk',ct:=ct' } [a0,some (.ref d),a2,some (.ref p),a4,a5,some sd.w,some m.w,a8,some c.w,some b.w,some w,v12] G2:=by
    intro bk' ct' e ew eo ed;subst ew;refine yT ?_
    ((try dsimp only [zS,zU,zO,zG,zC,zA,yZ,zQ,zX,zP,zW,zZ,zT,zR,zL,zN,zB,zM,gZ,gS,tZ,tS]);try simp only [e29])
    refine ⟨e,sd,m,rfl,eo,so,mo,zbW (by omega),fun G3 k3=>?_⟩;refine yT ?_
    ((try dsimp only [zS,zU,zO,zG,zC,zA,yZ,zQ,zX,zP,zW,zZ,zT,zR,zL,zN,zB,zM,gZ,gS,tZ,tS]);try simp only [e4,g1])
    refine ⟨"bool", true,rfl,rfl,?_⟩;simp only [gG,Bool.not_true,zzB,if_false]
    ((try dsimp only [zS,zU,zO,zG,zC,zA,yZ,zQ,zX,zP,zW,zZ,zT,zR,zL,zN,zB,zM,gZ,gS,tZ,tS]);try simp only [e30])
    refine ⟨e,sd,m,rfl,eo,so,mo,by omega,fun G4 k4=>?_⟩;simp only [zD,bF,beq_self_eq_true,Bool.not_true,gG,zzB,if_false];refine xH ?_;refine xH (Γ:=wI K sA) (E:=XN) ?_;exact ⟨_,_,rfl,k2.trans (k3.trans k4)⟩
   match i,hw with
   | 0,hw=>cases hw;exact one _ _ c rfl co cd
   | 1,hw=>cases hw;exact one _ _ b rfl bo (by omega)
   | 2,hw=>cases hw;exact one _ _ (.neg b) rfl bo (by simp only [Cd.deep];omega)
   | 3,hw=>cases hw;exact one _ _ c rfl co cd
   |i+4,hw=>cases hw
  .rintro σ G2 ⟨v11,v12,rfl,k2⟩;have kz:=k.trans (k1.trans (wY k2));have D2:=wC k2 D1;refine yT ?_
   cases m with
   |no =>
    ((try dsimp only [zS,zU,zO,zG,zC,zA,yZ,zQ,zX,zP,zW,zZ,zT,zR,zL,zN,zB,zM,gZ,gS,tZ,tS]);try simp only [Mv.w,zD,pR,zzB,if_false,if_true,s3,dcS])
    refine ⟨c,sd,.no,rfl,co,so,mo,zbW (by omega),fun G3 k3=>?_⟩;simp only [e30];refine ⟨c,sd,.no,rfl,co,so,mo,by omega,fun G4 k4=>?_⟩;simp only [zD,bF,beq_self_eq_true,Bool.not_true,gG,zzB,if_false];refine xH ?_;refine xH (Γ:=wI K sA) (E:=XN) ?_;exact hx G4 _ _ _ _ (kz.trans (wY (k3.trans k4))) (wC (k3.trans k4) D2)
   |dbt x s =>
    ((try dsimp only [zS,zU,zO,zG,zC,zA,yZ,zQ,zX,zP,zW,zZ,zT,zR,zL,zN,zB,zM,gZ,gS,tZ,tS]);try simp only [Mv.w,zD,pR,zzB,if_false])
    refine xH ?_;refine xH (Γ:=wI K sA) (E:=XN) ?_;exact hx G2 _ _ _ _ kz D2
   |ans x s a =>
    ((try dsimp only [zS,zU,zO,zG,zC,zA,yZ,zQ,zX,zP,zW,zZ,zT,zR,zL,zN,zB,zM,gZ,gS,tZ,tS]);try simp only [Mv.w,zD,pR,zzB,if_false])
    refine xH ?_;refine xH (Γ:=wI K sA) (E:=XN) ?_;exact hx G2 _ _ _ _ kz D2
 have mid:∀ (c:Cd) (G':Hw),c.ok->c.deep<=4->zK [d,l] G G'->xO G' d l->zE (wI K sA) XN (tl (tl nN)) { nx:=nx,rt:=Q,bk:=bk,ct:=ct } [a0,some (.ref d),a2,some (.ref p),a4,a5,some sd.w,some m.w,a8,some c.w,v10,v11,v12] G':=by
  intro c G' co cd k D;simp only [nN,pD,nthS,forB,tl] at rest ⊢;refine yT ?_
  ((try dsimp only [zS,zU,zO,zG,zC,zA,yZ,zQ,zX,zP,zW,zZ,zT,zR,zL,zN,zB,zM,gZ,gS,tZ,tS]);try simp only [e11])
  refine ⟨d,l,2,rfl,D,by decide,fun q G1 q0 q1 k1 D1=>?_⟩;simp only [zD,jH]
  by_cases hq:q=0
  .rw [decide_eq_true hq,if_pos rfl];refine yT ?_
   ((try dsimp only [zS,zU,zO,zG,zC,zA,yZ,zQ,zX,zP,zW,zZ,zT,zR,zL,zN,zB,zM,gZ,gS,tZ,tS]);try simp only [zzC,zzL,zzA,Nat.reduceAdd,z2,z3,true_and])
   intro r hr;have k2:zK [] G1 (put G1 r (.lst [.str "and", .str "or"])):=zK.new hr;have g2:(put G1 r (.lst [.str "and", .str "or"])) r=some (.lst [.str "and", .str "or"]):=zV;have nr:=wX D1 hr;generalize put G1 r (.lst [.str "and", .str "or"])=G2 at k2 g2 ⊢;have D2:=wC k2 D1;simp only [e11];refine ⟨d,l,2,rfl,D2,by decide,fun u G3 u0 u1 k3 D3=>?_⟩;refine pS (zJ (k3 _ _ nr g2)) ?_;have kz:=k.trans (k1.trans ((wY k2).trans k3));have hu:u=0\/u=1:=by omega
   rcases hu with rfl|rfl
   .rw [uG];simp only [e22];refine ⟨d,l,sd,m,rfl,D3,so,mo,fun b G4 bo bd k4 D4=>?_⟩;refine xH ?_;exact rest (.bin false b c) G4 _ _ _ ⟨bo,co⟩ (by simp only [Cd.deep];omega) (kz.trans k4) D4
   .rw [gN];simp only [e22];refine ⟨d,l,sd,m,rfl,D3,so,mo,fun b G4 bo bd k4 D4=>?_⟩;refine xH ?_;exact rest (.bin true b c) G4 _ _ _ ⟨bo,co⟩ (by simp only [Cd.deep];omega) (kz.trans k4) D4
  .rw [decide_eq_false hq,if_neg zzN];refine xH ?_;exact rest c G1 _ _ _ co (by omega) (k.trans k1) D1
 simp only [nN,pD,nthS,forB,tl] at mid;refine yT ?_
 ((try dsimp only [zS,zU,zO,zG,zC,zA,yZ,zQ,zX,zP,zW,zZ,zT,zR,zL,zN,zB,zM,gZ,gS,tZ,tS]);try simp only [e17])
 refine ⟨d,l,p,ps,4,rfl,S,by decide,by decide,fun c G1 co cd k1 D1=>?_⟩;refine yT ?_
 ((try dsimp only [zS,zU,zO,zG,zC,zA,yZ,zQ,zX,zP,zW,zZ,zT,zR,zL,zN,zB,zM,gZ,gS,tZ,tS]);try simp only [e18])
 have dc:=bD co;refine ⟨c.w,rfl,zdw c,by omega,fun i G2 k2=>?_⟩;have D2:=wC k2 D1;simp only [zD,sR]
 by_cases hi:40<i
 .rw [if_pos (by simpa using hi)];refine yT ?_
  ((try dsimp only [zS,zU,zO,zG,zC,zA,yZ,zQ,zX,zP,zW,zZ,zT,zR,zL,zN,zB,zM,gZ,gS,tZ,tS]);try simp only [e17])
  refine ⟨d,l,p,ps,0,rfl,S.keep (k1.trans (wY k2)) D2,by decide,by decide,fun c' G3 co' cd' k3 D3=>?_⟩;refine xH ?_;exact mid c' G3 co' (by omega) (k1.trans ((wY k2).trans k3)) D3
 .rw [if_neg (by simpa using hi)];refine xH ?_;exact mid c G2 co cd (k1.trans (wY k2)) D2
end
section
variable {K : yM} {sA : Addr}
theorem zfX {s0:W} {ns:List Int} {G:Hw} {Q:Q3} (sc:pK G s0 ns) (nl:ns.length<=63) (h:∀ G',Q (.bl true) G'):zE (wI K sA) XN pD { nx:=fun _ G'=>Q .non G',rt:=Q } (yJ nlaw [s0]) G:=by
 have e1:(wI K sA).fn[1]?=some fS:=rfl;have e3:(wI K sA).fn[3]?=some eLst:=rfl;have e6:(wI K sA).fn[6]?=some eSrt:=rfl;have e7:(wI K sA).fn[7]?=some eTup:=rfl;have e10:(wI K sA).fn[10]?=some zil:=rfl;have e11:(wI K sA).fn[11]?=some tY:=rfl;have e12:(wI K sA).fn[12]?=some ⟨"_law_names", pB⟩:=rfl;have e13:(wI K sA).fn[13]?=some ⟨"_law_saying", wZ 8⟩:=rfl;have e15:(wI K sA).fn[15]?=some ⟨"_law_parts", wV 9⟩:=rfl;have e19:(wI K sA).fn[19]?=some ⟨"_law_some", nM⟩:=rfl;have e20:(wI K sA).fn[20]?=some ⟨"_law_doubts", sS⟩:=rfl;have e21:(wI K sA).fn[21]?=some ⟨"_law_move", bX⟩:=rfl;have i0:(wI K sA).it[0]?=some eRg3:=rfl;have z1:=sz 1 (by decide);have z2:=sz 2 (by decide);have z4:=sz 4 (by decide);show zE (wI K sA) XN pD { nx:=fun _ G'=>Q .non G',rt:=Q } [some s0,none,none,none,none,none,none,none,none,none,none,none,none] G;simp only [pD];refine yT ?_
 ((try dsimp only [zS,zU,zO,zG,zC,zA,yZ,zQ,zX,zP,zW,zZ,zT,zR,zL,zN,zB,zM,gZ,gS,tZ,tS]);try simp only [e10])
 refine ⟨s0,1,ns,rfl,sc,nl,by decide,fun d l G1 hd hl k1 D1=>?_⟩;refine yT ?_
 ((try dsimp only [zS,zU,zO,zG,zC,zA,yZ,zQ,zX,zP,zW,zZ,zT,zR,zL,zN,zB,zM,gZ,gS,tZ,tS]);try simp only [e11,e12,e13,xB])
 refine ⟨d,l,3,rfl,D1,by decide,fun q2 G2 q20 q21 k2 D2=>?_⟩;refine ⟨d,l,1+q2,rfl,D2,by omega,by omega,fun r xs G3 lx ox nr gr k3 D3=>?_⟩;refine ⟨d,l,7,rfl,D3,by decide,fun q4 G4 q40 q41 k4 D4=>?_⟩;have hx0:xs≠[]:=fun e=>by rw [e] at lx;simp at lx;omega
 refine ⟨d,l,r,1+q4,xs,rfl,D4,nr,k4 _ _ nr gr,hx0,by omega,ox,by omega,by omega,by omega,fun t G5 ot tz k5 D5=>?_⟩;have kA:zK [d,l] G G5:=(wY k1).trans (k2.trans (k3.trans (k4.trans k5)));have ts:t.size<=7:=by omega
 have lo:=t.low;refine yT ?_
 ((try dsimp only [zS,zU,zO,zG,zC,zA,yZ,zQ,zX,zP,zW,zZ,zT,zR,zL,zN,zB,zM,gZ,gS,tZ,tS]);try simp only [e15])
 refine ⟨t,rfl,by omega,by omega,fun p ps G6 k6 hp gp pn pl pz=>?_⟩;have D6:=wC k6 D5;have S6:Says G6 d l p ps:=⟨D6,wX D5 hp,gp,pn,by omega,fun x hx=>by have:=pz x hx;omega⟩;have kB:zK [d,l] G G6:=kA.trans (wY k6);refine yT ?_
 ((try dsimp only [zS,zU,zO,zG,zC,zA,yZ,zQ,zX,zP,zW,zZ,zT,zR,zL,zN,zB,zM,gZ,gS,tZ,tS]);try simp only [e20])
 refine ⟨d,l,p,ps,rfl,S6,fun ds G7 hds dl k7 D7=>?_⟩;have S7:=S6.keep k7 D7;have kC:=kB.trans k7
 have rest:∀ (os:List (Str×Sy)) (G8:Hw),(∀ x∈os,x.2.size<=20)->os.length<=100->zK [d,l] G G8->Says G8 d l p ps->zE (wI K sA) XN (tl (tl (tl (tl (tl pD))))) { nx:=fun _ G'=>Q .non G',rt:=Q } [some s0,some (.ref d),some t.w,some (.ref p),some (.tup (os.map dw)),none,none,none,none,none,none,none,none] G8:=by
  intro os G8 oz ol k8 S8;simp only [pD,tl];refine yT ?_
  ((try dsimp only [zS,zU,zO,zG,zC,zA,yZ,zQ,zX,zP,zW,zZ,zT,zR,zL,zN,zB,zM,gZ,gS,tZ,tS]);try simp only [e19])
  refine ⟨d,l,p,ps.map Sy.w,rfl,S8.deal,S8.off,S8.is,zeP (by have:=S8.few;omega) S8.sz,fun ys G9 hy yl k9 D9=>?_⟩;obtain ⟨sd,rfl,hsd⟩:=pick Sy.w hy;have S9:=S8.keep k9 D9;have few:=S8.few;simp only [zzM] at yl;refine yT ?_
  ((try dsimp only [zS,zU,zO,zG,zC,zA,yZ,zQ,zX,zP,zW,zZ,zT,zR,zL,zN,zB,zM,gZ,gS,tZ,tS]);try simp only [e20,e19,e3,zzC,zzL,zzA,Nat.reduceAdd,z4,true_and])
  refine ⟨d,l,p,ps,rfl,S9,fun us Ga hus ul ka Da=>?_⟩;have Sa:=S9.keep ka Da;simp only [lstS,uE];intro q hq;have kb:zK [] Ga (put Ga q (.lst (sd.map Sy.w))):=zK.new hq;have gb:(put Ga q (.lst (sd.map Sy.w))) q=some (.lst (sd.map Sy.w)):=zV;have nq:=wX Da hq;generalize put Ga q (.lst (sd.map Sy.w))=Gb at kb gb ⊢;have Db:=wC kb Da;refine ⟨d,l,q,sd.map Sy.w,rfl,Db,nq,gb,zeP (by omega) (fun x hx=>S8.sz x (hsd x hx)),fun zs Gc hz zl kc Dc=>?_⟩;obtain ⟨fs,rfl,hfs⟩:=pick Sy.w hz;simp only [zzM] at zl;have Sc:=(Sa.keep (wY kb) Db).keep kc Dc;have kD:=k8.trans (k9.trans (ka.trans ((wY kb).trans kc)));refine yT ?_
  ((try dsimp only [zS,zU,zO,zG,zC,zA,yZ,zQ,zX,zP,zW,zZ,zT,zR,zL,zN,zB,zM,gZ,gS,tZ,tS]);try simp only [e21])
  refine ⟨d,l,p,ps,rfl,Sc,fun m Gd mo kd Dd=>?_⟩;have Sd':=Sc.keep kd Dd;have kE:=kD.trans kd;have so:Sd.ok ⟨sd,os,us,fs⟩:=⟨fun x hx=>S8.sz x (hsd x hx),oz,fun x hx=>S8.sz _ (hus x hx),fun x hx=>S8.sz x (hsd x (hfs x hx)),show sd.length<=100 by omega,ol,show us.length<=100 by omega,show fs.length<=100 by omega⟩;refine yT ?_
  ((try dsimp only [zS,zU,zO,zG,zC,zA,yZ,zQ,zX,zP,zW,zZ,zT,zR,zL,zN,zB,zM,gZ,gS,tZ,tS]);try simp only [i0,e1,xB])
  refine (zdK sc hd hl kE).sl fun r9 hr9=>?_;have ke:zK [] Gd (put Gd r9 (.lst (pE (ns.map W.int) (some 40) (some 63)))):=zK.new hr9;have ge:(put Gd r9 (.lst (pE (ns.map W.int) (some 40) (some 63)))) r9=some (.lst (pE (ns.map W.int) (some 40) (some 63))):=zV;generalize put Gd r9 (.lst (pE (ns.map W.int) (some 40) (some 63)))=Ge at ke ge ⊢
  have cl:(pE (ns.map W.int) (some 40) (some 63)).length<=63:=by
   unfold pE;rw [List.length_take,List.length_drop,zzM];omega
  have Se:=Sd'.keep (wY ke) (wC ke Dd);simp only [tJ,tK,ge];refine ⟨⟨by omega,by omega⟩,?_⟩;refine ⟨fun i σ G'=>∃ v8 v9 v10 v11 v12:Option W,σ=[some s0,some (.ref d),some t.w,some (.ref p),some (.tup (os.map dw)),some (.tup (sd.map Sy.w)),some (Sd.w ⟨sd,os,us,fs⟩),some m.w,v8,v9,v10,v11,v12]/\Says G' d l p ps,⟨none,none,none,none,none,rfl,Se⟩,fun _ _ _ _ _=>trivial,?_,?_⟩
  .rintro i w σ G' hw ⟨v8,v9,v10,v11,v12,rfl,S'⟩;have tn:=fun bk ct=>zdy (K:=K) (sA:=sA) (Q:=Q) (bk:=bk) (ct:=ct) (a0:=some s0) (a2:=some t.w) (a4:=some (.tup (os.map dw))) (a5:=some (.tup (sd.map Sy.w))) (a8:=some w) (v9:=v9) (v10:=v10) (v11:=v11) (v12:=v12) S' so mo (nx:=fun σ G'=>∃ v8 v9 v10 v11 v12:Option W,σ=[some s0,some (.ref d),some t.w,some (.ref p),some (.tup (os.map dw)),some (.tup (sd.map Sy.w)),some (Sd.w ⟨sd,os,us,fs⟩),some m.w,v8,v9,v10,v11,v12]/\Says G' d l p ps) fun G2 v9 v10 v11 v12 k2 D2=>⟨_,v9,v10,v11,v12,rfl,S'.keep k2 D2⟩;exact tn _ _
  .rintro σ G' ⟨v8,v9,v10,v11,v12,rfl,S'⟩;refine yT ?_
   (try dsimp only [zS,zU,zO,zG,zC,zA,yZ,zQ,zX,zP,zW,zZ,zT,zR,zL,zN,zB,zM,gZ,gS,tZ,tS])
   exact h G'
 simp only [pD,tl] at rest;refine yT ?_
 ((try dsimp only [zS,zU,zO,zG,zC,zA,yZ,zQ,zX,zP,zW,zZ,zT,zR,zL,zN,zB,zM,gZ,gS,tZ,tS]);try simp only [e11])
 refine ⟨d,l,2,rfl,D7,by decide,fun q8 G8 q80 q81 k8 D8=>?_⟩;have S8:=S7.keep k8 D8;have few:=S6.few;have oz:∀ x∈ds,x.2.size<=20:=fun x hx=>S6.sz _ (hds x hx);simp only [zD,jH]
 by_cases hq:q8=0
 .rw [decide_eq_true hq,if_pos rfl];refine yT ?_
  ((try dsimp only [zS,zU,zO,zG,zC,zA,yZ,zQ,zX,zP,zW,zZ,zT,zR,zL,zN,zB,zM,gZ,gS,tZ,tS]);try simp only [e6,e7,zzC,zzL,zzA,Nat.reduceAdd,z1,z2,true_and,xB])
  refine ⟨sz _ (by simp only [zzM];omega),?_⟩;have ex:ds.map dw++[.tup [.str "begin", t.w]]=(ds++[(("begin" : Str),t)]).map dw:=by simp [dw]
  have oz2:∀ x∈ds++[(("begin" : Str),t)],x.2.size<=20:=fun x hx=>by
   rcases List.mem_append.mp hx with hx|hx
   .exact oz x hx
   .rw [zzO hx];show t.size<=20;omega
  rw [ex];refine ⟨_,rfl,zeQ (by simp;omega) oz2,fun r hr=>?_⟩;simp only [cC,uE,zJ zV];have pm:=zaL ((ds++[(("begin" : Str),t)]).map dw);obtain ⟨es,ee,he⟩:=pick dw (xs:=ds++[(("begin" : Str),t)]) (ys:=srt ((ds++[(("begin" : Str),t)]).map dw)) fun y hy=>pm.mem_iff.mp hy;have el:=pm.length_eq;rw [ee] at el ⊢;simp only [zzM,zzW,List.length_cons,List.length_nil] at el;refine xH ?_;exact rest es _ (fun x hx=>oz2 x (he x hx)) (by omega) (kC.trans (k8.trans (zK.new hr))) (S8.keep (zK.new hr) (wD hr D8))
 .rw [decide_eq_false hq,if_neg zzN];refine xH ?_;exact rest ds G8 oz (by omega) (kC.trans k8) S8
end
structure Txt (K:yM) (mg:Str->Option Value) (sA jA dA:Addr):Prop where
 deal:∃ f,mg "_law_deal" = some (.ref f)/\HD K "_law_deal" "_law_deal" jQ .none f
 draw:∃ f,mg "_law_draw" = some (.ref f)/\HD K "_law_draw" "_law_draw" jR .none f
 names:∃ f,mg "_law_names" = some (.ref f)/\HD K "_law_names" "_law_names" wP .none f
 saying:∃ f,mg "_law_saying" = some (.ref f)/\HD K "_law_saying" "_law_saying" xD .none f
 says:∃ f,mg "_law_says" = some (.ref f)/\HD K "_law_says" "_law_says" jU .none f
 parts:∃ f,mg "_law_parts" = some (.ref f)/\HD K "_law_parts" "_law_parts" wQ .none f
 word:∃ f,mg "_law_word" = some (.ref f)/\HD K "_law_word" "_law_word" jW .none f
 cond:∃ f,mg "_law_condition" = some (.ref f)/\HD K "_law_condition" "_law_condition" yD .none f
 count:∃ f,mg "_law_count" = some (.ref f)/\HD K "_law_count" "_law_count" wN .none f
 sme:∃ f,mg "_law_some" = some (.ref f)/\HD K "_law_some" "_law_some" jV .none f
 doubts:∃ f,mg "_law_doubts" = some (.ref f)/\HD K "_law_doubts" "_law_doubts" xC .none f
 move:∃ f,mg "_law_move" = some (.ref f)/\HD K "_law_move" "_law_move" jS .none f
 near:∃ f,mg "_law_near" = some (.ref f)/\HD K "_law_near" "_law_near" jT .none f
 joined:∃ f,mg "joined_by" = some (.ref f)/\HD K "joined_by" "joined_by" yG .none f
 within:∃ f,mg "all_within" = some (.ref f)/\HD K "all_within" "all_within" wR .none f
 said:∃ f,mg "said_by" = some (.ref f)/\HD K "said_by" "said_by" qL .none f
 told:∃ f,mg "told_by" = some (.ref f)/\HD K "told_by" "told_by" qM .none f
 hom:∃ f,mg "holds_of_move" = some (.ref f)/\HD K "holds_of_move" "holds_of_move" xS .none f
 single:∃ f,mg "single_holds" = some (.ref f)/\HD K "single_holds" "single_holds" xM .none f
 holds:∃ f,mg "holds" = some (.ref f)/\HD K "holds" "holds" tW (.ref dA) f
 lholds:∃ f,mg "_law_holds" = some (.ref f)/\HD K "_law_holds" "_law_holds" wO .none f
 max:mg "max" = none
 len:mg "len" = none
 all:mg "all" = none
 list:mg "list" = none
 isi:mg "isinstance" = none
 any:mg "any" = none
 srt:mg "sorted" = none
 tup:mg "tuple" = none
 int:mg "int" = none
 sum:mg "sum" = none
 range:mg "range" = none
 rev:mg "reversed" = none
 bool:mg "bool" = none
 mgS:mg "joined_by" = some (.ref sA)
 hdS:HD K "joined_by" "joined_by" yG .none sA
 mgJ:mg "JOINED" = some (.ref jA)
 jnD:∀ H,wJ K H (.dcf ["not", "and", "or"] [.int 1,.int 2,.int 2]) (.ref jA)
 dtH:∃ o m,K.lookup dA=some o/\o.data=.seq #[.none] m
def rk (n:Nat):Nat:=2 * n+2+(if 14<=n then 8 else 0)+(if 16<=n then 9 else 0)+(if 18<=n then 5 else 0)+(if 19<=n then 60 else 0)+(if 31<=n then 8 else 0)
section
variable {q : Pr} {sA jA dA : Addr}
def Pn (q:Pr) (sA:Addr) (n:Nat):Prop:=∀ A,Room (rk n) A->∀ f∈(fnL q.K sA).take n,qR (q.at A) f
def Gam0:Ctx3:=⟨[],[("JOINED", .dcf ["not", "and", "or"] [.int 1,.int 2,.int 2])],[],[],[],[],[]⟩
def zaY:MC:=⟨zY yG,kH,(fun _=>true),[],["JOINED"],[],[],[],[]⟩
theorem zas:kO qF zaY (zF yG)=true:=by decide +kernel
theorem us1' {P:List Value->Prop} (h:∀ a,P [a]) (us:List Value) (e:us.length=1):P us:=by
 cases us with
 |nil=>cases e
 |cons a l=>cases l with
  |nil=>exact h a
  |cons b l=>cases e
theorem uF:∀ ws G (Q Q':Q3),(∀ w G',Q w G'->Q' w G')->wS ws G Q XN->wS ws G Q' XN:=fun ws G Q Q' k h=>by
 obtain ⟨t,h1,h⟩:=h;exact ⟨t,h1,k _ _ h⟩
theorem fI (T:Txt q.K q.mg sA jA dA) {A:Around} (hr:Room 1 A):SxE (q.at A) ⟨hcM "sides_of", hcS sA wS⟩/\wB (hcS sA wS):=by
 obtain ⟨fd,F,_⟩:=T.hdS.fd;have FO:=uM (k:=0) (sp:=wS) (M:=zaY) F rD (fun A hr=>bG (Γ:=Gam0) (p:=q.at A) (by have:=hr.un;show A.units+200<cLine;omega) yP (zI (sG T.mgJ (v:=.ref jA) rfl T.jnD) yP) yP yP yP yP rfl) ⟨rfl,rfl,rfl,rfl,rfl,rfl,rfl,rfl⟩ zas (fun ws G Q h=>by obtain ⟨t,rfl,_⟩:=h;rfl) (fun ws G Q h=>hR rfl h);exact ⟨sx_hc FO F.kp (rY F fun _ _ _ _ _ _=>us1' fun _=>rfl) uF hr,zeu uF⟩
theorem zig (T:Txt q.K q.mg sA jA dA) {l:List Fn3} {A:Around} (hu:A.units+200<cLine) (hr1:Room 1 A) (h:∀ f∈l,qR (q.at A) f):L3.Good (GamL sA l) (q.at A) :=
 bG (Γ:=GamL sA l) hu h
  (zI (sG T.mgJ (v:=.ref jA) rfl T.jnD) (zI (nW T.bool (by decide +kernel)) (zI (nW T.tup (by decide +kernel)) (zI (sG T.mgS (v:=.ref sA) rfl fun _=>rfl) yP))))
  (zI zcX (zI za4 (zI zc0 (zI (zcY hu) (zI zcZ yP)))))
  (zI (zcV T.range) yP)
  yP
  (zI (zcW T.list T.rev) (zI ⟨zgW,zaO⟩ (zI (fI T hr1) yP))) rfl
theorem sY {k:Nat} {A:Around} (hr:Room k A):A.units+200<cLine:=by have:=hr.un;omega
theorem good (T:Txt q.K q.mg sA jA dA) {n:Nat} (h:Pn q sA n):∀ A,Room (rk n) A->L3.Good (wT q.K sA n) (q.at A):=fun A hr=>zig T (sY hr) (hr.mono (by unfold rk;omega)) (h A hr)
theorem next {n:Nat} {e:Fn3} (h:Pn q sA n) (hk:rk n<=rk (n+1)) (he:(fnL q.K sA).take (n+1)=(fnL q.K sA).take n++[e]) (hx:∀ A,Room (rk (n+1)) A->qR (q.at A) e):Pn q sA (n+1):=fun A hr=>by
 rw [he];exact pP (h A (hr.mono hk)) (hx A hr)
theorem p10 (T:Txt q.K q.mg sA jA dA):Pn q sA 10:=fun A hr=>zI (zgm T.max) (zI (zgo T.len) (zI (zgs T.all) (zI (zgn T.list) (zI (zgp T.isi) (zI (zgr T.any) (zI (zgl (sY hr) T.srt) (zI (zgj T.tup) (zI (zgq T.int) (zI (zgk T.sum) yP)))))))))
theorem jM {n:Nat} {nm qual:Str} {st:Stmt} {f:Addr} {M:MC} {ps:List Str} {sp:vO} {body:ISs} (T:Txt q.K q.mg sA jA dA) (h:Pn q sA n) (hk:rk n+1<=rk (n+1)) (hm:q.mg nm=some (.ref f)) (hd:HD q.K nm qual st .none f) (S:FnScope M.N ps (zY st)) (eM:MOk (wT q.K sA n) M (zY st)) (look:kO body M (zF st)=true)
  (len:∀ ws G Q,sp ws G Q XN->ws.length=ps.length) (hb:∀ ws G Q,sp ws G Q XN->zE (wT q.K sA n) XN body { nx:=fun _ G'=>Q .non G',rt:=Q } (yJ M.N ws) G) (mono:gM ⟨nm,sp⟩)
  (hbind:∀ (kV doc pm:Value) (an:Option Addr) (cdv ct:Value) (us:List Value),us.length=ps.length->bindArgs (fnOf nm qual (yS st) (zF st) (zY st) .none kV doc pm an cdv ct) ⟨us,[]⟩=pure (ps.zip us))
  (he:(fnL q.K sA).take (n+1)=(fnL q.K sA).take n++[⟨nm,sp⟩]):Pn q sA (n+1):=by
 obtain ⟨fd,F,_⟩:=hd.fd;have FO:=uM F S (good T h) eM look len hb;exact next h (by omega) he fun A hr=>nV FO hm F.kp (rY F hbind) mono hr hk
theorem zcp {n N:Nat} {nm qual:Str} {st:Stmt} {f:Addr} {M:MC} {ps:List Str} {sp:Nat->vO} {body:ISs} (T:Txt q.K q.mg sA jA dA) (h:Pn q sA n) (hk:rk n+N<=rk (n+1)) (hm:q.mg nm=some (.ref f)) (hd:HD q.K nm qual st .none f) (S:FnScope M.N ps (zY st)) (eM:∀ j,MOk (xJ q.K sA n ⟨nm,sp j⟩) M (zY st)) (look:kO body M (zF st)=true)
  (h0:∀ ws G Q,¬ sp 0 ws G Q XN) (len:∀ j ws G Q,sp j ws G Q XN->ws.length=ps.length) (hb:∀ j ws G Q,sp (j+1) ws G Q XN->zE (xJ q.K sA n ⟨nm,sp j⟩) XN body { nx:=fun _ G'=>Q .non G',rt:=Q } (yJ M.N ws) G) (mono:∀ j,gM ⟨nm,sp j⟩)
  (hbind:∀ (kV doc pm:Value) (an:Option Addr) (cdv ct:Value) (us:List Value),us.length=ps.length->bindArgs (fnOf nm qual (yS st) (zF st) (zY st) .none kV doc pm an cdv ct) ⟨us,[]⟩=pure (ps.zip us))
  (he:(fnL q.K sA).take (n+1)=(fnL q.K sA).take n++[⟨nm,sp N⟩]):Pn q sA (n+1):=by
 obtain ⟨fd,F,_⟩:=hd.fd;have FO:=zeU (k:=rk n) (Γ:=fun e=>xJ q.K sA n e) F S hm (rY F hbind) h0 len mono (fun j A hr hx=>zig T (sY hr) (hr.mono (by unfold rk;omega)) (pP (h A hr) hx)) eM look hb N;exact next h (by omega) he fun A hr=>nV FO hm F.kp (rY F hbind) (mono N) hr hk
theorem zdg {K:yM} {x qual:Str} {st:Stmt} {T f:Addr} {fd:FuncData} {ps:List Str} {o:Obj} {items:Array Value} {n:Nat} {ds:List Value} (F:FunD K x qual st (.ref T) f fd) (l:K.lookup T=some o) (hd:o.data=.seq items n)
  (h:∀ (kV doc pm:Value) (an:Option Addr) (cdv ct:Value) (us:List Value),(us++ds).length=ps.length->∃ k:Option (Array Value)->Sem (List (Str×Value)),bindArgs (fnOf x qual (yS st) (zF st) (zY st) (.ref T) kV doc pm an cdv ct) ⟨us,[]⟩=seqItems? (.ref T) >>= k/\k (some items)=pure (ps.zip (us++ds))):vM K fd ps ds:=by
 obtain ⟨oc,od,kV,doc,pm,an,cdv,ct,osl,rfl,lk,hcd⟩:=F.ex;intro s us X hl;obtain ⟨k,h1,h2⟩:=h kV doc pm an cdv ct us hl;exact BindsTo.of_defaults rfl (X _ _ l) hd h1 h2
theorem usS {P:List Value->Prop} {n:Nat} (h:∀ a l,l.length=n->P (a::l)) (us:List Value) (e:us.length=n+1):P us:=by
 cases us with
 |nil=>exact absurd e (Nat.succ_ne_zero n).symm
 |cons a l=>exact h a l (Nat.succ.inj e)
theorem us0 {P:List Value->Prop} (h:P []) (us:List Value) (e:us.length=0):P us:=by
 cases us with
 |nil=>exact h
 |cons a l=>exact absurd e (Nat.succ_ne_zero _)
theorem us1 {P:List Value->Prop} (h:∀ a0,P [a0]):∀ us:List Value,us.length=1->P us:=usS (P:=fun l=>P (l)) (fun a0=>us0 (P:=fun l=>P (a0::l)) (h a0))
theorem us2 {P:List Value->Prop} (h:∀ a0 a1,P [a0,a1]):∀ us:List Value,us.length=2->P us:=usS (P:=fun l=>P (l)) (fun a0=>usS (P:=fun l=>P (a0::l)) (fun a1=>us0 (P:=fun l=>P (a0::a1::l)) (h a0 a1)))
theorem us3 {P:List Value->Prop} (h:∀ a0 a1 a2,P [a0,a1,a2]):∀ us:List Value,us.length=3->P us:=usS (P:=fun l=>P (l)) (fun a0=>usS (P:=fun l=>P (a0::l)) (fun a1=>usS (P:=fun l=>P (a0::a1::l)) (fun a2=>us0 (P:=fun l=>P (a0::a1::a2::l)) (h a0 a1 a2))))
theorem p11 (T:Txt q.K q.mg sA jA dA):Pn q sA 11:=by
 obtain ⟨f,hm,hd⟩:=T.deal
 exact jM (sp:=zbP) (M:=mJ) T (p10 T) (by decide) hm hd zam ⟨rfl,rfl,rfl,rfl,rfl,rfl,rfl,rfl⟩ fU
  (fun ws G Q h=>by obtain ⟨a,b,ns,rfl,_⟩:=h;rfl) (fun ws G Q ⟨a,b,ns,e,h1,h2,h3,h4⟩=>by subst e;exact zeE rfl rfl h1 h2 h3 h4) (zaf) (fun _ _ _ _ _ _=>us2 (fun _ _=>rfl)) rfl
theorem p12 (T:Txt q.K q.mg sA jA dA):Pn q sA 12:=by
 obtain ⟨f,hm,hd⟩:=T.draw
 exact jM (sp:=zbO) (M:=mK) T (p11 T) (by decide) hm hd zal ⟨rfl,rfl,rfl,rfl,rfl,rfl,rfl,rfl⟩ fV
  (fun ws G Q h=>by obtain ⟨a,b,m,rfl,_⟩:=h;rfl) (fun ws G Q ⟨a,b,m,e,h1,h2,h3⟩=>by subst e;exact zeB rfl rfl h1 h2 h3) (zae) (fun _ _ _ _ _ _=>us2 (fun _ _=>rfl)) rfl
theorem p13 (T:Txt q.K q.mg sA jA dA):Pn q sA 13:=by
 obtain ⟨f,hm,hd⟩:=T.names
 exact jM (sp:=pB) (M:=pZ) T (p12 T) (by decide) hm hd bT ⟨rfl,rfl,rfl,rfl,rfl,rfl,rfl,rfl⟩ mB
  (fun ws G Q h=>by obtain ⟨d,l,m,rfl,_⟩:=h;rfl) (fun ws G Q h=>zcn (by decide) h) (fun ws G Q Q' E k hh=>by
   obtain ⟨d,l,m,h1,h2,h3,h4,h⟩:=hh;exact ⟨d,l,m,h1,h2,h3,h4,fun r xs G' a b c d e f=>k _ _ (h r xs G' a b c d e f)⟩) (fun _ _ _ _ _ _=>us2 (fun _ _=>rfl)) rfl
theorem p14 (T:Txt q.K q.mg sA jA dA):Pn q sA 14:=by
 obtain ⟨f,hm,hd⟩:=T.saying
 exact zcp (N:=8) (sp:=wZ) (M:=sN) T (p13 T) (by decide) hm hd gE (fun j=>⟨rfl,rfl,rfl,rfl,rfl,rfl,rfl,rfl⟩) pH
  (fun ws G Q hh=>by
   obtain ⟨d,l,r,m,xs,_,_,_,_,_,_,_,h1,h2,_⟩:=hh;omega) (fun j ws G Q h=>by obtain ⟨d,l,r,m,xs,rfl,_⟩:=h;rfl) (fun j ws G Q h=>zbi h) (fun j ws G Q Q' E k hh=>by
   obtain ⟨d,l,r,m,xs,h1,h2,h3,h4,h5,h6,h7,h8,h9,h10,h⟩:=hh;exact ⟨d,l,r,m,xs,h1,h2,h3,h4,h5,h6,h7,h8,h9,h10,fun t G' a b c d=>k _ _ (h t G' a b c d)⟩) (fun _ _ _ _ _ _=>us3 fun _ _ _=>rfl) rfl
theorem p15 (T:Txt q.K q.mg sA jA dA):Pn q sA 15:=by
 obtain ⟨f,hm,hd⟩:=T.says
 exact jM (sp:=bZ) (M:=mN) T (p14 T) (by decide) hm hd zai ⟨rfl,rfl,rfl,rfl,rfl,rfl,rfl,rfl⟩ fY
  (fun ws G Q h=>by obtain ⟨m,rfl,_⟩:=h;rfl) (fun ws G Q h=>zdL h) (fun ws G Q Q' E k hh=>by
   obtain ⟨m,h1,h2,h⟩:=hh;exact ⟨m,h1,h2,k _ _ h⟩) (fun _ _ _ _ _ _=>us1 (fun _=>rfl)) rfl
theorem p16 (T:Txt q.K q.mg sA jA dA):Pn q sA 16:=by
 obtain ⟨f,hm,hd⟩:=T.parts
 exact zcp (N:=9) (sp:=wV) (M:=rA) T (p15 T) (by decide) hm hd bU (fun j=>⟨rfl,rfl,rfl,rfl,rfl,rfl,rfl,rfl⟩) mD
  (fun ws G Q hh=>by
   obtain ⟨t,_,_,h1,_⟩:=hh;omega) (fun j ws G Q h=>by obtain ⟨t,rfl,_⟩:=h;rfl) (fun j ws G Q h=>zcc h) (fun j ws G Q Q' E k hh=>by
   obtain ⟨t,h1,h2,h3,h⟩:=hh;exact ⟨t,h1,h2,h3,fun r ps G' a b c d e f=>k _ _ (h r ps G' a b c d e f)⟩) (fun _ _ _ _ _ _=>us1 fun _=>rfl) rfl
theorem p17 (T:Txt q.K q.mg sA jA dA):Pn q sA 17:=by
 obtain ⟨f,hm,hd⟩:=T.word
 exact jM (sp:=cA) (M:=mQ) T (p16 T) (by decide) hm hd zag ⟨rfl,rfl,rfl,rfl,rfl,rfl,rfl,rfl⟩ gA
  (fun ws G Q h=>by obtain ⟨d,l,t,rfl,_⟩:=h;rfl) (fun ws G Q h=>zdq (by decide) h) (fun ws G Q Q' E k hh=>by
   obtain ⟨d,l,t,h1,h2,h⟩:=hh;exact ⟨d,l,t,h1,h2,fun x G' a b=>k _ _ (h x G' a b)⟩) (fun _ _ _ _ _ _=>us2 (fun _ _=>rfl)) rfl
theorem p18 (T:Txt q.K q.mg sA jA dA):Pn q sA 18:=by
 obtain ⟨f,hm,hd⟩:=T.cond
 exact zcp (N:=5) (sp:=jI) (M:=vR) T (p17 T) (by decide) hm hd rV (fun j=>⟨rfl,rfl,rfl,rfl,rfl,rfl,rfl,rfl⟩) tN
  (fun ws G Q hh=>by
   obtain ⟨d,l,p,ps,k,_,_,h1,_⟩:=hh;omega) (fun j ws G Q h=>by obtain ⟨d,l,p,ps,k,rfl,_⟩:=h;rfl) (fun j ws G Q h=>zeI h) (fun j ws G Q Q' E k hh=>by
   obtain ⟨d,l,p,ps,kk,h1,h2,h3,h4,h⟩:=hh;exact ⟨d,l,p,ps,kk,h1,h2,h3,h4,fun c G' a b e f=>k _ _ (h c G' a b e f)⟩) (fun _ _ _ _ _ _=>us3 fun _ _ _=>rfl) rfl
theorem p19 (T:Txt q.K q.mg sA jA dA):Pn q sA 19:=by
 obtain ⟨f,hm,hd⟩:=T.count
 exact zcp (N:=60) (sp:=jY) (M:=pX) T (p18 T) (by decide) hm hd bR (fun j=>⟨rfl,rfl,rfl,rfl,rfl,rfl,rfl,rfl⟩) hX
  (fun ws G Q hh=>by
   obtain ⟨w,_,_,h1,_⟩:=hh;omega) (fun j ws G Q h=>by obtain ⟨w,rfl,_⟩:=h;rfl) (fun j ws G Q h=>zc7 h) (fun j ws G Q Q' E k hh=>by
   obtain ⟨w,h1,h2,h3,h⟩:=hh;exact ⟨w,h1,h2,h3,fun i G' a=>k _ _ (h i G' a)⟩) (fun _ _ _ _ _ _=>us1 fun _=>rfl) rfl
theorem p20 (T:Txt q.K q.mg sA jA dA):Pn q sA 20:=by
 obtain ⟨f,hm,hd⟩:=T.sme
 exact jM (sp:=nM) (M:=mP) T (p19 T) (by decide) hm hd zah ⟨rfl,rfl,rfl,rfl,rfl,rfl,rfl,rfl⟩ fZ
  (fun ws G Q h=>by obtain ⟨d,l,p,xs,rfl,_⟩:=h;rfl) (fun ws G Q h=>zdG (by decide) h) (fun ws G Q Q' E k hh=>by
   obtain ⟨d,l,p,xs,h1,h2,h3,h4,h5,h⟩:=hh;exact ⟨d,l,p,xs,h1,h2,h3,h4,h5,fun ys G' a b c e=>k _ _ (h ys G' a b c e)⟩) (fun _ _ _ _ _ _=>us2 (fun _ _=>rfl)) rfl
theorem p21 (T:Txt q.K q.mg sA jA dA):Pn q sA 21:=by
 obtain ⟨f,hm,hd⟩:=T.doubts
 exact jM (sp:=sS) (M:=sM) T (p20 T) (by decide) hm hd gD ⟨rfl,rfl,rfl,rfl,rfl,rfl,rfl,rfl⟩ pG
  (fun ws G Q h=>by obtain ⟨d,l,p,ps,rfl,_⟩:=h;rfl) (fun ws G Q h=>zbv (by decide) h) (fun ws G Q Q' E k hh=>by
   obtain ⟨d,l,p,ps,h1,h2,h⟩:=hh;exact ⟨d,l,p,ps,h1,h2,fun ys G' a b c e=>k _ _ (h ys G' a b c e)⟩) (fun _ _ _ _ _ _=>us2 (fun _ _=>rfl)) rfl
theorem p22 (T:Txt q.K q.mg sA jA dA):Pn q sA 22:=by
 obtain ⟨f,hm,hd⟩:=T.move
 exact jM (sp:=bX) (M:=mL) T (p21 T) (by decide) hm hd zak ⟨rfl,rfl,rfl,rfl,rfl,rfl,rfl,rfl⟩ fW
  (fun ws G Q h=>by obtain ⟨d,l,p,ps,rfl,_⟩:=h;rfl) (fun ws G Q h=>zeb (by decide) h) (fun ws G Q Q' E k hh=>by
   obtain ⟨d,l,p,ps,h1,h2,h⟩:=hh;exact ⟨d,l,p,ps,h1,h2,fun m G' a b c=>k _ _ (h m G' a b c)⟩) (fun _ _ _ _ _ _=>us2 (fun _ _=>rfl)) rfl
theorem p23 (T:Txt q.K q.mg sA jA dA):Pn q sA 23:=by
 obtain ⟨f,hm,hd⟩:=T.near
 exact jM (sp:=bY) (M:=mM) T (p22 T) (by decide) hm hd zaj ⟨rfl,rfl,rfl,rfl,rfl,rfl,rfl,rfl⟩ fX
  (fun ws G Q h=>by obtain ⟨d,l,t,m,rfl,_⟩:=h;rfl) (fun ws G Q h=>zea (by decide) h) (fun ws G Q Q' E k hh=>by
   obtain ⟨d,l,t,m,h1,h2,h3,h4,h⟩:=hh;exact ⟨d,l,t,m,h1,h2,h3,h4,fun c G' a b e f=>k _ _ (h c G' a b e f)⟩) (fun _ _ _ _ _ _=>us3 (fun _ _ _=>rfl)) rfl
theorem p24 (T:Txt q.K q.mg sA jA dA):Pn q sA 24:=by
 obtain ⟨f,hm,hd⟩:=T.joined
 exact jM (sp:=wS) (M:=mR) T (p23 T) (by decide) hm hd rD ⟨rfl,rfl,rfl,rfl,rfl,rfl,rfl,rfl⟩ gB
  (fun ws G Q h=>by obtain ⟨c,rfl,_⟩:=h;rfl) (fun ws G Q h=>hR rfl h) (fun ws G Q Q' E k hh=>by
   obtain ⟨c,h1,h⟩:=hh;exact ⟨c,h1,k _ _ h⟩) (fun _ _ _ _ _ _=>us1 (fun _=>rfl)) rfl
theorem p25 (T:Txt q.K q.mg sA jA dA):Pn q sA 25:=by
 obtain ⟨f,hm,hd⟩:=T.within
 exact jM (sp:=sX sA) (M:=rB) T (p24 T) (by decide) hm hd bV ⟨rfl,rfl,rfl,rfl,rfl,rfl,rfl,rfl⟩ mF
  (fun ws G Q h=>by obtain ⟨c,rfl,_⟩:=h;rfl) (fun ws G Q h=>zbb h) (fun ws G Q Q' E k hh=>by
   obtain ⟨c,h1,h2,h⟩:=hh;exact ⟨c,h1,h2,h.mono k⟩) (fun _ _ _ _ _ _=>us2 (fun _ _=>rfl)) rfl
theorem p26 (T:Txt q.K q.mg sA jA dA):Pn q sA 26:=by
 obtain ⟨f,hm,hd⟩:=T.said
 exact jM (sp:=sU) (M:=zaW) T (p25 T) (by decide) hm hd zb1 ⟨rfl,rfl,rfl,rfl,rfl,rfl,rfl,rfl⟩ zar
  (fun ws G Q h=>by obtain ⟨x,s,rfl,_⟩:=h;rfl) (fun ws G Q h=>zdM h) (fun ws G Q Q' E k hh=>by
   obtain ⟨x,s,h1,h⟩:=hh;exact ⟨x,s,h1,k _ _ h⟩) (fun _ _ _ _ _ _=>us1 (fun _=>rfl)) rfl
theorem p27 (T:Txt q.K q.mg sA jA dA):Pn q sA 27:=by
 obtain ⟨f,hm,hd⟩:=T.told
 exact jM (sp:=sW) (M:=zaV) T (p26 T) (by decide) hm hd zb0 ⟨rfl,rfl,rfl,rfl,rfl,rfl,rfl,rfl⟩ zaq
  (fun ws G Q h=>by obtain ⟨m,rfl,_⟩:=h;rfl) (fun ws G Q h=>zdA (by decide) h) (fun ws G Q Q' E k hh=>by
   obtain ⟨m,h1,h2,h⟩:=hh;exact ⟨m,h1,h2,k _ _ h⟩) (fun _ _ _ _ _ _=>us1 (fun _=>rfl)) rfl
theorem p28 (T:Txt q.K q.mg sA jA dA):Pn q sA 28:=by
 obtain ⟨f,hm,hd⟩:=T.hom
 exact jM (sp:=(zdF noSd)) (M:=uY) T (p27 T) (by decide) hm hd pJ ⟨rfl,rfl,rfl,rfl,rfl,rfl,rfl,rfl⟩ sK
  (fun ws G Q h=>by obtain ⟨c,m,p,rfl,_⟩:=h;rfl) (fun ws G Q h=>zgb (by decide) h) (fun ws G Q Q' E k hh=>by
   obtain ⟨c,m,p,h1,h2,h3,h4,h5,h6,h⟩:=hh;exact ⟨c,m,p,h1,h2,h3,h4,h5,h6,fun G' a=>k _ _ (h G' a)⟩) (fun _ _ _ _ _ _=>us3 (fun _ _ _=>rfl)) rfl
theorem p29 (T:Txt q.K q.mg sA jA dA):Pn q sA 29:=by
 obtain ⟨f,hm,hd⟩:=T.single
 exact jM (sp:=sV) (M:=uB) T (p28 T) (by decide) hm hd nG ⟨rfl,rfl,rfl,rfl,rfl,rfl,rfl,rfl⟩ rO
  (fun ws G Q h=>by obtain ⟨c,t,m,rfl,_⟩:=h;rfl) (fun ws G Q h=>zbg (by decide) h) (fun ws G Q Q' E k hh=>by
   obtain ⟨c,t,m,h1,h2,h3,h4,h5,h⟩:=hh;exact ⟨c,t,m,h1,h2,h3,h4,h5,fun G' a=>k _ _ (h G' a)⟩) (fun _ _ _ _ _ _=>us3 (fun _ _ _=>rfl)) rfl
theorem p30 (T:Txt q.K q.mg sA jA dA):Pn q sA 30:=by
 obtain ⟨f,hm,hd⟩:=T.holds;obtain ⟨fd,F,_⟩:=hd.fd;obtain ⟨o,m,l,hdt⟩:=T.dtH;have FO:=uM (sp:=jJ) (M:=zcq) F zb3 (good T (p29 T)) ⟨rfl,rfl,rfl,rfl,rfl,rfl,rfl,rfl⟩ dN (fun ws G Q h=>by obtain ⟨c,t,m,rfl,_⟩:=h;rfl) (fun ws G Q h=>dE (by decide) h)
 exact next (p29 T) (by decide) rfl fun A hr=>nV FO hm F.kp (zdh F l hdt fun _ _ _ _ _ _=>us3 fun _ _ _=>⟨_,rfl,rfl⟩) (fun ws G Q Q' E k hh=>by
   obtain ⟨c,t,m,h1,h2,h3,h4,h5,h⟩:=hh;exact ⟨c,t,m,h1,h2,h3,h4,h5,fun G' a=>k _ _ (h G' a)⟩) hr (by decide)
theorem p31 (T:Txt q.K q.mg sA jA dA):Pn q sA 31:=by
 obtain ⟨f,hm,hd⟩:=T.lholds
 exact zcp (N:=8) (sp:=xG) (M:=pY) T (p30 T) (by decide) hm hd bS (fun j=>⟨rfl,rfl,rfl,rfl,rfl,rfl,rfl,rfl⟩) hZ
  (fun ws G Q hh=>by
   obtain ⟨c,t,m,_,_,_,_,h1,_⟩:=hh;omega) (fun j ws G Q h=>by obtain ⟨c,t,m,rfl,_⟩:=h;rfl) (fun j ws G Q h=>zbo h) (fun j ws G Q Q' E k hh=>by
   obtain ⟨c,t,m,h1,h2,h3,h4,h5,h⟩:=hh;exact ⟨c,t,m,h1,h2,h3,h4,h5,fun G' a=>k _ _ (h G' a)⟩) (fun _ _ _ _ _ _=>us3 fun _ _ _=>rfl) rfl
theorem sT:∀ ws G (Q Q':Q3),(∀ w G',Q w G'->Q' w G')->jJ ws G Q XN->jJ ws G Q' XN:=fun ws G Q Q' k h=>by
 obtain ⟨c,t,m,h1,h2,h3,h4,h5,h⟩:=h;exact ⟨c,t,m,h1,h2,h3,h4,h5,fun G' a=>k _ _ (h G' a)⟩
theorem zdC (T:Txt q.K q.mg sA jA dA) {A:Around} (hr:Room (rk 30) A):SxE (q.at A) ⟨dcM "holds", dcS jJ [.non]⟩/\wB (dcS jJ [.non]):=by
 obtain ⟨f,hm,hd⟩:=T.holds;obtain ⟨fd,F,_⟩:=hd.fd;obtain ⟨o,m,l,hdt⟩:=T.dtH;have FO:=uM (sp:=jJ) (M:=zcq) F zb3 (good T (p29 T)) ⟨rfl,rfl,rfl,rfl,rfl,rfl,rfl,rfl⟩ dN (fun ws G Q h=>by obtain ⟨c,t,m,rfl,_⟩:=h;rfl) (fun ws G Q h=>dE (by decide) h);refine ⟨sx_dc (zfd (dws:=[.non]) (dvs:=[.non]) (ds:=[.none]) FO hm F.kp (zdg F l hdt fun _ _ _ _ _ _ us hl=>?_) (fun H=>⟨_,_,rfl,rfl,rfl⟩) (.cons rfl .nil) sT (hr.mono (by decide))),zeF sT⟩;have hl':us.length=2:=by simpa using hl
 clear hl
 revert us hl';refine us2 ?_;exact fun _ _=>⟨_,rfl,rfl⟩
theorem goodW (T:Txt q.K q.mg sA jA dA) (h:Pn q sA 31):∀ A,Room (rk 31) A->L3.Good (wI q.K sA) (q.at A):=fun A hr=>by
 have hu:=sY hr
 exact bG (Γ:=wI q.K sA) hu (h A hr)
  (zI (sG T.mgJ (v:=.ref jA) rfl T.jnD) (zI (nW T.bool (by decide +kernel)) (zI (nW T.tup (by decide +kernel)) (zI (sG T.mgS (v:=.ref sA) rfl fun _=>rfl) yP))))
  (zI zcX (zI za4 (zI zc0 (zI (zcY hu) (zI zcZ yP)))))
  (zI (zcV T.range) yP)
  yP
  (zI (zcW T.list T.rev) (zI ⟨zgW,zaO⟩ (zI (fI T (hr.mono (by decide))) (zI (zdC T (hr.mono (by decide))) yP)))) rfl
theorem zhP {P:Program} {w:World} {K:yM} {mg:Str->Option Value} (T:Txt K mg sA jA dA) {f:Addr} (hd:HD K "law" "law" slaw .none f):∃ fd:FuncData,(∀ (s:Shared) (u:Value),BindsTo s fd ⟨[u],[]⟩ [("_law_script", u)])/\∀ base:Heap,FnOk P w K mg base CX0 155 f fd ["_law_script"] (vQ K fE):=by
 obtain ⟨fd,F,kV,doc,pm,an,cdv,ct,e⟩:=hd.fd;refine ⟨fd,fun s u=>by subst e;exact .of_eq rfl,fun base=>uM (q:=⟨P,w,K,mg,base⟩) (k:=154) (sp:=fE) (M:=mlaw) F sclaw (goodW (q:=⟨P,w,K,mg,base⟩) T (p31 T)) ⟨rfl,rfl,rfl,rfl,rfl,rfl,rfl,rfl⟩ zfU (fun ws G Q h=>by obtain ⟨a,ns,rfl,_⟩:=h;rfl) fun ws G Q h=>?_⟩;obtain ⟨a,ns,rfl,hs,hl,h⟩:=h;exact zfX hs hl h
end
theorem all_mk {l:PySem.W.OpenLaw} {w:World} {K:yM} {h:Heap} {mg:Str->Option Value} {fa sA jA dA f1 f2 f3 f4 f5 f6 f7 f8 f9 f10 f11 f12 f13 f14 f15 f16 f17 f18 f19 f20 f21 f22:Addr} (X:K.In h) (G:h.Ns mainGlobals mg) (hfa:mg "law" = some (.ref fa))
  {od1 an1 od2 an2 od3 an3 od4 an4 od5 an5 od6 an6 od7 an7 od8 an8 od9 an9 od10 an10 od11 an11 od12 an12 od13 an13 od14 an14 od15 an15 od16 an16 od17 an17 od18 an18 od19 an19 od20 an20 od21 an21 od22 an22:Option Addr} {sl1 sl2 sl3 sl4 sl5 sl6 sl7 sl8 sl9 sl10 sl11 sl12 sl13 sl14 sl15 sl16 sl17 sl18 sl19 sl20 sl21 sl22:Array (Option Value)} {oc1 kV1 dc1 pm1 cd1 ct1 oc2 kV2 dc2 pm2 cd2 ct2 oc3 kV3 dc3 pm3 cd3 ct3 oc4 kV4 dc4 pm4 cd4 ct4 oc5 kV5 dc5 pm5 cd5 ct5 oc6 kV6 dc6 pm6 cd6 ct6 oc7 kV7 dc7 pm7 cd7 ct7 oc8 kV8 dc8 pm8 cd8 ct8 oc9 kV9 dc9 pm9 cd9 ct9 oc10 kV10 dc10 pm10 cd10 ct10 oc11 kV11 dc11 pm11 cd11 ct11 oc12 kV12 dc12 pm12 cd12 ct12 oc13 kV13 dc13 pm13 cd13 ct13 oc14 kV14 dc14 pm14 cd14 ct14 oc15 kV15 dc15 pm15 cd15 ct15 oc16 kV16 dc16 pm16 cd16 ct16 oc17 kV17 dc17 pm17 cd17 ct17 oc18 kV18 dc18 pm18 cd18 ct18 oc19 kV19 dc19 pm19 cd19 ct19 oc20 kV20 dc20 pm20 cd20 ct20 oc21 kV21 dc21 pm21 cd21 ct21 oc22 kV22 dc22 pm22 cd22 ct22:Value} {odS anS oD:Option Addr} {slS sD:Array (Option Value)} {ocS kVS dcS pmS cdS ctS cD:Value} {tk1 tk2 tk3 ti1 ti2 ti3:Tok} {nJ nD:Nat} {hs1 hs2 hs3:Int}
  (a1:nsIn K mainGlobals "_law_deal" = some (some (.ref f1))) (l1:K.lookup f1=some ⟨oc1,od1,.func (fnOf "_law_deal" "_law_deal" (yS jQ) (zF jQ) (zY jQ) .none kV1 dc1 pm1 an1 cd1 ct1),sl1⟩) (c1:codeIn K cd1 "_law_deal" = true) (k1:keepIn K (.ref f1)=true)
  (a2:nsIn K mainGlobals "_law_draw" = some (some (.ref f2))) (l2:K.lookup f2=some ⟨oc2,od2,.func (fnOf "_law_draw" "_law_draw" (yS jR) (zF jR) (zY jR) .none kV2 dc2 pm2 an2 cd2 ct2),sl2⟩) (c2:codeIn K cd2 "_law_draw" = true) (k2:keepIn K (.ref f2)=true)
  (a3:nsIn K mainGlobals "_law_names" = some (some (.ref f3))) (l3:K.lookup f3=some ⟨oc3,od3,.func (fnOf "_law_names" "_law_names" (yS wP) (zF wP) (zY wP) .none kV3 dc3 pm3 an3 cd3 ct3),sl3⟩) (c3:codeIn K cd3 "_law_names" = true) (k3:keepIn K (.ref f3)=true)
  (a4:nsIn K mainGlobals "_law_saying" = some (some (.ref f4))) (l4:K.lookup f4=some ⟨oc4,od4,.func (fnOf "_law_saying" "_law_saying" (yS xD) (zF xD) (zY xD) .none kV4 dc4 pm4 an4 cd4 ct4),sl4⟩) (c4:codeIn K cd4 "_law_saying" = true) (k4:keepIn K (.ref f4)=true)
  (a5:nsIn K mainGlobals "_law_says" = some (some (.ref f5))) (l5:K.lookup f5=some ⟨oc5,od5,.func (fnOf "_law_says" "_law_says" (yS jU) (zF jU) (zY jU) .none kV5 dc5 pm5 an5 cd5 ct5),sl5⟩) (c5:codeIn K cd5 "_law_says" = true) (k5:keepIn K (.ref f5)=true)
  (a6:nsIn K mainGlobals "_law_parts" = some (some (.ref f6))) (l6:K.lookup f6=some ⟨oc6,od6,.func (fnOf "_law_parts" "_law_parts" (yS wQ) (zF wQ) (zY wQ) .none kV6 dc6 pm6 an6 cd6 ct6),sl6⟩) (c6:codeIn K cd6 "_law_parts" = true) (k6:keepIn K (.ref f6)=true)
  (a7:nsIn K mainGlobals "_law_word" = some (some (.ref f7))) (l7:K.lookup f7=some ⟨oc7,od7,.func (fnOf "_law_word" "_law_word" (yS jW) (zF jW) (zY jW) .none kV7 dc7 pm7 an7 cd7 ct7),sl7⟩) (c7:codeIn K cd7 "_law_word" = true) (k7:keepIn K (.ref f7)=true)
  (a8:nsIn K mainGlobals "_law_condition" = some (some (.ref f8))) (l8:K.lookup f8=some ⟨oc8,od8,.func (fnOf "_law_condition" "_law_condition" (yS yD) (zF yD) (zY yD) .none kV8 dc8 pm8 an8 cd8 ct8),sl8⟩) (c8:codeIn K cd8 "_law_condition" = true) (k8:keepIn K (.ref f8)=true)
  (a9:nsIn K mainGlobals "_law_count" = some (some (.ref f9))) (l9:K.lookup f9=some ⟨oc9,od9,.func (fnOf "_law_count" "_law_count" (yS wN) (zF wN) (zY wN) .none kV9 dc9 pm9 an9 cd9 ct9),sl9⟩) (c9:codeIn K cd9 "_law_count" = true) (k9:keepIn K (.ref f9)=true)
  (a10:nsIn K mainGlobals "_law_some" = some (some (.ref f10))) (l10:K.lookup f10=some ⟨oc10,od10,.func (fnOf "_law_some" "_law_some" (yS jV) (zF jV) (zY jV) .none kV10 dc10 pm10 an10 cd10 ct10),sl10⟩) (c10:codeIn K cd10 "_law_some" = true) (k10:keepIn K (.ref f10)=true)
  (a11:nsIn K mainGlobals "_law_doubts" = some (some (.ref f11))) (l11:K.lookup f11=some ⟨oc11,od11,.func (fnOf "_law_doubts" "_law_doubts" (yS xC) (zF xC) (zY xC) .none kV11 dc11 pm11 an11 cd11 ct11),sl11⟩) (c11:codeIn K cd11 "_law_doubts" = true) (k11:keepIn K (.ref f11)=true)
  (a12:nsIn K mainGlobals "_law_move" = some (some (.ref f12))) (l12:K.lookup f12=some ⟨oc12,od12,.func (fnOf "_law_move" "_law_move" (yS jS) (zF jS) (zY jS) .none kV12 dc12 pm12 an12 cd12 ct12),sl12⟩) (c12:codeIn K cd12 "_law_move" = true) (k12:keepIn K (.ref f12)=true)
  (a13:nsIn K mainGlobals "_law_near" = some (some (.ref f13))) (l13:K.lookup f13=some ⟨oc13,od13,.func (fnOf "_law_near" "_law_near" (yS jT) (zF jT) (zY jT) .none kV13 dc13 pm13 an13 cd13 ct13),sl13⟩) (c13:codeIn K cd13 "_law_near" = true) (k13:keepIn K (.ref f13)=true)
  (a14:nsIn K mainGlobals "joined_by" = some (some (.ref f14))) (l14:K.lookup f14=some ⟨oc14,od14,.func (fnOf "joined_by" "joined_by" (yS yG) (zF yG) (zY yG) .none kV14 dc14 pm14 an14 cd14 ct14),sl14⟩) (c14:codeIn K cd14 "joined_by" = true) (k14:keepIn K (.ref f14)=true)
  (a15:nsIn K mainGlobals "all_within" = some (some (.ref f15))) (l15:K.lookup f15=some ⟨oc15,od15,.func (fnOf "all_within" "all_within" (yS wR) (zF wR) (zY wR) .none kV15 dc15 pm15 an15 cd15 ct15),sl15⟩) (c15:codeIn K cd15 "all_within" = true) (k15:keepIn K (.ref f15)=true)
  (a16:nsIn K mainGlobals "said_by" = some (some (.ref f16))) (l16:K.lookup f16=some ⟨oc16,od16,.func (fnOf "said_by" "said_by" (yS qL) (zF qL) (zY qL) .none kV16 dc16 pm16 an16 cd16 ct16),sl16⟩) (c16:codeIn K cd16 "said_by" = true) (k16:keepIn K (.ref f16)=true)
  (a17:nsIn K mainGlobals "told_by" = some (some (.ref f17))) (l17:K.lookup f17=some ⟨oc17,od17,.func (fnOf "told_by" "told_by" (yS qM) (zF qM) (zY qM) .none kV17 dc17 pm17 an17 cd17 ct17),sl17⟩) (c17:codeIn K cd17 "told_by" = true) (k17:keepIn K (.ref f17)=true)
  (a18:nsIn K mainGlobals "holds_of_move" = some (some (.ref f18))) (l18:K.lookup f18=some ⟨oc18,od18,.func (fnOf "holds_of_move" "holds_of_move" (yS xS) (zF xS) (zY xS) .none kV18 dc18 pm18 an18 cd18 ct18),sl18⟩) (c18:codeIn K cd18 "holds_of_move" = true) (k18:keepIn K (.ref f18)=true)
  (a19:nsIn K mainGlobals "single_holds" = some (some (.ref f19))) (l19:K.lookup f19=some ⟨oc19,od19,.func (fnOf "single_holds" "single_holds" (yS xM) (zF xM) (zY xM) .none kV19 dc19 pm19 an19 cd19 ct19),sl19⟩) (c19:codeIn K cd19 "single_holds" = true) (k19:keepIn K (.ref f19)=true)
  (a20:nsIn K mainGlobals "holds" = some (some (.ref f20))) (l20:K.lookup f20=some ⟨oc20,od20,.func (fnOf "holds" "holds" (yS tW) (zF tW) (zY tW) (.ref dA) kV20 dc20 pm20 an20 cd20 ct20),sl20⟩) (c20:codeIn K cd20 "holds" = true) (k20:keepIn K (.ref f20)=true)
  (a21:nsIn K mainGlobals "_law_holds" = some (some (.ref f21))) (l21:K.lookup f21=some ⟨oc21,od21,.func (fnOf "_law_holds" "_law_holds" (yS wO) (zF wO) (zY wO) .none kV21 dc21 pm21 an21 cd21 ct21),sl21⟩) (c21:codeIn K cd21 "_law_holds" = true) (k21:keepIn K (.ref f21)=true)
  (a22:nsIn K mainGlobals "law" = some (some (.ref f22))) (l22:K.lookup f22=some ⟨oc22,od22,.func (fnOf "law" "law" (yS slaw) (zF slaw) (zY slaw) .none kV22 dc22 pm22 an22 cd22 ct22),sl22⟩) (c22:codeIn K cd22 "law" = true) (k22:keepIn K (.ref f22)=true)
  (z0:nsIn K mainGlobals "max" = some none)
  (z1:nsIn K mainGlobals "len" = some none)
  (z2:nsIn K mainGlobals "all" = some none)
  (z3:nsIn K mainGlobals "list" = some none)
  (z4:nsIn K mainGlobals "isinstance" = some none)
  (z5:nsIn K mainGlobals "any" = some none)
  (z6:nsIn K mainGlobals "sorted" = some none)
  (z7:nsIn K mainGlobals "tuple" = some none)
  (z8:nsIn K mainGlobals "int" = some none)
  (z9:nsIn K mainGlobals "sum" = some none)
  (z10:nsIn K mainGlobals "range" = some none)
  (z11:nsIn K mainGlobals "reversed" = some none)
  (z12:nsIn K mainGlobals "bool" = some none)
  (aS:nsIn K mainGlobals "joined_by" = some (some (.ref sA))) (lS:K.lookup sA=some ⟨ocS,odS,.func (fnOf "joined_by" "joined_by" (yS yG) (zF yG) (zY yG) .none kVS dcS pmS anS cdS ctS),slS⟩) (cS:codeIn K cdS "joined_by" = true) (kS:keepIn K (.ref sA)=true)
  (aJ:nsIn K mainGlobals "JOINED" = some (some (.ref jA))) (lJ:K.lookup jA=some ⟨.type "dict", none,.dict #[⟨hs1,.str "not" tk1,.int 1 ti1⟩,⟨hs2,.str "and" tk2,.int 2 ti2⟩,⟨hs3,.str "or" tk3,.int 2 ti3⟩] nJ,#[]⟩) (hw:(jA==sysModules)=false)
  (lD:K.lookup dA=some ⟨cD,oD,.seq #[.none] nD,sD⟩) :
  ∃ fd:FuncData,(∀ (s:Shared) (u:Value),BindsTo s fd ⟨[u],[]⟩ [("_law_script", u)])/\∀ base:Heap,K.In base->base.Ns mainGlobals mg->FnOk l.prog w K mg base CX0 155 fa fd ["_law_script"] (vQ K fE):=by
 have e:=hfa.symm.trans (mg_of X G a22);cases e;have sz0:∀ k:Nat,k<=5->k<=sizeLine:=fun k hk=>by rw [sizeLine_eq];omega
 have T:Txt K mg sA jA dA:={
  deal:=⟨f1,mg_of X G a1,HD.mk' l1 c1 k1⟩
  draw:=⟨f2,mg_of X G a2,HD.mk' l2 c2 k2⟩
  names:=⟨f3,mg_of X G a3,HD.mk' l3 c3 k3⟩
  saying:=⟨f4,mg_of X G a4,HD.mk' l4 c4 k4⟩
  says:=⟨f5,mg_of X G a5,HD.mk' l5 c5 k5⟩
  parts:=⟨f6,mg_of X G a6,HD.mk' l6 c6 k6⟩
  word:=⟨f7,mg_of X G a7,HD.mk' l7 c7 k7⟩
  cond:=⟨f8,mg_of X G a8,HD.mk' l8 c8 k8⟩
  count:=⟨f9,mg_of X G a9,HD.mk' l9 c9 k9⟩
  sme:=⟨f10,mg_of X G a10,HD.mk' l10 c10 k10⟩
  doubts:=⟨f11,mg_of X G a11,HD.mk' l11 c11 k11⟩
  move:=⟨f12,mg_of X G a12,HD.mk' l12 c12 k12⟩
  near:=⟨f13,mg_of X G a13,HD.mk' l13 c13 k13⟩
  joined:=⟨f14,mg_of X G a14,HD.mk' l14 c14 k14⟩
  within:=⟨f15,mg_of X G a15,HD.mk' l15 c15 k15⟩
  said:=⟨f16,mg_of X G a16,HD.mk' l16 c16 k16⟩
  told:=⟨f17,mg_of X G a17,HD.mk' l17 c17 k17⟩
  hom:=⟨f18,mg_of X G a18,HD.mk' l18 c18 k18⟩
  single:=⟨f19,mg_of X G a19,HD.mk' l19 c19 k19⟩
  holds:=⟨f20,mg_of X G a20,HD.mk' l20 c20 k20⟩
  lholds:=⟨f21,mg_of X G a21,HD.mk' l21 c21 k21⟩
  max:=mg_none_of X G z0
  len:=mg_none_of X G z1
  all:=mg_none_of X G z2
  list:=mg_none_of X G z3
  isi:=mg_none_of X G z4
  any:=mg_none_of X G z5
  srt:=mg_none_of X G z6
  tup:=mg_none_of X G z7
  int:=mg_none_of X G z8
  sum:=mg_none_of X G z9
  range:=mg_none_of X G z10
  rev:=mg_none_of X G z11
  bool:=mg_none_of X G z12
  mgS:=mg_of X G aS
  hdS:=HD.mk' lS cS kS
  mgJ:=mg_of X G aJ
  jnD:=fun H=>⟨jA,[.int 1,.int 2,.int 2],rfl,⟨_,_,_,lJ,⟨rfl,rfl,rfl⟩,rfl,sz0 3 (by decide),hw,⟨"not", tk1,.int 1,_,_,rfl,rfl,rfl,⟨_,rfl⟩,⟨"and", tk2,.int 2,_,_,rfl,rfl,rfl,⟨_,rfl⟩,⟨"or", tk3,.int 2,_,_,rfl,rfl,rfl,⟨_,rfl⟩,⟨rfl,rfl⟩⟩⟩⟩⟩,⟨_,_,rfl,rfl,⟨_,_,rfl,rfl,⟨_,_,rfl,rfl,rfl⟩⟩⟩⟩
  dtH:=⟨_,nD,lD,rfl⟩ }
 obtain ⟨fd,hb,hF⟩:=zhP (P:=l.prog) (w:=w) T (HD.mk' l22 c22 k22);exact ⟨fd,hb,fun base _ _=>hF base⟩
end K48
namespace PySem.W.Fast
def tw3765157138225400585:=0
def tw15865857684376202693:=0
def tw11183768047914139428:=0
def tw12186988116495019060:=0
def tw18044560158322761378:=0
def tw3823817348490111301:=0
def tw11068352569587766745:=0
def tw9466539990099502112:=0
def tw14758060829725442390:=0
def tw17912062089629619388:=0
def tw17014475527660973586:=0
def tw10029815747389874560:=0
def tw10405358641291020428:=0
def tw6924561943931594041:=0
def tw1053384103608457823:=0
def tw9234258202755045405:=0
def tw2917094080013327326:=0
def tw5812376619560916956:=0
def tw10680609922646275498:=0
def tw4266152823246826369:=0
def tw8749913929770180670:=0
def tw12773661995371719529:=0
def tw5733661072010027446:=0
def tw16763424169302076268:=0
def tw15410613168495661486:=0
def tw11131398093485963037:=0
def tw17374549455893990047:=0
def tw13373983948154490247:=0
def tw14729865326830610057:=0
def tw12892057980039769180:=0
def tw5885617633923618090:=0
def tw12035141377874463900:=0
def tw14643082552159222489:=0
def tw8042050191977558880:=0
def tw7941816257638066943:=0
def tw8693739635567365813:=0
def tw12783332934447595693:=0
def tw18403744953391569578:=0
def tw7754336455664232587:=0
def tw11776266177765862545:=0
def tw382447003302832319:=0
def tw14418794611938859281:=0
def tw5253642269302654085:=0
def tw1530921588817153991:=0
def tw17281831665407046894:=0
def tw2640530432662416178:=0
def tw5208394361154761721:=0
def tw11206646188590546592:=0
def tw15779452211389651500:=0
def tw10059556665737731451:=0
def tw11230842449949720291:=0
def tw1350132544071134059:=0
def tw4882466191515326961:=0
def tw10523782108978501191:=0
def tw9095124007266957076:=0
def tw9543215071225499482:=0
def tw4855257427141839004:=0
def tw7954906096810499451:=0
def tw11904366334604288628:=0
def tw3101107229979376972:=0
def tw6972664391978617053:=0
def tw2701052158419098507:=0
def tw11028114311332836375:=0
def tw18212897017245524772:=0
def tw13988184821336542367:=0
def tw1048507503400369776:=0
def tw6730827377887119585:=0
def tw3547353187746369942:=0
def tw9209588775864179568:=0
def tw12821531954311170357:=0
def tw2389208773101116214:=0
def tw10568119796930523567:=0
def tw7089108305938156096:=0
def tw6382943029383681365:=0
def tw1524648179103893570:=0
def tw3243265081294154101:=0
def tw1310100599029777870:=0
def tw7330756261498836763:=0
def tw4707083451773254113:=0
def tw8172575053341034685:=0
def tw12172975569190185138:=0
def tw11372578668352863867:=0
def tw13391234380243735837:=0
def tw17645177044654071158:=0
def tw17384639130327021241:=0
def tw9976147054129259587:=0
def tw4425438172117337300:=0
def tw10691763926146315565:=0
def tw1964120365984148432:=0
def tw558722699181113634:=0
end PySem.W.Fast
open PySem PySem.W PyProof.Rows
set_option maxRecDepth 100000 in
set_option maxHeartbeats 0 in
theorem PySem.Challenge.cw_talkcourt_k48_conditions_holds : PySem.Challenge.rw_talkcourt_k48_conditions.Holds := by
 w_on;o_law;k_head;(case hw=>w_witness2)
 k_fill
 refine L3.walk3 (l:=PySem.Challenge.rw_talkcourt_k48_conditions) (k:=155) rfl rfl ⟨rfl,rfl,by decide,by decide⟩ (fun w h Y=>PySem.W.kIn_of Y) ?F
 case F =>
  intro w mg fa h KX G hmg;refine' K48.all_mk KX G hmg ?a1 ?l1 ?c1 ?k1 ?a2 ?l2 ?c2 ?k2 ?a3 ?l3 ?c3 ?k3 ?a4 ?l4 ?c4 ?k4 ?a5 ?l5 ?c5 ?k5 ?a6 ?l6 ?c6 ?k6 ?a7 ?l7 ?c7 ?k7 ?a8 ?l8 ?c8 ?k8 ?a9 ?l9 ?c9 ?k9 ?a10 ?l10 ?c10 ?k10 ?a11 ?l11 ?c11 ?k11 ?a12 ?l12 ?c12 ?k12 ?a13 ?l13 ?c13 ?k13 ?a14 ?l14 ?c14 ?k14 ?a15 ?l15 ?c15 ?k15 ?a16 ?l16 ?c16 ?k16 ?a17 ?l17 ?c17 ?k17 ?a18 ?l18 ?c18 ?k18 ?a19 ?l19 ?c19 ?k19 ?a20 ?l20 ?c20 ?k20 ?a21 ?l21 ?c21 ?k21 ?a22 ?l22 ?c22 ?k22 ?z0 ?z1 ?z2 ?z3 ?z4 ?z5 ?z6 ?z7 ?z8 ?z9 ?z10 ?z11 ?z12 ?aS ?lS ?cS ?kS ?aJ ?lJ ?hw ?lD
  case a1|l1|c1|k1|a2|l2|c2|k2|a3|l3|c3|k3|a4|l4|c4|k4|a5|l5|c5|k5|a6|l6|c6|k6|a7|l7|c7|k7|a8|l8|c8|k8|a9|l9|c9|k9|a10|l10|c10|k10|a11|l11|c11|k11|a12|l12|c12|k12|a13|l13|c13|k13|a14|l14|c14|k14|a15|l15|c15|k15|a16|l16|c16|k16|a17|l17|c17|k17|a18|l18|c18|k18|a19|l19|c19|k19|a20|l20|c20|k20|a21|l21|c21|k21|a22|l22|c22|k22|z0|z1|z2|z3|z4|z5|z6|z7|z8|z9|z10|z11|z12|aS|lS|cS|kS|aJ|lJ|lD=>k_is
  case hw=>first|k_is|decide|rfl
