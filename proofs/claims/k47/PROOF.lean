import PyProof.Rows.All
import Wide.All
import OpenK.AllK
import Wide.FinOn
import Lean
import PyProof.EqAt
import PyProof.EqKinds
import PyProof.TupleCall
import PySem.Challenge.RW_talkcourt_k47_programs_or_none
set_option Elab.async false
set_option linter.all false
set_option maxRecDepth 100000
set_option maxHeartbeats 8000000
theorem zzN:¬ (false=true):=Bool.false_ne_true
theorem zzB:(false=true)=False:=Bool.false_eq_true
theorem zzC {α:Type _} {a:α} {l:List α}:(a::l).length=l.length+1:=rfl
theorem zzL {α:Type _}:([]:List α).length=0:=rfl
theorem zzA (n:Nat):0+n=n:=Nat.zero_add n
theorem zzM {α β:Type _} {l:List α} {f:α->β}:(l.map f).length=l.length:=List.length_map f
theorem zzP {α β:Type _} {b:β} {l:List α} {f:α->β} (h:b∈l.map f):∃ a,a∈l/\f a=b:=List.mem_map.mp h
theorem zzS {α:Type _} {l:List α}:l.toArray.size=l.length:=List.size_toArray
theorem zzR (n:Nat):n<=n:=Nat.le_refl n
theorem zzO {α:Type _} {a b:α} (h:a∈[b]):a=b:=List.mem_singleton.mp h
theorem zzT {α:Type _} {a:α} {l:List α}:a∈a::l:=List.mem_cons_self
theorem zzU {α β:Type _} {a:α} {l:List α} {f:α->β}:(a::l).map f=f a::l.map f:=rfl
theorem zzV {α β:Type _} {f:α->β}:([]:List α).map f=[]:=rfl
theorem zzW {α:Type _} {l l':List α}:(l++l').length=l.length+l'.length:=List.length_append
noncomputable section
namespace L2
open PySem PySem.Spec PyProof.Rows
abbrev xV:=Sum Int Str
def fD:xV->Value->Bool
 | .inl k,v=>Value.isInt k v
 | .inr x,v=>Value.isStrOf x v
def keyH (w:World):xV->Int
 | .inl k=>hashInt k
 | .inr x=>hashStr w x
theorem xP:∀ {k:xV} {v:Value},fD k v=true->(∃ i t,k=Sum.inl i/\v=Value.int i t)\/(∃ x t,k=Sum.inr x/\v=Value.str x t)
 | .inl i,v,h=>by
  obtain ⟨t,e⟩:=Value.isInt_shape (k:=i) (v:=v) h;exact .inl ⟨i,t,rfl,e⟩
 | .inr x,v,h=>by
  obtain ⟨t,e⟩:=Value.isStrOf_shape (x:=x) (v:=v) h;exact .inr ⟨x,t,rfl,e⟩
theorem zdh (i:Int) (t:Tok):fD (.inl i) (.int i t)=true:=by simp [fD,Value.isInt]
theorem zdf (x:Str) (t:Tok):fD (.inr x) (.str x t)=true:=by simp [fD,Value.isStrOf]
theorem ziE (a b:Int):decide ((Sum.inl a:xV)=Sum.inl b)=(a==b):=by
 by_cases e:a=b
 .subst e;simp
 .have h:¬ (Sum.inl a:xV)=Sum.inl b:=fun q=>e (Sum.inl.inj q);rw [decide_eq_false h];exact (beq_eq_false_iff_ne.mpr e).symm
theorem ziB (a b:Str):decide ((Sum.inr a:xV)=Sum.inr b)=decide (a=b):=by
 by_cases e:a=b
 .subst e;simp
 .have h:¬ (Sum.inr a:xV)=Sum.inr b:=fun q=>e (Sum.inr.inj q);rw [decide_eq_false h,decide_eq_false e]
theorem ziD (a:Int) (b:Str):decide ((Sum.inl a:xV)=Sum.inr b)=false:=decide_eq_false (fun q=>nomatch q)
theorem ziC (a:Str) (b:Int):decide ((Sum.inr a:xV)=Sum.inl b)=false:=decide_eq_false (fun q=>nomatch q)
def xS (prog:Program) (w:World):PySem.KeyKind prog w xV where
 is:=fD
 hash:=keyH w
 inj:=fun v a b ha hb=>by
  rcases xP ha with ⟨i,t,rfl,rfl⟩|⟨x,t,rfl,rfl⟩
  .rcases xP hb with ⟨j,u,rfl,e⟩|⟨y,u,rfl,e⟩
   .injection e with e1 _;rw [e1]
   .exact nomatch e
  .rcases xP hb with ⟨j,u,rfl,e⟩|⟨y,u,rfl,e⟩
   .exact nomatch e
   .injection e with e1 _;rw [e1]
 byValue:=fun k v h=>by
  rcases xP h with ⟨i,t,rfl,rfl⟩|⟨x,t,rfl,rfl⟩<;>rfl
 pyHash:=fun hv h=>by
  rcases xP hv with ⟨i,t,rfl,rfl⟩|⟨x,t,rfl,rfl⟩
  .exact wpAny_pyHash_int h
  .exact wpAny_pyHash_str h
 eqBool:=fun hu hv h=>by
  rcases xP hu with ⟨i,t,rfl,rfl⟩|⟨x,t,rfl,rfl⟩
  .rcases xP hv with ⟨j,u,rfl,rfl⟩|⟨y,u,rfl,rfl⟩
   .rw [ziE] at h;exact wpAny_eqBool_int h
   .rw [ziD] at h;exact SeqAt.EqAt.int_str i t y u _ _ _ _ h
  .rcases xP hv with ⟨j,u,rfl,rfl⟩|⟨y,u,rfl,rfl⟩
   .rw [ziC] at h;exact SeqAt.EqAt.str_int x t j u _ _ _ _ h
   .rw [ziB] at h;exact wpAny_eqBool_str h
 «strs»:=fun k x t v h=>by
  rcases xP h with ⟨i,u,rfl,e⟩|⟨y,u,rfl,e⟩
  .exact nomatch e
  .injection e with e1 _
   subst e1;cases v<;>rfl
theorem zaT (prog:Program) (w:World) (i:Int) (t:Tok):(xS prog w).is (.inl i) (.int i t)=true:=zdh i t
theorem zaS (prog:Program) (w:World) (x:Str) (t:Tok):(xS prog w).is (.inr x) (.str x t)=true:=zdf x t
end L2
namespace L2
open PySem PySem.Spec PyProof.Rows
inductive V where
 |non|bl (b:Bool)|int (i:Int)|str (x:Str)|byt (b:Array UInt8)|flt (b:UInt64)|ref (a:Addr)|ty (n:String)
 deriving DecidableEq
def yY:V->Value->Prop
 | .non,u=>u=Value.none
 | .bl b,u=>u=Value.bool b
 | .int i,u=>∃ t,u=Value.int i t
 | .str x,u=>∃ t,u=Value.str x t
 | .byt b,u=>∃ t,u=Value.bytes b t
 | .flt b,u=>∃ t,u=Value.float b t
 | .ref a,u=>u=Value.ref a
 | .ty n,u=>u=Value.type n
abbrev yT:List V->List Value->Prop:=Paired yY
theorem yT.length {xs:List V} {us:List Value} (r:yT xs us):xs.length=us.length:=Paired.length r
theorem yT.get:∀ {xs:List V} {us:List Value} {i:Nat} {x:V},yT xs us->xs[i]?=some x->∃ u,us[i]?=some u/\yY x u
 |_,_,_,_,.nil,e=>by simp at e
 |_,_,0,_,.cons r _,e=>by simp at e;subst e;exact ⟨_,rfl,r⟩
 |_,_,i+1,x,.cons _ t,e=>by
  obtain ⟨u,h1,h2⟩:=yT.get (i:=i) (x:=x) t (by simpa using e);exact ⟨u,by simpa using h1,h2⟩
theorem yT.set {x:V} {u:Value} (r:yY x u):∀ {xs:List V} {us:List Value} (i:Nat),yT xs us->yT (xs.set i x) (us.set i u)
 |_,_,_,.nil=>.nil
 |_,_,0,.cons _ t=>.cons r t
 |_,_,i+1,.cons q t=>.cons q (yT.set r i t)
theorem yT.append:∀ {xs ys:List V} {us ws:List Value},yT xs us->yT ys ws->yT (xs++ys) (us++ws)
 |_,_,_,_,.nil,s=>s
 |_,_,_,_,.cons r t,s=>.cons r (yT.append t s)
theorem yT.take:∀ {xs:List V} {us:List Value} (n:Nat),yT xs us->yT (xs.take n) (us.take n)
 |_,_,0,_=>.nil
 |_,_,_+1,.nil=>.nil
 |_,_,n+1,.cons r t=>.cons r (yT.take n t)
theorem yT.drop:∀ {xs:List V} {us:List Value} (n:Nat),yT xs us->yT (xs.drop n) (us.drop n)
 |_,_,0,r=>r
 |_,_,_+1,.nil=>.nil
 |_,_,n+1,.cons _ t=>yT.drop n t
def rK:Option V->Option Value->Prop
 |some v,some u=>yY v u
 |none,none=>True
 |_,_=>False
def KV {κ:Type}:List (κ×V)->List (κ×Value)->Prop:=Paired fun (p:κ×V) (q:κ×Value)=>p.1=q.1/\yY p.2 q.2
def kV:xV->V
 | .inl i=>.int i
 | .inr x=>.str x
inductive HO where
  |lst (xs:List V)
  |tup (xs:List V)
  |dK (kvs:List (xV×V))|dT (kvs:List (List xV×V))
  |set (S:Int->Bool) (n:Nat)
  |ins (C dx:Addr) (fs:List (Str×V))
  |own (x:Addr)
  |xd (fs:List (Str×V))
  |met (f x:Addr)
  |rng (lo hi:Int)
  |frz (o:Obj) (u:HO)
  |tbl (ps:Array Value)
  |ext (φ:Heap->Prop)
abbrev Hp:=Addr->Option HO
def xB (H:Hp) (a:Addr) (o:HO):Hp:=fun b=>if b=a then some o else H b
theorem qY {H:Hp} {a:Addr} {o:HO}:xB H a o a=some o:=by unfold xB;rw [if_pos rfl]
theorem yW {H:Hp} {a b:Addr} {o:HO} (h:b≠a):xB H a o b=H b:=by unfold xB;rw [if_neg h]
theorem ne_of {H:Hp} {a b:Addr} {o u:HO} (h:H a=some o) (h':H b=some u) (d:o≠u):a≠b:=by
 intro e;subst e;rw [h] at h';exact d (Option.some.inj h')
theorem yI {H:Hp} {a b:Addr} {o:HO} (h:H a=some o) (h':H b=none):a≠b:=by
 intro e;subst e;rw [h] at h';cases h'
section
variable (P : Program) (w : World)
def xD (H:Hp) (h:Heap) (a:Addr):HO->Prop
 | .lst xs=>xs.length<=sizeLine/\∃ (its:List Value) (n:Nat),yT xs its/\h.get? a=some { cls:=.type "list", data:=.seq its.toArray n }
 | .tup xs=>xs.length<=sizeLine/\∃ its:List Value,yT xs its/\IsTup h a its.toArray
 | .dK kvs=>kvs.length<=sizeLine/\(a==sysModules)=false/\∃ vs,KV kvs vs/\h.DictOf (xS P w) a vs
 | .dT kvs=>kvs.length<=sizeLine/\(a==sysModules)=false/\∃ xs:List (List xV×Addr×Value),
   Paired (fun (p:List xV×V) (q:List xV×Addr×Value)=>p.1=q.1/\H q.2.1=some (.tup (p.1.map kV))/\yY p.2 q.2.2) kvs xs /\
   ∃ o es ep,h.get? a=some o/\o.ExactDict/\o.data=.dict es ep/\es.toList=xs.map (entryOfKey (tupleKind (xS P w)))/\(xs.map (·.1)).Nodup
 | .set S n=>h.SetOf (intKind P w) a S n
 | .ins C dx fs=>H dx=some (.own a)/\fs.length<=1000/\dx≠a/\h.get? a=some (PySem.W.instObj C dx) /\
   ∃ mA,h.Ns1 dx mA/\(∀ f,rK (fs.lookup f) (mA f))/\PySem.Within mA (fs.map (·.1))
 | .own _=>∃ o,h.get? a=some o
 | .xd fs=>∃ mA,h.Ns1 a mA/\∀ f,rK (fs.lookup f) (mA f)
 | .rng lo hi=>∃ t u v,h.get? a=some { cls:=.type "range", data:=.fields #[.int lo t,.int hi u,.int 1 v] }
 | .frz o u=>h.get? a=some o/\xD H h a u
 | .tbl ps=>h.get? a=some { cls:=.none,data:=.fields ps }
 | .met f x=>h.get? a=some (PySem.W.methodObj (.ref f) (.ref x))
 | .ext φ=>φ h/\(∃ o,h.get? a=some o)/\∀ h1 h2:Heap,φ h1->(∀ o,h1.get? a=some o->h2.get? a=some o)->φ h2
def sN (H:Hp) (h:Heap):Prop:=∀ a o,H a=some o->xD P w H h a o
end
section
variable {P : Program} {w : World} {H H' : Hp} {h h' : Heap} {a : Addr} {o : HO}
theorem xD.lt (x:xD P w H h a o):a<h.objs.size:=by
 cases o with
 |lst xs=>obtain ⟨_,_,_,_,e⟩:=x;exact Heap.lt_size e
 |tup xs=>obtain ⟨_,_,_,p⟩:=x;exact p.lt
 |dK kvs=>obtain ⟨_,_,_,_,o,_,_,e,_⟩:=x;exact Heap.lt_size e
 |dT kvs=>obtain ⟨_,_,_,_,o,_,_,e,_⟩:=x;exact Heap.lt_size e
 |set S n=>obtain ⟨o,_,_,_,e,_⟩:=x;exact Heap.lt_size e
 |ins C dx fs=>obtain ⟨_,_,_,e,_⟩:=x;exact Heap.lt_size e
 |own y=>obtain ⟨_,e⟩:=x;exact Heap.lt_size e
 |xd fs=>obtain ⟨_,⟨_,_,_,e,_⟩,_⟩:=x;exact Heap.lt_size e
 |rng lo hi=>obtain ⟨_,_,_,e⟩:=x;exact Heap.lt_size e
 |frz ob u=>obtain ⟨e,_⟩:=x;exact Heap.lt_size e
 |tbl ps=>exact Heap.lt_size (show h.get? a=some _ from x)
 |met f y=>exact Heap.lt_size (show h.get? a=some _ from x)
 |ext φ=>obtain ⟨_,⟨_,e⟩,_⟩:=x;exact Heap.lt_size e
theorem Paired.mapP {α β:Type} {F G:α->β->Prop}:∀ {l₁:List α} {l₂:List β},Paired F l₁ l₂->(∀ a b,F a b->G a b)->Paired G l₁ l₂
 |_,_,.nil,_=>.nil
 |_,_,.cons r t,f=>.cons (f _ _ r) (Paired.mapP t f)
theorem xD.stay (x:xD P w H h a o) (k:∀ b u,(b=a\/H b=some (.own a))->h.get? b=some u->h'.get? b=some u)
  (ho:∀ b,H b=some (.own a)->H' b=some (.own a)) (ht:∀ b xs,H b=some (.tup xs)->H' b=some (.tup xs)):xD P w H' h' a o:=by
 induction o with
 |lst xs=>obtain ⟨z,its,n,r,e⟩:=x;exact ⟨z,its,n,r,k _ _ (.inl rfl) e⟩
 |tup xs=>obtain ⟨z,its,r,ob,e,c⟩:=x;exact ⟨z,its,r,ob,k _ _ (.inl rfl) e,c⟩
 |dK kvs=>obtain ⟨z,y,vs,r,ob,es,ep,e,c⟩:=x;exact ⟨z,y,vs,r,ob,es,ep,k _ _ (.inl rfl) e,c⟩
 |dT kvs =>
  obtain ⟨z,y,xs,r,ob,es,ep,e,c⟩:=x;exact ⟨z,y,xs,Paired.mapP r fun p q z=>⟨z.1,ht _ _ z.2.1,z.2.2⟩,ob,es,ep,k _ _ (.inl rfl) e,c⟩
 |set S n=>obtain ⟨ob,es,ep,t,e,c⟩:=x;exact ⟨ob,es,ep,t,k _ _ (.inl rfl) e,c⟩
 |ins C dx fs =>
  obtain ⟨d,z,ne,e,mA,⟨od,es,ep,e2,c⟩,r⟩:=x;exact ⟨ho _ d,z,ne,k _ _ (.inl rfl) e,mA,⟨od,es,ep,k _ _ (.inr d) e2,c⟩,r⟩
 |own y=>obtain ⟨ob,e⟩:=x;exact ⟨ob,k _ _ (.inl rfl) e⟩
 |xd fs=>obtain ⟨mA,⟨od,es,ep,e,c⟩,r⟩:=x;exact ⟨mA,⟨od,es,ep,k _ _ (.inl rfl) e,c⟩,r⟩
 |rng lo hi=>obtain ⟨t,u,v,e⟩:=x;exact ⟨t,u,v,k _ _ (.inl rfl) e⟩
 |frz ob u ih=>obtain ⟨e,q⟩:=x;exact ⟨k _ _ (.inl rfl) e,ih q⟩
 |tbl ps =>
  have e:h.get? a=some { cls:=.none,data:=.fields ps }:=x;show h'.get? a=some { cls:=.none,data:=.fields ps };exact k a _ (.inl rfl) e
 |met f y =>
  have e:h.get? a=some (PySem.W.methodObj (.ref f) (.ref y)):=x;show h'.get? a=some (PySem.W.methodObj (.ref f) (.ref y));exact k a _ (.inl rfl) e
 |ext φ=>obtain ⟨p,⟨o,e⟩,st⟩:=x;exact ⟨st _ _ p fun o q=>k _ _ (.inl rfl) q,⟨o,k _ _ (.inl rfl) e⟩,st⟩
theorem sN.lt (x:sN P w H h) (e:H a=some o):a<h.objs.size:=(x a o e).lt
theorem sN.fresh (x:sN P w H h) (e:h.objs.size<=a):H a=none:=by
 cases q:H a with
 |none=>rfl
 |some u=>exact absurd (Nat.lt_of_lt_of_le (x.lt q) e) (Nat.lt_irrefl _)
theorem sN.kept (x:sN P w H h) (k:∀ b u,h.get? b=some u->h'.get? b=some u):sN P w H h':=fun a o e =>
 (x a o e).stay (fun b u _ q=>k b u q) (fun _ q=>q) fun _ _ q=>q
theorem sN.laid (x:sN P w H h) (k:∀ b u,h.get? b=some u->h'.get? b=some u) (hp:h.objs.size<=a) (new:xD P w (xB H a o) h' a o):sN P w (xB H a o) h':=fun b u e=>by
 have hn:=x.fresh hp
 by_cases hb:b=a
 .subst hb;rw [qY] at e;cases e;exact new
 .rw [yW hb] at e;exact (x b u e).stay (fun c v _ q=>k c v q) (fun c q=>by rw [yW (yI q hn)];exact q) fun c xs q=>by rw [yW (yI q hn)];exact q
end
def Rd (H:Hp) (a:Addr) (u:HO):Prop:=H a=some u\/∃ o,H a=some (.frz o u)
theorem Rd.ok {P:Program} {w:World} {H:Hp} {h:Heap} {a:Addr} {u:HO} (r:Rd H a u) (x:sN P w H h):xD P w H h a u:=by
 rcases r with r|⟨o,r⟩
 .exact x a u r
 .obtain ⟨_,q⟩:=x a _ r;exact q
def Mut:Option HO->Prop
 |some (.lst _)=>True
 |some (.dK _)=>True
 |some (.dT _)=>True
 |some (.set _ _)=>True
 |some (.ins _ _ _)=>True
 |some (.ext _)=>True
 |_=>False
section
variable {P : Program} {w : World} {H : Hp} {h h' : Heap} {x e : Addr} {o' : HO}
theorem sN.write (ok:sN P w H h) (mu:Mut (H x)) (he:e=x\/H e=some (.own x)) (k:∀ b u,b≠e->h.get? b=some u->h'.get? b=some u) (heo:∃ u,h'.get? e=some u)
  (new:xD P w (xB H x o') h' x o'):sN P w (xB H x o') h':=fun b u q=>by
 have nown:∀ c y,H c=some (.own y)->c≠x:=fun c y r z=>by subst z;rw [r] at mu;exact mu
 have ntup:∀ c xs,H c=some (.tup xs)->c≠x:=fun c xs r z=>by subst z;rw [r] at mu;exact mu
 by_cases hb:b=x
 .subst hb;rw [qY] at q;cases q;exact new
 .rw [yW hb] at q
  by_cases hbe:b=e
  .have q':H b=some (.own x):=by
    rcases he with z|z
    .exact absurd (hbe.trans z) hb
    .rw [hbe];exact z
   rw [q] at q';cases q';obtain ⟨v,hv⟩:=heo;exact ⟨v,by rw [hbe];exact hv⟩
  .refine (ok b u q).stay (fun c v hc r=>k c v ?_ r) (fun c r=>by rw [yW (nown c b r)];exact r) fun c xs r=>by rw [yW (ntup c xs r)];exact r
   rcases hc with rfl|hc
   .exact hbe
   .rintro rfl;rcases he with z|z
    .exact nown c b hc z
    .rw [hc] at z;cases z;exact hb rfl
end
structure Un (fs ex:List Addr) (H H':Hp) (h h':Heap):Prop where
 keep:∀ b o,h.get? b=some o->H b=none->b∉fs->b∉ex->h'.get? b=some o
 slot:∀ b o,h.get? b=some o->H b=none->b∈fs->b∉ex->∃ sl,h'.get? b=some { o with slots:=sl }
 free:∀ b o,h.get? b=some o->H b=none->b∉ex->H' b=none
 there:∀ b o,h.get? b=some o->b∉ex->∃ o',h'.get? b=some o'
 tups:∀ b xs,H b=some (.tup xs)->H' b=some (.tup xs)
 frzs:∀ b o u,H b=some (.frz o u)->H' b=some (.frz o u)
 tbls:∀ b ps,H b=some (.tbl ps)->∃ wR,H' b=some (.tbl (ps++wR))
section
variable {fs fs' ex ex' : List Addr} {H H1 H2 : Hp} {h h1 h2 h' : Heap} {a x e : Addr} {o : HO}
theorem Un.any (u:Un fs ex H H1 h h1) {b:Addr} {ob:Obj} (q:h.get? b=some ob) (n:H b=none) (hx:b∉ex):∃ sl,h1.get? b=some { ob with slots:=sl }:=by
 by_cases hb:b∈fs
 .exact u.slot b ob q n hb hx
 .exact ⟨ob.slots,u.keep b ob q n hb hx⟩
theorem Un.kept (k:∀ b u,h.get? b=some u->h'.get? b=some u):Un fs ex H H h h' :=
 ⟨fun b ob q _ _ _=>k b ob q,fun b ob q _ _ _=>⟨ob.slots,k b ob q⟩,fun _ _ _ n _=>n,fun b ob q _=>⟨ob,k b ob q⟩,fun _ _ q=>q,fun _ _ _ q=>q,fun _ ps q=>⟨#[],by rw [q];simp⟩⟩
theorem Un.refl:Un fs ex H H h h:=Un.kept fun _ _ q=>q
theorem Un.laid (k:∀ b u,h.get? b=some u->h'.get? b=some u) (hp:h.objs.size<=a) (hn:H a=none):Un fs ex H (xB H a o) h h' where
 keep:=fun b u q _ _ _=>k b u q
 slot:=fun b u q _ _ _=>⟨u.slots,k b u q⟩
 free:=fun b u q n _=>by rw [yW (Nat.ne_of_lt (Nat.lt_of_lt_of_le (Heap.lt_size q) hp))];exact n
 there:=fun b u q _=>⟨u,k b u q⟩
 tups:=fun b xs q=>by rw [yW (yI q hn)];exact q
 frzs:=fun b u xs q=>by rw [yW (yI q hn)];exact q
 tbls:=fun b ps q=>⟨#[],by rw [yW (yI q hn),q];simp⟩
theorem Un.write (mu:Mut (H x)) (he:e=x\/H e=some (.own x)) (k:∀ b u,b≠e->h.get? b=some u->h'.get? b=some u) (heo:∃ u,h'.get? e=some u):Un fs ex H (xB H x o) h h':=by
 have hx:∀ b,H b=none->b≠x:=fun b n z=>by subst z;rw [n] at mu;exact mu
 have hb:∀ b,H b=none->b≠e:=fun b n z=>by
  subst z;rcases he with r|r
  .exact hx b n r
  .rw [n] at r;cases r
 have hm:∀ b u,H b=some u->¬ Mut (some u)->b≠x:=fun b u q nm z=>by subst z;rw [q] at mu;exact nm mu
 refine ⟨fun b u q n _ _=>k b u (hb b n) q,fun b u q n _ _=>⟨u.slots,k b u (hb b n) q⟩,fun b u q n _=>by rw [yW (hx b n)];exact n,fun b u q _=>?_,
  fun b xs q=>by rw [yW (hm b _ q fun z=>z)];exact q,fun b u xs q=>by rw [yW (hm b _ q fun z=>z)];exact q,fun b ps q=>⟨#[],by rw [yW (hm b _ q fun z=>z),q];simp⟩⟩
 by_cases hbe:b=e
 .subst hbe;exact heo
 .exact ⟨u,k b u hbe q⟩
end
def trk (h:Heap) (H:Hp):List Addr:=(List.range h.objs.size).filter fun a=>(H a).isSome
def hidT (h:Heap) (H:Hp):Heap:=PySem.W.hideAll h (trk h H)
theorem zdo (h:Heap) (H:Hp):(hidT h H).objs.size=h.objs.size:=PySem.W.hideAll_size _ _
theorem zeV {h:Heap} {H:Hp} {b:Addr} {o:Obj} (e:h.get? b=some o) (n:H b=none):(hidT h H).get? b=some o :=
 PySem.W.hideAll_get _ e fun hm=>by
  have q:(H b).isSome=true:=(List.mem_filter.mp hm).2;rw [n] at q;simp at q
theorem zgm {h:Heap} {H:Hp} {b:Addr} {o:Obj} (e:(hidT h H).get? b=some o):h.get? b=some o/\H b=none:=by
 have e':h.get? b=some o:=PySem.W.of_hideAll (trk h H) e;refine ⟨e',?_⟩
 cases q:H b with
 |none=>rfl
 |some x =>
  have hm:b∈trk h H:=List.mem_filter.mpr ⟨List.mem_range.mpr (Heap.lt_size e'),by simp [q]⟩;have z:(hidT h H).get? b=none:=PySem.W.hideAll_none (trk h H) hm;rw [z] at e;cases e
def zhf (g h:Heap) (L:Addr):List (Addr×Obj):=(List.range h.objs.size).filterMap fun a=>if a=L\/(g.get? a).isSome=true then none else (h.get? a).map fun o=>(a,o)
def rest (g h:Heap) (L d:Addr):List (Addr×Obj):=(zhf g h L).filter fun p=>decide (p.1≠d)
end L2
namespace L2
open PySem PySem.Spec PyProof.Rows
structure Mod (K:PySem.W.Frag) (mg:Str->Option Value) (base:Heap):Prop where
 kin:K.In base
 glob:base.Ns mainGlobals mg
 blt:∃ mb,base.Ns builtinsNs mb/\∀ x:Str,x ≠ "__name__" -> mb x=bootBuiltins x
 nolimit:base.NoLimit
structure Cx where
 prog:Program
 w:World
 K:PySem.W.Frag
 mg:Str->Option Value
 base:Heap
 A:Around
 N:List Str
 s₀:Shared
 H₀:Hp
 env:Env
 outer:List Env
 stack:List Env
 ex:List Addr
 fn:Str->Bool
 calm:Bool
 pn:List (Addr×Obj)
 xe:Value->Shared->Prop
def frs (l:List Env):List Addr:=l.filterMap (·.frame)
abbrev Cx.fs (X:Cx):List Addr:=frs X.outer
def Vis (sc:Scope) (x:Str):Prop:=sc.names.lookup x=some .local\/sc.names.lookup x=some .cell\/sc.names.lookup x=some .free
def Loc (sc:Scope) (x:Str):Prop:=sc.names.lookup x=some .local\/sc.names.lookup x=some .cell
def Look (env:Env) (h:Heap) (m:Str->Option Value) (x:Str) (u:Value):Prop :=
 (env.kindOf x=some .local/\m x=some u)\/((env.kindOf x=some .cell\/env.kindOf x=some .free)/\∃ c,env.cells.lookup x=some c/\h.IsCell c (some u))
structure Cx.Ok (X:Cx):Prop where
 mod:Mod X.K X.mg X.base
 kind:X.env.scope.kind=.function
 glob:X.env.globals=mainGlobals
 blt:X.env.builtins=builtinsNs
 above:X.s₀.heap.objs.size<=X.env.locals
 inj:∀ x y c,X.env.cells.lookup x=some c->X.env.cells.lookup y=some c->x=y
 has:∀ x,(X.env.kindOf x=some .cell\/X.env.kindOf x=some .free)->∃ c,X.env.cells.lookup x=some c
 cab:∀ x c,X.fn x=true->X.env.cells.lookup x=some c->X.s₀.heap.objs.size<=c
 hd:X.calm=true->X.A.handled=none
 frames:X.A.frames=some X.stack
 stk:X.stack=X.outer\/(X.stack=X.env::X.outer/\X.env.frame=some X.env.locals)
 exf:∀ b∈X.ex,b≠X.env.locals/\∀ x c,X.env.cells.lookup x=some c->c≠b
 bs:∀ b o,X.base.get? b=some o->X.s₀.heap.get? b=some o/\X.H₀ b=none
 bsz:X.base.objs.size<=X.s₀.heap.objs.size
 noex:∀ b o,X.base.get? b=some o->b∉X.ex
 exfs:∀ b∈X.ex,b∉X.fs
 funs:X.s₀.heap.FunFrames X.base X.outer
 frf:∀ b∈X.fs,X.H₀ b=none
structure Inv (X:Cx) (pins:List (Addr×Obj)) (σ:List (Option V)) (H:Hp) (s:Shared):Prop where
 ok:X.Ok
 os:s.os=X.s₀.os
 bare:AllBare s.gens
 base:Un X.fs X.ex X.H₀ H X.s₀.heap s.heap
 loc:∃ m,s.heap.Ns X.env.locals m/\∀ (i:Nat) (x:Str) (v:V),X.N[i]?=some x->σ[i]?=some (some v)->Vis X.env.scope x->∃ u,yY v u/\Look X.env s.heap m x u
 cell:∀ x c,X.env.cells.lookup x=some c->∃ v,s.heap.IsCell c v
 free:H X.env.locals=none
 freeC:∀ x c,X.env.cells.lookup x=some c->H c=none
 pin:∀ p∈X.pn++pins,s.heap.get? p.1=some p.2/\H p.1=none/\p.1≠X.env.locals/\p.1∉X.fs/\∀ v,p.2.data≠.cell v
 hok:sN X.prog X.w H s.heap
 len:σ.length=X.N.length
section
variable {X : Cx} {pins : List (Addr × Obj)} {σ : List (Option V)} {H H' : Hp} {s : Shared} {h' : Heap}
theorem Cx.Ok.nofr (ok:X.Ok) {b:Addr} {o:Obj} (e:X.base.get? b=some o):b∉X.fs:=fun hb=>by
 have:=(ok.funs.mem hb).1;rw [e] at this;cases this
theorem Inv.bs (I:Inv X pins σ H s):∀ b o,X.base.get? b=some o->s.heap.get? b=some o/\H b=none:=fun b o e =>
 ⟨I.base.keep b o (I.ok.bs b o e).1 (I.ok.bs b o e).2 (I.ok.nofr e) (I.ok.noex b o e),I.base.free b o (I.ok.bs b o e).1 (I.ok.bs b o e).2 (I.ok.noex b o e)⟩
theorem Inv.bk (I:Inv X pins σ H s):∀ b o,X.base.get? b=some o->s.heap.get? b=some o:=fun b o e=>(I.bs b o e).1
theorem Inv.mod (I:Inv X pins σ H s):Mod X.K X.mg X.base:=I.ok.mod
theorem Inv.kIn (I:Inv X pins σ H s):X.K.In s.heap:=I.ok.mod.kin.keeps I.bk
theorem Inv.lt (I:Inv X pins σ H s):X.env.locals<s.heap.objs.size:=let ⟨_,hn,_⟩:=I.loc;hn.lt
theorem Inv.sz (I:Inv X pins σ H s):X.s₀.heap.objs.size<=s.heap.objs.size:=Nat.le_trans I.ok.above (Nat.le_of_lt I.lt)
theorem Inv.nofs (I:Inv X pins σ H s) {a:Addr} (h:s.heap.objs.size<=a):a∉X.fs:=fun hb=>by
 obtain ⟨_,o,ho,_⟩:=I.ok.funs.mem hb;exact absurd (Nat.lt_of_lt_of_le (Heap.lt_size ho) (Nat.le_trans I.sz h)) (Nat.lt_irrefl _)
theorem Inv.cne (I:Inv X pins σ H s):∀ x c,X.env.cells.lookup x=some c->c≠X.env.locals:=fun x c e z=>by
 obtain ⟨v,o,ho,hd⟩:=I.cell x c e;obtain ⟨m,⟨o',es,ep,ho',hd',_⟩,_⟩:=I.loc;rw [z,ho'] at ho;cases ho;rw [hd'] at hd;cases hd
theorem Inv.funs (I:Inv X pins σ H s):s.heap.FunFrames X.base X.outer:=by
 have all:∀ (l:List Env),(∀ b∈frs l,b∈X.fs)->X.s₀.heap.FunFrames X.base l->s.heap.FunFrames X.base l:=by
  intro l
  induction l with
  |nil=>intro _ _;trivial
  |cons env r ih =>
   intro hs hl;obtain ⟨hk,⟨L,o,hf,hn,ho,hd⟩,hr⟩:=hl;have hL:L∈X.fs:=hs L (by unfold frs;rw [List.filterMap_cons,hf];exact zzT);obtain ⟨sl,e⟩:=I.base.slot L o ho (I.ok.frf L hL) hL fun z=>I.ok.exfs L z hL;exact ⟨hk,⟨L,_,hf,hn,e,hd⟩,ih (fun b hb=>hs b (by unfold frs;rw [List.filterMap_cons,hf];exact List.mem_cons_of_mem _ hb)) hr⟩
 exact all X.outer (fun _ hb=>hb) I.ok.funs
theorem Inv.stack (I:Inv X pins σ H s):s.heap.FunFrames X.base X.stack:=by
 rcases I.ok.stk with e|⟨e,hf⟩
 .rw [e];exact I.funs
 .rw [e];obtain ⟨m,hn,_⟩:=I.loc;refine .cons (by rw [I.ok.kind];decide) hf hn ?_ I.funs;exact Heap.get?_none_of_le (Nat.le_trans I.ok.bsz I.ok.above)
theorem Inv.stkSub (I:Inv X pins σ H s):∀ b∈frs X.stack,b∈X.env.locals::X.fs:=fun b hb=>by
 rcases I.ok.stk with e|⟨e,hf⟩
 .rw [e] at hb;exact List.mem_cons_of_mem _ hb
 .rw [e] at hb;unfold frs at hb;rw [List.filterMap_cons,hf] at hb;exact hb
theorem Inv.stkFree (I:Inv X pins σ H s):∀ b∈frs X.stack,H b=none:=fun b hb=>by
 rcases List.mem_cons.mp (I.stkSub b hb) with e|hb
 .rw [e];exact I.free
 .obtain ⟨_,o,ho,_⟩:=I.ok.funs.mem hb;exact I.base.free b o ho (I.ok.frf b hb) fun z=>I.ok.exfs b z hb
theorem Inv.step {g':Array GenState} {t':Nat} {d':Drawn} {ch:List Addr} (I:Inv X pins σ H s)
  (hch:∀ b∈ch,(b∈X.ex\/X.s₀.heap.objs.size<=b)/\b≠X.env.locals/\(∀ x c,X.env.cells.lookup x=some c->c≠b)/\∀ p∈X.pn++pins,p.1≠b)
  (keep:∀ b o,b≠X.env.locals->b∉X.fs->b∉ch->s.heap.get? b=some o->H b=none->h'.get? b=some o)
  (slot:∀ b o,b≠X.env.locals->b∈X.fs->b∉ch->s.heap.get? b=some o->H b=none->∃ sl,h'.get? b=some { o with slots:=sl }) (free:∀ b o,b∉ch->s.heap.get? b=some o->H b=none->H' b=none)
  (there:∀ b o,b∉ch->s.heap.get? b=some o->∃ o',h'.get? b=some o')
  (tups:∀ b xs,H b=some (.tup xs)->H' b=some (.tup xs)) (frzs:∀ b o u,H b=some (.frz o u)->H' b=some (.frz o u)) (tbls:∀ b ps,H b=some (.tbl ps)->∃ wR,H' b=some (.tbl (ps++wR)))
  (ns:∀ m,s.heap.Ns X.env.locals m->h'.Ns X.env.locals m) (hok:sN X.prog X.w H' h') (hg:AllBare g') :
  Inv X pins σ H' { s with heap:=h',gens:=g',drawn:=d',toks:=t' }:=by
 have neL:∀ b o,X.s₀.heap.get? b=some o->b≠X.env.locals:=fun b o e=>Nat.ne_of_lt (Nat.lt_of_lt_of_le (Heap.lt_size e) I.ok.above)
 have neC:∀ b o,X.s₀.heap.get? b=some o->b∉X.ex->b∉ch:=fun b o e hx hb=>by
  rcases (hch b hb).1 with z|z
  .exact hx z
  .exact absurd (Nat.lt_of_lt_of_le (Heap.lt_size e) z) (Nat.lt_irrefl _)
 have cellK:∀ x c,X.env.cells.lookup x=some c->∀ v,s.heap.IsCell c v->h'.IsCell c v:=fun x c e v ⟨o,ho,hd⟩=>by
  have nch:c∉ch:=fun z=>(hch c z).2.2.1 x c e rfl
  by_cases hc:c∈X.fs
  .obtain ⟨sl,q⟩:=slot c o (I.cne x c e) hc nch ho (I.freeC x c e);exact ⟨_,q,hd⟩
  .exact ⟨o,keep c o (I.cne x c e) hc nch ho (I.freeC x c e),hd⟩
 refine ⟨I.ok,I.os,hg,⟨fun b o e n hb hx=>?_,fun b o e n hb hx=>?_,fun b o e n hx=>?_,fun b o e hx=>?_,fun b xs e=>tups b xs (I.base.tups b xs e),fun b o xs e=>frzs b o xs (I.base.frzs b o xs e),fun b ps e=>?_⟩,?_,fun x c e=>?_,?_,fun x c e=>?_,fun p hp=>?_,hok,I.len⟩
 .exact keep b o (neL b o e) hb (neC b o e hx) (I.base.keep b o e n hb hx) (I.base.free b o e n hx)
 .obtain ⟨sl,e1⟩:=I.base.slot b o e n hb hx;obtain ⟨sl',e2⟩:=slot b _ (neL b o e) hb (neC b o e hx) e1 (I.base.free b o e n hx);exact ⟨sl',e2⟩
 .obtain ⟨o',e1⟩:=I.base.there b o e hx;exact free b o' (neC b o e hx) e1 (I.base.free b o e n hx)
 .obtain ⟨o',e1⟩:=I.base.there b o e hx;exact there b o' (neC b o e hx) e1
 .obtain ⟨m1,e1⟩:=I.base.tbls b ps e;obtain ⟨m2,e2⟩:=tbls b _ e1;exact ⟨m1++m2,by rw [e2,Array.append_assoc]⟩
 .obtain ⟨m,hn,hl⟩:=I.loc;refine ⟨m,ns m hn,fun i x v e1 e2 e3=>?_⟩;obtain ⟨u,r,l⟩:=hl i x v e1 e2 e3;refine ⟨u,r,?_⟩;rcases l with l|⟨k,c,e,z⟩
  .exact .inl l
  .exact .inr ⟨k,c,e,cellK x c e _ z⟩
 .obtain ⟨v,z⟩:=I.cell x c e;exact ⟨v,cellK x c e v z⟩
 .obtain ⟨m,⟨o,_,_,ho,_⟩,_⟩:=I.loc;exact free _ o (fun z=>(hch _ z).2.1 rfl) ho I.free
 .obtain ⟨v,o,ho,hd⟩:=I.cell x c e;exact free c o (fun z=>(hch c z).2.2.1 x c e rfl) ho (I.freeC x c e)
 .obtain ⟨e,n,ne,nf,d⟩:=I.pin p hp;have nch:p.1∉ch:=fun z=>(hch p.1 z).2.2.2 p hp rfl;exact ⟨keep p.1 p.2 ne nf nch e n,free p.1 p.2 nch e n,ne,nf,d⟩
theorem Inv.un {t':Nat} (I:Inv X pins σ H s) (u:Un X.fs [] H H' s.heap h') (hok:sN X.prog X.w H' h'):Inv X pins σ H' { s with heap:=h',toks:=t' }:=by
 obtain ⟨m,⟨o,es,ep,ho,r⟩,_⟩:=id I.loc;obtain ⟨sl,hL⟩:=u.any ho I.free (by simp)
 exact I.step (g':=s.gens) (d':=s.drawn) (ch:=[]) (fun _ z=>nomatch z) (fun b o _ hb _ e n=>u.keep b o e n hb (by simp)) (fun b o _ hb _ e n=>u.slot b o e n hb (by simp)) (fun b o _ e n=>u.free b o e n (by simp)) (fun b o _ e=>u.there b o e (by simp)) u.tups u.frzs u.tbls (fun m' hm=>by
  obtain ⟨o',es',ep',ho',r'⟩:=hm;rw [ho] at ho';cases ho';exact ⟨_,es',ep',hL,r'⟩) hok I.bare
theorem Inv.call {g':Array GenState} {t':Nat} {d':Drawn} {ch:List Addr} (I:Inv X pins σ H s) (u:Un (frs X.stack) ch H H' s.heap h') (hok:sN X.prog X.w H' h') (hg:AllBare g')
  (hch:∀ b∈ch,(b∈X.ex\/X.s₀.heap.objs.size<=b)/\b≠X.env.locals/\(∀ x c,X.env.cells.lookup x=some c->c≠b)/\∀ p∈X.pn++pins,p.1≠b) :
  Inv X pins σ H' { s with heap:=h',gens:=g',drawn:=d',toks:=t' }:=by
 obtain ⟨m,⟨o,es,ep,ho,r⟩,_⟩:=id I.loc;obtain ⟨sl,hL⟩:=u.any ho I.free fun z=>(hch _ z).2.1 rfl
 exact I.step (ch:=ch) hch (fun b o hL hb hc e n=>u.keep b o e n (fun z=>(List.mem_cons.mp (I.stkSub b z)).elim hL hb) hc) (fun b o _ _ hc e n=>u.any e n hc) (fun b o hc e n=>u.free b o e n hc) (fun b o hc e=>u.there b o e hc) u.tups u.frzs u.tbls (fun m' hm=>by
  obtain ⟨o',es',ep',ho',r'⟩:=hm;rw [ho] at ho';cases ho';exact ⟨_,es',ep',hL,r'⟩) hok hg
theorem Inv.turned {t':Nat} {it:Addr} (I:Inv X pins σ H s) (k:∀ b o,b≠it->s.heap.get? b=some o->h'.get? b=some o) (hn:H it=none) (hL:it≠X.env.locals)
  (h1:it∈X.ex\/X.s₀.heap.objs.size<=it) (h2:∀ x c,X.env.cells.lookup x=some c->c≠it) (h3:∀ p∈X.pn++pins,p.1≠it):Inv X pins σ H { s with heap:=h',toks:=t' }:=by
 have nit:∀ b u,H b=some u->b≠it:=fun b u e z=>by rw [z,hn] at e;cases e
 refine I.step (g':=s.gens) (d':=s.drawn) (ch:=[it]) (fun b hb=>?_) (fun b o _ _ hc e _=>k b o (fun z=>hc (by simp [z])) e) (fun b o _ _ hc e _=>⟨o.slots,k b o (fun z=>hc (by simp [z])) e⟩) (fun _ _ _ _ n=>n)
  (fun b o hc e=>⟨o,k b o (fun z=>hc (by simp [z])) e⟩) (fun _ _ e=>e) (fun _ _ _ e=>e) (fun b ps e=>⟨#[],by rw [e];simp⟩) (fun m hm=>?_) (fun b u e=>?_) I.bare
 .have e:b=it:=by simpa using hb
  subst e;exact ⟨h1,hL,h2,h3⟩
 .obtain ⟨o,es,ep,ho,r⟩:=hm;exact ⟨o,es,ep,k _ o (Ne.symm hL) ho,r⟩
 .refine (I.hok b u e).stay (fun c v hc q=>k c v ?_ q) (fun _ q=>q) fun _ _ q=>q;rcases hc with z|z
  .rw [z];exact nit b u e
  .exact nit c _ z
theorem Inv.tok (I:Inv X pins σ H s) (t:Nat):Inv X pins σ H { s with toks:=t }:=I.un (h':=s.heap) (t':=t) Un.refl I.hok
theorem Inv.kept {t':Nat} (I:Inv X pins σ H s) (k:∀ b u,s.heap.get? b=some u->h'.get? b=some u):Inv X pins σ H { s with heap:=h',toks:=t' }:=I.un (Un.kept k) (I.hok.kept k)
theorem Inv.laid {a:Addr} {o:HO} {t':Nat} (I:Inv X pins σ H s) (k:∀ b u,s.heap.get? b=some u->h'.get? b=some u) (hp:s.heap.objs.size<=a) (new:xD X.prog X.w (xB H a o) h' a o) :
  Inv X pins σ (xB H a o) { s with heap:=h',toks:=t' }:=I.un (Un.laid k hp (I.hok.fresh hp)) (I.hok.laid k hp new)
theorem Inv.write {x e:Addr} {o:HO} {t':Nat} (I:Inv X pins σ H s) (mu:Mut (H x)) (he:e=x\/H e=some (.own x)) (k:∀ b u,b≠e->s.heap.get? b=some u->h'.get? b=some u) (heo:∃ u,h'.get? e=some u)
  (new:xD X.prog X.w (xB H x o) h' x o):Inv X pins σ (xB H x o) { s with heap:=h',toks:=t' }:=I.un (Un.write mu he k heo) (I.hok.write mu he k heo new)
theorem Inv.pins_of {pins':List (Addr×Obj)} (I:Inv X pins σ H s) (h:∀ p∈pins',s.heap.get? p.1=some p.2/\H p.1=none/\p.1≠X.env.locals/\p.1∉X.fs/\∀ v,p.2.data≠.cell v):Inv X pins' σ H s :=
 ⟨I.ok,I.os,I.bare,I.base,I.loc,I.cell,I.free,I.freeC,fun p hp=>(List.mem_append.mp hp).elim (fun z=>I.pin p (List.mem_append_left _ z)) (h p),I.hok,I.len⟩
theorem zbx {N:List Str} (hN:N.Nodup) {i j:Nat} {x:Str} (a:N[i]?=some x) (b:N[j]?=some x):i=j:=by
 obtain ⟨h1,e1⟩:=List.getElem?_eq_some_iff.mp a;obtain ⟨h2,e2⟩:=List.getElem?_eq_some_iff.mp b;exact (List.getElem_inj hN).mp (e1.trans e2.symm)
theorem cF {M:Model} {A:Around} {E:Value->Shared->Prop} {i:Nat} {x:Str} {v:V} {u:Value} {Q:Unit->Shared->Prop} (I:Inv X pins σ H s) (hN:X.N.Nodup) (hi:X.N[i]?=some x) (hx:Loc X.env.scope x) (r:yY v u)
  (h:∀ s',Inv X pins (σ.set i (some v)) H s'->(∃ a,Heap.SameBut a s.heap s'.heap/\(a=X.env.locals\/X.env.cells.lookup x=some a))->Q () s') (hf:X.fn x=true\/X.env.scope.names.lookup x=some .local:=by first|exact .inl rfl|exact .inr rfl|assumption):wpAny M A (storeName X.env x u) Q E s:=by
 obtain ⟨m,hn,hl⟩:=id I.loc;have hcls:(X.env.scope.kind==.class || (X.env.scope.kind==.module&&X.env.locals != X.env.globals))=false:=by rw [I.ok.kind];rfl
 have hiσ:i<σ.length:=by rw [I.len];exact (List.getElem?_eq_some_iff.mp hi).1
 have cne:=I.cne
 have tracked:∀ {a:Addr} {h':Heap},(∃ o,s.heap.get? a=some o/\H a=none)->Heap.SameBut a s.heap h'->sN X.prog X.w H h':=fun {a h'} ha hs b ob e=>by
  obtain ⟨_,_,hfree⟩:=ha;refine (I.hok b ob e).stay (fun c w' hc q=>(hs.2 c ?_).trans q) (fun _ q=>q) fun _ _ q=>q;rintro rfl;rcases hc with rfl|hc
  .rw [hfree] at e;cases e
  .rw [hfree] at hc;cases hc
 rcases hx with hk|hk
 .refine wpAny_storeName_local hk hn (fun h' hn' hs=>?_) hcls;obtain ⟨oL,_,_,hoL,_⟩:=id hn;refine h _ ⟨I.ok,I.os,I.bare,⟨fun b o e n hb hx=>?_,fun b o e n hb hx=>?_,I.base.free,fun b o e hx=>?_,I.base.tups,I.base.frzs,I.base.tbls⟩,⟨_,hn',fun j y v' e1 e2 e3=>?_⟩,fun y c e=>?_,I.free,I.freeC,fun p hp=>?_,tracked ⟨oL,hoL,I.free⟩ hs,by simpa using I.len⟩ ⟨_,hs,.inl rfl⟩
  .exact (hs.2 b (Nat.ne_of_lt (Nat.lt_of_lt_of_le (Heap.lt_size e) I.ok.above))).trans (I.base.keep b o e n hb hx)
  .obtain ⟨sl,e1⟩:=I.base.slot b o e n hb hx;exact ⟨sl,(hs.2 b (Nat.ne_of_lt (Nat.lt_of_lt_of_le (Heap.lt_size e) I.ok.above))).trans e1⟩
  .obtain ⟨o',e1⟩:=I.base.there b o e hx;exact ⟨o',(hs.2 b (Nat.ne_of_lt (Nat.lt_of_lt_of_le (Heap.lt_size e) I.ok.above))).trans e1⟩
  .by_cases hj:j=i
   .subst hj;rw [hi] at e1;cases e1;rw [List.getElem?_set_self hiσ] at e2;cases e2;exact ⟨u,r,.inl ⟨hk,by simp⟩⟩
   .rw [List.getElem?_set_ne (Ne.symm hj)] at e2;obtain ⟨u',r',q⟩:=hl j y v' e1 e2 e3;refine ⟨u',r',?_⟩;rcases q with ⟨k,e⟩|⟨k,c,e,z⟩
    .refine .inl ⟨k,?_⟩;have:y≠x:=fun e=>hj (zbx hN e1 (e▸hi));simp [this,e]
    .exact .inr ⟨k,c,e,z.sameBut hs (cne y c e)⟩
  .obtain ⟨w',z⟩:=I.cell y c e;exact ⟨w',z.sameBut hs (cne y c e)⟩
  .obtain ⟨e,n,ne,nf,d⟩:=I.pin p hp;exact ⟨(hs.2 p.1 ne).trans e,n,ne,nf,d⟩
 .have hfn:X.fn x=true:=by
   rcases hf with z|z
   .exact z
   .rw [z] at hk;cases hk
  obtain ⟨c,hc⟩:=I.ok.has x (.inl hk);obtain ⟨w',z⟩:=I.cell x c hc;refine wpAny_storeName_cell I.ok.kind hk hc z (fun h' hc' hs=>?_);obtain ⟨oc,hoc,hocd⟩:=id z;refine h { s with heap:=h' } ⟨I.ok,I.os,I.bare,⟨fun b o e n hb hx=>?_,fun b o e n hb hx=>?_,I.base.free,fun b o e hx=>?_,I.base.tups,I.base.frzs,I.base.tbls⟩,⟨m,hn.sameBut hs (Ne.symm (cne x c hc)),fun j y v' e1 e2 e3=>?_⟩,fun y c' e=>?_,I.free,I.freeC,fun p hp=>?_,tracked ⟨oc,hoc,I.freeC x c hc⟩ hs,by simpa using I.len⟩ ⟨c,hs,.inr hc⟩
  .exact (hs.2 b (Nat.ne_of_lt (Nat.lt_of_lt_of_le (Heap.lt_size e) (I.ok.cab x c hfn hc)))).trans (I.base.keep b o e n hb hx)
  .obtain ⟨sl,e1⟩:=I.base.slot b o e n hb hx;exact ⟨sl,(hs.2 b (Nat.ne_of_lt (Nat.lt_of_lt_of_le (Heap.lt_size e) (I.ok.cab x c hfn hc)))).trans e1⟩
  .obtain ⟨o',e1⟩:=I.base.there b o e hx;exact ⟨o',(hs.2 b (Nat.ne_of_lt (Nat.lt_of_lt_of_le (Heap.lt_size e) (I.ok.cab x c hfn hc)))).trans e1⟩
  .by_cases hj:j=i
   .subst hj;rw [hi] at e1;cases e1;rw [List.getElem?_set_self hiσ] at e2;cases e2;exact ⟨u,r,.inr ⟨.inl hk,c,hc,hc'⟩⟩
   .rw [List.getElem?_set_ne (Ne.symm hj)] at e2;obtain ⟨u',r',q⟩:=hl j y v' e1 e2 e3;refine ⟨u',r',?_⟩;rcases q with q|⟨k,c',e,z'⟩
    .exact .inl q
    .refine .inr ⟨k,c',e,z'.sameBut hs ?_⟩;rintro rfl;exact hj (zbx hN e1 (I.ok.inj _ _ _ e hc▸hi))
  .by_cases hcc:c'=c
   .subst hcc;exact ⟨_,hc'⟩
   .obtain ⟨w2,z2⟩:=I.cell y c' e;exact ⟨w2,z2.sameBut hs hcc⟩
  .obtain ⟨e,n,ne,nf,d⟩:=I.pin p hp;refine ⟨(hs.2 p.1 ?_).trans e,n,ne,nf,d⟩;intro q;rw [q,hoc] at e;have q':oc=p.2:=Option.some.inj e;exact d w' (by rw [← q'];exact hocd)
theorem zbj {M:Model} {A:Around} {E:Value->Shared->Prop} {i:Nat} {x:Str} {v:V} {u:Value} {Q:Unit->Shared->Prop} (I:Inv X pins σ H s) (hN:X.N.Nodup) (hi:X.N[i]?=some x) (hx:Loc X.env.scope x) (r:yY v u)
  (h:∀ s',Inv X pins (σ.set i (some v)) H s'->Q () s') (hf:X.fn x=true\/X.env.scope.names.lookup x=some .local:=by first|exact .inl rfl|exact .inr rfl|assumption):wpAny M A (storeName X.env x u) Q E s :=
 cF I hN hi hx r (fun s' I' _=>h s' I') hf
theorem Inv.call' {s':Shared} {ch:List Addr} (I:Inv X pins σ H s) (ho:s'.os=s.os) (u:Un (frs X.stack) ch H H' s.heap s'.heap) (hok:sN X.prog X.w H' s'.heap) (hg:AllBare s'.gens)
  (hch:∀ b∈ch,(b∈X.ex\/X.s₀.heap.objs.size<=b)/\b≠X.env.locals/\(∀ x c,X.env.cells.lookup x=some c->c≠b)/\∀ p∈X.pn++pins,p.1≠b):Inv X pins σ H' s':=by
 obtain ⟨h',g',d',t',o'⟩:=s';have e:o'=s.os:=ho;subst e;exact I.call (g':=g') (t':=t') (d':=d') u hok hg hch
end
abbrev XK:=Value->Option Addr->Hp->Prop
abbrev St:=List (Option V)
abbrev VK:=V->Hp->Prop
abbrev TE:=St->Hp->VK->Prop
abbrev TT:=St->Hp->(Bool->Hp->Prop)->Prop
abbrev TA:=St->Hp->(List V->Hp->Prop)->Prop
structure Ends where
 nx:St->Hp->Prop
 rt:VK
 bk:St->Hp->Prop:=fun _ _=>False
 ct:St->Hp->Prop:=fun _ _=>False
abbrev TS:=Ends->St->Hp->Prop
def EP (X:Cx) (pins:List (Addr×Obj)) (σ:St) (Q:VK) (u:Value) (s':Shared):Prop:=∃ v H',Inv X pins σ H' s'/\yY v u/\Q v H'
def TP (X:Cx) (pins:List (Addr×Obj)) (σ:St) (Q:Bool->Hp->Prop) (b:Bool) (s':Shared):Prop:=∃ H',Inv X pins σ H' s'/\Q b H'
def AP (X:Cx) (pins:List (Addr×Obj)) (σ:St) (Q:List V->Hp->Prop) (us:List Value) (s':Shared):Prop:=∃ vs H',Inv X pins σ H' s'/\yT vs us/\Q vs H'
def SP (X:Cx) (pins:List (Addr×Obj)) (D:Ends) (f:Flow) (s':Shared):Prop :=
 match f with
 | .next=>∃ σ' H',Inv X pins σ' H' s'/\D.nx σ' H'
 | .brk=>∃ σ' H',Inv X pins σ' H' s'/\D.bk σ' H'
 | .cont=>∃ σ' H',Inv X pins σ' H' s'/\D.ct σ' H'
 | .ret u=>∃ v σ' H',Inv X pins σ' H' s'/\yY v u/\D.rt v H'
def PE (X:Cx) (e:Expr) (t:TE):Prop :=
 ∀ (pins:List (Addr×Obj)) (s:Shared) (σ:St) (H:Hp) (Q:VK),Inv X pins σ H s->t σ H Q->wpAny (model X.prog X.w) X.A (eval e X.env) (EP X pins σ Q) X.xe s
def PT (X:Cx) (e:Expr) (t:TT):Prop :=
 ∀ (pins:List (Addr×Obj)) (s:Shared) (σ:St) (H:Hp) (Q:Bool->Hp->Prop),Inv X pins σ H s->t σ H Q->wpAny (model X.prog X.w) X.A (isTrue e X.env (eval e X.env)) (TP X pins σ Q) X.xe s
def PW (X:Cx) (e:Expr) (t:TT):Prop :=
 ∀ (whole:Sem Value) (pins:List (Addr×Obj)) (s:Shared) (σ:St) (H:Hp) (Q:Bool->Hp->Prop),Inv X pins σ H s->t σ H Q->wpAny (model X.prog X.w) X.A (isTrue e X.env whole) (TP X pins σ Q) X.xe s
theorem PW.pt {X:Cx} {e:Expr} {t:TT} (h:PW X e t):PT X e t:=h _
def PA (X:Cx) (es:List Expr) (t:TA):Prop :=
 ∀ (pos:Pos) (pins:List (Addr×Obj)) (s:Shared) (σ:St) (H:Hp) (Q:List V->Hp->Prop),Inv X pins σ H s->t σ H Q->wpAny (model X.prog X.w) X.A (spliced (backTo pos (starEach es X.env))) (AP X pins σ Q) X.xe s
def PS (X:Cx) (st:Stmt) (t:TS):Prop :=
 ∀ (pins:List (Addr×Obj)) (s:Shared) (σ:St) (H:Hp) (D:Ends),Inv X pins σ H s->t D σ H->wpAny (model X.prog X.w) X.A (exec st X.env) (SP X pins D) X.xe s
def PSs (X:Cx) (st:List Stmt) (t:TS):Prop :=
 ∀ (pins:List (Addr×Obj)) (s:Shared) (σ:St) (H:Hp) (D:Ends),Inv X pins σ H s->t D σ H->wpAny (model X.prog X.w) X.A (execs st X.env) (SP X pins D) X.xe s
theorem xT {α:Type} {t:Sem α} {Q Q':α->Shared->Prop} {M:Model} {A:Around} {E:Value->Shared->Prop} {s:Shared} (h:wpAny M A t Q E s) (hQ:∀ a s,Q a s->Q' a s):wpAny M A t Q' E s:=wpAny_mono h hQ fun _ _ x=>x
end L2
namespace L2
open PySem PySem.Spec PyProof.Rows
section
variable {X : Cx}
theorem bin {a b:Expr} {ta tb:TE} (ha:PE X a ta) (hb:PE X b tb) {pins:List (Addr×Obj)} {s:Shared} {σ:St} {H:Hp} {R:V->V->Hp->Prop} (I:Inv X pins σ H s) (h:ta σ H fun x H1=>tb σ H1 fun y H2=>R x y H2)
  {α:Type} {Q:α->Shared->Prop} {f:Value->Value->Sem α}
  (hf:∀ v u s2 x y H2,Inv X pins σ H2 s2->yY x v->yY y u->R x y H2->wpAny (model X.prog X.w) X.A (f v u) Q X.xe s2) :
  wpAny (model X.prog X.w) X.A (eval a X.env) (fun v s₁=>wpAny (model X.prog X.w) X.A (eval b X.env) (fun u s₂=>wpAny (model X.prog X.w) X.A (f v u) Q X.xe s₂) X.xe s₁) X.xe s:=by
 refine xT (ha pins s σ H _ I h) fun v s1 ⟨x,H1,I1,r1,q1⟩=>?_;refine xT (hb pins s1 σ H1 _ I1 q1) fun u s2 ⟨y,H2,I2,r2,q2⟩=>?_;exact hf v u s2 x y H2 I2 r1 r2 q2
def tVar (i:Nat):TE:=fun σ H Q=>∃ v,σ[i]?=some (some v)/\Q v H
def tC (v:V):TE:=fun _ H Q=>Q v H
theorem zh1 {i:Nat} {x:Str} {pos:Pos} (hN:X.N[i]?=some x) (hv:Vis X.env.scope x) (hd:(x==("__debug__" : Str))=false:=by decide) (hcd:(x==("__classdict__" : Str))=false:=by decide):PE X (.Name x pos) (tVar i):=by
 intro pins s σ H Q I h;obtain ⟨v,e,h⟩:=h;obtain ⟨m,hn,hl⟩:=I.loc;obtain ⟨u,r,l⟩:=hl i x v hN e hv;have fin:EP X pins σ Q u s:=⟨v,H,I,r,h⟩;rcases l with ⟨hk,hm⟩|⟨hk,c,hc,hcell⟩
 .exact wpAny_Name (wpAny_loadName_local I.ok.kind hk hn hm fin) hd
 .rcases hk with hk|hk
  .exact wpAny_Name (wpAny_loadName_cell I.ok.kind hk hc hcell fin) hd
  .exact wpAny_Name (wpAny_loadName_free I.ok.kind hk hc hcell fin hcd) hd
theorem zh7 {i j pos}:PE X (.Constant (.int i) j pos) (tC (.int i)):=fun _ _ _ H _ I h=>wpAny_Constant_int ⟨.int i,H,I.tok _,⟨_,rfl⟩,h⟩
theorem pe_bl {b j pos}:PE X (.Constant (.bool b) j pos) (tC (.bl b)):=fun _ _ _ H _ I h=>Constant_bool ⟨.bl b,H,I,rfl,h⟩
theorem zh5 {j pos}:PE X (.Constant .none j pos) (tC .non):=fun _ _ _ H _ I h=>Constant_none ⟨.non,H,I,rfl,h⟩
theorem zft {x j pos}:PE X (.Constant (.str x) j pos) (tC (.str x)):=fun _ _ _ H _ I h=>Calls.Constant_str ⟨.str x,H,I.tok _,⟨_,rfl⟩,h⟩
def Gl (X:Cx) (x:Str):Prop:=X.env.kindOf x=some .globalImplicit
theorem zaX {E:Value->Shared->Prop} {pins:List (Addr×Obj)} {s:Shared} {σ:St} {H:Hp} {x:Str} {u:Value} {pos:Pos} {Q:Value->Shared->Prop} (I:Inv X pins σ H s) (hg:Gl X x) (hm:X.mg x=some u) (h:Q u s)
  (hd:(x==("__debug__" : Str))=false:=by decide):wpAny (model X.prog X.w) X.A (eval (.Name x pos) X.env) Q E s :=
 Calls.Name_function_global I.ok.kind hg (Calls.loadGlobal_global (by rw [I.ok.glob];exact I.mod.glob.keeps I.bk) hm h) hd
theorem nP {E:Value->Shared->Prop} {pins:List (Addr×Obj)} {s:Shared} {σ:St} {H:Hp} {x:Str} {u:Value} {pos:Pos} {Q:Value->Shared->Prop} (I:Inv X pins σ H s) (hg:Gl X x) (hm:X.mg x=none) (hv:bootBuiltins x=some u) (h:Q u s)
  (hn:x ≠ "__name__" := by decide) (hd:(x==("__debug__" : Str))=false:=by decide):wpAny (model X.prog X.w) X.A (eval (.Name x pos) X.env) Q E s:=by
 obtain ⟨mb,h1,h2⟩:=I.mod.blt;exact Calls.Name_function_global I.ok.kind hg (Calls.loadGlobal_builtin (by rw [I.ok.glob];exact I.mod.glob.keeps I.bk) hm (by rw [I.ok.blt];exact h1.keeps I.bk) ((h2 x hn).trans hv) h) hd
theorem zgb {x:Str} {v:V} {u:Value} {pos:Pos} (hg:Gl X x) (hm:X.mg x=some u) (r:yY v u) (hd:(x==("__debug__" : Str))=false:=by decide):PE X (.Name x pos) (tC v) :=
 fun _ _ _ H _ I h=>zaX I hg hm ⟨v,H,I,r,h⟩ hd
theorem zgf {x:Str} {v:V} {u:Value} {pos:Pos} (hg:Gl X x) (hm:X.mg x=none) (hv:bootBuiltins x=some u) (r:yY v u) (hn:x ≠ "__name__" := by decide) (hd:(x==("__debug__" : Str))=false:=by decide):PE X (.Name x pos) (tC v) :=
 fun _ _ _ H _ I h=>nP I hg hm hv ⟨v,H,I,r,h⟩ hn hd
variable {a b : Expr} {ta tb : TE} {pos : Pos}
variable {tA tB' : TT} {rest : List Expr}
def tAnd (t u:TT):TT:=fun σ H Q=>t σ H fun c H1=>if c=true then u σ H1 Q else Q false H1
def tOr (t u:TT):TT:=fun σ H Q=>t σ H fun c H1=>if c=true then Q true H1 else u σ H1 Q
def tNot (t:TT):TT:=fun σ H Q=>t σ H fun c H1=>Q (!c) H1
theorem zfZ (ha:PT X a tA):PW X (.BoolOp .And [a] pos) tA:=by
 intro wh pins s σ H Q I h;refine isTrue_and (xT (ha pins s σ H Q I h) fun c s1 e=>?_)
 cases c with
 |true=>exact isTrue_and_nil e
 |false=>exact e
theorem zhP (ha:PT X a tA):PW X (.BoolOp .Or [a] pos) tA:=by
 intro wh pins s σ H Q I h;refine isTrue_or (xT (ha pins s σ H Q I h) fun c s1 e=>?_)
 cases c with
 |false=>exact isTrue_or_nil e
 |true=>exact e
theorem zfq (ha:PT X a tA) (hb:PW X (.BoolOp .And (b::rest) pos) tB'):PW X (.BoolOp .And (a::b::rest) pos) (tAnd tA tB'):=by
 intro wh pins s σ H Q I h;refine isTrue_and (xT (ha pins s σ H _ I h) fun c s1 ⟨H1,I1,q1⟩=>?_)
 cases c with
 |true=>exact hb wh pins s1 σ H1 Q I1 q1
 |false=>exact ⟨H1,I1,q1⟩
theorem zhQ (ha:PT X a tA) (hb:PW X (.BoolOp .Or (b::rest) pos) tB'):PW X (.BoolOp .Or (a::b::rest) pos) (tOr tA tB'):=by
 intro wh pins s σ H Q I h;refine isTrue_or (xT (ha pins s σ H _ I h) fun c s1 ⟨H1,I1,q1⟩=>?_)
 cases c with
 |true=>exact ⟨H1,I1,q1⟩
 |false=>exact hb wh pins s1 σ H1 Q I1 q1
theorem zhS (ha:PT X a tA):PT X (.UnaryOp .Not a pos) (tNot tA):=by
 intro pins s σ H Q I h;exact isTrue_not (ha pins s σ H (fun c H1=>Q (!c) H1) I h)
def zhw (ta tb:TE):TE:=fun σ H Q=>ta σ H fun x H1=>∃ c,x=.bl c/\if c=true then tb σ H1 Q else Q (.bl false) H1
def tOrV (ta tb:TE):TE:=fun σ H Q=>ta σ H fun x H1=>∃ c,x=.bl c/\if c=true then Q (.bl true) H1 else tb σ H1 Q
def tNotV (ta:TE):TE:=fun σ H Q=>ta σ H fun x H1=>∃ c,x=.bl c/\Q (.bl (!c)) H1
theorem zfu {op} {t:TE} (h:PE X a t):PE X (.BoolOp op [a] pos) t:=fun pins s σ H Q I hw=>BoolOp_one (h pins s σ H Q I hw)
theorem zfv (ha:PE X a ta) (hb:PE X (.BoolOp .And (b::rest) pos) tb):PE X (.BoolOp .And (a::b::rest) pos) (zhw ta tb):=by
 intro pins s σ H Q I h;refine BoolOp_and (xT (ha pins s σ H _ I h) fun v s1 ⟨x,H1,I1,r1,q1⟩=>?_);obtain ⟨c,rfl,q1⟩:=q1;cases r1;refine wpAny_truthy_bool ?_
 cases c with
 |true=>exact hb pins s1 σ H1 Q I1 q1
 |false=>exact ⟨.bl false,H1,I1,rfl,q1⟩
theorem zh3 (ha:PE X a ta) (hb:PE X (.BoolOp .Or (b::rest) pos) tb):PE X (.BoolOp .Or (a::b::rest) pos) (tOrV ta tb):=by
 intro pins s σ H Q I h;refine BoolOp_or (xT (ha pins s σ H _ I h) fun v s1 ⟨x,H1,I1,r1,q1⟩=>?_);obtain ⟨c,rfl,q1⟩:=q1;cases r1;refine wpAny_truthy_bool ?_
 cases c with
 |false=>exact hb pins s1 σ H1 Q I1 q1
 |true=>exact ⟨.bl true,H1,I1,rfl,q1⟩
theorem zh4 (ha:PE X a ta):PE X (.UnaryOp .Not a pos) (tNotV ta):=by
 intro pins s σ H Q I h;refine UnaryOp_ (xT (ha pins s σ H _ I h) fun v s1 ⟨x,H1,I1,r1,q1⟩=>?_);obtain ⟨c,rfl,q1⟩:=q1;cases r1;exact not_of (wpAny_truthy_bool ⟨.bl (!c),H1,I1,rfl,q1⟩)
def tIf (t:TT) (ta tb:TE):TE:=fun σ H Q=>t σ H fun c H1=>if c=true then ta σ H1 Q else tb σ H1 Q
theorem zev {c:Expr} (hc:PT X c tA) (ha:PE X a ta) (hb:PE X b tb):PE X (.IfExp c a b pos) (tIf tA ta tb):=by
 intro pins s σ H Q I h;refine wpAny_IfExp (xT (hc pins s σ H _ I h) fun d s1 ⟨H1,I1,q1⟩=>?_)
 cases d with
 |true=>exact ha pins s1 σ H1 Q I1 q1
 |false=>exact hb pins s1 σ H1 Q I1 q1
end
end L2
namespace L2
open PySem PySem.Spec PyProof.Rows
def mR (K:PySem.W.Frag) (H:Hp) (a:Addr) (xs:List V):Prop :=
 Rd H a (.lst xs) \/
  ∃ (o:Obj) (its:Array Value) (n:Nat),K.lookup a=some o/\o.cls=.type "list" /\ o.dict=none/\o.data=.seq its n/\its.size<=sizeLine/\yT xs its.toList
def pF (K:PySem.W.Frag) (H:Hp) (a:Addr) (xs:List V):Prop :=
 Rd H a (.tup xs) \/
  ∃ (o:Obj) (its:Array Value) (n:Nat),K.lookup a=some o/\o.cls=.type "tuple" /\ o.data=.seq its n/\its.size<=sizeLine/\yT xs its.toList
def absV:Value->Option V
 | .none=>some .non
 | .bool b=>some (.bl b)
 | .int i _=>some (.int i)
 | .str x _=>some (.str x)
 | .bytes b _=>some (.byt b)
 | .float b _=>some (.flt b)
 | .ref a=>some (.ref a)
 | .type n=>some (.ty n)
 |_=>none
theorem yY.abs {x:V} {u:Value} (r:yY x u):absV u=some x:=by
 cases x with
 |non=>cases r;rfl
 |bl _=>cases r;rfl
 |int _=>obtain ⟨t,rfl⟩:=r;rfl
 |str _=>obtain ⟨t,rfl⟩:=r;rfl
 |byt _=>obtain ⟨t,rfl⟩:=r;rfl
 |flt _=>obtain ⟨t,rfl⟩:=r;rfl
 |ref _=>cases r;rfl
 |ty _=>cases r;rfl
theorem yY.inj {x y:V} {u:Value} (r:yY x u) (q:yY y u):x=y:=Option.some.inj (r.abs.symm.trans q.abs)
theorem yT.inj:∀ {xs ys:List V} {us:List Value},yT xs us->yT ys us->xs=ys
 |_,_,_,.nil,.nil=>rfl
 |_,_,_,.cons r t,.cons r' t'=>by rw [r.inj r',yT.inj t t']
section
variable {X : Cx} {pins : List (Addr × Obj)} {σ : St} {H : Hp} {s : Shared} {a : Addr} {xs ys : List V}
theorem mR.of {K:PySem.W.Frag} (h:H a=some (.lst xs)):mR K H a xs:=.inl (.inl h)
theorem pF.of {K:PySem.W.Frag} (h:H a=some (.tup xs)):pF K H a xs:=.inl (.inl h)
theorem Inv.list (I:Inv X pins σ H s) (h:mR X.K H a xs):∃ its:List Value,yT xs its/\PlainL s.heap a its.toArray/\xs.length<=sizeLine:=by
 rcases h with h|⟨o,its,n,hk,hc,hd,hs,hz,r⟩
 .obtain ⟨z,its,n,r,e⟩:=h.ok I.hok;exact ⟨its,r,⟨_,n,e,rfl,rfl,rfl⟩,z⟩
 .refine ⟨its.toList,r,⟨o,n,I.kIn a o hk,hc,hd,by simpa using hs⟩,?_⟩;have e:=r.length;simp only [Array.length_toList] at e;omega
theorem Inv.tuple (I:Inv X pins σ H s) (h:pF X.K H a xs):∃ its:List Value,yT xs its/\IsTup s.heap a its.toArray/\xs.length<=sizeLine:=by
 rcases h with h|⟨o,its,n,hk,hc,hs,hz,r⟩
 .obtain ⟨z,its,r,p⟩:=h.ok I.hok;exact ⟨its,r,p,z⟩
 .refine ⟨its.toList,r,⟨o,I.kIn a o hk,hc,n,by simpa using hs⟩,?_⟩;have e:=r.length;simp only [Array.length_toList] at e;omega
theorem Inv.list_inj (I:Inv X pins σ H s) (h:mR X.K H a xs) (h':mR X.K H a ys):xs=ys:=by
 obtain ⟨its,r,⟨o,n,e,_,_,d⟩,_⟩:=I.list h;obtain ⟨its',r',⟨o',n',e',_,_,d'⟩,_⟩:=I.list h';rw [e] at e';cases e';rw [d] at d'
 injection d' with d1 _
 have:its=its':=by simpa using congrArg Array.toList d1
 subst this;exact r.inj r'
theorem Inv.tuple_inj (I:Inv X pins σ H s) (h:pF X.K H a xs) (h':pF X.K H a ys):xs=ys:=by
 obtain ⟨its,r,⟨o,e,_,n,d⟩,_⟩:=I.tuple h;obtain ⟨its',r',⟨o',e',_,n',d'⟩,_⟩:=I.tuple h';rw [e] at e';cases e';rw [d] at d'
 injection d' with d1 _
 have:its=its':=by simpa using congrArg Array.toList d1
 subst this;exact r.inj r'
end
abbrev Cx.wish (X:Cx) (E:Value->Shared->Prop):Cx:={ X with xe:=E }
abbrev Cx.nox (X:Cx):Cx:=X.wish fun _ _=>False
theorem Cx.Ok.wish {X:Cx} (ok:X.Ok) (E:Value->Shared->Prop):(X.wish E).Ok :=
 ⟨ok.mod,ok.kind,ok.glob,ok.blt,ok.above,ok.inj,ok.has,ok.cab,ok.hd,ok.frames,ok.stk,ok.exf,ok.bs,ok.bsz,ok.noex,ok.exfs,ok.funs,ok.frf⟩
theorem Cx.Ok.unwish {X:Cx} {E:Value->Shared->Prop} (ok:(X.wish E).Ok):X.Ok :=
 ⟨ok.mod,ok.kind,ok.glob,ok.blt,ok.above,ok.inj,ok.has,ok.cab,ok.hd,ok.frames,ok.stk,ok.exf,ok.bs,ok.bsz,ok.noex,ok.exfs,ok.funs,ok.frf⟩
section
variable {X : Cx} {pins : List (Addr × Obj)} {σ : St} {H : Hp} {s : Shared} {E : Value → Shared → Prop}
theorem Inv.wish (I:Inv X pins σ H s) (E:Value->Shared->Prop):Inv (X.wish E) pins σ H s:=⟨I.ok.wish E,I.os,I.bare,I.base,I.loc,I.cell,I.free,I.freeC,I.pin,I.hok,I.len⟩
theorem Inv.unwish (I:Inv (X.wish E) pins σ H s):Inv X pins σ H s:=⟨I.ok.unwish,I.os,I.bare,I.base,I.loc,I.cell,I.free,I.freeC,I.pin,I.hok,I.len⟩
theorem SP.unwish {D:Ends} {f:Flow} {s':Shared} (h:SP (X.wish E) pins D f s'):SP X pins D f s':=by
 cases f with
 |next=>obtain ⟨σ',H',I,q⟩:=h;exact ⟨σ',H',I.unwish,q⟩
 |brk=>obtain ⟨σ',H',I,q⟩:=h;exact ⟨σ',H',I.unwish,q⟩
 |cont=>obtain ⟨σ',H',I,q⟩:=h;exact ⟨σ',H',I.unwish,q⟩
 |ret u=>obtain ⟨v,σ',H',I,r,q⟩:=h;exact ⟨v,σ',H',I.unwish,r,q⟩
theorem PSs.nox {st:List Stmt} {t:TS} (h:PSs X.nox st t):PSs X st t:=fun pins s σ H D I hw =>
 wpAny_mono (h pins s σ H D (I.wish _) hw) (fun _ _ q=>q.unwish) fun _ _ z=>False.elim z
end
section
variable {X : Cx} {st : Stmt} {rest : List Stmt} {t u : TS} {e : Expr} {te : TE} {pos : Pos}
def zhs:TS:=fun D σ H=>D.nx σ H
def tSeq (t u:TS):TS:=fun D σ H=>t { D with nx:=u D } σ H
theorem zf3:PSs X [] zhs:=fun _ _ σ H _ I h=>wpAny_execs_nil ⟨σ,H,I,h⟩
theorem zel (h1:PS X st t) (h2:PSs X rest u):PSs X (st::rest) (tSeq t u):=by
 intro pins s σ H D I h;refine wpAny_execs_cons (xT (h1 pins s σ H { D with nx:=u D } I h) fun f s1 q=>?_)
 cases f with
 |next =>
  obtain ⟨σ',H',I',q⟩:=q;exact h2 pins s1 σ' H' D I' q
 |ret v=>exact q
 |brk=>exact q
 |cont=>exact q
def zhv:TS:=fun D σ H=>D.bk σ H
def tCont:TS:=fun D σ H=>D.ct σ H
theorem zf5:PS X (.Pass pos) zhs:=fun _ _ σ H _ I h=>wpAny_Pass ⟨σ,H,I,h⟩
theorem zep:PS X (.Break pos) zhv:=fun _ _ σ H _ I h=>wpAny_Break ⟨σ,H,I,h⟩
theorem zaN:PS X (.Continue pos) tCont:=fun _ _ σ H _ I h=>wpAny_Continue ⟨σ,H,I,h⟩
theorem Inv.quiet {pins:List (Addr×Obj)} {σ:St} {H:Hp} {s:Shared} (I:Inv X pins σ H s):interactive X.env=false:=by simp [interactive,I.ok.kind]
def tDrop (te:TE):TS:=fun D σ H=>te σ H fun _ H1=>D.nx σ H1
theorem zf6 (he:PE X e te) (hs:swapsWith e none pos.line X.env=pure false:=by rfl):PS X (.Expr e pos) (tDrop te):=by
 intro pins s σ H D I h;exact wpAny_Expr_any (xT (he pins s σ H _ I h) fun v s1 ⟨x,H1,I1,r1,q1⟩=>⟨σ,H1,I1,q1⟩) I.quiet hs
def tRet (te:TE):TS:=fun D σ H=>te σ H D.rt
theorem zhU (he:PE X e te):PS X (.Return (some e) pos) (tRet te):=by
 intro pins s σ H D I h;exact wpAny_Return_some (xT (he pins s σ H _ I h) fun v s1 ⟨x,H1,I1,r1,q1⟩=>⟨x,σ,H1,I1,r1,q1⟩)
def tRetN:TS:=fun D _ H=>D.rt .non H
theorem zf4:PS X (.Return none pos) tRetN:=fun _ _ σ H _ I h=>wpAny_Return_none ⟨.non,σ,H,I,rfl,h⟩
def tIfS (c:TT) (t u:TS):TS:=fun D σ H=>c σ H fun b H1=>if b=true then t D σ H1 else u D σ H1
theorem ps_if {c:Expr} {a b:List Stmt} {tc:TT} (hc:PT X c tc) (ha:PSs X a t) (hb:PSs X b u):PS X (.If c a b pos) (tIfS tc t u):=by
 intro pins s σ H D I h;refine wpAny_If (xT (hc pins s σ H _ I h) fun d s1 ⟨H1,I1,q1⟩=>?_)
 cases d with
 |true=>exact ha pins s1 σ H1 D I1 q1
 |false=>exact hb pins s1 σ H1 D I1 q1
def zht:TS:=fun _ _ _=>False
theorem zeo:PS X st zht:=fun _ _ _ _ _ _ h=>h.elim
end
abbrev TG:=V->St->Hp->(St->Hp->Prop)->Prop
abbrev TGs:=List V->St->Hp->(St->Hp->Prop)->Prop
def PG (X:Cx) (target:Expr) (t:TG):Prop :=
 ∀ (pins:List (Addr×Obj)) (s:Shared) (σ:St) (H:Hp) (v:V) (u:Value) (Q:St->Hp->Prop),Inv X pins σ H s->yY v u->t v σ H Q ->
  wpAny (model X.prog X.w) X.A (assign target X.env u) (fun _ s'=>∃ σ' H',Inv X pins σ' H' s'/\Q σ' H') X.xe s
def PGs (X:Cx) (ts:List Expr) (t:TGs):Prop :=
 ∀ (pins:List (Addr×Obj)) (s:Shared) (σ:St) (H:Hp) (vs:List V) (us:List Value) (Q:St->Hp->Prop),Inv X pins σ H s->yT vs us->t vs σ H Q ->
  wpAny (model X.prog X.w) X.A (assignInOrder ((assignEach ts X.env).map (·.2)) us) (fun _ s'=>∃ σ' H',Inv X pins σ' H' s'/\Q σ' H') X.xe s
abbrev TSet:=V->V->V->Hp->(Hp->Prop)->Prop
def PSet (X:Cx) (t:TSet):Prop :=
 ∀ (pins:List (Addr×Obj)) (s:Shared) (σ:St) (H:Hp) (o i v:V) (ov iv u:Value) (Q:Hp->Prop),Inv X pins σ H s->yY o ov->yY i iv->yY v u->t o i v H Q ->
  wpAny (model X.prog X.w) X.A (setItem ov iv u) (fun _ s'=>∃ H',Inv X pins σ H' s'/\Q H') X.xe s
section
variable {X : Cx} {pos : Pos}
def zeX (i:Nat):TG:=fun v σ H Q=>Q (σ.set i (some v)) H
theorem zaQ {i:Nat} {x:Str} (hN:X.N.Nodup) (hi:X.N[i]?=some x) (hx:Loc X.env.scope x) (hf:X.fn x=true\/X.env.scope.names.lookup x=some .local:=by first|exact .inl rfl|exact .inr rfl|assumption):PG X (.Name x pos) (zeX i):=by
 intro pins s σ H v u Q I r h;exact wpAny_assign_Name (zbj I hN hi hx r (fun s' I'=>⟨_,H,I',h⟩) hf)
def gNil:TGs:=fun vs σ H Q=>vs=[]/\Q σ H
def gCons (t:TG) (u:TGs):TGs:=fun vs σ H Q=>∃ v r,vs=v::r/\t v σ H fun σ' H'=>u r σ' H' Q
theorem zcS:PGs X [] gNil:=by
 intro pins s σ H vs us Q I r h;obtain ⟨e,h⟩:=h;subst e;cases r;exact assignInOrder_nil ⟨σ,H,I,h⟩
theorem gI {e:Expr} {es:List Expr} {t:TG} {u:TGs} (h1:PG X e t) (h2:PGs X es u)
  (hs:(assignEach (e::es) X.env).map (·.2)=assign e X.env::(assignEach es X.env).map (·.2):=by rfl):PGs X (e::es) (gCons t u):=by
 intro pins s σ H vs us Q I r h;obtain ⟨v,vr,e1,h⟩:=h;subst e1
 cases r with
 |cons r rr =>
  rw [hs];refine assignInOrder_cons (xT (h1 pins s σ H _ _ _ I r h) fun _ s1 ⟨σ1,H1,I1,q1⟩=>?_);exact h2 pins s1 σ1 H1 _ _ Q I1 rr q1
def gTup (K:PySem.W.Frag) (n:Nat) (t:TGs):TG:=fun v σ H Q=>∃ a xs,v=.ref a/\pF K H a xs/\xs.length=n/\t xs σ H Q
theorem zh0 {es:List Expr} {k:Nat} {t:TGs} {n:Nat} (hc:X.calm=true) (h:PGs X es t)
  (hn:(assignEach es X.env).length=n:=by rfl) (hst:(assignEach es X.env).findIdx? (·.1)=none:=by rfl):PG X (.Tuple es k pos) (gTup X.K n t):=by
 intro pins s σ H v u Q I r hw;obtain ⟨a,xs,e1,hq,hl,hw⟩:=hw;subst e1;cases r;obtain ⟨its,rv,ht,hz⟩:=I.tuple hq;refine assign_Tuple_tuple (I.ok.hd hc) ht (by simp [hn,← hl,rv.length]) hst fun h' hx=>?_;have I1:Inv X pins σ H { s with heap:=h' }:=I.kept (t':=s.toks) fun b o e=>hx b o (Nat.ne_of_lt (Heap.lt_size e)) e;exact h pins _ σ H xs _ Q I1 (by simpa using rv) hw
def tAsg (te:TE) (g:TG):TS:=fun D σ H=>te σ H fun x H1=>g x σ H1 D.nx
theorem zfs {tg e:Expr} {te:TE} {g:TG} (he:PE X e te) (hg:PG X tg g) (hs:swapsWithSole [tg] e pos.line X.env=pure false:=by rfl) (hw:swappedStores [tg] e X.env=pure none:=by rfl)
  (h1:(assignEach [tg] X.env).map (·.2)=[assign tg X.env]:=by rfl):PS X (.Assign [tg] e pos) (tAsg te g):=by
 intro pins s σ H D I h;refine wpAny_Assign_stores (xT (he pins s σ H _ I h) fun v s1 ⟨x,H1,I1,r1,q1⟩=>?_) hs hw;rw [h1];exact xT (hg pins s1 σ H1 x v _ I1 r1 q1) fun _ s2 q=>q
theorem zfr {i:Nat} {x:Str} {e:Expr} {te:TE} {pos':Pos} (hN:X.N.Nodup) (hi:X.N[i]?=some x) (hx:Loc X.env.scope x) (he:PE X e te) (hs:swapsWith e (some (.Name x pos')) pos.line X.env=pure false:=by rfl) (hf:X.fn x=true\/X.env.scope.names.lookup x=some .local:=by first|exact .inl rfl|exact .inr rfl|assumption) :
  PS X (.Assign [.Name x pos'] e pos) (tAsg te (zeX i)):=by
 intro pins s σ H D I h;refine wpAny_Assign_Name (xT (he pins s σ H _ I h) fun v s1 ⟨y,H1,I1,r1,q1⟩=>?_) hs;exact zbj I1 hN hi hx r1 (fun s2 I2=>⟨_,H1,I2,q1⟩) hf
end
section
variable {X : Cx} {pos : Pos}
def zhr (c:TT) (tb:TS):TS:=fun D σ H=>∃ W:Nat->St->Hp->Prop,(∃ m,W m σ H)/\∀ m σ H,W m σ H ->
 c σ H fun b H1=>if b=true then ∃ N:St->Hp->Prop,(∀ σ' H',N σ' H'->∃ m',m' < m/\W m' σ' H')/\tb { D with nx:=N,ct:=N,bk:=D.nx } σ H1 else D.nx σ H1
theorem zem {c:Expr} {body:List Stmt} {tc:TT} {tb:TS} (hp:PassesOwn (model X.prog X.w) X.A X.env X.xe) (hc:PT X c tc) (hb:PSs X body tb):PS X (.While c body [] pos) (zhr tc tb):=by
 intro pins s σ H D I h;obtain ⟨W,⟨m0,w0⟩,turn⟩:=h;refine wpAny_While (codeAny_whileLoop (fun n s'=>∃ σ' H',Inv X pins σ' H' s'/\W n σ' H') ?_ m0 ⟨σ,H,I,w0⟩);rintro n s1 ⟨σ1,H1,I1,w1⟩;refine wpAny_passesOwn hp (xT (hc pins s1 σ1 H1 _ I1 (turn n σ1 H1 w1)) fun b s2 ⟨H2,I2,q2⟩=>?_)
 cases b with
 |true =>
  obtain ⟨N,hN,q2⟩:=q2;rw [if_pos rfl];refine wpAny_passesOwn hp (xT (hb pins s2 σ1 H2 _ I2 q2) fun f s3 q3=>?_)
  cases f with
  |next =>
   obtain ⟨σ3,H3,I3,n3⟩:=q3;obtain ⟨m',hm,w3⟩:=hN σ3 H3 n3;exact ⟨m',hm,σ3,H3,I3,w3⟩
  |cont =>
   obtain ⟨σ3,H3,I3,n3⟩:=q3;obtain ⟨m',hm,w3⟩:=hN σ3 H3 n3;exact ⟨m',hm,σ3,H3,I3,w3⟩
  |brk=>exact q3
  |ret v=>exact q3
 |false =>
  rw [if_neg zzN];exact wpAny_execs_nil ⟨σ1,H2,I2,q2⟩
end
structure It where
 go:Nat->Hp->Prop
 yld:Nat->Hp->V->Hp->Prop
 stop:Nat->Hp->Prop
def pK (X:Cx) (pins:List (Addr×Obj)) (H:Hp) (b:Addr):Prop :=
 H b=none/\b≠X.env.locals/\b∉X.fs/\(b∈X.ex\/X.s₀.heap.objs.size<=b)/\(∀ x c,X.env.cells.lookup x=some c->c≠b)/\∀ p∈X.pn++pins,p.1≠b
theorem Inv.fpOk {X:Cx} {pins:List (Addr×Obj)} {σ:St} {H H':Hp} {s:Shared} {b:Addr} (I:Inv X pins σ H s) (hb:s.heap.objs.size<=b) (hn:H' b=none):pK X pins H' b:=by
 refine ⟨hn,Nat.ne_of_gt (Nat.lt_of_lt_of_le I.lt hb),I.nofs hb,.inr (Nat.le_trans I.sz hb),fun x c e z=>?_,fun p hp z=>?_⟩
 .obtain ⟨v,q⟩:=I.cell x c e;exact absurd (Nat.lt_of_lt_of_le q.lt (by rw [z];exact hb)) (Nat.lt_irrefl _)
 .exact absurd (Nat.lt_of_lt_of_le (Heap.lt_size (I.pin p hp).1) (by rw [z];exact hb)) (Nat.lt_irrefl _)
structure Turn (P:Program) (w:World) (K:PySem.W.Frag) (tg:Expr) (J:It) (fp:List Addr) (it:Addr) (tn:Nat->Heap->Prop):Prop where
 mem:it∈fp
 obj:∀ i h,tn i h->∀ b∈fp,∃ o,h.get? b=some o/\∀ v,o.data≠.cell v
 keep:∀ i h h',tn i h->(∀ b∈fp,∀ o,h.get? b=some o->h'.get? b=some o)->tn i h'
 item:∀ (X:Cx),X.prog=P->X.w=w->X.K=K->X.calm=true->∀ (i:Nat) (pins:List (Addr×Obj)) (s:Shared) (σ:St) (H:Hp) (E:Value->Shared->Prop),Inv X pins σ H s->(∀ b∈fp,pK X pins H b)->tn i s.heap->J.go i H ->
  wpAny (model P w) X.A (pyNext (.ref it)) (fun r s1=>∃ u,r=some u /\
   wpAny (model P w) X.A (letOwnedTupleGo tg (.ref it) u) (fun _ s2=>∃ x H',Inv X pins σ H' s2/\yY x u/\J.yld i H x H'/\tn (i+1) s2.heap/\∀ b∈fp,H' b=none) E s1) E s
 done:∀ (X:Cx),X.prog=P->X.w=w->X.K=K->X.calm=true->∀ (i:Nat) (pins:List (Addr×Obj)) (s:Shared) (σ:St) (H:Hp) (E:Value->Shared->Prop),Inv X pins σ H s->(∀ b∈fp,pK X pins H b)->tn i s.heap->J.stop i H ->
  wpAny (model P w) X.A (pyNext (.ref it)) (fun r s1=>r=none/\Inv X pins σ H s1) E s
 self:∀ (A:Around) (i:Nat) (s:Shared) (Q:Value->Shared->Prop) (E:Value->Shared->Prop),tn i s.heap->Q (.ref it) s->wpAny (model P w) A (pyIter (.ref it)) Q E s
abbrev TI:=St->Hp->(It->Hp->Prop)->Prop
def PIE (X:Cx) (pins:List (Addr×Obj)) (σ:St) (tg:Expr) (R:It->Hp->Prop) (itv:Value) (s2:Shared):Prop :=
 ∃ (it:Addr) (fp:List Addr) (tn:Nat->Heap->Prop) (J:It) (H':Hp),itv=.ref it/\Inv X pins σ H' s2/\Turn X.prog X.w X.K tg J fp it tn/\tn 0 s2.heap/\(∀ b∈fp,pK X pins H' b)/\R J H'
def PI (X:Cx) (tg iter:Expr) (wi:TI):Prop :=
 ∀ (pins:List (Addr×Obj)) (s:Shared) (σ:St) (H:Hp) (R:It->Hp->Prop),Inv X pins σ H s->wi σ H R ->
  wpAny (model X.prog X.w) X.A (eval iter X.env) (fun v s1=>wpAny (model X.prog X.w) X.A (pyIter v) (PIE X pins σ tg R) X.xe s1) X.xe s
theorem zdr {M:Model} {A:Around} {E:Value->Shared->Prop} {s:Shared} {tg:Expr} {it:Addr} {u:Value} {o:Obj} {n:String} {vs:Array Value} {Q:Unit->Shared->Prop} (ho:s.heap.get? it=some o) (hc:o.cls=.type n) (hd:o.data=.fields vs)
    (hn:["enumerate", "zip", "dict_itemiterator", "dict_reverseitemiterator", "odict_iterator", "itertools.zip_longest", "itertools.pairwise"].contains n=false) (hQ:Q () s):wpAny M A (letOwnedTupleGo tg (.ref it) u) Q E s:=by
  unfold letOwnedTupleGo
  cases tg<;>first
    |exact wpAny_pure hQ
    | (cases u<;>first
        |exact wpAny_pure hQ
        | (refine wpAny_bind (wpAny_load ho ?_)
           rw [hc,hd];show wpAny M A (if (["enumerate", "zip", "dict_itemiterator", "dict_reverseitemiterator", "odict_iterator", "itertools.zip_longest", "itertools.pairwise"].contains n&&vs[0]?==some (rawInt _))=true then _ else _) Q E s;rw [if_neg (by intro h;rw [hn,Bool.false_and] at h;cases h)];exact wpAny_pure hQ))
def Itl (K:PySem.W.Frag) (a:Addr):It :=
 ⟨fun i H=>∃ xs x,mR K H a xs/\xs[i]?=some x,fun i H x H'=>H'=H/\∀ xs,mR K H a xs->xs[i]?=some x,fun i H=>∃ xs,mR K H a xs/\xs.length<=i⟩
def Itt (K:PySem.W.Frag) (a:Addr):It :=
 ⟨fun i H=>∃ xs x,pF K H a xs/\xs[i]?=some x,fun i H x H'=>H'=H/\∀ xs,pF K H a xs->xs[i]?=some x,fun i H=>∃ xs,pF K H a xs/\xs.length<=i⟩
def Itr (lo:Int) (n:Nat):It:=⟨fun i _=>i<n,fun i H x H'=>H'=H/\x=.int (lo+i),fun i _=>n<=i⟩
theorem zcp {P:Program} {w:World} {K:PySem.W.Frag} {tg:Expr} (a it:Addr):Turn P w K tg (Itl K a) [it] it (fun i h=>h.IsListIter it a i) where
 mem:=by simp
 obj:=fun i h st b hb=>by
  have e:b=it:=by simpa using hb
  subst e;obtain ⟨o,e,c,d⟩:=st;exact ⟨o,e,fun v z=>by rw [d] at z;cases z⟩
 keep:=fun i h h' st k=>st.at fun o e=>k it (by simp) o e
 item:=by
  intro X hP hw hK hc i pins s σ H E I hf st hg;subst hP hw hK;obtain ⟨xs,x,hq,hx⟩:=hg;obtain ⟨its,rv,p,hz⟩:=I.list hq;obtain ⟨u,hu,ru⟩:=rv.get hx;obtain ⟨f0,f1,f2,f3,f4,f5⟩:=hf it (by simp);refine wpAny_pyNext_list_item st p.isList (x:=u) (by simpa using hu) fun h' st' sb=>?_;have I1:Inv X pins σ H { s with heap:=h' }:=I.turned (t':=s.toks) (fun b o hb e=>(sb.2 b hb).trans e) f0 f1 f3 f4 f5;obtain ⟨o,e,c,d⟩:=id st';exact ⟨u,rfl,zdr (s:={ s with heap:=h' }) e c d (by decide) ⟨x,H,I1,ru,⟨rfl,fun ys hy=>by rw [I.list_inj hy hq];exact hx⟩,st',fun b hb=>(hf b hb).1⟩⟩
 done:=by
  intro X hP hw hK hc i pins s σ H E I hf st hg;subst hP hw hK;obtain ⟨xs,hq,hx⟩:=hg;obtain ⟨its,rv,p,hz⟩:=I.list hq;obtain ⟨f0,f1,f2,f3,f4,f5⟩:=hf it (by simp);have hl:=rv.length;exact wpAny_pyNext_list_end (I.ok.hd hc) st p.isList (by simp;omega) fun h' eb=>⟨rfl,I.turned (t':=s.toks) (fun b o hb e=>eb b o hb e) f0 f1 f3 f4 f5⟩
 self:=fun _ _ _ _ _ st h=>wpAny_pyIter_listiter st h
theorem zbV {P:Program} {w:World} {K:PySem.W.Frag} {tg:Expr} (a it:Addr):Turn P w K tg (Itt K a) [it] it (fun i h=>h.IsTupleIter it a i) where
 mem:=by simp
 obj:=fun i h st b hb=>by
  have e:b=it:=by simpa using hb
  subst e;obtain ⟨o,e,c,d⟩:=st;exact ⟨o,e,fun v z=>by rw [d] at z;cases z⟩
 keep:=fun i h h' st k=>st.at fun o e=>k it (by simp) o e
 item:=by
  intro X hP hw hK hc i pins s σ H E I hf st hg;subst hP hw hK;obtain ⟨xs,x,hq,hx⟩:=hg;obtain ⟨its,rv,p,hz⟩:=I.tuple hq;obtain ⟨u,hu,ru⟩:=rv.get hx;obtain ⟨f0,f1,f2,f3,f4,f5⟩:=hf it (by simp);refine wpAny_pyNext_tuple_item st (show s.heap.IsTuple a its.toArray from p) (x:=u) (by simpa using hu) fun h' st' sb=>?_;have I1:Inv X pins σ H { s with heap:=h' }:=I.turned (t':=s.toks) (fun b o hb e=>(sb.2 b hb).trans e) f0 f1 f3 f4 f5;obtain ⟨o,e,c,d⟩:=id st';exact ⟨u,rfl,zdr (s:={ s with heap:=h' }) e c d (by decide) ⟨x,H,I1,ru,⟨rfl,fun ys hy=>by rw [I.tuple_inj hy hq];exact hx⟩,st',fun b hb=>(hf b hb).1⟩⟩
 done:=by
  intro X hP hw hK hc i pins s σ H E I hf st hg;subst hP hw hK;obtain ⟨xs,hq,hx⟩:=hg;obtain ⟨its,rv,p,hz⟩:=I.tuple hq;obtain ⟨f0,f1,f2,f3,f4,f5⟩:=hf it (by simp);have hl:=rv.length;exact wpAny_pyNext_tuple_end (I.ok.hd hc) st (show s.heap.IsTuple a its.toArray from p) (by simp;omega) fun h' eb=>⟨rfl,I.turned (t':=s.toks) (fun b o hb e=>eb b o hb e) f0 f1 f3 f4 f5⟩
 self:=fun _ _ _ _ _ st h=>wpAny_pyIter_tupleiter st h
theorem zbW {P:Program} {w:World} {K:PySem.W.Frag} {tg:Expr} (it:Addr) (lo:Int) (n:Nat):Turn P w K tg (Itr lo n) [it] it (fun i h=>IsRangeIter h it (lo+(i:Nat) * 1) ((n:Int)-(i:Nat)) 1) where
 mem:=by simp
 obj:=fun i h st b hb=>by
  have e:b=it:=by simpa using hb
  subst e
  exact ⟨_,st,fun v z=>by
   have z':Data.fields _=Data.cell v:=z;cases z'⟩
 keep:=fun i h h' st k=>k it (by simp) _ st
 item:=by
  intro X hP hw hK hc i pins s σ H E I hf st hg;subst hP hw hK;obtain ⟨f0,f1,f2,f3,f4,f5⟩:=hf it (by simp);have W:=Walks.range (prog:=X.prog) (w:=X.w) (I.ok.hd hc) it lo 1 n;refine W.item i s _ _ hg st fun v h' tk hv st' kk=>?_;obtain ⟨t,rfl⟩:=hv;have I1:Inv X pins σ H { s with heap:=h',toks:=tk }:=I.turned (fun b o hb e=>kk b o (by simpa using hb) e) f0 f1 f3 f4 f5;refine ⟨_,rfl,zdr (s:={ s with heap:=h',toks:=tk }) (n := "range_iterator") st' rfl rfl (by decide) ⟨.int (lo+i),H,I1,⟨t,?_⟩,⟨rfl,rfl⟩,st',fun b hb=>(hf b hb).1⟩⟩;rw [Int.mul_one]
 done:=by
  intro X hP hw hK hc i pins s σ H E I hf st hg;subst hP hw hK;obtain ⟨f0,f1,f2,f3,f4,f5⟩:=hf it (by simp);exact wpAny_pyNext_range_end (I.ok.hd hc) st (by have:n<=i:=hg;omega) fun h' eb=>⟨rfl,I.turned (t':=s.toks) (fun b o hb e=>eb b o hb e) f0 f1 f3 f4 f5⟩
 self:=fun _ _ _ _ _ st h=>wpAny_pyIter_rangeiter st h
end L2
namespace L2
open PySem PySem.Spec PyProof.Rows
section
variable {X : Cx} {tg : Expr}
theorem zei {pins:List (Addr×Obj)} {σ:St} {H:Hp} {s:Shared} {R:It->Hp->Prop} {E:Value->Shared->Prop} {lo hi:Int} {t u v:Tok} {tk:Nat} (I:Inv X pins σ H s) (h1:-(2 ^ 62)<=lo) (h2:lo<2 ^ 62) (h3:-(2 ^ 62)<=hi) (h4:hi<2 ^ 62)
  (q:R (Itr lo (hi-lo).toNat) H):wpAny (model X.prog X.w) X.A (pyIter (.ref s.heap.objs.size)) (PIE X pins σ tg R) E { s with heap:=s.heap.push { cls:=.type "range", data:=.fields #[.int lo t,.int hi u,.int 1 v] },toks:=tk }:=by
 refine wpAny_pyIter_range (IsRange.new ..) (small_one h1 h2 h3 h4) ?_;have I1:Inv X pins σ H { s with heap:=s.heap.push { cls:=.type "range", data:=.fields #[.int lo t,.int hi u,.int 1 v] },toks:=tk }:=I.kept fun b o e=>Heap.get?_push_of_some _ e
 refine ⟨(s.heap.push { cls:=.type "range", data:=.fields #[.int lo t,.int hi u,.int 1 v] }).objs.size,[(s.heap.push { cls:=.type "range", data:=.fields #[.int lo t,.int hi u,.int 1 v] }).objs.size],_,_,H,rfl,
  I1.kept (t':=tk) fun b o e=>Heap.get?_push_of_some _ e,zbW _ lo (hi-lo).toNat,?_,fun b hb=>?_,q⟩
 .have e1:lo+((0:Nat):Int) * 1=lo:=by simp
  have e2:(((hi-lo).toNat:Nat):Int)-((0:Nat):Int)=Builtin.Range.rangeSize lo hi 1:=by rw [rangeSize_one];split<;>omega
  show IsRangeIter _ _ (lo+((0:Nat):Int) * 1) ((((hi-lo).toNat:Nat):Int)-((0:Nat):Int)) 1;rw [e1,e2];exact Heap.get?_push_size _ rfl
 .have e:b=(s.heap.push { cls:=.type "range", data:=.fields #[.int lo t,.int hi u,.int 1 v] }).objs.size:=by simpa using hb
  subst e;exact I1.fpOk (zzR _) (I1.hok.fresh (zzR _))
def tFor (wi:TI) (g:TG) (tb:TS):TS:=fun D σ H=>wi σ H fun J H1=>∃ W:Nat->Nat->St->Hp->Prop,(∃ m,W 0 m σ H1)/\∀ i m σ H,W i m σ H ->
 (J.stop i H/\D.nx σ H)\/(J.go i H/\∃ N:St->Hp->Prop,(∀ σ' H',N σ' H'->∃ m',m' < m/\W (i+1) m' σ' H')/\∀ x H',J.yld i H x H'->g x σ H' fun σ2 H2=>tb { D with nx:=N,ct:=N,bk:=D.nx } σ2 H2)
def pC (fp:List Addr) (h:Heap):List (Addr×Obj):=fp.filterMap fun b=>(h.get? b).map fun o=>(b,o)
theorem uV {fp:List Addr} {h:Heap} {b:Addr} {o:Obj} (hb:b∈fp) (e:h.get? b=some o):(b,o)∈pC fp h:=List.mem_filterMap.mpr ⟨b,hb,by rw [e];rfl⟩
theorem zcY {fp:List Addr} {h:Heap} {p:Addr×Obj} (hp:p∈pC fp h):p.1∈fp/\h.get? p.1=some p.2:=by
 obtain ⟨b,hb,e⟩:=List.mem_filterMap.mp hp
 cases q:h.get? b with
 |none=>rw [q] at e;cases e
 |some o =>
  rw [q] at e;have e':(b,o)=p:=Option.some.inj e;subst e';exact ⟨hb,q⟩
theorem Inv.pinned {pins:List (Addr×Obj)} {σ:St} {H:Hp} {s:Shared} {fp:List Addr} (I:Inv X pins σ H s) (hf:∀ b∈fp,pK X pins H b) (ho:∀ b∈fp,∃ o,s.heap.get? b=some o/\∀ v,o.data≠.cell v):Inv X (pins++pC fp s.heap) σ H s :=
 I.pins_of fun p hp=>(List.mem_append.mp hp).elim (fun z=>I.pin p (List.mem_append_right _ z)) fun z=>by
  obtain ⟨hb,e⟩:=zcY z;obtain ⟨f0,f1,f2,_⟩:=hf p.1 hb;obtain ⟨o,e',d⟩:=ho p.1 hb;rw [e] at e';cases e';exact ⟨e,f0,f1,f2,d⟩
theorem Inv.unpinned {pins pl:List (Addr×Obj)} {σ:St} {H:Hp} {s:Shared} (I:Inv X (pins++pl) σ H s):Inv X pins σ H s:=I.pins_of fun p hp=>I.pin p (List.mem_append_right _ (List.mem_append_left _ hp))
theorem zhV {iter:Expr} {body:List Stmt} {wi:TI} {g:TG} {tb:TS} {pos:Pos} (hp:PassesOwn (model X.prog X.w) X.A X.env X.xe) (hc:X.calm=true) (hi:PI X tg iter wi) (hg:PG X tg g) (hb:PSs X body tb)
  (hs:∀ x,foldedSetIterable iter X.env x=pure x:=by intro _;rfl):PS X (.For tg iter body [] pos) (tFor wi g tb):=by
 intro pins s σ H D I h;refine wpAny_For (xT (hi pins s σ H _ I h) fun v s1 h1=>xT h1 fun itv s2 h2=>?_) hs;obtain ⟨it,fp,tn,J,H2,e,I2,T,st2,f2,W,⟨m0,w0⟩,turn⟩:=h2;subst e;have stat:∀ {H':Hp},(∀ b∈fp,H' b=none)->∀ b∈fp,pK X pins H' b:=fun hn b hb=>⟨hn b hb,(f2 b hb).2⟩;refine codeAny_forLoop_any (fun n s'=>∃ i σ' H',Inv X pins σ' H' s'/\tn i s'.heap/\(∀ b∈fp,H' b=none)/\W i n σ' H') ?_ m0 ⟨0,σ,H2,I2,st2,fun b hb=>(f2 b hb).1,w0⟩;rintro n s3 ⟨i,σ3,H3,I3,st3,fr3,w3⟩;rcases turn i n σ3 H3 w3 with ⟨stop,qn⟩|⟨go,N,hN,step⟩
 .refine wpAny_passesOwn hp (xT (T.done X rfl rfl rfl hc i pins s3 σ3 H3 X.xe I3 (stat fr3) st3 stop) fun r s4 ⟨hr,I4⟩=>?_);subst hr;exact wpAny_execs_nil ⟨σ3,H3,I4,qn⟩
 .refine wpAny_passesOwn hp (xT (T.item X rfl rfl rfl hc i pins s3 σ3 H3 X.xe I3 (stat fr3) st3 go) fun r s4 ⟨u,hr,h4⟩=>?_);subst hr;refine wpAny_passesOwn hp (xT h4 fun _ s5 ⟨x,H5,I5,r5,y5,st5,fr5⟩=>?_);have I5':=I5.pinned (stat fr5) (T.obj _ _ st5);refine wpAny_passesOwn hp (xT (hg _ s5 σ3 H5 x u _ I5' r5 (step x H5 y5)) fun _ s6 ⟨σ6,H6,I6,q6⟩=>?_);refine wpAny_passesOwn hp (xT (hb _ s6 σ6 H6 _ I6 q6) fun f s7 q7=>?_)
  have again:∀ {σ7:St} {H7:Hp},Inv X (pins++pC fp s5.heap) σ7 H7 s7->N σ7 H7->∃ m,m<n/\∃ i σ' H',Inv X pins σ' H' s7/\tn i s7.heap/\(∀ b∈fp,H' b=none)/\W i m σ' H':=fun {σ7 H7} I7 n7=>by
   obtain ⟨m',hm,w7⟩:=hN σ7 H7 n7;refine ⟨m',hm,i+1,σ7,H7,I7.unpinned,T.keep _ _ _ st5 fun b hb o e=>(I7.pin (b,o) (List.mem_append_right _ (List.mem_append_right _ (uV hb e)))).1,fun b hb=>?_,w7⟩;obtain ⟨o,e,d⟩:=T.obj _ _ st5 b hb;exact (I7.pin (b,o) (List.mem_append_right _ (List.mem_append_right _ (uV hb e)))).2.1
  cases f with
  |next=>obtain ⟨σ7,H7,I7,n7⟩:=q7;exact again I7 n7
  |cont=>obtain ⟨σ7,H7,I7,n7⟩:=q7;exact again I7 n7
  |brk=>obtain ⟨σ7,H7,I7,q7⟩:=q7;exact ⟨σ7,H7,I7.unpinned,q7⟩
  |ret v=>obtain ⟨x7,σ7,H7,I7,r7,q7⟩:=q7;exact ⟨x7,σ7,H7,I7.unpinned,r7,q7⟩
end
end L2
namespace L2
open PySem PySem.Spec PyProof.Rows
abbrev R2:=V->V->Hp->VK->Prop
def vC (X:Cx) (f:Value->Value->Sem Value) (r:R2):Prop :=
 ∀ (pins:List (Addr×Obj)) (s:Shared) (σ:St) (H:Hp) (x y:V) (v u:Value) (Q:VK),Inv X pins σ H s->yY x v->yY y u->r x y H Q ->
  wpAny (model X.prog X.w) X.A (f v u) (EP X pins σ Q) X.xe s
def UnR (X:Cx) (f:Value->Sem Value) (r:V->Hp->VK->Prop):Prop :=
 ∀ (pins:List (Addr×Obj)) (s:Shared) (σ:St) (H:Hp) (x:V) (v:Value) (Q:VK),Inv X pins σ H s->yY x v->r x H Q ->
  wpAny (model X.prog X.w) X.A (f v) (EP X pins σ Q) X.xe s
def qS (X:Cx) (f:Value) (r:List V->Hp->VK->Prop):Prop :=
 ∀ (pins:List (Addr×Obj)) (s:Shared) (σ:St) (H:Hp) (xs:List V) (us:List Value) (Q:VK),Inv X pins σ H s->yT xs us->r xs H Q ->
  wpAny (model X.prog X.w) X.A (call f us) (EP X pins σ Q) X.xe s
def TruR (X:Cx) (r:V->Hp->(Bool->Hp->Prop)->Prop):Prop :=
 ∀ (pins:List (Addr×Obj)) (s:Shared) (σ:St) (H:Hp) (x:V) (v:Value) (Q:Bool->Hp->Prop),Inv X pins σ H s->yY x v->r x H Q ->
  wpAny (model X.prog X.w) X.A (truthy v) (TP X pins σ Q) X.xe s
def tOp (r:R2) (ta tb:TE):TE:=fun σ H Q=>ta σ H fun x H1=>tb σ H1 fun y H2=>r x y H2 Q
def tUn (r:V->Hp->VK->Prop) (ta:TE):TE:=fun σ H Q=>ta σ H fun x H1=>r x H1 Q
def rI (C:Int->Int->Prop) (g:Int->Int->V):R2:=fun x y H Q=>∃ i j,x=.int i/\y=.int j/\C i j/\Q (g i j) H
def rI0 (g:Int->Int->V):R2:=fun x y H Q=>∃ i j,x=.int i/\y=.int j/\Q (g i j) H
def rU (g:Int->V):V->Hp->VK->Prop:=fun x H Q=>∃ i,x=.int i/\Q (g i) H
section
variable {X : Cx} {a b c : Expr} {ta tb tc : TE} {pos : Pos}
theorem binT (ha:PE X a ta) (hb:PE X b tb) {pins:List (Addr×Obj)} {s:Shared} {σ:St} {H:Hp} {R:V->V->Hp->Prop} (I:Inv X pins σ H s)
  (h:ta σ H fun x H1=>tb σ H1 fun y H2=>R x y H2) {Q:Value->Shared->Prop} {f:Value->Value->Sem Value}
  (hf:∀ v u s2 x y H2,Inv X pins σ H2 s2->yY x v->yY y u->R x y H2->wpAny (model X.prog X.w) X.A (f v u) Q X.xe s2) :
  wpAny (model X.prog X.w) X.A (eval a X.env) (fun v s₁=>wpAny (model X.prog X.w) X.A (eval b X.env) (fun u s₂=>wpAny (model X.prog X.w) X.A (f v u) Q X.xe s₂) X.xe s₁) X.xe s:=by
 refine xT (ha pins s σ H _ I h) fun v s1 ⟨x,H1,I1,r1,q1⟩=>?_;refine xT (hb pins s1 σ H1 _ I1 q1) fun u s2 ⟨y,H2,I2,r2,q2⟩=>?_;exact hf v u s2 x y H2 I2 r1 r2 q2
theorem pe_op {op:Operator} {r:R2} (ho:vC X (binaryOp op) r) (ha:PE X a ta) (hb:PE X b tb):PE X (.BinOp a op b pos) (tOp r ta tb):=by
 intro pins s σ H Q I h;exact wpAny_BinOp (binT ha hb I h fun v u s2 x y H2 I2 rx ry q=>ho pins s2 σ H2 x y v u Q I2 rx ry q)
theorem pe_un {op:UnaryOp} {r:V->Hp->VK->Prop} (ho:UnR X (unaryOp op) r) (ha:PE X a ta):PE X (.UnaryOp op a pos) (tUn r ta):=by
 intro pins s σ H Q I h;exact UnaryOp_ (xT (ha pins s σ H _ I h) fun v s1 ⟨x,H1,I1,r1,q1⟩=>ho pins s1 σ H1 x v Q I1 r1 q1)
theorem opI {f:Value->Value->Sem Value} {C:Int->Int->Prop} {g:Int->Int->Int}
  (rule:∀ (i j:Int) (t u:Tok) (s:Shared) (Q:Value->Shared->Prop) (E:Value->Shared->Prop),C i j->Q (.int (g i j) s.toks) { s with toks:=s.toks+1 }->wpAny (model X.prog X.w) X.A (f (.int i t) (.int j u)) Q E s) :
  vC X f (rI C fun i j=>.int (g i j)):=by
 intro pins s σ H x y v u Q I rx ry h;obtain ⟨i,j,rfl,rfl,hc,q⟩:=h;obtain ⟨t,rfl⟩:=rx;obtain ⟨t',rfl⟩:=ry;exact rule i j t t' s _ _ hc ⟨.int (g i j),H,I.tok _,⟨_,rfl⟩,q⟩
theorem opI0 {f:Value->Value->Sem Value} {g:Int->Int->Int}
  (rule:∀ (i j:Int) (t u:Tok) (s:Shared) (Q:Value->Shared->Prop) (E:Value->Shared->Prop),Q (.int (g i j) s.toks) { s with toks:=s.toks+1 }->wpAny (model X.prog X.w) X.A (f (.int i t) (.int j u)) Q E s) :
  vC X f (rI0 fun i j=>.int (g i j)):=by
 intro pins s σ H x y v u Q I rx ry h;obtain ⟨i,j,rfl,rfl,q⟩:=h;obtain ⟨t,rfl⟩:=rx;obtain ⟨t',rfl⟩:=ry;exact rule i j t t' s _ _ ⟨.int (g i j),H,I.tok _,⟨_,rfl⟩,q⟩
theorem opB0 {f:Value->Value->Sem Value} {g:Int->Int->Bool}
  (rule:∀ (i j:Int) (t u:Tok) (s:Shared) (Q:Value->Shared->Prop) (E:Value->Shared->Prop),Q (.bool (g i j)) s->wpAny (model X.prog X.w) X.A (f (.int i t) (.int j u)) Q E s) :
  vC X f (rI0 fun i j=>.bl (g i j)):=by
 intro pins s σ H x y v u Q I rx ry h;obtain ⟨i,j,rfl,rfl,q⟩:=h;obtain ⟨t,rfl⟩:=rx;obtain ⟨t',rfl⟩:=ry;exact rule i j t t' s _ _ ⟨.bl (g i j),H,I,rfl,q⟩
def CDiv (i j:Int):Prop:=0<j/\j<1073741824
def CPow (i j:Int):Prop:=0<=j/\j<=1000000/\i.natAbs<2 ^ 64
def CMul (i j:Int):Prop:=(-(2 ^ 64)<i/\i<2 ^ 64)\/(-(2 ^ 64)<j/\j<2 ^ 64)
theorem CMul.ok {i j:Int} (h:CMul i j):IntMulOk i j:=by
 rcases h with ⟨h1,h2⟩|⟨h1,h2⟩
 .exact .of_left (intBits_le_64 h1 h2)
 .exact .of_right (intBits_le_64 h1 h2)
theorem zij:vC X (binaryOp .Add) (rI0 fun i j=>.int (i+j)):=opI0 fun _ _ _ _ _ _ _ q=>add_int q
theorem zid:vC X (binaryOp .Sub) (rI0 fun i j=>.int (i-j)):=opI0 fun _ _ _ _ _ _ _ q=>sub_int q
theorem zig:vC X (binaryOp .Mult) (rI CMul fun i j=>.int (i * j)):=opI fun _ _ _ _ _ _ _ hc q=>mul_int q hc.ok
theorem zgi:vC X (binaryOp .FloorDiv) (rI CDiv fun i j=>.int (i / j)):=opI fun i j _ _ _ _ _ hc q=>by
 have h1:(0:Int)<j:=hc.1;have h2:j<1073741824:=hc.2;exact floordiv_int (by omega) (by rw [Int.fdiv_eq_ediv_of_nonneg i (by omega)];exact q) (.inl (PyProof.noPylong_small (by omega)))
theorem zih:vC X (binaryOp .Mod) (rI (fun _ j=>0<j) fun i j=>.int (i % j)):=opI fun i j _ _ _ _ _ hc q=>by
 have h1:(0:Int)<j:=hc;exact mod_int' (by omega) (by rw [Int.fmod_eq_emod_of_nonneg i (by omega)];exact q)
theorem zif:vC X (binaryOp .Pow) (rI CPow fun i j=>.int (i ^ j.toNat)):=opI fun _ _ _ _ _ _ _ hc q=>pow_int_small hc.1 hc.2.1 hc.2.2 q
theorem unI {f:Value->Sem Value} {g:Int->Int}
  (rule:∀ (i:Int) (t:Tok) (s:Shared) (Q:Value->Shared->Prop) (E:Value->Shared->Prop),Q (.int (g i) s.toks) { s with toks:=s.toks+1 }->wpAny (model X.prog X.w) X.A (f (.int i t)) Q E s) :
  UnR X f (rU fun i=>.int (g i)):=by
 intro pins s σ H x v Q I rx h;obtain ⟨i,rfl,q⟩:=h;obtain ⟨t,rfl⟩:=rx;exact rule i t s _ _ ⟨.int (g i),H,I.tok _,⟨_,rfl⟩,q⟩
theorem zhj:UnR X (unaryOp .USub) (rU fun i=>.int (-i)):=unI fun _ _ _ _ _ q=>neg_int q
end
section
variable {X : Cx} {a b c : Expr} {ta tb tc : TE} {pos : Pos}
theorem ziY {pins:List (Addr×Obj)} {σ:St} {H:Hp} {s:Shared} {Q:VK} {k k':Bool} (I:Inv X pins σ H s) (q:Q (.bl k) H) (e:k=k'):EP X pins σ Q (.bool k') s:=by
 subst e;exact ⟨.bl k,H,I,rfl,q⟩
theorem op_lt:vC X (compareOp .Lt) (rI0 fun i j=>.bl (decide (i<j))):=opB0 fun _ _ _ _ _ _ _ q=>lt_int q
theorem op_le:vC X (compareOp .LtE) (rI0 fun i j=>.bl (decide (i<=j))):=opB0 fun _ _ _ _ _ _ _ q=>le_int q
theorem op_gt:vC X (compareOp .Gt) (rI0 fun i j=>.bl (decide (j<i))):=opB0 fun _ _ _ _ _ _ _ q=>gt_int q
theorem op_ge:vC X (compareOp .GtE) (rI0 fun i j=>.bl (decide (j<=i))):=opB0 fun _ _ _ _ _ _ _ q=>ge_int q
theorem zcX:vC X (compareOp .In) (fun x y H Q=>∃ i j,x=.str i/\y=.str j/\Q (.bl (!(Builtin.Str.occurrences j i 0 j.length 1).isEmpty)) H):=by
 intro pins s σ H x y v u Q I rx ry h;obtain ⟨i,j,rfl,rfl,q⟩:=h;obtain ⟨t,rfl⟩:=rx;obtain ⟨t',rfl⟩:=ry;exact in_str (ziY I q rfl)
theorem zgd {op:CmpOp} {r:R2} (ho:vC X (compareOp op) r) (ha:PE X a ta) (hb:PE X b tb) (hm:behindInMarks op b=false):PE X (.Compare a [op] [b] pos) (tOp r ta tb):=by
 intro pins s σ H Q I h;exact wpAny_Compare1 (binT ha hb I h fun v u s2 x y H2 I2 rx ry q=>ho pins s2 σ H2 x y v u Q I2 rx ry q) hm
def zfN (t:TE):TT:=fun σ H Q=>t σ H fun x H'=>∃ k,x=.bl k/\Q k H'
theorem zf2 {op:CmpOp} {r:R2} (ho:vC X (compareOp op) r) (ha:PE X a ta) (hb:PE X b tb) (hm:behindInMarks op b=false):PT X (.Compare a [op] [b] pos) (zfN (tOp r ta tb)):=by
 intro pins s σ H Q I h
 refine wpAny_isTrue_Compare1 (xT (ha pins s σ H _ I h) fun v s1 ⟨x,H1,I1,r1,q1⟩=>xT (hb pins s1 σ H1 _ I1 q1) fun u s2 ⟨y,H2,I2,r2,q2⟩ =>
  xT (ho pins s2 σ H2 x y v u _ I2 r1 r2 q2) fun c s3 ⟨z,H3,I3,r3,k,e,q3⟩=>?_) hm
 subst e;cases r3;exact wpAny_truthy_bool ⟨H3,I3,q3⟩
def zcu (r r':R2) (ta tb tc:TE):TE:=fun σ H Q=>ta σ H fun x H1=>tb σ H1 fun y H2=>r x y H2 fun z H3=>∃ k,z=.bl k /\
 (if k=true then tc σ H3 fun w' H4=>r' y w' H4 Q else Q (.bl false) H3)
theorem zex {op op':CmpOp} {r r':R2} (ho:vC X (compareOp op) r) (ho':vC X (compareOp op') r') (ha:PE X a ta) (hb:PE X b tb) (hc:PE X c tc)
  (hm:lastMarks [op,op'] [b,c]=false:=by with_unfolding_all rfl):PE X (.Compare a [op,op'] [b,c] pos) (zcu r r' ta tb tc):=by
 intro pins s σ H Q I h
 refine Compare_chain (xT (ha pins s σ H _ I h) fun v s1 ⟨x,H1,I1,r1,q1⟩=>chain_link (xT (hb pins s1 σ H1 _ I1 q1) fun u s2 ⟨y,H2,I2,r2,q2⟩ =>
  xT (ho pins s2 σ H2 x y v u _ I2 r1 r2 q2) fun d s3 ⟨z,H3,I3,r3,k,e,q3⟩=>?_)) hm
 subst e;cases r3;refine wpAny_truthy_bool ?_
 cases k with
 |false=>exact ite_ff ⟨.bl false,H3,I3,rfl,q3⟩
 |true=>exact ite_tt (chain_last (xT (hc pins s3 σ H3 _ I3 q3) fun w' s4 ⟨z',H4,I4,r4,q4⟩=>ho' pins s4 σ H4 y z' u w' Q I4 r2 r4 q4))
theorem zek {op op':CmpOp} {r r':R2} (ho:vC X (compareOp op) r) (ho':vC X (compareOp op') r') (ha:PE X a ta) (hb:PE X b tb) (hc:PE X c tc)
  (hm:lastMarks [op,op'] [b,c]=false:=by with_unfolding_all rfl):PT X (.Compare a [op,op'] [b,c] pos) (zfN (zcu r r' ta tb tc)):=by
 intro pins s σ H Q I h
 refine isTrue_chain (xT (ha pins s σ H _ I h) fun v s1 ⟨x,H1,I1,r1,q1⟩=>test_link (xT (hb pins s1 σ H1 _ I1 q1) fun u s2 ⟨y,H2,I2,r2,q2⟩ =>
  xT (ho pins s2 σ H2 x y v u _ I2 r1 r2 q2) fun d s3 ⟨z,H3,I3,r3,k,e,q3⟩=>?_)) hm
 subst e;cases r3;refine wpAny_truthy_bool ?_
 cases k with
 |false =>
  obtain ⟨k',e',q'⟩:=q3;cases e';exact ite_ff ⟨H3,I3,q'⟩
 |true =>
  refine ite_tt (test_last (xT (hc pins s3 σ H3 _ I3 q3) fun w' s4 ⟨z',H4,I4,r4,q4⟩=>xT (ho' pins s4 σ H4 y z' u w' _ I4 r2 r4 q4) fun d' s5 ⟨z2,H5,I5,r5,k2,e2,q5⟩=>?_));subst e2;cases r5;exact wpAny_truthy_bool ⟨H5,I5,q5⟩
def TruV (K:PySem.W.Frag) (x:V) (H:Hp) (k:Bool):Prop :=
 match x with
 | .non=>k=false
 | .bl b=>k=b
 | .int i=>k=(i != 0)
 | .str y=>y.length<=sizeLine/\k=((y.length:Int) != 0)
 | .byt y=>y.size<=sizeLine/\k=((y.size:Int) != 0)
 | .ref p=>(∃ xs,mR K H p xs/\k=!xs.isEmpty)\/(∃ xs,pF K H p xs/\k=!xs.isEmpty)\/∃ kvs,H p=some (.dK kvs)/\k=!kvs.isEmpty
 |_=>False
theorem zcb {κ:Type} {kvs:List (κ×V)} {vs:List (κ×Value)} (r:KV kvs vs):(!vs.isEmpty)=!kvs.isEmpty:=by
 cases r<;>rfl
theorem dX {xs:List V} {its:List Value} (r:yT xs its):(!its.toArray.isEmpty)=!xs.isEmpty:=by
 cases r<;>simp
theorem rO:(sizeLine:Nat)<2 ^ 63:=by rw [sizeLine_eq];decide
theorem zhl:TruR X (fun x H Q=>∃ k,TruV X.K x H k/\Q k H):=by
 intro pins s σ H x v Q I rx h;obtain ⟨k,e,q⟩:=h;have hl:=rO;have hs:sizeLine=16777216:=sizeLine_eq
 cases x with
 |non =>
  cases rx;have e':k=false:=e;subst e';exact truthy_none ⟨H,I,q⟩
 |bl b =>
  cases rx;have e':k=b:=e;subst e';exact wpAny_truthy_bool ⟨H,I,q⟩
 |int i =>
  obtain ⟨t,rfl⟩:=rx;have e':k=(i != 0):=e;subst e';exact PySem.P.truthy_int ⟨H,I,q⟩
 |str y =>
  obtain ⟨t,rfl⟩:=rx;obtain ⟨hy,e'⟩:y.length<=sizeLine/\k=((y.length:Int) != 0):=e;subst e';exact PySem.P.truthy_str (by omega) ⟨H,I.tok _,q⟩
 |byt y =>
  obtain ⟨t,rfl⟩:=rx;obtain ⟨hy,e'⟩:y.size<=sizeLine/\k=((y.size:Int) != 0):=e;subst e';exact PySem.W.truthy_bytes (by omega) ⟨H,I.tok _,q⟩
 |ref p =>
  cases rx;have e':(∃ xs,mR X.K H p xs/\k=!xs.isEmpty)\/(∃ xs,pF X.K H p xs/\k=!xs.isEmpty)\/∃ kvs,H p=some (.dK kvs)/\k=!kvs.isEmpty:=e;rcases e' with ⟨xs,hx,e'⟩|⟨xs,hx,e'⟩|⟨kvs,hx,e'⟩
  .subst e';obtain ⟨its,r,pl,hz⟩:=I.list hx;have hlen:=r.length;exact wpAny_truthy_list pl.isList (by simp only [zzS];omega) ⟨H,I.tok _,by rw [dX r];exact q⟩
  .subst e';obtain ⟨its,r,pl,hz⟩:=I.tuple hx;have hlen:=r.length;exact truthy_tuple pl (by simp only [zzS];omega) ⟨H,I.tok _,by rw [dX r];exact q⟩
  .subst e';obtain ⟨hz,hS,vs,r,m⟩:kvs.length<=sizeLine/\(p==sysModules)=false/\∃ vs,KV kvs vs/\s.heap.DictOf (xS X.prog X.w) p vs:=I.hok p _ hx;have hlen:kvs.length=vs.length:=Paired.length r;exact wpAny_truthy_dict hS m (by omega) ⟨H,I.tok _,by rw [zcb r];exact q⟩
 |_=>exact (show False from e).elim
theorem zej (ha:PE X a ta) (he:∀ whole,isTrue a X.env whole=(do let v ← whole;standAt a.pos;holding [v] (truthy v))) :
  PT X a (fun σ H Q=>ta σ H fun x H'=>∃ k,TruV X.K x H' k/\Q k H'):=by
 intro pins s σ H Q I h;exact isTrue_plain (xT (ha pins s σ H _ I h) fun v s1 ⟨x,H1,I1,r1,q1⟩=>zhl pins s1 σ H1 x v Q I1 r1 q1) (he _)
theorem zb4:vC X (binaryOp .Add) (fun x y H Q=>∃ i j,x=.str i/\y=.str j/\i.length+j.length<=sizeLine/\Q (.str (i++j)) H):=by
 intro pins s σ H x y v u Q I rx ry h;obtain ⟨i,j,rfl,rfl,hz,q⟩:=h;obtain ⟨t,rfl⟩:=rx;obtain ⟨t',rfl⟩:=ry;exact add_str (fun t' tk=>⟨.str (i++j),H,I.tok _,⟨_,rfl⟩,q⟩) hz
theorem qB {x:V} {us:List Value} (r:yT [x] us):∃ u,us=[u]/\yY x u:=by
 cases r with
 |cons r1 r2=>cases r2;exact ⟨_,rfl,r1⟩
theorem zfK {x y:V} {us:List Value} (r:yT [x,y] us):∃ u w',us=[u,w']/\yY x u/\yY y w':=by
 cases r with
 |cons r1 r2 =>
  cases r2 with
  |cons r3 r4=>cases r4;exact ⟨_,_,rfl,r1,r3⟩
theorem zdP (hc:X.calm=true):qS X (.builtin "max") (fun xs H Q=>∃ i j,xs=[.int i,.int j]/\Q (.int (if j > i then j else i)) H):=by
 intro pins s σ H xs us Q I r h;obtain ⟨i,j,rfl,q⟩:=h;obtain ⟨u,w',rfl,⟨t,rfl⟩,⟨t',rfl⟩⟩:=zfK r;refine max_two_ints (I.ok.hd hc) fun h' tk k=>⟨_,H,I.kept k,?_,q⟩
 by_cases hj:j > i
 .rw [if_pos hj,if_pos hj];exact ⟨_,rfl⟩
 .rw [if_neg hj,if_neg hj];exact ⟨_,rfl⟩
theorem zar:qS X (.type "int") (fun xs H Q=>(∃ i,xs=[.int i]/\Q (.int i) H)\/∃ k,xs=[.bl k]/\Q (.int (if k then 1 else 0)) H):=by
 intro pins s σ H xs us Q I r h;rcases h with ⟨i,rfl,q⟩|⟨k,rfl,q⟩
 .obtain ⟨u,rfl,t,rfl⟩:=qB r;exact call_int_int ⟨.int i,H,I,⟨_,rfl⟩,q⟩
 .obtain ⟨u,rfl,r1⟩:=qB r;cases r1;exact call_int_bool ⟨.int (if k then 1 else 0),H,I.tok _,⟨_,rfl⟩,q⟩
end
end L2
namespace L2
open PySem PySem.Spec PyProof.Rows
structure ObjM (h:Heap) (x dx C:Addr) (mA:Str->Option Value):Prop where
 obj:h.get? x=some (PySem.W.instObj C dx)
 ns:h.Ns1 dx mA
 ne:dx≠x
theorem zc7 {h:Heap} {dx:Addr} {mA:Str->Option Value} (n:h.Ns1 dx mA):∃ od,h.get? dx=some od/\∀ name,PySem.W.lookIn name od=some (mA name):=by
 obtain ⟨o,es,ep,ho,hd,hk,_,hm⟩:=n;refine ⟨o,ho,fun name=>?_⟩;have e:=hm name;unfold nsFind findBy at e;rw [← Array.find?_toList] at e;unfold PySem.W.lookIn;rw [hd];dsimp only
 split
 .rename_i y q;rw [q] at e;exact congrArg some e
 .rename_i q;rw [q] at e
  have a:es.toList.any (·.refKey)=false:=by
   rw [List.any_eq_false];intro y hy;obtain ⟨z,t,hkey⟩:=hk y (Array.mem_toList_iff.mp hy);simp [DictEntry.refKey,hkey]
  have a':¬ es.toList.any (·.refKey)=true:=by rw [a];exact zzN
  rw [if_neg a'];exact congrArg some e
theorem ObjM.look {h:Heap} {x dx C:Addr} {mA:Str->Option Value} (I:ObjM h x dx C mA):∃ od,PySem.W.InstAt h x (PySem.W.instObj C dx) C (some od)/\∀ name,PySem.W.lookIn name od=some (mA name) :=
 let ⟨od,ho,hl⟩:=zc7 I.ns
 ⟨od,⟨I.obj,rfl,rfl,ho⟩,hl⟩
section
variable {prog : Program} {w : World} {A : Around} {E : Value → Shared → Prop} {s : Shared} {K : PySem.W.Frag} {x dx C f : Addr} {mA : Str → Option Value} {name : Str} {v : Value}
theorem zgL {expr:Bool} {Q:Value->Shared->Prop} (X:K.In s.heap) (I:ObjM s.heap x dx C mA) (hg:PySem.W.plainGet K C name=true) (hh:PySem.W.hasDictIn K C=true)
  (ha:PySem.W.findIn K (.ref C) name=some none) (hv:mA name=some v) (hv':PySem.W.handedIn v=true) (h:Q v { s with toks:=s.toks+1 }) :
  wpAny (model prog w) A (getAttr (.ref x) name expr) Q E s:=by
 obtain ⟨od,J,hl⟩:=I.look;exact PySem.W.get_value X J (PySem.W.plainGet_of hg).1 (PySem.W.findObj_own hh ha rfl (by rw [hl,hv])) hv' h
theorem zfS {ns:List Str} {Q:Unit->Shared->Prop} (X:K.In s.heap) (I:ObjM s.heap x dx C mA)
  (hs:PySem.W.findIn K (.ref C) "__setattr__" = some (some (.builtin "object.__setattr__"))) (hp:PySem.W.plainOver K C=true) (ht:PySem.W.takerIn K C name=some none) (hh:PySem.W.hasDictIn K C=true)
  (hw:PySem.Within mA ns) (hsz:ns.length<=sizeLine)
  (h:∀ h',ObjM h' x dx C (fun y=>if y=name then some v else mA y)->Heap.SameBut dx s.heap h'->Q () { s with heap:=h',toks:=s.toks+2 }) :
  wpAny (model prog w) A (setAttr (.ref x) name v) Q E s:=by
 obtain ⟨od,J,hl⟩:=I.look;refine PySem.W.set_plain X J hs (PySem.W.osa_open (s:={ s with toks:=s.toks+1 }) (r:=none) X J hp ht fun b=>?_);obtain ⟨cd,hc,hd'⟩:=PySem.W.any_some hh;have hx:s.heap.get? x=some ⟨.ref C,some dx,.plain,#[]⟩:=I.obj;refine wpAny_bind (wpAny_pure (wpAny_bind (wpAny_bind (wpAny_loadPart hx (wpAny_bind (PySem.W.Looks.here (s:={ s with toks:=s.toks+1 }) (PySem.W.looks_clsIn X hc) ?_))))));rw [hd'];refine wpAny_pure (a:=some dx) (wpAny_bind (wpAny_pure (wpAny_bind ?_)));refine wpAny_nsSet1 (s:={ s with toks:=s.toks+1 }) I.ns fun h' hn2 hs2=>?_;obtain ⟨oD,esD,epD,hoD,hdD,hcD⟩:=hn2.count (PySem.Within.cons name v hw);refine wpAny_bind (wpAny_lookBehind hoD (by rw [hdD];exact pastItsLine_dict (Nat.le_trans hcD (by rw [List.length_cons];omega))) ?_);exact wpAny_pure (h _ ⟨(hs2.2 _ (Ne.symm I.ne)).trans I.obj,hn2,I.ne⟩ hs2)
end
def uZ (f:Str) (v:V):List (Str×V)->List (Str×V)
 | []=>[(f,v)]
 | (g,x)::r=>if g=f then (g,v)::r else (g,x)::uZ f v r
theorem mZ (f g:Str) (v:V):∀ fs:List (Str×V),(uZ f v fs).lookup g=if g=f then some v else fs.lookup g
 | []=>by
  show List.lookup g [(f,v)]=_
  by_cases h:g=f
  .have hb:(g==f)=true:=beq_iff_eq.mpr h;simp only [List.lookup,hb,if_pos h]
  .have hb:(g==f)=false:=beq_eq_false_iff_ne.mpr h;simp only [List.lookup,hb,if_neg h]
 | (k,x)::r=>by
  have ih:=mZ f g v r;rw [show uZ f v ((k,x)::r)=(if k=f then (k,v)::r else (k,x)::uZ f v r) from rfl]
  by_cases hk:k=f
  .rw [if_pos hk]
   by_cases h:g=k
   .have hb:(g==k)=true:=beq_iff_eq.mpr h;simp only [List.lookup,hb,if_pos (h.trans hk)]
   .have hb:(g==k)=false:=beq_eq_false_iff_ne.mpr h;simp only [List.lookup,hb,if_neg (fun e:g=f=>h (e.trans hk.symm))]
  .rw [if_neg hk]
   by_cases h:g=k
   .have hb:(g==k)=true:=beq_iff_eq.mpr h;simp only [List.lookup,hb,if_neg (fun e:g=f=>hk (h.symm.trans e))]
   .have hb:(g==k)=false:=beq_eq_false_iff_ne.mpr h;simp only [List.lookup,hb];exact ih
theorem nO (f:Str) (v:V):∀ fs:List (Str×V),f∈(uZ f v fs).map (·.1)/\∀ g,g∈fs.map (·.1)->g∈(uZ f v fs).map (·.1)
 | []=>⟨by simp [uZ],fun g h=>by simp at h⟩
 | (k,x)::r=>by
  obtain ⟨i1,i2⟩:=nO f v r;rw [show uZ f v ((k,x)::r)=(if k=f then (k,v)::r else (k,x)::uZ f v r) from rfl]
  by_cases hk:k=f
  .rw [if_pos hk];subst hk;exact ⟨by simp,fun g h=>by simpa using h⟩
  .rw [if_neg hk];refine ⟨?_,fun g h=>?_⟩
   .rw [zzU];exact List.mem_cons_of_mem _ i1
   .rw [zzU] at h ⊢;rcases List.mem_cons.mp h with e|e
    .exact List.mem_cons.mpr (.inl e)
    .exact List.mem_cons_of_mem _ (i2 g e)
theorem mY (f:Str) (v:V):∀ fs:List (Str×V),(uZ f v fs).length<=fs.length+1
 | []=>by simp [uZ]
 | (k,x)::r=>by
  have ih:=mY f v r;rw [show uZ f v ((k,x)::r)=(if k=f then (k,v)::r else (k,x)::uZ f v r) from rfl]
  by_cases hk:k=f
  .rw [if_pos hk,List.length_cons,List.length_cons];omega
  .rw [if_neg hk,List.length_cons,List.length_cons];omega
theorem rK.some_of {v:V} {o:Option Value} (r:rK (some v) o):∃ u,o=some u/\yY v u:=by
 cases o with
 |none=>exact (show False from r).elim
 |some u=>exact ⟨u,rfl,r⟩
theorem zdq {v:V} {u:Value} (r:yY v u):PySem.W.handedIn u=true:=by
 cases v with
 |non=>cases (show u=Value.none from r);rfl
 |bl b=>cases (show u=Value.bool b from r);rfl
 |int i=>obtain ⟨t,e⟩:=(show ∃ t,u=Value.int i t from r);cases e;rfl
 |str x=>obtain ⟨t,e⟩:=(show ∃ t,u=Value.str x t from r);cases e;rfl
 |byt b=>obtain ⟨t,e⟩:=(show ∃ t,u=Value.bytes b t from r);cases e;rfl
 |flt b=>obtain ⟨t,e⟩:=(show ∃ t,u=Value.float b t from r);cases e;rfl
 |ref a=>cases (show u=Value.ref a from r);rfl
 |ty n=>cases (show u=Value.type n from r);rfl
section
variable {P : Program} {w : World} {H H' : Hp} {h h' : Heap} {a C dx : Addr} {fs fs' : List (Str × V)}
theorem zdn (hok:sN P w H h) (e:H a=some (.ins C dx fs)):∃ mA,ObjM h a dx C mA/\(∀ f,rK (fs.lookup f) (mA f))/\PySem.Within mA (fs.map (·.1))/\fs.length<=1000/\H dx=some (.own a):=by
 obtain ⟨d,z,ne,ob,mA,n,r,q⟩:=(show xD P w H h a (.ins C dx fs) from hok a _ e);exact ⟨mA,⟨ob,n,ne⟩,r,q,z,d⟩
end
structure Cls (K:PySem.W.Frag) (C:Addr):Prop where
 pg:PySem.W.plainGet K C Str.empty=true
 hd:PySem.W.hasDictIn K C=true
 po:PySem.W.plainOver K C=true
 sa:PySem.W.findIn K (.ref C) "__setattr__" = some (some (.builtin "object.__setattr__"))
theorem Cls.get {K:PySem.W.Frag} {C:Addr} (c:Cls K C) (f:Str):PySem.W.plainGet K C f=true:=c.pg
def tB (K:PySem.W.Frag) (C:Addr) (f:Str):Prop:=PySem.W.findIn K (.ref C) f=some none
theorem tB.taker {K:PySem.W.Frag} {C:Addr} {f:Str} (n:tB K C f):PySem.W.takerIn K C f=some none:=by
 unfold PySem.W.takerIn;rw [show PySem.W.findIn K (.ref C) f=some none from n];rfl
section
variable {X : Cx} {pins : List (Addr × Obj)} {σ : St} {H : Hp} {s : Shared} {a C dx : Addr} {fs : List (Str × V)} {f : Str} {v : V} {A : Around} {E : Value → Shared → Prop}
theorem zcc {b:Bool} {Q:Value->Shared->Prop} (I:Inv X pins σ H s) (e:H a=some (.ins C dx fs)) (c:Cls X.K C) (n:tB X.K C f) (l:fs.lookup f=some v)
  (h:∀ u s',Inv X pins σ H s'->yY v u->Q u s'):wpAny (model X.prog X.w) A (getAttr (.ref a) f b) Q E s:=by
 obtain ⟨mA,O,r,_,_,_⟩:=zdn I.hok e;obtain ⟨u,hu,ru⟩:=rK.some_of (v:=v) (o:=mA f) (by rw [← l];exact r f);exact zgL I.kIn O (c.get f) c.hd n hu (zdq ru) (h u _ (I.tok _) ru)
theorem zbY {y:V} {u:Value} {Q:Unit->Shared->Prop} (I:Inv X pins σ H s) (e:H a=some (.ins C dx fs)) (c:Cls X.K C) (n:tB X.K C f) (hl:fs.length<1000) (ry:yY y u)
  (h:∀ s',Inv X pins σ (xB H a (.ins C dx (uZ f y fs))) s'->Q () s'):wpAny (model X.prog X.w) A (setAttr (.ref a) f u) Q E s:=by
 obtain ⟨mA,O,r,wi,_,ho⟩:=zdn I.hok e;have hz:(fs.map (·.1)).length<=sizeLine:=by rw [zzM,sizeLine_eq];omega
 refine zfS I.kIn O c.sa c.po n.taker c.hd wi hz fun h' O' sb=>h _ ?_;have hd:∃ o,h'.get? dx=some o:=let ⟨o,_,_,e',_⟩:=O'.ns;⟨o,e'⟩;refine I.write (x:=a) (e:=dx) (by rw [e];exact True.intro) (.inr ho) (fun b q hb z=>(sb.2 b hb).trans z) hd ?_;refine ⟨by rw [yW O.ne];exact ho,?_,O.ne,O'.obj,_,O'.ns,fun g=>?_,fun g hg=>?_⟩
 .have:=mY f y fs;omega
 .show rK ((uZ f y fs).lookup g) (if g=f then some u else mA g);rw [mZ]
  by_cases q:g=f
  .rw [if_pos q,if_pos q];exact ry
  .rw [if_neg q,if_neg q];exact r g
 .by_cases q:g=f
  .rw [q];exact (nO f y fs).1
  .refine (nO f y fs).2 g (wi g fun z=>hg ?_);show (if g=f then some u else mA g)=none;rw [if_neg q];exact z
theorem zhe {prog:Program} {w:World} {env:Env} {e:Expr} {f:Str} {pos:Pos} {s:Shared} {Q:Value->Shared->Prop} (hb:attributeBase e f env (eval e env)=eval e env)
  (h:wpAny (model prog w) A (eval e env) (fun o s₁=>wpAny (model prog w) A (getAttr o f true) Q E s₁) E s):wpAny (model prog w) A (eval (.Attribute e f pos) env) Q E s :=
 Attribute_any_ h (by rw [arm_eval_Attribute,hb])
end
def tFld (K:PySem.W.Frag) (ta:TE) (f:Str):TE:=fun σ H Q=>ta σ H fun x H1=>∃ a C dx fs v,x=.ref a/\H1 a=some (.ins C dx fs)/\Cls K C/\tB K C f/\fs.lookup f=some v/\Q v H1
def sFld (K:PySem.W.Frag) (ta tv:TE) (f:Str):TS:=fun D σ H=>tv σ H fun y H1=>ta σ H1 fun x H2=>∃ a C dx fs,x=.ref a/\H2 a=some (.ins C dx fs)/\Cls K C/\tB K C f/\fs.length<1000 /\
 D.nx σ (xB H2 a (.ins C dx (uZ f y fs)))
section
variable {X : Cx} {o e value : Expr} {f : Str} {pos pos' tpos : Pos} {ta tv : TE}
theorem zh8 (he:PE X e ta) (hb:attributeBase e f X.env (eval e X.env)=eval e X.env):PE X (.Attribute e f pos) (tFld X.K ta f):=by
 intro pins s σ H Q I h;refine zhe hb (xT (he pins s σ H _ I h) fun u s1 ⟨x,H1,I1,rx,a,C,dx,fs,v,ex,ea,c,n,l,q⟩=>?_);subst ex;obtain rfl:u=Value.ref a:=rx;exact zcc I1 ea c n l fun u' s2 I2 ru=>⟨v,H1,I2,ru,q⟩
theorem zhW (ha:PE X o ta) (hv:PE X value tv) (hs:swapsWith value (some (.Attribute o f pos')) pos.line X.env=pure false):PS X (.Assign [.Attribute o f pos'] value pos) (sFld X.K ta tv f):=by
 intro pins s σ H D I h;refine plainObj_wpAny_Assign_Attribute (xT (hv pins s σ H _ I h) fun u s1 ⟨y,H1,I1,ry,q⟩=>xT (ha pins s1 σ H1 _ I1 q) fun ov s2 ⟨x,H2,I2,rx,a,C,dx,fs,ex,ea,c,n,l,q2⟩=>?_) hs;subst ex;obtain rfl:ov=Value.ref a:=rx;exact zbY I2 ea c n l ry fun s3 I3=>⟨σ,_,I3,q2⟩
end
section
variable {X : Cx} {pins : List (Addr × Obj)} {σ : St} {H : Hp} {s : Shared} {A : Around} {E : Value → Shared → Prop} {Q : Value → Shared → Prop} {c : Value} {b : Bool}
end
end L2
namespace L2
open PySem PySem.Spec PyProof.Rows
structure Room (k:Nat) (A:Around):Prop where
 gd:A.guards=some []
 hd:A.handled=none
 dp:A.depth+3 * k+5<recursionLimit
 un:A.units+16 * k+200<cLine
theorem Room.mono {j k:Nat} {A:Around} (r:Room k A) (h:j<=k):Room j A:=⟨r.gd,r.hd,by have:=r.dp;omega,by have:=r.un;omega⟩
theorem Room.deeper {k:Nat} {A:Around} (r:Room (k+1) A) (env:Env):Room k (A.deeper env) :=
 ⟨r.gd,r.hd,by have:=r.dp;show A.depth+1+3 * k+5<_;omega,by have:=r.un;show A.units+3+16 * k+200<_;omega⟩
theorem Room.depth {k:Nat} {A:Around} (r:Room k A):A.depth<recursionLimit:=by have:=r.dp;omega
def tNil:TA:=fun _ H Q=>Q [] H
def tCons (ta:TE) (tr:TA):TA:=fun σ H Q=>ta σ H fun x H1=>tr σ H1 fun xs H2=>Q (x::xs) H2
section
variable {X : Cx} {e : Expr} {es : List Expr} {te : TE} {t : TA} {pos : Pos}
theorem zic:PA X [] tNil:=fun _ _ _ _ H Q I h=>Calls.spliced_nil ⟨[],H,I,.nil,h⟩
theorem zgg (ha:PE X e te) (hr:PA X es t) (hs:starEach (e::es) X.env=(false,eval e X.env)::starEach es X.env:=by rfl):PA X (e::es) (tCons te t):=by
 intro pos pins s σ H Q I h;rw [hs];show wpAny _ _ (spliced ((false,eval e X.env)::backTo pos (starEach es X.env))) _ _ s;refine Calls.spliced_cons (xT (ha pins s σ H _ I h) fun u s1 ⟨x,H1,I1,r1,q1⟩=>?_);exact xT (hr pos pins s1 σ H1 _ I1 q1) fun us s2 ⟨xs,H2,I2,r2,q2⟩=>⟨x::xs,H2,I2,.cons r1 r2,q2⟩
def tTup (t:TA):TE:=fun σ H Q=>t σ H fun xs H1=>xs.length<=sizeLine/\∀ p,H1 p=none->Q (.ref p) (xB H1 p (.tup xs))
def tLst (t:TA):TE:=fun σ H Q=>t σ H fun xs H1=>xs.length<=sizeLine/\∀ p,H1 p=none->Q (.ref p) (xB H1 p (.lst xs))
theorem zh2 {x1} (h:PA X es t):PE X (.Tuple es x1 pos) (tTup t):=by
 intro pins s σ H Q I hq;refine wpAny_Tuple_spliced (xT (h pos pins s σ H _ I hq) fun us s1 ⟨xs,H1,I1,r,z,q⟩=>⟨by rw [← r.length];exact z,?_⟩);have hf:H1 s1.heap.objs.size=none:=I1.hok.fresh (zzR _);refine ⟨.ref s1.heap.objs.size,xB H1 s1.heap.objs.size (.tup xs),I1.laid (t':=s1.toks) (fun b u e=>Heap.get?_push_of_some _ e) (zzR _) ?_,rfl,q _ hf⟩;exact ⟨z,us,r,⟨_,Heap.get?_push_size _ rfl,rfl,_,rfl⟩⟩
theorem zh6 (h:PA X es t):PE X (.List es pos) (tLst t):=by
 intro pins s σ H Q I hq;refine wpAny_List_spliced (xT (h pos pins s σ H _ I hq) fun us s1 ⟨xs,H1,I1,r,z,q⟩=>⟨by rw [← r.length];exact z,?_⟩);have hf:H1 s1.heap.objs.size=none:=I1.hok.fresh (zzR _);refine ⟨.ref s1.heap.objs.size,xB H1 s1.heap.objs.size (.lst xs),I1.laid (t':=s1.toks) (fun b u e=>Heap.get?_push_of_some _ e) (zzR _) ?_,rfl,q _ hf⟩;exact ⟨z,us,0,r,Heap.get?_push_size _ rfl⟩
end
abbrev Sp:=List V->Hp->VK->XK->Prop
abbrev CXT:=List Env->Hp->Shared->XK->Value->Shared->Prop
structure Env0 (P:Program) (w:World) (K:PySem.W.Frag) (mg:Str->Option Value) (base:Heap) (A:Around) (outer:List Env) (s:Shared) (H:Hp):Prop where
 frames:A.frames=some outer
 mod:Mod K mg base
 bs:∀ b o,base.get? b=some o->s.heap.get? b=some o/\H b=none
 bsz:base.objs.size<=s.heap.objs.size
 funs:s.heap.FunFrames base outer
 frf:∀ b∈frs outer,H b=none
 hok:sN P w H s.heap
 bare:AllBare s.gens
def CE (outer:List Env) (P:Program) (w:World) (H:Hp) (s:Shared) (Q:VK) (u:Value) (s':Shared):Prop :=
 ∃ v H',s'.os=s.os/\AllBare s'.gens/\Un (frs outer) [] H H' s.heap s'.heap/\sN P w H' s'.heap/\yY v u/\Q v H'
def CR (CX:CXT) (outer:List Env) (P:Program) (w:World) (H:Hp) (s:Shared) (Q:VK) (E:XK) (r:Result) (s':Shared):Prop :=
 match r with
 | .ok (.ret u)=>CE outer P w H s Q u s'
 | .ok _=>False
 | .error e=>CX outer H s E e s'
structure FnOk (P:Program) (w:World) (K:PySem.W.Frag) (mg:Str->Option Value) (base:Heap) (CX:CXT) (k:Nat) (f:Addr) (fd:FuncData) (ps:List Str) (sp:Sp):Prop where
 len:∀ vs H Q E,sp vs H Q E->vs.length=ps.length
 run:∀ (A:Around) (outer:List Env) (s:Shared) (H:Hp) (args:Args) (us:List Value) (vs:List V) (Q:VK) (E:XK),Room k A->Env0 P w K mg base A outer s H->BindsTo s fd args (ps.zip us)->yT vs us->sp vs H Q E ->
  codeAny (model P w) A (.call (.ref f) args) (CR CX outer P w H s Q E) s
theorem FnOk.mono {P:Program} {w:World} {K:PySem.W.Frag} {mg:Str->Option Value} {base:Heap} {CX:CXT} {j k:Nat} {f:Addr} {fd:FuncData} {ps:List Str} {sp:Sp} (F:FnOk P w K mg base CX j f fd ps sp) (h:j<=k) :
  FnOk P w K mg base CX k f fd ps sp:=⟨F.len,fun A outer s H args us vs Q E hr=>F.run A outer s H args us vs Q E (hr.mono h)⟩
section
variable {X : Cx} {pins : List (Addr × Obj)} {σ : St} {H : Hp} {s s' : Shared}
theorem Inv.env0 (I:Inv X pins σ H s):Env0 X.prog X.w X.K X.mg X.base X.A X.stack s H :=
 ⟨I.ok.frames,I.ok.mod,I.bs,Nat.le_trans I.ok.bsz I.sz,I.stack,I.stkFree,I.hok,I.bare⟩
theorem Inv.after {Q:VK} {u:Value} (I:Inv X pins σ H s) (h:CE X.stack X.prog X.w H s Q u s'):EP X pins σ Q u s':=by
 obtain ⟨v,H',os,bare,un,hok,r,q⟩:=h;obtain ⟨hh,g,d,t,os'⟩:=s';obtain rfl:os'=s.os:=os;exact ⟨v,H',I.call (h':=hh) (g':=g) (d':=d) (t':=t) (ch:=[]) un hok bare (fun b z=>absurd z (by simp)),r,q⟩
end
def zfP (sp:Sp) (dvs:List V) (E:XK) (t:TA):TE:=fun σ H Q=>t σ H fun vs H1=>sp (vs++dvs) H1 Q E
def pJ (K:PySem.W.Frag) (fd:FuncData) (ps:List Str) (ds:List Value):Prop :=
 ∀ (s:Shared) (us:List Value),K.In s.heap->(us++ds).length=ps.length->BindsTo s fd ⟨us,[]⟩ (ps.zip (us++ds))
theorem pJ.all {K:PySem.W.Frag} {fd:FuncData} {ps:List Str} (h:∀ us:List Value,us.length=ps.length->bindArgs fd ⟨us,[]⟩=pure (ps.zip us)):pJ K fd ps []:=fun s us _ hl=>by
 rw [List.append_nil] at hl ⊢;exact .of_eq (h us hl)
def zbS (CX:CXT) (X:Cx) (E:XK):Prop:=∀ (pins:List (Addr×Obj)) (σ:St) (H:Hp) (s:Shared) (e:Value) (s':Shared),Inv X pins σ H s->CX X.stack H s E e s'->X.xe e s'
section
variable {X : Cx} {CX : CXT} {k : Nat} {f C : Addr} {fd : FuncData} {ps : List Str} {sp : Sp} {dvs : List V} {ds : List Value} {E : XK} {x m : Str} {p pos apos : Pos} {e o : Expr} {es : List Expr} {ta : TE} {t : TA}
theorem zfm {pins:List (Addr×Obj)} {σ:St} {H:Hp} {s:Shared} {Q:VK} {us:List Value} {vs:List V} (F:FnOk X.prog X.w X.K X.mg X.base CX k f fd ps sp) (hr:Room k X.A) (hb:pJ X.K fd ps ds) (hd:yT dvs ds) (hx:zbS CX X E)
  (I:Inv X pins σ H s) (r:yT vs us) (h:sp (vs++dvs) H Q E):wpAny (model X.prog X.w) X.A (call (.ref f) us) (EP X pins σ Q) X.xe s:=by
 have r2:yT (vs++dvs) (us++ds):=r.append hd;have hl:(us++ds).length=ps.length:=by rw [← r2.length];exact F.len _ _ _ _ h
 refine wpAny_call (codeAny_mono (F.run X.A X.stack s H ⟨us,[]⟩ (us++ds) (vs++dvs) Q E hr I.env0 (hb s us I.kIn hl) r2 h) fun r s' hq=>?_)
 cases r with
 |error e=>exact hx pins σ H s e s' I hq
 |ok fl =>
  cases fl with
  |ret u=>exact I.after hq
  |next=>exact False.elim hq
  |brk=>exact False.elim hq
  |cont=>exact False.elim hq
theorem zge (F:FnOk X.prog X.w X.K X.mg X.base CX k f fd ps sp) (hr:Room k X.A) (hg:Gl X x) (hm:X.mg x=some (.ref f)) (hk:PySem.W.keepIn X.K (.ref f)=true) (hb:pJ X.K fd ps ds) (hd:yT dvs ds) (hx:zbS CX X E)
  (ha:PA X (e::es) t) (hdb:(x==("__debug__" : Str))=false:=by decide) (he:starEach (e::es) X.env=(false,eval e X.env)::starEach es X.env:=by rfl) (hpl:(backTo pos (starEach es X.env)).any (·.1)=false:=by rfl) :
  PE X (.Call (.Name x p) (e::es) [] pos) (zfP sp dvs E t):=by
 intro pins s σ H Q I h;refine wpAny_Call_Name_kw (zaX I hg hm ?_ hdb);refine PySem.W.callWith_K (h₀:=X.base) I.ok.mod.kin hk (xT (ha pos pins s σ H _ I h) fun us s1 ⟨vs,H1,I1,r,q⟩=>⟨I1.kIn,?_⟩) he hpl;exact zfm F hr hb hd hx I1 r q
theorem zez (F:FnOk X.prog X.w X.K X.mg X.base CX k f fd ps sp) (hr:Room k X.A) (hg:Gl X x) (hm:X.mg x=some (.ref f)) (hk:PySem.W.keepIn X.K (.ref f)=true) (hb:pJ X.K fd ps ds) (hd:yT dvs ds) (hx:zbS CX X E)
  (hdb:(x==("__debug__" : Str))=false:=by decide):PE X (.Call (.Name x p) [] [] pos) (zfP sp dvs E tNil):=by
 intro pins s σ H Q I h;refine wpAny_Call_Name_kw (zaX I hg hm ?_ hdb);exact PySem.W.callWith_K0 I.kIn hk (zfm (us:=[]) F hr hb hd hx I .nil h)
end
section
variable {X : Cx} {CX : CXT} {k : Nat} {f C : Addr} {fd : FuncData} {ps ks : List Str} {sp : Sp} {E : XK} {x m : Str} {p pos apos kpos : Pos} {e o : Expr} {es : List Expr} {kws : List Keyword} {te ta : TE} {t tk : TA} {nm : Option Str}
variable {g : List Value → List Value → List Value} {gV : List V → List V → List V}
end
structure FnScope (N P:List Str) (sc:Scope):Prop where
 kind:sc.kind=.function
 co:sc.isCoroutine=false
 gen:sc.isGenerator=false
 nd:N.Nodup
 pre:N.take P.length=P
 par:∀ x∈P,sc.names.lookup x=some .local\/sc.names.lookup x=some .cell
 nofree:∀ y∈sc.names,y.2≠.free
theorem zas {kindOf:Str->Option NameKind} {x:Str}:∀ {binds:List (Str×Value)} {m:Str->Option Value},(∀ v,(x,v)∉binds)->bindL kindOf binds m x=m x
 | [],_,_=>rfl
 | (n,v)::r,m,h=>by
  unfold bindL;rw [zas fun w hw=>h w (List.mem_cons_of_mem _ hw)]
  split
  .have:x≠n:=by rintro rfl;exact h v zzT
   simp [this]
  .rfl
theorem zau {kindOf:Str->Option NameKind} {x:Str}:∀ {binds:List (Str×Value)} {m:Str->Option Value},(∀ v,(x,v)∉binds)->bindC kindOf binds m x=m x
 | [],_,_=>rfl
 | (n,v)::r,m,h=>by
  unfold bindC;rw [zau fun w hw=>h w (List.mem_cons_of_mem _ hw)]
  split
  .rfl
  .have:x≠n:=by rintro rfl;exact h v zzT
   simp [this]
theorem zat {kindOf:Str->Option NameKind} {x:Str} {v:Value}:∀ {P:List Str} {vs:List Value} {i:Nat} {m:Str->Option Value},P.Nodup->P[i]?=some x->vs[i]?=some v->kindOf x=some .local ->
  bindL kindOf (P.zip vs) m x=some v
 | [],_,_,_,_,h,_,_=>by simp at h
 |_::_,[],_,_,_,_,h,_=>by simp at h
 |p::P,w::vs,0,m,nd,h1,h2,hk=>by
  simp at h1 h2;subst h1;subst h2;show bindL kindOf ((p,w)::P.zip vs) m p=_;unfold bindL;rw [zas fun v hv=>(List.nodup_cons.mp nd).1 (List.of_mem_zip hv).1,if_pos hk];simp
 |p::P,w::vs,i+1,m,nd,h1,h2,hk=>by
  show bindL kindOf ((p,w)::P.zip vs) m x=_;unfold bindL;exact zat (i:=i) (List.nodup_cons.mp nd).2 (by simpa using h1) (by simpa using h2) hk
theorem zav {kindOf:Str->Option NameKind} {x:Str} {v:Value}:∀ {P:List Str} {vs:List Value} {i:Nat} {m:Str->Option Value},P.Nodup->P[i]?=some x->vs[i]?=some v->kindOf x≠some .local ->
  bindC kindOf (P.zip vs) m x=some v
 | [],_,_,_,_,h,_,_=>by simp at h
 |_::_,[],_,_,_,_,h,_=>by simp at h
 |p::P,w::vs,0,m,nd,h1,h2,hk=>by
  simp at h1 h2;subst h1;subst h2;show bindC kindOf ((p,w)::P.zip vs) m p=_;unfold bindC;rw [zau fun v hv=>(List.nodup_cons.mp nd).1 (List.of_mem_zip hv).1,if_neg hk];simp
 |p::P,w::vs,i+1,m,nd,h1,h2,hk=>by
  show bindC kindOf ((p,w)::P.zip vs) m x=_;unfold bindC;exact zav (i:=i) (List.nodup_cons.mp nd).2 (by simpa using h1) (by simpa using h2) hk
def start (N:List Str) (vs:List V):St:=vs.map some++List.replicate (N.length-vs.length) none
def cxOf (CX:CXT) (P:Program) (w:World) (K:PySem.W.Frag) (mg:Str->Option Value) (base:Heap) (N:List Str) (qual:Str) (scope:Scope) (f:Addr) (cd:Value) (A:Around) (outer:List Env) (s:Shared) (H:Hp) (E:XK):Cx where
 prog:=P
 w:=w
 K:=K
 mg:=mg
 base:=base
 A:=A.deeper (envOfC qual scope s.heap.objs.size f cd)
 N:=N
 s₀:=s
 H₀:=H
 env:=envOfC qual scope s.heap.objs.size f cd
 outer:=outer
 stack:=envOfC qual scope s.heap.objs.size f cd::outer
 ex:=[]
 calm:=true
 fn:=fun _=>true
 pn:=[]
 xe:=fun e s'=>wpAny (model P w) (A.deeper (envOfC qual scope s.heap.objs.size f cd)) (leaving (envOfC qual scope s.heap.objs.size f cd) e) (fun _ s''=>CX outer H s E e s'') (fun e' s''=>CX outer H s E e' s'') s'
theorem zbQ {sc:Scope} {n:Nat} {x:Str} (h:sc.names.lookup x=some .cell):∃ c,(cellsFrom n sc.names []).lookup x=some c:=by
 have q:=PySem.W.cellsFrom_some sc.names n [] (.inl h);exact Option.isSome_iff_exists.mp q
theorem zdm {CX:CXT} {P:Program} {w:World} {K:PySem.W.Frag} {mg:Str->Option Value} {base:Heap} {N ps:List Str} {qual:Str} {scope:Scope} {f:Addr} {cd:Value} {A:Around} {outer:List Env} {s s1:Shared} {H:Hp} {E:XK} {us:List Value} {vs:List V}
  (S:FnScope N ps scope) (hd:A.handled=none) (e0:Env0 P w K mg base A outer s H) (hl:vs.length=ps.length) (r:yT vs us)
  (x:InCallC s s.heap.objs.size (bindL (envOfC qual scope s.heap.objs.size f cd).kindOf (ps.zip us) fun _=>none) (cellsFrom (s.heap.objs.size+1) scope.names []) (bindC (envOfC qual scope s.heap.objs.size f cd).kindOf (ps.zip us) fun _=>none) s1) :
  Inv (cxOf CX P w K mg base N qual scope f cd A outer s H E) [] (start N vs) H s1:=by
 have hpl:ps.length<=N.length:=by have:=congrArg List.length S.pre;rw [List.length_take] at this;omega
 obtain ⟨h1,tk,rfl,hk⟩:=x.done;have noA:∀ b:Addr,b∉(cxOf CX P w K mg base N qual scope f cd A outer s H E).ex:=fun b z=>absurd (show b∈([]:List Addr) from z) (by simp)
 refine ⟨⟨e0.mod,S.kind,rfl,rfl,zzR _,fun y z c h1 h2=>?_,fun y hy=>?_,fun y c _ h=>?_,fun _=>hd,Around.frames_deeper e0.frames,.inr ⟨rfl,rfl⟩,fun b z=>absurd z (noA b),e0.bs,e0.bsz,fun b _ _=>noA b,fun b z=>absurd z (noA b),e0.funs,e0.frf⟩,
  rfl,e0.bare,Un.kept hk,⟨_,x.toInCall.ns,fun i y v h1 h2 h3=>?_⟩,fun y c h=>⟨_,x.cell y c h⟩,e0.hok.fresh (zzR _),fun y c h=>?_,fun p hp=>absurd (show p∈([]:List (Addr×Obj)) from hp) (by simp),e0.hok.kept hk,?_⟩
 .exact name_of_addr x.apart (PySem.mem_of_lookup h1) (PySem.mem_of_lookup h2)
 .have hy:scope.names.lookup y=some .cell\/scope.names.lookup y=some .free:=hy;rcases hy with hy|hy
  .exact zbQ hy
  .exact absurd rfl (S.nofree _ (PySem.mem_of_lookup hy))
 .exact Nat.le_of_lt (x.above y c (PySem.mem_of_lookup h))
 .have hi:i<vs.length:=by
   unfold start at h2
   by_cases hi:i<vs.length
   .exact hi
   .rw [List.getElem?_append_right (by simpa using hi)] at h2;rw [List.getElem?_replicate] at h2
    split at h2<;>cases h2
  have ha:vs[i]?=some v:=by
   unfold start at h2;rw [List.getElem?_append_left (by simpa using hi),List.getElem?_map] at h2
   cases e:vs[i]? with
   |none=>rw [e] at h2;cases h2
   |some a=>rw [e] at h2;cases h2;rfl
  obtain ⟨u,hu,rv⟩:=r.get ha
  have hp:ps[i]?=some y:=by
   rw [← S.pre,List.getElem?_take_of_lt (by omega)];exact h1
  have ndP:ps.Nodup:=by rw [← S.pre];exact S.nd.sublist (List.take_sublist _ _)
  refine ⟨u,rv,?_⟩;rcases S.par y (List.mem_of_getElem? hp) with k|k
  .exact .inl ⟨k,zat ndP hp hu k⟩
  .obtain ⟨c,e⟩:=zbQ (n:=s.heap.objs.size+1) k;refine .inr ⟨.inl k,c,e,?_⟩;have q:=x.cell y c e;rw [zav ndP hp hu (by show scope.names.lookup y≠_;rw [k];decide)] at q;exact q
 .exact e0.hok.fresh (Nat.le_of_lt (x.above y c (PySem.mem_of_lookup h)))
 .unfold start;show _=N.length;rw [zzW,zzM,List.length_replicate];omega
theorem fn_of {CX:CXT} {P:Program} {w:World} {K:PySem.W.Frag} {mg:Str->Option Value} {base:Heap} {k:Nat} {f:Addr} {name qual:Str} {params:Arguments} {body:List Stmt} {scope:Scope} {dV kV doc pm cdv ct oc:Value} {an od:Option Addr}
  {osl:Array (Option Value)} {N ps:List Str} {sp:Sp} (lk:K.lookup f=some ⟨oc,od,.func (PySem.W.fnOf name qual params body scope dV kV doc pm an cdv ct),osl⟩) (hcd:PySem.W.codeIn K cdv qual=true) (S:FnScope N ps scope)
  (len:∀ vs H Q E,sp vs H Q E->vs.length=ps.length)
  (hbody:∀ (A:Around) (outer:List Env) (s:Shared) (H:Hp) (vs:List V) (Q:VK) (E:XK),Room k (A.deeper (envOfC qual scope s.heap.objs.size f cdv))->sp vs H Q E ->
   ∃ t,PSs (cxOf CX P w K mg base N qual scope f cdv A outer s H E) body t/\t { nx:=fun _ H'=>Q .non H',rt:=Q } (start N vs) H) :
  FnOk P w K mg base CX (k+1) f (PySem.W.fnOf name qual params body scope dV kV doc pm an cdv ct) ps sp:=by
 refine ⟨len,fun A outer s H args us vs Q E hr e0 hb r hsp=>?_⟩;have hl:=len _ _ _ _ hsp;have KX:K.In s.heap:=e0.mod.kin.keeps fun b o e=>(e0.bs b o e).1;have lim:s.heap.NoLimit:=e0.mod.nolimit.keeps fun b o e=>(e0.bs b o e).1
 have hkind:∀ y∈ps.zip us,scope.names.lookup y.1=some .local\/(scope.names.lookup y.1=some .cell/\((cellsFrom (s.heap.objs.size+1) scope.names []).lookup y.1).isSome=true):=fun ⟨n,v⟩ hy=>by
  rcases S.par n (List.of_mem_zip hy).1 with q|q
  .exact .inl q
  .exact .inr ⟨q,PySem.W.cellsFrom_some _ _ _ (.inl q)⟩
 refine codeAny_call_function hr.depth (KX _ _ lk) rfl S.co S.gen rfl (PySem.W.codeRec_of KX hcd) (hb _ _ _ _ ?_);refine wpAny_newFunctionEnv_cells S.kind hkind fun env he s1 x=>?_;subst he;refine ⟨lim.keeps x.toInCall.keep,codeAny_func ?_⟩;obtain ⟨t,ht,hq⟩:=hbody A outer s H vs Q E (hr.deeper _) hsp;have I:Inv (cxOf CX P w K mg base N qual scope f cdv A outer s H E) [] (start N vs) H s1:=zdm S hr.hd e0 hl r x;refine wpAny_mono (ht [] s1 (start N vs) H _ I hq) (fun fl s' hs=>?_) fun e s' hs=>hs
 have fin:∀ {σ':St} {H':Hp} {v:V} {u:Value},Inv (cxOf CX P w K mg base N qual scope f cdv A outer s H E) [] σ' H' s'->yY v u->Q v H'->CE outer P w H s Q u s' :=
  fun {σ' H' v u} J rv q=>⟨v,H',J.os,J.bare,J.base,J.hok,rv,q⟩
 cases fl with
 |ret u =>
  obtain ⟨v,σ',H',J,rv,q⟩:=hs;exact fin J rv q
 |next =>
  obtain ⟨σ',H',J,q⟩:=hs;exact fin (v:=V.non) (u:=Value.none) J rfl q
 |brk =>
  obtain ⟨_,_,_,q⟩:=hs;exact False.elim q
 |cont =>
  obtain ⟨_,_,_,q⟩:=hs;exact False.elim q
end L2
namespace L2
open PySem PySem.Spec PyProof.Rows
section
variable {X : Cx} {x : Str} {p pos : Pos} {e : Expr} {es : List Expr} {t : TA} {id T : String} {r : List V → Hp → VK → Prop}
def tCB (r:List V->Hp->VK->Prop) (t:TA):TE:=fun σ H Q=>t σ H fun vs H1=>r vs H1 Q
theorem zey (hc:qS X (.builtin id) r) (hg:Gl X x) (hm:X.mg x=none) (hv:bootBuiltins x=some (.builtin id)) (ha:PA X (e::es) t) (hn:x ≠ "__name__" := by decide) (hdb:(x==("__debug__" : Str))=false:=by decide)
  (he:starEach (e::es) X.env=(false,eval e X.env)::starEach es X.env:=by rfl) (hpl:(backTo pos (starEach es X.env)).any (·.1)=false:=by rfl):PE X (.Call (.Name x p) (e::es) [] pos) (tCB r t):=by
 intro pins s σ H Q I h;refine wpAny_Call_Name_kw (nP I hg hm hv ?_ hn hdb);exact PyProof.Rows.callWith_builtin1 (xT (ha pos pins s σ H _ I h) fun us s1 ⟨vs,H1,I1,r1,q1⟩=>hc pins s1 σ H1 vs us Q I1 r1 q1) he hpl
theorem zcT (hc:qS X (.type T) r) (hg:Gl X x) (hm:X.mg x=none) (hv:bootBuiltins x=some (.type T)) (ha:PA X (e::es) t) (hn:x ≠ "__name__" := by decide) (hdb:(x==("__debug__" : Str))=false:=by decide)
  (he:starEach (e::es) X.env=(false,eval e X.env)::starEach es X.env:=by rfl) (hpl:(backTo pos (starEach es X.env)).any (·.1)=false:=by rfl):PE X (.Call (.Name x p) (e::es) [] pos) (tCB r t):=by
 intro pins s σ H Q I h;refine wpAny_Call_Name_kw (nP I hg hm hv ?_ hn hdb);exact PyProof.Rows.callWith_type1 (xT (ha pos pins s σ H _ I h) fun us s1 ⟨vs,H1,I1,r1,q1⟩=>hc pins s1 σ H1 vs us Q I1 r1 q1) he hpl
end
end L2
namespace HT
open PySem PyProof.Rows
section
open PySem.SeqAt
open PySem.AutoSeq1 (wpAny_loadPart')
open PySem.MeetsSeq PySem.MeetsSeq2 PySem.MeetsSeq3
end
section
variable {prog : Program} {w : World} {A : Around} {E : Value → Shared → Prop} {s : Shared}
theorem zhb {t b:Addr} {vs ws:List Value} {Q:Value->Shared->Prop} (ht:IsTup s.heap t vs.toArray) (hb:IsTup s.heap b ws.toArray) (hv:vs≠[])
  (h1:ws=[]->Q (.ref t) s) (h2:ws≠[]->Q (.ref s.heap.objs.size) { s with heap:=s.heap.push { cls:=.type "tuple", data:=.seq (vs++ws).toArray } })
  (hsz:vs.length+ws.length<=sizeLine):wpAny (model prog w) A (binaryOp .Add (.ref t) (.ref b)) Q E s:=by
 obtain ⟨⟨cls,dd,data,sl⟩,ho,hc,n,hd⟩:=id ht;obtain ⟨⟨cls2,dd2,data2,sl2⟩,ho2,hc2,n2,hd2⟩:=id hb;simp only at hc hd hc2 hd2;subst hc hd hc2 hd2;have e:vs.toArray++ws.toArray=(vs++ws).toArray:=by simp
 by_cases hw:ws=[]
 .exact concat_meets ⟨_,ho,rfl⟩ ⟨_,ho2,rfl⟩ noFill_tuple_add seq_tuple_add PySem.F.slot_tuple_add PySem.F.entry_tuple_add (PySem.F.args_tuple_add_2 _ _)
   (tuple_addW1 t b vs.toArray ws.toArray n n2 dd dd2 sl sl2 (by simpa using hv) (by simp [hw])) ⟨ho,ho2,h1 hw⟩
 .refine concat_meets ⟨_,ho,rfl⟩ ⟨_,ho2,rfl⟩ noFill_tuple_add seq_tuple_add PySem.F.slot_tuple_add PySem.F.entry_tuple_add (PySem.F.args_tuple_add_2 _ _)
   (tuple_addW2 t b vs.toArray ws.toArray n n2 dd dd2 sl sl2 (by simpa using hv) (by simpa using hw) (by rw [zzS,zzS];exact hsz)) ⟨ho,ho2,?_⟩
  rw [e];exact h2 hw
def wD (n d:Nat):Option Int->Nat
 |none=>d
 |some v=>if v<0 then (v+(n:Int)).toNat else min v.toNat n
theorem zbr (n d:Nat):wD n d none=d:=rfl
theorem zcK (n d k:Nat):wD n d (some (k:Int))=min k n:=by
 show (if (k:Int)<0 then ((k:Int)+(n:Int)).toNat else min (k:Int).toNat n)=min k n;rw [if_neg (by omega),Int.toNat_natCast]
theorem zhJ (n d:Nat) (hd:d<=n) (o:Option Int):wD n d o<=n:=by
 cases o with
 |none=>exact hd
 |some v =>
  show (if v<0 then (v+(n:Int)).toNat else min v.toNat n)<=n
  by_cases hv:v<0
  .rw [if_pos hv];omega
  .rw [if_neg hv];exact Nat.min_le_right _ _
theorem zdK (v:Int) (n d:Nat):(if v<0 then max (v+(n:Int)) 0 else min v (n:Int))=((wD n d (some v):Nat):Int):=by
 show (if v<0 then max (v+(n:Int)) 0 else min v (n:Int))=(((if v<0 then (v+(n:Int)).toNat else min v.toNat n):Nat):Int)
 by_cases hv:v<0
 .simp only [if_pos hv];omega
 .simp only [if_neg hv];omega
theorem zcm (lo hi:Option Int) (n:Nat):Builtin.Slice.sliceAdjust lo hi 1 (n:Int)=(((wD n 0 lo:Nat):Int),((wD n n hi:Nat):Int)):=by
 have h1:¬ ((1:Int)<0):=by omega
 unfold Builtin.Slice.sliceAdjust;simp only [h1,if_false];refine Prod.ext ?_ ?_
 .cases lo with
  |none=>rfl
  |some v=>exact zdK v n 0
 .cases hi with
  |none=>rfl
  |some v=>exact zdK v n n
theorem zb3 (i j:Nat):Builtin.Slice.slicePlaces (i:Int) (j:Int) 1=j-i:=by
 unfold Builtin.Slice.slicePlaces;have h1:(1:Int) > 0:=by omega
 simp only [h1,if_true,Int.ediv_one]
 split<;>omega
theorem gP {v:Value} {o:Option Int} {Q:Option Int->Shared->Prop} (p:IsPart v o) (h:Q o s):wpAny (model prog w) A (Builtin.Slice.slicePartIndex v) Q E s:=by
 cases p with
 |none=>exact slicePart_none h
 |int i t=>exact slicePart_int h
theorem vI {sl:Addr} {vl vu:Value} {lo hi:Option Int} {n:Nat} {Q:Int×Int×Nat->Shared->Prop} (hs:s.heap.IsSliceOf sl vl vu .none) (pl:IsPart vl lo) (pu:IsPart vu hi)
  (h:Q (((wD n 0 lo:Nat):Int),1,wD n n hi-wD n 0 lo) s):wpAny (model prog w) A (Builtin.Slice.sliceApplied (.ref sl) (pure (n:Int))) Q E s:=by
 obtain ⟨os,hos,hcs,hds⟩:=id hs;unfold Builtin.Slice.sliceApplied Builtin.Slice.sliceFields;refine wpAny_bind (wpAny_bind (wpAny_field hos hds (x:=vl) rfl (wpAny_bind (wpAny_field hos hds (x:=vu) rfl (wpAny_bind (wpAny_field hos hds (x:=.none) rfl (wpAny_pure ?_)))))));refine wpAny_bind (slicePart_none ?_);show wpAny _ _ (if ((1:Int)==0)=true then _ else _) _ _ s;rw [if_neg (by decide)];refine wpAny_bind (gP pl (wpAny_bind (gP pu (wpAny_bind (wpAny_pure ?_)))));show wpAny _ _ (match Builtin.Slice.sliceAdjust lo hi 1 (n:Int) with|(lo,hi)=>pure (lo,(1:Int),Builtin.Slice.slicePlaces lo hi 1)) _ _ s;rw [zcm lo hi n];show wpAny _ _ (pure (((wD n 0 lo:Nat):Int),(1:Int),Builtin.Slice.slicePlaces ((wD n 0 lo:Nat):Int) ((wD n n hi:Nat):Int) 1)) _ _ s;rw [zb3];exact wpAny_pure h
theorem zet (xs:Array Value) (i k:Nat):((List.range k).filterMap fun (m:Nat)=>xs[((i:Int)+(m:Int) * 1).toNat]?).toArray=((xs.toList.drop i).take k).toArray:=by
 have e:(fun (m:Nat)=>xs[((i:Int)+(m:Int) * 1).toNat]?)=fun m=>xs[i+m]?:=by
  funext m
  have:((i:Int)+(m:Int) * 1).toNat=i+m:=by omega
  rw [this]
 rw [e];have:=pick_run xs i k;rw [List.filterMap_map] at this;have e2:((fun x=>xs[x]?) ∘ fun x=>i+x)=fun m=>xs[i+m]?:=rfl;rw [e2] at this;rw [this]
theorem pS {t sl:Addr} {items:Array Value} {vl vu:Value} {lo hi:Option Int} {Q:Value->Shared->Prop} (ht:IsTup s.heap t items) (hs:s.heap.IsSliceOf sl vl vu .none) (pl:IsPart vl lo) (pu:IsPart vu hi)
  (hw:¬ (wD items.size 0 lo=0/\wD items.size items.size hi=items.size))
  (h:Q (.ref s.heap.objs.size) { s with heap:=s.heap.push { cls:=.type "tuple", data:=.seq ((items.toList.drop (wD items.size 0 lo)).take (wD items.size items.size hi-wD items.size 0 lo)).toArray } })
  (hsz:items.size<=sizeLine):wpAny (model prog w) A (getItem (.ref t) (.ref sl)) Q E s:=by
 have htake:sizeOk (.seq ((items.toList.drop (wD items.size 0 lo)).take (wD items.size items.size hi-wD items.size 0 lo)).toArray):=by
  show ((items.toList.drop (wD items.size 0 lo)).take (wD items.size items.size hi-wD items.size 0 lo)).toArray.size<=sizeLine;rw [zzS,List.length_take,List.length_drop,Array.length_toList];omega
 have hj:wD items.size items.size hi<=items.size:=zhJ _ _ (zzR _) hi;obtain ⟨os,hos,hcs,hds⟩:=id hs;have hTs:s.TypeIs (.ref sl) "slice" := ⟨os,hos,hcs⟩;unfold getItem
 try with_reducible refine wpAny_holding ?_
 first|refine wpAny_bind (wpAny_pure ?_)|skip
 refine wpAny_bind (wpAny_sequenceKey ht.typeIs (by decide) ?_)
 refine wpAny_bind (wpAny_callSpecial?_slot (name:=Str.ofString "__getitem__") ht.typeIs PyProof.Rows.slot_tuple_getitem
  (wpAny_call_entry PyProof.Rows.slot_tuple_getitem ht.typeIs entry_tuple_getitem ?_ (args_tuple_getitem _ _)))
 show wpAny _ _ (Builtin.Tuple.tupleItemsOf (.ref t) >>= _) _ _ s;refine wpAny_bind (tupleItemsOf_ ht ?_);refine wpAny_bind (wpAny_typeOf hTs ?_);rw [if_pos (by decide)];refine wpAny_bind (vI hs pl pu ?_)
 have hno:¬ ((((wD items.size 0 lo:Nat):Int)==0&&(1:Int)==1&&(wD items.size items.size hi-wD items.size 0 lo)==items.size)=true):=by
  intro q;rw [Bool.and_eq_true,Bool.and_eq_true] at q;have q1:((wD items.size 0 lo:Nat):Int)=0:=eq_of_beq q.1.1;have q2:wD items.size items.size hi-wD items.size 0 lo=items.size:=eq_of_beq q.2;exact hw ⟨by omega,by omega⟩
 show wpAny _ _ (if (((wD items.size 0 lo:Nat):Int)==0&&(1:Int)==1&&(wD items.size items.size hi-wD items.size 0 lo)==items.size)=true then _ else _) _ _ s;rw [if_neg hno,zet]
 first
  |exact wpAny_bind (m:=Builtin.Tuple.tupleExact _) (wpAny_newObj_type (wpAny_pure ⟨_,rfl,wpAny_pure h⟩) htake)
  |exact wpAny_bind (m:=Builtin.Tuple.tupleExact _) (wpAny_newObj_type (wpAny_bind (wpAny_pure (wpAny_pure ⟨_,rfl,wpAny_pure h⟩))) htake)
  |exact wpAny_bind (wpAny_bind (m:=Builtin.Tuple.tupleExact _) (wpAny_newObj_type (wpAny_pure (wpAny_pure ⟨_,rfl,wpAny_pure h⟩)) htake))
  |exact wpAny_bind (wpAny_bind (m:=Builtin.Tuple.tupleExact _) (wpAny_newObj_type (wpAny_pure ⟨_,rfl,wpAny_pure h⟩) htake))
end
end HT
namespace L2
open PySem PySem.Spec PyProof.Rows
abbrev TO:=St->Hp->(Option Int->Hp->Prop)->Prop
def PO (X:Cx) (e:Option Expr) (t:TO):Prop :=
 ∀ (pins:List (Addr×Obj)) (s:Shared) (σ:St) (H:Hp) (Q:Option Int->Hp->Prop),Inv X pins σ H s->t σ H Q ->
  wpAny (model X.prog X.w) X.A (evalPart e X.env) (fun u s'=>∃ o H',Inv X pins σ H' s'/\IsPart u o/\Q o H') X.xe s
def zfO:TO:=fun _ H Q=>Q none H
def tPart (t:TE):TO:=fun σ H Q=>t σ H fun x H1=>∃ i,x=.int i/\Q (some i) H1
section
variable {X : Cx} {e : Expr} {te : TE} {lo hi : Option Expr} {tl th : TO} {pos p2 : Pos}
theorem zf9:PO X none zfO:=by
 intro pins s σ H Q I h;rw [evalPart_none];exact wpAny_pure ⟨none,H,I,.none,h⟩
theorem zf8 (h:PE X e te):PO X (some e) (tPart te):=by
 intro pins s σ H Q I hw;rw [evalPart_some];refine xT (h pins s σ H _ I hw) fun u s1 ⟨x,H1,I1,r1,q1⟩=>?_;obtain ⟨i,rfl,q⟩:=q1;obtain ⟨t,rfl⟩:=r1;exact ⟨some i,H1,I1,.int i t,q⟩
def SlR (X:Cx) (r:V->Option Int->Option Int->Hp->VK->Prop):Prop :=
 ∀ (pins:List (Addr×Obj)) (s:Shared) (σ:St) (H:Hp) (x:V) (v vl vu:Value) (lo hi:Option Int) (sl:Addr) (Q:VK),Inv X pins σ H s->yY x v->s.heap.IsSliceOf sl vl vu .none->IsPart vl lo->IsPart vu hi->r x lo hi H Q ->
  ∃ T id,typeLookup (.type T) "__getitem__" = pure (some (.builtin id))/\s.TypeIs v T/\wpAny (model X.prog X.w) X.A (getItem v (.ref sl)) (EP X pins σ Q) X.xe s
def tSl (r:V->Option Int->Option Int->Hp->VK->Prop) (te:TE) (tl th:TO):TE:=fun σ H Q=>te σ H fun x H1=>tl σ H1 fun l H2=>th σ H2 fun u H3=>r x l u H3 Q
theorem zeu {r:V->Option Int->Option Int->Hp->VK->Prop} (hr:SlR X r) (he:PE X e te) (hl:PO X lo tl) (hu:PO X hi th):PE X (.Subscript e (.Slice lo hi none p2) pos) (tSl r te tl th):=by
 intro pins s σ H Q I h;refine Subscript_ (xT (he pins s σ H _ I h) fun v s1 ⟨x,H1,I1,r1,q1⟩=>?_);refine wpAny_Slice (xT (hl pins s1 σ H1 _ I1 q1) fun vl s2 ⟨l,H2,I2,pl,q2⟩=>xT (hu pins s2 σ H2 _ I2 q2) fun vu s3 ⟨u,H3,I3,pu,q3⟩=>?_);rw [evalPart_none];refine wpAny_pure ?_;have I4:Inv X pins σ H3 { s3 with heap:=s3.heap.push { cls:=.type "slice", data:=.fields #[vl,vu,.none] } }:=I3.kept (t':=s3.toks) fun b ob q=>Heap.get?_push_of_some _ q;obtain ⟨T,id,hT,ht,hg⟩:=hr pins { s3 with heap:=s3.heap.push { cls:=.type "slice", data:=.fields #[vl,vu,.none] } } σ H3 x v vl vu l u s3.heap.objs.size Q I4 r1 (Heap.IsSliceOf.new ..) pl pu q3;show wpAny (model X.prog X.w) X.A (subscriptTail e (.Slice lo hi none p2) v (.ref s3.heap.objs.size)) (EP X pins σ Q) X.xe { s3 with heap:=s3.heap.push { cls:=.type "slice", data:=.fields #[vl,vu,.none] } };exact tail_any (ops:=[.ref s3.heap.objs.size,v]) ht hT hg (by with_unfolding_all rfl)
def cutV (xs:List V) (lo hi:Option Int):List V:=(xs.drop (HT.wD xs.length 0 lo)).take (HT.wD xs.length xs.length hi-HT.wD xs.length 0 lo)
theorem mT (xs:List V) (lo hi:Option Int):(cutV xs lo hi).length<=xs.length:=by
 unfold cutV;rw [List.length_take,List.length_drop];omega
def rSlT (K:PySem.W.Frag):V->Option Int->Option Int->Hp->VK->Prop:=fun x lo hi H Q=>∃ a xs,x=.ref a/\pF K H a xs /\
 ¬ (HT.wD xs.length 0 lo=0/\HT.wD xs.length xs.length hi=xs.length)/\∀ p,H p=none->Q (.ref p) (xB H p (.tup (cutV xs lo hi)))
theorem zhA:SlR X (rSlT X.K):=by
 intro pins s σ H x v vl vu lo hi sl Q I rx hs pl pu h;obtain ⟨a,xs,rfl,hx,hw,q⟩:=h;cases rx;obtain ⟨its,r,ht,hz⟩:=I.tuple hx;have hlen:its.toArray.size=xs.length:=by rw [zzS];exact r.length.symm
 refine ⟨"tuple", _,PyProof.Rows.slot_tuple_getitem.lookup,ht.typeIs,?_⟩;refine HT.pS ht hs pl pu (by rw [hlen];exact hw) ?_ (by rw [hlen];exact hz);rw [hlen];refine ⟨.ref s.heap.objs.size,_,I.laid (t':=s.toks) (o:=.tup (cutV xs lo hi)) (fun b ob q=>Heap.get?_push_of_some _ q) (zzR _) ?_,rfl,q _ (I.hok.fresh (zzR _))⟩;exact ⟨Nat.le_trans (mT xs lo hi) hz,_,(r.drop (HT.wD xs.length 0 lo)).take (HT.wD xs.length xs.length hi-HT.wD xs.length 0 lo),IsTup.new _ _⟩
def rCatT (K:PySem.W.Frag):R2:=fun x y H Q=>∃ a b xs ys,x=.ref a/\y=.ref b/\pF K H a xs/\pF K H b ys/\xs≠[]/\xs.length+ys.length<=sizeLine /\
 (ys=[]->Q (.ref a) H)/\(ys≠[]->∀ p,H p=none->Q (.ref p) (xB H p (.tup (xs++ys))))
theorem yT.nil_iff {xs:List V} {us:List Value} (r:yT xs us):us=[]↔xs=[]:=by
 cases r with
 |nil=>simp
 |cons _ _=>simp
theorem zgj:vC X (binaryOp .Add) (rCatT X.K):=by
 intro pins s σ H x y v u Q I rx ry h;obtain ⟨a,b,xs,ys,rfl,rfl,ha,hb,hx,hz,q1,q2⟩:=h;cases rx;cases ry;obtain ⟨its,r1,p1,_⟩:=I.tuple ha;obtain ⟨its2,r2,p2,_⟩:=I.tuple hb;refine HT.zhb p1 p2 (fun z=>hx (r1.nil_iff.mp z)) (fun z=>⟨.ref a,H,I,rfl,q1 (r2.nil_iff.mp z)⟩) (fun z=>?_) (by rw [← r1.length,← r2.length];exact hz);refine ⟨.ref s.heap.objs.size,_,I.laid (t':=s.toks) (o:=.tup (xs++ys)) (fun b ob q=>Heap.get?_push_of_some _ q) (zzR _) ?_,rfl,q2 (fun w=>z (r2.nil_iff.mpr w)) _ (I.hok.fresh (zzR _))⟩;exact ⟨by rw [zzW];exact hz,_,r1.append r2,IsTup.new _ _⟩
end
end L2
namespace L2
open PySem PySem.Spec PyProof.Rows
def mK (n:Nat) (i:Int):Option Nat:=if 0<=i then (if i<n then some i.toNat else none) else if -(n:Int)<=i then some (i+n).toNat else none
def uJ {α:Type} (xs:List α) (i:Int):Option α:=(mK xs.length i).bind fun j=>xs[j]?
theorem zdk {n:Nat} {i:Int} {j:Nat} (h:mK n i=some j):seqIndex? i n=some j/\j<n/\-(n:Int)<=i/\i<n:=by
 unfold mK at h
 by_cases h0:0<=i
 .rw [if_pos h0] at h
  by_cases h1:i<n
  .rw [if_pos h1] at h;have e:i.toNat=j:=Option.some.inj h;exact ⟨by rw [seqIndex_of h0 h1,e],by omega,by omega,h1⟩
  .rw [if_neg h1] at h;cases h
 .rw [if_neg h0] at h
  by_cases h1:-(n:Int)<=i
  .rw [if_pos h1] at h;have e:(i+n).toNat=j:=Option.some.inj h;exact ⟨by rw [seqIndex_neg (by omega) h1,e],by omega,h1,by omega⟩
  .rw [if_neg h1] at h;cases h
theorem zbb {α:Type} {xs:List α} {i:Int} {v:α} (h:uJ xs i=some v):∃ j,seqIndex? i xs.length=some j/\xs[j]?=some v/\j<xs.length/\-(xs.length:Int)<=i/\i<xs.length:=by
 unfold uJ at h
 cases e:mK xs.length i with
 |none=>rw [e] at h;cases h
 |some j =>
  rw [e] at h;obtain ⟨h1,h2,h3,h4⟩:=zdk e;exact ⟨j,h1,h,h2,h3,h4⟩
def zdX (b:Expr):Prop:=∀ o i,subscripted b false o i=operate [o,i] (getItem o i)
def IxR (X:Cx) (r:R2):Prop :=
 ∀ (value slice:Expr) (pins:List (Addr×Obj)) (s:Shared) (σ:St) (H:Hp) (x y:V) (v u:Value) (Q:VK),Inv X pins σ H s->yY x v->yY y u->r x y H Q ->
  subscripted slice false v u=operate [v,u] (getItem v u)->wpAny (model X.prog X.w) X.A (subscriptTail value slice v u) (EP X pins σ Q) X.xe s
def MtR (X:Cx) (id:String) (r:V->List V->Hp->VK->Prop):Prop :=
 ∀ (pins:List (Addr×Obj)) (s:Shared) (σ:St) (H:Hp) (x:V) (xs:List V) (v:Value) (us:List Value) (Q:VK),Inv X pins σ H s->yY x v->yT xs us->r x xs H Q ->
  wpAny (model X.prog X.w) X.A (call (.builtin id) (v::us)) (EP X pins σ Q) X.xe s
section
variable {X : Cx} {a b : Expr} {ta tb : TE} {pos : Pos}
theorem pe_ix {r:R2} (hr:IxR X r) (ha:PE X a ta) (hb:PE X b tb) (hs:zdX b):PE X (.Subscript a b pos) (tOp r ta tb):=by
 intro pins s σ H Q I h;exact Subscript_ (binT ha hb I h fun v u s2 x y H2 I2 rx ry q=>hr a b pins s2 σ H2 x y v u Q I2 rx ry q (hs _ _))
def rIxL (K:PySem.W.Frag):R2:=fun x y H Q=>∃ p xs i v,x=.ref p/\y=.int i/\mR K H p xs/\uJ xs i=some v/\Q v H
def rIxT (K:PySem.W.Frag):R2:=fun x y H Q=>∃ p xs i v,x=.ref p/\y=.int i/\pF K H p xs/\uJ xs i=some v/\Q v H
def rIxS:R2:=fun x y H Q=>∃ z i c,x=.str z/\y=.int i/\z.length<=sizeLine/\uJ z.cps.toList i=some c/\Q (.str ⟨#[c]⟩) H
theorem zgx:IxR X (rIxL X.K):=by
 intro value slice pins s σ H x y v u Q I rx ry h hs;obtain ⟨p,xs,i,z,rfl,rfl,hq,he,q⟩:=h;cases rx;obtain ⟨t,rfl⟩:=ry;obtain ⟨its,r,pl,hz⟩:=I.list hq;obtain ⟨j,h1,h2,h3,h4,h5⟩:=zbb he;obtain ⟨w,ew,rw'⟩:=r.get h2;have hl:=r.length;have hn:=rO;have fin:EP X pins σ Q w s:=⟨z,H,I,rw',q⟩
 by_cases h0:0<=i
 .have hj:i.toNat=j:=by
   rw [seqIndex_of h0 h5] at h1;exact Option.some.inj h1
  exact item_listR pl.isList h0 (by omega) (by rw [hj];simpa using ew) fin hs
 .have hj:(i+(its.toArray.size:Int)).toNat=j:=by
   rw [seqIndex_neg (by omega) h4] at h1;rw [zzS,← hl];exact Option.some.inj h1
  exact subscriptTail_builtinR (x:=w) pl.isList.typeIs slot_list_getitem.lookup
   (wpAny_getItem_list_neg (Q:=fun r s'=>r=w/\EP X pins σ Q r s') pl.isList (by omega) (by rw [zzS]<;>omega) (by omega) (by rw [hj];simpa using ew) ⟨rfl,fin⟩) hs
theorem ziG:IxR X (rIxT X.K):=by
 intro value slice pins s σ H x y v u Q I rx ry h hs;obtain ⟨p,xs,i,z,rfl,rfl,hq,he,q⟩:=h;cases rx;obtain ⟨t,rfl⟩:=ry;obtain ⟨its,r,pl,hz⟩:=I.tuple hq;obtain ⟨j,h1,h2,h3,h4,h5⟩:=zbb he;obtain ⟨w,ew,rw'⟩:=r.get h2;have hl:=r.length;have hn:=rO;have fin:EP X pins σ Q w s:=⟨z,H,I,rw',q⟩
 exact subscriptTail_builtinR (x:=w) pl.typeIs slot_tuple_getitem.lookup
  (getItem_tuple (j:=j) (Q:=fun r s'=>r=w/\EP X pins σ Q r s') pl (by omega) (by omega) (by rw [zzS,← hl];exact h1) (by simpa using ew) ⟨rfl,fin⟩) hs
theorem ziH:IxR X rIxS:=by
 intro value slice pins s σ H x y v u Q I rx ry h hs;obtain ⟨z,i,c,rfl,rfl,hz,he,q⟩:=h;obtain ⟨t,rfl⟩:=rx;obtain ⟨t',rfl⟩:=ry;obtain ⟨j,h1,h2,h3,h4,h5⟩:=zbb he;have hl:z.cps.toList.length=z.length:=by simp [Str.length]
 rw [hl] at h1 h4 h5;have hn:=rO
 exact tail_any (typeIs_str s z t) slot_str_getitem.lookup (getItem_str (c:=c) (by
  have e1:decide (i < -(2 ^ 63:Int))=false:=decide_eq_false (by omega);have e2:decide (i>=2 ^ 63)=false:=decide_eq_false (by omega);rw [e1,e2,Bool.or_false]) (by rw [h1];simpa using h2) ⟨.str ⟨#[c]⟩,H,I.tok _,⟨_,rfl⟩,q⟩) hs
theorem zb6 (its:List Value) (n j:Nat) (u:Value):Obj.mapSeq (·.setIfInBounds j u) { cls:=.type "list", data:=.seq its.toArray n }={ cls:=.type "list", data:=.seq (its.set j u).toArray n }:=by
 simp [Obj.mapSeq]
theorem Inv.lst {pins:List (Addr×Obj)} {σ:St} {H:Hp} {s:Shared} {p:Addr} {xs:List V} (I:Inv X pins σ H s) (h:H p=some (.lst xs)) :
  ∃ (its:List Value) (n:Nat),yT xs its/\s.heap.get? p=some { cls:=.type "list", data:=.seq its.toArray n }/\xs.length<=sizeLine:=by
 obtain ⟨z,its,n,r,e⟩:=I.hok p _ h;exact ⟨its,n,r,e,z⟩
theorem Inv.lstUpd {pins:List (Addr×Obj)} {σ:St} {H:Hp} {s:Shared} {p:Addr} {xs ys:List V} {its its':List Value} {n n':Nat} {f:Obj->Obj} (I:Inv X pins σ H s) (h:H p=some (.lst xs))
  (ho:s.heap.get? p=some { cls:=.type "list", data:=.seq its.toArray n }) (hf:f { cls:=.type "list", data:=.seq its.toArray n }={ cls:=.type "list", data:=.seq its'.toArray n' }) (r:yT ys its') (hz:ys.length<=sizeLine) (t:Nat) :
  Inv X pins σ (xB H p (.lst ys)) { s with heap:=s.heap.update p f,toks:=t }:=by
 have e:(s.heap.update p f).get? p=some { cls:=.type "list", data:=.seq its'.toArray n' }:=by
  rw [Heap.get?_update_self f ho (by rw [hf]<;>rfl),hf]
 refine I.write (x:=p) (e:=p) (by rw [h];trivial) (.inl rfl) (fun b u hb q=>(Heap.get?_update_other _ _ (Ne.symm hb)).trans q) ⟨_,e⟩ ?_;exact ⟨hz,its',n',r,e⟩
def rSetL:V->V->V->Hp->(Hp->Prop)->Prop:=fun o i v H Q=>∃ p xs k j,o=.ref p/\i=.int k/\H p=some (.lst xs)/\mK xs.length k=some j/\Q (xB H p (.lst (xs.set j v)))
theorem zed:PSet X rSetL:=by
 intro pins s σ H o i v ov iv u Q I ro ri rv h;obtain ⟨p,xs,k,j,rfl,rfl,hp,hj,q⟩:=h;cases ro;obtain ⟨t,rfl⟩:=ri;obtain ⟨its,n,r,ho,hz⟩:=I.lst hp;obtain ⟨h1,h2,h3,h4⟩:=zdk hj;have hl:=r.length;have hn:=rO
 have I':Inv X pins σ (xB H p (.lst (xs.set j v))) { s with heap:=s.heap.update p (Obj.mapSeq (·.setIfInBounds j u)) } :=
  I.lstUpd hp ho (zb6 its n j u) (r.set rv j) (by rw [List.length_set];exact hz) s.toks
 by_cases h0:0<=k
 .have hk:k.toNat=j:=by
   rw [seqIndex_of h0 h4] at h1;exact Option.some.inj h1
  exact PySem.W.ki_setAt ho h0 (by omega) (by rw [zzS,← hl];exact h4) (by rw [hk];exact ⟨_,I',q⟩)
 .have hk:(k+(its.toArray.size:Int)).toNat=j:=by
   rw [seqIndex_neg (by omega) h3] at h1;rw [zzS,← hl];exact Option.some.inj h1
  exact PySem.W.ki_setBack ho (by omega) (by rw [zzS,← hl];exact h3) (by omega) (by rw [hk];exact ⟨_,I',q⟩)
theorem zaa (lo hi:Option Int) (n:Nat):(sliceBounds lo hi none n).1=((HT.wD n 0 lo:Nat):Int)/\(sliceBounds lo hi none n).2.1=((HT.wD n n hi:Nat):Int)/\(sliceBounds lo hi none n).2.2=1:=by
 refine ⟨?_,?_,rfl⟩
 .cases lo with
  |none=>simp [sliceBounds,HT.wD]
  |some i =>
   simp only [sliceBounds,HT.wD,Option.getD_none,show (1:Int) > 0 by decide,if_true]
   by_cases h:i<0
   .simp only [h,if_true]<;>omega
   .simp only [h,if_false]<;>omega
 .cases hi with
  |none=>simp [sliceBounds,HT.wD]
  |some i =>
   simp only [sliceBounds,HT.wD,Option.getD_none,show (1:Int) > 0 by decide,if_true]
   by_cases h:i<0
   .simp only [h,if_true]<;>omega
   .simp only [h,if_false]<;>omega
theorem dD (its:List Value) (lo hi:Option Int):slicePick its.toArray lo hi none=((its.drop (HT.wD its.length 0 lo)).take (HT.wD its.length its.length hi-HT.wD its.length 0 lo)).toArray:=by
 obtain ⟨h1,h2,h3⟩:=zaa lo hi its.toArray.size;unfold slicePick;rw [h1,h2,h3];simp only [sliceRange_one,pick_run,zzS]<;>rfl
def rSlL (K:PySem.W.Frag):V->Option Int->Option Int->Hp->VK->Prop:=fun x lo hi H Q=>∃ a xs,x=.ref a/\mR K H a xs/\∀ p,H p=none->Q (.ref p) (xB H p (.lst (cutV xs lo hi)))
theorem zcC:SlR X (rSlL X.K):=by
 intro pins s σ H x v vl vu lo hi sl Q I rx hs pl pu h;obtain ⟨a,xs,rfl,hx,q⟩:=h;cases rx;obtain ⟨its,r,ht,hz⟩:=I.list hx;have hlen:=r.length;refine ⟨"list", _,slot_list_getitem.lookup,ht.isList.typeIs,?_⟩;refine wpAny_getItem_list_slice ht.isList hs pl pu .none (by simp) ?_ (by rw [zzS]<;>omega);rw [dD,← hlen];refine ⟨.ref s.heap.objs.size,_,I.laid (t':=s.toks) (o:=.lst (cutV xs lo hi)) (fun b ob q=>Heap.get?_push_of_some _ q) (zzR _) ?_,rfl,q _ (I.hok.fresh (zzR _))⟩;exact ⟨Nat.le_trans (mT xs lo hi) hz,_,0,(r.drop (HT.wD xs.length 0 lo)).take (HT.wD xs.length xs.length hi-HT.wD xs.length 0 lo),Heap.get?_push_size _ rfl⟩
theorem zag:vC X (compareOp .NotIn) (fun x y H Q=>∃ i j,x=.str i/\y=.str j/\Q (.bl (!(!(Builtin.Str.occurrences j i 0 j.length 1).isEmpty))) H):=by
 intro pins s σ H x y v u Q I rx ry h;obtain ⟨i,j,rfl,rfl,q⟩:=h;obtain ⟨t,rfl⟩:=rx;obtain ⟨t',rfl⟩:=ry;exact notIn_str ⟨.bl _,H,I,rfl,q⟩
theorem uS:qS X (.builtin "len") (fun xs H Q=>∃ p ys,xs=[.ref p]/\(mR X.K H p ys\/pF X.K H p ys)/\Q (.int ys.length) H):=by
 intro pins s σ H xs us Q I r h;obtain ⟨p,ys,rfl,hq,q⟩:=h;obtain ⟨u,rfl,rx⟩:=qB r;cases rx;have hn:=rO;rcases hq with hq|hq
 .obtain ⟨its,r',pl,hz⟩:=I.list hq;have hlen:=r'.length;exact Calls.call_len_list pl.isList (by simp only [zzS]<;>omega) ⟨.int ys.length,H,I.tok _,⟨s.toks+1,by rw [zzS,hlen]⟩,q⟩
 .obtain ⟨its,r',pl,hz⟩:=I.tuple hq;have hlen:=r'.length;exact len_tuple pl (by simp only [zzS]<;>omega) ⟨.int ys.length,H,I.tok _,⟨s.toks+1,by rw [zzS,hlen]⟩,q⟩
theorem zaq:qS X (.builtin "len") (fun xs H Q=>∃ z,xs=[.str z]/\z.length<=sizeLine/\Q (.int z.length) H):=by
 intro pins s σ H xs us Q I r h;obtain ⟨z,rfl,hz,q⟩:=h;obtain ⟨u,rfl,t,rfl⟩:=qB r;have hn:=rO;exact len_str (by omega) ⟨.int z.length,H,I.tok _,⟨_,rfl⟩,q⟩
theorem zap:qS X (.type "list") (fun xs H Q=>∃ p ys,xs=[.ref p]/\(mR X.K H p ys\/pF X.K H p ys)/\∀ l,H l=none->Q (.ref l) (xB H l (.lst ys))):=by
 intro pins s σ H xs us Q I r h;obtain ⟨p,ys,rfl,hq,q⟩:=h;obtain ⟨u,rfl,rx⟩:=qB r;cases rx
 have fin:∀ (its:List Value),yT ys its->ys.length<=sizeLine->∀ (h':Heap) (c':Nat),(∀ b o',s.heap.get? b=some o'->h'.get? b=some o') ->
   h'.get? s.heap.objs.size=some { cls:=.type "list", dict:=none,data:=.seq its.toArray c',slots:=#[] }->EP X pins σ Q (.ref s.heap.objs.size) { s with heap:=h' }:=fun its r' hz h' c' kp e =>
  ⟨.ref s.heap.objs.size,_,I.laid (t':=s.toks) kp (zzR _) (show xD X.prog X.w _ h' _ (.lst ys) from ⟨hz,its,c',r',e⟩),rfl,q _ (I.hok.fresh (zzR _))⟩
 rcases hq with hq|hq
 .obtain ⟨its,r',pl,hz⟩:=I.list hq;have hlen:=r'.length;obtain ⟨o,ho,hc,n,hd⟩:=pl.isList;exact call_list_seq p (.inl rfl) ho hc hd (fun h' c' kp e=>fin its r' hz h' c' kp e) (by simp only [zzS]<;>omega)
 .obtain ⟨its,r',pl,hz⟩:=I.tuple hq;have hlen:=r'.length;obtain ⟨o,ho,hc,n,hd⟩:=pl;exact call_list_seq p (.inr rfl) ho hc hd (fun h' c' kp e=>fin its r' hz h' c' kp e) (by simp only [zzS]<;>omega)
theorem cP:qS X (.type "tuple") (fun xs H Q=>∃ p ys,xs=[.ref p]/\((mR X.K H p ys/\∀ l,H l=none->Q (.ref l) (xB H l (.tup ys)))\/(pF X.K H p ys/\Q (.ref p) H))):=by
 intro pins s σ H xs us Q I r h;obtain ⟨p,ys,rfl,h⟩:=h;obtain ⟨u,rfl,rx⟩:=qB r;cases rx;rcases h with ⟨hq,q⟩|⟨hq,q⟩
 .obtain ⟨its,r',pl,hz⟩:=I.list hq;have hlen:=r'.length;refine call_tuple_list pl.isList (fun h' kp=>?_) (by simp only [zzS]<;>omega);have I1:Inv X pins σ H { s with heap:=h' }:=I.kept (t':=s.toks) kp
  have I2:Inv X pins σ (xB H h'.objs.size (.tup ys)) { s with heap:=h'.push { cls:=.type "tuple", data:=.seq its.toArray } } :=
   I1.laid (t':=s.toks) (fun b o e=>Heap.get?_push_of_some _ e) (zzR _) (show xD X.prog X.w _ _ _ (.tup ys) from ⟨hz,its,r',IsTup.new _ _⟩)
  exact ⟨.ref h'.objs.size,_,I2,rfl,q _ (I1.hok.fresh (zzR _))⟩
 .obtain ⟨its,r',pl,hz⟩:=I.tuple hq;exact call_tuple_same pl ⟨.ref p,H,I,rfl,q⟩
def tyV (K:PySem.W.Frag) (T:String) (x:V) (H:Hp):Prop:=match x with
 | .str _=>T = "str"
 | .int _=>T = "int"
 | .ref p=>(T = "list" /\ ∃ xs,mR K H p xs)\/(T = "tuple" /\ ∃ o,K.lookup p=some o/\o.cls=.type "tuple" /\ o.dict=none) \/
   (T = "dict" /\ ((∃ kvs,H p=some (.dK kvs))\/∃ kvs,H p=some (.dT kvs)))\/(T = "set" /\ ∃ S n,H p=some (.set S n))
 |_=>False
theorem zfj {pins:List (Addr×Obj)} {σ:St} {H:Hp} {s:Shared} {T:String} {x:V} {v:Value} (I:Inv X pins σ H s) (r:yY x v) (ty:tyV X.K T x H) :
  s.TypeIs v T/\∀ a,v=.ref a->∃ ob,s.heap.get? a=some ob/\ob.dict=none:=by
 cases x with
 |str z =>
  obtain ⟨t,rfl⟩:=r;cases (show T = "str" from ty);exact ⟨typeIs_str s z t,fun _ e=>nomatch e⟩
 |int i =>
  obtain ⟨t,rfl⟩:=r;cases (show T = "int" from ty);exact ⟨typeIs_int s i t,fun _ e=>nomatch e⟩
 |ref p =>
  cases r;rcases ty with ⟨rfl,xs,hq⟩|⟨rfl,o,hk,hc,hd⟩|⟨rfl,hk⟩|⟨rfl,S,n,hk⟩
  .obtain ⟨its,_,pl,_⟩:=I.list hq;refine ⟨pl.isList.typeIs,fun a e=>?_⟩;cases e;obtain ⟨o,n,e,c,hd,_⟩:=pl;exact ⟨o,e,hd⟩
  .refine ⟨⟨o,I.kIn p o hk,hc⟩,fun a e=>?_⟩;cases e;exact ⟨o,I.kIn _ o hk,hd⟩
  .have z:∃ o,s.heap.get? p=some o/\o.ExactDict:=by
    rcases hk with ⟨kvs,hk⟩|⟨kvs,hk⟩
    .obtain ⟨_,_,_,_,o,_,_,e,ex,_⟩:=I.hok p _ hk;exact ⟨o,e,ex⟩
    .obtain ⟨_,_,_,_,o,_,_,e,ex,_⟩:=I.hok p _ hk;exact ⟨o,e,ex⟩
   obtain ⟨o,e,ex⟩:=z;refine ⟨⟨o,e,ex.1⟩,fun a e2=>?_⟩;cases e2;exact ⟨o,e,ex.2.1⟩
  .obtain ⟨o,_,_,_,e,ex,_⟩:=I.hok p _ hk;refine ⟨⟨o,e,ex.1⟩,fun a e2=>?_⟩;cases e2;exact ⟨o,e,ex.2.1⟩
 |_=>exact False.elim ty
def tBM0 (K:PySem.W.Frag) (T:String) (r:V->List V->Hp->VK->Prop) (to:TE):TE:=fun σ H Q=>to σ H fun x H1=>tyV K T x H1/\r x [] H1 Q
def tBM (K:PySem.W.Frag) (T:String) (r:V->List V->Hp->VK->Prop) (to:TE) (t:TA):TE:=fun σ H Q=>to σ H fun x H1=>tyV K T x H1/\t σ H1 fun xs H2=>r x xs H2 Q
variable {o e : Expr} {es : List Expr} {to : TE} {t : TA} {name : Str} {apos cpos : Pos} {T id : String} {r : V → List V → Hp → VK → Prop}
theorem zia (pa:PlainAttrs T) (slot:Slot T name id) (hty:typeOf (.builtin id)=pure (.type "method_descriptor")) (hm:MtR X id r) (ho:PE X o to)
  (hbase:attributeBase o name X.env (eval o X.env)=eval o X.env:=by rfl) (hline:(apos.endLine==cpos.line)=true:=by rfl):PE X (.Call (.Attribute o name apos) [] [] cpos) (tBM0 X.K T r to):=by
 intro pins s σ H Q I h;refine wpAny_Call_method0_late hbase hline (xT (ho pins s σ H _ I h) fun v s1 ⟨x,H1,I1,r1,ty,q1⟩=>?_);obtain ⟨h1,h2⟩:=zfj I1 r1 ty;exact ⟨T,id,pa,slot,hty,h1,h2,Calls.callWith_builtin rfl (PySem.evalArgs_none (hm pins s1 σ H1 x [] v [] Q I1 r1 .nil q1))⟩
theorem pe_bm (pa:PlainAttrs T) (slot:Slot T name id) (hty:typeOf (.builtin id)=pure (.type "method_descriptor")) (hm:MtR X id r) (ho:PE X o to) (ha:PA X (e::es) t)
  (hbase:attributeBase o name X.env (eval o X.env)=eval o X.env:=by rfl)
  (hfew:((backTo cpos (starEach (e::es) X.env)).all (fun x=>!x.1)&&(backToKw cpos (keywordEach [] X.env)).all (fun x=>x.1.isSome)
   && decide ((e::es).length+([]:List Keyword).length+(if ([]:List Keyword).isEmpty then 0 else 1)<30))=true:=by rfl)
  (hline:(apos.endLine==cpos.line)=true:=by rfl) (hs:starEach (e::es) X.env=(false,eval e X.env)::starEach es X.env:=by rfl) (hplain:(backTo cpos (starEach es X.env)).any (·.1)=false:=by rfl) :
  PE X (.Call (.Attribute o name apos) (e::es) [] cpos) (tBM X.K T r to t):=by
 intro pins s σ H Q I h;refine wpAny_Call_method_late hbase hfew hline rfl (xT (ho pins s σ H _ I h) fun v s1 ⟨x,H1,I1,r1,ty,q1⟩=>?_);obtain ⟨h1,h2⟩:=zfj I1 r1 ty;refine ⟨T,id,pa,slot,hty,h1,h2,?_⟩;have hA:=ha cpos pins s1 σ H1 _ I1 q1;rw [hs] at hA ⊢;refine Calls.callWith_builtin (by show (false || (backTo cpos (starEach es X.env)).any (·.1))=false;rw [hplain]<;>rfl) (Calls.evalArgs_plain ?_);exact xT hA fun us s2 ⟨vs,H2,I2,r2,q2⟩=>hm pins s2 σ H2 x vs v us Q I2 r1 r2 q2
/- xs.append(e),list.index on a module's tuple .. are MtR facts of 06m -/
end
end L2
namespace L2
open PySem PySem.Spec PyProof.Rows
def MtM (X:Cx) (id:String) (r:V->List V->Hp->VK->Prop):Prop :=
 ∀ (pins:List (Addr×Obj)) (s:Shared) (σ:St) (H:Hp) (x:V) (xs:List V) (v:Value) (us:List Value) (Q:VK),Inv X pins σ H s->yY x v->yT xs us->r x xs H Q ->
  wpAny (model X.prog X.w) X.A (call (.builtin id) (v::us)) (EP X pins σ Q) X.xe s
theorem yT.one:∀ {x:V} {us:List Value},yT [x] us->∃ u,us=[u]/\yY x u
 |_,_,.cons r .nil=>⟨_,rfl,r⟩
theorem yT.zero:∀ {us:List Value},yT [] us->us=[]
 |_,.nil=>rfl
theorem yT.dropLast {xs:List V} {us:List Value} (h:yT xs us):yT xs.dropLast us.dropLast:=by
 induction h with
 |nil=>exact .nil
 |cons r t ih =>
  cases t with
  |nil=>exact .nil
  |cons q t'=>exact .cons r ih
theorem yT.rep {xs:List V} {us:List Value} (h:yT xs us):∀ k:Nat,yT (List.replicate k xs).flatten (List.replicate k us).flatten
 | 0=>.nil
 |k+1=>by
  rw [List.replicate_succ,List.replicate_succ,List.flatten_cons,List.flatten_cons];exact yT.append h (yT.rep h k)
theorem zce {α:Type} (l:List α):l.eraseIdx (l.length-1)=l.dropLast:=by
 induction l with
 |nil=>rfl
 |cons a r ih =>
  cases r with
  |nil=>rfl
  |cons b r =>
   have e:(a::b::r).length-1=((b::r).length-1)+1:=by
    have h1:(a::b::r).length=r.length+2:=rfl;have h2:(b::r).length=r.length+1:=rfl;omega
   rw [e,List.eraseIdx_cons_succ,ih]
   all_goals rfl
theorem bG (its:List Value):∀ (k:Nat) (acc:List Value),
  List.foldl (fun x1 x2=>x1++x2) acc.toArray (List.replicate k its.toArray)=(acc++(List.replicate k its).flatten).toArray
 | 0,acc=>by simp
 |k+1,acc=>by
  have e:acc.toArray++its.toArray=(acc++its).toArray:=by simp
  have e2:(acc++its)++(List.replicate k its).flatten=acc++(List.replicate (k+1) its).flatten:=by
   rw [List.replicate_succ,List.flatten_cons,List.append_assoc]
  rw [← e2,← bG its k (acc++its),← e,List.replicate_succ,List.foldl_cons]
section
variable {X : Cx} {pins : List (Addr × Obj)} {σ : St} {H : Hp} {s : Shared} {l b : Addr} {xs ys zs : List V}
theorem Inv.lset {its its':List Value} {n:Nat} {f:Array Value->Array Value} {t':Nat} (I:Inv X pins σ H s) (hH:H l=some (.lst xs))
  (e:s.heap.get? l=some { cls:=.type "list", data:=.seq its.toArray n }) (hf:f its.toArray=its'.toArray) (hv:yT ys its') (hz:ys.length<=sizeLine) :
  Inv X pins σ (xB H l (.lst ys)) { s with heap:=s.heap.update l (Obj.mapSeq f),toks:=t' }:=by
 have q:=PySem.IsL.update e f;rw [hf] at q;refine I.write (x:=l) (e:=l) (by rw [hH];exact trivial) (.inl rfl) (fun b' u hb hu=>(Heap.get?_update_other s.heap (Obj.mapSeq f) (Ne.symm hb)).trans hu) ⟨_,q⟩ ?_;exact ⟨hz,its',_,hv,q⟩
theorem Inv.lnew {its:List Value} {t':Nat} (I:Inv X pins σ H s) (hv:yT ys its) (hz:ys.length<=sizeLine) :
  Inv X pins σ (xB H s.heap.objs.size (.lst ys)) { s with heap:=s.heap.push { cls:=.type "list", data:=.seq its.toArray },toks:=t' } :=
 I.laid (fun _ _ q=>Heap.get?_push_of_some _ q) (zzR _) ⟨hz,its,0,hv,Heap.get?_push_size _ rfl⟩
theorem Inv.fresh (I:Inv X pins σ H s):H s.heap.objs.size=none:=I.hok.fresh (zzR _)
theorem Inv.lstM (I:Inv X pins σ H s) (hH:H l=some (.lst xs)):xs.length<=sizeLine/\∃ (its:List Value) (n:Nat),yT xs its/\xs.length=its.length/\s.heap.get? l=some { cls:=.type "list", data:=.seq its.toArray n }:=by
 obtain ⟨z,its,n,r,e⟩:=I.hok l _ hH;exact ⟨z,its,n,r,r.length,e⟩
theorem gF {n:Nat} (h:n<=sizeLine):Builtin.List.listTooLong n=false:=by
 unfold Builtin.List.listTooLong;exact decide_eq_false (by omega)
end
section
variable {X : Cx}
def zfY:V->List V->Hp->VK->Prop:=fun x vs H Q=>∃ l xs y,x=.ref l/\vs=[y]/\H l=some (.lst xs)/\xs.length<sizeLine/\Q .non (xB H l (.lst (xs++[y])))
theorem zc3:MtM X "list.append" zfY:=by
 intro pins s σ H x vs v us Q I rx rv h;obtain ⟨l,xs,y,rfl,rfl,hH,hz,q⟩:=h;cases rx;obtain ⟨u,rfl,ru⟩:=rv.one;obtain ⟨z,its,n,r,hl,e⟩:=I.lstM hH;refine call_meets F.slot_list_append ⟨_,e,rfl⟩ F.entry_list_append (F.args_list_append_2 _ _) (PySem.list_append l its.toArray n u (by rw [zzS];omega)) ⟨e,?_⟩;refine ⟨.non,_,I.lset (its':=its++[u]) hH e (by simp) (r.append (.cons ru .nil)) ?_,rfl,q⟩;rw [zzW,List.length_singleton];omega
def rPop:V->List V->Hp->VK->Prop:=fun x vs H Q=>∃ l xs y,x=.ref l/\vs=[]/\H l=some (.lst xs)/\xs[xs.length-1]?=some y/\Q y (xB H l (.lst xs.dropLast))
theorem zim:MtM X "list.pop" rPop:=by
 intro pins s σ H x vs v us Q I rx rv h;obtain ⟨l,xs,y,rfl,rfl,hH,hy,q⟩:=h;cases rx;have hus:=rv.zero;subst hus;obtain ⟨z,its,n,r,hl,e⟩:=I.lstM hH;obtain ⟨u,hu,ru⟩:=r.get hy
 have hy':its.toArray[its.toArray.size-1]?=some u:=by
  show its.toArray[its.length-1]?=some u;rw [← Array.getElem?_toList,← hl];exact hu
 refine call_meets F.slot_list_pop ⟨_,e,rfl⟩ F.entry_list_pop (F.args_list_pop_1 _) (MeetsSeq.list_pop_last l its.toArray n u hy' (by rw [zzS];omega)) ⟨e,?_⟩;refine ⟨y,_,I.lset (its':=its.dropLast) hH e ?_ r.dropLast ?_,ru,q⟩
 .show its.toArray.eraseIdxIfInBounds (its.toArray.size-1)=its.dropLast.toArray;rw [zzS,List.eraseIdxIfInBounds_toArray,zce]
 .rw [List.length_dropLast];omega
def rCat:R2:=fun x y H Q=>∃ l b xs zs,x=.ref l/\y=.ref b/\H l=some (.lst xs)/\H b=some (.lst zs)/\xs.length+zs.length<=sizeLine/\∀ p,H p=none->Q (.ref p) (xB H p (.lst (xs++zs)))
theorem zii:vC X (binaryOp .Add) rCat:=by
 intro pins s σ H x y v u Q I rx ry h;obtain ⟨l,b,xs,zs,rfl,rfl,hH,hB,hz,q⟩:=h;cases rx;cases ry;obtain ⟨z,its,n,r,hl,e⟩:=I.lstM hH;obtain ⟨z2,its2,n2,r2,hl2,e2⟩:=I.lstM hB;refine PySem.P.add_list e e2 ?_ (by rw [zzS,zzS];omega);have ea:its.toArray++its2.toArray=(its++its2).toArray:=by simp
 rw [ea];exact ⟨.ref _,_,I.lnew (t':=s.toks) (r.append r2) (by rw [zzW];omega),rfl,q _ I.fresh⟩
def rRep:R2:=fun x y H Q=>∃ l k xs,x=.ref l/\y=.int k/\H l=some (.lst xs)/\-(2 ^ 63)<=k/\k<2 ^ 63/\xs.length * k.toNat<=sizeLine /\
 ∀ p,H p=none->Q (.ref p) (xB H p (.lst (List.replicate k.toNat xs).flatten))
theorem zgs {α:Type} (xs:List α) (k:Nat):(List.replicate k xs).flatten.length=k * xs.length:=by
 induction k with
 |zero=>simp
 |succ k ih=>rw [List.replicate_succ,List.flatten_cons,zzW,ih,Nat.succ_mul,Nat.add_comm]
theorem zie:vC X (binaryOp .Mult) rRep:=by
 intro pins s σ H x y v u Q I rx ry h;obtain ⟨l,k,xs,rfl,rfl,hH,h1,h2,hz,q⟩:=h;cases rx;obtain ⟨t,rfl⟩:=ry;obtain ⟨z,its,n,r,hl,e⟩:=I.lstM hH;have hlen:its.toArray.size * k.toNat<=sizeLine:=by rw [zzS,← hl];exact hz
 have hcap:¬ its.toArray.size * k.toNat > (2 ^ 63-1) / 8:=by
  have:(sizeLine:Nat)<=(2 ^ 63-1) / 8:=by decide
  omega
 have hfit:¬ (!Builtin.List.listFitsIndex k)=true:=by
  rw [fitsIndex_both h1 h2];exact zzN
 have hlong:¬ Builtin.List.listTooLong (its.toArray.size * k.toNat)=true:=by
  rw [gF hlen];exact zzN
 have hnew:List.foldl (fun x1 x2=>x1++x2) #[] (List.replicate (if its.toArray.isEmpty=true then 0 else k.toNat) its.toArray)=(List.replicate k.toNat its).flatten.toArray:=by
  have f0:∀ m:Nat,List.foldl (fun x1 x2=>x1++x2) #[] (List.replicate m its.toArray)=(List.replicate m its).flatten.toArray:=fun m=>by
   have:=bG its m [];rw [List.nil_append] at this;exact this
  rw [f0]
  cases its with
  |nil=>simp
  |cons a r'=>rw [if_neg (by simp)]
 refine wpAny_binaryOp_repeat_ref (T := "list") (U := "int") (by decide) ⟨_,e,rfl⟩ (fun s'=>typeIs_int s' k t) noFill_list_mul F.fills_int_mul F.slot_int_rmul repeat_list F.slot_int_index.lookup
  (call_meets F.slot_int_rmul (typeIs_int s k t) F.entry_int_rmul (F.args_int_rmul_2 _ _) (int___rmul___int_list k t l its.toArray n)
   ⟨e,rfl,⟨_,e,rfl⟩,call_meets F.slot_list_mul ⟨_,e,rfl⟩ F.entry_list_mul (F.args_list_mul_2 _ _) (AutoListH.list___mul___list_int_3 l its.toArray n k t hfit hcap hlong) ⟨e,?_⟩⟩)
 rw [hnew];exact ⟨.ref _,_,I.lnew (t':=s.toks) (r.rep k.toNat) (by rw [zgs,Nat.mul_comm];exact hz),rfl,q _ I.fresh⟩
end
section
variable {prog : Program} {w : World} {A : Around} {E : Value → Shared → Prop} {s : Shared}
set_option maxRecDepth 100000 in
end
section
variable {X : Cx}
end
end L2
namespace L2
open PySem PySem.Spec PyProof.Rows
section
variable {κ : Type} [DecidableEq κ]
def kE (kvs:List (κ×V)) (k:κ):Option V:=(kvs.find? fun kv=>decide (kv.1=k)).map (·.2)
def uC (kvs:List (κ×V)) (k:κ) (v:V):List (κ×V) :=
 if (kvs.any fun kv=>decide (kv.1=k))=true then kvs.map (fun kv=>if kv.1=k then (kv.1,v) else kv) else kvs++[(k,v)]
theorem gU {p:κ×V} {r:List (κ×V)} {k:κ} (e:p.1=k):kE (p::r) k=some p.2:=by simp [kE,List.find?_cons,e]
theorem gT {p:κ×V} {r:List (κ×V)} {k:κ} (e:¬ p.1=k):kE (p::r) k=kE r k:=by simp [kE,List.find?_cons,e]
theorem zbe (k:κ):∀ kvs:List (κ×V),(kvs.any fun kv=>decide (kv.1=k))=(kE kvs k).isSome
 | []=>rfl
 |p::r=>by
  rw [List.any_cons]
  by_cases e:p.1=k
  .simp only [gU e,decide_eq_true e,Bool.true_or,Option.isSome_some]
  .rw [gT e,decide_eq_false e,Bool.false_or];exact zbe k r
theorem tI (kvs:List (κ×V)) (k:κ) (v:V):(uC kvs k v).length<=kvs.length+1:=by
 unfold uC
 split
 .rw [zzM];omega
 .rw [zzW,List.length_cons,List.length_nil];omega
theorem rK.isSome_eq {o:Option V} {u:Option Value} (r:rK o u):o.isSome=u.isSome:=by
 cases o with
 |none=>cases u with
  |none=>rfl
  |some _=>exact (show False from r).elim
 |some _=>cases u with
  |none=>exact (show False from r).elim
  |some _=>rfl
theorem rK.getD {o:Option V} {u:Option Value} {d:V} {d':Value} (r:rK o u) (rd:yY d d'):yY (o.getD d) (u.getD d'):=by
 cases o with
 |none=>cases u with
  |none=>exact rd
  |some _=>exact (show False from r).elim
 |some _=>cases u with
  |none=>exact (show False from r).elim
  |some _=>exact r
theorem KV.val {kvs:List (κ×V)} {vs:List (κ×Value)} (r:KV kvs vs) (k:κ):rK (kE kvs k) (valueAt vs k):=by
 unfold KV at r
 induction r with
 |nil=>exact True.intro
 | @cons p q ps qs h t ih =>
  obtain ⟨h1,h2⟩:=h
  by_cases e:p.1=k
  .have e':q.1=k:=h1.symm.trans e;have b:valueAt (q::qs) k=some q.2:=by simp [valueAt,List.find?_cons,e']
   rw [gU e,b];exact h2
  .have e':¬ q.1=k:=fun z=>e (h1.trans z);have b:valueAt (q::qs) k=valueAt qs k:=by simp [valueAt,List.find?_cons,e']
   rw [gT e,b];exact ih
theorem KV.any {kvs:List (κ×V)} {vs:List (κ×Value)} (r:KV kvs vs) (k:κ):(kvs.any fun kv=>decide (kv.1=k))=vs.any fun kv=>decide (kv.1=k):=by
 unfold KV at r
 induction r with
 |nil=>rfl
 |cons h t ih=>rw [List.any_cons,List.any_cons,ih,h.1]
theorem KV.repl {kvs:List (κ×V)} {vs:List (κ×Value)} (r:KV kvs vs) (k:κ) {y:V} {u:Value} (ry:yY y u) :
  KV (kvs.map fun kv=>if kv.1=k then (kv.1,y) else kv) (vs.map fun kv=>if kv.1=k then (kv.1,u) else kv):=by
 unfold KV at r ⊢
 induction r with
 |nil=>exact .nil
 | @cons p q ps qs h t ih =>
  rw [zzU,zzU];refine .cons ?_ ih;obtain ⟨h1,h2⟩:=h
  by_cases e:p.1=k
  .rw [if_pos e,if_pos (h1.symm.trans e)];exact ⟨h1,ry⟩
  .rw [if_neg e,if_neg (fun z=>e (h1.trans z))];exact ⟨h1,h2⟩
theorem KV.put {kvs:List (κ×V)} {vs:List (κ×Value)} (r:KV kvs vs) (k:κ) {y:V} {u:Value} (ry:yY y u):KV (uC kvs k y) (stored vs k u):=by
 unfold uC stored;rw [r.any k]
 by_cases e:(vs.any fun kv=>decide (kv.1=k))=true
 .rw [if_pos e,if_pos e];exact r.repl k ry
 .rw [if_neg e,if_neg e];exact Paired.snoc r ⟨rfl,ry⟩
theorem KV.length {kvs:List (κ×V)} {vs:List (κ×Value)} (r:KV kvs vs):kvs.length=vs.length:=Paired.length r
end
theorem fC {P:Program} {w:World} {k:xV} {u:Value} (r:yY (kV k) u):(xS P w).is k u=true:=by
 cases k with
 |inl i=>obtain ⟨t,e⟩:=(show ∃ t,u=Value.int i t from r);subst e;exact zaT P w i t
 |inr x=>obtain ⟨t,e⟩:=(show ∃ t,u=Value.str x t from r);subst e;exact zaS P w x t
theorem bM {P:Program} {w:World}:∀ {ks:List xV} {us:List Value},yT (ks.map kV) us->ItemsAre (xS P w) ks us
 | [],_,r=>by rw [zzV] at r;cases r;exact .nil
 |k::ks,_,r=>by
  rw [zzU] at r
  cases r with
  |cons h t=>exact .cons (fC h) (bM t)
abbrev KT (H:Hp):List (List xV×V)->List (List xV×Addr×Value)->Prop:=Paired fun p q=>p.1=q.1/\H q.2.1=some (.tup (p.1.map kV))/\yY p.2 q.2.2
theorem KT.val {H:Hp} {kvs:List (List xV×V)} {xs:List (List xV×Addr×Value)} (r:KT H kvs xs) (k:List xV):rK (kE kvs k) ((atKey xs k).map (·.2)):=by
 induction r with
 |nil=>exact True.intro
 | @cons p q ps qs h t ih =>
  obtain ⟨h1,_,h2⟩:=h
  by_cases e:p.1=k
  .have e':q.1=k:=h1.symm.trans e;have b:atKey (q::qs) k=some q.2:=by simp [atKey,List.find?_cons,e']
   rw [gU e,b];exact h2
  .have e':¬ q.1=k:=fun z=>e (h1.trans z);have b:atKey (q::qs) k=atKey qs k:=by simp [atKey,List.find?_cons,e']
   rw [gT e,b];exact ih
theorem KT.repl {H:Hp} {kvs:List (List xV×V)} {xs:List (List xV×Addr×Value)} (r:KT H kvs xs) (k:List xV) {y:V} {u:Value} (ry:yY y u) :
  KT H (kvs.map fun kv=>if kv.1=k then (kv.1,y) else kv) (xs.map (putAt k u)):=by
 induction r with
 |nil=>exact .nil
 | @cons p q ps qs h t ih =>
  rw [zzU,zzU];refine .cons ?_ ih;obtain ⟨h1,h2,h3⟩:=h;unfold putAt
  by_cases e:p.1=k
  .rw [if_pos e,if_pos (h1.symm.trans e)];exact ⟨h1,h2,ry⟩
  .rw [if_neg e,if_neg (fun z=>e (h1.trans z))];exact ⟨h1,h2,h3⟩
theorem KT.put {H:Hp} {kvs:List (List xV×V)} {xs:List (List xV×Addr×Value)} (r:KT H kvs xs) (k:List xV) {b:Addr} {y:V} {u:Value} (hb:H b=some (.tup (k.map kV))) (ry:yY y u) :
  KT H (uC kvs k y) (storedH xs k b u):=by
 have e:(kvs.any fun kv=>decide (kv.1=k))=(atKey xs k).isSome:=by
  rw [zbe,(r.val k).isSome_eq,Option.isSome_map]
 unfold uC storedH;rw [e]
 by_cases q:(atKey xs k).isSome=true
 .rw [if_pos q,if_pos q];exact r.repl k ry
 .rw [if_neg q,if_neg q];exact Paired.snoc r ⟨rfl,hb,ry⟩
theorem KT.keeps {H H':Hp} {kvs:List (List xV×V)} {xs:List (List xV×Addr×Value)} (r:KT H kvs xs) (ht:∀ b ys,H b=some (.tup ys)->H' b=some (.tup ys)):KT H' kvs xs :=
 Paired.mapP r fun _ _ z=>⟨z.1,ht _ _ z.2.1,z.2.2⟩
section
variable {P : Program} {w : World} {H : Hp} {h : Heap} {a : Addr}
theorem zhM {u:HO} (ok:sN P w H h) (e:Rd H a u):xD P w H h a u:=e.ok ok
theorem mU {kvs:List (xV×V)} (ok:sN P w H h) (e:Rd H a (.dK kvs)):kvs.length<=sizeLine/\(a==sysModules)=false/\∃ vs,KV kvs vs/\h.DictOf (xS P w) a vs :=
 show xD P w H h a (.dK kvs) from zhM ok e
theorem zi3 {kvs:List (xV×V)} (ok:sN P w H h) (e:H a=some (.dK kvs)):kvs.length<=sizeLine/\(a==sysModules)=false/\∃ vs,KV kvs vs/\h.DictOf (xS P w) a vs:=mU ok (.inl e)
theorem nN {ks:List xV} (ok:sN P w H h) (e:H a=some (.tup (ks.map kV))):(tupleKind (xS P w)).is h ks a:=by
 obtain ⟨_,its,r,o,h1,h2,n,h3⟩:=(show xD P w H h a (.tup (ks.map kV)) from ok a _ e);exact ⟨o,its.toArray,n,h1,h2,h3,by simpa using bM r⟩
theorem bB {kvs:List (List xV×V)} (ok:sN P w H h) (e:Rd H a (.dT kvs)):kvs.length<=sizeLine/\(a==sysModules)=false /\
  ∃ xs,KT H kvs xs/\h.DictOfH (tupleKind (xS P w)) a xs:=by
 obtain ⟨z,y,xs,r,o,es,ep,h1,h2,h3,h4,h5⟩:=(show xD P w H h a (.dT kvs) from zhM ok e);refine ⟨z,y,xs,r,o,es,ep,h1,h2,h3,h4,fun x hx=>?_,h5⟩
 have all:∀ {l:List (List xV×V)} {m:List (List xV×Addr×Value)},KT H l m->∀ x∈m,(tupleKind (xS P w)).is h x.1 x.2.1:=by
  intro l m q
  induction q with
  |nil=>intro x hx;exact nomatch hx
  | @cons p q ps qs hq t ih =>
   intro x hx;rcases List.mem_cons.mp hx with e|hx
   .subst e;exact nN ok (by rw [← hq.1];exact hq.2.1)
   .exact ih x hx
 exact all r x hx
theorem dt_of {kvs:List (List xV×V)} (ok:sN P w H h) (e:H a=some (.dT kvs)):kvs.length<=sizeLine/\(a==sysModules)=false /\
  ∃ xs,KT H kvs xs/\h.DictOfH (tupleKind (xS P w)) a xs:=bB ok (.inl e)
end
def DGet (H:Hp) (a:Addr) (y:V) (r:Option V):Prop :=
 (∃ kvs k,Rd H a (.dK kvs)/\y=kV k/\r=kE kvs k)\/∃ kvs k b,Rd H a (.dT kvs)/\y=.ref b/\H b=some (.tup (k.map kV))/\r=kE kvs k
def DPut (H:Hp) (a:Addr) (y v:V) (H':Hp):Prop :=
 (∃ kvs k,H a=some (.dK kvs)/\y=kV k/\kvs.length<sizeLine/\H'=xB H a (.dK (uC kvs k v))) \/
 ∃ kvs k b,H a=some (.dT kvs)/\y=.ref b/\H b=some (.tup (k.map kV))/\kvs.length<sizeLine/\H'=xB H a (.dT (uC kvs k v))
section
variable {X : Cx} {pins : List (Addr × Obj)} {σ : St} {H : Hp} {s : Shared} {a : Addr} {y v : V} {u r : Value} {o : Option V} {A : Around} {E : Value → Shared → Prop}
theorem Inv.big (I:Inv X pins σ H s):sysModules<s.heap.objs.size:=by
 have h:mainGlobals<s.heap.objs.size:=(I.mod.glob.keeps I.bk).lt;exact Nat.lt_trans (by decide) h
theorem zdF {Q:Value->Shared->Prop} (hu:A.units+1<cLine) (I:Inv X pins σ H s) (g:DGet H a y (some v)) (ry:yY y u) (h:∀ w' s',Inv X pins σ H s'->yY v w'->Q w' s') :
  wpAny (model X.prog X.w) A (getItem (.ref a) u) Q E s:=by
 rcases g with ⟨kvs,k,e,ey,l⟩|⟨kvs,k,b,e,ey,eb,l⟩
 .subst ey;obtain ⟨z,hd,vs,rel,dd⟩:=mU I.hok e;obtain ⟨w',hw,rw'⟩:=rK.some_of (v:=v) (o:=valueAt vs k) (by rw [l];exact rel.val k);exact wpAny_getItem_of (fC ry) dd.mapOf hw (h w' _ (I.tok _) rw')
 .subst ey;cases (show u=Value.ref b from ry);obtain ⟨z,hd,xs,rel,dd⟩:=bB I.hok e;obtain ⟨w',hw,rw'⟩:=rK.some_of (v:=v) (o:=(atKey xs k).map (·.2)) (by rw [l];exact rel.val k);obtain ⟨p,hp,hp2⟩:=Option.map_eq_some_iff.mp hw;refine wpAny_getItem_heap (tupleKind_room_in1 hu) (nN I.hok eb) dd hp ?_;rw [hp2];exact h w' _ (I.tok _) rw'
theorem d_in {Q:Value->Shared->Prop} (hu:A.units+1<cLine) (I:Inv X pins σ H s) (g:DGet H a y o) (ry:yY y u) (h:∀ s',Inv X pins σ H s'->Q (.bool o.isSome) s') :
  wpAny (model X.prog X.w) A (compareOp .In u (.ref a)) Q E s:=by
 rcases g with ⟨kvs,k,e,ey,l⟩|⟨kvs,k,b,e,ey,eb,l⟩
 .subst ey;obtain ⟨z,hd,vs,rel,dd⟩:=mU I.hok e;refine wpAny_in_of (fC ry) hd dd.mapOf ?_;rw [← (rel.val k).isSome_eq,← l];exact h _ (I.tok _)
 .subst ey;cases (show u=Value.ref b from ry);obtain ⟨z,hd,xs,rel,dd⟩:=bB I.hok e;refine wpAny_in_heap (tupleKind_room_in1 hu) (nN I.hok eb) hd dd ?_;have q:=(rel.val k).isSome_eq;rw [Option.isSome_map] at q;rw [← q,← l];exact h _ (I.tok _)
theorem zg7 {Q:Value->Shared->Prop} (hu:A.units+1<cLine) (I:Inv X pins σ H s) (g:DGet H a y o) (ry:yY y u) (h:∀ s',Inv X pins σ H s'->Q (.bool (!o.isSome)) s') :
  wpAny (model X.prog X.w) A (compareOp .NotIn u (.ref a)) Q E s:=by
 rcases g with ⟨kvs,k,e,ey,l⟩|⟨kvs,k,b,e,ey,eb,l⟩
 .subst ey;obtain ⟨z,hd,vs,rel,dd⟩:=mU I.hok e;refine wpAny_notIn_of (fC ry) hd dd.mapOf ?_;rw [← (rel.val k).isSome_eq,← l];exact h _ (I.tok _)
 .subst ey;cases (show u=Value.ref b from ry);obtain ⟨z,hd,xs,rel,dd⟩:=bB I.hok e;refine wpAny_notIn_heap (tupleKind_room_in1 hu) (nN I.hok eb) hd dd ?_;have q:=(rel.val k).isSome_eq;rw [Option.isSome_map] at q;rw [← q,← l];exact h _ (I.tok _)
theorem za2 {h':Heap} {t':Nat} {ob:HO} (I:Inv X pins σ H s) (mu:Mut (H a)) (hs:Heap.SameBut a s.heap h') (he:∃ q,h'.get? a=some q) (new:xD X.prog X.w (xB H a ob) h' a ob) :
  Inv X pins σ (xB H a ob) { s with heap:=h',toks:=t' } :=
 I.write (x:=a) (e:=a) mu (.inl rfl) (fun b q hb z=>(hs.2 b hb).trans z) he new
theorem zfF {P:Program} {w:World} {H':Hp} {h':Heap} {kvs:List (xV×V)} {vs:List (xV×Value)} (z:kvs.length<=sizeLine) (hd:(a==sysModules)=false) (rel:KV kvs vs) (dd:h'.DictOf (xS P w) a vs) :
  xD P w H' h' a (.dK kvs):=⟨z,hd,vs,rel,dd⟩
theorem zdE {H':Hp} {Q:Unit->Shared->Prop} (hu:A.units+1<cLine) (I:Inv X pins σ H s) (g:DPut H a y v H') (ry:yY y u) (rv:yY v r) (h:∀ s',Inv X pins σ H' s'->Q () s') :
  wpAny (model X.prog X.w) A (setItem (.ref a) u r) Q E s:=by
 rcases g with ⟨kvs,k,e,ey,l,eH⟩|⟨kvs,k,b,e,ey,eb,l,eH⟩
 .subst ey eH;obtain ⟨z,hd,vs,rel,dd⟩:=zi3 I.hok e;have hz:vs.length<=sizeLine:=by rw [← rel.length];exact z
  have hl:(uC kvs k v).length<=sizeLine:=by have:=tI kvs k v;omega
  refine wpAny_setItem_pairs (hsz:=hz) (fC ry) dd fun h' dd' hs=>h _ ?_;have he:∃ q,h'.get? a=some q:=let ⟨q,_,_,hq,_⟩:=dd';⟨q,hq⟩;exact za2 I (by rw [e];exact True.intro) hs he (zfF hl hd (rel.put k rv) dd')
 .subst ey eH;cases (show u=Value.ref b from ry);obtain ⟨z,hd,xs,rel,dd⟩:=dt_of I.hok e;have hz:xs.length<=sizeLine:=by rw [← Paired.length rel];exact z
  have hl:(uC kvs k v).length<=sizeLine:=by have:=tI kvs k v;omega
  refine wpAny_setItem_heap (hsz:=hz) (tupleKind_room_in1 hu) (nN I.hok eb) dd fun h' dd' hs=>h _ ?_;obtain ⟨q,es,ep,hq,h2,h3,h4,_,h5⟩:=dd';refine za2 I (by rw [e];exact True.intro) hs ⟨q,hq⟩ ⟨hl,hd,_,(rel.put k eb rv).keeps fun c ys ec=>?_,q,es,ep,hq,h2,h3,h4,h5⟩;rw [yW (ne_of ec e (fun z=>nomatch z))];exact ec
end
section
variable {X : Cx} {pins : List (Addr × Obj)} {σ : St} {H : Hp} {s : Shared} {a : Addr} {kvs : List (xV × V)} {k : xV} {u : Value} {A : Around} {E : Value → Shared → Prop}
theorem d_len {Q:Value->Shared->Prop} (I:Inv X pins σ H s) (e:Rd H a (.dK kvs)) (h:∀ t s',Inv X pins σ H s'->Q (.int kvs.length t) s'):wpAny (model X.prog X.w) A (call (.builtin "len") [.ref a]) Q E s:=by
 obtain ⟨z,hd,vs,rel,dd⟩:=mU I.hok e;refine call_len_dict hd dd (by rw [← rel.length];rw [sizeLine_eq] at z;omega) ?_;rw [← rel.length];exact h _ _ (I.tok _)
end
section
variable {X : Cx} {o i e value : Expr} {pos pos' tpos : Pos} {td ty tv : TE}
end
theorem zbL {P:Program} {w:World} {H:Hp} (h:Heap) (hb:sysModules<h.objs.size):xD P w H (h.push { cls:=.type "dict", data:=.dict #[] }) h.objs.size (.dK []) :=
 ⟨Nat.zero_le _,beq_eq_false_iff_ne.mpr (Ne.symm (Nat.ne_of_lt hb)),[],.nil,Heap.DictOf.new h⟩
def zhu:TE:=fun _ H Q=>∀ p,H p=none->Q (.ref p) (xB H p (.dK []))
section
variable {X : Cx} {pos : Pos}
theorem zew:PE X (.Dict [] [] pos) zhu:=fun pins s σ H Q I h =>
 wpAny_Dict_empty ⟨.ref s.heap.objs.size,_,I.laid (a:=s.heap.objs.size) (o:=.dK []) (t':=s.toks) (fun _ _ q=>Heap.get?_push_of_some _ q) (zzR _) (zbL s.heap I.big),rfl,h _ (I.hok.fresh (zzR _))⟩
end
def zbh:List (TE×TE)->St->Hp->(List (V×V)->Hp->Prop)->Prop
 | [],_,H,Q=>Q [] H
 | (tk,tv)::r,σ,H,Q=>tk σ H fun x H1=>tv σ H1 fun y H2=>zbh r σ H2 fun ps H3=>Q ((x,y)::ps) H3
abbrev VV:List (V×V)->List (Value×Value)->Prop:=Paired fun p q=>yY p.1 q.1/\yY p.2 q.2
def PPs (X:Cx) (pos:Pos) (keys:List (Option Expr)) (values:List Expr) (trs:List (TE×TE)):Prop :=
 ∀ (pins:List (Addr×Obj)) (s:Shared) (σ:St) (H:Hp) (Q:List (V×V)->Hp->Prop),Inv X pins σ H s->zbh trs σ H Q ->
  wpAny (model X.prog X.w) X.A (evalPairs (pairTrees keys values X.env pos)) (fun vs s'=>∃ ps H',Inv X pins σ H' s'/\VV ps vs/\Q ps H') X.xe s
theorem zf7 {X:Cx} {pos:Pos}:PPs X pos [] [] []:=fun pins s σ H Q I h=>pairTrees_nil_walk ⟨[],H,I,.nil,h⟩
theorem zer {X:Cx} {pos:Pos} {k v:Expr} {ks:List (Option Expr)} {vs:List Expr} {tk tv:TE} {trs:List (TE×TE)} (hk:PE X k tk) (hv:PE X v tv) (hr:PPs X pos ks vs trs) :
  PPs X pos (some k::ks) (v::vs) ((tk,tv)::trs):=fun pins s σ H Q I h =>
 pairTrees_cons_walk (xT (hk pins s σ H _ I h) fun u s1 ⟨x,H1,I1,rx,q1⟩=>xT (hv pins s1 σ H1 _ I1 q1) fun w2 s2 ⟨y,H2,I2,ry,q2⟩ =>
  xT (hr pins s2 σ H2 _ I2 q2) fun ws s3 ⟨ps,H3,I3,rel,q3⟩=>⟨(x,y)::ps,H3,I3,.cons ⟨rx,ry⟩ rel,q3⟩)
def nV (kvs wR:List (xV×V)):List (xV×V):=wR.foldl (fun acc kv=>uC acc kv.1 kv.2) kvs
theorem KV.merge:∀ {wR:List (xV×V)} {rs:List (xV×Value)} {kvs:List (xV×V)} {vs:List (xV×Value)},KV wR rs->KV kvs vs->KV (nV kvs wR) (merged vs rs):=by
 intro wR rs kvs vs r;unfold KV at r
 induction r generalizing kvs vs with
 |nil=>intro q;exact q
 | @cons p q ps qs h t ih =>
  intro r0
  have e:KV (uC kvs p.1 p.2) (stored vs q.1 q.2):=by
   have:=r0.put p.1 h.2;rw [← h.1];exact this
  exact ih e
theorem sE:∀ (wR kvs:List (xV×V)),(nV kvs wR).length<=kvs.length+wR.length
 | [],kvs=>by show kvs.length<=kvs.length+0;omega
 |p::r,kvs=>by
  have h1:=sE r (uC kvs p.1 p.2);have h2:=tI kvs p.1 p.2;show (nV (uC kvs p.1 p.2) r).length<=_;rw [List.length_cons];omega
theorem dO {P:Program} {w:World}:∀ {kvs:List (xV×V)} {ws:List (Value×Value)},VV (kvs.map fun kv=>(kV kv.1,kv.2)) ws->∃ rs,Carries (xS P w) ws rs/\KV kvs rs
 | [],_,r=>by rw [zzV] at r;cases r;exact ⟨[],True.intro,.nil⟩
 |p::kvs,_,r=>by
  rw [zzU] at r
  cases r with
  | @cons a b as bs h t =>
   obtain ⟨rs,c,q⟩:=dO (P:=P) (w:=w) t;obtain ⟨b1,b2⟩:=b;exact ⟨(p.1,b2)::rs,⟨fC h.1,rfl,c⟩,.cons ⟨rfl,h.2⟩ q⟩
def tDisp (trs:List (TE×TE)):TE:=fun σ H Q=>∀ p,H p=none->zbh trs σ (xB H p (.dK [])) fun ps H2=>H2 p=some (.dK [])/\∃ kvs:List (xV×V),ps=kvs.map (fun kv=>(kV kv.1,kv.2))/\kvs.length<=15/\Q (.ref p) (xB H2 p (.dK (nV [] kvs)))
theorem zgc {X:Cx} {pos:Pos} {keys:List (Option Expr)} {values:List Expr} {trs:List (TE×TE)} (h:PPs X pos keys values trs) (hall:keys.all (·.isSome)=true) (hl:keys.length=values.length) (h0:keys≠[])
  (h15:keys.length<=15):PE X (.Dict keys values pos) (tDisp trs):=by
 intro pins s σ H Q I q;have hn:=I.hok.fresh (zzR s.heap.objs.size);have I1:=I.laid (a:=s.heap.objs.size) (o:=.dK []) (h':=s.heap.push { cls:=.type "dict", data:=.dict #[] }) (t':=s.toks) (fun _ _ q=>Heap.get?_push_of_some _ q) (zzR _) (zbL s.heap I.big);refine wpAny_Dict_walk (knd:=xS X.prog X.w) hall hl h0 h15 (xT (h pins _ σ _ _ I1 (q _ hn)) fun ws s2 ⟨ps,H2,I2,rel,e,kvs,ep,lk,q2⟩=>?_);subst ep;obtain ⟨rs,c,rk⟩:=dO (P:=X.prog) (w:=X.w) rel;obtain ⟨z,hd,vs0,r0,dd⟩:=zi3 I2.hok e;cases r0;refine ⟨rs,c,dd,fun h' dd' hs=>⟨.ref s.heap.objs.size,_,?_,rfl,q2⟩⟩
 have hz:(nV [] kvs).length<=sizeLine:=by
  have h1:=sE kvs [];rw [List.length_nil] at h1;rw [sizeLine_eq];omega
 have he:∃ q,h'.get? s.heap.objs.size=some q:=let ⟨q,_,_,hq,_⟩:=dd';⟨q,hq⟩;exact za2 I2 (by rw [e];exact True.intro) hs he (zfF hz hd (rk.merge .nil) dd')
def IsD (H:Hp) (a:Addr):Prop:=(∃ kvs,Rd H a (.dK kvs))\/∃ kvs,Rd H a (.dT kvs)
theorem ziT {X:Cx} {pins:List (Addr×Obj)} {σ:St} {H:Hp} {s:Shared} {a:Addr} (I:Inv X pins σ H s) (d:IsD H a) :
  s.TypeIs (.ref a) "dict" /\ (∀ b,Value.ref a=.ref b->∃ ob,s.heap.get? b=some ob/\ob.dict=none)/\(a==sysModules)=false:=by
 rcases d with ⟨kvs,e⟩|⟨kvs,e⟩
 .obtain ⟨_,hd,vs,_,dd⟩:=mU I.hok e;refine ⟨dd.typeIs,fun b q=>?_,hd⟩;cases q;obtain ⟨ob,_,_,h1,h2,_⟩:=dd;exact ⟨ob,h1,h2.2.1⟩
 .obtain ⟨_,hd,xs,_,dd⟩:=bB I.hok e;refine ⟨dd.typeIs,fun b q=>?_,hd⟩;cases q;obtain ⟨ob,_,_,h1,h2,_⟩:=dd;exact ⟨ob,h1,h2.2.1⟩
section
variable {X : Cx} {pins : List (Addr × Obj)} {σ : St} {H : Hp} {s : Shared} {a : Addr} {y d : V} {u r : Value} {o : Option V} {A : Around} {E : Value → Shared → Prop}
theorem zi6 {Q:Value->Shared->Prop} (hu:A.units+1<cLine) (I:Inv X pins σ H s) (g:DGet H a y o) (ry:yY y u) (rd:yY d r) (h:∀ w' s',Inv X pins σ H s'->yY (o.getD d) w'->Q w' s') :
  wpAny (model X.prog X.w) A (call (.builtin "dict.get") [.ref a,u,r]) Q E s:=by
 rcases g with ⟨kvs,k,e,ey,l⟩|⟨kvs,k,b,e,ey,eb,l⟩
 .subst ey;obtain ⟨z,hd,vs,rel,dd⟩:=mU I.hok e;refine call_meetsIn PySem.F.slot_dict_get dd.typeIs PySem.F.entry_dict_get (PySem.F.args_dict_get_3 _ _ _) (meets_dict_get_default (xS X.prog X.w) a (fC ry) hd r) ⟨_,dd.mapOf,h _ _ (I.tok _) ?_⟩;rw [l];exact (rel.val k).getD rd
 .subst ey;cases (show u=Value.ref b from ry);obtain ⟨z,hd,xs,rel,dd⟩:=bB I.hok e;refine call_meetsIn PySem.F.slot_dict_get dd.typeIs PySem.F.entry_dict_get (PySem.F.args_dict_get_3 _ _ _) (meetsH_dict_get_default (tupleKind (xS X.prog X.w)) a b hd r) ⟨tupleKind_room_in1 hu,k,xs,nN I.hok eb,dd,h _ _ (I.tok _) ?_⟩;rw [l];exact (rel.val k).getD rd
end
section
variable {X : Cx} {o e f : Expr} {apos cpos : Pos} {td ty tx : TE}
end
section
variable {X : Cx} {pins : List (Addr × Obj)} {σ : St} {H : Hp} {s : Shared} {a : Addr} {kvs : List (xV × V)} {A : Around} {E : Value → Shared → Prop}
end
section
variable {X : Cx} {pins : List (Addr × Obj)} {σ : St} {H : Hp} {s : Shared} {a : Addr} {y : V} {u : Value} {A : Around} {E : Value → Shared → Prop}
end
end L2
namespace Att
open PySem PySem.W PySem.Calls PyProof.Rows
theorem mJ {P:Params} {h:Heap}:∀ (ns:List Int) (vs:List Value),WellAll P h vs (ns.map WData.int)->IntsAre vs ns:=by
 intro ns
 induction ns with
 |nil =>
  intro vs w;rw [zzV] at w;cases w;exact .nil
 |cons n ns ih =>
  intro vs w;rw [zzU] at w
  cases w with
  |cons a b =>
   cases a;exact .cons _ _ (ih _ b)
theorem zcH {l:OpenLaw} {n:Nat} (hn:l.most=some n) {P:Params} {h:Heap} {args:List WData} {vals:List Value}
  (hpre:l.row.toRowW.claim.pre args=true) (hwl:WellAll P h vals args) :
  ∃ a vs ns,vals=[Value.ref a]/\args=[WData.list (ns.map WData.int)]/\h.get? a=some { cls:=.type "list", data:=.seq vs.toArray }/\IntsAre vs ns/\ns.length<=n:=by
 have hsh:WShape.hasAll [] args [.list .int]=true:=(pre_splitW hpre).1;have hc:l.pre.holds [] { args:=args }=true:=(pre_splitW hpre).2;obtain ⟨d,r,rfl,h1,h2⟩:=hasAllW_cons hsh;obtain rfl:=hasAllW_nil h2;obtain ⟨xs,rfl,h3⟩:=hasW_list h1;obtain ⟨ns,rfl⟩:=items_int h3
 have hlen:ns.length<=n:=by
  unfold OpenLaw.pre at hc
  have h4:(WTm.not (.lt (.lit (.int (n:Int))) (.len (.arg 0)))).holds [] { args:=[.list (ns.map .int)] }=true:=by
   have h4:=(holds_andW hc).1;rw [hn] at h4;exact h4
  have h5:=condW_of h4 (w_not (w_lt w_lit (w_len_list (w_arg rfl))));rw [zzM] at h5;refine Nat.le_of_not_lt fun q=>?_;have q':(n:Int)<((ns.length:Nat):Int):=by omega
  first
   | (rw [decide_eq_true q'] at h5;exact absurd h5 (by decide))
   | (simp at h5;omega)
 cases hwl with
 |cons w1 w2 =>
  cases w2
  cases w1 with
  |list ho hall=>exact ⟨_,_,ns,rfl,rfl,ho,mJ ns _ hall,hlen⟩
theorem zcR (l:OpenLaw) (args:List WData):l.row.toRowW.claim.post args (.bool true) args=true :=
 postW_of (r:=l.row.toRowW) (X:=(true==true))
  (show WShape.has [] (.bool true) .bool=true by first|rfl|decide|simp [WShape.has,WShape.arms,WShape.armsAll])
  (show (WTm.eq .res (.lit (.bool true))).value [] { args:=args,res:=some (.bool true),after:=args }=some (.bool (true==true)) from w_eq_bool (w_res rfl) w_lit) rfl
theorem attach_call {l:OpenLaw} {n:Nat} {q:Program} {loose:List Str} {XP:(Str->Option Value)->Heap->Prop} {YP:World->Heap->Prop} {d:DefRec}
  (hn:l.most=some n) (hdf:d.params.defaults=[])
  (call:∀ (w:World) (s₀ s₁:Shared) (mg mb:Str->Option Value) (fa:Addr) (o:Obj) (pm cd doc:Value) (a:Addr) (vs:List Value) (ns:List Int),
   Ground q loose [] XP w s₀ mg mb s₁.heap->YP w s₁.heap ->
   s₁.heap.get? fa=some o->o.data=.func (docDef d.name d.params d.body d.scope pm cd doc)->s₁.heap.CodeRec cd d.name->mg d.name=some (.ref fa) ->
   s₁.heap.get? a=some { cls:=.type "list", data:=.seq vs.toArray }->IntsAre vs ns->ns.length<=n->s₁.gens=#[] ->
   codeAny (model l.prog w) callerA (.call (.ref fa) ⟨[.ref a],[]⟩) (fun r s'=>r=.ok (.ret (.bool true))/\OldK s₁.heap s'.heap/\s'.os=s₁.os/\AllBare s'.gens) s₁) :
  WalkO q loose XP YP l.row.toRowW d [] (fun f vs=>PySem.call f vs):=by
 intro w s₀ s₁ mg mb G Y fa o pm cd doc dV kV ho hd hcd hD hmg hg args vals as hpre hlay hrd hwl hlo;obtain rfl:dV=.none:=Dflts.none hD hdf;obtain rfl:kV=.none:=Dflts.noKw hD;obtain ⟨a,vs,ns,rfl,rfl,hobj,hints,hlen⟩:=zcH hn hpre hwl;refine enter_call (codeAny_mono (call w s₀ s₁ mg mb fa o pm cd doc a vs ns G Y ho (fd_plain hd) hcd hmg hobj hints hlen hg) fun r s' hq=>?_);obtain ⟨rfl,h2,h3,h4⟩:=hq;exact ⟨.inl ⟨.bool true,.bool true,[],rfl,fun _=>rfl,.bool true,zcR l _,fun _=>⟨List.Pairwise.nil,fun _ hm=>(nomatch hm)⟩⟩,h2,h3,h4⟩
section
variable {prog : Program} {w : World} {A : Around} {E : Value → Shared → Prop} {s : Shared} {K : Frag}
end
end Att
namespace L2
open PySem PySem.Spec PyProof.Rows
theorem sY:∀ {vs:List Value} {ns:List Int},IntsAre vs ns->yT (ns.map V.int) vs
 |_,_,.nil=>.nil
 |_,_,.cons n t h=>.cons ⟨t,rfl⟩ (sY h)
def Only (H:Hp):Prop:=∀ b,H b=none\/∃ o xs,H b=some (.frz o (.lst xs))
theorem zeI {P:Program} {w:World} {K:PySem.W.Frag} {mg mb:Str->Option Value} {CX:CXT} {k:Nat} {fa a:Addr} {fd:FuncData} {x:Str} {sp:Sp} {s₁:Shared} {vs:List Value} {ns:List Int}
  (KX:K.In s₁.heap) (hns:s₁.heap.Ns mainGlobals mg) (hb:s₁.heap.Ns builtinsNs mb) (hbb:∀ x:Str,x ≠ "__name__" -> mb x=bootBuiltins x) (hlim:s₁.heap.NoLimit) (hg:s₁.gens=#[])
  (ha:s₁.heap.get? a=some { cls:=.type "list", data:=.seq vs.toArray }) (hi:IntsAre vs ns) (hl:ns.length<=sizeLine) (hr:Room k callerA)
  (F:∀ base:Heap,K.In base->base.Ns mainGlobals mg->FnOk P w K mg base CX k fa fd [x] sp) (hbind:∀ (s:Shared) (u:Value),BindsTo s fd ⟨[u],[]⟩ [(x,u)])
  (hsp:∀ H:Hp,Only H->mR K H a (ns.map V.int)->sp [.ref a] H (fun v _=>v=.bl true) fun _ _ _=>False)
  (hCX:∀ H e s',CX [] H s₁ (fun _ _ _=>False) e s'->False) :
  codeAny (model P w) callerA (.call (.ref fa) ⟨[.ref a],[]⟩) (fun r s'=>r=.ok (.ret (.bool true))/\OldK s₁.heap s'.heap/\s'.os=s₁.os/\AllBare s'.gens) s₁:=by
 have rv:=sY hi;have mL:=hi.length
 have core:∀ H:Hp,Only H->mR K H a (ns.map V.int)->sN P w H s₁.heap->(∀ b,H b≠none->b=a)->(H a≠none->K.lookup a=none) ->
   codeAny (model P w) callerA (.call (.ref fa) ⟨[.ref a],[]⟩) (fun r s'=>r=.ok (.ret (.bool true))/\OldK s₁.heap s'.heap/\s'.os=s₁.os/\AllBare s'.gens) s₁:=by
  intro H hO hS hok hA hK;have base_of:∀ {b:Addr} {o:Obj},s₁.heap.get? b=some o->H b=none->(hidT s₁.heap H).get? b=some o:=fun e n=>zeV e n
  have noA:∀ {b:Addr} {o:Obj} {es:Array DictEntry} {ep:Nat},s₁.heap.get? b=some o->o.data=.dict es ep->H b=none:=fun {b o es ep} e d=>by
   cases q:H b with
   |none=>rfl
   |some u =>
    have e':b=a:=hA b (by rw [q];simp);subst e';rw [ha] at e;cases e;have d':Data.seq vs.toArray _=Data.dict es ep:=d;cases d'
  have nsK:∀ {b:Addr} {m:Str->Option Value},s₁.heap.Ns b m->(hidT s₁.heap H).Ns b m:=fun {b m} ⟨o,es,ep,e,d,r⟩=>⟨o,es,ep,base_of e (noA e d),d,r⟩
  have hKb:K.In (hidT s₁.heap H):=fun b o e=>base_of (KX b o e) (by
   cases q:H b with
   |none=>rfl
   |some u =>
    have e':b=a:=hA b (by rw [q];simp);subst e';rw [hK (by rw [q];simp)] at e;cases e)
  have hM:Mod K mg (hidT s₁.heap H):=⟨hKb,nsK hns,⟨mb,nsK hb,hbb⟩,let ⟨mc,h1,h2⟩:=hlim;⟨mc,nsK h1,h2⟩⟩;have e0:Env0 P w K mg (hidT s₁.heap H) callerA [] s₁ H:=⟨rfl,hM,fun b o e=>zgm e,Nat.le_of_eq (zdo _ _),trivial,fun b hb=>absurd (show b∈([]:List Addr) from hb) (by simp),hok,.of_eq hg⟩;refine codeAny_mono ((F _ hKb (nsK hns)).run callerA [] s₁ H ⟨[.ref a],[]⟩ [.ref a] [.ref a] _ _ hr e0 (hbind s₁ (.ref a)) (.cons rfl .nil) (hsp H hO hS)) fun r s' h=>?_
  cases r with
  |error e=>exact (hCX H e s' h).elim
  |ok fl =>
   cases fl with
   |next=>exact False.elim h
   |brk=>exact False.elim h
   |cont=>exact False.elim h
   |ret u =>
    obtain ⟨v,H',os,bare,un,hok',r',q⟩:=h;have q':v=.bl true:=q;subst q';obtain rfl:u=Value.bool true:=r';refine ⟨rfl,OldK.of_keep fun b o e=>?_,os,bare⟩
    cases q:H b with
    |none=>exact un.keep b o e q (by intro z;exact absurd (show b∈([]:List Addr) from z) (by simp)) (by simp)
    |some u =>
     rcases hO b with z|⟨ob,xs,z⟩
     .rw [q] at z;cases z
     .have z2:=un.frzs b ob _ z;obtain ⟨e1,_⟩:=hok b _ z;obtain ⟨e2,_⟩:=hok' b _ z2;rw [e] at e1;cases e1;exact e2
 cases hk:K.lookup a with
 |some o =>
  have e:=KX a o hk;rw [ha] at e;cases e;refine core (fun _=>none) (fun _=>.inl rfl) (.inr ⟨_,vs.toArray,_,hk,rfl,rfl,rfl,by rw [zzS,mL];exact hl,by simpa using rv⟩) (fun b u z=>by have z':(none:Option HO)=some u:=z;cases z') (fun b z=>absurd rfl z) fun z=>absurd rfl z
 |none =>
  refine core (fun b=>if b=a then some (.frz { cls:=.type "list", data:=.seq vs.toArray } (.lst (ns.map V.int))) else none) (fun b=>?_) (.inl (.inr ⟨{ cls:=.type "list", data:=.seq vs.toArray },if_pos rfl⟩)) (fun b u z=>?_) (fun b z=>?_) fun _=>hk
  .by_cases hb:b=a
   .exact .inr ⟨_,_,if_pos hb⟩
   .exact .inl (if_neg hb)
  .by_cases hb:b=a
   .have z':=(if_pos hb).symm.trans z;cases z';subst hb;exact ⟨ha,by rw [zzM];exact hl,vs,_,rv,ha⟩
   .have z':=(if_neg hb).symm.trans z;cases z'
  .by_cases hb:b=a
   .exact hb
   .exact absurd (if_neg hb) z
end L2
namespace L2
open PySem PySem.Spec PyProof.Rows
abbrev KOf {K:PySem.W.Frag} {h:Heap} (_:K.In h):PySem.W.Frag:=K
theorem walk_of {l:PySem.W.OpenLaw} {n k:Nat} {q:Program} {loose:List Str} {XP:(Str->Option Value)->Heap->Prop} {YP:World->Heap->Prop} {d:DefRec} {K:Params->PySem.W.Frag} {CX:World->CXT} {sp:World->Sp} {x:Str}
  (hn:l.most=some n) (hn2:n<=sizeLine) (hdf:d.params.defaults=[]) (hr:Room k callerA)
  (hY:∀ (w:World) (h:Heap),YP w h->(K w.params).In h)
  (F:∀ (w:World) (mg:Str->Option Value) (fa:Addr) (h:Heap),(K w.params).In h->h.Ns mainGlobals mg->mg d.name=some (.ref fa) ->
   ∃ fd:FuncData,(∀ (s:Shared) (u:Value),BindsTo s fd ⟨[u],[]⟩ [(x,u)]) /\
    ∀ base:Heap,(K w.params).In base->base.Ns mainGlobals mg->FnOk l.prog w (K w.params) mg base (CX w) k fa fd [x] (sp w))
  (hsp:∀ (w:World) (H:Hp) (a:Addr) (ns:List Int),ns.length<=n->Only H->mR (K w.params) H a (ns.map V.int)->sp w [.ref a] H (fun v _=>v=.bl true) fun _ _ _=>False)
  (hCX:∀ (w:World) (H:Hp) (s:Shared) (e:Value) (s':Shared),CX w [] H s (fun _ _ _=>False) e s'->False) :
  PySem.W.WalkO q loose XP YP l.row.toRowW d [] (fun f vs=>PySem.call f vs):=by
 refine Att.attach_call hn hdf fun w s₀ s₁ mg mb fa o pm cd doc a vs ns G Y ho hd hcd hmg hobj hints hlen hg=>?_;have KX:=hY w _ Y;obtain ⟨fd,hb,hF⟩:=F w mg fa _ KX G.T.g hmg;exact zeI KX G.T.g G.T.b G.T.builtins G.T.nolimit hg hobj hints (Nat.le_trans hlen hn2) hr hF hb (fun H hO hS=>hsp w H a ns hlen hO hS) fun H e s'=>hCX w H s₁ e s'
end L2
/- THE LAST THEOREM (shape;LID,My.* are yours):
   My.Adr: a structure of the addresses that your layer names (classes,functions);My.Txt K t: a structure (Prop) of the equations over K;
   My.txt_mk:{K} {implicit addresses ..} (e1:nsIn K mainGlobals "law" = some (some (.ref f))) (e2:K.lookup f=some ⟨oc,od,.func (fnOf "law" "law" params body scope dV kV doc pm an cdv ct),sl⟩) (e3:codeIn K cdv "law" = true) ..:∃ t,My.Txt K t
set_option maxRecDepth 100000 in
set_option maxHeartbeats 0 in
theorem PySem.Challenge.cw_LID_holds : PySem.Challenge.rw_LID.Holds := by
 w_on;o_law;k_head;(case hw=>w_witness2)
 k_fill
 refine L2.walk_of (l:=PySem.Challenge.rw_LID) (n:=63) (k:=40) (x := "script") (CX:=fun w=>..) (sp:=fun _=>My.sp_law) rfl (by decide) rfl ⟨rfl,by decide,by decide⟩ (fun w h Y=>PySem.W.kIn_of Y) ?F ?S ?C
 case F =>
  intro w mg fa h KX G hmg
  have T:∃ t,My.Txt (L2.KOf KX) t:=by
   dsimp only [L2.KOf]                          -- K must stand as «<heap const> w.params» for k_is;refine' My.txt_mk ?e1 ?e2 ?e3 ..
   (case e1=>PySem.W.k_is)                    -- in the order: a name -> its address -> its object -> its parts
   (case e2=>PySem.W.k_is)
   ..
  obtain ⟨t,T⟩:=T;have e0:=hmg.symm.trans (PySem.W.mg_of KX G T.law);cases e0                                       -- fa is the law's own address;exact ⟨_,fun s u=>.of_eq rfl,fun base kb nb=>My.law_fn T kb nb⟩     -- if «.of_eq rfl» comes too early: refine' ⟨_,?b,fun base kb nb=>My.law_fn T kb nb⟩;exact fun s u=>.of_eq rfl
 case S=>exact fun w H a ns hl hO hS=>..
 case C=>exact ..
(the tactic k_is has no namespace: write k_is) -/
namespace L2
open PySem PySem.Spec PyProof.Rows
def yX (s:Stmt):Arguments:=match s with
 | .FunctionDef _ a _ _ _ _ _ _ _ _=>a
 |_=>{ posonlyargs:=[],args:=[],vararg:=none,kwonlyargs:=[],kw_defaults:=[],kwarg:=none,defaults:=[] }
def zI (s:Stmt):List Stmt:=match s with
 | .FunctionDef _ _ b _ _ _ _ _ _ _=>b
 |_=>[]
def zY (s:Stmt):Scope:=match s with
 | .FunctionDef _ _ _ _ _ _ sc _ _ _=>sc
 |_=>{ kind:=.function,names:=[],isGenerator:=false,isCoroutine:=false }
abbrev CX0:CXT:=fun _ _ _ _ _ _=>False
abbrev E0:XK:=fun _ _ _=>False
theorem zib {X:Cx}:zbS CX0 X E0:=fun _ _ _ _ _ _ _ h=>h.elim
section
variable {P : Program} {w : World} {K : PySem.W.Frag} {mg : Str → Option Value} {base : Heap}
end
section
variable {X : Cx}
end
section
variable {κ : Type} [DecidableEq κ]
end
end L2
namespace L3
open PySem PySem.Spec PyProof.Rows L2
inductive W where
 |non|bl (b:Bool)|int (i:Int)|str (x:Str)|ty (n:String)|ref (a:Addr)|tup (ws:List W)|lsf (ws:List W)
  |exc (C:Addr) (ns:List Str) (ws:List W)|dcf (ks:List Str) (ws:List W)
abbrev yG:=PySem.W.Frag
def KL (K:yG) (a:Addr) (xs:List V):Prop:=∃ (o:Obj) (its:Array Value) (n:Nat),K.lookup a=some o/\o.cls=.type "list" /\ o.dict=none/\o.data=.seq its n/\its.size<=sizeLine/\yT xs its.toList
def zhh:List DictEntry->List Str->List V->Prop
 | [],ks,vs=>ks=[]/\vs=[]
 |e::r,ks,vs=>∃ k t v ks' vs',ks=k::ks'/\vs=v::vs'/\e.key=.str k t/\yY v e.val/\zhh r ks' vs'
def KD (K:yG) (a:Addr) (ks:List Str) (vs:List V):Prop:=∃ (o:Obj) (es:Array DictEntry) (ep:Nat),K.lookup a=some o/\o.ExactDict/\o.data=.dict es ep/\es.size<=sizeLine/\(a==sysModules)=false/\zhh es.toList ks vs
def ExO (a C:Addr) (dx:Option Addr):Heap->Prop:=fun h=>∃ fs,h.get? a=some { cls:=.ref C,dict:=dx,data:=.fields fs }
def ExAt (H:Hp) (a C:Addr) (l:List (Str×V)):Prop:=(H a=some (.ext (ExO a C none))/\l=[])\/∃ dx,H a=some (.ext (ExO a C (some dx)))/\H dx=some (.xd l)
def isX:HO->Prop
 | .ext _=>True
 | .frz _ (.dK _)=>True
 | .xd _=>True
 |_=>False
mutual
def wQ (K:yG) (H:Hp):W->V->Prop
 | .non,v=>v=.non
 | .bl b,v=>v=.bl b
 | .int i,v=>v=.int i
 | .str x,v=>v=.str x
 | .ty n,v=>v=.ty n
 | .ref a,v=>v=.ref a
 | .tup ws,v=>∃ a vs,v=.ref a/\pF K H a vs/\zC K H ws vs
 | .lsf ws,v=>∃ a vs,v=.ref a/\KL K a vs/\zC K H ws vs
 | .exc C ns ws,v=>∃ a vs,v=.ref a/\ExAt H a C (ns.zip vs)/\zC K H ws vs
 | .dcf ks ws,v=>∃ a vs,v=.ref a/\KD K a ks vs/\zC K H ws vs
def zC (K:yG) (H:Hp):List W->List V->Prop
 | [],vs=>vs=[]
 |w::ws,vs=>∃ v r,vs=v::r/\wQ K H w v/\zC K H ws r
end
def xZ (K:yG) (H H':Hp):Prop:=(∀ a xs,pF K H a xs->pF K H' a xs)/\∀ a o,isX o->H a=some o->H' a=some o
theorem xZ.refl {K:yG} {H:Hp}:xZ K H H:=⟨fun _ _ h=>h,fun _ _ _ h=>h⟩
theorem xZ.trans {K:yG} {H H1 H2:Hp} (a:xZ K H H1) (b:xZ K H1 H2):xZ K H H2:=⟨fun x xs h=>b.1 x xs (a.1 x xs h),fun x o i h=>b.2 x o i (a.2 x o i h)⟩
theorem ExAt.mono {K:yG} {H H':Hp} (g:xZ K H H') {a C:Addr} {l:List (Str×V)} (h:ExAt H a C l):ExAt H' a C l:=by
 rcases h with ⟨h,e⟩|⟨dx,h,h'⟩
 .exact .inl ⟨g.2 _ _ True.intro h,e⟩
 .exact .inr ⟨dx,g.2 _ _ True.intro h,g.2 _ _ True.intro h'⟩
section
variable {K : yG} {H H' : Hp}
mutual
theorem wQ.mono (g:xZ K H H'):∀ {w:W} {v:V},wQ K H w v->wQ K H' w v
 | .non,_,h=>h
 | .bl _,_,h=>h
 | .int _,_,h=>h
 | .str _,_,h=>h
 | .ty _,_,h=>h
 | .ref _,_,h=>h
 | .tup _,_,⟨a,vs,e,s,r⟩=>⟨a,vs,e,g.1 a vs s,zC.mono g r⟩
 | .lsf _,_,⟨a,vs,e,s,r⟩=>⟨a,vs,e,s,zC.mono g r⟩
 | .exc _ _ _,_,⟨a,vs,e,s,r⟩=>⟨a,vs,e,s.mono g,zC.mono g r⟩
 | .dcf _ _,_,⟨a,vs,e,s,r⟩=>⟨a,vs,e,s,zC.mono g r⟩
theorem zC.mono (g:xZ K H H'):∀ {ws:List W} {vs:List V},zC K H ws vs->zC K H' ws vs
 | [],_,h=>h
 |_::_,_,⟨v,r,e,h,t⟩=>⟨v,r,e,wQ.mono g h,zC.mono g t⟩
end
theorem zC.length:∀ {ws:List W} {vs:List V},zC K H ws vs->vs.length=ws.length
 | [],_,h=>by rw [show _=[] from h];rfl
 |_::_,_,⟨v,r,e,_,t⟩=>by rw [e,List.length_cons,List.length_cons,zC.length t]
theorem zC.append:∀ {ws:List W} {vs:List V} {ws':List W} {vs':List V},zC K H ws vs->zC K H ws' vs'->zC K H (ws++ws') (vs++vs')
 | [],_,_,_,h,h'=>by rw [show _=[] from h];exact h'
 |_::_,_,_,_,⟨v,r,e,h,t⟩,h'=>by rw [e];exact ⟨v,_,rfl,h,zC.append t h'⟩
theorem zC.get:∀ {ws:List W} {vs:List V} {i:Nat} {w:W},zC K H ws vs->ws[i]?=some w->∃ v,vs[i]?=some v/\wQ K H w v
 | [],_,_,_,_,e=>by simp at e
 |_::_,_,0,_,⟨v,r,e,h,t⟩,q=>by simp at q;subst q;subst e;exact ⟨v,rfl,h⟩
 |_::_,_,i+1,w,⟨v,r,e,h,t⟩,q=>by
  subst e;obtain ⟨u,h1,h2⟩:=zC.get (i:=i) (w:=w) t (by simpa using q);exact ⟨u,by simpa using h1,h2⟩
theorem zC.get':∀ {ws:List W} {vs:List V} {i:Nat} {v:V},zC K H ws vs->vs[i]?=some v->∃ w,ws[i]?=some w/\wQ K H w v
 | [],_,_,_,h,e=>by rw [show _=[] from h] at e;simp at e
 |_::_,_,0,_,⟨v,r,e,h,t⟩,q=>by subst e;simp at q;subst q;exact ⟨_,rfl,h⟩
 |_::_,_,i+1,w,⟨v,r,e,h,t⟩,q=>by
  subst e;obtain ⟨u,h1,h2⟩:=zC.get' (i:=i) (v:=w) t (by simpa using q);exact ⟨u,by simpa using h1,h2⟩
theorem zC.set {w:W} {v:V} (q:wQ K H w v):∀ {ws:List W} {vs:List V} (i:Nat),zC K H ws vs->zC K H (ws.set i w) (vs.set i v)
 | [],_,_,h=>by rw [show _=[] from h];rfl
 |_::_,_,0,⟨_,r,e,_,t⟩=>by rw [e];exact ⟨_,_,rfl,q,t⟩
 |_::_,_,i+1,⟨v,r,e,h,t⟩=>by rw [e];exact ⟨_,_,rfl,h,zC.set q i t⟩
theorem zC.take:∀ {ws:List W} {vs:List V} (n:Nat),zC K H ws vs->zC K H (ws.take n) (vs.take n)
 | [],_,_,h=>by rw [show _=[] from h];simp;rfl
 |_::_,_,0,_=>by simp;rfl
 |_::_,_,n+1,⟨v,r,e,h,t⟩=>by rw [e];exact ⟨_,_,rfl,h,zC.take n t⟩
theorem zC.drop:∀ {ws:List W} {vs:List V} (n:Nat),zC K H ws vs->zC K H (ws.drop n) (vs.drop n)
 | [],_,_,h=>by rw [show _=[] from h];simp;rfl
 |_::_,_,0,h=>h
 |_::_,_,n+1,⟨v,r,e,h,t⟩=>by rw [e];exact zC.drop n t
theorem zC.reverse:∀ {ws:List W} {vs:List V},zC K H ws vs->zC K H ws.reverse vs.reverse
 | [],_,h=>by rw [show _=[] from h];rfl
 |_::_,_,⟨v,r,e,h,t⟩=>by
  rw [e,List.reverse_cons,List.reverse_cons];exact zC.append (zC.reverse t) ⟨v,[],rfl,h,rfl⟩
theorem zC.dropLast {ws:List W} {vs:List V} (h:zC K H ws vs):zC K H ws.dropLast vs.dropLast:=by
 rw [List.dropLast_eq_take,List.dropLast_eq_take,h.length];exact h.take _
end
inductive O where
 |lst (ws:List W)
  |fix (ws:List W)
 |dic (kvs:List (xV×W))
 |ins (C:Addr) (fs:List (Str×W))
  |fzd (kvs:List (xV×W))
def isFz:O->Bool
 | .fzd _=>true
 |_=>false
abbrev Hw:=Addr->Option O
def put (G:Hw) (a:Addr) (o:O):Hw:=fun b=>if b=a then some o else G b
theorem zV {G:Hw} {a:Addr} {o:O}:put G a o a=some o:=by unfold put;rw [if_pos rfl]
theorem wJ {G:Hw} {a b:Addr} {o:O} (h:b≠a):put G a o b=G b:=by unfold put;rw [if_neg h]
theorem bI {G:Hw} {a b:Addr} {o:O} (h:G a=some o) (h':G b=none):a≠b:=by
 intro e;subst e;rw [h] at h';cases h'
def yN (K:yG) (H:Hp) {κ:Type}:List (κ×W)->List (κ×V)->Prop
 | [],l=>l=[]
 |p::r,l=>∃ v t,l=(p.1,v)::t/\wQ K H p.2 v/\yN K H r t
def cM (K:yG) (H:Hp):O->HO->Prop
 | .lst ws,o=>∃ vs,o=.lst vs/\zC K H ws vs
 | .fix ws,o=>∃ vs ob,(o=.lst vs\/o=.frz ob (.lst vs))/\zC K H ws vs
 | .dic kvs,o=>∃ l,o=.dK l/\yN K H kvs l
 | .ins C fs,o=>∃ dx l,o=.ins C dx l/\yN K H fs l
 | .fzd kvs,o=>∃ ob l,o=.frz ob (.dK l)/\yN K H kvs l
def xC (K:yG) (H:Hp) (G:Hw):Prop:=∀ a o,G a=some o->∃ u,H a=some u/\cM K H o u
theorem yN.mono {K:yG} {H H':Hp} (g:xZ K H H') {κ:Type}:∀ {l:List (κ×W)} {l':List (κ×V)},yN K H l l'->yN K H' l l'
 | [],_,h=>h
 |_::_,_,⟨v,t,e,h,r⟩=>⟨v,t,e,h.mono g,yN.mono g r⟩
theorem cM.mono {K:yG} {H H':Hp} (g:xZ K H H'):∀ {o:O} {u:HO},cM K H o u->cM K H' o u
 | .lst _,_,⟨vs,e,r⟩=>⟨vs,e,r.mono g⟩
 | .fix _,_,⟨vs,ob,e,r⟩=>⟨vs,ob,e,r.mono g⟩
 | .dic _,_,⟨l,e,r⟩=>⟨l,e,r.mono g⟩
 | .ins _ _,_,⟨dx,l,e,r⟩=>⟨dx,l,e,r.mono g⟩
 | .fzd _,_,⟨ob,l,e,r⟩=>⟨ob,l,e,r.mono g⟩
theorem cM.notX {K:yG} {H:Hp}:∀ {o:O} {u:HO},isFz o=false->cM K H o u->¬ isX u
 | .lst _,_,_,⟨vs,e,r⟩=>by subst e;exact id
 | .fix _,_,_,⟨vs,ob,e,r⟩=>by rcases e with e|e<;>subst e<;>exact id
 | .dic _,_,_,⟨l,e,r⟩=>by subst e;exact id
 | .ins _ _,_,_,⟨dx,l,e,r⟩=>by subst e;exact id
 | .fzd _,_,m,_=>nomatch m
theorem cM.notTup {K:yG} {H:Hp}:∀ {o:O} {u:HO},cM K H o u->(∀ xs,u≠.tup xs)/\∀ ob xs,u≠.frz ob (.tup xs)
 | .lst _,_,⟨vs,e,r⟩=>by subst e;exact ⟨(fun _ z=>nomatch z),(fun _ _ z=>nomatch z)⟩
 | .fix _,_,⟨vs,ob,e,r⟩=>by
  rcases e with e|e<;>subst e
  .exact ⟨(fun _ z=>nomatch z),(fun _ _ z=>nomatch z)⟩
  .exact ⟨(fun _ z=>nomatch z),(fun _ _ z=>nomatch z)⟩
 | .dic _,_,⟨l,e,r⟩=>by subst e;exact ⟨(fun _ z=>nomatch z),(fun _ _ z=>nomatch z)⟩
 | .ins _ _,_,⟨dx,l,e,r⟩=>by subst e;exact ⟨(fun _ z=>nomatch z),(fun _ _ z=>nomatch z)⟩
 | .fzd _,_,⟨ob,l,e,r⟩=>by subst e;exact ⟨(fun _ z=>nomatch z),(fun _ _ z=>nomatch z)⟩
section
variable {K : yG} {H H' : Hp} {G : Hw} {a : Addr}
theorem xC.free (h:xC K H G) (e:H a=none):G a=none:=by
 cases q:G a with
 |none=>rfl
 |some o =>
  obtain ⟨u,e',_⟩:=h a o q;rw [e] at e';cases e'
theorem zbH {u:HO} (h:∀ xs,¬ Rd H a (.tup xs)) (hx:∀ o,isX o->H a≠some o):xZ K H (xB H a u):=⟨fun b xs s=>by
 rcases s with s|s
 .have hb:b≠a:=by rintro rfl;exact h xs s
  left
  rcases s with s|⟨o,s⟩
  .exact .inl (by rw [yW hb];exact s)
  .exact .inr ⟨o,by rw [yW hb];exact s⟩
 .exact .inr s,fun b o i s=>by
 have hb:b≠a:=by rintro rfl;exact hx o i s
 rw [yW hb];exact s⟩
theorem wH {u:HO} (h:H a=none):xZ K H (xB H a u):=zbH (fun xs s=>by
 rcases s with s|⟨o,s⟩<;>(rw [h] at s;cases s)) (fun o _ s=>by rw [h] at s;cases s)
theorem xC.grow {o:O} {u:HO} (h:xC K H G) (e:G a=some o) (m:isFz o=false:=by rfl):xZ K H (xB H a u):=by
 obtain ⟨u',e',r⟩:=h a o e;refine zbH (fun xs s=>?_) (fun o' i s=>?_)
 .rcases s with s|⟨ob,s⟩
  .rw [e'] at s;cases s;exact r.notTup.1 xs rfl
  .rw [e'] at s;cases s;exact r.notTup.2 ob xs rfl
 .rw [e'] at s;cases s;exact r.notX m i
theorem xC.new {o:O} {u:HO} (h:xC K H G) (e:H a=none) (r:cM K (xB H a u) o u):xC K (xB H a u) (put G a o):=fun b ob q=>by
 by_cases hb:b=a
 .subst hb;rw [zV] at q;cases q;exact ⟨u,qY,r⟩
 .rw [wJ hb] at q;obtain ⟨u',e',r'⟩:=h b ob q;exact ⟨u',by rw [yW hb];exact e',r'.mono (wH e)⟩
theorem xC.tup {u:HO} (h:xC K H G) (e:H a=none):xC K (xB H a u) G:=fun b ob q=>by
 obtain ⟨u',e',r'⟩:=h b ob q;exact ⟨u',by rw [yW (yI e' e)];exact e',r'.mono (wH e)⟩
theorem xC.chg {o o':O} {u:HO} (h:xC K H G) (e:G a=some o') (r:cM K (xB H a u) o u) (m:isFz o'=false:=by rfl):xC K (xB H a u) (put G a o):=fun b ob q=>by
 by_cases hb:b=a
 .subst hb;rw [zV] at q;cases q;exact ⟨u,qY,r⟩
 .rw [wJ hb] at q;obtain ⟨u',e',r'⟩:=h b ob q;exact ⟨u',by rw [yW hb];exact e',r'.mono (h.grow e m)⟩
theorem xC.lst {ws:List W} (h:xC K H G) (e:G a=some (.lst ws)):∃ vs,H a=some (.lst vs)/\zC K H ws vs:=by
 obtain ⟨u,e',vs,rfl,r⟩:=h a _ e;exact ⟨vs,e',r⟩
theorem xC.dic {kvs:List (xV×W)} (h:xC K H G) (e:G a=some (.dic kvs)):∃ l,H a=some (.dK l)/\yN K H kvs l:=by
 obtain ⟨u,e',vs,rfl,r⟩:=h a _ e;exact ⟨vs,e',r⟩
theorem xC.ins {C:Addr} {fs:List (Str×W)} (h:xC K H G) (e:G a=some (.ins C fs)):∃ dx l,H a=some (.ins C dx l)/\yN K H fs l:=by
 obtain ⟨u,e',dx,vs,rfl,r⟩:=h a _ e;exact ⟨dx,vs,e',r⟩
end
def yJ (G:Hw) (a:Addr):Option (List W):=match G a with
 |some (.lst ws)=>some ws
 |some (.fix ws)=>some ws
 |_=>none
theorem xC.seq {K:yG} {H:Hp} {G:Hw} {a:Addr} {ws:List W} (h:xC K H G) (e:yJ G a=some ws):∃ vs,mR K H a vs/\zC K H ws vs:=by
 unfold yJ at e
 split at e
 .rename_i q;cases e;obtain ⟨vs,e',r⟩:=h.lst q;exact ⟨vs,.of e',r⟩
 .rename_i q;cases e;obtain ⟨u,e',vs,ob,z,r⟩:=h a _ q;refine ⟨vs,?_,r⟩;rcases z with rfl|rfl
  .exact .inl (.inl e')
  .exact .inl (.inr ⟨_,e'⟩)
 .cases e
abbrev qK:=List (Option W)
def yB (K:yG) (H:Hp) (σ:qK) (τ:L2.St):Prop:=σ.length=τ.length/\∀ (i:Nat) (w:W),σ[i]?=some (some w)->∃ v,τ[i]?=some (some v)/\wQ K H w v
theorem yB.mono {K:yG} {H H':Hp} (g:xZ K H H') {σ:qK} {τ:L2.St} (h:yB K H σ τ):yB K H' σ τ :=
 ⟨h.1,fun i w e=>let ⟨v,e',r⟩:=h.2 i w e;⟨v,e',r.mono g⟩⟩
theorem yB.set {K:yG} {H:Hp} {σ:qK} {τ:L2.St} {w:W} {v:V} (h:yB K H σ τ) (r:wQ K H w v) (i:Nat):yB K H (σ.set i (some w)) (τ.set i (some v)):=by
 refine ⟨by simp [h.1],fun j w' e=>?_⟩;rw [List.getElem?_set] at e ⊢
 by_cases hj:i=j
 .subst hj;rw [if_pos rfl] at e ⊢
  by_cases hl:i<σ.length
  .rw [if_pos hl] at e;cases e;rw [if_pos (h.1▸hl)];exact ⟨v,rfl,r⟩
  .rw [if_neg hl] at e;cases e
 .rw [if_neg hj] at e ⊢;exact h.2 j w' e
abbrev Q3:=W->Hw->Prop
abbrev E3:=qK->Hw->Q3->Prop
abbrev T3:=qK->Hw->(Bool->Hw->Prop)->Prop
abbrev A3:=qK->Hw->(List W->Hw->Prop)->Prop
structure End3 where
 nx:qK->Hw->Prop
 rt:Q3
 bk:qK->Hw->Prop:=fun _ _=>False
 ct:qK->Hw->Prop:=fun _ _=>False
abbrev S3:=End3->qK->Hw->Prop
section
variable (K : yG)
def xR (t:E3):TE:=fun τ H Q=>∃ σ G,yB K H σ τ/\xC K H G/\t σ G fun w G'=>∀ v H',xZ K H H'->wQ K H' w v->xC K H' G'->Q v H'
def kD (t:T3):TT:=fun τ H Q=>∃ σ G,yB K H σ τ/\xC K H G/\t σ G fun b G'=>∀ H',xZ K H H'->xC K H' G'->Q b H'
def nT (t:A3):TA:=fun τ H Q=>∃ σ G,yB K H σ τ/\xC K H G/\t σ G fun ws G'=>∀ vs H',xZ K H H'->zC K H' ws vs->xC K H' G'->Q vs H'
structure Fine (H:Hp) (D3:End3) (D:Ends):Prop where
 nx:∀ σ G τ H',xZ K H H'->yB K H' σ τ->xC K H' G->D3.nx σ G->D.nx τ H'
 bk:∀ σ G τ H',xZ K H H'->yB K H' σ τ->xC K H' G->D3.bk σ G->D.bk τ H'
 ct:∀ σ G τ H',xZ K H H'->yB K H' σ τ->xC K H' G->D3.ct σ G->D.ct τ H'
 rt:∀ w G v H',xZ K H H'->wQ K H' w v->xC K H' G->D3.rt w G->D.rt v H'
def lowS (t:S3):TS:=fun D τ H=>∃ σ G D3,yB K H σ τ/\xC K H G/\Fine K H D3 D/\t D3 σ G
end
theorem Fine.grow {K:yG} {H H':Hp} {D3:End3} {D:Ends} (f:Fine K H D3 D) (g:xZ K H H'):Fine K H' D3 D :=
 ⟨fun σ G τ H2 g2=>f.nx σ G τ H2 (g.trans g2),fun σ G τ H2 g2=>f.bk σ G τ H2 (g.trans g2),fun σ G τ H2 g2=>f.ct σ G τ H2 (g.trans g2),fun w G v H2 g2=>f.rt w G v H2 (g.trans g2)⟩
def jR (t:E3):Prop:=∀ σ G (Q Q':Q3),(∀ w G',Q w G'->Q' w G')->t σ G Q->t σ G Q'
def sZ (t:T3):Prop:=∀ σ G (Q Q':Bool->Hw->Prop),(∀ w G',Q w G'->Q' w G')->t σ G Q->t σ G Q'
def uD (t:A3):Prop:=∀ σ G (Q Q':List W->Hw->Prop),(∀ w G',Q w G'->Q' w G')->t σ G Q->t σ G Q'
section
variable {K : yG} {H : Hp} {σ : qK} {τ : L2.St} {G : Hw}
theorem xO {t:E3} {R:Q3} {S:VK} (m:jR t) (hs:yB K H σ τ) (ha:xC K H G) (h:t σ G R)
  (k:∀ w G1 v H1,xZ K H H1->yB K H1 σ τ->wQ K H1 w v->xC K H1 G1->R w G1->S v H1):xR K t τ H S :=
 ⟨σ,G,hs,ha,m σ G _ _ (fun w G' r v H' g rp ab=>k w G' v H' g (hs.mono g) rp ab r) h⟩
theorem dI {t:T3} {R:Bool->Hw->Prop} {S:Bool->Hp->Prop} (m:sZ t) (hs:yB K H σ τ) (ha:xC K H G) (h:t σ G R)
  (k:∀ b G1 H1,xZ K H H1->yB K H1 σ τ->xC K H1 G1->R b G1->S b H1):kD K t τ H S :=
 ⟨σ,G,hs,ha,m σ G _ _ (fun w G' r H' g ab=>k w G' H' g (hs.mono g) ab r) h⟩
theorem dH {t:A3} {R:List W->Hw->Prop} {S:List V->Hp->Prop} (m:uD t) (hs:yB K H σ τ) (ha:xC K H G) (h:t σ G R)
  (k:∀ w G1 v H1,xZ K H H1->yB K H1 σ τ->zC K H1 w v->xC K H1 G1->R w G1->S v H1):nT K t τ H S :=
 ⟨σ,G,hs,ha,m σ G _ _ (fun w G' r v H' g rp ab=>k w G' v H' g (hs.mono g) rp ab r) h⟩
end
end L3
namespace L2
section
variable {X : Cx} {e : PySem.Expr} {st : PySem.Stmt} {sts : List PySem.Stmt}
theorem PE.imp {t t':TE} (h:PE X e t) (k:∀ σ H Q,t' σ H Q->t σ H Q):PE X e t':=fun pins s σ H Q I q=>h pins s σ H Q I (k σ H Q q)
theorem PT.imp {t t':TT} (h:PT X e t) (k:∀ σ H Q,t' σ H Q->t σ H Q):PT X e t':=fun pins s σ H Q I q=>h pins s σ H Q I (k σ H Q q)
theorem PW.imp {t t':TT} (h:PW X e t) (k:∀ σ H Q,t' σ H Q->t σ H Q):PW X e t':=fun wh pins s σ H Q I q=>h wh pins s σ H Q I (k σ H Q q)
theorem PA.imp {es:List PySem.Expr} {t t':TA} (h:PA X es t) (k:∀ σ H Q,t' σ H Q->t σ H Q):PA X es t':=fun pos pins s σ H Q I q=>h pos pins s σ H Q I (k σ H Q q)
theorem PS.imp {t t':TS} (h:PS X st t) (k:∀ D σ H,t' D σ H->t D σ H):PS X st t':=fun pins s σ H D I q=>h pins s σ H D I (k D σ H q)
theorem PSs.imp {t t':TS} (h:PSs X sts t) (k:∀ D σ H,t' D σ H->t D σ H):PSs X sts t':=fun pins s σ H D I q=>h pins s σ H D I (k D σ H q)
end
end L2
set_option genInjectivity false
set_option genSizeOfSpec false
namespace L2
open PySem PySem.Spec PyProof.Rows PySem.Calls
def clo (env:Env):List (Str×NameKind)->List (Str×Addr)->List (Str×Addr)
 | [],acc=>acc
 | (n,k)::r,acc=>if (k==NameKind.free)=true then clo env r ((n,(env.cells.lookup n).getD 0)::acc) else clo env r acc
theorem za4 (env:Env):∀ (l:List (Str×NameKind)) (acc:List (Str×Addr)) {x:Str} {c:Addr},(clo env l acc).lookup x=some c ->
  ((∃ k,(x,k)∈l/\k=.free)/\c=(env.cells.lookup x).getD 0)\/acc.lookup x=some c
 | [],acc,x,c,h=>.inr h
 | (n,k)::r,acc,x,c,h=>by
  unfold clo at h
  by_cases hk:(k==NameKind.free)=true
  .rw [if_pos hk] at h;rcases za4 env r _ h with ⟨⟨k',m,e⟩,q⟩|h
   .exact .inl ⟨⟨k',List.mem_cons_of_mem _ m,e⟩,q⟩
   .rw [List.lookup_cons] at h
    by_cases hx:(x==n)=true
    .rw [hx] at h;have e:x=n:=eq_of_beq hx;subst e;exact .inl ⟨⟨k,zzT,eq_of_beq hk⟩,(Option.some.inj h).symm⟩
    .rw [Bool.not_eq_true] at hx;rw [hx] at h;exact .inr h
  .rw [if_neg hk] at h;rcases za4 env r _ h with ⟨⟨k',m,e⟩,q⟩|h
   .exact .inl ⟨⟨k',List.mem_cons_of_mem _ m,e⟩,q⟩
   .exact .inr h
theorem za6 (env:Env):∀ (l:List (Str×NameKind)) (acc:List (Str×Addr)) {x:Str},(∃ c,acc.lookup x=some c)->∃ c,(clo env l acc).lookup x=some c
 | [],acc,x,h=>h
 | (n,k)::r,acc,x,h=>by
  unfold clo
  split
  .refine za6 env r _ ?_;rw [List.lookup_cons];cases x==n
   .exact h
   .exact ⟨_,rfl⟩
  .exact za6 env r _ h
theorem za5 (env:Env):∀ (l:List (Str×NameKind)) (acc:List (Str×Addr)) {x:Str},(x,NameKind.free)∈l->∃ c,(clo env l acc).lookup x=some c
 | (n,k)::r,acc,x,h=>by
  unfold clo;rcases List.mem_cons.mp h with h|h
  .cases h;rw [if_pos (by decide)];refine za6 env r _ ?_;rw [List.lookup_cons,beq_self_eq_true];exact ⟨_,rfl⟩
  .split
   .exact za5 env r _ h
   .exact za5 env r _ h
theorem dP {env:Env} {scope:Scope} (h:∀ x,(x,NameKind.free)∈scope.names->∃ c,env.cells.lookup x=some c):closureFor scope env=pure (clo env scope.names []):=by
 simp only [closureFor]
 have key:∀ (l:List (Str×NameKind)) (acc:List (Str×Addr)),(∀ x,(x,NameKind.free)∈l->∃ c,env.cells.lookup x=some c) ->
   (forIn l acc fun x r=>match x with|(name,kind)=>if (kind==NameKind.free)=true then (do let a ← cellOf env name;pure (ForInStep.yield ((name,a)::r))) else pure (ForInStep.yield r):Sem (List (Str×Addr)))=pure (clo env l acc):=by
  intro l
  induction l with
  |nil=>intro acc _;rfl
  |cons p r ih =>
   intro acc hh;obtain ⟨n,k⟩:=p;rw [List.forIn_cons]
   by_cases hk:(k==NameKind.free)=true
   .have ek:k=.free:=eq_of_beq hk;obtain ⟨c,hc⟩:=hh n (by rw [ek];exact zzT);simp only [hk,if_true];have e1:cellOf env n=pure c:=by unfold cellOf;rw [hc]
    rw [e1];simp only [pure_bind];rw [ih _ fun x hx=>hh x (List.mem_cons_of_mem _ hx)]
    conv=>rhs;unfold clo
    rw [if_pos hk,hc]
    all_goals rfl
   .simp only [hk];rw [if_neg (by simp)];simp only [pure_bind];rw [ih _ fun x hx=>hh x (List.mem_cons_of_mem _ hx)]
    conv=>rhs;unfold clo
    rw [if_neg hk]
 have:=key scope.names [] h;simpa using this
theorem wI {env:Env}:∀ {names:List (Str×NameKind)} {x:Str} {k':NameKind},
  (names.map fun (n,k)=>if (k==NameKind.free&&env.scope.kind==.function&&env.kindOf n==some .cell) then (n,NameKind.cell) else (n,k)).lookup x=some k' ->
  ∃ k,names.lookup x=some k/\(k'=k\/(k=.free/\k'=.cell))
 | [],_,_,h=>by simp at h
 | (n,k)::r,x,k',h=>by
  rw [zzU] at h
  by_cases hc:(k==NameKind.free&&env.scope.kind==.function&&env.kindOf n==some .cell)=true
  .simp only [hc,if_true] at h;rw [List.lookup_cons] at h ⊢
   cases hx:x==n with
   |true =>
    rw [hx] at h;cases h;simp only [Bool.and_eq_true,beq_iff_eq] at hc;exact ⟨k,rfl,.inr ⟨hc.1.1,rfl⟩⟩
   |false=>rw [hx] at h;exact wI h
  .simp only [hc,if_false] at h;rw [if_neg (by simp)] at h;rw [List.lookup_cons] at h ⊢
   cases hx:x==n with
   |true=>rw [hx] at h;cases h;exact ⟨k,rfl,.inl rfl⟩
   |false=>rw [hx] at h;exact wI h
theorem kK {α:Type}:∀ {l:List (Str×α)} {x:Str} {v:α},l.lookup x=some v->(x,v)∈l
 | (n,k)::r,x,v,h=>by
  rw [List.lookup_cons] at h
  cases hx:x==n with
  |true=>rw [hx] at h;cases h;rw [eq_of_beq hx];exact zzT
  |false=>rw [hx] at h;exact List.mem_cons_of_mem _ (kK h)
theorem za7:∀ (l:List (Str×NameKind)) (n:Nat) (acc:List (Str×Addr)) {x:Str} {c:Addr},(cellsFrom n l acc).lookup x=some c->acc.lookup x=some c\/((x,NameKind.cell)∈l/\n<=c)
 | [],n,acc,x,c,h=>.inl h
 | (y,k)::r,n,acc,x,c,h=>by
  unfold cellsFrom at h
  split at h
  .rename_i hk;rcases za7 r _ _ h with h|⟨h,q⟩
   .rw [List.lookup_cons] at h
    by_cases hx:(x==y)=true
    .rw [hx] at h;cases eq_of_beq hx;cases eq_of_beq hk;exact .inr ⟨zzT,Nat.le_of_eq (Option.some.inj h)⟩
    .rw [Bool.not_eq_true] at hx;rw [hx] at h;exact .inl h
   .exact .inr ⟨List.mem_cons_of_mem _ h,Nat.le_of_succ_le q⟩
  .rcases za7 r _ _ h with h|⟨h,q⟩
   .exact .inl h
   .exact .inr ⟨List.mem_cons_of_mem _ h,q⟩
theorem zbP:∀ (l:List (Str×NameKind)) (n:Nat) (acc:List (Str×Addr)) {x:Str},(∃ c,acc.lookup x=some c)->∃ c,(cellsFrom n l acc).lookup x=some c
 | [],n,acc,x,h=>h
 | (y,k)::r,n,acc,x,h=>by
  unfold cellsFrom
  split
  .refine zbP r _ _ ?_;rw [List.lookup_cons];cases x==y
   .exact h
   .exact ⟨_,rfl⟩
  .exact zbP r _ _ h
theorem zdM:∀ (l:List (Str×NameKind)) (n:Nat) (acc:List (Str×Addr)) {x:Str},(x,NameKind.cell)∈l->∃ c,(cellsFrom n l acc).lookup x=some c
 | (y,k)::r,n,acc,x,h=>by
  unfold cellsFrom;rcases List.mem_cons.mp h with h|h
  .cases h;rw [if_pos (by decide)];refine zbP r _ _ ?_;rw [List.lookup_cons,beq_self_eq_true];exact ⟨_,rfl⟩
  .split
   .exact zdM r _ _ h
   .exact zdM r _ _ h
def Inj (n:Nat) (l:List (Str×Addr)):Prop:=(∀ x c,l.lookup x=some c->c<n)/\∀ x y c,l.lookup x=some c->l.lookup y=some c->x=y
theorem zdL:∀ (l:List (Str×NameKind)) (n:Nat) (acc:List (Str×Addr)),Inj n acc->∀ x y c,(cellsFrom n l acc).lookup x=some c->(cellsFrom n l acc).lookup y=some c->x=y
 | [],n,acc,h=>h.2
 | (z,k)::r,n,acc,h=>by
  unfold cellsFrom
  split
  .refine zdL r (n+1) ((z,n)::acc) ⟨fun x c e=>?_,fun x y c e e'=>?_⟩
   .rw [List.lookup_cons] at e
    cases hx:x==z with
    |true=>rw [hx] at e;cases e;exact Nat.lt_succ_self _
    |false=>rw [hx] at e;exact Nat.lt_succ_of_lt (h.1 x c e)
   .rw [List.lookup_cons] at e e'
    cases hx:x==z with
    |true =>
     rw [hx] at e;cases e
     cases hy:y==z with
     |true=>rw [eq_of_beq hx,eq_of_beq hy]
     |false=>rw [hy] at e';exact absurd (h.1 y _ e') (Nat.lt_irrefl _)
    |false =>
     rw [hx] at e
     cases hy:y==z with
     |true=>rw [hy] at e';cases e';exact absurd (h.1 x _ e) (Nat.lt_irrefl _)
     |false=>rw [hy] at e';exact h.2 x y c e e'
  .exact zdL r n acc h
theorem za8:∀ (l:List (Str×NameKind)) (h:Heap) (acc:List (Str×Addr)),(∀ x c,acc.lookup x=some c->∃ v,h.IsCell c v)->∀ x c,(cellsFrom h.objs.size l acc).lookup x=some c->∃ v,(pushCells h l).IsCell c v
 | [],h,acc,k=>k
 | (z,q)::r,h,acc,k=>by
  unfold cellsFrom pushCells
  split
  .have:=za8 r (h.push { cls:=.type "cell", data:=.cell none }) ((z,h.objs.size)::acc) (fun x c e=>by
    rw [List.lookup_cons] at e
    cases hx:x==z with
    |true=>rw [hx] at e;cases e;exact ⟨_,_,Heap.get?_push_size _ rfl,rfl⟩
    |false =>
     rw [hx] at e;obtain ⟨v,o,ho,hd⟩:=k x c e;exact ⟨v,o,Heap.get?_push_of_some _ ho,hd⟩)
   rw [Heap.size_push] at this;exact this
  .exact za8 r h acc k
theorem nfe {M:Model} {A:Around} {E:Value->Shared->Prop} {s:Shared} {sc:Scope} {gl:Addr} {cl:List (Str×Addr)} {qual:Str} {env:Env} {Q:Env->Shared->Prop}
  (hQ:∀ h',h'=pushCells (s.heap.push { cls:=.type "dict", data:=.dict #[] }) sc.names->h'.Ns s.heap.objs.size (fun _=>none)->(∀ b o,s.heap.get? b=some o->h'.get? b=some o) ->
   Q { scope:=sc,locals:=s.heap.objs.size,globals:=gl,cells:=cellsFrom (s.heap.objs.size+1) sc.names cl,qual:=qual,func:=none,code:=env.code,frame:=env.frame,builtins:=env.builtins } { s with heap:=h' }) :
  wpAny M A (newFunctionEnv sc gl cl [] qual none .none (some env)) Q E s:=by
 simp only [newFunctionEnv,Option.isSome_some,if_true];refine wpAny_bind (wpAny_alloc (wpAny_bind (wpAny_layCells _ (fun name kind cells=>by cases hkc:kind==NameKind.cell<;>simp [hkc]) _ _ _ _ ?_)));rw [show ({ s with heap:=s.heap.push { cls:=.type "dict", data:=.dict #[] } }:Shared).heap.objs.size=s.heap.objs.size+1 from Heap.size_push ..];rw [List.forIn_nil];refine wpAny_bind (wpAny_pure (wpAny_pure (hQ _ rfl ((Heap.Ns.new s.heap (.type "dict")).keeps (pushCells_keeps _ _)) fun b o e=>pushCells_keeps _ _ b o (Heap.get?_push_of_some _ e))))
end L2
namespace L2
open PySem PySem.Spec PyProof.Rows PySem.Calls
theorem zan (elt target iter:Expr) (ifs:List Expr) (scope:Scope) (pos:Pos) (it acc:Value) (env:Env) :
  compTurn (.ListComp elt [⟨target,iter,ifs,0⟩] scope pos) 0 it acc env=(do
   standAt iter.pos
   match ← pyNext it with
   |none=>pure (.done .next)
   |some v =>
    letOwnedTupleGo target it v
    assign target env v
    let mut ok:=true
    for c in ifs do
     if ok then ok ← isTrue c env (eval c env)
    if ok then
     (do let _ ← call (.builtin "list.append") [acc,← eval elt env])
    again (.compLoop (.ListComp elt [⟨target,iter,ifs,0⟩] scope pos) 0 it acc env)):=by rfl
section
variable {prog : Program} {w : World} {A : Around} {R : Result → Shared → Prop} {s : Shared}
theorem zao {elt target iter:Expr} {ifs:List Expr} {scope:Scope} {pos:Pos} {it acc:Value} {env:Env} (I:Nat->Shared->Prop)
  (turn:∀ n s,I n s->wpAny (model prog w) A (pyNext it) (fun r s₁=>match r with
   |none=>R (.ok .next) s₁
   |some v=>wpAny (model prog w) A (letOwnedTupleGo target it v) (fun _ s₁=>wpAny (model prog w) A (assign target env v) (fun _ s₂ =>
     wpAny (model prog w) A (forIn ifs true fun c r=>if r=true then do let ok ← isTrue c env (eval c env);pure (ForInStep.yield ok) else pure (ForInStep.yield r)) (fun ok s₃ =>
      if ok=true then wpAny (model prog w) A (eval elt env) (fun x s₄ =>
       wpAny (model prog w) A (call (.builtin "list.append") [acc,x]) (fun _ s₅=>∃ m,m<n/\I m s₅) (fun _ _=>False) s₄) (fun _ _=>False) s₃
      else ∃ m,m<n/\I m s₃) (fun _ _=>False) s₂) (fun _ _=>False) s₁) (fun _ _=>False) s₁) (fun _ _=>False) s)
  (n:Nat) (h:I n s) :
  codeAny (model prog w) A (.compLoop (.ListComp elt [⟨target,iter,ifs,0⟩] scope pos) 0 it acc env) R s:=by
 refine codeAny_loop rfl I (fun n s hI=>?_) n h;show wpAny _ A ((compTurn (.ListComp elt [⟨target,iter,ifs,0⟩] scope pos) 0 it acc env).onRaise (fun x=>do noteFrame x env;theTreesLotGoes x)) _ _ s;refine wpAny_noted ?_;rw [zan];refine wpAny_bind (wpAny_standAt (wpAny_bind (wpAny_mono (turn n s hI) (fun r s₁ h₁=>?_) fun _ _ h'=>h'.elim)))
 cases r with
 |none=>exact wpAny_pure h₁
 |some v =>
  refine wpAny_bind (wpAny_mono h₁ (fun _ s₁ h₁=>?_) fun _ _ h'=>h'.elim);refine wpAny_bind (wpAny_mono h₁ (fun _ s₂ h₂=>wpAny_bind (wpAny_mono h₂ (fun ok s₃ h₃=>?_) fun _ _ h'=>h'.elim)) fun _ _ h'=>h'.elim)
  cases ok with
  |false=>exact wpAny_pure ⟨rfl,h₃⟩
  |true =>
   exact wpAny_bind (wpAny_bind (wpAny_mono h₃ (fun x s₄ h₄=>wpAny_bind (wpAny_mono h₄ (fun _ s₅ h₅=>wpAny_pure (wpAny_pure ⟨rfl,h₅⟩)) fun _ _ h'=>h'.elim)) fun _ _ h'=>h'.elim))
end
structure IsBlock (X:Cx) (N:List Str) (sc:Scope) (X':Cx):Prop where
 prog:X'.prog=X.prog
 w:X'.w=X.w
 K:X'.K=X.K
 mg:X'.mg=X.mg
 base:X'.base=X.base
 A:X'.A=X.A
 calm:X'.calm=X.calm
 N:X'.N=N
 scope:X'.env.scope=relabel sc X.env
 xe:X'.xe=fun _ _=>False
 fn:∀ x,sc.names.lookup x=some .cell->X'.fn x=true
def ocl (X:Cx) (sc:Scope) (C:Addr):List (Str×Addr):=cellsFrom (C+1) sc.names (clo X.env sc.names [])
def uR (X:Cx) (N:List Str) (sc:Scope) (C:Addr) (s2:Shared) (H2:Hp) (fp:List Addr) (pins:List (Addr×Obj)):Cx where
 prog:=X.prog
 w:=X.w
 K:=X.K
 mg:=X.mg
 base:=X.base
 A:=X.A
 N:=N
 s₀:=s2
 H₀:=H2
 env:=compEnvC sc (ocl X sc C) C X.env
 outer:=X.stack
 stack:=X.stack
 ex:=fp
 fn:=fun x=>sc.names.lookup x==some .cell
 calm:=X.calm
 pn:=X.pn++pins
 xe:=fun _ _=>False
theorem zci (X:Cx) (N:List Str) (sc:Scope) (C:Addr) (s2:Shared) (H2:Hp) (fp:List Addr) (pins:List (Addr×Obj)):IsBlock X N sc (uR X N sc C s2 H2 fp pins) :=
 ⟨rfl,rfl,rfl,rfl,rfl,rfl,rfl,rfl,rfl,rfl,fun x h=>by show (sc.names.lookup x==some .cell)=true;rw [h];rfl⟩
structure BlkSc (X:Cx) (sc:Scope):Prop where
 kind:sc.kind=.function
 cells:∀ x,(x,NameKind.cell)∈sc.names->sc.names.lookup x=some .cell
 frees:∀ x,(x,NameKind.free)∈sc.names->sc.names.lookup x=some .free
 free:∀ x,(x,NameKind.free)∈sc.names->X.env.kindOf x=some .cell\/X.env.kindOf x=some .free
 names:∀ y∈sc.names,y.2=.local->sc.names.lookup y.1=some .local
section
variable {X : Cx} {pins : List (Addr × Obj)} {σ : St} {H2 : Hp} {s2 : Shared} {sc : Scope} {N : List Str} {C : Addr} {fp : List Addr}
theorem tE (ok:X.Ok) (B:BlkSc X sc) {x:Str} {c:Addr} (h:(clo X.env sc.names []).lookup x=some c):X.env.cells.lookup x=some c/\sc.names.lookup x=some .free:=by
 rcases za4 _ _ _ h with ⟨⟨k,m,e⟩,q⟩|h
 .subst e;have hf:=B.free x m;obtain ⟨c',hc'⟩:=ok.has x hf;rw [hc'] at q;exact ⟨by rw [hc',q];rfl,B.frees x m⟩
 .simp at h
theorem tR (ok:X.Ok) (B:BlkSc X sc) {x:Str} {c:Addr} (h:(ocl X sc C).lookup x=some c):(X.env.cells.lookup x=some c/\sc.names.lookup x=some .free)\/(sc.names.lookup x=some .cell/\C<c):=by
 rcases za7 _ _ _ h with h|⟨h,q⟩
 .exact .inl (tE ok B h)
 .exact .inr ⟨B.cells x h,q⟩
theorem B_has (B:BlkSc X sc) {x:Str} (h:(relabel sc X.env).names.lookup x=some .cell\/(relabel sc X.env).names.lookup x=some .free):(x,NameKind.free)∈sc.names\/(x,NameKind.cell)∈sc.names:=by
 rcases h with h|h
 .obtain ⟨k,hk,e⟩:=wI h;rcases e with e|⟨e,_⟩
  .subst e;exact .inr (kK hk)
  .subst e;exact .inl (kK hk)
 .obtain ⟨k,hk,e⟩:=wI h;rcases e with e|⟨e,z⟩
  .subst e;exact .inl (kK hk)
  .cases z
theorem zcZ {x:Str} (h:(x,NameKind.free)∈sc.names\/(x,NameKind.cell)∈sc.names):∃ c,(ocl X sc C).lookup x=some c:=by
 rcases h with h|h
 .exact zbP _ _ _ (za5 _ _ _ h)
 .exact zdM _ _ _ h
theorem zdN (I2:Inv X pins σ H2 s2) {x:Str} {c:Addr} (h:X.env.cells.lookup x=some c):c<s2.heap.objs.size:=by
 obtain ⟨v,o,e,_⟩:=I2.cell x c h;exact Heap.lt_size e
theorem dL (I2:Inv X pins σ H2 s2) (B:BlkSc X sc) (f2:∀ b∈fp,pK X pins H2 b) (hfp:∀ b∈fp,b<s2.heap.objs.size) (hC:s2.heap.objs.size<=C):(uR X N sc C s2 H2 fp pins).Ok where
 mod:=I2.ok.mod
 kind:=B.kind
 glob:=I2.ok.glob
 blt:=I2.ok.blt
 above:=hC
 inj:=zdL _ _ _ ⟨fun x c h=>Nat.lt_succ_of_lt (Nat.lt_of_lt_of_le (zdN I2 (tE I2.ok B h).1) hC),fun x y c hx hy=>I2.ok.inj x y c (tE I2.ok B hx).1 (tE I2.ok B hy).1⟩
 has:=fun x h=>zcZ (B_has B h)
 cab:=fun x c h e=>by
  rcases tR I2.ok B e with ⟨_,q⟩|⟨_,q⟩
  .have h:(sc.names.lookup x==some .cell)=true:=h;rw [q] at h;cases h
  .exact Nat.le_trans hC (Nat.le_of_lt q)
 hd:=I2.ok.hd
 frames:=I2.ok.frames
 stk:=.inl rfl
 exf:=fun b hb=>⟨Nat.ne_of_lt (Nat.lt_of_lt_of_le (hfp b hb) hC),fun x c h=>by
  rcases tR I2.ok B h with ⟨q,_⟩|⟨_,q⟩
  .exact (f2 b hb).2.2.2.2.1 x c q
  .exact Nat.ne_of_gt (Nat.lt_trans (Nat.lt_of_lt_of_le (hfp b hb) hC) q)⟩
 bs:=I2.bs
 bsz:=Nat.le_trans I2.ok.bsz I2.sz
 noex:=fun b o e hb=>by
  rcases (f2 b hb).2.2.2.1 with h|h
  .exact I2.ok.noex b o e h
  .exact absurd (Nat.lt_of_lt_of_le (Heap.lt_size e) (Nat.le_trans I2.ok.bsz h)) (Nat.lt_irrefl _)
 exfs:=fun b hb hm=>by
  rcases List.mem_cons.mp (I2.stkSub b hm) with h|h
  .exact (f2 b hb).2.1 h
  .exact (f2 b hb).2.2.1 h
 funs:=I2.stack
 frf:=I2.stkFree
theorem zdR {s4:Shared} {τ:St} {m:Str->Option Value} (I2:Inv X pins σ H2 s2) (B:BlkSc X sc) (f2:∀ b∈fp,pK X pins H2 b) (hfp:∀ b∈fp,b<s2.heap.objs.size) (hC:s2.heap.objs.size<=C)
  (ho:s4.os=s2.os) (hg:s4.gens=s2.gens) (keep:∀ b o,s2.heap.get? b=some o->s4.heap.get? b=some o) (hcs:∀ x c,(ocl X sc C).lookup x=some c->∃ v,s4.heap.IsCell c v) (hns:s4.heap.Ns C m) (hl:τ.length=N.length)
  (cap:∀ (i:Nat) (x:Str) (v:V),N[i]?=some x->τ[i]?=some (some v)->Vis (relabel sc X.env) x->sc.names.lookup x=some .free/\∃ j:Nat,X.N[j]?=some x/\σ[j]?=some (some v)) :
  Inv (uR X N sc C s2 H2 fp pins) [] τ H2 s4:=by
 refine ⟨dL I2 B f2 hfp hC,ho,by rw [hg];exact I2.bare,Un.kept keep,⟨m,hns,fun i x v hN hτ hv=>?_⟩,hcs,I2.hok.fresh hC,fun x c h=>?_,fun p hp=>?_,I2.hok.kept keep,hl⟩
 .obtain ⟨hnl,j,hj,hσ⟩:=cap i x v hN hτ hv;have hmem:=kK hnl;have hf:=B.free x hmem
  have hkind:(relabel sc X.env).names.lookup x=some .cell\/(relabel sc X.env).names.lookup x=some .free:=by
   rcases hv with h|h|h
   .obtain ⟨k,hk,e⟩:=wI h;rw [hnl] at hk;cases hk;rcases e with e|⟨_,e⟩<;>cases e
   .exact .inl h
   .exact .inr h
  obtain ⟨m0,_,hl0⟩:=I2.loc;obtain ⟨u,r,lk⟩:=hl0 j x v hj hσ (hf.elim (fun h=>.inr (.inl h)) fun h=>.inr (.inr h));refine ⟨u,r,.inr ⟨hkind,?_⟩⟩;rcases lk with ⟨hk,_⟩|⟨_,c,hc,hcell⟩
  .rw [hk] at hf;rcases hf with hf|hf<;>cases hf
  .obtain ⟨c',hc'⟩:=zcZ (X:=X) (C:=C) (.inl hmem);rcases tR I2.ok B hc' with ⟨e,_⟩|⟨e,_⟩
   .rw [hc] at e;cases e;refine ⟨c,hc',?_⟩;obtain ⟨o,e1,r1⟩:=hcell;exact ⟨o,keep _ _ e1,r1⟩
   .rw [hnl] at e;cases e
 .rcases tR I2.ok B h with ⟨e,_⟩|⟨_,e⟩
  .exact I2.freeC x c e
  .exact I2.hok.fresh (Nat.le_trans hC (Nat.le_of_lt e))
 .have hp':p∈X.pn++pins:=by simpa [uR] using hp
  obtain ⟨q1,q2,q3,q4,q5⟩:=I2.pin p hp';refine ⟨keep _ _ q1,q2,Nat.ne_of_lt (Nat.lt_of_lt_of_le (Heap.lt_size q1) hC),fun z=>?_,q5⟩;rcases List.mem_cons.mp (I2.stkSub _ z) with h|h
  .exact q3 h
  .exact q4 h
end
theorem sN.adopt {P:Program} {w:World} {H:Hp} {h h':Heap} {a:Addr} {o:HO} (x:sN P w H h) (k:∀ b u v,H b=some v->h.get? b=some u->h'.get? b=some u) (hn:H a=none) (new:xD P w (xB H a o) h' a o):sN P w (xB H a o) h':=fun b u e=>by
 by_cases hb:b=a
 .subst hb;rw [qY] at e;cases e;exact new
 .rw [yW hb] at e;refine (x b u e).stay (fun c v hc q=>?_) (fun c q=>by rw [yW (yI q hn)];exact q) fun c xs q=>by rw [yW (yI q hn)];exact q
  rcases hc with rfl|hc
  .exact k _ _ _ e q
  .exact k _ _ _ hc q
end L2
namespace L2
open PySem PySem.Spec PyProof.Rows PySem.Calls
def PTs (X:Cx) (ifs:List Expr) (t:TT):Prop :=
 ∀ (pins:List (Addr×Obj)) (s:Shared) (σ:St) (H:Hp) (Q:Bool->Hp->Prop),Inv X pins σ H s->t σ H Q ->
  wpAny (model X.prog X.w) X.A (forIn ifs true fun c r=>if r=true then do let ok ← isTrue c X.env (eval c X.env);pure (ForInStep.yield ok) else pure (ForInStep.yield r)) (TP X pins σ Q) X.xe s
theorem zf1 {X:Cx}:PTs X [] (fun _ H Q=>Q true H):=fun _ _ _ H _ I h=>wpAny_tests_nil ⟨H,I,h⟩
theorem zf0 {X:Cx} {c:Expr} {t:TT} (h:PT X c t):PTs X [c] t:=fun pins s σ H Q I q=>wpAny_tests_one (h pins s σ H Q I q)
def tLCb (J:It) (τ:St) (g:TG) (tc:TT) (te:TE) (Qf:List V->Hp->Prop) (H1:Hp):Prop :=
 ∃ Pv:Nat->Nat->St->List V->Hp->Prop,(∃ m,Pv 0 m τ [] H1)/\∀ i m τ acc H,Pv i m τ acc H ->
  (J.stop i H/\Qf acc H) \/
  (J.go i H/\acc.length<sizeLine/\∀ x H',J.yld i H x H'->g x τ H' fun σ2 H2=>tc σ2 H2 fun b H3=>if b=true then te σ2 H3 fun v H4=>∃ m',m' < m/\Pv (i+1) m' σ2 (acc++[v]) H4 else ∃ m',m' < m/\Pv (i+1) m' σ2 acc H3)
structure Off (X:Cx) (pins:List (Addr×Obj)) (C:Addr):Prop where
 ne:C≠X.env.locals
 ge:X.s₀.heap.objs.size<=C
 cl:∀ x c,X.env.cells.lookup x=some c->c≠C
 pn:∀ p∈X.pn++pins,p.1≠C
theorem Off.turned {X:Cx} {pins:List (Addr×Obj)} {C:Addr} {σ:St} {H:Hp} {s:Shared} {h':Heap} (o:Off X pins C) (I:Inv X pins σ H s) (hn:H C=none) (k:Heap.SameBut C s.heap h'):Inv X pins σ H { s with heap:=h' } :=
 I.turned (t':=s.toks) (fun b u hb e=>k.extBut b u hb e) hn o.ne (.inr o.ge) o.cl o.pn
theorem Inv.off {X:Cx} {pins:List (Addr×Obj)} {σ:St} {H:Hp} {s:Shared} {C:Addr} (I:Inv X pins σ H s) (hC:s.heap.objs.size<=C):Off X pins C :=
 ⟨(Nat.ne_of_lt (Nat.lt_of_lt_of_le I.lt hC)).symm,Nat.le_trans I.sz hC,fun x c h=>by
  obtain ⟨v,o,e,_⟩:=I.cell x c h;exact Nat.ne_of_lt (Nat.lt_of_lt_of_le (Heap.lt_size e) hC),fun p hp=>Nat.ne_of_lt (Nat.lt_of_lt_of_le (Heap.lt_size (I.pin p hp).1) hC)⟩
abbrev uU (its:List Value) (n:Nat):Obj:={ cls:=.type "list", data:=.seq its.toArray n }
set_option maxHeartbeats 8000000 in
theorem zda {X:Cx} {pins:List (Addr×Obj)} {σ τ:St} {H2:Hp} {s2:Shared} {sc:Scope} {N:List Str} {fp:List Addr} {it:Addr} {tn:Nat->Heap->Prop} {J:It} {tg iter elt:Expr} {ifs:List Expr} {pos:Pos} {g:TG} {tc:TT} {te:TE}
  {Qf:List V->Hp->Prop} {RR:Value->Addr->Result->Shared->Prop} {E:Value->Shared->Prop}
  (hc:X.calm=true) (I2:Inv X pins σ H2 s2) (T:Turn X.prog X.w X.K tg J fp it tn) (t0:tn 0 s2.heap) (f2:∀ b∈fp,pK X pins H2 b) (B:BlkSc X sc) (hl:τ.length=N.length)
  (cap:∀ (i:Nat) (x:Str) (v:V),N[i]?=some x->τ[i]?=some (some v)->Vis (relabel sc X.env) x->sc.names.lookup x=some .free/\∃ j:Nat,X.N[j]?=some x/\σ[j]?=some (some v))
  (hg:∀ X',IsBlock X N sc X'->PG X' tg g) (ht:∀ X',IsBlock X N sc X'->PTs X' ifs tc) (he:∀ X',IsBlock X N sc X'->PE X' elt te)
  (h:tLCb J τ g tc te Qf H2)
  (fin:∀ (D C:Addr) (acc:List V) (H':Hp) (s':Shared) (m:Str->Option Value),D≠C->H' D=none->H' C=none->Off X pins C->Inv X pins σ (xB H' D (.lst acc)) s'->s'.heap.Ns C m->Qf acc H'->RR (.ref D) C (.ok .next) s') :
  wpAny (model X.prog X.w) X.A (newList []) (fun acc s₃=>wpAny (model X.prog X.w) X.A (newFunctionEnv sc X.env.globals (clo X.env sc.names []) [] X.env.qual none .none (some X.env)) (fun cenv s₄ =>
   codeAny (model X.prog X.w) X.A (.compStart (.ListComp elt [⟨tg,iter,ifs,0⟩] sc pos) 0 (.ref it) acc { cenv with scope:=relabel sc X.env }) (RR acc cenv.locals) s₄) E s₃) E s2:=by
 refine wpAny_newObj_type (nfe fun h₁ heq hns₁ hk₁=>?_);dsimp only at heq hns₁ hk₁ ⊢;generalize hH2:s2.heap.push { cls:=.type "list", dict:=none,data:=.seq ([]:List Value).toArray }=G2 at heq hns₁ hk₁ ⊢
 have hcs:∀ x c,(ocl X sc G2.objs.size).lookup x=some c->∃ v,h₁.IsCell c v:=fun x c e=>by
  rw [heq];refine za8 sc.names (G2.push { cls:=.type "dict", data:=.dict #[] }) (clo X.env sc.names []) (fun y d q=>?_) x c (by rw [Heap.size_push];exact e);obtain ⟨v,o,ho,hd⟩:=I2.cell y d (tE I2.ok B q).1;exact ⟨v,o,Heap.get?_push_of_some _ (hH2▸Heap.get?_push_of_some _ ho),hd⟩
 have hC:G2.objs.size=s2.heap.objs.size+1:=by rw [← hH2,Heap.size_push]
 have hDC:s2.heap.objs.size≠G2.objs.size:=by rw [hC];exact Nat.ne_of_lt (Nat.lt_succ_self _)
 have hCle:s2.heap.objs.size<=G2.objs.size:=by rw [hC];exact Nat.le_succ _
 have below:∀ b,b<s2.heap.objs.size->b≠G2.objs.size/\b≠s2.heap.objs.size:=fun b hb=>⟨by rw [hC];exact Nat.ne_of_lt (Nat.lt_succ_of_lt hb),Nat.ne_of_lt hb⟩
 have hfp:∀ b∈fp,b<s2.heap.objs.size:=fun b hb=>by
  obtain ⟨o,e,_⟩:=T.obj _ _ t0 b hb;exact Heap.lt_size e
 have hDf:∀ b∈fp,b≠s2.heap.objs.size:=fun b hb=>(below b (hfp b hb)).2;have hCf:∀ b∈fp,b≠G2.objs.size:=fun b hb=>(below b (hfp b hb)).1;have old:∀ b o,s2.heap.get? b=some o->h₁.get? b=some o:=fun b o e=>hk₁ b o (hH2▸Heap.get?_push_of_some _ e);have hacc:h₁.get? s2.heap.objs.size=some (uU [] 0):=hk₁ _ _ (hH2▸Heap.get?_push_size _ rfl)
 have fresh:∀ a,s2.heap.objs.size<=a->s2.heap.get? a=none:=fun a ha=>by
  cases e:s2.heap.get? a with
  |none=>rfl
  |some o'=>exact absurd (Heap.lt_size e) (Nat.not_lt.mpr ha)
 have hsub:∀ b∈frs X.stack,b<s2.heap.objs.size:=fun b hb=>by
  obtain ⟨_,o,e,_⟩:=I2.stack.mem hb;exact Heap.lt_size e
 obtain ⟨Pv,⟨m0,p0⟩,step⟩:=h;generalize hD:s2.heap.objs.size=D at *;generalize hCe:G2.objs.size=C at *;have hXb:IsBlock X N sc (uR X N sc C s2 H2 fp pins):=zci ..;generalize hXd:uR X N sc C s2 H2 fp pins=X' at hXb
 have J0:Inv X' [] τ H2 { s2 with heap:=h₁ }:=by
  rw [← hXd];exact zdR I2 B f2 (by rw [hD];exact hfp) (by rw [hD];exact hCle) rfl rfl old hcs hns₁ hl cap
 have offD:Off X' [] D:=by
  rw [← hXd];refine ⟨hDC,by show s2.heap.objs.size<=D;rw [hD];exact zzR _,fun x c hx=>?_,fun p hp=>?_⟩
  .rcases tR I2.ok B hx with ⟨q,_⟩|⟨_,q⟩
   .have:=zdN I2 q;rw [hD] at this;exact Nat.ne_of_lt this
   .exact Nat.ne_of_gt (Nat.lt_of_le_of_lt hCle q)
  .have hp':p∈X.pn++pins:=by simpa [uR] using hp
   have:=Heap.lt_size (I2.pin p hp').1;rw [hD] at this;exact Nat.ne_of_lt this
 have offC:Off X pins C:=I2.off (by rw [hD];exact hCle)
 have fpok:∀ {H':Hp} {ob:Obj},(∀ b∈fp,H' b=none)->∀ b∈fp,pK X' [(D,ob)] H' b:=fun {H' ob} hn b hb=>by
  rw [← hXd];refine ⟨hn b hb,hCf b hb,fun z=>(dL (N:=N) I2 B f2 (by rw [hD];exact hfp) (by rw [hD];exact hCle)).exfs b hb z,.inl hb,fun x c hx=>(dL (N:=N) I2 B f2 (by rw [hD];exact hfp) (by rw [hD];exact hCle)).exf b hb |>.2 x c hx,fun p hp=>?_⟩;rcases List.mem_append.mp hp with hp|hp
  .exact (f2 b hb).2.2.2.2.2 p hp
  .rw [zzO hp];exact (hDf b hb).symm
 have Dfs:D∉X'.fs:=by
  rw [← hXd];intro z;exact Nat.lt_irrefl _ (hsub D z)
 have pinD:∀ {H':Hp} {τ':St} {s':Shared} {its:List Value} {n:Nat},Inv X' [] τ' H' s'->H' D=none->s'.heap.get? D=some (uU its n)->Inv X' [(D,uU its n)] τ' H' s':=fun {H' τ' s' its n} I hn e =>
  I.pins_of fun p hp=>by
   rw [zzO hp];exact ⟨e,hn,by rw [← hXd];exact hDC,Dfs,fun v z=>nomatch z⟩
 have loop:∀ s₃:Shared,s₃={ s2 with heap:=h₁ } ->
   codeAny (model X.prog X.w) X.A (.compLoop (.ListComp elt [⟨tg,iter,ifs,0⟩] sc pos) 0 (.ref it) (.ref D) (compEnvC sc (ocl X sc C) C X.env)) (RR (.ref D) C) s₃:=by
  rintro s₃ rfl;have tn0:tn 0 h₁:=T.keep _ _ _ t0 fun b _ o e=>old b o e;have fr0:∀ b∈fp,H2 b=none:=fun b hb=>(f2 b hb).1;have Df0:H2 D=none:=I2.hok.fresh (by rw [hD];exact zzR _);have eX:X'.env=compEnvC sc (ocl X sc C) C X.env:=by rw [← hXd];rfl
  have ep:X'.prog=X.prog:=hXb.prog;have ew:X'.w=X.w:=hXb.w;have eA:X'.A=X.A:=hXb.A;refine zao (fun k s'=>∃ i τ' acc H' its n,Inv X' [] τ' H' s'/\tn i s'.heap/\(∀ b∈fp,H' b=none)/\H' D=none/\s'.heap.get? D=some (uU its n)/\yT acc its/\acc.length<=sizeLine/\Pv i k τ' acc H') ?_ m0 ⟨0,τ,[],H2,[],0,J0,tn0,fr0,Df0,hacc,.nil,Nat.zero_le _,p0⟩;rintro k s3 ⟨i,τ3,acc,H3,its,n,I3,st3,fr3,D3,o3,v3,lenA,p3⟩;have I3':=pinD I3 D3 o3;rcases step i k τ3 acc H3 p3 with ⟨stop,qf⟩|⟨go,hsz,turn⟩
  .have td:=T.done X' ep ew hXb.K (by rw [hXb.calm];exact hc) i _ s3 τ3 H3 (fun _ _=>False) I3' (fpok fr3) st3 stop;rw [eA] at td;refine xT td fun r s4 ⟨hr,I4⟩=>?_;subst hr;have o4:=(I4.pin (D,uU its n) (List.mem_append_right _ (List.mem_singleton.mpr rfl))).1;obtain ⟨m4,hn4,_⟩:=I4.loc;rw [eX] at hn4;refine fin D C acc H3 s4 m4 hDC D3 ?_ offC ?_ hn4 qf
   .have:=I4.free;rw [eX] at this;exact this
   .have base:Un (frs X.stack) fp H2 H3 s2.heap s4.heap:=by have:=I4.base;rw [← hXd] at this;exact this
    have hb:∀ b o,s2.heap.get? b=some o->b≠D:=fun b o e=>by have:=Heap.lt_size e;rw [hD] at this;exact Nat.ne_of_lt this
    refine I2.call' (ch:=fp) (by have:=I4.os;rw [← hXd] at this;exact this) ⟨base.keep,base.slot,fun b o e n' hx=>?_,base.there,fun b xs e=>?_,fun b o u e=>?_,fun b ps e=>?_⟩ ?_ I4.bare ?_
    .rw [yW (hb b o e)];exact base.free b o e n' hx
    .rw [yW (yI (base.tups b xs e) D3)];exact base.tups b xs e
    .rw [yW (yI (base.frzs b o u e) D3)];exact base.frzs b o u e
    .obtain ⟨mo,e'⟩:=base.tbls b ps e;exact ⟨mo,by rw [yW (yI e' D3)];exact e'⟩
    .have hk:=I4.hok;rw [ep,ew] at hk;exact hk.adopt (fun b u v _ q=>q) D3 ⟨lenA,its,n,v3,o4⟩
    .intro b hb';obtain ⟨q1,q2,q3,q4,q5,q6⟩:=f2 b hb';exact ⟨q4,q2,q5,q6⟩
  .have td:=T.item X' ep ew hXb.K (by rw [hXb.calm];exact hc) i _ s3 τ3 H3 (fun _ _=>False) I3' (fpok fr3) st3 go;rw [eA] at td;refine xT td fun r s4 ⟨u,hr,h4⟩=>?_;subst hr;refine xT h4 fun _ s5 ⟨x,H5,I5,r5,y5,st5,fr5⟩=>?_;have I5':=I5.pinned (fpok fr5) (T.obj _ _ st5);have q1:=hg X' hXb _ s5 τ3 H5 x u _ I5' r5 (turn x H5 y5);rw [ep,ew,eA,eX,hXb.xe] at q1;refine xT q1 fun _ s6 ⟨σ6,H6,I6,q6⟩=>?_;have q2:=ht X' hXb _ s6 σ6 H6 _ I6 q6;rw [ep,ew,eA,eX,hXb.xe] at q2;refine xT q2 fun b s7 ⟨H7,I7,q7⟩=>?_
   have back:∀ {H8:Hp} {s8:Shared},Inv X' ([(D,uU its n)]++pC fp s5.heap) σ6 H8 s8->Inv X' [] σ6 H8 s8/\tn (i+1) s8.heap/\(∀ b∈fp,H8 b=none)/\H8 D=none/\s8.heap.get? D=some (uU its n):=fun {H8 s8} I8=>by
    have pp:∀ p,p∈[(D,uU its n)]++pC fp s5.heap->_:=fun p hp=>I8.pin p (List.mem_append_right _ hp);refine ⟨I8.pins_of (pins':=[]) (fun p hp=>nomatch hp),T.keep _ _ _ st5 fun b hb o e=>(pp (b,o) (List.mem_append_right _ (uV hb e))).1,fun b hb=>?_,?_,?_⟩
    .obtain ⟨o,e,d⟩:=T.obj _ _ st5 b hb;exact (pp (b,o) (List.mem_append_right _ (uV hb e))).2.1
    .exact (pp (D,uU its n) (List.mem_append_left _ (List.mem_singleton.mpr rfl))).2.1
    .exact (pp (D,uU its n) (List.mem_append_left _ (List.mem_singleton.mpr rfl))).1
   cases b with
   |false =>
    rw [if_neg (by decide)] at q7;rw [if_neg (by decide)];obtain ⟨m',hm,p'⟩:=q7;obtain ⟨b1,b2,b3,b4,b5⟩:=back I7;exact ⟨m',hm,i+1,σ6,acc,H7,its,n,b1,b2,b3,b4,b5,v3,lenA,p'⟩
   |true =>
    rw [if_pos rfl] at q7;rw [if_pos rfl];have q3:=he X' hXb _ s7 σ6 H7 _ I7 q7;rw [ep,ew,eA,eX,hXb.xe] at q3;refine xT q3 fun y s8 ⟨v,H8,I8,r8,m',hm,p'⟩=>?_;obtain ⟨b1,b2,b3,b4,b5⟩:=back I8;refine append_at (hsz:=by show its.toArray.size<=sizeLine;rw [zzS,← v3.length];exact Nat.le_of_lt hsz) b5 fun h₅ hs₅ hD₅=>?_;refine ⟨m',hm,i+1,σ6,acc++[v],H8,its++[y],n+1,offD.turned b1 b4 hs₅,T.keep _ _ _ b2 fun b hb o e=>hs₅.extBut b o (hDf b hb) e,b3,b4,?_,v3.append (.cons r8 .nil),by rw [zzW];exact hsz,p'⟩;show h₅.get? D=_;rw [hD₅,List.push_toArray]
 exact codeAny_compStart_list (loop _ rfl) (T.self _ 0 _ _ _ (T.keep _ _ _ t0 fun b _ o e=>old b o e) (loop _ rfl))
def tLC (wi:TI) (cap:St->St) (g:TG) (tc:TT) (te:TE):TE:=fun σ H Q=>wi σ H fun J H1=>tLCb J (cap σ) g tc te (fun acc H'=>∀ p,H' p=none->Q (.ref p) (xB H' p (.lst acc))) H1
section
variable {X : Cx} {sc : Scope} {N : List Str} {tg iter elt : Expr} {ifs : List Expr} {pos : Pos} {wi : TI} {g : TG} {tc : TT} {te : TE} {cap : St → St}
def Caps (X:Cx) (sc:Scope) (N:List Str) (cap:St->St):Prop:=∀ σ:St,σ.length=X.N.length->(cap σ).length=N.length /\
 ∀ (i:Nat) (x:Str) (v:V),N[i]?=some x->(cap σ)[i]?=some (some v)->Vis (relabel sc X.env) x->sc.names.lookup x=some .free/\∃ j:Nat,X.N[j]?=some x/\σ[j]?=some (some v)
theorem pe_lc (hc:X.calm=true) (hi:PI X tg iter wi) (B:BlkSc X sc) (hcap:Caps X sc N cap)
  (hg:∀ X',IsBlock X N sc X'->PG X' tg g) (ht:∀ X',IsBlock X N sc X'->PTs X' ifs tc) (he:∀ X',IsBlock X N sc X'->PE X' elt te)
  (hs:∀ x,foldedSetIterable iter X.env x=pure x:=by intro _;rfl):PE X (.ListComp elt [⟨tg,iter,ifs,0⟩] sc pos) (tLC wi cap g tc te):=by
 intro pins s σ H Q I h;rw [eval_ListComp];refine wpAny_comprehension_free (use:=none) rfl hs (dP fun x hx=>I.ok.has x (B.free x hx)) B.kind B.names (xT (hi pins s σ H _ I h) fun v s1 h1=>xT h1 fun itv s2 h2=>?_);obtain ⟨it,fp,tn,J,H2,e,I2,T,st2,f2,q⟩:=h2;subst e;obtain ⟨cl,cc⟩:=hcap σ I.len;refine zda (RR:=fun acc C=>compPost (model X.prog X.w) X.A X.xe none (EP X pins σ Q) acc C) hc I2 T st2 f2 B cl cc hg ht he q fun D C acc H' s' m hDC hD hC off I' hn qf=>?_;refine ⟨m,hn,fun h' hk=>⟨.ref D,_,off.turned I' (by rw [yW hDC.symm];exact hC) hk,rfl,qf D hD⟩⟩
theorem zen {i:Nat} {y:Str} {py spos:Pos} (hc:X.calm=true) (hi:PI X tg iter wi) (B:BlkSc X sc) (hcap:Caps X sc N cap)
  (hg:∀ X',IsBlock X N sc X'->PG X' tg g) (ht:∀ X',IsBlock X N sc X'->PTs X' ifs tc) (he:∀ X',IsBlock X N sc X'->PE X' elt te)
  (hN:X.N.Nodup) (hy:X.N[i]?=some y) (hx:Loc X.env.scope y) (hf:X.fn y=true\/X.env.scope.names.lookup y=some .local)
  (hsw:swapsWith (.ListComp elt [⟨tg,iter,ifs,0⟩] sc pos) (some (.Name y py)) spos.line X.env=pure true)
  (hs:∀ x,foldedSetIterable iter X.env x=pure x:=by intro _;rfl):PS X (.Assign [.Name y py] (.ListComp elt [⟨tg,iter,ifs,0⟩] sc pos) spos) (tAsg (tLC wi cap g tc te) (zeX i)):=by
 intro pins s σ H D I h;rw [exec_Assign_Name_used _ _ _ _ hsw];refine wpAny_bind (wpAny_standAt (wpAny_bind ?_));show wpAny _ X.A (do let _ ← comprehension (.ListComp elt [⟨tg,iter,ifs,0⟩] sc pos) sc X.env _ (newList []) false (eval iter X.env) (some (assign (.Name y py) X.env))) _ _ s
 refine wpAny_bind (wpAny_mono (wpAny_comprehension_free (use:=some (assign (.Name y py) X.env)) (Q:=fun _ s'=>SP X pins D .next s') rfl hs (dP fun x hx=>I.ok.has x (B.free x hx)) B.kind B.names
  (xT (hi pins s σ H _ I h) fun v s1 h1=>xT h1 fun itv s2 h2=>?_)) (fun _ s' hq=>wpAny_pure (wpAny_pure hq)) fun _ _ e=>e)
 obtain ⟨it,fp,tn,J,H2,e,I2,T,st2,f2,q⟩:=h2;subst e;obtain ⟨cl,cc⟩:=hcap σ I.len;refine zda (RR:=fun acc C=>compPost (model X.prog X.w) X.A X.xe (some (assign (.Name y py) X.env)) (fun _ s'=>SP X pins D .next s') acc C) hc I2 T st2 f2 B cl cc hg ht he q fun D' C acc H' s' m hDC hD hC off I' hn qf=>?_;show wpAny _ X.A (assign (.Name y py) X.env (.ref D')) _ _ _;refine wpAny_assign_Name (cF I' hN hy hx (v:=.ref D') rfl (fun s'' I'' hsm=>?_) hf);obtain ⟨a,hsb,ha⟩:=hsm
 have hCa:C≠a:=by
  rcases ha with ha|ha
  .rw [ha];exact off.ne
  .exact (off.cl y a ha).symm
 refine ⟨m,hn.sameBut hsb hCa,fun h' hk=>⟨_,_,off.turned I'' (by rw [yW hDC.symm];exact hC) hk,qf D' hD⟩⟩
end
end L2
namespace L3
open PySem PySem.Spec PyProof.Rows L2 PySem.SeqAt
mutual
def vF:W->W->Bool
 | .non,.non=>true
 | .bl a,.bl b=>a==b
 | .bl a,.int j=>(if a then 1 else 0)==j
 | .int i,.bl b=>i==(if b then 1 else 0)
 | .int i,.int j=>i==j
 | .str x,.str y=>x==y
 | .tup xs,.tup ys=>uB xs ys
 |_,_=>false
def uB:List W->List W->Bool
 | [],[]=>true
 |x::xs,y::ys=>vF x y&&uB xs ys
 |_,_=>false
end
mutual
def kX:W->Bool
 | .ref _=>false
 | .ty _=>false
 | .lsf _=>false
 | .exc _ _ _=>false
 | .dcf _ _=>false
 | .tup ws=>wW ws
 |_=>true
def wW:List W->Bool
 | []=>true
 |w::ws=>kX w&&wW ws
end
mutual
def dep:W->Nat
 | .tup ws=>wG ws+1
 |_=>0
def wG:List W->Nat
 | []=>0
 |w::ws=>max (dep w) (wG ws)
end
theorem wC {w:W} {ws:List W}:wW (w::ws)=true↔kX w=true/\wW ws=true:=by simp [wW]
section
variable {X : Cx} {pins : List (Addr × Obj)} {σ : L2.St} {H : Hp} {s : Shared}
theorem W.ind {P:W->Prop} (non:P .non) (bl:∀ b,P (.bl b)) (int:∀ i,P (.int i)) (str:∀ x,P (.str x)) (ty:∀ n,P (.ty n)) (ref:∀ a,P (.ref a)) (tup:∀ ws,(∀ w∈ws,P w)->P (.tup ws)) (lsf:∀ ws,P (.lsf ws)) (exc:∀ C ns ws,P (.exc C ns ws)) (dcf:∀ ks ws,P (.dcf ks ws)):∀ w:W,P w:=fun w =>
 W.rec (motive_1:=P) (motive_2:=fun ws=>∀ w∈ws,P w) non bl int str ty ref (fun ws h=>tup ws h) (fun ws _=>lsf ws) (fun C ns ws _=>exc C ns ws) (fun ks ws _=>dcf ks ws) (fun _ h=>nomatch h) (fun w ws h hs v hv=>(List.mem_cons.mp hv).elim (fun e=>e▸h) (hs v)) w
theorem zcg:∀ (ws:List W),(∀ w∈ws,kX w=true->vF w w=true)->wW ws=true->uB ws ws=true:=by
 intro ws
 induction ws with
 |nil=>intro _ _;simp [uB]
 |cons w ws ih =>
  intro h hp;have h':=wC.mp hp;simp only [uB,h w zzT h'.1,ih (fun z hz=>h z (List.mem_cons_of_mem _ hz)) h'.2,Bool.and_self]
theorem ze2 {w:W}:kX w=true->vF w w=true:=by
 induction w using W.ind with
 |non=>intro _;simp [vF]
 |bl _=>intro _;simp [vF]
 |int _=>intro _;simp [vF]
 |str _=>intro _;simp [vF]
 |ty _=>intro h;cases h
 |lsf _=>intro h;cases h
 |exc _ _ _=>intro h;cases h
 |dcf _ _=>intro h;cases h
 |ref _=>intro h;cases h
 |tup ws ih=>intro h;exact zcg ws ih h
theorem bZ (I:Inv X pins σ H s):∀ (xs ys:List W) (vs:List V),(∀ x∈xs,∀ (y:W) (v:V),wQ X.K H x v->wQ X.K H y v->kX x=true->kX y=true->x=y)->zC X.K H xs vs->zC X.K H ys vs->wW xs=true->wW ys=true->xs=ys:=by
 intro xs
 induction xs with
 |nil =>
  intro ys vs _ h h' _ _
  cases ys with
  |nil=>rfl
  |cons y ys=>obtain ⟨_,_,e,_⟩:=h';rw [show _=[] from h] at e;cases e
 |cons x xs ih =>
  intro ys vs hx h h' px py;obtain ⟨v,r,e,q,t⟩:=h;subst e
  cases ys with
  |nil=>cases h'
  |cons y ys =>
   obtain ⟨v',r',e',q',t'⟩:=h';cases e';rw [hx x zzT y v q q' (wC.mp px).1 (wC.mp py).1,ih ys r (fun z hz=>hx z (List.mem_cons_of_mem _ hz)) t t' (wC.mp px).2 (wC.mp py).2]
theorem zcN (I:Inv X pins σ H s):∀ (x y:W) (v:V),wQ X.K H x v->wQ X.K H y v->kX x=true->kX y=true->x=y:=by
 intro x
 induction x using W.ind with
 |tup xs ih =>
  intro y v h h' hx hy;obtain ⟨a,vs,e,q,r⟩:=h;subst e
  cases y with
  |tup ys =>
   obtain ⟨b,us,e',q',r'⟩:=h';cases e';have:=I.tuple_inj q q';subst this;rw [bZ I xs ys vs ih r r' hx hy]
  |ref _=>cases hy
  |ty _=>cases hy
  |lsf _=>cases hy
  |exc _ _ _=>cases hy
  |dcf _ _=>cases hy
  |non=>cases h'
  |bl _=>cases h'
  |int _=>cases h'
  |str _=>cases h'
 |ty _=>intro y v _ _ hx;cases hx
 |lsf _=>intro y v _ _ hx;cases hx
 |exc _ _ _=>intro y v _ _ hx;cases hx
 |dcf _ _=>intro y v _ _ hx;cases hx
 |ref _=>intro y v _ _ hx;cases hx
 |non =>
  intro y v h h' _ hy;cases h
  cases y with
  |tup ys=>obtain ⟨_,_,e,_⟩:=h';cases e
  |ref _=>cases hy
  |ty _=>cases hy
  |lsf _=>cases hy
  |exc _ _ _=>cases hy
  |dcf _ _=>cases hy
  |non=>rfl
  |bl _=>cases h'
  |int _=>cases h'
  |str _=>cases h'
 |bl _ =>
  intro y v h h' _ hy;cases h
  cases y with
  |tup ys=>obtain ⟨_,_,e,_⟩:=h';cases e
  |ref _=>cases hy
  |ty _=>cases hy
  |lsf _=>cases hy
  |exc _ _ _=>cases hy
  |dcf _ _=>cases hy
  |non=>cases h'
  |bl _=>cases h';rfl
  |int _=>cases h'
  |str _=>cases h'
 |int _ =>
  intro y v h h' _ hy;cases h
  cases y with
  |tup ys=>obtain ⟨_,_,e,_⟩:=h';cases e
  |ref _=>cases hy
  |ty _=>cases hy
  |lsf _=>cases hy
  |exc _ _ _=>cases hy
  |dcf _ _=>cases hy
  |non=>cases h'
  |bl _=>cases h'
  |int _=>cases h';rfl
  |str _=>cases h'
 |str _ =>
  intro y v h h' _ hy;cases h
  cases y with
  |tup ys=>obtain ⟨_,_,e,_⟩:=h';cases e
  |ref _=>cases hy
  |ty _=>cases hy
  |lsf _=>cases hy
  |exc _ _ _=>cases hy
  |dcf _ _=>cases hy
  |non=>cases h'
  |bl _=>cases h'
  |int _=>cases h'
  |str _=>cases h';rfl
theorem zeh (I:Inv X pins σ H s) {xs ys:List W} {vs:List V} (h:zC X.K H xs vs) (h':zC X.K H ys vs) (hx:wW xs=true) (hy:wW ys=true):xs=ys :=
 bZ I xs ys vs (fun x _=>zcN I x) h h' hx hy
def sI (xs ys:List W) (j:Nat):Bool:=match xs[j]?,ys[j]? with
 |some x,some y=>vF x y
 |_,_=>false
theorem pQ:∀ xs ys:List W,((List.range (min xs.length ys.length)).all (sI xs ys)&&xs.length==ys.length)=uB xs ys
 | [],[]=>rfl
 | [],_::_=>by simp [uB]
 |_::_,[]=>by simp [uB]
 |x::xs,y::ys=>by
  have ih:=pQ xs ys;simp only [List.length_cons,Nat.add_min_add_right,uB];rw [List.range_succ_eq_map,List.all_cons,List.all_map];have h0:sI (x::xs) (y::ys) 0=vF x y:=rfl;have h1:(sI (x::xs) (y::ys) ∘ Nat.succ)=sI xs ys:=by funext j;simp [sI]
  rw [h0,h1,← ih,Bool.and_assoc];congr 2;simp
theorem ze1 {xs ys:List W} (h:xs.length≠ys.length):uB xs ys=false:=by
 rw [← pQ];have:(xs.length==ys.length)=false:=by simpa using h
 rw [this,Bool.and_false]
theorem zdv {xs ys:List W} (h:xs.length=ys.length):(List.range xs.length).all (sI xs ys)=uB xs ys:=by
 rw [← pQ,h,Nat.min_self];simp
theorem jW (I:Inv X pins σ H s) {ws:List W} {v:V} {u:Value} (h:wQ X.K H (.tup ws) v) (r:yY v u):∃ a vs its,v=.ref a/\u=.ref a/\pF X.K H a vs/\zC X.K H ws vs/\yT vs its/\s.heap.IsTuple a its.toArray/\ws.length<=sizeLine:=by
 obtain ⟨a,vs,rfl,q,rs⟩:=h;obtain ⟨its,vr,it,hl⟩:=I.tuple q;exact ⟨a,vs,its,rfl,r,q,rs,vr,it,by rw [← rs.length];exact hl⟩
theorem zbK (I:Inv X pins σ H s):∀ (xs ys:List W) (vs vs':List V) (us us':List Value) (A:Around),(∀ x∈xs,∀ (y:W) (v v':V) (u u':Value) (A:Around),wQ X.K H x v->yY v u->wQ X.K H y v'->yY v' u'->kX x=true->kX y=true->A.units+min (dep x) (dep y)<cLine->EqAt A s u u' (vF x y)) ->
  zC X.K H xs vs->yT vs us->zC X.K H ys vs'->yT vs' us'->wW xs=true->wW ys=true ->
  A.units+min (wG xs) (wG ys)<cLine->∀ (j:Nat) (h1:j<us.length) (h2:j<us'.length),EqAt A s us[j] us'[j] (sI xs ys j):=by
 intro xs
 induction xs with
 |nil=>intro ys vs vs' us us' A _ h r _ _ _ _ _ j h1;rw [show _=[] from h] at r;cases r;exact absurd h1 (Nat.not_lt_zero _)
 |cons x xs ih =>
  intro ys vs vs' us us' A he h r h' r' hx hy hu j h1 h2
  cases ys with
  |nil=>rw [show _=[] from h'] at r';cases r';exact absurd h2 (Nat.not_lt_zero _)
  |cons y ys =>
   obtain ⟨v,t,e,h,hs⟩:=h;obtain ⟨v',t',e',h',hs'⟩:=h';subst e;subst e'
   cases r with
   |cons r rs =>
    cases r' with
    |cons r' rs' =>
     have px:=wC.mp hx;have py:=wC.mp hy;simp only [wG] at hu
     cases j with
     |zero=>exact he x zzT y _ _ _ _ A h r h' r' px.1 py.1 (by omega)
     |succ j=>exact ih ys _ _ _ _ A (fun z hz=>he z (List.mem_cons_of_mem _ hz)) hs rs hs' rs' px.2 py.2 (by omega) j (Nat.lt_of_succ_lt_succ h1) (Nat.lt_of_succ_lt_succ h2)
theorem zfE (I:Inv X pins σ H s):∀ (x y:W) (v v':V) (u u':Value) (A:Around),wQ X.K H x v->yY v u->wQ X.K H y v'->yY v' u'->kX x=true->kX y=true->A.units+min (dep x) (dep y)<cLine->EqAt A s u u' (vF x y):=by
 intro x
 induction x using W.ind with
 |tup xs ih =>
  intro y v v' u u' A h r h' r' hx hy hu;obtain ⟨a,vs,its,rfl,rfl,q,rs,vr,it,_⟩:=jW I h r
  cases y with
  |tup ys =>
   obtain ⟨b,us,its',rfl,rfl,q',rs',vr',it',_⟩:=jW I h' r'
   by_cases e:a=b
   .subst e;have:=I.tuple_inj q q';subst this;have:=zeh I rs rs' hx hy;subst this;rw [show vF (.tup xs) (.tup xs)=true from ze2 (w:=.tup xs) hx];exact EqAt.same _
   .show EqAt A s _ _ (uB xs ys);rw [← pQ];have l1:its.toArray.size=xs.length:=by rw [zzS,← vr.length,rs.length]
    have l2:its'.toArray.size=ys.length:=by rw [zzS,← vr'.length,rs'.length]
    rw [← l1,← l2];refine EqAt.of_refs e (RcAt.tuples it it' (by simp only [dep] at hu;omega) fun j j1 j2=>?_);exact zbK I xs ys _ _ _ _ A.in1 ih rs vr rs' vr' hx hy (by simp only [dep] at hu;show A.units+1+_<_;omega) j (by simpa using j1) (by simpa using j2)
  |ref _=>cases hy
  |ty _=>cases hy
  |lsf _=>cases hy
  |exc _ _ _=>cases hy
  |dcf _ _=>cases hy
  |non=>cases h';cases r';exact EqAt.tuple_none it (by omega)
  |bl _=>cases h';cases r';exact EqAt.tuple_bool _ it (by omega)
  |int _=>cases h';obtain ⟨t,rfl⟩:=r';exact EqAt.tuple_int _ _ it (by omega)
  |str _=>cases h';obtain ⟨t,rfl⟩:=r';exact EqAt.tuple_str _ _ it (by omega)
 |ty _=>intro y v v' u u' A _ _ _ _ hx;cases hx
 |lsf _=>intro y v v' u u' A _ _ _ _ hx;cases hx
 |exc _ _ _=>intro y v v' u u' A _ _ _ _ hx;cases hx
 |dcf _ _=>intro y v v' u u' A _ _ _ _ hx;cases hx
 |ref _=>intro y v v' u u' A _ _ _ _ hx;cases hx
 |non =>
  intro y v v' u u' A h r h' r' hx hy hu;cases h;cases r
  cases y with
  |tup ys=>obtain ⟨b,us,its',rfl,rfl,q',rs',vr',it',_⟩:=jW I h' r';exact EqAt.none_tuple it' (by omega)
  |ref _=>cases hy
  |ty _=>cases hy
  |lsf _=>cases hy
  |exc _ _ _=>cases hy
  |dcf _ _=>cases hy
  |non=>cases h';cases r';exact EqAt.same _
  |bl _=>cases h';cases r';exact EqAt.none_bool _
  |int _=>cases h';obtain ⟨t,rfl⟩:=r';exact EqAt.none_int _ _
  |str _=>cases h';obtain ⟨t,rfl⟩:=r';exact EqAt.none_str _ _
 |bl _ =>
  intro y v v' u u' A h r h' r' hx hy hu;cases h;cases r
  cases y with
  |tup ys=>obtain ⟨b,us,its',rfl,rfl,q',rs',vr',it',_⟩:=jW I h' r';exact EqAt.bool_tuple _ it' (by omega)
  |ref _=>cases hy
  |ty _=>cases hy
  |lsf _=>cases hy
  |exc _ _ _=>cases hy
  |dcf _ _=>cases hy
  |non=>cases h';cases r';exact EqAt.bool_none _
  |bl _=>cases h';cases r';exact EqAt.bool_bool _ _
  |int _=>cases h';obtain ⟨t,rfl⟩:=r';exact EqAt.bool_int _ _ _
  |str _=>cases h';obtain ⟨t,rfl⟩:=r';exact EqAt.bool_str _ _ _
 |int _ =>
  intro y v v' u u' A h r h' r' hx hy hu;cases h;obtain ⟨t0,rfl⟩:=r
  cases y with
  |tup ys=>obtain ⟨b,us,its',rfl,rfl,q',rs',vr',it',_⟩:=jW I h' r';exact EqAt.int_tuple _ _ it' (by omega)
  |ref _=>cases hy
  |ty _=>cases hy
  |lsf _=>cases hy
  |exc _ _ _=>cases hy
  |dcf _ _=>cases hy
  |non=>cases h';cases r';exact EqAt.int_none _ _
  |bl _=>cases h';cases r';exact EqAt.int_bool _ _ _
  |int _=>cases h';obtain ⟨t,rfl⟩:=r';exact EqAt.int_int _ _ _ _
  |str _=>cases h';obtain ⟨t,rfl⟩:=r';exact EqAt.int_str _ _ _ _
 |str _ =>
  intro y v v' u u' A h r h' r' hx hy hu;cases h;obtain ⟨t0,rfl⟩:=r
  cases y with
  |tup ys=>obtain ⟨b,us,its',rfl,rfl,q',rs',vr',it',_⟩:=jW I h' r';exact EqAt.str_tuple _ _ it' (by omega)
  |ref _=>cases hy
  |ty _=>cases hy
  |lsf _=>cases hy
  |exc _ _ _=>cases hy
  |dcf _ _=>cases hy
  |non=>cases h';cases r';exact EqAt.str_none _ _
  |bl _=>cases h';cases r';exact EqAt.str_bool _ _ _
  |int _=>cases h';obtain ⟨t,rfl⟩:=r';exact EqAt.str_int _ _ _ _
  |str _=>cases h';obtain ⟨t,rfl⟩:=r';exact EqAt.str_str _ _ _ _
theorem zdx (I:Inv X pins σ H s) {xs ys:List W} {vs vs':List V} {us us':List Value} {A:Around} (h:zC X.K H xs vs) (r:yT vs us) (h':zC X.K H ys vs') (r':yT vs' us') (hx:wW xs=true) (hy:wW ys=true)
  (hu:A.units+min (wG xs) (wG ys)<cLine):∀ (j:Nat) (h1:j<us.length) (h2:j<us'.length),EqAt A s us[j] us'[j] (sI xs ys j) :=
 zbK I xs ys _ _ _ _ A (fun x _=>zfE I x) h r h' r' hx hy hu
end
section
variable {X : Cx} {pins : List (Addr × Obj)} {σ : L2.St} {H : Hp} {s : Shared}
theorem zhN (I:Inv X pins σ H s) (x y:W) (v v':V) (u u':Value) (A:Around) (h:wQ X.K H x v) (r:yY v u) (h':wQ X.K H y v') (r':yY v' u') (hx:kX x=true) (hy:kX y=true) (hu:A.units+min (dep x) (dep y)<cLine):RcAt A s u u' (vF x y)/\RcNeAt A s u u' (!vF x y):=by
 have h0:A.units<cLine:=by omega
 cases x with
 |ref _=>cases hx
 |ty _=>cases hx
 |lsf _=>cases hx
 |exc _ _ _=>cases hx
 |dcf _ _=>cases hx
 |tup xs =>
  obtain ⟨a,vs,its,rfl,rfl,q,rs,vr,it,_⟩:=jW I h r
  cases y with
  |ref _=>cases hy
  |ty _=>cases hy
  |lsf _=>cases hy
  |exc _ _ _=>cases hy
  |dcf _ _=>cases hy
  |tup ys =>
   obtain ⟨b,us,its',rfl,rfl,q',rs',vr',it',_⟩:=jW I h' r';have l1:its.toArray.size=xs.length:=by rw [zzS,← vr.length,rs.length]
   have l2:its'.toArray.size=ys.length:=by rw [zzS,← vr'.length,rs'.length]
   have key:∀ (j:Nat) (j1:j<its.toArray.size) (j2:j<its'.toArray.size),EqAt A.in1 s its.toArray[j] its'.toArray[j] (sI xs ys j):=fun j j1 j2 =>
    zdx I rs vr rs' vr' hx hy (A:=A.in1) (by simp only [dep] at hu;show A.units+1+_<_;omega) j (by simpa using j1) (by simpa using j2)
   show RcAt A s _ _ (uB xs ys)/\RcNeAt A s _ _ (!uB xs ys);rw [← pQ,← l1,← l2];exact ⟨RcAt.tuples it it' h0 key,RcNeAt.tuples it it' h0 key⟩
  |non=>cases h';cases r';exact ⟨RcAt.tuple_none it h0,RcNeAt.tuple_none it h0⟩
  |bl _=>cases h';cases r';exact ⟨RcAt.tuple_bool _ it h0,RcNeAt.tuple_bool _ it h0⟩
  |int _=>cases h';obtain ⟨t,rfl⟩:=r';exact ⟨RcAt.tuple_int _ _ it h0,RcNeAt.tuple_int _ _ it h0⟩
  |str _=>cases h';obtain ⟨t,rfl⟩:=r';exact ⟨RcAt.tuple_str _ _ it h0,RcNeAt.tuple_str _ _ it h0⟩
 |non =>
  cases h;cases r
  cases y with
  |ref _=>cases hy
  |ty _=>cases hy
  |lsf _=>cases hy
  |exc _ _ _=>cases hy
  |dcf _ _=>cases hy
  |tup ys=>obtain ⟨b,us,its',rfl,rfl,q',rs',vr',it',_⟩:=jW I h' r';exact ⟨RcAt.none_tuple it' h0,RcNeAt.none_tuple it' h0⟩
  |non=>cases h';cases r';exact ⟨RcAt.none_none,RcNeAt.none_none⟩
  |bl _=>cases h';cases r';exact ⟨RcAt.none_bool _,RcNeAt.none_bool _⟩
  |int _=>cases h';obtain ⟨t,rfl⟩:=r';exact ⟨RcAt.none_int _ _,RcNeAt.none_int _ _⟩
  |str _=>cases h';obtain ⟨t,rfl⟩:=r';exact ⟨RcAt.none_str _ _,RcNeAt.none_str _ _⟩
 |bl _ =>
  cases h;cases r
  cases y with
  |ref _=>cases hy
  |ty _=>cases hy
  |lsf _=>cases hy
  |exc _ _ _=>cases hy
  |dcf _ _=>cases hy
  |tup ys=>obtain ⟨b,us,its',rfl,rfl,q',rs',vr',it',_⟩:=jW I h' r';exact ⟨RcAt.bool_tuple _ it' h0,RcNeAt.bool_tuple _ it' h0⟩
  |non=>cases h';cases r';exact ⟨RcAt.bool_none _,RcNeAt.bool_none _⟩
  |bl _=>cases h';cases r';exact ⟨RcAt.bool_bool _ _,RcNeAt.bool_bool _ _⟩
  |int _=>cases h';obtain ⟨t,rfl⟩:=r';exact ⟨RcAt.bool_int _ _ _,RcNeAt.bool_int _ _ _⟩
  |str _=>cases h';obtain ⟨t,rfl⟩:=r';exact ⟨RcAt.bool_str _ _ _,RcNeAt.bool_str _ _ _⟩
 |int _ =>
  cases h;obtain ⟨t0,rfl⟩:=r
  cases y with
  |ref _=>cases hy
  |ty _=>cases hy
  |lsf _=>cases hy
  |exc _ _ _=>cases hy
  |dcf _ _=>cases hy
  |tup ys=>obtain ⟨b,us,its',rfl,rfl,q',rs',vr',it',_⟩:=jW I h' r';exact ⟨RcAt.int_tuple _ _ it' h0,RcNeAt.int_tuple _ _ it' h0⟩
  |non=>cases h';cases r';exact ⟨RcAt.int_none _ _,RcNeAt.int_none _ _⟩
  |bl _=>cases h';cases r';exact ⟨RcAt.int_bool _ _ _,RcNeAt.int_bool _ _ _⟩
  |int _=>cases h';obtain ⟨t,rfl⟩:=r';exact ⟨RcAt.int_int _ _ _ _,RcNeAt.int_int _ _ _ _⟩
  |str _=>cases h';obtain ⟨t,rfl⟩:=r';exact ⟨RcAt.int_str _ _ _ _,RcNeAt.int_str _ _ _ _⟩
 |str _ =>
  cases h;obtain ⟨t0,rfl⟩:=r
  cases y with
  |ref _=>cases hy
  |ty _=>cases hy
  |lsf _=>cases hy
  |exc _ _ _=>cases hy
  |dcf _ _=>cases hy
  |tup ys=>obtain ⟨b,us,its',rfl,rfl,q',rs',vr',it',_⟩:=jW I h' r';exact ⟨RcAt.str_tuple _ _ it' h0,RcNeAt.str_tuple _ _ it' h0⟩
  |non=>cases h';cases r';exact ⟨RcAt.str_none _ _,RcNeAt.str_none _ _⟩
  |bl _=>cases h';cases r';exact ⟨RcAt.str_bool _ _ _,RcNeAt.str_bool _ _ _⟩
  |int _=>cases h';obtain ⟨t,rfl⟩:=r';exact ⟨RcAt.str_int _ _ _ _,RcNeAt.str_int _ _ _ _⟩
  |str _=>cases h';obtain ⟨t,rfl⟩:=r';exact ⟨RcAt.str_str _ _ _ _,RcNeAt.str_str _ _ _ _⟩
theorem zc6 (I:Inv X pins σ H s) {G:Hw} {p:Addr} {ws:List W} (ab:xC X.K H G) (e:yJ G p=some ws):∃ vs its,mR X.K H p vs/\zC X.K H ws vs/\yT vs its/\s.heap.IsList p its.toArray/\PlainL s.heap p its.toArray/\ws.length<=sizeLine:=by
 obtain ⟨vs,q,r⟩:=ab.seq e;obtain ⟨its,vr,pl,hl⟩:=I.list q;exact ⟨vs,its,q,r,vr,(let ⟨o,n,h1,h2,_,h3⟩:=pl;⟨o,h1,h2,n,h3⟩),pl,by rw [← r.length];exact hl⟩
theorem zhO (I:Inv X pins σ H s) {G:Hw} {p q:Addr} {xs ys:List W} {A:Around} (ab:xC X.K H G) (e:yJ G p=some xs) (e':yJ G q=some ys) (hx:wW xs=true) (hy:wW ys=true) (hu:A.units+1+min (wG xs) (wG ys)<cLine) :
  RcAt A s (.ref p) (.ref q) (uB xs ys)/\RcNeAt A s (.ref p) (.ref q) (!uB xs ys):=by
 obtain ⟨vs,its,_,rs,vr,il,_⟩:=zc6 I ab e;obtain ⟨us,its',_,rs',vr',il',_⟩:=zc6 I ab e';have h0:A.units<cLine:=by omega
 have l1:its.toArray.size=xs.length:=by rw [zzS,← vr.length,rs.length]
 have l2:its'.toArray.size=ys.length:=by rw [zzS,← vr'.length,rs'.length]
 have key:∀ (j:Nat) (j1:j<its.toArray.size) (j2:j<its'.toArray.size),EqAt A.in1 s its.toArray[j] its'.toArray[j] (sI xs ys j):=fun j j1 j2 =>
  zdx I rs vr rs' vr' hx hy (A:=A.in1) hu j (by simpa using j1) (by simpa using j2)
 by_cases hl:xs.length=ys.length
 .rw [← zdv hl,← l1];exact ⟨RcAt.lists il il' (by omega) h0 key,RcNeAt.lists il il' (by omega) h0 key⟩
 .rw [ze1 hl];have:(its.toArray.size != its'.toArray.size)=true:=by simp only [bne_iff_ne];omega
  exact ⟨RcAt.lists_lengths il il' this h0,RcNeAt.lists_lengths il il' this h0⟩
end
end L3
namespace PySem
open Sem (wp)
open Builtin
theorem cJ:fillsNumberSlot (.type "tuple") "mul" = pure false :=
 fillsNumberSlot_seq (id := "tuple.__mul__") (r:=some (.builtin "tuple.__rmul__")) F.slot_tuple_mul.lookup (by decide +kernel) F.slot_tuple_rmul.lookup (by decide +kernel)
theorem cK:seqRepeat? (.type "tuple")=pure (some (.builtin "tuple.__mul__")):=by
 unfold seqRepeat?;rw [seqSlot_of (T := "tuple") (name := "__mul__") (id := "tuple.__mul__") F.slot_tuple_mul.lookup (by decide +kernel),seqSlot_of (T := "tuple") (name := "__rmul__") (id := "tuple.__rmul__") F.slot_tuple_rmul.lookup (by decide +kernel)];rfl
theorem zcs (a:Int) (t:Tok) (l:Addr) (items:Array Value) (n:Nat) (dd:Option Addr) (sl:Array (Option Value)) :
  Meets (Builtin.«int.__rmul__» ⟨[.int a t,.ref l],[]⟩) (fun _ R s=>s.heap.get? l=some { cls:=.type "tuple", dict:=dd,data:=.seq items n,slots:=sl }/\R (.ok (.ret Value.notImplemented)) s) :=
 .of_wp fun prog w A R s h=>by obtain ⟨hp,g,d,tk,os⟩:=s;obtain ⟨hl,h⟩:=h;wp_walk;exact ⟨_,rfl,h⟩
theorem zhm (l:Addr) (items:Array Value) (n:Nat) (u:Tok) (dd:Option Addr) (sl:Array (Option Value)) :
  Meets (Builtin.«tuple.__mul__» ⟨[.ref l,.int 1 u],[]⟩) (fun _ R s=>s.heap.get? l=some { cls:=.type "tuple", dict:=dd,data:=.seq items n,slots:=sl }/\R (.ok (.ret (Value.ref l))) s) :=
 .of_wp fun prog w A R s h=>by obtain ⟨hp,g,d,tk,os⟩:=s;obtain ⟨hl,h⟩:=h;wp_walk;exact ⟨_,rfl,h⟩
theorem zfM (l:Addr) (items:Array Value) (n:Nat) (u:Tok) (dd:Option Addr) (sl:Array (Option Value)) (hi:items.isEmpty=false) :
  Meets (Builtin.«tuple.__mul__» ⟨[.ref l,.int 0 u],[]⟩) (fun _ R s=>s.heap.get? l=some { cls:=.type "tuple", dict:=dd,data:=.seq items n,slots:=sl }/\R (.ok (.ret (Value.ref s.heap.objs.size))) { s with heap:=s.heap.push { cls:=.type "tuple", data:=.seq #[] } }) :=
 .of_wp fun prog w A R s h=>by obtain ⟨hp,g,d,tk,os⟩:=s;obtain ⟨hl,h⟩:=h;wp_walk;exact ⟨_,rfl,h⟩
end PySem
namespace L3
open PySem PySem.Spec PyProof.Rows L2
section
variable {X : Cx}
def rRepT (K:yG):R2:=fun x y H Q=>∃ a k xs,x=.ref a/\y=.int k/\pF K H a xs/\((k=1/\Q (.ref a) H)\/(k=0/\xs≠[]/\∀ p,H p=none->Q (.ref p) (xB H p (.tup []))))
theorem zgh:vC X (binaryOp .Mult) (rRepT X.K):=by
 intro pins s σ H x y v u Q I rx ry h;obtain ⟨a,k,xs,rfl,rfl,ha,h⟩:=h;cases rx;obtain ⟨t,rfl⟩:=ry;obtain ⟨its,r1,p1,_⟩:=I.tuple ha;obtain ⟨⟨cls,dd,data,sl⟩,ho,hc,n,hd⟩:=id p1;simp only at hc hd;subst hc hd;rcases h with ⟨rfl,q⟩|⟨rfl,hx,q⟩
 .exact wpAny_binaryOp_repeat_ref (T := "tuple") (U := "int") (by decide) ⟨_,ho,rfl⟩ (fun s'=>typeIs_int s' 1 t) cJ F.fills_int_mul F.slot_int_rmul cK F.slot_int_index.lookup
   (call_meets F.slot_int_rmul (typeIs_int s 1 t) F.entry_int_rmul (F.args_int_rmul_2 _ _) (zcs 1 t a its.toArray n dd sl)
    ⟨ho,rfl,⟨_,ho,rfl⟩,call_meets F.slot_tuple_mul ⟨_,ho,rfl⟩ F.entry_tuple_mul (F.args_tuple_mul_2 _ _) (zhm a its.toArray n t dd sl) ⟨ho,.ref a,H,I,rfl,q⟩⟩)
 .have he:its.toArray.isEmpty=false:=by
   cases its with
   |nil=>exact absurd (r1.nil_iff.mp rfl) hx
   |cons _ _=>rfl
  refine wpAny_binaryOp_repeat_ref (T := "tuple") (U := "int") (by decide) ⟨_,ho,rfl⟩ (fun s'=>typeIs_int s' 0 t) cJ F.fills_int_mul F.slot_int_rmul cK F.slot_int_index.lookup
   (call_meets F.slot_int_rmul (typeIs_int s 0 t) F.entry_int_rmul (F.args_int_rmul_2 _ _) (zcs 0 t a its.toArray n dd sl)
    ⟨ho,rfl,⟨_,ho,rfl⟩,call_meets F.slot_tuple_mul ⟨_,ho,rfl⟩ F.entry_tuple_mul (F.args_tuple_mul_2 _ _) (zfM a its.toArray n t dd sl he) ⟨ho,?_⟩⟩)
  refine ⟨.ref s.heap.objs.size,_,I.laid (t':=s.toks) (o:=.tup []) (fun b ob q=>Heap.get?_push_of_some _ q) (zzR _) ?_,rfl,q _ (I.hok.fresh (zzR _))⟩;exact ⟨Nat.zero_le _,[],.nil,IsTup.new _ _⟩
end
end L3
namespace L3
open PySem PySem.Spec PyProof.Rows L2 PySem.SeqAt
abbrev R3:=W->W->Hw->Q3->Prop
def sL (K:yG) (H:Hp) (Q:VK):Q3:=fun w G'=>∀ v H',xZ K H H'->wQ K H' w v->xC K H' G'->Q v H'
def mQ (r:R3):Prop:=∀ x y G (Q Q':Q3),(∀ w G',Q w G'->Q' w G')->r x y G Q->r x y G Q'
def nS (K:yG) (r:R3):R2:=fun v u H Q=>∃ x y G,wQ K H x v/\wQ K H y u/\xC K H G/\r x y G (sL K H Q)
def jS:Operator->R3
 | .Add=>fun x y G Q=>match x,y with
  | .int i,.int j=>Q (.int (i+j)) G
  | .str a,.str b=>a.length+b.length<=sizeLine/\Q (.str (a++b)) G
  | .tup a,.tup b=>a.length+b.length<=sizeLine/\Q (.tup (a++b)) G
  | .ref p,.ref q=>(match G p,G q with
   |some (.lst xs),some (.lst ys)=>xs.length+ys.length<=sizeLine/\∀ r,G r=none->Q (.ref r) (put G r (.lst (xs++ys)))
   |_,_=>False)
  |_,_=>False
 | .Sub=>fun x y G Q=>match x,y with
  | .int i,.int j=>Q (.int (i-j)) G
  |_,_=>False
 | .Mult=>fun x y G Q=>match x,y with
  | .int i,.int j=>CMul i j/\Q (.int (i * j)) G
  | .tup xs,.int k=>(k=1/\Q (.tup xs) G)\/(k=0/\xs≠[]/\Q (.tup []) G)
  | .ref p,.int k=>(match G p with
   |some (.lst xs)=>(-(2 ^ 63)<=k/\k<2 ^ 63/\xs.length * k.toNat<=sizeLine)/\∀ r,G r=none->Q (.ref r) (put G r (.lst (List.replicate k.toNat xs).flatten))
   |_=>False)
  |_,_=>False
 | .Mod=>fun x y G Q=>match x,y with
  | .int i,.int j=>0<j/\Q (.int (i % j)) G
  |_,_=>False
 | .FloorDiv=>fun x y G Q=>match x,y with
  | .int i,.int j=>CDiv i j/\Q (.int (i / j)) G
  |_,_=>False
 | .Pow=>fun x y G Q=>match x,y with
  | .int i,.int j=>CPow i j/\Q (.int (i ^ j.toNat)) G
  |_,_=>False
 |_=>fun _ _ _ _=>False
theorem zaw:∀ op,mQ (jS op):=by
 intro op x y G Q Q' k h
 cases op with
 |Add =>
  cases x with
  |int i=>cases y with
   |int j=>exact k _ _ h
   |_=>exact h.elim
  |str i=>cases y with
   |str j=>exact ⟨h.1,k _ _ h.2⟩
   |_=>exact h.elim
  |tup a=>cases y with
   |tup b=>exact ⟨h.1,k _ _ h.2⟩
   |_=>exact h.elim
  |ref p=>cases y with
   |ref q =>
    simp only [jS] at h ⊢
    split at h
    .exact ⟨h.1,fun r hr=>k _ _ (h.2 r hr)⟩
    .exact h.elim
   |_=>exact h.elim
  |_=>exact h.elim
 |Mult =>
  cases x with
  |int i=>cases y with
   |int j=>exact ⟨h.1,k _ _ h.2⟩
   |_=>exact h.elim
  |tup a=>cases y with
   |int j=>exact h.imp (fun z=>⟨z.1,k _ _ z.2⟩) fun z=>⟨z.1,z.2.1,k _ _ z.2.2⟩
   |_=>exact h.elim
  |ref p=>cases y with
   |int q =>
    simp only [jS] at h ⊢
    split at h
    .exact ⟨h.1,fun r hr=>k _ _ (h.2 r hr)⟩
    .exact h.elim
   |_=>exact h.elim
  |_=>exact h.elim
 |Sub =>
  cases x with
  |int i=>cases y with
   |int j=>exact k _ _ h
   |_=>exact h.elim
  |_=>exact h.elim
 |Mod =>
  cases x with
  |int i=>cases y with
   |int j=>exact ⟨h.1,k _ _ h.2⟩
   |_=>exact h.elim
  |_=>exact h.elim
 |FloorDiv =>
  cases x with
  |int i=>cases y with
   |int j=>exact ⟨h.1,k _ _ h.2⟩
   |_=>exact h.elim
  |_=>exact h.elim
 |Pow =>
  cases x with
  |int i=>cases y with
   |int j=>exact ⟨h.1,k _ _ h.2⟩
   |_=>exact h.elim
  |_=>exact h.elim
 |_=>exact h.elim
section
variable {X : Cx}
theorem zC.nil_iff {K:yG} {H:Hp} {ws:List W} {vs:List V} (h:zC K H ws vs):vs=[]↔ws=[]:=by
 have:=h.length
 constructor
 .intro e;subst e;exact List.eq_nil_of_length_eq_zero this.symm
 .intro e;subst e;exact List.eq_nil_of_length_eq_zero this
theorem zhc {pins:List (Addr×Obj)} {s:Shared} {σ:L2.St} {H:Hp} {a b:Addr} {Q:Value->Shared->Prop} {E:Value->Shared->Prop} {ws:List Value} (ht:IsTup s.heap a #[]) (hb:IsTup s.heap b ws.toArray) (h:Q (.ref b) s) :
  wpAny (model X.prog X.w) X.A (binaryOp .Add (.ref a) (.ref b)) Q E s:=by
 obtain ⟨⟨cls,dd,data,sl⟩,ho,hc,n,hd⟩:=id ht;obtain ⟨⟨cls2,dd2,data2,sl2⟩,ho2,hc2,n2,hd2⟩:=id hb;simp only at hc hd hc2 hd2;subst hc hd hc2 hd2
 exact concat_meets ⟨_,ho,rfl⟩ ⟨_,ho2,rfl⟩ noFill_tuple_add seq_tuple_add PySem.F.slot_tuple_add PySem.F.entry_tuple_add (PySem.F.args_tuple_add_2 _ _)
  (tuple_addW0 a b #[] ws.toArray n n2 dd dd2 sl sl2 rfl) ⟨ho,ho2,h⟩
theorem uX {K:yG} {H:Hp} {G:Hw} {Q:VK} {ws:List W} {vs:List V} (ab:xC K H G) (r:zC K H ws vs) (h:∀ p,G p=none->sL K H Q (.ref p) (put G p (.lst ws))):∀ p,H p=none->Q (.ref p) (xB H p (.lst vs)):=fun p hp =>
 h p (ab.free hp) _ _ (wH hp) rfl (ab.new hp ⟨vs,rfl,r.mono (wH hp)⟩)
theorem pZ {K:yG} {H:Hp} {G:Hw} {Q:VK} {ws:List W} {vs:List V} (ab:xC K H G) (r:zC K H ws vs) (h:sL K H Q (.tup ws) G):∀ p,H p=none->Q (.ref p) (xB H p (.tup vs)):=fun p hp =>
 h _ _ (wH hp) ⟨p,vs,rfl,.of qY,r.mono (wH hp)⟩ (ab.tup hp)
theorem zC.flat {K:yG} {H:Hp} {ws:List W} {vs:List V} (h:zC K H ws vs):∀ k:Nat,zC K H (List.replicate k ws).flatten (List.replicate k vs).flatten
 | 0=>rfl
 |k+1=>by rw [List.replicate_succ,List.replicate_succ,List.flatten_cons,List.flatten_cons];exact h.append (zC.flat h k)
theorem zja (op:Operator):vC X (binaryOp op) (nS X.K (jS op)):=by
 intro pins s σ H v u a b Q I rv ru h;obtain ⟨x,y,G,rx,ry,ab,h⟩:=h
 cases op with
 |Add =>
  cases x with
  |int i =>
   cases y with
   |int j=>cases rx;cases ry;exact zij pins s σ H _ _ _ _ Q I rv ru ⟨i,j,rfl,rfl,h _ _ .refl rfl ab⟩
   |_=>exact h.elim
  |str i =>
   cases y with
   |str j=>cases rx;cases ry;exact zb4 pins s σ H _ _ _ _ Q I rv ru ⟨i,j,rfl,rfl,h.1,h.2 _ _ .refl rfl ab⟩
   |_=>exact h.elim
  |tup xs =>
   cases y with
   |tup ys =>
    obtain ⟨a1,vs,its,rfl,rfl,q,rs,vr,it,_⟩:=jW I rx rv;obtain ⟨b1,us,its',rfl,rfl,q',rs',vr',it',_⟩:=jW I ry ru
    by_cases e:xs=[]
    .subst e;have e1:vs=[]:=(rs.nil_iff).mpr rfl;subst e1;cases vr;exact zhc (pins:=pins) (σ:=σ) (H:=H) it it' ⟨.ref b1,H,I,rfl,h.2 _ _ .refl ⟨b1,us,rfl,q',rs'⟩ ab⟩
    .refine zgj pins s σ H (.ref a1) (.ref b1) _ _ Q I rfl rfl ⟨a1,b1,vs,us,rfl,rfl,q,q',fun z=>e (rs.nil_iff.mp z),by rw [rs.length,rs'.length];exact h.1,fun z=>?_,fun _=>?_⟩
     .have:ys=[]:=rs'.nil_iff.mp z;subst this;exact h.2 _ _ .refl ⟨a1,vs,rfl,q,by rw [List.append_nil];exact rs⟩ ab
     .exact pZ ab (rs.append rs') h.2
   |_=>exact h.elim
  |ref p =>
   cases y with
   |ref q =>
    cases rx;cases ry;simp only [jS] at h
    split at h
    .rename_i xs ys e1 e2;obtain ⟨vs,q1,r1⟩:=ab.lst e1;obtain ⟨us,q2,r2⟩:=ab.lst e2;exact zii pins s σ H _ _ _ _ Q I rv ru ⟨p,q,vs,us,rfl,rfl,q1,q2,by rw [r1.length,r2.length];exact h.1,uX ab (r1.append r2) h.2⟩
    .exact h.elim
   |_=>exact h.elim
  |_=>exact h.elim
 |Sub =>
  cases x with
  |int i =>
   cases y with
   |int j=>cases rx;cases ry;exact zid pins s σ H _ _ _ _ Q I rv ru ⟨i,j,rfl,rfl,h _ _ .refl rfl ab⟩
   |_=>exact h.elim
  |_=>exact h.elim
 |Mult =>
  cases x with
  |int i =>
   cases y with
   |int j=>cases rx;cases ry;exact zig pins s σ H _ _ _ _ Q I rv ru ⟨i,j,rfl,rfl,h.1,h.2 _ _ .refl rfl ab⟩
   |_=>exact h.elim
  |tup xs =>
   cases y with
   |int k =>
    obtain ⟨a1,vs,its,rfl,rfl,q,rs,vr,it,_⟩:=jW I rx rv;cases ry;refine zgh pins s σ H (.ref a1) (.int k) _ _ Q I rfl ru ⟨a1,k,vs,rfl,rfl,q,?_⟩;rcases h with ⟨e,h⟩|⟨e,hx,h⟩
    .exact .inl ⟨e,h _ _ .refl ⟨a1,vs,rfl,q,rs⟩ ab⟩
    .exact .inr ⟨e,fun z=>hx (rs.nil_iff.mp z),pZ ab (ws:=[]) (vs:=[]) rfl h⟩
   |_=>exact h.elim
  |ref p =>
   cases y with
   |int k =>
    cases rx;cases ry;simp only [jS] at h
    split at h
    .rename_i xs e1;obtain ⟨vs,q1,r1⟩:=ab.lst e1;exact zie pins s σ H _ _ _ _ Q I rv ru ⟨p,k,vs,rfl,rfl,q1,h.1.1,h.1.2.1,by rw [r1.length];exact h.1.2.2,uX ab (r1.flat _) h.2⟩
    .exact h.elim
   |_=>exact h.elim
  |_=>exact h.elim
 |Mod =>
  cases x with
  |int i =>
   cases y with
   |int j=>cases rx;cases ry;exact zih pins s σ H _ _ _ _ Q I rv ru ⟨i,j,rfl,rfl,h.1,h.2 _ _ .refl rfl ab⟩
   |_=>exact h.elim
  |_=>exact h.elim
 |FloorDiv =>
  cases x with
  |int i =>
   cases y with
   |int j=>cases rx;cases ry;exact zgi pins s σ H _ _ _ _ Q I rv ru ⟨i,j,rfl,rfl,h.1,h.2 _ _ .refl rfl ab⟩
   |_=>exact h.elim
  |_=>exact h.elim
 |Pow =>
  cases x with
  |int i =>
   cases y with
   |int j=>cases rx;cases ry;exact zif pins s σ H _ _ _ _ Q I rv ru ⟨i,j,rfl,rfl,h.1,h.2 _ _ .refl rfl ab⟩
   |_=>exact h.elim
  |_=>exact h.elim
 |_=>exact h.elim
end
theorem fE {k:Str}:∀ {es:List DictEntry} {ks:List Str} {vs:List V},zhh es ks vs->(es.all fun e=>isExactStrKey e.key)=true/\(match (ks.zip vs).lookup k with
  |some v=>∃ u,(es.find? fun e=>e.key.isStr k).map (·.val)=some u/\yY v u
  |none=>(es.find? fun e=>e.key.isStr k).map (·.val)=none)
 | [],ks,vs,h=>by obtain ⟨rfl,rfl⟩:=h;exact ⟨rfl,rfl⟩
 |e::r,ks,vs,h=>by
  obtain ⟨x,t,v,ks',vs',rfl,rfl,hk,hv,hr⟩:=h;have ih:=fE (k:=k) hr;refine ⟨by rw [List.all_cons,hk,ih.1];rfl,?_⟩;rw [List.zip_cons_cons,List.lookup_cons,List.find?_cons,KTD.key_is hk k]
  by_cases hx:k=x
  .subst hx;simp only [beq_self_eq_true,decide_true];exact ⟨e.val,rfl,hv⟩
  .have e1:(k==x)=false:=by simpa using hx
   rw [e1,decide_eq_false hx];exact ih.2
theorem zdi {X:Cx} {pins:List (Addr×Obj)} {σ:L2.St} {H:Hp} {s:Shared} {a:Addr} {ks:List Str} {vs:List V} {k:Str} {tk:Tok} {A:Around} {Q:Option Value->Shared->Prop} {E:Value->Shared->Prop} (I:Inv X pins σ H s) (h:KD X.K a ks vs)
  (q:match (ks.zip vs).lookup k with|some v=>∀ u s',yY v u->Inv X pins σ H s'->Q (some u) s'|none=>∀ s',Inv X pins σ H s'->Q none s'):wpAny (model X.prog X.w) A (dictGet a (.str k tk)) Q E s:=by
 obtain ⟨o,es,ep,l,_,hd,_,_,hr⟩:=h;have ho:=I.kIn _ _ l;obtain ⟨hx,hf⟩:=fE (k:=k) hr;have J:Inv X pins σ H { s with toks:=s.toks+1 }:=I.tok _;unfold dictGet
 try with_reducible refine wpAny_holding ?_
 refine wpAny_bind (wpAny_pyHash_str (wpAny_bind ?_));refine KTD.kt_dictFind_strs (s:={ s with toks:=s.toks+1 }) ho hd (by obtain ⟨es'⟩:=es;simpa using hx) ?_
 have key:Q (findBy (fun k v=>v.isStr k) es k) { s with toks:=s.toks+1 }:=by
  have e:findBy (fun k v=>v.isStr k) es k=(es.toList.find? fun e=>e.key.isStr k).map (·.val):=by obtain ⟨es'⟩:=es;simp [findBy]
  rw [e];revert q hf
  cases (ks.zip vs).lookup k with
  |some v=>intro q hf;obtain ⟨u,e1,r⟩:=hf;rw [e1];exact q u _ r J
  |none=>intro q hf;rw [hf];exact q _ J
 rw [findBy_of_findIdx?] at key;revert key
 cases es.findIdx? fun e=>e.key.isStr k with
 |none=>exact fun key=>wpAny_pure key
 |some i=>exact fun key=>wpAny_bind (wpAny_dictEntries (s:={ s with toks:=s.toks+1 }) ho hd (wpAny_pure key))
theorem zeL {X:Cx} {pins:List (Addr×Obj)} {σ:L2.St} {H:Hp} {s:Shared} {a:Addr} {ks:List Str} {vs:List V} (I:Inv X pins σ H s) (h:KD X.K a ks vs):s.TypeIs (.ref a) "dict" := by
 obtain ⟨o,es,ep,l,hc,_⟩:=h;exact ⟨o,I.kIn _ _ l,hc.1⟩
theorem vX {K:yG} {H:Hp} {k:Str} {w:W}:∀ {ks:List Str} {ws:List W} {vs:List V},zC K H ws vs->(ks.zip ws).lookup k=some w->∃ v,(ks.zip vs).lookup k=some v/\wQ K H w v
 | [],ws,vs,_,e=>by simp at e
 |x::ks,[],vs,_,e=>by simp at e
 |x::ks,y::ws,vs,r,e=>by
  obtain ⟨v,vs',rfl,rv,rs⟩:=r;rw [List.zip_cons_cons,List.lookup_cons] at e ⊢
  cases hx:(k==x) with
  |true=>rw [hx] at e;cases e;exact ⟨v,rfl,rv⟩
  |false=>rw [hx] at e;exact vX rs e
theorem tK {K:yG} {H:Hp} {k:Str}:∀ {ks:List Str} {ws:List W} {vs:List V},zC K H ws vs->(ks.zip ws).lookup k=none->(ks.zip vs).lookup k=none
 | [],ws,vs,_,e=>by simp
 |x::ks,[],vs,r,e=>by rw [show vs=[] from r];rfl
 |x::ks,y::ws,vs,r,e=>by
  obtain ⟨v,vs',rfl,rv,rs⟩:=r;rw [List.zip_cons_cons,List.lookup_cons] at e ⊢
  cases hx:(k==x) with
  |true=>rw [hx] at e;cases e
  |false=>rw [hx] at e;exact tK rs e
theorem zfA {X:Cx} {pins:List (Addr×Obj)} {σ:L2.St} {H:Hp} {s:Shared} {a:Addr} {ks:List Str} {vs:List V} {k:Str} {tk:Tok} {A:Around} {Q:Bool->Shared->Prop} {E:Value->Shared->Prop} (I:Inv X pins σ H s) (h:KD X.K a ks vs)
  (q:∀ s',Inv X pins σ H s'->Q ((ks.zip vs).lookup k).isSome s'):wpAny (model X.prog X.w) A (contains (.ref a) (.str k tk)) Q E s:=by
 have hT:=zeL I h;have hd:(a==sysModules)=false:=by obtain ⟨o,es,ep,l,_,_,_,z,_⟩:=h;exact z
 have nn:¬ ((some (Value.builtin "dict.__contains__")==some Value.none)=true):=by rw [beq_builtin_none];simp
 unfold contains;refine wpAny_holding (wpAny_bind (wpAny_specialOf hT PySem.F.slot_dict_contains.lookup ?_));dsimp only;rw [if_neg nn];refine wpAny_bind (wpAny_callSpecialUnlessNone?_slot (name:=Str.ofString "__contains__") hT PySem.F.slot_dict_contains (wpAny_call_entry PySem.F.slot_dict_contains hT PySem.F.entry_dict_contains (show wpAny _ _ (dictGet a (.str k tk) >>= _) _ _ s from wpAny_bind (zdi I h ?_)) (PySem.F.args_dict_contains_2 _ _)));revert q
 cases (ks.zip vs).lookup k with
 |some v=>exact fun q u s' r J=>wpAny_pure ⟨_,rfl,wpAny_truthy_bool (q s' J)⟩
 |none=>exact fun q s' J=>wpAny_bind (wpAny_pendingKey_other hd (wpAny_pure ⟨_,rfl,wpAny_truthy_bool (q s' J)⟩))
def bD (G:Hw):W->W->Option Bool
 | .ref p,.ref q=>match yJ G p,yJ G q with
  |some a,some b=>if (wW a&&wW b&&decide (min (wG a) (wG b)<=150))=true then some (uB a b) else none
  |_,_=>none
 |x,y=>if (kX x&&kX y&&decide (min (dep x) (dep y)<=150))=true then some (vF x y) else none
def inR (neg:Bool) (x:W) (ws:List W) (G:Hw) (Q:Q3):Prop:=(kX x=true/\wW ws=true/\min (wG ws) (dep x)<=150)/\Q (.bl (if neg then !ws.any fun w=>vF w x else ws.any fun w=>vF w x)) G
def inStr (neg:Bool) (i j:Str):Bool:=if neg then !(!(Builtin.Str.occurrences j i 0 j.length 1).isEmpty) else !(Builtin.Str.occurrences j i 0 j.length 1).isEmpty
def bO:W->Option xV
 | .int i=>some (.inl i)
 | .str x=>some (.inr x)
 |_=>none
def hasK {α:Type} (kvs:List (xV×α)) (k:xV):Bool:=kvs.any fun p=>decide (p.1=k)
def mN (neg:Bool):R3:=fun x y G Q=>match y with
 | .tup ws=>inR neg x ws G Q
 | .ref p=>(match G p with
  |some (.lst ws)=>inR neg x ws G Q
  |some (.fix ws)=>inR neg x ws G Q
  |some (.dic kvs)=>(match bO x with|some k=>Q (.bl (if neg then !hasK kvs k else hasK kvs k)) G|none=>False)
  |_=>False)
 | .str j=>(match x with
  | .str i=>Q (.bl (inStr neg i j)) G
  |_=>False)
 | .dcf ks ws=>(match x with
  | .str k=>Q (.bl (if neg then !((ks.zip ws).lookup k).isSome else ((ks.zip ws).lookup k).isSome)) G
  |_=>False)
 |_=>False
def isR (neg:Bool):R3:=fun x y G Q=>match y with
 | .non=>Q (.bl (if neg then (match x with|.non=>false|_=>true) else (match x with|.non=>true|_=>false))) G
 | .bl b=>Q (.bl (if neg then (match x with|.bl c=>!(c==b)|_=>true) else (match x with|.bl c=>c==b|_=>false))) G
 |_=>False
def tU (p:Int->Int->Bool):R3:=fun x y G Q=>match x,y with
 | .int i,.int j=>Q (.bl (p i j)) G
 |_,_=>False
def leS (x y:Str):Bool:=!decide (y.cps.toList<x.cps.toList)
def leR:R3:=fun x y G Q=>match x,y with
 | .int i,.int j=>Q (.bl (decide (i<=j))) G
 | .str i,.str j=>Q (.bl (leS i j)) G
 |_,_=>False
def yK:CmpOp->R3
 | .Eq=>fun x y G Q=>match bD G x y with|some b=>Q (.bl b) G|none=>False
 | .NotEq=>fun x y G Q=>match bD G x y with|some b=>Q (.bl (!b)) G|none=>False
 | .Is=>isR false
 | .IsNot=>isR true
 | .In=>mN false
 | .NotIn=>mN true
 | .Lt=>tU fun i j=>decide (i<j)
 | .LtE=>leR
 | .Gt=>tU fun i j=>decide (j<i)
 | .GtE=>tU fun i j=>decide (j<=i)
theorem pB (p:Int->Int->Bool):mQ (tU p):=by
 intro x y G Q Q' k h;cases x<;>cases y<;>simp only [tU] at h ⊢<;>first|exact h.elim|exact k _ _ h
theorem zeG:mQ leR:=by
 intro x y G Q Q' k h;cases x<;>cases y<;>simp only [leR] at h ⊢<;>first|exact h.elim|exact k _ _ h
theorem bS (neg:Bool):mQ (mN neg):=by
 intro x y G Q Q' k h;unfold mN at h ⊢
 cases y with
 |tup ws=>exact ⟨h.1,k _ _ h.2⟩
 |ref p =>
  simp only at h ⊢
  split at h
  .exact ⟨h.1,k _ _ h.2⟩
  .exact ⟨h.1,k _ _ h.2⟩
  .split at h
   .exact k _ _ h
   .exact h.elim
  .exact h.elim
 |str j =>
  cases x with
  |str i=>exact k _ _ h
  |_=>exact h.elim
 |dcf ks ws =>
  cases x with
  |str i=>exact k _ _ h
  |_=>exact h.elim
 |_=>exact h.elim
theorem zbG (neg:Bool):mQ (isR neg):=by
 intro x y G Q Q' k h;unfold isR at h ⊢
 cases y with
 |non=>exact k _ _ h
 |bl b=>exact k _ _ h
 |_=>exact h.elim
theorem xN:∀ op,mQ (yK op):=by
 intro op x y G Q Q' k h
 cases op with
 |Eq =>
  simp only [yK] at h ⊢
  split at h
  .exact k _ _ h
  .exact h.elim
 |NotEq =>
  simp only [yK] at h ⊢
  split at h
  .exact k _ _ h
  .exact h.elim
 |Is=>exact zbG false x y G Q Q' k h
 |IsNot=>exact zbG true x y G Q Q' k h
 |In=>exact bS false x y G Q Q' k h
 |NotIn=>exact bS true x y G Q Q' k h
 |Lt=>exact pB _ x y G Q Q' k h
 |LtE=>exact zeG x y G Q Q' k h
 |Gt=>exact pB _ x y G Q Q' k h
 |GtE=>exact pB _ x y G Q Q' k h
section
variable {X : Cx} {pins : List (Addr × Obj)} {σ : L2.St} {H : Hp} {s : Shared}
open Classical in
def eqI (K:yG) (H:Hp) (x:W) (y:Value):Bool:=if ∃ w v,wQ K H w v/\yY v y/\kX w=true/\vF w x=true then true else false
theorem zfC (I:Inv X pins σ H s) {x w:W} {v:V} {y:Value} (r:wQ X.K H w v) (q:yY v y) (p:kX w=true):eqI X.K H x y=vF w x:=by
 unfold eqI
 cases e:vF w x with
 |true=>rw [if_pos ⟨w,v,r,q,p,e⟩]
 |false =>
  rw [if_neg];rintro ⟨w',v',r',q',p',e'⟩;have:=yY.inj q q';subst this;rw [zcN I w' w v r' r p' p,e] at e';cases e'
theorem zgO (I:Inv X pins σ H s) {x:W}:∀ {ws:List W} {vs:List V} {us:List Value},zC X.K H ws vs->yT vs us->wW ws=true->us.any (eqI X.K H x)=ws.any fun w=>vF w x:=by
 intro ws
 induction ws with
 |nil=>intro vs us h r _;rw [show _=[] from h] at r;cases r;rfl
 |cons w ws ih =>
  intro vs us h r p;obtain ⟨v,t,e,h,hs⟩:=h;subst e
  cases r with
  |cons r rs =>
   have p':=wC.mp p;rw [List.any_cons,List.any_cons,zfC I h r p'.1,ih hs rs p'.2]
theorem zbM {w:W}:∀ {ws:List W},w∈ws->dep w<=wG ws:=by
 intro ws
 induction ws with
 |nil=>intro h;cases h
 |cons x xs ih =>
  intro h;simp only [wG];rcases List.mem_cons.mp h with e|h
  .rw [e];exact Nat.le_max_left _ _
  .exact Nat.le_trans (ih h) (Nat.le_max_right _ _)
theorem zi0 (I:Inv X pins σ H s) {x:W} {vx:V} {ux:Value} {A:Around} (rx:wQ X.K H x vx) (qx:yY vx ux) (px:kX x=true):∀ {ws:List W} {vs:List V} {us:List Value},zC X.K H ws vs->yT vs us->wW ws=true->A.units+min (wG ws) (dep x)<cLine ->
  ∀ y∈us,EqAt A s y ux (eqI X.K H x y):=by
 intro ws
 induction ws with
 |nil=>intro vs us h r _ _ y hy;rw [show _=[] from h] at r;cases r;cases hy
 |cons w ws ih =>
  intro vs us h r p hu y hy;obtain ⟨v,t,e,h,hs⟩:=h;subst e;simp only [wG] at hu
  cases r with
  |cons r rs =>
   have p':=wC.mp p;rcases List.mem_cons.mp hy with e|hy
   .subst e;rw [zfC I h r p'.1];exact zfE I w x v vx _ ux A h r rx qx p'.1 px (by omega)
   .exact ih hs rs p'.2 (by omega) y hy
theorem zaZ {M:Model} {A:Around} {E:Value->Shared->Prop} {Q:Value->Shared->Prop} {v:Value} {b:Bool} (hb:∀ p,v≠.builtin p) (h:Q (.bool (v==.bool b)) s):wpAny M A (compareOp .Is v (.bool b)) Q E s:=by
 cases v<;>first|exact wpAny_pure h|exact absurd rfl (hb _)
theorem dY {M:Model} {A:Around} {E:Value->Shared->Prop} {Q:Value->Shared->Prop} {v:Value} {b:Bool} (hb:∀ p,v≠.builtin p) (h:Q (.bool (!(v==.bool b))) s):wpAny M A (compareOp .IsNot v (.bool b)) Q E s:=by
 cases v<;>first|exact wpAny_pure h|exact absurd rfl (hb _)
theorem zfo {v:V} {u:Value} (r:yY v u):∀ p,u≠.builtin p:=by
 cases v<;>first
  | (obtain ⟨t,e⟩:=r;subst e;intro p z;cases z)
  | (intro p z;subst z;cases r)
theorem ziS (neg:Bool):vC X (compareOp (if neg then .IsNot else .Is)) (nS X.K (isR neg)):=by
 intro pins s σ H v u a b Q I rv ru h;obtain ⟨x,y,G,rx,ry,ab,h⟩:=h;have fin:∀ k k':Bool,sL X.K H Q (.bl k) G->k=k'->EP X pins σ Q (.bool k') s:=fun k k' q e=>⟨.bl k',H,I,rfl,by rw [← e];exact q _ _ .refl rfl ab⟩
 cases y with
 |non =>
  cases ry;cases ru
  cases neg with
  |false =>
   refine is_none_gen (fin _ _ h ?_)
   cases x<;>first
    | (cases rx;cases rv;rfl)
    | (cases rx;obtain ⟨t,rfl⟩:=rv;rfl)
    | (obtain ⟨_,_,rfl,_⟩:=rx;cases rv;rfl)
  |true =>
   refine isnot_none_gen (fin _ _ h ?_)
   cases x<;>first
    | (cases rx;cases rv;rfl)
    | (cases rx;obtain ⟨t,rfl⟩:=rv;rfl)
    | (obtain ⟨_,_,rfl,_⟩:=rx;cases rv;rfl)
 |bl c =>
  cases ry;cases ru
  cases neg with
  |false =>
   refine zaZ (zfo rv) (fin _ _ h ?_)
   cases x<;>first
    | (cases rx;cases rv;rfl)
    | (cases rx;cases rv;rename_i d;cases c<;>cases d<;>rfl)
    | (cases rx;obtain ⟨t,rfl⟩:=rv;rfl)
    | (obtain ⟨_,_,rfl,_⟩:=rx;cases rv;rfl)
  |true =>
   refine dY (zfo rv) (fin _ _ h ?_)
   cases x<;>first
    | (cases rx;cases rv;rfl)
    | (cases rx;cases rv;rename_i d;cases c<;>cases d<;>rfl)
    | (cases rx;obtain ⟨t,rfl⟩:=rv;rfl)
    | (obtain ⟨_,_,rfl,_⟩:=rx;cases rv;rfl)
 |_=>exact h.elim
theorem zeK {K:yG} {H:Hp} {y:W} {v:V} {k:xV} (r:wQ K H y v) (h:bO y=some k):v=kV k:=by
 cases y<;>cases h<;>exact r
theorem zdp {K:yG} {H:Hp} {k:xV}:∀ {l:List (xV×W)} {l':List (xV×V)},yN K H l l'->(kE l' k).isSome=hasK l k
 | [],_,h=>by rw [show _=[] from h];rfl
 |p::r,_,⟨v,t,e,h,hr⟩=>by
  have ih:=zdp (k:=k) hr;subst e;unfold kE hasK at ih ⊢;rw [List.find?_cons,List.any_cons]
  cases decide (p.1=k) with
  |true=>rfl
  |false=>exact ih
theorem gW (us:List Value) (e:Value->Bool):us.toArray.any e=us.any e:=by simp
theorem zfw (neg:Bool) (hu:X.A.units+200<cLine):vC X (compareOp (if neg then .NotIn else .In)) (nS X.K (mN neg)):=by
 intro pins s σ H v u a b Q I rv ru h;obtain ⟨x,y,G,rx,ry,ab,h⟩:=h;have fin:∀ k:Bool,sL X.K H Q (.bl k) G->EP X pins σ Q (.bool k) s:=fun k q=>⟨.bl k,H,I,rfl,q _ _ .refl rfl ab⟩
 have sq:∀ (p:Addr) (ws:List W) (vs:List V) (its:List Value),zC X.K H ws vs->yT vs its->(s.heap.IsTuple p its.toArray\/s.heap.IsList p its.toArray)->inR neg x ws G (sL X.K H Q) ->
   wpAny (model X.prog X.w) X.A (compareOp (if neg then .NotIn else .In) a (.ref p)) (EP X pins σ Q) X.xe s:=fun p ws vs its rs vr ht hin=>by
  obtain ⟨⟨p1,p2,p3⟩,q⟩:=hin;have he:∀ y,y∈its.toArray->EqAt X.A.in1 s y a (eqI X.K H x y):=fun y hy=>zi0 I rx rv p1 rs vr p2 (by show X.A.units+1+_<_;omega) y (by simpa using hy);have ea:=zgO I (x:=x) rs vr p2
  cases neg with
  |false =>
   rcases ht with ht|ht
   .exact in_tupleAt _ ht he (by rw [gW,ea];exact fin _ q)
   .exact in_listAt _ ht he (by rw [gW,ea];exact fin _ q)
  |true =>
   rcases ht with ht|ht
   .exact notIn_tupleAt _ ht he (by rw [gW,ea];exact fin _ q)
   .exact notIn_listAt _ ht he (by rw [gW,ea];exact fin _ q)
 cases y with
 |tup ws =>
  obtain ⟨b1,us,its',rfl,rfl,q',rs',vr',it',_⟩:=jW I ry ru;exact sq b1 ws us its' rs' vr' (.inl it') h
 |ref p =>
  cases ry;cases ru
  have lk:∀ ws,yJ G p=some ws->inR neg x ws G (sL X.K H Q)->wpAny (model X.prog X.w) X.A (compareOp (if neg then .NotIn else .In) a (.ref p)) (EP X pins σ Q) X.xe s:=fun ws e q=>by
   obtain ⟨vs,its,_,rs,vr,il,_⟩:=zc6 I ab e;exact sq p ws vs its rs vr (.inr il) q
  simp only [mN] at h
  split at h
  .rename_i ws e;exact lk ws (by unfold yJ;rw [e]) h
  .rename_i ws e;exact lk ws (by unfold yJ;rw [e]) h
  .rename_i kvs e
   split at h
   .rename_i kk ek;obtain ⟨l,e1,rk⟩:=ab.dic e;have ev:=zeK rx ek;subst ev;have hs:(kE l kk).isSome=hasK kvs kk:=zdp rk;have dg:DGet H p (kV kk) (kE l kk):=.inl ⟨l,kk,.inl e1,rfl,rfl⟩
    cases neg with
    |false=>exact d_in (by omega) I dg rv fun s' I'=>⟨.bl (kE l kk).isSome,H,I',rfl,by rw [hs];exact h _ H .refl rfl ab⟩
    |true=>exact zg7 (by omega) I dg rv fun s' I'=>⟨.bl (!(kE l kk).isSome),H,I',rfl,by rw [hs];exact h _ H .refl rfl ab⟩
   .exact h.elim
  .exact h.elim
 |str j =>
  cases x with
  |str i =>
   cases rx;cases ry
   cases neg with
   |false=>exact zcX pins s σ H _ _ _ _ Q I rv ru ⟨i,j,rfl,rfl,h _ _ .refl rfl ab⟩
   |true=>exact zag pins s σ H _ _ _ _ Q I rv ru ⟨i,j,rfl,rfl,h _ _ .refl rfl ab⟩
  |_=>exact h.elim
 |dcf ks ws =>
  cases x with
  |str k =>
   obtain ⟨a1,vs,rfl,kd,rs⟩:=ry;obtain rfl:b=Value.ref a1:=ru;cases rx;obtain ⟨tk,rfl⟩:=rv
   have hs:((ks.zip vs).lookup k).isSome=((ks.zip ws).lookup k).isSome:=by
    cases e:(ks.zip ws).lookup k with
    |none=>rw [tK rs e];rfl
    |some w=>obtain ⟨v,e',_⟩:=vX rs e;rw [e'];rfl
   cases neg with
   |false =>
    show wpAny _ _ (contains (.ref a1) (.str k tk) >>= fun z=>pure (Value.bool z)) _ _ _;exact wpAny_bind (zfA I kd fun s' J=>wpAny_pure ⟨.bl _,H,J,rfl,by rw [hs];exact h _ _ .refl rfl ab⟩)
   |true =>
    show wpAny _ _ (contains (.ref a1) (.str k tk) >>= fun z=>pure (Value.bool (!z))) _ _ _;exact wpAny_bind (zfA I kd fun s' J=>wpAny_pure ⟨.bl _,H,J,rfl,by rw [hs];exact h _ _ .refl rfl ab⟩)
  |_=>exact h.elim
 |_=>exact h.elim
theorem zcW {op:CmpOp} {p:Int->Int->Bool} (ho:vC X (compareOp op) (rI0 fun i j=>.bl (p i j))):vC X (compareOp op) (nS X.K (tU p)):=by
 intro pins s σ H v u a b Q I rv ru h;obtain ⟨x,y,G,rx,ry,ab,h⟩:=h
 cases x with
 |int i =>
  cases y with
  |int j=>cases rx;cases ry;exact ho pins s σ H _ _ _ _ Q I rv ru ⟨i,j,rfl,rfl,h _ _ .refl rfl ab⟩
  |_=>exact h.elim
 |_=>exact h.elim
theorem le_ok:vC X (compareOp .LtE) (nS X.K leR):=by
 intro pins s σ H v u a b Q I rv ru h;obtain ⟨x,y,G,rx,ry,ab,h⟩:=h
 cases x with
 |int i =>
  cases y with
  |int j=>cases rx;cases ry;exact op_le pins s σ H _ _ _ _ Q I rv ru ⟨i,j,rfl,rfl,h _ _ .refl rfl ab⟩
  |_=>exact h.elim
 |str i =>
  cases y with
  |str j =>
   cases rx;cases ry;obtain ⟨t,rfl⟩:=rv;obtain ⟨t',rfl⟩:=ru;exact PySem.P.le_str ⟨.bl (leS i j),H,I,rfl,h _ _ .refl rfl ab⟩
  |_=>exact h.elim
 |_=>exact h.elim
theorem zfD (I:Inv X pins σ H s) (hu:X.A.units+200<cLine) {G:Hw} {x y:W} {v v':V} {u u':Value} {b:Bool} (ab:xC X.K H G) (h:wQ X.K H x v) (r:yY v u) (h':wQ X.K H y v') (r':yY v' u') (e:bD G x y=some b) :
  RcAt X.A s u u' b/\RcNeAt X.A s u u' (!b):=by
 have gen:∀ (hh:(if (kX x&&kX y&&decide (min (dep x) (dep y)<=150))=true then some (vF x y) else none)=some b),RcAt X.A s u u' b/\RcNeAt X.A s u u' (!b):=fun hh=>by
  split at hh
  .rename_i c;simp only [Bool.and_eq_true,decide_eq_true_eq] at c;cases hh;exact zhN I x y v v' u u' X.A h r h' r' c.1.1 c.1.2 (by omega)
  .cases hh
 cases x with
 |ref p =>
  cases y with
  |ref q =>
   simp only [bD] at e
   split at e
   .rename_i a1 b1 e1 e2
    split at e
    .rename_i c;simp only [Bool.and_eq_true,decide_eq_true_eq] at c;cases e;cases h;cases h';cases r;cases r';exact zhO I ab e1 e2 c.1.1 c.1.2 (by omega)
    .cases e
   .cases e
  |_=>exact gen e
 |_=>cases y<;>exact gen e
theorem qC (hu:X.A.units+200<cLine) (op:CmpOp):vC X (compareOp op) (nS X.K (yK op)):=by
 cases op with
 |Eq =>
  intro pins s σ H v u a b Q I rv ru h;obtain ⟨x,y,G,rx,ry,ab,h⟩:=h;simp only [yK] at h
  split at h
  .rename_i k e;exact (zfD I hu ab rx rv ry ru e).1 _ _ _ _ ⟨.bl k,H,I,rfl,h _ _ .refl rfl ab⟩
  .exact h.elim
 |NotEq =>
  intro pins s σ H v u a b Q I rv ru h;obtain ⟨x,y,G,rx,ry,ab,h⟩:=h;simp only [yK] at h
  split at h
  .rename_i k e;exact (zfD I hu ab rx rv ry ru e).2 _ _ _ _ ⟨.bl (!k),H,I,rfl,h _ _ .refl rfl ab⟩
  .exact h.elim
 |Is=>exact ziS false
 |IsNot=>exact ziS true
 |In=>exact zfw false hu
 |NotIn=>exact zfw true hu
 |Lt=>exact zcW op_lt
 |LtE=>exact le_ok
 |Gt=>exact zcW op_gt
 |GtE=>exact zcW op_ge
end
end L3
namespace L3
open PySem PySem.Spec PyProof.Rows L2 HT
section
variable {prog : Program} {w : World} {A : Around} {E : Value → Shared → Prop} {s : Shared}
theorem zds {t sl:Addr} {items:Array Value} {vl vu:Value} {lo hi:Option Int} {Q:Value->Shared->Prop} (ht:IsTup s.heap t items) (hs:s.heap.IsSliceOf sl vl vu .none) (pl:IsPart vl lo) (pu:IsPart vu hi)
  (hw:wD items.size 0 lo=0/\wD items.size items.size hi=items.size) (h:Q (.ref t) s):wpAny (model prog w) A (getItem (.ref t) (.ref sl)) Q E s:=by
 obtain ⟨os,hos,hcs,hds⟩:=id hs;have hTs:s.TypeIs (.ref sl) "slice" := ⟨os,hos,hcs⟩;unfold getItem
 try with_reducible refine wpAny_holding ?_
 first|refine wpAny_bind (wpAny_pure ?_)|skip
 refine wpAny_bind (wpAny_sequenceKey ht.typeIs (by decide) ?_)
 refine wpAny_bind (wpAny_callSpecial?_slot (name:=Str.ofString "__getitem__") ht.typeIs PyProof.Rows.slot_tuple_getitem
  (wpAny_call_entry PyProof.Rows.slot_tuple_getitem ht.typeIs entry_tuple_getitem ?_ (args_tuple_getitem _ _)))
 show wpAny _ _ (Builtin.Tuple.tupleItemsOf (.ref t) >>= _) _ _ s;refine wpAny_bind (tupleItemsOf_ ht ?_);refine wpAny_bind (wpAny_typeOf hTs ?_);rw [if_pos (by decide)];refine wpAny_bind (vI hs pl pu ?_)
 have yes:(((wD items.size 0 lo:Nat):Int)==0&&(1:Int)==1&&(wD items.size items.size hi-wD items.size 0 lo)==items.size)=true:=by
  rw [hw.1,hw.2];simp
 show wpAny _ _ (if (((wD items.size 0 lo:Nat):Int)==0&&(1:Int)==1&&(wD items.size items.size hi-wD items.size 0 lo)==items.size)=true then _ else _) _ _ s;rw [if_pos yes];refine wpAny_bind (m:=Builtin.Tuple.tupleIsExact (.ref t)) ?_;unfold Builtin.Tuple.tupleIsExact;refine wpAny_bind (wpAny_typeOf ht.typeIs (wpAny_pure ?_));rw [if_pos (by decide)];exact wpAny_bind (wpAny_rule (wpAny_pure ⟨_,rfl,wpAny_pure h⟩))
end
section
variable {X : Cx}
def rSlW (K:yG):V->Option Int->Option Int->Hp->VK->Prop:=fun x lo hi H Q=>∃ a xs,x=.ref a/\pF K H a xs/\(HT.wD xs.length 0 lo=0/\HT.wD xs.length xs.length hi=xs.length)/\Q (.ref a) H
theorem zec:SlR X (rSlW X.K):=by
 intro pins s σ H x v vl vu lo hi sl Q I rx hs pl pu h;obtain ⟨a,xs,rfl,hx,hw,q⟩:=h;cases rx;obtain ⟨its,r,ht,hz⟩:=I.tuple hx;have hlen:its.toArray.size=xs.length:=by rw [zzS];exact r.length.symm
 exact ⟨"tuple", _,PyProof.Rows.slot_tuple_getitem.lookup,ht.typeIs,zds ht hs pl pu (by rw [hlen];exact hw) ⟨.ref a,H,I,rfl,q⟩⟩
end
end L3
namespace L3
open PySem PySem.Spec PyProof.Rows L2 PySem.SeqAt
def qP (G:Hw):W->Option Bool
 | .non=>some false
 | .bl b=>some b
 | .int i=>some (i != 0)
 | .str y=>if y.length<=sizeLine then some ((y.length:Int) != 0) else none
 | .tup ws=>some (!ws.isEmpty)
 | .ref p=>match G p with
  |some (.lst ws)=>some (!ws.isEmpty)
  |some (.fix ws)=>some (!ws.isEmpty)
  |some (.dic kvs)=>some (!kvs.isEmpty)
  |_=>none
 |_=>none
theorem zC.empty {K:yG} {H:Hp} {ws:List W} {vs:List V} (h:zC K H ws vs):vs.isEmpty=ws.isEmpty:=by
 have:=h.length;cases ws<;>cases vs<;>simp_all
theorem yN.length {K:yG} {H:Hp} {κ:Type}:∀ {l:List (κ×W)} {l':List (κ×V)},yN K H l l'->l'.length=l.length
 | [],_,h=>by rw [show _=[] from h];rfl
 |_::_,_,⟨v,t,e,_,r⟩=>by rw [e,List.length_cons,List.length_cons,yN.length r]
theorem zfL {K:yG} {H:Hp} {G:Hw} {w:W} {v:V} {k:Bool} (r:wQ K H w v) (ab:xC K H G) (h:qP G w=some k):TruV K v H k:=by
 cases w with
 |non=>cases r;cases h;rfl
 |bl b=>cases r;cases h;rfl
 |int i=>cases r;cases h;rfl
 |str y =>
  cases r;simp only [qP] at h
  split at h
  .rename_i c;cases h;exact ⟨c,rfl⟩
  .cases h
 |ty n=>cases h
 |lsf n=>cases h
 |exc _ _ _=>cases h
 |dcf _ _=>cases h
 |tup ws =>
  obtain ⟨a,vs,rfl,q,rs⟩:=r;cases h;exact .inr (.inl ⟨vs,q,by rw [rs.empty]⟩)
 |ref p =>
  cases r
  have lk:∀ ws,yJ G p=some ws->k=!ws.isEmpty->TruV K (.ref p) H k:=fun ws e q=>by
   obtain ⟨vs,sq,rs⟩:=ab.seq e;exact .inl ⟨vs,sq,by rw [rs.empty];exact q⟩
  simp only [qP] at h
  split at h
  .rename_i ws e;cases h;exact lk ws (by unfold yJ;rw [e]) rfl
  .rename_i ws e;cases h;exact lk ws (by unfold yJ;rw [e]) rfl
  .rename_i kvs e;cases h;obtain ⟨l,e',rk⟩:=ab.dic e;refine .inr (.inr ⟨l,e',?_⟩);have:=rk.length;cases kvs<;>cases l<;>simp_all
  .cases h
def nL {α:Type} (kvs:List (xV×α)) (k:xV):Option α:=(kvs.find? fun kv=>decide (kv.1=k)).map (·.2)
def cQ {α:Type} (kvs:List (xV×α)) (k:xV) (v:α):List (xV×α) :=
 if (kvs.any fun kv=>decide (kv.1=k))=true then kvs.map (fun kv=>if kv.1=k then (kv.1,v) else kv) else kvs++[(k,v)]
theorem yN.get {K:yG} {H:Hp} {k:xV} {w:W}:∀ {l:List (xV×W)} {l':List (xV×V)},yN K H l l'->nL l k=some w->∃ v,kE l' k=some v/\wQ K H w v
 | [],_,h,e=>by cases e
 |p::r,_,⟨v,t,e,h,hr⟩,q=>by
  subst e;unfold nL at q;rw [List.find?_cons] at q;unfold kE;rw [List.find?_cons]
  by_cases hk:p.1=k
  .simp only [hk,decide_true] at q ⊢;cases q;exact ⟨v,rfl,h⟩
  .simp only [hk,decide_false] at q ⊢;exact yN.get hr q
theorem yN.none {K:yG} {H:Hp} {k:xV}:∀ {l:List (xV×W)} {l':List (xV×V)},yN K H l l'->nL l k=none->kE l' k=none
 | [],_,h,e=>by rw [show _=[] from h];rfl
 |p::r,_,⟨v,t,e,h,hr⟩,q=>by
  subst e;unfold nL at q;rw [List.find?_cons] at q;unfold kE;rw [List.find?_cons]
  by_cases hk:p.1=k
  .simp only [hk,decide_true] at q;cases q
  .simp only [hk,decide_false] at q ⊢;exact yN.none hr q
theorem yN.any {K:yG} {H:Hp} {k:xV}:∀ {l:List (xV×W)} {l':List (xV×V)},yN K H l l'->(l'.any fun kv=>decide (kv.1=k))=l.any fun kv=>decide (kv.1=k)
 | [],_,h=>by rw [show _=[] from h];rfl
 |p::r,_,⟨v,t,e,h,hr⟩=>by subst e;rw [List.any_cons,List.any_cons,yN.any hr]
theorem yN.app {K:yG} {H:Hp} {κ:Type}:∀ {l:List (κ×W)} {l':List (κ×V)} {m:List (κ×W)} {m':List (κ×V)},yN K H l l'->yN K H m m'->yN K H (l++m) (l'++m')
 | [],_,_,_,h,h'=>by rw [show _=[] from h];exact h'
 |p::r,_,_,_,⟨v,t,e,h,hr⟩,h'=>by rw [e];exact ⟨v,_,rfl,h,yN.app hr h'⟩
theorem yN.repl {K:yG} {H:Hp} {k:xV} {w:W} {v:V} (q:wQ K H w v):∀ {l:List (xV×W)} {l':List (xV×V)},yN K H l l' ->
  yN K H (l.map fun kv=>if kv.1=k then (kv.1,w) else kv) (l'.map fun kv=>if kv.1=k then (kv.1,v) else kv)
 | [],_,h=>by rw [show _=[] from h];rfl
 |p::r,_,⟨u,t,e,h,hr⟩=>by
  subst e;rw [zzU,zzU]
  by_cases hk:p.1=k
  .simp only [hk,if_true];exact ⟨v,_,rfl,q,yN.repl q hr⟩
  .simp only [hk,if_false];exact ⟨u,_,rfl,h,yN.repl q hr⟩
theorem yN.put {K:yG} {H:Hp} {k:xV} {w:W} {v:V} {l:List (xV×W)} {l':List (xV×V)} (h:yN K H l l') (q:wQ K H w v):yN K H (cQ l k w) (uC l' k v):=by
 unfold cQ uC;rw [h.any]
 split
 .exact yN.repl q h
 .exact h.app ⟨v,[],rfl,q,rfl⟩
theorem zde {K:yG} {H:Hp} {y:W} {v:V} {k:xV} (r:wQ K H y v) (h:bO y=some k):v=kV k:=by
 cases y<;>first|(cases h;cases r;rfl)|cases h
theorem ix_kd {X:Cx} {value slice:PySem.Expr} {pins:List (Addr×Obj)} {s:Shared} {σ:L2.St} {H:Hp} {a:Addr} {u:Value} {ks:List Str} {vs:List V} {k:Str} {v:V} {Q:VK} (I:Inv X pins σ H s) (h:KD X.K a ks vs) (ry:yY (.str k) u) (e:(ks.zip vs).lookup k=some v) (q:Q v H)
  (hs:subscripted slice false (.ref a) u=operate [.ref a,u] (getItem (.ref a) u)):wpAny (model X.prog X.w) X.A (subscriptTail value slice (.ref a) u) (EP X pins σ Q) X.xe s:=by
 have hT:=zeL I h;obtain ⟨tk,rfl⟩:=ry;refine tail_any hT PySem.F.slot_dict_getitem.lookup ?_ hs;unfold getItem
 try with_reducible refine wpAny_holding ?_
 refine wpAny_bind (wpAny_sequenceKey hT (by decide) (wpAny_bind ?_));refine wpAny_callSpecial?_slot (name:=Str.ofString "__getitem__") hT PySem.F.slot_dict_getitem (wpAny_call_entry PySem.F.slot_dict_getitem hT PySem.F.entry_dict_getitem ?_ (PySem.F.args_dict_getitem_2 _ _));show wpAny _ _ (dictGet a (.str k tk) >>= _) _ _ s;refine wpAny_bind (zdi I h ?_);rw [e];exact fun u s' r J=>wpAny_pure ⟨u,rfl,wpAny_pure ⟨v,H,J,r,q⟩⟩
def pG:R3:=fun x y G Q=>match x,y with
 | .tup ws,.int i=>(match uJ ws i with|some w=>Q w G|none=>False)
 | .str z,.int i=>z.length<=sizeLine/\(match uJ z.cps.toList i with|some c=>Q (.str ⟨#[c]⟩) G|none=>False)
 | .ref p,y=>(match G p with
  |some (.lst ws)=>(match y with|.int i=>(match uJ ws i with|some w=>Q w G|none=>False)|_=>False)
  |some (.fix ws)=>(match y with|.int i=>(match uJ ws i with|some w=>Q w G|none=>False)|_=>False)
  |some (.dic kvs)=>(match bO y with|some k=>(match nL kvs k with|some w=>Q w G|none=>False)|none=>False)
  |_=>False)
 | .dcf ks ws,.str k=>(match (ks.zip ws).lookup k with|some w=>Q w G|none=>False)
 |_,_=>False
theorem zdV {K:yG} {H:Hp} {ws:List W} {vs:List V} {i:Int} {w:W} (h:zC K H ws vs) (e:uJ ws i=some w):∃ v,uJ vs i=some v/\wQ K H w v:=by
 unfold uJ at e ⊢;rw [h.length]
 cases q:mK ws.length i with
 |none=>rw [q] at e;cases e
 |some j =>
  rw [q] at e;exact h.get e
theorem zbF:mQ pG:=by
 intro x y G Q Q' k h
 cases x with
 |tup ws =>
  cases y<;>simp only [pG] at h ⊢<;>first
   |exact h.elim
   | (split at h<;>first|exact k _ _ h|exact h.elim)
 |str z =>
  cases y<;>simp only [pG] at h ⊢<;>first
   |exact h.elim
   | (refine ⟨h.1,?_⟩;have h:=h.2;split at h<;>first|exact k _ _ h|exact h.elim)
 |ref p =>
  simp only [pG] at h ⊢
  split at h
  .cases y<;>simp only at h ⊢<;>first
    |exact h.elim
    | (split at h<;>first|exact k _ _ h|exact h.elim)
  .cases y<;>simp only at h ⊢<;>first
    |exact h.elim
    | (split at h<;>first|exact k _ _ h|exact h.elim)
  .split at h
   .split at h
    .exact k _ _ h
    .exact h.elim
   .exact h.elim
  .exact h.elim
 |dcf ks ws =>
  cases y<;>simp only [pG] at h ⊢<;>first
   |exact h.elim
   | (split at h<;>first|exact k _ _ h|exact h.elim)
 |_=>exact h.elim
section
variable {X : Cx}
theorem ziI (hu:X.A.units+200<cLine) {value slice:PySem.Expr} {pins:List (Addr×Obj)} {s:Shared} {σ:L2.St} {H:Hp} {a:Addr} {u:Value} {y v:V} {Q:VK} (I:Inv X pins σ H s) (g:DGet H a y (some v)) (hd:IsD H a) (ry:yY y u) (q:Q v H)
  (hs:subscripted slice false (.ref a) u=operate [.ref a,u] (getItem (.ref a) u)):wpAny (model X.prog X.w) X.A (subscriptTail value slice (.ref a) u) (EP X pins σ Q) X.xe s:=by
 exact tail_any (ziT I hd).1 PySem.F.slot_dict_getitem.lookup (zdF (by omega) I g ry fun w' s' I' r'=>⟨v,H,I',r',q⟩) hs
theorem ix_ok (hu:X.A.units+200<cLine):IxR X (nS X.K pG):=by
 intro value slice pins s σ H v u a b Q I rv ru h hs;obtain ⟨x,y,G,rx,ry,ab,h⟩:=h
 cases x with
 |tup ws =>
  cases y with
  |int i =>
   obtain ⟨a1,vs,rfl,q,rs⟩:=rx;cases ry;simp only [pG] at h
   split at h
   .rename_i w e;obtain ⟨vv,ev,rp⟩:=zdV rs e;exact ziG value slice pins s σ H _ _ _ _ Q I rv ru ⟨a1,vs,i,vv,rfl,rfl,q,ev,h _ _ .refl rp ab⟩ hs
   .exact h.elim
  |_=>exact h.elim
 |str z =>
  cases y with
  |int i =>
   cases rx;cases ry;simp only [pG] at h;obtain ⟨hz,h⟩:=h
   split at h
   .rename_i c e;exact ziH value slice pins s σ H _ _ _ _ Q I rv ru ⟨z,i,c,rfl,rfl,hz,e,h _ _ .refl rfl ab⟩ hs
   .exact h.elim
  |_=>exact h.elim
 |ref p =>
  cases rx
  have lk:∀ ws i w,yJ G p=some ws->y=.int i->uJ ws i=some w->sL X.K H Q w G->wpAny (model X.prog X.w) X.A (subscriptTail value slice a b) (EP X pins σ Q) X.xe s:=fun ws i w e ey ew q=>by
   subst ey;obtain ⟨vs,sq,rs⟩:=ab.seq e;obtain ⟨vv,ev,rp⟩:=zdV rs ew;cases ry;exact zgx value slice pins s σ H _ _ _ _ Q I rv ru ⟨p,vs,i,vv,rfl,rfl,sq,ev,q _ _ .refl rp ab⟩ hs
  simp only [pG] at h
  split at h
  .rename_i ws e
   cases y with
   |int i =>
    simp only at h
    split at h
    .rename_i w ew;exact lk ws i w (by unfold yJ;rw [e]) rfl ew h
    .exact h.elim
   |_=>exact h.elim
  .rename_i ws e
   cases y with
   |int i =>
    simp only at h
    split at h
    .rename_i w ew;exact lk ws i w (by unfold yJ;rw [e]) rfl ew h
    .exact h.elim
   |_=>exact h.elim
  .rename_i kvs e
   split at h
   .rename_i k ek
    split at h
    .rename_i w ew;obtain ⟨l,e',rk⟩:=ab.dic e;obtain ⟨vv,ev,rp⟩:=rk.get ew;have ey:=zde ry ek;subst ey;obtain rfl:a=Value.ref p:=rv;exact ziI hu I (.inl ⟨l,k,.inl e',rfl,ev.symm⟩) (.inl ⟨l,.inl e'⟩) ru (h _ _ .refl rp ab) hs
    .exact h.elim
   .exact h.elim
  .exact h.elim
 |dcf ks ws =>
  cases y with
  |str k =>
   obtain ⟨a1,vs,rfl,kd,rs⟩:=rx;obtain rfl:a=Value.ref a1:=rv;cases (show u=.str k from ry);simp only [pG] at h
   split at h
   .rename_i w e;obtain ⟨vv,ev,rp⟩:=vX rs e;exact ix_kd I kd ru ev (h _ _ .refl rp ab) hs
   .exact h.elim
  |_=>exact h.elim
 |_=>exact h.elim
end
def uA {α:Type} (xs:List α) (lo hi:Option Int):List α:=(xs.drop (HT.wD xs.length 0 lo)).take (HT.wD xs.length xs.length hi-HT.wD xs.length 0 lo)
theorem za3 {K:yG} {H:Hp} {ws:List W} {vs:List V} (h:zC K H ws vs) (lo hi:Option Int):zC K H (uA ws lo hi) (cutV vs lo hi):=by
 unfold uA cutV;rw [h.length];exact (h.drop _).take _
def slR:W->Option Int->Option Int->Hw->Q3->Prop:=fun x lo hi G Q=>match x with
 | .tup ws=>Q (.tup (uA ws lo hi)) G
 | .ref p=>(match yJ G p with|some ws=>∀ r,G r=none->Q (.ref r) (put G r (.lst (uA ws lo hi)))|none=>False)
 | .lsf ws=>∀ r,G r=none->Q (.ref r) (put G r (.lst (uA ws lo hi)))
 | .str x=>x.length<=sizeLine/\Q (.str (Txt.slice x lo hi)) G
 |_=>False
theorem zbp {x:W} {lo hi:Option Int} {G:Hw} {Q Q':Q3} (k:∀ w G',Q w G'->Q' w G') (h:slR x lo hi G Q):slR x lo hi G Q':=by
 cases x with
 |tup ws=>exact k _ _ h
 |ref p =>
  simp only [slR] at h ⊢
  split at h
  .exact fun r hr=>k _ _ (h r hr)
  .exact h.elim
 |lsf ws=>exact fun r hr=>k _ _ (h r hr)
 |str x=>exact ⟨h.1,k _ _ h.2⟩
 |_=>exact h.elim
theorem zhB {X:Cx} {pins:List (Addr×Obj)} {s:Shared} {σ:L2.St} {H:Hp} {x:Str} {v vl vu:Value} {lo hi:Option Int} {sl:Addr} {Q:VK} (I:Inv X pins σ H s) (rv:yY (.str x) v) (hs:s.heap.IsSliceOf sl vl vu .none)
  (pl:IsPart vl lo) (pu:IsPart vu hi) (hz:x.length<=sizeLine) (q:Q (.str (Txt.slice x lo hi)) H):∃ T id,typeLookup (.type T) "__getitem__" = pure (some (.builtin id))/\s.TypeIs v T/\wpAny (model X.prog X.w) X.A (getItem v (.ref sl)) (EP X pins σ Q) X.xe s:=by
 obtain ⟨t,rfl⟩:=rv;have fin:∀ t' k,EP X pins σ Q (.str (Txt.slice x lo hi) t') { s with toks:=k }:=fun t' k=>⟨.str (Txt.slice x lo hi),H,I.tok _,⟨t',rfl⟩,q⟩;have hz':=Nat.le_trans (Txt.slice_le x lo hi) hz;refine ⟨"str", _,F.slot_str_getitem.lookup,typeIs_str _ _ _,?_⟩;obtain ⟨o,ho,hc,hd⟩:=hs
 cases pl with
 |none =>
  cases pu with
  |none=>exact wpAny_getItem_str_slice (l:=none) (u:=none) (st:=none) ⟨o,ho,hc,hd⟩ rfl (post_val_or_str ⟨hz',fin⟩)
  |int j tj=>exact wpAny_getItem_str_slice (l:=none) (u:=some (j,tj)) (st:=none) ⟨o,ho,hc,hd⟩ rfl (post_val_or_str ⟨hz',fin⟩)
 |int i ti =>
  cases pu with
  |none=>exact wpAny_getItem_str_slice (l:=some (i,ti)) (u:=none) (st:=none) ⟨o,ho,hc,hd⟩ rfl (post_val_or_str ⟨hz',fin⟩)
  |int j tj=>exact wpAny_getItem_str_slice (l:=some (i,ti)) (u:=some (j,tj)) (st:=none) ⟨o,ho,hc,hd⟩ rfl (post_val_or_str ⟨hz',fin⟩)
def lowSl (K:yG) (r:W->Option Int->Option Int->Hw->Q3->Prop):V->Option Int->Option Int->Hp->VK->Prop:=fun v lo hi H Q=>∃ x G,wQ K H x v/\xC K H G/\r x lo hi G (sL K H Q)
theorem sl_ok {X:Cx}:SlR X (lowSl X.K slR):=by
 intro pins s σ H v u vl vu lo hi sl Q I rv hs pl pu h;obtain ⟨x,G,rx,ab,h⟩:=h
 cases x with
 |tup ws =>
  obtain ⟨a,vs,rfl,q,rs⟩:=rx
  by_cases hw:HT.wD vs.length 0 lo=0/\HT.wD vs.length vs.length hi=vs.length
  .have e:uA ws lo hi=ws:=by
    have hw':=hw;rw [rs.length] at hw';unfold uA;rw [hw'.1,hw'.2,List.drop_zero,Nat.sub_zero,List.take_length]
   have h':sL X.K H Q (.tup (uA ws lo hi)) G:=h;rw [e] at h';exact zec pins s σ H _ _ vl vu lo hi sl Q I rv hs pl pu ⟨a,vs,rfl,q,hw,h' _ _ .refl ⟨a,vs,rfl,q,rs⟩ ab⟩
  .exact zhA pins s σ H _ _ vl vu lo hi sl Q I rv hs pl pu ⟨a,vs,rfl,q,hw,pZ ab (za3 rs lo hi) h⟩
 |ref p =>
  cases rx;simp only [slR] at h
  split at h
  .rename_i ws e;obtain ⟨vs,sq,rs⟩:=ab.seq e;exact zcC pins s σ H _ _ vl vu lo hi sl Q I rv hs pl pu ⟨p,vs,rfl,sq,uX ab (za3 rs lo hi) h⟩
  .exact h.elim
 |lsf ws =>
  obtain ⟨a,vs,rfl,q,rs⟩:=rx;exact zcC pins s σ H _ _ vl vu lo hi sl Q I rv hs pl pu ⟨a,vs,rfl,.inr q,uX ab (za3 rs lo hi) h⟩
 |str x =>
  cases (show v=.str x from rx);exact zhB I rv hs pl pu h.1 (h.2 _ _ .refl rfl ab)
 |_=>exact h.elim
def setR:W->W->W->Hw->(Hw->Prop)->Prop:=fun o i v G Q=>match o with
 | .ref p=>(match G p with
  |some (.lst ws)=>(match i with|.int k=>(match mK ws.length k with|some j=>Q (put G p (.lst (ws.set j v)))|none=>False)|_=>False)
  |some (.dic kvs)=>(match bO i with|some k=>kvs.length<sizeLine/\Q (put G p (.dic (cQ kvs k v)))|none=>False)
  |_=>False)
 |_=>False
theorem zcE {o i v:W} {G:Hw} {Q Q':Hw->Prop} (k:∀ G',Q G'->Q' G') (h:setR o i v G Q):setR o i v G Q':=by
 cases o with
 |ref p =>
  simp only [setR] at h ⊢
  split at h
  .cases i<;>simp only at h ⊢<;>first
    |exact h.elim
    | (split at h<;>first|exact k _ h|exact h.elim)
  .split at h
   .exact ⟨h.1,k _ h.2⟩
   .exact h.elim
  .exact h.elim
 |_=>exact h.elim
def zfx (K:yG):TSet:=fun o i v H Q=>∃ x y z G,wQ K H x o/\wQ K H y i/\wQ K H z v/\xC K H G/\setR x y z G fun G'=>∀ H',xZ K H H'->xC K H' G'->Q H'
theorem zhD {X:Cx} (hu:X.A.units+200<cLine):PSet X (zfx X.K):=by
 intro pins s σ H o i v ov iv u Q I ro ri rv h;obtain ⟨x,y,z,G,rx,ry,rz,ab,h⟩:=h
 cases x with
 |ref p =>
  cases rx;simp only [setR] at h
  split at h
  .rename_i ws e
   cases y with
   |int k =>
    simp only at h
    split at h
    .rename_i j ej;cases ry;obtain ⟨vs,q1,r1⟩:=ab.lst e;refine zed pins s σ H _ _ _ _ _ _ Q I ro ri rv ⟨p,vs,k,j,rfl,rfl,q1,by rw [r1.length];exact ej,?_⟩;have g:=ab.grow (u:=.lst (vs.set j v)) e;exact h _ g (ab.chg e ⟨_,rfl,((r1.mono g).set (rz.mono g) j)⟩)
    .exact h.elim
   |_=>exact h.elim
  .rename_i kvs e
   split at h
   .rename_i k ek;obtain ⟨l,e',rk⟩:=ab.dic e;have ey:=zde ry ek;subst ey;obtain rfl:ov=Value.ref p:=ro;refine zdE (by omega) I (.inl ⟨l,k,e',rfl,by rw [rk.length];exact h.1,rfl⟩) ri rv fun s' I'=>⟨_,I',?_⟩;have g:=ab.grow (u:=.dK (uC l k v)) e;exact h.2 _ g (ab.chg e ⟨_,rfl,(rk.mono g).put (rz.mono g)⟩)
   .exact h.elim
  .exact h.elim
 |_=>exact h.elim
end L3
namespace L3
open PySem PySem.Spec PyProof.Rows L2
abbrev XQ:=Str->List (Str×W)->Hw->Prop
def XN:XQ:=fun _ _ _=>False
abbrev uH:=List W->Hw->Q3->XQ->Prop
structure Fn3 where
 nm:Str
 sp:uH
structure Mt3 where
 nm:Str
 T:String
 sp:W->List W->Hw->Q3->Prop
abbrev I3:=qK->Hw->(List W->(Hw->Prop)->Hw->Prop)->Prop
structure It3 where
 nm:Str
 sp:List W->Hw->(List W->(Hw->Prop)->Hw->Prop)->Prop
structure Sx3 where
 m:Scope->Expr->Option (List Expr)
 sp:List W->Hw->Q3->Prop
structure Ix3 where
 m:Scope->Expr->Option (List Expr)
 sp:List W->Hw->(List W->(Hw->Prop)->Hw->Prop)->Prop
structure Ctx3 where
 fn:List Fn3
 gl:List (Str×W)
 mt:List Mt3
 it:List It3
 cl:List (Addr×List Str)
 sx:List Sx3
 ix:List Ix3
set_option genInjectivity false
mutual
inductive IE where
 |var (i:Nat)|con (c:Const)|glb (i:Nat)
 |bin (op:Operator) (a b:IE)|neg (a:IE)|not (a:IE)
 |cmp (op:CmpOp) (a b:IE)|chn (o1 o2:CmpOp) (a b c:IE)
 |and (a b:IE)|or (a b:IE)|ite (c a b:IE)
 |ix (a i:IE)|sl (a:IE) (lo hi:IO)
 |tup (es:IEs)|lst (es:IEs)|dct (ks:List Str) (es:IEs)
 |call (f:Nat) (es:IEs)|mth (m:Nat) (o:IE) (es:IEs)|att (o:IE) (f:Str)
 |lc (tg:ITg) (names:List Str) (caps:List Nat) (it:II) (c:IO) (elt:IE)
 |spc (i:Nat) (es:IEs)|ch3 (o1 o2 o3:CmpOp) (a b c d:IE)
inductive IO where
 |no|yes (e:IE)
inductive IEs where
 |nil|cons (e:IE) (es:IEs)
inductive II where
 |val (e:IE)|blt (i:Nat) (es:IEs)|spc (i:Nat) (es:IEs)
inductive ITg where
 |nm (i:Nat)|tup (ts:ITgs)
inductive ITgs where
 |nil|cons (t:ITg) (ts:ITgs)
end
mutual
inductive IS where
 |asg (i:Nat) (e:IE)|asgT (ts:ITgs) (e:IE)|asgI (o i e:IE)|asgA (o:IE) (f:Str) (e:IE)
 |ex (e:IE)|ret (e:IE)|retN|pass|brk|cnt
 |ite (c:IE) (a b:ISs)|whl (c:IE) (b:ISs)|for (tg:ITg) (it:II) (b:ISs)|dead|asgS (i j:Nat) (e:IE)
inductive ISs where
 |nil|cons (s:IS) (ss:ISs)
end
def zJ:Const->Option W
 | .none=>some .non
 | .bool b=>some (.bl b)
 | .int i=>some (.int i)
 | .str x=>some (.str x)
 |_=>none
abbrev G3:=W->qK->Hw->(qK->Hw->Prop)->Prop
abbrev Gs3:=List W->qK->Hw->(qK->Hw->Prop)->Prop
mutual
def zT:ITg->G3
 | .nm i=>fun w σ G Q=>Q (σ.set i (some w)) G
 | .tup ts=>fun w σ G Q=>match w with
  | .tup ws=>zX ts ws σ G Q
  |_=>False
def zX:ITgs->Gs3
 | .nil=>fun ws σ G Q=>match ws with | []=>Q σ G|_=>False
 | .cons t ts=>fun ws σ G Q=>match ws with
  |w::r=>zT t w σ G fun σ' G'=>zX ts r σ' G' Q
  | []=>False
end
def dN (k:Nat) (caps:List Nat) (σ:qK):qK:=List.replicate k none++caps.map fun j=>(σ[j]?).join
def sgs (x:Str):List W:=x.cps.toList.map fun c=>.str ⟨#[c]⟩
def kW:xV->W
 | .inl i=>.int i
 | .inr x=>.str x
def zdz (G:Hw) (p:Addr):Option (List (xV×W)):=match G p with
 |some (.dic kvs)=>some kvs
 |some (.fzd kvs)=>some kvs
 |_=>none
def kJ (w:W) (G:Hw) (R:List W->(Hw->Prop)->Hw->Prop):Prop:=match w with
 | .tup ws=>R ws (fun _=>True) G
 | .ref p=>(match yJ G p with
  |some ws=>R ws (fun G'=>yJ G' p=some ws) G
  |none=>(match zdz G p with
   |some kvs=>R (kvs.map fun kv=>kW kv.1) (fun G'=>G' p=some (.fzd kvs)) (put G p (.fzd kvs))
   |none=>False))
 | .str x=>R (sgs x) (fun _=>True) G
 |_=>False
def lcR (items:List W) (stab:Hw->Prop) (G1:Hw) (turn:W->Hw->(Option W->Hw->Prop)->Prop) (Q:Q3):Prop :=
 ∃ Pv:Nat->List W->Hw->Prop,Pv 0 [] G1/\(∀ i acc G,Pv i acc G->i<=items.length->stab G/\acc.length<=i)/\items.length<=sizeLine /\
  (∀ i w acc G,items[i]?=some w->Pv i acc G->turn w G fun o G'=>match o with|some x=>Pv (i+1) (acc++[x]) G'|none=>Pv (i+1) acc G') /\
  ∀ acc G,Pv items.length acc G->∀ p,G p=none->Q (.ref p) (put G p (.lst acc))
def zK (w:W) (G:Hw) (Q:Q3):Prop:=match w with|.int i=>Q (.int (-i)) G|_=>False
def yZ (w:W) (Q:Bool->Prop):Prop:=match w with|.bl b=>Q b|_=>False
def zL (w:W) (Q:Int->Prop):Prop:=match w with|.int i=>Q i|_=>False
def tyW (G:Hw):W->String->Prop
 | .str _,T=>T = "str"
 | .ref p,T=>match G p with
  |some (.lst _)=>T = "list"
  |some (.fix _)=>T = "list"
  |some (.dic _)=>T = "dict"
  |_=>False
 |_,_=>False
def attR (cl:List (Addr×List Str)) (f:Str) (w:W) (G:Hw) (Q:Q3):Prop:=match w with
 | .ref p=>(match G p with
  |some (.ins C fs)=>(∃ l,(C,l)∈cl/\f∈l)/\(match fs.lookup f with|some v=>Q v G|none=>False)
  |_=>False)
 |_=>False
def zcO (f:Str) (v:W):List (Str×W)->List (Str×W)
 | []=>[(f,v)]
 | (g,x)::r=>if g=f then (g,v)::r else (g,x)::zcO f v r
def satR (cl:List (Addr×List Str)) (f:Str) (o v:W) (G:Hw) (Q:Hw->Prop):Prop:=match o with
 | .ref p=>(match G p with
  |some (.ins C fs)=>(∃ l,(C,l)∈cl/\f∈l)/\fs.length<1000/\Q (put G p (.ins C (zcO f v fs)))
  |_=>False)
 |_=>False
def ze9 (ks:List Str) (ws:List W):List (xV×W):=(ks.zip ws).foldl (fun acc kv=>cQ acc (.inr kv.1) kv.2) []
structure ET where
 e:E3
 t:T3
def zO (e:E3):T3:=fun σ G Q=>e σ G fun w G1=>match qP G1 w with|some b=>Q b G1|none=>False
def yU (e:E3):T3:=fun σ G Q=>e σ G fun w G1=>yZ w fun b=>Q b G1
def zB (e:E3):ET:=⟨e,zO e⟩
def yV (e:E3):ET:=⟨e,yU e⟩
def seqA:List E3->A3
 | []=>fun _ G Q=>Q [] G
 |e::es=>fun σ G Q=>e σ G fun x G1=>seqA es σ G1 fun xs G2=>Q (x::xs) G2
section
variable (Γ : Ctx3)
mutual
def zF (E:XQ):IE->ET
 | .var i=>zB fun σ G Q=>match σ[i]? with|some (some w)=>Q w G|_=>False
 | .con c=>zB fun σ G Q=>match zJ c with|some w=>Q w G|none=>False
 | .glb i=>zB fun σ G Q=>match Γ.gl[i]? with|some p=>Q p.2 G|none=>False
 | .bin op a b=>zB fun σ G Q=>(zF E a).e σ G fun x G1=>(zF E b).e σ G1 fun y G2=>jS op x y G2 Q
 | .neg a=>zB fun σ G Q=>(zF E a).e σ G fun x G1=>zK x G1 Q
 | .not a=>⟨fun σ G Q=>(zF E a).e σ G fun x G1=>yZ x fun b=>Q (.bl (!b)) G1,fun σ G Q=>(zF E a).t σ G fun b G1=>Q (!b) G1⟩
 | .cmp op a b=>yV fun σ G Q=>(zF E a).e σ G fun x G1=>(zF E b).e σ G1 fun y G2=>yK op x y G2 Q
 | .chn o1 o2 a b c=>yV fun σ G Q=>(zF E a).e σ G fun x G1=>(zF E b).e σ G1 fun y G2=>yK o1 x y G2 fun z G3=>yZ z fun k =>
   if k=true then (zF E c).e σ G3 fun u G4=>yK o2 y u G4 Q else Q (.bl false) G3
 | .and a b=>⟨fun σ G Q=>(zF E a).e σ G fun x G1=>yZ x fun k=>if k=true then (zF E b).e σ G1 Q else Q (.bl false) G1,
   fun σ G Q=>(zF E a).t σ G fun k G1=>if k=true then (zF E b).t σ G1 Q else Q false G1⟩
 | .or a b=>⟨fun σ G Q=>(zF E a).e σ G fun x G1=>yZ x fun k=>if k=true then Q (.bl true) G1 else (zF E b).e σ G1 Q,
   fun σ G Q=>(zF E a).t σ G fun k G1=>if k=true then Q true G1 else (zF E b).t σ G1 Q⟩
 | .ite c a b=>⟨fun σ G Q=>(zF E c).t σ G fun k G1=>if k=true then (zF E a).e σ G1 Q else (zF E b).e σ G1 Q,fun _ _ _=>False⟩
 | .ix a i=>zB fun σ G Q=>(zF E a).e σ G fun x G1=>(zF E i).e σ G1 fun y G2=>pG x y G2 Q
 | .sl a lo hi=>zB fun σ G Q=>(zF E a).e σ G fun x G1=>zN E lo σ G1 fun l G2=>zN E hi σ G2 fun u G3=>slR x l u G3 Q
 | .tup es=>zB fun σ G Q=>zU E es σ G fun ws G1=>ws.length<=sizeLine/\Q (.tup ws) G1
 | .lst es=>zB fun σ G Q=>zU E es σ G fun ws G1=>ws.length<=sizeLine/\∀ p,G1 p=none->Q (.ref p) (put G1 p (.lst ws))
 | .dct ks es=>zB fun σ G Q=>∀ p,G p=none->zU E es σ (put G p (.dic [])) fun ws G1=>G1 p=some (.dic [])/\ws.length=ks.length/\Q (.ref p) (put G1 p (.dic (ze9 ks ws)))
 | .call f es=>zB fun σ G Q=>zU E es σ G fun ws G1=>match Γ.fn[f]? with|some h=>h.sp ws G1 Q E|none=>False
 | .mth m o es=>zB fun σ G Q=>(zF E o).e σ G fun x G1=>match Γ.mt[m]? with|some h=>tyW G1 x h.T/\zU E es σ G1 fun ws G2=>h.sp x ws G2 Q|none=>False
 | .att o f=>zB fun σ G Q=>(zF E o).e σ G fun x G1=>attR Γ.cl f x G1 Q
 | .lc tg names caps it c elt=>zB fun σ G Q=>zR E it σ G fun items stab G1 =>
   lcR items stab G1 (fun w G' K=>zT tg w (dN names.length caps σ) G' fun σ2 G2=>zP c σ2 G2 fun b G3=>if b=true then (zF XN elt).e σ2 G3 fun x G4=>K (some x) G4 else K none G3) Q
 | .spc i es=>zB fun σ G Q=>zU E es σ G fun ws G1=>match Γ.sx[i]? with|some h=>h.sp ws G1 Q|none=>False
 | .ch3 o1 o2 o3 a b c d=>yV fun σ G Q=>(zF E a).e σ G fun x G1=>(zF E b).e σ G1 fun y G2=>yK o1 x y G2 fun z G3=>yZ z fun k =>
   if k=true then (zF E c).e σ G3 fun u G4=>yK o2 y u G4 fun z2 G5=>yZ z2 fun k2 =>
    if k2=true then (zF E d).e σ G5 fun t G6=>yK o3 u t G6 Q else Q (.bl false) G5
   else Q (.bl false) G3
def zN (E:XQ):IO->qK->Hw->(Option Int->Hw->Prop)->Prop
 | .no=>fun _ G Q=>Q none G
 | .yes e=>fun σ G Q=>(zF E e).e σ G fun x G1=>zL x fun i=>Q (some i) G1
def zP:IO->T3
 | .no=>fun _ G Q=>Q true G
 | .yes e=>(zF XN e).t
def zU (E:XQ):IEs->A3
 | .nil=>fun _ G Q=>Q [] G
 | .cons e es=>fun σ G Q=>(zF E e).e σ G fun x G1=>zU E es σ G1 fun xs G2=>Q (x::xs) G2
def zR (E:XQ):II->I3
 | .val e=>fun σ G R=>(zF E e).e σ G fun w G1=>kJ w G1 R
 | .blt i es=>fun σ G R=>zU E es σ G fun ws G1=>match Γ.it[i]? with|some h=>h.sp ws G1 R|none=>False
 | .spc i es=>fun σ G R=>zU E es σ G fun ws G1=>match Γ.ix[i]? with|some h=>h.sp ws G1 R|none=>False
end
def semL:IEs->List E3
 | .nil=>[]
 | .cons e es=>(zF Γ XN e).e::semL es
abbrev zS (E:XQ) (e:IE):E3:=(zF Γ E e).e
abbrev zM (E:XQ) (e:IE):T3:=(zF Γ E e).t
def forR (items:List W) (stab:Hw->Prop) (D:End3) (σ:qK) (G1:Hw) (turn:W->End3->qK->Hw->Prop):Prop :=
 ∃ Pv:Nat->qK->Hw->Prop,Pv 0 σ G1/\(∀ i σ G,Pv i σ G->i<=items.length->stab G) /\
  (∀ i w σ G,items[i]?=some w->Pv i σ G->turn w { D with nx:=Pv (i+1),ct:=Pv (i+1),bk:=D.nx } σ G)/\∀ σ G,Pv items.length σ G->D.nx σ G
mutual
def zQ (E:XQ):IS->S3
 | .asg i e=>fun D σ G=>zS Γ E e σ G fun w G1=>D.nx (σ.set i (some w)) G1
 | .asgT ts e=>fun D σ G=>zS Γ E e σ G fun w G1=>zT (.tup ts) w σ G1 D.nx
 | .asgI o i e=>fun D σ G=>zS Γ E e σ G fun w G1=>zS Γ E o σ G1 fun x G2=>zS Γ E i σ G2 fun y G3=>setR x y w G3 fun G4=>D.nx σ G4
 | .asgA o f e=>fun D σ G=>zS Γ E e σ G fun w G1=>zS Γ E o σ G1 fun x G2=>satR Γ.cl f x w G2 fun G3=>D.nx σ G3
 | .ex e=>fun D σ G=>zS Γ E e σ G fun _ G1=>D.nx σ G1
 | .ret e=>fun D σ G=>zS Γ E e σ G D.rt
 | .retN=>fun D _ G=>D.rt .non G
 | .pass=>fun D σ G=>D.nx σ G
 | .brk=>fun D σ G=>D.bk σ G
 | .cnt=>fun D σ G=>D.ct σ G
 | .ite c a b=>fun D σ G=>zM Γ E c σ G fun k G1=>if k=true then zH E a D σ G1 else zH E b D σ G1
 | .whl c b=>fun D σ G=>∃ Pv:Nat->qK->Hw->Prop,(∃ m,Pv m σ G)/\∀ m σ G,Pv m σ G->zM Γ E c σ G fun k G1 =>
   if k=true then zH E b { D with nx:=fun σ' G'=>∃ m',m' < m/\Pv m' σ' G',ct:=fun σ' G'=>∃ m',m' < m/\Pv m' σ' G',bk:=D.nx } σ G1 else D.nx σ G1
 | .for tg it b=>fun D σ G=>zR Γ E it σ G fun items stab G1=>forR items stab D σ G1 fun w D' σ' G'=>zT tg w σ' G' fun σ2 G2=>zH E b D' σ2 G2
 | .dead=>fun _ _ _=>False
 | .asgS i j e=>fun D σ G=>zS Γ E e σ G fun w G1=>match w with
  | .tup (x::r)=>r.length<=1000/\∀ p,G1 p=none->D.nx ((σ.set i (some x)).set j (some (.ref p))) (put G1 p (.lst r))
  |_=>False
def zH (E:XQ):ISs->S3
 | .nil=>fun D σ G=>D.nx σ G
 | .cons s ss=>fun D σ G=>zQ E s { D with nx:=zH E ss D } σ G
end
end
theorem tV (Γ:Ctx3):∀ es:IEs,zU Γ XN es=seqA (semL Γ es)
 | .nil=>rfl
 | .cons e es=>by
  show (fun (σ:qK) (G:Hw) (Q:List W->Hw->Prop)=>(zF Γ XN e).e σ G fun x G1=>zU Γ XN es σ G1 fun xs G2=>Q (x::xs) G2)=_;rw [tV Γ es];rfl
structure TabMono (Γ:Ctx3):Prop where
 fn:∀ f∈Γ.fn,∀ ws G (Q Q':Q3) E,(∀ w G',Q w G'->Q' w G')->f.sp ws G Q E->f.sp ws G Q' E
 mt:∀ m∈Γ.mt,∀ x ws G (Q Q':Q3),(∀ w G',Q w G'->Q' w G')->m.sp x ws G Q->m.sp x ws G Q'
 it:∀ m∈Γ.it,∀ ws G (R R':List W->(Hw->Prop)->Hw->Prop),(∀ a b c,R a b c->R' a b c)->m.sp ws G R->m.sp ws G R'
 sx:∀ m∈Γ.sx,∀ ws G (Q Q':Q3),(∀ w G',Q w G'->Q' w G')->m.sp ws G Q->m.sp ws G Q'
 ix:∀ m∈Γ.ix,∀ ws G (R R':List W->(Hw->Prop)->Hw->Prop),(∀ a b c,R a b c->R' a b c)->m.sp ws G R->m.sp ws G R'
def zji (t:I3):Prop:=∀ σ G (R R':List W->(Hw->Prop)->Hw->Prop),(∀ a b c,R a b c->R' a b c)->t σ G R->t σ G R'
def zjh (t:qK->Hw->(Option Int->Hw->Prop)->Prop):Prop:=∀ σ G (Q Q':Option Int->Hw->Prop),(∀ a b,Q a b->Q' a b)->t σ G Q->t σ G Q'
theorem kH {w:W} {Q Q':Bool->Prop} (k:∀ b,Q b->Q' b) (h:yZ w Q):yZ w Q':=by
 cases w<;>first|exact k _ h|exact h.elim
theorem bJ {w:W} {Q Q':Int->Prop} (k:∀ b,Q b->Q' b) (h:zL w Q):zL w Q':=by
 cases w<;>first|exact k _ h|exact h.elim
theorem zc0 {w:W} {G:Hw} {Q Q':Q3} (k:∀ w G,Q w G->Q' w G) (h:zK w G Q):zK w G Q':=by
 cases w<;>first|exact k _ _ h|exact h.elim
theorem zdT {cl:List (Addr×List Str)} {f:Str} {w:W} {G:Hw} {Q Q':Q3} (k:∀ w G,Q w G->Q' w G) (h:attR cl f w G Q):attR cl f w G Q':=by
 cases w with
 |ref p =>
  simp only [attR] at h ⊢
  split at h
  .refine ⟨h.1,?_⟩;have h2:=h.2
   split at h2
   .exact k _ _ h2
   .exact h2.elim
  .exact h.elim
 |_=>exact h.elim
theorem dZ {w:W} {G:Hw} {R R':List W->(Hw->Prop)->Hw->Prop} (k:∀ a b c,R a b c->R' a b c) (h:kJ w G R):kJ w G R':=by
 cases w with
 |tup ws=>exact k _ _ _ h
 |ref p =>
  simp only [kJ] at h ⊢
  split at h
  .exact k _ _ _ h
  .split at h
   .exact k _ _ _ h
   .exact h.elim
 |str x=>exact k _ _ _ h
 |_=>exact h.elim
theorem zeH {items:List W} {stab:Hw->Prop} {G1:Hw} {turn:W->Hw->(Option W->Hw->Prop)->Prop} {Q Q':Q3} (k:∀ w G,Q w G->Q' w G) (h:lcR items stab G1 turn Q):lcR items stab G1 turn Q':=by
 obtain ⟨Pv,h0,h1,h2,h3,h4⟩:=h;exact ⟨Pv,h0,h1,h2,h3,fun acc G hp p hn=>k _ _ (h4 acc G hp p hn)⟩
theorem zcr {e:E3} (m:jR e):sZ (zO e):=fun σ G Q Q' k h=>m σ G _ _ (fun w G1 q=>by
 split at q
 .exact k _ _ q
 .exact q.elim) h
theorem zfd {e:E3} (m:jR e):sZ (yU e):=fun σ G Q Q' k h=>m σ G _ _ (fun w G1 q=>kH (fun b=>k b G1) q) h
theorem xM {e:E3} (m:jR e):jR (zB e).e/\sZ (zB e).t:=⟨m,zcr m⟩
theorem fV {e:E3} (m:jR e):jR (yV e).e/\sZ (yV e).t:=⟨m,zfd m⟩
theorem wB {α:Type} {l:List α} {i:Nat} {x:α} (h:l[i]?=some x):x∈l:=List.mem_of_getElem? h
variable {Γ : Ctx3} (g : TabMono Γ)
include g
theorem zby (e:IE):∀ E,jR (zF Γ E e).e/\sZ (zF Γ E e).t:=by
 refine IE.rec (motive_1:=fun e=>∀ E,jR (zF Γ E e).e/\sZ (zF Γ E e).t) (motive_2:=fun o=>(∀ E,zjh (zN Γ E o))/\sZ (zP Γ o)) (motive_3:=fun es=>∀ E,uD (zU Γ E es)) (motive_4:=fun it=>∀ E,zji (zR Γ E it))
  (motive_5:=fun _=>True) (motive_6:=fun _=>True) ?var ?con ?glb ?bin ?neg ?not ?cmp ?chn ?and ?or ?ite ?ix ?sl ?tup ?lst ?dct ?call ?mth ?att ?lc ?spc ?ch3 ?no ?yes ?nil ?cons ?val ?blt ?ispc ?nm ?tt ?tn ?tc e
 case var =>
  intro i E;refine xM fun σ G Q Q' k h=>?_
  split at h
  .exact k _ _ h
  .exact h.elim
 case con =>
  intro c E;refine xM fun σ G Q Q' k h=>?_
  split at h
  .exact k _ _ h
  .exact h.elim
 case glb =>
  intro i E;refine xM fun σ G Q Q' k h=>?_
  split at h
  .exact k _ _ h
  .exact h.elim
 case bin=>exact fun op a b ha hb E=>xM fun σ G Q Q' k h=>(ha E).1 σ G _ _ (fun x G1 h=>(hb E).1 σ G1 _ _ (fun y G2 h=>zaw op x y G2 _ _ k h) h) h
 case neg=>exact fun a ha E=>xM fun σ G Q Q' k h=>(ha E).1 σ G _ _ (fun x G1 h=>zc0 k h) h
 case not=>exact fun a ha E=>⟨fun σ G Q Q' k h=>(ha E).1 σ G _ _ (fun x G1 h=>kH (fun b=>k _ _) h) h,fun σ G Q Q' k h=>(ha E).2 σ G _ _ (fun b G1 h=>k _ _ h) h⟩
 case cmp=>exact fun op a b ha hb E=>fV fun σ G Q Q' k h=>(ha E).1 σ G _ _ (fun x G1 h=>(hb E).1 σ G1 _ _ (fun y G2 h=>xN op x y G2 _ _ k h) h) h
 case chn =>
  exact fun o1 o2 a b c ha hb hc E=>fV fun σ G Q Q' k h=>(ha E).1 σ G _ _ (fun x G1 h=>(hb E).1 σ G1 _ _ (fun y G2 h=>xN o1 x y G2 _ _ (fun z G3 h=>kH (fun b h=>by
   split
   .rename_i hb;rw [if_pos hb] at h;exact (hc E).1 σ G3 _ _ (fun u G4 h=>xN o2 y u G4 _ _ k h) h
   .rename_i hb;rw [if_neg hb] at h;exact k _ _ h) h) h) h) h
 case ch3 =>
  exact fun o1 o2 o3 a b c d ha hb hc hd E=>fV fun σ G Q Q' k h=>(ha E).1 σ G _ _ (fun x G1 h=>(hb E).1 σ G1 _ _ (fun y G2 h=>xN o1 x y G2 _ _ (fun z G3 h=>kH (fun b h=>by
   split
   .rename_i hb;rw [if_pos hb] at h
    exact (hc E).1 σ G3 _ _ (fun u G4 h=>xN o2 y u G4 _ _ (fun z2 G5 h=>kH (fun b2 h=>by
     split
     .rename_i hb2;rw [if_pos hb2] at h;exact (hd E).1 σ G5 _ _ (fun t G6 h=>xN o3 u t G6 _ _ k h) h
     .rename_i hb2;rw [if_neg hb2] at h;exact k _ _ h) h) h) h
   .rename_i hb;rw [if_neg hb] at h;exact k _ _ h) h) h) h) h
 case and =>
  exact fun a b ha hb E=>⟨fun σ G Q Q' k h=>(ha E).1 σ G _ _ (fun x G1 h=>kH (fun c h=>by
   split
   .rename_i hc;rw [if_pos hc] at h;exact (hb E).1 σ G1 _ _ k h
   .rename_i hc;rw [if_neg hc] at h;exact k _ _ h) h) h,fun σ G Q Q' k h=>(ha E).2 σ G _ _ (fun c G1 h=>by
   split
   .rename_i hc;rw [if_pos hc] at h;exact (hb E).2 σ G1 _ _ k h
   .rename_i hc;rw [if_neg hc] at h;exact k _ _ h) h⟩
 case or =>
  exact fun a b ha hb E=>⟨fun σ G Q Q' k h=>(ha E).1 σ G _ _ (fun x G1 h=>kH (fun c h=>by
   split
   .rename_i hc;rw [if_pos hc] at h;exact k _ _ h
   .rename_i hc;rw [if_neg hc] at h;exact (hb E).1 σ G1 _ _ k h) h) h,fun σ G Q Q' k h=>(ha E).2 σ G _ _ (fun c G1 h=>by
   split
   .rename_i hc;rw [if_pos hc] at h;exact k _ _ h
   .rename_i hc;rw [if_neg hc] at h;exact (hb E).2 σ G1 _ _ k h) h⟩
 case ite =>
  exact fun c a b hc ha hb E=>⟨fun σ G Q Q' k h=>(hc E).2 σ G _ _ (fun c G1 h=>by
   split
   .rename_i hc;rw [if_pos hc] at h;exact (ha E).1 σ G1 _ _ k h
   .rename_i hc;rw [if_neg hc] at h;exact (hb E).1 σ G1 _ _ k h) h,fun _ _ _ _ _ h=>h.elim⟩
 case ix=>exact fun a b ha hb E=>xM fun σ G Q Q' k h=>(ha E).1 σ G _ _ (fun x G1 h=>(hb E).1 σ G1 _ _ (fun y G2 h=>zbF x y G2 _ _ k h) h) h
 case sl=>exact fun a lo hi ha hl hh E=>xM fun σ G Q Q' k h=>(ha E).1 σ G _ _ (fun x G1 h=>(hl.1 E) σ G1 _ _ (fun l G2 h=>(hh.1 E) σ G2 _ _ (fun u G3 h=>zbp k h) h) h) h
 case tup=>exact fun es hs E=>xM fun σ G Q Q' k h=>(hs E) σ G _ _ (fun ws G1 h=>⟨h.1,k _ _ h.2⟩) h
 case lst=>exact fun es hs E=>xM fun σ G Q Q' k h=>(hs E) σ G _ _ (fun ws G1 h=>⟨h.1,fun p hp=>k _ _ (h.2 p hp)⟩) h
 case dct=>exact fun ks es hs E=>xM fun σ G Q Q' k h=>fun p hp=>(hs E) σ _ _ _ (fun ws G1 h=>⟨h.1,h.2.1,k _ _ h.2.2⟩) (h p hp)
 case call =>
  exact fun f es hs E=>xM fun σ G Q Q' k h=>(hs E) σ G _ _ (fun ws G1 h=>by
   split at h
   .rename_i f' e;exact g.fn f' (wB e) ws G1 Q Q' E k h
   .exact h.elim) h
 case mth =>
  exact fun m o es ho hs E=>xM fun σ G Q Q' k h=>(ho E).1 σ G _ _ (fun x G1 h=>by
   split at h
   .rename_i m' e;exact ⟨h.1,(hs E) σ G1 _ _ (fun ws G2 h=>g.mt m' (wB e) x ws G2 Q Q' k h) h.2⟩
   .exact h.elim) h
 case att=>exact fun o f ho E=>xM fun σ G Q Q' k h=>(ho E).1 σ G _ _ (fun x G1 h=>zdT k h) h
 case lc=>exact fun tg names caps it c elt _ hi hc he E=>xM fun σ G Q Q' k h=>(hi E) σ G _ _ (fun items stab G1 h=>zeH k h) h
 case spc =>
  exact fun i es hs E=>xM fun σ G Q Q' k h=>(hs E) σ G _ _ (fun ws G1 h=>by
   split at h
   .rename_i f' e;exact g.sx f' (wB e) ws G1 Q Q' k h
   .exact h.elim) h
 case ispc =>
  exact fun i es hs E σ G R R' k h=>(hs E) σ G _ _ (fun ws G1 h=>by
   split at h
   .rename_i m' e;exact g.ix m' (wB e) ws G1 R R' k h
   .exact h.elim) h
 case no=>exact ⟨fun E σ G Q Q' k h=>k _ _ h,fun σ G Q Q' k h=>k _ _ h⟩
 case yes=>exact fun e he=>⟨fun E σ G Q Q' k h=>(he E).1 σ G _ _ (fun x G1 h=>bJ (fun i=>k _ _) h) h,(he XN).2⟩
 case nil=>exact fun E σ G Q Q' k h=>k _ _ h
 case cons=>exact fun e es he hs E σ G Q Q' k h=>(he E).1 σ G _ _ (fun x G1 h=>(hs E) σ G1 _ _ (fun xs G2 h=>k _ _ h) h) h
 case val=>exact fun e he E σ G R R' k h=>(he E).1 σ G _ _ (fun w G1 h=>dZ k h) h
 case blt =>
  exact fun i es hs E σ G R R' k h=>(hs E) σ G _ _ (fun ws G1 h=>by
   split at h
   .rename_i m' e;exact g.it m' (wB e) ws G1 R R' k h
   .exact h.elim) h
 case nm=>exact fun _=>trivial
 case tt=>exact fun _ _=>trivial
 case tn=>trivial
 case tc=>exact fun _ _ _ _=>trivial
theorem zA (E:XQ) (e:IE):jR (zF Γ E e).e:=(zby g e E).1
theorem pY (E:XQ) (e:IE):sZ (zF Γ E e).t:=(zby g e E).2
theorem kO (E:XQ):∀ es:IEs,uD (zU Γ E es)
 | .nil=>fun σ G Q Q' k h=>k _ _ h
 | .cons e es=>fun σ G Q Q' k h=>zA g E e σ G _ _ (fun x G1 h=>kO E es σ G1 _ _ (fun xs G2 h=>k _ _ h) h) h
theorem zin (E:XQ):∀ o:IO,zjh (zN Γ E o)
 | .no=>fun σ G Q Q' k h=>k _ _ h
 | .yes e=>fun σ G Q Q' k h=>zA g E e σ G _ _ (fun x G1 h=>bJ (fun i=>k _ _) h) h
theorem monoC:∀ o:IO,sZ (zP Γ o)
 | .no=>fun σ G Q Q' k h=>k _ _ h
 | .yes e=>pY g XN e
theorem zio (E:XQ):∀ it:II,zji (zR Γ E it)
 | .val e=>fun σ G R R' k h=>zA g E e σ G _ _ (fun w G1 h=>dZ k h) h
 | .blt i es=>fun σ G R R' k h=>kO g E es σ G _ _ (fun ws G1 h=>by
   split at h
   .rename_i m' e;exact g.it m' (wB e) ws G1 R R' k h
   .exact h.elim) h
 | .spc i es=>fun σ G R R' k h=>kO g E es σ G _ _ (fun ws G1 h=>by
   split at h
   .rename_i m' e;exact g.ix m' (wB e) ws G1 R R' k h
   .exact h.elim) h
end L3
namespace L3
open PySem PySem.Spec PyProof.Rows L2
structure MC where
 sc:Scope
 N:List Str
 own:Str->Bool
 fns:List Str
 gls:List Str
 mts:List Str
 its:List Str
 sxm:List (Scope->Expr->Option (List Expr))
 ixm:List (Scope->Expr->Option (List Expr))
def visB (sc:Scope) (x:Str):Bool:=match sc.names.lookup x with
 |some .local=>true
 |some .cell=>true
 |some .free=>true
 |_=>false
def rN (sc:Scope) (x:Str):Bool:=sc.names.lookup x==some .globalImplicit&&!(x==("__debug__" : Str))&&!(x==("__name__" : Str))
def rA:Expr->Bool
 | .Set ..=>false
 |_=>true
def jU:Expr->Bool
 | .Starred ..=>false
 |_=>true
def hV:Expr->Bool
 | .Slice ..=>false
 |_=>true
def nY:Expr->Bool
 | .ListComp ..=>false
 | .SetComp ..=>false
 | .DictComp ..=>false
 |_=>true
def zdU:Expr->Bool
 | .Call (.Name ..) [] [] _=>false
 |_=>true
def relS (sc out:Scope):Scope:={ sc with names:=sc.names.map fun (n,k)=>if (k==.free&&out.kind==.function&&out.names.lookup n==some .cell) then (n,.cell) else (n,k) }
def blkB (out sc:Scope):Bool:=(sc.kind==.function)&&(sc.names.all fun y=>(!(y.2==.cell) || sc.names.lookup y.1==some .cell)&&(!(y.2==.free) || sc.names.lookup y.1==some .free)) &&
 (sc.names.all fun y=>!(y.2==.free) || out.names.lookup y.1==some .cell || out.names.lookup y.1==some .free) &&
 (sc.names.all fun y=>!(y.2==.local) || sc.names.lookup y.1==some .local)
def gE:List Str->Bool
 | []=>true
 |x::r=>!r.contains x&&gE r
def locB (M:MC) (x:Str):Bool:=match M.sc.names.lookup x with
 |some .local=>true
 |some .cell=>M.own x
 |_=>false
mutual
def tgIx:ITg->List Nat
 | .nm i=>[i]
 | .tup ts=>zd6 ts
def zd6:ITgs->List Nat
 | .nil=>[]
 | .cons t ts=>tgIx t++zd6 ts
end
mutual
def mG (M:MC):ITg->Expr->Bool
 | .nm i,.Name x _=>M.N[i]?==some x&&locB M x
 | .tup ts,.Tuple es _ _=>mGs M ts es
 |_,_=>false
def mGs (M:MC):ITgs->List Expr->Bool
 | .nil,[]=>true
 | .cons t ts,e::es=>jU e&&mG M t e&&mGs M ts es
 |_,_=>false
end
mutual
def mE:IE->MC->Expr->Bool
 | .var i=>fun M e=>match e with
  | .Name x _=>M.N[i]?==some x&&visB M.sc x&&!(x==("__debug__" : Str))&&!(x==("__classdict__" : Str))
  |_=>false
 | .con c=>fun M e=>match e with
  | .Constant d _ _=>decide (c=d)
  |_=>false
 | .glb i=>fun M e=>match e with
  | .Name x _=>M.gls[i]?==some x&&rN M.sc x
  |_=>false
 | .bin op a b=>fun M e=>match e with
  | .BinOp l o r _=>decide (op=o)&&mE a M l&&mE b M r
  |_=>false
 | .neg a=>fun M e=>match e with
  | .UnaryOp .USub l _=>mE a M l
  |_=>false
 | .not a=>fun M e=>match e with
  | .UnaryOp .Not l _=>mE a M l
  |_=>false
 | .cmp op a b=>fun M e=>match e with
  | .Compare l [o] [r] _=>decide (op=o)&&mE a M l&&mE b M r&&rA r
  |_=>false
 | .chn o1 o2 a b c=>fun M e=>match e with
  | .Compare l [p1,p2] [r,t] _=>decide (o1=p1)&&decide (o2=p2)&&mE a M l&&mE b M r&&mE c M t&&rA t
  |_=>false
 | .ch3 o1 o2 o3 a b c d=>fun M e=>match e with
  | .Compare l [p1,p2,p3] [r,t,u] _=>decide (o1=p1)&&decide (o2=p2)&&decide (o3=p3)&&mE a M l&&mE b M r&&mE c M t&&mE d M u&&rA u
  |_=>false
 | .and a b=>fun M e=>match e with
  | .BoolOp .And [l,r] _=>mE a M l&&mE b M r
  | .BoolOp .And (l::r::q::rest) pos=>mE a M l&&mE b M (.BoolOp .And (r::q::rest) pos)
  |_=>false
 | .or a b=>fun M e=>match e with
  | .BoolOp .Or [l,r] _=>mE a M l&&mE b M r
  | .BoolOp .Or (l::r::q::rest) pos=>mE a M l&&mE b M (.BoolOp .Or (r::q::rest) pos)
  |_=>false
 | .ite c a b=>fun M e=>match e with
  | .IfExp t l r _=>mE c M t&&mE a M l&&mE b M r
  |_=>false
 | .ix a i=>fun M e=>match e with
  | .Subscript l r _=>mE a M l&&mE i M r&&hV r
  |_=>false
 | .sl a lo hi=>fun M e=>match e with
  | .Subscript l (.Slice x y none _) _=>mE a M l&&mO lo M x&&mO hi M y
  |_=>false
 | .tup es=>fun M e=>match e with
  | .Tuple xs _ _=>mA es M xs
  |_=>false
 | .lst es=>fun M e=>match e with
  | .List xs _=>mA es M xs
  |_=>false
 | .dct ks es=>fun M e=>match e with
  | .Dict keys xs _=>keyB ks keys&&mA es M xs&&decide (keys.length=xs.length)&&decide (keys.length<=15)&&!ks.isEmpty
  |_=>false
 | .call f es=>fun M e=>match e with
  | .Call (.Name x _) xs [] _=>M.fns[f]?==some x&&rN M.sc x&&mA es M xs
  |_=>false
 | .mth m o es=>fun M e=>match e with
  | .Call (.Attribute l x apos) xs [] cpos=>M.mts[m]?==some x&&zdU l&&(apos.endLine==cpos.line)&&decide (xs.length<25)&&mE o M l&&mA es M xs
  |_=>false
 | .att o f=>fun M e=>match e with
  | .Attribute l x _=>x==f&&zdU l&&mE o M l
  |_=>false
 | .lc tg names caps it c elt=>fun M e=>match e with
  | .ListComp x [⟨t,ix,ifs,asy⟩] sc _ =>
   let M':MC:={ M with sc:=relS sc M.sc,N:=names++caps.map (fun j=>M.N.getD j Str.empty),own:=fun x=>sc.names.lookup x==some .cell }
   decide (asy=0)&&blkB M.sc sc&&rA ix&&gE M'.N&&(caps.all fun j=>decide (j<M.N.length)&&(sc.names.lookup (M.N.getD j Str.empty)==some .free)) &&
    mI it M ix&&((tgIx tg).all fun i=>decide (i<names.length))&&mG M' tg t&&mC c M' ifs&&mE elt M' x
  |_=>false
 | .spc i es=>fun M e=>nY e&&(match M.sxm[i]? with
  |some m=>(match m M.sc e with|some xs=>mA es M xs|none=>false)
  |none=>false)
def mO:IO->MC->Option Expr->Bool
 | .no=>fun M e=>match e with|none=>true|_=>false
 | .yes a=>fun M e=>match e with|some x=>mE a M x|_=>false
def mC:IO->MC->List Expr->Bool
 | .no=>fun M e=>match e with | []=>true|_=>false
 | .yes a=>fun M e=>match e with | [x]=>mE a M x|_=>false
def mA:IEs->MC->List Expr->Bool
 | .nil=>fun M e=>match e with | []=>true|_=>false
 | .cons a as=>fun M e=>match e with|x::xs=>jU x&&mE a M x&&mA as M xs|_=>false
def mI:II->MC->Expr->Bool
 | .val a=>fun M e=>mE a M e
 | .blt i es=>fun M e=>match e with
  | .Call (.Name x _) xs [] _=>M.its[i]?==some x&&rN M.sc x&&mA es M xs
  |_=>false
 | .spc i es=>fun M e=>match M.ixm[i]? with
  |some m=>(match m M.sc e with|some xs=>mA es M xs|none=>false)
  |none=>false
def keyB:List Str->List (Option Expr)->Bool
 | []=>fun e=>match e with | []=>true|_=>false
 |k::ks=>fun e=>match e with|some (.Constant (.str x) _ _)::es=>k==x&&keyB ks es|_=>false
end
def zea (M:MC) (i j:Nat):Expr->Bool
 | .Tuple [.Name x _,.Starred (.Name y _) _] _ _=>(M.N[i]?==some x&&locB M x)&&(M.N[j]?==some y&&locB M y)
 |_=>false
mutual
def mS:IS->MC->Stmt->Bool
 | .asg i a=>fun M s=>match s with
  | .Assign [.Name x py] e _=>M.N[i]?==some x&&locB M x&&mE a M e
  |_=>false
 | .asgT ts a=>fun M s=>match s with
  | .Assign [.Tuple es _ _] e _=>nY e&&zeB e&&mGs M ts es&&mE a M e
  |_=>false
 | .asgI o i a=>fun M s=>match s with
  | .Assign [.Subscript l r _] e _=>nY e&&hV r&&mE o M l&&mE i M r&&mE a M e
  |_=>false
 | .asgA o f a=>fun M s=>match s with
  | .Assign [.Attribute l x _] e _=>x==f&&nY e&&mE o M l&&mE a M e
  |_=>false
 | .ex a=>fun M s=>match s with
  | .Expr e _=>nY e&&mE a M e
  |_=>false
 | .ret a=>fun M s=>match s with
  | .Return (some e) _=>mE a M e
  |_=>false
 | .retN=>fun M s=>match s with|.Return none _=>true|_=>false
 | .pass=>fun M s=>match s with|.Pass _=>true|_=>false
 | .brk=>fun M s=>match s with|.Break _=>true|_=>false
 | .cnt=>fun M s=>match s with|.Continue _=>true|_=>false
 | .ite c a b=>fun M s=>match s with
  | .If t x y _=>mE c M t&&kF a M x&&kF b M y
  |_=>false
 | .whl c b=>fun M s=>match s with
  | .While t x [] _=>mE c M t&&kF b M x
  |_=>false
 | .for tg it b=>fun M s=>match s with
  | .For t x y [] _=>rA x&&mG M tg t&&mI it M x&&kF b M y
  |_=>false
 | .dead=>fun M s=>true
 | .asgS i j a=>fun M s=>match s with
  | .Assign [t] e _=>nY e&&zeB e&&zea M i j t&&mE a M e
  |_=>false
def kF:ISs->MC->List Stmt->Bool
 | .nil=>fun M s=>match s with | []=>true|_=>false
 | .cons a as=>fun M s=>match s with|x::xs=>mS a M x&&kF as M xs|_=>false
def zeB:Expr->Bool
 | .Tuple ..=>false
 |_=>true
end
theorem rL {a b:Bool} (h:(a&&b)=true):a=true/\b=true:=(Bool.and_eq_true a b).mp h
theorem bd3 {a b c:Bool} (h:(a&&b&&c)=true):(a=true/\b=true)/\c=true:=⟨rL (rL h).1,(rL h).2⟩
theorem bd4 {a b c d:Bool} (h:(a&&b&&c&&d)=true):((a=true/\b=true)/\c=true)/\d=true:=⟨bd3 (rL h).1,(rL h).2⟩
theorem bd5 {a b c d e:Bool} (h:(a&&b&&c&&d&&e)=true):(((a=true/\b=true)/\c=true)/\d=true)/\e=true:=⟨bd4 (rL h).1,(rL h).2⟩
theorem bd6 {a b c d e f:Bool} (h:(a&&b&&c&&d&&e&&f)=true):((((a=true/\b=true)/\c=true)/\d=true)/\e=true)/\f=true:=⟨bd5 (rL h).1,(rL h).2⟩
theorem bd7 {a b c d e f g:Bool} (h:(a&&b&&c&&d&&e&&f&&g)=true):(((((a=true/\b=true)/\c=true)/\d=true)/\e=true)/\f=true)/\g=true:=⟨bd6 (rL h).1,(rL h).2⟩
theorem bd8 {a b c d e f g k:Bool} (h:(a&&b&&c&&d&&e&&f&&g&&k)=true):((((((a=true/\b=true)/\c=true)/\d=true)/\e=true)/\f=true)/\g=true)/\k=true:=⟨bd7 (rL h).1,(rL h).2⟩
theorem bd9 {a b c d e f g k l:Bool} (h:(a&&b&&c&&d&&e&&f&&g&&k&&l)=true):(((((((a=true/\b=true)/\c=true)/\d=true)/\e=true)/\f=true)/\g=true)/\k=true)/\l=true:=⟨bd8 (rL h).1,(rL h).2⟩
theorem bd10 {a b c d e f g k l m:Bool} (h:(a&&b&&c&&d&&e&&f&&g&&k&&l&&m)=true):((((((((a=true/\b=true)/\c=true)/\d=true)/\e=true)/\f=true)/\g=true)/\k=true)/\l=true)/\m=true:=⟨bd9 (rL h).1,(rL h).2⟩
end L3
namespace L2
open PySem PySem.Spec PyProof.Rows
def Itd (d:Addr) (ob:Obj) (l:List (xV×V)):It where
 go:=fun i H=>H d=some (.frz ob (.dK l))/\i<l.length
 yld:=fun i H x H'=>H'=H/\∃ p,l[i]?=some p/\x=kV p.1
 stop:=fun i H=>H d=some (.frz ob (.dK l))/\l.length<=i
def KiSt (it d:Addr) (ob:Obj) (n i:Nat) (h:Heap):Prop:=∃ ep es,ob.data=.dict es ep/\h.IsKeyIter it d i n ep
section
variable {X : Cx} {pins : List (Addr × Obj)} {σ : St} {H : Hp} {s : Shared} {d : Addr} {ob : Obj} {l : List (xV × V)}
theorem zfz {κ:Type}:∀ {l:List (κ×V)} {vs:List (κ×Value)} {i:Nat} {k:κ} {v:Value},KV l vs->vs[i]?=some (k,v)->∃ x,l[i]?=some (k,x)
 |_,_,i,k,v,.nil,e=>by simp at e
 |p::_,_,0,k,v,.cons r t,e=>by
  simp at e;subst e;obtain ⟨a,b⟩:=p;have h1:a=k:=r.1;exact ⟨b,by simp [h1]⟩
 |_::_,_,i+1,k,v,.cons r t,e=>by
  obtain ⟨x,h⟩:=zfz (i:=i) (k:=k) (v:=v) t (by simpa using e);exact ⟨x,by simpa using h⟩
theorem zfy {κ:Type}:∀ {l:List (κ×V)} {vs:List (κ×Value)},KV l vs->vs.length=l.length
 |_,_,.nil=>rfl
 |_,_,.cons _ t=>by rw [List.length_cons,List.length_cons,zfy t]
theorem zdt (I:Inv X pins σ H s) (e:H d=some (.frz ob (.dK l))) {es:Array DictEntry} {ep:Nat} (hd:ob.data=.dict es ep):∃ vs,KV l vs/\s.heap.DictAt (xS X.prog X.w) d vs ep/\vs.length=l.length:=by
 obtain ⟨hg,_,_,vs,kv,o,es',ep',ho,hc,hdat,r⟩:=(show xD X.prog X.w H s.heap d (.frz ob (.dK l)) from I.hok d _ e);rw [hg] at ho;cases ho;rw [hd] at hdat;cases hdat;exact ⟨vs,kv,⟨ob,es,hg,hc,hd,r⟩,zfy kv⟩
theorem zdg {k:xV} {v:Value} (h:fD k v=true):yY (kV k) v:=by
 rcases xP h with ⟨i,t,rfl,rfl⟩|⟨x,t,rfl,rfl⟩
 .exact ⟨t,rfl⟩
 .exact ⟨t,rfl⟩
theorem zcq {P:Program} {w:World} {K:PySem.W.Frag} {tg:Expr} (it:Addr):Turn P w K tg (Itd d ob l) [it] it (KiSt it d ob l.length) where
 mem:=by simp
 obj:=fun i h st b hb=>by
  cases zzO hb;obtain ⟨ep,es,_,o,e,c,z⟩:=st;exact ⟨o,e,fun v q=>by rw [z] at q;cases q⟩
 keep:=fun i h h' st k=>by
  obtain ⟨ep,es,hd,st⟩:=st;exact ⟨ep,es,hd,st.at fun o e=>k it (by simp) o e⟩
 item:=by
  intro X e1 e2 e3 hc i pins s σ H E I hf st hg;subst e1;subst e2;subst e3;obtain ⟨ep,es,hd,st⟩:=st;obtain ⟨e,hi⟩:=hg;obtain ⟨vs,kv,da,lv⟩:=zdt I e hd;obtain ⟨f0,f1,f2,f3,f4,f5⟩:=hf it (by simp);obtain ⟨⟨k,v⟩,ek⟩:∃ p,vs[i]?=some p:=⟨vs[i]'(by omega),List.getElem?_eq_getElem _⟩;obtain ⟨x,ex⟩:=zfz kv ek;rw [← lv] at st;refine wpAny_pyNext_dict_item st da ek fun key h' hkey st' sb=>?_;have I1:Inv X pins σ H { s with heap:=h',toks:=s.toks }:=I.turned (fun b o hb q=>(sb.2 b hb).trans q) f0 f1 f3 f4 f5;obtain ⟨o,o1,o2,o3⟩:=id st';refine ⟨key,rfl,zdr (s:={ s with heap:=h' }) o1 o2 o3 (by decide) ⟨kV k,H,I1,zdg hkey,⟨rfl,(k,x),ex,rfl⟩,⟨ep,es,hd,?_⟩,fun b hb=>(hf b hb).1⟩⟩;rw [← lv];exact st'
 done:=by
  intro X e1 e2 e3 hc i pins s σ H E I hf st hg;subst e1;subst e2;subst e3;obtain ⟨ep,es,hd,st⟩:=st;obtain ⟨e,hi⟩:=hg;obtain ⟨vs,kv,da,lv⟩:=zdt I e hd;obtain ⟨f0,f1,f2,f3,f4,f5⟩:=hf it (by simp);rw [← lv] at st;exact wpAny_pyNext_dict_end (I.ok.hd hc) st da (List.getElem?_eq_none (by omega)) fun h' eb=>⟨rfl,I.turned (t':=s.toks) (fun b o hb q=>eb b o hb q) f0 f1 f3 f4 f5⟩
 self:=fun _ _ _ _ _ st h=>by
  obtain ⟨ep,es,hd,st⟩:=st;exact wpAny_pyIter_keyiter st h
theorem zfh {u:HO} (e:H d=some u):xB H d u=H:=by
 funext b
 unfold xB
 split
 .rename_i h;subst h;exact e.symm
 .rfl
theorem zgM (I:Inv X pins σ H s) (e:Rd H d (.dK l)):∃ ob,Inv X pins σ (xB H d (.frz ob (.dK l))) s/\(∃ es ep,ob.data=.dict es ep)/\∀ ob',H d=some (.frz ob' (.dK l))->ob'=ob:=by
 rcases e with e|⟨ob,e⟩
 .have q:=I.hok d _ e;obtain ⟨h1,h2,vs,kv,o,es,ep,ho,hc,hdat,r⟩:=id q;have mu:Mut (H d):=by rw [e];exact True.intro
  refine ⟨o,I.un (t':=s.toks) (Un.write mu (.inl rfl) (fun b u _ z=>z) ⟨o,ho⟩) (I.hok.write mu (.inl rfl) (fun b u _ z=>z) ⟨o,ho⟩ ⟨ho,h1,h2,vs,kv,o,es,ep,ho,hc,hdat,r⟩),⟨es,ep,hdat⟩,fun ob' z=>by rw [e] at z;cases z⟩
 .obtain ⟨hg,_,_,vs,kv,o,es,ep,ho,hc,hdat,r⟩:=(show xD X.prog X.w H s.heap d (.frz ob (.dK l)) from I.hok d _ e);rw [hg] at ho;cases ho;exact ⟨ob,by rw [zfh e];exact I,⟨es,ep,hdat⟩,fun ob' z=>by rw [e] at z;cases z;rfl⟩
theorem zg4 {tg:Expr} {R:It->Hp->Prop} {E:Value->Shared->Prop} (I:Inv X pins σ H s) (e:Rd H d (.dK l)) (q:∀ ob,(∀ ob',H d=some (.frz ob' (.dK l))->ob'=ob)->R (Itd d ob l) (xB H d (.frz ob (.dK l)))):wpAny (model X.prog X.w) X.A (pyIter (.ref d)) (PIE X pins σ tg R) E s:=by
 have hs:(d==sysModules)=false:=(mU I.hok e).2.1;obtain ⟨ob,J,⟨es,ep,hd⟩,same⟩:=zgM I e;obtain ⟨vs,kv,da,lv⟩:=zdt J qY hd;refine wpAny_pyIter_dict hs da ?_;refine ⟨s.heap.objs.size,[s.heap.objs.size],_,_,_,rfl,J.kept (t':=s.toks) fun b o e=>Heap.get?_push_of_some _ e,zcq _,⟨ep,es,hd,⟨_,Heap.get?_push_size _ rfl,rfl,by rw [lv];rfl⟩⟩,fun b hb=>?_,q ob same⟩;cases zzO hb;exact J.fpOk (zzR _) (J.hok.fresh (zzR _))
end
end L2
namespace L3
open PySem PySem.Spec PyProof.Rows L2 PySem.SeqAt
structure Par where
 prog:Program
 w:World
 K:yG
 mg:Str->Option Value
 base:Heap
 A:Around
structure Fits (p:Par) (X:Cx):Prop where
 prog:X.prog=p.prog
 w:X.w=p.w
 K:X.K=p.K
 mg:X.mg=p.mg
 base:X.base=p.base
 A:X.A=p.A
 calm:X.calm=true
 xe:X.xe=fun _ _=>False
structure ItIs (K:yG) (J:It) (H1:Hp) (ws:List W) (stab:Hw->Prop):Prop where
 go:∀ i H G,xZ K H1 H->xC K H G->stab G->i<ws.length->J.go i H
 yld:∀ i H G x H',xZ K H1 H->xC K H G->stab G->i<ws.length->J.yld i H x H'->∃ w,ws[i]?=some w/\xZ K H H'/\wQ K H' w x/\xC K H' G
 stop:∀ i H G,xZ K H1 H->xC K H G->stab G->ws.length<=i->J.stop i H
def lowI (K:yG) (t:I3):TI:=fun τ H R=>∃ σ G,yB K H σ τ/\xC K H G/\t σ G fun ws stab G1=>∀ J H1,xZ K H H1->xC K H1 G1->ItIs K J H1 ws stab->R J H1
def zcn (X:Cx):List Expr->List E3->Prop
 | [],[]=>True
 |x::xs,e::es=>jR e/\PE X x (xR X.K e)/\zcn X xs es
 |_,_=>False
structure Good (Γ:Ctx3) (p:Par):Prop where
 mono:TabMono Γ
 un:p.A.units+200<cLine
 fn:∀ f∈Γ.fn,∀ X,Fits p X->Gl X f.nm->∀ (args:List Expr) (t:A3) (q pos:Pos),uD t->args.all jU=true->PA X args (nT X.K t)->(args=[]->∀ σ G Q,t σ G Q->Q [] G)->(f.nm==("__debug__" : Str))=false->f.nm ≠ "__name__" ->
  PE X (.Call (.Name f.nm q) args [] pos) (xR X.K fun σ G Q=>t σ G fun ws G1=>f.sp ws G1 Q XN)
 gl:∀ g∈Γ.gl,∀ X,Fits p X->Gl X g.1->∀ q:Pos,(g.1==("__debug__" : Str))=false->g.1 ≠ "__name__" -> PE X (.Name g.1 q) (xR X.K fun _ G Q=>Q g.2 G)
 mt:∀ m∈Γ.mt,∀ X,Fits p X->∀ (o:Expr) (args:List Expr) (to:E3) (t:A3) (apos cpos:Pos),jR to->uD t->zdU o=true->(apos.endLine==cpos.line)=true->args.length<25->args.all jU=true ->
  PE X o (xR X.K to)->PA X args (nT X.K t)->(args=[]->∀ σ G Q,t σ G Q->Q [] G)->PE X (.Call (.Attribute o m.nm apos) args [] cpos) (xR X.K fun σ G Q=>to σ G fun x G1=>tyW G1 x m.T/\t σ G1 fun ws G2=>m.sp x ws G2 Q)
 it:∀ i∈Γ.it,∀ X,Fits p X->Gl X i.nm->∀ (tg:Expr) (args:List Expr) (t:A3) (q pos:Pos),uD t->args.all jU=true->PA X args (nT X.K t)->(args=[]->∀ σ G Q,t σ G Q->Q [] G)->(i.nm==("__debug__" : Str))=false->i.nm ≠ "__name__" ->
  PI X tg (.Call (.Name i.nm q) args [] pos) (lowI X.K fun σ G R=>t σ G fun ws G1=>i.sp ws G1 R)
 cl:∀ c∈Γ.cl,Cls p.K c.1/\∀ f∈c.2,tB p.K c.1 f
 sx:∀ k∈Γ.sx,∀ X,Fits p X->∀ (e:Expr) (xs:List Expr) (es:List E3),k.m X.env.scope e=some xs->zcn X xs es->xs.all jU=true->PA X xs (nT X.K (seqA es)) ->
  PE X e (xR X.K fun σ G Q=>seqA es σ G fun ws G1=>k.sp ws G1 Q)/\(∀ whole,isTrue e X.env whole=(do let v ← whole;standAt e.pos;holding [v] (truthy v)))/\∀ op vs pos,e≠.BoolOp op vs pos
 ix:∀ k∈Γ.ix,∀ X,Fits p X->∀ (tg e:Expr) (xs:List Expr) (es:List E3),k.m X.env.scope e=some xs->zcn X xs es->xs.all jU=true->PA X xs (nT X.K (seqA es)) ->
  PI X tg e (lowI X.K fun σ G R=>seqA es σ G fun ws G1=>k.sp ws G1 R)
structure Lk (Γ:Ctx3) (M:MC) (p:Par) (X:Cx):Prop where
 fits:Fits p X
 N:X.N=M.N
 sc:X.env.scope=M.sc
 nd:M.N.Nodup
 own:∀ x,M.own x=true->X.fn x=true
 kind:M.sc.kind=.function
 fns:Γ.fn.map (·.nm)=M.fns
 gls:Γ.gl.map (·.1)=M.gls
 mts:Γ.mt.map (·.nm)=M.mts
 its:Γ.it.map (·.nm)=M.its
 sxs:Γ.sx.map (·.m)=M.sxm
 ixs:Γ.ix.map (·.m)=M.ixm
theorem vZ {e:Expr} {es:List Expr} {env:Env} (h:jU e=true):starEach (e::es) env=(false,eval e env)::starEach es env:=by
 cases e<;>first|rfl|exact absurd h zzN
theorem uK {o:Expr} {f:Str} {env:Env} {t:Sem Value} (h:zdU o=true):attributeBase o f env t=t:=by
 unfold attributeBase
 split
 .exact absurd h zzN
 .rfl
theorem bF {e:Expr} {env:Env} (h:rA e=true):∀ x,foldedSetIterable e env x=pure x:=fun x=>by
 cases e<;>first|rfl|exact absurd h zzN
theorem vH {op:CmpOp} {e:Expr} (h:rA e=true):behindInMarks op e=false:=by
 cases e<;>first|rfl|exact absurd h zzN
theorem zes {e:Expr} (h:hV e=true):zdX e:=fun o i=>by
 cases e<;>first|rfl|exact absurd h zzN
theorem vJ {e:Expr} {t:Option Expr} {n:Nat} {env:Env} (h:nY e=true):swapsWith e t n env=pure false:=by
 cases e<;>first|rfl|exact absurd h zzN
theorem zhi {sc:Scope} {x:Str} (h:visB sc x=true):Vis sc x:=by
 unfold visB at h
 split at h
 .rename_i e;exact .inl e
 .rename_i e;exact .inr (.inl e)
 .rename_i e;exact .inr (.inr e)
 .exact absurd h zzN
theorem bH {X:Cx} {sc:Scope} {x:Str} (e:X.env.scope=sc) (h:rN sc x=true):Gl X x/\(x==("__debug__" : Str))=false/\x ≠ "__name__" := by
 unfold rN at h;simp only [Bool.and_eq_true,Bool.not_eq_true'] at h;refine ⟨?_,h.1.2,fun z=>?_⟩
 .show X.env.scope.names.lookup x=_;rw [e];exact eq_of_beq h.1.1
 .subst z;have:=h.2;simp at this
theorem qT {α:Type} [BEq α] [LawfulBEq α] {a:Option α} {b:α} (h:(a==some b)=true):a=some b:=eq_of_beq h
theorem sT {α β:Type} {f:α->β} {l:List α} {i:Nat} {y:β} (h:(l.map f)[i]?=some y):∃ x,l[i]?=some x/\f x=y:=by
 rw [List.getElem?_map] at h
 cases e:l[i]? with
 |none=>rw [e] at h;cases h
 |some x=>rw [e] at h;exact ⟨x,rfl,Option.some.inj h⟩
section
variable {X : Cx}
theorem zd4 {K:yG} {e:E3} (m:jR e) {τ:L2.St} {H:Hp} {Q:Bool->Hp->Prop} (h:kD K (zO e) τ H Q):xR K e τ H (fun x H'=>∃ k,TruV K x H' k/\Q k H'):=by
 obtain ⟨σ,G,hs,ha,h⟩:=h;refine xO m hs ha h fun w G1 v H1 gr _ rp ab q=>?_
 split at q
 .rename_i b hb;exact ⟨b,zfL rp ab hb,q H1 gr ab⟩
 .exact q.elim
theorem pt_of {x:Expr} {e:E3} (m:jR e) (h:PE X x (xR X.K e)) (he:∀ whole,isTrue x X.env whole=(do let v ← whole;standAt x.pos;holding [v] (truthy v))):PT X x (kD X.K (zO e)) :=
 (zej h he).imp fun σ H Q q=>zd4 m q
theorem zba {K:yG} {e:E3} (m:jR e) {τ:L2.St} {H:Hp} {Q:Bool->Hp->Prop} (h:kD K (yU e) τ H Q):xR K e τ H (fun x H'=>∃ k,x=.bl k/\Q k H'):=by
 obtain ⟨σ,G,hs,ha,h⟩:=h;refine xO m hs ha h fun w G1 v H1 gr _ rp ab q=>?_
 cases w with
 |bl b=>cases rp;exact ⟨b,rfl,q H1 gr ab⟩
 |_=>exact q.elim
theorem zbu {K:yG} {ea eb:E3} {r:R3} (ma:jR ea) (mb:jR eb) (mr:mQ r) {τ:L2.St} {H:Hp} {Q:VK} (h:xR K (fun σ G Q=>ea σ G fun x G1=>eb σ G1 fun y G2=>r x y G2 Q) τ H Q) :
  tOp (nS K r) (xR K ea) (xR K eb) τ H Q:=by
 obtain ⟨σ,G,hs,ha,h⟩:=h;refine xO ma hs ha h fun x G1 v H1 g1 hs1 rx a1 h1=>?_;refine xO mb hs1 a1 h1 fun y G2 u H2 g2 hs2 ry a2 h2=>?_;exact ⟨x,y,G2,rx.mono g2,ry,a2,mr x y G2 _ _ (fun w G' q v' H' g'=>q v' H' ((g1.trans g2).trans g')) h2⟩
def Its (x:Str):It:=⟨fun i _=>i<x.cps.size,fun i H v H'=>H'=H/\∃ c,x.cps[i]?=some c/\v=.str ⟨#[c]⟩,fun i _=>x.cps.size<=i⟩
theorem zd2 {P:Program} {w:World} {K:yG} {tg:Expr} (T:String) (hT:T = "str_ascii_iterator" \/ T = "str_iterator") (x:Str) (t:Tok) (it:Addr):Turn P w K tg (Its x) [it] it (fun i h=>h.IsStrIter it T x t i) where
 mem:=by simp
 obj:=fun i h st b hb=>by
  have e:b=it:=by simpa using hb
  subst e;obtain ⟨o,e,c,d⟩:=st;exact ⟨o,e,fun v z=>by rw [d] at z;cases z⟩
 keep:=fun i h h' st k=>let ⟨o,e,r⟩:=st;⟨o,k it (by simp) o e,r⟩
 item:=by
  intro X hP hw hK hc i pins s σ H E I hf st hg;subst hP hw hK;obtain ⟨f0,f1,f2,f3,f4,f5⟩:=hf it (by simp);have hi:i<x.cps.size:=hg;have hx:x.cps[i]?=some x.cps[i]:=by simp [hi]
  have fin:∀ h':Heap,h'.IsStrIter it T x t (i+1)->Heap.SameBut it s.heap h'->∃ u,some (Value.str ⟨#[x.cps[i]]⟩ s.toks)=some u /\
    wpAny (model X.prog X.w) X.A (letOwnedTupleGo tg (.ref it) u) (fun _ s2=>∃ v H',Inv X pins σ H' s2/\yY v u/\(Its x).yld i H v H'/\s2.heap.IsStrIter it T x t (i+1)/\∀ b∈[it],H' b=none) E { s with heap:=h',toks:=s.toks+1 }:=fun h' st' sb=>by
   have I1:Inv X pins σ H { s with heap:=h',toks:=s.toks+1 }:=I.turned (t':=s.toks+1) (fun b o hb e=>(sb.2 b hb).trans e) f0 f1 f3 f4 f5;obtain ⟨o,e,c,d⟩:=id st';exact ⟨_,rfl,zdr (s:={ s with heap:=h',toks:=s.toks+1 }) e c d (by rcases hT with rfl|rfl<;>decide) ⟨.str ⟨#[x.cps[i]]⟩,H,I1,⟨_,rfl⟩,⟨rfl,_,hx,rfl⟩,st',fun b hb=>(hf b hb).1⟩⟩
  rcases hT with rfl|rfl
  .exact wpAny_pyNext_ascii_item st hx fin
  .exact wpAny_pyNext_wide_item st hx fin
 done:=by
  intro X hP hw hK hc i pins s σ H E I hf st hg;subst hP hw hK;obtain ⟨f0,f1,f2,f3,f4,f5⟩:=hf it (by simp);have hx:x.cps[i]?=none:=by have h:x.cps.size<=i:=hg;simp [h]
  rcases hT with rfl|rfl
  .exact wpAny_pyNext_ascii_end (I.ok.hd hc) st hx fun h' eb=>⟨rfl,I.turned (t':=s.toks) (fun b o hb e=>eb b o hb e) f0 f1 f3 f4 f5⟩
  .exact wpAny_pyNext_wide_end (I.ok.hd hc) st hx fun h' eb=>⟨rfl,I.turned (t':=s.toks) (fun b o hb e=>eb b o hb e) f0 f1 f3 f4 f5⟩
 self:=fun _ _ _ _ _ st h=>by
  rcases hT with rfl|rfl
  .exact wpAny_pyIter_striter_ascii st h
  .exact wpAny_pyIter_striter_wide st h
theorem zhY {tg l:Expr} {tl:TE} (hl:PE X l tl):PI X tg l (fun σ H R=>tl σ H fun x H1=>(∃ t,x=.str t/\R (Its t) H1)\/∃ a,x=.ref a/\(((∃ xs,mR X.K H1 a xs)/\R (Itl X.K a) H1)\/((∃ xs,pF X.K H1 a xs)/\R (Itt X.K a) H1)\/∃ l,Rd H1 a (.dK l)/\∀ ob,(∀ ob',H1 a=some (.frz ob' (.dK l))->ob'=ob)->R (Itd a ob l) (xB H1 a (.frz ob (.dK l))))):=by
 intro pins s σ H R I h;refine xT (hl pins s σ H _ I h) fun v s1 ⟨x,H1,I1,r1,q1⟩=>?_;rcases q1 with ⟨tx,e,q⟩|q1
 .subst e;obtain ⟨tk,rfl⟩:=r1
  have fin:∀ T,(T = "str_ascii_iterator" \/ T = "str_iterator")->∀ o:Obj,o.isFreed=false->o.cls=.type T->o.data=.fields #[.str tx tk,.int 0 0]->PIE X pins σ tg R (.ref s1.heap.objs.size) { s1 with heap:=s1.heap.push o }   := fun T hT o hz hc hd=>by
   refine ⟨s1.heap.objs.size,[s1.heap.objs.size],_,_,H1,rfl,I1.kept (t':=s1.toks) fun b o e=>Heap.get?_push_of_some _ e,zd2 T hT tx tk _,⟨_,Heap.get?_push_size _ hz,hc,hd⟩,fun b hb=>?_,q⟩;have e:b=s1.heap.objs.size:=by simpa using hb
   subst e;exact I1.fpOk (zzR _) (I1.hok.fresh (zzR _))
  cases hasc:tx.cps.all (· < 128)
  .exact wpAny_pyIter_wide hasc (fin _ (.inr rfl) _ rfl rfl rfl)
  .exact wpAny_pyIter_ascii hasc (fin _ (.inl rfl) _ rfl rfl rfl)
 obtain ⟨a,e,q1⟩:=q1;subst e;cases r1;rcases q1 with ⟨⟨xs,hq⟩,q⟩|⟨⟨xs,hq⟩,q⟩|⟨l,hq,q⟩
 rotate_left 2
 .exact zg4 I1 hq q
 .obtain ⟨its,rv,p,hz⟩:=I1.list hq;refine wpAny_pyIter_list p.isList ?_;refine ⟨s1.heap.objs.size,[s1.heap.objs.size],_,_,H1,rfl,I1.kept (t':=s1.toks) fun b o e=>Heap.get?_push_of_some _ e,zcp a _,⟨_,Heap.get?_push_size _ rfl,rfl,rfl⟩,fun b hb=>?_,q⟩;have e:b=s1.heap.objs.size:=by simpa using hb
  subst e;exact I1.fpOk (zzR _) (I1.hok.fresh (zzR _))
 .obtain ⟨its,rv,p,hz⟩:=I1.tuple hq;refine wpAny_pyIter_tuple (show s1.heap.IsTuple a its.toArray from p) ?_;refine ⟨s1.heap.objs.size,[s1.heap.objs.size],_,_,H1,rfl,I1.kept (t':=s1.toks) fun b o e=>Heap.get?_push_of_some _ e,zbV a _,⟨_,Heap.get?_push_size _ rfl,rfl,rfl⟩,fun b hb=>?_,q⟩;have e:b=s1.heap.objs.size:=by simpa using hb
  subst e;exact I1.fpOk (zzR _) (I1.hok.fresh (zzR _))
theorem ziL {K:yG} {x:Str} {H1:Hp}:ItIs K (Its x) H1 (sgs x) (fun _=>True) where
 go:=fun i H G _ ab st hi=>by
  have h:i<(sgs x).length:=hi;show i<x.cps.size;simpa [sgs] using h
 yld:=fun i H G v H' _ ab st hi y=>by
  obtain ⟨rfl,c,e,rfl⟩:=y;refine ⟨.str ⟨#[c]⟩,?_,.refl,rfl,ab⟩;simp [sgs,e]
 stop:=fun i H G _ ab st hi=>by
  have h:(sgs x).length<=i:=hi;show x.cps.size<=i;simpa [sgs] using h
theorem ziN {K:yG} {a:Addr} {H1:Hp} {ws:List W}:ItIs K (Itl K a) H1 ws (fun G=>yJ G a=some ws) where
 go:=fun i H G _ ab st hi=>by
  obtain ⟨vs,sq,rs⟩:=ab.seq st;have hl:=rs.length;obtain ⟨v,e⟩:∃ v,vs[i]?=some v:=⟨vs[i]'(by omega),List.getElem?_eq_getElem _⟩;exact ⟨vs,v,sq,e⟩
 yld:=fun i H G x H' _ ab st hi y=>by
  obtain ⟨vs,sq,rs⟩:=ab.seq st;obtain ⟨e,y⟩:=y;subst e;obtain ⟨w,ew,rp⟩:=rs.get' (y vs sq);exact ⟨w,ew,.refl,rp,ab⟩
 stop:=fun i H G _ ab st hi=>by
  obtain ⟨vs,sq,rs⟩:=ab.seq st;exact ⟨vs,sq,by rw [rs.length];exact hi⟩
theorem ziK {K:yG} {a:Addr} {H1:Hp} {ws:List W} {vs:List V} (sq:pF K H1 a vs) (rs:zC K H1 ws vs):ItIs K (Itt K a) H1 ws (fun _=>True) where
 go:=fun i H G g ab st hi=>by
  have hl:=rs.length;obtain ⟨v,e⟩:∃ v,vs[i]?=some v:=⟨vs[i]'(by omega),List.getElem?_eq_getElem _⟩;exact ⟨vs,v,g.1 _ _ sq,e⟩
 yld:=fun i H G x H' g ab st hi y=>by
  obtain ⟨e,y⟩:=y;subst e;obtain ⟨w,ew,rp⟩:=(rs.mono g).get' (y vs (g.1 _ _ sq));exact ⟨w,ew,.refl,rp,ab⟩
 stop:=fun i H G g ab st hi=>⟨vs,g.1 _ _ sq,by rw [rs.length];exact hi⟩
theorem xC.rdD {K:yG} {H:Hp} {G:Hw} {p:Addr} {kvs:List (xV×W)} (ab:xC K H G) (e:zdz G p=some kvs):∃ l,Rd H p (.dK l)/\yN K H kvs l:=by
 unfold zdz at e
 split at e
 .rename_i q;cases e;obtain ⟨u,e',l,rfl,r⟩:=ab p _ q;exact ⟨l,.inl e',r⟩
 .rename_i q;cases e;obtain ⟨u,e',ob,l,rfl,r⟩:=ab p _ q;exact ⟨l,.inr ⟨ob,e'⟩,r⟩
 .cases e
theorem xC.freeze {K:yG} {H:Hp} {G:Hw} {p:Addr} {kvs:List (xV×W)} {l:List (xV×V)} {ob:Obj} (ab:xC K H G) (e:zdz G p=some kvs) (hl:Rd H p (.dK l)) (rk:yN K H kvs l) :
  (∀ ob',H p=some (.frz ob' (.dK l))->ob'=ob)->xZ K H (xB H p (.frz ob (.dK l)))/\xC K (xB H p (.frz ob (.dK l))) (put G p (.fzd kvs)):=by
 intro same;unfold zdz at e
 split at e
 .rename_i q;cases e;have g:xZ K H (xB H p (.frz ob (.dK l))):=ab.grow q;exact ⟨g,ab.chg q ⟨ob,l,rfl,rk.mono g⟩⟩
 .rename_i q;cases e;obtain ⟨u,e',ob2,l2,rfl,r⟩:=ab p _ q
  have hp:H p=some (.frz ob (.dK l)):=by
   rcases hl with h|⟨o,h⟩
   .rw [h] at e';cases e'
   .rw [h,same o h]
  rw [zfh hp];refine ⟨.refl,fun b o z=>?_⟩
  by_cases hb:b=p
  .subst hb;rw [zV] at z;cases z;exact ⟨_,hp,ob,l,rfl,rk⟩
  .rw [wJ hb] at z;exact ab b o z
 .cases e
theorem yN.keyAt {K:yG} {H:Hp} {κ:Type}:∀ {l:List (κ×W)} {l':List (κ×V)} {i:Nat} {p:κ×V},yN K H l l'->l'[i]?=some p->∃ w,l[i]?=some (p.1,w)
 | [],_,i,p,h,e=>by rw [show _=[] from h] at e;simp at e
 | (k,w)::_,_,0,p,⟨v,t,e,h,r⟩,q=>by subst e;simp at q;subst q;exact ⟨w,rfl⟩
 |_::_,_,i+1,p,⟨v,t,e,h,r⟩,q=>by
  subst e;obtain ⟨w,h1⟩:=yN.keyAt (i:=i) (p:=p) r (by simpa using q);exact ⟨w,by simpa using h1⟩
theorem ziF {K:yG} {H:Hp} (k:xV):wQ K H (kW k) (kV k):=by
 cases k<;>rfl
theorem ziO {K:yG} {d:Addr} {ob:Obj} {l:List (xV×V)} {H1:Hp} {kvs:List (xV×W)} (e:H1 d=some (.frz ob (.dK l))) (rk:yN K H1 kvs l):ItIs K (Itd d ob l) H1 (kvs.map fun kv=>kW kv.1) (fun G=>G d=some (.fzd kvs)) where
 go:=fun i H G g ab st hi=>⟨g.2 _ _ True.intro e,by rw [rk.length];simpa using hi⟩
 yld:=fun i H G x H' g ab st hi y=>by
  obtain ⟨e1,p,e2,e3⟩:=y;subst e1;subst e3;obtain ⟨w,ew⟩:=rk.keyAt e2;exact ⟨kW p.1,by rw [List.getElem?_map,ew];rfl,.refl,ziF _,ab⟩
 stop:=fun i H G g ab st hi=>⟨g.2 _ _ True.intro e,by rw [rk.length];simpa using hi⟩
theorem zhZ {tg x:Expr} {e:E3} (m:jR e) (h:PE X x (xR X.K e)):PI X tg x (lowI X.K fun σ G R=>e σ G fun w G1=>kJ w G1 R):=by
 intro pins s σ H R I q;refine zhY h pins s σ H R I ?_;obtain ⟨σ3,G,hs,ha,q⟩:=q;refine xO m hs ha q fun w G1 v H1 gr hs1 rp ab q=>?_
 cases w with
 |tup ws =>
  obtain ⟨a,vs,rfl,sq,rs⟩:=rp;exact .inr ⟨a,rfl,.inr (.inl ⟨⟨vs,sq⟩,q _ H1 gr ab (ziK sq rs)⟩)⟩
 |ref p =>
  cases rp;simp only [kJ] at q
  split at q
  .rename_i ws e;obtain ⟨vs,sq,rs⟩:=ab.seq e;exact .inr ⟨p,rfl,.inl ⟨⟨vs,sq⟩,q _ H1 gr ab ziN⟩⟩
  .split at q
   .rename_i kvs e;obtain ⟨l,hl,rk⟩:=ab.rdD e;refine .inr ⟨p,rfl,.inr (.inr ⟨l,hl,fun ob same=>?_⟩)⟩;obtain ⟨g2,a2⟩:=ab.freeze (ob:=ob) e hl rk same;exact q _ _ (gr.trans g2) a2 (ziO (qY) (rk.mono g2))
   .exact q.elim
 |str t =>
  cases rp;exact .inl ⟨t,rfl,q _ H1 gr ab ziL⟩
 |_=>exact q.elim
def lowG (K:yG) (t:G3):TG:=fun v τ H Q=>∃ w σ G,wQ K H w v/\yB K H σ τ/\xC K H G/\t w σ G fun σ' G'=>∀ τ' H',xZ K H H'->yB K H' σ' τ'->xC K H' G'->Q τ' H'
def lowGs (K:yG) (t:Gs3):TGs:=fun vs τ H Q=>∃ ws σ G,zC K H ws vs/\yB K H σ τ/\xC K H G/\t ws σ G fun σ' G'=>∀ τ' H',xZ K H H'->yB K H' σ' τ'->xC K H' G'->Q τ' H'
theorem _root_.L2.PG.imp {tg:Expr} {t t':TG} (h:PG X tg t) (k:∀ v σ H Q,t' v σ H Q->t v σ H Q):PG X tg t':=fun pins s σ H v u Q I r q=>h pins s σ H v u Q I r (k v σ H Q q)
theorem _root_.L2.PGs.imp {tg:List Expr} {t t':TGs} (h:PGs X tg t) (k:∀ v σ H Q,t' v σ H Q->t v σ H Q):PGs X tg t':=fun pins s σ H v u Q I r q=>h pins s σ H v u Q I r (k v σ H Q q)
theorem cN {e:Expr} {es:List Expr} {env:Env} (h:jU e=true):assignEach (e::es) env=(false,assign e env)::assignEach es env:=by
 cases e<;>first|rfl|exact absurd h zzN
end
def MonoG (t:G3):Prop:=∀ w σ G (Q Q':qK->Hw->Prop),(∀ a b,Q a b->Q' a b)->t w σ G Q->t w σ G Q'
def zjj (t:Gs3):Prop:=∀ w σ G (Q Q':qK->Hw->Prop),(∀ a b,Q a b->Q' a b)->t w σ G Q->t w σ G Q'
mutual
theorem nH:∀ t:ITg,MonoG (zT t)
 | .nm i=>fun w σ G Q Q' k h=>k _ _ h
 | .tup ts=>fun w σ G Q Q' k h=>by
  cases w with
  |tup ws=>exact fW ts ws σ G Q Q' k h
  |_=>exact h.elim
theorem fW:∀ ts:ITgs,zjj (zX ts)
 | .nil=>fun w σ G Q Q' k h=>by
  cases w with
  |nil=>exact k _ _ h
  |cons _ _=>exact h.elim
 | .cons t ts=>fun w σ G Q Q' k h=>by
  cases w with
  |nil=>exact h.elim
  |cons x r=>exact nH t x σ G _ _ (fun σ' G' h=>fW ts r σ' G' Q Q' k h) h
end
theorem zbC {Γ:Ctx3} {M:MC} {p:Par} {X:Cx} (L:Lk Γ M p X) {x:Str} (h:locB M x=true):Loc X.env.scope x/\(X.fn x=true\/X.env.scope.names.lookup x=some .local):=by
 unfold locB at h;rw [L.sc]
 split at h
 .rename_i e;exact ⟨.inl e,.inr e⟩
 .rename_i e;exact ⟨.inr e,.inl (L.own x h)⟩
 .exact absurd h zzN
mutual
theorem sndG {Γ:Ctx3} {M:MC} {p:Par} {X:Cx} (L:Lk Γ M p X):∀ (t:ITg) (x:Expr),mG M t x=true->PG X x (lowG X.K (zT t))
  | .nm i,x,h=>by
   cases x with
   |Name y q =>
    replace h:=rL h;have lo:=zbC L h.2;refine (zaQ (i:=i) (L.N▸L.nd) (by rw [L.N];exact qT h.1) lo.1 lo.2).imp fun v σ H Q q=>?_;obtain ⟨w,σ3,G,rp,hs,ab,q⟩:=q;exact q _ _ .refl (hs.set rp i) ab
   |_=>exact absurd h zzN
  | .tup ts,x,h=>by
   cases x with
   |Tuple es k q =>
    skip
    obtain ⟨ps,hn,hst⟩:=zhz L ts es h;refine (zh0 (n:=es.length) L.fits.calm ps hn hst).imp fun v σ H Q q=>?_;obtain ⟨w,σ3,G,rp,hs,ab,q⟩:=q
    cases w with
    |tup ws =>
      obtain ⟨a,vs,rfl,sq,rs⟩:=rp;refine ⟨a,vs,rfl,sq,?_,ws,σ3,G,rs,hs,ab,q⟩;rw [rs.length];exact ziv ts es ws σ3 G _ h q
    |_=>exact q.elim
   |_=>exact absurd h zzN
theorem zhz {Γ:Ctx3} {M:MC} {p:Par} {X:Cx} (L:Lk Γ M p X):∀ (ts:ITgs) (xs:List Expr),mGs M ts xs=true->PGs X xs (lowGs X.K (zX ts))/\(assignEach xs X.env).length=xs.length/\(assignEach xs X.env).findIdx? (·.1)=none
 | .nil,[],_=>⟨(zcS).imp fun vs σ H Q q=>by
   obtain ⟨ws,σ3,G,rs,hs,ab,q⟩:=q
   cases ws with
   |nil=>exact ⟨rs,q _ _ .refl hs ab⟩
   |cons _ _=>exact q.elim,rfl,rfl⟩
 | .cons t ts,x::xs,h=>by
  simp only [mGs,Bool.and_eq_true] at h;obtain ⟨ps,hn,hst⟩:=zhz L ts xs h.2;have es:=cN (es:=xs) (env:=X.env) h.1.1;refine ⟨(gI (sndG L t x h.1.2) ps (by rw [es];rfl)).imp fun vs σ H Q q=>?_,by rw [es,List.length_cons,List.length_cons,hn],?_⟩
  .obtain ⟨ws,σ3,G,rs,hs,ab,q⟩:=q
   cases ws with
   |nil=>exact q.elim
   |cons w r =>
    obtain ⟨v,vr,e,rp,rr⟩:=rs;refine ⟨v,vr,e,w,σ3,G,rp,hs,ab,nH t w σ3 G _ _ (fun σ' G' q τ' H' g' hs' ab'=>?_) q⟩;exact ⟨r,σ',G',rr.mono g',hs',ab',fW ts r σ' G' _ _ (fun σ2 G2 q τ2 H2 g2=>q τ2 H2 (g'.trans g2)) q⟩
  .rw [es,List.findIdx?_cons];simp only [zzB,if_false,hst];rfl
theorem ziv {M:MC}:∀ (ts:ITgs) (xs:List Expr) (ws:List W) (σ:qK) (G:Hw) (Q:qK->Hw->Prop),mGs M ts xs=true->zX ts ws σ G Q->ws.length=xs.length
 | .nil,[],ws,σ,G,Q,_,q=>by
  cases ws with
  |nil=>rfl
  |cons _ _=>exact q.elim
 | .cons t ts,x::xs,ws,σ,G,Q,h,q=>by
  simp only [mGs,Bool.and_eq_true] at h
  cases ws with
  |nil=>exact q.elim
  |cons w r =>
   have:∃ σ' G',zX ts r σ' G' Q:=exG t w σ G _ q;obtain ⟨σ',G',q'⟩:=this;rw [List.length_cons,List.length_cons,ziv ts xs r σ' G' Q h.2 q']
theorem exG:∀ (t:ITg) (w:W) (σ:qK) (G:Hw) (Q:qK->Hw->Prop),zT t w σ G Q->∃ σ' G',Q σ' G'
 | .nm i,w,σ,G,Q,q=>⟨_,_,q⟩
 | .tup ts,w,σ,G,Q,q=>by
  cases w with
  |tup ws=>exact exGs ts ws σ G Q q
  |_=>exact q.elim
theorem exGs:∀ (ts:ITgs) (ws:List W) (σ:qK) (G:Hw) (Q:qK->Hw->Prop),zX ts ws σ G Q->∃ σ' G',Q σ' G'
 | .nil,ws,σ,G,Q,q=>by
  cases ws with
  |nil=>exact ⟨_,_,q⟩
  |cons _ _=>exact q.elim
 | .cons t ts,ws,σ,G,Q,q=>by
  cases ws with
  |nil=>exact q.elim
  |cons w r =>
   obtain ⟨σ',G',q'⟩:=exG t w σ G _ q;exact exGs ts r σ' G' Q q'
end
def lowO (K:yG) (t:qK->Hw->(Option Int->Hw->Prop)->Prop):TO:=fun τ H Q=>∃ σ G,yB K H σ τ/\xC K H G/\t σ G fun o G'=>∀ H',xZ K H H'->xC K H' G'->Q o H'
theorem _root_.L2.PO.imp {X:Cx} {e:Option Expr} {t t':TO} (h:PO X e t) (k:∀ σ H Q,t' σ H Q->t σ H Q):PO X e t':=fun pins s σ H Q I q=>h pins s σ H Q I (k σ H Q q)
theorem _root_.L2.PTs.imp {X:Cx} {e:List Expr} {t t':TT} (h:PTs X e t) (k:∀ σ H Q,t' σ H Q->t σ H Q):PTs X e t':=fun pins s σ H Q I q=>h pins s σ H Q I (k σ H Q q)
theorem _root_.L2.PI.imp {X:Cx} {tg x:Expr} {t t':TI} (h:PI X tg x t) (k:∀ σ H R,t' σ H R->t σ H R):PI X tg x t':=fun pins s σ H R I q=>h pins s σ H R I (k σ H R q)
def capV (k:Nat) (caps:List Nat) (σ:L2.St):L2.St:=List.replicate k none++caps.map fun j=>(σ[j]?).join
theorem za9 {α:Type} {k:Nat} {caps:List Nat} {σ:List (Option α)} {i:Nat} {v:α} (h:(List.replicate k none++caps.map fun j=>(σ[j]?).join)[i]?=some (some v)):k<=i/\∃ j,caps[i-k]?=some j/\σ[j]?=some (some v):=by
 by_cases hi:i<k
 .rw [List.getElem?_append_left (by simpa using hi),List.getElem?_replicate,if_pos hi] at h;cases h
 .rw [List.getElem?_append_right (by simpa using hi),List.length_replicate,List.getElem?_map] at h;refine ⟨by omega,?_⟩
  cases e:caps[i-k]? with
  |none=>rw [e] at h;cases h
  |some j =>
   rw [e] at h;have h':(σ[j]?).join=some v:=Option.some.inj h;refine ⟨j,rfl,?_⟩
   cases q:σ[j]? with
   |none=>rw [q] at h';cases h'
   |some o=>rw [q] at h';exact congrArg some h'
theorem zhd {K:yG} {H:Hp} {σ:qK} {τ:L2.St} (h:yB K H σ τ) (k:Nat) (caps:List Nat):yB K H (dN k caps σ) (capV k caps τ):=by
 refine ⟨by simp [dN,capV],fun i w e=>?_⟩;obtain ⟨hk,j,ej,es⟩:=za9 e;obtain ⟨v,ev,rp⟩:=h.2 j w es;refine ⟨v,?_,rp⟩;unfold capV;rw [List.getElem?_append_right (by simpa using hk),List.length_replicate,List.getElem?_map,ej];simp [ev]
theorem zbw:∀ {l:List Str},gE l=true->l.Nodup
 | [],_=>List.nodup_nil
 |x::r,h=>by
  simp only [gE,Bool.and_eq_true,Bool.not_eq_true'] at h;refine List.nodup_cons.mpr ⟨fun hm=>?_,zbw h.2⟩;have:=List.elem_eq_true_of_mem hm;rw [List.contains_eq_mem] at h;simp [hm] at h
theorem zfX {X:Cx} {sc out:Scope} (e:X.env.scope=out):relabel sc X.env=relS sc out:=by
 unfold relabel relS Env.kindOf;rw [e]
theorem zfG {X:Cx} {sc out:Scope} (e:X.env.scope=out) (h:blkB out sc=true):BlkSc X sc:=by
 unfold blkB at h;simp only [Bool.and_eq_true,List.all_eq_true] at h;obtain ⟨⟨⟨h1,h2⟩,h3⟩,h4⟩:=h;refine ⟨eq_of_beq h1,fun y hy=>?_,fun y hy=>?_,fun x hx=>?_,fun y hy z=>?_⟩
 .simpa using (h2 _ hy).1
 .simpa using (h2 _ hy).2
 .have:=h3 _ hx;simp only [beq_self_eq_true,Bool.not_true,Bool.false_or,Bool.or_eq_true,beq_iff_eq] at this;show X.env.scope.names.lookup x=_\/X.env.scope.names.lookup x=_;rw [e];exact this
 .have:=h4 y hy;rw [z] at this;simpa using this
theorem zdO {X:Cx} {M:MC} {sc:Scope} {names:List Str} {caps:List Nat} (eN:X.N=M.N) (es:X.env.scope=M.sc)
  (h:(caps.all fun j=>decide (j<M.N.length)&&(sc.names.lookup (M.N.getD j Str.empty)==some .free))=true) :
  Caps X sc (names++caps.map (fun j=>M.N.getD j Str.empty)) (capV names.length caps):=by
 intro σ hl;simp only [List.all_eq_true,Bool.and_eq_true,decide_eq_true_eq,Bool.not_eq_true'] at h;refine ⟨by simp [capV],fun i x v hN hσ _=>?_⟩;obtain ⟨hk,j,ej,e⟩:=za9 hσ;rw [List.getElem?_append_right hk,List.getElem?_map,ej] at hN;have hx:M.N.getD j Str.empty=x:=Option.some.inj hN;have hj:=h j (List.mem_of_getElem? ej);refine ⟨?_,j,?_,e⟩
 .rw [← hx];exact eq_of_beq hj.2
 .rw [eN,← hx,List.getD_eq_getElem?_getD,List.getElem?_eq_getElem hj.1];rfl
theorem ziw {K:yG} {J:It} {H1:Hp} {items:List W} {stab:Hw->Prop} {G1:Hw} {σ:qK} {τ:L2.St} {tg:ITg} {c:T3} {e:E3} {Q:VK} {H0:Hp} (mc:sZ c) (me:jR e) (it:ItIs K J H1 items stab) (ab:xC K H1 G1) (hs:yB K H1 σ τ) (g0:xZ K H0 H1)
  (hw:∀ w G' (Q:qK->Hw->Prop),zT tg w σ G' Q->zT tg w σ G' fun σ2 G2=>(σ2.length=σ.length/\∀ (i:Nat) (v:W),σ[i]?=some (some v)->σ2[i]?=some (some v))/\Q σ2 G2)
  (h:lcR items stab G1 (fun w G' K=>zT tg w σ G' fun σ2 G2=>c σ2 G2 fun b G3=>if b=true then e σ2 G3 fun x G4=>K (some x) G4 else K none G3) (sL K H0 Q)) :
  tLCb J τ (lowG K (zT tg)) (kD K c) (xR K e) (fun acc H'=>∀ p,H' p=none->Q (.ref p) (xB H' p (.lst acc))) H1:=by
 obtain ⟨Pv,p0,pst,hlen,step,fin⟩:=h;refine ⟨fun i m τ acc H=>m+i=items.length/\xZ K H1 H/\yB K H σ τ/\∃ ws G,zC K H ws acc/\xC K H G/\Pv i ws G,⟨items.length,rfl,.refl,hs,[],G1,rfl,ab,p0⟩,?_⟩;rintro i m τ acc H ⟨hm,gr,hs,ws,G,rs,a,pv⟩;have hst:=pst i ws G pv (by omega);have hacc:acc.length=ws.length:=rs.length
 by_cases hi:i<items.length
 .refine .inr ⟨it.go i H G gr a hst.1 hi,by omega,fun x H' y=>?_⟩;obtain ⟨w,ew,g1,rp,a1⟩:=it.yld i H G x H' gr a hst.1 hi y;refine ⟨w,σ,G,rp,hs.mono g1,a1,nH tg w σ G _ _ (fun σ2 G2 q τ2 H2 g2 hs2 a2=>?_) (hw w G _ (step i w ws G ew pv))⟩;obtain ⟨⟨wl,wk⟩,q⟩:=q;have back:∀ {τ':L2.St} {H':Hp},yB K H' σ2 τ'->yB K H' σ τ':=fun {τ' H'} r=>⟨by rw [← wl];exact r.1,fun k w e=>r.2 k w (wk k w e)⟩;refine dI mc hs2 a2 q fun b G3 H3 g3 hs3 a3 q3=>?_
  cases b with
  |true =>
   rw [if_pos rfl] at q3 ⊢;refine xO me hs3 a3 q3 fun x G4 v H4 g4 hs4 rx a4 q4=>?_;refine ⟨m-1,by omega,by omega,gr.trans (g1.trans (g2.trans (g3.trans g4))),back hs4,ws++[x],G4,?_,a4,q4⟩;exact (rs.mono (g1.trans (g2.trans (g3.trans g4)))).append ⟨v,[],rfl,rx,rfl⟩
  |false =>
   rw [if_neg (by decide)] at q3 ⊢;exact ⟨m-1,by omega,by omega,gr.trans (g1.trans (g2.trans g3)),back hs3,ws,G3,rs.mono (g1.trans (g2.trans g3)),a3,q3⟩
 .refine .inl ⟨it.stop i H G gr a hst.1 (by omega),fun p hp=>?_⟩;have ei:i=items.length:=by omega
  subst ei;exact fin ws G pv p (a.free hp) _ _ ((g0.trans gr).trans (wH hp)) rfl (a.new hp ⟨acc,rfl,rs.mono (wH hp)⟩)
theorem zcG:∀ (tg:ITg) (w:W) (σ:qK) (G:Hw) (Q:qK->Hw->Prop),zT tg w σ G Q->zT tg w σ G fun σ2 G2=>σ2.length=σ.length/\Q σ2 G2:=by
 intro tg
 refine ITg.rec (motive_1:=fun _=>True) (motive_2:=fun _=>True) (motive_3:=fun _=>True) (motive_4:=fun _=>True) (motive_5:=fun tg=>∀ (w:W) (σ:qK) (G:Hw) (Q:qK->Hw->Prop),zT tg w σ G Q->zT tg w σ G fun σ2 G2=>σ2.length=σ.length/\Q σ2 G2)
  (motive_6:=fun ts=>∀ (ws:List W) (σ:qK) (G:Hw) (Q:qK->Hw->Prop),zX ts ws σ G Q->zX ts ws σ G fun σ2 G2=>σ2.length=σ.length/\Q σ2 G2)
  ?_ ?_ ?_ ?_ ?_ ?_ ?_ ?_ ?_ ?_ ?_ ?_ ?_ ?_ ?_ ?_ ?_ ?_ ?_ ?_ ?_ ?_ ?_ ?_ ?_ ?_ ?_ ?_ ?_ ?nm ?tup ?nil ?cons tg
 case nm=>exact fun i w σ G Q h=>⟨by simp,h⟩
 case tup =>
  intro ts ih w σ G Q h
  cases w with
  |tup ws=>exact ih ws σ G Q h
  |_=>exact h.elim
 case nil =>
  intro ws σ G Q h
  cases ws with
  |nil=>exact ⟨rfl,h⟩
  |cons _ _=>exact h.elim
 case cons =>
  intro t ts ht hts ws σ G Q h
  cases ws with
  |nil=>exact h.elim
  |cons w r =>
   refine nH t w σ G _ _ (fun σ' G' q=>?_) (ht w σ G _ h);exact fW ts r σ' G' _ _ (fun σ2 G2 q2=>⟨q2.1.trans q.1,q2.2⟩) (hts r σ' G' Q q.2)
 all_goals intros;trivial
mutual
theorem zbq:∀ (tg:ITg) (w:W) (σ:qK) (G:Hw) (Q:qK->Hw->Prop),zT tg w σ G Q->zT tg w σ G fun σ2 G2=>(∀ i,i∉tgIx tg->σ2[i]?=σ[i]?)/\Q σ2 G2
 | .nm j,w,σ,G,Q,h=>⟨fun i hi=>by rw [List.getElem?_set_ne];intro z;exact hi (by simp [tgIx,z]),h⟩
 | .tup ts,w,σ,G,Q,h=>by
  cases w with
  |tup ws=>exact cD ts ws σ G Q h
  |_=>exact h.elim
theorem cD:∀ (ts:ITgs) (ws:List W) (σ:qK) (G:Hw) (Q:qK->Hw->Prop),zX ts ws σ G Q->zX ts ws σ G fun σ2 G2=>(∀ i,i∉zd6 ts->σ2[i]?=σ[i]?)/\Q σ2 G2
 | .nil,ws,σ,G,Q,h=>by
  cases ws with
  |nil=>exact ⟨fun _ _=>rfl,h⟩
  |cons _ _=>exact h.elim
 | .cons t ts,ws,σ,G,Q,h=>by
  cases ws with
  |nil=>exact h.elim
  |cons w r =>
   refine nH t w σ G _ _ (fun σ' G' q=>?_) (zbq t w σ G _ h);refine fW ts r σ' G' _ _ (fun σ2 G2 q2=>⟨fun i hi=>?_,q2.2⟩) (cD ts r σ' G' Q q.2);simp only [zd6,List.mem_append,not_or] at hi;rw [q2.1 i hi.2,q.1 i hi.1]
end
theorem zdD {K:yG} {H:Hp}:∀ (ks:List Str) {ws:List W} {vs:List V} {a:List (xV×W)} {b:List (xV×V)},zC K H ws vs->yN K H a b ->
  yN K H ((ks.zip ws).foldl (fun acc kv=>cQ acc (.inr kv.1) kv.2) a) (((ks.zip vs).map fun kv=>((Sum.inr kv.1:xV),kv.2)).foldl (fun acc kv=>uC acc kv.1 kv.2) b)
 | [],ws,vs,a,b,_,h=>by simpa using h
 |k::ks,[],vs,a,b,hr,h=>by rw [show vs=[] from hr];simpa using h
 |k::ks,w::ws,vs,a,b,hr,h=>by
  obtain ⟨v,r,e,rw',rr⟩:=hr;subst e;simp only [List.zip_cons_cons,List.foldl_cons,zzU];exact zdD ks rr (h.put rw')
theorem fL {K:yG} {H:Hp} {f:Str} {w:W}:∀ {l:List (Str×W)} {l':List (Str×V)},yN K H l l'->l.lookup f=some w->∃ v,l'.lookup f=some v/\wQ K H w v
 | [],_,h,e=>by cases e
 |p::r,_,⟨v,t,e,h,hr⟩,q=>by
  subst e;obtain ⟨n,u⟩:=p;rw [List.lookup_cons] at q ⊢
  cases hx:f==n with
  |true=>rw [hx] at q;cases q;exact ⟨v,rfl,h⟩
  |false=>rw [hx] at q;exact fL hr q
theorem zfi {K:yG} {H:Hp} {G:Hw} {w:W} {v:V} {T:String} (r:wQ K H w v) (ab:xC K H G) (h:tyW G w T):tyV K T v H:=by
 cases w with
 |str x=>cases r;exact h
 |ref p =>
  cases r;simp only [tyW] at h
  split at h
  .rename_i ws e;obtain ⟨vs,q,_⟩:=ab.lst e;exact .inl ⟨h,vs,.of q⟩
  .rename_i ws e;obtain ⟨vs,q,_⟩:=ab.seq (a:=p) (ws:=ws) (by unfold yJ;rw [e]);exact .inl ⟨h,vs,q⟩
  .rename_i kvs e;obtain ⟨l,q,_⟩:=ab.dic e;exact .inr (.inr (.inl ⟨h,.inl ⟨l,q⟩⟩))
  .exact h.elim
 |_=>exact h.elim
theorem zgq {l:List Nat} {k:Nat} (h:l.all (fun i=>decide (i<k))=true) {i:Nat} (hi:k<=i):i∉l:=fun hm=>by
 have:=List.all_eq_true.mp h i hm;simp at this;omega
theorem zgF {op:CmpOp} {a b:IE} {M:MC} {l:Expr} {os:List CmpOp} {rs:List Expr} {q:Pos} (h:mE (.cmp op a b) M (.Compare l os rs q)=true):∃ o r,os=[o]/\rs=[r]:=by
 cases os with
 |nil=>exact absurd h zzN
 |cons o os =>
  cases os with
  |cons _ _=>exact absurd h zzN
  |nil =>
   cases rs with
   |nil=>exact absurd h zzN
   |cons r rs =>
    cases rs with
    |cons _ _=>exact absurd h zzN
    |nil=>exact ⟨o,r,rfl,rfl⟩
theorem zgG {o1 o2:CmpOp} {a b c:IE} {M:MC} {l:Expr} {os:List CmpOp} {rs:List Expr} {q:Pos} (h:mE (.chn o1 o2 a b c) M (.Compare l os rs q)=true):∃ p1 p2 r t,os=[p1,p2]/\rs=[r,t]:=by
 cases os with
 |nil=>exact absurd h zzN
 |cons p1 os =>
  cases os with
  |nil=>exact absurd h zzN
  |cons p2 os =>
   cases os with
   |cons _ _=>exact absurd h zzN
   |nil =>
    cases rs with
    |nil=>exact absurd h zzN
    |cons r rs =>
     cases rs with
     |nil=>exact absurd h zzN
     |cons t rs =>
      cases rs with
      |cons _ _=>exact absurd h zzN
      |nil=>exact ⟨p1,p2,r,t,rfl,rfl⟩
theorem zgH {o1 o2 o3:CmpOp} {a b c d:IE} {M:MC} {l:Expr} {os:List CmpOp} {rs:List Expr} {q:Pos} (h:mE (.ch3 o1 o2 o3 a b c d) M (.Compare l os rs q)=true):∃ p1 p2 p3 r t u,os=[p1,p2,p3]/\rs=[r,t,u]:=by
 match os,rs,h with
 | [p1,p2,p3],[r,t,u],_=>exact ⟨p1,p2,p3,r,t,u,rfl,rfl⟩
section
variable {X : Cx} {a b c d : Expr} {pos : Pos} {ta tb tc td : TE}
def tCh3 (r1 r2 r3:R2) (ta tb tc td:TE):TE:=fun σ H Q=>ta σ H fun x H1=>tb σ H1 fun y H2=>r1 x y H2 fun z H3=>∃ k,z=.bl k /\
 (if k=true then tc σ H3 fun u H4=>r2 y u H4 fun z2 H5=>∃ k2,z2=.bl k2/\(if k2=true then td σ H5 fun t H6=>r3 u t H6 Q else Q (.bl false) H5) else Q (.bl false) H3)
theorem zh9 {o1 o2 o3:CmpOp} {r1 r2 r3:R2} (h1:vC X (compareOp o1) r1) (h2:vC X (compareOp o2) r2) (h3:vC X (compareOp o3) r3) (ha:PE X a ta) (hb:PE X b tb) (hc:PE X c tc) (hd:PE X d td)
  (hm:lastMarks [o1,o2,o3] [b,c,d]=false):PE X (.Compare a [o1,o2,o3] [b,c,d] pos) (tCh3 r1 r2 r3 ta tb tc td):=by
 intro pins s σ H Q I h
 refine Compare_chain (xT (ha pins s σ H _ I h) fun v s1 ⟨x,H1,I1,e1,q1⟩=>chain_link (xT (hb pins s1 σ H1 _ I1 q1) fun u s2 ⟨y,H2,I2,e2,q2⟩ =>
  xT (h1 pins s2 σ H2 x y v u _ I2 e1 e2 q2) fun _ s3 ⟨z,H3,I3,e3,k,e,q3⟩=>?_)) hm
 subst e;cases e3;refine wpAny_truthy_bool ?_
 cases k with
 |false=>exact ite_ff ⟨.bl false,H3,I3,rfl,q3⟩
 |true =>
  refine ite_tt (chain_link (xT (hc pins s3 σ H3 _ I3 q3) fun w4 s4 ⟨z4,H4,I4,e4,q4⟩=>xT (h2 pins s4 σ H4 y z4 u w4 _ I4 e2 e4 q4) fun _ s5 ⟨z5,H5,I5,e5,k2,e,q5⟩=>?_));subst e;cases e5;refine wpAny_truthy_bool ?_
  cases k2 with
  |false=>exact ite_ff ⟨.bl false,H5,I5,rfl,q5⟩
  |true=>exact ite_tt (chain_last (xT (hd pins s5 σ H5 _ I5 q5) fun w6 s6 ⟨z6,H6,I6,e6,q6⟩=>h3 pins s6 σ H6 z4 z6 w4 w6 Q I6 e4 e6 q6))
theorem zhT {o1 o2 o3:CmpOp} {r1 r2 r3:R2} (h1:vC X (compareOp o1) r1) (h2:vC X (compareOp o2) r2) (h3:vC X (compareOp o3) r3) (ha:PE X a ta) (hb:PE X b tb) (hc:PE X c tc) (hd:PE X d td)
  (hm:lastMarks [o1,o2,o3] [b,c,d]=false):PT X (.Compare a [o1,o2,o3] [b,c,d] pos) (zfN (tCh3 r1 r2 r3 ta tb tc td)):=by
 intro pins s σ H Q I h
 refine isTrue_chain (xT (ha pins s σ H _ I h) fun v s1 ⟨x,H1,I1,e1,q1⟩=>test_link (xT (hb pins s1 σ H1 _ I1 q1) fun u s2 ⟨y,H2,I2,e2,q2⟩ =>
  xT (h1 pins s2 σ H2 x y v u _ I2 e1 e2 q2) fun _ s3 ⟨z,H3,I3,e3,k,e,q3⟩=>?_)) hm
 subst e;cases e3;refine wpAny_truthy_bool ?_
 cases k with
 |false =>
  obtain ⟨k',e',q'⟩:=q3;cases e';exact ite_ff ⟨H3,I3,q'⟩
 |true =>
  refine ite_tt (test_link (xT (hc pins s3 σ H3 _ I3 q3) fun w4 s4 ⟨z4,H4,I4,e4,q4⟩=>xT (h2 pins s4 σ H4 y z4 u w4 _ I4 e2 e4 q4) fun _ s5 ⟨z5,H5,I5,e5,k2,e,q5⟩=>?_));subst e;cases e5;refine wpAny_truthy_bool ?_
  cases k2 with
  |false =>
   obtain ⟨k',e',q'⟩:=q5;cases e';exact ite_ff ⟨H5,I5,q'⟩
  |true =>
   refine ite_tt (test_last (xT (hd pins s5 σ H5 _ I5 q5) fun w6 s6 ⟨z6,H6,I6,e6,q6⟩=>xT (h3 pins s6 σ H6 z4 z6 w4 w6 _ I6 e4 e6 q6) fun _ s7 ⟨z7,H7,I7,e7,k3,e,q7⟩=>?_));subst e;cases e7;exact wpAny_truthy_bool ⟨H7,I7,q7⟩
end
section
variable {Γ : Ctx3} {p : Par} (g : Good Γ p)
def qH (Γ:Ctx3) (p:Par) (e:IE):Prop:=∀ M X x,Lk Γ M p X->mE e M x=true->PE X x (xR X.K (zF Γ XN e).e)/\PT X x (kD X.K (zF Γ XN e).t)/\∀ op vs pos,x=.BoolOp op vs pos->PW X x (kD X.K (zF Γ XN e).t)
def OkO (Γ:Ctx3) (p:Par) (o:IO):Prop:=∀ M X,Lk Γ M p X->(∀ x,mO o M x=true->PO X x (lowO X.K (zN Γ XN o)))/\∀ xs,mC o M xs=true->PTs X xs (kD X.K (zP Γ o))
def OkA (Γ:Ctx3) (p:Par) (es:IEs):Prop:=∀ M X xs,Lk Γ M p X->mA es M xs=true->PA X xs (nT X.K (zU Γ XN es))/\xs.all jU=true /\
 (∀ ks keys pos,keyB ks keys=true->keys.length=xs.length->keys.all (·.isSome)=true/\ks.length=keys.length/\∃ trs,PPs X pos keys xs trs/\∀ τ H (Q:List (V×V)->Hp->Prop),
  (∃ σ G,yB X.K H σ τ/\xC X.K H G/\zU Γ XN es σ G fun ws G'=>∀ vs H',xZ X.K H H'->zC X.K H' ws vs->xC X.K H' G'->Q ((ks.zip vs).map fun kv=>(V.str kv.1,kv.2)) H')->zbh trs τ H Q)/\zcn X xs (semL Γ es)
def OkI (Γ:Ctx3) (p:Par) (it:II):Prop:=∀ M X x,Lk Γ M p X->mI it M x=true->∀ tg,PI X tg x (lowI X.K (zR Γ XN it))
theorem jE {M:MC} {X:Cx} {x:Expr} {e:E3} (m:jR e) (h:PE X x (xR X.K e)) (he:∀ whole,isTrue x X.env whole=(do let v ← whole;standAt x.pos;holding [v] (truthy v))) (hb:∀ op vs pos,x≠.BoolOp op vs pos) :
  PE X x (xR X.K (zB e).e)/\PT X x (kD X.K (zB e).t)/\∀ op vs pos,x=.BoolOp op vs pos->PW X x (kD X.K (zB e).t) :=
 ⟨h,pt_of m h he,fun op vs pos z=>absurd z (hb op vs pos)⟩
include g
theorem s_var (i:Nat):qH Γ p (.var i):=by
 intro M X x L h
 cases x with
 |Name y q =>
  replace h:=bd4 h;simp only [Bool.not_eq_true'] at h;refine jE (M:=M) (zA g.mono XN (.var i)) ((zh1 (i:=i) (by rw [L.N];exact qT h.1.1.1) (by rw [L.sc];exact zhi h.1.1.2) h.1.2 h.2).imp fun τ H Q q=>?_) (fun _=>rfl) (fun _ _ _ z=>nomatch z);obtain ⟨σ,G,hs,ab,q⟩:=q
  split at q
  .rename_i w e;obtain ⟨v,ev,rp⟩:=hs.2 i w e;exact ⟨v,ev,q v H .refl rp ab⟩
  .exact q.elim
 |_=>exact absurd h zzN
theorem s_con (c:Const):qH Γ p (.con c):=by
 intro M X x L h
 cases x with
 |Constant d k q =>
  replace h:=of_decide_eq_true h;subst h;refine jE (M:=M) (zA g.mono XN (.con c)) ?_ (fun _=>rfl) (fun _ _ _ z=>nomatch z)
  cases c with
  |none=>exact zh5.imp fun τ H Q q=>by obtain ⟨σ,G,hs,ab,q⟩:=q;exact q _ H .refl rfl ab
  |bool b=>exact pe_bl.imp fun τ H Q q=>by obtain ⟨σ,G,hs,ab,q⟩:=q;exact q _ H .refl rfl ab
  |int b=>exact zh7.imp fun τ H Q q=>by obtain ⟨σ,G,hs,ab,q⟩:=q;exact q _ H .refl rfl ab
  |str b=>exact zft.imp fun τ H Q q=>by obtain ⟨σ,G,hs,ab,q⟩:=q;exact q _ H .refl rfl ab
  |_=>exact fun pins s σ H Q I q=>by obtain ⟨σ,G,hs,ab,q⟩:=q;exact q.elim
 |_=>exact absurd h zzN
theorem s_glb (i:Nat):qH Γ p (.glb i):=by
 intro M X x L h
 cases x with
 |Name y q =>
  replace h:=rL h;have gl:=bH L.sc h.2;have hi:=qT h.1;rw [← L.gls] at hi;obtain ⟨e,ei,rfl⟩:=sT hi;refine jE (M:=M) (zA g.mono XN (.glb i)) ((g.gl e (wB ei) X L.fits gl.1 q gl.2.1 gl.2.2).imp fun τ H Q q=>?_) (fun _=>rfl) (fun _ _ _ z=>nomatch z);obtain ⟨σ,G,hs,ab,q⟩:=q;simp only [ei] at q;exact ⟨σ,G,hs,ab,q⟩
 |_=>exact absurd h zzN
theorem pU {M:MC} {X:Cx} (L:Lk Γ M p X):X.A.units+200<cLine:=by rw [L.fits.A];exact g.un
theorem s_bin (op:Operator) (a b:IE) (ha:qH Γ p a) (hb:qH Γ p b):qH Γ p (.bin op a b):=by
 intro M X x L h
 cases x with
 |BinOp l o r q =>
  replace h:=bd3 h;simp only [decide_eq_true_eq] at h;obtain ⟨⟨rfl,h1⟩,h2⟩:=h;exact jE (M:=M) (zA g.mono XN (.bin op a b)) ((pe_op (zja op) (ha M X l L h1).1 (hb M X r L h2).1).imp fun τ H Q q=>zbu (zA g.mono XN a) (zA g.mono XN b) (zaw op) q) (fun _=>rfl) (fun _ _ _ z=>nomatch z)
 |_=>exact absurd h zzN
theorem s_neg (a:IE) (ha:qH Γ p a):qH Γ p (.neg a):=by
 intro M X x L h
 cases x with
 |UnaryOp o l q =>
  cases o with
  |USub =>
   skip
   refine jE (M:=M) (zA g.mono XN (.neg a)) ((pe_un zhj (ha M X l L h).1).imp fun τ H Q q=>?_) (fun _=>rfl) (fun _ _ _ z=>nomatch z);obtain ⟨σ,G,hs,ab,q⟩:=q;refine xO (zA g.mono XN a) hs ab q fun w G1 v H1 gr _ rp ab q=>?_
   cases w with
   |int i=>cases rp;exact ⟨i,rfl,q _ H1 gr rfl ab⟩
   |_=>exact q.elim
  |_=>exact absurd h zzN
 |_=>exact absurd h zzN
theorem s_not (a:IE) (ha:qH Γ p a):qH Γ p (.not a):=by
 intro M X x L h
 cases x with
 |UnaryOp o l q =>
  cases o with
  |Not =>
   skip
   refine ⟨(zh4 (ha M X l L h).1).imp fun τ H Q q=>?_,(zhS (ha M X l L h).2.1).imp fun τ H Q q=>?_,fun _ _ _ z=>nomatch z⟩
   .obtain ⟨σ,G,hs,ab,q⟩:=q;refine xO (zA g.mono XN a) hs ab q fun w G1 v H1 gr _ rp ab q=>?_
    cases w with
    |bl i=>cases rp;exact ⟨i,rfl,q _ H1 gr rfl ab⟩
    |_=>exact q.elim
   .obtain ⟨σ,G,hs,ab,q⟩:=q;exact dI (pY g.mono XN a) hs ab q fun b G1 H1 gr _ ab q=>q H1 gr ab
  |_=>exact absurd h zzN
 |_=>exact absurd h zzN
theorem s_cmp (op:CmpOp) (a b:IE) (ha:qH Γ p a) (hb:qH Γ p b):qH Γ p (.cmp op a b):=by
 intro M X x L h
 cases x with
 |Compare l os rs q =>
   obtain ⟨o,r,rfl,rfl⟩:=zgF h;replace h:=bd4 h;simp only [decide_eq_true_eq] at h;obtain ⟨⟨⟨rfl,h1⟩,h2⟩,h3⟩:=h;have m:=zA g.mono XN (.cmp op a b)
   refine ⟨(zgd (qC (pU g L) op) (ha M X l L h1).1 (hb M X r L h2).1 (vH h3)).imp fun τ H Q q=>zbu (zA g.mono XN a) (zA g.mono XN b) (xN op) q,
    (zf2 (qC (pU g L) op) (ha M X l L h1).1 (hb M X r L h2).1 (vH h3)).imp fun τ H Q q=>zbu (zA g.mono XN a) (zA g.mono XN b) (xN op) (zba m q),fun _ _ _ z=>nomatch z⟩
 |_=>exact absurd h zzN
theorem s_chn (o1 o2:CmpOp) (a b c:IE) (ha:qH Γ p a) (hb:qH Γ p b) (hc:qH Γ p c):qH Γ p (.chn o1 o2 a b c):=by
 intro M X x L h
 cases x with
 |Compare l os rs q =>
   obtain ⟨q1,q2,r,t,rfl,rfl⟩:=zgG h;replace h:=bd6 h;simp only [decide_eq_true_eq] at h;obtain ⟨⟨⟨⟨⟨rfl,rfl⟩,h1⟩,h2⟩,h3⟩,h4⟩:=h;have m:=zA g.mono XN (.chn o1 o2 a b c)
   have key:∀ τ H Q,xR X.K (zF Γ XN (.chn o1 o2 a b c)).e τ H Q->zcu (nS X.K (yK o1)) (nS X.K (yK o2)) (xR X.K (zF Γ XN a).e) (xR X.K (zF Γ XN b).e) (xR X.K (zF Γ XN c).e) τ H Q:=fun τ H Q q=>by
    obtain ⟨σ,G,hs,ab,q⟩:=q;refine xO (zA g.mono XN a) hs ab q fun x G1 v H1 g1 hs1 rx a1 q=>?_;refine xO (zA g.mono XN b) hs1 a1 q fun y G2 u H2 g2 hs2 ry a2 q=>?_;refine ⟨x,y,G2,rx.mono g2,ry,a2,xN o1 x y G2 _ _ (fun z G3 q v3 H3 g3 r3 a3=>?_) q⟩
    cases z with
    |bl k =>
     cases r3;refine ⟨k,rfl,?_⟩;have q:if k=true then _ else _:=q
     split
     .rename_i hk;rw [if_pos hk] at q;refine xO (zA g.mono XN c) (hs2.mono g3) a3 q fun w G4 v4 H4 g4 hs4 r4 a4 q=>?_;exact ⟨y,w,G4,(ry.mono g3).mono g4,r4,a4,xN o2 y w G4 _ _ (fun w5 G5 q v5 H5 g5=>q v5 H5 (g1.trans (g2.trans (g3.trans (g4.trans g5))))) q⟩
     .rename_i hk;rw [if_neg hk] at q;exact q _ H3 (g1.trans (g2.trans g3)) rfl a3
    |_=>exact q.elim
   refine ⟨(zex (qC (pU g L) o1) (qC (pU g L) o2) (ha M X l L h1).1 (hb M X r L h2).1 (hc M X t L h3).1 (vH (op:=o2) h4)).imp key,
    (zek (qC (pU g L) o1) (qC (pU g L) o2) (ha M X l L h1).1 (hb M X r L h2).1 (hc M X t L h3).1 (vH (op:=o2) h4)).imp fun τ H Q q=>key _ _ _ (zba m q),fun _ _ _ z=>nomatch z⟩
 |_=>exact absurd h zzN
theorem s_ch3 (o1 o2 o3:CmpOp) (a b c d:IE) (ha:qH Γ p a) (hb:qH Γ p b) (hc:qH Γ p c) (hd:qH Γ p d):qH Γ p (.ch3 o1 o2 o3 a b c d):=by
 intro M X x L h
 cases x with
 |Compare l os rs q =>
   obtain ⟨q1,q2,q3,r,t,t2,rfl,rfl⟩:=zgH h;replace h:=bd8 h;simp only [decide_eq_true_eq] at h;obtain ⟨⟨⟨⟨⟨⟨⟨rfl,rfl⟩,rfl⟩,h1⟩,h2⟩,h3⟩,h4⟩,h5⟩:=h;have m:=zA g.mono XN (.ch3 o1 o2 o3 a b c d)
   have key:∀ τ H Q,xR X.K (zF Γ XN (.ch3 o1 o2 o3 a b c d)).e τ H Q->tCh3 (nS X.K (yK o1)) (nS X.K (yK o2)) (nS X.K (yK o3)) (xR X.K (zF Γ XN a).e) (xR X.K (zF Γ XN b).e) (xR X.K (zF Γ XN c).e) (xR X.K (zF Γ XN d).e) τ H Q:=fun τ H Q q=>by
    obtain ⟨σ,G,hs,ab,q⟩:=q;refine xO (zA g.mono XN a) hs ab q fun x G1 v H1 g1 hs1 rx a1 q=>?_;refine xO (zA g.mono XN b) hs1 a1 q fun y G2 u H2 g2 hs2 ry a2 q=>?_;refine ⟨x,y,G2,rx.mono g2,ry,a2,xN o1 x y G2 _ _ (fun z G3 q v3 H3 g3 r3 a3=>?_) q⟩
    cases z with
    |bl k =>
     cases r3;refine ⟨k,rfl,?_⟩;have q:if k=true then _ else _:=q
     split
     .rename_i hk;rw [if_pos hk] at q;refine xO (zA g.mono XN c) (hs2.mono g3) a3 q fun w G4 v4 H4 g4 hs4 r4 a4 q=>?_;refine ⟨y,w,G4,(ry.mono g3).mono g4,r4,a4,xN o2 y w G4 _ _ (fun z5 G5 q v5 H5 g5 r5 a5=>?_) q⟩
      cases z5 with
      |bl k2 =>
       cases r5;refine ⟨k2,rfl,?_⟩;have q:if k2=true then _ else _:=q
       split
       .rename_i hk2;rw [if_pos hk2] at q;refine xO (zA g.mono XN d) (hs4.mono g5) a5 q fun w6 G6 v6 H6 g6 hs6 r6 a6 q=>?_;exact ⟨w,w6,G6,(r4.mono g5).mono g6,r6,a6,xN o3 w w6 G6 _ _ (fun w7 G7 q v7 H7 g7=>q v7 H7 (g1.trans (g2.trans (g3.trans (g4.trans (g5.trans (g6.trans g7))))))) q⟩
       .rename_i hk2;rw [if_neg hk2] at q;exact q _ H5 (g1.trans (g2.trans (g3.trans (g4.trans g5)))) rfl a5
      |_=>exact q.elim
     .rename_i hk;rw [if_neg hk] at q;exact q _ H3 (g1.trans (g2.trans g3)) rfl a3
    |_=>exact q.elim
   refine ⟨(zh9 (qC (pU g L) o1) (qC (pU g L) o2) (qC (pU g L) o3) (ha M X l L h1).1 (hb M X r L h2).1 (hc M X t L h3).1 (hd M X t2 L h4).1 (vH (op:=o3) h5)).imp key,
    (zhT (qC (pU g L) o1) (qC (pU g L) o2) (qC (pU g L) o3) (ha M X l L h1).1 (hb M X r L h2).1 (hc M X t L h3).1 (hd M X t2 L h4).1 (vH (op:=o3) h5)).imp fun τ H Q q=>key _ _ _ (zba m q),fun _ _ _ z=>nomatch z⟩
 |_=>exact absurd h zzN
theorem s_and (a b:IE) (ha:qH Γ p a) (hb:qH Γ p b):qH Γ p (.and a b):=by
 intro M X x L h
 have e1:∀ τ H Q,xR X.K (zF Γ XN (.and a b)).e τ H Q->zhw (xR X.K (zF Γ XN a).e) (xR X.K (zF Γ XN b).e) τ H Q:=fun τ H Q q=>by
  obtain ⟨σ,G,hs,ab,q⟩:=q;refine xO (zA g.mono XN a) hs ab q fun w G1 v H1 g1 hs1 rx a1 q=>?_
  cases w with
  |bl k =>
   cases rx;refine ⟨k,rfl,?_⟩;have q:if k=true then _ else _:=q
   split
   .rename_i hk;rw [if_pos hk] at q;exact ⟨σ,G1,hs1,a1,zA g.mono XN b σ G1 _ _ (fun w G' q v' H' g'=>q v' H' (g1.trans g')) q⟩
   .rename_i hk;rw [if_neg hk] at q;exact q _ H1 g1 rfl a1
  |_=>exact q.elim
 have e2:∀ τ H Q,kD X.K (zF Γ XN (.and a b)).t τ H Q->tAnd (kD X.K (zF Γ XN a).t) (kD X.K (zF Γ XN b).t) τ H Q:=fun τ H Q q=>by
  obtain ⟨σ,G,hs,ab,q⟩:=q;refine dI (pY g.mono XN a) hs ab q fun k G1 H1 g1 hs1 a1 q=>?_
  split
  .rename_i hk;rw [if_pos hk] at q;exact ⟨σ,G1,hs1,a1,pY g.mono XN b σ G1 _ _ (fun w G' q H' g'=>q H' (g1.trans g')) q⟩
  .rename_i hk;rw [if_neg hk] at q;exact q H1 g1 a1
 cases x with
 |BoolOp o vs q =>
  match o,vs,h with
  | .And,[l,r],h =>
   replace h:=rL h;have A:=ha M X l L h.1;have B:=hb M X r L h.2;have W2:PW X (.BoolOp .And [l,r] q) (kD X.K (zF Γ XN (.and a b)).t):=(zfq A.2.1 (zfZ B.2.1)).imp e2;exact ⟨(zfv A.1 (zfu B.1)).imp e1,W2.pt,fun _ _ _ _=>W2⟩
  | .And,l::r::q'::rest,h =>
   replace h:=rL h;have A:=ha M X l L h.1;have B:=hb M X _ L h.2;have W2:PW X (.BoolOp .And (l::r::q'::rest) q) (kD X.K (zF Γ XN (.and a b)).t):=(zfq A.2.1 (B.2.2 _ _ _ rfl)).imp e2;exact ⟨(zfv A.1 B.1).imp e1,W2.pt,fun _ _ _ _=>W2⟩
 |_=>exact absurd h zzN
theorem s_or (a b:IE) (ha:qH Γ p a) (hb:qH Γ p b):qH Γ p (.or a b):=by
 intro M X x L h
 have e1:∀ τ H Q,xR X.K (zF Γ XN (.or a b)).e τ H Q->tOrV (xR X.K (zF Γ XN a).e) (xR X.K (zF Γ XN b).e) τ H Q:=fun τ H Q q=>by
  obtain ⟨σ,G,hs,ab,q⟩:=q;refine xO (zA g.mono XN a) hs ab q fun w G1 v H1 g1 hs1 rx a1 q=>?_
  cases w with
  |bl k =>
   cases rx;refine ⟨k,rfl,?_⟩;have q:if k=true then _ else _:=q
   split
   .rename_i hk;rw [if_pos hk] at q;exact q _ H1 g1 rfl a1
   .rename_i hk;rw [if_neg hk] at q;exact ⟨σ,G1,hs1,a1,zA g.mono XN b σ G1 _ _ (fun w G' q v' H' g'=>q v' H' (g1.trans g')) q⟩
  |_=>exact q.elim
 have e2:∀ τ H Q,kD X.K (zF Γ XN (.or a b)).t τ H Q->tOr (kD X.K (zF Γ XN a).t) (kD X.K (zF Γ XN b).t) τ H Q:=fun τ H Q q=>by
  obtain ⟨σ,G,hs,ab,q⟩:=q;refine dI (pY g.mono XN a) hs ab q fun k G1 H1 g1 hs1 a1 q=>?_
  split
  .rename_i hk;rw [if_pos hk] at q;exact q H1 g1 a1
  .rename_i hk;rw [if_neg hk] at q;exact ⟨σ,G1,hs1,a1,pY g.mono XN b σ G1 _ _ (fun w G' q H' g'=>q H' (g1.trans g')) q⟩
 cases x with
 |BoolOp o vs q =>
  match o,vs,h with
  | .Or,[l,r],h =>
   replace h:=rL h;have A:=ha M X l L h.1;have B:=hb M X r L h.2;have W2:PW X (.BoolOp .Or [l,r] q) (kD X.K (zF Γ XN (.or a b)).t):=(zhQ A.2.1 (zhP B.2.1)).imp e2;exact ⟨(zh3 A.1 (zfu B.1)).imp e1,W2.pt,fun _ _ _ _=>W2⟩
  | .Or,l::r::q'::rest,h =>
   replace h:=rL h;have A:=ha M X l L h.1;have B:=hb M X _ L h.2;have W2:PW X (.BoolOp .Or (l::r::q'::rest) q) (kD X.K (zF Γ XN (.or a b)).t):=(zhQ A.2.1 (B.2.2 _ _ _ rfl)).imp e2;exact ⟨(zh3 A.1 B.1).imp e1,W2.pt,fun _ _ _ _=>W2⟩
 |_=>exact absurd h zzN
theorem s_ite (c a b:IE) (hc:qH Γ p c) (ha:qH Γ p a) (hb:qH Γ p b):qH Γ p (.ite c a b):=by
 intro M X x L h
 cases x with
 |IfExp t l r q =>
  replace h:=bd3 h;refine ⟨(zev (hc M X t L h.1.1).2.1 (ha M X l L h.1.2).1 (hb M X r L h.2).1).imp fun τ H Q q=>?_,fun _ _ _ _ _ _ q=>?_,fun _ _ _ z=>nomatch z⟩
  .obtain ⟨σ,G,hs,ab,q⟩:=q;refine dI (pY g.mono XN c) hs ab q fun k G1 H1 g1 hs1 a1 q=>?_
   split
   .rename_i hk;rw [if_pos hk] at q;exact ⟨σ,G1,hs1,a1,zA g.mono XN a σ G1 _ _ (fun w G' q v' H' g'=>q v' H' (g1.trans g')) q⟩
   .rename_i hk;rw [if_neg hk] at q;exact ⟨σ,G1,hs1,a1,zA g.mono XN b σ G1 _ _ (fun w G' q v' H' g'=>q v' H' (g1.trans g')) q⟩
  .obtain ⟨_,_,_,_,z⟩:=q;exact z.elim
 |_=>exact absurd h zzN
theorem s_ix (a i:IE) (ha:qH Γ p a) (hb:qH Γ p i):qH Γ p (.ix a i):=by
 intro M X x L h
 cases x with
 |Subscript l r q =>
  replace h:=bd3 h;exact jE (M:=M) (zA g.mono XN (.ix a i)) ((pe_ix (ix_ok (pU g L)) (ha M X l L h.1.1).1 (hb M X r L h.1.2).1 (zes h.2)).imp fun τ H Q q=>zbu (zA g.mono XN a) (zA g.mono XN i) zbF q) (fun _=>rfl) (fun _ _ _ z=>nomatch z)
 |_=>exact absurd h zzN
theorem s_sl (a:IE) (lo hi:IO) (ha:qH Γ p a) (hl:OkO Γ p lo) (hh:OkO Γ p hi):qH Γ p (.sl a lo hi):=by
  intro M X x L h
  cases x with
  |Subscript l r q =>
    cases r with
    |Slice y z sp q2 =>
     cases sp with
     |none =>
      replace h:=bd3 h;refine jE (M:=M) (zA g.mono XN (.sl a lo hi)) ((zeu sl_ok (ha M X l L h.1.1).1 ((hl M X L).1 y h.1.2) ((hh M X L).1 z h.2)).imp fun τ H Q q=>?_) (fun _=>rfl) (fun _ _ _ z=>nomatch z);obtain ⟨σ,G,hs,ab,q⟩:=q;refine xO (zA g.mono XN a) hs ab q fun w G1 v H1 g1 hs1 rx a1 q=>?_;refine ⟨σ,G1,hs1,a1,zin g.mono XN lo σ G1 _ _ (fun o G2 q H2 g2 a2=>?_) q⟩;refine ⟨σ,G2,hs1.mono g2,a2,zin g.mono XN hi σ G2 _ _ (fun o2 G3 q H3 g3 a3=>?_) q⟩;exact ⟨w,G3,(rx.mono g2).mono g3,a3,zbp (fun w' G' q v' H' g'=>q v' H' (g1.trans (g2.trans (g3.trans g')))) q⟩
     |some _=>exact absurd h zzN
    |_=>exact absurd h zzN
  |_=>exact absurd h zzN
theorem s_tup (es:IEs) (hs:OkA Γ p es):qH Γ p (.tup es):=by
 intro M X x L h
 cases x with
 |Tuple xs k q =>
  skip
  refine jE (M:=M) (zA g.mono XN (.tup es)) ((zh2 (hs M X xs L h).1).imp fun τ H Q q=>?_) (fun _=>rfl) (fun _ _ _ z=>nomatch z);obtain ⟨σ,G,hs',ab,q⟩:=q;refine dH (kO g.mono XN es) hs' ab q fun ws G1 vs H1 g1 hs1 rs a1 q=>⟨by rw [rs.length];exact q.1,pZ a1 rs fun v' H' g'=>q.2 v' H' (g1.trans g')⟩
 |_=>exact absurd h zzN
theorem s_lst (es:IEs) (hs:OkA Γ p es):qH Γ p (.lst es):=by
 intro M X x L h
 cases x with
 |List xs q =>
  skip
  refine jE (M:=M) (zA g.mono XN (.lst es)) ((zh6 (hs M X xs L h).1).imp fun τ H Q q=>?_) (fun _=>rfl) (fun _ _ _ z=>nomatch z);obtain ⟨σ,G,hs',ab,q⟩:=q;refine dH (kO g.mono XN es) hs' ab q fun ws G1 vs H1 g1 hs1 rs a1 q=>⟨by rw [rs.length];exact q.1,uX a1 rs fun r hr v' H' g'=>q.2 r hr v' H' (g1.trans g')⟩
 |_=>exact absurd h zzN
theorem gM {Γ:Ctx3} {M:MC} {es:IEs} {xs:List Expr} (h:mA es M xs=true):xs=[]->∀ σ G Q,zU Γ XN es σ G Q->Q [] G:=by
 rintro rfl σ G Q q
 cases es with
 |nil=>exact q
 |cons _ _=>exact absurd h zzN
theorem zhH (f:Nat) (es:IEs) (hs:OkA Γ p es):qH Γ p (.call f es):=by
  intro M X x L h
  cases x with
  |Call fn xs kw q =>
    cases fn with
    |Name y qy =>
     cases kw with
     |nil =>
      replace h:=bd3 h;have gl:=bH L.sc h.1.2;have hi:=qT h.1.1;rw [← L.fns] at hi;obtain ⟨e,ei,rfl⟩:=sT hi;have A:=hs M X xs L h.2;refine jE (M:=M) (zA g.mono XN (.call f es)) ((g.fn e (wB ei) X L.fits gl.1 xs (zU Γ XN es) qy q (kO g.mono XN es) A.2.1 A.1 (gM g h.2) gl.2.1 gl.2.2).imp fun τ H Q q=>?_) (fun _=>rfl) (fun _ _ _ z=>nomatch z);obtain ⟨σ,G,hs',ab,q⟩:=q;refine ⟨σ,G,hs',ab,kO g.mono XN es σ G _ _ (fun ws G1 q=>?_) q⟩;simp only [ei] at q;exact q
     |cons _ _=>exact absurd h zzN
    |_=>exact absurd h zzN
  |_=>exact absurd h zzN
theorem s_spc (i:Nat) (es:IEs) (hs:OkA Γ p es):qH Γ p (.spc i es):=by
 intro M X x L h;replace h:=rL h;replace h:=h.2
 split at h
 .rename_i m hm
  split at h
  .rename_i xs hx;rw [← L.sxs] at hm;obtain ⟨k,ek,rfl⟩:=sT hm;have A:=hs M X xs L h;have q:=g.sx k (wB ek) X L.fits x xs (semL Γ es) (by rw [L.sc];exact hx) A.2.2.2 A.2.1 (by rw [← tV];exact A.1);refine jE (M:=M) (zA g.mono XN (.spc i es)) (q.1.imp fun τ H Q q=>?_) q.2.1 q.2.2;obtain ⟨σ,G,hs',ab,q⟩:=q;refine ⟨σ,G,hs',ab,?_⟩;rw [← tV];refine kO g.mono XN es σ G _ _ (fun ws G1 q=>?_) q;simp only [ek] at q;exact q
  .exact absurd h zzN
 .exact absurd h zzN
theorem s_mth (m:Nat) (o:IE) (es:IEs) (ho:qH Γ p o) (hs:OkA Γ p es):qH Γ p (.mth m o es):=by
  intro M X x L h
  cases x with
  |Call fn xs kw q =>
    cases fn with
    |Attribute l y qy =>
     cases kw with
     |nil =>
      replace h:=bd6 h;simp only [decide_eq_true_eq] at h;have hi:=qT h.1.1.1.1.1;rw [← L.mts] at hi;obtain ⟨e,ei,rfl⟩:=sT hi;have A:=hs M X xs L h.2;have B:=ho M X l L h.1.2;refine jE (M:=M) (zA g.mono XN (.mth m o es)) ((g.mt e (wB ei) X L.fits l xs (zF Γ XN o).e (zU Γ XN es) qy q (zA g.mono XN o) (kO g.mono XN es) h.1.1.1.1.2 h.1.1.1.2 h.1.1.2 A.2.1 B.1 A.1 (gM g h.2)).imp fun τ H Q q=>?_) (fun _=>rfl) (fun _ _ _ z=>nomatch z);obtain ⟨σ,G,hs',ab,q⟩:=q;refine ⟨σ,G,hs',ab,zA g.mono XN o σ G _ _ (fun w G1 q=>?_) q⟩;simp only [ei] at q;exact q
     |cons _ _=>exact absurd h zzN
    |_=>exact absurd h zzN
  |_=>exact absurd h zzN
theorem s_att (o:IE) (f:Str) (ho:qH Γ p o):qH Γ p (.att o f):=by
 intro M X x L h
 cases x with
 |Attribute l y q =>
  replace h:=bd3 h;simp only [beq_iff_eq] at h;obtain ⟨⟨rfl,h1⟩,h2⟩:=h;refine jE (M:=M) (zA g.mono XN (.att o y)) ((zh8 (ho M X l L h2).1 (uK h1)).imp fun τ H Q q=>?_) (fun _=>rfl) (fun _ _ _ z=>nomatch z);obtain ⟨σ,G,hs,ab,q⟩:=q;refine xO (zA g.mono XN o) hs ab q fun w G1 v H1 g1 hs1 rx a1 q=>?_
  cases w with
  |ref a =>
   cases rx;simp only [attR] at q
   split at q
   .rename_i C fs e;obtain ⟨⟨l,hl,hf⟩,q⟩:=q
    split at q
    .rename_i w' ew;obtain ⟨dx,fs',e',rk⟩:=a1.ins e;obtain ⟨v',ev,rv⟩:=fL rk ew;have c:=g.cl _ hl;exact ⟨a,C,dx,fs',v',rfl,e',by rw [L.fits.K];exact c.1,by rw [L.fits.K];exact c.2 y hf,ev,q _ H1 g1 rv a1⟩
    .exact q.elim
   .exact q.elim
  |_=>exact q.elim
 |_=>exact absurd h zzN
end
section
variable {Γ : Ctx3} {p : Par} (g : Good Γ p)
include g
theorem s_dct (ks:List Str) (es:IEs) (hs:OkA Γ p es):qH Γ p (.dct ks es):=by
 intro M X x L h
 cases x with
 |Dict keys xs q =>
  replace h:=bd5 h;simp only [decide_eq_true_eq,Bool.not_eq_true'] at h;obtain ⟨⟨⟨⟨h1,h2⟩,h3⟩,h4⟩,h5⟩:=h;obtain ⟨all,ek,trs,pp,low⟩:=(hs M X xs L h2).2.2.1 ks keys q h1 h3
  have h0:keys≠[]:=by
   intro z;rw [z] at ek
   cases ks with
   |nil=>cases h5
   |cons _ _=>cases ek
  refine jE (M:=M) (zA g.mono XN (.dct ks es)) ((zgc pp all h3 h0 h4).imp fun τ H Q q=>?_) (fun _=>rfl) (fun _ _ _ z=>nomatch z);intro a ha;obtain ⟨σ,G,hs',ab,q⟩:=q;have gr:xZ X.K H (xB H a (.dK [])):=wH ha;refine low τ _ _ ⟨σ,put G a (.dic []),hs'.mono gr,ab.new ha ⟨[],rfl,rfl⟩,kO g.mono XN es σ _ _ _ (fun ws G1 q vs H1 g1 rs a1=>?_) (q a (ab.free ha))⟩;obtain ⟨q1,q2,q3⟩:=q;obtain ⟨l,e,rl⟩:=a1.dic q1
  have el:l=[]:=by
   cases l with
   |nil=>rfl
   |cons _ _=>cases rl
  subst el;refine ⟨e,(ks.zip vs).map (fun kv=>((Sum.inr kv.1:xV),kv.2)),by rw [List.map_map];rfl,?_,?_⟩
  .rw [zzM,List.length_zip];omega
  .have gr2:xZ X.K H1 (xB H1 a (.dK (nV [] ((ks.zip vs).map fun kv=>((Sum.inr kv.1:xV),kv.2))))):=a1.grow q1;exact q3 _ _ (gr.trans (g1.trans gr2)) rfl (a1.chg q1 ⟨_,rfl,zdD ks (rs.mono gr2) rfl⟩)
 |_=>exact absurd h zzN
theorem cC (tg:ITg) (names:List Str) (caps:List Nat) (it:II) (c:IO) (elt:IE) (hi:OkI Γ p it) (hc:OkO Γ p c) (he:qH Γ p elt) {M:MC} {X:Cx} (L:Lk Γ M p X) {x t ix:Expr} {ifs:List Expr} {sc:Scope}
  (h:(blkB M.sc sc&&rA ix&&gE (names++caps.map (fun j=>M.N.getD j Str.empty))&&(caps.all fun j=>decide (j<M.N.length)&&(sc.names.lookup (M.N.getD j Str.empty)==some .free)) &&
    mI it M ix&&((tgIx tg).all fun i=>decide (i<names.length))&&mG { M with sc:=relS sc M.sc,N:=names++caps.map (fun j=>M.N.getD j Str.empty),own:=fun x=>sc.names.lookup x==some .cell } tg t&&mC c { M with sc:=relS sc M.sc,N:=names++caps.map (fun j=>M.N.getD j Str.empty),own:=fun x=>sc.names.lookup x==some .cell } ifs&&mE elt { M with sc:=relS sc M.sc,N:=names++caps.map (fun j=>M.N.getD j Str.empty),own:=fun x=>sc.names.lookup x==some .cell } x)=true) :
  PI X t ix (lowI X.K (zR Γ XN it))/\BlkSc X sc/\Caps X sc (names++caps.map (fun j=>M.N.getD j Str.empty)) (capV names.length caps) /\
  (∀ X',IsBlock X (names++caps.map (fun j=>M.N.getD j Str.empty)) sc X'->PG X' t (lowG X.K (zT tg)))/\(∀ X',IsBlock X (names++caps.map (fun j=>M.N.getD j Str.empty)) sc X'->PTs X' ifs (kD X.K (zP Γ c))) /\
  (∀ X',IsBlock X (names++caps.map (fun j=>M.N.getD j Str.empty)) sc X'->PE X' x (xR X.K (zF Γ XN elt).e))/\(∀ y,foldedSetIterable ix X.env y=pure y) /\
  ∀ τ H Q,xR X.K (zF Γ XN (.lc tg names caps it c elt)).e τ H Q->tLC (lowI X.K (zR Γ XN it)) (capV names.length caps) (lowG X.K (zT tg)) (kD X.K (zP Γ c)) (xR X.K (zF Γ XN elt).e) τ H Q:=by
 simp only [Bool.and_eq_true] at h;obtain ⟨⟨⟨⟨⟨⟨⟨⟨h1,h2⟩,h3⟩,h4⟩,h5⟩,h6⟩,h7⟩,h8⟩,h9⟩:=h
 have lk:∀ X',IsBlock X (names++caps.map (fun j=>M.N.getD j Str.empty)) sc X'->Lk Γ { M with sc:=relS sc M.sc,N:=names++caps.map (fun j=>M.N.getD j Str.empty),own:=fun x=>sc.names.lookup x==some .cell } p X':=fun X' b =>
  ⟨⟨b.prog.trans L.fits.prog,b.w.trans L.fits.w,b.K.trans L.fits.K,b.mg.trans L.fits.mg,b.base.trans L.fits.base,b.A.trans L.fits.A,b.calm.trans L.fits.calm,b.xe⟩,b.N,b.scope.trans (zfX L.sc),zbw h3,(fun x z=>b.fn x (eq_of_beq z)),(zfG L.sc h1).kind,L.fns,L.gls,L.mts,L.its,L.sxs,L.ixs⟩
 refine ⟨hi M X ix L h5 t,zfG L.sc h1,zdO L.N L.sc h4,fun X' b=>?_,fun X' b=>?_,fun X' b=>?_,bF h2,fun τ H Q q=>?_⟩
 .rw [← b.K];exact sndG (lk X' b) tg t h7
 .rw [← b.K];exact (hc _ X' (lk X' b)).2 ifs h8
 .rw [← b.K];exact (he _ X' x (lk X' b) h9).1
 .obtain ⟨σ,G,hs,ab,q⟩:=q;refine ⟨σ,G,hs,ab,zio g.mono XN it σ G _ _ (fun items stab G1 q J H1 g1 a1 ii=>?_) q⟩;refine ziw (monoC g.mono c) (zA g.mono XN elt) ii a1 (zhd (hs.mono g1) names.length caps) g1 (fun w G' Q' z=>?_) q;refine nH tg w _ G' _ _ (fun σ2 G2 z=>⟨⟨z.2.1,fun i v e=>?_⟩,z.2.2⟩) (zbq tg w _ G' _ (zcG tg w _ G' _ z));have hk:=(za9 e).1;rw [z.1 i (zgq h6 hk)];exact e
theorem s_lc (tg:ITg) (names:List Str) (caps:List Nat) (it:II) (c:IO) (elt:IE) (hi:OkI Γ p it) (hc:OkO Γ p c) (he:qH Γ p elt):qH Γ p (.lc tg names caps it c elt):=by
 intro M X x L h
 cases x with
 |ListComp x gens sc q =>
  match gens,h with
  | [⟨t,ix,ifs,asy⟩],h =>
   have h':=h;replace h:=bd10 h;obtain ⟨⟨⟨⟨⟨⟨⟨⟨⟨h0,h1⟩,h2⟩,h3⟩,h4⟩,h5⟩,h6⟩,h7⟩,h8⟩,h9⟩:=h;replace h0:=of_decide_eq_true h0;subst h0;obtain ⟨c1,c2,c3,c4,c5,c6,c7,c8⟩:=cC g tg names caps it c elt hi hc he L (x:=x) (t:=t) (ix:=ix) (ifs:=ifs) (sc:=sc) (by simp only [Bool.and_eq_true];exact ⟨⟨⟨⟨⟨⟨⟨⟨h1,h2⟩,h3⟩,h4⟩,h5⟩,h6⟩,h7⟩,h8⟩,h9⟩);exact jE (M:=M) (zA g.mono XN (.lc tg names caps it c elt)) ((pe_lc L.fits.calm c1 c2 c3 c4 c5 c6 c7).imp c8) (fun _=>rfl) (fun _ _ _ z=>nomatch z)
 |_=>exact absurd h zzN
theorem s_no:OkO Γ p .no:=by
 intro M X L;refine ⟨fun x h=>?_,fun xs h=>?_⟩
 .cases x with
  |none=>exact zf9.imp fun τ H Q q=>by obtain ⟨σ,G,hs,ab,q⟩:=q;exact q H .refl ab
  |some _=>exact absurd h zzN
 .cases xs with
  |nil=>exact zf1.imp fun τ H Q q=>by obtain ⟨σ,G,hs,ab,q⟩:=q;exact q H .refl ab
  |cons _ _=>exact absurd h zzN
theorem zhE (e:IE) (he:qH Γ p e):OkO Γ p (.yes e):=by
 intro M X L;refine ⟨fun x h=>?_,fun xs h=>?_⟩
 .cases x with
  |none=>exact absurd h zzN
  |some x =>
   skip
   refine (zf8 (he M X x L h).1).imp fun τ H Q q=>?_;obtain ⟨σ,G,hs,ab,q⟩:=q;refine xO (zA g.mono XN e) hs ab q fun w G1 v H1 g1 hs1 rx a1 q=>?_
   cases w with
   |int i=>cases rx;exact ⟨i,rfl,q H1 g1 a1⟩
   |_=>exact q.elim
 .match xs,h with
  | [x],h=>exact zf0 (he M X x L (by simpa only [mC] using h)).2.1
theorem zhG:OkA Γ p .nil:=by
 intro M X xs L h
 cases xs with
 |cons _ _=>exact absurd h zzN
 |nil =>
  refine ⟨zic.imp fun τ H Q q=>by obtain ⟨σ,G,hs,ab,q⟩:=q;exact q [] H .refl rfl ab,rfl,fun ks keys pos hk hl=>?_,trivial⟩
  cases keys with
  |cons _ _=>cases hl
  |nil =>
   cases ks with
   |cons _ _=>cases hk
   |nil =>
    refine ⟨rfl,rfl,[],zf7,fun τ H Q q=>?_⟩;obtain ⟨σ,G,hs,ab,q⟩:=q;exact q [] H .refl rfl ab
theorem zfl (e:IE) (es:IEs) (he:qH Γ p e) (hs:OkA Γ p es):OkA Γ p (.cons e es):=by
  intro M X xs L h
  cases xs with
  |nil=>exact absurd h zzN
  |cons x xs =>
    simp only [mA,Bool.and_eq_true] at h;obtain ⟨⟨h1,h2⟩,h3⟩:=h;have A:=he M X x L h2;have B:=hs M X xs L h3;refine ⟨(zgg A.1 B.1 (vZ h1)).imp fun τ H Q q=>?_,by rw [List.all_cons,h1,B.2.1];rfl,fun ks keys pos hk hl=>?_,⟨zA g.mono XN e,A.1,B.2.2.2⟩⟩
    . obtain ⟨σ,G,hs',ab,q⟩:=q
      refine xO (zA g.mono XN e) hs' ab q fun w G1 v H1 g1 hs1 rx a1 q=>?_;refine dH (kO g.mono XN es) hs1 a1 q fun ws G2 vs H2 g2 hs2 rs a2 q=>?_;exact q _ H2 (g1.trans g2) ⟨v,vs,rfl,rx.mono g2,rs⟩ a2
    . cases ks with
      |nil =>
        cases keys with
        |nil=>simp at hl
        |cons _ _=>simp [keyB] at hk
      |cons k ks =>
       cases keys with
       |nil=>cases hk
       |cons ko keys =>
        obtain ⟨y,ky,qy,rfl⟩:∃ y ky qy,ko=some (.Constant (.str y) ky qy):=by
          cases ko with
          |none=>cases hk
          |some ke =>
            cases ke with
            |Constant c ky qy =>
              cases c with
              |str y=>exact ⟨y,ky,qy,rfl⟩
              |_=>cases hk
            |_=>cases hk
        simp only [keyB,Bool.and_eq_true,beq_iff_eq] at hk;obtain ⟨rfl,hk⟩:=hk;obtain ⟨all,ek,trs,pp,low⟩:=B.2.2.1 ks keys pos hk (by simpa using hl);refine ⟨by simpa using all,by simpa using ek,(tC (.str k),xR X.K (zF Γ XN e).e)::trs,zer zft A.1 pp,fun τ H Q q=>?_⟩;obtain ⟨σ,G,hs',ab,q⟩:=q;show xR X.K (zF Γ XN e).e τ H _;refine xO (zA g.mono XN e) hs' ab q fun w G1 v H1 g1 hs1 rx a1 q=>?_;refine low τ H1 _ ⟨σ,G1,hs1,a1,kO g.mono XN es σ G1 _ _ (fun ws G2 q vs H2 g2 rs a2=>?_) q⟩;exact q (v::vs) H2 (g1.trans g2) ⟨v,vs,rfl,rx.mono g2,rs⟩ a2
theorem zhF (e:IE) (he:qH Γ p e):OkI Γ p (.val e):=fun M X x L h tg=>zhZ (zA g.mono XN e) (he M X x L h).1
theorem zhI (i:Nat) (es:IEs) (hs:OkA Γ p es):OkI Γ p (.blt i es):=by
  intro M X x L h tg
  cases x with
  |Call fn xs kw q =>
    cases fn with
    |Name y qy =>
     cases kw with
     |nil =>
      replace h:=bd3 h;have gl:=bH L.sc h.1.2;have hi:=qT h.1.1;rw [← L.its] at hi;obtain ⟨e,ei,rfl⟩:=sT hi;have A:=hs M X xs L h.2;refine (g.it e (wB ei) X L.fits gl.1 tg xs (zU Γ XN es) qy q (kO g.mono XN es) A.2.1 A.1 (gM g h.2) gl.2.1 gl.2.2).imp fun τ H R q=>?_;obtain ⟨σ,G,hs',ab,q⟩:=q;refine ⟨σ,G,hs',ab,kO g.mono XN es σ G _ _ (fun ws G1 q=>?_) q⟩;simp only [ei] at q;exact q
     |cons _ _=>exact absurd h zzN
    |_=>exact absurd h zzN
  |_=>exact absurd h zzN
theorem zfk (i:Nat) (es:IEs) (hs:OkA Γ p es):OkI Γ p (.spc i es):=by
 intro M X x L h tg;simp only [mI] at h
 split at h
 .rename_i m hm
  split at h
  .rename_i xs hx;rw [← L.ixs] at hm;obtain ⟨k,ek,rfl⟩:=sT hm;have A:=hs M X xs L h;refine (g.ix k (wB ek) X L.fits tg x xs (semL Γ es) (by rw [L.sc];exact hx) A.2.2.2 A.2.1 (by rw [← tV];exact A.1)).imp fun τ H R q=>?_;obtain ⟨σ,G,hs',ab,q⟩:=q;refine ⟨σ,G,hs',ab,?_⟩;rw [← tV];refine kO g.mono XN es σ G _ _ (fun ws G1 q=>?_) q;simp only [ek] at q;exact q
  .exact absurd h zzN
 .exact absurd h zzN
theorem tW (e:IE):qH Γ p e :=
 IE.rec (motive_1:=qH Γ p) (motive_2:=OkO Γ p) (motive_3:=OkA Γ p) (motive_4:=OkI Γ p) (motive_5:=fun _=>True) (motive_6:=fun _=>True)
  (s_var g) (s_con g) (s_glb g) (s_bin g) (s_neg g) (s_not g) (s_cmp g) (s_chn g) (s_and g) (s_or g) (s_ite g) (s_ix g) (s_sl g) (s_tup g) (s_lst g) (s_dct g) (zhH g) (s_mth g) (s_att g)
  (fun tg names caps it c elt _ hi hc he=>s_lc g tg names caps it c elt hi hc he) (s_spc g) (s_ch3 g) (s_no g) (zhE g) (zhG g) (zfl g) (zhF g) (zhI g) (zfk g) (fun _=>trivial) (fun _ _=>trivial) trivial (fun _ _ _ _=>trivial) e
theorem sndA (es:IEs):OkA Γ p es:=match es with
 | .nil=>zhG g
 | .cons e es=>zfl g e es (tW g e) (sndA es)
theorem sndI (it:II):OkI Γ p it:=match it with
 | .val e=>zhF g e (tW g e)
 | .blt i es=>zhI g i es (sndA g es)
 | .spc i es=>zfk g i es (sndA g es)
theorem sndO (o:IO):OkO Γ p o:=match o with
 | .no=>s_no g
 | .yes e=>zhE g e (tW g e)
end
end L3
namespace L3
open PySem PySem.Spec PyProof.Rows L2
theorem zgJ {i:Nat} {a:IE} {M:MC} {x:Stmt} (h:mS (.asg i a) M x=true):∃ y py v q,x=.Assign [.Name y py] v q/\(M.N[i]?==some y)=true/\locB M y=true/\mE a M v=true:=by
 cases x with
 |Assign ts v q =>
  cases ts with
  |nil=>exact absurd h zzN
  |cons t r =>
   cases r with
   |cons _ _=>cases t<;>exact absurd h zzN
   |nil =>
    cases t with
    |Name y py =>
     replace h:=bd3 h;exact ⟨y,py,v,q,rfl,h.1.1,h.1.2,h.2⟩
    |_=>exact absurd h zzN
 |_=>exact absurd h zzN
theorem zeR {ts:ITgs} {a:IE} {M:MC} {x:Stmt} (h:mS (.asgT ts a) M x=true):∃ es k qt v q,x=.Assign [.Tuple es k qt] v q/\nY v=true/\zeB v=true/\mGs M ts es=true/\mE a M v=true:=by
 cases x with
 |Assign ts v q =>
  cases ts with
  |nil=>exact absurd h zzN
  |cons t r =>
   cases r with
   |cons _ _=>cases t<;>exact absurd h zzN
   |nil =>
    cases t with
    |Tuple es k qt =>
     replace h:=bd4 h;exact ⟨es,k,qt,v,q,rfl,h.1.1.1,h.1.1.2,h.1.2,h.2⟩
    |_=>exact absurd h zzN
 |_=>exact absurd h zzN
theorem zeS {i j:Nat} {a:IE} {M:MC} {x:Stmt} (h:mS (.asgS i j a) M x=true):∃ t v q,x=.Assign [t] v q/\nY v=true/\zeB v=true/\zea M i j t=true/\mE a M v=true:=by
 cases x with
 |Assign ts v q =>
  cases ts with
  |nil=>exact absurd h zzN
  |cons t r =>
   cases r with
   |cons _ _=>exact absurd h zzN
   |nil =>
    replace h:=bd4 h;exact ⟨t,v,q,rfl,h.1.1.1,h.1.1.2,h.1.2,h.2⟩
 |_=>exact absurd h zzN
theorem zfQ {M:MC} {i j:Nat} {t:Expr} (h:zea M i j t=true):∃ x px y py p2 k q,t=.Tuple [.Name x px,.Starred (.Name y py) p2] k q/\((M.N[i]?==some x)=true/\locB M x=true)/\((M.N[j]?==some y)=true/\locB M y=true):=by
 unfold zea at h
 split at h
 .exact ⟨_,_,_,_,_,_,_,rfl,rL (rL h).1,rL (rL h).2⟩
 .exact absurd h zzN
theorem zeT {o i a:IE} {M:MC} {x:Stmt} (h:mS (.asgI o i a) M x=true):∃ l r qs v q,x=.Assign [.Subscript l r qs] v q/\nY v=true/\hV r=true/\mE o M l=true/\mE i M r=true/\mE a M v=true:=by
 cases x with
 |Assign ts v q =>
  cases ts with
  |nil=>exact absurd h zzN
  |cons t r =>
   cases r with
   |cons _ _=>cases t<;>exact absurd h zzN
   |nil =>
    cases t with
    |Subscript l r qs =>
     replace h:=bd5 h;exact ⟨l,r,qs,v,q,rfl,h.1.1.1.1,h.1.1.1.2,h.1.1.2,h.1.2,h.2⟩
    |_=>exact absurd h zzN
 |_=>exact absurd h zzN
theorem zeU {o a:IE} {f:Str} {M:MC} {x:Stmt} (h:mS (.asgA o f a) M x=true):∃ l qs v q,x=.Assign [.Attribute l f qs] v q/\nY v=true/\mE o M l=true/\mE a M v=true:=by
 cases x with
 |Assign ts v q =>
  cases ts with
  |nil=>exact absurd h zzN
  |cons t r =>
   cases r with
   |cons _ _=>cases t<;>exact absurd h zzN
   |nil =>
    cases t with
    |Attribute l y qs =>
     replace h:=bd4 h;simp only [beq_iff_eq] at h;obtain ⟨⟨⟨rfl,h2⟩,h3⟩,h4⟩:=h;exact ⟨l,qs,v,q,rfl,h2,h3,h4⟩
    |_=>exact absurd h zzN
 |_=>exact absurd h zzN
theorem ziU {a:IE} {M:MC} {x:Stmt} (h:mS (.ex a) M x=true):∃ v q,x=.Expr v q/\nY v=true/\mE a M v=true:=by
 cases x with
 |Expr v q =>
  replace h:=rL h;exact ⟨v,q,rfl,h.1,h.2⟩
 |_=>exact absurd h zzN
theorem zgA {a:IE} {M:MC} {x:Stmt} (h:mS (.ret a) M x=true):∃ v q,x=.Return (some v) q/\mE a M v=true:=by
 cases x with
 |Return v q =>
  cases v with
  |none=>exact absurd h zzN
  |some v=>exact ⟨v,q,rfl,h⟩
 |_=>exact absurd h zzN
theorem zeO {M:MC} {x:Stmt} (h:mS .retN M x=true):∃ q,x=.Return none q:=by
 cases x with
 |Return v q =>
  cases v with
  |none=>exact ⟨q,rfl⟩
  |some v=>exact absurd h zzN
 |_=>exact absurd h zzN
theorem zeP {M:MC} {x:Stmt} (h:mS .pass M x=true):∃ q,x=.Pass q:=by
 cases x with
 |Pass q=>exact ⟨q,rfl⟩
 |_=>exact absurd h zzN
theorem zgI {M:MC} {x:Stmt} (h:mS .brk M x=true):∃ q,x=.Break q:=by
 cases x with
 |Break q=>exact ⟨q,rfl⟩
 |_=>exact absurd h zzN
theorem zgE {M:MC} {x:Stmt} (h:mS .cnt M x=true):∃ q,x=.Continue q:=by
 cases x with
 |Continue q=>exact ⟨q,rfl⟩
 |_=>exact absurd h zzN
theorem zgC {c:IE} {a b:ISs} {M:MC} {x:Stmt} (h:mS (.ite c a b) M x=true):∃ t y z q,x=.If t y z q/\mE c M t=true/\kF a M y=true/\kF b M z=true:=by
 cases x with
 |If t y z q =>
  replace h:=bd3 h;exact ⟨t,y,z,q,rfl,h.1.1,h.1.2,h.2⟩
 |_=>exact absurd h zzN
theorem zgz {c:IE} {b:ISs} {M:MC} {x:Stmt} (h:mS (.whl c b) M x=true):∃ t y q,x=.While t y [] q/\mE c M t=true/\kF b M y=true:=by
 cases x with
 |While t y z q =>
  cases z with
  |nil =>
   replace h:=rL h;exact ⟨t,y,q,rfl,h.1,h.2⟩
  |cons _ _=>exact absurd h zzN
 |_=>exact absurd h zzN
theorem zgD {tg:ITg} {it:II} {b:ISs} {M:MC} {x:Stmt} (h:mS (.for tg it b) M x=true):∃ t y z q,x=.For t y z [] q/\rA y=true/\mG M tg t=true/\mI it M y=true/\kF b M z=true:=by
 cases x with
 |For t y z e q =>
  cases e with
  |nil =>
   replace h:=bd4 h;exact ⟨t,y,z,q,rfl,h.1.1.1,h.1.1.2,h.1.2,h.2⟩
  |cons _ _=>exact absurd h zzN
 |_=>exact absurd h zzN
theorem zgB {M:MC} {x:List Stmt} (h:kF .nil M x=true):x=[]:=by
 cases x with
 |nil=>rfl
 |cons _ _=>exact absurd h zzN
theorem zeQ {s:IS} {ss:ISs} {M:MC} {x:List Stmt} (h:kF (.cons s ss) M x=true):∃ y ys,x=y::ys/\mS s M y=true/\kF ss M ys=true:=by
 cases x with
 |nil=>exact absurd h zzN
 |cons y ys =>
  replace h:=rL h;exact ⟨y,ys,rfl,h.1,h.2⟩
end L3
namespace L2
open PySem PySem.Spec PyProof.Rows
theorem alive {P:Program} {w:World} {H:Hp} {h:Heap} {a:Addr} {o:HO} (x:xD P w H h a o):∃ u,h.get? a=some u:=by
 cases o with
 |lst _=>obtain ⟨_,_,_,_,e⟩:=x;exact ⟨_,e⟩
 |tup _=>obtain ⟨_,_,_,u,e,_⟩:=x;exact ⟨u,e⟩
 |dK _=>obtain ⟨_,_,_,_,u,_,_,e,_⟩:=x;exact ⟨u,e⟩
 |dT _=>obtain ⟨_,_,_,_,u,_,_,e,_⟩:=x;exact ⟨u,e⟩
 |set _ _=>obtain ⟨u,_,_,_,e,_⟩:=x;exact ⟨u,e⟩
 |ins _ _ _=>exact ⟨_,x.2.2.2.1⟩
 |own _=>exact x
 |xd _=>obtain ⟨_,⟨u,_,_,e,_⟩,_⟩:=x;exact ⟨u,e⟩
 |rng _ _=>obtain ⟨_,_,_,e⟩:=x;exact ⟨_,e⟩
 |frz _ _=>exact ⟨_,x.1⟩
 |tbl _=>exact ⟨_,x⟩
 |met _ _=>exact ⟨_,x⟩
 |ext _=>exact x.2.1
def zcV (h:Heap) (L:Addr):List (Addr×Obj):=(List.range h.objs.size).filterMap fun b=>if b=L then none else (h.get? b).map fun o=>(b,o)
theorem sA {h:Heap} {L b:Addr} {o:Obj}:(b,o)∈zcV h L↔b≠L/\h.get? b=some o:=by
 unfold zcV;rw [List.mem_filterMap]
 constructor
 .rintro ⟨c,_,e⟩
  split at e
  .cases e
  .rename_i hc;obtain ⟨o',e1,e2⟩:=Option.map_eq_some_iff.mp e;cases e2;exact ⟨hc,e1⟩
 .rintro ⟨hb,e⟩;exact ⟨b,List.mem_range.mpr (Heap.lt_size e),by rw [if_neg hb,e];rfl⟩
section
variable {X : Cx} {pos : Pos}
def gStar (K:PySem.W.Frag) (t:TGs):TG:=fun v σ H Q=>∃ a x xs,v=.ref a/\pF K H a (x::xs)/\xs.length<=1000/\∀ D,H D=none->t [x,.ref D] σ (xB H D (.lst xs)) Q
theorem zga {e1 e2:Expr} {k:Nat} {p2:Pos} {t:TGs} (hc:X.calm=true) (h:PGs X [e1,e2] t) (h1:assignEach [e1,.Starred e2 p2] X.env=[(false,assign e1 X.env),(true,assign e2 X.env)])
  (h2:assignEach [e1,e2] X.env=[(false,assign e1 X.env),(false,assign e2 X.env)]):PG X (.Tuple [e1,.Starred e2 p2] k pos) (gStar X.K t):=by
 intro pins s σ H v u Q I r hw;obtain ⟨a,x,xs,e,hq,hl,hw⟩:=hw;subst e;cases r;obtain ⟨its,rv,ht,hz⟩:=I.tuple hq
 cases rv with
 | @cons _ u _ us r0 rs =>
 have hus:us.length=xs.length:=rs.length.symm;obtain ⟨m,hn,_⟩:=id I.loc;have F:Fr (default:Heap) X.env.locals s.heap m:=⟨hn,fun b o e=>(by cases e),Nat.zero_le _⟩
 have N:News (default:Heap) X.env.locals s.heap (zcV s.heap X.env.locals):=fun p hp=>by
  obtain ⟨b,o⟩:=p;have:=sA.mp hp;exact ⟨this.2,this.1,rfl⟩
 refine PySem.W.kun_assignT (n:=2) (i:=1) (first:=[u]) (mids:=us) (lasts:=[]) F N ht (I.ok.hd hc) (by rw [h1];rfl) (by rw [h1];rfl) (by decide) (by simp) (by simp;omega) (by simp) (by simp) (by simp) fun D h' tk F' N' lt=>?_;have get:∀ b o,b≠X.env.locals->s.heap.get? b=some o->h'.get? b=some o:=fun b o hb e=>(N' (b,o) (List.mem_cons_of_mem _ (sA.mpr ⟨hb,e⟩))).1;obtain ⟨hD,nD,_⟩:=N' (D,{ cls:=.type "list", data:=.seq us.toArray 0 }) zzT
 have no:s.heap.get? D=none:=by
  cases q:s.heap.get? D with
  |none=>rfl
  |some o=>exact absurd (lt (D,o) (sA.mpr ⟨nD,q⟩)) (Nat.lt_irrefl _)
 have HD:H D=none:=by
  cases q:H D with
  |none=>rfl
  |some o=>obtain ⟨u',e'⟩:=alive (I.hok D o q);rw [no] at e';cases e'
 have nl:∀ b o,H b=some o->b≠X.env.locals:=fun b o e z=>by rw [z,I.free] at e;cases e
 have ne:∀ b o,H b=some o->b≠D:=fun b o e=>yI e HD
 have hok:sN X.prog X.w (xB H D (.lst xs)) h':=fun b o e=>by
  by_cases hb:b=D
  .subst hb;rw [qY] at e;cases e;exact ⟨by rw [sizeLine_eq];omega,us,0,rs,hD⟩
  .rw [yW hb] at e;refine (I.hok b o e).stay (fun c v hc q=>get c v ?_ q) (fun c q=>by rw [yW (ne c _ q)];exact q) fun c ys q=>by rw [yW (ne c _ q)];exact q
   rcases hc with z|z
   .rw [z];exact nl b o e
   .exact nl c _ z
 have I1:Inv X pins σ (xB H D (.lst xs)) { s with heap:=h',toks:=tk } :=
  I.step (g':=s.gens) (d':=s.drawn) (ch:=[]) (fun _ z=>nomatch z) (fun b o hb _ _ e _=>get b o hb e) (fun b o hb _ _ e _=>⟨o.slots,get b o hb e⟩)
   (fun b o _ e n=>by rw [yW (fun z=>by rw [z,no] at e;cases e)];exact n)
   (fun b o _ e=>by
    by_cases hb:b=X.env.locals
    .obtain ⟨o',_,_,q,_⟩:=F'.ns;exact ⟨o',by rw [hb];exact q⟩
    .exact ⟨o,get b o hb e⟩)
   (fun b ys e=>by rw [yW (ne b _ e)];exact e) (fun b o u e=>by rw [yW (ne b _ e)];exact e) (fun b ps e=>⟨#[],by rw [yW (ne b _ e),e];simp⟩)
   (fun m' hm=>by rw [hm.eq_nsMap,← hn.eq_nsMap];exact F'.ns) hok I.bare
 have:=h pins _ σ _ [x,.ref D] [u,.ref D] Q I1 (.cons r0 (.cons rfl .nil)) (hw D HD);rw [h2] at this;rw [h1];exact this
end
end L2
namespace L3
open PySem PySem.Spec PyProof.Rows L2 PySem.SeqAt
theorem zbs {K:yG} {H:Hp} {f:Str} {w:W} {v:V} (q:wQ K H w v):∀ {l:List (Str×W)} {l':List (Str×V)},yN K H l l'->yN K H (zcO f w l) (uZ f v l')
 | [],_,h=>by rw [show _=[] from h];exact ⟨v,[],rfl,q,rfl⟩
 | (n,u)::r,_,⟨x,t,e,h,hr⟩=>by
  subst e;unfold zcO uZ
  by_cases hn:n=f
  .rw [if_pos hn,if_pos hn];exact ⟨v,t,rfl,q,hr⟩
  .rw [if_neg hn,if_neg hn];exact ⟨x,_,rfl,h,zbs q hr⟩
section
variable {Γ : Ctx3} {p : Par} (g : Good Γ p)
def OkS (Γ:Ctx3) (p:Par) (s:IS):Prop:=∀ M X x,Lk Γ M p X->mS s M x=true->PS X x (lowS X.K (zQ Γ XN s))
def OkSs (Γ:Ctx3) (p:Par) (s:ISs):Prop:=∀ M X x,Lk Γ M p X->kF s M x=true->PSs X x (lowS X.K (zH Γ XN s))
include g
theorem t_asg (i:Nat) (e:IE):OkS Γ p (.asg i e):=by
 intro M X x L h;obtain ⟨y,py,v,q,rfl,h1,h2,h3⟩:=zgJ h
 .
  have lo:=zbC L h2;have hN:=qT h1;rw [← L.N] at hN;have nd:X.N.Nodup:=L.N▸L.nd
  have low:∀ (te:TE),(∀ τ H Q,xR X.K (zF Γ XN e).e τ H Q->te τ H Q)->∀ D τ H,lowS X.K (zQ Γ XN (.asg i e)) D τ H->tAsg te (zeX i) D τ H:=fun te k D τ H hq=>by
   obtain ⟨σ,G,D3,hs,ab,f,hq⟩:=hq;refine k _ _ _ ⟨σ,G,hs,ab,zA g.mono XN e σ G _ _ (fun w G' hq v' H' g' rp ab'=>?_) hq⟩;exact f.nx _ G' _ H' g' ((hs.mono g').set rp i) ab' hq
  by_cases hl:nY v=true
  .exact (zfr (i:=i) nd hN lo.1 (tW g e M X v L h3).1 (vJ hl) lo.2).imp (low _ fun _ _ _ z=>z)
  .cases v with
   |ListComp x gens sc qq =>
    cases e with
    |lc tg names caps it c elt =>
     match gens,h3 with
     | [⟨t,ix,ifs,asy⟩],h3 =>
      have h3':=h3;replace h3:=bd10 h3;obtain ⟨⟨⟨⟨⟨⟨⟨⟨⟨z0,z1⟩,z2⟩,z3⟩,z4⟩,z5⟩,z6⟩,z7⟩,z8⟩,z9⟩:=h3;replace z0:=of_decide_eq_true z0;subst z0;have cond:∃ b,swapsWith (.ListComp x [⟨t,ix,ifs,0⟩] sc qq) (some (.Name y py)) q.line X.env=pure b:=⟨_,rfl⟩;obtain ⟨b,hb⟩:=cond
      cases b with
      |false=>exact (zfr (i:=i) nd hN lo.1 (tW g _ M X _ L h3').1 hb lo.2).imp (low _ fun _ _ _ z=>z)
      |true =>
       obtain ⟨c1,c2,c3,c4,c5,c6,c7,c8⟩:=cC g tg names caps it c elt (sndI g it) (sndO g c) (tW g elt) L (x:=x) (t:=t) (ix:=ix) (ifs:=ifs) (sc:=sc) (by simp only [Bool.and_eq_true];exact ⟨⟨⟨⟨⟨⟨⟨⟨z1,z2⟩,z3⟩,z4⟩,z5⟩,z6⟩,z7⟩,z8⟩,z9⟩);exact (zen (i:=i) L.fits.calm c1 c2 c3 c4 c5 c6 nd hN lo.1 lo.2 hb c7).imp (low _ c8)
    |_=>exact absurd h3 zzN
   |SetComp _ _ _ _=>cases e<;>exact absurd h3 zzN
   |DictComp _ _ _ _ _=>cases e<;>exact absurd h3 zzN
   |_=>exact absurd rfl hl
theorem zhn (ts:ITgs) (e:IE):OkS Γ p (.asgT ts e):=by
 intro M X x L h;obtain ⟨es,k,qt,v,q,rfl,h1,h2,h3,h4⟩:=zeR h
 .
  have pg:=sndG L (.tup ts) (.Tuple es k qt) h3;refine (zfs (tW g e M X v L h4).1 pg (by unfold swapsWithSole;exact vJ h1) (by cases v<;>first|rfl|cases h2) rfl).imp fun D τ H hq=>?_;obtain ⟨σ,G,D3,hs,ab,f,hq⟩:=hq;refine ⟨σ,G,hs,ab,zA g.mono XN e σ G _ _ (fun w G' hq v' H' g' rp ab'=>?_) hq⟩;exact ⟨w,σ,G',rp,hs.mono g',ab',nH _ w σ G' _ _ (fun σ2 G2 hq τ2 H2 g2 hs2 a2=>f.nx σ2 G2 τ2 H2 (g'.trans g2) hs2 a2 hq) hq⟩
theorem zho (i j:Nat) (e:IE):OkS Γ p (.asgS i j e):=by
 intro M X x L h;obtain ⟨t,v,q,rfl,h1,h2,h3,h4⟩:=zeS h;obtain ⟨y,py,z,pz,p2,k,qt,rfl,hi,hj⟩:=zfQ h3;have l1:=zbC L hi.2;have l2:=zbC L hj.2;have pg:=zga (k:=k) (p2:=p2) (pos:=qt) L.fits.calm (gI (zaQ (pos:=py) (i:=i) (L.N▸L.nd) (by rw [L.N];exact qT hi.1) l1.1 l1.2) (gI (zaQ (pos:=pz) (i:=j) (L.N▸L.nd) (by rw [L.N];exact qT hj.1) l2.1 l2.2) zcS)) rfl rfl;refine (zfs (tW g e M X v L h4).1 pg (by unfold swapsWithSole;exact vJ h1) (by cases v<;>first|rfl|cases h2) rfl).imp fun D τ H hq=>?_;obtain ⟨σ,G,D3,hs,ab,f,hq⟩:=hq;refine xO (zA g.mono XN e) hs ab hq fun w G1 v1 H1 g1 hs1 r1 a1 hq=>?_
 cases w with
 |tup ws =>
  cases ws with
  |nil=>exact hq.elim
  |cons x r =>
   obtain ⟨a,vs,rfl,sq,rs⟩:=r1;obtain ⟨v0,vr,rfl,rx,rr⟩:=rs;refine ⟨a,v0,vr,rfl,sq,by rw [rr.length];exact hq.1,fun p hp=>⟨v0,[.ref p],rfl,.ref p,[],rfl,rfl,?_⟩⟩;have gr:=wH (K:=X.K) (u:=.lst vr) hp;have ab2:xC X.K (xB H1 p (.lst vr)) (put G1 p (.lst r)):=a1.new hp ⟨vr,rfl,rr.mono gr⟩;exact f.nx _ _ _ _ (g1.trans gr) (((hs1.mono gr).set (rx.mono gr) i).set (show wQ X.K _ (.ref p) (.ref p) from rfl) j) ab2 (hq.2 p (a1.free hp))
 |_=>exact hq.elim
theorem zhp (o i e:IE):OkS Γ p (.asgI o i e):=by
 intro M X x L h;obtain ⟨l,r,qs,v,q,rfl,h1,h2,h3,h4,h5⟩:=zeT h
 .
  have pe:=(tW g e M X v L h5).1;have po:=(tW g o M X l L h3).1;have pi:=(tW g i M X r L h4).1;intro pins s τ H D I hq;obtain ⟨σ,G,D3,hs,ab,f,hq⟩:=hq
  have q1:xR X.K (zF Γ XN e).e τ H fun v H1=>xR X.K (zF Γ XN o).e τ H1 fun ov H2=>xR X.K (zF Γ XN i).e τ H2 fun iv H3=>zfx X.K ov iv v H3 fun H4=>D.nx τ H4:=by
   refine xO (zA g.mono XN e) hs ab hq fun w G1 v1 H1 g1 hs1 r1 a1 hq=>?_;refine xO (zA g.mono XN o) hs1 a1 hq fun x G2 v2 H2 g2 hs2 r2 a2 hq=>?_;refine xO (zA g.mono XN i) hs2 a2 hq fun y G3 v3 H3 g3 hs3 r3 a3 hq=>?_;exact ⟨x,y,w,G3,r2.mono g3,r3,(r1.mono g2).mono g3,a3,zcE (fun G4 hq H4 g4 a4=>f.nx σ G4 τ H4 (g1.trans (g2.trans (g3.trans g4))) (hs3.mono g4) a4 hq) hq⟩
  refine wpAny_Assign_Subscript (xT (pe pins s τ H _ I q1) fun u1 s1 ⟨v1,H1,I1,r1,q1⟩=>xT (po pins s1 τ H1 _ I1 q1) fun u2 s2 ⟨v2,H2,I2,r2,q2⟩=>xT (pi pins s2 τ H2 _ I2 q2) fun u3 s3 ⟨v3,H3,I3,r3,q3⟩=>?_) (vJ h1);exact xT (zhD (pU g L) pins s3 τ H3 v2 v3 v1 u2 u3 u1 _ I3 r2 r3 r1 q3) fun _ s4 ⟨H4,I4,q4⟩=>⟨τ,H4,I4,q4⟩
theorem zhq (o:IE) (f:Str) (e:IE):OkS Γ p (.asgA o f e):=by
 intro M X x L h;obtain ⟨l,qs,v,q,rfl,h2,h3,h4⟩:=zeU h
 .
  refine (zhW (tW g o M X l L h3).1 (tW g e M X v L h4).1 (vJ h2)).imp fun D τ H hq=>?_;obtain ⟨σ,G,D3,hs,ab,fi,hq⟩:=hq;refine xO (zA g.mono XN e) hs ab hq fun w G1 v1 H1 g1 hs1 r1 a1 hq=>?_;refine xO (zA g.mono XN o) hs1 a1 hq fun x G2 v2 H2 g2 hs2 r2 a2 hq=>?_
  cases x with
  |ref a =>
   cases r2;simp only [satR] at hq
   split at hq
   .rename_i C fs e2;obtain ⟨⟨l2,hl,hf⟩,hlen,hq⟩:=hq;obtain ⟨dx,fs',e',rk⟩:=a2.ins e2;have c:=g.cl _ hl;refine ⟨a,C,dx,fs',rfl,e',by rw [L.fits.K];exact c.1,by rw [L.fits.K];exact c.2 f hf,by rw [rk.length];exact hlen,?_⟩;have gr:=a2.grow (u:=.ins C dx (uZ f v1 fs')) e2;exact fi.nx σ _ τ _ (g1.trans (g2.trans gr)) (hs2.mono gr) (a2.chg (o:=.ins C (zcO f w fs)) e2 ⟨dx,_,rfl,zbs ((r1.mono g2).mono gr) (rk.mono gr)⟩) hq
   .exact hq.elim
  |_=>exact hq.elim
theorem tY:OkS Γ p .retN/\OkS Γ p .pass/\OkS Γ p .brk/\OkS Γ p .cnt/\OkS Γ p .dead:=by
 refine ⟨fun M X x L h=>?_,fun M X x L h=>?_,fun M X x L h=>?_,fun M X x L h=>?_,fun M X x L h=>?_⟩
 .obtain ⟨q,rfl⟩:=zeO h;exact zf4.imp fun D τ H hq=>by obtain ⟨σ,G,D3,hs,ab,f,hq⟩:=hq;exact f.rt .non G _ H .refl (show wQ X.K H .non .non from rfl) ab hq
 .obtain ⟨q,rfl⟩:=zeP h;exact zf5.imp fun D τ H hq=>by obtain ⟨σ,G,D3,hs,ab,f,hq⟩:=hq;exact f.nx σ G τ H .refl hs ab hq
 .obtain ⟨q,rfl⟩:=zgI h;exact zep.imp fun D τ H hq=>by obtain ⟨σ,G,D3,hs,ab,f,hq⟩:=hq;exact f.bk σ G τ H .refl hs ab hq
 .obtain ⟨q,rfl⟩:=zgE h;exact zaN.imp fun D τ H hq=>by obtain ⟨σ,G,D3,hs,ab,f,hq⟩:=hq;exact f.ct σ G τ H .refl hs ab hq
 .exact zeo.imp fun D τ H hq=>by obtain ⟨σ,G,D3,hs,ab,f,hq⟩:=hq;exact hq.elim
theorem t_ex (e:IE):OkS Γ p (.ex e):=by
 intro M X x L h;obtain ⟨v,q,rfl,hh⟩:=ziU h
 .have h:=hh;refine (zf6 (tW g e M X v L h.2).1 (vJ h.1)).imp fun D τ H hq=>?_;obtain ⟨σ,G,D3,hs,ab,f,hq⟩:=hq;exact xO (zA g.mono XN e) hs ab hq fun w G1 v1 H1 g1 hs1 r1 a1 hq=>f.nx σ G1 τ H1 g1 hs1 a1 hq
theorem t_ret (e:IE):OkS Γ p (.ret e):=by
 intro M X x L h;obtain ⟨v,q,rfl,hh⟩:=zgA h
 .have h:=hh;refine (zhU (tW g e M X v L h).1).imp fun D τ H hq=>?_;obtain ⟨σ,G,D3,hs,ab,f,hq⟩:=hq;exact xO (zA g.mono XN e) hs ab hq fun w G1 v1 H1 g1 hs1 r1 a1 hq=>f.rt w G1 v1 H1 g1 r1 a1 hq
theorem t_ite (c:IE) (a b:ISs) (ha:OkSs Γ p a) (hb:OkSs Γ p b):OkS Γ p (.ite c a b):=by
 intro M X x L h;obtain ⟨t,y,z,q,rfl,hh⟩:=zgC h
 .have h:=hh;refine (ps_if (tW g c M X t L h.1).2.1 (ha M X y L h.2.1) (hb M X z L h.2.2)).imp fun D τ H hq=>?_;obtain ⟨σ,G,D3,hs,ab,f,hq⟩:=hq;refine dI (pY g.mono XN c) hs ab hq fun k G1 H1 g1 hs1 a1 hq=>?_
  split
  .rename_i hk;rw [if_pos hk] at hq;exact ⟨σ,G1,D3,hs1,a1,f.grow g1,hq⟩
  .rename_i hk;rw [if_neg hk] at hq;exact ⟨σ,G1,D3,hs1,a1,f.grow g1,hq⟩
theorem t_whl (c:IE) (b:ISs) (hb:OkSs Γ p b):OkS Γ p (.whl c b):=by
 intro M X x L h;obtain ⟨t,y,q,rfl,hh⟩:=zgz h
 .have h:=hh;have hp:PassesOwn (model X.prog X.w) X.A X.env X.xe:=by rw [L.fits.xe];exact PassesOwn.never
  refine (zem hp (tW g c M X t L h.1).2.1 (hb M X y L h.2)).imp fun D τ H hq=>?_;obtain ⟨σ,G,D3,hs,ab,f,Pv,⟨m0,p0⟩,step⟩:=hq;refine ⟨fun m τ H'=>xZ X.K H H'/\∃ σ G,yB X.K H' σ τ/\xC X.K H' G/\Pv m σ G,⟨m0,.refl,σ,G,hs,ab,p0⟩,?_⟩;rintro m τ1 H1 ⟨g1,σ1,G1,hs1,a1,p1⟩;refine dI (pY g.mono XN c) hs1 a1 (step m σ1 G1 p1) fun k G2 H2 g2 hs2 a2 hq=>?_
  split
  .rename_i hk;rw [if_pos hk] at hq;refine ⟨fun τ' H'=>∃ m',m' < m/\xZ X.K H H'/\∃ σ G,yB X.K H' σ τ'/\xC X.K H' G/\Pv m' σ G,fun τ' H' z=>z,?_⟩;refine ⟨σ1,G2,_,hs2,a2,⟨?_,?_,?_,?_⟩,hq⟩
   .rintro σ3 G3 τ3 H3 g3 hs3 a3 ⟨m',hm,p'⟩;exact ⟨m',hm,g1.trans (g2.trans g3),σ3,G3,hs3,a3,p'⟩
   .exact fun σ3 G3 τ3 H3 g3 hs3 a3 z=>f.nx σ3 G3 τ3 H3 (g1.trans (g2.trans g3)) hs3 a3 z
   .rintro σ3 G3 τ3 H3 g3 hs3 a3 ⟨m',hm,p'⟩;exact ⟨m',hm,g1.trans (g2.trans g3),σ3,G3,hs3,a3,p'⟩
   .exact fun w G3 v3 H3 g3 r3 a3 z=>f.rt w G3 v3 H3 (g1.trans (g2.trans g3)) r3 a3 z
  .rename_i hk;rw [if_neg hk] at hq;exact f.nx σ1 G2 τ1 H2 (g1.trans g2) hs2 a2 hq
theorem t_for (tg:ITg) (it:II) (b:ISs) (hb:OkSs Γ p b):OkS Γ p (.for tg it b):=by
 intro M X x L h;obtain ⟨t,y,z,q,rfl,h1,h2,h3,h4⟩:=zgD h
 .
  have hp:PassesOwn (model X.prog X.w) X.A X.env X.xe:=by rw [L.fits.xe];exact PassesOwn.never
  refine (zhV hp L.fits.calm (sndI g it M X y L h3 t) (sndG L tg t h2) (hb M X z L h4) (bF h1)).imp fun D τ H hq=>?_;obtain ⟨σ,G,D3,hs,ab,f,hq⟩:=hq;refine ⟨σ,G,hs,ab,zio g.mono XN it σ G _ _ (fun items stab G1 hq J H1 g1 a1 ii=>?_) hq⟩;obtain ⟨Pv,p0,pst,step,fin⟩:=hq;refine ⟨fun i m τ H'=>m+i=items.length/\xZ X.K H1 H'/\∃ σ G,yB X.K H' σ τ/\xC X.K H' G/\Pv i σ G,⟨items.length,rfl,.refl,σ,G1,hs.mono g1,a1,p0⟩,?_⟩;rintro i m τ2 H2 ⟨hm,g2,σ2,G2,hs2,a2,p2⟩;have st:=pst i σ2 G2 p2 (by omega)
  by_cases hi:i<items.length
  .refine .inr ⟨ii.go i H2 G2 g2 a2 st hi,fun τ' H'=>∃ m',m' < m/\(m'+(i+1)=items.length/\xZ X.K H1 H'/\∃ σ G,yB X.K H' σ τ'/\xC X.K H' G/\Pv (i+1) σ G),fun τ' H' z=>z,fun x H' yl=>?_⟩;obtain ⟨w,ew,g3,rp,a3⟩:=ii.yld i H2 G2 x H' g2 a2 st hi yl;refine ⟨w,σ2,G2,rp,hs2.mono g3,a3,nH tg w σ2 G2 _ _ (fun σ4 G4 hq τ4 H4 g4 hs4 a4=>?_) (step i w σ2 G2 ew p2)⟩;refine ⟨σ4,G4,_,hs4,a4,⟨?_,?_,?_,?_⟩,hq⟩
   .exact fun σ5 G5 τ5 H5 g5 hs5 a5 z=>⟨m-1,by omega,by omega,g2.trans (g3.trans (g4.trans g5)),σ5,G5,hs5,a5,z⟩
   .exact fun σ5 G5 τ5 H5 g5 hs5 a5 z=>f.nx σ5 G5 τ5 H5 (g1.trans (g2.trans (g3.trans (g4.trans g5)))) hs5 a5 z
   .exact fun σ5 G5 τ5 H5 g5 hs5 a5 z=>⟨m-1,by omega,by omega,g2.trans (g3.trans (g4.trans g5)),σ5,G5,hs5,a5,z⟩
   .exact fun w5 G5 v5 H5 g5 r5 a5 z=>f.rt w5 G5 v5 H5 (g1.trans (g2.trans (g3.trans (g4.trans g5)))) r5 a5 z
  .have ei:i=items.length:=by omega
   subst ei;exact .inl ⟨ii.stop _ H2 G2 g2 a2 st (zzR _),f.nx σ2 G2 τ2 H2 (g1.trans g2) hs2 a2 (fin σ2 G2 p2)⟩
theorem sndSs (s:ISs):OkSs Γ p s :=
 ISs.rec (motive_1:=OkS Γ p) (motive_2:=OkSs Γ p) (t_asg g) (zhn g) (zhp g) (zhq g) (t_ex g) (t_ret g) (tY g).1 (tY g).2.1 (tY g).2.2.1 (tY g).2.2.2.1
  (fun c a b ha hb=>t_ite g c a b ha hb) (fun c b hb=>t_whl g c b hb) (fun tg it b hb=>t_for g tg it b hb) (tY g).2.2.2.2 (zho g)
  (fun M X x L h=>by
   cases zgB h;exact zf3.imp fun D τ H hq=>by obtain ⟨σ,G,D3,hs,ab,f,hq⟩:=hq;exact f.nx σ G τ H .refl hs ab hq)
  (fun s ss hs1 hs2 M X x L h=>by
   obtain ⟨y,ys,rfl,hh⟩:=zeQ h
   .have h:=hh;refine (zel (hs1 M X y L h.1) (hs2 M X ys L h.2)).imp fun D τ H hq=>?_;obtain ⟨σ,G,D3,hs,ab,f,hq⟩:=hq;refine ⟨σ,G,{ D3 with nx:=zH Γ XN ss D3 },hs,ab,⟨?_,f.bk,f.ct,f.rt⟩,hq⟩;exact fun σ2 G2 τ2 H2 g2 hs2 a2 z=>⟨σ2,G2,D3,hs2,a2,f.grow g2,z⟩) s
end
end L3
namespace PySem
open Sem (wp)
section
variable {prog : Program} {w : World} {A : Around} {E : Value → Shared → Prop} {s : Shared}
end
section
variable {prog : Program} {w : World} {A : Around} {E : Value → Shared → Prop} {s : Shared}
end
end PySem
namespace PySem
open Sem (wp)
section
variable {prog : Program} {w : World} {A : Around} {E : Value → Shared → Prop} {s : Shared}
end
end PySem
namespace L2
open PySem PySem.Spec PyProof.Rows
structure TurnL (P:Program) (w:World) (K:PySem.W.Frag) (T:String) (J:It) (fp:List Addr) (it:Addr) (tn:Nat->Heap->Prop):Prop where
 mem:it∈fp
 ty:∀ i h,tn i h->∃ o,h.get? it=some o/\o.cls=.type T
 obj:∀ i h,tn i h->∀ b∈fp,∃ o,h.get? b=some o/\∀ v,o.data≠.cell v
 keep:∀ i h h',tn i h->(∀ b∈fp,∀ o,h.get? b=some o->h'.get? b=some o)->tn i h'
 item:∀ (X:Cx),X.prog=P->X.w=w->X.K=K->X.calm=true->∀ (i:Nat) (pins:List (Addr×Obj)) (s:Shared) (σ:St) (H:Hp) (E:Value->Shared->Prop),Inv X pins σ H s->(∀ b∈fp,pK X pins H b)->tn i s.heap->J.go i H ->
  wpAny (model P w) X.A (pyNext (.ref it)) (fun r s2=>∃ u x H',r=some u/\Inv X pins σ H' s2/\yY x u/\J.yld i H x H'/\tn (i+1) s2.heap/\∀ b∈fp,H' b=none) E s
 done:∀ (X:Cx),X.prog=P->X.w=w->X.K=K->X.calm=true->∀ (i:Nat) (pins:List (Addr×Obj)) (s:Shared) (σ:St) (H:Hp) (E:Value->Shared->Prop),Inv X pins σ H s->(∀ b∈fp,pK X pins H b)->tn i s.heap->J.stop i H ->
  wpAny (model P w) X.A (pyNext (.ref it)) (fun r s1=>r=none/\Inv X pins σ H s1) E s
 self:∀ (A:Around) (i:Nat) (s:Shared) (Q:Value->Shared->Prop) (E:Value->Shared->Prop),tn i s.heap->Q (.ref it) s->wpAny (model P w) A (pyIter (.ref it)) Q E s
 hint:∀ (A:Around) (i:Nat) (s:Shared) (Q:Bool->Shared->Prop) (E:Value->Shared->Prop),tn i s.heap->(∀ b,Q b s)->wpAny (model P w) A (Builtin.List.listLengthHint (.ref it)) Q E s
abbrev Cx.atA (X:Cx) (A:Around):Cx:={ X with A:=A }
theorem Cx.Ok.atA {X:Cx} (ok:X.Ok) {A:Around} (hf:A.frames=X.A.frames) (hh:A.handled=X.A.handled):(X.atA A).Ok :=
 ⟨ok.mod,ok.kind,ok.glob,ok.blt,ok.above,ok.inj,ok.has,ok.cab,fun z=>hh.trans (ok.hd z),hf.trans ok.frames,ok.stk,ok.exf,ok.bs,ok.bsz,ok.noex,ok.exfs,ok.funs,ok.frf⟩
section
variable {X : Cx} {pins : List (Addr × Obj)} {σ : St} {H : Hp} {s : Shared}
theorem Inv.atA (I:Inv X pins σ H s) {A:Around} (hf:A.frames=X.A.frames) (hh:A.handled=X.A.handled):Inv (X.atA A) pins σ H s :=
 ⟨I.ok.atA hf hh,I.os,I.bare,I.base,I.loc,I.cell,I.free,I.freeC,I.pin,I.hok,I.len⟩
theorem Inv.unA {A:Around} (hf:A.frames=X.A.frames) (hh:A.handled=X.A.handled) (I:Inv (X.atA A) pins σ H s):Inv X pins σ H s :=
 ⟨Cx.Ok.atA (X:=X.atA A) (A:=X.A) I.ok hf.symm hh.symm,I.os,I.bare,I.base,I.loc,I.cell,I.free,I.freeC,I.pin,I.hok,I.len⟩
theorem ze0 {P:Program} {w:World} {A:Around} {R:Result->Shared->Prop} (S I:Addr) (res:Value) (Jn:Nat->Shared->Prop)
  (step:∀ k s,Jn k s->wpAny (model P w) A.in1 (pyNext (.ref I)) (fun r s'=>match r with
   |none=>R (.ok (.ret res)) s'
   |some v=>∃ its c,s'.heap.get? S=some (uU its c)/\its.length<sizeLine/\∀ h',Heap.SameBut S s'.heap h'->h'.get? S=some (uU (its++[v]) (c+1))->∃ k',k' < k/\Jn k' { s' with heap:=h' }) (fun e s'=>R (.error e) s') s) :
  ∀ k s,Jn k s->codeAny (model P w) A (.builtin "list.extend.loop" ⟨[.ref S,.ref I,res],[]⟩) R s:=by
 intro k
 induction k using Nat.strongRecOn with
 |_ k ih =>
  intro s j;refine codeAny_builtin F.entry_extend_loop ?_;rw [Around.under_plainId F.plain_extend_loop _];show wpAny _ A.in1 (pyNext (.ref I) >>= _) _ _ s;refine wpAny_bind (xT (step k s j) fun r s' q=>?_)
  cases r with
  |none=>exact wpAny_pure q
  |some v =>
   obtain ⟨its,c,hS,hl,q⟩:=q;show wpAny _ A.in1 (updateSeq S (·.push v) >>= _) _ _ _;refine wpAny_bind ?_;obtain ⟨k',hk,j'⟩:=q _ (Heap.SameBut.update ..) (by exact (Heap.get?_update_self (Obj.mapSeq (·.push v)) hS rfl).trans (by simp [Obj.mapSeq,uU]));exact wpAny_updateSeq hS rfl (wpAny_pure ⟨plainId_quiet F.plain_extend_loop _,ih k' hk _ j'⟩) (by show its.toArray.size<=sizeLine;rw [zzS];omega) (by show (its.toArray.push v).size<=sizeLine+1;rw [Array.size_push,zzS];omega)
theorem Inv.adopt {a:Addr} {o:HO} (I:Inv X pins σ H s) (off:Off X pins a) (hn:H a=none) (new:xD X.prog X.w (xB H a o) s.heap a o):Inv X pins σ (xB H a o) s:=by
 have b:=I.base;have nb:∀ b' ob,X.s₀.heap.get? b'=some ob->b'≠a:=fun b' ob e=>Nat.ne_of_lt (Nat.lt_of_lt_of_le (Heap.lt_size e) off.ge);refine ⟨I.ok,I.os,I.bare,⟨b.keep,b.slot,fun c ob e n hx=>?_,b.there,fun c xs e=>?_,fun c ob u e=>?_,fun c ps e=>?_⟩,I.loc,I.cell,?_,fun x c e=>?_,fun p hp=>?_,I.hok.adopt (fun c u v _ q=>q) hn new,I.len⟩
 .rw [yW (nb c ob e)];exact b.free c ob e n hx
 .rw [yW (yI (b.tups c xs e) hn)];exact b.tups c xs e
 .rw [yW (yI (b.frzs c ob u e) hn)];exact b.frzs c ob u e
 .obtain ⟨mo,e'⟩:=b.tbls c ps e;exact ⟨mo,by rw [yW (yI e' hn)];exact e'⟩
 .rw [yW off.ne.symm];exact I.free
 .rw [yW (off.cl x c e)];exact I.freeC x c e
 .obtain ⟨q1,q2,q3⟩:=I.pin p hp;exact ⟨q1,by rw [yW (off.pn p hp)];exact q2,q3⟩
theorem zc8 (hc:X.calm=true) {T:String} {J:It} {fp:List Addr} {it:Addr} {tn:Nat->Heap->Prop} {Q:VK} (hTl:(Value.type T==Value.type "list")=false) (hTt:(Value.type T==Value.type "tuple")=false)
  (I:Inv X pins σ H s) (Tn:TurnL X.prog X.w X.K T J fp it tn) (t0:tn 0 s.heap) (hf:∀ b∈fp,pK X pins H b) (n:Nat) (hn:n<=sizeLine) (W:Nat->List V->Hp->Prop) (w0:W 0 [] H)
  (wgo:∀ i acc H,i<n->W i acc H->J.go i H/\∀ x H',J.yld i H x H'->W (i+1) (acc++[x]) H') (wst:∀ acc H,W n acc H->J.stop n H/\∀ p,H p=none->Q (.ref p) (xB H p (.lst acc))) :
  wpAny (model X.prog X.w) X.A (call (.type "list") [.ref it]) (EP X pins σ Q) X.xe s:=by
 have hfp:∀ b∈fp,b<s.heap.objs.size:=fun b hb=>by
  obtain ⟨o,e,_⟩:=Tn.obj _ _ t0 b hb;exact Heap.lt_size e
 have hSf:∀ b∈fp,b≠s.heap.objs.size:=fun b hb=>Nat.ne_of_lt (hfp b hb);have hSI:s.heap.objs.size≠it:=(hSf it Tn.mem).symm;have off:Off X pins s.heap.objs.size:=I.off (zzR _);have nfs:s.heap.objs.size∉X.fs:=I.nofs (zzR _);have fr0:∀ b∈fp,H b=none:=fun b hb=>(hf b hb).1;have HS0:H s.heap.objs.size=none:=I.hok.fresh (zzR _)
 have fpok:∀ {H':Hp} {ob:Obj},(∀ b∈fp,H' b=none)->∀ b∈fp,pK X ((s.heap.objs.size,ob)::pins) H' b:=fun {H' ob} hn b hb=>by
  obtain ⟨q1,q2,q3,q4,q5,q6⟩:=hf b hb;refine ⟨hn b hb,q2,q3,q4,q5,fun p hp=>?_⟩;rcases List.mem_append.mp hp with hp|hp
  .exact q6 p (List.mem_append_left _ hp)
  .rcases List.mem_cons.mp hp with rfl|hp
   .exact (hSf b hb).symm
   .exact q6 p (List.mem_append_right _ hp)
 have pinS:∀ {H':Hp} {s':Shared} {its:List Value} {c:Nat},Inv X pins σ H' s'->H' s.heap.objs.size=none->s'.heap.get? s.heap.objs.size=some (uU its c)->Inv X ((s.heap.objs.size,uU its c)::pins) σ H' s':=fun {H' s' its c} I' hn e =>
  I'.pins_of fun p hp=>by
   rcases List.mem_cons.mp hp with rfl|hp
   .exact ⟨e,hn,off.ne,nfs,fun v z=>nomatch z⟩
   .exact I'.pin p (List.mem_append_right _ hp)
 have unpin:∀ {H':Hp} {s':Shared} {ob:Obj},Inv X ((s.heap.objs.size,ob)::pins) σ H' s'->Inv X pins σ H' s':=fun {H' s' ob} I'=>I'.pins_of fun p hp=>I'.pin p (List.mem_append_right _ (List.mem_cons_of_mem _ hp))
 refine callType_codes (Q₁:=fun obj s₁=>obj=.ref s.heap.objs.size/\s₁={ s with heap:=s.heap.push { cls:=.type "list", data:=.seq #[] } }) F.called_list (F.typeCall_list_1 _) F.entry_list_init
  (code_list_new _ ⟨rfl,rfl⟩) fun obj s₁ h₁=>?_
 obtain ⟨rfl,rfl⟩:=h₁;have hS:(s.heap.push { cls:=.type "list", data:=.seq #[] }).get? s.heap.objs.size=some { cls:=.type "list", data:=.seq #[] }:=Heap.get?_push_size _ rfl;refine ⟨⟨_,hS,rfl⟩,F.args_list_init_2 _ _,?_⟩
 have loop:∀ (h':Heap) (c:Nat),h'.get? s.heap.objs.size=some (uU [] c)->(∀ b o,s.heap.get? b=some o->h'.get? b=some o) ->
   codeAny (model X.prog X.w) X.A.in1 (.builtin "list.extend.loop" ⟨[.ref s.heap.objs.size,.ref it,.none],[]⟩) (wants (fun r s₂=>r=.none/\EP X pins σ Q (.ref s.heap.objs.size) s₂) X.xe) { s with heap:=h' }:=by
  intro h' c e0 k0
  refine ze0 s.heap.objs.size it .none (fun k s'=>∃ i acc H' its c,k+i=n/\Inv X pins σ H' s'/\tn i s'.heap/\(∀ b∈fp,H' b=none)/\H' s.heap.objs.size=none/\s'.heap.get? s.heap.objs.size=some (uU its c)/\yT acc its/\acc.length<=i/\W i acc H') ?_ n _
   ⟨0,[],H,[],c,by omega,I.kept (t':=s.toks) k0,Tn.keep _ _ _ t0 fun b _ o e=>k0 b o e,fr0,HS0,e0,.nil,zzR _,w0⟩
  rintro k s' ⟨i,acc,H',its,c',hk,I',st,fr,hS',oS,v,la,wi⟩;have Ip:=(pinS I' hS' oS).atA (A:=X.A.in1.in1) rfl rfl
  by_cases hi:i<n
  .obtain ⟨go,yl⟩:=wgo i acc H' hi wi;refine xT (Tn.item (X.atA X.A.in1.in1) rfl rfl rfl hc i _ s' σ H' _ Ip (fpok fr) st go) fun r s2 ⟨u,x,H2,hr,I2,r2,y2,st2,fr2⟩=>?_;subst hr;have I2':=Inv.unA (X:=X) (A:=X.A.in1.in1) rfl rfl I2;have p2:=I2'.pin (s.heap.objs.size,uU its c') (List.mem_append_right _ (zzT ..));refine ⟨its,c',p2.1,by rw [← v.length];omega,fun h'' sb e''=>⟨k-1,by omega,i+1,acc++[x],H2,its++[u],c'+1,by omega,off.turned (unpin I2') p2.2.1 sb,Tn.keep _ _ _ st2 fun b hb o e=>sb.extBut b o (hSf b hb) e,fr2,p2.2.1,e'',v.append (.cons r2 .nil),by rw [zzW];show acc.length+1<=i+1;omega,yl x H2 y2⟩⟩
  .have hin:i=n:=by omega
   subst hin;obtain ⟨yQ,fin⟩:=wst acc H' wi;refine xT (Tn.done (X.atA X.A.in1.in1) rfl rfl rfl hc i _ s' σ H' _ Ip (fpok fr) st yQ) fun r s2 ⟨hr,I2⟩=>?_;subst hr;have I2':=Inv.unA (X:=X) (A:=X.A.in1.in1) rfl rfl I2;have p2:=I2'.pin (s.heap.objs.size,uU its c') (List.mem_append_right _ (zzT ..));exact ⟨rfl,.ref s.heap.objs.size,xB H' s.heap.objs.size (.lst acc),(unpin I2').adopt off hS' ⟨by omega,its,c',v,p2.1⟩,rfl,fin _ hS'⟩
 show wpAny _ X.A.in1.in1 (do let old ← Builtin.List.listItems (.ref s.heap.objs.size);Builtin.List.listUpdate (.ref s.heap.objs.size) (fun _=>#[]);letGo old.toList.reverse;Builtin.List.listExtendWith (.ref s.heap.objs.size) (.ref it) .none) _ _ _;refine wpAny_bind ?_;unfold Builtin.List.listItems;refine wpAny_bind (wpAny_seqItems hS rfl (wpAny_pure ?_));show wpAny _ X.A.in1.in1 (updateSeq s.heap.objs.size (fun _=>#[]) >>= fun _=>letGo (#[]:Array Value).toList.reverse >>= fun _=>Builtin.List.listExtendWith (.ref s.heap.objs.size) (.ref it) .none) _ _ _;refine wpAny_bind (wpAny_updateSeq hS rfl ?_);have hS₂:=Heap.get?_update_self (Obj.mapSeq (fun _=>(#[]:Array Value))) hS rfl;generalize hh2:(s.heap.push { cls:=.type "list", data:=.seq #[] }).update s.heap.objs.size (Obj.mapSeq (fun _=>(#[]:Array Value)))=h2 at *
 have k2:∀ b o,s.heap.get? b=some o->h2.get? b=some o:=fun b o e=>by
  rw [← hh2,Heap.get?_update_other _ _ (Nat.ne_of_gt (Heap.lt_size e))];exact Heap.get?_push_of_some _ e
 have tn2:tn 0 h2:=Tn.keep _ _ _ t0 fun b _ o e=>k2 b o e;refine wpAny_bind (wpAny_letGo ?_);unfold Builtin.List.listExtendWith;obtain ⟨oI,eI,cI⟩:=Tn.ty _ _ tn2;refine wpAny_bind (wpAny_typeOf (s:={ s with heap:=h2 }) ⟨oI,eI,cI⟩ ?_);have h1:Builtin.List.listSameRef (.ref s.heap.objs.size) (.ref it)=false:=by simp [Builtin.List.listSameRef,hSI]
 rw [if_neg (by rw [h1,hTl,hTt];decide)];refine wpAny_bind (Tn.self _ 0 { s with heap:=h2 } _ _ tn2 ?_);refine wpAny_bind (wpAny_holding (Tn.hint _ 0 { s with heap:=h2 } _ _ tn2 fun room=>?_));dsimp only
 split
 .refine wpAny_bind (wpAny_rule ?_);refine wpAny_bind ?_;show wpAny _ X.A.in1.in1 (updateSeq s.heap.objs.size (·.push .none) >>= fun _=>updateSeq s.heap.objs.size (·.pop)) _ _ _;refine wpAny_bind (wpAny_updateSeq hS₂ rfl ?_);have hS₃:=Heap.get?_update_self (Obj.mapSeq (·.push Value.none)) hS₂ rfl;refine wpAny_updateSeq (hz:=by seq_fits) hS₃ rfl ?_;have hS₄:=Heap.get?_update_self (Obj.mapSeq (·.pop)) hS₃ rfl;refine wpAny_pure ⟨plainId_quiet F.plain_extend_loop _,loop _ _ hS₄ fun b o e=>?_⟩;rw [Heap.get?_update_other _ _ (Nat.ne_of_gt (Heap.lt_size e)),Heap.get?_update_other _ _ (Nat.ne_of_gt (Heap.lt_size e))];exact k2 b o e
 .exact wpAny_pure ⟨plainId_quiet F.plain_extend_loop _,loop _ _ hS₂ k2⟩
end
end L2
namespace L2
open PySem PySem.Spec PyProof.Rows
def SqB (b:Bool) (K:PySem.W.Frag) (H:Hp) (a:Addr) (xs:List V):Prop:=match b with
 |true=>pF K H a xs
 |false=>mR K H a xs
section
variable {a b : Bool} {z TI TO i1 i2 l1 l2 : Addr}
variable {X : Cx} {pins : List (Addr × Obj)} {σ : St} {H : Hp} {s : Shared}
end
end L2
namespace L3
open PySem PySem.Spec PyProof.Rows L2
structure Pr where
 prog:Program
 w:World
 K:yG
 mg:Str->Option Value
 base:Heap
abbrev Pr.at (q:Pr) (A:Around):Par:=⟨q.prog,q.w,q.K,q.mg,q.base,A⟩
def sF (K:yG) (sp:uH):Sp:=fun vs H Q E=>∃ ws G,zC K H ws vs/\xC K H G/\sp ws G (sL K H Q) XN
def yM (N:List Str) (ws:List W):qK:=ws.map some++List.replicate (N.length-ws.length) none
theorem zcy {K:yG} {H:Hp} {N:List Str} {ws:List W} {vs:List V} (r:zC K H ws vs):yB K H (yM N ws) (L2.start N vs):=by
 have hl:=r.length;refine ⟨by simp [yM,L2.start,hl],fun i w e=>?_⟩;unfold yM at e;unfold L2.start
 by_cases hi:i<ws.length
 .rw [List.getElem?_append_left (by simpa using hi),List.getElem?_map] at e
  cases q:ws[i]? with
  |none=>rw [q] at e;cases e
  |some w' =>
   rw [q] at e;obtain rfl:w'=w:=Option.some.inj (Option.some.inj e);obtain ⟨v,ev,rp⟩:=r.get q;refine ⟨v,?_,rp⟩;rw [List.getElem?_append_left (by simp;omega),List.getElem?_map,ev];rfl
 .rw [List.getElem?_append_right (by simp;omega),List.getElem?_replicate] at e
  split at e<;>cases e
structure MOk (Γ:Ctx3) (M:MC) (sc:Scope):Prop where
 sc:M.sc=sc
 own:M.own=fun _=>true
 fns:Γ.fn.map (·.nm)=M.fns
 gls:Γ.gl.map (·.1)=M.gls
 mts:Γ.mt.map (·.nm)=M.mts
 its:Γ.it.map (·.nm)=M.its
 sxs:Γ.sx.map (·.m)=M.sxm
 ixs:Γ.ix.map (·.m)=M.ixm
def FnE (p:Par) (f:Fn3):Prop:=∀ X,Fits p X->Gl X f.nm->∀ (args:List Expr) (t:A3) (q pos:Pos),uD t->args.all jU=true->PA X args (nT X.K t)->(args=[]->∀ σ G Q,t σ G Q->Q [] G)->(f.nm==("__debug__" : Str))=false->f.nm ≠ "__name__" ->
  PE X (.Call (.Name f.nm q) args [] pos) (xR X.K fun σ G Q=>t σ G fun ws G1=>f.sp ws G1 Q XN)
theorem jF {e:Expr} {es:List Expr} {env:Env} {pos:Pos} (h:(e::es).all jU=true):starEach (e::es) env=(false,eval e env)::starEach es env/\(backTo pos (starEach es env)).any (·.1)=false:=by
 rw [List.all_cons,Bool.and_eq_true] at h;refine ⟨vZ h.1,?_⟩;have h2:=h.2
 clear h
 induction es with
 |nil=>rfl
 |cons a r ih =>
  rw [List.all_cons,Bool.and_eq_true] at h2;rw [vZ h2.1];show (false || (backTo pos (starEach r env)).any (·.1))=false;rw [ih h2.2];rfl
theorem Fits.eq {p:Par} {X:Cx} (f:Fits p X):p=⟨X.prog,X.w,X.K,X.mg,X.base,X.A⟩:=by
 obtain ⟨e1,e2,e3,e4,e5,e6,_,_⟩:=f;rw [e1,e2,e3,e4,e5,e6]
theorem pa_sp {X:Cx} {args:List Expr} {t:A3} {sp:uH} {dws:List W} {dvs:List V} (m:uD t) (hd:∀ H,zC X.K H dws dvs) (mono:∀ ws G (Q Q':Q3),(∀ w G',Q w G'->Q' w G')->sp ws G Q XN->sp ws G Q' XN) {τ:L2.St} {H:Hp} {Q:VK} {E:XK}
  (h:xR X.K (fun σ G Q=>t σ G fun ws G1=>sp (ws++dws) G1 Q XN) τ H Q):zfP (sF X.K sp) dvs E (nT X.K t) τ H Q:=by
 obtain ⟨σ,G,hs,ab,h⟩:=h;refine dH m hs ab h fun ws G1 vs H1 g1 hs1 rs a1 h=>?_;exact ⟨ws++dws,G1,rs.append (hd H1),a1,mono _ _ _ _ (fun w G' z v' H' g'=>z v' H' (g1.trans g')) h⟩
theorem ziX {q:Pr} {k:Nat} {nm:Str} {f:Addr} {fd:FuncData} {ps:List Str} {ds:List Value} {dvs:List V} {dws:List W} {sp:uH} (FO:FnOk q.prog q.w q.K q.mg q.base CX0 k f fd ps (sF q.K sp)) (hm:q.mg nm=some (.ref f)) (hk:PySem.W.keepIn q.K (.ref f)=true)
  (hb:pJ q.K fd ps ds) (hd:∀ H,zC q.K H dws dvs) (hv:yT dvs ds) (mono:∀ ws G (Q Q':Q3),(∀ w G',Q w G'->Q' w G')->sp ws G Q XN->sp ws G Q' XN) {A:Around} (hr:Room k A):FnE (q.at A) ⟨nm,fun ws G Q _=>sp (ws++dws) G Q XN⟩:=by
 intro X fits gl args t qp pos mt hn pa hnil hdb hnm;have e:=fits.eq
 injection e with e1 e2 e3 e4 e5 e6
 subst e6;rw [e1,e2,e3,e4,e5] at FO;rw [e4] at hm;rw [e3] at hk hb hd
 cases args with
 |nil =>
  refine (zez (p:=qp) (pos:=pos) FO hr gl hm hk hb hv zib hdb).imp fun τ H Q h=>?_;obtain ⟨σ,G,hs,ab,h⟩:=h;have h:=hnil rfl _ _ _ h;exact ⟨dws,G,hd H,ab,h⟩
 |cons a r =>
  obtain ⟨s1,s2⟩:=jF (env:=X.env) (pos:=pos) hn;exact (zge (p:=qp) (pos:=pos) FO hr gl hm hk hb hv zib pa hdb s1 s2).imp fun τ H Q h=>pa_sp (args:=a::r) mt hd mono h
end L3
namespace L3
open PySem PySem.Spec PyProof.Rows L2 PySem.SeqAt
abbrev RS:=List W->Hw->Q3->Prop
def qF (sp:RS):Prop:=∀ ws G (Q Q':Q3),(∀ w G',Q w G'->Q' w G')->sp ws G Q->sp ws G Q'
def nU (K:yG) (sp:RS):List V->Hp->VK->Prop:=fun vs H Q=>∃ ws G,zC K H ws vs/\xC K H G/\sp ws G (sL K H Q)
theorem zaU {X:Cx} {t:A3} {sp:RS} (mt:uD t) (mono:qF sp) {τ:L2.St} {H:Hp} {Q:VK} (h:xR X.K (fun σ G Q=>t σ G fun ws G1=>sp ws G1 Q) τ H Q):tCB (nU X.K sp) (nT X.K t) τ H Q:=by
 obtain ⟨σ,G,hs,ab,h⟩:=h;exact dH mt hs ab h fun ws G1 vs H1 g1 hs1 rs a1 h=>⟨ws,G1,rs,a1,mono _ _ _ _ (fun w G' z v' H' g'=>z v' H' (g1.trans g')) h⟩
theorem dU {q:Pr} {A:Around} {nm:Str} {id:String} {sp:RS} (hm:q.mg nm=none) (hv:bootBuiltins nm=some (.builtin id)) (hc:∀ X,Fits (q.at A) X->qS X (.builtin id) (nU X.K sp)) (mono:qF sp) (h0:∀ G Q,¬ sp [] G Q):FnE (q.at A) ⟨nm,fun ws G Q _=>sp ws G Q⟩:=by
 intro X fits gl args t qp pos mt hn pa hnil hdb hnm;have hm':X.mg nm=none:=by rw [fits.mg];exact hm
 cases args with
 |nil=>exact fun pins s σ H Q I h=>absurd (hnil rfl _ _ _ h.choose_spec.choose_spec.2.2) (h0 _ _)
 |cons a r =>
  obtain ⟨s1,s2⟩:=jF (env:=X.env) (pos:=pos) hn;exact (zey (p:=qp) (pos:=pos) (hc X fits) gl hm' hv pa hnm hdb s1 s2).imp fun τ H Q h=>zaU mt mono h
theorem zgN {q:Pr} {A:Around} {nm:Str} {T:String} {sp:RS} (hm:q.mg nm=none) (hv:bootBuiltins nm=some (.type T)) (hc:∀ X,Fits (q.at A) X->qS X (.type T) (nU X.K sp)) (mono:qF sp) (h0:∀ G Q,¬ sp [] G Q):FnE (q.at A) ⟨nm,fun ws G Q _=>sp ws G Q⟩:=by
 intro X fits gl args t qp pos mt hn pa hnil hdb hnm;have hm':X.mg nm=none:=by rw [fits.mg];exact hm
 cases args with
 |nil=>exact fun pins s σ H Q I h=>absurd (hnil rfl _ _ _ h.choose_spec.choose_spec.2.2) (h0 _ _)
 |cons a r =>
  obtain ⟨s1,s2⟩:=jF (env:=X.env) (pos:=pos) hn;exact (zcT (p:=qp) (pos:=pos) (hc X fits) gl hm' hv pa hnm hdb s1 s2).imp fun τ H Q h=>zaU mt mono h
abbrev MS:=W->List W->Hw->Q3->Prop
def MtE (p:Par) (m:Mt3):Prop:=∀ X,Fits p X->∀ (o:Expr) (args:List Expr) (to:E3) (t:A3) (apos cpos:Pos),jR to->uD t->zdU o=true->(apos.endLine==cpos.line)=true->args.length<25->args.all jU=true ->
  PE X o (xR X.K to)->PA X args (nT X.K t)->(args=[]->∀ σ G Q,t σ G Q->Q [] G)->PE X (.Call (.Attribute o m.nm apos) args [] cpos) (xR X.K fun σ G Q=>to σ G fun x G1=>tyW G1 x m.T/\t σ G1 fun ws G2=>m.sp x ws G2 Q)
def lowM (K:yG) (sp:MS):V->List V->Hp->VK->Prop:=fun x vs H Q=>∃ w ws G,wQ K H w x/\zC K H ws vs/\xC K H G/\sp w ws G (sL K H Q)
theorem zbJ {args:List Expr} {env:Env} {pos:Pos} (h:args.all jU=true):(backTo pos (starEach args env)).all (fun x=>!x.1)=true:=by
 induction args with
 |nil=>rfl
 |cons a r ih =>
  rw [List.all_cons,Bool.and_eq_true] at h;rw [vZ h.1];show (true&&(backTo pos (starEach r env)).all (fun x=>!x.1))=true;rw [ih h.2];rfl
theorem fX {p:Par} {nm:Str} {T id:String} {sp:MS} (pa:PlainAttrs T) (slot:Slot T nm id) (hty:typeOf (.builtin id)=pure (.type "method_descriptor")) (hm:∀ X,Fits p X->MtR X id (lowM X.K sp))
  (mono:∀ x ws G (Q Q':Q3),(∀ w G',Q w G'->Q' w G')->sp x ws G Q->sp x ws G Q'):MtE p ⟨nm,T,sp⟩:=by
 intro X fits o args to t apos cpos mo mt ho hline hlen hn po pa' hnil
 cases args with
 |nil =>
  refine (zia pa slot hty (hm X fits) po (uK ho) hline).imp fun τ H Q h=>?_;obtain ⟨σ,G,hs,ab,h⟩:=h;refine xO mo hs ab h fun w G1 v H1 g1 hs1 rw1 a1 h=>⟨zfi rw1 a1 h.1,w,[],G1,rw1,rfl,a1,mono _ _ _ _ _ (fun w' G' z v' H' g'=>z v' H' (g1.trans g')) (hnil rfl _ _ _ h.2)⟩
 |cons a r =>
  obtain ⟨s1,s2⟩:=jF (env:=X.env) (pos:=cpos) hn;refine (pe_bm pa slot hty (hm X fits) po pa' (uK ho) ?_ hline s1 s2).imp fun τ H Q h=>?_
  .rw [zbJ hn]
   have:(a::r).length+([]:List Keyword).length+(if ([]:List Keyword).isEmpty then 0 else 1)<30:=by
    show (a::r).length+0+0<30;omega
   rw [decide_eq_true this];rfl
  .obtain ⟨σ,G,hs,ab,h⟩:=h;refine xO mo hs ab h fun w G1 v H1 g1 hs1 rw1 a1 h=>⟨zfi rw1 a1 h.1,?_⟩;exact dH mt hs1 a1 h.2 fun ws G2 vs H2 g2 hs2 rs a2 h=>⟨w,ws,G2,rw1.mono g2,rs,a2,mono _ _ _ _ _ (fun w' G' z v' H' g'=>z v' H' (g1.trans (g2.trans g'))) h⟩
def maxS:RS:=fun ws G Q=>match ws with
 | [.int i,.int j]=>Q (.int (if j > i then j else i)) G
 |_=>False
theorem bR:qF maxS:=by
 intro ws G Q Q' k h;unfold maxS at h ⊢
 split at h
 .exact k _ _ h
 .exact h.elim
theorem zfW {K:yG} {H:Hp} {a b:W} {vs:List V} (r:zC K H [a,b] vs):∃ x y,vs=[x,y]/\wQ K H a x/\wQ K H b y:=by
 obtain ⟨x,t,rfl,rx,y,t',rfl,ry,rt⟩:=r;cases (show t'=[] from rt);exact ⟨x,y,rfl,rx,ry⟩
theorem kQ {K:yG} {H:Hp} {a:W} {vs:List V} (r:zC K H [a] vs):∃ x,vs=[x]/\wQ K H a x:=by
 obtain ⟨x,t,rfl,rx,rt⟩:=r;cases (show t=[] from rt);exact ⟨x,rfl,rx⟩
theorem zir {X:Cx} (hc:X.calm=true):qS X (.builtin "max") (nU X.K maxS):=by
 intro pins s σ H xs us Q I r h;obtain ⟨ws,G,rs,ab,h⟩:=h;unfold maxS at h
 split at h
 .rename_i i j;obtain ⟨x,y,rfl,rx,ry⟩:=zfW rs;cases (show x=.int i from rx);cases (show y=.int j from ry);exact zdP hc pins s σ H _ us Q I r ⟨i,j,rfl,h _ H .refl rfl ab⟩
 .exact h.elim
def jD (G:Hw):W->Option Nat
 | .str x=>if x.length<=sizeLine then some x.length else none
 | .tup ws=>some ws.length
 | .ref p=>match G p with
  |some (.lst ws)=>some ws.length
  |some (.fix ws)=>some ws.length
  |some (.dic kvs)=>some kvs.length
  |_=>none
 |_=>none
def jC:RS:=fun ws G Q=>match ws with
 | [x]=>(match jD G x with|some n=>Q (.int n) G|none=>False)
 |_=>False
theorem bP:qF jC:=by
 intro ws G Q Q' k h;unfold jC at h ⊢
 split at h
 .split at h
  .exact k _ _ h
  .exact h.elim
 .exact h.elim
theorem zgt {X:Cx}:qS X (.builtin "len") (fun xs H Q=>∃ a kvs,xs=[V.ref a]/\H a=some (.dK kvs)/\Q (.int kvs.length) H):=by
 intro pins s σ H xs us Q I r h;obtain ⟨a,kvs,rfl,ha,q⟩:=h;obtain ⟨u,rfl,ru⟩:=qB r;cases ru;exact d_len I (.inl ha) fun t s' I'=>⟨.int kvs.length,H,I',⟨t,rfl⟩,q⟩
theorem ziu {X:Cx}:qS X (.builtin "len") (nU X.K jC):=by
 intro pins s σ H xs us Q I r h;obtain ⟨ws,G,rs,ab,h⟩:=h;unfold jC at h
 split at h
 .rename_i w;obtain ⟨v,rfl,rv⟩:=kQ rs
  split at h
  .rename_i n hn;have q:Q (.int n) H:=h (.int n) H .refl rfl ab
   cases w with
   |str x =>
    cases (show v=.str x from rv);simp only [jD] at hn
    split at hn
    .rename_i hl;cases hn;exact zaq pins s σ H _ us Q I r ⟨x,rfl,hl,q⟩
    .cases hn
   |tup ws' =>
    obtain ⟨a,vs,rfl,sq,rr⟩:=rv;simp only [jD] at hn;cases hn;exact uS pins s σ H _ us Q I r ⟨a,vs,rfl,.inr sq,by rw [rr.length];exact q⟩
   |ref p =>
    cases (show v=.ref p from rv);simp only [jD] at hn
    split at hn
    .rename_i ws' e;cases hn;obtain ⟨vs,sq,rr⟩:=ab.seq (show yJ G p=some ws' by unfold yJ;rw [e]);exact uS pins s σ H _ us Q I r ⟨p,vs,rfl,.inl sq,by rw [rr.length];exact q⟩
    .rename_i ws' e;cases hn;obtain ⟨vs,sq,rr⟩:=ab.seq (show yJ G p=some ws' by unfold yJ;rw [e]);exact uS pins s σ H _ us Q I r ⟨p,vs,rfl,.inl sq,by rw [rr.length];exact q⟩
    .rename_i kvs e;cases hn;obtain ⟨l,e',rl⟩:=ab.dic e;exact zgt pins s σ H _ us Q I r ⟨p,l,rfl,e',by rw [rl.length];exact q⟩
    .cases hn
   |_=>simp [jD] at hn
  .exact h.elim
 .exact h.elim
def nI (G:Hw):W->Option (List W)
 | .tup ws=>some ws
 | .ref p=>yJ G p
 |_=>none
def lstS:RS:=fun ws G Q=>match ws with
 | [x]=>(match nI G x with|some xs=>∀ p,G p=none->Q (.ref p) (put G p (.lst xs))|none=>False)
 |_=>False
theorem bQ:qF lstS:=by
 intro ws G Q Q' k h;unfold lstS at h ⊢
 split at h
 .split at h
  .exact fun p hp=>k _ _ (h p hp)
  .exact h.elim
 .exact h.elim
theorem zcF {K:yG} {H:Hp} {G:Hw} {w:W} {v:V} {xs:List W} (ab:xC K H G) (r:wQ K H w v) (e:nI G w=some xs):∃ a vs b,v=.ref a/\SqB b K H a vs/\zC K H xs vs:=by
 cases w with
 |tup ws =>
  obtain ⟨a,vs,rfl,sq,rr⟩:=r;cases e;exact ⟨a,vs,true,rfl,sq,rr⟩
 |ref p =>
  cases (show v=.ref p from r);obtain ⟨vs,sq,rr⟩:=ab.seq e;exact ⟨p,vs,false,rfl,sq,rr⟩
 |_=>cases e
theorem zit {X:Cx}:qS X (.type "list") (nU X.K lstS):=by
 intro pins s σ H xs us Q I r h;obtain ⟨ws,G,rs,ab,h⟩:=h;unfold lstS at h
 split at h
 .rename_i w;obtain ⟨v,rfl,rv⟩:=kQ rs
  split at h
  .rename_i ys hy;obtain ⟨a,vs,b,rfl,sq,rr⟩:=zcF ab rv hy;refine zap pins s σ H _ us Q I r ⟨a,vs,rfl,?_,uX ab rr h⟩;cases b
   .exact .inl sq
   .exact .inr sq
  .exact h.elim
 .exact h.elim
def allS (f:List Bool->Bool):RS:=fun ws G Q=>match ws with
 | [.ref p]=>∃ bs:List Bool,yJ G p=some (bs.map .bl)/\Q (.bl (f bs)) G
 |_=>False
theorem zay (f:List Bool->Bool):qF (allS f):=by
 intro ws G Q Q' k h;unfold allS at h ⊢
 split at h
 .obtain ⟨bs,e,h⟩:=h;exact ⟨bs,e,k _ _ h⟩
 .exact h.elim
theorem dM {K:yG} {H:Hp}:∀ {bs:List Bool} {vs:List V} {us:List Value},zC K H (bs.map .bl) vs->yT vs us->us=bs.map .bool
 | [],vs,us,r,v=>by cases (show vs=[] from r);cases v;rfl
 |b::bs,vs,us,r,v=>by
  obtain ⟨x,t,rfl,rx,rt⟩:=r;cases (show x=.bl b from rx)
  cases v with
  |cons a c =>
   cases (show _=Value.bool b from a);rw [dM rt c];rfl
theorem zdW (bs:List Bool):(List.range bs.length).all (fun i=>(bs[i]?).getD false)=bs.all id:=by
 rw [Bool.eq_iff_iff,List.all_eq_true,List.all_eq_true]
 constructor
 .intro h b hb;obtain ⟨i,hi,rfl⟩:=List.mem_iff_getElem.mp hb;have:=h i (List.mem_range.mpr hi)
  rwa [List.getElem?_eq_getElem hi] at this
 .intro h i hi;have hi:=List.mem_range.mp hi;rw [List.getElem?_eq_getElem hi];exact h _ (List.getElem_mem hi)
theorem zfg {X:Cx} (hc:X.calm=true) {pins:List (Addr×Obj)} {s:Shared} {σ:L2.St} {H:Hp} {G:Hw} {p:Addr} {bs:List Bool} (I:Inv X pins σ H s) (ab:xC X.K H G) (e:yJ G p=some (bs.map .bl)) {A:Around} (hh:A.handled=none) {E:Value->Shared->Prop}
  {R:Value->Shared->Prop} (h:∀ (I':Addr) (s₂:Shared),Walks X.prog X.w A I' [I',p] [I'] bs.length (fun i v=>(bs.map Value.bool).toArray[i]?=some v) (fun i h=>h.IsListIter I' p i/\h.IsList p (bs.map Value.bool).toArray)->(s₂.heap.IsListIter I' p 0/\s₂.heap.IsList p (bs.map Value.bool).toArray) ->
   (∀ h' tk,(∀ b o,b∉[I']->s₂.heap.get? b=some o->h'.get? b=some o)->Inv X pins σ H { s₂ with heap:=h',toks:=tk })->R (.ref I') s₂):wpAny (model X.prog X.w) A (pyIter (.ref p)) R E s:=by
 obtain ⟨vs,sq,rr⟩:=ab.seq e;obtain ⟨its,rv,pl,hz⟩:=I.list sq;have eits:=dM rr rv;subst eits;have hl:=pl.isList;refine wpAny_pyIter_list hl ?_
 have hne:p≠s.heap.objs.size:=by
  obtain ⟨o,ho,_⟩:=hl;exact Nat.ne_of_lt (Heap.lt_size ho)
 have W:=Walks.list (prog:=X.prog) (w:=X.w) hh s.heap.objs.size p hne (bs.map Value.bool).toArray;have hn:(bs.map Value.bool).toArray.size=bs.length:=by simp
 rw [hn] at W;refine h _ _ W ⟨⟨_,Heap.get?_push_size _ rfl,rfl,rfl⟩,hl.push _⟩ fun h' tk k=>I.kept fun b o e=>k b o (fun hm=>?_) (Heap.get?_push_of_some _ e);rw [List.mem_singleton] at hm;exact Nat.ne_of_lt (Heap.lt_size e) hm
theorem zd3 {P:Program} {w:World} {A:Around} {bs:List Bool}:TruthOf P w A (fun i v=>(bs.map Value.bool).toArray[i]?=some v) (fun i=>(bs[i]?).getD false):=by
 intro i v s Q E h q;have h':(bs[i]?).map Value.bool=some v:=by simpa using h
 cases e:bs[i]? with
 |none=>rw [e] at h';cases h'
 |some b =>
  rw [e] at h';cases h';have q':Q ((bs[i]?).getD false) s:=q;rw [e] at q';exact wpAny_truthy_bool q'
theorem zjf {X:Cx} (hc:X.calm=true):qS X (.builtin "all") (nU X.K (allS (·.all id))):=by
 intro pins s σ H xs us Q I r h;obtain ⟨ws,G,rs,ab,h⟩:=h;unfold allS at h
 split at h
 .rename_i p;obtain ⟨v,rfl,rv⟩:=kQ rs;cases (show v=.ref p from rv);obtain ⟨bs,e,h⟩:=h;obtain ⟨u,rfl,ru⟩:=qB r;cases ru;refine call_all_walk (zfg hc I ab e (A:=X.A.in1) (I.ok.hd hc) fun I' s₂ W st k=>⟨I',_,_,_,_,_,_,rfl,W,st,zd3,fun h' tk hk=>?_⟩);rw [zdW];exact ⟨.bl (bs.all id),H,k h' tk hk,rfl,h _ H .refl rfl ab⟩
 .exact h.elim
def tyO (G:Hw):W->Option String
 | .non=>some "NoneType"
 | .bl _=>some "bool"
 | .int _=>some "int"
 | .str _=>some "str"
 | .tup _=>some "tuple"
 | .ref p=>match G p with
  |some (.lst _)=>some "list"
  |some (.fix _)=>some "list"
  |some (.dic _)=>some "dict"
  |_=>none
 |_=>none
def popS:MS:=fun x ws G Q=>match x,ws with
 | .ref p,[]=>(match G p with
  |some (.lst xs)=>(match xs[xs.length-1]? with|some y=>Q y (put G p (.lst xs.dropLast))|none=>False)
  |_=>False)
 |_,_=>False
theorem bW:∀ x ws G (Q Q':Q3),(∀ w G',Q w G'->Q' w G')->popS x ws G Q->popS x ws G Q':=by
 intro x ws G Q Q' k h;unfold popS at h ⊢
 split at h
 .split at h
  .split at h
   .exact k _ _ h
   .exact h.elim
  .exact h.elim
 .exact h.elim
theorem zhX {X:Cx}:MtR X "list.pop" (lowM X.K popS):=by
 intro pins s σ H x xs v us Q I rx rxs h;obtain ⟨w,ws,G,rw1,rs,ab,h⟩:=h;unfold popS at h
 split at h
 .rename_i p;cases (show x=.ref p from rw1);cases (show xs=[] from rs)
  split at h
  .rename_i ys e
   split at h
   .rename_i y ey;obtain ⟨vs,ev,rr⟩:=ab.lst e;obtain ⟨vy,evy,ry⟩:=rr.get ey;have gr:xZ X.K H (xB H p (.lst vs.dropLast)):=ab.grow e;exact zim pins s σ H _ _ v us Q I rx rxs ⟨p,vs,vy,rfl,rfl,ev,by rw [rr.length];exact evy,h vy _ gr (ry.mono gr) (ab.chg e ⟨_,rfl,rr.dropLast.mono gr⟩)⟩
   .exact h.elim
  .exact h.elim
 .exact h.elim
def appS:MS:=fun x ws G Q=>match x,ws with
 | .ref p,[y]=>(match G p with
  |some (.lst xs)=>xs.length<sizeLine/\Q .non (put G p (.lst (xs++[y])))
  |_=>False)
 |_,_=>False
theorem zax:∀ x ws G (Q Q':Q3),(∀ w G',Q w G'->Q' w G')->appS x ws G Q->appS x ws G Q':=by
 intro x ws G Q Q' k h;unfold appS at h ⊢
 split at h
 .split at h
  .exact ⟨h.1,k _ _ h.2⟩
  .exact h.elim
 .exact h.elim
theorem zje {X:Cx}:MtR X "list.append" (lowM X.K appS):=by
 intro pins s σ H x xs v us Q I rx rxs h;obtain ⟨w,ws,G,rw1,rs,ab,h⟩:=h;unfold appS at h
 split at h
 .rename_i p y;cases (show x=.ref p from rw1);obtain ⟨vy,rfl,ry⟩:=kQ rs
  split at h
  .rename_i ys e;obtain ⟨vs,ev,rr⟩:=ab.lst e;have gr:xZ X.K H (xB H p (.lst (vs++[vy]))):=ab.grow e;exact zc3 pins s σ H _ _ v us Q I rx rxs ⟨p,vs,vy,rfl,rfl,ev,by rw [rr.length];exact h.1,h.2 .non _ gr (show wQ X.K _ .non .non from rfl) (ab.chg e ⟨_,rfl,(rr.append (show zC X.K H [y] [vy] from ⟨vy,[],rfl,ry,rfl⟩)).mono gr⟩)⟩
  .exact h.elim
 .exact h.elim
def rngI (ws:List W) (G:Hw) (R:List W->(Hw->Prop)->Hw->Prop):Prop:=match ws with
 | [.int j]=>(-(2 ^ 62)<=j/\j<2 ^ 62)/\R ((List.range j.toNat).map fun i=>.int (i:Nat)) (fun _=>True) G
 |_=>False
theorem ziM {K:yG} {H1:Hp} {n:Nat}:ItIs K (Itr 0 n) H1 ((List.range n).map fun i=>W.int (i:Nat)) (fun _=>True) where
 go:=fun i H G _ ab st hi=>by show i<n;simpa using hi
 yld:=fun i H G x H' _ ab st hi y=>by
  obtain ⟨rfl,rfl⟩:=y;have hi':i<n:=by simpa using hi
  refine ⟨.int (i:Nat),by simp [hi'],.refl,?_,ab⟩;show V.int (0+(i:Int))=V.int (i:Int);rw [Int.zero_add]
 stop:=fun i H G _ ab st hi=>by show n<=i;simpa using hi
def ItE (p:Par) (i:It3):Prop:=∀ X,Fits p X->Gl X i.nm->∀ (tg:Expr) (args:List Expr) (t:A3) (q pos:Pos),uD t->args.all jU=true->PA X args (nT X.K t)->(args=[]->∀ σ G Q,t σ G Q->Q [] G)->(i.nm==("__debug__" : Str))=false->i.nm ≠ "__name__" ->
  PI X tg (.Call (.Name i.nm q) args [] pos) (lowI X.K fun σ G R=>t σ G fun ws G1=>i.sp ws G1 R)
theorem ziP {q:Pr} {A:Around} (hm:q.mg "range" = none):ItE (q.at A) ⟨"range", rngI⟩:=by
 intro X fits gl tg args t qp pos mt hn pa hnil hdb hnm;have hm':X.mg "range" = none:=by rw [fits.mg];exact hm
 intro pins s σ H R I h
 cases args with
 |nil =>
  obtain ⟨σ3,G,hs,ab,h⟩:=h;exact (hnil rfl _ _ _ h).elim
 |cons a r =>
  obtain ⟨s1,s2⟩:=jF (env:=X.env) (pos:=pos) hn;obtain ⟨σ3,G,hs,ab,h⟩:=h
  have h':=dH (S:=fun vs H1=>∃ j:Int,vs=[.int j]/\-(2 ^ 62)<=j/\j<2 ^ 62/\R (Itr 0 j.toNat) H1) mt hs ab h fun ws G1 vs H1 g1 hs1 rs a1 h=>by
   dsimp only at h;unfold rngI at h
   split at h
   .rename_i j;obtain ⟨v,rfl,rv⟩:=kQ rs;cases (show v=.int j from rv);exact ⟨j,rfl,h.1.1,h.1.2,h.2 _ H1 g1 a1 ziM⟩
   .exact h.elim
  refine Call_ (nP I gl hm' boot_range (PyProof.Rows.callWith_type1 (xT (pa pos pins s σ H _ I h') fun us s1 ⟨vs,H1,I1,r1,q1⟩=>?_) s1 s2));obtain ⟨j,e,q1,q2,q⟩:=q1;subst e;obtain ⟨u,rfl,t,rfl⟩:=qB r1;exact call_range_1 (zei I1 (by omega) (by omega) q1 q2 (by simpa using q))
def lofM (nm:Str):Scope->Expr->Option (List Expr):=fun sc e=>match e with
 | .Call (.Name o _) [.Call (.Name x _) xs [] _] [] _=>if o==("list" : Str)&&x==nm&&rN sc o&&rN sc x&&!xs.isEmpty then some xs else none
 |_=>none
theorem zeF {nm:Str} {sc:Scope} {e:Expr} {xs:List Expr} (h:lofM nm sc e=some xs):∃ qo q pos pos' a r,xs=a::r/\e=.Call (.Name "list" qo) [.Call (.Name nm q) (a::r) [] pos] [] pos'/\rN sc "list" = true/\rN sc nm=true:=by
 have no:¬ ((none:Option (List Expr))=some xs):=fun e=>nomatch e
 cases e with
 |Call f args kws pos' =>
  cases f with
  |Name o qo =>
   cases args with
   |nil=>exact absurd h no
   |cons c rest =>
    cases c with
    |Call g ys kw2 pos =>
     cases g with
     |Name x q =>
      cases kw2 with
      |nil =>
       cases rest with
       |nil =>
        cases kws with
        |nil =>
         replace h:(if (o==("list" : Str)&&x==nm&&rN sc o&&rN sc x&&!ys.isEmpty)=true then some ys else none)=some xs:=h
         by_cases hb:(o==("list" : Str)&&x==nm&&rN sc o&&rN sc x&&!ys.isEmpty)=true
         .rw [if_pos hb] at h;cases h;simp only [Bool.and_eq_true,beq_iff_eq,Bool.not_eq_true',List.isEmpty_eq_false_iff] at hb;obtain ⟨⟨⟨⟨rfl,rfl⟩,h1⟩,h2⟩,h3⟩:=hb
          cases xs with
          |nil=>exact absurd rfl h3
          |cons a r=>exact ⟨qo,q,pos,pos',a,r,rfl,rfl,h1,h2⟩
         .rw [if_neg hb] at h;exact absurd h no
        |cons _ _=>exact absurd h no
       |cons _ _=>exact absurd h no
      |cons _ _=>exact absurd h no
     |_=>exact absurd h no
    |_=>exact absurd h no
  |_=>exact absurd h no
 |_=>exact absurd h no
def SxE (p:Par) (k:Sx3):Prop:=∀ X,Fits p X->∀ (e:Expr) (xs:List Expr) (es:List E3),k.m X.env.scope e=some xs->zcn X xs es->xs.all jU=true->PA X xs (nT X.K (seqA es)) ->
  PE X e (xR X.K fun σ G Q=>seqA es σ G fun ws G1=>k.sp ws G1 Q)/\(∀ whole,isTrue e X.env whole=(do let v ← whole;standAt e.pos;holding [v] (truthy v)))/\∀ op vs pos,e≠.BoolOp op vs pos
theorem bC {X:Cx}:∀ {xs:List Expr} {es:List E3},zcn X xs es->uD (seqA es)
 | [],[],_=>fun σ G Q Q' k h=>k _ _ h
 |_::_,_::_,⟨m,_,r⟩=>fun σ G Q Q' k h=>m σ G _ _ (fun x G1 h=>bC r σ G1 _ _ (fun xs G2 h=>k _ _ h) h) h
theorem zhx {q:Pr} {A:Around} {nm:Str} {T:String} {sp:RS} (hl:q.mg "list" = none) (hm:q.mg nm=none) (hv:bootBuiltins nm=some (.type T)) (mono:qF sp)
  (hc:∀ X,Fits (q.at A) X->∀ (pins:List (Addr×Obj)) (s:Shared) (σ:L2.St) (H:Hp) (vs:List V) (us:List Value) (Q:VK),Inv X pins σ H s->yT vs us->nU X.K sp vs H Q ->
   wpAny (model X.prog X.w) X.A (call (.type T) us) (fun v s1=>wpAny (model X.prog X.w) X.A (call (.type "list") [v]) (EP X pins σ Q) X.xe s1) X.xe s):SxE (q.at A) ⟨lofM nm,sp⟩:=by
 intro X fits e xs es he each hn pa;obtain ⟨qo,qq,pos,pos',a,r,rfl,rfl,g1,g2⟩:=zeF he;obtain ⟨gl1,d1,n1⟩:=bH rfl g1;obtain ⟨gl2,d2,n2⟩:=bH rfl g2;have hl':X.mg "list" = none:=by rw [fits.mg];exact hl
 have hm':X.mg nm=none:=by rw [fits.mg];exact hm
 refine ⟨fun pins s σ H Q I h=>?_,fun _=>rfl,fun _ _ _ z=>nomatch z⟩;obtain ⟨s1,s2⟩:=jF (env:=X.env) (pos:=pos) hn;have h':=zaU (bC each) mono h;refine wpAny_Call_Name_kw (nP I gl1 hl' boot_list ?_ n1 d1);refine PyProof.Rows.callWith_type1 (e:=.Call (.Name nm qq) (a::r) [] pos) (rest:=[]) ?_ rfl rfl;show wpAny _ _ (spliced ((false,eval (.Call (.Name nm qq) (a::r) [] pos) X.env)::backTo pos' (starEach [] X.env))) _ _ s;refine Calls.spliced_cons (wpAny_Call_Name_kw (nP I gl2 hm' hv (PyProof.Rows.callWith_type1 (xT (pa pos pins s σ H _ I h') fun us s1 ⟨vs,H1,I1,r1,q1⟩=>?_) s1 s2) n2 d2));exact xT (hc X fits pins s1 σ H1 vs us Q I1 r1 q1) fun v s2 z=>Calls.spliced_nil z
def Itv (K:yG) (a:Addr) (n:Nat):It where
 go:=fun i H=>∃ xs,mR K H a xs/\xs.length=n/\i<n
 yld:=fun i H v H'=>H'=H/\∀ xs,mR K H a xs->xs.length=n->xs[n-1-i]?=some v
 stop:=fun i H=>i=n
theorem zb7:typeLookup (.type "list_reverseiterator") "__len__" = pure none:=by rw [typeLookup_type,builtinLookup_eq_fast];kernel_rfl
theorem zeE:typeLookup (.type "list_reverseiterator") "__length_hint__" = pure (some (.builtin "list_reverseiterator.__length_hint__")):=by rw [typeLookup_type,builtinLookup_eq_fast];kernel_rfl
theorem zfT {P:Program} {w:World} {A:Around} {it a:Addr} {i:Int} {s:Shared} {Q:Bool->Shared->Prop} {E:Value->Shared->Prop} (st:s.heap.IsRevIter it a i) (h:∀ b,Q b s):wpAny (model P w) A (Builtin.List.listLengthHint (.ref it)) Q E s:=by
 have hT:=st.typeIs;unfold Builtin.List.listLengthHint;refine wpAny_bind (wpAny_specialOf hT zb7 ?_);show wpAny _ _ (specialOf (Value.ref it) (Str.ofString "__length_hint__") >>= _) _ _ _;refine wpAny_bind (wpAny_specialOf hT zeE ?_)
 (generalize hid:("list_reverseiterator.__length_hint__" : String)=id0;(fail_if_success (clear hid id0));wp_delta;rw [show splitId id0=some ("list_reverseiterator", "__length_hint__") from by subst hid;decide +kernel];subst hid)
 refine wpAny_bind (wpAny_isInstance (b:=true) hT (by rw [isSubtype_type];kernel_rfl) ?_);exact wpAny_pure (h _)
theorem zeg (P:Program) (w:World) (K:yG) {it a:Addr} {n:Nat} (hne:a≠it):TurnL P w K "list_reverseiterator" (Itv K a n) [it] it (fun i h=>i<=n/\h.IsRevIter it a ((n:Int)-1-i)) where
 mem:=by simp
 ty:=fun i h ⟨_,o,ho,hc,_⟩=>⟨o,ho,hc⟩
 obj:=fun i h ⟨_,o,ho,hc,hd⟩ b hb=>by
  rw [List.mem_singleton] at hb;subst hb;exact ⟨o,ho,fun v z=>by rw [hd] at z;cases z⟩
 keep:=fun i h h' ⟨hi,x⟩ k=>⟨hi,x.at fun o e=>k it (by simp) o e⟩
 item:=by
  intro X e1 e2 e3 hc i pins s σ H E I hf st go;subst e1;subst e2;subst e3;obtain ⟨hi,st⟩:=st;obtain ⟨xs,sq,ln,hlt⟩:=go;obtain ⟨its,rv,pl,hz⟩:=I.list sq;have hlx:n-1-i<xs.length:=by omega
  obtain ⟨u,eu,ru⟩:=rv.get (List.getElem?_eq_getElem hlx);have e:(n:Int)-1-(i:Int)=((n-1-i:Nat):Int):=by omega
  rw [e] at st;refine wpAny_pyNext_rev_item st pl.isList (x:=u) (by simpa using eu) fun h' st' sb=>?_;have e':((n-1-i:Nat):Int)-1=(n:Int)-1-((i+1:Nat):Int):=by omega
  rw [e'] at st';obtain ⟨f1,f2,f3,f4,f5,f6⟩:=hf it (by simp);refine ⟨u,xs[n-1-i],H,rfl,I.turned (t':=s.toks) (fun b o hb e=>sb.extBut b o hb e) f1 f2 f4 f5 f6,ru,⟨rfl,fun ys sq' _=>by rw [I.list_inj sq' sq];exact List.getElem?_eq_getElem hlx⟩,⟨hlt,st'⟩,fun b hb=>(hf b hb).1⟩
 done:=by
  intro X e1 e2 e3 hc i pins s σ H E I hf st stop;subst e1;subst e2;subst e3;obtain ⟨hi,st⟩:=st;have hin:i=n:=stop;subst hin;have e:(i:Int)-1-(i:Int)=-1:=by omega
  rw [e] at st;obtain ⟨f1,f2,f3,f4,f5,f6⟩:=hf it (by simp);exact wpAny_pyNext_rev_end (I.ok.hd hc) st fun h' k=>⟨rfl,I.turned (t':=s.toks) (fun b o hb e=>k b o hb e) f1 f2 f4 f5 f6⟩
 self:=fun A i s Q E st h=>wpAny_pyIter_revIter st.2 h
 hint:=fun A i s Q E st h=>zfT st.2 h
def revS:RS:=fun ws G Q=>match ws with
 | [.ref p]=>∃ xs,yJ G p=some xs/\∀ r,G r=none->Q (.ref r) (put G r (.lst xs.reverse))
 |_=>False
theorem cB:qF revS:=by
 intro ws G Q Q' k h;unfold revS at h ⊢
 split at h
 .obtain ⟨xs,e1,h⟩:=h;exact ⟨xs,e1,fun p hp=>k _ _ (h p hp)⟩
 .exact h.elim
theorem zhL {X:Cx} (hc:X.calm=true) (pins:List (Addr×Obj)) (s:Shared) (σ:L2.St) (H:Hp) (vs:List V) (us:List Value) (Q:VK) (I:Inv X pins σ H s) (r:yT vs us) (h:nU X.K revS vs H Q) :
  wpAny (model X.prog X.w) X.A (call (.type "reversed") us) (fun v s1=>wpAny (model X.prog X.w) X.A (call (.type "list") [v]) (EP X pins σ Q) X.xe s1) X.xe s:=by
 obtain ⟨ws,G,rs,ab,h⟩:=h;unfold revS at h
 split at h
 .rename_i p;obtain ⟨v,rfl,rv⟩:=kQ rs;cases (show v=.ref p from rv);obtain ⟨u,rfl,ru⟩:=qB r;cases (show u=Value.ref p from ru);obtain ⟨xs,e,h⟩:=h;obtain ⟨vs,sq,rr⟩:=ab.seq e;obtain ⟨its,vv,pl,hz⟩:=I.list sq;have hl:=pl.isList
  have hlt:p<s.heap.objs.size:=by
   obtain ⟨o,ho,_⟩:=hl;exact Heap.lt_size ho
  refine call_reversed_list hl ?_;have I1:Inv X pins σ H { s with heap:=s.heap.push (revObj p ((its.toArray.size:Int)-1)),toks:=s.toks }:=I.kept fun b u e=>Heap.get?_push_of_some _ e;have en:its.toArray.size=vs.length:=by rw [zzS,← vv.length]
  refine zc8 hc (by decide) (by decide) I1 (zeg X.prog X.w X.K (n:=vs.length) (Nat.ne_of_lt hlt)) ⟨Nat.zero_le _,?_⟩ (fun b hb=>?_) vs.length hz
   (fun i acc H'=>H'=H/\acc=vs.reverse.take i) ⟨rfl,by simp⟩ ?_ ?_
  .refine ⟨_,Heap.get?_push_size _ rfl,rfl,?_⟩;show Data.fields #[.ref p,rawInt ((its.toArray.size:Int)-1)]=_;rw [en];simp
  .rw [List.mem_singleton] at hb;subst hb;exact I.fpOk (zzR _) (I.hok.fresh (zzR _))
  .rintro i acc H' hi ⟨rfl,rfl⟩;refine ⟨⟨vs,sq,rfl,hi⟩,?_⟩;rintro v H2 ⟨rfl,e2⟩;refine ⟨rfl,?_⟩;have e2:=e2 vs sq rfl;have hl':i<vs.reverse.length:=by simpa using hi
   rw [List.take_succ_eq_append_getElem hl'];congr 2;have:vs.reverse[i]?=some v:=by rw [List.getElem?_reverse hi];exact e2
   exact (Option.some.inj ((List.getElem?_eq_getElem hl').symm.trans this)).symm
  .rintro acc H' ⟨rfl,rfl⟩;refine ⟨rfl,?_⟩;rw [List.take_of_length_le (by simp)];exact uX ab rr.reverse h
 .exact h.elim
end L3
namespace L3
open PySem PySem.Spec PyProof.Rows L2
def zW (S:List Addr) (G G':Hw):Prop:=∀ a o,a∉S->G a=some o->G' a=some o
theorem zW.refl {S:List Addr} {G:Hw}:zW S G G:=fun _ _ _ h=>h
theorem zW.trans {S:List Addr} {G G1 G2:Hw} (a:zW S G G1) (b:zW S G1 G2):zW S G G2:=fun x o hx h=>b x o hx (a x o hx h)
theorem zW.put {S:List Addr} {G:Hw} {p:Addr} {o:O} (h:p∈S):zW S G (put G p o):=fun x u hx hu=>by
 rw [wJ (fun e:x=p=>hx (e▸h))];exact hu
theorem zW.new {S:List Addr} {G:Hw} {p:Addr} {o:O} (h:G p=none):zW S G (L3.put G p o):=fun x u hx hu=>by
 rw [wJ (bI hu h)];exact hu
theorem zW.none {S:List Addr} {G G':Hw} {p:Addr} (k:zW S G G') (hp:p∉S) (h:G' p=Option.none):G p=Option.none:=by
 cases e:G p with
 |none=>rfl
 |some o=>rw [k p o hp e] at h;cases h
abbrev kS:xV:=.inr "seed"
abbrev kN:xV:=.inr "number"
abbrev kL:xV:=.inr "left"
def zi5 (seed num:Int) (l:Addr):O:=.dic [(kS,.int seed),(kN,.int num),(kL,.ref l)]
structure DealS (G:Hw) (d l:Addr) (seed num:Int) (left:List Int):Prop where
 dic:G d=some (zi5 seed num l)
 lst:G l=some (.lst (left.map .int))
 s0:0<=seed
 s1:seed<2147483647
 n0:0<=num
 lf:∀ x∈left,(0:Int)<=x
 len:left.length<=63
 ne:d≠l
def xY (G:Hw) (d l:Addr):Prop:=∃ seed num left,DealS G d l seed num left
theorem dgS {a b c:W}:nL [(kS,a),(kN,b),(kL,c)] kS=some a:=by rfl
theorem dgN {a b c:W}:nL [(kS,a),(kN,b),(kL,c)] kN=some b:=by
 have e1:¬ (kS=kN):=by decide +kernel
 unfold nL;rw [List.find?_cons_of_neg (by simp [e1]),List.find?_cons_of_pos (by simp)];rfl
theorem dgL {a b c:W}:nL [(kS,a),(kN,b),(kL,c)] kL=some c:=by
 have e1:¬ (kS=kL):=by decide +kernel
 have e2:¬ (kN=kL):=by decide +kernel
 unfold nL;rw [List.find?_cons_of_neg (by simp [e1]),List.find?_cons_of_neg (by simp [e2]),List.find?_cons_of_pos (by simp)];rfl
theorem dpN {a b c x:W}:cQ [(kS,a),(kN,b),(kL,c)] kN x=[(kS,a),(kN,x),(kL,c)]:=by
 unfold cQ;have e1:¬ (kS=kN):=by decide +kernel
 have e2:¬ (kL=kN):=by decide +kernel
 simp [e1,e2]
theorem dpS {a b c x:W}:cQ [(kS,a),(kN,b),(kL,c)] kS x=[(kS,x),(kN,b),(kL,c)]:=by
 unfold cQ;have e1:¬ (kN=kS):=by decide +kernel
 have e2:¬ (kL=kS):=by decide +kernel
 simp [e1,e2]
def zjb:ISs:=(.cons (.whl (.and (.cmp .Eq (.ix (.var 0) (.con (.str "number"))) (.con (.int 0))) (.cmp .Gt (.call 1 (.cons (.ix (.var 0) (.con (.str "left"))) .nil)) (.con (.int 0)))) (.cons (.asgI (.var 0) (.con (.str "number")) (.mth 0 (.ix (.var 0) (.con (.str "left"))) .nil))
 .nil))
 (.cons (.asg 2 (.ix (.var 0) (.con (.str "number"))))
 (.cons (.ite (.cmp .Gt (.var 2) (.con (.int 0))) (.cons (.asgI (.var 0) (.con (.str "number")) (.bin .FloorDiv (.var 2) (.var 1)))
 (.cons (.ret (.bin .Mod (.var 2) (.var 1)))
 .nil)) .nil)
 (.cons (.asg 3 (.bin .Mod (.bin .Add (.bin .Mult (.ix (.var 0) (.con (.str "seed"))) (.con (.int 48271))) (.con (.int 7919))) (.con (.int 2147483647))))
 (.cons (.asgI (.var 0) (.con (.str "seed")) (.bin .Mod (.bin .Add (.bin .Mult (.var 3) (.con (.int 40692))) (.con (.int 104729))) (.con (.int 2147483399))))
 (.cons (.asg 4 (.bin .Mod (.bin .Mult (.ix (.var 0) (.con (.str "seed"))) (.ix (.var 0) (.con (.str "seed")))) (.con (.int 2147483563))))
 (.cons (.ret (.bin .Mod (.bin .Add (.bin .Mult (.bin .Mod (.bin .Mult (.var 3) (.var 3)) (.con (.int 2147483629))) (.con (.int 2147483563))) (.var 4)) (.var 1)))
 .nil)))))))
abbrev vE:Fn3:=⟨"len", fun ws G Q _=>jC ws G Q⟩
abbrev ePop:Mt3:=⟨"pop", "list", popS⟩
theorem DealS.put {G:Hw} {d l:Addr} {seed num:Int} {left:List Int} (D:DealS G d l seed num left) {seed' num':Int} (h1:0<=seed') (h2:seed' < 2147483647) (h3:0<=num'):DealS (put G d (zi5 seed' num' l)) d l seed' num' left :=
 ⟨zV,by rw [wJ D.ne.symm];exact D.lst,h1,h2,h3,D.lf,D.len,D.ne⟩
theorem zcf {i j:Int}:vF (.int i) (.int j)=decide (i=j):=by
 simp [vF,Bool.beq_eq_decide_eq]
theorem yR {G:Hw} {i j:Int}:bD G (.int i) (.int j)=some (decide (i=j)):=by
 simp [bD,kX,dep,zcf]
theorem zeD {left:List Int}:(left.map W.int)[left.length-1]?=(left[left.length-1]?).map W.int:=by simp
theorem modb {a m:Int} (h:0<m):0<=a % m/\a % m<m:=⟨Int.emod_nonneg _ (by omega),Int.emod_lt_of_pos _ h⟩
theorem zal {d l:Addr} {m:Int} {G G1:Hw} {Q:Q3} {seed num:Int} {left:List Int} (D:DealS G1 d l seed num left) (kp:zW [d,l] G G1) (hm:0<m/\m<1073741824) (few:∀ {a b c:W},[(kS,a),(kN,b),(kL,c)].length<sizeLine)
  (hq:∀ r G',0<=r->r<m->zW [d,l] G G'->xY G' d l->Q (.int r) G'):if decide (0<num)=true then
   CDiv num m/\[(kS,W.int seed),(kN,W.int num),(kL,W.ref l)].length<sizeLine/\0<m/\Q (W.int (num % m)) (put G1 d (O.dic [(kS,W.int seed),(kN,W.int (num / m)),(kL,W.ref l)]))
  else
   CMul seed 48271/\(0:Int)<2147483647/\CMul ((seed * 48271+7919) % 2147483647) 40692/\(0:Int)<2147483399/\[(kS,W.int seed),(kN,W.int num),(kL,W.ref l)].length<sizeLine /\
   CMul (((seed * 48271+7919) % 2147483647 * 40692+104729) % 2147483399) (((seed * 48271+7919) % 2147483647 * 40692+104729) % 2147483399)/\(0:Int)<2147483563 /\
   CMul ((seed * 48271+7919) % 2147483647) ((seed * 48271+7919) % 2147483647)/\(0:Int)<2147483629 /\
   CMul ((seed * 48271+7919) % 2147483647 * ((seed * 48271+7919) % 2147483647) % 2147483629) 2147483563/\0<m /\
   Q (W.int (((seed * 48271+7919) % 2147483647 * ((seed * 48271+7919) % 2147483647) % 2147483629 * 2147483563+((seed * 48271+7919) % 2147483647 * 40692+104729) % 2147483399 * (((seed * 48271+7919) % 2147483647 * 40692+104729) % 2147483399) % 2147483563) % m))
    (put G1 d (O.dic [(kS,W.int (((seed * 48271+7919) % 2147483647 * 40692+104729) % 2147483399)),(kN,W.int num),(kL,W.ref l)])):=by
 split
 .exact ⟨hm,few,hm.1,hq _ _ (modb hm.1).1 (modb hm.1).2 (kp.trans (zW.put (by simp))) ⟨seed,num / m,left,D.put D.s0 D.s1 (Int.ediv_nonneg D.n0 (by omega))⟩⟩
 .have b1:=modb (a:=seed * 48271+7919) (m:=2147483647) (by decide);generalize (seed * 48271+7919) % 2147483647=x at b1 ⊢;have b2:=modb (a:=x * 40692+104729) (m:=2147483399) (by decide);generalize (x * 40692+104729) % 2147483399=y at b2 ⊢;refine ⟨.inr ⟨by decide,by decide⟩,by decide,.inr ⟨by decide,by decide⟩,by decide,few,.inl ⟨by omega,by omega⟩,by decide,.inl ⟨by omega,by omega⟩,by decide,.inr ⟨by decide,by decide⟩,hm.1,?_⟩;exact hq _ _ (modb hm.1).1 (modb hm.1).2 (kp.trans (zW.put (by simp))) ⟨y,num,left,D.put b2.1 (by omega) D.n0⟩
theorem ze6 {Γ:Ctx3} (h1:Γ.fn[1]?=some vE) (h2:Γ.mt[0]?=some ePop) {d l:Addr} {m:Int} {G:Hw} {Q:Q3} {nx:qK->Hw->Prop} (D:xY G d l) (hm:0<m/\m<1073741824)
  (hq:∀ r G',0<=r->r<m->zW [d,l] G G'->xY G' d l->Q (.int r) G'):zH Γ XN zjb { nx:=nx,rt:=Q } [some (.ref d),some (.int m),none,none,none] G:=by
 obtain ⟨seed,num,left,D⟩:=D;dsimp only [zjb,zH,zQ,zS,zM,zF,zB,yV,yU,zO,zU,zJ,List.getElem?_cons_zero,List.getElem?_cons_succ,List.set_cons_zero,List.set_cons_succ];simp only [h1,h2];refine ⟨fun k σ G'=>σ=[some (.ref d),some (.int m),none,none,none]/\zW [d,l] G G'/\∃ num left,k=left.length/\DealS G' d l seed num left,⟨_,rfl,.refl,num,left,rfl,D⟩,?_⟩;rintro k σ G1 ⟨rfl,kp,num,left,rfl,D⟩;have hd:G1 d=some (.dic [(kS,.int seed),(kN,.int num),(kL,.ref l)]):=D.dic;have hl:G1 l=some (.lst (left.map .int)):=D.lst;have hds:∀ o,(put G1 d o) d=some o:=fun o=>zV;have hdl:∀ o,(put G1 l o) d=some (.dic [(kS,.int seed),(kN,.int num),(kL,.ref l)]):=fun o=>by rw [wJ D.ne];exact hd
 have few:∀ {a b c:W},[(kS,a),(kN,b),(kL,c)].length<sizeLine:=by intros;show 3<sizeLine;rw [sizeLine_eq];decide
 simp only [List.getElem?_cons_zero,List.getElem?_cons_succ,List.set_cons_zero,List.set_cons_succ,pG,hd,bO,dgN,dgL,dgS,yK,yR,yZ,jC,jD,hl,zzM,tyW,popS,tU,zeD,setR,hdl,hds,dpN,dpS,jS]
 by_cases hn:num=0
 .simp only [decide_eq_true hn,if_true]
  by_cases hlen:(0:Int)<(left.length:Int)
  .simp only [decide_eq_true hlen,if_true];have hlast:left.length-1<left.length:=by omega
   rw [List.getElem?_eq_getElem hlast];simp only [Option.map_some];refine ⟨trivial,few,left.dropLast.length,by rw [List.length_dropLast];omega,trivial,?_,left[left.length-1],left.dropLast,rfl,?_⟩
   .exact (kp.trans (zW.put (by simp))).trans (zW.put (by simp))
   .refine ⟨zV,?_,D.s0,D.s1,D.lf _ (List.getElem_mem hlast),fun x hx=>D.lf x (List.dropLast_subset _ hx),by have:=D.len;rw [List.length_dropLast];omega,D.ne⟩;rw [wJ D.ne.symm,zV,List.map_dropLast]
  .simp only [decide_eq_false hlen,zzB,if_false];exact zal D kp hm few hq
 .simp only [decide_eq_false hn,zzB,if_false];exact zal D kp hm few hq
theorem zaY {items:List W} {stab:Hw->Prop} {G1:Hw} {turn:W->Hw->(Option W->Hw->Prop)->Prop} {Q:Q3} (f:W->Option W) (hs:stab G1) (hl:items.length<=sizeLine) (ht:∀ w∈items,∀ K:Option W->Hw->Prop,K (f w) G1->turn w G1 K)
  (hq:∀ p,G1 p=none->Q (.ref p) (put G1 p (.lst (items.filterMap f)))):lcR items stab G1 turn Q:=by
 refine ⟨fun i acc G=>G=G1/\acc=(items.take i).filterMap f,⟨rfl,by simp⟩,?_,hl,?_,?_⟩
 .rintro i acc G ⟨rfl,rfl⟩ hi;refine ⟨hs,Nat.le_trans (List.length_filterMap_le _ _) ?_⟩;rw [List.length_take];omega
 .rintro i w acc G hi ⟨rfl,rfl⟩;have hlt:i<items.length:=(List.getElem?_eq_some_iff.mp hi).1;have hw:items[i]=w:=(List.getElem?_eq_some_iff.mp hi).2;refine ht w (List.mem_of_getElem? hi) _ ?_;have et:items.take (i+1)=items.take i++[w]:=by rw [List.take_succ_eq_append_getElem hlt,hw]
  cases e:f w with
  |some x=>exact ⟨rfl,by rw [et,List.filterMap_append];simp [e]⟩
  |none=>exact ⟨rfl,by rw [et,List.filterMap_append];simp [e]⟩
 .rintro acc G ⟨rfl,rfl⟩ p hp;rw [List.take_length];exact hq p hp
theorem zdG {α β:Type} (f:α->β) (xs:List α) (lo hi:Option Int):uA (xs.map f) lo hi=(uA xs lo hi).map f:=by
 unfold uA;rw [zzM,List.map_take,List.map_drop]
theorem zg9 {α:Type} (xs:List α) (lo hi:Option Int):(uA xs lo hi).length<=xs.length:=by
 unfold uA;rw [List.length_take,List.length_drop];omega
def zjc:ISs:=(.cons (.asg 2 (.lc (.nm 0) ["_law_cell"] [] (.val (.sl (.var 0) (.yes (.var 1)) (.yes (.con (.int 63))))) .no (.call 0 (.cons (.var 0) (.cons (.bin .Sub (.con (.int 0)) (.var 0)) .nil)))))
 (.cons (.asg 3 (.bin .Add (.con (.int 7919)) (.var 1)))
 (.cons (.for (.nm 4) (.val (.var 2)) (.cons (.asg 3 (.bin .Mod (.bin .Add (.bin .Mult (.var 3) (.con (.int 69621))) (.bin .Mod (.var 4) (.con (.int 2147483629)))) (.con (.int 2147483647))))
 .nil))
 (.cons (.ret (.dct ["seed", "number", "left"] (.cons (.var 3) (.cons (.con (.int 0)) (.cons (.spc 0 (.cons (.lc (.nm 0) ["_law_cell"] [] (.val (.var 2)) (.yes (.cmp .GtE (.var 0) (.bin .Pow (.con (.int 10)) (.con (.int 18))))) (.var 0)) .nil)) .nil)))))
 .nil))))
abbrev eMax:Fn3:=⟨"max", fun ws G Q _=>maxS ws G Q⟩
abbrev eRev:Sx3:=⟨lofM "reversed", revS⟩
def mF (x:Int):Int:=if 0-x > x then 0-x else x
theorem zhg (x:Int):0<=mF x:=by unfold mF;split<;>omega
theorem zG {G:Hw} {p:Addr} {ws:List W} (h:G p=some (.lst ws)):yJ G p=some ws:=by unfold yJ;rw [h]
theorem dct3 {a b c:W}:ze9 ["seed", "number", "left"] [a,b,c]=[(kS,a),(kN,b),(kL,c)]:=by
 have e1:¬ (kS=kN):=by decide +kernel
 have e2:¬ (kS=kL):=by decide +kernel
 have e3:¬ (kN=kL):=by decide +kernel
 simp [ze9,cQ,e1,e2,e3]
def mP (G:Hw) (w:W) (ns:List Int):Prop:=(∃ a,w=.ref a/\yJ G a=some (ns.map .int))\/w=.lsf (ns.map .int)
theorem mP.sl {G:Hw} {w:W} {ns:List Int} (h:mP G w ns) {lo hi:Option Int} {Q:Q3} (hq:∀ r,G r=none->Q (.ref r) (put G r (.lst (uA (ns.map W.int) lo hi)))):slR w lo hi G Q:=by
 rcases h with ⟨a,rfl,e⟩|rfl
 .simp only [slR,e];exact hq
 .exact hq
theorem ze8 {Γ:Ctx3} (h0:Γ.fn[0]?=some eMax) (h2:Γ.sx[0]?=some eRev) {a:W} {base:Int} {ns:List Int} {G:Hw} {Q:Q3} {nx:qK->Hw->Prop} (hs:mP G a ns) (hl:ns.length<=63) (hb:0<=base/\base<=1000)
  (hq:∀ d l G',G d=none->G l=none->zW [] G G'->xY G' d l->Q (.ref d) G'):zH Γ XN zjc { nx:=nx,rt:=Q } [some a,some (.int base),none,none,none] G:=by
 dsimp only [zjc,zH,zQ,zS,zM,zF,zB,yV,yU,zO,zU,zR,zN,zP,zT,zJ,List.getElem?_cons_zero,List.getElem?_cons_succ,zL];simp only [h0,h2,kJ];refine hs.sl fun p1 hp1=>?_;dsimp only;have hp1':yJ (put G p1 (.lst (uA (ns.map W.int) (some base) (some 63)))) p1=some (uA (ns.map W.int) (some base) (some 63)):=zG zV;rw [hp1'];rw [zdG];generalize ecs:uA ns (some base) (some 63)=cs;have hcl:cs.length<=63:=by rw [← ecs];exact Nat.le_trans (zg9 _ _ _) hl
 rw [zdG,ecs] at hp1';refine zaY (fun w=>match w with|.int x=>some (.int (mF x))|_=>none) hp1' (by rw [zzM,sizeLine_eq];omega) ?_ ?_
 .intro w hw K hK;obtain ⟨x,hx,rfl⟩:=zzP hw;simp only [dN,List.length_cons,List.length_nil,List.replicate,zzV,List.append_nil,List.set_cons_zero,List.getElem?_cons_zero,jS,maxS,if_true];exact hK
 .intro p2 hp2
  have ef:(cs.map W.int).filterMap (fun w=>match w with|.int x=>some (.int (mF x))|_=>none)=(cs.map mF).map W.int:=by
   rw [List.filterMap_map,List.map_map,← List.filterMap_eq_map];rfl
  rw [ef];generalize eG:put (put G p1 (.lst (cs.map W.int))) p2 (.lst ((cs.map mF).map W.int))=G2;have kp2:zW [] G G2:=by rw [← eG];exact (zW.new hp1).trans (zW.new hp2)
  have g2:G2 p2=some (.lst ((cs.map mF).map W.int)):=by rw [← eG];exact zV
  simp only [List.getElem?_cons_zero,List.getElem?_cons_succ,List.set_cons_zero,List.set_cons_succ,jS,zG g2];refine ⟨fun i σ G'=>G'=G2/\∃ (n:Int) (c:Option W),σ=[some a,some (.int base),some (.ref p2),some (.int n),c]/\0<=n/\n<2147483647,⟨rfl,7919+base,none,rfl,by omega,by omega⟩,?_,?_,?_⟩
  .rintro i σ G' ⟨rfl,_⟩ _;exact zG g2
  .rintro i w σ G' hi ⟨rfl,n,c,rfl,n0,n1⟩;have hw:=List.mem_of_getElem? hi;obtain ⟨x,hx,rfl⟩:=zzP hw;simp only [List.getElem?_cons_zero,List.getElem?_cons_succ,List.set_cons_zero,List.set_cons_succ,jS];exact ⟨.inr ⟨by decide,by decide⟩,by decide,by decide,trivial,_,_,rfl,(modb (by decide)).1,(modb (by decide)).2⟩
  .rintro σ G' ⟨rfl,n,c,rfl,n0,n1⟩;intro d hd;simp only [List.getElem?_cons_zero,List.getElem?_cons_succ];have g3:(put G' d (.dic [])) p2=some (.lst ((cs.map mF).map W.int)):=by rw [wJ (bI g2 hd)];exact g2
   simp only [zG g3];refine zaY (fun w=>match w with|.int x=>if (10:Int) ^ 18<=x then some (.int x) else none|_=>none) (zG g3) (by rw [zzM,zzM,sizeLine_eq];omega) ?_ ?_
   .intro w hw K hK;obtain ⟨x,hx,rfl⟩:=zzP hw;simp only [dN,List.length_cons,List.length_nil,List.replicate,zzV,List.append_nil,List.set_cons_zero,List.getElem?_cons_zero,jS,yK,tU,yZ];refine ⟨⟨by decide,by decide,by decide⟩,?_⟩;have e18:(10:Int) ^ (18:Int).toNat=10 ^ 18:=rfl;rw [e18]
    by_cases hx:(10:Int) ^ 18<=x
    .rw [decide_eq_true hx,if_pos rfl];simp only [if_pos hx] at hK;exact hK
    .rw [decide_eq_false hx,if_neg zzN];simp only [if_neg hx] at hK;exact hK
   .intro p3 hp3
    have ef:((cs.map mF).map W.int).filterMap (fun w=>match w with|.int x=>if (10:Int) ^ 18<=x then some (.int x) else none|_=>none)=((cs.map mF).filter fun x=>decide ((10:Int) ^ 18<=x)).map W.int:=by
     generalize cs.map mF=ys
     induction ys with
     |nil=>rfl
     |cons y ys ih =>
      rw [zzU,List.filterMap_cons,List.filter_cons]
      by_cases hy:(10:Int) ^ 18<=y
      .simp only [if_pos hy,decide_eq_true hy,if_true,zzU,ih]
      .simp only [if_neg hy,decide_eq_false hy,zzB,if_false,ih]
    rw [ef];generalize efl:(cs.map mF).filter (fun x=>decide ((10:Int) ^ 18<=x))=fl;have flen:fl.length<=63:=by rw [← efl];refine Nat.le_trans (List.length_filter_le _ _) ?_;rw [zzM];exact hcl
    have fnn:∀ x∈fl,(0:Int)<=x:=fun x hx=>by
     rw [← efl] at hx;obtain ⟨y,hy,rfl⟩:=zzP (List.mem_filter.mp hx).1;exact zhg y
    refine ⟨fl.map W.int,zG zV,fun l hl'=>?_⟩
    have ned:d≠l:=fun e=>by
     subst e;rw [wJ (bI zV hp3),zV] at hl';cases hl'
    have np3:d≠p3:=bI zV hp3;refine ⟨by rw [wJ ned,wJ np3,zV],rfl,?_⟩;rw [dct3];refine hq d l _ (kp2.none (by simp) hd) ?_ ?_ ⟨n,0,fl.reverse,zV,?_,n0,n1,by omega,fun x hx=>fnn x (List.mem_reverse.mp hx),by rw [List.length_reverse];exact flen,ned⟩
    .have k3:zW [] G (put (put G' d (.dic [])) p3 (.lst (fl.map W.int))):=(kp2.trans (zW.new hd)).trans (zW.new hp3);exact k3.none (by simp) hl'
    .intro x u hx hu;rw [wJ (bI hu (kp2.none (by simp) hd))];exact ((((kp2.trans (zW.new hd)).trans (zW.new hp3)).trans (zW.new hl')) x u hx hu)
    .rw [wJ ned.symm,zV,← List.map_reverse]
structure FunD (K:yG) (x qual:Str) (st:Stmt) (dV:Value) (f:Addr) (fd:FuncData):Prop where
 ex:∃ (oc:Value) (od:Option Addr) (kV doc pm:Value) (an:Option Addr) (cdv ct:Value) (osl:Array (Option Value)),
  fd=PySem.W.fnOf x qual (yX st) (zI st) (zY st) dV kV doc pm an cdv ct/\K.lookup f=some ⟨oc,od,.func fd,osl⟩/\PySem.W.codeIn K cdv qual=true
 kp:PySem.W.keepIn K (.ref f)=true
theorem za1 {Γ:Ctx3} {q:Pr} {k:Nat} {M:MC} {x qual:Str} {st:Stmt} {dV:Value} {f:Addr} {fd:FuncData} {ps:List Str} {sp:uH} {body:ISs} (F:FunD q.K x qual st dV f fd) (S:FnScope M.N ps (zY st)) (g:∀ A,Room k A->Good Γ (q.at A))
  (eM:MOk Γ M (zY st)) (hm:kF body M (zI st)=true) (len:∀ ws G Q,sp ws G Q XN->ws.length=ps.length)
  (hb:∀ ws G Q,sp ws G Q XN->zH Γ XN body { nx:=fun _ G'=>Q .non G',rt:=Q } (yM M.N ws) G):FnOk q.prog q.w q.K q.mg q.base CX0 (k+1) f fd ps (sF q.K sp):=by
 obtain ⟨oc,od,kV,doc,pm,an,cdv,ct,osl,rfl,lk,hcd⟩:=F.ex;refine fn_of lk hcd S (fun vs H Q E h=>?_) fun A outer s H vs Q E hr h=>?_
 .obtain ⟨ws,G,rs,ab,h⟩:=h;rw [rs.length];exact len ws G _ h
 .obtain ⟨ws,G,rs,ab,h⟩:=h;have gg:=g _ hr;refine ⟨lowS q.K (zH Γ XN body),PSs.nox (sndSs gg body M _ (zI st) ?_ hm),?_⟩
  .exact ⟨⟨rfl,rfl,rfl,rfl,rfl,rfl,rfl,rfl⟩,rfl,eM.sc.symm,S.nd,fun _ _=>rfl,by rw [eM.sc];exact S.kind,eM.fns,eM.gls,eM.mts,eM.its,eM.sxs,eM.ixs⟩
  .refine ⟨yM M.N ws,G,_,zcy rs,ab,⟨?_,?_,?_,?_⟩,hb ws G _ h⟩
   .exact fun σ G' τ H' g' _ a' z=>z .non H' g' (show wQ q.K H' .non .non from rfl) a'
   .exact fun σ G' τ H' g' _ a' z=>z.elim
   .exact fun σ G' τ H' g' _ a' z=>z.elim
   .exact fun w G' v H' g' r' a' z=>z v H' g' r' a'
structure HD (K:yG) (x qual:Str) (st:Stmt) (dV:Value) (f:Addr):Prop where
 ex:∃ (oc:Value) (od an:Option Addr) (osl:Array (Option Value)) (kV doc pm cdv ct:Value),K.lookup f=some ⟨oc,od,.func (PySem.W.fnOf x qual (yX st) (zI st) (zY st) dV kV doc pm an cdv ct),osl⟩/\PySem.W.codeIn K cdv qual=true
 kp:PySem.W.keepIn K (.ref f)=true
theorem HD.mk' {K:yG} {x qual:Str} {st:Stmt} {dV:Value} {f:Addr} {oc:Value} {od an:Option Addr} {osl:Array (Option Value)} {kV doc pm cdv ct:Value}
  (l:K.lookup f=some ⟨oc,od,.func (PySem.W.fnOf x qual (yX st) (zI st) (zY st) dV kV doc pm an cdv ct),osl⟩) (c:PySem.W.codeIn K cdv qual=true) (k:PySem.W.keepIn K (.ref f)=true):HD K x qual st dV f:=⟨⟨oc,od,an,osl,kV,doc,pm,cdv,ct,l,c⟩,k⟩
theorem HD.fd {K:yG} {x qual:Str} {st:Stmt} {dV:Value} {f:Addr} (h:HD K x qual st dV f):∃ fd,FunD K x qual st dV f fd/\∃ kV doc pm an cdv ct,fd=PySem.W.fnOf x qual (yX st) (zI st) (zY st) dV kV doc pm an cdv ct:=by
 obtain ⟨oc,od,an,osl,kV,doc,pm,cdv,ct,l,c⟩:=h.ex;exact ⟨_,⟨⟨oc,od,kV,doc,pm,an,cdv,ct,osl,rfl,l,c⟩,h.kp⟩,kV,doc,pm,an,cdv,ct,rfl⟩
def dF (f:Fn3):Prop:=∀ ws G (Q Q':Q3) E,(∀ w G',Q w G'->Q' w G')->f.sp ws G Q E->f.sp ws G Q' E
def vO (p:Par) (f:Fn3):Prop:=FnE p f/\dF f
def nJ (m:Mt3):Prop:=∀ x ws G (Q Q':Q3),(∀ w G',Q w G'->Q' w G')->m.sp x ws G Q->m.sp x ws G Q'
def zdY (m:It3):Prop:=∀ ws G (R R':List W->(Hw->Prop)->Hw->Prop),(∀ a b c,R a b c->R' a b c)->m.sp ws G R->m.sp ws G R'
def GlE (p:Par) (g:Str×W):Prop:=∀ X,Fits p X->Gl X g.1->∀ q:Pos,(g.1==("__debug__" : Str))=false->g.1 ≠ "__name__" -> PE X (.Name g.1 q) (xR X.K fun _ G Q=>Q g.2 G)
theorem zgK {Γ:Ctx3} {p:Par} (un:p.A.units+200<cLine) (fn:∀ f∈Γ.fn,vO p f) (gl:∀ g∈Γ.gl,GlE p g) (mt:∀ m∈Γ.mt,MtE p m/\nJ m) (it:∀ i∈Γ.it,ItE p i/\zdY i)
  (cl:∀ c∈Γ.cl,Cls p.K c.1/\∀ f∈c.2,tB p.K c.1 f) (sx:∀ k∈Γ.sx,SxE p k/\qF k.sp) (ix:Γ.ix=[]):Good Γ p where
 mono:=⟨fun f hf=>(fn f hf).2,fun m hm=>(mt m hm).2,fun i hi=>(it i hi).2,fun k hk=>(sx k hk).2,fun k hk=>by rw [ix] at hk;cases hk⟩
 un:=un
 fn:=fun f hf=>(fn f hf).1
 gl:=gl
 mt:=fun m hm=>(mt m hm).1
 it:=fun i hi=>(it i hi).1
 cl:=cl
 sx:=fun k hk=>(sx k hk).1
 ix:=fun k hk=>by rw [ix] at hk;cases hk
theorem zD {α:Type} {P:α->Prop}:∀ x∈([]:List α),P x:=fun _ h=>nomatch h
theorem zZ {α:Type} {P:α->Prop} {a:α} {l:List α} (h:P a) (t:∀ x∈l,P x):∀ x∈a::l,P x:=fun x hx=>by
 rcases List.mem_cons.mp hx with rfl|hx
 .exact h
 .exact t x hx
theorem mV {α:Type} {P:α->Prop} {a:α} {l:List α} (t:∀ x∈l,P x) (h:P a):∀ x∈l++[a],P x:=fun x hx=>by
 rcases List.mem_append.mp hx with hx|hx
 .exact t x hx
 .rw [zzO hx];exact h
theorem qU {q:Pr} {A:Around} {x:Str} {w:W} {u:Value} {v:V} (hm:q.mg x=some u) (r:yY v u) (rp:∀ H,wQ q.K H w v):GlE (q.at A) (x,w):=by
 intro X fits gl qp hd hn;have hm':X.mg x=some u:=by rw [fits.mg];exact hm
 refine (zgb gl hm' r hd).imp fun τ H Q h=>?_;obtain ⟨σ,G,hs,ab,h⟩:=h;exact h v H .refl (by have:=rp H;rw [fits.K];exact this) ab
theorem hE {q:Pr} {A:Around} {x:Str} {T:String} (hm:q.mg x=none) (hv:bootBuiltins x=some (.type T)):GlE (q.at A) (x,.ty T):=by
 intro X fits gl qp hd hn;have hm':X.mg x=none:=by rw [fits.mg];exact hm
 refine (zgf (v:=.ty T) gl hm' hv rfl hn hd).imp fun τ H Q h=>?_;obtain ⟨σ,G,hs,ab,h⟩:=h;exact h (.ty T) H .refl rfl ab
theorem zaM {K:yG} {a:Addr} {o:Obj} {its:Array Value} {n:Nat} {ws:List W} {vs:List V} (l:K.lookup a=some o) (hc:o.cls=.type "tuple") (hd:o.data=.seq its n) (hz:its.size<=sizeLine) (hv:yT vs its.toList) (hr:∀ H,zC K H ws vs):∀ H,wQ K H (.tup ws) (.ref a) :=
 fun H=>⟨a,vs,rfl,.inr ⟨o,its,n,l,hc,hd,hz,hv⟩,hr H⟩
theorem zcM:zdY ⟨"range", rngI⟩:=by
 intro ws G R R' k h;replace h:rngI ws G R:=h;show rngI ws G R';unfold rngI at h ⊢
 split at h
 .exact ⟨h.1,k _ _ _ h.2⟩
 .exact h.elim
def zcB:uH:=fun ws G Q _=>∃ a base ns,ws=[a,.int base]/\mP G a ns/\ns.length<=63/\(0<=base/\base<=1000)/\∀ d l G',G d=none->G l=none->zW [] G G'->xY G' d l->Q (.ref d) G'
def zcA:uH:=fun ws G Q _=>∃ d l m,ws=[.ref d,.int m]/\xY G d l/\(0<m/\m<1073741824)/\∀ r G',0<=r->r<m->zW [d,l] G G'->xY G' d l->Q (.int r) G'
theorem zaA:dF ⟨"_law_deal", zcB⟩:=fun ws G Q Q' E k hh=>by
 obtain ⟨a,b,ns,h1,h2,h3,h4,h⟩:=hh;exact ⟨a,b,ns,h1,h2,h3,h4,fun d l G' a b c e=>k _ _ (h d l G' a b c e)⟩
theorem zaz:dF ⟨"_law_draw", zcA⟩:=fun ws G Q Q' E k hh=>by
 obtain ⟨a,b,m,h1,h2,h3,h⟩:=hh;exact ⟨a,b,m,h1,h2,h3,fun d l a b c e=>k _ _ (h d l a b c e)⟩
abbrev zi2:Fn3:=⟨"_law_deal", zcB⟩
abbrev uE:Fn3:=⟨"_law_draw", zcA⟩
abbrev eAll:Fn3:=⟨"all", fun ws G Q _=>allS (·.all id) ws G Q⟩
abbrev eLst:Fn3:=⟨"list", fun ws G Q _=>lstS ws G Q⟩
abbrev eRng:It3:=⟨"range", rngI⟩
section
variable {q : Pr} {A : Around} {k : Nat}
theorem zgU (hm:q.mg "max" = none):vO (q.at A) eMax:=⟨dU hm (by decide +kernel) (fun X f=>zir f.calm) bR (fun _ _ h=>h),fun ws G Q Q' _ k h=>bR ws G Q Q' k h⟩
theorem zgW (hm:q.mg "len" = none):vO (q.at A) vE:=⟨dU hm (by decide +kernel) (fun X f=>ziu) bP (fun _ _ h=>h),fun ws G Q Q' _ k h=>bP ws G Q Q' k h⟩
theorem zg2 (hm:q.mg "all" = none):vO (q.at A) eAll:=⟨dU hm (by decide +kernel) (fun X f=>zjf f.calm) (zay _) (fun _ _ h=>h),fun ws G Q Q' _ k h=>zay _ ws G Q Q' k h⟩
theorem zgV (hm:q.mg "list" = none):vO (q.at A) eLst:=⟨zgN hm (by decide +kernel) (fun X f=>zit) bQ (fun _ _ h=>h),fun ws G Q Q' _ k h=>bQ ws G Q Q' k h⟩
theorem zgT:MtE (q.at A) ePop/\nJ ePop:=⟨fX PySem.F.plainAttrs_list PySem.F.slot_list_pop PySem.F.type_list_pop (fun X f=>zhX) bW,bW⟩
theorem zgR (hm:q.mg "range" = none):ItE (q.at A) eRng/\zdY eRng:=⟨ziP hm,zcM⟩
theorem zgS (hl:q.mg "list" = none) (hm:q.mg "reversed" = none):SxE (q.at A) eRev/\qF eRev.sp:=⟨zhx hl hm (by decide +kernel) cB (fun X f=>zhL f.calm),cB⟩
end
theorem FnE.imp {p:Par} {nm:Str} {sp sp':uH} (h:FnE p ⟨nm,sp'⟩) (k:∀ ws G Q,sp ws G Q XN->sp' ws G Q XN):FnE p ⟨nm,sp⟩:=by
 intro X fits gl args t qp pos mt hn pa hnil hdb hnm;refine (h X fits gl args t qp pos mt hn pa hnil hdb hnm).imp fun τ H Q z=>?_;obtain ⟨σ,G,hs,ab,z⟩:=z;exact ⟨σ,G,hs,ab,mt σ G _ _ (fun ws G1 z=>k _ _ _ z) z⟩
theorem dJ {K:yG} {x qual:Str} {st:Stmt} {f:Addr} {fd:FuncData} {ps:List Str} (F:FunD K x qual st .none f fd)
  (h:∀ (kV doc pm:Value) (an:Option Addr) (cdv ct:Value) (us:List Value),us.length=ps.length->bindArgs (PySem.W.fnOf x qual (yX st) (zI st) (zY st) .none kV doc pm an cdv ct) ⟨us,[]⟩=pure (ps.zip us)):pJ K fd ps []:=by
 obtain ⟨oc,od,kV,doc,pm,an,cdv,ct,osl,rfl,lk,hcd⟩:=F.ex;exact .all (h kV doc pm an cdv ct)
theorem za0 {q:Pr} {j k:Nat} {nm:Str} {f:Addr} {fd:FuncData} {ps:List Str} {sp:uH} (FO:FnOk q.prog q.w q.K q.mg q.base CX0 j f fd ps (sF q.K sp)) (hm:q.mg nm=some (.ref f)) (hk:PySem.W.keepIn q.K (.ref f)=true) (hb:pJ q.K fd ps [])
  (mono:dF ⟨nm,sp⟩) {A:Around} (hr:Room k A) (hjk:j<=k):vO (q.at A) ⟨nm,sp⟩ :=
 ⟨(ziX (dws:=[]) (dvs:=[]) (FO.mono hjk) hm hk hb (fun _=>rfl) .nil (fun ws G Q Q' z h=>mono ws G Q Q' XN z h) hr).imp fun ws G Q h=>by rw [List.append_nil];exact h,mono⟩
def cE:uH:=fun ws G Q _=>∃ a ns,ws=[a]/\mP G a ns/\ns.length<=63/\∀ G',Q (.bl true) G'
theorem sW {K:yG} {H:Hp}:∀ ns:List Int,zC K H (ns.map W.int) (ns.map V.int)
 | []=>rfl
 |n::ns=>⟨.int n,_,rfl,rfl,sW ns⟩
theorem zdb {K:yG} {H:Hp} {a:Addr} {ns:List Int} (hl:ns.length<=63) (hS:mR K H a (ns.map V.int)):sF K cE [.ref a] H (fun v _=>v=.bl true) fun _ _ _=>False:=by
 rcases hS with hS|hS
 .refine ⟨[.ref a],fun b=>if b=a then some (.fix (ns.map W.int)) else none,⟨_,[],rfl,rfl,rfl⟩,?_,.ref a,ns,rfl,.inl ⟨a,rfl,by simp [yJ]⟩,hl,fun G' v H' _ r _=>r⟩;intro b o e;dsimp only at e
  by_cases hb:b=a
  .subst hb;rw [if_pos rfl] at e;cases e;rcases hS with hS|⟨ob,hS⟩
   .exact ⟨_,hS,_,default,.inl rfl,sW ns⟩
   .exact ⟨_,hS,_,ob,.inr rfl,sW ns⟩
  .rw [if_neg hb] at e;cases e
 .exact ⟨[.lsf (ns.map W.int)],fun _=>none,⟨_,[],rfl,⟨a,_,rfl,hS,sW ns⟩,rfl⟩,(fun b o e=>nomatch e),.lsf (ns.map W.int),ns,rfl,.inr rfl,hl,fun G' v H' _ r _=>r⟩
theorem walk3 {l:PySem.W.OpenLaw} {k:Nat} {q:Program} {loose:List Str} {XP:(Str->Option Value)->Heap->Prop} {YP:World->Heap->Prop} {d:DefRec} {K:Params->PySem.W.Frag} (hn:l.most=some 63) (hdf:d.params.defaults=[]) (hr:Room k callerA)
  (hY:∀ (w:World) (h:Heap),YP w h->(K w.params).In h)
  (F:∀ (w:World) (mg:Str->Option Value) (fa:Addr) (h:Heap),(K w.params).In h->h.Ns mainGlobals mg->mg d.name=some (.ref fa) ->
   ∃ fd:FuncData,(∀ (s:Shared) (u:Value),BindsTo s fd ⟨[u],[]⟩ [("_law_script", u)])/\∀ base:Heap,(K w.params).In base->base.Ns mainGlobals mg->FnOk l.prog w (K w.params) mg base CX0 k fa fd ["_law_script"] (sF (K w.params) cE)) :
  PySem.W.WalkO q loose XP YP l.row.toRowW d [] (fun f vs=>PySem.call f vs) :=
 L2.walk_of (n:=63) (k:=k) (x := "_law_script") (CX:=fun _=>CX0) (sp:=fun w=>sF (K w.params) cE) hn (by decide) hdf hr hY F (fun _ _ a ns hl _ hS=>zdb hl hS) fun _ _ _ _ _ z=>z
end L3
namespace L3
open PySem PySem.Spec PyProof.Rows L2 PySem.SeqAt
def bN:MS:=fun x ws G Q=>match x,ws with
 | .str sep,[.ref p]=>∃ ts:List Str,yJ G p=some (ts.map .str)/\JoinOk sep ts=true/\Q (.str (Txt.join sep ts)) G
 |_,_=>False
theorem fB:∀ x ws G (Q Q':Q3),(∀ w G',Q w G'->Q' w G')->bN x ws G Q->bN x ws G Q':=by
 intro x ws G Q Q' k h;unfold bN at h ⊢
 split at h
 .obtain ⟨ts,e,o,h⟩:=h;exact ⟨ts,e,o,k _ _ h⟩
 .exact h.elim
theorem cG {K:yG} {H:Hp}:∀ {ts:List Str} {vs:List V} {us:List Value},zC K H (ts.map .str) vs->yT vs us->∃ l:List (Str×Tok),l.map (·.1)=ts/\us=strValues l
 | [],vs,us,r,v=>by cases (show vs=[] from r);cases v;exact ⟨[],rfl,rfl⟩
 |t::ts,vs,us,r,v=>by
  obtain ⟨x,tl,rfl,rx,rt⟩:=r;cases (show x=.str t from rx)
  cases v with
  |cons a c =>
   obtain ⟨tk,rfl⟩:=a;obtain ⟨l,e1,e2⟩:=cG rt c;exact ⟨(t,tk)::l,by rw [zzU,e1],by rw [e2];rfl⟩
theorem zgw {X:Cx}:MtR X "str.join" (lowM X.K bN):=by
 intro pins s σ H x xs v us Q I rx rxs h;obtain ⟨w,ws,G,rw1,rs,ab,h⟩:=h;unfold bN at h
 split at h
 .rename_i sep p;cases (show x=.str sep from rw1);obtain ⟨y,rfl,ry⟩:=kQ rs;cases (show y=.ref p from ry);obtain ⟨u,rfl,ru⟩:=qB rxs;cases (show u=Value.ref p from ru);obtain ⟨t,rfl⟩:=rx;obtain ⟨ts,e,ok,h⟩:=h;obtain ⟨vs,sq,rr⟩:=ab.seq e;obtain ⟨its,vv,pl,hz⟩:=I.list sq;obtain ⟨l,e1,e2⟩:=cG rr vv;subst e2;exact SC.join pl.isList e1 ok fun t' k=>⟨.str (Txt.join sep ts),H,I.tok _,⟨t',rfl⟩,h _ H .refl rfl ab⟩
 .exact h.elim
abbrev ze5:Mt3:=⟨"join", "str", bN⟩
theorem ze3 {q:Pr} {A:Around}:MtE (q.at A) ze5/\nJ ze5:=⟨fX PySem.F.plainAttrs_str PySem.F.slot_str_join PySem.F.type_str_join (fun X f=>zgw) fB,fB⟩
def intS:RS:=fun ws G Q=>match ws with
 | [.int i]=>Q (.int i) G
 | [.bl b]=>Q (.int (if b then 1 else 0)) G
 |_=>False
theorem bK:qF intS:=by
 intro ws G Q Q' k h;unfold intS at h ⊢
 split at h
 .exact k _ _ h
 .exact k _ _ h
 .exact h.elim
theorem ziV {X:Cx}:qS X (.type "int") (nU X.K intS):=by
 intro pins s σ H xs us Q I r h;obtain ⟨ws,G,rs,ab,h⟩:=h;unfold intS at h
 split at h
 .rename_i i;obtain ⟨v,rfl,rv⟩:=kQ rs;cases (show v=.int i from rv);exact zar pins s σ H _ us Q I r (.inl ⟨i,rfl,h _ H .refl rfl ab⟩)
 .rename_i b;obtain ⟨v,rfl,rv⟩:=kQ rs;cases (show v=.bl b from rv);exact zar pins s σ H _ us Q I r (.inr ⟨b,rfl,h _ H .refl rfl ab⟩)
 .exact h.elim
abbrev eInt:Fn3:=⟨"int", fun ws G Q _=>intS ws G Q⟩
theorem zgY {q:Pr} {A:Around} (hm:q.mg "int" = none):vO (q.at A) eInt:=⟨zgN hm (by decide +kernel) (fun X f=>ziV) bK (fun _ _ h=>h),fun ws G Q Q' _ k h=>bK ws G Q Q' k h⟩
theorem ziy {X:Cx} {pins:List (Addr×Obj)} {σ:L2.St} {H:Hp} {s:Shared} {G:Hw} {w:W} {v:V} {u:Value} {T:String} (I:Inv X pins σ H s) (ab:xC X.K H G) (rv:wQ X.K H w v) (ru:yY v u) (ty:tyO G w=some T) :
  ∃ HH:Heap->Prop,PySem.W.KitX X.K u (.type T) HH/\HH s.heap/\u≠.builtin "__main__.__loader__#opaque" := by
 cases w with
 |non=>cases ty;cases (show v=.non from rv);cases (show u=Value.none from ru);exact ⟨_,PySem.W.kitx_none,True.intro,fun z=>nomatch z⟩
 |bl x=>cases ty;cases (show v=.bl x from rv);cases (show u=Value.bool x from ru);exact ⟨_,PySem.W.kitx_bool,True.intro,fun z=>nomatch z⟩
 |int x=>cases ty;cases (show v=.int x from rv);obtain ⟨t,rfl⟩:=(show ∃ t,u=Value.int x t from ru);exact ⟨_,PySem.W.kitx_int,True.intro,fun z=>nomatch z⟩
 |str x=>cases ty;cases (show v=.str x from rv);obtain ⟨t,rfl⟩:=(show ∃ t,u=Value.str x t from ru);exact ⟨_,PySem.W.kitx_str,True.intro,fun z=>nomatch z⟩
 |tup ws' =>
  cases ty;obtain ⟨a,vs,rfl,sq,rr⟩:=rv;cases (show u=Value.ref a from ru);obtain ⟨its,_,p,_⟩:=I.tuple sq;obtain ⟨o,h1,h2,_⟩:=p;exact ⟨_,PySem.W.kitx_tuple,⟨o,h1,h2⟩,fun z=>nomatch z⟩
 |ref p =>
  cases (show v=.ref p from rv);cases (show u=Value.ref p from ru);simp only [tyO] at ty
  have lk:∀ ws',yJ G p=some ws'->∃ HH:Heap->Prop,PySem.W.KitX X.K (.ref p) (.type "list") HH/\HH s.heap/\Value.ref p≠.builtin "__main__.__loader__#opaque" := fun ws' el=>by
   obtain ⟨vs,sq,rr⟩:=ab.seq el;obtain ⟨its,_,pl,_⟩:=I.list sq;obtain ⟨o,ho,hc,_⟩:=pl.isList;exact ⟨_,PySem.W.kitx_list,⟨o,ho,hc⟩,fun z=>nomatch z⟩
  split at ty
  .rename_i ws' eg;cases ty;exact lk ws' (by unfold yJ;rw [eg])
  .rename_i ws' eg;cases ty;exact lk ws' (by unfold yJ;rw [eg])
  .rename_i kvs eg;cases ty;obtain ⟨l,e',rl⟩:=ab.dic eg;obtain ⟨_,_,vs,_,o,_,_,e1,e2,_⟩:=(show xD X.prog X.w H s.heap p (.dK l) from I.hok p _ e');exact ⟨_,PySem.W.kitx_dict,⟨o,e1,e2.1⟩,fun z=>nomatch z⟩
  .cases ty
 |_=>cases ty
def zd0:List W->Option (List String)
 | []=>some []
 | .ty T::r=>(zd0 r).map (T::·)
 |_=>none
theorem zbg {K:yG} {H:Hp}:∀ {ws:List W} {Ts:List String} {vs:List V} {us:List Value},zd0 ws=some Ts->zC K H ws vs->yT vs us->us=Ts.map .type
 | [],Ts,vs,us,e,r,v=>by cases e;cases (show vs=[] from r);cases v;rfl
 |w::ws,Ts,vs,us,e,r,v=>by
  cases w with
  |ty T =>
   simp only [zd0] at e;obtain ⟨Ts',e',rfl⟩:=Option.map_eq_some_iff.mp e;obtain ⟨x,tl,rfl,rx,rt⟩:=r;cases (show x=.ty T from rx)
   cases v with
   |cons a c =>
    cases (show _=Value.type T from a);rw [zbg e' rt c];rfl
  |_=>cases e
def isjS (K:yG):RS:=fun ws G Q=>match ws with
 | [x,.ty T]=>∃ T' b,tyO G x=some T'/\PySem.W.kitOne K (.type T') (.type T)=some b/\Q (.bl b) G
 | [x,.tup ts]=>∃ T' b Ts,tyO G x=some T'/\zd0 ts=some Ts/\PySem.W.kitAny K (.type T') (Ts.map .type)=some b/\Q (.bl b) G
 |_=>False
theorem bL (K:yG):qF (isjS K):=by
 intro ws G Q Q' k h;unfold isjS at h ⊢
 split at h
 .obtain ⟨T',b,e,e',h⟩:=h;exact ⟨T',b,e,e',k _ _ h⟩
 .obtain ⟨T',b,Ts,e,e',e2,h⟩:=h;exact ⟨T',b,Ts,e,e',e2,k _ _ h⟩
 .exact h.elim
theorem ziQ {X:Cx}:qS X (.builtin "isinstance") (nU X.K (isjS X.K)):=by
 intro pins s σ H xs us Q I r h;obtain ⟨ws,G,rs,ab,h⟩:=h;unfold isjS at h
 split at h
 .rename_i w T;obtain ⟨v,y,rfl,rv,ry⟩:=zfW rs;cases (show y=.ty T from ry);obtain ⟨u,c,rfl,ru,rc⟩:=zfK r;cases (show c=Value.type T from rc);obtain ⟨T',b,ty,e,h⟩:=h;obtain ⟨HH,kx,hp,hb⟩:=ziy I ab rv ru ty;exact PySem.W.kia_one kx I.kIn hp e hb fun tk=>⟨.bl b,H,I.tok _,rfl,h _ H .refl rfl ab⟩
 .rename_i w ts;obtain ⟨v,y,rfl,rv,ry⟩:=zfW rs;obtain ⟨u,c,rfl,ru,rc⟩:=zfK r;obtain ⟨T',b,Ts,ty,et,e,h⟩:=h;obtain ⟨a,vs,rfl,sq,rr⟩:=ry;cases (show c=Value.ref a from rc);obtain ⟨its,vv,p,_⟩:=I.tuple sq;obtain ⟨⟨oc,od,dt,sl⟩,h1,h2,n,h3⟩:=p;cases (show oc=_ from h2);cases (show dt=_ from h3);have ei:=zbg et rr vv;subst ei;obtain ⟨HH,kx,hp,hb⟩:=ziy I ab rv ru ty;exact PySem.W.kia_tup kx I.kIn hp h1 e hb fun tk=>⟨.bl b,H,I.tok _,rfl,h _ H .refl rfl ab⟩
 .exact h.elim
abbrev dS (K:yG):Fn3:=⟨"isinstance", fun ws G Q _=>isjS K ws G Q⟩
theorem zgX {q:Pr} {A:Around} (hm:q.mg "isinstance" = none):vO (q.at A) (dS q.K):=⟨dU (id := "isinstance") hm (by decide +kernel) (fun X f=>by rw [← show X.K=q.K from f.K];exact ziQ) (bL _) (fun _ _ h=>h),fun ws G Q Q' _ k h=>bL _ ws G Q Q' k h⟩
theorem zfp {q:Pr} {k:Nat} {M:MC} {nm qual:Str} {st:Stmt} {f:Addr} {fd:FuncData} {ps:List Str} {sp:Nat->uH} {body:ISs} {Γ:Fn3->Ctx3} (F:FunD q.K nm qual st .none f fd) (S:FnScope M.N ps (zY st))
  (hm:q.mg nm=some (.ref f)) (hb:pJ q.K fd ps []) (h0:∀ ws G Q,¬ sp 0 ws G Q XN) (len:∀ n ws G Q,sp n ws G Q XN->ws.length=ps.length) (mono:∀ n,dF ⟨nm,sp n⟩)
  (g:∀ n A,Room k A->vO (q.at A) ⟨nm,sp n⟩->Good (Γ ⟨nm,sp n⟩) (q.at A)) (eM:∀ n,MOk (Γ ⟨nm,sp n⟩) M (zY st)) (look:kF body M (zI st)=true)
  (hbd:∀ n ws G Q,sp (n+1) ws G Q XN->zH (Γ ⟨nm,sp n⟩) XN body { nx:=fun _ G'=>Q .non G',rt:=Q } (yM M.N ws) G):∀ n,FnOk q.prog q.w q.K q.mg q.base CX0 (k+n) f fd ps (sF q.K (sp n))
 | 0=>⟨fun vs H Q E ⟨ws,G,_,_,h⟩=>absurd h (h0 _ _ _),fun A outer s H args us vs Q E _ _ _ _ ⟨ws,G,_,_,h⟩=>absurd h (h0 _ _ _)⟩
 |n+1=>za1 (k:=k+n) F S (fun A hr=>g n A (hr.mono (Nat.le_add_right _ _)) (za0 (zfp F S hm hb h0 len mono g eM look hbd n) hm F.kp hb (mono n) hr (zzR _))) (eM n) look (len (n+1)) (hbd n)
end L3
namespace L2
open PySem PySem.Spec PyProof.Rows
section
variable {a b : Bool} {z TI TO i1 i2 l1 l2 : Addr}
end
end L2
namespace L3
open PySem PySem.Spec PyProof.Rows L2 PySem.SeqAt
section
variable {n : Nat} {p : Array Nat}
end
mutual
def ltW:W->W->Option Bool
 | .str x,.str y=>some (decide (x.cps.toList<y.cps.toList))
 | .tup xs,.tup ys=>ltWs xs ys
 |_,_=>none
def ltWs:List W->List W->Option Bool
 | [],[]=>some false
 | [],_::_=>some true
 |_::_,[]=>some false
 |x::xs,y::ys=>if vF x y=true then ltWs xs ys else ltW x y
end
section
variable {X : Cx} {pins : List (Addr × Obj)} {σ : L2.St} {H : Hp} {s : Shared}
end
section
variable {prog : Program} {w : World} {A : Around} {E : Value → Shared → Prop} {s : Shared} {D : Addr} {vs : List Value} {κ : SortKind} {lt : Nat → Nat → Bool}
end
def ltB (x y:W):Bool:=(ltW x y).getD false
section
variable {prog : Program} {w : World} {A : Around} {s : Shared} {b fin v : Bool} {C : Bool → Shared → Prop}
end
section
variable {X : Cx} {pins : List (Addr × Obj)} {σ : L2.St} {H : Hp} {s : Shared}
end
end L3
namespace L3
open PySem PySem.Spec PyProof.Rows L2 PySem.SeqAt AutoSeq1
theorem zdu (l b:Addr) (xs ys:Array Value) (n n2:Nat) (od:Option Addr) (os:Array (Option Value)) (h0:¬(!xs.isEmpty&&Builtin.List.listTooLong (xs.size+ys.size))=true) (h1:xs.size<=sizeLine) (h2:xs.size+ys.size<=sizeLine+1) :
  Meets (Builtin.«list.extend» ⟨[.ref l,.ref b],[]⟩) (fun _ R s=>s.heap.get? l=some { cls:=.type "list", dict:=none,data:=.seq xs n,slots:=#[] }/\s.heap.get? b=some { cls:=.type "tuple", dict:=od,data:=.seq ys n2,slots:=os } /\
   R (.ok (.ret .none)) { s with heap:=s.heap.update l (Obj.mapSeq fun x=>x++ys) }) :=
 .of_wp fun pr wo ar R st h=>by
  obtain ⟨hp,g,d,tk,os'⟩:=st;obtain ⟨hl,hb,h⟩:=h;have f1:=idx_int;have ft:=AutoSeq1.sub_tuple_tuple;have fl:=AutoSeq1.sub_list_list;have fu:=AutoSeq1.sub_tuple_list;have fv:=AutoSeq1.sub_list_tuple;have hz:(xs++ys).size<=sizeLine+1:=by rw [Array.size_append];exact h2
  wp_walk using (wpAny_updateSeq hl rfl (hz:=h1) (_hz':=hz)),wpAny_loadPart' hl,wpAny_loadPart' hb
  exact ⟨_,rfl,h⟩
theorem zcd (l b:Addr) (xs ys:Array Value) (n n2:Nat) (od:Option Addr) (os:Array (Option Value)) (h0:¬(!xs.isEmpty&&Builtin.List.listTooLong (xs.size+ys.size))=true) (h1:xs.size<=sizeLine) (h2:xs.size+ys.size<=sizeLine+1) :
  Meets (Builtin.«list.extend» ⟨[.ref l,.ref b],[]⟩) (fun _ R s=>s.heap.get? l=some { cls:=.type "list", dict:=none,data:=.seq xs n,slots:=#[] }/\s.heap.get? b=some { cls:=.type "list", dict:=od,data:=.seq ys n2,slots:=os } /\
   R (.ok (.ret .none)) { s with heap:=s.heap.update l (Obj.mapSeq fun x=>x++ys) }) :=
 .of_wp fun pr wo ar R st h=>by
  obtain ⟨hp,g,d,tk,os'⟩:=st;obtain ⟨hl,hb,h⟩:=h;have f1:=idx_int;have ft:=AutoSeq1.sub_tuple_tuple;have fl:=AutoSeq1.sub_list_list;have fu:=AutoSeq1.sub_tuple_list;have fv:=AutoSeq1.sub_list_tuple;have hz:(xs++ys).size<=sizeLine+1:=by rw [Array.size_append];exact h2
  wp_walk using (wpAny_updateSeq hl rfl (hz:=h1) (_hz':=hz)),wpAny_loadPart' hl,wpAny_loadPart' hb
  exact ⟨_,rfl,h⟩
def extS:MS:=fun x ws G Q=>match x,ws with
 | .ref p,[.tup ys]=>(match G p with
  |some (.lst xs)=>xs.length+ys.length<=sizeLine/\Q .non (put G p (.lst (xs++ys)))
  |_=>False)
 | .ref p,[.ref q]=>∃ xs ys,G p=some (.lst xs)/\yJ G q=some ys/\xs.length+ys.length<=sizeLine/\Q .non (put G p (.lst (xs++ys)))
 |_,_=>False
theorem bE:∀ x ws G (Q Q':Q3),(∀ w G',Q w G'->Q' w G')->extS x ws G Q->extS x ws G Q':=by
 intro x ws G Q Q' k h;unfold extS at h ⊢
 split at h
 .split at h
  .exact ⟨h.1,k _ _ h.2⟩
  .exact h.elim
 .obtain ⟨xs,ys,e1,e2,h1,h⟩:=h;exact ⟨xs,ys,e1,e2,h1,k _ _ h⟩
 .exact h.elim
theorem ziZ {X:Cx}:MtR X "list.extend" (lowM X.K extS):=by
 intro pins s σ H x xs v us Q I rx rxs h;obtain ⟨w,ws,G,rw1,rs,ab,h⟩:=h;unfold extS at h
 split at h
 .rename_i p ys;cases (show x=.ref p from rw1);cases (show v=Value.ref p from rx);obtain ⟨vy,rfl,ry⟩:=kQ rs;obtain ⟨b,vs2,rfl,sq,rr2⟩:=ry;obtain ⟨u,rfl,ru⟩:=qB rxs;cases (show u=Value.ref b from ru)
  split at h
  .rename_i zs e;obtain ⟨vs,ev,rr⟩:=ab.lst e;have gr:xZ X.K H (xB H p (.lst (vs++vs2))):=ab.grow e;obtain ⟨z,its,n,r,hl,e1⟩:=I.lstM ev;obtain ⟨its2,r2,pt,hz2⟩:=I.tuple sq;obtain ⟨⟨oc,od,oda,os⟩,ho,hc,n2,hd⟩:=(show s.heap.IsTuple b its2.toArray from pt);simp only at hc hd;subst hc hd;have l1:=rr.length;have l2:=rr2.length;have l3:=r2.length;have hb:=h.1;have hsz:its.toArray.size+its2.toArray.size<=sizeLine:=by rw [zzS,zzS];omega
   have hlong:¬ (!its.toArray.isEmpty&&Builtin.List.listTooLong (its.toArray.size+its2.toArray.size))=true:=by
    rw [gF hsz,Bool.and_false];exact zzN
   refine call_meets F.slot_list_extend ⟨_,e1,rfl⟩ F.entry_list_extend (F.args_list_extend_2 _ _) (zdu p b its.toArray its2.toArray n n2 od os hlong (by rw [zzS];omega) (by omega)) ⟨e1,ho,?_⟩;refine ⟨.non,_,I.lset (its':=its++its2) ev e1 (by simp) (r.append r2) ?_,rfl,h.2 .non _ gr (show wQ X.K _ .non .non from rfl) (ab.chg e ⟨_,rfl,(rr.append rr2).mono gr⟩)⟩;rw [zzW];omega
  .exact h.elim
 .rename_i p q;cases (show x=.ref p from rw1);cases (show v=Value.ref p from rx);obtain ⟨vy,rfl,ry⟩:=kQ rs;cases (show vy=.ref q from ry);obtain ⟨u,rfl,ru⟩:=qB rxs;cases (show u=Value.ref q from ru);obtain ⟨zs,ys,e,e2,hb,h⟩:=h;obtain ⟨vs,ev,rr⟩:=ab.lst e;obtain ⟨vs2,sq,rr2⟩:=ab.seq e2;have gr:xZ X.K H (xB H p (.lst (vs++vs2))):=ab.grow e;obtain ⟨z,its,n,r,hl,e1⟩:=I.lstM ev;obtain ⟨its2,r2,pt,hz2⟩:=I.list sq;obtain ⟨⟨oc,od,oda,os⟩,ho,hc,n2,hd⟩:=pt.isList;simp only at hc hd;subst hc hd;have l1:=rr.length;have l2:=rr2.length;have l3:=r2.length;have hsz:its.toArray.size+its2.toArray.size<=sizeLine:=by rw [zzS,zzS];omega
  have hlong:¬ (!its.toArray.isEmpty&&Builtin.List.listTooLong (its.toArray.size+its2.toArray.size))=true:=by
   rw [gF hsz,Bool.and_false];exact zzN
  refine call_meets F.slot_list_extend ⟨_,e1,rfl⟩ F.entry_list_extend (F.args_list_extend_2 _ _) (zcd p q its.toArray its2.toArray n n2 od os hlong (by rw [zzS];omega) (by omega)) ⟨e1,ho,?_⟩;refine ⟨.non,_,I.lset (its':=its++its2) ev e1 (by simp) (r.append r2) ?_,rfl,h .non _ gr (show wQ X.K _ .non .non from rfl) (ab.chg e ⟨_,rfl,(rr.append rr2).mono gr⟩)⟩;rw [zzW];omega
 .exact h.elim
abbrev eExt:Mt3:=⟨"extend", "list", extS⟩
theorem zg0 {q:Pr} {A:Around}:MtE (q.at A) eExt/\nJ eExt:=⟨fX PySem.F.plainAttrs_list PySem.F.slot_list_extend PySem.F.type_list_extend (fun X f=>ziZ) bE,bE⟩
def mH (d:Str):Scope->Expr->Option (List Expr):=fun sc e=>match e with
 | .Call (.Attribute (.Name x _) y apos) [a] [] cpos=>if (x==d&&rN sc x&&y==("get" : Str)&&(apos.endLine==cpos.line))=true then some [a] else none
 |_=>none
def pT (ks:List Str) (vs:List W):RS:=fun ws G Q=>match ws with
 | [.str k]=>Q (((ks.zip vs).lookup k).getD .non) G
 |_=>False
theorem nM (ks:List Str) (vs:List W):qF (pT ks vs):=by
 intro ws G Q Q' k h;unfold pT at h ⊢
 split at h
 .exact k _ _ h
 .exact h.elim
theorem zeW {d:Str} {sc:Scope} {e:Expr} {xs:List Expr} (h:mH d sc e=some xs):∃ q apos a cpos,e=.Call (.Attribute (.Name d q) "get" apos) [a] [] cpos/\xs=[a]/\rN sc d=true/\(apos.endLine==cpos.line)=true:=by
 unfold mH at h
 split at h
 .rename_i x q y apos a cpos
  split at h
  .rename_i hb;obtain ⟨⟨⟨h1,h2⟩,h3⟩,h4⟩:=bd4 hb;cases eq_of_beq h1;cases eq_of_beq h3;cases h;exact ⟨q,apos,a,cpos,rfl,rfl,h2,h4⟩
  .cases h
 .cases h
theorem kd_bm {X:Cx} {pins:List (Addr×Obj)} {σ:L2.St} {H:Hp} {s:Shared} {a:Addr} {ks:List Str} {vs:List V} {k:Str} {u:Value} {Q:VK} (I:Inv X pins σ H s) (h:KD X.K a ks vs) (ru:yY (.str k) u) (q:Q (((ks.zip vs).lookup k).getD .non) H) :
  wpAny (model X.prog X.w) X.A (call (.builtin "dict.get") [.ref a,u]) (EP X pins σ Q) X.xe s:=by
 have hT:=zeL I h;have hd:(a==sysModules)=false:=by obtain ⟨o,es,ep,l,_,_,_,z,_⟩:=h;exact z
 obtain ⟨tk,rfl⟩:=ru;refine wpAny_call (codeAny_call_builtin PySem.F.slot_dict_get.plain PySem.F.entry_dict_get (PySem.F.slot_dict_get.check _ _ _ _ _ _ _ _ hT (PySem.F.args_dict_get_2 _ _) ?_));show wpAny (model X.prog X.w) _ (dictGet a (.str k tk) >>= _) _ _ s;refine wpAny_bind (zdi I h ?_);revert q
 cases (ks.zip vs).lookup k with
 |some v=>exact fun q u s' r J=>wpAny_pure ⟨v,H,J,r,q⟩
 |none =>
  intro q s' J;show wpAny _ _ (Builtin.Dict.missed a (.str k tk) >>= _) _ _ _;exact wpAny_bind (wpAny_missed_other hd (wpAny_pure ⟨.non,H,J,rfl,q⟩))
theorem zcx {q:Pr} {A:Around} {d:Str} {ks:List Str} {vs:List W} (g:GlE (q.at A) (d,.dcf ks vs)):SxE (q.at A) ⟨mH d,pT ks vs⟩:=by
 intro X fits e xs es he each hn pa;obtain ⟨qp,apos,a,cpos,rfl,rfl,hg,hline⟩:=zeW he;obtain ⟨gl,d1,n1⟩:=bH (X:=X) rfl hg
 match es,each with
 | [t],each =>
  refine ⟨fun pins s σ H Q I h=>?_,fun _=>rfl,fun _ _ _ z=>nomatch z⟩;obtain ⟨σ3,G,hs,ab,h⟩:=h;have po:=g X fits gl qp d1 n1;obtain ⟨s1,s2⟩:=jF (env:=X.env) (pos:=cpos) hn;refine wpAny_Call_method_late (uK rfl) ?_ hline rfl (xT (po pins s σ H (fun v H1=>xZ X.K H H1/\xC X.K H1 G/\wQ X.K H1 (.dcf ks vs) v) I ⟨σ3,G,hs,ab,fun v H' gr rp ab'=>⟨gr,ab',rp⟩⟩) fun v s3 ⟨x,H1,I1,r1,g1,a1,p,us,ex,kd,rr⟩=>?_)
  .rw [zbJ hn];rfl
  .subst ex;cases (show v=Value.ref p from r1);have hT:=zeL I1 kd;refine ⟨"dict", "dict.get", PySem.F.plainAttrs_dict,PySem.F.slot_dict_get,PySem.F.type_dict_get,hT,fun b e=>?_,?_⟩
   .cases e;obtain ⟨o,es,ep,l,hc,_⟩:=kd;exact ⟨o,I1.kIn _ _ l,hc.2.1⟩
   .have hA:=pa cpos pins s3 σ H1 (fun ys H2=>∃ k,ys=[.str k]/\Q (((ks.zip us).lookup k).getD .non) H2) I1 ⟨σ3,G,hs.mono g1,a1,?_⟩
    .rw [s1] at hA ⊢;refine Calls.callWith_builtin (by show (false || (backTo cpos (starEach [] X.env)).any (·.1))=false;rfl) (Calls.evalArgs_plain ?_);refine xT hA fun ws s4 ⟨ys,H2,I2,r2,k,e2,q2⟩=>?_;subst e2;obtain ⟨u,rfl,ru⟩:=qB r2;exact kd_bm I2 kd ru q2
    .refine each.1 σ3 G _ _ (fun w G1 h=>?_) h;intro ys H2 g2 rs a2;replace h:pT ks vs [w] G1 (sL X.K H Q):=h;unfold pT at h
     split at h
     .rename_i k ew;cases ew;obtain ⟨y,rfl,ry⟩:=kQ rs;cases (show y=.str k from ry);refine ⟨k,rfl,?_⟩
      cases hk:(ks.zip vs).lookup k with
      |some w' =>
       obtain ⟨v',e',rv⟩:=vX rr hk;rw [hk] at h;rw [e'];exact h v' H2 (g1.trans g2) (rv.mono g2) a2
      |none =>
       rw [hk] at h;rw [tK rr hk];exact h .non H2 (g1.trans g2) rfl a2
     .exact h.elim
end L3
namespace L3
open PySem PySem.Spec PyProof.Rows L2 PySem.SeqAt
def tx (e:Int×Value):Str:=strOf e.2
section
variable {prog : Program} {w : World} {A : Around} {E : Value → Shared → Prop} {s : Shared} {S : Addr} {led : Bool}
end
section
variable {prog : Program} {w : World} {A : Around} {R : Result → Shared → Prop} {I : Addr} {fp wr : List Addr} {G : Array GenState → Array GenState → Prop} {n : Nat} {P : Nat → Value → Prop} {St : Nat → Shared → Prop} {S : Addr} {led : Bool}
end
section
variable {prog : Program} {w : World} {A : Around} {E : Value → Shared → Prop} {s : Shared}
end
namespace SI
end SI
section
variable {prog : Program} {w : World} {A : Around} {E : Value → Shared → Prop} {s : Shared} {I S : Addr} {first : Value} {i n ep : Nat} {led : Bool} {o : Obj} {es : Array (Int × Value)} {t : SetTable}
end
section
variable {prog : Program} {w : World} {A : Around} {I S T : Addr} {ep : Nat} {led : Bool} {o : Obj} {es : Array (Int × Value)} {t : SetTable}
end
section
variable {prog : Program} {w : World} {A : Around} {E : Value → Shared → Prop} {s : Shared} {S : Addr} {ep : Nat} {o : Obj} {es : Array (Int × Value)} {t : SetTable}
end
section
variable {prog : Program} {w : World} {A : Around} {E : Value → Shared → Prop} {s : Shared} {S : Addr} {ep : Nat} {o : Obj} {es : Array (Int × Value)} {t : SetTable}
end
section
variable {prog : Program} {w : World} {A : Around} {E : Value → Shared → Prop} {s : Shared}
end
section
variable {X : Cx}
end
end L3
namespace L3
open PySem PySem.Spec PyProof.Rows L2 HT
section
variable {prog : Program} {w : World} {A : Around} {E : Value → Shared → Prop} {s : Shared}
end
end L3
namespace L3
open PySem PySem.Spec PyProof.Rows L2
def sumS:RS:=fun ws G Q=>match ws with
 | [.ref p]=>∃ ns:List Int,yJ G p=some (ns.map .int)/\Q (.int ns.sum) G
 |_=>False
theorem cH:qF sumS:=by
 intro ws G Q Q' k h;unfold sumS at h ⊢
 split at h
 .obtain ⟨ns,e,h⟩:=h;exact ⟨ns,e,k _ _ h⟩
 .exact h.elim
theorem zbd {K:yG} {H:Hp}:∀ {ns:List Int} {vs:List V} {us:List Value},zC K H (ns.map .int) vs->yT vs us->us.length=ns.length/\∀ (i:Nat) (v:Value),us[i]?=some v->∃ t,v=.int (ns.getD i 0) t
 | [],vs,us,r,v=>by
  cases (show vs=[] from r);cases v;exact ⟨rfl,fun i v e=>by cases e⟩
 |x::ns,vs,us,r,v=>by
  obtain ⟨y,tl,rfl,ry,rt⟩:=r;cases (show y=.int x from ry)
  cases v with
  |cons a c =>
   obtain ⟨tk,rfl⟩:=a;obtain ⟨h1,h2⟩:=zbd rt c;refine ⟨by rw [List.length_cons,List.length_cons,h1],fun i v e=>?_⟩
   cases i with
   |zero=>cases e;exact ⟨tk,rfl⟩
   |succ i=>exact h2 i v e
theorem gJ (f:Nat->Int) (x:Int):∀ n,preSum (fun i=>if i=0 then x else f (i-1)) (n+1)=x+preSum f n
 | 0=>by show 0+x=x+0;omega
 |n+1=>by
  show preSum _ (n+1)+_=_;rw [gJ f x n];show x+preSum f n+f n=x+(preSum f n+f n);omega
theorem bX:∀ ns:List Int,preSum (fun i=>ns.getD i 0) ns.length=ns.sum
 | []=>rfl
 |x::ns=>by
  have e:(fun i=>(x::ns).getD i 0)=fun i=>if i=0 then x else ns.getD (i-1) 0:=by
   funext i
   cases i<;>simp
  rw [e,List.length_cons,gJ (fun i=>ns.getD i 0) x ns.length,bX ns,List.sum_cons]
theorem zhy {X:Cx} (hc:X.calm=true):qS X (.builtin "sum") (nU X.K sumS):=by
 intro pins s σ H xs us Q I r h;obtain ⟨ws,G,rs,ab,h⟩:=h;unfold sumS at h
 split at h
 .rename_i p;obtain ⟨v,rfl,rv⟩:=kQ rs;cases (show v=.ref p from rv);obtain ⟨ns,e,h⟩:=h;obtain ⟨u,rfl,ru⟩:=qB r;cases ru;obtain ⟨vs,sq,rr⟩:=ab.seq e;obtain ⟨its,rv,pl,hz⟩:=I.list sq;obtain ⟨hn,hv⟩:=zbd rr rv;have hl:=pl.isList
  have hlt:p<s.heap.objs.size:=by
   obtain ⟨o,ho,_⟩:=hl;exact Heap.lt_size ho
  have W:=Walks.list (prog:=X.prog) (w:=X.w) (A:=X.A.in1) (I.ok.hd hc) s.heap.objs.size p (Nat.ne_of_lt hlt) its.toArray;have hs:its.toArray.size=ns.length:=by simpa using hn
  rw [hs] at W;refine call_sum_walkG (wpAny_pyIter_list hl ⟨s.heap.objs.size,_,_,_,_,_,fun i=>ns.getD i 0,rfl,W,⟨⟨_,Heap.get?_push_size _ rfl,rfl,rfl⟩,hl.push _⟩,fun b hb=>?_,fun i v hv'=>hv i v (by simpa using hv'),fun h' tk t' k=>?_⟩)
  .have hsz:∀ (hp:Heap) (o:Obj),(hp.push o).objs.size=hp.objs.size+1:=fun hp o=>by simp [Heap.push]
   rw [hsz];simp only [List.mem_cons,List.not_mem_nil,or_false] at hb;rcases hb with rfl|rfl
   .exact Nat.lt_succ_self _
   .exact Nat.lt_succ_of_lt hlt
  .rw [bX];refine ⟨.int ns.sum,H,I.kept fun b o e'=>k b o (fun hm=>?_) (Heap.get?_push_of_some _ e'),⟨t',rfl⟩,h _ H .refl rfl ab⟩;rw [List.mem_singleton] at hm;exact Nat.ne_of_lt (Heap.lt_size e') hm
 .exact h.elim
abbrev eSum:Fn3:=⟨"sum", fun ws G Q _=>sumS ws G Q⟩
theorem zgQ {q:Pr} {A:Around} (hm:q.mg "sum" = none):vO (q.at A) eSum:=⟨dU (id := "sum") hm (by decide +kernel) (fun X f=>zhy f.calm) cH (fun _ _ h=>h),fun ws G Q Q' _ k h=>cH ws G Q Q' k h⟩
def dg2S:MS:=fun x ws G Q=>match x,ws with
 | .ref p,[.str k,d]=>(match G p with|some (.dic kvs)=>Q ((nL kvs (.inr k)).getD d) G|_=>False)
 |_,_=>False
theorem zam:∀ x ws G (Q Q':Q3),(∀ w G',Q w G'->Q' w G')->dg2S x ws G Q->dg2S x ws G Q':=by
 intro x ws G Q Q' k h;unfold dg2S at h ⊢
 split at h
 .split at h
  .exact k _ _ h
  .exact h.elim
 .exact h.elim
theorem dg_ok {X:Cx} (hu:X.A.units+200<cLine):MtR X "dict.get" (lowM X.K dg2S):=by
 intro pins s σ H x xs v us Q I rx rxs h;obtain ⟨w,ws,G,rw1,rs,ab,h⟩:=h;unfold dg2S at h
 split at h
 .rename_i p k d;cases (show x=.ref p from rw1);cases (show v=Value.ref p from rx);obtain ⟨vk,tl,rfl,rk,rt⟩:=rs;obtain ⟨vd,rfl,rd⟩:=kQ rt;cases (show vk=.str k from rk)
  cases rxs with
  |cons ru rr =>
  obtain ⟨ud,rfl,rud⟩:=qB rr
  split at h
  .rename_i kvs e;obtain ⟨l,e',rkv⟩:=ab.dic e;have dg:DGet H p (.str k) (kE l (.inr k)):=.inl ⟨l,.inr k,.inl e',rfl,rfl⟩;refine zi6 (by omega) I dg ru rud fun w' s' I' r'=>⟨(kE l (.inr k)).getD vd,H,I',r',?_⟩
   cases eq:nL kvs (.inr k) with
   |some w1 =>
    obtain ⟨v1,ev,rp⟩:=rkv.get eq;rw [eq] at h;rw [ev];exact h _ H .refl rp ab
   |none =>
    rw [eq] at h;rw [rkv.none eq];exact h _ H .refl rd ab
  .exact h.elim
 .exact h.elim
abbrev eGet:Mt3:=⟨"get", "dict", dg2S⟩
theorem zgZ {q:Pr} {A:Around} (hu:A.units+200<cLine):MtE (q.at A) eGet/\nJ eGet:=⟨fX PySem.F.plainAttrs_dict PySem.F.slot_dict_get PySem.F.type_dict_get (fun X f=>dg_ok (by rw [f.A];exact hu)) zam,zam⟩
end L3
namespace L3
open PySem PySem.Spec PyProof.Rows L2 PySem.SeqAt
section
variable {prog : Program} {w : World} {A : Around} {E : Value → Shared → Prop} {s : Shared}
end
section
variable {X : Cx}
theorem sY {K:yG} {H:Hp}:∀ {ns:List Int} {vs:List V} {us:List Value},zC K H (ns.map .int) vs->yT vs us->IntsAre us ns
 | [],vs,us,r,v=>by cases (show vs=[] from r);cases v;exact .nil
 |x::ns,vs,us,r,v=>by
  obtain ⟨y,tl,rfl,ry,rt⟩:=r;cases (show y=.int x from ry)
  cases v with
  |cons a c =>
   obtain ⟨tk,rfl⟩:=a;exact .cons x tk (sY rt c)
end
end L3
namespace L2
open PySem PySem.Spec PyProof.Rows
section
variable {X : Cx} {tg : Expr}
end
end L2
namespace L3
open PySem PySem.Spec PyProof.Rows L2 PySem.SeqAt
end L3
namespace PySem
open Sem (wp)
section
variable {prog : Program} {w : World} {A : Around} {E : Value → Shared → Prop} {s : Shared}
end
end PySem
namespace PySem
open Sem (wp)
section
variable {prog : Program} {w : World} {A : Around} {E : Value → Shared → Prop} {s : Shared}
end
end PySem
namespace L2
open PySem PySem.Spec PyProof.Rows
section
variable {b : Bool} {e it l : Addr}
end
end L2
namespace L3
open PySem PySem.Spec PyProof.Rows L2 PySem.SeqAt
mutual
def dOf:W->PyData
 | .str x=>.str x
 | .tup ws=>.tuple (dOfs ws)
 |_=>.none
def dOfs:List W->List PyData
 | []=>[]
 |w::ws=>dOf w::dOfs ws
end
mutual
def tt:W->Bool
 | .str _=>true
 | .tup ws=>tts ws
 |_=>false
def tts:List W->Bool
 | []=>true
 |w::ws=>tt w&&tts ws
end
section
variable {X : Cx} {pins : List (Addr × Obj)} {σ : L2.St} {H : Hp} {s : Shared}
end
end L3
namespace L3
open PySem PySem.Spec PyProof.Rows L2
def emM:Scope->Expr->Option (List Expr):=fun _ e=>match e with
 | .Dict [] [] _=>some []
 |_=>none
def emS:RS:=fun ws G Q=>match ws with
 | []=>∀ p,G p=none->Q (.ref p) (put G p (.dic []))
 |_=>False
theorem ze4:qF emS:=by
 intro ws G Q Q' k h;unfold emS at h ⊢
 split at h
 .exact fun p hp=>k _ _ (h p hp)
 .exact h.elim
theorem zg3 {sc:Scope} {e:Expr} {xs:List Expr} (h:emM sc e=some xs):∃ pos,e=.Dict [] [] pos/\xs=[]:=by
 unfold emM at h
 split at h
 .cases h;exact ⟨_,rfl,rfl⟩
 .cases h
theorem sx_em {q:Pr} {A:Around}:SxE (q.at A) ⟨emM,emS⟩:=by
 intro X fits e xs es he each hn pa;obtain ⟨pos,rfl,rfl⟩:=zg3 (sc:=X.env.scope) he
 match es,each with
 | [],each =>
  refine ⟨fun pins s σ H Q I h=>?_,fun _=>rfl,fun _ _ _ z=>nomatch z⟩;obtain ⟨σ3,G,hs,ab,h⟩:=h;have h:∀ p,G p=none->sL X.K H Q (.ref p) (put G p (.dic [])):=h;refine zew pins s σ H Q I fun p hp=>?_;exact h p (ab.free hp) _ _ (wH hp) rfl (ab.new hp ⟨[],rfl,rfl⟩)
end L3
namespace K47
open PySem PySem.Spec L2 L3
def rJ (i:Nat):Stmt:=PySem.Challenge.pw_talkcourt_k47_programs_or_none.main.body.getD i (.Pass ⟨0,0,0,0⟩)
def gls:List Str:=["LONGEST_NAME", "NO_NAMES", "LENGTHS", "JOINED", "SINGLES", "WORDS_OF_DEEDS", "WORDS_OF_CONDITIONS", "GREATEST_NUMBER", "bool", "str", "int", "tuple"]
def mts:List Str:=["pop", "join", "append", "get", "extend"]
def its:List Str:=["range"]
def sxm:List (Scope->Expr->Option (List Expr)):=[lofM "reversed", mH "LENGTHS", mH "SINGLES", mH "JOINED", emM]
def fns:List Str:=(["max", "len", "all", "list", "isinstance", "tuple", "int", "sum", "_law_deal", "_law_draw", "_law_names", "_law_saying", "_law_parts", "_law_word", "_law_condition", "_law_deed", "_law_count", "_law_program", "is_name", "has_form"]:List Str)++(["sides_of", "is_saying", "begins_with_text", "is_one_of", "is_single", "is_condition", "is_doubt", "is_number", "is_deed", "is_row", "is_program", "_law_told", "_law_no_saying", "_law_wrong_condition", "_law_wrong_deed", "_law_wrong", "law"]:List Str)
/- fn: 0 max,1 len,2 all,3 list,4 isinstance,5 tuple,6 int,7 sum,8 _law_deal,9 _law_draw,10 _law_names,11 _law_saying,12 _law_parts,13 _law_word,14 _law_condition,15 _law_deed,16 _law_count,17 _law_program,18 is_name,19 has_form,20 sides_of,21 is_saying,22 begins_with_text,23 is_one_of,24 is_single,25 is_condition,26 is_doubt,27 is_number,28 is_deed,29 is_row,30 is_program,31 _law_told,32 _law_no_saying,33 _law_wrong_condition,34 _law_wrong_deed,35 _law_wrong,36 law -/
abbrev jG:Stmt:=rJ 24
def fY:List Str:=["_law_script", "_law_base", "_law_cells", "_law_number", "_law_cell"]
def zcl:ISs:=(.cons (.asg 2 (.lc (.nm 0) ["_law_cell"] [] (.val (.sl (.var 0) (.yes (.var 1)) (.yes (.con (.int 63))))) .no (.call 0 (.cons (.var 0) (.cons (.bin .Sub (.con (.int 0)) (.var 0)) .nil)))))
 (.cons (.asg 3 (.bin .Add (.con (.int 7919)) (.var 1)))
 (.cons (.for (.nm 4) (.val (.var 2)) (.cons (.asg 3 (.bin .Mod (.bin .Add (.bin .Mult (.var 3) (.con (.int 69621))) (.bin .Mod (.var 4) (.con (.int 2147483629)))) (.con (.int 2147483647))))
 .nil))
 (.cons (.ret (.dct ["seed", "number", "left"] (.cons (.var 3) (.cons (.con (.int 0)) (.cons (.spc 0 (.cons (.lc (.nm 0) ["_law_cell"] [] (.val (.var 2)) (.yes (.cmp .GtE (.var 0) (.bin .Pow (.con (.int 10)) (.con (.int 18))))) (.var 0)) .nil)) .nil)))))
 .nil))))
def fM:MC:=⟨zY jG,fY,(fun _=>true),fns.take 8,gls,mts,its,sxm,[]⟩
theorem zaK:FnScope fY ["_law_script", "_law_base"] (zY jG):=⟨rfl,rfl,rfl,by decide +kernel,rfl,by decide +kernel,by decide +kernel⟩
theorem cS:kF zcl fM (zI jG)=true:=by decide +kernel
abbrev jI:Stmt:=rJ 25
def fZ:List Str:=["_law_deal_here", "_law_many", "_law_number", "_law_one", "_law_other"]
def zck:ISs:=(.cons (.whl (.and (.cmp .Eq (.ix (.var 0) (.con (.str "number"))) (.con (.int 0))) (.cmp .Gt (.call 1 (.cons (.ix (.var 0) (.con (.str "left"))) .nil)) (.con (.int 0)))) (.cons (.asgI (.var 0) (.con (.str "number")) (.mth 0 (.ix (.var 0) (.con (.str "left"))) .nil))
 .nil))
 (.cons (.asg 2 (.ix (.var 0) (.con (.str "number"))))
 (.cons (.ite (.cmp .Gt (.var 2) (.con (.int 0))) (.cons (.asgI (.var 0) (.con (.str "number")) (.bin .FloorDiv (.var 2) (.var 1)))
 (.cons (.ret (.bin .Mod (.var 2) (.var 1)))
 .nil)) .nil)
 (.cons (.asg 3 (.bin .Mod (.bin .Add (.bin .Mult (.ix (.var 0) (.con (.str "seed"))) (.con (.int 48271))) (.con (.int 7919))) (.con (.int 2147483647))))
 (.cons (.asgI (.var 0) (.con (.str "seed")) (.bin .Mod (.bin .Add (.bin .Mult (.var 3) (.con (.int 40692))) (.con (.int 104729))) (.con (.int 2147483399))))
 (.cons (.asg 4 (.bin .Mod (.bin .Mult (.ix (.var 0) (.con (.str "seed"))) (.ix (.var 0) (.con (.str "seed")))) (.con (.int 2147483563))))
 (.cons (.ret (.bin .Mod (.bin .Add (.bin .Mult (.bin .Mod (.bin .Mult (.var 3) (.var 3)) (.con (.int 2147483629))) (.con (.int 2147483563))) (.var 4)) (.var 1)))
 .nil)))))))
def fO:MC:=⟨zY jI,fZ,(fun _=>true),fns.take 9,gls,mts,its,sxm,[]⟩
theorem zaI:FnScope fZ ["_law_deal_here", "_law_many"] (zY jI):=⟨rfl,rfl,rfl,by decide +kernel,rfl,by decide +kernel,by decide +kernel⟩
theorem cU:kF zck fO (zI jI)=true:=by decide +kernel
abbrev wL:Stmt:=rJ 26
def tM:List Str:=["_law_deal_here", "_law_many", "_law_letters", "_law_names_here", "_law_core", "_law_at", "_law_turn", "_law_k", "_law_name"]
def wE:ISs:=(.cons (.asg 2 (.con (.str "abcdefghijklmnopqrstuvwxyz")))
 (.cons (.asg 3 (.lst .nil))
 (.cons (.asg 4 (.mth 1 (.con (.str "")) (.cons (.lc (.nm 0) ["_law_k"] [2,0] (.blt 0 (.cons (.call 9 (.cons (.var 0) (.cons (.con (.int 5)) .nil))) .nil)) .no (.ix (.var 1) (.call 9 (.cons (.var 2) (.cons (.con (.int 26)) .nil))))) .nil)))
 (.cons (.asg 5 (.call 9 (.cons (.var 0) (.cons (.bin .Add (.call 1 (.cons (.var 4) .nil)) (.con (.int 1))) .nil))))
 (.cons (.asg 6 (.call 9 (.cons (.var 0) (.cons (.con (.int 26)) .nil))))
 (.cons (.for (.nm 7) (.blt 0 (.cons (.var 1) .nil)) (.cons (.asg 8 (.bin .Add (.bin .Add (.sl (.var 4) .no (.yes (.var 5))) (.ix (.var 2) (.bin .Mod (.bin .Add (.var 6) (.bin .Mult (.con (.int 7)) (.var 7))) (.con (.int 26))))) (.sl (.var 4) (.yes (.var 5)) .no)))
 (.cons (.ite (.cmp .In (.var 8) (.tup (.cons (.con (.str "and")) (.cons (.con (.str "or")) (.cons (.con (.str "not")) (.cons (.con (.str "then")) .nil)))))) (.cons (.asg 8 (.bin .Add (.var 8) (.con (.str "q"))))
 .nil) .nil)
 (.cons (.ex (.mth 2 (.var 3) (.cons (.var 8) .nil)))
 .nil))))
 (.cons (.ite (.and (.cmp .Gt (.var 1) (.con (.int 1))) (.cmp .Eq (.call 9 (.cons (.var 0) (.cons (.con (.int 2)) .nil))) (.con (.int 1)))) (.cons (.asgI (.var 3) (.con (.int 0)) (.bin .Add (.ix (.var 3) (.con (.int 0))) (.con (.str "z"))))
 .nil) .nil)
 (.cons (.ret (.var 3))
 .nil))))))))
def nC:MC:=⟨zY wL,tM,(fun _=>true),fns.take 10,gls,mts,its,sxm,[]⟩
theorem zae:FnScope tM ["_law_deal_here", "_law_many"] (zY wL):=⟨rfl,rfl,rfl,by decide +kernel,rfl,by decide +kernel,by decide +kernel⟩
theorem fH:kF wE nC (zI wL)=true:=by decide +kernel
abbrev wZ:Stmt:=rJ 27
def uW:List Str:=["_law_deal_here", "_law_names_here", "_law_many", "_law_way", "_law_left", "_law_one"]
def kY:ISs:=(.cons (.ite (.cmp .Eq (.var 2) (.con (.int 1))) (.cons (.ret (.tup (.cons (.con (.str "say")) (.cons (.ix (.var 1) (.call 9 (.cons (.var 0) (.cons (.call 1 (.cons (.var 1) .nil)) .nil)))) .nil))))
 .nil) .nil)
 (.cons (.asg 3 (.call 9 (.cons (.var 0) (.cons (.con (.int 4)) .nil))))
 (.cons (.ite (.or (.cmp .Eq (.var 2) (.con (.int 2))) (.cmp .Eq (.var 3) (.con (.int 3)))) (.cons (.ret (.tup (.cons (.con (.str "not")) (.cons (.call 11 (.cons (.var 0) (.cons (.var 1) (.cons (.bin .Sub (.var 2) (.con (.int 1))) .nil)))) .nil))))
 .nil) .nil)
 (.cons (.asg 4 (.bin .Add (.con (.int 1)) (.call 9 (.cons (.var 0) (.cons (.bin .Sub (.var 2) (.con (.int 2))) .nil)))))
 (.cons (.asg 5 (.call 11 (.cons (.var 0) (.cons (.var 1) (.cons (.var 4) .nil)))))
 (.cons (.ret (.tup (.cons (.ix (.lst (.cons (.con (.str "and")) (.cons (.con (.str "or")) (.cons (.con (.str "if")) .nil)))) (.var 3)) (.cons (.var 5) (.cons (.call 11 (.cons (.var 0) (.cons (.var 1) (.cons (.bin .Sub (.bin .Sub (.var 2) (.con (.int 1))) (.var 4)) .nil)))) .nil)))))
 .nil))))))
def pX:MC:=⟨zY wZ,uW,(fun _=>true),fns.take 12,gls,mts,its,sxm,[]⟩
theorem dC:FnScope uW ["_law_deal_here", "_law_names_here", "_law_many"] (zY wZ):=⟨rfl,rfl,rfl,by decide +kernel,rfl,by decide +kernel,by decide +kernel⟩
theorem mM:kF kY pX (zI wZ)=true:=by decide +kernel
abbrev wM:Stmt:=rJ 28
def tN:List Str:=["_law_saying_here", "_law_found", "_law_part"]
def vQ:ISs:=(.cons (.asg 1 (.lst (.cons (.var 0) .nil)))
 (.cons (.for (.nm 2) (.val (.sl (.var 0) (.yes (.con (.int 1))) .no)) (.cons (.ite (.cmp .NotEq (.ix (.var 0) (.con (.int 0))) (.con (.str "say"))) (.cons (.asg 1 (.bin .Add (.var 1) (.lc (.nm 0) ["_law_one"] [1] (.val (.call 12 (.cons (.var 2) .nil))) (.yes (.cmp .NotIn (.var 0) (.var 1))) (.var 0))))
 .nil) .nil)
 .nil))
 (.cons (.ret (.var 1))
 .nil)))
def nE:MC:=⟨zY wM,tN,(fun _=>true),fns.take 13,gls,mts,its,sxm,[]⟩
theorem zad:FnScope tN ["_law_saying_here"] (zY wM):=⟨rfl,rfl,rfl,by decide +kernel,rfl,by decide +kernel,by decide +kernel⟩
theorem fI:kF vQ nE (zI wM)=true:=by decide +kernel
abbrev jK:Stmt:=rJ 29
def rT:List Str:=["_law_deal_here", "_law_saying_here", "_law_words", "_law_some"]
def xF:ISs:=(.cons (.asg 2 (.dct ["and", "or", "if", "not"] (.cons (.lst (.cons (.con (.str "left")) (.cons (.con (.str "right")) .nil))) (.cons (.lst (.cons (.con (.str "which")) .nil)) (.cons (.lst (.cons (.con (.str "if")) .nil)) (.cons (.lst (.cons (.con (.str "not")) .nil)) .nil))))))
 (.cons (.asg 3 (.lst (.cons (.con (.str "left")) (.cons (.con (.str "right")) (.cons (.con (.str "which")) (.cons (.con (.str "if")) (.cons (.con (.str "not")) .nil)))))))
 (.cons (.ite (.cmp .Gt (.call 9 (.cons (.var 0) (.cons (.con (.int 4)) .nil))) (.con (.int 0))) (.cons (.asg 3 (.mth 3 (.var 2) (.cons (.ix (.var 1) (.con (.int 0))) (.cons (.var 3) .nil))))
 .nil) .nil)
 (.cons (.ret (.ix (.var 3) (.call 9 (.cons (.var 0) (.cons (.call 1 (.cons (.var 3) .nil)) .nil)))))
 .nil))))
def fQ:MC:=⟨zY jK,rT,(fun _=>true),fns.take 13,gls,mts,its,sxm,[]⟩
theorem zaG:FnScope rT ["_law_deal_here", "_law_saying_here"] (zY jK):=⟨rfl,rfl,rfl,by decide +kernel,rfl,by decide +kernel,by decide +kernel⟩
theorem cW:kF xF fQ (zI jK)=true:=by decide +kernel
abbrev xW:Stmt:=rJ 30
def qD:List Str:=["_law_deal_here", "_law_sayings", "_law_deep", "_law_way", "_law_saying_here", "_law_one", "_law_word_here"]
def yL:ISs:=(.cons (.asg 3 (.call 9 (.cons (.var 0) (.cons (.con (.int 10)) .nil))))
 (.cons (.asg 4 (.ix (.var 1) (.call 9 (.cons (.var 0) (.cons (.call 1 (.cons (.var 1) .nil)) .nil)))))
 (.cons (.ite (.and (.cmp .Gt (.var 3) (.con (.int 6))) (.cmp .Gt (.var 2) (.con (.int 0)))) (.cons (.asg 5 (.call 14 (.cons (.var 0) (.cons (.var 1) (.cons (.bin .Sub (.var 2) (.con (.int 1))) .nil)))))
 (.cons (.ite (.cmp .Eq (.var 3) (.con (.int 9))) (.cons (.ret (.tup (.cons (.con (.str "not")) (.cons (.var 5) .nil))))
 .nil) .nil)
 (.cons (.ret (.tup (.cons (.ix (.lst (.cons (.con (.str "and")) (.cons (.con (.str "or")) .nil))) (.bin .Sub (.var 3) (.con (.int 7)))) (.cons (.var 5) (.cons (.call 14 (.cons (.var 0) (.cons (.var 1) (.cons (.bin .Sub (.var 2) (.con (.int 1))) .nil)))) .nil)))))
 .nil))) .nil)
 (.cons (.ite (.cmp .Lt (.var 3) (.con (.int 2))) (.cons (.ret (.tup (.cons (.con (.str "any")) .nil)))
 .nil) .nil)
 (.cons (.ite (.cmp .Lt (.var 3) (.con (.int 4))) (.cons (.ret (.tup (.cons (.ix (.lst (.cons (.con (.str "said")) (.cons (.con (.str "fresh")) (.cons (.con (.str "heard")) .nil)))) (.call 9 (.cons (.var 0) (.cons (.con (.int 3)) .nil)))) (.cons (.var 4) .nil))))
 .nil) .nil)
 (.cons (.asg 6 (.ix (.lst (.cons (.call 13 (.cons (.var 0) (.cons (.var 4) .nil))) (.cons (.con (.str "begin")) .nil))) (.call 6 (.cons (.cmp .Eq (.call 9 (.cons (.var 0) (.cons (.con (.int 5)) .nil))) (.con (.int 0))) .nil))))
 (.cons (.ret (.tup (.cons (.ix (.lst (.cons (.con (.str "open")) (.cons (.con (.str "used")) (.cons (.con (.str "asked")) (.cons (.con (.str "answered")) .nil))))) (.call 9 (.cons (.var 0) (.cons (.con (.int 4)) .nil)))) (.cons (.var 6) (.cons (.var 4) .nil)))))
 .nil)))))))
def uF:MC:=⟨zY xW,qD,(fun _=>true),fns.take 15,gls,mts,its,sxm,[]⟩
theorem pD:FnScope qD ["_law_deal_here", "_law_sayings", "_law_deep"] (zY xW):=⟨rfl,rfl,rfl,by decide +kernel,rfl,by decide +kernel,by decide +kernel⟩
theorem rP:kF yL uF (zI xW)=true:=by decide +kernel
abbrev jH:Stmt:=rJ 31
def rR:List Str:=["_law_deal_here", "_law_sayings", "_law_way", "_law_saying_here"]
def uL:ISs:=(.cons (.asg 2 (.call 9 (.cons (.var 0) (.cons (.con (.int 6)) .nil))))
 (.cons (.asg 3 (.ix (.var 1) (.call 9 (.cons (.var 0) (.cons (.call 1 (.cons (.var 1) .nil)) .nil)))))
 (.cons (.ite (.cmp .Lt (.var 2) (.con (.int 2))) (.cons (.ret (.tup (.cons (.con (.str "answer")) (.cons (.var 3) .nil))))
 .nil) .nil)
 (.cons (.ite (.cmp .Eq (.var 2) (.con (.int 2))) (.cons (.ret (.tup (.cons (.con (.str "doubt")) (.cons (.call 13 (.cons (.var 0) (.cons (.var 3) .nil))) (.cons (.var 3) .nil)))))
 .nil) .nil)
 (.cons (.ite (.cmp .Eq (.var 2) (.con (.int 3))) (.cons (.ret (.tup (.cons (.con (.str "doubt")) (.cons (.call 13 (.cons (.var 0) (.cons (.var 3) .nil))) .nil))))
 .nil) .nil)
 (.cons (.ret (.tup (.cons (.con (.str "move")) (.cons (.ix (.lst (.cons (.call 9 (.cons (.var 0) (.cons (.con (.int 4)) .nil))) (.cons (.call 9 (.cons (.var 0) (.cons (.con (.int 1000)) .nil))) .nil))) (.call 9 (.cons (.var 0) (.cons (.con (.int 2)) .nil)))) .nil))))
 .nil))))))
def fN:MC:=⟨zY jH,rR,(fun _=>true),fns.take 15,gls,mts,its,sxm,[]⟩
theorem zaJ:FnScope rR ["_law_deal_here", "_law_sayings"] (zY jH):=⟨rfl,rfl,rfl,by decide +kernel,rfl,by decide +kernel,by decide +kernel⟩
theorem cT:kF uL fN (zI jH)=true:=by decide +kernel
abbrev wK:Stmt:=rJ 32
def tL:List Str:=["_law_thing"]
def vP:ISs:=(.cons (.ite (.call 4 (.cons (.var 0) (.cons (.glb 11) .nil))) (.cons (.ret (.call 7 (.cons (.lc (.nm 0) ["_law_part"] [] (.val (.var 0)) .no (.call 16 (.cons (.var 0) .nil))) .nil)))
 .nil) .nil)
 (.cons (.ret (.call 6 (.cons (.cmp .NotEq (.var 0) (.con (.str "say"))) .nil)))
 .nil))
def nB:MC:=⟨zY wK,tL,(fun _=>true),fns.take 17,gls,mts,its,sxm,[]⟩
theorem zaf:FnScope tL ["_law_thing"] (zY wK):=⟨rfl,rfl,rfl,by decide +kernel,rfl,by decide +kernel,by decide +kernel⟩
theorem fG:kF vP nB (zI wK)=true:=by decide +kernel
abbrev xI:Stmt:=rJ 33
def vL:List Str:=["_law_deal_here", "_law_sayings", "_law_many", "_law_deep", "_law_rows", "_law_k", "_law_condition_here", "_law_row"]
def qI:ISs:=(.cons (.asg 4 (.lst .nil))
 (.cons (.for (.nm 5) (.blt 0 (.cons (.call 9 (.cons (.var 0) (.cons (.bin .Add (.var 2) (.con (.int 1))) .nil))) .nil)) (.cons (.asg 6 (.call 14 (.cons (.var 0) (.cons (.var 1) (.cons (.var 3) .nil)))))
 (.cons (.asg 7 (.tup (.cons (.var 6) (.cons (.call 15 (.cons (.var 0) (.cons (.var 1) .nil))) .nil))))
 (.cons (.ite (.cmp .Gt (.call 16 (.cons (.var 7) .nil)) (.con (.int 55))) (.cons (.asg 7 (.tup (.cons (.tup (.cons (.con (.str "any")) .nil)) (.cons (.tup (.cons (.con (.str "move")) (.cons (.call 9 (.cons (.var 0) (.cons (.con (.int 9)) .nil))) .nil))) .nil))))
 .nil) .nil)
 (.cons (.ex (.mth 2 (.var 4) (.cons (.var 7) .nil)))
 .nil)))))
 (.cons (.ret (.call 5 (.cons (.var 4) .nil)))
 .nil)))
def sG:MC:=⟨zY xI,vL,(fun _=>true),fns.take 17,gls,mts,its,sxm,[]⟩
theorem gK:FnScope vL ["_law_deal_here", "_law_sayings", "_law_many", "_law_deep"] (zY xI):=⟨rfl,rfl,rfl,by decide +kernel,rfl,by decide +kernel,by decide +kernel⟩
theorem nQ:kF qI sG (zI xI)=true:=by decide +kernel
abbrev kT:Stmt:=rJ 4
def gD:List Str:=["thing"]
def pN:ISs:=(.cons (.ite (.or (.not (.call 4 (.cons (.var 0) (.cons (.glb 9) .nil)))) (.not (.chn .LtE .LtE (.con (.int 1)) (.call 1 (.cons (.var 0) .nil)) (.glb 0)))) (.cons (.ret (.con (.bool false)))
 .nil) .nil)
 (.cons (.ret (.and (.cmp .NotIn (.var 0) (.glb 1)) (.call 2 (.cons (.lc (.nm 0) ["sign"] [] (.val (.var 0)) .no (.chn .LtE .LtE (.con (.str "a")) (.var 0) (.con (.str "z")))) .nil))))
 .nil))
def zbz:MC:=⟨zY kT,gD,(fun _=>true),fns.take 18,gls,mts,its,sxm,[]⟩
theorem zcI:FnScope gD ["thing"] (zY kT):=⟨rfl,rfl,rfl,by decide +kernel,rfl,by decide +kernel,by decide +kernel⟩
theorem zaV:kF pN zbz (zI kT)=true:=by decide +kernel
abbrev qM:Stmt:=rJ 6
def nW:List Str:=["thing"]
def sO:ISs:=(.cons (.ite (.or (.not (.call 4 (.cons (.var 0) (.cons (.glb 11) .nil)))) (.or (.cmp .Eq (.call 1 (.cons (.var 0) .nil)) (.con (.int 0))) (.not (.call 4 (.cons (.ix (.var 0) (.con (.int 0))) (.cons (.glb 9) .nil)))))) (.cons (.ret (.con (.bool false)))
 .nil) .nil)
 (.cons (.ite (.cmp .NotEq (.spc 1 (.cons (.ix (.var 0) (.con (.int 0))) .nil)) (.call 1 (.cons (.var 0) .nil))) (.cons (.ret (.con (.bool false)))
 .nil) .nil)
 (.cons (.ret (.or (.cmp .NotEq (.ix (.var 0) (.con (.int 0))) (.con (.str "say"))) (.call 18 (.cons (.ix (.var 0) (.con (.int 1))) .nil))))
 .nil)))
def bT:MC:=⟨zY qM,nW,(fun _=>true),fns.take 19,gls,mts,its,sxm,[]⟩
theorem zb1:FnScope nW ["thing"] (zY qM):=⟨rfl,rfl,rfl,by decide +kernel,rfl,by decide +kernel,by decide +kernel⟩
theorem zak:kF sO bT (zI qM)=true:=by decide +kernel
abbrev qO:Stmt:=rJ 7
def pA:List Str:=["saying"]
def sQ:ISs:=(.cons (.ret (.ite (.cmp .Eq (.ix (.var 0) (.con (.int 0))) (.con (.str "say"))) (.tup .nil) (.sl (.var 0) (.yes (.con (.int 1))) .no)))
 .nil)
def bV:MC:=⟨zY qO,pA,(fun _=>true),fns.take 20,gls,mts,its,sxm,[]⟩
theorem zbZ:FnScope pA ["saying"] (zY qO):=⟨rfl,rfl,rfl,by decide +kernel,rfl,by decide +kernel,by decide +kernel⟩
theorem zai:kF sQ bV (zI qO)=true:=by decide +kernel
abbrev jN:Stmt:=rJ 5
def rX:List Str:=["thing", "waiting", "part"]
def uP:ISs:=(.cons (.asg 1 (.lst (.cons (.var 0) .nil)))
 (.cons (.whl (.var 1) (.cons (.asg 2 (.mth 0 (.var 1) .nil))
 (.cons (.ite (.not (.call 19 (.cons (.var 2) .nil))) (.cons (.ret (.con (.bool false)))
 .nil) .nil)
 (.cons (.ex (.mth 4 (.var 1) (.cons (.call 20 (.cons (.var 2) .nil)) .nil)))
 .nil))))
 (.cons (.ret (.con (.bool true)))
 .nil)))
def fT:MC:=⟨zY jN,rX,(fun _=>true),fns.take 21,gls,mts,its,sxm,[]⟩
theorem zaD:FnScope rX ["thing"] (zY jN):=⟨rfl,rfl,rfl,by decide +kernel,rfl,by decide +kernel,by decide +kernel⟩
theorem cZ:kF uP fT (zI jN)=true:=by decide +kernel
abbrev yD:Stmt:=rJ 17
def qV:List Str:=["thing"]
def wS:ISs:=(.cons (.ret (.and (.call 4 (.cons (.var 0) (.cons (.glb 11) .nil))) (.and (.cmp .Gt (.call 1 (.cons (.var 0) .nil)) (.con (.int 0))) (.call 4 (.cons (.ix (.var 0) (.con (.int 0))) (.cons (.glb 9) .nil))))))
 .nil)
def vY:MC:=⟨zY yD,qV,(fun _=>true),fns.take 22,gls,mts,its,sxm,[]⟩
theorem sC:FnScope qV ["thing"] (zY yD):=⟨rfl,rfl,rfl,by decide +kernel,rfl,by decide +kernel,by decide +kernel⟩
theorem tJ:kF wS vY (zI yD)=true:=by decide +kernel
abbrev jM:Stmt:=rJ 19
def rW:List Str:=["thing", "words"]
def uO:ISs:=(.cons (.ret (.and (.call 4 (.cons (.var 0) (.cons (.glb 9) .nil))) (.cmp .In (.var 0) (.var 1))))
 .nil)
def fS:MC:=⟨zY jM,rW,(fun _=>true),fns.take 23,gls,mts,its,sxm,[]⟩
theorem zaE:FnScope rW ["thing", "words"] (zY jM):=⟨rfl,rfl,rfl,by decide +kernel,rfl,by decide +kernel,by decide +kernel⟩
theorem cY:kF uO fS (zI jM)=true:=by decide +kernel
abbrev jO:Stmt:=rJ 18
def rY:List Str:=["word", "things"]
def uQ:ISs:=(.cons (.ite (.cmp .NotEq (.spc 2 (.cons (.var 0) .nil)) (.call 1 (.cons (.var 1) .nil))) (.cons (.ret (.con (.bool false)))
 .nil) .nil)
 (.cons (.ite (.and (.cmp .Eq (.call 1 (.cons (.var 1) .nil)) (.con (.int 2))) (.not (.call 23 (.cons (.ix (.var 1) (.con (.int 0))) (.cons (.glb 6) .nil))))) (.cons (.ret (.con (.bool false)))
 .nil) .nil)
 (.cons (.ret (.or (.cmp .Eq (.call 1 (.cons (.var 1) .nil)) (.con (.int 0))) (.call 21 (.cons (.ix (.var 1) (.neg (.con (.int 1)))) .nil))))
 .nil)))
def fU:MC:=⟨zY jO,rY,(fun _=>true),fns.take 24,gls,mts,its,sxm,[]⟩
theorem zaC:FnScope rY ["word", "things"] (zY jO):=⟨rfl,rfl,rfl,by decide +kernel,rfl,by decide +kernel,by decide +kernel⟩
theorem dB:kF uQ fU (zI jO)=true:=by decide +kernel
abbrev xJ:Stmt:=rJ 16
def vM:List Str:=["thing", "waiting", "part", "word", "things"]
def qJ:ISs:=(.cons (.asg 1 (.lst (.cons (.var 0) .nil)))
 (.cons (.whl (.var 1) (.cons (.asg 2 (.mth 0 (.var 1) .nil))
 (.cons (.ite (.not (.call 22 (.cons (.var 2) .nil))) (.cons (.ret (.con (.bool false)))
 .nil) .nil)
 (.cons (.asgS 3 4 (.var 2))
 (.cons (.ite (.cmp .Eq (.spc 3 (.cons (.var 3) .nil)) (.call 1 (.cons (.var 4) .nil))) (.cons (.ex (.mth 4 (.var 1) (.cons (.var 4) .nil)))
 .nil) (.cons (.ite (.not (.call 24 (.cons (.var 3) (.cons (.var 4) .nil)))) (.cons (.ret (.con (.bool false)))
 .nil) .nil)
 .nil))
 .nil)))))
 (.cons (.ret (.con (.bool true)))
 .nil)))
def sH:MC:=⟨zY xJ,vM,(fun _=>true),fns.take 25,gls,mts,its,sxm,[]⟩
theorem gL:FnScope vM ["thing"] (zY xJ):=⟨rfl,rfl,rfl,by decide +kernel,rfl,by decide +kernel,by decide +kernel⟩
theorem nR:kF qJ sH (zI xJ)=true:=by decide +kernel
abbrev qN:Stmt:=rJ 21
def nX:List Str:=["things"]
def sP:ISs:=(.cons (.ite (.or (.cmp .Eq (.call 1 (.cons (.var 0) .nil)) (.con (.int 0))) (.not (.call 23 (.cons (.ix (.var 0) (.con (.int 0))) (.cons (.glb 5) .nil))))) (.cons (.ret (.con (.bool false)))
 .nil) .nil)
 (.cons (.ret (.or (.cmp .Eq (.call 1 (.cons (.var 0) .nil)) (.con (.int 1))) (.and (.cmp .Eq (.call 1 (.cons (.var 0) .nil)) (.con (.int 2))) (.call 21 (.cons (.ix (.var 0) (.con (.int 1))) .nil)))))
 .nil))
def bU:MC:=⟨zY qN,nX,(fun _=>true),fns.take 26,gls,mts,its,sxm,[]⟩
theorem zb0:FnScope nX ["things"] (zY qN):=⟨rfl,rfl,rfl,by decide +kernel,rfl,by decide +kernel,by decide +kernel⟩
theorem zaj:kF sP bU (zI qN)=true:=by decide +kernel
abbrev jL:Stmt:=rJ 22
def rV:List Str:=["thing"]
def uN:ISs:=(.cons (.ret (.and (.call 4 (.cons (.var 0) (.cons (.glb 10) .nil))) (.and (.not (.call 4 (.cons (.var 0) (.cons (.glb 8) .nil)))) (.chn .LtE .LtE (.con (.int 0)) (.var 0) (.glb 7)))))
 .nil)
def fR:MC:=⟨zY jL,rV,(fun _=>true),fns.take 27,gls,mts,its,sxm,[]⟩
theorem zaF:FnScope rV ["thing"] (zY jL):=⟨rfl,rfl,rfl,by decide +kernel,rfl,by decide +kernel,by decide +kernel⟩
theorem cX:kF uN fR (zI jL)=true:=by decide +kernel
abbrev kR:Stmt:=rJ 20
def gC:List Str:=["thing", "word", "things"]
def pM:ISs:=(.cons (.ite (.not (.call 22 (.cons (.var 0) .nil))) (.cons (.ret (.con (.bool false)))
 .nil) .nil)
 (.cons (.asgS 1 2 (.var 0))
 (.cons (.ite (.cmp .Eq (.var 1) (.con (.str "answer"))) (.cons (.ret (.and (.cmp .Eq (.call 1 (.cons (.var 2) .nil)) (.con (.int 1))) (.call 21 (.cons (.ix (.var 2) (.con (.int 0))) .nil))))
 .nil) .nil)
 (.cons (.ite (.cmp .Eq (.var 1) (.con (.str "doubt"))) (.cons (.ret (.call 26 (.cons (.var 2) .nil)))
 .nil) .nil)
 (.cons (.ret (.and (.cmp .Eq (.var 1) (.con (.str "move"))) (.and (.cmp .Eq (.call 1 (.cons (.var 2) .nil)) (.con (.int 1))) (.call 27 (.cons (.ix (.var 2) (.con (.int 0))) .nil)))))
 .nil)))))
def zbA:MC:=⟨zY kR,gC,(fun _=>true),fns.take 28,gls,mts,its,sxm,[]⟩
theorem zcJ:FnScope gC ["thing"] (zY kR):=⟨rfl,rfl,rfl,by decide +kernel,rfl,by decide +kernel,by decide +kernel⟩
theorem zaW:kF pM zbA (zI kR)=true:=by decide +kernel
abbrev vB:Stmt:=rJ 15
def zaR:List Str:=["thing"]
def gX:ISs:=(.cons (.ret (.and (.call 4 (.cons (.var 0) (.cons (.glb 11) .nil))) (.and (.cmp .Eq (.call 1 (.cons (.var 0) .nil)) (.con (.int 2))) (.and (.call 25 (.cons (.ix (.var 0) (.con (.int 0))) .nil)) (.call 28 (.cons (.ix (.var 0) (.con (.int 1))) .nil))))))
 .nil)
def zc5:MC:=⟨zY vB,zaR,(fun _=>true),fns.take 29,gls,mts,its,sxm,[]⟩
theorem zef:FnScope zaR ["thing"] (zY vB):=⟨rfl,rfl,rfl,by decide +kernel,rfl,by decide +kernel,by decide +kernel⟩
theorem zb8:kF gX zc5 (zI vB)=true:=by decide +kernel
abbrev wP:Stmt:=rJ 14
def tQ:List Str:=["thing"]
def vR:ISs:=(.cons (.ret (.and (.call 4 (.cons (.var 0) (.cons (.glb 11) .nil))) (.call 2 (.cons (.lc (.nm 0) ["row"] [] (.val (.var 0)) .no (.call 29 (.cons (.var 0) .nil))) .nil))))
 .nil)
def nG:MC:=⟨zY wP,tQ,(fun _=>true),fns.take 30,gls,mts,its,sxm,[]⟩
theorem zab:FnScope tQ ["thing"] (zY wP):=⟨rfl,rfl,rfl,by decide +kernel,rfl,by decide +kernel,by decide +kernel⟩
theorem fK:kF vR nG (zI wP)=true:=by decide +kernel
abbrev jJ:Stmt:=rJ 38
def rS:List Str:=["_law_thing", "_law_due", "_law_found"]
def uM:ISs:=(.cons (.asg 2 (.call 30 (.cons (.var 0) .nil)))
 (.cons (.ret (.and (.call 4 (.cons (.var 2) (.cons (.glb 8) .nil))) (.cmp .Eq (.var 2) (.var 1))))
 .nil))
def fP:MC:=⟨zY jJ,rS,(fun _=>true),fns.take 31,gls,mts,its,sxm,[]⟩
theorem zaH:FnScope rS ["_law_thing", "_law_due"] (zY jJ):=⟨rfl,rfl,rfl,by decide +kernel,rfl,by decide +kernel,by decide +kernel⟩
theorem cV:kF uM fP (zI jJ)=true:=by decide +kernel
abbrev xX:Stmt:=rJ 34
def qE:List Str:=["_law_deal_here", "_law_saying_here", "_law_some"]
def jP:ISs:=(.cons (.asg 2 (.lst (.cons (.tup (.cons (.con (.str "say")) (.cons (.con (.str "")) .nil))) (.cons (.tup (.cons (.con (.str "say")) (.cons (.con (.str "and")) .nil))) (.cons (.tup (.cons (.con (.str "say")) (.cons (.con (.str "Ab")) .nil))) (.cons (.tup (.cons (.con (.str "say")) (.cons (.con (.str "abcdefg")) .nil))) (.cons (.tup (.cons (.con (.str "say")) (.cons (.con (.int 3)) .nil))) .nil)))))))
 (.cons (.asg 2 (.bin .Add (.var 2) (.lst (.cons (.tup (.cons (.con (.str "say")) (.cons (.con .none) .nil))) (.cons (.lst (.cons (.con (.str "say")) (.cons (.con (.str "a")) .nil))) (.cons (.tup (.cons (.con (.str "is")) (.cons (.con (.str "a")) .nil))) (.cons (.tup .nil) (.cons (.con .none) (.cons (.con (.int 7)) (.cons (.con (.str "a")) (.cons (.tup (.cons (.con (.str "not")) .nil)) (.cons (.tup (.cons (.con (.str "and")) (.cons (.var 1) .nil))) .nil))))))))))))
 (.cons (.asg 2 (.bin .Add (.var 2) (.lst (.cons (.tup (.cons (.con (.str "or")) (.cons (.var 1) (.cons (.var 1) (.cons (.var 1) .nil))))) (.cons (.tup (.cons (.con (.str "not")) (.cons (.con (.str "a")) .nil))) .nil)))))
 (.cons (.ret (.ix (.bin .Add (.var 2) (.lst (.cons (.call 3 (.cons (.var 1) .nil)) (.cons (.tup (.cons (.con (.str "if")) (.cons (.var 1) (.cons (.con .none) .nil)))) .nil)))) (.call 9 (.cons (.var 0) (.cons (.con (.int 18)) .nil)))))
 .nil))))
def uG:MC:=⟨zY xX,qE,(fun _=>true),fns.take 32,gls,mts,its,sxm,[]⟩
theorem pE:FnScope qE ["_law_deal_here", "_law_saying_here"] (zY xX):=⟨rfl,rfl,rfl,by decide +kernel,rfl,by decide +kernel,by decide +kernel⟩
theorem rQ:kF jP uG (zI xX)=true:=by decide +kernel
abbrev yP:Stmt:=rJ 35
def wU:List Str:=["_law_deal_here", "_law_condition_here", "_law_saying_here", "_law_at", "_law_inner", "_law_other", "_law_some"]
def zE:ISs:=(.cons (.ite (.and (.cmp .In (.ix (.var 1) (.con (.int 0))) (.tup (.cons (.con (.str "not")) (.cons (.con (.str "and")) (.cons (.con (.str "or")) .nil))))) (.cmp .Eq (.call 9 (.cons (.var 0) (.cons (.con (.int 2)) .nil))) (.con (.int 0)))) (.cons (.asg 3 (.bin .Add (.con (.int 1)) (.call 9 (.cons (.var 0) (.cons (.bin .Sub (.call 1 (.cons (.var 1) .nil)) (.con (.int 1))) .nil)))))
 (.cons (.asg 4 (.call 33 (.cons (.var 0) (.cons (.ix (.var 1) (.var 3)) (.cons (.var 2) .nil)))))
 (.cons (.ret (.bin .Add (.bin .Add (.sl (.var 1) .no (.yes (.var 3))) (.tup (.cons (.var 4) .nil))) (.sl (.var 1) (.yes (.bin .Add (.var 3) (.con (.int 1)))) .no)))
 .nil))) .nil)
 (.cons (.asg 5 (.call 32 (.cons (.var 0) (.cons (.var 2) .nil))))
 (.cons (.asg 6 (.lst (.cons (.call 3 (.cons (.var 1) .nil)) (.cons (.bin .Add (.var 1) (.tup (.cons (.var 2) .nil))) (.cons (.sl (.var 1) .no (.yes (.neg (.con (.int 1))))) (.cons (.tup (.cons (.con (.str "all")) .nil)) (.cons (.tup (.cons (.con (.str "said")) (.cons (.var 5) .nil))) .nil)))))))
 (.cons (.asg 6 (.bin .Add (.var 6) (.lst (.cons (.tup (.cons (.con (.str "open")) (.cons (.con (.str "left")) (.cons (.var 5) .nil)))) (.cons (.tup (.cons (.con (.str "used")) (.cons (.con (.str "both")) (.cons (.var 2) .nil)))) (.cons (.tup (.cons (.con (.str "asked")) (.cons (.con (.str "")) (.cons (.var 2) .nil)))) .nil))))))
 (.cons (.asg 6 (.bin .Add (.var 6) (.lst (.cons (.tup (.cons (.con (.str "answered")) (.cons (.con .none) (.cons (.var 2) .nil)))) (.cons (.tup (.cons (.con (.str "heard")) .nil)) (.cons (.tup (.cons (.con (.str "any")) (.cons (.var 2) .nil))) (.cons (.tup (.cons (.con (.str "said")) (.cons (.con (.str "left")) (.cons (.var 2) .nil)))) .nil)))))))
 (.cons (.asg 6 (.bin .Add (.var 6) (.lst (.cons (.tup (.cons (.con (.str "open")) (.cons (.var 2) .nil))) (.cons (.tup (.cons (.con (.str "and")) (.cons (.var 1) .nil))) (.cons (.tup (.cons (.con (.str "not")) (.cons (.var 1) (.cons (.var 1) .nil)))) .nil))))))
 (.cons (.asg 6 (.bin .Add (.var 6) (.lst (.cons (.tup (.cons (.con (.str "or")) (.cons (.var 1) (.cons (.var 5) .nil)))) (.cons (.con .none) (.cons (.con (.bool true)) (.cons (.con (.str "any")) (.cons (.lst (.cons (.con (.str "any")) .nil)) (.cons (.tup (.cons (.lst (.cons (.con (.str "any")) .nil)) .nil)) .nil)))))))))
 (.cons (.asg 6 (.bin .Add (.var 6) (.lst (.cons (.tup (.cons (.con (.str "then")) (.cons (.var 1) (.cons (.var 1) .nil)))) (.cons (.tup (.cons (.con (.str "fresh")) (.cons (.var 5) .nil))) (.cons (.tup (.cons (.con (.str "heard")) (.cons (.var 5) .nil))) (.cons (.tup (.cons (.con (.str "used")) (.cons (.con (.str "if")) (.cons (.var 5) .nil)))) .nil)))))))
 (.cons (.asg 6 (.bin .Add (.var 6) (.lst (.cons (.tup (.cons (.con (.str "asked")) (.cons (.con (.str "not")) (.cons (.var 5) .nil)))) (.cons (.tup (.cons (.con (.str "answered")) (.cons (.con (.str "begin")) (.cons (.var 5) .nil)))) (.cons (.tup (.cons (.con (.str "open")) (.cons (.con (.str "both")) (.cons (.var 2) .nil)))) .nil))))))
 (.cons (.asg 6 (.bin .Add (.var 6) (.lst (.cons (.tup (.cons (.con (.str "used")) (.cons (.con (.str "")) (.cons (.var 2) .nil)))) (.cons (.tup (.cons (.con (.str "asked")) (.cons (.con (.str "both")) (.cons (.var 2) .nil)))) (.cons (.tup (.cons (.con (.str "answered")) (.cons (.con (.str "both")) (.cons (.var 2) .nil)))) .nil))))))
 (.cons (.ret (.ix (.var 6) (.call 9 (.cons (.var 0) (.cons (.call 1 (.cons (.var 6) .nil)) .nil)))))
 .nil)))))))))))
def qQ:MC:=⟨zY yP,wU,(fun _=>true),fns.take 34,gls,mts,its,sxm,[]⟩
theorem vA:FnScope wU ["_law_deal_here", "_law_condition_here", "_law_saying_here"] (zY yP):=⟨rfl,rfl,rfl,by decide +kernel,rfl,by decide +kernel,by decide +kernel⟩
theorem vK:kF zE qQ (zI yP)=true:=by decide +kernel
abbrev yA:Stmt:=rJ 36
def qL:List Str:=["_law_deal_here", "_law_deed_here", "_law_saying_here", "_law_other", "_law_some"]
def jY:ISs:=(.cons (.asg 3 (.call 32 (.cons (.var 0) (.cons (.var 2) .nil))))
 (.cons (.asg 4 (.lst (.cons (.call 3 (.cons (.var 1) .nil)) (.cons (.bin .Add (.var 1) (.tup (.cons (.var 2) (.cons (.var 2) .nil)))) (.cons (.sl (.var 1) .no (.yes (.con (.int 1)))) (.cons (.tup (.cons (.con (.str "answer")) (.cons (.var 3) .nil))) .nil))))))
 (.cons (.asg 4 (.bin .Add (.var 4) (.lst (.cons (.tup (.cons (.con (.str "doubt")) (.cons (.con (.str "left")) (.cons (.var 3) .nil)))) (.cons (.tup (.cons (.con (.str "move")) (.cons (.con (.int 1000)) .nil))) (.cons (.tup (.cons (.con (.str "move")) (.cons (.neg (.con (.int 1))) .nil))) (.cons (.tup (.cons (.con (.str "move")) (.cons (.con (.bool true)) .nil))) (.cons (.tup (.cons (.con (.str "move")) (.cons (.con (.bool false)) .nil))) .nil))))))))
 (.cons (.asg 4 (.bin .Add (.var 4) (.lst (.cons (.tup (.cons (.con (.str "move")) (.cons (.con .none) .nil))) (.cons (.tup (.cons (.con (.str "move")) (.cons (.con (.str "1")) .nil))) (.cons (.tup (.cons (.con (.str "doubt")) (.cons (.con (.str "begin")) .nil))) (.cons (.tup (.cons (.con (.str "play")) (.cons (.var 2) .nil))) .nil)))))))
 (.cons (.asg 4 (.bin .Add (.var 4) (.lst (.cons (.tup (.cons (.con (.str "doubt")) (.cons (.con (.str "begin")) (.cons (.var 2) .nil)))) (.cons (.tup (.cons (.con (.str "doubt")) (.cons (.con (.str "then")) (.cons (.var 2) .nil)))) (.cons (.tup (.cons (.con (.str "doubt")) (.cons (.con (.str "")) .nil))) (.cons (.tup (.cons (.con (.str "doubt")) (.cons (.con .none) .nil))) .nil)))))))
 (.cons (.asg 4 (.bin .Add (.var 4) (.lst (.cons (.tup (.cons (.con (.str "answer")) .nil)) (.cons (.tup (.cons (.con (.str "move")) (.cons (.con (.int 1)) (.cons (.con (.int 2)) .nil)))) (.cons (.con .none) (.cons (.con (.int 0)) (.cons (.con (.str "move")) (.cons (.tup (.cons (.con (.str "answer")) (.cons (.var 2) (.cons (.var 2) .nil)))) .nil)))))))))
 (.cons (.asg 4 (.bin .Add (.var 4) (.lst (.cons (.tup (.cons (.con (.str "doubt")) (.cons (.var 2) .nil))) (.cons (.tup (.cons (.con (.str "move")) (.cons (.bin .Pow (.con (.int 1000)) (.con (.int 9))) .nil))) .nil)))))
 (.cons (.ret (.ix (.var 4) (.call 9 (.cons (.var 0) (.cons (.call 1 (.cons (.var 4) .nil)) .nil)))))
 .nil))))))))
def vG:MC:=⟨zY yA,qL,(fun _=>true),fns.take 34,gls,mts,its,sxm,[]⟩
theorem rC:FnScope qL ["_law_deal_here", "_law_deed_here", "_law_saying_here"] (zY yA):=⟨rfl,rfl,rfl,by decide +kernel,rfl,by decide +kernel,by decide +kernel⟩
theorem sK:kF jY vG (zI yA)=true:=by decide +kernel
abbrev wN:Stmt:=rJ 37
def tO:List Str:=["_law_deal_here", "_law_program_here", "_law_saying_here", "_law_at", "_law_condition_here", "_law_deed_here", "_law_way", "_law_row"]
def wF:ISs:=(.cons (.ite (.or (.cmp .Eq (.var 1) (.tup .nil)) (.cmp .Eq (.call 9 (.cons (.var 0) (.cons (.con (.int 8)) .nil))) (.con (.int 0)))) (.cons (.ret (.ix (.lst (.cons (.call 3 (.cons (.var 1) .nil)) (.cons (.tup (.cons (.var 1) .nil)) (.cons (.con .none) (.cons (.spc 4 .nil) (.cons (.con (.str "")) (.cons (.con (.int 5)) (.cons (.tup (.cons (.tup (.cons (.tup (.cons (.con (.str "any")) .nil)) .nil)) .nil)) (.cons (.bin .Add (.var 1) (.tup (.cons (.tup .nil) .nil))) .nil))))))))) (.call 9 (.cons (.var 0) (.cons (.con (.int 8)) .nil)))))
 .nil) .nil)
 (.cons (.asg 3 (.call 9 (.cons (.var 0) (.cons (.call 1 (.cons (.var 1) .nil)) .nil))))
 (.cons (.asgT (.cons (.nm 4) (.cons (.nm 5) .nil)) (.ix (.var 1) (.var 3)))
 (.cons (.asg 6 (.call 9 (.cons (.var 0) (.cons (.con (.int 5)) .nil))))
 (.cons (.ite (.cmp .Eq (.var 6) (.con (.int 0))) (.cons (.asg 7 (.ix (.lst (.cons (.lst (.cons (.var 4) (.cons (.var 5) .nil))) (.cons (.tup (.cons (.var 4) .nil)) (.cons (.tup (.cons (.var 4) (.cons (.var 5) (.cons (.var 5) .nil)))) (.cons (.tup (.cons (.var 5) (.cons (.var 4) .nil))) (.cons (.con .none) .nil)))))) (.call 9 (.cons (.var 0) (.cons (.con (.int 5)) .nil)))))
 .nil) (.cons (.ite (.cmp .Lt (.var 6) (.con (.int 3))) (.cons (.asg 7 (.tup (.cons (.call 33 (.cons (.var 0) (.cons (.var 4) (.cons (.var 2) .nil)))) (.cons (.var 5) .nil))))
 .nil) (.cons (.asg 7 (.tup (.cons (.var 4) (.cons (.call 34 (.cons (.var 0) (.cons (.var 5) (.cons (.var 2) .nil)))) .nil))))
 .nil))
 .nil))
 (.cons (.ret (.bin .Add (.bin .Add (.sl (.var 1) .no (.yes (.var 3))) (.tup (.cons (.var 7) .nil))) (.sl (.var 1) (.yes (.bin .Add (.var 3) (.con (.int 1)))) .no)))
 .nil))))))
def nF:MC:=⟨zY wN,tO,(fun _=>true),fns.take 35,gls,mts,its,sxm,[]⟩
theorem zac:FnScope tO ["_law_deal_here", "_law_program_here", "_law_saying_here"] (zY wN):=⟨rfl,rfl,rfl,by decide +kernel,rfl,by decide +kernel,by decide +kernel⟩
theorem fJ:kF wF nF (zI wN)=true:=by decide +kernel
abbrev slaw:Stmt:=rJ 39
def nlaw:List Str:=["_law_script", "_law_deal_here", "_law_saying_here", "_law_program_here", "_law_some", "_law_k"]
def blaw:ISs:=(.cons (.asg 1 (.call 8 (.cons (.var 0) (.cons (.con (.int 1)) .nil))))
 (.cons (.asg 2 (.call 11 (.cons (.var 1) (.cons (.call 10 (.cons (.var 1) (.cons (.bin .Add (.con (.int 1)) (.call 9 (.cons (.var 1) (.cons (.con (.int 3)) .nil)))) .nil))) (.cons (.bin .Add (.con (.int 1)) (.call 9 (.cons (.var 1) (.cons (.con (.int 6)) .nil)))) .nil)))))
 (.cons (.asg 3 (.call 17 (.cons (.var 1) (.cons (.call 12 (.cons (.var 2) .nil)) (.cons (.con (.int 30)) (.cons (.con (.int 4)) .nil))))))
 (.cons (.asg 4 (.lst (.cons (.tup (.cons (.var 3) (.cons (.con (.bool true)) .nil))) (.cons (.tup (.cons (.tup .nil) (.cons (.con (.bool true)) .nil))) (.cons (.tup (.cons (.tup (.cons (.tup (.cons (.tup (.cons (.con (.str "any")) .nil)) (.cons (.tup (.cons (.con (.str "move")) (.cons (.con (.int 0)) .nil))) .nil))) (.cons (.tup (.cons (.tup (.cons (.con (.str "any")) .nil)) (.cons (.tup (.cons (.con (.str "move")) (.cons (.con (.int 999)) .nil))) .nil))) .nil))) (.cons (.con (.bool true)) .nil))) .nil)))))
 (.cons (.for (.nm 5) (.blt 0 (.cons (.bin .Add (.con (.int 1)) (.call 1 (.cons (.sl (.var 0) (.yes (.con (.int 40))) (.yes (.con (.int 63)))) .nil))) .nil)) (.cons (.ex (.mth 2 (.var 4) (.cons (.tup (.cons (.call 35 (.cons (.var 1) (.cons (.var 3) (.cons (.var 2) .nil)))) (.cons (.con (.bool false)) .nil))) .nil)))
 .nil))
 (.cons (.ret (.call 2 (.cons (.lc (.tup (.cons (.nm 0) (.cons (.nm 1) .nil))) ["_law_thing", "_law_due"] [] (.val (.bin .Add (.var 4) (.sl (.var 4) .no (.yes (.con (.int 1)))))) .no (.call 31 (.cons (.var 0) (.cons (.var 1) .nil)))) .nil)))
 .nil))))))
def mlaw:MC:=⟨zY slaw,nlaw,(fun _=>true),fns.take 36,gls,mts,its,sxm,[]⟩
theorem sclaw:FnScope nlaw ["_law_script"] (zY slaw):=⟨rfl,rfl,rfl,by decide +kernel,rfl,by decide +kernel,by decide +kernel⟩
theorem zgr:kF blaw mlaw (zI slaw)=true:=by decide +kernel
end K47
namespace K47
open PySem PySem.Spec PyProof.Rows L2 L3
open PySem.W (nsIn keepIn codeIn mg_of findIn mg_none_of fnOf)
abbrev eApp:Mt3:=⟨"append", "list", appS⟩
theorem zg1 {q:Pr} {A:Around}:MtE (q.at A) eApp/\nJ eApp:=⟨fX PySem.F.plainAttrs_list PySem.F.slot_list_append PySem.F.type_list_append (fun X f=>zje) zax,zax⟩
def tupS:RS:=fun ws G Q=>match ws with
 | [x]=>(match nI G x with|some xs=>Q (.tup xs) G|none=>False)
 |_=>False
theorem cL:qF tupS:=by
 intro ws G Q Q' k h;unfold tupS at h ⊢
 split at h
 .split at h
  .exact k _ _ h
  .exact h.elim
 .exact h.elim
theorem zhk {X:Cx}:qS X (.type "tuple") (nU X.K tupS):=by
 intro pins s σ H xs us Q I r h;obtain ⟨ws,G,rs,ab,h⟩:=h;unfold tupS at h
 split at h
 .rename_i w;obtain ⟨v,rfl,rv⟩:=kQ rs
  split at h
  .rename_i ys hy;obtain ⟨a,vs,b,rfl,sq,rr⟩:=zcF ab rv hy;refine cP pins s σ H _ us Q I r ⟨a,vs,rfl,?_⟩;cases b
   .exact .inl ⟨sq,pZ ab rr h⟩
   .exact .inr ⟨sq,h _ _ .refl ⟨a,vs,rfl,sq,rr⟩ ab⟩
  .exact h.elim
 .exact h.elim
abbrev eTup:Fn3:=⟨"tuple", fun ws G Q _=>tupS ws G Q⟩
theorem zgP {q:Pr} {A:Around} (hm:q.mg "tuple" = none):vO (q.at A) eTup:=⟨zgN hm (by decide +kernel) (fun X f=>zhk) cL (fun _ _ h=>h),fun ws G Q Q' _ k h=>cL ws G Q Q' k h⟩
def noN:List Str:=["and", "or", "not", "then"]
def ltB (c:Nat):Bool:=decide (97<=c)&&decide (c<=122)
def xE (x:Str):Bool:=x.cps.toList.all ltB
def dE (x:Str):Bool:=decide (1<=x.length)&&decide (x.length<=6)&&!noN.contains x&&xE x
def gB:W->Bool
 | .str x=>dE x
 |_=>false
inductive Op where
 |an|or|im
inductive Sy where
 |say (x:Str)|neg (a:Sy)|two (k:Op) (a b:Sy)
def kw:Op->Str
 | .an => "and"
 | .or => "or"
 | .im => "if"
def Sy.w:Sy->W
 | .say x=>.tup [.str "say", .str x]
 | .neg a=>.tup [.str "not", a.w]
 | .two k a b=>.tup [.str (kw k),a.w,b.w]
def Sy.size:Sy->Nat
 | .say _=>1
 | .neg a=>a.size+1
 | .two _ a b=>a.size+b.size+1
def Sy.deep:Sy->Nat
 | .say _=>0
 | .neg a=>a.deep+1
 | .two _ a b=>max a.deep b.deep+1
def Sy.ok:Sy->Prop
 | .say x=>dE x=true
 | .neg a=>a.ok
 | .two _ a b=>a.ok/\b.ok
theorem Sy.pos:∀ t:Sy,1<=t.size
 | .say _=>zzR _
 | .neg _=>Nat.le_add_left _ _
 | .two _ _ _=>Nat.le_add_left _ _
theorem Sy.low:∀ t:Sy,t.deep<t.size
 | .say _=>Nat.lt_succ_self _
 | .neg a=>by have:=Sy.low a;simp only [Sy.deep,Sy.size];omega
 | .two _ a b=>by have:=Sy.low a;have:=Sy.low b;simp only [Sy.deep,Sy.size];omega
theorem Sy.dep:∀ t:Sy,L3.dep t.w<=t.size
 | .say _=>by simp [Sy.w,L3.dep,wG,Sy.size]
 | .neg a=>by have:=Sy.dep a;simp only [Sy.w,L3.dep,wG,Sy.size];omega
 | .two _ a b=>by have:=Sy.dep a;have:=Sy.dep b;simp only [Sy.w,L3.dep,wG,Sy.size];omega
theorem ziz (k:Op):((kw k:Str) == "say")=false/\((kw k:Str) == "not")=false:=by
 cases k<;>exact ⟨by decide +kernel,by decide +kernel⟩
def cR:List Str:=["say", "not", "and", "or", "if"]
def mL:List W:=[.int 2,.int 2,.int 3,.int 3,.int 3]
def lenD:W:=.dcf cR mL
def fF (t:Str):W:=((cR.zip mL).lookup t).getD .non
def lenB (t:Str) (n:Nat):Bool:=match fF t with
 | .int k=>decide (k=(n:Int))
 |_=>false
def pR:List W->Bool
 | .str t::r=>lenB t (r.length+1)&&(!(t == "say") || gB (r.headD .non))
 |_=>false
def dW:W->Bool
 | .tup ws=>pR ws
 |_=>false
def vN:List W->List W
 | .str t::r=>if t = "say" then [] else r
 |_=>[]
mutual
def pI:W->Bool
 | .tup ws=>pR ws&&okL ws
 |_=>false
def okL:List W->Bool
 | []=>true
 |x::r=>(match x with|.str t=>t == "say" | _=>false) || tT r
def tT:List W->Bool
 | []=>true
 |w::r=>pI w&&tT r
end
mutual
def yC:W->Nat
 | .tup ws=>qZ ws+1
 |_=>1
def qZ:List W->Nat
 | []=>0
 |w::r=>yC w+qZ r
end
mutual
def kn (G:Hw):W->Prop
 | .non=>True
 | .bl _=>True
 | .int _=>True
 | .str x=>x.length<=1000
 | .tup ws=>pH G ws
 | .ref p=>(∃ l,G p=some (.lst l))\/∃ l,G p=some (.dic l)
 |_=>False
def pH (G:Hw):List W->Prop
 | []=>True
 |w::r=>kn G w/\pH G r
end
mutual
theorem jZ {G G':Hw} (k:∀ p,((∃ l,G p=some (.lst l))\/∃ l,G p=some (.dic l))->(∃ l,G' p=some (.lst l))\/∃ l,G' p=some (.dic l)):∀ {w:W},kn G w->kn G' w
 | .non,h=>h
 | .bl _,h=>h
 | .int _,h=>h
 | .str _,h=>h
 | .tup ws,h=>zbD (ws:=ws) k h
 | .ref p,h=>k p h
 | .ty _,h=>h.elim
 | .lsf _,h=>h.elim
 | .exc _ _ _,h=>h.elim
 | .dcf _ _,h=>h.elim
theorem zbD {G G':Hw} (k:∀ p,((∃ l,G p=some (.lst l))\/∃ l,G p=some (.dic l))->(∃ l,G' p=some (.lst l))\/∃ l,G' p=some (.dic l)):∀ {ws:List W},pH G ws->pH G' ws
 | [],_=>trivial
 |w::r,h=>⟨jZ k h.1,zbD k h.2⟩
end
theorem kp0 {G G':Hw} (k:zW [] G G'):∀ p,((∃ l,G p=some (.lst l))\/∃ l,G p=some (.dic l))->(∃ l,G' p=some (.lst l))\/∃ l,G' p=some (.dic l):=fun p h=>by
 rcases h with ⟨l,h⟩|⟨l,h⟩
 .exact .inl ⟨l,k _ _ (by simp) h⟩
 .exact .inr ⟨l,k _ _ (by simp) h⟩
theorem kpD {G G':Hw} {d l:Addr} (k:zW [d,l] G G') (D:xY G' d l):∀ p,((∃ l,G p=some (.lst l))\/∃ l,G p=some (.dic l))->(∃ l,G' p=some (.lst l))\/∃ l,G' p=some (.dic l):=fun p h=>by
 by_cases hp:p∈[d,l]
 .obtain ⟨x,y,z,D⟩:=D;rcases List.mem_cons.mp hp with rfl|hp
  .exact .inr ⟨_,D.dic⟩
  .rw [zzO hp];exact .inl ⟨_,D.lst⟩
 .rcases h with ⟨l,h⟩|⟨l,h⟩
  .exact .inl ⟨l,k _ _ hp h⟩
  .exact .inr ⟨l,k _ _ hp h⟩
inductive C1 where
 |said|fresh|heard
inductive C2 where
 |opn|used|asked|answ
def C1.s:C1->Str
 | .said => "said"
 | .fresh => "fresh"
 | .heard => "heard"
def C2.s:C2->Str
 | .opn => "open"
 | .used => "used"
 | .asked => "asked"
 | .answ => "answered"
inductive Cd where
 |any|one (k:C1) (s:Sy)|two (k:C2) (x:Str) (s:Sy)|neg (a:Cd)|bin (k:Bool) (a b:Cd)
def bw:Bool->Str
 |false => "and"
 |true => "or"
def Cd.w:Cd->W
 | .any=>.tup [.str "any"]
 | .one k s=>.tup [.str k.s,s.w]
 | .two k x s=>.tup [.str k.s,.str x,s.w]
 | .neg a=>.tup [.str "not", a.w]
 | .bin k a b=>.tup [.str (bw k),a.w,b.w]
def Cd.size:Cd->Nat
 | .neg a=>a.size+1
 | .bin _ a b=>a.size+b.size+1
 |_=>1
def Cd.deep:Cd->Nat
 | .neg a=>a.deep+1
 | .bin _ a b=>max a.deep b.deep+1
 |_=>0
def kI:List Str:=["left", "right", "which", "if", "not"]
def sM:List Str:=["begin", "left", "right", "which", "if", "not"]
def Cd.ok:Cd->Prop
 | .any=>True
 | .one _ s=>s.ok/\s.size<=6
 | .two _ x s=>x∈sM/\s.ok/\s.size<=6
 | .neg a=>a.ok
 | .bin _ a b=>a.ok/\b.ok
inductive Dd where
 |ans (s:Sy)|dbt (x:Str) (s:Sy)|dbw (x:Str)|mov (i:Int)
def Dd.w:Dd->W
 | .ans s=>.tup [.str "answer", s.w]
 | .dbt x s=>.tup [.str "doubt", .str x,s.w]
 | .dbw x=>.tup [.str "doubt", .str x]
 | .mov i=>.tup [.str "move", .int i]
def Dd.ok:Dd->Prop
 | .ans s=>s.ok/\s.size<=6
 | .dbt x s=>x∈kI/\s.ok/\s.size<=6
 | .dbw x=>x∈kI
 | .mov i=>0<=i/\i<=999
def yH (r:Cd×Dd):W:=.tup [r.1.w,r.2.w]
def vT:List Str:=["not", "and", "or"]
def pV:List W:=[.int 1,.int 2,.int 2]
def gN:List Str:=["any", "said", "fresh", "heard", "open", "used", "asked", "answered"]
def gO:List W:=[.int 0,.int 1,.int 1,.int 1,.int 2,.int 2,.int 2,.int 2]
def intB (w:W) (n:Nat):Bool:=match w with
 | .int k=>decide (k=(n:Int))
 |_=>false
def yE (x:Str) (n:Nat):Bool:=intB (((vT.zip pV).lookup x).getD .non) n
def wO (x:Str) (n:Nat):Bool:=intB (((gN.zip gO).lookup x).getD .non) n
def rZ (xs:List Str):W->Bool
 | .str x=>xs.contains x
 |_=>false
def single (x:Str):List W->Bool
 | []=>wO x 0
 | [a]=>wO x 1&&pI a
 | [a,b]=>wO x 2&&(rZ sM a&&pI b)
 |_=>false
mutual
def yO:W->Bool
 | .tup ws=>zi7 ws
 |_=>false
def zi7:List W->Bool
 | []=>false
 |x::r=>(match x with
  | .str t=>(yE t r.length&&yF r) || (!yE t r.length&&single t r)
  |_=>false)
def yF:List W->Bool
 | []=>true
 |w::r=>yO w&&yF r
end
def begB:W->Bool
 | .tup (.str _::_)=>true
 |_=>false
def jB:List W->Bool
 | [a]=>rZ kI a
 | [a,b]=>rZ kI a&&pI b
 |_=>false
def numB:W->Bool
 | .int i=>decide (0<=i)&&decide (i<=999)
 |_=>false
def tH (x:Str) (r:List W):Bool :=
 if x == "answer" then (match r with | [a]=>pI a|_=>false)
 else if x == "doubt" then jB r
 else x == "move" && (match r with | [a]=>numB a|_=>false)
def xA:W->Bool
 | .tup (.str x::r)=>tH x r
 |_=>false
def tupL:W->List W
 | .tup ws=>ws
 |_=>[]
def sB:W->Bool
 | .tup [c,d]=>yO c&&xA d
 |_=>false
def rB:W->Bool
 | .tup rs=>rs.all sB
 |_=>false
structure PrOk (G:Hw) (w:W):Prop where
 kn:kn G w
 few:(tupL w).length<=40
 sz:∀ r∈tupL w,∀ x∈tupL r,yC x<=1000
def Fr (ws:List W) (G:Hw) (Q:Q3):Prop:=∀ r G',zW [] G G'->G r=none->G' r=some (.lst ws)->Q (.ref r) G'
def hX:uH:=fun ws G Q _=>∃ (d l:Addr) (m:Int),ws=[.ref d,.int m]/\xY G d l/\1<=m/\m<=4/\∀ (r:Addr) (xs:List Str) G',xs≠[]->xs.length<=4->(∀ x∈xs,dE x=true)->r∉[d,l]->G' r=some (.lst (xs.map .str))->zW [d,l] G G'->xY G' d l->Q (.ref r) G'
def wX (n:Nat):uH:=fun ws G Q _=>∃ (d l r:Addr) (m:Int) (xs:List Str),ws=[.ref d,.ref r,.int m]/\xY G d l/\r∉[d,l]/\G r=some (.lst (xs.map .str))/\xs≠[]/\xs.length<=100/\(∀ x∈xs,dE x=true)/\1<=m/\m<=n/\m<=100/\∀ (t:Sy) G',t.ok->(t.size:Int)<=m->zW [d,l] G G'->xY G' d l->Q t.w G'
def Bl (b:Bool) (G:Hw) (Q:Q3):Prop:=∀ G',zW [] G G'->Q (.bl b) G'
theorem Bl.mono {b:Bool} {G:Hw} {Q Q':Q3} (k:∀ w G',Q w G'->Q' w G') (h:Bl b G Q):Bl b G Q':=fun G' a=>k _ _ (h G' a)
theorem Bl.keep {b:Bool} {G G1:Hw} {Q:Q3} (h:Bl b G Q) (k:zW [] G G1):Bl b G1 Q:=fun G' a=>h G' (k.trans a)
def zbm:uH:=fun ws G Q _=>∃ w,ws=[w]/\kn G w/\Bl (gB w) G Q
def zbn:uH:=fun ws G Q _=>∃ w,ws=[w]/\kn G w/\Bl (dW w) G Q
def hZ:uH:=fun ws G Q _=>∃ (t:Str) (r:List W),ws=[.tup (.str t::r)]/\r.length<=1000/\Q (.tup (vN (.str t::r))) G
def spIs:uH:=fun ws G Q _=>∃ w,ws=[w]/\kn G w/\yC w<=1000/\Bl (pI w) G Q
def wT (n:Nat):uH:=fun ws G Q _=>∃ t:Sy,ws=[t.w]/\t.ok/\t.size<=6/\t.deep<n/\∀ r (ps:List Sy) G',zW [] G G'->G r=none->G' r=some (.lst (ps.map Sy.w))->ps≠[]->ps.length<=t.size->(∀ p∈ps,p.ok/\p.size<=t.size)->Q (.ref r) G'
structure Says (G:Hw) (d l p:Addr) (ps:List Sy):Prop where
 deal:xY G d l
 off:p∉[d,l]
 is:G p=some (.lst (ps.map Sy.w))
 ne:ps≠[]
 few:ps.length<=20
 sz:∀ x∈ps,x.ok/\x.size<=6
def gQ:uH:=fun ws G Q _=>∃ (d l:Addr) (t:Sy),ws=[.ref d,t.w]/\xY G d l/\∀ (x:Str) G',x∈kI->zW [d,l] G G'->xY G' d l->Q (.str x) G'
def qX (n:Nat):uH:=fun ws G Q _=>∃ (d l p:Addr) (ps:List Sy) (k:Nat),ws=[.ref d,.ref p,.int (k:Nat)]/\Says G d l p ps/\k<n/\k<=10/\∀ (c:Cd) G',c.ok->c.deep<=k->zW [d,l] G G'->xY G' d l->Q c.w G'
def zbo:uH:=fun ws G Q _=>∃ (d l p:Addr) (ps:List Sy),ws=[.ref d,.ref p]/\Says G d l p ps/\∀ (e:Dd) G',e.ok->zW [d,l] G G'->xY G' d l->Q e.w G'
inductive Tx:W->Prop where
 |str (x:Str):Tx (.str x)
 |int (i:Int):Tx (.int i)
 |tup (ws:List W) (few:ws.length<=100) (all:∀ w∈ws,Tx w):Tx (.tup ws)
def jQ (n:Nat):uH:=fun ws G Q _=>∃ w:W,ws=[w]/\Tx w/\dep w<n/\∀ (i:Int) G',zW [] G G'->Q (.int i) G'
def sX:uH:=fun ws G Q _=>∃ (d l p:Addr) (ps:List Sy),ws=[.ref d,.ref p,.int 30,.int 4]/\Says G d l p ps/\∀ (rs:List (Cd×Dd)) G',rs.length<=30->(∀ r∈rs,r.1.ok/\r.1.deep<=4/\r.2.ok)->zW [d,l] G G'->xY G' d l->Q (.tup (rs.map yH)) G'
def tX:uH:=fun ws G Q _=>∃ w,ws=[w]/\kn G w/\Q (.bl (begB w)) G
def zcz:uH:=fun ws G Q _=>∃ (w:W) (xs:List Str),ws=[w,.tup (xs.map .str)]/\kn G w/\xs.length<=100/\Q (.bl (rZ xs w)) G
def rG:uH:=fun ws G Q _=>∃ (x:Str) (p:Addr) (r:List W),ws=[.str x,.ref p]/\G p=some (.lst r)/\pH G r/\qZ r<=1000/\Bl (single x r) G Q
def rD:uH:=fun ws G Q _=>∃ w,ws=[w]/\kn G w/\yC w<=1000/\Bl (yO w) G Q
def hW:uH:=fun ws G Q _=>∃ (p:Addr) (r:List W),ws=[.ref p]/\G p=some (.lst r)/\pH G r/\qZ r<=1000/\Bl (jB r) G Q
def rF:uH:=fun ws G Q _=>∃ w,ws=[w]/\kn G w/\Q (.bl (numB w)) G
def rE:uH:=fun ws G Q _=>∃ w,ws=[w]/\kn G w/\yC w<=1000/\Bl (xA w) G Q
def zeb:uH:=fun ws G Q _=>∃ w,ws=[w]/\kn G w/\(∀ x∈tupL w,yC x<=1000)/\Bl (sB w) G Q
def zbl:uH:=fun ws G Q _=>∃ w,ws=[w]/\PrOk G w/\Bl (rB w) G Q
def zbk:uH:=fun ws G Q _=>∃ (w:W) (b:Bool),ws=[w,.bl b]/\PrOk G w/\rB w=b/\Bl true G Q
structure NoS (G:Hw) (w:W):Prop where
 ok:pI w=false
 cd:yO w=false
 kn:kn G w
 sz:yC w<=60
def kU:uH:=fun ws G Q _=>∃ (d l:Addr) (t:Sy),ws=[.ref d,t.w]/\xY G d l/\t.ok/\t.size<=6/\∀ w G',NoS G' w->zW [d,l] G G'->xY G' d l->Q w G'
structure NoC (G:Hw) (c w:W):Prop where
 cd:yO w=false
 kn:kn G w
 sz:yC w<=2 * yC c+80
def xU (n:Nat):uH:=fun ws G Q _=>∃ (d l:Addr) (c:Cd) (t:Sy),ws=[.ref d,c.w,t.w]/\xY G d l/\c.ok/\c.deep<n/\c.deep<=4/\t.ok/\t.size<=6/\∀ w G',NoC G' c.w w->zW [d,l] G G'->xY G' d l->Q w G'
structure NoD (G:Hw) (w:W):Prop where
 dd:xA w=false
 kn:kn G w
 sz:yC w<=200
def rH:uH:=fun ws G Q _=>∃ (d l:Addr) (e:Dd) (t:Sy),ws=[.ref d,e.w,t.w]/\xY G d l/\e.ok/\t.ok/\t.size<=6/\∀ w G',NoD G' w->zW [d,l] G G'->xY G' d l->Q w G'
def mB:uH:=fun ws G Q _=>∃ (d l:Addr) (rs:List (Cd×Dd)) (t:Sy),ws=[.ref d,.tup (rs.map yH),t.w]/\xY G d l/\rs.length<=30/\(∀ r∈rs,r.1.ok/\r.1.deep<=4/\r.2.ok)/\t.ok/\t.size<=6/\∀ w G',rB w=false->PrOk G' w->zW [d,l] G G'->xY G' d l->Q w G'
section
variable (K : yG)
def fnL:List Fn3:=[eMax,vE,eAll,eLst,dS K,eTup,eInt,eSum,zi2,uE,⟨"_law_names", hX⟩,⟨"_law_saying", wX 8⟩,⟨"_law_parts", wT 9⟩,⟨"_law_word", gQ⟩,⟨"_law_condition", qX 5⟩,⟨"_law_deed", zbo⟩,⟨"_law_count", jQ 60⟩,⟨"_law_program", sX⟩,⟨"is_name", zbm⟩,⟨"has_form", zbn⟩,⟨"sides_of", hZ⟩,⟨"is_saying", spIs⟩,⟨"begins_with_text", tX⟩,⟨"is_one_of", zcz⟩,⟨"is_single", rG⟩,⟨"is_condition", rD⟩,⟨"is_doubt", hW⟩,⟨"is_number", rF⟩,⟨"is_deed", rE⟩,⟨"is_row", zeb⟩,⟨"is_program", zbl⟩,⟨"_law_told", zbk⟩,⟨"_law_no_saying", kU⟩,⟨"_law_wrong_condition", xU 5⟩,⟨"_law_wrong_deed", rH⟩,⟨"_law_wrong", mB⟩]
def GamL (l:List Fn3):Ctx3:=⟨l,[("LONGEST_NAME", .int 6),("NO_NAMES", .tup (noN.map .str)),("LENGTHS", lenD),("JOINED", .dcf vT pV),("SINGLES", .dcf gN gO),("WORDS_OF_DEEDS", .tup (kI.map .str)),("WORDS_OF_CONDITIONS", .tup (sM.map .str)),("GREATEST_NUMBER", .int 999),("bool", .ty "bool"),("str", .ty "str"),("int", .ty "int"),("tuple", .ty "tuple")],[ePop,ze5,eApp,eGet,eExt],[eRng],[],[eRev,⟨mH "LENGTHS", pT cR mL⟩,⟨mH "SINGLES", pT gN gO⟩,⟨mH "JOINED", pT vT pV⟩,⟨emM,emS⟩],[]⟩
def yS (n:Nat):Ctx3:=GamL ((fnL K).take n)
def xK (n:Nat) (e:Fn3):Ctx3:=GamL ((fnL K).take n++[e])
end
theorem tD {a:W} {l:List W}:uJ (a::l) 0=some a:=by
 unfold uJ;have:mK (a::l).length 0=some 0:=by simp [mK]
 rw [this];rfl
theorem cO {a b:W} {l:List W}:uJ (a::b::l) 1=some b:=by
 unfold uJ;have:mK (a::b::l).length 1=some 1:=by simp [mK];omega
 rw [this];rfl
theorem at_2 {a b c:W} {l:List W}:uJ (a::b::c::l) 2=some c:=by
 unfold uJ;have:mK (a::b::c::l).length 2=some 2:=by simp [mK];omega
 rw [this];rfl
theorem zbR {l:List W} {i:Int} (h0:0<=i) (h1:i<l.length):∃ w,w∈l/\uJ l i=some w:=by
 have hi:i.toNat<l.length:=by omega
 refine ⟨l[i.toNat],List.getElem_mem hi,?_⟩;unfold uJ mK;rw [if_pos h0,if_pos h1];exact List.getElem?_eq_getElem hi
theorem sz (n:Nat) (h:n<=3000):n<=sizeLine:=by rw [sizeLine_eq];omega
theorem gZ {α:Type} {a:α} {l:List α}:(a::l)[0]?=some a:=rfl
theorem gS {α:Type} {a:α} {l:List α} {i:Nat}:(a::l)[i+1]?=l[i]?:=rfl
theorem tZ {α:Type} {a b:α} {l:List α}:(a::l).set 0 b=b::l:=rfl
theorem tS {α:Type} {a b:α} {l:List α} {i:Nat}:(a::l).set (i+1) b=a::l.set i b:=rfl
theorem yQ {Γ:Ctx3} {E:XQ} {s:IS} {ss:ISs} {D:End3} {σ:qK} {G:Hw} (h:zQ Γ E s { D with nx:=zH Γ E ss D } σ G):zH Γ E (.cons s ss) D σ G:=h
theorem qR {Γ:Ctx3} {E:XQ} {D:End3} {σ:qK} {G:Hw} (h:D.nx σ G):zH Γ E .nil D σ G:=h
theorem tyL {G:Hw} {o:Addr} {l:List W} (e:G o=some (.lst l)):tyW G (.ref o) "list" := by simp only [tyW,e]
theorem appL {G:Hw} {o:Addr} {l:List W} {y:W} {Q:Q3} (e:G o=some (.lst l)) (hl:l.length<1000) (h:Q .non (put G o (.lst (l++[y])))):appS (.ref o) [y] G Q:=by
 simp only [appS,e];exact ⟨by rw [sizeLine_eq];omega,h⟩
theorem fA {G:Hw} {t:Addr} {xs:List W} {i:Int} {Q:Q3} (e:yJ G t=some xs) (h:match uJ xs i with|some w=>Q w G|none=>False):pG (.ref t) (.int i) G Q:=by
 unfold yJ at e
 split at e
 .rename_i q;cases e;simp only [pG,q];exact h
 .rename_i q;cases e;simp only [pG,q];exact h
 .cases e
theorem nK {S:List Addr} {G G':Hw} {d l:Addr} (k:zW S G G') (hd:d∉S) (hl:l∉S) (D:xY G d l):xY G' d l:=by
 obtain ⟨x,y,z,D⟩:=D;exact ⟨x,y,z,k _ _ hd D.dic,k _ _ hl D.lst,D.s0,D.s1,D.n0,D.lf,D.len,D.ne⟩
theorem pP {G:Hw} {d l p:Addr} {o:O} (h:G p=none) (D:xY G d l):xY (put G p o) d l:=nK (S:=[]) (zW.new h) (by simp) (by simp) D
theorem wV {G G':Hw} {d l:Addr} (k:zW [] G G') (D:xY G d l):xY G' d l:=nK k (by simp) (by simp) D
theorem jT {S:List Addr} {G G':Hw} (k:zW [] G G'):zW S G G':=fun a u _ e=>k a u (by simp) e
theorem wY {G:Hw} {d l p:Addr} (D:xY G d l) (h:G p=none):p∉[d,l]:=by
 obtain ⟨_,_,_,D⟩:=D;simp only [List.mem_cons,List.not_mem_nil,or_false,not_or];exact ⟨fun e=>(by rw [e,D.dic] at h;cases h),fun e=>(by rw [e,D.lst] at h;cases h)⟩
theorem vU {S:List Addr} {G G':Hw} {p:Addr} {o:O} (k:zW S G G') (h:G p=none):zW S G (put G' p o):=fun a u ha e=>by
 rw [wJ (bI e h)];exact k a u ha e
theorem pO {G:Hw} {d l p:Addr} {o:O} (h:p∉[d,l]) (D:xY G d l):xY (put G p o) d l:=by
 simp only [List.mem_cons,List.not_mem_nil,or_false,not_or] at h;exact nK (S:=[p]) (zW.put (by simp)) (by simpa using Ne.symm h.1) (by simpa using Ne.symm h.2) D
theorem addS {a b:Str} {G:Hw} {Q:Q3} (h:a.length+b.length<=3000) (q:Q (.str (a++b)) G):jS .Add (.str a) (.str b) G Q:=⟨sz _ h,q⟩
def tl:ISs->ISs
 | .cons _ ss=>ss
 | .nil=>.nil
theorem vS {G:Hw} {a b:Str}:bD G (.str a) (.str b)=some (a==b):=by simp [bD,kX,dep,vF]
theorem zi1 {G:Hw} {a b:Bool}:bD G (.bl a) (.bl b)=some (a==b):=by simp [bD,kX,dep,vF]
theorem zdw {G:Hw} {i:Int}:bD G .non (.int i)=some false:=by simp [bD,kX,dep,vF]
theorem at_3 {a b c d:W} {l:List W}:uJ (a::b::c::d::l) 3=some d:=by
 unfold uJ;have:mK (a::b::c::d::l).length 3=some 3:=by simp [mK];omega
 rw [this];rfl
theorem ix0 {a:W} {l:List W} {G:Hw} {Q:Q3}:pG (.tup (a::l)) (.int 0) G Q=Q a G:=by simp only [pG,tD]
theorem ix1 {a b:W} {l:List W} {G:Hw} {Q:Q3}:pG (.tup (a::b::l)) (.int 1) G Q=Q b G:=by simp only [pG,cO]
section
variable {K : yG}
theorem fnAt {n:Nat} (i:Nat) (hi:i<n) {e:Fn3} (h:(fnL K)[i]?=some e):(yS K n).fn[i]?=some e:=by
 show ((fnL K).take n)[i]?=_;rw [List.getElem?_take_of_lt hi];exact h
theorem jX {n m:Nat} (i:Nat) (hn:m<=n) {e:Fn3} (h:(fnL K)[i]?=some e) (hi:i<m:=by decide):(yS K n).fn[i]?=some e:=fnAt i (Nat.lt_of_lt_of_le hi hn) h
end
abbrev abc:Str := "abcdefghijklmnopqrstuvwxyz"
theorem zbc:abc.cps.toList.length=26:=by decide +kernel
theorem zjg:∀ c∈abc.cps.toList,ltB c=true:=by decide +kernel
theorem uI {a b:Str}:xE (a++b)=(xE a&&xE b):=by
 unfold xE;rw [Str.cps_append,Array.toList_append,List.all_append]
theorem ziJ {i:Int} {G:Hw} {Q:Q3} (h0:0<=i) (h1:i<26) (h:∀ x:Str,x.length=1->xE x=true->Q (.str x) G):pG (.str abc) (.int i) G Q:=by
 have hi:i.toNat<abc.cps.toList.length:=by rw [zbc];omega
 have e:uJ abc.cps.toList i=some abc.cps.toList[i.toNat]:=by
  unfold uJ mK;rw [if_pos h0,zbc,if_pos (show i<((26:Nat):Int) from h1)];exact List.getElem?_eq_getElem hi
 simp only [pG,e];refine ⟨?_,h _ rfl ?_⟩
 .have:abc.length=26:=by rw [← zbc];rfl
  rw [this];exact sz _ (by decide)
 .show [abc.cps.toList[i.toNat]].all ltB=true;rw [List.all_cons,zjg _ (List.getElem_mem hi)];rfl
theorem zct {x:Str} {j:Int} (h0:0<=j) (h1:j<=x.length):(Txt.slice x none (some j)).cps.toList=x.cps.toList.take j.toNat:=by
 have e:Txt.slice x none (some j)=StrLaws.sliceText x none (some j):=rfl;rw [e,StrLaws.sliceText_to ⟨h0,by rw [Array.length_toList];exact h1⟩];simp
theorem bA {x:Str} {j:Int} (h0:0<=j) (h1:j<=x.length):(Txt.slice x (some j) none).cps.toList=x.cps.toList.drop j.toNat:=by
 have e:Txt.slice x (some j) none=StrLaws.sliceText x (some j) none:=rfl;rw [e,StrLaws.sliceText_from ⟨h0,by rw [Array.length_toList];exact h1⟩];have h2:j<=(x.cps.toList.length:Int):=by rw [Array.length_toList];exact h1
 show (((x.cps.toList.drop j.toNat).take _).toArray).toList=_;rw [List.toList_toArray];exact List.take_of_length_le (by rw [List.length_drop];omega)
theorem uT (x:Str):x.cps.toList.length=x.length:=by rw [Array.length_toList];rfl
theorem zg8 {x:Str} {j:Int} {G:Hw} {Q:Q3} (h0:0<=j) (h1:j<=x.length) (hx:x.length<=1000) (a:xE x=true) (q:∀ y:Str,y.length<=j.toNat->xE y=true->Q (.str y) G):slR (.str x) none (some j) G Q:=by
 refine ⟨sz _ (by omega),q _ ?_ ?_⟩
 .rw [← uT,zct h0 h1,List.length_take];omega
 .unfold xE;rw [zct h0 h1,List.all_eq_true];exact fun c hc=>List.all_eq_true.mp a c (List.mem_of_mem_take hc)
theorem zfa {x:Str} {j:Int} {G:Hw} {Q:Q3} (h0:0<=j) (h1:j<=x.length) (hx:x.length<=1000) (a:xE x=true) (q:∀ y:Str,y.length<=x.length-j.toNat->xE y=true->Q (.str y) G):slR (.str x) (some j) none G Q:=by
 refine ⟨sz _ (by omega),q _ ?_ ?_⟩
 .rw [← uT,bA h0 h1,List.length_drop,uT];omega
 .unfold xE;rw [bA h0 h1,List.all_eq_true];exact fun c hc=>List.all_eq_true.mp a c (List.mem_of_mem_drop hc)
theorem zis:xE "" = true:=by decide +kernel
theorem zdj:∀ {ts:List Str},(∀ x∈ts,xE x=true)->xE (Str.join "" ts)=true
 | [],_=>by decide +kernel
 | [x],h=>h x zzT
 |x::y::r,h=>by
  show xE (x ++ "" ++ Str.join "" (y::r))=true;rw [uI,uI,h x zzT,zis,zdj fun z hz=>h z (List.mem_cons_of_mem _ hz)];rfl
theorem zeM {ts:List Str} (h:∀ x∈ts,x.length<=1) (g:∀ x∈ts,xE x=true) (hn:ts.length<=4):JoinOk "" ts=true/\(Txt.join "" ts).length<=4/\xE (Txt.join "" ts)=true:=by
 have e:("" : Str).length=0:=by decide +kernel
 refine ⟨?_,?_,?_⟩
 .unfold JoinOk;rw [StrLaws.joinFits h (by rw [e];omega)];rfl
 .have h1:=StrLaws.join_length_le "" ts;have h2:=StrLaws.sumLen_le ts h;rw [e] at h1;rw [show Txt.join "" ts=Str.join "" ts from StrLaws.glued_eq_join "" ts];refine Nat.le_trans h1 ?_;omega
 .rw [show Txt.join "" ts=Str.join "" ts from StrLaws.glued_eq_join "" ts];exact zdj g
theorem zgn {x:Str} (h1:1<=x.length) (h6:x.length<=6) (a:xE x=true) (n:x∉noN):dE x=true:=by
 unfold dE;rw [decide_eq_true h1,decide_eq_true h6,a,show noN.contains x=false by simpa using n];rfl
theorem no_q {x:Str} (h:x∈noN):x ++ "q" ∉ noN:=by
 revert h;have:∀ y∈noN,y ++ "q" ∉ noN:=by decide +kernel
 exact this x
theorem zik {x:Str} (h:x∈noN):x.length<=4:=by
 have:∀ y∈noN,y.length<=4:=by decide +kernel
 exact this x h
theorem no_z {x:Str}:x ++ "z" ∉ noN:=fun h=>by
 have l:∀ y∈noN,y.cps.toList.getLast?≠some 122:=by decide +kernel
 refine l _ h ?_;rw [Str.cps_append,Array.toList_append,show ("z" : Str).cps.toList=[122] by decide +kernel];simp
theorem zfJ {x:Str}:((noN.map W.str).any fun w=>vF w (.str x))=noN.contains x:=by
 rw [List.any_map,List.contains_eq_any_beq];congr 1
 funext y
 simp only [Function.comp,vF];exact Bool.beq_comm
section
variable {K : yG}
theorem zc2 {n:Nat} (hn:10<=n) {ws:List W} {G:Hw} {Q:Q3} (h:hX ws G Q XN):zH (yS K n) XN wE { nx:=fun _ G'=>Q .non G',rt:=Q } (yM tM ws) G:=by
 obtain ⟨d,l,m,rfl,D,m1,m4,h⟩:=h;have e1:(yS K n).fn[1]?=some vE:=jX 1 hn rfl;have e6:(yS K n).fn[9]?=some uE:=jX 9 hn rfl;have t1:(yS K n).mt[1]?=some ze5:=rfl;have t2:(yS K n).mt[2]?=some eApp:=rfl;have i0:(yS K n).it[0]?=some eRng:=rfl;have z0:=sz 0 (by decide);have z4:=sz 4 (by decide);have q1:("q" : Str).length=1:=by decide +kernel
 have q2:xE "q" = true:=by decide +kernel
 have w1:("z" : Str).length=1:=by decide +kernel
 have w2:xE "z" = true:=by decide +kernel
 show zH (yS K n) XN wE { nx:=fun _ G'=>Q .non G',rt:=Q } [some (.ref d),some (.int m),none,none,none,none,none,none,none] G
 have go:∀ (G1:Hw) (p:Addr) (core:Str),core.length<=4->xE core=true->G p=none->p∉[d,l]->zW [d,l] G G1->xY G1 d l->G1 p=some (.lst []) ->
   zH (yS K n) XN (tl (tl (tl wE))) { nx:=fun _ G'=>Q .non G',rt:=Q } [some (.ref d),some (.int m),some (.str abc),some (.ref p),some (.str core),none,none,none,none] G1:=by
  intro G1 p core hc hg hpn hp k1 D1 gp;simp only [wE,tl];refine yQ ?_
  ((try dsimp only [zQ,zS,zM,zF,zB,yV,yU,zO,zU,zN,zT,zX,zR,zP,zJ,zL,yZ,zK,gZ,gS,tZ,tS]);try simp only [e1,e6,jC,jD,sz _ (show core.length<=3000 by omega),if_true,jS])
  refine ⟨d,l,core.length+1,rfl,D1,⟨by omega,by omega⟩,fun at' G2 a0 a1 k2 D2=>?_⟩;have gp2:=k2 _ _ hp gp;refine yQ ?_
  ((try dsimp only [zQ,zS,zM,zF,zB,yV,yU,zO,zU,zN,zT,zX,zR,zP,zJ,zL,yZ,zK,gZ,gS,tZ,tS]);try simp only [e6])
  refine ⟨d,l,26,rfl,D2,by decide,fun tn G3 tn0 tn1 k3 D3=>?_⟩;have gp3:=k3 _ _ hp gp2;have kG:=(k1.trans k2).trans k3;refine yQ ?_
  ((try dsimp only [zQ,zS,zM,zF,zB,yV,yU,zO,zU,zN,zT,zX,zR,zP,zJ,zL,yZ,zK,gZ,gS,tZ,tS]);try simp only [zR,i0])
  refine ⟨⟨by omega,by omega⟩,?_⟩;have len:((List.range m.toNat).map fun i:Nat=>W.int (i:Int)).length=m.toNat:=by simp
  refine ⟨fun i σ G'=>∃ (xs:List Str) (v7 v8:Option W),σ=[some (.ref d),some (.int m),some (.str abc),some (.ref p),some (.str core),some (.int at'),some (.int tn),v7,v8]/\G' p=some (.lst (xs.map .str))/\xs.length=i/\(∀ x∈xs,dE x=true/\x.length<=5/\xE x=true)/\zW [d,l] G G'/\xY G' d l,
   ⟨[],none,none,rfl,gp3,rfl,by simp,kG,D3⟩,fun _ _ _ _ _=>trivial,?_,?_⟩
  .rintro i w σ G' hw ⟨xs,v7,v8,rfl,gx,hl,hs,kp,D'⟩;rw [List.getElem?_map] at hw;obtain ⟨i',hi',rfl⟩:=Option.map_eq_some_iff.mp hw;have him:i<m.toNat:=by have:=(List.getElem?_eq_some_iff.mp hi').1;simpa using this
   have hii:i'=i:=by
    have:=(List.getElem?_eq_some_iff.mp hi').2;rw [List.getElem_range] at this;exact this.symm
   subst hii;have him:i' < 4:=by omega
   refine yQ ?_
   (try dsimp only [zQ,zS,zM,zF,zB,yV,yU,zO,zU,zN,zT,zX,zR,zP,zJ,zL,yZ,zK,gZ,gS,tZ,tS])
   refine zg8 a0 (by omega) (by omega) hg fun y1 h1 s1=>?_;refine ⟨.inl ⟨by omega,by omega⟩,by decide,?_⟩;refine ziJ (Int.emod_nonneg _ (by decide)) (Int.emod_lt_of_pos _ (by decide)) fun y2 h2 s2=>?_;refine addS (by omega) (zfa a0 (by omega) (by omega) hg fun y3 h3 s3=>addS (by rw [Str.length_append];omega) ?_);have hlen:((y1++y2)++y3).length<=5:=by rw [Str.length_append,Str.length_append];omega
   have hlen1:1<=((y1++y2)++y3).length:=by rw [Str.length_append,Str.length_append];omega
   have hsg:xE ((y1++y2)++y3)=true:=by rw [uI,uI,s1,s2,s3];rfl
   generalize (y1++y2)++y3=nm at hlen hlen1 hsg ⊢;refine yQ ?_
   ((try dsimp only [zQ,zS,zM,zF,zB,yV,yU,zO,zU,zN,zT,zX,zR,zP,zJ,zL,yZ,zK,gZ,gS,tZ,tS]);try simp only [yK,mN,L3.inR,zzB,if_false,zzC,zzL,zzA,Nat.reduceAdd,z4,true_and])
   refine ⟨⟨by simp [kX],by simp [wW,kX],by simp [wG,dep]⟩,?_⟩
   have app:∀ x:Str,dE x=true->x.length<=5->xE x=true->tyW G' (.ref p) "list" /\ appS (.ref p) [.str x] G' (fun _ G1=>∃ (xs':List Str) (v7 v8:Option W),[some (W.ref d),some (.int m),some (.str abc),some (.ref p),some (.str core),some (.int at'),some (.int tn),some (.int i'),some (.str x)]=[some (.ref d),some (.int m),some (.str abc),some (.ref p),some (.str core),some (.int at'),some (.int tn),v7,v8]/\G1 p=some (.lst (xs'.map .str))/\xs'.length=i'+1/\(∀ x∈xs',dE x=true/\x.length<=5/\xE x=true)/\zW [d,l] G G1/\xY G1 d l):=by
    intro x hx hx5 hxs;refine ⟨tyL gx,appL gx (by rw [zzM];omega) ⟨xs++[x],_,_,rfl,by rw [zV];simp,by simp [hl],fun y hy=>?_,vU kp hpn,pO hp D'⟩⟩;rcases List.mem_append.mp hy with hy|hy
    .exact hs y hy
    .rw [zzO hy];exact ⟨hx,hx5,hxs⟩
   have en:([W.str "and", .str "or", .str "not", .str "then"].any fun w=>vF w (.str nm))=noN.contains nm:=zfJ;rw [en]
   by_cases hno:nm∈noN
   .rw [if_pos (by simpa using hno)];refine yQ ?_
    (try dsimp only [zQ,zS,zM,zF,zB,yV,yU,zO,zU,zN,zT,zX,zR,zP,zJ,zL,yZ,zK,gZ,gS,tZ,tS])
    refine addS (by omega) ?_;refine qR ?_;refine yQ ?_
    ((try dsimp only [zQ,zS,zM,zF,zB,yV,yU,zO,zU,zN,zT,zX,zR,zP,zJ,zL,yZ,zK,gZ,gS,tZ,tS]);try simp only [t2])
    have:=zik hno;exact app _ (zgn (by rw [Str.length_append];omega) (by rw [Str.length_append];omega) (by rw [uI,hsg,q2];rfl) (no_q hno)) (by rw [Str.length_append];omega) (by rw [uI,hsg,q2];rfl)
   .rw [if_neg (by simpa using hno)];refine qR ?_;refine yQ ?_
    ((try dsimp only [zQ,zS,zM,zF,zB,yV,yU,zO,zU,zN,zT,zX,zR,zP,zJ,zL,yZ,zK,gZ,gS,tZ,tS]);try simp only [t2])
    exact app _ (zgn hlen1 (by omega) hsg hno) hlen hsg
  .rintro σ G' ⟨xs,v7,v8,rfl,gx,hl,hs,kp,D'⟩;rw [len] at hl
   obtain ⟨x,r,rfl⟩:∃ x r,xs=x::r:=by
    cases xs with
    |nil=>simp at hl;omega
    |cons x r=>exact ⟨x,r,rfl⟩
   have hlr:r.length+1=m.toNat:=by simpa using hl
   have fin:∀ (ys:List Str) (G2:Hw),ys.length=m.toNat->(∀ y∈ys,dE y=true)->zW [d,l] G G2->xY G2 d l->G2 p=some (.lst (ys.map .str))->∀ v7 v8:Option W,zH (yS K n) XN (.cons (.ret (.var 3)) .nil) { nx:=fun _ G'=>Q .non G',rt:=Q } [some (.ref d),some (.int m),some (.str abc),some (.ref p),some (.str core),some (.int at'),some (.int tn),v7,v8] G2:=by
    intro ys G2 hy hs2 k4 D4 g4 v7 v8;refine yQ ?_
    (try dsimp only [zQ,zS,zM,zF,zB,yV,yU,zO,zU,zN,zT,zX,zR,zP,zJ,zL,yZ,zK,gZ,gS,tZ,tS])
    refine h p ys G2 ?_ (by omega) hs2 hp g4 k4 D4;rintro rfl;simp at hy;omega
   refine yQ ?_
   ((try dsimp only [zQ,zS,zM,zF,zB,yV,yU,zO,zU,zN,zT,zX,zR,zP,zJ,zL,yZ,zK,gZ,gS,tZ,tS]);try simp only [yK,tU])
   by_cases hm:1<m
   .rw [if_pos (by simpa using hm)]
    ((try dsimp only [zQ,zS,zM,zF,zB,yV,yU,zO,zU,zN,zT,zX,zR,zP,zJ,zL,yZ,zK,gZ,gS,tZ,tS]);try simp only [e6])
    refine ⟨d,l,2,rfl,D',by decide,fun b G4 b0 b1 k4 D4=>?_⟩;have gx4:=k4 _ _ hp gx;simp only [yR]
    by_cases hb:b=1
    .rw [decide_eq_true hb,if_pos rfl];refine yQ ?_
     (try dsimp only [zQ,zS,zM,zF,zB,yV,yU,zO,zU,zN,zT,zX,zR,zP,zJ,zL,yZ,zK,gZ,gS,tZ,tS])
     refine fA (zG gx4) ?_;rw [zzU,tD];have hx:=hs x (by simp);refine addS (by omega) ?_;rw [zzU] at gx4;simp only [setR,gx4];have e0:mK (W.str x::r.map W.str).length 0=some 0:=by simp [mK]
     rw [e0];refine qR ?_;refine fin ((x ++ "z")::r) _ (by simpa using hlr) (fun y hy=>?_) (vU (kp.trans k4) hpn) (pO hp D4) (by rw [zV];rfl) v7 v8;rcases List.mem_cons.mp hy with rfl|hy
     .exact zgn (by rw [Str.length_append];omega) (by rw [Str.length_append];omega) (by rw [uI,hx.2.2,w2];rfl) no_z
     .exact (hs y (List.mem_cons_of_mem _ hy)).1
    .rw [decide_eq_false hb,if_neg zzN];refine qR ?_;exact fin (x::r) _ hl (fun y hy=>(hs y hy).1) (kp.trans k4) D4 gx4 v7 v8
   .rw [if_neg (by simpa using hm),if_neg zzN];refine qR ?_;exact fin (x::r) _ hl (fun y hy=>(hs y hy).1) kp D' gx v7 v8
 simp only [wE,tl] at go;simp only [wE];refine yQ ?_
 (try dsimp only [zQ,zS,zM,zF,zB,yV,yU,zO,zU,zN,zT,zX,zR,zP,zJ,zL,yZ,zK,gZ,gS,tZ,tS])
 refine yQ ?_
 ((try dsimp only [zQ,zS,zM,zF,zB,yV,yU,zO,zU,zN,zT,zX,zR,zP,zJ,zL,yZ,zK,gZ,gS,tZ,tS]);try simp only [List.length_nil,z0,true_and])
 intro p hp;have hpd:=wY D hp;have D1:=pP (o:=.lst []) hp D;have k1:zW [d,l] G (put G p (.lst [])):=zW.new hp;have gp:(put G p (.lst [])) p=some (.lst []):=zV;generalize put G p (.lst [])=G1 at D1 k1 gp ⊢;refine yQ ?_
 ((try dsimp only [zQ,zS,zM,zF,zB,yV,yU,zO,zU,zN,zT,zX,zR,zP,zJ,zL,yZ,zK,gZ,gS,tZ,tS]);try simp only [t1,e6,zR,zP,i0])
 refine ⟨rfl,d,l,5,rfl,D1,by decide,fun j G2 j0 j5 k2 D2=>?_⟩;have gp2:=k2 _ _ hpd gp;refine ⟨⟨by omega,by omega⟩,?_⟩;have len:((List.range j.toNat).map fun i:Nat=>W.int (i:Int)).length=j.toNat:=by simp
 refine ⟨fun i acc G'=>∃ ts:List Str,acc=ts.map .str/\ts.length=i/\(∀ x∈ts,x.length<=1/\xE x=true)/\zW [d,l] G2 G'/\xY G' d l,⟨[],rfl,rfl,by simp,zW.refl,D2⟩,?_,by rw [len];exact sz _ (by omega),?_,?_⟩
 .rintro i acc G' ⟨ts,rfl,rfl,_,_,_⟩ _;exact ⟨trivial,by simp⟩
 .rintro i w acc G' hw ⟨ts,rfl,hl,hs,kp,D'⟩;simp only [dN,List.length_cons,List.length_nil,List.replicate,zzU,zzV,List.cons_append,List.nil_append,List.append_nil]
  ((try dsimp only [zQ,zS,zM,zF,zB,yV,yU,zO,zU,zN,zT,zX,zR,zP,zJ,zL,yZ,zK,gZ,gS,tZ,tS]);try simp only [Option.join_some,if_true,e6])
  refine ⟨d,l,26,rfl,D',by decide,fun r G'' r0 r1 kp' D''=>ziJ r0 r1 fun x hx sx=>?_⟩;refine ⟨ts++[x],by simp,by simp [hl],fun y hy=>?_,kp.trans kp',D''⟩;rcases List.mem_append.mp hy with hy|hy
  .exact hs y hy
  .rw [zzO hy,hx];exact ⟨zzR _,sx⟩
 .rintro acc G' ⟨ts,rfl,hl,hs,kp,D'⟩ r hr;have hl4:ts.length<=4:=by rw [hl,len];omega
  obtain ⟨jo,jl,js⟩:=zeM (fun x hx=>(hs x hx).1) (fun x hx=>(hs x hx).2) hl4;refine ⟨ts,zG zV,jo,?_⟩;have k3:zW [d,l] G' (put G' r (.lst (ts.map .str))):=zW.new hr;exact go _ p _ jl js hp hpd (((k1.trans k2).trans kp).trans k3) (pP hr D') (k3 _ _ hpd (kp _ _ hpd gp2))
end
theorem zfI {xs:List Str} {i:Int} (h0:0<=i) (h1:i<xs.length):∃ x∈xs,uJ (xs.map W.str) i=some (.str x):=by
 have hi:i.toNat<xs.length:=by omega
 refine ⟨xs[i.toNat],List.getElem_mem hi,?_⟩;unfold uJ mK;rw [if_pos h0,zzM,if_pos h1];show (xs.map W.str)[i.toNat]?=_;rw [List.getElem?_map,List.getElem?_eq_getElem hi];rfl
section
variable {K : yG}
theorem zb2 {n:Nat} {ws:List W} {G:Hw} {Q:Q3} (h:wX (n+1) ws G Q XN):zH (xK K 11 ⟨"_law_saying", wX n⟩) XN kY { nx:=fun _ G'=>Q .non G',rt:=Q } (yM uW ws) G:=by
 obtain ⟨d,l,r,m,xs,rfl,D,hr,gr,hx,hxl,hok,m1,mn,m100,h⟩:=h;have e1:(xK K 11 ⟨"_law_saying", wX n⟩).fn[1]?=some vE:=rfl;have e8:(xK K 11 ⟨"_law_saying", wX n⟩).fn[9]?=some uE:=rfl;have e9:(xK K 11 ⟨"_law_saying", wX n⟩).fn[11]?=some ⟨"_law_saying", wX n⟩:=rfl;have z2:=sz 2 (by decide);have z3:=sz 3 (by decide);have x0:0<xs.length:=List.length_pos_iff.mpr hx;show zH (xK K 11 ⟨"_law_saying", wX n⟩) XN kY { nx:=fun _ G'=>Q .non G',rt:=Q } [some (.ref d),some (.ref r),some (.int m),none,none,none] G;simp only [kY]
 ((try dsimp only [zH,zQ,zS,zM,zF,zB,yV,yU,zO,zU,zN,zT,zX,zR,zP,zJ,zL,yZ,zK,gZ,gS,tZ,tS]);try simp only [yK,yR,e1,e8,e9,jC,jD,gr,zzM])
 by_cases hm1:m=1
 .subst hm1;rw [if_pos (by simp)];refine ⟨d,l,xs.length,rfl,D,⟨by omega,by omega⟩,fun i G1 i0 i1 kp D1=>?_⟩;obtain ⟨x,hxm,ex⟩:=zfI i0 i1;refine fA (zG (kp _ _ hr gr)) ?_;rw [ex];exact ⟨z2,h (.say x) G1 (hok x hxm) (by show ((1:Nat):Int)<=1;decide) kp D1⟩
 rw [if_neg (by simpa using hm1)];refine ⟨d,l,4,rfl,D,by decide,fun way G1 w0 w1 kp1 D1=>?_⟩;have gr1:=kp1 _ _ hr gr
 (try dsimp only [zH,zQ,zS,zM,zF,zB,yV,yU,zO,zU,zN,zT,zX,zR,zP,zJ,zL,yZ,zK,gZ,gS,tZ,tS])
 have hnot:zH (xK K 11 ⟨"_law_saying", wX n⟩) XN (.cons (.ret (.tup (.cons (.con (.str "not")) (.cons (.call 11 (.cons (.var 0) (.cons (.var 1) (.cons (.bin .Sub (.var 2) (.con (.int 1))) .nil)))) .nil)))) .nil) { nx:=fun _ G'=>Q .non G',rt:=Q } [some (.ref d),some (.ref r),some (.int m),some (.int way),none,none] G1:=by
  ((try dsimp only [zH,zQ,zS,zM,zF,zB,yV,yU,zO,zU,zN,zT,zX,zR,zP,zJ,zL,yZ,zK,gZ,gS,tZ,tS]);try simp only [jS,e9])
  refine ⟨d,l,r,m-1,xs,rfl,D1,hr,gr1,hx,hxl,hok,by omega,by omega,by omega,fun t G2 ht hs kp2 D2=>⟨z2,h (.neg t) G2 ht ?_ (kp1.trans kp2) D2⟩⟩;show ((t.size+1:Nat):Int)<=m;omega
 (try dsimp only [zH,zQ,zS,zM,zF,zB,yV,yU,zO,zU,zN,zT,zX,zR,zP,zJ,zL,yZ,zK,gZ,gS,tZ,tS] at hnot)
 by_cases hm2:m=2
 .subst hm2;simp only [decide_true,if_true];exact hnot
 simp only [decide_eq_false hm2,zzB,if_false,yR]
 by_cases hw:way=3
 .subst hw;simp only [decide_true,if_true];exact hnot
 simp only [decide_eq_false hw,zzB,if_false,jS];refine ⟨d,l,m-2,rfl,D1,⟨by omega,by omega⟩,fun i G2 i0 i1 kp2 D2=>?_⟩;have gr2:=kp2 _ _ hr gr1
 ((try dsimp only [zH,zQ,zS,zM,zF,zB,yV,yU,zO,zU,zN,zT,zX,zR,zP,zJ,zL,yZ,zK,gZ,gS,tZ,tS]);try simp only [e9])
 refine ⟨d,l,r,1+i,xs,rfl,D2,hr,gr2,hx,hxl,hok,by omega,by omega,by omega,fun a G3 hao ha kp3 D3=>?_⟩;have gr3:=kp3 _ _ hr gr2
 ((try dsimp only [zH,zQ,zS,zM,zF,zB,yV,yU,zO,zU,zN,zT,zX,zR,zP,zJ,zL,yZ,zK,gZ,gS,tZ,tS]);try simp only [zzC,zzL,zzA,Nat.reduceAdd,z3,true_and])
 intro p hp;have D4:=pP (o:=.lst [.str "and", .str "or", .str "if"]) hp D3;have k4:zW [d,l] G3 (put G3 p (.lst [.str "and", .str "or", .str "if"])):=zW.new hp;have gr4:=k4 _ _ hr gr3;refine fA (zG zV) ?_;have kp4:=((kp1.trans kp2).trans kp3).trans k4
 have fin:∀ k:Op,wX n [.ref d,.ref r,.int (m-1-(1+i))] (put G3 p (.lst [.str "and", .str "or", .str "if"])) (fun b G5=>Q (.tup [.str (kw k),a.w,b]) G5) XN:=fun k =>
  ⟨d,l,r,m-1-(1+i),xs,rfl,D4,hr,gr4,hx,hxl,hok,by omega,by omega,by omega,fun b G5 hbo hb kp5 D5=>by
   refine h (.two k a b) G5 ⟨hao,hbo⟩ ?_ (kp4.trans kp5) D5;show ((a.size+b.size+1:Nat):Int)<=m;omega⟩
 have hc:way=0\/way=1\/way=2:=by omega
 rcases hc with rfl|rfl|rfl
 .rw [tD];((try dsimp only [zH,zQ,zS,zM,zF,zB,yV,yU,zO,zU,zN,zT,zX,zR,zP,zJ,zL,yZ,zK,gZ,gS,tZ,tS]);try simp only [e9,jS,z3,true_and]);exact fin .an
 .rw [cO];((try dsimp only [zH,zQ,zS,zM,zF,zB,yV,yU,zO,zU,zN,zT,zX,zR,zP,zJ,zL,yZ,zK,gZ,gS,tZ,tS]);try simp only [e9,jS,z3,true_and]);exact fin .or
 .rw [at_2];((try dsimp only [zH,zQ,zS,zM,zF,zB,yV,yU,zO,zU,zN,zT,zX,zR,zP,zJ,zL,yZ,zK,gZ,gS,tZ,tS]);try simp only [e9,jS,z3,true_and]);exact fin .im
end
theorem uY:∀ t:Sy,kX t.w=true
 | .say _=>rfl
 | .neg a=>by have:=uY a;simp only [Sy.w,kX,wW,this];rfl
 | .two _ a b=>by have:=uY a;have:=uY b;simp only [Sy.w,kX,wW, *];rfl
theorem dR {t:Sy} (h:t.size<=20):dep t.w<=20:=Nat.le_trans (Sy.dep t) h
theorem zcP:∀ ts:List Sy,wW (ts.map Sy.w)=true
 | []=>rfl
 |t::ts=>by simp only [zzU,wW,uY t,zcP ts];rfl
section
variable {K : yG}
theorem zdZ {n:Nat} (hn:13<=n) {ws:List W} {G:Hw} {Q:Q3} (h:gQ ws G Q XN):zH (yS K n) XN xF { nx:=fun _ G'=>Q .non G',rt:=Q } (yM rT ws) G:=by
 obtain ⟨d,l,t,rfl,D,h⟩:=h;have e1:(yS K n).fn[1]?=some vE:=jX 1 hn rfl;have e11:(yS K n).fn[9]?=some uE:=jX 9 hn rfl;have t3:(yS K n).mt[3]?=some eGet:=rfl;have z1:=sz 1 (by decide);have z2:=sz 2 (by decide);have z5:=sz 5 (by decide);show zH (yS K n) XN xF { nx:=fun _ G'=>Q .non G',rt:=Q } [some (.ref d),some t.w,none,none] G
 have fin:∀ (q:Addr) (xs:List Str) (v:Option W) (G':Hw),zW [d,l] G G'->xY G' d l->q∉[d,l]->G' q=some (.lst (xs.map .str))->1<=xs.length->xs.length<=5->(∀ x∈xs,x∈kI)->zH (yS K n) XN (tl (tl (tl xF))) { nx:=fun _ G'=>Q .non G',rt:=Q } [some (.ref d),some t.w,v,some (.ref q)] G':=by
  intro q xs v G' k D' hq gq h1 h5 hf;simp only [xF,tl];refine yQ ?_
  ((try dsimp only [zQ,zS,zM,zF,zB,yV,yU,zO,zU,zN,zT,zX,zR,zP,zJ,zL,yZ,zK,gZ,gS,tZ,tS]);try simp only [e11,e1,jC,jD,gq,zzM])
  refine ⟨d,l,xs.length,rfl,D',⟨by omega,by omega⟩,fun i G2 i0 i1 k2 D2=>?_⟩;obtain ⟨x,hx,ex⟩:=zfI i0 i1;refine fA (zG (k2 _ _ hq gq)) ?_;rw [ex];exact h x G2 (hf x hx) (k.trans k2) D2
 simp only [xF,tl] at fin;simp only [xF];refine yQ ?_
 ((try dsimp only [zQ,zS,zM,zF,zB,yV,yU,zO,zU,zN,zT,zX,zR,zP,zJ,zL,yZ,zK,gZ,gS,tZ,tS]);try simp only [zzC,zzL,zzA,Nat.reduceAdd,z1,z2,true_and])
 intro pd hpd;have k0:zW [d,l] G (put G pd (.dic [])):=zW.new hpd;have D0:=pP (o:=.dic []) hpd D;have g0:(put G pd (.dic [])) pd=some (.dic []):=zV;have nd:=wY D hpd;generalize put G pd (.dic [])=G0 at k0 D0 g0 ⊢;intro p1 h1;have k1:zW [] G0 (put G0 p1 (.lst [.str "left", .str "right"])):=zW.new h1;have g1:(put G0 p1 (.lst [.str "left", .str "right"])) p1=some (.lst ((["left", "right"]:List Str).map .str)):=zV;have n1:=wY D0 h1;generalize put G0 p1 (.lst [.str "left", .str "right"])=G1 at k1 g1 ⊢;have D1:=wV k1 D0;intro p2 h2;have k2:zW [] G1 (put G1 p2 (.lst [.str "which"])):=zW.new h2;have g2:(put G1 p2 (.lst [.str "which"])) p2=some (.lst ((["which"]:List Str).map .str)):=zV;have n2:=wY D1 h2;generalize put G1 p2 (.lst [.str "which"])=G2 at k2 g2 ⊢;have D2:=wV k2 D1;intro p3 h3;have k3:zW [] G2 (put G2 p3 (.lst [.str "if"])):=zW.new h3;have g3:(put G2 p3 (.lst [.str "if"])) p3=some (.lst ((["if"]:List Str).map .str)):=zV;have n3:=wY D2 h3;generalize put G2 p3 (.lst [.str "if"])=G3 at k3 g3 ⊢;have D3:=wV k3 D2;intro p4 h4;have k4:zW [] G3 (put G3 p4 (.lst [.str "not"])):=zW.new h4;have g4:(put G3 p4 (.lst [.str "not"])) p4=some (.lst ((["not"]:List Str).map .str)):=zV;have n4:=wY D3 h4;generalize put G3 p4 (.lst [.str "not"])=G4 at k4 g4 ⊢;have D4:=wV k4 D3;have g3:=k4 _ _ (by simp) g3;have g2:=(k3.trans k4) _ _ (by simp) g2;have g1:=(k2.trans (k3.trans k4)) _ _ (by simp) g1;have gd:=(k1.trans (k2.trans (k3.trans k4))) _ _ (by simp) g0;have kk:zW [d,l] G G4:=k0.trans (jT (k1.trans (k2.trans (k3.trans k4))));refine ⟨gd,?_⟩;have ed:ze9 ["and", "or", "if", "not"] [.ref p1,.ref p2,.ref p3,.ref p4]=[(.inr "and", .ref p1),(.inr "or", .ref p2),(.inr "if", .ref p3),(.inr "not", .ref p4)]:=rfl;rw [ed];have ne:∀ {p:Addr} {xs:List W},G4 p=some (.lst xs)->p≠pd:=fun e z=>by rw [z,gd] at e;cases e
 have off:=fun (p:Addr) (xs:List W) (e:G4 p=some (.lst xs))=>(wJ (o:=O.dic [(.inr "and", .ref p1),(.inr "or", .ref p2),(.inr "if", .ref p3),(.inr "not", .ref p4)]) (ne e)).trans e;have g1:=off _ _ g1;have g2:=off _ _ g2;have g3:=off _ _ g3;have g4:=off _ _ g4;have g5:(put G4 pd (.dic [(.inr "and", .ref p1),(.inr "or", .ref p2),(.inr "if", .ref p3),(.inr "not", .ref p4)])) pd=some (.dic [(.inr "and", .ref p1),(.inr "or", .ref p2),(.inr "if", .ref p3),(.inr "not", .ref p4)]):=zV;have k5:zW [d,l] G (put G4 pd (.dic [(.inr "and", .ref p1),(.inr "or", .ref p2),(.inr "if", .ref p3),(.inr "not", .ref p4)])):=vU kk hpd;have D5:=pO (o:=.dic [(.inr "and", .ref p1),(.inr "or", .ref p2),(.inr "if", .ref p3),(.inr "not", .ref p4)]) nd D4;generalize put G4 pd (.dic [(.inr "and", .ref p1),(.inr "or", .ref p2),(.inr "if", .ref p3),(.inr "not", .ref p4)])=G5 at g1 g2 g3 g4 g5 k5 D5 ⊢;refine yQ ?_
 ((try dsimp only [zQ,zS,zM,zF,zB,yV,yU,zO,zU,zN,zT,zX,zR,zP,zJ,zL,yZ,zK,gZ,gS,tZ,tS]);try simp only [zzC,zzL,zzA,Nat.reduceAdd,z5,true_and])
 intro p6 h6;have k6:zW [] G5 (put G5 p6 (.lst [.str "left", .str "right", .str "which", .str "if", .str "not"])):=zW.new h6;have g6:(put G5 p6 (.lst [.str "left", .str "right", .str "which", .str "if", .str "not"])) p6=some (.lst ((["left", "right", "which", "if", "not"]:List Str).map .str)):=zV;have n6:=wY D5 h6;generalize put G5 p6 (.lst [.str "left", .str "right", .str "which", .str "if", .str "not"])=G6 at k6 g6 ⊢;have D6:=wV k6 D5;refine yQ ?_
 ((try dsimp only [zQ,zS,zM,zF,zB,yV,yU,zO,zU,zN,zT,zX,zR,zP,zJ,zL,yZ,zK,gZ,gS,tZ,tS]);try simp only [e11])
 refine ⟨d,l,4,rfl,D6,by decide,fun q G7 q0 q1 k7 D7=>?_⟩;have kz:zW [d,l] G5 G7:=(jT k6).trans k7;have kk7:zW [d,l] G G7:=k5.trans kz;have g6:=k7 _ _ n6 g6;simp only [yK,tU]
 by_cases hq:0<q
 .rw [if_pos (by simpa using hq)];refine yQ ?_;have gd7:=kz _ _ nd g5
  ((try dsimp only [zQ,zS,zM,zF,zB,yV,yU,zO,zU,zN,zT,zX,zR,zP,zJ,zL,yZ,zK,gZ,gS,tZ,tS]);try simp only [t3])
  refine ⟨by simp only [tyW,gd7],?_⟩
  have on:∀ (x:Str) (p:Addr) (xs:List Str) (r:List W),t.w=.tup (.str x::r)->(nL [(.inr "and", W.ref p1),(.inr "or", .ref p2),(.inr "if", .ref p3),(.inr "not", .ref p4)] (.inr x)).getD (.ref p6)=.ref p->p∉[d,l]->G7 p=some (.lst (xs.map .str))->1<=xs.length->xs.length<=5->(∀ x∈xs,x∈kI) ->
    pG t.w (.int 0) G7 fun w G1=>dg2S (.ref pd) [w,.ref p6] G1 fun w G1=>zH (yS K n) XN .nil { nx:=zH (yS K n) XN (tl (tl (tl xF))) { nx:=fun _ G'=>Q .non G',rt:=Q },rt:=Q } [some (.ref d),some t.w,some (.ref pd),some w] G1:=by
   intro x p xs r ew eg hp gp h1 h5 hf;simp only [ew,ix0,dg2S,gd7];rw [eg];refine qR ?_;simp only [xF,tl];rw [← ew];exact fin p xs _ G7 kk7 D7 hp gp h1 h5 hf
  simp only [xF,tl] at on
  cases t with
  |say y=>exact on "say" p6 ["left", "right", "which", "if", "not"] _ rfl rfl n6 g6 (by decide) (by decide) (by decide +kernel)
  |neg a=>exact on "not" p4 ["not"] _ rfl rfl n4 (kz _ _ n4 g4) (by decide) (by decide) (by decide +kernel)
  |two k a b =>
   cases k with
   |an=>exact on "and" p1 ["left", "right"] _ rfl rfl n1 (kz _ _ n1 g1) (by decide) (by decide) (by decide +kernel)
   |or=>exact on "or" p2 ["which"] _ rfl rfl n2 (kz _ _ n2 g2) (by decide) (by decide) (by decide +kernel)
   |im=>exact on "if" p3 ["if"] _ rfl rfl n3 (kz _ _ n3 g3) (by decide) (by decide) (by decide +kernel)
 .rw [if_neg (by simpa using hq)];refine qR ?_;exact fin p6 _ _ G7 kk7 D7 n6 g6 (by decide) (by decide) (by decide +kernel)
end
theorem zha {x:W} {r:List W}:uA (x::r) (some 1) none=r:=by
 unfold uA HT.wD;simp
theorem iterL {G:Hw} {p:Addr} {ws:List W} {R:List W->(Hw->Prop)->Hw->Prop} (h:G p=some (.lst ws)) (q:R ws (fun G'=>yJ G' p=some ws) G):kJ (.ref p) G R:=by
 simp only [kJ,zG h];exact q
theorem addL {G:Hw} {p q:Addr} {xs ys:List W} {Q:Q3} (hp:G p=some (.lst xs)) (hq:G q=some (.lst ys)) (hl:xs.length+ys.length<=3000) (h:∀ r,G r=none->Q (.ref r) (put G r (.lst (xs++ys)))):jS .Add (.ref p) (.ref q) G Q:=by
 simp only [jS,hp,hq];exact ⟨sz _ hl,h⟩
section
variable {K : yG}
theorem zcU {n:Nat} {ws:List W} {G:Hw} {Q:Q3} (h:wT (n+1) ws G Q XN):zH (xK K 12 ⟨"_law_parts", wT n⟩) XN vQ { nx:=fun _ G'=>Q .non G',rt:=Q } (yM tN ws) G:=by
 obtain ⟨t,rfl,to,ts,td,h⟩:=h;have e15:(xK K 12 ⟨"_law_parts", wT n⟩).fn[12]?=some ⟨"_law_parts", wT n⟩:=rfl;have z1:=sz 1 (by decide);show zH (xK K 12 ⟨"_law_parts", wT n⟩) XN vQ { nx:=fun _ G'=>Q .non G',rt:=Q } [some t.w,none,none] G;simp only [vQ];refine yQ ?_
 ((try dsimp only [zQ,zS,zM,zF,zB,yV,yU,zO,zU,zN,zT,zX,zR,zP,zJ,zL,yZ,zK,gZ,gS,tZ,tS]);try simp only [zzC,zzL,zzA,z1,true_and])
 intro q0 hq0;have k0:zW [] G (put G q0 (.lst [t.w])):=zW.new hq0;have g0:(put G q0 (.lst [t.w])) q0=some (.lst (([t]:List Sy).map Sy.w)):=zV;generalize put G q0 (.lst [t.w])=G0 at k0 g0 ⊢;refine yQ ?_
 have loop:∀ (c:Str) (ks:List Sy),t.w=.tup (.str c::ks.map Sy.w)->(c==("say" : Str))=false->(∀ a∈ks,a.ok/\a.size<t.size/\a.deep<n)->1+(ks.map Sy.size).sum<=t.size->ks.length<=2 ->
   zQ (xK K 12 ⟨"_law_parts", wT n⟩) XN (.for (.nm 2) (.val (.sl (.var 0) (.yes (.con (.int 1))) .no)) (.cons (.ite (.cmp .NotEq (.ix (.var 0) (.con (.int 0))) (.con (.str "say"))) (.cons (.asg 1 (.bin .Add (.var 1) (.lc (.nm 0) ["_law_one"] [1] (.val (.call 12 (.cons (.var 2) .nil))) (.yes (.cmp .NotIn (.var 0) (.var 1))) (.var 0)))) .nil) .nil) .nil)) { nx:=zH (xK K 12 ⟨"_law_parts", wT n⟩) XN (.cons (.ret (.var 1)) .nil) { nx:=fun _ G'=>Q .non G',rt:=Q },rt:=Q } [some t.w,some (.ref q0),none] G0:=by
  intro c ks ew hc hk hs hl
  ((try dsimp only [zQ,zS,zM,zF,zB,yV,yU,zO,zU,zN,zT,zX,zR,zP,zJ,zL,yZ,zK,gZ,gS,tZ,tS]);try simp only [ew,slR,zha,kJ])
  refine ⟨fun i σ G'=>∃ (q:Addr) (ps:List Sy) (v:Option W),σ=[some (.tup (.str c::ks.map Sy.w)),some (.ref q),v]/\G' q=some (.lst (ps.map Sy.w))/\G q=none/\ps≠[]/\ps.length<=1+((ks.take i).map Sy.size).sum/\(∀ p∈ps,p.ok/\p.size<=t.size)/\zW [] G G',⟨q0,[t],none,rfl,g0,hq0,by simp,by simp,fun p hp=>by rw [zzO hp];exact ⟨to,zzR _⟩,k0⟩,fun _ _ _ _ _=>trivial,?_,?_⟩
  .rintro i w σ G1 hw ⟨q,ps,v,rfl,gq,hq,pn,pl,pz,k1⟩;rw [List.getElem?_map] at hw;obtain ⟨a,ha,rfl⟩:=Option.map_eq_some_iff.mp hw;have am:=List.mem_of_getElem? ha;obtain ⟨ao,as,ad⟩:=hk a am
   have et:((ks.take (i+1)).map Sy.size).sum=((ks.take i).map Sy.size).sum+a.size:=by
    rw [List.take_succ,ha];simp
   have le:((ks.take (i+1)).map Sy.size).sum<=(ks.map Sy.size).sum:=by
    have:=List.take_append_drop (i+1) ks;have e2:=congrArg (fun l=>(l.map Sy.size).sum) this;simp only [List.map_append,List.sum_append] at e2;omega
   refine yQ ?_
   ((try dsimp only [zQ,zS,zM,zF,zB,yV,yU,zO,zU,zN,zT,zX,zR,zP,zJ,zL,yZ,zK,gZ,gS,tZ,tS]);try simp only [ix0,yK,vS,hc,Bool.not_false,if_true])
   refine yQ ?_
   ((try dsimp only [zQ,zS,zM,zF,zB,yV,yU,zO,zU,zN,zT,zX,zR,zP,zJ,zL,yZ,zK,gZ,gS,tZ,tS]);try simp only [e15])
   refine ⟨a,rfl,ao,by omega,ad,fun r qs G2 k2 hr gr qn ql qz=>?_⟩;have gq2:=k2 _ _ (by simp) gq;refine iterL gr ?_;refine ⟨fun j acc G'=>∃ us:List Sy,acc=us.map Sy.w/\us.length<=j/\(∀ u∈us,u∈qs)/\zW [] G2 G',⟨[],rfl,zzR _,by simp,zW.refl⟩,?_,sz _ (by rw [zzM];omega),?_,?_⟩
   .rintro j acc G' ⟨us,rfl,h1,_,k⟩ _;exact ⟨zG (k _ _ (by simp) gr),by simpa using h1⟩
   .rintro j w acc G' hw ⟨us,rfl,h1,h2,k⟩;rw [List.getElem?_map] at hw;obtain ⟨u,hu,rfl⟩:=Option.map_eq_some_iff.mp hw;have um:=List.mem_of_getElem? hu;have du:=dR (t:=u) (by have:=(qz u um).2;omega);simp only [dN,List.replicate,zzU,zzV,List.cons_append,List.nil_append,gZ,gS,Option.join_some,List.length_cons,List.length_nil]
    ((try dsimp only [zQ,zS,zM,zF,zB,yV,yU,zO,zU,zN,zT,zX,zR,zP,zJ,zL,yZ,zK,gZ,gS,tZ,tS]);try simp only [yK,mN,k _ _ (by simp) gq2])
    refine ⟨⟨uY u,zcP ps,by omega⟩,?_⟩;simp only [if_true]
    split
    .refine ⟨us++[u],by simp,by simp;omega,fun y hy=>?_,k⟩;rcases List.mem_append.mp hy with hy|hy
     .exact h2 y hy
     .rw [zzO hy];exact um
    .exact ⟨us,rfl,by omega,h2,k⟩
   .rintro acc G3 ⟨us,rfl,h1,h2,k3⟩ r4 hr4;rw [zzM] at h1;have k4:zW [] G2 (put G3 r4 (.lst (us.map Sy.w))):=k3.trans (zW.new hr4);have g4:(put G3 r4 (.lst (us.map Sy.w))) r4=some (.lst (us.map Sy.w)):=zV;generalize put G3 r4 (.lst (us.map Sy.w))=G4 at k4 g4 ⊢;refine addL (k4 _ _ (by simp) gq2) g4 (by rw [zzM,zzM];omega) fun r5 hr5=>?_;have kz:=k1.trans (k2.trans k4);refine qR (Γ:=xK K 12 ⟨"_law_parts", wT n⟩) (E:=XN) (qR (Γ:=xK K 12 ⟨"_law_parts", wT n⟩) (E:=XN) ?_);refine ⟨r5,ps++us,_,rfl,by rw [zV];simp,kz.none (by simp) hr5,by simp [pn],by rw [zzW,et];omega,fun p hp=>?_,kz.trans (zW.new hr5)⟩;rcases List.mem_append.mp hp with hp|hp
    .exact pz p hp
    .have:=qz p (h2 p hp);exact ⟨this.1,by omega⟩
  .rintro σ G1 ⟨q,ps,v,rfl,gq,hq,pn,pl,pz,k1⟩;refine yQ ?_
   (try dsimp only [zQ,zS,zM,zF,zB,yV,yU,zO,zU,zN,zT,zX,zR,zP,zJ,zL,yZ,zK,gZ,gS,tZ,tS])
   refine h q ps G1 k1 hq gq pn ?_ pz;rw [zzM,List.take_length] at pl;omega
 cases t with
 |say x =>
  ((try dsimp only [zQ,zS,zM,zF,zB,yV,yU,zO,zU,zN,zT,zX,zR,zP,zJ,zL,yZ,zK,gZ,gS,tZ,tS]);try simp only [Sy.w,slR,zha,kJ])
  refine ⟨fun i σ G'=>∃ v:Option W,σ=[some (.tup [.str "say", .str x]),some (.ref q0),v]/\G'=G0,⟨none,rfl,rfl⟩,fun _ _ _ _ _=>trivial,?_,?_⟩
  .rintro i w σ G1 hw ⟨v,rfl,rfl⟩;refine yQ ?_
   ((try dsimp only [zQ,zS,zM,zF,zB,yV,yU,zO,zU,zN,zT,zX,zR,zP,zJ,zL,yZ,zK,gZ,gS,tZ,tS]);try simp only [ix0,yK,vS,beq_self_eq_true,Bool.not_true,zzB,if_false])
   exact qR (Γ:=xK K 12 ⟨"_law_parts", wT n⟩) (E:=XN) (qR (Γ:=xK K 12 ⟨"_law_parts", wT n⟩) (E:=XN) ⟨_,rfl,rfl⟩)
  .rintro σ G1 ⟨v,rfl,rfl⟩;refine yQ ?_
   (try dsimp only [zQ,zS,zM,zF,zB,yV,yU,zO,zU,zN,zT,zX,zR,zP,zJ,zL,yZ,zK,gZ,gS,tZ,tS])
   exact h q0 [.say x] G1 k0 hq0 g0 (by simp) (zzR _) (fun p hp=>by rw [zzO hp];exact ⟨to,zzR _⟩)
 |neg a =>
  simp only [Sy.deep] at td;exact loop "not" [a] rfl (by decide +kernel) (fun y hy=>by rw [zzO hy];exact ⟨to,Nat.lt_succ_self _,by omega⟩) (by simp [Sy.size];omega) (by simp)
 |two k a b =>
  simp only [Sy.deep] at td;refine loop (kw k) [a,b] rfl (ziz k).1 (fun y hy=>?_) (by simp [Sy.size];omega) (by simp);rcases List.mem_cons.mp hy with rfl|hy
  .exact ⟨to.1,by simp only [Sy.size];omega,by omega⟩
  .rw [zzO hy];exact ⟨to.2,by simp only [Sy.size];omega,by omega⟩
end
theorem Says.keep {G G':Hw} {d l p:Addr} {ps:List Sy} (s:Says G d l p ps) (k:zW [d,l] G G') (D:xY G' d l):Says G' d l p ps:=⟨D,s.off,k _ _ s.off s.is,s.ne,s.few,s.sz⟩
theorem zjd {ps:List Sy} {i:Int} (h0:0<=i) (h1:i<ps.length):∃ x∈ps,uJ (ps.map Sy.w) i=some x.w:=by
 have hi:i.toNat<ps.length:=by omega
 refine ⟨ps[i.toNat],List.getElem_mem hi,?_⟩;unfold uJ mK;rw [if_pos h0,zzM,if_pos h1];show (ps.map Sy.w)[i.toNat]?=_;rw [List.getElem?_map,List.getElem?_eq_getElem hi];rfl
section
variable {K : yG}
theorem zfc {n:Nat} {ws:List W} {G:Hw} {Q:Q3} (h:qX (n+1) ws G Q XN):zH (xK K 14 ⟨"_law_condition", qX n⟩) XN yL { nx:=fun _ G'=>Q .non G',rt:=Q } (yM qD ws) G:=by
 obtain ⟨d,l,p,ps,k,rfl,S,kn,k10,h⟩:=h;have e1:(xK K 14 ⟨"_law_condition", qX n⟩).fn[1]?=some vE:=rfl;have e8:(xK K 14 ⟨"_law_condition", qX n⟩).fn[6]?=some eInt:=rfl;have e11:(xK K 14 ⟨"_law_condition", qX n⟩).fn[9]?=some uE:=rfl;have e16:(xK K 14 ⟨"_law_condition", qX n⟩).fn[13]?=some ⟨"_law_word", gQ⟩:=rfl;have e17:(xK K 14 ⟨"_law_condition", qX n⟩).fn[14]?=some ⟨"_law_condition", qX n⟩:=rfl;have z1:=sz 1 (by decide);have z2:=sz 2 (by decide);have z3:=sz 3 (by decide);have z4:=sz 4 (by decide);have few:=S.few;have pos:0<ps.length:=List.length_pos_iff.mpr S.ne;show zH (xK K 14 ⟨"_law_condition", qX n⟩) XN yL { nx:=fun _ G'=>Q .non G',rt:=Q } [some (.ref d),some (.ref p),some (.int (k:Nat)),none,none,none,none] G;simp only [yL];refine yQ ?_
 ((try dsimp only [zQ,zS,zM,zF,zB,yV,yU,zO,zU,zN,zT,zX,zR,zP,zJ,zL,yZ,zK,gZ,gS,tZ,tS]);try simp only [e11])
 refine ⟨d,l,10,rfl,S.deal,by decide,fun way G1 w0 w1 k1 D1=>?_⟩;have S1:=S.keep k1 D1;refine yQ ?_
 ((try dsimp only [zQ,zS,zM,zF,zB,yV,yU,zO,zU,zN,zT,zX,zR,zP,zJ,zL,yZ,zK,gZ,gS,tZ,tS]);try simp only [e1,e11,jC,jD,S1.is,zzM])
 refine ⟨d,l,ps.length,rfl,D1,⟨by omega,by omega⟩,fun i G2 i0 i1 k2 D2=>?_⟩;have S2:=S1.keep k2 D2;have kk:=k1.trans k2;obtain ⟨s,sm,es⟩:=zjd i0 i1;have ss:=S.sz s sm;refine fA (zG S2.is) ?_;rw [es];refine yQ ?_
 ((try dsimp only [zQ,zS,zM,zF,zB,yV,yU,zO,zU,zN,zT,zX,zR,zP,zJ,zL,yZ,zK,gZ,gS,tZ,tS]);try simp only [yK,tU])
 have rest:zH (xK K 14 ⟨"_law_condition", qX n⟩) XN (tl (tl (tl yL))) { nx:=fun _ G'=>Q .non G',rt:=Q } [some (.ref d),some (.ref p),some (.int (k:Nat)),some (.int way),some s.w,none,none] G2:=by
  simp only [yL,tl];refine yQ ?_
  ((try dsimp only [zQ,zS,zM,zF,zB,yV,yU,zO,zU,zN,zT,zX,zR,zP,zJ,zL,yZ,zK,gZ,gS,tZ,tS]);try simp only [yK,tU])
  by_cases h2:way<2
  .rw [if_pos (by simpa using h2)];refine yQ ?_
   ((try dsimp only [zQ,zS,zM,zF,zB,yV,yU,zO,zU,zN,zT,zX,zR,zP,zJ,zL,yZ,zK,gZ,gS,tZ,tS]);try simp only [zzC,zzL,zzA,z1,true_and])
   exact h .any G2 trivial (Nat.zero_le _) kk D2
  rw [if_neg (by simpa using h2)];refine qR ?_;refine yQ ?_
  ((try dsimp only [zQ,zS,zM,zF,zB,yV,yU,zO,zU,zN,zT,zX,zR,zP,zJ,zL,yZ,zK,gZ,gS,tZ,tS]);try simp only [yK,tU])
  by_cases h4:way<4
  .rw [if_pos (by simpa using h4)];refine yQ ?_
   ((try dsimp only [zQ,zS,zM,zF,zB,yV,yU,zO,zU,zN,zT,zX,zR,zP,zJ,zL,yZ,zK,gZ,gS,tZ,tS]);try simp only [zzC,zzL,zzA,Nat.reduceAdd,z2,z3,true_and])
   intro q hq;have k3:zW [] G2 (put G2 q (.lst [.str "said", .str "fresh", .str "heard"])):=zW.new hq;have g3:(put G2 q (.lst [.str "said", .str "fresh", .str "heard"])) q=some (.lst [.str "said", .str "fresh", .str "heard"]):=zV;have nq:=wY D2 hq;generalize put G2 q (.lst [.str "said", .str "fresh", .str "heard"])=G3 at k3 g3 ⊢;have D3:=wV k3 D2;simp only [e11];refine ⟨d,l,3,rfl,D3,by decide,fun j G4 j0 j1 k4 D4=>?_⟩;refine fA (zG (k4 _ _ nq g3)) ?_;have kz:=kk.trans ((jT k3).trans k4);have hj:j=0\/j=1\/j=2:=by omega
   rcases hj with rfl|rfl|rfl
   .rw [tD];exact h (.one .said s) G4 ss (Nat.zero_le _) kz D4
   .rw [cO];exact h (.one .fresh s) G4 ss (Nat.zero_le _) kz D4
   .rw [at_2];exact h (.one .heard s) G4 ss (Nat.zero_le _) kz D4
  rw [if_neg (by simpa using h4)];refine qR ?_;refine yQ ?_
  ((try dsimp only [zQ,zS,zM,zF,zB,yV,yU,zO,zU,zN,zT,zX,zR,zP,zJ,zL,yZ,zK,gZ,gS,tZ,tS]);try simp only [e16,zzC,zzL,zzA,Nat.reduceAdd,z2,true_and])
  refine ⟨d,l,s,rfl,D2,fun x G3 xf k3 D3=>?_⟩;intro q hq;have k4:zW [] G3 (put G3 q (.lst [.str x,.str "begin"])):=zW.new hq;have g4:(put G3 q (.lst [.str x,.str "begin"])) q=some (.lst [.str x,.str "begin"]):=zV;have nq:=wY D3 hq;generalize put G3 q (.lst [.str x,.str "begin"])=G4 at k4 g4 ⊢;have D4:=wV k4 D3;simp only [e8,e11];refine ⟨d,l,5,rfl,D4,by decide,fun j G5 j0 j1 k5 D5=>?_⟩;simp only [yK,yR,intS];refine fA (zG (k5 _ _ nq g4)) ?_;have kz:=kk.trans (k3.trans ((jT k4).trans k5))
  have fin:∀ y:Str,y∈sM->zH (xK K 14 ⟨"_law_condition", qX n⟩) XN (tl (tl (tl (tl (tl (tl yL)))))) { nx:=fun _ G'=>Q .non G',rt:=Q } [some (.ref d),some (.ref p),some (.int (k:Nat)),some (.int way),some s.w,none,some (.str y)] G5:=by
   intro y yf;simp only [yL,tl];refine yQ ?_
   ((try dsimp only [zQ,zS,zM,zF,zB,yV,yU,zO,zU,zN,zT,zX,zR,zP,zJ,zL,yZ,zK,gZ,gS,tZ,tS]);try simp only [zzC,zzL,zzA,Nat.reduceAdd,z3,z4,true_and])
   intro q hq;have k6:zW [] G5 (put G5 q (.lst [.str "open", .str "used", .str "asked", .str "answered"])):=zW.new hq;have g6:(put G5 q (.lst [.str "open", .str "used", .str "asked", .str "answered"])) q=some (.lst [.str "open", .str "used", .str "asked", .str "answered"]):=zV;have nq:=wY D5 hq;generalize put G5 q (.lst [.str "open", .str "used", .str "asked", .str "answered"])=G6 at k6 g6 ⊢;have D6:=wV k6 D5;simp only [e11];refine ⟨d,l,4,rfl,D6,by decide,fun j G7 j0 j1 k7 D7=>?_⟩;refine fA (zG (k7 _ _ nq g6)) ?_;have ky:=kz.trans ((jT k6).trans k7);have hj:j=0\/j=1\/j=2\/j=3:=by omega
   rcases hj with rfl|rfl|rfl|rfl
   .rw [tD];exact h (.two .opn y s) G7 ⟨yf,ss⟩ (Nat.zero_le _) ky D7
   .rw [cO];exact h (.two .used y s) G7 ⟨yf,ss⟩ (Nat.zero_le _) ky D7
   .rw [at_2];exact h (.two .asked y s) G7 ⟨yf,ss⟩ (Nat.zero_le _) ky D7
   .rw [at_3];exact h (.two .answ y s) G7 ⟨yf,ss⟩ (Nat.zero_le _) ky D7
  simp only [yL,tl] at fin
  by_cases hj:j=0
  .rw [decide_eq_true hj];simp only [if_true];rw [cO];exact fin _ (by decide +kernel)
  .rw [decide_eq_false hj];simp only [zzB,if_false];rw [tD];exact fin _ (List.mem_cons_of_mem _ xf)
 simp only [yL,tl] at rest
 by_cases h6:6<way
 .simp only [decide_eq_true h6,if_true]
  by_cases h0:0<(k:Int)
  .simp only [decide_eq_true h0,if_true];refine yQ ?_
   ((try dsimp only [zQ,zS,zM,zF,zB,yV,yU,zO,zU,zN,zT,zX,zR,zP,zJ,zL,yZ,zK,gZ,gS,tZ,tS]);try simp only [e17,jS])
   have ek:(k:Int)-1=((k-1:Nat):Int):=by omega
   refine ⟨d,l,p,ps,k-1,by rw [ek],S2,by omega,by omega,fun c G3 co cd k3 D3=>?_⟩;have S3:=S2.keep k3 D3;have kz:=kk.trans k3;refine yQ ?_
   ((try dsimp only [zQ,zS,zM,zF,zB,yV,yU,zO,zU,zN,zT,zX,zR,zP,zJ,zL,yZ,zK,gZ,gS,tZ,tS]);try simp only [yK,yR])
   by_cases h9:way=9
   .rw [decide_eq_true h9,if_pos rfl];refine yQ ?_
    ((try dsimp only [zQ,zS,zM,zF,zB,yV,yU,zO,zU,zN,zT,zX,zR,zP,zJ,zL,yZ,zK,gZ,gS,tZ,tS]);try simp only [zzC,zzL,zzA,Nat.reduceAdd,z2,true_and])
    exact h (.neg c) G3 co (by simp only [Cd.deep];omega) kz D3
   .rw [decide_eq_false h9,if_neg zzN];refine qR ?_;refine yQ ?_
    ((try dsimp only [zQ,zS,zM,zF,zB,yV,yU,zO,zU,zN,zT,zX,zR,zP,zJ,zL,yZ,zK,gZ,gS,tZ,tS]);try simp only [zzC,zzL,zzA,Nat.reduceAdd,z2,z3,true_and])
    intro q hq;have k4:zW [] G3 (put G3 q (.lst [.str "and", .str "or"])):=zW.new hq;have g4:(put G3 q (.lst [.str "and", .str "or"])) q=some (.lst [.str "and", .str "or"]):=zV;generalize put G3 q (.lst [.str "and", .str "or"])=G4 at k4 g4 ⊢;have D4:=wV k4 D3;have S4:=S3.keep (jT k4) D4;simp only [jS];refine fA (zG g4) ?_;have hw:way-7=0\/way-7=1:=by omega
    rcases hw with hw|hw
    .rw [hw,tD];simp only [e17];refine ⟨d,l,p,ps,k-1,by rw [ek],S4,by omega,by omega,fun c' G5 co' cd' k5 D5=>?_⟩;exact h (.bin false c c') G5 ⟨co,co'⟩ (by simp only [Cd.deep];omega) (kz.trans ((jT k4).trans k5)) D5
    .rw [hw,cO];simp only [e17];refine ⟨d,l,p,ps,k-1,by rw [ek],S4,by omega,by omega,fun c' G5 co' cd' k5 D5=>?_⟩;exact h (.bin true c c') G5 ⟨co,co'⟩ (by simp only [Cd.deep];omega) (kz.trans ((jT k4).trans k5)) D5
  .simp only [decide_eq_false h0,zzB,if_false];refine qR ?_;exact rest
 .simp only [decide_eq_false h6,zzB,if_false];refine qR ?_;exact rest
end
theorem zbM {ws:List W} {w:W} (hw:w∈ws):dep w<=wG ws:=by
 induction ws with
 |nil=>cases hw
 |cons x r ih =>
  simp only [wG];rcases List.mem_cons.mp hw with rfl|hw
  .exact Nat.le_max_left _ _
  .exact Nat.le_trans (ih hw) (Nat.le_max_right _ _)
theorem zg5 {ws:List W} {w:W} (hw:w∈ws):dep w<dep (.tup ws):=by
 have:=zbM hw;simp only [dep];omega
section
variable {K : yG}
theorem zdH {n:Nat} {ws:List W} {G:Hw} {Q:Q3} (h:jQ (n+1) ws G Q XN):zH (xK K 16 ⟨"_law_count", jQ n⟩) XN vP { nx:=fun _ G'=>Q .non G',rt:=Q } (yM tL ws) G:=by
 obtain ⟨w,rfl,ht,hd,h⟩:=h;have e4:(xK K 16 ⟨"_law_count", jQ n⟩).fn[4]?=some (dS K):=rfl;have e8:(xK K 16 ⟨"_law_count", jQ n⟩).fn[6]?=some eInt:=rfl;have e9:(xK K 16 ⟨"_law_count", jQ n⟩).fn[7]?=some eSum:=rfl;have e18:(xK K 16 ⟨"_law_count", jQ n⟩).fn[16]?=some ⟨"_law_count", jQ n⟩:=rfl;have g2:(xK K 16 ⟨"_law_count", jQ n⟩).gl[11]?=some (("tuple" : Str),.ty "tuple"):=rfl;show zH (xK K 16 ⟨"_law_count", jQ n⟩) XN vP { nx:=fun _ G'=>Q .non G',rt:=Q } [some w] G;simp only [vP];refine yQ ?_
 cases ht with
 |str x =>
  ((try dsimp only [zQ,zS,zM,zF,zB,yV,yU,zO,zU,zN,zT,zX,zR,zP,zJ,zL,yZ,zK,gZ,gS,tZ,tS]);try simp only [e4,g2])
  refine ⟨"str", false,rfl,rfl,?_⟩;simp only [qP,zzB,if_false];refine qR ?_;refine yQ ?_
  ((try dsimp only [zQ,zS,zM,zF,zB,yV,yU,zO,zU,zN,zT,zX,zR,zP,zJ,zL,yZ,zK,gZ,gS,tZ,tS]);try simp only [yK,vS,e8,intS])
  exact h _ G zW.refl
 |int i =>
  ((try dsimp only [zQ,zS,zM,zF,zB,yV,yU,zO,zU,zN,zT,zX,zR,zP,zJ,zL,yZ,zK,gZ,gS,tZ,tS]);try simp only [e4,g2])
  refine ⟨"int", false,rfl,rfl,?_⟩;simp only [qP,zzB,if_false];refine qR ?_;refine yQ ?_;have ei:bD G (.int i) (.str "say")=some false:=by simp [bD,kX,dep,vF]
  ((try dsimp only [zQ,zS,zM,zF,zB,yV,yU,zO,zU,zN,zT,zX,zR,zP,zJ,zL,yZ,zK,gZ,gS,tZ,tS]);try simp only [yK,ei,e8,intS])
  exact h _ G zW.refl
 |tup vs hv ha =>
  ((try dsimp only [zQ,zS,zM,zF,zB,yV,yU,zO,zU,zN,zT,zX,zR,zP,zJ,zL,yZ,zK,gZ,gS,tZ,tS]);try simp only [e4,g2])
  refine ⟨"tuple", true,rfl,rfl,?_⟩;simp only [qP,if_true];refine yQ ?_
  ((try dsimp only [zQ,zS,zM,zF,zB,yV,yU,zO,zU,zN,zT,zX,zR,zP,zJ,zL,yZ,zK,gZ,gS,tZ,tS]);try simp only [e9,kJ])
  refine ⟨fun i acc G'=>zW [] G G'/\∃ ns:List Int,acc=ns.map .int/\ns.length=i,⟨zW.refl,[],rfl,rfl⟩,?_,sz _ (by omega),?_,?_⟩
  .rintro i acc G' ⟨_,ns,rfl,hl⟩ _;exact ⟨trivial,by simp;omega⟩
  .rintro i u acc G' hu ⟨k,ns,rfl,hl⟩;simp only [dN,List.replicate,zzU,zzV,List.cons_append,List.nil_append,List.append_nil,gZ,gS,List.length_cons,List.length_nil]
   ((try dsimp only [zQ,zS,zM,zF,zB,yV,yU,zO,zU,zN,zT,zX,zR,zP,zJ,zL,yZ,zK,gZ,gS,tZ,tS]);try simp only [if_true,e18])
   have hm:=List.mem_of_getElem? hu;refine ⟨u,rfl,ha u hm,by have:=zg5 hm;omega,fun j G2 k2=>⟨k.trans k2,ns++[j],by simp,by simp [hl]⟩⟩
  .rintro acc G' ⟨k,ns,rfl,hl⟩ r hr;exact ⟨ns,zG zV,h _ _ (k.trans (zW.new hr))⟩
end
theorem tx2 {a b:W} (ha:Tx a) (hb:Tx b):Tx (.tup [a,b]):=.tup _ (by simp) fun w hw=>by
 rcases List.mem_cons.mp hw with rfl|hw
 .exact ha
 .rw [zzO hw];exact hb
theorem tx3 {a b c:W} (ha:Tx a) (hb:Tx b) (hc:Tx c):Tx (.tup [a,b,c]):=.tup _ (by simp) fun w hw=>by
 rcases List.mem_cons.mp hw with rfl|hw
 .exact ha
 .rcases List.mem_cons.mp hw with rfl|hw
  .exact hb
  .rw [zzO hw];exact hc
theorem gR:∀ t:Sy,Tx t.w
 | .say x=>tx2 (.str _) (.str _)
 | .neg a=>tx2 (.str _) (gR a)
 | .two _ a b=>tx3 (.str _) (gR a) (gR b)
theorem zd1:∀ c:Cd,Tx c.w
 | .any=>.tup _ (by simp) fun w hw=>by rw [zzO hw];exact .str _
 | .one _ s=>tx2 (.str _) (gR s)
 | .two _ x s=>tx3 (.str _) (.str _) (gR s)
 | .neg a=>tx2 (.str _) (zd1 a)
 | .bin _ a b=>tx3 (.str _) (zd1 a) (zd1 b)
theorem zbN:∀ {c:Cd},c.ok->dep c.w<=c.deep+22
 | .any,_=>by simp [Cd.w,dep,wG]
 | .one _ s,h=>by
  have:=dR (t:=s) (by have:=h.2;omega);simp only [Cd.w,dep,wG];omega
 | .two _ x s,h=>by
  have:=dR (t:=s) (by have:=h.2.2;omega);simp only [Cd.w,dep,wG];omega
 | .neg a,h=>by
  have:=zbN (c:=a) h;simp only [Cd.w,Cd.deep,dep,wG];omega
 | .bin _ a b,h=>by
  have:=zbN (c:=a) h.1;have:=zbN (c:=b) h.2;simp only [Cd.w,Cd.deep,dep,wG];omega
theorem tx_dd:∀ e:Dd,Tx e.w
 | .ans s=>tx2 (.str _) (gR s)
 | .dbt _ s=>tx3 (.str _) (.str _) (gR s)
 | .dbw _=>tx2 (.str _) (.str _)
 | .mov _=>tx2 (.str _) (.int _)
theorem zi4:∀ {e:Dd},e.ok->dep e.w<=22
 | .ans s,h=>by
  have:=dR (t:=s) (by have:=h.2;omega);simp only [Dd.w,dep,wG];omega
 | .dbt _ s,h=>by
  have:=dR (t:=s) (by have:=h.2.2;omega);simp only [Dd.w,dep,wG];omega
 | .dbw _,_=>by simp [Dd.w,dep,wG]
 | .mov _,_=>by simp [Dd.w,dep,wG]
section
variable {K : yG}
theorem ze7 {n:Nat} (hn:15<=n) {ws:List W} {G:Hw} {Q:Q3} (h:zbo ws G Q XN):zH (yS K n) XN uL { nx:=fun _ G'=>Q .non G',rt:=Q } (yM rR ws) G:=by
 obtain ⟨d,l,p,ps,rfl,S,h⟩:=h;have e1:(yS K n).fn[1]?=some vE:=jX 1 hn rfl;have e9:(yS K n).fn[9]?=some uE:=jX 9 hn rfl;have e13:(yS K n).fn[13]?=some ⟨"_law_word", gQ⟩:=jX 13 hn rfl;have z2:=sz 2 (by decide);have z3:=sz 3 (by decide);have few:=S.few;have pos:0<ps.length:=List.length_pos_iff.mpr S.ne;show zH (yS K n) XN uL { nx:=fun _ G'=>Q .non G',rt:=Q } [some (.ref d),some (.ref p),none,none] G;simp only [uL];refine yQ ?_
 ((try dsimp only [zQ,zS,zM,zF,zB,yV,yU,zO,zU,zN,zT,zX,zR,zP,zJ,zL,yZ,zK,gZ,gS,tZ,tS]);try simp only [e9])
 refine ⟨d,l,6,rfl,S.deal,by decide,fun way G1 w0 w1 k1 D1=>?_⟩;have S1:=S.keep k1 D1;refine yQ ?_
 ((try dsimp only [zQ,zS,zM,zF,zB,yV,yU,zO,zU,zN,zT,zX,zR,zP,zJ,zL,yZ,zK,gZ,gS,tZ,tS]);try simp only [e1,e9,jC,jD,S1.is,zzM])
 refine ⟨d,l,ps.length,rfl,D1,⟨by omega,by omega⟩,fun i G2 i0 i1 k2 D2=>?_⟩;have S2:=S1.keep k2 D2;have kk:=k1.trans k2;obtain ⟨s,sm,es⟩:=zjd i0 i1;have ss:=S.sz s sm;refine fA (zG S2.is) ?_;rw [es];refine yQ ?_
 ((try dsimp only [zQ,zS,zM,zF,zB,yV,yU,zO,zU,zN,zT,zX,zR,zP,zJ,zL,yZ,zK,gZ,gS,tZ,tS]);try simp only [yK,tU])
 by_cases h2:way<2
 .rw [if_pos (by simpa using h2)];refine yQ ?_
  ((try dsimp only [zQ,zS,zM,zF,zB,yV,yU,zO,zU,zN,zT,zX,zR,zP,zJ,zL,yZ,zK,gZ,gS,tZ,tS]);try simp only [zzC,zzL,zzA,Nat.reduceAdd,z2,true_and])
  exact h (.ans s) G2 ss kk D2
 rw [if_neg (by simpa using h2)];refine qR ?_;refine yQ ?_
 ((try dsimp only [zQ,zS,zM,zF,zB,yV,yU,zO,zU,zN,zT,zX,zR,zP,zJ,zL,yZ,zK,gZ,gS,tZ,tS]);try simp only [yK,yR])
 by_cases h3:way=2
 .rw [if_pos (by simpa using h3)];refine yQ ?_
  ((try dsimp only [zQ,zS,zM,zF,zB,yV,yU,zO,zU,zN,zT,zX,zR,zP,zJ,zL,yZ,zK,gZ,gS,tZ,tS]);try simp only [e13,zzC,zzL,zzA,Nat.reduceAdd,z3,true_and])
  exact ⟨d,l,s,rfl,D2,fun x G3 xf k3 D3=>h (.dbt x s) G3 ⟨xf,ss⟩ (kk.trans k3) D3⟩
 rw [if_neg (by simpa using h3)];refine qR ?_;refine yQ ?_
 ((try dsimp only [zQ,zS,zM,zF,zB,yV,yU,zO,zU,zN,zT,zX,zR,zP,zJ,zL,yZ,zK,gZ,gS,tZ,tS]);try simp only [yK,yR])
 by_cases h4:way=3
 .rw [if_pos (by simpa using h4)];refine yQ ?_
  ((try dsimp only [zQ,zS,zM,zF,zB,yV,yU,zO,zU,zN,zT,zX,zR,zP,zJ,zL,yZ,zK,gZ,gS,tZ,tS]);try simp only [e13,zzC,zzL,zzA,Nat.reduceAdd,z2,true_and])
  exact ⟨d,l,s,rfl,D2,fun x G3 xf k3 D3=>h (.dbw x) G3 xf (kk.trans k3) D3⟩
 rw [if_neg (by simpa using h4)];refine qR ?_;refine yQ ?_
 ((try dsimp only [zQ,zS,zM,zF,zB,yV,yU,zO,zU,zN,zT,zX,zR,zP,zJ,zL,yZ,zK,gZ,gS,tZ,tS]);try simp only [e9,zzC,zzL,zzA,Nat.reduceAdd,z2,true_and])
 refine ⟨d,l,4,rfl,D2,by decide,fun a G3 a0 a1 k3 D3=>⟨d,l,1000,rfl,D3,by decide,fun b G4 b0 b1 k4 D4=>?_⟩⟩;intro q hq;have k5:zW [] G4 (put G4 q (.lst [.int a,.int b])):=zW.new hq;have g5:(put G4 q (.lst [.int a,.int b])) q=some (.lst [.int a,.int b]):=zV;have nq:=wY D4 hq;generalize put G4 q (.lst [.int a,.int b])=G5 at k5 g5 ⊢;refine ⟨d,l,2,rfl,wV k5 D4,by decide,fun j G6 j0 j1 k6 D6=>?_⟩;refine fA (zG (k6 _ _ nq g5)) ?_;have kz:=kk.trans (k3.trans (k4.trans ((jT k5).trans k6)));have hj:j=0\/j=1:=by omega
 rcases hj with rfl|rfl
 .rw [tD];exact h (.mov a) G6 ⟨a0,by omega⟩ kz D6
 .rw [cO];exact h (.mov b) G6 ⟨b0,by omega⟩ kz D6
theorem zaO {n:Nat} (hn:17<=n) {ws:List W} {G:Hw} {Q:Q3} (h:sX ws G Q XN):zH (yS K n) XN qI { nx:=fun _ G'=>Q .non G',rt:=Q } (yM vL ws) G:=by
 obtain ⟨d,l,p,ps,rfl,S,h⟩:=h;have e5:(yS K n).fn[5]?=some eTup:=jX 5 hn rfl;have e9:(yS K n).fn[9]?=some uE:=jX 9 hn rfl;have e14:(yS K n).fn[14]?=some ⟨"_law_condition", qX 5⟩:=jX 14 hn rfl;have e15:(yS K n).fn[15]?=some ⟨"_law_deed", zbo⟩:=jX 15 hn rfl;have e16:(yS K n).fn[16]?=some ⟨"_law_count", jQ 60⟩:=jX 16 hn rfl;have i0:(yS K n).it[0]?=some eRng:=rfl;have t2:(yS K n).mt[2]?=some eApp:=rfl;have z0:=sz 0 (by decide);have z1:=sz 1 (by decide);have z2:=sz 2 (by decide);show zH (yS K n) XN qI { nx:=fun _ G'=>Q .non G',rt:=Q } [some (.ref d),some (.ref p),some (.int 30),some (.int 4),none,none,none,none] G;simp only [qI];refine yQ ?_
 ((try dsimp only [zQ,zS,zM,zF,zB,yV,yU,zO,zU,zN,zT,zX,zR,zP,zJ,zL,yZ,zK,gZ,gS,tZ,tS]);try simp only [List.length_nil,z0,true_and])
 intro q hq;have nq:=wY S.deal hq;have k0:zW [] G (put G q (.lst [])):=zW.new hq;have g0:(put G q (.lst [])) q=some (.lst (([]:List (Cd×Dd)).map yH)):=zV;generalize put G q (.lst [])=G0 at k0 g0 ⊢;have S0:=S.keep (jT k0) (wV k0 S.deal);refine yQ ?_
 ((try dsimp only [zQ,zS,zM,zF,zB,yV,yU,zO,zU,zN,zT,zX,zR,zP,zJ,zL,yZ,zK,gZ,gS,tZ,tS]);try simp only [i0,e9,jS])
 refine ⟨d,l,31,rfl,S0.deal,by decide,fun m G1 m0 m1 k1 D1=>?_⟩;refine ⟨⟨by omega,by omega⟩,?_⟩;refine ⟨fun i σ G'=>∃ (rs:List (Cd×Dd)) (v5 v6 v7:Option W),σ=[some (.ref d),some (.ref p),some (.int 30),some (.int 4),some (.ref q),v5,v6,v7]/\G' q=some (.lst (rs.map yH))/\rs.length<=i/\(∀ r∈rs,r.1.ok/\r.1.deep<=4/\r.2.ok)/\zW [d,l] G G'/\xY G' d l,⟨[],none,none,none,rfl,k1 _ _ nq g0,zzR _,by simp,(jT k0).trans k1,D1⟩,fun _ _ _ _ _=>trivial,?_,?_⟩
 .rintro i w σ G' hw ⟨rs,v5,v6,v7,rfl,gq,rl,ro,kp,D'⟩
  have him:i<31:=by
   have:=(List.getElem?_eq_some_iff.mp hw).1;simp only [zzM,List.length_range] at this;omega
  have S':=S.keep kp D';refine yQ ?_
  ((try dsimp only [zQ,zS,zM,zF,zB,yV,yU,zO,zU,zN,zT,zX,zR,zP,zJ,zL,yZ,zK,gZ,gS,tZ,tS]);try simp only [e14])
  refine ⟨d,l,p,ps,4,rfl,S',by decide,by decide,fun c G2 co cd k2 D2=>?_⟩;have S2:=S'.keep k2 D2;refine yQ ?_
  ((try dsimp only [zQ,zS,zM,zF,zB,yV,yU,zO,zU,zN,zT,zX,zR,zP,zJ,zL,yZ,zK,gZ,gS,tZ,tS]);try simp only [e15,zzC,zzL,zzA,Nat.reduceAdd,z2,true_and])
  refine ⟨d,l,p,ps,rfl,S2,fun e G3 eo k3 D3=>?_⟩;have gq3:=k3 _ _ nq (k2 _ _ nq gq);refine yQ ?_
  ((try dsimp only [zQ,zS,zM,zF,zB,yV,yU,zO,zU,zN,zT,zX,zR,zP,zJ,zL,yZ,zK,gZ,gS,tZ,tS]);try simp only [e16])
  have dc:=zbN co;have dd:=zi4 eo;refine ⟨.tup [c.w,e.w],rfl,tx2 (zd1 c) (tx_dd e),by simp only [dep,wG];omega,fun j G4 k4=>?_⟩;have D4:=wV k4 D3;have gq4:=k4 _ _ (by simp) gq3;have kz:=kp.trans (k2.trans (k3.trans (jT k4)))
  have fin:∀ (r:Cd×Dd) (G5:Hw) (bk ct:qK->Hw->Prop) (v5 v6:Option W),r.1.ok->r.1.deep<=4->r.2.ok->zW [d,l] G G5->xY G5 d l->G5 q=some (.lst (rs.map yH))->zH (yS K n) XN (.cons (.ex (.mth 2 (.var 4) (.cons (.var 7) .nil))) .nil) { nx:=fun σ G'=>∃ (rs:List (Cd×Dd)) (v5 v6 v7:Option W),σ=[some (.ref d),some (.ref p),some (.int 30),some (.int 4),some (.ref q),v5,v6,v7]/\G' q=some (.lst (rs.map yH))/\rs.length<=i+1/\(∀ r∈rs,r.1.ok/\r.1.deep<=4/\r.2.ok)/\zW [d,l] G G'/\xY G' d l,rt:=Q,bk:=bk,ct:=ct } [some (.ref d),some (.ref p),some (.int 30),some (.int 4),some (.ref q),v5,v6,some (yH r)] G5:=by
   intro r G5 bk ct v5 v6 r1 r2 r3 k5 D5 gq5;refine yQ ?_
   ((try dsimp only [zQ,zS,zM,zF,zB,yV,yU,zO,zU,zN,zT,zX,zR,zP,zJ,zL,yZ,zK,gZ,gS,tZ,tS]);try simp only [t2])
   refine ⟨tyL gq5,appL gq5 (by rw [zzM];omega) ?_⟩;refine qR (Γ:=yS K n) (E:=XN) ?_;refine ⟨rs++[r],_,_,_,rfl,by rw [zV];simp,by simp;omega,fun x hx=>?_,vU k5 hq,pO nq D5⟩;rcases List.mem_append.mp hx with hx|hx
   .exact ro x hx
   .rw [zzO hx];exact ⟨r1,r2,r3⟩
  simp only [yK,tU]
  by_cases hj:55<j
  .rw [if_pos (by simpa using hj)];refine yQ ?_
   ((try dsimp only [zQ,zS,zM,zF,zB,yV,yU,zO,zU,zN,zT,zX,zR,zP,zJ,zL,yZ,zK,gZ,gS,tZ,tS]);try simp only [e9,zzC,zzL,zzA,Nat.reduceAdd,z1,z2,true_and])
   refine ⟨d,l,9,rfl,D4,by decide,fun a G5 a0 a1 k5 D5=>?_⟩;refine qR ?_;exact fin (.any,.mov a) G5 _ _ _ _ trivial (Nat.zero_le _) ⟨a0,by omega⟩ (kz.trans k5) D5 (k5 _ _ nq gq4)
  .rw [if_neg (by simpa using hj)];refine qR ?_;exact fin (c,e) G4 _ _ _ _ co cd eo kz D4 gq4
 .rintro σ G' ⟨rs,v5,v6,v7,rfl,gq,rl,ro,kp,D'⟩;simp only [zzM,List.length_range] at rl;refine yQ ?_
  ((try dsimp only [zQ,zS,zM,zF,zB,yV,yU,zO,zU,zN,zT,zX,zR,zP,zJ,zL,yZ,zK,gZ,gS,tZ,tS]);try simp only [e5,tupS,nI,zG gq])
  exact h rs G' (by omega) ro kp D'
end
def isStr:W->Bool
 | .str _=>true
 |_=>false
def mW:W->Bool
 | .tup _=>true
 |_=>false
section
variable {K : yG}
theorem kZ {x:W} {T' T:String} {b:Bool} {G:Hw} {Q:Q3} (h1:tyO G x=some T') (h2:PySem.W.kitOne K (.type T') (.type T)=some b) (h:Q (.bl b) G):isjS K [x,.ty T] G Q:=⟨T',b,h1,h2,h⟩
theorem hG {w:W} {G:Hw} {Q:Q3} (k:kn G w) (h:Q (.bl (isStr w)) G):isjS K [w,.ty "str"] G Q:=by
 cases w with
 |non=>exact kZ rfl (by rfl) h
 |bl _=>exact kZ rfl (by rfl) h
 |int _=>exact kZ rfl (by rfl) h
 |str _=>exact kZ rfl (by rfl) h
 |tup _=>exact kZ rfl (by rfl) h
 |ref p =>
  rcases k with ⟨l,e⟩|⟨l,e⟩
  .exact kZ (T' := "list") (by simp only [tyO,e]) (by rfl) h
  .exact kZ (T' := "dict") (by simp only [tyO,e]) (by rfl) h
 |_=>exact k.elim
theorem hJ {w:W} {G:Hw} {Q:Q3} (k:kn G w) (h:Q (.bl (mW w)) G):isjS K [w,.ty "tuple"] G Q:=by
 cases w with
 |non=>exact kZ rfl (by rfl) h
 |bl _=>exact kZ rfl (by rfl) h
 |int _=>exact kZ rfl (by rfl) h
 |str _=>exact kZ rfl (by rfl) h
 |tup _=>exact kZ rfl (by rfl) h
 |ref p =>
  rcases k with ⟨l,e⟩|⟨l,e⟩
  .exact kZ (T' := "list") (by simp only [tyO,e]) (by rfl) h
  .exact kZ (T' := "dict") (by simp only [tyO,e]) (by rfl) h
 |_=>exact k.elim
theorem le_a (c:Nat):leS "a" ⟨#[c]⟩=decide (97<=c):=by
 unfold leS;show (!decide ([c]<("a" : Str).cps.toList))=_;rw [show ("a" : Str).cps.toList=[97] by decide +kernel,StrLaws.lt_cons_cons]
 by_cases h:c<97
 .simp [h]
 .simp [h,Nat.le_of_not_lt h]
theorem le_z (c:Nat):leS ⟨#[c]⟩ "z" = decide (c<=122):=by
 unfold leS;show (!decide (("z" : Str).cps.toList<[c]))=_;rw [show ("z" : Str).cps.toList=[122] by decide +kernel,StrLaws.lt_cons_cons]
 by_cases h:122<c
 .simp [h]
 .simp [h,Nat.le_of_not_lt h]
theorem zeC {n:Nat} (hn:18<=n) {ws:List W} {G:Hw} {Q:Q3} (h:zbm ws G Q XN):zH (yS K n) XN pN { nx:=fun _ G'=>Q .non G',rt:=Q } (yM gD ws) G:=by
 obtain ⟨w,rfl,k,h⟩:=h;have e1:(yS K n).fn[1]?=some vE:=jX 1 hn rfl;have e2:(yS K n).fn[2]?=some eAll:=jX 2 hn rfl;have e4:(yS K n).fn[4]?=some (dS K):=jX 4 hn rfl;have g0:(yS K n).gl[0]?=some (("LONGEST_NAME" : Str),.int 6):=rfl;have g1:(yS K n).gl[1]?=some (("NO_NAMES" : Str),.tup (noN.map .str)):=rfl;have g3:(yS K n).gl[9]?=some (("str" : Str),.ty "str"):=rfl;show zH (yS K n) XN pN { nx:=fun _ G'=>Q .non G',rt:=Q } [some w] G;simp only [pN];refine yQ ?_
 ((try dsimp only [zQ,zS,zM,zF,zB,yV,yU,zO,zU,zN,zT,zX,zR,zP,zJ,zL,yZ,zK,gZ,gS,tZ,tS]);try simp only [e4,g3])
 refine hG k ?_
 by_cases hs:isStr w=true
 .obtain ⟨x,rfl⟩:∃ x,w=.str x:=by cases w<;>first|exact ⟨_,rfl⟩|cases hs
  have hx:x.length<=1000:=k;simp only [hs,qP,Bool.not_true,zzB,if_false,yK,leR,e1,g0,jC,jD,sz _ (show x.length<=3000 by omega),if_true];have h:Bl (dE x) G Q:=h;have c1:decide ((1:Int)<=(x.length:Int))=decide (1<=x.length):=decide_eq_decide.mpr (by omega);have c2:decide ((x.length:Int)<=6)=decide (x.length<=6):=decide_eq_decide.mpr (by omega)
  by_cases h1:1<=x.length
  .rw [c1,decide_eq_true h1];simp only [if_true,c2]
   by_cases h6:x.length<=6
   .simp only [decide_eq_true h6,Bool.not_true,zzB,if_false];refine qR ?_;refine yQ ?_
    ((try dsimp only [zQ,zS,zM,zF,zB,yV,yU,zO,zU,zN,zT,zX,zR,zP,zJ,zL,yZ,zK,gZ,gS,tZ,tS]);try simp only [yK,mN,L3.inR,g1,e2,if_true])
    refine ⟨⟨by simp [kX],by decide,Nat.le_trans (Nat.min_le_right _ _) (by simp [dep])⟩,?_⟩;rw [zfJ]
    by_cases hno:noN.contains x=true
    .simp only [hno,Bool.not_true,zzB,if_false];have e:dE x=false:=by unfold dE;rw [hno];simp
     rw [e] at h;exact h G zW.refl
    .simp only [Bool.not_eq_true] at hno;simp only [hno,Bool.not_false,if_true,kJ];refine zaY (fun w=>match w with|.str y=>some (.bl (leS "a" y&&leS y "z"))|_=>none) trivial (by simp only [sgs,zzM,uT];exact sz _ (by omega)) ?_ ?_
     .intro w hw K' hK;obtain ⟨c,_,rfl⟩:=zzP hw;simp only [dN,List.length_cons,List.length_nil,List.replicate,zzV,List.append_nil]
      ((try dsimp only [zQ,zS,zM,zF,zB,yV,yU,zO,zU,zN,zT,zX,zR,zP,zJ,zL,yZ,zK,gZ,gS,tZ,tS]);try simp only [yK,leR,if_true])
      replace hK:K' (some (.bl (leS "a" ⟨#[c]⟩&&leS ⟨#[c]⟩ "z"))) G:=hK;revert hK;cases leS "a" ⟨#[c]⟩<;>simp
     .intro p hp;refine ⟨x.cps.toList.map ltB,?_,?_⟩
      .rw [zG zV];congr 1;unfold sgs;rw [List.filterMap_map,List.map_map];rw [← List.filterMap_eq_map];congr 1
       funext c
       simp only [Function.comp,le_a,le_z,ltB]
      .have e:dE x=(x.cps.toList.map ltB).all id:=by
        unfold dE xE;rw [decide_eq_true h1,decide_eq_true h6,hno,List.all_map];rfl
       rw [e] at h;exact h _ (zW.new hp)
   .simp only [decide_eq_false h6,Bool.not_false,if_true];refine yQ ?_
    (try dsimp only [zQ,zS,zM,zF,zB,yV,yU,zO,zU,zN,zT,zX,zR,zP,zJ,zL,yZ,zK,gZ,gS,tZ,tS])
    have e:dE x=false:=by unfold dE;rw [decide_eq_false h6];simp
    rw [e] at h;exact h G zW.refl
  .rw [c1,decide_eq_false h1];simp only [zzB,if_false,Bool.not_false,if_true];refine yQ ?_
   (try dsimp only [zQ,zS,zM,zF,zB,yV,yU,zO,zU,zN,zT,zX,zR,zP,zJ,zL,yZ,zK,gZ,gS,tZ,tS])
   have e:dE x=false:=by unfold dE;rw [decide_eq_false h1];simp
   rw [e] at h;exact h G zW.refl
 .simp only [Bool.not_eq_true] at hs;simp only [hs,qP,Bool.not_false,if_true];refine yQ ?_
  (try dsimp only [zQ,zS,zM,zF,zB,yV,yU,zO,zU,zN,zT,zX,zR,zP,zJ,zL,yZ,zK,gZ,gS,tZ,tS])
  have e:gB w=false:=by cases w<;>first|rfl|cases hs
  rw [e] at h;exact h G zW.refl
end
theorem pW {t:Str} {w:W}:∀ {l:List (Str×W)},l.lookup t=some w->∃ p∈l,p.2=w
 | [],h=>by cases h
 |p::r,h=>by
  obtain ⟨k,v⟩:=p;rw [List.lookup_cons] at h
  cases e:(t==k) with
  |true=>rw [e] at h;cases h;exact ⟨_,zzT,rfl⟩
  |false =>
   rw [e] at h;obtain ⟨p,hp,e⟩:=pW h;exact ⟨p,List.mem_cons_of_mem _ hp,e⟩
theorem zc9 (t:Str):(∃ k:Int,fF t=.int k)\/fF t=.non:=by
 unfold fF
 cases h:(cR.zip mL).lookup t with
 |none=>exact .inr rfl
 |some w =>
  refine .inl ?_
  have:∀ p∈cR.zip mL,∃ k:Int,p.2=.int k:=by
   intro p hp;simp only [cR,mL,List.zip_cons_cons,List.zip_nil_right,List.mem_cons,List.not_mem_nil,or_false] at hp;rcases hp with rfl|rfl|rfl|rfl|rfl<;>exact ⟨_,rfl⟩
  obtain ⟨p,hp,e⟩:=pW h;obtain ⟨k,ek⟩:=this p hp;exact ⟨k,by rw [← ek,e];rfl⟩
section
variable {K : yG}
theorem zeZ {n:Nat} (hn:19<=n) {ws:List W} {G:Hw} {Q:Q3} (h:zbn ws G Q XN):zH (yS K n) XN sO { nx:=fun _ G'=>Q .non G',rt:=Q } (yM nW ws) G:=by
 obtain ⟨w,rfl,k,h⟩:=h;have e1:(yS K n).fn[1]?=some vE:=jX 1 hn rfl;have e4:(yS K n).fn[4]?=some (dS K):=jX 4 hn rfl;have e9:(yS K n).fn[18]?=some ⟨"is_name", zbm⟩:=jX 18 hn rfl;have g3:(yS K n).gl[9]?=some (("str" : Str),.ty "str"):=rfl;have g4:(yS K n).gl[11]?=some (("tuple" : Str),.ty "tuple"):=rfl;have s1:(yS K n).sx[1]?=some ⟨mH "LENGTHS", pT cR mL⟩:=rfl;show zH (yS K n) XN sO { nx:=fun _ G'=>Q .non G',rt:=Q } [some w] G;simp only [sO];refine yQ ?_
 ((try dsimp only [zQ,zS,zM,zF,zB,yV,yU,zO,zU,zN,zT,zX,zR,zP,zJ,zL,yZ,zK,gZ,gS,tZ,tS]);try simp only [e4,g4])
 refine hJ k ?_
 have no:dW w=false->zH (yS K n) XN (.cons (.ret (.con (.bool false))) .nil) { nx:=fun _ G'=>Q .non G',rt:=Q } [some w] G:=fun e=>by
  refine yQ ?_
  (try dsimp only [zQ,zS,zM,zF,zB,yV,yU,zO,zU,zN,zT,zX,zR,zP,zJ,zL,yZ,zK,gZ,gS,tZ,tS])
  rw [e] at h;exact h G zW.refl
 by_cases ht:mW w=true
 .obtain ⟨ws,rfl⟩:∃ ws,w=.tup ws:=by cases w<;>first|exact ⟨_,rfl⟩|cases ht
  simp only [ht,qP,Bool.not_true,zzB,if_false,yK,e1,jC,jD]
  cases ws with
  |nil =>
   simp only [List.length_nil,Int.ofNat_zero,yR,decide_true,if_true];exact no rfl
  |cons x r =>
   have hz:decide (((x::r).length:Int)=0)=false:=by
    rw [decide_eq_false_iff_not];simp;omega
   simp only [yR,hz,zzB,if_false,pG,tD,g3];have kx:kn G x:=k.1;refine hG kx ?_
   by_cases hs:isStr x=true
   .obtain ⟨t,rfl⟩:∃ t,x=.str t:=by cases x<;>first|exact ⟨_,rfl⟩|cases hs
    simp only [hs,qP,Bool.not_true,zzB,if_false];refine qR ?_;refine yQ ?_
    ((try dsimp only [zQ,zS,zM,zF,zB,yV,yU,zO,zU,zN,zT,zX,zR,zP,zJ,zL,yZ,zK,gZ,gS,tZ,tS]);try simp only [pG,tD,s1,pT,yK,e1,jC,jD])
    have hl:∀ b,bD G (((cR.zip mL).lookup t).getD .non) (.int ((W.str t::r).length:Int))=some b->lenB t (r.length+1)=b:=by
     intro b hb;have hb:bD G (fF t) (.int ((W.str t::r).length:Int))=some b:=hb;unfold lenB;rcases zc9 t with ⟨k,e⟩|e
     .rw [e,yR] at hb;rw [e];exact Option.some.inj hb
     .rw [e,zdw] at hb;rw [e];exact Option.some.inj hb
    have hd:∃ b,bD G (((cR.zip mL).lookup t).getD .non) (.int ((W.str t::r).length:Int))=some b:=by
     show ∃ b,bD G (fF t) (.int ((W.str t::r).length:Int))=some b;rcases zc9 t with ⟨k,e⟩|e
     .rw [e,yR];exact ⟨_,rfl⟩
     .rw [e,zdw];exact ⟨_,rfl⟩
    obtain ⟨b,hb⟩:=hd;have hl:=hl b hb;rw [hb];have ef:dW (.tup (.str t::r))=(lenB t (r.length+1)&&(!(t == "say") || gB (r.headD .non))):=rfl
    cases b with
    |false =>
     simp only [Bool.not_false,if_true];exact no (by rw [ef,hl];rfl)
    |true =>
     simp only [Bool.not_true,zzB,if_false];refine qR ?_;refine yQ ?_
     ((try dsimp only [zQ,zS,zM,zF,zB,yV,yU,zO,zU,zN,zT,zX,zR,zP,zJ,zL,yZ,zK,gZ,gS,tZ,tS]);try simp only [pG,tD,yK,vS,e9])
     rw [ef,hl] at h
     by_cases hsay:(t == "say")=true
     .simp only [hsay,Bool.not_true,zzB,if_false];have et:=eq_of_beq hsay;subst et
      have l2:r.length+1=2:=by
       have e2:fF "say" = .int 2:=by rfl
       unfold lenB at hl;rw [e2] at hl;have:=of_decide_eq_true hl;omega
      match r,l2 with
      | [y],_ =>
       rw [cO];have ky:kn G y:=k.2.1;refine ⟨y,rfl,ky,?_⟩;rw [hsay] at h;exact h
     .simp only [Bool.not_eq_true] at hsay;simp only [hsay,Bool.not_false,if_true];rw [hsay] at h;exact h G zW.refl
   .simp only [Bool.not_eq_true] at hs;simp only [hs,qP,Bool.not_false,if_true];refine no ?_;cases x<;>first|rfl|cases hs
 .simp only [Bool.not_eq_true] at ht;simp only [ht,qP,Bool.not_false,if_true];refine no ?_;cases w<;>first|rfl|cases ht
theorem zcD {n:Nat} {ws:List W} {G:Hw} {Q:Q3} (h:hZ ws G Q XN):zH (yS K n) XN sQ { nx:=fun _ G'=>Q .non G',rt:=Q } (yM pA ws) G:=by
 obtain ⟨t,r,rfl,hr,h⟩:=h;have z0:=sz 0 (by decide);show zH (yS K n) XN sQ { nx:=fun _ G'=>Q .non G',rt:=Q } [some (.tup (.str t::r))] G;simp only [sQ];refine yQ ?_
 ((try dsimp only [zQ,zS,zM,zF,zB,yV,yU,zO,zU,zN,zT,zX,zR,zP,zJ,zL,yZ,zK,gZ,gS,tZ,tS]);try simp only [pG,tD,yK,vS,List.length_nil,z0,true_and,slR,zha])
 have h:Q (.tup (if t = "say" then [] else r)) G:=h
 by_cases hs:t = "say"
 .rw [if_pos hs] at h;rw [if_pos (by simpa using hs)];exact h
 .rw [if_neg hs] at h;rw [if_neg (by simpa using hs)];exact h
end
theorem gG:∀ (a b:List W),tT (a++b)=(tT a&&tT b)
 | [],b=>by simp [tT]
 |x::a,b=>by rw [List.cons_append,tT,tT,gG a b,Bool.and_assoc]
theorem qA:∀ (a b:List W),qZ (a++b)=qZ a+qZ b
 | [],b=>by simp [qZ]
 |x::a,b=>by rw [List.cons_append,qZ,qZ,qA a b];omega
theorem vV {G:Hw}:∀ (a b:List W),pH G (a++b)↔(pH G a/\pH G b)
 | [],b=>by simp [pH]
 |x::a,b=>by rw [List.cons_append,pH,pH,vV a b,and_assoc]
theorem mD (w:W):1<=yC w:=by cases w<;>simp [yC]
theorem vW:∀ ws:List W,ws.length<=qZ ws
 | []=>Nat.zero_le _
 |w::r=>by have:=mD w;have:=vW r;simp only [List.length_cons,qZ];omega
theorem zeY {w:W} (h:dW w=true):∃ t r,w=.tup (.str t::r):=by
 cases w with
 |tup ws =>
  cases ws with
  |nil=>cases h
  |cons x r=>cases x<;>first|exact ⟨_,_,rfl⟩|cases h
 |_=>cases h
theorem zeA {t:Str} {r:List W} (h:dW (.tup (.str t::r))=true):pI (.tup (.str t::r))=tT (vN (.str t::r)):=by
 have h:pR (.str t::r)=true:=h;rw [pI,h,okL,vN]
 by_cases hs:t = "say"
 .rw [if_pos hs,show (t == "say")=true by simpa using hs];rfl
 .rw [if_neg hs,show (t == "say")=false by simpa using hs];rfl
theorem zgl {w:W} (h:dW w=false):pI w=false:=by
 cases w with
 |tup ws =>
  have h:pR ws=false:=h;rw [pI,h];rfl
 |_=>rfl
theorem zd7 {t:Str} {r:List W}:qZ (vN (.str t::r))<yC (.tup (.str t::r)):=by
 rw [vN,yC,qZ]
 split
 .simp [qZ]
 .omega
theorem zeJ {G:Hw} {t:Str} {r:List W} (h:kn G (.tup (.str t::r))):pH G (vN (.str t::r)):=by
 rw [vN]
 split
 .trivial
 .exact h.2
section
variable {K : yG}
theorem ziR {n:Nat} (hn:21<=n) {ws:List W} {G:Hw} {Q:Q3} (h:spIs ws G Q XN):zH (yS K n) XN uP { nx:=fun _ G'=>Q .non G',rt:=Q } (yM rX ws) G:=by
 obtain ⟨w,rfl,k,hz,h⟩:=h;have e10:(yS K n).fn[19]?=some ⟨"has_form", zbn⟩:=jX 19 hn rfl;have e11:(yS K n).fn[20]?=some ⟨"sides_of", hZ⟩:=jX 20 hn rfl;have t0:(yS K n).mt[0]?=some ePop:=rfl;have t3:(yS K n).mt[4]?=some eExt:=rfl;have z1:=sz 1 (by decide);show zH (yS K n) XN uP { nx:=fun _ G'=>Q .non G',rt:=Q } [some w,none,none] G;simp only [uP];refine yQ ?_
 ((try dsimp only [zQ,zS,zM,zF,zB,yV,yU,zO,zU,zN,zT,zX,zR,zP,zJ,zL,yZ,zK,gZ,gS,tZ,tS]);try simp only [zzC,zzL,zzA,z1,true_and])
 intro p hp;refine yQ ?_;refine ⟨fun m σ G'=>∃ (ws:List W) (v:Option W),σ=[some w,some (.ref p),v]/\G' p=some (.lst ws)/\zW [] G G'/\pH G ws/\qZ ws=m/\m<=1000/\tT ws=pI w,⟨qZ [w],[w],none,rfl,zV,zW.new hp,⟨k,trivial⟩,rfl,by simpa [qZ] using hz,by simp [tT]⟩,?_⟩;rintro m σ G' ⟨ws,v,rfl,gp,kp,kw',rfl,hm,ho⟩
 ((try dsimp only [zQ,zS,zM,zF,zB,yV,yU,zO,zU,zN,zT,zX,zR,zP,zJ,zL,yZ,zK,gZ,gS,tZ,tS]);try simp only [qP,gp])
 cases hws:ws with
 |nil =>
  subst hws;simp only [List.isEmpty_nil,Bool.not_true,zzB,if_false];refine yQ ?_
  (try dsimp only [zQ,zS,zM,zF,zB,yV,yU,zO,zU,zN,zT,zX,zR,zP,zJ,zL,yZ,zK,gZ,gS,tZ,tS])
  rw [← ho] at h;exact h G' kp
 |cons y0 r0 =>
  rw [← hws];have hne:ws≠[]:=by rw [hws];simp
  obtain ⟨ini,x,rfl⟩:∃ ini x,ws=ini++[x]:=⟨ws.dropLast,ws.getLast hne,(List.dropLast_concat_getLast hne).symm⟩;have he:(ini++[x]).isEmpty=false:=by simp
  simp only [he,Bool.not_false,if_true];have kx:=(vV ini [x]).mp kw';have hgx:(ini++[x])[(ini++[x]).length-1]?=some x:=by simp
  have hoi:tT (ini++[x])=(tT ini&&pI x):=by rw [gG];simp [tT]
  have hsi:qZ (ini++[x])=qZ ini+yC x:=by rw [qA];simp [qZ]
  refine yQ ?_
  ((try dsimp only [zQ,zS,zM,zF,zB,yV,yU,zO,zU,zN,zT,zX,zR,zP,zJ,zL,yZ,zK,gZ,gS,tZ,tS]);try simp only [t0])
  refine ⟨tyL gp,?_⟩;simp only [popS,gp,hgx,List.dropLast_concat];have k1:zW [] G (put G' p (.lst ini)):=vU kp hp;have g1:(put G' p (.lst ini)) p=some (.lst ini):=zV;generalize put G' p (.lst ini)=G1 at k1 g1 ⊢;refine yQ ?_
  ((try dsimp only [zQ,zS,zM,zF,zB,yV,yU,zO,zU,zN,zT,zX,zR,zP,zJ,zL,yZ,zK,gZ,gS,tZ,tS]);try simp only [e10])
  refine ⟨x,rfl,jZ (kp0 k1) kx.2.1,fun G2 k2=>?_⟩;have g2:=k2 _ _ (by simp) g1
  cases hf:dW x with
  |false =>
   simp only [qP,Bool.not_false,if_true];refine yQ ?_
   (try dsimp only [zQ,zS,zM,zF,zB,yV,yU,zO,zU,zN,zT,zX,zR,zP,zJ,zL,yZ,zK,gZ,gS,tZ,tS])
   rw [← ho,hoi,zgl hf,Bool.and_false] at h;exact h G2 (k1.trans k2)
  |true =>
   simp only [qP,Bool.not_true,zzB,if_false];refine qR ?_;obtain ⟨t,r,rfl⟩:=zeY hf;have l1:=vW ini;have l2:=vW (vN (.str t::r));have l3:=zd7 (t:=t) (r:=r);refine yQ ?_
   ((try dsimp only [zQ,zS,zM,zF,zB,yV,yU,zO,zU,zN,zT,zX,zR,zP,zJ,zL,yZ,zK,gZ,gS,tZ,tS]);try simp only [t3,e11])
   refine ⟨tyL g2,t,r,rfl,?_,?_⟩
   .have:=vW r;have e:yC (.tup (.str t::r))=1+qZ r+1:=by simp [yC,qZ]
    omega
   .simp only [extS,g2];refine ⟨sz _ (by omega),?_⟩;refine qR ?_;refine ⟨qZ (ini++vN (.str t::r)),?_,ini++vN (.str t::r),_,rfl,zV,vU (k1.trans k2) hp,(vV _ _).mpr ⟨kx.1,zeJ kx.2.1⟩,rfl,?_,?_⟩
    .rw [hsi,qA];omega
    .rw [qA];omega
    .rw [gG,← zeA hf,← ho,hoi]
theorem gH:∀ {t:Sy},t.ok->pI t.w=true
 | .say x,h=>by
  have h:dE x=true:=h;have e:lenB "say" 2=true:=by rfl
  simp only [Sy.w,pI,pR,okL,gB,List.headD_cons,zzC,zzL,zzA,Nat.reduceAdd,e,h,Bool.or_true,Bool.and_true,Bool.true_and];rfl
 | .neg a,h=>by
  have e:lenB "not" 2=true:=by rfl
  have e':(("not" : Str) == "say")=false:=by decide +kernel
  simp only [Sy.w,pI,pR,okL,tT,zzC,zzL,zzA,Nat.reduceAdd,e,e',gH (t:=a) h];rfl
 | .two k a b,h=>by
  have e:lenB (kw k) 3=true:=by unfold kw;split<;>rfl
  have e':((kw k:Str) == "say")=false:=by unfold kw;split<;>decide +kernel
  simp only [Sy.w,pI,pR,okL,tT,zzC,zzL,zzA,Nat.reduceAdd,e,e',gH h.1,gH h.2];rfl
theorem sJ:∀ t:Sy,yC t.w<=3 * t.size
 | .say x=>by simp [Sy.w,yC,qZ,Sy.size]
 | .neg a=>by have:=sJ a;simp only [Sy.w,yC,qZ,Sy.size];omega
 | .two k a b=>by have:=sJ a;have:=sJ b;simp only [Sy.w,yC,qZ,Sy.size];omega
theorem ziA (k:Op):(kw k).length<=1000:=by unfold kw;split<;>decide +kernel
theorem zil {x:Str} (h:dE x=true):x.length<=6:=by
 unfold dE at h;simp only [Bool.and_eq_true,decide_eq_true_eq] at h;exact h.1.1.2
theorem sD {G:Hw}:∀ {t:Sy},t.ok->kn G t.w
 | .say x,h=>⟨by show ("say" : Str).length<=1000;decide +kernel,Nat.le_trans (zil h) (by decide),trivial⟩
 | .neg a,h=>⟨by show ("not" : Str).length<=1000;decide +kernel,sD (t:=a) h,trivial⟩
 | .two k a b,h=>⟨ziA k,sD h.1,sD h.2,trivial⟩
end
def isInt:W->Bool
 | .int _=>true
 | .bl _=>true
 |_=>false
theorem eqI {G:Hw} {w:W} {n:Nat} (h:(∃ k:Int,w=.int k)\/w=.non):bD G w (.int (n:Int))=some (intB w n):=by
 rcases h with ⟨k,rfl⟩|rfl
 .rw [yR];rfl
 .rw [zdw];rfl
theorem zbB {ks:List Str} {vs:List W} {x:Str} (h:∀ p∈ks.zip vs,∃ k:Int,p.2=.int k):(∃ k:Int,((ks.zip vs).lookup x).getD .non=.int k)\/((ks.zip vs).lookup x).getD .non=.non:=by
 cases e:(ks.zip vs).lookup x with
 |none=>exact .inr rfl
 |some w =>
  obtain ⟨p,hp,e⟩:=pW e;obtain ⟨k,ek⟩:=h p hp;exact .inl ⟨k,by rw [← ek,e];rfl⟩
theorem zfR (x:Str):(∃ k:Int,((gN.zip gO).lookup x).getD .non=.int k)\/((gN.zip gO).lookup x).getD .non=.non:=zbB (by
 intro p hp;simp only [gN,gO,List.zip_cons_cons,List.zip_nil_right,List.mem_cons,List.not_mem_nil,or_false] at hp;rcases hp with rfl|rfl|rfl|rfl|rfl|rfl|rfl|rfl<;>exact ⟨_,rfl⟩)
theorem zeN (x:Str):(∃ k:Int,((vT.zip pV).lookup x).getD .non=.int k)\/((vT.zip pV).lookup x).getD .non=.non:=zbB (by
 intro p hp;simp only [vT,pV,List.zip_cons_cons,List.zip_nil_right,List.mem_cons,List.not_mem_nil,or_false] at hp;rcases hp with rfl|rfl|rfl<;>exact ⟨_,rfl⟩)
theorem zhC {x:Str} {n:Nat} (h:wO x n=true):n<=2:=by
 unfold wO at h
 cases e:(gN.zip gO).lookup x with
 |none=>rw [e] at h;cases h
 |some w =>
  obtain ⟨p,hp,ew⟩:=pW e;rw [e] at h;subst ew;simp only [gN,gO,List.zip_cons_cons,List.zip_nil_right,List.mem_cons,List.not_mem_nil,or_false] at hp;rcases hp with rfl|rfl|rfl|rfl|rfl|rfl|rfl|rfl<;>(have h:=of_decide_eq_true h;omega)
theorem jV {x:Str} {r:List W} (h:wO x r.length=false):single x r=false:=by
 match r,h with
 | [],h=>exact h
 | [a],h=>simp only [single];rw [show wO x 1=false from h];rfl
 | [a,b],h=>simp only [single];rw [show wO x 2=false from h];rfl
 |a::b::c::r,_=>rfl
section
variable {K : yG}
theorem zgy {w:W} {G:Hw} {Q:Q3} (k:kn G w) (h:Q (.bl (isInt w)) G):isjS K [w,.ty "int"] G Q:=by
 cases w with
 |non=>exact kZ rfl (by rfl) h
 |bl _=>exact kZ rfl (by rfl) h
 |int _=>exact kZ rfl (by rfl) h
 |str _=>exact kZ rfl (by rfl) h
 |tup _=>exact kZ rfl (by rfl) h
 |ref p =>
  rcases k with ⟨l,e⟩|⟨l,e⟩
  .exact kZ (T' := "list") (by simp only [tyO,e]) (by rfl) h
  .exact kZ (T' := "dict") (by simp only [tyO,e]) (by rfl) h
 |_=>exact k.elim
theorem zcj {n:Nat} (hn:22<=n) {ws:List W} {G:Hw} {Q:Q3} (h:tX ws G Q XN):zH (yS K n) XN wS { nx:=fun _ G'=>Q .non G',rt:=Q } (yM qV ws) G:=by
 obtain ⟨w,rfl,k,h⟩:=h;have e1:(yS K n).fn[1]?=some vE:=jX 1 hn rfl;have e4:(yS K n).fn[4]?=some (dS K):=jX 4 hn rfl;have g9:(yS K n).gl[9]?=some (("str" : Str),.ty "str"):=rfl;have g11:(yS K n).gl[11]?=some (("tuple" : Str),.ty "tuple"):=rfl;show zH (yS K n) XN wS { nx:=fun _ G'=>Q .non G',rt:=Q } [some w] G;simp only [wS];refine yQ ?_
 ((try dsimp only [zQ,zS,zM,zF,zB,yV,yU,zO,zU,zN,zT,zX,zR,zP,zJ,zL,yZ,zK,gZ,gS,tZ,tS]);try simp only [e4,g11])
 refine hJ k ?_
 cases w with
 |tup ws =>
  simp only [mW,if_true,e1,jC,jD,yK,tU]
  cases ws with
  |nil =>
   simp only [List.length_nil];exact h
  |cons x r =>
   have hz:decide ((0:Int)<((x::r).length:Int))=true:=by
    rw [decide_eq_true_iff];simp only [List.length_cons];omega
   simp only [hz,if_true,ix0,g9];refine hG k.1 ?_;cases x<;>exact h
 |_ =>
  simp only [mW,zzB,if_false];exact h
theorem zgk {n:Nat} (hn:23<=n) {ws:List W} {G:Hw} {Q:Q3} (h:zcz ws G Q XN):zH (yS K n) XN uO { nx:=fun _ G'=>Q .non G',rt:=Q } (yM rW ws) G:=by
 obtain ⟨w,xs,rfl,k,hl,h⟩:=h;have e4:(yS K n).fn[4]?=some (dS K):=jX 4 hn rfl;have g9:(yS K n).gl[9]?=some (("str" : Str),.ty "str"):=rfl;show zH (yS K n) XN uO { nx:=fun _ G'=>Q .non G',rt:=Q } [some w,some (.tup (xs.map .str))] G;simp only [uO];refine yQ ?_
 ((try dsimp only [zQ,zS,zM,zF,zB,yV,yU,zO,zU,zN,zT,zX,zR,zP,zJ,zL,yZ,zK,gZ,gS,tZ,tS]);try simp only [e4,g9])
 refine hG k ?_
 cases w with
 |str x =>
  simp only [isStr,if_true,yK,mN];have pp:∀ ys:List Str,wW (ys.map W.str)=true:=fun ys=>by induction ys with|nil=>rfl|cons y ys ih=>simp only [zzU,wW,kX,ih];rfl
  have dd:∀ ys:List Str,wG (ys.map W.str)<=1:=fun ys=>by induction ys with|nil=>exact Nat.zero_le _|cons y ys ih=>simp only [zzU,wG,dep];omega
  have:=dd xs;refine ⟨⟨rfl,pp xs,by omega⟩,?_⟩
  have e:((xs.map W.str).any fun v=>vF v (.str x))=xs.contains x:=by
   rw [List.any_map,List.contains_eq_any_beq];congr 1
   funext y
   simp only [Function.comp,vF];exact Bool.beq_comm
  rw [if_neg zzN,e];exact h
 |_ =>
  simp only [isStr,zzB,if_false];exact h
theorem zfH {l:List W} {a:W}:uJ (l++[a]) (-1)=some a:=by
 unfold uJ;have:mK (l++[a]).length (-1)=some l.length:=by simp [mK];omega
 rw [this];show (l++[a])[l.length]?=_;simp
theorem zbX {n:Nat} (hn:24<=n) {ws:List W} {G:Hw} {Q:Q3} (h:rG ws G Q XN):zH (yS K n) XN uQ { nx:=fun _ G'=>Q .non G',rt:=Q } (yM rY ws) G:=by
 obtain ⟨x,p,r,rfl,gp,kr,zr,h⟩:=h;have e1:(yS K n).fn[1]?=some vE:=jX 1 hn rfl;have e21:(yS K n).fn[21]?=some ⟨"is_saying", spIs⟩:=jX 21 hn rfl;have e23:(yS K n).fn[23]?=some ⟨"is_one_of", zcz⟩:=jX 23 hn rfl;have g6:(yS K n).gl[6]?=some (("WORDS_OF_CONDITIONS" : Str),.tup (sM.map .str)):=rfl;have s2:(yS K n).sx[2]?=some ⟨mH "SINGLES", pT gN gO⟩:=rfl;show zH (yS K n) XN uQ { nx:=fun _ G'=>Q .non G',rt:=Q } [some (.str x),some (.ref p)] G;simp only [uQ];refine yQ ?_
 ((try dsimp only [zQ,zS,zM,zF,zB,yV,yU,zO,zU,zN,zT,zX,zR,zP,zJ,zL,yZ,zK,gZ,gS,tZ,tS]);try simp only [s2,pT,yK,e1,jC,jD,gp,eqI (zfR x)])
 have no:single x r=false->zH (yS K n) XN (.cons (.ret (.con (.bool false))) .nil) { nx:=fun _ G'=>Q .non G',rt:=Q } [some (.str x),some (.ref p)] G:=fun e=>by
  refine yQ ?_
  (try dsimp only [zQ,zS,zM,zF,zB,yV,yU,zO,zU,zN,zT,zX,zR,zP,zJ,zL,yZ,zK,gZ,gS,tZ,tS])
  rw [e] at h;exact h G zW.refl
 have eb:intB (((gN.zip gO).lookup x).getD .non) r.length=wO x r.length:=rfl;rw [eb]
 cases hb:wO x r.length with
 |false =>
  simp only [Bool.not_false,if_true];exact no (jV hb)
 |true =>
  have l2:=zhC hb;simp only [Bool.not_true,zzB,if_false];refine qR ?_;refine yQ ?_
  ((try dsimp only [zQ,zS,zM,zF,zB,yV,yU,zO,zU,zN,zT,zX,zR,zP,zJ,zL,yZ,zK,gZ,gS,tZ,tS]);try simp only [yK,e1,jC,jD,gp])
  match r,gp,kr,zr,h,no,hb,l2 with
  | [],gp,kr,zr,h,no,hb,_ =>
   simp only [List.length_nil,Int.ofNat_zero,yR];rw [show decide ((0:Int)=2)=false from rfl];simp only [zzB,if_false];refine qR ?_;refine yQ ?_
   ((try dsimp only [zQ,zS,zM,zF,zB,yV,yU,zO,zU,zN,zT,zX,zR,zP,zJ,zL,yZ,zK,gZ,gS,tZ,tS]);try simp only [yK,e1,jC,jD,gp,List.length_nil,Int.ofNat_zero,yR])
   simp only [decide_true,if_true];rw [show single x []=true from hb] at h;exact h G zW.refl
  | [a],gp,kr,zr,h,no,hb,_ =>
   have za:yC a<=1000:=by simp only [qZ] at zr;omega
   simp only [zzC,zzL,zzA,Int.ofNat_one,yR];rw [show decide ((1:Int)=2)=false from rfl];simp only [zzB,if_false];refine qR ?_;refine yQ ?_
   ((try dsimp only [zQ,zS,zM,zF,zB,yV,yU,zO,zU,zN,zT,zX,zR,zP,zJ,zL,yZ,zK,gZ,gS,tZ,tS]);try simp only [yK,e1,jC,jD,gp,zzC,zzL,zzA,Int.ofNat_one,yR])
   rw [show decide ((1:Int)=0)=false from rfl];simp only [zzB,if_false];refine fA (zG gp) ?_;rw [show uJ [a] (-1)=some a from zfH (l:=[])];simp only [e21];have e:single x [a]=pI a:=by simp only [single];rw [show wO x 1=true from hb];rfl
   rw [e] at h;exact ⟨a,rfl,kr.1,za,h⟩
  | [a,b],gp,kr,zr,h,no,hb,_ =>
   have zb:yC b<=1000:=by simp only [qZ] at zr;omega
   have e:single x [a,b]=(rZ sM a&&pI b):=by simp only [single];rw [show wO x 2=true from hb];rfl
   simp only [zzC,zzL,zzA,Nat.reduceAdd,yR];rw [show decide (((2:Nat):Int)=2)=true from rfl];simp only [if_true];refine fA (zG gp) ?_;rw [tD];simp only [e23,g6];refine ⟨a,sM,rfl,kr.1,by decide,?_⟩
   cases ha:rZ sM a with
   |false =>
    simp only [qP,Bool.not_false,if_true];exact no (by rw [e,ha];rfl)
   |true =>
    simp only [qP,Bool.not_true,zzB,if_false];refine qR ?_;refine yQ ?_
    ((try dsimp only [zQ,zS,zM,zF,zB,yV,yU,zO,zU,zN,zT,zX,zR,zP,zJ,zL,yZ,zK,gZ,gS,tZ,tS]);try simp only [yK,e1,jC,jD,gp,zzC,zzL,zzA,Nat.reduceAdd,yR])
    rw [show decide (((2:Nat):Int)=0)=false from rfl];simp only [zzB,if_false];refine fA (zG gp) ?_;rw [show uJ [a,b] (-1)=some b from zfH (l:=[a])];simp only [e21];rw [e,ha,Bool.true_and] at h;exact ⟨b,rfl,kr.2.1,zb,h⟩
theorem zb5 {n:Nat} (hn:27<=n) {ws:List W} {G:Hw} {Q:Q3} (h:rF ws G Q XN):zH (yS K n) XN uN { nx:=fun _ G'=>Q .non G',rt:=Q } (yM rV ws) G:=by
 obtain ⟨w,rfl,k,h⟩:=h;have e4:(yS K n).fn[4]?=some (dS K):=jX 4 hn rfl;have g7:(yS K n).gl[7]?=some (("GREATEST_NUMBER" : Str),.int 999):=rfl;have g8:(yS K n).gl[8]?=some (("bool" : Str),.ty "bool"):=rfl;have g10:(yS K n).gl[10]?=some (("int" : Str),.ty "int"):=rfl;show zH (yS K n) XN uN { nx:=fun _ G'=>Q .non G',rt:=Q } [some w] G;simp only [uN];refine yQ ?_
 ((try dsimp only [zQ,zS,zM,zF,zB,yV,yU,zO,zU,zN,zT,zX,zR,zP,zJ,zL,yZ,zK,gZ,gS,tZ,tS]);try simp only [e4,g10])
 refine zgy k ?_
 cases w with
 |int i =>
  simp only [isInt,if_true,g8];refine kZ (T' := "int") (b:=false) rfl (by rfl) ?_;simp only [Bool.not_false,if_true,yK,leR,g7];have h:Q (.bl (decide (0<=i)&&decide (i<=999))) G:=h
  cases hi:decide ((0:Int)<=i) with
  |true=>rw [hi] at h;simp only [if_true];exact h
  |false=>rw [hi] at h;simp only [zzB,if_false];exact h
 |bl b =>
  simp only [isInt,if_true,g8];refine kZ (T' := "bool") (b:=true) rfl (by rfl) ?_;simp only [Bool.not_true,zzB,if_false];exact h
 |_ =>
  simp only [isInt,zzB,if_false];exact h
end
theorem rM:∀ (a b:List W),yF (a++b)=(yF a&&yF b)
 | [],b=>by simp [yF]
 |x::a,b=>by rw [List.cons_append,yF,yF,rM a b,Bool.and_assoc]
theorem zdS {w:W} (h:begB w=true):∃ t r,w=.tup (.str t::r):=by
 cases w with
 |tup ws =>
  cases ws with
  |nil=>cases h
  |cons x r=>cases x<;>first|exact ⟨_,_,rfl⟩|cases h
 |_=>cases h
theorem zff {w:W} (h:begB w=false):yO w=false:=by
 cases w with
 |tup ws =>
  rw [yO]
  cases ws with
  |nil=>rfl
  |cons x r=>cases x<;>first|rfl|cases h
 |_=>rfl
theorem zfe {w:W} (h:begB w=false):xA w=false:=by
 cases w with
 |tup ws =>
  cases ws with
  |nil=>rfl
  |cons x r=>cases x<;>first|rfl|cases h
 |_=>rfl
theorem xQ {t:Str} {r:List W}:yO (.tup (.str t::r))=((yE t r.length&&yF r) || (!yE t r.length&&single t r)):=by rw [yO,zi7]
section
variable {K : yG}
theorem zca {n:Nat} (hn:25<=n) {ws:List W} {G:Hw} {Q:Q3} (h:rD ws G Q XN):zH (yS K n) XN qJ { nx:=fun _ G'=>Q .non G',rt:=Q } (yM vM ws) G:=by
 obtain ⟨w,rfl,k,hz,h⟩:=h;have e1:(yS K n).fn[1]?=some vE:=jX 1 hn rfl;have e22:(yS K n).fn[22]?=some ⟨"begins_with_text", tX⟩:=jX 22 hn rfl;have e24:(yS K n).fn[24]?=some ⟨"is_single", rG⟩:=jX 24 hn rfl;have t0:(yS K n).mt[0]?=some ePop:=rfl;have t4:(yS K n).mt[4]?=some eExt:=rfl;have s3:(yS K n).sx[3]?=some ⟨mH "JOINED", pT vT pV⟩:=rfl;have z1:=sz 1 (by decide);show zH (yS K n) XN qJ { nx:=fun _ G'=>Q .non G',rt:=Q } [some w,none,none,none,none] G;simp only [qJ];refine yQ ?_
 ((try dsimp only [zQ,zS,zM,zF,zB,yV,yU,zO,zU,zN,zT,zX,zR,zP,zJ,zL,yZ,zK,gZ,gS,tZ,tS]);try simp only [zzC,zzL,zzA,z1,true_and])
 intro p hp;refine yQ ?_;refine ⟨fun m σ G'=>∃ (ws:List W) (v2 v3 v4:Option W),σ=[some w,some (.ref p),v2,v3,v4]/\G' p=some (.lst ws)/\zW [] G G'/\pH G ws/\qZ ws=m/\m<=1000/\yF ws=yO w,⟨qZ [w],[w],none,none,none,rfl,zV,zW.new hp,⟨k,trivial⟩,rfl,by simpa [qZ] using hz,by simp [yF]⟩,?_⟩;rintro m σ G' ⟨ws,v2,v3,v4,rfl,gp,kp,kw',rfl,hm,ho⟩
 ((try dsimp only [zQ,zS,zM,zF,zB,yV,yU,zO,zU,zN,zT,zX,zR,zP,zJ,zL,yZ,zK,gZ,gS,tZ,tS]);try simp only [qP,gp])
 cases hws:ws with
 |nil =>
  subst hws;simp only [List.isEmpty_nil,Bool.not_true,zzB,if_false];refine yQ ?_
  (try dsimp only [zQ,zS,zM,zF,zB,yV,yU,zO,zU,zN,zT,zX,zR,zP,zJ,zL,yZ,zK,gZ,gS,tZ,tS])
  rw [← ho] at h;exact h G' kp
 |cons y0 r0 =>
  rw [← hws];have hne:ws≠[]:=by rw [hws];simp
  obtain ⟨ini,x,rfl⟩:∃ ini x,ws=ini++[x]:=⟨ws.dropLast,ws.getLast hne,(List.dropLast_concat_getLast hne).symm⟩;have he:(ini++[x]).isEmpty=false:=by simp
  simp only [he,Bool.not_false,if_true];have kx:=(vV ini [x]).mp kw';have hgx:(ini++[x])[(ini++[x]).length-1]?=some x:=by simp
  have hoi:yF (ini++[x])=(yF ini&&yO x):=by rw [rM];simp [yF]
  have hsi:qZ (ini++[x])=qZ ini+yC x:=by rw [qA];simp [qZ]
  refine yQ ?_
  ((try dsimp only [zQ,zS,zM,zF,zB,yV,yU,zO,zU,zN,zT,zX,zR,zP,zJ,zL,yZ,zK,gZ,gS,tZ,tS]);try simp only [t0])
  refine ⟨tyL gp,?_⟩;simp only [popS,gp,hgx,List.dropLast_concat];have k1:zW [] G (put G' p (.lst ini)):=vU kp hp;have g1:(put G' p (.lst ini)) p=some (.lst ini):=zV;generalize put G' p (.lst ini)=G1 at k1 g1 ⊢
  have no:∀ (G2:Hw) (v3 v4:Option W) (nx bk ct:qK->Hw->Prop),yO x=false->zW [] G G2->zH (yS K n) XN (.cons (.ret (.con (.bool false))) .nil) { nx:=nx,rt:=Q,bk:=bk,ct:=ct } [some w,some (.ref p),some x,v3,v4] G2:=fun G2 v3 v4 nx bk ct e k2=>by
   refine yQ ?_
   (try dsimp only [zQ,zS,zM,zF,zB,yV,yU,zO,zU,zN,zT,zX,zR,zP,zJ,zL,yZ,zK,gZ,gS,tZ,tS])
   rw [← ho,hoi,e,Bool.and_false] at h;exact h G2 k2
  refine yQ ?_
  ((try dsimp only [zQ,zS,zM,zF,zB,yV,yU,zO,zU,zN,zT,zX,zR,zP,zJ,zL,yZ,zK,gZ,gS,tZ,tS]);try simp only [e22])
  refine ⟨x,rfl,jZ (kp0 k1) kx.2.1,?_⟩
  cases hf:begB x with
  |false =>
   simp only [qP,Bool.not_false,if_true];exact no G1 _ _ _ _ _ (zff hf) k1
  |true =>
   simp only [qP,Bool.not_true,zzB,if_false];refine qR ?_;obtain ⟨t,r,rfl⟩:=zdS hf;have l1:=vW ini;have l2:=vW r;have e:yC (.tup (.str t::r))=1+qZ r+1:=by simp [yC,qZ]
   refine yQ ?_
   (try dsimp only [zQ,zS,zM,zF,zB,yV,yU,zO,zU,zN,zT,zX,zR,zP,zJ,zL,yZ,zK,gZ,gS,tZ,tS])
   refine ⟨by omega,fun q hq=>?_⟩;have hqp:p≠q:=fun z=>by rw [z,hq] at g1;cases g1
   have k2:zW [] G1 (put G1 q (.lst r)):=zW.new hq;have g2:(put G1 q (.lst r)) q=some (.lst r):=zV;have gp2:(put G1 q (.lst r)) p=some (.lst ini):=k2 _ _ (by simp) g1;generalize put G1 q (.lst r)=G2 at k2 g2 gp2 ⊢;refine yQ ?_
   ((try dsimp only [zQ,zS,zM,zF,zB,yV,yU,zO,zU,zN,zT,zX,zR,zP,zJ,zL,yZ,zK,gZ,gS,tZ,tS]);try simp only [s3,pT,yK,e1,jC,jD,g2,eqI (zeN t)])
   rw [show intB (((vT.zip pV).lookup t).getD .non) r.length=yE t r.length from rfl]
   cases hj:yE t r.length with
   |true =>
    have ec:yO (.tup (.str t::r))=yF r:=by rw [xQ,hj];simp
    simp only [if_true];refine yQ ?_
    ((try dsimp only [zQ,zS,zM,zF,zB,yV,yU,zO,zU,zN,zT,zX,zR,zP,zJ,zL,yZ,zK,gZ,gS,tZ,tS]);try simp only [t4])
    refine ⟨tyL gp2,ini,r,gp2,zG g2,sz _ (by omega),?_⟩;refine qR (Γ:=yS K n) (E:=XN) (qR (Γ:=yS K n) (E:=XN) ?_);refine ⟨qZ (ini++r),?_,ini++r,_,_,_,rfl,zV,vU (k1.trans k2) hp,(vV _ _).mpr ⟨kx.1,kx.2.1.2⟩,rfl,?_,?_⟩
    .rw [hsi,qA];omega
    .rw [qA];omega
    .rw [rM,← ec,← ho,hoi]
   |false =>
    have ec:yO (.tup (.str t::r))=single t r:=by rw [xQ,hj];simp
    simp only [zzB,if_false];refine yQ ?_
    ((try dsimp only [zQ,zS,zM,zF,zB,yV,yU,zO,zU,zN,zT,zX,zR,zP,zJ,zL,yZ,zK,gZ,gS,tZ,tS]);try simp only [e24])
    refine ⟨t,q,r,rfl,g2,(jZ (kp0 (k1.trans k2)) kx.2.1:kn G2 (.tup (.str t::r))).2,by omega,fun G3 k3=>?_⟩;have gp3:=k3 _ _ (by simp) gp2
    cases hs:single t r with
    |false =>
     simp only [qP,Bool.not_false,if_true];exact no G3 _ _ _ _ _ (by rw [ec,hs]) (k1.trans (k2.trans k3))
    |true =>
     simp only [qP,Bool.not_true,zzB,if_false];refine qR (Γ:=yS K n) (E:=XN) (qR (Γ:=yS K n) (E:=XN) (qR (Γ:=yS K n) (E:=XN) ?_));refine ⟨qZ ini,?_,ini,_,_,_,rfl,gp3,k1.trans (k2.trans k3),kx.1,rfl,?_,?_⟩
     .rw [hsi];have:=mD (.tup (.str t::r));omega
     .omega
     .rw [← ho,hoi,ec,hs,Bool.and_true]
theorem zdy {n:Nat} (hn:26<=n) {ws:List W} {G:Hw} {Q:Q3} (h:hW ws G Q XN):zH (yS K n) XN sP { nx:=fun _ G'=>Q .non G',rt:=Q } (yM nX ws) G:=by
 obtain ⟨p,r,rfl,gp,kr,zr,h⟩:=h;have e1:(yS K n).fn[1]?=some vE:=jX 1 hn rfl;have e21:(yS K n).fn[21]?=some ⟨"is_saying", spIs⟩:=jX 21 hn rfl;have e23:(yS K n).fn[23]?=some ⟨"is_one_of", zcz⟩:=jX 23 hn rfl;have g5:(yS K n).gl[5]?=some (("WORDS_OF_DEEDS" : Str),.tup (kI.map .str)):=rfl;have l1:=vW r;show zH (yS K n) XN sP { nx:=fun _ G'=>Q .non G',rt:=Q } [some (.ref p)] G;simp only [sP];refine yQ ?_
 ((try dsimp only [zQ,zS,zM,zF,zB,yV,yU,zO,zU,zN,zT,zX,zR,zP,zJ,zL,yZ,zK,gZ,gS,tZ,tS]);try simp only [yK,e1,jC,jD,gp])
 have no:jB r=false->zH (yS K n) XN (.cons (.ret (.con (.bool false))) .nil) { nx:=fun _ G'=>Q .non G',rt:=Q } [some (.ref p)] G:=fun e=>by
  refine yQ ?_
  (try dsimp only [zQ,zS,zM,zF,zB,yV,yU,zO,zU,zN,zT,zX,zR,zP,zJ,zL,yZ,zK,gZ,gS,tZ,tS])
  rw [e] at h;exact h G zW.refl
 cases r with
 |nil =>
  simp only [List.length_nil,Int.ofNat_zero,yR,decide_true,if_true];exact no rfl
 |cons a r =>
  have hz:decide (((a::r).length:Int)=0)=false:=by
   rw [decide_eq_false_iff_not];simp only [List.length_cons];omega
  simp only [yR,hz,zzB,if_false];refine fA (zG gp) ?_;rw [tD];simp only [e23,g5];refine ⟨a,kI,rfl,kr.1,by decide,?_⟩
  cases ha:rZ kI a with
  |false =>
   simp only [qP,Bool.not_false,if_true];refine no ?_
   cases r with
   |nil=>exact ha
   |cons b r =>
    cases r with
    |nil=>simp only [jB,ha];rfl
    |cons c r=>rfl
  |true =>
   simp only [qP,Bool.not_true,zzB,if_false];refine qR ?_;refine yQ ?_
   ((try dsimp only [zQ,zS,zM,zF,zB,yV,yU,zO,zU,zN,zT,zX,zR,zP,zJ,zL,yZ,zK,gZ,gS,tZ,tS]);try simp only [yK,e1,jC,jD,gp])
   cases r with
   |nil =>
    simp only [zzC,zzL,zzA,Int.ofNat_one,yR,decide_true,if_true];rw [show jB [a]=true from ha] at h;exact h G zW.refl
   |cons b r =>
    have h1:decide (((a::b::r).length:Int)=1)=false:=by
     rw [decide_eq_false_iff_not];simp only [List.length_cons];omega
    simp only [yR,h1,zzB,if_false]
    cases r with
    |nil =>
     simp only [zzC,zzL,zzA,Nat.reduceAdd];rw [show decide (((2:Nat):Int)=2)=true from rfl];simp only [if_true];refine fA (zG gp) ?_;rw [cO];simp only [e21];rw [show jB [a,b]=pI b by simp only [jB,ha];rfl] at h;exact ⟨b,rfl,kr.2.1,by simp only [qZ] at zr;omega,h⟩
    |cons c r =>
     have h2:decide (((a::b::c::r).length:Int)=2)=false:=by
      rw [decide_eq_false_iff_not];simp only [List.length_cons];omega
     simp only [h2,zzB,if_false];rw [show jB (a::b::c::r)=false from rfl] at h;exact h G zW.refl
theorem zb9 {n:Nat} (hn:28<=n) {ws:List W} {G:Hw} {Q:Q3} (h:rE ws G Q XN):zH (yS K n) XN pM { nx:=fun _ G'=>Q .non G',rt:=Q } (yM gC ws) G:=by
 obtain ⟨w,rfl,k,hz,h⟩:=h;have e1:(yS K n).fn[1]?=some vE:=jX 1 hn rfl;have e21:(yS K n).fn[21]?=some ⟨"is_saying", spIs⟩:=jX 21 hn rfl;have e22:(yS K n).fn[22]?=some ⟨"begins_with_text", tX⟩:=jX 22 hn rfl;have e26:(yS K n).fn[26]?=some ⟨"is_doubt", hW⟩:=jX 26 hn rfl;have e27:(yS K n).fn[27]?=some ⟨"is_number", rF⟩:=jX 27 hn rfl;show zH (yS K n) XN pM { nx:=fun _ G'=>Q .non G',rt:=Q } [some w,none,none] G;simp only [pM];refine yQ ?_
 ((try dsimp only [zQ,zS,zM,zF,zB,yV,yU,zO,zU,zN,zT,zX,zR,zP,zJ,zL,yZ,zK,gZ,gS,tZ,tS]);try simp only [e22])
 refine ⟨w,rfl,k,?_⟩
 cases hf:begB w with
 |false =>
  simp only [qP,Bool.not_false,if_true];refine yQ ?_
  (try dsimp only [zQ,zS,zM,zF,zB,yV,yU,zO,zU,zN,zT,zX,zR,zP,zJ,zL,yZ,zK,gZ,gS,tZ,tS])
  rw [zfe hf] at h;exact h G zW.refl
 |true =>
  simp only [qP,Bool.not_true,zzB,if_false];refine qR ?_;obtain ⟨t,r,rfl⟩:=zdS hf;have e:yC (.tup (.str t::r))=1+qZ r+1:=by simp [yC,qZ]
  have l2:=vW r;refine yQ ?_
  (try dsimp only [zQ,zS,zM,zF,zB,yV,yU,zO,zU,zN,zT,zX,zR,zP,zJ,zL,yZ,zK,gZ,gS,tZ,tS])
  refine ⟨by omega,fun q hq=>?_⟩;have k2:zW [] G (put G q (.lst r)):=zW.new hq;have g2:(put G q (.lst r)) q=some (.lst r):=zV;generalize put G q (.lst r)=G2 at k2 g2 ⊢;have h:=h.keep k2;have kr:pH G2 r:=(jZ (kp0 k2) k:kn G2 (.tup (.str t::r))).2;have h:Bl (tH t r) G2 Q:=h;unfold tH at h;refine yQ ?_
  ((try dsimp only [zQ,zS,zM,zF,zB,yV,yU,zO,zU,zN,zT,zX,zR,zP,zJ,zL,yZ,zK,gZ,gS,tZ,tS]);try simp only [yK,vS])
  cases ha:(t==("answer" : Str)) with
  |true =>
   rw [ha,if_pos rfl] at h;simp only [if_true];refine yQ ?_
   ((try dsimp only [zQ,zS,zM,zF,zB,yV,yU,zO,zU,zN,zT,zX,zR,zP,zJ,zL,yZ,zK,gZ,gS,tZ,tS]);try simp only [yK,e1,jC,jD,g2])
   cases r with
   |nil =>
    simp only [List.length_nil,Int.ofNat_zero,yR];rw [show decide ((0:Int)=1)=false from rfl];simp only [zzB,if_false];exact h G2 zW.refl
   |cons a r =>
    cases r with
    |nil =>
     simp only [zzC,zzL,zzA,Int.ofNat_one,yR,decide_true,if_true];refine fA (zG g2) ?_;rw [tD];simp only [e21];exact ⟨a,rfl,kr.1,by simp only [qZ] at e;omega,h⟩
    |cons b r =>
     have h1:decide (((a::b::r).length:Int)=1)=false:=by
      rw [decide_eq_false_iff_not];simp only [List.length_cons];omega
     simp only [yR,h1,zzB,if_false];exact h G2 zW.refl
  |false =>
   rw [ha,if_neg zzN] at h;simp only [zzB,if_false];refine qR ?_;refine yQ ?_
   ((try dsimp only [zQ,zS,zM,zF,zB,yV,yU,zO,zU,zN,zT,zX,zR,zP,zJ,zL,yZ,zK,gZ,gS,tZ,tS]);try simp only [yK,vS])
   cases hd:(t==("doubt" : Str)) with
   |true =>
    rw [hd,if_pos rfl] at h;simp only [if_true];refine yQ ?_
    ((try dsimp only [zQ,zS,zM,zF,zB,yV,yU,zO,zU,zN,zT,zX,zR,zP,zJ,zL,yZ,zK,gZ,gS,tZ,tS]);try simp only [e26])
    exact ⟨q,r,rfl,g2,kr,by omega,h⟩
   |false =>
    rw [hd,if_neg zzN] at h;simp only [zzB,if_false];refine qR ?_;refine yQ ?_
    ((try dsimp only [zQ,zS,zM,zF,zB,yV,yU,zO,zU,zN,zT,zX,zR,zP,zJ,zL,yZ,zK,gZ,gS,tZ,tS]);try simp only [yK,vS])
    cases hm:(t==("move" : Str)) with
    |false =>
     rw [hm] at h;simp only [zzB,if_false];exact h G2 zW.refl
    |true =>
     rw [hm,Bool.true_and] at h;simp only [if_true,e1,jC,jD,g2]
     cases r with
     |nil =>
      simp only [List.length_nil,Int.ofNat_zero,yR];rw [show decide ((0:Int)=1)=false from rfl];simp only [zzB,if_false];exact h G2 zW.refl
     |cons a r =>
      cases r with
      |nil =>
       simp only [zzC,zzL,zzA,Int.ofNat_one,yR,decide_true,if_true];refine fA (zG g2) ?_;rw [tD];simp only [e27];exact ⟨a,rfl,kr.1,h G2 zW.refl⟩
      |cons b r =>
       have h1:decide (((a::b::r).length:Int)=1)=false:=by
        rw [decide_eq_false_iff_not];simp only [List.length_cons];omega
       simp only [yR,h1,zzB,if_false];exact h G2 zW.refl
end
theorem zdd {G:Hw}:∀ {ws:List W},pH G ws->∀ w∈ws,kn G w
 |_::_,h,w,hw=>by
  rcases List.mem_cons.mp hw with rfl|hw
  .exact h.1
  .exact zdd h.2 w hw
theorem zdc {G:Hw}:∀ {ws:List W},(∀ w∈ws,kn G w)->pH G ws
 | [],_=>trivial
 |_::_,h=>⟨h _ zzT,zdc fun w hw=>h w (List.mem_cons_of_mem _ hw)⟩
section
variable {K : yG}
theorem zfV {n:Nat} (hn:29<=n) {ws:List W} {G:Hw} {Q:Q3} (h:zeb ws G Q XN):zH (yS K n) XN gX { nx:=fun _ G'=>Q .non G',rt:=Q } (yM zaR ws) G:=by
 obtain ⟨w,rfl,k,hz,h⟩:=h;have e1:(yS K n).fn[1]?=some vE:=jX 1 hn rfl;have e4:(yS K n).fn[4]?=some (dS K):=jX 4 hn rfl;have e25:(yS K n).fn[25]?=some ⟨"is_condition", rD⟩:=jX 25 hn rfl;have e28:(yS K n).fn[28]?=some ⟨"is_deed", rE⟩:=jX 28 hn rfl;have g11:(yS K n).gl[11]?=some (("tuple" : Str),.ty "tuple"):=rfl;show zH (yS K n) XN gX { nx:=fun _ G'=>Q .non G',rt:=Q } [some w] G;simp only [gX];refine yQ ?_
 ((try dsimp only [zQ,zS,zM,zF,zB,yV,yU,zO,zU,zN,zT,zX,zR,zP,zJ,zL,yZ,zK,gZ,gS,tZ,tS]);try simp only [e4,g11])
 refine hJ k ?_
 cases w with
 |tup ws =>
  simp only [mW,if_true,e1,jC,jD,yK,yR]
  have no:decide ((ws.length:Int)=2)=false->sB (.tup ws)=false:=by
   intro e;have e:=of_decide_eq_false e
   match ws,e with
   | [],_=>rfl
   | [_],_=>rfl
   | [_,_],e=>exact absurd rfl e
   |_::_::_::_,_=>rfl
  cases hl:decide ((ws.length:Int)=2) with
  |false =>
   simp only [zzB,if_false];rw [no hl] at h;exact h G zW.refl
  |true =>
   have hl:=of_decide_eq_true hl;simp only [if_true]
   match ws,hl,k,hz,h with
   | [c,e],_,k,hz,h =>
    have h:Bl (yO c&&xA e) G Q:=h;simp only [ix0,e25];refine ⟨c,rfl,k.1,hz c zzT,fun G1 k1=>?_⟩
    cases hc:yO c with
    |false =>
     rw [hc] at h;simp only [zzB,if_false];exact h G1 k1
    |true =>
     rw [hc,Bool.true_and] at h;simp only [if_true,ix1,e28];exact ⟨e,rfl,jZ (kp0 k1) k.2.1,hz e (List.mem_cons_of_mem _ zzT),h.keep k1⟩
 |_ =>
  simp only [mW,zzB,if_false];exact h G zW.refl
theorem zeq {n:Nat} (hn:30<=n) {ws:List W} {G:Hw} {Q:Q3} (h:zbl ws G Q XN):zH (yS K n) XN vR { nx:=fun _ G'=>Q .non G',rt:=Q } (yM tQ ws) G:=by
 obtain ⟨w,rfl,P,h⟩:=h;have k:=P.kn;have e2:(yS K n).fn[2]?=some eAll:=jX 2 hn rfl;have e4:(yS K n).fn[4]?=some (dS K):=jX 4 hn rfl;have e29:(yS K n).fn[29]?=some ⟨"is_row", zeb⟩:=jX 29 hn rfl;have g11:(yS K n).gl[11]?=some (("tuple" : Str),.ty "tuple"):=rfl;show zH (yS K n) XN vR { nx:=fun _ G'=>Q .non G',rt:=Q } [some w] G;simp only [vR];refine yQ ?_
 ((try dsimp only [zQ,zS,zM,zF,zB,yV,yU,zO,zU,zN,zT,zX,zR,zP,zJ,zL,yZ,zK,gZ,gS,tZ,tS]);try simp only [e4,g11])
 refine hJ k ?_
 cases w with
 |tup rs =>
  have few:rs.length<=40:=P.few;simp only [mW,if_true,e2,kJ];refine ⟨fun i acc G'=>acc=(rs.take i).map (fun r=>W.bl (sB r))/\zW [] G G',⟨rfl,zW.refl⟩,?_,sz _ (by omega),?_,?_⟩
  .rintro i acc G' ⟨rfl,_⟩ hi;exact ⟨trivial,by simp;omega⟩
  .rintro i r acc G' hr ⟨rfl,k1⟩;have hm:=List.mem_of_getElem? hr;simp only [dN,List.replicate,zzU,zzV,List.cons_append,List.nil_append,List.append_nil,gZ,gS,List.length_cons,List.length_nil]
   ((try dsimp only [zQ,zS,zM,zF,zB,yV,yU,zO,zU,zN,zT,zX,zR,zP,zJ,zL,yZ,zK,gZ,gS,tZ,tS]);try simp only [if_true,e29])
   refine ⟨r,rfl,jZ (kp0 k1) (zdd k r hm),P.sz r hm,fun G2 k2=>⟨?_,k1.trans k2⟩⟩;rw [List.take_succ,hr];simp
  .rintro acc G' ⟨rfl,k1⟩ q hq;rw [List.take_length];refine ⟨rs.map sB,?_,?_⟩
   .rw [zG zV,List.map_map];rfl
   .have e:rB (.tup rs)=(rs.map sB).all id:=by
     simp only [rB,List.all_map];rfl
    rw [e] at h;exact h _ (k1.trans (zW.new hq))
 |_ =>
  simp only [mW,zzB,if_false];exact h G zW.refl
theorem zd5 {n:Nat} (hn:31<=n) {ws:List W} {G:Hw} {Q:Q3} (h:zbk ws G Q XN):zH (yS K n) XN uM { nx:=fun _ G'=>Q .non G',rt:=Q } (yM rS ws) G:=by
 obtain ⟨w,b,rfl,P,hb,h⟩:=h;have e4:(yS K n).fn[4]?=some (dS K):=jX 4 hn rfl;have e30:(yS K n).fn[30]?=some ⟨"is_program", zbl⟩:=jX 30 hn rfl;have g8:(yS K n).gl[8]?=some (("bool" : Str),.ty "bool"):=rfl;show zH (yS K n) XN uM { nx:=fun _ G'=>Q .non G',rt:=Q } [some w,some (.bl b),none] G;simp only [uM];refine yQ ?_
 ((try dsimp only [zQ,zS,zM,zF,zB,yV,yU,zO,zU,zN,zT,zX,zR,zP,zJ,zL,yZ,zK,gZ,gS,tZ,tS]);try simp only [e30])
 refine ⟨w,rfl,P,fun G1 k1=>?_⟩;refine yQ ?_
 ((try dsimp only [zQ,zS,zM,zF,zB,yV,yU,zO,zU,zN,zT,zX,zR,zP,zJ,zL,yZ,zK,gZ,gS,tZ,tS]);try simp only [e4,g8])
 refine kZ (T' := "bool") (b:=true) rfl (by rfl) ?_;simp only [if_true,yK,zi1,hb,beq_self_eq_true];exact h G1 k1
end
def dG (P:Hw->W->Prop) (G:Hw) (p:Addr) (n:Nat):Prop:=∃ xs,G p=some (.lst xs)/\xs.length=n/\∀ x∈xs,P G x
def pL (P:Hw->W->Prop):Prop:=∀ G G' x,zW [] G G'->P G x->P G' x
theorem zgp {P:Hw->W->Prop} (mono:pL P) {G:Hw} {ws:List W} {Q:W->Hw->Prop} (a:∀ x∈ws,P G x) (h:∀ p G',zW [] G G'->G p=none->dG P G' p ws.length->Q (.ref p) G'):∀ p,G p=none->Q (.ref p) (put G p (.lst ws)):=fun p hp =>
 h p _ (zW.new hp) hp ⟨ws,zV,rfl,fun x hx=>mono _ _ x (zW.new hp) (a x hx)⟩
theorem kM {P:Hw->W->Prop} (mono:pL P) {G:Hw} {p:Addr} {n:Nat} {ws:List W} {Q:Q3} (m:dG P G p n) (a:∀ x∈ws,P G x) (hl:n+ws.length<=3000) (h:∀ q G',zW [] G G'->G q=none->dG P G' q (n+ws.length)->Q (.ref q) G'):∀ q,G q=none->jS .Add (.ref p) (.ref q) (put G q (.lst ws)) Q:=by
 intro q hq;obtain ⟨xs,g,rfl,b⟩:=m;have k1:zW [] G (put G q (.lst ws)):=zW.new hq;refine addL (k1 _ _ (by simp) g) zV hl fun r hr=>?_;have k2:=k1.trans (zW.new (o:=.lst (xs++ws)) hr);refine h r _ k2 (k1.none (by simp) hr) ⟨xs++ws,zV,by simp,fun x hx=>mono _ _ x k2 ?_⟩;rcases List.mem_append.mp hx with hx|hx
 .exact b x hx
 .exact a x hx
theorem hR {G G':Hw} {w:W} (k:zW [] G G') (h:kn G w):kn G' w:=jZ (kp0 k) h
theorem NoS.mono:pL NoS:=fun _ _ _ k h=>⟨h.ok,h.cd,hR k h.kn,h.sz⟩
theorem NoC.mono {c:W}:pL fun G w=>NoC G c w:=fun _ _ _ k h=>⟨h.cd,hR k h.kn,h.sz⟩
theorem NoD.mono:pL NoD:=fun _ _ _ k h=>⟨h.dd,hR k h.kn,h.sz⟩
section
variable {G : Hw}
theorem sV {x:W} (h:pI x=false) (c:yO x=false) (k:kn G x) (s:yC x=1):NoS G x:=⟨h,c,k,by omega⟩
theorem zbv {s:Str} {r:List W} (h:lenB s (r.length+1)=false) (hj:yE s r.length=false) (hg:wO s r.length=false) (hs:s.length<=1000) (k:pH G r) (z:qZ r<=58):NoS G (.tup (.str s::r)):=by
 refine ⟨?_,?_,⟨hs,k⟩,?_⟩
 .rw [pI,pR,h];rfl
 .rw [xQ,hj,jV hg];rfl
 .rw [yC,qZ,show yC (.str s)=1 from rfl];omega
theorem nZ {x:W} (h:gB x=false) (k:kn G x) (z:yC x=1):NoS G (.tup [.str "say", x]):=by
 refine ⟨?_,?_,⟨by show ("say" : Str).length<=1000;decide +kernel,k,trivial⟩,?_⟩
 .rw [pI,pR];show ((_&&(!(("say" : Str) == "say") || gB x))&&_)=false;rw [h,beq_self_eq_true];simp
 .rw [xQ,jV (r:=[x]) (show wO "say" 1=false by decide +kernel),show yE "say" ([x].length)=false from by show yE "say" 1=false;decide +kernel];rfl
 .simp only [yC,qZ,z];omega
theorem xL {x:Str} (h:x.length<=1000):kn G (.str x):=h
end
section
variable {K : yG}
theorem zah {n:Nat} (hn:32<=n) {ws:List W} {G:Hw} {Q:Q3} (h:kU ws G Q XN):zH (yS K n) XN jP { nx:=fun _ G'=>Q .non G',rt:=Q } (yM qE ws) G:=by
 obtain ⟨d,l,t,rfl,D,ok,ts,h⟩:=h;have e3:(yS K n).fn[3]?=some eLst:=jX 3 hn rfl;have e9:(yS K n).fn[9]?=some uE:=jX 9 hn rfl;have z0:=sz 0 (by decide);have z1:=sz 1 (by decide);have z2:=sz 2 (by decide);have z3:=sz 3 (by decide);have z4:=sz 4 (by decide);have z5:=sz 5 (by decide);have z9:=sz 9 (by decide);have st:=sJ t;have kt:∀ G,kn G t.w:=fun G=>sD ok;show zH (yS K n) XN jP { nx:=fun _ G'=>Q .non G',rt:=Q } [some (.ref d),some t.w,none] G;simp only [jP];refine yQ ?_
 ((try dsimp only [zQ,zS,zM,zF,zB,yV,yU,zO,zU,zN,zT,zX,zR,zP,zJ,zL,yZ,zK,gZ,gS,tZ,tS]);try simp only [zzC,zzL,zzA,Nat.reduceAdd,z2,z5,true_and])
 refine zgp (Q:=fun w G1=>zH (yS K n) XN _ _ [some (.ref d),some t.w,some w] G1) NoS.mono (zZ (nZ (by decide +kernel) (xL (by decide +kernel)) rfl) (zZ (nZ (by decide +kernel) (xL (by decide +kernel)) rfl) (zZ (nZ (by decide +kernel) (xL (by decide +kernel)) rfl) (zZ (nZ (by decide +kernel) (xL (by decide +kernel)) rfl) (zZ (nZ rfl trivial rfl) zD))))) fun p1 G1 k1 hp1 m1=>?_;refine yQ ?_
 ((try dsimp only [zQ,zS,zM,zF,zB,yV,yU,zO,zU,zN,zT,zX,zR,zP,zJ,zL,yZ,zK,gZ,gS,tZ,tS]);try simp only [zzC,zzL,zzA,Nat.reduceAdd,z0,z1,z2,z9,true_and])
 intro pa ha;have ka:zW [] G1 (put G1 pa (.lst [.str "say", .str "a"])):=zW.new ha;have ga:(put G1 pa (.lst [.str "say", .str "a"])) pa=some (.lst [.str "say", .str "a"]):=zV;generalize put G1 pa (.lst [.str "say", .str "a"])=Ga at ka ga ⊢
 have ma:dG NoS Ga p1 5:=by
  obtain ⟨xs,g,e,b⟩:=m1;exact ⟨xs,ka _ _ (by simp) g,e,fun x hx=>NoS.mono _ _ x ka (b x hx)⟩
 refine kM NoS.mono ma (zZ (nZ rfl trivial rfl) (zZ (sV rfl rfl (.inl ⟨_,ga⟩) rfl) (zZ (zbv rfl (by decide +kernel) (by decide +kernel) (by decide +kernel) ⟨xL (by decide +kernel),trivial⟩ (by show 1+0<=58;decide)) (zZ (sV rfl (by rw [yO];rfl) trivial rfl) (zZ (sV rfl rfl trivial rfl) (zZ (sV rfl rfl trivial rfl) (zZ (sV rfl rfl (xL (by decide +kernel)) rfl) (zZ (zbv rfl (by decide +kernel) (by decide +kernel) (by decide +kernel) trivial (Nat.zero_le _)) (zZ (zbv rfl (by show yE "and" 1=false;decide +kernel) (by show wO "and" 1=false;decide +kernel) (by decide +kernel) ⟨kt _,trivial⟩ (by show yC t.w+0<=58;omega)) zD))))))))) (by show 5+9<=3000;decide) fun p2 G2 k2 hp2 m2=>?_;refine yQ ?_
 ((try dsimp only [zQ,zS,zM,zF,zB,yV,yU,zO,zU,zN,zT,zX,zR,zP,zJ,zL,yZ,zK,gZ,gS,tZ,tS]);try simp only [zzC,zzL,zzA,Nat.reduceAdd,z2,z4,true_and])
 refine kM NoS.mono m2 (zZ (zbv rfl (by show yE "or" 3=false;decide +kernel) (by show wO "or" 3=false;decide +kernel) (by decide +kernel) ⟨kt _,kt _,kt _,trivial⟩ (by show yC t.w+(yC t.w+(yC t.w+0))<=58;omega)) (zZ ⟨rfl,by rw [xQ];rfl,⟨xL (by decide +kernel),xL (by decide +kernel),trivial⟩,by show 1+(1+0)+1<=60;decide⟩ zD)) (by show 5+9+2<=3000;decide) fun p3 G3 k3 hp3 m3=>?_;refine yQ ?_;have es:∃ ws,t.w=.tup ws/\ws.length<=3:=by cases t<;>exact ⟨_,rfl,by simp⟩
 obtain ⟨tw,et,el⟩:=es
 ((try dsimp only [zQ,zS,zM,zF,zB,yV,yU,zO,zU,zN,zT,zX,zR,zP,zJ,zL,yZ,zK,gZ,gS,tZ,tS]);try simp only [e3,lstS,et,nI,zzC,zzL,zzA,Nat.reduceAdd,z2,z3,true_and])
 rw [← et];intro pb hb;have kb:zW [] G3 (put G3 pb (.lst tw)):=zW.new hb;have gb:(put G3 pb (.lst tw)) pb=some (.lst tw):=zV;generalize put G3 pb (.lst tw)=Gb at kb gb ⊢
 have mb:dG NoS Gb p3 16:=by
  obtain ⟨xs,g,e,b⟩:=m3;exact ⟨xs,kb _ _ (by simp) g,e,fun x hx=>NoS.mono _ _ x kb (b x hx)⟩
 refine kM NoS.mono mb (zZ (sV rfl rfl (.inl ⟨_,gb⟩) rfl) (zZ ⟨?_,?_,⟨xL (by decide +kernel),kt _,trivial,trivial⟩,?_⟩ zD)) (by show 16+2<=3000;decide) fun p4 G4 k4 hp4 m4=>?_
 .have e:(("if" : Str) == "say")=false:=by decide +kernel
  simp only [pI,okL,tT,e,Bool.false_and,Bool.and_false,Bool.or_false]
 .rw [xQ,jV (r:=[t.w,.non]) (show wO "if" 2=false by decide +kernel),show yE "if" ([t.w,W.non].length)=false from by show yE "if" 2=false;decide +kernel];rfl
 .show 1+(yC t.w+(1+0))+1<=60;omega
 have kz:zW [] G G4:=k1.trans (ka.trans (k2.trans (k3.trans (kb.trans k4))));have D4:=wV kz D;have n4:p4∉[d,l]:=wY (wV (k1.trans (ka.trans (k2.trans (k3.trans kb)))) D) hp4;obtain ⟨xs,g,e,b⟩:=m4;have e:xs.length=18:=e;simp only [e9];refine ⟨d,l,18,rfl,D4,by decide,fun i G5 i0 i1 k5 D5=>?_⟩;refine fA (zG (k5 _ _ n4 g)) ?_;obtain ⟨x,hx,ex⟩:=zbR (l:=xs) i0 (by rw [e];exact i1);rw [ex];have B:=b x hx;exact h x G5 ⟨B.ok,B.cd,jZ (kpD k5 D5) B.kn,B.sz⟩ ((jT kz).trans k5) D5
end
def xG:Cd->List W
 | .any=>[.str "any"]
 | .one k s=>[.str k.s,s.w]
 | .two k x s=>[.str k.s,.str x,s.w]
 | .neg a=>[.str "not", a.w]
 | .bin k a b=>[.str (bw k),a.w,b.w]
theorem cw (c:Cd):c.w=.tup (xG c):=by cases c<;>rfl
def zfB:Cd->Bool
 | .neg _=>true
 | .bin _ _ _=>true
 |_=>false
theorem zaB {x:Str} (h:x∈sM):x.length<=1000:=by
 simp only [sM,List.mem_cons,List.not_mem_nil,or_false] at h;rcases h with rfl|rfl|rfl|rfl|rfl|rfl<;>decide +kernel
theorem zi9 (k:C1):k.s.length<=1000:=by cases k<;>decide +kernel
theorem zi8 (k:C2):k.s.length<=1000:=by cases k<;>decide +kernel
theorem zdQ (k:Bool):(bw k).length<=1000:=by cases k<;>decide +kernel
theorem mX {G:Hw}:∀ {c:Cd},c.ok->kn G c.w
 | .any,_=>⟨xL (by decide +kernel),trivial⟩
 | .one k s,h=>⟨xL (zi9 k),sD h.1,trivial⟩
 | .two k x s,h=>⟨xL (zi8 k),xL (zaB h.1),sD h.2.1,trivial⟩
 | .neg a,h=>⟨xL (by decide +kernel),mX (c:=a) h,trivial⟩
 | .bin k a b,h=>⟨xL (zdQ k),mX h.1,mX h.2,trivial⟩
theorem zd9:∀ {c:Cd},c.ok->yC c.w+2<=23 * 2 ^ c.deep
 | .any,_=>by show 1+0+1+2<=23 * 2 ^ 0;decide
 | .one k s,h=>by
  have:=sJ s;have:=h.2;show 1+(yC s.w+0)+1+2<=23 * 2 ^ 0;omega
 | .two k x s,h=>by
  have:=sJ s;have:=h.2.2;show 1+(1+(yC s.w+0))+1+2<=23 * 2 ^ 0;omega
 | .neg a,h=>by
  have:=zd9 (c:=a) h;have p:1<=2 ^ a.deep:=Nat.one_le_two_pow;show 1+(yC a.w+0)+1+2<=23 * 2 ^ (a.deep+1);rw [Nat.pow_succ];omega
 | .bin k a b,h=>by
  have h1:=zd9 (c:=a) h.1;have h2:=zd9 (c:=b) h.2;have p1:2 ^ a.deep<=2 ^ max a.deep b.deep:=Nat.pow_le_pow_right (by decide) (Nat.le_max_left _ _);have p2:2 ^ b.deep<=2 ^ max a.deep b.deep:=Nat.pow_le_pow_right (by decide) (Nat.le_max_right _ _);show 1+(yC a.w+(yC b.w+0))+1+2<=23 * 2 ^ (max a.deep b.deep+1);rw [Nat.pow_succ];omega
theorem zcw {c:Cd} (h:c.ok) (d:c.deep<=4):yC c.w<=366:=by
 have:=zd9 h;have p:2 ^ c.deep<=2 ^ 4:=Nat.pow_le_pow_right (by decide) d;omega
theorem tF {xs:List Str} {x:Str} (h:x∈xs):xs.contains x=true:=by simpa using h
theorem sS {t:Str} {r:List W} {n:Nat} (e:r.length=n) (h:yE t n=false):yO (.tup (.str t::r))=single t r:=by rw [xQ,e,h];simp
theorem sR {t:Str} {r:List W} {n:Nat} (e:r.length=n) (h:yE t n=true):yO (.tup (.str t::r))=yF r:=by rw [xQ,e,h];simp
theorem gY:∀ {c:Cd},c.ok->yO c.w=true
 | .any,_=>by rw [cw,xG,xQ];decide +kernel
 | .one k s,h=>by
  rw [cw,xG,sS (n:=1) rfl (by cases k<;>decide +kernel),single,gH h.1];cases k<;>decide +kernel
 | .two k x s,h=>by
  rw [cw,xG,sS (n:=2) rfl (by cases k<;>decide +kernel),single,gH h.2.1,rZ,tF h.1];cases k<;>decide +kernel
 | .neg a,h=>by
  rw [cw,xG,sR (n:=1) rfl (by decide +kernel),yF,yF,gY (c:=a) h];rfl
 | .bin k a b,h=>by
  rw [cw,xG,sR (n:=2) rfl (by cases k<;>decide +kernel),yF,yF,yF,gY h.1,gY h.2];rfl
theorem zdI {c:Cd} {t:W}:yO (.tup (xG c++[t]))=false:=by
 cases c with
 |any=>show yO (.tup [.str "any", t])=false;rw [xQ,jV (r:=[t]) (show wO "any" 1=false by decide +kernel),show yE "any" ([t].length)=false from by show yE "any" 1=false;decide +kernel];rfl
 |one k s=>show yO (.tup [.str k.s,s.w,t])=false;rw [xQ,jV (r:=[s.w,t]) (show wO k.s 2=false by cases k<;>decide +kernel),show yE k.s ([s.w,t].length)=false from by show yE k.s 2=false;cases k<;>decide +kernel];rfl
 |two k x s=>show yO (.tup [.str k.s,.str x,s.w,t])=false;rw [xQ,jV (r:=[.str x,s.w,t]) (show wO k.s 3=false by cases k<;>decide +kernel),show yE k.s ([.str x,s.w,t].length)=false from by show yE k.s 3=false;cases k<;>decide +kernel];rfl
 |neg a=>show yO (.tup [.str "not", a.w,t])=false;rw [xQ,jV (r:=[a.w,t]) (show wO "not" 2=false by decide +kernel),show yE "not" ([a.w,t].length)=false from by show yE "not" 2=false;decide +kernel];rfl
 |bin k a b=>show yO (.tup [.str (bw k),a.w,b.w,t])=false;rw [xQ,jV (r:=[a.w,b.w,t]) (show wO (bw k) 3=false by cases k<;>decide +kernel),show yE (bw k) ([a.w,b.w,t].length)=false from by show yE (bw k) 3=false;cases k<;>decide +kernel];rfl
theorem zdJ {c:Cd}:yO (.tup (xG c).dropLast)=false:=by
 cases c with
 |any=>show yO (.tup [])=false;rw [yO];rfl
 |one k s=>show yO (.tup [.str k.s])=false;rw [xQ];cases k<;>decide +kernel
 |two k x s=>show yO (.tup [.str k.s,.str x])=false;rw [xQ,jV (r:=[.str x]) (show wO k.s 1=false by cases k<;>decide +kernel),show yE k.s ([W.str x].length)=false from by show yE k.s 1=false;cases k<;>decide +kernel];rfl
 |neg a=>show yO (.tup [.str "not"])=false;rw [xQ];decide +kernel
 |bin k a b=>show yO (.tup [.str (bw k),a.w])=false;rw [xQ,jV (r:=[a.w]) (show wO (bw k) 1=false by cases k<;>decide +kernel),show yE (bw k) ([a.w].length)=false from by show yE (bw k) 1=false;cases k<;>decide +kernel];rfl
theorem zfb {c:Cd}:uA (xG c) none (some (-1))=(xG c).dropLast:=by cases c<;>rfl
section
variable {G : Hw} {c : W}
theorem sU {x:W} (h:yO x=false) (k:kn G x) (s:yC x<=80):NoC G c x:=⟨h,k,by omega⟩
theorem zgo {s:Str} {r:List W} (hj:yE s r.length=false) (hg:single s r=false) (hs:s.length<=1000) (k:pH G r) (z:qZ r<=2 * yC c+78):NoC G c (.tup (.str s::r)):=by
 refine ⟨?_,⟨hs,k⟩,?_⟩
 .rw [xQ,hj,hg];rfl
 .rw [yC,qZ,show yC (.str s)=1 from rfl];omega
theorem kP {s:Str} {a b:W} (hj:yE s 2=false) (hg:(rZ sM a&&pI b)=false) (hs:s.length<=1000) (ka:kn G a) (kb:kn G b) (z:yC a+yC b<=78):NoC G c (.tup [.str s,a,b]) :=
 zgo hj (by rw [single,hg,Bool.and_false]) hs ⟨ka,kb,trivial⟩ (by simp only [qZ];omega)
theorem zc1 {s:Str} {a:W} (hj:yE s 1=false) (hg:pI a=false) (hs:s.length<=1000) (ka:kn G a) (z:yC a<=78):NoC G c (.tup [.str s,a]) :=
 zgo hj (by rw [single,hg,Bool.and_false]) hs ⟨ka,trivial⟩ (by simp only [qZ];omega)
theorem tP {s:Str} {r:List W} (hj:yE s r.length=false) (hg:wO s r.length=false) (hs:s.length<=1000) (k:pH G r) (z:qZ r<=2 * yC c+78):NoC G c (.tup (.str s::r)):=zgo hj (jV hg) hs k z
theorem oneF {s:Str} {a b:W} (h:s∉sM) (e:a=.str s):(rZ sM a&&pI b)=false:=by
 rw [e,rZ,show sM.contains s=false by simpa using h];rfl
end
theorem in3 {G:Hw} {x:Str} {Q:Q3} (q:Q (.bl (vT.contains x)) G):L3.inR false (.str x) [.str "not", .str "and", .str "or"] G Q:=by
 refine ⟨⟨by simp [kX],by simp [wW,kX],by simp [wG,dep]⟩,?_⟩;rw [if_neg zzN]
 have e:([W.str "not", .str "and", .str "or"].any fun w=>vF w (.str x))=vT.contains x:=by
  show ((vT.map W.str).any fun w=>vF w (.str x))=_;rw [List.any_map,List.contains_eq_any_beq];congr 1
  funext y
  simp only [Function.comp,vF];exact Bool.beq_comm
 rw [e];exact q
theorem dQ {l:List W} {i:Nat} (h:i<=l.length):uA l none (some (i:Int))=l.take i:=by
 unfold uA;rw [HT.zbr,HT.zcK,Nat.min_eq_left h];rfl
theorem zbO {l:List W} {i:Nat} (h:i<=l.length):uA l (some (i:Int)) none=l.drop i:=by
 unfold uA;rw [HT.zbr,HT.zcK,Nat.min_eq_left h];exact List.take_of_length_le (by rw [List.length_drop];omega)
def nthS:ISs->Nat->IS
 | .cons s _,0=>s
 | .cons _ r,n+1=>nthS r n
 | .nil,_=>.dead
theorem dG.keep {P:Hw->W->Prop} (mono:pL P) {G G':Hw} {p:Addr} {n:Nat} (k:zW [] G G') (m:dG P G p n):dG P G' p n:=by
 obtain ⟨xs,g,e,b⟩:=m;exact ⟨xs,k _ _ (by simp) g,e,fun x hx=>mono _ _ x k (b x hx)⟩
theorem addT {G:Hw} {xs ys:List W} {Q:Q3} (hl:xs.length+ys.length<=3000) (h:Q (.tup (xs++ys)) G):jS .Add (.tup xs) (.tup ys) G Q:=⟨sz _ hl,h⟩
theorem zdl (c:Cd):(xG c).length<=3:=by cases c<;>simp [xG]
theorem zcv (c:Cd):qZ (xG c)+1=yC c.w:=by rw [cw,yC]
theorem zbi:∀ ws:List W,qZ ws.dropLast<=qZ ws
 | []=>zzR _
 | [a]=>Nat.zero_le _
 |a::b::r=>by have:=zbi (b::r);simp only [List.dropLast,qZ] at this ⊢;omega
theorem zbE {G:Hw}:∀ {ws:List W},pH G ws->pH G ws.dropLast
 | [],_=>trivial
 | [a],_=>trivial
 |a::b::r,h=>⟨h.1,zbE (ws:=b::r) h.2⟩
section
variable {K : yG}
theorem zbU {n:Nat} {ws:List W} {G:Hw} {Q:Q3} (h:xU (n+1) ws G Q XN):zH (xK K 33 ⟨"_law_wrong_condition", xU n⟩) XN zE { nx:=fun _ G'=>Q .non G',rt:=Q } (yM wU ws) G:=by
 obtain ⟨d,l,c,t,rfl,D,co,cn,cd,ok,ts,h⟩:=h;have e1:(xK K 33 ⟨"_law_wrong_condition", xU n⟩).fn[1]?=some vE:=rfl;have e3:(xK K 33 ⟨"_law_wrong_condition", xU n⟩).fn[3]?=some eLst:=rfl;have e9:(xK K 33 ⟨"_law_wrong_condition", xU n⟩).fn[9]?=some uE:=rfl;have e32:(xK K 33 ⟨"_law_wrong_condition", xU n⟩).fn[32]?=some ⟨"_law_no_saying", kU⟩:=rfl;have e33:(xK K 33 ⟨"_law_wrong_condition", xU n⟩).fn[33]?=some ⟨"_law_wrong_condition", xU n⟩:=rfl;have z1:=sz 1 (by decide);have z2:=sz 2 (by decide);have z3:=sz 3 (by decide);have z4:=sz 4 (by decide);have z5:=sz 5 (by decide);have z6:=sz 6 (by decide);have st:=sJ t;have kt:∀ G,kn G t.w:=fun G=>sD ok;have kc:∀ G,kn G c.w:=fun G=>mX co;have pt:=mD t.w;have pc:=mD c.w;have si:=zcv c;have il:=zdl c;have ki:∀ G,pH G (xG c):=fun G=>by have:=kc G;rw [cw] at this;exact this
 show zH (xK K 33 ⟨"_law_wrong_condition", xU n⟩) XN zE { nx:=fun _ G'=>Q .non G',rt:=Q } [some (.ref d),some c.w,some t.w,none,none,none,none] G
 have rest:∀ G0:Hw,zW [d,l] G G0->xY G0 d l->zH (xK K 33 ⟨"_law_wrong_condition", xU n⟩) XN (tl zE) { nx:=fun _ G'=>Q .non G',rt:=Q } [some (.ref d),some c.w,some t.w,none,none,none,none] G0:=by
  intro G0 k0 D0;simp only [zE,tl];refine yQ ?_
  ((try dsimp only [zQ,zS,zM,zF,zB,yV,yU,zO,zU,zN,zT,zX,zR,zP,zJ,zL,yZ,zK,gZ,gS,tZ,tS]);try simp only [e32])
  refine ⟨d,l,t,rfl,D0,ok,ts,fun o G1 B k1 D1=>?_⟩;have kk:=k0.trans k1;have B:∀ G2,zW [] G1 G2->NoS G2 o:=fun G2 k=>NoS.mono _ _ o k B;have zo:=(B G1 zW.refl).sz;have oo:=(B G1 zW.refl).ok;have oc:=(B G1 zW.refl).cd;refine yQ ?_
  ((try dsimp only [zQ,zS,zM,zF,zB,yV,yU,zO,zU,zN,zT,zX,zR,zP,zJ,zL,yZ,zK,gZ,gS,tZ,tS]);try simp only [e3,lstS,cw c,nI,slR,zfb,zzC,zzL,zzA,Nat.reduceAdd,z1,z2,z5,true_and])
  intro pa ha;have ka:zW [] G1 (put G1 pa (.lst (xG c))):=zW.new ha;have ga:(put G1 pa (.lst (xG c))) pa=some (.lst (xG c)):=zV;generalize put G1 pa (.lst (xG c))=Ga at ka ga ⊢;refine addT (by show (xG c).length+1<=3000;omega) ?_;rw [← cw c];refine zgp (P:=fun G w=>NoC G c.w w) (Q:=fun w G1=>zH (xK K 33 ⟨"_law_wrong_condition", xU n⟩) XN _ _ [some (.ref d),some c.w,some t.w,none,none,some o,some w] G1) NoC.mono (zZ (sU rfl (.inl ⟨_,ga⟩) (by show 1<=80;decide)) (zZ ⟨zdI,(vV _ _).mpr ⟨ki _,kt _,trivial⟩,?_⟩ (zZ ⟨zdJ,zbE (ki _),?_⟩ (zZ (tP (by decide +kernel) (by decide +kernel) (by decide +kernel) trivial (Nat.zero_le _)) (zZ (zc1 (by decide +kernel) oo (by decide +kernel) (B _ ka).kn (by omega)) zD))))) fun p1 G2 k2 hp1 m1=>?_
  .rw [yC,qA];show qZ (xG c)+(yC t.w+0)+1<=_;omega
  .have:=zbi (xG c);rw [yC];omega
  have kb:=ka.trans k2;refine yQ ?_
  ((try dsimp only [zQ,zS,zM,zF,zB,yV,yU,zO,zU,zN,zT,zX,zR,zP,zJ,zL,yZ,zK,gZ,gS,tZ,tS]);try simp only [zzC,zzL,zzA,Nat.reduceAdd,z3,true_and])
  refine kM NoC.mono m1 (zZ (kP (by decide +kernel) (by rw [oo,Bool.and_false]) (by decide +kernel) (xL (by decide +kernel)) (B _ kb).kn (by show 1+yC o<=78;omega)) (zZ (kP (by decide +kernel) (oneF (by decide +kernel) rfl) (by decide +kernel) (xL (by decide +kernel)) (kt _) (by show 1+yC t.w<=78;omega)) (zZ (kP (by decide +kernel) (oneF (by decide +kernel) rfl) (by decide +kernel) (xL (by decide +kernel)) (kt _) (by show 1+yC t.w<=78;omega)) zD))) (by show 5+3<=3000;decide) fun p2 G3 k3 hp2 m2=>?_;have kb:=kb.trans k3;refine yQ ?_
  ((try dsimp only [zQ,zS,zM,zF,zB,yV,yU,zO,zU,zN,zT,zX,zR,zP,zJ,zL,yZ,zK,gZ,gS,tZ,tS]);try simp only [zzC,zzL,zzA,Nat.reduceAdd,z1,z2,z3,z4,true_and])
  refine kM NoC.mono m2 (zZ (kP (by decide +kernel) rfl (by decide +kernel) trivial (kt _) (by show 1+yC t.w<=78;omega)) (zZ (tP (by decide +kernel) (by decide +kernel) (by decide +kernel) trivial (Nat.zero_le _)) (zZ (tP (r:=[t.w]) (show yE "any" 1=false by decide +kernel) (show wO "any" 1=false by decide +kernel) (by decide +kernel) ⟨kt _,trivial⟩ (by show yC t.w+0<=_;omega)) (zZ (tP (r:=[.str "left", t.w]) (show yE "said" 2=false by decide +kernel) (show wO "said" 2=false by decide +kernel) (by decide +kernel) ⟨xL (by decide +kernel),kt _,trivial⟩ (by show 1+(yC t.w+0)<=_;omega)) zD)))) (by show 5+3+4<=3000;decide) fun p3 G4 k4 hp3 m3=>?_;have kb:=kb.trans k4;refine yQ ?_
  ((try dsimp only [zQ,zS,zM,zF,zB,yV,yU,zO,zU,zN,zT,zX,zR,zP,zJ,zL,yZ,zK,gZ,gS,tZ,tS]);try simp only [zzC,zzL,zzA,Nat.reduceAdd,z2,z3,true_and])
  refine kM NoC.mono m3 (zZ (tP (r:=[t.w]) (show yE "open" 1=false by decide +kernel) (show wO "open" 1=false by decide +kernel) (by decide +kernel) ⟨kt _,trivial⟩ (by show yC t.w+0<=_;omega)) (zZ (tP (r:=[c.w]) (show yE "and" 1=false by decide +kernel) (show wO "and" 1=false by decide +kernel) (by decide +kernel) ⟨kc _,trivial⟩ (by show yC c.w+0<=_;omega)) (zZ (tP (r:=[c.w,c.w]) (show yE "not" 2=false by decide +kernel) (show wO "not" 2=false by decide +kernel) (by decide +kernel) ⟨kc _,kc _,trivial⟩ (by show yC c.w+(yC c.w+0)<=_;omega)) zD))) (by show 5+3+4+3<=3000;decide) fun p4 G5 k5 hp4 m4=>?_;have kb:=kb.trans k5;refine yQ ?_
  ((try dsimp only [zQ,zS,zM,zF,zB,yV,yU,zO,zU,zN,zT,zX,zR,zP,zJ,zL,yZ,zK,gZ,gS,tZ,tS]);try simp only [zzC,zzL,zzA,Nat.reduceAdd,z1,z3,z6,true_and])
  intro pb hb;have k6:zW [] G5 (put G5 pb (.lst [.str "any"])):=zW.new hb;have gb:(put G5 pb (.lst [.str "any"])) pb=some (.lst [.str "any"]):=zV;generalize put G5 pb (.lst [.str "any"])=G6 at k6 gb ⊢;intro pc' hc;have k7:zW [] G6 (put G6 pc' (.lst [.str "any"])):=zW.new hc;have gc:(put G6 pc' (.lst [.str "any"])) pc'=some (.lst [.str "any"]):=zV;generalize put G6 pc' (.lst [.str "any"])=G7 at k7 gc ⊢;have gb:=k7 _ _ (by simp) gb;have kb:=kb.trans (k6.trans k7);refine kM NoC.mono (m4.keep NoC.mono (k6.trans k7)) (zZ ⟨?_,⟨xL (by decide +kernel),kc _,(B _ kb).kn,trivial⟩,?_⟩ (zZ (sU rfl trivial (by show 1<=80;decide)) (zZ (sU rfl trivial (by show 1<=80;decide)) (zZ (sU rfl (xL (by decide +kernel)) (by show 1<=80;decide)) (zZ (sU rfl (.inl ⟨_,gb⟩) (by show 1<=80;decide)) (zZ (sU (by rw [yO];rfl) ⟨.inl ⟨_,gc⟩,trivial⟩ (by show 1+0+1<=80;decide)) zD)))))) (by show 5+3+4+3+6<=3000;decide) fun p5 G8 k8 hp5 m5=>?_
  .rw [sR (n:=2) rfl (by decide +kernel),yF,yF,oc];simp
  .show 1+(yC c.w+(yC o+0))+1<=_;omega
  have kb:=kb.trans k8;refine yQ ?_
  ((try dsimp only [zQ,zS,zM,zF,zB,yV,yU,zO,zU,zN,zT,zX,zR,zP,zJ,zL,yZ,zK,gZ,gS,tZ,tS]);try simp only [zzC,zzL,zzA,Nat.reduceAdd,z2,z3,z4,true_and])
  refine kM NoC.mono m5 (zZ (tP (r:=[c.w,c.w]) (show yE "then" 2=false by decide +kernel) (show wO "then" 2=false by decide +kernel) (by decide +kernel) ⟨kc _,kc _,trivial⟩ (by show yC c.w+(yC c.w+0)<=_;omega)) (zZ (zc1 (by decide +kernel) oo (by decide +kernel) (B _ kb).kn (by omega)) (zZ (zc1 (by decide +kernel) oo (by decide +kernel) (B _ kb).kn (by omega)) (zZ (kP (by decide +kernel) (by rw [oo,Bool.and_false]) (by decide +kernel) (xL (by decide +kernel)) (B _ kb).kn (by show 1+yC o<=78;omega)) zD)))) (by show 5+3+4+3+6+4<=3000;decide) fun p6 G9 k9 hp6 m6=>?_;have kb:=kb.trans k9;refine yQ ?_
  ((try dsimp only [zQ,zS,zM,zF,zB,yV,yU,zO,zU,zN,zT,zX,zR,zP,zJ,zL,yZ,zK,gZ,gS,tZ,tS]);try simp only [zzC,zzL,zzA,Nat.reduceAdd,z3,true_and])
  refine kM NoC.mono m6 (zZ (kP (by decide +kernel) (by rw [oo,Bool.and_false]) (by decide +kernel) (xL (by decide +kernel)) (B _ kb).kn (by show 1+yC o<=78;omega)) (zZ (kP (by decide +kernel) (by rw [oo,Bool.and_false]) (by decide +kernel) (xL (by decide +kernel)) (B _ kb).kn (by show 1+yC o<=78;omega)) (zZ (kP (by decide +kernel) (oneF (by decide +kernel) rfl) (by decide +kernel) (xL (by decide +kernel)) (kt _) (by show 1+yC t.w<=78;omega)) zD))) (by show 5+3+4+3+6+4+3<=3000;decide) fun p7 G10 k10 hp7 m7=>?_;have kb:=kb.trans k10;refine yQ ?_
  ((try dsimp only [zQ,zS,zM,zF,zB,yV,yU,zO,zU,zN,zT,zX,zR,zP,zJ,zL,yZ,zK,gZ,gS,tZ,tS]);try simp only [zzC,zzL,zzA,Nat.reduceAdd,z3,true_and])
  refine kM NoC.mono m7 (zZ (kP (by decide +kernel) (oneF (by decide +kernel) rfl) (by decide +kernel) (xL (by decide +kernel)) (kt _) (by show 1+yC t.w<=78;omega)) (zZ (kP (by decide +kernel) (oneF (by decide +kernel) rfl) (by decide +kernel) (xL (by decide +kernel)) (kt _) (by show 1+yC t.w<=78;omega)) (zZ (kP (by decide +kernel) (oneF (by decide +kernel) rfl) (by decide +kernel) (xL (by decide +kernel)) (kt _) (by show 1+yC t.w<=78;omega)) zD))) (by show 5+3+4+3+6+4+3+3<=3000;decide) fun p8 G11 k11 hp8 m8=>?_;obtain ⟨xs,g,e,b⟩:=m8;have e:xs.length=31:=e;have D10:=wV kb D1;have n8:=wY D10 hp8;refine yQ ?_
  ((try dsimp only [zQ,zS,zM,zF,zB,yV,yU,zO,zU,zN,zT,zX,zR,zP,zJ,zL,yZ,zK,gZ,gS,tZ,tS]);try simp only [e1,e9,jC,jD,g,e])
  refine ⟨d,l,31,rfl,wV k11 D10,by decide,fun i G12 i0 i1 k12 D12=>?_⟩;refine fA (zG (k12 _ _ n8 g)) ?_;obtain ⟨x,hx,ex⟩:=zbR (l:=xs) i0 (by rw [e];exact i1);rw [ex];have B:=b x hx;exact h x G12 ⟨B.cd,jZ (kpD k12 D12) B.kn,B.sz⟩ (kk.trans ((jT (kb.trans k11)).trans k12)) D12
 simp only [zE,tl] at rest;simp only [zE];refine yQ ?_
 have plain:zfB c=false->∃ x r,c.w=.tup (.str x::r)/\vT.contains x=false:=fun e=>by
  cases c with
  |any=>exact ⟨_,_,rfl,by decide +kernel⟩
  |one k s=>exact ⟨_,_,rfl,by cases k<;>decide +kernel⟩
  |two k x s=>exact ⟨_,_,rfl,by cases k<;>decide +kernel⟩
  |neg a=>cases e
  |bin k a b=>cases e
 cases hj:zfB c with
 |false =>
  obtain ⟨x,r,ew,hc⟩:=plain hj;rw [ew] at rest ⊢
  ((try dsimp only [zQ,zS,zM,zF,zB,yV,yU,zO,zU,zN,zT,zX,zR,zP,zJ,zL,yZ,zK,gZ,gS,tZ,tS]);try simp only [ix0,yK,mN,zzC,zzL,zzA,Nat.reduceAdd,z3,true_and])
  refine in3 ?_;simp only [hc,zzB,if_false];refine qR ?_;exact rest G zW.refl D
 |true =>
  have inner:∀ (x:Str) (r:List W),c.w=.tup (.str x::r)->vT.contains x=true->1<=r.length->r.length<=2 ->
    (∀ (i:Nat) (G1:Hw),i<r.length->zW [d,l] G G1->xY G1 d l->∃ a:Cd,(W.str x::r)[i+1]?=some a.w/\a.ok/\a.deep<n/\a.deep<=4/\∀ w G',NoC G' a.w w->zW [d,l] G G'->xY G' d l->Q (.tup ((W.str x::r).take (i+1)++[w]++(W.str x::r).drop (i+2))) G') ->
    zQ (xK K 33 ⟨"_law_wrong_condition", xU n⟩) XN (nthS zE 0) { nx:=zH (xK K 33 ⟨"_law_wrong_condition", xU n⟩) XN (tl zE) { nx:=fun _ G'=>Q .non G',rt:=Q },rt:=Q } [some (.ref d),some c.w,some t.w,none,none,none,none] G:=by
   intro x r ew hx r1 r2 hi;simp only [zE,tl,nthS];rw [ew] at rest ⊢
   ((try dsimp only [zQ,zS,zM,zF,zB,yV,yU,zO,zU,zN,zT,zX,zR,zP,zJ,zL,yZ,zK,gZ,gS,tZ,tS]);try simp only [ix0,yK,mN,zzC,zzL,zzA,Nat.reduceAdd,z3,true_and])
   refine in3 ?_;simp only [hx,if_true,e9];refine ⟨d,l,2,rfl,D,by decide,fun q G1 q0 q1 k1 D1=>?_⟩;simp only [yK,yR]
   by_cases hq:q=0
   .rw [decide_eq_true hq,if_pos rfl];refine yQ ?_
    ((try dsimp only [zQ,zS,zM,zF,zB,yV,yU,zO,zU,zN,zT,zX,zR,zP,zJ,zL,yZ,zK,gZ,gS,tZ,tS]);try simp only [e9,e1,jC,jD,jS,List.length_cons])
    refine ⟨d,l,r.length,by rw [show (((r.length+1:Nat):Int)-1)=(r.length:Int) by omega],D1,⟨by omega,by omega⟩,fun i G2 i0 i1 k2 D2=>?_⟩;obtain ⟨a,ea,ao,an,ad,fin⟩:=hi i.toNat G2 (by omega) (k1.trans k2) D2;have ei:1+i=((i.toNat+1:Nat):Int):=by omega
    refine yQ ?_
    ((try dsimp only [zQ,zS,zM,zF,zB,yV,yU,zO,zU,zN,zT,zX,zR,zP,zJ,zL,yZ,zK,gZ,gS,tZ,tS]);try simp only [pG,e33])
    have eat:uJ (W.str x::r) (1+i)=some a.w:=by
     unfold uJ mK;rw [if_pos (by omega),if_pos (by simp only [List.length_cons];omega),ei];exact ea
    rw [eat];refine ⟨d,l,a,t,rfl,D2,ao,an,ad,ok,ts,fun w G3 B k3 D3=>?_⟩;refine yQ ?_
    have ct1:uA (W.str x::r) none (some (1+i))=(W.str x::r).take (i.toNat+1):=by
     rw [ei];exact dQ (by simp only [List.length_cons];omega)
    have ct2:uA (W.str x::r) (some (1+i+1)) none=(W.str x::r).drop (i.toNat+2):=by
     rw [show 1+i+1=((i.toNat+2:Nat):Int) by omega];exact zbO (by simp only [List.length_cons];omega)
    ((try dsimp only [zQ,zS,zM,zF,zB,yV,yU,zO,zU,zN,zT,zX,zR,zP,zJ,zL,yZ,zK,gZ,gS,tZ,tS]);try simp only [slR,jS,ct1,ct2,zzC,zzL,zzA,z1,true_and])
    refine ⟨sz _ (by rw [List.length_take];simp only [List.length_cons];omega),sz _ (by rw [zzW,List.length_take,List.length_drop];simp only [List.length_cons,List.length_nil];omega),?_⟩;exact fin w G3 B (k1.trans (k2.trans k3)) D3
   .rw [decide_eq_false hq,if_neg zzN];refine qR ?_;exact rest G1 k1 D1
  simp only [zE,tl,nthS] at inner
  cases c with
  |neg a =>
   refine inner "not" [a.w] rfl (by decide +kernel) (zzR _) (show 1<=2 by decide) fun i G1 hi k1 D1=>?_;have:i=0:=by simpa using hi
   subst this;simp only [Cd.deep] at cn cd;refine ⟨a,rfl,co,by omega,by omega,fun w G' B k' D'=>h (.tup [.str "not", w]) G' ⟨?_,⟨xL (by decide +kernel),B.kn,trivial⟩,?_⟩ k' D'⟩
   .rw [sR (n:=1) rfl (by decide +kernel),yF,yF,B.cd];rfl
   .have:=B.sz;show 1+(yC w+0)+1<=2 * (1+(yC a.w+0)+1)+80;omega
  |bin k a b =>
   have hb:yE (bw k) 2=true:=by cases k<;>decide +kernel
   refine inner (bw k) [a.w,b.w] rfl (by cases k<;>decide +kernel) (show 1<=2 by decide) (zzR _) fun i G1 hi k1 D1=>?_;simp only [Cd.deep] at cn cd;have:i=0\/i=1:=by simp only [List.length_cons,List.length_nil] at hi;omega
   rcases this with rfl|rfl
   .refine ⟨a,rfl,co.1,by omega,by omega,fun w G' B k' D'=>h (.tup [.str (bw k),w,b.w]) G' ⟨?_,⟨xL (zdQ k),B.kn,mX co.2,trivial⟩,?_⟩ k' D'⟩
    .rw [sR (n:=2) rfl hb,yF,yF,B.cd];rfl
    .have:=B.sz;show 1+(yC w+(yC b.w+0))+1<=2 * (1+(yC a.w+(yC b.w+0))+1)+80;omega
   .refine ⟨b,rfl,co.2,by omega,by omega,fun w G' B k' D'=>h (.tup [.str (bw k),a.w,w]) G' ⟨?_,⟨xL (zdQ k),mX co.1,B.kn,trivial⟩,?_⟩ k' D'⟩
    .rw [sR (n:=2) rfl hb,yF,yF,yF,B.cd];simp
    .have:=B.sz;show 1+(yC a.w+(yC w+0))+1<=2 * (1+(yC a.w+(yC b.w+0))+1)+80;omega
  |_=>cases hj
end
def xH:Dd->List W
 | .ans s=>[.str "answer", s.w]
 | .dbt x s=>[.str "doubt", .str x,s.w]
 | .dbw x=>[.str "doubt", .str x]
 | .mov i=>[.str "move", .int i]
theorem dw (e:Dd):e.w=.tup (xH e):=by cases e<;>rfl
theorem zbI {x:Str} (h:x∈kI):x∈sM:=List.mem_cons_of_mem _ h
theorem zgv {G:Hw}:∀ {e:Dd},e.ok->kn G e.w
 | .ans s,h=>⟨xL (by decide +kernel),sD h.1,trivial⟩
 | .dbt x s,h=>⟨xL (by decide +kernel),xL (zaB (zbI h.1)),sD h.2.1,trivial⟩
 | .dbw x,h=>⟨xL (by decide +kernel),xL (zaB (zbI h)),trivial⟩
 | .mov i,_=>⟨xL (by decide +kernel),trivial,trivial⟩
theorem zd8:∀ {e:Dd},e.ok->yC e.w<=21
 | .ans s,h=>by
  have:=sJ s;have:=h.2;show 1+(yC s.w+0)+1<=21;omega
 | .dbt x s,h=>by
  have:=sJ s;have:=h.2.2;show 1+(1+(yC s.w+0))+1<=21;omega
 | .dbw x,_=>by show 1+(1+0)+1<=21;decide
 | .mov i,_=>by show 1+(1+0)+1<=21;decide
theorem zch (r:List W):xA (.tup (.str "answer" :: r))=(match r with | [a]=>pI a|_=>false):=by
 show tH _ _=_;unfold tH;rw [if_pos (by decide +kernel)]<;>rfl
theorem vD (r:List W):xA (.tup (.str "doubt" :: r))=jB r:=by
 show tH _ _=_;unfold tH;rw [if_neg (by decide +kernel),if_pos (by decide +kernel)]
theorem tG (r:List W):xA (.tup (.str "move" :: r))=(match r with | [a]=>numB a|_=>false):=by
 show tH _ _=_;unfold tH;rw [if_neg (by decide +kernel),if_neg (by decide +kernel),show (("move" : Str) == "move")=true from by decide +kernel,Bool.true_and]<;>rfl
theorem zg6:∀ {e:Dd},e.ok->xA e.w=true
 | .ans s,h=>by rw [dw,xH,zch];exact gH h.1
 | .dbt x s,h=>by rw [dw,xH,vD,jB,rZ,tF h.1,gH h.2.1];rfl
 | .dbw x,h=>by rw [dw,xH,vD,jB,rZ,tF h]
 | .mov i,h=>by rw [dw,xH,tG];show (decide _&&decide _)=true;rw [decide_eq_true h.1,decide_eq_true h.2];rfl
theorem zdB {e:Dd} {a b:W}:xA (.tup (xH e++[a,b]))=false:=by
 cases e with
 |ans s=>show xA (.tup (.str "answer" :: [s.w,a,b]))=false;rw [zch]
 |dbt x s=>show xA (.tup (.str "doubt" :: [.str x,s.w,a,b]))=false;rw [vD];rfl
 |dbw x=>show xA (.tup (.str "doubt" :: [.str x,a,b]))=false;rw [vD];rfl
 |mov i=>show xA (.tup (.str "move" :: [.int i,a,b]))=false;rw [tG]
theorem zdA {e:Dd}:xA (.tup ((xH e).take 1))=false:=by
 cases e with
 |ans s=>show xA (.tup (.str "answer" :: []))=false;rw [zch]
 |dbt x s=>show xA (.tup (.str "doubt" :: []))=false;rw [vD];rfl
 |dbw x=>show xA (.tup (.str "doubt" :: []))=false;rw [vD];rfl
 |mov i=>show xA (.tup (.str "move" :: []))=false;rw [tG]
theorem zdC (e:Dd):yO e.w=false:=by
 cases e with
 |ans s=>show yO (.tup [.str "answer", s.w])=false;rw [sS (n:=1) rfl (by decide +kernel),jV (r:=[s.w]) (show wO "answer" 1=false by decide +kernel)]
 |dbt x s=>show yO (.tup [.str "doubt", .str x,s.w])=false;rw [sS (n:=2) rfl (by decide +kernel),jV (r:=[.str x,s.w]) (show wO "doubt" 2=false by decide +kernel)]
 |dbw x=>show yO (.tup [.str "doubt", .str x])=false;rw [sS (n:=1) rfl (by decide +kernel),jV (r:=[.str x]) (show wO "doubt" 1=false by decide +kernel)]
 |mov i=>show yO (.tup [.str "move", .int i])=false;rw [sS (n:=1) rfl (by decide +kernel),jV (r:=[.int i]) (show wO "move" 1=false by decide +kernel)]
section
variable {G : Hw}
theorem hU {x:W} (h:xA x=false) (k:kn G x) (s:yC x<=200):NoD G x:=⟨h,k,s⟩
theorem qW {s:Str} {r:List W} (h:xA (.tup (.str s::r))=false) (hs:s.length<=1000) (k:pH G r) (z:qZ r<=190):NoD G (.tup (.str s::r)):=⟨h,⟨hs,k⟩,by rw [yC,qZ,show yC (.str s)=1 from rfl];omega⟩
end
section
variable {K : yG}
theorem zbT {n:Nat} (hn:34<=n) {ws:List W} {G:Hw} {Q:Q3} (h:rH ws G Q XN):zH (yS K n) XN jY { nx:=fun _ G'=>Q .non G',rt:=Q } (yM qL ws) G:=by
 obtain ⟨d,l,e,t,rfl,D,eo,ok,ts,h⟩:=h;have e1:(yS K n).fn[1]?=some vE:=jX 1 hn rfl;have e3:(yS K n).fn[3]?=some eLst:=jX 3 hn rfl;have e9:(yS K n).fn[9]?=some uE:=jX 9 hn rfl;have e32:(yS K n).fn[32]?=some ⟨"_law_no_saying", kU⟩:=jX 32 hn rfl;have z1:=sz 1 (by decide);have z2:=sz 2 (by decide);have z3:=sz 3 (by decide);have z4:=sz 4 (by decide);have z5:=sz 5 (by decide);have z6:=sz 6 (by decide);have st:=sJ t;have kt:∀ G,kn G t.w:=fun G=>sD ok;have il:(xH e).length<=3:=by cases e<;>simp [xH]
 have ki:∀ G,pH G (xH e):=fun G=>by have:kn G e.w:=zgv eo;rw [dw] at this;exact this
 have se:=zd8 eo;have si:qZ (xH e)+1=yC e.w:=by rw [dw,yC]
 have ct:uA (xH e) none (some 1)=(xH e).take 1:=by cases e<;>rfl
 have zt:qZ ((xH e).take 1)<=1:=by cases e<;>exact zzR _
 have kt1:∀ G,pH G ((xH e).take 1):=fun G=>by cases e<;>exact ⟨xL (by decide +kernel),trivial⟩
 show zH (yS K n) XN jY { nx:=fun _ G'=>Q .non G',rt:=Q } [some (.ref d),some e.w,some t.w,none,none] G;simp only [jY];refine yQ ?_
 ((try dsimp only [zQ,zS,zM,zF,zB,yV,yU,zO,zU,zN,zT,zX,zR,zP,zJ,zL,yZ,zK,gZ,gS,tZ,tS]);try simp only [e32])
 refine ⟨d,l,t,rfl,D,ok,ts,fun o G1 B k1 D1=>?_⟩;have B:∀ G2,zW [] G1 G2->NoS G2 o:=fun G2 k=>NoS.mono _ _ o k B;have zo:=(B G1 zW.refl).sz;have oo:=(B G1 zW.refl).ok;refine yQ ?_
 ((try dsimp only [zQ,zS,zM,zF,zB,yV,yU,zO,zU,zN,zT,zX,zR,zP,zJ,zL,yZ,zK,gZ,gS,tZ,tS]);try simp only [e3,lstS,dw e,nI,slR,ct,zzC,zzL,zzA,Nat.reduceAdd,z2,z4,true_and])
 intro pa ha;have ka:zW [] G1 (put G1 pa (.lst (xH e))):=zW.new ha;have ga:(put G1 pa (.lst (xH e))) pa=some (.lst (xH e)):=zV;generalize put G1 pa (.lst (xH e))=Ga at ka ga ⊢;refine addT (by show (xH e).length+2<=3000;omega) ?_;rw [← dw e];refine zgp (P:=NoD) (Q:=fun w G1=>zH (yS K n) XN _ _ [some (.ref d),some e.w,some t.w,some o,some w] G1) NoD.mono (zZ (hU rfl (.inl ⟨_,ga⟩) (by show 1<=200;decide)) (zZ ⟨zdB,(vV _ _).mpr ⟨ki _,kt _,kt _,trivial⟩,?_⟩ (zZ ⟨zdA,kt1 _,?_⟩ (zZ (qW (by rw [zch];exact oo) (by decide +kernel) ⟨(B _ ka).kn,trivial⟩ (by show yC o+0<=190;omega)) zD)))) fun p1 G2 k2 hp1 m1=>?_
 .rw [yC,qA];show qZ (xH e)+(yC t.w+(yC t.w+0))+1<=_;omega
 .rw [yC];omega
 have kb:=ka.trans k2;refine yQ ?_
 ((try dsimp only [zQ,zS,zM,zF,zB,yV,yU,zO,zU,zN,zT,zX,zR,zP,zJ,zL,yZ,zK,gZ,gS,tZ,tS]);try simp only [zzC,zzL,zzA,Nat.reduceAdd,z2,z3,z5,true_and])
 refine kM NoD.mono m1 (zZ (qW (by rw [vD,jB,oo,Bool.and_false]) (by decide +kernel) ⟨xL (by decide +kernel),(B _ kb).kn,trivial⟩ (by show 1+(yC o+0)<=190;omega)) (zZ (qW (by rw [tG];rfl) (by decide +kernel) ⟨trivial,trivial⟩ (by show 1+0<=190;decide)) (zZ (qW (by rw [tG];rfl) (by decide +kernel) ⟨trivial,trivial⟩ (by show 1+0<=190;decide)) (zZ (qW (by rw [tG];rfl) (by decide +kernel) ⟨trivial,trivial⟩ (by show 1+0<=190;decide)) (zZ (qW (by rw [tG];rfl) (by decide +kernel) ⟨trivial,trivial⟩ (by show 1+0<=190;decide)) zD))))) (by show 4+5<=3000;decide) fun p2 G3 k3 hp2 m2=>?_;have kb:=kb.trans k3;refine yQ ?_
 ((try dsimp only [zQ,zS,zM,zF,zB,yV,yU,zO,zU,zN,zT,zX,zR,zP,zJ,zL,yZ,zK,gZ,gS,tZ,tS]);try simp only [zzC,zzL,zzA,Nat.reduceAdd,z2,z4,true_and])
 refine kM NoD.mono m2 (zZ (qW (by rw [tG];rfl) (by decide +kernel) ⟨trivial,trivial⟩ (by show 1+0<=190;decide)) (zZ (qW (by rw [tG];rfl) (by decide +kernel) ⟨xL (by decide +kernel),trivial⟩ (by show 1+0<=190;decide)) (zZ (qW (by rw [vD];decide +kernel) (by decide +kernel) ⟨xL (by decide +kernel),trivial⟩ (by show 1+0<=190;decide)) (zZ (qW (by show tH "play" [t.w]=_;unfold tH;rw [if_neg (by decide +kernel),if_neg (by decide +kernel),show (("play" : Str) == "move")=false from by decide +kernel];rfl) (by decide +kernel) ⟨kt _,trivial⟩ (by show yC t.w+0<=190;omega)) zD)))) (by show 4+5+4<=3000;decide) fun p3 G4 k4 hp3 m3=>?_;have kb:=kb.trans k4;refine yQ ?_
 ((try dsimp only [zQ,zS,zM,zF,zB,yV,yU,zO,zU,zN,zT,zX,zR,zP,zJ,zL,yZ,zK,gZ,gS,tZ,tS]);try simp only [zzC,zzL,zzA,Nat.reduceAdd,z2,z3,z4,true_and])
 refine kM NoD.mono m3 (zZ (qW (by rw [vD,jB,show rZ kI (.str "begin")=false from by decide +kernel];rfl) (by decide +kernel) ⟨xL (by decide +kernel),kt _,trivial⟩ (by show 1+(yC t.w+0)<=190;omega)) (zZ (qW (by rw [vD,jB,show rZ kI (.str "then")=false from by decide +kernel];rfl) (by decide +kernel) ⟨xL (by decide +kernel),kt _,trivial⟩ (by show 1+(yC t.w+0)<=190;omega)) (zZ (qW (by rw [vD];decide +kernel) (by decide +kernel) ⟨xL (by decide +kernel),trivial⟩ (by show 1+0<=190;decide)) (zZ (qW (by rw [vD];rfl) (by decide +kernel) ⟨trivial,trivial⟩ (by show 1+0<=190;decide)) zD)))) (by show 4+5+4+4<=3000;decide) fun p4 G5 k5 hp4 m4=>?_;have kb:=kb.trans k5;refine yQ ?_
 ((try dsimp only [zQ,zS,zM,zF,zB,yV,yU,zO,zU,zN,zT,zX,zR,zP,zJ,zL,yZ,zK,gZ,gS,tZ,tS]);try simp only [zzC,zzL,zzA,Nat.reduceAdd,z1,z3,z6,true_and])
 refine kM NoD.mono m4 (zZ (qW (by rw [zch]) (by decide +kernel) trivial (Nat.zero_le _)) (zZ (qW (by rw [tG]) (by decide +kernel) ⟨trivial,trivial,trivial⟩ (by show 1+(1+0)<=190;decide)) (zZ (hU rfl trivial (by show 1<=200;decide)) (zZ (hU rfl trivial (by show 1<=200;decide)) (zZ (hU rfl (xL (by decide +kernel)) (by show 1<=200;decide)) (zZ (qW (by rw [zch]) (by decide +kernel) ⟨kt _,kt _,trivial⟩ (by show yC t.w+(yC t.w+0)<=190;omega)) zD)))))) (by show 4+5+4+4+6<=3000;decide) fun p5 G6 k6 hp5 m5=>?_;have kb:=kb.trans k6;refine yQ ?_;have pw:∀ {G:Hw} {Q:Q3},jS .Pow (.int 1000) (.int 9) G Q=(CPow 1000 9/\Q (.int (1000 ^ Int.toNat 9)) G):=rfl
 ((try dsimp only [zQ,zS,zM,zF,zB,yV,yU,zO,zU,zN,zT,zX,zR,zP,zJ,zL,yZ,zK,gZ,gS,tZ,tS]);try simp only [pw,zzC,zzL,zzA,Nat.reduceAdd,z2,true_and])
 refine ⟨⟨by decide,by decide,by decide⟩,?_⟩;refine kM NoD.mono m5 (zZ (qW (by rw [vD,jB];cases t<;>rfl) (by decide +kernel) ⟨kt _,trivial⟩ (by show yC t.w+0<=190;omega)) (zZ (qW (by rw [tG];rfl) (by decide +kernel) ⟨trivial,trivial⟩ (by show 1+0<=190;decide)) zD)) (by show 4+5+4+4+6+2<=3000;decide) fun p6 G7 k7 hp6 m6=>?_;obtain ⟨xs,g,ex,b⟩:=m6;have ex:xs.length=25:=ex;have D6:=wV kb D1;have n6:=wY D6 hp6;refine yQ ?_
 ((try dsimp only [zQ,zS,zM,zF,zB,yV,yU,zO,zU,zN,zT,zX,zR,zP,zJ,zL,yZ,zK,gZ,gS,tZ,tS]);try simp only [e1,e9,jC,jD,g,ex])
 refine ⟨d,l,25,rfl,wV k7 D6,by decide,fun i G8 i0 i1 k8 D8=>?_⟩;refine fA (zG (k8 _ _ n6 g)) ?_;obtain ⟨x,hx,ex⟩:=zbR (l:=xs) i0 (by rw [ex];exact i1);rw [ex];have B:=b x hx;exact h x G8 ⟨B.dd,jZ (kpD k8 D8) B.kn,B.sz⟩ (k1.trans ((jT (kb.trans k7)).trans k8)) D8
end
theorem zbt:∀ c:Cd,kX c.w=true
 | .any=>rfl
 | .one k s=>by simp only [Cd.w,kX,wW,uY s];rfl
 | .two k x s=>by simp only [Cd.w,kX,wW,uY s];rfl
 | .neg a=>by simp only [Cd.w,kX,wW,zbt a];rfl
 | .bin k a b=>by simp only [Cd.w,kX,wW,zbt a,zbt b];rfl
theorem zhR:∀ e:Dd,kX e.w=true
 | .ans s=>by simp only [Dd.w,kX,wW,uY s];rfl
 | .dbt x s=>by simp only [Dd.w,kX,wW,uY s];rfl
 | .dbw x=>rfl
 | .mov i=>rfl
theorem bY:∀ rs:List (Cd×Dd),wW (rs.map yH)=true
 | []=>rfl
 |r::rs=>by simp only [zzU,wW,yH,kX,zbt,zhR,bY rs];rfl
def rOk (r:Cd×Dd):Prop:=r.1.ok/\r.1.deep<=4/\r.2.ok
theorem zhK {r:Cd×Dd} (h:rOk r):sB (yH r)=true:=by
 show (yO r.1.w&&xA r.2.w)=true;rw [gY h.1,zg6 h.2.2];rfl
theorem zfn {G:Hw} {r:Cd×Dd} (h:rOk r):kn G (yH r):=⟨mX h.1,zgv h.2.2,trivial⟩
theorem zcL {r:Cd×Dd} (h:rOk r):∀ x∈tupL (yH r),yC x<=366:=fun x hx=>by
 have h1:=zcw h.1 h.2.1;have h2:=zd8 h.2.2;rcases List.mem_cons.mp hx with rfl|hx
 .exact h1
 .rw [zzO hx];omega
theorem zfU {r:Cd×Dd} (h:rOk r):yC (yH r)<=1000:=by
 have h1:=zcw h.1 h.2.1;have h2:=zd8 h.2.2;show yC r.1.w+(yC r.2.w+0)+1<=1000;omega
theorem zaL {G:Hw} {rs:List (Cd×Dd)} (h:∀ r∈rs,rOk r):pH G (rs.map yH):=zdc fun w hw=>by
 obtain ⟨r,hr,rfl⟩:=zzP hw;exact zfn (h r hr)
theorem zcQ {rs:List (Cd×Dd)} (h:∀ r∈rs,rOk r):rB (.tup (rs.map yH))=true:=by
 show (rs.map yH).all sB=true;rw [List.all_eq_true];intro w hw;obtain ⟨r,hr,rfl⟩:=zzP hw;exact zhK (h r hr)
theorem zaP {G:Hw} {rs:List (Cd×Dd)} (hl:rs.length<=30) (h:∀ r∈rs,rOk r):PrOk G (.tup (rs.map yH)):=⟨zaL h,by show (rs.map yH).length<=40;rw [zzM];omega,fun w hw x hx=>by
 obtain ⟨r,hr,rfl⟩:=zzP hw;have:=zcL (h r hr) x hx;omega⟩
theorem PrOk.keepG {G G':Hw} {w:W} (k:∀ p,((∃ l,G p=some (.lst l))\/∃ l,G p=some (.dic l))->(∃ l,G' p=some (.lst l))\/∃ l,G' p=some (.dic l)) (h:PrOk G w):PrOk G' w:=⟨jZ k h.kn,h.few,h.sz⟩
structure NoP (G:Hw) (w:W):Prop where
 pr:rB w=false
 is:PrOk G w
theorem NoP.mono:pL NoP:=fun _ _ _ k h=>⟨h.pr,h.is.keepG (kp0 k)⟩
theorem ziq {P:Hw->W->Prop} (mono:pL P) {G:Hw} {p:Addr} {ws:List W} (hp:G p=none) (a:∀ x∈ws,P G x):dG P (put G p (.lst ws)) p ws.length:=⟨ws,zV,rfl,fun x hx=>mono _ _ x (zW.new hp) (a x hx)⟩
theorem eqE {G:Hw} {xs:List W} (h:wW xs=true):bD G (.tup xs) (.tup [])=some (vF (.tup xs) (.tup [])):=by
 have c:(kX (.tup xs)&&kX (.tup [])&&decide (min (dep (.tup xs)) (dep (.tup []))<=150))=true:=by
  rw [show kX (.tup xs)=true from h,decide_eq_true (Nat.le_trans (Nat.min_le_right _ _) (by decide))];rfl
 exact if_pos c
section
variable {K : yG}
theorem zco {n:Nat} (hn:35<=n) {ws:List W} {G:Hw} {Q:Q3} (h:mB ws G Q XN):zH (yS K n) XN wF { nx:=fun _ G'=>Q .non G',rt:=Q } (yM tO ws) G:=by
 obtain ⟨d,l,rs,t,rfl,D,rl,ro,ok,ts,h⟩:=h;have ro:∀ r∈rs,rOk r:=ro;have e1:(yS K n).fn[1]?=some vE:=jX 1 hn rfl;have e3:(yS K n).fn[3]?=some eLst:=jX 3 hn rfl;have e9:(yS K n).fn[9]?=some uE:=jX 9 hn rfl;have e33:(yS K n).fn[33]?=some ⟨"_law_wrong_condition", xU 5⟩:=jX 33 hn rfl;have e34:(yS K n).fn[34]?=some ⟨"_law_wrong_deed", rH⟩:=jX 34 hn rfl;have s4:(yS K n).sx[4]?=some ⟨emM,emS⟩:=rfl;have z0:=sz 0 (by decide);have z1:=sz 1 (by decide);have z2:=sz 2 (by decide);have z3:=sz 3 (by decide);have z5:=sz 5 (by decide);have z8:=sz 8 (by decide);have ll:(rs.map yH).length=rs.length:=List.length_map _;show zH (yS K n) XN wF { nx:=fun _ G'=>Q .non G',rt:=Q } [some (.ref d),some (.tup (rs.map yH)),some t.w,none,none,none,none,none] G
 have alt:∀ G0:Hw,zW [d,l] G G0->xY G0 d l->∀ nx:qK->Hw->Prop,zH (yS K n) XN (.cons (.ret (.ix (.lst (.cons (.call 3 (.cons (.var 1) .nil)) (.cons (.tup (.cons (.var 1) .nil)) (.cons (.con .none) (.cons (.spc 4 .nil) (.cons (.con (.str "")) (.cons (.con (.int 5)) (.cons (.tup (.cons (.tup (.cons (.tup (.cons (.con (.str "any")) .nil)) .nil)) .nil)) (.cons (.bin .Add (.var 1) (.tup (.cons (.tup .nil) .nil))) .nil))))))))) (.call 9 (.cons (.var 0) (.cons (.con (.int 8)) .nil))))) .nil) { nx:=nx,rt:=Q } [some (.ref d),some (.tup (rs.map yH)),some t.w,none,none,none,none,none] G0:=by
  intro G0 k0 D0 nx;refine yQ ?_
  ((try dsimp only [zQ,zS,zM,zF,zB,yV,yU,zO,zU,zN,zT,zX,zR,zP,zJ,zL,yZ,zK,gZ,gS,tZ,tS]);try simp only [e3,lstS,nI,s4,emS,zzC,zzL,zzA,Nat.reduceAdd,z0,z1,z8,true_and])
  intro pa ha;have ka:zW [] G0 (put G0 pa (.lst (rs.map yH))):=zW.new ha;have ga:(put G0 pa (.lst (rs.map yH))) pa=some (.lst (rs.map yH)):=zV;generalize put G0 pa (.lst (rs.map yH))=G1 at ka ga ⊢;intro pb hb;have kb:zW [] G1 (put G1 pb (.dic [])):=zW.new hb;have gb:(put G1 pb (.dic [])) pb=some (.dic []):=zV;generalize put G1 pb (.dic [])=G2 at kb gb ⊢;have ga:=kb _ _ (by simp) ga;refine addT (by rw [ll];show rs.length+1<=3000;omega) ?_;have atom:∀ {G:Hw} {w:W},rB w=false->tupL w=[]->kn G w->NoP G w:=fun e z k=>⟨e,k,by rw [z];exact Nat.zero_le _,by rw [z];simp⟩
  have h2:NoP G2 (.tup [.tup (rs.map yH)]):=by
   refine ⟨?_,⟨zaL ro,trivial⟩,by show 1<=40;decide,fun r hr x hx=>?_⟩
   .show (sB (.tup (rs.map yH))&&true)=false;rw [Bool.and_true]
    match rs,ro with
    | [],_=>rfl
    | [_],_=>rfl
    | [a,b],_ =>
     show (yO (yH a)&&xA (yH b))=false;rw [show yO (yH a)=false by rw [yH,yO];rcases a with ⟨c,e⟩;cases c<;>rfl];rfl
    |_::_::_::_,_=>rfl
   .rw [zzO hr] at hx;obtain ⟨r,hr,rfl⟩:=zzP hx;exact zfU (ro r hr)
  have h8:NoP G2 (.tup (rs.map yH++[.tup []])):=by
   refine ⟨?_,(vV _ _).mpr ⟨zaL ro,trivial,trivial⟩,?_,fun w hw x hx=>?_⟩
   .show (rs.map yH++[W.tup []]).all sB=false;rw [List.all_append];show (_&&(sB (.tup [])&&true))=false;rw [show sB (.tup [])=false from rfl];simp
   .show (rs.map yH++[W.tup []]).length<=40;rw [zzW,ll];show rs.length+1<=40;omega
   .rcases List.mem_append.mp hw with hw|hw
    .obtain ⟨r,hr,rfl⟩:=zzP hw;have:=zcL (ro r hr) x hx;omega
    .rw [zzO hw] at hx;cases hx
  have h7:NoP G2 (.tup [.tup [.tup [.str "any"]]]):=⟨rfl,⟨⟨⟨xL (by decide +kernel),trivial⟩,trivial⟩,trivial⟩,by show 1<=40;decide,fun r hr x hx=>by
   rw [zzO hr] at hx;rw [zzO hx];show 1+0+1<=1000;decide⟩
  intro p hp;have m:=ziq NoP.mono hp (zZ (atom (w:=.ref pa) rfl rfl (.inl ⟨_,ga⟩)) (zZ h2 (zZ (atom (w:=.non) rfl rfl trivial) (zZ (atom (w:=.ref pb) rfl rfl (.inr ⟨_,gb⟩)) (zZ (atom (w:=.str "") rfl rfl (xL (by decide +kernel))) (zZ (atom (w:=.int 5) rfl rfl trivial) (zZ h7 (zZ h8 zD))))))));have k3:zW [] G2 (put G2 p (.lst [.ref pa,.tup [.tup (rs.map yH)],.non,.ref pb,.str "", .int 5,.tup [.tup [.tup [.str "any"]]],.tup (rs.map yH++[.tup []])])):=zW.new hp;generalize put G2 p (.lst [.ref pa,.tup [.tup (rs.map yH)],.non,.ref pb,.str "", .int 5,.tup [.tup [.tup [.str "any"]]],.tup (rs.map yH++[.tup []])])=G3 at m k3 ⊢;obtain ⟨xs,g,e,b⟩:=m;have e:xs.length=8:=e;have kz:=ka.trans kb;have D2:=wV kz D0;have np:=wY D2 hp;simp only [e9];refine ⟨d,l,8,rfl,wV k3 D2,by decide,fun i G4 i0 i1 k4 D4=>?_⟩;refine fA (zG (k4 _ _ np g)) ?_;obtain ⟨x,hx,ex⟩:=zbR (l:=xs) i0 (by rw [e];exact i1);rw [ex];have B:=b x hx;exact h x G4 B.pr (B.is.keepG (kpD k4 D4)) (k0.trans ((jT (kz.trans k3)).trans k4)) D4
 have rest:∀ G0:Hw,rs≠[]->zW [d,l] G G0->xY G0 d l->zH (yS K n) XN (tl wF) { nx:=fun _ G'=>Q .non G',rt:=Q } [some (.ref d),some (.tup (rs.map yH)),some t.w,none,none,none,none,none] G0:=by
  intro G0 hne k0 D0;have pos:0<rs.length:=List.length_pos_iff.mpr hne;simp only [wF,tl];refine yQ ?_
  ((try dsimp only [zQ,zS,zM,zF,zB,yV,yU,zO,zU,zN,zT,zX,zR,zP,zJ,zL,yZ,zK,gZ,gS,tZ,tS]);try simp only [e9,e1,jC,jD,ll])
  refine ⟨d,l,rs.length,rfl,D0,⟨by omega,by omega⟩,fun i G1 i0 i1 k1 D1=>?_⟩;have hi:i.toNat<rs.length:=by omega
  obtain ⟨r,er⟩:∃ r,rs[i.toNat]?=some r:=⟨_,List.getElem?_eq_getElem hi⟩;have hr:=ro r (List.mem_of_getElem? er);obtain ⟨c,e⟩:=r
  have ea:uJ (rs.map yH) i=some (yH (c,e)):=by
   unfold uJ mK;rw [if_pos i0,if_pos (by rw [ll];exact i1)];show (rs.map yH)[i.toNat]?=_;rw [List.getElem?_map,er];rfl
  refine yQ ?_
  ((try dsimp only [zQ,zS,zM,zF,zB,yV,yU,zO,zU,zN,zT,zX,zR,zP,zJ,zL,yZ,zK,gZ,gS,tZ,tS]);try simp only [pG,ea,yH])
  have kk:=k0.trans k1
  have fin:∀ (w:W) (G2:Hw) (v6:Option W),sB w=false->kn G2 w->(∀ x∈tupL w,yC x<=1000)->zW [d,l] G G2->xY G2 d l->zH (yS K n) XN (.cons (.ret (.bin .Add (.bin .Add (.sl (.var 1) .no (.yes (.var 3))) (.tup (.cons (.var 7) .nil))) (.sl (.var 1) (.yes (.bin .Add (.var 3) (.con (.int 1)))) .no))) .nil) { nx:=fun _ G'=>Q .non G',rt:=Q } [some (.ref d),some (.tup (rs.map yH)),some t.w,some (.int i),some c.w,some e.w,v6,some w] G2:=by
   intro w G2 v6 hw kw hs k2 D2;refine yQ ?_
   have ct1:uA (rs.map yH) none (some i)=(rs.map yH).take i.toNat:=by
    rw [show i=((i.toNat:Nat):Int) by omega];exact dQ (by rw [ll];omega)
   have ct2:uA (rs.map yH) (some (i+1)) none=(rs.map yH).drop (i.toNat+1):=by
    rw [show i+1=((i.toNat+1:Nat):Int) by omega];exact zbO (by rw [ll];omega)
   ((try dsimp only [zQ,zS,zM,zF,zB,yV,yU,zO,zU,zN,zT,zX,zR,zP,zJ,zL,yZ,zK,gZ,gS,tZ,tS]);try simp only [slR,jS,ct1,ct2,zzC,zzL,zzA,z1,true_and])
   refine ⟨sz _ (by rw [List.length_take,ll];omega),sz _ (by rw [zzW,List.length_take,List.length_drop,ll];simp only [List.length_cons,List.length_nil];omega),?_⟩
   have sub:∀ x,x∈(rs.map yH).take i.toNat++[w]++(rs.map yH).drop (i.toNat+1)->x=w\/∃ r∈rs,x=yH r:=fun x hx=>by
    rcases List.mem_append.mp hx with hx|hx
    .rcases List.mem_append.mp hx with hx|hx
     .obtain ⟨r,hr,rfl⟩:=zzP (List.mem_of_mem_take hx);exact .inr ⟨r,hr,rfl⟩
     .exact .inl (zzO hx)
    .obtain ⟨r,hr,rfl⟩:=zzP (List.mem_of_mem_drop hx);exact .inr ⟨r,hr,rfl⟩
   refine h _ G2 ?_ ⟨zdc fun x hx=>?_,?_,fun x hx y hy=>?_⟩ k2 D2
   .show ((rs.map yH).take i.toNat++[w]++(rs.map yH).drop (i.toNat+1)).all sB=false;rw [List.all_append,List.all_append,show ([w].all sB)=false by simp [hw]];simp
   .rcases sub x hx with rfl|⟨r,hr,rfl⟩
    .exact kw
    .exact zfn (ro r hr)
   .show ((rs.map yH).take i.toNat++[w]++(rs.map yH).drop (i.toNat+1)).length<=40;rw [zzW,zzW,List.length_take,List.length_drop,ll];simp only [List.length_cons,List.length_nil];omega
   .rcases sub x hx with rfl|⟨r,hr,rfl⟩
    .exact hs y hy
    .have:=zcL (ro r hr) y hy;omega
  have s1:yC c.w<=366:=zcw hr.1 hr.2.1;have s2:yC e.w<=21:=zd8 hr.2.2;have kc:∀ G,kn G c.w:=fun G=>mX hr.1;have ke:∀ G,kn G e.w:=fun G=>zgv hr.2.2;refine yQ ?_
  ((try dsimp only [zQ,zS,zM,zF,zB,yV,yU,zO,zU,zN,zT,zX,zR,zP,zJ,zL,yZ,zK,gZ,gS,tZ,tS]);try simp only [e9])
  refine ⟨d,l,5,rfl,D1,by decide,fun q G2 q0 q1 k2 D2=>?_⟩;have kk2:=kk.trans k2;refine yQ ?_
  ((try dsimp only [zQ,zS,zM,zF,zB,yV,yU,zO,zU,zN,zT,zX,zR,zP,zJ,zL,yZ,zK,gZ,gS,tZ,tS]);try simp only [yK,yR])
  by_cases hq:q=0
  .rw [decide_eq_true hq,if_pos rfl];refine yQ ?_
   ((try dsimp only [zQ,zS,zM,zF,zB,yV,yU,zO,zU,zN,zT,zX,zR,zP,zJ,zL,yZ,zK,gZ,gS,tZ,tS]);try simp only [e9,zzC,zzL,zzA,Nat.reduceAdd,z1,z2,z3,z5,true_and])
   intro pa ha;have ka:zW [] G2 (put G2 pa (.lst [c.w,e.w])):=zW.new ha;have ga:(put G2 pa (.lst [c.w,e.w])) pa=some (.lst [c.w,e.w]):=zV;generalize put G2 pa (.lst [c.w,e.w])=G3 at ka ga ⊢;intro pb hb;have kb:zW [] G3 (put G3 pb (.lst [.ref pa,.tup [c.w],.tup [c.w,e.w,e.w],.tup [e.w,c.w],.non])):=zW.new hb;have gb:(put G3 pb (.lst [.ref pa,.tup [c.w],.tup [c.w,e.w,e.w],.tup [e.w,c.w],.non])) pb=some (.lst [.ref pa,.tup [c.w],.tup [c.w,e.w,e.w],.tup [e.w,c.w],.non]):=zV;have D3:=wV ka D2;have nb:=wY D3 hb;generalize put G3 pb (.lst [.ref pa,.tup [c.w],.tup [c.w,e.w,e.w],.tup [e.w,c.w],.non])=G4 at kb gb ⊢;refine ⟨d,l,5,rfl,wV kb D3,by decide,fun j G5 j0 j1 k5 D5=>?_⟩;refine fA (zG (k5 _ _ nb gb)) ?_;have kz:=kk2.trans ((jT (ka.trans kb)).trans k5);have kn5:∀ {w:W},kn G3 w->kn G5 w:=fun h=>jZ (kpD k5 D5) (hR kb h);have hj:j=0\/j=1\/j=2\/j=3\/j=4:=by omega
   rcases hj with rfl|rfl|rfl|rfl|rfl
   .rw [tD];exact qR (Γ:=yS K n) (E:=XN) (fin _ G5 _ rfl (kn5 (.inl ⟨_,ga⟩)) (fun x hx=>by cases hx) kz D5)
   .rw [cO];exact qR (Γ:=yS K n) (E:=XN) (fin _ G5 _ rfl ⟨kc _,trivial⟩ (fun x hx=>by rw [zzO hx];omega) kz D5)
   .rw [at_2];refine qR (Γ:=yS K n) (E:=XN) (fin _ G5 _ rfl ⟨kc _,ke _,ke _,trivial⟩ (fun x hx=>?_) kz D5);rcases List.mem_cons.mp hx with rfl|hx
    .omega
    .rcases List.mem_cons.mp hx with rfl|hx
     .omega
     .rw [zzO hx];omega
   .rw [at_3];refine qR (Γ:=yS K n) (E:=XN) (fin _ G5 _ ?_ ⟨ke _,kc _,trivial⟩ (fun x hx=>?_) kz D5)
    .show (yO e.w&&xA c.w)=false;rw [zdC];rfl
    .rcases List.mem_cons.mp hx with rfl|hx
     .omega
     .rw [zzO hx];omega
   .rw [show uJ [W.ref pa,.tup [c.w],.tup [c.w,e.w,e.w],.tup [e.w,c.w],.non] 4=some .non from rfl];exact qR (Γ:=yS K n) (E:=XN) (fin _ G5 _ rfl trivial (fun x hx=>by cases hx) kz D5)
  .rw [decide_eq_false hq,if_neg zzN];refine yQ ?_
   ((try dsimp only [zQ,zS,zM,zF,zB,yV,yU,zO,zU,zN,zT,zX,zR,zP,zJ,zL,yZ,zK,gZ,gS,tZ,tS]);try simp only [yK,tU])
   by_cases hq3:q<3
   .rw [if_pos (by simpa using hq3)];refine yQ ?_
    ((try dsimp only [zQ,zS,zM,zF,zB,yV,yU,zO,zU,zN,zT,zX,zR,zP,zJ,zL,yZ,zK,gZ,gS,tZ,tS]);try simp only [e33,zzC,zzL,zzA,Nat.reduceAdd,z2,true_and])
    refine ⟨d,l,c,t,rfl,D2,hr.1,Nat.lt_succ_of_le hr.2.1,hr.2.1,ok,ts,fun w G3 B k3 D3=>?_⟩;refine qR (Γ:=yS K n) (E:=XN) (qR (Γ:=yS K n) (E:=XN) (fin _ G3 _ ?_ ⟨B.kn,ke _,trivial⟩ (fun x hx=>?_) (kk2.trans k3) D3))
    .show (yO w&&xA e.w)=false;rw [B.cd];rfl
    .have:=B.sz;rcases List.mem_cons.mp hx with rfl|hx
     .omega
     .rw [zzO hx];omega
   .rw [if_neg (by simpa using hq3)];refine yQ ?_
    ((try dsimp only [zQ,zS,zM,zF,zB,yV,yU,zO,zU,zN,zT,zX,zR,zP,zJ,zL,yZ,zK,gZ,gS,tZ,tS]);try simp only [e34,zzC,zzL,zzA,Nat.reduceAdd,z2,true_and])
    refine ⟨d,l,e,t,rfl,D2,hr.2.2,ok,ts,fun w G3 B k3 D3=>?_⟩;refine qR (Γ:=yS K n) (E:=XN) (qR (Γ:=yS K n) (E:=XN) (fin _ G3 _ ?_ ⟨kc _,B.kn,trivial⟩ (fun x hx=>?_) (kk2.trans k3) D3))
    .show (yO c.w&&xA w)=false;rw [B.dd];simp
    .have:=B.sz;rcases List.mem_cons.mp hx with rfl|hx
     .omega
     .rw [zzO hx];omega
 simp only [wF,tl] at rest;simp only [wF];refine yQ ?_
 ((try dsimp only [zQ,zS,zM,zF,zB,yV,yU,zO,zU,zN,zT,zX,zR,zP,zJ,zL,yZ,zK,gZ,gS,tZ,tS]);try simp only [yK,eqE (bY rs),List.length_nil,z0,true_and,e9])
 cases hrs:rs with
 |nil =>
  subst hrs;have e:vF (.tup (([]:List (Cd×Dd)).map yH)) (.tup [])=true:=by simp [vF,uB]
  rw [e];simp only [if_true];exact alt G zW.refl D _
 |cons r0 rs0 =>
  rw [← hrs];have hne:rs≠[]:=by rw [hrs];simp
  cases vF (.tup (rs.map yH)) (.tup []) with
  |true =>
   simp only [if_true];exact alt G zW.refl D _
  |false =>
   simp only [zzB,if_false];refine ⟨d,l,8,rfl,D,by decide,fun q G1 q0 q1 k1 D1=>?_⟩;simp only [yR]
   by_cases hq:q=0
   .rw [decide_eq_true hq,if_pos rfl];exact alt G1 k1 D1 _
   .rw [decide_eq_false hq,if_neg zzN];refine qR ?_;exact rest G1 hne k1 D1
end
theorem zee {G G':Hw} {d l:Addr} {w:W} {ns:List Int} (s:mP G w ns) (hd:G d=none) (hl:G l=none) (k:zW [d,l] G G'):mP G' w ns:=by
 rcases s with ⟨a,rfl,e⟩|rfl
 .have hn:∀ o,G a=some o->a∉[d,l]:=fun o eo hm=>by
   simp only [List.mem_cons,List.not_mem_nil,or_false] at hm;rcases hm with z|z
   .rw [z,hd] at eo;cases eo
   .rw [z,hl] at eo;cases eo
  refine .inl ⟨a,rfl,?_⟩;unfold yJ at e ⊢
  split at e
  .rename_i ws q;rw [k _ _ (hn _ q) q];exact e
  .rename_i ws q;rw [k _ _ (hn _ q) q];exact e
  .cases e
 .exact .inr rfl
structure It (G:Hw) (x:W):Prop where
 is:∃ (w:W) (b:Bool),x=.tup [w,.bl b]/\PrOk G w/\rB w=b
theorem It.mono:pL It:=fun _ _ _ k h=>by
 obtain ⟨w,b,e,p,q⟩:=h.is;exact ⟨w,b,e,p.keepG (kp0 k),q⟩
section
variable {K : yG}
theorem zgu {n:Nat} (hn:36<=n) {s0:W} {ns:List Int} {G:Hw} {Q:Q3} (sc:mP G s0 ns) (nl:ns.length<=63) (h:∀ G',Q (.bl true) G'):zH (yS K n) XN blaw { nx:=fun _ G'=>Q .non G',rt:=Q } (yM nlaw [s0]) G:=by
 have e1:(yS K n).fn[1]?=some vE:=jX 1 hn rfl;have e2:(yS K n).fn[2]?=some eAll:=jX 2 hn rfl;have e8:(yS K n).fn[8]?=some zi2:=jX 8 hn rfl;have e9:(yS K n).fn[9]?=some uE:=jX 9 hn rfl;have e10:(yS K n).fn[10]?=some ⟨"_law_names", hX⟩:=jX 10 hn rfl;have e11:(yS K n).fn[11]?=some ⟨"_law_saying", wX 8⟩:=jX 11 hn rfl;have e12:(yS K n).fn[12]?=some ⟨"_law_parts", wT 9⟩:=jX 12 hn rfl;have e17:(yS K n).fn[17]?=some ⟨"_law_program", sX⟩:=jX 17 hn rfl;have e31:(yS K n).fn[31]?=some ⟨"_law_told", zbk⟩:=jX 31 hn rfl;have e35:(yS K n).fn[35]?=some ⟨"_law_wrong", mB⟩:=jX 35 hn rfl;have i0:(yS K n).it[0]?=some eRng:=rfl;have t2:(yS K n).mt[2]?=some eApp:=rfl;have z0:=sz 0 (by decide);have z1:=sz 1 (by decide);have z2:=sz 2 (by decide);have z3:=sz 3 (by decide);show zH (yS K n) XN blaw { nx:=fun _ G'=>Q .non G',rt:=Q } [some s0,none,none,none,none,none] G;simp only [blaw];refine yQ ?_
 ((try dsimp only [zQ,zS,zM,zF,zB,yV,yU,zO,zU,zN,zT,zX,zR,zP,zJ,zL,yZ,zK,gZ,gS,tZ,tS]);try simp only [e8])
 refine ⟨s0,1,ns,rfl,sc,nl,by decide,fun d l G1 hd hl k1 D1=>?_⟩;refine yQ ?_
 ((try dsimp only [zQ,zS,zM,zF,zB,yV,yU,zO,zU,zN,zT,zX,zR,zP,zJ,zL,yZ,zK,gZ,gS,tZ,tS]);try simp only [e9,e10,e11,jS])
 refine ⟨d,l,3,rfl,D1,by decide,fun q2 G2 q20 q21 k2 D2=>?_⟩;refine ⟨d,l,1+q2,rfl,D2,by omega,by omega,fun r xs G3 hx0 lx ox nr gr k3 D3=>?_⟩;refine ⟨d,l,6,rfl,D3,by decide,fun q4 G4 q40 q41 k4 D4=>?_⟩;refine ⟨d,l,r,1+q4,xs,rfl,D4,nr,k4 _ _ nr gr,hx0,by omega,ox,by omega,by omega,by omega,fun t G5 ot tz k5 D5=>?_⟩;have kA:zW [d,l] G G5:=(jT k1).trans (k2.trans (k3.trans (k4.trans k5)));have ts:t.size<=6:=by omega
 have lo:=t.low;refine yQ ?_
 ((try dsimp only [zQ,zS,zM,zF,zB,yV,yU,zO,zU,zN,zT,zX,zR,zP,zJ,zL,yZ,zK,gZ,gS,tZ,tS]);try simp only [e12,e17])
 refine ⟨t,rfl,ot,ts,by omega,fun p ps G6 k6 hp gp pn pl pz=>?_⟩;have D6:=wV k6 D5;have S6:Says G6 d l p ps:=⟨D6,wY D5 hp,gp,pn,by omega,fun x hx=>⟨(pz x hx).1,by have:=(pz x hx).2;omega⟩⟩;refine ⟨d,l,p,ps,rfl,S6,fun rs G7 rl ro k7 D7=>?_⟩;have ro:∀ r∈rs,rOk r:=ro;have kB:zW [d,l] G G7:=kA.trans ((jT k6).trans k7);refine yQ ?_
 ((try dsimp only [zQ,zS,zM,zF,zB,yV,yU,zO,zU,zN,zT,zX,zR,zP,zJ,zL,yZ,zK,gZ,gS,tZ,tS]);try simp only [zzC,zzL,zzA,Nat.reduceAdd,z0,z1,z2,z3,true_and])
 intro q hq;have nq:=wY D7 hq
 have qG:G q=none:=by
  have e1:=(jT (S:=[d,l]) k1);exact kB.none nq hq
 have a1:It G7 (.tup [.tup (rs.map yH),.bl true]):=⟨_,_,rfl,zaP rl ro,zcQ ro⟩;have a2:It G7 (.tup [.tup [],.bl true]):=⟨_,_,rfl,zaP (rs:=[]) (by decide) (by simp),rfl⟩
 have o2:∀ r∈([(.any,.mov 0),(.any,.mov 999)]:List (Cd×Dd)),rOk r:=fun r hr=>by
  rcases List.mem_cons.mp hr with rfl|hr
  .exact ⟨trivial,Nat.zero_le _,by decide,by decide⟩
  .rw [zzO hr];exact ⟨trivial,Nat.zero_le _,by decide,by decide⟩
 have a3:It G7 (.tup [.tup [.tup [.tup [.str "any"],.tup [.str "move", .int 0]],.tup [.tup [.str "any"],.tup [.str "move", .int 999]]],.bl true]):=⟨_,_,rfl,zaP (rs:=[(.any,.mov 0),(.any,.mov 999)]) (by decide) o2,zcQ (rs:=[(.any,.mov 0),(.any,.mov 999)]) o2⟩;have m:=ziq It.mono hq (zZ a1 (zZ a2 (zZ a3 zD)));have k8:zW [] G7 (put G7 q (.lst [.tup [.tup (rs.map yH),.bl true],.tup [.tup [],.bl true],.tup [.tup [.tup [.tup [.str "any"],.tup [.str "move", .int 0]],.tup [.tup [.str "any"],.tup [.str "move", .int 999]]],.bl true]])):=zW.new hq;show zH (yS K n) XN _ _ _ (put G7 q (.lst [.tup [.tup (rs.map yH),.bl true],.tup [.tup [],.bl true],.tup [.tup [.tup [.tup [.str "any"],.tup [.str "move", .int 0]],.tup [.tup [.str "any"],.tup [.str "move", .int 999]]],.bl true]]));generalize put G7 q (.lst [.tup [.tup (rs.map yH),.bl true],.tup [.tup [],.bl true],.tup [.tup [.tup [.tup [.str "any"],.tup [.str "move", .int 0]],.tup [.tup [.str "any"],.tup [.str "move", .int 999]]],.bl true]])=G8 at m k8 ⊢;have D8:=wV k8 D7;have kC:zW [d,l] G G8:=kB.trans (jT k8);refine yQ ?_
 ((try dsimp only [zQ,zS,zM,zF,zB,yV,yU,zO,zU,zN,zT,zX,zR,zP,zJ,zL,yZ,zK,gZ,gS,tZ,tS]);try simp only [i0,e1,jS])
 refine (zee sc hd hl kC).sl fun r9 hr9=>?_;have ke:zW [] G8 (put G8 r9 (.lst (uA (ns.map W.int) (some 40) (some 63)))):=zW.new hr9;have ge:(put G8 r9 (.lst (uA (ns.map W.int) (some 40) (some 63)))) r9=some (.lst (uA (ns.map W.int) (some 40) (some 63))):=zV;generalize put G8 r9 (.lst (uA (ns.map W.int) (some 40) (some 63)))=G9 at ke ge ⊢
 have cl:(uA (ns.map W.int) (some 40) (some 63)).length<=63:=by
  unfold uA;rw [List.length_take,List.length_drop,zzM];omega
 simp only [jC,jD,ge];refine ⟨⟨by omega,by omega⟩,?_⟩;have m9:dG It G9 q 3:=m.keep It.mono ke;refine ⟨fun i σ G'=>∃ v5:Option W,σ=[some s0,some (.ref d),some t.w,some (.tup (rs.map yH)),some (.ref q),v5]/\xY G' d l/\dG It G' q (3+i),⟨none,rfl,wV ke D8,m9⟩,fun _ _ _ _ _=>trivial,?_,?_⟩
 .rintro i w σ G' hw ⟨v5,rfl,D',m'⟩
  have hi:i<70:=by
   have:=(List.getElem?_eq_some_iff.mp hw).1;simp only [zzM,List.length_range] at this;omega
  obtain ⟨xs,gx,ex,b⟩:=m';refine yQ ?_
  ((try dsimp only [zQ,zS,zM,zF,zB,yV,yU,zO,zU,zN,zT,zX,zR,zP,zJ,zL,yZ,zK,gZ,gS,tZ,tS]);try simp only [t2])
  refine ⟨tyL gx,?_⟩
  ((try dsimp only [zQ,zS,zM,zF,zB,yV,yU,zO,zU,zN,zT,zX,zR,zP,zJ,zL,yZ,zK,gZ,gS,tZ,tS]);try simp only [e35,zzC,zzL,zzA,Nat.reduceAdd,z2,true_and])
  refine ⟨d,l,rs,t,rfl,D',rl,ro,ot,ts,fun w G2 pw P2 k2 D2=>?_⟩;refine appL (k2 _ _ nq gx) (by omega) ?_;refine qR (Γ:=yS K n) (E:=XN) ?_
  have kx:∀ p,((∃ l,G2 p=some (.lst l))\/∃ l,G2 p=some (.dic l))->(∃ l,(put G2 q (.lst (xs++[.tup [w,.bl false]]))) p=some (.lst l))\/∃ l,(put G2 q (.lst (xs++[.tup [w,.bl false]]))) p=some (.dic l):=fun p hp=>by
   by_cases hpq:p=q
   .subst hpq;exact .inl ⟨_,zV⟩
   .rw [wJ hpq];exact hp
  refine ⟨_,rfl,pO nq D2,xs++[.tup [w,.bl false]],zV,by simp [ex];omega,fun x hx=>?_⟩;rcases List.mem_append.mp hx with hx|hx
  .obtain ⟨u,b',eu,pu,qu⟩:=(b x hx).is;exact ⟨u,b',eu,(pu.keepG (kpD k2 D2)).keepG kx,qu⟩
  .rw [zzO hx];exact ⟨w,false,rfl,P2.keepG kx,pw⟩
 .rintro σ G' ⟨v5,rfl,D',m'⟩;simp only [zzM,List.length_range] at m';obtain ⟨xs,gx,ex,b⟩:=m';have xl:xs.length<=100:=by omega
  refine yQ ?_
  ((try dsimp only [zQ,zS,zM,zF,zB,yV,yU,zO,zU,zN,zT,zX,zR,zP,zJ,zL,yZ,zK,gZ,gS,tZ,tS]);try simp only [e2,slR,zG gx])
  intro r1 hr1;have ct:uA xs none (some 1)=xs.take 1:=dQ (i:=1) (by omega);rw [ct];have k2:zW [] G' (put G' r1 (.lst (xs.take 1))):=zW.new hr1;have g2:(put G' r1 (.lst (xs.take 1))) r1=some (.lst (xs.take 1)):=zV;generalize put G' r1 (.lst (xs.take 1))=G2 at k2 g2 ⊢;refine addL (k2 _ _ (by simp) gx) g2 (by rw [List.length_take];omega) fun r2 hr2=>?_;have k3:zW [] G' (put G2 r2 (.lst (xs++xs.take 1))):=k2.trans (zW.new hr2);have g3:(put G2 r2 (.lst (xs++xs.take 1))) r2=some (.lst (xs++xs.take 1)):=zV;generalize put G2 r2 (.lst (xs++xs.take 1))=G3 at k3 g3 ⊢
  have all:∀ x∈xs++xs.take 1,It G3 x:=fun x hx=>by
   rcases List.mem_append.mp hx with hx|hx
   .exact It.mono _ _ x k3 (b x hx)
   .exact It.mono _ _ x k3 (b x (List.mem_of_mem_take hx))
  have len:(xs++xs.take 1).length<=200:=by rw [zzW,List.length_take];omega
  generalize xs++xs.take 1=ys at g3 all len;simp only [kJ,zG g3];refine ⟨fun i acc G4=>acc=List.replicate i (.bl true)/\zW [] G3 G4,⟨rfl,zW.refl⟩,?_,sz _ (by omega),?_,?_⟩
  .rintro i acc G4 ⟨rfl,k4⟩ hi;exact ⟨zG (k4 _ _ (by simp) g3),by simp⟩
  .rintro i w acc G4 hw ⟨rfl,k4⟩;obtain ⟨u,b',rfl,pu,qu⟩:=(all w (List.mem_of_getElem? hw)).is;simp only [dN,List.replicate,zzU,zzV,List.cons_append,List.nil_append,List.append_nil,gZ,gS,List.length_cons,List.length_nil]
   ((try dsimp only [zQ,zS,zM,zF,zB,yV,yU,zO,zU,zN,zT,zX,zR,zP,zJ,zL,yZ,zK,gZ,gS,tZ,tS]);try simp only [if_true,e31])
   refine ⟨u,b',rfl,pu.keepG (kp0 k4),qu,fun G5 k5=>⟨?_,k4.trans k5⟩⟩;exact List.replicate_succ'.symm
  .rintro acc G4 ⟨rfl,k4⟩ r4 hr4;refine ⟨List.replicate ys.length true,?_,?_⟩
   .rw [zG zV,List.map_replicate]
   .have ea:(List.replicate ys.length true).all id=true:=by simp
    show Q (.bl ((List.replicate ys.length true).all id)) _;rw [ea];exact h _
end
structure Txt (K:yG) (mg:Str->Option Value) (nA wA cA dA jA gA:Addr):Prop where
 deal:∃ f,mg "_law_deal" = some (.ref f)/\HD K "_law_deal" "_law_deal" jG .none f
 draw:∃ f,mg "_law_draw" = some (.ref f)/\HD K "_law_draw" "_law_draw" jI .none f
 names:∃ f,mg "_law_names" = some (.ref f)/\HD K "_law_names" "_law_names" wL .none f
 saying:∃ f,mg "_law_saying" = some (.ref f)/\HD K "_law_saying" "_law_saying" wZ .none f
 parts:∃ f,mg "_law_parts" = some (.ref f)/\HD K "_law_parts" "_law_parts" wM .none f
 word:∃ f,mg "_law_word" = some (.ref f)/\HD K "_law_word" "_law_word" jK .none f
 cond:∃ f,mg "_law_condition" = some (.ref f)/\HD K "_law_condition" "_law_condition" xW .none f
 deed:∃ f,mg "_law_deed" = some (.ref f)/\HD K "_law_deed" "_law_deed" jH .none f
 count:∃ f,mg "_law_count" = some (.ref f)/\HD K "_law_count" "_law_count" wK .none f
 program:∃ f,mg "_law_program" = some (.ref f)/\HD K "_law_program" "_law_program" xI .none f
 name:∃ f,mg "is_name" = some (.ref f)/\HD K "is_name" "is_name" kT .none f
 form:∃ f,mg "has_form" = some (.ref f)/\HD K "has_form" "has_form" qM .none f
 sides:∃ f,mg "sides_of" = some (.ref f)/\HD K "sides_of" "sides_of" qO .none f
 is_:∃ f,mg "is_saying" = some (.ref f)/\HD K "is_saying" "is_saying" jN .none f
 begins:∃ f,mg "begins_with_text" = some (.ref f)/\HD K "begins_with_text" "begins_with_text" yD .none f
 one:∃ f,mg "is_one_of" = some (.ref f)/\HD K "is_one_of" "is_one_of" jM .none f
 single:∃ f,mg "is_single" = some (.ref f)/\HD K "is_single" "is_single" jO .none f
 iscond:∃ f,mg "is_condition" = some (.ref f)/\HD K "is_condition" "is_condition" xJ .none f
 doubt:∃ f,mg "is_doubt" = some (.ref f)/\HD K "is_doubt" "is_doubt" qN .none f
 number:∃ f,mg "is_number" = some (.ref f)/\HD K "is_number" "is_number" jL .none f
 isdeed:∃ f,mg "is_deed" = some (.ref f)/\HD K "is_deed" "is_deed" kR .none f
 row:∃ f,mg "is_row" = some (.ref f)/\HD K "is_row" "is_row" vB .none f
 prog:∃ f,mg "is_program" = some (.ref f)/\HD K "is_program" "is_program" wP .none f
 told:∃ f,mg "_law_told" = some (.ref f)/\HD K "_law_told" "_law_told" jJ .none f
 nosay:∃ f,mg "_law_no_saying" = some (.ref f)/\HD K "_law_no_saying" "_law_no_saying" xX .none f
 wrongc:∃ f,mg "_law_wrong_condition" = some (.ref f)/\HD K "_law_wrong_condition" "_law_wrong_condition" yP .none f
 wrongd:∃ f,mg "_law_wrong_deed" = some (.ref f)/\HD K "_law_wrong_deed" "_law_wrong_deed" yA .none f
 wrong:∃ f,mg "_law_wrong" = some (.ref f)/\HD K "_law_wrong" "_law_wrong" wN .none f
 max:mg "max" = none
 len:mg "len" = none
 all:mg "all" = none
 list:mg "list" = none
 isi:mg "isinstance" = none
 tup:mg "tuple" = none
 int:mg "int" = none
 sum:mg "sum" = none
 range:mg "range" = none
 rev:mg "reversed" = none
 bool:mg "bool" = none
 str:mg "str" = none
 mgLONGEST_NAME:∃ t,mg "LONGEST_NAME" = some (.int 6 t)
 mgGREATEST_NUMBER:∃ t,mg "GREATEST_NUMBER" = some (.int 999 t)
 mgNO_NAMES:mg "NO_NAMES" = some (.ref nA)
 rpNO_NAMES:∀ H,wQ K H (.tup (noN.map .str)) (.ref nA)
 mgWORDS_OF_DEEDS:mg "WORDS_OF_DEEDS" = some (.ref wA)
 rpWORDS_OF_DEEDS:∀ H,wQ K H (.tup (kI.map .str)) (.ref wA)
 mgWORDS_OF_CONDITIONS:mg "WORDS_OF_CONDITIONS" = some (.ref cA)
 rpWORDS_OF_CONDITIONS:∀ H,wQ K H (.tup (sM.map .str)) (.ref cA)
 mgLENGTHS:mg "LENGTHS" = some (.ref dA)
 rpLENGTHS:∀ H,wQ K H (.dcf cR mL) (.ref dA)
 mgJOINED:mg "JOINED" = some (.ref jA)
 rpJOINED:∀ H,wQ K H (.dcf vT pV) (.ref jA)
 mgSINGLES:mg "SINGLES" = some (.ref gA)
 rpSINGLES:∀ H,wQ K H (.dcf gN gO) (.ref gA)
def rk (n:Nat):Nat:=2 * n+2+(if 12<=n then 8 else 0)+(if 13<=n then 9 else 0)+(if 15<=n then 5 else 0)+(if 17<=n then 60 else 0)+(if 34<=n then 5 else 0)
section
variable {q : Pr} {nA wA cA dA jA gA : Addr}
def Pn (q:Pr) (n:Nat):Prop:=∀ A,Room (rk n) A->∀ f∈(fnL q.K).take n,vO (q.at A) f
theorem ziW (T:Txt q.K q.mg nA wA cA dA jA gA) {l:List Fn3} {A:Around} (hu:A.units+200<cLine) (h:∀ f∈l,vO (q.at A) f):L3.Good (GamL l) (q.at A) :=
 zgK (Γ:=GamL l) hu h
  (zZ (qU T.mgLONGEST_NAME.choose_spec (v:=.int 6) ⟨_,rfl⟩ fun _=>rfl) (zZ (qU T.mgNO_NAMES (v:=.ref nA) rfl T.rpNO_NAMES) (zZ (qU T.mgLENGTHS (v:=.ref dA) rfl T.rpLENGTHS) (zZ (qU T.mgJOINED (v:=.ref jA) rfl T.rpJOINED) (zZ (qU T.mgSINGLES (v:=.ref gA) rfl T.rpSINGLES) (zZ (qU T.mgWORDS_OF_DEEDS (v:=.ref wA) rfl T.rpWORDS_OF_DEEDS) (zZ (qU T.mgWORDS_OF_CONDITIONS (v:=.ref cA) rfl T.rpWORDS_OF_CONDITIONS) (zZ (qU T.mgGREATEST_NUMBER.choose_spec (v:=.int 999) ⟨_,rfl⟩ fun _=>rfl) (zZ (hE T.bool (by decide +kernel)) (zZ (hE T.str (by decide +kernel)) (zZ (hE T.int (by decide +kernel)) (zZ (hE T.tup (by decide +kernel)) zD))))))))))))
  (zZ zgT (zZ ze3 (zZ zg1 (zZ (zgZ hu) (zZ zg0 zD)))))
  (zZ (zgR T.range) zD)
  zD
  (zZ (zgS T.list T.rev) (zZ ⟨zcx (qU T.mgLENGTHS (v:=.ref dA) rfl T.rpLENGTHS),nM _ _⟩ (zZ ⟨zcx (qU T.mgSINGLES (v:=.ref gA) rfl T.rpSINGLES),nM _ _⟩ (zZ ⟨zcx (qU T.mgJOINED (v:=.ref jA) rfl T.rpJOINED),nM _ _⟩ (zZ ⟨sx_em,ze4⟩ zD))))) rfl
theorem zbf {k:Nat} {A:Around} (hr:Room k A):A.units+200<cLine:=by have:=hr.un;omega
theorem good (T:Txt q.K q.mg nA wA cA dA jA gA) {n:Nat} (h:Pn q n):∀ A,Room (rk n) A->L3.Good (yS q.K n) (q.at A):=fun A hr=>ziW T (zbf hr) (h A hr)
theorem next {n:Nat} {e:Fn3} (h:Pn q n) (hk:rk n<=rk (n+1)) (he:(fnL q.K).take (n+1)=(fnL q.K).take n++[e]) (hx:∀ A,Room (rk (n+1)) A->vO (q.at A) e):Pn q (n+1):=fun A hr=>by
 rw [he];exact mV (h A (hr.mono hk)) (hx A hr)
theorem p8 (T:Txt q.K q.mg nA wA cA dA jA gA):Pn q 8:=fun A hr=>zZ (zgU T.max) (zZ (zgW T.len) (zZ (zg2 T.all) (zZ (zgV T.list) (zZ (zgX T.isi) (zZ (zgP T.tup) (zZ (zgY T.int) (zZ (zgQ T.sum) zD)))))))
theorem wR {n:Nat} {nm qual:Str} {st:Stmt} {f:Addr} {M:MC} {ps:List Str} {sp:uH} {body:ISs} (T:Txt q.K q.mg nA wA cA dA jA gA) (h:Pn q n) (hk:rk n+1<=rk (n+1)) (hm:q.mg nm=some (.ref f)) (hd:HD q.K nm qual st .none f) (S:FnScope M.N ps (zY st)) (eM:MOk (yS q.K n) M (zY st)) (look:kF body M (zI st)=true)
  (len:∀ ws G Q,sp ws G Q XN->ws.length=ps.length) (hb:∀ ws G Q,sp ws G Q XN->zH (yS q.K n) XN body { nx:=fun _ G'=>Q .non G',rt:=Q } (yM M.N ws) G) (mono:dF ⟨nm,sp⟩)
  (hbind:∀ (kV doc pm:Value) (an:Option Addr) (cdv ct:Value) (us:List Value),us.length=ps.length->bindArgs (fnOf nm qual (yX st) (zI st) (zY st) .none kV doc pm an cdv ct) ⟨us,[]⟩=pure (ps.zip us))
  (he:(fnL q.K).take (n+1)=(fnL q.K).take n++[⟨nm,sp⟩]):Pn q (n+1):=by
 obtain ⟨fd,F,_⟩:=hd.fd;have FO:=za1 F S (good T h) eM look len hb;exact next h (by omega) he fun A hr=>za0 FO hm F.kp (dJ F hbind) mono hr hk
theorem zc4 {n N:Nat} {nm qual:Str} {st:Stmt} {f:Addr} {M:MC} {ps:List Str} {sp:Nat->uH} {body:ISs} (T:Txt q.K q.mg nA wA cA dA jA gA) (h:Pn q n) (hk:rk n+N<=rk (n+1)) (hm:q.mg nm=some (.ref f)) (hd:HD q.K nm qual st .none f) (S:FnScope M.N ps (zY st)) (eM:∀ j,MOk (xK q.K n ⟨nm,sp j⟩) M (zY st)) (look:kF body M (zI st)=true)
  (h0:∀ ws G Q,¬ sp 0 ws G Q XN) (len:∀ j ws G Q,sp j ws G Q XN->ws.length=ps.length) (hb:∀ j ws G Q,sp (j+1) ws G Q XN->zH (xK q.K n ⟨nm,sp j⟩) XN body { nx:=fun _ G'=>Q .non G',rt:=Q } (yM M.N ws) G) (mono:∀ j,dF ⟨nm,sp j⟩)
  (hbind:∀ (kV doc pm:Value) (an:Option Addr) (cdv ct:Value) (us:List Value),us.length=ps.length->bindArgs (fnOf nm qual (yX st) (zI st) (zY st) .none kV doc pm an cdv ct) ⟨us,[]⟩=pure (ps.zip us))
  (he:(fnL q.K).take (n+1)=(fnL q.K).take n++[⟨nm,sp N⟩]):Pn q (n+1):=by
 obtain ⟨fd,F,_⟩:=hd.fd;have FO:=zfp (k:=rk n) (Γ:=fun e=>xK q.K n e) F S hm (dJ F hbind) h0 len mono (fun j A hr hx=>ziW T (zbf hr) (mV (h A hr) hx)) eM look hb N;exact next h (by omega) he fun A hr=>za0 FO hm F.kp (dJ F hbind) (mono N) hr hk
theorem usS {P:List Value->Prop} {n:Nat} (h:∀ a l,l.length=n->P (a::l)) (us:List Value) (e:us.length=n+1):P us:=by
 cases us with
 |nil=>exact absurd e (Nat.succ_ne_zero n).symm
 |cons a l=>exact h a l (Nat.succ.inj e)
theorem us0 {P:List Value->Prop} (h:P []) (us:List Value) (e:us.length=0):P us:=by
 cases us with
 |nil=>exact h
 |cons a l=>exact absurd e (Nat.succ_ne_zero _)
theorem us1 {P:List Value->Prop} (h:∀ a0,P [a0]):∀ us:List Value,us.length=1->P us:=usS (P:=fun l=>P (l)) (fun a0=>us0 (P:=fun l=>P (a0::l)) (h a0))
theorem us2 {P:List Value->Prop} (h:∀ a0 a1,P [a0,a1]):∀ us:List Value,us.length=2->P us:=usS (P:=fun l=>P (l)) (fun a0=>usS (P:=fun l=>P (a0::l)) (fun a1=>us0 (P:=fun l=>P (a0::a1::l)) (h a0 a1)))
theorem us3 {P:List Value->Prop} (h:∀ a0 a1 a2,P [a0,a1,a2]):∀ us:List Value,us.length=3->P us:=usS (P:=fun l=>P (l)) (fun a0=>usS (P:=fun l=>P (a0::l)) (fun a1=>usS (P:=fun l=>P (a0::a1::l)) (fun a2=>us0 (P:=fun l=>P (a0::a1::a2::l)) (h a0 a1 a2))))
theorem us4 {P:List Value->Prop} (h:∀ a0 a1 a2 a3,P [a0,a1,a2,a3]):∀ us:List Value,us.length=4->P us:=usS (P:=fun l=>P (l)) (fun a0=>usS (P:=fun l=>P (a0::l)) (fun a1=>usS (P:=fun l=>P (a0::a1::l)) (fun a2=>usS (P:=fun l=>P (a0::a1::a2::l)) (fun a3=>us0 (P:=fun l=>P (a0::a1::a2::a3::l)) (h a0 a1 a2 a3)))))
theorem p9 (T:Txt q.K q.mg nA wA cA dA jA gA):Pn q 9:=by
 obtain ⟨f,hm,hd⟩:=T.deal
 exact wR (sp:=zcB) (M:=fM) T (p8 T) (by decide) hm hd zaK ⟨rfl,rfl,rfl,rfl,rfl,rfl,rfl,rfl⟩ cS
  (fun ws G Q h=>by obtain ⟨a,b,ns,rfl,_⟩:=h;rfl) (fun ws G Q ⟨a,b,ns,e,h1,h2,h3,h4⟩=>by subst e;exact ze8 rfl rfl h1 h2 h3 h4) (zaA) (fun _ _ _ _ _ _=>us2 (fun _ _=>rfl)) rfl
theorem p10 (T:Txt q.K q.mg nA wA cA dA jA gA):Pn q 10:=by
 obtain ⟨f,hm,hd⟩:=T.draw
 exact wR (sp:=zcA) (M:=fO) T (p9 T) (by decide) hm hd zaI ⟨rfl,rfl,rfl,rfl,rfl,rfl,rfl,rfl⟩ cU
  (fun ws G Q h=>by obtain ⟨a,b,m,rfl,_⟩:=h;rfl) (fun ws G Q ⟨a,b,m,e,h1,h2,h3⟩=>by subst e;exact ze6 rfl rfl h1 h2 h3) (zaz) (fun _ _ _ _ _ _=>us2 (fun _ _=>rfl)) rfl
theorem p11 (T:Txt q.K q.mg nA wA cA dA jA gA):Pn q 11:=by
 obtain ⟨f,hm,hd⟩:=T.names
 exact wR (sp:=hX) (M:=nC) T (p10 T) (by decide) hm hd zae ⟨rfl,rfl,rfl,rfl,rfl,rfl,rfl,rfl⟩ fH
  (fun ws G Q h=>by obtain ⟨d,l,m,rfl,_⟩:=h;rfl) (fun ws G Q h=>zc2 (by decide) h) (fun ws G Q Q' E k hh=>by
   obtain ⟨d,l,m,h1,h2,h3,h4,h⟩:=hh;exact ⟨d,l,m,h1,h2,h3,h4,fun u0 u1 G' y0 y1 y2 y3 y4 y5 y6=>k _ _ (h u0 u1 G' y0 y1 y2 y3 y4 y5 y6)⟩) (fun _ _ _ _ _ _=>us2 (fun _ _=>rfl)) rfl
theorem p12 (T:Txt q.K q.mg nA wA cA dA jA gA):Pn q 12:=by
 obtain ⟨f,hm,hd⟩:=T.saying
 exact zc4 (N:=8) (sp:=wX) (M:=pX) T (p11 T) (by decide) hm hd dC (fun j=>⟨rfl,rfl,rfl,rfl,rfl,rfl,rfl,rfl⟩) mM
  (fun ws G Q hh=>by
   obtain ⟨d,l,r,m,xs,_,_,_,_,_,_,_,h1,h2,_⟩:=hh;omega) (fun j ws G Q h=>by obtain ⟨d,l,r,m,xs,rfl,_⟩:=h;rfl) (fun j ws G Q h=>zb2 h) (fun j ws G Q Q' E k hh=>by
   obtain ⟨d,l,r,m,xs,h1,h2,h3,h4,h5,h6,h7,h8,h9,h10,h⟩:=hh;exact ⟨d,l,r,m,xs,h1,h2,h3,h4,h5,h6,h7,h8,h9,h10,fun u0 G' y0 y1 y2 y3=>k _ _ (h u0 G' y0 y1 y2 y3)⟩) (fun _ _ _ _ _ _=>us3 fun _ _ _=>rfl) rfl
theorem p13 (T:Txt q.K q.mg nA wA cA dA jA gA):Pn q 13:=by
 obtain ⟨f,hm,hd⟩:=T.parts
 exact zc4 (N:=9) (sp:=wT) (M:=nE) T (p12 T) (by decide) hm hd zad (fun j=>⟨rfl,rfl,rfl,rfl,rfl,rfl,rfl,rfl⟩) fI
  (fun ws G Q hh=>by
   obtain ⟨t,_,_,_,h1,_⟩:=hh;omega) (fun j ws G Q h=>by obtain ⟨t,rfl,_⟩:=h;rfl) (fun j ws G Q h=>zcU h) (fun j ws G Q Q' E k hh=>by
   obtain ⟨t,h1,h2,h3,h4,h⟩:=hh;exact ⟨t,h1,h2,h3,h4,fun u0 u1 G' y0 y1 y2 y3 y4 y5=>k _ _ (h u0 u1 G' y0 y1 y2 y3 y4 y5)⟩) (fun _ _ _ _ _ _=>us1 fun _=>rfl) rfl
theorem p14 (T:Txt q.K q.mg nA wA cA dA jA gA):Pn q 14:=by
 obtain ⟨f,hm,hd⟩:=T.word
 exact wR (sp:=gQ) (M:=fQ) T (p13 T) (by decide) hm hd zaG ⟨rfl,rfl,rfl,rfl,rfl,rfl,rfl,rfl⟩ cW
  (fun ws G Q h=>by obtain ⟨d,l,t,rfl,_⟩:=h;rfl) (fun ws G Q h=>zdZ (by decide) h) (fun ws G Q Q' E k hh=>by
   obtain ⟨d,l,t,h1,h2,h⟩:=hh;exact ⟨d,l,t,h1,h2,fun u0 G' y0 y1 y2=>k _ _ (h u0 G' y0 y1 y2)⟩) (fun _ _ _ _ _ _=>us2 (fun _ _=>rfl)) rfl
theorem p15 (T:Txt q.K q.mg nA wA cA dA jA gA):Pn q 15:=by
 obtain ⟨f,hm,hd⟩:=T.cond
 exact zc4 (N:=5) (sp:=qX) (M:=uF) T (p14 T) (by decide) hm hd pD (fun j=>⟨rfl,rfl,rfl,rfl,rfl,rfl,rfl,rfl⟩) rP
  (fun ws G Q hh=>by
   obtain ⟨d,l,p,ps,k,_,_,h1,_⟩:=hh;omega) (fun j ws G Q h=>by obtain ⟨d,l,p,ps,k,rfl,_⟩:=h;rfl) (fun j ws G Q h=>zfc h) (fun j ws G Q Q' E k hh=>by
   obtain ⟨d,l,p,ps,kk,h1,h2,h3,h4,h⟩:=hh;exact ⟨d,l,p,ps,kk,h1,h2,h3,h4,fun u0 G' y0 y1 y2 y3=>k _ _ (h u0 G' y0 y1 y2 y3)⟩) (fun _ _ _ _ _ _=>us3 fun _ _ _=>rfl) rfl
theorem p16 (T:Txt q.K q.mg nA wA cA dA jA gA):Pn q 16:=by
 obtain ⟨f,hm,hd⟩:=T.deed
 exact wR (sp:=zbo) (M:=fN) T (p15 T) (by decide) hm hd zaJ ⟨rfl,rfl,rfl,rfl,rfl,rfl,rfl,rfl⟩ cT
  (fun ws G Q h=>by obtain ⟨d,l,p,ps,rfl,_⟩:=h;rfl) (fun ws G Q h=>ze7 (by decide) h) (fun ws G Q Q' E k hh=>by
   obtain ⟨d,l,p,ps,h1,h2,h⟩:=hh;exact ⟨d,l,p,ps,h1,h2,fun u0 G' y0 y1 y2=>k _ _ (h u0 G' y0 y1 y2)⟩) (fun _ _ _ _ _ _=>us2 (fun _ _=>rfl)) rfl
theorem p17 (T:Txt q.K q.mg nA wA cA dA jA gA):Pn q 17:=by
 obtain ⟨f,hm,hd⟩:=T.count
 exact zc4 (N:=60) (sp:=jQ) (M:=nB) T (p16 T) (by decide) hm hd zaf (fun j=>⟨rfl,rfl,rfl,rfl,rfl,rfl,rfl,rfl⟩) fG
  (fun ws G Q hh=>by
   obtain ⟨w,_,_,h1,_⟩:=hh;omega) (fun j ws G Q h=>by obtain ⟨w,rfl,_⟩:=h;rfl) (fun j ws G Q h=>zdH h) (fun j ws G Q Q' E k hh=>by
   obtain ⟨w,h1,h2,h3,h⟩:=hh;exact ⟨w,h1,h2,h3,fun u0 G' y0=>k _ _ (h u0 G' y0)⟩) (fun _ _ _ _ _ _=>us1 fun _=>rfl) rfl
theorem p18 (T:Txt q.K q.mg nA wA cA dA jA gA):Pn q 18:=by
 obtain ⟨f,hm,hd⟩:=T.program
 exact wR (sp:=sX) (M:=sG) T (p17 T) (by decide) hm hd gK ⟨rfl,rfl,rfl,rfl,rfl,rfl,rfl,rfl⟩ nQ
  (fun ws G Q h=>by obtain ⟨d,l,p,ps,rfl,_⟩:=h;rfl) (fun ws G Q h=>zaO (by decide) h) (fun ws G Q Q' E k hh=>by
   obtain ⟨d,l,p,ps,h1,h2,h⟩:=hh;exact ⟨d,l,p,ps,h1,h2,fun u0 G' y0 y1 y2 y3=>k _ _ (h u0 G' y0 y1 y2 y3)⟩) (fun _ _ _ _ _ _=>us4 (fun _ _ _ _=>rfl)) rfl
theorem p19 (T:Txt q.K q.mg nA wA cA dA jA gA):Pn q 19:=by
 obtain ⟨f,hm,hd⟩:=T.name
 exact wR (sp:=zbm) (M:=zbz) T (p18 T) (by decide) hm hd zcI ⟨rfl,rfl,rfl,rfl,rfl,rfl,rfl,rfl⟩ zaV
  (fun ws G Q h=>by obtain ⟨w,rfl,_⟩:=h;rfl) (fun ws G Q h=>zeC (by decide) h) (fun ws G Q Q' E k hh=>by
   obtain ⟨w,h1,h2,h⟩:=hh;exact ⟨w,h1,h2,h.mono k⟩) (fun _ _ _ _ _ _=>us1 (fun _=>rfl)) rfl
theorem p20 (T:Txt q.K q.mg nA wA cA dA jA gA):Pn q 20:=by
 obtain ⟨f,hm,hd⟩:=T.form
 exact wR (sp:=zbn) (M:=bT) T (p19 T) (by decide) hm hd zb1 ⟨rfl,rfl,rfl,rfl,rfl,rfl,rfl,rfl⟩ zak
  (fun ws G Q h=>by obtain ⟨w,rfl,_⟩:=h;rfl) (fun ws G Q h=>zeZ (by decide) h) (fun ws G Q Q' E k hh=>by
   obtain ⟨w,h1,h2,h⟩:=hh;exact ⟨w,h1,h2,h.mono k⟩) (fun _ _ _ _ _ _=>us1 (fun _=>rfl)) rfl
theorem p21 (T:Txt q.K q.mg nA wA cA dA jA gA):Pn q 21:=by
 obtain ⟨f,hm,hd⟩:=T.sides
 exact wR (sp:=hZ) (M:=bV) T (p20 T) (by decide) hm hd zbZ ⟨rfl,rfl,rfl,rfl,rfl,rfl,rfl,rfl⟩ zai
  (fun ws G Q h=>by obtain ⟨t,r,rfl,_⟩:=h;rfl) (fun ws G Q h=>zcD h) (fun ws G Q Q' E k hh=>by
   obtain ⟨t,r,h1,h2,h⟩:=hh;exact ⟨t,r,h1,h2,k _ _ h⟩) (fun _ _ _ _ _ _=>us1 (fun _=>rfl)) rfl
theorem p22 (T:Txt q.K q.mg nA wA cA dA jA gA):Pn q 22:=by
 obtain ⟨f,hm,hd⟩:=T.is_
 exact wR (sp:=spIs) (M:=fT) T (p21 T) (by decide) hm hd zaD ⟨rfl,rfl,rfl,rfl,rfl,rfl,rfl,rfl⟩ cZ
  (fun ws G Q h=>by obtain ⟨w,rfl,_⟩:=h;rfl) (fun ws G Q h=>ziR (by decide) h) (fun ws G Q Q' E k hh=>by
   obtain ⟨w,h1,h2,h3,h⟩:=hh;exact ⟨w,h1,h2,h3,h.mono k⟩) (fun _ _ _ _ _ _=>us1 (fun _=>rfl)) rfl
theorem p23 (T:Txt q.K q.mg nA wA cA dA jA gA):Pn q 23:=by
 obtain ⟨f,hm,hd⟩:=T.begins
 exact wR (sp:=tX) (M:=vY) T (p22 T) (by decide) hm hd sC ⟨rfl,rfl,rfl,rfl,rfl,rfl,rfl,rfl⟩ tJ
  (fun ws G Q h=>by obtain ⟨w,rfl,_⟩:=h;rfl) (fun ws G Q h=>zcj (by decide) h) (fun ws G Q Q' E k hh=>by
   obtain ⟨w,h1,h2,h⟩:=hh;exact ⟨w,h1,h2,k _ _ h⟩) (fun _ _ _ _ _ _=>us1 (fun _=>rfl)) rfl
theorem p24 (T:Txt q.K q.mg nA wA cA dA jA gA):Pn q 24:=by
 obtain ⟨f,hm,hd⟩:=T.one
 exact wR (sp:=zcz) (M:=fS) T (p23 T) (by decide) hm hd zaE ⟨rfl,rfl,rfl,rfl,rfl,rfl,rfl,rfl⟩ cY
  (fun ws G Q h=>by obtain ⟨w,xs,rfl,_⟩:=h;rfl) (fun ws G Q h=>zgk (by decide) h) (fun ws G Q Q' E k hh=>by
   obtain ⟨w,xs,h1,h2,h3,h⟩:=hh;exact ⟨w,xs,h1,h2,h3,k _ _ h⟩) (fun _ _ _ _ _ _=>us2 (fun _ _=>rfl)) rfl
theorem p25 (T:Txt q.K q.mg nA wA cA dA jA gA):Pn q 25:=by
 obtain ⟨f,hm,hd⟩:=T.single
 exact wR (sp:=rG) (M:=fU) T (p24 T) (by decide) hm hd zaC ⟨rfl,rfl,rfl,rfl,rfl,rfl,rfl,rfl⟩ dB
  (fun ws G Q h=>by obtain ⟨x,p,r,rfl,_⟩:=h;rfl) (fun ws G Q h=>zbX (by decide) h) (fun ws G Q Q' E k hh=>by
   obtain ⟨x,p,r,h1,h2,h3,h4,h⟩:=hh;exact ⟨x,p,r,h1,h2,h3,h4,h.mono k⟩) (fun _ _ _ _ _ _=>us2 (fun _ _=>rfl)) rfl
theorem p26 (T:Txt q.K q.mg nA wA cA dA jA gA):Pn q 26:=by
 obtain ⟨f,hm,hd⟩:=T.iscond
 exact wR (sp:=rD) (M:=sH) T (p25 T) (by decide) hm hd gL ⟨rfl,rfl,rfl,rfl,rfl,rfl,rfl,rfl⟩ nR
  (fun ws G Q h=>by obtain ⟨w,rfl,_⟩:=h;rfl) (fun ws G Q h=>zca (by decide) h) (fun ws G Q Q' E k hh=>by
   obtain ⟨w,h1,h2,h3,h⟩:=hh;exact ⟨w,h1,h2,h3,h.mono k⟩) (fun _ _ _ _ _ _=>us1 (fun _=>rfl)) rfl
theorem p27 (T:Txt q.K q.mg nA wA cA dA jA gA):Pn q 27:=by
 obtain ⟨f,hm,hd⟩:=T.doubt
 exact wR (sp:=hW) (M:=bU) T (p26 T) (by decide) hm hd zb0 ⟨rfl,rfl,rfl,rfl,rfl,rfl,rfl,rfl⟩ zaj
  (fun ws G Q h=>by obtain ⟨p,r,rfl,_⟩:=h;rfl) (fun ws G Q h=>zdy (by decide) h) (fun ws G Q Q' E k hh=>by
   obtain ⟨p,r,h1,h2,h3,h4,h⟩:=hh;exact ⟨p,r,h1,h2,h3,h4,h.mono k⟩) (fun _ _ _ _ _ _=>us1 (fun _=>rfl)) rfl
theorem p28 (T:Txt q.K q.mg nA wA cA dA jA gA):Pn q 28:=by
 obtain ⟨f,hm,hd⟩:=T.number
 exact wR (sp:=rF) (M:=fR) T (p27 T) (by decide) hm hd zaF ⟨rfl,rfl,rfl,rfl,rfl,rfl,rfl,rfl⟩ cX
  (fun ws G Q h=>by obtain ⟨w,rfl,_⟩:=h;rfl) (fun ws G Q h=>zb5 (by decide) h) (fun ws G Q Q' E k hh=>by
   obtain ⟨w,h1,h2,h⟩:=hh;exact ⟨w,h1,h2,k _ _ h⟩) (fun _ _ _ _ _ _=>us1 (fun _=>rfl)) rfl
theorem p29 (T:Txt q.K q.mg nA wA cA dA jA gA):Pn q 29:=by
 obtain ⟨f,hm,hd⟩:=T.isdeed
 exact wR (sp:=rE) (M:=zbA) T (p28 T) (by decide) hm hd zcJ ⟨rfl,rfl,rfl,rfl,rfl,rfl,rfl,rfl⟩ zaW
  (fun ws G Q h=>by obtain ⟨w,rfl,_⟩:=h;rfl) (fun ws G Q h=>zb9 (by decide) h) (fun ws G Q Q' E k hh=>by
   obtain ⟨w,h1,h2,h3,h⟩:=hh;exact ⟨w,h1,h2,h3,h.mono k⟩) (fun _ _ _ _ _ _=>us1 (fun _=>rfl)) rfl
theorem p30 (T:Txt q.K q.mg nA wA cA dA jA gA):Pn q 30:=by
 obtain ⟨f,hm,hd⟩:=T.row
 exact wR (sp:=zeb) (M:=zc5) T (p29 T) (by decide) hm hd zef ⟨rfl,rfl,rfl,rfl,rfl,rfl,rfl,rfl⟩ zb8
  (fun ws G Q h=>by obtain ⟨w,rfl,_⟩:=h;rfl) (fun ws G Q h=>zfV (by decide) h) (fun ws G Q Q' E k hh=>by
   obtain ⟨w,h1,h2,h3,h⟩:=hh;exact ⟨w,h1,h2,h3,h.mono k⟩) (fun _ _ _ _ _ _=>us1 (fun _=>rfl)) rfl
theorem p31 (T:Txt q.K q.mg nA wA cA dA jA gA):Pn q 31:=by
 obtain ⟨f,hm,hd⟩:=T.prog
 exact wR (sp:=zbl) (M:=nG) T (p30 T) (by decide) hm hd zab ⟨rfl,rfl,rfl,rfl,rfl,rfl,rfl,rfl⟩ fK
  (fun ws G Q h=>by obtain ⟨w,rfl,_⟩:=h;rfl) (fun ws G Q h=>zeq (by decide) h) (fun ws G Q Q' E k hh=>by
   obtain ⟨w,h1,h2,h⟩:=hh;exact ⟨w,h1,h2,h.mono k⟩) (fun _ _ _ _ _ _=>us1 (fun _=>rfl)) rfl
theorem p32 (T:Txt q.K q.mg nA wA cA dA jA gA):Pn q 32:=by
 obtain ⟨f,hm,hd⟩:=T.told
 exact wR (sp:=zbk) (M:=fP) T (p31 T) (by decide) hm hd zaH ⟨rfl,rfl,rfl,rfl,rfl,rfl,rfl,rfl⟩ cV
  (fun ws G Q h=>by obtain ⟨w,b,rfl,_⟩:=h;rfl) (fun ws G Q h=>zd5 (by decide) h) (fun ws G Q Q' E k hh=>by
   obtain ⟨w,b,h1,h2,h3,h⟩:=hh;exact ⟨w,b,h1,h2,h3,h.mono k⟩) (fun _ _ _ _ _ _=>us2 (fun _ _=>rfl)) rfl
theorem p33 (T:Txt q.K q.mg nA wA cA dA jA gA):Pn q 33:=by
 obtain ⟨f,hm,hd⟩:=T.nosay
 exact wR (sp:=kU) (M:=uG) T (p32 T) (by decide) hm hd pE ⟨rfl,rfl,rfl,rfl,rfl,rfl,rfl,rfl⟩ rQ
  (fun ws G Q h=>by obtain ⟨d,l,t,rfl,_⟩:=h;rfl) (fun ws G Q h=>zah (by decide) h) (fun ws G Q Q' E k hh=>by
   obtain ⟨d,l,t,h1,h2,h3,h4,h⟩:=hh;exact ⟨d,l,t,h1,h2,h3,h4,fun u0 G' y0 y1 y2=>k _ _ (h u0 G' y0 y1 y2)⟩) (fun _ _ _ _ _ _=>us2 (fun _ _=>rfl)) rfl
theorem p34 (T:Txt q.K q.mg nA wA cA dA jA gA):Pn q 34:=by
 obtain ⟨f,hm,hd⟩:=T.wrongc
 exact zc4 (N:=5) (sp:=xU) (M:=qQ) T (p33 T) (by decide) hm hd vA (fun j=>⟨rfl,rfl,rfl,rfl,rfl,rfl,rfl,rfl⟩) vK
  (fun ws G Q hh=>by
   obtain ⟨d,l,c,t,_,_,_,h1,_⟩:=hh;omega) (fun j ws G Q h=>by obtain ⟨d,l,c,t,rfl,_⟩:=h;rfl) (fun j ws G Q h=>zbU h) (fun j ws G Q Q' E k hh=>by
   obtain ⟨d,l,c,t,h1,h2,h3,h4,h5,h6,h7,h⟩:=hh;exact ⟨d,l,c,t,h1,h2,h3,h4,h5,h6,h7,fun u0 G' y0 y1 y2=>k _ _ (h u0 G' y0 y1 y2)⟩) (fun _ _ _ _ _ _=>us3 fun _ _ _=>rfl) rfl
theorem p35 (T:Txt q.K q.mg nA wA cA dA jA gA):Pn q 35:=by
 obtain ⟨f,hm,hd⟩:=T.wrongd
 exact wR (sp:=rH) (M:=vG) T (p34 T) (by decide) hm hd rC ⟨rfl,rfl,rfl,rfl,rfl,rfl,rfl,rfl⟩ sK
  (fun ws G Q h=>by obtain ⟨d,l,e,t,rfl,_⟩:=h;rfl) (fun ws G Q h=>zbT (by decide) h) (fun ws G Q Q' E k hh=>by
   obtain ⟨d,l,e,t,h1,h2,h3,h4,h5,h⟩:=hh;exact ⟨d,l,e,t,h1,h2,h3,h4,h5,fun u0 G' y0 y1 y2=>k _ _ (h u0 G' y0 y1 y2)⟩) (fun _ _ _ _ _ _=>us3 (fun _ _ _=>rfl)) rfl
theorem p36 (T:Txt q.K q.mg nA wA cA dA jA gA):Pn q 36:=by
 obtain ⟨f,hm,hd⟩:=T.wrong
 exact wR (sp:=mB) (M:=nF) T (p35 T) (by decide) hm hd zac ⟨rfl,rfl,rfl,rfl,rfl,rfl,rfl,rfl⟩ fJ
  (fun ws G Q h=>by obtain ⟨d,l,rs,t,rfl,_⟩:=h;rfl) (fun ws G Q h=>zco (by decide) h) (fun ws G Q Q' E k hh=>by
   obtain ⟨d,l,rs,t,h1,h2,h3,h4,h5,h6,h⟩:=hh;exact ⟨d,l,rs,t,h1,h2,h3,h4,h5,h6,fun u0 G' y0 y1 y2 y3=>k _ _ (h u0 G' y0 y1 y2 y3)⟩) (fun _ _ _ _ _ _=>us3 (fun _ _ _=>rfl)) rfl
theorem zix {P:Program} {w:World} {K:yG} {mg:Str->Option Value} (T:Txt K mg nA wA cA dA jA gA) {f:Addr} (hd:HD K "law" "law" slaw .none f):∃ fd:FuncData,(∀ (s:Shared) (u:Value),BindsTo s fd ⟨[u],[]⟩ [("_law_script", u)])/\∀ base:Heap,FnOk P w K mg base CX0 162 f fd ["_law_script"] (sF K cE):=by
 obtain ⟨fd,F,kV,doc,pm,an,cdv,ct,e⟩:=hd.fd;refine ⟨fd,fun s u=>by subst e;exact .of_eq rfl,fun base=>za1 (q:=⟨P,w,K,mg,base⟩) (k:=161) (sp:=cE) (M:=mlaw) F sclaw (good (q:=⟨P,w,K,mg,base⟩) T (p36 T)) ⟨rfl,rfl,rfl,rfl,rfl,rfl,rfl,rfl⟩ zgr (fun ws G Q h=>by obtain ⟨a,ns,rfl,_⟩:=h;rfl) fun ws G Q h=>?_⟩;obtain ⟨a,ns,rfl,hs,hl,h⟩:=h;exact zgu (by decide) hs hl h
end
theorem all_mk {l:PySem.W.OpenLaw} {w:World} {K:yG} {h:Heap} {mg:Str->Option Value} {fa nA wA cA dA jA gA f1 f2 f3 f4 f5 f6 f7 f8 f9 f10 f11 f12 f13 f14 f15 f16 f17 f18 f19 f20 f21 f22 f23 f24 f25 f26 f27 f28 f29:Addr} (X:K.In h) (G:h.Ns mainGlobals mg) (hfa:mg "law" = some (.ref fa))
  {od1 an1 od2 an2 od3 an3 od4 an4 od5 an5 od6 an6 od7 an7 od8 an8 od9 an9 od10 an10 od11 an11 od12 an12 od13 an13 od14 an14 od15 an15 od16 an16 od17 an17 od18 an18 od19 an19 od20 an20 od21 an21 od22 an22 od23 an23 od24 an24 od25 an25 od26 an26 od27 an27 od28 an28 od29 an29:Option Addr} {sl1 sl2 sl3 sl4 sl5 sl6 sl7 sl8 sl9 sl10 sl11 sl12 sl13 sl14 sl15 sl16 sl17 sl18 sl19 sl20 sl21 sl22 sl23 sl24 sl25 sl26 sl27 sl28 sl29:Array (Option Value)} {oc1 kV1 dc1 pm1 cd1 ct1 oc2 kV2 dc2 pm2 cd2 ct2 oc3 kV3 dc3 pm3 cd3 ct3 oc4 kV4 dc4 pm4 cd4 ct4 oc5 kV5 dc5 pm5 cd5 ct5 oc6 kV6 dc6 pm6 cd6 ct6 oc7 kV7 dc7 pm7 cd7 ct7 oc8 kV8 dc8 pm8 cd8 ct8 oc9 kV9 dc9 pm9 cd9 ct9 oc10 kV10 dc10 pm10 cd10 ct10 oc11 kV11 dc11 pm11 cd11 ct11 oc12 kV12 dc12 pm12 cd12 ct12 oc13 kV13 dc13 pm13 cd13 ct13 oc14 kV14 dc14 pm14 cd14 ct14 oc15 kV15 dc15 pm15 cd15 ct15 oc16 kV16 dc16 pm16 cd16 ct16 oc17 kV17 dc17 pm17 cd17 ct17 oc18 kV18 dc18 pm18 cd18 ct18 oc19 kV19 dc19 pm19 cd19 ct19 oc20 kV20 dc20 pm20 cd20 ct20 oc21 kV21 dc21 pm21 cd21 ct21 oc22 kV22 dc22 pm22 cd22 ct22 oc23 kV23 dc23 pm23 cd23 ct23 oc24 kV24 dc24 pm24 cd24 ct24 oc25 kV25 dc25 pm25 cd25 ct25 oc26 kV26 dc26 pm26 cd26 ct26 oc27 kV27 dc27 pm27 cd27 ct27 oc28 kV28 dc28 pm28 cd28 ct28 oc29 kV29 dc29 pm29 cd29 ct29:Value} {onA owA ocA:Option Addr} {snA swA scA:Array (Option Value)} {tLONGEST_NAME tGREATEST_NUMBER tnA0 tnA1 tnA2 tnA3 twA0 twA1 twA2 twA3 twA4 tcA0 tcA1 tcA2 tcA3 tcA4 tcA5 kdA0 kdA1 kdA2 kdA3 kdA4 idA0 idA1 idA2 idA3 idA4 kjA0 kjA1 kjA2 ijA0 ijA1 ijA2 kgA0 kgA1 kgA2 kgA3 kgA4 kgA5 kgA6 kgA7 igA0 igA1 igA2 igA3 igA4 igA5 igA6 igA7:Tok} {nnA nwA ncA ndA njA ngA:Nat} {hdA0 hdA1 hdA2 hdA3 hdA4 hjA0 hjA1 hjA2 hgA0 hgA1 hgA2 hgA3 hgA4 hgA5 hgA6 hgA7:Int}
  (a1:nsIn K mainGlobals "_law_deal" = some (some (.ref f1))) (l1:K.lookup f1=some ⟨oc1,od1,.func (fnOf "_law_deal" "_law_deal" (yX jG) (zI jG) (zY jG) .none kV1 dc1 pm1 an1 cd1 ct1),sl1⟩) (c1:codeIn K cd1 "_law_deal" = true) (k1:keepIn K (.ref f1)=true)
  (a2:nsIn K mainGlobals "_law_draw" = some (some (.ref f2))) (l2:K.lookup f2=some ⟨oc2,od2,.func (fnOf "_law_draw" "_law_draw" (yX jI) (zI jI) (zY jI) .none kV2 dc2 pm2 an2 cd2 ct2),sl2⟩) (c2:codeIn K cd2 "_law_draw" = true) (k2:keepIn K (.ref f2)=true)
  (a3:nsIn K mainGlobals "_law_names" = some (some (.ref f3))) (l3:K.lookup f3=some ⟨oc3,od3,.func (fnOf "_law_names" "_law_names" (yX wL) (zI wL) (zY wL) .none kV3 dc3 pm3 an3 cd3 ct3),sl3⟩) (c3:codeIn K cd3 "_law_names" = true) (k3:keepIn K (.ref f3)=true)
  (a4:nsIn K mainGlobals "_law_saying" = some (some (.ref f4))) (l4:K.lookup f4=some ⟨oc4,od4,.func (fnOf "_law_saying" "_law_saying" (yX wZ) (zI wZ) (zY wZ) .none kV4 dc4 pm4 an4 cd4 ct4),sl4⟩) (c4:codeIn K cd4 "_law_saying" = true) (k4:keepIn K (.ref f4)=true)
  (a5:nsIn K mainGlobals "_law_parts" = some (some (.ref f5))) (l5:K.lookup f5=some ⟨oc5,od5,.func (fnOf "_law_parts" "_law_parts" (yX wM) (zI wM) (zY wM) .none kV5 dc5 pm5 an5 cd5 ct5),sl5⟩) (c5:codeIn K cd5 "_law_parts" = true) (k5:keepIn K (.ref f5)=true)
  (a6:nsIn K mainGlobals "_law_word" = some (some (.ref f6))) (l6:K.lookup f6=some ⟨oc6,od6,.func (fnOf "_law_word" "_law_word" (yX jK) (zI jK) (zY jK) .none kV6 dc6 pm6 an6 cd6 ct6),sl6⟩) (c6:codeIn K cd6 "_law_word" = true) (k6:keepIn K (.ref f6)=true)
  (a7:nsIn K mainGlobals "_law_condition" = some (some (.ref f7))) (l7:K.lookup f7=some ⟨oc7,od7,.func (fnOf "_law_condition" "_law_condition" (yX xW) (zI xW) (zY xW) .none kV7 dc7 pm7 an7 cd7 ct7),sl7⟩) (c7:codeIn K cd7 "_law_condition" = true) (k7:keepIn K (.ref f7)=true)
  (a8:nsIn K mainGlobals "_law_deed" = some (some (.ref f8))) (l8:K.lookup f8=some ⟨oc8,od8,.func (fnOf "_law_deed" "_law_deed" (yX jH) (zI jH) (zY jH) .none kV8 dc8 pm8 an8 cd8 ct8),sl8⟩) (c8:codeIn K cd8 "_law_deed" = true) (k8:keepIn K (.ref f8)=true)
  (a9:nsIn K mainGlobals "_law_count" = some (some (.ref f9))) (l9:K.lookup f9=some ⟨oc9,od9,.func (fnOf "_law_count" "_law_count" (yX wK) (zI wK) (zY wK) .none kV9 dc9 pm9 an9 cd9 ct9),sl9⟩) (c9:codeIn K cd9 "_law_count" = true) (k9:keepIn K (.ref f9)=true)
  (a10:nsIn K mainGlobals "_law_program" = some (some (.ref f10))) (l10:K.lookup f10=some ⟨oc10,od10,.func (fnOf "_law_program" "_law_program" (yX xI) (zI xI) (zY xI) .none kV10 dc10 pm10 an10 cd10 ct10),sl10⟩) (c10:codeIn K cd10 "_law_program" = true) (k10:keepIn K (.ref f10)=true)
  (a11:nsIn K mainGlobals "is_name" = some (some (.ref f11))) (l11:K.lookup f11=some ⟨oc11,od11,.func (fnOf "is_name" "is_name" (yX kT) (zI kT) (zY kT) .none kV11 dc11 pm11 an11 cd11 ct11),sl11⟩) (c11:codeIn K cd11 "is_name" = true) (k11:keepIn K (.ref f11)=true)
  (a12:nsIn K mainGlobals "has_form" = some (some (.ref f12))) (l12:K.lookup f12=some ⟨oc12,od12,.func (fnOf "has_form" "has_form" (yX qM) (zI qM) (zY qM) .none kV12 dc12 pm12 an12 cd12 ct12),sl12⟩) (c12:codeIn K cd12 "has_form" = true) (k12:keepIn K (.ref f12)=true)
  (a13:nsIn K mainGlobals "sides_of" = some (some (.ref f13))) (l13:K.lookup f13=some ⟨oc13,od13,.func (fnOf "sides_of" "sides_of" (yX qO) (zI qO) (zY qO) .none kV13 dc13 pm13 an13 cd13 ct13),sl13⟩) (c13:codeIn K cd13 "sides_of" = true) (k13:keepIn K (.ref f13)=true)
  (a14:nsIn K mainGlobals "is_saying" = some (some (.ref f14))) (l14:K.lookup f14=some ⟨oc14,od14,.func (fnOf "is_saying" "is_saying" (yX jN) (zI jN) (zY jN) .none kV14 dc14 pm14 an14 cd14 ct14),sl14⟩) (c14:codeIn K cd14 "is_saying" = true) (k14:keepIn K (.ref f14)=true)
  (a15:nsIn K mainGlobals "begins_with_text" = some (some (.ref f15))) (l15:K.lookup f15=some ⟨oc15,od15,.func (fnOf "begins_with_text" "begins_with_text" (yX yD) (zI yD) (zY yD) .none kV15 dc15 pm15 an15 cd15 ct15),sl15⟩) (c15:codeIn K cd15 "begins_with_text" = true) (k15:keepIn K (.ref f15)=true)
  (a16:nsIn K mainGlobals "is_one_of" = some (some (.ref f16))) (l16:K.lookup f16=some ⟨oc16,od16,.func (fnOf "is_one_of" "is_one_of" (yX jM) (zI jM) (zY jM) .none kV16 dc16 pm16 an16 cd16 ct16),sl16⟩) (c16:codeIn K cd16 "is_one_of" = true) (k16:keepIn K (.ref f16)=true)
  (a17:nsIn K mainGlobals "is_single" = some (some (.ref f17))) (l17:K.lookup f17=some ⟨oc17,od17,.func (fnOf "is_single" "is_single" (yX jO) (zI jO) (zY jO) .none kV17 dc17 pm17 an17 cd17 ct17),sl17⟩) (c17:codeIn K cd17 "is_single" = true) (k17:keepIn K (.ref f17)=true)
  (a18:nsIn K mainGlobals "is_condition" = some (some (.ref f18))) (l18:K.lookup f18=some ⟨oc18,od18,.func (fnOf "is_condition" "is_condition" (yX xJ) (zI xJ) (zY xJ) .none kV18 dc18 pm18 an18 cd18 ct18),sl18⟩) (c18:codeIn K cd18 "is_condition" = true) (k18:keepIn K (.ref f18)=true)
  (a19:nsIn K mainGlobals "is_doubt" = some (some (.ref f19))) (l19:K.lookup f19=some ⟨oc19,od19,.func (fnOf "is_doubt" "is_doubt" (yX qN) (zI qN) (zY qN) .none kV19 dc19 pm19 an19 cd19 ct19),sl19⟩) (c19:codeIn K cd19 "is_doubt" = true) (k19:keepIn K (.ref f19)=true)
  (a20:nsIn K mainGlobals "is_number" = some (some (.ref f20))) (l20:K.lookup f20=some ⟨oc20,od20,.func (fnOf "is_number" "is_number" (yX jL) (zI jL) (zY jL) .none kV20 dc20 pm20 an20 cd20 ct20),sl20⟩) (c20:codeIn K cd20 "is_number" = true) (k20:keepIn K (.ref f20)=true)
  (a21:nsIn K mainGlobals "is_deed" = some (some (.ref f21))) (l21:K.lookup f21=some ⟨oc21,od21,.func (fnOf "is_deed" "is_deed" (yX kR) (zI kR) (zY kR) .none kV21 dc21 pm21 an21 cd21 ct21),sl21⟩) (c21:codeIn K cd21 "is_deed" = true) (k21:keepIn K (.ref f21)=true)
  (a22:nsIn K mainGlobals "is_row" = some (some (.ref f22))) (l22:K.lookup f22=some ⟨oc22,od22,.func (fnOf "is_row" "is_row" (yX vB) (zI vB) (zY vB) .none kV22 dc22 pm22 an22 cd22 ct22),sl22⟩) (c22:codeIn K cd22 "is_row" = true) (k22:keepIn K (.ref f22)=true)
  (a23:nsIn K mainGlobals "is_program" = some (some (.ref f23))) (l23:K.lookup f23=some ⟨oc23,od23,.func (fnOf "is_program" "is_program" (yX wP) (zI wP) (zY wP) .none kV23 dc23 pm23 an23 cd23 ct23),sl23⟩) (c23:codeIn K cd23 "is_program" = true) (k23:keepIn K (.ref f23)=true)
  (a24:nsIn K mainGlobals "_law_told" = some (some (.ref f24))) (l24:K.lookup f24=some ⟨oc24,od24,.func (fnOf "_law_told" "_law_told" (yX jJ) (zI jJ) (zY jJ) .none kV24 dc24 pm24 an24 cd24 ct24),sl24⟩) (c24:codeIn K cd24 "_law_told" = true) (k24:keepIn K (.ref f24)=true)
  (a25:nsIn K mainGlobals "_law_no_saying" = some (some (.ref f25))) (l25:K.lookup f25=some ⟨oc25,od25,.func (fnOf "_law_no_saying" "_law_no_saying" (yX xX) (zI xX) (zY xX) .none kV25 dc25 pm25 an25 cd25 ct25),sl25⟩) (c25:codeIn K cd25 "_law_no_saying" = true) (k25:keepIn K (.ref f25)=true)
  (a26:nsIn K mainGlobals "_law_wrong_condition" = some (some (.ref f26))) (l26:K.lookup f26=some ⟨oc26,od26,.func (fnOf "_law_wrong_condition" "_law_wrong_condition" (yX yP) (zI yP) (zY yP) .none kV26 dc26 pm26 an26 cd26 ct26),sl26⟩) (c26:codeIn K cd26 "_law_wrong_condition" = true) (k26:keepIn K (.ref f26)=true)
  (a27:nsIn K mainGlobals "_law_wrong_deed" = some (some (.ref f27))) (l27:K.lookup f27=some ⟨oc27,od27,.func (fnOf "_law_wrong_deed" "_law_wrong_deed" (yX yA) (zI yA) (zY yA) .none kV27 dc27 pm27 an27 cd27 ct27),sl27⟩) (c27:codeIn K cd27 "_law_wrong_deed" = true) (k27:keepIn K (.ref f27)=true)
  (a28:nsIn K mainGlobals "_law_wrong" = some (some (.ref f28))) (l28:K.lookup f28=some ⟨oc28,od28,.func (fnOf "_law_wrong" "_law_wrong" (yX wN) (zI wN) (zY wN) .none kV28 dc28 pm28 an28 cd28 ct28),sl28⟩) (c28:codeIn K cd28 "_law_wrong" = true) (k28:keepIn K (.ref f28)=true)
  (a29:nsIn K mainGlobals "law" = some (some (.ref f29))) (l29:K.lookup f29=some ⟨oc29,od29,.func (fnOf "law" "law" (yX slaw) (zI slaw) (zY slaw) .none kV29 dc29 pm29 an29 cd29 ct29),sl29⟩) (c29:codeIn K cd29 "law" = true) (k29:keepIn K (.ref f29)=true)
  (z0:nsIn K mainGlobals "max" = some none)
  (z1:nsIn K mainGlobals "len" = some none)
  (z2:nsIn K mainGlobals "all" = some none)
  (z3:nsIn K mainGlobals "list" = some none)
  (z4:nsIn K mainGlobals "isinstance" = some none)
  (z5:nsIn K mainGlobals "tuple" = some none)
  (z6:nsIn K mainGlobals "int" = some none)
  (z7:nsIn K mainGlobals "sum" = some none)
  (z8:nsIn K mainGlobals "range" = some none)
  (z9:nsIn K mainGlobals "reversed" = some none)
  (z10:nsIn K mainGlobals "bool" = some none)
  (z11:nsIn K mainGlobals "str" = some none)
  (aLONGEST_NAME:nsIn K mainGlobals "LONGEST_NAME" = some (some (.int 6 tLONGEST_NAME)))
  (aGREATEST_NUMBER:nsIn K mainGlobals "GREATEST_NUMBER" = some (some (.int 999 tGREATEST_NUMBER)))
  (aNO_NAMES:nsIn K mainGlobals "NO_NAMES" = some (some (.ref nA))) (lNO_NAMES:K.lookup nA=some ⟨.type "tuple", onA,.seq #[.str "and" tnA0,.str "or" tnA1,.str "not" tnA2,.str "then" tnA3] nnA,snA⟩)
  (aWORDS_OF_DEEDS:nsIn K mainGlobals "WORDS_OF_DEEDS" = some (some (.ref wA))) (lWORDS_OF_DEEDS:K.lookup wA=some ⟨.type "tuple", owA,.seq #[.str "left" twA0,.str "right" twA1,.str "which" twA2,.str "if" twA3,.str "not" twA4] nwA,swA⟩)
  (aWORDS_OF_CONDITIONS:nsIn K mainGlobals "WORDS_OF_CONDITIONS" = some (some (.ref cA))) (lWORDS_OF_CONDITIONS:K.lookup cA=some ⟨.type "tuple", ocA,.seq #[.str "begin" tcA0,.str "left" tcA1,.str "right" tcA2,.str "which" tcA3,.str "if" tcA4,.str "not" tcA5] ncA,scA⟩)
  (aLENGTHS:nsIn K mainGlobals "LENGTHS" = some (some (.ref dA))) (lLENGTHS:K.lookup dA=some ⟨.type "dict", none,.dict #[⟨hdA0,.str "say" kdA0,.int 2 idA0⟩,⟨hdA1,.str "not" kdA1,.int 2 idA1⟩,⟨hdA2,.str "and" kdA2,.int 3 idA2⟩,⟨hdA3,.str "or" kdA3,.int 3 idA3⟩,⟨hdA4,.str "if" kdA4,.int 3 idA4⟩] ndA,#[]⟩) (hwLENGTHS:(dA==sysModules)=false)
  (aJOINED:nsIn K mainGlobals "JOINED" = some (some (.ref jA))) (lJOINED:K.lookup jA=some ⟨.type "dict", none,.dict #[⟨hjA0,.str "not" kjA0,.int 1 ijA0⟩,⟨hjA1,.str "and" kjA1,.int 2 ijA1⟩,⟨hjA2,.str "or" kjA2,.int 2 ijA2⟩] njA,#[]⟩) (hwJOINED:(jA==sysModules)=false)
  (aSINGLES:nsIn K mainGlobals "SINGLES" = some (some (.ref gA))) (lSINGLES:K.lookup gA=some ⟨.type "dict", none,.dict #[⟨hgA0,.str "any" kgA0,.int 0 igA0⟩,⟨hgA1,.str "said" kgA1,.int 1 igA1⟩,⟨hgA2,.str "fresh" kgA2,.int 1 igA2⟩,⟨hgA3,.str "heard" kgA3,.int 1 igA3⟩,⟨hgA4,.str "open" kgA4,.int 2 igA4⟩,⟨hgA5,.str "used" kgA5,.int 2 igA5⟩,⟨hgA6,.str "asked" kgA6,.int 2 igA6⟩,⟨hgA7,.str "answered" kgA7,.int 2 igA7⟩] ngA,#[]⟩) (hwSINGLES:(gA==sysModules)=false) :
  ∃ fd:FuncData,(∀ (s:Shared) (u:Value),BindsTo s fd ⟨[u],[]⟩ [("_law_script", u)])/\∀ base:Heap,K.In base->base.Ns mainGlobals mg->FnOk l.prog w K mg base CX0 162 fa fd ["_law_script"] (sF K cE):=by
 have e:=hfa.symm.trans (mg_of X G a29);cases e;have sz0:∀ k:Nat,k<=8->k<=sizeLine:=fun k hk=>by rw [sizeLine_eq];omega
 have T:Txt K mg nA wA cA dA jA gA:={
  deal:=⟨f1,mg_of X G a1,HD.mk' l1 c1 k1⟩
  draw:=⟨f2,mg_of X G a2,HD.mk' l2 c2 k2⟩
  names:=⟨f3,mg_of X G a3,HD.mk' l3 c3 k3⟩
  saying:=⟨f4,mg_of X G a4,HD.mk' l4 c4 k4⟩
  parts:=⟨f5,mg_of X G a5,HD.mk' l5 c5 k5⟩
  word:=⟨f6,mg_of X G a6,HD.mk' l6 c6 k6⟩
  cond:=⟨f7,mg_of X G a7,HD.mk' l7 c7 k7⟩
  deed:=⟨f8,mg_of X G a8,HD.mk' l8 c8 k8⟩
  count:=⟨f9,mg_of X G a9,HD.mk' l9 c9 k9⟩
  program:=⟨f10,mg_of X G a10,HD.mk' l10 c10 k10⟩
  name:=⟨f11,mg_of X G a11,HD.mk' l11 c11 k11⟩
  form:=⟨f12,mg_of X G a12,HD.mk' l12 c12 k12⟩
  sides:=⟨f13,mg_of X G a13,HD.mk' l13 c13 k13⟩
  is_:=⟨f14,mg_of X G a14,HD.mk' l14 c14 k14⟩
  begins:=⟨f15,mg_of X G a15,HD.mk' l15 c15 k15⟩
  one:=⟨f16,mg_of X G a16,HD.mk' l16 c16 k16⟩
  single:=⟨f17,mg_of X G a17,HD.mk' l17 c17 k17⟩
  iscond:=⟨f18,mg_of X G a18,HD.mk' l18 c18 k18⟩
  doubt:=⟨f19,mg_of X G a19,HD.mk' l19 c19 k19⟩
  number:=⟨f20,mg_of X G a20,HD.mk' l20 c20 k20⟩
  isdeed:=⟨f21,mg_of X G a21,HD.mk' l21 c21 k21⟩
  row:=⟨f22,mg_of X G a22,HD.mk' l22 c22 k22⟩
  prog:=⟨f23,mg_of X G a23,HD.mk' l23 c23 k23⟩
  told:=⟨f24,mg_of X G a24,HD.mk' l24 c24 k24⟩
  nosay:=⟨f25,mg_of X G a25,HD.mk' l25 c25 k25⟩
  wrongc:=⟨f26,mg_of X G a26,HD.mk' l26 c26 k26⟩
  wrongd:=⟨f27,mg_of X G a27,HD.mk' l27 c27 k27⟩
  wrong:=⟨f28,mg_of X G a28,HD.mk' l28 c28 k28⟩
  max:=mg_none_of X G z0
  len:=mg_none_of X G z1
  all:=mg_none_of X G z2
  list:=mg_none_of X G z3
  isi:=mg_none_of X G z4
  tup:=mg_none_of X G z5
  int:=mg_none_of X G z6
  sum:=mg_none_of X G z7
  range:=mg_none_of X G z8
  rev:=mg_none_of X G z9
  bool:=mg_none_of X G z10
  str:=mg_none_of X G z11
  mgLONGEST_NAME:=⟨tLONGEST_NAME,mg_of X G aLONGEST_NAME⟩
  mgGREATEST_NUMBER:=⟨tGREATEST_NUMBER,mg_of X G aGREATEST_NUMBER⟩
  mgNO_NAMES:=mg_of X G aNO_NAMES
  rpNO_NAMES:=zaM (vs:=[.str "and", .str "or", .str "not", .str "then"]) lNO_NAMES rfl rfl (sz0 4 (by decide)) (.cons ⟨_,rfl⟩ (.cons ⟨_,rfl⟩ (.cons ⟨_,rfl⟩ (.cons ⟨_,rfl⟩ .nil)))) fun H=>⟨_,_,rfl,rfl,⟨_,_,rfl,rfl,⟨_,_,rfl,rfl,⟨_,_,rfl,rfl,rfl⟩⟩⟩⟩
  mgWORDS_OF_DEEDS:=mg_of X G aWORDS_OF_DEEDS
  rpWORDS_OF_DEEDS:=zaM (vs:=[.str "left", .str "right", .str "which", .str "if", .str "not"]) lWORDS_OF_DEEDS rfl rfl (sz0 5 (by decide)) (.cons ⟨_,rfl⟩ (.cons ⟨_,rfl⟩ (.cons ⟨_,rfl⟩ (.cons ⟨_,rfl⟩ (.cons ⟨_,rfl⟩ .nil))))) fun H=>⟨_,_,rfl,rfl,⟨_,_,rfl,rfl,⟨_,_,rfl,rfl,⟨_,_,rfl,rfl,⟨_,_,rfl,rfl,rfl⟩⟩⟩⟩⟩
  mgWORDS_OF_CONDITIONS:=mg_of X G aWORDS_OF_CONDITIONS
  rpWORDS_OF_CONDITIONS:=zaM (vs:=[.str "begin", .str "left", .str "right", .str "which", .str "if", .str "not"]) lWORDS_OF_CONDITIONS rfl rfl (sz0 6 (by decide)) (.cons ⟨_,rfl⟩ (.cons ⟨_,rfl⟩ (.cons ⟨_,rfl⟩ (.cons ⟨_,rfl⟩ (.cons ⟨_,rfl⟩ (.cons ⟨_,rfl⟩ .nil)))))) fun H=>⟨_,_,rfl,rfl,⟨_,_,rfl,rfl,⟨_,_,rfl,rfl,⟨_,_,rfl,rfl,⟨_,_,rfl,rfl,⟨_,_,rfl,rfl,rfl⟩⟩⟩⟩⟩⟩
  mgLENGTHS:=mg_of X G aLENGTHS
  rpLENGTHS:=fun H=>⟨dA,[.int 2,.int 2,.int 3,.int 3,.int 3],rfl,⟨_,_,_,lLENGTHS,⟨rfl,rfl,rfl⟩,rfl,sz0 5 (by decide),hwLENGTHS,⟨"say", kdA0,.int 2,_,_,rfl,rfl,rfl,⟨_,rfl⟩,⟨"not", kdA1,.int 2,_,_,rfl,rfl,rfl,⟨_,rfl⟩,⟨"and", kdA2,.int 3,_,_,rfl,rfl,rfl,⟨_,rfl⟩,⟨"or", kdA3,.int 3,_,_,rfl,rfl,rfl,⟨_,rfl⟩,⟨"if", kdA4,.int 3,_,_,rfl,rfl,rfl,⟨_,rfl⟩,⟨rfl,rfl⟩⟩⟩⟩⟩⟩⟩,⟨_,_,rfl,rfl,⟨_,_,rfl,rfl,⟨_,_,rfl,rfl,⟨_,_,rfl,rfl,⟨_,_,rfl,rfl,rfl⟩⟩⟩⟩⟩⟩
  mgJOINED:=mg_of X G aJOINED
  rpJOINED:=fun H=>⟨jA,[.int 1,.int 2,.int 2],rfl,⟨_,_,_,lJOINED,⟨rfl,rfl,rfl⟩,rfl,sz0 3 (by decide),hwJOINED,⟨"not", kjA0,.int 1,_,_,rfl,rfl,rfl,⟨_,rfl⟩,⟨"and", kjA1,.int 2,_,_,rfl,rfl,rfl,⟨_,rfl⟩,⟨"or", kjA2,.int 2,_,_,rfl,rfl,rfl,⟨_,rfl⟩,⟨rfl,rfl⟩⟩⟩⟩⟩,⟨_,_,rfl,rfl,⟨_,_,rfl,rfl,⟨_,_,rfl,rfl,rfl⟩⟩⟩⟩
  mgSINGLES:=mg_of X G aSINGLES
  rpSINGLES:=fun H=>⟨gA,[.int 0,.int 1,.int 1,.int 1,.int 2,.int 2,.int 2,.int 2],rfl,⟨_,_,_,lSINGLES,⟨rfl,rfl,rfl⟩,rfl,sz0 8 (by decide),hwSINGLES,⟨"any", kgA0,.int 0,_,_,rfl,rfl,rfl,⟨_,rfl⟩,⟨"said", kgA1,.int 1,_,_,rfl,rfl,rfl,⟨_,rfl⟩,⟨"fresh", kgA2,.int 1,_,_,rfl,rfl,rfl,⟨_,rfl⟩,⟨"heard", kgA3,.int 1,_,_,rfl,rfl,rfl,⟨_,rfl⟩,⟨"open", kgA4,.int 2,_,_,rfl,rfl,rfl,⟨_,rfl⟩,⟨"used", kgA5,.int 2,_,_,rfl,rfl,rfl,⟨_,rfl⟩,⟨"asked", kgA6,.int 2,_,_,rfl,rfl,rfl,⟨_,rfl⟩,⟨"answered", kgA7,.int 2,_,_,rfl,rfl,rfl,⟨_,rfl⟩,⟨rfl,rfl⟩⟩⟩⟩⟩⟩⟩⟩⟩⟩,⟨_,_,rfl,rfl,⟨_,_,rfl,rfl,⟨_,_,rfl,rfl,⟨_,_,rfl,rfl,⟨_,_,rfl,rfl,⟨_,_,rfl,rfl,⟨_,_,rfl,rfl,⟨_,_,rfl,rfl,rfl⟩⟩⟩⟩⟩⟩⟩⟩⟩ }
 obtain ⟨fd,hb,hF⟩:=zix (P:=l.prog) (w:=w) T (HD.mk' l29 c29 k29);exact ⟨fd,hb,fun base _ _=>hF base⟩
end K47
namespace PySem.W.Fast
def tw17386022081554414994:=0
def tw3919934820067158551:=0
def tw7550756584421154767:=0
def tw1033171453956754686:=0
def tw1371797487561615494:=0
def tw17728543240946912982:=0
def tw5867736407429405629:=0
def tw11917299473520017954:=0
def tw11512674068203465631:=0
def tw12192336908024347554:=0
def tw5939839700006723725:=0
def tw13969194704263068081:=0
def tw5435464577934023443:=0
def tw10234239605574743675:=0
def tw4053820833347762055:=0
def tw3132196517598035491:=0
def tw604653149754642375:=0
def tw17451262311705723698:=0
def tw5095793012786412375:=0
def tw7712786110610338556:=0
def tw10477034784195590908:=0
def tw11240826996935683772:=0
def tw12210764464981144021:=0
def tw17074191509689124980:=0
def tw16057509734105014446:=0
def tw7016283074576928753:=0
def tw13451561528358234357:=0
def tw14191069895859734913:=0
def tw9657957004620287026:=0
def tw15637411310805157983:=0
def tw8524892061856717561:=0
def tw16454442294133308517:=0
def tw9064746620264656495:=0
def tw14814335370183167308:=0
def tw17610426844291562299:=0
def tw12558774880663549903:=0
def tw17923789323244003200:=0
def tw14001038676412772478:=0
def tw15517813181383236938:=0
def tw7324672866598664225:=0
def tw6556471018356490542:=0
def tw13832734237556978452:=0
def tw1221161793800150031:=0
def tw271952538919259385:=0
def tw9077627249062033333:=0
def tw223548281695365290:=0
def tw7378762521170977718:=0
def tw1721387925307320359:=0
def tw15426896724573689375:=0
def tw17986714961844635940:=0
def tw15520018960558003184:=0
def tw4326934017331809108:=0
def tw3973132289063329158:=0
def tw8735588638003266548:=0
def tw529615179598018841:=0
def tw2597152955019968341:=0
def tw7604729082249042949:=0
def tw1254893263994103166:=0
def tw10836487780498460897:=0
def tw4454880162841720902:=0
def tw9090050414595237153:=0
def tw4039288790919081220:=0
def tw8806361629084949482:=0
def tw16952325989811546912:=0
def tw14464126988119354903:=0
def tw14548687401010016489:=0
def tw9113378890127370835:=0
def tw13210003087390400551:=0
def tw11409582521431465850:=0
def tw9081786955960906318:=0
def tw1939984394721571425:=0
def tw1130154895527420623:=0
def tw7887003073320607274:=0
def tw13448376874956011794:=0
def tw9596257331732360327:=0
def tw8421684106467866806:=0
def tw8431511769352693384:=0
def tw5173492313920523261:=0
def tw14981629514684550603:=0
def tw5375914985640166353:=0
def tw4280250153452463542:=0
def tw1180874991324814886:=0
def tw4675179195270616567:=0
def tw3351963683289722799:=0
def tw8882589957649786068:=0
def tw963069926376514411:=0
def tw7519910686156017867:=0
def tw9033652758382912698:=0
def tw2359507808550110940:=0
def tw10918668927886511205:=0
end PySem.W.Fast
open PySem PySem.W PyProof.Rows
set_option maxRecDepth 100000 in
set_option maxHeartbeats 0 in
theorem PySem.Challenge.cw_talkcourt_k47_programs_or_none_holds : PySem.Challenge.rw_talkcourt_k47_programs_or_none.Holds := by
 w_on;o_law;k_head;(case hw=>w_witness2)
 k_fill
 refine L3.walk3 (l:=PySem.Challenge.rw_talkcourt_k47_programs_or_none) (k:=162) rfl rfl ⟨rfl,rfl,by decide,by decide⟩ (fun w h Y=>PySem.W.kIn_of Y) ?F
 case F =>
  intro w mg fa h KX G hmg;refine' K47.all_mk KX G hmg ?a1 ?l1 ?c1 ?k1 ?a2 ?l2 ?c2 ?k2 ?a3 ?l3 ?c3 ?k3 ?a4 ?l4 ?c4 ?k4 ?a5 ?l5 ?c5 ?k5 ?a6 ?l6 ?c6 ?k6 ?a7 ?l7 ?c7 ?k7 ?a8 ?l8 ?c8 ?k8 ?a9 ?l9 ?c9 ?k9 ?a10 ?l10 ?c10 ?k10 ?a11 ?l11 ?c11 ?k11 ?a12 ?l12 ?c12 ?k12 ?a13 ?l13 ?c13 ?k13 ?a14 ?l14 ?c14 ?k14 ?a15 ?l15 ?c15 ?k15 ?a16 ?l16 ?c16 ?k16 ?a17 ?l17 ?c17 ?k17 ?a18 ?l18 ?c18 ?k18 ?a19 ?l19 ?c19 ?k19 ?a20 ?l20 ?c20 ?k20 ?a21 ?l21 ?c21 ?k21 ?a22 ?l22 ?c22 ?k22 ?a23 ?l23 ?c23 ?k23 ?a24 ?l24 ?c24 ?k24 ?a25 ?l25 ?c25 ?k25 ?a26 ?l26 ?c26 ?k26 ?a27 ?l27 ?c27 ?k27 ?a28 ?l28 ?c28 ?k28 ?a29 ?l29 ?c29 ?k29 ?z0 ?z1 ?z2 ?z3 ?z4 ?z5 ?z6 ?z7 ?z8 ?z9 ?z10 ?z11 ?aLONGEST_NAME ?aGREATEST_NUMBER ?aNO_NAMES ?lNO_NAMES ?aWORDS_OF_DEEDS ?lWORDS_OF_DEEDS ?aWORDS_OF_CONDITIONS ?lWORDS_OF_CONDITIONS ?aLENGTHS ?lLENGTHS ?hwLENGTHS ?aJOINED ?lJOINED ?hwJOINED ?aSINGLES ?lSINGLES ?hwSINGLES
  case a1|l1|c1|k1|a2|l2|c2|k2|a3|l3|c3|k3|a4|l4|c4|k4|a5|l5|c5|k5|a6|l6|c6|k6|a7|l7|c7|k7|a8|l8|c8|k8|a9|l9|c9|k9|a10|l10|c10|k10|a11|l11|c11|k11|a12|l12|c12|k12|a13|l13|c13|k13|a14|l14|c14|k14|a15|l15|c15|k15|a16|l16|c16|k16|a17|l17|c17|k17|a18|l18|c18|k18|a19|l19|c19|k19|a20|l20|c20|k20|a21|l21|c21|k21|a22|l22|c22|k22|a23|l23|c23|k23|a24|l24|c24|k24|a25|l25|c25|k25|a26|l26|c26|k26|a27|l27|c27|k27|a28|l28|c28|k28|a29|l29|c29|k29|z0|z1|z2|z3|z4|z5|z6|z7|z8|z9|z10|z11|aLONGEST_NAME|aGREATEST_NUMBER|aNO_NAMES|lNO_NAMES|aWORDS_OF_DEEDS|lWORDS_OF_DEEDS|aWORDS_OF_CONDITIONS|lWORDS_OF_CONDITIONS|aLENGTHS|lLENGTHS|aJOINED|lJOINED|aSINGLES|lSINGLES=>k_is
  case hwLENGTHS=>first|k_is|decide|rfl
  case hwJOINED=>first|k_is|decide|rfl
  case hwSINGLES=>first|k_is|decide|rfl
