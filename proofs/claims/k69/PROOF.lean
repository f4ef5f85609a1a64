import PyProof.Rows.All
import Wide.All
import OpenK.AllK
import Wide.FinOn
import Lean
import PyProof.EqAt
import PyProof.EqKinds
import PyProof.TupleCall
import PySem.Challenge.RW_talkcourt_k69_where_sayings_fail
set_option Elab.async false
set_option linter.all false
set_option maxRecDepth 100000
set_option maxHeartbeats 8000000
theorem zzN:¬ (false=true):=Bool.false_ne_true
theorem zzB:(false=true)=False:=Bool.false_eq_true
theorem zzC {α:Type _} {a:α} {l:List α}:(a::l).length=l.length+1:=rfl
theorem zzL {α:Type _}:([]:List α).length=0:=rfl
theorem zzA (n:Nat):0+n=n:=Nat.zero_add n
theorem zzM {α β:Type _} {l:List α} {f:α->β}:(l.map f).length=l.length:=List.length_map f
theorem zzP {α β:Type _} {b:β} {l:List α} {f:α->β} (h:b∈l.map f):∃ a,a∈l/\f a=b:=List.mem_map.mp h
theorem zzS {α:Type _} {l:List α}:l.toArray.size=l.length:=List.size_toArray
theorem zzR (n:Nat):n<=n:=Nat.le_refl n
theorem zzO {α:Type _} {a b:α} (h:a∈[b]):a=b:=List.mem_singleton.mp h
theorem zzT {α:Type _} {a:α} {l:List α}:a∈a::l:=List.mem_cons_self
theorem zzU {α β:Type _} {a:α} {l:List α} {f:α->β}:(a::l).map f=f a::l.map f:=rfl
theorem zzV {α β:Type _} {f:α->β}:([]:List α).map f=[]:=rfl
theorem zzW {α:Type _} {l l':List α}:(l++l').length=l.length+l'.length:=List.length_append
noncomputable section
namespace L2
open PySem PySem.Spec PyProof.Rows
abbrev yO:=Sum Int Str
def rC:yO->Value->Bool
 | .inl k,v=>Value.isInt k v
 | .inr x,v=>Value.isStrOf x v
def keyH (w:World):yO->Int
 | .inl k=>hashInt k
 | .inr x=>hashStr w x
theorem yE:∀ {k:yO} {v:Value},rC k v=true->(∃ i t,k=Sum.inl i/\v=Value.int i t)\/(∃ x t,k=Sum.inr x/\v=Value.str x t)
 | .inl i,v,h=>by
  obtain ⟨t,e⟩:=Value.isInt_shape (k:=i) (v:=v) h;exact .inl ⟨i,t,rfl,e⟩
 | .inr x,v,h=>by
  obtain ⟨t,e⟩:=Value.isStrOf_shape (x:=x) (v:=v) h;exact .inr ⟨x,t,rfl,e⟩
theorem zcE (i:Int) (t:Tok):rC (.inl i) (.int i t)=true:=by simp [rC,Value.isInt]
theorem zcC (x:Str) (t:Tok):rC (.inr x) (.str x t)=true:=by simp [rC,Value.isStrOf]
theorem ziw (a b:Int):decide ((Sum.inl a:yO)=Sum.inl b)=(a==b):=by
 by_cases e:a=b
 .subst e;simp
 .have h:¬ (Sum.inl a:yO)=Sum.inl b:=fun q=>e (Sum.inl.inj q);rw [decide_eq_false h];exact (beq_eq_false_iff_ne.mpr e).symm
theorem zit (a b:Str):decide ((Sum.inr a:yO)=Sum.inr b)=decide (a=b):=by
 by_cases e:a=b
 .subst e;simp
 .have h:¬ (Sum.inr a:yO)=Sum.inr b:=fun q=>e (Sum.inr.inj q);rw [decide_eq_false h,decide_eq_false e]
theorem ziv (a:Int) (b:Str):decide ((Sum.inl a:yO)=Sum.inr b)=false:=decide_eq_false (fun q=>nomatch q)
theorem ziu (a:Str) (b:Int):decide ((Sum.inr a:yO)=Sum.inl b)=false:=decide_eq_false (fun q=>nomatch q)
def xP (prog:Program) (w:World):PySem.KeyKind prog w yO where
 is:=rC
 hash:=keyH w
 inj:=fun v a b ha hb=>by
  rcases yE ha with ⟨i,t,rfl,rfl⟩|⟨x,t,rfl,rfl⟩
  .rcases yE hb with ⟨j,u,rfl,e⟩|⟨y,u,rfl,e⟩
   .injection e with e1 _;rw [e1]
   .exact nomatch e
  .rcases yE hb with ⟨j,u,rfl,e⟩|⟨y,u,rfl,e⟩
   .exact nomatch e
   .injection e with e1 _;rw [e1]
 byValue:=fun k v h=>by
  rcases yE h with ⟨i,t,rfl,rfl⟩|⟨x,t,rfl,rfl⟩<;>rfl
 pyHash:=fun hv h=>by
  rcases yE hv with ⟨i,t,rfl,rfl⟩|⟨x,t,rfl,rfl⟩
  .exact wpAny_pyHash_int h
  .exact wpAny_pyHash_str h
 eqBool:=fun hu hv h=>by
  rcases yE hu with ⟨i,t,rfl,rfl⟩|⟨x,t,rfl,rfl⟩
  .rcases yE hv with ⟨j,u,rfl,rfl⟩|⟨y,u,rfl,rfl⟩
   .rw [ziw] at h;exact wpAny_eqBool_int h
   .rw [ziv] at h;exact SeqAt.EqAt.int_str i t y u _ _ _ _ h
  .rcases yE hv with ⟨j,u,rfl,rfl⟩|⟨y,u,rfl,rfl⟩
   .rw [ziu] at h;exact SeqAt.EqAt.str_int x t j u _ _ _ _ h
   .rw [zit] at h;exact wpAny_eqBool_str h
 «strs»:=fun k x t v h=>by
  rcases yE h with ⟨i,u,rfl,e⟩|⟨y,u,rfl,e⟩
  .exact nomatch e
  .injection e with e1 _
   subst e1;cases v<;>rfl
theorem zak (prog:Program) (w:World) (i:Int) (t:Tok):(xP prog w).is (.inl i) (.int i t)=true:=zcE i t
theorem zaj (prog:Program) (w:World) (x:Str) (t:Tok):(xP prog w).is (.inr x) (.str x t)=true:=zcC x t
end L2
namespace L2
open PySem PySem.Spec PyProof.Rows
inductive V where
 |non|bl (b:Bool)|int (i:Int)|str (x:Str)|byt (b:Array UInt8)|flt (b:UInt64)|ref (a:Addr)|ty (n:String)
 deriving DecidableEq
def zC:V->Value->Prop
 | .non,u=>u=Value.none
 | .bl b,u=>u=Value.bool b
 | .int i,u=>∃ t,u=Value.int i t
 | .str x,u=>∃ t,u=Value.str x t
 | .byt b,u=>∃ t,u=Value.bytes b t
 | .flt b,u=>∃ t,u=Value.float b t
 | .ref a,u=>u=Value.ref a
 | .ty n,u=>u=Value.type n
abbrev zD:List V->List Value->Prop:=Paired zC
theorem zD.length {xs:List V} {us:List Value} (r:zD xs us):xs.length=us.length:=Paired.length r
theorem zD.get:∀ {xs:List V} {us:List Value} {i:Nat} {x:V},zD xs us->xs[i]?=some x->∃ u,us[i]?=some u/\zC x u
 |_,_,_,_,.nil,e=>by simp at e
 |_,_,0,_,.cons r _,e=>by simp at e;subst e;exact ⟨_,rfl,r⟩
 |_,_,i+1,x,.cons _ t,e=>by
  obtain ⟨u,h1,h2⟩:=zD.get (i:=i) (x:=x) t (by simpa using e);exact ⟨u,by simpa using h1,h2⟩
theorem zD.set {x:V} {u:Value} (r:zC x u):∀ {xs:List V} {us:List Value} (i:Nat),zD xs us->zD (xs.set i x) (us.set i u)
 |_,_,_,.nil=>.nil
 |_,_,0,.cons _ t=>.cons r t
 |_,_,i+1,.cons q t=>.cons q (zD.set r i t)
theorem zD.append:∀ {xs ys:List V} {us ws:List Value},zD xs us->zD ys ws->zD (xs++ys) (us++ws)
 |_,_,_,_,.nil,s=>s
 |_,_,_,_,.cons r t,s=>.cons r (zD.append t s)
theorem zD.take:∀ {xs:List V} {us:List Value} (n:Nat),zD xs us->zD (xs.take n) (us.take n)
 |_,_,0,_=>.nil
 |_,_,_+1,.nil=>.nil
 |_,_,n+1,.cons r t=>.cons r (zD.take n t)
theorem zD.drop:∀ {xs:List V} {us:List Value} (n:Nat),zD xs us->zD (xs.drop n) (us.drop n)
 |_,_,0,r=>r
 |_,_,_+1,.nil=>.nil
 |_,_,n+1,.cons _ t=>zD.drop n t
theorem zD.none_of:∀ {xs:List V} {us:List Value} {i:Nat},zD xs us->xs[i]?=none->us[i]?=none:=fun {xs us i} r e=>by
 have h1:=r.length;have h2:xs.length<=i:=List.getElem?_eq_none_iff.mp e;exact List.getElem?_eq_none_iff.mpr (by omega)
def rO:Option V->Option Value->Prop
 |some v,some u=>zC v u
 |none,none=>True
 |_,_=>False
def KV {κ:Type}:List (κ×V)->List (κ×Value)->Prop:=Paired fun (p:κ×V) (q:κ×Value)=>p.1=q.1/\zC p.2 q.2
def kV:yO->V
 | .inl i=>.int i
 | .inr x=>.str x
inductive HO where
  |lst (xs:List V)
  |tup (xs:List V)
  |dK (kvs:List (yO×V))|dT (kvs:List (List yO×V))
  |set (S:Int->Bool) (n:Nat)
  |ins (C dx:Addr) (fs:List (Str×V))
  |own (x:Addr)
  |xd (fs:List (Str×V))
  |met (f x:Addr)
  |rng (lo hi:Int)
  |frz (o:Obj) (u:HO)
  |tbl (ps:Array Value)
  |ext (φ:Heap->Prop)
abbrev Hp:=Addr->Option HO
def xK (H:Hp) (a:Addr) (o:HO):Hp:=fun b=>if b=a then some o else H b
theorem wY {H:Hp} {a:Addr} {o:HO}:xK H a o a=some o:=by unfold xK;rw [if_pos rfl]
theorem yV {H:Hp} {a b:Addr} {o:HO} (h:b≠a):xK H a o b=H b:=by unfold xK;rw [if_neg h]
theorem ne_of {H:Hp} {a b:Addr} {o u:HO} (h:H a=some o) (h':H b=some u) (d:o≠u):a≠b:=by
 intro e;subst e;rw [h] at h';exact d (Option.some.inj h')
theorem yK {H:Hp} {a b:Addr} {o:HO} (h:H a=some o) (h':H b=none):a≠b:=by
 intro e;subst e;rw [h] at h';cases h'
section
variable (P : Program) (w : World)
def xG (H:Hp) (h:Heap) (a:Addr):HO->Prop
 | .lst xs=>xs.length<=sizeLine/\∃ (its:List Value) (n:Nat),zD xs its/\h.get? a=some { cls:=.type "list", data:=.seq its.toArray n }
 | .tup xs=>xs.length<=sizeLine/\∃ its:List Value,zD xs its/\IsTup h a its.toArray
 | .dK kvs=>kvs.length<=sizeLine/\(a==sysModules)=false/\∃ vs,KV kvs vs/\h.DictOf (xP P w) a vs
 | .dT kvs=>kvs.length<=sizeLine/\(a==sysModules)=false/\∃ xs:List (List yO×Addr×Value),
   Paired (fun (p:List yO×V) (q:List yO×Addr×Value)=>p.1=q.1/\H q.2.1=some (.tup (p.1.map kV))/\zC p.2 q.2.2) kvs xs /\
   ∃ o es ep,h.get? a=some o/\o.ExactDict/\o.data=.dict es ep/\es.toList=xs.map (entryOfKey (tupleKind (xP P w)))/\(xs.map (·.1)).Nodup
 | .set S n=>h.SetOf (intKind P w) a S n
 | .ins C dx fs=>H dx=some (.own a)/\fs.length<=1000/\dx≠a/\h.get? a=some (PySem.W.instObj C dx) /\
   ∃ mA,h.Ns1 dx mA/\(∀ f,rO (fs.lookup f) (mA f))/\PySem.Within mA (fs.map (·.1))
 | .own _=>∃ o,h.get? a=some o
 | .xd fs=>∃ mA,h.Ns1 a mA/\∀ f,rO (fs.lookup f) (mA f)
 | .rng lo hi=>∃ t u v,h.get? a=some { cls:=.type "range", data:=.fields #[.int lo t,.int hi u,.int 1 v] }
 | .frz o u=>h.get? a=some o/\xG H h a u
 | .tbl ps=>h.get? a=some { cls:=.none,data:=.fields ps }
 | .met f x=>h.get? a=some (PySem.W.methodObj (.ref f) (.ref x))
 | .ext φ=>φ h/\(∃ o,h.get? a=some o)/\∀ h1 h2:Heap,φ h1->(∀ o,h1.get? a=some o->h2.get? a=some o)->φ h2
def uL (H:Hp) (h:Heap):Prop:=∀ a o,H a=some o->xG P w H h a o
end
section
variable {P : Program} {w : World} {H H' : Hp} {h h' : Heap} {a : Addr} {o : HO}
theorem xG.lt (x:xG P w H h a o):a<h.objs.size:=by
 cases o with
 |lst xs=>obtain ⟨_,_,_,_,e⟩:=x;exact Heap.lt_size e
 |tup xs=>obtain ⟨_,_,_,p⟩:=x;exact p.lt
 |dK kvs=>obtain ⟨_,_,_,_,o,_,_,e,_⟩:=x;exact Heap.lt_size e
 |dT kvs=>obtain ⟨_,_,_,_,o,_,_,e,_⟩:=x;exact Heap.lt_size e
 |set S n=>obtain ⟨o,_,_,_,e,_⟩:=x;exact Heap.lt_size e
 |ins C dx fs=>obtain ⟨_,_,_,e,_⟩:=x;exact Heap.lt_size e
 |own y=>obtain ⟨_,e⟩:=x;exact Heap.lt_size e
 |xd fs=>obtain ⟨_,⟨_,_,_,e,_⟩,_⟩:=x;exact Heap.lt_size e
 |rng lo hi=>obtain ⟨_,_,_,e⟩:=x;exact Heap.lt_size e
 |frz ob u=>obtain ⟨e,_⟩:=x;exact Heap.lt_size e
 |tbl ps=>exact Heap.lt_size (show h.get? a=some _ from x)
 |met f y=>exact Heap.lt_size (show h.get? a=some _ from x)
 |ext φ=>obtain ⟨_,⟨_,e⟩,_⟩:=x;exact Heap.lt_size e
theorem Paired.mapP {α β:Type} {F G:α->β->Prop}:∀ {l₁:List α} {l₂:List β},Paired F l₁ l₂->(∀ a b,F a b->G a b)->Paired G l₁ l₂
 |_,_,.nil,_=>.nil
 |_,_,.cons r t,f=>.cons (f _ _ r) (Paired.mapP t f)
theorem xG.stay (x:xG P w H h a o) (k:∀ b u,(b=a\/H b=some (.own a))->h.get? b=some u->h'.get? b=some u)
  (ho:∀ b,H b=some (.own a)->H' b=some (.own a)) (ht:∀ b xs,H b=some (.tup xs)->H' b=some (.tup xs)):xG P w H' h' a o:=by
 induction o with
 |lst xs=>obtain ⟨z,its,n,r,e⟩:=x;exact ⟨z,its,n,r,k _ _ (.inl rfl) e⟩
 |tup xs=>obtain ⟨z,its,r,ob,e,c⟩:=x;exact ⟨z,its,r,ob,k _ _ (.inl rfl) e,c⟩
 |dK kvs=>obtain ⟨z,y,vs,r,ob,es,ep,e,c⟩:=x;exact ⟨z,y,vs,r,ob,es,ep,k _ _ (.inl rfl) e,c⟩
 |dT kvs =>
  obtain ⟨z,y,xs,r,ob,es,ep,e,c⟩:=x;exact ⟨z,y,xs,Paired.mapP r fun p q z=>⟨z.1,ht _ _ z.2.1,z.2.2⟩,ob,es,ep,k _ _ (.inl rfl) e,c⟩
 |set S n=>obtain ⟨ob,es,ep,t,e,c⟩:=x;exact ⟨ob,es,ep,t,k _ _ (.inl rfl) e,c⟩
 |ins C dx fs =>
  obtain ⟨d,z,ne,e,mA,⟨od,es,ep,e2,c⟩,r⟩:=x;exact ⟨ho _ d,z,ne,k _ _ (.inl rfl) e,mA,⟨od,es,ep,k _ _ (.inr d) e2,c⟩,r⟩
 |own y=>obtain ⟨ob,e⟩:=x;exact ⟨ob,k _ _ (.inl rfl) e⟩
 |xd fs=>obtain ⟨mA,⟨od,es,ep,e,c⟩,r⟩:=x;exact ⟨mA,⟨od,es,ep,k _ _ (.inl rfl) e,c⟩,r⟩
 |rng lo hi=>obtain ⟨t,u,v,e⟩:=x;exact ⟨t,u,v,k _ _ (.inl rfl) e⟩
 |frz ob u ih=>obtain ⟨e,q⟩:=x;exact ⟨k _ _ (.inl rfl) e,ih q⟩
 |tbl ps =>
  have e:h.get? a=some { cls:=.none,data:=.fields ps }:=x;show h'.get? a=some { cls:=.none,data:=.fields ps };exact k a _ (.inl rfl) e
 |met f y =>
  have e:h.get? a=some (PySem.W.methodObj (.ref f) (.ref y)):=x;show h'.get? a=some (PySem.W.methodObj (.ref f) (.ref y));exact k a _ (.inl rfl) e
 |ext φ=>obtain ⟨p,⟨o,e⟩,st⟩:=x;exact ⟨st _ _ p fun o q=>k _ _ (.inl rfl) q,⟨o,k _ _ (.inl rfl) e⟩,st⟩
theorem uL.lt (x:uL P w H h) (e:H a=some o):a<h.objs.size:=(x a o e).lt
theorem uL.fresh (x:uL P w H h) (e:h.objs.size<=a):H a=none:=by
 cases q:H a with
 |none=>rfl
 |some u=>exact absurd (Nat.lt_of_lt_of_le (x.lt q) e) (Nat.lt_irrefl _)
theorem uL.kept (x:uL P w H h) (k:∀ b u,h.get? b=some u->h'.get? b=some u):uL P w H h':=fun a o e =>
 (x a o e).stay (fun b u _ q=>k b u q) (fun _ q=>q) fun _ _ q=>q
theorem uL.laid (x:uL P w H h) (k:∀ b u,h.get? b=some u->h'.get? b=some u) (hp:h.objs.size<=a) (new:xG P w (xK H a o) h' a o):uL P w (xK H a o) h':=fun b u e=>by
 have hn:=x.fresh hp
 by_cases hb:b=a
 .subst hb;rw [wY] at e;cases e;exact new
 .rw [yV hb] at e;exact (x b u e).stay (fun c v _ q=>k c v q) (fun c q=>by rw [yV (yK q hn)];exact q) fun c xs q=>by rw [yV (yK q hn)];exact q
end
def Rd (H:Hp) (a:Addr) (u:HO):Prop:=H a=some u\/∃ o,H a=some (.frz o u)
theorem Rd.ok {P:Program} {w:World} {H:Hp} {h:Heap} {a:Addr} {u:HO} (r:Rd H a u) (x:uL P w H h):xG P w H h a u:=by
 rcases r with r|⟨o,r⟩
 .exact x a u r
 .obtain ⟨_,q⟩:=x a _ r;exact q
def Mut:Option HO->Prop
 |some (.lst _)=>True
 |some (.dK _)=>True
 |some (.dT _)=>True
 |some (.set _ _)=>True
 |some (.ins _ _ _)=>True
 |some (.ext _)=>True
 |_=>False
section
variable {P : Program} {w : World} {H : Hp} {h h' : Heap} {x e : Addr} {o' : HO}
theorem uL.write (ok:uL P w H h) (mu:Mut (H x)) (he:e=x\/H e=some (.own x)) (k:∀ b u,b≠e->h.get? b=some u->h'.get? b=some u) (heo:∃ u,h'.get? e=some u)
  (new:xG P w (xK H x o') h' x o'):uL P w (xK H x o') h':=fun b u q=>by
 have nown:∀ c y,H c=some (.own y)->c≠x:=fun c y r z=>by subst z;rw [r] at mu;exact mu
 have ntup:∀ c xs,H c=some (.tup xs)->c≠x:=fun c xs r z=>by subst z;rw [r] at mu;exact mu
 by_cases hb:b=x
 .subst hb;rw [wY] at q;cases q;exact new
 .rw [yV hb] at q
  by_cases hbe:b=e
  .have q':H b=some (.own x):=by
    rcases he with z|z
    .exact absurd (hbe.trans z) hb
    .rw [hbe];exact z
   rw [q] at q';cases q';obtain ⟨v,hv⟩:=heo;exact ⟨v,by rw [hbe];exact hv⟩
  .refine (ok b u q).stay (fun c v hc r=>k c v ?_ r) (fun c r=>by rw [yV (nown c b r)];exact r) fun c xs r=>by rw [yV (ntup c xs r)];exact r
   rcases hc with rfl|hc
   .exact hbe
   .rintro rfl;rcases he with z|z
    .exact nown c b hc z
    .rw [hc] at z;cases z;exact hb rfl
end
structure Un (fs ex:List Addr) (H H':Hp) (h h':Heap):Prop where
 keep:∀ b o,h.get? b=some o->H b=none->b∉fs->b∉ex->h'.get? b=some o
 slot:∀ b o,h.get? b=some o->H b=none->b∈fs->b∉ex->∃ sl,h'.get? b=some { o with slots:=sl }
 free:∀ b o,h.get? b=some o->H b=none->b∉ex->H' b=none
 there:∀ b o,h.get? b=some o->b∉ex->∃ o',h'.get? b=some o'
 tups:∀ b xs,H b=some (.tup xs)->H' b=some (.tup xs)
 frzs:∀ b o u,H b=some (.frz o u)->H' b=some (.frz o u)
 tbls:∀ b ps,H b=some (.tbl ps)->∃ more,H' b=some (.tbl (ps++more))
section
variable {fs fs' ex ex' : List Addr} {H H1 H2 : Hp} {h h1 h2 h' : Heap} {a x e : Addr} {o : HO}
theorem Un.any (u:Un fs ex H H1 h h1) {b:Addr} {ob:Obj} (q:h.get? b=some ob) (n:H b=none) (hx:b∉ex):∃ sl,h1.get? b=some { ob with slots:=sl }:=by
 by_cases hb:b∈fs
 .exact u.slot b ob q n hb hx
 .exact ⟨ob.slots,u.keep b ob q n hb hx⟩
theorem Un.kept (k:∀ b u,h.get? b=some u->h'.get? b=some u):Un fs ex H H h h' :=
 ⟨fun b ob q _ _ _=>k b ob q,fun b ob q _ _ _=>⟨ob.slots,k b ob q⟩,fun _ _ _ n _=>n,fun b ob q _=>⟨ob,k b ob q⟩,fun _ _ q=>q,fun _ _ _ q=>q,fun _ ps q=>⟨#[],by rw [q];simp⟩⟩
theorem Un.refl:Un fs ex H H h h:=Un.kept fun _ _ q=>q
theorem Un.laid (k:∀ b u,h.get? b=some u->h'.get? b=some u) (hp:h.objs.size<=a) (hn:H a=none):Un fs ex H (xK H a o) h h' where
 keep:=fun b u q _ _ _=>k b u q
 slot:=fun b u q _ _ _=>⟨u.slots,k b u q⟩
 free:=fun b u q n _=>by rw [yV (Nat.ne_of_lt (Nat.lt_of_lt_of_le (Heap.lt_size q) hp))];exact n
 there:=fun b u q _=>⟨u,k b u q⟩
 tups:=fun b xs q=>by rw [yV (yK q hn)];exact q
 frzs:=fun b u xs q=>by rw [yV (yK q hn)];exact q
 tbls:=fun b ps q=>⟨#[],by rw [yV (yK q hn),q];simp⟩
theorem Un.write (mu:Mut (H x)) (he:e=x\/H e=some (.own x)) (k:∀ b u,b≠e->h.get? b=some u->h'.get? b=some u) (heo:∃ u,h'.get? e=some u):Un fs ex H (xK H x o) h h':=by
 have hx:∀ b,H b=none->b≠x:=fun b n z=>by subst z;rw [n] at mu;exact mu
 have hb:∀ b,H b=none->b≠e:=fun b n z=>by
  subst z;rcases he with r|r
  .exact hx b n r
  .rw [n] at r;cases r
 have hm:∀ b u,H b=some u->¬ Mut (some u)->b≠x:=fun b u q nm z=>by subst z;rw [q] at mu;exact nm mu
 refine ⟨fun b u q n _ _=>k b u (hb b n) q,fun b u q n _ _=>⟨u.slots,k b u (hb b n) q⟩,fun b u q n _=>by rw [yV (hx b n)];exact n,fun b u q _=>?_,
  fun b xs q=>by rw [yV (hm b _ q fun z=>z)];exact q,fun b u xs q=>by rw [yV (hm b _ q fun z=>z)];exact q,fun b ps q=>⟨#[],by rw [yV (hm b _ q fun z=>z),q];simp⟩⟩
 by_cases hbe:b=e
 .subst hbe;exact heo
 .exact ⟨u,k b u hbe q⟩
end
def trk (h:Heap) (H:Hp):List Addr:=(List.range h.objs.size).filter fun a=>(H a).isSome
def cG (h:Heap) (H:Hp):Heap:=PySem.W.hideAll h (trk h H)
theorem zcL (h:Heap) (H:Hp):(cG h H).objs.size=h.objs.size:=PySem.W.hideAll_size _ _
theorem zem {h:Heap} {H:Hp} {b:Addr} {o:Obj} (e:h.get? b=some o) (n:H b=none):(cG h H).get? b=some o :=
 PySem.W.hideAll_get _ e fun hm=>by
  have q:(H b).isSome=true:=(List.mem_filter.mp hm).2;rw [n] at q;simp at q
theorem zf6 {h:Heap} {H:Hp} {b:Addr} {o:Obj} (e:(cG h H).get? b=some o):h.get? b=some o/\H b=none:=by
 have e':h.get? b=some o:=PySem.W.of_hideAll (trk h H) e;refine ⟨e',?_⟩
 cases q:H b with
 |none=>rfl
 |some x =>
  have hm:b∈trk h H:=List.mem_filter.mpr ⟨List.mem_range.mpr (Heap.lt_size e'),by simp [q]⟩;have z:(cG h H).get? b=none:=PySem.W.hideAll_none (trk h H) hm;rw [z] at e;cases e
def zg8 (g h:Heap) (L:Addr):List (Addr×Obj):=(List.range h.objs.size).filterMap fun a=>if a=L\/(g.get? a).isSome=true then none else (h.get? a).map fun o=>(a,o)
def rest (g h:Heap) (L d:Addr):List (Addr×Obj):=(zg8 g h L).filter fun p=>decide (p.1≠d)
end L2
namespace L2
open PySem PySem.Spec PyProof.Rows
structure Mod (K:PySem.W.Frag) (mg:Str->Option Value) (base:Heap):Prop where
 kin:K.In base
 glob:base.Ns mainGlobals mg
 blt:∃ mb,base.Ns builtinsNs mb/\∀ x:Str,x ≠ "__name__" -> mb x=bootBuiltins x
 nolimit:base.NoLimit
structure Cx where
 prog:Program
 w:World
 K:PySem.W.Frag
 mg:Str->Option Value
 base:Heap
 A:Around
 N:List Str
 s₀:Shared
 H₀:Hp
 env:Env
 outer:List Env
 stack:List Env
 ex:List Addr
 fn:Str->Bool
 calm:Bool
 pn:List (Addr×Obj)
 xe:Value->Shared->Prop
def frs (l:List Env):List Addr:=l.filterMap (·.frame)
abbrev Cx.fs (X:Cx):List Addr:=frs X.outer
def Vis (sc:Scope) (x:Str):Prop:=sc.names.lookup x=some .local\/sc.names.lookup x=some .cell\/sc.names.lookup x=some .free
def Loc (sc:Scope) (x:Str):Prop:=sc.names.lookup x=some .local\/sc.names.lookup x=some .cell
def Look (env:Env) (h:Heap) (m:Str->Option Value) (x:Str) (u:Value):Prop :=
 (env.kindOf x=some .local/\m x=some u)\/((env.kindOf x=some .cell\/env.kindOf x=some .free)/\∃ c,env.cells.lookup x=some c/\h.IsCell c (some u))
structure Cx.Ok (X:Cx):Prop where
 mod:Mod X.K X.mg X.base
 kind:X.env.scope.kind=.function
 glob:X.env.globals=mainGlobals
 blt:X.env.builtins=builtinsNs
 above:X.s₀.heap.objs.size<=X.env.locals
 inj:∀ x y c,X.env.cells.lookup x=some c->X.env.cells.lookup y=some c->x=y
 has:∀ x,(X.env.kindOf x=some .cell\/X.env.kindOf x=some .free)->∃ c,X.env.cells.lookup x=some c
 cab:∀ x c,X.fn x=true->X.env.cells.lookup x=some c->X.s₀.heap.objs.size<=c
 hd:X.calm=true->X.A.handled=none
 frames:X.A.frames=some X.stack
 stk:X.stack=X.outer\/(X.stack=X.env::X.outer/\X.env.frame=some X.env.locals)
 exf:∀ b∈X.ex,b≠X.env.locals/\∀ x c,X.env.cells.lookup x=some c->c≠b
 bs:∀ b o,X.base.get? b=some o->X.s₀.heap.get? b=some o/\X.H₀ b=none
 bsz:X.base.objs.size<=X.s₀.heap.objs.size
 noex:∀ b o,X.base.get? b=some o->b∉X.ex
 exfs:∀ b∈X.ex,b∉X.fs
 funs:X.s₀.heap.FunFrames X.base X.outer
 frf:∀ b∈X.fs,X.H₀ b=none
structure Inv (X:Cx) (pins:List (Addr×Obj)) (σ:List (Option V)) (H:Hp) (s:Shared):Prop where
 ok:X.Ok
 os:s.os=X.s₀.os
 bare:AllBare s.gens
 base:Un X.fs X.ex X.H₀ H X.s₀.heap s.heap
 loc:∃ m,s.heap.Ns X.env.locals m/\∀ (i:Nat) (x:Str) (v:V),X.N[i]?=some x->σ[i]?=some (some v)->Vis X.env.scope x->∃ u,zC v u/\Look X.env s.heap m x u
 cell:∀ x c,X.env.cells.lookup x=some c->∃ v,s.heap.IsCell c v
 free:H X.env.locals=none
 freeC:∀ x c,X.env.cells.lookup x=some c->H c=none
 pin:∀ p∈X.pn++pins,s.heap.get? p.1=some p.2/\H p.1=none/\p.1≠X.env.locals/\p.1∉X.fs/\∀ v,p.2.data≠.cell v
 hok:uL X.prog X.w H s.heap
 len:σ.length=X.N.length
section
variable {X : Cx} {pins : List (Addr × Obj)} {σ : List (Option V)} {H H' : Hp} {s : Shared} {h' : Heap}
theorem Cx.Ok.nofr (ok:X.Ok) {b:Addr} {o:Obj} (e:X.base.get? b=some o):b∉X.fs:=fun hb=>by
 have:=(ok.funs.mem hb).1;rw [e] at this;cases this
theorem Inv.bs (I:Inv X pins σ H s):∀ b o,X.base.get? b=some o->s.heap.get? b=some o/\H b=none:=fun b o e =>
 ⟨I.base.keep b o (I.ok.bs b o e).1 (I.ok.bs b o e).2 (I.ok.nofr e) (I.ok.noex b o e),I.base.free b o (I.ok.bs b o e).1 (I.ok.bs b o e).2 (I.ok.noex b o e)⟩
theorem Inv.bk (I:Inv X pins σ H s):∀ b o,X.base.get? b=some o->s.heap.get? b=some o:=fun b o e=>(I.bs b o e).1
theorem Inv.mod (I:Inv X pins σ H s):Mod X.K X.mg X.base:=I.ok.mod
theorem Inv.kIn (I:Inv X pins σ H s):X.K.In s.heap:=I.ok.mod.kin.keeps I.bk
theorem Inv.lt (I:Inv X pins σ H s):X.env.locals<s.heap.objs.size:=let ⟨_,hn,_⟩:=I.loc;hn.lt
theorem Inv.sz (I:Inv X pins σ H s):X.s₀.heap.objs.size<=s.heap.objs.size:=Nat.le_trans I.ok.above (Nat.le_of_lt I.lt)
theorem Inv.nofs (I:Inv X pins σ H s) {a:Addr} (h:s.heap.objs.size<=a):a∉X.fs:=fun hb=>by
 obtain ⟨_,o,ho,_⟩:=I.ok.funs.mem hb;exact absurd (Nat.lt_of_lt_of_le (Heap.lt_size ho) (Nat.le_trans I.sz h)) (Nat.lt_irrefl _)
theorem Inv.cne (I:Inv X pins σ H s):∀ x c,X.env.cells.lookup x=some c->c≠X.env.locals:=fun x c e z=>by
 obtain ⟨v,o,ho,hd⟩:=I.cell x c e;obtain ⟨m,⟨o',es,ep,ho',hd',_⟩,_⟩:=I.loc;rw [z,ho'] at ho;cases ho;rw [hd'] at hd;cases hd
theorem Inv.funs (I:Inv X pins σ H s):s.heap.FunFrames X.base X.outer:=by
 have all:∀ (l:List Env),(∀ b∈frs l,b∈X.fs)->X.s₀.heap.FunFrames X.base l->s.heap.FunFrames X.base l:=by
  intro l
  induction l with
  |nil=>intro _ _;trivial
  |cons env r ih =>
   intro hs hl;obtain ⟨hk,⟨L,o,hf,hn,ho,hd⟩,hr⟩:=hl;have hL:L∈X.fs:=hs L (by unfold frs;rw [List.filterMap_cons,hf];exact zzT);obtain ⟨sl,e⟩:=I.base.slot L o ho (I.ok.frf L hL) hL fun z=>I.ok.exfs L z hL;exact ⟨hk,⟨L,_,hf,hn,e,hd⟩,ih (fun b hb=>hs b (by unfold frs;rw [List.filterMap_cons,hf];exact List.mem_cons_of_mem _ hb)) hr⟩
 exact all X.outer (fun _ hb=>hb) I.ok.funs
theorem Inv.stack (I:Inv X pins σ H s):s.heap.FunFrames X.base X.stack:=by
 rcases I.ok.stk with e|⟨e,hf⟩
 .rw [e];exact I.funs
 .rw [e];obtain ⟨m,hn,_⟩:=I.loc;refine .cons (by rw [I.ok.kind];decide) hf hn ?_ I.funs;exact Heap.get?_none_of_le (Nat.le_trans I.ok.bsz I.ok.above)
theorem Inv.stkSub (I:Inv X pins σ H s):∀ b∈frs X.stack,b∈X.env.locals::X.fs:=fun b hb=>by
 rcases I.ok.stk with e|⟨e,hf⟩
 .rw [e] at hb;exact List.mem_cons_of_mem _ hb
 .rw [e] at hb;unfold frs at hb;rw [List.filterMap_cons,hf] at hb;exact hb
theorem Inv.stkFree (I:Inv X pins σ H s):∀ b∈frs X.stack,H b=none:=fun b hb=>by
 rcases List.mem_cons.mp (I.stkSub b hb) with e|hb
 .rw [e];exact I.free
 .obtain ⟨_,o,ho,_⟩:=I.ok.funs.mem hb;exact I.base.free b o ho (I.ok.frf b hb) fun z=>I.ok.exfs b z hb
theorem Inv.step {g':Array GenState} {t':Nat} {d':Drawn} {ch:List Addr} (I:Inv X pins σ H s)
  (hch:∀ b∈ch,(b∈X.ex\/X.s₀.heap.objs.size<=b)/\b≠X.env.locals/\(∀ x c,X.env.cells.lookup x=some c->c≠b)/\∀ p∈X.pn++pins,p.1≠b)
  (keep:∀ b o,b≠X.env.locals->b∉X.fs->b∉ch->s.heap.get? b=some o->H b=none->h'.get? b=some o)
  (slot:∀ b o,b≠X.env.locals->b∈X.fs->b∉ch->s.heap.get? b=some o->H b=none->∃ sl,h'.get? b=some { o with slots:=sl }) (free:∀ b o,b∉ch->s.heap.get? b=some o->H b=none->H' b=none)
  (there:∀ b o,b∉ch->s.heap.get? b=some o->∃ o',h'.get? b=some o')
  (tups:∀ b xs,H b=some (.tup xs)->H' b=some (.tup xs)) (frzs:∀ b o u,H b=some (.frz o u)->H' b=some (.frz o u)) (tbls:∀ b ps,H b=some (.tbl ps)->∃ more,H' b=some (.tbl (ps++more)))
  (ns:∀ m,s.heap.Ns X.env.locals m->h'.Ns X.env.locals m) (hok:uL X.prog X.w H' h') (hg:AllBare g') :
  Inv X pins σ H' { s with heap:=h',gens:=g',drawn:=d',toks:=t' }:=by
 have neL:∀ b o,X.s₀.heap.get? b=some o->b≠X.env.locals:=fun b o e=>Nat.ne_of_lt (Nat.lt_of_lt_of_le (Heap.lt_size e) I.ok.above)
 have neC:∀ b o,X.s₀.heap.get? b=some o->b∉X.ex->b∉ch:=fun b o e hx hb=>by
  rcases (hch b hb).1 with z|z
  .exact hx z
  .exact absurd (Nat.lt_of_lt_of_le (Heap.lt_size e) z) (Nat.lt_irrefl _)
 have cellK:∀ x c,X.env.cells.lookup x=some c->∀ v,s.heap.IsCell c v->h'.IsCell c v:=fun x c e v ⟨o,ho,hd⟩=>by
  have nch:c∉ch:=fun z=>(hch c z).2.2.1 x c e rfl
  by_cases hc:c∈X.fs
  .obtain ⟨sl,q⟩:=slot c o (I.cne x c e) hc nch ho (I.freeC x c e);exact ⟨_,q,hd⟩
  .exact ⟨o,keep c o (I.cne x c e) hc nch ho (I.freeC x c e),hd⟩
 refine ⟨I.ok,I.os,hg,⟨fun b o e n hb hx=>?_,fun b o e n hb hx=>?_,fun b o e n hx=>?_,fun b o e hx=>?_,fun b xs e=>tups b xs (I.base.tups b xs e),fun b o xs e=>frzs b o xs (I.base.frzs b o xs e),fun b ps e=>?_⟩,?_,fun x c e=>?_,?_,fun x c e=>?_,fun p hp=>?_,hok,I.len⟩
 .exact keep b o (neL b o e) hb (neC b o e hx) (I.base.keep b o e n hb hx) (I.base.free b o e n hx)
 .obtain ⟨sl,e1⟩:=I.base.slot b o e n hb hx;obtain ⟨sl',e2⟩:=slot b _ (neL b o e) hb (neC b o e hx) e1 (I.base.free b o e n hx);exact ⟨sl',e2⟩
 .obtain ⟨o',e1⟩:=I.base.there b o e hx;exact free b o' (neC b o e hx) e1 (I.base.free b o e n hx)
 .obtain ⟨o',e1⟩:=I.base.there b o e hx;exact there b o' (neC b o e hx) e1
 .obtain ⟨m1,e1⟩:=I.base.tbls b ps e;obtain ⟨m2,e2⟩:=tbls b _ e1;exact ⟨m1++m2,by rw [e2,Array.append_assoc]⟩
 .obtain ⟨m,hn,hl⟩:=I.loc;refine ⟨m,ns m hn,fun i x v e1 e2 e3=>?_⟩;obtain ⟨u,r,l⟩:=hl i x v e1 e2 e3;refine ⟨u,r,?_⟩;rcases l with l|⟨k,c,e,z⟩
  .exact .inl l
  .exact .inr ⟨k,c,e,cellK x c e _ z⟩
 .obtain ⟨v,z⟩:=I.cell x c e;exact ⟨v,cellK x c e v z⟩
 .obtain ⟨m,⟨o,_,_,ho,_⟩,_⟩:=I.loc;exact free _ o (fun z=>(hch _ z).2.1 rfl) ho I.free
 .obtain ⟨v,o,ho,hd⟩:=I.cell x c e;exact free c o (fun z=>(hch c z).2.2.1 x c e rfl) ho (I.freeC x c e)
 .obtain ⟨e,n,ne,nf,d⟩:=I.pin p hp;have nch:p.1∉ch:=fun z=>(hch p.1 z).2.2.2 p hp rfl;exact ⟨keep p.1 p.2 ne nf nch e n,free p.1 p.2 nch e n,ne,nf,d⟩
theorem Inv.un {t':Nat} (I:Inv X pins σ H s) (u:Un X.fs [] H H' s.heap h') (hok:uL X.prog X.w H' h'):Inv X pins σ H' { s with heap:=h',toks:=t' }:=by
 obtain ⟨m,⟨o,es,ep,ho,r⟩,_⟩:=id I.loc;obtain ⟨sl,hL⟩:=u.any ho I.free (by simp)
 exact I.step (g':=s.gens) (d':=s.drawn) (ch:=[]) (fun _ z=>nomatch z) (fun b o _ hb _ e n=>u.keep b o e n hb (by simp)) (fun b o _ hb _ e n=>u.slot b o e n hb (by simp)) (fun b o _ e n=>u.free b o e n (by simp)) (fun b o _ e=>u.there b o e (by simp)) u.tups u.frzs u.tbls (fun m' hm=>by
  obtain ⟨o',es',ep',ho',r'⟩:=hm;rw [ho] at ho';cases ho';exact ⟨_,es',ep',hL,r'⟩) hok I.bare
theorem Inv.call {g':Array GenState} {t':Nat} {d':Drawn} {ch:List Addr} (I:Inv X pins σ H s) (u:Un (frs X.stack) ch H H' s.heap h') (hok:uL X.prog X.w H' h') (hg:AllBare g')
  (hch:∀ b∈ch,(b∈X.ex\/X.s₀.heap.objs.size<=b)/\b≠X.env.locals/\(∀ x c,X.env.cells.lookup x=some c->c≠b)/\∀ p∈X.pn++pins,p.1≠b) :
  Inv X pins σ H' { s with heap:=h',gens:=g',drawn:=d',toks:=t' }:=by
 obtain ⟨m,⟨o,es,ep,ho,r⟩,_⟩:=id I.loc;obtain ⟨sl,hL⟩:=u.any ho I.free fun z=>(hch _ z).2.1 rfl
 exact I.step (ch:=ch) hch (fun b o hL hb hc e n=>u.keep b o e n (fun z=>(List.mem_cons.mp (I.stkSub b z)).elim hL hb) hc) (fun b o _ _ hc e n=>u.any e n hc) (fun b o hc e n=>u.free b o e n hc) (fun b o hc e=>u.there b o e hc) u.tups u.frzs u.tbls (fun m' hm=>by
  obtain ⟨o',es',ep',ho',r'⟩:=hm;rw [ho] at ho';cases ho';exact ⟨_,es',ep',hL,r'⟩) hok hg
theorem Inv.turned {t':Nat} {it:Addr} (I:Inv X pins σ H s) (k:∀ b o,b≠it->s.heap.get? b=some o->h'.get? b=some o) (hn:H it=none) (hL:it≠X.env.locals)
  (h1:it∈X.ex\/X.s₀.heap.objs.size<=it) (h2:∀ x c,X.env.cells.lookup x=some c->c≠it) (h3:∀ p∈X.pn++pins,p.1≠it):Inv X pins σ H { s with heap:=h',toks:=t' }:=by
 have nit:∀ b u,H b=some u->b≠it:=fun b u e z=>by rw [z,hn] at e;cases e
 refine I.step (g':=s.gens) (d':=s.drawn) (ch:=[it]) (fun b hb=>?_) (fun b o _ _ hc e _=>k b o (fun z=>hc (by simp [z])) e) (fun b o _ _ hc e _=>⟨o.slots,k b o (fun z=>hc (by simp [z])) e⟩) (fun _ _ _ _ n=>n)
  (fun b o hc e=>⟨o,k b o (fun z=>hc (by simp [z])) e⟩) (fun _ _ e=>e) (fun _ _ _ e=>e) (fun b ps e=>⟨#[],by rw [e];simp⟩) (fun m hm=>?_) (fun b u e=>?_) I.bare
 .have e:b=it:=by simpa using hb
  subst e;exact ⟨h1,hL,h2,h3⟩
 .obtain ⟨o,es,ep,ho,r⟩:=hm;exact ⟨o,es,ep,k _ o (Ne.symm hL) ho,r⟩
 .refine (I.hok b u e).stay (fun c v hc q=>k c v ?_ q) (fun _ q=>q) fun _ _ q=>q;rcases hc with z|z
  .rw [z];exact nit b u e
  .exact nit c _ z
theorem Inv.tok (I:Inv X pins σ H s) (t:Nat):Inv X pins σ H { s with toks:=t }:=I.un (h':=s.heap) (t':=t) Un.refl I.hok
theorem Inv.kept {t':Nat} (I:Inv X pins σ H s) (k:∀ b u,s.heap.get? b=some u->h'.get? b=some u):Inv X pins σ H { s with heap:=h',toks:=t' }:=I.un (Un.kept k) (I.hok.kept k)
theorem Inv.laid {a:Addr} {o:HO} {t':Nat} (I:Inv X pins σ H s) (k:∀ b u,s.heap.get? b=some u->h'.get? b=some u) (hp:s.heap.objs.size<=a) (new:xG X.prog X.w (xK H a o) h' a o) :
  Inv X pins σ (xK H a o) { s with heap:=h',toks:=t' }:=I.un (Un.laid k hp (I.hok.fresh hp)) (I.hok.laid k hp new)
theorem Inv.write {x e:Addr} {o:HO} {t':Nat} (I:Inv X pins σ H s) (mu:Mut (H x)) (he:e=x\/H e=some (.own x)) (k:∀ b u,b≠e->s.heap.get? b=some u->h'.get? b=some u) (heo:∃ u,h'.get? e=some u)
  (new:xG X.prog X.w (xK H x o) h' x o):Inv X pins σ (xK H x o) { s with heap:=h',toks:=t' }:=I.un (Un.write mu he k heo) (I.hok.write mu he k heo new)
theorem Inv.pins_of {pins':List (Addr×Obj)} (I:Inv X pins σ H s) (h:∀ p∈pins',s.heap.get? p.1=some p.2/\H p.1=none/\p.1≠X.env.locals/\p.1∉X.fs/\∀ v,p.2.data≠.cell v):Inv X pins' σ H s :=
 ⟨I.ok,I.os,I.bare,I.base,I.loc,I.cell,I.free,I.freeC,fun p hp=>(List.mem_append.mp hp).elim (fun z=>I.pin p (List.mem_append_left _ z)) (h p),I.hok,I.len⟩
theorem zaF {N:List Str} (hN:N.Nodup) {i j:Nat} {x:Str} (a:N[i]?=some x) (b:N[j]?=some x):i=j:=by
 obtain ⟨h1,e1⟩:=List.getElem?_eq_some_iff.mp a;obtain ⟨h2,e2⟩:=List.getElem?_eq_some_iff.mp b;exact (List.getElem_inj hN).mp (e1.trans e2.symm)
theorem gE {M:Model} {A:Around} {E:Value->Shared->Prop} {i:Nat} {x:Str} {v:V} {u:Value} {Q:Unit->Shared->Prop} (I:Inv X pins σ H s) (hN:X.N.Nodup) (hi:X.N[i]?=some x) (hx:Loc X.env.scope x) (r:zC v u)
  (h:∀ s',Inv X pins (σ.set i (some v)) H s'->(∃ a,Heap.SameBut a s.heap s'.heap/\(a=X.env.locals\/X.env.cells.lookup x=some a))->Q () s') (hf:X.fn x=true\/X.env.scope.names.lookup x=some .local:=by first|exact .inl rfl|exact .inr rfl|assumption):wpAny M A (storeName X.env x u) Q E s:=by
 obtain ⟨m,hn,hl⟩:=id I.loc;have hcls:(X.env.scope.kind==.class || (X.env.scope.kind==.module&&X.env.locals != X.env.globals))=false:=by rw [I.ok.kind];rfl
 have hiσ:i<σ.length:=by rw [I.len];exact (List.getElem?_eq_some_iff.mp hi).1
 have cne:=I.cne
 have tracked:∀ {a:Addr} {h':Heap},(∃ o,s.heap.get? a=some o/\H a=none)->Heap.SameBut a s.heap h'->uL X.prog X.w H h':=fun {a h'} ha hs b ob e=>by
  obtain ⟨_,_,hfree⟩:=ha;refine (I.hok b ob e).stay (fun c w' hc q=>(hs.2 c ?_).trans q) (fun _ q=>q) fun _ _ q=>q;rintro rfl;rcases hc with rfl|hc
  .rw [hfree] at e;cases e
  .rw [hfree] at hc;cases hc
 rcases hx with hk|hk
 .refine wpAny_storeName_local hk hn (fun h' hn' hs=>?_) hcls;obtain ⟨oL,_,_,hoL,_⟩:=id hn;refine h _ ⟨I.ok,I.os,I.bare,⟨fun b o e n hb hx=>?_,fun b o e n hb hx=>?_,I.base.free,fun b o e hx=>?_,I.base.tups,I.base.frzs,I.base.tbls⟩,⟨_,hn',fun j y v' e1 e2 e3=>?_⟩,fun y c e=>?_,I.free,I.freeC,fun p hp=>?_,tracked ⟨oL,hoL,I.free⟩ hs,by simpa using I.len⟩ ⟨_,hs,.inl rfl⟩
  .exact (hs.2 b (Nat.ne_of_lt (Nat.lt_of_lt_of_le (Heap.lt_size e) I.ok.above))).trans (I.base.keep b o e n hb hx)
  .obtain ⟨sl,e1⟩:=I.base.slot b o e n hb hx;exact ⟨sl,(hs.2 b (Nat.ne_of_lt (Nat.lt_of_lt_of_le (Heap.lt_size e) I.ok.above))).trans e1⟩
  .obtain ⟨o',e1⟩:=I.base.there b o e hx;exact ⟨o',(hs.2 b (Nat.ne_of_lt (Nat.lt_of_lt_of_le (Heap.lt_size e) I.ok.above))).trans e1⟩
  .by_cases hj:j=i
   .subst hj;rw [hi] at e1;cases e1;rw [List.getElem?_set_self hiσ] at e2;cases e2;exact ⟨u,r,.inl ⟨hk,by simp⟩⟩
   .rw [List.getElem?_set_ne (Ne.symm hj)] at e2;obtain ⟨u',r',q⟩:=hl j y v' e1 e2 e3;refine ⟨u',r',?_⟩;rcases q with ⟨k,e⟩|⟨k,c,e,z⟩
    .refine .inl ⟨k,?_⟩;have:y≠x:=fun e=>hj (zaF hN e1 (e▸hi));simp [this,e]
    .exact .inr ⟨k,c,e,z.sameBut hs (cne y c e)⟩
  .obtain ⟨w',z⟩:=I.cell y c e;exact ⟨w',z.sameBut hs (cne y c e)⟩
  .obtain ⟨e,n,ne,nf,d⟩:=I.pin p hp;exact ⟨(hs.2 p.1 ne).trans e,n,ne,nf,d⟩
 .have hfn:X.fn x=true:=by
   rcases hf with z|z
   .exact z
   .rw [z] at hk;cases hk
  obtain ⟨c,hc⟩:=I.ok.has x (.inl hk);obtain ⟨w',z⟩:=I.cell x c hc;refine wpAny_storeName_cell I.ok.kind hk hc z (fun h' hc' hs=>?_);obtain ⟨oc,hoc,hocd⟩:=id z;refine h { s with heap:=h' } ⟨I.ok,I.os,I.bare,⟨fun b o e n hb hx=>?_,fun b o e n hb hx=>?_,I.base.free,fun b o e hx=>?_,I.base.tups,I.base.frzs,I.base.tbls⟩,⟨m,hn.sameBut hs (Ne.symm (cne x c hc)),fun j y v' e1 e2 e3=>?_⟩,fun y c' e=>?_,I.free,I.freeC,fun p hp=>?_,tracked ⟨oc,hoc,I.freeC x c hc⟩ hs,by simpa using I.len⟩ ⟨c,hs,.inr hc⟩
  .exact (hs.2 b (Nat.ne_of_lt (Nat.lt_of_lt_of_le (Heap.lt_size e) (I.ok.cab x c hfn hc)))).trans (I.base.keep b o e n hb hx)
  .obtain ⟨sl,e1⟩:=I.base.slot b o e n hb hx;exact ⟨sl,(hs.2 b (Nat.ne_of_lt (Nat.lt_of_lt_of_le (Heap.lt_size e) (I.ok.cab x c hfn hc)))).trans e1⟩
  .obtain ⟨o',e1⟩:=I.base.there b o e hx;exact ⟨o',(hs.2 b (Nat.ne_of_lt (Nat.lt_of_lt_of_le (Heap.lt_size e) (I.ok.cab x c hfn hc)))).trans e1⟩
  .by_cases hj:j=i
   .subst hj;rw [hi] at e1;cases e1;rw [List.getElem?_set_self hiσ] at e2;cases e2;exact ⟨u,r,.inr ⟨.inl hk,c,hc,hc'⟩⟩
   .rw [List.getElem?_set_ne (Ne.symm hj)] at e2;obtain ⟨u',r',q⟩:=hl j y v' e1 e2 e3;refine ⟨u',r',?_⟩;rcases q with q|⟨k,c',e,z'⟩
    .exact .inl q
    .refine .inr ⟨k,c',e,z'.sameBut hs ?_⟩;rintro rfl;exact hj (zaF hN e1 (I.ok.inj _ _ _ e hc▸hi))
  .by_cases hcc:c'=c
   .subst hcc;exact ⟨_,hc'⟩
   .obtain ⟨w2,z2⟩:=I.cell y c' e;exact ⟨w2,z2.sameBut hs hcc⟩
  .obtain ⟨e,n,ne,nf,d⟩:=I.pin p hp;refine ⟨(hs.2 p.1 ?_).trans e,n,ne,nf,d⟩;intro q;rw [q,hoc] at e;have q':oc=p.2:=Option.some.inj e;exact d w' (by rw [← q'];exact hocd)
theorem zas {M:Model} {A:Around} {E:Value->Shared->Prop} {i:Nat} {x:Str} {v:V} {u:Value} {Q:Unit->Shared->Prop} (I:Inv X pins σ H s) (hN:X.N.Nodup) (hi:X.N[i]?=some x) (hx:Loc X.env.scope x) (r:zC v u)
  (h:∀ s',Inv X pins (σ.set i (some v)) H s'->Q () s') (hf:X.fn x=true\/X.env.scope.names.lookup x=some .local:=by first|exact .inl rfl|exact .inr rfl|assumption):wpAny M A (storeName X.env x u) Q E s :=
 gE I hN hi hx r (fun s' I' _=>h s' I') hf
theorem Inv.call' {s':Shared} {ch:List Addr} (I:Inv X pins σ H s) (ho:s'.os=s.os) (u:Un (frs X.stack) ch H H' s.heap s'.heap) (hok:uL X.prog X.w H' s'.heap) (hg:AllBare s'.gens)
  (hch:∀ b∈ch,(b∈X.ex\/X.s₀.heap.objs.size<=b)/\b≠X.env.locals/\(∀ x c,X.env.cells.lookup x=some c->c≠b)/\∀ p∈X.pn++pins,p.1≠b):Inv X pins σ H' s':=by
 obtain ⟨h',g',d',t',o'⟩:=s';have e:o'=s.os:=ho;subst e;exact I.call (g':=g') (t':=t') (d':=d') u hok hg hch
end
abbrev XK:=Value->Option Addr->Hp->Prop
abbrev St:=List (Option V)
abbrev VK:=V->Hp->Prop
abbrev TE:=St->Hp->VK->Prop
abbrev TT:=St->Hp->(Bool->Hp->Prop)->Prop
abbrev TA:=St->Hp->(List V->Hp->Prop)->Prop
structure Ends where
 nx:St->Hp->Prop
 rt:VK
 bk:St->Hp->Prop:=fun _ _=>False
 ct:St->Hp->Prop:=fun _ _=>False
abbrev TS:=Ends->St->Hp->Prop
def EP (X:Cx) (pins:List (Addr×Obj)) (σ:St) (Q:VK) (u:Value) (s':Shared):Prop:=∃ v H',Inv X pins σ H' s'/\zC v u/\Q v H'
def TP (X:Cx) (pins:List (Addr×Obj)) (σ:St) (Q:Bool->Hp->Prop) (b:Bool) (s':Shared):Prop:=∃ H',Inv X pins σ H' s'/\Q b H'
def AP (X:Cx) (pins:List (Addr×Obj)) (σ:St) (Q:List V->Hp->Prop) (us:List Value) (s':Shared):Prop:=∃ vs H',Inv X pins σ H' s'/\zD vs us/\Q vs H'
def SP (X:Cx) (pins:List (Addr×Obj)) (D:Ends) (f:Flow) (s':Shared):Prop :=
 match f with
 | .next=>∃ σ' H',Inv X pins σ' H' s'/\D.nx σ' H'
 | .brk=>∃ σ' H',Inv X pins σ' H' s'/\D.bk σ' H'
 | .cont=>∃ σ' H',Inv X pins σ' H' s'/\D.ct σ' H'
 | .ret u=>∃ v σ' H',Inv X pins σ' H' s'/\zC v u/\D.rt v H'
def PE (X:Cx) (e:Expr) (t:TE):Prop :=
 ∀ (pins:List (Addr×Obj)) (s:Shared) (σ:St) (H:Hp) (Q:VK),Inv X pins σ H s->t σ H Q->wpAny (model X.prog X.w) X.A (eval e X.env) (EP X pins σ Q) X.xe s
def PT (X:Cx) (e:Expr) (t:TT):Prop :=
 ∀ (pins:List (Addr×Obj)) (s:Shared) (σ:St) (H:Hp) (Q:Bool->Hp->Prop),Inv X pins σ H s->t σ H Q->wpAny (model X.prog X.w) X.A (isTrue e X.env (eval e X.env)) (TP X pins σ Q) X.xe s
def PW (X:Cx) (e:Expr) (t:TT):Prop :=
 ∀ (whole:Sem Value) (pins:List (Addr×Obj)) (s:Shared) (σ:St) (H:Hp) (Q:Bool->Hp->Prop),Inv X pins σ H s->t σ H Q->wpAny (model X.prog X.w) X.A (isTrue e X.env whole) (TP X pins σ Q) X.xe s
theorem PW.pt {X:Cx} {e:Expr} {t:TT} (h:PW X e t):PT X e t:=h _
def PA (X:Cx) (es:List Expr) (t:TA):Prop :=
 ∀ (pos:Pos) (pins:List (Addr×Obj)) (s:Shared) (σ:St) (H:Hp) (Q:List V->Hp->Prop),Inv X pins σ H s->t σ H Q->wpAny (model X.prog X.w) X.A (spliced (backTo pos (starEach es X.env))) (AP X pins σ Q) X.xe s
def PS (X:Cx) (st:Stmt) (t:TS):Prop :=
 ∀ (pins:List (Addr×Obj)) (s:Shared) (σ:St) (H:Hp) (D:Ends),Inv X pins σ H s->t D σ H->wpAny (model X.prog X.w) X.A (exec st X.env) (SP X pins D) X.xe s
def PSs (X:Cx) (st:List Stmt) (t:TS):Prop :=
 ∀ (pins:List (Addr×Obj)) (s:Shared) (σ:St) (H:Hp) (D:Ends),Inv X pins σ H s->t D σ H->wpAny (model X.prog X.w) X.A (execs st X.env) (SP X pins D) X.xe s
theorem yF {α:Type} {t:Sem α} {Q Q':α->Shared->Prop} {M:Model} {A:Around} {E:Value->Shared->Prop} {s:Shared} (h:wpAny M A t Q E s) (hQ:∀ a s,Q a s->Q' a s):wpAny M A t Q' E s:=wpAny_mono h hQ fun _ _ x=>x
end L2
namespace L2
open PySem PySem.Spec PyProof.Rows
section
variable {X : Cx}
theorem bin {a b:Expr} {ta tb:TE} (ha:PE X a ta) (hb:PE X b tb) {pins:List (Addr×Obj)} {s:Shared} {σ:St} {H:Hp} {R:V->V->Hp->Prop} (I:Inv X pins σ H s) (h:ta σ H fun x H1=>tb σ H1 fun y H2=>R x y H2)
  {α:Type} {Q:α->Shared->Prop} {f:Value->Value->Sem α}
  (hf:∀ v u s2 x y H2,Inv X pins σ H2 s2->zC x v->zC y u->R x y H2->wpAny (model X.prog X.w) X.A (f v u) Q X.xe s2) :
  wpAny (model X.prog X.w) X.A (eval a X.env) (fun v s₁=>wpAny (model X.prog X.w) X.A (eval b X.env) (fun u s₂=>wpAny (model X.prog X.w) X.A (f v u) Q X.xe s₂) X.xe s₁) X.xe s:=by
 refine yF (ha pins s σ H _ I h) fun v s1 ⟨x,H1,I1,r1,q1⟩=>?_;refine yF (hb pins s1 σ H1 _ I1 q1) fun u s2 ⟨y,H2,I2,r2,q2⟩=>?_;exact hf v u s2 x y H2 I2 r1 r2 q2
def tVar (i:Nat):TE:=fun σ H Q=>∃ v,σ[i]?=some (some v)/\Q v H
def tC (v:V):TE:=fun _ H Q=>Q v H
theorem zhT {i:Nat} {x:Str} {pos:Pos} (hN:X.N[i]?=some x) (hv:Vis X.env.scope x) (hd:(x==("__debug__" : Str))=false:=by decide) (hcd:(x==("__classdict__" : Str))=false:=by decide):PE X (.Name x pos) (tVar i):=by
 intro pins s σ H Q I h;obtain ⟨v,e,h⟩:=h;obtain ⟨m,hn,hl⟩:=I.loc;obtain ⟨u,r,l⟩:=hl i x v hN e hv;have fin:EP X pins σ Q u s:=⟨v,H,I,r,h⟩;rcases l with ⟨hk,hm⟩|⟨hk,c,hc,hcell⟩
 .exact wpAny_Name (wpAny_loadName_local I.ok.kind hk hn hm fin) hd
 .rcases hk with hk|hk
  .exact wpAny_Name (wpAny_loadName_cell I.ok.kind hk hc hcell fin) hd
  .exact wpAny_Name (wpAny_loadName_free I.ok.kind hk hc hcell fin hcd) hd
theorem zeW {i j pos}:PE X (.Constant (.int i) j pos) (tC (.int i)):=fun _ _ _ H _ I h=>wpAny_Constant_int ⟨.int i,H,I.tok _,⟨_,rfl⟩,h⟩
theorem pe_bl {b j pos}:PE X (.Constant (.bool b) j pos) (tC (.bl b)):=fun _ _ _ H _ I h=>Constant_bool ⟨.bl b,H,I,rfl,h⟩
theorem zhY {j pos}:PE X (.Constant .none j pos) (tC .non):=fun _ _ _ H _ I h=>Constant_none ⟨.non,H,I,rfl,h⟩
theorem zeU {x j pos}:PE X (.Constant (.str x) j pos) (tC (.str x)):=fun _ _ _ H _ I h=>Calls.Constant_str ⟨.str x,H,I.tok _,⟨_,rfl⟩,h⟩
def Gl (X:Cx) (x:Str):Prop:=X.env.kindOf x=some .globalImplicit
theorem cJ {E:Value->Shared->Prop} {pins:List (Addr×Obj)} {s:Shared} {σ:St} {H:Hp} {x:Str} {u:Value} {pos:Pos} {Q:Value->Shared->Prop} (I:Inv X pins σ H s) (hg:Gl X x) (hm:X.mg x=some u) (h:Q u s)
  (hd:(x==("__debug__" : Str))=false:=by decide):wpAny (model X.prog X.w) X.A (eval (.Name x pos) X.env) Q E s :=
 Calls.Name_function_global I.ok.kind hg (Calls.loadGlobal_global (by rw [I.ok.glob];exact I.mod.glob.keeps I.bk) hm h) hd
theorem qF {E:Value->Shared->Prop} {pins:List (Addr×Obj)} {s:Shared} {σ:St} {H:Hp} {x:Str} {u:Value} {pos:Pos} {Q:Value->Shared->Prop} (I:Inv X pins σ H s) (hg:Gl X x) (hm:X.mg x=none) (hv:bootBuiltins x=some u) (h:Q u s)
  (hn:x ≠ "__name__" := by decide) (hd:(x==("__debug__" : Str))=false:=by decide):wpAny (model X.prog X.w) X.A (eval (.Name x pos) X.env) Q E s:=by
 obtain ⟨mb,h1,h2⟩:=I.mod.blt;exact Calls.Name_function_global I.ok.kind hg (Calls.loadGlobal_builtin (by rw [I.ok.glob];exact I.mod.glob.keeps I.bk) hm (by rw [I.ok.blt];exact h1.keeps I.bk) ((h2 x hn).trans hv) h) hd
theorem zfX {x:Str} {v:V} {u:Value} {pos:Pos} (hg:Gl X x) (hm:X.mg x=some u) (r:zC v u) (hd:(x==("__debug__" : Str))=false:=by decide):PE X (.Name x pos) (tC v) :=
 fun _ _ _ H _ I h=>cJ I hg hm ⟨v,H,I,r,h⟩ hd
theorem zf1 {x:Str} {v:V} {u:Value} {pos:Pos} (hg:Gl X x) (hm:X.mg x=none) (hv:bootBuiltins x=some u) (r:zC v u) (hn:x ≠ "__name__" := by decide) (hd:(x==("__debug__" : Str))=false:=by decide):PE X (.Name x pos) (tC v) :=
 fun _ _ _ H _ I h=>qF I hg hm hv ⟨v,H,I,r,h⟩ hn hd
variable {a b : Expr} {ta tb : TE} {pos : Pos}
variable {tA tB' : TT} {rest : List Expr}
def tAnd (t u:TT):TT:=fun σ H Q=>t σ H fun c H1=>if c=true then u σ H1 Q else Q false H1
def tOr (t u:TT):TT:=fun σ H Q=>t σ H fun c H1=>if c=true then Q true H1 else u σ H1 Q
def tNot (t:TT):TT:=fun σ H Q=>t σ H fun c H1=>Q (!c) H1
theorem zfK (ha:PT X a tA):PW X (.BoolOp .And [a] pos) tA:=by
 intro wh pins s σ H Q I h;refine isTrue_and (yF (ha pins s σ H Q I h) fun c s1 e=>?_)
 cases c with
 |true=>exact isTrue_and_nil e
 |false=>exact e
theorem zhH (ha:PT X a tA):PW X (.BoolOp .Or [a] pos) tA:=by
 intro wh pins s σ H Q I h;refine isTrue_or (yF (ha pins s σ H Q I h) fun c s1 e=>?_)
 cases c with
 |false=>exact isTrue_or_nil e
 |true=>exact e
theorem zeS (ha:PT X a tA) (hb:PW X (.BoolOp .And (b::rest) pos) tB'):PW X (.BoolOp .And (a::b::rest) pos) (tAnd tA tB'):=by
 intro wh pins s σ H Q I h;refine isTrue_and (yF (ha pins s σ H _ I h) fun c s1 ⟨H1,I1,q1⟩=>?_)
 cases c with
 |true=>exact hb wh pins s1 σ H1 Q I1 q1
 |false=>exact ⟨H1,I1,q1⟩
theorem zhI (ha:PT X a tA) (hb:PW X (.BoolOp .Or (b::rest) pos) tB'):PW X (.BoolOp .Or (a::b::rest) pos) (tOr tA tB'):=by
 intro wh pins s σ H Q I h;refine isTrue_or (yF (ha pins s σ H _ I h) fun c s1 ⟨H1,I1,q1⟩=>?_)
 cases c with
 |true=>exact ⟨H1,I1,q1⟩
 |false=>exact hb wh pins s1 σ H1 Q I1 q1
theorem zhJ (ha:PT X a tA):PT X (.UnaryOp .Not a pos) (tNot tA):=by
 intro pins s σ H Q I h;exact isTrue_not (ha pins s σ H (fun c H1=>Q (!c) H1) I h)
def zho (ta tb:TE):TE:=fun σ H Q=>ta σ H fun x H1=>∃ c,x=.bl c/\if c=true then tb σ H1 Q else Q (.bl false) H1
def tOrV (ta tb:TE):TE:=fun σ H Q=>ta σ H fun x H1=>∃ c,x=.bl c/\if c=true then Q (.bl true) H1 else tb σ H1 Q
def tNotV (ta:TE):TE:=fun σ H Q=>ta σ H fun x H1=>∃ c,x=.bl c/\Q (.bl (!c)) H1
theorem zeV {op} {t:TE} (h:PE X a t):PE X (.BoolOp op [a] pos) t:=fun pins s σ H Q I hw=>BoolOp_one (h pins s σ H Q I hw)
theorem zeX (ha:PE X a ta) (hb:PE X (.BoolOp .And (b::rest) pos) tb):PE X (.BoolOp .And (a::b::rest) pos) (zho ta tb):=by
 intro pins s σ H Q I h;refine BoolOp_and (yF (ha pins s σ H _ I h) fun v s1 ⟨x,H1,I1,r1,q1⟩=>?_);obtain ⟨c,rfl,q1⟩:=q1;cases r1;refine wpAny_truthy_bool ?_
 cases c with
 |true=>exact hb pins s1 σ H1 Q I1 q1
 |false=>exact ⟨.bl false,H1,I1,rfl,q1⟩
theorem zhW (ha:PE X a ta) (hb:PE X (.BoolOp .Or (b::rest) pos) tb):PE X (.BoolOp .Or (a::b::rest) pos) (tOrV ta tb):=by
 intro pins s σ H Q I h;refine BoolOp_or (yF (ha pins s σ H _ I h) fun v s1 ⟨x,H1,I1,r1,q1⟩=>?_);obtain ⟨c,rfl,q1⟩:=q1;cases r1;refine wpAny_truthy_bool ?_
 cases c with
 |false=>exact hb pins s1 σ H1 Q I1 q1
 |true=>exact ⟨.bl true,H1,I1,rfl,q1⟩
theorem zhX (ha:PE X a ta):PE X (.UnaryOp .Not a pos) (tNotV ta):=by
 intro pins s σ H Q I h;refine UnaryOp_ (yF (ha pins s σ H _ I h) fun v s1 ⟨x,H1,I1,r1,q1⟩=>?_);obtain ⟨c,rfl,q1⟩:=q1;cases r1;exact not_of (wpAny_truthy_bool ⟨.bl (!c),H1,I1,rfl,q1⟩)
def tIf (t:TT) (ta tb:TE):TE:=fun σ H Q=>t σ H fun c H1=>if c=true then ta σ H1 Q else tb σ H1 Q
theorem zdZ {c:Expr} (hc:PT X c tA) (ha:PE X a ta) (hb:PE X b tb):PE X (.IfExp c a b pos) (tIf tA ta tb):=by
 intro pins s σ H Q I h;refine wpAny_IfExp (yF (hc pins s σ H _ I h) fun d s1 ⟨H1,I1,q1⟩=>?_)
 cases d with
 |true=>exact ha pins s1 σ H1 Q I1 q1
 |false=>exact hb pins s1 σ H1 Q I1 q1
end
end L2
namespace L2
open PySem PySem.Spec PyProof.Rows
def rP (K:PySem.W.Frag) (H:Hp) (a:Addr) (xs:List V):Prop :=
 Rd H a (.lst xs) \/
  ∃ (o:Obj) (its:Array Value) (n:Nat),K.lookup a=some o/\o.cls=.type "list" /\ o.dict=none/\o.data=.seq its n/\its.size<=sizeLine/\zD xs its.toList
def sL (K:PySem.W.Frag) (H:Hp) (a:Addr) (xs:List V):Prop :=
 Rd H a (.tup xs) \/
  ∃ (o:Obj) (its:Array Value) (n:Nat),K.lookup a=some o/\o.cls=.type "tuple" /\ o.data=.seq its n/\its.size<=sizeLine/\zD xs its.toList
def absV:Value->Option V
 | .none=>some .non
 | .bool b=>some (.bl b)
 | .int i _=>some (.int i)
 | .str x _=>some (.str x)
 | .bytes b _=>some (.byt b)
 | .float b _=>some (.flt b)
 | .ref a=>some (.ref a)
 | .type n=>some (.ty n)
 |_=>none
theorem zC.abs {x:V} {u:Value} (r:zC x u):absV u=some x:=by
 cases x with
 |non=>cases r;rfl
 |bl _=>cases r;rfl
 |int _=>obtain ⟨t,rfl⟩:=r;rfl
 |str _=>obtain ⟨t,rfl⟩:=r;rfl
 |byt _=>obtain ⟨t,rfl⟩:=r;rfl
 |flt _=>obtain ⟨t,rfl⟩:=r;rfl
 |ref _=>cases r;rfl
 |ty _=>cases r;rfl
theorem zC.inj {x y:V} {u:Value} (r:zC x u) (q:zC y u):x=y:=Option.some.inj (r.abs.symm.trans q.abs)
theorem zD.inj:∀ {xs ys:List V} {us:List Value},zD xs us->zD ys us->xs=ys
 |_,_,_,.nil,.nil=>rfl
 |_,_,_,.cons r t,.cons r' t'=>by rw [r.inj r',zD.inj t t']
section
variable {X : Cx} {pins : List (Addr × Obj)} {σ : St} {H : Hp} {s : Shared} {a : Addr} {xs ys : List V}
theorem rP.of {K:PySem.W.Frag} (h:H a=some (.lst xs)):rP K H a xs:=.inl (.inl h)
theorem sL.of {K:PySem.W.Frag} (h:H a=some (.tup xs)):sL K H a xs:=.inl (.inl h)
theorem Inv.list (I:Inv X pins σ H s) (h:rP X.K H a xs):∃ its:List Value,zD xs its/\PlainL s.heap a its.toArray/\xs.length<=sizeLine:=by
 rcases h with h|⟨o,its,n,hk,hc,hd,hs,hz,r⟩
 .obtain ⟨z,its,n,r,e⟩:=h.ok I.hok;exact ⟨its,r,⟨_,n,e,rfl,rfl,rfl⟩,z⟩
 .refine ⟨its.toList,r,⟨o,n,I.kIn a o hk,hc,hd,by simpa using hs⟩,?_⟩;have e:=r.length;simp only [Array.length_toList] at e;omega
theorem Inv.tuple (I:Inv X pins σ H s) (h:sL X.K H a xs):∃ its:List Value,zD xs its/\IsTup s.heap a its.toArray/\xs.length<=sizeLine:=by
 rcases h with h|⟨o,its,n,hk,hc,hs,hz,r⟩
 .obtain ⟨z,its,r,p⟩:=h.ok I.hok;exact ⟨its,r,p,z⟩
 .refine ⟨its.toList,r,⟨o,I.kIn a o hk,hc,n,by simpa using hs⟩,?_⟩;have e:=r.length;simp only [Array.length_toList] at e;omega
theorem Inv.list_inj (I:Inv X pins σ H s) (h:rP X.K H a xs) (h':rP X.K H a ys):xs=ys:=by
 obtain ⟨its,r,⟨o,n,e,_,_,d⟩,_⟩:=I.list h;obtain ⟨its',r',⟨o',n',e',_,_,d'⟩,_⟩:=I.list h';rw [e] at e';cases e';rw [d] at d'
 injection d' with d1 _
 have:its=its':=by simpa using congrArg Array.toList d1
 subst this;exact r.inj r'
theorem Inv.tuple_inj (I:Inv X pins σ H s) (h:sL X.K H a xs) (h':sL X.K H a ys):xs=ys:=by
 obtain ⟨its,r,⟨o,e,_,n,d⟩,_⟩:=I.tuple h;obtain ⟨its',r',⟨o',e',_,n',d'⟩,_⟩:=I.tuple h';rw [e] at e';cases e';rw [d] at d'
 injection d' with d1 _
 have:its=its':=by simpa using congrArg Array.toList d1
 subst this;exact r.inj r'
end
abbrev Cx.wish (X:Cx) (E:Value->Shared->Prop):Cx:={ X with xe:=E }
abbrev Cx.nox (X:Cx):Cx:=X.wish fun _ _=>False
theorem Cx.Ok.wish {X:Cx} (ok:X.Ok) (E:Value->Shared->Prop):(X.wish E).Ok :=
 ⟨ok.mod,ok.kind,ok.glob,ok.blt,ok.above,ok.inj,ok.has,ok.cab,ok.hd,ok.frames,ok.stk,ok.exf,ok.bs,ok.bsz,ok.noex,ok.exfs,ok.funs,ok.frf⟩
theorem Cx.Ok.unwish {X:Cx} {E:Value->Shared->Prop} (ok:(X.wish E).Ok):X.Ok :=
 ⟨ok.mod,ok.kind,ok.glob,ok.blt,ok.above,ok.inj,ok.has,ok.cab,ok.hd,ok.frames,ok.stk,ok.exf,ok.bs,ok.bsz,ok.noex,ok.exfs,ok.funs,ok.frf⟩
section
variable {X : Cx} {pins : List (Addr × Obj)} {σ : St} {H : Hp} {s : Shared} {E : Value → Shared → Prop}
theorem Inv.wish (I:Inv X pins σ H s) (E:Value->Shared->Prop):Inv (X.wish E) pins σ H s:=⟨I.ok.wish E,I.os,I.bare,I.base,I.loc,I.cell,I.free,I.freeC,I.pin,I.hok,I.len⟩
theorem Inv.unwish (I:Inv (X.wish E) pins σ H s):Inv X pins σ H s:=⟨I.ok.unwish,I.os,I.bare,I.base,I.loc,I.cell,I.free,I.freeC,I.pin,I.hok,I.len⟩
theorem SP.unwish {D:Ends} {f:Flow} {s':Shared} (h:SP (X.wish E) pins D f s'):SP X pins D f s':=by
 cases f with
 |next=>obtain ⟨σ',H',I,q⟩:=h;exact ⟨σ',H',I.unwish,q⟩
 |brk=>obtain ⟨σ',H',I,q⟩:=h;exact ⟨σ',H',I.unwish,q⟩
 |cont=>obtain ⟨σ',H',I,q⟩:=h;exact ⟨σ',H',I.unwish,q⟩
 |ret u=>obtain ⟨v,σ',H',I,r,q⟩:=h;exact ⟨v,σ',H',I.unwish,r,q⟩
theorem PSs.nox {st:List Stmt} {t:TS} (h:PSs X.nox st t):PSs X st t:=fun pins s σ H D I hw =>
 wpAny_mono (h pins s σ H D (I.wish _) hw) (fun _ _ q=>q.unwish) fun _ _ z=>False.elim z
end
section
variable {X : Cx} {st : Stmt} {rest : List Stmt} {t u : TS} {e : Expr} {te : TE} {pos : Pos}
def zhk:TS:=fun D σ H=>D.nx σ H
def tSeq (t u:TS):TS:=fun D σ H=>t { D with nx:=u D } σ H
theorem zfO:PSs X [] zhk:=fun _ _ σ H _ I h=>wpAny_execs_nil ⟨σ,H,I,h⟩
theorem zdN (h1:PS X st t) (h2:PSs X rest u):PSs X (st::rest) (tSeq t u):=by
 intro pins s σ H D I h;refine wpAny_execs_cons (yF (h1 pins s σ H { D with nx:=u D } I h) fun f s1 q=>?_)
 cases f with
 |next =>
  obtain ⟨σ',H',I',q⟩:=q;exact h2 pins s1 σ' H' D I' q
 |ret v=>exact q
 |brk=>exact q
 |cont=>exact q
def zhn:TS:=fun D σ H=>D.bk σ H
def tCont:TS:=fun D σ H=>D.ct σ H
theorem zfQ:PS X (.Pass pos) zhk:=fun _ _ σ H _ I h=>wpAny_Pass ⟨σ,H,I,h⟩
theorem zdR:PS X (.Break pos) zhn:=fun _ _ σ H _ I h=>wpAny_Break ⟨σ,H,I,h⟩
theorem zai:PS X (.Continue pos) tCont:=fun _ _ σ H _ I h=>wpAny_Continue ⟨σ,H,I,h⟩
theorem Inv.quiet {pins:List (Addr×Obj)} {σ:St} {H:Hp} {s:Shared} (I:Inv X pins σ H s):interactive X.env=false:=by simp [interactive,I.ok.kind]
def tDrop (te:TE):TS:=fun D σ H=>te σ H fun _ H1=>D.nx σ H1
theorem zfR (he:PE X e te) (hs:swapsWith e none pos.line X.env=pure false:=by rfl):PS X (.Expr e pos) (tDrop te):=by
 intro pins s σ H D I h;exact wpAny_Expr_any (yF (he pins s σ H _ I h) fun v s1 ⟨x,H1,I1,r1,q1⟩=>⟨σ,H1,I1,q1⟩) I.quiet hs
def tRet (te:TE):TS:=fun D σ H=>te σ H D.rt
theorem zhL (he:PE X e te):PS X (.Return (some e) pos) (tRet te):=by
 intro pins s σ H D I h;exact wpAny_Return_some (yF (he pins s σ H _ I h) fun v s1 ⟨x,H1,I1,r1,q1⟩=>⟨x,σ,H1,I1,r1,q1⟩)
def tRetN:TS:=fun D _ H=>D.rt .non H
theorem zfP:PS X (.Return none pos) tRetN:=fun _ _ σ H _ I h=>wpAny_Return_none ⟨.non,σ,H,I,rfl,h⟩
def tIfS (c:TT) (t u:TS):TS:=fun D σ H=>c σ H fun b H1=>if b=true then t D σ H1 else u D σ H1
theorem ps_if {c:Expr} {a b:List Stmt} {tc:TT} (hc:PT X c tc) (ha:PSs X a t) (hb:PSs X b u):PS X (.If c a b pos) (tIfS tc t u):=by
 intro pins s σ H D I h;refine wpAny_If (yF (hc pins s σ H _ I h) fun d s1 ⟨H1,I1,q1⟩=>?_)
 cases d with
 |true=>exact ha pins s1 σ H1 D I1 q1
 |false=>exact hb pins s1 σ H1 D I1 q1
def zhl:TS:=fun _ _ _=>False
theorem zdQ:PS X st zhl:=fun _ _ _ _ _ _ h=>h.elim
end
abbrev TG:=V->St->Hp->(St->Hp->Prop)->Prop
abbrev TGs:=List V->St->Hp->(St->Hp->Prop)->Prop
def PG (X:Cx) (target:Expr) (t:TG):Prop :=
 ∀ (pins:List (Addr×Obj)) (s:Shared) (σ:St) (H:Hp) (v:V) (u:Value) (Q:St->Hp->Prop),Inv X pins σ H s->zC v u->t v σ H Q ->
  wpAny (model X.prog X.w) X.A (assign target X.env u) (fun _ s'=>∃ σ' H',Inv X pins σ' H' s'/\Q σ' H') X.xe s
def PGs (X:Cx) (ts:List Expr) (t:TGs):Prop :=
 ∀ (pins:List (Addr×Obj)) (s:Shared) (σ:St) (H:Hp) (vs:List V) (us:List Value) (Q:St->Hp->Prop),Inv X pins σ H s->zD vs us->t vs σ H Q ->
  wpAny (model X.prog X.w) X.A (assignInOrder ((assignEach ts X.env).map (·.2)) us) (fun _ s'=>∃ σ' H',Inv X pins σ' H' s'/\Q σ' H') X.xe s
abbrev TSet:=V->V->V->Hp->(Hp->Prop)->Prop
def PSet (X:Cx) (t:TSet):Prop :=
 ∀ (pins:List (Addr×Obj)) (s:Shared) (σ:St) (H:Hp) (o i v:V) (ov iv u:Value) (Q:Hp->Prop),Inv X pins σ H s->zC o ov->zC i iv->zC v u->t o i v H Q ->
  wpAny (model X.prog X.w) X.A (setItem ov iv u) (fun _ s'=>∃ H',Inv X pins σ H' s'/\Q H') X.xe s
section
variable {X : Cx} {pos : Pos}
def zeo (i:Nat):TG:=fun v σ H Q=>Q (σ.set i (some v)) H
theorem zfW {i:Nat} {x:Str} (hN:X.N.Nodup) (hi:X.N[i]?=some x) (hx:Loc X.env.scope x) (hf:X.fn x=true\/X.env.scope.names.lookup x=some .local:=by first|exact .inl rfl|exact .inr rfl|assumption):PG X (.Name x pos) (zeo i):=by
 intro pins s σ H v u Q I r h;exact wpAny_assign_Name (zas I hN hi hx r (fun s' I'=>⟨_,H,I',h⟩) hf)
def gNil:TGs:=fun vs σ H Q=>vs=[]/\Q σ H
def gCons (t:TG) (u:TGs):TGs:=fun vs σ H Q=>∃ v r,vs=v::r/\t v σ H fun σ' H'=>u r σ' H' Q
theorem zfV:PGs X [] gNil:=by
 intro pins s σ H vs us Q I r h;obtain ⟨e,h⟩:=h;subst e;cases r;exact assignInOrder_nil ⟨σ,H,I,h⟩
theorem zdW {e:Expr} {es:List Expr} {t:TG} {u:TGs} (h1:PG X e t) (h2:PGs X es u)
  (hs:(assignEach (e::es) X.env).map (·.2)=assign e X.env::(assignEach es X.env).map (·.2):=by rfl):PGs X (e::es) (gCons t u):=by
 intro pins s σ H vs us Q I r h;obtain ⟨v,vr,e1,h⟩:=h;subst e1
 cases r with
 |cons r rr =>
  rw [hs];refine assignInOrder_cons (yF (h1 pins s σ H _ _ _ I r h) fun _ s1 ⟨σ1,H1,I1,q1⟩=>?_);exact h2 pins s1 σ1 H1 _ _ Q I1 rr q1
def gTup (K:PySem.W.Frag) (n:Nat) (t:TGs):TG:=fun v σ H Q=>∃ a xs,v=.ref a/\sL K H a xs/\xs.length=n/\t xs σ H Q
theorem zhS {es:List Expr} {k:Nat} {t:TGs} {n:Nat} (hc:X.calm=true) (h:PGs X es t)
  (hn:(assignEach es X.env).length=n:=by rfl) (hst:(assignEach es X.env).findIdx? (·.1)=none:=by rfl):PG X (.Tuple es k pos) (gTup X.K n t):=by
 intro pins s σ H v u Q I r hw;obtain ⟨a,xs,e1,hq,hl,hw⟩:=hw;subst e1;cases r;obtain ⟨its,rv,ht,hz⟩:=I.tuple hq;refine assign_Tuple_tuple (I.ok.hd hc) ht (by simp [hn,← hl,rv.length]) hst fun h' hx=>?_;have I1:Inv X pins σ H { s with heap:=h' }:=I.kept (t':=s.toks) fun b o e=>hx b o (Nat.ne_of_lt (Heap.lt_size e)) e;exact h pins _ σ H xs _ Q I1 (by simpa using rv) hw
def tAsg (te:TE) (g:TG):TS:=fun D σ H=>te σ H fun x H1=>g x σ H1 D.nx
theorem zhO {tg e:Expr} {te:TE} {g:TG} (he:PE X e te) (hg:PG X tg g) (hs:swapsWithSole [tg] e pos.line X.env=pure false:=by rfl) (hw:swappedStores [tg] e X.env=pure none:=by rfl)
  (h1:(assignEach [tg] X.env).map (·.2)=[assign tg X.env]:=by rfl):PS X (.Assign [tg] e pos) (tAsg te g):=by
 intro pins s σ H D I h;refine wpAny_Assign_stores (yF (he pins s σ H _ I h) fun v s1 ⟨x,H1,I1,r1,q1⟩=>?_) hs hw;rw [h1];exact yF (hg pins s1 σ H1 x v _ I1 r1 q1) fun _ s2 q=>q
theorem zeT {i:Nat} {x:Str} {e:Expr} {te:TE} {pos':Pos} (hN:X.N.Nodup) (hi:X.N[i]?=some x) (hx:Loc X.env.scope x) (he:PE X e te) (hs:swapsWith e (some (.Name x pos')) pos.line X.env=pure false:=by rfl) (hf:X.fn x=true\/X.env.scope.names.lookup x=some .local:=by first|exact .inl rfl|exact .inr rfl|assumption) :
  PS X (.Assign [.Name x pos'] e pos) (tAsg te (zeo i)):=by
 intro pins s σ H D I h;refine wpAny_Assign_Name (yF (he pins s σ H _ I h) fun v s1 ⟨y,H1,I1,r1,q1⟩=>?_) hs;exact zas I1 hN hi hx r1 (fun s2 I2=>⟨_,H1,I2,q1⟩) hf
end
section
variable {X : Cx} {pos : Pos}
def zhj (c:TT) (tb:TS):TS:=fun D σ H=>∃ W:Nat->St->Hp->Prop,(∃ m,W m σ H)/\∀ m σ H,W m σ H ->
 c σ H fun b H1=>if b=true then ∃ N:St->Hp->Prop,(∀ σ' H',N σ' H'->∃ m',m' < m/\W m' σ' H')/\tb { D with nx:=N,ct:=N,bk:=D.nx } σ H1 else D.nx σ H1
theorem zdO {c:Expr} {body:List Stmt} {tc:TT} {tb:TS} (hp:PassesOwn (model X.prog X.w) X.A X.env X.xe) (hc:PT X c tc) (hb:PSs X body tb):PS X (.While c body [] pos) (zhj tc tb):=by
 intro pins s σ H D I h;obtain ⟨W,⟨m0,w0⟩,turn⟩:=h;refine wpAny_While (codeAny_whileLoop (fun n s'=>∃ σ' H',Inv X pins σ' H' s'/\W n σ' H') ?_ m0 ⟨σ,H,I,w0⟩);rintro n s1 ⟨σ1,H1,I1,w1⟩;refine wpAny_passesOwn hp (yF (hc pins s1 σ1 H1 _ I1 (turn n σ1 H1 w1)) fun b s2 ⟨H2,I2,q2⟩=>?_)
 cases b with
 |true =>
  obtain ⟨N,hN,q2⟩:=q2;rw [if_pos rfl];refine wpAny_passesOwn hp (yF (hb pins s2 σ1 H2 _ I2 q2) fun f s3 q3=>?_)
  cases f with
  |next =>
   obtain ⟨σ3,H3,I3,n3⟩:=q3;obtain ⟨m',hm,w3⟩:=hN σ3 H3 n3;exact ⟨m',hm,σ3,H3,I3,w3⟩
  |cont =>
   obtain ⟨σ3,H3,I3,n3⟩:=q3;obtain ⟨m',hm,w3⟩:=hN σ3 H3 n3;exact ⟨m',hm,σ3,H3,I3,w3⟩
  |brk=>exact q3
  |ret v=>exact q3
 |false =>
  rw [if_neg zzN];exact wpAny_execs_nil ⟨σ1,H2,I2,q2⟩
end
structure It where
 go:Nat->Hp->Prop
 yld:Nat->Hp->V->Hp->Prop
 stop:Nat->Hp->Prop
def kR (X:Cx) (pins:List (Addr×Obj)) (H:Hp) (b:Addr):Prop :=
 H b=none/\b≠X.env.locals/\b∉X.fs/\(b∈X.ex\/X.s₀.heap.objs.size<=b)/\(∀ x c,X.env.cells.lookup x=some c->c≠b)/\∀ p∈X.pn++pins,p.1≠b
theorem Inv.fpOk {X:Cx} {pins:List (Addr×Obj)} {σ:St} {H H':Hp} {s:Shared} {b:Addr} (I:Inv X pins σ H s) (hb:s.heap.objs.size<=b) (hn:H' b=none):kR X pins H' b:=by
 refine ⟨hn,Nat.ne_of_gt (Nat.lt_of_lt_of_le I.lt hb),I.nofs hb,.inr (Nat.le_trans I.sz hb),fun x c e z=>?_,fun p hp z=>?_⟩
 .obtain ⟨v,q⟩:=I.cell x c e;exact absurd (Nat.lt_of_lt_of_le q.lt (by rw [z];exact hb)) (Nat.lt_irrefl _)
 .exact absurd (Nat.lt_of_lt_of_le (Heap.lt_size (I.pin p hp).1) (by rw [z];exact hb)) (Nat.lt_irrefl _)
structure Turn (P:Program) (w:World) (K:PySem.W.Frag) (tg:Expr) (J:It) (fp:List Addr) (it:Addr) (tn:Nat->Heap->Prop):Prop where
 mem:it∈fp
 obj:∀ i h,tn i h->∀ b∈fp,∃ o,h.get? b=some o/\∀ v,o.data≠.cell v
 keep:∀ i h h',tn i h->(∀ b∈fp,∀ o,h.get? b=some o->h'.get? b=some o)->tn i h'
 item:∀ (X:Cx),X.prog=P->X.w=w->X.K=K->X.calm=true->∀ (i:Nat) (pins:List (Addr×Obj)) (s:Shared) (σ:St) (H:Hp) (E:Value->Shared->Prop),Inv X pins σ H s->(∀ b∈fp,kR X pins H b)->tn i s.heap->J.go i H ->
  wpAny (model P w) X.A (pyNext (.ref it)) (fun r s1=>∃ u,r=some u /\
   wpAny (model P w) X.A (letOwnedTupleGo tg (.ref it) u) (fun _ s2=>∃ x H',Inv X pins σ H' s2/\zC x u/\J.yld i H x H'/\tn (i+1) s2.heap/\∀ b∈fp,H' b=none) E s1) E s
 done:∀ (X:Cx),X.prog=P->X.w=w->X.K=K->X.calm=true->∀ (i:Nat) (pins:List (Addr×Obj)) (s:Shared) (σ:St) (H:Hp) (E:Value->Shared->Prop),Inv X pins σ H s->(∀ b∈fp,kR X pins H b)->tn i s.heap->J.stop i H ->
  wpAny (model P w) X.A (pyNext (.ref it)) (fun r s1=>r=none/\Inv X pins σ H s1) E s
 self:∀ (A:Around) (i:Nat) (s:Shared) (Q:Value->Shared->Prop) (E:Value->Shared->Prop),tn i s.heap->Q (.ref it) s->wpAny (model P w) A (pyIter (.ref it)) Q E s
abbrev TI:=St->Hp->(It->Hp->Prop)->Prop
def PIE (X:Cx) (pins:List (Addr×Obj)) (σ:St) (tg:Expr) (R:It->Hp->Prop) (itv:Value) (s2:Shared):Prop :=
 ∃ (it:Addr) (fp:List Addr) (tn:Nat->Heap->Prop) (J:It) (H':Hp),itv=.ref it/\Inv X pins σ H' s2/\Turn X.prog X.w X.K tg J fp it tn/\tn 0 s2.heap/\(∀ b∈fp,kR X pins H' b)/\R J H'
def PI (X:Cx) (tg iter:Expr) (wi:TI):Prop :=
 ∀ (pins:List (Addr×Obj)) (s:Shared) (σ:St) (H:Hp) (R:It->Hp->Prop),Inv X pins σ H s->wi σ H R ->
  wpAny (model X.prog X.w) X.A (eval iter X.env) (fun v s1=>wpAny (model X.prog X.w) X.A (pyIter v) (PIE X pins σ tg R) X.xe s1) X.xe s
theorem fD {M:Model} {A:Around} {E:Value->Shared->Prop} {s:Shared} {tg:Expr} {it:Addr} {u:Value} {o:Obj} {n:String} {vs:Array Value} {Q:Unit->Shared->Prop} (ho:s.heap.get? it=some o) (hc:o.cls=.type n) (hd:o.data=.fields vs)
    (hn:["enumerate", "zip", "dict_itemiterator", "dict_reverseitemiterator", "odict_iterator", "itertools.zip_longest", "itertools.pairwise"].contains n=false) (hQ:Q () s):wpAny M A (letOwnedTupleGo tg (.ref it) u) Q E s:=by
  unfold letOwnedTupleGo
  cases tg<;>first
    |exact wpAny_pure hQ
    | (cases u<;>first
        |exact wpAny_pure hQ
        | (refine wpAny_bind (wpAny_load ho ?_)
           rw [hc,hd];show wpAny M A (if (["enumerate", "zip", "dict_itemiterator", "dict_reverseitemiterator", "odict_iterator", "itertools.zip_longest", "itertools.pairwise"].contains n&&vs[0]?==some (rawInt _))=true then _ else _) Q E s;rw [if_neg (by intro h;rw [hn,Bool.false_and] at h;cases h)];exact wpAny_pure hQ))
def Itl (K:PySem.W.Frag) (a:Addr):It :=
 ⟨fun i H=>∃ xs x,rP K H a xs/\xs[i]?=some x,fun i H x H'=>H'=H/\∀ xs,rP K H a xs->xs[i]?=some x,fun i H=>∃ xs,rP K H a xs/\xs.length<=i⟩
def Itt (K:PySem.W.Frag) (a:Addr):It :=
 ⟨fun i H=>∃ xs x,sL K H a xs/\xs[i]?=some x,fun i H x H'=>H'=H/\∀ xs,sL K H a xs->xs[i]?=some x,fun i H=>∃ xs,sL K H a xs/\xs.length<=i⟩
def Itr (lo:Int) (n:Nat):It:=⟨fun i _=>i<n,fun i H x H'=>H'=H/\x=.int (lo+i),fun i _=>n<=i⟩
theorem zbF {P:Program} {w:World} {K:PySem.W.Frag} {tg:Expr} (a it:Addr):Turn P w K tg (Itl K a) [it] it (fun i h=>h.IsListIter it a i) where
 mem:=by simp
 obj:=fun i h st b hb=>by
  have e:b=it:=by simpa using hb
  subst e;obtain ⟨o,e,c,d⟩:=st;exact ⟨o,e,fun v z=>by rw [d] at z;cases z⟩
 keep:=fun i h h' st k=>st.at fun o e=>k it (by simp) o e
 item:=by
  intro X hP hw hK hc i pins s σ H E I hf st hg;subst hP hw hK;obtain ⟨xs,x,hq,hx⟩:=hg;obtain ⟨its,rv,p,hz⟩:=I.list hq;obtain ⟨u,hu,ru⟩:=rv.get hx;obtain ⟨f0,f1,f2,f3,f4,f5⟩:=hf it (by simp);refine wpAny_pyNext_list_item st p.isList (x:=u) (by simpa using hu) fun h' st' sb=>?_;have I1:Inv X pins σ H { s with heap:=h' }:=I.turned (t':=s.toks) (fun b o hb e=>(sb.2 b hb).trans e) f0 f1 f3 f4 f5;obtain ⟨o,e,c,d⟩:=id st';exact ⟨u,rfl,fD (s:={ s with heap:=h' }) e c d (by decide) ⟨x,H,I1,ru,⟨rfl,fun ys hy=>by rw [I.list_inj hy hq];exact hx⟩,st',fun b hb=>(hf b hb).1⟩⟩
 done:=by
  intro X hP hw hK hc i pins s σ H E I hf st hg;subst hP hw hK;obtain ⟨xs,hq,hx⟩:=hg;obtain ⟨its,rv,p,hz⟩:=I.list hq;obtain ⟨f0,f1,f2,f3,f4,f5⟩:=hf it (by simp);have hl:=rv.length;exact wpAny_pyNext_list_end (I.ok.hd hc) st p.isList (by simp;omega) fun h' eb=>⟨rfl,I.turned (t':=s.toks) (fun b o hb e=>eb b o hb e) f0 f1 f3 f4 f5⟩
 self:=fun _ _ _ _ _ st h=>wpAny_pyIter_listiter st h
theorem za3 {P:Program} {w:World} {K:PySem.W.Frag} {tg:Expr} (a it:Addr):Turn P w K tg (Itt K a) [it] it (fun i h=>h.IsTupleIter it a i) where
 mem:=by simp
 obj:=fun i h st b hb=>by
  have e:b=it:=by simpa using hb
  subst e;obtain ⟨o,e,c,d⟩:=st;exact ⟨o,e,fun v z=>by rw [d] at z;cases z⟩
 keep:=fun i h h' st k=>st.at fun o e=>k it (by simp) o e
 item:=by
  intro X hP hw hK hc i pins s σ H E I hf st hg;subst hP hw hK;obtain ⟨xs,x,hq,hx⟩:=hg;obtain ⟨its,rv,p,hz⟩:=I.tuple hq;obtain ⟨u,hu,ru⟩:=rv.get hx;obtain ⟨f0,f1,f2,f3,f4,f5⟩:=hf it (by simp);refine wpAny_pyNext_tuple_item st (show s.heap.IsTuple a its.toArray from p) (x:=u) (by simpa using hu) fun h' st' sb=>?_;have I1:Inv X pins σ H { s with heap:=h' }:=I.turned (t':=s.toks) (fun b o hb e=>(sb.2 b hb).trans e) f0 f1 f3 f4 f5;obtain ⟨o,e,c,d⟩:=id st';exact ⟨u,rfl,fD (s:={ s with heap:=h' }) e c d (by decide) ⟨x,H,I1,ru,⟨rfl,fun ys hy=>by rw [I.tuple_inj hy hq];exact hx⟩,st',fun b hb=>(hf b hb).1⟩⟩
 done:=by
  intro X hP hw hK hc i pins s σ H E I hf st hg;subst hP hw hK;obtain ⟨xs,hq,hx⟩:=hg;obtain ⟨its,rv,p,hz⟩:=I.tuple hq;obtain ⟨f0,f1,f2,f3,f4,f5⟩:=hf it (by simp);have hl:=rv.length;exact wpAny_pyNext_tuple_end (I.ok.hd hc) st (show s.heap.IsTuple a its.toArray from p) (by simp;omega) fun h' eb=>⟨rfl,I.turned (t':=s.toks) (fun b o hb e=>eb b o hb e) f0 f1 f3 f4 f5⟩
 self:=fun _ _ _ _ _ st h=>wpAny_pyIter_tupleiter st h
theorem za4 {P:Program} {w:World} {K:PySem.W.Frag} {tg:Expr} (it:Addr) (lo:Int) (n:Nat):Turn P w K tg (Itr lo n) [it] it (fun i h=>IsRangeIter h it (lo+(i:Nat) * 1) ((n:Int)-(i:Nat)) 1) where
 mem:=by simp
 obj:=fun i h st b hb=>by
  have e:b=it:=by simpa using hb
  subst e
  exact ⟨_,st,fun v z=>by
   have z':Data.fields _=Data.cell v:=z;cases z'⟩
 keep:=fun i h h' st k=>k it (by simp) _ st
 item:=by
  intro X hP hw hK hc i pins s σ H E I hf st hg;subst hP hw hK;obtain ⟨f0,f1,f2,f3,f4,f5⟩:=hf it (by simp);have W:=Walks.range (prog:=X.prog) (w:=X.w) (I.ok.hd hc) it lo 1 n;refine W.item i s _ _ hg st fun v h' tk hv st' kk=>?_;obtain ⟨t,rfl⟩:=hv;have I1:Inv X pins σ H { s with heap:=h',toks:=tk }:=I.turned (fun b o hb e=>kk b o (by simpa using hb) e) f0 f1 f3 f4 f5;refine ⟨_,rfl,fD (s:={ s with heap:=h',toks:=tk }) (n := "range_iterator") st' rfl rfl (by decide) ⟨.int (lo+i),H,I1,⟨t,?_⟩,⟨rfl,rfl⟩,st',fun b hb=>(hf b hb).1⟩⟩;rw [Int.mul_one]
 done:=by
  intro X hP hw hK hc i pins s σ H E I hf st hg;subst hP hw hK;obtain ⟨f0,f1,f2,f3,f4,f5⟩:=hf it (by simp);exact wpAny_pyNext_range_end (I.ok.hd hc) st (by have:n<=i:=hg;omega) fun h' eb=>⟨rfl,I.turned (t':=s.toks) (fun b o hb e=>eb b o hb e) f0 f1 f3 f4 f5⟩
 self:=fun _ _ _ _ _ st h=>wpAny_pyIter_rangeiter st h
end L2
namespace L2
open PySem PySem.Spec PyProof.Rows
section
variable {X : Cx} {tg : Expr}
theorem zaA {pins:List (Addr×Obj)} {σ:St} {H:Hp} {s:Shared} {R:It->Hp->Prop} {E:Value->Shared->Prop} {lo hi:Int} {t u v:Tok} {tk:Nat} (I:Inv X pins σ H s) (h1:-(2 ^ 62)<=lo) (h2:lo<2 ^ 62) (h3:-(2 ^ 62)<=hi) (h4:hi<2 ^ 62)
  (q:R (Itr lo (hi-lo).toNat) H):wpAny (model X.prog X.w) X.A (pyIter (.ref s.heap.objs.size)) (PIE X pins σ tg R) E { s with heap:=s.heap.push { cls:=.type "range", data:=.fields #[.int lo t,.int hi u,.int 1 v] },toks:=tk }:=by
 refine wpAny_pyIter_range (IsRange.new ..) (small_one h1 h2 h3 h4) ?_;have I1:Inv X pins σ H { s with heap:=s.heap.push { cls:=.type "range", data:=.fields #[.int lo t,.int hi u,.int 1 v] },toks:=tk }:=I.kept fun b o e=>Heap.get?_push_of_some _ e
 refine ⟨(s.heap.push { cls:=.type "range", data:=.fields #[.int lo t,.int hi u,.int 1 v] }).objs.size,[(s.heap.push { cls:=.type "range", data:=.fields #[.int lo t,.int hi u,.int 1 v] }).objs.size],_,_,H,rfl,
  I1.kept (t':=tk) fun b o e=>Heap.get?_push_of_some _ e,za4 _ lo (hi-lo).toNat,?_,fun b hb=>?_,q⟩
 .have e1:lo+((0:Nat):Int) * 1=lo:=by simp
  have e2:(((hi-lo).toNat:Nat):Int)-((0:Nat):Int)=Builtin.Range.rangeSize lo hi 1:=by rw [rangeSize_one];split<;>omega
  show IsRangeIter _ _ (lo+((0:Nat):Int) * 1) ((((hi-lo).toNat:Nat):Int)-((0:Nat):Int)) 1;rw [e1,e2];exact Heap.get?_push_size _ rfl
 .have e:b=(s.heap.push { cls:=.type "range", data:=.fields #[.int lo t,.int hi u,.int 1 v] }).objs.size:=by simpa using hb
  subst e;exact I1.fpOk (zzR _) (I1.hok.fresh (zzR _))
def tFor (wi:TI) (g:TG) (tb:TS):TS:=fun D σ H=>wi σ H fun J H1=>∃ W:Nat->Nat->St->Hp->Prop,(∃ m,W 0 m σ H1)/\∀ i m σ H,W i m σ H ->
 (J.stop i H/\D.nx σ H)\/(J.go i H/\∃ N:St->Hp->Prop,(∀ σ' H',N σ' H'->∃ m',m' < m/\W (i+1) m' σ' H')/\∀ x H',J.yld i H x H'->g x σ H' fun σ2 H2=>tb { D with nx:=N,ct:=N,bk:=D.nx } σ2 H2)
def sF (fp:List Addr) (h:Heap):List (Addr×Obj):=fp.filterMap fun b=>(h.get? b).map fun o=>(b,o)
theorem kI {fp:List Addr} {h:Heap} {b:Addr} {o:Obj} (hb:b∈fp) (e:h.get? b=some o):(b,o)∈sF fp h:=List.mem_filterMap.mpr ⟨b,hb,by rw [e];rfl⟩
theorem zcl {fp:List Addr} {h:Heap} {p:Addr×Obj} (hp:p∈sF fp h):p.1∈fp/\h.get? p.1=some p.2:=by
 obtain ⟨b,hb,e⟩:=List.mem_filterMap.mp hp
 cases q:h.get? b with
 |none=>rw [q] at e;cases e
 |some o =>
  rw [q] at e;have e':(b,o)=p:=Option.some.inj e;subst e';exact ⟨hb,q⟩
theorem Inv.pinned {pins:List (Addr×Obj)} {σ:St} {H:Hp} {s:Shared} {fp:List Addr} (I:Inv X pins σ H s) (hf:∀ b∈fp,kR X pins H b) (ho:∀ b∈fp,∃ o,s.heap.get? b=some o/\∀ v,o.data≠.cell v):Inv X (pins++sF fp s.heap) σ H s :=
 I.pins_of fun p hp=>(List.mem_append.mp hp).elim (fun z=>I.pin p (List.mem_append_right _ z)) fun z=>by
  obtain ⟨hb,e⟩:=zcl z;obtain ⟨f0,f1,f2,_⟩:=hf p.1 hb;obtain ⟨o,e',d⟩:=ho p.1 hb;rw [e] at e';cases e';exact ⟨e,f0,f1,f2,d⟩
theorem Inv.unpinned {pins pl:List (Addr×Obj)} {σ:St} {H:Hp} {s:Shared} (I:Inv X (pins++pl) σ H s):Inv X pins σ H s:=I.pins_of fun p hp=>I.pin p (List.mem_append_right _ (List.mem_append_left _ hp))
theorem zhM {iter:Expr} {body:List Stmt} {wi:TI} {g:TG} {tb:TS} {pos:Pos} (hp:PassesOwn (model X.prog X.w) X.A X.env X.xe) (hc:X.calm=true) (hi:PI X tg iter wi) (hg:PG X tg g) (hb:PSs X body tb)
  (hs:∀ x,foldedSetIterable iter X.env x=pure x:=by intro _;rfl):PS X (.For tg iter body [] pos) (tFor wi g tb):=by
 intro pins s σ H D I h;refine wpAny_For (yF (hi pins s σ H _ I h) fun v s1 h1=>yF h1 fun itv s2 h2=>?_) hs;obtain ⟨it,fp,tn,J,H2,e,I2,T,st2,f2,W,⟨m0,w0⟩,turn⟩:=h2;subst e;have stat:∀ {H':Hp},(∀ b∈fp,H' b=none)->∀ b∈fp,kR X pins H' b:=fun hn b hb=>⟨hn b hb,(f2 b hb).2⟩;refine codeAny_forLoop_any (fun n s'=>∃ i σ' H',Inv X pins σ' H' s'/\tn i s'.heap/\(∀ b∈fp,H' b=none)/\W i n σ' H') ?_ m0 ⟨0,σ,H2,I2,st2,fun b hb=>(f2 b hb).1,w0⟩;rintro n s3 ⟨i,σ3,H3,I3,st3,fr3,w3⟩;rcases turn i n σ3 H3 w3 with ⟨stop,qn⟩|⟨go,N,hN,step⟩
 .refine wpAny_passesOwn hp (yF (T.done X rfl rfl rfl hc i pins s3 σ3 H3 X.xe I3 (stat fr3) st3 stop) fun r s4 ⟨hr,I4⟩=>?_);subst hr;exact wpAny_execs_nil ⟨σ3,H3,I4,qn⟩
 .refine wpAny_passesOwn hp (yF (T.item X rfl rfl rfl hc i pins s3 σ3 H3 X.xe I3 (stat fr3) st3 go) fun r s4 ⟨u,hr,h4⟩=>?_);subst hr;refine wpAny_passesOwn hp (yF h4 fun _ s5 ⟨x,H5,I5,r5,y5,st5,fr5⟩=>?_);have I5':=I5.pinned (stat fr5) (T.obj _ _ st5);refine wpAny_passesOwn hp (yF (hg _ s5 σ3 H5 x u _ I5' r5 (step x H5 y5)) fun _ s6 ⟨σ6,H6,I6,q6⟩=>?_);refine wpAny_passesOwn hp (yF (hb _ s6 σ6 H6 _ I6 q6) fun f s7 q7=>?_)
  have again:∀ {σ7:St} {H7:Hp},Inv X (pins++sF fp s5.heap) σ7 H7 s7->N σ7 H7->∃ m,m<n/\∃ i σ' H',Inv X pins σ' H' s7/\tn i s7.heap/\(∀ b∈fp,H' b=none)/\W i m σ' H':=fun {σ7 H7} I7 n7=>by
   obtain ⟨m',hm,w7⟩:=hN σ7 H7 n7;refine ⟨m',hm,i+1,σ7,H7,I7.unpinned,T.keep _ _ _ st5 fun b hb o e=>(I7.pin (b,o) (List.mem_append_right _ (List.mem_append_right _ (kI hb e)))).1,fun b hb=>?_,w7⟩;obtain ⟨o,e,d⟩:=T.obj _ _ st5 b hb;exact (I7.pin (b,o) (List.mem_append_right _ (List.mem_append_right _ (kI hb e)))).2.1
  cases f with
  |next=>obtain ⟨σ7,H7,I7,n7⟩:=q7;exact again I7 n7
  |cont=>obtain ⟨σ7,H7,I7,n7⟩:=q7;exact again I7 n7
  |brk=>obtain ⟨σ7,H7,I7,q7⟩:=q7;exact ⟨σ7,H7,I7.unpinned,q7⟩
  |ret v=>obtain ⟨x7,σ7,H7,I7,r7,q7⟩:=q7;exact ⟨x7,σ7,H7,I7.unpinned,r7,q7⟩
end
end L2
namespace L2
open PySem PySem.Spec PyProof.Rows
abbrev R2:=V->V->Hp->VK->Prop
def kP (X:Cx) (f:Value->Value->Sem Value) (r:R2):Prop :=
 ∀ (pins:List (Addr×Obj)) (s:Shared) (σ:St) (H:Hp) (x y:V) (v u:Value) (Q:VK),Inv X pins σ H s->zC x v->zC y u->r x y H Q ->
  wpAny (model X.prog X.w) X.A (f v u) (EP X pins σ Q) X.xe s
def UnR (X:Cx) (f:Value->Sem Value) (r:V->Hp->VK->Prop):Prop :=
 ∀ (pins:List (Addr×Obj)) (s:Shared) (σ:St) (H:Hp) (x:V) (v:Value) (Q:VK),Inv X pins σ H s->zC x v->r x H Q ->
  wpAny (model X.prog X.w) X.A (f v) (EP X pins σ Q) X.xe s
def wJ (X:Cx) (f:Value) (r:List V->Hp->VK->Prop):Prop :=
 ∀ (pins:List (Addr×Obj)) (s:Shared) (σ:St) (H:Hp) (xs:List V) (us:List Value) (Q:VK),Inv X pins σ H s->zD xs us->r xs H Q ->
  wpAny (model X.prog X.w) X.A (call f us) (EP X pins σ Q) X.xe s
def TruR (X:Cx) (r:V->Hp->(Bool->Hp->Prop)->Prop):Prop :=
 ∀ (pins:List (Addr×Obj)) (s:Shared) (σ:St) (H:Hp) (x:V) (v:Value) (Q:Bool->Hp->Prop),Inv X pins σ H s->zC x v->r x H Q ->
  wpAny (model X.prog X.w) X.A (truthy v) (TP X pins σ Q) X.xe s
def tOp (r:R2) (ta tb:TE):TE:=fun σ H Q=>ta σ H fun x H1=>tb σ H1 fun y H2=>r x y H2 Q
def tUn (r:V->Hp->VK->Prop) (ta:TE):TE:=fun σ H Q=>ta σ H fun x H1=>r x H1 Q
def rI (C:Int->Int->Prop) (g:Int->Int->V):R2:=fun x y H Q=>∃ i j,x=.int i/\y=.int j/\C i j/\Q (g i j) H
def rI0 (g:Int->Int->V):R2:=fun x y H Q=>∃ i j,x=.int i/\y=.int j/\Q (g i j) H
def rU (g:Int->V):V->Hp->VK->Prop:=fun x H Q=>∃ i,x=.int i/\Q (g i) H
section
variable {X : Cx} {a b c : Expr} {ta tb tc : TE} {pos : Pos}
theorem binT (ha:PE X a ta) (hb:PE X b tb) {pins:List (Addr×Obj)} {s:Shared} {σ:St} {H:Hp} {R:V->V->Hp->Prop} (I:Inv X pins σ H s)
  (h:ta σ H fun x H1=>tb σ H1 fun y H2=>R x y H2) {Q:Value->Shared->Prop} {f:Value->Value->Sem Value}
  (hf:∀ v u s2 x y H2,Inv X pins σ H2 s2->zC x v->zC y u->R x y H2->wpAny (model X.prog X.w) X.A (f v u) Q X.xe s2) :
  wpAny (model X.prog X.w) X.A (eval a X.env) (fun v s₁=>wpAny (model X.prog X.w) X.A (eval b X.env) (fun u s₂=>wpAny (model X.prog X.w) X.A (f v u) Q X.xe s₂) X.xe s₁) X.xe s:=by
 refine yF (ha pins s σ H _ I h) fun v s1 ⟨x,H1,I1,r1,q1⟩=>?_;refine yF (hb pins s1 σ H1 _ I1 q1) fun u s2 ⟨y,H2,I2,r2,q2⟩=>?_;exact hf v u s2 x y H2 I2 r1 r2 q2
theorem pe_op {op:Operator} {r:R2} (ho:kP X (binaryOp op) r) (ha:PE X a ta) (hb:PE X b tb):PE X (.BinOp a op b pos) (tOp r ta tb):=by
 intro pins s σ H Q I h;exact wpAny_BinOp (binT ha hb I h fun v u s2 x y H2 I2 rx ry q=>ho pins s2 σ H2 x y v u Q I2 rx ry q)
theorem zhU {op:UnaryOp} {r:V->Hp->VK->Prop} (ho:UnR X (unaryOp op) r) (ha:PE X a ta):PE X (.UnaryOp op a pos) (tUn r ta):=by
 intro pins s σ H Q I h;exact UnaryOp_ (yF (ha pins s σ H _ I h) fun v s1 ⟨x,H1,I1,r1,q1⟩=>ho pins s1 σ H1 x v Q I1 r1 q1)
theorem opI {f:Value->Value->Sem Value} {C:Int->Int->Prop} {g:Int->Int->Int}
  (rule:∀ (i j:Int) (t u:Tok) (s:Shared) (Q:Value->Shared->Prop) (E:Value->Shared->Prop),C i j->Q (.int (g i j) s.toks) { s with toks:=s.toks+1 }->wpAny (model X.prog X.w) X.A (f (.int i t) (.int j u)) Q E s) :
  kP X f (rI C fun i j=>.int (g i j)):=by
 intro pins s σ H x y v u Q I rx ry h;obtain ⟨i,j,rfl,rfl,hc,q⟩:=h;obtain ⟨t,rfl⟩:=rx;obtain ⟨t',rfl⟩:=ry;exact rule i j t t' s _ _ hc ⟨.int (g i j),H,I.tok _,⟨_,rfl⟩,q⟩
theorem opI0 {f:Value->Value->Sem Value} {g:Int->Int->Int}
  (rule:∀ (i j:Int) (t u:Tok) (s:Shared) (Q:Value->Shared->Prop) (E:Value->Shared->Prop),Q (.int (g i j) s.toks) { s with toks:=s.toks+1 }->wpAny (model X.prog X.w) X.A (f (.int i t) (.int j u)) Q E s) :
  kP X f (rI0 fun i j=>.int (g i j)):=by
 intro pins s σ H x y v u Q I rx ry h;obtain ⟨i,j,rfl,rfl,q⟩:=h;obtain ⟨t,rfl⟩:=rx;obtain ⟨t',rfl⟩:=ry;exact rule i j t t' s _ _ ⟨.int (g i j),H,I.tok _,⟨_,rfl⟩,q⟩
theorem opB0 {f:Value->Value->Sem Value} {g:Int->Int->Bool}
  (rule:∀ (i j:Int) (t u:Tok) (s:Shared) (Q:Value->Shared->Prop) (E:Value->Shared->Prop),Q (.bool (g i j)) s->wpAny (model X.prog X.w) X.A (f (.int i t) (.int j u)) Q E s) :
  kP X f (rI0 fun i j=>.bl (g i j)):=by
 intro pins s σ H x y v u Q I rx ry h;obtain ⟨i,j,rfl,rfl,q⟩:=h;obtain ⟨t,rfl⟩:=rx;obtain ⟨t',rfl⟩:=ry;exact rule i j t t' s _ _ ⟨.bl (g i j),H,I,rfl,q⟩
def CDiv (i j:Int):Prop:=0<j/\j<1073741824
def CPow (i j:Int):Prop:=0<=j/\j<=1000000/\i.natAbs<2 ^ 64
def bH (i j:Int):Prop:=(-(2 ^ 64)<i/\i<2 ^ 64)\/(-(2 ^ 64)<j/\j<2 ^ 64)
theorem bH.ok {i j:Int} (h:bH i j):IntMulOk i j:=by
 rcases h with ⟨h1,h2⟩|⟨h1,h2⟩
 .exact .of_left (intBits_le_64 h1 h2)
 .exact .of_right (intBits_le_64 h1 h2)
theorem zib:kP X (binaryOp .Add) (rI0 fun i j=>.int (i+j)):=opI0 fun _ _ _ _ _ _ _ q=>add_int q
theorem zh5:kP X (binaryOp .Sub) (rI0 fun i j=>.int (i-j)):=opI0 fun _ _ _ _ _ _ _ q=>sub_int q
theorem zh8:kP X (binaryOp .Mult) (rI bH fun i j=>.int (i * j)):=opI fun _ _ _ _ _ _ _ hc q=>mul_int q hc.ok
theorem zf4:kP X (binaryOp .FloorDiv) (rI CDiv fun i j=>.int (i / j)):=opI fun i j _ _ _ _ _ hc q=>by
 have h1:(0:Int)<j:=hc.1;have h2:j<1073741824:=hc.2;exact floordiv_int (by omega) (by rw [Int.fdiv_eq_ediv_of_nonneg i (by omega)];exact q) (.inl (PyProof.noPylong_small (by omega)))
theorem zh9:kP X (binaryOp .Mod) (rI (fun _ j=>0<j) fun i j=>.int (i % j)):=opI fun i j _ _ _ _ _ hc q=>by
 have h1:(0:Int)<j:=hc;exact mod_int' (by omega) (by rw [Int.fmod_eq_emod_of_nonneg i (by omega)];exact q)
theorem zh7:kP X (binaryOp .Pow) (rI CPow fun i j=>.int (i ^ j.toNat)):=opI fun _ _ _ _ _ _ _ hc q=>pow_int_small hc.1 hc.2.1 hc.2.2 q
theorem unI {f:Value->Sem Value} {g:Int->Int}
  (rule:∀ (i:Int) (t:Tok) (s:Shared) (Q:Value->Shared->Prop) (E:Value->Shared->Prop),Q (.int (g i) s.toks) { s with toks:=s.toks+1 }->wpAny (model X.prog X.w) X.A (f (.int i t)) Q E s) :
  UnR X f (rU fun i=>.int (g i)):=by
 intro pins s σ H x v Q I rx h;obtain ⟨i,rfl,q⟩:=h;obtain ⟨t,rfl⟩:=rx;exact rule i t s _ _ ⟨.int (g i),H,I.tok _,⟨_,rfl⟩,q⟩
theorem zeJ:UnR X (unaryOp .USub) (rU fun i=>.int (-i)):=unI fun _ _ _ _ _ q=>neg_int q
end
section
variable {X : Cx} {a b c : Expr} {ta tb tc : TE} {pos : Pos}
theorem zi1 {pins:List (Addr×Obj)} {σ:St} {H:Hp} {s:Shared} {Q:VK} {k k':Bool} (I:Inv X pins σ H s) (q:Q (.bl k) H) (e:k=k'):EP X pins σ Q (.bool k') s:=by
 subst e;exact ⟨.bl k,H,I,rfl,q⟩
theorem op_lt:kP X (compareOp .Lt) (rI0 fun i j=>.bl (decide (i<j))):=opB0 fun _ _ _ _ _ _ _ q=>lt_int q
theorem op_le:kP X (compareOp .LtE) (rI0 fun i j=>.bl (decide (i<=j))):=opB0 fun _ _ _ _ _ _ _ q=>le_int q
theorem op_gt:kP X (compareOp .Gt) (rI0 fun i j=>.bl (decide (j<i))):=opB0 fun _ _ _ _ _ _ _ q=>gt_int q
theorem op_ge:kP X (compareOp .GtE) (rI0 fun i j=>.bl (decide (j<=i))):=opB0 fun _ _ _ _ _ _ _ q=>ge_int q
theorem zck:kP X (compareOp .In) (fun x y H Q=>∃ i j,x=.str i/\y=.str j/\Q (.bl (!(Builtin.Str.occurrences j i 0 j.length 1).isEmpty)) H):=by
 intro pins s σ H x y v u Q I rx ry h;obtain ⟨i,j,rfl,rfl,q⟩:=h;obtain ⟨t,rfl⟩:=rx;obtain ⟨t',rfl⟩:=ry;exact in_str (zi1 I q rfl)
theorem zfZ {op:CmpOp} {r:R2} (ho:kP X (compareOp op) r) (ha:PE X a ta) (hb:PE X b tb) (hm:behindInMarks op b=false):PE X (.Compare a [op] [b] pos) (tOp r ta tb):=by
 intro pins s σ H Q I h;exact wpAny_Compare1 (binT ha hb I h fun v u s2 x y H2 I2 rx ry q=>ho pins s2 σ H2 x y v u Q I2 rx ry q) hm
def zfv (t:TE):TT:=fun σ H Q=>t σ H fun x H'=>∃ k,x=.bl k/\Q k H'
theorem zfN {op:CmpOp} {r:R2} (ho:kP X (compareOp op) r) (ha:PE X a ta) (hb:PE X b tb) (hm:behindInMarks op b=false):PT X (.Compare a [op] [b] pos) (zfv (tOp r ta tb)):=by
 intro pins s σ H Q I h
 refine wpAny_isTrue_Compare1 (yF (ha pins s σ H _ I h) fun v s1 ⟨x,H1,I1,r1,q1⟩=>yF (hb pins s1 σ H1 _ I1 q1) fun u s2 ⟨y,H2,I2,r2,q2⟩ =>
  yF (ho pins s2 σ H2 x y v u _ I2 r1 r2 q2) fun c s3 ⟨z,H3,I3,r3,k,e,q3⟩=>?_) hm
 subst e;cases r3;exact wpAny_truthy_bool ⟨H3,I3,q3⟩
def zbN (r r':R2) (ta tb tc:TE):TE:=fun σ H Q=>ta σ H fun x H1=>tb σ H1 fun y H2=>r x y H2 fun z H3=>∃ k,z=.bl k /\
 (if k=true then tc σ H3 fun w' H4=>r' y w' H4 Q else Q (.bl false) H3)
theorem zd1 {op op':CmpOp} {r r':R2} (ho:kP X (compareOp op) r) (ho':kP X (compareOp op') r') (ha:PE X a ta) (hb:PE X b tb) (hc:PE X c tc)
  (hm:lastMarks [op,op'] [b,c]=false:=by with_unfolding_all rfl):PE X (.Compare a [op,op'] [b,c] pos) (zbN r r' ta tb tc):=by
 intro pins s σ H Q I h
 refine Compare_chain (yF (ha pins s σ H _ I h) fun v s1 ⟨x,H1,I1,r1,q1⟩=>chain_link (yF (hb pins s1 σ H1 _ I1 q1) fun u s2 ⟨y,H2,I2,r2,q2⟩ =>
  yF (ho pins s2 σ H2 x y v u _ I2 r1 r2 q2) fun d s3 ⟨z,H3,I3,r3,k,e,q3⟩=>?_)) hm
 subst e;cases r3;refine wpAny_truthy_bool ?_
 cases k with
 |false=>exact ite_ff ⟨.bl false,H3,I3,rfl,q3⟩
 |true=>exact ite_tt (chain_last (yF (hc pins s3 σ H3 _ I3 q3) fun w' s4 ⟨z',H4,I4,r4,q4⟩=>ho' pins s4 σ H4 y z' u w' Q I4 r2 r4 q4))
theorem zdM {op op':CmpOp} {r r':R2} (ho:kP X (compareOp op) r) (ho':kP X (compareOp op') r') (ha:PE X a ta) (hb:PE X b tb) (hc:PE X c tc)
  (hm:lastMarks [op,op'] [b,c]=false:=by with_unfolding_all rfl):PT X (.Compare a [op,op'] [b,c] pos) (zfv (zbN r r' ta tb tc)):=by
 intro pins s σ H Q I h
 refine isTrue_chain (yF (ha pins s σ H _ I h) fun v s1 ⟨x,H1,I1,r1,q1⟩=>test_link (yF (hb pins s1 σ H1 _ I1 q1) fun u s2 ⟨y,H2,I2,r2,q2⟩ =>
  yF (ho pins s2 σ H2 x y v u _ I2 r1 r2 q2) fun d s3 ⟨z,H3,I3,r3,k,e,q3⟩=>?_)) hm
 subst e;cases r3;refine wpAny_truthy_bool ?_
 cases k with
 |false =>
  obtain ⟨k',e',q'⟩:=q3;cases e';exact ite_ff ⟨H3,I3,q'⟩
 |true =>
  refine ite_tt (test_last (yF (hc pins s3 σ H3 _ I3 q3) fun w' s4 ⟨z',H4,I4,r4,q4⟩=>yF (ho' pins s4 σ H4 y z' u w' _ I4 r2 r4 q4) fun d' s5 ⟨z2,H5,I5,r5,k2,e2,q5⟩=>?_));subst e2;cases r5;exact wpAny_truthy_bool ⟨H5,I5,q5⟩
def TruV (K:PySem.W.Frag) (x:V) (H:Hp) (k:Bool):Prop :=
 match x with
 | .non=>k=false
 | .bl b=>k=b
 | .int i=>k=(i != 0)
 | .str y=>y.length<=sizeLine/\k=((y.length:Int) != 0)
 | .byt y=>y.size<=sizeLine/\k=((y.size:Int) != 0)
 | .ref p=>(∃ xs,rP K H p xs/\k=!xs.isEmpty)\/(∃ xs,sL K H p xs/\k=!xs.isEmpty)\/∃ kvs,H p=some (.dK kvs)/\k=!kvs.isEmpty
 |_=>False
theorem zbk {κ:Type} {kvs:List (κ×V)} {vs:List (κ×Value)} (r:KV kvs vs):(!vs.isEmpty)=!kvs.isEmpty:=by
 cases r<;>rfl
theorem mQ {xs:List V} {its:List Value} (r:zD xs its):(!its.toArray.isEmpty)=!xs.isEmpty:=by
 cases r<;>simp
theorem tV:(sizeLine:Nat)<2 ^ 63:=by rw [sizeLine_eq];decide
theorem zhe:TruR X (fun x H Q=>∃ k,TruV X.K x H k/\Q k H):=by
 intro pins s σ H x v Q I rx h;obtain ⟨k,e,q⟩:=h;have hl:=tV;have hs:sizeLine=16777216:=sizeLine_eq
 cases x with
 |non =>
  cases rx;have e':k=false:=e;subst e';exact truthy_none ⟨H,I,q⟩
 |bl b =>
  cases rx;have e':k=b:=e;subst e';exact wpAny_truthy_bool ⟨H,I,q⟩
 |int i =>
  obtain ⟨t,rfl⟩:=rx;have e':k=(i != 0):=e;subst e';exact PySem.P.truthy_int ⟨H,I,q⟩
 |str y =>
  obtain ⟨t,rfl⟩:=rx;obtain ⟨hy,e'⟩:y.length<=sizeLine/\k=((y.length:Int) != 0):=e;subst e';exact PySem.P.truthy_str (by omega) ⟨H,I.tok _,q⟩
 |byt y =>
  obtain ⟨t,rfl⟩:=rx;obtain ⟨hy,e'⟩:y.size<=sizeLine/\k=((y.size:Int) != 0):=e;subst e';exact PySem.W.truthy_bytes (by omega) ⟨H,I.tok _,q⟩
 |ref p =>
  cases rx;have e':(∃ xs,rP X.K H p xs/\k=!xs.isEmpty)\/(∃ xs,sL X.K H p xs/\k=!xs.isEmpty)\/∃ kvs,H p=some (.dK kvs)/\k=!kvs.isEmpty:=e;rcases e' with ⟨xs,hx,e'⟩|⟨xs,hx,e'⟩|⟨kvs,hx,e'⟩
  .subst e';obtain ⟨its,r,pl,hz⟩:=I.list hx;have hlen:=r.length;exact wpAny_truthy_list pl.isList (by simp only [zzS];omega) ⟨H,I.tok _,by rw [mQ r];exact q⟩
  .subst e';obtain ⟨its,r,pl,hz⟩:=I.tuple hx;have hlen:=r.length;exact truthy_tuple pl (by simp only [zzS];omega) ⟨H,I.tok _,by rw [mQ r];exact q⟩
  .subst e';obtain ⟨hz,hS,vs,r,m⟩:kvs.length<=sizeLine/\(p==sysModules)=false/\∃ vs,KV kvs vs/\s.heap.DictOf (xP X.prog X.w) p vs:=I.hok p _ hx;have hlen:kvs.length=vs.length:=Paired.length r;exact wpAny_truthy_dict hS m (by omega) ⟨H,I.tok _,by rw [zbk r];exact q⟩
 |_=>exact (show False from e).elim
theorem zdL (ha:PE X a ta) (he:∀ whole,isTrue a X.env whole=(do let v ← whole;standAt a.pos;holding [v] (truthy v))) :
  PT X a (fun σ H Q=>ta σ H fun x H'=>∃ k,TruV X.K x H' k/\Q k H'):=by
 intro pins s σ H Q I h;exact isTrue_plain (yF (ha pins s σ H _ I h) fun v s1 ⟨x,H1,I1,r1,q1⟩=>zhe pins s1 σ H1 x v Q I1 r1 q1) (he _)
theorem zbf:kP X (binaryOp .Add) (fun x y H Q=>∃ i j,x=.str i/\y=.str j/\i.length+j.length<=sizeLine/\Q (.str (i++j)) H):=by
 intro pins s σ H x y v u Q I rx ry h;obtain ⟨i,j,rfl,rfl,hz,q⟩:=h;obtain ⟨t,rfl⟩:=rx;obtain ⟨t',rfl⟩:=ry;exact add_str (fun t' tk=>⟨.str (i++j),H,I.tok _,⟨_,rfl⟩,q⟩) hz
theorem jR {x:V} {us:List Value} (r:zD [x] us):∃ u,us=[u]/\zC x u:=by
 cases r with
 |cons r1 r2=>cases r2;exact ⟨_,rfl,r1⟩
theorem zbC {x y:V} {us:List Value} (r:zD [x,y] us):∃ u w',us=[u,w']/\zC x u/\zC y w':=by
 cases r with
 |cons r1 r2 =>
  cases r2 with
  |cons r3 r4=>cases r4;exact ⟨_,_,rfl,r1,r3⟩
theorem zdc (hc:X.calm=true):wJ X (.builtin "max") (fun xs H Q=>∃ i j,xs=[.int i,.int j]/\Q (.int (if j > i then j else i)) H):=by
 intro pins s σ H xs us Q I r h;obtain ⟨i,j,rfl,q⟩:=h;obtain ⟨u,w',rfl,⟨t,rfl⟩,⟨t',rfl⟩⟩:=zbC r;refine max_two_ints (I.ok.hd hc) fun h' tk k=>⟨_,H,I.kept k,?_,q⟩
 by_cases hj:j > i
 .rw [if_pos hj,if_pos hj];exact ⟨_,rfl⟩
 .rw [if_neg hj,if_neg hj];exact ⟨_,rfl⟩
theorem dU:wJ X (.type "int") (fun xs H Q=>(∃ i,xs=[.int i]/\Q (.int i) H)\/∃ k,xs=[.bl k]/\Q (.int (if k then 1 else 0)) H):=by
 intro pins s σ H xs us Q I r h;rcases h with ⟨i,rfl,q⟩|⟨k,rfl,q⟩
 .obtain ⟨u,rfl,t,rfl⟩:=jR r;exact call_int_int ⟨.int i,H,I,⟨_,rfl⟩,q⟩
 .obtain ⟨u,rfl,r1⟩:=jR r;cases r1;exact call_int_bool ⟨.int (if k then 1 else 0),H,I.tok _,⟨_,rfl⟩,q⟩
end
end L2
namespace L2
open PySem PySem.Spec PyProof.Rows
structure ObjM (h:Heap) (x dx C:Addr) (mA:Str->Option Value):Prop where
 obj:h.get? x=some (PySem.W.instObj C dx)
 ns:h.Ns1 dx mA
 ne:dx≠x
theorem zcw {h:Heap} {dx:Addr} {mA:Str->Option Value} (n:h.Ns1 dx mA):∃ od,h.get? dx=some od/\∀ name,PySem.W.lookIn name od=some (mA name):=by
 obtain ⟨o,es,ep,ho,hd,hk,_,hm⟩:=n;refine ⟨o,ho,fun name=>?_⟩;have e:=hm name;unfold nsFind findBy at e;rw [← Array.find?_toList] at e;unfold PySem.W.lookIn;rw [hd];dsimp only
 split
 .rename_i y q;rw [q] at e;exact congrArg some e
 .rename_i q;rw [q] at e
  have a:es.toList.any (·.refKey)=false:=by
   rw [List.any_eq_false];intro y hy;obtain ⟨z,t,hkey⟩:=hk y (Array.mem_toList_iff.mp hy);simp [DictEntry.refKey,hkey]
  have a':¬ es.toList.any (·.refKey)=true:=by rw [a];exact zzN
  rw [if_neg a'];exact congrArg some e
theorem ObjM.look {h:Heap} {x dx C:Addr} {mA:Str->Option Value} (I:ObjM h x dx C mA):∃ od,PySem.W.InstAt h x (PySem.W.instObj C dx) C (some od)/\∀ name,PySem.W.lookIn name od=some (mA name) :=
 let ⟨od,ho,hl⟩:=zcw I.ns
 ⟨od,⟨I.obj,rfl,rfl,ho⟩,hl⟩
section
variable {prog : Program} {w : World} {A : Around} {E : Value → Shared → Prop} {s : Shared} {K : PySem.W.Frag} {x dx C f : Addr} {mA : Str → Option Value} {name : Str} {v : Value}
theorem zgz {expr:Bool} {Q:Value->Shared->Prop} (X:K.In s.heap) (I:ObjM s.heap x dx C mA) (hg:PySem.W.plainGet K C name=true) (hh:PySem.W.hasDictIn K C=true)
  (ha:PySem.W.findIn K (.ref C) name=some none) (hv:mA name=some v) (hv':PySem.W.handedIn v=true) (h:Q v { s with toks:=s.toks+1 }) :
  wpAny (model prog w) A (getAttr (.ref x) name expr) Q E s:=by
 obtain ⟨od,J,hl⟩:=I.look;exact PySem.W.get_value X J (PySem.W.plainGet_of hg).1 (PySem.W.findObj_own hh ha rfl (by rw [hl,hv])) hv' h
theorem zfB {ns:List Str} {Q:Unit->Shared->Prop} (X:K.In s.heap) (I:ObjM s.heap x dx C mA)
  (hs:PySem.W.findIn K (.ref C) "__setattr__" = some (some (.builtin "object.__setattr__"))) (hp:PySem.W.plainOver K C=true) (ht:PySem.W.takerIn K C name=some none) (hh:PySem.W.hasDictIn K C=true)
  (hw:PySem.Within mA ns) (hsz:ns.length<=sizeLine)
  (h:∀ h',ObjM h' x dx C (fun y=>if y=name then some v else mA y)->Heap.SameBut dx s.heap h'->Q () { s with heap:=h',toks:=s.toks+2 }) :
  wpAny (model prog w) A (setAttr (.ref x) name v) Q E s:=by
 obtain ⟨od,J,hl⟩:=I.look;refine PySem.W.set_plain X J hs (PySem.W.osa_open (s:={ s with toks:=s.toks+1 }) (r:=none) X J hp ht fun b=>?_);obtain ⟨cd,hc,hd'⟩:=PySem.W.any_some hh;have hx:s.heap.get? x=some ⟨.ref C,some dx,.plain,#[]⟩:=I.obj;refine wpAny_bind (wpAny_pure (wpAny_bind (wpAny_bind (wpAny_loadPart hx (wpAny_bind (PySem.W.Looks.here (s:={ s with toks:=s.toks+1 }) (PySem.W.looks_clsIn X hc) ?_))))));rw [hd'];refine wpAny_pure (a:=some dx) (wpAny_bind (wpAny_pure (wpAny_bind ?_)));refine wpAny_nsSet1 (s:={ s with toks:=s.toks+1 }) I.ns fun h' hn2 hs2=>?_;obtain ⟨oD,esD,epD,hoD,hdD,hcD⟩:=hn2.count (PySem.Within.cons name v hw);refine wpAny_bind (wpAny_lookBehind hoD (by rw [hdD];exact pastItsLine_dict (Nat.le_trans hcD (by rw [List.length_cons];omega))) ?_);exact wpAny_pure (h _ ⟨(hs2.2 _ (Ne.symm I.ne)).trans I.obj,hn2,I.ne⟩ hs2)
end
def kK (f:Str) (v:V):List (Str×V)->List (Str×V)
 | []=>[(f,v)]
 | (g,x)::r=>if g=f then (g,v)::r else (g,x)::kK f v r
theorem rF (f g:Str) (v:V):∀ fs:List (Str×V),(kK f v fs).lookup g=if g=f then some v else fs.lookup g
 | []=>by
  show List.lookup g [(f,v)]=_
  by_cases h:g=f
  .have hb:(g==f)=true:=beq_iff_eq.mpr h;simp only [List.lookup,hb,if_pos h]
  .have hb:(g==f)=false:=beq_eq_false_iff_ne.mpr h;simp only [List.lookup,hb,if_neg h]
 | (k,x)::r=>by
  have ih:=rF f g v r;rw [show kK f v ((k,x)::r)=(if k=f then (k,v)::r else (k,x)::kK f v r) from rfl]
  by_cases hk:k=f
  .rw [if_pos hk]
   by_cases h:g=k
   .have hb:(g==k)=true:=beq_iff_eq.mpr h;simp only [List.lookup,hb,if_pos (h.trans hk)]
   .have hb:(g==k)=false:=beq_eq_false_iff_ne.mpr h;simp only [List.lookup,hb,if_neg (fun e:g=f=>h (e.trans hk.symm))]
  .rw [if_neg hk]
   by_cases h:g=k
   .have hb:(g==k)=true:=beq_iff_eq.mpr h;simp only [List.lookup,hb,if_neg (fun e:g=f=>hk (h.symm.trans e))]
   .have hb:(g==k)=false:=beq_eq_false_iff_ne.mpr h;simp only [List.lookup,hb];exact ih
theorem rT (f:Str) (v:V):∀ fs:List (Str×V),f∈(kK f v fs).map (·.1)/\∀ g,g∈fs.map (·.1)->g∈(kK f v fs).map (·.1)
 | []=>⟨by simp [kK],fun g h=>by simp at h⟩
 | (k,x)::r=>by
  obtain ⟨i1,i2⟩:=rT f v r;rw [show kK f v ((k,x)::r)=(if k=f then (k,v)::r else (k,x)::kK f v r) from rfl]
  by_cases hk:k=f
  .rw [if_pos hk];subst hk;exact ⟨by simp,fun g h=>by simpa using h⟩
  .rw [if_neg hk];refine ⟨?_,fun g h=>?_⟩
   .rw [zzU];exact List.mem_cons_of_mem _ i1
   .rw [zzU] at h ⊢;rcases List.mem_cons.mp h with e|e
    .exact List.mem_cons.mpr (.inl e)
    .exact List.mem_cons_of_mem _ (i2 g e)
theorem rD (f:Str) (v:V):∀ fs:List (Str×V),(kK f v fs).length<=fs.length+1
 | []=>by simp [kK]
 | (k,x)::r=>by
  have ih:=rD f v r;rw [show kK f v ((k,x)::r)=(if k=f then (k,v)::r else (k,x)::kK f v r) from rfl]
  by_cases hk:k=f
  .rw [if_pos hk,List.length_cons,List.length_cons];omega
  .rw [if_neg hk,List.length_cons,List.length_cons];omega
theorem rO.some_of {v:V} {o:Option Value} (r:rO (some v) o):∃ u,o=some u/\zC v u:=by
 cases o with
 |none=>exact (show False from r).elim
 |some u=>exact ⟨u,rfl,r⟩
theorem zcO {v:V} {u:Value} (r:zC v u):PySem.W.handedIn u=true:=by
 cases v with
 |non=>cases (show u=Value.none from r);rfl
 |bl b=>cases (show u=Value.bool b from r);rfl
 |int i=>obtain ⟨t,e⟩:=(show ∃ t,u=Value.int i t from r);cases e;rfl
 |str x=>obtain ⟨t,e⟩:=(show ∃ t,u=Value.str x t from r);cases e;rfl
 |byt b=>obtain ⟨t,e⟩:=(show ∃ t,u=Value.bytes b t from r);cases e;rfl
 |flt b=>obtain ⟨t,e⟩:=(show ∃ t,u=Value.float b t from r);cases e;rfl
 |ref a=>cases (show u=Value.ref a from r);rfl
 |ty n=>cases (show u=Value.type n from r);rfl
section
variable {P : Program} {w : World} {H H' : Hp} {h h' : Heap} {a C dx : Addr} {fs fs' : List (Str × V)}
theorem zcK (hok:uL P w H h) (e:H a=some (.ins C dx fs)):∃ mA,ObjM h a dx C mA/\(∀ f,rO (fs.lookup f) (mA f))/\PySem.Within mA (fs.map (·.1))/\fs.length<=1000/\H dx=some (.own a):=by
 obtain ⟨d,z,ne,ob,mA,n,r,q⟩:=(show xG P w H h a (.ins C dx fs) from hok a _ e);exact ⟨mA,⟨ob,n,ne⟩,r,q,z,d⟩
end
structure Cls (K:PySem.W.Frag) (C:Addr):Prop where
 pg:PySem.W.plainGet K C Str.empty=true
 hd:PySem.W.hasDictIn K C=true
 po:PySem.W.plainOver K C=true
 sa:PySem.W.findIn K (.ref C) "__setattr__" = some (some (.builtin "object.__setattr__"))
theorem Cls.get {K:PySem.W.Frag} {C:Addr} (c:Cls K C) (f:Str):PySem.W.plainGet K C f=true:=c.pg
def uZ (K:PySem.W.Frag) (C:Addr) (f:Str):Prop:=PySem.W.findIn K (.ref C) f=some none
theorem uZ.taker {K:PySem.W.Frag} {C:Addr} {f:Str} (n:uZ K C f):PySem.W.takerIn K C f=some none:=by
 unfold PySem.W.takerIn;rw [show PySem.W.findIn K (.ref C) f=some none from n];rfl
section
variable {X : Cx} {pins : List (Addr × Obj)} {σ : St} {H : Hp} {s : Shared} {a C dx : Addr} {fs : List (Str × V)} {f : Str} {v : V} {A : Around} {E : Value → Shared → Prop}
theorem zbl {b:Bool} {Q:Value->Shared->Prop} (I:Inv X pins σ H s) (e:H a=some (.ins C dx fs)) (c:Cls X.K C) (n:uZ X.K C f) (l:fs.lookup f=some v)
  (h:∀ u s',Inv X pins σ H s'->zC v u->Q u s'):wpAny (model X.prog X.w) A (getAttr (.ref a) f b) Q E s:=by
 obtain ⟨mA,O,r,_,_,_⟩:=zcK I.hok e;obtain ⟨u,hu,ru⟩:=rO.some_of (v:=v) (o:=mA f) (by rw [← l];exact r f);exact zgz I.kIn O (c.get f) c.hd n hu (zcO ru) (h u _ (I.tok _) ru)
theorem zba {y:V} {u:Value} {Q:Unit->Shared->Prop} (I:Inv X pins σ H s) (e:H a=some (.ins C dx fs)) (c:Cls X.K C) (n:uZ X.K C f) (hl:fs.length<1000) (ry:zC y u)
  (h:∀ s',Inv X pins σ (xK H a (.ins C dx (kK f y fs))) s'->Q () s'):wpAny (model X.prog X.w) A (setAttr (.ref a) f u) Q E s:=by
 obtain ⟨mA,O,r,wi,_,ho⟩:=zcK I.hok e;have hz:(fs.map (·.1)).length<=sizeLine:=by rw [zzM,sizeLine_eq];omega
 refine zfB I.kIn O c.sa c.po n.taker c.hd wi hz fun h' O' sb=>h _ ?_;have hd:∃ o,h'.get? dx=some o:=let ⟨o,_,_,e',_⟩:=O'.ns;⟨o,e'⟩;refine I.write (x:=a) (e:=dx) (by rw [e];exact True.intro) (.inr ho) (fun b q hb z=>(sb.2 b hb).trans z) hd ?_;refine ⟨by rw [yV O.ne];exact ho,?_,O.ne,O'.obj,_,O'.ns,fun g=>?_,fun g hg=>?_⟩
 .have:=rD f y fs;omega
 .show rO ((kK f y fs).lookup g) (if g=f then some u else mA g);rw [rF]
  by_cases q:g=f
  .rw [if_pos q,if_pos q];exact ry
  .rw [if_neg q,if_neg q];exact r g
 .by_cases q:g=f
  .rw [q];exact (rT f y fs).1
  .refine (rT f y fs).2 g (wi g fun z=>hg ?_);show (if g=f then some u else mA g)=none;rw [if_neg q];exact z
theorem zg6 {prog:Program} {w:World} {env:Env} {e:Expr} {f:Str} {pos:Pos} {s:Shared} {Q:Value->Shared->Prop} (hb:attributeBase e f env (eval e env)=eval e env)
  (h:wpAny (model prog w) A (eval e env) (fun o s₁=>wpAny (model prog w) A (getAttr o f true) Q E s₁) E s):wpAny (model prog w) A (eval (.Attribute e f pos) env) Q E s :=
 Attribute_any_ h (by rw [arm_eval_Attribute,hb])
end
def tFld (K:PySem.W.Frag) (ta:TE) (f:Str):TE:=fun σ H Q=>ta σ H fun x H1=>∃ a C dx fs v,x=.ref a/\H1 a=some (.ins C dx fs)/\Cls K C/\uZ K C f/\fs.lookup f=some v/\Q v H1
def sFld (K:PySem.W.Frag) (ta tv:TE) (f:Str):TS:=fun D σ H=>tv σ H fun y H1=>ta σ H1 fun x H2=>∃ a C dx fs,x=.ref a/\H2 a=some (.ins C dx fs)/\Cls K C/\uZ K C f/\fs.length<1000 /\
 D.nx σ (xK H2 a (.ins C dx (kK f y fs)))
section
variable {X : Cx} {o e value : Expr} {f : Str} {pos pos' tpos : Pos} {ta tv : TE}
theorem zh0 (he:PE X e ta) (hb:attributeBase e f X.env (eval e X.env)=eval e X.env):PE X (.Attribute e f pos) (tFld X.K ta f):=by
 intro pins s σ H Q I h;refine zg6 hb (yF (he pins s σ H _ I h) fun u s1 ⟨x,H1,I1,rx,a,C,dx,fs,v,ex,ea,c,n,l,q⟩=>?_);subst ex;obtain rfl:u=Value.ref a:=rx;exact zbl I1 ea c n l fun u' s2 I2 ru=>⟨v,H1,I2,ru,q⟩
theorem zhN (ha:PE X o ta) (hv:PE X value tv) (hs:swapsWith value (some (.Attribute o f pos')) pos.line X.env=pure false):PS X (.Assign [.Attribute o f pos'] value pos) (sFld X.K ta tv f):=by
 intro pins s σ H D I h;refine plainObj_wpAny_Assign_Attribute (yF (hv pins s σ H _ I h) fun u s1 ⟨y,H1,I1,ry,q⟩=>yF (ha pins s1 σ H1 _ I1 q) fun ov s2 ⟨x,H2,I2,rx,a,C,dx,fs,ex,ea,c,n,l,q2⟩=>?_) hs;subst ex;obtain rfl:ov=Value.ref a:=rx;exact zba I2 ea c n l ry fun s3 I3=>⟨σ,_,I3,q2⟩
end
section
variable {X : Cx} {pins : List (Addr × Obj)} {σ : St} {H : Hp} {s : Shared} {A : Around} {E : Value → Shared → Prop} {Q : Value → Shared → Prop} {c : Value} {b : Bool}
end
end L2
namespace L2
open PySem PySem.Spec PyProof.Rows
structure Room (k:Nat) (A:Around):Prop where
 gd:A.guards=some []
 hd:A.handled=none
 dp:A.depth+3 * k+5<recursionLimit
 un:A.units+16 * k+200<cLine
theorem Room.mono {j k:Nat} {A:Around} (r:Room k A) (h:j<=k):Room j A:=⟨r.gd,r.hd,by have:=r.dp;omega,by have:=r.un;omega⟩
theorem Room.deeper {k:Nat} {A:Around} (r:Room (k+1) A) (env:Env):Room k (A.deeper env) :=
 ⟨r.gd,r.hd,by have:=r.dp;show A.depth+1+3 * k+5<_;omega,by have:=r.un;show A.units+3+16 * k+200<_;omega⟩
theorem Room.depth {k:Nat} {A:Around} (r:Room k A):A.depth<recursionLimit:=by have:=r.dp;omega
def tNil:TA:=fun _ H Q=>Q [] H
def tCons (ta:TE) (tr:TA):TA:=fun σ H Q=>ta σ H fun x H1=>tr σ H1 fun xs H2=>Q (x::xs) H2
section
variable {X : Cx} {e : Expr} {es : List Expr} {te : TE} {t : TA} {pos : Pos}
theorem zeY:PA X [] tNil:=fun _ _ _ _ H Q I h=>Calls.spliced_nil ⟨[],H,I,.nil,h⟩
theorem zcg (ha:PE X e te) (hr:PA X es t) (hs:starEach (e::es) X.env=(false,eval e X.env)::starEach es X.env:=by rfl):PA X (e::es) (tCons te t):=by
 intro pos pins s σ H Q I h;rw [hs];show wpAny _ _ (spliced ((false,eval e X.env)::backTo pos (starEach es X.env))) _ _ s;refine Calls.spliced_cons (yF (ha pins s σ H _ I h) fun u s1 ⟨x,H1,I1,r1,q1⟩=>?_);exact yF (hr pos pins s1 σ H1 _ I1 q1) fun us s2 ⟨xs,H2,I2,r2,q2⟩=>⟨x::xs,H2,I2,.cons r1 r2,q2⟩
def tTup (t:TA):TE:=fun σ H Q=>t σ H fun xs H1=>xs.length<=sizeLine/\∀ p,H1 p=none->Q (.ref p) (xK H1 p (.tup xs))
def tLst (t:TA):TE:=fun σ H Q=>t σ H fun xs H1=>xs.length<=sizeLine/\∀ p,H1 p=none->Q (.ref p) (xK H1 p (.lst xs))
theorem zhV {x1} (h:PA X es t):PE X (.Tuple es x1 pos) (tTup t):=by
 intro pins s σ H Q I hq;refine wpAny_Tuple_spliced (yF (h pos pins s σ H _ I hq) fun us s1 ⟨xs,H1,I1,r,z,q⟩=>⟨by rw [← r.length];exact z,?_⟩);have hf:H1 s1.heap.objs.size=none:=I1.hok.fresh (zzR _);refine ⟨.ref s1.heap.objs.size,xK H1 s1.heap.objs.size (.tup xs),I1.laid (t':=s1.toks) (fun b u e=>Heap.get?_push_of_some _ e) (zzR _) ?_,rfl,q _ hf⟩;exact ⟨z,us,r,⟨_,Heap.get?_push_size _ rfl,rfl,_,rfl⟩⟩
theorem zhZ (h:PA X es t):PE X (.List es pos) (tLst t):=by
 intro pins s σ H Q I hq;refine wpAny_List_spliced (yF (h pos pins s σ H _ I hq) fun us s1 ⟨xs,H1,I1,r,z,q⟩=>⟨by rw [← r.length];exact z,?_⟩);have hf:H1 s1.heap.objs.size=none:=I1.hok.fresh (zzR _);refine ⟨.ref s1.heap.objs.size,xK H1 s1.heap.objs.size (.lst xs),I1.laid (t':=s1.toks) (fun b u e=>Heap.get?_push_of_some _ e) (zzR _) ?_,rfl,q _ hf⟩;exact ⟨z,us,0,r,Heap.get?_push_size _ rfl⟩
end
abbrev Sp:=List V->Hp->VK->XK->Prop
abbrev CXT:=List Env->Hp->Shared->XK->Value->Shared->Prop
structure Env0 (P:Program) (w:World) (K:PySem.W.Frag) (mg:Str->Option Value) (base:Heap) (A:Around) (outer:List Env) (s:Shared) (H:Hp):Prop where
 frames:A.frames=some outer
 mod:Mod K mg base
 bs:∀ b o,base.get? b=some o->s.heap.get? b=some o/\H b=none
 bsz:base.objs.size<=s.heap.objs.size
 funs:s.heap.FunFrames base outer
 frf:∀ b∈frs outer,H b=none
 hok:uL P w H s.heap
 bare:AllBare s.gens
def CE (outer:List Env) (P:Program) (w:World) (H:Hp) (s:Shared) (Q:VK) (u:Value) (s':Shared):Prop :=
 ∃ v H',s'.os=s.os/\AllBare s'.gens/\Un (frs outer) [] H H' s.heap s'.heap/\uL P w H' s'.heap/\zC v u/\Q v H'
def CR (CX:CXT) (outer:List Env) (P:Program) (w:World) (H:Hp) (s:Shared) (Q:VK) (E:XK) (r:Result) (s':Shared):Prop :=
 match r with
 | .ok (.ret u)=>CE outer P w H s Q u s'
 | .ok _=>False
 | .error e=>CX outer H s E e s'
structure FnOk (P:Program) (w:World) (K:PySem.W.Frag) (mg:Str->Option Value) (base:Heap) (CX:CXT) (k:Nat) (f:Addr) (fd:FuncData) (ps:List Str) (sp:Sp):Prop where
 len:∀ vs H Q E,sp vs H Q E->vs.length=ps.length
 run:∀ (A:Around) (outer:List Env) (s:Shared) (H:Hp) (args:Args) (us:List Value) (vs:List V) (Q:VK) (E:XK),Room k A->Env0 P w K mg base A outer s H->BindsTo s fd args (ps.zip us)->zD vs us->sp vs H Q E ->
  codeAny (model P w) A (.call (.ref f) args) (CR CX outer P w H s Q E) s
theorem FnOk.mono {P:Program} {w:World} {K:PySem.W.Frag} {mg:Str->Option Value} {base:Heap} {CX:CXT} {j k:Nat} {f:Addr} {fd:FuncData} {ps:List Str} {sp:Sp} (F:FnOk P w K mg base CX j f fd ps sp) (h:j<=k) :
  FnOk P w K mg base CX k f fd ps sp:=⟨F.len,fun A outer s H args us vs Q E hr=>F.run A outer s H args us vs Q E (hr.mono h)⟩
section
variable {X : Cx} {pins : List (Addr × Obj)} {σ : St} {H : Hp} {s s' : Shared}
theorem Inv.env0 (I:Inv X pins σ H s):Env0 X.prog X.w X.K X.mg X.base X.A X.stack s H :=
 ⟨I.ok.frames,I.ok.mod,I.bs,Nat.le_trans I.ok.bsz I.sz,I.stack,I.stkFree,I.hok,I.bare⟩
theorem Inv.after {Q:VK} {u:Value} (I:Inv X pins σ H s) (h:CE X.stack X.prog X.w H s Q u s'):EP X pins σ Q u s':=by
 obtain ⟨v,H',os,bare,un,hok,r,q⟩:=h;obtain ⟨hh,g,d,t,os'⟩:=s';obtain rfl:os'=s.os:=os;exact ⟨v,H',I.call (h':=hh) (g':=g) (d':=d) (t':=t) (ch:=[]) un hok bare (fun b z=>absurd z (by simp)),r,q⟩
end
def zfx (sp:Sp) (dvs:List V) (E:XK) (t:TA):TE:=fun σ H Q=>t σ H fun vs H1=>sp (vs++dvs) H1 Q E
def uE (K:PySem.W.Frag) (fd:FuncData) (ps:List Str) (ds:List Value):Prop :=
 ∀ (s:Shared) (us:List Value),K.In s.heap->(us++ds).length=ps.length->BindsTo s fd ⟨us,[]⟩ (ps.zip (us++ds))
theorem uE.all {K:PySem.W.Frag} {fd:FuncData} {ps:List Str} (h:∀ us:List Value,us.length=ps.length->bindArgs fd ⟨us,[]⟩=pure (ps.zip us)):uE K fd ps []:=fun s us _ hl=>by
 rw [List.append_nil] at hl ⊢;exact .of_eq (h us hl)
def bI (CX:CXT) (X:Cx) (E:XK):Prop:=∀ (pins:List (Addr×Obj)) (σ:St) (H:Hp) (s:Shared) (e:Value) (s':Shared),Inv X pins σ H s->CX X.stack H s E e s'->X.xe e s'
section
variable {X : Cx} {CX : CXT} {k : Nat} {f C : Addr} {fd : FuncData} {ps : List Str} {sp : Sp} {dvs : List V} {ds : List Value} {E : XK} {x m : Str} {p pos apos : Pos} {e o : Expr} {es : List Expr} {ta : TE} {t : TA}
theorem zb6 {pins:List (Addr×Obj)} {σ:St} {H:Hp} {s:Shared} {Q:VK} {us:List Value} {vs:List V} (F:FnOk X.prog X.w X.K X.mg X.base CX k f fd ps sp) (hr:Room k X.A) (hb:uE X.K fd ps ds) (hd:zD dvs ds) (hx:bI CX X E)
  (I:Inv X pins σ H s) (r:zD vs us) (h:sp (vs++dvs) H Q E):wpAny (model X.prog X.w) X.A (call (.ref f) us) (EP X pins σ Q) X.xe s:=by
 have r2:zD (vs++dvs) (us++ds):=r.append hd;have hl:(us++ds).length=ps.length:=by rw [← r2.length];exact F.len _ _ _ _ h
 refine wpAny_call (codeAny_mono (F.run X.A X.stack s H ⟨us,[]⟩ (us++ds) (vs++dvs) Q E hr I.env0 (hb s us I.kIn hl) r2 h) fun r s' hq=>?_)
 cases r with
 |error e=>exact hx pins σ H s e s' I hq
 |ok fl =>
  cases fl with
  |ret u=>exact I.after hq
  |next=>exact False.elim hq
  |brk=>exact False.elim hq
  |cont=>exact False.elim hq
theorem zf0 (F:FnOk X.prog X.w X.K X.mg X.base CX k f fd ps sp) (hr:Room k X.A) (hg:Gl X x) (hm:X.mg x=some (.ref f)) (hk:PySem.W.keepIn X.K (.ref f)=true) (hb:uE X.K fd ps ds) (hd:zD dvs ds) (hx:bI CX X E)
  (ha:PA X (e::es) t) (hdb:(x==("__debug__" : Str))=false:=by decide) (he:starEach (e::es) X.env=(false,eval e X.env)::starEach es X.env:=by rfl) (hpl:(backTo pos (starEach es X.env)).any (·.1)=false:=by rfl) :
  PE X (.Call (.Name x p) (e::es) [] pos) (zfx sp dvs E t):=by
 intro pins s σ H Q I h;refine wpAny_Call_Name_kw (cJ I hg hm ?_ hdb);refine PySem.W.callWith_K (h₀:=X.base) I.ok.mod.kin hk (yF (ha pos pins s σ H _ I h) fun us s1 ⟨vs,H1,I1,r,q⟩=>⟨I1.kIn,?_⟩) he hpl;exact zb6 F hr hb hd hx I1 r q
theorem zd3 (F:FnOk X.prog X.w X.K X.mg X.base CX k f fd ps sp) (hr:Room k X.A) (hg:Gl X x) (hm:X.mg x=some (.ref f)) (hk:PySem.W.keepIn X.K (.ref f)=true) (hb:uE X.K fd ps ds) (hd:zD dvs ds) (hx:bI CX X E)
  (hdb:(x==("__debug__" : Str))=false:=by decide):PE X (.Call (.Name x p) [] [] pos) (zfx sp dvs E tNil):=by
 intro pins s σ H Q I h;refine wpAny_Call_Name_kw (cJ I hg hm ?_ hdb);exact PySem.W.callWith_K0 I.kIn hk (zb6 (us:=[]) F hr hb hd hx I .nil h)
end
section
variable {X : Cx} {CX : CXT} {k : Nat} {f C : Addr} {fd : FuncData} {ps ks : List Str} {sp : Sp} {E : XK} {x m : Str} {p pos apos kpos : Pos} {e o : Expr} {es : List Expr} {kws : List Keyword} {te ta : TE} {t tk : TA} {nm : Option Str}
variable {g : List Value → List Value → List Value} {gV : List V → List V → List V}
end
structure FnScope (N P:List Str) (sc:Scope):Prop where
 kind:sc.kind=.function
 co:sc.isCoroutine=false
 gen:sc.isGenerator=false
 nd:N.Nodup
 pre:N.take P.length=P
 par:∀ x∈P,sc.names.lookup x=some .local\/sc.names.lookup x=some .cell
 nofree:∀ y∈sc.names,y.2≠.free
theorem dS {kindOf:Str->Option NameKind} {x:Str}:∀ {binds:List (Str×Value)} {m:Str->Option Value},(∀ v,(x,v)∉binds)->bindL kindOf binds m x=m x
 | [],_,_=>rfl
 | (n,v)::r,m,h=>by
  unfold bindL;rw [dS fun w hw=>h w (List.mem_cons_of_mem _ hw)]
  split
  .have:x≠n:=by rintro rfl;exact h v zzT
   simp [this]
  .rfl
theorem dQ {kindOf:Str->Option NameKind} {x:Str}:∀ {binds:List (Str×Value)} {m:Str->Option Value},(∀ v,(x,v)∉binds)->bindC kindOf binds m x=m x
 | [],_,_=>rfl
 | (n,v)::r,m,h=>by
  unfold bindC;rw [dQ fun w hw=>h w (List.mem_cons_of_mem _ hw)]
  split
  .rfl
  .have:x≠n:=by rintro rfl;exact h v zzT
   simp [this]
theorem dR {kindOf:Str->Option NameKind} {x:Str} {v:Value}:∀ {P:List Str} {vs:List Value} {i:Nat} {m:Str->Option Value},P.Nodup->P[i]?=some x->vs[i]?=some v->kindOf x=some .local ->
  bindL kindOf (P.zip vs) m x=some v
 | [],_,_,_,_,h,_,_=>by simp at h
 |_::_,[],_,_,_,_,h,_=>by simp at h
 |p::P,w::vs,0,m,nd,h1,h2,hk=>by
  simp at h1 h2;subst h1;subst h2;show bindL kindOf ((p,w)::P.zip vs) m p=_;unfold bindL;rw [dS fun v hv=>(List.nodup_cons.mp nd).1 (List.of_mem_zip hv).1,if_pos hk];simp
 |p::P,w::vs,i+1,m,nd,h1,h2,hk=>by
  show bindL kindOf ((p,w)::P.zip vs) m x=_;unfold bindL;exact dR (i:=i) (List.nodup_cons.mp nd).2 (by simpa using h1) (by simpa using h2) hk
theorem dP {kindOf:Str->Option NameKind} {x:Str} {v:Value}:∀ {P:List Str} {vs:List Value} {i:Nat} {m:Str->Option Value},P.Nodup->P[i]?=some x->vs[i]?=some v->kindOf x≠some .local ->
  bindC kindOf (P.zip vs) m x=some v
 | [],_,_,_,_,h,_,_=>by simp at h
 |_::_,[],_,_,_,_,h,_=>by simp at h
 |p::P,w::vs,0,m,nd,h1,h2,hk=>by
  simp at h1 h2;subst h1;subst h2;show bindC kindOf ((p,w)::P.zip vs) m p=_;unfold bindC;rw [dQ fun v hv=>(List.nodup_cons.mp nd).1 (List.of_mem_zip hv).1,if_neg hk];simp
 |p::P,w::vs,i+1,m,nd,h1,h2,hk=>by
  show bindC kindOf ((p,w)::P.zip vs) m x=_;unfold bindC;exact dP (i:=i) (List.nodup_cons.mp nd).2 (by simpa using h1) (by simpa using h2) hk
def start (N:List Str) (vs:List V):St:=vs.map some++List.replicate (N.length-vs.length) none
def cxOf (CX:CXT) (P:Program) (w:World) (K:PySem.W.Frag) (mg:Str->Option Value) (base:Heap) (N:List Str) (qual:Str) (scope:Scope) (f:Addr) (cd:Value) (A:Around) (outer:List Env) (s:Shared) (H:Hp) (E:XK):Cx where
 prog:=P
 w:=w
 K:=K
 mg:=mg
 base:=base
 A:=A.deeper (envOfC qual scope s.heap.objs.size f cd)
 N:=N
 s₀:=s
 H₀:=H
 env:=envOfC qual scope s.heap.objs.size f cd
 outer:=outer
 stack:=envOfC qual scope s.heap.objs.size f cd::outer
 ex:=[]
 calm:=true
 fn:=fun _=>true
 pn:=[]
 xe:=fun e s'=>wpAny (model P w) (A.deeper (envOfC qual scope s.heap.objs.size f cd)) (leaving (envOfC qual scope s.heap.objs.size f cd) e) (fun _ s''=>CX outer H s E e s'') (fun e' s''=>CX outer H s E e' s'') s'
theorem za0 {sc:Scope} {n:Nat} {x:Str} (h:sc.names.lookup x=some .cell):∃ c,(cellsFrom n sc.names []).lookup x=some c:=by
 have q:=PySem.W.cellsFrom_some sc.names n [] (.inl h);exact Option.isSome_iff_exists.mp q
theorem zcI {CX:CXT} {P:Program} {w:World} {K:PySem.W.Frag} {mg:Str->Option Value} {base:Heap} {N ps:List Str} {qual:Str} {scope:Scope} {f:Addr} {cd:Value} {A:Around} {outer:List Env} {s s1:Shared} {H:Hp} {E:XK} {us:List Value} {vs:List V}
  (S:FnScope N ps scope) (hd:A.handled=none) (e0:Env0 P w K mg base A outer s H) (hl:vs.length=ps.length) (r:zD vs us)
  (x:InCallC s s.heap.objs.size (bindL (envOfC qual scope s.heap.objs.size f cd).kindOf (ps.zip us) fun _=>none) (cellsFrom (s.heap.objs.size+1) scope.names []) (bindC (envOfC qual scope s.heap.objs.size f cd).kindOf (ps.zip us) fun _=>none) s1) :
  Inv (cxOf CX P w K mg base N qual scope f cd A outer s H E) [] (start N vs) H s1:=by
 have hpl:ps.length<=N.length:=by have:=congrArg List.length S.pre;rw [List.length_take] at this;omega
 obtain ⟨h1,tk,rfl,hk⟩:=x.done;have noA:∀ b:Addr,b∉(cxOf CX P w K mg base N qual scope f cd A outer s H E).ex:=fun b z=>absurd (show b∈([]:List Addr) from z) (by simp)
 refine ⟨⟨e0.mod,S.kind,rfl,rfl,zzR _,fun y z c h1 h2=>?_,fun y hy=>?_,fun y c _ h=>?_,fun _=>hd,Around.frames_deeper e0.frames,.inr ⟨rfl,rfl⟩,fun b z=>absurd z (noA b),e0.bs,e0.bsz,fun b _ _=>noA b,fun b z=>absurd z (noA b),e0.funs,e0.frf⟩,
  rfl,e0.bare,Un.kept hk,⟨_,x.toInCall.ns,fun i y v h1 h2 h3=>?_⟩,fun y c h=>⟨_,x.cell y c h⟩,e0.hok.fresh (zzR _),fun y c h=>?_,fun p hp=>absurd (show p∈([]:List (Addr×Obj)) from hp) (by simp),e0.hok.kept hk,?_⟩
 .exact name_of_addr x.apart (PySem.mem_of_lookup h1) (PySem.mem_of_lookup h2)
 .have hy:scope.names.lookup y=some .cell\/scope.names.lookup y=some .free:=hy;rcases hy with hy|hy
  .exact za0 hy
  .exact absurd rfl (S.nofree _ (PySem.mem_of_lookup hy))
 .exact Nat.le_of_lt (x.above y c (PySem.mem_of_lookup h))
 .have hi:i<vs.length:=by
   unfold start at h2
   by_cases hi:i<vs.length
   .exact hi
   .rw [List.getElem?_append_right (by simpa using hi)] at h2;rw [List.getElem?_replicate] at h2
    split at h2<;>cases h2
  have ha:vs[i]?=some v:=by
   unfold start at h2;rw [List.getElem?_append_left (by simpa using hi),List.getElem?_map] at h2
   cases e:vs[i]? with
   |none=>rw [e] at h2;cases h2
   |some a=>rw [e] at h2;cases h2;rfl
  obtain ⟨u,hu,rv⟩:=r.get ha
  have hp:ps[i]?=some y:=by
   rw [← S.pre,List.getElem?_take_of_lt (by omega)];exact h1
  have ndP:ps.Nodup:=by rw [← S.pre];exact S.nd.sublist (List.take_sublist _ _)
  refine ⟨u,rv,?_⟩;rcases S.par y (List.mem_of_getElem? hp) with k|k
  .exact .inl ⟨k,dR ndP hp hu k⟩
  .obtain ⟨c,e⟩:=za0 (n:=s.heap.objs.size+1) k;refine .inr ⟨.inl k,c,e,?_⟩;have q:=x.cell y c e;rw [dP ndP hp hu (by show scope.names.lookup y≠_;rw [k];decide)] at q;exact q
 .exact e0.hok.fresh (Nat.le_of_lt (x.above y c (PySem.mem_of_lookup h)))
 .unfold start;show _=N.length;rw [zzW,zzM,List.length_replicate];omega
theorem fn_of {CX:CXT} {P:Program} {w:World} {K:PySem.W.Frag} {mg:Str->Option Value} {base:Heap} {k:Nat} {f:Addr} {name qual:Str} {params:Arguments} {body:List Stmt} {scope:Scope} {dV kV doc pm cdv ct oc:Value} {an od:Option Addr}
  {osl:Array (Option Value)} {N ps:List Str} {sp:Sp} (lk:K.lookup f=some ⟨oc,od,.func (PySem.W.fnOf name qual params body scope dV kV doc pm an cdv ct),osl⟩) (hcd:PySem.W.codeIn K cdv qual=true) (S:FnScope N ps scope)
  (len:∀ vs H Q E,sp vs H Q E->vs.length=ps.length)
  (hbody:∀ (A:Around) (outer:List Env) (s:Shared) (H:Hp) (vs:List V) (Q:VK) (E:XK),Room k (A.deeper (envOfC qual scope s.heap.objs.size f cdv))->sp vs H Q E ->
   ∃ t,PSs (cxOf CX P w K mg base N qual scope f cdv A outer s H E) body t/\t { nx:=fun _ H'=>Q .non H',rt:=Q } (start N vs) H) :
  FnOk P w K mg base CX (k+1) f (PySem.W.fnOf name qual params body scope dV kV doc pm an cdv ct) ps sp:=by
 refine ⟨len,fun A outer s H args us vs Q E hr e0 hb r hsp=>?_⟩;have hl:=len _ _ _ _ hsp;have KX:K.In s.heap:=e0.mod.kin.keeps fun b o e=>(e0.bs b o e).1;have lim:s.heap.NoLimit:=e0.mod.nolimit.keeps fun b o e=>(e0.bs b o e).1
 have hkind:∀ y∈ps.zip us,scope.names.lookup y.1=some .local\/(scope.names.lookup y.1=some .cell/\((cellsFrom (s.heap.objs.size+1) scope.names []).lookup y.1).isSome=true):=fun ⟨n,v⟩ hy=>by
  rcases S.par n (List.of_mem_zip hy).1 with q|q
  .exact .inl q
  .exact .inr ⟨q,PySem.W.cellsFrom_some _ _ _ (.inl q)⟩
 refine codeAny_call_function hr.depth (KX _ _ lk) rfl S.co S.gen rfl (PySem.W.codeRec_of KX hcd) (hb _ _ _ _ ?_);refine wpAny_newFunctionEnv_cells S.kind hkind fun env he s1 x=>?_;subst he;refine ⟨lim.keeps x.toInCall.keep,codeAny_func ?_⟩;obtain ⟨t,ht,hq⟩:=hbody A outer s H vs Q E (hr.deeper _) hsp;have I:Inv (cxOf CX P w K mg base N qual scope f cdv A outer s H E) [] (start N vs) H s1:=zcI S hr.hd e0 hl r x;refine wpAny_mono (ht [] s1 (start N vs) H _ I hq) (fun fl s' hs=>?_) fun e s' hs=>hs
 have fin:∀ {σ':St} {H':Hp} {v:V} {u:Value},Inv (cxOf CX P w K mg base N qual scope f cdv A outer s H E) [] σ' H' s'->zC v u->Q v H'->CE outer P w H s Q u s' :=
  fun {σ' H' v u} J rv q=>⟨v,H',J.os,J.bare,J.base,J.hok,rv,q⟩
 cases fl with
 |ret u =>
  obtain ⟨v,σ',H',J,rv,q⟩:=hs;exact fin J rv q
 |next =>
  obtain ⟨σ',H',J,q⟩:=hs;exact fin (v:=V.non) (u:=Value.none) J rfl q
 |brk =>
  obtain ⟨_,_,_,q⟩:=hs;exact False.elim q
 |cont =>
  obtain ⟨_,_,_,q⟩:=hs;exact False.elim q
end L2
namespace L2
open PySem PySem.Spec PyProof.Rows
section
variable {X : Cx} {x : Str} {p pos : Pos} {e : Expr} {es : List Expr} {t : TA} {id T : String} {r : List V → Hp → VK → Prop}
def tCB (r:List V->Hp->VK->Prop) (t:TA):TE:=fun σ H Q=>t σ H fun vs H1=>r vs H1 Q
theorem zd2 (hc:wJ X (.builtin id) r) (hg:Gl X x) (hm:X.mg x=none) (hv:bootBuiltins x=some (.builtin id)) (ha:PA X (e::es) t) (hn:x ≠ "__name__" := by decide) (hdb:(x==("__debug__" : Str))=false:=by decide)
  (he:starEach (e::es) X.env=(false,eval e X.env)::starEach es X.env:=by rfl) (hpl:(backTo pos (starEach es X.env)).any (·.1)=false:=by rfl):PE X (.Call (.Name x p) (e::es) [] pos) (tCB r t):=by
 intro pins s σ H Q I h;refine wpAny_Call_Name_kw (qF I hg hm hv ?_ hn hdb);exact PyProof.Rows.callWith_builtin1 (yF (ha pos pins s σ H _ I h) fun us s1 ⟨vs,H1,I1,r1,q1⟩=>hc pins s1 σ H1 vs us Q I1 r1 q1) he hpl
theorem zce (hc:wJ X (.type T) r) (hg:Gl X x) (hm:X.mg x=none) (hv:bootBuiltins x=some (.type T)) (ha:PA X (e::es) t) (hn:x ≠ "__name__" := by decide) (hdb:(x==("__debug__" : Str))=false:=by decide)
  (he:starEach (e::es) X.env=(false,eval e X.env)::starEach es X.env:=by rfl) (hpl:(backTo pos (starEach es X.env)).any (·.1)=false:=by rfl):PE X (.Call (.Name x p) (e::es) [] pos) (tCB r t):=by
 intro pins s σ H Q I h;refine wpAny_Call_Name_kw (qF I hg hm hv ?_ hn hdb);exact PyProof.Rows.callWith_type1 (yF (ha pos pins s σ H _ I h) fun us s1 ⟨vs,H1,I1,r1,q1⟩=>hc pins s1 σ H1 vs us Q I1 r1 q1) he hpl
end
end L2
namespace HT
open PySem PyProof.Rows
section
open PySem.SeqAt
open PySem.AutoSeq1 (wpAny_loadPart')
open PySem.MeetsSeq PySem.MeetsSeq2 PySem.MeetsSeq3
end
section
variable {prog : Program} {w : World} {A : Around} {E : Value → Shared → Prop} {s : Shared}
theorem zg1 {t b:Addr} {vs ws:List Value} {Q:Value->Shared->Prop} (ht:IsTup s.heap t vs.toArray) (hb:IsTup s.heap b ws.toArray) (hv:vs≠[])
  (h1:ws=[]->Q (.ref t) s) (h2:ws≠[]->Q (.ref s.heap.objs.size) { s with heap:=s.heap.push { cls:=.type "tuple", data:=.seq (vs++ws).toArray } })
  (hsz:vs.length+ws.length<=sizeLine):wpAny (model prog w) A (binaryOp .Add (.ref t) (.ref b)) Q E s:=by
 obtain ⟨⟨cls,dd,data,sl⟩,ho,hc,n,hd⟩:=id ht;obtain ⟨⟨cls2,dd2,data2,sl2⟩,ho2,hc2,n2,hd2⟩:=id hb;simp only at hc hd hc2 hd2;subst hc hd hc2 hd2;have e:vs.toArray++ws.toArray=(vs++ws).toArray:=by simp
 by_cases hw:ws=[]
 .exact concat_meets ⟨_,ho,rfl⟩ ⟨_,ho2,rfl⟩ noFill_tuple_add seq_tuple_add PySem.F.slot_tuple_add PySem.F.entry_tuple_add (PySem.F.args_tuple_add_2 _ _)
   (tuple_addW1 t b vs.toArray ws.toArray n n2 dd dd2 sl sl2 (by simpa using hv) (by simp [hw])) ⟨ho,ho2,h1 hw⟩
 .refine concat_meets ⟨_,ho,rfl⟩ ⟨_,ho2,rfl⟩ noFill_tuple_add seq_tuple_add PySem.F.slot_tuple_add PySem.F.entry_tuple_add (PySem.F.args_tuple_add_2 _ _)
   (tuple_addW2 t b vs.toArray ws.toArray n n2 dd dd2 sl sl2 (by simpa using hv) (by simpa using hw) (by rw [zzS,zzS];exact hsz)) ⟨ho,ho2,?_⟩
  rw [e];exact h2 hw
def xC (n d:Nat):Option Int->Nat
 |none=>d
 |some v=>if v<0 then (v+(n:Int)).toNat else min v.toNat n
theorem zb5 (n d k:Nat):xC n d (some (k:Int))=min k n:=by
 show (if (k:Int)<0 then ((k:Int)+(n:Int)).toNat else min (k:Int).toNat n)=min k n;rw [if_neg (by omega),Int.toNat_natCast]
theorem zhz (n d:Nat) (hd:d<=n) (o:Option Int):xC n d o<=n:=by
 cases o with
 |none=>exact hd
 |some v =>
  show (if v<0 then (v+(n:Int)).toNat else min v.toNat n)<=n
  by_cases hv:v<0
  .rw [if_pos hv];omega
  .rw [if_neg hv];exact Nat.min_le_right _ _
theorem zc6 (v:Int) (n d:Nat):(if v<0 then max (v+(n:Int)) 0 else min v (n:Int))=((xC n d (some v):Nat):Int):=by
 show (if v<0 then max (v+(n:Int)) 0 else min v (n:Int))=(((if v<0 then (v+(n:Int)).toNat else min v.toNat n):Nat):Int)
 by_cases hv:v<0
 .simp only [if_pos hv];omega
 .simp only [if_neg hv];omega
theorem zbw (lo hi:Option Int) (n:Nat):Builtin.Slice.sliceAdjust lo hi 1 (n:Int)=(((xC n 0 lo:Nat):Int),((xC n n hi:Nat):Int)):=by
 have h1:¬ ((1:Int)<0):=by omega
 unfold Builtin.Slice.sliceAdjust;simp only [h1,if_false];refine Prod.ext ?_ ?_
 .cases lo with
  |none=>rfl
  |some v=>exact zc6 v n 0
 .cases hi with
  |none=>rfl
  |some v=>exact zc6 v n n
theorem zbe (i j:Nat):Builtin.Slice.slicePlaces (i:Int) (j:Int) 1=j-i:=by
 unfold Builtin.Slice.slicePlaces;have h1:(1:Int) > 0:=by omega
 simp only [h1,if_true,Int.ediv_one]
 split<;>omega
theorem nV {v:Value} {o:Option Int} {Q:Option Int->Shared->Prop} (p:IsPart v o) (h:Q o s):wpAny (model prog w) A (Builtin.Slice.slicePartIndex v) Q E s:=by
 cases p with
 |none=>exact slicePart_none h
 |int i t=>exact slicePart_int h
theorem kZ {sl:Addr} {vl vu:Value} {lo hi:Option Int} {n:Nat} {Q:Int×Int×Nat->Shared->Prop} (hs:s.heap.IsSliceOf sl vl vu .none) (pl:IsPart vl lo) (pu:IsPart vu hi)
  (h:Q (((xC n 0 lo:Nat):Int),1,xC n n hi-xC n 0 lo) s):wpAny (model prog w) A (Builtin.Slice.sliceApplied (.ref sl) (pure (n:Int))) Q E s:=by
 obtain ⟨os,hos,hcs,hds⟩:=id hs;unfold Builtin.Slice.sliceApplied Builtin.Slice.sliceFields;refine wpAny_bind (wpAny_bind (wpAny_field hos hds (x:=vl) rfl (wpAny_bind (wpAny_field hos hds (x:=vu) rfl (wpAny_bind (wpAny_field hos hds (x:=.none) rfl (wpAny_pure ?_)))))));refine wpAny_bind (slicePart_none ?_);show wpAny _ _ (if ((1:Int)==0)=true then _ else _) _ _ s;rw [if_neg (by decide)];refine wpAny_bind (nV pl (wpAny_bind (nV pu (wpAny_bind (wpAny_pure ?_)))));show wpAny _ _ (match Builtin.Slice.sliceAdjust lo hi 1 (n:Int) with|(lo,hi)=>pure (lo,(1:Int),Builtin.Slice.slicePlaces lo hi 1)) _ _ s;rw [zbw lo hi n];show wpAny _ _ (pure (((xC n 0 lo:Nat):Int),(1:Int),Builtin.Slice.slicePlaces ((xC n 0 lo:Nat):Int) ((xC n n hi:Nat):Int) 1)) _ _ s;rw [zbe];exact wpAny_pure h
theorem zdV (xs:Array Value) (i k:Nat):((List.range k).filterMap fun (m:Nat)=>xs[((i:Int)+(m:Int) * 1).toNat]?).toArray=((xs.toList.drop i).take k).toArray:=by
 have e:(fun (m:Nat)=>xs[((i:Int)+(m:Int) * 1).toNat]?)=fun m=>xs[i+m]?:=by
  funext m
  have:((i:Int)+(m:Int) * 1).toNat=i+m:=by omega
  rw [this]
 rw [e];have:=pick_run xs i k;rw [List.filterMap_map] at this;have e2:((fun x=>xs[x]?) ∘ fun x=>i+x)=fun m=>xs[i+m]?:=rfl;rw [e2] at this;rw [this]
theorem sS {t sl:Addr} {items:Array Value} {vl vu:Value} {lo hi:Option Int} {Q:Value->Shared->Prop} (ht:IsTup s.heap t items) (hs:s.heap.IsSliceOf sl vl vu .none) (pl:IsPart vl lo) (pu:IsPart vu hi)
  (hw:¬ (xC items.size 0 lo=0/\xC items.size items.size hi=items.size))
  (h:Q (.ref s.heap.objs.size) { s with heap:=s.heap.push { cls:=.type "tuple", data:=.seq ((items.toList.drop (xC items.size 0 lo)).take (xC items.size items.size hi-xC items.size 0 lo)).toArray } })
  (hsz:items.size<=sizeLine):wpAny (model prog w) A (getItem (.ref t) (.ref sl)) Q E s:=by
 have htake:sizeOk (.seq ((items.toList.drop (xC items.size 0 lo)).take (xC items.size items.size hi-xC items.size 0 lo)).toArray):=by
  show ((items.toList.drop (xC items.size 0 lo)).take (xC items.size items.size hi-xC items.size 0 lo)).toArray.size<=sizeLine;rw [zzS,List.length_take,List.length_drop,Array.length_toList];omega
 have hj:xC items.size items.size hi<=items.size:=zhz _ _ (zzR _) hi;obtain ⟨os,hos,hcs,hds⟩:=id hs;have hTs:s.TypeIs (.ref sl) "slice" := ⟨os,hos,hcs⟩;unfold getItem
 try with_reducible refine wpAny_holding ?_
 first|refine wpAny_bind (wpAny_pure ?_)|skip
 refine wpAny_bind (wpAny_sequenceKey ht.typeIs (by decide) ?_)
 refine wpAny_bind (wpAny_callSpecial?_slot (name:=Str.ofString "__getitem__") ht.typeIs PyProof.Rows.slot_tuple_getitem
  (wpAny_call_entry PyProof.Rows.slot_tuple_getitem ht.typeIs entry_tuple_getitem ?_ (args_tuple_getitem _ _)))
 show wpAny _ _ (Builtin.Tuple.tupleItemsOf (.ref t) >>= _) _ _ s;refine wpAny_bind (tupleItemsOf_ ht ?_);refine wpAny_bind (wpAny_typeOf hTs ?_);rw [if_pos (by decide)];refine wpAny_bind (kZ hs pl pu ?_)
 have hno:¬ ((((xC items.size 0 lo:Nat):Int)==0&&(1:Int)==1&&(xC items.size items.size hi-xC items.size 0 lo)==items.size)=true):=by
  intro q;rw [Bool.and_eq_true,Bool.and_eq_true] at q;have q1:((xC items.size 0 lo:Nat):Int)=0:=eq_of_beq q.1.1;have q2:xC items.size items.size hi-xC items.size 0 lo=items.size:=eq_of_beq q.2;exact hw ⟨by omega,by omega⟩
 show wpAny _ _ (if (((xC items.size 0 lo:Nat):Int)==0&&(1:Int)==1&&(xC items.size items.size hi-xC items.size 0 lo)==items.size)=true then _ else _) _ _ s;rw [if_neg hno,zdV]
 first
  |exact wpAny_bind (m:=Builtin.Tuple.tupleExact _) (wpAny_newObj_type (wpAny_pure ⟨_,rfl,wpAny_pure h⟩) htake)
  |exact wpAny_bind (m:=Builtin.Tuple.tupleExact _) (wpAny_newObj_type (wpAny_bind (wpAny_pure (wpAny_pure ⟨_,rfl,wpAny_pure h⟩))) htake)
  |exact wpAny_bind (wpAny_bind (m:=Builtin.Tuple.tupleExact _) (wpAny_newObj_type (wpAny_pure (wpAny_pure ⟨_,rfl,wpAny_pure h⟩)) htake))
  |exact wpAny_bind (wpAny_bind (m:=Builtin.Tuple.tupleExact _) (wpAny_newObj_type (wpAny_pure ⟨_,rfl,wpAny_pure h⟩) htake))
end
end HT
namespace L2
open PySem PySem.Spec PyProof.Rows
abbrev TO:=St->Hp->(Option Int->Hp->Prop)->Prop
def PO (X:Cx) (e:Option Expr) (t:TO):Prop :=
 ∀ (pins:List (Addr×Obj)) (s:Shared) (σ:St) (H:Hp) (Q:Option Int->Hp->Prop),Inv X pins σ H s->t σ H Q ->
  wpAny (model X.prog X.w) X.A (evalPart e X.env) (fun u s'=>∃ o H',Inv X pins σ H' s'/\IsPart u o/\Q o H') X.xe s
def zfw:TO:=fun _ H Q=>Q none H
def tPart (t:TE):TO:=fun σ H Q=>t σ H fun x H1=>∃ i,x=.int i/\Q (some i) H1
section
variable {X : Cx} {e : Expr} {te : TE} {lo hi : Option Expr} {tl th : TO} {pos p2 : Pos}
theorem zfU:PO X none zfw:=by
 intro pins s σ H Q I h;rw [evalPart_none];exact wpAny_pure ⟨none,H,I,.none,h⟩
theorem zfT (h:PE X e te):PO X (some e) (tPart te):=by
 intro pins s σ H Q I hw;rw [evalPart_some];refine yF (h pins s σ H _ I hw) fun u s1 ⟨x,H1,I1,r1,q1⟩=>?_;obtain ⟨i,rfl,q⟩:=q1;obtain ⟨t,rfl⟩:=r1;exact ⟨some i,H1,I1,.int i t,q⟩
def SlR (X:Cx) (r:V->Option Int->Option Int->Hp->VK->Prop):Prop :=
 ∀ (pins:List (Addr×Obj)) (s:Shared) (σ:St) (H:Hp) (x:V) (v vl vu:Value) (lo hi:Option Int) (sl:Addr) (Q:VK),Inv X pins σ H s->zC x v->s.heap.IsSliceOf sl vl vu .none->IsPart vl lo->IsPart vu hi->r x lo hi H Q ->
  ∃ T id,typeLookup (.type T) "__getitem__" = pure (some (.builtin id))/\s.TypeIs v T/\wpAny (model X.prog X.w) X.A (getItem v (.ref sl)) (EP X pins σ Q) X.xe s
def tSl (r:V->Option Int->Option Int->Hp->VK->Prop) (te:TE) (tl th:TO):TE:=fun σ H Q=>te σ H fun x H1=>tl σ H1 fun l H2=>th σ H2 fun u H3=>r x l u H3 Q
theorem zdY {r:V->Option Int->Option Int->Hp->VK->Prop} (hr:SlR X r) (he:PE X e te) (hl:PO X lo tl) (hu:PO X hi th):PE X (.Subscript e (.Slice lo hi none p2) pos) (tSl r te tl th):=by
 intro pins s σ H Q I h;refine Subscript_ (yF (he pins s σ H _ I h) fun v s1 ⟨x,H1,I1,r1,q1⟩=>?_);refine wpAny_Slice (yF (hl pins s1 σ H1 _ I1 q1) fun vl s2 ⟨l,H2,I2,pl,q2⟩=>yF (hu pins s2 σ H2 _ I2 q2) fun vu s3 ⟨u,H3,I3,pu,q3⟩=>?_);rw [evalPart_none];refine wpAny_pure ?_;have I4:Inv X pins σ H3 { s3 with heap:=s3.heap.push { cls:=.type "slice", data:=.fields #[vl,vu,.none] } }:=I3.kept (t':=s3.toks) fun b ob q=>Heap.get?_push_of_some _ q;obtain ⟨T,id,hT,ht,hg⟩:=hr pins { s3 with heap:=s3.heap.push { cls:=.type "slice", data:=.fields #[vl,vu,.none] } } σ H3 x v vl vu l u s3.heap.objs.size Q I4 r1 (Heap.IsSliceOf.new ..) pl pu q3;show wpAny (model X.prog X.w) X.A (subscriptTail e (.Slice lo hi none p2) v (.ref s3.heap.objs.size)) (EP X pins σ Q) X.xe { s3 with heap:=s3.heap.push { cls:=.type "slice", data:=.fields #[vl,vu,.none] } };exact tail_any (ops:=[.ref s3.heap.objs.size,v]) ht hT hg (by with_unfolding_all rfl)
def cutV (xs:List V) (lo hi:Option Int):List V:=(xs.drop (HT.xC xs.length 0 lo)).take (HT.xC xs.length xs.length hi-HT.xC xs.length 0 lo)
theorem pY (xs:List V) (lo hi:Option Int):(cutV xs lo hi).length<=xs.length:=by
 unfold cutV;rw [List.length_take,List.length_drop];omega
def rSlT (K:PySem.W.Frag):V->Option Int->Option Int->Hp->VK->Prop:=fun x lo hi H Q=>∃ a xs,x=.ref a/\sL K H a xs /\
 ¬ (HT.xC xs.length 0 lo=0/\HT.xC xs.length xs.length hi=xs.length)/\∀ p,H p=none->Q (.ref p) (xK H p (.tup (cutV xs lo hi)))
theorem zhr:SlR X (rSlT X.K):=by
 intro pins s σ H x v vl vu lo hi sl Q I rx hs pl pu h;obtain ⟨a,xs,rfl,hx,hw,q⟩:=h;cases rx;obtain ⟨its,r,ht,hz⟩:=I.tuple hx;have hlen:its.toArray.size=xs.length:=by rw [zzS];exact r.length.symm
 refine ⟨"tuple", _,PyProof.Rows.slot_tuple_getitem.lookup,ht.typeIs,?_⟩;refine HT.sS ht hs pl pu (by rw [hlen];exact hw) ?_ (by rw [hlen];exact hz);rw [hlen];refine ⟨.ref s.heap.objs.size,_,I.laid (t':=s.toks) (o:=.tup (cutV xs lo hi)) (fun b ob q=>Heap.get?_push_of_some _ q) (zzR _) ?_,rfl,q _ (I.hok.fresh (zzR _))⟩;exact ⟨Nat.le_trans (pY xs lo hi) hz,_,(r.drop (HT.xC xs.length 0 lo)).take (HT.xC xs.length xs.length hi-HT.xC xs.length 0 lo),IsTup.new _ _⟩
def rCatT (K:PySem.W.Frag):R2:=fun x y H Q=>∃ a b xs ys,x=.ref a/\y=.ref b/\sL K H a xs/\sL K H b ys/\xs≠[]/\xs.length+ys.length<=sizeLine /\
 (ys=[]->Q (.ref a) H)/\(ys≠[]->∀ p,H p=none->Q (.ref p) (xK H p (.tup (xs++ys))))
theorem zD.nil_iff {xs:List V} {us:List Value} (r:zD xs us):us=[]↔xs=[]:=by
 cases r with
 |nil=>simp
 |cons _ _=>simp
theorem zf5:kP X (binaryOp .Add) (rCatT X.K):=by
 intro pins s σ H x y v u Q I rx ry h;obtain ⟨a,b,xs,ys,rfl,rfl,ha,hb,hx,hz,q1,q2⟩:=h;cases rx;cases ry;obtain ⟨its,r1,p1,_⟩:=I.tuple ha;obtain ⟨its2,r2,p2,_⟩:=I.tuple hb;refine HT.zg1 p1 p2 (fun z=>hx (r1.nil_iff.mp z)) (fun z=>⟨.ref a,H,I,rfl,q1 (r2.nil_iff.mp z)⟩) (fun z=>?_) (by rw [← r1.length,← r2.length];exact hz);refine ⟨.ref s.heap.objs.size,_,I.laid (t':=s.toks) (o:=.tup (xs++ys)) (fun b ob q=>Heap.get?_push_of_some _ q) (zzR _) ?_,rfl,q2 (fun w=>z (r2.nil_iff.mpr w)) _ (I.hok.fresh (zzR _))⟩;exact ⟨by rw [zzW];exact hz,_,r1.append r2,IsTup.new _ _⟩
end
end L2
namespace L2
open PySem PySem.Spec PyProof.Rows
def gQ (n:Nat) (i:Int):Option Nat:=if 0<=i then (if i<n then some i.toNat else none) else if -(n:Int)<=i then some (i+n).toNat else none
def sM {α:Type} (xs:List α) (i:Int):Option α:=(gQ xs.length i).bind fun j=>xs[j]?
theorem zcG {n:Nat} {i:Int} {j:Nat} (h:gQ n i=some j):seqIndex? i n=some j/\j<n/\-(n:Int)<=i/\i<n:=by
 unfold gQ at h
 by_cases h0:0<=i
 .rw [if_pos h0] at h
  by_cases h1:i<n
  .rw [if_pos h1] at h;have e:i.toNat=j:=Option.some.inj h;exact ⟨by rw [seqIndex_of h0 h1,e],by omega,by omega,h1⟩
  .rw [if_neg h1] at h;cases h
 .rw [if_neg h0] at h
  by_cases h1:-(n:Int)<=i
  .rw [if_pos h1] at h;have e:(i+n).toNat=j:=Option.some.inj h;exact ⟨by rw [seqIndex_neg (by omega) h1,e],by omega,h1,by omega⟩
  .rw [if_neg h1] at h;cases h
theorem bK {α:Type} {xs:List α} {i:Int} {v:α} (h:sM xs i=some v):∃ j,seqIndex? i xs.length=some j/\xs[j]?=some v/\j<xs.length/\-(xs.length:Int)<=i/\i<xs.length:=by
 unfold sM at h
 cases e:gQ xs.length i with
 |none=>rw [e] at h;cases h
 |some j =>
  rw [e] at h;obtain ⟨h1,h2,h3,h4⟩:=zcG e;exact ⟨j,h1,h,h2,h3,h4⟩
def zdk (b:Expr):Prop:=∀ o i,subscripted b false o i=operate [o,i] (getItem o i)
def IxR (X:Cx) (r:R2):Prop :=
 ∀ (value slice:Expr) (pins:List (Addr×Obj)) (s:Shared) (σ:St) (H:Hp) (x y:V) (v u:Value) (Q:VK),Inv X pins σ H s->zC x v->zC y u->r x y H Q ->
  subscripted slice false v u=operate [v,u] (getItem v u)->wpAny (model X.prog X.w) X.A (subscriptTail value slice v u) (EP X pins σ Q) X.xe s
def MtR (X:Cx) (id:String) (r:V->List V->Hp->VK->Prop):Prop :=
 ∀ (pins:List (Addr×Obj)) (s:Shared) (σ:St) (H:Hp) (x:V) (xs:List V) (v:Value) (us:List Value) (Q:VK),Inv X pins σ H s->zC x v->zD xs us->r x xs H Q ->
  wpAny (model X.prog X.w) X.A (call (.builtin id) (v::us)) (EP X pins σ Q) X.xe s
section
variable {X : Cx} {a b : Expr} {ta tb : TE} {pos : Pos}
theorem pe_ix {r:R2} (hr:IxR X r) (ha:PE X a ta) (hb:PE X b tb) (hs:zdk b):PE X (.Subscript a b pos) (tOp r ta tb):=by
 intro pins s σ H Q I h;exact Subscript_ (binT ha hb I h fun v u s2 x y H2 I2 rx ry q=>hr a b pins s2 σ H2 x y v u Q I2 rx ry q (hs _ _))
def rIxL (K:PySem.W.Frag):R2:=fun x y H Q=>∃ p xs i v,x=.ref p/\y=.int i/\rP K H p xs/\sM xs i=some v/\Q v H
def rIxT (K:PySem.W.Frag):R2:=fun x y H Q=>∃ p xs i v,x=.ref p/\y=.int i/\sL K H p xs/\sM xs i=some v/\Q v H
def rIxS:R2:=fun x y H Q=>∃ z i c,x=.str z/\y=.int i/\z.length<=sizeLine/\sM z.cps.toList i=some c/\Q (.str ⟨#[c]⟩) H
theorem zgi:IxR X (rIxL X.K):=by
 intro value slice pins s σ H x y v u Q I rx ry h hs;obtain ⟨p,xs,i,z,rfl,rfl,hq,he,q⟩:=h;cases rx;obtain ⟨t,rfl⟩:=ry;obtain ⟨its,r,pl,hz⟩:=I.list hq;obtain ⟨j,h1,h2,h3,h4,h5⟩:=bK he;obtain ⟨w,ew,rw'⟩:=r.get h2;have hl:=r.length;have hn:=tV;have fin:EP X pins σ Q w s:=⟨z,H,I,rw',q⟩
 by_cases h0:0<=i
 .have hj:i.toNat=j:=by
   rw [seqIndex_of h0 h5] at h1;exact Option.some.inj h1
  exact item_listR pl.isList h0 (by omega) (by rw [hj];simpa using ew) fin hs
 .have hj:(i+(its.toArray.size:Int)).toNat=j:=by
   rw [seqIndex_neg (by omega) h4] at h1;rw [zzS,← hl];exact Option.some.inj h1
  exact subscriptTail_builtinR (x:=w) pl.isList.typeIs slot_list_getitem.lookup
   (wpAny_getItem_list_neg (Q:=fun r s'=>r=w/\EP X pins σ Q r s') pl.isList (by omega) (by rw [zzS]<;>omega) (by omega) (by rw [hj];simpa using ew) ⟨rfl,fin⟩) hs
theorem ziA:IxR X (rIxT X.K):=by
 intro value slice pins s σ H x y v u Q I rx ry h hs;obtain ⟨p,xs,i,z,rfl,rfl,hq,he,q⟩:=h;cases rx;obtain ⟨t,rfl⟩:=ry;obtain ⟨its,r,pl,hz⟩:=I.tuple hq;obtain ⟨j,h1,h2,h3,h4,h5⟩:=bK he;obtain ⟨w,ew,rw'⟩:=r.get h2;have hl:=r.length;have hn:=tV;have fin:EP X pins σ Q w s:=⟨z,H,I,rw',q⟩
 exact subscriptTail_builtinR (x:=w) pl.typeIs slot_tuple_getitem.lookup
  (getItem_tuple (j:=j) (Q:=fun r s'=>r=w/\EP X pins σ Q r s') pl (by omega) (by omega) (by rw [zzS,← hl];exact h1) (by simpa using ew) ⟨rfl,fin⟩) hs
theorem ziB:IxR X rIxS:=by
 intro value slice pins s σ H x y v u Q I rx ry h hs;obtain ⟨z,i,c,rfl,rfl,hz,he,q⟩:=h;obtain ⟨t,rfl⟩:=rx;obtain ⟨t',rfl⟩:=ry;obtain ⟨j,h1,h2,h3,h4,h5⟩:=bK he;have hl:z.cps.toList.length=z.length:=by simp [Str.length]
 rw [hl] at h1 h4 h5;have hn:=tV
 exact tail_any (typeIs_str s z t) slot_str_getitem.lookup (getItem_str (c:=c) (by
  have e1:decide (i < -(2 ^ 63:Int))=false:=decide_eq_false (by omega);have e2:decide (i>=2 ^ 63)=false:=decide_eq_false (by omega);rw [e1,e2,Bool.or_false]) (by rw [h1];simpa using h2) ⟨.str ⟨#[c]⟩,H,I.tok _,⟨_,rfl⟩,q⟩) hs
theorem zbg (its:List Value) (n j:Nat) (u:Value):Obj.mapSeq (·.setIfInBounds j u) { cls:=.type "list", data:=.seq its.toArray n }={ cls:=.type "list", data:=.seq (its.set j u).toArray n }:=by
 simp [Obj.mapSeq]
theorem Inv.lst {pins:List (Addr×Obj)} {σ:St} {H:Hp} {s:Shared} {p:Addr} {xs:List V} (I:Inv X pins σ H s) (h:H p=some (.lst xs)) :
  ∃ (its:List Value) (n:Nat),zD xs its/\s.heap.get? p=some { cls:=.type "list", data:=.seq its.toArray n }/\xs.length<=sizeLine:=by
 obtain ⟨z,its,n,r,e⟩:=I.hok p _ h;exact ⟨its,n,r,e,z⟩
theorem Inv.lstUpd {pins:List (Addr×Obj)} {σ:St} {H:Hp} {s:Shared} {p:Addr} {xs ys:List V} {its its':List Value} {n n':Nat} {f:Obj->Obj} (I:Inv X pins σ H s) (h:H p=some (.lst xs))
  (ho:s.heap.get? p=some { cls:=.type "list", data:=.seq its.toArray n }) (hf:f { cls:=.type "list", data:=.seq its.toArray n }={ cls:=.type "list", data:=.seq its'.toArray n' }) (r:zD ys its') (hz:ys.length<=sizeLine) (t:Nat) :
  Inv X pins σ (xK H p (.lst ys)) { s with heap:=s.heap.update p f,toks:=t }:=by
 have e:(s.heap.update p f).get? p=some { cls:=.type "list", data:=.seq its'.toArray n' }:=by
  rw [Heap.get?_update_self f ho (by rw [hf]<;>rfl),hf]
 refine I.write (x:=p) (e:=p) (by rw [h];trivial) (.inl rfl) (fun b u hb q=>(Heap.get?_update_other _ _ (Ne.symm hb)).trans q) ⟨_,e⟩ ?_;exact ⟨hz,its',n',r,e⟩
def rSetL:V->V->V->Hp->(Hp->Prop)->Prop:=fun o i v H Q=>∃ p xs k j,o=.ref p/\i=.int k/\H p=some (.lst xs)/\gQ xs.length k=some j/\Q (xK H p (.lst (xs.set j v)))
theorem zdD:PSet X rSetL:=by
 intro pins s σ H o i v ov iv u Q I ro ri rv h;obtain ⟨p,xs,k,j,rfl,rfl,hp,hj,q⟩:=h;cases ro;obtain ⟨t,rfl⟩:=ri;obtain ⟨its,n,r,ho,hz⟩:=I.lst hp;obtain ⟨h1,h2,h3,h4⟩:=zcG hj;have hl:=r.length;have hn:=tV
 have I':Inv X pins σ (xK H p (.lst (xs.set j v))) { s with heap:=s.heap.update p (Obj.mapSeq (·.setIfInBounds j u)) } :=
  I.lstUpd hp ho (zbg its n j u) (r.set rv j) (by rw [List.length_set];exact hz) s.toks
 by_cases h0:0<=k
 .have hk:k.toNat=j:=by
   rw [seqIndex_of h0 h4] at h1;exact Option.some.inj h1
  exact PySem.W.ki_setAt ho h0 (by omega) (by rw [zzS,← hl];exact h4) (by rw [hk];exact ⟨_,I',q⟩)
 .have hk:(k+(its.toArray.size:Int)).toNat=j:=by
   rw [seqIndex_neg (by omega) h3] at h1;rw [zzS,← hl];exact Option.some.inj h1
  exact PySem.W.ki_setBack ho (by omega) (by rw [zzS,← hl];exact h3) (by omega) (by rw [hk];exact ⟨_,I',q⟩)
theorem dC (lo hi:Option Int) (n:Nat):(sliceBounds lo hi none n).1=((HT.xC n 0 lo:Nat):Int)/\(sliceBounds lo hi none n).2.1=((HT.xC n n hi:Nat):Int)/\(sliceBounds lo hi none n).2.2=1:=by
 refine ⟨?_,?_,rfl⟩
 .cases lo with
  |none=>simp [sliceBounds,HT.xC]
  |some i =>
   simp only [sliceBounds,HT.xC,Option.getD_none,show (1:Int) > 0 by decide,if_true]
   by_cases h:i<0
   .simp only [h,if_true]<;>omega
   .simp only [h,if_false]<;>omega
 .cases hi with
  |none=>simp [sliceBounds,HT.xC]
  |some i =>
   simp only [sliceBounds,HT.xC,Option.getD_none,show (1:Int) > 0 by decide,if_true]
   by_cases h:i<0
   .simp only [h,if_true]<;>omega
   .simp only [h,if_false]<;>omega
theorem hU (its:List Value) (lo hi:Option Int):slicePick its.toArray lo hi none=((its.drop (HT.xC its.length 0 lo)).take (HT.xC its.length its.length hi-HT.xC its.length 0 lo)).toArray:=by
 obtain ⟨h1,h2,h3⟩:=dC lo hi its.toArray.size;unfold slicePick;rw [h1,h2,h3];simp only [sliceRange_one,pick_run,zzS]<;>rfl
def rSlL (K:PySem.W.Frag):V->Option Int->Option Int->Hp->VK->Prop:=fun x lo hi H Q=>∃ a xs,x=.ref a/\rP K H a xs/\∀ p,H p=none->Q (.ref p) (xK H p (.lst (cutV xs lo hi)))
theorem zbY:SlR X (rSlL X.K):=by
 intro pins s σ H x v vl vu lo hi sl Q I rx hs pl pu h;obtain ⟨a,xs,rfl,hx,q⟩:=h;cases rx;obtain ⟨its,r,ht,hz⟩:=I.list hx;have hlen:=r.length;refine ⟨"list", _,slot_list_getitem.lookup,ht.isList.typeIs,?_⟩;refine wpAny_getItem_list_slice ht.isList hs pl pu .none (by simp) ?_ (by rw [zzS]<;>omega);rw [hU,← hlen];refine ⟨.ref s.heap.objs.size,_,I.laid (t':=s.toks) (o:=.lst (cutV xs lo hi)) (fun b ob q=>Heap.get?_push_of_some _ q) (zzR _) ?_,rfl,q _ (I.hok.fresh (zzR _))⟩;exact ⟨Nat.le_trans (pY xs lo hi) hz,_,0,(r.drop (HT.xC xs.length 0 lo)).take (HT.xC xs.length xs.length hi-HT.xC xs.length 0 lo),Heap.get?_push_size _ rfl⟩
theorem cU:kP X (compareOp .NotIn) (fun x y H Q=>∃ i j,x=.str i/\y=.str j/\Q (.bl (!(!(Builtin.Str.occurrences j i 0 j.length 1).isEmpty))) H):=by
 intro pins s σ H x y v u Q I rx ry h;obtain ⟨i,j,rfl,rfl,q⟩:=h;obtain ⟨t,rfl⟩:=rx;obtain ⟨t',rfl⟩:=ry;exact notIn_str ⟨.bl _,H,I,rfl,q⟩
theorem kF:wJ X (.builtin "len") (fun xs H Q=>∃ p ys,xs=[.ref p]/\(rP X.K H p ys\/sL X.K H p ys)/\Q (.int ys.length) H):=by
 intro pins s σ H xs us Q I r h;obtain ⟨p,ys,rfl,hq,q⟩:=h;obtain ⟨u,rfl,rx⟩:=jR r;cases rx;have hn:=tV;rcases hq with hq|hq
 .obtain ⟨its,r',pl,hz⟩:=I.list hq;have hlen:=r'.length;exact Calls.call_len_list pl.isList (by simp only [zzS]<;>omega) ⟨.int ys.length,H,I.tok _,⟨s.toks+1,by rw [zzS,hlen]⟩,q⟩
 .obtain ⟨its,r',pl,hz⟩:=I.tuple hq;have hlen:=r'.length;exact len_tuple pl (by simp only [zzS]<;>omega) ⟨.int ys.length,H,I.tok _,⟨s.toks+1,by rw [zzS,hlen]⟩,q⟩
theorem bO:wJ X (.builtin "len") (fun xs H Q=>∃ z,xs=[.str z]/\z.length<=sizeLine/\Q (.int z.length) H):=by
 intro pins s σ H xs us Q I r h;obtain ⟨z,rfl,hz,q⟩:=h;obtain ⟨u,rfl,t,rfl⟩:=jR r;have hn:=tV;exact len_str (by omega) ⟨.int z.length,H,I.tok _,⟨_,rfl⟩,q⟩
theorem bP:wJ X (.type "list") (fun xs H Q=>∃ p ys,xs=[.ref p]/\(rP X.K H p ys\/sL X.K H p ys)/\∀ l,H l=none->Q (.ref l) (xK H l (.lst ys))):=by
 intro pins s σ H xs us Q I r h;obtain ⟨p,ys,rfl,hq,q⟩:=h;obtain ⟨u,rfl,rx⟩:=jR r;cases rx
 have fin:∀ (its:List Value),zD ys its->ys.length<=sizeLine->∀ (h':Heap) (c':Nat),(∀ b o',s.heap.get? b=some o'->h'.get? b=some o') ->
   h'.get? s.heap.objs.size=some { cls:=.type "list", dict:=none,data:=.seq its.toArray c',slots:=#[] }->EP X pins σ Q (.ref s.heap.objs.size) { s with heap:=h' }:=fun its r' hz h' c' kp e =>
  ⟨.ref s.heap.objs.size,_,I.laid (t':=s.toks) kp (zzR _) (show xG X.prog X.w _ h' _ (.lst ys) from ⟨hz,its,c',r',e⟩),rfl,q _ (I.hok.fresh (zzR _))⟩
 rcases hq with hq|hq
 .obtain ⟨its,r',pl,hz⟩:=I.list hq;have hlen:=r'.length;obtain ⟨o,ho,hc,n,hd⟩:=pl.isList;exact call_list_seq p (.inl rfl) ho hc hd (fun h' c' kp e=>fin its r' hz h' c' kp e) (by simp only [zzS]<;>omega)
 .obtain ⟨its,r',pl,hz⟩:=I.tuple hq;have hlen:=r'.length;obtain ⟨o,ho,hc,n,hd⟩:=pl;exact call_list_seq p (.inr rfl) ho hc hd (fun h' c' kp e=>fin its r' hz h' c' kp e) (by simp only [zzS]<;>omega)
theorem gP:wJ X (.type "tuple") (fun xs H Q=>∃ p ys,xs=[.ref p]/\((rP X.K H p ys/\∀ l,H l=none->Q (.ref l) (xK H l (.tup ys)))\/(sL X.K H p ys/\Q (.ref p) H))):=by
 intro pins s σ H xs us Q I r h;obtain ⟨p,ys,rfl,h⟩:=h;obtain ⟨u,rfl,rx⟩:=jR r;cases rx;rcases h with ⟨hq,q⟩|⟨hq,q⟩
 .obtain ⟨its,r',pl,hz⟩:=I.list hq;have hlen:=r'.length;refine call_tuple_list pl.isList (fun h' kp=>?_) (by simp only [zzS]<;>omega);have I1:Inv X pins σ H { s with heap:=h' }:=I.kept (t':=s.toks) kp
  have I2:Inv X pins σ (xK H h'.objs.size (.tup ys)) { s with heap:=h'.push { cls:=.type "tuple", data:=.seq its.toArray } } :=
   I1.laid (t':=s.toks) (fun b o e=>Heap.get?_push_of_some _ e) (zzR _) (show xG X.prog X.w _ _ _ (.tup ys) from ⟨hz,its,r',IsTup.new _ _⟩)
  exact ⟨.ref h'.objs.size,_,I2,rfl,q _ (I1.hok.fresh (zzR _))⟩
 .obtain ⟨its,r',pl,hz⟩:=I.tuple hq;exact call_tuple_same pl ⟨.ref p,H,I,rfl,q⟩
def tyV (K:PySem.W.Frag) (T:String) (x:V) (H:Hp):Prop:=match x with
 | .str _=>T = "str"
 | .int _=>T = "int"
 | .ref p=>(T = "list" /\ ∃ xs,rP K H p xs)\/(T = "tuple" /\ ∃ o,K.lookup p=some o/\o.cls=.type "tuple" /\ o.dict=none) \/
   (T = "dict" /\ ((∃ kvs,H p=some (.dK kvs))\/∃ kvs,H p=some (.dT kvs)))\/(T = "set" /\ ∃ S n,H p=some (.set S n))
 |_=>False
theorem zeL {pins:List (Addr×Obj)} {σ:St} {H:Hp} {s:Shared} {T:String} {x:V} {v:Value} (I:Inv X pins σ H s) (r:zC x v) (ty:tyV X.K T x H) :
  s.TypeIs v T/\∀ a,v=.ref a->∃ ob,s.heap.get? a=some ob/\ob.dict=none:=by
 cases x with
 |str z =>
  obtain ⟨t,rfl⟩:=r;cases (show T = "str" from ty);exact ⟨typeIs_str s z t,fun _ e=>nomatch e⟩
 |int i =>
  obtain ⟨t,rfl⟩:=r;cases (show T = "int" from ty);exact ⟨typeIs_int s i t,fun _ e=>nomatch e⟩
 |ref p =>
  cases r;rcases ty with ⟨rfl,xs,hq⟩|⟨rfl,o,hk,hc,hd⟩|⟨rfl,hk⟩|⟨rfl,S,n,hk⟩
  .obtain ⟨its,_,pl,_⟩:=I.list hq;refine ⟨pl.isList.typeIs,fun a e=>?_⟩;cases e;obtain ⟨o,n,e,c,hd,_⟩:=pl;exact ⟨o,e,hd⟩
  .refine ⟨⟨o,I.kIn p o hk,hc⟩,fun a e=>?_⟩;cases e;exact ⟨o,I.kIn _ o hk,hd⟩
  .have z:∃ o,s.heap.get? p=some o/\o.ExactDict:=by
    rcases hk with ⟨kvs,hk⟩|⟨kvs,hk⟩
    .obtain ⟨_,_,_,_,o,_,_,e,ex,_⟩:=I.hok p _ hk;exact ⟨o,e,ex⟩
    .obtain ⟨_,_,_,_,o,_,_,e,ex,_⟩:=I.hok p _ hk;exact ⟨o,e,ex⟩
   obtain ⟨o,e,ex⟩:=z;refine ⟨⟨o,e,ex.1⟩,fun a e2=>?_⟩;cases e2;exact ⟨o,e,ex.2.1⟩
  .obtain ⟨o,_,_,_,e,ex,_⟩:=I.hok p _ hk;refine ⟨⟨o,e,ex.1⟩,fun a e2=>?_⟩;cases e2;exact ⟨o,e,ex.2.1⟩
 |_=>exact False.elim ty
def tBM0 (K:PySem.W.Frag) (T:String) (r:V->List V->Hp->VK->Prop) (to:TE):TE:=fun σ H Q=>to σ H fun x H1=>tyV K T x H1/\r x [] H1 Q
def tBM (K:PySem.W.Frag) (T:String) (r:V->List V->Hp->VK->Prop) (to:TE) (t:TA):TE:=fun σ H Q=>to σ H fun x H1=>tyV K T x H1/\t σ H1 fun xs H2=>r x xs H2 Q
variable {o e : Expr} {es : List Expr} {to : TE} {t : TA} {name : Str} {apos cpos : Pos} {T id : String} {r : V → List V → Hp → VK → Prop}
theorem zh2 (pa:PlainAttrs T) (slot:Slot T name id) (hty:typeOf (.builtin id)=pure (.type "method_descriptor")) (hm:MtR X id r) (ho:PE X o to)
  (hbase:attributeBase o name X.env (eval o X.env)=eval o X.env:=by rfl) (hline:(apos.endLine==cpos.line)=true:=by rfl):PE X (.Call (.Attribute o name apos) [] [] cpos) (tBM0 X.K T r to):=by
 intro pins s σ H Q I h;refine wpAny_Call_method0_late hbase hline (yF (ho pins s σ H _ I h) fun v s1 ⟨x,H1,I1,r1,ty,q1⟩=>?_);obtain ⟨h1,h2⟩:=zeL I1 r1 ty;exact ⟨T,id,pa,slot,hty,h1,h2,Calls.callWith_builtin rfl (PySem.evalArgs_none (hm pins s1 σ H1 x [] v [] Q I1 r1 .nil q1))⟩
theorem pe_bm (pa:PlainAttrs T) (slot:Slot T name id) (hty:typeOf (.builtin id)=pure (.type "method_descriptor")) (hm:MtR X id r) (ho:PE X o to) (ha:PA X (e::es) t)
  (hbase:attributeBase o name X.env (eval o X.env)=eval o X.env:=by rfl)
  (hfew:((backTo cpos (starEach (e::es) X.env)).all (fun x=>!x.1)&&(backToKw cpos (keywordEach [] X.env)).all (fun x=>x.1.isSome)
   && decide ((e::es).length+([]:List Keyword).length+(if ([]:List Keyword).isEmpty then 0 else 1)<30))=true:=by rfl)
  (hline:(apos.endLine==cpos.line)=true:=by rfl) (hs:starEach (e::es) X.env=(false,eval e X.env)::starEach es X.env:=by rfl) (hplain:(backTo cpos (starEach es X.env)).any (·.1)=false:=by rfl) :
  PE X (.Call (.Attribute o name apos) (e::es) [] cpos) (tBM X.K T r to t):=by
 intro pins s σ H Q I h;refine wpAny_Call_method_late hbase hfew hline rfl (yF (ho pins s σ H _ I h) fun v s1 ⟨x,H1,I1,r1,ty,q1⟩=>?_);obtain ⟨h1,h2⟩:=zeL I1 r1 ty;refine ⟨T,id,pa,slot,hty,h1,h2,?_⟩;have hA:=ha cpos pins s1 σ H1 _ I1 q1;rw [hs] at hA ⊢;refine Calls.callWith_builtin (by show (false || (backTo cpos (starEach es X.env)).any (·.1))=false;rw [hplain]<;>rfl) (Calls.evalArgs_plain ?_);exact yF hA fun us s2 ⟨vs,H2,I2,r2,q2⟩=>hm pins s2 σ H2 x vs v us Q I2 r1 r2 q2
/- xs.append(e),list.index on a module's tuple .. are MtR facts of 06m -/
end
end L2
namespace L2
open PySem PySem.Spec PyProof.Rows
def MtM (X:Cx) (id:String) (r:V->List V->Hp->VK->Prop):Prop :=
 ∀ (pins:List (Addr×Obj)) (s:Shared) (σ:St) (H:Hp) (x:V) (xs:List V) (v:Value) (us:List Value) (Q:VK),Inv X pins σ H s->zC x v->zD xs us->r x xs H Q ->
  wpAny (model X.prog X.w) X.A (call (.builtin id) (v::us)) (EP X pins σ Q) X.xe s
theorem zD.one:∀ {x:V} {us:List Value},zD [x] us->∃ u,us=[u]/\zC x u
 |_,_,.cons r .nil=>⟨_,rfl,r⟩
theorem zD.zero:∀ {us:List Value},zD [] us->us=[]
 |_,.nil=>rfl
theorem zD.dropLast {xs:List V} {us:List Value} (h:zD xs us):zD xs.dropLast us.dropLast:=by
 induction h with
 |nil=>exact .nil
 |cons r t ih =>
  cases t with
  |nil=>exact .nil
  |cons q t'=>exact .cons r ih
theorem zD.reverse {xs:List V} {us:List Value} (h:zD xs us):zD xs.reverse us.reverse:=by
 induction h with
 |nil=>exact .nil
 |cons r t ih=>rw [List.reverse_cons,List.reverse_cons];exact zD.append ih (.cons r .nil)
theorem zD.rep {xs:List V} {us:List Value} (h:zD xs us):∀ k:Nat,zD (List.replicate k xs).flatten (List.replicate k us).flatten
 | 0=>.nil
 |k+1=>by
  rw [List.replicate_succ,List.replicate_succ,List.flatten_cons,List.flatten_cons];exact zD.append h (zD.rep h k)
theorem zbo {α:Type} (l:List α):l.eraseIdx (l.length-1)=l.dropLast:=by
 induction l with
 |nil=>rfl
 |cons a r ih =>
  cases r with
  |nil=>rfl
  |cons b r =>
   have e:(a::b::r).length-1=((b::r).length-1)+1:=by
    have h1:(a::b::r).length=r.length+2:=rfl;have h2:(b::r).length=r.length+1:=rfl;omega
   rw [e,List.eraseIdx_cons_succ,ih]
   all_goals rfl
theorem fC (its:List Value):∀ (k:Nat) (acc:List Value),
  List.foldl (fun x1 x2=>x1++x2) acc.toArray (List.replicate k its.toArray)=(acc++(List.replicate k its).flatten).toArray
 | 0,acc=>by simp
 |k+1,acc=>by
  have e:acc.toArray++its.toArray=(acc++its).toArray:=by simp
  have e2:(acc++its)++(List.replicate k its).flatten=acc++(List.replicate (k+1) its).flatten:=by
   rw [List.replicate_succ,List.flatten_cons,List.append_assoc]
  rw [← e2,← fC its k (acc++its),← e,List.replicate_succ,List.foldl_cons]
section
variable {X : Cx} {pins : List (Addr × Obj)} {σ : St} {H : Hp} {s : Shared} {l b : Addr} {xs ys zs : List V}
theorem Inv.lset {its its':List Value} {n:Nat} {f:Array Value->Array Value} {t':Nat} (I:Inv X pins σ H s) (hH:H l=some (.lst xs))
  (e:s.heap.get? l=some { cls:=.type "list", data:=.seq its.toArray n }) (hf:f its.toArray=its'.toArray) (hv:zD ys its') (hz:ys.length<=sizeLine) :
  Inv X pins σ (xK H l (.lst ys)) { s with heap:=s.heap.update l (Obj.mapSeq f),toks:=t' }:=by
 have q:=PySem.IsL.update e f;rw [hf] at q;refine I.write (x:=l) (e:=l) (by rw [hH];exact trivial) (.inl rfl) (fun b' u hb hu=>(Heap.get?_update_other s.heap (Obj.mapSeq f) (Ne.symm hb)).trans hu) ⟨_,q⟩ ?_;exact ⟨hz,its',_,hv,q⟩
theorem Inv.lnew {its:List Value} {t':Nat} (I:Inv X pins σ H s) (hv:zD ys its) (hz:ys.length<=sizeLine) :
  Inv X pins σ (xK H s.heap.objs.size (.lst ys)) { s with heap:=s.heap.push { cls:=.type "list", data:=.seq its.toArray },toks:=t' } :=
 I.laid (fun _ _ q=>Heap.get?_push_of_some _ q) (zzR _) ⟨hz,its,0,hv,Heap.get?_push_size _ rfl⟩
theorem Inv.fresh (I:Inv X pins σ H s):H s.heap.objs.size=none:=I.hok.fresh (zzR _)
theorem Inv.lstM (I:Inv X pins σ H s) (hH:H l=some (.lst xs)):xs.length<=sizeLine/\∃ (its:List Value) (n:Nat),zD xs its/\xs.length=its.length/\s.heap.get? l=some { cls:=.type "list", data:=.seq its.toArray n }:=by
 obtain ⟨z,its,n,r,e⟩:=I.hok l _ hH;exact ⟨z,its,n,r,r.length,e⟩
theorem nO {n:Nat} (h:n<=sizeLine):Builtin.List.listTooLong n=false:=by
 unfold Builtin.List.listTooLong;exact decide_eq_false (by omega)
end
section
variable {X : Cx}
def zfJ:V->List V->Hp->VK->Prop:=fun x vs H Q=>∃ l xs y,x=.ref l/\vs=[y]/\H l=some (.lst xs)/\xs.length<sizeLine/\Q .non (xK H l (.lst (xs++[y])))
theorem zcr:MtM X "list.append" zfJ:=by
 intro pins s σ H x vs v us Q I rx rv h;obtain ⟨l,xs,y,rfl,rfl,hH,hz,q⟩:=h;cases rx;obtain ⟨u,rfl,ru⟩:=rv.one;obtain ⟨z,its,n,r,hl,e⟩:=I.lstM hH;refine call_meets F.slot_list_append ⟨_,e,rfl⟩ F.entry_list_append (F.args_list_append_2 _ _) (PySem.list_append l its.toArray n u (by rw [zzS];omega)) ⟨e,?_⟩;refine ⟨.non,_,I.lset (its':=its++[u]) hH e (by simp) (r.append (.cons ru .nil)) ?_,rfl,q⟩;rw [zzW,List.length_singleton];omega
def rPop:V->List V->Hp->VK->Prop:=fun x vs H Q=>∃ l xs y,x=.ref l/\vs=[]/\H l=some (.lst xs)/\xs[xs.length-1]?=some y/\Q y (xK H l (.lst xs.dropLast))
theorem zif:MtM X "list.pop" rPop:=by
 intro pins s σ H x vs v us Q I rx rv h;obtain ⟨l,xs,y,rfl,rfl,hH,hy,q⟩:=h;cases rx;have hus:=rv.zero;subst hus;obtain ⟨z,its,n,r,hl,e⟩:=I.lstM hH;obtain ⟨u,hu,ru⟩:=r.get hy
 have hy':its.toArray[its.toArray.size-1]?=some u:=by
  show its.toArray[its.length-1]?=some u;rw [← Array.getElem?_toList,← hl];exact hu
 refine call_meets F.slot_list_pop ⟨_,e,rfl⟩ F.entry_list_pop (F.args_list_pop_1 _) (MeetsSeq.list_pop_last l its.toArray n u hy' (by rw [zzS];omega)) ⟨e,?_⟩;refine ⟨y,_,I.lset (its':=its.dropLast) hH e ?_ r.dropLast ?_,ru,q⟩
 .show its.toArray.eraseIdxIfInBounds (its.toArray.size-1)=its.dropLast.toArray;rw [zzS,List.eraseIdxIfInBounds_toArray,zbo]
 .rw [List.length_dropLast];omega
def rCat:R2:=fun x y H Q=>∃ l b xs zs,x=.ref l/\y=.ref b/\H l=some (.lst xs)/\H b=some (.lst zs)/\xs.length+zs.length<=sizeLine/\∀ p,H p=none->Q (.ref p) (xK H p (.lst (xs++zs)))
theorem zia:kP X (binaryOp .Add) rCat:=by
 intro pins s σ H x y v u Q I rx ry h;obtain ⟨l,b,xs,zs,rfl,rfl,hH,hB,hz,q⟩:=h;cases rx;cases ry;obtain ⟨z,its,n,r,hl,e⟩:=I.lstM hH;obtain ⟨z2,its2,n2,r2,hl2,e2⟩:=I.lstM hB;refine PySem.P.add_list e e2 ?_ (by rw [zzS,zzS];omega);have ea:its.toArray++its2.toArray=(its++its2).toArray:=by simp
 rw [ea];exact ⟨.ref _,_,I.lnew (t':=s.toks) (r.append r2) (by rw [zzW];omega),rfl,q _ I.fresh⟩
def rRep:R2:=fun x y H Q=>∃ l k xs,x=.ref l/\y=.int k/\H l=some (.lst xs)/\-(2 ^ 63)<=k/\k<2 ^ 63/\xs.length * k.toNat<=sizeLine /\
 ∀ p,H p=none->Q (.ref p) (xK H p (.lst (List.replicate k.toNat xs).flatten))
theorem zgc {α:Type} (xs:List α) (k:Nat):(List.replicate k xs).flatten.length=k * xs.length:=by
 induction k with
 |zero=>simp
 |succ k ih=>rw [List.replicate_succ,List.flatten_cons,zzW,ih,Nat.succ_mul,Nat.add_comm]
theorem zh6:kP X (binaryOp .Mult) rRep:=by
 intro pins s σ H x y v u Q I rx ry h;obtain ⟨l,k,xs,rfl,rfl,hH,h1,h2,hz,q⟩:=h;cases rx;obtain ⟨t,rfl⟩:=ry;obtain ⟨z,its,n,r,hl,e⟩:=I.lstM hH;have hlen:its.toArray.size * k.toNat<=sizeLine:=by rw [zzS,← hl];exact hz
 have hcap:¬ its.toArray.size * k.toNat > (2 ^ 63-1) / 8:=by
  have:(sizeLine:Nat)<=(2 ^ 63-1) / 8:=by decide
  omega
 have hfit:¬ (!Builtin.List.listFitsIndex k)=true:=by
  rw [fitsIndex_both h1 h2];exact zzN
 have hlong:¬ Builtin.List.listTooLong (its.toArray.size * k.toNat)=true:=by
  rw [nO hlen];exact zzN
 have hnew:List.foldl (fun x1 x2=>x1++x2) #[] (List.replicate (if its.toArray.isEmpty=true then 0 else k.toNat) its.toArray)=(List.replicate k.toNat its).flatten.toArray:=by
  have f0:∀ m:Nat,List.foldl (fun x1 x2=>x1++x2) #[] (List.replicate m its.toArray)=(List.replicate m its).flatten.toArray:=fun m=>by
   have:=fC its m [];rw [List.nil_append] at this;exact this
  rw [f0]
  cases its with
  |nil=>simp
  |cons a r'=>rw [if_neg (by simp)]
 refine wpAny_binaryOp_repeat_ref (T := "list") (U := "int") (by decide) ⟨_,e,rfl⟩ (fun s'=>typeIs_int s' k t) noFill_list_mul F.fills_int_mul F.slot_int_rmul repeat_list F.slot_int_index.lookup
  (call_meets F.slot_int_rmul (typeIs_int s k t) F.entry_int_rmul (F.args_int_rmul_2 _ _) (int___rmul___int_list k t l its.toArray n)
   ⟨e,rfl,⟨_,e,rfl⟩,call_meets F.slot_list_mul ⟨_,e,rfl⟩ F.entry_list_mul (F.args_list_mul_2 _ _) (AutoListH.list___mul___list_int_3 l its.toArray n k t hfit hcap hlong) ⟨e,?_⟩⟩)
 rw [hnew];exact ⟨.ref _,_,I.lnew (t':=s.toks) (r.rep k.toNat) (by rw [zgc,Nat.mul_comm];exact hz),rfl,q _ I.fresh⟩
end
section
variable {prog : Program} {w : World} {A : Around} {E : Value → Shared → Prop} {s : Shared}
set_option maxRecDepth 100000 in
end
section
variable {X : Cx}
end
end L2
namespace L2
open PySem PySem.Spec PyProof.Rows
section
variable {κ : Type} [DecidableEq κ]
def vV (kvs:List (κ×V)) (k:κ):Option V:=(kvs.find? fun kv=>decide (kv.1=k)).map (·.2)
def vU (kvs:List (κ×V)) (k:κ) (v:V):List (κ×V) :=
 if (kvs.any fun kv=>decide (kv.1=k))=true then kvs.map (fun kv=>if kv.1=k then (kv.1,v) else kv) else kvs++[(k,v)]
theorem pD {p:κ×V} {r:List (κ×V)} {k:κ} (e:p.1=k):vV (p::r) k=some p.2:=by simp [vV,List.find?_cons,e]
theorem pC {p:κ×V} {r:List (κ×V)} {k:κ} (e:¬ p.1=k):vV (p::r) k=vV r k:=by simp [vV,List.find?_cons,e]
theorem zap (k:κ):∀ kvs:List (κ×V),(kvs.any fun kv=>decide (kv.1=k))=(vV kvs k).isSome
 | []=>rfl
 |p::r=>by
  rw [List.any_cons]
  by_cases e:p.1=k
  .simp only [pD e,decide_eq_true e,Bool.true_or,Option.isSome_some]
  .rw [pC e,decide_eq_false e,Bool.false_or];exact zap k r
theorem vF (kvs:List (κ×V)) (k:κ) (v:V):(vU kvs k v).length<=kvs.length+1:=by
 unfold vU
 split
 .rw [zzM];omega
 .rw [zzW,List.length_cons,List.length_nil];omega
theorem rO.isSome_eq {o:Option V} {u:Option Value} (r:rO o u):o.isSome=u.isSome:=by
 cases o with
 |none=>cases u with
  |none=>rfl
  |some _=>exact (show False from r).elim
 |some _=>cases u with
  |none=>exact (show False from r).elim
  |some _=>rfl
theorem KV.val {kvs:List (κ×V)} {vs:List (κ×Value)} (r:KV kvs vs) (k:κ):rO (vV kvs k) (valueAt vs k):=by
 unfold KV at r
 induction r with
 |nil=>exact True.intro
 | @cons p q ps qs h t ih =>
  obtain ⟨h1,h2⟩:=h
  by_cases e:p.1=k
  .have e':q.1=k:=h1.symm.trans e;have b:valueAt (q::qs) k=some q.2:=by simp [valueAt,List.find?_cons,e']
   rw [pD e,b];exact h2
  .have e':¬ q.1=k:=fun z=>e (h1.trans z);have b:valueAt (q::qs) k=valueAt qs k:=by simp [valueAt,List.find?_cons,e']
   rw [pC e,b];exact ih
theorem KV.any {kvs:List (κ×V)} {vs:List (κ×Value)} (r:KV kvs vs) (k:κ):(kvs.any fun kv=>decide (kv.1=k))=vs.any fun kv=>decide (kv.1=k):=by
 unfold KV at r
 induction r with
 |nil=>rfl
 |cons h t ih=>rw [List.any_cons,List.any_cons,ih,h.1]
theorem KV.repl {kvs:List (κ×V)} {vs:List (κ×Value)} (r:KV kvs vs) (k:κ) {y:V} {u:Value} (ry:zC y u) :
  KV (kvs.map fun kv=>if kv.1=k then (kv.1,y) else kv) (vs.map fun kv=>if kv.1=k then (kv.1,u) else kv):=by
 unfold KV at r ⊢
 induction r with
 |nil=>exact .nil
 | @cons p q ps qs h t ih =>
  rw [zzU,zzU];refine .cons ?_ ih;obtain ⟨h1,h2⟩:=h
  by_cases e:p.1=k
  .rw [if_pos e,if_pos (h1.symm.trans e)];exact ⟨h1,ry⟩
  .rw [if_neg e,if_neg (fun z=>e (h1.trans z))];exact ⟨h1,h2⟩
theorem KV.put {kvs:List (κ×V)} {vs:List (κ×Value)} (r:KV kvs vs) (k:κ) {y:V} {u:Value} (ry:zC y u):KV (vU kvs k y) (stored vs k u):=by
 unfold vU stored;rw [r.any k]
 by_cases e:(vs.any fun kv=>decide (kv.1=k))=true
 .rw [if_pos e,if_pos e];exact r.repl k ry
 .rw [if_neg e,if_neg e];exact Paired.snoc r ⟨rfl,ry⟩
theorem KV.keys {kvs:List (κ×V)} {vs:List (κ×Value)} (r:KV kvs vs):kvs.map (·.1)=vs.map (·.1):=by
 unfold KV at r
 induction r with
 |nil=>rfl
 |cons h t ih=>rw [zzU,zzU,ih,h.1]
theorem KV.length {kvs:List (κ×V)} {vs:List (κ×Value)} (r:KV kvs vs):kvs.length=vs.length:=Paired.length r
end
theorem fK {P:Program} {w:World} {k:yO} {u:Value} (r:zC (kV k) u):(xP P w).is k u=true:=by
 cases k with
 |inl i=>obtain ⟨t,e⟩:=(show ∃ t,u=Value.int i t from r);subst e;exact zak P w i t
 |inr x=>obtain ⟨t,e⟩:=(show ∃ t,u=Value.str x t from r);subst e;exact zaj P w x t
theorem fI {P:Program} {w:World}:∀ {ks:List yO} {us:List Value},zD (ks.map kV) us->ItemsAre (xP P w) ks us
 | [],_,r=>by rw [zzV] at r;cases r;exact .nil
 |k::ks,_,r=>by
  rw [zzU] at r
  cases r with
  |cons h t=>exact .cons (fK h) (fI t)
abbrev KT (H:Hp):List (List yO×V)->List (List yO×Addr×Value)->Prop:=Paired fun p q=>p.1=q.1/\H q.2.1=some (.tup (p.1.map kV))/\zC p.2 q.2.2
theorem KT.val {H:Hp} {kvs:List (List yO×V)} {xs:List (List yO×Addr×Value)} (r:KT H kvs xs) (k:List yO):rO (vV kvs k) ((atKey xs k).map (·.2)):=by
 induction r with
 |nil=>exact True.intro
 | @cons p q ps qs h t ih =>
  obtain ⟨h1,_,h2⟩:=h
  by_cases e:p.1=k
  .have e':q.1=k:=h1.symm.trans e;have b:atKey (q::qs) k=some q.2:=by simp [atKey,List.find?_cons,e']
   rw [pD e,b];exact h2
  .have e':¬ q.1=k:=fun z=>e (h1.trans z);have b:atKey (q::qs) k=atKey qs k:=by simp [atKey,List.find?_cons,e']
   rw [pC e,b];exact ih
theorem KT.repl {H:Hp} {kvs:List (List yO×V)} {xs:List (List yO×Addr×Value)} (r:KT H kvs xs) (k:List yO) {y:V} {u:Value} (ry:zC y u) :
  KT H (kvs.map fun kv=>if kv.1=k then (kv.1,y) else kv) (xs.map (putAt k u)):=by
 induction r with
 |nil=>exact .nil
 | @cons p q ps qs h t ih =>
  rw [zzU,zzU];refine .cons ?_ ih;obtain ⟨h1,h2,h3⟩:=h;unfold putAt
  by_cases e:p.1=k
  .rw [if_pos e,if_pos (h1.symm.trans e)];exact ⟨h1,h2,ry⟩
  .rw [if_neg e,if_neg (fun z=>e (h1.trans z))];exact ⟨h1,h2,h3⟩
theorem KT.put {H:Hp} {kvs:List (List yO×V)} {xs:List (List yO×Addr×Value)} (r:KT H kvs xs) (k:List yO) {b:Addr} {y:V} {u:Value} (hb:H b=some (.tup (k.map kV))) (ry:zC y u) :
  KT H (vU kvs k y) (storedH xs k b u):=by
 have e:(kvs.any fun kv=>decide (kv.1=k))=(atKey xs k).isSome:=by
  rw [zap,(r.val k).isSome_eq,Option.isSome_map]
 unfold vU storedH;rw [e]
 by_cases q:(atKey xs k).isSome=true
 .rw [if_pos q,if_pos q];exact r.repl k ry
 .rw [if_neg q,if_neg q];exact Paired.snoc r ⟨rfl,hb,ry⟩
theorem KT.keeps {H H':Hp} {kvs:List (List yO×V)} {xs:List (List yO×Addr×Value)} (r:KT H kvs xs) (ht:∀ b ys,H b=some (.tup ys)->H' b=some (.tup ys)):KT H' kvs xs :=
 Paired.mapP r fun _ _ z=>⟨z.1,ht _ _ z.2.1,z.2.2⟩
section
variable {P : Program} {w : World} {H : Hp} {h : Heap} {a : Addr}
theorem zhD {u:HO} (ok:uL P w H h) (e:Rd H a u):xG P w H h a u:=e.ok ok
theorem pZ {kvs:List (yO×V)} (ok:uL P w H h) (e:Rd H a (.dK kvs)):kvs.length<=sizeLine/\(a==sysModules)=false/\∃ vs,KV kvs vs/\h.DictOf (xP P w) a vs :=
 show xG P w H h a (.dK kvs) from zhD ok e
theorem zi8 {kvs:List (yO×V)} (ok:uL P w H h) (e:H a=some (.dK kvs)):kvs.length<=sizeLine/\(a==sysModules)=false/\∃ vs,KV kvs vs/\h.DictOf (xP P w) a vs:=pZ ok (.inl e)
theorem mW {ks:List yO} (ok:uL P w H h) (e:H a=some (.tup (ks.map kV))):(tupleKind (xP P w)).is h ks a:=by
 obtain ⟨_,its,r,o,h1,h2,n,h3⟩:=(show xG P w H h a (.tup (ks.map kV)) from ok a _ e);exact ⟨o,its.toArray,n,h1,h2,h3,by simpa using fI r⟩
theorem zc1 {kvs:List (List yO×V)} (ok:uL P w H h) (e:Rd H a (.dT kvs)):kvs.length<=sizeLine/\(a==sysModules)=false /\
  ∃ xs,KT H kvs xs/\h.DictOfH (tupleKind (xP P w)) a xs:=by
 obtain ⟨z,y,xs,r,o,es,ep,h1,h2,h3,h4,h5⟩:=(show xG P w H h a (.dT kvs) from zhD ok e);refine ⟨z,y,xs,r,o,es,ep,h1,h2,h3,h4,fun x hx=>?_,h5⟩
 have all:∀ {l:List (List yO×V)} {m:List (List yO×Addr×Value)},KT H l m->∀ x∈m,(tupleKind (xP P w)).is h x.1 x.2.1:=by
  intro l m q
  induction q with
  |nil=>intro x hx;exact nomatch hx
  | @cons p q ps qs hq t ih =>
   intro x hx;rcases List.mem_cons.mp hx with e|hx
   .subst e;exact mW ok (by rw [← hq.1];exact hq.2.1)
   .exact ih x hx
 exact all r x hx
theorem dt_of {kvs:List (List yO×V)} (ok:uL P w H h) (e:H a=some (.dT kvs)):kvs.length<=sizeLine/\(a==sysModules)=false /\
  ∃ xs,KT H kvs xs/\h.DictOfH (tupleKind (xP P w)) a xs:=zc1 ok (.inl e)
end
def DGet (H:Hp) (a:Addr) (y:V) (r:Option V):Prop :=
 (∃ kvs k,Rd H a (.dK kvs)/\y=kV k/\r=vV kvs k)\/∃ kvs k b,Rd H a (.dT kvs)/\y=.ref b/\H b=some (.tup (k.map kV))/\r=vV kvs k
def DPut (H:Hp) (a:Addr) (y v:V) (H':Hp):Prop :=
 (∃ kvs k,H a=some (.dK kvs)/\y=kV k/\kvs.length<sizeLine/\H'=xK H a (.dK (vU kvs k v))) \/
 ∃ kvs k b,H a=some (.dT kvs)/\y=.ref b/\H b=some (.tup (k.map kV))/\kvs.length<sizeLine/\H'=xK H a (.dT (vU kvs k v))
section
variable {X : Cx} {pins : List (Addr × Obj)} {σ : St} {H : Hp} {s : Shared} {a : Addr} {y v : V} {u r : Value} {o : Option V} {A : Around} {E : Value → Shared → Prop}
theorem Inv.big (I:Inv X pins σ H s):sysModules<s.heap.objs.size:=by
 have h:mainGlobals<s.heap.objs.size:=(I.mod.glob.keeps I.bk).lt;exact Nat.lt_trans (by decide) h
theorem zc4 {Q:Value->Shared->Prop} (hu:A.units+1<cLine) (I:Inv X pins σ H s) (g:DGet H a y (some v)) (ry:zC y u) (h:∀ w' s',Inv X pins σ H s'->zC v w'->Q w' s') :
  wpAny (model X.prog X.w) A (getItem (.ref a) u) Q E s:=by
 rcases g with ⟨kvs,k,e,ey,l⟩|⟨kvs,k,b,e,ey,eb,l⟩
 .subst ey;obtain ⟨z,hd,vs,rel,dd⟩:=pZ I.hok e;obtain ⟨w',hw,rw'⟩:=rO.some_of (v:=v) (o:=valueAt vs k) (by rw [l];exact rel.val k);exact wpAny_getItem_of (fK ry) dd.mapOf hw (h w' _ (I.tok _) rw')
 .subst ey;cases (show u=Value.ref b from ry);obtain ⟨z,hd,xs,rel,dd⟩:=zc1 I.hok e;obtain ⟨w',hw,rw'⟩:=rO.some_of (v:=v) (o:=(atKey xs k).map (·.2)) (by rw [l];exact rel.val k);obtain ⟨p,hp,hp2⟩:=Option.map_eq_some_iff.mp hw;refine wpAny_getItem_heap (tupleKind_room_in1 hu) (mW I.hok eb) dd hp ?_;rw [hp2];exact h w' _ (I.tok _) rw'
theorem d_in {Q:Value->Shared->Prop} (hu:A.units+1<cLine) (I:Inv X pins σ H s) (g:DGet H a y o) (ry:zC y u) (h:∀ s',Inv X pins σ H s'->Q (.bool o.isSome) s') :
  wpAny (model X.prog X.w) A (compareOp .In u (.ref a)) Q E s:=by
 rcases g with ⟨kvs,k,e,ey,l⟩|⟨kvs,k,b,e,ey,eb,l⟩
 .subst ey;obtain ⟨z,hd,vs,rel,dd⟩:=pZ I.hok e;refine wpAny_in_of (fK ry) hd dd.mapOf ?_;rw [← (rel.val k).isSome_eq,← l];exact h _ (I.tok _)
 .subst ey;cases (show u=Value.ref b from ry);obtain ⟨z,hd,xs,rel,dd⟩:=zc1 I.hok e;refine wpAny_in_heap (tupleKind_room_in1 hu) (mW I.hok eb) hd dd ?_;have q:=(rel.val k).isSome_eq;rw [Option.isSome_map] at q;rw [← q,← l];exact h _ (I.tok _)
theorem zgY {Q:Value->Shared->Prop} (hu:A.units+1<cLine) (I:Inv X pins σ H s) (g:DGet H a y o) (ry:zC y u) (h:∀ s',Inv X pins σ H s'->Q (.bool (!o.isSome)) s') :
  wpAny (model X.prog X.w) A (compareOp .NotIn u (.ref a)) Q E s:=by
 rcases g with ⟨kvs,k,e,ey,l⟩|⟨kvs,k,b,e,ey,eb,l⟩
 .subst ey;obtain ⟨z,hd,vs,rel,dd⟩:=pZ I.hok e;refine wpAny_notIn_of (fK ry) hd dd.mapOf ?_;rw [← (rel.val k).isSome_eq,← l];exact h _ (I.tok _)
 .subst ey;cases (show u=Value.ref b from ry);obtain ⟨z,hd,xs,rel,dd⟩:=zc1 I.hok e;refine wpAny_notIn_heap (tupleKind_room_in1 hu) (mW I.hok eb) hd dd ?_;have q:=(rel.val k).isSome_eq;rw [Option.isSome_map] at q;rw [← q,← l];exact h _ (I.tok _)
theorem cB {h':Heap} {t':Nat} {ob:HO} (I:Inv X pins σ H s) (mu:Mut (H a)) (hs:Heap.SameBut a s.heap h') (he:∃ q,h'.get? a=some q) (new:xG X.prog X.w (xK H a ob) h' a ob) :
  Inv X pins σ (xK H a ob) { s with heap:=h',toks:=t' } :=
 I.write (x:=a) (e:=a) mu (.inl rfl) (fun b q hb z=>(hs.2 b hb).trans z) he new
theorem zfe {P:Program} {w:World} {H':Hp} {h':Heap} {kvs:List (yO×V)} {vs:List (yO×Value)} (z:kvs.length<=sizeLine) (hd:(a==sysModules)=false) (rel:KV kvs vs) (dd:h'.DictOf (xP P w) a vs) :
  xG P w H' h' a (.dK kvs):=⟨z,hd,vs,rel,dd⟩
theorem zc3 {H':Hp} {Q:Unit->Shared->Prop} (hu:A.units+1<cLine) (I:Inv X pins σ H s) (g:DPut H a y v H') (ry:zC y u) (rv:zC v r) (h:∀ s',Inv X pins σ H' s'->Q () s') :
  wpAny (model X.prog X.w) A (setItem (.ref a) u r) Q E s:=by
 rcases g with ⟨kvs,k,e,ey,l,eH⟩|⟨kvs,k,b,e,ey,eb,l,eH⟩
 .subst ey eH;obtain ⟨z,hd,vs,rel,dd⟩:=zi8 I.hok e;have hz:vs.length<=sizeLine:=by rw [← rel.length];exact z
  have hl:(vU kvs k v).length<=sizeLine:=by have:=vF kvs k v;omega
  refine wpAny_setItem_pairs (hsz:=hz) (fK ry) dd fun h' dd' hs=>h _ ?_;have he:∃ q,h'.get? a=some q:=let ⟨q,_,_,hq,_⟩:=dd';⟨q,hq⟩;exact cB I (by rw [e];exact True.intro) hs he (zfe hl hd (rel.put k rv) dd')
 .subst ey eH;cases (show u=Value.ref b from ry);obtain ⟨z,hd,xs,rel,dd⟩:=dt_of I.hok e;have hz:xs.length<=sizeLine:=by rw [← Paired.length rel];exact z
  have hl:(vU kvs k v).length<=sizeLine:=by have:=vF kvs k v;omega
  refine wpAny_setItem_heap (hsz:=hz) (tupleKind_room_in1 hu) (mW I.hok eb) dd fun h' dd' hs=>h _ ?_;obtain ⟨q,es,ep,hq,h2,h3,h4,_,h5⟩:=dd';refine cB I (by rw [e];exact True.intro) hs ⟨q,hq⟩ ⟨hl,hd,_,(rel.put k eb rv).keeps fun c ys ec=>?_,q,es,ep,hq,h2,h3,h4,h5⟩;rw [yV (ne_of ec e (fun z=>nomatch z))];exact ec
end
section
variable {X : Cx} {pins : List (Addr × Obj)} {σ : St} {H : Hp} {s : Shared} {a : Addr} {kvs : List (yO × V)} {k : yO} {u : Value} {A : Around} {E : Value → Shared → Prop}
theorem d_len {Q:Value->Shared->Prop} (I:Inv X pins σ H s) (e:Rd H a (.dK kvs)) (h:∀ t s',Inv X pins σ H s'->Q (.int kvs.length t) s'):wpAny (model X.prog X.w) A (call (.builtin "len") [.ref a]) Q E s:=by
 obtain ⟨z,hd,vs,rel,dd⟩:=pZ I.hok e;refine call_len_dict hd dd (by rw [← rel.length];rw [sizeLine_eq] at z;omega) ?_;rw [← rel.length];exact h _ _ (I.tok _)
end
section
variable {X : Cx} {o i e value : Expr} {pos pos' tpos : Pos} {td ty tv : TE}
end
theorem zaW {P:Program} {w:World} {H:Hp} (h:Heap) (hb:sysModules<h.objs.size):xG P w H (h.push { cls:=.type "dict", data:=.dict #[] }) h.objs.size (.dK []) :=
 ⟨Nat.zero_le _,beq_eq_false_iff_ne.mpr (Ne.symm (Nat.ne_of_lt hb)),[],.nil,Heap.DictOf.new h⟩
def zhm:TE:=fun _ H Q=>∀ p,H p=none->Q (.ref p) (xK H p (.dK []))
section
variable {X : Cx} {pos : Pos}
theorem zd0:PE X (.Dict [] [] pos) zhm:=fun pins s σ H Q I h =>
 wpAny_Dict_empty ⟨.ref s.heap.objs.size,_,I.laid (a:=s.heap.objs.size) (o:=.dK []) (t':=s.toks) (fun _ _ q=>Heap.get?_push_of_some _ q) (zzR _) (zaW s.heap I.big),rfl,h _ (I.hok.fresh (zzR _))⟩
end
def dG:List (TE×TE)->St->Hp->(List (V×V)->Hp->Prop)->Prop
 | [],_,H,Q=>Q [] H
 | (tk,tv)::r,σ,H,Q=>tk σ H fun x H1=>tv σ H1 fun y H2=>dG r σ H2 fun ps H3=>Q ((x,y)::ps) H3
abbrev VV:List (V×V)->List (Value×Value)->Prop:=Paired fun p q=>zC p.1 q.1/\zC p.2 q.2
def PPs (X:Cx) (pos:Pos) (keys:List (Option Expr)) (values:List Expr) (trs:List (TE×TE)):Prop :=
 ∀ (pins:List (Addr×Obj)) (s:Shared) (σ:St) (H:Hp) (Q:List (V×V)->Hp->Prop),Inv X pins σ H s->dG trs σ H Q ->
  wpAny (model X.prog X.w) X.A (evalPairs (pairTrees keys values X.env pos)) (fun vs s'=>∃ ps H',Inv X pins σ H' s'/\VV ps vs/\Q ps H') X.xe s
theorem zfS {X:Cx} {pos:Pos}:PPs X pos [] [] []:=fun pins s σ H Q I h=>pairTrees_nil_walk ⟨[],H,I,.nil,h⟩
theorem zdS {X:Cx} {pos:Pos} {k v:Expr} {ks:List (Option Expr)} {vs:List Expr} {tk tv:TE} {trs:List (TE×TE)} (hk:PE X k tk) (hv:PE X v tv) (hr:PPs X pos ks vs trs) :
  PPs X pos (some k::ks) (v::vs) ((tk,tv)::trs):=fun pins s σ H Q I h =>
 pairTrees_cons_walk (yF (hk pins s σ H _ I h) fun u s1 ⟨x,H1,I1,rx,q1⟩=>yF (hv pins s1 σ H1 _ I1 q1) fun w2 s2 ⟨y,H2,I2,ry,q2⟩ =>
  yF (hr pins s2 σ H2 _ I2 q2) fun ws s3 ⟨ps,H3,I3,rel,q3⟩=>⟨(x,y)::ps,H3,I3,.cons ⟨rx,ry⟩ rel,q3⟩)
def rY (kvs more:List (yO×V)):List (yO×V):=more.foldl (fun acc kv=>vU acc kv.1 kv.2) kvs
theorem KV.merge:∀ {more:List (yO×V)} {rs:List (yO×Value)} {kvs:List (yO×V)} {vs:List (yO×Value)},KV more rs->KV kvs vs->KV (rY kvs more) (merged vs rs):=by
 intro more rs kvs vs r;unfold KV at r
 induction r generalizing kvs vs with
 |nil=>intro q;exact q
 | @cons p q ps qs h t ih =>
  intro r0
  have e:KV (vU kvs p.1 p.2) (stored vs q.1 q.2):=by
   have:=r0.put p.1 h.2;rw [← h.1];exact this
  exact ih e
theorem uG:∀ (more kvs:List (yO×V)),(rY kvs more).length<=kvs.length+more.length
 | [],kvs=>by show kvs.length<=kvs.length+0;omega
 |p::r,kvs=>by
  have h1:=uG r (vU kvs p.1 p.2);have h2:=vF kvs p.1 p.2;show (rY (vU kvs p.1 p.2) r).length<=_;rw [List.length_cons];omega
theorem mF {P:Program} {w:World}:∀ {kvs:List (yO×V)} {ws:List (Value×Value)},VV (kvs.map fun kv=>(kV kv.1,kv.2)) ws->∃ rs,Carries (xP P w) ws rs/\KV kvs rs
 | [],_,r=>by rw [zzV] at r;cases r;exact ⟨[],True.intro,.nil⟩
 |p::kvs,_,r=>by
  rw [zzU] at r
  cases r with
  | @cons a b as bs h t =>
   obtain ⟨rs,c,q⟩:=mF (P:=P) (w:=w) t;obtain ⟨b1,b2⟩:=b;exact ⟨(p.1,b2)::rs,⟨fK h.1,rfl,c⟩,.cons ⟨rfl,h.2⟩ q⟩
def tDisp (trs:List (TE×TE)):TE:=fun σ H Q=>∀ p,H p=none->dG trs σ (xK H p (.dK [])) fun ps H2=>H2 p=some (.dK [])/\∃ kvs:List (yO×V),ps=kvs.map (fun kv=>(kV kv.1,kv.2))/\kvs.length<=15/\Q (.ref p) (xK H2 p (.dK (rY [] kvs)))
theorem zfY {X:Cx} {pos:Pos} {keys:List (Option Expr)} {values:List Expr} {trs:List (TE×TE)} (h:PPs X pos keys values trs) (hall:keys.all (·.isSome)=true) (hl:keys.length=values.length) (h0:keys≠[])
  (h15:keys.length<=15):PE X (.Dict keys values pos) (tDisp trs):=by
 intro pins s σ H Q I q;have hn:=I.hok.fresh (zzR s.heap.objs.size);have I1:=I.laid (a:=s.heap.objs.size) (o:=.dK []) (h':=s.heap.push { cls:=.type "dict", data:=.dict #[] }) (t':=s.toks) (fun _ _ q=>Heap.get?_push_of_some _ q) (zzR _) (zaW s.heap I.big);refine wpAny_Dict_walk (knd:=xP X.prog X.w) hall hl h0 h15 (yF (h pins _ σ _ _ I1 (q _ hn)) fun ws s2 ⟨ps,H2,I2,rel,e,kvs,ep,lk,q2⟩=>?_);subst ep;obtain ⟨rs,c,rk⟩:=mF (P:=X.prog) (w:=X.w) rel;obtain ⟨z,hd,vs0,r0,dd⟩:=zi8 I2.hok e;cases r0;refine ⟨rs,c,dd,fun h' dd' hs=>⟨.ref s.heap.objs.size,_,?_,rfl,q2⟩⟩
 have hz:(rY [] kvs).length<=sizeLine:=by
  have h1:=uG kvs [];rw [List.length_nil] at h1;rw [sizeLine_eq];omega
 have he:∃ q,h'.get? s.heap.objs.size=some q:=let ⟨q,_,_,hq,_⟩:=dd';⟨q,hq⟩;exact cB I2 (by rw [e];exact True.intro) hs he (zfe hz hd (rk.merge .nil) dd')
structure M1 (X:Cx) (o:Expr) (m:Str) (apos:Pos) (e:Expr) (cpos:Pos):Prop where
 base:attributeBase o m X.env (eval o X.env)=eval o X.env
 few:((backTo cpos (starEach [e] X.env)).all (fun x=>!x.1)&&(backToKw cpos (keywordEach [] X.env)).all (fun x=>x.1.isSome)
  && decide (([e]:List Expr).length+([]:List Keyword).length+(if ([]:List Keyword).isEmpty then 0 else 1)<30))=true
 line:(apos.endLine==cpos.line)=true
 trees:backTo cpos (starEach [e] X.env)=[(false,eval e X.env)]
def IsD (H:Hp) (a:Addr):Prop:=(∃ kvs,Rd H a (.dK kvs))\/∃ kvs,Rd H a (.dT kvs)
theorem ziS {X:Cx} {pins:List (Addr×Obj)} {σ:St} {H:Hp} {s:Shared} {a:Addr} (I:Inv X pins σ H s) (d:IsD H a) :
  s.TypeIs (.ref a) "dict" /\ (∀ b,Value.ref a=.ref b->∃ ob,s.heap.get? b=some ob/\ob.dict=none)/\(a==sysModules)=false:=by
 rcases d with ⟨kvs,e⟩|⟨kvs,e⟩
 .obtain ⟨_,hd,vs,_,dd⟩:=pZ I.hok e;refine ⟨dd.typeIs,fun b q=>?_,hd⟩;cases q;obtain ⟨ob,_,_,h1,h2,_⟩:=dd;exact ⟨ob,h1,h2.2.1⟩
 .obtain ⟨_,hd,xs,_,dd⟩:=zc1 I.hok e;refine ⟨dd.typeIs,fun b q=>?_,hd⟩;cases q;obtain ⟨ob,_,_,h1,h2,_⟩:=dd;exact ⟨ob,h1,h2.2.1⟩
section
variable {X : Cx} {pins : List (Addr × Obj)} {σ : St} {H : Hp} {s : Shared} {a : Addr} {y d : V} {u r : Value} {o : Option V} {A : Around} {E : Value → Shared → Prop}
end
section
variable {X : Cx} {o e f : Expr} {apos cpos : Pos} {td ty tx : TE}
end
section
variable {X : Cx} {pins : List (Addr × Obj)} {σ : St} {H : Hp} {s : Shared} {a : Addr} {kvs : List (yO × V)} {A : Around} {E : Value → Shared → Prop}
end
section
variable {X : Cx} {pins : List (Addr × Obj)} {σ : St} {H : Hp} {s : Shared} {a : Addr} {y : V} {u : Value} {A : Around} {E : Value → Shared → Prop}
end
end L2
namespace Att
open PySem PySem.W PySem.Calls PyProof.Rows
theorem pS {P:Params} {h:Heap}:∀ (ns:List Int) (vs:List Value),WellAll P h vs (ns.map WData.int)->IntsAre vs ns:=by
 intro ns
 induction ns with
 |nil =>
  intro vs w;rw [zzV] at w;cases w;exact .nil
 |cons n ns ih =>
  intro vs w;rw [zzU] at w
  cases w with
  |cons a b =>
   cases a;exact .cons _ _ (ih _ b)
theorem zb4 {l:OpenLaw} {n:Nat} (hn:l.most=some n) {P:Params} {h:Heap} {args:List WData} {vals:List Value}
  (hpre:l.row.toRowW.claim.pre args=true) (hwl:WellAll P h vals args) :
  ∃ a vs ns,vals=[Value.ref a]/\args=[WData.list (ns.map WData.int)]/\h.get? a=some { cls:=.type "list", data:=.seq vs.toArray }/\IntsAre vs ns/\ns.length<=n:=by
 have hsh:WShape.hasAll [] args [.list .int]=true:=(pre_splitW hpre).1;have hc:l.pre.holds [] { args:=args }=true:=(pre_splitW hpre).2;obtain ⟨d,r,rfl,h1,h2⟩:=hasAllW_cons hsh;obtain rfl:=hasAllW_nil h2;obtain ⟨xs,rfl,h3⟩:=hasW_list h1;obtain ⟨ns,rfl⟩:=items_int h3
 have hlen:ns.length<=n:=by
  unfold OpenLaw.pre at hc
  have h4:(WTm.not (.lt (.lit (.int (n:Int))) (.len (.arg 0)))).holds [] { args:=[.list (ns.map .int)] }=true:=by
   have h4:=(holds_andW hc).1;rw [hn] at h4;exact h4
  have h5:=condW_of h4 (w_not (w_lt w_lit (w_len_list (w_arg rfl))));rw [zzM] at h5;refine Nat.le_of_not_lt fun q=>?_;have q':(n:Int)<((ns.length:Nat):Int):=by omega
  first
   | (rw [decide_eq_true q'] at h5;exact absurd h5 (by decide))
   | (simp at h5;omega)
 cases hwl with
 |cons w1 w2 =>
  cases w2
  cases w1 with
  |list ho hall=>exact ⟨_,_,ns,rfl,rfl,ho,pS ns _ hall,hlen⟩
theorem zcc (l:OpenLaw) (args:List WData):l.row.toRowW.claim.post args (.bool true) args=true :=
 postW_of (r:=l.row.toRowW) (X:=(true==true))
  (show WShape.has [] (.bool true) .bool=true by first|rfl|decide|simp [WShape.has,WShape.arms,WShape.armsAll])
  (show (WTm.eq .res (.lit (.bool true))).value [] { args:=args,res:=some (.bool true),after:=args }=some (.bool (true==true)) from w_eq_bool (w_res rfl) w_lit) rfl
theorem attach_call {l:OpenLaw} {n:Nat} {q:Program} {loose:List Str} {XP:(Str->Option Value)->Heap->Prop} {YP:World->Heap->Prop} {d:DefRec}
  (hn:l.most=some n) (hdf:d.params.defaults=[])
  (call:∀ (w:World) (s₀ s₁:Shared) (mg mb:Str->Option Value) (fa:Addr) (o:Obj) (pm cd doc:Value) (a:Addr) (vs:List Value) (ns:List Int),
   Ground q loose [] XP w s₀ mg mb s₁.heap->YP w s₁.heap ->
   s₁.heap.get? fa=some o->o.data=.func (docDef d.name d.params d.body d.scope pm cd doc)->s₁.heap.CodeRec cd d.name->mg d.name=some (.ref fa) ->
   s₁.heap.get? a=some { cls:=.type "list", data:=.seq vs.toArray }->IntsAre vs ns->ns.length<=n->s₁.gens=#[] ->
   codeAny (model l.prog w) callerA (.call (.ref fa) ⟨[.ref a],[]⟩) (fun r s'=>r=.ok (.ret (.bool true))/\OldK s₁.heap s'.heap/\s'.os=s₁.os/\AllBare s'.gens) s₁) :
  WalkO q loose XP YP l.row.toRowW d [] (fun f vs=>PySem.call f vs):=by
 intro w s₀ s₁ mg mb G Y fa o pm cd doc dV kV ho hd hcd hD hmg hg args vals as hpre hlay hrd hwl hlo;obtain rfl:dV=.none:=Dflts.none hD hdf;obtain rfl:kV=.none:=Dflts.noKw hD;obtain ⟨a,vs,ns,rfl,rfl,hobj,hints,hlen⟩:=zb4 hn hpre hwl;refine enter_call (codeAny_mono (call w s₀ s₁ mg mb fa o pm cd doc a vs ns G Y ho (fd_plain hd) hcd hmg hobj hints hlen hg) fun r s' hq=>?_);obtain ⟨rfl,h2,h3,h4⟩:=hq;exact ⟨.inl ⟨.bool true,.bool true,[],rfl,fun _=>rfl,.bool true,zcc l _,fun _=>⟨List.Pairwise.nil,fun _ hm=>(nomatch hm)⟩⟩,h2,h3,h4⟩
section
variable {prog : Program} {w : World} {A : Around} {E : Value → Shared → Prop} {s : Shared} {K : Frag}
end
end Att
namespace L2
open PySem PySem.Spec PyProof.Rows
theorem qC:∀ {vs:List Value} {ns:List Int},IntsAre vs ns->zD (ns.map V.int) vs
 |_,_,.nil=>.nil
 |_,_,.cons n t h=>.cons ⟨t,rfl⟩ (qC h)
def Only (H:Hp):Prop:=∀ b,H b=none\/∃ o xs,H b=some (.frz o (.lst xs))
theorem zea {P:Program} {w:World} {K:PySem.W.Frag} {mg mb:Str->Option Value} {CX:CXT} {k:Nat} {fa a:Addr} {fd:FuncData} {x:Str} {sp:Sp} {s₁:Shared} {vs:List Value} {ns:List Int}
  (KX:K.In s₁.heap) (hns:s₁.heap.Ns mainGlobals mg) (hb:s₁.heap.Ns builtinsNs mb) (hbb:∀ x:Str,x ≠ "__name__" -> mb x=bootBuiltins x) (hlim:s₁.heap.NoLimit) (hg:s₁.gens=#[])
  (ha:s₁.heap.get? a=some { cls:=.type "list", data:=.seq vs.toArray }) (hi:IntsAre vs ns) (hl:ns.length<=sizeLine) (hr:Room k callerA)
  (F:∀ base:Heap,K.In base->base.Ns mainGlobals mg->FnOk P w K mg base CX k fa fd [x] sp) (hbind:∀ (s:Shared) (u:Value),BindsTo s fd ⟨[u],[]⟩ [(x,u)])
  (hsp:∀ H:Hp,Only H->rP K H a (ns.map V.int)->sp [.ref a] H (fun v _=>v=.bl true) fun _ _ _=>False)
  (hCX:∀ H e s',CX [] H s₁ (fun _ _ _=>False) e s'->False) :
  codeAny (model P w) callerA (.call (.ref fa) ⟨[.ref a],[]⟩) (fun r s'=>r=.ok (.ret (.bool true))/\OldK s₁.heap s'.heap/\s'.os=s₁.os/\AllBare s'.gens) s₁:=by
 have rv:=qC hi;have lenV:=hi.length
 have core:∀ H:Hp,Only H->rP K H a (ns.map V.int)->uL P w H s₁.heap->(∀ b,H b≠none->b=a)->(H a≠none->K.lookup a=none) ->
   codeAny (model P w) callerA (.call (.ref fa) ⟨[.ref a],[]⟩) (fun r s'=>r=.ok (.ret (.bool true))/\OldK s₁.heap s'.heap/\s'.os=s₁.os/\AllBare s'.gens) s₁:=by
  intro H hO hS hok hA hK;have base_of:∀ {b:Addr} {o:Obj},s₁.heap.get? b=some o->H b=none->(cG s₁.heap H).get? b=some o:=fun e n=>zem e n
  have noA:∀ {b:Addr} {o:Obj} {es:Array DictEntry} {ep:Nat},s₁.heap.get? b=some o->o.data=.dict es ep->H b=none:=fun {b o es ep} e d=>by
   cases q:H b with
   |none=>rfl
   |some u =>
    have e':b=a:=hA b (by rw [q];simp);subst e';rw [ha] at e;cases e;have d':Data.seq vs.toArray _=Data.dict es ep:=d;cases d'
  have nsK:∀ {b:Addr} {m:Str->Option Value},s₁.heap.Ns b m->(cG s₁.heap H).Ns b m:=fun {b m} ⟨o,es,ep,e,d,r⟩=>⟨o,es,ep,base_of e (noA e d),d,r⟩
  have hKb:K.In (cG s₁.heap H):=fun b o e=>base_of (KX b o e) (by
   cases q:H b with
   |none=>rfl
   |some u =>
    have e':b=a:=hA b (by rw [q];simp);subst e';rw [hK (by rw [q];simp)] at e;cases e)
  have hM:Mod K mg (cG s₁.heap H):=⟨hKb,nsK hns,⟨mb,nsK hb,hbb⟩,let ⟨mc,h1,h2⟩:=hlim;⟨mc,nsK h1,h2⟩⟩;have e0:Env0 P w K mg (cG s₁.heap H) callerA [] s₁ H:=⟨rfl,hM,fun b o e=>zf6 e,Nat.le_of_eq (zcL _ _),trivial,fun b hb=>absurd (show b∈([]:List Addr) from hb) (by simp),hok,.of_eq hg⟩;refine codeAny_mono ((F _ hKb (nsK hns)).run callerA [] s₁ H ⟨[.ref a],[]⟩ [.ref a] [.ref a] _ _ hr e0 (hbind s₁ (.ref a)) (.cons rfl .nil) (hsp H hO hS)) fun r s' h=>?_
  cases r with
  |error e=>exact (hCX H e s' h).elim
  |ok fl =>
   cases fl with
   |next=>exact False.elim h
   |brk=>exact False.elim h
   |cont=>exact False.elim h
   |ret u =>
    obtain ⟨v,H',os,bare,un,hok',r',q⟩:=h;have q':v=.bl true:=q;subst q';obtain rfl:u=Value.bool true:=r';refine ⟨rfl,OldK.of_keep fun b o e=>?_,os,bare⟩
    cases q:H b with
    |none=>exact un.keep b o e q (by intro z;exact absurd (show b∈([]:List Addr) from z) (by simp)) (by simp)
    |some u =>
     rcases hO b with z|⟨ob,xs,z⟩
     .rw [q] at z;cases z
     .have z2:=un.frzs b ob _ z;obtain ⟨e1,_⟩:=hok b _ z;obtain ⟨e2,_⟩:=hok' b _ z2;rw [e] at e1;cases e1;exact e2
 cases hk:K.lookup a with
 |some o =>
  have e:=KX a o hk;rw [ha] at e;cases e;refine core (fun _=>none) (fun _=>.inl rfl) (.inr ⟨_,vs.toArray,_,hk,rfl,rfl,rfl,by rw [zzS,lenV];exact hl,by simpa using rv⟩) (fun b u z=>by have z':(none:Option HO)=some u:=z;cases z') (fun b z=>absurd rfl z) fun z=>absurd rfl z
 |none =>
  refine core (fun b=>if b=a then some (.frz { cls:=.type "list", data:=.seq vs.toArray } (.lst (ns.map V.int))) else none) (fun b=>?_) (.inl (.inr ⟨{ cls:=.type "list", data:=.seq vs.toArray },if_pos rfl⟩)) (fun b u z=>?_) (fun b z=>?_) fun _=>hk
  .by_cases hb:b=a
   .exact .inr ⟨_,_,if_pos hb⟩
   .exact .inl (if_neg hb)
  .by_cases hb:b=a
   .have z':=(if_pos hb).symm.trans z;cases z';subst hb;exact ⟨ha,by rw [zzM];exact hl,vs,_,rv,ha⟩
   .have z':=(if_neg hb).symm.trans z;cases z'
  .by_cases hb:b=a
   .exact hb
   .exact absurd (if_neg hb) z
end L2
namespace L2
open PySem PySem.Spec PyProof.Rows
abbrev KOf {K:PySem.W.Frag} {h:Heap} (_:K.In h):PySem.W.Frag:=K
theorem walk_of {l:PySem.W.OpenLaw} {n k:Nat} {q:Program} {loose:List Str} {XP:(Str->Option Value)->Heap->Prop} {YP:World->Heap->Prop} {d:DefRec} {K:Params->PySem.W.Frag} {CX:World->CXT} {sp:World->Sp} {x:Str}
  (hn:l.most=some n) (hn2:n<=sizeLine) (hdf:d.params.defaults=[]) (hr:Room k callerA)
  (hY:∀ (w:World) (h:Heap),YP w h->(K w.params).In h)
  (F:∀ (w:World) (mg:Str->Option Value) (fa:Addr) (h:Heap),(K w.params).In h->h.Ns mainGlobals mg->mg d.name=some (.ref fa) ->
   ∃ fd:FuncData,(∀ (s:Shared) (u:Value),BindsTo s fd ⟨[u],[]⟩ [(x,u)]) /\
    ∀ base:Heap,(K w.params).In base->base.Ns mainGlobals mg->FnOk l.prog w (K w.params) mg base (CX w) k fa fd [x] (sp w))
  (hsp:∀ (w:World) (H:Hp) (a:Addr) (ns:List Int),ns.length<=n->Only H->rP (K w.params) H a (ns.map V.int)->sp w [.ref a] H (fun v _=>v=.bl true) fun _ _ _=>False)
  (hCX:∀ (w:World) (H:Hp) (s:Shared) (e:Value) (s':Shared),CX w [] H s (fun _ _ _=>False) e s'->False) :
  PySem.W.WalkO q loose XP YP l.row.toRowW d [] (fun f vs=>PySem.call f vs):=by
 refine Att.attach_call hn hdf fun w s₀ s₁ mg mb fa o pm cd doc a vs ns G Y ho hd hcd hmg hobj hints hlen hg=>?_;have KX:=hY w _ Y;obtain ⟨fd,hb,hF⟩:=F w mg fa _ KX G.T.g hmg;exact zea KX G.T.g G.T.b G.T.builtins G.T.nolimit hg hobj hints (Nat.le_trans hlen hn2) hr hF hb (fun H hO hS=>hsp w H a ns hlen hO hS) fun H e s'=>hCX w H s₁ e s'
end L2
/- THE LAST THEOREM (shape;LID,My.* are yours):
   My.Adr: a structure of the addresses that your layer names (classes,functions);My.Txt K t: a structure (Prop) of the equations over K;
   My.txt_mk:{K} {implicit addresses ..} (e1:nsIn K mainGlobals "law" = some (some (.ref f))) (e2:K.lookup f=some ⟨oc,od,.func (fnOf "law" "law" params body scope dV kV doc pm an cdv ct),sl⟩) (e3:codeIn K cdv "law" = true) ..:∃ t,My.Txt K t
set_option maxRecDepth 100000 in
set_option maxHeartbeats 0 in
theorem PySem.Challenge.cw_LID_holds : PySem.Challenge.rw_LID.Holds := by
 w_on;o_law;k_head;(case hw=>w_witness2)
 k_fill
 refine L2.walk_of (l:=PySem.Challenge.rw_LID) (n:=63) (k:=40) (x := "script") (CX:=fun w=>..) (sp:=fun _=>My.sp_law) rfl (by decide) rfl ⟨rfl,by decide,by decide⟩ (fun w h Y=>PySem.W.kIn_of Y) ?F ?S ?C
 case F =>
  intro w mg fa h KX G hmg
  have T:∃ t,My.Txt (L2.KOf KX) t:=by
   dsimp only [L2.KOf]                          -- K must stand as «<heap const> w.params» for k_is;refine' My.txt_mk ?e1 ?e2 ?e3 ..
   (case e1=>PySem.W.k_is)                    -- in the order: a name -> its address -> its object -> its parts
   (case e2=>PySem.W.k_is)
   ..
  obtain ⟨t,T⟩:=T;have e0:=hmg.symm.trans (PySem.W.mg_of KX G T.law);cases e0                                       -- fa is the law's own address;exact ⟨_,fun s u=>.of_eq rfl,fun base kb nb=>My.law_fn T kb nb⟩     -- if «.of_eq rfl» comes too early: refine' ⟨_,?b,fun base kb nb=>My.law_fn T kb nb⟩;exact fun s u=>.of_eq rfl
 case S=>exact fun w H a ns hl hO hS=>..
 case C=>exact ..
(the tactic k_is has no namespace: write k_is) -/
namespace L2
open PySem PySem.Spec PyProof.Rows
def yP (s:Stmt):Arguments:=match s with
 | .FunctionDef _ a _ _ _ _ _ _ _ _=>a
 |_=>{ posonlyargs:=[],args:=[],vararg:=none,kwonlyargs:=[],kw_defaults:=[],kwarg:=none,defaults:=[] }
def zH (s:Stmt):List Stmt:=match s with
 | .FunctionDef _ _ b _ _ _ _ _ _ _=>b
 |_=>[]
def zV (s:Stmt):Scope:=match s with
 | .FunctionDef _ _ _ _ _ _ sc _ _ _=>sc
 |_=>{ kind:=.function,names:=[],isGenerator:=false,isCoroutine:=false }
abbrev CX0:CXT:=fun _ _ _ _ _ _=>False
abbrev E0:XK:=fun _ _ _=>False
theorem zf2 {X:Cx}:bI CX0 X E0:=fun _ _ _ _ _ _ _ h=>h.elim
section
variable {P : Program} {w : World} {K : PySem.W.Frag} {mg : Str → Option Value} {base : Heap}
end
section
variable {X : Cx}
end
section
variable {κ : Type} [DecidableEq κ]
end
end L2
namespace L3
open PySem PySem.Spec PyProof.Rows L2
inductive W where
 |non|bl (b:Bool)|int (i:Int)|str (x:Str)|ty (n:String)|ref (a:Addr)|tup (ws:List W)|lsf (ws:List W)
  |exc (C:Addr) (ns:List Str) (ws:List W)|dcf (ks:List Str) (ws:List W)
abbrev yN:=PySem.W.Frag
def KL (K:yN) (a:Addr) (xs:List V):Prop:=∃ (o:Obj) (its:Array Value) (n:Nat),K.lookup a=some o/\o.cls=.type "list" /\ o.dict=none/\o.data=.seq its n/\its.size<=sizeLine/\zD xs its.toList
def zha:List DictEntry->List Str->List V->Prop
 | [],ks,vs=>ks=[]/\vs=[]
 |e::r,ks,vs=>∃ k t v ks' vs',ks=k::ks'/\vs=v::vs'/\e.key=.str k t/\zC v e.val/\zha r ks' vs'
def KD (K:yN) (a:Addr) (ks:List Str) (vs:List V):Prop:=∃ (o:Obj) (es:Array DictEntry) (ep:Nat),K.lookup a=some o/\o.ExactDict/\o.data=.dict es ep/\es.size<=sizeLine/\(a==sysModules)=false/\zha es.toList ks vs
def ExO (a C:Addr) (dx:Option Addr):Heap->Prop:=fun h=>∃ fs,h.get? a=some { cls:=.ref C,dict:=dx,data:=.fields fs }
def ExAt (H:Hp) (a C:Addr) (l:List (Str×V)):Prop:=(H a=some (.ext (ExO a C none))/\l=[])\/∃ dx,H a=some (.ext (ExO a C (some dx)))/\H dx=some (.xd l)
def isX:HO->Prop
 | .ext _=>True
 | .frz _ (.dK _)=>True
 | .xd _=>True
 |_=>False
mutual
def wQ (K:yN) (H:Hp):W->V->Prop
 | .non,v=>v=.non
 | .bl b,v=>v=.bl b
 | .int i,v=>v=.int i
 | .str x,v=>v=.str x
 | .ty n,v=>v=.ty n
 | .ref a,v=>v=.ref a
 | .tup ws,v=>∃ a vs,v=.ref a/\sL K H a vs/\zF K H ws vs
 | .lsf ws,v=>∃ a vs,v=.ref a/\KL K a vs/\zF K H ws vs
 | .exc C ns ws,v=>∃ a vs,v=.ref a/\ExAt H a C (ns.zip vs)/\zF K H ws vs
 | .dcf ks ws,v=>∃ a vs,v=.ref a/\KD K a ks vs/\zF K H ws vs
def zF (K:yN) (H:Hp):List W->List V->Prop
 | [],vs=>vs=[]
 |w::ws,vs=>∃ v r,vs=v::r/\wQ K H w v/\zF K H ws r
end
def yJ (K:yN) (H H':Hp):Prop:=(∀ a xs,sL K H a xs->sL K H' a xs)/\∀ a o,isX o->H a=some o->H' a=some o
theorem yJ.refl {K:yN} {H:Hp}:yJ K H H:=⟨fun _ _ h=>h,fun _ _ _ h=>h⟩
theorem yJ.trans {K:yN} {H H1 H2:Hp} (a:yJ K H H1) (b:yJ K H1 H2):yJ K H H2:=⟨fun x xs h=>b.1 x xs (a.1 x xs h),fun x o i h=>b.2 x o i (a.2 x o i h)⟩
theorem ExAt.mono {K:yN} {H H':Hp} (g:yJ K H H') {a C:Addr} {l:List (Str×V)} (h:ExAt H a C l):ExAt H' a C l:=by
 rcases h with ⟨h,e⟩|⟨dx,h,h'⟩
 .exact .inl ⟨g.2 _ _ True.intro h,e⟩
 .exact .inr ⟨dx,g.2 _ _ True.intro h,g.2 _ _ True.intro h'⟩
section
variable {K : yN} {H H' : Hp}
mutual
theorem wQ.mono (g:yJ K H H'):∀ {w:W} {v:V},wQ K H w v->wQ K H' w v
 | .non,_,h=>h
 | .bl _,_,h=>h
 | .int _,_,h=>h
 | .str _,_,h=>h
 | .ty _,_,h=>h
 | .ref _,_,h=>h
 | .tup _,_,⟨a,vs,e,s,r⟩=>⟨a,vs,e,g.1 a vs s,zF.mono g r⟩
 | .lsf _,_,⟨a,vs,e,s,r⟩=>⟨a,vs,e,s,zF.mono g r⟩
 | .exc _ _ _,_,⟨a,vs,e,s,r⟩=>⟨a,vs,e,s.mono g,zF.mono g r⟩
 | .dcf _ _,_,⟨a,vs,e,s,r⟩=>⟨a,vs,e,s,zF.mono g r⟩
theorem zF.mono (g:yJ K H H'):∀ {ws:List W} {vs:List V},zF K H ws vs->zF K H' ws vs
 | [],_,h=>h
 |_::_,_,⟨v,r,e,h,t⟩=>⟨v,r,e,wQ.mono g h,zF.mono g t⟩
end
theorem zF.length:∀ {ws:List W} {vs:List V},zF K H ws vs->vs.length=ws.length
 | [],_,h=>by rw [show _=[] from h];rfl
 |_::_,_,⟨v,r,e,_,t⟩=>by rw [e,List.length_cons,List.length_cons,zF.length t]
theorem zF.append:∀ {ws:List W} {vs:List V} {ws':List W} {vs':List V},zF K H ws vs->zF K H ws' vs'->zF K H (ws++ws') (vs++vs')
 | [],_,_,_,h,h'=>by rw [show _=[] from h];exact h'
 |_::_,_,_,_,⟨v,r,e,h,t⟩,h'=>by rw [e];exact ⟨v,_,rfl,h,zF.append t h'⟩
theorem zF.get:∀ {ws:List W} {vs:List V} {i:Nat} {w:W},zF K H ws vs->ws[i]?=some w->∃ v,vs[i]?=some v/\wQ K H w v
 | [],_,_,_,_,e=>by simp at e
 |_::_,_,0,_,⟨v,r,e,h,t⟩,q=>by simp at q;subst q;subst e;exact ⟨v,rfl,h⟩
 |_::_,_,i+1,w,⟨v,r,e,h,t⟩,q=>by
  subst e;obtain ⟨u,h1,h2⟩:=zF.get (i:=i) (w:=w) t (by simpa using q);exact ⟨u,by simpa using h1,h2⟩
theorem zF.get':∀ {ws:List W} {vs:List V} {i:Nat} {v:V},zF K H ws vs->vs[i]?=some v->∃ w,ws[i]?=some w/\wQ K H w v
 | [],_,_,_,h,e=>by rw [show _=[] from h] at e;simp at e
 |_::_,_,0,_,⟨v,r,e,h,t⟩,q=>by subst e;simp at q;subst q;exact ⟨_,rfl,h⟩
 |_::_,_,i+1,w,⟨v,r,e,h,t⟩,q=>by
  subst e;obtain ⟨u,h1,h2⟩:=zF.get' (i:=i) (v:=w) t (by simpa using q);exact ⟨u,by simpa using h1,h2⟩
theorem zF.set {w:W} {v:V} (q:wQ K H w v):∀ {ws:List W} {vs:List V} (i:Nat),zF K H ws vs->zF K H (ws.set i w) (vs.set i v)
 | [],_,_,h=>by rw [show _=[] from h];rfl
 |_::_,_,0,⟨_,r,e,_,t⟩=>by rw [e];exact ⟨_,_,rfl,q,t⟩
 |_::_,_,i+1,⟨v,r,e,h,t⟩=>by rw [e];exact ⟨_,_,rfl,h,zF.set q i t⟩
theorem zF.take:∀ {ws:List W} {vs:List V} (n:Nat),zF K H ws vs->zF K H (ws.take n) (vs.take n)
 | [],_,_,h=>by rw [show _=[] from h];simp;rfl
 |_::_,_,0,_=>by simp;rfl
 |_::_,_,n+1,⟨v,r,e,h,t⟩=>by rw [e];exact ⟨_,_,rfl,h,zF.take n t⟩
theorem zF.drop:∀ {ws:List W} {vs:List V} (n:Nat),zF K H ws vs->zF K H (ws.drop n) (vs.drop n)
 | [],_,_,h=>by rw [show _=[] from h];simp;rfl
 |_::_,_,0,h=>h
 |_::_,_,n+1,⟨v,r,e,h,t⟩=>by rw [e];exact zF.drop n t
theorem zF.reverse:∀ {ws:List W} {vs:List V},zF K H ws vs->zF K H ws.reverse vs.reverse
 | [],_,h=>by rw [show _=[] from h];rfl
 |_::_,_,⟨v,r,e,h,t⟩=>by
  rw [e,List.reverse_cons,List.reverse_cons];exact zF.append (zF.reverse t) ⟨v,[],rfl,h,rfl⟩
theorem zF.dropLast {ws:List W} {vs:List V} (h:zF K H ws vs):zF K H ws.dropLast vs.dropLast:=by
 rw [List.dropLast_eq_take,List.dropLast_eq_take,h.length];exact h.take _
end
inductive O where
 |lst (ws:List W)
  |fix (ws:List W)
 |dic (kvs:List (yO×W))
 |ins (C:Addr) (fs:List (Str×W))
  |fzd (kvs:List (yO×W))
def isFz:O->Bool
 | .fzd _=>true
 |_=>false
abbrev Hw:=Addr->Option O
def put (G:Hw) (a:Addr) (o:O):Hw:=fun b=>if b=a then some o else G b
theorem zY {G:Hw} {a:Addr} {o:O}:put G a o a=some o:=by unfold put;rw [if_pos rfl]
theorem yU {G:Hw} {a b:Addr} {o:O} (h:b≠a):put G a o b=G b:=by unfold put;rw [if_neg h]
theorem rB {G:Hw} {a b:Addr} {o:O} (h:G a=some o) (h':G b=none):a≠b:=by
 intro e;subst e;rw [h] at h';cases h'
def yS (K:yN) (H:Hp) {κ:Type}:List (κ×W)->List (κ×V)->Prop
 | [],l=>l=[]
 |p::r,l=>∃ v t,l=(p.1,v)::t/\wQ K H p.2 v/\yS K H r t
def gM (K:yN) (H:Hp):O->HO->Prop
 | .lst ws,o=>∃ vs,o=.lst vs/\zF K H ws vs
 | .fix ws,o=>∃ vs ob,(o=.lst vs\/o=.frz ob (.lst vs))/\zF K H ws vs
 | .dic kvs,o=>∃ l,o=.dK l/\yS K H kvs l
 | .ins C fs,o=>∃ dx l,o=.ins C dx l/\yS K H fs l
 | .fzd kvs,o=>∃ ob l,o=.frz ob (.dK l)/\yS K H kvs l
def xL (K:yN) (H:Hp) (G:Hw):Prop:=∀ a o,G a=some o->∃ u,H a=some u/\gM K H o u
theorem yS.mono {K:yN} {H H':Hp} (g:yJ K H H') {κ:Type}:∀ {l:List (κ×W)} {l':List (κ×V)},yS K H l l'->yS K H' l l'
 | [],_,h=>h
 |_::_,_,⟨v,t,e,h,r⟩=>⟨v,t,e,h.mono g,yS.mono g r⟩
theorem gM.mono {K:yN} {H H':Hp} (g:yJ K H H'):∀ {o:O} {u:HO},gM K H o u->gM K H' o u
 | .lst _,_,⟨vs,e,r⟩=>⟨vs,e,r.mono g⟩
 | .fix _,_,⟨vs,ob,e,r⟩=>⟨vs,ob,e,r.mono g⟩
 | .dic _,_,⟨l,e,r⟩=>⟨l,e,r.mono g⟩
 | .ins _ _,_,⟨dx,l,e,r⟩=>⟨dx,l,e,r.mono g⟩
 | .fzd _,_,⟨ob,l,e,r⟩=>⟨ob,l,e,r.mono g⟩
theorem gM.notX {K:yN} {H:Hp}:∀ {o:O} {u:HO},isFz o=false->gM K H o u->¬ isX u
 | .lst _,_,_,⟨vs,e,r⟩=>by subst e;exact id
 | .fix _,_,_,⟨vs,ob,e,r⟩=>by rcases e with e|e<;>subst e<;>exact id
 | .dic _,_,_,⟨l,e,r⟩=>by subst e;exact id
 | .ins _ _,_,_,⟨dx,l,e,r⟩=>by subst e;exact id
 | .fzd _,_,m,_=>nomatch m
theorem gM.notTup {K:yN} {H:Hp}:∀ {o:O} {u:HO},gM K H o u->(∀ xs,u≠.tup xs)/\∀ ob xs,u≠.frz ob (.tup xs)
 | .lst _,_,⟨vs,e,r⟩=>by subst e;exact ⟨(fun _ z=>nomatch z),(fun _ _ z=>nomatch z)⟩
 | .fix _,_,⟨vs,ob,e,r⟩=>by
  rcases e with e|e<;>subst e
  .exact ⟨(fun _ z=>nomatch z),(fun _ _ z=>nomatch z)⟩
  .exact ⟨(fun _ z=>nomatch z),(fun _ _ z=>nomatch z)⟩
 | .dic _,_,⟨l,e,r⟩=>by subst e;exact ⟨(fun _ z=>nomatch z),(fun _ _ z=>nomatch z)⟩
 | .ins _ _,_,⟨dx,l,e,r⟩=>by subst e;exact ⟨(fun _ z=>nomatch z),(fun _ _ z=>nomatch z)⟩
 | .fzd _,_,⟨ob,l,e,r⟩=>by subst e;exact ⟨(fun _ z=>nomatch z),(fun _ _ z=>nomatch z)⟩
section
variable {K : yN} {H H' : Hp} {G : Hw} {a : Addr}
theorem xL.free (h:xL K H G) (e:H a=none):G a=none:=by
 cases q:G a with
 |none=>rfl
 |some o =>
  obtain ⟨u,e',_⟩:=h a o q;rw [e] at e';cases e'
theorem zaQ {u:HO} (h:∀ xs,¬ Rd H a (.tup xs)) (hx:∀ o,isX o->H a≠some o):yJ K H (xK H a u):=⟨fun b xs s=>by
 rcases s with s|s
 .have hb:b≠a:=by rintro rfl;exact h xs s
  left
  rcases s with s|⟨o,s⟩
  .exact .inl (by rw [yV hb];exact s)
  .exact .inr ⟨o,by rw [yV hb];exact s⟩
 .exact .inr s,fun b o i s=>by
 have hb:b≠a:=by rintro rfl;exact hx o i s
 rw [yV hb];exact s⟩
theorem xJ {u:HO} (h:H a=none):yJ K H (xK H a u):=zaQ (fun xs s=>by
 rcases s with s|⟨o,s⟩<;>(rw [h] at s;cases s)) (fun o _ s=>by rw [h] at s;cases s)
theorem xL.grow {o:O} {u:HO} (h:xL K H G) (e:G a=some o) (m:isFz o=false:=by rfl):yJ K H (xK H a u):=by
 obtain ⟨u',e',r⟩:=h a o e;refine zaQ (fun xs s=>?_) (fun o' i s=>?_)
 .rcases s with s|⟨ob,s⟩
  .rw [e'] at s;cases s;exact r.notTup.1 xs rfl
  .rw [e'] at s;cases s;exact r.notTup.2 ob xs rfl
 .rw [e'] at s;cases s;exact r.notX m i
theorem xL.new {o:O} {u:HO} (h:xL K H G) (e:H a=none) (r:gM K (xK H a u) o u):xL K (xK H a u) (put G a o):=fun b ob q=>by
 by_cases hb:b=a
 .subst hb;rw [zY] at q;cases q;exact ⟨u,wY,r⟩
 .rw [yU hb] at q;obtain ⟨u',e',r'⟩:=h b ob q;exact ⟨u',by rw [yV hb];exact e',r'.mono (xJ e)⟩
theorem xL.tup {u:HO} (h:xL K H G) (e:H a=none):xL K (xK H a u) G:=fun b ob q=>by
 obtain ⟨u',e',r'⟩:=h b ob q;exact ⟨u',by rw [yV (yK e' e)];exact e',r'.mono (xJ e)⟩
theorem xL.chg {o o':O} {u:HO} (h:xL K H G) (e:G a=some o') (r:gM K (xK H a u) o u) (m:isFz o'=false:=by rfl):xL K (xK H a u) (put G a o):=fun b ob q=>by
 by_cases hb:b=a
 .subst hb;rw [zY] at q;cases q;exact ⟨u,wY,r⟩
 .rw [yU hb] at q;obtain ⟨u',e',r'⟩:=h b ob q;exact ⟨u',by rw [yV hb];exact e',r'.mono (h.grow e m)⟩
theorem xL.lst {ws:List W} (h:xL K H G) (e:G a=some (.lst ws)):∃ vs,H a=some (.lst vs)/\zF K H ws vs:=by
 obtain ⟨u,e',vs,rfl,r⟩:=h a _ e;exact ⟨vs,e',r⟩
theorem xL.dic {kvs:List (yO×W)} (h:xL K H G) (e:G a=some (.dic kvs)):∃ l,H a=some (.dK l)/\yS K H kvs l:=by
 obtain ⟨u,e',vs,rfl,r⟩:=h a _ e;exact ⟨vs,e',r⟩
theorem xL.ins {C:Addr} {fs:List (Str×W)} (h:xL K H G) (e:G a=some (.ins C fs)):∃ dx l,H a=some (.ins C dx l)/\yS K H fs l:=by
 obtain ⟨u,e',dx,vs,rfl,r⟩:=h a _ e;exact ⟨dx,vs,e',r⟩
end
def yQ (G:Hw) (a:Addr):Option (List W):=match G a with
 |some (.lst ws)=>some ws
 |some (.fix ws)=>some ws
 |_=>none
theorem xL.seq {K:yN} {H:Hp} {G:Hw} {a:Addr} {ws:List W} (h:xL K H G) (e:yQ G a=some ws):∃ vs,rP K H a vs/\zF K H ws vs:=by
 unfold yQ at e
 split at e
 .rename_i q;cases e;obtain ⟨vs,e',r⟩:=h.lst q;exact ⟨vs,.of e',r⟩
 .rename_i q;cases e;obtain ⟨u,e',vs,ob,z,r⟩:=h a _ q;refine ⟨vs,?_,r⟩;rcases z with rfl|rfl
  .exact .inl (.inl e')
  .exact .inl (.inr ⟨_,e'⟩)
 .cases e
abbrev jH:=List (Option W)
def yH (K:yN) (H:Hp) (σ:jH) (τ:L2.St):Prop:=σ.length=τ.length/\∀ (i:Nat) (w:W),σ[i]?=some (some w)->∃ v,τ[i]?=some (some v)/\wQ K H w v
theorem yH.mono {K:yN} {H H':Hp} (g:yJ K H H') {σ:jH} {τ:L2.St} (h:yH K H σ τ):yH K H' σ τ :=
 ⟨h.1,fun i w e=>let ⟨v,e',r⟩:=h.2 i w e;⟨v,e',r.mono g⟩⟩
theorem yH.set {K:yN} {H:Hp} {σ:jH} {τ:L2.St} {w:W} {v:V} (h:yH K H σ τ) (r:wQ K H w v) (i:Nat):yH K H (σ.set i (some w)) (τ.set i (some v)):=by
 refine ⟨by simp [h.1],fun j w' e=>?_⟩;rw [List.getElem?_set] at e ⊢
 by_cases hj:i=j
 .subst hj;rw [if_pos rfl] at e ⊢
  by_cases hl:i<σ.length
  .rw [if_pos hl] at e;cases e;rw [if_pos (h.1▸hl)];exact ⟨v,rfl,r⟩
  .rw [if_neg hl] at e;cases e
 .rw [if_neg hj] at e ⊢;exact h.2 j w' e
abbrev Q3:=W->Hw->Prop
abbrev E3:=jH->Hw->Q3->Prop
abbrev T3:=jH->Hw->(Bool->Hw->Prop)->Prop
abbrev A3:=jH->Hw->(List W->Hw->Prop)->Prop
structure End3 where
 nx:jH->Hw->Prop
 rt:Q3
 bk:jH->Hw->Prop:=fun _ _=>False
 ct:jH->Hw->Prop:=fun _ _=>False
abbrev S3:=End3->jH->Hw->Prop
section
variable (K : yN)
def yA (t:E3):TE:=fun τ H Q=>∃ σ G,yH K H σ τ/\xL K H G/\t σ G fun w G'=>∀ v H',yJ K H H'->wQ K H' w v->xL K H' G'->Q v H'
def qO (t:T3):TT:=fun τ H Q=>∃ σ G,yH K H σ τ/\xL K H G/\t σ G fun b G'=>∀ H',yJ K H H'->xL K H' G'->Q b H'
def sV (t:A3):TA:=fun τ H Q=>∃ σ G,yH K H σ τ/\xL K H G/\t σ G fun ws G'=>∀ vs H',yJ K H H'->zF K H' ws vs->xL K H' G'->Q vs H'
structure Fine (H:Hp) (D3:End3) (D:Ends):Prop where
 nx:∀ σ G τ H',yJ K H H'->yH K H' σ τ->xL K H' G->D3.nx σ G->D.nx τ H'
 bk:∀ σ G τ H',yJ K H H'->yH K H' σ τ->xL K H' G->D3.bk σ G->D.bk τ H'
 ct:∀ σ G τ H',yJ K H H'->yH K H' σ τ->xL K H' G->D3.ct σ G->D.ct τ H'
 rt:∀ w G v H',yJ K H H'->wQ K H' w v->xL K H' G->D3.rt w G->D.rt v H'
def lowS (t:S3):TS:=fun D τ H=>∃ σ G D3,yH K H σ τ/\xL K H G/\Fine K H D3 D/\t D3 σ G
end
theorem Fine.grow {K:yN} {H H':Hp} {D3:End3} {D:Ends} (f:Fine K H D3 D) (g:yJ K H H'):Fine K H' D3 D :=
 ⟨fun σ G τ H2 g2=>f.nx σ G τ H2 (g.trans g2),fun σ G τ H2 g2=>f.bk σ G τ H2 (g.trans g2),fun σ G τ H2 g2=>f.ct σ G τ H2 (g.trans g2),fun w G v H2 g2=>f.rt w G v H2 (g.trans g2)⟩
def wG (t:E3):Prop:=∀ σ G (Q Q':Q3),(∀ w G',Q w G'->Q' w G')->t σ G Q->t σ G Q'
def uY (t:T3):Prop:=∀ σ G (Q Q':Bool->Hw->Prop),(∀ w G',Q w G'->Q' w G')->t σ G Q->t σ G Q'
def vW (t:A3):Prop:=∀ σ G (Q Q':List W->Hw->Prop),(∀ w G',Q w G'->Q' w G')->t σ G Q->t σ G Q'
section
variable {K : yN} {H : Hp} {σ : jH} {τ : L2.St} {G : Hw}
theorem xT {t:E3} {R:Q3} {S:VK} (m:wG t) (hs:yH K H σ τ) (ha:xL K H G) (h:t σ G R)
  (k:∀ w G1 v H1,yJ K H H1->yH K H1 σ τ->wQ K H1 w v->xL K H1 G1->R w G1->S v H1):yA K t τ H S :=
 ⟨σ,G,hs,ha,m σ G _ _ (fun w G' r v H' g rp ab=>k w G' v H' g (hs.mono g) rp ab r) h⟩
theorem hZ {t:T3} {R:Bool->Hw->Prop} {S:Bool->Hp->Prop} (m:uY t) (hs:yH K H σ τ) (ha:xL K H G) (h:t σ G R)
  (k:∀ b G1 H1,yJ K H H1->yH K H1 σ τ->xL K H1 G1->R b G1->S b H1):qO K t τ H S :=
 ⟨σ,G,hs,ha,m σ G _ _ (fun w G' r H' g ab=>k w G' H' g (hs.mono g) ab r) h⟩
theorem sN {t:A3} {R:List W->Hw->Prop} {S:List V->Hp->Prop} (m:vW t) (hs:yH K H σ τ) (ha:xL K H G) (h:t σ G R)
  (k:∀ w G1 v H1,yJ K H H1->yH K H1 σ τ->zF K H1 w v->xL K H1 G1->R w G1->S v H1):sV K t τ H S :=
 ⟨σ,G,hs,ha,m σ G _ _ (fun w G' r v H' g rp ab=>k w G' v H' g (hs.mono g) rp ab r) h⟩
end
end L3
namespace L2
section
variable {X : Cx} {e : PySem.Expr} {st : PySem.Stmt} {sts : List PySem.Stmt}
theorem PE.imp {t t':TE} (h:PE X e t) (k:∀ σ H Q,t' σ H Q->t σ H Q):PE X e t':=fun pins s σ H Q I q=>h pins s σ H Q I (k σ H Q q)
theorem PT.imp {t t':TT} (h:PT X e t) (k:∀ σ H Q,t' σ H Q->t σ H Q):PT X e t':=fun pins s σ H Q I q=>h pins s σ H Q I (k σ H Q q)
theorem PW.imp {t t':TT} (h:PW X e t) (k:∀ σ H Q,t' σ H Q->t σ H Q):PW X e t':=fun wh pins s σ H Q I q=>h wh pins s σ H Q I (k σ H Q q)
theorem PA.imp {es:List PySem.Expr} {t t':TA} (h:PA X es t) (k:∀ σ H Q,t' σ H Q->t σ H Q):PA X es t':=fun pos pins s σ H Q I q=>h pos pins s σ H Q I (k σ H Q q)
theorem PS.imp {t t':TS} (h:PS X st t) (k:∀ D σ H,t' D σ H->t D σ H):PS X st t':=fun pins s σ H D I q=>h pins s σ H D I (k D σ H q)
theorem PSs.imp {t t':TS} (h:PSs X sts t) (k:∀ D σ H,t' D σ H->t D σ H):PSs X sts t':=fun pins s σ H D I q=>h pins s σ H D I (k D σ H q)
end
end L2
set_option genInjectivity false
set_option genSizeOfSpec false
namespace L2
open PySem PySem.Spec PyProof.Rows PySem.Calls
def clo (env:Env):List (Str×NameKind)->List (Str×Addr)->List (Str×Addr)
 | [],acc=>acc
 | (n,k)::r,acc=>if (k==NameKind.free)=true then clo env r ((n,(env.cells.lookup n).getD 0)::acc) else clo env r acc
theorem bW (env:Env):∀ (l:List (Str×NameKind)) (acc:List (Str×Addr)) {x:Str} {c:Addr},(clo env l acc).lookup x=some c ->
  ((∃ k,(x,k)∈l/\k=.free)/\c=(env.cells.lookup x).getD 0)\/acc.lookup x=some c
 | [],acc,x,c,h=>.inr h
 | (n,k)::r,acc,x,c,h=>by
  unfold clo at h
  by_cases hk:(k==NameKind.free)=true
  .rw [if_pos hk] at h;rcases bW env r _ h with ⟨⟨k',m,e⟩,q⟩|h
   .exact .inl ⟨⟨k',List.mem_cons_of_mem _ m,e⟩,q⟩
   .rw [List.lookup_cons] at h
    by_cases hx:(x==n)=true
    .rw [hx] at h;have e:x=n:=eq_of_beq hx;subst e;exact .inl ⟨⟨k,zzT,eq_of_beq hk⟩,(Option.some.inj h).symm⟩
    .rw [Bool.not_eq_true] at hx;rw [hx] at h;exact .inr h
  .rw [if_neg hk] at h;rcases bW env r _ h with ⟨⟨k',m,e⟩,q⟩|h
   .exact .inl ⟨⟨k',List.mem_cons_of_mem _ m,e⟩,q⟩
   .exact .inr h
theorem bU (env:Env):∀ (l:List (Str×NameKind)) (acc:List (Str×Addr)) {x:Str},(∃ c,acc.lookup x=some c)->∃ c,(clo env l acc).lookup x=some c
 | [],acc,x,h=>h
 | (n,k)::r,acc,x,h=>by
  unfold clo
  split
  .refine bU env r _ ?_;rw [List.lookup_cons];cases x==n
   .exact h
   .exact ⟨_,rfl⟩
  .exact bU env r _ h
theorem bV (env:Env):∀ (l:List (Str×NameKind)) (acc:List (Str×Addr)) {x:Str},(x,NameKind.free)∈l->∃ c,(clo env l acc).lookup x=some c
 | (n,k)::r,acc,x,h=>by
  unfold clo;rcases List.mem_cons.mp h with h|h
  .cases h;rw [if_pos (by decide)];refine bU env r _ ?_;rw [List.lookup_cons,beq_self_eq_true];exact ⟨_,rfl⟩
  .split
   .exact bV env r _ h
   .exact bV env r _ h
theorem mH {env:Env} {scope:Scope} (h:∀ x,(x,NameKind.free)∈scope.names->∃ c,env.cells.lookup x=some c):closureFor scope env=pure (clo env scope.names []):=by
 simp only [closureFor]
 have key:∀ (l:List (Str×NameKind)) (acc:List (Str×Addr)),(∀ x,(x,NameKind.free)∈l->∃ c,env.cells.lookup x=some c) ->
   (forIn l acc fun x r=>match x with|(name,kind)=>if (kind==NameKind.free)=true then (do let a ← cellOf env name;pure (ForInStep.yield ((name,a)::r))) else pure (ForInStep.yield r):Sem (List (Str×Addr)))=pure (clo env l acc):=by
  intro l
  induction l with
  |nil=>intro acc _;rfl
  |cons p r ih =>
   intro acc hh;obtain ⟨n,k⟩:=p;rw [List.forIn_cons]
   by_cases hk:(k==NameKind.free)=true
   .have ek:k=.free:=eq_of_beq hk;obtain ⟨c,hc⟩:=hh n (by rw [ek];exact zzT);simp only [hk,if_true];have e1:cellOf env n=pure c:=by unfold cellOf;rw [hc]
    rw [e1];simp only [pure_bind];rw [ih _ fun x hx=>hh x (List.mem_cons_of_mem _ hx)]
    conv=>rhs;unfold clo
    rw [if_pos hk,hc]
    all_goals rfl
   .simp only [hk];rw [if_neg (by simp)];simp only [pure_bind];rw [ih _ fun x hx=>hh x (List.mem_cons_of_mem _ hx)]
    conv=>rhs;unfold clo
    rw [if_neg hk]
 have:=key scope.names [] h;simpa using this
theorem wT {env:Env}:∀ {names:List (Str×NameKind)} {x:Str} {k':NameKind},
  (names.map fun (n,k)=>if (k==NameKind.free&&env.scope.kind==.function&&env.kindOf n==some .cell) then (n,NameKind.cell) else (n,k)).lookup x=some k' ->
  ∃ k,names.lookup x=some k/\(k'=k\/(k=.free/\k'=.cell))
 | [],_,_,h=>by simp at h
 | (n,k)::r,x,k',h=>by
  rw [zzU] at h
  by_cases hc:(k==NameKind.free&&env.scope.kind==.function&&env.kindOf n==some .cell)=true
  .simp only [hc,if_true] at h;rw [List.lookup_cons] at h ⊢
   cases hx:x==n with
   |true =>
    rw [hx] at h;cases h;simp only [Bool.and_eq_true,beq_iff_eq] at hc;exact ⟨k,rfl,.inr ⟨hc.1.1,rfl⟩⟩
   |false=>rw [hx] at h;exact wT h
  .simp only [hc,if_false] at h;rw [if_neg (by simp)] at h;rw [List.lookup_cons] at h ⊢
   cases hx:x==n with
   |true=>rw [hx] at h;cases h;exact ⟨k,rfl,.inl rfl⟩
   |false=>rw [hx] at h;exact wT h
theorem qU {α:Type}:∀ {l:List (Str×α)} {x:Str} {v:α},l.lookup x=some v->(x,v)∈l
 | (n,k)::r,x,v,h=>by
  rw [List.lookup_cons] at h
  cases hx:x==n with
  |true=>rw [hx] at h;cases h;rw [eq_of_beq hx];exact zzT
  |false=>rw [hx] at h;exact List.mem_cons_of_mem _ (qU h)
theorem bT:∀ (l:List (Str×NameKind)) (n:Nat) (acc:List (Str×Addr)) {x:Str} {c:Addr},(cellsFrom n l acc).lookup x=some c->acc.lookup x=some c\/((x,NameKind.cell)∈l/\n<=c)
 | [],n,acc,x,c,h=>.inl h
 | (y,k)::r,n,acc,x,c,h=>by
  unfold cellsFrom at h
  split at h
  .rename_i hk;rcases bT r _ _ h with h|⟨h,q⟩
   .rw [List.lookup_cons] at h
    by_cases hx:(x==y)=true
    .rw [hx] at h;cases eq_of_beq hx;cases eq_of_beq hk;exact .inr ⟨zzT,Nat.le_of_eq (Option.some.inj h)⟩
    .rw [Bool.not_eq_true] at hx;rw [hx] at h;exact .inl h
   .exact .inr ⟨List.mem_cons_of_mem _ h,Nat.le_of_succ_le q⟩
  .rcases bT r _ _ h with h|⟨h,q⟩
   .exact .inl h
   .exact .inr ⟨List.mem_cons_of_mem _ h,q⟩
theorem bR:∀ (l:List (Str×NameKind)) (n:Nat) (acc:List (Str×Addr)) {x:Str},(∃ c,acc.lookup x=some c)->∃ c,(cellsFrom n l acc).lookup x=some c
 | [],n,acc,x,h=>h
 | (y,k)::r,n,acc,x,h=>by
  unfold cellsFrom
  split
  .refine bR r _ _ ?_;rw [List.lookup_cons];cases x==y
   .exact h
   .exact ⟨_,rfl⟩
  .exact bR r _ _ h
theorem zc9:∀ (l:List (Str×NameKind)) (n:Nat) (acc:List (Str×Addr)) {x:Str},(x,NameKind.cell)∈l->∃ c,(cellsFrom n l acc).lookup x=some c
 | (y,k)::r,n,acc,x,h=>by
  unfold cellsFrom;rcases List.mem_cons.mp h with h|h
  .cases h;rw [if_pos (by decide)];refine bR r _ _ ?_;rw [List.lookup_cons,beq_self_eq_true];exact ⟨_,rfl⟩
  .split
   .exact zc9 r _ _ h
   .exact zc9 r _ _ h
def Inj (n:Nat) (l:List (Str×Addr)):Prop:=(∀ x c,l.lookup x=some c->c<n)/\∀ x y c,l.lookup x=some c->l.lookup y=some c->x=y
theorem zc8:∀ (l:List (Str×NameKind)) (n:Nat) (acc:List (Str×Addr)),Inj n acc->∀ x y c,(cellsFrom n l acc).lookup x=some c->(cellsFrom n l acc).lookup y=some c->x=y
 | [],n,acc,h=>h.2
 | (z,k)::r,n,acc,h=>by
  unfold cellsFrom
  split
  .refine zc8 r (n+1) ((z,n)::acc) ⟨fun x c e=>?_,fun x y c e e'=>?_⟩
   .rw [List.lookup_cons] at e
    cases hx:x==z with
    |true=>rw [hx] at e;cases e;exact Nat.lt_succ_self _
    |false=>rw [hx] at e;exact Nat.lt_succ_of_lt (h.1 x c e)
   .rw [List.lookup_cons] at e e'
    cases hx:x==z with
    |true =>
     rw [hx] at e;cases e
     cases hy:y==z with
     |true=>rw [eq_of_beq hx,eq_of_beq hy]
     |false=>rw [hy] at e';exact absurd (h.1 y _ e') (Nat.lt_irrefl _)
    |false =>
     rw [hx] at e
     cases hy:y==z with
     |true=>rw [hy] at e';cases e';exact absurd (h.1 x _ e) (Nat.lt_irrefl _)
     |false=>rw [hy] at e';exact h.2 x y c e e'
  .exact zc8 r n acc h
theorem bS:∀ (l:List (Str×NameKind)) (h:Heap) (acc:List (Str×Addr)),(∀ x c,acc.lookup x=some c->∃ v,h.IsCell c v)->∀ x c,(cellsFrom h.objs.size l acc).lookup x=some c->∃ v,(pushCells h l).IsCell c v
 | [],h,acc,k=>k
 | (z,q)::r,h,acc,k=>by
  unfold cellsFrom pushCells
  split
  .have:=bS r (h.push { cls:=.type "cell", data:=.cell none }) ((z,h.objs.size)::acc) (fun x c e=>by
    rw [List.lookup_cons] at e
    cases hx:x==z with
    |true=>rw [hx] at e;cases e;exact ⟨_,_,Heap.get?_push_size _ rfl,rfl⟩
    |false =>
     rw [hx] at e;obtain ⟨v,o,ho,hd⟩:=k x c e;exact ⟨v,o,Heap.get?_push_of_some _ ho,hd⟩)
   rw [Heap.size_push] at this;exact this
  .exact bS r h acc k
theorem nfe {M:Model} {A:Around} {E:Value->Shared->Prop} {s:Shared} {sc:Scope} {gl:Addr} {cl:List (Str×Addr)} {qual:Str} {env:Env} {Q:Env->Shared->Prop}
  (hQ:∀ h',h'=pushCells (s.heap.push { cls:=.type "dict", data:=.dict #[] }) sc.names->h'.Ns s.heap.objs.size (fun _=>none)->(∀ b o,s.heap.get? b=some o->h'.get? b=some o) ->
   Q { scope:=sc,locals:=s.heap.objs.size,globals:=gl,cells:=cellsFrom (s.heap.objs.size+1) sc.names cl,qual:=qual,func:=none,code:=env.code,frame:=env.frame,builtins:=env.builtins } { s with heap:=h' }) :
  wpAny M A (newFunctionEnv sc gl cl [] qual none .none (some env)) Q E s:=by
 simp only [newFunctionEnv,Option.isSome_some,if_true];refine wpAny_bind (wpAny_alloc (wpAny_bind (wpAny_layCells _ (fun name kind cells=>by cases hkc:kind==NameKind.cell<;>simp [hkc]) _ _ _ _ ?_)));rw [show ({ s with heap:=s.heap.push { cls:=.type "dict", data:=.dict #[] } }:Shared).heap.objs.size=s.heap.objs.size+1 from Heap.size_push ..];rw [List.forIn_nil];refine wpAny_bind (wpAny_pure (wpAny_pure (hQ _ rfl ((Heap.Ns.new s.heap (.type "dict")).keeps (pushCells_keeps _ _)) fun b o e=>pushCells_keeps _ _ b o (Heap.get?_push_of_some _ e))))
end L2
namespace L2
open PySem PySem.Spec PyProof.Rows PySem.Calls
theorem bY (elt target iter:Expr) (ifs:List Expr) (scope:Scope) (pos:Pos) (it acc:Value) (env:Env) :
  compTurn (.ListComp elt [⟨target,iter,ifs,0⟩] scope pos) 0 it acc env=(do
   standAt iter.pos
   match ← pyNext it with
   |none=>pure (.done .next)
   |some v =>
    letOwnedTupleGo target it v
    assign target env v
    let mut ok:=true
    for c in ifs do
     if ok then ok ← isTrue c env (eval c env)
    if ok then
     (do let _ ← call (.builtin "list.append") [acc,← eval elt env])
    again (.compLoop (.ListComp elt [⟨target,iter,ifs,0⟩] scope pos) 0 it acc env)):=by rfl
section
variable {prog : Program} {w : World} {A : Around} {R : Result → Shared → Prop} {s : Shared}
theorem bX {elt target iter:Expr} {ifs:List Expr} {scope:Scope} {pos:Pos} {it acc:Value} {env:Env} (I:Nat->Shared->Prop)
  (turn:∀ n s,I n s->wpAny (model prog w) A (pyNext it) (fun r s₁=>match r with
   |none=>R (.ok .next) s₁
   |some v=>wpAny (model prog w) A (letOwnedTupleGo target it v) (fun _ s₁=>wpAny (model prog w) A (assign target env v) (fun _ s₂ =>
     wpAny (model prog w) A (forIn ifs true fun c r=>if r=true then do let ok ← isTrue c env (eval c env);pure (ForInStep.yield ok) else pure (ForInStep.yield r)) (fun ok s₃ =>
      if ok=true then wpAny (model prog w) A (eval elt env) (fun x s₄ =>
       wpAny (model prog w) A (call (.builtin "list.append") [acc,x]) (fun _ s₅=>∃ m,m<n/\I m s₅) (fun _ _=>False) s₄) (fun _ _=>False) s₃
      else ∃ m,m<n/\I m s₃) (fun _ _=>False) s₂) (fun _ _=>False) s₁) (fun _ _=>False) s₁) (fun _ _=>False) s)
  (n:Nat) (h:I n s) :
  codeAny (model prog w) A (.compLoop (.ListComp elt [⟨target,iter,ifs,0⟩] scope pos) 0 it acc env) R s:=by
 refine codeAny_loop rfl I (fun n s hI=>?_) n h;show wpAny _ A ((compTurn (.ListComp elt [⟨target,iter,ifs,0⟩] scope pos) 0 it acc env).onRaise (fun x=>do noteFrame x env;theTreesLotGoes x)) _ _ s;refine wpAny_noted ?_;rw [bY];refine wpAny_bind (wpAny_standAt (wpAny_bind (wpAny_mono (turn n s hI) (fun r s₁ h₁=>?_) fun _ _ h'=>h'.elim)))
 cases r with
 |none=>exact wpAny_pure h₁
 |some v =>
  refine wpAny_bind (wpAny_mono h₁ (fun _ s₁ h₁=>?_) fun _ _ h'=>h'.elim);refine wpAny_bind (wpAny_mono h₁ (fun _ s₂ h₂=>wpAny_bind (wpAny_mono h₂ (fun ok s₃ h₃=>?_) fun _ _ h'=>h'.elim)) fun _ _ h'=>h'.elim)
  cases ok with
  |false=>exact wpAny_pure ⟨rfl,h₃⟩
  |true =>
   exact wpAny_bind (wpAny_bind (wpAny_mono h₃ (fun x s₄ h₄=>wpAny_bind (wpAny_mono h₄ (fun _ s₅ h₅=>wpAny_pure (wpAny_pure ⟨rfl,h₅⟩)) fun _ _ h'=>h'.elim)) fun _ _ h'=>h'.elim))
end
structure IsBlock (X:Cx) (N:List Str) (sc:Scope) (X':Cx):Prop where
 prog:X'.prog=X.prog
 w:X'.w=X.w
 K:X'.K=X.K
 mg:X'.mg=X.mg
 base:X'.base=X.base
 A:X'.A=X.A
 calm:X'.calm=X.calm
 N:X'.N=N
 scope:X'.env.scope=relabel sc X.env
 xe:X'.xe=fun _ _=>False
 fn:∀ x,sc.names.lookup x=some .cell->X'.fn x=true
def ocl (X:Cx) (sc:Scope) (C:Addr):List (Str×Addr):=cellsFrom (C+1) sc.names (clo X.env sc.names [])
def kC (X:Cx) (N:List Str) (sc:Scope) (C:Addr) (s2:Shared) (H2:Hp) (fp:List Addr) (pins:List (Addr×Obj)):Cx where
 prog:=X.prog
 w:=X.w
 K:=X.K
 mg:=X.mg
 base:=X.base
 A:=X.A
 N:=N
 s₀:=s2
 H₀:=H2
 env:=compEnvC sc (ocl X sc C) C X.env
 outer:=X.stack
 stack:=X.stack
 ex:=fp
 fn:=fun x=>sc.names.lookup x==some .cell
 calm:=X.calm
 pn:=X.pn++pins
 xe:=fun _ _=>False
theorem zbt (X:Cx) (N:List Str) (sc:Scope) (C:Addr) (s2:Shared) (H2:Hp) (fp:List Addr) (pins:List (Addr×Obj)):IsBlock X N sc (kC X N sc C s2 H2 fp pins) :=
 ⟨rfl,rfl,rfl,rfl,rfl,rfl,rfl,rfl,rfl,rfl,fun x h=>by show (sc.names.lookup x==some .cell)=true;rw [h];rfl⟩
structure BlkSc (X:Cx) (sc:Scope):Prop where
 kind:sc.kind=.function
 cells:∀ x,(x,NameKind.cell)∈sc.names->sc.names.lookup x=some .cell
 frees:∀ x,(x,NameKind.free)∈sc.names->sc.names.lookup x=some .free
 free:∀ x,(x,NameKind.free)∈sc.names->X.env.kindOf x=some .cell\/X.env.kindOf x=some .free
 names:∀ y∈sc.names,y.2=.local->sc.names.lookup y.1=some .local
section
variable {X : Cx} {pins : List (Addr × Obj)} {σ : St} {H2 : Hp} {s2 : Shared} {sc : Scope} {N : List Str} {C : Addr} {fp : List Addr}
theorem vA (ok:X.Ok) (B:BlkSc X sc) {x:Str} {c:Addr} (h:(clo X.env sc.names []).lookup x=some c):X.env.cells.lookup x=some c/\sc.names.lookup x=some .free:=by
 rcases bW _ _ _ h with ⟨⟨k,m,e⟩,q⟩|h
 .subst e;have hf:=B.free x m;obtain ⟨c',hc'⟩:=ok.has x hf;rw [hc'] at q;exact ⟨by rw [hc',q];rfl,B.frees x m⟩
 .simp at h
theorem vM (ok:X.Ok) (B:BlkSc X sc) {x:Str} {c:Addr} (h:(ocl X sc C).lookup x=some c):(X.env.cells.lookup x=some c/\sc.names.lookup x=some .free)\/(sc.names.lookup x=some .cell/\C<c):=by
 rcases bT _ _ _ h with h|⟨h,q⟩
 .exact .inl (vA ok B h)
 .exact .inr ⟨B.cells x h,q⟩
theorem B_has (B:BlkSc X sc) {x:Str} (h:(relabel sc X.env).names.lookup x=some .cell\/(relabel sc X.env).names.lookup x=some .free):(x,NameKind.free)∈sc.names\/(x,NameKind.cell)∈sc.names:=by
 rcases h with h|h
 .obtain ⟨k,hk,e⟩:=wT h;rcases e with e|⟨e,_⟩
  .subst e;exact .inr (qU hk)
  .subst e;exact .inl (qU hk)
 .obtain ⟨k,hk,e⟩:=wT h;rcases e with e|⟨e,z⟩
  .subst e;exact .inl (qU hk)
  .cases z
theorem zcm {x:Str} (h:(x,NameKind.free)∈sc.names\/(x,NameKind.cell)∈sc.names):∃ c,(ocl X sc C).lookup x=some c:=by
 rcases h with h|h
 .exact bR _ _ _ (bV _ _ _ h)
 .exact zc9 _ _ _ h
theorem zda (I2:Inv X pins σ H2 s2) {x:Str} {c:Addr} (h:X.env.cells.lookup x=some c):c<s2.heap.objs.size:=by
 obtain ⟨v,o,e,_⟩:=I2.cell x c h;exact Heap.lt_size e
theorem mB (I2:Inv X pins σ H2 s2) (B:BlkSc X sc) (f2:∀ b∈fp,kR X pins H2 b) (hfp:∀ b∈fp,b<s2.heap.objs.size) (hC:s2.heap.objs.size<=C):(kC X N sc C s2 H2 fp pins).Ok where
 mod:=I2.ok.mod
 kind:=B.kind
 glob:=I2.ok.glob
 blt:=I2.ok.blt
 above:=hC
 inj:=zc8 _ _ _ ⟨fun x c h=>Nat.lt_succ_of_lt (Nat.lt_of_lt_of_le (zda I2 (vA I2.ok B h).1) hC),fun x y c hx hy=>I2.ok.inj x y c (vA I2.ok B hx).1 (vA I2.ok B hy).1⟩
 has:=fun x h=>zcm (B_has B h)
 cab:=fun x c h e=>by
  rcases vM I2.ok B e with ⟨_,q⟩|⟨_,q⟩
  .have h:(sc.names.lookup x==some .cell)=true:=h;rw [q] at h;cases h
  .exact Nat.le_trans hC (Nat.le_of_lt q)
 hd:=I2.ok.hd
 frames:=I2.ok.frames
 stk:=.inl rfl
 exf:=fun b hb=>⟨Nat.ne_of_lt (Nat.lt_of_lt_of_le (hfp b hb) hC),fun x c h=>by
  rcases vM I2.ok B h with ⟨q,_⟩|⟨_,q⟩
  .exact (f2 b hb).2.2.2.2.1 x c q
  .exact Nat.ne_of_gt (Nat.lt_trans (Nat.lt_of_lt_of_le (hfp b hb) hC) q)⟩
 bs:=I2.bs
 bsz:=Nat.le_trans I2.ok.bsz I2.sz
 noex:=fun b o e hb=>by
  rcases (f2 b hb).2.2.2.1 with h|h
  .exact I2.ok.noex b o e h
  .exact absurd (Nat.lt_of_lt_of_le (Heap.lt_size e) (Nat.le_trans I2.ok.bsz h)) (Nat.lt_irrefl _)
 exfs:=fun b hb hm=>by
  rcases List.mem_cons.mp (I2.stkSub b hm) with h|h
  .exact (f2 b hb).2.1 h
  .exact (f2 b hb).2.2.1 h
 funs:=I2.stack
 frf:=I2.stkFree
theorem zde {s4:Shared} {τ:St} {m:Str->Option Value} (I2:Inv X pins σ H2 s2) (B:BlkSc X sc) (f2:∀ b∈fp,kR X pins H2 b) (hfp:∀ b∈fp,b<s2.heap.objs.size) (hC:s2.heap.objs.size<=C)
  (ho:s4.os=s2.os) (hg:s4.gens=s2.gens) (keep:∀ b o,s2.heap.get? b=some o->s4.heap.get? b=some o) (hcs:∀ x c,(ocl X sc C).lookup x=some c->∃ v,s4.heap.IsCell c v) (hns:s4.heap.Ns C m) (hl:τ.length=N.length)
  (cap:∀ (i:Nat) (x:Str) (v:V),N[i]?=some x->τ[i]?=some (some v)->Vis (relabel sc X.env) x->sc.names.lookup x=some .free/\∃ j:Nat,X.N[j]?=some x/\σ[j]?=some (some v)) :
  Inv (kC X N sc C s2 H2 fp pins) [] τ H2 s4:=by
 refine ⟨mB I2 B f2 hfp hC,ho,by rw [hg];exact I2.bare,Un.kept keep,⟨m,hns,fun i x v hN hτ hv=>?_⟩,hcs,I2.hok.fresh hC,fun x c h=>?_,fun p hp=>?_,I2.hok.kept keep,hl⟩
 .obtain ⟨hnl,j,hj,hσ⟩:=cap i x v hN hτ hv;have hmem:=qU hnl;have hf:=B.free x hmem
  have hkind:(relabel sc X.env).names.lookup x=some .cell\/(relabel sc X.env).names.lookup x=some .free:=by
   rcases hv with h|h|h
   .obtain ⟨k,hk,e⟩:=wT h;rw [hnl] at hk;cases hk;rcases e with e|⟨_,e⟩<;>cases e
   .exact .inl h
   .exact .inr h
  obtain ⟨m0,_,hl0⟩:=I2.loc;obtain ⟨u,r,lk⟩:=hl0 j x v hj hσ (hf.elim (fun h=>.inr (.inl h)) fun h=>.inr (.inr h));refine ⟨u,r,.inr ⟨hkind,?_⟩⟩;rcases lk with ⟨hk,_⟩|⟨_,c,hc,hcell⟩
  .rw [hk] at hf;rcases hf with hf|hf<;>cases hf
  .obtain ⟨c',hc'⟩:=zcm (X:=X) (C:=C) (.inl hmem);rcases vM I2.ok B hc' with ⟨e,_⟩|⟨e,_⟩
   .rw [hc] at e;cases e;refine ⟨c,hc',?_⟩;obtain ⟨o,e1,r1⟩:=hcell;exact ⟨o,keep _ _ e1,r1⟩
   .rw [hnl] at e;cases e
 .rcases vM I2.ok B h with ⟨e,_⟩|⟨_,e⟩
  .exact I2.freeC x c e
  .exact I2.hok.fresh (Nat.le_trans hC (Nat.le_of_lt e))
 .have hp':p∈X.pn++pins:=by simpa [kC] using hp
  obtain ⟨q1,q2,q3,q4,q5⟩:=I2.pin p hp';refine ⟨keep _ _ q1,q2,Nat.ne_of_lt (Nat.lt_of_lt_of_le (Heap.lt_size q1) hC),fun z=>?_,q5⟩;rcases List.mem_cons.mp (I2.stkSub _ z) with h|h
  .exact q3 h
  .exact q4 h
end
theorem uL.adopt {P:Program} {w:World} {H:Hp} {h h':Heap} {a:Addr} {o:HO} (x:uL P w H h) (k:∀ b u v,H b=some v->h.get? b=some u->h'.get? b=some u) (hn:H a=none) (new:xG P w (xK H a o) h' a o):uL P w (xK H a o) h':=fun b u e=>by
 by_cases hb:b=a
 .subst hb;rw [wY] at e;cases e;exact new
 .rw [yV hb] at e;refine (x b u e).stay (fun c v hc q=>?_) (fun c q=>by rw [yV (yK q hn)];exact q) fun c xs q=>by rw [yV (yK q hn)];exact q
  rcases hc with rfl|hc
  .exact k _ _ _ e q
  .exact k _ _ _ hc q
end L2
namespace L2
open PySem PySem.Spec PyProof.Rows PySem.Calls
def PTs (X:Cx) (ifs:List Expr) (t:TT):Prop :=
 ∀ (pins:List (Addr×Obj)) (s:Shared) (σ:St) (H:Hp) (Q:Bool->Hp->Prop),Inv X pins σ H s->t σ H Q ->
  wpAny (model X.prog X.w) X.A (forIn ifs true fun c r=>if r=true then do let ok ← isTrue c X.env (eval c X.env);pure (ForInStep.yield ok) else pure (ForInStep.yield r)) (TP X pins σ Q) X.xe s
theorem zfM {X:Cx}:PTs X [] (fun _ H Q=>Q true H):=fun _ _ _ H _ I h=>wpAny_tests_nil ⟨H,I,h⟩
theorem zfL {X:Cx} {c:Expr} {t:TT} (h:PT X c t):PTs X [c] t:=fun pins s σ H Q I q=>wpAny_tests_one (h pins s σ H Q I q)
def tLCb (J:It) (τ:St) (g:TG) (tc:TT) (te:TE) (Qf:List V->Hp->Prop) (H1:Hp):Prop :=
 ∃ Pv:Nat->Nat->St->List V->Hp->Prop,(∃ m,Pv 0 m τ [] H1)/\∀ i m τ acc H,Pv i m τ acc H ->
  (J.stop i H/\Qf acc H) \/
  (J.go i H/\acc.length<sizeLine/\∀ x H',J.yld i H x H'->g x τ H' fun σ2 H2=>tc σ2 H2 fun b H3=>if b=true then te σ2 H3 fun v H4=>∃ m',m' < m/\Pv (i+1) m' σ2 (acc++[v]) H4 else ∃ m',m' < m/\Pv (i+1) m' σ2 acc H3)
structure Off (X:Cx) (pins:List (Addr×Obj)) (C:Addr):Prop where
 ne:C≠X.env.locals
 ge:X.s₀.heap.objs.size<=C
 cl:∀ x c,X.env.cells.lookup x=some c->c≠C
 pn:∀ p∈X.pn++pins,p.1≠C
theorem Off.turned {X:Cx} {pins:List (Addr×Obj)} {C:Addr} {σ:St} {H:Hp} {s:Shared} {h':Heap} (o:Off X pins C) (I:Inv X pins σ H s) (hn:H C=none) (k:Heap.SameBut C s.heap h'):Inv X pins σ H { s with heap:=h' } :=
 I.turned (t':=s.toks) (fun b u hb e=>k.extBut b u hb e) hn o.ne (.inr o.ge) o.cl o.pn
theorem Inv.off {X:Cx} {pins:List (Addr×Obj)} {σ:St} {H:Hp} {s:Shared} {C:Addr} (I:Inv X pins σ H s) (hC:s.heap.objs.size<=C):Off X pins C :=
 ⟨(Nat.ne_of_lt (Nat.lt_of_lt_of_le I.lt hC)).symm,Nat.le_trans I.sz hC,fun x c h=>by
  obtain ⟨v,o,e,_⟩:=I.cell x c h;exact Nat.ne_of_lt (Nat.lt_of_lt_of_le (Heap.lt_size e) hC),fun p hp=>Nat.ne_of_lt (Nat.lt_of_lt_of_le (Heap.lt_size (I.pin p hp).1) hC)⟩
abbrev kH (its:List Value) (n:Nat):Obj:={ cls:=.type "list", data:=.seq its.toArray n }
set_option maxHeartbeats 8000000 in
theorem zcz {X:Cx} {pins:List (Addr×Obj)} {σ τ:St} {H2:Hp} {s2:Shared} {sc:Scope} {N:List Str} {fp:List Addr} {it:Addr} {tn:Nat->Heap->Prop} {J:It} {tg iter elt:Expr} {ifs:List Expr} {pos:Pos} {g:TG} {tc:TT} {te:TE}
  {Qf:List V->Hp->Prop} {RR:Value->Addr->Result->Shared->Prop} {E:Value->Shared->Prop}
  (hc:X.calm=true) (I2:Inv X pins σ H2 s2) (T:Turn X.prog X.w X.K tg J fp it tn) (t0:tn 0 s2.heap) (f2:∀ b∈fp,kR X pins H2 b) (B:BlkSc X sc) (hl:τ.length=N.length)
  (cap:∀ (i:Nat) (x:Str) (v:V),N[i]?=some x->τ[i]?=some (some v)->Vis (relabel sc X.env) x->sc.names.lookup x=some .free/\∃ j:Nat,X.N[j]?=some x/\σ[j]?=some (some v))
  (hg:∀ X',IsBlock X N sc X'->PG X' tg g) (ht:∀ X',IsBlock X N sc X'->PTs X' ifs tc) (he:∀ X',IsBlock X N sc X'->PE X' elt te)
  (h:tLCb J τ g tc te Qf H2)
  (fin:∀ (D C:Addr) (acc:List V) (H':Hp) (s':Shared) (m:Str->Option Value),D≠C->H' D=none->H' C=none->Off X pins C->Inv X pins σ (xK H' D (.lst acc)) s'->s'.heap.Ns C m->Qf acc H'->RR (.ref D) C (.ok .next) s') :
  wpAny (model X.prog X.w) X.A (newList []) (fun acc s₃=>wpAny (model X.prog X.w) X.A (newFunctionEnv sc X.env.globals (clo X.env sc.names []) [] X.env.qual none .none (some X.env)) (fun cenv s₄ =>
   codeAny (model X.prog X.w) X.A (.compStart (.ListComp elt [⟨tg,iter,ifs,0⟩] sc pos) 0 (.ref it) acc { cenv with scope:=relabel sc X.env }) (RR acc cenv.locals) s₄) E s₃) E s2:=by
 refine wpAny_newObj_type (nfe fun h₁ heq hns₁ hk₁=>?_);dsimp only at heq hns₁ hk₁ ⊢;generalize hH2:s2.heap.push { cls:=.type "list", dict:=none,data:=.seq ([]:List Value).toArray }=G2 at heq hns₁ hk₁ ⊢
 have hcs:∀ x c,(ocl X sc G2.objs.size).lookup x=some c->∃ v,h₁.IsCell c v:=fun x c e=>by
  rw [heq];refine bS sc.names (G2.push { cls:=.type "dict", data:=.dict #[] }) (clo X.env sc.names []) (fun y d q=>?_) x c (by rw [Heap.size_push];exact e);obtain ⟨v,o,ho,hd⟩:=I2.cell y d (vA I2.ok B q).1;exact ⟨v,o,Heap.get?_push_of_some _ (hH2▸Heap.get?_push_of_some _ ho),hd⟩
 have hC:G2.objs.size=s2.heap.objs.size+1:=by rw [← hH2,Heap.size_push]
 have hDC:s2.heap.objs.size≠G2.objs.size:=by rw [hC];exact Nat.ne_of_lt (Nat.lt_succ_self _)
 have hCle:s2.heap.objs.size<=G2.objs.size:=by rw [hC];exact Nat.le_succ _
 have below:∀ b,b<s2.heap.objs.size->b≠G2.objs.size/\b≠s2.heap.objs.size:=fun b hb=>⟨by rw [hC];exact Nat.ne_of_lt (Nat.lt_succ_of_lt hb),Nat.ne_of_lt hb⟩
 have hfp:∀ b∈fp,b<s2.heap.objs.size:=fun b hb=>by
  obtain ⟨o,e,_⟩:=T.obj _ _ t0 b hb;exact Heap.lt_size e
 have hDf:∀ b∈fp,b≠s2.heap.objs.size:=fun b hb=>(below b (hfp b hb)).2;have hCf:∀ b∈fp,b≠G2.objs.size:=fun b hb=>(below b (hfp b hb)).1;have old:∀ b o,s2.heap.get? b=some o->h₁.get? b=some o:=fun b o e=>hk₁ b o (hH2▸Heap.get?_push_of_some _ e);have hacc:h₁.get? s2.heap.objs.size=some (kH [] 0):=hk₁ _ _ (hH2▸Heap.get?_push_size _ rfl)
 have fresh:∀ a,s2.heap.objs.size<=a->s2.heap.get? a=none:=fun a ha=>by
  cases e:s2.heap.get? a with
  |none=>rfl
  |some o'=>exact absurd (Heap.lt_size e) (Nat.not_lt.mpr ha)
 have hsub:∀ b∈frs X.stack,b<s2.heap.objs.size:=fun b hb=>by
  obtain ⟨_,o,e,_⟩:=I2.stack.mem hb;exact Heap.lt_size e
 obtain ⟨Pv,⟨m0,p0⟩,step⟩:=h;generalize hD:s2.heap.objs.size=D at *;generalize hCe:G2.objs.size=C at *;have hXb:IsBlock X N sc (kC X N sc C s2 H2 fp pins):=zbt ..;generalize hXd:kC X N sc C s2 H2 fp pins=X' at hXb
 have J0:Inv X' [] τ H2 { s2 with heap:=h₁ }:=by
  rw [← hXd];exact zde I2 B f2 (by rw [hD];exact hfp) (by rw [hD];exact hCle) rfl rfl old hcs hns₁ hl cap
 have offD:Off X' [] D:=by
  rw [← hXd];refine ⟨hDC,by show s2.heap.objs.size<=D;rw [hD];exact zzR _,fun x c hx=>?_,fun p hp=>?_⟩
  .rcases vM I2.ok B hx with ⟨q,_⟩|⟨_,q⟩
   .have:=zda I2 q;rw [hD] at this;exact Nat.ne_of_lt this
   .exact Nat.ne_of_gt (Nat.lt_of_le_of_lt hCle q)
  .have hp':p∈X.pn++pins:=by simpa [kC] using hp
   have:=Heap.lt_size (I2.pin p hp').1;rw [hD] at this;exact Nat.ne_of_lt this
 have offC:Off X pins C:=I2.off (by rw [hD];exact hCle)
 have fpok:∀ {H':Hp} {ob:Obj},(∀ b∈fp,H' b=none)->∀ b∈fp,kR X' [(D,ob)] H' b:=fun {H' ob} hn b hb=>by
  rw [← hXd];refine ⟨hn b hb,hCf b hb,fun z=>(mB (N:=N) I2 B f2 (by rw [hD];exact hfp) (by rw [hD];exact hCle)).exfs b hb z,.inl hb,fun x c hx=>(mB (N:=N) I2 B f2 (by rw [hD];exact hfp) (by rw [hD];exact hCle)).exf b hb |>.2 x c hx,fun p hp=>?_⟩;rcases List.mem_append.mp hp with hp|hp
  .exact (f2 b hb).2.2.2.2.2 p hp
  .rw [zzO hp];exact (hDf b hb).symm
 have Dfs:D∉X'.fs:=by
  rw [← hXd];intro z;exact Nat.lt_irrefl _ (hsub D z)
 have pinD:∀ {H':Hp} {τ':St} {s':Shared} {its:List Value} {n:Nat},Inv X' [] τ' H' s'->H' D=none->s'.heap.get? D=some (kH its n)->Inv X' [(D,kH its n)] τ' H' s':=fun {H' τ' s' its n} I hn e =>
  I.pins_of fun p hp=>by
   rw [zzO hp];exact ⟨e,hn,by rw [← hXd];exact hDC,Dfs,fun v z=>nomatch z⟩
 have loop:∀ s₃:Shared,s₃={ s2 with heap:=h₁ } ->
   codeAny (model X.prog X.w) X.A (.compLoop (.ListComp elt [⟨tg,iter,ifs,0⟩] sc pos) 0 (.ref it) (.ref D) (compEnvC sc (ocl X sc C) C X.env)) (RR (.ref D) C) s₃:=by
  rintro s₃ rfl;have tn0:tn 0 h₁:=T.keep _ _ _ t0 fun b _ o e=>old b o e;have fr0:∀ b∈fp,H2 b=none:=fun b hb=>(f2 b hb).1;have Df0:H2 D=none:=I2.hok.fresh (by rw [hD];exact zzR _);have eX:X'.env=compEnvC sc (ocl X sc C) C X.env:=by rw [← hXd];rfl
  have ep:X'.prog=X.prog:=hXb.prog;have ew:X'.w=X.w:=hXb.w;have eA:X'.A=X.A:=hXb.A;refine bX (fun k s'=>∃ i τ' acc H' its n,Inv X' [] τ' H' s'/\tn i s'.heap/\(∀ b∈fp,H' b=none)/\H' D=none/\s'.heap.get? D=some (kH its n)/\zD acc its/\acc.length<=sizeLine/\Pv i k τ' acc H') ?_ m0 ⟨0,τ,[],H2,[],0,J0,tn0,fr0,Df0,hacc,.nil,Nat.zero_le _,p0⟩;rintro k s3 ⟨i,τ3,acc,H3,its,n,I3,st3,fr3,D3,o3,v3,lenA,p3⟩;have I3':=pinD I3 D3 o3;rcases step i k τ3 acc H3 p3 with ⟨stop,qf⟩|⟨go,hsz,turn⟩
  .have td:=T.done X' ep ew hXb.K (by rw [hXb.calm];exact hc) i _ s3 τ3 H3 (fun _ _=>False) I3' (fpok fr3) st3 stop;rw [eA] at td;refine yF td fun r s4 ⟨hr,I4⟩=>?_;subst hr;have o4:=(I4.pin (D,kH its n) (List.mem_append_right _ (List.mem_singleton.mpr rfl))).1;obtain ⟨m4,hn4,_⟩:=I4.loc;rw [eX] at hn4;refine fin D C acc H3 s4 m4 hDC D3 ?_ offC ?_ hn4 qf
   .have:=I4.free;rw [eX] at this;exact this
   .have base:Un (frs X.stack) fp H2 H3 s2.heap s4.heap:=by have:=I4.base;rw [← hXd] at this;exact this
    have hb:∀ b o,s2.heap.get? b=some o->b≠D:=fun b o e=>by have:=Heap.lt_size e;rw [hD] at this;exact Nat.ne_of_lt this
    refine I2.call' (ch:=fp) (by have:=I4.os;rw [← hXd] at this;exact this) ⟨base.keep,base.slot,fun b o e n' hx=>?_,base.there,fun b xs e=>?_,fun b o u e=>?_,fun b ps e=>?_⟩ ?_ I4.bare ?_
    .rw [yV (hb b o e)];exact base.free b o e n' hx
    .rw [yV (yK (base.tups b xs e) D3)];exact base.tups b xs e
    .rw [yV (yK (base.frzs b o u e) D3)];exact base.frzs b o u e
    .obtain ⟨mo,e'⟩:=base.tbls b ps e;exact ⟨mo,by rw [yV (yK e' D3)];exact e'⟩
    .have hk:=I4.hok;rw [ep,ew] at hk;exact hk.adopt (fun b u v _ q=>q) D3 ⟨lenA,its,n,v3,o4⟩
    .intro b hb';obtain ⟨q1,q2,q3,q4,q5,q6⟩:=f2 b hb';exact ⟨q4,q2,q5,q6⟩
  .have td:=T.item X' ep ew hXb.K (by rw [hXb.calm];exact hc) i _ s3 τ3 H3 (fun _ _=>False) I3' (fpok fr3) st3 go;rw [eA] at td;refine yF td fun r s4 ⟨u,hr,h4⟩=>?_;subst hr;refine yF h4 fun _ s5 ⟨x,H5,I5,r5,y5,st5,fr5⟩=>?_;have I5':=I5.pinned (fpok fr5) (T.obj _ _ st5);have q1:=hg X' hXb _ s5 τ3 H5 x u _ I5' r5 (turn x H5 y5);rw [ep,ew,eA,eX,hXb.xe] at q1;refine yF q1 fun _ s6 ⟨σ6,H6,I6,q6⟩=>?_;have q2:=ht X' hXb _ s6 σ6 H6 _ I6 q6;rw [ep,ew,eA,eX,hXb.xe] at q2;refine yF q2 fun b s7 ⟨H7,I7,q7⟩=>?_
   have back:∀ {H8:Hp} {s8:Shared},Inv X' ([(D,kH its n)]++sF fp s5.heap) σ6 H8 s8->Inv X' [] σ6 H8 s8/\tn (i+1) s8.heap/\(∀ b∈fp,H8 b=none)/\H8 D=none/\s8.heap.get? D=some (kH its n):=fun {H8 s8} I8=>by
    have pp:∀ p,p∈[(D,kH its n)]++sF fp s5.heap->_:=fun p hp=>I8.pin p (List.mem_append_right _ hp);refine ⟨I8.pins_of (pins':=[]) (fun p hp=>nomatch hp),T.keep _ _ _ st5 fun b hb o e=>(pp (b,o) (List.mem_append_right _ (kI hb e))).1,fun b hb=>?_,?_,?_⟩
    .obtain ⟨o,e,d⟩:=T.obj _ _ st5 b hb;exact (pp (b,o) (List.mem_append_right _ (kI hb e))).2.1
    .exact (pp (D,kH its n) (List.mem_append_left _ (List.mem_singleton.mpr rfl))).2.1
    .exact (pp (D,kH its n) (List.mem_append_left _ (List.mem_singleton.mpr rfl))).1
   cases b with
   |false =>
    rw [if_neg (by decide)] at q7;rw [if_neg (by decide)];obtain ⟨m',hm,p'⟩:=q7;obtain ⟨b1,b2,b3,b4,b5⟩:=back I7;exact ⟨m',hm,i+1,σ6,acc,H7,its,n,b1,b2,b3,b4,b5,v3,lenA,p'⟩
   |true =>
    rw [if_pos rfl] at q7;rw [if_pos rfl];have q3:=he X' hXb _ s7 σ6 H7 _ I7 q7;rw [ep,ew,eA,eX,hXb.xe] at q3;refine yF q3 fun y s8 ⟨v,H8,I8,r8,m',hm,p'⟩=>?_;obtain ⟨b1,b2,b3,b4,b5⟩:=back I8;refine append_at (hsz:=by show its.toArray.size<=sizeLine;rw [zzS,← v3.length];exact Nat.le_of_lt hsz) b5 fun h₅ hs₅ hD₅=>?_;refine ⟨m',hm,i+1,σ6,acc++[v],H8,its++[y],n+1,offD.turned b1 b4 hs₅,T.keep _ _ _ b2 fun b hb o e=>hs₅.extBut b o (hDf b hb) e,b3,b4,?_,v3.append (.cons r8 .nil),by rw [zzW];exact hsz,p'⟩;show h₅.get? D=_;rw [hD₅,List.push_toArray]
 exact codeAny_compStart_list (loop _ rfl) (T.self _ 0 _ _ _ (T.keep _ _ _ t0 fun b _ o e=>old b o e) (loop _ rfl))
def tLC (wi:TI) (cap:St->St) (g:TG) (tc:TT) (te:TE):TE:=fun σ H Q=>wi σ H fun J H1=>tLCb J (cap σ) g tc te (fun acc H'=>∀ p,H' p=none->Q (.ref p) (xK H' p (.lst acc))) H1
section
variable {X : Cx} {sc : Scope} {N : List Str} {tg iter elt : Expr} {ifs : List Expr} {pos : Pos} {wi : TI} {g : TG} {tc : TT} {te : TE} {cap : St → St}
def Caps (X:Cx) (sc:Scope) (N:List Str) (cap:St->St):Prop:=∀ σ:St,σ.length=X.N.length->(cap σ).length=N.length /\
 ∀ (i:Nat) (x:Str) (v:V),N[i]?=some x->(cap σ)[i]?=some (some v)->Vis (relabel sc X.env) x->sc.names.lookup x=some .free/\∃ j:Nat,X.N[j]?=some x/\σ[j]?=some (some v)
theorem pe_lc (hc:X.calm=true) (hi:PI X tg iter wi) (B:BlkSc X sc) (hcap:Caps X sc N cap)
  (hg:∀ X',IsBlock X N sc X'->PG X' tg g) (ht:∀ X',IsBlock X N sc X'->PTs X' ifs tc) (he:∀ X',IsBlock X N sc X'->PE X' elt te)
  (hs:∀ x,foldedSetIterable iter X.env x=pure x:=by intro _;rfl):PE X (.ListComp elt [⟨tg,iter,ifs,0⟩] sc pos) (tLC wi cap g tc te):=by
 intro pins s σ H Q I h;rw [eval_ListComp];refine wpAny_comprehension_free (use:=none) rfl hs (mH fun x hx=>I.ok.has x (B.free x hx)) B.kind B.names (yF (hi pins s σ H _ I h) fun v s1 h1=>yF h1 fun itv s2 h2=>?_);obtain ⟨it,fp,tn,J,H2,e,I2,T,st2,f2,q⟩:=h2;subst e;obtain ⟨cl,cc⟩:=hcap σ I.len;refine zcz (RR:=fun acc C=>compPost (model X.prog X.w) X.A X.xe none (EP X pins σ Q) acc C) hc I2 T st2 f2 B cl cc hg ht he q fun D C acc H' s' m hDC hD hC off I' hn qf=>?_;refine ⟨m,hn,fun h' hk=>⟨.ref D,_,off.turned I' (by rw [yV hDC.symm];exact hC) hk,rfl,qf D hD⟩⟩
theorem zdP {i:Nat} {y:Str} {py spos:Pos} (hc:X.calm=true) (hi:PI X tg iter wi) (B:BlkSc X sc) (hcap:Caps X sc N cap)
  (hg:∀ X',IsBlock X N sc X'->PG X' tg g) (ht:∀ X',IsBlock X N sc X'->PTs X' ifs tc) (he:∀ X',IsBlock X N sc X'->PE X' elt te)
  (hN:X.N.Nodup) (hy:X.N[i]?=some y) (hx:Loc X.env.scope y) (hf:X.fn y=true\/X.env.scope.names.lookup y=some .local)
  (hsw:swapsWith (.ListComp elt [⟨tg,iter,ifs,0⟩] sc pos) (some (.Name y py)) spos.line X.env=pure true)
  (hs:∀ x,foldedSetIterable iter X.env x=pure x:=by intro _;rfl):PS X (.Assign [.Name y py] (.ListComp elt [⟨tg,iter,ifs,0⟩] sc pos) spos) (tAsg (tLC wi cap g tc te) (zeo i)):=by
 intro pins s σ H D I h;rw [exec_Assign_Name_used _ _ _ _ hsw];refine wpAny_bind (wpAny_standAt (wpAny_bind ?_));show wpAny _ X.A (do let _ ← comprehension (.ListComp elt [⟨tg,iter,ifs,0⟩] sc pos) sc X.env _ (newList []) false (eval iter X.env) (some (assign (.Name y py) X.env))) _ _ s
 refine wpAny_bind (wpAny_mono (wpAny_comprehension_free (use:=some (assign (.Name y py) X.env)) (Q:=fun _ s'=>SP X pins D .next s') rfl hs (mH fun x hx=>I.ok.has x (B.free x hx)) B.kind B.names
  (yF (hi pins s σ H _ I h) fun v s1 h1=>yF h1 fun itv s2 h2=>?_)) (fun _ s' hq=>wpAny_pure (wpAny_pure hq)) fun _ _ e=>e)
 obtain ⟨it,fp,tn,J,H2,e,I2,T,st2,f2,q⟩:=h2;subst e;obtain ⟨cl,cc⟩:=hcap σ I.len;refine zcz (RR:=fun acc C=>compPost (model X.prog X.w) X.A X.xe (some (assign (.Name y py) X.env)) (fun _ s'=>SP X pins D .next s') acc C) hc I2 T st2 f2 B cl cc hg ht he q fun D' C acc H' s' m hDC hD hC off I' hn qf=>?_;show wpAny _ X.A (assign (.Name y py) X.env (.ref D')) _ _ _;refine wpAny_assign_Name (gE I' hN hy hx (v:=.ref D') rfl (fun s'' I'' hsm=>?_) hf);obtain ⟨a,hsb,ha⟩:=hsm
 have hCa:C≠a:=by
  rcases ha with ha|ha
  .rw [ha];exact off.ne
  .exact (off.cl y a ha).symm
 refine ⟨m,hn.sameBut hsb hCa,fun h' hk=>⟨_,_,off.turned I'' (by rw [yV hDC.symm];exact hC) hk,qf D' hD⟩⟩
end
end L2
namespace L3
open PySem PySem.Spec PyProof.Rows L2 PySem.SeqAt
mutual
def kQ:W->W->Bool
 | .non,.non=>true
 | .bl a,.bl b=>a==b
 | .bl a,.int j=>(if a then 1 else 0)==j
 | .int i,.bl b=>i==(if b then 1 else 0)
 | .int i,.int j=>i==j
 | .str x,.str y=>x==y
 | .tup xs,.tup ys=>qS xs ys
 |_,_=>false
def qS:List W->List W->Bool
 | [],[]=>true
 |x::xs,y::ys=>kQ x y&&qS xs ys
 |_,_=>false
end
mutual
def uJ:W->Bool
 | .ref _=>false
 | .ty _=>false
 | .lsf _=>false
 | .exc _ _ _=>false
 | .dcf _ _=>false
 | .tup ws=>wH ws
 |_=>true
def wH:List W->Bool
 | []=>true
 |w::ws=>uJ w&&wH ws
end
mutual
def dep:W->Nat
 | .tup ws=>jX ws+1
 |_=>0
def jX:List W->Nat
 | []=>0
 |w::ws=>max (dep w) (jX ws)
end
theorem wN {w:W} {ws:List W}:wH (w::ws)=true↔uJ w=true/\wH ws=true:=by simp [wH]
section
variable {X : Cx} {pins : List (Addr × Obj)} {σ : L2.St} {H : Hp} {s : Shared}
theorem W.ind {P:W->Prop} (non:P .non) (bl:∀ b,P (.bl b)) (int:∀ i,P (.int i)) (str:∀ x,P (.str x)) (ty:∀ n,P (.ty n)) (ref:∀ a,P (.ref a)) (tup:∀ ws,(∀ w∈ws,P w)->P (.tup ws)) (lsf:∀ ws,P (.lsf ws)) (exc:∀ C ns ws,P (.exc C ns ws)) (dcf:∀ ks ws,P (.dcf ks ws)):∀ w:W,P w:=fun w =>
 W.rec (motive_1:=P) (motive_2:=fun ws=>∀ w∈ws,P w) non bl int str ty ref (fun ws h=>tup ws h) (fun ws _=>lsf ws) (fun C ns ws _=>exc C ns ws) (fun ks ws _=>dcf ks ws) (fun _ h=>nomatch h) (fun w ws h hs v hv=>(List.mem_cons.mp hv).elim (fun e=>e▸h) (hs v)) w
theorem zbq:∀ (ws:List W),(∀ w∈ws,uJ w=true->kQ w w=true)->wH ws=true->qS ws ws=true:=by
 intro ws
 induction ws with
 |nil=>intro _ _;simp [qS]
 |cons w ws ih =>
  intro h hp;have h':=wN.mp hp;simp only [qS,h w zzT h'.1,ih (fun z hz=>h z (List.mem_cons_of_mem _ hz)) h'.2,Bool.and_self]
theorem zeu {w:W}:uJ w=true->kQ w w=true:=by
 induction w using W.ind with
 |non=>intro _;simp [kQ]
 |bl _=>intro _;simp [kQ]
 |int _=>intro _;simp [kQ]
 |str _=>intro _;simp [kQ]
 |ty _=>intro h;cases h
 |lsf _=>intro h;cases h
 |exc _ _ _=>intro h;cases h
 |dcf _ _=>intro h;cases h
 |ref _=>intro h;cases h
 |tup ws ih=>intro h;exact zbq ws ih h
theorem fV (I:Inv X pins σ H s):∀ (xs ys:List W) (vs:List V),(∀ x∈xs,∀ (y:W) (v:V),wQ X.K H x v->wQ X.K H y v->uJ x=true->uJ y=true->x=y)->zF X.K H xs vs->zF X.K H ys vs->wH xs=true->wH ys=true->xs=ys:=by
 intro xs
 induction xs with
 |nil =>
  intro ys vs _ h h' _ _
  cases ys with
  |nil=>rfl
  |cons y ys=>obtain ⟨_,_,e,_⟩:=h';rw [show _=[] from h] at e;cases e
 |cons x xs ih =>
  intro ys vs hx h h' px py;obtain ⟨v,r,e,q,t⟩:=h;subst e
  cases ys with
  |nil=>cases h'
  |cons y ys =>
   obtain ⟨v',r',e',q',t'⟩:=h';cases e';rw [hx x zzT y v q q' (wN.mp px).1 (wN.mp py).1,ih ys r (fun z hz=>hx z (List.mem_cons_of_mem _ hz)) t t' (wN.mp px).2 (wN.mp py).2]
theorem zb8 (I:Inv X pins σ H s):∀ (x y:W) (v:V),wQ X.K H x v->wQ X.K H y v->uJ x=true->uJ y=true->x=y:=by
 intro x
 induction x using W.ind with
 |tup xs ih =>
  intro y v h h' hx hy;obtain ⟨a,vs,e,q,r⟩:=h;subst e
  cases y with
  |tup ys =>
   obtain ⟨b,us,e',q',r'⟩:=h';cases e';have:=I.tuple_inj q q';subst this;rw [fV I xs ys vs ih r r' hx hy]
  |ref _=>cases hy
  |ty _=>cases hy
  |lsf _=>cases hy
  |exc _ _ _=>cases hy
  |dcf _ _=>cases hy
  |non=>cases h'
  |bl _=>cases h'
  |int _=>cases h'
  |str _=>cases h'
 |ty _=>intro y v _ _ hx;cases hx
 |lsf _=>intro y v _ _ hx;cases hx
 |exc _ _ _=>intro y v _ _ hx;cases hx
 |dcf _ _=>intro y v _ _ hx;cases hx
 |ref _=>intro y v _ _ hx;cases hx
 |non =>
  intro y v h h' _ hy;cases h
  cases y with
  |tup ys=>obtain ⟨_,_,e,_⟩:=h';cases e
  |ref _=>cases hy
  |ty _=>cases hy
  |lsf _=>cases hy
  |exc _ _ _=>cases hy
  |dcf _ _=>cases hy
  |non=>rfl
  |bl _=>cases h'
  |int _=>cases h'
  |str _=>cases h'
 |bl _ =>
  intro y v h h' _ hy;cases h
  cases y with
  |tup ys=>obtain ⟨_,_,e,_⟩:=h';cases e
  |ref _=>cases hy
  |ty _=>cases hy
  |lsf _=>cases hy
  |exc _ _ _=>cases hy
  |dcf _ _=>cases hy
  |non=>cases h'
  |bl _=>cases h';rfl
  |int _=>cases h'
  |str _=>cases h'
 |int _ =>
  intro y v h h' _ hy;cases h
  cases y with
  |tup ys=>obtain ⟨_,_,e,_⟩:=h';cases e
  |ref _=>cases hy
  |ty _=>cases hy
  |lsf _=>cases hy
  |exc _ _ _=>cases hy
  |dcf _ _=>cases hy
  |non=>cases h'
  |bl _=>cases h'
  |int _=>cases h';rfl
  |str _=>cases h'
 |str _ =>
  intro y v h h' _ hy;cases h
  cases y with
  |tup ys=>obtain ⟨_,_,e,_⟩:=h';cases e
  |ref _=>cases hy
  |ty _=>cases hy
  |lsf _=>cases hy
  |exc _ _ _=>cases hy
  |dcf _ _=>cases hy
  |non=>cases h'
  |bl _=>cases h'
  |int _=>cases h'
  |str _=>cases h';rfl
theorem zdJ (I:Inv X pins σ H s) {xs ys:List W} {vs:List V} (h:zF X.K H xs vs) (h':zF X.K H ys vs) (hx:wH xs=true) (hy:wH ys=true):xs=ys :=
 fV I xs ys vs (fun x _=>zb8 I x) h h' hx hy
def uI (xs ys:List W) (j:Nat):Bool:=match xs[j]?,ys[j]? with
 |some x,some y=>kQ x y
 |_,_=>false
theorem sR:∀ xs ys:List W,((List.range (min xs.length ys.length)).all (uI xs ys)&&xs.length==ys.length)=qS xs ys
 | [],[]=>rfl
 | [],_::_=>by simp [qS]
 |_::_,[]=>by simp [qS]
 |x::xs,y::ys=>by
  have ih:=sR xs ys;simp only [List.length_cons,Nat.add_min_add_right,qS];rw [List.range_succ_eq_map,List.all_cons,List.all_map];have h0:uI (x::xs) (y::ys) 0=kQ x y:=rfl;have h1:(uI (x::xs) (y::ys) ∘ Nat.succ)=uI xs ys:=by funext j;simp [uI]
  rw [h0,h1,← ih,Bool.and_assoc];congr 2;simp
theorem zet {xs ys:List W} (h:xs.length≠ys.length):qS xs ys=false:=by
 rw [← sR];have:(xs.length==ys.length)=false:=by simpa using h
 rw [this,Bool.and_false]
theorem zcX {xs ys:List W} (h:xs.length=ys.length):(List.range xs.length).all (uI xs ys)=qS xs ys:=by
 rw [← sR,h,Nat.min_self];simp
theorem wX (I:Inv X pins σ H s) {ws:List W} {v:V} {u:Value} (h:wQ X.K H (.tup ws) v) (r:zC v u):∃ a vs its,v=.ref a/\u=.ref a/\sL X.K H a vs/\zF X.K H ws vs/\zD vs its/\s.heap.IsTuple a its.toArray/\ws.length<=sizeLine:=by
 obtain ⟨a,vs,rfl,q,rs⟩:=h;obtain ⟨its,vr,it,hl⟩:=I.tuple q;exact ⟨a,vs,its,rfl,r,q,rs,vr,it,by rw [← rs.length];exact hl⟩
theorem zaU (I:Inv X pins σ H s):∀ (xs ys:List W) (vs vs':List V) (us us':List Value) (A:Around),(∀ x∈xs,∀ (y:W) (v v':V) (u u':Value) (A:Around),wQ X.K H x v->zC v u->wQ X.K H y v'->zC v' u'->uJ x=true->uJ y=true->A.units+min (dep x) (dep y)<cLine->EqAt A s u u' (kQ x y)) ->
  zF X.K H xs vs->zD vs us->zF X.K H ys vs'->zD vs' us'->wH xs=true->wH ys=true ->
  A.units+min (jX xs) (jX ys)<cLine->∀ (j:Nat) (h1:j<us.length) (h2:j<us'.length),EqAt A s us[j] us'[j] (uI xs ys j):=by
 intro xs
 induction xs with
 |nil=>intro ys vs vs' us us' A _ h r _ _ _ _ _ j h1;rw [show _=[] from h] at r;cases r;exact absurd h1 (Nat.not_lt_zero _)
 |cons x xs ih =>
  intro ys vs vs' us us' A he h r h' r' hx hy hu j h1 h2
  cases ys with
  |nil=>rw [show _=[] from h'] at r';cases r';exact absurd h2 (Nat.not_lt_zero _)
  |cons y ys =>
   obtain ⟨v,t,e,h,hs⟩:=h;obtain ⟨v',t',e',h',hs'⟩:=h';subst e;subst e'
   cases r with
   |cons r rs =>
    cases r' with
    |cons r' rs' =>
     have px:=wN.mp hx;have py:=wN.mp hy;simp only [jX] at hu
     cases j with
     |zero=>exact he x zzT y _ _ _ _ A h r h' r' px.1 py.1 (by omega)
     |succ j=>exact ih ys _ _ _ _ A (fun z hz=>he z (List.mem_cons_of_mem _ hz)) hs rs hs' rs' px.2 py.2 (by omega) j (Nat.lt_of_succ_lt_succ h1) (Nat.lt_of_succ_lt_succ h2)
theorem zfd (I:Inv X pins σ H s):∀ (x y:W) (v v':V) (u u':Value) (A:Around),wQ X.K H x v->zC v u->wQ X.K H y v'->zC v' u'->uJ x=true->uJ y=true->A.units+min (dep x) (dep y)<cLine->EqAt A s u u' (kQ x y):=by
 intro x
 induction x using W.ind with
 |tup xs ih =>
  intro y v v' u u' A h r h' r' hx hy hu;obtain ⟨a,vs,its,rfl,rfl,q,rs,vr,it,_⟩:=wX I h r
  cases y with
  |tup ys =>
   obtain ⟨b,us,its',rfl,rfl,q',rs',vr',it',_⟩:=wX I h' r'
   by_cases e:a=b
   .subst e;have:=I.tuple_inj q q';subst this;have:=zdJ I rs rs' hx hy;subst this;rw [show kQ (.tup xs) (.tup xs)=true from zeu (w:=.tup xs) hx];exact EqAt.same _
   .show EqAt A s _ _ (qS xs ys);rw [← sR];have l1:its.toArray.size=xs.length:=by rw [zzS,← vr.length,rs.length]
    have l2:its'.toArray.size=ys.length:=by rw [zzS,← vr'.length,rs'.length]
    rw [← l1,← l2];refine EqAt.of_refs e (RcAt.tuples it it' (by simp only [dep] at hu;omega) fun j j1 j2=>?_);exact zaU I xs ys _ _ _ _ A.in1 ih rs vr rs' vr' hx hy (by simp only [dep] at hu;show A.units+1+_<_;omega) j (by simpa using j1) (by simpa using j2)
  |ref _=>cases hy
  |ty _=>cases hy
  |lsf _=>cases hy
  |exc _ _ _=>cases hy
  |dcf _ _=>cases hy
  |non=>cases h';cases r';exact EqAt.tuple_none it (by omega)
  |bl _=>cases h';cases r';exact EqAt.tuple_bool _ it (by omega)
  |int _=>cases h';obtain ⟨t,rfl⟩:=r';exact EqAt.tuple_int _ _ it (by omega)
  |str _=>cases h';obtain ⟨t,rfl⟩:=r';exact EqAt.tuple_str _ _ it (by omega)
 |ty _=>intro y v v' u u' A _ _ _ _ hx;cases hx
 |lsf _=>intro y v v' u u' A _ _ _ _ hx;cases hx
 |exc _ _ _=>intro y v v' u u' A _ _ _ _ hx;cases hx
 |dcf _ _=>intro y v v' u u' A _ _ _ _ hx;cases hx
 |ref _=>intro y v v' u u' A _ _ _ _ hx;cases hx
 |non =>
  intro y v v' u u' A h r h' r' hx hy hu;cases h;cases r
  cases y with
  |tup ys=>obtain ⟨b,us,its',rfl,rfl,q',rs',vr',it',_⟩:=wX I h' r';exact EqAt.none_tuple it' (by omega)
  |ref _=>cases hy
  |ty _=>cases hy
  |lsf _=>cases hy
  |exc _ _ _=>cases hy
  |dcf _ _=>cases hy
  |non=>cases h';cases r';exact EqAt.same _
  |bl _=>cases h';cases r';exact EqAt.none_bool _
  |int _=>cases h';obtain ⟨t,rfl⟩:=r';exact EqAt.none_int _ _
  |str _=>cases h';obtain ⟨t,rfl⟩:=r';exact EqAt.none_str _ _
 |bl _ =>
  intro y v v' u u' A h r h' r' hx hy hu;cases h;cases r
  cases y with
  |tup ys=>obtain ⟨b,us,its',rfl,rfl,q',rs',vr',it',_⟩:=wX I h' r';exact EqAt.bool_tuple _ it' (by omega)
  |ref _=>cases hy
  |ty _=>cases hy
  |lsf _=>cases hy
  |exc _ _ _=>cases hy
  |dcf _ _=>cases hy
  |non=>cases h';cases r';exact EqAt.bool_none _
  |bl _=>cases h';cases r';exact EqAt.bool_bool _ _
  |int _=>cases h';obtain ⟨t,rfl⟩:=r';exact EqAt.bool_int _ _ _
  |str _=>cases h';obtain ⟨t,rfl⟩:=r';exact EqAt.bool_str _ _ _
 |int _ =>
  intro y v v' u u' A h r h' r' hx hy hu;cases h;obtain ⟨t0,rfl⟩:=r
  cases y with
  |tup ys=>obtain ⟨b,us,its',rfl,rfl,q',rs',vr',it',_⟩:=wX I h' r';exact EqAt.int_tuple _ _ it' (by omega)
  |ref _=>cases hy
  |ty _=>cases hy
  |lsf _=>cases hy
  |exc _ _ _=>cases hy
  |dcf _ _=>cases hy
  |non=>cases h';cases r';exact EqAt.int_none _ _
  |bl _=>cases h';cases r';exact EqAt.int_bool _ _ _
  |int _=>cases h';obtain ⟨t,rfl⟩:=r';exact EqAt.int_int _ _ _ _
  |str _=>cases h';obtain ⟨t,rfl⟩:=r';exact EqAt.int_str _ _ _ _
 |str _ =>
  intro y v v' u u' A h r h' r' hx hy hu;cases h;obtain ⟨t0,rfl⟩:=r
  cases y with
  |tup ys=>obtain ⟨b,us,its',rfl,rfl,q',rs',vr',it',_⟩:=wX I h' r';exact EqAt.str_tuple _ _ it' (by omega)
  |ref _=>cases hy
  |ty _=>cases hy
  |lsf _=>cases hy
  |exc _ _ _=>cases hy
  |dcf _ _=>cases hy
  |non=>cases h';cases r';exact EqAt.str_none _ _
  |bl _=>cases h';cases r';exact EqAt.str_bool _ _ _
  |int _=>cases h';obtain ⟨t,rfl⟩:=r';exact EqAt.str_int _ _ _ _
  |str _=>cases h';obtain ⟨t,rfl⟩:=r';exact EqAt.str_str _ _ _ _
theorem zcZ (I:Inv X pins σ H s) {xs ys:List W} {vs vs':List V} {us us':List Value} {A:Around} (h:zF X.K H xs vs) (r:zD vs us) (h':zF X.K H ys vs') (r':zD vs' us') (hx:wH xs=true) (hy:wH ys=true)
  (hu:A.units+min (jX xs) (jX ys)<cLine):∀ (j:Nat) (h1:j<us.length) (h2:j<us'.length),EqAt A s us[j] us'[j] (uI xs ys j) :=
 zaU I xs ys _ _ _ _ A (fun x _=>zfd I x) h r h' r' hx hy hu
end
section
variable {X : Cx} {pins : List (Addr × Obj)} {σ : L2.St} {H : Hp} {s : Shared}
theorem zhF (I:Inv X pins σ H s) (x y:W) (v v':V) (u u':Value) (A:Around) (h:wQ X.K H x v) (r:zC v u) (h':wQ X.K H y v') (r':zC v' u') (hx:uJ x=true) (hy:uJ y=true) (hu:A.units+min (dep x) (dep y)<cLine):RcAt A s u u' (kQ x y)/\RcNeAt A s u u' (!kQ x y):=by
 have h0:A.units<cLine:=by omega
 cases x with
 |ref _=>cases hx
 |ty _=>cases hx
 |lsf _=>cases hx
 |exc _ _ _=>cases hx
 |dcf _ _=>cases hx
 |tup xs =>
  obtain ⟨a,vs,its,rfl,rfl,q,rs,vr,it,_⟩:=wX I h r
  cases y with
  |ref _=>cases hy
  |ty _=>cases hy
  |lsf _=>cases hy
  |exc _ _ _=>cases hy
  |dcf _ _=>cases hy
  |tup ys =>
   obtain ⟨b,us,its',rfl,rfl,q',rs',vr',it',_⟩:=wX I h' r';have l1:its.toArray.size=xs.length:=by rw [zzS,← vr.length,rs.length]
   have l2:its'.toArray.size=ys.length:=by rw [zzS,← vr'.length,rs'.length]
   have key:∀ (j:Nat) (j1:j<its.toArray.size) (j2:j<its'.toArray.size),EqAt A.in1 s its.toArray[j] its'.toArray[j] (uI xs ys j):=fun j j1 j2 =>
    zcZ I rs vr rs' vr' hx hy (A:=A.in1) (by simp only [dep] at hu;show A.units+1+_<_;omega) j (by simpa using j1) (by simpa using j2)
   show RcAt A s _ _ (qS xs ys)/\RcNeAt A s _ _ (!qS xs ys);rw [← sR,← l1,← l2];exact ⟨RcAt.tuples it it' h0 key,RcNeAt.tuples it it' h0 key⟩
  |non=>cases h';cases r';exact ⟨RcAt.tuple_none it h0,RcNeAt.tuple_none it h0⟩
  |bl _=>cases h';cases r';exact ⟨RcAt.tuple_bool _ it h0,RcNeAt.tuple_bool _ it h0⟩
  |int _=>cases h';obtain ⟨t,rfl⟩:=r';exact ⟨RcAt.tuple_int _ _ it h0,RcNeAt.tuple_int _ _ it h0⟩
  |str _=>cases h';obtain ⟨t,rfl⟩:=r';exact ⟨RcAt.tuple_str _ _ it h0,RcNeAt.tuple_str _ _ it h0⟩
 |non =>
  cases h;cases r
  cases y with
  |ref _=>cases hy
  |ty _=>cases hy
  |lsf _=>cases hy
  |exc _ _ _=>cases hy
  |dcf _ _=>cases hy
  |tup ys=>obtain ⟨b,us,its',rfl,rfl,q',rs',vr',it',_⟩:=wX I h' r';exact ⟨RcAt.none_tuple it' h0,RcNeAt.none_tuple it' h0⟩
  |non=>cases h';cases r';exact ⟨RcAt.none_none,RcNeAt.none_none⟩
  |bl _=>cases h';cases r';exact ⟨RcAt.none_bool _,RcNeAt.none_bool _⟩
  |int _=>cases h';obtain ⟨t,rfl⟩:=r';exact ⟨RcAt.none_int _ _,RcNeAt.none_int _ _⟩
  |str _=>cases h';obtain ⟨t,rfl⟩:=r';exact ⟨RcAt.none_str _ _,RcNeAt.none_str _ _⟩
 |bl _ =>
  cases h;cases r
  cases y with
  |ref _=>cases hy
  |ty _=>cases hy
  |lsf _=>cases hy
  |exc _ _ _=>cases hy
  |dcf _ _=>cases hy
  |tup ys=>obtain ⟨b,us,its',rfl,rfl,q',rs',vr',it',_⟩:=wX I h' r';exact ⟨RcAt.bool_tuple _ it' h0,RcNeAt.bool_tuple _ it' h0⟩
  |non=>cases h';cases r';exact ⟨RcAt.bool_none _,RcNeAt.bool_none _⟩
  |bl _=>cases h';cases r';exact ⟨RcAt.bool_bool _ _,RcNeAt.bool_bool _ _⟩
  |int _=>cases h';obtain ⟨t,rfl⟩:=r';exact ⟨RcAt.bool_int _ _ _,RcNeAt.bool_int _ _ _⟩
  |str _=>cases h';obtain ⟨t,rfl⟩:=r';exact ⟨RcAt.bool_str _ _ _,RcNeAt.bool_str _ _ _⟩
 |int _ =>
  cases h;obtain ⟨t0,rfl⟩:=r
  cases y with
  |ref _=>cases hy
  |ty _=>cases hy
  |lsf _=>cases hy
  |exc _ _ _=>cases hy
  |dcf _ _=>cases hy
  |tup ys=>obtain ⟨b,us,its',rfl,rfl,q',rs',vr',it',_⟩:=wX I h' r';exact ⟨RcAt.int_tuple _ _ it' h0,RcNeAt.int_tuple _ _ it' h0⟩
  |non=>cases h';cases r';exact ⟨RcAt.int_none _ _,RcNeAt.int_none _ _⟩
  |bl _=>cases h';cases r';exact ⟨RcAt.int_bool _ _ _,RcNeAt.int_bool _ _ _⟩
  |int _=>cases h';obtain ⟨t,rfl⟩:=r';exact ⟨RcAt.int_int _ _ _ _,RcNeAt.int_int _ _ _ _⟩
  |str _=>cases h';obtain ⟨t,rfl⟩:=r';exact ⟨RcAt.int_str _ _ _ _,RcNeAt.int_str _ _ _ _⟩
 |str _ =>
  cases h;obtain ⟨t0,rfl⟩:=r
  cases y with
  |ref _=>cases hy
  |ty _=>cases hy
  |lsf _=>cases hy
  |exc _ _ _=>cases hy
  |dcf _ _=>cases hy
  |tup ys=>obtain ⟨b,us,its',rfl,rfl,q',rs',vr',it',_⟩:=wX I h' r';exact ⟨RcAt.str_tuple _ _ it' h0,RcNeAt.str_tuple _ _ it' h0⟩
  |non=>cases h';cases r';exact ⟨RcAt.str_none _ _,RcNeAt.str_none _ _⟩
  |bl _=>cases h';cases r';exact ⟨RcAt.str_bool _ _ _,RcNeAt.str_bool _ _ _⟩
  |int _=>cases h';obtain ⟨t,rfl⟩:=r';exact ⟨RcAt.str_int _ _ _ _,RcNeAt.str_int _ _ _ _⟩
  |str _=>cases h';obtain ⟨t,rfl⟩:=r';exact ⟨RcAt.str_str _ _ _ _,RcNeAt.str_str _ _ _ _⟩
theorem zct (I:Inv X pins σ H s) {G:Hw} {p:Addr} {ws:List W} (ab:xL X.K H G) (e:yQ G p=some ws):∃ vs its,rP X.K H p vs/\zF X.K H ws vs/\zD vs its/\s.heap.IsList p its.toArray/\PlainL s.heap p its.toArray/\ws.length<=sizeLine:=by
 obtain ⟨vs,q,r⟩:=ab.seq e;obtain ⟨its,vr,pl,hl⟩:=I.list q;exact ⟨vs,its,q,r,vr,(let ⟨o,n,h1,h2,_,h3⟩:=pl;⟨o,h1,h2,n,h3⟩),pl,by rw [← r.length];exact hl⟩
theorem zhG (I:Inv X pins σ H s) {G:Hw} {p q:Addr} {xs ys:List W} {A:Around} (ab:xL X.K H G) (e:yQ G p=some xs) (e':yQ G q=some ys) (hx:wH xs=true) (hy:wH ys=true) (hu:A.units+1+min (jX xs) (jX ys)<cLine) :
  RcAt A s (.ref p) (.ref q) (qS xs ys)/\RcNeAt A s (.ref p) (.ref q) (!qS xs ys):=by
 obtain ⟨vs,its,_,rs,vr,il,_⟩:=zct I ab e;obtain ⟨us,its',_,rs',vr',il',_⟩:=zct I ab e';have h0:A.units<cLine:=by omega
 have l1:its.toArray.size=xs.length:=by rw [zzS,← vr.length,rs.length]
 have l2:its'.toArray.size=ys.length:=by rw [zzS,← vr'.length,rs'.length]
 have key:∀ (j:Nat) (j1:j<its.toArray.size) (j2:j<its'.toArray.size),EqAt A.in1 s its.toArray[j] its'.toArray[j] (uI xs ys j):=fun j j1 j2 =>
  zcZ I rs vr rs' vr' hx hy (A:=A.in1) hu j (by simpa using j1) (by simpa using j2)
 by_cases hl:xs.length=ys.length
 .rw [← zcX hl,← l1];exact ⟨RcAt.lists il il' (by omega) h0 key,RcNeAt.lists il il' (by omega) h0 key⟩
 .rw [zet hl];have:(its.toArray.size != its'.toArray.size)=true:=by simp only [bne_iff_ne];omega
  exact ⟨RcAt.lists_lengths il il' this h0,RcNeAt.lists_lengths il il' this h0⟩
end
end L3
namespace PySem
open Sem (wp)
open Builtin
theorem gI:fillsNumberSlot (.type "tuple") "mul" = pure false :=
 fillsNumberSlot_seq (id := "tuple.__mul__") (r:=some (.builtin "tuple.__rmul__")) F.slot_tuple_mul.lookup (by decide +kernel) F.slot_tuple_rmul.lookup (by decide +kernel)
theorem gJ:seqRepeat? (.type "tuple")=pure (some (.builtin "tuple.__mul__")):=by
 unfold seqRepeat?;rw [seqSlot_of (T := "tuple") (name := "__mul__") (id := "tuple.__mul__") F.slot_tuple_mul.lookup (by decide +kernel),seqSlot_of (T := "tuple") (name := "__rmul__") (id := "tuple.__rmul__") F.slot_tuple_rmul.lookup (by decide +kernel)];rfl
theorem zbK (a:Int) (t:Tok) (l:Addr) (items:Array Value) (n:Nat) (dd:Option Addr) (sl:Array (Option Value)) :
  Meets (Builtin.«int.__rmul__» ⟨[.int a t,.ref l],[]⟩) (fun _ R s=>s.heap.get? l=some { cls:=.type "tuple", dict:=dd,data:=.seq items n,slots:=sl }/\R (.ok (.ret Value.notImplemented)) s) :=
 .of_wp fun prog w A R s h=>by obtain ⟨hp,g,d,tk,os⟩:=s;obtain ⟨hl,h⟩:=h;wp_walk;exact ⟨_,rfl,h⟩
theorem zhf (l:Addr) (items:Array Value) (n:Nat) (u:Tok) (dd:Option Addr) (sl:Array (Option Value)) :
  Meets (Builtin.«tuple.__mul__» ⟨[.ref l,.int 1 u],[]⟩) (fun _ R s=>s.heap.get? l=some { cls:=.type "tuple", dict:=dd,data:=.seq items n,slots:=sl }/\R (.ok (.ret (Value.ref l))) s) :=
 .of_wp fun prog w A R s h=>by obtain ⟨hp,g,d,tk,os⟩:=s;obtain ⟨hl,h⟩:=h;wp_walk;exact ⟨_,rfl,h⟩
theorem zft (l:Addr) (items:Array Value) (n:Nat) (u:Tok) (dd:Option Addr) (sl:Array (Option Value)) (hi:items.isEmpty=false) :
  Meets (Builtin.«tuple.__mul__» ⟨[.ref l,.int 0 u],[]⟩) (fun _ R s=>s.heap.get? l=some { cls:=.type "tuple", dict:=dd,data:=.seq items n,slots:=sl }/\R (.ok (.ret (Value.ref s.heap.objs.size))) { s with heap:=s.heap.push { cls:=.type "tuple", data:=.seq #[] } }) :=
 .of_wp fun prog w A R s h=>by obtain ⟨hp,g,d,tk,os⟩:=s;obtain ⟨hl,h⟩:=h;wp_walk;exact ⟨_,rfl,h⟩
end PySem
namespace L3
open PySem PySem.Spec PyProof.Rows L2
section
variable {X : Cx}
def rRepT (K:yN):R2:=fun x y H Q=>∃ a k xs,x=.ref a/\y=.int k/\sL K H a xs/\((k=1/\Q (.ref a) H)\/(k=0/\xs≠[]/\∀ p,H p=none->Q (.ref p) (xK H p (.tup []))))
theorem zf3:kP X (binaryOp .Mult) (rRepT X.K):=by
 intro pins s σ H x y v u Q I rx ry h;obtain ⟨a,k,xs,rfl,rfl,ha,h⟩:=h;cases rx;obtain ⟨t,rfl⟩:=ry;obtain ⟨its,r1,p1,_⟩:=I.tuple ha;obtain ⟨⟨cls,dd,data,sl⟩,ho,hc,n,hd⟩:=id p1;simp only at hc hd;subst hc hd;rcases h with ⟨rfl,q⟩|⟨rfl,hx,q⟩
 .exact wpAny_binaryOp_repeat_ref (T := "tuple") (U := "int") (by decide) ⟨_,ho,rfl⟩ (fun s'=>typeIs_int s' 1 t) gI F.fills_int_mul F.slot_int_rmul gJ F.slot_int_index.lookup
   (call_meets F.slot_int_rmul (typeIs_int s 1 t) F.entry_int_rmul (F.args_int_rmul_2 _ _) (zbK 1 t a its.toArray n dd sl)
    ⟨ho,rfl,⟨_,ho,rfl⟩,call_meets F.slot_tuple_mul ⟨_,ho,rfl⟩ F.entry_tuple_mul (F.args_tuple_mul_2 _ _) (zhf a its.toArray n t dd sl) ⟨ho,.ref a,H,I,rfl,q⟩⟩)
 .have he:its.toArray.isEmpty=false:=by
   cases its with
   |nil=>exact absurd (r1.nil_iff.mp rfl) hx
   |cons _ _=>rfl
  refine wpAny_binaryOp_repeat_ref (T := "tuple") (U := "int") (by decide) ⟨_,ho,rfl⟩ (fun s'=>typeIs_int s' 0 t) gI F.fills_int_mul F.slot_int_rmul gJ F.slot_int_index.lookup
   (call_meets F.slot_int_rmul (typeIs_int s 0 t) F.entry_int_rmul (F.args_int_rmul_2 _ _) (zbK 0 t a its.toArray n dd sl)
    ⟨ho,rfl,⟨_,ho,rfl⟩,call_meets F.slot_tuple_mul ⟨_,ho,rfl⟩ F.entry_tuple_mul (F.args_tuple_mul_2 _ _) (zft a its.toArray n t dd sl he) ⟨ho,?_⟩⟩)
  refine ⟨.ref s.heap.objs.size,_,I.laid (t':=s.toks) (o:=.tup []) (fun b ob q=>Heap.get?_push_of_some _ q) (zzR _) ?_,rfl,q _ (I.hok.fresh (zzR _))⟩;exact ⟨Nat.zero_le _,[],.nil,IsTup.new _ _⟩
end
end L3
namespace L3
open PySem PySem.Spec PyProof.Rows L2 PySem.SeqAt
abbrev R3:=W->W->Hw->Q3->Prop
def qG (K:yN) (H:Hp) (Q:VK):Q3:=fun w G'=>∀ v H',yJ K H H'->wQ K H' w v->xL K H' G'->Q v H'
def pX (r:R3):Prop:=∀ x y G (Q Q':Q3),(∀ w G',Q w G'->Q' w G')->r x y G Q->r x y G Q'
def rW (K:yN) (r:R3):R2:=fun v u H Q=>∃ x y G,wQ K H x v/\wQ K H y u/\xL K H G/\r x y G (qG K H Q)
def jZ:Operator->R3
 | .Add=>fun x y G Q=>match x,y with
  | .int i,.int j=>Q (.int (i+j)) G
  | .str a,.str b=>a.length+b.length<=sizeLine/\Q (.str (a++b)) G
  | .tup a,.tup b=>a.length+b.length<=sizeLine/\Q (.tup (a++b)) G
  | .ref p,.ref q=>(match G p,G q with
   |some (.lst xs),some (.lst ys)=>xs.length+ys.length<=sizeLine/\∀ r,G r=none->Q (.ref r) (put G r (.lst (xs++ys)))
   |_,_=>False)
  |_,_=>False
 | .Sub=>fun x y G Q=>match x,y with
  | .int i,.int j=>Q (.int (i-j)) G
  |_,_=>False
 | .Mult=>fun x y G Q=>match x,y with
  | .int i,.int j=>bH i j/\Q (.int (i * j)) G
  | .tup xs,.int k=>(k=1/\Q (.tup xs) G)\/(k=0/\xs≠[]/\Q (.tup []) G)
  | .ref p,.int k=>(match G p with
   |some (.lst xs)=>(-(2 ^ 63)<=k/\k<2 ^ 63/\xs.length * k.toNat<=sizeLine)/\∀ r,G r=none->Q (.ref r) (put G r (.lst (List.replicate k.toNat xs).flatten))
   |_=>False)
  |_,_=>False
 | .Mod=>fun x y G Q=>match x,y with
  | .int i,.int j=>0<j/\Q (.int (i % j)) G
  |_,_=>False
 | .FloorDiv=>fun x y G Q=>match x,y with
  | .int i,.int j=>CDiv i j/\Q (.int (i / j)) G
  |_,_=>False
 | .Pow=>fun x y G Q=>match x,y with
  | .int i,.int j=>CPow i j/\Q (.int (i ^ j.toNat)) G
  |_,_=>False
 |_=>fun _ _ _ _=>False
theorem dO:∀ op,pX (jZ op):=by
 intro op x y G Q Q' k h
 cases op with
 |Add =>
  cases x with
  |int i=>cases y with
   |int j=>exact k _ _ h
   |_=>exact h.elim
  |str i=>cases y with
   |str j=>exact ⟨h.1,k _ _ h.2⟩
   |_=>exact h.elim
  |tup a=>cases y with
   |tup b=>exact ⟨h.1,k _ _ h.2⟩
   |_=>exact h.elim
  |ref p=>cases y with
   |ref q =>
    simp only [jZ] at h ⊢
    split at h
    .exact ⟨h.1,fun r hr=>k _ _ (h.2 r hr)⟩
    .exact h.elim
   |_=>exact h.elim
  |_=>exact h.elim
 |Mult =>
  cases x with
  |int i=>cases y with
   |int j=>exact ⟨h.1,k _ _ h.2⟩
   |_=>exact h.elim
  |tup a=>cases y with
   |int j=>exact h.imp (fun z=>⟨z.1,k _ _ z.2⟩) fun z=>⟨z.1,z.2.1,k _ _ z.2.2⟩
   |_=>exact h.elim
  |ref p=>cases y with
   |int q =>
    simp only [jZ] at h ⊢
    split at h
    .exact ⟨h.1,fun r hr=>k _ _ (h.2 r hr)⟩
    .exact h.elim
   |_=>exact h.elim
  |_=>exact h.elim
 |Sub =>
  cases x with
  |int i=>cases y with
   |int j=>exact k _ _ h
   |_=>exact h.elim
  |_=>exact h.elim
 |Mod =>
  cases x with
  |int i=>cases y with
   |int j=>exact ⟨h.1,k _ _ h.2⟩
   |_=>exact h.elim
  |_=>exact h.elim
 |FloorDiv =>
  cases x with
  |int i=>cases y with
   |int j=>exact ⟨h.1,k _ _ h.2⟩
   |_=>exact h.elim
  |_=>exact h.elim
 |Pow =>
  cases x with
  |int i=>cases y with
   |int j=>exact ⟨h.1,k _ _ h.2⟩
   |_=>exact h.elim
  |_=>exact h.elim
 |_=>exact h.elim
section
variable {X : Cx}
theorem zF.nil_iff {K:yN} {H:Hp} {ws:List W} {vs:List V} (h:zF K H ws vs):vs=[]↔ws=[]:=by
 have:=h.length
 constructor
 .intro e;subst e;exact List.eq_nil_of_length_eq_zero this.symm
 .intro e;subst e;exact List.eq_nil_of_length_eq_zero this
theorem zg2 {pins:List (Addr×Obj)} {s:Shared} {σ:L2.St} {H:Hp} {a b:Addr} {Q:Value->Shared->Prop} {E:Value->Shared->Prop} {ws:List Value} (ht:IsTup s.heap a #[]) (hb:IsTup s.heap b ws.toArray) (h:Q (.ref b) s) :
  wpAny (model X.prog X.w) X.A (binaryOp .Add (.ref a) (.ref b)) Q E s:=by
 obtain ⟨⟨cls,dd,data,sl⟩,ho,hc,n,hd⟩:=id ht;obtain ⟨⟨cls2,dd2,data2,sl2⟩,ho2,hc2,n2,hd2⟩:=id hb;simp only at hc hd hc2 hd2;subst hc hd hc2 hd2
 exact concat_meets ⟨_,ho,rfl⟩ ⟨_,ho2,rfl⟩ noFill_tuple_add seq_tuple_add PySem.F.slot_tuple_add PySem.F.entry_tuple_add (PySem.F.args_tuple_add_2 _ _)
  (tuple_addW0 a b #[] ws.toArray n n2 dd dd2 sl sl2 rfl) ⟨ho,ho2,h⟩
theorem jL {K:yN} {H:Hp} {G:Hw} {Q:VK} {ws:List W} {vs:List V} (ab:xL K H G) (r:zF K H ws vs) (h:∀ p,G p=none->qG K H Q (.ref p) (put G p (.lst ws))):∀ p,H p=none->Q (.ref p) (xK H p (.lst vs)):=fun p hp =>
 h p (ab.free hp) _ _ (xJ hp) rfl (ab.new hp ⟨vs,rfl,r.mono (xJ hp)⟩)
theorem sY {K:yN} {H:Hp} {G:Hw} {Q:VK} {ws:List W} {vs:List V} (ab:xL K H G) (r:zF K H ws vs) (h:qG K H Q (.tup ws) G):∀ p,H p=none->Q (.ref p) (xK H p (.tup vs)):=fun p hp =>
 h _ _ (xJ hp) ⟨p,vs,rfl,.of wY,r.mono (xJ hp)⟩ (ab.tup hp)
theorem zF.flat {K:yN} {H:Hp} {ws:List W} {vs:List V} (h:zF K H ws vs):∀ k:Nat,zF K H (List.replicate k ws).flatten (List.replicate k vs).flatten
 | 0=>rfl
 |k+1=>by rw [List.replicate_succ,List.replicate_succ,List.flatten_cons,List.flatten_cons];exact h.append (zF.flat h k)
theorem zjb (op:Operator):kP X (binaryOp op) (rW X.K (jZ op)):=by
 intro pins s σ H v u a b Q I rv ru h;obtain ⟨x,y,G,rx,ry,ab,h⟩:=h
 cases op with
 |Add =>
  cases x with
  |int i =>
   cases y with
   |int j=>cases rx;cases ry;exact zib pins s σ H _ _ _ _ Q I rv ru ⟨i,j,rfl,rfl,h _ _ .refl rfl ab⟩
   |_=>exact h.elim
  |str i =>
   cases y with
   |str j=>cases rx;cases ry;exact zbf pins s σ H _ _ _ _ Q I rv ru ⟨i,j,rfl,rfl,h.1,h.2 _ _ .refl rfl ab⟩
   |_=>exact h.elim
  |tup xs =>
   cases y with
   |tup ys =>
    obtain ⟨a1,vs,its,rfl,rfl,q,rs,vr,it,_⟩:=wX I rx rv;obtain ⟨b1,us,its',rfl,rfl,q',rs',vr',it',_⟩:=wX I ry ru
    by_cases e:xs=[]
    .subst e;have e1:vs=[]:=(rs.nil_iff).mpr rfl;subst e1;cases vr;exact zg2 (pins:=pins) (σ:=σ) (H:=H) it it' ⟨.ref b1,H,I,rfl,h.2 _ _ .refl ⟨b1,us,rfl,q',rs'⟩ ab⟩
    .refine zf5 pins s σ H (.ref a1) (.ref b1) _ _ Q I rfl rfl ⟨a1,b1,vs,us,rfl,rfl,q,q',fun z=>e (rs.nil_iff.mp z),by rw [rs.length,rs'.length];exact h.1,fun z=>?_,fun _=>?_⟩
     .have:ys=[]:=rs'.nil_iff.mp z;subst this;exact h.2 _ _ .refl ⟨a1,vs,rfl,q,by rw [List.append_nil];exact rs⟩ ab
     .exact sY ab (rs.append rs') h.2
   |_=>exact h.elim
  |ref p =>
   cases y with
   |ref q =>
    cases rx;cases ry;simp only [jZ] at h
    split at h
    .rename_i xs ys e1 e2;obtain ⟨vs,q1,r1⟩:=ab.lst e1;obtain ⟨us,q2,r2⟩:=ab.lst e2;exact zia pins s σ H _ _ _ _ Q I rv ru ⟨p,q,vs,us,rfl,rfl,q1,q2,by rw [r1.length,r2.length];exact h.1,jL ab (r1.append r2) h.2⟩
    .exact h.elim
   |_=>exact h.elim
  |_=>exact h.elim
 |Sub =>
  cases x with
  |int i =>
   cases y with
   |int j=>cases rx;cases ry;exact zh5 pins s σ H _ _ _ _ Q I rv ru ⟨i,j,rfl,rfl,h _ _ .refl rfl ab⟩
   |_=>exact h.elim
  |_=>exact h.elim
 |Mult =>
  cases x with
  |int i =>
   cases y with
   |int j=>cases rx;cases ry;exact zh8 pins s σ H _ _ _ _ Q I rv ru ⟨i,j,rfl,rfl,h.1,h.2 _ _ .refl rfl ab⟩
   |_=>exact h.elim
  |tup xs =>
   cases y with
   |int k =>
    obtain ⟨a1,vs,its,rfl,rfl,q,rs,vr,it,_⟩:=wX I rx rv;cases ry;refine zf3 pins s σ H (.ref a1) (.int k) _ _ Q I rfl ru ⟨a1,k,vs,rfl,rfl,q,?_⟩;rcases h with ⟨e,h⟩|⟨e,hx,h⟩
    .exact .inl ⟨e,h _ _ .refl ⟨a1,vs,rfl,q,rs⟩ ab⟩
    .exact .inr ⟨e,fun z=>hx (rs.nil_iff.mp z),sY ab (ws:=[]) (vs:=[]) rfl h⟩
   |_=>exact h.elim
  |ref p =>
   cases y with
   |int k =>
    cases rx;cases ry;simp only [jZ] at h
    split at h
    .rename_i xs e1;obtain ⟨vs,q1,r1⟩:=ab.lst e1;exact zh6 pins s σ H _ _ _ _ Q I rv ru ⟨p,k,vs,rfl,rfl,q1,h.1.1,h.1.2.1,by rw [r1.length];exact h.1.2.2,jL ab (r1.flat _) h.2⟩
    .exact h.elim
   |_=>exact h.elim
  |_=>exact h.elim
 |Mod =>
  cases x with
  |int i =>
   cases y with
   |int j=>cases rx;cases ry;exact zh9 pins s σ H _ _ _ _ Q I rv ru ⟨i,j,rfl,rfl,h.1,h.2 _ _ .refl rfl ab⟩
   |_=>exact h.elim
  |_=>exact h.elim
 |FloorDiv =>
  cases x with
  |int i =>
   cases y with
   |int j=>cases rx;cases ry;exact zf4 pins s σ H _ _ _ _ Q I rv ru ⟨i,j,rfl,rfl,h.1,h.2 _ _ .refl rfl ab⟩
   |_=>exact h.elim
  |_=>exact h.elim
 |Pow =>
  cases x with
  |int i =>
   cases y with
   |int j=>cases rx;cases ry;exact zh7 pins s σ H _ _ _ _ Q I rv ru ⟨i,j,rfl,rfl,h.1,h.2 _ _ .refl rfl ab⟩
   |_=>exact h.elim
  |_=>exact h.elim
 |_=>exact h.elim
end
def eqG (G:Hw):W->W->Option Bool
 | .ref p,.ref q=>match yQ G p,yQ G q with
  |some a,some b=>if (wH a&&wH b&&decide (min (jX a) (jX b)<=150))=true then some (qS a b) else none
  |_,_=>none
 |x,y=>if (uJ x&&uJ y&&decide (min (dep x) (dep y)<=150))=true then some (kQ x y) else none
def inR (neg:Bool) (x:W) (ws:List W) (G:Hw) (Q:Q3):Prop:=(uJ x=true/\wH ws=true/\min (jX ws) (dep x)<=150)/\Q (.bl (if neg then !ws.any fun w=>kQ w x else ws.any fun w=>kQ w x)) G
def inStr (neg:Bool) (i j:Str):Bool:=if neg then !(!(Builtin.Str.occurrences j i 0 j.length 1).isEmpty) else !(Builtin.Str.occurrences j i 0 j.length 1).isEmpty
def jE:W->Option yO
 | .int i=>some (.inl i)
 | .str x=>some (.inr x)
 |_=>none
def pR {α:Type} (kvs:List (yO×α)) (k:yO):Bool:=kvs.any fun p=>decide (p.1=k)
def vH (neg:Bool):R3:=fun x y G Q=>match y with
 | .tup ws=>inR neg x ws G Q
 | .ref p=>(match G p with
  |some (.lst ws)=>inR neg x ws G Q
  |some (.fix ws)=>inR neg x ws G Q
  |some (.dic kvs)=>(match jE x with|some k=>Q (.bl (if neg then !pR kvs k else pR kvs k)) G|none=>False)
  |_=>False)
 | .str j=>(match x with
  | .str i=>Q (.bl (inStr neg i j)) G
  |_=>False)
 |_=>False
def isR (neg:Bool):R3:=fun x y G Q=>match y with
 | .non=>Q (.bl (if neg then (match x with|.non=>false|_=>true) else (match x with|.non=>true|_=>false))) G
 | .bl b=>Q (.bl (if neg then (match x with|.bl c=>!(c==b)|_=>true) else (match x with|.bl c=>c==b|_=>false))) G
 |_=>False
def pU (p:Int->Int->Bool):R3:=fun x y G Q=>match x,y with
 | .int i,.int j=>Q (.bl (p i j)) G
 |_,_=>False
def leS (x y:Str):Bool:=!decide (y.cps.toList<x.cps.toList)
def leR:R3:=fun x y G Q=>match x,y with
 | .int i,.int j=>Q (.bl (decide (i<=j))) G
 | .str i,.str j=>Q (.bl (leS i j)) G
 |_,_=>False
def yT:CmpOp->R3
 | .Eq=>fun x y G Q=>match eqG G x y with|some b=>Q (.bl b) G|none=>False
 | .NotEq=>fun x y G Q=>match eqG G x y with|some b=>Q (.bl (!b)) G|none=>False
 | .Is=>isR false
 | .IsNot=>isR true
 | .In=>vH false
 | .NotIn=>vH true
 | .Lt=>pU fun i j=>decide (i<j)
 | .LtE=>leR
 | .Gt=>pU fun i j=>decide (j<i)
 | .GtE=>pU fun i j=>decide (j<=i)
theorem sE (p:Int->Int->Bool):pX (pU p):=by
 intro x y G Q Q' k h;cases x<;>cases y<;>simp only [pU] at h ⊢<;>first|exact h.elim|exact k _ _ h
theorem zd8:pX leR:=by
 intro x y G Q Q' k h;cases x<;>cases y<;>simp only [leR] at h ⊢<;>first|exact h.elim|exact k _ _ h
theorem fQ (neg:Bool):pX (vH neg):=by
 intro x y G Q Q' k h;unfold vH at h ⊢
 cases y with
 |tup ws=>exact ⟨h.1,k _ _ h.2⟩
 |ref p =>
  simp only at h ⊢
  split at h
  .exact ⟨h.1,k _ _ h.2⟩
  .exact ⟨h.1,k _ _ h.2⟩
  .split at h
   .exact k _ _ h
   .exact h.elim
  .exact h.elim
 |str j =>
  cases x with
  |str i=>exact k _ _ h
  |_=>exact h.elim
 |_=>exact h.elim
theorem zaP (neg:Bool):pX (isR neg):=by
 intro x y G Q Q' k h;unfold isR at h ⊢
 cases y with
 |non=>exact k _ _ h
 |bl b=>exact k _ _ h
 |_=>exact h.elim
theorem xX:∀ op,pX (yT op):=by
 intro op x y G Q Q' k h
 cases op with
 |Eq =>
  simp only [yT] at h ⊢
  split at h
  .exact k _ _ h
  .exact h.elim
 |NotEq =>
  simp only [yT] at h ⊢
  split at h
  .exact k _ _ h
  .exact h.elim
 |Is=>exact zaP false x y G Q Q' k h
 |IsNot=>exact zaP true x y G Q Q' k h
 |In=>exact fQ false x y G Q Q' k h
 |NotIn=>exact fQ true x y G Q Q' k h
 |Lt=>exact sE _ x y G Q Q' k h
 |LtE=>exact zd8 x y G Q Q' k h
 |Gt=>exact sE _ x y G Q Q' k h
 |GtE=>exact sE _ x y G Q Q' k h
section
variable {X : Cx} {pins : List (Addr × Obj)} {σ : L2.St} {H : Hp} {s : Shared}
open Classical in
def eqI (K:yN) (H:Hp) (x:W) (y:Value):Bool:=if ∃ w v,wQ K H w v/\zC v y/\uJ w=true/\kQ w x=true then true else false
theorem zfb (I:Inv X pins σ H s) {x w:W} {v:V} {y:Value} (r:wQ X.K H w v) (q:zC v y) (p:uJ w=true):eqI X.K H x y=kQ w x:=by
 unfold eqI
 cases e:kQ w x with
 |true=>rw [if_pos ⟨w,v,r,q,p,e⟩]
 |false =>
  rw [if_neg];rintro ⟨w',v',r',q',p',e'⟩;have:=zC.inj q q';subst this;rw [zb8 I w' w v r' r p' p,e] at e';cases e'
theorem zgC (I:Inv X pins σ H s) {x:W}:∀ {ws:List W} {vs:List V} {us:List Value},zF X.K H ws vs->zD vs us->wH ws=true->us.any (eqI X.K H x)=ws.any fun w=>kQ w x:=by
 intro ws
 induction ws with
 |nil=>intro vs us h r _;rw [show _=[] from h] at r;cases r;rfl
 |cons w ws ih =>
  intro vs us h r p;obtain ⟨v,t,e,h,hs⟩:=h;subst e
  cases r with
  |cons r rs =>
   have p':=wN.mp p;rw [List.any_cons,List.any_cons,zfb I h r p'.1,ih hs rs p'.2]
theorem zi3 (I:Inv X pins σ H s) {x:W} {vx:V} {ux:Value} {A:Around} (rx:wQ X.K H x vx) (qx:zC vx ux) (px:uJ x=true):∀ {ws:List W} {vs:List V} {us:List Value},zF X.K H ws vs->zD vs us->wH ws=true->A.units+min (jX ws) (dep x)<cLine ->
  ∀ y∈us,EqAt A s y ux (eqI X.K H x y):=by
 intro ws
 induction ws with
 |nil=>intro vs us h r _ _ y hy;rw [show _=[] from h] at r;cases r;cases hy
 |cons w ws ih =>
  intro vs us h r p hu y hy;obtain ⟨v,t,e,h,hs⟩:=h;subst e;simp only [jX] at hu
  cases r with
  |cons r rs =>
   have p':=wN.mp p;rcases List.mem_cons.mp hy with e|hy
   .subst e;rw [zfb I h r p'.1];exact zfd I w x v vx _ ux A h r rx qx p'.1 px (by omega)
   .exact ih hs rs p'.2 (by omega) y hy
theorem zam {M:Model} {A:Around} {E:Value->Shared->Prop} {Q:Value->Shared->Prop} {v:Value} {b:Bool} (hb:∀ p,v≠.builtin p) (h:Q (.bool (v==.bool b)) s):wpAny M A (compareOp .Is v (.bool b)) Q E s:=by
 cases v<;>first|exact wpAny_pure h|exact absurd rfl (hb _)
theorem mR {M:Model} {A:Around} {E:Value->Shared->Prop} {Q:Value->Shared->Prop} {v:Value} {b:Bool} (hb:∀ p,v≠.builtin p) (h:Q (.bool (!(v==.bool b))) s):wpAny M A (compareOp .IsNot v (.bool b)) Q E s:=by
 cases v<;>first|exact wpAny_pure h|exact absurd rfl (hb _)
theorem zeQ {v:V} {u:Value} (r:zC v u):∀ p,u≠.builtin p:=by
 cases v<;>first
  | (obtain ⟨t,e⟩:=r;subst e;intro p z;cases z)
  | (intro p z;subst z;cases r)
theorem ziR (neg:Bool):kP X (compareOp (if neg then .IsNot else .Is)) (rW X.K (isR neg)):=by
 intro pins s σ H v u a b Q I rv ru h;obtain ⟨x,y,G,rx,ry,ab,h⟩:=h;have fin:∀ k k':Bool,qG X.K H Q (.bl k) G->k=k'->EP X pins σ Q (.bool k') s:=fun k k' q e=>⟨.bl k',H,I,rfl,by rw [← e];exact q _ _ .refl rfl ab⟩
 cases y with
 |non =>
  cases ry;cases ru
  cases neg with
  |false =>
   refine is_none_gen (fin _ _ h ?_)
   cases x<;>first
    | (cases rx;cases rv;rfl)
    | (cases rx;obtain ⟨t,rfl⟩:=rv;rfl)
    | (obtain ⟨_,_,rfl,_⟩:=rx;cases rv;rfl)
  |true =>
   refine isnot_none_gen (fin _ _ h ?_)
   cases x<;>first
    | (cases rx;cases rv;rfl)
    | (cases rx;obtain ⟨t,rfl⟩:=rv;rfl)
    | (obtain ⟨_,_,rfl,_⟩:=rx;cases rv;rfl)
 |bl c =>
  cases ry;cases ru
  cases neg with
  |false =>
   refine zam (zeQ rv) (fin _ _ h ?_)
   cases x<;>first
    | (cases rx;cases rv;rfl)
    | (cases rx;cases rv;rename_i d;cases c<;>cases d<;>rfl)
    | (cases rx;obtain ⟨t,rfl⟩:=rv;rfl)
    | (obtain ⟨_,_,rfl,_⟩:=rx;cases rv;rfl)
  |true =>
   refine mR (zeQ rv) (fin _ _ h ?_)
   cases x<;>first
    | (cases rx;cases rv;rfl)
    | (cases rx;cases rv;rename_i d;cases c<;>cases d<;>rfl)
    | (cases rx;obtain ⟨t,rfl⟩:=rv;rfl)
    | (obtain ⟨_,_,rfl,_⟩:=rx;cases rv;rfl)
 |_=>exact h.elim
theorem zeb {K:yN} {H:Hp} {y:W} {v:V} {k:yO} (r:wQ K H y v) (h:jE y=some k):v=kV k:=by
 cases y<;>cases h<;>exact r
theorem zcN {K:yN} {H:Hp} {k:yO}:∀ {l:List (yO×W)} {l':List (yO×V)},yS K H l l'->(vV l' k).isSome=pR l k
 | [],_,h=>by rw [show _=[] from h];rfl
 |p::r,_,⟨v,t,e,h,hr⟩=>by
  have ih:=zcN (k:=k) hr;subst e;unfold vV pR at ih ⊢;rw [List.find?_cons,List.any_cons]
  cases decide (p.1=k) with
  |true=>rfl
  |false=>exact ih
theorem pF (us:List Value) (e:Value->Bool):us.toArray.any e=us.any e:=by simp
theorem ze2 (neg:Bool) (hu:X.A.units+200<cLine):kP X (compareOp (if neg then .NotIn else .In)) (rW X.K (vH neg)):=by
 intro pins s σ H v u a b Q I rv ru h;obtain ⟨x,y,G,rx,ry,ab,h⟩:=h;have fin:∀ k:Bool,qG X.K H Q (.bl k) G->EP X pins σ Q (.bool k) s:=fun k q=>⟨.bl k,H,I,rfl,q _ _ .refl rfl ab⟩
 have sq:∀ (p:Addr) (ws:List W) (vs:List V) (its:List Value),zF X.K H ws vs->zD vs its->(s.heap.IsTuple p its.toArray\/s.heap.IsList p its.toArray)->inR neg x ws G (qG X.K H Q) ->
   wpAny (model X.prog X.w) X.A (compareOp (if neg then .NotIn else .In) a (.ref p)) (EP X pins σ Q) X.xe s:=fun p ws vs its rs vr ht hin=>by
  obtain ⟨⟨p1,p2,p3⟩,q⟩:=hin;have he:∀ y,y∈its.toArray->EqAt X.A.in1 s y a (eqI X.K H x y):=fun y hy=>zi3 I rx rv p1 rs vr p2 (by show X.A.units+1+_<_;omega) y (by simpa using hy);have ea:=zgC I (x:=x) rs vr p2
  cases neg with
  |false =>
   rcases ht with ht|ht
   .exact in_tupleAt _ ht he (by rw [pF,ea];exact fin _ q)
   .exact in_listAt _ ht he (by rw [pF,ea];exact fin _ q)
  |true =>
   rcases ht with ht|ht
   .exact notIn_tupleAt _ ht he (by rw [pF,ea];exact fin _ q)
   .exact notIn_listAt _ ht he (by rw [pF,ea];exact fin _ q)
 cases y with
 |tup ws =>
  obtain ⟨b1,us,its',rfl,rfl,q',rs',vr',it',_⟩:=wX I ry ru;exact sq b1 ws us its' rs' vr' (.inl it') h
 |ref p =>
  cases ry;cases ru
  have lk:∀ ws,yQ G p=some ws->inR neg x ws G (qG X.K H Q)->wpAny (model X.prog X.w) X.A (compareOp (if neg then .NotIn else .In) a (.ref p)) (EP X pins σ Q) X.xe s:=fun ws e q=>by
   obtain ⟨vs,its,_,rs,vr,il,_⟩:=zct I ab e;exact sq p ws vs its rs vr (.inr il) q
  simp only [vH] at h
  split at h
  .rename_i ws e;exact lk ws (by unfold yQ;rw [e]) h
  .rename_i ws e;exact lk ws (by unfold yQ;rw [e]) h
  .rename_i kvs e
   split at h
   .rename_i kk ek;obtain ⟨l,e1,rk⟩:=ab.dic e;have ev:=zeb rx ek;subst ev;have hs:(vV l kk).isSome=pR kvs kk:=zcN rk;have dg:DGet H p (kV kk) (vV l kk):=.inl ⟨l,kk,.inl e1,rfl,rfl⟩
    cases neg with
    |false=>exact d_in (by omega) I dg rv fun s' I'=>⟨.bl (vV l kk).isSome,H,I',rfl,by rw [hs];exact h _ H .refl rfl ab⟩
    |true=>exact zgY (by omega) I dg rv fun s' I'=>⟨.bl (!(vV l kk).isSome),H,I',rfl,by rw [hs];exact h _ H .refl rfl ab⟩
   .exact h.elim
  .exact h.elim
 |str j =>
  cases x with
  |str i =>
   cases rx;cases ry
   cases neg with
   |false=>exact zck pins s σ H _ _ _ _ Q I rv ru ⟨i,j,rfl,rfl,h _ _ .refl rfl ab⟩
   |true=>exact cU pins s σ H _ _ _ _ Q I rv ru ⟨i,j,rfl,rfl,h _ _ .refl rfl ab⟩
  |_=>exact h.elim
 |_=>exact h.elim
theorem zcj {op:CmpOp} {p:Int->Int->Bool} (ho:kP X (compareOp op) (rI0 fun i j=>.bl (p i j))):kP X (compareOp op) (rW X.K (pU p)):=by
 intro pins s σ H v u a b Q I rv ru h;obtain ⟨x,y,G,rx,ry,ab,h⟩:=h
 cases x with
 |int i =>
  cases y with
  |int j=>cases rx;cases ry;exact ho pins s σ H _ _ _ _ Q I rv ru ⟨i,j,rfl,rfl,h _ _ .refl rfl ab⟩
  |_=>exact h.elim
 |_=>exact h.elim
theorem le_ok:kP X (compareOp .LtE) (rW X.K leR):=by
 intro pins s σ H v u a b Q I rv ru h;obtain ⟨x,y,G,rx,ry,ab,h⟩:=h
 cases x with
 |int i =>
  cases y with
  |int j=>cases rx;cases ry;exact op_le pins s σ H _ _ _ _ Q I rv ru ⟨i,j,rfl,rfl,h _ _ .refl rfl ab⟩
  |_=>exact h.elim
 |str i =>
  cases y with
  |str j =>
   cases rx;cases ry;obtain ⟨t,rfl⟩:=rv;obtain ⟨t',rfl⟩:=ru;exact PySem.P.le_str ⟨.bl (leS i j),H,I,rfl,h _ _ .refl rfl ab⟩
  |_=>exact h.elim
 |_=>exact h.elim
theorem zfc (I:Inv X pins σ H s) (hu:X.A.units+200<cLine) {G:Hw} {x y:W} {v v':V} {u u':Value} {b:Bool} (ab:xL X.K H G) (h:wQ X.K H x v) (r:zC v u) (h':wQ X.K H y v') (r':zC v' u') (e:eqG G x y=some b) :
  RcAt X.A s u u' b/\RcNeAt X.A s u u' (!b):=by
 have gen:∀ (hh:(if (uJ x&&uJ y&&decide (min (dep x) (dep y)<=150))=true then some (kQ x y) else none)=some b),RcAt X.A s u u' b/\RcNeAt X.A s u u' (!b):=fun hh=>by
  split at hh
  .rename_i c;simp only [Bool.and_eq_true,decide_eq_true_eq] at c;cases hh;exact zhF I x y v v' u u' X.A h r h' r' c.1.1 c.1.2 (by omega)
  .cases hh
 cases x with
 |ref p =>
  cases y with
  |ref q =>
   simp only [eqG] at e
   split at e
   .rename_i a1 b1 e1 e2
    split at e
    .rename_i c;simp only [Bool.and_eq_true,decide_eq_true_eq] at c;cases e;cases h;cases h';cases r;cases r';exact zhG I ab e1 e2 c.1.1 c.1.2 (by omega)
    .cases e
   .cases e
  |_=>exact gen e
 |_=>cases y<;>exact gen e
theorem jF (hu:X.A.units+200<cLine) (op:CmpOp):kP X (compareOp op) (rW X.K (yT op)):=by
 cases op with
 |Eq =>
  intro pins s σ H v u a b Q I rv ru h;obtain ⟨x,y,G,rx,ry,ab,h⟩:=h;simp only [yT] at h
  split at h
  .rename_i k e;exact (zfc I hu ab rx rv ry ru e).1 _ _ _ _ ⟨.bl k,H,I,rfl,h _ _ .refl rfl ab⟩
  .exact h.elim
 |NotEq =>
  intro pins s σ H v u a b Q I rv ru h;obtain ⟨x,y,G,rx,ry,ab,h⟩:=h;simp only [yT] at h
  split at h
  .rename_i k e;exact (zfc I hu ab rx rv ry ru e).2 _ _ _ _ ⟨.bl (!k),H,I,rfl,h _ _ .refl rfl ab⟩
  .exact h.elim
 |Is=>exact ziR false
 |IsNot=>exact ziR true
 |In=>exact ze2 false hu
 |NotIn=>exact ze2 true hu
 |Lt=>exact zcj op_lt
 |LtE=>exact le_ok
 |Gt=>exact zcj op_gt
 |GtE=>exact zcj op_ge
end
end L3
namespace L3
open PySem PySem.Spec PyProof.Rows L2 HT
section
variable {prog : Program} {w : World} {A : Around} {E : Value → Shared → Prop} {s : Shared}
theorem zcR {t sl:Addr} {items:Array Value} {vl vu:Value} {lo hi:Option Int} {Q:Value->Shared->Prop} (ht:IsTup s.heap t items) (hs:s.heap.IsSliceOf sl vl vu .none) (pl:IsPart vl lo) (pu:IsPart vu hi)
  (hw:xC items.size 0 lo=0/\xC items.size items.size hi=items.size) (h:Q (.ref t) s):wpAny (model prog w) A (getItem (.ref t) (.ref sl)) Q E s:=by
 obtain ⟨os,hos,hcs,hds⟩:=id hs;have hTs:s.TypeIs (.ref sl) "slice" := ⟨os,hos,hcs⟩;unfold getItem
 try with_reducible refine wpAny_holding ?_
 first|refine wpAny_bind (wpAny_pure ?_)|skip
 refine wpAny_bind (wpAny_sequenceKey ht.typeIs (by decide) ?_)
 refine wpAny_bind (wpAny_callSpecial?_slot (name:=Str.ofString "__getitem__") ht.typeIs PyProof.Rows.slot_tuple_getitem
  (wpAny_call_entry PyProof.Rows.slot_tuple_getitem ht.typeIs entry_tuple_getitem ?_ (args_tuple_getitem _ _)))
 show wpAny _ _ (Builtin.Tuple.tupleItemsOf (.ref t) >>= _) _ _ s;refine wpAny_bind (tupleItemsOf_ ht ?_);refine wpAny_bind (wpAny_typeOf hTs ?_);rw [if_pos (by decide)];refine wpAny_bind (kZ hs pl pu ?_)
 have yes:(((xC items.size 0 lo:Nat):Int)==0&&(1:Int)==1&&(xC items.size items.size hi-xC items.size 0 lo)==items.size)=true:=by
  rw [hw.1,hw.2];simp
 show wpAny _ _ (if (((xC items.size 0 lo:Nat):Int)==0&&(1:Int)==1&&(xC items.size items.size hi-xC items.size 0 lo)==items.size)=true then _ else _) _ _ s;rw [if_pos yes];refine wpAny_bind (m:=Builtin.Tuple.tupleIsExact (.ref t)) ?_;unfold Builtin.Tuple.tupleIsExact;refine wpAny_bind (wpAny_typeOf ht.typeIs (wpAny_pure ?_));rw [if_pos (by decide)];exact wpAny_bind (wpAny_rule (wpAny_pure ⟨_,rfl,wpAny_pure h⟩))
end
section
variable {X : Cx}
def rSlW (K:yN):V->Option Int->Option Int->Hp->VK->Prop:=fun x lo hi H Q=>∃ a xs,x=.ref a/\sL K H a xs/\(HT.xC xs.length 0 lo=0/\HT.xC xs.length xs.length hi=xs.length)/\Q (.ref a) H
theorem zdC:SlR X (rSlW X.K):=by
 intro pins s σ H x v vl vu lo hi sl Q I rx hs pl pu h;obtain ⟨a,xs,rfl,hx,hw,q⟩:=h;cases rx;obtain ⟨its,r,ht,hz⟩:=I.tuple hx;have hlen:its.toArray.size=xs.length:=by rw [zzS];exact r.length.symm
 exact ⟨"tuple", _,PyProof.Rows.slot_tuple_getitem.lookup,ht.typeIs,zcR ht hs pl pu (by rw [hlen];exact hw) ⟨.ref a,H,I,rfl,q⟩⟩
end
end L3
namespace L3
open PySem PySem.Spec PyProof.Rows L2 PySem.SeqAt
def uD (G:Hw):W->Option Bool
 | .non=>some false
 | .bl b=>some b
 | .int i=>some (i != 0)
 | .str y=>if y.length<=sizeLine then some ((y.length:Int) != 0) else none
 | .tup ws=>some (!ws.isEmpty)
 | .ref p=>match G p with
  |some (.lst ws)=>some (!ws.isEmpty)
  |some (.fix ws)=>some (!ws.isEmpty)
  |some (.dic kvs)=>some (!kvs.isEmpty)
  |_=>none
 |_=>none
theorem zF.empty {K:yN} {H:Hp} {ws:List W} {vs:List V} (h:zF K H ws vs):vs.isEmpty=ws.isEmpty:=by
 have:=h.length;cases ws<;>cases vs<;>simp_all
theorem yS.length {K:yN} {H:Hp} {κ:Type}:∀ {l:List (κ×W)} {l':List (κ×V)},yS K H l l'->l'.length=l.length
 | [],_,h=>by rw [show _=[] from h];rfl
 |_::_,_,⟨v,t,e,_,r⟩=>by rw [e,List.length_cons,List.length_cons,yS.length r]
theorem zfs {K:yN} {H:Hp} {G:Hw} {w:W} {v:V} {k:Bool} (r:wQ K H w v) (ab:xL K H G) (h:uD G w=some k):TruV K v H k:=by
 cases w with
 |non=>cases r;cases h;rfl
 |bl b=>cases r;cases h;rfl
 |int i=>cases r;cases h;rfl
 |str y =>
  cases r;simp only [uD] at h
  split at h
  .rename_i c;cases h;exact ⟨c,rfl⟩
  .cases h
 |ty n=>cases h
 |lsf n=>cases h
 |exc _ _ _=>cases h
 |dcf _ _=>cases h
 |tup ws =>
  obtain ⟨a,vs,rfl,q,rs⟩:=r;cases h;exact .inr (.inl ⟨vs,q,by rw [rs.empty]⟩)
 |ref p =>
  cases r
  have lk:∀ ws,yQ G p=some ws->k=!ws.isEmpty->TruV K (.ref p) H k:=fun ws e q=>by
   obtain ⟨vs,sq,rs⟩:=ab.seq e;exact .inl ⟨vs,sq,by rw [rs.empty];exact q⟩
  simp only [uD] at h
  split at h
  .rename_i ws e;cases h;exact lk ws (by unfold yQ;rw [e]) rfl
  .rename_i ws e;cases h;exact lk ws (by unfold yQ;rw [e]) rfl
  .rename_i kvs e;cases h;obtain ⟨l,e',rk⟩:=ab.dic e;refine .inr (.inr ⟨l,e',?_⟩);have:=rk.length;cases kvs<;>cases l<;>simp_all
  .cases h
def qE {α:Type} (kvs:List (yO×α)) (k:yO):Option α:=(kvs.find? fun kv=>decide (kv.1=k)).map (·.2)
def jG {α:Type} (kvs:List (yO×α)) (k:yO) (v:α):List (yO×α) :=
 if (kvs.any fun kv=>decide (kv.1=k))=true then kvs.map (fun kv=>if kv.1=k then (kv.1,v) else kv) else kvs++[(k,v)]
theorem yS.get {K:yN} {H:Hp} {k:yO} {w:W}:∀ {l:List (yO×W)} {l':List (yO×V)},yS K H l l'->qE l k=some w->∃ v,vV l' k=some v/\wQ K H w v
 | [],_,h,e=>by cases e
 |p::r,_,⟨v,t,e,h,hr⟩,q=>by
  subst e;unfold qE at q;rw [List.find?_cons] at q;unfold vV;rw [List.find?_cons]
  by_cases hk:p.1=k
  .simp only [hk,decide_true] at q ⊢;cases q;exact ⟨v,rfl,h⟩
  .simp only [hk,decide_false] at q ⊢;exact yS.get hr q
theorem yS.any {K:yN} {H:Hp} {k:yO}:∀ {l:List (yO×W)} {l':List (yO×V)},yS K H l l'->(l'.any fun kv=>decide (kv.1=k))=l.any fun kv=>decide (kv.1=k)
 | [],_,h=>by rw [show _=[] from h];rfl
 |p::r,_,⟨v,t,e,h,hr⟩=>by subst e;rw [List.any_cons,List.any_cons,yS.any hr]
theorem yS.app {K:yN} {H:Hp} {κ:Type}:∀ {l:List (κ×W)} {l':List (κ×V)} {m:List (κ×W)} {m':List (κ×V)},yS K H l l'->yS K H m m'->yS K H (l++m) (l'++m')
 | [],_,_,_,h,h'=>by rw [show _=[] from h];exact h'
 |p::r,_,_,_,⟨v,t,e,h,hr⟩,h'=>by rw [e];exact ⟨v,_,rfl,h,yS.app hr h'⟩
theorem yS.repl {K:yN} {H:Hp} {k:yO} {w:W} {v:V} (q:wQ K H w v):∀ {l:List (yO×W)} {l':List (yO×V)},yS K H l l' ->
  yS K H (l.map fun kv=>if kv.1=k then (kv.1,w) else kv) (l'.map fun kv=>if kv.1=k then (kv.1,v) else kv)
 | [],_,h=>by rw [show _=[] from h];rfl
 |p::r,_,⟨u,t,e,h,hr⟩=>by
  subst e;rw [zzU,zzU]
  by_cases hk:p.1=k
  .simp only [hk,if_true];exact ⟨v,_,rfl,q,yS.repl q hr⟩
  .simp only [hk,if_false];exact ⟨u,_,rfl,h,yS.repl q hr⟩
theorem yS.put {K:yN} {H:Hp} {k:yO} {w:W} {v:V} {l:List (yO×W)} {l':List (yO×V)} (h:yS K H l l') (q:wQ K H w v):yS K H (jG l k w) (vU l' k v):=by
 unfold jG vU;rw [h.any]
 split
 .exact yS.repl q h
 .exact h.app ⟨v,[],rfl,q,rfl⟩
theorem zcB {K:yN} {H:Hp} {y:W} {v:V} {k:yO} (r:wQ K H y v) (h:jE y=some k):v=kV k:=by
 cases y<;>first|(cases h;cases r;rfl)|cases h
theorem mX {k:Str}:∀ {es:List DictEntry} {ks:List Str} {vs:List V},zha es ks vs->(es.all fun e=>isExactStrKey e.key)=true/\(match (ks.zip vs).lookup k with
  |some v=>∃ u,(es.find? fun e=>e.key.isStr k).map (·.val)=some u/\zC v u
  |none=>(es.find? fun e=>e.key.isStr k).map (·.val)=none)
 | [],ks,vs,h=>by obtain ⟨rfl,rfl⟩:=h;exact ⟨rfl,rfl⟩
 |e::r,ks,vs,h=>by
  obtain ⟨x,t,v,ks',vs',rfl,rfl,hk,hv,hr⟩:=h;have ih:=mX (k:=k) hr;refine ⟨by rw [List.all_cons,hk,ih.1];rfl,?_⟩;rw [List.zip_cons_cons,List.lookup_cons,List.find?_cons,KTD.key_is hk k]
  by_cases hx:k=x
  .subst hx;simp only [beq_self_eq_true,decide_true];exact ⟨e.val,rfl,hv⟩
  .have e1:(k==x)=false:=by simpa using hx
   rw [e1,decide_eq_false hx];exact ih.2
theorem zix {X:Cx} {pins:List (Addr×Obj)} {σ:L2.St} {H:Hp} {s:Shared} {a:Addr} {ks:List Str} {vs:List V} {k:Str} {tk:Tok} {A:Around} {Q:Option Value->Shared->Prop} {E:Value->Shared->Prop} (I:Inv X pins σ H s) (h:KD X.K a ks vs)
  (q:match (ks.zip vs).lookup k with|some v=>∀ u s',zC v u->Inv X pins σ H s'->Q (some u) s'|none=>∀ s',Inv X pins σ H s'->Q none s'):wpAny (model X.prog X.w) A (dictGet a (.str k tk)) Q E s:=by
 obtain ⟨o,es,ep,l,_,hd,_,_,hr⟩:=h;have ho:=I.kIn _ _ l;obtain ⟨hx,hf⟩:=mX (k:=k) hr;have J:Inv X pins σ H { s with toks:=s.toks+1 }:=I.tok _;unfold dictGet
 try with_reducible refine wpAny_holding ?_
 refine wpAny_bind (wpAny_pyHash_str (wpAny_bind ?_));refine KTD.kt_dictFind_strs (s:={ s with toks:=s.toks+1 }) ho hd (by obtain ⟨es'⟩:=es;simpa using hx) ?_
 have key:Q (findBy (fun k v=>v.isStr k) es k) { s with toks:=s.toks+1 }:=by
  have e:findBy (fun k v=>v.isStr k) es k=(es.toList.find? fun e=>e.key.isStr k).map (·.val):=by obtain ⟨es'⟩:=es;simp [findBy]
  rw [e];revert q hf
  cases (ks.zip vs).lookup k with
  |some v=>intro q hf;obtain ⟨u,e1,r⟩:=hf;rw [e1];exact q u _ r J
  |none=>intro q hf;rw [hf];exact q _ J
 rw [findBy_of_findIdx?] at key;revert key
 cases es.findIdx? fun e=>e.key.isStr k with
 |none=>exact fun key=>wpAny_pure key
 |some i=>exact fun key=>wpAny_bind (wpAny_dictEntries (s:={ s with toks:=s.toks+1 }) ho hd (wpAny_pure key))
theorem kd_ty {X:Cx} {pins:List (Addr×Obj)} {σ:L2.St} {H:Hp} {s:Shared} {a:Addr} {ks:List Str} {vs:List V} (I:Inv X pins σ H s) (h:KD X.K a ks vs):s.TypeIs (.ref a) "dict" := by
 obtain ⟨o,es,ep,l,hc,_⟩:=h;exact ⟨o,I.kIn _ _ l,hc.1⟩
theorem ix_kd {X:Cx} {value slice:PySem.Expr} {pins:List (Addr×Obj)} {s:Shared} {σ:L2.St} {H:Hp} {a:Addr} {u:Value} {ks:List Str} {vs:List V} {k:Str} {v:V} {Q:VK} (I:Inv X pins σ H s) (h:KD X.K a ks vs) (ry:zC (.str k) u) (e:(ks.zip vs).lookup k=some v) (q:Q v H)
  (hs:subscripted slice false (.ref a) u=operate [.ref a,u] (getItem (.ref a) u)):wpAny (model X.prog X.w) X.A (subscriptTail value slice (.ref a) u) (EP X pins σ Q) X.xe s:=by
 have hT:=kd_ty I h;obtain ⟨tk,rfl⟩:=ry;refine tail_any hT PySem.F.slot_dict_getitem.lookup ?_ hs;unfold getItem
 try with_reducible refine wpAny_holding ?_
 refine wpAny_bind (wpAny_sequenceKey hT (by decide) (wpAny_bind ?_));refine wpAny_callSpecial?_slot (name:=Str.ofString "__getitem__") hT PySem.F.slot_dict_getitem (wpAny_call_entry PySem.F.slot_dict_getitem hT PySem.F.entry_dict_getitem ?_ (PySem.F.args_dict_getitem_2 _ _));show wpAny _ _ (dictGet a (.str k tk) >>= _) _ _ s;refine wpAny_bind (zix I h ?_);rw [e];exact fun u s' r J=>wpAny_pure ⟨u,rfl,wpAny_pure ⟨v,H,J,r,q⟩⟩
theorem rE {K:yN} {H:Hp} {k:Str} {w:W}:∀ {ks:List Str} {ws:List W} {vs:List V},zF K H ws vs->(ks.zip ws).lookup k=some w->∃ v,(ks.zip vs).lookup k=some v/\wQ K H w v
 | [],ws,vs,_,e=>by simp at e
 |x::ks,[],vs,_,e=>by simp at e
 |x::ks,y::ws,vs,r,e=>by
  obtain ⟨v,vs',rfl,rv,rs⟩:=r;rw [List.zip_cons_cons,List.lookup_cons] at e ⊢
  cases hx:(k==x) with
  |true=>rw [hx] at e;cases e;exact ⟨v,rfl,rv⟩
  |false=>rw [hx] at e;exact rE rs e
def qM:R3:=fun x y G Q=>match x,y with
 | .tup ws,.int i=>(match sM ws i with|some w=>Q w G|none=>False)
 | .str z,.int i=>z.length<=sizeLine/\(match sM z.cps.toList i with|some c=>Q (.str ⟨#[c]⟩) G|none=>False)
 | .ref p,y=>(match G p with
  |some (.lst ws)=>(match y with|.int i=>(match sM ws i with|some w=>Q w G|none=>False)|_=>False)
  |some (.fix ws)=>(match y with|.int i=>(match sM ws i with|some w=>Q w G|none=>False)|_=>False)
  |some (.dic kvs)=>(match jE y with|some k=>(match qE kvs k with|some w=>Q w G|none=>False)|none=>False)
  |_=>False)
 | .dcf ks ws,.str k=>(match (ks.zip ws).lookup k with|some w=>Q w G|none=>False)
 |_,_=>False
theorem zdi {K:yN} {H:Hp} {ws:List W} {vs:List V} {i:Int} {w:W} (h:zF K H ws vs) (e:sM ws i=some w):∃ v,sM vs i=some v/\wQ K H w v:=by
 unfold sM at e ⊢;rw [h.length]
 cases q:gQ ws.length i with
 |none=>rw [q] at e;cases e
 |some j =>
  rw [q] at e;exact h.get e
theorem zaO:pX qM:=by
 intro x y G Q Q' k h
 cases x with
 |tup ws =>
  cases y<;>simp only [qM] at h ⊢<;>first
   |exact h.elim
   | (split at h<;>first|exact k _ _ h|exact h.elim)
 |str z =>
  cases y<;>simp only [qM] at h ⊢<;>first
   |exact h.elim
   | (refine ⟨h.1,?_⟩;have h:=h.2;split at h<;>first|exact k _ _ h|exact h.elim)
 |ref p =>
  simp only [qM] at h ⊢
  split at h
  .cases y<;>simp only at h ⊢<;>first
    |exact h.elim
    | (split at h<;>first|exact k _ _ h|exact h.elim)
  .cases y<;>simp only at h ⊢<;>first
    |exact h.elim
    | (split at h<;>first|exact k _ _ h|exact h.elim)
  .split at h
   .split at h
    .exact k _ _ h
    .exact h.elim
   .exact h.elim
  .exact h.elim
 |dcf ks ws =>
  cases y<;>simp only [qM] at h ⊢<;>first
   |exact h.elim
   | (split at h<;>first|exact k _ _ h|exact h.elim)
 |_=>exact h.elim
section
variable {X : Cx}
theorem ziC (hu:X.A.units+200<cLine) {value slice:PySem.Expr} {pins:List (Addr×Obj)} {s:Shared} {σ:L2.St} {H:Hp} {a:Addr} {u:Value} {y v:V} {Q:VK} (I:Inv X pins σ H s) (g:DGet H a y (some v)) (hd:IsD H a) (ry:zC y u) (q:Q v H)
  (hs:subscripted slice false (.ref a) u=operate [.ref a,u] (getItem (.ref a) u)):wpAny (model X.prog X.w) X.A (subscriptTail value slice (.ref a) u) (EP X pins σ Q) X.xe s:=by
 exact tail_any (ziS I hd).1 PySem.F.slot_dict_getitem.lookup (zc4 (by omega) I g ry fun w' s' I' r'=>⟨v,H,I',r',q⟩) hs
theorem ix_ok (hu:X.A.units+200<cLine):IxR X (rW X.K qM):=by
 intro value slice pins s σ H v u a b Q I rv ru h hs;obtain ⟨x,y,G,rx,ry,ab,h⟩:=h
 cases x with
 |tup ws =>
  cases y with
  |int i =>
   obtain ⟨a1,vs,rfl,q,rs⟩:=rx;cases ry;simp only [qM] at h
   split at h
   .rename_i w e;obtain ⟨vv,ev,rp⟩:=zdi rs e;exact ziA value slice pins s σ H _ _ _ _ Q I rv ru ⟨a1,vs,i,vv,rfl,rfl,q,ev,h _ _ .refl rp ab⟩ hs
   .exact h.elim
  |_=>exact h.elim
 |str z =>
  cases y with
  |int i =>
   cases rx;cases ry;simp only [qM] at h;obtain ⟨hz,h⟩:=h
   split at h
   .rename_i c e;exact ziB value slice pins s σ H _ _ _ _ Q I rv ru ⟨z,i,c,rfl,rfl,hz,e,h _ _ .refl rfl ab⟩ hs
   .exact h.elim
  |_=>exact h.elim
 |ref p =>
  cases rx
  have lk:∀ ws i w,yQ G p=some ws->y=.int i->sM ws i=some w->qG X.K H Q w G->wpAny (model X.prog X.w) X.A (subscriptTail value slice a b) (EP X pins σ Q) X.xe s:=fun ws i w e ey ew q=>by
   subst ey;obtain ⟨vs,sq,rs⟩:=ab.seq e;obtain ⟨vv,ev,rp⟩:=zdi rs ew;cases ry;exact zgi value slice pins s σ H _ _ _ _ Q I rv ru ⟨p,vs,i,vv,rfl,rfl,sq,ev,q _ _ .refl rp ab⟩ hs
  simp only [qM] at h
  split at h
  .rename_i ws e
   cases y with
   |int i =>
    simp only at h
    split at h
    .rename_i w ew;exact lk ws i w (by unfold yQ;rw [e]) rfl ew h
    .exact h.elim
   |_=>exact h.elim
  .rename_i ws e
   cases y with
   |int i =>
    simp only at h
    split at h
    .rename_i w ew;exact lk ws i w (by unfold yQ;rw [e]) rfl ew h
    .exact h.elim
   |_=>exact h.elim
  .rename_i kvs e
   split at h
   .rename_i k ek
    split at h
    .rename_i w ew;obtain ⟨l,e',rk⟩:=ab.dic e;obtain ⟨vv,ev,rp⟩:=rk.get ew;have ey:=zcB ry ek;subst ey;obtain rfl:a=Value.ref p:=rv;exact ziC hu I (.inl ⟨l,k,.inl e',rfl,ev.symm⟩) (.inl ⟨l,.inl e'⟩) ru (h _ _ .refl rp ab) hs
    .exact h.elim
   .exact h.elim
  .exact h.elim
 |dcf ks ws =>
  cases y with
  |str k =>
   obtain ⟨a1,vs,rfl,kd,rs⟩:=rx;obtain rfl:a=Value.ref a1:=rv;cases (show u=.str k from ry);simp only [qM] at h
   split at h
   .rename_i w e;obtain ⟨vv,ev,rp⟩:=rE rs e;exact ix_kd I kd ru ev (h _ _ .refl rp ab) hs
   .exact h.elim
  |_=>exact h.elim
 |_=>exact h.elim
end
def pG {α:Type} (xs:List α) (lo hi:Option Int):List α:=(xs.drop (HT.xC xs.length 0 lo)).take (HT.xC xs.length xs.length hi-HT.xC xs.length 0 lo)
theorem bZ {K:yN} {H:Hp} {ws:List W} {vs:List V} (h:zF K H ws vs) (lo hi:Option Int):zF K H (pG ws lo hi) (cutV vs lo hi):=by
 unfold pG cutV;rw [h.length];exact (h.drop _).take _
def gB:W->Option Int->Option Int->Hw->Q3->Prop:=fun x lo hi G Q=>match x with
 | .tup ws=>Q (.tup (pG ws lo hi)) G
 | .ref p=>(match yQ G p with|some ws=>∀ r,G r=none->Q (.ref r) (put G r (.lst (pG ws lo hi)))|none=>False)
 | .lsf ws=>∀ r,G r=none->Q (.ref r) (put G r (.lst (pG ws lo hi)))
 | .str x=>x.length<=sizeLine/\Q (.str (Txt.slice x lo hi)) G
 |_=>False
theorem zau {x:W} {lo hi:Option Int} {G:Hw} {Q Q':Q3} (k:∀ w G',Q w G'->Q' w G') (h:gB x lo hi G Q):gB x lo hi G Q':=by
 cases x with
 |tup ws=>exact k _ _ h
 |ref p =>
  simp only [gB] at h ⊢
  split at h
  .exact fun r hr=>k _ _ (h r hr)
  .exact h.elim
 |lsf ws=>exact fun r hr=>k _ _ (h r hr)
 |str x=>exact ⟨h.1,k _ _ h.2⟩
 |_=>exact h.elim
theorem zhs {X:Cx} {pins:List (Addr×Obj)} {s:Shared} {σ:L2.St} {H:Hp} {x:Str} {v vl vu:Value} {lo hi:Option Int} {sl:Addr} {Q:VK} (I:Inv X pins σ H s) (rv:zC (.str x) v) (hs:s.heap.IsSliceOf sl vl vu .none)
  (pl:IsPart vl lo) (pu:IsPart vu hi) (hz:x.length<=sizeLine) (q:Q (.str (Txt.slice x lo hi)) H):∃ T id,typeLookup (.type T) "__getitem__" = pure (some (.builtin id))/\s.TypeIs v T/\wpAny (model X.prog X.w) X.A (getItem v (.ref sl)) (EP X pins σ Q) X.xe s:=by
 obtain ⟨t,rfl⟩:=rv;have fin:∀ t' k,EP X pins σ Q (.str (Txt.slice x lo hi) t') { s with toks:=k }:=fun t' k=>⟨.str (Txt.slice x lo hi),H,I.tok _,⟨t',rfl⟩,q⟩;have hz':=Nat.le_trans (Txt.slice_le x lo hi) hz;refine ⟨"str", _,F.slot_str_getitem.lookup,typeIs_str _ _ _,?_⟩;obtain ⟨o,ho,hc,hd⟩:=hs
 cases pl with
 |none =>
  cases pu with
  |none=>exact wpAny_getItem_str_slice (l:=none) (u:=none) (st:=none) ⟨o,ho,hc,hd⟩ rfl (post_val_or_str ⟨hz',fin⟩)
  |int j tj=>exact wpAny_getItem_str_slice (l:=none) (u:=some (j,tj)) (st:=none) ⟨o,ho,hc,hd⟩ rfl (post_val_or_str ⟨hz',fin⟩)
 |int i ti =>
  cases pu with
  |none=>exact wpAny_getItem_str_slice (l:=some (i,ti)) (u:=none) (st:=none) ⟨o,ho,hc,hd⟩ rfl (post_val_or_str ⟨hz',fin⟩)
  |int j tj=>exact wpAny_getItem_str_slice (l:=some (i,ti)) (u:=some (j,tj)) (st:=none) ⟨o,ho,hc,hd⟩ rfl (post_val_or_str ⟨hz',fin⟩)
def lowSl (K:yN) (r:W->Option Int->Option Int->Hw->Q3->Prop):V->Option Int->Option Int->Hp->VK->Prop:=fun v lo hi H Q=>∃ x G,wQ K H x v/\xL K H G/\r x lo hi G (qG K H Q)
theorem sl_ok {X:Cx}:SlR X (lowSl X.K gB):=by
 intro pins s σ H v u vl vu lo hi sl Q I rv hs pl pu h;obtain ⟨x,G,rx,ab,h⟩:=h
 cases x with
 |tup ws =>
  obtain ⟨a,vs,rfl,q,rs⟩:=rx
  by_cases hw:HT.xC vs.length 0 lo=0/\HT.xC vs.length vs.length hi=vs.length
  .have e:pG ws lo hi=ws:=by
    have hw':=hw;rw [rs.length] at hw';unfold pG;rw [hw'.1,hw'.2,List.drop_zero,Nat.sub_zero,List.take_length]
   have h':qG X.K H Q (.tup (pG ws lo hi)) G:=h;rw [e] at h';exact zdC pins s σ H _ _ vl vu lo hi sl Q I rv hs pl pu ⟨a,vs,rfl,q,hw,h' _ _ .refl ⟨a,vs,rfl,q,rs⟩ ab⟩
  .exact zhr pins s σ H _ _ vl vu lo hi sl Q I rv hs pl pu ⟨a,vs,rfl,q,hw,sY ab (bZ rs lo hi) h⟩
 |ref p =>
  cases rx;simp only [gB] at h
  split at h
  .rename_i ws e;obtain ⟨vs,sq,rs⟩:=ab.seq e;exact zbY pins s σ H _ _ vl vu lo hi sl Q I rv hs pl pu ⟨p,vs,rfl,sq,jL ab (bZ rs lo hi) h⟩
  .exact h.elim
 |lsf ws =>
  obtain ⟨a,vs,rfl,q,rs⟩:=rx;exact zbY pins s σ H _ _ vl vu lo hi sl Q I rv hs pl pu ⟨a,vs,rfl,.inr q,jL ab (bZ rs lo hi) h⟩
 |str x =>
  cases (show v=.str x from rx);exact zhs I rv hs pl pu h.1 (h.2 _ _ .refl rfl ab)
 |_=>exact h.elim
def sH:W->W->W->Hw->(Hw->Prop)->Prop:=fun o i v G Q=>match o with
 | .ref p=>(match G p with
  |some (.lst ws)=>(match i with|.int k=>(match gQ ws.length k with|some j=>Q (put G p (.lst (ws.set j v)))|none=>False)|_=>False)
  |some (.dic kvs)=>(match jE i with|some k=>kvs.length<sizeLine/\Q (put G p (.dic (jG kvs k v)))|none=>False)
  |_=>False)
 |_=>False
theorem zb0 {o i v:W} {G:Hw} {Q Q':Hw->Prop} (k:∀ G',Q G'->Q' G') (h:sH o i v G Q):sH o i v G Q':=by
 cases o with
 |ref p =>
  simp only [sH] at h ⊢
  split at h
  .cases i<;>simp only at h ⊢<;>first
    |exact h.elim
    | (split at h<;>first|exact k _ h|exact h.elim)
  .split at h
   .exact ⟨h.1,k _ h.2⟩
   .exact h.elim
  .exact h.elim
 |_=>exact h.elim
def ze4 (K:yN):TSet:=fun o i v H Q=>∃ x y z G,wQ K H x o/\wQ K H y i/\wQ K H z v/\xL K H G/\sH x y z G fun G'=>∀ H',yJ K H H'->xL K H' G'->Q H'
theorem zht {X:Cx} (hu:X.A.units+200<cLine):PSet X (ze4 X.K):=by
 intro pins s σ H o i v ov iv u Q I ro ri rv h;obtain ⟨x,y,z,G,rx,ry,rz,ab,h⟩:=h
 cases x with
 |ref p =>
  cases rx;simp only [sH] at h
  split at h
  .rename_i ws e
   cases y with
   |int k =>
    simp only at h
    split at h
    .rename_i j ej;cases ry;obtain ⟨vs,q1,r1⟩:=ab.lst e;refine zdD pins s σ H _ _ _ _ _ _ Q I ro ri rv ⟨p,vs,k,j,rfl,rfl,q1,by rw [r1.length];exact ej,?_⟩;have g:=ab.grow (u:=.lst (vs.set j v)) e;exact h _ g (ab.chg e ⟨_,rfl,((r1.mono g).set (rz.mono g) j)⟩)
    .exact h.elim
   |_=>exact h.elim
  .rename_i kvs e
   split at h
   .rename_i k ek;obtain ⟨l,e',rk⟩:=ab.dic e;have ey:=zcB ry ek;subst ey;obtain rfl:ov=Value.ref p:=ro;refine zc3 (by omega) I (.inl ⟨l,k,e',rfl,by rw [rk.length];exact h.1,rfl⟩) ri rv fun s' I'=>⟨_,I',?_⟩;have g:=ab.grow (u:=.dK (vU l k v)) e;exact h.2 _ g (ab.chg e ⟨_,rfl,(rk.mono g).put (rz.mono g)⟩)
   .exact h.elim
  .exact h.elim
 |_=>exact h.elim
end L3
namespace L3
open PySem PySem.Spec PyProof.Rows L2
abbrev XQ:=Str->List (Str×W)->Hw->Prop
def XN:XQ:=fun _ _ _=>False
abbrev tQ:=List W->Hw->Q3->XQ->Prop
structure Fn3 where
 nm:Str
 sp:tQ
structure Mt3 where
 nm:Str
 T:String
 sp:W->List W->Hw->Q3->Prop
abbrev I3:=jH->Hw->(List W->(Hw->Prop)->Hw->Prop)->Prop
structure It3 where
 nm:Str
 sp:List W->Hw->(List W->(Hw->Prop)->Hw->Prop)->Prop
structure Sx3 where
 m:Scope->Expr->Option (List Expr)
 sp:List W->Hw->Q3->Prop
structure Ix3 where
 m:Scope->Expr->Option (List Expr)
 sp:List W->Hw->(List W->(Hw->Prop)->Hw->Prop)->Prop
structure Ctx3 where
 fn:List Fn3
 gl:List (Str×W)
 mt:List Mt3
 it:List It3
 cl:List (Addr×List Str)
 sx:List Sx3
 ix:List Ix3
set_option genInjectivity false
mutual
inductive IE where
 |var (i:Nat)|con (c:Const)|glb (i:Nat)
 |bin (op:Operator) (a b:IE)|neg (a:IE)|not (a:IE)
 |cmp (op:CmpOp) (a b:IE)|chn (o1 o2:CmpOp) (a b c:IE)
 |and (a b:IE)|or (a b:IE)|ite (c a b:IE)
 |ix (a i:IE)|sl (a:IE) (lo hi:IO)
 |tup (es:IEs)|lst (es:IEs)|dct (ks:List Str) (es:IEs)
 |call (f:Nat) (es:IEs)|mth (m:Nat) (o:IE) (es:IEs)|att (o:IE) (f:Str)
 |lc (tg:ITg) (names:List Str) (caps:List Nat) (it:II) (c:IO) (elt:IE)
 |spc (i:Nat) (es:IEs)|ch3 (o1 o2 o3:CmpOp) (a b c d:IE)
inductive IO where
 |no|yes (e:IE)
inductive IEs where
 |nil|cons (e:IE) (es:IEs)
inductive II where
 |val (e:IE)|blt (i:Nat) (es:IEs)|spc (i:Nat) (es:IEs)
inductive ITg where
 |nm (i:Nat)|tup (ts:ITgs)
inductive ITgs where
 |nil|cons (t:ITg) (ts:ITgs)
end
mutual
inductive IS where
 |asg (i:Nat) (e:IE)|asgT (ts:ITgs) (e:IE)|asgI (o i e:IE)|asgA (o:IE) (f:Str) (e:IE)
 |ex (e:IE)|ret (e:IE)|retN|pass|brk|cnt
 |ite (c:IE) (a b:ISs)|whl (c:IE) (b:ISs)|for (tg:ITg) (it:II) (b:ISs)|dead
inductive ISs where
 |nil|cons (s:IS) (ss:ISs)
end
def zJ:Const->Option W
 | .none=>some .non
 | .bool b=>some (.bl b)
 | .int i=>some (.int i)
 | .str x=>some (.str x)
 |_=>none
abbrev G3:=W->jH->Hw->(jH->Hw->Prop)->Prop
abbrev Gs3:=List W->jH->Hw->(jH->Hw->Prop)->Prop
mutual
def zU:ITg->G3
 | .nm i=>fun w σ G Q=>Q (σ.set i (some w)) G
 | .tup ts=>fun w σ G Q=>match w with
  | .tup ws=>zZ ts ws σ G Q
  |_=>False
def zZ:ITgs->Gs3
 | .nil=>fun ws σ G Q=>match ws with | []=>Q σ G|_=>False
 | .cons t ts=>fun ws σ G Q=>match ws with
  |w::r=>zU t w σ G fun σ' G'=>zZ ts r σ' G' Q
  | []=>False
end
def jS (k:Nat) (caps:List Nat) (σ:jH):jH:=List.replicate k none++caps.map fun j=>(σ[j]?).join
def sgs (x:Str):List W:=x.cps.toList.map fun c=>.str ⟨#[c]⟩
def kW:yO->W
 | .inl i=>.int i
 | .inr x=>.str x
def jP (G:Hw) (p:Addr):Option (List (yO×W)):=match G p with
 |some (.dic kvs)=>some kvs
 |some (.fzd kvs)=>some kvs
 |_=>none
def wS (w:W) (G:Hw) (R:List W->(Hw->Prop)->Hw->Prop):Prop:=match w with
 | .tup ws=>R ws (fun _=>True) G
 | .ref p=>(match yQ G p with
  |some ws=>R ws (fun G'=>yQ G' p=some ws) G
  |none=>(match jP G p with
   |some kvs=>R (kvs.map fun kv=>kW kv.1) (fun G'=>G' p=some (.fzd kvs)) (put G p (.fzd kvs))
   |none=>False))
 | .str x=>R (sgs x) (fun _=>True) G
 |_=>False
def lcR (items:List W) (stab:Hw->Prop) (G1:Hw) (turn:W->Hw->(Option W->Hw->Prop)->Prop) (Q:Q3):Prop :=
 ∃ Pv:Nat->List W->Hw->Prop,Pv 0 [] G1/\(∀ i acc G,Pv i acc G->i<=items.length->stab G/\acc.length<=i)/\items.length<=sizeLine /\
  (∀ i w acc G,items[i]?=some w->Pv i acc G->turn w G fun o G'=>match o with|some x=>Pv (i+1) (acc++[x]) G'|none=>Pv (i+1) acc G') /\
  ∀ acc G,Pv items.length acc G->∀ p,G p=none->Q (.ref p) (put G p (.lst acc))
def zK (w:W) (G:Hw) (Q:Q3):Prop:=match w with|.int i=>Q (.int (-i)) G|_=>False
def yY (w:W) (Q:Bool->Prop):Prop:=match w with|.bl b=>Q b|_=>False
def zL (w:W) (Q:Int->Prop):Prop:=match w with|.int i=>Q i|_=>False
def tyW (G:Hw):W->String->Prop
 | .str _,T=>T = "str"
 | .ref p,T=>match G p with
  |some (.lst _)=>T = "list"
  |some (.fix _)=>T = "list"
  |some (.dic _)=>T = "dict"
  |_=>False
 |_,_=>False
def attR (cl:List (Addr×List Str)) (f:Str) (w:W) (G:Hw) (Q:Q3):Prop:=match w with
 | .ref p=>(match G p with
  |some (.ins C fs)=>(∃ l,(C,l)∈cl/\f∈l)/\(match fs.lookup f with|some v=>Q v G|none=>False)
  |_=>False)
 |_=>False
def zca (f:Str) (v:W):List (Str×W)->List (Str×W)
 | []=>[(f,v)]
 | (g,x)::r=>if g=f then (g,v)::r else (g,x)::zca f v r
def satR (cl:List (Addr×List Str)) (f:Str) (o v:W) (G:Hw) (Q:Hw->Prop):Prop:=match o with
 | .ref p=>(match G p with
  |some (.ins C fs)=>(∃ l,(C,l)∈cl/\f∈l)/\fs.length<1000/\Q (put G p (.ins C (zca f v fs)))
  |_=>False)
 |_=>False
def zgX (ks:List Str) (ws:List W):List (yO×W):=(ks.zip ws).foldl (fun acc kv=>jG acc (.inr kv.1) kv.2) []
structure ET where
 e:E3
 t:T3
def zO (e:E3):T3:=fun σ G Q=>e σ G fun w G1=>match uD G1 w with|some b=>Q b G1|none=>False
def yW (e:E3):T3:=fun σ G Q=>e σ G fun w G1=>yY w fun b=>Q b G1
def zB (e:E3):ET:=⟨e,zO e⟩
def yX (e:E3):ET:=⟨e,yW e⟩
def hJ:List E3->A3
 | []=>fun _ G Q=>Q [] G
 |e::es=>fun σ G Q=>e σ G fun x G1=>hJ es σ G1 fun xs G2=>Q (x::xs) G2
section
variable (Γ : Ctx3)
mutual
def zI (E:XQ):IE->ET
 | .var i=>zB fun σ G Q=>match σ[i]? with|some (some w)=>Q w G|_=>False
 | .con c=>zB fun σ G Q=>match zJ c with|some w=>Q w G|none=>False
 | .glb i=>zB fun σ G Q=>match Γ.gl[i]? with|some p=>Q p.2 G|none=>False
 | .bin op a b=>zB fun σ G Q=>(zI E a).e σ G fun x G1=>(zI E b).e σ G1 fun y G2=>jZ op x y G2 Q
 | .neg a=>zB fun σ G Q=>(zI E a).e σ G fun x G1=>zK x G1 Q
 | .not a=>⟨fun σ G Q=>(zI E a).e σ G fun x G1=>yY x fun b=>Q (.bl (!b)) G1,fun σ G Q=>(zI E a).t σ G fun b G1=>Q (!b) G1⟩
 | .cmp op a b=>yX fun σ G Q=>(zI E a).e σ G fun x G1=>(zI E b).e σ G1 fun y G2=>yT op x y G2 Q
 | .chn o1 o2 a b c=>yX fun σ G Q=>(zI E a).e σ G fun x G1=>(zI E b).e σ G1 fun y G2=>yT o1 x y G2 fun z G3=>yY z fun k =>
   if k=true then (zI E c).e σ G3 fun u G4=>yT o2 y u G4 Q else Q (.bl false) G3
 | .and a b=>⟨fun σ G Q=>(zI E a).e σ G fun x G1=>yY x fun k=>if k=true then (zI E b).e σ G1 Q else Q (.bl false) G1,
   fun σ G Q=>(zI E a).t σ G fun k G1=>if k=true then (zI E b).t σ G1 Q else Q false G1⟩
 | .or a b=>⟨fun σ G Q=>(zI E a).e σ G fun x G1=>yY x fun k=>if k=true then Q (.bl true) G1 else (zI E b).e σ G1 Q,
   fun σ G Q=>(zI E a).t σ G fun k G1=>if k=true then Q true G1 else (zI E b).t σ G1 Q⟩
 | .ite c a b=>⟨fun σ G Q=>(zI E c).t σ G fun k G1=>if k=true then (zI E a).e σ G1 Q else (zI E b).e σ G1 Q,fun _ _ _=>False⟩
 | .ix a i=>zB fun σ G Q=>(zI E a).e σ G fun x G1=>(zI E i).e σ G1 fun y G2=>qM x y G2 Q
 | .sl a lo hi=>zB fun σ G Q=>(zI E a).e σ G fun x G1=>zN E lo σ G1 fun l G2=>zN E hi σ G2 fun u G3=>gB x l u G3 Q
 | .tup es=>zB fun σ G Q=>zT E es σ G fun ws G1=>ws.length<=sizeLine/\Q (.tup ws) G1
 | .lst es=>zB fun σ G Q=>zT E es σ G fun ws G1=>ws.length<=sizeLine/\∀ p,G1 p=none->Q (.ref p) (put G1 p (.lst ws))
 | .dct ks es=>zB fun σ G Q=>∀ p,G p=none->zT E es σ (put G p (.dic [])) fun ws G1=>G1 p=some (.dic [])/\ws.length=ks.length/\Q (.ref p) (put G1 p (.dic (zgX ks ws)))
 | .call f es=>zB fun σ G Q=>zT E es σ G fun ws G1=>match Γ.fn[f]? with|some h=>h.sp ws G1 Q E|none=>False
 | .mth m o es=>zB fun σ G Q=>(zI E o).e σ G fun x G1=>match Γ.mt[m]? with|some h=>tyW G1 x h.T/\zT E es σ G1 fun ws G2=>h.sp x ws G2 Q|none=>False
 | .att o f=>zB fun σ G Q=>(zI E o).e σ G fun x G1=>attR Γ.cl f x G1 Q
 | .lc tg names caps it c elt=>zB fun σ G Q=>zR E it σ G fun items stab G1 =>
   lcR items stab G1 (fun w G' K=>zU tg w (jS names.length caps σ) G' fun σ2 G2=>zP c σ2 G2 fun b G3=>if b=true then (zI XN elt).e σ2 G3 fun x G4=>K (some x) G4 else K none G3) Q
 | .spc i es=>zB fun σ G Q=>zT E es σ G fun ws G1=>match Γ.sx[i]? with|some h=>h.sp ws G1 Q|none=>False
 | .ch3 o1 o2 o3 a b c d=>yX fun σ G Q=>(zI E a).e σ G fun x G1=>(zI E b).e σ G1 fun y G2=>yT o1 x y G2 fun z G3=>yY z fun k =>
   if k=true then (zI E c).e σ G3 fun u G4=>yT o2 y u G4 fun z2 G5=>yY z2 fun k2 =>
    if k2=true then (zI E d).e σ G5 fun t G6=>yT o3 u t G6 Q else Q (.bl false) G5
   else Q (.bl false) G3
def zN (E:XQ):IO->jH->Hw->(Option Int->Hw->Prop)->Prop
 | .no=>fun _ G Q=>Q none G
 | .yes e=>fun σ G Q=>(zI E e).e σ G fun x G1=>zL x fun i=>Q (some i) G1
def zP:IO->T3
 | .no=>fun _ G Q=>Q true G
 | .yes e=>(zI XN e).t
def zT (E:XQ):IEs->A3
 | .nil=>fun _ G Q=>Q [] G
 | .cons e es=>fun σ G Q=>(zI E e).e σ G fun x G1=>zT E es σ G1 fun xs G2=>Q (x::xs) G2
def zR (E:XQ):II->I3
 | .val e=>fun σ G R=>(zI E e).e σ G fun w G1=>wS w G1 R
 | .blt i es=>fun σ G R=>zT E es σ G fun ws G1=>match Γ.it[i]? with|some h=>h.sp ws G1 R|none=>False
 | .spc i es=>fun σ G R=>zT E es σ G fun ws G1=>match Γ.ix[i]? with|some h=>h.sp ws G1 R|none=>False
end
def semL:IEs->List E3
 | .nil=>[]
 | .cons e es=>(zI Γ XN e).e::semL es
abbrev zQ (E:XQ) (e:IE):E3:=(zI Γ E e).e
abbrev zM (E:XQ) (e:IE):T3:=(zI Γ E e).t
def forR (items:List W) (stab:Hw->Prop) (D:End3) (σ:jH) (G1:Hw) (turn:W->End3->jH->Hw->Prop):Prop :=
 ∃ Pv:Nat->jH->Hw->Prop,Pv 0 σ G1/\(∀ i σ G,Pv i σ G->i<=items.length->stab G) /\
  (∀ i w σ G,items[i]?=some w->Pv i σ G->turn w { D with nx:=Pv (i+1),ct:=Pv (i+1),bk:=D.nx } σ G)/\∀ σ G,Pv items.length σ G->D.nx σ G
mutual
def zS (E:XQ):IS->S3
 | .asg i e=>fun D σ G=>zQ Γ E e σ G fun w G1=>D.nx (σ.set i (some w)) G1
 | .asgT ts e=>fun D σ G=>zQ Γ E e σ G fun w G1=>zU (.tup ts) w σ G1 D.nx
 | .asgI o i e=>fun D σ G=>zQ Γ E e σ G fun w G1=>zQ Γ E o σ G1 fun x G2=>zQ Γ E i σ G2 fun y G3=>sH x y w G3 fun G4=>D.nx σ G4
 | .asgA o f e=>fun D σ G=>zQ Γ E e σ G fun w G1=>zQ Γ E o σ G1 fun x G2=>satR Γ.cl f x w G2 fun G3=>D.nx σ G3
 | .ex e=>fun D σ G=>zQ Γ E e σ G fun _ G1=>D.nx σ G1
 | .ret e=>fun D σ G=>zQ Γ E e σ G D.rt
 | .retN=>fun D _ G=>D.rt .non G
 | .pass=>fun D σ G=>D.nx σ G
 | .brk=>fun D σ G=>D.bk σ G
 | .cnt=>fun D σ G=>D.ct σ G
 | .ite c a b=>fun D σ G=>zM Γ E c σ G fun k G1=>if k=true then zE E a D σ G1 else zE E b D σ G1
 | .whl c b=>fun D σ G=>∃ Pv:Nat->jH->Hw->Prop,(∃ m,Pv m σ G)/\∀ m σ G,Pv m σ G->zM Γ E c σ G fun k G1 =>
   if k=true then zE E b { D with nx:=fun σ' G'=>∃ m',m' < m/\Pv m' σ' G',ct:=fun σ' G'=>∃ m',m' < m/\Pv m' σ' G',bk:=D.nx } σ G1 else D.nx σ G1
 | .for tg it b=>fun D σ G=>zR Γ E it σ G fun items stab G1=>forR items stab D σ G1 fun w D' σ' G'=>zU tg w σ' G' fun σ2 G2=>zE E b D' σ2 G2
 | .dead=>fun _ _ _=>False
def zE (E:XQ):ISs->S3
 | .nil=>fun D σ G=>D.nx σ G
 | .cons s ss=>fun D σ G=>zS E s { D with nx:=zE E ss D } σ G
end
end
theorem vN (Γ:Ctx3):∀ es:IEs,zT Γ XN es=hJ (semL Γ es)
 | .nil=>rfl
 | .cons e es=>by
  show (fun (σ:jH) (G:Hw) (Q:List W->Hw->Prop)=>(zI Γ XN e).e σ G fun x G1=>zT Γ XN es σ G1 fun xs G2=>Q (x::xs) G2)=_;rw [vN Γ es];rfl
structure TabMono (Γ:Ctx3):Prop where
 fn:∀ f∈Γ.fn,∀ ws G (Q Q':Q3) E,(∀ w G',Q w G'->Q' w G')->f.sp ws G Q E->f.sp ws G Q' E
 mt:∀ m∈Γ.mt,∀ x ws G (Q Q':Q3),(∀ w G',Q w G'->Q' w G')->m.sp x ws G Q->m.sp x ws G Q'
 it:∀ m∈Γ.it,∀ ws G (R R':List W->(Hw->Prop)->Hw->Prop),(∀ a b c,R a b c->R' a b c)->m.sp ws G R->m.sp ws G R'
 sx:∀ m∈Γ.sx,∀ ws G (Q Q':Q3),(∀ w G',Q w G'->Q' w G')->m.sp ws G Q->m.sp ws G Q'
 ix:∀ m∈Γ.ix,∀ ws G (R R':List W->(Hw->Prop)->Hw->Prop),(∀ a b c,R a b c->R' a b c)->m.sp ws G R->m.sp ws G R'
def zjk (t:I3):Prop:=∀ σ G (R R':List W->(Hw->Prop)->Hw->Prop),(∀ a b c,R a b c->R' a b c)->t σ G R->t σ G R'
def zjj (t:jH->Hw->(Option Int->Hw->Prop)->Prop):Prop:=∀ σ G (Q Q':Option Int->Hw->Prop),(∀ a b,Q a b->Q' a b)->t σ G Q->t σ G Q'
theorem qR {w:W} {Q Q':Bool->Prop} (k:∀ b,Q b->Q' b) (h:yY w Q):yY w Q':=by
 cases w<;>first|exact k _ h|exact h.elim
theorem fE {w:W} {Q Q':Int->Prop} (k:∀ b,Q b->Q' b) (h:zL w Q):zL w Q':=by
 cases w<;>first|exact k _ h|exact h.elim
theorem zco {w:W} {G:Hw} {Q Q':Q3} (k:∀ w G,Q w G->Q' w G) (h:zK w G Q):zK w G Q':=by
 cases w<;>first|exact k _ _ h|exact h.elim
theorem zdg {cl:List (Addr×List Str)} {f:Str} {w:W} {G:Hw} {Q Q':Q3} (k:∀ w G,Q w G->Q' w G) (h:attR cl f w G Q):attR cl f w G Q':=by
 cases w with
 |ref p =>
  simp only [attR] at h ⊢
  split at h
  .refine ⟨h.1,?_⟩;have h2:=h.2
   split at h2
   .exact k _ _ h2
   .exact h2.elim
  .exact h.elim
 |_=>exact h.elim
theorem mT {w:W} {G:Hw} {R R':List W->(Hw->Prop)->Hw->Prop} (k:∀ a b c,R a b c->R' a b c) (h:wS w G R):wS w G R':=by
 cases w with
 |tup ws=>exact k _ _ _ h
 |ref p =>
  simp only [wS] at h ⊢
  split at h
  .exact k _ _ _ h
  .split at h
   .exact k _ _ _ h
   .exact h.elim
 |str x=>exact k _ _ _ h
 |_=>exact h.elim
theorem zd9 {items:List W} {stab:Hw->Prop} {G1:Hw} {turn:W->Hw->(Option W->Hw->Prop)->Prop} {Q Q':Q3} (k:∀ w G,Q w G->Q' w G) (h:lcR items stab G1 turn Q):lcR items stab G1 turn Q':=by
 obtain ⟨Pv,h0,h1,h2,h3,h4⟩:=h;exact ⟨Pv,h0,h1,h2,h3,fun acc G hp p hn=>k _ _ (h4 acc G hp p hn)⟩
theorem zbJ {e:E3} (m:wG e):uY (zO e):=fun σ G Q Q' k h=>m σ G _ _ (fun w G1 q=>by
 split at q
 .exact k _ _ q
 .exact q.elim) h
theorem zeE {e:E3} (m:wG e):uY (yW e):=fun σ G Q Q' k h=>m σ G _ _ (fun w G1 q=>qR (fun b=>k b G1) q) h
theorem xU {e:E3} (m:wG e):wG (zB e).e/\uY (zB e).t:=⟨m,zbJ m⟩
theorem nG {e:E3} (m:wG e):wG (yX e).e/\uY (yX e).t:=⟨m,zeE m⟩
theorem wL {α:Type} {l:List α} {i:Nat} {x:α} (h:l[i]?=some x):x∈l:=List.mem_of_getElem? h
variable {Γ : Ctx3} (g : TabMono Γ)
include g
theorem zaJ (e:IE):∀ E,wG (zI Γ E e).e/\uY (zI Γ E e).t:=by
 refine IE.rec (motive_1:=fun e=>∀ E,wG (zI Γ E e).e/\uY (zI Γ E e).t) (motive_2:=fun o=>(∀ E,zjj (zN Γ E o))/\uY (zP Γ o)) (motive_3:=fun es=>∀ E,vW (zT Γ E es)) (motive_4:=fun it=>∀ E,zjk (zR Γ E it))
  (motive_5:=fun _=>True) (motive_6:=fun _=>True) ?var ?con ?glb ?bin ?neg ?not ?cmp ?chn ?and ?or ?ite ?ix ?sl ?tup ?lst ?dct ?call ?mth ?att ?lc ?spc ?ch3 ?no ?yes ?nil ?cons ?val ?blt ?ispc ?nm ?tt ?tn ?tc e
 case var =>
  intro i E;refine xU fun σ G Q Q' k h=>?_
  split at h
  .exact k _ _ h
  .exact h.elim
 case con =>
  intro c E;refine xU fun σ G Q Q' k h=>?_
  split at h
  .exact k _ _ h
  .exact h.elim
 case glb =>
  intro i E;refine xU fun σ G Q Q' k h=>?_
  split at h
  .exact k _ _ h
  .exact h.elim
 case bin=>exact fun op a b ha hb E=>xU fun σ G Q Q' k h=>(ha E).1 σ G _ _ (fun x G1 h=>(hb E).1 σ G1 _ _ (fun y G2 h=>dO op x y G2 _ _ k h) h) h
 case neg=>exact fun a ha E=>xU fun σ G Q Q' k h=>(ha E).1 σ G _ _ (fun x G1 h=>zco k h) h
 case not=>exact fun a ha E=>⟨fun σ G Q Q' k h=>(ha E).1 σ G _ _ (fun x G1 h=>qR (fun b=>k _ _) h) h,fun σ G Q Q' k h=>(ha E).2 σ G _ _ (fun b G1 h=>k _ _ h) h⟩
 case cmp=>exact fun op a b ha hb E=>nG fun σ G Q Q' k h=>(ha E).1 σ G _ _ (fun x G1 h=>(hb E).1 σ G1 _ _ (fun y G2 h=>xX op x y G2 _ _ k h) h) h
 case chn =>
  exact fun o1 o2 a b c ha hb hc E=>nG fun σ G Q Q' k h=>(ha E).1 σ G _ _ (fun x G1 h=>(hb E).1 σ G1 _ _ (fun y G2 h=>xX o1 x y G2 _ _ (fun z G3 h=>qR (fun b h=>by
   split
   .rename_i hb;rw [if_pos hb] at h;exact (hc E).1 σ G3 _ _ (fun u G4 h=>xX o2 y u G4 _ _ k h) h
   .rename_i hb;rw [if_neg hb] at h;exact k _ _ h) h) h) h) h
 case ch3 =>
  exact fun o1 o2 o3 a b c d ha hb hc hd E=>nG fun σ G Q Q' k h=>(ha E).1 σ G _ _ (fun x G1 h=>(hb E).1 σ G1 _ _ (fun y G2 h=>xX o1 x y G2 _ _ (fun z G3 h=>qR (fun b h=>by
   split
   .rename_i hb;rw [if_pos hb] at h
    exact (hc E).1 σ G3 _ _ (fun u G4 h=>xX o2 y u G4 _ _ (fun z2 G5 h=>qR (fun b2 h=>by
     split
     .rename_i hb2;rw [if_pos hb2] at h;exact (hd E).1 σ G5 _ _ (fun t G6 h=>xX o3 u t G6 _ _ k h) h
     .rename_i hb2;rw [if_neg hb2] at h;exact k _ _ h) h) h) h
   .rename_i hb;rw [if_neg hb] at h;exact k _ _ h) h) h) h) h
 case and =>
  exact fun a b ha hb E=>⟨fun σ G Q Q' k h=>(ha E).1 σ G _ _ (fun x G1 h=>qR (fun c h=>by
   split
   .rename_i hc;rw [if_pos hc] at h;exact (hb E).1 σ G1 _ _ k h
   .rename_i hc;rw [if_neg hc] at h;exact k _ _ h) h) h,fun σ G Q Q' k h=>(ha E).2 σ G _ _ (fun c G1 h=>by
   split
   .rename_i hc;rw [if_pos hc] at h;exact (hb E).2 σ G1 _ _ k h
   .rename_i hc;rw [if_neg hc] at h;exact k _ _ h) h⟩
 case or =>
  exact fun a b ha hb E=>⟨fun σ G Q Q' k h=>(ha E).1 σ G _ _ (fun x G1 h=>qR (fun c h=>by
   split
   .rename_i hc;rw [if_pos hc] at h;exact k _ _ h
   .rename_i hc;rw [if_neg hc] at h;exact (hb E).1 σ G1 _ _ k h) h) h,fun σ G Q Q' k h=>(ha E).2 σ G _ _ (fun c G1 h=>by
   split
   .rename_i hc;rw [if_pos hc] at h;exact k _ _ h
   .rename_i hc;rw [if_neg hc] at h;exact (hb E).2 σ G1 _ _ k h) h⟩
 case ite =>
  exact fun c a b hc ha hb E=>⟨fun σ G Q Q' k h=>(hc E).2 σ G _ _ (fun c G1 h=>by
   split
   .rename_i hc;rw [if_pos hc] at h;exact (ha E).1 σ G1 _ _ k h
   .rename_i hc;rw [if_neg hc] at h;exact (hb E).1 σ G1 _ _ k h) h,fun _ _ _ _ _ h=>h.elim⟩
 case ix=>exact fun a b ha hb E=>xU fun σ G Q Q' k h=>(ha E).1 σ G _ _ (fun x G1 h=>(hb E).1 σ G1 _ _ (fun y G2 h=>zaO x y G2 _ _ k h) h) h
 case sl=>exact fun a lo hi ha hl hh E=>xU fun σ G Q Q' k h=>(ha E).1 σ G _ _ (fun x G1 h=>(hl.1 E) σ G1 _ _ (fun l G2 h=>(hh.1 E) σ G2 _ _ (fun u G3 h=>zau k h) h) h) h
 case tup=>exact fun es hs E=>xU fun σ G Q Q' k h=>(hs E) σ G _ _ (fun ws G1 h=>⟨h.1,k _ _ h.2⟩) h
 case lst=>exact fun es hs E=>xU fun σ G Q Q' k h=>(hs E) σ G _ _ (fun ws G1 h=>⟨h.1,fun p hp=>k _ _ (h.2 p hp)⟩) h
 case dct=>exact fun ks es hs E=>xU fun σ G Q Q' k h=>fun p hp=>(hs E) σ _ _ _ (fun ws G1 h=>⟨h.1,h.2.1,k _ _ h.2.2⟩) (h p hp)
 case call =>
  exact fun f es hs E=>xU fun σ G Q Q' k h=>(hs E) σ G _ _ (fun ws G1 h=>by
   split at h
   .rename_i f' e;exact g.fn f' (wL e) ws G1 Q Q' E k h
   .exact h.elim) h
 case mth =>
  exact fun m o es ho hs E=>xU fun σ G Q Q' k h=>(ho E).1 σ G _ _ (fun x G1 h=>by
   split at h
   .rename_i m' e;exact ⟨h.1,(hs E) σ G1 _ _ (fun ws G2 h=>g.mt m' (wL e) x ws G2 Q Q' k h) h.2⟩
   .exact h.elim) h
 case att=>exact fun o f ho E=>xU fun σ G Q Q' k h=>(ho E).1 σ G _ _ (fun x G1 h=>zdg k h) h
 case lc=>exact fun tg names caps it c elt _ hi hc he E=>xU fun σ G Q Q' k h=>(hi E) σ G _ _ (fun items stab G1 h=>zd9 k h) h
 case spc =>
  exact fun i es hs E=>xU fun σ G Q Q' k h=>(hs E) σ G _ _ (fun ws G1 h=>by
   split at h
   .rename_i f' e;exact g.sx f' (wL e) ws G1 Q Q' k h
   .exact h.elim) h
 case ispc =>
  exact fun i es hs E σ G R R' k h=>(hs E) σ G _ _ (fun ws G1 h=>by
   split at h
   .rename_i m' e;exact g.ix m' (wL e) ws G1 R R' k h
   .exact h.elim) h
 case no=>exact ⟨fun E σ G Q Q' k h=>k _ _ h,fun σ G Q Q' k h=>k _ _ h⟩
 case yes=>exact fun e he=>⟨fun E σ G Q Q' k h=>(he E).1 σ G _ _ (fun x G1 h=>fE (fun i=>k _ _) h) h,(he XN).2⟩
 case nil=>exact fun E σ G Q Q' k h=>k _ _ h
 case cons=>exact fun e es he hs E σ G Q Q' k h=>(he E).1 σ G _ _ (fun x G1 h=>(hs E) σ G1 _ _ (fun xs G2 h=>k _ _ h) h) h
 case val=>exact fun e he E σ G R R' k h=>(he E).1 σ G _ _ (fun w G1 h=>mT k h) h
 case blt =>
  exact fun i es hs E σ G R R' k h=>(hs E) σ G _ _ (fun ws G1 h=>by
   split at h
   .rename_i m' e;exact g.it m' (wL e) ws G1 R R' k h
   .exact h.elim) h
 case nm=>exact fun _=>trivial
 case tt=>exact fun _ _=>trivial
 case tn=>trivial
 case tc=>exact fun _ _ _ _=>trivial
theorem zA (E:XQ) (e:IE):wG (zI Γ E e).e:=(zaJ g e E).1
theorem sX (E:XQ) (e:IE):uY (zI Γ E e).t:=(zaJ g e E).2
theorem qW (E:XQ):∀ es:IEs,vW (zT Γ E es)
 | .nil=>fun σ G Q Q' k h=>k _ _ h
 | .cons e es=>fun σ G Q Q' k h=>zA g E e σ G _ _ (fun x G1 h=>qW E es σ G1 _ _ (fun xs G2 h=>k _ _ h) h) h
theorem zig (E:XQ):∀ o:IO,zjj (zN Γ E o)
 | .no=>fun σ G Q Q' k h=>k _ _ h
 | .yes e=>fun σ G Q Q' k h=>zA g E e σ G _ _ (fun x G1 h=>fE (fun i=>k _ _) h) h
theorem monoC:∀ o:IO,uY (zP Γ o)
 | .no=>fun σ G Q Q' k h=>k _ _ h
 | .yes e=>sX g XN e
theorem zih (E:XQ):∀ it:II,zjk (zR Γ E it)
 | .val e=>fun σ G R R' k h=>zA g E e σ G _ _ (fun w G1 h=>mT k h) h
 | .blt i es=>fun σ G R R' k h=>qW g E es σ G _ _ (fun ws G1 h=>by
   split at h
   .rename_i m' e;exact g.it m' (wL e) ws G1 R R' k h
   .exact h.elim) h
 | .spc i es=>fun σ G R R' k h=>qW g E es σ G _ _ (fun ws G1 h=>by
   split at h
   .rename_i m' e;exact g.ix m' (wL e) ws G1 R R' k h
   .exact h.elim) h
end L3
namespace L3
open PySem PySem.Spec PyProof.Rows L2
structure MC where
 sc:Scope
 N:List Str
 own:Str->Bool
 fns:List Str
 gls:List Str
 mts:List Str
 its:List Str
 sxm:List (Scope->Expr->Option (List Expr))
 ixm:List (Scope->Expr->Option (List Expr))
def visB (sc:Scope) (x:Str):Bool:=match sc.names.lookup x with
 |some .local=>true
 |some .cell=>true
 |some .free=>true
 |_=>false
def vC (sc:Scope) (x:Str):Bool:=sc.names.lookup x==some .globalImplicit&&!(x==("__debug__" : Str))&&!(x==("__name__" : Str))
def sZ:Expr->Bool
 | .Set ..=>false
 |_=>true
def xB:Expr->Bool
 | .Starred ..=>false
 |_=>true
def pK:Expr->Bool
 | .Slice ..=>false
 |_=>true
def nL:Expr->Bool
 | .ListComp ..=>false
 | .SetComp ..=>false
 | .DictComp ..=>false
 |_=>true
def zdh:Expr->Bool
 | .Call (.Name ..) [] [] _=>false
 |_=>true
def relS (sc out:Scope):Scope:={ sc with names:=sc.names.map fun (n,k)=>if (k==.free&&out.kind==.function&&out.names.lookup n==some .cell) then (n,.cell) else (n,k) }
def blkB (out sc:Scope):Bool:=(sc.kind==.function)&&(sc.names.all fun y=>(!(y.2==.cell) || sc.names.lookup y.1==some .cell)&&(!(y.2==.free) || sc.names.lookup y.1==some .free)) &&
 (sc.names.all fun y=>!(y.2==.free) || out.names.lookup y.1==some .cell || out.names.lookup y.1==some .free) &&
 (sc.names.all fun y=>!(y.2==.local) || sc.names.lookup y.1==some .local)
def nM:List Str->Bool
 | []=>true
 |x::r=>!r.contains x&&nM r
def locB (M:MC) (x:Str):Bool:=match M.sc.names.lookup x with
 |some .local=>true
 |some .cell=>M.own x
 |_=>false
mutual
def tgIx:ITg->List Nat
 | .nm i=>[i]
 | .tup ts=>zdt ts
def zdt:ITgs->List Nat
 | .nil=>[]
 | .cons t ts=>tgIx t++zdt ts
end
mutual
def mG (M:MC):ITg->Expr->Bool
 | .nm i,.Name x _=>M.N[i]?==some x&&locB M x
 | .tup ts,.Tuple es _ _=>mGs M ts es
 |_,_=>false
def mGs (M:MC):ITgs->List Expr->Bool
 | .nil,[]=>true
 | .cons t ts,e::es=>xB e&&mG M t e&&mGs M ts es
 |_,_=>false
end
mutual
def mE:IE->MC->Expr->Bool
 | .var i=>fun M e=>match e with
  | .Name x _=>M.N[i]?==some x&&visB M.sc x&&!(x==("__debug__" : Str))&&!(x==("__classdict__" : Str))
  |_=>false
 | .con c=>fun M e=>match e with
  | .Constant d _ _=>decide (c=d)
  |_=>false
 | .glb i=>fun M e=>match e with
  | .Name x _=>M.gls[i]?==some x&&vC M.sc x
  |_=>false
 | .bin op a b=>fun M e=>match e with
  | .BinOp l o r _=>decide (op=o)&&mE a M l&&mE b M r
  |_=>false
 | .neg a=>fun M e=>match e with
  | .UnaryOp .USub l _=>mE a M l
  |_=>false
 | .not a=>fun M e=>match e with
  | .UnaryOp .Not l _=>mE a M l
  |_=>false
 | .cmp op a b=>fun M e=>match e with
  | .Compare l [o] [r] _=>decide (op=o)&&mE a M l&&mE b M r&&sZ r
  |_=>false
 | .chn o1 o2 a b c=>fun M e=>match e with
  | .Compare l [p1,p2] [r,t] _=>decide (o1=p1)&&decide (o2=p2)&&mE a M l&&mE b M r&&mE c M t&&sZ t
  |_=>false
 | .ch3 o1 o2 o3 a b c d=>fun M e=>match e with
  | .Compare l [p1,p2,p3] [r,t,u] _=>decide (o1=p1)&&decide (o2=p2)&&decide (o3=p3)&&mE a M l&&mE b M r&&mE c M t&&mE d M u&&sZ u
  |_=>false
 | .and a b=>fun M e=>match e with
  | .BoolOp .And [l,r] _=>mE a M l&&mE b M r
  | .BoolOp .And (l::r::q::rest) pos=>mE a M l&&mE b M (.BoolOp .And (r::q::rest) pos)
  |_=>false
 | .or a b=>fun M e=>match e with
  | .BoolOp .Or [l,r] _=>mE a M l&&mE b M r
  | .BoolOp .Or (l::r::q::rest) pos=>mE a M l&&mE b M (.BoolOp .Or (r::q::rest) pos)
  |_=>false
 | .ite c a b=>fun M e=>match e with
  | .IfExp t l r _=>mE c M t&&mE a M l&&mE b M r
  |_=>false
 | .ix a i=>fun M e=>match e with
  | .Subscript l r _=>mE a M l&&mE i M r&&pK r
  |_=>false
 | .sl a lo hi=>fun M e=>match e with
  | .Subscript l (.Slice x y none _) _=>mE a M l&&mO lo M x&&mO hi M y
  |_=>false
 | .tup es=>fun M e=>match e with
  | .Tuple xs _ _=>mA es M xs
  |_=>false
 | .lst es=>fun M e=>match e with
  | .List xs _=>mA es M xs
  |_=>false
 | .dct ks es=>fun M e=>match e with
  | .Dict keys xs _=>keyB ks keys&&mA es M xs&&decide (keys.length=xs.length)&&decide (keys.length<=15)&&!ks.isEmpty
  |_=>false
 | .call f es=>fun M e=>match e with
  | .Call (.Name x _) xs [] _=>M.fns[f]?==some x&&vC M.sc x&&mA es M xs
  |_=>false
 | .mth m o es=>fun M e=>match e with
  | .Call (.Attribute l x apos) xs [] cpos=>M.mts[m]?==some x&&zdh l&&(apos.endLine==cpos.line)&&decide (xs.length<25)&&mE o M l&&mA es M xs
  |_=>false
 | .att o f=>fun M e=>match e with
  | .Attribute l x _=>x==f&&zdh l&&mE o M l
  |_=>false
 | .lc tg names caps it c elt=>fun M e=>match e with
  | .ListComp x [⟨t,ix,ifs,asy⟩] sc _ =>
   let M':MC:={ M with sc:=relS sc M.sc,N:=names++caps.map (fun j=>M.N.getD j Str.empty),own:=fun x=>sc.names.lookup x==some .cell }
   decide (asy=0)&&blkB M.sc sc&&sZ ix&&nM M'.N&&(caps.all fun j=>decide (j<M.N.length)&&(sc.names.lookup (M.N.getD j Str.empty)==some .free)) &&
    mI it M ix&&((tgIx tg).all fun i=>decide (i<names.length))&&mG M' tg t&&mC c M' ifs&&mE elt M' x
  |_=>false
 | .spc i es=>fun M e=>nL e&&(match M.sxm[i]? with
  |some m=>(match m M.sc e with|some xs=>mA es M xs|none=>false)
  |none=>false)
def mO:IO->MC->Option Expr->Bool
 | .no=>fun M e=>match e with|none=>true|_=>false
 | .yes a=>fun M e=>match e with|some x=>mE a M x|_=>false
def mC:IO->MC->List Expr->Bool
 | .no=>fun M e=>match e with | []=>true|_=>false
 | .yes a=>fun M e=>match e with | [x]=>mE a M x|_=>false
def mA:IEs->MC->List Expr->Bool
 | .nil=>fun M e=>match e with | []=>true|_=>false
 | .cons a as=>fun M e=>match e with|x::xs=>xB x&&mE a M x&&mA as M xs|_=>false
def mI:II->MC->Expr->Bool
 | .val a=>fun M e=>mE a M e
 | .blt i es=>fun M e=>match e with
  | .Call (.Name x _) xs [] _=>M.its[i]?==some x&&vC M.sc x&&mA es M xs
  |_=>false
 | .spc i es=>fun M e=>match M.ixm[i]? with
  |some m=>(match m M.sc e with|some xs=>mA es M xs|none=>false)
  |none=>false
def keyB:List Str->List (Option Expr)->Bool
 | []=>fun e=>match e with | []=>true|_=>false
 |k::ks=>fun e=>match e with|some (.Constant (.str x) _ _)::es=>k==x&&keyB ks es|_=>false
end
mutual
def mS:IS->MC->Stmt->Bool
 | .asg i a=>fun M s=>match s with
  | .Assign [.Name x py] e _=>M.N[i]?==some x&&locB M x&&mE a M e
  |_=>false
 | .asgT ts a=>fun M s=>match s with
  | .Assign [.Tuple es _ _] e _=>nL e&&zid e&&mGs M ts es&&mE a M e
  |_=>false
 | .asgI o i a=>fun M s=>match s with
  | .Assign [.Subscript l r _] e _=>nL e&&pK r&&mE o M l&&mE i M r&&mE a M e
  |_=>false
 | .asgA o f a=>fun M s=>match s with
  | .Assign [.Attribute l x _] e _=>x==f&&nL e&&mE o M l&&mE a M e
  |_=>false
 | .ex a=>fun M s=>match s with
  | .Expr e _=>nL e&&mE a M e
  |_=>false
 | .ret a=>fun M s=>match s with
  | .Return (some e) _=>mE a M e
  |_=>false
 | .retN=>fun M s=>match s with|.Return none _=>true|_=>false
 | .pass=>fun M s=>match s with|.Pass _=>true|_=>false
 | .brk=>fun M s=>match s with|.Break _=>true|_=>false
 | .cnt=>fun M s=>match s with|.Continue _=>true|_=>false
 | .ite c a b=>fun M s=>match s with
  | .If t x y _=>mE c M t&&vS a M x&&vS b M y
  |_=>false
 | .whl c b=>fun M s=>match s with
  | .While t x [] _=>mE c M t&&vS b M x
  |_=>false
 | .for tg it b=>fun M s=>match s with
  | .For t x y [] _=>sZ x&&mG M tg t&&mI it M x&&vS b M y
  |_=>false
 | .dead=>fun M s=>true
def vS:ISs->MC->List Stmt->Bool
 | .nil=>fun M s=>match s with | []=>true|_=>false
 | .cons a as=>fun M s=>match s with|x::xs=>mS a M x&&vS as M xs|_=>false
def zid:Expr->Bool
 | .Tuple ..=>false
 |_=>true
end
theorem rQ {a b:Bool} (h:(a&&b)=true):a=true/\b=true:=(Bool.and_eq_true a b).mp h
theorem bd3 {a b c:Bool} (h:(a&&b&&c)=true):(a=true/\b=true)/\c=true:=⟨rQ (rQ h).1,(rQ h).2⟩
theorem bd4 {a b c d:Bool} (h:(a&&b&&c&&d)=true):((a=true/\b=true)/\c=true)/\d=true:=⟨bd3 (rQ h).1,(rQ h).2⟩
theorem bd5 {a b c d e:Bool} (h:(a&&b&&c&&d&&e)=true):(((a=true/\b=true)/\c=true)/\d=true)/\e=true:=⟨bd4 (rQ h).1,(rQ h).2⟩
theorem bd6 {a b c d e f:Bool} (h:(a&&b&&c&&d&&e&&f)=true):((((a=true/\b=true)/\c=true)/\d=true)/\e=true)/\f=true:=⟨bd5 (rQ h).1,(rQ h).2⟩
theorem bd7 {a b c d e f g:Bool} (h:(a&&b&&c&&d&&e&&f&&g)=true):(((((a=true/\b=true)/\c=true)/\d=true)/\e=true)/\f=true)/\g=true:=⟨bd6 (rQ h).1,(rQ h).2⟩
theorem bd8 {a b c d e f g k:Bool} (h:(a&&b&&c&&d&&e&&f&&g&&k)=true):((((((a=true/\b=true)/\c=true)/\d=true)/\e=true)/\f=true)/\g=true)/\k=true:=⟨bd7 (rQ h).1,(rQ h).2⟩
theorem bd9 {a b c d e f g k l:Bool} (h:(a&&b&&c&&d&&e&&f&&g&&k&&l)=true):(((((((a=true/\b=true)/\c=true)/\d=true)/\e=true)/\f=true)/\g=true)/\k=true)/\l=true:=⟨bd8 (rQ h).1,(rQ h).2⟩
theorem bd10 {a b c d e f g k l m:Bool} (h:(a&&b&&c&&d&&e&&f&&g&&k&&l&&m)=true):((((((((a=true/\b=true)/\c=true)/\d=true)/\e=true)/\f=true)/\g=true)/\k=true)/\l=true)/\m=true:=⟨bd9 (rQ h).1,(rQ h).2⟩
end L3
namespace L2
open PySem PySem.Spec PyProof.Rows
def Itd (d:Addr) (ob:Obj) (l:List (yO×V)):It where
 go:=fun i H=>H d=some (.frz ob (.dK l))/\i<l.length
 yld:=fun i H x H'=>H'=H/\∃ p,l[i]?=some p/\x=kV p.1
 stop:=fun i H=>H d=some (.frz ob (.dK l))/\l.length<=i
def KiSt (it d:Addr) (ob:Obj) (n i:Nat) (h:Heap):Prop:=∃ ep es,ob.data=.dict es ep/\h.IsKeyIter it d i n ep
section
variable {X : Cx} {pins : List (Addr × Obj)} {σ : St} {H : Hp} {s : Shared} {d : Addr} {ob : Obj} {l : List (yO × V)}
theorem ze7 {κ:Type}:∀ {l:List (κ×V)} {vs:List (κ×Value)} {i:Nat} {k:κ} {v:Value},KV l vs->vs[i]?=some (k,v)->∃ x,l[i]?=some (k,x)
 |_,_,i,k,v,.nil,e=>by simp at e
 |p::_,_,0,k,v,.cons r t,e=>by
  simp at e;subst e;obtain ⟨a,b⟩:=p;have h1:a=k:=r.1;exact ⟨b,by simp [h1]⟩
 |_::_,_,i+1,k,v,.cons r t,e=>by
  obtain ⟨x,h⟩:=ze7 (i:=i) (k:=k) (v:=v) t (by simpa using e);exact ⟨x,by simpa using h⟩
theorem ze6 {κ:Type}:∀ {l:List (κ×V)} {vs:List (κ×Value)},KV l vs->vs.length=l.length
 |_,_,.nil=>rfl
 |_,_,.cons _ t=>by rw [List.length_cons,List.length_cons,ze6 t]
theorem zcS (I:Inv X pins σ H s) (e:H d=some (.frz ob (.dK l))) {es:Array DictEntry} {ep:Nat} (hd:ob.data=.dict es ep):∃ vs,KV l vs/\s.heap.DictAt (xP X.prog X.w) d vs ep/\vs.length=l.length:=by
 obtain ⟨hg,_,_,vs,kv,o,es',ep',ho,hc,hdat,r⟩:=(show xG X.prog X.w H s.heap d (.frz ob (.dK l)) from I.hok d _ e);rw [hg] at ho;cases ho;rw [hd] at hdat;cases hdat;exact ⟨vs,kv,⟨ob,es,hg,hc,hd,r⟩,ze6 kv⟩
theorem zcD {k:yO} {v:Value} (h:rC k v=true):zC (kV k) v:=by
 rcases yE h with ⟨i,t,rfl,rfl⟩|⟨x,t,rfl,rfl⟩
 .exact ⟨t,rfl⟩
 .exact ⟨t,rfl⟩
theorem zbH {P:Program} {w:World} {K:PySem.W.Frag} {tg:Expr} (it:Addr):Turn P w K tg (Itd d ob l) [it] it (KiSt it d ob l.length) where
 mem:=by simp
 obj:=fun i h st b hb=>by
  cases zzO hb;obtain ⟨ep,es,_,o,e,c,z⟩:=st;exact ⟨o,e,fun v q=>by rw [z] at q;cases q⟩
 keep:=fun i h h' st k=>by
  obtain ⟨ep,es,hd,st⟩:=st;exact ⟨ep,es,hd,st.at fun o e=>k it (by simp) o e⟩
 item:=by
  intro X e1 e2 e3 hc i pins s σ H E I hf st hg;subst e1;subst e2;subst e3;obtain ⟨ep,es,hd,st⟩:=st;obtain ⟨e,hi⟩:=hg;obtain ⟨vs,kv,da,lv⟩:=zcS I e hd;obtain ⟨f0,f1,f2,f3,f4,f5⟩:=hf it (by simp);obtain ⟨⟨k,v⟩,ek⟩:∃ p,vs[i]?=some p:=⟨vs[i]'(by omega),List.getElem?_eq_getElem _⟩;obtain ⟨x,ex⟩:=ze7 kv ek;rw [← lv] at st;refine wpAny_pyNext_dict_item st da ek fun key h' hkey st' sb=>?_;have I1:Inv X pins σ H { s with heap:=h',toks:=s.toks }:=I.turned (fun b o hb q=>(sb.2 b hb).trans q) f0 f1 f3 f4 f5;obtain ⟨o,o1,o2,o3⟩:=id st';refine ⟨key,rfl,fD (s:={ s with heap:=h' }) o1 o2 o3 (by decide) ⟨kV k,H,I1,zcD hkey,⟨rfl,(k,x),ex,rfl⟩,⟨ep,es,hd,?_⟩,fun b hb=>(hf b hb).1⟩⟩;rw [← lv];exact st'
 done:=by
  intro X e1 e2 e3 hc i pins s σ H E I hf st hg;subst e1;subst e2;subst e3;obtain ⟨ep,es,hd,st⟩:=st;obtain ⟨e,hi⟩:=hg;obtain ⟨vs,kv,da,lv⟩:=zcS I e hd;obtain ⟨f0,f1,f2,f3,f4,f5⟩:=hf it (by simp);rw [← lv] at st;exact wpAny_pyNext_dict_end (I.ok.hd hc) st da (List.getElem?_eq_none (by omega)) fun h' eb=>⟨rfl,I.turned (t':=s.toks) (fun b o hb q=>eb b o hb q) f0 f1 f3 f4 f5⟩
 self:=fun _ _ _ _ _ st h=>by
  obtain ⟨ep,es,hd,st⟩:=st;exact wpAny_pyIter_keyiter st h
theorem zeI {u:HO} (e:H d=some u):xK H d u=H:=by
 funext b
 unfold xK
 split
 .rename_i h;subst h;exact e.symm
 .rfl
theorem zgA (I:Inv X pins σ H s) (e:Rd H d (.dK l)):∃ ob,Inv X pins σ (xK H d (.frz ob (.dK l))) s/\(∃ es ep,ob.data=.dict es ep)/\∀ ob',H d=some (.frz ob' (.dK l))->ob'=ob:=by
 rcases e with e|⟨ob,e⟩
 .have q:=I.hok d _ e;obtain ⟨h1,h2,vs,kv,o,es,ep,ho,hc,hdat,r⟩:=id q;have mu:Mut (H d):=by rw [e];exact True.intro
  refine ⟨o,I.un (t':=s.toks) (Un.write mu (.inl rfl) (fun b u _ z=>z) ⟨o,ho⟩) (I.hok.write mu (.inl rfl) (fun b u _ z=>z) ⟨o,ho⟩ ⟨ho,h1,h2,vs,kv,o,es,ep,ho,hc,hdat,r⟩),⟨es,ep,hdat⟩,fun ob' z=>by rw [e] at z;cases z⟩
 .obtain ⟨hg,_,_,vs,kv,o,es,ep,ho,hc,hdat,r⟩:=(show xG X.prog X.w H s.heap d (.frz ob (.dK l)) from I.hok d _ e);rw [hg] at ho;cases ho;exact ⟨ob,by rw [zeI e];exact I,⟨es,ep,hdat⟩,fun ob' z=>by rw [e] at z;cases z;rfl⟩
theorem zgW {tg:Expr} {R:It->Hp->Prop} {E:Value->Shared->Prop} (I:Inv X pins σ H s) (e:Rd H d (.dK l)) (q:∀ ob,(∀ ob',H d=some (.frz ob' (.dK l))->ob'=ob)->R (Itd d ob l) (xK H d (.frz ob (.dK l)))):wpAny (model X.prog X.w) X.A (pyIter (.ref d)) (PIE X pins σ tg R) E s:=by
 have hs:(d==sysModules)=false:=(pZ I.hok e).2.1;obtain ⟨ob,J,⟨es,ep,hd⟩,same⟩:=zgA I e;obtain ⟨vs,kv,da,lv⟩:=zcS J wY hd;refine wpAny_pyIter_dict hs da ?_;refine ⟨s.heap.objs.size,[s.heap.objs.size],_,_,_,rfl,J.kept (t':=s.toks) fun b o e=>Heap.get?_push_of_some _ e,zbH _,⟨ep,es,hd,⟨_,Heap.get?_push_size _ rfl,rfl,by rw [lv];rfl⟩⟩,fun b hb=>?_,q ob same⟩;cases zzO hb;exact J.fpOk (zzR _) (J.hok.fresh (zzR _))
end
end L2
namespace L3
open PySem PySem.Spec PyProof.Rows L2 PySem.SeqAt
structure Par where
 prog:Program
 w:World
 K:yN
 mg:Str->Option Value
 base:Heap
 A:Around
structure Fits (p:Par) (X:Cx):Prop where
 prog:X.prog=p.prog
 w:X.w=p.w
 K:X.K=p.K
 mg:X.mg=p.mg
 base:X.base=p.base
 A:X.A=p.A
 calm:X.calm=true
 xe:X.xe=fun _ _=>False
structure ItIs (K:yN) (J:It) (H1:Hp) (ws:List W) (stab:Hw->Prop):Prop where
 go:∀ i H G,yJ K H1 H->xL K H G->stab G->i<ws.length->J.go i H
 yld:∀ i H G x H',yJ K H1 H->xL K H G->stab G->i<ws.length->J.yld i H x H'->∃ w,ws[i]?=some w/\yJ K H H'/\wQ K H' w x/\xL K H' G
 stop:∀ i H G,yJ K H1 H->xL K H G->stab G->ws.length<=i->J.stop i H
def lowI (K:yN) (t:I3):TI:=fun τ H R=>∃ σ G,yH K H σ τ/\xL K H G/\t σ G fun ws stab G1=>∀ J H1,yJ K H H1->xL K H1 G1->ItIs K J H1 ws stab->R J H1
def dI (X:Cx):List Expr->List E3->Prop
 | [],[]=>True
 |x::xs,e::es=>wG e/\PE X x (yA X.K e)/\dI X xs es
 |_,_=>False
structure Good (Γ:Ctx3) (p:Par):Prop where
 mono:TabMono Γ
 un:p.A.units+200<cLine
 fn:∀ f∈Γ.fn,∀ X,Fits p X->Gl X f.nm->∀ (args:List Expr) (t:A3) (q pos:Pos),vW t->args.all xB=true->PA X args (sV X.K t)->(args=[]->∀ σ G Q,t σ G Q->Q [] G)->(f.nm==("__debug__" : Str))=false->f.nm ≠ "__name__" ->
  PE X (.Call (.Name f.nm q) args [] pos) (yA X.K fun σ G Q=>t σ G fun ws G1=>f.sp ws G1 Q XN)
 gl:∀ g∈Γ.gl,∀ X,Fits p X->Gl X g.1->∀ q:Pos,(g.1==("__debug__" : Str))=false->g.1 ≠ "__name__" -> PE X (.Name g.1 q) (yA X.K fun _ G Q=>Q g.2 G)
 mt:∀ m∈Γ.mt,∀ X,Fits p X->∀ (o:Expr) (args:List Expr) (to:E3) (t:A3) (apos cpos:Pos),wG to->vW t->zdh o=true->(apos.endLine==cpos.line)=true->args.length<25->args.all xB=true ->
  PE X o (yA X.K to)->PA X args (sV X.K t)->(args=[]->∀ σ G Q,t σ G Q->Q [] G)->PE X (.Call (.Attribute o m.nm apos) args [] cpos) (yA X.K fun σ G Q=>to σ G fun x G1=>tyW G1 x m.T/\t σ G1 fun ws G2=>m.sp x ws G2 Q)
 it:∀ i∈Γ.it,∀ X,Fits p X->Gl X i.nm->∀ (tg:Expr) (args:List Expr) (t:A3) (q pos:Pos),vW t->args.all xB=true->PA X args (sV X.K t)->(args=[]->∀ σ G Q,t σ G Q->Q [] G)->(i.nm==("__debug__" : Str))=false->i.nm ≠ "__name__" ->
  PI X tg (.Call (.Name i.nm q) args [] pos) (lowI X.K fun σ G R=>t σ G fun ws G1=>i.sp ws G1 R)
 cl:∀ c∈Γ.cl,Cls p.K c.1/\∀ f∈c.2,uZ p.K c.1 f
 sx:∀ k∈Γ.sx,∀ X,Fits p X->∀ (e:Expr) (xs:List Expr) (es:List E3),k.m X.env.scope e=some xs->dI X xs es->xs.all xB=true->PA X xs (sV X.K (hJ es)) ->
  PE X e (yA X.K fun σ G Q=>hJ es σ G fun ws G1=>k.sp ws G1 Q)/\(∀ whole,isTrue e X.env whole=(do let v ← whole;standAt e.pos;holding [v] (truthy v)))/\∀ op vs pos,e≠.BoolOp op vs pos
 ix:∀ k∈Γ.ix,∀ X,Fits p X->∀ (tg e:Expr) (xs:List Expr) (es:List E3),k.m X.env.scope e=some xs->dI X xs es->xs.all xB=true->PA X xs (sV X.K (hJ es)) ->
  PI X tg e (lowI X.K fun σ G R=>hJ es σ G fun ws G1=>k.sp ws G1 R)
structure Lk (Γ:Ctx3) (M:MC) (p:Par) (X:Cx):Prop where
 fits:Fits p X
 N:X.N=M.N
 sc:X.env.scope=M.sc
 nd:M.N.Nodup
 own:∀ x,M.own x=true->X.fn x=true
 kind:M.sc.kind=.function
 fns:Γ.fn.map (·.nm)=M.fns
 gls:Γ.gl.map (·.1)=M.gls
 mts:Γ.mt.map (·.nm)=M.mts
 its:Γ.it.map (·.nm)=M.its
 sxs:Γ.sx.map (·.m)=M.sxm
 ixs:Γ.ix.map (·.m)=M.ixm
theorem qN {e:Expr} {es:List Expr} {env:Env} (h:xB e=true):starEach (e::es) env=(false,eval e env)::starEach es env:=by
 cases e<;>first|rfl|exact absurd h zzN
theorem tR {o:Expr} {f:Str} {env:Env} {t:Sem Value} (h:zdh o=true):attributeBase o f env t=t:=by
 unfold attributeBase
 split
 .exact absurd h zzN
 .rfl
theorem fB {e:Expr} {env:Env} (h:sZ e=true):∀ x,foldedSetIterable e env x=pure x:=fun x=>by
 cases e<;>first|rfl|exact absurd h zzN
theorem kX {op:CmpOp} {e:Expr} (h:sZ e=true):behindInMarks op e=false:=by
 cases e<;>first|rfl|exact absurd h zzN
theorem zdT {e:Expr} (h:pK e=true):zdk e:=fun o i=>by
 cases e<;>first|rfl|exact absurd h zzN
theorem vP {e:Expr} {t:Option Expr} {n:Nat} {env:Env} (h:nL e=true):swapsWith e t n env=pure false:=by
 cases e<;>first|rfl|exact absurd h zzN
theorem zhc {sc:Scope} {x:Str} (h:visB sc x=true):Vis sc x:=by
 unfold visB at h
 split at h
 .rename_i e;exact .inl e
 .rename_i e;exact .inr (.inl e)
 .rename_i e;exact .inr (.inr e)
 .exact absurd h zzN
theorem mM {X:Cx} {sc:Scope} {x:Str} (e:X.env.scope=sc) (h:vC sc x=true):Gl X x/\(x==("__debug__" : Str))=false/\x ≠ "__name__" := by
 unfold vC at h;simp only [Bool.and_eq_true,Bool.not_eq_true'] at h;refine ⟨?_,h.1.2,fun z=>?_⟩
 .show X.env.scope.names.lookup x=_;rw [e];exact eq_of_beq h.1.1
 .subst z;have:=h.2;simp at this
theorem qQ {α:Type} [BEq α] [LawfulBEq α] {a:Option α} {b:α} (h:(a==some b)=true):a=some b:=eq_of_beq h
theorem uS {α β:Type} {f:α->β} {l:List α} {i:Nat} {y:β} (h:(l.map f)[i]?=some y):∃ x,l[i]?=some x/\f x=y:=by
 rw [List.getElem?_map] at h
 cases e:l[i]? with
 |none=>rw [e] at h;cases h
 |some x=>rw [e] at h;exact ⟨x,rfl,Option.some.inj h⟩
section
variable {X : Cx}
theorem zds {K:yN} {e:E3} (m:wG e) {τ:L2.St} {H:Hp} {Q:Bool->Hp->Prop} (h:qO K (zO e) τ H Q):yA K e τ H (fun x H'=>∃ k,TruV K x H' k/\Q k H'):=by
 obtain ⟨σ,G,hs,ha,h⟩:=h;refine xT m hs ha h fun w G1 v H1 gr _ rp ab q=>?_
 split at q
 .rename_i b hb;exact ⟨b,zfs rp ab hb,q H1 gr ab⟩
 .exact q.elim
theorem pt_of {x:Expr} {e:E3} (m:wG e) (h:PE X x (yA X.K e)) (he:∀ whole,isTrue x X.env whole=(do let v ← whole;standAt x.pos;holding [v] (truthy v))):PT X x (qO X.K (zO e)) :=
 (zdL h he).imp fun σ H Q q=>zds m q
theorem bN {K:yN} {e:E3} (m:wG e) {τ:L2.St} {H:Hp} {Q:Bool->Hp->Prop} (h:qO K (yW e) τ H Q):yA K e τ H (fun x H'=>∃ k,x=.bl k/\Q k H'):=by
 obtain ⟨σ,G,hs,ha,h⟩:=h;refine xT m hs ha h fun w G1 v H1 gr _ rp ab q=>?_
 cases w with
 |bl b=>cases rp;exact ⟨b,rfl,q H1 gr ab⟩
 |_=>exact q.elim
theorem cT {K:yN} {ea eb:E3} {r:R3} (ma:wG ea) (mb:wG eb) (mr:pX r) {τ:L2.St} {H:Hp} {Q:VK} (h:yA K (fun σ G Q=>ea σ G fun x G1=>eb σ G1 fun y G2=>r x y G2 Q) τ H Q) :
  tOp (rW K r) (yA K ea) (yA K eb) τ H Q:=by
 obtain ⟨σ,G,hs,ha,h⟩:=h;refine xT ma hs ha h fun x G1 v H1 g1 hs1 rx a1 h1=>?_;refine xT mb hs1 a1 h1 fun y G2 u H2 g2 hs2 ry a2 h2=>?_;exact ⟨x,y,G2,rx.mono g2,ry,a2,mr x y G2 _ _ (fun w G' q v' H' g'=>q v' H' ((g1.trans g2).trans g')) h2⟩
def Its (x:Str):It:=⟨fun i _=>i<x.cps.size,fun i H v H'=>H'=H/\∃ c,x.cps[i]?=some c/\v=.str ⟨#[c]⟩,fun i _=>x.cps.size<=i⟩
theorem zdn {P:Program} {w:World} {K:yN} {tg:Expr} (T:String) (hT:T = "str_ascii_iterator" \/ T = "str_iterator") (x:Str) (t:Tok) (it:Addr):Turn P w K tg (Its x) [it] it (fun i h=>h.IsStrIter it T x t i) where
 mem:=by simp
 obj:=fun i h st b hb=>by
  have e:b=it:=by simpa using hb
  subst e;obtain ⟨o,e,c,d⟩:=st;exact ⟨o,e,fun v z=>by rw [d] at z;cases z⟩
 keep:=fun i h h' st k=>let ⟨o,e,r⟩:=st;⟨o,k it (by simp) o e,r⟩
 item:=by
  intro X hP hw hK hc i pins s σ H E I hf st hg;subst hP hw hK;obtain ⟨f0,f1,f2,f3,f4,f5⟩:=hf it (by simp);have hi:i<x.cps.size:=hg;have hx:x.cps[i]?=some x.cps[i]:=by simp [hi]
  have fin:∀ h':Heap,h'.IsStrIter it T x t (i+1)->Heap.SameBut it s.heap h'->∃ u,some (Value.str ⟨#[x.cps[i]]⟩ s.toks)=some u /\
    wpAny (model X.prog X.w) X.A (letOwnedTupleGo tg (.ref it) u) (fun _ s2=>∃ v H',Inv X pins σ H' s2/\zC v u/\(Its x).yld i H v H'/\s2.heap.IsStrIter it T x t (i+1)/\∀ b∈[it],H' b=none) E { s with heap:=h',toks:=s.toks+1 }:=fun h' st' sb=>by
   have I1:Inv X pins σ H { s with heap:=h',toks:=s.toks+1 }:=I.turned (t':=s.toks+1) (fun b o hb e=>(sb.2 b hb).trans e) f0 f1 f3 f4 f5;obtain ⟨o,e,c,d⟩:=id st';exact ⟨_,rfl,fD (s:={ s with heap:=h',toks:=s.toks+1 }) e c d (by rcases hT with rfl|rfl<;>decide) ⟨.str ⟨#[x.cps[i]]⟩,H,I1,⟨_,rfl⟩,⟨rfl,_,hx,rfl⟩,st',fun b hb=>(hf b hb).1⟩⟩
  rcases hT with rfl|rfl
  .exact wpAny_pyNext_ascii_item st hx fin
  .exact wpAny_pyNext_wide_item st hx fin
 done:=by
  intro X hP hw hK hc i pins s σ H E I hf st hg;subst hP hw hK;obtain ⟨f0,f1,f2,f3,f4,f5⟩:=hf it (by simp);have hx:x.cps[i]?=none:=by have h:x.cps.size<=i:=hg;simp [h]
  rcases hT with rfl|rfl
  .exact wpAny_pyNext_ascii_end (I.ok.hd hc) st hx fun h' eb=>⟨rfl,I.turned (t':=s.toks) (fun b o hb e=>eb b o hb e) f0 f1 f3 f4 f5⟩
  .exact wpAny_pyNext_wide_end (I.ok.hd hc) st hx fun h' eb=>⟨rfl,I.turned (t':=s.toks) (fun b o hb e=>eb b o hb e) f0 f1 f3 f4 f5⟩
 self:=fun _ _ _ _ _ st h=>by
  rcases hT with rfl|rfl
  .exact wpAny_pyIter_striter_ascii st h
  .exact wpAny_pyIter_striter_wide st h
theorem zhQ {tg l:Expr} {tl:TE} (hl:PE X l tl):PI X tg l (fun σ H R=>tl σ H fun x H1=>(∃ t,x=.str t/\R (Its t) H1)\/∃ a,x=.ref a/\(((∃ xs,rP X.K H1 a xs)/\R (Itl X.K a) H1)\/((∃ xs,sL X.K H1 a xs)/\R (Itt X.K a) H1)\/∃ l,Rd H1 a (.dK l)/\∀ ob,(∀ ob',H1 a=some (.frz ob' (.dK l))->ob'=ob)->R (Itd a ob l) (xK H1 a (.frz ob (.dK l))))):=by
 intro pins s σ H R I h;refine yF (hl pins s σ H _ I h) fun v s1 ⟨x,H1,I1,r1,q1⟩=>?_;rcases q1 with ⟨tx,e,q⟩|q1
 .subst e;obtain ⟨tk,rfl⟩:=r1
  have fin:∀ T,(T = "str_ascii_iterator" \/ T = "str_iterator")->∀ o:Obj,o.isFreed=false->o.cls=.type T->o.data=.fields #[.str tx tk,.int 0 0]->PIE X pins σ tg R (.ref s1.heap.objs.size) { s1 with heap:=s1.heap.push o }   := fun T hT o hz hc hd=>by
   refine ⟨s1.heap.objs.size,[s1.heap.objs.size],_,_,H1,rfl,I1.kept (t':=s1.toks) fun b o e=>Heap.get?_push_of_some _ e,zdn T hT tx tk _,⟨_,Heap.get?_push_size _ hz,hc,hd⟩,fun b hb=>?_,q⟩;have e:b=s1.heap.objs.size:=by simpa using hb
   subst e;exact I1.fpOk (zzR _) (I1.hok.fresh (zzR _))
  cases hasc:tx.cps.all (· < 128)
  .exact wpAny_pyIter_wide hasc (fin _ (.inr rfl) _ rfl rfl rfl)
  .exact wpAny_pyIter_ascii hasc (fin _ (.inl rfl) _ rfl rfl rfl)
 obtain ⟨a,e,q1⟩:=q1;subst e;cases r1;rcases q1 with ⟨⟨xs,hq⟩,q⟩|⟨⟨xs,hq⟩,q⟩|⟨l,hq,q⟩
 rotate_left 2
 .exact zgW I1 hq q
 .obtain ⟨its,rv,p,hz⟩:=I1.list hq;refine wpAny_pyIter_list p.isList ?_;refine ⟨s1.heap.objs.size,[s1.heap.objs.size],_,_,H1,rfl,I1.kept (t':=s1.toks) fun b o e=>Heap.get?_push_of_some _ e,zbF a _,⟨_,Heap.get?_push_size _ rfl,rfl,rfl⟩,fun b hb=>?_,q⟩;have e:b=s1.heap.objs.size:=by simpa using hb
  subst e;exact I1.fpOk (zzR _) (I1.hok.fresh (zzR _))
 .obtain ⟨its,rv,p,hz⟩:=I1.tuple hq;refine wpAny_pyIter_tuple (show s1.heap.IsTuple a its.toArray from p) ?_;refine ⟨s1.heap.objs.size,[s1.heap.objs.size],_,_,H1,rfl,I1.kept (t':=s1.toks) fun b o e=>Heap.get?_push_of_some _ e,za3 a _,⟨_,Heap.get?_push_size _ rfl,rfl,rfl⟩,fun b hb=>?_,q⟩;have e:b=s1.heap.objs.size:=by simpa using hb
  subst e;exact I1.fpOk (zzR _) (I1.hok.fresh (zzR _))
theorem ziI {K:yN} {x:Str} {H1:Hp}:ItIs K (Its x) H1 (sgs x) (fun _=>True) where
 go:=fun i H G _ ab st hi=>by
  have h:i<(sgs x).length:=hi;show i<x.cps.size;simpa [sgs] using h
 yld:=fun i H G v H' _ ab st hi y=>by
  obtain ⟨rfl,c,e,rfl⟩:=y;refine ⟨.str ⟨#[c]⟩,?_,.refl,rfl,ab⟩;simp [sgs,e]
 stop:=fun i H G _ ab st hi=>by
  have h:(sgs x).length<=i:=hi;show x.cps.size<=i;simpa [sgs] using h
theorem ziK {K:yN} {a:Addr} {H1:Hp} {ws:List W}:ItIs K (Itl K a) H1 ws (fun G=>yQ G a=some ws) where
 go:=fun i H G _ ab st hi=>by
  obtain ⟨vs,sq,rs⟩:=ab.seq st;have hl:=rs.length;obtain ⟨v,e⟩:∃ v,vs[i]?=some v:=⟨vs[i]'(by omega),List.getElem?_eq_getElem _⟩;exact ⟨vs,v,sq,e⟩
 yld:=fun i H G x H' _ ab st hi y=>by
  obtain ⟨vs,sq,rs⟩:=ab.seq st;obtain ⟨e,y⟩:=y;subst e;obtain ⟨w,ew,rp⟩:=rs.get' (y vs sq);exact ⟨w,ew,.refl,rp,ab⟩
 stop:=fun i H G _ ab st hi=>by
  obtain ⟨vs,sq,rs⟩:=ab.seq st;exact ⟨vs,sq,by rw [rs.length];exact hi⟩
theorem ziH {K:yN} {a:Addr} {H1:Hp} {ws:List W} {vs:List V} (sq:sL K H1 a vs) (rs:zF K H1 ws vs):ItIs K (Itt K a) H1 ws (fun _=>True) where
 go:=fun i H G g ab st hi=>by
  have hl:=rs.length;obtain ⟨v,e⟩:∃ v,vs[i]?=some v:=⟨vs[i]'(by omega),List.getElem?_eq_getElem _⟩;exact ⟨vs,v,g.1 _ _ sq,e⟩
 yld:=fun i H G x H' g ab st hi y=>by
  obtain ⟨e,y⟩:=y;subst e;obtain ⟨w,ew,rp⟩:=(rs.mono g).get' (y vs (g.1 _ _ sq));exact ⟨w,ew,.refl,rp,ab⟩
 stop:=fun i H G g ab st hi=>⟨vs,g.1 _ _ sq,by rw [rs.length];exact hi⟩
theorem xL.rdD {K:yN} {H:Hp} {G:Hw} {p:Addr} {kvs:List (yO×W)} (ab:xL K H G) (e:jP G p=some kvs):∃ l,Rd H p (.dK l)/\yS K H kvs l:=by
 unfold jP at e
 split at e
 .rename_i q;cases e;obtain ⟨u,e',l,rfl,r⟩:=ab p _ q;exact ⟨l,.inl e',r⟩
 .rename_i q;cases e;obtain ⟨u,e',ob,l,rfl,r⟩:=ab p _ q;exact ⟨l,.inr ⟨ob,e'⟩,r⟩
 .cases e
theorem xL.freeze {K:yN} {H:Hp} {G:Hw} {p:Addr} {kvs:List (yO×W)} {l:List (yO×V)} {ob:Obj} (ab:xL K H G) (e:jP G p=some kvs) (hl:Rd H p (.dK l)) (rk:yS K H kvs l) :
  (∀ ob',H p=some (.frz ob' (.dK l))->ob'=ob)->yJ K H (xK H p (.frz ob (.dK l)))/\xL K (xK H p (.frz ob (.dK l))) (put G p (.fzd kvs)):=by
 intro same;unfold jP at e
 split at e
 .rename_i q;cases e;have g:yJ K H (xK H p (.frz ob (.dK l))):=ab.grow q;exact ⟨g,ab.chg q ⟨ob,l,rfl,rk.mono g⟩⟩
 .rename_i q;cases e;obtain ⟨u,e',ob2,l2,rfl,r⟩:=ab p _ q
  have hp:H p=some (.frz ob (.dK l)):=by
   rcases hl with h|⟨o,h⟩
   .rw [h] at e';cases e'
   .rw [h,same o h]
  rw [zeI hp];refine ⟨.refl,fun b o z=>?_⟩
  by_cases hb:b=p
  .subst hb;rw [zY] at z;cases z;exact ⟨_,hp,ob,l,rfl,rk⟩
  .rw [yU hb] at z;exact ab b o z
 .cases e
theorem yS.keyAt {K:yN} {H:Hp} {κ:Type}:∀ {l:List (κ×W)} {l':List (κ×V)} {i:Nat} {p:κ×V},yS K H l l'->l'[i]?=some p->∃ w,l[i]?=some (p.1,w)
 | [],_,i,p,h,e=>by rw [show _=[] from h] at e;simp at e
 | (k,w)::_,_,0,p,⟨v,t,e,h,r⟩,q=>by subst e;simp at q;subst q;exact ⟨w,rfl⟩
 |_::_,_,i+1,p,⟨v,t,e,h,r⟩,q=>by
  subst e;obtain ⟨w,h1⟩:=yS.keyAt (i:=i) (p:=p) r (by simpa using q);exact ⟨w,by simpa using h1⟩
theorem ziy {K:yN} {H:Hp} (k:yO):wQ K H (kW k) (kV k):=by
 cases k<;>rfl
theorem ziM {K:yN} {d:Addr} {ob:Obj} {l:List (yO×V)} {H1:Hp} {kvs:List (yO×W)} (e:H1 d=some (.frz ob (.dK l))) (rk:yS K H1 kvs l):ItIs K (Itd d ob l) H1 (kvs.map fun kv=>kW kv.1) (fun G=>G d=some (.fzd kvs)) where
 go:=fun i H G g ab st hi=>⟨g.2 _ _ True.intro e,by rw [rk.length];simpa using hi⟩
 yld:=fun i H G x H' g ab st hi y=>by
  obtain ⟨e1,p,e2,e3⟩:=y;subst e1;subst e3;obtain ⟨w,ew⟩:=rk.keyAt e2;exact ⟨kW p.1,by rw [List.getElem?_map,ew];rfl,.refl,ziy _,ab⟩
 stop:=fun i H G g ab st hi=>⟨g.2 _ _ True.intro e,by rw [rk.length];simpa using hi⟩
theorem zhR {tg x:Expr} {e:E3} (m:wG e) (h:PE X x (yA X.K e)):PI X tg x (lowI X.K fun σ G R=>e σ G fun w G1=>wS w G1 R):=by
 intro pins s σ H R I q;refine zhQ h pins s σ H R I ?_;obtain ⟨σ3,G,hs,ha,q⟩:=q;refine xT m hs ha q fun w G1 v H1 gr hs1 rp ab q=>?_
 cases w with
 |tup ws =>
  obtain ⟨a,vs,rfl,sq,rs⟩:=rp;exact .inr ⟨a,rfl,.inr (.inl ⟨⟨vs,sq⟩,q _ H1 gr ab (ziH sq rs)⟩)⟩
 |ref p =>
  cases rp;simp only [wS] at q
  split at q
  .rename_i ws e;obtain ⟨vs,sq,rs⟩:=ab.seq e;exact .inr ⟨p,rfl,.inl ⟨⟨vs,sq⟩,q _ H1 gr ab ziK⟩⟩
  .split at q
   .rename_i kvs e;obtain ⟨l,hl,rk⟩:=ab.rdD e;refine .inr ⟨p,rfl,.inr (.inr ⟨l,hl,fun ob same=>?_⟩)⟩;obtain ⟨g2,a2⟩:=ab.freeze (ob:=ob) e hl rk same;exact q _ _ (gr.trans g2) a2 (ziM (wY) (rk.mono g2))
   .exact q.elim
 |str t =>
  cases rp;exact .inl ⟨t,rfl,q _ H1 gr ab ziI⟩
 |_=>exact q.elim
def lowG (K:yN) (t:G3):TG:=fun v τ H Q=>∃ w σ G,wQ K H w v/\yH K H σ τ/\xL K H G/\t w σ G fun σ' G'=>∀ τ' H',yJ K H H'->yH K H' σ' τ'->xL K H' G'->Q τ' H'
def lowGs (K:yN) (t:Gs3):TGs:=fun vs τ H Q=>∃ ws σ G,zF K H ws vs/\yH K H σ τ/\xL K H G/\t ws σ G fun σ' G'=>∀ τ' H',yJ K H H'->yH K H' σ' τ'->xL K H' G'->Q τ' H'
theorem _root_.L2.PG.imp {tg:Expr} {t t':TG} (h:PG X tg t) (k:∀ v σ H Q,t' v σ H Q->t v σ H Q):PG X tg t':=fun pins s σ H v u Q I r q=>h pins s σ H v u Q I r (k v σ H Q q)
theorem _root_.L2.PGs.imp {tg:List Expr} {t t':TGs} (h:PGs X tg t) (k:∀ v σ H Q,t' v σ H Q->t v σ H Q):PGs X tg t':=fun pins s σ H v u Q I r q=>h pins s σ H v u Q I r (k v σ H Q q)
theorem gO {e:Expr} {es:List Expr} {env:Env} (h:xB e=true):assignEach (e::es) env=(false,assign e env)::assignEach es env:=by
 cases e<;>first|rfl|exact absurd h zzN
end
def MonoG (t:G3):Prop:=∀ w σ G (Q Q':jH->Hw->Prop),(∀ a b,Q a b->Q' a b)->t w σ G Q->t w σ G Q'
def zjl (t:Gs3):Prop:=∀ w σ G (Q Q':jH->Hw->Prop),(∀ a b,Q a b->Q' a b)->t w σ G Q->t w σ G Q'
mutual
theorem rK:∀ t:ITg,MonoG (zU t)
 | .nm i=>fun w σ G Q Q' k h=>k _ _ h
 | .tup ts=>fun w σ G Q Q' k h=>by
  cases w with
  |tup ws=>exact nH ts ws σ G Q Q' k h
  |_=>exact h.elim
theorem nH:∀ ts:ITgs,zjl (zZ ts)
 | .nil=>fun w σ G Q Q' k h=>by
  cases w with
  |nil=>exact k _ _ h
  |cons _ _=>exact h.elim
 | .cons t ts=>fun w σ G Q Q' k h=>by
  cases w with
  |nil=>exact h.elim
  |cons x r=>exact rK t x σ G _ _ (fun σ' G' h=>nH ts r σ' G' Q Q' k h) h
end
theorem ze5 {Γ:Ctx3} {M:MC} {p:Par} {X:Cx} (L:Lk Γ M p X) {x:Str} (h:locB M x=true):Loc X.env.scope x/\(X.fn x=true\/X.env.scope.names.lookup x=some .local):=by
 unfold locB at h;rw [L.sc]
 split at h
 .rename_i e;exact ⟨.inl e,.inr e⟩
 .rename_i e;exact ⟨.inr e,.inl (L.own x h)⟩
 .exact absurd h zzN
mutual
theorem sndG {Γ:Ctx3} {M:MC} {p:Par} {X:Cx} (L:Lk Γ M p X):∀ (t:ITg) (x:Expr),mG M t x=true->PG X x (lowG X.K (zU t))
  | .nm i,x,h=>by
   cases x with
   |Name y q =>
    replace h:=rQ h;have lo:=ze5 L h.2;refine (zfW (i:=i) (L.N▸L.nd) (by rw [L.N];exact qQ h.1) lo.1 lo.2).imp fun v σ H Q q=>?_;obtain ⟨w,σ3,G,rp,hs,ab,q⟩:=q;exact q _ _ .refl (hs.set rp i) ab
   |_=>exact absurd h zzN
  | .tup ts,x,h=>by
   cases x with
   |Tuple es k q =>
    skip
    obtain ⟨ps,hn,hst⟩:=zhq L ts es h;refine (zhS (n:=es.length) L.fits.calm ps hn hst).imp fun v σ H Q q=>?_;obtain ⟨w,σ3,G,rp,hs,ab,q⟩:=q
    cases w with
    |tup ws =>
      obtain ⟨a,vs,rfl,sq,rs⟩:=rp;refine ⟨a,vs,rfl,sq,?_,ws,σ3,G,rs,hs,ab,q⟩;rw [rs.length];exact zim ts es ws σ3 G _ h q
    |_=>exact q.elim
   |_=>exact absurd h zzN
theorem zhq {Γ:Ctx3} {M:MC} {p:Par} {X:Cx} (L:Lk Γ M p X):∀ (ts:ITgs) (xs:List Expr),mGs M ts xs=true->PGs X xs (lowGs X.K (zZ ts))/\(assignEach xs X.env).length=xs.length/\(assignEach xs X.env).findIdx? (·.1)=none
 | .nil,[],_=>⟨(zfV).imp fun vs σ H Q q=>by
   obtain ⟨ws,σ3,G,rs,hs,ab,q⟩:=q
   cases ws with
   |nil=>exact ⟨rs,q _ _ .refl hs ab⟩
   |cons _ _=>exact q.elim,rfl,rfl⟩
 | .cons t ts,x::xs,h=>by
  simp only [mGs,Bool.and_eq_true] at h;obtain ⟨ps,hn,hst⟩:=zhq L ts xs h.2;have es:=gO (es:=xs) (env:=X.env) h.1.1;refine ⟨(zdW (sndG L t x h.1.2) ps (by rw [es];rfl)).imp fun vs σ H Q q=>?_,by rw [es,List.length_cons,List.length_cons,hn],?_⟩
  .obtain ⟨ws,σ3,G,rs,hs,ab,q⟩:=q
   cases ws with
   |nil=>exact q.elim
   |cons w r =>
    obtain ⟨v,vr,e,rp,rr⟩:=rs;refine ⟨v,vr,e,w,σ3,G,rp,hs,ab,rK t w σ3 G _ _ (fun σ' G' q τ' H' g' hs' ab'=>?_) q⟩;exact ⟨r,σ',G',rr.mono g',hs',ab',nH ts r σ' G' _ _ (fun σ2 G2 q τ2 H2 g2=>q τ2 H2 (g'.trans g2)) q⟩
  .rw [es,List.findIdx?_cons];simp only [zzB,if_false,hst];rfl
theorem zim {M:MC}:∀ (ts:ITgs) (xs:List Expr) (ws:List W) (σ:jH) (G:Hw) (Q:jH->Hw->Prop),mGs M ts xs=true->zZ ts ws σ G Q->ws.length=xs.length
 | .nil,[],ws,σ,G,Q,_,q=>by
  cases ws with
  |nil=>rfl
  |cons _ _=>exact q.elim
 | .cons t ts,x::xs,ws,σ,G,Q,h,q=>by
  simp only [mGs,Bool.and_eq_true] at h
  cases ws with
  |nil=>exact q.elim
  |cons w r =>
   have:∃ σ' G',zZ ts r σ' G' Q:=exG t w σ G _ q;obtain ⟨σ',G',q'⟩:=this;rw [List.length_cons,List.length_cons,zim ts xs r σ' G' Q h.2 q']
theorem exG:∀ (t:ITg) (w:W) (σ:jH) (G:Hw) (Q:jH->Hw->Prop),zU t w σ G Q->∃ σ' G',Q σ' G'
 | .nm i,w,σ,G,Q,q=>⟨_,_,q⟩
 | .tup ts,w,σ,G,Q,q=>by
  cases w with
  |tup ws=>exact exGs ts ws σ G Q q
  |_=>exact q.elim
theorem exGs:∀ (ts:ITgs) (ws:List W) (σ:jH) (G:Hw) (Q:jH->Hw->Prop),zZ ts ws σ G Q->∃ σ' G',Q σ' G'
 | .nil,ws,σ,G,Q,q=>by
  cases ws with
  |nil=>exact ⟨_,_,q⟩
  |cons _ _=>exact q.elim
 | .cons t ts,ws,σ,G,Q,q=>by
  cases ws with
  |nil=>exact q.elim
  |cons w r =>
   obtain ⟨σ',G',q'⟩:=exG t w σ G _ q;exact exGs ts r σ' G' Q q'
end
def lowO (K:yN) (t:jH->Hw->(Option Int->Hw->Prop)->Prop):TO:=fun τ H Q=>∃ σ G,yH K H σ τ/\xL K H G/\t σ G fun o G'=>∀ H',yJ K H H'->xL K H' G'->Q o H'
theorem _root_.L2.PO.imp {X:Cx} {e:Option Expr} {t t':TO} (h:PO X e t) (k:∀ σ H Q,t' σ H Q->t σ H Q):PO X e t':=fun pins s σ H Q I q=>h pins s σ H Q I (k σ H Q q)
theorem _root_.L2.PTs.imp {X:Cx} {e:List Expr} {t t':TT} (h:PTs X e t) (k:∀ σ H Q,t' σ H Q->t σ H Q):PTs X e t':=fun pins s σ H Q I q=>h pins s σ H Q I (k σ H Q q)
theorem _root_.L2.PI.imp {X:Cx} {tg x:Expr} {t t':TI} (h:PI X tg x t) (k:∀ σ H R,t' σ H R->t σ H R):PI X tg x t':=fun pins s σ H R I q=>h pins s σ H R I (k σ H R q)
def capV (k:Nat) (caps:List Nat) (σ:L2.St):L2.St:=List.replicate k none++caps.map fun j=>(σ[j]?).join
theorem bQ {α:Type} {k:Nat} {caps:List Nat} {σ:List (Option α)} {i:Nat} {v:α} (h:(List.replicate k none++caps.map fun j=>(σ[j]?).join)[i]?=some (some v)):k<=i/\∃ j,caps[i-k]?=some j/\σ[j]?=some (some v):=by
 by_cases hi:i<k
 .rw [List.getElem?_append_left (by simpa using hi),List.getElem?_replicate,if_pos hi] at h;cases h
 .rw [List.getElem?_append_right (by simpa using hi),List.length_replicate,List.getElem?_map] at h;refine ⟨by omega,?_⟩
  cases e:caps[i-k]? with
  |none=>rw [e] at h;cases h
  |some j =>
   rw [e] at h;have h':(σ[j]?).join=some v:=Option.some.inj h;refine ⟨j,rfl,?_⟩
   cases q:σ[j]? with
   |none=>rw [q] at h';cases h'
   |some o=>rw [q] at h';exact congrArg some h'
theorem zg3 {K:yN} {H:Hp} {σ:jH} {τ:L2.St} (h:yH K H σ τ) (k:Nat) (caps:List Nat):yH K H (jS k caps σ) (capV k caps τ):=by
 refine ⟨by simp [jS,capV],fun i w e=>?_⟩;obtain ⟨hk,j,ej,es⟩:=bQ e;obtain ⟨v,ev,rp⟩:=h.2 j w es;refine ⟨v,?_,rp⟩;unfold capV;rw [List.getElem?_append_right (by simpa using hk),List.length_replicate,List.getElem?_map,ej];simp [ev]
theorem zaE:∀ {l:List Str},nM l=true->l.Nodup
 | [],_=>List.nodup_nil
 |x::r,h=>by
  simp only [nM,Bool.and_eq_true,Bool.not_eq_true'] at h;refine List.nodup_cons.mpr ⟨fun hm=>?_,zaE h.2⟩;have:=List.elem_eq_true_of_mem hm;rw [List.contains_eq_mem] at h;simp [hm] at h
theorem zfI {X:Cx} {sc out:Scope} (e:X.env.scope=out):relabel sc X.env=relS sc out:=by
 unfold relabel relS Env.kindOf;rw [e]
theorem zff {X:Cx} {sc out:Scope} (e:X.env.scope=out) (h:blkB out sc=true):BlkSc X sc:=by
 unfold blkB at h;simp only [Bool.and_eq_true,List.all_eq_true] at h;obtain ⟨⟨⟨h1,h2⟩,h3⟩,h4⟩:=h;refine ⟨eq_of_beq h1,fun y hy=>?_,fun y hy=>?_,fun x hx=>?_,fun y hy z=>?_⟩
 .simpa using (h2 _ hy).1
 .simpa using (h2 _ hy).2
 .have:=h3 _ hx;simp only [beq_self_eq_true,Bool.not_true,Bool.false_or,Bool.or_eq_true,beq_iff_eq] at this;show X.env.scope.names.lookup x=_\/X.env.scope.names.lookup x=_;rw [e];exact this
 .have:=h4 y hy;rw [z] at this;simpa using this
theorem zdb {X:Cx} {M:MC} {sc:Scope} {names:List Str} {caps:List Nat} (eN:X.N=M.N) (es:X.env.scope=M.sc)
  (h:(caps.all fun j=>decide (j<M.N.length)&&(sc.names.lookup (M.N.getD j Str.empty)==some .free))=true) :
  Caps X sc (names++caps.map (fun j=>M.N.getD j Str.empty)) (capV names.length caps):=by
 intro σ hl;simp only [List.all_eq_true,Bool.and_eq_true,decide_eq_true_eq,Bool.not_eq_true'] at h;refine ⟨by simp [capV],fun i x v hN hσ _=>?_⟩;obtain ⟨hk,j,ej,e⟩:=bQ hσ;rw [List.getElem?_append_right hk,List.getElem?_map,ej] at hN;have hx:M.N.getD j Str.empty=x:=Option.some.inj hN;have hj:=h j (List.mem_of_getElem? ej);refine ⟨?_,j,?_,e⟩
 .rw [← hx];exact eq_of_beq hj.2
 .rw [eN,← hx,List.getD_eq_getElem?_getD,List.getElem?_eq_getElem hj.1];rfl
theorem zin {K:yN} {J:It} {H1:Hp} {items:List W} {stab:Hw->Prop} {G1:Hw} {σ:jH} {τ:L2.St} {tg:ITg} {c:T3} {e:E3} {Q:VK} {H0:Hp} (mc:uY c) (me:wG e) (it:ItIs K J H1 items stab) (ab:xL K H1 G1) (hs:yH K H1 σ τ) (g0:yJ K H0 H1)
  (hw:∀ w G' (Q:jH->Hw->Prop),zU tg w σ G' Q->zU tg w σ G' fun σ2 G2=>(σ2.length=σ.length/\∀ (i:Nat) (v:W),σ[i]?=some (some v)->σ2[i]?=some (some v))/\Q σ2 G2)
  (h:lcR items stab G1 (fun w G' K=>zU tg w σ G' fun σ2 G2=>c σ2 G2 fun b G3=>if b=true then e σ2 G3 fun x G4=>K (some x) G4 else K none G3) (qG K H0 Q)) :
  tLCb J τ (lowG K (zU tg)) (qO K c) (yA K e) (fun acc H'=>∀ p,H' p=none->Q (.ref p) (xK H' p (.lst acc))) H1:=by
 obtain ⟨Pv,p0,pst,hlen,step,fin⟩:=h;refine ⟨fun i m τ acc H=>m+i=items.length/\yJ K H1 H/\yH K H σ τ/\∃ ws G,zF K H ws acc/\xL K H G/\Pv i ws G,⟨items.length,rfl,.refl,hs,[],G1,rfl,ab,p0⟩,?_⟩;rintro i m τ acc H ⟨hm,gr,hs,ws,G,rs,a,pv⟩;have hst:=pst i ws G pv (by omega);have hacc:acc.length=ws.length:=rs.length
 by_cases hi:i<items.length
 .refine .inr ⟨it.go i H G gr a hst.1 hi,by omega,fun x H' y=>?_⟩;obtain ⟨w,ew,g1,rp,a1⟩:=it.yld i H G x H' gr a hst.1 hi y;refine ⟨w,σ,G,rp,hs.mono g1,a1,rK tg w σ G _ _ (fun σ2 G2 q τ2 H2 g2 hs2 a2=>?_) (hw w G _ (step i w ws G ew pv))⟩;obtain ⟨⟨wl,wk⟩,q⟩:=q;have back:∀ {τ':L2.St} {H':Hp},yH K H' σ2 τ'->yH K H' σ τ':=fun {τ' H'} r=>⟨by rw [← wl];exact r.1,fun k w e=>r.2 k w (wk k w e)⟩;refine hZ mc hs2 a2 q fun b G3 H3 g3 hs3 a3 q3=>?_
  cases b with
  |true =>
   rw [if_pos rfl] at q3 ⊢;refine xT me hs3 a3 q3 fun x G4 v H4 g4 hs4 rx a4 q4=>?_;refine ⟨m-1,by omega,by omega,gr.trans (g1.trans (g2.trans (g3.trans g4))),back hs4,ws++[x],G4,?_,a4,q4⟩;exact (rs.mono (g1.trans (g2.trans (g3.trans g4)))).append ⟨v,[],rfl,rx,rfl⟩
  |false =>
   rw [if_neg (by decide)] at q3 ⊢;exact ⟨m-1,by omega,by omega,gr.trans (g1.trans (g2.trans g3)),back hs3,ws,G3,rs.mono (g1.trans (g2.trans g3)),a3,q3⟩
 .refine .inl ⟨it.stop i H G gr a hst.1 (by omega),fun p hp=>?_⟩;have ei:i=items.length:=by omega
  subst ei;exact fin ws G pv p (a.free hp) _ _ ((g0.trans gr).trans (xJ hp)) rfl (a.new hp ⟨acc,rfl,rs.mono (xJ hp)⟩)
theorem zb2:∀ (tg:ITg) (w:W) (σ:jH) (G:Hw) (Q:jH->Hw->Prop),zU tg w σ G Q->zU tg w σ G fun σ2 G2=>σ2.length=σ.length/\Q σ2 G2:=by
 intro tg
 refine ITg.rec (motive_1:=fun _=>True) (motive_2:=fun _=>True) (motive_3:=fun _=>True) (motive_4:=fun _=>True) (motive_5:=fun tg=>∀ (w:W) (σ:jH) (G:Hw) (Q:jH->Hw->Prop),zU tg w σ G Q->zU tg w σ G fun σ2 G2=>σ2.length=σ.length/\Q σ2 G2)
  (motive_6:=fun ts=>∀ (ws:List W) (σ:jH) (G:Hw) (Q:jH->Hw->Prop),zZ ts ws σ G Q->zZ ts ws σ G fun σ2 G2=>σ2.length=σ.length/\Q σ2 G2)
  ?_ ?_ ?_ ?_ ?_ ?_ ?_ ?_ ?_ ?_ ?_ ?_ ?_ ?_ ?_ ?_ ?_ ?_ ?_ ?_ ?_ ?_ ?_ ?_ ?_ ?_ ?_ ?_ ?_ ?nm ?tup ?nil ?cons tg
 case nm=>exact fun i w σ G Q h=>⟨by simp,h⟩
 case tup =>
  intro ts ih w σ G Q h
  cases w with
  |tup ws=>exact ih ws σ G Q h
  |_=>exact h.elim
 case nil =>
  intro ws σ G Q h
  cases ws with
  |nil=>exact ⟨rfl,h⟩
  |cons _ _=>exact h.elim
 case cons =>
  intro t ts ht hts ws σ G Q h
  cases ws with
  |nil=>exact h.elim
  |cons w r =>
   refine rK t w σ G _ _ (fun σ' G' q=>?_) (ht w σ G _ h);exact nH ts r σ' G' _ _ (fun σ2 G2 q2=>⟨q2.1.trans q.1,q2.2⟩) (hts r σ' G' Q q.2)
 all_goals intros;trivial
mutual
theorem zaw:∀ (tg:ITg) (w:W) (σ:jH) (G:Hw) (Q:jH->Hw->Prop),zU tg w σ G Q->zU tg w σ G fun σ2 G2=>(∀ i,i∉tgIx tg->σ2[i]?=σ[i]?)/\Q σ2 G2
 | .nm j,w,σ,G,Q,h=>⟨fun i hi=>by rw [List.getElem?_set_ne];intro z;exact hi (by simp [tgIx,z]),h⟩
 | .tup ts,w,σ,G,Q,h=>by
  cases w with
  |tup ws=>exact fY ts ws σ G Q h
  |_=>exact h.elim
theorem fY:∀ (ts:ITgs) (ws:List W) (σ:jH) (G:Hw) (Q:jH->Hw->Prop),zZ ts ws σ G Q->zZ ts ws σ G fun σ2 G2=>(∀ i,i∉zdt ts->σ2[i]?=σ[i]?)/\Q σ2 G2
 | .nil,ws,σ,G,Q,h=>by
  cases ws with
  |nil=>exact ⟨fun _ _=>rfl,h⟩
  |cons _ _=>exact h.elim
 | .cons t ts,ws,σ,G,Q,h=>by
  cases ws with
  |nil=>exact h.elim
  |cons w r =>
   refine rK t w σ G _ _ (fun σ' G' q=>?_) (zaw t w σ G _ h);refine nH ts r σ' G' _ _ (fun σ2 G2 q2=>⟨fun i hi=>?_,q2.2⟩) (fY ts r σ' G' Q q.2);simp only [zdt,List.mem_append,not_or] at hi;rw [q2.1 i hi.2,q.1 i hi.1]
end
theorem zc2 {K:yN} {H:Hp}:∀ (ks:List Str) {ws:List W} {vs:List V} {a:List (yO×W)} {b:List (yO×V)},zF K H ws vs->yS K H a b ->
  yS K H ((ks.zip ws).foldl (fun acc kv=>jG acc (.inr kv.1) kv.2) a) (((ks.zip vs).map fun kv=>((Sum.inr kv.1:yO),kv.2)).foldl (fun acc kv=>vU acc kv.1 kv.2) b)
 | [],ws,vs,a,b,_,h=>by simpa using h
 |k::ks,[],vs,a,b,hr,h=>by rw [show vs=[] from hr];simpa using h
 |k::ks,w::ws,vs,a,b,hr,h=>by
  obtain ⟨v,r,e,rw',rr⟩:=hr;subst e;simp only [List.zip_cons_cons,List.foldl_cons,zzU];exact zc2 ks rr (h.put rw')
theorem nB {K:yN} {H:Hp} {f:Str} {w:W}:∀ {l:List (Str×W)} {l':List (Str×V)},yS K H l l'->l.lookup f=some w->∃ v,l'.lookup f=some v/\wQ K H w v
 | [],_,h,e=>by cases e
 |p::r,_,⟨v,t,e,h,hr⟩,q=>by
  subst e;obtain ⟨n,u⟩:=p;rw [List.lookup_cons] at q ⊢
  cases hx:f==n with
  |true=>rw [hx] at q;cases q;exact ⟨v,rfl,h⟩
  |false=>rw [hx] at q;exact nB hr q
theorem zeK {K:yN} {H:Hp} {G:Hw} {w:W} {v:V} {T:String} (r:wQ K H w v) (ab:xL K H G) (h:tyW G w T):tyV K T v H:=by
 cases w with
 |str x=>cases r;exact h
 |ref p =>
  cases r;simp only [tyW] at h
  split at h
  .rename_i ws e;obtain ⟨vs,q,_⟩:=ab.lst e;exact .inl ⟨h,vs,.of q⟩
  .rename_i ws e;obtain ⟨vs,q,_⟩:=ab.seq (a:=p) (ws:=ws) (by unfold yQ;rw [e]);exact .inl ⟨h,vs,q⟩
  .rename_i kvs e;obtain ⟨l,q,_⟩:=ab.dic e;exact .inr (.inr (.inl ⟨h,.inl ⟨l,q⟩⟩))
  .exact h.elim
 |_=>exact h.elim
theorem zga {l:List Nat} {k:Nat} (h:l.all (fun i=>decide (i<k))=true) {i:Nat} (hi:k<=i):i∉l:=fun hm=>by
 have:=List.all_eq_true.mp h i hm;simp at this;omega
theorem zgp {op:CmpOp} {a b:IE} {M:MC} {l:Expr} {os:List CmpOp} {rs:List Expr} {q:Pos} (h:mE (.cmp op a b) M (.Compare l os rs q)=true):∃ o r,os=[o]/\rs=[r]:=by
 cases os with
 |nil=>exact absurd h zzN
 |cons o os =>
  cases os with
  |cons _ _=>exact absurd h zzN
  |nil =>
   cases rs with
   |nil=>exact absurd h zzN
   |cons r rs =>
    cases rs with
    |cons _ _=>exact absurd h zzN
    |nil=>exact ⟨o,r,rfl,rfl⟩
theorem zgq {o1 o2:CmpOp} {a b c:IE} {M:MC} {l:Expr} {os:List CmpOp} {rs:List Expr} {q:Pos} (h:mE (.chn o1 o2 a b c) M (.Compare l os rs q)=true):∃ p1 p2 r t,os=[p1,p2]/\rs=[r,t]:=by
 cases os with
 |nil=>exact absurd h zzN
 |cons p1 os =>
  cases os with
  |nil=>exact absurd h zzN
  |cons p2 os =>
   cases os with
   |cons _ _=>exact absurd h zzN
   |nil =>
    cases rs with
    |nil=>exact absurd h zzN
    |cons r rs =>
     cases rs with
     |nil=>exact absurd h zzN
     |cons t rs =>
      cases rs with
      |cons _ _=>exact absurd h zzN
      |nil=>exact ⟨p1,p2,r,t,rfl,rfl⟩
theorem zgr {o1 o2 o3:CmpOp} {a b c d:IE} {M:MC} {l:Expr} {os:List CmpOp} {rs:List Expr} {q:Pos} (h:mE (.ch3 o1 o2 o3 a b c d) M (.Compare l os rs q)=true):∃ p1 p2 p3 r t u,os=[p1,p2,p3]/\rs=[r,t,u]:=by
 match os,rs,h with
 | [p1,p2,p3],[r,t,u],_=>exact ⟨p1,p2,p3,r,t,u,rfl,rfl⟩
section
variable {X : Cx} {a b c d : Expr} {pos : Pos} {ta tb tc td : TE}
def tCh3 (r1 r2 r3:R2) (ta tb tc td:TE):TE:=fun σ H Q=>ta σ H fun x H1=>tb σ H1 fun y H2=>r1 x y H2 fun z H3=>∃ k,z=.bl k /\
 (if k=true then tc σ H3 fun u H4=>r2 y u H4 fun z2 H5=>∃ k2,z2=.bl k2/\(if k2=true then td σ H5 fun t H6=>r3 u t H6 Q else Q (.bl false) H5) else Q (.bl false) H3)
theorem zh1 {o1 o2 o3:CmpOp} {r1 r2 r3:R2} (h1:kP X (compareOp o1) r1) (h2:kP X (compareOp o2) r2) (h3:kP X (compareOp o3) r3) (ha:PE X a ta) (hb:PE X b tb) (hc:PE X c tc) (hd:PE X d td)
  (hm:lastMarks [o1,o2,o3] [b,c,d]=false):PE X (.Compare a [o1,o2,o3] [b,c,d] pos) (tCh3 r1 r2 r3 ta tb tc td):=by
 intro pins s σ H Q I h
 refine Compare_chain (yF (ha pins s σ H _ I h) fun v s1 ⟨x,H1,I1,e1,q1⟩=>chain_link (yF (hb pins s1 σ H1 _ I1 q1) fun u s2 ⟨y,H2,I2,e2,q2⟩ =>
  yF (h1 pins s2 σ H2 x y v u _ I2 e1 e2 q2) fun _ s3 ⟨z,H3,I3,e3,k,e,q3⟩=>?_)) hm
 subst e;cases e3;refine wpAny_truthy_bool ?_
 cases k with
 |false=>exact ite_ff ⟨.bl false,H3,I3,rfl,q3⟩
 |true =>
  refine ite_tt (chain_link (yF (hc pins s3 σ H3 _ I3 q3) fun w4 s4 ⟨z4,H4,I4,e4,q4⟩=>yF (h2 pins s4 σ H4 y z4 u w4 _ I4 e2 e4 q4) fun _ s5 ⟨z5,H5,I5,e5,k2,e,q5⟩=>?_));subst e;cases e5;refine wpAny_truthy_bool ?_
  cases k2 with
  |false=>exact ite_ff ⟨.bl false,H5,I5,rfl,q5⟩
  |true=>exact ite_tt (chain_last (yF (hd pins s5 σ H5 _ I5 q5) fun w6 s6 ⟨z6,H6,I6,e6,q6⟩=>h3 pins s6 σ H6 z4 z6 w4 w6 Q I6 e4 e6 q6))
theorem zhK {o1 o2 o3:CmpOp} {r1 r2 r3:R2} (h1:kP X (compareOp o1) r1) (h2:kP X (compareOp o2) r2) (h3:kP X (compareOp o3) r3) (ha:PE X a ta) (hb:PE X b tb) (hc:PE X c tc) (hd:PE X d td)
  (hm:lastMarks [o1,o2,o3] [b,c,d]=false):PT X (.Compare a [o1,o2,o3] [b,c,d] pos) (zfv (tCh3 r1 r2 r3 ta tb tc td)):=by
 intro pins s σ H Q I h
 refine isTrue_chain (yF (ha pins s σ H _ I h) fun v s1 ⟨x,H1,I1,e1,q1⟩=>test_link (yF (hb pins s1 σ H1 _ I1 q1) fun u s2 ⟨y,H2,I2,e2,q2⟩ =>
  yF (h1 pins s2 σ H2 x y v u _ I2 e1 e2 q2) fun _ s3 ⟨z,H3,I3,e3,k,e,q3⟩=>?_)) hm
 subst e;cases e3;refine wpAny_truthy_bool ?_
 cases k with
 |false =>
  obtain ⟨k',e',q'⟩:=q3;cases e';exact ite_ff ⟨H3,I3,q'⟩
 |true =>
  refine ite_tt (test_link (yF (hc pins s3 σ H3 _ I3 q3) fun w4 s4 ⟨z4,H4,I4,e4,q4⟩=>yF (h2 pins s4 σ H4 y z4 u w4 _ I4 e2 e4 q4) fun _ s5 ⟨z5,H5,I5,e5,k2,e,q5⟩=>?_));subst e;cases e5;refine wpAny_truthy_bool ?_
  cases k2 with
  |false =>
   obtain ⟨k',e',q'⟩:=q5;cases e';exact ite_ff ⟨H5,I5,q'⟩
  |true =>
   refine ite_tt (test_last (yF (hd pins s5 σ H5 _ I5 q5) fun w6 s6 ⟨z6,H6,I6,e6,q6⟩=>yF (h3 pins s6 σ H6 z4 z6 w4 w6 _ I6 e4 e6 q6) fun _ s7 ⟨z7,H7,I7,e7,k3,e,q7⟩=>?_));subst e;cases e7;exact wpAny_truthy_bool ⟨H7,I7,q7⟩
end
section
variable {Γ : Ctx3} {p : Par} (g : Good Γ p)
def jI (Γ:Ctx3) (p:Par) (e:IE):Prop:=∀ M X x,Lk Γ M p X->mE e M x=true->PE X x (yA X.K (zI Γ XN e).e)/\PT X x (qO X.K (zI Γ XN e).t)/\∀ op vs pos,x=.BoolOp op vs pos->PW X x (qO X.K (zI Γ XN e).t)
def OkO (Γ:Ctx3) (p:Par) (o:IO):Prop:=∀ M X,Lk Γ M p X->(∀ x,mO o M x=true->PO X x (lowO X.K (zN Γ XN o)))/\∀ xs,mC o M xs=true->PTs X xs (qO X.K (zP Γ o))
def OkA (Γ:Ctx3) (p:Par) (es:IEs):Prop:=∀ M X xs,Lk Γ M p X->mA es M xs=true->PA X xs (sV X.K (zT Γ XN es))/\xs.all xB=true /\
 (∀ ks keys pos,keyB ks keys=true->keys.length=xs.length->keys.all (·.isSome)=true/\ks.length=keys.length/\∃ trs,PPs X pos keys xs trs/\∀ τ H (Q:List (V×V)->Hp->Prop),
  (∃ σ G,yH X.K H σ τ/\xL X.K H G/\zT Γ XN es σ G fun ws G'=>∀ vs H',yJ X.K H H'->zF X.K H' ws vs->xL X.K H' G'->Q ((ks.zip vs).map fun kv=>(V.str kv.1,kv.2)) H')->dG trs τ H Q)/\dI X xs (semL Γ es)
def OkI (Γ:Ctx3) (p:Par) (it:II):Prop:=∀ M X x,Lk Γ M p X->mI it M x=true->∀ tg,PI X tg x (lowI X.K (zR Γ XN it))
theorem wA {M:MC} {X:Cx} {x:Expr} {e:E3} (m:wG e) (h:PE X x (yA X.K e)) (he:∀ whole,isTrue x X.env whole=(do let v ← whole;standAt x.pos;holding [v] (truthy v))) (hb:∀ op vs pos,x≠.BoolOp op vs pos) :
  PE X x (yA X.K (zB e).e)/\PT X x (qO X.K (zB e).t)/\∀ op vs pos,x=.BoolOp op vs pos->PW X x (qO X.K (zB e).t) :=
 ⟨h,pt_of m h he,fun op vs pos z=>absurd z (hb op vs pos)⟩
include g
theorem s_var (i:Nat):jI Γ p (.var i):=by
 intro M X x L h
 cases x with
 |Name y q =>
  replace h:=bd4 h;simp only [Bool.not_eq_true'] at h;refine wA (M:=M) (zA g.mono XN (.var i)) ((zhT (i:=i) (by rw [L.N];exact qQ h.1.1.1) (by rw [L.sc];exact zhc h.1.1.2) h.1.2 h.2).imp fun τ H Q q=>?_) (fun _=>rfl) (fun _ _ _ z=>nomatch z);obtain ⟨σ,G,hs,ab,q⟩:=q
  split at q
  .rename_i w e;obtain ⟨v,ev,rp⟩:=hs.2 i w e;exact ⟨v,ev,q v H .refl rp ab⟩
  .exact q.elim
 |_=>exact absurd h zzN
theorem s_con (c:Const):jI Γ p (.con c):=by
 intro M X x L h
 cases x with
 |Constant d k q =>
  replace h:=of_decide_eq_true h;subst h;refine wA (M:=M) (zA g.mono XN (.con c)) ?_ (fun _=>rfl) (fun _ _ _ z=>nomatch z)
  cases c with
  |none=>exact zhY.imp fun τ H Q q=>by obtain ⟨σ,G,hs,ab,q⟩:=q;exact q _ H .refl rfl ab
  |bool b=>exact pe_bl.imp fun τ H Q q=>by obtain ⟨σ,G,hs,ab,q⟩:=q;exact q _ H .refl rfl ab
  |int b=>exact zeW.imp fun τ H Q q=>by obtain ⟨σ,G,hs,ab,q⟩:=q;exact q _ H .refl rfl ab
  |str b=>exact zeU.imp fun τ H Q q=>by obtain ⟨σ,G,hs,ab,q⟩:=q;exact q _ H .refl rfl ab
  |_=>exact fun pins s σ H Q I q=>by obtain ⟨σ,G,hs,ab,q⟩:=q;exact q.elim
 |_=>exact absurd h zzN
theorem s_glb (i:Nat):jI Γ p (.glb i):=by
 intro M X x L h
 cases x with
 |Name y q =>
  replace h:=rQ h;have gl:=mM L.sc h.2;have hi:=qQ h.1;rw [← L.gls] at hi;obtain ⟨e,ei,rfl⟩:=uS hi;refine wA (M:=M) (zA g.mono XN (.glb i)) ((g.gl e (wL ei) X L.fits gl.1 q gl.2.1 gl.2.2).imp fun τ H Q q=>?_) (fun _=>rfl) (fun _ _ _ z=>nomatch z);obtain ⟨σ,G,hs,ab,q⟩:=q;simp only [ei] at q;exact ⟨σ,G,hs,ab,q⟩
 |_=>exact absurd h zzN
theorem sT {M:MC} {X:Cx} (L:Lk Γ M p X):X.A.units+200<cLine:=by rw [L.fits.A];exact g.un
theorem s_bin (op:Operator) (a b:IE) (ha:jI Γ p a) (hb:jI Γ p b):jI Γ p (.bin op a b):=by
 intro M X x L h
 cases x with
 |BinOp l o r q =>
  replace h:=bd3 h;simp only [decide_eq_true_eq] at h;obtain ⟨⟨rfl,h1⟩,h2⟩:=h;exact wA (M:=M) (zA g.mono XN (.bin op a b)) ((pe_op (zjb op) (ha M X l L h1).1 (hb M X r L h2).1).imp fun τ H Q q=>cT (zA g.mono XN a) (zA g.mono XN b) (dO op) q) (fun _=>rfl) (fun _ _ _ z=>nomatch z)
 |_=>exact absurd h zzN
theorem s_neg (a:IE) (ha:jI Γ p a):jI Γ p (.neg a):=by
 intro M X x L h
 cases x with
 |UnaryOp o l q =>
  cases o with
  |USub =>
   skip
   refine wA (M:=M) (zA g.mono XN (.neg a)) ((zhU zeJ (ha M X l L h).1).imp fun τ H Q q=>?_) (fun _=>rfl) (fun _ _ _ z=>nomatch z);obtain ⟨σ,G,hs,ab,q⟩:=q;refine xT (zA g.mono XN a) hs ab q fun w G1 v H1 gr _ rp ab q=>?_
   cases w with
   |int i=>cases rp;exact ⟨i,rfl,q _ H1 gr rfl ab⟩
   |_=>exact q.elim
  |_=>exact absurd h zzN
 |_=>exact absurd h zzN
theorem s_not (a:IE) (ha:jI Γ p a):jI Γ p (.not a):=by
 intro M X x L h
 cases x with
 |UnaryOp o l q =>
  cases o with
  |Not =>
   skip
   refine ⟨(zhX (ha M X l L h).1).imp fun τ H Q q=>?_,(zhJ (ha M X l L h).2.1).imp fun τ H Q q=>?_,fun _ _ _ z=>nomatch z⟩
   .obtain ⟨σ,G,hs,ab,q⟩:=q;refine xT (zA g.mono XN a) hs ab q fun w G1 v H1 gr _ rp ab q=>?_
    cases w with
    |bl i=>cases rp;exact ⟨i,rfl,q _ H1 gr rfl ab⟩
    |_=>exact q.elim
   .obtain ⟨σ,G,hs,ab,q⟩:=q;exact hZ (sX g.mono XN a) hs ab q fun b G1 H1 gr _ ab q=>q H1 gr ab
  |_=>exact absurd h zzN
 |_=>exact absurd h zzN
theorem s_cmp (op:CmpOp) (a b:IE) (ha:jI Γ p a) (hb:jI Γ p b):jI Γ p (.cmp op a b):=by
 intro M X x L h
 cases x with
 |Compare l os rs q =>
   obtain ⟨o,r,rfl,rfl⟩:=zgp h;replace h:=bd4 h;simp only [decide_eq_true_eq] at h;obtain ⟨⟨⟨rfl,h1⟩,h2⟩,h3⟩:=h;have m:=zA g.mono XN (.cmp op a b)
   refine ⟨(zfZ (jF (sT g L) op) (ha M X l L h1).1 (hb M X r L h2).1 (kX h3)).imp fun τ H Q q=>cT (zA g.mono XN a) (zA g.mono XN b) (xX op) q,
    (zfN (jF (sT g L) op) (ha M X l L h1).1 (hb M X r L h2).1 (kX h3)).imp fun τ H Q q=>cT (zA g.mono XN a) (zA g.mono XN b) (xX op) (bN m q),fun _ _ _ z=>nomatch z⟩
 |_=>exact absurd h zzN
theorem s_chn (o1 o2:CmpOp) (a b c:IE) (ha:jI Γ p a) (hb:jI Γ p b) (hc:jI Γ p c):jI Γ p (.chn o1 o2 a b c):=by
 intro M X x L h
 cases x with
 |Compare l os rs q =>
   obtain ⟨q1,q2,r,t,rfl,rfl⟩:=zgq h;replace h:=bd6 h;simp only [decide_eq_true_eq] at h;obtain ⟨⟨⟨⟨⟨rfl,rfl⟩,h1⟩,h2⟩,h3⟩,h4⟩:=h;have m:=zA g.mono XN (.chn o1 o2 a b c)
   have key:∀ τ H Q,yA X.K (zI Γ XN (.chn o1 o2 a b c)).e τ H Q->zbN (rW X.K (yT o1)) (rW X.K (yT o2)) (yA X.K (zI Γ XN a).e) (yA X.K (zI Γ XN b).e) (yA X.K (zI Γ XN c).e) τ H Q:=fun τ H Q q=>by
    obtain ⟨σ,G,hs,ab,q⟩:=q;refine xT (zA g.mono XN a) hs ab q fun x G1 v H1 g1 hs1 rx a1 q=>?_;refine xT (zA g.mono XN b) hs1 a1 q fun y G2 u H2 g2 hs2 ry a2 q=>?_;refine ⟨x,y,G2,rx.mono g2,ry,a2,xX o1 x y G2 _ _ (fun z G3 q v3 H3 g3 r3 a3=>?_) q⟩
    cases z with
    |bl k =>
     cases r3;refine ⟨k,rfl,?_⟩;have q:if k=true then _ else _:=q
     split
     .rename_i hk;rw [if_pos hk] at q;refine xT (zA g.mono XN c) (hs2.mono g3) a3 q fun w G4 v4 H4 g4 hs4 r4 a4 q=>?_;exact ⟨y,w,G4,(ry.mono g3).mono g4,r4,a4,xX o2 y w G4 _ _ (fun w5 G5 q v5 H5 g5=>q v5 H5 (g1.trans (g2.trans (g3.trans (g4.trans g5))))) q⟩
     .rename_i hk;rw [if_neg hk] at q;exact q _ H3 (g1.trans (g2.trans g3)) rfl a3
    |_=>exact q.elim
   refine ⟨(zd1 (jF (sT g L) o1) (jF (sT g L) o2) (ha M X l L h1).1 (hb M X r L h2).1 (hc M X t L h3).1 (kX (op:=o2) h4)).imp key,
    (zdM (jF (sT g L) o1) (jF (sT g L) o2) (ha M X l L h1).1 (hb M X r L h2).1 (hc M X t L h3).1 (kX (op:=o2) h4)).imp fun τ H Q q=>key _ _ _ (bN m q),fun _ _ _ z=>nomatch z⟩
 |_=>exact absurd h zzN
theorem s_ch3 (o1 o2 o3:CmpOp) (a b c d:IE) (ha:jI Γ p a) (hb:jI Γ p b) (hc:jI Γ p c) (hd:jI Γ p d):jI Γ p (.ch3 o1 o2 o3 a b c d):=by
 intro M X x L h
 cases x with
 |Compare l os rs q =>
   obtain ⟨q1,q2,q3,r,t,t2,rfl,rfl⟩:=zgr h;replace h:=bd8 h;simp only [decide_eq_true_eq] at h;obtain ⟨⟨⟨⟨⟨⟨⟨rfl,rfl⟩,rfl⟩,h1⟩,h2⟩,h3⟩,h4⟩,h5⟩:=h;have m:=zA g.mono XN (.ch3 o1 o2 o3 a b c d)
   have key:∀ τ H Q,yA X.K (zI Γ XN (.ch3 o1 o2 o3 a b c d)).e τ H Q->tCh3 (rW X.K (yT o1)) (rW X.K (yT o2)) (rW X.K (yT o3)) (yA X.K (zI Γ XN a).e) (yA X.K (zI Γ XN b).e) (yA X.K (zI Γ XN c).e) (yA X.K (zI Γ XN d).e) τ H Q:=fun τ H Q q=>by
    obtain ⟨σ,G,hs,ab,q⟩:=q;refine xT (zA g.mono XN a) hs ab q fun x G1 v H1 g1 hs1 rx a1 q=>?_;refine xT (zA g.mono XN b) hs1 a1 q fun y G2 u H2 g2 hs2 ry a2 q=>?_;refine ⟨x,y,G2,rx.mono g2,ry,a2,xX o1 x y G2 _ _ (fun z G3 q v3 H3 g3 r3 a3=>?_) q⟩
    cases z with
    |bl k =>
     cases r3;refine ⟨k,rfl,?_⟩;have q:if k=true then _ else _:=q
     split
     .rename_i hk;rw [if_pos hk] at q;refine xT (zA g.mono XN c) (hs2.mono g3) a3 q fun w G4 v4 H4 g4 hs4 r4 a4 q=>?_;refine ⟨y,w,G4,(ry.mono g3).mono g4,r4,a4,xX o2 y w G4 _ _ (fun z5 G5 q v5 H5 g5 r5 a5=>?_) q⟩
      cases z5 with
      |bl k2 =>
       cases r5;refine ⟨k2,rfl,?_⟩;have q:if k2=true then _ else _:=q
       split
       .rename_i hk2;rw [if_pos hk2] at q;refine xT (zA g.mono XN d) (hs4.mono g5) a5 q fun w6 G6 v6 H6 g6 hs6 r6 a6 q=>?_;exact ⟨w,w6,G6,(r4.mono g5).mono g6,r6,a6,xX o3 w w6 G6 _ _ (fun w7 G7 q v7 H7 g7=>q v7 H7 (g1.trans (g2.trans (g3.trans (g4.trans (g5.trans (g6.trans g7))))))) q⟩
       .rename_i hk2;rw [if_neg hk2] at q;exact q _ H5 (g1.trans (g2.trans (g3.trans (g4.trans g5)))) rfl a5
      |_=>exact q.elim
     .rename_i hk;rw [if_neg hk] at q;exact q _ H3 (g1.trans (g2.trans g3)) rfl a3
    |_=>exact q.elim
   refine ⟨(zh1 (jF (sT g L) o1) (jF (sT g L) o2) (jF (sT g L) o3) (ha M X l L h1).1 (hb M X r L h2).1 (hc M X t L h3).1 (hd M X t2 L h4).1 (kX (op:=o3) h5)).imp key,
    (zhK (jF (sT g L) o1) (jF (sT g L) o2) (jF (sT g L) o3) (ha M X l L h1).1 (hb M X r L h2).1 (hc M X t L h3).1 (hd M X t2 L h4).1 (kX (op:=o3) h5)).imp fun τ H Q q=>key _ _ _ (bN m q),fun _ _ _ z=>nomatch z⟩
 |_=>exact absurd h zzN
theorem s_and (a b:IE) (ha:jI Γ p a) (hb:jI Γ p b):jI Γ p (.and a b):=by
 intro M X x L h
 have e1:∀ τ H Q,yA X.K (zI Γ XN (.and a b)).e τ H Q->zho (yA X.K (zI Γ XN a).e) (yA X.K (zI Γ XN b).e) τ H Q:=fun τ H Q q=>by
  obtain ⟨σ,G,hs,ab,q⟩:=q;refine xT (zA g.mono XN a) hs ab q fun w G1 v H1 g1 hs1 rx a1 q=>?_
  cases w with
  |bl k =>
   cases rx;refine ⟨k,rfl,?_⟩;have q:if k=true then _ else _:=q
   split
   .rename_i hk;rw [if_pos hk] at q;exact ⟨σ,G1,hs1,a1,zA g.mono XN b σ G1 _ _ (fun w G' q v' H' g'=>q v' H' (g1.trans g')) q⟩
   .rename_i hk;rw [if_neg hk] at q;exact q _ H1 g1 rfl a1
  |_=>exact q.elim
 have e2:∀ τ H Q,qO X.K (zI Γ XN (.and a b)).t τ H Q->tAnd (qO X.K (zI Γ XN a).t) (qO X.K (zI Γ XN b).t) τ H Q:=fun τ H Q q=>by
  obtain ⟨σ,G,hs,ab,q⟩:=q;refine hZ (sX g.mono XN a) hs ab q fun k G1 H1 g1 hs1 a1 q=>?_
  split
  .rename_i hk;rw [if_pos hk] at q;exact ⟨σ,G1,hs1,a1,sX g.mono XN b σ G1 _ _ (fun w G' q H' g'=>q H' (g1.trans g')) q⟩
  .rename_i hk;rw [if_neg hk] at q;exact q H1 g1 a1
 cases x with
 |BoolOp o vs q =>
  match o,vs,h with
  | .And,[l,r],h =>
   replace h:=rQ h;have A:=ha M X l L h.1;have B:=hb M X r L h.2;have W2:PW X (.BoolOp .And [l,r] q) (qO X.K (zI Γ XN (.and a b)).t):=(zeS A.2.1 (zfK B.2.1)).imp e2;exact ⟨(zeX A.1 (zeV B.1)).imp e1,W2.pt,fun _ _ _ _=>W2⟩
  | .And,l::r::q'::rest,h =>
   replace h:=rQ h;have A:=ha M X l L h.1;have B:=hb M X _ L h.2;have W2:PW X (.BoolOp .And (l::r::q'::rest) q) (qO X.K (zI Γ XN (.and a b)).t):=(zeS A.2.1 (B.2.2 _ _ _ rfl)).imp e2;exact ⟨(zeX A.1 B.1).imp e1,W2.pt,fun _ _ _ _=>W2⟩
 |_=>exact absurd h zzN
theorem s_or (a b:IE) (ha:jI Γ p a) (hb:jI Γ p b):jI Γ p (.or a b):=by
 intro M X x L h
 have e1:∀ τ H Q,yA X.K (zI Γ XN (.or a b)).e τ H Q->tOrV (yA X.K (zI Γ XN a).e) (yA X.K (zI Γ XN b).e) τ H Q:=fun τ H Q q=>by
  obtain ⟨σ,G,hs,ab,q⟩:=q;refine xT (zA g.mono XN a) hs ab q fun w G1 v H1 g1 hs1 rx a1 q=>?_
  cases w with
  |bl k =>
   cases rx;refine ⟨k,rfl,?_⟩;have q:if k=true then _ else _:=q
   split
   .rename_i hk;rw [if_pos hk] at q;exact q _ H1 g1 rfl a1
   .rename_i hk;rw [if_neg hk] at q;exact ⟨σ,G1,hs1,a1,zA g.mono XN b σ G1 _ _ (fun w G' q v' H' g'=>q v' H' (g1.trans g')) q⟩
  |_=>exact q.elim
 have e2:∀ τ H Q,qO X.K (zI Γ XN (.or a b)).t τ H Q->tOr (qO X.K (zI Γ XN a).t) (qO X.K (zI Γ XN b).t) τ H Q:=fun τ H Q q=>by
  obtain ⟨σ,G,hs,ab,q⟩:=q;refine hZ (sX g.mono XN a) hs ab q fun k G1 H1 g1 hs1 a1 q=>?_
  split
  .rename_i hk;rw [if_pos hk] at q;exact q H1 g1 a1
  .rename_i hk;rw [if_neg hk] at q;exact ⟨σ,G1,hs1,a1,sX g.mono XN b σ G1 _ _ (fun w G' q H' g'=>q H' (g1.trans g')) q⟩
 cases x with
 |BoolOp o vs q =>
  match o,vs,h with
  | .Or,[l,r],h =>
   replace h:=rQ h;have A:=ha M X l L h.1;have B:=hb M X r L h.2;have W2:PW X (.BoolOp .Or [l,r] q) (qO X.K (zI Γ XN (.or a b)).t):=(zhI A.2.1 (zhH B.2.1)).imp e2;exact ⟨(zhW A.1 (zeV B.1)).imp e1,W2.pt,fun _ _ _ _=>W2⟩
  | .Or,l::r::q'::rest,h =>
   replace h:=rQ h;have A:=ha M X l L h.1;have B:=hb M X _ L h.2;have W2:PW X (.BoolOp .Or (l::r::q'::rest) q) (qO X.K (zI Γ XN (.or a b)).t):=(zhI A.2.1 (B.2.2 _ _ _ rfl)).imp e2;exact ⟨(zhW A.1 B.1).imp e1,W2.pt,fun _ _ _ _=>W2⟩
 |_=>exact absurd h zzN
theorem s_ite (c a b:IE) (hc:jI Γ p c) (ha:jI Γ p a) (hb:jI Γ p b):jI Γ p (.ite c a b):=by
 intro M X x L h
 cases x with
 |IfExp t l r q =>
  replace h:=bd3 h;refine ⟨(zdZ (hc M X t L h.1.1).2.1 (ha M X l L h.1.2).1 (hb M X r L h.2).1).imp fun τ H Q q=>?_,fun _ _ _ _ _ _ q=>?_,fun _ _ _ z=>nomatch z⟩
  .obtain ⟨σ,G,hs,ab,q⟩:=q;refine hZ (sX g.mono XN c) hs ab q fun k G1 H1 g1 hs1 a1 q=>?_
   split
   .rename_i hk;rw [if_pos hk] at q;exact ⟨σ,G1,hs1,a1,zA g.mono XN a σ G1 _ _ (fun w G' q v' H' g'=>q v' H' (g1.trans g')) q⟩
   .rename_i hk;rw [if_neg hk] at q;exact ⟨σ,G1,hs1,a1,zA g.mono XN b σ G1 _ _ (fun w G' q v' H' g'=>q v' H' (g1.trans g')) q⟩
  .obtain ⟨_,_,_,_,z⟩:=q;exact z.elim
 |_=>exact absurd h zzN
theorem s_ix (a i:IE) (ha:jI Γ p a) (hb:jI Γ p i):jI Γ p (.ix a i):=by
 intro M X x L h
 cases x with
 |Subscript l r q =>
  replace h:=bd3 h;exact wA (M:=M) (zA g.mono XN (.ix a i)) ((pe_ix (ix_ok (sT g L)) (ha M X l L h.1.1).1 (hb M X r L h.1.2).1 (zdT h.2)).imp fun τ H Q q=>cT (zA g.mono XN a) (zA g.mono XN i) zaO q) (fun _=>rfl) (fun _ _ _ z=>nomatch z)
 |_=>exact absurd h zzN
theorem s_sl (a:IE) (lo hi:IO) (ha:jI Γ p a) (hl:OkO Γ p lo) (hh:OkO Γ p hi):jI Γ p (.sl a lo hi):=by
  intro M X x L h
  cases x with
  |Subscript l r q =>
    cases r with
    |Slice y z sp q2 =>
     cases sp with
     |none =>
      replace h:=bd3 h;refine wA (M:=M) (zA g.mono XN (.sl a lo hi)) ((zdY sl_ok (ha M X l L h.1.1).1 ((hl M X L).1 y h.1.2) ((hh M X L).1 z h.2)).imp fun τ H Q q=>?_) (fun _=>rfl) (fun _ _ _ z=>nomatch z);obtain ⟨σ,G,hs,ab,q⟩:=q;refine xT (zA g.mono XN a) hs ab q fun w G1 v H1 g1 hs1 rx a1 q=>?_;refine ⟨σ,G1,hs1,a1,zig g.mono XN lo σ G1 _ _ (fun o G2 q H2 g2 a2=>?_) q⟩;refine ⟨σ,G2,hs1.mono g2,a2,zig g.mono XN hi σ G2 _ _ (fun o2 G3 q H3 g3 a3=>?_) q⟩;exact ⟨w,G3,(rx.mono g2).mono g3,a3,zau (fun w' G' q v' H' g'=>q v' H' (g1.trans (g2.trans (g3.trans g')))) q⟩
     |some _=>exact absurd h zzN
    |_=>exact absurd h zzN
  |_=>exact absurd h zzN
theorem s_tup (es:IEs) (hs:OkA Γ p es):jI Γ p (.tup es):=by
 intro M X x L h
 cases x with
 |Tuple xs k q =>
  skip
  refine wA (M:=M) (zA g.mono XN (.tup es)) ((zhV (hs M X xs L h).1).imp fun τ H Q q=>?_) (fun _=>rfl) (fun _ _ _ z=>nomatch z);obtain ⟨σ,G,hs',ab,q⟩:=q;refine sN (qW g.mono XN es) hs' ab q fun ws G1 vs H1 g1 hs1 rs a1 q=>⟨by rw [rs.length];exact q.1,sY a1 rs fun v' H' g'=>q.2 v' H' (g1.trans g')⟩
 |_=>exact absurd h zzN
theorem s_lst (es:IEs) (hs:OkA Γ p es):jI Γ p (.lst es):=by
 intro M X x L h
 cases x with
 |List xs q =>
  skip
  refine wA (M:=M) (zA g.mono XN (.lst es)) ((zhZ (hs M X xs L h).1).imp fun τ H Q q=>?_) (fun _=>rfl) (fun _ _ _ z=>nomatch z);obtain ⟨σ,G,hs',ab,q⟩:=q;refine sN (qW g.mono XN es) hs' ab q fun ws G1 vs H1 g1 hs1 rs a1 q=>⟨by rw [rs.length];exact q.1,jL a1 rs fun r hr v' H' g'=>q.2 r hr v' H' (g1.trans g')⟩
 |_=>exact absurd h zzN
theorem nU {Γ:Ctx3} {M:MC} {es:IEs} {xs:List Expr} (h:mA es M xs=true):xs=[]->∀ σ G Q,zT Γ XN es σ G Q->Q [] G:=by
 rintro rfl σ G Q q
 cases es with
 |nil=>exact q
 |cons _ _=>exact absurd h zzN
theorem zhx (f:Nat) (es:IEs) (hs:OkA Γ p es):jI Γ p (.call f es):=by
  intro M X x L h
  cases x with
  |Call fn xs kw q =>
    cases fn with
    |Name y qy =>
     cases kw with
     |nil =>
      replace h:=bd3 h;have gl:=mM L.sc h.1.2;have hi:=qQ h.1.1;rw [← L.fns] at hi;obtain ⟨e,ei,rfl⟩:=uS hi;have A:=hs M X xs L h.2;refine wA (M:=M) (zA g.mono XN (.call f es)) ((g.fn e (wL ei) X L.fits gl.1 xs (zT Γ XN es) qy q (qW g.mono XN es) A.2.1 A.1 (nU g h.2) gl.2.1 gl.2.2).imp fun τ H Q q=>?_) (fun _=>rfl) (fun _ _ _ z=>nomatch z);obtain ⟨σ,G,hs',ab,q⟩:=q;refine ⟨σ,G,hs',ab,qW g.mono XN es σ G _ _ (fun ws G1 q=>?_) q⟩;simp only [ei] at q;exact q
     |cons _ _=>exact absurd h zzN
    |_=>exact absurd h zzN
  |_=>exact absurd h zzN
theorem s_spc (i:Nat) (es:IEs) (hs:OkA Γ p es):jI Γ p (.spc i es):=by
 intro M X x L h;replace h:=rQ h;replace h:=h.2
 split at h
 .rename_i m hm
  split at h
  .rename_i xs hx;rw [← L.sxs] at hm;obtain ⟨k,ek,rfl⟩:=uS hm;have A:=hs M X xs L h;have q:=g.sx k (wL ek) X L.fits x xs (semL Γ es) (by rw [L.sc];exact hx) A.2.2.2 A.2.1 (by rw [← vN];exact A.1);refine wA (M:=M) (zA g.mono XN (.spc i es)) (q.1.imp fun τ H Q q=>?_) q.2.1 q.2.2;obtain ⟨σ,G,hs',ab,q⟩:=q;refine ⟨σ,G,hs',ab,?_⟩;rw [← vN];refine qW g.mono XN es σ G _ _ (fun ws G1 q=>?_) q;simp only [ek] at q;exact q
  .exact absurd h zzN
 .exact absurd h zzN
theorem s_mth (m:Nat) (o:IE) (es:IEs) (ho:jI Γ p o) (hs:OkA Γ p es):jI Γ p (.mth m o es):=by
  intro M X x L h
  cases x with
  |Call fn xs kw q =>
    cases fn with
    |Attribute l y qy =>
     cases kw with
     |nil =>
      replace h:=bd6 h;simp only [decide_eq_true_eq] at h;have hi:=qQ h.1.1.1.1.1;rw [← L.mts] at hi;obtain ⟨e,ei,rfl⟩:=uS hi;have A:=hs M X xs L h.2;have B:=ho M X l L h.1.2;refine wA (M:=M) (zA g.mono XN (.mth m o es)) ((g.mt e (wL ei) X L.fits l xs (zI Γ XN o).e (zT Γ XN es) qy q (zA g.mono XN o) (qW g.mono XN es) h.1.1.1.1.2 h.1.1.1.2 h.1.1.2 A.2.1 B.1 A.1 (nU g h.2)).imp fun τ H Q q=>?_) (fun _=>rfl) (fun _ _ _ z=>nomatch z);obtain ⟨σ,G,hs',ab,q⟩:=q;refine ⟨σ,G,hs',ab,zA g.mono XN o σ G _ _ (fun w G1 q=>?_) q⟩;simp only [ei] at q;exact q
     |cons _ _=>exact absurd h zzN
    |_=>exact absurd h zzN
  |_=>exact absurd h zzN
theorem s_att (o:IE) (f:Str) (ho:jI Γ p o):jI Γ p (.att o f):=by
 intro M X x L h
 cases x with
 |Attribute l y q =>
  replace h:=bd3 h;simp only [beq_iff_eq] at h;obtain ⟨⟨rfl,h1⟩,h2⟩:=h;refine wA (M:=M) (zA g.mono XN (.att o y)) ((zh0 (ho M X l L h2).1 (tR h1)).imp fun τ H Q q=>?_) (fun _=>rfl) (fun _ _ _ z=>nomatch z);obtain ⟨σ,G,hs,ab,q⟩:=q;refine xT (zA g.mono XN o) hs ab q fun w G1 v H1 g1 hs1 rx a1 q=>?_
  cases w with
  |ref a =>
   cases rx;simp only [attR] at q
   split at q
   .rename_i C fs e;obtain ⟨⟨l,hl,hf⟩,q⟩:=q
    split at q
    .rename_i w' ew;obtain ⟨dx,fs',e',rk⟩:=a1.ins e;obtain ⟨v',ev,rv⟩:=nB rk ew;have c:=g.cl _ hl;exact ⟨a,C,dx,fs',v',rfl,e',by rw [L.fits.K];exact c.1,by rw [L.fits.K];exact c.2 y hf,ev,q _ H1 g1 rv a1⟩
    .exact q.elim
   .exact q.elim
  |_=>exact q.elim
 |_=>exact absurd h zzN
end
section
variable {Γ : Ctx3} {p : Par} (g : Good Γ p)
include g
theorem s_dct (ks:List Str) (es:IEs) (hs:OkA Γ p es):jI Γ p (.dct ks es):=by
 intro M X x L h
 cases x with
 |Dict keys xs q =>
  replace h:=bd5 h;simp only [decide_eq_true_eq,Bool.not_eq_true'] at h;obtain ⟨⟨⟨⟨h1,h2⟩,h3⟩,h4⟩,h5⟩:=h;obtain ⟨all,ek,trs,pp,low⟩:=(hs M X xs L h2).2.2.1 ks keys q h1 h3
  have h0:keys≠[]:=by
   intro z;rw [z] at ek
   cases ks with
   |nil=>cases h5
   |cons _ _=>cases ek
  refine wA (M:=M) (zA g.mono XN (.dct ks es)) ((zfY pp all h3 h0 h4).imp fun τ H Q q=>?_) (fun _=>rfl) (fun _ _ _ z=>nomatch z);intro a ha;obtain ⟨σ,G,hs',ab,q⟩:=q;have gr:yJ X.K H (xK H a (.dK [])):=xJ ha;refine low τ _ _ ⟨σ,put G a (.dic []),hs'.mono gr,ab.new ha ⟨[],rfl,rfl⟩,qW g.mono XN es σ _ _ _ (fun ws G1 q vs H1 g1 rs a1=>?_) (q a (ab.free ha))⟩;obtain ⟨q1,q2,q3⟩:=q;obtain ⟨l,e,rl⟩:=a1.dic q1
  have el:l=[]:=by
   cases l with
   |nil=>rfl
   |cons _ _=>cases rl
  subst el;refine ⟨e,(ks.zip vs).map (fun kv=>((Sum.inr kv.1:yO),kv.2)),by rw [List.map_map];rfl,?_,?_⟩
  .rw [zzM,List.length_zip];omega
  .have gr2:yJ X.K H1 (xK H1 a (.dK (rY [] ((ks.zip vs).map fun kv=>((Sum.inr kv.1:yO),kv.2))))):=a1.grow q1;exact q3 _ _ (gr.trans (g1.trans gr2)) rfl (a1.chg q1 ⟨_,rfl,zc2 ks (rs.mono gr2) rfl⟩)
 |_=>exact absurd h zzN
theorem fX (tg:ITg) (names:List Str) (caps:List Nat) (it:II) (c:IO) (elt:IE) (hi:OkI Γ p it) (hc:OkO Γ p c) (he:jI Γ p elt) {M:MC} {X:Cx} (L:Lk Γ M p X) {x t ix:Expr} {ifs:List Expr} {sc:Scope}
  (h:(blkB M.sc sc&&sZ ix&&nM (names++caps.map (fun j=>M.N.getD j Str.empty))&&(caps.all fun j=>decide (j<M.N.length)&&(sc.names.lookup (M.N.getD j Str.empty)==some .free)) &&
    mI it M ix&&((tgIx tg).all fun i=>decide (i<names.length))&&mG { M with sc:=relS sc M.sc,N:=names++caps.map (fun j=>M.N.getD j Str.empty),own:=fun x=>sc.names.lookup x==some .cell } tg t&&mC c { M with sc:=relS sc M.sc,N:=names++caps.map (fun j=>M.N.getD j Str.empty),own:=fun x=>sc.names.lookup x==some .cell } ifs&&mE elt { M with sc:=relS sc M.sc,N:=names++caps.map (fun j=>M.N.getD j Str.empty),own:=fun x=>sc.names.lookup x==some .cell } x)=true) :
  PI X t ix (lowI X.K (zR Γ XN it))/\BlkSc X sc/\Caps X sc (names++caps.map (fun j=>M.N.getD j Str.empty)) (capV names.length caps) /\
  (∀ X',IsBlock X (names++caps.map (fun j=>M.N.getD j Str.empty)) sc X'->PG X' t (lowG X.K (zU tg)))/\(∀ X',IsBlock X (names++caps.map (fun j=>M.N.getD j Str.empty)) sc X'->PTs X' ifs (qO X.K (zP Γ c))) /\
  (∀ X',IsBlock X (names++caps.map (fun j=>M.N.getD j Str.empty)) sc X'->PE X' x (yA X.K (zI Γ XN elt).e))/\(∀ y,foldedSetIterable ix X.env y=pure y) /\
  ∀ τ H Q,yA X.K (zI Γ XN (.lc tg names caps it c elt)).e τ H Q->tLC (lowI X.K (zR Γ XN it)) (capV names.length caps) (lowG X.K (zU tg)) (qO X.K (zP Γ c)) (yA X.K (zI Γ XN elt).e) τ H Q:=by
 simp only [Bool.and_eq_true] at h;obtain ⟨⟨⟨⟨⟨⟨⟨⟨h1,h2⟩,h3⟩,h4⟩,h5⟩,h6⟩,h7⟩,h8⟩,h9⟩:=h
 have lk:∀ X',IsBlock X (names++caps.map (fun j=>M.N.getD j Str.empty)) sc X'->Lk Γ { M with sc:=relS sc M.sc,N:=names++caps.map (fun j=>M.N.getD j Str.empty),own:=fun x=>sc.names.lookup x==some .cell } p X':=fun X' b =>
  ⟨⟨b.prog.trans L.fits.prog,b.w.trans L.fits.w,b.K.trans L.fits.K,b.mg.trans L.fits.mg,b.base.trans L.fits.base,b.A.trans L.fits.A,b.calm.trans L.fits.calm,b.xe⟩,b.N,b.scope.trans (zfI L.sc),zaE h3,(fun x z=>b.fn x (eq_of_beq z)),(zff L.sc h1).kind,L.fns,L.gls,L.mts,L.its,L.sxs,L.ixs⟩
 refine ⟨hi M X ix L h5 t,zff L.sc h1,zdb L.N L.sc h4,fun X' b=>?_,fun X' b=>?_,fun X' b=>?_,fB h2,fun τ H Q q=>?_⟩
 .rw [← b.K];exact sndG (lk X' b) tg t h7
 .rw [← b.K];exact (hc _ X' (lk X' b)).2 ifs h8
 .rw [← b.K];exact (he _ X' x (lk X' b) h9).1
 .obtain ⟨σ,G,hs,ab,q⟩:=q;refine ⟨σ,G,hs,ab,zih g.mono XN it σ G _ _ (fun items stab G1 q J H1 g1 a1 ii=>?_) q⟩;refine zin (monoC g.mono c) (zA g.mono XN elt) ii a1 (zg3 (hs.mono g1) names.length caps) g1 (fun w G' Q' z=>?_) q;refine rK tg w _ G' _ _ (fun σ2 G2 z=>⟨⟨z.2.1,fun i v e=>?_⟩,z.2.2⟩) (zaw tg w _ G' _ (zb2 tg w _ G' _ z));have hk:=(bQ e).1;rw [z.1 i (zga h6 hk)];exact e
theorem s_lc (tg:ITg) (names:List Str) (caps:List Nat) (it:II) (c:IO) (elt:IE) (hi:OkI Γ p it) (hc:OkO Γ p c) (he:jI Γ p elt):jI Γ p (.lc tg names caps it c elt):=by
 intro M X x L h
 cases x with
 |ListComp x gens sc q =>
  match gens,h with
  | [⟨t,ix,ifs,asy⟩],h =>
   have h':=h;replace h:=bd10 h;obtain ⟨⟨⟨⟨⟨⟨⟨⟨⟨h0,h1⟩,h2⟩,h3⟩,h4⟩,h5⟩,h6⟩,h7⟩,h8⟩,h9⟩:=h;replace h0:=of_decide_eq_true h0;subst h0;obtain ⟨c1,c2,c3,c4,c5,c6,c7,c8⟩:=fX g tg names caps it c elt hi hc he L (x:=x) (t:=t) (ix:=ix) (ifs:=ifs) (sc:=sc) (by simp only [Bool.and_eq_true];exact ⟨⟨⟨⟨⟨⟨⟨⟨h1,h2⟩,h3⟩,h4⟩,h5⟩,h6⟩,h7⟩,h8⟩,h9⟩);exact wA (M:=M) (zA g.mono XN (.lc tg names caps it c elt)) ((pe_lc L.fits.calm c1 c2 c3 c4 c5 c6 c7).imp c8) (fun _=>rfl) (fun _ _ _ z=>nomatch z)
 |_=>exact absurd h zzN
theorem s_no:OkO Γ p .no:=by
 intro M X L;refine ⟨fun x h=>?_,fun xs h=>?_⟩
 .cases x with
  |none=>exact zfU.imp fun τ H Q q=>by obtain ⟨σ,G,hs,ab,q⟩:=q;exact q H .refl ab
  |some _=>exact absurd h zzN
 .cases xs with
  |nil=>exact zfM.imp fun τ H Q q=>by obtain ⟨σ,G,hs,ab,q⟩:=q;exact q H .refl ab
  |cons _ _=>exact absurd h zzN
theorem zhu (e:IE) (he:jI Γ p e):OkO Γ p (.yes e):=by
 intro M X L;refine ⟨fun x h=>?_,fun xs h=>?_⟩
 .cases x with
  |none=>exact absurd h zzN
  |some x =>
   skip
   refine (zfT (he M X x L h).1).imp fun τ H Q q=>?_;obtain ⟨σ,G,hs,ab,q⟩:=q;refine xT (zA g.mono XN e) hs ab q fun w G1 v H1 g1 hs1 rx a1 q=>?_
   cases w with
   |int i=>cases rx;exact ⟨i,rfl,q H1 g1 a1⟩
   |_=>exact q.elim
 .match xs,h with
  | [x],h=>exact zfL (he M X x L (by simpa only [mC] using h)).2.1
theorem zhw:OkA Γ p .nil:=by
 intro M X xs L h
 cases xs with
 |cons _ _=>exact absurd h zzN
 |nil =>
  refine ⟨zeY.imp fun τ H Q q=>by obtain ⟨σ,G,hs,ab,q⟩:=q;exact q [] H .refl rfl ab,rfl,fun ks keys pos hk hl=>?_,trivial⟩
  cases keys with
  |cons _ _=>cases hl
  |nil =>
   cases ks with
   |cons _ _=>cases hk
   |nil =>
    refine ⟨rfl,rfl,[],zfS,fun τ H Q q=>?_⟩;obtain ⟨σ,G,hs,ab,q⟩:=q;exact q [] H .refl rfl ab
theorem zeP (e:IE) (es:IEs) (he:jI Γ p e) (hs:OkA Γ p es):OkA Γ p (.cons e es):=by
  intro M X xs L h
  cases xs with
  |nil=>exact absurd h zzN
  |cons x xs =>
    simp only [mA,Bool.and_eq_true] at h;obtain ⟨⟨h1,h2⟩,h3⟩:=h;have A:=he M X x L h2;have B:=hs M X xs L h3;refine ⟨(zcg A.1 B.1 (qN h1)).imp fun τ H Q q=>?_,by rw [List.all_cons,h1,B.2.1];rfl,fun ks keys pos hk hl=>?_,⟨zA g.mono XN e,A.1,B.2.2.2⟩⟩
    . obtain ⟨σ,G,hs',ab,q⟩:=q
      refine xT (zA g.mono XN e) hs' ab q fun w G1 v H1 g1 hs1 rx a1 q=>?_;refine sN (qW g.mono XN es) hs1 a1 q fun ws G2 vs H2 g2 hs2 rs a2 q=>?_;exact q _ H2 (g1.trans g2) ⟨v,vs,rfl,rx.mono g2,rs⟩ a2
    . cases ks with
      |nil =>
        cases keys with
        |nil=>simp at hl
        |cons _ _=>simp [keyB] at hk
      |cons k ks =>
       cases keys with
       |nil=>cases hk
       |cons ko keys =>
        obtain ⟨y,ky,qy,rfl⟩:∃ y ky qy,ko=some (.Constant (.str y) ky qy):=by
          cases ko with
          |none=>cases hk
          |some ke =>
            cases ke with
            |Constant c ky qy =>
              cases c with
              |str y=>exact ⟨y,ky,qy,rfl⟩
              |_=>cases hk
            |_=>cases hk
        simp only [keyB,Bool.and_eq_true,beq_iff_eq] at hk;obtain ⟨rfl,hk⟩:=hk;obtain ⟨all,ek,trs,pp,low⟩:=B.2.2.1 ks keys pos hk (by simpa using hl);refine ⟨by simpa using all,by simpa using ek,(tC (.str k),yA X.K (zI Γ XN e).e)::trs,zdS zeU A.1 pp,fun τ H Q q=>?_⟩;obtain ⟨σ,G,hs',ab,q⟩:=q;show yA X.K (zI Γ XN e).e τ H _;refine xT (zA g.mono XN e) hs' ab q fun w G1 v H1 g1 hs1 rx a1 q=>?_;refine low τ H1 _ ⟨σ,G1,hs1,a1,qW g.mono XN es σ G1 _ _ (fun ws G2 q vs H2 g2 rs a2=>?_) q⟩;exact q (v::vs) H2 (g1.trans g2) ⟨v,vs,rfl,rx.mono g2,rs⟩ a2
theorem zhv (e:IE) (he:jI Γ p e):OkI Γ p (.val e):=fun M X x L h tg=>zhR (zA g.mono XN e) (he M X x L h).1
theorem zhy (i:Nat) (es:IEs) (hs:OkA Γ p es):OkI Γ p (.blt i es):=by
  intro M X x L h tg
  cases x with
  |Call fn xs kw q =>
    cases fn with
    |Name y qy =>
     cases kw with
     |nil =>
      replace h:=bd3 h;have gl:=mM L.sc h.1.2;have hi:=qQ h.1.1;rw [← L.its] at hi;obtain ⟨e,ei,rfl⟩:=uS hi;have A:=hs M X xs L h.2;refine (g.it e (wL ei) X L.fits gl.1 tg xs (zT Γ XN es) qy q (qW g.mono XN es) A.2.1 A.1 (nU g h.2) gl.2.1 gl.2.2).imp fun τ H R q=>?_;obtain ⟨σ,G,hs',ab,q⟩:=q;refine ⟨σ,G,hs',ab,qW g.mono XN es σ G _ _ (fun ws G1 q=>?_) q⟩;simp only [ei] at q;exact q
     |cons _ _=>exact absurd h zzN
    |_=>exact absurd h zzN
  |_=>exact absurd h zzN
theorem zeO (i:Nat) (es:IEs) (hs:OkA Γ p es):OkI Γ p (.spc i es):=by
 intro M X x L h tg;simp only [mI] at h
 split at h
 .rename_i m hm
  split at h
  .rename_i xs hx;rw [← L.ixs] at hm;obtain ⟨k,ek,rfl⟩:=uS hm;have A:=hs M X xs L h;refine (g.ix k (wL ek) X L.fits tg x xs (semL Γ es) (by rw [L.sc];exact hx) A.2.2.2 A.2.1 (by rw [← vN];exact A.1)).imp fun τ H R q=>?_;obtain ⟨σ,G,hs',ab,q⟩:=q;refine ⟨σ,G,hs',ab,?_⟩;rw [← vN];refine qW g.mono XN es σ G _ _ (fun ws G1 q=>?_) q;simp only [ek] at q;exact q
  .exact absurd h zzN
 .exact absurd h zzN
theorem uO (e:IE):jI Γ p e :=
 IE.rec (motive_1:=jI Γ p) (motive_2:=OkO Γ p) (motive_3:=OkA Γ p) (motive_4:=OkI Γ p) (motive_5:=fun _=>True) (motive_6:=fun _=>True)
  (s_var g) (s_con g) (s_glb g) (s_bin g) (s_neg g) (s_not g) (s_cmp g) (s_chn g) (s_and g) (s_or g) (s_ite g) (s_ix g) (s_sl g) (s_tup g) (s_lst g) (s_dct g) (zhx g) (s_mth g) (s_att g)
  (fun tg names caps it c elt _ hi hc he=>s_lc g tg names caps it c elt hi hc he) (s_spc g) (s_ch3 g) (s_no g) (zhu g) (zhw g) (zeP g) (zhv g) (zhy g) (zeO g) (fun _=>trivial) (fun _ _=>trivial) trivial (fun _ _ _ _=>trivial) e
theorem sndA (es:IEs):OkA Γ p es:=match es with
 | .nil=>zhw g
 | .cons e es=>zeP g e es (uO g e) (sndA es)
theorem sndI (it:II):OkI Γ p it:=match it with
 | .val e=>zhv g e (uO g e)
 | .blt i es=>zhy g i es (sndA g es)
 | .spc i es=>zeO g i es (sndA g es)
theorem sndO (o:IO):OkO Γ p o:=match o with
 | .no=>s_no g
 | .yes e=>zhu g e (uO g e)
end
end L3
namespace L3
open PySem PySem.Spec PyProof.Rows L2
theorem zgt {i:Nat} {a:IE} {M:MC} {x:Stmt} (h:mS (.asg i a) M x=true):∃ y py v q,x=.Assign [.Name y py] v q/\(M.N[i]?==some y)=true/\locB M y=true/\mE a M v=true:=by
 cases x with
 |Assign ts v q =>
  cases ts with
  |nil=>exact absurd h zzN
  |cons t r =>
   cases r with
   |cons _ _=>cases t<;>exact absurd h zzN
   |nil =>
    cases t with
    |Name y py =>
     replace h:=bd3 h;exact ⟨y,py,v,q,rfl,h.1.1,h.1.2,h.2⟩
    |_=>exact absurd h zzN
 |_=>exact absurd h zzN
theorem zei {ts:ITgs} {a:IE} {M:MC} {x:Stmt} (h:mS (.asgT ts a) M x=true):∃ es k qt v q,x=.Assign [.Tuple es k qt] v q/\nL v=true/\zid v=true/\mGs M ts es=true/\mE a M v=true:=by
 cases x with
 |Assign ts v q =>
  cases ts with
  |nil=>exact absurd h zzN
  |cons t r =>
   cases r with
   |cons _ _=>cases t<;>exact absurd h zzN
   |nil =>
    cases t with
    |Tuple es k qt =>
     replace h:=bd4 h;exact ⟨es,k,qt,v,q,rfl,h.1.1.1,h.1.1.2,h.1.2,h.2⟩
    |_=>exact absurd h zzN
 |_=>exact absurd h zzN
theorem zej {o i a:IE} {M:MC} {x:Stmt} (h:mS (.asgI o i a) M x=true):∃ l r qs v q,x=.Assign [.Subscript l r qs] v q/\nL v=true/\pK r=true/\mE o M l=true/\mE i M r=true/\mE a M v=true:=by
 cases x with
 |Assign ts v q =>
  cases ts with
  |nil=>exact absurd h zzN
  |cons t r =>
   cases r with
   |cons _ _=>cases t<;>exact absurd h zzN
   |nil =>
    cases t with
    |Subscript l r qs =>
     replace h:=bd5 h;exact ⟨l,r,qs,v,q,rfl,h.1.1.1.1,h.1.1.1.2,h.1.1.2,h.1.2,h.2⟩
    |_=>exact absurd h zzN
 |_=>exact absurd h zzN
theorem zek {o a:IE} {f:Str} {M:MC} {x:Stmt} (h:mS (.asgA o f a) M x=true):∃ l qs v q,x=.Assign [.Attribute l f qs] v q/\nL v=true/\mE o M l=true/\mE a M v=true:=by
 cases x with
 |Assign ts v q =>
  cases ts with
  |nil=>exact absurd h zzN
  |cons t r =>
   cases r with
   |cons _ _=>cases t<;>exact absurd h zzN
   |nil =>
    cases t with
    |Attribute l y qs =>
     replace h:=bd4 h;simp only [beq_iff_eq] at h;obtain ⟨⟨⟨rfl,h2⟩,h3⟩,h4⟩:=h;exact ⟨l,qs,v,q,rfl,h2,h3,h4⟩
    |_=>exact absurd h zzN
 |_=>exact absurd h zzN
theorem ziT {a:IE} {M:MC} {x:Stmt} (h:mS (.ex a) M x=true):∃ v q,x=.Expr v q/\nL v=true/\mE a M v=true:=by
 cases x with
 |Expr v q =>
  replace h:=rQ h;exact ⟨v,q,rfl,h.1,h.2⟩
 |_=>exact absurd h zzN
theorem zgk {a:IE} {M:MC} {x:Stmt} (h:mS (.ret a) M x=true):∃ v q,x=.Return (some v) q/\mE a M v=true:=by
 cases x with
 |Return v q =>
  cases v with
  |none=>exact absurd h zzN
  |some v=>exact ⟨v,q,rfl,h⟩
 |_=>exact absurd h zzN
theorem zef {M:MC} {x:Stmt} (h:mS .retN M x=true):∃ q,x=.Return none q:=by
 cases x with
 |Return v q =>
  cases v with
  |none=>exact ⟨q,rfl⟩
  |some v=>exact absurd h zzN
 |_=>exact absurd h zzN
theorem zeg {M:MC} {x:Stmt} (h:mS .pass M x=true):∃ q,x=.Pass q:=by
 cases x with
 |Pass q=>exact ⟨q,rfl⟩
 |_=>exact absurd h zzN
theorem zgs {M:MC} {x:Stmt} (h:mS .brk M x=true):∃ q,x=.Break q:=by
 cases x with
 |Break q=>exact ⟨q,rfl⟩
 |_=>exact absurd h zzN
theorem zgo {M:MC} {x:Stmt} (h:mS .cnt M x=true):∃ q,x=.Continue q:=by
 cases x with
 |Continue q=>exact ⟨q,rfl⟩
 |_=>exact absurd h zzN
theorem zgm {c:IE} {a b:ISs} {M:MC} {x:Stmt} (h:mS (.ite c a b) M x=true):∃ t y z q,x=.If t y z q/\mE c M t=true/\vS a M y=true/\vS b M z=true:=by
 cases x with
 |If t y z q =>
  replace h:=bd3 h;exact ⟨t,y,z,q,rfl,h.1.1,h.1.2,h.2⟩
 |_=>exact absurd h zzN
theorem zgj {c:IE} {b:ISs} {M:MC} {x:Stmt} (h:mS (.whl c b) M x=true):∃ t y q,x=.While t y [] q/\mE c M t=true/\vS b M y=true:=by
 cases x with
 |While t y z q =>
  cases z with
  |nil =>
   replace h:=rQ h;exact ⟨t,y,q,rfl,h.1,h.2⟩
  |cons _ _=>exact absurd h zzN
 |_=>exact absurd h zzN
theorem zgn {tg:ITg} {it:II} {b:ISs} {M:MC} {x:Stmt} (h:mS (.for tg it b) M x=true):∃ t y z q,x=.For t y z [] q/\sZ y=true/\mG M tg t=true/\mI it M y=true/\vS b M z=true:=by
 cases x with
 |For t y z e q =>
  cases e with
  |nil =>
   replace h:=bd4 h;exact ⟨t,y,z,q,rfl,h.1.1.1,h.1.1.2,h.1.2,h.2⟩
  |cons _ _=>exact absurd h zzN
 |_=>exact absurd h zzN
theorem zgl {M:MC} {x:List Stmt} (h:vS .nil M x=true):x=[]:=by
 cases x with
 |nil=>rfl
 |cons _ _=>exact absurd h zzN
theorem zeh {s:IS} {ss:ISs} {M:MC} {x:List Stmt} (h:vS (.cons s ss) M x=true):∃ y ys,x=y::ys/\mS s M y=true/\vS ss M ys=true:=by
 cases x with
 |nil=>exact absurd h zzN
 |cons y ys =>
  replace h:=rQ h;exact ⟨y,ys,rfl,h.1,h.2⟩
end L3
namespace L3
open PySem PySem.Spec PyProof.Rows L2 PySem.SeqAt
theorem zaB {K:yN} {H:Hp} {f:Str} {w:W} {v:V} (q:wQ K H w v):∀ {l:List (Str×W)} {l':List (Str×V)},yS K H l l'->yS K H (zca f w l) (kK f v l')
 | [],_,h=>by rw [show _=[] from h];exact ⟨v,[],rfl,q,rfl⟩
 | (n,u)::r,_,⟨x,t,e,h,hr⟩=>by
  subst e;unfold zca kK
  by_cases hn:n=f
  .rw [if_pos hn,if_pos hn];exact ⟨v,t,rfl,q,hr⟩
  .rw [if_neg hn,if_neg hn];exact ⟨x,_,rfl,h,zaB q hr⟩
section
variable {Γ : Ctx3} {p : Par} (g : Good Γ p)
def OkS (Γ:Ctx3) (p:Par) (s:IS):Prop:=∀ M X x,Lk Γ M p X->mS s M x=true->PS X x (lowS X.K (zS Γ XN s))
def OkSs (Γ:Ctx3) (p:Par) (s:ISs):Prop:=∀ M X x,Lk Γ M p X->vS s M x=true->PSs X x (lowS X.K (zE Γ XN s))
include g
theorem t_asg (i:Nat) (e:IE):OkS Γ p (.asg i e):=by
 intro M X x L h;obtain ⟨y,py,v,q,rfl,h1,h2,h3⟩:=zgt h
 .
  have lo:=ze5 L h2;have hN:=qQ h1;rw [← L.N] at hN;have nd:X.N.Nodup:=L.N▸L.nd
  have low:∀ (te:TE),(∀ τ H Q,yA X.K (zI Γ XN e).e τ H Q->te τ H Q)->∀ D τ H,lowS X.K (zS Γ XN (.asg i e)) D τ H->tAsg te (zeo i) D τ H:=fun te k D τ H hq=>by
   obtain ⟨σ,G,D3,hs,ab,f,hq⟩:=hq;refine k _ _ _ ⟨σ,G,hs,ab,zA g.mono XN e σ G _ _ (fun w G' hq v' H' g' rp ab'=>?_) hq⟩;exact f.nx _ G' _ H' g' ((hs.mono g').set rp i) ab' hq
  by_cases hl:nL v=true
  .exact (zeT (i:=i) nd hN lo.1 (uO g e M X v L h3).1 (vP hl) lo.2).imp (low _ fun _ _ _ z=>z)
  .cases v with
   |ListComp x gens sc qq =>
    cases e with
    |lc tg names caps it c elt =>
     match gens,h3 with
     | [⟨t,ix,ifs,asy⟩],h3 =>
      have h3':=h3;replace h3:=bd10 h3;obtain ⟨⟨⟨⟨⟨⟨⟨⟨⟨z0,z1⟩,z2⟩,z3⟩,z4⟩,z5⟩,z6⟩,z7⟩,z8⟩,z9⟩:=h3;replace z0:=of_decide_eq_true z0;subst z0;have cond:∃ b,swapsWith (.ListComp x [⟨t,ix,ifs,0⟩] sc qq) (some (.Name y py)) q.line X.env=pure b:=⟨_,rfl⟩;obtain ⟨b,hb⟩:=cond
      cases b with
      |false=>exact (zeT (i:=i) nd hN lo.1 (uO g _ M X _ L h3').1 hb lo.2).imp (low _ fun _ _ _ z=>z)
      |true =>
       obtain ⟨c1,c2,c3,c4,c5,c6,c7,c8⟩:=fX g tg names caps it c elt (sndI g it) (sndO g c) (uO g elt) L (x:=x) (t:=t) (ix:=ix) (ifs:=ifs) (sc:=sc) (by simp only [Bool.and_eq_true];exact ⟨⟨⟨⟨⟨⟨⟨⟨z1,z2⟩,z3⟩,z4⟩,z5⟩,z6⟩,z7⟩,z8⟩,z9⟩);exact (zdP (i:=i) L.fits.calm c1 c2 c3 c4 c5 c6 nd hN lo.1 lo.2 hb c7).imp (low _ c8)
    |_=>exact absurd h3 zzN
   |SetComp _ _ _ _=>cases e<;>exact absurd h3 zzN
   |DictComp _ _ _ _ _=>cases e<;>exact absurd h3 zzN
   |_=>exact absurd rfl hl
theorem zhg (ts:ITgs) (e:IE):OkS Γ p (.asgT ts e):=by
 intro M X x L h;obtain ⟨es,k,qt,v,q,rfl,h1,h2,h3,h4⟩:=zei h
 .
  have pg:=sndG L (.tup ts) (.Tuple es k qt) h3;refine (zhO (uO g e M X v L h4).1 pg (by unfold swapsWithSole;exact vP h1) (by cases v<;>first|rfl|cases h2) rfl).imp fun D τ H hq=>?_;obtain ⟨σ,G,D3,hs,ab,f,hq⟩:=hq;refine ⟨σ,G,hs,ab,zA g.mono XN e σ G _ _ (fun w G' hq v' H' g' rp ab'=>?_) hq⟩;exact ⟨w,σ,G',rp,hs.mono g',ab',rK _ w σ G' _ _ (fun σ2 G2 hq τ2 H2 g2 hs2 a2=>f.nx σ2 G2 τ2 H2 (g'.trans g2) hs2 a2 hq) hq⟩
theorem zhh (o i e:IE):OkS Γ p (.asgI o i e):=by
 intro M X x L h;obtain ⟨l,r,qs,v,q,rfl,h1,h2,h3,h4,h5⟩:=zej h
 .
  have pe:=(uO g e M X v L h5).1;have po:=(uO g o M X l L h3).1;have pi:=(uO g i M X r L h4).1;intro pins s τ H D I hq;obtain ⟨σ,G,D3,hs,ab,f,hq⟩:=hq
  have q1:yA X.K (zI Γ XN e).e τ H fun v H1=>yA X.K (zI Γ XN o).e τ H1 fun ov H2=>yA X.K (zI Γ XN i).e τ H2 fun iv H3=>ze4 X.K ov iv v H3 fun H4=>D.nx τ H4:=by
   refine xT (zA g.mono XN e) hs ab hq fun w G1 v1 H1 g1 hs1 r1 a1 hq=>?_;refine xT (zA g.mono XN o) hs1 a1 hq fun x G2 v2 H2 g2 hs2 r2 a2 hq=>?_;refine xT (zA g.mono XN i) hs2 a2 hq fun y G3 v3 H3 g3 hs3 r3 a3 hq=>?_;exact ⟨x,y,w,G3,r2.mono g3,r3,(r1.mono g2).mono g3,a3,zb0 (fun G4 hq H4 g4 a4=>f.nx σ G4 τ H4 (g1.trans (g2.trans (g3.trans g4))) (hs3.mono g4) a4 hq) hq⟩
  refine wpAny_Assign_Subscript (yF (pe pins s τ H _ I q1) fun u1 s1 ⟨v1,H1,I1,r1,q1⟩=>yF (po pins s1 τ H1 _ I1 q1) fun u2 s2 ⟨v2,H2,I2,r2,q2⟩=>yF (pi pins s2 τ H2 _ I2 q2) fun u3 s3 ⟨v3,H3,I3,r3,q3⟩=>?_) (vP h1);exact yF (zht (sT g L) pins s3 τ H3 v2 v3 v1 u2 u3 u1 _ I3 r2 r3 r1 q3) fun _ s4 ⟨H4,I4,q4⟩=>⟨τ,H4,I4,q4⟩
theorem zhi (o:IE) (f:Str) (e:IE):OkS Γ p (.asgA o f e):=by
 intro M X x L h;obtain ⟨l,qs,v,q,rfl,h2,h3,h4⟩:=zek h
 .
  refine (zhN (uO g o M X l L h3).1 (uO g e M X v L h4).1 (vP h2)).imp fun D τ H hq=>?_;obtain ⟨σ,G,D3,hs,ab,fi,hq⟩:=hq;refine xT (zA g.mono XN e) hs ab hq fun w G1 v1 H1 g1 hs1 r1 a1 hq=>?_;refine xT (zA g.mono XN o) hs1 a1 hq fun x G2 v2 H2 g2 hs2 r2 a2 hq=>?_
  cases x with
  |ref a =>
   cases r2;simp only [satR] at hq
   split at hq
   .rename_i C fs e2;obtain ⟨⟨l2,hl,hf⟩,hlen,hq⟩:=hq;obtain ⟨dx,fs',e',rk⟩:=a2.ins e2;have c:=g.cl _ hl;refine ⟨a,C,dx,fs',rfl,e',by rw [L.fits.K];exact c.1,by rw [L.fits.K];exact c.2 f hf,by rw [rk.length];exact hlen,?_⟩;have gr:=a2.grow (u:=.ins C dx (kK f v1 fs')) e2;exact fi.nx σ _ τ _ (g1.trans (g2.trans gr)) (hs2.mono gr) (a2.chg (o:=.ins C (zca f w fs)) e2 ⟨dx,_,rfl,zaB ((r1.mono g2).mono gr) (rk.mono gr)⟩) hq
   .exact hq.elim
  |_=>exact hq.elim
theorem vQ:OkS Γ p .retN/\OkS Γ p .pass/\OkS Γ p .brk/\OkS Γ p .cnt/\OkS Γ p .dead:=by
 refine ⟨fun M X x L h=>?_,fun M X x L h=>?_,fun M X x L h=>?_,fun M X x L h=>?_,fun M X x L h=>?_⟩
 .obtain ⟨q,rfl⟩:=zef h;exact zfP.imp fun D τ H hq=>by obtain ⟨σ,G,D3,hs,ab,f,hq⟩:=hq;exact f.rt .non G _ H .refl (show wQ X.K H .non .non from rfl) ab hq
 .obtain ⟨q,rfl⟩:=zeg h;exact zfQ.imp fun D τ H hq=>by obtain ⟨σ,G,D3,hs,ab,f,hq⟩:=hq;exact f.nx σ G τ H .refl hs ab hq
 .obtain ⟨q,rfl⟩:=zgs h;exact zdR.imp fun D τ H hq=>by obtain ⟨σ,G,D3,hs,ab,f,hq⟩:=hq;exact f.bk σ G τ H .refl hs ab hq
 .obtain ⟨q,rfl⟩:=zgo h;exact zai.imp fun D τ H hq=>by obtain ⟨σ,G,D3,hs,ab,f,hq⟩:=hq;exact f.ct σ G τ H .refl hs ab hq
 .exact zdQ.imp fun D τ H hq=>by obtain ⟨σ,G,D3,hs,ab,f,hq⟩:=hq;exact hq.elim
theorem t_ex (e:IE):OkS Γ p (.ex e):=by
 intro M X x L h;obtain ⟨v,q,rfl,hh⟩:=ziT h
 .have h:=hh;refine (zfR (uO g e M X v L h.2).1 (vP h.1)).imp fun D τ H hq=>?_;obtain ⟨σ,G,D3,hs,ab,f,hq⟩:=hq;exact xT (zA g.mono XN e) hs ab hq fun w G1 v1 H1 g1 hs1 r1 a1 hq=>f.nx σ G1 τ H1 g1 hs1 a1 hq
theorem t_ret (e:IE):OkS Γ p (.ret e):=by
 intro M X x L h;obtain ⟨v,q,rfl,hh⟩:=zgk h
 .have h:=hh;refine (zhL (uO g e M X v L h).1).imp fun D τ H hq=>?_;obtain ⟨σ,G,D3,hs,ab,f,hq⟩:=hq;exact xT (zA g.mono XN e) hs ab hq fun w G1 v1 H1 g1 hs1 r1 a1 hq=>f.rt w G1 v1 H1 g1 r1 a1 hq
theorem t_ite (c:IE) (a b:ISs) (ha:OkSs Γ p a) (hb:OkSs Γ p b):OkS Γ p (.ite c a b):=by
 intro M X x L h;obtain ⟨t,y,z,q,rfl,hh⟩:=zgm h
 .have h:=hh;refine (ps_if (uO g c M X t L h.1).2.1 (ha M X y L h.2.1) (hb M X z L h.2.2)).imp fun D τ H hq=>?_;obtain ⟨σ,G,D3,hs,ab,f,hq⟩:=hq;refine hZ (sX g.mono XN c) hs ab hq fun k G1 H1 g1 hs1 a1 hq=>?_
  split
  .rename_i hk;rw [if_pos hk] at hq;exact ⟨σ,G1,D3,hs1,a1,f.grow g1,hq⟩
  .rename_i hk;rw [if_neg hk] at hq;exact ⟨σ,G1,D3,hs1,a1,f.grow g1,hq⟩
theorem t_whl (c:IE) (b:ISs) (hb:OkSs Γ p b):OkS Γ p (.whl c b):=by
 intro M X x L h;obtain ⟨t,y,q,rfl,hh⟩:=zgj h
 .have h:=hh;have hp:PassesOwn (model X.prog X.w) X.A X.env X.xe:=by rw [L.fits.xe];exact PassesOwn.never
  refine (zdO hp (uO g c M X t L h.1).2.1 (hb M X y L h.2)).imp fun D τ H hq=>?_;obtain ⟨σ,G,D3,hs,ab,f,Pv,⟨m0,p0⟩,step⟩:=hq;refine ⟨fun m τ H'=>yJ X.K H H'/\∃ σ G,yH X.K H' σ τ/\xL X.K H' G/\Pv m σ G,⟨m0,.refl,σ,G,hs,ab,p0⟩,?_⟩;rintro m τ1 H1 ⟨g1,σ1,G1,hs1,a1,p1⟩;refine hZ (sX g.mono XN c) hs1 a1 (step m σ1 G1 p1) fun k G2 H2 g2 hs2 a2 hq=>?_
  split
  .rename_i hk;rw [if_pos hk] at hq;refine ⟨fun τ' H'=>∃ m',m' < m/\yJ X.K H H'/\∃ σ G,yH X.K H' σ τ'/\xL X.K H' G/\Pv m' σ G,fun τ' H' z=>z,?_⟩;refine ⟨σ1,G2,_,hs2,a2,⟨?_,?_,?_,?_⟩,hq⟩
   .rintro σ3 G3 τ3 H3 g3 hs3 a3 ⟨m',hm,p'⟩;exact ⟨m',hm,g1.trans (g2.trans g3),σ3,G3,hs3,a3,p'⟩
   .exact fun σ3 G3 τ3 H3 g3 hs3 a3 z=>f.nx σ3 G3 τ3 H3 (g1.trans (g2.trans g3)) hs3 a3 z
   .rintro σ3 G3 τ3 H3 g3 hs3 a3 ⟨m',hm,p'⟩;exact ⟨m',hm,g1.trans (g2.trans g3),σ3,G3,hs3,a3,p'⟩
   .exact fun w G3 v3 H3 g3 r3 a3 z=>f.rt w G3 v3 H3 (g1.trans (g2.trans g3)) r3 a3 z
  .rename_i hk;rw [if_neg hk] at hq;exact f.nx σ1 G2 τ1 H2 (g1.trans g2) hs2 a2 hq
theorem t_for (tg:ITg) (it:II) (b:ISs) (hb:OkSs Γ p b):OkS Γ p (.for tg it b):=by
 intro M X x L h;obtain ⟨t,y,z,q,rfl,h1,h2,h3,h4⟩:=zgn h
 .
  have hp:PassesOwn (model X.prog X.w) X.A X.env X.xe:=by rw [L.fits.xe];exact PassesOwn.never
  refine (zhM hp L.fits.calm (sndI g it M X y L h3 t) (sndG L tg t h2) (hb M X z L h4) (fB h1)).imp fun D τ H hq=>?_;obtain ⟨σ,G,D3,hs,ab,f,hq⟩:=hq;refine ⟨σ,G,hs,ab,zih g.mono XN it σ G _ _ (fun items stab G1 hq J H1 g1 a1 ii=>?_) hq⟩;obtain ⟨Pv,p0,pst,step,fin⟩:=hq;refine ⟨fun i m τ H'=>m+i=items.length/\yJ X.K H1 H'/\∃ σ G,yH X.K H' σ τ/\xL X.K H' G/\Pv i σ G,⟨items.length,rfl,.refl,σ,G1,hs.mono g1,a1,p0⟩,?_⟩;rintro i m τ2 H2 ⟨hm,g2,σ2,G2,hs2,a2,p2⟩;have st:=pst i σ2 G2 p2 (by omega)
  by_cases hi:i<items.length
  .refine .inr ⟨ii.go i H2 G2 g2 a2 st hi,fun τ' H'=>∃ m',m' < m/\(m'+(i+1)=items.length/\yJ X.K H1 H'/\∃ σ G,yH X.K H' σ τ'/\xL X.K H' G/\Pv (i+1) σ G),fun τ' H' z=>z,fun x H' yl=>?_⟩;obtain ⟨w,ew,g3,rp,a3⟩:=ii.yld i H2 G2 x H' g2 a2 st hi yl;refine ⟨w,σ2,G2,rp,hs2.mono g3,a3,rK tg w σ2 G2 _ _ (fun σ4 G4 hq τ4 H4 g4 hs4 a4=>?_) (step i w σ2 G2 ew p2)⟩;refine ⟨σ4,G4,_,hs4,a4,⟨?_,?_,?_,?_⟩,hq⟩
   .exact fun σ5 G5 τ5 H5 g5 hs5 a5 z=>⟨m-1,by omega,by omega,g2.trans (g3.trans (g4.trans g5)),σ5,G5,hs5,a5,z⟩
   .exact fun σ5 G5 τ5 H5 g5 hs5 a5 z=>f.nx σ5 G5 τ5 H5 (g1.trans (g2.trans (g3.trans (g4.trans g5)))) hs5 a5 z
   .exact fun σ5 G5 τ5 H5 g5 hs5 a5 z=>⟨m-1,by omega,by omega,g2.trans (g3.trans (g4.trans g5)),σ5,G5,hs5,a5,z⟩
   .exact fun w5 G5 v5 H5 g5 r5 a5 z=>f.rt w5 G5 v5 H5 (g1.trans (g2.trans (g3.trans (g4.trans g5)))) r5 a5 z
  .have ei:i=items.length:=by omega
   subst ei;exact .inl ⟨ii.stop _ H2 G2 g2 a2 st (zzR _),f.nx σ2 G2 τ2 H2 (g1.trans g2) hs2 a2 (fin σ2 G2 p2)⟩
theorem sndSs (s:ISs):OkSs Γ p s :=
 ISs.rec (motive_1:=OkS Γ p) (motive_2:=OkSs Γ p) (t_asg g) (zhg g) (zhh g) (zhi g) (t_ex g) (t_ret g) (vQ g).1 (vQ g).2.1 (vQ g).2.2.1 (vQ g).2.2.2.1
  (fun c a b ha hb=>t_ite g c a b ha hb) (fun c b hb=>t_whl g c b hb) (fun tg it b hb=>t_for g tg it b hb) (vQ g).2.2.2.2
  (fun M X x L h=>by
   cases zgl h;exact zfO.imp fun D τ H hq=>by obtain ⟨σ,G,D3,hs,ab,f,hq⟩:=hq;exact f.nx σ G τ H .refl hs ab hq)
  (fun s ss hs1 hs2 M X x L h=>by
   obtain ⟨y,ys,rfl,hh⟩:=zeh h
   .have h:=hh;refine (zdN (hs1 M X y L h.1) (hs2 M X ys L h.2)).imp fun D τ H hq=>?_;obtain ⟨σ,G,D3,hs,ab,f,hq⟩:=hq;refine ⟨σ,G,{ D3 with nx:=zE Γ XN ss D3 },hs,ab,⟨?_,f.bk,f.ct,f.rt⟩,hq⟩;exact fun σ2 G2 τ2 H2 g2 hs2 a2 z=>⟨σ2,G2,D3,hs2,a2,f.grow g2,z⟩) s
end
end L3
namespace PySem
open Sem (wp)
section
variable {prog : Program} {w : World} {A : Around} {E : Value → Shared → Prop} {s : Shared}
def itc (b:Bool):String:=if b then "tuple_iterator" else "list_iterator"
def uF (b:Bool) (h:Heap) (i l:Addr) (k:Nat):Prop:=∃ o,h.get? i=some o/\o.cls=.type (itc b)/\o.data=.fields #[.ref l,.int k 0]
def sK (b:Bool) (h:Heap) (l:Addr) (its:Array Value):Prop:=match b with
 |true=>h.IsTuple l its
 |false=>h.IsList l its
theorem uF.at {b:Bool} {h h':Heap} {i l:Addr} {k:Nat} (x:uF b h i l k) (e:∀ o,h.get? i=some o->h'.get? i=some o):uF b h' i l k:=let ⟨o,ho,r⟩:=x;⟨o,e _ ho,r⟩
theorem sK.at {b:Bool} {h h':Heap} {l:Addr} {its:Array Value} (x:sK b h l its) (e:∀ o,h.get? l=some o->h'.get? l=some o):sK b h' l its:=by
 cases b
 .obtain ⟨o,ho,r⟩:=x;exact ⟨o,e _ ho,r⟩
 .obtain ⟨o,ho,r⟩:=x;exact ⟨o,e _ ho,r⟩
theorem uF.eb {b:Bool} {h h':Heap} {i l c:Addr} {k:Nat} (x:uF b h i l k) (e:Heap.ExtBut c h h') (n:i≠c):uF b h' i l k:=x.at fun o q=>e _ o n q
theorem sK.eb {b:Bool} {h h':Heap} {l c:Addr} {its:Array Value} (x:sK b h l its) (e:Heap.ExtBut c h h') (n:l≠c):sK b h' l its:=x.at fun o q=>e _ o n q
theorem kO {b:Bool} {l:Addr} {its:Array Value} {Q:Value->Shared->Prop} (h:sK b s.heap l its)
  (hQ:Q (.ref s.heap.objs.size) { s with heap:=s.heap.push { cls:=.type (itc b),data:=.fields #[.ref l,.int 0 0] } }):wpAny (model prog w) A (pyIter (.ref l)) Q E s:=by
 cases b
 .exact wpAny_pyIter_list h hQ
 .exact wpAny_pyIter_tuple h hQ
abbrev drawIt (it : Addr) : Sem Value := Builtin.SmallTypes.nextOf (.ref it)
theorem tit_in {it : Addr} {Q : Value → Shared → Prop} (ty : s.TypeIs (.ref it) "tuple_iterator")
    (h : wpAny (model prog w) A.in1 (Builtin.«tuple_iterator.__next__» ⟨[.ref it], []⟩) (fun f s' => ∃ v, f = .done (.ret v) ∧ Q v s') E s) :
    wpAny (model prog w) A (drawIt it) Q E s := by
  have sl := F.slot_tuple_iterator_next
  apply wpAny_bind
  apply wpAny_callSpecial?_slot ty sl
  apply wpAny_call_entry sl ty F.entry_tuple_iterator_next _ (F.args_tuple_iterator_next_1 _)
  exact wpAny_mono h (fun _ _ ⟨v, e, q⟩ => ⟨v, e, wpAny_pure q⟩) fun _ _ e => e
theorem pW {it t : Addr} {i : Nat} {items} {x : Value} {Q : Value → Shared → Prop} (hit : s.heap.IsTupleIter it t i) (ht : s.heap.IsTuple t items) (hx : items[i]? = some x)
    (hQ : ∀ h', h'.IsTupleIter it t (i + 1) → Heap.SameBut it s.heap h' → Q x { s with heap := h' }) :
    wpAny (model prog w) A (drawIt it) Q E s := by
  apply tit_in hit.typeIs
  obtain ⟨⟨c, di, da, sl⟩, g1, c1, d1⟩ := hit
  obtain ⟨⟨c2, di2, da2, sl2⟩, g2, c2', n2, d2⟩ := ht
  cases c1; cases d1; cases d2
  obtain ⟨hp, ge, dr, tk, os⟩ := s
  wp_walk using wpAny_loadPart' g2, wpAny_loadPart' g1
  rw [Int.toNat_natCast, hx]
  wp_walk using wpAny_loadPart' g1
  refine ⟨x, rfl, hQ _ ⟨_, Heap.get?_update_self _ g1 rfl, rfl, ?_⟩ (.update ..)⟩
  exact congrArg (fun z => Data.fields #[.ref t, z]) rfl
theorem pA {it t : Addr} {i : Nat} {items} {Q : Value → Shared → Prop} (hh : A.handled = none) (hit : s.heap.IsTupleIter it t i) (ht : s.heap.IsTuple t items) (hx : items[i]? = none)
    (hE : ∀ g e, Heap.ExtBut it s.heap g → (∃ o, g.get? e = some o ∧ o.cls = .type "StopIteration") → E (.ref e) { s with heap := g }) :
    wpAny (model prog w) A (drawIt it) Q E s := by
  apply tit_in hit.typeIs
  obtain ⟨⟨c, di, da, sl⟩, g1, c1, d1⟩ := hit
  obtain ⟨⟨c2, di2, da2, sl2⟩, g2, c2', n2, d2⟩ := ht
  cases c1; cases d1; cases d2
  obtain ⟨hp, ge, dr, tk, os⟩ := s
  have hh' : A.in1.handled = none := hh
  wp_walk using wpAny_loadPart' g2, wpAny_loadPart' g1
  rw [Int.toNat_natCast, hx]
  wp_walk using wpAny_loadPart' g1
  unfold raiseNew
  wp_walk
  exact hE _ _ (fun b o n z => Heap.get?_push_of_some _ (Heap.get?_push_of_some _ ((Heap.SameBut.update ..).extBut b o n z))) ⟨_, Heap.get?_push_size _ rfl, rfl⟩
theorem qZ {b:Bool} {it l:Addr} {i:Nat} {items:Array Value} {x:Value} {Q:Value->Shared->Prop} (hit:uF b s.heap it l i) (hl:sK b s.heap l items) (hx:items[i]?=some x)
  (hQ:∀ h',uF b h' it l (i+1)->Heap.SameBut it s.heap h'->Q x { s with heap:=h' }):wpAny (model prog w) A (Builtin.SmallTypes.nextOf (.ref it)) Q E s:=by
 cases b
 .exact wpAny_nextOf_list_item hit hl hx hQ
 .exact pW hit hl hx hQ
theorem tG {b:Bool} {it l:Addr} {i:Nat} {items:Array Value} {Q:Value->Shared->Prop} (hh:A.handled=none) (hit:uF b s.heap it l i) (hl:sK b s.heap l items) (hx:items[i]?=none)
  (hE:∀ h' e,Heap.ExtBut it s.heap h'->(∃ o,h'.get? e=some o/\o.cls=.type "StopIteration")->E (.ref e) { s with heap:=h' }):wpAny (model prog w) A (Builtin.SmallTypes.nextOf (.ref it)) Q E s:=by
 cases b
 .exact wpAny_nextOf_list_end hh hit hl hx hE
 .exact pA hh hit hl hx hE
abbrev bC (h:Heap) (z TI TO:Addr) (f0 f1:Value):Prop :=
 h.get? z=some { cls:=.type "zip", dict:=none,data:=.fields #[f0,f1,.bool false,.ref TI,.ref TO],slots:=#[] }
end
abbrev zpH1 (a:Bool) (h:Heap) (l1:Addr):Heap:=h.push { cls:=.type (itc a),data:=.fields #[.ref l1,.int 0 0] }
abbrev zpH2 (a b:Bool) (h:Heap) (l1 l2:Addr):Heap:=(zpH1 a h l1).push { cls:=.type (itc b),data:=.fields #[.ref l2,.int 0 0] }
abbrev zpH3 (a b:Bool) (h:Heap) (l1 l2:Addr):Heap:=(zpH2 a b h l1 l2).push { cls:=.type "tuple", data:=.seq #[.ref h.objs.size,.ref (zpH1 a h l1).objs.size] }
abbrev zpH4 (a b:Bool) (h:Heap) (l1 l2:Addr):Heap:=(zpH3 a b h l1 l2).push { cls:=.type "tuple", data:=.seq #[.none,.none] }
abbrev zpH5 (a b:Bool) (h:Heap) (l1 l2:Addr):Heap:=(zpH4 a b h l1 l2).push { cls:=.type "zip", data:=.fields #[.none,.bool false,.bool false,.ref (zpH2 a b h l1 l2).objs.size,.ref (zpH3 a b h l1 l2).objs.size] }
theorem cO (a b:Bool) (l1 l2:Addr) (xs ys:Array Value) :
  Meets (Builtin.«zip.__new__» ⟨[.type "zip", .ref l1,.ref l2],[]⟩) (fun _ R s=>sK a s.heap l1 xs/\sK b s.heap l2 ys /\
   R (.ok (.ret (.ref (zpH4 a b s.heap l1 l2).objs.size))) { s with heap:=zpH5 a b s.heap l1 l2 }) :=
 .of_wp fun prog w A R s h=>by
  obtain ⟨hp,g,d,tk,os⟩:=s;obtain ⟨hl1,hl2,h⟩:=h;have hsub:=sub_zip;have hL1:sK a (Shared.heap ⟨hp,g,d,tk,os⟩) l1 xs:=hl1;have hL2:sK b (Shared.heap ⟨hp.push { cls:=.type (itc a),data:=.fields #[.ref l1,.int 0 0] },g,d,tk,os⟩) l2 ys:=hl2.at fun o e=>Heap.get?_push_of_some _ e
  wp_walk using kO hL1,kO hL2
  exact ⟨_,rfl,h⟩
section
variable {prog : Program} {w : World} {A : Around} {E : Value → Shared → Prop} {s : Shared}
theorem zg4 {a b:Bool} {l1 l2:Addr} {xs ys:Array Value} {Q:Value->Shared->Prop} (hl1:sK a s.heap l1 xs) (hl2:sK b s.heap l2 ys)
  (h:∀ h',bC h' (s.heap.objs.size+4) (s.heap.objs.size+2) (s.heap.objs.size+3) .none (.bool false)->IsPair h' (s.heap.objs.size+2) (.ref s.heap.objs.size) (.ref (s.heap.objs.size+1)) ->
   IsPair h' (s.heap.objs.size+3) .none .none->uF a h' s.heap.objs.size l1 0->uF b h' (s.heap.objs.size+1) l2 0->h'.objs.size=s.heap.objs.size+5 ->
   (∀ c o,s.heap.get? c=some o->h'.get? c=some o)->Q (.ref (s.heap.objs.size+4)) { s with heap:=h' }) :
  wpAny (model prog w) A (call (.type "zip") [.ref l1,.ref l2]) Q E s:=by
 refine callType_new F.called_zip (by decide) (F.typeCall_zip_2 _ _) (F.newCall_zip_2 _ _) (fun obj=>F.args_object_init_3 obj _ _) F.entry_zip_new
  (cO a b l1 l2 xs ys) ⟨hl1,hl2,?_⟩
 have z1:(zpH1 a s.heap l1).objs.size=s.heap.objs.size+1:=Heap.size_push ..;have z2:(zpH2 a b s.heap l1 l2).objs.size=s.heap.objs.size+2:=by rw [Heap.size_push,z1]
 have z3:(zpH3 a b s.heap l1 l2).objs.size=s.heap.objs.size+3:=by rw [Heap.size_push,z2]
 have z4:(zpH4 a b s.heap l1 l2).objs.size=s.heap.objs.size+4:=by rw [Heap.size_push,z3]
 have z5:(zpH5 a b s.heap l1 l2).objs.size=s.heap.objs.size+5:=by rw [Heap.size_push,z4]
 have g5:(zpH5 a b s.heap l1 l2).get? (zpH4 a b s.heap l1 l2).objs.size=some _:=Heap.get?_push_size _ rfl;have g4:(zpH5 a b s.heap l1 l2).get? (zpH3 a b s.heap l1 l2).objs.size=some _:=Heap.get?_push_of_some _ (Heap.get?_push_size _ rfl);have g3:(zpH5 a b s.heap l1 l2).get? (zpH2 a b s.heap l1 l2).objs.size=some _:=Heap.get?_push_of_some _ (Heap.get?_push_of_some _ (Heap.get?_push_size _ rfl));have g2:(zpH5 a b s.heap l1 l2).get? (zpH1 a s.heap l1).objs.size=some _:=Heap.get?_push_of_some _ (Heap.get?_push_of_some _ (Heap.get?_push_of_some _ (Heap.get?_push_size _ rfl)));have g1:(zpH5 a b s.heap l1 l2).get? s.heap.objs.size=some _:=Heap.get?_push_of_some _ (Heap.get?_push_of_some _ (Heap.get?_push_of_some _ (Heap.get?_push_of_some _ (Heap.get?_push_size _ rfl))));show _/\_;rw [z2,z3,z4] at g5;rw [z1,z2] at g3;rw [z3] at g4;rw [z1] at g2;rw [z4]
 exact ⟨⟨_,g5,rfl⟩,h _ g5 g3 g4 ⟨_,g1,rfl,rfl⟩ ⟨_,g2,rfl,rfl⟩ z5 fun c o x =>
  Heap.get?_push_of_some _ (Heap.get?_push_of_some _ (Heap.get?_push_of_some _ (Heap.get?_push_of_some _ (Heap.get?_push_of_some _ x))))⟩
end
end PySem
namespace PySem
open Sem (wp)
section
variable {prog : Program} {w : World} {A : Around} {E : Value → Shared → Prop} {s : Shared}
theorem jW {M : Model} {a : Addr} {Q : Option Obj → Shared → Prop} (h : Q (s.heap.get? a) s) : wpAny M A (loadIfAlive a) Q E s := fun Γ p hΓ => by
  unfold loadIfAlive
  rw [Sem.wp_loadIfAlive]
  exact wpAny_pure h Γ p hΓ
abbrev zTurn (z : Addr) : Sem Fin := Builtin.«zip.__next__» ⟨[.ref z], []⟩
abbrev zTold (Q : Value → Shared → Prop) (f : Fin) (s : Shared) : Prop := ∃ v, f = .done (.ret v) ∧ Q v s
abbrev But4 (z TO i1 i2 : Addr) (h h' : Heap) : Prop := ∀ c o, c ≠ z → c ≠ TO → c ≠ i1 → c ≠ i2 → h.get? c = some o → h'.get? c = some o
abbrev IsStop (h : Heap) (e : Addr) : Prop := ∃ o, h.get? e = some o ∧ o.cls = .type "StopIteration"
def Stp (p : Prop) : Prop := p
theorem stp_next {M : Model} {v : Value} {Q : Value → Shared → Prop} (h : Stp (wpAny M A (Builtin.SmallTypes.nextOf v) Q E s)) : wpAny M A (Builtin.SmallTypes.nextOf v) Q E s := h
theorem own_free {z TI TO : Addr} {f0 f1 : Value} {Q : Bool → Shared → Prop} (hz : bC s.heap z TI TO f0 f1) (hfr : f0 = .none ∨ ∃ T : Addr, f0 = rawInt T ∧ s.heap.get? T = none) (h : Q true s) :
    wpAny (model prog w) A (Builtin.SmallTypes.ownedTupleIsFree (.ref z)) Q E s := by
  obtain ⟨hp, ge, dr, tk, os⟩ := s
  obtain rfl | ⟨T, rfl, d⟩ := hfr <;> wp_walk using jW <;> exact h
theorem own_held {z TI TO T : Addr} {f1 : Value} {o : Obj} {Q : Bool → Shared → Prop} (hz : bC s.heap z TI TO (rawInt T) f1) (hf : f1 = .bool false ∨ f1 = .bool true) (hT : s.heap.get? T = some o)
    (h : ∀ h', bC h' z TI TO (rawInt T) (.bool true) → Heap.SameBut z s.heap h' → Q false { s with heap := h' }) :
    wpAny (model prog w) A (Builtin.SmallTypes.ownedTupleIsFree (.ref z)) Q E s := by
  obtain ⟨hp, ge, dr, tk, os⟩ := s
  obtain rfl | rfl := hf <;> wp_walk using jW
  · exact h _ (Heap.get?_update_self _ hz rfl) (.update ..)
  · exact h _ hz (.refl ..)
theorem zfl {a b : Bool} {z TI TO i1 i2 l1 l2 : Addr} {k1 k2 : Nat} {xs ys : Array Value} {x y u v f0 f1 : Value} {Q : Value → Shared → Prop} (D : ZipApart z TI TO i1 i2 l1 l2)
    (hfr : f0 = .none ∨ ∃ T : Addr, f0 = rawInt T ∧ s.heap.get? T = none) (hz : bC s.heap z TI TO f0 f1) (hTI : IsPair s.heap TI (.ref i1) (.ref i2)) (hTO : IsPair s.heap TO u v)
    (h1 : uF a s.heap i1 l1 k1) (h2i : uF b s.heap i2 l2 k2) (hl1 : sK a s.heap l1 xs) (hl2 : sK b s.heap l2 ys) (hx : xs[k1]? = some x) (hy : ys[k2]? = some y)
    (hQ : ∀ h', bC h' z TI TO (rawInt s.heap.objs.size) (.bool false) → IsPair h' TO x y → uF a h' i1 l1 (k1 + 1) → uF b h' i2 l2 (k2 + 1) → IsPair h' s.heap.objs.size x y → h'.objs.size = s.heap.objs.size + 1 →
      But4 z TO i1 i2 s.heap h' → Q (.ref s.heap.objs.size) { s with heap := h' }) :
    wpAny (model prog w) A (zTurn z) (zTold Q) E s := by
  wp_walk using stp_next, own_free hz hfr, wpAny_onRaise
  have b1 := (Heap.SameBut.update (h := s.heap) (a := z) (f := Obj.mapFields fun x => x.setIfInBounds 0 .ellipsis)).extBut
  refine qZ (h1.eb b1 D.i1z) (hl1.eb b1 D.l1z) hx fun h2 q1 k2 => ?_
  have t2 : IsPair h2 TO u v := k2.extBut _ _ D.TOi1 (b1 _ _ D.TOz hTO)
  have z2 : bC h2 z TI TO .ellipsis f1 := k2.extBut _ _ D.i1z.symm (Heap.get?_update_self _ hz rfl)
  wp_walk using stp_next, wpAny_onRaise
  have b3 := (Heap.SameBut.update h2 TO (Obj.mapSeq fun e => e.setIfInBounds 0 x)).extBut
  have c3 : ∀ c o, c ≠ z → c ≠ TO → c ≠ i1 → s.heap.get? c = some o → (h2.update TO (Obj.mapSeq fun e => e.setIfInBounds 0 x)).get? c = some o := fun c o n1 n2 n3 e => b3 _ _ n2 (k2.extBut _ _ n3 (b1 _ _ n1 e))
  refine qZ (h2i.at fun o e => c3 _ o D.i2z D.TOi2.symm D.i12.symm e) (hl2.at fun o e => c3 _ o D.l2z D.l2TO D.l2i1 e) hy fun h4 q2 k4 => ?_
  have t4 : IsPair h4 TO x v := k4.extBut _ _ D.TOi2 (Heap.get?_update_self _ t2 rfl)
  have z4 : bC h4 z TI TO .ellipsis f1 := k4.extBut _ _ D.i2z.symm (b3 _ _ D.TOz.symm z2)
  have n1 := D.TOz
  wp_walk
  have b5 := (Heap.SameBut.update h4 TO (Obj.mapSeq fun e => e.setIfInBounds (0 + 1) y)).extBut
  have t5 : IsPair (h4.update TO (Obj.mapSeq fun e => e.setIfInBounds (0 + 1) y)) TO x y := Heap.get?_update_self _ t4 rfl
  have z5 := b5 _ _ n1.symm z4
  have m5 : (h4.update TO (Obj.mapSeq fun e => e.setIfInBounds (0 + 1) y)).objs.size = s.heap.objs.size := by rw [Heap.size_after_update, k4.1, Heap.size_after_update, k2.1, Heap.size_after_update]
  have c5 : ∀ c o, c ≠ z → c ≠ TO → c ≠ i1 → c ≠ i2 → s.heap.get? c = some o → (h4.update TO (Obj.mapSeq fun e => e.setIfInBounds (0 + 1) y)).get? c = some o := fun c o n1 n2 n3 n4 e => b5 _ _ n2 (k4.extBut _ _ n4 (c3 _ _ n1 n2 n3 e))
  have q15 := ((q1.eb b3 D.TOi1.symm).eb k4.extBut D.i12).eb b5 D.TOi1.symm
  have q25 := q2.eb b5 D.TOi2.symm
  generalize h4.update TO (Obj.mapSeq fun e => e.setIfInBounds (0 + 1) y) = h5 at *
  rw [m5]
  have b6 : ∀ c o, c ≠ z → h5.get? c = some o → (((h5.push { cls := .type "tuple", data := .seq #[x, y] }).update z (Obj.mapFields fun e => e.setIfInBounds 0 (rawInt s.heap.objs.size))).update z (Obj.mapFields fun e => e.setIfInBounds 1 (.bool false))).get? c = some o :=
    fun c o n e => (Heap.SameBut.update ..).extBut _ _ n ((Heap.SameBut.update ..).extBut _ _ n (Heap.get?_push_of_some _ e))
  refine ⟨_, rfl, hQ _ (Heap.get?_update_self _ (Heap.get?_update_self _ (Heap.get?_push_of_some _ z5) rfl) rfl) (b6 _ _ n1 t5) (q15.at fun o e => b6 _ o D.i1z e) (q25.at fun o e => b6 _ o D.i2z e) ?_ ?_ fun c o n1 n2 n3 n4 e => b6 c o n1 (c5 c o n1 n2 n3 n4 e)⟩
  · have := Heap.lt_size z5
    rw [m5] at this
    refine (Heap.SameBut.update ..).extBut _ _ (Nat.ne_of_gt this) ((Heap.SameBut.update ..).extBut _ _ (Nat.ne_of_gt this) ?_)
    exact m5 ▸ Heap.get?_push_size _ rfl
  · rw [Heap.size_after_update, Heap.size_after_update, Heap.size_push, m5]
theorem zfk {a b : Bool} {z TI TO i1 i2 l1 l2 T : Addr} {k1 k2 : Nat} {xs ys : Array Value} {x y u v f1 : Value} {oT : Obj} {Q : Value → Shared → Prop} (D : ZipApart z TI TO i1 i2 l1 l2) (hf : f1 = .bool false ∨ f1 = .bool true)
    (hz : bC s.heap z TI TO (rawInt T) f1) (hT : s.heap.get? T = some oT) (hTI : IsPair s.heap TI (.ref i1) (.ref i2)) (hTO : IsPair s.heap TO u v)
    (h1 : uF a s.heap i1 l1 k1) (h2i : uF b s.heap i2 l2 k2) (hl1 : sK a s.heap l1 xs) (hl2 : sK b s.heap l2 ys) (hx : xs[k1]? = some x) (hy : ys[k2]? = some y)
    (hQ : ∀ h', bC h' z TI TO (rawInt T) (.bool true) → uF a h' i1 l1 (k1 + 1) → uF b h' i2 l2 (k2 + 1) → IsPair h' s.heap.objs.size x y → h'.objs.size = s.heap.objs.size + 1 →
      (∀ c o, c ≠ z → c ≠ i1 → c ≠ i2 → s.heap.get? c = some o → h'.get? c = some o) → Q (.ref s.heap.objs.size) { s with heap := h' }) :
    wpAny (model prog w) A (zTurn z) (zTold Q) E s := by
  wp_walk using stp_next, own_held hz hf hT
  intro g z1 j1
  wp_walk using stp_next
  refine qZ (h1.eb j1.extBut D.i1z) (hl1.eb j1.extBut D.l1z) hx fun h2 q1 k2 => ?_
  wp_walk using stp_next
  have c2 : ∀ c o, c ≠ z → c ≠ i1 → s.heap.get? c = some o → h2.get? c = some o := fun c o n1 n2 e => k2.extBut _ _ n2 (j1.extBut _ _ n1 e)
  refine qZ (h2i.at fun o e => c2 _ o D.i2z D.i12.symm e) (hl2.at fun o e => c2 _ o D.l2z D.l2i1 e) hy fun h3 q2 k3 => ?_
  wp_walk
  have m : h3.objs.size = s.heap.objs.size := by rw [k3.1, k2.1, j1.1]
  have p : ∀ c o, h3.get? c = some o → (h3.push { cls := .type "tuple", data := .seq #[x, y] }).get? c = some o := fun c o e => Heap.get?_push_of_some _ e
  rw [m]
  refine ⟨_, rfl, hQ _ (p _ _ (k3.extBut _ _ D.i2z.symm (k2.extBut _ _ D.i1z.symm z1))) ((q1.eb k3.extBut D.i12).at (p _)) (q2.at (p _)) ?_ ?_ fun c o n1 n2 n3 e => p _ _ (k3.extBut _ _ n3 (c2 _ _ n1 n2 e))⟩
  · exact m ▸ Heap.get?_push_size _ rfl
  · rw [Heap.size_push, m]
theorem rM {a b : Bool} {z TI TO i1 i2 l1 l2 : Addr} {k1 k2 : Nat} {xs ys : Array Value} {u v f0 f1 : Value} {Q : Fin → Shared → Prop} (hh : A.handled = none) (D : ZipApart z TI TO i1 i2 l1 l2)
    (hfr : f0 = .none ∨ ∃ T : Addr, f0 = rawInt T ∧ s.heap.get? T = none) (hz : bC s.heap z TI TO f0 f1) (hTI : IsPair s.heap TI (.ref i1) (.ref i2)) (hTO : IsPair s.heap TO u v)
    (h1 : uF a s.heap i1 l1 k1) (h2i : uF b s.heap i2 l2 k2) (hl1 : sK a s.heap l1 xs) (hl2 : sK b s.heap l2 ys) (hend : xs[k1]? = none ∨ ys[k2]? = none)
    (hE : ∀ h' e, But4 z TO i1 i2 s.heap h' → IsStop h' e → E (.ref e) { s with heap := h' }) :
    wpAny (model prog w) A (zTurn z) Q E s := by
  wp_walk using stp_next, own_free hz hfr, wpAny_onRaise
  have b1 := (Heap.SameBut.update (h := s.heap) (a := z) (f := Obj.mapFields fun x => x.setIfInBounds 0 .ellipsis)).extBut
  have z1 : bC (s.heap.update z (Obj.mapFields fun x => x.setIfInBounds 0 .ellipsis)) z TI TO .ellipsis f1 := Heap.get?_update_self _ hz rfl
  have fin : ∀ (g : Heap) e, bC g z TI TO .ellipsis f1 → (∃ o, g.get? e = some o ∧ o.cls = .type "StopIteration") →
      ∃ o, (g.update z (Obj.mapFields fun x => x.setIfInBounds 0 .none)).get? e = some o ∧ o.cls = .type "StopIteration" := by
    rintro g e zg ⟨o, he, ce⟩
    refine ⟨o, (Heap.SameBut.update ..).extBut _ _ ?_ he, ce⟩
    rintro rfl
    cases he.symm.trans zg
    simp at ce
  cases hx : xs[k1]? with
  | none =>
    refine tG hh (h1.eb b1 D.i1z) (hl1.eb b1 D.l1z) hx fun g e k he => ?_
    have zg : bC g z TI TO .ellipsis f1 := k _ _ D.i1z.symm z1
    wp_walk
    exact hE _ e (fun c o n1 _ n3 _ q => (Heap.SameBut.update ..).extBut _ _ n1 (k _ _ n3 (b1 _ _ n1 q))) (fin _ _ zg he)
  | some x =>
    have hy := hend.resolve_left (by rw [hx]; exact Option.some_ne_none x)
    refine qZ (h1.eb b1 D.i1z) (hl1.eb b1 D.l1z) hx fun h2 q1 k2 => ?_
    have t2 : IsPair h2 TO u v := k2.extBut _ _ D.TOi1 (b1 _ _ D.TOz hTO)
    have z2 : bC h2 z TI TO .ellipsis f1 := k2.extBut _ _ D.i1z.symm z1
    wp_walk using stp_next, wpAny_onRaise
    have b3 := (Heap.SameBut.update h2 TO (Obj.mapSeq fun e => e.setIfInBounds 0 x)).extBut
    have c3 : ∀ c o, c ≠ z → c ≠ TO → c ≠ i1 → s.heap.get? c = some o → (h2.update TO (Obj.mapSeq fun e => e.setIfInBounds 0 x)).get? c = some o := fun c o n1 n2 n3 e => b3 _ _ n2 (k2.extBut _ _ n3 (b1 _ _ n1 e))
    refine tG hh (h2i.at fun o e => c3 _ o D.i2z D.TOi2.symm D.i12.symm e) (hl2.at fun o e => c3 _ o D.l2z D.l2TO D.l2i1 e) hy fun g e k he => ?_
    have zg : bC g z TI TO .ellipsis f1 := k _ _ D.i2z.symm (b3 _ _ D.TOz.symm z2)
    wp_walk
    exact hE _ e (fun c o n1 n2 n3 n4 q => (Heap.SameBut.update ..).extBut _ _ n1 (k _ _ n4 (c3 _ _ n1 n2 n3 q))) (fin _ _ zg he)
theorem bB {a b : Bool} {z TI TO i1 i2 l1 l2 T : Addr} {k1 k2 : Nat} {xs ys : Array Value} {u v f1 : Value} {oT : Obj} {Q : Fin → Shared → Prop} (hh : A.handled = none) (D : ZipApart z TI TO i1 i2 l1 l2) (hf : f1 = .bool false ∨ f1 = .bool true)
    (hz : bC s.heap z TI TO (rawInt T) f1) (hT : s.heap.get? T = some oT) (hTI : IsPair s.heap TI (.ref i1) (.ref i2)) (hTO : IsPair s.heap TO u v)
    (h1 : uF a s.heap i1 l1 k1) (h2i : uF b s.heap i2 l2 k2) (hl1 : sK a s.heap l1 xs) (hl2 : sK b s.heap l2 ys) (hend : xs[k1]? = none ∨ ys[k2]? = none)
    (hE : ∀ h' e, But4 z TO i1 i2 s.heap h' → IsStop h' e → E (.ref e) { s with heap := h' }) :
    wpAny (model prog w) A (zTurn z) Q E s := by
  wp_walk using stp_next, own_held hz hf hT
  intro g z1 j1
  wp_walk using stp_next
  cases hx : xs[k1]? with
  | none =>
    refine tG hh (h1.eb j1.extBut D.i1z) (hl1.eb j1.extBut D.l1z) hx fun g' e k he => ?_
    exact hE _ e (fun c o n1 _ n3 _ q => k _ _ n3 (j1.extBut _ _ n1 q)) he
  | some x =>
    have hy := hend.resolve_left (by rw [hx]; exact Option.some_ne_none x)
    refine qZ (h1.eb j1.extBut D.i1z) (hl1.eb j1.extBut D.l1z) hx fun h2 q1 k2 => ?_
    wp_walk using stp_next
    have c2 : ∀ c o, c ≠ z → c ≠ i1 → s.heap.get? c = some o → h2.get? c = some o := fun c o n1 n2 e => k2.extBut _ _ n2 (j1.extBut _ _ n1 e)
    refine tG hh (h2i.at fun o e => c2 _ o D.i2z D.i12.symm e) (hl2.at fun o e => c2 _ o D.l2z D.l2i1 e) hy fun g' e k he => ?_
    exact hE _ e (fun c o n1 _ n3 n4 q => k _ _ n4 (c2 _ _ n1 n3 q)) he
end
end PySem
namespace L2
open PySem PySem.Spec PyProof.Rows
structure TurnL (P:Program) (w:World) (K:PySem.W.Frag) (T:String) (J:It) (fp:List Addr) (it:Addr) (tn:Nat->Heap->Prop):Prop where
 mem:it∈fp
 ty:∀ i h,tn i h->∃ o,h.get? it=some o/\o.cls=.type T
 obj:∀ i h,tn i h->∀ b∈fp,∃ o,h.get? b=some o/\∀ v,o.data≠.cell v
 keep:∀ i h h',tn i h->(∀ b∈fp,∀ o,h.get? b=some o->h'.get? b=some o)->tn i h'
 item:∀ (X:Cx),X.prog=P->X.w=w->X.K=K->X.calm=true->∀ (i:Nat) (pins:List (Addr×Obj)) (s:Shared) (σ:St) (H:Hp) (E:Value->Shared->Prop),Inv X pins σ H s->(∀ b∈fp,kR X pins H b)->tn i s.heap->J.go i H ->
  wpAny (model P w) X.A (pyNext (.ref it)) (fun r s2=>∃ u x H',r=some u/\Inv X pins σ H' s2/\zC x u/\J.yld i H x H'/\tn (i+1) s2.heap/\∀ b∈fp,H' b=none) E s
 done:∀ (X:Cx),X.prog=P->X.w=w->X.K=K->X.calm=true->∀ (i:Nat) (pins:List (Addr×Obj)) (s:Shared) (σ:St) (H:Hp) (E:Value->Shared->Prop),Inv X pins σ H s->(∀ b∈fp,kR X pins H b)->tn i s.heap->J.stop i H ->
  wpAny (model P w) X.A (pyNext (.ref it)) (fun r s1=>r=none/\Inv X pins σ H s1) E s
 self:∀ (A:Around) (i:Nat) (s:Shared) (Q:Value->Shared->Prop) (E:Value->Shared->Prop),tn i s.heap->Q (.ref it) s->wpAny (model P w) A (pyIter (.ref it)) Q E s
 hint:∀ (A:Around) (i:Nat) (s:Shared) (Q:Bool->Shared->Prop) (E:Value->Shared->Prop),tn i s.heap->(∀ b,Q b s)->wpAny (model P w) A (Builtin.List.listLengthHint (.ref it)) Q E s
abbrev Cx.atA (X:Cx) (A:Around):Cx:={ X with A:=A }
theorem Cx.Ok.atA {X:Cx} (ok:X.Ok) {A:Around} (hf:A.frames=X.A.frames) (hh:A.handled=X.A.handled):(X.atA A).Ok :=
 ⟨ok.mod,ok.kind,ok.glob,ok.blt,ok.above,ok.inj,ok.has,ok.cab,fun z=>hh.trans (ok.hd z),hf.trans ok.frames,ok.stk,ok.exf,ok.bs,ok.bsz,ok.noex,ok.exfs,ok.funs,ok.frf⟩
section
variable {X : Cx} {pins : List (Addr × Obj)} {σ : St} {H : Hp} {s : Shared}
theorem Inv.atA (I:Inv X pins σ H s) {A:Around} (hf:A.frames=X.A.frames) (hh:A.handled=X.A.handled):Inv (X.atA A) pins σ H s :=
 ⟨I.ok.atA hf hh,I.os,I.bare,I.base,I.loc,I.cell,I.free,I.freeC,I.pin,I.hok,I.len⟩
theorem Inv.unA {A:Around} (hf:A.frames=X.A.frames) (hh:A.handled=X.A.handled) (I:Inv (X.atA A) pins σ H s):Inv X pins σ H s :=
 ⟨Cx.Ok.atA (X:=X.atA A) (A:=X.A) I.ok hf.symm hh.symm,I.os,I.bare,I.base,I.loc,I.cell,I.free,I.freeC,I.pin,I.hok,I.len⟩
theorem zes {P:Program} {w:World} {A:Around} {R:Result->Shared->Prop} (S I:Addr) (res:Value) (Jn:Nat->Shared->Prop)
  (step:∀ k s,Jn k s->wpAny (model P w) A.in1 (pyNext (.ref I)) (fun r s'=>match r with
   |none=>R (.ok (.ret res)) s'
   |some v=>∃ its c,s'.heap.get? S=some (kH its c)/\its.length<sizeLine/\∀ h',Heap.SameBut S s'.heap h'->h'.get? S=some (kH (its++[v]) (c+1))->∃ k',k' < k/\Jn k' { s' with heap:=h' }) (fun e s'=>R (.error e) s') s) :
  ∀ k s,Jn k s->codeAny (model P w) A (.builtin "list.extend.loop" ⟨[.ref S,.ref I,res],[]⟩) R s:=by
 intro k
 induction k using Nat.strongRecOn with
 |_ k ih =>
  intro s j;refine codeAny_builtin F.entry_extend_loop ?_;rw [Around.under_plainId F.plain_extend_loop _];show wpAny _ A.in1 (pyNext (.ref I) >>= _) _ _ s;refine wpAny_bind (yF (step k s j) fun r s' q=>?_)
  cases r with
  |none=>exact wpAny_pure q
  |some v =>
   obtain ⟨its,c,hS,hl,q⟩:=q;show wpAny _ A.in1 (updateSeq S (·.push v) >>= _) _ _ _;refine wpAny_bind ?_;obtain ⟨k',hk,j'⟩:=q _ (Heap.SameBut.update ..) (by exact (Heap.get?_update_self (Obj.mapSeq (·.push v)) hS rfl).trans (by simp [Obj.mapSeq,kH]));exact wpAny_updateSeq hS rfl (wpAny_pure ⟨plainId_quiet F.plain_extend_loop _,ih k' hk _ j'⟩) (by show its.toArray.size<=sizeLine;rw [zzS];omega) (by show (its.toArray.push v).size<=sizeLine+1;rw [Array.size_push,zzS];omega)
theorem Inv.adopt {a:Addr} {o:HO} (I:Inv X pins σ H s) (off:Off X pins a) (hn:H a=none) (new:xG X.prog X.w (xK H a o) s.heap a o):Inv X pins σ (xK H a o) s:=by
 have b:=I.base;have nb:∀ b' ob,X.s₀.heap.get? b'=some ob->b'≠a:=fun b' ob e=>Nat.ne_of_lt (Nat.lt_of_lt_of_le (Heap.lt_size e) off.ge);refine ⟨I.ok,I.os,I.bare,⟨b.keep,b.slot,fun c ob e n hx=>?_,b.there,fun c xs e=>?_,fun c ob u e=>?_,fun c ps e=>?_⟩,I.loc,I.cell,?_,fun x c e=>?_,fun p hp=>?_,I.hok.adopt (fun c u v _ q=>q) hn new,I.len⟩
 .rw [yV (nb c ob e)];exact b.free c ob e n hx
 .rw [yV (yK (b.tups c xs e) hn)];exact b.tups c xs e
 .rw [yV (yK (b.frzs c ob u e) hn)];exact b.frzs c ob u e
 .obtain ⟨mo,e'⟩:=b.tbls c ps e;exact ⟨mo,by rw [yV (yK e' hn)];exact e'⟩
 .rw [yV off.ne.symm];exact I.free
 .rw [yV (off.cl x c e)];exact I.freeC x c e
 .obtain ⟨q1,q2,q3⟩:=I.pin p hp;exact ⟨q1,by rw [yV (off.pn p hp)];exact q2,q3⟩
theorem zcx (hc:X.calm=true) {T:String} {J:It} {fp:List Addr} {it:Addr} {tn:Nat->Heap->Prop} {Q:VK} (hTl:(Value.type T==Value.type "list")=false) (hTt:(Value.type T==Value.type "tuple")=false)
  (I:Inv X pins σ H s) (Tn:TurnL X.prog X.w X.K T J fp it tn) (t0:tn 0 s.heap) (hf:∀ b∈fp,kR X pins H b) (n:Nat) (hn:n<=sizeLine) (W:Nat->List V->Hp->Prop) (w0:W 0 [] H)
  (wgo:∀ i acc H,i<n->W i acc H->J.go i H/\∀ x H',J.yld i H x H'->W (i+1) (acc++[x]) H') (wst:∀ acc H,W n acc H->J.stop n H/\∀ p,H p=none->Q (.ref p) (xK H p (.lst acc))) :
  wpAny (model X.prog X.w) X.A (call (.type "list") [.ref it]) (EP X pins σ Q) X.xe s:=by
 have hfp:∀ b∈fp,b<s.heap.objs.size:=fun b hb=>by
  obtain ⟨o,e,_⟩:=Tn.obj _ _ t0 b hb;exact Heap.lt_size e
 have hSf:∀ b∈fp,b≠s.heap.objs.size:=fun b hb=>Nat.ne_of_lt (hfp b hb);have hSI:s.heap.objs.size≠it:=(hSf it Tn.mem).symm;have off:Off X pins s.heap.objs.size:=I.off (zzR _);have nfs:s.heap.objs.size∉X.fs:=I.nofs (zzR _);have fr0:∀ b∈fp,H b=none:=fun b hb=>(hf b hb).1;have HS0:H s.heap.objs.size=none:=I.hok.fresh (zzR _)
 have fpok:∀ {H':Hp} {ob:Obj},(∀ b∈fp,H' b=none)->∀ b∈fp,kR X ((s.heap.objs.size,ob)::pins) H' b:=fun {H' ob} hn b hb=>by
  obtain ⟨q1,q2,q3,q4,q5,q6⟩:=hf b hb;refine ⟨hn b hb,q2,q3,q4,q5,fun p hp=>?_⟩;rcases List.mem_append.mp hp with hp|hp
  .exact q6 p (List.mem_append_left _ hp)
  .rcases List.mem_cons.mp hp with rfl|hp
   .exact (hSf b hb).symm
   .exact q6 p (List.mem_append_right _ hp)
 have pinS:∀ {H':Hp} {s':Shared} {its:List Value} {c:Nat},Inv X pins σ H' s'->H' s.heap.objs.size=none->s'.heap.get? s.heap.objs.size=some (kH its c)->Inv X ((s.heap.objs.size,kH its c)::pins) σ H' s':=fun {H' s' its c} I' hn e =>
  I'.pins_of fun p hp=>by
   rcases List.mem_cons.mp hp with rfl|hp
   .exact ⟨e,hn,off.ne,nfs,fun v z=>nomatch z⟩
   .exact I'.pin p (List.mem_append_right _ hp)
 have unpin:∀ {H':Hp} {s':Shared} {ob:Obj},Inv X ((s.heap.objs.size,ob)::pins) σ H' s'->Inv X pins σ H' s':=fun {H' s' ob} I'=>I'.pins_of fun p hp=>I'.pin p (List.mem_append_right _ (List.mem_cons_of_mem _ hp))
 refine callType_codes (Q₁:=fun obj s₁=>obj=.ref s.heap.objs.size/\s₁={ s with heap:=s.heap.push { cls:=.type "list", data:=.seq #[] } }) F.called_list (F.typeCall_list_1 _) F.entry_list_init
  (code_list_new _ ⟨rfl,rfl⟩) fun obj s₁ h₁=>?_
 obtain ⟨rfl,rfl⟩:=h₁;have hS:(s.heap.push { cls:=.type "list", data:=.seq #[] }).get? s.heap.objs.size=some { cls:=.type "list", data:=.seq #[] }:=Heap.get?_push_size _ rfl;refine ⟨⟨_,hS,rfl⟩,F.args_list_init_2 _ _,?_⟩
 have loop:∀ (h':Heap) (c:Nat),h'.get? s.heap.objs.size=some (kH [] c)->(∀ b o,s.heap.get? b=some o->h'.get? b=some o) ->
   codeAny (model X.prog X.w) X.A.in1 (.builtin "list.extend.loop" ⟨[.ref s.heap.objs.size,.ref it,.none],[]⟩) (wants (fun r s₂=>r=.none/\EP X pins σ Q (.ref s.heap.objs.size) s₂) X.xe) { s with heap:=h' }:=by
  intro h' c e0 k0
  refine zes s.heap.objs.size it .none (fun k s'=>∃ i acc H' its c,k+i=n/\Inv X pins σ H' s'/\tn i s'.heap/\(∀ b∈fp,H' b=none)/\H' s.heap.objs.size=none/\s'.heap.get? s.heap.objs.size=some (kH its c)/\zD acc its/\acc.length<=i/\W i acc H') ?_ n _
   ⟨0,[],H,[],c,by omega,I.kept (t':=s.toks) k0,Tn.keep _ _ _ t0 fun b _ o e=>k0 b o e,fr0,HS0,e0,.nil,zzR _,w0⟩
  rintro k s' ⟨i,acc,H',its,c',hk,I',st,fr,hS',oS,v,la,wi⟩;have Ip:=(pinS I' hS' oS).atA (A:=X.A.in1.in1) rfl rfl
  by_cases hi:i<n
  .obtain ⟨go,yl⟩:=wgo i acc H' hi wi;refine yF (Tn.item (X.atA X.A.in1.in1) rfl rfl rfl hc i _ s' σ H' _ Ip (fpok fr) st go) fun r s2 ⟨u,x,H2,hr,I2,r2,y2,st2,fr2⟩=>?_;subst hr;have I2':=Inv.unA (X:=X) (A:=X.A.in1.in1) rfl rfl I2;have p2:=I2'.pin (s.heap.objs.size,kH its c') (List.mem_append_right _ (zzT ..));refine ⟨its,c',p2.1,by rw [← v.length];omega,fun h'' sb e''=>⟨k-1,by omega,i+1,acc++[x],H2,its++[u],c'+1,by omega,off.turned (unpin I2') p2.2.1 sb,Tn.keep _ _ _ st2 fun b hb o e=>sb.extBut b o (hSf b hb) e,fr2,p2.2.1,e'',v.append (.cons r2 .nil),by rw [zzW];show acc.length+1<=i+1;omega,yl x H2 y2⟩⟩
  .have hin:i=n:=by omega
   subst hin;obtain ⟨yL,fin⟩:=wst acc H' wi;refine yF (Tn.done (X.atA X.A.in1.in1) rfl rfl rfl hc i _ s' σ H' _ Ip (fpok fr) st yL) fun r s2 ⟨hr,I2⟩=>?_;subst hr;have I2':=Inv.unA (X:=X) (A:=X.A.in1.in1) rfl rfl I2;have p2:=I2'.pin (s.heap.objs.size,kH its c') (List.mem_append_right _ (zzT ..));exact ⟨rfl,.ref s.heap.objs.size,xK H' s.heap.objs.size (.lst acc),(unpin I2').adopt off hS' ⟨by omega,its,c',v,p2.1⟩,rfl,fin _ hS'⟩
 show wpAny _ X.A.in1.in1 (do let old ← Builtin.List.listItems (.ref s.heap.objs.size);Builtin.List.listUpdate (.ref s.heap.objs.size) (fun _=>#[]);letGo old.toList.reverse;Builtin.List.listExtendWith (.ref s.heap.objs.size) (.ref it) .none) _ _ _;refine wpAny_bind ?_;unfold Builtin.List.listItems;refine wpAny_bind (wpAny_seqItems hS rfl (wpAny_pure ?_));show wpAny _ X.A.in1.in1 (updateSeq s.heap.objs.size (fun _=>#[]) >>= fun _=>letGo (#[]:Array Value).toList.reverse >>= fun _=>Builtin.List.listExtendWith (.ref s.heap.objs.size) (.ref it) .none) _ _ _;refine wpAny_bind (wpAny_updateSeq hS rfl ?_);have hS₂:=Heap.get?_update_self (Obj.mapSeq (fun _=>(#[]:Array Value))) hS rfl;generalize hh2:(s.heap.push { cls:=.type "list", data:=.seq #[] }).update s.heap.objs.size (Obj.mapSeq (fun _=>(#[]:Array Value)))=h2 at *
 have k2:∀ b o,s.heap.get? b=some o->h2.get? b=some o:=fun b o e=>by
  rw [← hh2,Heap.get?_update_other _ _ (Nat.ne_of_gt (Heap.lt_size e))];exact Heap.get?_push_of_some _ e
 have tn2:tn 0 h2:=Tn.keep _ _ _ t0 fun b _ o e=>k2 b o e;refine wpAny_bind (wpAny_letGo ?_);unfold Builtin.List.listExtendWith;obtain ⟨oI,eI,cI⟩:=Tn.ty _ _ tn2;refine wpAny_bind (wpAny_typeOf (s:={ s with heap:=h2 }) ⟨oI,eI,cI⟩ ?_);have h1:Builtin.List.listSameRef (.ref s.heap.objs.size) (.ref it)=false:=by simp [Builtin.List.listSameRef,hSI]
 rw [if_neg (by rw [h1,hTl,hTt];decide)];refine wpAny_bind (Tn.self _ 0 { s with heap:=h2 } _ _ tn2 ?_);refine wpAny_bind (wpAny_holding (Tn.hint _ 0 { s with heap:=h2 } _ _ tn2 fun room=>?_));dsimp only
 split
 .refine wpAny_bind (wpAny_rule ?_);refine wpAny_bind ?_;show wpAny _ X.A.in1.in1 (updateSeq s.heap.objs.size (·.push .none) >>= fun _=>updateSeq s.heap.objs.size (·.pop)) _ _ _;refine wpAny_bind (wpAny_updateSeq hS₂ rfl ?_);have hS₃:=Heap.get?_update_self (Obj.mapSeq (·.push Value.none)) hS₂ rfl;refine wpAny_updateSeq (hz:=by seq_fits) hS₃ rfl ?_;have hS₄:=Heap.get?_update_self (Obj.mapSeq (·.pop)) hS₃ rfl;refine wpAny_pure ⟨plainId_quiet F.plain_extend_loop _,loop _ _ hS₄ fun b o e=>?_⟩;rw [Heap.get?_update_other _ _ (Nat.ne_of_gt (Heap.lt_size e)),Heap.get?_update_other _ _ (Nat.ne_of_gt (Heap.lt_size e))];exact k2 b o e
 .exact wpAny_pure ⟨plainId_quiet F.plain_extend_loop _,loop _ _ hS₂ k2⟩
end
end L2
namespace L2
open PySem PySem.Spec PyProof.Rows
def pE (b:Bool) (K:PySem.W.Frag) (H:Hp) (a:Addr) (xs:List V):Prop:=match b with
 |true=>sL K H a xs
 |false=>rP K H a xs
theorem Inv.sqB {X:Cx} {pins:List (Addr×Obj)} {σ:St} {H:Hp} {s:Shared} {b:Bool} {a:Addr} {xs:List V} (I:Inv X pins σ H s) (h:pE b X.K H a xs):∃ its:List Value,zD xs its/\sK b s.heap a its.toArray/\xs.length<=sizeLine:=by
 cases b
 .obtain ⟨its,r,p,hz⟩:=I.list h;exact ⟨its,r,p.isList,hz⟩
 .obtain ⟨its,r,p,hz⟩:=I.tuple h;exact ⟨its,r,p,hz⟩
theorem Inv.sqB_inj {X:Cx} {pins:List (Addr×Obj)} {σ:St} {H:Hp} {s:Shared} {b:Bool} {a:Addr} {xs ys:List V} (I:Inv X pins σ H s) (h:pE b X.K H a xs) (h':pE b X.K H a ys):xs=ys:=by
 cases b
 .exact I.list_inj h h'
 .exact I.tuple_inj h h'
theorem Inv.turns {X:Cx} {pins:List (Addr×Obj)} {σ:St} {H:Hp} {s:Shared} {h':Heap} {t':Nat} {fp:List Addr} (I:Inv X pins σ H s) (hf:∀ b∈fp,kR X pins H b) (k:∀ b o,b∉fp->s.heap.get? b=some o->h'.get? b=some o):Inv X pins σ H { s with heap:=h',toks:=t' }:=by
 have nit:∀ b u,H b=some u->b∉fp:=fun b u e z=>by rw [(hf b z).1] at e;cases e
 refine I.step (g':=s.gens) (d':=s.drawn) (ch:=fp) (fun b hb=>?_) (fun b o _ _ hc e _=>k b o hc e) (fun b o _ _ hc e _=>⟨o.slots,k b o hc e⟩) (fun _ _ _ _ n=>n)
  (fun b o hc e=>⟨o,k b o hc e⟩) (fun _ _ e=>e) (fun _ _ _ e=>e) (fun b ps e=>⟨#[],by rw [e];simp⟩) (fun m hm=>?_) (fun b u e=>?_) I.bare
 .obtain ⟨_,q2,q3,q4,q5,q6⟩:=hf b hb;exact ⟨q4,q2,q5,q6⟩
 .obtain ⟨o,es,ep,ho,r⟩:=hm;exact ⟨o,es,ep,k _ o (fun z=>(hf _ z).2.1 rfl) ho,r⟩
 .refine (I.hok b u e).stay (fun c v hc q=>k c v ?_ q) (fun _ q=>q) fun _ _ q=>q;rcases hc with z|z
  .rw [z];exact nit b u e
  .exact nit c _ z
def Itz (a b:Bool) (K:PySem.W.Frag) (l1 l2:Addr):It where
 go:=fun i H=>∃ xs ys x y,pE a K H l1 xs/\pE b K H l2 ys/\xs[i]?=some x/\ys[i]?=some y
 yld:=fun i H v H'=>∃ p x y,v=.ref p/\H p=none/\H'=xK H p (.tup [x,y])/\(∀ xs,pE a K H l1 xs->xs[i]?=some x)/\∀ ys,pE b K H l2 ys->ys[i]?=some y
 stop:=fun i H=>∃ xs ys,pE a K H l1 xs/\pE b K H l2 ys/\(xs[i]?=none\/ys[i]?=none)
def vT (a b:Bool) (z TI TO i1 i2 l1 l2:Addr) (i:Nat) (h:Heap):Prop :=
 ∃ f0 f1,bC h z TI TO f0 f1/\(f0=.none\/∃ T:Addr,f0=rawInt T)/\(f1=.bool false\/f1=.bool true)/\IsPair h TI (.ref i1) (.ref i2)/\(∃ u v,IsPair h TO u v)/\uF a h i1 l1 i/\uF b h i2 l2 i
section
variable {a b : Bool} {z TI TO i1 i2 l1 l2 : Addr}
theorem vT.obj {i:Nat} {h:Heap} (x:vT a b z TI TO i1 i2 l1 l2 i h):∀ c∈[z,TI,TO,i1,i2],∃ o,h.get? c=some o/\∀ v,o.data≠.cell v:=by
 obtain ⟨f0,f1,hz,_,_,hTI,⟨u,v,hTO⟩,⟨o1,e1,_,d1⟩,⟨o2,e2,_,d2⟩⟩:=x;intro c hc;simp only [List.mem_cons,List.not_mem_nil,or_false] at hc;rcases hc with rfl|rfl|rfl|rfl|rfl
 .exact ⟨_,hz,fun v z=>nomatch z⟩
 .exact ⟨_,hTI,fun v z=>nomatch z⟩
 .exact ⟨_,hTO,fun v z=>nomatch z⟩
 .exact ⟨_,e1,fun v z=>by rw [d1] at z;cases z⟩
 .exact ⟨_,e2,fun v z=>by rw [d2] at z;cases z⟩
theorem vT.keep {i:Nat} {h h':Heap} (x:vT a b z TI TO i1 i2 l1 l2 i h) (k:∀ c∈[z,TI,TO,i1,i2],∀ o,h.get? c=some o->h'.get? c=some o):vT a b z TI TO i1 i2 l1 l2 i h':=by
 obtain ⟨f0,f1,hz,h0,h1,hTI,⟨u,v,hTO⟩,s1,s2⟩:=x;exact ⟨f0,f1,k z (by simp) _ hz,h0,h1,k TI (by simp) _ hTI,⟨u,v,k TO (by simp) _ hTO⟩,s1.at fun o e=>k i1 (by simp) o e,s2.at fun o e=>k i2 (by simp) o e⟩
variable {X : Cx} {pins : List (Addr × Obj)} {σ : St} {H : Hp} {s : Shared}
theorem bA (hd:[z,TI,TO,i1,i2].Nodup) (hf:∀ c∈[z,TI,TO,i1,i2],kR X pins H c) {xs ys:List V} (I:Inv X pins σ H s) (h1:pE a X.K H l1 xs) (h2:pE b X.K H l2 ys)
  (n1:l1∉[z,TI,TO,i1,i2]) (n2:l2∉[z,TI,TO,i1,i2]):ZipApart z TI TO i1 i2 l1 l2:=by
 simp only [List.nodup_cons,List.mem_cons,List.not_mem_nil,or_false,not_or,List.nodup_nil,not_false_eq_true,and_true] at hd n1 n2;obtain ⟨⟨a1,a2,a3,a4⟩,⟨b1,b2,b3⟩,⟨c1,c2⟩,d1⟩:=hd;obtain ⟨m1,m2,m3,m4,m5⟩:=n1;obtain ⟨k1,k2,k3,k4,k5⟩:=n2;exact ⟨Ne.symm a1,Ne.symm a2,Ne.symm a3,Ne.symm a4,b1,b2,b3,c1,c2,d1,m1,m3,m4,m5,k1,k3,k4,k5⟩
theorem zfj {E:Value->Shared->Prop} (hh:X.A.handled=none) (hd:[z,TI,TO,i1,i2].Nodup) (n1:l1∉[z,TI,TO,i1,i2]) (n2:l2∉[z,TI,TO,i1,i2]) {i:Nat} (I:Inv X pins σ H s) (hf:∀ c∈[z,TI,TO,i1,i2],kR X pins H c)
  (st:vT a b z TI TO i1 i2 l1 l2 i s.heap) (go:(Itz a b X.K l1 l2).go i H) :
  wpAny (model X.prog X.w) X.A (pyNext (.ref z)) (fun r s2=>∃ u x H',r=some u/\Inv X pins σ H' s2/\zC x u/\(Itz a b X.K l1 l2).yld i H x H'/\vT a b z TI TO i1 i2 l1 l2 (i+1) s2.heap/\(∃ T:Addr,u=.ref T/\T∉[z,TI,TO,i1,i2])/\∀ c∈[z,TI,TO,i1,i2],H' c=none) E s:=by
 obtain ⟨xs,ys,x,y,q1,q2,ex,ey⟩:=go;have D:=bA hd hf I q1 q2 n1 n2;obtain ⟨itx,vx,sx,_⟩:=I.sqB q1;obtain ⟨ity,vy,sy,_⟩:=I.sqB q2;obtain ⟨ux,eux,rx⟩:=vx.get ex;obtain ⟨uy,euy,ry⟩:=vy.get ey;have hx:itx.toArray[i]?=some ux:=by simpa using eux
 have hy:ity.toArray[i]?=some uy:=by simpa using euy
 obtain ⟨f0,f1,hz,h0,h1,hTI,⟨u,v,hTO⟩,s1,s2⟩:=id st;have hT:s.TypeIs (.ref z) "zip" := ⟨_,hz,rfl⟩
 have lt:∀ c∈[z,TI,TO,i1,i2],c<s.heap.objs.size:=fun c hc=>by
  obtain ⟨o,e,_⟩:=st.obj c hc;exact Heap.lt_size e
 have new:s.heap.objs.size∉[z,TI,TO,i1,i2]:=fun hm=>Nat.lt_irrefl _ (lt _ hm)
 have fin:∀ (h':Heap),vT a b z TI TO i1 i2 l1 l2 (i+1) h'->IsPair h' s.heap.objs.size ux uy->h'.objs.size=s.heap.objs.size+1->(∀ c o,c∉[z,TI,TO,i1,i2]->s.heap.get? c=some o->h'.get? c=some o) ->
   ∃ u x H',(some (Value.ref s.heap.objs.size))=some u/\Inv X pins σ H' { s with heap:=h' }/\zC x u/\(Itz a b X.K l1 l2).yld i H x H'/\vT a b z TI TO i1 i2 l1 l2 (i+1) h'/\(∃ T:Addr,u=.ref T/\T∉[z,TI,TO,i1,i2])/\∀ c∈[z,TI,TO,i1,i2],H' c=none:=by
  intro h' st' pr sz k;have hn:H s.heap.objs.size=none:=I.hok.fresh (zzR _);have I1:Inv X pins σ H { s with heap:=h',toks:=s.toks }:=I.turns hf k;refine ⟨_,.ref s.heap.objs.size,xK H s.heap.objs.size (.tup [x,y]),rfl,?_,rfl,⟨_,x,y,rfl,hn,rfl,fun xs' q'=>by rw [I.sqB_inj q' q1];exact ex,fun ys' q'=>by rw [I.sqB_inj q' q2];exact ey⟩,st',⟨_,rfl,new⟩,fun c hc=>by rw [yV (fun e:c=s.heap.objs.size=>new (e▸hc))];exact (hf c hc).1⟩;exact I1.adopt (I.off (zzR _)) hn ⟨by show 2<=sizeLine;rw [sizeLine_eq];decide,[ux,uy],.cons rx (.cons ry .nil),⟨_,pr,rfl,_,rfl⟩⟩
 unfold pyNext
 have free:(f0=.none\/∃ T:Addr,f0=rawInt T/\s.heap.get? T=none)->wpAny (model X.prog X.w) X.A.in1 (Builtin.«zip.__next__» ⟨[.ref z],[]⟩) (fun fin s'=>∃ v,fin=.done (.ret v)/\∃ u x H',some v=some u/\Inv X pins σ H' s'/\zC x u/\(Itz a b X.K l1 l2).yld i H x H'/\vT a b z TI TO i1 i2 l1 l2 (i+1) s'.heap/\(∃ T:Addr,u=.ref T/\T∉[z,TI,TO,i1,i2])/\∀ c∈[z,TI,TO,i1,i2],H' c=none) (fun _ _=>False) s:=fun hfr=>by
  refine zfl D hfr hz hTI hTO s1 s2 sx sy hx hy fun h' a1 a2 a3 a4 a5 a6 a7=>fin h' ⟨_,_,a1,.inr ⟨_,rfl⟩,.inl rfl,a7 TI _ D.TIz D.TITO D.TIi1 D.TIi2 hTI,⟨_,_,a2⟩,a3,a4⟩ a5 a6 fun c o hc e=>?_;simp only [List.mem_cons,List.not_mem_nil,or_false,not_or] at hc;exact a7 c o hc.1 hc.2.2.1 hc.2.2.2.1 hc.2.2.2.2 e
 have held:∀ (T:Addr) (oT:Obj),f0=rawInt T->s.heap.get? T=some oT->wpAny (model X.prog X.w) X.A.in1 (Builtin.«zip.__next__» ⟨[.ref z],[]⟩) (fun fin s'=>∃ v,fin=.done (.ret v)/\∃ u x H',some v=some u/\Inv X pins σ H' s'/\zC x u/\(Itz a b X.K l1 l2).yld i H x H'/\vT a b z TI TO i1 i2 l1 l2 (i+1) s'.heap/\(∃ T:Addr,u=.ref T/\T∉[z,TI,TO,i1,i2])/\∀ c∈[z,TI,TO,i1,i2],H' c=none) (fun _ _=>False) s:=fun T oT e0 eT=>by
  subst e0;refine zfk D h1 hz eT hTI hTO s1 s2 sx sy hx hy fun h' a1 a3 a4 a5 a6 a7=>fin h' ⟨_,_,a1,.inr ⟨_,rfl⟩,.inr rfl,a7 TI _ D.TIz D.TIi1 D.TIi2 hTI,⟨_,_,a7 TO _ D.TOz D.TOi1 D.TOi2 hTO⟩,a3,a4⟩ a5 a6 fun c o hc e=>?_;simp only [List.mem_cons,List.not_mem_nil,or_false,not_or] at hc;exact a7 c o hc.1 hc.2.2.2.1 hc.2.2.2.2 e
 refine wpAny_bind (wpAny_attempt (wpAny_callSpecial?_slot (name:=Str.ofString "__next__") hT F.slot_zip_next
  (wpAny_call_entry F.slot_zip_next hT F.entry_zip_next ?_ (F.args_zip_next_1 _))))
 have all:wpAny (model X.prog X.w) X.A.in1 (Builtin.«zip.__next__» ⟨[.ref z],[]⟩) (fun fin s'=>∃ v,fin=.done (.ret v)/\∃ u x H',some v=some u/\Inv X pins σ H' s'/\zC x u/\(Itz a b X.K l1 l2).yld i H x H'/\vT a b z TI TO i1 i2 l1 l2 (i+1) s'.heap/\(∃ T:Addr,u=.ref T/\T∉[z,TI,TO,i1,i2])/\∀ c∈[z,TI,TO,i1,i2],H' c=none) (fun _ _=>False) s:=by
  rcases h0 with e0|⟨T,e0⟩
  .exact free (.inl e0)
  .cases eT:s.heap.get? T with
   |none=>exact free (.inr ⟨T,e0,eT⟩)
   |some oT=>exact held T oT e0 eT
 refine wpAny_mono all (fun fin' s' ⟨v',e',q⟩=>⟨v',e',?_⟩) (fun _ _ z=>z.elim);exact wpAny_pure q
theorem zfm {E:Value->Shared->Prop} (hh:X.A.handled=none) (hd:[z,TI,TO,i1,i2].Nodup) (n1:l1∉[z,TI,TO,i1,i2]) (n2:l2∉[z,TI,TO,i1,i2]) {i:Nat} (I:Inv X pins σ H s) (hf:∀ c∈[z,TI,TO,i1,i2],kR X pins H c)
  (st:vT a b z TI TO i1 i2 l1 l2 i s.heap) (stop:(Itz a b X.K l1 l2).stop i H) :
  wpAny (model X.prog X.w) X.A (pyNext (.ref z)) (fun r s1=>r=none/\Inv X pins σ H s1) E s:=by
 obtain ⟨xs,ys,q1,q2,he⟩:=stop;have D:=bA hd hf I q1 q2 n1 n2;obtain ⟨itx,vx,sx,_⟩:=I.sqB q1;obtain ⟨ity,vy,sy,_⟩:=I.sqB q2
 have hend:itx.toArray[i]?=none\/ity.toArray[i]?=none:=by
  rcases he with e|e
  .left;simpa using vx.none_of e
  .right;simpa using vy.none_of e
 obtain ⟨f0,f1,hz,h0,h1,hTI,⟨u,v,hTO⟩,s1,s2⟩:=id st;have hT:s.TypeIs (.ref z) "zip" := ⟨_,hz,rfl⟩;unfold pyNext
 have fin:∀ (h':Heap) (e:Addr),(∀ c o,c≠z->c≠TO->c≠i1->c≠i2->s.heap.get? c=some o->h'.get? c=some o)->(∃ o,h'.get? e=some o/\o.cls=.type "StopIteration") ->
   wpAny (model X.prog X.w) X.A (do if ← isInstance (.ref e) (.type "StopIteration") then pure none else throw (.ref e)) (fun (r:Option Value) s1=>r=none/\Inv X pins σ H s1) E { s with heap:=h' }:=fun h' e k ⟨o,ho,hc⟩=>by
  refine wpAny_bind (wpAny_isInstance (T := "StopIteration") (b:=true) ⟨o,ho,hc⟩ isSubtype_stop ?_);refine wpAny_pure ⟨rfl,I.turns (t':=s.toks) hf fun c o hc e=>?_⟩;simp only [List.mem_cons,List.not_mem_nil,or_false,not_or] at hc;exact k c o hc.1 hc.2.2.1 hc.2.2.2.1 hc.2.2.2.2 e
 refine wpAny_bind (wpAny_attempt (wpAny_callSpecial?_slot (name:=Str.ofString "__next__") hT F.slot_zip_next
  (wpAny_call_entry F.slot_zip_next hT F.entry_zip_next ?_ (F.args_zip_next_1 _))))
 rcases h0 with e0|⟨T,e0⟩
 .exact rM hh D (.inl e0) hz hTI hTO s1 s2 sx sy hend fun h' e k he=>fin h' e k he
 .cases eT:s.heap.get? T with
  |none=>exact rM hh D (.inr ⟨T,e0,eT⟩) hz hTI hTO s1 s2 sx sy hend fun h' e k he=>fin h' e k he
  |some oT =>
   subst e0;exact bB hh D h1 hz eT hTI hTO s1 s2 sx sy hend fun h' e k he=>fin h' e k he
theorem zbx {P:Program} {w:World} {A:Around} {i:Nat} {s:Shared} {Q:Value->Shared->Prop} {E:Value->Shared->Prop} (st:vT a b z TI TO i1 i2 l1 l2 i s.heap) (h:Q (.ref z) s):wpAny (model P w) A (pyIter (.ref z)) Q E s:=by
 obtain ⟨f0,f1,hz,_⟩:=st;have hT:s.TypeIs (.ref z) "zip" := ⟨_,hz,rfl⟩;refine wpAny_pyIter_slot hT F.slot_zip_iter (wpAny_call_entry F.slot_zip_iter hT F.entry_zip_iter ?_ (F.args_zip_iter_1 _));show wpAny _ _ (ret (.ref z)) _ _ s;exact wpAny_pure ⟨_,rfl, "zip", _,hT,F.slot_zip_next.lookup,h⟩
end
end L2
namespace L3
open PySem PySem.Spec PyProof.Rows L2
structure Pr where
 prog:Program
 w:World
 K:yN
 mg:Str->Option Value
 base:Heap
abbrev Pr.at (q:Pr) (A:Around):Par:=⟨q.prog,q.w,q.K,q.mg,q.base,A⟩
def vY (K:yN) (sp:tQ):Sp:=fun vs H Q E=>∃ ws G,zF K H ws vs/\xL K H G/\sp ws G (qG K H Q) XN
def yB (N:List Str) (ws:List W):jH:=ws.map some++List.replicate (N.length-ws.length) none
theorem zbP {K:yN} {H:Hp} {N:List Str} {ws:List W} {vs:List V} (r:zF K H ws vs):yH K H (yB N ws) (L2.start N vs):=by
 have hl:=r.length;refine ⟨by simp [yB,L2.start,hl],fun i w e=>?_⟩;unfold yB at e;unfold L2.start
 by_cases hi:i<ws.length
 .rw [List.getElem?_append_left (by simpa using hi),List.getElem?_map] at e
  cases q:ws[i]? with
  |none=>rw [q] at e;cases e
  |some w' =>
   rw [q] at e;obtain rfl:w'=w:=Option.some.inj (Option.some.inj e);obtain ⟨v,ev,rp⟩:=r.get q;refine ⟨v,?_,rp⟩;rw [List.getElem?_append_left (by simp;omega),List.getElem?_map,ev];rfl
 .rw [List.getElem?_append_right (by simp;omega),List.getElem?_replicate] at e
  split at e<;>cases e
structure MOk (Γ:Ctx3) (M:MC) (sc:Scope):Prop where
 sc:M.sc=sc
 own:M.own=fun _=>true
 fns:Γ.fn.map (·.nm)=M.fns
 gls:Γ.gl.map (·.1)=M.gls
 mts:Γ.mt.map (·.nm)=M.mts
 its:Γ.it.map (·.nm)=M.its
 sxs:Γ.sx.map (·.m)=M.sxm
 ixs:Γ.ix.map (·.m)=M.ixm
def FnE (p:Par) (f:Fn3):Prop:=∀ X,Fits p X->Gl X f.nm->∀ (args:List Expr) (t:A3) (q pos:Pos),vW t->args.all xB=true->PA X args (sV X.K t)->(args=[]->∀ σ G Q,t σ G Q->Q [] G)->(f.nm==("__debug__" : Str))=false->f.nm ≠ "__name__" ->
  PE X (.Call (.Name f.nm q) args [] pos) (yA X.K fun σ G Q=>t σ G fun ws G1=>f.sp ws G1 Q XN)
theorem xM {e:Expr} {es:List Expr} {env:Env} {pos:Pos} (h:(e::es).all xB=true):starEach (e::es) env=(false,eval e env)::starEach es env/\(backTo pos (starEach es env)).any (·.1)=false:=by
 rw [List.all_cons,Bool.and_eq_true] at h;refine ⟨qN h.1,?_⟩;have h2:=h.2
 clear h
 induction es with
 |nil=>rfl
 |cons a r ih =>
  rw [List.all_cons,Bool.and_eq_true] at h2;rw [qN h2.1];show (false || (backTo pos (starEach r env)).any (·.1))=false;rw [ih h2.2];rfl
theorem Fits.eq {p:Par} {X:Cx} (f:Fits p X):p=⟨X.prog,X.w,X.K,X.mg,X.base,X.A⟩:=by
 obtain ⟨e1,e2,e3,e4,e5,e6,_,_⟩:=f;rw [e1,e2,e3,e4,e5,e6]
theorem pa_sp {X:Cx} {args:List Expr} {t:A3} {sp:tQ} {dws:List W} {dvs:List V} (m:vW t) (hd:∀ H,zF X.K H dws dvs) (mono:∀ ws G (Q Q':Q3),(∀ w G',Q w G'->Q' w G')->sp ws G Q XN->sp ws G Q' XN) {τ:L2.St} {H:Hp} {Q:VK} {E:XK}
  (h:yA X.K (fun σ G Q=>t σ G fun ws G1=>sp (ws++dws) G1 Q XN) τ H Q):zfx (vY X.K sp) dvs E (sV X.K t) τ H Q:=by
 obtain ⟨σ,G,hs,ab,h⟩:=h;refine sN m hs ab h fun ws G1 vs H1 g1 hs1 rs a1 h=>?_;exact ⟨ws++dws,G1,rs.append (hd H1),a1,mono _ _ _ _ (fun w G' z v' H' g'=>z v' H' (g1.trans g')) h⟩
theorem ziY {q:Pr} {k:Nat} {nm:Str} {f:Addr} {fd:FuncData} {ps:List Str} {ds:List Value} {dvs:List V} {dws:List W} {sp:tQ} (FO:FnOk q.prog q.w q.K q.mg q.base CX0 k f fd ps (vY q.K sp)) (hm:q.mg nm=some (.ref f)) (hk:PySem.W.keepIn q.K (.ref f)=true)
  (hb:uE q.K fd ps ds) (hd:∀ H,zF q.K H dws dvs) (hv:zD dvs ds) (mono:∀ ws G (Q Q':Q3),(∀ w G',Q w G'->Q' w G')->sp ws G Q XN->sp ws G Q' XN) {A:Around} (hr:Room k A):FnE (q.at A) ⟨nm,fun ws G Q _=>sp (ws++dws) G Q XN⟩:=by
 intro X fits gl args t qp pos mt hn pa hnil hdb hnm;have e:=fits.eq
 injection e with e1 e2 e3 e4 e5 e6
 subst e6;rw [e1,e2,e3,e4,e5] at FO;rw [e4] at hm;rw [e3] at hk hb hd
 cases args with
 |nil =>
  refine (zd3 (p:=qp) (pos:=pos) FO hr gl hm hk hb hv zf2 hdb).imp fun τ H Q h=>?_;obtain ⟨σ,G,hs,ab,h⟩:=h;have h:=hnil rfl _ _ _ h;exact ⟨dws,G,hd H,ab,h⟩
 |cons a r =>
  obtain ⟨s1,s2⟩:=xM (env:=X.env) (pos:=pos) hn;exact (zf0 (p:=qp) (pos:=pos) FO hr gl hm hk hb hv zf2 pa hdb s1 s2).imp fun τ H Q h=>pa_sp (args:=a::r) mt hd mono h
end L3
namespace L3
open PySem PySem.Spec PyProof.Rows L2 PySem.SeqAt
abbrev RS:=List W->Hw->Q3->Prop
def wP (sp:RS):Prop:=∀ ws G (Q Q':Q3),(∀ w G',Q w G'->Q' w G')->sp ws G Q->sp ws G Q'
def vG (K:yN) (sp:RS):List V->Hp->VK->Prop:=fun vs H Q=>∃ ws G,zF K H ws vs/\xL K H G/\sp ws G (qG K H Q)
theorem pJ {X:Cx} {t:A3} {sp:RS} (mt:vW t) (mono:wP sp) {τ:L2.St} {H:Hp} {Q:VK} (h:yA X.K (fun σ G Q=>t σ G fun ws G1=>sp ws G1 Q) τ H Q):tCB (vG X.K sp) (sV X.K t) τ H Q:=by
 obtain ⟨σ,G,hs,ab,h⟩:=h;exact sN mt hs ab h fun ws G1 vs H1 g1 hs1 rs a1 h=>⟨ws,G1,rs,a1,mono _ _ _ _ (fun w G' z v' H' g'=>z v' H' (g1.trans g')) h⟩
theorem rS {q:Pr} {A:Around} {nm:Str} {id:String} {sp:RS} (hm:q.mg nm=none) (hv:bootBuiltins nm=some (.builtin id)) (hc:∀ X,Fits (q.at A) X->wJ X (.builtin id) (vG X.K sp)) (mono:wP sp) (h0:∀ G Q,¬ sp [] G Q):FnE (q.at A) ⟨nm,fun ws G Q _=>sp ws G Q⟩:=by
 intro X fits gl args t qp pos mt hn pa hnil hdb hnm;have hm':X.mg nm=none:=by rw [fits.mg];exact hm
 cases args with
 |nil=>exact fun pins s σ H Q I h=>absurd (hnil rfl _ _ _ h.choose_spec.choose_spec.2.2) (h0 _ _)
 |cons a r =>
  obtain ⟨s1,s2⟩:=xM (env:=X.env) (pos:=pos) hn;exact (zd2 (p:=qp) (pos:=pos) (hc X fits) gl hm' hv pa hnm hdb s1 s2).imp fun τ H Q h=>pJ mt mono h
theorem zgB {q:Pr} {A:Around} {nm:Str} {T:String} {sp:RS} (hm:q.mg nm=none) (hv:bootBuiltins nm=some (.type T)) (hc:∀ X,Fits (q.at A) X->wJ X (.type T) (vG X.K sp)) (mono:wP sp) (h0:∀ G Q,¬ sp [] G Q):FnE (q.at A) ⟨nm,fun ws G Q _=>sp ws G Q⟩:=by
 intro X fits gl args t qp pos mt hn pa hnil hdb hnm;have hm':X.mg nm=none:=by rw [fits.mg];exact hm
 cases args with
 |nil=>exact fun pins s σ H Q I h=>absurd (hnil rfl _ _ _ h.choose_spec.choose_spec.2.2) (h0 _ _)
 |cons a r =>
  obtain ⟨s1,s2⟩:=xM (env:=X.env) (pos:=pos) hn;exact (zce (p:=qp) (pos:=pos) (hc X fits) gl hm' hv pa hnm hdb s1 s2).imp fun τ H Q h=>pJ mt mono h
abbrev MS:=W->List W->Hw->Q3->Prop
def MtE (p:Par) (m:Mt3):Prop:=∀ X,Fits p X->∀ (o:Expr) (args:List Expr) (to:E3) (t:A3) (apos cpos:Pos),wG to->vW t->zdh o=true->(apos.endLine==cpos.line)=true->args.length<25->args.all xB=true ->
  PE X o (yA X.K to)->PA X args (sV X.K t)->(args=[]->∀ σ G Q,t σ G Q->Q [] G)->PE X (.Call (.Attribute o m.nm apos) args [] cpos) (yA X.K fun σ G Q=>to σ G fun x G1=>tyW G1 x m.T/\t σ G1 fun ws G2=>m.sp x ws G2 Q)
def lowM (K:yN) (sp:MS):V->List V->Hp->VK->Prop:=fun x vs H Q=>∃ w ws G,wQ K H w x/\zF K H ws vs/\xL K H G/\sp w ws G (qG K H Q)
theorem zer {args:List Expr} {env:Env} {pos:Pos} (h:args.all xB=true):(backTo pos (starEach args env)).all (fun x=>!x.1)=true:=by
 induction args with
 |nil=>rfl
 |cons a r ih =>
  rw [List.all_cons,Bool.and_eq_true] at h;rw [qN h.1];show (true&&(backTo pos (starEach r env)).all (fun x=>!x.1))=true;rw [ih h.2];rfl
theorem cP {p:Par} {nm:Str} {T id:String} {sp:MS} (pa:PlainAttrs T) (slot:Slot T nm id) (hty:typeOf (.builtin id)=pure (.type "method_descriptor")) (hm:∀ X,Fits p X->MtR X id (lowM X.K sp))
  (mono:∀ x ws G (Q Q':Q3),(∀ w G',Q w G'->Q' w G')->sp x ws G Q->sp x ws G Q'):MtE p ⟨nm,T,sp⟩:=by
 intro X fits o args to t apos cpos mo mt ho hline hlen hn po pa' hnil
 cases args with
 |nil =>
  refine (zh2 pa slot hty (hm X fits) po (tR ho) hline).imp fun τ H Q h=>?_;obtain ⟨σ,G,hs,ab,h⟩:=h;refine xT mo hs ab h fun w G1 v H1 g1 hs1 rw1 a1 h=>⟨zeK rw1 a1 h.1,w,[],G1,rw1,rfl,a1,mono _ _ _ _ _ (fun w' G' z v' H' g'=>z v' H' (g1.trans g')) (hnil rfl _ _ _ h.2)⟩
 |cons a r =>
  obtain ⟨s1,s2⟩:=xM (env:=X.env) (pos:=cpos) hn;refine (pe_bm pa slot hty (hm X fits) po pa' (tR ho) ?_ hline s1 s2).imp fun τ H Q h=>?_
  .rw [zer hn]
   have:(a::r).length+([]:List Keyword).length+(if ([]:List Keyword).isEmpty then 0 else 1)<30:=by
    show (a::r).length+0+0<30;omega
   rw [decide_eq_true this];rfl
  .obtain ⟨σ,G,hs,ab,h⟩:=h;refine xT mo hs ab h fun w G1 v H1 g1 hs1 rw1 a1 h=>⟨zeK rw1 a1 h.1,?_⟩;exact sN mt hs1 a1 h.2 fun ws G2 vs H2 g2 hs2 rs a2 h=>⟨w,ws,G2,rw1.mono g2,rs,a2,mono _ _ _ _ _ (fun w' G' z v' H' g'=>z v' H' (g1.trans (g2.trans g'))) h⟩
def maxS:RS:=fun ws G Q=>match ws with
 | [.int i,.int j]=>Q (.int (if j > i then j else i)) G
 |_=>False
theorem fP:wP maxS:=by
 intro ws G Q Q' k h;unfold maxS at h ⊢
 split at h
 .exact k _ _ h
 .exact h.elim
theorem zb7 {K:yN} {H:Hp} {a b:W} {vs:List V} (r:zF K H [a,b] vs):∃ x y,vs=[x,y]/\wQ K H a x/\wQ K H b y:=by
 obtain ⟨x,t,rfl,rx,y,t',rfl,ry,rt⟩:=r;cases (show t'=[] from rt);exact ⟨x,y,rfl,rx,ry⟩
theorem jQ {K:yN} {H:Hp} {a:W} {vs:List V} (r:zF K H [a] vs):∃ x,vs=[x]/\wQ K H a x:=by
 obtain ⟨x,t,rfl,rx,rt⟩:=r;cases (show t=[] from rt);exact ⟨x,rfl,rx⟩
theorem zii {X:Cx} (hc:X.calm=true):wJ X (.builtin "max") (vG X.K maxS):=by
 intro pins s σ H xs us Q I r h;obtain ⟨ws,G,rs,ab,h⟩:=h;unfold maxS at h
 split at h
 .rename_i i j;obtain ⟨x,y,rfl,rx,ry⟩:=zb7 rs;cases (show x=.int i from rx);cases (show y=.int j from ry);exact zdc hc pins s σ H _ us Q I r ⟨i,j,rfl,h _ H .refl rfl ab⟩
 .exact h.elim
def vE (G:Hw):W->Option Nat
 | .str x=>if x.length<=sizeLine then some x.length else none
 | .tup ws=>some ws.length
 | .ref p=>match G p with
  |some (.lst ws)=>some ws.length
  |some (.fix ws)=>some ws.length
  |some (.dic kvs)=>some kvs.length
  |_=>none
 |_=>none
def uM:RS:=fun ws G Q=>match ws with
 | [x]=>(match vE G x with|some n=>Q (.int n) G|none=>False)
 |_=>False
theorem fM:wP uM:=by
 intro ws G Q Q' k h;unfold uM at h ⊢
 split at h
 .split at h
  .exact k _ _ h
  .exact h.elim
 .exact h.elim
theorem zgd {X:Cx}:wJ X (.builtin "len") (fun xs H Q=>∃ a kvs,xs=[V.ref a]/\H a=some (.dK kvs)/\Q (.int kvs.length) H):=by
 intro pins s σ H xs us Q I r h;obtain ⟨a,kvs,rfl,ha,q⟩:=h;obtain ⟨u,rfl,ru⟩:=jR r;cases ru;exact d_len I (.inl ha) fun t s' I'=>⟨.int kvs.length,H,I',⟨t,rfl⟩,q⟩
theorem cK {X:Cx}:wJ X (.builtin "len") (vG X.K uM):=by
 intro pins s σ H xs us Q I r h;obtain ⟨ws,G,rs,ab,h⟩:=h;unfold uM at h
 split at h
 .rename_i w;obtain ⟨v,rfl,rv⟩:=jQ rs
  split at h
  .rename_i n hn;have q:Q (.int n) H:=h (.int n) H .refl rfl ab
   cases w with
   |str x =>
    cases (show v=.str x from rv);simp only [vE] at hn
    split at hn
    .rename_i hl;cases hn;exact bO pins s σ H _ us Q I r ⟨x,rfl,hl,q⟩
    .cases hn
   |tup ws' =>
    obtain ⟨a,vs,rfl,sq,rr⟩:=rv;simp only [vE] at hn;cases hn;exact kF pins s σ H _ us Q I r ⟨a,vs,rfl,.inr sq,by rw [rr.length];exact q⟩
   |ref p =>
    cases (show v=.ref p from rv);simp only [vE] at hn
    split at hn
    .rename_i ws' e;cases hn;obtain ⟨vs,sq,rr⟩:=ab.seq (show yQ G p=some ws' by unfold yQ;rw [e]);exact kF pins s σ H _ us Q I r ⟨p,vs,rfl,.inl sq,by rw [rr.length];exact q⟩
    .rename_i ws' e;cases hn;obtain ⟨vs,sq,rr⟩:=ab.seq (show yQ G p=some ws' by unfold yQ;rw [e]);exact kF pins s σ H _ us Q I r ⟨p,vs,rfl,.inl sq,by rw [rr.length];exact q⟩
    .rename_i kvs e;cases hn;obtain ⟨l,e',rl⟩:=ab.dic e;exact zgd pins s σ H _ us Q I r ⟨p,l,rfl,e',by rw [rl.length];exact q⟩
    .cases hn
   |_=>simp [vE] at hn
  .exact h.elim
 .exact h.elim
def xZ (G:Hw):W->Option (List W)
 | .tup ws=>some ws
 | .ref p=>yQ G p
 |_=>none
def lstS:RS:=fun ws G Q=>match ws with
 | [x]=>(match xZ G x with|some xs=>∀ p,G p=none->Q (.ref p) (put G p (.lst xs))|none=>False)
 |_=>False
theorem fN:wP lstS:=by
 intro ws G Q Q' k h;unfold lstS at h ⊢
 split at h
 .split at h
  .exact fun p hp=>k _ _ (h p hp)
  .exact h.elim
 .exact h.elim
theorem zb1 {K:yN} {H:Hp} {G:Hw} {w:W} {v:V} {xs:List W} (ab:xL K H G) (r:wQ K H w v) (e:xZ G w=some xs):∃ a vs b,v=.ref a/\pE b K H a vs/\zF K H xs vs:=by
 cases w with
 |tup ws =>
  obtain ⟨a,vs,rfl,sq,rr⟩:=r;cases e;exact ⟨a,vs,true,rfl,sq,rr⟩
 |ref p =>
  cases (show v=.ref p from r);obtain ⟨vs,sq,rr⟩:=ab.seq e;exact ⟨p,vs,false,rfl,sq,rr⟩
 |_=>cases e
theorem zik {X:Cx}:wJ X (.type "list") (vG X.K lstS):=by
 intro pins s σ H xs us Q I r h;obtain ⟨ws,G,rs,ab,h⟩:=h;unfold lstS at h
 split at h
 .rename_i w;obtain ⟨v,rfl,rv⟩:=jQ rs
  split at h
  .rename_i ys hy;obtain ⟨a,vs,b,rfl,sq,rr⟩:=zb1 ab rv hy;refine bP pins s σ H _ us Q I r ⟨a,vs,rfl,?_,jL ab rr h⟩;cases b
   .exact .inl sq
   .exact .inr sq
  .exact h.elim
 .exact h.elim
def allS (f:List Bool->Bool):RS:=fun ws G Q=>match ws with
 | [.ref p]=>∃ bs:List Bool,yQ G p=some (bs.map .bl)/\Q (.bl (f bs)) G
 |_=>False
theorem dM (f:List Bool->Bool):wP (allS f):=by
 intro ws G Q Q' k h;unfold allS at h ⊢
 split at h
 .obtain ⟨bs,e,h⟩:=h;exact ⟨bs,e,k _ _ h⟩
 .exact h.elim
theorem mD {K:yN} {H:Hp}:∀ {bs:List Bool} {vs:List V} {us:List Value},zF K H (bs.map .bl) vs->zD vs us->us=bs.map .bool
 | [],vs,us,r,v=>by cases (show vs=[] from r);cases v;rfl
 |b::bs,vs,us,r,v=>by
  obtain ⟨x,t,rfl,rx,rt⟩:=r;cases (show x=.bl b from rx)
  cases v with
  |cons a c =>
   cases (show _=Value.bool b from a);rw [mD rt c];rfl
theorem zdj (bs:List Bool):(List.range bs.length).all (fun i=>(bs[i]?).getD false)=bs.all id:=by
 rw [Bool.eq_iff_iff,List.all_eq_true,List.all_eq_true]
 constructor
 .intro h b hb;obtain ⟨i,hi,rfl⟩:=List.mem_iff_getElem.mp hb;have:=h i (List.mem_range.mpr hi)
  rwa [List.getElem?_eq_getElem hi] at this
 .intro h i hi;have hi:=List.mem_range.mp hi;rw [List.getElem?_eq_getElem hi];exact h _ (List.getElem_mem hi)
theorem zeG {X:Cx} (hc:X.calm=true) {pins:List (Addr×Obj)} {s:Shared} {σ:L2.St} {H:Hp} {G:Hw} {p:Addr} {bs:List Bool} (I:Inv X pins σ H s) (ab:xL X.K H G) (e:yQ G p=some (bs.map .bl)) {A:Around} (hh:A.handled=none) {E:Value->Shared->Prop}
  {R:Value->Shared->Prop} (h:∀ (I':Addr) (s₂:Shared),Walks X.prog X.w A I' [I',p] [I'] bs.length (fun i v=>(bs.map Value.bool).toArray[i]?=some v) (fun i h=>h.IsListIter I' p i/\h.IsList p (bs.map Value.bool).toArray)->(s₂.heap.IsListIter I' p 0/\s₂.heap.IsList p (bs.map Value.bool).toArray) ->
   (∀ h' tk,(∀ b o,b∉[I']->s₂.heap.get? b=some o->h'.get? b=some o)->Inv X pins σ H { s₂ with heap:=h',toks:=tk })->R (.ref I') s₂):wpAny (model X.prog X.w) A (pyIter (.ref p)) R E s:=by
 obtain ⟨vs,sq,rr⟩:=ab.seq e;obtain ⟨its,rv,pl,hz⟩:=I.list sq;have eits:=mD rr rv;subst eits;have hl:=pl.isList;refine wpAny_pyIter_list hl ?_
 have hne:p≠s.heap.objs.size:=by
  obtain ⟨o,ho,_⟩:=hl;exact Nat.ne_of_lt (Heap.lt_size ho)
 have W:=Walks.list (prog:=X.prog) (w:=X.w) hh s.heap.objs.size p hne (bs.map Value.bool).toArray;have hn:(bs.map Value.bool).toArray.size=bs.length:=by simp
 rw [hn] at W;refine h _ _ W ⟨⟨_,Heap.get?_push_size _ rfl,rfl,rfl⟩,hl.push _⟩ fun h' tk k=>I.kept fun b o e=>k b o (fun hm=>?_) (Heap.get?_push_of_some _ e);rw [List.mem_singleton] at hm;exact Nat.ne_of_lt (Heap.lt_size e) hm
theorem zdq {P:Program} {w:World} {A:Around} {bs:List Bool}:TruthOf P w A (fun i v=>(bs.map Value.bool).toArray[i]?=some v) (fun i=>(bs[i]?).getD false):=by
 intro i v s Q E h q;have h':(bs[i]?).map Value.bool=some v:=by simpa using h
 cases e:bs[i]? with
 |none=>rw [e] at h';cases h'
 |some b =>
  rw [e] at h';cases h';have q':Q ((bs[i]?).getD false) s:=q;rw [e] at q';exact wpAny_truthy_bool q'
theorem zjh {X:Cx} (hc:X.calm=true):wJ X (.builtin "all") (vG X.K (allS (·.all id))):=by
 intro pins s σ H xs us Q I r h;obtain ⟨ws,G,rs,ab,h⟩:=h;unfold allS at h
 split at h
 .rename_i p;obtain ⟨v,rfl,rv⟩:=jQ rs;cases (show v=.ref p from rv);obtain ⟨bs,e,h⟩:=h;obtain ⟨u,rfl,ru⟩:=jR r;cases ru;refine call_all_walk (zeG hc I ab e (A:=X.A.in1) (I.ok.hd hc) fun I' s₂ W st k=>⟨I',_,_,_,_,_,_,rfl,W,st,zdq,fun h' tk hk=>?_⟩);rw [zdj];exact ⟨.bl (bs.all id),H,k h' tk hk,rfl,h _ H .refl rfl ab⟩
 .exact h.elim
def tyO (G:Hw):W->Option String
 | .non=>some "NoneType"
 | .bl _=>some "bool"
 | .int _=>some "int"
 | .str _=>some "str"
 | .tup _=>some "tuple"
 | .ref p=>match G p with
  |some (.lst _)=>some "list"
  |some (.fix _)=>some "list"
  |some (.dic _)=>some "dict"
  |_=>none
 |_=>none
def gY:MS:=fun x ws G Q=>match x,ws with
 | .ref p,[]=>(match G p with
  |some (.lst xs)=>(match xs[xs.length-1]? with|some y=>Q y (put G p (.lst xs.dropLast))|none=>False)
  |_=>False)
 |_,_=>False
theorem fS:∀ x ws G (Q Q':Q3),(∀ w G',Q w G'->Q' w G')->gY x ws G Q->gY x ws G Q':=by
 intro x ws G Q Q' k h;unfold gY at h ⊢
 split at h
 .split at h
  .split at h
   .exact k _ _ h
   .exact h.elim
  .exact h.elim
 .exact h.elim
theorem zhP {X:Cx}:MtR X "list.pop" (lowM X.K gY):=by
 intro pins s σ H x xs v us Q I rx rxs h;obtain ⟨w,ws,G,rw1,rs,ab,h⟩:=h;unfold gY at h
 split at h
 .rename_i p;cases (show x=.ref p from rw1);cases (show xs=[] from rs)
  split at h
  .rename_i ys e
   split at h
   .rename_i y ey;obtain ⟨vs,ev,rr⟩:=ab.lst e;obtain ⟨vy,evy,ry⟩:=rr.get ey;have gr:yJ X.K H (xK H p (.lst vs.dropLast)):=ab.grow e;exact zif pins s σ H _ _ v us Q I rx rxs ⟨p,vs,vy,rfl,rfl,ev,by rw [rr.length];exact evy,h vy _ gr (ry.mono gr) (ab.chg e ⟨_,rfl,rr.dropLast.mono gr⟩)⟩
   .exact h.elim
  .exact h.elim
 .exact h.elim
def pQ:MS:=fun x ws G Q=>match x,ws with
 | .ref p,[y]=>(match G p with
  |some (.lst xs)=>xs.length<sizeLine/\Q .non (put G p (.lst (xs++[y])))
  |_=>False)
 |_,_=>False
theorem uP:∀ x ws G (Q Q':Q3),(∀ w G',Q w G'->Q' w G')->pQ x ws G Q->pQ x ws G Q':=by
 intro x ws G Q Q' k h;unfold pQ at h ⊢
 split at h
 .split at h
  .exact ⟨h.1,k _ _ h.2⟩
  .exact h.elim
 .exact h.elim
theorem zje {X:Cx}:MtR X "list.append" (lowM X.K pQ):=by
 intro pins s σ H x xs v us Q I rx rxs h;obtain ⟨w,ws,G,rw1,rs,ab,h⟩:=h;unfold pQ at h
 split at h
 .rename_i p y;cases (show x=.ref p from rw1);obtain ⟨vy,rfl,ry⟩:=jQ rs
  split at h
  .rename_i ys e;obtain ⟨vs,ev,rr⟩:=ab.lst e;have gr:yJ X.K H (xK H p (.lst (vs++[vy]))):=ab.grow e;exact zcr pins s σ H _ _ v us Q I rx rxs ⟨p,vs,vy,rfl,rfl,ev,by rw [rr.length];exact h.1,h.2 .non _ gr (show wQ X.K _ .non .non from rfl) (ab.chg e ⟨_,rfl,(rr.append (show zF X.K H [y] [vy] from ⟨vy,[],rfl,ry,rfl⟩)).mono gr⟩)⟩
  .exact h.elim
 .exact h.elim
theorem ziJ {K:yN} {H1:Hp} {n:Nat}:ItIs K (Itr 0 n) H1 ((List.range n).map fun i=>W.int (i:Nat)) (fun _=>True) where
 go:=fun i H G _ ab st hi=>by show i<n;simpa using hi
 yld:=fun i H G x H' _ ab st hi y=>by
  obtain ⟨rfl,rfl⟩:=y;have hi':i<n:=by simpa using hi
  refine ⟨.int (i:Nat),by simp [hi'],.refl,?_,ab⟩;show V.int (0+(i:Int))=V.int (i:Int);rw [Int.zero_add]
 stop:=fun i H G _ ab st hi=>by show n<=i;simpa using hi
def ItE (p:Par) (i:It3):Prop:=∀ X,Fits p X->Gl X i.nm->∀ (tg:Expr) (args:List Expr) (t:A3) (q pos:Pos),vW t->args.all xB=true->PA X args (sV X.K t)->(args=[]->∀ σ G Q,t σ G Q->Q [] G)->(i.nm==("__debug__" : Str))=false->i.nm ≠ "__name__" ->
  PI X tg (.Call (.Name i.nm q) args [] pos) (lowI X.K fun σ G R=>t σ G fun ws G1=>i.sp ws G1 R)
def lofM (nm:Str):Scope->Expr->Option (List Expr):=fun sc e=>match e with
 | .Call (.Name o _) [.Call (.Name x _) xs [] _] [] _=>if o==("list" : Str)&&x==nm&&vC sc o&&vC sc x&&!xs.isEmpty then some xs else none
 |_=>none
theorem zd6 {nm:Str} {sc:Scope} {e:Expr} {xs:List Expr} (h:lofM nm sc e=some xs):∃ qo q pos pos' a r,xs=a::r/\e=.Call (.Name "list" qo) [.Call (.Name nm q) (a::r) [] pos] [] pos'/\vC sc "list" = true/\vC sc nm=true:=by
 have no:¬ ((none:Option (List Expr))=some xs):=fun e=>nomatch e
 cases e with
 |Call f args kws pos' =>
  cases f with
  |Name o qo =>
   cases args with
   |nil=>exact absurd h no
   |cons c rest =>
    cases c with
    |Call g ys kw2 pos =>
     cases g with
     |Name x q =>
      cases kw2 with
      |nil =>
       cases rest with
       |nil =>
        cases kws with
        |nil =>
         replace h:(if (o==("list" : Str)&&x==nm&&vC sc o&&vC sc x&&!ys.isEmpty)=true then some ys else none)=some xs:=h
         by_cases hb:(o==("list" : Str)&&x==nm&&vC sc o&&vC sc x&&!ys.isEmpty)=true
         .rw [if_pos hb] at h;cases h;simp only [Bool.and_eq_true,beq_iff_eq,Bool.not_eq_true',List.isEmpty_eq_false_iff] at hb;obtain ⟨⟨⟨⟨rfl,rfl⟩,h1⟩,h2⟩,h3⟩:=hb
          cases xs with
          |nil=>exact absurd rfl h3
          |cons a r=>exact ⟨qo,q,pos,pos',a,r,rfl,rfl,h1,h2⟩
         .rw [if_neg hb] at h;exact absurd h no
        |cons _ _=>exact absurd h no
       |cons _ _=>exact absurd h no
      |cons _ _=>exact absurd h no
     |_=>exact absurd h no
    |_=>exact absurd h no
  |_=>exact absurd h no
 |_=>exact absurd h no
def SxE (p:Par) (k:Sx3):Prop:=∀ X,Fits p X->∀ (e:Expr) (xs:List Expr) (es:List E3),k.m X.env.scope e=some xs->dI X xs es->xs.all xB=true->PA X xs (sV X.K (hJ es)) ->
  PE X e (yA X.K fun σ G Q=>hJ es σ G fun ws G1=>k.sp ws G1 Q)/\(∀ whole,isTrue e X.env whole=(do let v ← whole;standAt e.pos;holding [v] (truthy v)))/\∀ op vs pos,e≠.BoolOp op vs pos
theorem rR {X:Cx}:∀ {xs:List Expr} {es:List E3},dI X xs es->vW (hJ es)
 | [],[],_=>fun σ G Q Q' k h=>k _ _ h
 |_::_,_::_,⟨m,_,r⟩=>fun σ G Q Q' k h=>m σ G _ _ (fun x G1 h=>rR r σ G1 _ _ (fun xs G2 h=>k _ _ h) h) h
theorem zhp {q:Pr} {A:Around} {nm:Str} {T:String} {sp:RS} (hl:q.mg "list" = none) (hm:q.mg nm=none) (hv:bootBuiltins nm=some (.type T)) (mono:wP sp)
  (hc:∀ X,Fits (q.at A) X->∀ (pins:List (Addr×Obj)) (s:Shared) (σ:L2.St) (H:Hp) (vs:List V) (us:List Value) (Q:VK),Inv X pins σ H s->zD vs us->vG X.K sp vs H Q ->
   wpAny (model X.prog X.w) X.A (call (.type T) us) (fun v s1=>wpAny (model X.prog X.w) X.A (call (.type "list") [v]) (EP X pins σ Q) X.xe s1) X.xe s):SxE (q.at A) ⟨lofM nm,sp⟩:=by
 intro X fits e xs es he each hn pa;obtain ⟨qo,qq,pos,pos',a,r,rfl,rfl,g1,g2⟩:=zd6 he;obtain ⟨gl1,d1,n1⟩:=mM rfl g1;obtain ⟨gl2,d2,n2⟩:=mM rfl g2;have hl':X.mg "list" = none:=by rw [fits.mg];exact hl
 have hm':X.mg nm=none:=by rw [fits.mg];exact hm
 refine ⟨fun pins s σ H Q I h=>?_,fun _=>rfl,fun _ _ _ z=>nomatch z⟩;obtain ⟨s1,s2⟩:=xM (env:=X.env) (pos:=pos) hn;have h':=pJ (rR each) mono h;refine wpAny_Call_Name_kw (qF I gl1 hl' boot_list ?_ n1 d1);refine PyProof.Rows.callWith_type1 (e:=.Call (.Name nm qq) (a::r) [] pos) (rest:=[]) ?_ rfl rfl;show wpAny _ _ (spliced ((false,eval (.Call (.Name nm qq) (a::r) [] pos) X.env)::backTo pos' (starEach [] X.env))) _ _ s;refine Calls.spliced_cons (wpAny_Call_Name_kw (qF I gl2 hm' hv (PyProof.Rows.callWith_type1 (yF (pa pos pins s σ H _ I h') fun us s1 ⟨vs,H1,I1,r1,q1⟩=>?_) s1 s2) n2 d2));exact yF (hc X fits pins s1 σ H1 vs us Q I1 r1 q1) fun v s2 z=>Calls.spliced_nil z
theorem zbm (n:Nat):[n+4,n+2,n+3,n,n+1].Nodup:=by
 simp
theorem zaS (n a:Nat) (h:a<n):a∉[n+4,n+2,n+3,n,n+1]:=by
 simp only [List.mem_cons,List.not_mem_nil,or_false,not_or];omega
theorem zcU (n b:Nat) (h:b∈[n+4,n+2,n+3,n,n+1]):n<=b:=by
 simp only [List.mem_cons,List.not_mem_nil,or_false] at h;omega
def Itv (K:yN) (a:Addr) (n:Nat):It where
 go:=fun i H=>∃ xs,rP K H a xs/\xs.length=n/\i<n
 yld:=fun i H v H'=>H'=H/\∀ xs,rP K H a xs->xs.length=n->xs[n-1-i]?=some v
 stop:=fun i H=>i=n
theorem zbh:typeLookup (.type "list_reverseiterator") "__len__" = pure none:=by rw [typeLookup_type,builtinLookup_eq_fast];kernel_rfl
theorem zd5:typeLookup (.type "list_reverseiterator") "__length_hint__" = pure (some (.builtin "list_reverseiterator.__length_hint__")):=by rw [typeLookup_type,builtinLookup_eq_fast];kernel_rfl
theorem zfE {P:Program} {w:World} {A:Around} {it a:Addr} {i:Int} {s:Shared} {Q:Bool->Shared->Prop} {E:Value->Shared->Prop} (st:s.heap.IsRevIter it a i) (h:∀ b,Q b s):wpAny (model P w) A (Builtin.List.listLengthHint (.ref it)) Q E s:=by
 have hT:=st.typeIs;unfold Builtin.List.listLengthHint;refine wpAny_bind (wpAny_specialOf hT zbh ?_);show wpAny _ _ (specialOf (Value.ref it) (Str.ofString "__length_hint__") >>= _) _ _ _;refine wpAny_bind (wpAny_specialOf hT zd5 ?_)
 (generalize hid:("list_reverseiterator.__length_hint__" : String)=id0;(fail_if_success (clear hid id0));wp_delta;rw [show splitId id0=some ("list_reverseiterator", "__length_hint__") from by subst hid;decide +kernel];subst hid)
 refine wpAny_bind (wpAny_isInstance (b:=true) hT (by rw [isSubtype_type];kernel_rfl) ?_);exact wpAny_pure (h _)
theorem zdG (P:Program) (w:World) (K:yN) {it a:Addr} {n:Nat} (hne:a≠it):TurnL P w K "list_reverseiterator" (Itv K a n) [it] it (fun i h=>i<=n/\h.IsRevIter it a ((n:Int)-1-i)) where
 mem:=by simp
 ty:=fun i h ⟨_,o,ho,hc,_⟩=>⟨o,ho,hc⟩
 obj:=fun i h ⟨_,o,ho,hc,hd⟩ b hb=>by
  rw [List.mem_singleton] at hb;subst hb;exact ⟨o,ho,fun v z=>by rw [hd] at z;cases z⟩
 keep:=fun i h h' ⟨hi,x⟩ k=>⟨hi,x.at fun o e=>k it (by simp) o e⟩
 item:=by
  intro X e1 e2 e3 hc i pins s σ H E I hf st go;subst e1;subst e2;subst e3;obtain ⟨hi,st⟩:=st;obtain ⟨xs,sq,ln,hlt⟩:=go;obtain ⟨its,rv,pl,hz⟩:=I.list sq;have hlx:n-1-i<xs.length:=by omega
  obtain ⟨u,eu,ru⟩:=rv.get (List.getElem?_eq_getElem hlx);have e:(n:Int)-1-(i:Int)=((n-1-i:Nat):Int):=by omega
  rw [e] at st;refine wpAny_pyNext_rev_item st pl.isList (x:=u) (by simpa using eu) fun h' st' sb=>?_;have e':((n-1-i:Nat):Int)-1=(n:Int)-1-((i+1:Nat):Int):=by omega
  rw [e'] at st';obtain ⟨f1,f2,f3,f4,f5,f6⟩:=hf it (by simp);refine ⟨u,xs[n-1-i],H,rfl,I.turned (t':=s.toks) (fun b o hb e=>sb.extBut b o hb e) f1 f2 f4 f5 f6,ru,⟨rfl,fun ys sq' _=>by rw [I.list_inj sq' sq];exact List.getElem?_eq_getElem hlx⟩,⟨hlt,st'⟩,fun b hb=>(hf b hb).1⟩
 done:=by
  intro X e1 e2 e3 hc i pins s σ H E I hf st stop;subst e1;subst e2;subst e3;obtain ⟨hi,st⟩:=st;have hin:i=n:=stop;subst hin;have e:(i:Int)-1-(i:Int)=-1:=by omega
  rw [e] at st;obtain ⟨f1,f2,f3,f4,f5,f6⟩:=hf it (by simp);exact wpAny_pyNext_rev_end (I.ok.hd hc) st fun h' k=>⟨rfl,I.turned (t':=s.toks) (fun b o hb e=>k b o hb e) f1 f2 f4 f5 f6⟩
 self:=fun A i s Q E st h=>wpAny_pyIter_revIter st.2 h
 hint:=fun A i s Q E st h=>zfE st.2 h
def revS:RS:=fun ws G Q=>match ws with
 | [.ref p]=>∃ xs,yQ G p=some xs/\∀ r,G r=none->Q (.ref r) (put G r (.lst xs.reverse))
 |_=>False
theorem fW:wP revS:=by
 intro ws G Q Q' k h;unfold revS at h ⊢
 split at h
 .obtain ⟨xs,e1,h⟩:=h;exact ⟨xs,e1,fun p hp=>k _ _ (h p hp)⟩
 .exact h.elim
theorem zhB {X:Cx} (hc:X.calm=true) (pins:List (Addr×Obj)) (s:Shared) (σ:L2.St) (H:Hp) (vs:List V) (us:List Value) (Q:VK) (I:Inv X pins σ H s) (r:zD vs us) (h:vG X.K revS vs H Q) :
  wpAny (model X.prog X.w) X.A (call (.type "reversed") us) (fun v s1=>wpAny (model X.prog X.w) X.A (call (.type "list") [v]) (EP X pins σ Q) X.xe s1) X.xe s:=by
 obtain ⟨ws,G,rs,ab,h⟩:=h;unfold revS at h
 split at h
 .rename_i p;obtain ⟨v,rfl,rv⟩:=jQ rs;cases (show v=.ref p from rv);obtain ⟨u,rfl,ru⟩:=jR r;cases (show u=Value.ref p from ru);obtain ⟨xs,e,h⟩:=h;obtain ⟨vs,sq,rr⟩:=ab.seq e;obtain ⟨its,vv,pl,hz⟩:=I.list sq;have hl:=pl.isList
  have hlt:p<s.heap.objs.size:=by
   obtain ⟨o,ho,_⟩:=hl;exact Heap.lt_size ho
  refine call_reversed_list hl ?_;have I1:Inv X pins σ H { s with heap:=s.heap.push (revObj p ((its.toArray.size:Int)-1)),toks:=s.toks }:=I.kept fun b u e=>Heap.get?_push_of_some _ e;have en:its.toArray.size=vs.length:=by rw [zzS,← vv.length]
  refine zcx hc (by decide) (by decide) I1 (zdG X.prog X.w X.K (n:=vs.length) (Nat.ne_of_lt hlt)) ⟨Nat.zero_le _,?_⟩ (fun b hb=>?_) vs.length hz
   (fun i acc H'=>H'=H/\acc=vs.reverse.take i) ⟨rfl,by simp⟩ ?_ ?_
  .refine ⟨_,Heap.get?_push_size _ rfl,rfl,?_⟩;show Data.fields #[.ref p,rawInt ((its.toArray.size:Int)-1)]=_;rw [en];simp
  .rw [List.mem_singleton] at hb;subst hb;exact I.fpOk (zzR _) (I.hok.fresh (zzR _))
  .rintro i acc H' hi ⟨rfl,rfl⟩;refine ⟨⟨vs,sq,rfl,hi⟩,?_⟩;rintro v H2 ⟨rfl,e2⟩;refine ⟨rfl,?_⟩;have e2:=e2 vs sq rfl;have hl':i<vs.reverse.length:=by simpa using hi
   rw [List.take_succ_eq_append_getElem hl'];congr 2;have:vs.reverse[i]?=some v:=by rw [List.getElem?_reverse hi];exact e2
   exact (Option.some.inj ((List.getElem?_eq_getElem hl').symm.trans this)).symm
  .rintro acc H' ⟨rfl,rfl⟩;refine ⟨rfl,?_⟩;rw [List.take_of_length_le (by simp)];exact jL ab rr.reverse h
 .exact h.elim
end L3
namespace L3
open PySem PySem.Spec PyProof.Rows L2
def zX (S:List Addr) (G G':Hw):Prop:=∀ a o,a∉S->G a=some o->G' a=some o
theorem zX.refl {S:List Addr} {G:Hw}:zX S G G:=fun _ _ _ h=>h
theorem zX.trans {S:List Addr} {G G1 G2:Hw} (a:zX S G G1) (b:zX S G1 G2):zX S G G2:=fun x o hx h=>b x o hx (a x o hx h)
theorem zX.put {S:List Addr} {G:Hw} {p:Addr} {o:O} (h:p∈S):zX S G (put G p o):=fun x u hx hu=>by
 rw [yU (fun e:x=p=>hx (e▸h))];exact hu
theorem zX.new {S:List Addr} {G:Hw} {p:Addr} {o:O} (h:G p=none):zX S G (L3.put G p o):=fun x u hx hu=>by
 rw [yU (rB hu h)];exact hu
theorem zX.none {S:List Addr} {G G':Hw} {p:Addr} (k:zX S G G') (hp:p∉S) (h:G' p=Option.none):G p=Option.none:=by
 cases e:G p with
 |none=>rfl
 |some o=>rw [k p o hp e] at h;cases h
theorem zX.mono {S S':List Addr} {G G':Hw} (k:zX S G G') (h:∀ a∈S,a∈S'):zX S' G G':=fun x o hx hu=>k x o (fun z=>hx (h x z)) hu
abbrev kS:yO:=.inr "seed"
abbrev kN:yO:=.inr "number"
abbrev kL:yO:=.inr "left"
def zi9 (seed num:Int) (l:Addr):O:=.dic [(kS,.int seed),(kN,.int num),(kL,.ref l)]
structure DealS (G:Hw) (d l:Addr) (seed num:Int) (left:List Int):Prop where
 dic:G d=some (zi9 seed num l)
 lst:G l=some (.lst (left.map .int))
 s0:0<=seed
 s1:seed<2147483647
 n0:0<=num
 lf:∀ x∈left,(0:Int)<=x
 len:left.length<=63
 ne:d≠l
def yC (G:Hw) (d l:Addr):Prop:=∃ seed num left,DealS G d l seed num left
theorem dgS {a b c:W}:qE [(kS,a),(kN,b),(kL,c)] kS=some a:=by rfl
theorem dgN {a b c:W}:qE [(kS,a),(kN,b),(kL,c)] kN=some b:=by
 have e1:¬ (kS=kN):=by decide +kernel
 unfold qE;rw [List.find?_cons_of_neg (by simp [e1]),List.find?_cons_of_pos (by simp)];rfl
theorem dgL {a b c:W}:qE [(kS,a),(kN,b),(kL,c)] kL=some c:=by
 have e1:¬ (kS=kL):=by decide +kernel
 have e2:¬ (kN=kL):=by decide +kernel
 unfold qE;rw [List.find?_cons_of_neg (by simp [e1]),List.find?_cons_of_neg (by simp [e2]),List.find?_cons_of_pos (by simp)];rfl
theorem dpN {a b c x:W}:jG [(kS,a),(kN,b),(kL,c)] kN x=[(kS,a),(kN,x),(kL,c)]:=by
 unfold jG;have e1:¬ (kS=kN):=by decide +kernel
 have e2:¬ (kL=kN):=by decide +kernel
 simp [e1,e2]
theorem dpS {a b c x:W}:jG [(kS,a),(kN,b),(kL,c)] kS x=[(kS,x),(kN,b),(kL,c)]:=by
 unfold jG;have e1:¬ (kN=kS):=by decide +kernel
 have e2:¬ (kL=kS):=by decide +kernel
 simp [e1,e2]
def zjc:ISs:=(.cons (.whl (.and (.cmp .Eq (.ix (.var 0) (.con (.str "number"))) (.con (.int 0))) (.cmp .Gt (.call 1 (.cons (.ix (.var 0) (.con (.str "left"))) .nil)) (.con (.int 0)))) (.cons (.asgI (.var 0) (.con (.str "number")) (.mth 0 (.ix (.var 0) (.con (.str "left"))) .nil))
 .nil))
 (.cons (.asg 2 (.ix (.var 0) (.con (.str "number"))))
 (.cons (.ite (.cmp .Gt (.var 2) (.con (.int 0))) (.cons (.asgI (.var 0) (.con (.str "number")) (.bin .FloorDiv (.var 2) (.var 1)))
 (.cons (.ret (.bin .Mod (.var 2) (.var 1)))
 .nil)) .nil)
 (.cons (.asg 3 (.bin .Mod (.bin .Add (.bin .Mult (.ix (.var 0) (.con (.str "seed"))) (.con (.int 48271))) (.con (.int 7919))) (.con (.int 2147483647))))
 (.cons (.asgI (.var 0) (.con (.str "seed")) (.bin .Mod (.bin .Add (.bin .Mult (.var 3) (.con (.int 40692))) (.con (.int 104729))) (.con (.int 2147483399))))
 (.cons (.asg 4 (.bin .Mod (.bin .Mult (.ix (.var 0) (.con (.str "seed"))) (.ix (.var 0) (.con (.str "seed")))) (.con (.int 2147483563))))
 (.cons (.ret (.bin .Mod (.bin .Add (.bin .Mult (.bin .Mod (.bin .Mult (.var 3) (.var 3)) (.con (.int 2147483629))) (.con (.int 2147483563))) (.var 4)) (.var 1)))
 .nil)))))))
abbrev mL:Fn3:=⟨"len", fun ws G Q _=>uM ws G Q⟩
abbrev ePop:Mt3:=⟨"pop", "list", gY⟩
theorem DealS.put {G:Hw} {d l:Addr} {seed num:Int} {left:List Int} (D:DealS G d l seed num left) {seed' num':Int} (h1:0<=seed') (h2:seed' < 2147483647) (h3:0<=num'):DealS (put G d (zi9 seed' num' l)) d l seed' num' left :=
 ⟨zY,by rw [yU D.ne.symm];exact D.lst,h1,h2,h3,D.lf,D.len,D.ne⟩
theorem zbp {i j:Int}:kQ (.int i) (.int j)=decide (i=j):=by
 simp [kQ,Bool.beq_eq_decide_eq]
theorem jU {G:Hw} {i j:Int}:eqG G (.int i) (.int j)=some (decide (i=j)):=by
 simp [eqG,uJ,dep,zbp]
theorem zd4 {left:List Int}:(left.map W.int)[left.length-1]?=(left[left.length-1]?).map W.int:=by simp
theorem modb {a m:Int} (h:0<m):0<=a % m/\a % m<m:=⟨Int.emod_nonneg _ (by omega),Int.emod_lt_of_pos _ h⟩
theorem dY {d l:Addr} {m:Int} {G G1:Hw} {Q:Q3} {seed num:Int} {left:List Int} (D:DealS G1 d l seed num left) (kp:zX [d,l] G G1) (hm:0<m/\m<1073741824) (few:∀ {a b c:W},[(kS,a),(kN,b),(kL,c)].length<sizeLine)
  (hq:∀ r G',0<=r->r<m->zX [d,l] G G'->yC G' d l->Q (.int r) G'):if decide (0<num)=true then
   CDiv num m/\[(kS,W.int seed),(kN,W.int num),(kL,W.ref l)].length<sizeLine/\0<m/\Q (W.int (num % m)) (put G1 d (O.dic [(kS,W.int seed),(kN,W.int (num / m)),(kL,W.ref l)]))
  else
   bH seed 48271/\(0:Int)<2147483647/\bH ((seed * 48271+7919) % 2147483647) 40692/\(0:Int)<2147483399/\[(kS,W.int seed),(kN,W.int num),(kL,W.ref l)].length<sizeLine /\
   bH (((seed * 48271+7919) % 2147483647 * 40692+104729) % 2147483399) (((seed * 48271+7919) % 2147483647 * 40692+104729) % 2147483399)/\(0:Int)<2147483563 /\
   bH ((seed * 48271+7919) % 2147483647) ((seed * 48271+7919) % 2147483647)/\(0:Int)<2147483629 /\
   bH ((seed * 48271+7919) % 2147483647 * ((seed * 48271+7919) % 2147483647) % 2147483629) 2147483563/\0<m /\
   Q (W.int (((seed * 48271+7919) % 2147483647 * ((seed * 48271+7919) % 2147483647) % 2147483629 * 2147483563+((seed * 48271+7919) % 2147483647 * 40692+104729) % 2147483399 * (((seed * 48271+7919) % 2147483647 * 40692+104729) % 2147483399) % 2147483563) % m))
    (put G1 d (O.dic [(kS,W.int (((seed * 48271+7919) % 2147483647 * 40692+104729) % 2147483399)),(kN,W.int num),(kL,W.ref l)])):=by
 split
 .exact ⟨hm,few,hm.1,hq _ _ (modb hm.1).1 (modb hm.1).2 (kp.trans (zX.put (by simp))) ⟨seed,num / m,left,D.put D.s0 D.s1 (Int.ediv_nonneg D.n0 (by omega))⟩⟩
 .have b1:=modb (a:=seed * 48271+7919) (m:=2147483647) (by decide);generalize (seed * 48271+7919) % 2147483647=x at b1 ⊢;have b2:=modb (a:=x * 40692+104729) (m:=2147483399) (by decide);generalize (x * 40692+104729) % 2147483399=y at b2 ⊢;refine ⟨.inr ⟨by decide,by decide⟩,by decide,.inr ⟨by decide,by decide⟩,by decide,few,.inl ⟨by omega,by omega⟩,by decide,.inl ⟨by omega,by omega⟩,by decide,.inr ⟨by decide,by decide⟩,hm.1,?_⟩;exact hq _ _ (modb hm.1).1 (modb hm.1).2 (kp.trans (zX.put (by simp))) ⟨y,num,left,D.put b2.1 (by omega) D.n0⟩
theorem zeA {Γ:Ctx3} (h1:Γ.fn[1]?=some mL) (h2:Γ.mt[0]?=some ePop) {d l:Addr} {m:Int} {G:Hw} {Q:Q3} {nx:jH->Hw->Prop} (D:yC G d l) (hm:0<m/\m<1073741824)
  (hq:∀ r G',0<=r->r<m->zX [d,l] G G'->yC G' d l->Q (.int r) G'):zE Γ XN zjc { nx:=nx,rt:=Q } [some (.ref d),some (.int m),none,none,none] G:=by
 obtain ⟨seed,num,left,D⟩:=D;dsimp only [zjc,zE,zS,zQ,zM,zI,zB,yX,yW,zO,zT,zJ,List.getElem?_cons_zero,List.getElem?_cons_succ,List.set_cons_zero,List.set_cons_succ];simp only [h1,h2];refine ⟨fun k σ G'=>σ=[some (.ref d),some (.int m),none,none,none]/\zX [d,l] G G'/\∃ num left,k=left.length/\DealS G' d l seed num left,⟨_,rfl,.refl,num,left,rfl,D⟩,?_⟩;rintro k σ G1 ⟨rfl,kp,num,left,rfl,D⟩;have hd:G1 d=some (.dic [(kS,.int seed),(kN,.int num),(kL,.ref l)]):=D.dic;have hl:G1 l=some (.lst (left.map .int)):=D.lst;have hds:∀ o,(put G1 d o) d=some o:=fun o=>zY;have hdl:∀ o,(put G1 l o) d=some (.dic [(kS,.int seed),(kN,.int num),(kL,.ref l)]):=fun o=>by rw [yU D.ne];exact hd
 have few:∀ {a b c:W},[(kS,a),(kN,b),(kL,c)].length<sizeLine:=by intros;show 3<sizeLine;rw [sizeLine_eq];decide
 simp only [List.getElem?_cons_zero,List.getElem?_cons_succ,List.set_cons_zero,List.set_cons_succ,qM,hd,jE,dgN,dgL,dgS,yT,jU,yY,uM,vE,hl,zzM,tyW,gY,pU,zd4,sH,hdl,hds,dpN,dpS,jZ]
 by_cases hn:num=0
 .simp only [decide_eq_true hn,if_true]
  by_cases hlen:(0:Int)<(left.length:Int)
  .simp only [decide_eq_true hlen,if_true];have hlast:left.length-1<left.length:=by omega
   rw [List.getElem?_eq_getElem hlast];simp only [Option.map_some];refine ⟨trivial,few,left.dropLast.length,by rw [List.length_dropLast];omega,trivial,?_,left[left.length-1],left.dropLast,rfl,?_⟩
   .exact (kp.trans (zX.put (by simp))).trans (zX.put (by simp))
   .refine ⟨zY,?_,D.s0,D.s1,D.lf _ (List.getElem_mem hlast),fun x hx=>D.lf x (List.dropLast_subset _ hx),by have:=D.len;rw [List.length_dropLast];omega,D.ne⟩;rw [yU D.ne.symm,zY,List.map_dropLast]
  .simp only [decide_eq_false hlen,zzB,if_false];exact dY D kp hm few hq
 .simp only [decide_eq_false hn,zzB,if_false];exact dY D kp hm few hq
theorem zcy {items:List W} {stab:Hw->Prop} {G1:Hw} {turn:W->Hw->(Option W->Hw->Prop)->Prop} {Q:Q3} (f:W->Option W) (hs:stab G1) (hl:items.length<=sizeLine) (ht:∀ w∈items,∀ K:Option W->Hw->Prop,K (f w) G1->turn w G1 K)
  (hq:∀ p,G1 p=none->Q (.ref p) (put G1 p (.lst (items.filterMap f)))):lcR items stab G1 turn Q:=by
 refine ⟨fun i acc G=>G=G1/\acc=(items.take i).filterMap f,⟨rfl,by simp⟩,?_,hl,?_,?_⟩
 .rintro i acc G ⟨rfl,rfl⟩ hi;refine ⟨hs,Nat.le_trans (List.length_filterMap_le _ _) ?_⟩;rw [List.length_take];omega
 .rintro i w acc G hi ⟨rfl,rfl⟩;have hlt:i<items.length:=(List.getElem?_eq_some_iff.mp hi).1;have hw:items[i]=w:=(List.getElem?_eq_some_iff.mp hi).2;refine ht w (List.mem_of_getElem? hi) _ ?_;have et:items.take (i+1)=items.take i++[w]:=by rw [List.take_succ_eq_append_getElem hlt,hw]
  cases e:f w with
  |some x=>exact ⟨rfl,by rw [et,List.filterMap_append];simp [e]⟩
  |none=>exact ⟨rfl,by rw [et,List.filterMap_append];simp [e]⟩
 .rintro acc G ⟨rfl,rfl⟩ p hp;rw [List.take_length];exact hq p hp
theorem zc5 {α β:Type} (f:α->β) (xs:List α) (lo hi:Option Int):pG (xs.map f) lo hi=(pG xs lo hi).map f:=by
 unfold pG;rw [zzM,List.map_take,List.map_drop]
theorem zg0 {α:Type} (xs:List α) (lo hi:Option Int):(pG xs lo hi).length<=xs.length:=by
 unfold pG;rw [List.length_take,List.length_drop];omega
def zjd:ISs:=(.cons (.asg 2 (.lc (.nm 0) ["_law_cell"] [] (.val (.sl (.var 0) (.yes (.var 1)) (.yes (.con (.int 63))))) .no (.call 0 (.cons (.var 0) (.cons (.bin .Sub (.con (.int 0)) (.var 0)) .nil)))))
 (.cons (.asg 3 (.bin .Add (.con (.int 7919)) (.var 1)))
 (.cons (.for (.nm 4) (.val (.var 2)) (.cons (.asg 3 (.bin .Mod (.bin .Add (.bin .Mult (.var 3) (.con (.int 69621))) (.bin .Mod (.var 4) (.con (.int 2147483629)))) (.con (.int 2147483647))))
 .nil))
 (.cons (.ret (.dct ["seed", "number", "left"] (.cons (.var 3) (.cons (.con (.int 0)) (.cons (.spc 0 (.cons (.lc (.nm 0) ["_law_cell"] [] (.val (.var 2)) (.yes (.cmp .GtE (.var 0) (.bin .Pow (.con (.int 10)) (.con (.int 18))))) (.var 0)) .nil)) .nil)))))
 .nil))))
abbrev eMax:Fn3:=⟨"max", fun ws G Q _=>maxS ws G Q⟩
abbrev eRev:Sx3:=⟨lofM "reversed", revS⟩
def pP (x:Int):Int:=if 0-x > x then 0-x else x
theorem zg9 (x:Int):0<=pP x:=by unfold pP;split<;>omega
theorem zW {G:Hw} {p:Addr} {ws:List W} (h:G p=some (.lst ws)):yQ G p=some ws:=by unfold yQ;rw [h]
theorem dct3 {a b c:W}:zgX ["seed", "number", "left"] [a,b,c]=[(kS,a),(kN,b),(kL,c)]:=by
 have e1:¬ (kS=kN):=by decide +kernel
 have e2:¬ (kS=kL):=by decide +kernel
 have e3:¬ (kN=kL):=by decide +kernel
 simp [zgX,jG,e1,e2,e3]
def dJ (G:Hw) (w:W) (ns:List Int):Prop:=(∃ a,w=.ref a/\yQ G a=some (ns.map .int))\/w=.lsf (ns.map .int)
theorem dJ.sl {G:Hw} {w:W} {ns:List Int} (h:dJ G w ns) {lo hi:Option Int} {Q:Q3} (hq:∀ r,G r=none->Q (.ref r) (put G r (.lst (pG (ns.map W.int) lo hi)))):gB w lo hi G Q:=by
 rcases h with ⟨a,rfl,e⟩|rfl
 .simp only [gB,e];exact hq
 .exact hq
theorem zeC {Γ:Ctx3} (h0:Γ.fn[0]?=some eMax) (h2:Γ.sx[0]?=some eRev) {a:W} {base:Int} {ns:List Int} {G:Hw} {Q:Q3} {nx:jH->Hw->Prop} (hs:dJ G a ns) (hl:ns.length<=63) (hb:0<=base/\base<=1000)
  (hq:∀ d l G',G d=none->G l=none->zX [] G G'->yC G' d l->Q (.ref d) G'):zE Γ XN zjd { nx:=nx,rt:=Q } [some a,some (.int base),none,none,none] G:=by
 dsimp only [zjd,zE,zS,zQ,zM,zI,zB,yX,yW,zO,zT,zR,zN,zP,zU,zJ,List.getElem?_cons_zero,List.getElem?_cons_succ,zL];simp only [h0,h2,wS];refine hs.sl fun p1 hp1=>?_;dsimp only;have hp1':yQ (put G p1 (.lst (pG (ns.map W.int) (some base) (some 63)))) p1=some (pG (ns.map W.int) (some base) (some 63)):=zW zY;rw [hp1'];rw [zc5];generalize ecs:pG ns (some base) (some 63)=cs;have hcl:cs.length<=63:=by rw [← ecs];exact Nat.le_trans (zg0 _ _ _) hl
 rw [zc5,ecs] at hp1';refine zcy (fun w=>match w with|.int x=>some (.int (pP x))|_=>none) hp1' (by rw [zzM,sizeLine_eq];omega) ?_ ?_
 .intro w hw K hK;obtain ⟨x,hx,rfl⟩:=zzP hw;simp only [jS,List.length_cons,List.length_nil,List.replicate,zzV,List.append_nil,List.set_cons_zero,List.getElem?_cons_zero,jZ,maxS,if_true];exact hK
 .intro p2 hp2
  have ef:(cs.map W.int).filterMap (fun w=>match w with|.int x=>some (.int (pP x))|_=>none)=(cs.map pP).map W.int:=by
   rw [List.filterMap_map,List.map_map,← List.filterMap_eq_map];rfl
  rw [ef];generalize eG:put (put G p1 (.lst (cs.map W.int))) p2 (.lst ((cs.map pP).map W.int))=G2;have kp2:zX [] G G2:=by rw [← eG];exact (zX.new hp1).trans (zX.new hp2)
  have g2:G2 p2=some (.lst ((cs.map pP).map W.int)):=by rw [← eG];exact zY
  simp only [List.getElem?_cons_zero,List.getElem?_cons_succ,List.set_cons_zero,List.set_cons_succ,jZ,zW g2];refine ⟨fun i σ G'=>G'=G2/\∃ (n:Int) (c:Option W),σ=[some a,some (.int base),some (.ref p2),some (.int n),c]/\0<=n/\n<2147483647,⟨rfl,7919+base,none,rfl,by omega,by omega⟩,?_,?_,?_⟩
  .rintro i σ G' ⟨rfl,_⟩ _;exact zW g2
  .rintro i w σ G' hi ⟨rfl,n,c,rfl,n0,n1⟩;have hw:=List.mem_of_getElem? hi;obtain ⟨x,hx,rfl⟩:=zzP hw;simp only [List.getElem?_cons_zero,List.getElem?_cons_succ,List.set_cons_zero,List.set_cons_succ,jZ];exact ⟨.inr ⟨by decide,by decide⟩,by decide,by decide,trivial,_,_,rfl,(modb (by decide)).1,(modb (by decide)).2⟩
  .rintro σ G' ⟨rfl,n,c,rfl,n0,n1⟩;intro d hd;simp only [List.getElem?_cons_zero,List.getElem?_cons_succ];have g3:(put G' d (.dic [])) p2=some (.lst ((cs.map pP).map W.int)):=by rw [yU (rB g2 hd)];exact g2
   simp only [zW g3];refine zcy (fun w=>match w with|.int x=>if (10:Int) ^ 18<=x then some (.int x) else none|_=>none) (zW g3) (by rw [zzM,zzM,sizeLine_eq];omega) ?_ ?_
   .intro w hw K hK;obtain ⟨x,hx,rfl⟩:=zzP hw;simp only [jS,List.length_cons,List.length_nil,List.replicate,zzV,List.append_nil,List.set_cons_zero,List.getElem?_cons_zero,jZ,yT,pU,yY];refine ⟨⟨by decide,by decide,by decide⟩,?_⟩;have e18:(10:Int) ^ (18:Int).toNat=10 ^ 18:=rfl;rw [e18]
    by_cases hx:(10:Int) ^ 18<=x
    .rw [decide_eq_true hx,if_pos rfl];simp only [if_pos hx] at hK;exact hK
    .rw [decide_eq_false hx,if_neg zzN];simp only [if_neg hx] at hK;exact hK
   .intro p3 hp3
    have ef:((cs.map pP).map W.int).filterMap (fun w=>match w with|.int x=>if (10:Int) ^ 18<=x then some (.int x) else none|_=>none)=((cs.map pP).filter fun x=>decide ((10:Int) ^ 18<=x)).map W.int:=by
     generalize cs.map pP=ys
     induction ys with
     |nil=>rfl
     |cons y ys ih =>
      rw [zzU,List.filterMap_cons,List.filter_cons]
      by_cases hy:(10:Int) ^ 18<=y
      .simp only [if_pos hy,decide_eq_true hy,if_true,zzU,ih]
      .simp only [if_neg hy,decide_eq_false hy,zzB,if_false,ih]
    rw [ef];generalize efl:(cs.map pP).filter (fun x=>decide ((10:Int) ^ 18<=x))=fl;have flen:fl.length<=63:=by rw [← efl];refine Nat.le_trans (List.length_filter_le _ _) ?_;rw [zzM];exact hcl
    have fnn:∀ x∈fl,(0:Int)<=x:=fun x hx=>by
     rw [← efl] at hx;obtain ⟨y,hy,rfl⟩:=zzP (List.mem_filter.mp hx).1;exact zg9 y
    refine ⟨fl.map W.int,zW zY,fun l hl'=>?_⟩
    have ned:d≠l:=fun e=>by
     subst e;rw [yU (rB zY hp3),zY] at hl';cases hl'
    have np3:d≠p3:=rB zY hp3;refine ⟨by rw [yU ned,yU np3,zY],rfl,?_⟩;rw [dct3];refine hq d l _ (kp2.none (by simp) hd) ?_ ?_ ⟨n,0,fl.reverse,zY,?_,n0,n1,by omega,fun x hx=>fnn x (List.mem_reverse.mp hx),by rw [List.length_reverse];exact flen,ned⟩
    .have k3:zX [] G (put (put G' d (.dic [])) p3 (.lst (fl.map W.int))):=(kp2.trans (zX.new hd)).trans (zX.new hp3);exact k3.none (by simp) hl'
    .intro x u hx hu;rw [yU (rB hu (kp2.none (by simp) hd))];exact ((((kp2.trans (zX.new hd)).trans (zX.new hp3)).trans (zX.new hl')) x u hx hu)
    .rw [yU ned.symm,zY,← List.map_reverse]
structure FunD (K:yN) (x qual:Str) (st:Stmt) (dV:Value) (f:Addr) (fd:FuncData):Prop where
 ex:∃ (oc:Value) (od:Option Addr) (kV doc pm:Value) (an:Option Addr) (cdv ct:Value) (osl:Array (Option Value)),
  fd=PySem.W.fnOf x qual (yP st) (zH st) (zV st) dV kV doc pm an cdv ct/\K.lookup f=some ⟨oc,od,.func fd,osl⟩/\PySem.W.codeIn K cdv qual=true
 kp:PySem.W.keepIn K (.ref f)=true
theorem pH {Γ:Ctx3} {q:Pr} {k:Nat} {M:MC} {x qual:Str} {st:Stmt} {dV:Value} {f:Addr} {fd:FuncData} {ps:List Str} {sp:tQ} {body:ISs} (F:FunD q.K x qual st dV f fd) (S:FnScope M.N ps (zV st)) (g:∀ A,Room k A->Good Γ (q.at A))
  (eM:MOk Γ M (zV st)) (hm:vS body M (zH st)=true) (len:∀ ws G Q,sp ws G Q XN->ws.length=ps.length)
  (hb:∀ ws G Q,sp ws G Q XN->zE Γ XN body { nx:=fun _ G'=>Q .non G',rt:=Q } (yB M.N ws) G):FnOk q.prog q.w q.K q.mg q.base CX0 (k+1) f fd ps (vY q.K sp):=by
 obtain ⟨oc,od,kV,doc,pm,an,cdv,ct,osl,rfl,lk,hcd⟩:=F.ex;refine fn_of lk hcd S (fun vs H Q E h=>?_) fun A outer s H vs Q E hr h=>?_
 .obtain ⟨ws,G,rs,ab,h⟩:=h;rw [rs.length];exact len ws G _ h
 .obtain ⟨ws,G,rs,ab,h⟩:=h;have gg:=g _ hr;refine ⟨lowS q.K (zE Γ XN body),PSs.nox (sndSs gg body M _ (zH st) ?_ hm),?_⟩
  .exact ⟨⟨rfl,rfl,rfl,rfl,rfl,rfl,rfl,rfl⟩,rfl,eM.sc.symm,S.nd,fun _ _=>rfl,by rw [eM.sc];exact S.kind,eM.fns,eM.gls,eM.mts,eM.its,eM.sxs,eM.ixs⟩
  .refine ⟨yB M.N ws,G,_,zbP rs,ab,⟨?_,?_,?_,?_⟩,hb ws G _ h⟩
   .exact fun σ G' τ H' g' _ a' z=>z .non H' g' (show wQ q.K H' .non .non from rfl) a'
   .exact fun σ G' τ H' g' _ a' z=>z.elim
   .exact fun σ G' τ H' g' _ a' z=>z.elim
   .exact fun w G' v H' g' r' a' z=>z v H' g' r' a'
structure HD (K:yN) (x qual:Str) (st:Stmt) (dV:Value) (f:Addr):Prop where
 ex:∃ (oc:Value) (od an:Option Addr) (osl:Array (Option Value)) (kV doc pm cdv ct:Value),K.lookup f=some ⟨oc,od,.func (PySem.W.fnOf x qual (yP st) (zH st) (zV st) dV kV doc pm an cdv ct),osl⟩/\PySem.W.codeIn K cdv qual=true
 kp:PySem.W.keepIn K (.ref f)=true
theorem HD.mk' {K:yN} {x qual:Str} {st:Stmt} {dV:Value} {f:Addr} {oc:Value} {od an:Option Addr} {osl:Array (Option Value)} {kV doc pm cdv ct:Value}
  (l:K.lookup f=some ⟨oc,od,.func (PySem.W.fnOf x qual (yP st) (zH st) (zV st) dV kV doc pm an cdv ct),osl⟩) (c:PySem.W.codeIn K cdv qual=true) (k:PySem.W.keepIn K (.ref f)=true):HD K x qual st dV f:=⟨⟨oc,od,an,osl,kV,doc,pm,cdv,ct,l,c⟩,k⟩
theorem HD.fd {K:yN} {x qual:Str} {st:Stmt} {dV:Value} {f:Addr} (h:HD K x qual st dV f):∃ fd,FunD K x qual st dV f fd/\∃ kV doc pm an cdv ct,fd=PySem.W.fnOf x qual (yP st) (zH st) (zV st) dV kV doc pm an cdv ct:=by
 obtain ⟨oc,od,an,osl,kV,doc,pm,cdv,ct,l,c⟩:=h.ex;exact ⟨_,⟨⟨oc,od,kV,doc,pm,an,cdv,ct,osl,rfl,l,c⟩,h.kp⟩,kV,doc,pm,an,cdv,ct,rfl⟩
def hV (f:Fn3):Prop:=∀ ws G (Q Q':Q3) E,(∀ w G',Q w G'->Q' w G')->f.sp ws G Q E->f.sp ws G Q' E
def qP (p:Par) (f:Fn3):Prop:=FnE p f/\hV f
def hW (m:Mt3):Prop:=∀ x ws G (Q Q':Q3),(∀ w G',Q w G'->Q' w G')->m.sp x ws G Q->m.sp x ws G Q'
def tP (m:It3):Prop:=∀ ws G (R R':List W->(Hw->Prop)->Hw->Prop),(∀ a b c,R a b c->R' a b c)->m.sp ws G R->m.sp ws G R'
def GlE (p:Par) (g:Str×W):Prop:=∀ X,Fits p X->Gl X g.1->∀ q:Pos,(g.1==("__debug__" : Str))=false->g.1 ≠ "__name__" -> PE X (.Name g.1 q) (yA X.K fun _ G Q=>Q g.2 G)
theorem zcP {Γ:Ctx3} {p:Par} (un:p.A.units+200<cLine) (fn:∀ f∈Γ.fn,qP p f) (gl:∀ g∈Γ.gl,GlE p g) (mt:∀ m∈Γ.mt,MtE p m/\hW m) (it:∀ i∈Γ.it,ItE p i/\tP i)
  (cl:∀ c∈Γ.cl,Cls p.K c.1/\∀ f∈c.2,uZ p.K c.1 f) (sx:∀ k∈Γ.sx,SxE p k/\wP k.sp) (ix:Γ.ix=[]):Good Γ p where
 mono:=⟨fun f hf=>(fn f hf).2,fun m hm=>(mt m hm).2,fun i hi=>(it i hi).2,fun k hk=>(sx k hk).2,fun k hk=>by rw [ix] at hk;cases hk⟩
 un:=un
 fn:=fun f hf=>(fn f hf).1
 gl:=gl
 mt:=fun m hm=>(mt m hm).1
 it:=fun i hi=>(it i hi).1
 cl:=cl
 sx:=fun k hk=>(sx k hk).1
 ix:=fun k hk=>by rw [ix] at hk;cases hk
theorem yD {α:Type} {P:α->Prop}:∀ x∈([]:List α),P x:=fun _ h=>nomatch h
theorem zG {α:Type} {P:α->Prop} {a:α} {l:List α} (h:P a) (t:∀ x∈l,P x):∀ x∈a::l,P x:=fun x hx=>by
 rcases List.mem_cons.mp hx with rfl|hx
 .exact h
 .exact t x hx
theorem rA {α:Type} {P:α->Prop} {a:α} {l:List α} (t:∀ x∈l,P x) (h:P a):∀ x∈l++[a],P x:=fun x hx=>by
 rcases List.mem_append.mp hx with hx|hx
 .exact t x hx
 .rw [zzO hx];exact h
theorem zgx {q:Pr} {A:Around} {x:Str} {w:W} {u:Value} {v:V} (hm:q.mg x=some u) (r:zC v u) (rp:∀ H,wQ q.K H w v):GlE (q.at A) (x,w):=by
 intro X fits gl qp hd hn;have hm':X.mg x=some u:=by rw [fits.mg];exact hm
 refine (zfX gl hm' r hd).imp fun τ H Q h=>?_;obtain ⟨σ,G,hs,ab,h⟩:=h;exact h v H .refl (by have:=rp H;rw [fits.K];exact this) ab
theorem zcQ {q:Pr} {A:Around} {x:Str} {T:String} (hm:q.mg x=none) (hv:bootBuiltins x=some (.type T)):GlE (q.at A) (x,.ty T):=by
 intro X fits gl qp hd hn;have hm':X.mg x=none:=by rw [fits.mg];exact hm
 refine (zf1 (v:=.ty T) gl hm' hv rfl hn hd).imp fun τ H Q h=>?_;obtain ⟨σ,G,hs,ab,h⟩:=h;exact h (.ty T) H .refl rfl ab
def zbS:tQ:=fun ws G Q _=>∃ a base ns,ws=[a,.int base]/\dJ G a ns/\ns.length<=63/\(0<=base/\base<=1000)/\∀ d l G',G d=none->G l=none->zX [] G G'->yC G' d l->Q (.ref d) G'
def zbR:tQ:=fun ws G Q _=>∃ d l m,ws=[.ref d,.int m]/\yC G d l/\(0<m/\m<1073741824)/\∀ r G',0<=r->r<m->zX [d,l] G G'->yC G' d l->Q (.int r) G'
theorem zac:hV ⟨"_law_deal", zbS⟩:=fun ws G Q Q' E k hh=>by
 obtain ⟨a,b,ns,h1,h2,h3,h4,h⟩:=hh;exact ⟨a,b,ns,h1,h2,h3,h4,fun d l G' a b c e=>k _ _ (h d l G' a b c e)⟩
theorem zab:hV ⟨"_law_draw", zbR⟩:=fun ws G Q Q' E k hh=>by
 obtain ⟨a,b,m,h1,h2,h3,h⟩:=hh;exact ⟨a,b,m,h1,h2,h3,fun d l a b c e=>k _ _ (h d l a b c e)⟩
abbrev zi5:Fn3:=⟨"_law_deal", zbS⟩
abbrev vB:Fn3:=⟨"_law_draw", zbR⟩
abbrev eAll:Fn3:=⟨"all", fun ws G Q _=>allS (·.all id) ws G Q⟩
abbrev eLst:Fn3:=⟨"list", fun ws G Q _=>lstS ws G Q⟩
section
variable {q : Pr} {A : Around} {k : Nat}
theorem zgJ (hm:q.mg "max" = none):qP (q.at A) eMax:=⟨rS hm (by decide +kernel) (fun X f=>zii f.calm) fP (fun _ _ h=>h),fun ws G Q Q' _ k h=>fP ws G Q Q' k h⟩
theorem zgL (hm:q.mg "len" = none):qP (q.at A) mL:=⟨rS hm (by decide +kernel) (fun X f=>cK) fM (fun _ _ h=>h),fun ws G Q Q' _ k h=>fM ws G Q Q' k h⟩
theorem zgQ (hm:q.mg "all" = none):qP (q.at A) eAll:=⟨rS hm (by decide +kernel) (fun X f=>zjh f.calm) (dM _) (fun _ _ h=>h),fun ws G Q Q' _ k h=>dM _ ws G Q Q' k h⟩
theorem zgK (hm:q.mg "list" = none):qP (q.at A) eLst:=⟨zgB hm (by decide +kernel) (fun X f=>zik) fN (fun _ _ h=>h),fun ws G Q Q' _ k h=>fN ws G Q Q' k h⟩
theorem zgI:MtE (q.at A) ePop/\hW ePop:=⟨cP PySem.F.plainAttrs_list PySem.F.slot_list_pop PySem.F.type_list_pop (fun X f=>zhP) fS,fS⟩
theorem zgH (hl:q.mg "list" = none) (hm:q.mg "reversed" = none):SxE (q.at A) eRev/\wP eRev.sp:=⟨zhp hl hm (by decide +kernel) fW (fun X f=>zhB f.calm),fW⟩
end
theorem FnE.imp {p:Par} {nm:Str} {sp sp':tQ} (h:FnE p ⟨nm,sp'⟩) (k:∀ ws G Q,sp ws G Q XN->sp' ws G Q XN):FnE p ⟨nm,sp⟩:=by
 intro X fits gl args t qp pos mt hn pa hnil hdb hnm;refine (h X fits gl args t qp pos mt hn pa hnil hdb hnm).imp fun τ H Q z=>?_;obtain ⟨σ,G,hs,ab,z⟩:=z;exact ⟨σ,G,hs,ab,mt σ G _ _ (fun ws G1 z=>k _ _ _ z) z⟩
theorem sO {K:yN} {x qual:Str} {st:Stmt} {f:Addr} {fd:FuncData} {ps:List Str} (F:FunD K x qual st .none f fd)
  (h:∀ (kV doc pm:Value) (an:Option Addr) (cdv ct:Value) (us:List Value),us.length=ps.length->bindArgs (PySem.W.fnOf x qual (yP st) (zH st) (zV st) .none kV doc pm an cdv ct) ⟨us,[]⟩=pure (ps.zip us)):uE K fd ps []:=by
 obtain ⟨oc,od,kV,doc,pm,an,cdv,ct,osl,rfl,lk,hcd⟩:=F.ex;exact .all (h kV doc pm an cdv ct)
theorem cD {q:Pr} {j k:Nat} {nm:Str} {f:Addr} {fd:FuncData} {ps:List Str} {sp:tQ} (FO:FnOk q.prog q.w q.K q.mg q.base CX0 j f fd ps (vY q.K sp)) (hm:q.mg nm=some (.ref f)) (hk:PySem.W.keepIn q.K (.ref f)=true) (hb:uE q.K fd ps [])
  (mono:hV ⟨nm,sp⟩) {A:Around} (hr:Room k A) (hjk:j<=k):qP (q.at A) ⟨nm,sp⟩ :=
 ⟨(ziY (dws:=[]) (dvs:=[]) (FO.mono hjk) hm hk hb (fun _=>rfl) .nil (fun ws G Q Q' z h=>mono ws G Q Q' XN z h) hr).imp fun ws G Q h=>by rw [List.append_nil];exact h,mono⟩
def gC:tQ:=fun ws G Q _=>∃ a ns,ws=[a]/\dJ G a ns/\ns.length<=63/\∀ G',Q (.bl true) G'
theorem uV {K:yN} {H:Hp}:∀ ns:List Int,zF K H (ns.map W.int) (ns.map V.int)
 | []=>rfl
 |n::ns=>⟨.int n,_,rfl,rfl,uV ns⟩
theorem zcA {K:yN} {H:Hp} {a:Addr} {ns:List Int} (hl:ns.length<=63) (hS:rP K H a (ns.map V.int)):vY K gC [.ref a] H (fun v _=>v=.bl true) fun _ _ _=>False:=by
 rcases hS with hS|hS
 .refine ⟨[.ref a],fun b=>if b=a then some (.fix (ns.map W.int)) else none,⟨_,[],rfl,rfl,rfl⟩,?_,.ref a,ns,rfl,.inl ⟨a,rfl,by simp [yQ]⟩,hl,fun G' v H' _ r _=>r⟩;intro b o e;dsimp only at e
  by_cases hb:b=a
  .subst hb;rw [if_pos rfl] at e;cases e;rcases hS with hS|⟨ob,hS⟩
   .exact ⟨_,hS,_,default,.inl rfl,uV ns⟩
   .exact ⟨_,hS,_,ob,.inr rfl,uV ns⟩
  .rw [if_neg hb] at e;cases e
 .exact ⟨[.lsf (ns.map W.int)],fun _=>none,⟨_,[],rfl,⟨a,_,rfl,hS,uV ns⟩,rfl⟩,(fun b o e=>nomatch e),.lsf (ns.map W.int),ns,rfl,.inr rfl,hl,fun G' v H' _ r _=>r⟩
theorem walk3 {l:PySem.W.OpenLaw} {k:Nat} {q:Program} {loose:List Str} {XP:(Str->Option Value)->Heap->Prop} {YP:World->Heap->Prop} {d:DefRec} {K:Params->PySem.W.Frag} (hn:l.most=some 63) (hdf:d.params.defaults=[]) (hr:Room k callerA)
  (hY:∀ (w:World) (h:Heap),YP w h->(K w.params).In h)
  (F:∀ (w:World) (mg:Str->Option Value) (fa:Addr) (h:Heap),(K w.params).In h->h.Ns mainGlobals mg->mg d.name=some (.ref fa) ->
   ∃ fd:FuncData,(∀ (s:Shared) (u:Value),BindsTo s fd ⟨[u],[]⟩ [("_law_script", u)])/\∀ base:Heap,(K w.params).In base->base.Ns mainGlobals mg->FnOk l.prog w (K w.params) mg base CX0 k fa fd ["_law_script"] (vY (K w.params) gC)) :
  PySem.W.WalkO q loose XP YP l.row.toRowW d [] (fun f vs=>PySem.call f vs) :=
 L2.walk_of (n:=63) (k:=k) (x := "_law_script") (CX:=fun _=>CX0) (sp:=fun w=>vY (K w.params) gC) hn (by decide) hdf hr hY F (fun _ _ a ns hl _ hS=>zcA hl hS) fun _ _ _ _ _ z=>z
end L3
namespace L3
open PySem PySem.Spec PyProof.Rows L2 PySem.SeqAt
def fJ:MS:=fun x ws G Q=>match x,ws with
 | .str sep,[.ref p]=>∃ ts:List Str,yQ G p=some (ts.map .str)/\JoinOk sep ts=true/\Q (.str (Txt.join sep ts)) G
 |_,_=>False
theorem mU:∀ x ws G (Q Q':Q3),(∀ w G',Q w G'->Q' w G')->fJ x ws G Q->fJ x ws G Q':=by
 intro x ws G Q Q' k h;unfold fJ at h ⊢
 split at h
 .obtain ⟨ts,e,o,h⟩:=h;exact ⟨ts,e,o,k _ _ h⟩
 .exact h.elim
theorem gG {K:yN} {H:Hp}:∀ {ts:List Str} {vs:List V} {us:List Value},zF K H (ts.map .str) vs->zD vs us->∃ l:List (Str×Tok),l.map (·.1)=ts/\us=strValues l
 | [],vs,us,r,v=>by cases (show vs=[] from r);cases v;exact ⟨[],rfl,rfl⟩
 |t::ts,vs,us,r,v=>by
  obtain ⟨x,tl,rfl,rx,rt⟩:=r;cases (show x=.str t from rx)
  cases v with
  |cons a c =>
   obtain ⟨tk,rfl⟩:=a;obtain ⟨l,e1,e2⟩:=gG rt c;exact ⟨(t,tk)::l,by rw [zzU,e1],by rw [e2];rfl⟩
theorem zgh {X:Cx}:MtR X "str.join" (lowM X.K fJ):=by
 intro pins s σ H x xs v us Q I rx rxs h;obtain ⟨w,ws,G,rw1,rs,ab,h⟩:=h;unfold fJ at h
 split at h
 .rename_i sep p;cases (show x=.str sep from rw1);obtain ⟨y,rfl,ry⟩:=jQ rs;cases (show y=.ref p from ry);obtain ⟨u,rfl,ru⟩:=jR rxs;cases (show u=Value.ref p from ru);obtain ⟨t,rfl⟩:=rx;obtain ⟨ts,e,ok,h⟩:=h;obtain ⟨vs,sq,rr⟩:=ab.seq e;obtain ⟨its,vv,pl,hz⟩:=I.list sq;obtain ⟨l,e1,e2⟩:=gG rr vv;subst e2;exact SC.join pl.isList e1 ok fun t' k=>⟨.str (Txt.join sep ts),H,I.tok _,⟨t',rfl⟩,h _ H .refl rfl ab⟩
 .exact h.elim
abbrev zez:Mt3:=⟨"join", "str", fJ⟩
theorem zew {q:Pr} {A:Around}:MtE (q.at A) zez/\hW zez:=⟨cP PySem.F.plainAttrs_str PySem.F.slot_str_join PySem.F.type_str_join (fun X f=>zgh) mU,mU⟩
def cH:RS:=fun ws G Q=>match ws with
 | [.int i]=>Q (.int i) G
 | [.bl b]=>Q (.int (if b then 1 else 0)) G
 |_=>False
theorem fF:wP cH:=by
 intro ws G Q Q' k h;unfold cH at h ⊢
 split at h
 .exact k _ _ h
 .exact k _ _ h
 .exact h.elim
theorem ziV {X:Cx}:wJ X (.type "int") (vG X.K cH):=by
 intro pins s σ H xs us Q I r h;obtain ⟨ws,G,rs,ab,h⟩:=h;unfold cH at h
 split at h
 .rename_i i;obtain ⟨v,rfl,rv⟩:=jQ rs;cases (show v=.int i from rv);exact dU pins s σ H _ us Q I r (.inl ⟨i,rfl,h _ H .refl rfl ab⟩)
 .rename_i b;obtain ⟨v,rfl,rv⟩:=jQ rs;cases (show v=.bl b from rv);exact dU pins s σ H _ us Q I r (.inr ⟨b,rfl,h _ H .refl rfl ab⟩)
 .exact h.elim
abbrev eInt:Fn3:=⟨"int", fun ws G Q _=>cH ws G Q⟩
theorem zgN {q:Pr} {A:Around} (hm:q.mg "int" = none):qP (q.at A) eInt:=⟨zgB hm (by decide +kernel) (fun X f=>ziV) fF (fun _ _ h=>h),fun ws G Q Q' _ k h=>fF ws G Q Q' k h⟩
theorem ziq {X:Cx} {pins:List (Addr×Obj)} {σ:L2.St} {H:Hp} {s:Shared} {G:Hw} {w:W} {v:V} {u:Value} {T:String} (I:Inv X pins σ H s) (ab:xL X.K H G) (rv:wQ X.K H w v) (ru:zC v u) (ty:tyO G w=some T) :
  ∃ HH:Heap->Prop,PySem.W.KitX X.K u (.type T) HH/\HH s.heap/\u≠.builtin "__main__.__loader__#opaque" := by
 cases w with
 |non=>cases ty;cases (show v=.non from rv);cases (show u=Value.none from ru);exact ⟨_,PySem.W.kitx_none,True.intro,fun z=>nomatch z⟩
 |bl x=>cases ty;cases (show v=.bl x from rv);cases (show u=Value.bool x from ru);exact ⟨_,PySem.W.kitx_bool,True.intro,fun z=>nomatch z⟩
 |int x=>cases ty;cases (show v=.int x from rv);obtain ⟨t,rfl⟩:=(show ∃ t,u=Value.int x t from ru);exact ⟨_,PySem.W.kitx_int,True.intro,fun z=>nomatch z⟩
 |str x=>cases ty;cases (show v=.str x from rv);obtain ⟨t,rfl⟩:=(show ∃ t,u=Value.str x t from ru);exact ⟨_,PySem.W.kitx_str,True.intro,fun z=>nomatch z⟩
 |tup ws' =>
  cases ty;obtain ⟨a,vs,rfl,sq,rr⟩:=rv;cases (show u=Value.ref a from ru);obtain ⟨its,_,p,_⟩:=I.tuple sq;obtain ⟨o,h1,h2,_⟩:=p;exact ⟨_,PySem.W.kitx_tuple,⟨o,h1,h2⟩,fun z=>nomatch z⟩
 |ref p =>
  cases (show v=.ref p from rv);cases (show u=Value.ref p from ru);simp only [tyO] at ty
  have lk:∀ ws',yQ G p=some ws'->∃ HH:Heap->Prop,PySem.W.KitX X.K (.ref p) (.type "list") HH/\HH s.heap/\Value.ref p≠.builtin "__main__.__loader__#opaque" := fun ws' el=>by
   obtain ⟨vs,sq,rr⟩:=ab.seq el;obtain ⟨its,_,pl,_⟩:=I.list sq;obtain ⟨o,ho,hc,_⟩:=pl.isList;exact ⟨_,PySem.W.kitx_list,⟨o,ho,hc⟩,fun z=>nomatch z⟩
  split at ty
  .rename_i ws' eg;cases ty;exact lk ws' (by unfold yQ;rw [eg])
  .rename_i ws' eg;cases ty;exact lk ws' (by unfold yQ;rw [eg])
  .rename_i kvs eg;cases ty;obtain ⟨l,e',rl⟩:=ab.dic eg;obtain ⟨_,_,vs,_,o,_,_,e1,e2,_⟩:=(show xG X.prog X.w H s.heap p (.dK l) from I.hok p _ e');exact ⟨_,PySem.W.kitx_dict,⟨o,e1,e2.1⟩,fun z=>nomatch z⟩
  .cases ty
 |_=>cases ty
def zdm:List W->Option (List String)
 | []=>some []
 | .ty T::r=>(zdm r).map (T::·)
 |_=>none
theorem zar {K:yN} {H:Hp}:∀ {ws:List W} {Ts:List String} {vs:List V} {us:List Value},zdm ws=some Ts->zF K H ws vs->zD vs us->us=Ts.map .type
 | [],Ts,vs,us,e,r,v=>by cases e;cases (show vs=[] from r);cases v;rfl
 |w::ws,Ts,vs,us,e,r,v=>by
  cases w with
  |ty T =>
   simp only [zdm] at e;obtain ⟨Ts',e',rfl⟩:=Option.map_eq_some_iff.mp e;obtain ⟨x,tl,rfl,rx,rt⟩:=r;cases (show x=.ty T from rx)
   cases v with
   |cons a c =>
    cases (show _=Value.type T from a);rw [zar e' rt c];rfl
  |_=>cases e
def isjS (K:yN):RS:=fun ws G Q=>match ws with
 | [x,.ty T]=>∃ T' b,tyO G x=some T'/\PySem.W.kitOne K (.type T') (.type T)=some b/\Q (.bl b) G
 | [x,.tup ts]=>∃ T' b Ts,tyO G x=some T'/\zdm ts=some Ts/\PySem.W.kitAny K (.type T') (Ts.map .type)=some b/\Q (.bl b) G
 |_=>False
theorem fH (K:yN):wP (isjS K):=by
 intro ws G Q Q' k h;unfold isjS at h ⊢
 split at h
 .obtain ⟨T',b,e,e',h⟩:=h;exact ⟨T',b,e,e',k _ _ h⟩
 .obtain ⟨T',b,Ts,e,e',e2,h⟩:=h;exact ⟨T',b,Ts,e,e',e2,k _ _ h⟩
 .exact h.elim
theorem ziP {X:Cx}:wJ X (.builtin "isinstance") (vG X.K (isjS X.K)):=by
 intro pins s σ H xs us Q I r h;obtain ⟨ws,G,rs,ab,h⟩:=h;unfold isjS at h
 split at h
 .rename_i w T;obtain ⟨v,y,rfl,rv,ry⟩:=zb7 rs;cases (show y=.ty T from ry);obtain ⟨u,c,rfl,ru,rc⟩:=zbC r;cases (show c=Value.type T from rc);obtain ⟨T',b,ty,e,h⟩:=h;obtain ⟨HH,kx,hp,hb⟩:=ziq I ab rv ru ty;exact PySem.W.kia_one kx I.kIn hp e hb fun tk=>⟨.bl b,H,I.tok _,rfl,h _ H .refl rfl ab⟩
 .rename_i w ts;obtain ⟨v,y,rfl,rv,ry⟩:=zb7 rs;obtain ⟨u,c,rfl,ru,rc⟩:=zbC r;obtain ⟨T',b,Ts,ty,et,e,h⟩:=h;obtain ⟨a,vs,rfl,sq,rr⟩:=ry;cases (show c=Value.ref a from rc);obtain ⟨its,vv,p,_⟩:=I.tuple sq;obtain ⟨⟨oc,od,dt,sl⟩,h1,h2,n,h3⟩:=p;cases (show oc=_ from h2);cases (show dt=_ from h3);have ei:=zar et rr vv;subst ei;obtain ⟨HH,kx,hp,hb⟩:=ziq I ab rv ru ty;exact PySem.W.kia_tup kx I.kIn hp h1 e hb fun tk=>⟨.bl b,H,I.tok _,rfl,h _ H .refl rfl ab⟩
 .exact h.elim
abbrev eIsj (K:yN):Fn3:=⟨"isinstance", fun ws G Q _=>isjS K ws G Q⟩
theorem zgM {q:Pr} {A:Around} (hm:q.mg "isinstance" = none):qP (q.at A) (eIsj q.K):=⟨rS (id := "isinstance") hm (by decide +kernel) (fun X f=>by rw [← show X.K=q.K from f.K];exact ziP) (fH _) (fun _ _ h=>h),fun ws G Q Q' _ k h=>fH _ ws G Q Q' k h⟩
theorem zeR {q:Pr} {k:Nat} {M:MC} {nm qual:Str} {st:Stmt} {f:Addr} {fd:FuncData} {ps:List Str} {sp:Nat->tQ} {body:ISs} {Γ:Fn3->Ctx3} (F:FunD q.K nm qual st .none f fd) (S:FnScope M.N ps (zV st))
  (hm:q.mg nm=some (.ref f)) (hb:uE q.K fd ps []) (h0:∀ ws G Q,¬ sp 0 ws G Q XN) (len:∀ n ws G Q,sp n ws G Q XN->ws.length=ps.length) (mono:∀ n,hV ⟨nm,sp n⟩)
  (g:∀ n A,Room k A->qP (q.at A) ⟨nm,sp n⟩->Good (Γ ⟨nm,sp n⟩) (q.at A)) (eM:∀ n,MOk (Γ ⟨nm,sp n⟩) M (zV st)) (look:vS body M (zH st)=true)
  (hbd:∀ n ws G Q,sp (n+1) ws G Q XN->zE (Γ ⟨nm,sp n⟩) XN body { nx:=fun _ G'=>Q .non G',rt:=Q } (yB M.N ws) G):∀ n,FnOk q.prog q.w q.K q.mg q.base CX0 (k+n) f fd ps (vY q.K (sp n))
 | 0=>⟨fun vs H Q E ⟨ws,G,_,_,h⟩=>absurd h (h0 _ _ _),fun A outer s H args us vs Q E _ _ _ _ ⟨ws,G,_,_,h⟩=>absurd h (h0 _ _ _)⟩
 |n+1=>pH (k:=k+n) F S (fun A hr=>g n A (hr.mono (Nat.le_add_right _ _)) (cD (zeR F S hm hb h0 len mono g eM look hbd n) hm F.kp hb (mono n) hr (zzR _))) (eM n) look (len (n+1)) (hbd n)
end L3
namespace L2
open PySem PySem.Spec PyProof.Rows
section
variable {a b : Bool} {z TI TO i1 i2 l1 l2 : Addr}
theorem zp_go {P:Program} {w:World} {A:Around} {E:Value->Shared->Prop} {s:Shared} {tg:Expr} {u:Value} {i:Nat} {Q:Unit->Shared->Prop} (hd:[z,TI,TO,i1,i2].Nodup) (st:vT a b z TI TO i1 i2 l1 l2 i s.heap)
  (h:∀ h',vT a b z TI TO i1 i2 l1 l2 i h'->(∀ c o,c≠z->s.heap.get? c=some o->h'.get? c=some o)->Q () { s with heap:=h' }):wpAny (model P w) A (letOwnedTupleGo tg (.ref z) u) Q E s:=by
 have stay:Q () s:=h s.heap st fun _ _ _ e=>e
 have core:wpAny (model P w) A (do
   let (.ref r,.ref t):=(Value.ref z,u)|return
   let o ← load r
   match o.cls,o.data with
   | .type n,.fields vs =>
    if ["enumerate", "zip", "dict_itemiterator", "dict_reverseitemiterator", "odict_iterator", "itertools.zip_longest", "itertools.pairwise"].contains n&&vs[0]?==some (rawInt t) then
     rule "for.unpacks-the-owned-tuple"
     updateField r 0 .none
   |_,_=>pure ()) Q E s:=by
  cases u with
  |ref t =>
   obtain ⟨f0,f1,hz,h0,h1,hTI,⟨p,q,hTO⟩,s1,s2⟩:=st;refine wpAny_bind (wpAny_load hz ?_);dsimp only
   split
   .refine wpAny_bind (wpAny_rule ?_);show wpAny _ _ (setField (.ref z) 0 .none) Q E s;refine wpAny_setField_rec hz (by simp) fun h' hz' hs'=>h h' ⟨.none,f1,hz',.inl rfl,h1,?_,⟨p,q,?_⟩,s1.at ?_,s2.at ?_⟩ fun c o hc e=>(hs'.2 c hc).trans e
    all_goals simp only [List.nodup_cons,List.mem_cons,List.not_mem_nil,or_false,not_or,List.nodup_nil,not_false_eq_true,and_true] at hd
    .exact (hs'.2 _ (Ne.symm hd.1.1)).trans hTI
    .exact (hs'.2 _ (Ne.symm hd.1.2.1)).trans hTO
    .exact fun o e=>(hs'.2 _ (Ne.symm hd.1.2.2.1)).trans e
    .exact fun o e=>(hs'.2 _ (Ne.symm hd.1.2.2.2)).trans e
   .exact wpAny_pure stay
  |_=>exact wpAny_pure stay
 cases tg with
 |Tuple es x p=>exact core
 |List es x=>exact core
 |_=>exact wpAny_pure stay
theorem zfi (P:Program) (w:World) (K:PySem.W.Frag) (tg:Expr) (hd:[z,TI,TO,i1,i2].Nodup) (n1:l1∉[z,TI,TO,i1,i2]) (n2:l2∉[z,TI,TO,i1,i2]):Turn P w K tg (Itz a b K l1 l2) [z,TI,TO,i1,i2] z (vT a b z TI TO i1 i2 l1 l2) where
 mem:=by simp
 obj:=fun i h x=>x.obj
 keep:=fun i h h' x k=>x.keep k
 item:=by
  intro X e1 e2 e3 hc i pins s σ H E I hf st go;subst e1;subst e2;subst e3;refine yF (zfj (I.ok.hd hc) hd n1 n2 I hf st go) fun r s2 ⟨u,x,H',q1,q2,q3,q4,q5,_,q6⟩=>⟨u,q1,zp_go hd q5 fun h' st' k=>⟨x,H',?_,q3,q4,st',q6⟩⟩;refine q2.turns (t':=s2.toks) (fp:=[z]) (fun c hcz=>?_) fun c o hcz e=>k c o (fun z=>hcz (by rw [z];simp)) e;rw [List.mem_singleton] at hcz;subst hcz;obtain ⟨_,f2,f3,f4,f5,f6⟩:=hf c (by simp);exact ⟨q6 c (by simp),f2,f3,f4,f5,f6⟩
 done:=by
  intro X e1 e2 e3 hc i pins s σ H E I hf st stop;subst e1;subst e2;subst e3;exact zfm (I.ok.hd hc) hd n1 n2 I hf st stop
 self:=fun A i s Q E st h=>zbx st h
end
end L2
namespace L3
open PySem PySem.Spec PyProof.Rows L2 PySem.SeqAt
def zipI (ws:List W) (G:Hw) (R:List W->(Hw->Prop)->Hw->Prop):Prop:=match ws with
 | [x,y]=>∃ xs ys,xZ G x=some xs/\xZ G y=some ys/\R (List.zipWith (fun a b=>W.tup [a,b]) xs ys) (fun G'=>xZ G' x=some xs/\xZ G' y=some ys) G
 |_=>False
theorem zbz:tP ⟨"zip", zipI⟩:=by
 intro ws G R R' k h;replace h:zipI ws G R:=h;show zipI ws G R';unfold zipI at h ⊢
 split at h
 .obtain ⟨xs,ys,e1,e2,h⟩:=h;exact ⟨xs,ys,e1,e2,k _ _ _ h⟩
 .exact h.elim
def hX (w:W):Bool:=match w with|.tup _=>true|_=>false
theorem kM {K:yN} {H1 H:Hp} {G1 G:Hw} {w:W} {a:Addr} {vs:List V} {b:Bool} {xs:List W} (g:yJ K H1 H) (ab:xL K H G) (r1:wQ K H1 w (.ref a)) (b1:xZ G1 w=some xs) (sq1:pE b K H1 a vs) (hb:b=hX w) (st:xZ G w=some xs) (rr1:zF K H1 xs vs) :
  ∃ vs',pE b K H a vs'/\zF K H xs vs':=by
 cases w with
 |tup ws =>
  subst hb;exact ⟨vs,g.1 _ _ sq1,rr1.mono g⟩
 |ref p =>
  subst hb;cases (show V.ref a=.ref p from r1);obtain ⟨vs',sq,rr⟩:=ab.seq st;exact ⟨vs',sq,rr⟩
 |_=>cases b1
theorem kY {K:yN} {H:Hp} {G:Hw} {w:W} {v:V} {xs:List W} (ab:xL K H G) (r:wQ K H w v) (e:xZ G w=some xs):∃ a vs,v=.ref a/\pE (hX w) K H a vs/\zF K H xs vs:=by
 cases w with
 |tup ws =>
  obtain ⟨a,vs,rfl,sq,rr⟩:=r;cases e;exact ⟨a,vs,rfl,sq,rr⟩
 |ref p =>
  cases (show v=.ref p from r);obtain ⟨vs,sq,rr⟩:=ab.seq e;exact ⟨p,vs,rfl,sq,rr⟩
 |_=>cases e
theorem ziE {K:yN} {H1:Hp} {G1:Hw} {x y:W} {a1 a2:Addr} {vx vy:List V} {xs ys:List W} (rx:wQ K H1 x (.ref a1)) (ry:wQ K H1 y (.ref a2)) (ex:xZ G1 x=some xs) (ey:xZ G1 y=some ys) (sx:pE (hX x) K H1 a1 vx) (sy:pE (hX y) K H1 a2 vy)
  (rrx:zF K H1 xs vx) (rry:zF K H1 ys vy):ItIs K (Itz (hX x) (hX y) K a1 a2) H1 (List.zipWith (fun a b=>W.tup [a,b]) xs ys) (fun G'=>xZ G' x=some xs/\xZ G' y=some ys) where
 go:=fun i H G g ab st hi=>by
  obtain ⟨vx',sx',rx'⟩:=kM g ab rx ex sx rfl st.1 rrx;obtain ⟨vy',sy',ry'⟩:=kM g ab ry ey sy rfl st.2 rry;have h1:=rx'.length;have h2:=ry'.length;rw [List.length_zipWith] at hi;exact ⟨vx',vy',vx'[i]'(by omega),vy'[i]'(by omega),sx',sy',List.getElem?_eq_getElem _,List.getElem?_eq_getElem _⟩
 yld:=fun i H G v H' g ab st hi yl=>by
  obtain ⟨vx',sx',rx'⟩:=kM g ab rx ex sx rfl st.1 rrx;obtain ⟨vy',sy',ry'⟩:=kM g ab ry ey sy rfl st.2 rry;obtain ⟨p,x',y',rfl,hp,rfl,e2,e3⟩:=yl;have e2:=e2 vx' sx';have e3:=e3 vy' sy';obtain ⟨wx,ewx,rpx⟩:=rx'.get' e2;obtain ⟨wy,ewy,rpy⟩:=ry'.get' e3;have gr:yJ K H (xK H p (.tup [x',y'])):=xJ hp;refine ⟨.tup [wx,wy],?_,gr,⟨p,[x',y'],rfl,.of wY,⟨_,_,rfl,rpx.mono gr,_,_,rfl,rpy.mono gr,rfl⟩⟩,ab.tup hp⟩;rw [List.getElem?_zipWith,ewx,ewy]
 stop:=fun i H G g ab st hi=>by
  obtain ⟨vx',sx',rx'⟩:=kM g ab rx ex sx rfl st.1 rrx;obtain ⟨vy',sy',ry'⟩:=kM g ab ry ey sy rfl st.2 rry;have h1:=rx'.length;have h2:=ry'.length;rw [List.length_zipWith] at hi;refine ⟨vx',vy',sx',sy',?_⟩
  by_cases hl:xs.length<=ys.length
  .left;rw [List.getElem?_eq_none];omega
  .right;rw [List.getElem?_eq_none];omega
theorem ziN {q:Pr} {A:Around} (hm:q.mg "zip" = none):ItE (q.at A) ⟨"zip", zipI⟩:=by
 intro X fits gl tg args t qp pos mt hn pa hnil hdb hnm;have hm':X.mg "zip" = none:=by rw [fits.mg];exact hm
 intro pins s σ H R I h
 cases args with
 |nil =>
  obtain ⟨σ3,G,hs,ab,h⟩:=h;exact (hnil rfl _ _ _ h).elim
 |cons a r =>
  obtain ⟨s1,s2⟩:=xM (env:=X.env) (pos:=pos) hn;obtain ⟨σ3,G,hs,ab,h⟩:=h
  have h':=sN (S:=fun vs H1=>∃ x y a1 a2 vx vy,vs=[.ref a1,.ref a2]/\pE (hX x) X.K H1 a1 vx/\pE (hX y) X.K H1 a2 vy/\R (Itz (hX x) (hX y) X.K a1 a2) H1) mt hs ab h fun ws G1 vs H1 g1 hs1 rs a1 h=>by
   dsimp only at h;unfold zipI at h
   split at h
   .rename_i x y;obtain ⟨v1,v2,rfl,r1,r2⟩:=zb7 rs;obtain ⟨xs,ys,ex,ey,h⟩:=h;obtain ⟨p1,vx,rfl,sx,rx⟩:=kY a1 r1 ex;obtain ⟨p2,vy,rfl,sy,ry⟩:=kY a1 r2 ey;exact ⟨x,y,p1,p2,vx,vy,rfl,sx,sy,h _ H1 g1 a1 (ziE r1 r2 ex ey sx sy rx ry)⟩
   .exact h.elim
  refine Call_ (qF I gl hm' (by decide +kernel:bootBuiltins "zip" = some (.type "zip")) (PyProof.Rows.callWith_type1 (yF (pa pos pins s σ H _ I h') fun us s1 ⟨vs,H1,I1,r1,q1⟩=>?_) s1 s2));obtain ⟨x,y,a1,a2,vx,vy,e,sx,sy,q⟩:=q1;subst e;obtain ⟨u1,u2,rfl,ru1,ru2⟩:=zbC r1;cases (show u1=Value.ref a1 from ru1);cases (show u2=Value.ref a2 from ru2);obtain ⟨itx,vvx,ssx,hzx⟩:=I1.sqB sx;obtain ⟨ity,vvy,ssy,hzy⟩:=I1.sqB sy
  have lt1:a1<s1.heap.objs.size:=by
   cases hb:hX x<;>rw [hb] at ssx<;>(obtain ⟨o,ho,_⟩:=ssx;exact Heap.lt_size ho)
  have lt2:a2<s1.heap.objs.size:=by
   cases hb:hX y<;>rw [hb] at ssy<;>(obtain ⟨o,ho,_⟩:=ssy;exact Heap.lt_size ho)
  refine zg4 ssx ssy fun h' z1 z2 z3 z4 z5 z6 z7=>?_;have I2:Inv X pins σ H1 { s1 with heap:=h',toks:=s1.toks }:=I1.kept z7;have hd:=zbm s1.heap.objs.size;have n1:=zaS _ _ lt1;have n2:=zaS _ _ lt2;have hf:∀ b∈[s1.heap.objs.size+4,s1.heap.objs.size+2,s1.heap.objs.size+3,s1.heap.objs.size,s1.heap.objs.size+1],kR X pins H1 b:=fun b hb=>I1.fpOk (zcU _ _ hb) (I1.hok.fresh (zcU _ _ hb));have st:vT (hX x) (hX y) (s1.heap.objs.size+4) (s1.heap.objs.size+2) (s1.heap.objs.size+3) s1.heap.objs.size (s1.heap.objs.size+1) a1 a2 0 h':=⟨.none,.bool false,z1,.inl rfl,.inl rfl,z2,⟨_,_,z3⟩,z4,z5⟩;refine zbx st ⟨_,_,_,_,H1,rfl,I2,zfi X.prog X.w X.K tg hd n1 n2,st,hf,q⟩
abbrev eZpi:It3:=⟨"zip", zipI⟩
theorem zgD {q:Pr} {A:Around} (hm:q.mg "zip" = none):ItE (q.at A) eZpi/\tP eZpi:=⟨ziN hm,zbz⟩
def krun {α:Type} (lt:Nat->Nat->Bool):PySem.W.KasT α->α
 | .ret a=>a
 | .ask i j k=>krun lt (k (lt i j))
section
variable {n : Nat} {p : Array Nat}
end
def srtP (n:Nat) (lt:Nat->Nat->Bool):List Nat:=if n<2 then List.range n else (krun lt (PySem.W.kas_sort n)).toList
theorem qV {α:Type} (d:α) (l:List α):(List.range l.length).map (fun i=>l.getD i d)=l:=by
 apply List.ext_getElem
 .simp
 .intro i h1 h2;simp [h2]
mutual
def ltW:W->W->Option Bool
 | .str x,.str y=>some (decide (x.cps.toList<y.cps.toList))
 | .tup xs,.tup ys=>ltWs xs ys
 |_,_=>none
def ltWs:List W->List W->Option Bool
 | [],[]=>some false
 | [],_::_=>some true
 |_::_,[]=>some false
 |x::xs,y::ys=>if kQ x y=true then ltWs xs ys else ltW x y
end
section
variable {X : Cx} {pins : List (Addr × Obj)} {σ : L2.St} {H : Hp} {s : Shared}
end
section
variable {prog : Program} {w : World} {A : Around} {E : Value → Shared → Prop} {s : Shared} {D : Addr} {vs : List Value} {κ : SortKind} {lt : Nat → Nat → Bool}
def But (D:Addr) (h h':Heap):Prop:=∀ b o,b≠D->h.get? b=some o->h'.get? b=some o
end
def ltB (x y:W):Bool:=(ltW x y).getD false
def srt (ws:List W):List W:=(srtP ws.length fun i j=>ltB (ws.getD i .non) (ws.getD j .non)).map fun i=>ws.getD i .non
section
variable {prog : Program} {w : World} {A : Around} {s : Shared} {b fin v : Bool} {C : Bool → Shared → Prop}
end
section
variable {X : Cx} {pins : List (Addr × Obj)} {σ : L2.St} {H : Hp} {s : Shared}
end
end L3
namespace L3
open PySem PySem.Spec PyProof.Rows L2 PySem.SeqAt AutoSeq1
theorem zcW (l b:Addr) (xs ys:Array Value) (n n2:Nat) (od:Option Addr) (os:Array (Option Value)) (h0:¬(!xs.isEmpty&&Builtin.List.listTooLong (xs.size+ys.size))=true) (h1:xs.size<=sizeLine) (h2:xs.size+ys.size<=sizeLine+1) :
  Meets (Builtin.«list.extend» ⟨[.ref l,.ref b],[]⟩) (fun _ R s=>s.heap.get? l=some { cls:=.type "list", dict:=none,data:=.seq xs n,slots:=#[] }/\s.heap.get? b=some { cls:=.type "tuple", dict:=od,data:=.seq ys n2,slots:=os } /\
   R (.ok (.ret .none)) { s with heap:=s.heap.update l (Obj.mapSeq fun x=>x++ys) }) :=
 .of_wp fun pr wo ar R st h=>by
  obtain ⟨hp,g,d,tk,os'⟩:=st;obtain ⟨hl,hb,h⟩:=h;have f1:=idx_int;have ft:=AutoSeq1.sub_tuple_tuple;have fl:=AutoSeq1.sub_list_list;have fu:=AutoSeq1.sub_tuple_list;have fv:=AutoSeq1.sub_list_tuple;have hz:(xs++ys).size<=sizeLine+1:=by rw [Array.size_append];exact h2
  wp_walk using (wpAny_updateSeq hl rfl (hz:=h1) (_hz':=hz)),wpAny_loadPart' hl,wpAny_loadPart' hb
  exact ⟨_,rfl,h⟩
theorem zbn (l b:Addr) (xs ys:Array Value) (n n2:Nat) (od:Option Addr) (os:Array (Option Value)) (h0:¬(!xs.isEmpty&&Builtin.List.listTooLong (xs.size+ys.size))=true) (h1:xs.size<=sizeLine) (h2:xs.size+ys.size<=sizeLine+1) :
  Meets (Builtin.«list.extend» ⟨[.ref l,.ref b],[]⟩) (fun _ R s=>s.heap.get? l=some { cls:=.type "list", dict:=none,data:=.seq xs n,slots:=#[] }/\s.heap.get? b=some { cls:=.type "list", dict:=od,data:=.seq ys n2,slots:=os } /\
   R (.ok (.ret .none)) { s with heap:=s.heap.update l (Obj.mapSeq fun x=>x++ys) }) :=
 .of_wp fun pr wo ar R st h=>by
  obtain ⟨hp,g,d,tk,os'⟩:=st;obtain ⟨hl,hb,h⟩:=h;have f1:=idx_int;have ft:=AutoSeq1.sub_tuple_tuple;have fl:=AutoSeq1.sub_list_list;have fu:=AutoSeq1.sub_tuple_list;have fv:=AutoSeq1.sub_list_tuple;have hz:(xs++ys).size<=sizeLine+1:=by rw [Array.size_append];exact h2
  wp_walk using (wpAny_updateSeq hl rfl (hz:=h1) (_hz':=hz)),wpAny_loadPart' hl,wpAny_loadPart' hb
  exact ⟨_,rfl,h⟩
def extS:MS:=fun x ws G Q=>match x,ws with
 | .ref p,[.tup ys]=>(match G p with
  |some (.lst xs)=>xs.length+ys.length<=sizeLine/\Q .non (put G p (.lst (xs++ys)))
  |_=>False)
 | .ref p,[.ref q]=>∃ xs ys,G p=some (.lst xs)/\yQ G q=some ys/\xs.length+ys.length<=sizeLine/\Q .non (put G p (.lst (xs++ys)))
 |_,_=>False
theorem fA:∀ x ws G (Q Q':Q3),(∀ w G',Q w G'->Q' w G')->extS x ws G Q->extS x ws G Q':=by
 intro x ws G Q Q' k h;unfold extS at h ⊢
 split at h
 .split at h
  .exact ⟨h.1,k _ _ h.2⟩
  .exact h.elim
 .obtain ⟨xs,ys,e1,e2,h1,h⟩:=h;exact ⟨xs,ys,e1,e2,h1,k _ _ h⟩
 .exact h.elim
theorem zi2 {X:Cx}:MtR X "list.extend" (lowM X.K extS):=by
 intro pins s σ H x xs v us Q I rx rxs h;obtain ⟨w,ws,G,rw1,rs,ab,h⟩:=h;unfold extS at h
 split at h
 .rename_i p ys;cases (show x=.ref p from rw1);cases (show v=Value.ref p from rx);obtain ⟨vy,rfl,ry⟩:=jQ rs;obtain ⟨b,vs2,rfl,sq,rr2⟩:=ry;obtain ⟨u,rfl,ru⟩:=jR rxs;cases (show u=Value.ref b from ru)
  split at h
  .rename_i zs e;obtain ⟨vs,ev,rr⟩:=ab.lst e;have gr:yJ X.K H (xK H p (.lst (vs++vs2))):=ab.grow e;obtain ⟨z,its,n,r,hl,e1⟩:=I.lstM ev;obtain ⟨its2,r2,pt,hz2⟩:=I.tuple sq;obtain ⟨⟨oc,od,oda,os⟩,ho,hc,n2,hd⟩:=(show s.heap.IsTuple b its2.toArray from pt);simp only at hc hd;subst hc hd;have l1:=rr.length;have l2:=rr2.length;have l3:=r2.length;have hb:=h.1;have hsz:its.toArray.size+its2.toArray.size<=sizeLine:=by rw [zzS,zzS];omega
   have hlong:¬ (!its.toArray.isEmpty&&Builtin.List.listTooLong (its.toArray.size+its2.toArray.size))=true:=by
    rw [nO hsz,Bool.and_false];exact zzN
   refine call_meets F.slot_list_extend ⟨_,e1,rfl⟩ F.entry_list_extend (F.args_list_extend_2 _ _) (zcW p b its.toArray its2.toArray n n2 od os hlong (by rw [zzS];omega) (by omega)) ⟨e1,ho,?_⟩;refine ⟨.non,_,I.lset (its':=its++its2) ev e1 (by simp) (r.append r2) ?_,rfl,h.2 .non _ gr (show wQ X.K _ .non .non from rfl) (ab.chg e ⟨_,rfl,(rr.append rr2).mono gr⟩)⟩;rw [zzW];omega
  .exact h.elim
 .rename_i p q;cases (show x=.ref p from rw1);cases (show v=Value.ref p from rx);obtain ⟨vy,rfl,ry⟩:=jQ rs;cases (show vy=.ref q from ry);obtain ⟨u,rfl,ru⟩:=jR rxs;cases (show u=Value.ref q from ru);obtain ⟨zs,ys,e,e2,hb,h⟩:=h;obtain ⟨vs,ev,rr⟩:=ab.lst e;obtain ⟨vs2,sq,rr2⟩:=ab.seq e2;have gr:yJ X.K H (xK H p (.lst (vs++vs2))):=ab.grow e;obtain ⟨z,its,n,r,hl,e1⟩:=I.lstM ev;obtain ⟨its2,r2,pt,hz2⟩:=I.list sq;obtain ⟨⟨oc,od,oda,os⟩,ho,hc,n2,hd⟩:=pt.isList;simp only at hc hd;subst hc hd;have l1:=rr.length;have l2:=rr2.length;have l3:=r2.length;have hsz:its.toArray.size+its2.toArray.size<=sizeLine:=by rw [zzS,zzS];omega
  have hlong:¬ (!its.toArray.isEmpty&&Builtin.List.listTooLong (its.toArray.size+its2.toArray.size))=true:=by
   rw [nO hsz,Bool.and_false];exact zzN
  refine call_meets F.slot_list_extend ⟨_,e1,rfl⟩ F.entry_list_extend (F.args_list_extend_2 _ _) (zbn p q its.toArray its2.toArray n n2 od os hlong (by rw [zzS];omega) (by omega)) ⟨e1,ho,?_⟩;refine ⟨.non,_,I.lset (its':=its++its2) ev e1 (by simp) (r.append r2) ?_,rfl,h .non _ gr (show wQ X.K _ .non .non from rfl) (ab.chg e ⟨_,rfl,(rr.append rr2).mono gr⟩)⟩;rw [zzW];omega
 .exact h.elim
abbrev eExt:Mt3:=⟨"extend", "list", extS⟩
theorem zgO {q:Pr} {A:Around}:MtE (q.at A) eExt/\hW eExt:=⟨cP PySem.F.plainAttrs_list PySem.F.slot_list_extend PySem.F.type_list_extend (fun X f=>zi2) fA,fA⟩
end L3
namespace L3
open PySem PySem.Spec PyProof.Rows L2 PySem.SeqAt
def tx (e:Int×Value):Str:=strOf e.2
structure SetO (prog:Program) (w:World) (o:Obj) (led:Bool) (es:Array (Int×Value)) (ep:Nat) (t:SetTable):Prop where
 obj:o={ cls:=.type "set", dict:=none,data:=.set es ep t,slots:=#[] }
 el:ElemsOf (PySem.strKind prog w) es.toList
 fit:t.fits es.size=true
 led:t.led=led
 pl:es.size≠0->t.plain=false
 nd:(es.toList.map tx).Nodup
def gN (prog:Program) (w:World) (h:Heap) (S:Addr) (led:Bool) (xs:List Str):Prop :=
 ∃ o es ep t,h.get? S=some o/\SetO prog w o led es ep t/\es.size<=xs.length/\∀ x,x∈es.toList.map tx↔x∈xs
theorem zh3 (t:SetTable) (n:Nat):(t.orStandIn n).led=t.led:=by
 unfold SetTable.orStandIn
 split<;>rfl
theorem zge (t:SetTable) (es:Array (Int×Value)) (h:Int) (x:Value):(layNew t es h x).2.1.led=t.led:=by
 unfold layNew
 split
 .dsimp only;rw [zh3];rfl
 .rfl
theorem zb9 (t:SetTable) (es:Array (Int×Value)) (n:Nat):(relayAll t es n).2.1.led=t.led/\(t.plain=false->(relayAll t es n).2.1.plain=false):=by
 unfold relayAll
 split
 .rename_i t' order e
  have e:t'.led=t.led/\t'.plain=t.plain:=by
   unfold SetTable.relaid SetTable.laid at e;revert e
   cases SetTable.layClean (SetTable.sizeAbove n-1) (es.map (·.1)) with
   |none=>intro e;cases e
   |some ow =>
    intro e;rw [← (Prod.mk.inj (Option.some.inj e)).1];exact ⟨rfl,rfl⟩
  dsimp only
  split
  .exact ⟨e.1,fun h=>e.2.trans h⟩
  .exact ⟨rfl,fun _=>rfl⟩
 .exact ⟨rfl,fun _=>rfl⟩
section
variable {prog : Program} {w : World} {A : Around} {E : Value → Shared → Prop} {s : Shared} {S : Addr} {led : Bool}
theorem ziQ {x:Str} {v:Value} (h:(PySem.strKind prog w).is x v=true):strOf v=x:=by
 obtain ⟨t,rfl⟩:=Value.isStrOf_shape h;rfl
theorem zgV {es:List (Int×Value)} (h:ElemsOf (PySem.strKind prog w) es) {e:Int×Value} (he:e∈es):(PySem.strKind prog w).is (tx e) e.2=true:=by
 obtain ⟨⟨k,hk,_⟩,_⟩:=h e he;unfold tx;rw [ziQ hk];exact hk
theorem zdF {xs:List Str} {x:Str} {tk:Tok} {Q:Bool->Shared->Prop} (h:gN prog w s.heap S led xs) (hb:xs.length+1<scanBound)
  (q:∀ h' b,Heap.SameBut S s.heap h'->gN prog w h' S led (xs++[x])->Q b { s with heap:=h',toks:=s.toks+1 }):wpAny (model prog w) A (setAdd S (.str x tk)) Q E s:=by
 obtain ⟨o,es,ep,t,ho,so,hl,hm⟩:=h;have hd:o.data=.set es ep t:=by rw [so.obj]
 have hkey:(PySem.strKind prog w).is x (.str x tk)=true:=strKind_is prog w x tk;have hsc:(Value.str x tk).scannable=true:=rfl;have hsz:es.size+1<scanBound:=by omega
 unfold setAdd;refine wpAny_holding (wpAny_bind ((PySem.strKind prog w).pyHash hkey ?_));unfold setAddHashed setAddHashedIn;refine wpAny_holding (wpAny_bind (wpAny_setState_of (s:={ s with toks:=s.toks+1 }) ho hd so.fit ?_));dsimp only;rw [byScan_of hsc (by omega) so.el];simp only [↓reduceIte];unfold setAddByScan;refine wpAny_bind (wpAny_bind (wpAny_rule (wpAny_bind (wpAny_setScan_of (s:={ s with toks:=s.toks+1 }) hkey ho hd so.fit so.el ?_))))
 cases hr:List.findIdx? (fun e=>(PySem.strKind prog w).is x e.2) es.toList with
 |some j =>
  dsimp only;obtain ⟨hj,hpj,_⟩:=List.findIdx?_eq_some_iff_getElem.mp hr;have hx:x∈xs:=(hm x).mp (List.mem_map.mpr ⟨_,List.getElem_mem hj,ziQ hpj⟩);refine wpAny_pure (wpAny_pure (q s.heap false (Heap.SameBut.refl S s.heap) ⟨o,es,ep,t,ho,so,by rw [zzW];omega,fun y=>?_⟩));rw [hm y,List.mem_append,List.mem_singleton];exact ⟨.inl,fun z=>z.elim id fun e=>by rw [e];exact hx⟩
 |none =>
  dsimp only
  have hx:x∉es.toList.map tx:=fun hx=>by
   obtain ⟨e,he,hxe⟩:=zzP hx;have:=List.findIdx?_eq_none_iff.mp hr e he;rw [← hxe,zgV so.el he] at this;cases this
  have gave:∀ (b:Bool) {s₁:Shared} {Q':Unit->Shared->Prop},Q' () s₁->wpAny (model prog w) A (match b with|true=>rule "set.scan.the-table-gave-way" | false=>pure ()) Q' E s₁:=fun b s₁ Q' hq=>by
   cases b
   .exact wpAny_pure hq
   .exact wpAny_rule hq
  have hperm:=layNew_perm t es ((PySem.strKind prog w).hash x) (.str x tk);have hfits:=layNew_fits t es ((PySem.strKind prog w).hash x) (.str x tk);have hled:=zge t es ((PySem.strKind prog w).hash x) (.str x tk);generalize layNew t es ((PySem.strKind prog w).hash x) (.str x tk)=L at hperm hfits hled ⊢;obtain ⟨es1,t1,wasD,gv⟩:=L;dsimp only at hperm hfits hled ⊢;rw [Array.toList_push] at hperm;have hel1:ElemsOf (PySem.strKind prog w) es1.toList:=(so.el.push hkey hsc).perm hperm;have sz1:es1.size=es.size+1:=by rw [← Array.length_toList,hperm.length_eq,zzW,Array.length_toList];rfl
  have hp1:(es1.toList.map tx).Perm (es.toList.map tx++[x]):=by have:=hperm.map tx;rwa [List.map_append] at this
  have nd1:(es1.toList.map tx).Nodup:=hp1.nodup_iff.mpr (List.nodup_append.mpr ⟨so.nd,by simp,fun a ha b hb e=>by rw [zzO hb] at e;exact hx (e▸ha)⟩)
  have mem1:∀ y,y∈es1.toList.map tx↔y∈xs++[x]:=fun y=>by
   rw [hp1.mem_iff,List.mem_append,List.mem_append,hm y]
  have end':∀ (es2:Array (Int×Value)) (t2:SetTable) (ep2:Nat) (h':Heap),es2.toList.Perm es1.toList->t2.fits es2.size=true->t2.led=led->t2.plain=false->Heap.SameBut S s.heap h'->h'.get? S=some { cls:=.type "set", dict:=none,data:=.set es2 ep2 t2,slots:=#[] }->Q true { s with heap:=h',toks:=s.toks+1 }:=by
   intro es2 t2 ep2 h' hp2 hf2 hl2 hpl2 hsb hg;have hpm:=hp2.map tx;have sz2:es2.size=es1.size:=by rw [← Array.length_toList,hp2.length_eq,Array.length_toList]
   refine q h' true hsb ⟨_,es2,ep2,t2,hg,⟨rfl,hel1.perm hp2,hf2,hl2,fun _=>hpl2,hpm.nodup_iff.mpr nd1⟩,?_,fun y=>by rw [hpm.mem_iff,mem1 y]⟩;rw [zzW,sz2,sz1];show es.size+1<=xs.length+1;omega
  have ob:∀ (es':Array (Int×Value)) (t':SetTable) (e:Nat) (es0:Array (Int×Value)) (t0:SetTable),Obj.putSet es' t' { cls:=.type "set", dict:=none,data:=.set es0 e t0,slots:=#[] }={ cls:=.type "set", dict:=none,data:=.set es' (e+1) t',slots:=#[] }:=fun _ _ _ _ _=>rfl
  have tail:∀ t2:SetTable,t2.fits es1.size=true->t2.led=led->t2.plain=false->wpAny (model prog w) A (do
    storeSet S es1 t2
    if (!wasD&&t2.tooFull)=true then do
      (match (relayAll t2 es1 (SetTable.grown es1.size)).2.2 with|true=>rule "set.scan.the-table-gave-way" | false=>pure ())
      storeSet S (relayAll t2 es1 (SetTable.grown es1.size)).1 (relayAll t2 es1 (SetTable.grown es1.size)).2.1
      pure (some true)
     else pure (some true)) (fun r s'=>wpAny (model prog w) A (match r with|some added=>pure added|none=>setAddHashedIn S (.str x tk) ((PySem.strKind prog w).hash x) 99999) Q E s') E { s with toks:=s.toks+1 }:=by
   intro t2 hf2 hl2 hp2;refine wpAny_bind (wpAny_storeSet_of (s:={ s with toks:=s.toks+1 }) ho hd ?_ (fits_of_scanBound (by omega)))
   have g1:(s.heap.update S (Obj.putSet es1 t2)).get? S=some { cls:=.type "set", dict:=none,data:=.set es1 (ep+1) t2,slots:=#[] }:=by
    have:=Heap.get?_update_self (Obj.putSet es1 t2) ho (by rw [so.obj];rfl);rw [so.obj,ob] at this;exact this
   have sb1:=Heap.SameBut.update s.heap S (Obj.putSet es1 t2)
   split
   .have hp:=relayAll_perm t2 es1 (SetTable.grown es1.size);have hfr:=relayAll_fits t2 es1 (SetTable.grown es1.size);have hlr:=zb9 t2 es1 (SetTable.grown es1.size);generalize relayAll t2 es1 (SetTable.grown es1.size)=Rl at hp hfr hlr ⊢;obtain ⟨es2,t3,gv2⟩:=Rl;dsimp only at hp hfr hlr ⊢;have sz2:es2.size=es1.size:=by rw [← Array.length_toList,hp.length_eq,Array.length_toList]
    refine wpAny_bind (gave gv2 ?_);refine wpAny_bind (wpAny_storeSet_of (s:={ s with heap:=s.heap.update S (Obj.putSet es1 t2),toks:=s.toks+1 }) g1 rfl ?_ (fits_of_scanBound (by omega)));refine wpAny_pure (wpAny_pure (end' es2 t3 (ep+2) _ hp hfr (hlr.1.trans hl2) (hlr.2 hp2) (sb1.trans (Heap.SameBut.update _ S _)) ?_));have:=Heap.get?_update_self (Obj.putSet es2 t3) g1 rfl;rw [ob] at this;exact this
   .exact wpAny_pure (wpAny_pure (end' es1 t2 (ep+1) _ (.refl _) hf2 hl2 hp2 sb1 g1))
  refine wpAny_bind (gave gv ?_)
  split
  .refine wpAny_bind ?_;rw [hashByValue_scannable 8 hsc];refine wpAny_pure ?_;exact tail { t1 with plain:=false } (SetTable.fits_plain_off hfits) (hled.trans so.led) rfl
  .rename_i hpl;refine wpAny_bind (wpAny_pure ?_);exact tail t1 hfits (hled.trans so.led) (by simpa using hpl)
end
section
variable {prog : Program} {w : World} {A : Around} {R : Result → Shared → Prop} {I : Addr} {fp wr : List Addr} {G : Array GenState → Array GenState → Prop} {n : Nat} {P : Nat → Value → Prop} {St : Nat → Shared → Prop} {S : Addr} {led : Bool}
theorem gN.other {h h':Heap} {xs:List Str} (t:gN prog w h S led xs) (k:∀ o,h.get? S=some o->h'.get? S=some o):gN prog w h' S led xs:=by
 obtain ⟨o,es,ep,tb,ho,r⟩:=t;exact ⟨o,es,ep,tb,k o ho,r⟩
theorem zaq (W:WalksS prog w A.in1 I fp wr G n P St) (hSf:S∉fp) (val:Nat->Str) (hv:∀ i v,P i v->∃ t,v=.str (val i) t) (hb:n+1<scanBound) :
  ∀ (k i:Nat) (s:Shared),i+k=n->St i s->gN prog w s.heap S led ((List.range i).map val) ->
   (∀ s',Moved (S::wr) G s s'->gN prog w s'.heap S led ((List.range n).map val)->R (.ok (.ret .none)) s') ->
   codeAny (model prog w) A (.builtin "set.update.loop" ⟨[.ref S,.ref I],[]⟩) R s:=by
 have nw:S∉wr:=fun h=>hSf (W.sub _ h);have up:∀ b∈wr,b∈S::wr:=fun b hb=>List.mem_cons_of_mem _ hb;intro k
 induction k with
 |zero =>
  intro i s e st hS hR;obtain rfl:i=n:=by omega
  refine codeAny_builtin PyProof.Rows.F.entry_set_update_loop ?_;rw [Around.under_plainId PyProof.Rows.F.plain_set_update_loop _];refine wpAny_bind (m:=pyNext (.ref I)) (W.done s _ _ st fun s' hm=>?_);exact wpAny_pure (hR s' (hm.mono up) (hS.other fun o ho=>hm.heap S o nw ho))
 |succ k ih =>
  intro i s e st hS hR;have hi:i<n:=by omega
  refine codeAny_builtin PyProof.Rows.F.entry_set_update_loop ?_;rw [Around.under_plainId PyProof.Rows.F.plain_set_update_loop _];refine wpAny_bind (m:=pyNext (.ref I)) (W.item i s _ _ hi st fun v s' hP st' hm=>?_);obtain ⟨tk,rfl⟩:=hv i v hP;have hS':=hS.other fun o ho=>hm.heap S o nw ho;refine wpAny_bind (m:=holding _ _) (wpAny_holding (zdF (x:=val i) (tk:=tk) hS' (by rw [zzM,List.length_range];omega) fun h' b sb h2=>?_));have h3:gN prog w h' S led ((List.range (i+1)).map val):=by rw [List.range_succ,List.map_append];exact h2
  refine wpAny_pure ⟨plainId_quiet PyProof.Rows.F.plain_set_update_loop _,ih (i+1) _ (by omega) (W.frame _ s' _ _ st' (Nat.le_succ _) fun b hb o e=>?_) h3 fun s'' hm' hS''=>?_⟩
  .rw [sb.2 b fun z=>hSf (z▸hb)];exact e
  .refine hR s'' (Moved.trans W.gtrans ((hm.mono up).then_heap (Nat.le_succ _) fun b o hb e=>?_) hm') hS'';rw [sb.2 b fun z=>hb (z▸zzT)];exact e
end
section
variable {prog : Program} {w : World} {A : Around} {E : Value → Shared → Prop} {s : Shared}
def wK (w:World):Bool:=!w.params.followText "set-order"
abbrev sC (led:Bool):Obj:={ cls:=.type "set", dict:=none,data:=.set #[] 0 (.fresh 0 0 led) }
theorem zfA (a:Value) {Q:Value->Shared->Prop} (h:Q (.ref s.heap.objs.size) { s with heap:=s.heap.push (sC (wK w)) }) :
  codeAny (model prog w) A (.call (.builtin "set.__new__") ⟨[.type "set", a],[]⟩) (wants Q E) s:=by
 apply codeAny_of_tree
 apply wpAny_bind (m:=checkBuiltinCall "set.__new__" _)
 apply wpAny_of_eq (PySem.F.newCall_set_1 a)
 refine wpAny_pure ⟨plainId_quiet PySem.F.plain_set_new _,codeAny_builtin PySem.F.entry_set_new ?_⟩
 rw [Around.under_plainId PySem.F.plain_set_new _]
 have u:=PySem.sub_set_self
 cases s
 wp_walk using wpAny_askSetting
 exact h
theorem dF:∀ {vs:List Value} {ss:List Str},StrsAre vs ss->∀ (i:Nat) (v:Value),vs[i]?=some v->∃ t,v=.str (ss.getD i "") t
 |_,_,.nil,i,v,h=>by simp at h
 |_,_,.cons x t hr,0,v,h=>by simp at h;exact ⟨t,h.symm⟩
 |_,_,.cons x t hr,i+1,v,h=>by
  simp only [List.getElem?_cons_succ] at h;obtain ⟨t',e⟩:=dF hr i v h;exact ⟨t',by rw [e];rfl⟩
theorem nQ (ss:List Str):((List.range ss.length).map fun i=>ss.getD i "")=ss:=qV (α:=Str) "" ss
theorem qA:∀ {vs:List Value} {ss:List Str},StrsAre vs ss->vs.length=ss.length
 |_,_,.nil=>rfl
 |_,_,.cons x t h=>by rw [List.length_cons,List.length_cons,qA h]
theorem wm0 {P Q:Value->Shared->Prop} {c:Code} (h:codeAny (model prog w) A c (wants P E) s) (f:∀ v s',P v s'->Q v s'):codeAny (model prog w) A c (wants Q E) s:=by
 refine codeAny_mono h fun r s' hr=>?_
 rcases r with e|(_|_|_|v) <;> first|exact hr|exact f _ _ hr
theorem tc0 {T nw ini:String} {as:List Value} {N Q:Value->Shared->Prop} (ft:TypeCalled T nw ini) (ck:checkTypeCall T ⟨as,[]⟩=pure ())
  (hn:codeAny (model prog w) A.in1 (.call (.builtin nw) ⟨.type T::as,[]⟩) (wants N E) s)
  (hi:∀ o t,N o t->t.TypeIs o T/\codeAny (model prog w) A.in1 (.call (.builtin ini) ⟨o::as,[]⟩) (wants (fun r t'=>r=.none/\Q o t') E) t) :
  wpAny (model prog w) A (call (.type T) as) Q E s:=by
 obtain ⟨c,tl,t5⟩:=ft.mro
 have t1:=ft.notType
 have t2:=ft.canCreate
 have t3:=ft.made
 have t4:=ft.sub
 apply wpAny_call
 apply codeAny_of_tree
 apply wpAny_pure
 refine ⟨Code.quiet_builtin _ (by decide +kernel),codeAny_builtin PySem.F.entry_type_call ?_⟩
 rw [Around.under_plain (weight_type_call_type T as []) rfl]
 wp_walk
 refine wm0 hn fun o t ho=>?_
 obtain ⟨t6,t7⟩:=hi o t ho
 have t8:=ft.init.lookup
 have t9:=ft.init.bind o
 wp_walk
 refine wm0 t7 fun r t' hr=>?_
 obtain ⟨rfl,q⟩:=hr
 wp_walk
 exact q
theorem sw0 {b:Bool} (hh:A.handled=none) (I l:Addr) (ne:l≠I) (xs:Array Value) :
  Walks prog w A I [I,l] [I] xs.size (fun i v=>xs[i]?=some v) (fun i h=>uF b h I l i/\sK b h l xs):=by
 cases b
 .exact Walks.list hh I l ne xs
 .exact Walks.tuple hh I l ne xs
theorem sc0 {b:Bool} {h:Heap} {l:Addr} {xs:Array Value} (x:sK b h l xs):∃ c o,h.get? l=some o/\o.cls=.type c/\(Value.type c==Value.type "dict")=false/\isSubtype (.type c) (.type "set")=pure false/\isSubtype (.type c) (.type "frozenset")=pure false:=by
 cases b
 .obtain ⟨o,ho,hc,_⟩:=x
  exact ⟨_,o,ho,hc,by decide,PySem.F.sub_list_set,PySem.F.sub_list_frozenset⟩
 .obtain ⟨o,ho,hc,_⟩:=x
  exact ⟨_,o,ho,hc,by decide,PySem.F.sub_tuple_set,PySem.F.sub_tuple_frozenset⟩
theorem zdE {b:Bool} {l:Addr} {items:Array Value} {ss:List Str} {Q:Value->Shared->Prop} (hh:A.handled=none) (hl:sK b s.heap l items) (hi:StrsAre items.toList ss) (hb:items.size+1<scanBound)
  (h:∀ (h':Heap) (tk:Nat),gN prog w h' s.heap.objs.size (wK w) ss->(∀ b o,b<s.heap.objs.size->s.heap.get? b=some o->h'.get? b=some o)->Q (.ref s.heap.objs.size) { s with heap:=h',toks:=tk }) :
  wpAny (model prog w) A (call (.type "set") [.ref l]) Q E s:=by
 refine tc0 (N:=fun o t=>o=.ref s.heap.objs.size/\t={ s with heap:=s.heap.push (sC (wK w)) }) PySem.F.called_set (PySem.F.typeCall_set_1 _) (zfA _ ⟨rfl,rfl⟩) ?_
 rintro _ _ ⟨rfl,rfl⟩
 have hS:(s.heap.push (sC (wK w))).get? s.heap.objs.size=some (sC (wK w)):=Heap.get?_push_size _ rfl
 have ty:Shared.TypeIs { s with heap:=s.heap.push (sC (wK w)) } (.ref s.heap.objs.size) "set" := ⟨_,hS,rfl⟩
 refine ⟨ty,codeAny_call_builtin PySem.F.called_set.init.plain PySem.F.entry_set_init (check_set_init_1 ty ?_)⟩
 have sq:sK b (s.heap.push (sC (wK w))) l items:=hl.at fun o e=>Heap.get?_push_of_some _ e
 obtain ⟨c,⟨oc,od,oda,osl⟩,g,e,u3,u1,u2⟩:=sc0 sq
 cases e
 have lt:l<s.heap.objs.size:=by
  obtain ⟨c',o',g',_⟩:=sc0 hl
  exact Heap.lt_size g'
 wp_walk using kO sq
 have nl:l≠(s.heap.push (sC (wK w))).objs.size:=by rw [Heap.size_push];exact Nat.ne_of_lt (Nat.lt_succ_of_lt lt)
 have nf:s.heap.objs.size∉[(s.heap.push (sC (wK w))).objs.size,l]:=by
  intro m
  rw [Heap.size_push,List.mem_cons,List.mem_singleton] at m
  exact m.elim (Nat.ne_of_lt (Nat.lt_succ_self _)) (Nat.ne_of_gt lt)
 refine zaq (led:=wK w) (sw0 (b:=b) (by simp [hh]) _ l nl items).toS nf (fun i=>ss.getD i "") (fun i v hv=>dF hi i v (by rw [Array.getElem?_toList];exact hv)) hb items.size 0 _ (Nat.zero_add _) ⟨⟨_,Heap.get?_push_size _ rfl,rfl,rfl⟩,sq.at fun o e=>Heap.get?_push_of_some _ e⟩ (⟨_,#[],0,_,Heap.get?_push_of_some _ hS,⟨rfl,fun e he=>by simp at he,by rfl,rfl,fun z=>absurd rfl z,by simp⟩,Nat.zero_le _,fun x=>by simp⟩) ?_
 intro t mv hT
 have e:t={ s with heap:=t.heap,toks:=t.toks }:=by
  have e1:=mv.gens
  have e2:=mv.drawn
  have e3:=mv.os
  cases t
  simp only at e1 e2 e3
  rw [e1,e2,e3]
 have ln:=qA hi
 rw [Array.length_toList] at ln
 rw [ln,nQ] at hT
 wp_walk
 refine ⟨rfl,e▸h t.heap t.toks hT fun c o hc g=>mv.heap c o (fun m=>?_) (Heap.get?_push_of_some _ (Heap.get?_push_of_some _ g))⟩
 rw [Heap.size_push,List.mem_cons,List.mem_singleton] at m
 exact m.elim (Nat.ne_of_lt hc) (Nat.ne_of_lt (Nat.lt_succ_of_lt hc))
end
namespace SI
theorem slot_next:Slot "set_iterator" "__next__" "set_iterator.__next__" :=
 .of (owner := "set_iterator") (n := "__next__") (by rw [typeLookup_type,builtinLookup_eq_fast];kernel_rfl) (by decide +kernel) (by decide +kernel) (by decide +kernel) (by first|exact .inl (by decide +kernel)|exact .inr (by decide +kernel)) (by rw [isSubtype_type];kernel_rfl)
theorem slot_iter:Slot "set_iterator" "__iter__" "set_iterator.__iter__" :=
 .of (owner := "set_iterator") (n := "__iter__") (by rw [typeLookup_type,builtinLookup_eq_fast];kernel_rfl) (by decide +kernel) (by decide +kernel) (by decide +kernel) (by first|exact .inl (by decide +kernel)|exact .inr (by decide +kernel)) (by rw [isSubtype_type];kernel_rfl)
theorem entry_next:entryFor table "set_iterator.__next__" = some Builtin.«set_iterator.__next__»:=entryFor_of_tree (by kernel_rfl)
theorem entry_iter:entryFor table "set_iterator.__iter__" = some Builtin.«dict_keyiterator.__iter__» :=
 entryFor_alias (id' := "dict_keyiterator.__iter__") (by kernel_rfl) rfl (by decide +kernel) (by kernel_rfl)
theorem entry_siter:entryFor table "set.__iter__" = some Builtin.«frozenset.__iter__» :=
 entryFor_alias (id' := "frozenset.__iter__") (by kernel_rfl) rfl (by decide +kernel) (by kernel_rfl)
theorem args_next (a:Value):argsOk "set_iterator.__next__" ⟨[a],[]⟩:=by unfold argsOk;kernel_rfl
theorem args_iter (a:Value):argsOk "set_iterator.__iter__" ⟨[a],[]⟩:=by unfold argsOk;kernel_rfl
end SI
abbrev itO (first:Value) (i:Nat) (S:Addr) (n ep:Nat):Obj:={ cls:=.type "set_iterator", data:=.fields #[first,.int i 0,.ref S,.int n 0,.int ep 0] }
section
variable {prog : Program} {w : World} {A : Around} {E : Value → Shared → Prop} {s : Shared} {I S : Addr} {first : Value} {i n ep : Nat} {led : Bool} {o : Obj} {es : Array (Int × Value)} {t : SetTable}
theorem sD {Q:Value->Shared->Prop} (hI:s.heap.get? I=some (itO first i S n ep)) (h:Q (.ref I) s):wpAny (model prog w) A (pyIter (.ref I)) Q E s:=by
 have hT:s.TypeIs (.ref I) "set_iterator" := ⟨_,hI,rfl⟩;refine wpAny_pyIter_slot hT SI.slot_iter (wpAny_call_entry SI.slot_iter hT SI.entry_iter ?_ (SI.args_iter _));show wpAny (model prog w) _ (ret (.ref I)) _ _ s;exact wpAny_pure ⟨_,rfl, "set_iterator", _,hT,SI.slot_next.lookup,h⟩
theorem dE {B:Around} {Q:Fin->Shared->Prop} {Er:Value->Shared->Prop} (hh:B.handled=none) (h:∀ (h':Heap) (e:Addr),(∀ b o,s.heap.get? b=some o->h'.get? b=some o)->Shared.TypeIs { s with heap:=h' } (.ref e) "StopIteration" -> Er (.ref e) { s with heap:=h' }) :
  wpAny (model prog w) B (do raiseNew (← newExc (.type "StopIteration") [])) Q Er s:=by
 refine wpAny_bind ?_;simp only [newExc,newTuple];refine wpAny_bind (wpAny_newObj_type ?_ (by size_fits));refine wpAny_bind (m:=firstArgMember _ _) (wpAny_of_eq (a:=Value.none) (by first|rfl|(simp only [firstArgMember];rfl)) ?_);refine wpAny_newObj_type ?_ (by size_fits);simp only [raiseNew];refine wpAny_bind (wpAny_handled ?_);rw [hh];refine wpAny_bind (wpAny_pure (wpAny_throw ?_));exact h _ _ (fun b o e=>Heap.get?_push_of_some _ (Heap.get?_push_of_some _ e)) ⟨_,Heap.get?_push_size _ rfl,rfl⟩
theorem uT {Q:Option Value->Shared->Prop} (hI:s.heap.get? I=some (itO first i S es.size ep)) (ho:s.heap.get? S=some o) (so:SetO prog w o led es ep t)
  (h:wpAny (model prog w) A.in1 (if let .int slot _:=first then do
    match ← setNext S slot.toNat i ep with
    |some (x,next) =>
     setField (.ref I) 0 (rawInt next)
     setField (.ref I) 1 (rawInt ((i:Int)+1))
     ret x
    |none=>do setField (.ref I) 2 .none;raiseNew (← newExc (.type "StopIteration") [])
   else do
    let some places ← seqItems? first|unsupported "internal:set_iterator"
    match places[i]? with
    |some (.int place _) =>
     let x ← setNextDrawn S place.toNat ep
     setField (.ref I) 1 (rawInt ((i:Int)+1))
     ret x
    |some _=>unsupported "internal:set_iterator"
    |none=>do setField (.ref I) 0 (rawInt 0);setField (.ref I) 2 .none;raiseNew (← newExc (.type "StopIteration") []))
   (fun fin s'=>∃ r,fin=.done (.ret r)/\Q (some r) s') (fun e s'=>s'.TypeIs e "StopIteration" /\ Q none s') s):wpAny (model prog w) A (pyNext (.ref I)) Q E s:=by
 have hT:s.TypeIs (.ref I) "set_iterator" := ⟨_,hI,rfl⟩;have hd:o.data=.set es ep t:=by rw [so.obj]
 unfold pyNext;refine wpAny_bind (wpAny_attempt (wpAny_callSpecial?_slot (name:=Str.ofString "__next__") hT SI.slot_next (wpAny_call_entry SI.slot_next hT SI.entry_next ?_ (SI.args_next _))));unfold Builtin.«set_iterator.__next__»;refine wpAny_bind (m:=slotArgs "__next__" 0 _) (wpAny_pure ?_);refine wpAny_bind (wpAny_fieldsOf hI rfl ?_);dsimp only;refine wpAny_bind (wpAny_setEntries_of ho hd so.fit ?_);rw [if_neg (by simp)];simp only [Int.toNat_natCast];refine wpAny_mono h (fun fin s' z=>?_) fun e s' z=>?_
 .obtain ⟨r,e,q⟩:=z;exact ⟨r,e,wpAny_pure q⟩
 .exact wpAny_bind (wpAny_isInstance (T := "StopIteration") (b:=true) z.1 isSubtype_stop (wpAny_pure z.2))
end
section
variable {prog : Program} {w : World} {A : Around} {I S T : Addr} {ep : Nat} {led : Bool} {o : Obj} {es : Array (Int × Value)} {t : SetTable}
abbrev Gs:Array GenState->Array GenState->Prop:=fun a b=>b=a
theorem wM {s:Shared} {f:Obj->Obj}:Moved [I] Gs s { s with heap:=s.heap.update I f } :=
 ⟨fun b o hb e=>(Heap.get?_update_other _ _ fun z:I=b=>hb (by simp [z])).trans e,rfl,rfl,rfl,zzR _⟩
theorem Moved.more {s s':Shared} {h':Heap} (m:Moved [I] Gs s s') (k:∀ b o,s'.heap.get? b=some o->h'.get? b=some o):Moved [I] Gs s { s' with heap:=h' }:=m.then_heap (zzR _) fun b o _ e=>k b o e
theorem kE {s:Shared} {E:Value->Shared->Prop} {Q:Bool->Shared->Prop} (h:Q (w.params.followText "set-order") s):wpAny (model prog w) A setsByText Q E s:=by
 unfold setsByText;exact wpAny_bind (wpAny_askSetting (wpAny_pure h))
def tupO (ord:List Nat):Obj:={ cls:=.type "tuple", data:=.seq (ord.map fun i=>rawInt (i:Nat)).toArray }
def gL (es:Array (Int×Value)) (j:Nat):Value:=(es[j]?.map (·.2)).getD .none
theorem uR {h:Heap} {first x:Value} {i n k:Nat} (hI:h.get? I=some (itO first i S n ep)):(h.update I (Obj.mapFields (·.setIfInBounds k x))).get? I=some { cls:=.type "set_iterator", data:=.fields (#[first,.int i 0,.ref S,.int n 0,.int ep 0].setIfInBounds k x) }:=by
 have:=Heap.get?_update_self (Obj.mapFields (·.setIfInBounds k x)) hI rfl;exact this
theorem za2 {ord:List Nat} (hh:A.handled=none) (hIS:I≠S) (hIT:I≠T) (so:SetO prog w o led es ep t) (hord:∀ j∈ord,j<es.size) (hn:ord.length=es.size) :
  WalksS prog w A I [I,T,S] [I] Gs es.size (fun i v=>∃ j,ord[i]?=some j/\v=gL es j) (fun i s=>s.heap.get? I=some (itO (.ref T) i S es.size ep)/\s.heap.get? T=some (tupO ord)/\s.heap.get? S=some o) where
 sub:=fun b hb=>by simp only [List.mem_singleton] at hb;simp [hb]
 grefl:=fun _=>rfl
 gtrans:=fun _ _ _ h1 h2=>h2.trans h1
 frame:=fun i s h' tk st _ k=>⟨k I (by simp) _ st.1,k T (by simp) _ st.2.1,k S (by simp) _ st.2.2⟩
 item:=fun i s Q E hi st q=>by
  obtain ⟨h1,h2,h3⟩:=st;have hd:o.data=.set es ep t:=by rw [so.obj]
  refine uT h1 h3 so ?_;dsimp only;refine wpAny_bind (wpAny_seqItems h2 rfl ?_);have hi':i<ord.length:=by omega
  have e:((ord.map fun i=>rawInt (i:Nat)).toArray)[i]?=some (rawInt (ord[i]:Nat)):=by
   rw [List.getElem?_toArray,List.getElem?_map,List.getElem?_eq_getElem hi'];rfl
  dsimp only;rw [e];have hj:=hord _ (List.getElem_mem hi');show wpAny _ _ (setNextDrawn S ((ord[i]:Nat):Int).toNat ep >>= _) _ _ s;unfold setNextDrawn;refine wpAny_bind (wpAny_bind (wpAny_setState_of h3 hd so.fit ?_));dsimp only;rw [if_neg (by simp),Int.toNat_natCast,Array.getElem?_eq_getElem hj];refine wpAny_pure (wpAny_bind (wpAny_setField h1 rfl (by simp) (wpAny_pure ⟨_,rfl,q _ _ ⟨_,List.getElem?_eq_getElem hi',?_⟩ ⟨?_,?_,?_⟩ wM⟩)))
  .unfold gL;rw [Array.getElem?_eq_getElem hj];rfl
  .rw [uR h1];rfl
  .exact (Heap.get?_update_other _ _ hIT).trans h2
  .exact (Heap.get?_update_other _ _ hIS).trans h3
 done:=fun s Q E st q=>by
  obtain ⟨h1,h2,h3⟩:=st;refine uT h1 h3 so ?_;dsimp only;refine wpAny_bind (wpAny_seqItems h2 rfl ?_)
  have e:((ord.map fun i=>rawInt (i:Nat)).toArray)[es.size]?=none:=by
   rw [List.getElem?_toArray,List.getElem?_eq_none_iff,zzM];omega
  dsimp only;rw [e];refine wpAny_bind (wpAny_setField h1 rfl (by simp) ?_);refine wpAny_bind (wpAny_setField (uR h1) rfl (by simp) ?_);refine dE (show A.in1.handled=none from hh) fun h' e k hT=>⟨hT,q _ ?_⟩;exact Moved.more (Moved.trans (fun _ _ _ h1 h2=>h2.trans h1) wM wM) k
 self:=fun i s Q E st q=>sD st.1 q
theorem zbB {ord:List (Int×Value)} (hh:A.handled=none) (hIS:I≠S) (so:SetO prog w o led es ep t) (hb:w.params.followText "set-order" = true) (ho:(pickOrder (w.params.setOrder S ep) es).toList=ord) (hn:ord.length=es.size) :
  WalksS prog w A I [I,S] [I] Gs es.size (fun i v=>∃ e,ord[i]?=some e/\v=e.2) (fun i s=>s.heap.get? I=some (itO (.int 0 0) i S es.size ep)/\s.heap.get? S=some o) where
 sub:=fun b hb=>by simp only [List.mem_singleton] at hb;simp [hb]
 grefl:=fun _=>rfl
 gtrans:=fun _ _ _ h1 h2=>h2.trans h1
 frame:=fun i s h' tk st _ k=>⟨k I (by simp) _ st.1,k S (by simp) _ st.2⟩
 item:=fun i s Q E hi st q=>by
  obtain ⟨h1,h3⟩:=st;have hd:o.data=.set es ep t:=by rw [so.obj]
  refine uT h1 h3 so ?_;dsimp only;have hi':i<ord.length:=by omega
  unfold setNext setWalk;refine wpAny_bind (wpAny_bind (wpAny_setState_of h3 hd so.fit (wpAny_bind (kE ?_))));rw [hb];dsimp only;rw [if_pos rfl,if_neg (by simp)];refine wpAny_bind (wpAny_bind (wpAny_setState_of h3 hd so.fit (wpAny_bind (kE ?_))));rw [hb];dsimp only;rw [if_pos rfl];refine wpAny_bind (wpAny_askSetting (wpAny_pure (wpAny_pure ?_)))
  have e:(pickOrder ((model prog w).w.params.setOrder S ep) es)[i]?=some ord[i]:=by
   rw [← Array.getElem?_toList];show (pickOrder (w.params.setOrder S ep) es).toList[i]?=_;rw [ho];exact List.getElem?_eq_getElem hi'
  rw [e];refine wpAny_bind (wpAny_setField h1 rfl (by simp) ?_);refine wpAny_bind (wpAny_setField (uR h1) rfl (by simp) (wpAny_pure ⟨_,rfl,q _ _ ⟨_,List.getElem?_eq_getElem hi',rfl⟩ ⟨?_,?_⟩ (Moved.trans (fun _ _ _ h1 h2=>h2.trans h1) wM wM)⟩))
  .have:=Heap.get?_update_self (Obj.mapFields (·.setIfInBounds 1 (rawInt ((i:Int)+1)))) (uR (k:=0) (x:=rawInt ((0:Int).toNat:Nat)) h1) rfl;exact this
  .exact (Heap.get?_update_other _ _ hIS).trans ((Heap.get?_update_other _ _ hIS).trans h3)
 done:=fun s Q E st q=>by
  obtain ⟨h1,h3⟩:=st;have hd:o.data=.set es ep t:=by rw [so.obj]
  refine uT h1 h3 so ?_;dsimp only;unfold setNext setWalk;refine wpAny_bind (wpAny_bind (wpAny_setState_of h3 hd so.fit (wpAny_bind (kE ?_))));rw [hb];dsimp only;rw [if_pos rfl,if_neg (by simp)];refine wpAny_bind (wpAny_bind (wpAny_setState_of h3 hd so.fit (wpAny_bind (kE ?_))));rw [hb];dsimp only;rw [if_pos rfl];refine wpAny_bind (wpAny_askSetting (wpAny_pure (wpAny_pure ?_)))
  have e:(pickOrder ((model prog w).w.params.setOrder S ep) es)[es.size]?=none:=by
   rw [← Array.getElem?_toList];show (pickOrder (w.params.setOrder S ep) es).toList[es.size]?=_;rw [ho,List.getElem?_eq_none_iff];omega
  rw [e];refine wpAny_bind (wpAny_setField h1 rfl (by simp) ?_);refine dE (show A.in1.handled=none from hh) fun h' e k hT=>⟨hT,q _ ?_⟩;exact Moved.more wM k
 self:=fun i s Q E st q=>sD st.1 q
def tH (t:SetTable) (i:Nat):Nat:=if i=0 then 0 else t.place.getD 0 0+1
theorem dN {p:Array Nat} {j:Nat} (h:p.size=1):SetTable.below p j=if p.getD 0 j<j then 1 else 0:=by
 unfold SetTable.below;rw [h];simp only [SetTable.below.go,Nat.lt_irrefl,if_false];rfl
theorem zdl (hh:A.handled=none) (hIS:I≠S) (so:SetO prog w o led es ep t) (hb:w.params.followText "set-order" = false) (hl:led=true) (h1:es.size<=1) :
  WalksS prog w A I [I,S] [I] Gs es.size (fun i v=>v=gL es i) (fun i s=>s.heap.get? I=some (itO (.int (tH t i:Nat) 0) i S es.size ep)/\s.heap.get? S=some o) where
 sub:=fun b hb=>by simp only [List.mem_singleton] at hb;simp [hb]
 grefl:=fun _=>rfl
 gtrans:=fun _ _ _ h1 h2=>h2.trans h1
 frame:=fun i s h' tk st _ k=>⟨k I (by simp) _ st.1,k S (by simp) _ st.2⟩
 item:=fun i s Q E hi st q=>by
  obtain ⟨g1,g3⟩:=st;have hd:o.data=.set es ep t:=by rw [so.obj]
  obtain rfl:i=0:=by omega
  have hs1:es.size=1:=by omega
  have hp1:t.place.size=1:=by
   have:=so.fit;simp only [SetTable.fits,Bool.and_eq_true,beq_iff_eq] at this;omega
  refine uT g1 g3 so ?_;dsimp only;unfold setNext;refine wpAny_bind (wpAny_bind (wpAny_setState_of g3 hd so.fit (wpAny_bind (kE ?_))));rw [hb];dsimp only;rw [if_neg zzN]
  split
  .rename_i hdr;have hdr:(!t.plain&&decide (es.size > 1))=true:=hdr;rw [hs1] at hdr;simp at hdr
  refine wpAny_bind ?_;show wpAny (model prog w) _ (if (!t.led&&!es.isEmpty)=true then _ else pure ()) _ _ _;rw [so.led,hl,if_neg (by simp)];refine wpAny_pure (wpAny_pure ?_)
  have e0:SetTable.below t.place ((tH t 0:Nat):Int).toNat=0:=by
   rw [Int.toNat_natCast,dN hp1];simp [tH]
  rw [e0];have e1:es[0]?=some es[0]:=by simp [hs1]
  have e2:t.place[0]?=some t.place[0]:=by simp [hp1]
  rw [e1,e2];refine wpAny_bind (wpAny_setField g1 rfl (by simp) ?_);refine wpAny_bind (wpAny_setField (uR g1) rfl (by simp) (wpAny_pure ⟨_,rfl,q _ _ ?_ ⟨?_,?_⟩ (Moved.trans (fun _ _ _ h1 h2=>h2.trans h1) wM wM)⟩))
  .unfold gL;rw [e1];rfl
  .have:=Heap.get?_update_self (Obj.mapFields (·.setIfInBounds 1 (rawInt (((0:Nat):Int)+1)))) (uR (k:=0) (x:=rawInt ((t.place[0]+1:Nat):Int)) g1) rfl;have e:tH t (0+1)=t.place[0]+1:=by simp [tH,hp1]
   rw [e];exact this
  .exact (Heap.get?_update_other _ _ hIS).trans ((Heap.get?_update_other _ _ hIS).trans g3)
 done:=fun s Q E st q=>by
  obtain ⟨g1,g3⟩:=st;have hd:o.data=.set es ep t:=by rw [so.obj]
  have hps:t.place.size=es.size:=by
   have:=so.fit;simp only [SetTable.fits,Bool.and_eq_true,beq_iff_eq] at this;exact this.1
  refine uT g1 g3 so ?_;dsimp only;unfold setNext;refine wpAny_bind (wpAny_bind (wpAny_setState_of g3 hd so.fit (wpAny_bind (kE ?_))));rw [hb];dsimp only;rw [if_neg zzN]
  split
  .rename_i hdr;have hdr:(!t.plain&&decide (es.size > 1))=true:=hdr;simp at hdr;omega
  refine wpAny_bind ?_;show wpAny (model prog w) _ (if (!t.led&&!es.isEmpty)=true then _ else pure ()) _ _ _;rw [so.led,hl,if_neg (by simp)];refine wpAny_pure (wpAny_pure ?_)
  have e0:es[SetTable.below t.place ((tH t es.size:Nat):Int).toNat]?=none:=by
   rw [Int.toNat_natCast];have hc:es.size=0\/es.size=1:=by omega
   rcases hc with hc|hc
   .simp [hc]
   .rw [dN (by rw [hps,hc]),hc]
    have:t.place.getD 0 (tH t 1)<tH t 1:=by
     simp [tH,hps,hc]
    rw [if_pos this];simp [hc]
  rw [e0];refine wpAny_bind (wpAny_setField g1 rfl (by simp) ?_);refine dE (show A.in1.handled=none from hh) fun h' e k hT=>⟨hT,q _ ?_⟩;exact Moved.more wM k
 self:=fun i s Q E st q=>sD st.1 q
end
section
variable {prog : Program} {w : World} {A : Around} {E : Value → Shared → Prop} {s : Shared} {S : Addr} {ep : Nat} {o : Obj} {es : Array (Int × Value)} {t : SetTable}
theorem zc7 {src:Source} {n:Nat} {Q:Nat->Shared->Prop} (hn:n≠0) (h:∀ i d,i<n->Q i { s with drawn:=d }):wpAny (model prog w) A (choose src n) Q E s:=fun Γ p hΓ=>by
 unfold choose;rw [Sem.wp_choose];exact ⟨hn,h _ _ (Nat.mod_lt _ (Nat.pos_of_ne_zero hn))⟩
theorem tT {α:Type}:∀ {l:List α} {i:Nat} (h:i<l.length),(l[i]::l.eraseIdx i).Perm l
 |x::l,0,_=>.refl _
 |x::l,i+1,h=>by
  have h':i<l.length:=by simpa using h
  show (l[i]::x::l.eraseIdx i).Perm (x::l);exact (List.Perm.swap _ _ _).trans ((tT h').cons x)
theorem zbr {α:Type}:∀ (n:Nat) (xs:List α) (s:Shared) {Q:List α->Shared->Prop},n=xs.length->(∀ ys d,ys.Perm xs->Q ys { s with drawn:=d })->wpAny (model prog w) A (drawOrder n xs) Q E s:=by
 intro n
 induction n with
 |zero =>
  intro xs s Q e h
  cases xs with
  |nil=>exact wpAny_pure (h [] s.drawn (.refl _))
  |cons x xs=>cases e
 |succ n ih =>
  intro xs s Q e h
  cases xs with
  |nil=>cases e
  |cons x xs =>
   show wpAny _ _ (choose .order (x::xs).length >>= _) _ _ _;refine wpAny_bind (zc7 (by simp) fun i d hi=>?_);rw [List.getElem?_eq_getElem hi];refine wpAny_bind (ih _ _ (by rw [List.length_eraseIdx_of_lt hi];simp at e ⊢;omega) fun ys d' hp=>?_);refine wpAny_pure (h _ d' ((hp.cons _).trans ?_));exact tT hi
theorem WalksS.imp {I:Addr} {fp wr:List Addr} {G:Array GenState->Array GenState->Prop} {n:Nat} {P P':Nat->Value->Prop} {St:Nat->Shared->Prop} (W:WalksS prog w A I fp wr G n P St) (k:∀ i v,i<n->P i v->P' i v):WalksS prog w A I fp wr G n P' St where
 sub:=W.sub
 grefl:=W.grefl
 gtrans:=W.gtrans
 frame:=W.frame
 item:=fun i s Q E hi st q=>W.item i s Q E hi st fun v s' hP=>q v s' (k i v hi hP)
 done:=W.done
 self:=W.self
theorem zcd {α:Type} (f:Nat->Nat) (xs:Array α):(pickOrder f xs).toList.Perm xs.toList:=by
 unfold pickOrder
 have key:∀ (n k:Nat) (l:List α) (out:Array α),n=l.length->(pickOrder.go f n k l out).toList.Perm (out.toList++l):=by
  intro n
  induction n with
  |zero =>
   intro k l out e
   cases l with
   |nil=>simp [pickOrder.go]
   |cons _ _=>cases e
  |succ n ih =>
   intro k l out e;have hl:f k % l.length<l.length:=Nat.mod_lt _ (by omega);unfold pickOrder.go;rw [List.getElem?_eq_getElem hl];refine (ih (k+1) _ _ (by rw [List.length_eraseIdx_of_lt hl];omega)).trans ?_;rw [Array.toList_push,List.append_assoc];exact List.Perm.append_left _ (tT hl)
 simpa using key xs.size 0 xs.toList #[] (by simp)
structure WalkOf (prog:Program) (w:World) (s s':Shared) (S I:Addr) (n:Nat) (ys:List Str) (fp:List Addr) (St:Nat->Shared->Prop):Prop where
 wk:∀ A,A.handled=none->WalksS prog w A I fp [I] Gs n (fun i v=>∃ tk,v=.str (ys.getD i "") tk) St
 st:St 0 s'
 kp:∀ b o,s.heap.get? b=some o->s'.heap.get? b=some o
 old:∀ b∈fp,b=S\/s.heap.objs.size<=b
 new:s.heap.objs.size<=I
 rest:s'.gens=s.gens/\s'.os=s.os/\s'.toks=s.toks
theorem zeH (so:SetO prog w o (wK w) es ep t) {j:Nat} (hj:j<es.size):∃ tk,gL es j=.str ((es.toList.map tx).getD j "") tk:=by
 have hm:es[j]∈es.toList:=by simp
 have hk:=zgV so.el hm;obtain ⟨tk,e⟩:=Value.isStrOf_shape hk;refine ⟨tk,?_⟩;unfold gL;rw [Array.getElem?_eq_getElem hj]
 have e2:(es.toList.map tx).getD j "" = tx es[j]:=by
  rw [List.getD_eq_getElem?_getD,List.getElem?_map,Array.getElem?_toList,Array.getElem?_eq_getElem hj];rfl
 rw [e2];exact e
theorem zee {Q:Value->Shared->Prop} (ho:s.heap.get? S=some o) (so:SetO prog w o (wK w) es ep t) (hsz:es.size<=1000)
  (h:∀ I s' ys fp St,ys.Perm (es.toList.map tx)->WalkOf prog w s s' S I es.size ys fp St->Q (.ref I) s'):wpAny (model prog w) A (pyIter (.ref S)) Q E s:=by
 have hd:o.data=.set es ep t:=by rw [so.obj]
 have hT:s.TypeIs (.ref S) "set" := ⟨o,ho,by rw [so.obj]⟩;have hlt:S<s.heap.objs.size:=Heap.lt_size ho;refine wpAny_pyIter_slot hT PySem.F.slot_set_iter (wpAny_call_entry PySem.F.slot_set_iter hT SI.entry_siter ?_ (PySem.F.args_set_iter_1 _));unfold Builtin.«frozenset.__iter__»;refine wpAny_bind (m:=Builtin.Frozenset.slot0 "__iter__" _) (wpAny_pure ?_);unfold Builtin.Frozenset.sizeOf;refine wpAny_bind (wpAny_bind (wpAny_setEntries_of ho hd so.fit (wpAny_pure ?_)));unfold setDrawn;refine wpAny_bind (wpAny_bind (wpAny_setState_of ho hd so.fit (wpAny_bind (kE (wpAny_pure ?_)))))
 cases hb:w.params.followText "set-order" with
 |true =>
  dsimp only;rw [if_neg (by simp)];refine wpAny_bind (wpAny_pure ?_);refine wpAny_bind (wpAny_setEpoch_of ho hd so.fit (wpAny_bind (wpAny_newObj_type (wpAny_pure ⟨_,rfl, "set_iterator", _,⟨_,Heap.get?_push_size _ rfl,rfl⟩,SI.slot_next.lookup,?_⟩))));have hp:=zcd (w.params.setOrder S ep) es;have hpl:((pickOrder (w.params.setOrder S ep) es).toList.map tx).Perm (es.toList.map tx):=hp.map tx;refine h _ _ ((pickOrder (w.params.setOrder S ep) es).toList.map tx) [s.heap.objs.size,S] _ hpl ⟨fun B hB=>WalksS.imp (zbB hB (Nat.ne_of_gt hlt) so hb rfl (by rw [hp.length_eq,Array.length_toList])) fun i v hi z=>?_,⟨Heap.get?_push_size _ rfl,Heap.get?_push_of_some _ ho⟩,fun b o e=>Heap.get?_push_of_some _ e,fun b hb=>?_,zzR _,rfl,rfl,rfl⟩
  .obtain ⟨e,he,rfl⟩:=z;have hm:e∈es.toList:=hp.mem_iff.mp (List.mem_of_getElem? he);obtain ⟨tk,ev⟩:=Value.isStrOf_shape (zgV so.el hm);refine ⟨tk,?_⟩;rw [List.getD_eq_getElem?_getD,List.getElem?_map,he];exact ev
  .simp only [List.mem_cons,List.not_mem_nil,or_false] at hb;rcases hb with rfl|rfl
   .exact .inr (zzR _)
   .exact .inl rfl
 |false =>
  have hled:wK w=true:=by unfold wK;rw [hb];rfl
  dsimp only
  by_cases h1:es.size<=1
  .rw [if_neg (by
    intro z;have z:(!false&&(!t.plain&&decide (es.size > 1)))=true:=z;simp at z;omega)]
   refine wpAny_bind (wpAny_pure ?_);refine wpAny_bind (wpAny_setEpoch_of ho hd so.fit (wpAny_bind (wpAny_newObj_type (wpAny_pure ⟨_,rfl, "set_iterator", _,⟨_,Heap.get?_push_size _ rfl,rfl⟩,SI.slot_next.lookup,?_⟩))));refine h _ _ (es.toList.map tx) [s.heap.objs.size,S] _ (.refl _) ⟨fun B hB=>WalksS.imp (zdl hB (Nat.ne_of_gt hlt) so hb hled h1) fun i v hi z=>?_,⟨Heap.get?_push_size _ rfl,Heap.get?_push_of_some _ ho⟩,fun b o e=>Heap.get?_push_of_some _ e,fun b hb=>?_,zzR _,rfl,rfl,rfl⟩
   .rw [z];exact zeH so hi
   .simp only [List.mem_cons,List.not_mem_nil,or_false] at hb;rcases hb with rfl|rfl
    .exact .inr (zzR _)
    .exact .inl rfl
  .rw [if_pos (by
    show (!false&&(!t.plain&&decide (es.size > 1)))=true;rw [so.pl (by omega)];simp;omega)]
   refine wpAny_bind (zbr es.size (List.range es.size) s List.length_range.symm fun ord d hp=>?_);refine wpAny_bind (wpAny_newTuple ?_ (by rw [zzM,hp.length_eq,List.length_range];rw [sizeLine_eq];omega));refine wpAny_bind (wpAny_setEpoch_of (Heap.get?_push_of_some _ ho) hd so.fit (wpAny_bind (wpAny_newObj_type (wpAny_pure ⟨_,rfl, "set_iterator", _,⟨_,Heap.get?_push_size _ rfl,rfl⟩,SI.slot_next.lookup,?_⟩))));have hlen:ord.length=es.size:=by rw [hp.length_eq,List.length_range]
   have hlt2:s.heap.objs.size<(s.heap.push (tupO ord)).objs.size:=by rw [Heap.size_push];exact Nat.lt_succ_self _
   have hpm:(ord.map fun j=>(es.toList.map tx).getD j "").Perm (es.toList.map tx):=by
    have:=hp.map fun j=>(es.toList.map tx).getD j "";have e:es.size=(es.toList.map tx).length:=by simp
    rw [e,qV (α:=Str) "" (es.toList.map tx)] at this;exact this
   refine h _ _ (ord.map fun j=>(es.toList.map tx).getD j "") [(s.heap.push (tupO ord)).objs.size,s.heap.objs.size,S] _ hpm ⟨fun B hB=>WalksS.imp (za2 (T:=s.heap.objs.size) hB (Nat.ne_of_gt (Nat.lt_trans hlt hlt2)) (Nat.ne_of_gt hlt2) so (fun j hj=>List.mem_range.mp (hp.mem_iff.mp hj)) hlen) fun i v hi z=>?_,⟨Heap.get?_push_size _ rfl,Heap.get?_push_of_some _ (Heap.get?_push_size _ rfl),Heap.get?_push_of_some _ (Heap.get?_push_of_some _ ho)⟩,fun b o e=>Heap.get?_push_of_some _ (Heap.get?_push_of_some _ e),fun b hb=>?_,Nat.le_of_lt hlt2,rfl,rfl,rfl⟩
   .obtain ⟨j,hj,rfl⟩:=z;obtain ⟨tk,e⟩:=zeH so (j:=j) (List.mem_range.mp (hp.mem_iff.mp (List.mem_of_getElem? hj)))
    have e3:(ord.map fun j=>(es.toList.map tx).getD j "").getD i "" = (es.toList.map tx).getD j "" := by
     rw [List.getD_eq_getElem?_getD (l:=ord.map _),List.getElem?_map,hj];rfl
    exact ⟨tk,by rw [e3];exact e⟩
   .simp only [List.mem_cons,List.not_mem_nil,or_false] at hb;rcases hb with rfl|rfl|rfl
    .exact .inr (Nat.le_of_lt hlt2)
    .exact .inr (zzR _)
    .exact .inl rfl
end
section
variable {prog : Program} {w : World} {A : Around} {E : Value → Shared → Prop} {s : Shared} {S : Addr} {ep : Nat} {o : Obj} {es : Array (Int × Value)} {t : SetTable}
theorem zbO:∀ {vs:List Value} {ys:List Str},vs.length=ys.length->(∀ j v,vs[j]?=some v->∃ tk,v=Value.str (ys.getD j "") tk)->StrsAre vs ys
 | [],[],_,_=>.nil
 |v::vs,y::ys,e,h=>by
  obtain ⟨tk,ev⟩:=h 0 v rfl;have ev:v=Value.str y tk:=ev;rw [ev];exact .cons y tk (zbO (by simpa using e) fun j u hu=>h (j+1) u (by simpa using hu))
structure Went (s s':Shared):Prop where
 kp:∀ b o,s.heap.get? b=some o->s'.heap.get? b=some o
 gens:s'.gens=s.gens
 os:s'.os=s.os
theorem ite_c {α:Type} {M:Model} {B:Around} {c:Bool} {x y:Sem α} {Q:α->Shared->Prop} (hc:c=true) (h:wpAny M B x Q E s):wpAny M B (if c=true then x else y) Q E s:=by rw [if_pos hc];exact h
theorem zel {B:Around} {Q:Bool->Shared->Prop} (hT:s.TypeIs (.ref S) "set") (h:Q false s):wpAny (model prog w) B (Builtin.List.listLengthHint (.ref S)) Q E s:=by
 unfold Builtin.List.listLengthHint;refine wpAny_bind (wpAny_specialOf hT PySem.F.slot_set_len.lookup ?_);dsimp only;rw [show splitId "set.__len__" = some ("set", "__len__") by decide +kernel];dsimp only;refine wpAny_bind (wpAny_isInstance (T := "set") (b:=true) hT PySem.sub_set_self ?_);rw [if_neg (by simp)];refine ite_c (by decide +kernel) ?_;exact wpAny_bind (wpAny_typeOf hT (wpAny_pure h))
theorem zan {Q:List Value->Shared->Prop} (hh:A.handled=none) (ho:s.heap.get? S=some o) (so:SetO prog w o (wK w) es ep t) (hsz:es.size<=1000)
  (h:∀ s' vs ys,StrsAre vs ys->ys.Perm (es.toList.map tx)->Went s s'->Q vs s'):wpAny (model prog w) A (collect (.ref S)) Q E s:=by
 have hT:s.TypeIs (.ref S) "set" := ⟨o,ho,by rw [so.obj]⟩;have hlt:S<s.heap.objs.size:=Heap.lt_size ho;unfold collect;refine wpAny_bind (wpAny_runValue (codeAny_builtin PySem.F.entry_proto_collect ?_));rw [Around.under_plainId PySem.F.plain_proto_collect _];refine wpAny_bind (m:=newList []) (wpAny_newObj_type ?_);refine wpAny_pure ⟨plainId_quiet PySem.F.plain_list_iadd _,codeAny_builtin PySem.F.entry_list_iadd ?_⟩;rw [Around.under_plainId PySem.F.plain_list_iadd _];show wpAny (model prog w) A.in1 (Builtin.List.listExtendWith (.ref s.heap.objs.size) (.ref S) (.ref s.heap.objs.size)) _ _ { s with heap:=s.heap.push { cls:=.type "list", data:=.seq ([]:List Value).toArray } };have hD:(s.heap.push { cls:=.type "list", data:=.seq ([]:List Value).toArray }).get? s.heap.objs.size=some { cls:=.type "list", data:=.seq ([]:List Value).toArray }:=Heap.get?_push_size _ rfl;have ho1:(s.heap.push { cls:=.type "list", data:=.seq ([]:List Value).toArray }).get? S=some o:=Heap.get?_push_of_some _ ho;have k0:∀ b u,s.heap.get? b=some u->(s.heap.push { cls:=.type "list", data:=.seq ([]:List Value).toArray }).get? b=some u:=fun b u e=>Heap.get?_push_of_some _ e;have sz1:(s.heap.push { cls:=.type "list", data:=.seq ([]:List Value).toArray }).objs.size=s.heap.objs.size+1:=Heap.size_push ..;generalize s.heap.push { cls:=.type "list", data:=.seq ([]:List Value).toArray }=h1 at hD ho1 k0 sz1 ⊢;have hT1:Shared.TypeIs { s with heap:=h1 } (.ref S) "set" := ⟨o,ho1,by rw [so.obj]⟩;unfold Builtin.List.listExtendWith;refine wpAny_bind (wpAny_typeOf hT1 ?_)
 have ne:(Builtin.List.listSameRef (.ref s.heap.objs.size) (.ref S) || Value.type "set" == Value.type "list" || Value.type "set" == Value.type "tuple")=false:=by
  have:Builtin.List.listSameRef (.ref s.heap.objs.size) (.ref S)=false:=by simp [Builtin.List.listSameRef];exact Nat.ne_of_gt hlt
  rw [this];decide
 rw [ne,if_neg zzN];refine wpAny_bind (zee ho1 so hsz fun I s2 ys fp St hp W=>?_);have ho2:=W.kp _ _ ho1;have hD2:=W.kp _ _ hD;refine wpAny_bind (wpAny_holding (zel ⟨o,ho2,by rw [so.obj]⟩ ?_))
 split
 .refine wpAny_bind (wpAny_rule ?_);refine wpAny_bind (m:=Builtin.List.listTouch (.ref s.heap.objs.size)) ?_;show wpAny (model prog w) A.in1 (updateSeq s.heap.objs.size (·.push .none) >>= fun _=>updateSeq s.heap.objs.size (·.pop)) _ _ _;refine wpAny_bind (wpAny_updateSeq hD2 rfl ?_);have hD3:=Heap.get?_update_self (Obj.mapSeq (·.push Value.none)) hD2 rfl;refine wpAny_updateSeq hD3 rfl ?_;have hD4:=Heap.get?_update_self (Obj.mapSeq (·.pop)) hD3 rfl
  have nofp:s.heap.objs.size∉fp:=fun z=>by
   rcases W.old _ z with e|e
   .exact absurd e (Nat.ne_of_gt hlt)
   .rw [sz1] at e;exact absurd e (Nat.not_succ_le_self _)
  have oth:∀ b u,b≠s.heap.objs.size->s2.heap.get? b=some u->((s2.heap.update s.heap.objs.size (Obj.mapSeq (·.push Value.none))).update s.heap.objs.size (Obj.mapSeq (·.pop))).get? b=some u :=
   fun b u hb e=>(Heap.get?_update_other _ _ (Ne.symm hb)).trans ((Heap.get?_update_other _ _ (Ne.symm hb)).trans e)
  have Wk:=W.wk A.in1 hh;refine wpAny_pure ⟨plainId_quiet PySem.F.plain_extend_loop _,codeAny_extend_loopS Wk (by rw [sizeLine_eq];omega) s.heap.objs.size nofp _ es.size 0 _ _ _ rfl (Nat.zero_le _) (Wk.frame 0 s2 _ s2.toks W.st (zzR _) fun b hb u e=>oth b u (fun z=>nofp (z▸hb)) e) hD4 (ItemsOf.nil _) fun s' acc c hm hS' hacc=>?_⟩;show wpAny (model prog w) A (load s.heap.objs.size >>= _) _ _ s';refine wpAny_bind (wpAny_load hS' (wpAny_pure ?_));refine h s' acc.toList ys (zbO ?_ fun j v hj=>hacc.2 j v (by rw [← Array.getElem?_toList];exact hj)) hp ⟨fun b u e=>?_,hm.gens.trans W.rest.1,hm.os.trans W.rest.2.1⟩
  .rw [Array.length_toList,hacc.1,hp.length_eq,zzM,Array.length_toList]
  .have hb:b<s.heap.objs.size:=Heap.lt_size e;refine hm.heap b u ?_ (oth b u (Nat.ne_of_lt hb) (W.kp _ _ (k0 b u e)));simp only [List.mem_cons,List.not_mem_nil,or_false,not_or];refine ⟨Nat.ne_of_lt hb,Nat.ne_of_lt (Nat.lt_of_lt_of_le hb (Nat.le_trans (Nat.le_succ _) (Nat.le_trans (Nat.le_of_eq sz1.symm) W.new)))⟩
 .rename_i hn;exact (hn (by decide +kernel)).elim
end
section
variable {prog : Program} {w : World} {A : Around} {E : Value → Shared → Prop} {s : Shared}
theorem Went.trans {s1 s2:Shared} (a:Went s s1) (b:Went s1 s2):Went s s2:=⟨fun x o e=>b.kp x o (a.kp x o e),b.gens.trans a.gens,b.os.trans a.os⟩
theorem zbT {D:Addr} {vs:List Value} {ss:List Str} {n:Nat} {P:PySem.Fin->Shared->Prop} (ho:s.heap.get? D=some (seqObj "list" vs.toArray n)) (hS:StrsAre vs ss) (h64:vs.length<64)
  (h:∀ h' vs' ss' m,But D s.heap h'->h'.get? D=some (seqObj "list" vs'.toArray m)->StrsAre vs' ss'->ss'.Perm ss->sortedS ss'=true->P (.done (.ret .none)) { s with heap:=h' }):wpAny (model prog w) A (Builtin.«list.sort» ⟨[.ref D],[]⟩) P E s:=by
 refine list_sort_treeK strKind_oneLt ho hS.keysOf (fun v₁ v₂ rest e=>keyKind_strs (by rw [← e];exact hS)) h64 fun st' hp hs=>?_;obtain ⟨ss',h1,h2,h3⟩:=sorted_out_str hS hp hs;obtain ⟨m,hm⟩:=sortedHeap_at (out:=(arrOf st').map (·.2)) ho;exact h _ _ ss' m (fun b o hb e=>(sortedHeap_old hb (Heap.lt_size e)).trans e) hm h1 h2 h3
theorem nX {v:Value} {ss:List Str} {Q:Value->Shared->Prop} (h64:ss.length<64)
  (hc:∀ (Q':List Value->Shared->Prop) (E':Value->Shared->Prop),(∀ s' vs ys,StrsAre vs ys->ys.Perm ss->Went s s'->Q' vs s')->wpAny (model prog w) A.in1 (collect v) Q' E' s)
  (h:∀ s1 s' vs' ss' m,Went s s1->Went s1 s'->s'.heap.get? s1.heap.objs.size=some (seqObj "list" vs'.toArray m)->StrsAre vs' ss'->ss'.Perm ss->sortedS ss'=true->Q (.ref s1.heap.objs.size) s'):wpAny (model prog w) A (call (.builtin "sorted") [v]) Q E s:=by
 refine Calls.call_function_entry kind_sorted plain_sorted entry_sorted (args_sorted1 _) ?_;unfold Builtin.«sorted»;refine wpAny_bind (m:=checkCount "sorted" 1 1 _) (wpAny_pure (wpAny_bind (hc _ _ fun s1 vs ys hv hp wt=>?_)));have hl:vs.length<64:=by rw [qA hv,hp.length_eq];exact h64
 refine wpAny_bind (wpAny_newList ?_ (by rw [sizeLine_eq];omega));have hL:(s1.heap.push (seqObj "list" vs.toArray 0)).get? s1.heap.objs.size=some (seqObj "list" vs.toArray 0):=Heap.get?_push_size _ rfl;show wpAny (model prog w) _ _ _ _ { s1 with heap:=s1.heap.push (seqObj "list" vs.toArray 0) };refine wpAny_bind (wpAny_holding (wpAny_call_entry slot_list_sort ⟨_,hL,rfl⟩ entry_list_sort (zbT hL hv hl fun h' vs' ss' m kb hm hv' hp' hs'=>⟨_,rfl,?_⟩) (args_list_sort _)));refine wpAny_pure ⟨_,rfl,h s1 { s1 with heap:=h' } vs' ss' m wt ⟨fun b o e=>kb b o (Nat.ne_of_lt (Heap.lt_size e)) (Heap.get?_push_of_some _ e),rfl,rfl⟩ hm hv' (hp'.trans hp) hs'⟩
end
section
variable {X : Cx}
theorem Went.inv {pins:List (Addr×Obj)} {σ:L2.St} {H:Hp} {s s':Shared} (I:Inv X pins σ H s) (wt:Went s s'):Inv X pins σ H s':=by
 have J:=I.call (g':=s.gens) (d':=s'.drawn) (t':=s'.toks) (ch:=[]) (Un.kept wt.kp) (I.hok.kept wt.kp) I.bare fun _ z=>nomatch z;obtain ⟨h',g',d',t',o'⟩:=s';obtain rfl:g'=s.gens:=wt.gens;obtain rfl:o'=s.os:=wt.os;exact J
theorem gF {K:yN} {H:Hp}:∀ (ss:List Str),zF K H (ss.map .str) (ss.map .str)
 | []=>rfl
 |x::ss=>⟨.str x,_,rfl,rfl,gF ss⟩
theorem nY:∀ {vs:List Value} {ss:List Str},StrsAre vs ss->zD (ss.map V.str) vs
 |_,_,.nil=>.nil
 |_,_,.cons x t h=>.cons ⟨t,rfl⟩ (nY h)
theorem sI {K:yN} {H:Hp}:∀ {ss:List Str} {vs:List V} {us:List Value},zF K H (ss.map .str) vs->zD vs us->StrsAre us ss
 | [],vs,us,r,v=>by cases (show vs=[] from r);cases v;exact .nil
 |x::ss,vs,us,r,v=>by
  obtain ⟨y,tl,rfl,ry,rt⟩:=r;cases (show y=.str x from ry)
  cases v with
  |cons a c =>
   obtain ⟨tk,rfl⟩:=a;exact .cons x tk (sI rt c)
theorem zaG {pins:List (Addr×Obj)} {σ:L2.St} {H:Hp} {s s1 s':Shared} {G:Hw} {vs:List Value} {ss:List Str} {m:Nat} {Q:VK} (I:Inv X pins σ H s) (ab:xL X.K H G) (w1:Went s s1) (w2:Went s1 s') (hg:s'.heap.get? s1.heap.objs.size=some (seqObj "list" vs.toArray m)) (hv:StrsAre vs ss) (hl:ss.length<64)
  (h:∀ r,G r=none->qG X.K H Q (.ref r) (put G r (.lst (ss.map .str)))):EP X pins σ Q (.ref s1.heap.objs.size) s':=by
 have I1:=w1.inv I;have I2:=(w1.trans w2).inv I;have hn:H s1.heap.objs.size=none:=I1.hok.fresh (zzR _);refine ⟨.ref s1.heap.objs.size,_,I2.adopt (o:=.lst (ss.map .str)) (I1.off (zzR _)) hn ⟨?_,vs,m,nY hv,hg⟩,rfl,jL ab (gF ss) h _ hn⟩;rw [zzM,sizeLine_eq];omega
def zbV:RS:=fun ws G Q=>match ws with
 | [x]=>∃ ts:List Str,xZ G x=some (ts.map .str)/\ts.length<64/\∀ ts':List Str,ts'.Perm ts->sortedS ts'=true->∀ r,G r=none->Q (.ref r) (put G r (.lst (ts'.map .str)))
 |_=>False
theorem za7:wP zbV:=by
 intro ws G Q Q' k h;unfold zbV at h ⊢
 split at h
 .obtain ⟨ts,e,l,h⟩:=h;exact ⟨ts,e,l,fun ts' a b r hr=>k _ _ (h ts' a b r hr)⟩
 .exact h.elim
theorem zdz:wJ X (.builtin "sorted") (vG X.K zbV):=by
 intro pins s σ H xs us Q I r h;obtain ⟨ws,G,rs,ab,h⟩:=h;unfold zbV at h
 split at h
 .rename_i x;obtain ⟨v,rfl,rv⟩:=jQ rs;obtain ⟨ts,ex,hl,h⟩:=h;obtain ⟨a,vs,rfl,sq,rr⟩:=kY ab rv ex;obtain ⟨u,rfl,ru⟩:=jR r;cases (show u=Value.ref a from ru);obtain ⟨its,vv,ss,hz⟩:=I.sqB sq
  obtain ⟨T',o,n,hT,ho,hc,hd⟩:∃ (T':String) (o:Obj) (n:Nat),(T' = "list" \/ T' = "tuple")/\s.heap.get? a=some o/\o.cls=.type T'/\o.data=.seq its.toArray n:=by
   cases hb:hX x<;>rw [hb] at ss
   .obtain ⟨o,ho,hc,n,hd⟩:=ss;exact ⟨"list", o,n,.inl rfl,ho,hc,hd⟩
   .obtain ⟨o,ho,hc,n,hd⟩:=ss;exact ⟨"tuple", o,n,.inr rfl,ho,hc,hd⟩
  have hS:=sI rr vv;have hl2:its.length=ts.length:=qA hS;refine nX hl (fun Q' E' q=>wpAny_collect_seq a hT ho hc hd (fun h' k=>q { s with heap:=h' } its ts hS (.refl _) ⟨k,rfl,rfl⟩) (by rw [zzS,sizeLine_eq];omega)) fun s1 s' vs' ss' m w1 w2 hg hv hp hs=>?_;exact zaG I ab w1 w2 hg hv (by rw [hp.length_eq];exact hl) (h ss' hp hs)
 .exact h.elim
def ssM:Scope->Expr->Option (List Expr):=fun sc e=>match e with
 | .Call (.Name o _) [.Call (.Name x _) [a] [] _] [] _=>if (o==("sorted" : Str)&&x==("set" : Str)&&vC sc o&&vC sc x)=true then some [a] else none
 |_=>none
def ssS:RS:=fun ws G Q=>match ws with
 | [x]=>∃ ts:List Str,xZ G x=some (ts.map .str)/\ts.length<64/\∀ ts':List Str,ts'.Nodup->(∀ x,x∈ts'↔x∈ts)->sortedS ts'=true->∀ r,G r=none->Q (.ref r) (put G r (.lst (ts'.map .str)))
 |_=>False
theorem zat:wP ssS:=by
 intro ws G Q Q' k h;unfold ssS at h ⊢
 split at h
 .obtain ⟨ts,e,l,h⟩:=h;exact ⟨ts,e,l,fun ts' a b c r hr=>k _ _ (h ts' a b c r hr)⟩
 .exact h.elim
theorem zfy {sc:Scope} {e:Expr} {xs:List Expr} (h:ssM sc e=some xs):∃ qo q pos pos' a,xs=[a]/\e=.Call (.Name "sorted" qo) [.Call (.Name "set" q) [a] [] pos] [] pos'/\vC sc "sorted" = true/\vC sc "set" = true:=by
 unfold ssM at h
 split at h
 .rename_i o qo x q a pos pos'
  split at h
  .rename_i hb;obtain ⟨⟨⟨h1,h2⟩,h3⟩,h4⟩:=bd4 hb;cases eq_of_beq h1;cases eq_of_beq h2;cases h;exact ⟨qo,q,pos,pos',a,rfl,rfl,h3,h4⟩
  .cases h
 .cases h
theorem ss_ok {pins:List (Addr×Obj)} {σ:L2.St} {H:Hp} {s:Shared} {vs:List V} {us:List Value} {Q:VK} (hh:X.A.handled=none) (I:Inv X pins σ H s) (r:zD vs us) (h:vG X.K ssS vs H Q) :
  wpAny (model X.prog X.w) X.A (call (.type "set") us) (fun v s1=>wpAny (model X.prog X.w) X.A (call (.builtin "sorted") [v]) (EP X pins σ Q) X.xe s1) X.xe s:=by
 obtain ⟨ws,G,rs,ab,h⟩:=h;unfold ssS at h
 split at h
 .rename_i x;obtain ⟨v,rfl,rv⟩:=jQ rs;obtain ⟨u,rfl,ru⟩:=jR r;obtain ⟨ts,e,hl,h⟩:=h;obtain ⟨p,vs2,rfl,sq,rr⟩:=kY ab rv e;cases (show u=Value.ref p from ru);obtain ⟨its,vv,pl,hz⟩:=I.sqB sq;have hS:=sI rr vv;have hl2:its.length=ts.length:=qA hS;refine zdE (items:=its.toArray) (ss:=ts) hh pl (by simpa using hS) (by show its.toArray.size+1<4096;rw [zzS];omega) fun h1 tk hT hk=>?_;obtain ⟨o,es,ep,t,ho,so,hsz,hm⟩:=hT;have w1:Went s { s with heap:=h1,toks:=tk }:=⟨fun b o e=>hk b o (Heap.lt_size e) e,rfl,rfl⟩;have hes:(es.toList.map tx).length<64:=by rw [zzM,Array.length_toList];omega
  refine nX (ss:=es.toList.map tx) hes (fun Q' E' q=>zan (show X.A.in1.handled=none from hh) ho so (by omega) fun s' vs ys a b c=>q s' vs ys a b c) fun s1 s' vs' ss' m g1 g2 hg hv hp hs=>?_;exact zaG I ab (w1.trans g1) g2 hg hv (by rw [hp.length_eq];exact hes) (h ss' (hp.nodup_iff.mpr so.nd) (fun x=>(hp.mem_iff).trans (hm x)) hs)
 .exact h.elim
theorem sx_ss {q:Pr} {A:Around} (h1:q.mg "sorted" = none) (h2:q.mg "set" = none):SxE (q.at A) ⟨ssM,ssS⟩:=by
 intro X fits e xs es he each hn pa;obtain ⟨qo,qq,pos,pos',a,rfl,rfl,g1,g2⟩:=zfy he;obtain ⟨gl1,d1,n1⟩:=mM (X:=X) rfl g1;obtain ⟨gl2,d2,n2⟩:=mM (X:=X) rfl g2;have m1:X.mg "sorted" = none:=by rw [fits.mg];exact h1
 have m2:X.mg "set" = none:=by rw [fits.mg];exact h2
 refine ⟨fun pins s σ H Q I h=>?_,fun _=>rfl,fun _ _ _ z=>nomatch z⟩;obtain ⟨s1,s2⟩:=xM (env:=X.env) (pos:=pos) hn;have h':=pJ (rR each) zat h;refine wpAny_Call_Name_kw (qF (u:=.builtin "sorted") I gl1 m1 (by decide +kernel) ?_ n1 d1);refine PyProof.Rows.callWith_builtin1 (e:=.Call (.Name "set" qq) [a] [] pos) (rest:=[]) ?_ rfl rfl;show wpAny _ _ (spliced ((false,eval (.Call (.Name "set" qq) [a] [] pos) X.env)::backTo pos' (starEach [] X.env))) _ _ s;refine Calls.spliced_cons (wpAny_Call_Name_kw (qF (u:=.type "set") I gl2 m2 (by decide +kernel) (PyProof.Rows.callWith_type1 (yF (pa pos pins s σ H _ I h') fun us s1 ⟨vs,H1,I1,r1,q1⟩=>?_) s1 s2) n2 d2));exact yF (ss_ok (I1.ok.hd fits.calm) I1 r1 q1) fun v s2 z=>Calls.spliced_nil z
end
end L3
namespace L3
open PySem PySem.Spec PyProof.Rows L2 HT
section
variable {prog : Program} {w : World} {A : Around} {E : Value → Shared → Prop} {s : Shared}
theorem ze9 {f:Nat->Option Value} {g:Nat->Value}:∀ {l:List Nat},(∀ m∈l,f m=some (g m))->l.filterMap f=l.map g
 | [],_=>rfl
 |a::l,h=>by
  rw [List.filterMap_cons_some (h a zzT),zzU,ze9 fun m hm=>h m (List.mem_cons_of_mem _ hm)]
theorem zay (xs:Array Value):((List.range xs.size).filterMap fun (m:Nat)=>xs[(((xs.size:Int)-1)+(m:Int) * (-1)).toNat]?).toArray=xs.toList.reverse.toArray:=by
 congr 1;rw [ze9 (g:=fun m=>xs.toList.reverse.getD m Value.none)]
 .have:=qV Value.none xs.toList.reverse;rw [List.length_reverse,Array.length_toList] at this;exact this
 .intro m hm;have hm:m<xs.size:=List.mem_range.mp hm;have e1:(((xs.size:Int)-1)+(m:Int) * (-1)).toNat=xs.size-1-m:=by omega
  have h2:xs.size-1-m<xs.size:=by omega
  rw [e1,Array.getElem?_eq_getElem h2,List.getD_eq_getElem?_getD,List.getElem?_reverse (by simpa using hm)];simp [h2]
theorem zbX {sl:Addr} {n:Nat} {t:Tok} {Q:Int×Int×Nat->Shared->Prop} (hs:s.heap.IsSliceOf sl .none .none (.int (-1) t)) (h:Q ((n:Int)-1,-1,n) s):wpAny (model prog w) A (Builtin.Slice.sliceApplied (.ref sl) (pure (n:Int))) Q E s:=by
 obtain ⟨os,hos,hcs,hds⟩:=id hs;unfold Builtin.Slice.sliceApplied Builtin.Slice.sliceFields;refine wpAny_bind (wpAny_bind (wpAny_field hos hds (x:=.none) rfl (wpAny_bind (wpAny_field hos hds (x:=.none) rfl (wpAny_bind (wpAny_field hos hds (x:=.int (-1) t) rfl (wpAny_pure ?_)))))));refine wpAny_bind (slicePart_int ?_);show wpAny (model prog w) _ (if ((-1:Int)==0)=true then _ else _) _ _ s;rw [if_neg (by decide)];refine wpAny_bind (slicePart_none (wpAny_bind (slicePart_none (wpAny_bind (wpAny_pure ?_)))))
 have e:Builtin.Slice.slicePlaces ((n:Int)-1) (-1) (-1)=n:=by
  unfold Builtin.Slice.slicePlaces;rw [if_neg (by decide),show (-(-1):Int)=1 from rfl,Int.ediv_one]
  split<;>omega
 show wpAny (model prog w) _ (pure ((n:Int)-1,(-1:Int),Builtin.Slice.slicePlaces ((n:Int)-1) (-1) (-1))) _ _ s;rw [e];exact wpAny_pure h
theorem zgy {t sl:Addr} {items:Array Value} {tk:Tok} {Q:Value->Shared->Prop} (ht:IsTup s.heap t items) (hs:s.heap.IsSliceOf sl .none .none (.int (-1) tk)) (hsz:items.size<=sizeLine)
  (h:Q (.ref s.heap.objs.size) { s with heap:=s.heap.push { cls:=.type "tuple", data:=.seq items.toList.reverse.toArray } }):wpAny (model prog w) A (getItem (.ref t) (.ref sl)) Q E s:=by
 obtain ⟨os,hos,hcs,hds⟩:=id hs;have hTs:s.TypeIs (.ref sl) "slice" := ⟨os,hos,hcs⟩
 have hok:sizeOk (.seq items.toList.reverse.toArray):=by
  show items.toList.reverse.toArray.size<=sizeLine;rw [zzS,List.length_reverse,Array.length_toList];exact hsz
 unfold getItem
 try with_reducible refine wpAny_holding ?_
 first|refine wpAny_bind (wpAny_pure ?_)|skip
 refine wpAny_bind (wpAny_sequenceKey ht.typeIs (by decide) ?_);refine wpAny_bind (wpAny_callSpecial?_slot (name:=Str.ofString "__getitem__") ht.typeIs PyProof.Rows.slot_tuple_getitem (wpAny_call_entry PyProof.Rows.slot_tuple_getitem ht.typeIs entry_tuple_getitem ?_ (args_tuple_getitem _ _)));refine wpAny_bind (m:=Builtin.Tuple.tupleItemsOf (.ref t)) (tupleItemsOf_ ht ?_);refine wpAny_bind (wpAny_typeOf hTs ?_);rw [if_pos (by decide)];refine wpAny_bind (zbX hs ?_);dsimp only;rw [if_neg (by simp),zay]
 first
  |exact wpAny_bind (m:=Builtin.Tuple.tupleExact _) (wpAny_newObj_type (wpAny_pure ⟨_,rfl,wpAny_pure h⟩) hok)
  |exact wpAny_bind (wpAny_bind (m:=Builtin.Tuple.tupleExact _) (wpAny_newObj_type (wpAny_pure ⟨_,rfl,wpAny_pure h⟩) hok))
end
def rvM:Scope->Expr->Option (List Expr):=fun _ e=>match e with
 | .Subscript l (.Slice none none (some (.UnaryOp .USub (.Constant (.int i) _ _) _)) _) _=>if i=1 then some [l] else none
 |_=>none
def rvS:RS:=fun ws G Q=>match ws with
 | [.tup xs]=>Q (.tup xs.reverse) G
 | [.ref p]=>∃ xs,yQ G p=some xs/\∀ r,G r=none->Q (.ref r) (put G r (.lst xs.reverse))
 |_=>False
theorem zdH:wP rvS:=by
 intro ws G Q Q' k h;unfold rvS at h ⊢
 split at h
 .exact k _ _ h
 .obtain ⟨xs,e,h⟩:=h;exact ⟨xs,e,fun r hr=>k _ _ (h r hr)⟩
 .exact h.elim
theorem zdU (xs:Array Value):slicePick xs none none (some (-1))=xs.toList.reverse.toArray:=by
 rw [← zay];unfold slicePick sliceBounds sliceRange;congr 1;simp only [Option.getD_some,show ¬ ((-1:Int) > 0) by decide,if_false]
 have e:(if (xs.size:Int)-1 > -1 then ((xs.size:Int)-1 - -1 - -1-1) / - -1 else 0).toNat=xs.size:=by
  rw [show (- -1:Int)=1 from rfl,Int.ediv_one]
  split<;>omega
 rw [e,List.filterMap_map];congr 1
 funext m
 show xs[(((xs.size:Int)-1)+(-1) * (m:Int)).toNat]?=_;rw [Int.mul_comm]
theorem zfF {sc:Scope} {e:Expr} {xs:List Expr} (h:rvM sc e=some xs):∃ l a p1 p3 p2 pos,e=.Subscript l (.Slice none none (some (.UnaryOp .USub (.Constant (.int 1) a p1) p3)) p2) pos/\xs=[l]:=by
 unfold rvM at h
 split at h
 .rename_i l i a p1 p3 p2 pos
  split at h
  .rename_i hb;subst hb;cases h;exact ⟨l,a,p1,p3,p2,pos,rfl,rfl⟩
  .cases h
 .cases h
theorem zD.reverse {vs:List V} {us:List Value} (h:zD vs us):zD vs.reverse us.reverse:=by
 induction h with
 |nil=>exact .nil
 |cons a _ ih=>rw [List.reverse_cons,List.reverse_cons];exact ih.append (.cons a .nil)
theorem sx_rv {q:Pr} {A:Around}:SxE (q.at A) ⟨rvM,rvS⟩:=by
 intro X fits e xs es he each hn pa;obtain ⟨l,k,p1,p3,p2,pos,rfl,rfl⟩:=zfF (sc:=X.env.scope) he
 match es,each with
 | [t],each =>
  refine ⟨fun pins s σ H Q I h=>?_,fun _=>rfl,fun _ _ _ z=>nomatch z⟩;obtain ⟨σ3,G,hs,ab,h⟩:=h;refine Subscript_ (yF (each.2.1 pins s σ H (fun v H1=>∃ ys vs a G1,v=.ref a/\zF X.K H1 ys vs/\xL X.K H1 G1/\yJ X.K H H1/\((sL X.K H1 a vs/\qG X.K H Q (.tup ys.reverse) G1)\/(rP X.K H1 a vs/\∀ r,G1 r=none->qG X.K H Q (.ref r) (put G1 r (.lst ys.reverse))))) I ⟨σ3,G,hs,ab,each.1 σ3 G _ _ (fun w G1 h=>?_) h⟩) fun v s1 ⟨x,H1,I1,r1,q1⟩=>?_)
  .intro v H1 g1 rv a1;have h:rvS [w] G1 (qG X.K H Q):=h;unfold rvS at h
   split at h
   .rename_i ys ew;cases ew;obtain ⟨a,vs,rfl,sq,rr⟩:=rv;exact ⟨ys,vs,a,G1,rfl,rr,a1,g1,.inl ⟨sq,h⟩⟩
   .rename_i p ew;cases ew;obtain ⟨ys,e,h⟩:=h;cases (show v=.ref p from rv);obtain ⟨vs,sq,rr⟩:=a1.seq e;exact ⟨ys,vs,p,G1,rfl,rr,a1,g1,.inr ⟨sq,h⟩⟩
   .exact h.elim
  .obtain ⟨ys,vs,a,G1,rfl,rr,a1,g1,q⟩:=q1;cases (show v=Value.ref a from r1);refine wpAny_Slice ?_;rw [evalPart_none];refine wpAny_pure (wpAny_pure ?_);rw [evalPart_some];refine yF (zhU (pos:=p3) zeJ (zeW (i:=1) (j:=k) (pos:=p1)) pins s1 σ H1 (fun v H2=>v=.int (-1)/\H2=H1) I1 ⟨1,rfl,rfl,rfl⟩) fun u s2 ⟨y,H2,I2,r2,e1,e2⟩=>?_;subst e1 e2;obtain ⟨tk,rfl⟩:=r2;have I3:Inv X pins σ H2 { s2 with heap:=s2.heap.push { cls:=.type "slice", data:=.fields #[.none,.none,.int (-1) tk] } }:=I2.kept (t':=s2.toks) fun b ob q=>Heap.get?_push_of_some _ q;show wpAny (model X.prog X.w) X.A (subscriptTail l (.Slice none none (some (.UnaryOp .USub (.Constant (.int 1) k p1) p3)) p2) (.ref a) (.ref s2.heap.objs.size)) (EP X pins σ Q) X.xe { s2 with heap:=s2.heap.push { cls:=.type "slice", data:=.fields #[.none,.none,.int (-1) tk] } };have hsl:=Heap.IsSliceOf.new s2.heap .none .none (.int (-1) tk);have sz:s2.heap.objs.size<(s2.heap.push { cls:=.type "slice", data:=.fields #[.none,.none,.int (-1) tk] }).objs.size:=by rw [Heap.size_push];exact Nat.lt_succ_self _
   generalize s2.heap.push { cls:=.type "slice", data:=.fields #[.none,.none,.int (-1) tk] }=h0 at I3 hsl sz ⊢;have hn:H2 h0.objs.size=none:=I3.hok.fresh (zzR _);rcases q with ⟨sq,q⟩|⟨sq,q⟩
   .obtain ⟨its,vv,ht,hz⟩:=I3.tuple sq;have hlen:its.toArray.size=vs.length:=by rw [zzS];exact vv.length.symm
    refine tail_any (ops:=[.ref a,.ref s2.heap.objs.size]) ht.typeIs PyProof.Rows.slot_tuple_getitem.lookup (zgy ht hsl (by rw [hlen];exact hz) ?_) (by with_unfolding_all rfl);refine ⟨.ref _,_,I3.laid (t':=s2.toks) (o:=.tup vs.reverse) (fun b ob q=>Heap.get?_push_of_some _ q) (zzR _) ⟨by rw [List.length_reverse];exact hz,its.reverse,vv.reverse,?_⟩,rfl,?_⟩
    .have:=IsTup.new h0 its.reverse.toArray;simpa using this
    .have g2:yJ X.K H2 (xK H2 h0.objs.size (.tup vs.reverse)):=xJ hn;exact q _ _ (g1.trans g2) ⟨_,_,rfl,sL.of wY,rr.reverse.mono g2⟩ (a1.tup hn)
   .obtain ⟨its,vv,pl,hz⟩:=I3.list sq;have hlen:its.toArray.size=vs.length:=by rw [zzS];exact vv.length.symm
    have ht:=pl.isList;refine tail_any (ops:=[.ref a,.ref s2.heap.objs.size]) ht.typeIs list_getitem_lookup (wpAny_getItem_list_slice ht hsl .none .none (.int (-1) tk) (by simp) ?_ (by rw [hlen];exact hz)) (by with_unfolding_all rfl);rw [zdU];refine ⟨.ref _,_,I3.laid (t':=s2.toks) (o:=.lst vs.reverse) (fun b ob q=>Heap.get?_push_of_some _ q) (zzR _) ⟨by rw [List.length_reverse];exact hz,its.reverse,0,vv.reverse,?_⟩,rfl,?_⟩
    .simpa using Heap.get?_push_size h0 (o:={ cls:=.type "list", data:=.seq its.reverse.toArray }) rfl
    .exact jL (Q:=Q) a1 rr.reverse (fun p hp v' H' g'=>q p hp v' H' (g1.trans g')) _ hn
def hcM (y:Str):Scope->Expr->Option (List Expr):=fun _ e=>match e with
 | .Call (.Name x q) [a] [] _=>if (x==y)=true then some [.Name x q,a] else none
 |_=>none
def hcS (f:Addr) (sp:tQ):RS:=fun ws G Q=>match ws with
 | [.ref p,w]=>p=f/\sp [w] G Q XN
 |_=>False
theorem zen {f:Addr} {sp:tQ} (mono:∀ ws G (Q Q':Q3),(∀ w G',Q w G'->Q' w G')->sp ws G Q XN->sp ws G Q' XN):wP (hcS f sp):=by
 intro ws G Q Q' k h;unfold hcS at h ⊢
 split at h
 .exact ⟨h.1,mono _ _ _ _ k h.2⟩
 .exact h.elim
theorem zgv {y:Str} {sc:Scope} {e:Expr} {xs:List Expr} (h:hcM y sc e=some xs):∃ x q a pos,e=.Call (.Name x q) [a] [] pos/\xs=[.Name x q,a]:=by
 unfold hcM at h
 split at h
 .rename_i x q a pos
  split at h
  .cases h;exact ⟨x,q,a,pos,rfl,rfl⟩
  .cases h
 .cases h
theorem sx_hc {q:Pr} {k:Nat} {y:Str} {f:Addr} {fd:FuncData} {ps:List Str} {sp:tQ} (FO:FnOk q.prog q.w q.K q.mg q.base CX0 k f fd ps (vY q.K sp)) (hk:PySem.W.keepIn q.K (.ref f)=true) (hb:uE q.K fd ps [])
  (mono:∀ ws G (Q Q':Q3),(∀ w G',Q w G'->Q' w G')->sp ws G Q XN->sp ws G Q' XN) {A:Around} (hr:Room k A):SxE (q.at A) ⟨hcM y,hcS f sp⟩:=by
 intro X fits e xs es he each hn pa;obtain ⟨x,qp,a,pos,rfl,rfl⟩:=zgv (sc:=X.env.scope) he;have e:=fits.eq
 injection e with e1 e2 e3 e4 e5 e6
 subst e6;rw [e1,e2,e3,e4,e5] at FO;rw [e3] at hk hb
 match es,each with
 | [t1,t2],each =>
  refine ⟨fun pins s σ H Q I h=>?_,fun _=>rfl,fun _ _ _ z=>nomatch z⟩;obtain ⟨σ3,G,hs,ab,h⟩:=h;have hn2:([a]:List Expr).all xB=true:=by simpa [xB] using hn
  obtain ⟨s1,s2⟩:=xM (env:=X.env) (pos:=pos) hn2
  have p2:PA X [a] (sV X.K (hJ [t2])):=(zcg each.2.2.2.1 zeY s1).imp fun τ H Q h=>by
   obtain ⟨σ,G,hs,ab,h⟩:=h;refine ⟨σ,G,hs,ab,each.2.2.1 σ G _ _ (fun w G1 h=>?_) h⟩;intro v H1 g1 rv a1;exact h [v] H1 g1 ⟨v,[],rfl,rv,rfl⟩ a1
  refine wpAny_Call_Name_kw (yF (each.2.1 pins s σ H (fun v H1=>∃ w G1,wQ X.K H1 w v/\xL X.K H1 G1/\yJ X.K H H1/\t2 σ3 G1 fun u G2=>hcS f sp [w,u] G2 (qG X.K H Q)) I ⟨σ3,G,hs,ab,each.1 σ3 G _ _ (fun w G1 h v H1 g1 rv a1=>⟨w,G1,rv,a1,g1,h⟩) h⟩) fun v s3 ⟨x1,H1,I1,r1,w,G1,rw1,a1,g1,q1⟩=>?_);have hA:=p2 pos pins s3 σ H1 (fun ys H2=>(∃ z,ys=[z]/\v=Value.ref f/\vY X.K sp [z] H2 Q (fun _ _ _=>False))) I1 ⟨σ3,G1,hs.mono g1,a1,each.2.2.1 σ3 G1 _ _ (fun u G2 hq=>?_) q1⟩
  .rw [s1] at hA ⊢;refine PySem.W.callWith_of (P:=fun h=>X.K.In h/\v=Value.ref f) (by show ((false || (backTo pos (starEach [] X.env)).any (·.1)) || false)=false;rfl) (fun h z=>by rw [z.2];exact PySem.W.keeps_K hk h z.1) (Calls.evalArgs_plain (yF hA fun us s4 ⟨ys,H2,I2,r2,z,ez,ev,q2⟩=>⟨⟨I2.kIn,ev⟩,?_⟩));subst ez;subst ev;exact zb6 (ds:=[]) (dvs:=[]) FO hr hb .nil zf2 I2 r2 q2
  .intro ys H2 g2 rs a2;obtain ⟨z,rfl,rz⟩:=jQ rs;unfold hcS at hq
   split at hq
   .rename_i p u' ew;cases ew;obtain ⟨rfl,hq⟩:=hq;cases (show x1=.ref p from rw1);cases (show v=Value.ref p from r1);exact ⟨z,rfl,rfl,[u],G2,rs,a2,mono _ _ _ _ (fun w' G' h v' H' g'=>h v' H' (g1.trans (g2.trans g'))) hq⟩
   .exact hq.elim
end L3
namespace L3
open PySem PySem.Spec PyProof.Rows L2 PySem.SeqAt
section
variable {prog : Program} {w : World} {A : Around} {E : Value → Shared → Prop} {s : Shared}
theorem mN:∀ {vs:List Value} {ns:List Int},IntsAre vs ns->vs.length=ns.length
 |_,_,.nil=>rfl
 |_,_,.cons _ _ h=>by rw [List.length_cons,List.length_cons,mN h]
theorem zbU {D:Addr} {vs:List Value} {ns:List Int} {n:Nat} {P:PySem.Fin->Shared->Prop} (ho:s.heap.get? D=some (seqObj "list" vs.toArray n)) (hS:IntsAre vs ns) (h64:vs.length<64)
  (h:∀ h' vs' ns' m,But D s.heap h'->h'.get? D=some (seqObj "list" vs'.toArray m)->IntsAre vs' ns'->ns'.Perm ns->ns'.Pairwise (·<=·)->P (.done (.ret .none)) { s with heap:=h' }):wpAny (model prog w) A (Builtin.«list.sort» ⟨[.ref D],[]⟩) P E s:=by
 refine list_sort_tree ho hS h64 fun out ns' h1 h2 h3=>?_;obtain ⟨m,hm⟩:=sortedHeap_at (out:=out) ho;exact h _ out.toList ns' m (fun b o hb e=>(sortedHeap_old hb (Heap.lt_size e)).trans e) hm h1 h2 h3
theorem rL {v:Value} {ns:List Int} {Q:Value->Shared->Prop} (h64:ns.length<64)
  (hc:∀ (Q':List Value->Shared->Prop) (E':Value->Shared->Prop),(∀ s' vs,IntsAre vs ns->Went s s'->Q' vs s')->wpAny (model prog w) A.in1 (collect v) Q' E' s)
  (h:∀ s1 s' vs' ns' m,Went s s1->Went s1 s'->s'.heap.get? s1.heap.objs.size=some (seqObj "list" vs'.toArray m)->IntsAre vs' ns'->ns'.Perm ns->ns'.Pairwise (·<=·)->Q (.ref s1.heap.objs.size) s'):wpAny (model prog w) A (call (.builtin "sorted") [v]) Q E s:=by
 refine Calls.call_function_entry kind_sorted plain_sorted entry_sorted (args_sorted1 _) ?_;unfold Builtin.«sorted»;refine wpAny_bind (m:=checkCount "sorted" 1 1 _) (wpAny_pure (wpAny_bind (hc _ _ fun s1 vs hv wt=>?_)));have hl:vs.length<64:=by rw [mN hv];exact h64
 refine wpAny_bind (wpAny_newList ?_ (by rw [sizeLine_eq];omega));have hL:(s1.heap.push (seqObj "list" vs.toArray 0)).get? s1.heap.objs.size=some (seqObj "list" vs.toArray 0):=Heap.get?_push_size _ rfl;show wpAny (model prog w) _ _ _ _ { s1 with heap:=s1.heap.push (seqObj "list" vs.toArray 0) };refine wpAny_bind (wpAny_holding (wpAny_call_entry slot_list_sort ⟨_,hL,rfl⟩ entry_list_sort (zbU hL hv hl fun h' vs' ns' m kb hm hv' hp' hs'=>⟨_,rfl,?_⟩) (args_list_sort _)));exact wpAny_pure ⟨_,rfl,h s1 { s1 with heap:=h' } vs' ns' m wt ⟨fun b o e=>kb b o (Nat.ne_of_lt (Heap.lt_size e)) (Heap.get?_push_of_some _ e),rfl,rfl⟩ hm hv' hp' hs'⟩
end
section
variable {X : Cx}
theorem fG {K:yN} {H:Hp}:∀ (ns:List Int),zF K H (ns.map .int) (ns.map .int)
 | []=>rfl
 |x::ns=>⟨.int x,_,rfl,rfl,fG ns⟩
theorem mP:∀ {vs:List Value} {ns:List Int},IntsAre vs ns->zD (ns.map V.int) vs
 |_,_,.nil=>.nil
 |_,_,.cons x t h=>.cons ⟨t,rfl⟩ (mP h)
theorem qC {K:yN} {H:Hp}:∀ {ns:List Int} {vs:List V} {us:List Value},zF K H (ns.map .int) vs->zD vs us->IntsAre us ns
 | [],vs,us,r,v=>by cases (show vs=[] from r);cases v;exact .nil
 |x::ns,vs,us,r,v=>by
  obtain ⟨y,tl,rfl,ry,rt⟩:=r;cases (show y=.int x from ry)
  cases v with
  |cons a c =>
   obtain ⟨tk,rfl⟩:=a;exact .cons x tk (qC rt c)
theorem zaH {pins:List (Addr×Obj)} {σ:L2.St} {H:Hp} {s s1 s':Shared} {G:Hw} {vs:List Value} {ns:List Int} {m:Nat} {Q:VK} (I:Inv X pins σ H s) (ab:xL X.K H G) (w1:Went s s1) (w2:Went s1 s') (hg:s'.heap.get? s1.heap.objs.size=some (seqObj "list" vs.toArray m)) (hv:IntsAre vs ns) (hl:ns.length<64)
  (h:∀ r,G r=none->qG X.K H Q (.ref r) (put G r (.lst (ns.map .int)))):EP X pins σ Q (.ref s1.heap.objs.size) s':=by
 have I1:=w1.inv I;have I2:=(w1.trans w2).inv I;have hn:H s1.heap.objs.size=none:=I1.hok.fresh (zzR _);refine ⟨.ref s1.heap.objs.size,_,I2.adopt (o:=.lst (ns.map .int)) (I1.off (zzR _)) hn ⟨?_,vs,m,mP hv,hg⟩,rfl,jL ab (fG ns) h _ hn⟩;rw [zzM,sizeLine_eq];omega
def ziU (G:Hw) (x:W) (ns:List Int):Prop:=xZ G x=some (ns.map .int)\/∃ p kvs,x=.ref p/\jP G p=some kvs/\kvs.map (·.1)=ns.map Sum.inl
def zbW:RS:=fun ws G Q=>match ws with
 | [x]=>∃ ns:List Int,ziU G x ns/\ns.length<64/\∀ ns':List Int,ns'.Perm ns->ns'.Pairwise (·<=·)->∀ r,G r=none->Q (.ref r) (put G r (.lst (ns'.map .int)))
 |_=>False
theorem za8:wP zbW:=by
 intro ws G Q Q' k h;unfold zbW at h ⊢
 split at h
 .obtain ⟨ts,e,l,h⟩:=h;exact ⟨ts,e,l,fun ts' a b r hr=>k _ _ (h ts' a b r hr)⟩
 .exact h.elim
theorem yS.keys {K:yN} {H:Hp} {κ:Type}:∀ {l:List (κ×W)} {l':List (κ×V)},yS K H l l'->l'.map (·.1)=l.map (·.1)
 | [],_,h=>by rw [show _=[] from h];rfl
 |_::_,_,⟨v,t,e,h,r⟩=>by rw [e,zzU,zzU,yS.keys r]
theorem KV.keys {κ:Type}:∀ {l:List (κ×V)} {vs:List (κ×Value)},KV l vs->vs.map (·.1)=l.map (·.1)
 |_,_,.nil=>rfl
 |_,_,.cons r t=>by rw [zzU,zzU,KV.keys t,r.1]
theorem zcJ:∀ (ns:List Int) (vs:List Value),vs.length=ns.length->(∀ (i:Nat) (v:Value),vs[i]?=some v->∃ n,ns[i]?=some n/\rC (.inl n) v=true)->IntsAre vs ns
 | [],[],_,_=>.nil
 |n::ns,v::vs,e,h=>by
  obtain ⟨n',e1,e2⟩:=h 0 v rfl;cases (show n=n' by simpa using e1);rcases yE e2 with ⟨i,t,e3,e4⟩|⟨x,t,e3,e4⟩
  .cases e3;rw [e4];exact .cons n t (zcJ ns vs (by simpa using e) fun i v' hv=>by simpa using h (i+1) v' (by simpa using hv))
  .cases e3
theorem zdA (hc:X.calm=true):wJ X (.builtin "sorted") (vG X.K zbW):=by
 intro pins s σ H xs us Q I r h;obtain ⟨ws,G,rs,ab,h⟩:=h;unfold zbW at h
 split at h
 .rename_i x;obtain ⟨v,rfl,rv⟩:=jQ rs;obtain ⟨u,rfl,ru⟩:=jR r;obtain ⟨ns,ex,hl,h⟩:=h;rcases ex with ex|⟨p,kvs,rfl,ex,ek⟩
  .obtain ⟨a,vs,rfl,sq,rr⟩:=kY ab rv ex;cases (show u=Value.ref a from ru);obtain ⟨its,vv,ss,hz⟩:=I.sqB sq
   obtain ⟨T',o,n,hT,ho,hc,hd⟩:∃ (T':String) (o:Obj) (n:Nat),(T' = "list" \/ T' = "tuple")/\s.heap.get? a=some o/\o.cls=.type T'/\o.data=.seq its.toArray n:=by
    cases hb:hX x<;>rw [hb] at ss
    .obtain ⟨o,ho,hc,n,hd⟩:=ss;exact ⟨"list", o,n,.inl rfl,ho,hc,hd⟩
    .obtain ⟨o,ho,hc,n,hd⟩:=ss;exact ⟨"tuple", o,n,.inr rfl,ho,hc,hd⟩
   have hS:=qC rr vv;have hl2:its.length=ns.length:=mN hS;refine rL hl (fun Q' E' q=>wpAny_collect_seq a hT ho hc hd (fun h' k=>q { s with heap:=h' } its hS ⟨k,rfl,rfl⟩) (by rw [zzS,sizeLine_eq];omega)) fun s1 s' vs' ss' m w1 w2 hg hv hp hs=>?_;exact zaH I ab w1 w2 hg hv (by rw [hp.length_eq];exact hl) (h ss' hp hs)
  .cases (show v=.ref p from rv);cases (show u=Value.ref p from ru);obtain ⟨l,hr,rk⟩:=ab.rdD ex;obtain ⟨_,hsys,vs,kv,dd⟩:=pZ I.hok hr;obtain ⟨ep,da⟩:=dd.dictAt;have hk:vs.map (·.1)=ns.map Sum.inl:=by rw [KV.keys kv,yS.keys rk,ek]
   have hlen:vs.length=ns.length:=by simpa using congrArg List.length hk
   refine rL hl (fun Q' E' q=>PySem.W.kdu_collect (PySem.W.kdl_dict (ep:=ep) hsys) (show X.A.in1.handled=none from I.ok.hd hc) da (by rw [sizeLine_eq];omega) fun h' tk acc k ha=>?_) fun s1 s' vs' ss' m w1 w2 hg hv hp hs=>?_
   .refine q { s with heap:=h',toks:=tk } acc.toList (zcJ ns acc.toList (by rw [Array.length_toList,ha.1,hlen]) fun i v hv=>?_) ⟨k,rfl,rfl⟩;obtain ⟨kk,xx,e1,e2⟩:=ha.2 i v (by rw [← Array.getElem?_toList];exact hv);have e3:(vs.map (·.1))[i]?=some kk:=by rw [List.getElem?_map,e1];rfl
    rw [hk,List.getElem?_map] at e3
    cases hn:ns[i]? with
    |none=>rw [hn] at e3;cases e3
    |some n =>
     rw [hn] at e3;cases e3;exact ⟨n,rfl,e2⟩
   .exact zaH I ab w1 w2 hg hv (by rw [hp.length_eq];exact hl) (h ss' hp hs)
 .exact h.elim
def zfz:RS:=fun ws G Q=>zbW ws G Q\/zbV ws G Q
theorem nW:wP zfz:=fun ws G Q Q' k h=>h.imp (za8 ws G Q Q' k) (za7 ws G Q Q' k)
theorem zdB (hc:X.calm=true):wJ X (.builtin "sorted") (vG X.K zfz):=by
 intro pins s σ H xs us Q I r h;obtain ⟨ws,G,rs,ab,h⟩:=h;rcases h with h|h
 .exact zdA hc pins s σ H xs us Q I r ⟨ws,G,rs,ab,h⟩
 .exact zdz pins s σ H xs us Q I r ⟨ws,G,rs,ab,h⟩
end
abbrev zc0:Fn3:=⟨"sorted", fun ws G Q _=>zfz ws G Q⟩
theorem zev {q:Pr} {A:Around} (hm:q.mg "sorted" = none):qP (q.at A) zc0:=⟨rS (id := "sorted") hm (by decide +kernel) (fun X f=>zdB f.calm) nW (fun _ _ h=>h.elim id id),fun ws G Q Q' _ k h=>nW ws G Q Q' k h⟩
end L3
namespace L2
open PySem PySem.Spec PyProof.Rows
def Itw (lo:Int) (n:Nat):It where
 go:=fun i _=>i<n
 yld:=fun i H x H'=>H'=H/\x=.int (lo-i)
 stop:=fun i _=>n<=i
theorem zbG {P:Program} {w:World} {K:PySem.W.Frag} {tg:Expr} (it:Addr) (lo:Int) (n:Nat):Turn P w K tg (Itw lo n) [it] it (fun i h=>IsRangeIter h it (lo+(i:Nat) * (-1)) ((n:Int)-(i:Nat)) (-1)) where
 mem:=List.mem_singleton.mpr rfl
 obj:=fun i h st b hb=>by
  cases zzO hb
  exact ⟨_,st,fun v z=>by
   have z':Data.fields _=Data.cell v:=z;cases z'⟩
 keep:=fun i h h' st k=>k it (List.mem_singleton.mpr rfl) _ st
 item:=by
  intro X e1 e2 e3 hc i pins s σ H E I hf st hg;subst e1;subst e2;subst e3;obtain ⟨f0,f1,f2,f3,f4,f5⟩:=hf it (List.mem_singleton.mpr rfl);refine (Walks.range (prog:=X.prog) (w:=X.w) (I.ok.hd hc) it lo (-1) n).item i s _ _ hg st fun v h' tk hv st' kk=>?_;obtain ⟨t,rfl⟩:=hv;have J:Inv X pins σ H { s with heap:=h',toks:=tk }:=I.turned (fun b o hb e=>kk b o (fun z=>hb (zzO z)) e) f0 f1 f3 f4 f5;refine ⟨_,rfl,fD (s:={ s with heap:=h',toks:=tk }) (n := "range_iterator") st' rfl rfl (by decide) ⟨.int (lo-i),H,J,⟨t,?_⟩,⟨rfl,rfl⟩,st',fun b hb=>(hf b hb).1⟩⟩;rw [show lo+(i:Int) * (-1)=lo-i by omega]
 done:=by
  intro X e1 e2 e3 hc i pins s σ H E I hf st hg;subst e1;subst e2;subst e3;obtain ⟨f0,f1,f2,f3,f4,f5⟩:=hf it (List.mem_singleton.mpr rfl);exact wpAny_pyNext_range_end (I.ok.hd hc) st (by have:n<=i:=hg;omega) fun h' eb=>⟨rfl,I.turned (t':=s.toks) (fun b o hb e=>eb b o hb e) f0 f1 f3 f4 f5⟩
 self:=fun _ _ _ _ _ st h=>wpAny_pyIter_rangeiter st h
theorem gA (a b:Int):Builtin.Range.rangeSize a b (-1)=((a-b).toNat:Int):=by
 unfold Builtin.Range.rangeSize;rw [if_neg (by decide),show (-(-1):Int)=1 from rfl,Int.ediv_one]
 split<;>omega
theorem za9 {a b:Int} (h1:-(2 ^ 62)<=a) (h2:a<2 ^ 62) (h3:-(2 ^ 62)<=b) (h4:b<2 ^ 62):Builtin.Range.small a b (-1)=true:=by
 unfold Builtin.Range.small;rw [gA];have e:(((a-b).toNat:Nat):Int)=if b<a then a-b else 0:=by split<;>omega
 rw [e];simp only [show ¬ ((-1:Int) > 0) by decide,if_false,Builtin.Range.rangeFitsLong,Bool.and_eq_true,Bool.or_eq_true,decide_eq_true_eq,beq_iff_eq]
 split<;>omega
section
variable {X : Cx} {tg : Expr}
theorem zbd {pins:List (Addr×Obj)} {σ:St} {H:Hp} {s:Shared} {R:It->Hp->Prop} {E:Value->Shared->Prop} {lo hi:Int} {t u v:Tok} {tk:Nat} (I:Inv X pins σ H s) (h1:-(2 ^ 62)<=lo) (h2:lo<2 ^ 62) (h3:-(2 ^ 62)<=hi) (h4:hi<2 ^ 62)
  (q:R (Itw lo (lo-hi).toNat) H):wpAny (model X.prog X.w) X.A (pyIter (.ref s.heap.objs.size)) (PIE X pins σ tg R) E { s with heap:=s.heap.push { cls:=.type "range", data:=.fields #[.int lo t,.int hi u,.int (-1) v] },toks:=tk }:=by
 refine wpAny_pyIter_range (IsRange.new ..) (za9 h1 h2 h3 h4) ?_;generalize hh:s.heap.push { cls:=.type "range", data:=.fields #[.int lo t,.int hi u,.int (-1) v] }=h0;have J:Inv X pins σ H { s with heap:=h0,toks:=tk }:=by rw [← hh];exact I.kept fun b o e=>Heap.get?_push_of_some _ e
 refine ⟨h0.objs.size,[h0.objs.size],_,_,H,rfl,J.kept (t':=tk) fun b o e=>Heap.get?_push_of_some _ e,zbG _ lo (lo-hi).toNat,?_,fun b hb=>?_,q⟩
 .show IsRangeIter _ _ (lo+((0:Nat):Int) * (-1)) ((((lo-hi).toNat:Nat):Int)-((0:Nat):Int)) (-1);rw [show lo+((0:Nat):Int) * (-1)=lo by simp,show (((lo-hi).toNat:Nat):Int)-((0:Nat):Int)=Builtin.Range.rangeSize lo hi (-1) by rw [gA];simp];exact Heap.get?_push_size _ rfl
 .cases zzO hb;exact J.fpOk (zzR _) (J.hok.fresh (zzR _))
end
end L2
namespace L3
open PySem PySem.Spec PyProof.Rows L2 PySem.SeqAt
def inB (j:Int):Prop:=-(2 ^ 62)<=j/\j<2 ^ 62
def rg3 (ws:List W) (G:Hw) (R:List W->(Hw->Prop)->Hw->Prop):Prop:=match ws with
 | [.int j]=>inB j/\R ((List.range j.toNat).map fun i=>.int (i:Nat)) (fun _=>True) G
 | [.int i,.int j]=>inB i/\inB j/\R ((List.range (j-i).toNat).map fun k=>.int (i+(k:Nat))) (fun _=>True) G
 | [.int i,.int j,.int c]=>c=-1/\inB i/\inB j/\R ((List.range (i-j).toNat).map fun k=>.int (i-(k:Nat))) (fun _=>True) G
 |_=>False
theorem zdI:tP ⟨"range", rg3⟩:=by
 intro ws G R R' k h;replace h:rg3 ws G R:=h;show rg3 ws G R';unfold rg3 at h ⊢
 split at h
 .exact ⟨h.1,k _ _ _ h.2⟩
 .exact ⟨h.1,h.2.1,k _ _ _ h.2.2⟩
 .exact ⟨h.1,h.2.1,h.2.2.1,k _ _ _ h.2.2.2⟩
 .exact h.elim
theorem ziG {K:yN} {H1:Hp} {lo:Int} {n:Nat}:ItIs K (Itr lo n) H1 ((List.range n).map fun i=>W.int (lo+(i:Nat))) (fun _=>True) where
 go:=fun i H G _ ab st hi=>by show i<n;simpa using hi
 yld:=fun i H G x H' _ ab st hi y=>by
  obtain ⟨rfl,rfl⟩:=y;have hi':i<n:=by simpa using hi
  exact ⟨.int (lo+(i:Nat)),by simp [hi'],.refl,rfl,ab⟩
 stop:=fun i H G _ ab st hi=>by show n<=i;simpa using hi
theorem ziF {K:yN} {H1:Hp} {lo:Int} {n:Nat}:ItIs K (Itw lo n) H1 ((List.range n).map fun i=>W.int (lo-(i:Nat))) (fun _=>True) where
 go:=fun i H G _ ab st hi=>by show i<n;simpa using hi
 yld:=fun i H G x H' _ ab st hi y=>by
  obtain ⟨rfl,rfl⟩:=y;have hi':i<n:=by simpa using hi
  exact ⟨.int (lo-(i:Nat)),by simp [hi'],.refl,rfl,ab⟩
 stop:=fun i H G _ ab st hi=>by show n<=i;simpa using hi
theorem vals3 {vs:List V} {a b c:V} {us:List Value} (e:vs=[a,b,c]) (r:zD vs us):∃ x y z,us=[x,y,z]/\zC a x/\zC b y/\zC c z:=by
 subst e
 cases r with
 |cons r1 r=>cases r with
  |cons r2 r=>cases r with
   |cons r3 r=>cases r;exact ⟨_,_,_,rfl,r1,r2,r3⟩
theorem ziO {q:Pr} {A:Around} (hm:q.mg "range" = none):ItE (q.at A) ⟨"range", rg3⟩:=by
 intro X fits gl tg args t qp pos mt hn pa hnil hdb hnm;have hm':X.mg "range" = none:=by rw [fits.mg];exact hm
 intro pins s σ H R I h
 cases args with
 |nil =>
  obtain ⟨σ3,G,hs,ab,h⟩:=h;exact (hnil rfl _ _ _ h).elim
 |cons a r =>
  obtain ⟨s1,s2⟩:=xM (env:=X.env) (pos:=pos) hn;obtain ⟨σ3,G,hs,ab,h⟩:=h
  have h':=sN (S:=fun vs H1=>(∃ j:Int,vs=[.int j]/\inB j/\R (Itr 0 j.toNat) H1)\/(∃ i j:Int,vs=[.int i,.int j]/\inB i/\inB j/\R (Itr i (j-i).toNat) H1)\/∃ i j:Int,vs=[.int i,.int j,.int (-1)]/\inB i/\inB j/\R (Itw i (i-j).toNat) H1) mt hs ab h fun ws G1 vs H1 g1 hs1 rs a1 h=>by
   dsimp only at h;unfold rg3 at h
   split at h
   .rename_i j;obtain ⟨v,rfl,rv⟩:=jQ rs;cases (show v=.int j from rv);exact .inl ⟨j,rfl,h.1,h.2 _ H1 g1 a1 ziJ⟩
   .rename_i i j;obtain ⟨v1,v2,rfl,r1,r2⟩:=zb7 rs;cases (show v1=.int i from r1);cases (show v2=.int j from r2);exact .inr (.inl ⟨i,j,rfl,h.1,h.2.1,h.2.2 _ H1 g1 a1 ziG⟩)
   .rename_i i j c;obtain ⟨v1,_,rfl,r1,v2,_,rfl,r2,v3,_,rfl,r3,rn⟩:=rs;cases (show _=[] from rn);cases (show v1=.int i from r1);cases (show v2=.int j from r2);cases (show v3=.int c from r3);obtain ⟨rfl,h1,h2,h⟩:=h;exact .inr (.inr ⟨i,j,rfl,h1,h2,h _ H1 g1 a1 ziF⟩)
   .exact h.elim
  refine Call_ (qF I gl hm' boot_range (PyProof.Rows.callWith_type1 (yF (pa pos pins s σ H _ I h') fun us s1 ⟨vs,H1,I1,r1,q1⟩=>?_) s1 s2));rcases q1 with ⟨j,e,q1,q⟩|⟨i,j,e,q1,q2,q⟩|⟨i,j,e,q1,q2,q⟩
  .subst e;obtain ⟨u,rfl,t,rfl⟩:=jR r1;exact call_range_1 (zaA I1 (by omega) (by omega) q1.1 q1.2 (by simpa using q))
  .subst e;obtain ⟨u1,u2,rfl,⟨t1,rfl⟩,t2,rfl⟩:=zbC r1;exact call_range_2 (zaA I1 q1.1 q1.2 q2.1 q2.2 q)
  .obtain ⟨u1,u2,u3,rfl,⟨t1,rfl⟩,⟨t2,rfl⟩,t3,rfl⟩:=vals3 e r1;exact call_range_3 (by decide) (zbd I1 q1.1 q1.2 q2.1 q2.2 q) (.inl (PyProof.noPylong_small (by decide)))
abbrev cC:It3:=⟨"range", rg3⟩
theorem zgG {q:Pr} {A:Around} (hm:q.mg "range" = none):ItE (q.at A) cC/\tP cC:=⟨ziO hm,zdI⟩
end L3
namespace PySem
open Sem (wp)
section
variable {prog : Program} {w : World} {A : Around} {E : Value → Shared → Prop} {s : Shared}
abbrev rN (h:Heap) (e it:Addr) (i:Int) (f0 f1 old:Value):Prop :=
 h.get? e=some { cls:=.type "enumerate", dict:=none,data:=.fields #[f0,f1,.ref it,rawInt i,.none,old],slots:=#[] }
def F0 (v:Value):Prop:=v=.none\/∃ T:Addr,v=rawInt T
def F1 (v:Value):Prop:=v=.bool false\/v=.bool true
theorem zgS {b:Bool} {e it l:Addr} {k:Nat} {xs:Array Value} {x f0 f1 old:Value} {Q:Value->Shared->Prop} (hne:e≠it) (hle:l≠e) (h0:F0 f0) (h1:F1 f1) (he:rN s.heap e it k f0 f1 old)
  (hi:uF b s.heap it l k) (hl:sK b s.heap l xs) (hx:xs[k]?=some x)
  (hQ:∀ h' tk t f0' f1' old',F0 f0'->F1 f1'->rN h' e it ((k:Int)+1) f0' f1' old'->uF b h' it l (k+1)->h'.get? s.heap.objs.size=some { cls:=.type "tuple", data:=.seq #[.int k t,x] }->h'.objs.size=s.heap.objs.size+1 ->
   (∀ c o,c≠e->c≠it->s.heap.get? c=some o->h'.get? c=some o)->Q (.ref s.heap.objs.size) { s with heap:=h',toks:=tk }) :
  wpAny (model prog w) A (Builtin.«enumerate.__next__» ⟨[.ref e],[]⟩) (fun fin z=>∃ v,fin=.done (.ret v)/\Q v z) E s:=by
 obtain ⟨hp,g,d,tk,os⟩:=s;have le:e<hp.objs.size:=Heap.lt_size he;refine wpAny_bind (m:=field (.ref e) 2) (wpAny_field he rfl (x:=.ref it) rfl (wpAny_bind ?_));refine (qZ hi hl hx fun g1 i1 s1=>?_);replace s1:Heap.SameBut it hp g1:=s1;have e1:rN g1 e it k f0 f1 old:=(s1.2 e hne).trans he;show wpAny _ _ (field (.ref e) 3 >>= _) _ _ ⟨g1,g,d,tk,os⟩;refine wpAny_bind (wpAny_field e1 rfl (x:=rawInt k) rfl ?_);show wpAny _ _ (field (.ref e) 4 >>= _) _ _ ⟨g1,g,d,tk,os⟩;refine wpAny_bind (wpAny_field e1 rfl (x:=.none) rfl ?_);show wpAny _ _ (mkInt k >>= _) _ _ ⟨g1,g,d,tk,os⟩;refine wpAny_bind (wpAny_mkInt ?_);show wpAny _ _ (setField (.ref e) 3 (rawInt ((k:Int)+1)) >>= _) _ _ ⟨g1,g,d,tk+1,os⟩;refine wpAny_bind (wpAny_setField_rec e1 (by simp) fun g2 e2 s2=>?_);replace s2:Heap.SameBut e g1 g2:=s2;replace e2:rN g2 e it ((k:Int)+1) f0 f1 old:=e2;show wpAny _ _ (setField (.ref e) 4 .none >>= _) _ _ ⟨g2,g,d,tk+1,os⟩;refine wpAny_bind (wpAny_setField_rec e2 (by simp) fun g3 e3 s3=>?_);replace s3:Heap.SameBut e g2 g3:=s3;replace e3:rN g3 e it ((k:Int)+1) f0 f1 old:=e3;show wpAny _ _ (newTuple [.int k tk,x] >>= _) _ _ ⟨g3,g,d,tk+1,os⟩;refine wpAny_bind (wpAny_newTuple ?_);have e4:rN (g3.push { cls:=.type "tuple", data:=.seq #[.int k tk,x] }) e it ((k:Int)+1) f0 f1 old:=Heap.get?_push_of_some _ e3;generalize hh:g3.push { cls:=.type "tuple", data:=.seq #[.int k tk,x] }=g4 at e4;have hsz:g3.objs.size=hp.objs.size:=by rw [s3.1,s2.1,s1.1]
 have t4:g4.get? hp.objs.size=some { cls:=.type "tuple", data:=.seq #[.int k tk,x] }:=by rw [← hh,← hsz];exact Heap.get?_push_size _ rfl
 have z4:g4.objs.size=hp.objs.size+1:=by rw [← hh,Heap.size_push,hsz]
 have k4:∀ c o,c≠e->c≠it->hp.get? c=some o->g4.get? c=some o:=fun c o n1 n2 q=>by
  rw [← hh];exact Heap.get?_push_of_some _ (s3.extBut c o n1 (s2.extBut c o n1 (s1.extBut c o n2 q)))
 have i4:uF b g4 it l (k+1):=i1.at fun o q=>by rw [← hh];exact Heap.get?_push_of_some _ (s3.extBut it o hne.symm (s2.extBut it o hne.symm q))
 show wpAny _ _ (Builtin.SmallTypes.ownedTupleIsFree (.ref e) >>= _) _ _ ⟨g4,g,d,tk+1,os⟩;rw [hsz]
 clear hh e3 s3 e2 s2 e1 s1 i1 hsz g3 g2 g1
 have free:wpAny (model prog w) A (do
   rule "enumerate.__next__.owned-tuple-again"
   let old ← field (.ref e) 5
   setField (.ref e) 5 x
   Builtin.SmallTypes.ownedTupleHandOut (.ref e) (.ref hp.objs.size)
   letGo [old] [.ref hp.objs.size]
   ret (.ref hp.objs.size)) (fun fin s'=>∃ v,fin=.done (.ret v)/\Q v s') E ⟨g4,g,d,tk+1,os⟩:=by
  refine wpAny_bind (wpAny_rule ?_);refine wpAny_bind (wpAny_field e4 rfl (x:=old) rfl ?_);refine wpAny_bind (wpAny_setField_rec e4 (by simp) fun g5 e5 s5=>?_);replace s5:Heap.SameBut e g4 g5:=s5;replace e5:rN g5 e it ((k:Int)+1) f0 f1 x:=e5;show wpAny _ _ (Builtin.SmallTypes.ownedTupleHandOut (.ref e) (.ref hp.objs.size) >>= _) _ _ ⟨g5,g,d,tk+1,os⟩;refine wpAny_bind ?_;unfold Builtin.SmallTypes.ownedTupleHandOut;refine wpAny_bind (wpAny_setField_rec e5 (by simp) fun g6 e6 s6=>?_);replace s6:Heap.SameBut e g5 g6:=s6;replace e6:rN g6 e it ((k:Int)+1) (rawInt hp.objs.size) f1 x:=e6;refine wpAny_setField_rec e6 (by simp) fun g7 e7 s7=>?_;replace s7:Heap.SameBut e g6 g7:=s7;replace e7:rN g7 e it ((k:Int)+1) (rawInt hp.objs.size) (.bool false) x:=e7;have up:∀ c o,c≠e->g4.get? c=some o->g7.get? c=some o:=fun c o n q=>s7.extBut c o n (s6.extBut c o n (s5.extBut c o n q));exact wpAny_bind (wpAny_letGo (wpAny_pure ⟨_,rfl,hQ g7 (tk+1) tk _ _ _ (.inr ⟨_,rfl⟩) (.inl rfl) e7 (i4.at fun o q=>up it o hne.symm q) (up _ _ (Nat.ne_of_gt le) t4) (by rw [s7.1,s6.1,s5.1,z4]) fun c o n1 n2 q=>up c o n1 (k4 c o n1 n2 q)⟩))
 refine wpAny_bind ?_;unfold Builtin.SmallTypes.ownedTupleIsFree;refine wpAny_bind (wpAny_field e4 rfl (x:=f0) rfl ?_);rcases h0 with rfl|⟨T,rfl⟩
 .exact wpAny_pure free
 .show wpAny _ _ (loadIfAlive (Int.toNat T) >>= _) _ _ _;refine wpAny_bind (jW ?_)
  cases hT:g4.get? (Int.toNat T) with
  |none=>exact wpAny_pure free
  |some oT =>
   show wpAny _ _ (field (.ref e) 1 >>= _) _ _ _;refine wpAny_bind (wpAny_field e4 rfl (x:=f1) rfl ?_);rcases h1 with rfl|rfl
   .refine wpAny_bind (wpAny_setField_rec e4 (by simp) fun g5 e5 s5=>?_);replace s5:Heap.SameBut e g4 g5:=s5;replace e5:rN g5 e it ((k:Int)+1) (rawInt T) (.bool true) old:=e5;refine wpAny_pure (wpAny_pure ⟨_,rfl,hQ g5 (tk+1) tk _ _ _ (.inr ⟨_,rfl⟩) (.inr rfl) e5 (i4.at fun o q=>s5.extBut it o hne.symm q) (s5.extBut _ _ (Nat.ne_of_gt le) t4) (by rw [s5.1,z4]) fun c o n1 n2 q=>s5.extBut c o n1 (k4 c o n1 n2 q)⟩)
   .exact wpAny_pure (wpAny_pure ⟨_,rfl,hQ g4 (tk+1) tk _ _ _ (.inr ⟨_,rfl⟩) (.inr rfl) e4 i4 t4 z4 k4⟩)
end
end PySem
namespace PySem
open Sem (wp)
abbrev enH (b:Bool) (h:Heap) (l:Addr):Heap:=h.push { cls:=.type (itc b),data:=.fields #[.ref l,.int 0 0] }
theorem cN (b:Bool) (l:Addr) (xs:Array Value) :
  Meets (Builtin.«enumerate.__new__» ⟨[.type "enumerate", .ref l],[]⟩) (fun _ R s=>sK b s.heap l xs /\
   R (.ok (.ret (.ref (enH b s.heap l).objs.size))) { s with heap:=(enH b s.heap l).push { cls:=.type "enumerate", data:=.fields #[.none,.bool false,.ref s.heap.objs.size,rawInt 0,.none,.none] } }) :=
 .of_wp fun prog w A R s h=>by
  obtain ⟨hp,g,d,tk,os⟩:=s;obtain ⟨hl,h⟩:=h;have hsub:=sub_enumerate;have hL:sK b (Shared.heap ⟨hp,g,d,tk,os⟩) l xs:=hl
  wp_walk
  refine wpAny_stack_any fun st=>wpAny_pure ?_
  split
  .rename_i c _ _ _ _ _;cases (c==Value.type "enumerate")<;>(wp_walk using kO hL;exact ⟨_,rfl,h⟩)
  .wp_walk using kO hL
   exact ⟨_,rfl,h⟩
section
variable {prog : Program} {w : World} {A : Around} {E : Value → Shared → Prop} {s : Shared}
theorem zg5 {b:Bool} {l:Addr} {xs:Array Value} {Q:Value->Shared->Prop} (hl:sK b s.heap l xs)
  (h:∀ h',rN h' (s.heap.objs.size+1) s.heap.objs.size 0 .none (.bool false) .none->uF b h' s.heap.objs.size l 0->(∀ c o,s.heap.get? c=some o->h'.get? c=some o)->Q (.ref (s.heap.objs.size+1)) { s with heap:=h' }) :
  wpAny (model prog w) A (call (.type "enumerate") [.ref l]) Q E s:=by
 refine callType_new F.called_enumerate (by decide) (F.typeCall_enumerate_1 _) (F.newCall_enumerate_1 _) (fun obj=>F.args_object_init_2 obj _) F.entry_enumerate_new (cN b l xs) ⟨hl,?_⟩;have hz:(enH b s.heap l).objs.size=s.heap.objs.size+1:=Heap.size_push ..;show _/\_;rw [hz]
 have he:rN ((enH b s.heap l).push { cls:=.type "enumerate", data:=.fields #[.none,.bool false,.ref s.heap.objs.size,rawInt 0,.none,.none] }) (s.heap.objs.size+1) s.heap.objs.size 0 .none (.bool false) .none:=by
  have:=Heap.get?_push_size (enH b s.heap l) (o:={ cls:=.type "enumerate", data:=.fields #[.none,.bool false,.ref s.heap.objs.size,rawInt 0,.none,.none] }) rfl;rw [hz] at this;exact this
 exact ⟨⟨_,he,rfl⟩,h _ he ⟨_,Heap.get?_push_of_some _ (Heap.get?_push_size _ rfl),rfl,rfl⟩ fun c o x=>Heap.get?_push_of_some _ (Heap.get?_push_of_some _ x)⟩
end
end PySem
namespace L2
open PySem PySem.Spec PyProof.Rows
def Ite (b:Bool) (K:PySem.W.Frag) (l:Addr):It where
 go:=fun i H=>∃ xs x,pE b K H l xs/\xs[i]?=some x
 yld:=fun i H v H'=>∃ p x,v=.ref p/\H p=none/\H'=xK H p (.tup [.int i,x])/\∀ xs,pE b K H l xs->xs[i]?=some x
 stop:=fun i H=>∃ xs,pE b K H l xs/\xs.length<=i
def EnSt (b:Bool) (e it l:Addr) (i:Nat) (h:Heap):Prop:=∃ f0 f1 old,F0 f0/\F1 f1/\rN h e it i f0 f1 old/\uF b h it l i
section
variable {b : Bool} {e it l : Addr}
theorem EnSt.keep {i:Nat} {h h':Heap} (x:EnSt b e it l i h) (k:∀ c∈[e,it],∀ o,h.get? c=some o->h'.get? c=some o):EnSt b e it l i h':=by
 obtain ⟨f0,f1,old,a0,a1,he,hi⟩:=x;exact ⟨f0,f1,old,a0,a1,k e (by simp) _ he,hi.at fun o q=>k it (by simp) o q⟩
theorem en_go {P:Program} {w:World} {A:Around} {E:Value->Shared->Prop} {s:Shared} {tg:Expr} {u:Value} {i:Nat} {Q:Unit->Shared->Prop} (hne:e≠it) (st:EnSt b e it l i s.heap)
  (h:∀ h',EnSt b e it l i h'->(∀ c o,c≠e->s.heap.get? c=some o->h'.get? c=some o)->Q () { s with heap:=h' }):wpAny (model P w) A (letOwnedTupleGo tg (.ref e) u) Q E s:=by
 have stay:Q () s:=h s.heap st fun _ _ _ z=>z
 have core:wpAny (model P w) A (do
   let (.ref r,.ref t):=(Value.ref e,u)|return
   let o ← load r
   match o.cls,o.data with
   | .type n,.fields vs =>
    if ["enumerate", "zip", "dict_itemiterator", "dict_reverseitemiterator", "odict_iterator", "itertools.zip_longest", "itertools.pairwise"].contains n&&vs[0]?==some (rawInt t) then
     rule "for.unpacks-the-owned-tuple"
     updateField r 0 .none
   |_,_=>pure ()) Q E s:=by
  cases u with
  |ref t =>
   obtain ⟨f0,f1,old,a0,a1,he,hi⟩:=st;refine wpAny_bind (wpAny_load he ?_);dsimp only
   split
   .refine wpAny_bind (wpAny_rule ?_);show wpAny _ _ (setField (.ref e) 0 .none) Q E s;exact wpAny_setField_rec he (by simp) fun h' he' hs'=>h h' ⟨.none,f1,old,.inl rfl,a1,he',hi.at fun o q=>hs'.extBut it o hne.symm q⟩ fun c o hc q=>hs'.extBut c o hc q
   .exact wpAny_pure stay
  |_=>exact wpAny_pure stay
 cases tg with
 |Tuple es x p=>exact core
 |List es x=>exact core
 |_=>exact wpAny_pure stay
theorem zgR (P:Program) (w:World) (K:PySem.W.Frag) (tg:Expr) (hne:e≠it) (n1:l≠e) (n2:l≠it):Turn P w K tg (Ite b K l) [e,it] e (EnSt b e it l) where
 mem:=by simp
 obj:=fun i h x c hc=>by
  obtain ⟨f0,f1,old,_,_,he,o,q1,q2,q3⟩:=x;simp only [List.mem_cons,List.not_mem_nil,or_false] at hc;rcases hc with rfl|rfl
  .exact ⟨_,he,fun v z=>nomatch z⟩
  .exact ⟨o,q1,fun v z=>by rw [q3] at z;cases z⟩
 keep:=fun i h h' x k=>x.keep k
 item:=by
  intro X e1 e2 e3 hc i pins s σ H E I hf st go;subst e1;subst e2;subst e3;obtain ⟨xs,x,q1,ex⟩:=go;obtain ⟨its,vx,sx,_⟩:=I.sqB q1;obtain ⟨u,eu,ru⟩:=vx.get ex;obtain ⟨f0,f1,old,a0,a1,he,hi⟩:=id st;have hT:s.TypeIs (.ref e) "enumerate" := ⟨_,he,rfl⟩;have le:e<s.heap.objs.size:=Heap.lt_size he;have li:it<s.heap.objs.size:=by obtain ⟨o,ho,_⟩:=hi;exact Heap.lt_size ho
  have hn:H s.heap.objs.size=none:=I.hok.fresh (zzR _);unfold pyNext
  refine wpAny_bind (wpAny_attempt (wpAny_callSpecial?_slot (name:=Str.ofString "__next__") hT F.slot_enumerate_next (wpAny_call_entry F.slot_enumerate_next hT F.entry_enumerate_next
   (zgS hne n1 a0 a1 he hi sx (x:=u) (by simpa using eu) fun h' tk t f0' f1' old' b0 b1 he' hi' ht hz k=>wpAny_pure ⟨_,rfl,?_⟩) (F.args_enumerate_next_1 _))))
  refine en_go (s:={ s with heap:=h',toks:=tk }) hne ⟨f0',f1',old',b0,b1,he',hi'⟩ fun h2 st2 k2=>?_
  have J:Inv X pins σ H { s with heap:=h2,toks:=tk }:=I.turns hf fun c o hc q=>by
   simp only [List.mem_cons,List.not_mem_nil,or_false,not_or] at hc;exact k2 c o hc.1 (k c o hc.1 hc.2 q)
  refine ⟨.ref s.heap.objs.size,xK H s.heap.objs.size (.tup [.int i,x]),?_,rfl,⟨_,x,rfl,hn,rfl,fun ys q'=>by rw [I.sqB_inj q' q1];exact ex⟩,st2,fun c hc=>?_⟩
  .refine J.adopt (I.off (zzR _)) hn ⟨by show 2<=sizeLine;rw [sizeLine_eq];decide,[.int i t,u],.cons ⟨t,rfl⟩ (.cons ru .nil),⟨_,k2 _ _ (Nat.ne_of_gt le) ht,rfl,_,rfl⟩⟩
  .have:c≠s.heap.objs.size:=by
    simp only [List.mem_cons,List.not_mem_nil,or_false] at hc;rcases hc with rfl|rfl
    .exact Nat.ne_of_lt le
    .exact Nat.ne_of_lt li
   rw [yV this];exact (hf c hc).1
 done:=by
  intro X e1 e2 e3 hc i pins s σ H E I hf st stop;subst e1;subst e2;subst e3;obtain ⟨xs,q1,hx⟩:=stop;obtain ⟨its,vx,sx,_⟩:=I.sqB q1;obtain ⟨f0,f1,old,a0,a1,he,hi⟩:=id st;have hT:s.TypeIs (.ref e) "enumerate" := ⟨_,he,rfl⟩;have hl:=vx.length;unfold pyNext;refine wpAny_bind (wpAny_attempt (wpAny_callSpecial?_slot (name:=Str.ofString "__next__") hT F.slot_enumerate_next (wpAny_call_entry F.slot_enumerate_next hT F.entry_enumerate_next ?_ (F.args_enumerate_next_1 _))));show wpAny _ _ (field (.ref e) 2 >>= _) _ _ _;refine wpAny_bind (wpAny_field he rfl (x:=.ref it) rfl ?_);refine wpAny_bind (tG (A:=X.A.in1) (I.ok.hd hc) hi sx (by simp;omega) fun h' x k hx'=>?_);obtain ⟨o,ho,hc'⟩:=hx';refine wpAny_bind (wpAny_isInstance (T := "StopIteration") (b:=true) ⟨o,ho,hc'⟩ isSubtype_stop ?_);refine wpAny_pure ⟨rfl,I.turns (t':=s.toks) hf fun c o hc q=>?_⟩;simp only [List.mem_cons,List.not_mem_nil,or_false,not_or] at hc;exact k c o hc.2 q
 self:=fun A i s Q E st h=>by
  obtain ⟨f0,f1,old,a0,a1,he,hi⟩:=st;have hT:s.TypeIs (.ref e) "enumerate" := ⟨_,he,rfl⟩;have body:wpAny (model P w) A.in1 (ret (.ref e)) (fun fin z=>∃ v,fin=.done (.ret v)/\∃ T id,z.TypeIs v T/\typeLookup (.type T) "__next__" = pure (some id)/\Q v z) E s:=wpAny_pure ⟨_,rfl,_,_,hT,F.slot_enumerate_next.lookup,h⟩;exact wpAny_pyIter_slot hT F.slot_enumerate_iter (wpAny_call_entry F.slot_enumerate_iter hT F.entry_enumerate_iter body (F.args_enumerate_iter_1 _))
end
end L2
namespace L3
open PySem PySem.Spec PyProof.Rows L2 PySem.SeqAt
def enW (xs:List W):List W:=(List.range xs.length).map fun i=>W.tup [.int (i:Nat),xs.getD i .non]
def enI (ws:List W) (G:Hw) (R:List W->(Hw->Prop)->Hw->Prop):Prop:=match ws with
 | [x]=>∃ xs,xZ G x=some xs/\R (enW xs) (fun G'=>xZ G' x=some xs) G
 |_=>False
theorem zex:tP ⟨"enumerate", enI⟩:=by
 intro ws G R R' k h;replace h:enI ws G R:=h;show enI ws G R';unfold enI at h ⊢
 split at h
 .obtain ⟨xs,e1,h⟩:=h;exact ⟨xs,e1,k _ _ _ h⟩
 .exact h.elim
theorem ziL {K:yN} {H1:Hp} {G1:Hw} {x:W} {a:Addr} {vx:List V} {xs:List W} (rx:wQ K H1 x (.ref a)) (ex:xZ G1 x=some xs) (sx:pE (hX x) K H1 a vx) (rr:zF K H1 xs vx) :
  ItIs K (Ite (hX x) K a) H1 (enW xs) (fun G'=>xZ G' x=some xs) where
 go:=fun i H G g ab st hi=>by
  obtain ⟨vx',sx',rx'⟩:=kM g ab rx ex sx rfl st rr;have h1:=rx'.length;have hi:i<xs.length:=by simpa [enW] using hi
  exact ⟨vx',vx'[i]'(by omega),sx',List.getElem?_eq_getElem _⟩
 yld:=fun i H G v H' g ab st hi yl=>by
  obtain ⟨vx',sx',rx'⟩:=kM g ab rx ex sx rfl st rr;obtain ⟨p,x',rfl,hp,rfl,e2⟩:=yl;obtain ⟨wx,ewx,rpx⟩:=rx'.get' (e2 vx' sx');have hi:i<xs.length:=by simpa [enW] using hi
  have gr:yJ K H (xK H p (.tup [.int i,x'])):=xJ hp;refine ⟨.tup [.int i,wx],?_,gr,⟨p,[.int i,x'],rfl,.of wY,⟨_,_,rfl,rfl,_,_,rfl,rpx.mono gr,rfl⟩⟩,ab.tup hp⟩;simp [enW,hi];rw [List.getElem?_eq_getElem hi] at ewx;exact Option.some.inj ewx
 stop:=fun i H G g ab st hi=>by
  obtain ⟨vx',sx',rx'⟩:=kM g ab rx ex sx rfl st rr;have h1:=rx'.length;have hi:xs.length<=i:=by simpa [enW] using hi
  exact ⟨vx',sx',by omega⟩
theorem it_en {q:Pr} {A:Around} (hm:q.mg "enumerate" = none):ItE (q.at A) ⟨"enumerate", enI⟩:=by
 intro X fits gl tg args t qp pos mt hn pa hnil hdb hnm;have hm':X.mg "enumerate" = none:=by rw [fits.mg];exact hm
 intro pins s σ H R I h
 cases args with
 |nil =>
  obtain ⟨σ3,G,hs,ab,h⟩:=h;exact (hnil rfl _ _ _ h).elim
 |cons a r =>
  obtain ⟨s1,s2⟩:=xM (env:=X.env) (pos:=pos) hn;obtain ⟨σ3,G,hs,ab,h⟩:=h
  have h':=sN (S:=fun vs H1=>∃ x a1 vx,vs=[.ref a1]/\pE (hX x) X.K H1 a1 vx/\R (Ite (hX x) X.K a1) H1) mt hs ab h fun ws G1 vs H1 g1 hs1 rs a1 h=>by
   dsimp only at h;unfold enI at h
   split at h
   .rename_i x;obtain ⟨v1,rfl,r1⟩:=jQ rs;obtain ⟨xs,ex,h⟩:=h;obtain ⟨p1,vx,rfl,sx,rx⟩:=kY a1 r1 ex;exact ⟨x,p1,vx,rfl,sx,h _ H1 g1 a1 (ziL r1 ex sx rx)⟩
   .exact h.elim
  refine Call_ (qF I gl hm' (by decide +kernel:bootBuiltins "enumerate" = some (.type "enumerate")) (PyProof.Rows.callWith_type1 (yF (pa pos pins s σ H _ I h') fun us s1 ⟨vs,H1,I1,r1,q1⟩=>?_) s1 s2));obtain ⟨x,a1,vx,e,sx,q⟩:=q1;subst e;obtain ⟨u1,rfl,ru1⟩:=jR r1;cases (show u1=Value.ref a1 from ru1);obtain ⟨itx,vvx,ssx,hzx⟩:=I1.sqB sx
  have lt1:a1<s1.heap.objs.size:=by
   cases hb:hX x<;>rw [hb] at ssx<;>(obtain ⟨o,ho,_⟩:=ssx;exact Heap.lt_size ho)
  refine zg5 ssx fun h' z1 z2 z3=>?_;have J:Inv X pins σ H1 { s1 with heap:=h',toks:=s1.toks }:=I1.kept z3
  have hf:∀ b∈[s1.heap.objs.size+1,s1.heap.objs.size],kR X pins H1 b:=fun b hb=>by
   have hge:s1.heap.objs.size<=b:=by
    simp only [List.mem_cons,List.not_mem_nil,or_false] at hb;omega
   exact I1.fpOk hge (I1.hok.fresh hge)
  have tu:=zgR (b:=hX x) (e:=s1.heap.objs.size+1) (it:=s1.heap.objs.size) (l:=a1) X.prog X.w X.K tg (Nat.succ_ne_self _) (Nat.ne_of_lt (Nat.lt_succ_of_lt lt1)) (Nat.ne_of_lt lt1);have st:EnSt (hX x) (s1.heap.objs.size+1) s1.heap.objs.size a1 0 h':=⟨.none,.bool false,.none,.inl rfl,.inl rfl,z1,z2⟩;exact tu.self X.A 0 { s1 with heap:=h' } _ _ st ⟨_,_,_,_,H1,rfl,J,tu,st,hf,q⟩
abbrev eEn:It3:=⟨"enumerate", enI⟩
theorem zi4 {q:Pr} {A:Around} (hm:q.mg "enumerate" = none):ItE (q.at A) eEn/\tP eEn:=⟨it_en hm,zex⟩
mutual
def dOf:W->PyData
 | .str x=>.str x
 | .tup ws=>.tuple (cA ws)
 |_=>.none
def cA:List W->List PyData
 | []=>[]
 |w::ws=>dOf w::cA ws
end
mutual
def tt:W->Bool
 | .str _=>true
 | .tup ws=>tts ws
 |_=>false
def tts:List W->Bool
 | []=>true
 |w::ws=>tt w&&tts ws
end
theorem zdp {w:W} {ws:List W} (h:tts (w::ws)=true):tt w=true/\tts ws=true:=by
 have h:(tt w&&tts ws)=true:=h;exact (Bool.and_eq_true _ _).mp h
theorem zav:∀ ws:List W,(∀ w∈ws,(dOf w).showable=true/\(dOf w).hasDict=false)->PyData.showableAll (cA ws)=true/\PyData.hasDictAll (cA ws)=false
 | [],_=>⟨rfl,rfl⟩
 |w::ws,h=>by
  obtain ⟨h1,h2⟩:=h w zzT;obtain ⟨h3,h4⟩:=zav ws fun v hv=>h v (List.mem_cons_of_mem _ hv);simp only [cA,PyData.showableAll,PyData.hasDictAll,h1,h2,h3,h4,Bool.and_self,Bool.or_self,and_self]
theorem zbZ:∀ w:W,(dOf w).showable=true/\(dOf w).hasDict=false:=by
 refine W.ind ?non ?bl ?int ?str ?ty ?ref ?tup ?lsf ?exc ?dcf
 case tup =>
  intro ws h;exact zav ws h
 all_goals intros;exact ⟨rfl,rfl⟩
theorem dX:∀ ws:List W,(∀ w∈ws,(dOf w).depth<=dep w)->PyData.depthAll (cA ws)<=jX ws
 | [],_=>zzR _
 |w::ws,h=>by
  have h1:=h w zzT;have h2:=dX ws fun v hv=>h v (List.mem_cons_of_mem _ hv);simp only [cA,PyData.depthAll,jX];omega
theorem zeB:∀ w:W,(dOf w).depth<=dep w:=by
 refine W.ind ?non ?bl ?int ?str ?ty ?ref ?tup ?lsf ?exc ?dcf
 case tup =>
  intro ws h;have:=dX ws h;show PyData.depthAll (cA ws)+1<=dep (.tup ws);simp only [dep];omega
 all_goals intros;exact Nat.zero_le _
section
variable {X : Cx} {pins : List (Addr × Obj)} {σ : L2.St} {H : Hp} {s : Shared}
theorem fT (I:Inv X pins σ H s):∀ (ws:List W),(∀ w∈ws,∀ v u,wQ X.K H w v->zC v u->tt w=true->∃ as,Reads s.heap u (dOf w) as)->∀ vs us,zF X.K H ws vs->zD vs us->tts ws=true->∃ as,ReadsAll s.heap us (cA ws) as
 | [],_,vs,us,r,k,_=>by
  cases (show vs=[] from r);cases k;exact ⟨[],.nil⟩
 |w::ws,h,vs,us,r,k,t=>by
  obtain ⟨v,vs',rfl,rv,rs⟩:=r
  cases k with
  |cons k ks =>
   obtain ⟨t1,t2⟩:=zdp t;obtain ⟨a1,h1⟩:=h w zzT _ _ rv k t1;obtain ⟨a2,h2⟩:=fT I ws (fun z hz=>h z (List.mem_cons_of_mem _ hz)) _ _ rs ks t2;exact ⟨a1++a2,.cons h1 h2⟩
theorem zdK (I:Inv X pins σ H s):∀ (w:W) (v:V) (u:Value),wQ X.K H w v->zC v u->tt w=true->∃ as,Reads s.heap u (dOf w) as:=by
 refine W.ind ?non ?bl ?int ?str ?ty ?ref ?tup ?lsf ?exc ?dcf
 case str =>
  intro x v u r k _;cases (show v=.str x from r);obtain ⟨t,rfl⟩:=k;exact ⟨[],.str x t⟩
 case tup =>
  intro ws h v u r k t;obtain ⟨a,vs,its,rfl,rfl,q,rs,vr,it,_⟩:=wX I r k;obtain ⟨as,ra⟩:=fT I ws h vs its rs vr t;obtain ⟨o,ho,hc,n,hd⟩:=it;exact ⟨as,.tuple ho hc hd (by simpa using ra)⟩
 all_goals intros;rename_i t;exact absurd t zzN
end
def rpr (w:W):Str:=(dOf w).shown
def fU:RS:=fun ws G Q=>match ws with
 | [.tup xs]=>tts xs=true/\jX xs<=150/\(rpr (.tup xs)).length<=sizeLine/\Q (.str (rpr (.tup xs))) G
 |_=>False
theorem nR:wP fU:=by
 intro ws G Q Q' k h;unfold fU at h ⊢
 split at h
 .exact ⟨h.1,h.2.1,h.2.2.1,k _ _ h.2.2.2⟩
 .exact h.elim
theorem zfH {X:Cx} (hu:X.A.units+200<cLine) (hg:X.A.guards=some []):wJ X (.builtin "repr") (vG X.K fU):=by
 intro pins s σ H xs us Q I r h;obtain ⟨ws,G,rs,ab,h⟩:=h;unfold fU at h
 split at h
 .rename_i ys;obtain ⟨v,rfl,rv⟩:=jQ rs;obtain ⟨u,rfl,ru⟩:=jR r;obtain ⟨h1,h2,h3,h⟩:=h;obtain ⟨as,ra⟩:=zdK I _ _ _ rv ru h1;obtain ⟨a,vs,rfl,sq,rr⟩:=rv;cases (show u=Value.ref a from ru);have hd:=zeB (.tup ys);simp only [dep] at hd;refine repr_of_reads' ra (zbZ _).1 (PyData.noDict_hsm (zbZ _).2) hg (by omega) (fun _ _ e=>e) (fun h' u tk k=>?_) h3;exact ⟨.str (rpr (.tup ys)),H,I.kept k,⟨u,rfl⟩,h _ H .refl rfl ab⟩
 .exact h.elim
abbrev eRpr:Fn3:=⟨"repr", fun ws G Q _=>fU ws G Q⟩
theorem zgF {q:Pr} {A:Around} (hu:A.units+200<cLine) (hg:A.guards=some []) (hm:q.mg "repr" = none):qP (q.at A) eRpr:=⟨rS (id := "repr") hm (by decide +kernel) (fun X f=>zfH (by rw [f.A];exact hu) (by rw [f.A];exact hg)) nR (fun _ _ h=>h),fun ws G Q Q' _ k h=>nR ws G Q Q' k h⟩
end L3
namespace L3
open PySem PySem.Spec PyProof.Rows L2
def emM:Scope->Expr->Option (List Expr):=fun _ e=>match e with
 | .Dict [] [] _=>some []
 |_=>none
def emS:RS:=fun ws G Q=>match ws with
 | []=>∀ p,G p=none->Q (.ref p) (put G p (.dic []))
 |_=>False
theorem zey:wP emS:=by
 intro ws G Q Q' k h;unfold emS at h ⊢
 split at h
 .exact fun p hp=>k _ _ (h p hp)
 .exact h.elim
theorem zgU {sc:Scope} {e:Expr} {xs:List Expr} (h:emM sc e=some xs):∃ pos,e=.Dict [] [] pos/\xs=[]:=by
 unfold emM at h
 split at h
 .cases h;exact ⟨_,rfl,rfl⟩
 .cases h
theorem sx_em {q:Pr} {A:Around}:SxE (q.at A) ⟨emM,emS⟩:=by
 intro X fits e xs es he each hn pa;obtain ⟨pos,rfl,rfl⟩:=zgU (sc:=X.env.scope) he
 match es,each with
 | [],each =>
  refine ⟨fun pins s σ H Q I h=>?_,fun _=>rfl,fun _ _ _ z=>nomatch z⟩;obtain ⟨σ3,G,hs,ab,h⟩:=h;have h:∀ p,G p=none->qG X.K H Q (.ref p) (put G p (.dic [])):=h;refine zd0 pins s σ H Q I fun p hp=>?_;exact h p (ab.free hp) _ _ (xJ hp) rfl (ab.new hp ⟨[],rfl,rfl⟩)
end L3
namespace K69
open PySem PySem.Spec L2 L3
def bG (i:Nat):Stmt:=PySem.Challenge.pw_talkcourt_k69_where_sayings_fail.main.body.getD i (.Pass ⟨0,0,0,0⟩)
def gls:List Str:=["bool", "list", "sides_of"]
def mts:List Str:=["pop", "join", "append", "extend"]
def its:List Str:=["range", "zip", "enumerate"]
def sxm:List (Scope->Expr->Option (List Expr)):=[lofM "reversed", rvM,ssM,hcM "sides_of", emM]
def fns:List Str:=(["max", "len", "all", "list", "isinstance", "sorted", "tuple", "int", "repr", "_law_deal", "_law_draw", "_law_names", "_law_web", "_law_saying", "_law_spoilt_web", "_law_true", "_law_borne", "sides_of", "all_within", "all_parts"]:List Str)++(["truths_of_if", "joined_truths", "truths_of", "bears", "fails", "true_by", "law"]:List Str)
/- fn: 0 max,1 len,2 all,3 list,4 isinstance,5 sorted,6 tuple,7 int,8 repr,9 _law_deal,10 _law_draw,11 _law_names,12 _law_web,13 _law_saying,14 _law_spoilt_web,15 _law_true,16 _law_borne,17 sides_of,18 all_within,19 all_parts,20 truths_of_if,21 joined_truths,22 truths_of,23 bears,24 fails,25 true_by,26 law -/
abbrev wB:Stmt:=bG 13
def nJ:List Str:=["_law_script", "_law_base", "_law_cells", "_law_number", "_law_cell"]
def zbv:ISs:=(.cons (.asg 2 (.lc (.nm 0) ["_law_cell"] [] (.val (.sl (.var 0) (.yes (.var 1)) (.yes (.con (.int 63))))) .no (.call 0 (.cons (.var 0) (.cons (.bin .Sub (.con (.int 0)) (.var 0)) .nil)))))
 (.cons (.asg 3 (.bin .Add (.con (.int 7919)) (.var 1)))
 (.cons (.for (.nm 4) (.val (.var 2)) (.cons (.asg 3 (.bin .Mod (.bin .Add (.bin .Mult (.var 3) (.con (.int 69621))) (.bin .Mod (.var 4) (.con (.int 2147483629)))) (.con (.int 2147483647))))
 .nil))
 (.cons (.ret (.dct ["seed", "number", "left"] (.cons (.var 3) (.cons (.con (.int 0)) (.cons (.spc 0 (.cons (.lc (.nm 0) ["_law_cell"] [] (.val (.var 2)) (.yes (.cmp .GtE (.var 0) (.bin .Pow (.con (.int 10)) (.con (.int 18))))) (.var 0)) .nil)) .nil)))))
 .nil))))
def nC:MC:=⟨zV wB,nJ,(fun _=>true),fns.take 9,gls,mts,its,sxm,[]⟩
theorem zah:FnScope nJ ["_law_script", "_law_base"] (zV wB):=⟨rfl,rfl,rfl,by decide +kernel,rfl,by decide +kernel,by decide +kernel⟩
theorem gR:vS zbv nC (zH wB)=true:=by decide +kernel
abbrev wC:Stmt:=bG 14
def nK:List Str:=["_law_deal_here", "_law_many", "_law_number", "_law_one", "_law_other"]
def zbu:ISs:=(.cons (.whl (.and (.cmp .Eq (.ix (.var 0) (.con (.str "number"))) (.con (.int 0))) (.cmp .Gt (.call 1 (.cons (.ix (.var 0) (.con (.str "left"))) .nil)) (.con (.int 0)))) (.cons (.asgI (.var 0) (.con (.str "number")) (.mth 0 (.ix (.var 0) (.con (.str "left"))) .nil))
 .nil))
 (.cons (.asg 2 (.ix (.var 0) (.con (.str "number"))))
 (.cons (.ite (.cmp .Gt (.var 2) (.con (.int 0))) (.cons (.asgI (.var 0) (.con (.str "number")) (.bin .FloorDiv (.var 2) (.var 1)))
 (.cons (.ret (.bin .Mod (.var 2) (.var 1)))
 .nil)) .nil)
 (.cons (.asg 3 (.bin .Mod (.bin .Add (.bin .Mult (.ix (.var 0) (.con (.str "seed"))) (.con (.int 48271))) (.con (.int 7919))) (.con (.int 2147483647))))
 (.cons (.asgI (.var 0) (.con (.str "seed")) (.bin .Mod (.bin .Add (.bin .Mult (.var 3) (.con (.int 40692))) (.con (.int 104729))) (.con (.int 2147483399))))
 (.cons (.asg 4 (.bin .Mod (.bin .Mult (.ix (.var 0) (.con (.str "seed"))) (.ix (.var 0) (.con (.str "seed")))) (.con (.int 2147483563))))
 (.cons (.ret (.bin .Mod (.bin .Add (.bin .Mult (.bin .Mod (.bin .Mult (.var 3) (.var 3)) (.con (.int 2147483629))) (.con (.int 2147483563))) (.var 4)) (.var 1)))
 .nil)))))))
def nD:MC:=⟨zV wC,nK,(fun _=>true),fns.take 10,gls,mts,its,sxm,[]⟩
theorem zag:FnScope nK ["_law_deal_here", "_law_many"] (zV wC):=⟨rfl,rfl,rfl,by decide +kernel,rfl,by decide +kernel,by decide +kernel⟩
theorem gT:vS zbu nD (zH wC)=true:=by decide +kernel
abbrev wV:Stmt:=bG 15
def vK:List Str:=["_law_deal_here", "_law_many", "_law_letters", "_law_names_here", "_law_core", "_law_at", "_law_turn", "_law_k", "_law_name"]
def wR:ISs:=(.cons (.asg 2 (.con (.str "abcdefghijklmnopqrstuvwxyz")))
 (.cons (.asg 3 (.lst .nil))
 (.cons (.asg 4 (.mth 1 (.con (.str "")) (.cons (.lc (.nm 0) ["_law_k"] [2,0] (.blt 0 (.cons (.call 10 (.cons (.var 0) (.cons (.con (.int 5)) .nil))) .nil)) .no (.ix (.var 1) (.call 10 (.cons (.var 2) (.cons (.con (.int 26)) .nil))))) .nil)))
 (.cons (.asg 5 (.call 10 (.cons (.var 0) (.cons (.bin .Add (.call 1 (.cons (.var 4) .nil)) (.con (.int 1))) .nil))))
 (.cons (.asg 6 (.call 10 (.cons (.var 0) (.cons (.con (.int 26)) .nil))))
 (.cons (.for (.nm 7) (.blt 0 (.cons (.var 1) .nil)) (.cons (.asg 8 (.bin .Add (.bin .Add (.sl (.var 4) .no (.yes (.var 5))) (.ix (.var 2) (.bin .Mod (.bin .Add (.var 6) (.bin .Mult (.con (.int 7)) (.var 7))) (.con (.int 26))))) (.sl (.var 4) (.yes (.var 5)) .no)))
 (.cons (.ite (.cmp .In (.var 8) (.tup (.cons (.con (.str "and")) (.cons (.con (.str "or")) (.cons (.con (.str "not")) (.cons (.con (.str "then")) .nil)))))) (.cons (.asg 8 (.bin .Add (.var 8) (.con (.str "q"))))
 .nil) .nil)
 (.cons (.ex (.mth 2 (.var 3) (.cons (.var 8) .nil)))
 .nil))))
 (.cons (.ite (.and (.cmp .Gt (.var 1) (.con (.int 1))) (.cmp .Eq (.call 10 (.cons (.var 0) (.cons (.con (.int 2)) .nil))) (.con (.int 1)))) (.cons (.asgI (.var 3) (.con (.int 0)) (.bin .Add (.ix (.var 3) (.con (.int 0))) (.con (.str "z"))))
 .nil) .nil)
 (.cons (.ret (.var 3))
 .nil))))))))
def rH:MC:=⟨zV wV,vK,(fun _=>true),fns.take 11,gls,mts,its,sxm,[]⟩
theorem dA:FnScope vK ["_law_deal_here", "_law_many"] (zV wV):=⟨rfl,rfl,rfl,by decide +kernel,rfl,by decide +kernel,by decide +kernel⟩
theorem mZ:vS wR rH (zH wV)=true:=by decide +kernel
abbrev jO:Stmt:=bG 17
def rZ:List Str:=["_law_deal_here", "_law_names_here", "_law_most", "_law_many", "_law_rows", "_law_at", "_law_later", "_law_j", "_law_one", "_law_some"]
def xH:ISs:=(.cons (.asg 3 (.bin .Add (.con (.int 1)) (.call 10 (.cons (.var 0) (.cons (.var 2) .nil)))))
 (.cons (.asg 4 (.spc 4 .nil))
 (.cons (.for (.nm 5) (.blt 0 (.cons (.bin .Sub (.var 3) (.con (.int 1))) (.cons (.neg (.con (.int 1))) (.cons (.neg (.con (.int 1))) .nil)))) (.cons (.asg 6 (.spc 4 .nil))
 (.cons (.for (.nm 7) (.blt 0 (.cons (.bin .Add (.var 5) (.con (.int 1))) (.cons (.var 3) .nil))) (.cons (.ite (.and (.cmp .NotIn (.var 7) (.var 6)) (.cmp .Eq (.call 10 (.cons (.var 0) (.cons (.con (.int 3)) .nil))) (.con (.int 0)))) (.cons (.asgI (.var 6) (.var 7) (.con (.bool true)))
 (.cons (.for (.nm 8) (.val (.ix (.ix (.var 4) (.var 7)) (.con (.int 1)))) (.cons (.asgI (.var 6) (.var 8) (.con (.bool true)))
 .nil))
 .nil)) .nil)
 .nil))
 (.cons (.asg 9 (.lc (.nm 0) ["_law_name"] [0] (.val (.var 1)) (.yes (.cmp .Eq (.call 10 (.cons (.var 1) (.cons (.con (.int 2)) .nil))) (.con (.int 1)))) (.var 0)))
 (.cons (.asg 9 (.lc (.nm 0) ["_law_name"] [4,6] (.val (.var 9)) (.yes (.call 2 (.cons (.lc (.nm 0) ["_law_j"] [0,1] (.val (.var 2)) .no (.cmp .In (.var 1) (.ix (.ix (.var 2) (.var 0)) (.con (.int 0))))) .nil))) (.var 0)))
 (.cons (.asgI (.var 4) (.var 5) (.tup (.cons (.call 6 (.cons (.call 5 (.cons (.var 9) .nil)) .nil)) (.cons (.call 6 (.cons (.call 5 (.cons (.var 6) .nil)) .nil)) .nil))))
 .nil))))))
 (.cons (.ret (.call 6 (.cons (.lc (.nm 0) ["_law_k"] [4] (.blt 0 (.cons (.var 3) .nil)) .no (.ix (.var 1) (.var 0))) .nil)))
 .nil))))
def fO:MC:=⟨zV jO,rZ,(fun _=>true),fns.take 12,gls,mts,its,sxm,[]⟩
theorem zbb:FnScope rZ ["_law_deal_here", "_law_names_here", "_law_most"] (zV jO):=⟨rfl,rfl,rfl,by decide +kernel,rfl,by decide +kernel,by decide +kernel⟩
theorem cL:vS xH fO (zH jO)=true:=by decide +kernel
abbrev xF:Stmt:=bG 16
def kJ:List Str:=["_law_deal_here", "_law_names_here", "_law_many", "_law_way", "_law_left", "_law_one"]
def jC:ISs:=(.cons (.ite (.cmp .Eq (.var 2) (.con (.int 1))) (.cons (.ret (.tup (.cons (.con (.str "say")) (.cons (.ix (.var 1) (.call 10 (.cons (.var 0) (.cons (.call 1 (.cons (.var 1) .nil)) .nil)))) .nil))))
 .nil) .nil)
 (.cons (.asg 3 (.call 10 (.cons (.var 0) (.cons (.con (.int 4)) .nil))))
 (.cons (.ite (.or (.cmp .Eq (.var 2) (.con (.int 2))) (.cmp .Eq (.var 3) (.con (.int 3)))) (.cons (.ret (.tup (.cons (.con (.str "not")) (.cons (.call 13 (.cons (.var 0) (.cons (.var 1) (.cons (.bin .Sub (.var 2) (.con (.int 1))) .nil)))) .nil))))
 .nil) .nil)
 (.cons (.asg 4 (.bin .Add (.con (.int 1)) (.call 10 (.cons (.var 0) (.cons (.bin .Sub (.var 2) (.con (.int 2))) .nil)))))
 (.cons (.asg 5 (.call 13 (.cons (.var 0) (.cons (.var 1) (.cons (.var 4) .nil)))))
 (.cons (.ret (.tup (.cons (.ix (.lst (.cons (.con (.str "and")) (.cons (.con (.str "or")) (.cons (.con (.str "if")) .nil)))) (.var 3)) (.cons (.var 5) (.cons (.call 13 (.cons (.var 0) (.cons (.var 1) (.cons (.bin .Sub (.bin .Sub (.var 2) (.con (.int 1))) (.var 4)) .nil)))) .nil)))))
 .nil))))))
def sW:MC:=⟨zV xF,kJ,(fun _=>true),fns.take 14,gls,mts,its,sxm,[]⟩
theorem hG:FnScope kJ ["_law_deal_here", "_law_names_here", "_law_many"] (zV xF):=⟨rfl,rfl,rfl,by decide +kernel,rfl,by decide +kernel,by decide +kernel⟩
theorem pT:vS jC sW (zH xF)=true:=by decide +kernel
abbrev yG:Stmt:=bG 20
def jN:List Str:=["_law_deal_here", "_law_web_here", "_law_rows", "_law_turn", "_law_at", "_law_names_here", "_law_later", "_law_way", "_law_spot", "_law_every", "_law_row"]
def yM:ISs:=(.cons (.asg 2 (.call 3 (.cons (.var 1) .nil)))
 (.cons (.for (.nm 3) (.blt 0 (.cons (.bin .Add (.con (.int 1)) (.call 10 (.cons (.var 0) (.cons (.con (.int 3)) .nil)))) .nil)) (.cons (.asg 4 (.call 10 (.cons (.var 0) (.cons (.call 1 (.cons (.var 2) .nil)) .nil))))
 (.cons (.asgT (.cons (.nm 5) (.cons (.nm 6) .nil)) (.ix (.var 2) (.var 4)))
 (.cons (.asg 7 (.call 10 (.cons (.var 0) (.cons (.con (.int 3)) .nil))))
 (.cons (.ite (.and (.cmp .Eq (.var 7) (.con (.int 0))) (.cmp .Gt (.call 1 (.cons (.var 5) .nil)) (.con (.int 0)))) (.cons (.asg 8 (.call 10 (.cons (.var 0) (.cons (.call 1 (.cons (.var 5) .nil)) .nil))))
 (.cons (.asg 5 (.bin .Add (.sl (.var 5) .no (.yes (.var 8))) (.sl (.var 5) (.yes (.bin .Add (.var 8) (.con (.int 1)))) .no)))
 .nil)) .nil)
 (.cons (.ite (.cmp .Eq (.var 7) (.con (.int 1))) (.cons (.asg 9 (.lst .nil))
 (.cons (.for (.nm 10) (.val (.var 2)) (.cons (.ex (.mth 3 (.var 9) (.cons (.lc (.nm 0) ["_law_name"] [9] (.val (.ix (.var 10) (.con (.int 0)))) (.yes (.cmp .NotIn (.var 0) (.var 1))) (.var 0)) .nil)))
 .nil))
 (.cons (.asg 9 (.call 5 (.cons (.var 9) .nil)))
 (.cons (.ite (.cmp .Gt (.call 1 (.cons (.var 9) .nil)) (.con (.int 0))) (.cons (.asg 5 (.call 6 (.cons (.spc 2 (.cons (.bin .Add (.var 5) (.tup (.cons (.ix (.var 9) (.call 10 (.cons (.var 0) (.cons (.call 1 (.cons (.var 9) .nil)) .nil)))) .nil))) .nil)) .nil)))
 .nil) .nil)
 .nil)))) .nil)
 (.cons (.ite (.and (.cmp .Eq (.var 7) (.con (.int 2))) (.cmp .Gt (.call 1 (.cons (.var 6) .nil)) (.con (.int 0)))) (.cons (.asg 8 (.call 10 (.cons (.var 0) (.cons (.call 1 (.cons (.var 6) .nil)) .nil))))
 (.cons (.asg 6 (.bin .Add (.sl (.var 6) .no (.yes (.var 8))) (.sl (.var 6) (.yes (.bin .Add (.var 8) (.con (.int 1)))) .no)))
 .nil)) .nil)
 (.cons (.asgI (.var 2) (.var 4) (.tup (.cons (.var 5) (.cons (.var 6) .nil))))
 .nil))))))))
 (.cons (.ret (.call 6 (.cons (.var 2) .nil)))
 .nil)))
def kU:MC:=⟨zV yG,jN,(fun _=>true),fns.take 14,gls,mts,its,sxm,[]⟩
theorem tF:FnScope jN ["_law_deal_here", "_law_web_here"] (zV yG):=⟨rfl,rfl,rfl,by decide +kernel,rfl,by decide +kernel,by decide +kernel⟩
theorem uN:vS yM kU (zH yG)=true:=by decide +kernel
abbrev wD:Stmt:=bG 19
def tW:List Str:=["_law_names_here", "_law_saying_here", "_law_truths"]
def kA:ISs:=(.cons (.ite (.cmp .Eq (.ix (.var 1) (.con (.int 0))) (.con (.str "say"))) (.cons (.ret (.cmp .In (.ix (.var 1) (.con (.int 1))) (.var 0)))
 .nil) .nil)
 (.cons (.asg 2 (.lc (.nm 0) ["_law_part"] [0] (.val (.sl (.var 1) (.yes (.con (.int 1))) .no)) .no (.call 15 (.cons (.var 1) (.cons (.var 0) .nil)))))
 (.cons (.ite (.cmp .Eq (.ix (.var 1) (.con (.int 0))) (.con (.str "not"))) (.cons (.ret (.cmp .Eq (.var 2) (.lst (.cons (.con (.bool false)) .nil))))
 .nil) .nil)
 (.cons (.ite (.cmp .Eq (.ix (.var 1) (.con (.int 0))) (.con (.str "if"))) (.cons (.ret (.cmp .NotEq (.var 2) (.lst (.cons (.con (.bool true)) (.cons (.con (.bool false)) .nil)))))
 .nil) .nil)
 (.cons (.ret (.ix (.lst (.cons (.cmp .Eq (.var 2) (.lst (.cons (.con (.bool true)) (.cons (.con (.bool true)) .nil)))) (.cons (.cmp .In (.con (.bool true)) (.var 2)) .nil))) (.call 7 (.cons (.cmp .Eq (.ix (.var 1) (.con (.int 0))) (.con (.str "or"))) .nil))))
 .nil)))))
def nE:MC:=⟨zV wD,tW,(fun _=>true),fns.take 16,gls,mts,its,sxm,[]⟩
theorem zaf:FnScope tW ["_law_names_here", "_law_saying_here"] (zV wD):=⟨rfl,rfl,rfl,by decide +kernel,rfl,by decide +kernel,by decide +kernel⟩
theorem gU:vS kA nE (zH wD)=true:=by decide +kernel
abbrev wU:Stmt:=bG 18
def vJ:List Str:=["_law_web_here", "_law_saying_here", "_law_known", "_law_parts", "_law_found", "_law_k", "_law_here"]
def jY:ISs:=(.cons (.ite (.cmp .NotIn (.call 8 (.cons (.var 1) .nil)) (.var 2)) (.cons (.asg 3 (.lc (.nm 0) ["_law_part"] [0,2,1] (.val (.sl (.var 1) (.yes (.con (.int 1))) .no)) (.yes (.cmp .NotEq (.ix (.var 3) (.con (.int 0))) (.con (.str "say")))) (.call 16 (.cons (.var 1) (.cons (.var 0) (.cons (.var 2) .nil))))))
 (.cons (.asg 4 (.lst .nil))
 (.cons (.for (.nm 5) (.blt 0 (.cons (.call 1 (.cons (.var 0) .nil)) .nil)) (.cons (.asg 6 (.bin .Add (.lst (.cons (.var 5) .nil)) (.call 3 (.cons (.ix (.ix (.var 0) (.var 5)) (.con (.int 1))) .nil))))
 (.cons (.ite (.cmp .Eq (.ix (.var 1) (.con (.int 0))) (.con (.str "say"))) (.cons (.ex (.mth 2 (.var 4) (.cons (.cmp .In (.ix (.var 1) (.con (.int 1))) (.ix (.ix (.var 0) (.var 5)) (.con (.int 0)))) .nil)))
 .nil) (.cons (.ite (.cmp .Eq (.ix (.var 1) (.con (.int 0))) (.con (.str "not"))) (.cons (.ex (.mth 2 (.var 4) (.cons (.cmp .Eq (.lc (.nm 0) ["_law_j"] [3] (.val (.var 6)) (.yes (.ix (.ix (.var 1) (.con (.int 0))) (.var 0))) (.var 0)) (.lst .nil)) .nil)))
 .nil) (.cons (.ite (.cmp .Eq (.ix (.var 1) (.con (.int 0))) (.con (.str "if"))) (.cons (.ex (.mth 2 (.var 4) (.cons (.cmp .Eq (.lc (.nm 0) ["_law_j"] [3] (.val (.var 6)) (.yes (.and (.ix (.ix (.var 1) (.con (.int 0))) (.var 0)) (.not (.ix (.ix (.var 1) (.con (.int 1))) (.var 0))))) (.var 0)) (.lst .nil)) .nil)))
 .nil) (.cons (.ex (.mth 2 (.var 4) (.cons (.ix (.lst (.cons (.and (.ix (.ix (.var 3) (.con (.int 0))) (.var 5)) (.ix (.ix (.var 3) (.con (.int 1))) (.var 5))) (.cons (.or (.ix (.ix (.var 3) (.con (.int 0))) (.var 5)) (.ix (.ix (.var 3) (.con (.int 1))) (.var 5))) .nil))) (.call 7 (.cons (.cmp .Eq (.ix (.var 1) (.con (.int 0))) (.con (.str "or"))) .nil))) .nil)))
 .nil))
 .nil))
 .nil))
 .nil)))
 (.cons (.asgI (.var 2) (.call 8 (.cons (.var 1) .nil)) (.var 4))
 .nil)))) .nil)
 (.cons (.ret (.ix (.var 2) (.call 8 (.cons (.var 1) .nil))))
 .nil))
def rG:MC:=⟨zV wU,vJ,(fun _=>true),fns.take 17,gls,mts,its,sxm,[]⟩
theorem cZ:FnScope vJ ["_law_web_here", "_law_saying_here", "_law_known"] (zV wU):=⟨rfl,rfl,rfl,by decide +kernel,rfl,by decide +kernel,by decide +kernel⟩
theorem mY:vS jY rG (zH wU)=true:=by decide +kernel
abbrev xY:Stmt:=bG 3
def uU:List Str:=["saying"]
def kT:ISs:=(.cons (.ret (.ite (.cmp .Eq (.ix (.var 0) (.con (.int 0))) (.con (.str "say"))) (.tup .nil) (.sl (.var 0) (.yes (.con (.int 1))) .no)))
 .nil)
def fR:MC:=⟨zV xY,uU,(fun _=>true),fns.take 17,gls,mts,its,sxm,[]⟩
theorem nS:FnScope uU ["saying"] (zV xY):=⟨rfl,rfl,rfl,by decide +kernel,rfl,by decide +kernel,by decide +kernel⟩
theorem cM:vS kT fR (zH xY)=true:=by decide +kernel
abbrev wW:Stmt:=bG 1
def vL:List Str:=["whole", "sides_of", "found", "waiting", "thing"]
def qK:ISs:=(.cons (.asg 2 (.lst .nil))
 (.cons (.asg 3 (.lst (.cons (.var 0) .nil)))
 (.cons (.whl (.var 3) (.cons (.asg 4 (.mth 0 (.var 3) .nil))
 (.cons (.ex (.mth 2 (.var 2) (.cons (.var 4) .nil)))
 (.cons (.ex (.mth 3 (.var 3) (.cons (.spc 1 (.cons (.spc 3 (.cons (.var 1) (.cons (.var 4) .nil))) .nil)) .nil)))
 .nil))))
 (.cons (.ret (.var 2))
 .nil))))
def rJ:MC:=⟨zV wW,vL,(fun _=>true),fns.take 18,gls,mts,its,sxm,[]⟩
theorem dB:FnScope vL ["whole", "sides_of"] (zV wW):=⟨rfl,rfl,rfl,by decide +kernel,rfl,by decide +kernel,by decide +kernel⟩
theorem nA:vS qK rJ (zH wW)=true:=by decide +kernel
abbrev wE:Stmt:=bG 4
def tX:List Str:=["saying"]
def kB:ISs:=(.cons (.ret (.call 18 (.cons (.var 0) (.cons (.glb 2) .nil))))
 .nil)
def nF:MC:=⟨zV wE,tX,(fun _=>true),fns.take 19,gls,mts,its,sxm,[]⟩
theorem zae:FnScope tX ["saying"] (zV wE):=⟨rfl,rfl,rfl,by decide +kernel,rfl,by decide +kernel,by decide +kernel⟩
theorem gW:vS kB nF (zH wE)=true:=by decide +kernel
abbrev xN:Stmt:=bG 11
def qH:List Str:=["web", "left", "right", "here"]
def jK:ISs:=(.cons (.asg 3 (.lc (.tup (.cons (.nm 0) (.cons (.nm 1) .nil))) ["one", "other"] [] (.blt 1 (.cons (.var 1) (.cons (.var 2) .nil))) .no (.or (.var 1) (.not (.var 0)))))
 (.cons (.ret (.lc (.tup (.cons (.nm 0) (.cons (.tup (.cons (.nm 1) (.cons (.nm 2) .nil))) .nil))) ["number", "names", "later"] [3] (.blt 2 (.cons (.var 0) .nil)) .no (.and (.ix (.var 3) (.var 0)) (.call 2 (.cons (.lc (.nm 0) ["other"] [3] (.val (.var 2)) .no (.ix (.var 1) (.var 0))) .nil)))))
 .nil))
def uH:MC:=⟨zV xN,qH,(fun _=>true),fns.take 20,gls,mts,its,sxm,[]⟩
theorem nT:FnScope qH ["web", "left", "right"] (zV xN):=⟨rfl,rfl,rfl,by decide +kernel,rfl,by decide +kernel,by decide +kernel⟩
theorem rV:vS jK uH (zH xN)=true:=by decide +kernel
abbrev xV:Stmt:=bG 10
def qX:List Str:=["word", "web", "left", "right"]
def jT:ISs:=(.cons (.ite (.cmp .Eq (.var 0) (.con (.str "and"))) (.cons (.ret (.lc (.tup (.cons (.nm 0) (.cons (.nm 1) .nil))) ["one", "other"] [] (.blt 1 (.cons (.var 2) (.cons (.var 3) .nil))) .no (.and (.var 0) (.var 1))))
 .nil) .nil)
 (.cons (.ite (.cmp .Eq (.var 0) (.con (.str "or"))) (.cons (.ret (.lc (.tup (.cons (.nm 0) (.cons (.nm 1) .nil))) ["one", "other"] [] (.blt 1 (.cons (.var 2) (.cons (.var 3) .nil))) .no (.or (.var 0) (.var 1))))
 .nil) .nil)
 (.cons (.ret (.call 20 (.cons (.var 1) (.cons (.var 2) (.cons (.var 3) .nil)))))
 .nil)))
def vI:MC:=⟨zV xV,qX,(fun _=>true),fns.take 21,gls,mts,its,sxm,[]⟩
theorem pV:FnScope qX ["word", "web", "left", "right"] (zV xV):=⟨rfl,rfl,rfl,by decide +kernel,rfl,by decide +kernel,by decide +kernel⟩
theorem sU:vS jT vI (zH xV)=true:=by decide +kernel
abbrev wF:Stmt:=bG 9
def tY:List Str:=["web", "saying", "found", "part", "left"]
def kD:ISs:=(.cons (.asg 2 (.lst .nil))
 (.cons (.for (.nm 3) (.val (.spc 1 (.cons (.call 19 (.cons (.var 1) .nil)) .nil))) (.cons (.ite (.cmp .Eq (.ix (.var 3) (.con (.int 0))) (.con (.str "say"))) (.cons (.ex (.mth 2 (.var 2) (.cons (.lc (.tup (.cons (.nm 0) (.cons (.nm 1) .nil))) ["names", "later"] [3] (.val (.var 0)) .no (.cmp .In (.ix (.var 2) (.con (.int 1))) (.var 0))) .nil)))
 .nil) (.cons (.ite (.cmp .Eq (.ix (.var 3) (.con (.int 0))) (.con (.str "not"))) (.cons (.ex (.mth 2 (.var 2) (.cons (.call 20 (.cons (.var 0) (.cons (.mth 0 (.var 2) .nil) (.cons (.lc (.nm 0) ["world"] [] (.val (.var 0)) .no (.con (.bool false))) .nil)))) .nil)))
 .nil) (.cons (.asg 4 (.mth 0 (.var 2) .nil))
 (.cons (.ex (.mth 2 (.var 2) (.cons (.call 21 (.cons (.ix (.var 3) (.con (.int 0))) (.cons (.var 0) (.cons (.var 4) (.cons (.mth 0 (.var 2) .nil) .nil))))) .nil)))
 .nil)))
 .nil))
 .nil))
 (.cons (.ret (.ix (.var 2) (.con (.int 0))))
 .nil)))
def nI:MC:=⟨zV wF,tY,(fun _=>true),fns.take 22,gls,mts,its,sxm,[]⟩
theorem zad:FnScope tY ["web", "saying"] (zV wF):=⟨rfl,rfl,rfl,by decide +kernel,rfl,by decide +kernel,by decide +kernel⟩
theorem gX:vS kD nI (zH wF)=true:=by decide +kernel
abbrev uA:Stmt:=bG 6
def zcp:List Str:=["web", "world", "saying"]
def bL:ISs:=(.cons (.ret (.ix (.call 22 (.cons (.var 0) (.cons (.var 2) .nil))) (.var 1)))
 .nil)
def ze3:MC:=⟨zV uA,zcp,(fun _=>true),fns.take 23,gls,mts,its,sxm,[]⟩
theorem zfD:FnScope zcp ["web", "world", "saying"] (zV uA):=⟨rfl,rfl,rfl,by decide +kernel,rfl,by decide +kernel,by decide +kernel⟩
theorem zcv:vS bL ze3 (zH uA)=true:=by decide +kernel
abbrev uB:Stmt:=bG 7
def zcn:List Str:=["web", "saying"]
def bM:ISs:=(.cons (.ret (.lc (.tup (.cons (.nm 0) (.cons (.nm 1) .nil))) ["number", "truth"] [] (.blt 2 (.cons (.call 22 (.cons (.var 0) (.cons (.var 1) .nil))) .nil)) (.yes (.not (.var 1))) (.var 0)))
 .nil)
def ze1:MC:=⟨zV uB,zcn,(fun _=>true),fns.take 24,gls,mts,its,sxm,[]⟩
theorem zfC:FnScope zcn ["web", "saying"] (zV uB):=⟨rfl,rfl,rfl,by decide +kernel,rfl,by decide +kernel,by decide +kernel⟩
theorem zcu:vS bM ze1 (zH uB)=true:=by decide +kernel
abbrev jB:Stmt:=bG 8
def nP:List Str:=["names", "saying"]
def sQ:ISs:=(.cons (.ret (.call 23 (.cons (.tup (.cons (.tup (.cons (.var 0) (.cons (.tup .nil) .nil))) .nil)) (.cons (.con (.int 0)) (.cons (.var 1) .nil)))))
 .nil)
def zaI:MC:=⟨zV jB,nP,(fun _=>true),fns.take 25,gls,mts,its,sxm,[]⟩
theorem zb3:FnScope nP ["names", "saying"] (zV jB):=⟨rfl,rfl,rfl,by decide +kernel,rfl,by decide +kernel,by decide +kernel⟩
theorem zal:vS sQ zaI (zH jB)=true:=by decide +kernel
abbrev slaw:Stmt:=bG 21
def nlaw:List Str:=["_law_script", "_law_deal_here", "_law_names_here", "_law_web_here", "_law_most", "_law_saying_here", "_law_due", "_law_found", "_law_turn", "_law_row", "_law_told", "_law_spoilt"]
def blaw:ISs:=(.cons (.asg 1 (.call 9 (.cons (.var 0) (.cons (.con (.int 0)) .nil))))
 (.cons (.asg 2 (.call 11 (.cons (.var 1) (.cons (.bin .Add (.con (.int 2)) (.call 10 (.cons (.var 1) (.cons (.con (.int 4)) .nil)))) .nil))))
 (.cons (.asg 3 (.call 12 (.cons (.var 1) (.cons (.sl (.var 2) (.yes (.con (.int 1))) .no) (.cons (.con (.int 12)) .nil)))))
 (.cons (.asg 4 (.ix (.lst (.cons (.con (.int 9)) (.cons (.con (.int 20)) .nil))) (.call 7 (.cons (.cmp .Eq (.call 10 (.cons (.var 1) (.cons (.con (.int 8)) .nil))) (.con (.int 7))) .nil))))
 (.cons (.asg 5 (.call 13 (.cons (.var 1) (.cons (.var 2) (.cons (.bin .Add (.con (.int 1)) (.call 10 (.cons (.var 1) (.cons (.var 4) .nil)))) .nil)))))
 (.cons (.asg 6 (.lc (.tup (.cons (.nm 0) (.cons (.nm 1) .nil))) ["_law_k", "_law_borne_here"] [] (.blt 2 (.cons (.call 16 (.cons (.var 3) (.cons (.var 5) (.cons (.spc 4 .nil) .nil)))) .nil)) (.yes (.not (.var 1))) (.var 0)))
 (.cons (.asg 7 (.call 24 (.cons (.var 3) (.cons (.var 5) .nil))))
 (.cons (.ite (.or (.not (.call 4 (.cons (.var 7) (.cons (.glb 1) .nil)))) (.or (.cmp .NotEq (.var 7) (.var 6)) (.cmp .In (.con (.bool true)) (.lc (.nm 0) ["_law_k"] [] (.val (.var 7)) .no (.call 4 (.cons (.var 0) (.cons (.glb 0) .nil))))))) (.cons (.ret (.con (.bool false)))
 .nil) .nil)
 (.cons (.ex (.mth 2 (.var 7) (.cons (.con (.int 0)) .nil)))
 (.cons (.for (.nm 8) (.blt 0 (.cons (.con (.int 4)) .nil)) (.cons (.asg 9 (.call 6 (.cons (.call 5 (.cons (.lc (.nm 0) ["_law_name"] [1] (.val (.var 2)) (.yes (.cmp .Eq (.call 10 (.cons (.var 1) (.cons (.con (.int 2)) .nil))) (.con (.int 1)))) (.var 0)) .nil)) .nil)))
 (.cons (.asg 10 (.call 25 (.cons (.var 9) (.cons (.var 5) .nil))))
 (.cons (.ite (.or (.not (.call 4 (.cons (.var 10) (.cons (.glb 0) .nil)))) (.or (.cmp .NotEq (.var 10) (.call 15 (.cons (.var 9) (.cons (.var 5) .nil)))) (.cmp .NotEq (.call 23 (.cons (.tup (.cons (.tup (.cons (.var 9) (.cons (.tup .nil) .nil))) .nil)) (.cons (.con (.int 0)) (.cons (.var 5) .nil)))) (.var 10)))) (.cons (.ret (.con (.bool false)))
 .nil) .nil)
 (.cons (.ite (.cmp .NotEq (.call 25 (.cons (.call 6 (.cons (.call 5 (.cons (.bin .Add (.var 9) (.tup (.cons (.con (.str "aaaaaa")) .nil))) .nil)) .nil)) (.cons (.var 5) .nil))) (.var 10)) (.cons (.ret (.con (.bool false)))
 .nil) .nil)
 .nil)))))
 (.cons (.asg 11 (.call 14 (.cons (.var 1) (.cons (.var 3) .nil))))
 (.cons (.ite (.cmp .NotEq (.call 3 (.cons (.call 24 (.cons (.var 11) (.cons (.var 5) .nil))) .nil)) (.lc (.tup (.cons (.nm 0) (.cons (.nm 1) .nil))) ["_law_k", "_law_borne_here"] [] (.blt 2 (.cons (.call 16 (.cons (.var 11) (.cons (.var 5) (.cons (.spc 4 .nil) .nil)))) .nil)) (.yes (.not (.var 1))) (.var 0))) (.cons (.ret (.con (.bool false)))
 .nil) .nil)
 (.cons (.ret (.cmp .Eq (.call 24 (.cons (.var 3) (.cons (.var 5) .nil))) (.var 6)))
 .nil)))))))))))))
def mlaw:MC:=⟨zV slaw,nlaw,(fun _=>true),fns.take 26,gls,mts,its,sxm,[]⟩
theorem sclaw:FnScope nlaw ["_law_script"] (zV slaw):=⟨rfl,rfl,rfl,by decide +kernel,rfl,by decide +kernel,by decide +kernel⟩
theorem zgb:vS blaw mlaw (zH slaw)=true:=by decide +kernel
end K69
namespace K69
open PySem PySem.Spec PyProof.Rows L2 L3
open PySem.W (nsIn keepIn codeIn mg_of findIn mg_none_of fnOf)
abbrev eApp:Mt3:=⟨"append", "list", pQ⟩
theorem zgP {q:Pr} {A:Around}:MtE (q.at A) eApp/\hW eApp:=⟨cP PySem.F.plainAttrs_list PySem.F.slot_list_append PySem.F.type_list_append (fun X f=>zje) uP,uP⟩
def nZ:RS:=fun ws G Q=>match ws with
 | [x]=>(match xZ G x with|some xs=>Q (.tup xs) G|none=>False)
 |_=>False
theorem gK:wP nZ:=by
 intro ws G Q Q' k h;unfold nZ at h ⊢
 split at h
 .split at h
  .exact k _ _ h
  .exact h.elim
 .exact h.elim
theorem zhd {X:Cx}:wJ X (.type "tuple") (vG X.K nZ):=by
 intro pins s σ H xs us Q I r h;obtain ⟨ws,G,rs,ab,h⟩:=h;unfold nZ at h
 split at h
 .rename_i w;obtain ⟨v,rfl,rv⟩:=jQ rs
  split at h
  .rename_i ys hy;obtain ⟨a,vs,b,rfl,sq,rr⟩:=zb1 ab rv hy;refine gP pins s σ H _ us Q I r ⟨a,vs,rfl,?_⟩;cases b
   .exact .inl ⟨sq,sY ab rr h⟩
   .exact .inr ⟨sq,h _ _ .refl ⟨a,vs,rfl,sq,rr⟩ ab⟩
  .exact h.elim
 .exact h.elim
abbrev eTup:Fn3:=⟨"tuple", fun ws G Q _=>nZ ws G Q⟩
theorem zgE {q:Pr} {A:Around} (hm:q.mg "tuple" = none):qP (q.at A) eTup:=⟨zgB hm (by decide +kernel) (fun X f=>zhd) gK (fun _ _ h=>h),fun ws G Q Q' _ k h=>gK ws G Q Q' k h⟩
def noN:List Str:=["and", "or", "not", "then"]
def ltB (c:Nat):Bool:=decide (97<=c)&&decide (c<=122)
def xO (x:Str):Bool:=x.cps.toList.all ltB
def bF (x:Str):Bool:=decide (1<=x.length)&&decide (x.length<=6)&&!noN.contains x&&xO x&&!(x == "aaaaaa")
inductive Op where
 |an|or|im
inductive Sy where
 |say (x:Str)|neg (a:Sy)|two (k:Op) (a b:Sy)
def kw:Op->Str
 | .an => "and"
 | .or => "or"
 | .im => "if"
def Sy.w:Sy->W
 | .say x=>.tup [.str "say", .str x]
 | .neg a=>.tup [.str "not", a.w]
 | .two k a b=>.tup [.str (kw k),a.w,b.w]
def Sy.size:Sy->Nat
 | .say _=>1
 | .neg a=>a.size+1
 | .two _ a b=>a.size+b.size+1
def Sy.deep:Sy->Nat
 | .say _=>0
 | .neg a=>a.deep+1
 | .two _ a b=>max a.deep b.deep+1
def Sy.ok:Sy->Prop
 | .say x=>bF x=true
 | .neg a=>a.ok
 | .two _ a b=>a.ok/\b.ok
theorem Sy.pos:∀ t:Sy,1<=t.size
 | .say _=>zzR _
 | .neg _=>Nat.le_add_left _ _
 | .two _ _ _=>Nat.le_add_left _ _
theorem Sy.low:∀ t:Sy,t.deep<t.size
 | .say _=>Nat.lt_succ_self _
 | .neg a=>by have:=Sy.low a;simp only [Sy.deep,Sy.size];omega
 | .two _ a b=>by have:=Sy.low a;have:=Sy.low b;simp only [Sy.deep,Sy.size];omega
theorem Sy.dep:∀ t:Sy,L3.dep t.w<=t.size
 | .say _=>by simp [Sy.w,L3.dep,jX,Sy.size]
 | .neg a=>by have:=Sy.dep a;simp only [Sy.w,L3.dep,jX,Sy.size];omega
 | .two _ a b=>by have:=Sy.dep a;have:=Sy.dep b;simp only [Sy.w,L3.dep,jX,Sy.size];omega
theorem vD (k:Op):((kw k:Str) == "say")=false/\((kw k:Str) == "not")=false:=by
 cases k<;>exact ⟨by decide +kernel,by decide +kernel⟩
def pre:Sy->List Sy
 | .say x=>[.say x]
 | .neg a=>.neg a::pre a
 | .two k a b=>.two k a b::(pre a++pre b)
def xA:Sy->List Sy
 | .say _=>[]
 | .neg a=>[a]
 | .two _ a b=>[a,b]
def xE (ts:List Sy):List Sy:=ts.flatMap pre
theorem tB (t:Sy):pre t=t::xE (xA t):=by cases t<;>simp [pre,xA,xE]
theorem xQ:∀ t:Sy,(pre t).length=t.size
 | .say _=>rfl
 | .neg a=>by simp [pre,Sy.size,xQ a]
 | .two _ a b=>by simp [pre,Sy.size,xQ a,xQ b]
structure Wd where
 ns:List Str
 ls:List Nat
def yZ (l:List Nat):List W:=l.map fun n:Nat=>.int (n:Int)
def xS (l:List Bool):List W:=l.map .bl
def Wd.w (v:Wd):W:=.tup [.tup (v.ns.map .str),.tup (yZ v.ls)]
def xR (web:List Wd):W:=.tup (web.map Wd.w)
structure WOk (web:List Wd):Prop where
 few:web.length<=12
 one:1<=web.length
 inw:∀ v∈web,∀ j∈v.ls,j<web.length
 ll:∀ v∈web,v.ls.length<=12
structure WIn (N:List Str) (web:List Wd):Prop where
 nl:∀ v∈web,v.ns.length<=4
 xs:∀ v∈web,∀ x∈v.ns,x∈N
def Good (web:List Wd):Prop:=∀ (k:Nat) (v:Wd),web[k]?=some v->∀ j∈v.ls,k<j/\∃ u,web[j]?=some u/\(∀ x∈v.ns,x∈u.ns)/\∀ i∈u.ls,i∈v.ls
def lsAt (web:List Wd) (k:Nat):List Nat:=((web[k]?).map Wd.ls).getD []
def tif (web:List Wd) (h:List Bool):List Bool:=(List.range web.length).map fun k=>h.getD k false&&(lsAt web k).all fun j=>h.getD j false
def imp (l r:List Bool):List Bool:=List.zipWith (fun one other=>other || !one) l r
def jn (web:List Wd):Op->List Bool->List Bool->List Bool
 | .an,a,b=>List.zipWith (fun x y=>x&&y) a b
 | .or,a,b=>List.zipWith (fun x y=>x || y) a b
 | .im,a,b=>tif web (imp a b)
def tr (web:List Wd):Sy->List Bool
 | .say x=>web.map fun v=>v.ns.contains x
 | .neg a=>tif web (imp (tr web a) (web.map fun _=>false))
 | .two k a b=>jn web k (tr web a) (tr web b)
theorem zbL (web:List Wd) (h:List Bool):(tif web h).length=web.length:=by simp [tif]
theorem zgu {a b:List Bool} {n:Nat} (ha:a.length=n) (hb:b.length=n):(imp a b).length=n:=by simp [imp,ha,hb]
theorem ziz {web:List Wd} {a b:List Bool} (k:Op) (ha:a.length=web.length) (hb:b.length=web.length):(jn web k a b).length=web.length:=by
 cases k
 .simp [jn,ha,hb]
 .simp [jn,ha,hb]
 .exact zbL _ _
theorem xW (web:List Wd):∀ t:Sy,(tr web t).length=web.length
 | .say x=>by simp [tr]
 | .neg a=>zbL _ _
 | .two k a b=>ziz k (xW web a) (xW web b)
def Fr (ws:List W) (G:Hw) (Q:Q3):Prop:=∀ r G',zX [] G G'->G r=none->G' r=some (.lst ws)->Q (.ref r) G'
theorem Fr.mono {ws:List W} {G:Hw} {Q Q':Q3} (k:∀ w G',Q w G'->Q' w G') (h:Fr ws G Q):Fr ws G Q':=fun r G' a b c=>k _ _ (h r G' a b c)
theorem Fr.keep {ws:List W} {G G1:Hw} {Q:Q3} (h:Fr ws G Q) (k:zX [] G G1):Fr ws G1 Q:=fun r G' a b c=>h r G' (k.trans a) (k.none (by simp) b) c
def pN:tQ:=fun ws G Q _=>∃ (d l:Addr) (m:Int),ws=[.ref d,.int m]/\yC G d l/\1<=m/\m<=5/\∀ (r:Addr) (xs:List Str) G',xs.length=m.toNat->(∀ x∈xs,bF x=true)->r∉[d,l]->G' r=some (.lst (xs.map .str))->zX [d,l] G G'->yC G' d l->Q (.ref r) G'
def zdy:tQ:=fun ws G Q _=>∃ (d l r:Addr) (m:Int) (xs:List Str),ws=[.ref d,.ref r,.int m]/\yC G d l/\r∉[d,l]/\G r=some (.lst (xs.map .str))/\xs.length<=4/\1<=m/\m<=12/\∀ (web:List Wd) G',WOk web->Good web->WIn xs web->zX [d,l] G G'->yC G' d l->Q (xR web) G'
def xD (n:Nat):tQ:=fun ws G Q _=>∃ (d l r:Addr) (m:Int) (xs:List Str),ws=[.ref d,.ref r,.int m]/\yC G d l/\r∉[d,l]/\G r=some (.lst (xs.map .str))/\xs≠[]/\xs.length<=100/\(∀ x∈xs,bF x=true)/\1<=m/\m<=n/\m<=100/\∀ (t:Sy) G',t.ok->(t.size:Int)<=m->zX [d,l] G G'->yC G' d l->Q t.w G'
def tK:tQ:=fun ws G Q _=>∃ (d l:Addr) (web:List Wd) (N:List Str),ws=[.ref d,xR web]/\yC G d l/\WOk web/\WIn N web/\N.length<=4/\∀ (web':List Wd) G',WOk web'->zX [d,l] G G'->yC G' d l->Q (xR web') G'
def tv (ns:List Str) (t:Sy):Bool:=(tr [⟨ns,[]⟩] t).getD 0 false
def jA (n:Nat):tQ:=fun ws G Q _=>∃ (ns:List Str) (t:Sy),ws=[.tup (ns.map .str),t.w]/\ns.length<=100/\t.deep<n/\∀ G',zX [] G G'->Q (.bl (tv ns t)) G'
def sJ (web:List Wd) (d:Addr) (kvs:List (yO×W)) (G:Hw):Prop:=∀ k v,qE kvs k=some v->∃ (t:Sy) (r:Addr),t.ok/\k=.inr (rpr t.w)/\v=.ref r/\r≠d/\G r=some (.lst (xS (tr web t)))
def uX (n:Nat):tQ:=fun ws G Q _=>∃ (web:List Wd) (t:Sy) (d:Addr) (kvs:List (yO×W)),ws=[xR web,t.w,.ref d]/\WOk web/\t.ok/\t.deep<n/\t.size<=40/\G d=some (.dic kvs)/\kvs.length+t.size<=3000/\sJ web d kvs G /\
 ∀ r G' kvs',zX [d] G G'->r≠d->G' r=some (.lst (xS (tr web t)))->G' d=some (.dic kvs')->kvs'.length<=kvs.length+t.size->sJ web d kvs' G'->Q (.ref r) G'
def jM:tQ:=fun ws G Q _=>∃ t:Sy,ws=[t.w]/\Q (.tup ((xA t).map Sy.w)) G
def tM (sA:Addr):tQ:=fun ws G Q _=>∃ t:Sy,ws=[t.w,.ref sA]/\t.size<=40/\Fr ((pre t).map Sy.w) G Q
def pO:tQ:=fun ws G Q _=>∃ t:Sy,ws=[t.w]/\t.size<=40/\Fr ((pre t).map Sy.w) G Q
def Two (web:List Wd) (p q:Addr) (a b:List Bool) (G:Hw):Prop:=WOk web/\G p=some (.lst (xS a))/\G q=some (.lst (xS b))/\a.length=web.length/\b.length=web.length
def zbQ:tQ:=fun ws G Q _=>∃ (web:List Wd) (p q:Addr) (a b:List Bool),ws=[xR web,.ref p,.ref q]/\Two web p q a b G/\Fr (xS (tif web (imp a b))) G Q
def dD:tQ:=fun ws G Q _=>∃ (web:List Wd) (k:Op) (p q:Addr) (a b:List Bool),ws=[.str (kw k),xR web,.ref p,.ref q]/\Two web p q a b G/\Fr (xS (jn web k a b)) G Q
def vO:tQ:=fun ws G Q _=>∃ (web:List Wd) (t:Sy),ws=[xR web,t.w]/\WOk web/\t.size<=40/\Fr (xS (tr web t)) G Q
def tI:tQ:=fun ws G Q _=>∃ (web:List Wd) (t:Sy) (k:Nat),ws=[xR web,.int k,t.w]/\WOk web/\t.size<=40/\k<web.length/\∀ G',zX [] G G'->Q (.bl ((tr web t).getD k false)) G'
def fl (web:List Wd) (t:Sy):List Nat:=(List.range web.length).filter fun k=>!(tr web t).getD k false
def pM:tQ:=fun ws G Q _=>∃ (web:List Wd) (t:Sy),ws=[xR web,t.w]/\WOk web/\t.size<=40/\Fr (yZ (fl web t)) G Q
def tL:tQ:=fun ws G Q _=>∃ (ns:List Str) (t:Sy),ws=[.tup (ns.map .str),t.w]/\t.size<=40/\∀ G',zX [] G G'->Q (.bl (tv ns t)) G'
section
variable (K : yN) (sA : Addr)
def fnL:List Fn3:=[eMax,mL,eAll,eLst,eIsj K,zc0,eTup,eInt,eRpr,zi5,vB,⟨"_law_names", pN⟩,⟨"_law_web", zdy⟩,⟨"_law_saying", xD 20⟩,⟨"_law_spoilt_web", tK⟩,⟨"_law_true", jA 21⟩,⟨"_law_borne", uX 21⟩,⟨"sides_of", jM⟩,⟨"all_within", tM sA⟩,⟨"all_parts", pO⟩,⟨"truths_of_if", zbQ⟩,⟨"joined_truths", dD⟩,⟨"truths_of", vO⟩,⟨"bears", tI⟩,⟨"fails", pM⟩,⟨"true_by", tL⟩]
def GamL (l:List Fn3):Ctx3:=⟨l,[("bool", .ty "bool"),("list", .ty "list"),("sides_of", .ref sA)],[ePop,zez,eApp,eExt],[cC,eZpi,eEn],[],[eRev,⟨rvM,rvS⟩,⟨ssM,ssS⟩,⟨hcM "sides_of", hcS sA jM⟩,⟨emM,emS⟩],[]⟩
def yI (n:Nat):Ctx3:=GamL sA ((fnL K sA).take n)
def uK (n:Nat) (e:Fn3):Ctx3:=GamL sA ((fnL K sA).take n++[e])
end
theorem qD {a:W} {l:List W}:sM (a::l) 0=some a:=by
 unfold sM;have:gQ (a::l).length 0=some 0:=by simp [gQ]
 rw [this];rfl
theorem at_1 {a b:W} {l:List W}:sM (a::b::l) 1=some b:=by
 unfold sM;have:gQ (a::b::l).length 1=some 1:=by simp [gQ];omega
 rw [this];rfl
theorem at_2 {a b c:W} {l:List W}:sM (a::b::c::l) 2=some c:=by
 unfold sM;have:gQ (a::b::c::l).length 2=some 2:=by simp [gQ];omega
 rw [this];rfl
theorem sz (n:Nat) (h:n<=3000):n<=sizeLine:=by rw [sizeLine_eq];omega
theorem gZ {α:Type} {a:α} {l:List α}:(a::l)[0]?=some a:=rfl
theorem gS {α:Type} {a:α} {l:List α} {i:Nat}:(a::l)[i+1]?=l[i]?:=rfl
theorem tZ {α:Type} {a b:α} {l:List α}:(a::l).set 0 b=b::l:=rfl
theorem tS {α:Type} {a b:α} {l:List α} {i:Nat}:(a::l).set (i+1) b=a::l.set i b:=rfl
theorem yL {Γ:Ctx3} {E:XQ} {s:IS} {ss:ISs} {D:End3} {σ:jH} {G:Hw} (h:zS Γ E s { D with nx:=zE Γ E ss D } σ G):zE Γ E (.cons s ss) D σ G:=h
theorem uC {Γ:Ctx3} {E:XQ} {D:End3} {σ:jH} {G:Hw} (h:D.nx σ G):zE Γ E .nil D σ G:=h
theorem tyL {G:Hw} {o:Addr} {l:List W} (e:G o=some (.lst l)):tyW G (.ref o) "list" := by simp only [tyW,e]
theorem appL {G:Hw} {o:Addr} {l:List W} {y:W} {Q:Q3} (e:G o=some (.lst l)) (hl:l.length<1000) (h:Q .non (put G o (.lst (l++[y])))):pQ (.ref o) [y] G Q:=by
 simp only [pQ,e];exact ⟨by rw [sizeLine_eq];omega,h⟩
theorem bD {G:Hw} {t:Addr} {xs:List W} {i:Int} {Q:Q3} (e:yQ G t=some xs) (h:match sM xs i with|some w=>Q w G|none=>False):qM (.ref t) (.int i) G Q:=by
 unfold yQ at e
 split at e
 .rename_i q;cases e;simp only [qM,q];exact h
 .rename_i q;cases e;simp only [qM,q];exact h
 .cases e
theorem uQ {S:List Addr} {G G':Hw} {d l:Addr} (k:zX S G G') (hd:d∉S) (hl:l∉S) (D:yC G d l):yC G' d l:=by
 obtain ⟨x,y,z,D⟩:=D;exact ⟨x,y,z,k _ _ hd D.dic,k _ _ hl D.lst,D.s0,D.s1,D.n0,D.lf,D.len,D.ne⟩
theorem xI {G:Hw} {d l p:Addr} {o:O} (h:G p=none) (D:yC G d l):yC (put G p o) d l:=uQ (S:=[]) (zX.new h) (by simp) (by simp) D
theorem mJ {G G':Hw} {d l:Addr} (k:zX [] G G') (D:yC G d l):yC G' d l:=uQ k (by simp) (by simp) D
theorem mV {S:List Addr} {G G':Hw} (k:zX [] G G'):zX S G G':=fun a u _ e=>k a u (by simp) e
theorem qY {G:Hw} {d l p:Addr} (D:yC G d l) (h:G p=none):p∉[d,l]:=by
 obtain ⟨_,_,_,D⟩:=D;simp only [List.mem_cons,List.not_mem_nil,or_false,not_or];exact ⟨fun e=>(by rw [e,D.dic] at h;cases h),fun e=>(by rw [e,D.lst] at h;cases h)⟩
theorem jV {S:List Addr} {G G':Hw} {p:Addr} {o:O} (k:zX S G G') (h:G p=none):zX S G (put G' p o):=fun a u ha e=>by
 rw [yU (rB e h)];exact k a u ha e
theorem qL {G:Hw} {d l p:Addr} {o:O} (h:p∉[d,l]) (D:yC G d l):yC (put G p o) d l:=by
 simp only [List.mem_cons,List.not_mem_nil,or_false,not_or] at h;exact uQ (S:=[p]) (zX.put (by simp)) (by simpa using Ne.symm h.1) (by simpa using Ne.symm h.2) D
theorem addS {a b:Str} {G:Hw} {Q:Q3} (h:a.length+b.length<=3000) (q:Q (.str (a++b)) G):jZ .Add (.str a) (.str b) G Q:=⟨sz _ h,q⟩
def tl:ISs->ISs
 | .cons _ ss=>ss
 | .nil=>.nil
theorem yR {G:Hw} {a b:Str}:eqG G (.str a) (.str b)=some (a==b):=by simp [eqG,uJ,dep,kQ]
theorem zcY {G:Hw} {a b:Bool}:eqG G (.bl a) (.bl b)=some (a==b):=by simp [eqG,uJ,dep,kQ]
section
variable {K : yN} {sA : Addr}
theorem fnAt {n:Nat} (i:Nat) (hi:i<n) {e:Fn3} (h:(fnL K sA)[i]?=some e):(yI K sA n).fn[i]?=some e:=by
 show ((fnL K sA).take n)[i]?=_;rw [List.getElem?_take_of_lt hi];exact h
theorem qT {n m:Nat} (i:Nat) (hn:m<=n) {e:Fn3} (h:(fnL K sA)[i]?=some e) (hi:i<m:=by decide):(yI K sA n).fn[i]?=some e:=fnAt i (Nat.lt_of_lt_of_le hi hn) h
end
abbrev abc:Str := "abcdefghijklmnopqrstuvwxyz"
theorem bJ:abc.cps.toList.length=26:=by decide +kernel
theorem zji:∀ c∈abc.cps.toList,ltB c=true:=by decide +kernel
theorem vZ {a b:Str}:xO (a++b)=(xO a&&xO b):=by
 unfold xO;rw [Str.cps_append,Array.toList_append,List.all_append]
theorem ziD {i:Int} {G:Hw} {Q:Q3} (h0:0<=i) (h1:i<26) (h:∀ x:Str,x.length=1->xO x=true->Q (.str x) G):qM (.str abc) (.int i) G Q:=by
 have hi:i.toNat<abc.cps.toList.length:=by rw [bJ];omega
 have e:sM abc.cps.toList i=some abc.cps.toList[i.toNat]:=by
  unfold sM gQ;rw [if_pos h0,bJ,if_pos (show i<((26:Nat):Int) from h1)];exact List.getElem?_eq_getElem hi
 simp only [qM,e];refine ⟨?_,h _ rfl ?_⟩
 .have:abc.length=26:=by rw [← bJ];rfl
  rw [this];exact sz _ (by decide)
 .show [abc.cps.toList[i.toNat]].all ltB=true;rw [List.all_cons,zji _ (List.getElem_mem hi)];rfl
theorem zbM {x:Str} {j:Int} (h0:0<=j) (h1:j<=x.length):(Txt.slice x none (some j)).cps.toList=x.cps.toList.take j.toNat:=by
 have e:Txt.slice x none (some j)=StrLaws.sliceText x none (some j):=rfl;rw [e,StrLaws.sliceText_to ⟨h0,by rw [Array.length_toList];exact h1⟩];simp
theorem dZ {x:Str} {j:Int} (h0:0<=j) (h1:j<=x.length):(Txt.slice x (some j) none).cps.toList=x.cps.toList.drop j.toNat:=by
 have e:Txt.slice x (some j) none=StrLaws.sliceText x (some j) none:=rfl;rw [e,StrLaws.sliceText_from ⟨h0,by rw [Array.length_toList];exact h1⟩];have h2:j<=(x.cps.toList.length:Int):=by rw [Array.length_toList];exact h1
 show (((x.cps.toList.drop j.toNat).take _).toArray).toList=_;rw [List.toList_toArray];exact List.take_of_length_le (by rw [List.length_drop];omega)
theorem tU (x:Str):x.cps.toList.length=x.length:=by rw [Array.length_toList];rfl
theorem zgZ {x:Str} {j:Int} {G:Hw} {Q:Q3} (h0:0<=j) (h1:j<=x.length) (hx:x.length<=1000) (a:xO x=true) (q:∀ y:Str,y.length<=j.toNat->xO y=true->Q (.str y) G):gB (.str x) none (some j) G Q:=by
 refine ⟨sz _ (by omega),q _ ?_ ?_⟩
 .rw [← tU,zbM h0 h1,List.length_take];omega
 .unfold xO;rw [zbM h0 h1,List.all_eq_true];exact fun c hc=>List.all_eq_true.mp a c (List.mem_of_mem_take hc)
theorem zeD {x:Str} {j:Int} {G:Hw} {Q:Q3} (h0:0<=j) (h1:j<=x.length) (hx:x.length<=1000) (a:xO x=true) (q:∀ y:Str,y.length<=x.length-j.toNat->xO y=true->Q (.str y) G):gB (.str x) (some j) none G Q:=by
 refine ⟨sz _ (by omega),q _ ?_ ?_⟩
 .rw [← tU,dZ h0 h1,List.length_drop,tU];omega
 .unfold xO;rw [dZ h0 h1,List.all_eq_true];exact fun c hc=>List.all_eq_true.mp a c (List.mem_of_mem_drop hc)
theorem zij:xO "" = true:=by decide +kernel
theorem zcF:∀ {ts:List Str},(∀ x∈ts,xO x=true)->xO (Str.join "" ts)=true
 | [],_=>by decide +kernel
 | [x],h=>h x zzT
 |x::y::r,h=>by
  show xO (x ++ "" ++ Str.join "" (y::r))=true;rw [vZ,vZ,h x zzT,zij,zcF fun z hz=>h z (List.mem_cons_of_mem _ hz)];rfl
theorem zed {ts:List Str} (h:∀ x∈ts,x.length<=1) (g:∀ x∈ts,xO x=true) (hn:ts.length<=4):JoinOk "" ts=true/\(Txt.join "" ts).length<=4/\xO (Txt.join "" ts)=true:=by
 have e:("" : Str).length=0:=by decide +kernel
 refine ⟨?_,?_,?_⟩
 .unfold JoinOk;rw [StrLaws.joinFits h (by rw [e];omega)];rfl
 .have h1:=StrLaws.join_length_le "" ts;have h2:=StrLaws.sumLen_le ts h;rw [e] at h1;rw [show Txt.join "" ts=Str.join "" ts from StrLaws.glued_eq_join "" ts];refine Nat.le_trans h1 ?_;omega
 .rw [show Txt.join "" ts=Str.join "" ts from StrLaws.glued_eq_join "" ts];exact zcF g
theorem zf7 {x:Str} (h1:1<=x.length) (h6:x.length<=6) (a:xO x=true) (n:x∉noN) (e:x ≠ "aaaaaa"):bF x=true:=by
 unfold bF;rw [decide_eq_true h1,decide_eq_true h6,a,show noN.contains x=false by simpa using n,show (x==("aaaaaa" : Str))=false by simpa using e];rfl
theorem ne_a {x:Str} (h:x.length<=5):x ≠ "aaaaaa" := fun e=>by
 rw [e] at h;revert h
 decide +kernel
theorem ne_z {x:Str}:x ++ "z" ≠ "aaaaaa" := fun h=>by
 have l:("aaaaaa" : Str).cps.toList.getLast?≠some 122:=by decide +kernel
 rw [← h] at l;refine l ?_;rw [Str.cps_append,Array.toList_append,show ("z" : Str).cps.toList=[122] by decide +kernel];simp
theorem no_q {x:Str} (h:x∈noN):x ++ "q" ∉ noN:=by
 revert h;have:∀ y∈noN,y ++ "q" ∉ noN:=by decide +kernel
 exact this x
theorem zic {x:Str} (h:x∈noN):x.length<=4:=by
 have:∀ y∈noN,y.length<=4:=by decide +kernel
 exact this x h
theorem no_z {x:Str}:x ++ "z" ∉ noN:=fun h=>by
 have l:∀ y∈noN,y.cps.toList.getLast?≠some 122:=by decide +kernel
 refine l _ h ?_;rw [Str.cps_append,Array.toList_append,show ("z" : Str).cps.toList=[122] by decide +kernel];simp
theorem zjf {x:Str}:((noN.map W.str).any fun w=>kQ w (.str x))=noN.contains x:=by
 rw [List.any_map,List.contains_eq_any_beq];congr 1
 funext y
 simp only [Function.comp,kQ];exact Bool.beq_comm
section
variable {K : yN} {sA : Addr}
theorem zcq {n:Nat} (hn:11<=n) {ws:List W} {G:Hw} {Q:Q3} (h:pN ws G Q XN):zE (yI K sA n) XN wR { nx:=fun _ G'=>Q .non G',rt:=Q } (yB vK ws) G:=by
 obtain ⟨d,l,m,rfl,D,m1,m4,h⟩:=h;have e1:(yI K sA n).fn[1]?=some mL:=qT 1 hn rfl;have e6:(yI K sA n).fn[10]?=some vB:=qT 10 hn rfl;have t1:(yI K sA n).mt[1]?=some zez:=rfl;have t2:(yI K sA n).mt[2]?=some eApp:=rfl;have i0:(yI K sA n).it[0]?=some cC:=rfl;have z0:=sz 0 (by decide);have z4:=sz 4 (by decide);have q1:("q" : Str).length=1:=by decide +kernel
 have q2:xO "q" = true:=by decide +kernel
 have w1:("z" : Str).length=1:=by decide +kernel
 have w2:xO "z" = true:=by decide +kernel
 show zE (yI K sA n) XN wR { nx:=fun _ G'=>Q .non G',rt:=Q } [some (.ref d),some (.int m),none,none,none,none,none,none,none] G
 have go:∀ (G1:Hw) (p:Addr) (core:Str),core.length<=4->xO core=true->G p=none->p∉[d,l]->zX [d,l] G G1->yC G1 d l->G1 p=some (.lst []) ->
   zE (yI K sA n) XN (tl (tl (tl wR))) { nx:=fun _ G'=>Q .non G',rt:=Q } [some (.ref d),some (.int m),some (.str abc),some (.ref p),some (.str core),none,none,none,none] G1:=by
  intro G1 p core hc hg hpn hp k1 D1 gp;simp only [wR,tl];refine yL ?_
  ((try dsimp only [zS,zQ,zM,zI,zB,yX,yW,zO,zT,zN,zU,zZ,zR,zP,zJ,zL,yY,zK,gZ,gS,tZ,tS]);try simp only [e1,e6,uM,vE,sz _ (show core.length<=3000 by omega),if_true,jZ])
  refine ⟨d,l,core.length+1,rfl,D1,⟨by omega,by omega⟩,fun at' G2 a0 a1 k2 D2=>?_⟩;have gp2:=k2 _ _ hp gp;refine yL ?_
  ((try dsimp only [zS,zQ,zM,zI,zB,yX,yW,zO,zT,zN,zU,zZ,zR,zP,zJ,zL,yY,zK,gZ,gS,tZ,tS]);try simp only [e6])
  refine ⟨d,l,26,rfl,D2,by decide,fun tn G3 tn0 tn1 k3 D3=>?_⟩;have gp3:=k3 _ _ hp gp2;have kG:=(k1.trans k2).trans k3;refine yL ?_
  ((try dsimp only [zS,zQ,zM,zI,zB,yX,yW,zO,zT,zN,zU,zZ,zR,zP,zJ,zL,yY,zK,gZ,gS,tZ,tS]);try simp only [zR,i0])
  refine ⟨⟨by omega,by omega⟩,?_⟩;have len:((List.range m.toNat).map fun i:Nat=>W.int (i:Int)).length=m.toNat:=by simp
  refine ⟨fun i σ G'=>∃ (xs:List Str) (v7 v8:Option W),σ=[some (.ref d),some (.int m),some (.str abc),some (.ref p),some (.str core),some (.int at'),some (.int tn),v7,v8]/\G' p=some (.lst (xs.map .str))/\xs.length=i/\(∀ x∈xs,bF x=true/\x.length<=5/\xO x=true)/\zX [d,l] G G'/\yC G' d l,
   ⟨[],none,none,rfl,gp3,rfl,by simp,kG,D3⟩,fun _ _ _ _ _=>trivial,?_,?_⟩
  .rintro i w σ G' hw ⟨xs,v7,v8,rfl,gx,hl,hs,kp,D'⟩;rw [List.getElem?_map] at hw;obtain ⟨i',hi',rfl⟩:=Option.map_eq_some_iff.mp hw;have him:i<m.toNat:=by have:=(List.getElem?_eq_some_iff.mp hi').1;simpa using this
   have hii:i'=i:=by
    have:=(List.getElem?_eq_some_iff.mp hi').2;rw [List.getElem_range] at this;exact this.symm
   subst hii;have him:i' < 5:=by omega
   refine yL ?_
   (try dsimp only [zS,zQ,zM,zI,zB,yX,yW,zO,zT,zN,zU,zZ,zR,zP,zJ,zL,yY,zK,gZ,gS,tZ,tS])
   refine zgZ a0 (by omega) (by omega) hg fun y1 h1 s1=>?_;refine ⟨.inl ⟨by omega,by omega⟩,by decide,?_⟩;refine ziD (Int.emod_nonneg _ (by decide)) (Int.emod_lt_of_pos _ (by decide)) fun y2 h2 s2=>?_;refine addS (by omega) (zeD a0 (by omega) (by omega) hg fun y3 h3 s3=>addS (by rw [Str.length_append];omega) ?_);have hlen:((y1++y2)++y3).length<=5:=by rw [Str.length_append,Str.length_append];omega
   have hlen1:1<=((y1++y2)++y3).length:=by rw [Str.length_append,Str.length_append];omega
   have hsg:xO ((y1++y2)++y3)=true:=by rw [vZ,vZ,s1,s2,s3];rfl
   generalize (y1++y2)++y3=nm at hlen hlen1 hsg ⊢;refine yL ?_
   ((try dsimp only [zS,zQ,zM,zI,zB,yX,yW,zO,zT,zN,zU,zZ,zR,zP,zJ,zL,yY,zK,gZ,gS,tZ,tS]);try simp only [yT,vH,L3.inR,zzB,if_false,zzC,zzL,zzA,Nat.reduceAdd,z4,true_and])
   refine ⟨⟨by simp [uJ],by simp [wH,uJ],by simp [jX,dep]⟩,?_⟩
   have app:∀ x:Str,bF x=true->x.length<=5->xO x=true->tyW G' (.ref p) "list" /\ pQ (.ref p) [.str x] G' (fun _ G1=>∃ (xs':List Str) (v7 v8:Option W),[some (W.ref d),some (.int m),some (.str abc),some (.ref p),some (.str core),some (.int at'),some (.int tn),some (.int i'),some (.str x)]=[some (.ref d),some (.int m),some (.str abc),some (.ref p),some (.str core),some (.int at'),some (.int tn),v7,v8]/\G1 p=some (.lst (xs'.map .str))/\xs'.length=i'+1/\(∀ x∈xs',bF x=true/\x.length<=5/\xO x=true)/\zX [d,l] G G1/\yC G1 d l):=by
    intro x hx hx5 hxs;refine ⟨tyL gx,appL gx (by rw [zzM];omega) ⟨xs++[x],_,_,rfl,by rw [zY];simp,by simp [hl],fun y hy=>?_,jV kp hpn,qL hp D'⟩⟩;rcases List.mem_append.mp hy with hy|hy
    .exact hs y hy
    .rw [zzO hy];exact ⟨hx,hx5,hxs⟩
   have en:([W.str "and", .str "or", .str "not", .str "then"].any fun w=>kQ w (.str nm))=noN.contains nm:=zjf;rw [en]
   by_cases hno:nm∈noN
   .rw [if_pos (by simpa using hno)];refine yL ?_
    (try dsimp only [zS,zQ,zM,zI,zB,yX,yW,zO,zT,zN,zU,zZ,zR,zP,zJ,zL,yY,zK,gZ,gS,tZ,tS])
    refine addS (by omega) ?_;refine uC ?_;refine yL ?_
    ((try dsimp only [zS,zQ,zM,zI,zB,yX,yW,zO,zT,zN,zU,zZ,zR,zP,zJ,zL,yY,zK,gZ,gS,tZ,tS]);try simp only [t2])
    have:=zic hno;exact app _ (zf7 (by rw [Str.length_append];omega) (by rw [Str.length_append];omega) (by rw [vZ,hsg,q2];rfl) (no_q hno) (ne_a (by rw [Str.length_append];omega))) (by rw [Str.length_append];omega) (by rw [vZ,hsg,q2];rfl)
   .rw [if_neg (by simpa using hno)];refine uC ?_;refine yL ?_
    ((try dsimp only [zS,zQ,zM,zI,zB,yX,yW,zO,zT,zN,zU,zZ,zR,zP,zJ,zL,yY,zK,gZ,gS,tZ,tS]);try simp only [t2])
    exact app _ (zf7 hlen1 (by omega) hsg hno (ne_a hlen)) hlen hsg
  .rintro σ G' ⟨xs,v7,v8,rfl,gx,hl,hs,kp,D'⟩;rw [len] at hl
   obtain ⟨x,r,rfl⟩:∃ x r,xs=x::r:=by
    cases xs with
    |nil=>simp at hl;omega
    |cons x r=>exact ⟨x,r,rfl⟩
   have hlr:r.length+1=m.toNat:=by simpa using hl
   have fin:∀ (ys:List Str) (G2:Hw),ys.length=m.toNat->(∀ y∈ys,bF y=true)->zX [d,l] G G2->yC G2 d l->G2 p=some (.lst (ys.map .str))->∀ v7 v8:Option W,zE (yI K sA n) XN (.cons (.ret (.var 3)) .nil) { nx:=fun _ G'=>Q .non G',rt:=Q } [some (.ref d),some (.int m),some (.str abc),some (.ref p),some (.str core),some (.int at'),some (.int tn),v7,v8] G2:=by
    intro ys G2 hy hs2 k4 D4 g4 v7 v8;refine yL ?_
    (try dsimp only [zS,zQ,zM,zI,zB,yX,yW,zO,zT,zN,zU,zZ,zR,zP,zJ,zL,yY,zK,gZ,gS,tZ,tS])
    exact h p ys G2 hy hs2 hp g4 k4 D4
   refine yL ?_
   ((try dsimp only [zS,zQ,zM,zI,zB,yX,yW,zO,zT,zN,zU,zZ,zR,zP,zJ,zL,yY,zK,gZ,gS,tZ,tS]);try simp only [yT,pU])
   by_cases hm:1<m
   .rw [if_pos (by simpa using hm)]
    ((try dsimp only [zS,zQ,zM,zI,zB,yX,yW,zO,zT,zN,zU,zZ,zR,zP,zJ,zL,yY,zK,gZ,gS,tZ,tS]);try simp only [e6])
    refine ⟨d,l,2,rfl,D',by decide,fun b G4 b0 b1 k4 D4=>?_⟩;have gx4:=k4 _ _ hp gx;simp only [jU]
    by_cases hb:b=1
    .rw [decide_eq_true hb,if_pos rfl];refine yL ?_
     (try dsimp only [zS,zQ,zM,zI,zB,yX,yW,zO,zT,zN,zU,zZ,zR,zP,zJ,zL,yY,zK,gZ,gS,tZ,tS])
     refine bD (zW gx4) ?_;rw [zzU,qD];have hx:=hs x (by simp);refine addS (by omega) ?_;rw [zzU] at gx4;simp only [sH,gx4];have e0:gQ (W.str x::r.map W.str).length 0=some 0:=by simp [gQ]
     rw [e0];refine uC ?_;refine fin ((x ++ "z")::r) _ (by simpa using hlr) (fun y hy=>?_) (jV (kp.trans k4) hpn) (qL hp D4) (by rw [zY];rfl) v7 v8;rcases List.mem_cons.mp hy with rfl|hy
     .exact zf7 (by rw [Str.length_append];omega) (by rw [Str.length_append];omega) (by rw [vZ,hx.2.2,w2];rfl) no_z ne_z
     .exact (hs y (List.mem_cons_of_mem _ hy)).1
    .rw [decide_eq_false hb,if_neg zzN];refine uC ?_;exact fin (x::r) _ hl (fun y hy=>(hs y hy).1) (kp.trans k4) D4 gx4 v7 v8
   .rw [if_neg (by simpa using hm),if_neg zzN];refine uC ?_;exact fin (x::r) _ hl (fun y hy=>(hs y hy).1) kp D' gx v7 v8
 simp only [wR,tl] at go;simp only [wR];refine yL ?_
 (try dsimp only [zS,zQ,zM,zI,zB,yX,yW,zO,zT,zN,zU,zZ,zR,zP,zJ,zL,yY,zK,gZ,gS,tZ,tS])
 refine yL ?_
 ((try dsimp only [zS,zQ,zM,zI,zB,yX,yW,zO,zT,zN,zU,zZ,zR,zP,zJ,zL,yY,zK,gZ,gS,tZ,tS]);try simp only [List.length_nil,z0,true_and])
 intro p hp;have hpd:=qY D hp;have D1:=xI (o:=.lst []) hp D;have k1:zX [d,l] G (put G p (.lst [])):=zX.new hp;have gp:(put G p (.lst [])) p=some (.lst []):=zY;generalize put G p (.lst [])=G1 at D1 k1 gp ⊢;refine yL ?_
 ((try dsimp only [zS,zQ,zM,zI,zB,yX,yW,zO,zT,zN,zU,zZ,zR,zP,zJ,zL,yY,zK,gZ,gS,tZ,tS]);try simp only [t1,e6,zR,zP,i0])
 refine ⟨rfl,d,l,5,rfl,D1,by decide,fun j G2 j0 j5 k2 D2=>?_⟩;have gp2:=k2 _ _ hpd gp;refine ⟨⟨by omega,by omega⟩,?_⟩;have len:((List.range j.toNat).map fun i:Nat=>W.int (i:Int)).length=j.toNat:=by simp
 refine ⟨fun i acc G'=>∃ ts:List Str,acc=ts.map .str/\ts.length=i/\(∀ x∈ts,x.length<=1/\xO x=true)/\zX [d,l] G2 G'/\yC G' d l,⟨[],rfl,rfl,by simp,zX.refl,D2⟩,?_,by rw [len];exact sz _ (by omega),?_,?_⟩
 .rintro i acc G' ⟨ts,rfl,rfl,_,_,_⟩ _;exact ⟨trivial,by simp⟩
 .rintro i w acc G' hw ⟨ts,rfl,hl,hs,kp,D'⟩;simp only [jS,List.length_cons,List.length_nil,List.replicate,zzU,zzV,List.cons_append,List.nil_append,List.append_nil]
  ((try dsimp only [zS,zQ,zM,zI,zB,yX,yW,zO,zT,zN,zU,zZ,zR,zP,zJ,zL,yY,zK,gZ,gS,tZ,tS]);try simp only [Option.join_some,if_true,e6])
  refine ⟨d,l,26,rfl,D',by decide,fun r G'' r0 r1 kp' D''=>ziD r0 r1 fun x hx sx=>?_⟩;refine ⟨ts++[x],by simp,by simp [hl],fun y hy=>?_,kp.trans kp',D''⟩;rcases List.mem_append.mp hy with hy|hy
  .exact hs y hy
  .rw [zzO hy,hx];exact ⟨zzR _,sx⟩
 .rintro acc G' ⟨ts,rfl,hl,hs,kp,D'⟩ r hr;have hl4:ts.length<=4:=by rw [hl,len];omega
  obtain ⟨jo,jl,js⟩:=zed (fun x hx=>(hs x hx).1) (fun x hx=>(hs x hx).2) hl4;refine ⟨ts,zW zY,jo,?_⟩;have k3:zX [d,l] G' (put G' r (.lst (ts.map .str))):=zX.new hr;exact go _ p _ jl js hp hpd (((k1.trans k2).trans kp).trans k3) (xI hr D') (k3 _ _ hpd (kp _ _ hpd gp2))
end
theorem zfg {xs:List Str} {i:Int} (h0:0<=i) (h1:i<xs.length):∃ x∈xs,sM (xs.map W.str) i=some (.str x):=by
 have hi:i.toNat<xs.length:=by omega
 refine ⟨xs[i.toNat],List.getElem_mem hi,?_⟩;unfold sM gQ;rw [if_pos h0,zzM,if_pos h1];show (xs.map W.str)[i.toNat]?=_;rw [List.getElem?_map,List.getElem?_eq_getElem hi];rfl
section
variable {K : yN} {sA : Addr}
theorem zbc {n:Nat} {ws:List W} {G:Hw} {Q:Q3} (h:xD (n+1) ws G Q XN):zE (uK K sA 13 ⟨"_law_saying", xD n⟩) XN jC { nx:=fun _ G'=>Q .non G',rt:=Q } (yB kJ ws) G:=by
 obtain ⟨d,l,r,m,xs,rfl,D,hr,gr,hx,hxl,hok,m1,mn,m100,h⟩:=h;have e1:(uK K sA 13 ⟨"_law_saying", xD n⟩).fn[1]?=some mL:=rfl;have e8:(uK K sA 13 ⟨"_law_saying", xD n⟩).fn[10]?=some vB:=rfl;have e9:(uK K sA 13 ⟨"_law_saying", xD n⟩).fn[13]?=some ⟨"_law_saying", xD n⟩:=rfl;have z2:=sz 2 (by decide);have z3:=sz 3 (by decide);have x0:0<xs.length:=List.length_pos_iff.mpr hx;show zE (uK K sA 13 ⟨"_law_saying", xD n⟩) XN jC { nx:=fun _ G'=>Q .non G',rt:=Q } [some (.ref d),some (.ref r),some (.int m),none,none,none] G;simp only [jC]
 ((try dsimp only [zE,zS,zQ,zM,zI,zB,yX,yW,zO,zT,zN,zU,zZ,zR,zP,zJ,zL,yY,zK,gZ,gS,tZ,tS]);try simp only [yT,jU,e1,e8,e9,uM,vE,gr,zzM])
 by_cases hm1:m=1
 .subst hm1;rw [if_pos (by simp)];refine ⟨d,l,xs.length,rfl,D,⟨by omega,by omega⟩,fun i G1 i0 i1 kp D1=>?_⟩;obtain ⟨x,hxm,ex⟩:=zfg i0 i1;refine bD (zW (kp _ _ hr gr)) ?_;rw [ex];exact ⟨z2,h (.say x) G1 (hok x hxm) (by show ((1:Nat):Int)<=1;decide) kp D1⟩
 rw [if_neg (by simpa using hm1)];refine ⟨d,l,4,rfl,D,by decide,fun way G1 w0 w1 kp1 D1=>?_⟩;have gr1:=kp1 _ _ hr gr
 (try dsimp only [zE,zS,zQ,zM,zI,zB,yX,yW,zO,zT,zN,zU,zZ,zR,zP,zJ,zL,yY,zK,gZ,gS,tZ,tS])
 have hnot:zE (uK K sA 13 ⟨"_law_saying", xD n⟩) XN (.cons (.ret (.tup (.cons (.con (.str "not")) (.cons (.call 13 (.cons (.var 0) (.cons (.var 1) (.cons (.bin .Sub (.var 2) (.con (.int 1))) .nil)))) .nil)))) .nil) { nx:=fun _ G'=>Q .non G',rt:=Q } [some (.ref d),some (.ref r),some (.int m),some (.int way),none,none] G1:=by
  ((try dsimp only [zE,zS,zQ,zM,zI,zB,yX,yW,zO,zT,zN,zU,zZ,zR,zP,zJ,zL,yY,zK,gZ,gS,tZ,tS]);try simp only [jZ,e9])
  refine ⟨d,l,r,m-1,xs,rfl,D1,hr,gr1,hx,hxl,hok,by omega,by omega,by omega,fun t G2 ht hs kp2 D2=>⟨z2,h (.neg t) G2 ht ?_ (kp1.trans kp2) D2⟩⟩;show ((t.size+1:Nat):Int)<=m;omega
 (try dsimp only [zE,zS,zQ,zM,zI,zB,yX,yW,zO,zT,zN,zU,zZ,zR,zP,zJ,zL,yY,zK,gZ,gS,tZ,tS] at hnot)
 by_cases hm2:m=2
 .subst hm2;simp only [decide_true,if_true];exact hnot
 simp only [decide_eq_false hm2,zzB,if_false,jU]
 by_cases hw:way=3
 .subst hw;simp only [decide_true,if_true];exact hnot
 simp only [decide_eq_false hw,zzB,if_false,jZ];refine ⟨d,l,m-2,rfl,D1,⟨by omega,by omega⟩,fun i G2 i0 i1 kp2 D2=>?_⟩;have gr2:=kp2 _ _ hr gr1
 ((try dsimp only [zE,zS,zQ,zM,zI,zB,yX,yW,zO,zT,zN,zU,zZ,zR,zP,zJ,zL,yY,zK,gZ,gS,tZ,tS]);try simp only [e9])
 refine ⟨d,l,r,1+i,xs,rfl,D2,hr,gr2,hx,hxl,hok,by omega,by omega,by omega,fun a G3 hao ha kp3 D3=>?_⟩;have gr3:=kp3 _ _ hr gr2
 ((try dsimp only [zE,zS,zQ,zM,zI,zB,yX,yW,zO,zT,zN,zU,zZ,zR,zP,zJ,zL,yY,zK,gZ,gS,tZ,tS]);try simp only [zzC,zzL,zzA,Nat.reduceAdd,z3,true_and])
 intro p hp;have D4:=xI (o:=.lst [.str "and", .str "or", .str "if"]) hp D3;have k4:zX [d,l] G3 (put G3 p (.lst [.str "and", .str "or", .str "if"])):=zX.new hp;have gr4:=k4 _ _ hr gr3;refine bD (zW zY) ?_;have kp4:=((kp1.trans kp2).trans kp3).trans k4
 have fin:∀ k:Op,xD n [.ref d,.ref r,.int (m-1-(1+i))] (put G3 p (.lst [.str "and", .str "or", .str "if"])) (fun b G5=>Q (.tup [.str (kw k),a.w,b]) G5) XN:=fun k =>
  ⟨d,l,r,m-1-(1+i),xs,rfl,D4,hr,gr4,hx,hxl,hok,by omega,by omega,by omega,fun b G5 hbo hb kp5 D5=>by
   refine h (.two k a b) G5 ⟨hao,hbo⟩ ?_ (kp4.trans kp5) D5;show ((a.size+b.size+1:Nat):Int)<=m;omega⟩
 have hc:way=0\/way=1\/way=2:=by omega
 rcases hc with rfl|rfl|rfl
 .rw [qD];((try dsimp only [zE,zS,zQ,zM,zI,zB,yX,yW,zO,zT,zN,zU,zZ,zR,zP,zJ,zL,yY,zK,gZ,gS,tZ,tS]);try simp only [e9,jZ,z3,true_and]);exact fin .an
 .rw [at_1];((try dsimp only [zE,zS,zQ,zM,zI,zB,yX,yW,zO,zT,zN,zU,zZ,zR,zP,zJ,zL,yY,zK,gZ,gS,tZ,tS]);try simp only [e9,jZ,z3,true_and]);exact fin .or
 .rw [at_2];((try dsimp only [zE,zS,zQ,zM,zI,zB,yX,yW,zO,zT,zN,zU,zZ,zR,zP,zJ,zL,yY,zK,gZ,gS,tZ,tS]);try simp only [e9,jZ,z3,true_and]);exact fin .im
end
theorem dW {x:W} {r:List W}:pG (x::r) (some 1) none=r:=by
 have e1:HT.xC (x::r).length 0 (some 1)=1:=by
  simp [HT.xC]
 have e2:HT.xC (x::r).length (x::r).length none=r.length+1:=by
  simp [HT.xC]
 unfold pG;rw [e1,e2];simp
theorem tD (a b:List Sy):xE (a++b)=xE a++xE b:=by simp [xE]
theorem zaD (a:Sy):xE [a]=pre a:=by simp [xE]
def wO (ts:List Sy):Nat:=(xE ts).length
theorem qB (a b:List Sy):wO (a++b)=wO a+wO b:=by simp [wO,tD]
theorem tO:∀ ts:List Sy,ts.length<=wO ts
 | []=>Nat.zero_le _
 |t::ts=>by
  have h1:=t.pos;have h2:=tO ts;have e:wO (t::ts)=(pre t).length+wO ts:=by simp [wO,xE]
  rw [e,xQ,List.length_cons];omega
theorem gH (t:Sy):wO (xA t)+1=t.size:=by
 have:=xQ t;rw [tB] at this;simpa [wO] using this
theorem addL {G:Hw} {p q:Addr} {xs ys:List W} {Q:Q3} (hp:G p=some (.lst xs)) (hq:G q=some (.lst ys)) (hl:xs.length+ys.length<=3000) (h:∀ r,G r=none->Q (.ref r) (put G r (.lst (xs++ys)))):jZ .Add (.ref p) (.ref q) G Q:=by
 simp only [jZ,hp,hq];exact ⟨sz _ hl,h⟩
section
variable {K : yN} {sA : Addr}
theorem fZ {Γ:Ctx3} {ws:List W} {G:Hw} {Q:Q3} (h:jM ws G Q XN):zE Γ XN kT { nx:=fun _ G'=>Q .non G',rt:=Q } (yB uU ws) G:=by
 obtain ⟨t,rfl,h⟩:=h;have z0:=sz 0 (by decide);show zE Γ XN kT { nx:=fun _ G'=>Q .non G',rt:=Q } [some t.w] G;simp only [kT];refine yL ?_
 cases t with
 |say x =>
  ((try dsimp only [zS,zQ,zM,zI,zB,yX,yW,zO,zT,zN,zU,zZ,zR,zP,zJ,zL,yY,zK,gZ,gS,tZ,tS]);try simp only [Sy.w,qM,qD,yT,yR,List.length_nil,z0,true_and,beq_self_eq_true,if_true])
  exact h
 |neg a =>
  have e:(("not" : Str) == "say")=false:=by decide +kernel
  ((try dsimp only [zS,zQ,zM,zI,zB,yX,yW,zO,zT,zN,zU,zZ,zR,zP,zJ,zL,yY,zK,gZ,gS,tZ,tS]);try simp only [Sy.w,qM,qD,yT,yR,e,zzB,if_false,gB,dW])
  exact h
 |two k a b =>
  ((try dsimp only [zS,zQ,zM,zI,zB,yX,yW,zO,zT,zN,zU,zZ,zR,zP,zJ,zL,yY,zK,gZ,gS,tZ,tS]);try simp only [Sy.w,qM,qD,yT,yR,(vD k).1,zzB,if_false,gB,dW])
  exact h
theorem za1 {n:Nat} {ws:List W} {G:Hw} {Q:Q3} (h:tM sA ws G Q XN):zE (yI K sA n) XN qK { nx:=fun _ G'=>Q .non G',rt:=Q } (yB vL ws) G:=by
 obtain ⟨t,rfl,ts,h⟩:=h;have t0:(yI K sA n).mt[0]?=some ePop:=rfl;have t2:(yI K sA n).mt[2]?=some eApp:=rfl;have t3:(yI K sA n).mt[3]?=some eExt:=rfl;have s1:(yI K sA n).sx[1]?=some ⟨rvM,rvS⟩:=rfl;have s3:(yI K sA n).sx[3]?=some ⟨hcM "sides_of", hcS sA jM⟩:=rfl;have z0:=sz 0 (by decide);have z1:=sz 1 (by decide);show zE (yI K sA n) XN qK { nx:=fun _ G'=>Q .non G',rt:=Q } [some t.w,some (.ref sA),none,none,none] G;simp only [qK];refine yL ?_
 ((try dsimp only [zS,zQ,zM,zI,zB,yX,yW,zO,zT,zN,zU,zZ,zR,zP,zJ,zL,yY,zK,gZ,gS,tZ,tS]);try simp only [List.length_nil,z0,true_and])
 intro pf hf;have kf:zX [] G (put G pf (.lst [])):=zX.new hf;have gf:(put G pf (.lst [])) pf=some (.lst []):=zY;generalize put G pf (.lst [])=G1 at kf gf ⊢;refine yL ?_
 ((try dsimp only [zS,zQ,zM,zI,zB,yX,yW,zO,zT,zN,zU,zZ,zR,zP,zJ,zL,yY,zK,gZ,gS,tZ,tS]);try simp only [zzC,zzL,zzA,z1,true_and])
 intro pw hw;have kw':zX [] G1 (put G1 pw (.lst [t.w])):=zX.new hw;have gw:(put G1 pw (.lst [t.w])) pw=some (.lst [t.w]):=zY;have gf:=kw' _ _ (by simp) gf;have ne:pf≠pw:=fun e=>by rw [e,gw] at gf;cases gf
 have hw0:G pw=none:=kf.none (by simp) hw;have k2:zX [] G (put G1 pw (.lst [t.w])):=kf.trans kw';generalize put G1 pw (.lst [t.w])=G2 at k2 gw gf ⊢;refine yL ?_;refine ⟨fun m σ G'=>∃ (fs st:List Sy) (v:Option W),σ=[some t.w,some (.ref sA),some (.ref pf),some (.ref pw),v]/\G' pf=some (.lst (fs.map Sy.w))/\G' pw=some (.lst (st.map Sy.w))/\zX [] G G'/\fs++xE st.reverse=pre t/\wO st=m,⟨_,[],[t],none,rfl,gf,gw,k2,by simp [xE],rfl⟩,?_⟩;rintro m σ G' ⟨fs,st,v,rfl,gf',gw',kp,hp,rfl⟩
 have hln:fs.length+wO st=t.size:=by
  have:=congrArg List.length hp;rw [zzW,xQ] at this
  have e:(xE st.reverse).length=wO st:=by
   clear this hp gw' gf'
   induction st with
   |nil=>rfl
   |cons a st ih =>
    rw [List.reverse_cons,tD,zzW,ih,zaD];simp [wO,xE];omega
  omega
 ((try dsimp only [zS,zQ,zM,zI,zB,yX,yW,zO,zT,zN,zU,zZ,zR,zP,zJ,zL,yY,zK,gZ,gS,tZ,tS]);try simp only [uD,gw'])
 by_cases hst:st=[]
 .subst hst;simp only [zzV,List.isEmpty_nil,Bool.not_true,zzB,if_false];refine yL ?_
  (try dsimp only [zS,zQ,zM,zI,zB,yX,yW,zO,zT,zN,zU,zZ,zR,zP,zJ,zL,yY,zK,gZ,gS,tZ,tS])
  have e:fs=pre t:=by simpa [xE] using hp
  rw [e] at gf';exact h pf G' kp hf gf'
 .obtain ⟨ini,x,rfl⟩:∃ ini x,st=ini++[x]:=⟨st.dropLast,st.getLast hst,(List.dropLast_concat_getLast hst).symm⟩;have he:((ini++[x]).map Sy.w).isEmpty=false:=by simp
  simp only [he,Bool.not_false,if_true];rw [List.map_append,zzU,zzV] at gw';have hgx:(ini.map Sy.w++[x.w])[(ini.map Sy.w++[x.w]).length-1]?=some x.w:=by simp
  rw [qB,show wO [x]=x.size by simp [wO,xE,xQ]] at hln;have l1:=tO ini;have l2:=gH x;have l3:=tO (xA x);refine yL ?_
  ((try dsimp only [zS,zQ,zM,zI,zB,yX,yW,zO,zT,zN,zU,zZ,zR,zP,zJ,zL,yY,zK,gZ,gS,tZ,tS]);try simp only [t0])
  refine ⟨tyL gw',?_⟩;simp only [gY,gw',hgx,List.dropLast_concat];have k3:zX [] G (put G' pw (.lst (ini.map Sy.w))):=jV kp hw0;have gw3:(put G' pw (.lst (ini.map Sy.w))) pw=some (.lst (ini.map Sy.w)):=zY;have gf3:(put G' pw (.lst (ini.map Sy.w))) pf=some (.lst (fs.map Sy.w)):=by rw [yU ne];exact gf'
  generalize put G' pw (.lst (ini.map Sy.w))=G3 at k3 gw3 gf3 ⊢;refine yL ?_
  ((try dsimp only [zS,zQ,zM,zI,zB,yX,yW,zO,zT,zN,zU,zZ,zR,zP,zJ,zL,yY,zK,gZ,gS,tZ,tS]);try simp only [t2])
  refine ⟨tyL gf3,appL gf3 (by rw [zzM];omega) ?_⟩;have k4:zX [] G (put G3 pf (.lst (fs.map Sy.w++[x.w]))):=jV k3 hf;have gf4:(put G3 pf (.lst (fs.map Sy.w++[x.w]))) pf=some (.lst (fs.map Sy.w++[x.w])):=zY;have gw4:(put G3 pf (.lst (fs.map Sy.w++[x.w]))) pw=some (.lst (ini.map Sy.w)):=by rw [yU (Ne.symm ne)];exact gw3
  generalize put G3 pf (.lst (fs.map Sy.w++[x.w]))=G4 at k4 gf4 gw4 ⊢;refine yL ?_
  ((try dsimp only [zS,zQ,zM,zI,zB,yX,yW,zO,zT,zN,zU,zZ,zR,zP,zJ,zL,yY,zK,gZ,gS,tZ,tS]);try simp only [t3,s1,s3])
  refine ⟨tyL gw4,?_⟩;refine ⟨rfl,x,rfl,?_⟩;simp only [rvS,extS,gw4];refine ⟨sz _ (by rw [zzM,List.length_reverse,zzM];omega),?_⟩;refine uC ?_;refine ⟨wO (ini++(xA x).reverse),?_,fs++[x],ini++(xA x).reverse,_,rfl,?_,?_,jV k4 hw0,?_,rfl⟩
  .have e:wO (xA x).reverse=wO (xA x):=by cases x<;>simp [xA,wO,xE]<;>omega
   rw [qB,qB,e,show wO [x]=x.size by simp [wO,xE,xQ]];omega
  .rw [yU ne,gf4];simp
  .rw [zY,List.map_append,List.map_reverse]
  .rw [← hp,List.reverse_append,List.reverse_reverse,List.reverse_append,List.reverse_singleton,tD,tD,zaD,tB x];simp
end
section
variable {K : yN} {sA : Addr}
theorem zcf {n:Nat} (hn:19<=n) {ws:List W} {G:Hw} {Q:Q3} (h:pO ws G Q XN):zE (yI K sA n) XN kB { nx:=fun _ G'=>Q .non G',rt:=Q } (yB tX ws) G:=by
 obtain ⟨t,rfl,ts,h⟩:=h;have e18:(yI K sA n).fn[18]?=some ⟨"all_within", tM sA⟩:=qT 18 hn rfl;have g1:(yI K sA n).gl[2]?=some (("sides_of" : Str),.ref sA):=rfl;show zE (yI K sA n) XN kB { nx:=fun _ G'=>Q .non G',rt:=Q } [some t.w] G;simp only [kB];refine yL ?_
 ((try dsimp only [zS,zQ,zM,zI,zB,yX,yW,zO,zT,zN,zU,zZ,zR,zP,zJ,zL,yY,zK,gZ,gS,tZ,tS]);try simp only [e18,g1])
 exact ⟨t,rfl,ts,h⟩
end
theorem vX {items:List W} {stab:Hw->Prop} {G:Hw} {turn:W->Hw->(Option W->Hw->Prop)->Prop} {Q:Q3} (g:Nat->Option W) (hl:items.length<=3000) (st:∀ G',zX [] G G'->stab G')
  (step:∀ i w G' (k:Option W->Hw->Prop),items[i]?=some w->zX [] G G'->(∀ G'',zX [] G G''->k (g i) G'')->turn w G' k)
  (fin:∀ G' r,zX [] G G'->G' r=none->Q (.ref r) (put G' r (.lst ((List.range items.length).filterMap g)))):lcR items stab G turn Q:=by
 refine ⟨fun i acc G'=>zX [] G G'/\acc=(List.range i).filterMap g,⟨zX.refl,rfl⟩,?_,sz _ hl,?_,?_⟩
 .rintro i acc G' ⟨k,rfl⟩ _;exact ⟨st G' k,Nat.le_trans (List.length_filterMap_le _ _) (Nat.le_of_eq List.length_range)⟩
 .rintro i w acc G' hw ⟨k,rfl⟩;refine step i w G' _ hw k fun G'' k'=>?_
  have e:(List.range (i+1)).filterMap g=(List.range i).filterMap g++(g i).toList:=by
   rw [List.range_succ,List.filterMap_append];cases h:g i<;>simp [h]
  cases hg:g i with
  |some x=>exact ⟨k',by rw [e,hg];rfl⟩
  |none=>exact ⟨k',by rw [e,hg];simp⟩
 .rintro acc G' ⟨k,rfl⟩ r hr;exact fin G' r k hr
theorem jD {f:Nat->W} {n:Nat}:(List.range n).filterMap (fun i=>some (f i))=(List.range n).map f:=by
 show List.filterMap (some ∘ f) _=_;rw [List.filterMap_eq_map]
theorem rX {α β:Type} (f:α->β) (d:α) (l:List α):(List.range l.length).map (fun i=>f (l.getD i d))=l.map f:=by
 apply List.ext_getElem?;intro i
 by_cases hi:i<l.length
 .simp [hi,List.getD]
 .simp [hi]
theorem atB {l:List Bool} {i:Nat} (h:i<l.length):sM (xS l) ((i:Nat):Int)=some (.bl (l.getD i false)):=by
 unfold sM gQ;have hb:(xS l).length=l.length:=by simp [xS]
 rw [if_pos (by omega),hb,if_pos (by omega)];show (xS l)[((i:Nat):Int).toNat]?=_;simp [xS,h]
theorem atN {l:List W} {i:Nat} {w:W} (h:l[i]?=some w):sM l ((i:Nat):Int)=some w:=by
 have hi:=(List.getElem?_eq_some_iff.mp h).1;unfold sM gQ;rw [if_pos (by omega),if_pos (by omega)];exact h
theorem gD {α:Type} {l:List α} {i:Nat} {d x:α} (h:l[i]?=some x):l.getD i d=x:=by simp [List.getD,h]
theorem zil {web:List Wd} {k:Nat} {v:Wd} (h:web[k]?=some v):lsAt web k=v.ls:=by simp [lsAt,h]
theorem cK {web:List Wd} (h:WOk web):(web.map Wd.w).length<=3000:=by have:=h.few;rw [zzM];omega
section
variable {K : yN} {sA : Addr}
theorem zby {p q:Addr} {a b:List Bool} {G:Hw} {turn:W->Hw->(Option W->Hw->Prop)->Prop} {Q:Q3} (f:Bool->Bool->Bool) (hp:G p=some (.lst (xS a))) (hq:G q=some (.lst (xS b))) (he:a.length=b.length) (hl:a.length<=3000)
  (step:∀ (x y:Bool) G' (k:Option W->Hw->Prop),(∀ G'',G''=G'->k (some (.bl (f x y))) G'')->turn (.tup [.bl x,.bl y]) G' k)
  (fin:∀ G' r,zX [] G G'->G' r=none->Q (.ref r) (put G' r (.lst (xS (List.zipWith f a b))))) :
  zipI [.ref p,.ref q] G fun items stab G1=>lcR items stab G1 turn Q:=by
 refine ⟨xS a,xS b,zW hp,zW hq,?_⟩;have len:(List.zipWith (fun x y=>W.tup [x,y]) (xS a) (xS b)).length=a.length:=by simp [xS,he]
 refine vX (fun i=>some (.bl (f (a.getD i false) (b.getD i false)))) (by rw [len];exact hl) (fun G' k=>⟨zW (k _ _ (by simp) hp),zW (k _ _ (by simp) hq)⟩) (fun i w G' k hw kp hk=>?_) (fun G' r k hr=>?_)
 .have hi:=(List.getElem?_eq_some_iff.mp hw).1;rw [len] at hi
  have e:w=.tup [.bl (a.getD i false),.bl (b.getD i false)]:=by
   rw [List.getElem?_zipWith] at hw;simp [xS,hi,show i<b.length by omega] at hw;rw [← hw];simp [List.getD,hi,show i<b.length by omega]
  rw [e];exact step _ _ G' k fun G'' eg=>by rw [eg];exact hk G' kp
 .have:=fin G' r k hr;rw [len,jD]
  have e:(List.range a.length).map (fun i=>W.bl (f (a.getD i false) (b.getD i false)))=xS (List.zipWith f a b):=by
   apply List.ext_getElem?;intro i
   by_cases hi:i<a.length
   .simp [xS,hi,List.getD,List.getElem?_zipWith,show i<b.length by omega]
   .simp [xS,hi,List.getElem?_zipWith,show ¬ i<b.length by omega]
  rw [e];exact this
theorem zfu {n:Nat} (hn:20<=n) {ws:List W} {G:Hw} {Q:Q3} (h:zbQ ws G Q XN):zE (yI K sA n) XN jK { nx:=fun _ G'=>Q .non G',rt:=Q } (yB qH ws) G:=by
 obtain ⟨web,p,q,a,b,rfl,⟨wo,hp,hq,la,lb⟩,h⟩:=h;have e2:(yI K sA n).fn[2]?=some eAll:=qT 2 hn rfl;have i1:(yI K sA n).it[1]?=some eZpi:=rfl;have i2:(yI K sA n).it[2]?=some eEn:=rfl;have w12:=wo.few;show zE (yI K sA n) XN jK { nx:=fun _ G'=>Q .non G',rt:=Q } [some (xR web),some (.ref p),some (.ref q),none] G;simp only [jK];refine yL ?_
 ((try dsimp only [zS,zQ,zM,zI,zB,yX,yW,zO,zT,zN,zU,zZ,zR,zP,zJ,zL,yY,zK,gZ,gS,tZ,tS]);try simp only [i1])
 refine zby (fun one other=>other || !one) hp hq (by omega) (by omega) (fun x y G' k hk=>?_) (fun G' r kp hr=>?_)
 ·((try dsimp only [zS,zQ,zM,zI,zB,yX,yW,zO,zT,zN,zU,zZ,zR,zP,zJ,zL,yY,zK,gZ,gS,tZ,tS]);try simp only [jS,zzC,zzL,zzA,List.replicate,zzV,List.append_nil,if_true])
  cases y<;>first|exact hk G' rfl|(simp only [zzB,if_false,if_true];exact hk G' rfl)
 .have g1:(put G' r (.lst (xS (imp a b)))) r=some (.lst (xS (imp a b))):=zY;have k1:zX [] G (put G' r (.lst (xS (imp a b)))):=kp.trans (zX.new hr);show zE (yI K sA n) XN _ _ _ (put G' r (.lst (xS (imp a b))));have lh:(imp a b).length=web.length:=zgu la lb;generalize imp a b=hs at g1 k1 lh h ⊢;generalize put G' r (.lst (xS hs))=G1 at g1 k1 ⊢;refine yL ?_
  ((try dsimp only [zS,zQ,zM,zI,zB,yX,yW,zO,zT,zN,zU,zZ,zR,zP,zJ,zL,yY,zK,gZ,gS,tZ,tS]);try simp only [i2])
  refine ⟨web.map Wd.w,rfl,?_⟩;have len:(enW (web.map Wd.w)).length=web.length:=by simp [enW]
  refine vX (fun i=>some (.bl (hs.getD i false&&(lsAt web i).all fun j=>hs.getD j false))) (by rw [len];omega) (fun _ _=>rfl) (fun i w G2 k hw k2 hk=>?_) (fun G2 r2 k2 hr2=>?_)
  .have hi:=(List.getElem?_eq_some_iff.mp hw).1;rw [len] at hi;obtain ⟨v,ev⟩:∃ v,web[i]?=some v:=⟨web[i],List.getElem?_eq_getElem hi⟩;have vm:=List.mem_of_getElem? ev
   have ew:w=.tup [.int (i:Nat),v.w]:=by
    simp [enW,hi] at hw;rw [← hw];rw [List.getElem?_eq_getElem hi] at ev;simp [Option.some.inj ev]
   subst ew;have gr2:=k2 _ _ (by simp) g1
   ((try dsimp only [zS,zQ,zM,zI,zB,yX,yW,zO,zT,zN,zU,zZ,zR,zP,zJ,zL,yY,zK,gZ,gS,tZ,tS]);try simp only [Wd.w,jS,zzC,zzL,zzA,Nat.reduceAdd,List.replicate,zzU,zzV,List.cons_append,List.nil_append,Option.join_some,if_true])
   refine bD (zW gr2) ?_;rw [atB (by omega)]
   (try dsimp only [zS,zQ,zM,zI,zB,yX,yW,zO,zT,zN,zU,zZ,zR,zP,zJ,zL,yY,zK,gZ,gS,tZ,tS])
   rw [zil ev] at hk
   cases hb:hs.getD i false with
   |false =>
    simp only [zzB,if_false];rw [hb] at hk;exact hk G2 k2
   |true =>
    rw [hb,Bool.true_and] at hk;simp only [if_true,e2,wS];have ll:=wo.ll v vm;refine vX (fun j=>some (.bl (hs.getD (v.ls.getD j 0) false))) (by simp only [yZ,zzM];omega) (fun _ _=>trivial) (fun j u G3 k' hu k3 hk'=>?_) (fun G3 r3 k3 hr3=>?_)
    .simp only [yZ] at hu;rw [List.getElem?_map] at hu;obtain ⟨m,hm,rfl⟩:=Option.map_eq_some_iff.mp hu;have gr3:=k3 _ _ (by simp) gr2;rw [gD hm] at hk';have hmw:=wo.inw v vm m (List.mem_of_getElem? hm)
     ((try dsimp only [zS,zQ,zM,zI,zB,yX,yW,zO,zT,zN,zU,zZ,zR,zP,zJ,zL,yY,zK,gZ,gS,tZ,tS]);try simp only [jS,zzC,zzL,zzA,Nat.reduceAdd,List.replicate,zzU,zzV,List.cons_append,List.nil_append,Option.join_some,if_true])
     refine bD (zW gr3) ?_;rw [atB (by omega)];exact hk' G3 k3
    .refine ⟨v.ls.map fun j=>hs.getD j false,?_,?_⟩
     .rw [zW zY,jD];congr 1;simp only [yZ,zzM];rw [rX (fun j=>W.bl (hs.getD j false)) 0 v.ls,List.map_map];rfl
     .show k (some (.bl ((v.ls.map fun j=>hs.getD j false).all id))) _;rw [List.all_map];exact hk _ ((k2.trans k3).trans (zX.new hr3))
  .rw [len,jD];refine h.keep k1 r2 _ (k2.trans (zX.new hr2)) (k2.none (by simp) hr2) ?_;rw [zY];simp only [xS,tif,List.map_map];rfl
theorem kw_an (k:Op):(kw k==("and" : Str))=(match k with|.an=>true|_=>false):=by cases k<;>decide +kernel
theorem zgg (k:Op):(kw k==("or" : Str))=(match k with|.or=>true|_=>false):=by cases k<;>decide +kernel
theorem zec {n:Nat} (hn:21<=n) {ws:List W} {G:Hw} {Q:Q3} (h:dD ws G Q XN):zE (yI K sA n) XN jT { nx:=fun _ G'=>Q .non G',rt:=Q } (yB qX ws) G:=by
 obtain ⟨web,k,p,q,a,b,rfl,tw,h⟩:=h;obtain ⟨wo,hp,hq,la,lb⟩:=id tw;have e20:(yI K sA n).fn[20]?=some ⟨"truths_of_if", zbQ⟩:=qT 20 hn rfl;have i1:(yI K sA n).it[1]?=some eZpi:=rfl;have w12:=wo.few;show zE (yI K sA n) XN jT { nx:=fun _ G'=>Q .non G',rt:=Q } [some (.str (kw k)),some (xR web),some (.ref p),some (.ref q)] G;simp only [jT];refine yL ?_
 ((try dsimp only [zS,zQ,zM,zI,zB,yX,yW,zO,zT,zN,zU,zZ,zR,zP,zJ,zL,yY,zK,gZ,gS,tZ,tS]);try simp only [yT,yR,kw_an])
 cases k with
 |an =>
  simp only [if_true];refine yL ?_
  ((try dsimp only [zS,zQ,zM,zI,zB,yX,yW,zO,zT,zN,zU,zZ,zR,zP,zJ,zL,yY,zK,gZ,gS,tZ,tS]);try simp only [i1])
  refine zby (fun x y=>x&&y) hp hq (by omega) (by omega) (fun x y G' k hk=>?_) (fun G' r kp hr=>h r _ (kp.trans (zX.new hr)) (kp.none (by simp) hr) zY)
  ((try dsimp only [zS,zQ,zM,zI,zB,yX,yW,zO,zT,zN,zU,zZ,zR,zP,zJ,zL,yY,zK,gZ,gS,tZ,tS]);try simp only [jS,zzC,zzL,zzA,List.replicate,zzV,List.append_nil,if_true])
  cases x<;>first|exact hk G' rfl|(simp only [zzB,if_false,if_true];exact hk G' rfl)
 |or =>
  simp only [zzB,if_false];refine uC ?_;refine yL ?_
  ((try dsimp only [zS,zQ,zM,zI,zB,yX,yW,zO,zT,zN,zU,zZ,zR,zP,zJ,zL,yY,zK,gZ,gS,tZ,tS]);try simp only [yT,yR,zgg,if_true])
  refine yL ?_
  ((try dsimp only [zS,zQ,zM,zI,zB,yX,yW,zO,zT,zN,zU,zZ,zR,zP,zJ,zL,yY,zK,gZ,gS,tZ,tS]);try simp only [i1])
  refine zby (fun x y=>x || y) hp hq (by omega) (by omega) (fun x y G' k hk=>?_) (fun G' r kp hr=>h r _ (kp.trans (zX.new hr)) (kp.none (by simp) hr) zY)
  ((try dsimp only [zS,zQ,zM,zI,zB,yX,yW,zO,zT,zN,zU,zZ,zR,zP,zJ,zL,yY,zK,gZ,gS,tZ,tS]);try simp only [jS,zzC,zzL,zzA,List.replicate,zzV,List.append_nil,if_true])
  cases x<;>first|exact hk G' rfl|(simp only [zzB,if_false,if_true];exact hk G' rfl)
 |im =>
  simp only [zzB,if_false];refine uC ?_;refine yL ?_
  ((try dsimp only [zS,zQ,zM,zI,zB,yX,yW,zO,zT,zN,zU,zZ,zR,zP,zJ,zL,yY,zK,gZ,gS,tZ,tS]);try simp only [yT,yR,zgg,zzB,if_false])
  refine uC ?_;refine yL ?_
  ((try dsimp only [zS,zQ,zM,zI,zB,yX,yW,zO,zT,zN,zU,zZ,zR,zP,zJ,zL,yY,zK,gZ,gS,tZ,tS]);try simp only [e20])
  exact ⟨web,p,q,a,b,rfl,tw,h⟩
end
theorem zaC:∀ ns:List Str,wH (ns.map W.str)=true
 | []=>rfl
 |x::ns=>by simp [wH,uJ,zaC ns]
theorem zaX:∀ ns:List Str,jX (ns.map W.str)=0
 | []=>rfl
 |x::ns=>by simp [jX,dep,zaX ns]
theorem zg7 {ns:List Str} {x:Str}:((ns.map W.str).any fun w=>kQ w (.str x))=ns.contains x:=by
 rw [List.any_map,List.contains_eq_any_beq];congr 1
 funext y
 simp only [Function.comp,kQ];exact Bool.beq_comm
theorem inS {x:Str} {ns:List Str} {G:Hw} {Q:Q3} {neg:Bool} (h:Q (.bl (if neg then !ns.contains x else ns.contains x)) G):L3.inR neg (.str x) (ns.map .str) G Q:=by
 refine ⟨⟨by simp [uJ],zaC ns,by rw [zaX];simp⟩,?_⟩;rw [zg7];exact h
theorem suf:∀ (t:Sy) (i:Nat) (p:Sy),(pre t)[i]?=some p->∃ rest,(pre t).drop i=pre p++rest
 | .say x,0,p,h=>by simp [pre] at h;subst h;exact ⟨[],by simp [pre]⟩
 | .say x,i+1,p,h=>by simp [pre] at h
 | .neg a,0,p,h=>by simp [pre] at h;subst h;exact ⟨[],by simp [pre]⟩
 | .neg a,i+1,p,h=>by
  obtain ⟨r,e⟩:=suf a i p (by simpa [pre] using h);exact ⟨r,by simpa [pre] using e⟩
 | .two k a b,0,p,h=>by simp [pre] at h;subst h;exact ⟨[],by simp [pre]⟩
 | .two k a b,i+1,p,h=>by
  have h:(pre a++pre b)[i]?=some p:=by simpa [pre] using h
  by_cases hi:i<(pre a).length
  .rw [List.getElem?_append_left hi] at h;obtain ⟨r,e⟩:=suf a i p h;refine ⟨r++pre b,?_⟩;show (pre a++pre b).drop i=_;rw [List.drop_append_of_le_length (Nat.le_of_lt hi),e,List.append_assoc]
  .rw [List.getElem?_append_right (by omega)] at h;obtain ⟨r,e⟩:=suf b _ p h;refine ⟨r,?_⟩;show (pre a++pre b).drop i=_;rw [List.drop_append,List.drop_of_length_le (by omega),List.nil_append];exact e
theorem zcb (t:Sy):∃ r,pre t=t::r:=⟨_,tB t⟩
theorem dH {st:List Sy} {a:Sy} {r:List Sy} (h:xE st=pre a++r):∃ st',st=a::st'/\xE st'=r:=by
 obtain ⟨ra,ea⟩:=zcb a
 cases st with
 |nil=>rw [ea] at h;simp [xE] at h
 |cons s st' =>
  obtain ⟨rs,es⟩:=zcb s;have e:xE (s::st')=pre s++xE st':=by simp [xE]
  rw [e] at h
  have hs:s=a:=by
   rw [es,ea] at h;simpa using (List.cons.inj h).1
  subst hs;exact ⟨st',rfl,List.append_cancel_left h⟩
def dL (web:List Wd) (G0:Hw) (pf:Addr) (G:Hw):List Addr->List Sy->Prop
 | [],[]=>True
 |r::rs,s::st=>(r≠pf/\G0 r=none)/\G r=some (.lst (xS (tr web s)))/\dL web G0 pf G rs st
 |_,_=>False
theorem dL.keep {web:List Wd} {G0:Hw} {pf:Addr} {G G':Hw} (k:zX [pf] G G'):∀ {rs:List Addr} {st:List Sy},dL web G0 pf G rs st->dL web G0 pf G' rs st
 | [],[],_=>trivial
 |r::rs,s::st,⟨h1,h2,h3⟩=>⟨h1,k _ _ (by simpa using h1.1) h2,dL.keep k h3⟩
theorem dL.len {web:List Wd} {G0:Hw} {pf:Addr} {G:Hw}:∀ {rs:List Addr} {st:List Sy},dL web G0 pf G rs st->rs.length=st.length
 | [],[],_=>rfl
 |r::rs,s::st,⟨_,_,h⟩=>by rw [List.length_cons,List.length_cons,dL.len h]
def wI (rs:List Addr):List W:=rs.reverse.map .ref
theorem zaz (r:Addr) (rs:List Addr):wI (r::rs)=wI rs++[.ref r]:=by simp [wI]
theorem cV {G:Hw} {pf r:Addr} {rs:List Addr} {Q:Q3} (h:G pf=some (.lst (wI (r::rs)))) (q:Q (.ref r) (put G pf (.lst (wI rs)))):gY (.ref pf) [] G Q:=by
 rw [zaz] at h;simp only [gY,h];simp;exact q
section
variable {K : yN} {sA : Addr}
theorem za5 {n:Nat} (hn:22<=n) {ws:List W} {G:Hw} {Q:Q3} (h:vO ws G Q XN):zE (yI K sA n) XN kD { nx:=fun _ G'=>Q .non G',rt:=Q } (yB tY ws) G:=by
 obtain ⟨web,t,rfl,wo,ts,h⟩:=h;have e19:(yI K sA n).fn[19]?=some ⟨"all_parts", pO⟩:=qT 19 hn rfl;have e20:(yI K sA n).fn[20]?=some ⟨"truths_of_if", zbQ⟩:=qT 20 hn rfl;have e21:(yI K sA n).fn[21]?=some ⟨"joined_truths", dD⟩:=qT 21 hn rfl;have t0:(yI K sA n).mt[0]?=some ePop:=rfl;have t2:(yI K sA n).mt[2]?=some eApp:=rfl;have s1:(yI K sA n).sx[1]?=some ⟨rvM,rvS⟩:=rfl;have z0:=sz 0 (by decide);have w12:=wo.few;show zE (yI K sA n) XN kD { nx:=fun _ G'=>Q .non G',rt:=Q } [some (xR web),some t.w,none,none,none] G;simp only [kD];refine yL ?_
 ((try dsimp only [zS,zQ,zM,zI,zB,yX,yW,zO,zT,zN,zU,zZ,zR,zP,zJ,zL,yY,zK,gZ,gS,tZ,tS]);try simp only [List.length_nil,z0,true_and])
 intro pf hpf;have k1:zX [] G (put G pf (.lst [])):=zX.new hpf;have g1:(put G pf (.lst [])) pf=some (.lst []):=zY;generalize put G pf (.lst [])=G1 at k1 g1 ⊢;refine yL ?_
 ((try dsimp only [zS,zQ,zM,zI,zB,yX,yW,zO,zT,zN,zU,zZ,zR,zP,zJ,zL,yY,zK,gZ,gS,tZ,tS]);try simp only [s1,e19])
 refine ⟨t,rfl,ts,fun r2 G2 k2 hr2 gr2=>⟨_,zW gr2,fun pr hpr=>?_⟩⟩;have k3:zX [] G (put G2 pr (.lst ((pre t).map Sy.w).reverse)):=(k1.trans k2).trans (zX.new hpr);have g3:(put G2 pr (.lst ((pre t).map Sy.w).reverse)) pr=some (.lst ((pre t).map Sy.w).reverse):=zY;have gf3:=zX.new (S:=[]) (o:=.lst ((pre t).map Sy.w).reverse) hpr _ _ (by simp) (k2 _ _ (by simp) g1);have ne:pr≠pf:=fun e=>by rw [e,k2 _ _ (by simp) g1] at hpr;cases hpr
 have hprG:G pr=none:=(k1.trans k2).none (by simp) hpr;generalize put G2 pr (.lst ((pre t).map Sy.w).reverse)=G3 at k3 g3 gf3 ⊢;simp only [wS,zW g3];have len:((pre t).map Sy.w).reverse.length=t.size:=by rw [List.length_reverse,zzM,xQ]
 refine ⟨fun i σ G'=>∃ (rs:List Addr) (st:List Sy) (v3 v4:Option W),σ=[some (xR web),some t.w,some (.ref pf),v3,v4]/\G' pf=some (.lst (wI rs))/\dL web G pf G' rs st/\xE st=(pre t).drop (t.size-i)/\G' pr=some (.lst ((pre t).map Sy.w).reverse)/\zX [] G G',
  ⟨[],[],none,none,rfl,gf3,trivial,?_,g3,k3⟩,fun i σ G' z _=>by obtain ⟨_,_,_,_,_,_,_,_,z,_⟩:=z;exact zW z,?_,?_⟩
 .rw [Nat.sub_zero,← xQ,List.drop_length];rfl
 .rintro i w σ G' hw ⟨rs,st,v3,v4,rfl,gf,sk,hp,gr,kp⟩;have hi:=(List.getElem?_eq_some_iff.mp hw).1;rw [len] at hi;have hw':(pre t)[t.size-1-i]?=some ((pre t)[t.size-1-i]'(by rw [xQ];omega)):=List.getElem?_eq_getElem _;obtain ⟨p,ep⟩:∃ p,(pre t)[t.size-1-i]?=some p:=⟨_,hw'⟩
  have ew:w=p.w:=by
   rw [List.getElem?_reverse (by rw [zzM,xQ];exact hi),zzM,xQ,List.getElem?_map,ep] at hw;exact (Option.some.inj hw).symm
  subst ew;obtain ⟨rest,er⟩:=suf t _ p ep;have e1:t.size-1-i+1=t.size-i:=by omega
  have e2:(pre t).drop (t.size-1-i)=p::(pre t).drop (t.size-i):=by
   have hl:t.size-1-i<(pre t).length:=by rw [xQ];omega
   rw [List.drop_eq_getElem_cons hl,e1];congr 1;rw [List.getElem?_eq_getElem hl] at ep;exact Option.some.inj ep
  have e3:xE st=xE (xA p)++rest:=by
   rw [e2,← hp,tB] at er;exact (List.cons.inj er).2
  have e4:(pre t).drop (t.size-(i+1))=pre p++rest:=by rw [← er,show t.size-(i+1)=t.size-1-i by omega]
  have sl:st.length<=40:=by
   have h1:=tO st
   have h2:wO st<=t.size:=by
    unfold wO;rw [hp,List.length_drop,xQ];omega
   omega
  have fin:∀ (rs':List Addr) (st':List Sy) (G5:Hw) (r5:Addr) (v:Option W),G5 pf=some (.lst (wI rs'))->dL web G pf G5 rs' st'->st'.length<=40->xE st'=rest->G5 pr=some (.lst ((pre t).map Sy.w).reverse)->zX [] G G5->(r5≠pf/\G r5=none)->G5 r5=some (.lst (xS (tr web p))) ->
    pQ (.ref pf) [.ref r5] G5 (fun _ G6=>∃ (rs:List Addr) (st:List Sy) (v3 v4:Option W),[some (xR web),some t.w,some (.ref pf),some p.w,v]=[some (xR web),some t.w,some (.ref pf),v3,v4]/\G6 pf=some (.lst (wI rs))/\dL web G pf G6 rs st/\xE st=(pre t).drop (t.size-(i+1))/\G6 pr=some (.lst ((pre t).map Sy.w).reverse)/\zX [] G G6):=by
   intro rs' st' G5 r5 v gf5 sk5 sl5 hp5 gr5 k5 n5 g5;have hl:=sk5.len;refine appL gf5 (by simp only [wI,zzM,List.length_reverse];omega) ⟨r5::rs',p::st',_,_,rfl,?_,⟨n5,?_,sk5.keep (zX.put (by simp))⟩,?_,?_,jV k5 hpf⟩
   .rw [zY,zaz]
   .rw [yU n5.1];exact g5
   .rw [e4,← hp5];simp [xE]
   .rw [yU ne];exact gr5
  refine yL ?_
  cases p with
  |say x =>
   ((try dsimp only [zS,zQ,zM,zI,zB,yX,yW,zO,zT,zN,zU,zZ,zR,zP,zJ,zL,yY,zK,gZ,gS,tZ,tS]);try simp only [Sy.w,qM,qD,yT,yR,beq_self_eq_true,if_true])
   refine yL ?_
   ((try dsimp only [zS,zQ,zM,zI,zB,yX,yW,zO,zT,zN,zU,zZ,zR,zP,zJ,zL,yY,zK,gZ,gS,tZ,tS]);try simp only [t2])
   refine ⟨tyL gf,?_⟩
   ((try dsimp only [zS,zQ,zM,zI,zB,yX,yW,zO,zT,zN,zU,zZ,zR,zP,zJ,zL,yY,zK,gZ,gS,tZ,tS]);try simp only [xR,wS])
   refine vX (fun j=>some (.bl ((web.getD j ⟨[],[]⟩).ns.contains x))) (cK wo) (fun _ _=>trivial) (fun j u G4 k hu k4 hk=>?_) (fun G4 r4 k4 hr4=>?_)
   .rw [List.getElem?_map] at hu;obtain ⟨v,hv,rfl⟩:=Option.map_eq_some_iff.mp hu;rw [gD hv] at hk
    ((try dsimp only [zS,zQ,zM,zI,zB,yX,yW,zO,zT,zN,zU,zZ,zR,zP,zJ,zL,yY,zK,gZ,gS,tZ,tS]);try simp only [Wd.w,jS,zzC,zzL,zzA,Nat.reduceAdd,List.replicate,zzU,zzV,List.cons_append,List.nil_append,Option.join_some,if_true,Sy.w,qM,at_1,yT,vH])
    refine inS ?_;simp only [zzB,if_false];exact hk G4 k4
   .rw [zzM,jD,rX (fun v:Wd=>W.bl (v.ns.contains x)) ⟨[],[]⟩ web];have kk:zX [] G' (put G4 r4 (.lst (web.map fun v:Wd=>W.bl (v.ns.contains x)))):=k4.trans (zX.new hr4);have n4:r4≠pf/\G r4=none:=⟨fun e=>(by rw [e,k4 _ _ (by simp) gf] at hr4;cases hr4),(kp.trans k4).none (by simp) hr4⟩;refine fin rs st _ r4 v4 (kk _ _ (by simp) gf) (sk.keep (kk.mono (by simp))) sl (by simpa [xA,xE] using e3) (kk _ _ (by simp) gr) (kp.trans kk) n4 ?_;rw [zY];simp only [xS,tr,List.map_map];rfl
  |neg a =>
   have hne:(("not" : Str) == "say")=false:=by decide +kernel
   obtain ⟨st',rfl,hst⟩:=dH (by simpa [xA,xE] using e3:xE st=pre a++rest)
   cases rs with
   |nil=>exact sk.elim
   |cons r0 rs' =>
   obtain ⟨n0,g0,sk'⟩:=sk
   ((try dsimp only [zS,zQ,zM,zI,zB,yX,yW,zO,zT,zN,zU,zZ,zR,zP,zJ,zL,yY,zK,gZ,gS,tZ,tS]);try simp only [Sy.w,qM,qD,yT,yR,hne,zzB,if_false])
   refine yL ?_
   ((try dsimp only [zS,zQ,zM,zI,zB,yX,yW,zO,zT,zN,zU,zZ,zR,zP,zJ,zL,yY,zK,gZ,gS,tZ,tS]);try simp only [Sy.w,qM,qD,yT,yR,beq_self_eq_true,if_true])
   refine yL ?_
   ((try dsimp only [zS,zQ,zM,zI,zB,yX,yW,zO,zT,zN,zU,zZ,zR,zP,zJ,zL,yY,zK,gZ,gS,tZ,tS]);try simp only [t2,e20,t0])
   refine ⟨tyL gf,tyL gf,cV gf ?_⟩;have k5:=jV (o:=.lst (wI rs')) kp hpf;have gf5:(put G' pf (.lst (wI rs'))) pf=some (.lst (wI rs')):=zY;have sk5:=sk'.keep (G':=put G' pf (.lst (wI rs'))) (zX.put (by simp));have g05:(put G' pf (.lst (wI rs'))) r0=some (.lst (xS (tr web a))):=by rw [yU n0.1];exact g0
   have gr5:(put G' pf (.lst (wI rs'))) pr=some (.lst ((pre t).map Sy.w).reverse):=by rw [yU ne];exact gr
   generalize put G' pf (.lst (wI rs'))=G5 at k5 gf5 sk5 g05 gr5 ⊢
   ((try dsimp only [zS,zQ,zM,zI,zB,yX,yW,zO,zT,zN,zU,zZ,zR,zP,zJ,zL,yY,zK,gZ,gS,tZ,tS]);try simp only [xR,wS])
   refine vX (fun j=>some (.bl false)) (cK wo) (fun _ _=>trivial) (fun j u G4 k hu k4 hk=>?_) (fun G4 r4 k4 hr4=>?_)
   ·((try dsimp only [zS,zQ,zM,zI,zB,yX,yW,zO,zT,zN,zU,zZ,zR,zP,zJ,zL,yY,zK,gZ,gS,tZ,tS]);try simp only [if_true])
    exact hk G4 k4
   .have el:(List.range (web.map Wd.w).length).filterMap (fun _:Nat=>some (W.bl false))=xS (web.map fun _=>false):=by
     rw [jD (f:=fun _=>W.bl false),zzM];apply List.ext_getElem?;intro j
     by_cases hj:j<web.length
     .simp [xS,hj]
     .simp [xS,hj]
    rw [el];have kk:zX [] G5 (put G4 r4 (.lst (xS (web.map fun _=>false)))):=k4.trans (zX.new hr4);have g4:(put G4 r4 (.lst (xS (web.map fun _=>false)))) r4=some (.lst (xS (web.map fun _=>false))):=zY;generalize put G4 r4 (.lst (xS (web.map fun _=>false)))=G6 at kk g4 ⊢;refine ⟨web,r0,r4,tr web a,web.map fun _=>false,rfl,⟨wo,kk _ _ (by simp) g05,g4,xW web a,by simp⟩,fun r7 G7 k7 hr7 g7=>?_⟩;have kq:=kk.trans k7;have n7:r7≠pf/\G r7=none:=⟨fun e=>(by rw [e,kk _ _ (by simp) gf5] at hr7;cases hr7),(k5.trans kk).none (by simp) hr7⟩;exact fin rs' st' _ r7 v4 (kq _ _ (by simp) gf5) (sk5.keep (kq.mono (by simp))) (by simp at sl;omega) hst (kq _ _ (by simp) gr5) (k5.trans kq) n7 g7
  |two c a b =>
   obtain ⟨st1,rfl,hst1⟩:=dH (by simpa [xA,xE] using e3:xE st=pre a++(pre b++rest));obtain ⟨st',rfl,hst⟩:=dH hst1
   cases rs with
   |nil=>exact sk.elim
   |cons r0 rs1 =>
   obtain ⟨n0,g0,sk1⟩:=sk
   cases rs1 with
   |nil=>exact sk1.elim
   |cons r1 rs' =>
   obtain ⟨n1,g1',sk'⟩:=sk1
   ((try dsimp only [zS,zQ,zM,zI,zB,yX,yW,zO,zT,zN,zU,zZ,zR,zP,zJ,zL,yY,zK,gZ,gS,tZ,tS]);try simp only [Sy.w,qM,qD,yT,yR,(vD c).1,zzB,if_false])
   refine yL ?_
   ((try dsimp only [zS,zQ,zM,zI,zB,yX,yW,zO,zT,zN,zU,zZ,zR,zP,zJ,zL,yY,zK,gZ,gS,tZ,tS]);try simp only [Sy.w,qM,qD,yT,yR,(vD c).2,zzB,if_false])
   refine yL ?_
   ((try dsimp only [zS,zQ,zM,zI,zB,yX,yW,zO,zT,zN,zU,zZ,zR,zP,zJ,zL,yY,zK,gZ,gS,tZ,tS]);try simp only [t0])
   refine ⟨tyL gf,cV gf ?_⟩;have k5:=jV (o:=.lst (wI (r1::rs'))) kp hpf;have gf5:(put G' pf (.lst (wI (r1::rs')))) pf=some (.lst (wI (r1::rs'))):=zY;have sk5:=sk'.keep (G':=put G' pf (.lst (wI (r1::rs')))) (zX.put (by simp));have g05:(put G' pf (.lst (wI (r1::rs')))) r0=some (.lst (xS (tr web a))):=by rw [yU n0.1];exact g0
   have g15:(put G' pf (.lst (wI (r1::rs')))) r1=some (.lst (xS (tr web b))):=by rw [yU n1.1];exact g1'
   have gr5:(put G' pf (.lst (wI (r1::rs')))) pr=some (.lst ((pre t).map Sy.w).reverse):=by rw [yU ne];exact gr
   generalize put G' pf (.lst (wI (r1::rs')))=G5 at k5 gf5 sk5 g05 g15 gr5 ⊢;refine yL ?_
   ((try dsimp only [zS,zQ,zM,zI,zB,yX,yW,zO,zT,zN,zU,zZ,zR,zP,zJ,zL,yY,zK,gZ,gS,tZ,tS]);try simp only [t2,e21,t0,Sy.w,qM,qD])
   refine ⟨tyL gf5,tyL gf5,cV gf5 ?_⟩;have k6:=jV (o:=.lst (wI rs')) k5 hpf;have gf6:(put G5 pf (.lst (wI rs'))) pf=some (.lst (wI rs')):=zY;have sk6:=sk5.keep (G':=put G5 pf (.lst (wI rs'))) (zX.put (by simp));have g06:(put G5 pf (.lst (wI rs'))) r0=some (.lst (xS (tr web a))):=by rw [yU n0.1];exact g05
   have g16:(put G5 pf (.lst (wI rs'))) r1=some (.lst (xS (tr web b))):=by rw [yU n1.1];exact g15
   have gr6:(put G5 pf (.lst (wI rs'))) pr=some (.lst ((pre t).map Sy.w).reverse):=by rw [yU ne];exact gr5
   generalize put G5 pf (.lst (wI rs'))=G6 at k6 gf6 sk6 g06 g16 gr6 ⊢;refine ⟨web,c,r0,r1,tr web a,tr web b,rfl,⟨wo,g06,g16,xW web a,xW web b⟩,fun r7 G7 k7 hr7 g7=>?_⟩;have n7:r7≠pf/\G r7=none:=⟨fun e=>(by rw [e,gf6] at hr7;cases hr7),k6.none (by simp) hr7⟩;exact fin rs' st' _ r7 (some (.ref r0)) (k7 _ _ (by simp) gf6) (sk6.keep (k7.mono (by simp))) (by simp at sl;omega) hst (k7 _ _ (by simp) gr6) (k6.trans k7) n7 g7
 .rintro σ G' ⟨rs,st,v3,v4,rfl,gf,sk,hp,gr,kp⟩;rw [len,Nat.sub_self,List.drop_zero] at hp;obtain ⟨st',rfl,hst⟩:=dH (show xE st=pre t++[] by simpa using hp)
  have hst':st'=[]:=by
   cases st' with
   |nil=>rfl
   |cons s r =>
    obtain ⟨q,eq⟩:=zcb s;simp [xE,eq] at hst
  subst hst'
  cases rs with
  |nil=>exact sk.elim
  |cons r0 rs' =>
   obtain ⟨n0,g0,sk'⟩:=sk
   cases rs' with
   |cons _ _=>exact sk'.elim
   |nil =>
    refine yL ?_
    (try dsimp only [zS,zQ,zM,zI,zB,yX,yW,zO,zT,zN,zU,zZ,zR,zP,zJ,zL,yY,zK,gZ,gS,tZ,tS])
    refine bD (zW gf) ?_;show match sM [W.ref r0] 0 with|some w=>Q w G'|none=>False
    rw [qD];exact h r0 G' kp n0.2 g0
end
def rq (x:Str):List Nat:=39::(x.cps.toList++[39])
def rp:Sy->List Nat
 | .say x=>40::(rq "say" ++ 44::32::(rq x++[41]))
 | .neg a=>40::(rq "not" ++ 44::32::(rp a++[41]))
 | .two k a b=>40::(rq (kw k)++44::32::(rp a++44::32::(rp b++[41])))
theorem zax:∀ {a b:List Nat} {u v:List Nat},39∉a->39∉b->a++39::u=b++39::v->a=b/\u=v
 | [],[],u,v,_,_,h=>⟨rfl,by simpa using h⟩
 | [],y::b,u,v,_,hb,h=>by
  simp at h;exact absurd (by rw [← h.1];exact zzT) hb
 |x::a,[],u,v,ha,_,h=>by
  simp at h;exact absurd (by rw [h.1];exact zzT) ha
 |x::a,y::b,u,v,ha,hb,h=>by
  simp only [List.cons_append,List.cons.injEq] at h;obtain ⟨h1,h2⟩:=zax (fun z=>ha (List.mem_cons_of_mem _ z)) (fun z=>hb (List.mem_cons_of_mem _ z)) h.2;exact ⟨by rw [h.1,h1],h2⟩
theorem no39 {x:Str} (h:bF x=true):39∉x.cps.toList:=by
 unfold bF at h;simp only [Bool.and_eq_true] at h;intro hm;have:=List.all_eq_true.mp h.1.2 39 hm;revert this
 decide
theorem qI {x y:Str} {u v:List Nat} (hx:39∉x.cps.toList) (hy:39∉y.cps.toList) (h:rq x++u=rq y++v):x=y/\u=v:=by
 simp only [rq,List.cons_append,List.append_assoc,List.cons.injEq,true_and,List.nil_append] at h;obtain ⟨h1,h2⟩:=zax hx hy h;exact ⟨by obtain ⟨⟨a⟩⟩:=x;obtain ⟨⟨b⟩⟩:=y;simp at h1;rw [h1],h2⟩
theorem bE:39∉("say" : Str).cps.toList/\39∉("not" : Str).cps.toList/\∀ k,39∉(kw k).cps.toList:=⟨by decide +kernel,by decide +kernel,fun k=>by cases k<;>decide +kernel⟩
theorem fL:("say" : Str) ≠ "not" /\ (∀ k,("say" : Str)≠kw k)/\(∀ k,("not" : Str)≠kw k):=⟨by decide +kernel,fun k=>by cases k<;>decide +kernel,fun k=>by cases k<;>decide +kernel⟩
theorem zir {j k:Op} (h:kw j=kw k):j=k:=by
 cases j<;>cases k<;>first|rfl|(exfalso;revert h;decide +kernel)
theorem cW:∀ {t t':Sy} {u v:List Nat},t.ok->t'.ok->rp t++u=rp t'++v->t=t'/\u=v
 | .say x,.say y,u,v,hx,hy,h=>by
  simp only [rp,List.cons_append,List.append_assoc,List.cons.injEq,true_and] at h;obtain ⟨_,h2⟩:=qI bE.1 bE.1 h;simp only [List.cons_append,List.cons.injEq,true_and] at h2;obtain ⟨h3,h4⟩:=qI (no39 hx) (no39 hy) (by simpa only [List.append_assoc] using h2);simp at h4;exact ⟨by rw [h3],h4⟩
 | .neg a,.neg b,u,v,hx,hy,h=>by
  simp only [rp,List.cons_append,List.append_assoc,List.cons.injEq,true_and] at h;obtain ⟨_,h2⟩:=qI bE.2.1 bE.2.1 h;simp only [List.cons_append,List.cons.injEq,true_and,List.append_assoc] at h2;obtain ⟨h3,h4⟩:=cW (t:=a) (t':=b) hx hy h2;simp at h4;exact ⟨by rw [h3],h4⟩
 | .two j a b,.two k c d,u,v,hx,hy,h=>by
  simp only [rp,List.cons_append,List.append_assoc,List.cons.injEq,true_and] at h;obtain ⟨h1,h2⟩:=qI (bE.2.2 j) (bE.2.2 k) h;simp only [List.cons_append,List.cons.injEq,true_and,List.append_assoc] at h2;obtain ⟨h3,h4⟩:=cW (t:=a) (t':=c) hx.1 hy.1 h2;simp only [List.cons_append,List.cons.injEq,true_and,List.append_assoc] at h4;obtain ⟨h5,h6⟩:=cW (t:=b) (t':=d) hx.2 hy.2 h4;simp at h6;exact ⟨by rw [h3,h5,zir h1],h6⟩
 | .say x,.neg b,u,v,hx,hy,h=>by
  simp only [rp,List.cons_append,List.append_assoc,List.cons.injEq,true_and] at h;exact absurd (qI bE.1 bE.2.1 h).1 fL.1
 | .say x,.two k c d,u,v,hx,hy,h=>by
  simp only [rp,List.cons_append,List.append_assoc,List.cons.injEq,true_and] at h;exact absurd (qI bE.1 (bE.2.2 k) h).1 (fL.2.1 k)
 | .neg a,.say y,u,v,hx,hy,h=>by
  simp only [rp,List.cons_append,List.append_assoc,List.cons.injEq,true_and] at h;exact absurd (qI bE.2.1 bE.1 h).1 fL.1.symm
 | .neg a,.two k c d,u,v,hx,hy,h=>by
  simp only [rp,List.cons_append,List.append_assoc,List.cons.injEq,true_and] at h;exact absurd (qI bE.2.1 (bE.2.2 k) h).1 (fL.2.2 k)
 | .two j a b,.say y,u,v,hx,hy,h=>by
  simp only [rp,List.cons_append,List.append_assoc,List.cons.injEq,true_and] at h;exact absurd (qI (bE.2.2 j) bE.1 h).1 (fL.2.1 j).symm
 | .two j a b,.neg y,u,v,hx,hy,h=>by
  simp only [rp,List.cons_append,List.append_assoc,List.cons.injEq,true_and] at h;exact absurd (qI (bE.2.2 j) bE.2.1 h).1 (fL.2.2 j).symm
theorem cX:∀ {t:Sy},t.ok->(rp t).length<=20 * t.size
 | .say x,h=>by
  have:x.cps.toList.length<=6:=by
   have h:bF x=true:=h;unfold bF at h;simp only [Bool.and_eq_true,decide_eq_true_eq] at h;have:=h.1.1.1.2;rw [Array.length_toList];exact this
  have e:("say" : Str).cps.toList.length=3:=by decide +kernel
  simp only [rp,rq,Sy.size,List.length_cons,zzW,List.length_nil,e];omega
 | .neg a,h=>by
  have:=cX (t:=a) h;have e:("not" : Str).cps.toList.length=3:=by decide +kernel
  simp only [rp,rq,Sy.size,List.length_cons,zzW,List.length_nil,e];omega
 | .two k a b,h=>by
  have:=cX (t:=a) h.1;have:=cX (t:=b) h.2;have e:(kw k).cps.toList.length<=3:=by cases k<;>decide +kernel
  simp only [rp,rq,Sy.size,List.length_cons,zzW,List.length_nil];omega
theorem zhE (c:Nat) (h:ltB c=true):Builtin.Str.reprChar 39 c=[c]:=by
 have hc:c<123:=by
  unfold ltB at h;simp only [Bool.and_eq_true,decide_eq_true_eq] at h;omega
 have all:∀ c<123,ltB c=true->Builtin.Str.reprChar 39 c=[c]:=by decide +kernel
 exact all c hc h
theorem zaR:∀ (l:List Nat) (acc:Array Nat),l.all ltB=true->(l.foldl (fun out c=>out++(Builtin.Str.reprChar 39 c).toArray) acc).toList=acc.toList++l
 | [],acc,_=>by simp
 |c::r,acc,h=>by
  simp only [List.all_cons,Bool.and_eq_true] at h;rw [List.foldl_cons,zhE c h.1,zaR r _ h.2];simp
theorem cY {x:Str} (h:xO x=true):(reprText x).cps.toList=rq x:=by
 have hn:39∉x.cps.toList:=fun hm=>by
  have:=List.all_eq_true.mp h 39 hm;revert this
  decide
 have hq:reprQuote x=39:=by
  unfold reprQuote;rw [if_neg];intro z;simp only [Bool.and_eq_true] at z;exact hn (by simpa using z.1)
 unfold reprText;rw [hq,Array.toList_push,← Array.foldl_toList];show (x.cps.toList.foldl _ #[39]).toList++[39]=_;rw [zaR _ _ h];simp [rq]
theorem zie {x:Str} (h:bF x=true):xO x=true:=by
 unfold bF at h;simp only [Bool.and_eq_true] at h;exact h.1.2
theorem nm_a {x:Str} (h:bF x=true):x ≠ "aaaaaa" := by
 unfold bF at h;simp only [Bool.and_eq_true] at h;simpa using h.2
theorem cps2:("(" : Str).cps.toList=[40]/\(")" : Str).cps.toList=[41]/\(", " : Str).cps.toList=[44,32]:=⟨by decide +kernel,by decide +kernel,by decide +kernel⟩
theorem jJ (a b:Str):(a++b).cps.toList=a.cps.toList++b.cps.toList:=by rw [Str.cps_append,Array.toList_append]
theorem tt2 (a b:Str):(tupleText [a,b]).cps.toList=40::(a.cps.toList++44::32::(b.cps.toList++[41])):=by
 show (("(" : Str)++(a ++ ", " ++ b)++(")" : Str)).cps.toList=_;rw [jJ,jJ,jJ,jJ,cps2.1,cps2.2.1,cps2.2.2];simp
theorem tt3 (a b c:Str):(tupleText [a,b,c]).cps.toList=40::(a.cps.toList++44::32::(b.cps.toList++44::32::(c.cps.toList++[41]))):=by
 show (("(" : Str)++(a ++ ", " ++ (b ++ ", " ++ c))++(")" : Str)).cps.toList=_;rw [jJ,jJ,jJ,jJ,jJ,jJ,cps2.1,cps2.2.1,cps2.2.2];simp
theorem uW:∀ {t:Sy},t.ok->(rpr t.w).cps.toList=rp t
 | .say x,h=>by
  show (tupleText [reprText "say", reprText x]).cps.toList=_;rw [tt2,cY (by decide +kernel),cY (zie h)];rfl
 | .neg a,h=>by
  show (tupleText [reprText "not", rpr a.w]).cps.toList=_;rw [tt2,cY (by decide +kernel),uW (t:=a) h];rfl
 | .two k a b,h=>by
  show (tupleText [reprText (kw k),rpr a.w,rpr b.w]).cps.toList=_;rw [tt3,cY (by cases k<;>decide +kernel),uW (t:=a) h.1,uW (t:=b) h.2];rfl
theorem zfG {t t':Sy} (h:t.ok) (h':t'.ok) (e:rpr t.w=rpr t'.w):t=t':=by
 have:(rpr t.w).cps.toList++[]=(rpr t'.w).cps.toList++[]:=by rw [e]
 rw [uW h,uW h'] at this;exact (cW h h' this).1
theorem zdo:∀ t:Sy,tt t.w=true
 | .say _=>rfl
 | .neg a=>by simp [Sy.w,tt,tts,zdo a]
 | .two _ a b=>by simp [Sy.w,tt,tts,zdo a,zdo b]
theorem sG {t:Sy} {G:Hw} {Q:Q3} (h:t.ok) (hs:t.size<=40) (q:Q (.str (rpr t.w)) G):fU [t.w] G Q:=by
 have hl:(rpr t.w).length<=sizeLine:=by
  have h1:=cX h;rw [← uW h] at h1;rw [sizeLine_eq];show (rpr t.w).cps.size<=_;rw [← Array.length_toList];omega
 have hd:=t.dep;have ht:=zdo t
 cases t with
 |say x=>exact ⟨ht,by simp only [Sy.w,L3.dep] at hd;omega,hl,q⟩
 |neg a=>exact ⟨ht,by simp only [Sy.w,L3.dep] at hd;omega,hl,q⟩
 |two k a b=>exact ⟨ht,by simp only [Sy.w,L3.dep] at hd;omega,hl,q⟩
theorem tE:∀ l:List Nat,wH (yZ l)=true
 | []=>rfl
 |x::l=>by show (uJ (.int x)&&wH (yZ l))=true;rw [tE l];rfl
theorem zfa {G:Hw} {p q:Addr} {xs:List W} (hp:G p=some (.lst xs)) (hq:G q=some (.lst [])) (pu:wH xs=true):eqG G (.ref p) (.ref q)=some xs.isEmpty:=by
 simp only [eqG,zW hp,zW hq]
 have:(wH xs&&wH []&&decide (min (jX xs) (jX [])<=150))=true:=by
  rw [pu];simp [wH,jX]
 rw [if_pos this];cases xs<;>rfl
theorem ze8 {a b:List Bool} {j:Nat} (ha:j<a.length) (hb:j<b.length):(imp a b).getD j false=(b.getD j false || !a.getD j false):=by
 simp [imp,List.getD,List.getElem?_zipWith,ha,hb]
theorem zeM {web:List Wd} {h:List Bool} {k:Nat} {v:Wd} (hv:web[k]?=some v):(tif web h).getD k false=(k::v.ls).all fun j=>h.getD j false:=by
 have hk:=(List.getElem?_eq_some_iff.mp hv).1;simp [tif,List.getD,hk,zil hv]
theorem ze0 {web:List Wd} (wo:WOk web) {a:Sy} {k:Nat} {v:Wd} (hv:web[k]?=some v):(tr web (.neg a)).getD k false=((k::v.ls).filter fun j=>(tr web a).getD j false).isEmpty:=by
 have hk:=(List.getElem?_eq_some_iff.mp hv).1;have hl:=xW web a;show (tif web (imp (tr web a) (web.map fun _=>false))).getD k false=_;rw [zeM hv,Bool.eq_iff_iff,List.all_eq_true,List.isEmpty_iff,List.filter_eq_nil_iff];refine forall_congr' fun j=>imp_congr_right fun hj=>?_
 have hjw:j<web.length:=by
  rcases List.mem_cons.mp hj with rfl|hj
  .exact hk
  .exact wo.inw v (List.mem_of_getElem? hv) j hj
 rw [ze8 (by omega) (by simpa using hjw)];simp [List.getD,hjw]
theorem ziW {web:List Wd} (wo:WOk web) {a b:Sy} {k:Nat} {v:Wd} (hv:web[k]?=some v):(tr web (.two .im a b)).getD k false=((k::v.ls).filter fun j=>(tr web a).getD j false&&!(tr web b).getD j false).isEmpty:=by
 have hk:=(List.getElem?_eq_some_iff.mp hv).1;have hl:=xW web a;have hl':=xW web b;show (tif web (imp (tr web a) (tr web b))).getD k false=_;rw [zeM hv,Bool.eq_iff_iff,List.all_eq_true,List.isEmpty_iff,List.filter_eq_nil_iff];refine forall_congr' fun j=>imp_congr_right fun hj=>?_
 have hjw:j<web.length:=by
  rcases List.mem_cons.mp hj with rfl|hj
  .exact hk
  .exact wo.inw v (List.mem_of_getElem? hv) j hj
 rw [ze8 (by omega) (by omega)];cases (tr web a).getD j false<;>cases (tr web b).getD j false<;>simp
theorem zjg {web:List Wd} {a b:Sy} {k:Nat} (hk:k<web.length):(tr web (.two .an a b)).getD k false=((tr web a).getD k false&&(tr web b).getD k false):=by
 have hl:=xW web a;have hl':=xW web b;show (List.zipWith (fun x y=>x&&y) (tr web a) (tr web b)).getD k false=_;simp [List.getD,List.getElem?_zipWith,show k<(tr web a).length by omega,show k<(tr web b).length by omega]
theorem zh4 {web:List Wd} {a b:Sy} {k:Nat} (hk:k<web.length):(tr web (.two .or a b)).getD k false=((tr web a).getD k false || (tr web b).getD k false):=by
 have hl:=xW web a;have hl':=xW web b;show (List.zipWith (fun x y=>x || y) (tr web a) (tr web b)).getD k false=_;simp [List.getD,List.getElem?_zipWith,show k<(tr web a).length by omega,show k<(tr web b).length by omega]
theorem zeN {web:List Wd} {x:Str} {k:Nat} {v:Wd} (hv:web[k]?=some v):(tr web (.say x)).getD k false=v.ns.contains x:=by
 show (web.map fun v=>v.ns.contains x).getD k false=_;simp [List.getD,hv]
theorem zcT (f:Nat->Bool) (l:List Nat):(List.range l.length).filterMap (fun i=>if f (l.getD i 0)=true then some (W.int ((l.getD i 0:Nat):Int)) else none)=yZ (l.filter f):=by
 have e:(List.range l.length).filterMap (fun i=>if f (l.getD i 0)=true then some (W.int ((l.getD i 0:Nat):Int)) else none)=((List.range l.length).map fun i=>l.getD i 0).filterMap fun j=>if f j=true then some (W.int ((j:Nat):Int)) else none:=by
  rw [List.filterMap_map];rfl
 rw [e,rX (fun j=>j) 0 l,List.map_id']
 clear e
 induction l with
 |nil=>rfl
 |cons x l ih =>
  rw [List.filterMap_cons,List.filter_cons]
  by_cases h:f x=true
  .rw [if_pos h,if_pos h];simp only;rw [ih];rfl
  .rw [if_neg h,if_neg h];exact ih
theorem sJ.keep {web:List Wd} {d:Addr} {kvs:List (yO×W)} {G G':Hw} (k:zX [d] G G') (h:sJ web d kvs G):sJ web d kvs G':=fun q v e=>by
 obtain ⟨t,r,h1,h2,h3,h4,h5⟩:=h q v e;exact ⟨t,r,h1,h2,h3,h4,k _ _ (by simpa using h4) h5⟩
theorem zgw {kvs:List (yO×W)} {k:yO} (h:pR kvs k=true):∃ v,qE kvs k=some v:=by
 unfold pR at h;unfold qE;obtain ⟨p,hp,e⟩:=List.any_eq_true.mp h
 cases hf:kvs.find? fun kv=>decide (kv.1=k) with
 |none=>exact absurd e (by simpa using List.find?_eq_none.mp hf p hp)
 |some q=>exact ⟨q.2,rfl⟩
theorem zeq {α:Type} (p:α->Bool) (l:List α) (x:α):(l++[x]).find? p=(l.find? p).or (if p x=true then some x else none):=by
 rw [List.find?_append];congr 1;cases h:p x<;>simp [h]
theorem zi6 {k q:yO} {v:W} (h:q≠k):∀ kvs:List (yO×W),qE (kvs.map fun kv=>if kv.1=k then (kv.1,v) else kv) q=qE kvs q
 | []=>rfl
 |x::r=>by
  have ih:=zi6 (v:=v) h r;unfold qE at ih ⊢;rw [zzU,List.find?_cons,List.find?_cons]
  by_cases hx:x.1=k
  .rw [if_pos hx];have n2:decide (x.1=q)=false:=decide_eq_false fun z=>h (z▸hx);simp only [n2];exact ih
  .rw [if_neg hx]
   cases decide (x.1=q) with
   |true=>rfl
   |false=>exact ih
theorem zi7 {k:yO} {v:W}:∀ kvs:List (yO×W),(kvs.any fun kv=>decide (kv.1=k))=true->qE (kvs.map fun kv=>if kv.1=k then (kv.1,v) else kv) k=some v
 | [],h=>by cases h
 |x::r,h=>by
  have ih:=zi7 (k:=k) (v:=v) r;unfold qE at ih ⊢;rw [zzU,List.find?_cons]
  by_cases hx:x.1=k
  .rw [if_pos hx];simp only [decide_eq_true hx];rfl
  .rw [if_neg hx];rw [List.any_cons,decide_eq_false hx,Bool.false_or] at h;simp only [decide_eq_false hx];exact ih h
theorem mK {kvs:List (yO×W)} {k q:yO} {v:W}:qE (jG kvs k v) q=if q=k then some v else qE kvs q:=by
 unfold jG
 split
 .rename_i h
  by_cases hq:q=k
  .subst hq;rw [if_pos rfl,zi7 _ h]
  .rw [if_neg hq,zi6 hq]
 .rename_i h;unfold qE;rw [zeq]
  by_cases e:q=k
  .subst e
   have:kvs.find? (fun kv=>decide (kv.1=q))=none:=by
    rw [List.find?_eq_none];intro x hx z;exact h (List.any_eq_true.mpr ⟨x,hx,z⟩)
   rw [this,if_pos rfl];simp
  .rw [if_neg e,if_neg (by simpa using fun z=>e z.symm)];simp
theorem zaV (kvs:List (yO×W)) (k:yO) (v:W):(jG kvs k v).length<=kvs.length+1:=by
 unfold jG
 split
 .rw [zzM];omega
 .rw [zzW];simp
theorem sJ.new {web:List Wd} {d r:Addr} {kvs:List (yO×W)} {G:Hw} {t:Sy} (h:sJ web d kvs G) (ho:t.ok) (hr:r≠d) (g:G r=some (.lst (xS (tr web t)))):sJ web d (jG kvs (.inr (rpr t.w)) (.ref r)) G:=fun q v e=>by
 rw [mK] at e
 split at e
 .rename_i hq;cases e;exact ⟨t,r,ho,hq,rfl,hr,g⟩
 .exact h q v e
theorem dL.snoc {web:List Wd} {G0:Hw} {pf:Addr} {G:Hw} {r:Addr} {s:Sy} (h1:r≠pf/\G0 r=none) (h2:G r=some (.lst (xS (tr web s)))):∀ {rs:List Addr} {st:List Sy},dL web G0 pf G rs st->dL web G0 pf G (rs++[r]) (st++[s])
 | [],[],_=>⟨h1,h2,trivial⟩
 |_::rs,_::st,⟨a,b,c⟩=>⟨a,b,dL.snoc h1 h2 c⟩
abbrev N0:Hw:=fun _=>none
theorem zf8 (t:Sy):∃ (x:Str) (r:List W),t.w=.tup (.str x::r)/\((x==("say" : Str))=true↔xA t=[])/\(xA t≠[]->r=(xA t).map Sy.w):=by
 cases t with
 |say x=>exact ⟨"say", _,rfl,by simp [xA],fun h=>absurd rfl h⟩
 |neg a=>exact ⟨"not", _,rfl,by rw [show (("not" : Str) == "say")=false by decide +kernel];simp [xA],fun _=>rfl⟩
 |two k a b=>exact ⟨kw k,_,rfl,by rw [(vD k).1];simp [xA],fun _=>rfl⟩
theorem zis {t s:Sy} (h:s∈xA t):(t.ok->s.ok)/\s.deep<t.deep/\s.size<t.size:=by
 cases t with
 |say x=>cases h
 |neg a =>
  rw [zzO h];exact ⟨id,by simp [Sy.deep],by simp [Sy.size]⟩
 |two k a b =>
  rcases List.mem_cons.mp h with rfl|h
  .exact ⟨fun z=>z.1,by simp only [Sy.deep];omega,by simp only [Sy.size];omega⟩
  .rw [zzO h];exact ⟨fun z=>z.2,by simp only [Sy.deep];omega,by simp only [Sy.size];omega⟩
section
variable {K : yN} {sA : Addr}
abbrev GB (K:yN) (sA:Addr) (n:Nat):Ctx3:=uK K sA 16 ⟨"_law_borne", uX n⟩
theorem zao {n:Nat} {web:List Wd} {t:Sy} {d:Addr} {kvs:List (yO×W)} {G:Hw} {Q:Q3} (wo:WOk web) (ho:t.ok) (hd:t.deep<n+1) (hs:t.size<=40) (gd:G d=some (.dic kvs)) (hl:kvs.length+t.size<=3000) (kn:sJ web d kvs G)
  (h:∀ r G' kvs' rs,zX [d] G G'->r≠d->G' r=some (.lst (rs.map .ref))->dL web N0 d G' rs (xA t)->r∉rs->G' d=some (.dic kvs')->kvs'.length+1<=kvs.length+t.size->sJ web d kvs' G'->Q (.ref r) G') :
  ∀ (items:List W),(∃ x r,t.w=.tup (.str x::r)/\items=r)->lcR items (fun _=>True) G (fun w G' k=>zU (.nm 0) w (jS 1 [0,2,1] [some (xR web),some t.w,some (.ref d),none,none,none,none]) G' fun σ2 G2 =>
   zP (GB K sA n) (.yes (.cmp .NotEq (.ix (.var 3) (.con (.int 0))) (.con (.str "say")))) σ2 G2 fun b G3=>if b=true then (zI (GB K sA n) XN (.call 16 (.cons (.var 1) (.cons (.var 0) (.cons (.var 2) .nil))))).e σ2 G3 fun x G4=>k (some x) G4 else k none G3) Q:=by
 rintro items ⟨x,r,ew,rfl⟩;have e16:(GB K sA n).fn[16]?=some ⟨"_law_borne", uX n⟩:=rfl;obtain ⟨x',r',ew',h1,h2⟩:=zf8 t;rw [ew] at ew';cases ew';have skid:=gH t
 by_cases hk:xA t=[]
 .have hx:=h1.mpr hk
  have len1:items.length<=2:=by
   cases t<;>simp [Sy.w] at ew
   .rw [← ew.2];simp
   .rw [← ew.2];simp
   .rw [← ew.2];simp
  refine ⟨fun i acc G'=>G'=G/\acc=[],⟨rfl,rfl⟩,?_,sz _ (by omega),?_,?_⟩
  .rintro i acc G' ⟨rfl,rfl⟩ _;exact ⟨trivial,Nat.zero_le _⟩
  .rintro i w acc G' hw ⟨rfl,rfl⟩;rw [ew];simp only [jS,List.replicate,zzU,zzV,List.cons_append,List.nil_append,gZ,gS,Option.join_some]
   ((try dsimp only [zS,zQ,zM,zI,zB,yX,yW,zO,zT,zN,zU,zZ,zR,zP,zJ,zL,yY,zK,gZ,gS,tZ,tS]);try simp only [qM,qD,yT,yR,hx,Bool.not_true,zzB,if_false])
   exact ⟨trivial,trivial⟩
  .rintro acc G' ⟨rfl,rfl⟩ p hp;refine h p _ kvs [] (zX.new hp) (fun e=>by rw [e,gd] at hp;cases hp) zY ?_ (by simp) ?_ (by have:=t.pos;omega) (kn.keep (zX.new hp))
   .rw [hk];trivial
   .rw [yU (rB gd hp)];exact gd
 .have hx:(x==("say" : Str))=false:=by
   cases e:(x==("say" : Str)) with
   |false=>rfl
   |true=>exact absurd (h1.mp e) hk
  have er:=h2 hk;subst er;have klen:(xA t).length<=2:=by cases t<;>simp [xA]
  refine ⟨fun i acc G'=>∃ rs kvs',acc=rs.map .ref/\rs.length=i/\dL web N0 d G' rs ((xA t).take i)/\zX [d] G G'/\G' d=some (.dic kvs')/\kvs'.length<=kvs.length+wO ((xA t).take i)/\sJ web d kvs' G',
   ⟨[],kvs,rfl,rfl,trivial,zX.refl,gd,by simp,kn⟩,?_,sz _ (by rw [zzM];omega),?_,?_⟩
  .rintro i acc G' ⟨rs,kvs',rfl,rfl,_⟩ _;exact ⟨trivial,by simp⟩
  .rintro i w acc G' hw ⟨rs,kvs',rfl,hi,sk,kp,gd',hl',kn'⟩;rw [List.getElem?_map] at hw;obtain ⟨s,hs',rfl⟩:=Option.map_eq_some_iff.mp hw;obtain ⟨ko,kd,ks⟩:=zis (List.mem_of_getElem? hs');have hik:=(List.getElem?_eq_some_iff.mp hs').1;have es:(xA t)[i]=s:=(List.getElem?_eq_some_iff.mp hs').2;have et:(xA t).take (i+1)=(xA t).take i++[s]:=by rw [List.take_succ_eq_append_getElem hik,es]
   have hsz:wO ((xA t).take i)+s.size<=wO (xA t):=by
    have h0:wO (xA t)=wO ((xA t).take (i+1))+wO ((xA t).drop (i+1)):=by rw [← qB,List.take_append_drop]
    rw [h0,et,qB,show wO [s]=s.size by simp [wO,xE,xQ]];omega
   have e0:t.w=.tup (.str x::(xA t).map Sy.w):=ew;rw [e0];simp only [jS,List.replicate,zzU,zzV,List.cons_append,List.nil_append,gZ,gS,Option.join_some]
   ((try dsimp only [zS,zQ,zM,zI,zB,yX,yW,zO,zT,zN,zU,zZ,zR,zP,zJ,zL,yY,zK,gZ,gS,tZ,tS]);try simp only [qM,qD,yT,yR,hx,Bool.not_false,if_true,e16])
   refine ⟨web,s,d,kvs',rfl,wo,ko ho,by omega,by omega,gd',by omega,kn',fun r G'' kvs'' k2 hr gr gd2 hl2 kn2=>?_⟩;refine ⟨rs++[r],kvs'',by simp,by simp [hi],?_,kp.trans k2,gd2,?_,kn2⟩
   .rw [et];exact (sk.keep k2).snoc ⟨hr,rfl⟩ gr
   .rw [et,qB,show wO [s]=s.size by simp [wO,xE,xQ]];omega
  .rintro acc G' ⟨rs,kvs',rfl,hi,sk,kp,gd',hl',kn'⟩ p hp;rw [zzM] at hi sk hl';rw [List.take_length] at sk hl';have kq:zX [d] G' (put G' p (.lst (rs.map .ref))):=zX.new hp
   have mem:∀ {rs:List Addr} {st:List Sy},dL web N0 d G' rs st->p∉rs:=by
    intro rs
    induction rs with
    |nil=>intro st _ z;cases z
    |cons r rs ih =>
     intro st hst
     cases st with
     |nil=>exact hst.elim
     |cons s st =>
      obtain ⟨_,g,hst⟩:=hst;intro z;rcases List.mem_cons.mp z with e|z
      .rw [e,g] at hp;cases hp
      .exact ih hst z
   refine h p _ kvs' rs (kp.trans kq) (fun e=>by rw [e,gd'] at hp;cases hp) zY (sk.keep kq) (mem sk) ?_ (by omega) (kn'.keep kq);rw [yU (rB gd' hp)];exact gd'
end
theorem zhb {web:List Wd} {k:Nat} {v:Wd} {G:Hw} {Q:Q3} (h:web[k]?=some v) (q:Q v.w G):qM (xR web) (.int (k:Nat)) G Q:=by
 simp only [qM,xR];rw [atN (w:=v.w) (by rw [List.getElem?_map,h];rfl)];exact q
theorem sP {l:List Bool} {G:Hw} {r:Addr} {k:Nat} {Q:Q3} (h:G r=some (.lst (xS l))) (hk:k<l.length) (q:Q (.bl (l.getD k false)) G):qM (.ref r) (.int (k:Nat)) G Q:=by
 refine bD (zW h) ?_;rw [atB hk];exact q
theorem zd7 {G:Hw} {web:List Wd}:vE G (xR web)=some web.length:=by simp [xR,vE]
theorem ix0 {a:W} {l:List W} {G:Hw} {Q:Q3}:qM (.tup (a::l)) (.int 0) G Q=Q a G:=by simp only [qM,qD]
theorem ix1 {a b:W} {l:List W} {G:Hw} {Q:Q3}:qM (.tup (a::b::l)) (.int 1) G Q=Q b G:=by simp only [qM,at_1]
def hdS:ISs->IS
 | .cons s _=>s
 | .nil=>.pass
def ifA:IS->ISs
 | .ite _ a _=>a
 |_=>.nil
theorem zcM {G:Hw} {ph:Addr} {js:List Nat} {turn:W->Hw->(Option W->Hw->Prop)->Prop} {Q:Q3} (f:Nat->Bool) (hp:G ph=some (.lst (yZ js))) (hl:js.length<=100)
  (step:∀ m G' (k:Option W->Hw->Prop),m∈js->zX [] G G'->(k (if f m=true then some (.int (m:Nat)) else none) G')->turn (.int (m:Nat)) G' k)
  (fin:∀ G' r,zX [] G G'->G' r=none->Q (.ref r) (put G' r (.lst (yZ (js.filter f))))):wS (.ref ph) G fun items stab G1=>lcR items stab G1 turn Q:=by
 simp only [wS,zW hp];have len:(yZ js).length=js.length:=by simp [yZ]
 refine vX (fun i=>if f (js.getD i 0)=true then some (.int ((js.getD i 0:Nat):Int)) else none) (by rw [len];omega) (fun G' k=>zW (k _ _ (by simp) hp)) (fun i w G' k hw kp hk=>?_) (fun G' r kp hr=>?_)
 .simp only [yZ,List.getElem?_map] at hw;obtain ⟨m,hm,rfl⟩:=Option.map_eq_some_iff.mp hw;rw [gD hm] at hk;exact step m G' k (List.mem_of_getElem? hm) kp (hk G' kp)
 .rw [len,zcT];exact fin G' r kp hr
section
variable {K : yN} {sA : Addr}
theorem zbs {n:Nat} {web:List Wd} {t:Sy} {d pp pf:Addr} {rs:List Addr} {G1:Hw} (wo:WOk web) (npp:pf≠pp) (nrs:pf∉rs) (gpp:G1 pp=some (.lst (rs.map .ref))) (sk:dL web N0 d G1 rs (xA t)) (gpf:G1 pf=some (.lst []))
  (D:End3) (hD:∀ (G':Hw) (v5 v6:Option W),zX [pf] G1 G'->G' pf=some (.lst (xS (tr web t)))->D.nx [some (xR web),some t.w,some (.ref d),some (.ref pp),some (.ref pf),v5,v6] G') :
  zS (GB K sA n) XN (hdS (tl (tl (ifA (hdS jY))))) D [some (xR web),some t.w,some (.ref d),some (.ref pp),some (.ref pf),none,none] G1:=by
 have e1:(GB K sA n).fn[1]?=some mL:=rfl;have e3:(GB K sA n).fn[3]?=some eLst:=rfl;have e7:(GB K sA n).fn[7]?=some eInt:=rfl;have i0:(GB K sA n).it[0]?=some cC:=rfl;have t2:(GB K sA n).mt[2]?=some eApp:=rfl;have z0:=sz 0 (by decide);have z1:=sz 1 (by decide);have z2:=sz 2 (by decide);have w12:=wo.few;have tl0:=xW web t;simp only [jY,hdS,tl,ifA]
 ((try dsimp only [zS,zQ,zM,zI,zB,yX,yW,zO,zT,zN,zU,zZ,zR,zP,zJ,zL,yY,zK,gZ,gS,tZ,tS]);try simp only [e1,uM,zd7,i0])
 refine ⟨⟨by omega,by omega⟩,?_⟩;have len:((List.range ((web.length:Nat):Int).toNat).map fun i:Nat=>W.int (i:Int)).length=web.length:=by simp
 refine ⟨fun i σ G'=>∃ v5 v6:Option W,σ=[some (xR web),some t.w,some (.ref d),some (.ref pp),some (.ref pf),v5,v6]/\zX [pf] G1 G'/\G' pf=some (.lst (xS ((tr web t).take i))),
  ⟨none,none,rfl,zX.refl,by simpa [xS] using gpf⟩,fun _ _ _ _ _=>trivial,?_,?_⟩
 .rintro i w σ G' hw ⟨v5,v6,rfl,kp,gf⟩;have hi:i<web.length:=by have:=(List.getElem?_eq_some_iff.mp hw).1;rwa [len] at this
  have ew:w=.int (i:Nat):=by
   simp [hi] at hw;exact hw.symm
  subst ew;obtain ⟨v,hv⟩:∃ v,web[i]?=some v:=⟨web[i],List.getElem?_eq_getElem hi⟩;have vm:=List.mem_of_getElem? hv;have ll:=wo.ll v vm;refine yL ?_
  ((try dsimp only [zS,zQ,zM,zI,zB,yX,yW,zO,zT,zN,zU,zZ,zR,zP,zJ,zL,yY,zK,gZ,gS,tZ,tS]);try simp only [zzC,zzL,zzA,z1,true_and])
  intro p1 hp1;have k1:zX [] G' (put G' p1 (.lst [.int (i:Nat)])):=zX.new hp1;have g1:(put G' p1 (.lst [.int (i:Nat)])) p1=some (.lst [.int (i:Nat)]):=zY;generalize put G' p1 (.lst [.int (i:Nat)])=G2 at k1 g1 ⊢;refine zhb hv ?_;simp only [Wd.w,ix1,e3,lstS,xZ];intro p2 hp2;have k2:zX [] G2 (put G2 p2 (.lst (yZ v.ls))):=zX.new hp2;have g2:(put G2 p2 (.lst (yZ v.ls))) p2=some (.lst (yZ v.ls)):=zY;have g1:=k2 _ _ (by simp) g1;have k2:=k1.trans k2;generalize put G2 p2 (.lst (yZ v.ls))=G3 at k2 g1 g2 ⊢;refine addL g1 g2 (by simp only [yZ,List.length_cons,List.length_nil,zzM];omega) fun ph hph=>?_;have k3:zX [] G' (put G3 ph (.lst (yZ (i::v.ls)))):=k2.trans (zX.new hph);have g3:(put G3 ph (.lst (yZ (i::v.ls)))) ph=some (.lst (yZ (i::v.ls))):=zY;show zE (GB K sA n) XN _ _ _ (put G3 ph (.lst (yZ (i::v.ls))));generalize put G3 ph (.lst (yZ (i::v.ls)))=G4 at k3 g3 ⊢;have kp4:zX [pf] G1 G4:=kp.trans (mV k3);have gf4:=k3 _ _ (by simp) gf;have gpp4:=kp4 _ _ (by simpa using Ne.symm npp) gpp
  have jw:∀ m∈i::v.ls,m<web.length:=fun m hm=>by
   rcases List.mem_cons.mp hm with rfl|hm
   .exact hi
   .exact wo.inw v vm m hm
  have app:∀ (b:Bool) (G5:Hw),b=(tr web t).getD i false->zX [] G4 G5->pQ (.ref pf) [.bl b] G5 (fun _ G6=>∃ v5 v6:Option W,[some (xR web),some t.w,some (.ref d),some (.ref pp),some (.ref pf),some (W.int (i:Nat)),some (.ref ph)]=[some (xR web),some t.w,some (.ref d),some (.ref pp),some (.ref pf),v5,v6]/\zX [pf] G1 G6/\G6 pf=some (.lst (xS ((tr web t).take (i+1))))):=by
   intro b G5 eb k5;refine appL (k5 _ _ (by simp) gf4) (by simp [xS];omega) ⟨_,_,rfl,(kp4.trans (mV k5)).trans (zX.put (by simp)),?_⟩;have hit:i<(tr web t).length:=by omega
   rw [zY,List.take_succ_eq_append_getElem hit];have e:(tr web t).getD i false=(tr web t)[i]:=by simp [List.getD,hit]
   rw [eb,e];simp only [xS,List.map_append,zzU,zzV]
  refine yL ?_
  cases t with
  |say x =>
   ((try dsimp only [zS,zQ,zM,zI,zB,yX,yW,zO,zT,zN,zU,zZ,zR,zP,zJ,zL,yY,zK,gZ,gS,tZ,tS]);try simp only [Sy.w,ix0,yT,yR,beq_self_eq_true,if_true])
   refine yL ?_
   ((try dsimp only [zS,zQ,zM,zI,zB,yX,yW,zO,zT,zN,zU,zZ,zR,zP,zJ,zL,yY,zK,gZ,gS,tZ,tS]);try simp only [t2])
   refine ⟨tyL gf4,?_⟩
   ((try dsimp only [zS,zQ,zM,zI,zB,yX,yW,zO,zT,zN,zU,zZ,zR,zP,zJ,zL,yY,zK,gZ,gS,tZ,tS]);try simp only [Sy.w,ix1])
   refine zhb hv ?_;simp only [Wd.w,ix0,yT,vH];refine inS ?_;simp only [zzB,if_false];exact app _ G4 (zeN hv).symm zX.refl
  |neg a =>
   have hne:(("not" : Str) == "say")=false:=by decide +kernel
   cases rs with
   |nil=>exact sk.elim
   |cons r0 rs' =>
   obtain ⟨_,g0,sk'⟩:=sk
   cases rs' with
   |cons _ _=>exact sk'.elim
   |nil =>
   have g04:=kp4 _ _ (by simp at nrs;simpa using Ne.symm nrs) g0
   ((try dsimp only [zS,zQ,zM,zI,zB,yX,yW,zO,zT,zN,zU,zZ,zR,zP,zJ,zL,yY,zK,gZ,gS,tZ,tS]);try simp only [Sy.w,ix0,yT,yR,hne,zzB,if_false])
   refine yL ?_
   ((try dsimp only [zS,zQ,zM,zI,zB,yX,yW,zO,zT,zN,zU,zZ,zR,zP,zJ,zL,yY,zK,gZ,gS,tZ,tS]);try simp only [Sy.w,ix0,yT,yR,beq_self_eq_true,if_true])
   refine yL ?_
   ((try dsimp only [zS,zQ,zM,zI,zB,yX,yW,zO,zT,zN,zU,zZ,zR,zP,zJ,zL,yY,zK,gZ,gS,tZ,tS]);try simp only [t2])
   refine ⟨tyL gf4,?_⟩;refine zcM (fun j=>(tr web a).getD j false) g3 (by simp;omega) (fun m G5 k hm k5 hk=>?_) (fun G5 r5 k5 hr5=>?_)
   .simp only [jS,List.replicate,zzU,zzV,List.cons_append,List.nil_append,gZ,gS,Option.join_some,List.length_cons,List.length_nil]
    (try dsimp only [zS,zQ,zM,zI,zB,yX,yW,zO,zT,zN,zU,zZ,zR,zP,zJ,zL,yY,zK,gZ,gS,tZ,tS])
    refine bD (zW (k5 _ _ (by simp) gpp4)) ?_;rw [zzU,qD];refine sP (k5 _ _ (by simp) g04) (by rw [xW];exact jw m hm) ?_;simp only [uD]
    cases hb:(tr web a).getD m false with
    |true=>rw [hb,if_pos rfl] at hk;exact hk
    |false=>rw [hb,if_neg zzN] at hk;exact hk
   .refine ⟨z0,fun p6 hp6=>?_⟩;have k6:zX [] G5 (put G5 r5 (.lst (yZ ((i::v.ls).filter fun j=>(tr web a).getD j false)))):=zX.new hr5;have g5:(put G5 r5 (.lst (yZ ((i::v.ls).filter fun j=>(tr web a).getD j false)))) r5=some (.lst (yZ ((i::v.ls).filter fun j=>(tr web a).getD j false))):=zY;generalize put G5 r5 (.lst (yZ ((i::v.ls).filter fun j=>(tr web a).getD j false)))=G6 at k6 g5 hp6 ⊢;have k7:zX [] G6 (put G6 p6 (.lst [])):=zX.new hp6;have g6:(put G6 p6 (.lst [])) p6=some (.lst []):=zY;have g5:=k7 _ _ (by simp) g5;generalize put G6 p6 (.lst [])=G7 at k7 g6 g5 ⊢;simp only [yT,zfa g5 g6 (tE _)];exact app _ G7 (by rw [ze0 wo hv];simp [yZ]) ((k5.trans k6).trans k7)
  |two c a b =>
   cases rs with
   |nil=>exact sk.elim
   |cons r0 rs1 =>
   obtain ⟨_,g0,sk1⟩:=sk
   cases rs1 with
   |nil=>exact sk1.elim
   |cons r1 rs' =>
   obtain ⟨_,g1',sk'⟩:=sk1
   cases rs' with
   |cons _ _=>exact sk'.elim
   |nil =>
   simp only [List.mem_cons,List.not_mem_nil,or_false,not_or] at nrs;have g04:=kp4 _ _ (by simpa using Ne.symm nrs.1) g0;have g14:=kp4 _ _ (by simpa using Ne.symm nrs.2) g1';have la:(tr web a).length=web.length:=xW web a;have lb:(tr web b).length=web.length:=xW web b
   ((try dsimp only [zS,zQ,zM,zI,zB,yX,yW,zO,zT,zN,zU,zZ,zR,zP,zJ,zL,yY,zK,gZ,gS,tZ,tS]);try simp only [Sy.w,ix0,yT,yR,(vD c).1,zzB,if_false])
   refine yL ?_
   ((try dsimp only [zS,zQ,zM,zI,zB,yX,yW,zO,zT,zN,zU,zZ,zR,zP,zJ,zL,yY,zK,gZ,gS,tZ,tS]);try simp only [Sy.w,ix0,yT,yR,(vD c).2,zzB,if_false])
   refine yL ?_
   have p0:∀ {G5:Hw} {Q:Q3},zX [] G4 G5->Q (.ref r0) G5->qM (.ref pp) (.int 0) G5 Q:=fun {G5 Q} k5 q=>by
    refine bD (zW (k5 _ _ (by simp) gpp4)) ?_;rw [zzU,qD];exact q
   have p1':∀ {G5:Hw} {Q:Q3},zX [] G4 G5->Q (.ref r1) G5->qM (.ref pp) (.int 1) G5 Q:=fun {G5 Q} k5 q=>by
    refine bD (zW (k5 _ _ (by simp) gpp4)) ?_;rw [zzU,zzU,at_1];exact q
   ((try dsimp only [zS,zQ,zM,zI,zB,yX,yW,zO,zT,zN,zU,zZ,zR,zP,zJ,zL,yY,zK,gZ,gS,tZ,tS]);try simp only [Sy.w,ix0,yT,yR])
   have rest:c≠.im->∀ Df:End3,(∀ σ G',(∃ v5 v6:Option W,σ=[some (xR web),some (Sy.two c a b).w,some (.ref d),some (.ref pp),some (.ref pf),v5,v6]/\zX [pf] G1 G'/\G' pf=some (.lst (xS ((tr web (.two c a b)).take (i+1)))))->Df.nx σ G') ->
     zE (GB K sA n) XN (.cons (.ex (.mth 2 (.var 4) (.cons (.ix (.lst (.cons (.and (.ix (.ix (.var 3) (.con (.int 0))) (.var 5)) (.ix (.ix (.var 3) (.con (.int 1))) (.var 5))) (.cons (.or (.ix (.ix (.var 3) (.con (.int 0))) (.var 5)) (.ix (.ix (.var 3) (.con (.int 1))) (.var 5))) .nil))) (.call 7 (.cons (.cmp .Eq (.ix (.var 1) (.con (.int 0))) (.con (.str "or"))) .nil))) .nil))) .nil) Df [some (xR web),some (Sy.two c a b).w,some (.ref d),some (.ref pp),some (.ref pf),some (.int (i:Nat)),some (.ref ph)] G4:=by
    intro hc Df eDf;refine yL ?_
    ((try dsimp only [zS,zQ,zM,zI,zB,yX,yW,zO,zT,zN,zU,zZ,zR,zP,zJ,zL,yY,zK,gZ,gS,tZ,tS]);try simp only [t2,e7])
    refine ⟨tyL gf4,?_⟩
    have two:∀ x y:Bool,x=((tr web a).getD i false&&(tr web b).getD i false)->y=((tr web a).getD i false || (tr web b).getD i false)->∀ p,G4 p=none->qM (Sy.two c a b).w (.int 0) (put G4 p (.lst [.bl x,.bl y])) fun z G5 =>
      yT .Eq z (.str "or") G5 fun b' G5=>cH [b'] G5 fun u G6=>qM (.ref p) u G6 fun q G7=>pQ (.ref pf) [q] G7 fun _ G8=>zE (GB K sA n) XN .nil Df [some (xR web),some (Sy.two c a b).w,some (.ref d),some (.ref pp),some (.ref pf),some (.int (i:Nat)),some (.ref ph)] G8:=by
     intro x y ex ey p hp;simp only [Sy.w,ix0,yT,yR,zgg,cH];have k5:zX [] G4 (put G4 p (.lst [.bl x,.bl y])):=zX.new hp
     cases c with
     |im=>exact absurd rfl hc
     |an =>
      refine bD (zW zY) ?_;simp only [zzB,if_false,qD];exact uP _ _ _ _ _ (fun w G8 z=>eDf _ _ z) (app x _ (by rw [ex,zjg hi]) k5)
     |or =>
      refine bD (zW zY) ?_;simp only [if_true,at_1];exact uP _ _ _ _ _ (fun w G8 z=>eDf _ _ z) (app y _ (by rw [ey,zh4 hi]) k5)
    refine p0 zX.refl (sP g04 (by omega) ?_)
    cases hA:(tr web a).getD i false with
    |false =>
     simp only [zzB,if_false];refine p0 zX.refl (sP g04 (by omega) ?_);rw [hA];simp only [zzB,if_false];refine p1' zX.refl (sP g14 (by omega) ?_);exact ⟨z2,two _ _ (by rw [hA];rfl) (by rw [hA];rfl)⟩
    |true =>
     simp only [if_true];refine p1' zX.refl (sP g14 (by omega) ?_);refine p0 zX.refl (sP g04 (by omega) ?_);rw [hA];simp only [if_true];exact ⟨z2,two _ _ (by rw [hA];rfl) (by rw [hA];rfl)⟩
   cases c with
   |an =>
    have hne:((kw .an:Str) == "if")=false:=by decide +kernel
    simp only [hne,zzB,if_false];exact rest (by intro z;cases z) _ fun σ G' z=>z
   |or =>
    have hne:((kw .or:Str) == "if")=false:=by decide +kernel
    simp only [hne,zzB,if_false];exact rest (by intro z;cases z) _ fun σ G' z=>z
   |im =>
    have hne:((kw .im:Str) == "if")=true:=by decide +kernel
    simp only [hne,if_true];refine yL ?_
    ((try dsimp only [zS,zQ,zM,zI,zB,yX,yW,zO,zT,zN,zU,zZ,zR,zP,zJ,zL,yY,zK,gZ,gS,tZ,tS]);try simp only [t2])
    refine ⟨tyL gf4,?_⟩;refine zcM (fun j=>(tr web a).getD j false&&!(tr web b).getD j false) g3 (by simp;omega) (fun m G5 k hm k5 hk=>?_) (fun G5 r5 k5 hr5=>?_)
    .have hmw:=jw m hm;simp only [jS,List.replicate,zzU,zzV,List.cons_append,List.nil_append,gZ,gS,Option.join_some,List.length_cons,List.length_nil]
     (try dsimp only [zS,zQ,zM,zI,zB,yX,yW,zO,zT,zN,zU,zZ,zR,zP,zJ,zL,yY,zK,gZ,gS,tZ,tS])
     refine p0 k5 (sP (k5 _ _ (by simp) g04) (by omega) ?_);simp only [uD]
     cases hA:(tr web a).getD m false with
     |false =>
      simp only [hA,Bool.false_and,zzB,if_false] at hk ⊢;exact hk
     |true =>
      simp only [hA,Bool.true_and,if_true] at hk ⊢;refine p1' k5 (sP (k5 _ _ (by simp) g14) (by omega) ?_)
      cases hB:(tr web b).getD m false with
      |false=>simp only [hB,Bool.not_false,if_true] at hk ⊢;exact hk
      |true=>simp only [hB,Bool.not_true,zzB,if_false] at hk ⊢;exact hk
    .refine ⟨z0,fun p6 hp6=>?_⟩;have k6:zX [] G5 (put G5 r5 (.lst (yZ ((i::v.ls).filter fun j=>(tr web a).getD j false&&!(tr web b).getD j false)))):=zX.new hr5;have g5:(put G5 r5 (.lst (yZ ((i::v.ls).filter fun j=>(tr web a).getD j false&&!(tr web b).getD j false)))) r5=some (.lst (yZ ((i::v.ls).filter fun j=>(tr web a).getD j false&&!(tr web b).getD j false))):=zY;generalize put G5 r5 (.lst (yZ ((i::v.ls).filter fun j=>(tr web a).getD j false&&!(tr web b).getD j false)))=G6 at k6 g5 hp6 ⊢;have k7:zX [] G6 (put G6 p6 (.lst [])):=zX.new hp6;have g6:(put G6 p6 (.lst [])) p6=some (.lst []):=zY;have g5:=k7 _ _ (by simp) g5;generalize put G6 p6 (.lst [])=G7 at k7 g6 g5 ⊢;simp only [yT,zfa g5 g6 (tE _)];exact app _ G7 (by rw [ziW wo hv];simp [yZ]) ((k5.trans k6).trans k7)
 .rintro σ G' ⟨v5,v6,rfl,kp,gf⟩;rw [len,List.take_of_length_le (by omega)] at gf;exact hD G' v5 v6 kp gf
theorem zdd {n:Nat} {ws:List W} {G:Hw} {Q:Q3} (h:uX (n+1) ws G Q XN):zE (GB K sA n) XN jY { nx:=fun _ G'=>Q .non G',rt:=Q } (yB vJ ws) G:=by
 obtain ⟨web,t,d,kvs,rfl,wo,ho,hd,hs,gd,hl,kn,h⟩:=h;have e8:(GB K sA n).fn[8]?=some eRpr:=rfl;have z0:=sz 0 (by decide);show zE (GB K sA n) XN jY { nx:=fun _ G'=>Q .non G',rt:=Q } [some (xR web),some t.w,some (.ref d),none,none,none,none] G
 have fin:∀ (G':Hw) (kvs':List (yO×W)) (r:Addr) (σ3 σ4 σ5 σ6:Option W),zX [d] G G'->G' d=some (.dic kvs')->kvs'.length<=kvs.length+t.size->sJ web d kvs' G'->qE kvs' (.inr (rpr t.w))=some (.ref r) ->
   zE (GB K sA n) XN (.cons (.ret (.ix (.var 2) (.call 8 (.cons (.var 1) .nil)))) .nil) { nx:=fun _ G'=>Q .non G',rt:=Q } [some (xR web),some t.w,some (.ref d),σ3,σ4,σ5,σ6] G':=by
  intro G' kvs' r σ3 σ4 σ5 σ6 kp gd' hl' kn' eg;refine yL ?_
  ((try dsimp only [zS,zQ,zM,zI,zB,yX,yW,zO,zT,zN,zU,zZ,zR,zP,zJ,zL,yY,zK,gZ,gS,tZ,tS]);try simp only [e8])
  refine sG ho hs ?_;simp only [qM,gd',jE,eg];obtain ⟨t',r',o',e1,e2,e3,e4⟩:=kn' _ _ eg;have:=zfG ho o' (Sum.inr.inj e1);subst this;cases e2;exact h r G' kvs' kp e3 e4 gd' hl' kn'
 simp only [jY];refine yL ?_
 ((try dsimp only [zS,zQ,zM,zI,zB,yX,yW,zO,zT,zN,zU,zZ,zR,zP,zJ,zL,yY,zK,gZ,gS,tZ,tS]);try simp only [e8])
 refine sG ho hs ?_;simp only [yT,vH,gd,jE,if_true]
 cases hk:pR kvs (.inr (rpr t.w)) with
 |true =>
  simp only [Bool.not_true,zzB,if_false];refine uC ?_;obtain ⟨v,ev⟩:=zgw hk;obtain ⟨t',r',o',e1,e2,e3,e4⟩:=kn _ _ ev;subst e2;exact fin G kvs r' none none none none zX.refl gd (by omega) kn ev
 |false =>
 simp only [Bool.not_false,if_true];refine yL ?_
 have it:∀ R:List W->(Hw->Prop)->Hw->Prop,(∀ items,(∃ x r,t.w=.tup (.str x::r)/\items=r)->R items (fun _=>True) G)->zR (GB K sA n) XN (.val (.sl (.var 1) (.yes (.con (.int 1))) .no)) [some (xR web),some t.w,some (.ref d),none,none,none,none] G R:=by
  intro R hR
  cases t with
  |say x=>((try dsimp only [zS,zQ,zM,zI,zB,yX,yW,zO,zT,zN,zU,zZ,zR,zP,zJ,zL,yY,zK,gZ,gS,tZ,tS]);try simp only [Sy.w,gB,dW,wS]);exact hR _ ⟨_,_,rfl,rfl⟩
  |neg a=>((try dsimp only [zS,zQ,zM,zI,zB,yX,yW,zO,zT,zN,zU,zZ,zR,zP,zJ,zL,yY,zK,gZ,gS,tZ,tS]);try simp only [Sy.w,gB,dW,wS]);exact hR _ ⟨_,_,rfl,rfl⟩
  |two k a b=>((try dsimp only [zS,zQ,zM,zI,zB,yX,yW,zO,zT,zN,zU,zZ,zR,zP,zJ,zL,yY,zK,gZ,gS,tZ,tS]);try simp only [Sy.w,gB,dW,wS]);exact hR _ ⟨_,_,rfl,rfl⟩
 refine it _ fun items hit=>zao (K:=K) (sA:=sA) (n:=n) wo ho hd hs gd hl kn (fun pp G1 kvs1 rs k1 npd gpp sk nr gd1 hl1 kn1=>?_) items hit;refine yL ?_
 ((try dsimp only [zS,zQ,zM,zI,zB,yX,yW,zO,zT,zN,zU,zZ,zR,zP,zJ,zL,yY,zK,gZ,gS,tZ,tS]);try simp only [List.length_nil,z0,true_and])
 intro pf hpf;have k2:zX [d] G1 (put G1 pf (.lst [])):=zX.new hpf;have k2':zX [] G1 (put G1 pf (.lst [])):=zX.new hpf;have gpf:(put G1 pf (.lst [])) pf=some (.lst []):=zY;have npf:pf≠d:=fun e=>by rw [e,gd1] at hpf;cases hpf
 have npp:pf≠pp:=fun e=>by rw [e,gpp] at hpf;cases hpf
 have nrs:pf∉rs:=by
  have mem:∀ {rs:List Addr} {st:List Sy},dL web N0 d G1 rs st->pf∉rs:=by
   intro rs
   induction rs with
   |nil=>intro st _ z;cases z
   |cons r rs ih =>
    intro st hst
    cases st with
    |nil=>exact hst.elim
    |cons s st =>
     obtain ⟨_,g,hst⟩:=hst;intro z;rcases List.mem_cons.mp z with e|z
     .rw [e,g] at hpf;cases hpf
     .exact ih hst z
  exact mem sk
 generalize put G1 pf (.lst [])=G2 at k2 k2' gpf ⊢;refine yL ?_;refine zbs wo npp nrs (k2' _ _ (by simp) gpp) (sk.keep k2) gpf _ fun G3 v5 v6 k3 gf3=>?_;have gd3:=k3 _ _ (by simpa using Ne.symm npf) (k2' _ _ (by simp) gd1)
 have kd3:zX [d] G G3:=fun a o ha e=>by
  have e1:=(k1.trans k2) a o ha e
  by_cases hap:a=pf
  .subst hap;have:=k1 a o ha e;rw [hpf] at this;cases this
  .exact k3 a o (by simpa using hap) e1
 have kn3:sJ web d kvs1 G3:=fun q v e=>by
  obtain ⟨t',r,h1,h2,h3,h4,h5⟩:=kn1 q v e;exact ⟨t',r,h1,h2,h3,h4,k3 _ _ (by simp;intro z;rw [z,hpf] at h5;cases h5) (k2' _ _ (by simp) h5)⟩
 refine yL ?_
 ((try dsimp only [zS,zQ,zM,zI,zB,yX,yW,zO,zT,zN,zU,zZ,zR,zP,zJ,zL,yY,zK,gZ,gS,tZ,tS]);try simp only [e8])
 refine sG ho hs ?_;simp only [sH,gd3,jE];refine ⟨by rw [sizeLine_eq];omega,?_⟩;refine uC ?_;refine fin _ (jG kvs1 (.inr (rpr t.w)) (.ref pf)) pf (some (.ref pp)) (some (.ref pf)) v5 v6 (kd3.trans (zX.put (by simp))) zY (by have:=zaV kvs1 (.inr (rpr t.w)) (.ref pf);omega) ?_ (by rw [mK,if_pos rfl]);refine sJ.new (kn3.keep (zX.put (by simp))) ho npf ?_;rw [yU npf];exact gf3
end
theorem pL:∀ l:List Bool,wH (xS l)=true
 | []=>rfl
 |x::l=>by show (uJ (.bl x)&&wH (xS l))=true;rw [pL l];rfl
theorem pI:∀ l:List Bool,jX (xS l)=0
 | []=>rfl
 |x::l=>by show max (dep (.bl x)) (jX (xS l))=0;rw [pI l];rfl
section
variable {K : yN} {sA : Addr}
theorem zdf {n:Nat} (hn:23<=n) {ws:List W} {G:Hw} {Q:Q3} (h:tI ws G Q XN):zE (yI K sA n) XN bL { nx:=fun _ G'=>Q .non G',rt:=Q } (yB zcp ws) G:=by
 obtain ⟨web,t,k,rfl,wo,ts,hk,h⟩:=h;have e22:(yI K sA n).fn[22]?=some ⟨"truths_of", vO⟩:=qT 22 hn rfl;show zE (yI K sA n) XN bL { nx:=fun _ G'=>Q .non G',rt:=Q } [some (xR web),some (.int k),some t.w] G;simp only [bL];refine yL ?_
 ((try dsimp only [zS,zQ,zM,zI,zB,yX,yW,zO,zT,zN,zU,zZ,zR,zP,zJ,zL,yY,zK,gZ,gS,tZ,tS]);try simp only [e22])
 refine ⟨web,t,rfl,wo,ts,fun r G' kp hr gr=>?_⟩;exact sP gr (by rw [xW];exact hk) (h G' kp)
theorem zaN {G G' G'':Hw} {d:Addr} (k:zX [] G G') (hd:G d=none) (k2:zX [d] G' G''):zX [] G G'':=fun a o _ e =>
 k2 a o (by simp;intro z;rw [z,hd] at e;cases e) (k a o (by simp) e)
end
theorem cQ {α:Type} [DecidableEq α]:∀ {a b:List α},a.Nodup->(∀ x∈a,x∈b)->a.length<=b.length
 | [],b,_,_=>Nat.zero_le _
 |x::a,b,nd,h=>by
  obtain ⟨n1,n2⟩:=List.nodup_cons.mp nd;have hx:x∈b:=h x zzT
  have ih:=cQ (a:=a) (b:=b.erase x) n2 fun y hy=>by
   have hne:y≠x:=fun e=>n1 (e▸hy);exact (List.mem_erase_of_ne hne).mpr (h y (List.mem_cons_of_mem _ hy))
  rw [List.length_erase_of_mem hx] at ih;have:=List.length_pos_of_mem hx;rw [List.length_cons];omega
def wZ (lk:List (yO×W)) (S:List Nat):Prop:=lk.map (·.1)=S.map fun n:Nat=>Sum.inl (n:Int)
theorem zaL {lk:List (yO×W)} {S:List Nat} (h:wZ lk S) (n:Nat):pR lk (.inl (n:Int))=true↔n∈S:=by
 unfold pR;rw [show (lk.any fun p=>decide (p.1=Sum.inl (n:Int)))=(lk.map (·.1)).any fun k=>decide (k=Sum.inl (n:Int)) by rw [List.any_map];rfl,h,List.any_map,List.any_eq_true]
 constructor
 .rintro ⟨m,hm,e⟩;simp only [Function.comp,decide_eq_true_eq,Sum.inl.injEq] at e;rw [show n=m by omega];exact hm
 .intro hm;exact ⟨n,hm,by simp⟩
theorem zaK {lk:List (yO×W)} {S:List Nat} (h:wZ lk S) (n:Nat) (v:W):wZ (jG lk (.inl (n:Int)) v) (if n∈S then S else S++[n]):=by
 have hm:=zaL h n;unfold pR at hm;unfold jG wZ
 by_cases hs:n∈S
 .rw [if_pos (hm.mpr hs),if_pos hs,List.map_map];unfold wZ at h;rw [← h];apply List.map_congr_left;intro p hp;show (if p.1=Sum.inl (n:Int) then (p.1,v) else p).1=p.1
  split<;>rfl
 .rw [if_neg (fun z=>hs (hm.mp z)),if_neg hs,List.map_append,List.map_append];unfold wZ at h;rw [h];rfl
theorem zaM {lk:List (yO×W)} {S:List Nat} (h:wZ lk S):lk.length=S.length:=by
 have:=congrArg List.length h;simpa using this
theorem zbj {lk:List (yO×W)} {S:List Nat} (h:wZ lk S):(lk.map fun kv=>kW kv.1)=yZ S:=by
 rw [show (lk.map fun kv=>kW kv.1)=(lk.map (·.1)).map kW by rw [List.map_map];rfl,h,List.map_map];rfl
def add (S:List Nat) (n:Nat):List Nat:=if n∈S then S else S++[n]
theorem qJ {S:List Nat} {n m:Nat}:m∈add S n↔m∈S\/m=n:=by
 unfold add
 split
 .rename_i h
  constructor
  .exact .inl
  .rintro (h'|rfl)
   .exact h'
   .exact h
 .simp
theorem zfh {S:List Nat} {n:Nat} (h:S.Nodup):(add S n).Nodup:=by
 unfold add
 split
 .exact h
 .rename_i hn;rw [List.nodup_append];exact ⟨h,by simp,fun a ha b hb e=>hn (by rw [zzO hb] at e;exact e▸ha)⟩
structure Fw (f:Nat->Wd) (xs:List Str) (M lo:Nat):Prop where
 nx:∀ j,lo<=j->j<M->∀ m∈(f j).ls,j<m/\m<M/\(∀ x∈(f j).ns,x∈(f m).ns)/\∀ q∈(f m).ls,q∈(f j).ls
 nl:∀ j,lo<=j->j<M->(f j).ns.length<=4
 ll:∀ j,lo<=j->j<M->(f j).ls.length<=12
 xs:∀ j,lo<=j->j<M->∀ x∈(f j).ns,x∈xs
def Rows (f:Nat->Wd) (kvs:List (yO×W)) (M lo:Nat):Prop:=∀ j:Nat,lo<=j->j<M->qE kvs (.inl (j:Int))=some (f j).w
structure Lat (f:Nat->Wd) (M a:Nat) (S:List Nat):Prop where
 nd:S.Nodup
 rg:∀ m∈S,a<m/\m<M
 cl:∀ m∈S,∀ q∈(f m).ls,q∈S
theorem Lat.len {f:Nat->Wd} {M a:Nat} {S:List Nat} (h:Lat f M a S) (hM:M<=12):S.length<=12:=by
 have:=cQ (b:=List.range M) h.nd fun x hx=>List.mem_range.mpr (h.rg x hx).2;rw [List.length_range] at this;omega
def forB:IS->ISs
 | .for _ _ b=>b
 |_=>.nil
def at3:ISs->IS:=fun b=>hdS (tl (tl b))
section
variable {K : yN} {sA : Addr}
theorem zbA {n:Nat} (hn:12<=n) {d l r pr ld:Addr} {m:Int} {M a:Nat} {f:Nat->Wd} {xs:List Str} {kvs:List (yO×W)} {G:Hw} {v7 v8 v9:Option W} (hM:M<=12) (ha:a<M) (D0:yC G d l) (np:pr∉[d,l]) (nl:ld∉[d,l]) (npl:ld≠pr) (gp:G pr=some (.dic kvs)) (rw':Rows f kvs M (a+1)) (fw:Fw f xs M (a+1)) (gl:G ld=some (.dic []))
  (D:End3) (hD:∀ (G':Hw) (lk:List (yO×W)) (S:List Nat) (v7 v8:Option W),zX [d,l,ld] G G'->yC G' d l->G' pr=some (.dic kvs)->G' ld=some (.dic lk)->wZ lk S->Lat f M a S->D.nx [some (.ref d),some (.ref r),some (.int m),some (.int (M:Nat)),some (.ref pr),some (.int (a:Nat)),some (.ref ld),v7,v8,v9] G') :
  zS (yI K sA n) XN (hdS (tl (forB (at3 xH)))) D [some (.ref d),some (.ref r),some (.int m),some (.int (M:Nat)),some (.ref pr),some (.int (a:Nat)),some (.ref ld),v7,v8,v9] G:=by
 have e10:(yI K sA n).fn[10]?=some vB:=qT 10 hn rfl;have i0:(yI K sA n).it[0]?=some cC:=rfl;simp only [xH,at3,hdS,tl,forB]
 ((try dsimp only [zS,zQ,zM,zI,zB,yX,yW,zO,zT,zN,zU,zZ,zR,zP,zJ,zL,yY,zK,gZ,gS,tZ,tS]);try simp only [i0,jZ])
 refine ⟨⟨by omega,by omega⟩,⟨by omega,by omega⟩,?_⟩;have len:((List.range ((M:Int)-((a:Int)+1)).toNat).map fun k:Nat=>W.int ((a:Int)+1+(k:Nat))).length=M-(a+1):=by simp;omega
 refine ⟨fun i σ G'=>∃ (lk:List (yO×W)) (S:List Nat) (v7 v8:Option W),σ=[some (.ref d),some (.ref r),some (.int m),some (.int (M:Nat)),some (.ref pr),some (.int (a:Nat)),some (.ref ld),v7,v8,v9]/\zX [d,l,ld] G G'/\yC G' d l/\G' pr=some (.dic kvs)/\G' ld=some (.dic lk)/\wZ lk S/\Lat f M a S,
  ⟨[],[],v7,v8,rfl,zX.refl,D0,gp,gl,rfl,⟨List.nodup_nil,(fun _ z=>nomatch z),(fun _ z=>nomatch z)⟩⟩,fun _ _ _ _ _=>trivial,?_,?_⟩
 .rintro i w σ G1 hw ⟨lk,S,v7,v8,rfl,k1,D1,gp1,gl1,ks,la⟩;have hi:i<M-(a+1):=by have:=(List.getElem?_eq_some_iff.mp hw).1;rwa [len] at this
  have ew:w=.int ((a+1+i:Nat):Int):=by
   rw [List.getElem?_map] at hw;obtain ⟨q,hq,rfl⟩:=Option.map_eq_some_iff.mp hw
   have:q=i:=by
    have:=(List.getElem?_eq_some_iff.mp hq).2;rw [List.getElem_range] at this;exact this.symm
   subst this;congr 1
  subst ew;have hj:a+1<=a+1+i/\a+1+i<M:=by omega
  generalize a+1+i=j at hj ⊢
  have stay:∀ (G2:Hw) (v7 v8:Option W),zX [d,l,ld] G G2->yC G2 d l->G2 pr=some (.dic kvs)->G2 ld=some (.dic lk)->∃ (lk:List (yO×W)) (S:List Nat) (v7' v8':Option W),[some (W.ref d),some (.ref r),some (.int m),some (.int (M:Nat)),some (.ref pr),some (.int (a:Nat)),some (.ref ld),v7,v8,v9]=[some (.ref d),some (.ref r),some (.int m),some (.int (M:Nat)),some (.ref pr),some (.int (a:Nat)),some (.ref ld),v7',v8',v9]/\zX [d,l,ld] G G2/\yC G2 d l/\G2 pr=some (.dic kvs)/\G2 ld=some (.dic lk)/\wZ lk S/\Lat f M a S :=
   fun G2 v7 v8 k2 D2 gp2 gl2=>⟨lk,S,_,_,rfl,k2,D2,gp2,gl2,ks,la⟩
  refine yL ?_
  ((try dsimp only [zS,zQ,zM,zI,zB,yX,yW,zO,zT,zN,zU,zZ,zR,zP,zJ,zL,yY,zK,gZ,gS,tZ,tS]);try simp only [yT,vH,gl1,jE,if_true])
  cases hk:pR lk (.inl (j:Int)) with
  |true =>
   simp only [Bool.not_true,zzB,if_false];refine uC ?_;exact stay G1 _ _ k1 D1 gp1 gl1
  |false =>
   simp only [Bool.not_false,if_true,e10];refine ⟨d,l,3,rfl,D1,by decide,fun b G2 b0 b1 k2 D2=>?_⟩;have kk:zX [d,l,ld] G G2:=k1.trans (k2.mono (by intro x hx;simp at hx ⊢;rcases hx with h|h<;>simp [h]));have gp2:=k2 _ _ np gp1;have gl2:=k2 _ _ nl gl1;simp only [jU]
   by_cases hb:b=0
   .rw [decide_eq_true hb,if_pos rfl];have hll:=la.len hM;have hkl:=zaM ks;have hjS:j∉S:=fun z=>by rw [(zaL ks j).mpr z] at hk;cases hk
    have rj:=rw' j hj.1 hj.2;refine yL ?_
    ((try dsimp only [zS,zQ,zM,zI,zB,yX,yW,zO,zT,zN,zU,zZ,zR,zP,zJ,zL,yY,zK,gZ,gS,tZ,tS]);try simp only [sH,gl2,jE])
    refine ⟨by rw [sizeLine_eq];omega,?_⟩;have k3:zX [d,l,ld] G (put G2 ld (.dic (jG lk (.inl (j:Int)) (.bl true)))):=kk.trans (zX.put (by simp));have D3:=qL (o:=.dic (jG lk (.inl (j:Int)) (.bl true))) nl D2;have gp3:(put G2 ld (.dic (jG lk (.inl (j:Int)) (.bl true)))) pr=some (.dic kvs):=by rw [yU (Ne.symm npl)];exact gp2
    have gl3:(put G2 ld (.dic (jG lk (.inl (j:Int)) (.bl true)))) ld=some (.dic (jG lk (.inl (j:Int)) (.bl true))):=zY;generalize put G2 ld (.dic (jG lk (.inl (j:Int)) (.bl true)))=G3 at k3 D3 gp3 gl3 ⊢;refine yL ?_
    ((try dsimp only [zS,zQ,zM,zI,zB,yX,yW,zO,zT,zN,zU,zZ,zR,zP,zJ,zL,yY,zK,gZ,gS,tZ,tS]);try simp only [qM,gp3,jE,rj,Wd.w,at_1,wS])
    have ks3:=zaK ks j (.bl true);have lenl:(yZ (f j).ls).length=(f j).ls.length:=by simp [yZ]
    refine ⟨fun i σ G'=>∃ (lk:List (yO×W)) (S':List Nat) (v8:Option W),σ=[some (.ref d),some (.ref r),some (.int m),some (.int (M:Nat)),some (.ref pr),some (.int (a:Nat)),some (.ref ld),some (.int (j:Nat)),v8,v9]/\zX [d,l,ld] G G'/\yC G' d l/\G' pr=some (.dic kvs)/\G' ld=some (.dic lk)/\wZ lk S'/\S'.Nodup/\(∀ q∈S,q∈S')/\j∈S'/\(∀ q∈(f j).ls.take i,q∈S')/\∀ q∈S',q∈S\/q=j\/q∈(f j).ls,
     ⟨_,add S j,v8,rfl,k3,D3,gp3,gl3,ks3,zfh la.nd,fun q hq=>qJ.mpr (.inl hq),qJ.mpr (.inr rfl),by simp,fun q hq=>(qJ.mp hq).imp id .inl⟩,fun _ _ _ _ _=>trivial,?_,?_⟩
    .rintro i2 w2 σ2 G4 hw2 ⟨lk4,S4,v8',rfl,k4,D4,gp4,gl4,ks4,nd4,s1,s2,s3,s4⟩;simp only [yZ,List.getElem?_map] at hw2;obtain ⟨q,hq,rfl⟩:=Option.map_eq_some_iff.mp hw2;have hql:=List.mem_of_getElem? hq;have hi2:=(List.getElem?_eq_some_iff.mp hq).1;have eq2:(f j).ls[i2]=q:=(List.getElem?_eq_some_iff.mp hq).2
     have sl4:S4.length<=12:=by
      have:=cQ (b:=List.range M) nd4 fun x hx=>List.mem_range.mpr (by
       rcases s4 x hx with h|rfl|h
       .exact (la.rg x h).2
       .exact hj.2
       .exact (fw.nx j hj.1 hj.2 x h).2.1)
      rw [List.length_range] at this;omega
     have hkl4:=zaM ks4;refine yL ?_
     ((try dsimp only [zS,zQ,zM,zI,zB,yX,yW,zO,zT,zN,zU,zZ,zR,zP,zJ,zL,yY,zK,gZ,gS,tZ,tS]);try simp only [sH,gl4,jE])
     refine ⟨by rw [sizeLine_eq];omega,?_⟩;refine uC ?_;refine ⟨_,add S4 q,_,rfl,k4.trans (zX.put (by simp)),qL nl D4,by rw [yU (Ne.symm npl)];exact gp4,zY,zaK ks4 q _,zfh nd4,fun x hx=>qJ.mpr (.inl (s1 x hx)),qJ.mpr (.inl s2),fun x hx=>?_,fun x hx=>?_⟩
     .rw [List.take_succ_eq_append_getElem hi2,eq2] at hx;rcases List.mem_append.mp hx with hx|hx
      .exact qJ.mpr (.inl (s3 x hx))
      .exact qJ.mpr (.inr (zzO hx))
     .rcases qJ.mp hx with hx|rfl
      .exact s4 x hx
      .exact .inr (.inr hql)
    .rintro σ2 G4 ⟨lk4,S4,v8',rfl,k4,D4,gp4,gl4,ks4,nd4,s1,s2,s3,s4⟩;rw [lenl,List.take_length] at s3;refine ⟨lk4,S4,_,_,rfl,k4,D4,gp4,gl4,ks4,nd4,fun x hx=>?_,fun x hx q hq=>?_⟩
     .rcases s4 x hx with h|rfl|h
      .exact la.rg x h
      .exact ⟨by omega,hj.2⟩
      .have:=fw.nx j hj.1 hj.2 x h;exact ⟨by omega,this.2.1⟩
     .rcases s4 x hx with h|rfl|h
      .exact s1 q (la.cl x h q hq)
      .exact s3 q hq
      .exact s3 q ((fw.nx j hj.1 hj.2 x h).2.2.2 q hq)
   .rw [decide_eq_false hb,if_neg zzN];refine uC ?_;exact stay G2 _ _ kk D2 gp2 gl2
 .rintro σ G1 ⟨lk,S,v7,v8,rfl,k1,D1,gp1,gl1,ks,la⟩;exact hD G1 lk S v7 v8 k1 D1 gp1 gl1 ks la
end
theorem zep {G:Hw} {ld:Addr} {lk:List (yO×W)} {S:List Nat} {R:List W->(Hw->Prop)->Hw->Prop} (h:jP G ld=some lk) (ks:wZ lk S) (q:R (yZ S) (fun G'=>G' ld=some (.fzd lk)) (put G ld (.fzd lk))):wS (.ref ld) G R:=by
 have hl:yQ G ld=none:=by
  unfold jP at h;unfold yQ
  cases e:G ld with
  |none=>rfl
  |some o =>
   rw [e] at h;cases o<;>first|rfl|cases h
 simp only [wS,hl,h];rw [zbj ks];exact q
theorem zcH {G:Hw} {p:Addr} {ws:List W} {R:List W->(Hw->Prop)->Hw->Prop} (h:G p=some (.lst ws)) (q:R ws (fun G'=>yQ G' p=some ws) G):wS (.ref p) G R:=by
 simp only [wS,zW h];exact q
theorem zdX {ns:List Int} {S:List Nat} (h:ns.Perm (S.map fun n:Nat=>(n:Int))):∃ ls:List Nat,ns=ls.map (fun n:Nat=>(n:Int))/\ls.Perm S:=by
 refine ⟨ns.map Int.toNat,?_,?_⟩
 .rw [List.map_map]
  have:∀ x∈ns,((fun n:Nat=>(n:Int)) ∘ Int.toNat) x=x:=fun x hx=>by
   obtain ⟨n,_,rfl⟩:=zzP (h.mem_iff.mp hx);simp
  rw [List.map_congr_left this,List.map_id']
 .have:=h.map Int.toNat;rw [List.map_map] at this
  have e:S.map (Int.toNat ∘ fun n:Nat=>(n:Int))=S:=by
   have:∀ x∈S,(Int.toNat ∘ fun n:Nat=>(n:Int)) x=x:=fun x _=>by simp
   rw [List.map_congr_left this,List.map_id']
  rwa [e] at this
section
variable {K : yN} {sA : Addr}
def zhC:ISs->ISs:=fun b=>tl (tl (forB (at3 b)))
theorem zfo {n:Nat} (hn:12<=n) {d l r pr ld:Addr} {m:Int} {M a:Nat} {f:Nat->Wd} {xs:List Str} {kvs lk:List (yO×W)} {S:List Nat} {G:Hw} {v7 v8 v9:Option W} (hM:M<=12) (ha:a<M) (D0:yC G d l) (nr:r∉[d,l]) (np:pr∉[d,l]) (nl:ld∉[d,l]) (npl:ld≠pr) (gr:G r=some (.lst (xs.map .str))) (hx:xs.length<=4) (gp:G pr=some (.dic kvs)) (hkv:kvs.length<=100) (rw':Rows f kvs M (a+1)) (gl:G ld=some (.dic lk)) (ks:wZ lk S) (la:Lat f M a S)
  (D:End3) (hD:∀ (G':Hw) (us:List Str) (ls:List Nat) (v9:Option W),zX [d,l,ld,pr] G G'->yC G' d l->us.length<=4->(∀ x∈us,x∈xs)->(∀ x∈us,∀ j∈S,x∈(f j).ns)->ls.Perm S->G' pr=some (.dic (jG kvs (.inl (a:Int)) (Wd.w ⟨us,ls⟩)))->D.nx [some (.ref d),some (.ref r),some (.int m),some (.int (M:Nat)),some (.ref pr),some (.int (a:Nat)),some (.ref ld),v7,v8,v9] G') :
  zE (yI K sA n) XN (zhC xH) D [some (.ref d),some (.ref r),some (.int m),some (.int (M:Nat)),some (.ref pr),some (.int (a:Nat)),some (.ref ld),v7,v8,v9] G:=by
 have e2:(yI K sA n).fn[2]?=some eAll:=qT 2 hn rfl;have e5:(yI K sA n).fn[5]?=some zc0:=qT 5 hn rfl;have e6:(yI K sA n).fn[6]?=some eTup:=qT 6 hn rfl;have e10:(yI K sA n).fn[10]?=some vB:=qT 10 hn rfl;have z2:=sz 2 (by decide);have hS:=la.len hM;simp only [xH,zhC,at3,hdS,tl,forB];refine yL ?_
 (try dsimp only [zS,zQ,zM,zI,zB,yX,yW,zO,zT,zN,zU,zZ,zR,zP,zJ,zL,yY,zK,gZ,gS,tZ,tS])
 refine zcH gr ?_;refine ⟨fun i acc G'=>∃ ts:List Str,acc=ts.map .str/\ts.length<=i/\(∀ x∈ts,x∈xs)/\zX [d,l] G G'/\yC G' d l,⟨[],rfl,zzR _,by simp,zX.refl,D0⟩,?_,sz _ (by rw [zzM];omega),?_,?_⟩
 .rintro i acc G' ⟨ts,rfl,h1,_,k,_⟩ _;exact ⟨zW (k _ _ nr gr),by simpa using h1⟩
 .rintro i w acc G' hw ⟨ts,rfl,h1,h2,k,D'⟩;rw [List.getElem?_map] at hw;obtain ⟨x,hx',rfl⟩:=Option.map_eq_some_iff.mp hw;simp only [jS,List.replicate,zzU,zzV,List.cons_append,List.nil_append,gZ,gS,Option.join_some,List.length_cons,List.length_nil]
  ((try dsimp only [zS,zQ,zM,zI,zB,yX,yW,zO,zT,zN,zU,zZ,zR,zP,zJ,zL,yY,zK,gZ,gS,tZ,tS]);try simp only [e10])
  refine ⟨d,l,2,rfl,D',by decide,fun b G2 b0 b1 k2 D2=>?_⟩;simp only [yT,jU]
  by_cases hb:b=1
  .rw [decide_eq_true hb,if_pos rfl];refine ⟨ts++[x],by simp,by simp;omega,fun y hy=>?_,k.trans k2,D2⟩;rcases List.mem_append.mp hy with hy|hy
   .exact h2 y hy
   .rw [zzO hy];exact List.mem_of_getElem? hx'
  .rw [decide_eq_false hb,if_neg zzN];exact ⟨ts,rfl,by omega,h2,k.trans k2,D2⟩
 rintro acc G1 ⟨ts,rfl,h1,h2,k1,D1⟩ p9 hp9;rw [zzM] at h1;have n9:=qY D1 hp9;have k2:zX [d,l] G (put G1 p9 (.lst (ts.map .str))):=k1.trans (zX.new hp9);have D2:=xI (o:=.lst (ts.map .str)) hp9 D1;have g9:(put G1 p9 (.lst (ts.map .str))) p9=some (.lst (ts.map .str)):=zY;generalize put G1 p9 (.lst (ts.map .str))=G2 at k2 D2 g9 ⊢;have gp2:=k2 _ _ np gp;have gl2:=k2 _ _ nl gl;have n9l:p9≠ld:=fun e=>by rw [e,gl2] at g9;cases g9
 refine yL ?_
 (try dsimp only [zS,zQ,zM,zI,zB,yX,yW,zO,zT,zN,zU,zZ,zR,zP,zJ,zL,yY,zK,gZ,gS,tZ,tS])
 refine zcH g9 ?_;refine ⟨fun i acc G'=>∃ us:List Str,acc=us.map .str/\us.length<=i/\(∀ x∈us,x∈ts/\∀ j∈S,x∈(f j).ns)/\zX [ld] G2 G'/\jP G' ld=some lk,⟨[],rfl,zzR _,by simp,zX.refl,by unfold jP;rw [gl2]⟩,?_,sz _ (by rw [zzM];omega),?_,?_⟩
 .rintro i acc G' ⟨us,rfl,h3,_,k,_⟩ _;exact ⟨zW (k _ _ (by simpa using n9l) g9),by simpa using h3⟩
 .rintro i w acc G' hw ⟨us,rfl,h3,h4,k,hd⟩;rw [List.getElem?_map] at hw;obtain ⟨x,hx',rfl⟩:=Option.map_eq_some_iff.mp hw;simp only [jS,List.replicate,zzU,zzV,List.cons_append,List.nil_append,gZ,gS,Option.join_some,List.length_cons,List.length_nil]
  ((try dsimp only [zS,zQ,zM,zI,zB,yX,yW,zO,zT,zN,zU,zZ,zR,zP,zJ,zL,yY,zK,gZ,gS,tZ,tS]);try simp only [e2])
  refine zep hd ks ?_;have k3:zX [ld] G2 (put G' ld (.fzd lk)):=k.trans (zX.put (by simp));have g3:(put G' ld (.fzd lk)) ld=some (.fzd lk):=zY;generalize put G' ld (.fzd lk)=G3 at k3 g3 ⊢;have gp3:=k3 _ _ (by simpa using Ne.symm npl) gp2;refine vX (fun q=>some (.bl ((f (S.getD q 0)).ns.contains x))) (by simp only [yZ,zzM];omega) (fun G'' k4=>k4 _ _ (by simp) g3) (fun q u G4 kk hu k4 hk=>?_) (fun G4 r4 k4 hr4=>?_)
  .simp only [yZ,List.getElem?_map] at hu;obtain ⟨j,hj,rfl⟩:=Option.map_eq_some_iff.mp hu;rw [gD hj] at hk;have hjr:=la.rg j (List.mem_of_getElem? hj);simp only [jS,List.replicate,zzU,zzV,List.cons_append,List.nil_append,gZ,gS,tZ,tS,Option.join_some,List.length_cons,List.length_nil]
   ((try dsimp only [zS,zQ,zM,zI,zB,yX,yW,zO,zT,zN,zU,zZ,zR,zP,zJ,zL,yY,zK,gZ,gS,tZ,tS]);try simp only [if_true])
   simp only [qM,k4 _ _ (by simp) gp3,jE,rw' j (by omega) hjr.2,Wd.w,qD,yT,vH];refine inS ?_;simp only [zzB,if_false];exact hk G4 k4
  .refine ⟨S.map fun j=>(f j).ns.contains x,?_,?_⟩
   .rw [zW zY,jD];congr 1;simp only [yZ,zzM];rw [rX (fun j=>W.bl ((f j).ns.contains x)) 0 S,List.map_map];rfl
   .simp only [uD];have k5:zX [ld] G2 (put G4 r4 (.lst ((List.range (yZ S).length).filterMap fun q=>some (W.bl ((f (S.getD q 0)).ns.contains x))))):=(k3.trans (mV k4)).trans (zX.new hr4)
    have d5:jP (put G4 r4 (.lst ((List.range (yZ S).length).filterMap fun q=>some (W.bl ((f (S.getD q 0)).ns.contains x))))) ld=some lk:=by
     unfold jP;have e:=(k4.trans (zX.new (o:=.lst ((List.range (yZ S).length).filterMap fun q=>some (W.bl ((f (S.getD q 0)).ns.contains x)))) hr4)) _ _ (by simp) g3;rw [e]
    cases hall:(S.map fun j=>(f j).ns.contains x).all id with
    |true =>
     rw [if_pos rfl];refine ⟨us++[x],by simp,by simp;omega,fun y hy=>?_,k5,d5⟩;rcases List.mem_append.mp hy with hy|hy
     .exact h4 y hy
     .rw [zzO hy];refine ⟨List.mem_of_getElem? hx',fun j hj=>?_⟩;rw [List.all_map,List.all_eq_true] at hall;have:=hall j hj;simpa using this
    |false =>
     rw [if_neg zzN];exact ⟨us,rfl,by omega,h4,k5,d5⟩
 rintro acc G3 ⟨us,rfl,h3,h4,k3,hd⟩ p10 hp10;rw [zzM] at h3;have k4:zX [ld] G2 (put G3 p10 (.lst (us.map .str))):=k3.trans (zX.new hp10);have g10:(put G3 p10 (.lst (us.map .str))) p10=some (.lst (us.map .str)):=zY
 have n10:p10≠ld:=fun e=>by
  unfold jP at hd;rw [← e,hp10] at hd;cases hd
 have d4:jP (put G3 p10 (.lst (us.map .str))) ld=some lk:=by
  unfold jP at hd ⊢;rw [yU (Ne.symm n10)];exact hd
 generalize put G3 p10 (.lst (us.map .str))=G4 at k4 g10 d4 ⊢;refine yL ?_
 ((try dsimp only [zS,zQ,zM,zI,zB,yX,yW,zO,zT,zN,zU,zZ,zR,zP,zJ,zL,yY,zK,gZ,gS,tZ,tS]);try simp only [e5,e6])
 refine .inr ⟨us,zW g10,by omega,fun us' pu _ r5 hr5=>?_⟩;have k5:zX [] G4 (put G4 r5 (.lst (us'.map .str))):=zX.new hr5;have g5:(put G4 r5 (.lst (us'.map .str))) r5=some (.lst (us'.map .str)):=zY
 have n5:r5≠ld:=fun e=>by
  unfold jP at d4;rw [← e,hr5] at d4;cases d4
 have d5:jP (put G4 r5 (.lst (us'.map .str))) ld=some lk:=by
  unfold jP at d4 ⊢;rw [yU (Ne.symm n5)];exact d4
 generalize put G4 r5 (.lst (us'.map .str))=G5 at k5 g5 d5 ⊢;simp only [nZ,xZ,zW g5];refine .inl ⟨S.map fun n:Nat=>(n:Int),.inr ⟨ld,lk,rfl,d5,by rw [ks,List.map_map];rfl⟩,by rw [zzM];omega,fun ns' pn _ r6 hr6=>?_⟩;obtain ⟨ls,rfl,pl⟩:=zdX pn;have k6:zX [] G5 (put G5 r6 (.lst ((ls.map fun n:Nat=>(n:Int)).map .int))):=zX.new hr6;have g6:(put G5 r6 (.lst ((ls.map fun n:Nat=>(n:Int)).map .int))) r6=some (.lst ((ls.map fun n:Nat=>(n:Int)).map .int)):=zY;generalize put G5 r6 (.lst ((ls.map fun n:Nat=>(n:Int)).map .int))=G6 at k6 g6 ⊢;simp only [zW g6];refine ⟨z2,?_⟩;have kq:zX [ld] G2 G6:=k4.trans (mV (k5.trans k6));have gp6:=kq _ _ (by simpa using Ne.symm npl) gp2;simp only [sH,gp6,jE];refine ⟨by rw [sizeLine_eq];omega,?_⟩;refine uC ?_;have D6:yC G6 d l:=uQ kq (by simp;intro z;exact nl (by simp [z])) (by simp;intro z;exact nl (by simp [z])) D2
 have ew:(W.tup [.tup (us'.map .str),.tup ((ls.map fun n:Nat=>(n:Int)).map .int)])=Wd.w ⟨us',ls⟩:=by
  simp only [Wd.w,yZ,List.map_map];rfl
 rw [ew];refine hD _ us' ls _ ?_ (qL np D6) (by rw [pu.length_eq];omega) (fun x hx=>h2 x (h4 x (pu.mem_iff.mp hx)).1) (fun x hx j hj=>(h4 x (pu.mem_iff.mp hx)).2 j hj) pl zY;exact (((k2.mono (by intro x hx;simp at hx ⊢;rcases hx with h|h<;>simp [h])).trans (kq.mono (by intro x hx;simp at hx ⊢;simp [hx]))).trans (zX.put (by simp)))
theorem zfn {n:Nat} (hn:12<=n) {ws:List W} {G:Hw} {Q:Q3} (h:zdy ws G Q XN):zE (yI K sA n) XN xH { nx:=fun _ G'=>Q .non G',rt:=Q } (yB rZ ws) G:=by
 obtain ⟨d,l,r,m,xs,rfl,D0,nr,gr,hx,m1,m12,h⟩:=h;have e6:(yI K sA n).fn[6]?=some eTup:=qT 6 hn rfl;have e10:(yI K sA n).fn[10]?=some vB:=qT 10 hn rfl;have i0:(yI K sA n).it[0]?=some cC:=rfl;have s4:(yI K sA n).sx[4]?=some ⟨emM,emS⟩:=rfl;show zE (yI K sA n) XN xH { nx:=fun _ G'=>Q .non G',rt:=Q } [some (.ref d),some (.ref r),some (.int m),none,none,none,none,none,none,none] G
 have loop:∀ (G2:Hw) (M:Nat) (pr:Addr),1<=M->M<=12->zX [d,l] G G2->yC G2 d l->pr∉[d,l]->G pr=none->G2 pr=some (.dic [])->G2 r=some (.lst (xs.map .str)) ->
   zE (yI K sA n) XN (tl (tl xH)) { nx:=fun _ G'=>Q .non G',rt:=Q } [some (.ref d),some (.ref r),some (.int m),some (.int (M:Nat)),some (.ref pr),none,none,none,none,none] G2:=by
  intro G2 M pr M1 M12 k2 D2 np hpr gp2 gr2;simp only [xH,tl];refine yL ?_
  ((try dsimp only [zS,zQ,zM,zI,zB,yX,yW,zO,zT,zN,zU,zZ,zR,zP,zJ,zL,yY,zK,gZ,gS,tZ,tS]);try simp only [i0,jZ])
  refine ⟨rfl,⟨by omega,by omega⟩,⟨by decide,by decide⟩,?_⟩;have len:((List.range ((M:Int)-1 - -1).toNat).map fun k:Nat=>W.int ((M:Int)-1-(k:Nat))).length=M:=by simp
  refine ⟨fun i σ G'=>∃ (f:Nat->Wd) (kvs:List (yO×W)) (v5 v6 v7 v8 v9:Option W),σ=[some (.ref d),some (.ref r),some (.int m),some (.int (M:Nat)),some (.ref pr),v5,v6,v7,v8,v9]/\zX [d,l] G G'/\yC G' d l/\G' pr=some (.dic kvs)/\kvs.length<=i/\Rows f kvs M (M-i)/\Fw f xs M (M-i),
   ⟨fun _=>⟨[],[]⟩,[],none,none,none,none,none,rfl,k2,D2,gp2,zzR _,fun j h1 h2=>by omega,⟨fun j h1 h2=>by omega,fun j h1 h2=>by omega,fun j h1 h2=>by omega,fun j h1 h2=>by omega⟩⟩,fun _ _ _ _ _=>trivial,?_,?_⟩
  .rintro i w σ G3 hw ⟨f,kvs,v5,v6,v7,v8,v9,rfl,k3,D3,gp3,hl3,rw3,fw3⟩;have hi:i<M:=by have:=(List.getElem?_eq_some_iff.mp hw).1;rwa [len] at this
   have ew:w=.int ((M-1-i:Nat):Int):=by
    rw [List.getElem?_map] at hw;obtain ⟨q,hq,rfl⟩:=Option.map_eq_some_iff.mp hw
    have:q=i:=by
     have:=(List.getElem?_eq_some_iff.mp hq).2;rw [List.getElem_range] at this;exact this.symm
    subst this;congr 1;omega
   subst ew;have ha:M-1-i<M:=by omega
   have ha1:M-i=(M-1-i)+1:=by omega
   have ha2:M-(i+1)=M-1-i:=by omega
   rw [ha1] at rw3 fw3;simp only [ha2];generalize M-1-i=a at ha rw3 fw3 ⊢;have gr3:=k3 _ _ nr gr;refine yL ?_
   ((try dsimp only [zS,zQ,zM,zI,zB,yX,yW,zO,zT,zN,zU,zZ,zR,zP,zJ,zL,yY,zK,gZ,gS,tZ,tS]);try simp only [s4])
   intro ld hld;have nl:=qY D3 hld;have npl:ld≠pr:=fun e=>by rw [e,gp3] at hld;cases hld
   have hldG:G ld=none:=k3.none nl hld;have k4:zX [d,l] G (put G3 ld (.dic [])):=k3.trans (zX.new hld);have D4:=xI (o:=.dic []) hld D3;have gl4:(put G3 ld (.dic [])) ld=some (.dic []):=zY;have gp4:(put G3 ld (.dic [])) pr=some (.dic kvs):=by rw [yU (Ne.symm npl)];exact gp3
   generalize put G3 ld (.dic [])=G4 at k4 D4 gl4 gp4 ⊢;refine yL ?_;refine zbA hn M12 ha D4 np nl npl gp4 rw3 fw3 gl4 _ fun G5 lk S v7' v8' k5 D5 gp5 gl5 ks5 la5=>?_
   have gr5:G5 r=some (.lst (xs.map .str)):=by
    have e4:=k4 _ _ nr gr
    exact k5 _ _ (by
     simp at nr ⊢;refine ⟨nr.1,nr.2,fun e=>?_⟩;rw [e,hldG] at gr;cases gr) e4
   refine zfo hn M12 ha D5 nr np nl npl gr5 hx gp5 (by omega) rw3 gl5 ks5 la5 _ fun G6 us ls v9' k6 D6 u1 u2 u3 pl gp6=>?_;refine ⟨fun j=>if j=a then ⟨us,ls⟩ else f j,_,_,_,_,_,_,rfl,?_,D6,gp6,?_,?_,?_⟩
   .intro x o hx' e;have e4:=k4 x o hx' e;have nld:x≠ld:=fun z=>by rw [z,hldG] at e;cases e
    have npr:x≠pr:=fun z=>by rw [z,hpr] at e;cases e
    simp at hx';exact k6 x o (by simp;exact ⟨hx'.1,hx'.2,nld,npr⟩) (k5 x o (by simp;exact ⟨hx'.1,hx'.2,nld⟩) e4)
   .have:=zaV kvs (.inl (a:Int)) (Wd.w ⟨us,ls⟩);omega
   .intro j h1 h2;rw [mK]
    by_cases hj:j=a
    .subst hj;rw [if_pos rfl];show _=some (if j=j then (⟨us,ls⟩:Wd) else f j).w;rw [if_pos rfl]
    .rw [if_neg (fun z=>hj (by have:=Sum.inl.inj z;omega))];show _=some (if j=a then (⟨us,ls⟩:Wd) else f j).w;rw [if_neg hj];exact rw3 j (by omega) h2
   .have old:∀ j,a+1<=j->(if j=a then (⟨us,ls⟩:Wd) else f j)=f j:=fun j hj=>if_neg (by omega);have new:(if a=a then (⟨us,ls⟩:Wd) else f a)=⟨us,ls⟩:=if_pos rfl;refine ⟨fun j h1 h2 q hq=>?_,fun j h1 h2=>?_,fun j h1 h2=>?_,fun j h1 h2=>?_⟩
    .by_cases hj:j=a
     .subst hj;simp only [if_true] at hq ⊢;have hqS:=pl.mem_iff.mp hq;have rq:=la5.rg q hqS;simp only [old q (by omega)];exact ⟨rq.1,rq.2,fun x hx'=>u3 x hx' q hqS,fun p hp=>pl.mem_iff.mpr (la5.cl q hqS p hp)⟩
     .have hj':a+1<=j:=by omega
      simp only [old j hj'] at hq ⊢;have:=fw3.nx j hj' h2 q hq;simp only [old q (by omega)];exact this
    .by_cases hj:j=a
     .subst hj;simp only [if_true];exact u1
     .simp only [old j (by omega)];exact fw3.nl j (by omega) h2
    .by_cases hj:j=a
     .subst hj;simp only [if_true];rw [pl.length_eq];exact la5.len M12
     .simp only [old j (by omega)];exact fw3.ll j (by omega) h2
    .by_cases hj:j=a
     .subst hj;simp only [if_true];exact u2
     .simp only [old j (by omega)];exact fw3.xs j (by omega) h2
  .rintro σ G3 ⟨f,kvs,v5,v6,v7,v8,v9,rfl,k3,D3,gp3,hl3,rw3,fw3⟩;rw [len,Nat.sub_self] at rw3 fw3;refine yL ?_
   ((try dsimp only [zS,zQ,zM,zI,zB,yX,yW,zO,zT,zN,zU,zZ,zR,zP,zJ,zL,yY,zK,gZ,gS,tZ,tS]);try simp only [e6,i0])
   refine ⟨⟨by omega,by omega⟩,?_⟩;have lenr:((List.range ((M:Nat):Int).toNat).map fun i:Nat=>W.int (i:Int)).length=M:=by simp
   refine vX (fun i=>some (f i).w) (by rw [lenr];omega) (fun _ _=>trivial) (fun i w G4 k hw k4 hk=>?_) (fun G4 r4 k4 hr4=>?_)
   .have hi:i<M:=by have:=(List.getElem?_eq_some_iff.mp hw).1;rwa [lenr] at this
    have ew:w=.int (i:Nat):=by
     simp [hi] at hw;exact hw.symm
    subst ew;simp only [jS,List.replicate,zzU,zzV,List.cons_append,List.nil_append,gZ,gS,tZ,tS,Option.join_some,List.length_cons,List.length_nil]
    ((try dsimp only [zS,zQ,zM,zI,zB,yX,yW,zO,zT,zN,zU,zZ,zR,zP,zJ,zL,yY,zK,gZ,gS,tZ,tS]);try simp only [if_true])
    simp only [qM,k4 _ _ (by simp) gp3,jE,rw3 i (Nat.zero_le _) hi];exact hk G4 k4
   .simp only [nZ,xZ,zW zY];rw [lenr,jD];have ew:(List.range M).map (fun i=>(f i).w)=((List.range M).map f).map Wd.w:=by rw [List.map_map];rfl
    rw [ew];have k5:zX [] G3 (put G4 r4 (.lst (((List.range M).map f).map Wd.w))):=k4.trans (zX.new hr4)
    have at_:∀ (k:Nat) (v:Wd),((List.range M).map f)[k]?=some v->k<M/\v=f k:=fun k v e=>by
     rw [List.getElem?_map] at e;obtain ⟨q,hq,rfl⟩:=Option.map_eq_some_iff.mp e;have hk:=(List.getElem?_eq_some_iff.mp hq).1;have:=(List.getElem?_eq_some_iff.mp hq).2;rw [List.getElem_range] at this;rw [List.length_range] at hk;exact ⟨hk,by rw [this]⟩
    have mem_:∀ v∈(List.range M).map f,∃ k,k<M/\v=f k:=fun v hv=>by
     obtain ⟨k,hk,rfl⟩:=zzP hv;exact ⟨k,List.mem_range.mp hk,rfl⟩
    refine h ((List.range M).map f) _ ⟨by simp;exact M12,by simp;exact M1,fun v hv j hj=>?_,fun v hv=>?_⟩ (fun k v e j hj=>?_) ⟨fun v hv=>?_,fun v hv x hx'=>?_⟩ (k3.trans (mV k5)) (mJ k5 D3)
    .obtain ⟨k,hk,rfl⟩:=mem_ v hv;simp only [zzM,List.length_range];exact (fw3.nx k (Nat.zero_le _) hk j hj).2.1
    .obtain ⟨k,hk,rfl⟩:=mem_ v hv;exact fw3.ll k (Nat.zero_le _) hk
    .obtain ⟨hk,rfl⟩:=at_ k v e;obtain ⟨q1,q2,q3,q4⟩:=fw3.nx k (Nat.zero_le _) hk j hj;exact ⟨q1,f j,by simp [q2],q3,q4⟩
    .obtain ⟨k,hk,rfl⟩:=mem_ v hv;exact fw3.nl k (Nat.zero_le _) hk
    .obtain ⟨k,hk,rfl⟩:=mem_ v hv;exact fw3.xs k (Nat.zero_le _) hk x hx'
 simp only [xH,tl] at loop;simp only [xH];refine yL ?_
 ((try dsimp only [zS,zQ,zM,zI,zB,yX,yW,zO,zT,zN,zU,zZ,zR,zP,zJ,zL,yY,zK,gZ,gS,tZ,tS]);try simp only [e10,jZ])
 refine ⟨d,l,m,rfl,D0,⟨by omega,by omega⟩,fun q G1 q0 q1 k1 D1=>?_⟩;refine yL ?_
 ((try dsimp only [zS,zQ,zM,zI,zB,yX,yW,zO,zT,zN,zU,zZ,zR,zP,zJ,zL,yY,zK,gZ,gS,tZ,tS]);try simp only [s4])
 intro pr hpr;have np:=qY D1 hpr;obtain ⟨M,eM⟩:∃ M:Nat,1+q=(M:Int):=⟨(1+q).toNat,by omega⟩;rw [eM];have k2:zX [d,l] G (put G1 pr (.dic [])):=k1.trans (zX.new hpr);exact loop _ M pr (by omega) (by omega) k2 (xI hpr D1) np (k1.none np hpr) zY (k2 _ _ nr gr)
end
theorem zja {α:Type} {l:List α} {i:Nat} (h:i<=l.length):pG l none (some (i:Int))=l.take i:=by
 have e1:HT.xC l.length 0 none=0:=rfl;have e2:HT.xC l.length l.length (some (i:Int))=i:=by rw [HT.zb5];omega
 unfold pG;rw [e1,e2];simp
theorem zaZ {α:Type} {l:List α} {i:Nat} (h:i<=l.length):pG l (some (i:Int)) none=l.drop i:=by
 have e1:HT.xC l.length l.length none=l.length:=rfl;have e2:HT.xC l.length 0 (some (i:Int))=i:=by rw [HT.zb5];omega
 unfold pG;rw [e1,e2];exact List.take_of_length_le (by rw [List.length_drop];omega)
def out {α:Type} (l:List α) (i:Nat):List α:=l.take i++l.drop (i+1)
theorem zch {α:Type} {l:List α} {i:Nat} {x:α} (h:x∈out l i):x∈l:=by
 rcases List.mem_append.mp h with h|h
 .exact List.mem_of_mem_take h
 .exact List.mem_of_mem_drop h
theorem zci {α:Type} (l:List α) (i:Nat):(out l i).length<=l.length:=by
 unfold out;rw [zzW,List.length_take,List.length_drop];omega
theorem zeZ {ws:List W} {i:Nat} {G:Hw} {Q:Q3} (hi:i<ws.length) (hl:ws.length<=100) (q:Q (.tup (out ws i)) G) :
  gB (.tup ws) none (some (i:Int)) G fun x G1=>gB (.tup ws) (some ((i:Int)+1)) none G1 fun y G2=>jZ .Add x y G2 Q:=by
 simp only [gB];rw [zja (Nat.le_of_lt hi),show ((i:Int)+1)=((i+1:Nat):Int) by omega,zaZ hi];simp only [jZ];exact ⟨sz _ (by rw [List.length_take,List.length_drop];omega),q⟩
theorem zi0 {α:Type} (f:α->Bool) (c:α->W) (d:α) (l:List α):(List.range l.length).filterMap (fun i=>if f (l.getD i d)=true then some (c (l.getD i d)) else none)=(l.filter f).map c:=by
 have e:(List.range l.length).filterMap (fun i=>if f (l.getD i d)=true then some (c (l.getD i d)) else none)=((List.range l.length).map fun i=>l.getD i d).filterMap fun j=>if f j=true then some (c j) else none:=by
  rw [List.filterMap_map];rfl
 rw [e,rX (fun j=>j) d l,List.map_id']
 clear e
 induction l with
 |nil=>rfl
 |cons x l ih =>
  rw [List.filterMap_cons,List.filter_cons]
  by_cases h:f x=true
  .rw [if_pos h,if_pos h];simp only;rw [ih];rfl
  .rw [if_neg h,if_neg h];exact ih
theorem zhA {N:List Str} {web:List Wd} (wo:WOk web) (wi:WIn N web) {a:Nat} {ns:List Str} {ls:List Nat} (h1:ns.length<=4) (h2:∀ x∈ns,x∈N) (h3:ls.length<=12) (h4:∀ j∈ls,j<web.length):WOk (web.set a ⟨ns,ls⟩)/\WIn N (web.set a ⟨ns,ls⟩):=by
 have mem:∀ v∈web.set a ⟨ns,ls⟩,v∈web\/v=⟨ns,ls⟩:=fun v hv=>List.mem_or_eq_of_mem_set hv;refine ⟨⟨by rw [List.length_set];exact wo.few,by rw [List.length_set];exact wo.one,fun v hv j hj=>?_,fun v hv=>?_⟩,⟨fun v hv=>?_,fun v hv x hx=>?_⟩⟩
 .rw [List.length_set];rcases mem v hv with h|rfl
  .exact wo.inw v h j hj
  .exact h4 j hj
 .rcases mem v hv with h|rfl
  .exact wo.ll v h
  .exact h3
 .rcases mem v hv with h|rfl
  .exact wi.nl v h
  .exact h1
 .rcases mem v hv with h|rfl
  .exact wi.xs v h x hx
  .exact h2 x hx
structure SP (N:List Str) (M:Nat) (ns:List Str) (ls:List Nat):Prop where
 n4:ns.length<=4
 nN:∀ x∈ns,x∈N
 l12:ls.length<=12
 lM:∀ j∈ls,j<M
abbrev sl (d:Addr) (web:List Wd) (pr:Addr) (v3:Option W) (a:Nat) (ns:List Str) (ls:List Nat) (way:Int) (v8 v9 v10:Option W):jH:=[some (.ref d),some (xR web),some (.ref pr),v3,some (.int (a:Nat)),some (.tup (ns.map .str)),some (.tup (yZ ls)),some (.int way),v8,v9,v10]
def sB:ISs:=forB (hdS (tl yM))
section
variable {K : yN} {sA : Addr}
theorem zdv {n:Nat} (hn:12<=n) {d l pr:Addr} {web:List Wd} {v3:Option W} {a M:Nat} {N ns:List Str} {ls:List Nat} {way:Int} {v8 v9 v10:Option W} {G:Hw} (D0:yC G d l) (s:SP N M ns ls)
  (D:End3) (hD:∀ (G':Hw) ns v8,zX [d,l] G G'->yC G' d l->SP N M ns ls->D.nx (sl d web pr v3 a ns ls way v8 v9 v10) G') :
  zS (yI K sA n) XN (hdS (tl (tl (tl sB)))) D (sl d web pr v3 a ns ls way v8 v9 v10) G:=by
 have e1:(yI K sA n).fn[1]?=some mL:=qT 1 hn rfl;have e10:(yI K sA n).fn[10]?=some vB:=qT 10 hn rfl;have h4:=s.n4;simp only [sB,yM,tl,hdS,forB]
 ((try dsimp only [zS,zQ,zM,zI,zB,yX,yW,zO,zT,zN,zU,zZ,zR,zP,zJ,zL,yY,zK,gZ,gS,tZ,tS]);try simp only [sl,yT,jU])
 by_cases hw:way=0
 .rw [decide_eq_true hw,if_pos rfl];simp only [e1,uM,vE,zzM,pU]
  by_cases hl:0<ns.length
  .rw [if_pos (by show decide ((0:Int)<(ns.length:Int))=true;exact decide_eq_true (by omega))];refine yL ?_
   ((try dsimp only [zS,zQ,zM,zI,zB,yX,yW,zO,zT,zN,zU,zZ,zR,zP,zJ,zL,yY,zK,gZ,gS,tZ,tS]);try simp only [e1,e10,uM,vE,zzM])
   refine ⟨d,l,ns.length,rfl,D0,⟨by omega,by omega⟩,fun q G1 q0 q1 k1 D1=>?_⟩;obtain ⟨i,rfl⟩:∃ i:Nat,q=(i:Int):=⟨q.toNat,by omega⟩;refine yL ?_
   (try dsimp only [zS,zQ,zM,zI,zB,yX,yW,zO,zT,zN,zU,zZ,zR,zP,zJ,zL,yY,zK,gZ,gS,tZ,tS])
   have hb:(ns.map W.str).length=ns.length:=by simp
   have:=zeZ (ws:=ns.map W.str) (i:=i) (G:=G1) (Q:=fun w G'=>D.nx [some (.ref d),some (xR web),some (.ref pr),v3,some (.int (a:Nat)),some w,some (.tup (yZ ls)),some (.int way),some (.int (i:Nat)),v9,v10] G') (by omega) (by omega) (by
    have eo:out (ns.map W.str) i=(out ns i).map .str:=by simp [out]
    rw [eo];exact hD G1 (out ns i) _ k1 D1 ⟨by have:=zci ns i;omega,fun x hx=>s.nN x (zch hx),s.l12,s.lM⟩)
   exact this
  .rw [if_neg (by show ¬ decide ((0:Int)<(ns.length:Int))=true;rw [decide_eq_false (by omega)];exact zzN)];refine uC ?_;exact hD G ns v8 zX.refl D0 s
 .rw [decide_eq_false hw,if_neg zzN,if_neg zzN];refine uC ?_;exact hD G ns v8 zX.refl D0 s
theorem zdw {n:Nat} (hn:12<=n) {d l pr:Addr} {web:List Wd} {v3:Option W} {a M:Nat} {N ns:List Str} {ls:List Nat} {way:Int} {v8 v9 v10:Option W} {G:Hw} (D0:yC G d l) (s:SP N M ns ls)
  (D:End3) (hD:∀ (G':Hw) ls v8,zX [d,l] G G'->yC G' d l->SP N M ns ls->D.nx (sl d web pr v3 a ns ls way v8 v9 v10) G') :
  zS (yI K sA n) XN (hdS (tl (tl (tl (tl (tl sB)))))) D (sl d web pr v3 a ns ls way v8 v9 v10) G:=by
 have e1:(yI K sA n).fn[1]?=some mL:=qT 1 hn rfl;have e10:(yI K sA n).fn[10]?=some vB:=qT 10 hn rfl;have h4:=s.l12;have hb:(yZ ls).length=ls.length:=by simp [yZ]
 simp only [sB,yM,tl,hdS,forB]
 ((try dsimp only [zS,zQ,zM,zI,zB,yX,yW,zO,zT,zN,zU,zZ,zR,zP,zJ,zL,yY,zK,gZ,gS,tZ,tS]);try simp only [sl,yT,jU])
 by_cases hw:way=2
 .rw [decide_eq_true hw,if_pos rfl];simp only [e1,uM,vE,hb,pU]
  by_cases hl:0<ls.length
  .rw [if_pos (by show decide ((0:Int)<(ls.length:Int))=true;exact decide_eq_true (by omega))];refine yL ?_
   ((try dsimp only [zS,zQ,zM,zI,zB,yX,yW,zO,zT,zN,zU,zZ,zR,zP,zJ,zL,yY,zK,gZ,gS,tZ,tS]);try simp only [e1,e10,uM,vE,hb])
   refine ⟨d,l,ls.length,rfl,D0,⟨by omega,by omega⟩,fun q G1 q0 q1 k1 D1=>?_⟩;obtain ⟨i,rfl⟩:∃ i:Nat,q=(i:Int):=⟨q.toNat,by omega⟩;refine yL ?_
   (try dsimp only [zS,zQ,zM,zI,zB,yX,yW,zO,zT,zN,zU,zZ,zR,zP,zJ,zL,yY,zK,gZ,gS,tZ,tS])
   have:=zeZ (ws:=yZ ls) (i:=i) (G:=G1) (Q:=fun w G'=>D.nx [some (.ref d),some (xR web),some (.ref pr),v3,some (.int (a:Nat)),some (.tup (ns.map .str)),some w,some (.int way),some (.int (i:Nat)),v9,v10] G') (by omega) (by omega) (by
    have eo:out (yZ ls) i=yZ (out ls i):=by simp [out,yZ]
    rw [eo];exact hD G1 (out ls i) _ k1 D1 ⟨s.n4,s.nN,by have:=zci ls i;omega,fun x hx=>s.lM x (zch hx)⟩)
   exact this
  .rw [if_neg (by show ¬ decide ((0:Int)<(ls.length:Int))=true;rw [decide_eq_false (by omega)];exact zzN)];refine uC ?_;exact hD G ls v8 zX.refl D0 s
 .rw [decide_eq_false hw,if_neg zzN,if_neg zzN];refine uC ?_;exact hD G ls v8 zX.refl D0 s
theorem zdx {n:Nat} (hn:12<=n) {d l pr:Addr} {web w1:List Wd} {v3:Option W} {a M:Nat} {N ns:List Str} {ls:List Nat} {way:Int} {v8 v9 v10:Option W} {G:Hw} (D0:yC G d l) (s:SP N M ns ls) (wo:WOk w1) (wi:WIn N w1) (hN:N.length<=4) (np:pr∉[d,l]) (gp:G pr=some (.lst (w1.map Wd.w)))
  (D:End3) (hD:∀ (G':Hw) ns v9 v10,zX [d,l] G G'->yC G' d l->SP N M ns ls->D.nx (sl d web pr v3 a ns ls way v8 v9 v10) G') :
  zS (yI K sA n) XN (hdS (tl (tl (tl (tl sB))))) D (sl d web pr v3 a ns ls way v8 v9 v10) G:=by
 have e1:(yI K sA n).fn[1]?=some mL:=qT 1 hn rfl;have e5:(yI K sA n).fn[5]?=some zc0:=qT 5 hn rfl;have e6:(yI K sA n).fn[6]?=some eTup:=qT 6 hn rfl;have e10:(yI K sA n).fn[10]?=some vB:=qT 10 hn rfl;have t3:(yI K sA n).mt[3]?=some eExt:=rfl;have s2:(yI K sA n).sx[2]?=some ⟨ssM,ssS⟩:=rfl;have z0:=sz 0 (by decide);have z1:=sz 1 (by decide);have h4:=s.n4;have w12:=wo.few;simp only [sB,yM,tl,hdS,forB]
 ((try dsimp only [zS,zQ,zM,zI,zB,yX,yW,zO,zT,zN,zU,zZ,zR,zP,zJ,zL,yY,zK,gZ,gS,tZ,tS]);try simp only [sl,yT,jU])
 by_cases hw:way=1
 .rw [decide_eq_true hw,if_pos rfl];refine yL ?_
  ((try dsimp only [zS,zQ,zM,zI,zB,yX,yW,zO,zT,zN,zU,zZ,zR,zP,zJ,zL,yY,zK,gZ,gS,tZ,tS]);try simp only [List.length_nil,z0,true_and])
  intro pe hpe;have ne:=qY D0 hpe;have k1:zX [d,l] G (put G pe (.lst [])):=zX.new hpe;have D1:=xI (o:=.lst []) hpe D0;have g1:(put G pe (.lst [])) pe=some (.lst []):=zY;have npe:pr≠pe:=fun e=>by rw [e,hpe] at gp;cases gp
  have gp1:(put G pe (.lst [])) pr=some (.lst (w1.map Wd.w)):=by rw [yU npe];exact gp
  generalize put G pe (.lst [])=G1 at k1 D1 g1 gp1 ⊢;refine yL ?_
  (try dsimp only [zS,zQ,zM,zI,zB,yX,yW,zO,zT,zN,zU,zZ,zR,zP,zJ,zL,yY,zK,gZ,gS,tZ,tS])
  refine zcH gp1 ?_
  refine ⟨fun i σ G'=>∃ (es:List Str) (v:Option W),σ=[some (.ref d),some (xR web),some (.ref pr),v3,some (.int (a:Nat)),some (.tup (ns.map .str)),some (.tup (yZ ls)),some (.int way),v8,some (.ref pe),v]/\G' pe=some (.lst (es.map .str))/\es.length<=4 * i/\(∀ x∈es,x∈N)/\zX [d,l] G G'/\yC G' d l/\G' pr=some (.lst (w1.map Wd.w)),
   ⟨[],v10,rfl,g1,zzR _,by simp,k1,D1,gp1⟩,fun i σ G' z _=>by obtain ⟨_,_,_,_,_,_,_,_,z⟩:=z;exact zW z,?_,?_⟩
  .rintro i w σ G2 hw2 ⟨es,v,rfl,g2,hl2,hN2,k2,D2,gp2⟩;have hi:i<w1.length:=by have:=(List.getElem?_eq_some_iff.mp hw2).1;simpa using this
   rw [List.getElem?_map] at hw2;obtain ⟨u,hu,rfl⟩:=Option.map_eq_some_iff.mp hw2;have um:=List.mem_of_getElem? hu;have u4:=wi.nl u um;refine yL ?_
   ((try dsimp only [zS,zQ,zM,zI,zB,yX,yW,zO,zT,zN,zU,zZ,zR,zP,zJ,zL,yY,zK,gZ,gS,tZ,tS]);try simp only [t3])
   refine ⟨tyL g2,?_⟩;simp only [Wd.w,ix0,wS];refine vX (fun q=>if (fun x=>!es.contains x) (u.ns.getD q "")=true then some (.str (u.ns.getD q "")) else none) (by rw [zzM];omega) (fun _ _=>trivial) (fun q x G3 k hx k3 hk=>?_) (fun G3 r3 k3 hr3=>?_)
   .rw [List.getElem?_map] at hx;obtain ⟨x,hx',rfl⟩:=Option.map_eq_some_iff.mp hx;rw [gD hx'] at hk;simp only [jS,List.replicate,zzU,zzV,List.cons_append,List.nil_append,gZ,gS,tZ,tS,Option.join_some,List.length_cons,List.length_nil]
    ((try dsimp only [zS,zQ,zM,zI,zB,yX,yW,zO,zT,zN,zU,zZ,zR,zP,zJ,zL,yY,zK,gZ,gS,tZ,tS]);try simp only [yT,vH,k3 _ _ (by simp) g2])
    refine inS ?_;simp only [if_true];have:=hk G3 k3
    cases hc:es.contains x with
    |true=>simp only [hc,Bool.not_true,zzB,if_false] at this ⊢;exact this
    |false=>simp only [hc,Bool.not_false,if_true] at this ⊢;exact this
   .rw [zzM,zi0 (fun x=>!es.contains x) W.str "" u.ns];have k4:zX [] G2 (put G3 r3 (.lst ((u.ns.filter fun x=>!es.contains x).map .str))):=k3.trans (zX.new hr3);have g4:(put G3 r3 (.lst ((u.ns.filter fun x=>!es.contains x).map .str))) r3=some (.lst ((u.ns.filter fun x=>!es.contains x).map .str)):=zY;generalize put G3 r3 (.lst ((u.ns.filter fun x=>!es.contains x).map .str))=G4 at k4 g4 ⊢;have fl:(u.ns.filter fun x=>!es.contains x).length<=4:=Nat.le_trans (List.length_filter_le _ _) u4;refine ⟨_,_,k4 _ _ (by simp) g2,zW g4,sz _ (by rw [zzM,zzM];omega),?_⟩;refine uC ?_;refine ⟨es++(u.ns.filter fun x=>!es.contains x),_,rfl,by rw [zY];simp,by rw [zzW];omega,fun x hx=>?_,jV (k2.trans (mV k4)) hpe,qL ne (mJ k4 D2),by rw [yU npe];exact k4 _ _ (by simp) gp2⟩;rcases List.mem_append.mp hx with hx|hx
    .exact hN2 x hx
    .exact wi.xs u um x (List.mem_filter.mp hx).1
  .rintro σ G2 ⟨es,v,rfl,g2,hl2,hN2,k2,D2,gp2⟩;rw [zzM] at hl2;refine yL ?_
   ((try dsimp only [zS,zQ,zM,zI,zB,yX,yW,zO,zT,zN,zU,zZ,zR,zP,zJ,zL,yY,zK,gZ,gS,tZ,tS]);try simp only [e5])
   refine .inr ⟨es,zW g2,by omega,fun es' pe' _ r3 hr3=>?_⟩;have k3:zX [d,l] G (put G2 r3 (.lst (es'.map .str))):=k2.trans (zX.new hr3);have D3:=xI (o:=.lst (es'.map .str)) hr3 D2;have g3:(put G2 r3 (.lst (es'.map .str))) r3=some (.lst (es'.map .str)):=zY;have n3:=qY D2 hr3;generalize put G2 r3 (.lst (es'.map .str))=G3 at k3 D3 g3 ⊢;have el:=pe'.length_eq;refine yL ?_
   ((try dsimp only [zS,zQ,zM,zI,zB,yX,yW,zO,zT,zN,zU,zZ,zR,zP,zJ,zL,yY,zK,gZ,gS,tZ,tS]);try simp only [e1,uM,vE,g3,zzM,yT,pU])
   by_cases hl:0<es'.length
   .rw [if_pos (by show decide ((0:Int)<(es'.length:Int))=true;exact decide_eq_true (by omega))];refine yL ?_
    ((try dsimp only [zS,zQ,zM,zI,zB,yX,yW,zO,zT,zN,zU,zZ,zR,zP,zJ,zL,yY,zK,gZ,gS,tZ,tS]);try simp only [e6,s2,e10,e1,uM,vE,g3,zzM])
    refine ⟨d,l,es'.length,rfl,D3,⟨by omega,by omega⟩,fun q G4 q0 q1 k4 D4=>?_⟩;obtain ⟨x,hx,ex⟩:=zfg q0 q1;refine bD (zW (k4 _ _ n3 g3)) ?_;rw [ex];refine ⟨z1,?_⟩;simp only [jZ,List.length_cons,List.length_nil];refine ⟨sz _ (by rw [zzM];omega),?_⟩;refine ⟨ns++[x],by simp [xZ],by simp;omega,fun ts nd hm _ r5 hr5=>?_⟩;have hx':=hN2 x (pe'.mem_iff.mp hx)
    have tN:∀ y∈ts,y∈N:=fun y hy=>by
     rcases List.mem_append.mp ((hm y).mp hy) with h|h
     .exact s.nN y h
     .rw [zzO h];exact hx'
    simp only [nZ,xZ,zW zY];show D.nx _ _;refine hD _ ts _ _ ((k3.trans k4).trans (zX.new hr5)) (xI hr5 D4) ⟨?_,tN,s.l12,s.lM⟩;have:=cQ nd tN;omega
   .rw [if_neg (by show ¬ decide ((0:Int)<(es'.length:Int))=true;rw [decide_eq_false (by omega)];exact zzN)];show D.nx _ _;exact hD G3 ns _ _ k3 D3 s
 .rw [decide_eq_false hw,if_neg zzN];refine uC ?_;exact hD G ns v9 v10 zX.refl D0 s
theorem za6 {n:Nat} (hn:12<=n) {ws:List W} {G:Hw} {Q:Q3} (h:tK ws G Q XN):zE (yI K sA n) XN yM { nx:=fun _ G'=>Q .non G',rt:=Q } (yB jN ws) G:=by
 obtain ⟨d,l,web,N,rfl,D0,wo,wi,hN,h⟩:=h;have e1:(yI K sA n).fn[1]?=some mL:=qT 1 hn rfl;have e3:(yI K sA n).fn[3]?=some eLst:=qT 3 hn rfl;have e6:(yI K sA n).fn[6]?=some eTup:=qT 6 hn rfl;have e10:(yI K sA n).fn[10]?=some vB:=qT 10 hn rfl;have i0:(yI K sA n).it[0]?=some cC:=rfl;have z2:=sz 2 (by decide);show zE (yI K sA n) XN yM { nx:=fun _ G'=>Q .non G',rt:=Q } [some (.ref d),some (xR web),none,none,none,none,none,none,none,none,none] G;simp only [yM];refine yL ?_
 ((try dsimp only [zS,zQ,zM,zI,zB,yX,yW,zO,zT,zN,zU,zZ,zR,zP,zJ,zL,yY,zK,gZ,gS,tZ,tS]);try simp only [e3,lstS,xR,xZ])
 intro pr hpr;have np:=qY D0 hpr;have k1:zX [d,l] G (put G pr (.lst (web.map Wd.w))):=zX.new hpr;have D1:=xI (o:=.lst (web.map Wd.w)) hpr D0;have g1:(put G pr (.lst (web.map Wd.w))) pr=some (.lst (web.map Wd.w)):=zY;generalize put G pr (.lst (web.map Wd.w))=G1 at k1 D1 g1 ⊢;refine yL ?_
 ((try dsimp only [zS,zQ,zM,zI,zB,yX,yW,zO,zT,zN,zU,zZ,zR,zP,zJ,zL,yY,zK,gZ,gS,tZ,tS]);try simp only [e10,i0,jZ])
 refine ⟨d,l,3,rfl,D1,by decide,fun q G2 q0 q1 k2 D2=>?_⟩;refine ⟨⟨by omega,by omega⟩,?_⟩
 refine ⟨fun i σ G'=>∃ (w1:List Wd) (v3 v4 v5 v6 v7 v8 v9 v10:Option W),σ=[some (.ref d),some (xR web),some (.ref pr),v3,v4,v5,v6,v7,v8,v9,v10]/\WOk w1/\WIn N w1/\G' pr=some (.lst (w1.map Wd.w))/\zX [d,l] G G'/\yC G' d l,
  ⟨web,none,none,none,none,none,none,none,none,rfl,wo,wi,k2 _ _ np g1,k1.trans k2,D2⟩,fun _ _ _ _ _=>trivial,?_,?_⟩
 .rintro i w σ G3 hw ⟨w1,v3,v4,v5,v6,v7,v8,v9,v10,rfl,wo1,wi1,gp3,k3,D3⟩;have h1:=wo1.one;have h12:=wo1.few;refine yL ?_
  ((try dsimp only [zS,zQ,zM,zI,zB,yX,yW,zO,zT,zN,zU,zZ,zR,zP,zJ,zL,yY,zK,gZ,gS,tZ,tS]);try simp only [e1,e10,uM,vE,gp3,zzM])
  refine ⟨d,l,w1.length,rfl,D3,⟨by omega,by omega⟩,fun qa G4 a0 a1 k4 D4=>?_⟩;obtain ⟨a,rfl⟩:∃ a:Nat,qa=(a:Int):=⟨qa.toNat,by omega⟩;have ha:a<w1.length:=by omega
  obtain ⟨v,hv⟩:∃ v,w1[a]?=some v:=⟨w1[a],List.getElem?_eq_getElem ha⟩;have vm:=List.mem_of_getElem? hv;have gp4:=k4 _ _ np gp3;refine yL ?_
  (try dsimp only [zS,zQ,zM,zI,zB,yX,yW,zO,zT,zN,zU,zZ,zR,zP,zJ,zL,yY,zK,gZ,gS,tZ,tS])
  refine bD (zW gp4) ?_;rw [atN (w:=v.w) (by rw [List.getElem?_map,hv];rfl)]
  ((try dsimp only [zS,zQ,zM,zI,zB,yX,yW,zO,zT,zN,zU,zZ,zR,zP,zJ,zL,yY,zK,gZ,gS,tZ,tS]);try simp only [Wd.w])
  refine yL ?_
  ((try dsimp only [zS,zQ,zM,zI,zB,yX,yW,zO,zT,zN,zU,zZ,zR,zP,zJ,zL,yY,zK,gZ,gS,tZ,tS]);try simp only [e10])
  refine ⟨d,l,3,rfl,D4,by decide,fun way G5 w0 w3 k5 D5=>?_⟩;have sp:SP N w1.length v.ns v.ls:=⟨wi1.nl v vm,wi1.xs v vm,wo1.ll v vm,wo1.inw v vm⟩;refine yL ?_;refine zdv (v3:=some w) (a:=a) (pr:=pr) (web:=web) (way:=way) (v8:=v8) (v9:=v9) (v10:=v10) hn D5 sp _ fun G6 ns v8' k6 D6 sp6=>?_;have kk6:=((k3.trans k4).trans k5).trans k6;have gp6:=k6 _ _ np (k5 _ _ np gp4);refine yL ?_;refine zdx (v3:=some w) (a:=a) (pr:=pr) (web:=web) (way:=way) (v8:=v8') (v9:=v9) (v10:=v10) hn D6 sp6 wo1 wi1 hN np gp6 _ fun G7 ns7 v9' v10' k7 D7 sp7=>?_;refine yL ?_;refine zdw (v3:=some w) (a:=a) (pr:=pr) (web:=web) (way:=way) (v8:=v8') (v9:=v9') (v10:=v10') hn D7 sp7 _ fun G8 ls8 v8'' k8 D8 sp8=>?_;have gp8:=k8 _ _ np (k7 _ _ np gp6);refine yL ?_
  ((try dsimp only [zS,zQ,zM,zI,zB,yX,yW,zO,zT,zN,zU,zZ,zR,zP,zJ,zL,yY,zK,gZ,gS,tZ,tS]);try simp only [sl,zzC,zzL,zzA,Nat.reduceAdd,z2,true_and])
  simp only [sH,gp8]
  have ei:gQ (w1.map Wd.w).length (a:Int)=some a:=by
   unfold gQ;rw [if_pos (by omega),zzM,if_pos (by omega)];simp
  rw [ei];refine uC ?_;obtain ⟨wo9,wi9⟩:=zhA (a:=a) wo1 wi1 sp8.n4 sp8.nN sp8.l12 sp8.lM;refine ⟨w1.set a ⟨ns7,ls8⟩,_,_,_,_,_,_,_,_,rfl,wo9,wi9,?_,?_,qL np D8⟩
  .rw [zY,List.map_set];rfl
  .exact jV ((kk6.trans k7).trans k8) hpr
 .rintro σ G3 ⟨w1,v3,v4,v5,v6,v7,v8,v9,v10,rfl,wo1,wi1,gp3,k3,D3⟩;refine yL ?_
  ((try dsimp only [zS,zQ,zM,zI,zB,yX,yW,zO,zT,zN,zU,zZ,zR,zP,zJ,zL,yY,zK,gZ,gS,tZ,tS]);try simp only [e6,nZ,xZ,zW gp3])
  exact h w1 G3 wo1 k3 D3
end
theorem cR (ns:List Str):WOk [⟨ns,[]⟩]:=⟨by simp,by simp,(fun v hv j hj=>by rw [zzO hv] at hj;cases hj),(fun v hv=>by rw [zzO hv];exact Nat.zero_le _)⟩
theorem zbD (ns:List Str) (x:Str):tv ns (.say x)=ns.contains x:=zeN (v:=⟨ns,[]⟩) rfl
theorem zbE (ns:List Str) (a:Sy):tv ns (.neg a)=!tv ns a:=by
 unfold tv;rw [ze0 (cR ns) (v:=⟨ns,[]⟩) rfl];show ([0].filter fun j=>(tr [⟨ns,[]⟩] a).getD j false).isEmpty=_;rw [List.filter_cons];cases (tr [⟨ns,[]⟩] a).getD 0 false<;>rfl
theorem zfq (ns:List Str) (a b:Sy):tv ns (.two .im a b)=(tv ns b || !tv ns a):=by
 unfold tv;rw [ziW (cR ns) (v:=⟨ns,[]⟩) rfl];show ([0].filter fun j=>(tr [⟨ns,[]⟩] a).getD j false&&!(tr [⟨ns,[]⟩] b).getD j false).isEmpty=_;rw [List.filter_cons];cases (tr [⟨ns,[]⟩] a).getD 0 false<;>cases (tr [⟨ns,[]⟩] b).getD 0 false<;>rfl
theorem zfr (ns:List Str) (a b:Sy):tv ns (.two .an a b)=(tv ns a&&tv ns b):=zjg (by simp)
theorem zfp (ns:List Str) (a b:Sy):tv ns (.two .or a b)=(tv ns a || tv ns b):=zh4 (by simp)
theorem vR {ns ns':List Str} (h:∀ x,bF x=true->ns.contains x=ns'.contains x):∀ t:Sy,t.ok->tv ns t=tv ns' t
 | .say x,o=>by rw [zbD,zbD,h x o]
 | .neg a,o=>by rw [zbE,zbE,vR h a o]
 | .two .an a b,o=>by rw [zfr,zfr,vR h a o.1,vR h b o.2]
 | .two .or a b,o=>by rw [zfp,zfp,vR h a o.1,vR h b o.2]
 | .two .im a b,o=>by rw [zfq,zfq,vR h a o.1,vR h b o.2]
theorem cE {G:Hw} {p q:Addr} {l m:List Bool} (hp:G p=some (.lst (xS l))) (hq:G q=some (.lst (xS m))):eqG G (.ref p) (.ref q)=some (l==m):=by
 simp only [eqG,zW hp,zW hq];rw [if_pos (by rw [pL,pL,pI,pI];rfl)]
 have:∀ l m:List Bool,qS (xS l) (xS m)=(l==m):=by
  intro l
  induction l with
  |nil=>intro m;cases m<;>simp [xS,qS]
  |cons x l ih =>
   intro m
   cases m with
   |nil=>simp [xS,qS]
   |cons y m =>
    show (kQ (.bl x) (.bl y)&&qS (xS l) (xS m))=_;rw [ih m];simp [kQ]
 rw [this]
theorem zaY:∀ l:List Nat,jX (yZ l)=0
 | []=>rfl
 |x::l=>by show max (dep (.int x)) (jX (yZ l))=0;rw [zaY l];rfl
theorem zaT:∀ l:List Nat,qS (yZ l) (yZ l)=true
 | []=>rfl
 |x::l=>by show (kQ (.int x) (.int x)&&qS (yZ l) (yZ l))=true;rw [zaT l];simp [kQ]
theorem cF {G:Hw} {p q:Addr} {l:List Nat} (hp:G p=some (.lst (yZ l))) (hq:G q=some (.lst (yZ l))):eqG G (.ref p) (.ref q)=some true:=by
 simp only [eqG,zW hp,zW hq];rw [if_pos (by rw [tE,zaY];rfl),zaT]
theorem zeF (l:List Bool):((xS l).any fun w=>kQ w (.bl true))=l.contains true:=by
 induction l with
 |nil=>rfl
 |cons x l ih =>
  show (kQ (.bl x) (.bl true) || (xS l).any fun w=>kQ w (.bl true))=_;rw [ih];cases x<;>simp [kQ]
theorem zbI {l:List Bool} {G:Hw} {Q:Q3} (q:Q (.bl (l.contains true)) G):L3.inR false (.bl true) (xS l) G Q:=by
 refine ⟨⟨by simp [uJ],pL l,by rw [pI];simp⟩,?_⟩;rw [zeF];exact q
theorem ziZ (f:Nat->Bool) (l:List Nat):l.filterMap (fun i=>if f i=true then some (W.int (i:Nat)) else none)=yZ (l.filter f):=by
 induction l with
 |nil=>rfl
 |cons x l ih =>
  rw [List.filterMap_cons,List.filter_cons]
  by_cases h:f x=true
  .rw [if_pos h,if_pos h,ih];rfl
  .rw [if_neg h,if_neg h,ih]
section
variable {K : yN} {sA : Addr}
theorem zgT {r:Addr} {l:List Bool} {G:Hw} {turn:W->Hw->(Option W->Hw->Prop)->Prop} {Q:Q3} (gr:G r=some (.lst (xS l))) (hl:l.length<=100)
  (step:∀ (i:Nat) (x:Bool) G' (k:Option W->Hw->Prop),k (if (!x)=true then some (.int i) else none) G'->turn (.tup [.int i,.bl x]) G' k)
  (fin:∀ G' r',zX [] G G'->G' r'=none->Q (.ref r') (put G' r' (.lst (yZ ((List.range l.length).filter fun k=>!l.getD k false))))) :
  enI [.ref r] G fun items stab G1=>lcR items stab G1 turn Q:=by
 refine ⟨xS l,zW gr,?_⟩;have len:(enW (xS l)).length=l.length:=by simp [enW,xS]
 refine vX (fun i=>if (fun k=>!l.getD k false) i=true then some (.int (i:Nat)) else none) (by rw [len];omega) (fun G' k=>zW (k _ _ (by simp) gr)) (fun i w G' k hw kp hk=>?_) (fun G' r' k hr=>?_)
 .have hi:=(List.getElem?_eq_some_iff.mp hw).1;rw [len] at hi
  have e:w=.tup [.int (i:Nat),.bl (l.getD i false)]:=by
   simp [enW,xS,hi] at hw;rw [← hw];simp [List.getD,hi]
  rw [e];exact step i _ G' k (hk G' kp)
 .have:=fin G' r' k hr;rw [len,ziZ];exact this
theorem zcV {n:Nat} (hn:24<=n) {ws:List W} {G:Hw} {Q:Q3} (h:pM ws G Q XN):zE (yI K sA n) XN bM { nx:=fun _ G'=>Q .non G',rt:=Q } (yB zcn ws) G:=by
 obtain ⟨web,t,rfl,wo,ts,h⟩:=h;have e22:(yI K sA n).fn[22]?=some ⟨"truths_of", vO⟩:=qT 22 hn rfl;have i2:(yI K sA n).it[2]?=some eEn:=rfl;have w12:=wo.few;show zE (yI K sA n) XN bM { nx:=fun _ G'=>Q .non G',rt:=Q } [some (xR web),some t.w] G;simp only [bM];refine yL ?_
 ((try dsimp only [zS,zQ,zM,zI,zB,yX,yW,zO,zT,zN,zU,zZ,zR,zP,zJ,zL,yY,zK,gZ,gS,tZ,tS]);try simp only [i2,e22])
 refine ⟨web,t,rfl,wo,ts,fun r G' kp hr gr=>?_⟩;refine zgT gr (by rw [xW];omega) (fun i x G2 k hk=>?_) (fun G2 r2 k2 hr2=>?_)
 ·((try dsimp only [zS,zQ,zM,zI,zB,yX,yW,zO,zT,zN,zU,zZ,zR,zP,zJ,zL,yY,zK,gZ,gS,tZ,tS]);try simp only [jS,zzC,zzL,zzA,Nat.reduceAdd,List.replicate,zzU,zzV,List.cons_append,List.nil_append,List.append_nil,Option.join_some])
  cases x<;>exact hk
 .rw [xW];exact h.keep kp r2 _ (k2.trans (zX.new hr2)) (k2.none (by simp) hr2) zY
theorem zaa {n:Nat} (hn:25<=n) {ws:List W} {G:Hw} {Q:Q3} (h:tL ws G Q XN):zE (yI K sA n) XN sQ { nx:=fun _ G'=>Q .non G',rt:=Q } (yB nP ws) G:=by
 obtain ⟨ns,t,rfl,ts,h⟩:=h;have e23:(yI K sA n).fn[23]?=some ⟨"bears", tI⟩:=qT 23 hn rfl;have z0:=sz 0 (by decide);have z1:=sz 1 (by decide);have z2:=sz 2 (by decide);show zE (yI K sA n) XN sQ { nx:=fun _ G'=>Q .non G',rt:=Q } [some (.tup (ns.map .str)),some t.w] G;simp only [sQ];refine yL ?_
 ((try dsimp only [zS,zQ,zM,zI,zB,yX,yW,zO,zT,zN,zU,zZ,zR,zP,zJ,zL,yY,zK,gZ,gS,tZ,tS]);try simp only [e23,zzC,zzL,zzA,Nat.reduceAdd,z0,z1,z2,true_and])
 exact ⟨[⟨ns,[]⟩],t,0,rfl,cR ns,ts,by simp,h⟩
theorem zdr {n:Nat} {ws:List W} {G:Hw} {Q:Q3} (h:jA (n+1) ws G Q XN):zE (uK K sA 15 ⟨"_law_true", jA n⟩) XN kA { nx:=fun _ G'=>Q .non G',rt:=Q } (yB tW ws) G:=by
 obtain ⟨ns,t,rfl,hns,hd,h⟩:=h;have e7:(uK K sA 15 ⟨"_law_true", jA n⟩).fn[7]?=some eInt:=rfl;have e15:(uK K sA 15 ⟨"_law_true", jA n⟩).fn[15]?=some ⟨"_law_true", jA n⟩:=rfl;have z1:=sz 1 (by decide);have z2:=sz 2 (by decide);show zE (uK K sA 15 ⟨"_law_true", jA n⟩) XN kA { nx:=fun _ G'=>Q .non G',rt:=Q } [some (.tup (ns.map .str)),some t.w,none] G;simp only [kA]
 have kd:∀ (t:Sy) (c:Str) (ks:List Sy) (Q':Q3),t.deep<n+1->t.w=.tup (.str c::ks.map Sy.w)->(∀ a∈ks,a.deep<n)->ks.length<=2 ->
   (∀ G' r,zX [] G G'->G' r=none->Q' (.ref r) (put G' r (.lst (xS (ks.map (tv ns)))))) ->
   (zI (uK K sA 15 ⟨"_law_true", jA n⟩) XN (.lc (.nm 0) ["_law_part"] [0] (.val (.sl (.var 1) (.yes (.con (.int 1))) .no)) .no (.call 15 (.cons (.var 1) (.cons (.var 0) .nil))))).e [some (.tup (ns.map .str)),some t.w,none] G Q':=by
  intro t c ks Q' ht ew hk hl fin
  ((try dsimp only [zS,zQ,zM,zI,zB,yX,yW,zO,zT,zN,zU,zZ,zR,zP,zJ,zL,yY,zK,gZ,gS,tZ,tS]);try simp only [ew,gB,dW,wS])
  refine vX (fun i=>some (.bl (tv ns (ks.getD i (.say ""))))) (by rw [zzM];omega) (fun _ _=>trivial) (fun i w G2 k hw k2 hk2=>?_) (fun G2 r2 k2 hr2=>?_)
  .rw [List.getElem?_map] at hw;obtain ⟨a,ha,rfl⟩:=Option.map_eq_some_iff.mp hw;rw [gD ha] at hk2;simp only [jS,List.replicate,zzU,zzV,List.cons_append,List.nil_append,gZ,gS,tZ,tS,Option.join_some,List.length_cons,List.length_nil]
   ((try dsimp only [zS,zQ,zM,zI,zB,yX,yW,zO,zT,zN,zU,zZ,zR,zP,zJ,zL,yY,zK,gZ,gS,tZ,tS]);try simp only [if_true,e15])
   exact ⟨ns,a,rfl,hns,hk a (List.mem_of_getElem? ha),fun G3 k3=>hk2 G3 (k2.trans k3)⟩
  .have:=fin G2 r2 k2 hr2;rw [zzM,jD,rX (fun a=>W.bl (tv ns a)) (.say "") ks];rw [xS,List.map_map] at this;exact this
 cases t with
 |say x =>
  refine yL ?_
  ((try dsimp only [zS,zQ,zM,zI,zB,yX,yW,zO,zT,zN,zU,zZ,zR,zP,zJ,zL,yY,zK,gZ,gS,tZ,tS]);try simp only [Sy.w,ix0,ix1,yT,yR,beq_self_eq_true,if_true,vH])
  refine yL ?_
  ((try dsimp only [zS,zQ,zM,zI,zB,yX,yW,zO,zT,zN,zU,zZ,zR,zP,zJ,zL,yY,zK,gZ,gS,tZ,tS]);try simp only [Sy.w,ix0,ix1,yT,vH])
  refine inS ?_;simp only [zzB,if_false];rw [← zbD];exact h G zX.refl
 |neg a =>
  have q1:(("not" : Str) == "say")=false:=by decide +kernel
  refine yL ?_
  ((try dsimp only [zS,zQ,zM,zI,zB,yX,yW,zO,zT,zN,zU,zZ,zR,zP,zJ,zL,yY,zK,gZ,gS,tZ,tS]);try simp only [Sy.w,ix0,yT,yR,q1,zzB,if_false])
  refine uC ?_;refine yL ?_;refine kd (.neg a) "not" [a] _ hd rfl (fun b hb=>by rw [zzO hb];simp only [Sy.deep] at hd;omega) (by simp) fun G2 r2 k2 hr2=>?_;have k3:zX [] G (put G2 r2 (.lst (xS ([a].map (tv ns))))):=k2.trans (zX.new hr2);have g3:(put G2 r2 (.lst (xS ([a].map (tv ns))))) r2=some (.lst (xS ([a].map (tv ns)))):=zY;generalize put G2 r2 (.lst (xS ([a].map (tv ns))))=G3 at k3 g3 ⊢;refine yL ?_
  ((try dsimp only [zS,zQ,zM,zI,zB,yX,yW,zO,zT,zN,zU,zZ,zR,zP,zJ,zL,yY,zK,gZ,gS,tZ,tS]);try simp only [Sy.w,ix0,yT,yR,beq_self_eq_true,if_true])
  refine yL ?_
  ((try dsimp only [zS,zQ,zM,zI,zB,yX,yW,zO,zT,zN,zU,zZ,zR,zP,zJ,zL,yY,zK,gZ,gS,tZ,tS]);try simp only [zzC,zzL,zzA,z1,true_and])
  intro r4 hr4;have k4:zX [] G3 (put G3 r4 (.lst [.bl false])):=zX.new hr4;have g4:(put G3 r4 (.lst [.bl false])) r4=some (.lst (xS [false])):=zY;simp only [yT,cE (k4 _ _ (by simp) g3) g4];have:=h _ (k3.trans k4);rw [zbE] at this;cases ha:tv ns a<;>rw [ha] at this<;>simp only [zzU,zzV,ha]<;>exact this
 |two c a b =>
  have q1:=(vD c).1;have q2:=(vD c).2;refine yL ?_
  ((try dsimp only [zS,zQ,zM,zI,zB,yX,yW,zO,zT,zN,zU,zZ,zR,zP,zJ,zL,yY,zK,gZ,gS,tZ,tS]);try simp only [Sy.w,ix0,yT,yR,q1,zzB,if_false])
  refine uC ?_;refine yL ?_
  refine kd (.two c a b) (kw c) [a,b] _ hd rfl (fun x hx=>by 
   simp only [Sy.deep] at hd;rcases List.mem_cons.mp hx with rfl|hx
   .omega
   .rw [zzO hx];omega) (by simp) fun G2 r2 k2 hr2=>?_
  have k3:zX [] G (put G2 r2 (.lst (xS ([a,b].map (tv ns))))):=k2.trans (zX.new hr2);have g3:(put G2 r2 (.lst (xS ([a,b].map (tv ns))))) r2=some (.lst (xS ([a,b].map (tv ns)))):=zY;generalize put G2 r2 (.lst (xS ([a,b].map (tv ns))))=G3 at k3 g3 ⊢;refine yL ?_
  ((try dsimp only [zS,zQ,zM,zI,zB,yX,yW,zO,zT,zN,zU,zZ,zR,zP,zJ,zL,yY,zK,gZ,gS,tZ,tS]);try simp only [Sy.w,ix0,yT,yR,q2,zzB,if_false])
  refine uC ?_
  have last:c≠.im->zE (uK K sA 15 ⟨"_law_true", jA n⟩) XN (.cons (.ret (.ix (.lst (.cons (.cmp .Eq (.var 2) (.lst (.cons (.con (.bool true)) (.cons (.con (.bool true)) .nil)))) (.cons (.cmp .In (.con (.bool true)) (.var 2)) .nil))) (.call 7 (.cons (.cmp .Eq (.ix (.var 1) (.con (.int 0))) (.con (.str "or"))) .nil)))) .nil) { nx:=fun _ G'=>Q .non G',rt:=Q } [some (.tup (ns.map .str)),some (Sy.two c a b).w,some (.ref r2)] G3:=by
   intro hc;refine yL ?_
   ((try dsimp only [zS,zQ,zM,zI,zB,yX,yW,zO,zT,zN,zU,zZ,zR,zP,zJ,zL,yY,zK,gZ,gS,tZ,tS]);try simp only [zzC,zzL,zzA,Nat.reduceAdd,z2,true_and])
   intro r4 hr4;have k4:zX [] G3 (put G3 r4 (.lst [.bl true,.bl true])):=zX.new hr4;have g4:(put G3 r4 (.lst [.bl true,.bl true])) r4=some (.lst (xS [true,true])):=zY;generalize put G3 r4 (.lst [.bl true,.bl true])=G4 at k4 g4 ⊢;have g34:=k4 _ _ (by simp) g3;simp only [yT,cE g34 g4,vH,g34];refine zbI ?_;intro r5 hr5;have k5:=k3.trans (k4.trans (zX.new (o:=.lst [.bl ([a,b].map (tv ns)==[true,true]),.bl (([a,b].map (tv ns)).contains true)]) hr5));have g5:(put G4 r5 (.lst [.bl ([a,b].map (tv ns)==[true,true]),.bl (([a,b].map (tv ns)).contains true)])) r5=some (.lst [.bl ([a,b].map (tv ns)==[true,true]),.bl (([a,b].map (tv ns)).contains true)]):=zY;generalize put G4 r5 (.lst [.bl ([a,b].map (tv ns)==[true,true]),.bl (([a,b].map (tv ns)).contains true)])=G5 at k5 g5 ⊢
   ((try dsimp only [zS,zQ,zM,zI,zB,yX,yW,zO,zT,zN,zU,zZ,zR,zP,zJ,zL,yY,zK,gZ,gS,tZ,tS]);try simp only [Sy.w,ix0,yR,e7,cH])
   have:=h _ k5
   cases c with
   |im=>exact absurd rfl hc
   |an =>
    rw [show ((kw .an:Str) == "or")=false by decide +kernel];refine bD (zW g5) ?_;rw [zfr] at this;simp only [zzB,if_false];rw [qD];cases ha:tv ns a<;>cases hb:tv ns b<;>rw [ha,hb] at this<;>simp only [zzU,zzV,ha,hb]<;>exact this
   |or =>
    rw [show ((kw .or:Str) == "or")=true by decide +kernel];refine bD (zW g5) ?_;rw [zfp] at this;simp only [if_true];rw [at_1];cases ha:tv ns a<;>cases hb:tv ns b<;>rw [ha,hb] at this<;>simp only [zzU,zzV,ha,hb]<;>exact this
  refine yL ?_
  ((try dsimp only [zS,zQ,zM,zI,zB,yX,yW,zO,zT,zN,zU,zZ,zR,zP,zJ,zL,yY,zK,gZ,gS,tZ,tS]);try simp only [Sy.w,ix0,yT,yR])
  cases c with
  |im =>
   rw [show ((kw .im:Str) == "if")=true by decide +kernel,if_pos rfl];refine yL ?_
   ((try dsimp only [zS,zQ,zM,zI,zB,yX,yW,zO,zT,zN,zU,zZ,zR,zP,zJ,zL,yY,zK,gZ,gS,tZ,tS]);try simp only [zzC,zzL,zzA,Nat.reduceAdd,z2,true_and])
   intro r4 hr4;have k4:zX [] G3 (put G3 r4 (.lst [.bl true,.bl false])):=zX.new hr4;have g4:(put G3 r4 (.lst [.bl true,.bl false])) r4=some (.lst (xS [true,false])):=zY;simp only [yT,cE (k4 _ _ (by simp) g3) g4];have:=h _ (k3.trans k4);rw [zfq] at this;cases ha:tv ns a<;>cases hb:tv ns b<;>rw [ha,hb] at this<;>simp only [zzU,zzV,ha,hb]<;>exact this
  |an =>
   rw [show ((kw .an:Str) == "if")=false by decide +kernel,if_neg zzN];refine uC ?_;exact last (by intro e;cases e)
  |or =>
   rw [show ((kw .or:Str) == "if")=false by decide +kernel,if_neg zzN];refine uC ?_;exact last (by intro e;cases e)
end
section
variable {K : yN} {sA : Addr}
theorem zgf {n:Nat} (hn:26<=n) {s0:W} {ns:List Int} {G:Hw} {Q:Q3} (sc:dJ G s0 ns) (nl:ns.length<=63) (h:∀ G',Q (.bl true) G'):zE (yI K sA n) XN blaw { nx:=fun _ G'=>Q .non G',rt:=Q } (yB nlaw [s0]) G:=by
 have e1:(yI K sA n).fn[1]?=some mL:=qT 1 hn rfl;have e7:(yI K sA n).fn[7]?=some eInt:=qT 7 hn rfl;have e9:(yI K sA n).fn[9]?=some zi5:=qT 9 hn rfl;have e10:(yI K sA n).fn[10]?=some vB:=qT 10 hn rfl;have e11:(yI K sA n).fn[11]?=some ⟨"_law_names", pN⟩:=qT 11 hn rfl;have e12:(yI K sA n).fn[12]?=some ⟨"_law_web", zdy⟩:=qT 12 hn rfl;have e13:(yI K sA n).fn[13]?=some ⟨"_law_saying", xD 20⟩:=qT 13 hn rfl;have e14:(yI K sA n).fn[14]?=some ⟨"_law_spoilt_web", tK⟩:=qT 14 hn rfl;have e3:(yI K sA n).fn[3]?=some eLst:=qT 3 hn rfl;have e4:(yI K sA n).fn[4]?=some (eIsj K):=qT 4 hn rfl;have e5:(yI K sA n).fn[5]?=some zc0:=qT 5 hn rfl;have e6:(yI K sA n).fn[6]?=some eTup:=qT 6 hn rfl;have e15:(yI K sA n).fn[15]?=some ⟨"_law_true", jA 21⟩:=qT 15 hn rfl;have e16:(yI K sA n).fn[16]?=some ⟨"_law_borne", uX 21⟩:=qT 16 hn rfl;have e23:(yI K sA n).fn[23]?=some ⟨"bears", tI⟩:=qT 23 hn rfl;have e24:(yI K sA n).fn[24]?=some ⟨"fails", pM⟩:=qT 24 hn rfl;have e25:(yI K sA n).fn[25]?=some ⟨"true_by", tL⟩:=qT 25 hn rfl;have i2:(yI K sA n).it[2]?=some eEn:=rfl;have t2:(yI K sA n).mt[2]?=some eApp:=rfl;have g0:(yI K sA n).gl[0]?=some (("bool" : Str),.ty "bool"):=rfl;have g1:(yI K sA n).gl[1]?=some (("list" : Str),.ty "list"):=rfl;have z0:=sz 0 (by decide);have z1:=sz 1 (by decide);have i0:(yI K sA n).it[0]?=some cC:=rfl;have s4:(yI K sA n).sx[4]?=some ⟨emM,emS⟩:=rfl;have z2:=sz 2 (by decide);show zE (yI K sA n) XN blaw { nx:=fun _ G'=>Q .non G',rt:=Q } [some s0,none,none,none,none,none,none,none,none,none,none,none] G;simp only [blaw];refine yL ?_
 ((try dsimp only [zS,zQ,zM,zI,zB,yX,yW,zO,zT,zN,zU,zZ,zR,zP,zJ,zL,yY,zK,gZ,gS,tZ,tS]);try simp only [e9])
 refine ⟨s0,0,ns,rfl,sc,nl,by decide,fun d l G1 hd hl k1 D1=>?_⟩;refine yL ?_
 ((try dsimp only [zS,zQ,zM,zI,zB,yX,yW,zO,zT,zN,zU,zZ,zR,zP,zJ,zL,yY,zK,gZ,gS,tZ,tS]);try simp only [e11,e10,jZ])
 refine ⟨d,l,4,rfl,D1,by decide,fun q2 G2 q20 q21 k2 D2=>?_⟩;refine ⟨d,l,2+q2,rfl,D2,by omega,by omega,fun r xs G3 lx ox nr gr k3 D3=>?_⟩;refine yL ?_
 ((try dsimp only [zS,zQ,zM,zI,zB,yX,yW,zO,zT,zN,zU,zZ,zR,zP,zJ,zL,yY,zK,gZ,gS,tZ,tS]);try simp only [e12,gB,zW gr])
 have cx:pG (xs.map W.str) (some 1) none=(xs.drop 1).map .str:=by
  have:=zaZ (l:=xs.map W.str) (i:=1) (by rw [zzM];omega);rw [List.map_drop];exact this
 rw [cx];intro r4 hr4;have n4:=qY D3 hr4;have k4:zX [d,l] G3 (put G3 r4 (.lst ((xs.drop 1).map .str))):=zX.new hr4;have D4:=xI (o:=.lst ((xs.drop 1).map .str)) hr4 D3;have g4:(put G3 r4 (.lst ((xs.drop 1).map .str))) r4=some (.lst ((xs.drop 1).map .str)):=zY;have gr4:=k4 _ _ nr gr;generalize put G3 r4 (.lst ((xs.drop 1).map .str))=G4 at k4 D4 g4 gr4 ⊢;refine ⟨d,l,r4,12,xs.drop 1,rfl,D4,n4,g4,by rw [List.length_drop];omega,by decide,by decide,fun web G5 wo gw wi k5 D5=>?_⟩;have gr5:=k5 _ _ nr gr4;refine yL ?_
 ((try dsimp only [zS,zQ,zM,zI,zB,yX,yW,zO,zT,zN,zU,zZ,zR,zP,zJ,zL,yY,zK,gZ,gS,tZ,tS]);try simp only [zzC,zzL,zzA,Nat.reduceAdd,z2,true_and])
 intro p6 hp6;have k6:zX [d,l] G5 (put G5 p6 (.lst [.int 9,.int 20])):=zX.new hp6;have D6:=xI (o:=.lst [.int 9,.int 20]) hp6 D5;have g6:(put G5 p6 (.lst [.int 9,.int 20])) p6=some (.lst [.int 9,.int 20]):=zY;have n6:=qY D5 hp6;have gr6:=k6 _ _ nr gr5;generalize put G5 p6 (.lst [.int 9,.int 20])=G6 at k6 D6 g6 gr6 ⊢;simp only [e7,e10];refine ⟨d,l,8,rfl,D6,by decide,fun q7 G7 q70 q71 k7 D7=>?_⟩;have g7:=k7 _ _ n6 g6;have gr7:=k7 _ _ nr gr6;simp only [yT,jU,cH]
 have rest:∀ mo:Int,9<=mo->mo<=20->zE (yI K sA n) XN (tl (tl (tl (tl blaw)))) { nx:=fun _ G'=>Q .non G',rt:=Q } [some s0,some (.ref d),some (.ref r),some (xR web),some (.int mo),none,none,none,none,none,none,none] G7:=by
  intro mo m9 m20;simp only [blaw,tl];have hx0:xs≠[]:=fun e=>by rw [e] at lx;simp at lx;omega
  have w12:=wo.few;refine yL ?_
  ((try dsimp only [zS,zQ,zM,zI,zB,yX,yW,zO,zT,zN,zU,zZ,zR,zP,zJ,zL,yY,zK,gZ,gS,tZ,tS]);try simp only [e13,e10,jZ])
  refine ⟨d,l,mo,rfl,D7,⟨by omega,by omega⟩,fun q8 G8 q80 q81 k8 D8=>?_⟩;have gr8:=k8 _ _ nr gr7;refine ⟨d,l,r,1+q8,xs,rfl,D8,nr,gr8,hx0,by omega,ox,by omega,by omega,by omega,fun t G9 ot z1' k9 D9=>?_⟩;have gr9:=k9 _ _ nr gr8;have lo:=t.low;refine yL ?_
  ((try dsimp only [zS,zQ,zM,zI,zB,yX,yW,zO,zT,zN,zU,zZ,zR,zP,zJ,zL,yY,zK,gZ,gS,tZ,tS]);try simp only [i2,e16,s4])
  intro pd hpd;have kd:zX [] G9 (put G9 pd (.dic [])):=zX.new hpd;have gd:(put G9 pd (.dic [])) pd=some (.dic []):=zY;generalize put G9 pd (.dic [])=Ga at kd gd ⊢;refine ⟨web,t,pd,[],rfl,wo,ot,by omega,by omega,gd,by simp;omega,fun k v e=>(by cases e),fun rb Gb kvs' kb nb gb gdb hlb knb=>?_⟩;have kb:=zaN kd hpd kb;refine zgT gb (by rw [xW];omega) (fun i x G2 k hk=>?_) (fun Gc p6' kc hp6'=>?_)
  ·((try dsimp only [zS,zQ,zM,zI,zB,yX,yW,zO,zT,zN,zU,zZ,zR,zP,zJ,zL,yY,zK,gZ,gS,tZ,tS]);try simp only [jS,zzC,zzL,zzA,Nat.reduceAdd,List.replicate,zzU,zzV,List.cons_append,List.nil_append,List.append_nil,Option.join_some])
   cases x<;>exact hk
  rw [xW];have kc':zX [] G9 (put Gc p6' (.lst (yZ (fl web t)))):=(kb.trans kc).trans (zX.new hp6');have gdue:(put Gc p6' (.lst (yZ (fl web t)))) p6'=some (.lst (yZ (fl web t))):=zY;show zE (yI K sA n) XN _ _ _ (put Gc p6' (.lst (yZ (fl web t))));have ndue:=qY (mJ (kb.trans kc) D9) hp6';generalize put Gc p6' (.lst (yZ (fl web t)))=Gd at kc' gdue ⊢;have Dd:=mJ kc' D9;have grd:=kc' _ _ (by simp) gr9;refine yL ?_
  ((try dsimp only [zS,zQ,zM,zI,zB,yX,yW,zO,zT,zN,zU,zZ,zR,zP,zJ,zL,yY,zK,gZ,gS,tZ,tS]);try simp only [e24])
  refine ⟨web,t,rfl,wo,by omega,fun pf Ge ke hpf gpf=>?_⟩;have ndue':=gdue;have gdue:=ke _ _ (by simp) gdue;have De:=mJ ke Dd;have gre:=ke _ _ (by simp) grd;have npf:=qY Dd hpf;have nfr:r≠pf:=fun e=>by rw [e,hpf] at grd;cases grd
  have nfd:p6'≠pf:=fun e=>by rw [e,hpf] at ndue';cases ndue'
  refine yL ?_
  ((try dsimp only [zS,zQ,zM,zI,zB,yX,yW,zO,zT,zN,zU,zZ,zR,zP,zJ,zL,yY,zK,gZ,gS,tZ,tS]);try simp only [e4,g1])
  refine ⟨"list", true,by simp [tyO,gpf],rfl,?_⟩;simp only [uD,Bool.not_true,zzB,if_false]
  ((try dsimp only [zS,zQ,zM,zI,zB,yX,yW,zO,zT,zN,zU,zZ,zR,zP,zJ,zL,yY,zK,gZ,gS,tZ,tS]);try simp only [yT,cF gpf gdue,Bool.not_true,zzB,if_false])
  refine zcH gpf ?_;refine vX (fun _=>some (.bl false)) (by simp only [yZ,zzM,fl];exact Nat.le_trans (List.length_filter_le _ _) (by rw [List.length_range];omega)) (fun G' k=>zW (k _ _ (by simp) gpf)) (fun j u G6 k hu k6 hk=>?_) (fun Gf r6 kf hr6=>?_)
  .simp only [yZ,List.getElem?_map] at hu;obtain ⟨b,hb,rfl⟩:=Option.map_eq_some_iff.mp hu;simp only [jS,List.replicate,zzU,zzV,List.cons_append,List.nil_append,List.append_nil,gZ,gS,List.length_cons,List.length_nil]
   ((try dsimp only [zS,zQ,zM,zI,zB,yX,yW,zO,zT,zN,zU,zZ,zR,zP,zJ,zL,yY,zK,gZ,gS,tZ,tS]);try simp only [e4,g0,if_true])
   exact ⟨"int", false,rfl,rfl,hk G6 k6⟩
  rw [jD];have kg:zX [] Ge (put Gf r6 (.lst ((List.range (yZ (fl web t)).length).map fun _=>W.bl false))):=kf.trans (zX.new hr6);have gg:(put Gf r6 (.lst ((List.range (yZ (fl web t)).length).map fun _=>W.bl false))) r6=some (.lst (xS ((List.range (yZ (fl web t)).length).map fun _=>false))):=by rw [zY,xS,List.map_map];rfl
  generalize put Gf r6 (.lst ((List.range (yZ (fl web t)).length).map fun _=>W.bl false))=Gg at kg gg ⊢;simp only [yT,vH,gg];refine zbI ?_;rw [show ((List.range (yZ (fl web t)).length).map fun _=>false).contains true=false by simp];simp only [uD,zzB,if_false];refine uC ?_;have gpg:=kg _ _ (by simp) gpf;refine yL ?_
  ((try dsimp only [zS,zQ,zM,zI,zB,yX,yW,zO,zT,zN,zU,zZ,zR,zP,zJ,zL,yY,zK,gZ,gS,tZ,tS]);try simp only [t2])
  refine ⟨tyL gpg,appL gpg (by simp only [yZ,zzM,fl];exact Nat.lt_of_le_of_lt (List.length_filter_le _ _) (by rw [List.length_range];omega)) ?_⟩;have Dh:=qL (o:=.lst (yZ (fl web t)++[.int 0])) npf (mJ kg De);have grh:(put Gg pf (.lst (yZ (fl web t)++[.int 0]))) r=some (.lst (xs.map .str)):=by rw [yU nfr];exact kg _ _ (by simp) gre
  have gdh:(put Gg pf (.lst (yZ (fl web t)++[.int 0]))) p6'=some (.lst (yZ (fl web t))):=by rw [yU nfd];exact kg _ _ (by simp) gdue
  generalize put Gg pf (.lst (yZ (fl web t)++[.int 0]))=Gh at Dh grh gdh ⊢;refine yL ?_
  ((try dsimp only [zS,zQ,zM,zI,zB,yX,yW,zO,zT,zN,zU,zZ,zR,zP,zJ,zL,yY,zK,gZ,gS,tZ,tS]);try simp only [i0])
  refine ⟨⟨by decide,by decide⟩,?_⟩
  refine ⟨fun i σ G'=>∃ (v8 v9 v10:Option W),σ=[some s0,some (.ref d),some (.ref r),some (xR web),some (.int mo),some t.w,some (.ref p6'),some (.ref pf),v8,v9,v10,none]/\yC G' d l/\G' r=some (.lst (xs.map .str))/\G' p6'=some (.lst (yZ (fl web t))),
   ⟨none,none,none,rfl,Dh,grh,gdh⟩,fun _ _ _ _ _=>trivial,?_,?_⟩
  .rintro i w σ Gi hw ⟨v8,v9,v10,rfl,Di,gri,gdi⟩;refine yL ?_
   ((try dsimp only [zS,zQ,zM,zI,zB,yX,yW,zO,zT,zN,zU,zZ,zR,zP,zJ,zL,yY,zK,gZ,gS,tZ,tS]);try simp only [e5,e6])
   refine zcH gri ?_;refine ⟨fun i acc G'=>∃ ts:List Str,acc=ts.map .str/\ts.length<=i/\zX [d,l] Gi G'/\yC G' d l,⟨[],rfl,zzR _,zX.refl,Di⟩,?_,sz _ (by rw [zzM];omega),?_,?_⟩
   .rintro i acc G' ⟨ts,rfl,h1,k,_⟩ _;exact ⟨zW (k _ _ nr gri),by simpa using h1⟩
   .rintro i w acc G' hw ⟨ts,rfl,h1,k,D'⟩;rw [List.getElem?_map] at hw;obtain ⟨x,hx',rfl⟩:=Option.map_eq_some_iff.mp hw;simp only [jS,List.replicate,zzU,zzV,List.cons_append,List.nil_append,gZ,gS,Option.join_some,List.length_cons,List.length_nil]
    ((try dsimp only [zS,zQ,zM,zI,zB,yX,yW,zO,zT,zN,zU,zZ,zR,zP,zJ,zL,yY,zK,gZ,gS,tZ,tS]);try simp only [e10])
    refine ⟨d,l,2,rfl,D',by decide,fun b G2 b0 b1 k2 D2=>?_⟩;simp only [yT,jU]
    by_cases hb:b=1
    .rw [decide_eq_true hb,if_pos rfl];exact ⟨ts++[x],by simp,by simp;omega,k.trans k2,D2⟩
    .rw [decide_eq_false hb,if_neg zzN];exact ⟨ts,rfl,by omega,k.trans k2,D2⟩
   rintro acc Gj ⟨ts,rfl,h1,kj,Dj⟩ p9 hp9;rw [zzM] at h1;have kj:zX [d,l] Gi (put Gj p9 (.lst (ts.map .str))):=kj.trans (zX.new hp9);have Dj:=xI (o:=.lst (ts.map .str)) hp9 Dj;have g9:(put Gj p9 (.lst (ts.map .str))) p9=some (.lst (ts.map .str)):=zY;generalize put Gj p9 (.lst (ts.map .str))=Gk at kj Dj g9 ⊢;refine .inr ⟨ts,zW g9,by omega,fun us pu _ r5 hr5=>?_⟩;have kl:zX [] Gk (put Gk r5 (.lst (us.map .str))):=zX.new hr5;have gl5:(put Gk r5 (.lst (us.map .str))) r5=some (.lst (us.map .str)):=zY;generalize put Gk r5 (.lst (us.map .str))=Gl at kl gl5 ⊢;simp only [nZ,xZ,zW gl5];have ul:us.length<=5:=by rw [pu.length_eq];omega
   refine yL ?_
   ((try dsimp only [zS,zQ,zM,zI,zB,yX,yW,zO,zT,zN,zU,zZ,zR,zP,zJ,zL,yY,zK,gZ,gS,tZ,tS]);try simp only [e25])
   refine ⟨us,t,rfl,by omega,fun Gm km=>?_⟩;refine yL ?_
   ((try dsimp only [zS,zQ,zM,zI,zB,yX,yW,zO,zT,zN,zU,zZ,zR,zP,zJ,zL,yY,zK,gZ,gS,tZ,tS]);try simp only [e4,g0])
   refine ⟨"bool", true,rfl,rfl,?_⟩;simp only [uD,Bool.not_true,zzB,if_false]
   ((try dsimp only [zS,zQ,zM,zI,zB,yX,yW,zO,zT,zN,zU,zZ,zR,zP,zJ,zL,yY,zK,gZ,gS,tZ,tS]);try simp only [e15,e23])
   refine ⟨us,t,rfl,by omega,by omega,fun Gn kn=>?_⟩;simp only [yT,zcY,beq_self_eq_true,Bool.not_true,uD,zzB,if_false,zzC,zzL,zzA,Nat.reduceAdd,z0,z1,z2,true_and];refine ⟨[⟨us,[]⟩],t,0,rfl,cR us,by omega,by simp,fun Go ko=>?_⟩;rw [show (tr [⟨us,[]⟩] t).getD 0 false=tv us t from rfl];simp only [zcY,beq_self_eq_true,Bool.not_true,uD,zzB,if_false];refine uC ?_;refine yL ?_
   ((try dsimp only [zS,zQ,zM,zI,zB,yX,yW,zO,zT,zN,zU,zZ,zR,zP,zJ,zL,yY,zK,gZ,gS,tZ,tS]);try simp only [e25,e5,e6,jZ,zzC,zzL,zzA,Nat.reduceAdd,z1,true_and])
   refine ⟨sz _ (by rw [zzM];omega),?_⟩;refine .inr ⟨us++[("aaaaaa" : Str)],by simp [xZ],by simp;omega,fun vs pv _ r6' hr6'=>?_⟩;have kp:zX [] Go (put Go r6' (.lst (vs.map .str))):=zX.new hr6';have gp6:(put Go r6' (.lst (vs.map .str))) r6'=some (.lst (vs.map .str)):=zY;generalize put Go r6' (.lst (vs.map .str))=Gp at kp gp6 ⊢;simp only [nZ,xZ,zW gp6];refine ⟨vs,t,rfl,by omega,fun Gq kq=>?_⟩
   have et:tv vs t=tv us t:=vR (fun x hx=>by
    have hxa:=nm_a hx;have:=pv.mem_iff (a:=x);simp only [List.mem_append,List.mem_singleton,hxa,or_false] at this
    by_cases hm:x∈us
    .rw [List.contains_iff_mem.mpr (this.mpr hm),List.contains_iff_mem.mpr hm]
    .rw [Bool.eq_false_iff.mpr fun z=>hm (this.mp (List.contains_iff_mem.mp z)),Bool.eq_false_iff.mpr fun z=>hm (List.contains_iff_mem.mp z)]) t ot
   rw [et];simp only [yT,zcY,beq_self_eq_true,Bool.not_true,uD,zzB,if_false];refine uC ?_;have kz:zX [d,l] Gi Gq:=kj.trans (mV (kl.trans (km.trans (kn.trans (ko.trans (kp.trans kq))))));exact ⟨_,_,_,rfl,mJ (kl.trans (km.trans (kn.trans (ko.trans (kp.trans kq))))) Dj,kz _ _ nr gri,kz _ _ ndue gdi⟩
  .rintro σ Gi ⟨v8,v9,v10,rfl,Di,gri,gdi⟩;refine yL ?_
   ((try dsimp only [zS,zQ,zM,zI,zB,yX,yW,zO,zT,zN,zU,zZ,zR,zP,zJ,zL,yY,zK,gZ,gS,tZ,tS]);try simp only [e14])
   refine ⟨d,l,web,xs.drop 1,rfl,Di,wo,wi,by rw [List.length_drop];omega,fun web' Gj wo' kj Dj=>?_⟩;have w12':=wo'.few;have gdj:=kj _ _ ndue gdi;refine yL ?_
   ((try dsimp only [zS,zQ,zM,zI,zB,yX,yW,zO,zT,zN,zU,zZ,zR,zP,zJ,zL,yY,zK,gZ,gS,tZ,tS]);try simp only [e3,e24])
   refine ⟨web',t,rfl,wo',by omega,fun pg Gk kk hpg gpg=>?_⟩;simp only [lstS,xZ,zW gpg];intro ph hph;have kl:zX [] Gk (put Gk ph (.lst (yZ (fl web' t)))):=zX.new hph;have gph:(put Gk ph (.lst (yZ (fl web' t)))) ph=some (.lst (yZ (fl web' t))):=zY;generalize put Gk ph (.lst (yZ (fl web' t)))=Gl at kl gph ⊢
   ((try dsimp only [zS,zQ,zM,zI,zB,yX,yW,zO,zT,zN,zU,zZ,zR,zP,zJ,zL,yY,zK,gZ,gS,tZ,tS]);try simp only [i2,e16,s4])
   intro pd' hpd';have kd':zX [] Gl (put Gl pd' (.dic [])):=zX.new hpd';have gd':(put Gl pd' (.dic [])) pd'=some (.dic []):=zY;generalize put Gl pd' (.dic [])=Gm at kd' gd' ⊢;refine ⟨web',t,pd',[],rfl,wo',ot,by omega,by omega,gd',by simp;omega,fun k v e=>(by cases e),fun rb' Gn kvs'' kn nb' gb' gdb' hlb' knb'=>?_⟩;have kn:=zaN kd' hpd' kn;refine zgT gb' (by rw [xW];omega) (fun i x G2 k hk=>?_) (fun Go po ko hpo=>?_)
   ·((try dsimp only [zS,zQ,zM,zI,zB,yX,yW,zO,zT,zN,zU,zZ,zR,zP,zJ,zL,yY,zK,gZ,gS,tZ,tS]);try simp only [jS,zzC,zzL,zzA,Nat.reduceAdd,List.replicate,zzU,zzV,List.cons_append,List.nil_append,List.append_nil,Option.join_some])
    cases x<;>exact hk
   rw [xW];have kp:zX [] Gl (put Go po (.lst (yZ (fl web' t)))):=(kn.trans ko).trans (zX.new hpo);have gpo:(put Go po (.lst (yZ (fl web' t)))) po=some (.lst (yZ (fl web' t))):=zY;have gph:=kp _ _ (by simp) gph;have eq:=cF gph gpo;have gdz:=(kk.trans (kl.trans kp)) _ _ (by simp) gdj;unfold fl at eq gdz;simp only [yT,eq,Bool.not_true,uD,zzB,if_false];refine uC ?_;refine yL ?_
   ((try dsimp only [zS,zQ,zM,zI,zB,yX,yW,zO,zT,zN,zU,zZ,zR,zP,zJ,zL,yY,zK,gZ,gS,tZ,tS]);try simp only [e24])
   refine ⟨web,t,rfl,wo,by omega,fun pz Gz kz hpz gpz=>?_⟩;simp only [yT,cF gpz (kz _ _ (by simp) gdz)];exact h Gz
 simp only [blaw,tl] at rest
 by_cases hq:q7=7
 .rw [decide_eq_true hq];refine bD (zW g7) ?_;simp only [if_true];rw [at_1];exact rest 20 (by decide) (by decide)
 .rw [decide_eq_false hq];refine bD (zW g7) ?_;simp only [zzB,if_false];rw [qD];exact rest 9 (by decide) (by decide)
end
structure Txt (K:yN) (mg:Str->Option Value) (sA:Addr):Prop where
 deal:∃ f,mg "_law_deal" = some (.ref f)/\HD K "_law_deal" "_law_deal" wB .none f
 draw:∃ f,mg "_law_draw" = some (.ref f)/\HD K "_law_draw" "_law_draw" wC .none f
 names:∃ f,mg "_law_names" = some (.ref f)/\HD K "_law_names" "_law_names" wV .none f
 web:∃ f,mg "_law_web" = some (.ref f)/\HD K "_law_web" "_law_web" jO .none f
 saying:∃ f,mg "_law_saying" = some (.ref f)/\HD K "_law_saying" "_law_saying" xF .none f
 spoilt:∃ f,mg "_law_spoilt_web" = some (.ref f)/\HD K "_law_spoilt_web" "_law_spoilt_web" yG .none f
 ltrue:∃ f,mg "_law_true" = some (.ref f)/\HD K "_law_true" "_law_true" wD .none f
 borne:∃ f,mg "_law_borne" = some (.ref f)/\HD K "_law_borne" "_law_borne" wU .none f
 sides:∃ f,mg "sides_of" = some (.ref f)/\HD K "sides_of" "sides_of" xY .none f
 within:∃ f,mg "all_within" = some (.ref f)/\HD K "all_within" "all_within" wW .none f
 parts:∃ f,mg "all_parts" = some (.ref f)/\HD K "all_parts" "all_parts" wE .none f
 tif:∃ f,mg "truths_of_if" = some (.ref f)/\HD K "truths_of_if" "truths_of_if" xN .none f
 join:∃ f,mg "joined_truths" = some (.ref f)/\HD K "joined_truths" "joined_truths" xV .none f
 truths:∃ f,mg "truths_of" = some (.ref f)/\HD K "truths_of" "truths_of" wF .none f
 bears:∃ f,mg "bears" = some (.ref f)/\HD K "bears" "bears" uA .none f
 fails:∃ f,mg "fails" = some (.ref f)/\HD K "fails" "fails" uB .none f
 trueby:∃ f,mg "true_by" = some (.ref f)/\HD K "true_by" "true_by" jB .none f
 max:mg "max" = none
 len:mg "len" = none
 all:mg "all" = none
 list:mg "list" = none
 isi:mg "isinstance" = none
 srt:mg "sorted" = none
 tup:mg "tuple" = none
 int:mg "int" = none
 rpr:mg "repr" = none
 range:mg "range" = none
 zip:mg "zip" = none
 enu:mg "enumerate" = none
 rev:mg "reversed" = none
 set:mg "set" = none
 bool:mg "bool" = none
 mgS:mg "sides_of" = some (.ref sA)
 hdS:HD K "sides_of" "sides_of" xY .none sA
def rk (n:Nat):Nat:=2 * n+2+(if 14<=n then 20 else 0)+(if 16<=n then 21 else 0)+(if 17<=n then 21 else 0)
section
variable {q : Pr} {sA : Addr}
def Pn (q:Pr) (sA:Addr) (n:Nat):Prop:=∀ A,Room (rk n) A->∀ f∈(fnL q.K sA).take n,qP (q.at A) f
def Gam0:Ctx3:=⟨[],[],[],[],[],[],[]⟩
def zcs:MC:=⟨zV xY,uU,(fun _=>true),[],[],[],[],[],[]⟩
theorem zbi:vS kT zcs (zH xY)=true:=by decide +kernel
theorem us1' {P:List Value->Prop} (h:∀ a,P [a]) (us:List Value) (e:us.length=1):P us:=by
 cases us with
 |nil=>cases e
 |cons a l=>cases l with
  |nil=>exact h a
  |cons b l=>cases e
theorem tJ:∀ ws G (Q Q':Q3),(∀ w G',Q w G'->Q' w G')->jM ws G Q XN->jM ws G Q' XN:=fun ws G Q Q' k h=>by
 obtain ⟨t,h1,h⟩:=h;exact ⟨t,h1,k _ _ h⟩
theorem zdu (T:Txt q.K q.mg sA) {A:Around} (hr:Room 1 A):SxE (q.at A) ⟨hcM "sides_of", hcS sA jM⟩/\wP (hcS sA jM):=by
 obtain ⟨fd,F,_⟩:=T.hdS.fd;have FO:=pH (k:=0) (sp:=jM) (M:=zcs) F nS (fun A hr=>zcP (Γ:=Gam0) (p:=q.at A) (by have:=hr.un;show A.units+200<cLine;omega) yD yD yD yD yD yD rfl) ⟨rfl,rfl,rfl,rfl,rfl,rfl,rfl,rfl⟩ zbi (fun ws G Q h=>by obtain ⟨t,rfl,_⟩:=h;rfl) (fun ws G Q h=>fZ h);exact ⟨sx_hc FO F.kp (sO F fun _ _ _ _ _ _=>us1' fun _=>rfl) tJ hr,zen tJ⟩
theorem ziX (T:Txt q.K q.mg sA) {l:List Fn3} {A:Around} (hu:A.units+200<cLine) (hr1:Room 1 A) (h:∀ f∈l,qP (q.at A) f):L3.Good (GamL sA l) (q.at A) :=
 zcP (Γ:=GamL sA l) hu h
  (zG (zcQ T.bool (by decide +kernel)) (zG (zcQ T.list (by decide +kernel)) (zG (zgx T.mgS (v:=.ref sA) rfl fun _=>rfl) yD)))
  (zG zgI (zG zew (zG zgP (zG zgO yD))))
  (zG (zgG T.range) (zG (zgD T.zip) (zG (zi4 T.enu) yD)))
  yD
  (zG (zgH T.list T.rev) (zG ⟨sx_rv,zdH⟩ (zG ⟨sx_ss T.srt T.set,zat⟩ (zG (zdu T hr1) (zG ⟨sx_em,zey⟩ yD))))) rfl
theorem pB {k:Nat} {A:Around} (hr:Room k A):A.units+200<cLine:=by have:=hr.un;omega
theorem good (T:Txt q.K q.mg sA) {n:Nat} (h:Pn q sA n):∀ A,Room (rk n) A->L3.Good (yI q.K sA n) (q.at A):=fun A hr=>ziX T (pB hr) (hr.mono (by unfold rk;omega)) (h A hr)
theorem next {n:Nat} {e:Fn3} (h:Pn q sA n) (hk:rk n<=rk (n+1)) (he:(fnL q.K sA).take (n+1)=(fnL q.K sA).take n++[e]) (hx:∀ A,Room (rk (n+1)) A->qP (q.at A) e):Pn q sA (n+1):=fun A hr=>by
 rw [he];exact rA (h A (hr.mono hk)) (hx A hr)
theorem p9 (T:Txt q.K q.mg sA):Pn q sA 9:=fun A hr=>zG (zgJ T.max) (zG (zgL T.len) (zG (zgQ T.all) (zG (zgK T.list) (zG (zgM T.isi) (zG (zev T.srt) (zG (zgE T.tup) (zG (zgN T.int) (zG (zgF (pB hr) hr.gd T.rpr) yD))))))))
theorem more {n:Nat} {nm qual:Str} {st:Stmt} {f:Addr} {M:MC} {ps:List Str} {sp:tQ} {body:ISs} (T:Txt q.K q.mg sA) (h:Pn q sA n) (hk:rk n+1<=rk (n+1)) (hm:q.mg nm=some (.ref f)) (hd:HD q.K nm qual st .none f) (S:FnScope M.N ps (zV st)) (eM:MOk (yI q.K sA n) M (zV st)) (look:vS body M (zH st)=true)
  (len:∀ ws G Q,sp ws G Q XN->ws.length=ps.length) (hb:∀ ws G Q,sp ws G Q XN->zE (yI q.K sA n) XN body { nx:=fun _ G'=>Q .non G',rt:=Q } (yB M.N ws) G) (mono:hV ⟨nm,sp⟩)
  (hbind:∀ (kV doc pm:Value) (an:Option Addr) (cdv ct:Value) (us:List Value),us.length=ps.length->bindArgs (fnOf nm qual (yP st) (zH st) (zV st) .none kV doc pm an cdv ct) ⟨us,[]⟩=pure (ps.zip us))
  (he:(fnL q.K sA).take (n+1)=(fnL q.K sA).take n++[⟨nm,sp⟩]):Pn q sA (n+1):=by
 obtain ⟨fd,F,_⟩:=hd.fd;have FO:=pH F S (good T h) eM look len hb;exact next h (by omega) he fun A hr=>cD FO hm F.kp (sO F hbind) mono hr hk
theorem zf9 {n N:Nat} {nm qual:Str} {st:Stmt} {f:Addr} {M:MC} {ps:List Str} {sp:Nat->tQ} {body:ISs} (T:Txt q.K q.mg sA) (h:Pn q sA n) (hk:rk n+N<=rk (n+1)) (hm:q.mg nm=some (.ref f)) (hd:HD q.K nm qual st .none f) (S:FnScope M.N ps (zV st)) (eM:∀ j,MOk (uK q.K sA n ⟨nm,sp j⟩) M (zV st)) (look:vS body M (zH st)=true)
  (h0:∀ ws G Q,¬ sp 0 ws G Q XN) (len:∀ j ws G Q,sp j ws G Q XN->ws.length=ps.length) (hb:∀ j ws G Q,sp (j+1) ws G Q XN->zE (uK q.K sA n ⟨nm,sp j⟩) XN body { nx:=fun _ G'=>Q .non G',rt:=Q } (yB M.N ws) G) (mono:∀ j,hV ⟨nm,sp j⟩)
  (hbind:∀ (kV doc pm:Value) (an:Option Addr) (cdv ct:Value) (us:List Value),us.length=ps.length->bindArgs (fnOf nm qual (yP st) (zH st) (zV st) .none kV doc pm an cdv ct) ⟨us,[]⟩=pure (ps.zip us))
  (he:(fnL q.K sA).take (n+1)=(fnL q.K sA).take n++[⟨nm,sp N⟩]):Pn q sA (n+1):=by
 obtain ⟨fd,F,_⟩:=hd.fd;have FO:=zeR (k:=rk n) (Γ:=fun e=>uK q.K sA n e) F S hm (sO F hbind) h0 len mono (fun j A hr hx=>ziX T (pB hr) (hr.mono (by unfold rk;omega)) (rA (h A hr) hx)) eM look hb N;exact next h (by omega) he fun A hr=>cD FO hm F.kp (sO F hbind) (mono N) hr hk
theorem usS {P:List Value->Prop} {n:Nat} (h:∀ a l,l.length=n->P (a::l)) (us:List Value) (e:us.length=n+1):P us:=by
 cases us with
 |nil=>exact absurd e (Nat.succ_ne_zero n).symm
 |cons a l=>exact h a l (Nat.succ.inj e)
theorem us0 {P:List Value->Prop} (h:P []) (us:List Value) (e:us.length=0):P us:=by
 cases us with
 |nil=>exact h
 |cons a l=>exact absurd e (Nat.succ_ne_zero _)
theorem us1 {P:List Value->Prop} (h:∀ a0,P [a0]):∀ us:List Value,us.length=1->P us:=usS (P:=fun l=>P (l)) (fun a0=>us0 (P:=fun l=>P (a0::l)) (h a0))
theorem us2 {P:List Value->Prop} (h:∀ a0 a1,P [a0,a1]):∀ us:List Value,us.length=2->P us:=usS (P:=fun l=>P (l)) (fun a0=>usS (P:=fun l=>P (a0::l)) (fun a1=>us0 (P:=fun l=>P (a0::a1::l)) (h a0 a1)))
theorem us3 {P:List Value->Prop} (h:∀ a0 a1 a2,P [a0,a1,a2]):∀ us:List Value,us.length=3->P us:=usS (P:=fun l=>P (l)) (fun a0=>usS (P:=fun l=>P (a0::l)) (fun a1=>usS (P:=fun l=>P (a0::a1::l)) (fun a2=>us0 (P:=fun l=>P (a0::a1::a2::l)) (h a0 a1 a2))))
theorem us4 {P:List Value->Prop} (h:∀ a0 a1 a2 a3,P [a0,a1,a2,a3]):∀ us:List Value,us.length=4->P us:=usS (P:=fun l=>P (l)) (fun a0=>usS (P:=fun l=>P (a0::l)) (fun a1=>usS (P:=fun l=>P (a0::a1::l)) (fun a2=>usS (P:=fun l=>P (a0::a1::a2::l)) (fun a3=>us0 (P:=fun l=>P (a0::a1::a2::a3::l)) (h a0 a1 a2 a3)))))
theorem p10 (T:Txt q.K q.mg sA):Pn q sA 10:=by
 obtain ⟨f,hm,hd⟩:=T.deal
 exact more (sp:=zbS) (M:=nC) T (p9 T) (by decide) hm hd zah ⟨rfl,rfl,rfl,rfl,rfl,rfl,rfl,rfl⟩ gR
  (fun ws G Q h=>by obtain ⟨a,b,ns,rfl,_⟩:=h;rfl) (fun ws G Q ⟨a,b,ns,e,h1,h2,h3,h4⟩=>by subst e;exact zeC rfl rfl h1 h2 h3 h4) (zac) (fun _ _ _ _ _ _=>us2 (fun _ _=>rfl)) rfl
theorem p11 (T:Txt q.K q.mg sA):Pn q sA 11:=by
 obtain ⟨f,hm,hd⟩:=T.draw
 exact more (sp:=zbR) (M:=nD) T (p10 T) (by decide) hm hd zag ⟨rfl,rfl,rfl,rfl,rfl,rfl,rfl,rfl⟩ gT
  (fun ws G Q h=>by obtain ⟨a,b,m,rfl,_⟩:=h;rfl) (fun ws G Q ⟨a,b,m,e,h1,h2,h3⟩=>by subst e;exact zeA rfl rfl h1 h2 h3) (zab) (fun _ _ _ _ _ _=>us2 (fun _ _=>rfl)) rfl
theorem p12 (T:Txt q.K q.mg sA):Pn q sA 12:=by
 obtain ⟨f,hm,hd⟩:=T.names
 exact more (sp:=pN) (M:=rH) T (p11 T) (by decide) hm hd dA ⟨rfl,rfl,rfl,rfl,rfl,rfl,rfl,rfl⟩ mZ
  (fun ws G Q h=>by obtain ⟨d,l,m,rfl,_⟩:=h;rfl) (fun ws G Q h=>zcq (by decide) h) (fun ws G Q Q' E k hh=>by
   obtain ⟨d,l,m,h1,h2,h3,h4,h⟩:=hh;exact ⟨d,l,m,h1,h2,h3,h4,fun r xs G' a b c d e f=>k _ _ (h r xs G' a b c d e f)⟩) (fun _ _ _ _ _ _=>us2 (fun _ _=>rfl)) rfl
theorem p13 (T:Txt q.K q.mg sA):Pn q sA 13:=by
 obtain ⟨f,hm,hd⟩:=T.web
 exact more (sp:=zdy) (M:=fO) T (p12 T) (by decide) hm hd zbb ⟨rfl,rfl,rfl,rfl,rfl,rfl,rfl,rfl⟩ cL
  (fun ws G Q h=>by obtain ⟨d,l,r,m,xs,rfl,_⟩:=h;rfl) (fun ws G Q h=>zfn (by decide) h) (fun ws G Q Q' E k hh=>by
   obtain ⟨d,l,r,m,xs,h1,h2,h3,h4,h5,h6,h7,h⟩:=hh;exact ⟨d,l,r,m,xs,h1,h2,h3,h4,h5,h6,h7,fun w G' a b c d e=>k _ _ (h w G' a b c d e)⟩) (fun _ _ _ _ _ _=>us3 (fun _ _ _=>rfl)) rfl
theorem p14 (T:Txt q.K q.mg sA):Pn q sA 14:=by
 obtain ⟨f,hm,hd⟩:=T.saying
 exact zf9 (N:=20) (sp:=xD) (M:=sW) T (p13 T) (by decide) hm hd hG (fun j=>⟨rfl,rfl,rfl,rfl,rfl,rfl,rfl,rfl⟩) pT
  (fun ws G Q hh=>by
   obtain ⟨d,l,r,m,xs,_,_,_,_,_,_,_,h1,h2,_⟩:=hh;omega) (fun j ws G Q h=>by obtain ⟨d,l,r,m,xs,rfl,_⟩:=h;rfl) (fun j ws G Q h=>zbc h) (fun j ws G Q Q' E k hh=>by
   obtain ⟨d,l,r,m,xs,h1,h2,h3,h4,h5,h6,h7,h8,h9,h10,h⟩:=hh;exact ⟨d,l,r,m,xs,h1,h2,h3,h4,h5,h6,h7,h8,h9,h10,fun t G' a b c d=>k _ _ (h t G' a b c d)⟩) (fun _ _ _ _ _ _=>us3 fun _ _ _=>rfl) rfl
theorem p15 (T:Txt q.K q.mg sA):Pn q sA 15:=by
 obtain ⟨f,hm,hd⟩:=T.spoilt
 exact more (sp:=tK) (M:=kU) T (p14 T) (by decide) hm hd tF ⟨rfl,rfl,rfl,rfl,rfl,rfl,rfl,rfl⟩ uN
  (fun ws G Q h=>by obtain ⟨d,l,web,N,rfl,_⟩:=h;rfl) (fun ws G Q h=>za6 (by decide) h) (fun ws G Q Q' E k hh=>by
   obtain ⟨d,l,web,N,h1,h2,h3,h4,h5,h⟩:=hh;exact ⟨d,l,web,N,h1,h2,h3,h4,h5,fun w G' a b c=>k _ _ (h w G' a b c)⟩) (fun _ _ _ _ _ _=>us2 (fun _ _=>rfl)) rfl
theorem p16 (T:Txt q.K q.mg sA):Pn q sA 16:=by
 obtain ⟨f,hm,hd⟩:=T.ltrue
 exact zf9 (N:=21) (sp:=jA) (M:=nE) T (p15 T) (by decide) hm hd zaf (fun j=>⟨rfl,rfl,rfl,rfl,rfl,rfl,rfl,rfl⟩) gU
  (fun ws G Q hh=>by
   obtain ⟨ns,t,_,_,h1,_⟩:=hh;omega) (fun j ws G Q h=>by obtain ⟨ns,t,rfl,_⟩:=h;rfl) (fun j ws G Q h=>zdr h) (fun j ws G Q Q' E k hh=>by
   obtain ⟨ns,t,h1,h2,h3,h⟩:=hh;exact ⟨ns,t,h1,h2,h3,fun G' a=>k _ _ (h G' a)⟩) (fun _ _ _ _ _ _=>us2 fun _ _=>rfl) rfl
theorem p17 (T:Txt q.K q.mg sA):Pn q sA 17:=by
 obtain ⟨f,hm,hd⟩:=T.borne
 exact zf9 (N:=21) (sp:=uX) (M:=rG) T (p16 T) (by decide) hm hd cZ (fun j=>⟨rfl,rfl,rfl,rfl,rfl,rfl,rfl,rfl⟩) mY
  (fun ws G Q hh=>by
   obtain ⟨web,t,d,kvs,_,_,_,h1,_⟩:=hh;omega) (fun j ws G Q h=>by obtain ⟨web,t,d,kvs,rfl,_⟩:=h;rfl) (fun j ws G Q h=>zdd h) (fun j ws G Q Q' E k hh=>by
   obtain ⟨web,t,d,kvs,h1,h2,h3,h4,h5,h6,h7,h8,h⟩:=hh;exact ⟨web,t,d,kvs,h1,h2,h3,h4,h5,h6,h7,h8,fun r G' kv a b c d e f=>k _ _ (h r G' kv a b c d e f)⟩) (fun _ _ _ _ _ _=>us3 fun _ _ _=>rfl) rfl
theorem p18 (T:Txt q.K q.mg sA):Pn q sA 18:=by
 obtain ⟨f,hm,hd⟩:=T.sides
 exact more (sp:=jM) (M:=fR) T (p17 T) (by decide) hm hd nS ⟨rfl,rfl,rfl,rfl,rfl,rfl,rfl,rfl⟩ cM
  (fun ws G Q h=>by obtain ⟨t,rfl,_⟩:=h;rfl) (fun ws G Q h=>fZ h) (fun ws G Q Q' E k hh=>by
   obtain ⟨t,h1,h⟩:=hh;exact ⟨t,h1,k _ _ h⟩) (fun _ _ _ _ _ _=>us1 (fun _=>rfl)) rfl
theorem p19 (T:Txt q.K q.mg sA):Pn q sA 19:=by
 obtain ⟨f,hm,hd⟩:=T.within
 exact more (sp:=tM sA) (M:=rJ) T (p18 T) (by decide) hm hd dB ⟨rfl,rfl,rfl,rfl,rfl,rfl,rfl,rfl⟩ nA
  (fun ws G Q h=>by obtain ⟨t,rfl,_⟩:=h;rfl) (fun ws G Q h=>za1 h) (fun ws G Q Q' E k hh=>by
   obtain ⟨t,h1,h2,h⟩:=hh;exact ⟨t,h1,h2,h.mono k⟩) (fun _ _ _ _ _ _=>us2 (fun _ _=>rfl)) rfl
theorem p20 (T:Txt q.K q.mg sA):Pn q sA 20:=by
 obtain ⟨f,hm,hd⟩:=T.parts
 exact more (sp:=pO) (M:=nF) T (p19 T) (by decide) hm hd zae ⟨rfl,rfl,rfl,rfl,rfl,rfl,rfl,rfl⟩ gW
  (fun ws G Q h=>by obtain ⟨t,rfl,_⟩:=h;rfl) (fun ws G Q h=>zcf (by decide) h) (fun ws G Q Q' E k hh=>by
   obtain ⟨t,h1,h2,h⟩:=hh;exact ⟨t,h1,h2,h.mono k⟩) (fun _ _ _ _ _ _=>us1 (fun _=>rfl)) rfl
theorem p21 (T:Txt q.K q.mg sA):Pn q sA 21:=by
 obtain ⟨f,hm,hd⟩:=T.tif
 exact more (sp:=zbQ) (M:=uH) T (p20 T) (by decide) hm hd nT ⟨rfl,rfl,rfl,rfl,rfl,rfl,rfl,rfl⟩ rV
  (fun ws G Q h=>by obtain ⟨web,p,q,a,b,rfl,_⟩:=h;rfl) (fun ws G Q h=>zfu (by decide) h) (fun ws G Q Q' E k hh=>by
   obtain ⟨web,p,q,a,b,h1,h2,h⟩:=hh;exact ⟨web,p,q,a,b,h1,h2,h.mono k⟩) (fun _ _ _ _ _ _=>us3 (fun _ _ _=>rfl)) rfl
theorem p22 (T:Txt q.K q.mg sA):Pn q sA 22:=by
 obtain ⟨f,hm,hd⟩:=T.join
 exact more (sp:=dD) (M:=vI) T (p21 T) (by decide) hm hd pV ⟨rfl,rfl,rfl,rfl,rfl,rfl,rfl,rfl⟩ sU
  (fun ws G Q h=>by obtain ⟨web,c,p,q,a,b,rfl,_⟩:=h;rfl) (fun ws G Q h=>zec (by decide) h) (fun ws G Q Q' E k hh=>by
   obtain ⟨web,c,p,q,a,b,h1,h2,h⟩:=hh;exact ⟨web,c,p,q,a,b,h1,h2,h.mono k⟩) (fun _ _ _ _ _ _=>us4 (fun _ _ _ _=>rfl)) rfl
theorem p23 (T:Txt q.K q.mg sA):Pn q sA 23:=by
 obtain ⟨f,hm,hd⟩:=T.truths
 exact more (sp:=vO) (M:=nI) T (p22 T) (by decide) hm hd zad ⟨rfl,rfl,rfl,rfl,rfl,rfl,rfl,rfl⟩ gX
  (fun ws G Q h=>by obtain ⟨web,t,rfl,_⟩:=h;rfl) (fun ws G Q h=>za5 (by decide) h) (fun ws G Q Q' E k hh=>by
   obtain ⟨web,t,h1,h2,h3,h⟩:=hh;exact ⟨web,t,h1,h2,h3,h.mono k⟩) (fun _ _ _ _ _ _=>us2 (fun _ _=>rfl)) rfl
theorem p24 (T:Txt q.K q.mg sA):Pn q sA 24:=by
 obtain ⟨f,hm,hd⟩:=T.bears
 exact more (sp:=tI) (M:=ze3) T (p23 T) (by decide) hm hd zfD ⟨rfl,rfl,rfl,rfl,rfl,rfl,rfl,rfl⟩ zcv
  (fun ws G Q h=>by obtain ⟨web,t,c,rfl,_⟩:=h;rfl) (fun ws G Q h=>zdf (by decide) h) (fun ws G Q Q' E k hh=>by
   obtain ⟨web,t,c,h1,h2,h3,h4,h⟩:=hh;exact ⟨web,t,c,h1,h2,h3,h4,fun G' a=>k _ _ (h G' a)⟩) (fun _ _ _ _ _ _=>us3 (fun _ _ _=>rfl)) rfl
theorem p25 (T:Txt q.K q.mg sA):Pn q sA 25:=by
 obtain ⟨f,hm,hd⟩:=T.fails
 exact more (sp:=pM) (M:=ze1) T (p24 T) (by decide) hm hd zfC ⟨rfl,rfl,rfl,rfl,rfl,rfl,rfl,rfl⟩ zcu
  (fun ws G Q h=>by obtain ⟨web,t,rfl,_⟩:=h;rfl) (fun ws G Q h=>zcV (by decide) h) (fun ws G Q Q' E k hh=>by
   obtain ⟨web,t,h1,h2,h3,h⟩:=hh;exact ⟨web,t,h1,h2,h3,h.mono k⟩) (fun _ _ _ _ _ _=>us2 (fun _ _=>rfl)) rfl
theorem p26 (T:Txt q.K q.mg sA):Pn q sA 26:=by
 obtain ⟨f,hm,hd⟩:=T.trueby
 exact more (sp:=tL) (M:=zaI) T (p25 T) (by decide) hm hd zb3 ⟨rfl,rfl,rfl,rfl,rfl,rfl,rfl,rfl⟩ zal
  (fun ws G Q h=>by obtain ⟨ns,t,rfl,_⟩:=h;rfl) (fun ws G Q h=>zaa (by decide) h) (fun ws G Q Q' E k hh=>by
   obtain ⟨ns,t,h1,h2,h⟩:=hh;exact ⟨ns,t,h1,h2,fun G' a=>k _ _ (h G' a)⟩) (fun _ _ _ _ _ _=>us2 (fun _ _=>rfl)) rfl
theorem zio {P:Program} {w:World} {K:yN} {mg:Str->Option Value} (T:Txt K mg sA) {f:Addr} (hd:HD K "law" "law" slaw .none f):∃ fd:FuncData,(∀ (s:Shared) (u:Value),BindsTo s fd ⟨[u],[]⟩ [("_law_script", u)])/\∀ base:Heap,FnOk P w K mg base CX0 117 f fd ["_law_script"] (vY K gC):=by
 obtain ⟨fd,F,kV,doc,pm,an,cdv,ct,e⟩:=hd.fd;refine ⟨fd,fun s u=>by subst e;exact .of_eq rfl,fun base=>pH (q:=⟨P,w,K,mg,base⟩) (k:=116) (sp:=gC) (M:=mlaw) F sclaw (good (q:=⟨P,w,K,mg,base⟩) T (p26 T)) ⟨rfl,rfl,rfl,rfl,rfl,rfl,rfl,rfl⟩ zgb (fun ws G Q h=>by obtain ⟨a,ns,rfl,_⟩:=h;rfl) fun ws G Q h=>?_⟩;obtain ⟨a,ns,rfl,hs,hl,h⟩:=h;exact zgf (by decide) hs hl h
end
theorem all_mk {l:PySem.W.OpenLaw} {w:World} {K:yN} {h:Heap} {mg:Str->Option Value} {fa sA f1 f2 f3 f4 f5 f6 f7 f8 f9 f10 f11 f12 f13 f14 f15 f16 f17 f18:Addr} (X:K.In h) (G:h.Ns mainGlobals mg) (hfa:mg "law" = some (.ref fa))
  {od1 an1 od2 an2 od3 an3 od4 an4 od5 an5 od6 an6 od7 an7 od8 an8 od9 an9 od10 an10 od11 an11 od12 an12 od13 an13 od14 an14 od15 an15 od16 an16 od17 an17 od18 an18:Option Addr} {sl1 sl2 sl3 sl4 sl5 sl6 sl7 sl8 sl9 sl10 sl11 sl12 sl13 sl14 sl15 sl16 sl17 sl18:Array (Option Value)} {oc1 kV1 dc1 pm1 cd1 ct1 oc2 kV2 dc2 pm2 cd2 ct2 oc3 kV3 dc3 pm3 cd3 ct3 oc4 kV4 dc4 pm4 cd4 ct4 oc5 kV5 dc5 pm5 cd5 ct5 oc6 kV6 dc6 pm6 cd6 ct6 oc7 kV7 dc7 pm7 cd7 ct7 oc8 kV8 dc8 pm8 cd8 ct8 oc9 kV9 dc9 pm9 cd9 ct9 oc10 kV10 dc10 pm10 cd10 ct10 oc11 kV11 dc11 pm11 cd11 ct11 oc12 kV12 dc12 pm12 cd12 ct12 oc13 kV13 dc13 pm13 cd13 ct13 oc14 kV14 dc14 pm14 cd14 ct14 oc15 kV15 dc15 pm15 cd15 ct15 oc16 kV16 dc16 pm16 cd16 ct16 oc17 kV17 dc17 pm17 cd17 ct17 oc18 kV18 dc18 pm18 cd18 ct18:Value} {odS anS:Option Addr} {slS:Array (Option Value)} {ocS kVS dcS pmS cdS ctS:Value}
  (a1:nsIn K mainGlobals "_law_deal" = some (some (.ref f1))) (l1:K.lookup f1=some ⟨oc1,od1,.func (fnOf "_law_deal" "_law_deal" (yP wB) (zH wB) (zV wB) .none kV1 dc1 pm1 an1 cd1 ct1),sl1⟩) (c1:codeIn K cd1 "_law_deal" = true) (k1:keepIn K (.ref f1)=true)
  (a2:nsIn K mainGlobals "_law_draw" = some (some (.ref f2))) (l2:K.lookup f2=some ⟨oc2,od2,.func (fnOf "_law_draw" "_law_draw" (yP wC) (zH wC) (zV wC) .none kV2 dc2 pm2 an2 cd2 ct2),sl2⟩) (c2:codeIn K cd2 "_law_draw" = true) (k2:keepIn K (.ref f2)=true)
  (a3:nsIn K mainGlobals "_law_names" = some (some (.ref f3))) (l3:K.lookup f3=some ⟨oc3,od3,.func (fnOf "_law_names" "_law_names" (yP wV) (zH wV) (zV wV) .none kV3 dc3 pm3 an3 cd3 ct3),sl3⟩) (c3:codeIn K cd3 "_law_names" = true) (k3:keepIn K (.ref f3)=true)
  (a4:nsIn K mainGlobals "_law_web" = some (some (.ref f4))) (l4:K.lookup f4=some ⟨oc4,od4,.func (fnOf "_law_web" "_law_web" (yP jO) (zH jO) (zV jO) .none kV4 dc4 pm4 an4 cd4 ct4),sl4⟩) (c4:codeIn K cd4 "_law_web" = true) (k4:keepIn K (.ref f4)=true)
  (a5:nsIn K mainGlobals "_law_saying" = some (some (.ref f5))) (l5:K.lookup f5=some ⟨oc5,od5,.func (fnOf "_law_saying" "_law_saying" (yP xF) (zH xF) (zV xF) .none kV5 dc5 pm5 an5 cd5 ct5),sl5⟩) (c5:codeIn K cd5 "_law_saying" = true) (k5:keepIn K (.ref f5)=true)
  (a6:nsIn K mainGlobals "_law_spoilt_web" = some (some (.ref f6))) (l6:K.lookup f6=some ⟨oc6,od6,.func (fnOf "_law_spoilt_web" "_law_spoilt_web" (yP yG) (zH yG) (zV yG) .none kV6 dc6 pm6 an6 cd6 ct6),sl6⟩) (c6:codeIn K cd6 "_law_spoilt_web" = true) (k6:keepIn K (.ref f6)=true)
  (a7:nsIn K mainGlobals "_law_true" = some (some (.ref f7))) (l7:K.lookup f7=some ⟨oc7,od7,.func (fnOf "_law_true" "_law_true" (yP wD) (zH wD) (zV wD) .none kV7 dc7 pm7 an7 cd7 ct7),sl7⟩) (c7:codeIn K cd7 "_law_true" = true) (k7:keepIn K (.ref f7)=true)
  (a8:nsIn K mainGlobals "_law_borne" = some (some (.ref f8))) (l8:K.lookup f8=some ⟨oc8,od8,.func (fnOf "_law_borne" "_law_borne" (yP wU) (zH wU) (zV wU) .none kV8 dc8 pm8 an8 cd8 ct8),sl8⟩) (c8:codeIn K cd8 "_law_borne" = true) (k8:keepIn K (.ref f8)=true)
  (a9:nsIn K mainGlobals "sides_of" = some (some (.ref f9))) (l9:K.lookup f9=some ⟨oc9,od9,.func (fnOf "sides_of" "sides_of" (yP xY) (zH xY) (zV xY) .none kV9 dc9 pm9 an9 cd9 ct9),sl9⟩) (c9:codeIn K cd9 "sides_of" = true) (k9:keepIn K (.ref f9)=true)
  (a10:nsIn K mainGlobals "all_within" = some (some (.ref f10))) (l10:K.lookup f10=some ⟨oc10,od10,.func (fnOf "all_within" "all_within" (yP wW) (zH wW) (zV wW) .none kV10 dc10 pm10 an10 cd10 ct10),sl10⟩) (c10:codeIn K cd10 "all_within" = true) (k10:keepIn K (.ref f10)=true)
  (a11:nsIn K mainGlobals "all_parts" = some (some (.ref f11))) (l11:K.lookup f11=some ⟨oc11,od11,.func (fnOf "all_parts" "all_parts" (yP wE) (zH wE) (zV wE) .none kV11 dc11 pm11 an11 cd11 ct11),sl11⟩) (c11:codeIn K cd11 "all_parts" = true) (k11:keepIn K (.ref f11)=true)
  (a12:nsIn K mainGlobals "truths_of_if" = some (some (.ref f12))) (l12:K.lookup f12=some ⟨oc12,od12,.func (fnOf "truths_of_if" "truths_of_if" (yP xN) (zH xN) (zV xN) .none kV12 dc12 pm12 an12 cd12 ct12),sl12⟩) (c12:codeIn K cd12 "truths_of_if" = true) (k12:keepIn K (.ref f12)=true)
  (a13:nsIn K mainGlobals "joined_truths" = some (some (.ref f13))) (l13:K.lookup f13=some ⟨oc13,od13,.func (fnOf "joined_truths" "joined_truths" (yP xV) (zH xV) (zV xV) .none kV13 dc13 pm13 an13 cd13 ct13),sl13⟩) (c13:codeIn K cd13 "joined_truths" = true) (k13:keepIn K (.ref f13)=true)
  (a14:nsIn K mainGlobals "truths_of" = some (some (.ref f14))) (l14:K.lookup f14=some ⟨oc14,od14,.func (fnOf "truths_of" "truths_of" (yP wF) (zH wF) (zV wF) .none kV14 dc14 pm14 an14 cd14 ct14),sl14⟩) (c14:codeIn K cd14 "truths_of" = true) (k14:keepIn K (.ref f14)=true)
  (a15:nsIn K mainGlobals "bears" = some (some (.ref f15))) (l15:K.lookup f15=some ⟨oc15,od15,.func (fnOf "bears" "bears" (yP uA) (zH uA) (zV uA) .none kV15 dc15 pm15 an15 cd15 ct15),sl15⟩) (c15:codeIn K cd15 "bears" = true) (k15:keepIn K (.ref f15)=true)
  (a16:nsIn K mainGlobals "fails" = some (some (.ref f16))) (l16:K.lookup f16=some ⟨oc16,od16,.func (fnOf "fails" "fails" (yP uB) (zH uB) (zV uB) .none kV16 dc16 pm16 an16 cd16 ct16),sl16⟩) (c16:codeIn K cd16 "fails" = true) (k16:keepIn K (.ref f16)=true)
  (a17:nsIn K mainGlobals "true_by" = some (some (.ref f17))) (l17:K.lookup f17=some ⟨oc17,od17,.func (fnOf "true_by" "true_by" (yP jB) (zH jB) (zV jB) .none kV17 dc17 pm17 an17 cd17 ct17),sl17⟩) (c17:codeIn K cd17 "true_by" = true) (k17:keepIn K (.ref f17)=true)
  (a18:nsIn K mainGlobals "law" = some (some (.ref f18))) (l18:K.lookup f18=some ⟨oc18,od18,.func (fnOf "law" "law" (yP slaw) (zH slaw) (zV slaw) .none kV18 dc18 pm18 an18 cd18 ct18),sl18⟩) (c18:codeIn K cd18 "law" = true) (k18:keepIn K (.ref f18)=true)
  (z0:nsIn K mainGlobals "max" = some none)
  (z1:nsIn K mainGlobals "len" = some none)
  (z2:nsIn K mainGlobals "all" = some none)
  (z3:nsIn K mainGlobals "list" = some none)
  (z4:nsIn K mainGlobals "isinstance" = some none)
  (z5:nsIn K mainGlobals "sorted" = some none)
  (z6:nsIn K mainGlobals "tuple" = some none)
  (z7:nsIn K mainGlobals "int" = some none)
  (z8:nsIn K mainGlobals "repr" = some none)
  (z9:nsIn K mainGlobals "range" = some none)
  (z10:nsIn K mainGlobals "zip" = some none)
  (z11:nsIn K mainGlobals "enumerate" = some none)
  (z12:nsIn K mainGlobals "reversed" = some none)
  (z13:nsIn K mainGlobals "set" = some none)
  (z14:nsIn K mainGlobals "bool" = some none)
  (aS:nsIn K mainGlobals "sides_of" = some (some (.ref sA))) (lS:K.lookup sA=some ⟨ocS,odS,.func (fnOf "sides_of" "sides_of" (yP xY) (zH xY) (zV xY) .none kVS dcS pmS anS cdS ctS),slS⟩) (cS:codeIn K cdS "sides_of" = true) (kS:keepIn K (.ref sA)=true) :
  ∃ fd:FuncData,(∀ (s:Shared) (u:Value),BindsTo s fd ⟨[u],[]⟩ [("_law_script", u)])/\∀ base:Heap,K.In base->base.Ns mainGlobals mg->FnOk l.prog w K mg base CX0 117 fa fd ["_law_script"] (vY K gC):=by
 have e:=hfa.symm.trans (mg_of X G a18);cases e
 have T:Txt K mg sA:={
  deal:=⟨f1,mg_of X G a1,HD.mk' l1 c1 k1⟩
  draw:=⟨f2,mg_of X G a2,HD.mk' l2 c2 k2⟩
  names:=⟨f3,mg_of X G a3,HD.mk' l3 c3 k3⟩
  web:=⟨f4,mg_of X G a4,HD.mk' l4 c4 k4⟩
  saying:=⟨f5,mg_of X G a5,HD.mk' l5 c5 k5⟩
  spoilt:=⟨f6,mg_of X G a6,HD.mk' l6 c6 k6⟩
  ltrue:=⟨f7,mg_of X G a7,HD.mk' l7 c7 k7⟩
  borne:=⟨f8,mg_of X G a8,HD.mk' l8 c8 k8⟩
  sides:=⟨f9,mg_of X G a9,HD.mk' l9 c9 k9⟩
  within:=⟨f10,mg_of X G a10,HD.mk' l10 c10 k10⟩
  parts:=⟨f11,mg_of X G a11,HD.mk' l11 c11 k11⟩
  tif:=⟨f12,mg_of X G a12,HD.mk' l12 c12 k12⟩
  join:=⟨f13,mg_of X G a13,HD.mk' l13 c13 k13⟩
  truths:=⟨f14,mg_of X G a14,HD.mk' l14 c14 k14⟩
  bears:=⟨f15,mg_of X G a15,HD.mk' l15 c15 k15⟩
  fails:=⟨f16,mg_of X G a16,HD.mk' l16 c16 k16⟩
  trueby:=⟨f17,mg_of X G a17,HD.mk' l17 c17 k17⟩
  max:=mg_none_of X G z0
  len:=mg_none_of X G z1
  all:=mg_none_of X G z2
  list:=mg_none_of X G z3
  isi:=mg_none_of X G z4
  srt:=mg_none_of X G z5
  tup:=mg_none_of X G z6
  int:=mg_none_of X G z7
  rpr:=mg_none_of X G z8
  range:=mg_none_of X G z9
  zip:=mg_none_of X G z10
  enu:=mg_none_of X G z11
  rev:=mg_none_of X G z12
  set:=mg_none_of X G z13
  bool:=mg_none_of X G z14
  mgS:=mg_of X G aS
  hdS:=HD.mk' lS cS kS }
 obtain ⟨fd,hb,hF⟩:=zio (P:=l.prog) (w:=w) T (HD.mk' l18 c18 k18);exact ⟨fd,hb,fun base _ _=>hF base⟩
end K69
namespace PySem.W.Fast
def tw413206229773212669:=0
def tw13581375111351995645:=0
def tw7756259037421794648:=0
def tw7728835846063068066:=0
def tw16010929344271872444:=0
def tw13731486049785079413:=0
def tw12750444582145042864:=0
def tw17187976854478693439:=0
def tw2647366563271285840:=0
def tw5983660955818883416:=0
def tw16983672060414098917:=0
def tw4477922279552017890:=0
def tw8907947953266733023:=0
def tw13880609492821289888:=0
def tw12547942540063322824:=0
def tw17969877352962140912:=0
def tw10969310365137854528:=0
def tw10271993478426677737:=0
def tw17569830614616143158:=0
def tw13787847268049665457:=0
def tw14948282140862240838:=0
def tw892297619670554954:=0
def tw3892404381170265531:=0
def tw11988790757281798582:=0
def tw9003652331561390265:=0
def tw10914933621593407118:=0
def tw256712001640904883:=0
def tw8348822304349556872:=0
def tw4054817638991667868:=0
def tw1731058198827008545:=0
def tw10761335619211355637:=0
def tw16961425362013874541:=0
def tw14608811955184948913:=0
def tw17945399495200357786:=0
def tw2611831140974286672:=0
def tw14545544467588336811:=0
def tw9426461276450076437:=0
def tw9646700426515852068:=0
def tw12484842305935316861:=0
def tw14481262210210073897:=0
def tw11415592119395719436:=0
def tw10247354663522399080:=0
def tw15893656853424910966:=0
def tw14545544629711890472:=0
def tw10238795487031021027:=0
def tw13913861365743906783:=0
def tw6967664922224241024:=0
def tw2193568886516669521:=0
def tw8560107871505856209:=0
def tw17553469545215430573:=0
def tw17785081973338345928:=0
def tw14155851821495126711:=0
def tw15827709696268294472:=0
def tw8398686027672396826:=0
def tw629265004736477561:=0
def tw297280726583800896:=0
def tw7946461144888130138:=0
def tw5797540749670024559:=0
def tw6240734695378205448:=0
def tw4590184825388701366:=0
def tw7734702598280205984:=0
def tw9590798719250532666:=0
def tw15554979117243636077:=0
def tw12892806214190692267:=0
def tw5173862027020471533:=0
def tw6087105457137643910:=0
def tw7934147686056377946:=0
def tw9936196690917738491:=0
def tw9715262338586089840:=0
def tw3266624657670495589:=0
def tw4082418913589161105:=0
def tw10822054417846836135:=0
def tw13105193860728837629:=0
def tw284171807900331527:=0
def tw6992551326519795110:=0
def tw17465785183496317489:=0
def tw14479193143911384691:=0
def tw9244331183144597189:=0
def tw8732760034882545044:=0
def tw8572755878783868221:=0
def tw8526319354036609661:=0
def tw8032505177201976773:=0
def tw7535485562033000421:=0
def tw7049519232827226709:=0
def tw6571894029963068475:=0
def tw6163205964062636955:=0
def tw6093898234888939597:=0
def tw5956533015529351588:=0
def tw4378199457065593974:=0
def tw3966325936600255990:=0
end PySem.W.Fast
open PySem PySem.W PyProof.Rows
set_option maxRecDepth 100000 in
set_option maxHeartbeats 0 in
theorem PySem.Challenge.cw_talkcourt_k69_where_sayings_fail_holds : PySem.Challenge.rw_talkcourt_k69_where_sayings_fail.Holds := by
 w_on;o_law;k_head;(case hw=>w_witness2)
 k_fill
 refine L3.walk3 (l:=PySem.Challenge.rw_talkcourt_k69_where_sayings_fail) (k:=117) rfl rfl ⟨rfl,rfl,by decide,by decide⟩ (fun w h Y=>PySem.W.kIn_of Y) ?F
 case F =>
  intro w mg fa h KX G hmg;refine' K69.all_mk KX G hmg ?a1 ?l1 ?c1 ?k1 ?a2 ?l2 ?c2 ?k2 ?a3 ?l3 ?c3 ?k3 ?a4 ?l4 ?c4 ?k4 ?a5 ?l5 ?c5 ?k5 ?a6 ?l6 ?c6 ?k6 ?a7 ?l7 ?c7 ?k7 ?a8 ?l8 ?c8 ?k8 ?a9 ?l9 ?c9 ?k9 ?a10 ?l10 ?c10 ?k10 ?a11 ?l11 ?c11 ?k11 ?a12 ?l12 ?c12 ?k12 ?a13 ?l13 ?c13 ?k13 ?a14 ?l14 ?c14 ?k14 ?a15 ?l15 ?c15 ?k15 ?a16 ?l16 ?c16 ?k16 ?a17 ?l17 ?c17 ?k17 ?a18 ?l18 ?c18 ?k18 ?z0 ?z1 ?z2 ?z3 ?z4 ?z5 ?z6 ?z7 ?z8 ?z9 ?z10 ?z11 ?z12 ?z13 ?z14 ?aS ?lS ?cS ?kS
  case a1|l1|c1|k1|a2|l2|c2|k2|a3|l3|c3|k3|a4|l4|c4|k4|a5|l5|c5|k5|a6|l6|c6|k6|a7|l7|c7|k7|a8|l8|c8|k8|a9|l9|c9|k9|a10|l10|c10|k10|a11|l11|c11|k11|a12|l12|c12|k12|a13|l13|c13|k13|a14|l14|c14|k14|a15|l15|c15|k15|a16|l16|c16|k16|a17|l17|c17|k17|a18|l18|c18|k18|z0|z1|z2|z3|z4|z5|z6|z7|z8|z9|z10|z11|z12|z13|z14|aS|lS|cS|kS=>k_is
